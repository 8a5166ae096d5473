/- Contract of the reference's divide. -/
import Derived.Test.YtkfkefgkepoaaaaGreatDoorNWw
import Derived.Test.YtkfkefgkepoaaaaGreatDoorNMathC
import Derived.Laws.OwnMore
namespace Go.Proofs.YtkfkefgkepoaaaaGreatDoor
open Go.RowKit
set_option linter.unusedVariables false
set_option maxRecDepth 100000

theorem run_append_nil (t ty e : TypeId) (i : TypeInfo) (base size : Nat) (w : World) (ht : Tryz.prog.underlying t = some (.slice e)) (hi : Tryz.prog.info? e = some i)
    (v : Value) (n c : Nat) (xs : List Value) (hown : w.ownsRow base e size v n xs) :
    (Builtin.append_ #[t, t] ty #[v, .slice none 0 c]).run Tryz.prog w = .ok v w := by
  rcases hown.2 with ⟨rfl, rfl⟩ | ⟨g, cap, cur, rfl, _, _, hnc, _⟩
  · simp [Builtin.append_, run_underlying ht, sizeOf, typeInfo, hi, Builtin.lenOf, Builtin.firstCells]
  · simp [Builtin.append_, run_underlying ht, sizeOf, typeInfo, hi, Builtin.lenOf, Builtin.firstCells, hnc, storeCells]
/-- The block of an address is not older than B. -/
def Young (A : Option Addr) (B : Nat) : Prop := ∀ a, A = some a → B ≤ a.block
theorem own_young {w : World} {B n c : Nat} {A : Option Addr} {L : List Int} (h : w.ownsRow B 3 1 (.slice A n c) n (ints L)) : Young A B := by
  rintro a rfl
  rcases h.2 with ⟨e, _⟩ | ⟨g, cap, cur, e, hb, _⟩
  · injection e with e1; cases e1
  · injection e with e1; injection e1 with e1; subst e1; exact hb
theorem ints_set {w : World} {A : Option Addr} {L : List Int} {B g i : Nat} {v : Value} (h : IntsIn w A L) (hy : Young A B) (hg : g < B) : IntsIn (w.setCell ⟨g, i, none⟩ v) A L := by
  intro h0
  obtain ⟨b, off, rfl, hlt, hc⟩ := h h0
  have := hy _ rfl
  simp only at this
  exact ⟨b, off, rfl, by simpa [World.setCell] using hlt, fun j hj => (World.cell?_setCell_other _ _ _ _ (by first | (simp; done) | (simp; omega))).trans (hc j hj)⟩
/-- A list of a fresh row, and a further one behind it. -/
theorem append_lit (ty : TypeId) (w : World) (X L : List Int) (A : Option Addr) (n m c : Nat) (hX : X.length = m) (hn : L.length = n) (hm2 : m ≤ 100000) (hn2 : n ≤ 100000) (hA : IntsIn w A L) :
    ∃ A' c' w1, (Builtin.append_ #[28, 28] ty #[.slice (some ⟨w.heap.size, 0, none⟩) m m, .slice A n c]).run Tryz.prog (w.alloc (.cells (ints X).toArray 3)) = .ok (.slice A' (m + n) c') w1 ∧
      IntsIn w1 A' (X ++ L) ∧ m + n ≤ c' ∧ c' ≤ maxLen ∧ Below w.heap.size w w1 ∧ Young A' w.heap.size := by
  obtain ⟨i0, hi, hz0, hz1, hz2⟩ := info_parts Tryz.infoInt
  have hown : (w.alloc (.cells (ints X).toArray 3)).ownsRow w.heap.size 3 1 (.slice (some ⟨w.heap.size, 0, none⟩) m m) m (ints X) := by
    have := World.ownsRow_lit (base := w.heap.size) (e := 3) (size := 1) w (ints X).toArray m (Nat.le_refl _) (by unfold maxLen; omega) (by simp [ints, hX])
    simpa using this
  have hb : Below w.heap.size w (w.alloc (.cells (ints X).toArray 3)) := (Below.refl _ _).alloc (Nat.le_refl _) _
  by_cases h0 : n = 0
  · subst h0
    have hL : L = [] := List.eq_nil_of_length_eq_zero hn
    subst hL
    obtain ⟨A1, c1, he, hi1, hc1, hm1, _⟩ := own_ints hown
    injection he with e1 e2 e3
    subst e1; subst e3
    cases A with
    | none => exact ⟨_, _, _, run_append_nil 28 ty 3 i0 _ 1 _ Tryz.underlying28 hi _ m c _ hown, by simpa using hi1, by simp, hm1, hb, own_young hown⟩
    | some ad =>
      obtain ⟨v', w', hr, ho, hg, _⟩ := run_append_own (P := Tryz.prog) (w.alloc (.cells (ints X).toArray 3)) w.heap.size 28 ty 3 i0 (.int .i64 0) 1 8 Tryz.underlying28 hi hz0 hz1 hz2 rfl (by decide) _ m (ints X) hown ad 0 c [] rfl (fun j u hu => by simp at hu) (fun u hu => by cases hu) (by unfold maxLen; omega) (by omega) (by simp)
      rw [show ints X ++ [] = ints (X ++ []) by simp] at ho
      obtain ⟨A2, c2, rfl, hi2, hc2, hm2', _⟩ := own_ints ho
      exact ⟨A2, c2, w', hr, hi2, hc2, hm2', hb.grown hg (by simp) (fun k hk => by simp [Value.ownBlock] at hk; omega), own_young ho⟩
  · obtain ⟨ad, rfl, hsrc⟩ := ints_src (hA.below hb) (by rw [ints_len]; omega)
    obtain ⟨v', w', hr, ho, hg, _⟩ := run_append_own (P := Tryz.prog) (w.alloc (.cells (ints X).toArray 3)) w.heap.size 28 ty 3 i0 (.int .i64 0) 1 8 Tryz.underlying28 hi hz0 hz1 hz2 rfl (by decide) _ m (ints X) hown ad n c (ints L) (by simp [ints, hn]) hsrc (ints_one L) (by unfold maxLen; omega) (by omega) (by simp)
    rw [show ints X ++ ints L = ints (X ++ L) by simp [ints]] at ho
    obtain ⟨A2, c2, rfl, hi2, hc2, hm2', _⟩ := own_ints ho
    exact ⟨A2, c2, w', hr, hi2, hc2, hm2', hb.grown hg (by simp) (fun k hk => by simp [Value.ownBlock] at hk; omega), own_young ho⟩
theorem digs_len_mono {a b : Int} (h : a ≤ b) : (digs a).length ≤ (digs b).length := by
  have := lt_of_len (n := b) (k := (digs b).length) (Nat.le_refl _)
  exact digs_len_le (by omega)
/-- The walk passes an append whose run is known. -/
theorem wpList_append_run {P : Program} {w w' : World} {v' : Value} {ops : Array Oper} {rest : List Oper} {o : Oper} {a : Act} {Q : Exit → Act → World → Prop} (hgd : o.guard = none) (s x : Operand) (t : TypeId)
    (ho : o.op = .call { callee := .builtin .append, args := #[s, x], argTypes := #[t, t] }) (vs vx : Value) (hs : a.eval s = vs) (hx : a.eval x = vx) (hr : (Builtin.append_ #[t, t] o.type #[vs, vx]).run P w = .ok v' w')
    (h : wpList P ops Q rest (a.put o.dst v') w') : wpList P ops Q (o :: rest) a w :=
  wpList_plain hgd fun _ hK => by
    unfold Oper.wp execOp
    simp only [ho, resolve, invoke, builtin, Sem.run_bind, Sem.run_pure, Result.andThen_ok, List.map_toArray, List.map_cons, List.map_nil, hs, hx, hr]
    exact hK _ _ h
theorem append_one (ty : TypeId) (w : World) (x : Int) (L : List Int) (A : Option Addr) (n c : Nat) (hn : L.length = n) (hn2 : n ≤ 100000) (hA : IntsIn w A L) :
    ∃ A' c' w1, (Builtin.append_ #[28, 28] ty #[.slice (some ⟨w.heap.size, 0, none⟩) 1 1, .slice A n c]).run Tryz.prog (w.alloc (.cells #[.int .i64 x] 3)) = .ok (.slice A' (n + 1) c') w1 ∧
      IntsIn w1 A' (x :: L) ∧ n + 1 ≤ c' ∧ c' ≤ maxLen ∧ Below w.heap.size w w1 ∧ Young A' w.heap.size := by
  have := append_lit ty w [x] L A n 1 c rfl hn (by omega) hn2 hA
  rw [Nat.add_comm] at this
  simpa [ints] using this
/-- The state of divide with j places to come: the quotient's row, the rest. -/
def RDivSt (g na : Nat) (La : List Int) (y : Int) (W : World) (j : Nat) (v : Value) (wr : World) : Prop :=
  ∃ (D : List Int) (A : Option Addr) (c : Nat), D.length = na ∧ Dig D ∧ val (D.drop j) = val (La.drop j) / y ∧ v = .slice A (digs (val (La.drop j) % y)).length c ∧ IntsIn wr A (digs (val (La.drop j) % y)) ∧ (digs (val (La.drop j) % y)).length ≤ c ∧ c ≤ maxLen ∧ RowIs wr g 0 D ∧ Below g W wr ∧ g < wr.heap.size
theorem rdiv_round {g na i n c : Nat} {A : Option Addr} {D La : List Int} {y R q x : Int} {W wr w' : World} (hW : W.heap.size = g) (hD : D.length = na) (hdD : Dig D) (hv : val (D.drop (i + 1)) = val (La.drop (i + 1)) / y) (hi : i < na) (hla : La.length = na)
    (hR : R = La.getD i 0 + 10000 * (val (La.drop (i + 1)) % y)) (hy : 0 < y) (hq0 : 0 ≤ q) (hq1 : q < 10000) (h1 : y * q ≤ R) (h2 : R < y * (q + 1)) (hx : x = R - y * q) (hrow : RowIs wr g 0 D) (hbw : Below g W wr) (hgw : g < wr.heap.size)
    (hn : n = (digs x).length) (hin : IntsIn w' A (digs x)) (hc : n ≤ c) (hm : c ≤ maxLen) (hb : Below wr.heap.size (wr.setCell ⟨g, i, none⟩ (.int .i64 q)) w') : RDivSt g na La y W i (.slice A n c) w' := by
  obtain ⟨d1, d2⟩ := quot_at hy h1 h2
  obtain ⟨m1, m2⟩ := div_more (T := val (La.drop (i + 1))) (a := La.getD i 0) hy hR
  rw [← drop_cons (by omega)] at m1 m2
  have e : val (La.drop i) % y = x := by rw [m1, d2, hx]
  have hs : (wr.setCell ⟨g, i, none⟩ (.int .i64 q)).heap.size = wr.heap.size := by simp [World.setCell]
  rw [← e] at hn hin
  refine ⟨D.set i q, A, c, by simp [hD], ?_, ?_, by rw [hn], hin, by rw [← hn]; exact hc, hm, ?_, ?_, ?_⟩
  · intro z hz
    rcases List.mem_or_eq_of_mem_set hz with h | rfl
    · exact hdD z h
    · exact ⟨hq0, hq1⟩
  · rw [drop_set _ (by omega), val_cons, hv, m2, d1]
  · exact (hrow.set0 (by omega) q).below hb hgw
  · exact (hbw.setCell (p := ⟨g, i, none⟩) (Nat.le_refl _) _).trans (hb.mono (by omega))
  · have := hb.size; omega
theorem rdiv_end {g na : Nat} {La : List Int} {y x : Int} {W wr : World} {A : Option Addr} {c : Nat} {n : Nat} {D : List Int} (hD : D.length = na) (hdD : Dig D) (hvD : val D = x / y) (hi : IntsIn wr A (digs (x % y))) (hc : (digs (x % y)).length ≤ c) (hm : c ≤ maxLen)
    (hrow : RowIs wr g 0 D) (hb : Below g W wr) (hg : g < wr.heap.size) (hW : W.heap.size = g) (hna : na ≤ 10000) :
    Gives2 (x / y) (x % y) W (.returned (.tuple #[.slice (some ⟨g, 0, none⟩) (trimL D).length na, .slice A (digs (x % y)).length c])) wr := by
  have i1 := (hrow.ints hg).trim
  have t := trimL_digs hdD
  have l1 := (trimL_prefix D).2
  rw [hvD] at t
  rw [t] at i1 l1 ⊢
  exact ⟨_, _, _, _, rfl, i1, by omega, by unfold maxLen; omega, hi, hc, hm, by subst hW; exact hb⟩
def SeekSt (y R : Int) (B : Nat) (W : World) (lo hi : Int) (wr : World) : Prop := 0 ≤ lo ∧ lo ≤ hi ∧ hi ≤ 9999 ∧ y * lo ≤ R ∧ R < y * (hi + 1) ∧ Below B W wr
theorem val_one (q : Int) : val [q] = q := by simp [val]
theorem dig_one {q : Int} (h0 : 0 ≤ q) (h1 : q ≤ 9999) : Dig [q] := by intro z hz; simp at hz; subst hz; omega
theorem one_in (w : World) (q : Int) (g : Nat) (hg : w.heap.size = g) : IntsIn (w.alloc (.cells #[.int .i64 q] 3)) (some ⟨g, 0, none⟩) [q] := by
  have := ints_new' w g [q] 3 hg
  simpa [ints] using this
/-- times, by a list of one digit. -/
theorem rtimes1_any (nb cb : Nat) (Lb : List Int) (y q : Int) (Ab : Option Addr) (W : World) (g : Nat) (hg : W.heap.size = g) (hb : Lb.length = nb) (hnb : nb ≤ 9000) (hdb : Dig Lb) (hv : val Lb = y) (h0 : 0 ≤ q) (h1 : q ≤ 9999) (hB : IntsIn W Ab Lb) :
    Calls Tryz.prog 78 #[.slice Ab nb cb, .slice (some ⟨g, 0, none⟩) 1 1] (W.alloc (.cells #[.int .i64 q] 3)) fun e w' => ∃ A c, e = .returned (.slice A (digs (y * q)).length c) ∧ IntsIn w' A (digs (y * q)) ∧ (digs (y * q)).length ≤ c ∧ c ≤ maxLen ∧ Below W.heap.size W w' := by
  refine (rtimes_any nb cb 1 1 Lb [q] Ab _ _ hb rfl (by omega) (by omega) hdb (dig_one h0 h1) (hB.below ((Below.refl _ _).alloc (Nat.le_refl _) _)) (one_in W q _ hg)).mono ?_
  rw [hv, val_one]
  rintro e w' ⟨A, c, he, hi, hc, hm, hbel⟩
  exact ⟨A, c, he, hi, hc, hm, ((Below.refl _ _).alloc (Nat.le_refl _) _).trans (hbel.mono (by simp))⟩
theorem rless2_any (na ca nb cb : Nat) (x z : Int) (Aa Ab : Option Addr) (W : World) (ha : na = (digs x).length) (hb : nb = (digs z).length) (hna : na ≤ 10000) (hz : 0 ≤ z) (hle : z ≤ x) (hA : IntsIn W Aa (digs x)) (hB : IntsIn W Ab (digs z)) :
    Calls Tryz.prog 74 #[.slice Aa na ca, .slice Ab nb cb] W (Gives (x - z) W) := by
  have := rless_any na ca nb cb (digs x) (digs z) Aa Ab W ha.symm hb.symm hna (by rw [ha, hb]; exact digs_len_mono hle) (dig_digs _) (dig_digs _) (by rw [val_digs hz, val_digs (by omega)]; exact hle) hA hB
  rwa [val_digs hz, val_digs (by omega)] at this
theorem rcmp2_any (x y : Int) (n c m d : Nat) (A B : Option Addr) (w : World) (hn : n = (digs x).length) (hm : m = (digs y).length) (hx : 0 ≤ x) (hy : 0 ≤ y) (hn63 : n ≤ maxLen) (hm63 : m ≤ maxLen) (hA : IntsIn w A (digs x)) (hB : IntsIn w B (digs y)) :
    Calls Tryz.prog 73 #[.slice A n c, .slice B m d] w fun e w' => e = .returned (.int .i64 (sgn (x - y))) ∧ ∃ q, w' = w.drewN q := by
  have := rcmp_any (digs x) (digs y) n c m d A B w hn.symm hm.symm hn63 hm63 hA hB
  rwa [cmpL_digs hx hy] at this
theorem rdiv_zero (g na : Nat) (La : List Int) (y : Int) (W : World) (hla : La.length = na) (hg : W.heap.size = g) : RDivSt g na La y W na (.slice none 0 0) (W.alloc (.cells (ints (List.replicate na 0)).toArray 3)) := by
  subst hg
  have e : La.drop na = [] := by rw [← hla]; exact List.drop_length
  refine ⟨List.replicate na 0, none, 0, by simp, Dig.zeros na, ?_, ?_, ?_, ?_, Nat.zero_le _, row_of_cells (heap_alloc_new W _), (Below.refl _ _).alloc (Nat.le_refl _) _, by simp⟩
  · rw [e, List.drop_replicate, val_zeros]; simp [val]
  · rw [e]; simp [val, digs_zero]
  · rw [e]; simp [val, digs_zero]; exact IntsIn.nil _ _
  · rw [e]; simp [val, digs_zero]
theorem seek_low {y R l h q : Int} {B : Nat} {W w w' : World} (hs : SeekSt y R B W l h w) (hlt : l < h) (hq : q = (l + h + 1) / 2) (hle : y * q ≤ R) (hb : Below w.heap.size w w') (hB : W.heap.size = B) : SeekSt y R B W q h w' ∧ (h - q).toNat < (h - l).toNat := by
  obtain ⟨s0, s1, s2, s3, s4, s5⟩ := hs
  subst hB
  exact ⟨⟨by omega, by omega, s2, hle, s4, btwo s5 hb⟩, by omega⟩
theorem seek_high {y R l h q : Int} {B : Nat} {W w w' : World} (hs : SeekSt y R B W l h w) (hlt : l < h) (hq : q = (l + h + 1) / 2) (hgt : R < y * q) (hb : Below w.heap.size w w') (hB : W.heap.size = B) : SeekSt y R B W l (q - 1) w' ∧ (q - 1 - l).toNat < (h - l).toNat := by
  obtain ⟨s0, s1, s2, s3, s4, s5⟩ := hs
  subst hB
  exact ⟨⟨s0, by omega, by omega, s3, by rw [show q - 1 + 1 = q by omega]; exact hgt, btwo s5 hb⟩, by omega⟩
set_option maxHeartbeats 2000000 in
theorem rdivide_any (na ca nb cb : Nat) (x y : Int) (Aa Ab : Option Addr) (W : World) (ha : (digs x).length = na) (hb : (digs y).length = nb) (hna : na ≤ 10000) (hnb : nb ≤ 9000) (hx : 0 ≤ x) (hy : 0 < y)
    (hA : IntsIn W Aa (digs x)) (hB : IntsIn W Ab (digs y)) :
    Calls Tryz.prog 94 #[.slice Aa na ca, .slice Ab nb cb] W (Gives2 (x / y) (x % y) W) := by
  obtain ⟨La, hLa⟩ : ∃ L, L = digs x := ⟨_, rfl⟩
  obtain ⟨Lb, hLb⟩ : ∃ L, L = digs y := ⟨_, rfl⟩
  have hdla : Dig La := by rw [hLa]; exact dig_digs x
  have hdlb : Dig Lb := by rw [hLb]; exact dig_digs y
  have hvx : val La = x := by rw [hLa]; exact val_digs hx
  have hvy : val Lb = y := by rw [hLb]; exact val_digs (by omega)
  rw [← hLa] at ha hA
  rw [← hLb] at hb hB
  have HA := Lib.hid hA
  have HB := Lib.hid hB
  have HLA := Lib.hid ha
  have HLB := Lib.hid hb
  have HDA := Lib.hid hdla
  have HDB := Lib.hid hdlb
  have HVX := Lib.hid hvx
  have HVY := Lib.hid hvy
  have HYB := Lib.hid (show (digs y).length ≤ 9000 by rw [← hLb, hb]; exact hnb)
  have HZ := Lib.hid (rdiv_zero W.heap.size na La y W ha rfl)
  have hmk := make_eq (na : Int) na rfl (by omega)
  clear hA hB ha hb hdla hdlb hvx hvy hLa hLb
  go_enter Tryz.func94, Tryz.ntmps94
  go_wp2
  go_loopw [7, 8] (fun rv iv wr => ∃ (j : Nat) (a : Int), j ≤ na ∧ a = (j : Int) - 1 ∧ iv = .int .i64 a ∧ RDivSt W.heap.size na La y W j rv wr) (fun _ iv _ => (intOf iv + 1).toNat)
  case atStart => exact ⟨na, _, Nat.le_refl _, rfl, rfl, HZ.out⟩
  case round =>
    obtain ⟨j, a, hj, ha, rfl, D, A, c, hD, hdD, hv, rfl, hin, hc, hm, hrow, hbw, hg⟩ := hrel
    cases j with
    | zero =>
      obtain rfl : a = -1 := by omega
      rw [List.drop_zero, HVX.out] at hin hc
      rw [List.drop_zero, List.drop_zero, HVX.out] at hv
      have G := Lib.hid (rdiv_end (La := La) (n := 0) hD hdD hv hin hc hm hrow hbw hg rfl hna)
      have HDD := Lib.hid hD
      have HI := Lib.hid (hrow.ints hg)
      rw [List.drop_zero, HVX.out]
      clear ha hD hdD hv hin hrow hbw hc
      obtain ⟨n, hn⟩ : ∃ n, n = (digs (x % y)).length := ⟨_, rfl⟩
      rw [← hn] at G ⊢
      clear hn
      go_wp2_with fail
      refine (rtrim_any D na na _ _ HDD.out (Nat.le_refl _) (by unfold maxLen; omega) HI.out).mono ?_
      rintro e w4 ⟨rfl, rfl⟩
      go_wp2_with fail
      go_ret2
      exact G.out
    | succ i =>
      obtain rfl : a = (i : Int) := by omega
      clear ha
      obtain ⟨wp, rfl⟩ : ∃ wp : World, wp = wr := ⟨_, rfl⟩
      have hi : i < na := by omega
      have hbW : Below W.heap.size W wp := hbw
      obtain ⟨b, off, rfl, hbb, hcc⟩ := (HA.out.below hbW) (by rw [HLA.out]; omega)
      have hcell := hcc i (by rw [HLA.out]; exact hi)
      obtain ⟨x1, hx1⟩ : ∃ x1, x1 = La.getD i 0 := ⟨_, rfl⟩
      obtain ⟨hx10, hx11⟩ : 0 ≤ x1 ∧ x1 < 10000 := by rw [hx1]; exact HDA.out.at i
      rw [← hx1] at hcell
      obtain ⟨T, hT⟩ : ∃ T, T = val (La.drop (i + 1)) := ⟨_, rfl⟩
      rw [← hT] at hv hin hc ⊢
      obtain ⟨R, hR⟩ : ∃ R, R = x1 + 10000 * (T % y) := ⟨_, rfl⟩
      have hRlt := rest_lt hy hx11 hR
      have hRge := rest_ge hy hx10 hR
      have hml := Int.emod_lt_of_pos T hy
      have hml0 := Int.emod_nonneg T (show y ≠ 0 by omega)
      have hTn : (digs (T % y)).length ≤ 9000 := Nat.le_trans (digs_len_mono (Int.le_of_lt hml)) HYB.out
      obtain ⟨n, hn⟩ : ∃ n, n = (digs (T % y)).length := ⟨_, rfl⟩
      rw [← hn] at hc hTn ⊢
      obtain ⟨A1, c1, w1, hrun, hi1, hc1, hm1, hb1, hy1⟩ := append_one 28 wp x1 (digs (T % y)) A n c hn.symm (by omega) hin
      have hdR : Dig (x1 :: digs (T % y)) := Dig.cons.2 ⟨⟨hx10, hx11⟩, dig_digs _⟩
      have htr : trimL (x1 :: digs (T % y)) = digs R := by rw [trimL_digs hdR, val_cons, val_digs hml0, hR]
      have hlen1 : (x1 :: digs (T % y)).length = n + 1 := by rw [List.length_cons, hn]
      have hi1R : IntsIn w1 A1 (digs R) := by have := hi1.trim; rwa [htr] at this
      have hlR : (digs R).length ≤ n + 1 := by rw [← htr, ← hlen1]; exact (trimL_prefix _).2
      have HY1 := Lib.hid hy1
      have HX1 := Lib.hid hx1
      have HT := Lib.hid hT
      have HR := Lib.hid hR
      have HTR := Lib.hid htr
      have HL1 := Lib.hid hlen1
      have HI1 := Lib.hid hi1
      have HIR := Lib.hid hi1R
      have HD := Lib.hid hD
      have HDD := Lib.hid hdD
      have HV := Lib.hid hv
      have HROW := Lib.hid hrow
      have HBW := Lib.hid hbw
      have HB1 := Lib.hid hb1
      have HBw1 := Lib.hid (show Below W.heap.size W w1 from btwo hbW hb1)
      have HG := Lib.hid hg
      have hg1 : W.heap.size < w1.heap.size := by have := hb1.size; omega
      clear hy1 hcc hx1 hT hR hn hi1 htr hlen1 hi1R hD hdD hv hrow hbw hb1 hg hin hdR hml hml0 hbW
      go_wp2_with (first | (go_at_call 91; fail) | (at_builtin; refine wpList_append_run rfl _ _ 28 rfl _ _ rfl rfl hrun ?_))
      refine (rtrim_any (x1 :: digs (T % y)) (n + 1) c1 A1 _ HL1.out hc1 hm1 HI1.out).mono ?_
      rintro e w' ⟨rfl, rfl⟩
      rw [HTR.out]
      obtain ⟨k, hk⟩ : ∃ k, k = (digs R).length := ⟨_, rfl⟩
      rw [← hk] at hlR ⊢
      have HK := Lib.hid hk
      clear hk
      clear hcell hrun
      go_wp2
      obtain ⟨wo, rfl⟩ : ∃ wo : World, wo = w1 := ⟨_, rfl⟩
      go_loopw [9, 10] (fun lo hi w2 => ∃ l h : Int, lo = .int .i64 l ∧ hi = .int .i64 h ∧ SeekSt y R wo.heap.size wo l h w2) (fun lo hi _ => (intOf hi - intOf lo).toNat)
      case atStart => exact ⟨0, 9999, rfl, rfl, by omega, by omega, by omega, by omega, by omega, Below.refl _ _⟩
      case round =>
        obtain ⟨l, h, rfl, rfl, hst⟩ := hrel
        have HST := Lib.hid hst
        obtain ⟨s0, s1, s2, s3, s4, s5⟩ := hst
        have HBL := Lib.hid (HB.out.below (btwo HBw1.out s5))
        have HRL := Lib.hid (HIR.out.below s5)
        have HS5 := Lib.hid s5
        have hk9 : k ≤ maxLen := by unfold maxLen; omega
        have k3b : (digs (y * l)).length ≤ (digs R).length := digs_len_mono s3
        by_cases hlh : l < h
        · obtain ⟨q, hq⟩ : ∃ q, q = (l + h + 1) / 2 := ⟨_, rfl⟩
          have hq0 : 0 ≤ q := by omega
          have hq1 : q ≤ 9999 := by omega
          have hql : l < q := by omega
          have hqh : q ≤ h := by omega
          have HQ := Lib.hid hq
          have hyq := Int.mul_nonneg (Int.le_of_lt hy) hq0
          have HYQ := Lib.hid hyq
          have e1 : (l + h + 1) / 2 = q := hq.symm
          clear s3 s4 s5 k3b hyq hq
          go_wp2_with fail
          refine (rtimes1_any nb cb Lb y q Ab wr wr.heap.size rfl HLB.out hnb HDB.out HVY.out hq0 hq1 HBL.out).mono ?_
          rintro e w3 ⟨A3, c3, rfl, hi3, hl3, hm3, hb3⟩
          clear e1
          obtain ⟨k3, hk3⟩ : ∃ k, k = (digs (y * q)).length := ⟨_, rfl⟩
          rw [← hk3] at hl3 ⊢
          have HI3 := Lib.hid hi3
          have HK3 := Lib.hid hk3
          have HB3 := Lib.hid hb3
          have HR3 := Lib.hid (HRL.out.below hb3)
          clear hi3 hk3 hb3
          go_wp2_with fail
          refine (rcmp2_any (y * q) R k3 c3 k c1 A3 A1 _ HK3.out HK.out HYQ.out hRge (Nat.le_trans hl3 hm3) hk9 HI3.out HR3.out).mono ?_
          rintro e w4 ⟨rfl, q4, rfl⟩
          by_cases hle : y * q ≤ R
          · obtain ⟨s, hs⟩ : ∃ s, s = sgn (y * q - R) := ⟨_, rfl⟩
            have hs0 : s ≤ 0 := by rw [hs]; exact sgn_le (by omega)
            have M := Lib.hid (seek_low HST.out hlh HQ.out hle (bdr HB3.out q4) rfl)
            rw [← hs]
            clear hs hle
            go_wp2
            go_roundw
            case rel => exact ⟨q, h, by rw [HQ.out], rfl, M.out.1⟩
            case measure => simp [intOf]; omega
          · have hs : sgn (y * q - R) = 1 := sgn_gt (by omega)
            have M := Lib.hid (seek_high HST.out hlh HQ.out (by omega) (bdr HB3.out q4) rfl)
            rw [hs]
            clear hs hle
            go_wp2
            go_roundw
            case rel => exact ⟨l, q - 1, rfl, by rw [HQ.out], M.out.1⟩
            case measure => simp [intOf]; omega
        · obtain rfl : h = l := by omega
          have hrw := HROW.out.below (btwo HB1.out s5) HG.out
          obtain ⟨hcl, hfz⟩ := hrw i (by rw [HD.out]; exact hi)
          rw [Nat.zero_add] at hcl hfz
          obtain ⟨d0, hd0⟩ : ∃ d, d = D.getD i 0 := ⟨_, rfl⟩
          rw [← hd0] at hcl
          have HBs := Lib.hid (show Below W.heap.size W wr from btwo HBw1.out s5)
          have HGw : W.heap.size < wr.heap.size := by have := s5.size; omega
          have HRW := Lib.hid hrw
          have hyl := Int.mul_nonneg (Int.le_of_lt hy) s0
          have HYL := Lib.hid hyl
          have HLE := Lib.hid s3
          have HLT := Lib.hid s4
          have hsz : (wr.setCell ⟨W.heap.size, i, none⟩ (.int .i64 h)).heap.size = wr.heap.size := by simp [World.setCell]
          have HSZ := Lib.hid hsz
          have hbs : Below W.heap.size W (wr.setCell ⟨W.heap.size, i, none⟩ (.int .i64 h)) := HBs.out.setCell (p := ⟨W.heap.size, i, none⟩) (Nat.le_refl _) _
          have HBS := Lib.hid hbs
          have HBL2 := Lib.hid (HB.out.below hbs)
          have HRL2 := Lib.hid (ints_set (i := i) (v := .int .i64 h) HRL.out HY1.out HG.out)
          clear hd0 hrw s3 s4 s5 hyl k3b hsz hbs
          go_wp2_with fail
          refine (rtimes1_any nb cb Lb y h Ab _ wr.heap.size HSZ.out HLB.out hnb HDB.out HVY.out s0 (by omega) HBL2.out).mono ?_
          rintro e w3 ⟨A3, c3, rfl, hi3, hl3, hm3, hb3⟩
          obtain ⟨k3, hk3⟩ : ∃ k, k = (digs (y * h)).length := ⟨_, rfl⟩
          rw [← hk3] at hl3 ⊢
          have HI3 := Lib.hid hi3
          have HK3 := Lib.hid hk3
          have HB3 := Lib.hid hb3
          have HR3 := Lib.hid (HRL2.out.below hb3)
          clear hi3 hk3 hb3 hcl hfz
          go_wp2_with fail
          refine (rless2_any k c1 k3 c3 R (y * h) A1 A3 _ HK.out HK3.out (by omega) HYL.out HLE.out HR3.out HI3.out).mono ?_
          rintro e w4 ⟨A4, c4, rfl, hi4, hl4, hm4, hb4⟩
          obtain ⟨k4, hk4⟩ : ∃ k, k = (digs (R - y * h)).length := ⟨_, rfl⟩
          rw [← hk4] at hl4 ⊢
          have F := Lib.hid (rdiv_round (La := La) (x := R - y * h) (q := h) (w' := w4) rfl HD.out HDD.out (by rw [← HT.out]; exact HV.out) hi HLA.out (by rw [← HX1.out, ← HT.out]; exact HR.out) hy s0 (by omega) HLE.out HLT.out rfl HRW.out HBs.out HGw hk4 hi4 hl4 hm4 (by rw [← HSZ.out]; exact btwo HB3.out hb4))
          clear hi4 hk4 hb4
          go_wp2_with fail
          go_roundw
          case rel => exact ⟨i, _, by omega, rfl, rfl, F.out⟩
          case measure => simp [intOf]
end Go.Proofs.YtkfkefgkepoaaaaGreatDoor
