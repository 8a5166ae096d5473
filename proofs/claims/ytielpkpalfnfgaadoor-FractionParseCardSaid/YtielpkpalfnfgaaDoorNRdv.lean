/- Contract of the reference's divide. -/
import Derived.Test.YtielpkpalfnfgaaDoorNWw
import Derived.Test.YtielpkpalfnfgaaDoorNMathC
import Derived.Laws.OwnMore
namespace Go.Proofs.YtielpkpalfnfgaaDoor
open Go.RowKit
set_option linter.unusedVariables false
set_option maxRecDepth 100000

theorem run_append_nil (t ty e : TypeId) (i : TypeInfo) (base size : Nat) (w : World) (ht : Tryd.prog.underlying t = some (.slice e)) (hi : Tryd.prog.info? e = some i)
    (v : Value) (n c : Nat) (xs : List Value) (hown : w.ownsRow base e size v n xs) :
    (Builtin.append_ #[t, t] ty #[v, .slice none 0 c]).run Tryd.prog w = .ok v w := by
  rcases hown.2 with ⟨rfl, rfl⟩ | ⟨g, cap, cur, rfl, _, _, hnc, _⟩
  · simp [Builtin.append_, run_underlying ht, sizeOf, typeInfo, hi, Builtin.lenOf, Builtin.firstCells]
  · simp [Builtin.append_, run_underlying ht, sizeOf, typeInfo, hi, Builtin.lenOf, Builtin.firstCells, hnc, storeCells]
/-- The block of an address is not older than B. -/
def Young (A : Option Addr) (B : Nat) : Prop := ∀ a, A = some a → B ≤ a.block
theorem own_young {w : World} {B n c : Nat} {A : Option Addr} {L : List Int} (h : w.ownsRow B 3 1 (.slice A n c) n (ints L)) : Young A B := by
  rintro a rfl
  rcases h.2 with ⟨e, _⟩ | ⟨g, cap, cur, e, hb, _⟩
  · injection e with e1; cases e1
  · injection e with e1; injection e1 with e1; subst e1; exact hb
theorem ints_set {w : World} {A : Option Addr} {L : List Int} {B g i : Nat} {v : Value} (h : IntsIn w A L) (hy : Young A B) (hg : g < B) : IntsIn (w.setCell ⟨g, i, none⟩ v) A L := by
  intro h0
  obtain ⟨b, off, rfl, hlt, hc⟩ := h h0
  have := hy _ rfl
  simp only at this
  exact ⟨b, off, rfl, by simpa [World.setCell] using hlt, fun j hj => (World.cell?_setCell_other _ _ _ _ (by first | (simp; done) | (simp; omega))).trans (hc j hj)⟩
/-- A list of a fresh row, and a further one behind it. -/
theorem append_lit (ty : TypeId) (w : World) (X L : List Int) (A : Option Addr) (n m c : Nat) (hX : X.length = m) (hn : L.length = n) (hm2 : m ≤ 100000) (hn2 : n ≤ 100000) (hA : IntsIn w A L) :
    ∃ A' c' w1, (Builtin.append_ #[22, 22] ty #[.slice (some ⟨w.heap.size, 0, none⟩) m m, .slice A n c]).run Tryd.prog (w.alloc (.cells (ints X).toArray 3)) = .ok (.slice A' (m + n) c') w1 ∧
      IntsIn w1 A' (X ++ L) ∧ m + n ≤ c' ∧ c' ≤ maxLen ∧ Below w.heap.size w w1 ∧ Young A' w.heap.size := by
  obtain ⟨i0, hi, hz0, hz1, hz2⟩ := info_parts Tryd.infoInt
  have hown : (w.alloc (.cells (ints X).toArray 3)).ownsRow w.heap.size 3 1 (.slice (some ⟨w.heap.size, 0, none⟩) m m) m (ints X) := by
    have := World.ownsRow_lit (base := w.heap.size) (e := 3) (size := 1) w (ints X).toArray m (Nat.le_refl _) (by unfold maxLen; omega) (by simp [ints, hX])
    simpa using this
  have hb : Below w.heap.size w (w.alloc (.cells (ints X).toArray 3)) := (Below.refl _ _).alloc (Nat.le_refl _) _
  by_cases h0 : n = 0
  · subst h0
    have hL : L = [] := List.eq_nil_of_length_eq_zero hn
    subst hL
    obtain ⟨A1, c1, he, hi1, hc1, hm1, _⟩ := own_ints hown
    injection he with e1 e2 e3
    subst e1; subst e3
    cases A with
    | none => exact ⟨_, _, _, run_append_nil 22 ty 3 i0 _ 1 _ Tryd.underlying22 hi _ m c _ hown, by simpa using hi1, by simp, hm1, hb, own_young hown⟩
    | some ad =>
      obtain ⟨v', w', hr, ho, hg, _⟩ := run_append_own (P := Tryd.prog) (w.alloc (.cells (ints X).toArray 3)) w.heap.size 22 ty 3 i0 (.int .i64 0) 1 8 Tryd.underlying22 hi hz0 hz1 hz2 rfl (by decide) _ m (ints X) hown ad 0 c [] rfl (fun j u hu => by simp at hu) (fun u hu => by cases hu) (by unfold maxLen; omega) (by omega) (by simp)
      rw [show ints X ++ [] = ints (X ++ []) by simp] at ho
      obtain ⟨A2, c2, rfl, hi2, hc2, hm2', _⟩ := own_ints ho
      exact ⟨A2, c2, w', hr, hi2, hc2, hm2', hb.grown hg (by simp) (fun k hk => by simp [Value.ownBlock] at hk; omega), own_young ho⟩
  · obtain ⟨ad, rfl, hsrc⟩ := ints_src (hA.below hb) (by rw [ints_len]; omega)
    obtain ⟨v', w', hr, ho, hg, _⟩ := run_append_own (P := Tryd.prog) (w.alloc (.cells (ints X).toArray 3)) w.heap.size 22 ty 3 i0 (.int .i64 0) 1 8 Tryd.underlying22 hi hz0 hz1 hz2 rfl (by decide) _ m (ints X) hown ad n c (ints L) (by simp [ints, hn]) hsrc (ints_one L) (by unfold maxLen; omega) (by omega) (by simp)
    rw [show ints X ++ ints L = ints (X ++ L) by simp [ints]] at ho
    obtain ⟨A2, c2, rfl, hi2, hc2, hm2', _⟩ := own_ints ho
    exact ⟨A2, c2, w', hr, hi2, hc2, hm2', hb.grown hg (by simp) (fun k hk => by simp [Value.ownBlock] at hk; omega), own_young ho⟩
theorem digs_len_mono {a b : Int} (h : a ≤ b) : (digs a).length ≤ (digs b).length := by
  have := lt_of_len (n := b) (k := (digs b).length) (Nat.le_refl _)
  exact digs_len_le (by omega)
/-- The walk passes an append whose run is known. -/
theorem wpList_append_run {P : Program} {w w' : World} {v' : Value} {ops : Array Oper} {rest : List Oper} {o : Oper} {a : Act} {Q : Exit → Act → World → Prop} (hgd : o.guard = none) (s x : Operand) (t : TypeId)
    (ho : o.op = .call { callee := .builtin .append, args := #[s, x], argTypes := #[t, t] }) (vs vx : Value) (hs : a.eval s = vs) (hx : a.eval x = vx) (hr : (Builtin.append_ #[t, t] o.type #[vs, vx]).run P w = .ok v' w')
    (h : wpList P ops Q rest (a.put o.dst v') w') : wpList P ops Q (o :: rest) a w :=
  wpList_plain hgd fun _ hK => by
    unfold Oper.wp execOp
    simp only [ho, resolve, invoke, builtin, Sem.run_bind, Sem.run_pure, Result.andThen_ok, List.map_toArray, List.map_cons, List.map_nil, hs, hx, hr]
    exact hK _ _ h
theorem append_one (ty : TypeId) (w : World) (x : Int) (L : List Int) (A : Option Addr) (n c : Nat) (hn : L.length = n) (hn2 : n ≤ 100000) (hA : IntsIn w A L) :
    ∃ A' c' w1, (Builtin.append_ #[22, 22] ty #[.slice (some ⟨w.heap.size, 0, none⟩) 1 1, .slice A n c]).run Tryd.prog (w.alloc (.cells #[.int .i64 x] 3)) = .ok (.slice A' (n + 1) c') w1 ∧
      IntsIn w1 A' (x :: L) ∧ n + 1 ≤ c' ∧ c' ≤ maxLen ∧ Below w.heap.size w w1 ∧ Young A' w.heap.size := by
  have := append_lit ty w [x] L A n 1 c rfl hn (by omega) hn2 hA
  rw [Nat.add_comm] at this
  simpa [ints] using this
/-- The state of divide with j places to come: the quotient's row, the rest. -/
def RDivSt (g na : Nat) (La : List Int) (y : Int) (W : World) (j : Nat) (v : Value) (wr : World) : Prop :=
  ∃ (D : List Int) (A : Option Addr) (c : Nat), D.length = na ∧ Dig D ∧ val (D.drop j) = val (La.drop j) / y ∧ v = .slice A (digs (val (La.drop j) % y)).length c ∧ IntsIn wr A (digs (val (La.drop j) % y)) ∧ (digs (val (La.drop j) % y)).length ≤ c ∧ c ≤ maxLen ∧ RowIs wr g 0 D ∧ Below g W wr ∧ g < wr.heap.size
theorem rdiv_round {g na i n c : Nat} {A : Option Addr} {D La : List Int} {y R q x : Int} {W wr w' : World} (hW : W.heap.size = g) (hD : D.length = na) (hdD : Dig D) (hv : val (D.drop (i + 1)) = val (La.drop (i + 1)) / y) (hi : i < na) (hla : La.length = na)
    (hR : R = La.getD i 0 + 10000 * (val (La.drop (i + 1)) % y)) (hy : 0 < y) (hq0 : 0 ≤ q) (hq1 : q < 10000) (h1 : y * q ≤ R) (h2 : R < y * (q + 1)) (hx : x = R - y * q) (hrow : RowIs wr g 0 D) (hbw : Below g W wr) (hgw : g < wr.heap.size)
    (hn : n = (digs x).length) (hin : IntsIn w' A (digs x)) (hc : n ≤ c) (hm : c ≤ maxLen) (hb : Below wr.heap.size (wr.setCell ⟨g, i, none⟩ (.int .i64 q)) w') : RDivSt g na La y W i (.slice A n c) w' := by
  obtain ⟨d1, d2⟩ := quot_at hy h1 h2
  obtain ⟨m1, m2⟩ := div_more (T := val (La.drop (i + 1))) (a := La.getD i 0) hy hR
  rw [← drop_cons (by omega)] at m1 m2
  have e : val (La.drop i) % y = x := by rw [m1, d2, hx]
  have hs : (wr.setCell ⟨g, i, none⟩ (.int .i64 q)).heap.size = wr.heap.size := by simp [World.setCell]
  rw [← e] at hn hin
  refine ⟨D.set i q, A, c, by simp [hD], ?_, ?_, by rw [hn], hin, by rw [← hn]; exact hc, hm, ?_, ?_, ?_⟩
  · intro z hz
    rcases List.mem_or_eq_of_mem_set hz with h | rfl
    · exact hdD z h
    · exact ⟨hq0, hq1⟩
  · rw [drop_set _ (by omega), val_cons, hv, m2, d1]
  · exact (hrow.set0 (by omega) q).below hb hgw
  · exact (hbw.setCell (p := ⟨g, i, none⟩) (Nat.le_refl _) _).trans (hb.mono (by omega))
  · have := hb.size; omega
theorem rdiv_end {g na : Nat} {La : List Int} {y x : Int} {W wr : World} {A : Option Addr} {c : Nat} {n : Nat} {D : List Int} (hD : D.length = na) (hdD : Dig D) (hvD : val D = x / y) (hi : IntsIn wr A (digs (x % y))) (hc : (digs (x % y)).length ≤ c) (hm : c ≤ maxLen)
    (hrow : RowIs wr g 0 D) (hb : Below g W wr) (hg : g < wr.heap.size) (hW : W.heap.size = g) (hna : na ≤ 10000) :
    Gives2 (x / y) (x % y) W (.returned (.tuple #[.slice (some ⟨g, 0, none⟩) (trimL D).length na, .slice A (digs (x % y)).length c])) wr := by
  have i1 := (hrow.ints hg).trim
  have t := trimL_digs hdD
  have l1 := (trimL_prefix D).2
  rw [hvD] at t
  rw [t] at i1 l1 ⊢
  exact ⟨_, _, _, _, rfl, i1, by omega, by unfold maxLen; omega, hi, hc, hm, by subst hW; exact hb⟩
def SeekSt (y R : Int) (B : Nat) (W : World) (lo hi : Int) (wr : World) : Prop := 0 ≤ lo ∧ lo ≤ hi ∧ hi ≤ 9999 ∧ y * lo ≤ R ∧ R < y * (hi + 1) ∧ Below B W wr
theorem val_one (q : Int) : val [q] = q := by simp [val]
theorem dig_one {q : Int} (h0 : 0 ≤ q) (h1 : q ≤ 9999) : Dig [q] := by intro z hz; simp at hz; subst hz; omega
theorem one_in (w : World) (q : Int) (g : Nat) (hg : w.heap.size = g) : IntsIn (w.alloc (.cells #[.int .i64 q] 3)) (some ⟨g, 0, none⟩) [q] := by
  have := ints_new' w g [q] 3 hg
  simpa [ints] using this
theorem rless2_any (na ca nb cb : Nat) (x z : Int) (Aa Ab : Option Addr) (W : World) (ha : na = (digs x).length) (hb : nb = (digs z).length) (hna : na ≤ 10000) (hz : 0 ≤ z) (hle : z ≤ x) (hA : IntsIn W Aa (digs x)) (hB : IntsIn W Ab (digs z)) :
    Calls Tryd.prog 48 #[.slice Aa na ca, .slice Ab nb cb] W (Gives (x - z) W) := by
  have := rless_any na ca nb cb (digs x) (digs z) Aa Ab W ha.symm hb.symm hna (by rw [ha, hb]; exact digs_len_mono hle) (dig_digs _) (dig_digs _) (by rw [val_digs hz, val_digs (by omega)]; exact hle) hA hB
  rwa [val_digs hz, val_digs (by omega)] at this
theorem rcmp2_any (x y : Int) (n c m d : Nat) (A B : Option Addr) (w : World) (hn : n = (digs x).length) (hm : m = (digs y).length) (hx : 0 ≤ x) (hy : 0 ≤ y) (hn63 : n ≤ maxLen) (hm63 : m ≤ maxLen) (hA : IntsIn w A (digs x)) (hB : IntsIn w B (digs y)) :
    Calls Tryd.prog 47 #[.slice A n c, .slice B m d] w fun e w' => e = .returned (.int .i64 (sgn (x - y))) ∧ ∃ q, w' = w.drewN q := by
  have := rcmp_any (digs x) (digs y) n c m d A B w hn.symm hm.symm hn63 hm63 hA hB
  rwa [cmpL_digs hx hy] at this
theorem rdiv_zero (g na : Nat) (La : List Int) (y : Int) (W : World) (hla : La.length = na) (hg : W.heap.size = g) : RDivSt g na La y W na (.slice none 0 0) (W.alloc (.cells (ints (List.replicate na 0)).toArray 3)) := by
  subst hg
  have e : La.drop na = [] := by rw [← hla]; exact List.drop_length
  refine ⟨List.replicate na 0, none, 0, by simp, Dig.zeros na, ?_, ?_, ?_, ?_, Nat.zero_le _, row_of_cells (heap_alloc_new W _), (Below.refl _ _).alloc (Nat.le_refl _) _, by simp⟩
  · rw [e, List.drop_replicate, val_zeros]; simp [val]
  · rw [e]; simp [val, digs_zero]
  · rw [e]; simp [val, digs_zero]; exact IntsIn.nil _ _
  · rw [e]; simp [val, digs_zero]
theorem seek_low {y R l h q : Int} {B : Nat} {W w w' : World} (hs : SeekSt y R B W l h w) (hlt : l < h) (hq : q = (l + h + 1) / 2) (hle : y * q ≤ R) (hb : Below w.heap.size w w') (hB : W.heap.size = B) : SeekSt y R B W q h w' ∧ (h - q).toNat < (h - l).toNat := by
  obtain ⟨s0, s1, s2, s3, s4, s5⟩ := hs
  subst hB
  exact ⟨⟨by omega, by omega, s2, hle, s4, btwo s5 hb⟩, by omega⟩
theorem seek_high {y R l h q : Int} {B : Nat} {W w w' : World} (hs : SeekSt y R B W l h w) (hlt : l < h) (hq : q = (l + h + 1) / 2) (hgt : R < y * q) (hb : Below w.heap.size w w') (hB : W.heap.size = B) : SeekSt y R B W l (q - 1) w' ∧ (q - 1 - l).toNat < (h - l).toNat := by
  obtain ⟨s0, s1, s2, s3, s4, s5⟩ := hs
  subst hB
  exact ⟨⟨s0, by omega, by omega, s3, by rw [show q - 1 + 1 = q by omega]; exact hgt, btwo s5 hb⟩, by omega⟩
end Go.Proofs.YtielpkpalfnfgaaDoor
