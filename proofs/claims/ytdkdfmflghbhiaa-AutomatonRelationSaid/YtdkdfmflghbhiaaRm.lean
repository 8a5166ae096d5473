/- Appends of a whole list. Contracts of the second implementation: two automata, what accepts; small automata. -/
import Derived.Test.YtdkdfmflghbhiaaQw
import Derived.Maps.AppendAt
namespace Go.Proofs.Ytdkdfmflghbhiaa
open Go.RowKit
set_option linter.unusedVariables false
set_option linter.unusedSimpArgs false
set_option maxRecDepth 100000

theorem Hp.litm {W w : World} {l : List Itm} (h : Hp W l w) (e : TypeId) (size n : Nat) (cs : List Value) (hl : cs.length = n * size) (hn : n ≤ 1000000) : Hp W (⟨e, size, .slice (some ⟨w.heap.size, 0, none⟩) n n, n, cs⟩ :: l) (w.alloc (.cells cs.toArray e)) := by
  refine h.new _ (bnew _ _) ?_ (fun k hk => by simp [Value.ownBlock] at hk; omega)
  have := World.ownsRow_lit (base := W.heap.size) (e := e) (size := size) w cs.toArray n h.below.size (by unfold maxLen; omega) (by simpa using hl)
  simpa using this
/-! ### The answers at the example -/
/-- The cells of a slice behind the cells of a row. -/
theorem run_cat {W w : World} {l : List Itm} {i : Nat} {it : Itm} (h : Hp W l w) (hi : l[i]? = some it) {t : TypeId} (ty : TypeId) {z : Value} {bytes : Nat} (ht : Try.prog.underlying t = some (.slice it.e))
    (hinf : (Try.prog.info? it.e).map (fun i => (i.zero, i.size, i.bytes)) = some (some z, it.size, bytes)) (hzs : z.cells.size = it.size) (hsz : 0 < it.size) (hby : bytes ≤ 32)
    {A : Option Addr} {c : Nat} (hv : it.v = .slice A it.n c) {B : Option Addr} {m d : Nat} (news : List Value) (hl : news.length = m * it.size) (hc : CellsIn w B news) (h1 : ∀ u ∈ news, u.oneCell' = true) (hn : it.n ≤ 2000000000000) (hm : m ≤ 2000000000000) :
    ∃ A2 c2 w', (Builtin.append_ #[t, t] ty #[.slice A it.n c, .slice B m d]).run Try.prog w = .ok (.slice A2 (it.n + m) c2) w' ∧
      Hp W (l.set i { it with v := .slice A2 (it.n + m) c2, n := it.n + m, xs := it.xs ++ news }) w' ∧ w.grownBy w' it.v.ownBlock := by
  obtain ⟨i0, hi0, hz0, hz1, hz2⟩ := info_parts hinf
  have hown := h.own i it hi
  by_cases h0 : m = 0
  · subst h0
    have hnews : news = [] := List.eq_nil_of_length_eq_zero (by rw [hl, Nat.zero_mul])
    subst hnews
    cases B with
    | some ad =>
      obtain ⟨v', w', hr, ho, hg, _, hat⟩ := run_append_own_at (P := Try.prog) w W.heap.size t ty it.e i0 z it.size bytes ht hi0 hz0 hz1 hz2 hzs hsz (.slice A it.n c) it.n it.xs (by rw [← hv]; exact hown) ad 0 d [] (by simp)
        (fun j u hu => by simp at hu) (fun u hu => by cases hu) (by unfold maxLen; omega) (by
          have := Nat.mul_le_mul (show it.n + 0 ≤ 4000000000000 by omega) hby
          omega) h.below.size
      obtain ⟨A2, c2, rfl⟩ : ∃ A2 c2, v' = .slice A2 (it.n + 0) c2 := by
        rcases ho.2 with ⟨e, e2⟩ | ⟨g, cap, cur, e, _⟩
        · exact ⟨none, 0, by rw [e2]; exact e⟩
        · exact ⟨_, cap, e⟩
      refine ⟨A2, c2, w', hr, ?_, by rw [hv]; exact hg⟩
      refine h.upd hi _ (by rw [hv]; exact hg) ho (fun k hk => ?_)
      rcases hat with e | e
      · exact .inl (by rw [hv, ← e]; exact hk)
      · refine .inr ?_
        have hk2 : (Value.slice A2 (it.n + 0) c2).ownBlock = some k := hk
        rw [e] at hk2
        injection hk2 with hk2
        omega
    | none =>
    have hr : (Builtin.append_ #[t, t] ty #[.slice A it.n c, .slice none 0 d]).run Try.prog w = .ok (.slice A it.n c) w := by
      rw [hv] at hown
      rcases hown.2 with ⟨e, e2⟩ | ⟨g, cap, cur, e, _, _, hnc, _⟩
      · rw [e2] at e ⊢
        injection e with e1 e3 e4
        subst e1; subst e4
        simp [Builtin.append_, run_underlying ht, sizeOf, typeInfo, hi0, Builtin.lenOf, Builtin.firstCells]
      · injection e with e1 e3 e4
        subst e1; subst e4
        simp [Builtin.append_, run_underlying ht, sizeOf, typeInfo, hi0, Builtin.lenOf, Builtin.firstCells, hnc, storeCells]
    refine ⟨A, c, w, hr, ?_, ⟨rfl, rfl, rfl, Nat.le_refl _, fun _ _ _ => rfl⟩⟩
    have := h.upd (w' := w) hi { it with v := .slice A (it.n + 0) c, n := it.n + 0, xs := it.xs ++ [] } ⟨rfl, rfl, rfl, Nat.le_refl _, fun _ _ _ => rfl⟩ (by rw [List.append_nil, Nat.add_zero, ← hv]; exact hown) (fun k hk => .inl (by rw [hv]; exact hk))
    exact this
  · have hpos : 0 < news.length := by rw [hl]; exact Nat.mul_pos (by omega) hsz
    obtain ⟨b, off, rfl, hlt, hcell⟩ := hc hpos
    obtain ⟨g, cap, w', hr, ho, hg, hat, _⟩ := run_append_lies (P := Try.prog) w t ty W.heap.size it.e i0 z it.size bytes ht hi0 hz0 hz1 hz2 hzs hsz (.slice A it.n c) it.n it.xs (by rw [← hv]; exact hown) ⟨b, off, none⟩ m d news hl
      (fun j u hu => by
        have e : (⟨b, off, none⟩ : Addr).add j = ⟨b, off + j, none⟩ := by unfold Addr.add; split <;> simp_all
        rw [e]; exact hcell j u hu) h1 (by omega) (by unfold maxLen; omega) (by
          have := Nat.mul_le_mul (show it.n + m ≤ 4000000000000 by omega) hby
          omega) h.below.size _ rfl
    refine ⟨_, cap, w', hr, ?_, by rw [hv]; exact hg⟩
    refine h.upd hi _ (by rw [hv]; exact hg) ho (fun k hk => ?_)
    simp [Value.ownBlock] at hk
    subst hk
    rcases hat with e | e
    · exact .inl (by rw [hv]; exact e)
    · exact .inr (by omega)
theorem ints_one' (L : List Int) : ∀ u ∈ ints L, u.oneCell' = true := fun u hu => by
  obtain ⟨x, _, rfl⟩ := List.mem_map.1 hu
  rfl
theorem bools_one' (L : List Bool) : ∀ u ∈ bools L, u.oneCell' = true := fun u hu => by
  obtain ⟨x, _, rfl⟩ := List.mem_map.1 hu
  rfl
/-- A list behind a list of one number. -/
theorem run_cat_nums {W w : World} {l : List Itm} {i : Nat} {A : Option Addr} {n c : Nat} {L : List Int} (h : Hp W l w) (hi : l[i]? = some (nums A n c L)) (ty : TypeId) {B : Option Addr} {m d : Nat} (X : List Int) (hX : X.length = m) (hc : CellsIn w B (ints X)) (hn : n ≤ 2000000000000) (hm : m ≤ 2000000000000) :
    ∃ A2 c2 w', (Builtin.append_ #[39, 39] ty #[.slice A n c, .slice B m d]).run Try.prog w = .ok (.slice A2 (n + m) c2) w' ∧ Hp W (l.set i (nums A2 (n + m) c2 (L ++ X))) w' ∧ w.grownBy w' (Value.slice A n c).ownBlock := by
  have := run_cat h hi (t := 39) ty Try.underlying39 int_info rfl (Nat.zero_lt_one) (by decide) (A := A) (c := c) rfl (B := B) (m := m) (d := d) (ints X) (by rw [ints_len, hX]; exact (Nat.mul_one m).symm) hc (ints_one' X) hn hm
  simpa [nums, ints] using this
theorem run_cat_flags {W w : World} {l : List Itm} {i : Nat} {A : Option Addr} {n c : Nat} {L : List Bool} (h : Hp W l w) (hi : l[i]? = some (flags A n c L)) (ty : TypeId) {B : Option Addr} {m d : Nat} (X : List Bool) (hX : X.length = m) (hc : CellsIn w B (bools X)) (hn : n ≤ 2000000000000) (hm : m ≤ 2000000000000) :
    ∃ A2 c2 w', (Builtin.append_ #[23, 23] ty #[.slice A n c, .slice B m d]).run Try.prog w = .ok (.slice A2 (n + m) c2) w' ∧ Hp W (l.set i (flags A2 (n + m) c2 (L ++ X))) w' ∧ w.grownBy w' (Value.slice A n c).ownBlock := by
  have := run_cat h hi (t := 23) ty Try.underlying23 bool_info rfl (Nat.zero_lt_one) (by decide) (A := A) (c := c) rfl (B := B) (m := m) (d := d) (bools X) (by rw [bools_len, hX]; exact (Nat.mul_one m).symm) hc (bools_one' X) hn hm
  simpa [flags, bools] using this
set_option maxHeartbeats 4000000 in
theorem rboth_any (x y : DV) (A B : Au) (w : World) (hA : DfaIn w x A) (hB : DfaIn w y B) :
    Calls Try.prog 27 #[dval x A, dval y B] w fun e w' => e = .returned (.int .i64 (Au.pE A B)) ∧ Below w.heap.size w w' := by
  have HA := Lib.hid hA
  have HB := Lib.hid hB
  clear hA hB
  obtain ⟨wz, hwz⟩ : ∃ z, z = ((w.alloc (.cells #[.int .i64 A.lt, .int .i64 A.st, .slice x.A x.n x.c, .slice x.B x.m x.d] 25)).alloc (.cells #[.int .i64 B.lt, .int .i64 B.st, .slice y.A y.n y.c, .slice y.B y.m y.d] 25)) := ⟨_, rfl⟩
  have V := Lib.hid (show Hp w [box 25 (w.heap.size + 1) [.int .i64 B.lt, .int .i64 B.st, .slice y.A y.n y.c, .slice y.B y.m y.d], box 25 w.heap.size [.int .i64 A.lt, .int .i64 A.st, .slice x.A x.n x.c, .slice x.B x.m x.d]] wz by
    have := (((Hp.start w).box_new 25 [.int .i64 A.lt, .int .i64 A.st, .slice x.A x.n x.c, .slice x.B x.m x.d]).box_new 25 [.int .i64 B.lt, .int .i64 B.st, .slice y.A y.n y.c, .slice y.B y.m y.d])
    rw [hwz]; simpa using this)
  have HZ := Lib.hid hwz
  clear hwz
  by_cases h1 : A.vE = 0
  case neg =>
    have h1 : A.vE = 1 := by rcases A.vE_cases with e | e; exact absurd e h1; exact e
    have HE := Lib.hid (show Au.pE A B = 1 from if_neg (fun e => by omega))
    have HV := Lib.hid h1
    clear h1
    go_enter Try.func27, Try.ntmps27
    go_upto_region 1 with fail
    rw [← HZ.out]
    clear HZ
    obtain ⟨r0_0, _, r0_9⟩ := V.out.box_at (i := 0) (j := 0) rfl rfl
    obtain ⟨r0_1, _, _⟩ := V.out.box_at (i := 0) (j := 1) rfl rfl
    obtain ⟨r0_2, _, _⟩ := V.out.box_at (i := 0) (j := 2) rfl rfl
    obtain ⟨r0_3, _, _⟩ := V.out.box_at (i := 0) (j := 3) rfl rfl
    obtain ⟨r1_0, _, r1_9⟩ := V.out.box_at (i := 1) (j := 0) rfl rfl
    obtain ⟨r1_1, _, _⟩ := V.out.box_at (i := 1) (j := 1) rfl rfl
    obtain ⟨r1_2, _, _⟩ := V.out.box_at (i := 1) (j := 2) rfl rfl
    obtain ⟨r1_3, _, _⟩ := V.out.box_at (i := 1) (j := 3) rfl rfl
    go_wp2_with fail
    refine (rvalid_any x A _ (HA.out.below V.out.below)).mono ?_
    rintro e w1 ⟨rfl, b1⟩
    have V1 := Lib.hid (V.out.go b1)
    clear b1 V r0_9 r0_0 r0_1 r0_2 r0_3 r1_9 r1_0 r1_1 r1_2 r1_3
    rw [HV.out]
    go_wp2_with fail
    go_ret
    exact ⟨ret_int HE.out.symm, V1.out.below⟩
  have HV := Lib.hid h1
  by_cases h2 : B.vE = 0
  case neg =>
    have h2 : B.vE = 1 := by rcases B.vE_cases with e | e; exact absurd e h2; exact e
    have HE := Lib.hid (show Au.pE A B = 1 from if_neg (fun e => by omega))
    have HV2 := Lib.hid h2
    clear h1 h2
    go_enter Try.func27, Try.ntmps27
    go_upto_region 1 with fail
    rw [← HZ.out]
    clear HZ
    obtain ⟨r0_0, _, r0_9⟩ := V.out.box_at (i := 0) (j := 0) rfl rfl
    obtain ⟨r0_1, _, _⟩ := V.out.box_at (i := 0) (j := 1) rfl rfl
    obtain ⟨r0_2, _, _⟩ := V.out.box_at (i := 0) (j := 2) rfl rfl
    obtain ⟨r0_3, _, _⟩ := V.out.box_at (i := 0) (j := 3) rfl rfl
    obtain ⟨r1_0, _, r1_9⟩ := V.out.box_at (i := 1) (j := 0) rfl rfl
    obtain ⟨r1_1, _, _⟩ := V.out.box_at (i := 1) (j := 1) rfl rfl
    obtain ⟨r1_2, _, _⟩ := V.out.box_at (i := 1) (j := 2) rfl rfl
    obtain ⟨r1_3, _, _⟩ := V.out.box_at (i := 1) (j := 3) rfl rfl
    go_wp2_with fail
    refine (rvalid_any x A _ (HA.out.below V.out.below)).mono ?_
    rintro e w1 ⟨rfl, b1⟩
    have V1 := Lib.hid (V.out.go b1)
    clear b1 V r0_9 r0_0 r0_1 r0_2 r0_3 r1_9 r1_0 r1_1 r1_2 r1_3
    rw [HV.out]
    obtain ⟨r0_0, _, r0_9⟩ := V1.out.box_at (i := 0) (j := 0) rfl rfl
    obtain ⟨r0_1, _, _⟩ := V1.out.box_at (i := 0) (j := 1) rfl rfl
    obtain ⟨r0_2, _, _⟩ := V1.out.box_at (i := 0) (j := 2) rfl rfl
    obtain ⟨r0_3, _, _⟩ := V1.out.box_at (i := 0) (j := 3) rfl rfl
    obtain ⟨r1_0, _, r1_9⟩ := V1.out.box_at (i := 1) (j := 0) rfl rfl
    obtain ⟨r1_1, _, _⟩ := V1.out.box_at (i := 1) (j := 1) rfl rfl
    obtain ⟨r1_2, _, _⟩ := V1.out.box_at (i := 1) (j := 2) rfl rfl
    obtain ⟨r1_3, _, _⟩ := V1.out.box_at (i := 1) (j := 3) rfl rfl
    go_wp2_with fail
    refine (rvalid_any y B _ (HB.out.below V1.out.below)).mono ?_
    rintro e w2 ⟨rfl, b2⟩
    have V2 := Lib.hid (V1.out.go b2)
    rw [HV2.out]
    go_wp2_with fail
    go_ret
    exact ⟨ret_int HE.out.symm, V2.out.below⟩
  have HV2 := Lib.hid h2
  by_cases h3 : A.lt = B.lt
  · have HE := Lib.hid (show Au.pE A B = 0 from if_pos ⟨h1, h2, h3⟩)
    have g1 : (A.lt == B.lt) = true := beq_yes h3
    have g2 : (A.lt != B.lt) = false := bne_no h3
    clear h1 h2 h3
    go_enter Try.func27, Try.ntmps27
    go_upto_region 1 with fail
    rw [← HZ.out]
    clear HZ
    obtain ⟨r0_0, _, r0_9⟩ := V.out.box_at (i := 0) (j := 0) rfl rfl
    obtain ⟨r0_1, _, _⟩ := V.out.box_at (i := 0) (j := 1) rfl rfl
    obtain ⟨r0_2, _, _⟩ := V.out.box_at (i := 0) (j := 2) rfl rfl
    obtain ⟨r0_3, _, _⟩ := V.out.box_at (i := 0) (j := 3) rfl rfl
    obtain ⟨r1_0, _, r1_9⟩ := V.out.box_at (i := 1) (j := 0) rfl rfl
    obtain ⟨r1_1, _, _⟩ := V.out.box_at (i := 1) (j := 1) rfl rfl
    obtain ⟨r1_2, _, _⟩ := V.out.box_at (i := 1) (j := 2) rfl rfl
    obtain ⟨r1_3, _, _⟩ := V.out.box_at (i := 1) (j := 3) rfl rfl
    go_wp2_with fail
    refine (rvalid_any x A _ (HA.out.below V.out.below)).mono ?_
    rintro e w1 ⟨rfl, b1⟩
    have V1 := Lib.hid (V.out.go b1)
    clear b1 V r0_9 r0_0 r0_1 r0_2 r0_3 r1_9 r1_0 r1_1 r1_2 r1_3
    rw [HV.out]
    obtain ⟨r0_0, _, r0_9⟩ := V1.out.box_at (i := 0) (j := 0) rfl rfl
    obtain ⟨r0_1, _, _⟩ := V1.out.box_at (i := 0) (j := 1) rfl rfl
    obtain ⟨r0_2, _, _⟩ := V1.out.box_at (i := 0) (j := 2) rfl rfl
    obtain ⟨r0_3, _, _⟩ := V1.out.box_at (i := 0) (j := 3) rfl rfl
    obtain ⟨r1_0, _, r1_9⟩ := V1.out.box_at (i := 1) (j := 0) rfl rfl
    obtain ⟨r1_1, _, _⟩ := V1.out.box_at (i := 1) (j := 1) rfl rfl
    obtain ⟨r1_2, _, _⟩ := V1.out.box_at (i := 1) (j := 2) rfl rfl
    obtain ⟨r1_3, _, _⟩ := V1.out.box_at (i := 1) (j := 3) rfl rfl
    go_wp2_with fail
    refine (rvalid_any y B _ (HB.out.below V1.out.below)).mono ?_
    rintro e w2 ⟨rfl, b2⟩
    have V2 := Lib.hid (V1.out.go b2)
    rw [HV2.out]
    clear r0_9 r0_0 r0_1 r0_2 r0_3 r1_9 r1_0 r1_1 r1_2 r1_3
    obtain ⟨r0_0, _, r0_9⟩ := V2.out.box_at (i := 0) (j := 0) rfl rfl
    obtain ⟨r0_1, _, _⟩ := V2.out.box_at (i := 0) (j := 1) rfl rfl
    obtain ⟨r0_2, _, _⟩ := V2.out.box_at (i := 0) (j := 2) rfl rfl
    obtain ⟨r0_3, _, _⟩ := V2.out.box_at (i := 0) (j := 3) rfl rfl
    obtain ⟨r1_0, _, r1_9⟩ := V2.out.box_at (i := 1) (j := 0) rfl rfl
    obtain ⟨r1_1, _, _⟩ := V2.out.box_at (i := 1) (j := 1) rfl rfl
    obtain ⟨r1_2, _, _⟩ := V2.out.box_at (i := 1) (j := 2) rfl rfl
    obtain ⟨r1_3, _, _⟩ := V2.out.box_at (i := 1) (j := 3) rfl rfl
    go_wp2_with fail
    go_ret
    exact ⟨ret_int HE.out.symm, V2.out.below⟩
  · have HE := Lib.hid (show Au.pE A B = 1 from if_neg (fun e => h3 e.2.2))
    have g1 : (A.lt == B.lt) = false := beq_no h3
    have g2 : (A.lt != B.lt) = true := bne_yes h3
    clear h1 h2 h3
    go_enter Try.func27, Try.ntmps27
    go_upto_region 1 with fail
    rw [← HZ.out]
    clear HZ
    obtain ⟨r0_0, _, r0_9⟩ := V.out.box_at (i := 0) (j := 0) rfl rfl
    obtain ⟨r0_1, _, _⟩ := V.out.box_at (i := 0) (j := 1) rfl rfl
    obtain ⟨r0_2, _, _⟩ := V.out.box_at (i := 0) (j := 2) rfl rfl
    obtain ⟨r0_3, _, _⟩ := V.out.box_at (i := 0) (j := 3) rfl rfl
    obtain ⟨r1_0, _, r1_9⟩ := V.out.box_at (i := 1) (j := 0) rfl rfl
    obtain ⟨r1_1, _, _⟩ := V.out.box_at (i := 1) (j := 1) rfl rfl
    obtain ⟨r1_2, _, _⟩ := V.out.box_at (i := 1) (j := 2) rfl rfl
    obtain ⟨r1_3, _, _⟩ := V.out.box_at (i := 1) (j := 3) rfl rfl
    go_wp2_with fail
    refine (rvalid_any x A _ (HA.out.below V.out.below)).mono ?_
    rintro e w1 ⟨rfl, b1⟩
    have V1 := Lib.hid (V.out.go b1)
    clear b1 V r0_9 r0_0 r0_1 r0_2 r0_3 r1_9 r1_0 r1_1 r1_2 r1_3
    rw [HV.out]
    obtain ⟨r0_0, _, r0_9⟩ := V1.out.box_at (i := 0) (j := 0) rfl rfl
    obtain ⟨r0_1, _, _⟩ := V1.out.box_at (i := 0) (j := 1) rfl rfl
    obtain ⟨r0_2, _, _⟩ := V1.out.box_at (i := 0) (j := 2) rfl rfl
    obtain ⟨r0_3, _, _⟩ := V1.out.box_at (i := 0) (j := 3) rfl rfl
    obtain ⟨r1_0, _, r1_9⟩ := V1.out.box_at (i := 1) (j := 0) rfl rfl
    obtain ⟨r1_1, _, _⟩ := V1.out.box_at (i := 1) (j := 1) rfl rfl
    obtain ⟨r1_2, _, _⟩ := V1.out.box_at (i := 1) (j := 2) rfl rfl
    obtain ⟨r1_3, _, _⟩ := V1.out.box_at (i := 1) (j := 3) rfl rfl
    go_wp2_with fail
    refine (rvalid_any y B _ (HB.out.below V1.out.below)).mono ?_
    rintro e w2 ⟨rfl, b2⟩
    have V2 := Lib.hid (V1.out.go b2)
    rw [HV2.out]
    clear r0_9 r0_0 r0_1 r0_2 r0_3 r1_9 r1_0 r1_1 r1_2 r1_3
    obtain ⟨r0_0, _, r0_9⟩ := V2.out.box_at (i := 0) (j := 0) rfl rfl
    obtain ⟨r0_1, _, _⟩ := V2.out.box_at (i := 0) (j := 1) rfl rfl
    obtain ⟨r0_2, _, _⟩ := V2.out.box_at (i := 0) (j := 2) rfl rfl
    obtain ⟨r0_3, _, _⟩ := V2.out.box_at (i := 0) (j := 3) rfl rfl
    obtain ⟨r1_0, _, r1_9⟩ := V2.out.box_at (i := 1) (j := 0) rfl rfl
    obtain ⟨r1_1, _, _⟩ := V2.out.box_at (i := 1) (j := 1) rfl rfl
    obtain ⟨r1_2, _, _⟩ := V2.out.box_at (i := 1) (j := 2) rfl rfl
    obtain ⟨r1_3, _, _⟩ := V2.out.box_at (i := 1) (j := 3) rfl rfl
    go_wp2_with fail
    go_ret
    exact ⟨ret_int HE.out.symm, V2.out.below⟩
set_option maxHeartbeats 2000000 in
theorem raccepting_any (x : DV) (M : Au) (q : Int) (w : World) (h : DfaIn w x M) (h2 : q < M.ac.length) (hm : M.ac.length ≤ 1000000) :
    Calls Try.prog 29 #[dval x M, .int .i64 q] w fun e w' => e = .returned (.bool (M.acc q)) ∧ Below w.heap.size w w' := by
  by_cases h0 : 0 ≤ q
  · obtain ⟨n, rfl⟩ : ∃ n : Nat, q = n := ⟨q.toNat, by omega⟩
    have hn : n < M.ac.length := by omega
    have HE := Lib.hid (show M.acc n = M.ac.getD n false by unfold Au.acc; simp)
    obtain ⟨b, off, hB, hlt, hc⟩ := h.acc hn
    obtain ⟨v, hv⟩ : ∃ v, v = M.ac.getD n false := ⟨_, rfl⟩
    rw [← hv] at hc
    have HV := Lib.hid hv
    have hnm : n < x.m := by have := h.m; omega
    obtain ⟨A, xn, xc, B, m, d⟩ := x
    dsimp only at *
    subst hB
    have hc2 := ((bnew w (.cells #[.int .i64 M.lt, .int .i64 M.st, .slice A xn xc, .slice (some ⟨b, off, none⟩) m d] 25)).cell (p := ⟨b, off + n, none⟩) hlt).trans hc
    clear h hc hv hn h2 hm
    go_enter Try.func29, Try.ntmps29
    go_wp2
    go_ret
    exact ⟨ret_bool (HV.out.trans HE.out.symm), bnew _ _⟩
  · have HE := Lib.hid (show M.acc q = false from M.acc_neg (by omega))
    have h3 : q < 0 := by omega
    clear h
    go_enter Try.func29, Try.ntmps29
    go_wp2
    go_ret
    exact ⟨ret_bool HE.out.symm, bnew _ _⟩
/-- Small enough to be compared. -/
def smlB (A B : Au) : Bool := A.fewB && B.fewB && decide (A.n * B.n ≤ 900)
theorem fewB_n {M : Au} (h : M.fewB = true) : M.n ≤ 410 := (of_decide_eq_true (show decide (M.n ≤ 410 ∧ M.ac.length ≤ 420 ∧ totI M.nx ≤ 1700) = true from h)).1
set_option maxHeartbeats 8000000 in
theorem small_any (x y : DV) (A B : Au) (w : World) (hA : DfaIn w x A) (hB : DfaIn w y B) :
    Calls Try.prog 5 #[dval x A, dval y B] w fun e w' => e = .returned (.bool (smlB A B)) ∧ Below w.heap.size w w' := by
  have HA := Lib.hid hA
  have HB := Lib.hid hB
  clear hA hB
  by_cases fa : A.fewB = true
  case neg =>
    have FA := Lib.hid (show A.fewB = false by cases e : A.fewB; rfl; exact absurd e fa)
    have HE := Lib.hid (show smlB A B = false by unfold smlB; rw [FA.out]; rfl)
    clear fa
    obtain ⟨wz, hwz⟩ : ∃ z, z = ((w.alloc (.cells #[.int .i64 A.lt, .int .i64 A.st, .slice x.A x.n x.c, .slice x.B x.m x.d] 25)).alloc (.cells #[.int .i64 B.lt, .int .i64 B.st, .slice y.A y.n y.c, .slice y.B y.m y.d] 25)) := ⟨_, rfl⟩
    have V := Lib.hid (show Hp w [box 25 (w.heap.size + 1) [.int .i64 B.lt, .int .i64 B.st, .slice y.A y.n y.c, .slice y.B y.m y.d], box 25 w.heap.size [.int .i64 A.lt, .int .i64 A.st, .slice x.A x.n x.c, .slice x.B x.m x.d]] wz by
      have := (((Hp.start w).box_new 25 [.int .i64 A.lt, .int .i64 A.st, .slice x.A x.n x.c, .slice x.B x.m x.d]).box_new 25 [.int .i64 B.lt, .int .i64 B.st, .slice y.A y.n y.c, .slice y.B y.m y.d])
      rw [hwz]; simpa using this)
    have HZ := Lib.hid hwz
    clear hwz
    go_enter Try.func5, Try.ntmps5
    go_upto_region 1 with fail
    rw [← HZ.out]
    clear HZ
    obtain ⟨r0_0, _, r0_9⟩ := V.out.box_at (i := 0) (j := 0) rfl rfl
    obtain ⟨r0_1, _, _⟩ := V.out.box_at (i := 0) (j := 1) rfl rfl
    obtain ⟨r0_2, _, _⟩ := V.out.box_at (i := 0) (j := 2) rfl rfl
    obtain ⟨r0_3, _, _⟩ := V.out.box_at (i := 0) (j := 3) rfl rfl
    obtain ⟨r1_0, _, r1_9⟩ := V.out.box_at (i := 1) (j := 0) rfl rfl
    obtain ⟨r1_1, _, _⟩ := V.out.box_at (i := 1) (j := 1) rfl rfl
    obtain ⟨r1_2, _, _⟩ := V.out.box_at (i := 1) (j := 2) rfl rfl
    obtain ⟨r1_3, _, _⟩ := V.out.box_at (i := 1) (j := 3) rfl rfl
    go_wp2_with fail
    refine (few_any x A _ (HA.out.below V.out.below)).mono ?_
    rintro e w1 ⟨rfl, b1⟩
    rw [FA.out]
    have V1 := Lib.hid (V.out.go b1)
    clear b1 V r0_9 r0_0 r0_1 r0_2 r0_3 r1_9 r1_0 r1_1 r1_2 r1_3
    go_wp2_with fail
    go_ret
    exact ⟨ret_bool HE.out.symm, V1.out.below⟩
  have FA := Lib.hid fa
  by_cases fb : B.fewB = true
  case neg =>
    have FB := Lib.hid (show B.fewB = false by cases e : B.fewB; rfl; exact absurd e fb)
    have HE := Lib.hid (show smlB A B = false by unfold smlB; rw [FB.out]; simp)
    clear fa fb
    obtain ⟨wz, hwz⟩ : ∃ z, z = ((w.alloc (.cells #[.int .i64 A.lt, .int .i64 A.st, .slice x.A x.n x.c, .slice x.B x.m x.d] 25)).alloc (.cells #[.int .i64 B.lt, .int .i64 B.st, .slice y.A y.n y.c, .slice y.B y.m y.d] 25)) := ⟨_, rfl⟩
    have V := Lib.hid (show Hp w [box 25 (w.heap.size + 1) [.int .i64 B.lt, .int .i64 B.st, .slice y.A y.n y.c, .slice y.B y.m y.d], box 25 w.heap.size [.int .i64 A.lt, .int .i64 A.st, .slice x.A x.n x.c, .slice x.B x.m x.d]] wz by
      have := (((Hp.start w).box_new 25 [.int .i64 A.lt, .int .i64 A.st, .slice x.A x.n x.c, .slice x.B x.m x.d]).box_new 25 [.int .i64 B.lt, .int .i64 B.st, .slice y.A y.n y.c, .slice y.B y.m y.d])
      rw [hwz]; simpa using this)
    have HZ := Lib.hid hwz
    clear hwz
    go_enter Try.func5, Try.ntmps5
    go_upto_region 1 with fail
    rw [← HZ.out]
    clear HZ
    obtain ⟨r0_0, _, r0_9⟩ := V.out.box_at (i := 0) (j := 0) rfl rfl
    obtain ⟨r0_1, _, _⟩ := V.out.box_at (i := 0) (j := 1) rfl rfl
    obtain ⟨r0_2, _, _⟩ := V.out.box_at (i := 0) (j := 2) rfl rfl
    obtain ⟨r0_3, _, _⟩ := V.out.box_at (i := 0) (j := 3) rfl rfl
    obtain ⟨r1_0, _, r1_9⟩ := V.out.box_at (i := 1) (j := 0) rfl rfl
    obtain ⟨r1_1, _, _⟩ := V.out.box_at (i := 1) (j := 1) rfl rfl
    obtain ⟨r1_2, _, _⟩ := V.out.box_at (i := 1) (j := 2) rfl rfl
    obtain ⟨r1_3, _, _⟩ := V.out.box_at (i := 1) (j := 3) rfl rfl
    go_wp2_with fail
    refine (few_any x A _ (HA.out.below V.out.below)).mono ?_
    rintro e w1 ⟨rfl, b1⟩
    rw [FA.out]
    have V1 := Lib.hid (V.out.go b1)
    clear b1 V r0_9 r0_0 r0_1 r0_2 r0_3 r1_9 r1_0 r1_1 r1_2 r1_3
    obtain ⟨r0_0, _, r0_9⟩ := V1.out.box_at (i := 0) (j := 0) rfl rfl
    obtain ⟨r0_1, _, _⟩ := V1.out.box_at (i := 0) (j := 1) rfl rfl
    obtain ⟨r0_2, _, _⟩ := V1.out.box_at (i := 0) (j := 2) rfl rfl
    obtain ⟨r0_3, _, _⟩ := V1.out.box_at (i := 0) (j := 3) rfl rfl
    obtain ⟨r1_0, _, r1_9⟩ := V1.out.box_at (i := 1) (j := 0) rfl rfl
    obtain ⟨r1_1, _, _⟩ := V1.out.box_at (i := 1) (j := 1) rfl rfl
    obtain ⟨r1_2, _, _⟩ := V1.out.box_at (i := 1) (j := 2) rfl rfl
    obtain ⟨r1_3, _, _⟩ := V1.out.box_at (i := 1) (j := 3) rfl rfl
    go_wp2_with fail
    refine (few_any y B _ (HB.out.below V1.out.below)).mono ?_
    rintro e w2 ⟨rfl, b2⟩
    rw [FB.out]
    have V2 := Lib.hid (V1.out.go b2)
    clear b2 V1 r0_9 r0_0 r0_1 r0_2 r0_3 r1_9 r1_0 r1_1 r1_2 r1_3
    go_wp2_with fail
    go_ret
    exact ⟨ret_bool HE.out.symm, V2.out.below⟩
  have FB := Lib.hid fb
  have ha : x.n ≤ 410 := by have h1 := fewB_n fa; have h2 : A.n = x.n := HA.out.n; omega
  have hb : y.n ≤ 410 := by have h1 := fewB_n fb; have h2 : B.n = y.n := HB.out.n; omega
  obtain ⟨p, hp⟩ : ∃ p, p = x.n * y.n := ⟨_, rfl⟩
  have hp2 : p ≤ 168100 := by rw [hp]; exact Nat.le_trans (Nat.mul_le_mul ha hb) (by omega)
  have e1 : (x.n : Int) * (y.n : Int) = (p : Int) := by rw [hp]; simp
  have e2 : IntKind.i64.wrap (p : Int) = (p : Int) := IntWalk.i64_in _ (by omega)
  have HSM := Lib.hid (show smlB A B = decide (p ≤ 900) by unfold smlB; rw [FA.out, FB.out, show A.n = x.n from HA.out.n, show B.n = y.n from HB.out.n, ← hp]; simp)
  clear fa fb hp
  by_cases h9 : p ≤ 900
  · have HE := Lib.hid (show smlB A B = true by rw [HSM.out]; exact decide_eq_true h9)
    have h9b : (p : Int) ≤ 900 := by omega
    obtain ⟨wz, hwz⟩ : ∃ z, z = ((w.alloc (.cells #[.int .i64 A.lt, .int .i64 A.st, .slice x.A x.n x.c, .slice x.B x.m x.d] 25)).alloc (.cells #[.int .i64 B.lt, .int .i64 B.st, .slice y.A y.n y.c, .slice y.B y.m y.d] 25)) := ⟨_, rfl⟩
    have V := Lib.hid (show Hp w [box 25 (w.heap.size + 1) [.int .i64 B.lt, .int .i64 B.st, .slice y.A y.n y.c, .slice y.B y.m y.d], box 25 w.heap.size [.int .i64 A.lt, .int .i64 A.st, .slice x.A x.n x.c, .slice x.B x.m x.d]] wz by
      have := (((Hp.start w).box_new 25 [.int .i64 A.lt, .int .i64 A.st, .slice x.A x.n x.c, .slice x.B x.m x.d]).box_new 25 [.int .i64 B.lt, .int .i64 B.st, .slice y.A y.n y.c, .slice y.B y.m y.d])
      rw [hwz]; simpa using this)
    have HZ := Lib.hid hwz
    clear hwz
    go_enter Try.func5, Try.ntmps5
    go_upto_region 1 with fail
    rw [← HZ.out]
    clear HZ
    obtain ⟨r0_0, _, r0_9⟩ := V.out.box_at (i := 0) (j := 0) rfl rfl
    obtain ⟨r0_1, _, _⟩ := V.out.box_at (i := 0) (j := 1) rfl rfl
    obtain ⟨r0_2, _, _⟩ := V.out.box_at (i := 0) (j := 2) rfl rfl
    obtain ⟨r0_3, _, _⟩ := V.out.box_at (i := 0) (j := 3) rfl rfl
    obtain ⟨r1_0, _, r1_9⟩ := V.out.box_at (i := 1) (j := 0) rfl rfl
    obtain ⟨r1_1, _, _⟩ := V.out.box_at (i := 1) (j := 1) rfl rfl
    obtain ⟨r1_2, _, _⟩ := V.out.box_at (i := 1) (j := 2) rfl rfl
    obtain ⟨r1_3, _, _⟩ := V.out.box_at (i := 1) (j := 3) rfl rfl
    go_wp2_with fail
    refine (few_any x A _ (HA.out.below V.out.below)).mono ?_
    rintro e w1 ⟨rfl, b1⟩
    rw [FA.out]
    have V1 := Lib.hid (V.out.go b1)
    clear b1 V r0_9 r0_0 r0_1 r0_2 r0_3 r1_9 r1_0 r1_1 r1_2 r1_3
    obtain ⟨r0_0, _, r0_9⟩ := V1.out.box_at (i := 0) (j := 0) rfl rfl
    obtain ⟨r0_1, _, _⟩ := V1.out.box_at (i := 0) (j := 1) rfl rfl
    obtain ⟨r0_2, _, _⟩ := V1.out.box_at (i := 0) (j := 2) rfl rfl
    obtain ⟨r0_3, _, _⟩ := V1.out.box_at (i := 0) (j := 3) rfl rfl
    obtain ⟨r1_0, _, r1_9⟩ := V1.out.box_at (i := 1) (j := 0) rfl rfl
    obtain ⟨r1_1, _, _⟩ := V1.out.box_at (i := 1) (j := 1) rfl rfl
    obtain ⟨r1_2, _, _⟩ := V1.out.box_at (i := 1) (j := 2) rfl rfl
    obtain ⟨r1_3, _, _⟩ := V1.out.box_at (i := 1) (j := 3) rfl rfl
    go_wp2_with fail
    refine (few_any y B _ (HB.out.below V1.out.below)).mono ?_
    rintro e w2 ⟨rfl, b2⟩
    rw [FB.out]
    have V2 := Lib.hid (V1.out.go b2)
    clear b2 V1 r0_9 r0_0 r0_1 r0_2 r0_3 r1_9 r1_0 r1_1 r1_2 r1_3
    obtain ⟨r0_0, _, r0_9⟩ := V2.out.box_at (i := 0) (j := 0) rfl rfl
    obtain ⟨r0_1, _, _⟩ := V2.out.box_at (i := 0) (j := 1) rfl rfl
    obtain ⟨r0_2, _, _⟩ := V2.out.box_at (i := 0) (j := 2) rfl rfl
    obtain ⟨r0_3, _, _⟩ := V2.out.box_at (i := 0) (j := 3) rfl rfl
    obtain ⟨r1_0, _, r1_9⟩ := V2.out.box_at (i := 1) (j := 0) rfl rfl
    obtain ⟨r1_1, _, _⟩ := V2.out.box_at (i := 1) (j := 1) rfl rfl
    obtain ⟨r1_2, _, _⟩ := V2.out.box_at (i := 1) (j := 2) rfl rfl
    obtain ⟨r1_3, _, _⟩ := V2.out.box_at (i := 1) (j := 3) rfl rfl
    go_wp2_with fail
    go_ret
    exact ⟨ret_bool HE.out.symm, V2.out.below⟩
  · have HE := Lib.hid (show smlB A B = false by rw [HSM.out]; exact decide_eq_false h9)
    have h9b : ¬ (p : Int) ≤ 900 := by omega
    have h9c : 900 < p := by omega
    have h9d : (900 : Int) < (p : Int) := by omega
    obtain ⟨wz, hwz⟩ : ∃ z, z = ((w.alloc (.cells #[.int .i64 A.lt, .int .i64 A.st, .slice x.A x.n x.c, .slice x.B x.m x.d] 25)).alloc (.cells #[.int .i64 B.lt, .int .i64 B.st, .slice y.A y.n y.c, .slice y.B y.m y.d] 25)) := ⟨_, rfl⟩
    have V := Lib.hid (show Hp w [box 25 (w.heap.size + 1) [.int .i64 B.lt, .int .i64 B.st, .slice y.A y.n y.c, .slice y.B y.m y.d], box 25 w.heap.size [.int .i64 A.lt, .int .i64 A.st, .slice x.A x.n x.c, .slice x.B x.m x.d]] wz by
      have := (((Hp.start w).box_new 25 [.int .i64 A.lt, .int .i64 A.st, .slice x.A x.n x.c, .slice x.B x.m x.d]).box_new 25 [.int .i64 B.lt, .int .i64 B.st, .slice y.A y.n y.c, .slice y.B y.m y.d])
      rw [hwz]; simpa using this)
    have HZ := Lib.hid hwz
    clear hwz
    go_enter Try.func5, Try.ntmps5
    go_upto_region 1 with fail
    rw [← HZ.out]
    clear HZ
    obtain ⟨r0_0, _, r0_9⟩ := V.out.box_at (i := 0) (j := 0) rfl rfl
    obtain ⟨r0_1, _, _⟩ := V.out.box_at (i := 0) (j := 1) rfl rfl
    obtain ⟨r0_2, _, _⟩ := V.out.box_at (i := 0) (j := 2) rfl rfl
    obtain ⟨r0_3, _, _⟩ := V.out.box_at (i := 0) (j := 3) rfl rfl
    obtain ⟨r1_0, _, r1_9⟩ := V.out.box_at (i := 1) (j := 0) rfl rfl
    obtain ⟨r1_1, _, _⟩ := V.out.box_at (i := 1) (j := 1) rfl rfl
    obtain ⟨r1_2, _, _⟩ := V.out.box_at (i := 1) (j := 2) rfl rfl
    obtain ⟨r1_3, _, _⟩ := V.out.box_at (i := 1) (j := 3) rfl rfl
    go_wp2_with fail
    refine (few_any x A _ (HA.out.below V.out.below)).mono ?_
    rintro e w1 ⟨rfl, b1⟩
    rw [FA.out]
    have V1 := Lib.hid (V.out.go b1)
    clear b1 V r0_9 r0_0 r0_1 r0_2 r0_3 r1_9 r1_0 r1_1 r1_2 r1_3
    obtain ⟨r0_0, _, r0_9⟩ := V1.out.box_at (i := 0) (j := 0) rfl rfl
    obtain ⟨r0_1, _, _⟩ := V1.out.box_at (i := 0) (j := 1) rfl rfl
    obtain ⟨r0_2, _, _⟩ := V1.out.box_at (i := 0) (j := 2) rfl rfl
    obtain ⟨r0_3, _, _⟩ := V1.out.box_at (i := 0) (j := 3) rfl rfl
    obtain ⟨r1_0, _, r1_9⟩ := V1.out.box_at (i := 1) (j := 0) rfl rfl
    obtain ⟨r1_1, _, _⟩ := V1.out.box_at (i := 1) (j := 1) rfl rfl
    obtain ⟨r1_2, _, _⟩ := V1.out.box_at (i := 1) (j := 2) rfl rfl
    obtain ⟨r1_3, _, _⟩ := V1.out.box_at (i := 1) (j := 3) rfl rfl
    go_wp2_with fail
    refine (few_any y B _ (HB.out.below V1.out.below)).mono ?_
    rintro e w2 ⟨rfl, b2⟩
    rw [FB.out]
    have V2 := Lib.hid (V1.out.go b2)
    clear b2 V1 r0_9 r0_0 r0_1 r0_2 r0_3 r1_9 r1_0 r1_1 r1_2 r1_3
    obtain ⟨r0_0, _, r0_9⟩ := V2.out.box_at (i := 0) (j := 0) rfl rfl
    obtain ⟨r0_1, _, _⟩ := V2.out.box_at (i := 0) (j := 1) rfl rfl
    obtain ⟨r0_2, _, _⟩ := V2.out.box_at (i := 0) (j := 2) rfl rfl
    obtain ⟨r0_3, _, _⟩ := V2.out.box_at (i := 0) (j := 3) rfl rfl
    obtain ⟨r1_0, _, r1_9⟩ := V2.out.box_at (i := 1) (j := 0) rfl rfl
    obtain ⟨r1_1, _, _⟩ := V2.out.box_at (i := 1) (j := 1) rfl rfl
    obtain ⟨r1_2, _, _⟩ := V2.out.box_at (i := 1) (j := 2) rfl rfl
    obtain ⟨r1_3, _, _⟩ := V2.out.box_at (i := 1) (j := 3) rfl rfl
    go_wp2_with fail
    go_ret
    exact ⟨ret_bool (show decide ((p : Int) ≤ 900) = smlB A B by rw [HE.out]; exact decide_eq_false (by omega)), V2.out.below⟩
end Go.Proofs.Ytdkdfmflghbhiaa
