/- Contracts of the statements: equal lists; the chapter's example. -/
import Derived.Test.YtdkdfmflghbhiaaQy
import Derived.Test.YtdkdfmflghbhiaaQs
import Derived.Test.YtdkdfmflghbhiaaQt
import Derived.Test.YtdkdfmflghbhiaaQu
import Derived.Test.YtdkdfmflghbhiaaAMq
namespace Go.Proofs.Ytdkdfmflghbhiaa
open Go.RowKit
set_option linter.unusedVariables false
set_option linter.unusedSimpArgs false
set_option maxRecDepth 100000

theorem equal_nums (A1 A2 : Option Addr) (n c m d : Nat) (L M : List Int) (w : World) (hL : L.length = n) (hM : M.length = m) (hn : n ≤ 17592186044416) (hm : m ≤ 17592186044416) (h1 : CellsIn w A1 (ints L)) (h2 : CellsIn w A2 (ints M)) :
    Calls Try.prog 18 #[.slice A1 n c, .slice A2 m d] w fun e w' => e = .returned (.bool (decide (L = M))) ∧ Below w.heap.size w w' := by
  by_cases h0 : n = 0
  · subst h0
    have e0 : L = [] := List.eq_nil_of_length_eq_zero hL
    subst e0
    refine (Try.slices_Equal_int_empty A1 A2 c m d w (by omega)).mono ?_
    rintro e w' ⟨rfl, rfl⟩
    refine ⟨ret_bool ?_, Below.refl _ _⟩
    apply decide_eq_decide.2
    rw [← hM]
    constructor
    · intro h; exact (List.eq_nil_of_length_eq_zero h).symm
    · intro h; rw [← h]; rfl
  · by_cases hnm : n = m
    · subst hnm
      obtain ⟨b1, o1, rfl, _, hc1⟩ := h1 (by rw [ints_len]; omega)
      obtain ⟨b2, o2, rfl, _, hc2⟩ := h2 (by rw [ints_len]; omega)
      refine (Try.slices_Equal_int b1 o1 n c b2 o2 n d L M w (by omega) (by omega) (by omega) (by omega) (fun j hj => hc1 j _ (ints_at hj)) (fun j hj => hc2 j _ (ints_at hj))).mono ?_
      rintro e w' ⟨rfl, q, rfl⟩
      refine ⟨ret_bool ?_, bdrewN _ _⟩
      rw [List.take_of_length_le (by omega), List.take_of_length_le (by omega)]
      by_cases e : L = M
      · rw [decide_eq_true e, beq_iff_eq]; exact e
      · rw [decide_eq_false e, beq_eq_false_iff_ne]; exact e
    · refine (Try.slices_Equal_int_lens A1 A2 n c m d w hnm).mono ?_
      rintro e w' ⟨rfl, rfl⟩
      exact ⟨ret_bool (decide_eq_false (fun e => hnm (by rw [← hL, ← hM, e]))).symm, Below.refl _ _⟩
theorem Hp.lit {W w : World} {l : List Itm} (h : Hp W l w) (e : TypeId) (size n : Nat) (cs : List Value) (hl : cs.length = n * size) (hn : n ≤ 1000000) : Hp W (⟨e, size, .slice (some ⟨w.heap.size, 0, none⟩) n n, n, cs⟩ :: l) (w.alloc (.cells cs.toArray e)) := by
  refine h.new _ (bnew _ _) ?_ (fun k hk => by simp [Value.ownBlock] at hk; omega)
  have := World.ownsRow_lit (base := W.heap.size) (e := e) (size := size) w cs.toArray n h.below.size (by unfold maxLen; omega) (by simpa using hl)
  simpa using this
/-! ### The answers at the example -/
theorem exA_k {k : Nat} (h : exA.Vld k) : k = 2 := by have := h.right.lt; have e : exA.lt = 2 := rfl; omega
theorem exB_k {k : Nat} (h : exB.Vld k) : k = 2 := by have := h.right.lt; have e : exB.lt = 2 := rfl; omega
theorem ex_minimal (x : DV) (W : World) (h : DfaIn W x exB) :
    Calls Try.prog 12 #[.agg #[.int .i64 2, .int .i64 0, .slice x.A x.n x.c, .slice x.B x.m x.d]] W fun e w' => ∃ (A : Option Addr) (n c : Nat) (B : Option Addr) (d k g1 g2 : Nat), e = .returned (.tuple #[.agg #[.int .i64 2, .int .i64 0, .slice A n c, .slice B n d], .int .i64 0]) ∧ k ≤ 8 ∧ n ≤ 1000 ∧
      Hp W [rlist A n c k [g1, g2], flags B n d [false, true], nums (some ⟨g1, 0, none⟩) k k [1, -1], nums (some ⟨g2, 0, none⟩) k k [-1, 0]] w' := by
  refine (minimalTop_any x exB W h).mono ?_
  rintro e w' ⟨hb, ⟨h1, _⟩ | ⟨k, v1, _, ⟨h2, _⟩ | ⟨_, hb2, R, hc, hr⟩⟩⟩
  · exact absurd h1 (by decide)
  · exact absurd (.inl rfl) h2
  · obtain rfl := exB_k v1
    obtain rfl := hc.uniq ex_canon
    rcases hr with ⟨_, ⟨A, n, c, B, m, d⟩, rfl, hm, k, gs, hg, hk, hn, hp⟩ | ⟨h3, _⟩
    · dsimp only at *
      subst hm
      match gs, hg with
      | [g1, g2], _ => exact ⟨A, m, c, B, d, k, g1, g2, rfl, hk, hn, hp⟩
    · exact absurd h3 (by decide)
theorem ex_product (x y : DV) (W : World) (h : DfaIn W x exA) (h2 : DfaIn W y exB) :
    Calls Try.prog 15 #[.agg #[.int .i64 2, .int .i64 0, .slice x.A x.n x.c, .slice x.B x.m x.d], .agg #[.int .i64 2, .int .i64 0, .slice y.A y.n y.c, .slice y.B y.m y.d], .int .i64 3] W fun e w' => ∃ A c B m d, e = .returned (.tuple #[.agg #[.int .i64 2, .int .i64 (-1), .slice A 0 c, .slice B m d], .int .i64 0]) ∧ Below W.heap.size W w' := by
  refine (product_any x y exA exB 3 W h h2).mono ?_
  rintro e w' ⟨hb, ⟨h1, _⟩ | ⟨k, v1, _, ⟨h2, _⟩ | ⟨_, hb2, R, hc, hr⟩⟩⟩
  · exact absurd h1 (by decide)
  · exact absurd (.inr (.inr rfl)) h2
  · obtain rfl := exA_k v1
    obtain rfl := hc.uniq ex_empty
    rcases hr with ⟨_, y, rfl, hm, ho⟩ | ⟨h3, _⟩
    · have h0 : 0 = y.n := (ho.dfa hm).n
      exact ⟨y.A, y.c, y.B, y.m, y.d, by rw [← h0]; rfl, hb⟩
    · exact absurd h3 (by decide)
theorem ex_shortest (x : DV) (W : World) (h : DfaIn W x exA) :
    Calls Try.prog 13 #[.agg #[.int .i64 2, .int .i64 0, .slice x.A x.n x.c, .slice x.B x.m x.d]] W fun e w' => ∃ G c, e = .returned (.tuple #[.slice G 1 c, .int .i64 0]) ∧ Hp W [nums G 1 c [0]] w' := by
  refine (shortest_any x exA W h).mono ?_
  rintro e w' ⟨hb, ⟨h1, _⟩ | ⟨k, v1, _, ⟨h2, _⟩ | ⟨u, G, n, c, h3, rfl, hp, _⟩⟩⟩
  · exact absurd h1 (by decide)
  · obtain rfl := exA_k v1
    have := h2.uniq ex_first; cases this
  · obtain rfl := exA_k v1
    have e := h3.uniq ex_first
    injection e with e
    subst e
    have hn : 1 = n := hp.num_len (i := 0) rfl
    subst hn
    exact ⟨G, c, rfl, hp⟩
theorem ex_difference (x y : DV) (W : World) (h : DfaIn W x exA) (h2 : DfaIn W y exC) :
    Calls Try.prog 16 #[.agg #[.int .i64 2, .int .i64 0, .slice x.A x.n x.c, .slice x.B x.m x.d], .agg #[.int .i64 2, .int .i64 0, .slice y.A y.n y.c, .slice y.B y.m y.d]] W fun e w' => ∃ G c, e = .returned (.tuple #[.slice G 2 c, .int .i64 0]) ∧ CellsIn w' G (ints [0, 0]) ∧ Below W.heap.size W w' := by
  refine (difference_any x y exA exC W h h2).mono ?_
  rintro e w' ⟨hb, ⟨h1, _⟩ | ⟨k, v1, _, _, ⟨h2, _⟩ | ⟨u, G, n, c, h3, rfl, hp, _⟩⟩⟩
  · exact absurd h1 (by decide)
  · obtain rfl := exA_k v1
    have := h2.uniq ex_diff; cases this
  · obtain rfl := exA_k v1
    have e := h3.uniq ex_diff
    injection e with e
    subst e
    have hn : 2 = n := hp.num_len (i := 0) rfl
    subst hn
    exact ⟨G, c, rfl, hp.cells (i := 0) rfl rfl, hb⟩
theorem ex_c3 (x : DV) (W : World) (h : DfaIn W x exA) :
    Calls Try.prog 14 #[.agg #[.int .i64 2, .int .i64 0, .slice x.A x.n x.c, .slice x.B x.m x.d], .int .i64 3] W fun e w' => e = .returned (.tuple #[.int .i64 1, .int .i64 0]) ∧ Below W.heap.size W w' := by
  refine (count_any x exA 3 W h).mono ?_
  rintro e w' ⟨he, hb⟩
  rw [ex_count3] at he
  exact ⟨he, hb⟩
theorem ex_c2 (x : DV) (W : World) (h : DfaIn W x exA) :
    Calls Try.prog 14 #[.agg #[.int .i64 2, .int .i64 0, .slice x.A x.n x.c, .slice x.B x.m x.d], .int .i64 2] W fun e w' => e = .returned (.tuple #[.int .i64 0, .int .i64 0]) ∧ Below W.heap.size W w' := by
  refine (count_any x exA 2 W h).mono ?_
  rintro e w' ⟨he, hb⟩
  rw [ex_count2] at he
  exact ⟨he, hb⟩
theorem ex_same (x y : DV) (W : World) (h : DfaIn W x exA) (h2 : DfaIn W y exA) :
    Calls Try.prog 17 #[dval x exA, .agg #[.int .i64 2, .int .i64 0, .slice y.A y.n y.c, .slice y.B y.m y.d]] W fun e w' => e = .returned (.bool true) ∧ Below W.heap.size W w' := by
  refine (sameDFA_any x y exA exA W h h2).mono ?_
  rintro e w' ⟨he, hb⟩
  exact ⟨by rw [he, decide_eq_true rfl], hb⟩
theorem eq_true (A1 A2 : Option Addr) (n c d : Nat) (L : List Int) (w : World) (hL : L.length = n) (hn : n ≤ 17592186044416) (h1 : CellsIn w A1 (ints L)) (h2 : CellsIn w A2 (ints L)) :
    Calls Try.prog 18 #[.slice A1 n c, .slice A2 n d] w fun e w' => e = .returned (.bool true) ∧ Below w.heap.size w w' := by
  refine (equal_nums A1 A2 n c n d L L w hL hL hn hn h1 h2).mono ?_
  rintro e w' ⟨he, hb⟩
  exact ⟨by rw [he, decide_eq_true rfl], hb⟩
set_option maxHeartbeats 16000000 in
theorem awake_any (w : World) : Calls Try.prog 4 #[] w fun e w' => e = .returned (.bool true) ∧ Below w.heap.size w w' := by
  obtain ⟨wa, hwa⟩ : ∃ z, z = (((((w.alloc (.cells #[.int .i64 1, .int .i64 (-1)] 3)).alloc (.cells #[.int .i64 (-1), .int .i64 0] 3)).alloc (.cells #[.slice (some ⟨w.heap.size, 0, none⟩) 2 2, .slice (some ⟨w.heap.size + 1, 0, none⟩) 2 2] 39)).alloc (.cells #[.bool false, .bool true] 4)).alloc (.cells #[.int .i64 2, .int .i64 0, .slice (some ⟨w.heap.size + 1 + 1, 0, none⟩) 2 2, .slice (some ⟨w.heap.size + 1 + 1 + 1, 0, none⟩) 2 2] 25)) := ⟨_, rfl⟩
  have VA := Lib.hid (show Hp w [box 25 (w.heap.size + 1 + 1 + 1 + 1) [.int .i64 2, .int .i64 0, .slice (some ⟨w.heap.size + 1 + 1, 0, none⟩) 2 2, .slice (some ⟨w.heap.size + 1 + 1 + 1, 0, none⟩) 2 2], flags (some ⟨w.heap.size + 1 + 1 + 1, 0, none⟩) 2 2 [false, true], rlist (some ⟨w.heap.size + 1 + 1, 0, none⟩) 2 2 2 [w.heap.size, w.heap.size + 1], nums (some ⟨w.heap.size + 1, 0, none⟩) 2 2 [-1, 0], nums (some ⟨w.heap.size, 0, none⟩) 2 2 [1, -1]] wa by
    have := ((((((Hp.start w).lit 3 1 2 [.int .i64 1, .int .i64 (-1)] rfl (by omega)).lit 3 1 2 [.int .i64 (-1), .int .i64 0] rfl (by omega)).lit 39 1 2 [.slice (some ⟨w.heap.size, 0, none⟩) 2 2, .slice (some ⟨w.heap.size + 1, 0, none⟩) 2 2] rfl (by omega)).lit 4 1 2 [.bool false, .bool true] rfl (by omega)).box_new 25 [.int .i64 2, .int .i64 0, .slice (some ⟨w.heap.size + 1 + 1, 0, none⟩) 2 2, .slice (some ⟨w.heap.size + 1 + 1 + 1, 0, none⟩) 2 2])
    rw [hwa]; simpa [nums, ints, rlist, flags, bools] using this)
  have HWA := Lib.hid hwa
  clear hwa
  go_enter Try.func4, Try.ntmps4
  go_upto_region 2 with fail
  rw [← HWA.out]
  clear HWA
  have DA := Lib.hid (show DfaIn wa ⟨some ⟨w.heap.size + 1 + 1, 0, none⟩, 2, 2, some ⟨w.heap.size + 1 + 1 + 1, 0, none⟩, 2, 2⟩ exA from OwnDfa.dfa ⟨2, [w.heap.size, w.heap.size + 1], rfl, by omega, by show 2 ≤ 1000; omega, VA.out.pick [2, 1, 4, 3] (by decide) rfl⟩ rfl)
  have BA := Lib.hid (VA.out.box_there (i := 0) rfl (by show 0 < 4; omega))
  have HB0 := Lib.hid VA.out.below
  obtain ⟨wb, hwb⟩ : ∃ z, z = ((((((wa.alloc (.cells #[.int .i64 1, .int .i64 (-1)] 3)).alloc (.cells #[.int .i64 2, .int .i64 0] 3)).alloc (.cells #[.int .i64 (-1), .int .i64 (-1)] 3)).alloc (.cells #[.slice (some ⟨wa.heap.size, 0, none⟩) 2 2, .slice (some ⟨wa.heap.size + 1, 0, none⟩) 2 2, .slice (some ⟨wa.heap.size + 1 + 1, 0, none⟩) 2 2] 39)).alloc (.cells #[.bool false, .bool true, .bool false] 4)).alloc (.cells #[.int .i64 2, .int .i64 0, .slice (some ⟨wa.heap.size + 1 + 1 + 1, 0, none⟩) 3 3, .slice (some ⟨wa.heap.size + 1 + 1 + 1 + 1, 0, none⟩) 3 3] 25)) := ⟨_, rfl⟩
  have VB := Lib.hid (show Hp wa [box 25 (wa.heap.size + 1 + 1 + 1 + 1 + 1) [.int .i64 2, .int .i64 0, .slice (some ⟨wa.heap.size + 1 + 1 + 1, 0, none⟩) 3 3, .slice (some ⟨wa.heap.size + 1 + 1 + 1 + 1, 0, none⟩) 3 3], flags (some ⟨wa.heap.size + 1 + 1 + 1 + 1, 0, none⟩) 3 3 [false, true, false], rlist (some ⟨wa.heap.size + 1 + 1 + 1, 0, none⟩) 3 3 2 [wa.heap.size, wa.heap.size + 1, wa.heap.size + 1 + 1], nums (some ⟨wa.heap.size + 1 + 1, 0, none⟩) 2 2 [-1, -1], nums (some ⟨wa.heap.size + 1, 0, none⟩) 2 2 [2, 0], nums (some ⟨wa.heap.size, 0, none⟩) 2 2 [1, -1]] wb by
    have := (((((((Hp.start wa).lit 3 1 2 [.int .i64 1, .int .i64 (-1)] rfl (by omega)).lit 3 1 2 [.int .i64 2, .int .i64 0] rfl (by omega)).lit 3 1 2 [.int .i64 (-1), .int .i64 (-1)] rfl (by omega)).lit 39 1 3 [.slice (some ⟨wa.heap.size, 0, none⟩) 2 2, .slice (some ⟨wa.heap.size + 1, 0, none⟩) 2 2, .slice (some ⟨wa.heap.size + 1 + 1, 0, none⟩) 2 2] rfl (by omega)).lit 4 1 3 [.bool false, .bool true, .bool false] rfl (by omega)).box_new 25 [.int .i64 2, .int .i64 0, .slice (some ⟨wa.heap.size + 1 + 1 + 1, 0, none⟩) 3 3, .slice (some ⟨wa.heap.size + 1 + 1 + 1 + 1, 0, none⟩) 3 3])
    rw [hwb]; simpa [nums, ints, rlist, flags, bools] using this)
  have HWB := Lib.hid hwb
  clear hwb VA
  go_upto_region 3 with fail
  rw [← HWB.out]
  clear HWB
  obtain ⟨b_0, _, b_9⟩ := VB.out.box_at (i := 0) (j := 0) rfl rfl
  obtain ⟨b_1, _, _⟩ := VB.out.box_at (i := 0) (j := 1) rfl rfl
  obtain ⟨b_2, _, _⟩ := VB.out.box_at (i := 0) (j := 2) rfl rfl
  obtain ⟨b_3, _, _⟩ := VB.out.box_at (i := 0) (j := 3) rfl rfl
  go_wp2_with fail
  refine (ex_minimal ⟨some ⟨wa.heap.size + 1 + 1 + 1, 0, none⟩, 3, 3, some ⟨wa.heap.size + 1 + 1 + 1 + 1, 0, none⟩, 3, 3⟩ wb (show DfaIn _ ⟨some ⟨wa.heap.size + 1 + 1 + 1, 0, none⟩, 3, 3, some ⟨wa.heap.size + 1 + 1 + 1 + 1, 0, none⟩, 3, 3⟩ exB from OwnDfa.dfa ⟨2, [wa.heap.size, wa.heap.size + 1, wa.heap.size + 1 + 1], rfl, by omega, by show 3 ≤ 1000; omega, VB.out.pick [2, 1, 5, 4, 3] (by decide) rfl⟩ rfl)).mono ?_
  rintro e w1 ⟨mA, mn, mc, mB, md, k, g1, g2, rfl, hk, hmn, hp⟩
  have V1 := Lib.hid (VB.out.join hp)
  have HK := Lib.hid hk
  have HMN := Lib.hid hmn
  obtain ⟨w2, hw2⟩ : ∃ z, z = w1.alloc (.cells #[.int .i64 2, .int .i64 0, .slice mA mn mc, .slice mB mn md] 25) := ⟨_, rfl⟩
  have V2 := Lib.hid (show Hp wa [box 25 w1.heap.size [.int .i64 2, .int .i64 0, .slice mA mn mc, .slice mB mn md], rlist mA mn mc k [g1, g2], flags mB mn md [false, true], nums (some ⟨g1, 0, none⟩) k k [1, -1], nums (some ⟨g2, 0, none⟩) k k [-1, 0], box 25 (wa.heap.size + 1 + 1 + 1 + 1 + 1) [.int .i64 2, .int .i64 0, .slice (some ⟨wa.heap.size + 1 + 1 + 1, 0, none⟩) 3 3, .slice (some ⟨wa.heap.size + 1 + 1 + 1 + 1, 0, none⟩) 3 3], flags (some ⟨wa.heap.size + 1 + 1 + 1 + 1, 0, none⟩) 3 3 [false, true, false], rlist (some ⟨wa.heap.size + 1 + 1 + 1, 0, none⟩) 3 3 2 [wa.heap.size, wa.heap.size + 1, wa.heap.size + 1 + 1], nums (some ⟨wa.heap.size + 1 + 1, 0, none⟩) 2 2 [-1, -1], nums (some ⟨wa.heap.size + 1, 0, none⟩) 2 2 [2, 0], nums (some ⟨wa.heap.size, 0, none⟩) 2 2 [1, -1]] w2 by rw [hw2]; exact V1.out.box_new 25 [.int .i64 2, .int .i64 0, .slice mA mn mc, .slice mB mn md])
  have HW2 := Lib.hid hw2
  clear hw2 hp V1 VB hk hmn
  clear b_9 b_0 b_1 b_2 b_3
  go_upto_region 4 with fail
  rw [← HW2.out]
  clear HW2
  obtain ⟨a_0, _, a_9⟩ := (BA.out.below V2.out.below).at' (j := 0) rfl
  obtain ⟨a_1, _, aq1_9⟩ := (BA.out.below V2.out.below).at' (j := 1) rfl
  obtain ⟨a_2, _, aq2_9⟩ := (BA.out.below V2.out.below).at' (j := 2) rfl
  obtain ⟨a_3, _, aq3_9⟩ := (BA.out.below V2.out.below).at' (j := 3) rfl
  go_wp2_with fail
  refine (ex_shortest ⟨some ⟨w.heap.size + 1 + 1, 0, none⟩, 2, 2, some ⟨w.heap.size + 1 + 1 + 1, 0, none⟩, 2, 2⟩ w2 (DA.out.below V2.out.below)).mono ?_
  rintro e w3 ⟨G, cG, rfl, hG⟩
  have V3 := Lib.hid (V2.out.join hG)
  clear hG V2
  clear a_9 a_0 a_1 a_2 a_3 aq1_9 aq2_9 aq3_9
  obtain ⟨a_0, _, a_9⟩ := (BA.out.below V3.out.below).at' (j := 0) rfl
  obtain ⟨a_1, _, aq1_9⟩ := (BA.out.below V3.out.below).at' (j := 1) rfl
  obtain ⟨a_2, _, aq2_9⟩ := (BA.out.below V3.out.below).at' (j := 2) rfl
  obtain ⟨a_3, _, aq3_9⟩ := (BA.out.below V3.out.below).at' (j := 3) rfl
  go_wp2_with fail
  refine (ex_c3 ⟨some ⟨w.heap.size + 1 + 1, 0, none⟩, 2, 2, some ⟨w.heap.size + 1 + 1 + 1, 0, none⟩, 2, 2⟩ w3 (DA.out.below V3.out.below)).mono ?_
  rintro e w4 ⟨rfl, b4⟩
  have V4 := Lib.hid (V3.out.go b4)
  clear b4 V3
  clear a_9 a_0 a_1 a_2 a_3 aq1_9 aq2_9 aq3_9
  obtain ⟨a_0, _, a_9⟩ := (BA.out.below V4.out.below).at' (j := 0) rfl
  obtain ⟨a_1, _, aq1_9⟩ := (BA.out.below V4.out.below).at' (j := 1) rfl
  obtain ⟨a_2, _, aq2_9⟩ := (BA.out.below V4.out.below).at' (j := 2) rfl
  obtain ⟨a_3, _, aq3_9⟩ := (BA.out.below V4.out.below).at' (j := 3) rfl
  go_wp2_with fail
  refine (ex_c2 ⟨some ⟨w.heap.size + 1 + 1, 0, none⟩, 2, 2, some ⟨w.heap.size + 1 + 1 + 1, 0, none⟩, 2, 2⟩ w4 (DA.out.below V4.out.below)).mono ?_
  rintro e w5 ⟨rfl, b5⟩
  have V5 := Lib.hid (V4.out.go b5)
  clear b5 V4
  clear a_9 a_0 a_1 a_2 a_3 aq1_9 aq2_9 aq3_9
  obtain ⟨a_0, _, a_9⟩ := (BA.out.below V5.out.below).at' (j := 0) rfl
  obtain ⟨a_1, _, aq1_9⟩ := (BA.out.below V5.out.below).at' (j := 1) rfl
  obtain ⟨a_2, _, aq2_9⟩ := (BA.out.below V5.out.below).at' (j := 2) rfl
  obtain ⟨a_3, _, aq3_9⟩ := (BA.out.below V5.out.below).at' (j := 3) rfl
  obtain ⟨b_0, _, b_9⟩ := V5.out.box_at (i := 6) (j := 0) rfl rfl
  obtain ⟨b_1, _, _⟩ := V5.out.box_at (i := 6) (j := 1) rfl rfl
  obtain ⟨b_2, _, _⟩ := V5.out.box_at (i := 6) (j := 2) rfl rfl
  obtain ⟨b_3, _, _⟩ := V5.out.box_at (i := 6) (j := 3) rfl rfl
  go_wp2_with fail
  refine (ex_product ⟨some ⟨w.heap.size + 1 + 1, 0, none⟩, 2, 2, some ⟨w.heap.size + 1 + 1 + 1, 0, none⟩, 2, 2⟩ ⟨some ⟨wa.heap.size + 1 + 1 + 1, 0, none⟩, 3, 3, some ⟨wa.heap.size + 1 + 1 + 1 + 1, 0, none⟩, 3, 3⟩ w5 (DA.out.below V5.out.below) (show DfaIn _ ⟨some ⟨wa.heap.size + 1 + 1 + 1, 0, none⟩, 3, 3, some ⟨wa.heap.size + 1 + 1 + 1 + 1, 0, none⟩, 3, 3⟩ exB from OwnDfa.dfa ⟨2, [wa.heap.size, wa.heap.size + 1, wa.heap.size + 1 + 1], rfl, by omega, by show 3 ≤ 1000; omega, V5.out.pick [8, 7, 11, 10, 9] (by decide) rfl⟩ rfl)).mono ?_
  rintro e w6 ⟨pA, pc, pB, pm, pd, rfl, b6⟩
  have V6 := Lib.hid (V5.out.go b6)
  obtain ⟨w7, hw7⟩ : ∃ z, z = w6.alloc (.cells #[.int .i64 2, .int .i64 (-1), .slice pA 0 pc, .slice pB pm pd] 25) := ⟨_, rfl⟩
  have V7 := Lib.hid (show Hp wa [box 25 w6.heap.size [.int .i64 2, .int .i64 (-1), .slice pA 0 pc, .slice pB pm pd], nums G 1 cG [0], box 25 w1.heap.size [.int .i64 2, .int .i64 0, .slice mA mn mc, .slice mB mn md], rlist mA mn mc k [g1, g2], flags mB mn md [false, true], nums (some ⟨g1, 0, none⟩) k k [1, -1], nums (some ⟨g2, 0, none⟩) k k [-1, 0], box 25 (wa.heap.size + 1 + 1 + 1 + 1 + 1) [.int .i64 2, .int .i64 0, .slice (some ⟨wa.heap.size + 1 + 1 + 1, 0, none⟩) 3 3, .slice (some ⟨wa.heap.size + 1 + 1 + 1 + 1, 0, none⟩) 3 3], flags (some ⟨wa.heap.size + 1 + 1 + 1 + 1, 0, none⟩) 3 3 [false, true, false], rlist (some ⟨wa.heap.size + 1 + 1 + 1, 0, none⟩) 3 3 2 [wa.heap.size, wa.heap.size + 1, wa.heap.size + 1 + 1], nums (some ⟨wa.heap.size + 1 + 1, 0, none⟩) 2 2 [-1, -1], nums (some ⟨wa.heap.size + 1, 0, none⟩) 2 2 [2, 0], nums (some ⟨wa.heap.size, 0, none⟩) 2 2 [1, -1]] w7 by rw [hw7]; exact V6.out.box_new 25 [.int .i64 2, .int .i64 (-1), .slice pA 0 pc, .slice pB pm pd])
  have HW7 := Lib.hid hw7
  clear hw7 b6 V5 V6
  clear a_9 a_0 a_1 a_2 a_3 aq1_9 aq2_9 aq3_9 b_9 b_0 b_1 b_2 b_3
  go_upto_region 8 with fail
  rw [← HW7.out]
  clear HW7
  obtain ⟨b_0, _, b_9⟩ := V7.out.box_at (i := 7) (j := 0) rfl rfl
  obtain ⟨b_1, _, _⟩ := V7.out.box_at (i := 7) (j := 1) rfl rfl
  obtain ⟨b_2, _, _⟩ := V7.out.box_at (i := 7) (j := 2) rfl rfl
  obtain ⟨b_3, _, _⟩ := V7.out.box_at (i := 7) (j := 3) rfl rfl
  obtain ⟨f2, f3, f9⟩ := V7.out.flag_at (i := 8) (j := 2) rfl (by decide)
  obtain ⟨w8, hw8⟩ : ∃ z, z = w7.setCell ⟨wa.heap.size + 1 + 1 + 1 + 1, 2, none⟩ (.bool true) := ⟨_, rfl⟩
  have V8 := Lib.hid (show Hp wa [box 25 w6.heap.size [.int .i64 2, .int .i64 (-1), .slice pA 0 pc, .slice pB pm pd], nums G 1 cG [0], box 25 w1.heap.size [.int .i64 2, .int .i64 0, .slice mA mn mc, .slice mB mn md], rlist mA mn mc k [g1, g2], flags mB mn md [false, true], nums (some ⟨g1, 0, none⟩) k k [1, -1], nums (some ⟨g2, 0, none⟩) k k [-1, 0], box 25 (wa.heap.size + 1 + 1 + 1 + 1 + 1) [.int .i64 2, .int .i64 0, .slice (some ⟨wa.heap.size + 1 + 1 + 1, 0, none⟩) 3 3, .slice (some ⟨wa.heap.size + 1 + 1 + 1 + 1, 0, none⟩) 3 3], flags (some ⟨wa.heap.size + 1 + 1 + 1 + 1, 0, none⟩) 3 3 [false, true, true], rlist (some ⟨wa.heap.size + 1 + 1 + 1, 0, none⟩) 3 3 2 [wa.heap.size, wa.heap.size + 1, wa.heap.size + 1 + 1], nums (some ⟨wa.heap.size + 1 + 1, 0, none⟩) 2 2 [-1, -1], nums (some ⟨wa.heap.size + 1, 0, none⟩) 2 2 [2, 0], nums (some ⟨wa.heap.size, 0, none⟩) 2 2 [1, -1]] w8 by rw [hw8]; exact V7.out.flag_set (i := 8) rfl 2 true)
  have HW8 := Lib.hid hw8
  clear hw8 V7
  go_upto_region 9 with fail
  rw [← HW8.out]
  clear HW8 f2 f3 f9
  clear b_9 b_0 b_1 b_2 b_3
  obtain ⟨a_0, _, a_9⟩ := (BA.out.below V8.out.below).at' (j := 0) rfl
  obtain ⟨a_1, _, aq1_9⟩ := (BA.out.below V8.out.below).at' (j := 1) rfl
  obtain ⟨a_2, _, aq2_9⟩ := (BA.out.below V8.out.below).at' (j := 2) rfl
  obtain ⟨a_3, _, aq3_9⟩ := (BA.out.below V8.out.below).at' (j := 3) rfl
  obtain ⟨b_0, _, b_9⟩ := V8.out.box_at (i := 7) (j := 0) rfl rfl
  obtain ⟨b_1, _, _⟩ := V8.out.box_at (i := 7) (j := 1) rfl rfl
  obtain ⟨b_2, _, _⟩ := V8.out.box_at (i := 7) (j := 2) rfl rfl
  obtain ⟨b_3, _, _⟩ := V8.out.box_at (i := 7) (j := 3) rfl rfl
  go_wp2_with fail
  refine (ex_difference ⟨some ⟨w.heap.size + 1 + 1, 0, none⟩, 2, 2, some ⟨w.heap.size + 1 + 1 + 1, 0, none⟩, 2, 2⟩ ⟨some ⟨wa.heap.size + 1 + 1 + 1, 0, none⟩, 3, 3, some ⟨wa.heap.size + 1 + 1 + 1 + 1, 0, none⟩, 3, 3⟩ w8 (DA.out.below V8.out.below) (show DfaIn _ ⟨some ⟨wa.heap.size + 1 + 1 + 1, 0, none⟩, 3, 3, some ⟨wa.heap.size + 1 + 1 + 1 + 1, 0, none⟩, 3, 3⟩ exC from OwnDfa.dfa ⟨2, [wa.heap.size, wa.heap.size + 1, wa.heap.size + 1 + 1], rfl, by omega, by show 3 ≤ 1000; omega, V8.out.pick [9, 8, 12, 11, 10] (by decide) rfl⟩ rfl)).mono ?_
  rintro e w9 ⟨GD, cD, rfl, hG, b9⟩
  have V9 := Lib.hid (V8.out.go b9)
  have G9 := Lib.hid hG
  clear hG b9 V8
  clear a_9 a_0 a_1 a_2 a_3 aq1_9 aq2_9 aq3_9 b_9 b_0 b_1 b_2 b_3
  obtain ⟨m_0, _, m_9⟩ := V9.out.box_at (i := 2) (j := 0) rfl rfl
  obtain ⟨m_1, _, _⟩ := V9.out.box_at (i := 2) (j := 1) rfl rfl
  obtain ⟨m_2, _, _⟩ := V9.out.box_at (i := 2) (j := 2) rfl rfl
  obtain ⟨m_3, _, _⟩ := V9.out.box_at (i := 2) (j := 3) rfl rfl
  obtain ⟨a_0, _, a_9⟩ := (BA.out.below V9.out.below).at' (j := 0) rfl
  obtain ⟨a_1, _, aq1_9⟩ := (BA.out.below V9.out.below).at' (j := 1) rfl
  obtain ⟨a_2, _, aq2_9⟩ := (BA.out.below V9.out.below).at' (j := 2) rfl
  obtain ⟨a_3, _, aq3_9⟩ := (BA.out.below V9.out.below).at' (j := 3) rfl
  go_wp2_with fail
  refine (ex_same ⟨mA, mn, mc, mB, mn, md⟩ ⟨some ⟨w.heap.size + 1 + 1, 0, none⟩, 2, 2, some ⟨w.heap.size + 1 + 1 + 1, 0, none⟩, 2, 2⟩ w9 (show DfaIn _ _ exA from OwnDfa.dfa ⟨k, [g1, g2], rfl, HK.out, HMN.out, V9.out.pick [3, 4, 5, 6] (by decide) rfl⟩ rfl) (DA.out.below V9.out.below)).mono ?_
  rintro e w10 ⟨rfl, b10⟩
  have V10 := Lib.hid (V9.out.go b10)
  have G10 := Lib.hid (G9.out.below b10)
  clear b10 V9 G9
  clear a_9 a_0 a_1 a_2 a_3 aq1_9 aq2_9 aq3_9 m_9 m_0 m_1 m_2 m_3
  obtain ⟨w11, hw11⟩ : ∃ z, z = w10.alloc (.cells #[.int .i64 0] 3) := ⟨_, rfl⟩
  have V11 := Lib.hid (show Hp wa (nums (some ⟨w10.heap.size, 0, none⟩) 1 1 [0] :: _) w11 by rw [hw11]; exact V10.out.lit 3 1 1 [.int .i64 0] rfl (by omega))
  have G11 := Lib.hid (G10.out.below (show Below w10.heap.size w10 w11 by rw [hw11]; exact bnew _ _))
  have HW11 := Lib.hid hw11
  clear hw11 V10 G10
  go_wp2_with fail
  rw [← HW11.out]
  clear HW11
  refine (eq_true G (some ⟨w10.heap.size, 0, none⟩) 1 cG 1 [0] w11 rfl (by omega) (V11.out.cells (i := 2) rfl rfl) (V11.out.cells (i := 0) (c := 1) rfl rfl)).mono ?_
  rintro e w12 ⟨rfl, b12⟩
  have V12 := Lib.hid (V11.out.go b12)
  have G12 := Lib.hid (G11.out.below b12)
  clear b12 V11 G11
  obtain ⟨p_0, _, p_9⟩ := V12.out.box_at (i := 1) (j := 0) rfl rfl
  obtain ⟨p_1, _, _⟩ := V12.out.box_at (i := 1) (j := 1) rfl rfl
  obtain ⟨p_2, _, _⟩ := V12.out.box_at (i := 1) (j := 2) rfl rfl
  obtain ⟨p_3, _, _⟩ := V12.out.box_at (i := 1) (j := 3) rfl rfl
  obtain ⟨w13, hw13⟩ : ∃ z, z = w12.alloc (.cells #[.int .i64 0, .int .i64 0] 3) := ⟨_, rfl⟩
  have V13 := Lib.hid (show Hp wa (nums (some ⟨w12.heap.size, 0, none⟩) 2 2 [0, 0] :: _) w13 by rw [hw13]; exact V12.out.lit 3 1 2 [.int .i64 0, .int .i64 0] rfl (by omega))
  have G13 := Lib.hid (G12.out.below (show Below w12.heap.size w12 w13 by rw [hw13]; exact bnew _ _))
  have HW13 := Lib.hid hw13
  clear hw13 V12 G12
  go_wp2_with fail
  rw [← HW13.out]
  clear HW13
  refine (eq_true GD (some ⟨w12.heap.size, 0, none⟩) 2 cD 2 [0, 0] w13 rfl (by omega) G13.out (V13.out.cells (i := 0) (c := 2) rfl rfl)).mono ?_
  rintro e w14 ⟨rfl, b14⟩
  have V14 := Lib.hid (V13.out.go b14)
  clear b14 V13 G13
  go_wp2_with fail
  go_ret
  exact ⟨rfl, btwo HB0.out V14.out.below⟩
end Go.Proofs.Ytdkdfmflghbhiaa
