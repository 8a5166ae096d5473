/- What the statement about the first word that is accepted answers: true, whatever the input. -/
import Derived.Test.YtbfedfiemkhefaaRn
import Derived.Test.YtbfedfiemkhefaaQz
import Derived.Test.YtbfedfiemkhefaaQy
import Derived.Test.YtbfedfiemkhefaaQt
namespace Go.Proofs.Ytbfedfiemkhefaa
open Go.RowKit
set_option linter.unusedVariables false
set_option linter.unusedSimpArgs false
set_option maxRecDepth 100000

theorem short_cnt {A : Au} {k : Nat} {u : List Nat} (hk : A.Vld k) (h : Fw k (fun u => A.lang u) (some u)) {j : Nat} (hj : j < u.length) (h30 : j < 30) : A.cntR (j : Int) = (0, 0) := by
  have hc : A.cw j A.st = 0 := by
    rw [hk.right.cw_words j A.st hk.right.st_in.1 hk.right.st_in.2, List.countP_eq_zero]
    intro v hv
    obtain ⟨h1, h2⟩ := wordsN_mem.1 hv
    intro ha
    cases h with
    | yes _ h =>
      have := h.2.2 v h2 ha
      have := rk_shorter h2 h.1 (by omega)
      omega
  unfold Au.cntR
  rw [if_pos hk.vE, if_neg (by omega), Int.toNat_natCast, hc]
  rfl
theorem short_acc {A : Au} {k : Nat} {u : List Nat} (hk : A.Vld k) (h : Fw k (fun u => A.lang u) (some u)) : A.accI (u.map Int.ofNat) = true := by
  cases h with
  | yes _ h => rw [hk.accI_nat h.1]; exact h.2.1
theorem vld_same {A : Au} {k k' : Nat} (h : A.Vld k) (g : A.Vld k') : k = k' := by have h1 := h.right.lt; have h2 := g.right.lt; omega
set_option maxHeartbeats 16000000 in
theorem lawshort_any (x : DV) (A : Au) (w : World) (hA : DfaIn w x A) :
    Calls Try.prog 7 #[dval x A] w fun e w' => e = .returned (.bool true) ∧ Below w.heap.size w w' := by
  have HA := Lib.hid hA
  clear hA
  by_cases hf : A.fewB = true
  case neg =>
    have HF := Lib.hid (show A.fewB = false by cases e : A.fewB; rfl; exact absurd e hf)
    clear hf
    obtain ⟨wz, hwz⟩ : ∃ z, z = (w.alloc (.cells #[.int .i64 A.lt, .int .i64 A.st, .slice x.A x.n x.c, .slice x.B x.m x.d] 25)) := ⟨_, rfl⟩
    have V := Lib.hid (show Hp w [box 25 w.heap.size [.int .i64 A.lt, .int .i64 A.st, .slice x.A x.n x.c, .slice x.B x.m x.d]] wz by
      have := ((Hp.start w).box_new 25 [.int .i64 A.lt, .int .i64 A.st, .slice x.A x.n x.c, .slice x.B x.m x.d])
      rw [hwz]; simpa using this)
    have HZ := Lib.hid hwz
    clear hwz
    go_enter Try.func7, Try.ntmps7
    go_upto_region 1 with fail
    rw [← HZ.out]
    clear HZ
    go_wp2_with fail
    refine (awake_any wz).mono ?_
    rintro e w1 ⟨rfl, b1⟩
    have V1 := Lib.hid (V.out.go b1)
    clear b1 V
    obtain ⟨r0_0, _, r0_9⟩ := V1.out.box_at (i := 0) (j := 0) rfl rfl
    obtain ⟨r0_1, _, _⟩ := V1.out.box_at (i := 0) (j := 1) rfl rfl
    obtain ⟨r0_2, _, _⟩ := V1.out.box_at (i := 0) (j := 2) rfl rfl
    obtain ⟨r0_3, _, _⟩ := V1.out.box_at (i := 0) (j := 3) rfl rfl
    go_wp2_with fail
    refine (few_any x A w1 (HA.out.below V1.out.below)).mono ?_
    rintro e w2 ⟨rfl, b2⟩
    rw [HF.out]
    have V2 := Lib.hid (V1.out.go b2)
    clear b2 V1 r0_9 r0_0 r0_1 r0_2 r0_3
    go_wp2_with fail
    refine (awake_any w2).mono ?_
    rintro e w3 ⟨rfl, b3⟩
    have V3 := Lib.hid (V2.out.go b3)
    go_wp2_with fail
    go_ret
    exact ⟨rfl, V3.out.below⟩
  have HF := Lib.hid hf
  clear hf
  obtain ⟨wz, hwz⟩ : ∃ z, z = (w.alloc (.cells #[.int .i64 A.lt, .int .i64 A.st, .slice x.A x.n x.c, .slice x.B x.m x.d] 25)) := ⟨_, rfl⟩
  have V := Lib.hid (show Hp w [box 25 w.heap.size [.int .i64 A.lt, .int .i64 A.st, .slice x.A x.n x.c, .slice x.B x.m x.d]] wz by
    have := ((Hp.start w).box_new 25 [.int .i64 A.lt, .int .i64 A.st, .slice x.A x.n x.c, .slice x.B x.m x.d])
    rw [hwz]; simpa using this)
  have HZ := Lib.hid hwz
  clear hwz
  go_enter Try.func7, Try.ntmps7
  go_upto_region 1 with fail
  rw [← HZ.out]
  clear HZ
  go_wp2_with fail
  refine (awake_any wz).mono ?_
  rintro e w1 ⟨rfl, b1⟩
  have V1 := Lib.hid (V.out.go b1)
  clear b1 V
  obtain ⟨r0_0, _, r0_9⟩ := V1.out.box_at (i := 0) (j := 0) rfl rfl
  obtain ⟨r0_1, _, _⟩ := V1.out.box_at (i := 0) (j := 1) rfl rfl
  obtain ⟨r0_2, _, _⟩ := V1.out.box_at (i := 0) (j := 2) rfl rfl
  obtain ⟨r0_3, _, _⟩ := V1.out.box_at (i := 0) (j := 3) rfl rfl
  go_wp2_with fail
  refine (few_any x A w1 (HA.out.below V1.out.below)).mono ?_
  rintro e w2 ⟨rfl, b2⟩
  rw [HF.out]
  have V2 := Lib.hid (V1.out.go b2)
  clear b2 V1 r0_9 r0_0 r0_1 r0_2 r0_3
  obtain ⟨r0_0, _, r0_9⟩ := V2.out.box_at (i := 0) (j := 0) rfl rfl
  obtain ⟨r0_1, _, _⟩ := V2.out.box_at (i := 0) (j := 1) rfl rfl
  obtain ⟨r0_2, _, _⟩ := V2.out.box_at (i := 0) (j := 2) rfl rfl
  obtain ⟨r0_3, _, _⟩ := V2.out.box_at (i := 0) (j := 3) rfl rfl
  go_wp2_with fail
  refine (copied_any x A w2 (HA.out.below V2.out.below) HF.out).mono ?_
  rintro e w3 ⟨y, rfl, hy, b3⟩
  have HY := Lib.hid hy
  have V3 := Lib.hid (V2.out.go b3)
  clear hy b3 V2 r0_9 r0_0 r0_1 r0_2 r0_3
  go_wp2_with fail
  refine (shortest_any y A w3 HY.out).mono ?_
  rintro e w4 ⟨b4, hq4⟩
  have V4 := Lib.hid (V3.out.go b4)
  clear b4
  rcases hq4 with ⟨h1, rfl⟩ | ⟨k, hka, _, ⟨hfw, rfl⟩ | ⟨u, G, n, c, hfw, rfl, hp4, hn⟩⟩
  · have H1 := Lib.hid h1
    clear h1
    clear V3
    obtain ⟨r0_0, _, r0_9⟩ := V4.out.box_at (i := 0) (j := 0) rfl rfl
    obtain ⟨r0_1, _, _⟩ := V4.out.box_at (i := 0) (j := 1) rfl rfl
    obtain ⟨r0_2, _, _⟩ := V4.out.box_at (i := 0) (j := 2) rfl rfl
    obtain ⟨r0_3, _, _⟩ := V4.out.box_at (i := 0) (j := 3) rfl rfl
    go_wp2_with fail
    refine (rshortest_any x A w4 (HA.out.below V4.out.below)).mono ?_
    rintro e w5 ⟨b5, hq5⟩
    have V5 := Lib.hid (V4.out.go b5)
    rcases hq5 with ⟨_, rfl⟩ | ⟨k, hka, _⟩
    · clear b5 V4 r0_9 r0_0 r0_1 r0_2 r0_3
      obtain ⟨r0_0, _, r0_9⟩ := V5.out.box_at (i := 0) (j := 0) rfl rfl
      obtain ⟨r0_1, _, _⟩ := V5.out.box_at (i := 0) (j := 1) rfl rfl
      obtain ⟨r0_2, _, _⟩ := V5.out.box_at (i := 0) (j := 2) rfl rfl
      obtain ⟨r0_3, _, _⟩ := V5.out.box_at (i := 0) (j := 3) rfl rfl
      go_wp2_with fail
      refine (eq_true none none 0 0 0 [] w5 rfl (by omega) (CellsIn.nil _ _) (CellsIn.nil _ _)).mono ?_
      rintro e w6 ⟨rfl, b6⟩
      have V6 := Lib.hid (V5.out.go b6)
      clear b6 V5
      go_wp2_with fail
      refine (eq_true none none 0 0 0 [] w6 rfl (by omega) (CellsIn.nil _ _) (CellsIn.nil _ _)).mono ?_
      rintro e w7 ⟨rfl, b7⟩
      have V7 := Lib.hid (V6.out.go b7)
      clear b7 V6
      go_wp2_with fail
      go_ret
      exact ⟨rfl, V7.out.below⟩
    · exact absurd (H1.out.symm.trans hka.vE) (by decide)
  · have H1 := Lib.hid hfw
    have HK := Lib.hid hka
    clear hfw hka
    clear V3
    obtain ⟨r0_0, _, r0_9⟩ := V4.out.box_at (i := 0) (j := 0) rfl rfl
    obtain ⟨r0_1, _, _⟩ := V4.out.box_at (i := 0) (j := 1) rfl rfl
    obtain ⟨r0_2, _, _⟩ := V4.out.box_at (i := 0) (j := 2) rfl rfl
    obtain ⟨r0_3, _, _⟩ := V4.out.box_at (i := 0) (j := 3) rfl rfl
    go_wp2_with fail
    refine (rshortest_any x A w4 (HA.out.below V4.out.below)).mono ?_
    rintro e w5 ⟨b5, hq5⟩
    have V5 := Lib.hid (V4.out.go b5)
    rcases hq5 with ⟨h1, _⟩ | ⟨k', hka, _, ⟨_, rfl⟩ | ⟨u, G, n, c, hfw, _⟩⟩
    · exact absurd (h1.symm.trans HK.out.vE) (by decide)
    · clear b5 V4 r0_9 r0_0 r0_1 r0_2 r0_3
      obtain ⟨r0_0, _, r0_9⟩ := V5.out.box_at (i := 0) (j := 0) rfl rfl
      obtain ⟨r0_1, _, _⟩ := V5.out.box_at (i := 0) (j := 1) rfl rfl
      obtain ⟨r0_2, _, _⟩ := V5.out.box_at (i := 0) (j := 2) rfl rfl
      obtain ⟨r0_3, _, _⟩ := V5.out.box_at (i := 0) (j := 3) rfl rfl
      go_wp2_with fail
      refine (eq_true none none 0 0 0 [] w5 rfl (by omega) (CellsIn.nil _ _) (CellsIn.nil _ _)).mono ?_
      rintro e w6 ⟨rfl, b6⟩
      have V6 := Lib.hid (V5.out.go b6)
      clear b6 V5
      go_wp2_with fail
      refine (eq_true none none 0 0 0 [] w6 rfl (by omega) (CellsIn.nil _ _) (CellsIn.nil _ _)).mono ?_
      rintro e w7 ⟨rfl, b7⟩
      have V7 := Lib.hid (V6.out.go b7)
      clear b7 V6
      go_wp2_with fail
      go_ret
      exact ⟨rfl, V7.out.below⟩
    · obtain rfl := vld_same HK.out hka
      have := H1.out.uniq hfw
      cases this
  · have H1 := Lib.hid hfw
    have HK := Lib.hid hka
    have HP4 := Lib.hid hp4
    clear hfw hka hp4
    clear V3
    obtain ⟨r0_0, _, r0_9⟩ := V4.out.box_at (i := 0) (j := 0) rfl rfl
    obtain ⟨r0_1, _, _⟩ := V4.out.box_at (i := 0) (j := 1) rfl rfl
    obtain ⟨r0_2, _, _⟩ := V4.out.box_at (i := 0) (j := 2) rfl rfl
    obtain ⟨r0_3, _, _⟩ := V4.out.box_at (i := 0) (j := 3) rfl rfl
    go_wp2_with fail
    refine (rshortest_any x A w4 (HA.out.below V4.out.below)).mono ?_
    rintro e w5 ⟨b5, hq5⟩
    have V5 := Lib.hid (V4.out.go b5)
    rcases hq5 with ⟨h1, _⟩ | ⟨k', hka, _, ⟨hfw, _⟩ | ⟨u', G', n', c', hfw, rfl, hp5, hn'⟩⟩
    · exact absurd (h1.symm.trans HK.out.vE) (by decide)
    · obtain rfl := vld_same HK.out hka
      have := H1.out.uniq hfw
      cases this
    · obtain rfl := vld_same HK.out hka
      have hu := H1.out.uniq hfw
      injection hu with hu
      subst hu
      have hln : u.length = n := by have := HP4.out.num_len (i := 0) rfl; rw [List.length_map] at this; exact this
      have hln' : u.length = n' := by have := hp5.num_len (i := 0) rfl; rw [List.length_map] at this; exact this
      obtain rfl : n = n' := by omega
      have HL := Lib.hid hln
      have HC4 := Lib.hid ((HP4.out.cells (i := 0) (A := G) (c := c) rfl rfl).below b5)
      have HC5 := Lib.hid (hp5.cells (i := 0) (A := G') (c := c') rfl rfl)
      clear b5 V4 hp5 HP4 hka hln hln' hfw hn' r0_9 r0_0 r0_1 r0_2 r0_3
      go_wp2_with fail
      refine (eq_true G G' n c c' (u.map Int.ofNat) w5 (by rw [List.length_map]; exact HL.out) (by omega) HC4.out HC5.out).mono ?_
      rintro e w6 ⟨rfl, b6⟩
      have V6 := Lib.hid (V5.out.go b6)
      have HC6 := Lib.hid (HC4.out.below b6)
      clear b6 V5 HC4 HC5
      have HACC := Lib.hid (short_acc HK.out H1.out)
      obtain ⟨r0_0, _, r0_9⟩ := V6.out.box_at (i := 0) (j := 0) rfl rfl
      obtain ⟨r0_1, _, _⟩ := V6.out.box_at (i := 0) (j := 1) rfl rfl
      obtain ⟨r0_2, _, _⟩ := V6.out.box_at (i := 0) (j := 2) rfl rfl
      obtain ⟨r0_3, _, _⟩ := V6.out.box_at (i := 0) (j := 3) rfl rfl
      go_wp2_with fail
      refine (accepts_any x A G n c (u.map Int.ofNat) w6 (HA.out.below V6.out.below) (by rw [List.length_map]; exact HL.out) (by omega) HC6.out).mono ?_
      rintro e w7 ⟨rfl, b7⟩
      rw [HACC.out]
      have V7 := Lib.hid (V6.out.go b7)
      clear b7 V6 HC6 r0_9 r0_0 r0_1 r0_2 r0_3
      go_wp2_with fail
      go_loopw [7] (fun cv wr => ∃ j : Nat, cv = .int .i64 (j : Int) ∧ j ≤ n ∧ j ≤ 30 ∧ Hp w [box 25 w.heap.size [.int .i64 A.lt, .int .i64 A.st, .slice x.A x.n x.c, .slice x.B x.m x.d]] wr) (fun cv _ => n - (intOf cv).toNat)
      case atStart => exact ⟨0, rfl, Nat.zero_le _, Nat.zero_le _, V7.out⟩
      case round =>
        clear V7
        obtain ⟨j, rfl, hjn, hj30, hV⟩ := hrel
        obtain ⟨wi, rfl⟩ : ∃ wi : World, wi = wr := ⟨_, rfl⟩
        have V := Lib.hid hV
        clear hV
        by_cases h1 : j < n
        · by_cases h2 : j < 30
          · have HCN := Lib.hid (short_cnt HK.out H1.out (j := j) (by rw [HL.out]; exact h1) h2)
            obtain ⟨r0_0, _, r0_9⟩ := V.out.box_at (i := 0) (j := 0) rfl rfl
            obtain ⟨r0_1, _, _⟩ := V.out.box_at (i := 0) (j := 1) rfl rfl
            obtain ⟨r0_2, _, _⟩ := V.out.box_at (i := 0) (j := 2) rfl rfl
            obtain ⟨r0_3, _, _⟩ := V.out.box_at (i := 0) (j := 3) rfl rfl
            go_wp2_with fail
            refine (count_any x A (j : Int) wi (HA.out.below V.out.below)).mono ?_
            rintro e w8 ⟨rfl, b8⟩
            rw [HCN.out]
            have V8 := Lib.hid (V.out.go b8)
            clear b8 V r0_9 r0_0 r0_1 r0_2 r0_3
            go_wp2_with fail
            go_roundw
            case rel => exact ⟨j + 1, by go_num, by omega, by omega, V8.out⟩
            case measure => simp [intOf]; omega
          · go_wp2_with fail
            go_ret
            exact ⟨rfl, V.out.below⟩
        · go_wp2_with fail
          go_ret
          exact ⟨rfl, V.out.below⟩
end Go.Proofs.Ytbfedfiemkhefaa
