/- The walk of DagTrim. -/
import Derived.Test.YtdoobdfanalnbaaDDq
import Derived.Test.YtdoobdfanalnbaaDDl
import Derived.Test.YtdoobdfanalnbaaDCp
import Derived.Test.YtdoobdfanalnbaaDBd
namespace Go.Proofs.Ytdoobdfanalnbaa
open Go.RowKit
set_option linter.unusedVariables false
set_option linter.unusedSimpArgs false
set_option maxRecDepth 100000

theorem tr_len (g : Gr) : g.tr.1.rs.length ≤ 6000 ∧ g.tr.2.1.length ≤ 2000 := by
  by_cases hv : g.vE = 0
  · have hO := Gr.ok hv
    by_cases hw : g.wy 0 = 0
    · rw [tr_none hv hw]; exact ⟨Nat.zero_le _, Nat.zero_le _⟩
    · rw [tr_ok hv hw]
      refine ⟨?_, ?_⟩
      · show ((g.rs.filter g.tk).map g.ta).length ≤ 6000
        rw [List.length_map]
        exact Nat.le_trans (List.length_filter_le _ _) hO.len
      · show g.tn.length ≤ 2000
        have h1 := tn_len g
        have h2 := hO.n2
        omega
  · rw [tr_bad hv]; exact ⟨Nat.zero_le _, Nat.zero_le _⟩
theorem tr_zero {g : Gr} (h : g.tr.2.2 = 0) : ∃ ns, g.tr.1.tr = (g.tr.1, ns, 0) ∧ g.tr.1.n = (ns.length : Int) := by
  by_cases hv : g.vE = 0
  · by_cases hw : g.wy 0 = 0
    · rw [tr_none hv hw] at h; cases h
    · obtain ⟨ns, h1, h2⟩ := tr_tr hv hw
      rw [tr_ok hv hw]
      exact ⟨ns, h1, by show (g.tn.length : Int) = _; rw [h2]⟩
  · rw [tr_bad hv] at h; exact absurd h hv

set_option maxHeartbeats 32000000 in
theorem lawtrim_any (g : Gr) (A : Option Addr) (n c : Nat) (w : World) (h : GrIn w A n c g) :
    Calls Try.prog 3 #[gval g A n c] w fun e w' => e = .returned (.bool true) ∧ Below w.heap.size w w' := by
  have H := Lib.hid h
  clear h
  obtain ⟨wz, hwz⟩ : ∃ z, z = w.alloc (.cells #[.int .i64 g.n, .slice A n c] 24) := ⟨_, rfl⟩
  have HZ := Lib.hid hwz
  have V := Lib.hid (show Hp w [gbox w.heap.size g A n c] wz by rw [hwz]; exact (Hp.start w).gnew g A n c)
  clear hwz
  go_enter Try.func3, Try.ntmps3
  go_upto_region 1 with fail
  rw [← HZ.out]
  clear HZ
  go_wp2_with fail
  refine (awake_any _).mono ?_
  rintro e w1 ⟨rfl, b1⟩
  have V1 := Lib.hid (V.out.go b1)
  clear b1 V
  obtain ⟨r0, r1, r9⟩ := V1.out.gb (i := 0) rfl
  go_wp2_with fail
  refine (rfew_any g A n c _ (H.out.below V1.out.below)).mono ?_
  rintro e w2 ⟨rfl, b2⟩
  have V2 := Lib.hid (V1.out.go b2)
  clear b2 r0 r1 r9 V1
  by_cases hfew : g.fewB = true
  case neg =>
    rw [show g.fewB = false by cases e : g.fewB; rfl; exact absurd e hfew]
    clear hfew
    go_wp2_with fail
    refine (awake_any _).mono ?_
    rintro e w3 ⟨rfl, b3⟩
    have V3 := Lib.hid (V2.out.go b3)
    clear b3
    go_wp2_with fail
    go_ret
    exact ⟨rfl, V3.out.below⟩
  have HFEW := Lib.hid hfew
  rw [hfew]
  clear hfew
  obtain ⟨R, hR⟩ : ∃ R, R = g.tr.1 := ⟨_, rfl⟩
  obtain ⟨K, hK⟩ : ∃ K, K = g.tr.2.1 := ⟨_, rfl⟩
  obtain ⟨y, hy⟩ : ∃ y, y = g.tr.2.2 := ⟨_, rfl⟩
  have HRL := Lib.hid (show R.rs.length ≤ 6000 by rw [hR]; exact (tr_len g).1)
  have HKL := Lib.hid (show K.length ≤ 2000 by rw [hK]; exact (tr_len g).2)
  have HZ0 := Lib.hid (show y = 0 → ∃ ns, R.tr = (R, ns, 0) ∧ R.n = (ns.length : Int) from fun h => by rw [hR]; exact tr_zero (by rw [← hy]; exact h))
  have HTA := Lib.hid (show ∀ W (A : Option Addr) (c : Nat), GrIn W A n c g → Calls Try.prog 17 #[gval g A n c] W fun e w' => ∃ (C : Option Addr) (m d : Nat) (B : Option Addr) (bn bc : Nat), e = .returned (.tuple #[gval R C m d, .slice B bn bc, .int .i64 y]) ∧ R.rs.length = m ∧ K.length = bn ∧ Hp W [arow C m d R.rs, nums B bn bc K] w' from fun W A c h => by rw [hR, hK, hy]; exact trim_any g A n c W h)
  have HTB := Lib.hid (show ∀ W (A : Option Addr) (c : Nat), GrIn W A n c g → Calls Try.prog 18 #[gval g A n c] W fun e w' => ∃ (C : Option Addr) (m d : Nat) (B : Option Addr) (bn bc : Nat), e = .returned (.tuple #[gval R C m d, .slice B bn bc, .int .i64 y]) ∧ R.rs.length = m ∧ K.length = bn ∧ Hp W [arow C m d R.rs, nums B bn bc K] w' from fun W A c h => by rw [hR, hK, hy]; exact rtrim_any g A n c W h)
  clear hR hK hy
  obtain ⟨gb, hgb⟩ : ∃ gb, gb = w.heap.size := ⟨_, rfl⟩
  have hgb2 := Lib.hid hgb
  rw [← hgb] at V2 ⊢
  clear hgb
  obtain ⟨r0, r1, r9⟩ := V2.out.gb (i := 0) rfl
  go_wp2_with fail
  refine (HTA.out _ A c (H.out.below V2.out.below)).mono ?_
  rintro e w3 ⟨C4, m4, d4, B4, bn4, bc4, rfl, hm, hk, hp⟩
  have HM4 := Lib.hid hm
  have HK4 := Lib.hid hk
  have hmb4 : m4 ≤ 6000 := by have := HRL.out; omega
  have hkb4 : bn4 ≤ 2000 := by have := HKL.out; omega
  have Vx := Lib.hid (V2.out.join hp)
  clear hp hm hk V2 r0 r1 r9
  obtain ⟨b4, hb⟩ : ∃ b, b = w3.heap.size := ⟨_, rfl⟩
  obtain ⟨w4, hw⟩ : ∃ z, z = w3.alloc (.cells #[.int .i64 R.n, .slice C4 m4 d4] 24) := ⟨_, rfl⟩
  have HW := Lib.hid hw
  have V4 := Lib.hid (show Hp w (gbox b4 R C4 m4 d4 :: _) w4 by rw [hw, hb]; exact Vx.out.gnew R C4 m4 d4)
  clear hw
  go_upto_region 4 with fail
  rw [← HW.out, ← hb]
  clear HW hb Vx
  obtain ⟨r0, r1, r9⟩ := V4.out.gb (i := 3) rfl
  go_wp2_with fail
  refine (HTB.out _ A c (H.out.below V4.out.below)).mono ?_
  rintro e w5 ⟨C6, m6, d6, B6, bn6, bc6, rfl, hm, hk, hp⟩
  have HM6 := Lib.hid hm
  have HK6 := Lib.hid hk
  have hmb6 : m6 ≤ 6000 := by have := HRL.out; omega
  have hkb6 : bn6 ≤ 2000 := by have := HKL.out; omega
  have Vx := Lib.hid (V4.out.join hp)
  clear hp hm hk V4 r0 r1 r9
  obtain ⟨b6, hb⟩ : ∃ b, b = w5.heap.size := ⟨_, rfl⟩
  obtain ⟨w6, hw⟩ : ∃ z, z = w5.alloc (.cells #[.int .i64 R.n, .slice C6 m6 d6] 24) := ⟨_, rfl⟩
  have HW := Lib.hid hw
  have V6 := Lib.hid (show Hp w (gbox b6 R C6 m6 d6 :: _) w6 by rw [hw, hb]; exact Vx.out.gnew R C6 m6 d6)
  clear hw
  go_upto_region 5 with fail
  rw [← HW.out, ← hb]
  clear HW hb Vx
  have V6 := Lib.hid (show Hp w [gbox b6 R C6 m6 d6, arow C6 m6 d6 R.rs, nums B6 bn6 bc6 K, gbox b4 R C4 m4 d4, arow C4 m4 d4 R.rs, nums B4 bn4 bc4 K, gbox gb g A n c] w6 from V6.out)
  have HSA := Lib.hid (show ∀ W, Hp w [gbox b6 R C6 m6 d6, arow C6 m6 d6 R.rs, nums B6 bn6 bc6 K, gbox b4 R C4 m4 d4, arow C4 m4 d4 R.rs, nums B4 bn4 bc4 K, gbox gb g A n c] W → Calls Try.prog 19 #[gval R C4 m4 d4, gval R C6 m6 d6] W fun e w' => e = .returned (.bool true) ∧ Below W.heap.size W w' from fun W hW =>
    (same_any R R C4 C6 m4 d4 m6 d6 W (hW.grIn (i := 4) rfl HM4.out (by omega)) (hW.grIn (i := 1) rfl HM6.out (by omega)) (by omega) (by omega)).mono fun e w' ⟨b, h1, h2, h3⟩ => ⟨by rw [h1, h2.2 rfl], h3⟩)
  have HEQ := Lib.hid (show ∀ W, Hp w [gbox b6 R C6 m6 d6, arow C6 m6 d6 R.rs, nums B6 bn6 bc6 K, gbox b4 R C4 m4 d4, arow C4 m4 d4 R.rs, nums B4 bn4 bc4 K, gbox gb g A n c] W → Calls Try.prog 20 #[.slice B4 bn4 bc4, .slice B6 bn6 bc6] W fun e w' => e = .returned (.bool true) ∧ Below W.heap.size W w' from fun W hW =>
    (equal_nums B4 B6 bn4 bc4 bn6 bc6 K K W HK4.out HK6.out (by omega) (by omega) (hW.cells (i := 5) rfl rfl) (hW.cells (i := 2) rfl rfl)).mono fun e w' ⟨h1, h2⟩ => ⟨by rw [h1, decide_eq_true rfl], h2⟩)
  have e1 : (y != y) = false := bne_no rfl
  have e2 : (y == y) = true := beq_yes rfl
  obtain ⟨s0, s1, s9⟩ := V6.out.gb (i := 3) rfl
  obtain ⟨t0, t1, t9⟩ := V6.out.gb (i := 0) rfl
  go_wp2_with fail
  refine (HSA.out _ V6.out).mono ?_
  rintro e w7 ⟨rfl, bb⟩
  have V7 := Lib.hid (V6.out.go bb)
  clear bb s0 s1 s9 t0 t1 t9 V6
  go_wp2_with fail
  refine (HEQ.out _ V7.out).mono ?_
  rintro e w8 ⟨rfl, bb⟩
  have V8 := Lib.hid (V7.out.go bb)
  clear bb V7
  by_cases hy0 : y = 0
  case neg =>
    have e3 : (y != 0) = true := bne_yes hy0
    clear hy0
    obtain ⟨s0, s1, s9⟩ := V8.out.gb (i := 3) rfl
    obtain ⟨t0, t1, t9⟩ := V8.out.gb (i := 0) rfl
    go_wp2_with fail
    refine (HSA.out _ V8.out).mono ?_
    rintro e w9 ⟨rfl, bb⟩
    have V9 := Lib.hid (V8.out.go bb)
    clear bb s0 s1 s9 t0 t1 t9 V8
    go_wp2_with fail
    refine (HEQ.out _ V9.out).mono ?_
    rintro e w10 ⟨rfl, bb⟩
    have V10 := Lib.hid (V9.out.go bb)
    clear bb V9
    go_wp2_with fail
    go_ret
    exact ⟨rfl, V10.out.below⟩
  obtain ⟨ns, hns, hnl⟩ := HZ0.out hy0
  have HNS := Lib.hid hns
  have HNL := Lib.hid hnl
  subst hy0
  clear hns hnl e1 e2 HZ0
  have HT2 := Lib.hid (show ∀ W, GrIn W C4 m4 d4 R → Calls Try.prog 17 #[gval R C4 m4 d4] W fun e w' => ∃ (C : Option Addr) (m d : Nat) (B : Option Addr) (bn bc : Nat), e = .returned (.tuple #[gval R C m d, .slice B bn bc, .int .i64 0]) ∧ R.rs.length = m ∧ ns.length = bn ∧ Hp W [arow C m d R.rs, nums B bn bc ns] w' from fun W h => by
    have := trim_any R C4 m4 d4 W h
    unfold TrimPost at this
    rw [HNS.out] at this
    exact this)
  obtain ⟨s0, s1, s9⟩ := V8.out.gb (i := 3) rfl
  go_wp2_with fail
  refine (HT2.out _ (V8.out.grIn (i := 4) rfl HM4.out (by omega))).mono ?_
  rintro e w9 ⟨C9, m9, d9, B9, bn9, bc9, rfl, hm, hk, hp⟩
  have HM9 := Lib.hid hm
  have hmb9 : m9 ≤ 6000 := by have := HRL.out; omega
  have Vx := Lib.hid (V8.out.join hp)
  obtain ⟨RN, hRN⟩ : ∃ RN, RN = R.n := ⟨_, rfl⟩
  have HRN := Lib.hid hRN
  have e4 : ((bn9 : Int) == RN) = true := beq_yes (by rw [hRN, HNL.out, hk])
  clear hp hm hk V8 s0 s1 s9
  obtain ⟨b9, hb⟩ : ∃ b, b = w9.heap.size := ⟨_, rfl⟩
  obtain ⟨w10, hw⟩ : ∃ z, z = w9.alloc (.cells #[.int .i64 R.n, .slice C9 m9 d9] 24) := ⟨_, rfl⟩
  have HW := Lib.hid hw
  have V10 := Lib.hid (show Hp w (gbox b9 R C9 m9 d9 :: [arow C9 m9 d9 R.rs, nums B9 bn9 bc9 ns, gbox b6 R C6 m6 d6, arow C6 m6 d6 R.rs, nums B6 bn6 bc6 K, gbox b4 R C4 m4 d4, arow C4 m4 d4 R.rs, nums B4 bn4 bc4 K, gbox gb g A n c]) w10 by rw [hw, hb]; exact Vx.out.gnew R C9 m9 d9)
  clear hw hRN
  go_upto_region 8 with fail
  rw [← HW.out, ← hb]
  clear HW hb Vx
  obtain ⟨s0, s1, s9⟩ := V10.out.gb (i := 0) rfl
  obtain ⟨t0, t1, t9⟩ := V10.out.gb (i := 6) rfl
  go_wp2_with fail
  refine (same_any R R C9 C4 m9 d9 m4 d4 _ (V10.out.grIn (i := 1) rfl HM9.out (by omega)) (V10.out.grIn (i := 7) rfl HM4.out (by omega)) (by omega) (by omega)).mono ?_
  rintro e w11 ⟨b, rfl, hb, bb⟩
  have V11 := Lib.hid (V10.out.go bb)
  obtain rfl : b = true := hb.2 rfl
  clear bb hb s0 s1 s9 t0 t1 t9 V10
  obtain ⟨t0, t1, t9⟩ := V11.out.gb (i := 6) rfl
  rw [← HRN.out] at t0
  go_wp2_with fail
  go_ret
  exact ⟨rfl, V11.out.below⟩
end Go.Proofs.Ytdoobdfanalnbaa
