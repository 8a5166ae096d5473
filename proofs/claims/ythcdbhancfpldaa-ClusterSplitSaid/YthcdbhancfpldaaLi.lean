/- Contract: the examples of the chapter. -/
import Derived.Test.YthcdbhancfpldaaLh
namespace Go.Proofs.Ythcdbhancfpldaa
open Go.RowKit
set_option linter.unusedVariables false
set_option linter.unusedSimpArgs false
set_option maxRecDepth 100000

def snT : Snd := ⟨3, 0, [116]⟩
def snR : Snd := ⟨4, 0, [114]⟩
def snN : Snd := ⟨5, 0, [110]⟩
set_option maxHeartbeats 16000000 in
theorem awake14_any (w : World) : Calls Try.prog 11 #[] w fun e w' => e = .returned (.bool true) ∧ Below w.heap.size w w' := by
  obtain ⟨g0, hg0⟩ : ∃ z, z = w.heap.size := ⟨_, rfl⟩
  obtain ⟨g1, hg1⟩ : ∃ z, z = w.heap.size + 1 := ⟨_, rfl⟩
  obtain ⟨g2, hg2⟩ : ∃ z, z = g1 + 1 := ⟨_, rfl⟩
  obtain ⟨W0, hW0⟩ : ∃ z, z = ((w.alloc (.cells #[.int .i64 3, .int .i64 0, .string ⟨#[116]⟩] 51)).alloc (.cells #[.int .i64 4, .int .i64 0, .string ⟨#[114]⟩] 51)).alloc (.cells #[.int .i64 5, .int .i64 0, .string ⟨#[110]⟩] 51) := ⟨_, rfl⟩
  have V0 := Lib.hid (show Hp w [sbox g2 snN, sbox g1 snR, sbox g0 snT] W0 by
    have := (((Hp.start w).sbox_new snT).sbox_new snR).sbox_new snN
    rw [show ((w.alloc (.cells #[.int .i64 snT.k, .int .i64 snT.q, .string (bs snT.t)] 51)).alloc (.cells #[.int .i64 snR.k, .int .i64 snR.q, .string (bs snR.t)] 51)).heap.size = w.heap.size + 1 + 1 by simp, show (w.alloc (.cells #[.int .i64 snT.k, .int .i64 snT.q, .string (bs snT.t)] 51)).heap.size = w.heap.size + 1 by simp, ← hg1, ← hg2, ← hg0] at this
    rw [hW0]; exact this)
  have HW0 := Lib.hid hW0
  have HG0 := Lib.hid hg0
  have HG1 := Lib.hid hg1
  have HG2 := Lib.hid hg2
  clear hW0 hg0 hg1 hg2
  go_enter Try.func11, Try.ntmps11
  go_upto_region 3 with fail
  rw [← HW0.out, ← HG1.out, ← HG2.out]
  try rw [← HG0.out]
  obtain ⟨pp0, pp1, pp2, ppg⟩ := V0.out.sbox_at (i := 0) rfl
  obtain ⟨qq0, qq1, qq2, qqg⟩ := V0.out.sbox_at (i := 1) rfl
  obtain ⟨rr0, rr1, rr2, rrg⟩ := V0.out.sbox_at (i := 2) rfl
  dsimp only [snN, snR, snT] at pp0 pp1 pp2 qq0 qq1 qq2 rr0 rr1 rr2
  have T1 := Lib.hid (show Hp w (snds (some ⟨W0.heap.size, 0, none⟩) 2 2 [snT, snR] :: sbox g2 snN :: sbox g1 snR :: sbox g0 snT :: []) (W0.alloc (.cells #[.int .i64 3, .int .i64 0, .string (bs [116]), .int .i64 4, .int .i64 0, .string (bs [114])] 51)) from V0.out.lit 51 3 2 [.int .i64 3, .int .i64 0, .string (bs [116]), .int .i64 4, .int .i64 0, .string (bs [114])] rfl (by decide))
  have I2 : CIn (W0.alloc (.cells #[.int .i64 3, .int .i64 0, .string (bs [116]), .int .i64 4, .int .i64 0, .string (bs [114])] 51)) (some ⟨W0.heap.size, 0, none⟩) 2 (none) 0 ⟨[snT, snR], []⟩ := ⟨rfl, rfl, by decide, by decide, fun x hx => (by simp at hx; rcases hx with rfl | rfl <;> exact (by decide)), T1.out.cells (i := 0) (A := some ⟨W0.heap.size, 0, none⟩) (c := 2) rfl rfl, CellsIn.nil _ _⟩
  have J2 := Lib.hid I2
  clear I2
  go_wp2_with fail
  refine (cClass_any ⟨[snT, snR], []⟩ (some ⟨W0.heap.size, 0, none⟩) 2 2 (none) 0 0 _ (J2.out)).mono ?_
  rintro e w3 ⟨rfl, hb3⟩
  rw [show clR ⟨[snT, snR], []⟩ = 2 from by kernel_rfl]
  rw [show vC ⟨[snT, snR], []⟩ = 0 from by kernel_rfl]
  have V3 := Lib.hid (T1.out.go hb3)
  clear hb3
  clear pp0 pp1 pp2 ppg qq0 qq1 qq2 qqg rr0 rr1 rr2 rrg
  obtain ⟨pp0, pp1, pp2, ppg⟩ := V3.out.sbox_at (i := 1) rfl
  obtain ⟨qq0, qq1, qq2, qqg⟩ := V3.out.sbox_at (i := 2) rfl
  obtain ⟨rr0, rr1, rr2, rrg⟩ := V3.out.sbox_at (i := 3) rfl
  dsimp only [snN, snR, snT] at pp0 pp1 pp2 qq0 qq1 qq2 rr0 rr1 rr2
  have T4 := Lib.hid (show Hp w (snds (some ⟨w3.heap.size, 0, none⟩) 2 2 [snT, snR] :: snds (some ⟨W0.heap.size, 0, none⟩) 2 2 [snT, snR] :: sbox g2 snN :: sbox g1 snR :: sbox g0 snT :: []) (w3.alloc (.cells #[.int .i64 3, .int .i64 0, .string (bs [116]), .int .i64 4, .int .i64 0, .string (bs [114])] 51)) from V3.out.lit 51 3 2 [.int .i64 3, .int .i64 0, .string (bs [116]), .int .i64 4, .int .i64 0, .string (bs [114])] rfl (by decide))
  have T5 := Lib.hid (show Hp w (nums (some ⟨w3.heap.size + 1, 0, none⟩) 1 1 [0] :: snds (some ⟨w3.heap.size, 0, none⟩) 2 2 [snT, snR] :: snds (some ⟨W0.heap.size, 0, none⟩) 2 2 [snT, snR] :: sbox g2 snN :: sbox g1 snR :: sbox g0 snT :: []) ((w3.alloc (.cells #[.int .i64 3, .int .i64 0, .string (bs [116]), .int .i64 4, .int .i64 0, .string (bs [114])] 51)).alloc (.cells #[.int .i64 0] 3)) from by
    have := T4.out.lit 3 1 1 [.int .i64 0] rfl (by decide)
    rw [show (w3.alloc (.cells #[.int .i64 3, .int .i64 0, .string (bs [116]), .int .i64 4, .int .i64 0, .string (bs [114])] 51)).heap.size = w3.heap.size + 1 by simp] at this
    exact this)
  have I6 : CIn ((w3.alloc (.cells #[.int .i64 3, .int .i64 0, .string (bs [116]), .int .i64 4, .int .i64 0, .string (bs [114])] 51)).alloc (.cells #[.int .i64 0] 3)) (some ⟨w3.heap.size, 0, none⟩) 2 (some ⟨w3.heap.size + 1, 0, none⟩) 1 ⟨[snT, snR], [0]⟩ := ⟨rfl, rfl, by decide, by decide, fun x hx => (by simp at hx; rcases hx with rfl | rfl <;> exact (by decide)), T5.out.cells (i := 1) (A := some ⟨w3.heap.size, 0, none⟩) (c := 2) rfl rfl, T5.out.cells (i := 0) (A := some ⟨w3.heap.size + 1, 0, none⟩) (c := 1) rfl rfl⟩
  have J6 := Lib.hid I6
  clear I6
  go_wp2_with fail
  refine (cClass_any ⟨[snT, snR], [0]⟩ (some ⟨w3.heap.size, 0, none⟩) 2 2 (some ⟨w3.heap.size + 1, 0, none⟩) 1 1 _ (J6.out)).mono ?_
  rintro e w7 ⟨rfl, hb7⟩
  rw [show clR ⟨[snT, snR], [0]⟩ = 3 from by kernel_rfl]
  rw [show vC ⟨[snT, snR], [0]⟩ = 0 from by kernel_rfl]
  have V7 := Lib.hid (T5.out.go hb7)
  clear hb7
  clear pp0 pp1 pp2 ppg qq0 qq1 qq2 qqg rr0 rr1 rr2 rrg
  obtain ⟨pp0, pp1, pp2, ppg⟩ := V7.out.sbox_at (i := 3) rfl
  obtain ⟨qq0, qq1, qq2, qqg⟩ := V7.out.sbox_at (i := 4) rfl
  obtain ⟨rr0, rr1, rr2, rrg⟩ := V7.out.sbox_at (i := 5) rfl
  dsimp only [snN, snR, snT] at pp0 pp1 pp2 qq0 qq1 qq2 rr0 rr1 rr2
  have T8 := Lib.hid (show Hp w (snds (some ⟨w7.heap.size, 0, none⟩) 2 2 [snT, snR] :: nums (some ⟨w3.heap.size + 1, 0, none⟩) 1 1 [0] :: snds (some ⟨w3.heap.size, 0, none⟩) 2 2 [snT, snR] :: snds (some ⟨W0.heap.size, 0, none⟩) 2 2 [snT, snR] :: sbox g2 snN :: sbox g1 snR :: sbox g0 snT :: []) (w7.alloc (.cells #[.int .i64 3, .int .i64 0, .string (bs [116]), .int .i64 4, .int .i64 0, .string (bs [114])] 51)) from V7.out.lit 51 3 2 [.int .i64 3, .int .i64 0, .string (bs [116]), .int .i64 4, .int .i64 0, .string (bs [114])] rfl (by decide))
  have T9 := Lib.hid (show Hp w (nums (some ⟨w7.heap.size + 1, 0, none⟩) 1 1 [1] :: snds (some ⟨w7.heap.size, 0, none⟩) 2 2 [snT, snR] :: nums (some ⟨w3.heap.size + 1, 0, none⟩) 1 1 [0] :: snds (some ⟨w3.heap.size, 0, none⟩) 2 2 [snT, snR] :: snds (some ⟨W0.heap.size, 0, none⟩) 2 2 [snT, snR] :: sbox g2 snN :: sbox g1 snR :: sbox g0 snT :: []) ((w7.alloc (.cells #[.int .i64 3, .int .i64 0, .string (bs [116]), .int .i64 4, .int .i64 0, .string (bs [114])] 51)).alloc (.cells #[.int .i64 1] 3)) from by
    have := T8.out.lit 3 1 1 [.int .i64 1] rfl (by decide)
    rw [show (w7.alloc (.cells #[.int .i64 3, .int .i64 0, .string (bs [116]), .int .i64 4, .int .i64 0, .string (bs [114])] 51)).heap.size = w7.heap.size + 1 by simp] at this
    exact this)
  have I10 : CIn ((w7.alloc (.cells #[.int .i64 3, .int .i64 0, .string (bs [116]), .int .i64 4, .int .i64 0, .string (bs [114])] 51)).alloc (.cells #[.int .i64 1] 3)) (some ⟨w7.heap.size, 0, none⟩) 2 (some ⟨w7.heap.size + 1, 0, none⟩) 1 ⟨[snT, snR], [1]⟩ := ⟨rfl, rfl, by decide, by decide, fun x hx => (by simp at hx; rcases hx with rfl | rfl <;> exact (by decide)), T9.out.cells (i := 1) (A := some ⟨w7.heap.size, 0, none⟩) (c := 2) rfl rfl, T9.out.cells (i := 0) (A := some ⟨w7.heap.size + 1, 0, none⟩) (c := 1) rfl rfl⟩
  have J10 := Lib.hid I10
  clear I10
  obtain ⟨gc, hgc⟩ : ∃ z, z = w7.heap.size + 1 + 1 := ⟨_, rfl⟩
  obtain ⟨wc, hwc⟩ : ∃ z, z = ((w7.alloc (.cells #[.int .i64 3, .int .i64 0, .string (bs [116]), .int .i64 4, .int .i64 0, .string (bs [114])] 51)).alloc (.cells #[.int .i64 1] 3)).alloc (.cells #[.slice (some ⟨w7.heap.size, 0, none⟩) 2 2, .slice (some ⟨w7.heap.size + 1, 0, none⟩) 1 1] 25) := ⟨_, rfl⟩
  have V11 := Lib.hid (show Hp w (cbox gc (some ⟨w7.heap.size, 0, none⟩) 2 2 (some ⟨w7.heap.size + 1, 0, none⟩) 1 1 :: nums (some ⟨w7.heap.size + 1, 0, none⟩) 1 1 [1] :: snds (some ⟨w7.heap.size, 0, none⟩) 2 2 [snT, snR] :: nums (some ⟨w3.heap.size + 1, 0, none⟩) 1 1 [0] :: snds (some ⟨w3.heap.size, 0, none⟩) 2 2 [snT, snR] :: snds (some ⟨W0.heap.size, 0, none⟩) 2 2 [snT, snR] :: sbox g2 snN :: sbox g1 snR :: sbox g0 snT :: []) wc from by
    have := T9.out.cbox_new (some ⟨w7.heap.size, 0, none⟩) 2 2 (some ⟨w7.heap.size + 1, 0, none⟩) 1 1
    rw [show ((w7.alloc (.cells #[.int .i64 3, .int .i64 0, .string (bs [116]), .int .i64 4, .int .i64 0, .string (bs [114])] 51)).alloc (.cells #[.int .i64 1] 3)).heap.size = w7.heap.size + 1 + 1 by simp, ← hgc] at this
    rw [hwc]; exact this)
  have JC := Lib.hid (show CIn wc (some ⟨w7.heap.size, 0, none⟩) 2 (some ⟨w7.heap.size + 1, 0, none⟩) 1 ⟨[snT, snR], [1]⟩ from by rw [hwc]; exact J10.out.below (bnew _ _))
  have HWC := Lib.hid hwc
  have HGC := Lib.hid hgc
  clear hwc hgc
  go_upto_region 6 with fail
  rw [← HWC.out, ← HGC.out]
  clear pp0 pp1 pp2 ppg qq0 qq1 qq2 qqg rr0 rr1 rr2 rrg
  obtain ⟨cc0, cc1, ccg⟩ := V11.out.cbox_at (i := 0) rfl
  go_wp2_with fail
  refine (cCoda_any ⟨[snT, snR], [1]⟩ (some ⟨w7.heap.size, 0, none⟩) 2 2 (some ⟨w7.heap.size + 1, 0, none⟩) 1 1 _ (JC.out)).mono ?_
  rintro e w12 ⟨rfl, hb12⟩
  rw [show cdR ⟨[snT, snR], [1]⟩ = 1 from by kernel_rfl]
  rw [show vC ⟨[snT, snR], [1]⟩ = 0 from by kernel_rfl]
  have V12 := Lib.hid (V11.out.go hb12)
  clear hb12
  have JD := Lib.hid (show CIn w12 (some ⟨w7.heap.size, 0, none⟩) 2 (some ⟨w7.heap.size + 1, 0, none⟩) 1 ⟨[snT, snR], [1]⟩ from ⟨rfl, rfl, by decide, by decide, JC.out.ht, V12.out.cells (i := 2) (A := some ⟨w7.heap.size, 0, none⟩) (c := 2) rfl rfl, V12.out.cells (i := 1) (A := some ⟨w7.heap.size + 1, 0, none⟩) (c := 1) rfl rfl⟩)
  clear cc0 cc1 ccg
  obtain ⟨cc0, cc1, ccg⟩ := V12.out.cbox_at (i := 0) rfl
  go_wp2_with fail
  refine (cClass_any ⟨[snT, snR], [1]⟩ (some ⟨w7.heap.size, 0, none⟩) 2 2 (some ⟨w7.heap.size + 1, 0, none⟩) 1 1 _ (JD.out)).mono ?_
  rintro e w13 ⟨rfl, hb13⟩
  rw [show clR ⟨[snT, snR], [1]⟩ = 4 from by kernel_rfl]
  rw [show vC ⟨[snT, snR], [1]⟩ = 0 from by kernel_rfl]
  have V13 := Lib.hid (V12.out.go hb13)
  clear hb13
  clear cc0 cc1 ccg
  obtain ⟨pp0, pp1, pp2, ppg⟩ := V13.out.sbox_at (i := 6) rfl
  obtain ⟨qq0, qq1, qq2, qqg⟩ := V13.out.sbox_at (i := 7) rfl
  obtain ⟨rr0, rr1, rr2, rrg⟩ := V13.out.sbox_at (i := 8) rfl
  dsimp only [snN, snR, snT] at pp0 pp1 pp2 qq0 qq1 qq2 rr0 rr1 rr2
  have T14 := Lib.hid (show Hp w (snds (some ⟨w13.heap.size, 0, none⟩) 3 3 [snN, snT, snR] :: cbox gc (some ⟨w7.heap.size, 0, none⟩) 2 2 (some ⟨w7.heap.size + 1, 0, none⟩) 1 1 :: nums (some ⟨w7.heap.size + 1, 0, none⟩) 1 1 [1] :: snds (some ⟨w7.heap.size, 0, none⟩) 2 2 [snT, snR] :: nums (some ⟨w3.heap.size + 1, 0, none⟩) 1 1 [0] :: snds (some ⟨w3.heap.size, 0, none⟩) 2 2 [snT, snR] :: snds (some ⟨W0.heap.size, 0, none⟩) 2 2 [snT, snR] :: sbox g2 snN :: sbox g1 snR :: sbox g0 snT :: []) (w13.alloc (.cells #[.int .i64 5, .int .i64 0, .string (bs [110]), .int .i64 3, .int .i64 0, .string (bs [116]), .int .i64 4, .int .i64 0, .string (bs [114])] 51)) from V13.out.lit 51 3 3 [.int .i64 5, .int .i64 0, .string (bs [110]), .int .i64 3, .int .i64 0, .string (bs [116]), .int .i64 4, .int .i64 0, .string (bs [114])] rfl (by decide))
  have T15 := Lib.hid (show Hp w (nums (some ⟨w13.heap.size + 1, 0, none⟩) 2 2 [1, 3] :: snds (some ⟨w13.heap.size, 0, none⟩) 3 3 [snN, snT, snR] :: cbox gc (some ⟨w7.heap.size, 0, none⟩) 2 2 (some ⟨w7.heap.size + 1, 0, none⟩) 1 1 :: nums (some ⟨w7.heap.size + 1, 0, none⟩) 1 1 [1] :: snds (some ⟨w7.heap.size, 0, none⟩) 2 2 [snT, snR] :: nums (some ⟨w3.heap.size + 1, 0, none⟩) 1 1 [0] :: snds (some ⟨w3.heap.size, 0, none⟩) 2 2 [snT, snR] :: snds (some ⟨W0.heap.size, 0, none⟩) 2 2 [snT, snR] :: sbox g2 snN :: sbox g1 snR :: sbox g0 snT :: []) ((w13.alloc (.cells #[.int .i64 5, .int .i64 0, .string (bs [110]), .int .i64 3, .int .i64 0, .string (bs [116]), .int .i64 4, .int .i64 0, .string (bs [114])] 51)).alloc (.cells #[.int .i64 1, .int .i64 3] 3)) from by
    have := T14.out.lit 3 1 2 [.int .i64 1, .int .i64 3] rfl (by decide)
    rw [show (w13.alloc (.cells #[.int .i64 5, .int .i64 0, .string (bs [110]), .int .i64 3, .int .i64 0, .string (bs [116]), .int .i64 4, .int .i64 0, .string (bs [114])] 51)).heap.size = w13.heap.size + 1 by simp] at this
    exact this)
  have I16 : CIn ((w13.alloc (.cells #[.int .i64 5, .int .i64 0, .string (bs [110]), .int .i64 3, .int .i64 0, .string (bs [116]), .int .i64 4, .int .i64 0, .string (bs [114])] 51)).alloc (.cells #[.int .i64 1, .int .i64 3] 3)) (some ⟨w13.heap.size, 0, none⟩) 3 (some ⟨w13.heap.size + 1, 0, none⟩) 2 ⟨[snN, snT, snR], [1, 3]⟩ := ⟨rfl, rfl, by decide, by decide, fun x hx => (by simp at hx; rcases hx with rfl | rfl | rfl <;> exact (by decide)), T15.out.cells (i := 1) (A := some ⟨w13.heap.size, 0, none⟩) (c := 3) rfl rfl, T15.out.cells (i := 0) (A := some ⟨w13.heap.size + 1, 0, none⟩) (c := 2) rfl rfl⟩
  have J16 := Lib.hid I16
  clear I16
  go_wp2_with fail
  refine (csplit_any ⟨[snN, snT, snR], [1, 3]⟩ (some ⟨w13.heap.size, 0, none⟩) 3 3 (some ⟨w13.heap.size + 1, 0, none⟩) 2 2 1 _ J16.out (by decide) (by decide)).mono ?_
  rintro e w17 ⟨A1, n1, c1, B1, m1, d1, A2, n2, c2, B2, m2, d2, rfl, hI1, hI2, hb17⟩
  have hsp : splR ⟨[snN, snT, snR], [1, 3]⟩ 1 = (⟨[snN], [1]⟩, ⟨[snT, snR], [2]⟩, 0) := by kernel_rfl
  rw [hsp]
  rw [hsp] at hI1 hI2
  dsimp only at hI1 hI2 ⊢
  obtain rfl : n1 = 1 := hI1.ls.symm
  obtain rfl : m1 = 1 := hI1.lb.symm
  obtain rfl : n2 = 2 := hI2.ls.symm
  obtain rfl : m2 = 1 := hI2.lb.symm
  have V17 := Lib.hid (T15.out.go hb17)
  clear hb17 hsp
  clear pp0 pp1 pp2 ppg qq0 qq1 qq2 qqg rr0 rr1 rr2 rrg
  obtain ⟨gx, hgx⟩ : ∃ z, z = w17.heap.size := ⟨_, rfl⟩
  obtain ⟨gy, hgy⟩ : ∃ z, z = w17.heap.size + 1 := ⟨_, rfl⟩
  obtain ⟨wy, hwy⟩ : ∃ z, z = (w17.alloc (.cells #[.slice A1 1 c1, .slice B1 1 d1] 25)).alloc (.cells #[.slice A2 2 c2, .slice B2 1 d2] 25) := ⟨_, rfl⟩
  have V18 := Lib.hid (show Hp w (cbox gy A2 2 c2 B2 1 d2 :: cbox gx A1 1 c1 B1 1 d1 :: nums (some ⟨w13.heap.size + 1, 0, none⟩) 2 2 [1, 3] :: snds (some ⟨w13.heap.size, 0, none⟩) 3 3 [snN, snT, snR] :: cbox gc (some ⟨w7.heap.size, 0, none⟩) 2 2 (some ⟨w7.heap.size + 1, 0, none⟩) 1 1 :: nums (some ⟨w7.heap.size + 1, 0, none⟩) 1 1 [1] :: snds (some ⟨w7.heap.size, 0, none⟩) 2 2 [snT, snR] :: nums (some ⟨w3.heap.size + 1, 0, none⟩) 1 1 [0] :: snds (some ⟨w3.heap.size, 0, none⟩) 2 2 [snT, snR] :: snds (some ⟨W0.heap.size, 0, none⟩) 2 2 [snT, snR] :: sbox g2 snN :: sbox g1 snR :: sbox g0 snT :: []) wy from by
    have := (V17.out.cbox_new A1 1 c1 B1 1 d1).cbox_new A2 2 c2 B2 1 d2
    rw [show (w17.alloc (.cells #[.slice A1 1 c1, .slice B1 1 d1] 25)).heap.size = w17.heap.size + 1 by simp, ← hgy, ← hgx] at this
    rw [hwy]; exact this)
  have BY : Below w17.heap.size w17 wy := by rw [hwy]; exact btwo (bnew _ _) (bnew _ _)
  have K1 := Lib.hid (hI1.below BY)
  have K2 := Lib.hid (hI2.below BY)
  have HWY := Lib.hid hwy
  have HGX := Lib.hid hgx
  have HGY := Lib.hid hgy
  clear hwy hgx hgy hI1 hI2 BY
  go_upto_region 9 with fail
  rw [← HWY.out, ← HGY.out]
  try rw [← HGX.out]
  obtain ⟨pp0, pp1, pp2, ppg⟩ := V18.out.sbox_at (i := 10) rfl
  obtain ⟨qq0, qq1, qq2, qqg⟩ := V18.out.sbox_at (i := 11) rfl
  obtain ⟨rr0, rr1, rr2, rrg⟩ := V18.out.sbox_at (i := 12) rfl
  dsimp only [snN, snR, snT] at pp0 pp1 pp2 qq0 qq1 qq2 rr0 rr1 rr2
  obtain ⟨xx0, xx1, xxg⟩ := V18.out.cbox_at (i := 1) rfl
  obtain ⟨yy0, yy1, yyg⟩ := V18.out.cbox_at (i := 0) rfl
  have T19 := Lib.hid (show Hp w (snds (some ⟨wy.heap.size, 0, none⟩) 1 1 [snN] :: cbox gy A2 2 c2 B2 1 d2 :: cbox gx A1 1 c1 B1 1 d1 :: nums (some ⟨w13.heap.size + 1, 0, none⟩) 2 2 [1, 3] :: snds (some ⟨w13.heap.size, 0, none⟩) 3 3 [snN, snT, snR] :: cbox gc (some ⟨w7.heap.size, 0, none⟩) 2 2 (some ⟨w7.heap.size + 1, 0, none⟩) 1 1 :: nums (some ⟨w7.heap.size + 1, 0, none⟩) 1 1 [1] :: snds (some ⟨w7.heap.size, 0, none⟩) 2 2 [snT, snR] :: nums (some ⟨w3.heap.size + 1, 0, none⟩) 1 1 [0] :: snds (some ⟨w3.heap.size, 0, none⟩) 2 2 [snT, snR] :: snds (some ⟨W0.heap.size, 0, none⟩) 2 2 [snT, snR] :: sbox g2 snN :: sbox g1 snR :: sbox g0 snT :: []) (wy.alloc (.cells #[.int .i64 5, .int .i64 0, .string (bs [110])] 51)) from V18.out.lit 51 3 1 [.int .i64 5, .int .i64 0, .string (bs [110])] rfl (by decide))
  have T20 := Lib.hid (show Hp w (nums (some ⟨wy.heap.size + 1, 0, none⟩) 1 1 [1] :: snds (some ⟨wy.heap.size, 0, none⟩) 1 1 [snN] :: cbox gy A2 2 c2 B2 1 d2 :: cbox gx A1 1 c1 B1 1 d1 :: nums (some ⟨w13.heap.size + 1, 0, none⟩) 2 2 [1, 3] :: snds (some ⟨w13.heap.size, 0, none⟩) 3 3 [snN, snT, snR] :: cbox gc (some ⟨w7.heap.size, 0, none⟩) 2 2 (some ⟨w7.heap.size + 1, 0, none⟩) 1 1 :: nums (some ⟨w7.heap.size + 1, 0, none⟩) 1 1 [1] :: snds (some ⟨w7.heap.size, 0, none⟩) 2 2 [snT, snR] :: nums (some ⟨w3.heap.size + 1, 0, none⟩) 1 1 [0] :: snds (some ⟨w3.heap.size, 0, none⟩) 2 2 [snT, snR] :: snds (some ⟨W0.heap.size, 0, none⟩) 2 2 [snT, snR] :: sbox g2 snN :: sbox g1 snR :: sbox g0 snT :: []) ((wy.alloc (.cells #[.int .i64 5, .int .i64 0, .string (bs [110])] 51)).alloc (.cells #[.int .i64 1] 3)) from by
    have := T19.out.lit 3 1 1 [.int .i64 1] rfl (by decide)
    rw [show (wy.alloc (.cells #[.int .i64 5, .int .i64 0, .string (bs [110])] 51)).heap.size = wy.heap.size + 1 by simp] at this
    exact this)
  have I21 : CIn ((wy.alloc (.cells #[.int .i64 5, .int .i64 0, .string (bs [110])] 51)).alloc (.cells #[.int .i64 1] 3)) (some ⟨wy.heap.size, 0, none⟩) 1 (some ⟨wy.heap.size + 1, 0, none⟩) 1 ⟨[snN], [1]⟩ := ⟨rfl, rfl, by decide, by decide, fun x hx => (by simp at hx; rcases hx with rfl <;> exact (by decide)), T20.out.cells (i := 1) (A := some ⟨wy.heap.size, 0, none⟩) (c := 1) rfl rfl, T20.out.cells (i := 0) (A := some ⟨wy.heap.size + 1, 0, none⟩) (c := 1) rfl rfl⟩
  have J21 := Lib.hid I21
  clear I21
  go_wp2_with fail
  refine (rsame14_any ⟨[snN], [1]⟩ ⟨[snN], [1]⟩ A1 1 c1 B1 1 d1 (some ⟨wy.heap.size, 0, none⟩) 1 1 (some ⟨wy.heap.size + 1, 0, none⟩) 1 1 _ (K1.out.below (btwo (bnew _ _) (bnew _ _))) J21.out).mono ?_
  rintro e w22 ⟨rfl, hb22⟩
  rw [show (cmpC ⟨[snN], [1]⟩ ⟨[snN], [1]⟩ == 0) = true from by kernel_rfl]
  have V22 := Lib.hid (T20.out.go hb22)
  have K3 := Lib.hid (K2.out.below (btwo (btwo (bnew wy _) (bnew _ _)) hb22))
  clear hb22 xx0 xx1 xxg yy0 yy1 yyg
  clear pp0 pp1 pp2 ppg qq0 qq1 qq2 qqg rr0 rr1 rr2 rrg
  obtain ⟨pp0, pp1, pp2, ppg⟩ := V22.out.sbox_at (i := 12) rfl
  obtain ⟨qq0, qq1, qq2, qqg⟩ := V22.out.sbox_at (i := 13) rfl
  obtain ⟨rr0, rr1, rr2, rrg⟩ := V22.out.sbox_at (i := 14) rfl
  dsimp only [snN, snR, snT] at pp0 pp1 pp2 qq0 qq1 qq2 rr0 rr1 rr2
  obtain ⟨xx0, xx1, xxg⟩ := V22.out.cbox_at (i := 3) rfl
  obtain ⟨yy0, yy1, yyg⟩ := V22.out.cbox_at (i := 2) rfl
  have T23 := Lib.hid (show Hp w (snds (some ⟨w22.heap.size, 0, none⟩) 2 2 [snT, snR] :: nums (some ⟨wy.heap.size + 1, 0, none⟩) 1 1 [1] :: snds (some ⟨wy.heap.size, 0, none⟩) 1 1 [snN] :: cbox gy A2 2 c2 B2 1 d2 :: cbox gx A1 1 c1 B1 1 d1 :: nums (some ⟨w13.heap.size + 1, 0, none⟩) 2 2 [1, 3] :: snds (some ⟨w13.heap.size, 0, none⟩) 3 3 [snN, snT, snR] :: cbox gc (some ⟨w7.heap.size, 0, none⟩) 2 2 (some ⟨w7.heap.size + 1, 0, none⟩) 1 1 :: nums (some ⟨w7.heap.size + 1, 0, none⟩) 1 1 [1] :: snds (some ⟨w7.heap.size, 0, none⟩) 2 2 [snT, snR] :: nums (some ⟨w3.heap.size + 1, 0, none⟩) 1 1 [0] :: snds (some ⟨w3.heap.size, 0, none⟩) 2 2 [snT, snR] :: snds (some ⟨W0.heap.size, 0, none⟩) 2 2 [snT, snR] :: sbox g2 snN :: sbox g1 snR :: sbox g0 snT :: []) (w22.alloc (.cells #[.int .i64 3, .int .i64 0, .string (bs [116]), .int .i64 4, .int .i64 0, .string (bs [114])] 51)) from V22.out.lit 51 3 2 [.int .i64 3, .int .i64 0, .string (bs [116]), .int .i64 4, .int .i64 0, .string (bs [114])] rfl (by decide))
  have T24 := Lib.hid (show Hp w (nums (some ⟨w22.heap.size + 1, 0, none⟩) 1 1 [2] :: snds (some ⟨w22.heap.size, 0, none⟩) 2 2 [snT, snR] :: nums (some ⟨wy.heap.size + 1, 0, none⟩) 1 1 [1] :: snds (some ⟨wy.heap.size, 0, none⟩) 1 1 [snN] :: cbox gy A2 2 c2 B2 1 d2 :: cbox gx A1 1 c1 B1 1 d1 :: nums (some ⟨w13.heap.size + 1, 0, none⟩) 2 2 [1, 3] :: snds (some ⟨w13.heap.size, 0, none⟩) 3 3 [snN, snT, snR] :: cbox gc (some ⟨w7.heap.size, 0, none⟩) 2 2 (some ⟨w7.heap.size + 1, 0, none⟩) 1 1 :: nums (some ⟨w7.heap.size + 1, 0, none⟩) 1 1 [1] :: snds (some ⟨w7.heap.size, 0, none⟩) 2 2 [snT, snR] :: nums (some ⟨w3.heap.size + 1, 0, none⟩) 1 1 [0] :: snds (some ⟨w3.heap.size, 0, none⟩) 2 2 [snT, snR] :: snds (some ⟨W0.heap.size, 0, none⟩) 2 2 [snT, snR] :: sbox g2 snN :: sbox g1 snR :: sbox g0 snT :: []) ((w22.alloc (.cells #[.int .i64 3, .int .i64 0, .string (bs [116]), .int .i64 4, .int .i64 0, .string (bs [114])] 51)).alloc (.cells #[.int .i64 2] 3)) from by
    have := T23.out.lit 3 1 1 [.int .i64 2] rfl (by decide)
    rw [show (w22.alloc (.cells #[.int .i64 3, .int .i64 0, .string (bs [116]), .int .i64 4, .int .i64 0, .string (bs [114])] 51)).heap.size = w22.heap.size + 1 by simp] at this
    exact this)
  have I25 : CIn ((w22.alloc (.cells #[.int .i64 3, .int .i64 0, .string (bs [116]), .int .i64 4, .int .i64 0, .string (bs [114])] 51)).alloc (.cells #[.int .i64 2] 3)) (some ⟨w22.heap.size, 0, none⟩) 2 (some ⟨w22.heap.size + 1, 0, none⟩) 1 ⟨[snT, snR], [2]⟩ := ⟨rfl, rfl, by decide, by decide, fun x hx => (by simp at hx; rcases hx with rfl | rfl <;> exact (by decide)), T24.out.cells (i := 1) (A := some ⟨w22.heap.size, 0, none⟩) (c := 2) rfl rfl, T24.out.cells (i := 0) (A := some ⟨w22.heap.size + 1, 0, none⟩) (c := 1) rfl rfl⟩
  have J25 := Lib.hid I25
  clear I25
  go_wp2_with fail
  refine (rsame14_any ⟨[snT, snR], [2]⟩ ⟨[snT, snR], [2]⟩ A2 2 c2 B2 1 d2 (some ⟨w22.heap.size, 0, none⟩) 2 2 (some ⟨w22.heap.size + 1, 0, none⟩) 1 1 _ (K3.out.below (btwo (bnew _ _) (bnew _ _))) J25.out).mono ?_
  rintro e w26 ⟨rfl, hb26⟩
  rw [show (cmpC ⟨[snT, snR], [2]⟩ ⟨[snT, snR], [2]⟩ == 0) = true from by kernel_rfl]
  have V26 := Lib.hid (T24.out.go hb26)
  clear hb26
  go_wp2_with fail
  go_ret
  exact ⟨rfl, V26.out.below⟩
end Go.Proofs.Ythcdbhancfpldaa
