/- Several texts in one: On. -/
import Derived.Test.YtpifchlpakajjaaGreatRtap
namespace Go.Proofs.YtpifchlpakajjaaGreat
open Go.RowKit
set_option linter.unusedVariables false
set_option linter.unusedSimpArgs false
set_option maxRecDepth 100000

set_option maxHeartbeats 8000000 in
theorem fits_00 (nm : List UInt8) (k : Nat) (wv : Int) (n c nb cb na ca b off : Nat) (w : World) (x : Snd) (p o1 m1 : Nat) (y : Snd) (r o2 m2 : Nat) (hk : k < n) (hn : n ≤ 17592186044416) (hb : b < w.heap.size) (hc : w.cell? ⟨b, off + k * 4 + 3, none⟩ = some (.int .i64 wv)) (hp : p < w.heap.size) (hm1 : m1 ≤ 1000000) (hx : w.cell? ⟨p, o1, none⟩ = some (.int .i64 x.k) ∧ w.cell? ⟨p, o1 + 1, none⟩ = some (.int .i64 x.q) ∧ w.cell? ⟨p, o1 + 2, none⟩ = some (.string (bs x.t))) (hr : r < w.heap.size) (hm2 : m2 ≤ 1000000) (hy : w.cell? ⟨r, o2 + m2 * 3, none⟩ = some (.int .i64 y.k) ∧ w.cell? ⟨r, o2 + m2 * 3 + 1, none⟩ = some (.int .i64 y.q) ∧ w.cell? ⟨r, o2 + m2 * 3 + 2, none⟩ = some (.string (bs y.t))) :
    Calls Tryz.prog 84 #[.agg #[.string (bs nm), .slice (some ⟨b, off, none⟩) n c], .int .i64 (k : Int), .slice (some ⟨r, o2, none⟩) (m2 + 1) cb, .slice (some ⟨p, o1, none⟩) (m1 + 1) ca] w fun e w' => e = .returned (.bool (whV wv false (nuc x) (nuc y))) ∧ Below w.heap.size w w' := by
  obtain ⟨g1, hg1⟩ : ∃ z, z = w.heap.size := ⟨_, rfl⟩
  obtain ⟨W1, hW1⟩ : ∃ z, z = w.alloc (.cells #[.string (bs nm), .slice (some ⟨b, off, none⟩) n c] 24) := ⟨_, rfl⟩
  have V1 := Lib.hid (show Hp w [obox g1 nm (some ⟨b, off, none⟩) n c] W1 by rw [hW1, hg1]; exact (Hp.start w).obox_new nm (some ⟨b, off, none⟩) n c)
  have HW1 := Lib.hid hW1
  have HG1 := Lib.hid hg1
  have c0 := (V1.out.below.cell (p := ⟨b, off + k * 4 + 3, none⟩) hb).trans hc
  have hb1 := Nat.lt_of_lt_of_le hb V1.out.below.size
  have HC := Lib.hid hc
  have HB := Lib.hid hb
  have hk4 : k * 4 ≤ 70368744177664 := by omega
  have ek0 : ((k : Int) < 0) = False := by simp
  have ek1 : ¬ ((n : Int) ≤ (k : Int)) := by omega
  obtain ⟨x0, x1, x2⟩ := hx
  have a0 := (V1.out.below.cell (p := ⟨p, o1, none⟩) hp).trans x0
  have a1 := (V1.out.below.cell (p := ⟨p, o1 + 1, none⟩) hp).trans x1
  have a2 := (V1.out.below.cell (p := ⟨p, o1 + 2, none⟩) hp).trans x2
  have hp1 := Nat.lt_of_lt_of_le hp V1.out.below.size
  have ep : (0 : Int) < ((m1 + 1 : Nat) : Int) := by omega
  have ep' : (0 : Int) < (m1 : Int) + 1 := by omega
  obtain ⟨y0, y1, y2⟩ := hy
  have HY0 := Lib.hid y0
  have HY1 := Lib.hid y1
  have HY2 := Lib.hid y2
  have HR := Lib.hid hr
  have eq : (0 : Int) < ((m2 + 1 : Nat) : Int) := by omega
  have eq' : (0 : Int) < (m2 : Int) + 1 := by omega
  have hw : IntKind.i64.wrap (((m2 + 1 : Nat) : Int) - 1) = (m2 : Int) := by rw [IntWalk.i64_in _ (by omega)]; omega
  have hw' : IntKind.i64.wrap ((m2 : Int) + 1 - 1) = (m2 : Int) := by rw [IntWalk.i64_in _ (by omega)]; omega
  have hm3 : m2 * 3 ≤ 3000000 := by omega
  have en0 : (((m2 + 1 : Nat) : Int) == 0) = false := by simp; omega
  have en1 : ((m2 : Int) + 1 == 0) = false := by simp; omega
  obtain ⟨z0, z1, z2⟩ := V1.out.obox_at (i := 0) rfl
  clear hW1 hg1 hc hb x0 x1 x2 hp y0 y1 y2 hr
  go_enter Tryz.func84, Tryz.ntmps84
  go_upto_region 1 with fail
  rw [← HG1.out, ← HW1.out]
  go_wp2_with fail
  refine (nucleus_any x _).mono ?_
  rintro e w2 ⟨rfl, hb2⟩
  have V2 := Lib.hid (V1.out.go hb2)
  clear hb2 a0 a1 a2
  obtain ⟨bA, hbA⟩ : ∃ z, z = nuc x := ⟨_, rfl⟩
  rw [← hbA]
  have HBA := Lib.hid hbA
  clear hbA
  have a0 := (V2.out.below.cell (p := ⟨r, o2 + m2 * 3, none⟩) HR.out).trans HY0.out
  have a1 := (V2.out.below.cell (p := ⟨r, o2 + m2 * 3 + 1, none⟩) HR.out).trans HY1.out
  have a2 := (V2.out.below.cell (p := ⟨r, o2 + m2 * 3 + 2, none⟩) HR.out).trans HY2.out
  have hr1 := Nat.lt_of_lt_of_le HR.out V2.out.below.size
  clear z0 z1 z2
  obtain ⟨z0, z1, z2⟩ := V2.out.obox_at (i := 0) rfl
  cases bA
  all_goals
    go_wp2_with fail
    refine (nucleus_any y _).mono ?_
    rintro e w3 ⟨rfl, hb3⟩
    have V3 := Lib.hid (V2.out.go hb3)
    clear hb3 a0 a1 a2 z0 z1 z2
    obtain ⟨z0, z1, z2⟩ := V3.out.obox_at (i := 0) rfl
    have c0 := (V3.out.below.cell (p := ⟨b, off + k * 4 + 3, none⟩) HB.out).trans HC.out
    have hb1 := Nat.lt_of_lt_of_le HB.out V3.out.below.size
    obtain ⟨bB, hbB⟩ : ∃ z, z = nuc y := ⟨_, rfl⟩
    rw [← hbB]
    have HBB := Lib.hid hbB
    clear hbB
    by_cases h0 : wv = 0
    · subst h0
      cases bB <;> (go_wp2_with fail; go_ret; exact ⟨ret_bool (by rw [← HBA.out, ← HBB.out]; rfl), V3.out.below⟩)
    have e0 : (wv == 0) = false := by simpa using h0
    by_cases h1 : wv = 1
    · subst h1
      cases bB <;> (go_wp2_with fail; go_ret; exact ⟨ret_bool (by rw [← HBA.out, ← HBB.out]; rfl), V3.out.below⟩)
    have e1 : (wv == 1) = false := by simpa using h1
    by_cases h2 : wv = 2
    · subst h2
      cases bB <;> (go_wp2_with fail; go_ret; exact ⟨ret_bool (by rw [← HBA.out, ← HBB.out]; rfl), V3.out.below⟩)
    have e2 : (wv == 2) = false := by simpa using h2
    by_cases h3 : wv = 3
    · subst h3
      cases bB <;> (go_wp2_with fail; go_ret; exact ⟨ret_bool (by rw [← HBA.out, ← HBB.out]; rfl), V3.out.below⟩)
    have e3 : (wv == 3) = false := by simpa using h3
    by_cases h4 : wv = 4
    · subst h4
      cases bB <;> (go_wp2_with fail; go_ret; exact ⟨ret_bool (by rw [← HBA.out, ← HBB.out]; rfl), V3.out.below⟩)
    have e4 : (wv == 4) = false := by simpa using h4
    have HE := Lib.hid (fun e a b => wh_out (e := e) (a := a) (b := b) h0 h1 h2 h3 h4)
    clear h0 h1 h2 h3 h4
    go_wp2_with fail
    go_ret
    exact ⟨ret_bool (by rw [← HBA.out, ← HBB.out]; exact (HE.out _ _ _).symm), V3.out.below⟩
set_option maxHeartbeats 8000000 in
theorem fits_01 (nm : List UInt8) (k : Nat) (wv : Int) (n c nb cb na ca b off : Nat) (w : World) (x : Snd) (p o1 m1 : Nat) (AB : Option Addr) (hk : k < n) (hn : n ≤ 17592186044416) (hb : b < w.heap.size) (hc : w.cell? ⟨b, off + k * 4 + 3, none⟩ = some (.int .i64 wv)) (hp : p < w.heap.size) (hm1 : m1 ≤ 1000000) (hx : w.cell? ⟨p, o1, none⟩ = some (.int .i64 x.k) ∧ w.cell? ⟨p, o1 + 1, none⟩ = some (.int .i64 x.q) ∧ w.cell? ⟨p, o1 + 2, none⟩ = some (.string (bs x.t))) :
    Calls Tryz.prog 84 #[.agg #[.string (bs nm), .slice (some ⟨b, off, none⟩) n c], .int .i64 (k : Int), .slice AB 0 cb, .slice (some ⟨p, o1, none⟩) (m1 + 1) ca] w fun e w' => e = .returned (.bool (whV wv true (nuc x) false)) ∧ Below w.heap.size w w' := by
  obtain ⟨g1, hg1⟩ : ∃ z, z = w.heap.size := ⟨_, rfl⟩
  obtain ⟨W1, hW1⟩ : ∃ z, z = w.alloc (.cells #[.string (bs nm), .slice (some ⟨b, off, none⟩) n c] 24) := ⟨_, rfl⟩
  have V1 := Lib.hid (show Hp w [obox g1 nm (some ⟨b, off, none⟩) n c] W1 by rw [hW1, hg1]; exact (Hp.start w).obox_new nm (some ⟨b, off, none⟩) n c)
  have HW1 := Lib.hid hW1
  have HG1 := Lib.hid hg1
  have c0 := (V1.out.below.cell (p := ⟨b, off + k * 4 + 3, none⟩) hb).trans hc
  have hb1 := Nat.lt_of_lt_of_le hb V1.out.below.size
  have HC := Lib.hid hc
  have HB := Lib.hid hb
  have hk4 : k * 4 ≤ 70368744177664 := by omega
  have ek0 : ((k : Int) < 0) = False := by simp
  have ek1 : ¬ ((n : Int) ≤ (k : Int)) := by omega
  obtain ⟨x0, x1, x2⟩ := hx
  have a0 := (V1.out.below.cell (p := ⟨p, o1, none⟩) hp).trans x0
  have a1 := (V1.out.below.cell (p := ⟨p, o1 + 1, none⟩) hp).trans x1
  have a2 := (V1.out.below.cell (p := ⟨p, o1 + 2, none⟩) hp).trans x2
  have hp1 := Nat.lt_of_lt_of_le hp V1.out.below.size
  have ep : (0 : Int) < ((m1 + 1 : Nat) : Int) := by omega
  have ep' : (0 : Int) < (m1 : Int) + 1 := by omega
  obtain ⟨z0, z1, z2⟩ := V1.out.obox_at (i := 0) rfl
  clear hW1 hg1 hc hb x0 x1 x2 hp
  go_enter Tryz.func84, Tryz.ntmps84
  go_upto_region 1 with fail
  rw [← HG1.out, ← HW1.out]
  go_wp2_with fail
  refine (nucleus_any x _).mono ?_
  rintro e w2 ⟨rfl, hb2⟩
  have V2 := Lib.hid (V1.out.go hb2)
  clear hb2 a0 a1 a2
  obtain ⟨bA, hbA⟩ : ∃ z, z = nuc x := ⟨_, rfl⟩
  rw [← hbA]
  have HBA := Lib.hid hbA
  clear hbA
  have V3 := V2
  clear z0 z1 z2 c0 hb1
  obtain ⟨z0, z1, z2⟩ := V3.out.obox_at (i := 0) rfl
  have c0 := (V3.out.below.cell (p := ⟨b, off + k * 4 + 3, none⟩) HB.out).trans HC.out
  have hb1 := Nat.lt_of_lt_of_le HB.out V3.out.below.size
  by_cases h0 : wv = 0
  · subst h0
    cases bA <;> (go_wp2_with fail; go_ret; exact ⟨ret_bool (by rw [← HBA.out]; rfl), V3.out.below⟩)
  have e0 : (wv == 0) = false := by simpa using h0
  by_cases h1 : wv = 1
  · subst h1
    cases bA <;> (go_wp2_with fail; go_ret; exact ⟨ret_bool (by rw [← HBA.out]; rfl), V3.out.below⟩)
  have e1 : (wv == 1) = false := by simpa using h1
  by_cases h2 : wv = 2
  · subst h2
    cases bA <;> (go_wp2_with fail; go_ret; exact ⟨ret_bool (by rw [← HBA.out]; rfl), V3.out.below⟩)
  have e2 : (wv == 2) = false := by simpa using h2
  by_cases h3 : wv = 3
  · subst h3
    cases bA <;> (go_wp2_with fail; go_ret; exact ⟨ret_bool (by rw [← HBA.out]; rfl), V3.out.below⟩)
  have e3 : (wv == 3) = false := by simpa using h3
  by_cases h4 : wv = 4
  · subst h4
    cases bA <;> (go_wp2_with fail; go_ret; exact ⟨ret_bool (by rw [← HBA.out]; rfl), V3.out.below⟩)
  have e4 : (wv == 4) = false := by simpa using h4
  have HE := Lib.hid (fun e a b => wh_out (e := e) (a := a) (b := b) h0 h1 h2 h3 h4)
  clear h0 h1 h2 h3 h4
  go_wp2_with fail
  go_ret
  exact ⟨ret_bool (by rw [← HBA.out]; exact (HE.out _ _ _).symm), V3.out.below⟩
set_option maxHeartbeats 8000000 in
theorem fits_10 (nm : List UInt8) (k : Nat) (wv : Int) (n c nb cb na ca b off : Nat) (w : World) (y : Snd) (r o2 m2 : Nat) (AA : Option Addr) (hk : k < n) (hn : n ≤ 17592186044416) (hb : b < w.heap.size) (hc : w.cell? ⟨b, off + k * 4 + 3, none⟩ = some (.int .i64 wv)) (hr : r < w.heap.size) (hm2 : m2 ≤ 1000000) (hy : w.cell? ⟨r, o2 + m2 * 3, none⟩ = some (.int .i64 y.k) ∧ w.cell? ⟨r, o2 + m2 * 3 + 1, none⟩ = some (.int .i64 y.q) ∧ w.cell? ⟨r, o2 + m2 * 3 + 2, none⟩ = some (.string (bs y.t))) :
    Calls Tryz.prog 84 #[.agg #[.string (bs nm), .slice (some ⟨b, off, none⟩) n c], .int .i64 (k : Int), .slice (some ⟨r, o2, none⟩) (m2 + 1) cb, .slice AA 0 ca] w fun e w' => e = .returned (.bool (whV wv false false (nuc y))) ∧ Below w.heap.size w w' := by
  obtain ⟨g1, hg1⟩ : ∃ z, z = w.heap.size := ⟨_, rfl⟩
  obtain ⟨W1, hW1⟩ : ∃ z, z = w.alloc (.cells #[.string (bs nm), .slice (some ⟨b, off, none⟩) n c] 24) := ⟨_, rfl⟩
  have V1 := Lib.hid (show Hp w [obox g1 nm (some ⟨b, off, none⟩) n c] W1 by rw [hW1, hg1]; exact (Hp.start w).obox_new nm (some ⟨b, off, none⟩) n c)
  have HW1 := Lib.hid hW1
  have HG1 := Lib.hid hg1
  have c0 := (V1.out.below.cell (p := ⟨b, off + k * 4 + 3, none⟩) hb).trans hc
  have hb1 := Nat.lt_of_lt_of_le hb V1.out.below.size
  have HC := Lib.hid hc
  have HB := Lib.hid hb
  have hk4 : k * 4 ≤ 70368744177664 := by omega
  have ek0 : ((k : Int) < 0) = False := by simp
  have ek1 : ¬ ((n : Int) ≤ (k : Int)) := by omega
  obtain ⟨y0, y1, y2⟩ := hy
  have HY0 := Lib.hid y0
  have HY1 := Lib.hid y1
  have HY2 := Lib.hid y2
  have HR := Lib.hid hr
  have eq : (0 : Int) < ((m2 + 1 : Nat) : Int) := by omega
  have eq' : (0 : Int) < (m2 : Int) + 1 := by omega
  have hw : IntKind.i64.wrap (((m2 + 1 : Nat) : Int) - 1) = (m2 : Int) := by rw [IntWalk.i64_in _ (by omega)]; omega
  have hw' : IntKind.i64.wrap ((m2 : Int) + 1 - 1) = (m2 : Int) := by rw [IntWalk.i64_in _ (by omega)]; omega
  have hm3 : m2 * 3 ≤ 3000000 := by omega
  have en0 : (((m2 + 1 : Nat) : Int) == 0) = false := by simp; omega
  have en1 : ((m2 : Int) + 1 == 0) = false := by simp; omega
  obtain ⟨z0, z1, z2⟩ := V1.out.obox_at (i := 0) rfl
  clear hW1 hg1 hc hb y0 y1 y2 hr
  go_enter Tryz.func84, Tryz.ntmps84
  go_upto_region 1 with fail
  rw [← HG1.out, ← HW1.out]
  have V2 := V1
  have a0 := (V2.out.below.cell (p := ⟨r, o2 + m2 * 3, none⟩) HR.out).trans HY0.out
  have a1 := (V2.out.below.cell (p := ⟨r, o2 + m2 * 3 + 1, none⟩) HR.out).trans HY1.out
  have a2 := (V2.out.below.cell (p := ⟨r, o2 + m2 * 3 + 2, none⟩) HR.out).trans HY2.out
  have hr1 := Nat.lt_of_lt_of_le HR.out V2.out.below.size
  go_wp2_with fail
  refine (nucleus_any y _).mono ?_
  rintro e w3 ⟨rfl, hb3⟩
  have V3 := Lib.hid (V2.out.go hb3)
  clear hb3 a0 a1 a2 z0 z1 z2
  obtain ⟨z0, z1, z2⟩ := V3.out.obox_at (i := 0) rfl
  have c0 := (V3.out.below.cell (p := ⟨b, off + k * 4 + 3, none⟩) HB.out).trans HC.out
  have hb1 := Nat.lt_of_lt_of_le HB.out V3.out.below.size
  obtain ⟨bB, hbB⟩ : ∃ z, z = nuc y := ⟨_, rfl⟩
  rw [← hbB]
  have HBB := Lib.hid hbB
  clear hbB
  by_cases h0 : wv = 0
  · subst h0
    cases bB <;> (go_wp2_with fail; go_ret; exact ⟨ret_bool (by rw [← HBB.out]; rfl), V3.out.below⟩)
  have e0 : (wv == 0) = false := by simpa using h0
  by_cases h1 : wv = 1
  · subst h1
    cases bB <;> (go_wp2_with fail; go_ret; exact ⟨ret_bool (by rw [← HBB.out]; rfl), V3.out.below⟩)
  have e1 : (wv == 1) = false := by simpa using h1
  by_cases h2 : wv = 2
  · subst h2
    cases bB <;> (go_wp2_with fail; go_ret; exact ⟨ret_bool (by rw [← HBB.out]; rfl), V3.out.below⟩)
  have e2 : (wv == 2) = false := by simpa using h2
  by_cases h3 : wv = 3
  · subst h3
    cases bB <;> (go_wp2_with fail; go_ret; exact ⟨ret_bool (by rw [← HBB.out]; rfl), V3.out.below⟩)
  have e3 : (wv == 3) = false := by simpa using h3
  by_cases h4 : wv = 4
  · subst h4
    cases bB <;> (go_wp2_with fail; go_ret; exact ⟨ret_bool (by rw [← HBB.out]; rfl), V3.out.below⟩)
  have e4 : (wv == 4) = false := by simpa using h4
  have HE := Lib.hid (fun e a b => wh_out (e := e) (a := a) (b := b) h0 h1 h2 h3 h4)
  clear h0 h1 h2 h3 h4
  go_wp2_with fail
  go_ret
  exact ⟨ret_bool (by rw [← HBB.out]; exact (HE.out _ _ _).symm), V3.out.below⟩
set_option maxHeartbeats 8000000 in
theorem fits_11 (nm : List UInt8) (k : Nat) (wv : Int) (n c nb cb na ca b off : Nat) (w : World) (AA : Option Addr) (AB : Option Addr) (hk : k < n) (hn : n ≤ 17592186044416) (hb : b < w.heap.size) (hc : w.cell? ⟨b, off + k * 4 + 3, none⟩ = some (.int .i64 wv)) :
    Calls Tryz.prog 84 #[.agg #[.string (bs nm), .slice (some ⟨b, off, none⟩) n c], .int .i64 (k : Int), .slice AB 0 cb, .slice AA 0 ca] w fun e w' => e = .returned (.bool (whV wv true false false)) ∧ Below w.heap.size w w' := by
  obtain ⟨g1, hg1⟩ : ∃ z, z = w.heap.size := ⟨_, rfl⟩
  obtain ⟨W1, hW1⟩ : ∃ z, z = w.alloc (.cells #[.string (bs nm), .slice (some ⟨b, off, none⟩) n c] 24) := ⟨_, rfl⟩
  have V1 := Lib.hid (show Hp w [obox g1 nm (some ⟨b, off, none⟩) n c] W1 by rw [hW1, hg1]; exact (Hp.start w).obox_new nm (some ⟨b, off, none⟩) n c)
  have HW1 := Lib.hid hW1
  have HG1 := Lib.hid hg1
  have c0 := (V1.out.below.cell (p := ⟨b, off + k * 4 + 3, none⟩) hb).trans hc
  have hb1 := Nat.lt_of_lt_of_le hb V1.out.below.size
  have HC := Lib.hid hc
  have HB := Lib.hid hb
  have hk4 : k * 4 ≤ 70368744177664 := by omega
  have ek0 : ((k : Int) < 0) = False := by simp
  have ek1 : ¬ ((n : Int) ≤ (k : Int)) := by omega
  obtain ⟨z0, z1, z2⟩ := V1.out.obox_at (i := 0) rfl
  clear hW1 hg1 hc hb
  go_enter Tryz.func84, Tryz.ntmps84
  go_upto_region 1 with fail
  rw [← HG1.out, ← HW1.out]
  have V2 := V1
  have V3 := V2
  by_cases h0 : wv = 0
  · subst h0
    (go_wp2_with fail; go_ret; exact ⟨ret_bool (by rfl), V3.out.below⟩)
  have e0 : (wv == 0) = false := by simpa using h0
  by_cases h1 : wv = 1
  · subst h1
    (go_wp2_with fail; go_ret; exact ⟨ret_bool (by rfl), V3.out.below⟩)
  have e1 : (wv == 1) = false := by simpa using h1
  by_cases h2 : wv = 2
  · subst h2
    (go_wp2_with fail; go_ret; exact ⟨ret_bool (by rfl), V3.out.below⟩)
  have e2 : (wv == 2) = false := by simpa using h2
  by_cases h3 : wv = 3
  · subst h3
    (go_wp2_with fail; go_ret; exact ⟨ret_bool (by rfl), V3.out.below⟩)
  have e3 : (wv == 3) = false := by simpa using h3
  by_cases h4 : wv = 4
  · subst h4
    (go_wp2_with fail; go_ret; exact ⟨ret_bool (by rfl), V3.out.below⟩)
  have e4 : (wv == 4) = false := by simpa using h4
  have HE := Lib.hid (fun e a b => wh_out (e := e) (a := a) (b := b) h0 h1 h2 h3 h4)
  clear h0 h1 h2 h3 h4
  go_wp2_with fail
  go_ret
  exact ⟨ret_bool (by exact (HE.out _ _ _).symm), V3.out.below⟩
end Go.Proofs.YtpifchlpakajjaaGreat
