/- Several texts in one: On, Oo. -/
import Derived.Test.YtpifchlpakajjaaGreatRdap
namespace Go.Proofs.YtpifchlpakajjaaGreat
open Go.RowKit
set_option linter.unusedVariables false
set_option linter.unusedSimpArgs false
set_option maxRecDepth 100000

set_option maxHeartbeats 8000000 in
theorem fits_00 (nm : List UInt8) (k : Nat) (wv : Int) (n c nb cb na ca b off : Nat) (w : World) (x : Snd) (p o1 m1 : Nat) (y : Snd) (r o2 m2 : Nat) (hk : k < n) (hn : n ≤ 17592186044416) (hb : b < w.heap.size) (hc : w.cell? ⟨b, off + k * 4 + 3, none⟩ = some (.int .i64 wv)) (hp : p < w.heap.size) (hm1 : m1 ≤ 1000000) (hx : w.cell? ⟨p, o1, none⟩ = some (.int .i64 x.k) ∧ w.cell? ⟨p, o1 + 1, none⟩ = some (.int .i64 x.q) ∧ w.cell? ⟨p, o1 + 2, none⟩ = some (.string (bs x.t))) (hr : r < w.heap.size) (hm2 : m2 ≤ 1000000) (hy : w.cell? ⟨r, o2 + m2 * 3, none⟩ = some (.int .i64 y.k) ∧ w.cell? ⟨r, o2 + m2 * 3 + 1, none⟩ = some (.int .i64 y.q) ∧ w.cell? ⟨r, o2 + m2 * 3 + 2, none⟩ = some (.string (bs y.t))) :
    Calls Tryz.prog 84 #[.agg #[.string (bs nm), .slice (some ⟨b, off, none⟩) n c], .int .i64 (k : Int), .slice (some ⟨r, o2, none⟩) (m2 + 1) cb, .slice (some ⟨p, o1, none⟩) (m1 + 1) ca] w fun e w' => e = .returned (.bool (whV wv false (nuc x) (nuc y))) ∧ Below w.heap.size w w' := by
  obtain ⟨g1, hg1⟩ : ∃ z, z = w.heap.size := ⟨_, rfl⟩
  obtain ⟨W1, hW1⟩ : ∃ z, z = w.alloc (.cells #[.string (bs nm), .slice (some ⟨b, off, none⟩) n c] 24) := ⟨_, rfl⟩
  have V1 := Lib.hid (show Hp w [obox g1 nm (some ⟨b, off, none⟩) n c] W1 by rw [hW1, hg1]; exact (Hp.start w).obox_new nm (some ⟨b, off, none⟩) n c)
  have HW1 := Lib.hid hW1
  have HG1 := Lib.hid hg1
  have c0 := (V1.out.below.cell (p := ⟨b, off + k * 4 + 3, none⟩) hb).trans hc
  have hb1 := Nat.lt_of_lt_of_le hb V1.out.below.size
  have HC := Lib.hid hc
  have HB := Lib.hid hb
  have hk4 : k * 4 ≤ 70368744177664 := by omega
  have ek0 : ((k : Int) < 0) = False := by simp
  have ek1 : ¬ ((n : Int) ≤ (k : Int)) := by omega
  obtain ⟨x0, x1, x2⟩ := hx
  have a0 := (V1.out.below.cell (p := ⟨p, o1, none⟩) hp).trans x0
  have a1 := (V1.out.below.cell (p := ⟨p, o1 + 1, none⟩) hp).trans x1
  have a2 := (V1.out.below.cell (p := ⟨p, o1 + 2, none⟩) hp).trans x2
  have hp1 := Nat.lt_of_lt_of_le hp V1.out.below.size
  have ep : (0 : Int) < ((m1 + 1 : Nat) : Int) := by omega
  have ep' : (0 : Int) < (m1 : Int) + 1 := by omega
  obtain ⟨y0, y1, y2⟩ := hy
  have HY0 := Lib.hid y0
  have HY1 := Lib.hid y1
  have HY2 := Lib.hid y2
  have HR := Lib.hid hr
  have eq : (0 : Int) < ((m2 + 1 : Nat) : Int) := by omega
  have eq' : (0 : Int) < (m2 : Int) + 1 := by omega
  have hw : IntKind.i64.wrap (((m2 + 1 : Nat) : Int) - 1) = (m2 : Int) := by rw [IntWalk.i64_in _ (by omega)]; omega
  have hw' : IntKind.i64.wrap ((m2 : Int) + 1 - 1) = (m2 : Int) := by rw [IntWalk.i64_in _ (by omega)]; omega
  have hm3 : m2 * 3 ≤ 3000000 := by omega
  have en0 : (((m2 + 1 : Nat) : Int) == 0) = false := by simp; omega
  have en1 : ((m2 : Int) + 1 == 0) = false := by simp; omega
  obtain ⟨z0, z1, z2⟩ := V1.out.obox_at (i := 0) rfl
  clear hW1 hg1 hc hb x0 x1 x2 hp y0 y1 y2 hr
  go_enter Tryz.func84, Tryz.ntmps84
  go_upto_region 1 with fail
  rw [← HG1.out, ← HW1.out]
  go_wp2_with fail
  refine (nucleus_any x _).mono ?_
  rintro e w2 ⟨rfl, hb2⟩
  have V2 := Lib.hid (V1.out.go hb2)
  clear hb2 a0 a1 a2
  obtain ⟨bA, hbA⟩ : ∃ z, z = nuc x := ⟨_, rfl⟩
  rw [← hbA]
  have HBA := Lib.hid hbA
  clear hbA
  have a0 := (V2.out.below.cell (p := ⟨r, o2 + m2 * 3, none⟩) HR.out).trans HY0.out
  have a1 := (V2.out.below.cell (p := ⟨r, o2 + m2 * 3 + 1, none⟩) HR.out).trans HY1.out
  have a2 := (V2.out.below.cell (p := ⟨r, o2 + m2 * 3 + 2, none⟩) HR.out).trans HY2.out
  have hr1 := Nat.lt_of_lt_of_le HR.out V2.out.below.size
  clear z0 z1 z2
  obtain ⟨z0, z1, z2⟩ := V2.out.obox_at (i := 0) rfl
  cases bA
  all_goals
    go_wp2_with fail
    refine (nucleus_any y _).mono ?_
    rintro e w3 ⟨rfl, hb3⟩
    have V3 := Lib.hid (V2.out.go hb3)
    clear hb3 a0 a1 a2 z0 z1 z2
    obtain ⟨z0, z1, z2⟩ := V3.out.obox_at (i := 0) rfl
    have c0 := (V3.out.below.cell (p := ⟨b, off + k * 4 + 3, none⟩) HB.out).trans HC.out
    have hb1 := Nat.lt_of_lt_of_le HB.out V3.out.below.size
    obtain ⟨bB, hbB⟩ : ∃ z, z = nuc y := ⟨_, rfl⟩
    rw [← hbB]
    have HBB := Lib.hid hbB
    clear hbB
    by_cases h0 : wv = 0
    · subst h0
      cases bB <;> (go_wp2_with fail; go_ret; exact ⟨ret_bool (by rw [← HBA.out, ← HBB.out]; rfl), V3.out.below⟩)
    have e0 : (wv == 0) = false := by simpa using h0
    by_cases h1 : wv = 1
    · subst h1
      cases bB <;> (go_wp2_with fail; go_ret; exact ⟨ret_bool (by rw [← HBA.out, ← HBB.out]; rfl), V3.out.below⟩)
    have e1 : (wv == 1) = false := by simpa using h1
    by_cases h2 : wv = 2
    · subst h2
      cases bB <;> (go_wp2_with fail; go_ret; exact ⟨ret_bool (by rw [← HBA.out, ← HBB.out]; rfl), V3.out.below⟩)
    have e2 : (wv == 2) = false := by simpa using h2
    by_cases h3 : wv = 3
    · subst h3
      cases bB <;> (go_wp2_with fail; go_ret; exact ⟨ret_bool (by rw [← HBA.out, ← HBB.out]; rfl), V3.out.below⟩)
    have e3 : (wv == 3) = false := by simpa using h3
    by_cases h4 : wv = 4
    · subst h4
      cases bB <;> (go_wp2_with fail; go_ret; exact ⟨ret_bool (by rw [← HBA.out, ← HBB.out]; rfl), V3.out.below⟩)
    have e4 : (wv == 4) = false := by simpa using h4
    have HE := Lib.hid (fun e a b => wh_out (e := e) (a := a) (b := b) h0 h1 h2 h3 h4)
    clear h0 h1 h2 h3 h4
    go_wp2_with fail
    go_ret
    exact ⟨ret_bool (by rw [← HBA.out, ← HBB.out]; exact (HE.out _ _ _).symm), V3.out.below⟩
set_option maxHeartbeats 8000000 in
theorem fits_01 (nm : List UInt8) (k : Nat) (wv : Int) (n c nb cb na ca b off : Nat) (w : World) (x : Snd) (p o1 m1 : Nat) (AB : Option Addr) (hk : k < n) (hn : n ≤ 17592186044416) (hb : b < w.heap.size) (hc : w.cell? ⟨b, off + k * 4 + 3, none⟩ = some (.int .i64 wv)) (hp : p < w.heap.size) (hm1 : m1 ≤ 1000000) (hx : w.cell? ⟨p, o1, none⟩ = some (.int .i64 x.k) ∧ w.cell? ⟨p, o1 + 1, none⟩ = some (.int .i64 x.q) ∧ w.cell? ⟨p, o1 + 2, none⟩ = some (.string (bs x.t))) :
    Calls Tryz.prog 84 #[.agg #[.string (bs nm), .slice (some ⟨b, off, none⟩) n c], .int .i64 (k : Int), .slice AB 0 cb, .slice (some ⟨p, o1, none⟩) (m1 + 1) ca] w fun e w' => e = .returned (.bool (whV wv true (nuc x) false)) ∧ Below w.heap.size w w' := by
  obtain ⟨g1, hg1⟩ : ∃ z, z = w.heap.size := ⟨_, rfl⟩
  obtain ⟨W1, hW1⟩ : ∃ z, z = w.alloc (.cells #[.string (bs nm), .slice (some ⟨b, off, none⟩) n c] 24) := ⟨_, rfl⟩
  have V1 := Lib.hid (show Hp w [obox g1 nm (some ⟨b, off, none⟩) n c] W1 by rw [hW1, hg1]; exact (Hp.start w).obox_new nm (some ⟨b, off, none⟩) n c)
  have HW1 := Lib.hid hW1
  have HG1 := Lib.hid hg1
  have c0 := (V1.out.below.cell (p := ⟨b, off + k * 4 + 3, none⟩) hb).trans hc
  have hb1 := Nat.lt_of_lt_of_le hb V1.out.below.size
  have HC := Lib.hid hc
  have HB := Lib.hid hb
  have hk4 : k * 4 ≤ 70368744177664 := by omega
  have ek0 : ((k : Int) < 0) = False := by simp
  have ek1 : ¬ ((n : Int) ≤ (k : Int)) := by omega
  obtain ⟨x0, x1, x2⟩ := hx
  have a0 := (V1.out.below.cell (p := ⟨p, o1, none⟩) hp).trans x0
  have a1 := (V1.out.below.cell (p := ⟨p, o1 + 1, none⟩) hp).trans x1
  have a2 := (V1.out.below.cell (p := ⟨p, o1 + 2, none⟩) hp).trans x2
  have hp1 := Nat.lt_of_lt_of_le hp V1.out.below.size
  have ep : (0 : Int) < ((m1 + 1 : Nat) : Int) := by omega
  have ep' : (0 : Int) < (m1 : Int) + 1 := by omega
  obtain ⟨z0, z1, z2⟩ := V1.out.obox_at (i := 0) rfl
  clear hW1 hg1 hc hb x0 x1 x2 hp
  go_enter Tryz.func84, Tryz.ntmps84
  go_upto_region 1 with fail
  rw [← HG1.out, ← HW1.out]
  go_wp2_with fail
  refine (nucleus_any x _).mono ?_
  rintro e w2 ⟨rfl, hb2⟩
  have V2 := Lib.hid (V1.out.go hb2)
  clear hb2 a0 a1 a2
  obtain ⟨bA, hbA⟩ : ∃ z, z = nuc x := ⟨_, rfl⟩
  rw [← hbA]
  have HBA := Lib.hid hbA
  clear hbA
  have V3 := V2
  clear z0 z1 z2 c0 hb1
  obtain ⟨z0, z1, z2⟩ := V3.out.obox_at (i := 0) rfl
  have c0 := (V3.out.below.cell (p := ⟨b, off + k * 4 + 3, none⟩) HB.out).trans HC.out
  have hb1 := Nat.lt_of_lt_of_le HB.out V3.out.below.size
  by_cases h0 : wv = 0
  · subst h0
    cases bA <;> (go_wp2_with fail; go_ret; exact ⟨ret_bool (by rw [← HBA.out]; rfl), V3.out.below⟩)
  have e0 : (wv == 0) = false := by simpa using h0
  by_cases h1 : wv = 1
  · subst h1
    cases bA <;> (go_wp2_with fail; go_ret; exact ⟨ret_bool (by rw [← HBA.out]; rfl), V3.out.below⟩)
  have e1 : (wv == 1) = false := by simpa using h1
  by_cases h2 : wv = 2
  · subst h2
    cases bA <;> (go_wp2_with fail; go_ret; exact ⟨ret_bool (by rw [← HBA.out]; rfl), V3.out.below⟩)
  have e2 : (wv == 2) = false := by simpa using h2
  by_cases h3 : wv = 3
  · subst h3
    cases bA <;> (go_wp2_with fail; go_ret; exact ⟨ret_bool (by rw [← HBA.out]; rfl), V3.out.below⟩)
  have e3 : (wv == 3) = false := by simpa using h3
  by_cases h4 : wv = 4
  · subst h4
    cases bA <;> (go_wp2_with fail; go_ret; exact ⟨ret_bool (by rw [← HBA.out]; rfl), V3.out.below⟩)
  have e4 : (wv == 4) = false := by simpa using h4
  have HE := Lib.hid (fun e a b => wh_out (e := e) (a := a) (b := b) h0 h1 h2 h3 h4)
  clear h0 h1 h2 h3 h4
  go_wp2_with fail
  go_ret
  exact ⟨ret_bool (by rw [← HBA.out]; exact (HE.out _ _ _).symm), V3.out.below⟩
set_option maxHeartbeats 8000000 in
theorem fits_10 (nm : List UInt8) (k : Nat) (wv : Int) (n c nb cb na ca b off : Nat) (w : World) (y : Snd) (r o2 m2 : Nat) (AA : Option Addr) (hk : k < n) (hn : n ≤ 17592186044416) (hb : b < w.heap.size) (hc : w.cell? ⟨b, off + k * 4 + 3, none⟩ = some (.int .i64 wv)) (hr : r < w.heap.size) (hm2 : m2 ≤ 1000000) (hy : w.cell? ⟨r, o2 + m2 * 3, none⟩ = some (.int .i64 y.k) ∧ w.cell? ⟨r, o2 + m2 * 3 + 1, none⟩ = some (.int .i64 y.q) ∧ w.cell? ⟨r, o2 + m2 * 3 + 2, none⟩ = some (.string (bs y.t))) :
    Calls Tryz.prog 84 #[.agg #[.string (bs nm), .slice (some ⟨b, off, none⟩) n c], .int .i64 (k : Int), .slice (some ⟨r, o2, none⟩) (m2 + 1) cb, .slice AA 0 ca] w fun e w' => e = .returned (.bool (whV wv false false (nuc y))) ∧ Below w.heap.size w w' := by
  obtain ⟨g1, hg1⟩ : ∃ z, z = w.heap.size := ⟨_, rfl⟩
  obtain ⟨W1, hW1⟩ : ∃ z, z = w.alloc (.cells #[.string (bs nm), .slice (some ⟨b, off, none⟩) n c] 24) := ⟨_, rfl⟩
  have V1 := Lib.hid (show Hp w [obox g1 nm (some ⟨b, off, none⟩) n c] W1 by rw [hW1, hg1]; exact (Hp.start w).obox_new nm (some ⟨b, off, none⟩) n c)
  have HW1 := Lib.hid hW1
  have HG1 := Lib.hid hg1
  have c0 := (V1.out.below.cell (p := ⟨b, off + k * 4 + 3, none⟩) hb).trans hc
  have hb1 := Nat.lt_of_lt_of_le hb V1.out.below.size
  have HC := Lib.hid hc
  have HB := Lib.hid hb
  have hk4 : k * 4 ≤ 70368744177664 := by omega
  have ek0 : ((k : Int) < 0) = False := by simp
  have ek1 : ¬ ((n : Int) ≤ (k : Int)) := by omega
  obtain ⟨y0, y1, y2⟩ := hy
  have HY0 := Lib.hid y0
  have HY1 := Lib.hid y1
  have HY2 := Lib.hid y2
  have HR := Lib.hid hr
  have eq : (0 : Int) < ((m2 + 1 : Nat) : Int) := by omega
  have eq' : (0 : Int) < (m2 : Int) + 1 := by omega
  have hw : IntKind.i64.wrap (((m2 + 1 : Nat) : Int) - 1) = (m2 : Int) := by rw [IntWalk.i64_in _ (by omega)]; omega
  have hw' : IntKind.i64.wrap ((m2 : Int) + 1 - 1) = (m2 : Int) := by rw [IntWalk.i64_in _ (by omega)]; omega
  have hm3 : m2 * 3 ≤ 3000000 := by omega
  have en0 : (((m2 + 1 : Nat) : Int) == 0) = false := by simp; omega
  have en1 : ((m2 : Int) + 1 == 0) = false := by simp; omega
  obtain ⟨z0, z1, z2⟩ := V1.out.obox_at (i := 0) rfl
  clear hW1 hg1 hc hb y0 y1 y2 hr
  go_enter Tryz.func84, Tryz.ntmps84
  go_upto_region 1 with fail
  rw [← HG1.out, ← HW1.out]
  have V2 := V1
  have a0 := (V2.out.below.cell (p := ⟨r, o2 + m2 * 3, none⟩) HR.out).trans HY0.out
  have a1 := (V2.out.below.cell (p := ⟨r, o2 + m2 * 3 + 1, none⟩) HR.out).trans HY1.out
  have a2 := (V2.out.below.cell (p := ⟨r, o2 + m2 * 3 + 2, none⟩) HR.out).trans HY2.out
  have hr1 := Nat.lt_of_lt_of_le HR.out V2.out.below.size
  go_wp2_with fail
  refine (nucleus_any y _).mono ?_
  rintro e w3 ⟨rfl, hb3⟩
  have V3 := Lib.hid (V2.out.go hb3)
  clear hb3 a0 a1 a2 z0 z1 z2
  obtain ⟨z0, z1, z2⟩ := V3.out.obox_at (i := 0) rfl
  have c0 := (V3.out.below.cell (p := ⟨b, off + k * 4 + 3, none⟩) HB.out).trans HC.out
  have hb1 := Nat.lt_of_lt_of_le HB.out V3.out.below.size
  obtain ⟨bB, hbB⟩ : ∃ z, z = nuc y := ⟨_, rfl⟩
  rw [← hbB]
  have HBB := Lib.hid hbB
  clear hbB
  by_cases h0 : wv = 0
  · subst h0
    cases bB <;> (go_wp2_with fail; go_ret; exact ⟨ret_bool (by rw [← HBB.out]; rfl), V3.out.below⟩)
  have e0 : (wv == 0) = false := by simpa using h0
  by_cases h1 : wv = 1
  · subst h1
    cases bB <;> (go_wp2_with fail; go_ret; exact ⟨ret_bool (by rw [← HBB.out]; rfl), V3.out.below⟩)
  have e1 : (wv == 1) = false := by simpa using h1
  by_cases h2 : wv = 2
  · subst h2
    cases bB <;> (go_wp2_with fail; go_ret; exact ⟨ret_bool (by rw [← HBB.out]; rfl), V3.out.below⟩)
  have e2 : (wv == 2) = false := by simpa using h2
  by_cases h3 : wv = 3
  · subst h3
    cases bB <;> (go_wp2_with fail; go_ret; exact ⟨ret_bool (by rw [← HBB.out]; rfl), V3.out.below⟩)
  have e3 : (wv == 3) = false := by simpa using h3
  by_cases h4 : wv = 4
  · subst h4
    cases bB <;> (go_wp2_with fail; go_ret; exact ⟨ret_bool (by rw [← HBB.out]; rfl), V3.out.below⟩)
  have e4 : (wv == 4) = false := by simpa using h4
  have HE := Lib.hid (fun e a b => wh_out (e := e) (a := a) (b := b) h0 h1 h2 h3 h4)
  clear h0 h1 h2 h3 h4
  go_wp2_with fail
  go_ret
  exact ⟨ret_bool (by rw [← HBB.out]; exact (HE.out _ _ _).symm), V3.out.below⟩
set_option maxHeartbeats 8000000 in
theorem fits_11 (nm : List UInt8) (k : Nat) (wv : Int) (n c nb cb na ca b off : Nat) (w : World) (AA : Option Addr) (AB : Option Addr) (hk : k < n) (hn : n ≤ 17592186044416) (hb : b < w.heap.size) (hc : w.cell? ⟨b, off + k * 4 + 3, none⟩ = some (.int .i64 wv)) :
    Calls Tryz.prog 84 #[.agg #[.string (bs nm), .slice (some ⟨b, off, none⟩) n c], .int .i64 (k : Int), .slice AB 0 cb, .slice AA 0 ca] w fun e w' => e = .returned (.bool (whV wv true false false)) ∧ Below w.heap.size w w' := by
  obtain ⟨g1, hg1⟩ : ∃ z, z = w.heap.size := ⟨_, rfl⟩
  obtain ⟨W1, hW1⟩ : ∃ z, z = w.alloc (.cells #[.string (bs nm), .slice (some ⟨b, off, none⟩) n c] 24) := ⟨_, rfl⟩
  have V1 := Lib.hid (show Hp w [obox g1 nm (some ⟨b, off, none⟩) n c] W1 by rw [hW1, hg1]; exact (Hp.start w).obox_new nm (some ⟨b, off, none⟩) n c)
  have HW1 := Lib.hid hW1
  have HG1 := Lib.hid hg1
  have c0 := (V1.out.below.cell (p := ⟨b, off + k * 4 + 3, none⟩) hb).trans hc
  have hb1 := Nat.lt_of_lt_of_le hb V1.out.below.size
  have HC := Lib.hid hc
  have HB := Lib.hid hb
  have hk4 : k * 4 ≤ 70368744177664 := by omega
  have ek0 : ((k : Int) < 0) = False := by simp
  have ek1 : ¬ ((n : Int) ≤ (k : Int)) := by omega
  obtain ⟨z0, z1, z2⟩ := V1.out.obox_at (i := 0) rfl
  clear hW1 hg1 hc hb
  go_enter Tryz.func84, Tryz.ntmps84
  go_upto_region 1 with fail
  rw [← HG1.out, ← HW1.out]
  have V2 := V1
  have V3 := V2
  by_cases h0 : wv = 0
  · subst h0
    (go_wp2_with fail; go_ret; exact ⟨ret_bool (by rfl), V3.out.below⟩)
  have e0 : (wv == 0) = false := by simpa using h0
  by_cases h1 : wv = 1
  · subst h1
    (go_wp2_with fail; go_ret; exact ⟨ret_bool (by rfl), V3.out.below⟩)
  have e1 : (wv == 1) = false := by simpa using h1
  by_cases h2 : wv = 2
  · subst h2
    (go_wp2_with fail; go_ret; exact ⟨ret_bool (by rfl), V3.out.below⟩)
  have e2 : (wv == 2) = false := by simpa using h2
  by_cases h3 : wv = 3
  · subst h3
    (go_wp2_with fail; go_ret; exact ⟨ret_bool (by rfl), V3.out.below⟩)
  have e3 : (wv == 3) = false := by simpa using h3
  by_cases h4 : wv = 4
  · subst h4
    (go_wp2_with fail; go_ret; exact ⟨ret_bool (by rfl), V3.out.below⟩)
  have e4 : (wv == 4) = false := by simpa using h4
  have HE := Lib.hid (fun e a b => wh_out (e := e) (a := a) (b := b) h0 h1 h2 h3 h4)
  clear h0 h1 h2 h3 h4
  go_wp2_with fail
  go_ret
  exact ⟨ret_bool (by exact (HE.out _ _ _).symm), V3.out.below⟩
end Go.Proofs.YtpifchlpakajjaaGreat

namespace Go.Proofs.YtpifchlpakajjaaGreat
open Go.RowKit
set_option linter.unusedVariables false
set_option linter.unusedSimpArgs false
set_option maxRecDepth 100000

def fitB (L : List Sg) (i : Int) (B A : List Snd) : Bool := if i < 0 then false else match L[i.toNat]? with
  | none => false
  | some x => whB x.w B A
theorem fitB_neg {L : List Sg} {i : Int} {B A : List Snd} (h : i < 0) : fitB L i B A = false := by unfold fitB; rw [if_pos h]
theorem fitB_out {L : List Sg} {i : Int} {B A : List Snd} (h0 : ¬ i < 0) (h : (L.length : Int) ≤ i) : fitB L i B A = false := by
  unfold fitB; rw [if_neg h0, List.getElem?_eq_none (by omega)]
theorem fitB_at {L : List Sg} {k : Nat} {x : Sg} {B A : List Snd} (h : L[k]? = some x) : fitB L (k : Int) B A = whB x.w B A := by
  unfold fitB; rw [if_neg (by omega), show (k : Int).toNat = k by omega, h]
theorem last_at {α : Type} {l : List α} {m : Nat} (h : l.length = m + 1) : ∃ x, l[m]? = some x := ⟨l[m]'(by omega), List.getElem?_eq_getElem (by omega)⟩
theorem fits_cell (nm : List UInt8) (k : Nat) (wv : Int) (n c nb cb na ca b off : Nat) (AB AA : Option Addr) (w : World) (B A : List Snd) (hk : k < n) (hn : n ≤ 17592186044416) (hb : b < w.heap.size) (hc : w.cell? ⟨b, off + k * 4 + 3, none⟩ = some (.int .i64 wv))
    (hB : B.length = nb) (hnb : nb ≤ 1000000) (hA : A.length = na) (hna : na ≤ 1000000) (hcB : CellsIn w AB (sndsC B)) (hcA : CellsIn w AA (sndsC A)) :
    Calls Tryz.prog 84 #[.agg #[.string (bs nm), .slice (some ⟨b, off, none⟩) n c], .int .i64 (k : Int), .slice AB nb cb, .slice AA na ca] w fun e w' => e = .returned (.bool (whB wv B A)) ∧ Below w.heap.size w w' := by
  unfold whB
  by_cases ha : na = 0
  · subst ha
    rw [show begB A = false by rw [nil_of hA]; rfl]
    by_cases hb0 : nb = 0
    · subst hb0
      rw [show endB B = false by rw [nil_of hB]; rfl, show (B.length == 0) = true by rw [hB]; rfl]
      exact fits_11 nm k wv n c 0 cb 0 ca b off w AA AB hk hn hb hc
    · obtain ⟨m, rfl⟩ : ∃ m, nb = m + 1 := ⟨nb - 1, by omega⟩
      obtain ⟨y, hy⟩ := last_at hB
      obtain ⟨r, o2, rfl, hr, y0⟩ := hcB.snd hy
      rw [endB_at hB hy, show (B.length == 0) = false by rw [hB]; rfl]
      exact fits_10 nm k wv n c 0 cb 0 ca b off w y r o2 m AA hk hn hb hc hr (by omega) y0
  · obtain ⟨m, rfl⟩ : ∃ m, na = m + 1 := ⟨na - 1, by omega⟩
    obtain ⟨x, hx⟩ := get_at (L := A) (k := 0) (by omega)
    obtain ⟨p, o1, rfl, hp, x0, x1, x2⟩ := hcA.snd hx
    simp only [Nat.zero_mul, Nat.add_zero] at x0 x1 x2
    rw [begB_at hx]
    by_cases hb0 : nb = 0
    · subst hb0
      rw [show endB B = false by rw [nil_of hB]; rfl, show (B.length == 0) = true by rw [hB]; rfl]
      exact fits_01 nm k wv n c 0 cb 0 ca b off w x p o1 m AB hk hn hb hc hp (by omega) ⟨x0, x1, x2⟩
    · obtain ⟨m', rfl⟩ : ∃ m, nb = m + 1 := ⟨nb - 1, by omega⟩
      obtain ⟨y, hy⟩ := last_at hB
      obtain ⟨r, o2, rfl, hr, y0⟩ := hcB.snd hy
      rw [endB_at hB hy, show (B.length == 0) = false by rw [hB]; rfl]
      exact fits_00 nm k wv n c 0 cb 0 ca b off w x p o1 m y r o2 m' hk hn hb hc hp (by omega) ⟨x0, x1, x2⟩ hr (by omega) y0
set_option maxHeartbeats 4000000 in
theorem fits_none (nm : List UInt8) (L : List Sg) (i : Int) (n c nb cb na ca : Nat) (AO AB AA : Option Addr) (w : World) (B A : List Snd) (h : i < 0 ∨ (n : Int) ≤ i) (hl : L.length = n) :
    Calls Tryz.prog 84 #[.agg #[.string (bs nm), .slice AO n c], .int .i64 i, .slice AB nb cb, .slice AA na ca] w fun e w' => e = .returned (.bool (fitB L i B A)) ∧ Below w.heap.size w w' := by
  obtain ⟨g1, hg1⟩ : ∃ z, z = w.heap.size := ⟨_, rfl⟩
  obtain ⟨W1, hW1⟩ : ∃ z, z = w.alloc (.cells #[.string (bs nm), .slice AO n c] 24) := ⟨_, rfl⟩
  have V1 := Lib.hid (show Hp w [obox g1 nm AO n c] W1 by rw [hW1, hg1]; exact (Hp.start w).obox_new nm AO n c)
  have HW1 := Lib.hid hW1
  have HG1 := Lib.hid hg1
  obtain ⟨z0, z1, z2⟩ := V1.out.obox_at (i := 0) rfl
  by_cases h0 : i < 0
  · have HE := Lib.hid (fitB_neg (L := L) (B := B) (A := A) h0)
    clear hW1 hg1 h hl
    go_enter Tryz.func84, Tryz.ntmps84
    go_upto_region 1 with fail
    rw [← HG1.out, ← HW1.out]
    go_wp2_with fail
    go_ret
    exact ⟨ret_bool HE.out.symm, V1.out.below⟩
  · have HE := Lib.hid (fitB_out (L := L) (B := B) (A := A) h0 (by omega))
    have h1 : (n : Int) ≤ i := by omega
    clear hW1 hg1 h hl
    go_enter Tryz.func84, Tryz.ntmps84
    go_upto_region 1 with fail
    rw [← HG1.out, ← HW1.out]
    go_wp2_with fail
    go_ret
    exact ⟨ret_bool HE.out.symm, V1.out.below⟩
set_option maxHeartbeats 4000000 in
theorem rfits_none (nm : List UInt8) (L : List Sg) (i : Int) (n c nb cb na ca : Nat) (AO AB AA : Option Addr) (w : World) (B A : List Snd) (h : i < 0 ∨ (n : Int) ≤ i) (hl : L.length = n) :
    Calls Tryz.prog 55 #[.agg #[.string (bs nm), .slice AO n c], .int .i64 i, .slice AB nb cb, .slice AA na ca] w fun e w' => e = .returned (.bool (fitB L i B A)) ∧ Below w.heap.size w w' := by
  obtain ⟨g1, hg1⟩ : ∃ z, z = w.heap.size := ⟨_, rfl⟩
  obtain ⟨W1, hW1⟩ : ∃ z, z = w.alloc (.cells #[.string (bs nm), .slice AO n c] 24) := ⟨_, rfl⟩
  have V1 := Lib.hid (show Hp w [obox g1 nm AO n c] W1 by rw [hW1, hg1]; exact (Hp.start w).obox_new nm AO n c)
  have HW1 := Lib.hid hW1
  have HG1 := Lib.hid hg1
  obtain ⟨z0, z1, z2⟩ := V1.out.obox_at (i := 0) rfl
  by_cases h0 : i < 0
  · have HE := Lib.hid (fitB_neg (L := L) (B := B) (A := A) h0)
    clear hW1 hg1 h hl
    go_enter Tryz.func55, Tryz.ntmps55
    go_upto_region 1 with fail
    rw [← HG1.out, ← HW1.out]
    go_wp2_with fail
    go_ret
    exact ⟨ret_bool HE.out.symm, V1.out.below⟩
  · have HE := Lib.hid (fitB_out (L := L) (B := B) (A := A) h0 (by omega))
    have h1 : (n : Int) ≤ i := by omega
    clear hW1 hg1 h hl
    go_enter Tryz.func55, Tryz.ntmps55
    go_upto_region 1 with fail
    rw [← HG1.out, ← HW1.out]
    go_wp2_with fail
    go_ret
    exact ⟨ret_bool HE.out.symm, V1.out.below⟩
set_option maxHeartbeats 8000000 in
theorem rfits_cell (nm : List UInt8) (k : Nat) (wv : Int) (n c nb cb na ca b off : Nat) (AB AA : Option Addr) (w : World) (B A : List Snd) (hk : k < n) (hn : n ≤ 17592186044416) (hb : b < w.heap.size) (hc : w.cell? ⟨b, off + k * 4 + 3, none⟩ = some (.int .i64 wv))
    (hB : B.length = nb) (hnb : nb ≤ 1000000) (hA : A.length = na) (hna : na ≤ 1000000) (hcB : CellsIn w AB (sndsC B)) (hcA : CellsIn w AA (sndsC A)) :
    Calls Tryz.prog 55 #[.agg #[.string (bs nm), .slice (some ⟨b, off, none⟩) n c], .int .i64 (k : Int), .slice AB nb cb, .slice AA na ca] w fun e w' => e = .returned (.bool (whB wv B A)) ∧ Below w.heap.size w w' := by
  unfold whB
  obtain ⟨g1, hg1⟩ : ∃ z, z = w.heap.size := ⟨_, rfl⟩
  obtain ⟨W1, hW1⟩ : ∃ z, z = w.alloc (.cells #[.string (bs nm), .slice (some ⟨b, off, none⟩) n c] 24) := ⟨_, rfl⟩
  have V1 := Lib.hid (show Hp w [obox g1 nm (some ⟨b, off, none⟩) n c] W1 by rw [hW1, hg1]; exact (Hp.start w).obox_new nm (some ⟨b, off, none⟩) n c)
  have HW1 := Lib.hid hW1
  have HG1 := Lib.hid hg1
  have c0 := (V1.out.below.cell (p := ⟨b, off + k * 4 + 3, none⟩) hb).trans hc
  have hb1 := Nat.lt_of_lt_of_le hb V1.out.below.size
  have hk4 : k * 4 ≤ 70368744177664 := by omega
  have ek0 : ((k : Int) < 0) = False := by simp
  have ek1 : ¬ ((n : Int) ≤ (k : Int)) := by omega
  obtain ⟨z0, z1, z2⟩ := V1.out.obox_at (i := 0) rfl
  have HBL := Lib.hid (show (B.length == 0) = (((nb : Nat) : Int) == 0) by rw [hB, Bool.eq_iff_iff]; simp)
  have HBG := Lib.hid (fun w' (h : Below w.heap.size w w') => rbegins_any A AA na ca w' hA (by omega) (hcA.below h))
  have HEN := Lib.hid (fun w' (h : Below w.heap.size w w') => rends_any B AB nb cb w' hB (by omega) (hcB.below h))
  obtain ⟨bA, hbA⟩ : ∃ z, z = begB A := ⟨_, rfl⟩
  obtain ⟨bB, hbB⟩ : ∃ z, z = endB B := ⟨_, rfl⟩
  rw [← hbA] at HBG
  rw [← hbB] at HEN
  rw [← hbA, ← hbB, HBL.out]
  clear hW1 hg1 hc hb hB hA hcB hcA hbA hbB
  go_enter Tryz.func55, Tryz.ntmps55
  go_upto_region 1 with fail
  rw [← HG1.out, ← HW1.out]
  by_cases h0 : wv = 0
  · subst h0
    go_wp2_with fail
    go_ret
    exact ⟨ret_bool rfl, V1.out.below⟩
  have e0 : (wv == 0) = false := by simpa using h0
  by_cases h1 : wv = 1
  · subst h1
    go_wp2_with fail
    refine (HBG.out _ V1.out.below).mono ?_
    rintro e w2 ⟨rfl, hb⟩
    have V2 := Lib.hid (V1.out.go hb)
    clear hb
    go_wp2_with fail
    go_ret
    exact ⟨ret_bool rfl, V2.out.below⟩
  have e1 : (wv == 1) = false := by simpa using h1
  by_cases h2 : wv = 2
  · subst h2
    by_cases hn0 : nb = 0
    · subst hn0
      go_wp2_with fail
      refine (HBG.out _ V1.out.below).mono ?_
      rintro e w2 ⟨rfl, hb⟩
      have V2 := Lib.hid (V1.out.go hb)
      clear hb
      go_wp2_with fail
      go_ret
      exact ⟨ret_bool rfl, V2.out.below⟩
    · have en : ((nb : Int) == 0) = false := by simpa using hn0
      clear hn0
      go_wp2_with fail
      go_ret
      exact ⟨ret_bool rfl, V1.out.below⟩
  have e2 : (wv == 2) = false := by simpa using h2
  by_cases h3 : wv = 3
  · subst h3
    go_wp2_with fail
    refine (HEN.out _ V1.out.below).mono ?_
    rintro e w2 ⟨rfl, hb⟩
    have V2 := Lib.hid (V1.out.go hb)
    clear hb
    cases bB with
    | true =>
      go_wp2_with fail
      refine (HBG.out _ V2.out.below).mono ?_
      rintro e w3 ⟨rfl, hb⟩
      have V3 := Lib.hid (V2.out.go hb)
      clear hb
      go_wp2_with fail
      go_ret
      exact ⟨ret_bool rfl, V3.out.below⟩
    | false =>
      go_wp2_with fail
      go_ret
      exact ⟨ret_bool rfl, V2.out.below⟩
  have e3 : (wv == 3) = false := by simpa using h3
  by_cases h4 : wv = 4
  · subst h4
    go_wp2_with fail
    refine (HBG.out _ V1.out.below).mono ?_
    rintro e w2 ⟨rfl, hb⟩
    have V2 := Lib.hid (V1.out.go hb)
    clear hb
    go_wp2_with fail
    go_ret
    exact ⟨ret_bool rfl, V2.out.below⟩
  have e4 : (wv == 4) = false := by simpa using h4
  have HE := Lib.hid (fun e a b => wh_out (e := e) (a := a) (b := b) h0 h1 h2 h3 h4)
  clear h0 h1 h2 h3 h4
  go_wp2_with fail
  go_ret
  exact ⟨ret_bool (HE.out _ _ _).symm, V1.out.below⟩
theorem fits_any (nm : List UInt8) (L : List Sg) (i : Int) (n c nb cb na ca : Nat) (AO AB AA : Option Addr) (w : World) (B A : List Snd) (hl : L.length = n) (hn : n ≤ 17592186044416) (hO : SgnIn w AO L)
    (hB : B.length = nb) (hnb : nb ≤ 1000000) (hA : A.length = na) (hna : na ≤ 1000000) (hcB : CellsIn w AB (sndsC B)) (hcA : CellsIn w AA (sndsC A)) :
    Calls Tryz.prog 84 #[.agg #[.string (bs nm), .slice AO n c], .int .i64 i, .slice AB nb cb, .slice AA na ca] w fun e w' => e = .returned (.bool (fitB L i B A)) ∧ Below w.heap.size w w' := by
  by_cases h : i < 0 ∨ (n : Int) ≤ i
  · exact fits_none nm L i n c nb cb na ca AO AB AA w B A h hl
  · obtain ⟨k, rfl⟩ : ∃ k : Nat, i = (k : Int) := ⟨i.toNat, by omega⟩
    obtain ⟨x, hx⟩ := get_at (L := L) (k := k) (by omega)
    obtain ⟨b, off, Aj, cj, rfl, hb, c0, c1, c2, c3, c4⟩ := hO.at hx
    rw [fitB_at hx]
    exact fits_cell nm k x.w n c nb cb na ca b off AB AA w B A (by omega) hn hb c3 hB hnb hA hna hcB hcA
theorem rfits_any (nm : List UInt8) (L : List Sg) (i : Int) (n c nb cb na ca : Nat) (AO AB AA : Option Addr) (w : World) (B A : List Snd) (hl : L.length = n) (hn : n ≤ 17592186044416) (hO : SgnIn w AO L)
    (hB : B.length = nb) (hnb : nb ≤ 1000000) (hA : A.length = na) (hna : na ≤ 1000000) (hcB : CellsIn w AB (sndsC B)) (hcA : CellsIn w AA (sndsC A)) :
    Calls Tryz.prog 55 #[.agg #[.string (bs nm), .slice AO n c], .int .i64 i, .slice AB nb cb, .slice AA na ca] w fun e w' => e = .returned (.bool (fitB L i B A)) ∧ Below w.heap.size w w' := by
  by_cases h : i < 0 ∨ (n : Int) ≤ i
  · exact rfits_none nm L i n c nb cb na ca AO AB AA w B A h hl
  · obtain ⟨k, rfl⟩ : ∃ k : Nat, i = (k : Int) := ⟨i.toNat, by omega⟩
    obtain ⟨x, hx⟩ := get_at (L := L) (k := k) (by omega)
    obtain ⟨b, off, Aj, cj, rfl, hb, c0, c1, c2, c3, c4⟩ := hO.at hx
    rw [fitB_at hx]
    exact rfits_cell nm k x.w n c nb cb na ca b off AB AA w B A (by omega) hn hb c3 hB hnb hA hna hcB hcA
end Go.Proofs.YtpifchlpakajjaaGreat
