/- Contracts of the reference: the error of a graph, small graphs. -/
import Derived.Test.YtdoobdfanalnbaaDBb
namespace Go.Proofs.Ytdoobdfanalnbaa
open Go.RowKit
set_option linter.unusedVariables false
set_option linter.unusedSimpArgs false
set_option maxRecDepth 100000

set_option maxHeartbeats 16000000 in
theorem rvalid_any (g : Gr) (A : Option Addr) (n c : Nat) (w : World) (h : GrIn w A n c g) :
    Calls Try.prog 24 #[gval g A n c] w fun e w' => e = .returned (.int .i64 g.vE) ∧ Below w.heap.size w w' := by
  have H := Lib.hid h
  have hn : g.rs.length = n := h.len
  have hcs := h.small
  have hcn := h.cap
  clear h
  by_cases c1 : g.n < 1
  · have HE := Lib.hid (show g.vE = 7 from by unfold Gr.vE; rw [if_pos c1])
    go_enter Try.func24, Try.ntmps24
    go_wp2
    go_ret
    exact ⟨ret_int HE.out.symm, bnew _ _⟩
  by_cases c2 : 2000 < g.n
  · have HE := Lib.hid (show g.vE = 3 from by unfold Gr.vE; rw [if_neg c1, if_pos (.inl c2)])
    go_enter Try.func24, Try.ntmps24
    go_wp2
    go_ret
    exact ⟨ret_int HE.out.symm, bnew _ _⟩
  by_cases c3 : 6000 < n
  · have HE := Lib.hid (show g.vE = 3 from by unfold Gr.vE; rw [if_neg c1, if_pos (.inr (by omega))])
    go_enter Try.func24, Try.ntmps24
    go_wp2
    go_ret
    exact ⟨ret_int HE.out.symm, bnew _ _⟩
  have HH := Lib.hid (show g.vE = arcsE g.n g.rs by unfold Gr.vE; rw [if_neg c1, if_neg (by omega)])
  have HN := Lib.hid hn
  clear hn
  obtain ⟨wz, hwz⟩ : ∃ z, z = w.alloc (.cells #[.int .i64 g.n, .slice A n c] 24) := ⟨_, rfl⟩
  have HZ := Lib.hid hwz
  have V := Lib.hid (show Hp w [gbox w.heap.size g A n c] wz by rw [hwz]; exact (Hp.start w).gnew g A n c)
  clear hwz
  go_enter Try.func24, Try.ntmps24
  go_upto_region 1 with fail
  rw [← HZ.out]
  clear HZ
  obtain ⟨r0, r1, r9⟩ := V.out.gb (i := 0) rfl
  go_wp2_with fail
  have H1 := Lib.hid (show ∀ (i : Nat) a, i < 0 → g.rs[i]? = some a → arcE g.n a = 0 from fun i a h => absurd h (Nat.not_lt_zero _))
  clear r0 r1 r9
  go_loopw [3] (fun cv wr => ∃ k : Nat, cv = .int .i64 (k : Int) ∧ k ≤ n ∧ (∀ (i : Nat) a, i < k → g.rs[i]? = some a → arcE g.n a = 0) ∧ Hp w [gbox w.heap.size g A n c] wr) (fun cv _ => n - (intOf cv).toNat)
  case atStart => exact ⟨0, rfl, Nat.zero_le _, H1.out, V.out⟩
  case round =>
    clear H1 V
    obtain ⟨k, rfl, hkn, hr, hV⟩ := hrel
    obtain ⟨wi, rfl⟩ : ∃ wi : World, wi = wr := ⟨_, rfl⟩
    have V := Lib.hid hV
    have HR := Lib.hid hr
    clear hV hr
    obtain ⟨r0, r1, r9⟩ := V.out.gb (i := 0) rfl
    by_cases hlt : k < n
    case neg =>
      obtain rfl : k = n := by omega
      have HE := Lib.hid (show g.vE = 0 by rw [HH.out]; exact arcsE_all fun i a hi => HR.out i a (by have := (List.getElem?_eq_some_iff.1 hi).1; have := HN.out; omega) hi)
      go_wp2_with fail
      go_ret
      exact ⟨ret_int HE.out.symm, V.out.below⟩
    obtain ⟨⟨f, t, q⟩, b, off, ha, _, hA, hb, c0, c1', c2'⟩ := (H.out.below V.out.below).at hlt
    subst hA
    dsimp only at c0 c1' c2'
    obtain ⟨wy, hwy⟩ : ∃ z, z = wi.alloc (.cells #[.int .i64 f, .int .i64 t, .int .i64 q] 60) := ⟨_, rfl⟩
    have HY := Lib.hid hwy
    have VY := Lib.hid (show Hp w [abox wi.heap.size ⟨f, t, q⟩, gbox w.heap.size g (some ⟨b, off, none⟩) n c] wy by rw [hwy]; exact V.out.anew ⟨f, t, q⟩)
    have HA := Lib.hid ha
    clear ha hwy
    have hbig : k * 3 ≤ 20000 := by omega
    go_upto_region 9 with fail
    rw [← HY.out]
    clear HY r0 r1 r9 V c0 c1' c2' hb
    obtain ⟨r0, r1, r9⟩ := VY.out.gb (i := 1) rfl
    obtain ⟨s0, s1, s2, s9⟩ := VY.out.ab (i := 0) rfl
    by_cases e1 : 0 ≤ f
    case neg =>
      have HE := Lib.hid (show g.vE = 6 by rw [HH.out, arcsE_at HA.out HR.out]; exact (show arcE g.n ⟨f, t, q⟩ = 6 from if_pos (.inl (fun h => e1 h.1))); rw [(show arcE g.n ⟨f, t, q⟩ = 6 from if_pos (.inl (fun h => e1 h.1)))]; decide)
      have ex : f < 0 := by omega
      go_wp2_with fail
      go_ret
      exact ⟨ret_int HE.out.symm, VY.out.below⟩
    by_cases e1b : f < g.n
    case neg =>
      have HE := Lib.hid (show g.vE = 6 by rw [HH.out, arcsE_at HA.out HR.out]; exact (show arcE g.n ⟨f, t, q⟩ = 6 from if_pos (.inl (fun h => e1b h.2))); rw [(show arcE g.n ⟨f, t, q⟩ = 6 from if_pos (.inl (fun h => e1b h.2)))]; decide)
      have ex : g.n ≤ f := by omega
      go_wp2_with fail
      go_ret
      exact ⟨ret_int HE.out.symm, VY.out.below⟩
    by_cases e2 : 0 ≤ t
    case neg =>
      have HE := Lib.hid (show g.vE = 6 by rw [HH.out, arcsE_at HA.out HR.out]; exact (show arcE g.n ⟨f, t, q⟩ = 6 from if_pos (.inr (.inl (fun h => e2 h.1)))); rw [(show arcE g.n ⟨f, t, q⟩ = 6 from if_pos (.inr (.inl (fun h => e2 h.1))))]; decide)
      have ex : t < 0 := by omega
      go_wp2_with fail
      go_ret
      exact ⟨ret_int HE.out.symm, VY.out.below⟩
    by_cases e2b : t < g.n
    case neg =>
      have HE := Lib.hid (show g.vE = 6 by rw [HH.out, arcsE_at HA.out HR.out]; exact (show arcE g.n ⟨f, t, q⟩ = 6 from if_pos (.inr (.inl (fun h => e2b h.2)))); rw [(show arcE g.n ⟨f, t, q⟩ = 6 from if_pos (.inr (.inl (fun h => e2b h.2))))]; decide)
      have ex : g.n ≤ t := by omega
      go_wp2_with fail
      go_ret
      exact ⟨ret_int HE.out.symm, VY.out.below⟩
    by_cases e3 : 0 ≤ q
    case neg =>
      have HE := Lib.hid (show g.vE = 6 by rw [HH.out, arcsE_at HA.out HR.out]; exact (show arcE g.n ⟨f, t, q⟩ = 6 from if_pos (.inr (.inr (.inl (by show q < 0; omega))))); rw [(show arcE g.n ⟨f, t, q⟩ = 6 from if_pos (.inr (.inr (.inl (by show q < 0; omega)))))]; decide)
      have ex : q < 0 := by omega
      go_wp2_with fail
      go_ret
      exact ⟨ret_int HE.out.symm, VY.out.below⟩
    by_cases e4 : q ≤ 1000000
    case neg =>
      have HE := Lib.hid (show g.vE = 6 by rw [HH.out, arcsE_at HA.out HR.out]; exact (show arcE g.n ⟨f, t, q⟩ = 6 from if_pos (.inr (.inr (.inr (by show 1000000 < q; omega))))); rw [(show arcE g.n ⟨f, t, q⟩ = 6 from if_pos (.inr (.inr (.inr (by show 1000000 < q; omega)))))]; decide)
      have ex : 1000000 < q := by omega
      go_wp2_with fail
      go_ret
      exact ⟨ret_int HE.out.symm, VY.out.below⟩
    by_cases e5 : f < t
    case neg =>
      have HE := Lib.hid (show g.vE = 18 by have hx : arcE g.n ⟨f, t, q⟩ = 18 := by { unfold arcE; rw [if_neg (by simp only; omega), if_pos (by simp only; omega)] }; rw [HH.out, arcsE_at HA.out HR.out]; exact hx; rw [hx]; decide)
      have ex : t ≤ f := by omega
      go_wp2_with fail
      go_ret
      exact ⟨ret_int HE.out.symm, VY.out.below⟩
    have H3 := Lib.hid (show ∀ (i : Nat) a, i < k + 1 → g.rs[i]? = some a → arcE g.n a = 0 from fun i a hi hia => by
      by_cases e : i = k
      · subst e
        have := HA.out.symm.trans hia
        injection this with this
        subst this
        exact arcE_ok.2 ⟨e1, e5, e2b, e3, e4⟩
      · exact HR.out i a (by omega) hia)
    go_wp2_with fail
    go_roundw
    case rel => exact ⟨k + 1, by go_num, by omega, H3.out, VY.out.tail⟩
    case measure => simp [intOf]; omega
/-- A small graph. -/
def Gr.fewB (g : Gr) : Bool := decide (g.rs.length ≤ 120 ∧ (g.n ≤ 40 ∨ 2000 < g.n))
theorem rfew_any (g : Gr) (A : Option Addr) (n c : Nat) (w : World) (h : GrIn w A n c g) :
    Calls Try.prog 16 #[gval g A n c] w fun e w' => e = .returned (.bool g.fewB) ∧ Below w.heap.size w w' := by
  have hn : g.rs.length = n := h.len
  have hcs := h.small
  have hcn := h.cap
  clear h
  by_cases c1 : n ≤ 120
  case neg =>
    have HE := Lib.hid (show g.fewB = false from decide_eq_false (by omega))
    have c2 : 120 < n := by omega
    go_enter Try.func16, Try.ntmps16
    go_wp2
    go_ret
    exact ⟨ret_bool HE.out.symm, bnew _ _⟩
  by_cases c2 : g.n ≤ 40
  · have HE := Lib.hid (show g.fewB = true from decide_eq_true (by omega))
    go_enter Try.func16, Try.ntmps16
    go_wp2
    go_ret
    exact ⟨ret_bool HE.out.symm, bnew _ _⟩
  by_cases c3 : 2000 < g.n
  · have HE := Lib.hid (show g.fewB = true from decide_eq_true (by omega))
    have c4 : 40 < g.n := by omega
    go_enter Try.func16, Try.ntmps16
    go_wp2
    go_ret
    exact ⟨ret_bool HE.out.symm, bnew _ _⟩
  · have HE := Lib.hid (show g.fewB = false from decide_eq_false (by omega))
    have c4 : 40 < g.n := by omega
    have c5 : g.n ≤ 2000 := by omega
    go_enter Try.func16, Try.ntmps16
    go_wp2
    go_ret
    exact ⟨ret_bool HE.out.symm, bnew _ _⟩
end Go.Proofs.Ytdoobdfanalnbaa
