/- Contracts of the program: nodes, the error of a graph. -/
import Derived.Test.YtgdfjblfpeedjaaDBb
namespace Go.Proofs.Ytgdfjblfpeedjaa
open Go.RowKit
set_option linter.unusedVariables false
set_option linter.unusedSimpArgs false
set_option maxRecDepth 100000

/-- A node. -/
def ndB (n s : Int) : Bool := decide (0 ≤ s ∧ s < n)
theorem end_any (g : Gr) (A : Option Addr) (n c : Nat) (w : World) (h0 : 1 ≤ g.n) (h1 : g.n ≤ 2000) :
    Calls Try.prog 13 #[gval g A n c] w fun e w' => e = .returned (.int .i64 (g.n - 1)) ∧ Below w.heap.size w w' := by
  have hw : IntKind.i64.wrap (g.n - 1) = g.n - 1 := IntWalk.i64_in _ (by omega)
  go_enter Try.func13, Try.ntmps13
  go_wp2
  go_ret
  exact ⟨rfl, bnew _ _⟩
theorem isNode_any (g : Gr) (A : Option Addr) (n c : Nat) (s : Int) (w : World) :
    Calls Try.prog 21 #[gval g A n c, .int .i64 s] w fun e w' => e = .returned (.bool (ndB g.n s)) ∧ Below w.heap.size w w' := by
  by_cases h0 : 0 ≤ s
  · by_cases h1 : s < g.n
    · have H := Lib.hid (show ndB g.n s = true by simp [ndB, h0, h1])
      go_enter Try.func21, Try.ntmps21
      go_wp2
      go_ret
      exact ⟨ret_bool H.out.symm, bnew _ _⟩
    · have H := Lib.hid (show ndB g.n s = false by simp [ndB]; omega)
      go_enter Try.func21, Try.ntmps21
      go_wp2
      go_ret
      exact ⟨ret_bool H.out.symm, bnew _ _⟩
  · have H := Lib.hid (show ndB g.n s = false by simp [ndB]; omega)
    go_enter Try.func21, Try.ntmps21
    go_wp2
    go_ret
    exact ⟨ret_bool H.out.symm, bnew _ _⟩
set_option maxHeartbeats 16000000 in
theorem valid_any (g : Gr) (A : Option Addr) (n c : Nat) (w : World) (h : GrIn w A n c g) :
    Calls Try.prog 12 #[gval g A n c] w fun e w' => e = .returned (.int .i64 g.vE) ∧ Below w.heap.size w w' := by
  have H := Lib.hid h
  have hn : g.rs.length = n := h.len
  have hcs := h.small
  have hcn := h.cap
  clear h
  obtain ⟨N, hN⟩ : ∃ N, N = g.n := ⟨_, rfl⟩
  by_cases c1 : g.n < 1
  · have HE := Lib.hid (show g.vE = 7 from by unfold Gr.vE; rw [if_pos c1])
    go_enter Try.func12, Try.ntmps12
    go_wp2
    go_ret
    exact ⟨ret_int HE.out.symm, bnew _ _⟩
  by_cases c2 : 2000 < g.n
  · have HE := Lib.hid (show g.vE = 3 from by unfold Gr.vE; rw [if_neg c1, if_pos (.inl c2)])
    go_enter Try.func12, Try.ntmps12
    go_wp2
    go_ret
    exact ⟨ret_int HE.out.symm, bnew _ _⟩
  by_cases c3 : 6000 < n
  · have HE := Lib.hid (show g.vE = 3 from by unfold Gr.vE; rw [if_neg c1, if_pos (.inr (by omega))])
    go_enter Try.func12, Try.ntmps12
    go_wp2
    go_ret
    exact ⟨ret_int HE.out.symm, bnew _ _⟩
  have HH := Lib.hid (show g.vE = arcsE g.n g.rs by unfold Gr.vE; rw [if_neg c1, if_neg (by omega)])
  have HN := Lib.hid hn
  clear hn
  obtain ⟨wz, hwz⟩ : ∃ z, z = w.alloc (.cells #[.int .i64 g.n, .slice A n c] 26) := ⟨_, rfl⟩
  have HZ := Lib.hid hwz
  have V := Lib.hid (show Hp w [gbox w.heap.size g A n c] wz by rw [hwz]; exact (Hp.start w).gnew g A n c)
  clear hwz
  go_enter Try.func12, Try.ntmps12
  go_upto_region 1 with fail
  rw [← HZ.out]
  clear HZ
  obtain ⟨r0, r1, r9⟩ := V.out.gb (i := 0) rfl
  go_wp2_with fail
  have H1 := Lib.hid (show ∀ (i : Nat) a, i < 0 → g.rs[i]? = some a → arcE g.n a = 0 from fun i a h => absurd h (Nat.not_lt_zero _))
  clear r0 r1 r9
  go_loopw [20] (fun cv wr => ∃ k : Nat, cv = .int .i64 (k : Int) ∧ k ≤ n ∧ (∀ (i : Nat) a, i < k → g.rs[i]? = some a → arcE g.n a = 0) ∧ Hp w [gbox w.heap.size g A n c] wr) (fun cv _ => n - (intOf cv).toNat)
  case atStart => exact ⟨0, rfl, Nat.zero_le _, H1.out, V.out⟩
  case round =>
    clear H1 V
    obtain ⟨k, rfl, hkn, hr, hV⟩ := hrel
    obtain ⟨wi, rfl⟩ : ∃ wi : World, wi = wr := ⟨_, rfl⟩
    have V := Lib.hid hV
    have HR := Lib.hid hr
    clear hV hr
    by_cases hlt : k < n
    case neg =>
      obtain rfl : k = n := by omega
      have HE := Lib.hid (show g.vE = 0 by rw [HH.out]; exact arcsE_all fun i a hi => HR.out i a (by have := (List.getElem?_eq_some_iff.1 hi).1; have := HN.out; omega) hi)
      go_wp2_with fail
      go_ret
      exact ⟨ret_int HE.out.symm, V.out.below⟩
    obtain ⟨⟨f, t, q⟩, b, off, ha, _, hA, hb, c0, c1', c2'⟩ := (H.out.below V.out.below).at hlt
    subst hA
    dsimp only at c0 c1' c2'
    obtain ⟨wy, hwy⟩ : ∃ z, z = wi.alloc (.cells #[.int .i64 f, .int .i64 t, .int .i64 q] 40) := ⟨_, rfl⟩
    have HY := Lib.hid hwy
    have VY := Lib.hid (show Hp w [abox wi.heap.size ⟨f, t, q⟩, gbox w.heap.size g (some ⟨b, off, none⟩) n c] wy by rw [hwy]; exact V.out.anew ⟨f, t, q⟩)
    have HA := Lib.hid ha
    clear ha hwy
    have hbig : k * 3 ≤ 20000 := by omega
    obtain ⟨r0, r1, r9⟩ := V.out.gb (i := 0) rfl
    go_upto_region 8 with fail
    rw [← HY.out]
    clear HY r0 r1 r9 V c0 c1' c2' hb
    obtain ⟨r0, r1, r9⟩ := VY.out.gb (i := 1) rfl
    obtain ⟨s0, s1, s2, s9⟩ := VY.out.ab (i := 0) rfl
    by_cases e1 : 0 ≤ f ∧ f < g.n
    case neg =>
      have HB := Lib.hid (show ndB g.n f = false from decide_eq_false e1)
      have HE := Lib.hid (show g.vE = 6 by rw [HH.out, arcsE_at HA.out HR.out]; exact (show arcE g.n ⟨f, t, q⟩ = 6 from if_pos (.inl e1)); rw [(show arcE g.n ⟨f, t, q⟩ = 6 from if_pos (.inl e1))]; decide)
      clear e1
      go_wp2_with fail
      refine (isNode_any g (some ⟨b, off, none⟩) n c f _).mono ?_
      rintro e w1 ⟨rfl, bb⟩
      rw [HB.out]
      have V1 := Lib.hid (VY.out.go bb)
      clear bb r0 r1 r9 s0 s1 s2 s9
      obtain ⟨r0, r1, r9⟩ := V1.out.gb (i := 1) rfl
      obtain ⟨s0, s1, s2, s9⟩ := V1.out.ab (i := 0) rfl
      go_wp2_with fail
      go_ret
      exact ⟨ret_int HE.out.symm, V1.out.below⟩
    have HB1 := Lib.hid (show ndB g.n f = true from decide_eq_true e1)
    by_cases e2 : 0 ≤ t ∧ t < g.n
    case neg =>
      have HB := Lib.hid (show ndB g.n t = false from decide_eq_false e2)
      have HE := Lib.hid (show g.vE = 6 by rw [HH.out, arcsE_at HA.out HR.out]; exact (show arcE g.n ⟨f, t, q⟩ = 6 from if_pos (.inr (.inl e2))); rw [(show arcE g.n ⟨f, t, q⟩ = 6 from if_pos (.inr (.inl e2)))]; decide)
      clear e1 e2
      go_wp2_with fail
      refine (isNode_any g (some ⟨b, off, none⟩) n c f _).mono ?_
      rintro e w1 ⟨rfl, bb⟩
      rw [HB1.out]
      have V1 := Lib.hid (VY.out.go bb)
      clear bb r0 r1 r9 s0 s1 s2 s9
      obtain ⟨r0, r1, r9⟩ := V1.out.gb (i := 1) rfl
      obtain ⟨s0, s1, s2, s9⟩ := V1.out.ab (i := 0) rfl
      go_wp2_with fail
      refine (isNode_any g (some ⟨b, off, none⟩) n c t _).mono ?_
      rintro e w2 ⟨rfl, bb⟩
      rw [HB.out]
      have V2 := Lib.hid (V1.out.go bb)
      clear bb r0 r1 r9 s0 s1 s2 s9
      obtain ⟨r0, r1, r9⟩ := V2.out.gb (i := 1) rfl
      obtain ⟨s0, s1, s2, s9⟩ := V2.out.ab (i := 0) rfl
      go_wp2_with fail
      go_ret
      exact ⟨ret_int HE.out.symm, V2.out.below⟩
    have HB2 := Lib.hid (show ndB g.n t = true from decide_eq_true e2)
    go_wp2_with fail
    refine (isNode_any g (some ⟨b, off, none⟩) n c f _).mono ?_
    rintro e w1 ⟨rfl, bb⟩
    rw [HB1.out]
    have V1 := Lib.hid (VY.out.go bb)
    clear bb r0 r1 r9 s0 s1 s2 s9
    obtain ⟨r0, r1, r9⟩ := V1.out.gb (i := 1) rfl
    obtain ⟨s0, s1, s2, s9⟩ := V1.out.ab (i := 0) rfl
    go_wp2_with fail
    refine (isNode_any g (some ⟨b, off, none⟩) n c t _).mono ?_
    rintro e w2 ⟨rfl, bb⟩
    rw [HB2.out]
    have V2 := Lib.hid (V1.out.go bb)
    clear bb r0 r1 r9 s0 s1 s2 s9
    obtain ⟨r0, r1, r9⟩ := V2.out.gb (i := 1) rfl
    obtain ⟨s0, s1, s2, s9⟩ := V2.out.ab (i := 0) rfl
    by_cases e3 : 0 ≤ q
    case neg =>
      have HE := Lib.hid (show g.vE = 6 by rw [HH.out, arcsE_at HA.out HR.out]; exact (show arcE g.n ⟨f, t, q⟩ = 6 from if_pos (.inr (.inr (.inl (by show q < 0; omega))))); rw [(show arcE g.n ⟨f, t, q⟩ = 6 from if_pos (.inr (.inr (.inl (by show q < 0; omega)))))]; decide)
      have e3' : q < 0 := by omega
      clear e1 e2 e3
      go_wp2_with fail
      go_ret
      exact ⟨ret_int HE.out.symm, V2.out.below⟩
    by_cases e4 : q ≤ 1000000
    case neg =>
      have HE := Lib.hid (show g.vE = 6 by rw [HH.out, arcsE_at HA.out HR.out]; exact (show arcE g.n ⟨f, t, q⟩ = 6 from if_pos (.inr (.inr (.inr (by show 1000000 < q; omega))))); rw [(show arcE g.n ⟨f, t, q⟩ = 6 from if_pos (.inr (.inr (.inr (by show 1000000 < q; omega)))))]; decide)
      have e4' : 1000000 < q := by omega
      clear e1 e2 e4
      go_wp2_with fail
      go_ret
      exact ⟨ret_int HE.out.symm, V2.out.below⟩
    by_cases e5 : f < t
    case neg =>
      have HE := Lib.hid (show g.vE = 18 by have hx : arcE g.n ⟨f, t, q⟩ = 18 := by { unfold arcE; rw [if_neg (by simp only; omega), if_pos (by simp only; omega)] }; rw [HH.out, arcsE_at HA.out HR.out]; exact hx; rw [hx]; decide)
      have e5' : t ≤ f := by omega
      clear e1 e2 e5
      go_wp2_with fail
      go_ret
      exact ⟨ret_int HE.out.symm, V2.out.below⟩
    have H3 := Lib.hid (show ∀ (i : Nat) a, i < k + 1 → g.rs[i]? = some a → arcE g.n a = 0 from fun i a hi hia => by
      by_cases e : i = k
      · subst e
        have := HA.out.symm.trans hia
        injection this with this
        subst this
        exact arcE_ok.2 ⟨e1.1, e5, e2.2, e3, e4⟩
      · exact HR.out i a (by omega) hia)
    clear e1 e2
    go_wp2_with fail
    go_roundw
    case rel => exact ⟨k + 1, by go_num, by omega, H3.out, V2.out.tail⟩
    case measure => simp [intOf]; omega
end Go.Proofs.Ytgdfjblfpeedjaa
