/- Contracts of Cmp, of the program and of the reference, and of Same. -/
import Derived.Test.YtkfkefgkepoaaaaGreatDoorNWg
namespace Go.Proofs.YtkfkefgkepoaaaaGreatDoor
open Go.RowKit
set_option linter.unusedVariables false
set_option maxRecDepth 100000

theorem cmpL_lt {L M : List Int} (h : L.length < M.length) : cmpL L M = -1 := by unfold cmpL; rw [if_pos h]
theorem cmpL_gt {L M : List Int} (h : M.length < L.length) : cmpL L M = 1 := by unfold cmpL; rw [if_neg (by omega), if_pos h]
theorem cmpL_eq {L M : List Int} {n : Nat} (h1 : L.length = n) (h2 : M.length = n) : cmpL L M = cmpD L M n := by unfold cmpL; rw [if_neg (by omega), if_neg (by omega), h1]
theorem cmpD_succ (L M : List Int) (k : Nat) : cmpD L M (k + 1) = if L.getD k 0 < M.getD k 0 then -1 else if M.getD k 0 < L.getD k 0 then 1 else cmpD L M k := rfl
theorem cmpD_less {L M : List Int} {k : Nat} {x y : Int} (hx : x = L.getD k 0) (hy : y = M.getD k 0) (h : x < y) : cmpD L M (k + 1) = -1 := by rw [cmpD_succ, ← hx, ← hy, if_pos h]
theorem cmpD_more {L M : List Int} {k : Nat} {x y : Int} (hx : x = L.getD k 0) (hy : y = M.getD k 0) (h : y < x) : cmpD L M (k + 1) = 1 := by rw [cmpD_succ, ← hx, ← hy, if_neg (by omega), if_pos h]
theorem cmpD_go {L M : List Int} {k : Nat} {x y : Int} (hx : x = L.getD k 0) (hy : y = M.getD k 0) (h : x = y) : cmpD L M (k + 1) = cmpD L M k := by rw [cmpD_succ, ← hx, ← hy, if_neg (by omega), if_neg (by omega)]
set_option maxHeartbeats 1000000 in
theorem rcmp_any (L M : List Int) (n c m d : Nat) (A B : Option Addr) (w : World) (hn : L.length = n) (hm : M.length = m) (hn63 : n ≤ maxLen) (hm63 : m ≤ maxLen) (hA : IntsIn w A L) (hB : IntsIn w B M) :
    Calls Tryz.prog 73 #[.slice A n c, .slice B m d] w fun e w' => e = .returned (.int .i64 (cmpL L M)) ∧ ∃ q, w' = w.drewN q := by
  unfold maxLen at hn63 hm63
  by_cases h1 : n < m
  · have hv := Lib.hid (cmpL_lt (L := L) (M := M) (by omega))
    have h1' : (n : Int) < (m : Int) := by omega
    clear hn hm hA hB
    go_enter Tryz.func73, Tryz.ntmps73
    go_wp2
    go_ret
    exact ⟨ret_int hv.out, 0, rfl⟩
  · by_cases h2 : m < n
    · have hv := Lib.hid (cmpL_gt (L := L) (M := M) (by omega))
      have h2' : (m : Int) < (n : Int) := by omega
      have h1' : decide (n < m) = false := by simp; omega
      clear hn hm hA hB
      go_enter Tryz.func73, Tryz.ntmps73
      go_wp2
      go_ret
      exact ⟨ret_int hv.out, 0, rfl⟩
    · obtain rfl : m = n := by omega
      have HN := Lib.hid hn
      have HM := Lib.hid hm
      have HA := Lib.hid hA
      have HB := Lib.hid hB
      have HE := Lib.hid (cmpL_eq hn hm)
      clear hn hm hA hB h1 h2
      go_enter Tryz.func73, Tryz.ntmps73
      go_wp2
      go_loopw [5] (fun i wr => ∃ (j : Nat) (a : Int), j ≤ m ∧ a = (j : Int) - 1 ∧ i = .int .i64 a ∧ cmpD L M m = cmpD L M j ∧ ∃ q, wr = w.drewN q) (fun i _ => (intOf i + 1).toNat)
      case atStart => exact ⟨m, _, Nat.le_refl _, rfl, rfl, rfl, 0, rfl⟩
      case round =>
        obtain ⟨j, a, hj, ha, rfl, hc, q, rfl⟩ := hrel
        have HC := Lib.hid hc
        clear hc
        cases j with
        | zero =>
          obtain rfl : a = -1 := by omega
          clear ha
          go_wp2
          go_ret
          exact ⟨ret_int (HE.out.trans HC.out), _, rfl⟩
        | succ i =>
          obtain rfl : a = (i : Int) := by omega
          clear ha
          obtain ⟨b, off, rfl, hb, hcc⟩ := HA.out (by rw [HN.out]; omega)
          have ha1 := hcc i (by rw [HN.out]; omega)
          obtain ⟨b2, off2, rfl, hb2, hcc2⟩ := HB.out (by rw [HM.out]; omega)
          have hb1 := hcc2 i (by rw [HM.out]; omega)
          clear hcc hcc2
          obtain ⟨x, hx⟩ : ∃ x, x = L.getD i 0 := ⟨_, rfl⟩
          obtain ⟨y, hy⟩ : ∃ y, y = M.getD i 0 := ⟨_, rfl⟩
          rw [← hx] at ha1
          rw [← hy] at hb1
          have hi1 : (i : Int) < (m : Int) := by omega
          by_cases h3 : x < y
          · have hv := Lib.hid (cmpD_less hx hy h3)
            clear hx hy
            go_wp2
            go_quiet (fail)
            go_wp2
            go_ret
            exact ⟨ret_int ((HE.out.trans HC.out).trans hv.out), _, World.drewN_drewN _ _ _⟩
          · have h3' : decide (x < y) = false := by simp; omega
            by_cases h4 : y < x
            · have hv := Lib.hid (cmpD_more hx hy h4)
              clear hx hy
              go_wp2
              go_quiet (fail)
              go_wp2
              go_quiet (fail)
              go_wp2
              go_ret
              exact ⟨ret_int ((HE.out.trans HC.out).trans hv.out), by first | exact ⟨_, World.drewN_drewN _ _ _⟩ | exact ⟨_, (World.drewN_drewN _ _ _).trans (World.drewN_drewN _ _ _)⟩ | exact ⟨_, by simp only [World.drewN_drewN]; rfl⟩⟩
            · have h4' : decide (y < x) = false := by simp; omega
              have hv := Lib.hid (cmpD_go hx hy (by omega))
              clear hx hy
              go_wp2
              go_quiet (fail)
              go_wp2
              go_quiet (fail)
              go_wp2
              go_roundw
              case rel => exact ⟨i, _, by omega, rfl, rfl, HC.out.trans hv.out, _, rfl⟩
              case measure => simp [intOf]
theorem quiet_add_left {P : Program} {f : FuncId} {args : Array Value} {w : World} {a n : Nat} {v : Value}
    (h : Calls P f args (w.drewN (a + n)) fun e w' => e = .returned v ∧ w.drewN (a + n) = w') :
    Calls P f args (w.drewN (a + n)) fun e w'' => e = .returned v ∧ ∃ m, w'' = w.drewN (a + m) :=
  h.mono fun _ _ ⟨he, hm⟩ => ⟨he, n, hm.symm⟩
theorem cmpI_lt {x y : Int} (h : x < y) (w : World) : Calls Tryz.prog 88 #[.int .i64 x, .int .i64 y] w fun e w' => e = .returned (.int .i64 (-1)) ∧ w = w' := by
  refine (Tryz.cmp_Compare_int x y w).mono ?_
  rintro e w' ⟨rfl, rfl⟩
  exact ⟨by unfold Lib.compareInt; rw [if_pos h], rfl⟩
theorem cmpI_gt {x y : Int} (h : y < x) (w : World) : Calls Tryz.prog 88 #[.int .i64 x, .int .i64 y] w fun e w' => e = .returned (.int .i64 1) ∧ w = w' := by
  refine (Tryz.cmp_Compare_int x y w).mono ?_
  rintro e w' ⟨rfl, rfl⟩
  exact ⟨by unfold Lib.compareInt; rw [if_neg (by omega), if_pos h], rfl⟩
theorem cmpI_eq {x y : Int} (h : x = y) (w : World) : Calls Tryz.prog 88 #[.int .i64 x, .int .i64 y] w fun e w' => e = .returned (.int .i64 0) ∧ w = w' := by
  refine (Tryz.cmp_Compare_int x y w).mono ?_
  rintro e w' ⟨rfl, rfl⟩
  exact ⟨by unfold Lib.compareInt; rw [if_neg (by omega), if_neg (by omega)], rfl⟩
theorem two_box {W : World} {o1 o2 : Obj} : Below W.heap.size W ((W.alloc o1).alloc o2) := ((Below.refl _ _).alloc (Nat.le_refl _) _).alloc (by simp) _
theorem two_box_drew {W : World} {o1 o2 : Obj} (q : Nat) : Below W.heap.size W (((W.alloc o1).alloc o2).drewN q) := bdr two_box q
set_option maxHeartbeats 1000000 in
theorem cmp_any (L M : List Int) (n c m d : Nat) (A B : Option Addr) (w : World) (hn : L.length = n) (hm : M.length = m) (hn63 : n ≤ maxLen) (hm63 : m ≤ maxLen) (hA : IntsIn w A L) (hB : IntsIn w B M) :
    Calls Tryz.prog 66 #[.agg #[.slice A n c], .agg #[.slice B m d]] w fun e w' => e = .returned (.int .i64 (cmpL L M)) ∧ Below w.heap.size w w' := by
  unfold maxLen at hn63 hm63
  by_cases h1 : n < m
  · have hv := Lib.hid (cmpL_lt (L := L) (M := M) (by omega))
    have h1' : (n : Int) < (m : Int) := by omega
    clear hn hm hA hB
    go_enter Tryz.func66, Tryz.ntmps66
    go_wp2_with (go_at_call 88; refine (cmpI_lt h1' _).mono ?_; rintro e w' ⟨rfl, rfl⟩)
    go_ret
    exact ⟨ret_int hv.out, two_box⟩
  · by_cases h2 : m < n
    · have hv := Lib.hid (cmpL_gt (L := L) (M := M) (by omega))
      have h2' : (m : Int) < (n : Int) := by omega
      clear hn hm hA hB
      go_enter Tryz.func66, Tryz.ntmps66
      go_wp2_with (go_at_call 88; refine (cmpI_gt h2' _).mono ?_; rintro e w' ⟨rfl, rfl⟩)
      go_ret
      exact ⟨ret_int hv.out, two_box⟩
    · obtain rfl : m = n := by omega
      have HN := Lib.hid hn
      have HM := Lib.hid hm
      have HA := Lib.hid (hA.below (w' := (w.alloc (.cells #[.slice A m c] 30)).alloc (.cells #[.slice B m d] 30)) two_box)
      have HB := Lib.hid (hB.below (w' := (w.alloc (.cells #[.slice A m c] 30)).alloc (.cells #[.slice B m d] 30)) two_box)
      have HE := Lib.hid (cmpL_eq hn hm)
      clear hn hm hA hB h1 h2
      go_enter Tryz.func66, Tryz.ntmps66
      go_wp2_with (go_at_call 88; refine (cmpI_eq rfl _).mono ?_; rintro e w' ⟨rfl, rfl⟩)
      go_loopw [6] (fun i wr => ∃ (j : Nat) (a : Int), j ≤ m ∧ a = (j : Int) - 1 ∧ i = .int .i64 a ∧ cmpD L M m = cmpD L M j ∧ ∃ q, wr = ((w.alloc (.cells #[.slice A m c] 30)).alloc (.cells #[.slice B m d] 30)).drewN q) (fun i _ => (intOf i + 1).toNat)
      case atStart => exact ⟨m, _, Nat.le_refl _, rfl, rfl, rfl, 0, rfl⟩
      case round =>
        obtain ⟨j, a, hj, ha, rfl, hc, q, rfl⟩ := hrel
        have HC := Lib.hid hc
        clear hc
        cases j with
        | zero =>
          obtain rfl : a = -1 := by omega
          clear ha
          go_wp2
          go_ret
          exact ⟨ret_int (HE.out.trans HC.out), two_box_drew _⟩
        | succ i =>
          obtain rfl : a = (i : Int) := by omega
          clear ha
          obtain ⟨b, off, rfl, hb, hcc⟩ := HA.out (by rw [HN.out]; omega)
          have ha1 := hcc i (by rw [HN.out]; omega)
          obtain ⟨b2, off2, rfl, hb2, hcc2⟩ := HB.out (by rw [HM.out]; omega)
          have hb1 := hcc2 i (by rw [HM.out]; omega)
          clear hcc hcc2
          obtain ⟨x, hx⟩ : ∃ x, x = L.getD i 0 := ⟨_, rfl⟩
          obtain ⟨y, hy⟩ : ∃ y, y = M.getD i 0 := ⟨_, rfl⟩
          rw [← hx] at ha1
          rw [← hy] at hb1
          have hi1 : (i : Int) < (m : Int) := by omega
          by_cases h3 : x < y
          · have hv := Lib.hid (cmpD_less hx hy h3)
            clear hx hy
            go_wp2
            go_quiet ((go_at_call 88; exact quiet_add_left (cmpI_lt h3 _)))
            go_wp2
            go_ret
            exact ⟨ret_int ((HE.out.trans HC.out).trans hv.out), by first | exact two_box_drew _ | exact bdr (two_box_drew _) _⟩
          · by_cases h4 : y < x
            · have hv := Lib.hid (cmpD_more hx hy h4)
              clear hx hy
              go_wp2
              go_quiet ((go_at_call 88; exact quiet_add_left (cmpI_gt h4 _)))
              go_wp2
              go_ret
              exact ⟨ret_int ((HE.out.trans HC.out).trans hv.out), by first | exact two_box_drew _ | exact bdr (two_box_drew _) _⟩
            · have h5 : x = y := by omega
              have hv := Lib.hid (cmpD_go hx hy h5)
              have H5 := Lib.hid h5
              clear hx hy h5
              go_wp2
              go_quiet ((go_at_call 88; exact quiet_add_left (cmpI_eq H5.out _)))
              go_wp2
              go_roundw
              case rel => exact ⟨i, _, by omega, rfl, rfl, HC.out.trans hv.out, _, rfl⟩
              case measure => simp [intOf]
end Go.Proofs.YtkfkefgkepoaaaaGreatDoor
