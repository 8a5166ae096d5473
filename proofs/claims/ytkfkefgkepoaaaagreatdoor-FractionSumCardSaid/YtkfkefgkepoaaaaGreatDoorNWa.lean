/- Contracts of the small functions on lists of digits: a digit of a list, and a list without the zeros at its end. -/
import Derived.Test.YtkfkefgkepoaaaaGreatDoorRows
import Derived.Test.YtkfkefgkepoaaaaGreatDoorNMath
import Derived.WalkKit
import Derived.WalkSpells
import Derived.WalkLawsBesides
import Derived.Lib.Hide
import Derived.Outline
namespace Go.Proofs.YtkfkefgkepoaaaaGreatDoor
open Go.RowKit
set_option linter.unusedVariables false
set_option maxRecDepth 100000

theorem ret_int {a b : Int} {k : IntKind} (h : b = a) : Ending.returned (.int k a) = Ending.returned (.int k b) := by rw [h]
theorem ret_bool {a b : Bool} (h : b = a) : Ending.returned (.bool a) = Ending.returned (.bool b) := by rw [h]
theorem ret_slice {A : Option Addr} {a b c : Nat} (h : b = a) : Ending.returned (.slice A a c) = Ending.returned (.slice A b c) := by rw [h]
theorem btwo {a b c : World} (h : Below a.heap.size a b) (k : Below b.heap.size b c) : Below a.heap.size a c := h.trans (k.mono h.size)
theorem bdr {B : Nat} {a w : World} (h : Below B a w) (n : Nat) : Below B a (w.drewN n) := ⟨h.os, h.tape, h.output, h.size, h.block⟩
/-- The address of a slice that reads as the integers L. -/
def IntsIn (w : World) (A : Option Addr) (L : List Int) : Prop :=
  0 < L.length → ∃ b off, A = some ⟨b, off, none⟩ ∧ b < w.heap.size ∧ ∀ j, j < L.length → w.cell? ⟨b, off + j, none⟩ = some (.int .i64 (L.getD j 0))
theorem IntsIn.below {w w' : World} {A : Option Addr} {L : List Int} (h : IntsIn w A L) (hb : Below w.heap.size w w') : IntsIn w' A L := by
  intro h0
  obtain ⟨b, off, e, hlt, hc⟩ := h h0
  exact ⟨b, off, e, Nat.lt_of_lt_of_le hlt hb.size, fun j hj => (hb.cell (p := ⟨b, off + j, none⟩) hlt).trans (hc j hj)⟩
theorem IntsIn.nil (w : World) (A : Option Addr) : IntsIn w A [] := fun h => by simp at h
theorem IntsIn.take {w : World} {A : Option Addr} {L : List Int} (h : IntsIn w A L) (k : Nat) : IntsIn w A (L.take k) := by
  intro h0
  rw [List.length_take] at h0
  obtain ⟨b, off, e, hlt, hc⟩ := h (by omega)
  refine ⟨b, off, e, hlt, fun j hj => ?_⟩
  rw [List.length_take] at hj
  rw [hc j (by omega)]
  simp [List.getD_eq_getElem?_getD, show j < k by omega]
theorem trimL_prefix (L : List Int) : trimL L = L.take (trimL L).length ∧ (trimL L).length ≤ L.length := by
  induction L with
  | nil => simp [trimL]
  | cons x l ih =>
    unfold trimL
    split
    · simp
    · exact ⟨by rw [List.length_cons, List.take_succ_cons, ← ih.1], by simp; exact ih.2⟩
theorem IntsIn.trim {w : World} {A : Option Addr} {L : List Int} (h : IntsIn w A L) : IntsIn w A (trimL L) := by rw [(trimL_prefix L).1]; exact h.take _
def lenOf : Value → Nat | .slice _ n _ => n | _ => 0

set_option maxHeartbeats 400000 in
theorem digitAt_any (L : List Int) (n c k : Nat) (A : Option Addr) (w : World) (hn : L.length = n) (hn63 : n ≤ maxLen) (hk : k ≤ maxLen) (hA : IntsIn w A L) :
    Calls Tryz.prog 105 #[.slice A n c, .int .i64 k] w fun e w' => e = .returned (.int .i64 (L.getD k 0)) ∧ w = w' := by
  unfold maxLen at hn63 hk
  by_cases hlt : k < n
  · obtain ⟨b, off, rfl, hb, hc⟩ := hA (by omega)
    have hcell := hc k (by omega)
    clear hc hn hA
    go_enter Tryz.func105, Tryz.ntmps105
    go_wp2
    go_ret
    exact ⟨rfl, rfl⟩
  · have hz := Lib.hid (getD_ge (l := L) (k := k) (by omega))
    clear hn hA
    go_enter Tryz.func105, Tryz.ntmps105
    go_wp2
    go_ret
    exact ⟨ret_int hz.out, rfl⟩
set_option maxHeartbeats 400000 in
theorem digit_any (L : List Int) (n c k : Nat) (A : Option Addr) (w : World) (hn : L.length = n) (hn63 : n ≤ maxLen) (hk : k ≤ maxLen) (hA : IntsIn w A L) :
    Calls Tryz.prog 92 #[.slice A n c, .int .i64 k] w fun e w' => e = .returned (.int .i64 (L.getD k 0)) ∧ w = w' := by
  unfold maxLen at hn63 hk
  by_cases hlt : k < n
  · obtain ⟨b, off, rfl, hb, hc⟩ := hA (by omega)
    have hcell := hc k (by omega)
    clear hc hn hA
    go_enter Tryz.func92, Tryz.ntmps92
    go_wp2
    go_ret
    exact ⟨rfl, rfl⟩
  · have hz := Lib.hid (getD_ge (l := L) (k := k) (by omega))
    clear hn hA
    go_enter Tryz.func92, Tryz.ntmps92
    go_wp2
    go_ret
    exact ⟨ret_int hz.out, rfl⟩
theorem trim_len0 {L : List Int} {k : Nat} (h : trimL (L.take k) = trimL L) (h0 : k = 0) : (trimL L).length = 0 := by subst h0; rw [← h]; simp [trimL]
theorem trim_lenk {L : List Int} {k : Nat} (h : trimL (L.take k) = trimL L) (h0 : 0 < k) (h1 : k ≤ L.length) (h2 : L.getD (k - 1) 0 ≠ 0) : (trimL L).length = k := by
  rw [← h]
  have := trimL_stop (l := L) (k := k - 1) (by omega) h2
  rw [show k - 1 + 1 = k by omega] at this
  rw [this, List.length_take]; omega
theorem trim_go {L : List Int} {k : Nat} (h : trimL (L.take k) = trimL L) (h0 : 0 < k) (h1 : k ≤ L.length) (h2 : L.getD (k - 1) 0 = 0) : trimL (L.take (k - 1)) = trimL L := by
  rw [← h]
  have := trimL_take (l := L) (k := k - 1) (by omega) h2
  rw [show k - 1 + 1 = k by omega] at this
  exact this.symm
set_option maxHeartbeats 400000 in
theorem trim_any (L : List Int) (n c : Nat) (A : Option Addr) (w : World) (hn : L.length = n) (hnc : n ≤ c) (hc63 : c ≤ maxLen) (hA : IntsIn w A L) :
    Calls Tryz.prog 63 #[.slice A n c] w fun e w' => e = .returned (.slice A (trimL L).length c) ∧ w = w' := by
  unfold maxLen at hc63
  have HN := Lib.hid hn
  have HA := Lib.hid hA
  clear hn hA
  go_enter Tryz.func63, Tryz.ntmps63
  go_wp2
  go_loop [0] (fun a => ∃ k : Nat, k ≤ n ∧ a = .slice A k c ∧ trimL (L.take k) = trimL L) (fun a => lenOf a)
  case atStart => exact ⟨n, Nat.le_refl _, rfl, by rw [← HN.out, List.take_length]⟩
  case round =>
    obtain ⟨k, hk, rfl, ht⟩ := hrel
    have HT := Lib.hid ht
    clear ht
    by_cases h0 : 0 < k
    · obtain ⟨b, off, rfl, hb, hcc⟩ := HA.out (by rw [HN.out]; omega)
      have hcell := hcc (k - 1) (by rw [HN.out]; omega)
      clear hcc
      obtain ⟨x, hx⟩ : ∃ x, x = L.getD (k - 1) 0 := ⟨_, rfl⟩
      rw [← hx] at hcell
      have e1 : IntKind.i64.wrap ((k : Int) - 1) = (k : Int) - 1 := IntWalk.i64_in _ (by omega)
      have e2 : ((k : Int) - 1).toNat = k - 1 := by omega
      have e3 : (0 : Int) ≤ (k : Int) - 1 := by omega
      by_cases hx0 : x = 0
      · have HG := Lib.hid (trim_go HT.out h0 (by rw [HN.out]; exact hk) (hx.symm.trans hx0))
        clear hx
        subst hx0
        go_wp2
        go_round
        case rel => exact ⟨k - 1, by omega, rfl, HG.out⟩
        case measure => simp [lenOf]; omega
      · have HG := Lib.hid (trim_lenk HT.out h0 (by rw [HN.out]; exact hk) (by rw [← hx]; exact hx0))
        clear hx
        have hx1 : (x == 0) = false := by simpa using hx0
        go_wp2
        go_ret
        exact ⟨ret_slice HG.out, rfl⟩
    · have HG := Lib.hid (trim_len0 HT.out (by omega))
      obtain rfl : k = 0 := by omega
      go_wp2
      go_ret
      exact ⟨ret_slice HG.out, rfl⟩
set_option maxHeartbeats 400000 in
theorem rtrim_any (L : List Int) (n c : Nat) (A : Option Addr) (w : World) (hn : L.length = n) (hnc : n ≤ c) (hc63 : c ≤ maxLen) (hA : IntsIn w A L) :
    Calls Tryz.prog 91 #[.slice A n c] w fun e w' => e = .returned (.slice A (trimL L).length c) ∧ w = w' := by
  unfold maxLen at hc63
  have HN := Lib.hid hn
  have HA := Lib.hid hA
  clear hn hA
  go_enter Tryz.func91, Tryz.ntmps91
  go_wp2
  go_loop [0] (fun a => ∃ k : Nat, k ≤ n ∧ a = .slice A k c ∧ trimL (L.take k) = trimL L) (fun a => lenOf a)
  case atStart => exact ⟨n, Nat.le_refl _, rfl, by rw [← HN.out, List.take_length]⟩
  case round =>
    obtain ⟨k, hk, rfl, ht⟩ := hrel
    have HT := Lib.hid ht
    clear ht
    by_cases h0 : 0 < k
    · obtain ⟨b, off, rfl, hb, hcc⟩ := HA.out (by rw [HN.out]; omega)
      have hcell := hcc (k - 1) (by rw [HN.out]; omega)
      clear hcc
      obtain ⟨x, hx⟩ : ∃ x, x = L.getD (k - 1) 0 := ⟨_, rfl⟩
      rw [← hx] at hcell
      have e1 : IntKind.i64.wrap ((k : Int) - 1) = (k : Int) - 1 := IntWalk.i64_in _ (by omega)
      have e2 : ((k : Int) - 1).toNat = k - 1 := by omega
      have e3 : (0 : Int) ≤ (k : Int) - 1 := by omega
      by_cases hx0 : x = 0
      · have HG := Lib.hid (trim_go HT.out h0 (by rw [HN.out]; exact hk) (hx.symm.trans hx0))
        clear hx
        subst hx0
        go_wp2
        go_round
        case rel => exact ⟨k - 1, by omega, rfl, HG.out⟩
        case measure => simp [lenOf]; omega
      · have HG := Lib.hid (trim_lenk HT.out h0 (by rw [HN.out]; exact hk) (by rw [← hx]; exact hx0))
        clear hx
        have hx1 : (x == 0) = false := by simpa using hx0
        go_wp2
        go_ret
        exact ⟨ret_slice HG.out, rfl⟩
    · have HG := Lib.hid (trim_len0 HT.out (by omega))
      obtain rfl : k = 0 := by omega
      go_wp2
      go_ret
      exact ⟨ret_slice HG.out, rfl⟩
end Go.Proofs.YtkfkefgkepoaaaaGreatDoor
