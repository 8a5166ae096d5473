/- Contracts of the reference's Cmp, Same and Few, and of copied; how a number that came in is opened. -/
import Derived.Test.YtkfkefgkepoaaaaGreatDoorNCell
import Derived.ProofKit
import Derived.OpenShut
import Derived.ShutString
import Derived.ChangeOld
import Derived.SizedLaws
import Derived.Lib.SmallJoins
namespace Go.Proofs.YtkfkefgkepoaaaaGreatDoor
open Go.RowKit
set_option linter.unusedVariables false
set_option maxRecDepth 100000

set_option maxHeartbeats 1000000 in
theorem rCmp_any (L M : List Int) (n c m d : Nat) (A B : Option Addr) (w : World) (hn : L.length = n) (hm : M.length = m) (hn63 : n ≤ maxLen) (hm63 : m ≤ maxLen) (hA : IntsIn w A L) (hB : IntsIn w B M) :
    Calls Tryz.prog 48 #[.agg #[.slice A n c], .agg #[.slice B m d]] w fun e w' => e = .returned (.int .i64 (cmpL L M)) ∧ Below w.heap.size w w' := by
  have HA := Lib.hid (hA.below (w' := (w.alloc (.cells #[.slice A n c] 30)).alloc (.cells #[.slice B m d] 30)) two_box)
  have HB := Lib.hid (hB.below (w' := (w.alloc (.cells #[.slice A n c] 30)).alloc (.cells #[.slice B m d] 30)) two_box)
  have HN := Lib.hid hn
  have HM := Lib.hid hm
  clear hA hB hn hm
  go_enter Tryz.func48, Tryz.ntmps48
  go_wp2_with fail
  refine (rcmp_any L M n c m d A B _ HN.out HM.out hn63 hm63 HA.out HB.out).mono ?_
  rintro e w' ⟨rfl, q, rfl⟩
  obtain ⟨x, hx⟩ : ∃ x, x = cmpL L M := ⟨_, rfl⟩
  rw [← hx]
  have HX := Lib.hid hx
  clear hx
  go_wp2_with fail
  go_ret
  exact ⟨ret_int HX.out.symm, two_box_drew _⟩
theorem same_eq (L M : List Int) : (cmpL L M == 0) = decide (L = M) := by
  rw [Bool.eq_iff_iff]; simp [cmpL_zero_iff]
set_option maxHeartbeats 1000000 in
theorem same_any (L M : List Int) (n c m d : Nat) (A B : Option Addr) (w : World) (hn : L.length = n) (hm : M.length = m) (hn63 : n ≤ maxLen) (hm63 : m ≤ maxLen) (hA : IntsIn w A L) (hB : IntsIn w B M) :
    Calls Tryz.prog 23 #[.agg #[.slice A n c], .agg #[.slice B m d]] w fun e w' => e = .returned (.bool (decide (L = M))) ∧ Below w.heap.size w w' := by
  have HA := Lib.hid (hA.below (w' := (w.alloc (.cells #[.slice A n c] 30)).alloc (.cells #[.slice B m d] 30)) two_box)
  have HB := Lib.hid (hB.below (w' := (w.alloc (.cells #[.slice A n c] 30)).alloc (.cells #[.slice B m d] 30)) two_box)
  have HN := Lib.hid hn
  have HM := Lib.hid hm
  clear hA hB hn hm
  go_enter Tryz.func23, Tryz.ntmps23
  go_wp2_with fail
  refine (rCmp_any L M n c m d A B _ HN.out HM.out hn63 hm63 HA.out HB.out).mono ?_
  rintro e w' ⟨rfl, hb⟩
  have HBB := Lib.hid (show Below w.heap.size w w' from two_box.trans (hb.mono (by simp; omega)))
  clear hb
  obtain ⟨x, hx⟩ : ∃ x, x = cmpL L M := ⟨_, rfl⟩
  have HX := Lib.hid (show (x == 0) = decide (L = M) by rw [hx]; exact same_eq L M)
  rw [← hx]
  clear hx
  go_wp2_with fail
  go_ret
  exact ⟨ret_bool HX.out.symm, HBB.out⟩

/-- A list of numbers, by the lengths of their lists of digits. -/
def NatsAt (w : World) (g : Nat) (ns : List Nat) : Prop := ∀ j, j < ns.length → ∃ A c, w.cell? ⟨g, j, none⟩ = some (.slice A (ns.getD j 0) c)
theorem sum_step {ns : List Nat} {k : Nat} (h : k < ns.length) : (ns.take (k + 1)).sum = (ns.take k).sum + ns.getD k 0 := by
  rw [List.take_succ_eq_append_getElem h, List.sum_append]
  simp [List.getD_eq_getElem?_getD, h]
def bdN : Nat → Nat
  | 0 => 0
  | k + 1 => bdN k + 17592186044416
theorem sum_bdN {ns : List Nat} {k : Nat} (h : ∀ j, ns.getD j 0 ≤ 17592186044416) : (ns.take k).sum ≤ bdN k := by
  induction k with
  | zero => simp [bdN]
  | succ k ih =>
    unfold bdN
    by_cases hl : k < ns.length
    · rw [sum_step hl]; have := h k; omega
    · have e : ns.take (k + 1) = ns.take k := by rw [List.take_of_length_le (by omega), List.take_of_length_le (by omega)]
      rw [e]; omega
theorem sum_bd {ns : List Nat} {k : Nat} (h : ∀ j, ns.getD j 0 ≤ 17592186044416) (hk : k ≤ 4) : (ns.take k).sum ≤ 70368744177664 := by
  refine Nat.le_trans (sum_bdN h) ?_
  match k, hk with
  | 0, _ => decide
  | 1, _ => decide
  | 2, _ => decide
  | 3, _ => decide
  | 4, _ => decide
set_option maxRecDepth 100000 in
set_option maxHeartbeats 1000000 in
theorem Few_any (ns : List Nat) (g n c most : Nat) (w : World) (hn : ns.length = n) (hn4 : n ≤ 4) (hns : ∀ j, ns.getD j 0 ≤ 17592186044416) (hm : most ≤ 1000) (hA : NatsAt w g ns) :
    Calls Tryz.prog 18 #[.slice (some ⟨g, 0, none⟩) n c, .int .i64 most] w fun e w' => e = .returned (.bool (decide (ns.sum ≤ most))) ∧ w = w' := by
  have HN := Lib.hid hn
  have HA := Lib.hid hA
  have HNS := Lib.hid hns
  clear hn hA hns
  go_enter Tryz.func18, Tryz.ntmps18
  go_wp2
  go_loop [5, 6] (fun s i => ∃ k S : Nat, k ≤ n ∧ i = .int .i64 (k : Int) ∧ s = .int .i64 (S : Int) ∧ S = (ns.take k).sum) (fun _ i => n - (intOf i).toNat)
  case atStart => exact ⟨0, 0, Nat.zero_le _, rfl, rfl, by simp⟩
  case round =>
    obtain ⟨k, S, hk, rfl, rfl, hS⟩ := hrel
    have hb := sum_bd (ns := ns) (k := k) HNS.out (by omega)
    rw [← hS] at hb
    have hS4 : S ≤ 70368744177664 := hb
    by_cases hlt : k < n
    · obtain ⟨A, c', hcell⟩ := HA.out k (by rw [HN.out]; exact hlt)
      obtain ⟨x, hx⟩ : ∃ x, x = ns.getD k 0 := ⟨_, rfl⟩
      have hx4 : x ≤ 17592186044416 := by rw [hx]; exact HNS.out k
      rw [← hx] at hcell
      have HS := Lib.hid (show S + x = (ns.take (k + 1)).sum by rw [sum_step (by rw [HN.out]; exact hlt), ← hS, ← hx])
      clear hS hx hb
      go_wp2
      go_round
      case rel => exact ⟨k + 1, S + x, by omega, by go_num, by go_num, HS.out⟩
      case measure => simp [intOf]; omega
    · have HS := Lib.hid (show S = ns.sum by rw [hS, List.take_of_length_le (by rw [HN.out]; omega)])
      clear hS hb
      go_wp2
      go_ret
      exact ⟨ret_bool (by rw [← HS.out]), rfl⟩
theorem nats2 (w : World) (g n m c d : Nat) (A B : Option Addr) (T : TypeId) (hg : w.heap.size = g) : NatsAt (w.alloc (.cells #[.slice A n c, .slice B m d] T)) g [n, m] := by
  subst hg
  intro j hj
  match j, hj with
  | 0, _ => exact ⟨A, c, by simp⟩
  | 1, _ => exact ⟨B, d, by simp⟩
theorem nats1 (w : World) (g n c : Nat) (A : Option Addr) (T : TypeId) (hg : w.heap.size = g) : NatsAt (w.alloc (.cells #[.slice A n c] T)) g [n] := by
  subst hg
  intro j hj
  match j, hj with
  | 0, _ => exact ⟨A, c, by simp⟩
theorem small2 {n m : Nat} (hn : n ≤ 17592186044416) (hm : m ≤ 17592186044416) : ∀ j, ([n, m] : List Nat).getD j 0 ≤ 17592186044416 := by
  intro j
  match j with
  | 0 => simpa using hn
  | 1 => simpa using hm
  | j + 2 => simp
theorem small1 {n : Nat} (hn : n ≤ 17592186044416) : ∀ j, ([n] : List Nat).getD j 0 ≤ 17592186044416 := by
  intro j
  match j with
  | 0 => simpa using hn
  | j + 1 => simp

/-- What copied gives. -/
def CopyPost (L : List Int) (n : Nat) (W : World) (e : Ending) (w' : World) : Prop :=
  ∃ A c, e = .returned (.agg #[.slice A n c]) ∧ IntsIn w' A L ∧ n ≤ c ∧ c ≤ maxLen ∧ Below W.heap.size W w'
theorem copy_post {L : List Int} {n c g : Nat} {A : Option Addr} {W w : World} {T : TypeId} (hi : IntsIn w A L) (hc : n ≤ c) (hm : c ≤ maxLen) (hb : Below W.heap.size W w) (hg : w.heap[g]? = some (.cells #[.slice none 0 0] T (0, 0))) (hgW : W.heap.size ≤ g) :
    CopyPost L n W (.returned (.agg #[.slice A n c])) (w.setCell ⟨g, 0, none⟩ (.slice A n c)) :=
  ⟨A, c, rfl, hi.store (x := .slice none 0 0) hg, hc, hm, hb.setCell (p := ⟨g, 0, none⟩) hgW _⟩

theorem Tryz.cellsNat : Tryz.prog.cellsOf 30 = 1 := by kernel_rfl
theorem Tryz.cellsInt : Tryz.prog.cellsOf 3 = 1 := by kernel_rfl
theorem Tryz.bytesInt : Tryz.prog.bytesOf 3 = 8 := by kernel_rfl
end Go.Proofs.YtkfkefgkepoaaaaGreatDoor
