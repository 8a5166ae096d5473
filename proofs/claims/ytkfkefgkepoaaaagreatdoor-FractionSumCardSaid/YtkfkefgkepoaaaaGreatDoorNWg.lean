/- Contracts of Valid and Cmp, of the program and of the reference. -/
import Derived.Test.YtkfkefgkepoaaaaGreatDoorNWf
namespace Go.Proofs.YtkfkefgkepoaaaaGreatDoor
open Go.RowKit
set_option linter.unusedVariables false
set_option maxRecDepth 100000

set_option maxHeartbeats 1000000 in
theorem valid_any (L : List Int) (n c : Nat) (A : Option Addr) (W : World) (hn : L.length = n) (hn63 : n ≤ maxLen) (hA : IntsIn W A L) :
    Calls Tryz.prog 51 #[.agg #[.slice A n c]] W fun e w' => e = .returned (.bool (vldB L)) ∧ Below W.heap.size W w' := by
  unfold maxLen at hn63
  by_cases hbig : 200 < n
  · have hv := Lib.hid (vldB_false_len (L := L) (by omega))
    clear hn hA
    go_enter Tryz.func51, Tryz.ntmps51
    go_wp2
    go_ret
    exact ⟨ret_bool hv.out, (Below.refl _ _).alloc (Nat.le_refl _) _⟩
  · have HN := Lib.hid hn
    have HA := Lib.hid (hA.below ((Below.refl W.heap.size W).alloc (Nat.le_refl _) (.cells #[.slice A n c] 30)))
    clear hn hA
    go_enter Tryz.func51, Tryz.ntmps51
    go_wp2
    go_loop [14] (fun i => ∃ k : Nat, k ≤ n ∧ i = .int .i64 (k : Int) ∧ Dig (L.take k)) (fun i => n - (intOf i).toNat)
    case atStart => exact ⟨0, Nat.zero_le _, rfl, by simp; exact Dig.nil⟩
    case round =>
      obtain ⟨k, hk, rfl, hd⟩ := hrel
      have HD := Lib.hid hd
      clear hd
      by_cases hlt : k < n
      · obtain ⟨b, off, rfl, hb, hcc⟩ := HA.out (by rw [HN.out]; omega)
        have hcell := hcc k (by rw [HN.out]; exact hlt)
        clear hcc
        obtain ⟨x, hx⟩ : ∃ x, x = L.getD k 0 := ⟨_, rfl⟩
        rw [← hx] at hcell
        by_cases hx0 : x < 0
        · have hv := Lib.hid (vldB_false_dig (L := L) (k := k) (by rw [HN.out]; exact hlt) (.inl (by omega)))
          clear hx
          go_wp2
          go_ret
          exact ⟨ret_bool hv.out, (Below.refl _ _).alloc (Nat.le_refl _) _⟩
        · by_cases hx1 : 10000 ≤ x
          · have hv := Lib.hid (vldB_false_dig (L := L) (k := k) (by rw [HN.out]; exact hlt) (.inr (by omega)))
            clear hx
            go_wp2
            go_ret
            exact ⟨ret_bool hv.out, (Below.refl _ _).alloc (Nat.le_refl _) _⟩
          · have HS := Lib.hid (dig_take_step (L := L) (k := k) (by rw [HN.out]; exact hlt) HD.out (by omega) (by omega))
            clear hx
            go_wp2
            go_round
            case rel => exact ⟨k + 1, by omega, by go_num, HS.out⟩
            case measure => simp [intOf]; omega
      · obtain rfl : k = n := by omega
        by_cases h0 : k = 0
        · subst h0
          have hv := Lib.hid (show vldB L = true by rw [List.eq_nil_of_length_eq_zero HN.out]; rfl)
          go_wp2
          go_ret
          exact ⟨ret_bool hv.out, (Below.refl _ _).alloc (Nat.le_refl _) _⟩
        · obtain ⟨b, off, rfl, hb, hcc⟩ := HA.out (by rw [HN.out]; omega)
          have hcell := hcc (k - 1) (by rw [HN.out]; omega)
          clear hcc
          obtain ⟨x, hx⟩ : ∃ x, x = L.getD (k - 1) 0 := ⟨_, rfl⟩
          rw [← hx] at hcell
          have e1 : IntKind.i64.wrap ((k : Int) - 1) = (k : Int) - 1 := IntWalk.i64_in _ (by omega)
          have e2 : ((k : Int) - 1).toNat = k - 1 := by omega
          have e3 : (0 : Int) ≤ (k : Int) - 1 := by omega
          have e4 : ((k : Int) == 0) = false := by simp; omega
          by_cases hx0 : x = 0
          · have hv := Lib.hid (vldB_false_last (L := L) (k := k - 1) (by rw [HN.out]; omega) (by rw [← hx]; exact hx0))
            clear hx
            subst hx0
            go_wp2
            go_ret
            exact ⟨ret_bool hv.out, (Below.refl _ _).alloc (Nat.le_refl _) _⟩
          · have hv := Lib.hid (vldB_ok (L := L) (by rw [HN.out]; omega) (by have := HD.out; rwa [← HN.out, List.take_length] at this) (fun j hj => by
              have : j = k - 1 := by have := HN.out; omega
              rw [this, ← hx]; exact hx0))
            have hx1 : (x != 0) = true := by simpa using hx0
            clear hx
            go_wp2
            go_ret
            exact ⟨ret_bool hv.out, (Below.refl _ _).alloc (Nat.le_refl _) _⟩

theorem vldB_cases {L : List Int} {n : Nat} (hn : L.length = n) : n = 0 ∨ 0 < n := by omega
set_option maxHeartbeats 1000000 in
theorem rvalid_any (L : List Int) (n c : Nat) (A : Option Addr) (W : World) (hn : L.length = n) (hn63 : n ≤ maxLen) (hA : IntsIn W A L) :
    Calls Tryz.prog 40 #[.agg #[.slice A n c]] W fun e w' => e = .returned (.bool (vldB L)) ∧ Below W.heap.size W w' := by
  unfold maxLen at hn63
  by_cases hbig : 200 < n
  · have hv := Lib.hid (vldB_false_len (L := L) (by omega))
    clear hn hA
    go_enter Tryz.func40, Tryz.ntmps40
    go_wp2
    go_ret
    exact ⟨ret_bool hv.out, (Below.refl _ _).alloc (Nat.le_refl _) _⟩
  · have HN := Lib.hid hn
    have HA := Lib.hid (hA.below ((Below.refl W.heap.size W).alloc (Nat.le_refl _) (.cells #[.slice A n c] 30)))
    clear hn hA
    by_cases h0 : n = 0
    · subst h0
      have hv := Lib.hid (show vldB L = true by rw [List.eq_nil_of_length_eq_zero HN.out]; rfl)
      go_enter Tryz.func40, Tryz.ntmps40
      go_wp2
      refine wp_loop_rounds 1 ?_
      rw [rounds_succ]
      go_wp2
      go_ret
      exact ⟨ret_bool hv.out, (Below.refl _ _).alloc (Nat.le_refl _) _⟩
    · obtain ⟨b, off, rfl, hb, hcc⟩ := HA.out (by rw [HN.out]; omega)
      have HC := Lib.hid hcc
      have hcell := hcc (n - 1) (by rw [HN.out]; omega)
      clear hcc
      obtain ⟨x, hx⟩ : ∃ x, x = L.getD (n - 1) 0 := ⟨_, rfl⟩
      rw [← hx] at hcell
      have HX := Lib.hid hx
      have e1 : IntKind.i64.wrap ((n : Int) - 1) = (n : Int) - 1 := IntWalk.i64_in _ (by omega)
      have e2 : ((n : Int) - 1).toNat = n - 1 := by omega
      have e3 : (0 : Int) ≤ (n : Int) - 1 := by omega
      have e4 : decide (0 < n) = true := by simp; omega
      by_cases hx0 : x = 0
      · have hv := Lib.hid (vldB_false_last (L := L) (k := n - 1) (by rw [HN.out]; omega) (by rw [← hx]; exact hx0))
        clear hx
        subst hx0
        go_enter Tryz.func40, Tryz.ntmps40
        go_wp2
        go_ret
        exact ⟨ret_bool hv.out, (Below.refl _ _).alloc (Nat.le_refl _) _⟩
      · have hx1 : (x == 0) = false := by simpa using hx0
        clear hx
        go_enter Tryz.func40, Tryz.ntmps40
        go_wp2
        clear e1 e2 hcell
        go_loop [4] (fun i => ∃ k : Nat, k ≤ n ∧ i = .int .i64 (k : Int) ∧ Dig (L.take k)) (fun i => n - (intOf i).toNat)
        case atStart => exact ⟨0, Nat.zero_le _, rfl, by simp; exact Dig.nil⟩
        case round =>
          obtain ⟨k, hk, rfl, hd⟩ := hrel
          have HD := Lib.hid hd
          clear hd
          by_cases hlt : k < n
          · have hcell := HC.out k (by rw [HN.out]; exact hlt)
            obtain ⟨y, hy⟩ : ∃ y, y = L.getD k 0 := ⟨_, rfl⟩
            rw [← hy] at hcell
            by_cases hy0 : y < 0
            · have hv := Lib.hid (vldB_false_dig (L := L) (k := k) (by rw [HN.out]; exact hlt) (.inl (by omega)))
              clear hy
              go_wp2
              go_ret
              exact ⟨ret_bool hv.out, (Below.refl _ _).alloc (Nat.le_refl _) _⟩
            · by_cases hy1 : 10000 ≤ y
              · have hv := Lib.hid (vldB_false_dig (L := L) (k := k) (by rw [HN.out]; exact hlt) (.inr (by omega)))
                clear hy
                go_wp2
                go_ret
                exact ⟨ret_bool hv.out, (Below.refl _ _).alloc (Nat.le_refl _) _⟩
              · have HS := Lib.hid (dig_take_step (L := L) (k := k) (by rw [HN.out]; exact hlt) HD.out (by omega) (by omega))
                clear hy
                go_wp2
                go_round
                case rel => exact ⟨k + 1, by omega, by go_num, HS.out⟩
                case measure => simp [intOf]; omega
          · obtain rfl : k = n := by omega
            have hv := Lib.hid (vldB_ok (L := L) (by rw [HN.out]; omega) (by have := HD.out; rwa [← HN.out, List.take_length] at this) (fun j hj => by
              have : j = k - 1 := by have := HN.out; omega
              rw [this, ← HX.out]; exact hx0))
            go_wp2
            go_ret
            exact ⟨ret_bool hv.out, (Below.refl _ _).alloc (Nat.le_refl _) _⟩
end Go.Proofs.YtkfkefgkepoaaaaGreatDoor
