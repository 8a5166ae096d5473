/- Contracts of the first error of lines, of the program and of the reference, and of text.Lines. -/
import Derived.Test.YtpmdfpfbnmoinaaDoorWs
import Derived.Test.YtpmdfpfbnmoinaaDoorMathL
namespace Go.Proofs.YtpmdfpfbnmoinaaDoor
open Go.RowKit
set_option linter.unusedVariables false

def lsOf (f : Nat → ByteArray) (n : Nat) : List (List UInt8) := (List.range n).map (lists f)
theorem lsOf_len (f : Nat → ByteArray) (n : Nat) : (lsOf f n).length = n := by simp [lsOf]
theorem lsOf_at {f : Nat → ByteArray} {n k : Nat} (h : k < n) : (lsOf f n)[k]'(by rw [lsOf_len]; exact h) = lists f k := by simp [lsOf]
theorem ferr_stop {f : Nat → ByteArray} {n k : Nat} {x : Int} (h : k < n) (hall : ∀ j, j < k → vErr (lists f j) = 0) (hx : vErr (lists f k) = x) (h0 : x ≠ 0) : ferr (lsOf f n) = x := by
  have := ferr_at (ls := lsOf f n) (k := k) (by rw [lsOf_len]; exact h) (fun j hj hjk => by rw [lsOf_len] at hj; rw [lsOf_at hj]; exact hall j hjk) (by rw [lsOf_at h, hx]; exact h0)
  rw [this, lsOf_at h, hx]
theorem ferr_end {f : Nat → ByteArray} {n : Nat} (hall : ∀ j, j < n → vErr (lists f j) = 0) : ferr (lsOf f n) = 0 :=
  ferr_zero (fun x hx => by
    unfold lsOf at hx
    obtain ⟨j, hj, rfl⟩ := List.mem_map.1 hx
    exact hall j (by simpa using hj))

set_option maxHeartbeats 1000000 in
theorem ferr_any (n c : Nat) (f : Nat → ByteArray) (A : Option Addr) (w : World) (hn : n ≤ 1000000) (hA : StrArg w A n f) :
    Calls Tryd.prog 27 #[.slice A n c] w fun e w' => e = .returned (.int .i64 (ferr (lsOf f n))) ∧ w = w' := by
  by_cases h0 : 0 < n
  · obtain ⟨b, off, rfl, hlt0, hcc⟩ := hA.2 h0
    have HC := Lib.hid hcc
    have HA := Lib.hid hA.1
    clear hA hcc
    go_enter Tryd.func27, Tryd.ntmps27
    go_wp2
    go_loop [8] (fun i => ∃ k : Nat, k ≤ n ∧ i = .int .i64 k ∧ ∀ j, j < k → vErr (lists f j) = 0) (fun i => n - (intOf i).toNat)
    case atStart => exact ⟨0, Nat.zero_le _, rfl, fun j hj => by omega⟩
    case round =>
      obtain ⟨k, hk, rfl, hall⟩ := hrel
      have HALL := Lib.hid hall
      clear hall
      by_cases hlt : k < n
      · have hc := HC.out k hlt
        have hz := HA.out k hlt
        obtain ⟨x, hx⟩ : ∃ x, x = f k := ⟨_, rfl⟩
        rw [← hx] at hc hz
        have hxm : x.size ≤ maxLen := by unfold maxLen; omega
        have HX := Lib.hid (show lists f k = x.data.toList by unfold lists; rw [hx])
        clear hx
        rcases vErr_val x.data.toList with h | h | h
        · have H := Lib.hid h
          clear h
          go_wp2_with (go_at_call 38; refine (tvalid_any _ _ hxm).mono ?_; rintro e w' ⟨rfl, rfl⟩; rw [H.out])
          go_round
          case rel => exact ⟨k + 1, by omega, by go_num, fun j hj => by
            by_cases e : j = k
            · subst e; rw [HX.out]; exact H.out
            · exact HALL.out j (by omega)⟩
          case measure => simp [intOf]; omega
        all_goals
          have HE := Lib.hid ((ferr_stop (x := vErr x.data.toList) hlt HALL.out (by rw [HX.out]) (by omega)).trans h)
          have H := Lib.hid h
          clear h
          go_wp2_with (go_at_call 38; refine (tvalid_any _ _ hxm).mono ?_; rintro e w' ⟨rfl, rfl⟩; rw [H.out])
          go_ret
          exact ⟨ret_int HE.out, rfl⟩
      · have HE := Lib.hid (ferr_end (f := f) (n := n) (fun j hj => HALL.out j (by omega)))
        go_wp2
        go_ret
        exact ⟨ret_int HE.out, rfl⟩
  · obtain rfl : n = 0 := by omega
    go_enter Tryd.func27, Tryd.ntmps27
    go_wp2
    refine wp_loop_rounds 1 ?_
    rw [rounds_succ]
    go_wp2
    go_ret
    exact ⟨rfl, rfl⟩

def rerr (ls : List (List UInt8)) : Int := if 400 < ls.length then 3 else ferr ls
set_option maxHeartbeats 1000000 in
theorem rerr_any (n c : Nat) (f : Nat → ByteArray) (A : Option Addr) (w : World) (hn : n ≤ 1000000) (hA : StrArg w A n f) :
    Calls Tryd.prog 28 #[.slice A n c] w fun e w' => e = .returned (.int .i64 (rerr (lsOf f n))) ∧ w = w' := by
  by_cases hbig : 400 < n
  · have HE := Lib.hid (show rerr (lsOf f n) = 3 by unfold rerr; rw [if_pos (by rw [lsOf_len]; exact hbig)])
    clear hA
    go_enter Tryd.func28, Tryd.ntmps28
    go_wp2
    go_ret
    exact ⟨ret_int HE.out, rfl⟩
  · have hre : rerr (lsOf f n) = ferr (lsOf f n) := by unfold rerr; rw [if_neg (by rw [lsOf_len]; exact hbig)]
    rw [hre]
    clear hre
    by_cases h0 : 0 < n
    · obtain ⟨b, off, rfl, hlt0, hcc⟩ := hA.2 h0
      have HC := Lib.hid hcc
      have HA := Lib.hid hA.1
      clear hA hcc
      go_enter Tryd.func28, Tryd.ntmps28
      go_wp2
      go_loop [3] (fun i => ∃ k : Nat, k ≤ n ∧ i = .int .i64 k ∧ ∀ j, j < k → vErr (lists f j) = 0) (fun i => n - (intOf i).toNat)
      case atStart => exact ⟨0, Nat.zero_le _, rfl, fun j hj => by omega⟩
      case round =>
        obtain ⟨k, hk, rfl, hall⟩ := hrel
        have HALL := Lib.hid hall
        clear hall
        by_cases hlt : k < n
        · have hc := HC.out k hlt
          have hz := HA.out k hlt
          obtain ⟨x, hx⟩ : ∃ x, x = f k := ⟨_, rfl⟩
          rw [← hx] at hc hz
          have hxm : x.size ≤ maxLen := by unfold maxLen; omega
          have HX := Lib.hid (show lists f k = x.data.toList by unfold lists; rw [hx])
          clear hx
          rcases vErr_val x.data.toList with h | h | h
          · have H := Lib.hid h
            clear h
            go_wp2_with (go_at_call 14; refine (rvalid_any _ _ hxm).mono ?_; rintro e w' ⟨rfl, rfl⟩; rw [H.out])
            go_round
            case rel => exact ⟨k + 1, by omega, by go_num, fun j hj => by
              by_cases e : j = k
              · subst e; rw [HX.out]; exact H.out
              · exact HALL.out j (by omega)⟩
            case measure => simp [intOf]; omega
          all_goals
            have HE := Lib.hid ((ferr_stop (x := vErr x.data.toList) hlt HALL.out (by rw [HX.out]) (by omega)).trans h)
            have H := Lib.hid h
            clear h
            go_wp2_with (go_at_call 14; refine (rvalid_any _ _ hxm).mono ?_; rintro e w' ⟨rfl, rfl⟩; rw [H.out])
            go_ret
            exact ⟨ret_int HE.out, rfl⟩
        · have HE := Lib.hid (ferr_end (f := f) (n := n) (fun j hj => HALL.out j (by omega)))
          go_wp2
          go_ret
          exact ⟨ret_int HE.out, rfl⟩
    · obtain rfl : n = 0 := by omega
      go_enter Tryd.func28, Tryd.ntmps28
      go_wp2
      refine wp_loop_rounds 1 ?_
      rw [rounds_succ]
      go_wp2
      go_ret
      exact ⟨rfl, rfl⟩
end Go.Proofs.YtpmdfpfbnmoinaaDoor
