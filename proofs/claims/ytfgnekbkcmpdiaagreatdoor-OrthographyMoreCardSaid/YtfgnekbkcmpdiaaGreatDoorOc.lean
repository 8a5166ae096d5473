/- Contracts of the program: the word of a place, and back; slices.Equal of sounds. -/
import Derived.Test.YtfgnekbkcmpdiaaGreatDoorOb
namespace Go.Proofs.YtfgnekbkcmpdiaaGreatDoor
open Go.RowKit
set_option linter.unusedVariables false
set_option linter.unusedSimpArgs false
set_option maxRecDepth 100000

theorem toL (l : List UInt8) : (bs l).toList = l := by rw [ByteArray.toList_eq]; rfl
set_option maxHeartbeats 1000000 in
theorem whereWord_any (n : Int) (w : World) : Calls Tryz.prog 52 #[.int .i64 n] w fun e w' => e = .returned (.string (bs (wW n))) ∧ w = w' := by
  by_cases h0 : n = 0
  · subst h0
    go_enter Tryz.func52, Tryz.ntmps52
    go_wp2
    go_ret
    exact ⟨rfl, rfl⟩
  · have e0 : (n == 0) = false := by simpa using h0
    by_cases h1 : n = 1
    · subst h1
      go_enter Tryz.func52, Tryz.ntmps52
      go_wp2
      go_ret
      exact ⟨rfl, rfl⟩
    · have e1 : (n == 1) = false := by simpa using h1
      by_cases h2 : n = 2
      · subst h2
        go_enter Tryz.func52, Tryz.ntmps52
        go_wp2
        go_ret
        exact ⟨rfl, rfl⟩
      · have e2 : (n == 2) = false := by simpa using h2
        by_cases h3 : n = 3
        · subst h3
          go_enter Tryz.func52, Tryz.ntmps52
          go_wp2
          go_ret
          exact ⟨rfl, rfl⟩
        · have e3 : (n == 3) = false := by simpa using h3
          by_cases h4 : n = 4
          · subst h4
            go_enter Tryz.func52, Tryz.ntmps52
            go_wp2
            go_ret
            exact ⟨rfl, rfl⟩
          · have e4 : (n == 4) = false := by simpa using h4
            have HE := Lib.hid (show wW n = [] by unfold wW; rw [if_neg h0, if_neg h1, if_neg h2, if_neg h3, if_neg h4])
            clear h0 h1 h2 h3 h4
            go_enter Tryz.func52, Tryz.ntmps52
            go_wp2
            go_ret
            exact ⟨by rw [HE.out]; rfl, rfl⟩
theorem ww_differ {j k : Nat} (hk : k ≤ 4) (h : j < k) : ((bs (wW (j : Int))).toList == (bs (wW (k : Int))).toList) = false := by
  have : (∀ k, k < 5 → ∀ j, j < k → ((bs (wW ((j : Nat) : Int))).toList == (bs (wW ((k : Nat) : Int))).toList) = false) := by
    intro k hk j hj
    rw [toL, toL]
    have : k = 1 ∨ k = 2 ∨ k = 3 ∨ k = 4 := by omega
    rcases this with rfl | rfl | rfl | rfl
    · obtain rfl : j = 0 := by omega
      decide
    · have : j = 0 ∨ j = 1 := by omega
      rcases this with rfl | rfl <;> decide
    · have : j = 0 ∨ j = 1 ∨ j = 2 := by omega
      rcases this with rfl | rfl | rfl <;> decide
    · have : j = 0 ∨ j = 1 ∨ j = 2 ∨ j = 3 := by omega
      rcases this with rfl | rfl | rfl | rfl <;> decide
  exact this k (by omega) j h
set_option maxHeartbeats 1000000 in
theorem readWhere_any (k : Nat) (w : World) (hk : k ≤ 4) : Calls Tryz.prog 67 #[.string (bs (wW (k : Int)))] w fun e w' => e = .returned (.tuple #[.int .i64 (k : Int), .bool true]) ∧ w = w' := by
  have HD := Lib.hid (fun j => ww_differ (j := j) hk)
  go_enter Tryz.func67, Tryz.ntmps67
  go_wp2
  go_loopw [4] (fun i wr => ∃ j : Nat, j ≤ k ∧ i = .int .i64 (j : Int) ∧ w = wr) (fun i _ => 5 - (intOf i).toNat)
  case atStart => exact ⟨0, Nat.zero_le _, rfl, rfl⟩
  case round =>
    obtain ⟨j, hj, rfl, rfl⟩ := hrel
    go_wp2_with fail
    refine (whereWord_any _ _).mono ?_
    rintro e w2 ⟨rfl, hw⟩
    subst hw
    by_cases h : j < k
    · have e1 := HD.out j h
      go_wp2_with fail
      go_roundw
      case rel => exact ⟨j + 1, by omega, by go_num, trivial⟩
      case measure => simp [intOf]; omega
    · obtain rfl : j = k := by omega
      have e1 : ((bs (wW (j : Int))).toList == (bs (wW (j : Int))).toList) = true := by simp
      go_wp2_with fail
      go_ret2
      exact ⟨rfl, rfl⟩
theorem sameL_len {L M : List Snd} (h : L.length ≠ M.length) : sameL L M = false := by
  rw [Bool.eq_false_iff]; intro hs; exact h (by rw [sameL_is.1 hs])
theorem sameL_ne {L M : List Snd} {k : Nat} {x y : Snd} (hx : L[k]? = some x) (hy : M[k]? = some y) (h : x ≠ y) : sameL L M = false := by
  rw [Bool.eq_false_iff]; intro hs
  have := sameL_is.1 hs
  subst this
  rw [hx] at hy; exact h (Option.some.inj hy)
theorem takeQ {α : Type} {L M : List α} {k : Nat} {x : α} (h : L.take k = M.take k) (hx : L[k]? = some x) (hy : M[k]? = some x) : L.take (k + 1) = M.take (k + 1) := by rw [take_snoc hx, take_snoc hy, h]
set_option maxHeartbeats 4000000 in
theorem eqsnd_any (L M : List Snd) (n m c d : Nat) (A C : Option Addr) (w : World) (hl : L.length = n) (hm : M.length = m) (hn : n ≤ 1000000) (hm1 : m ≤ 17592186044416) (hA : CellsIn w A (sndsC L)) (hC : CellsIn w C (sndsC M)) :
    Calls Tryz.prog 54 #[.slice A n c, .slice C m d] w fun e w' => e = .returned (.bool (sameL L M)) ∧ ∃ q, w' = w.drewN q := by
  by_cases hlen : n = m
  · subst hlen
    have HL := Lib.hid hl
    have HM := Lib.hid hm
    have HA := Lib.hid hA
    have HC := Lib.hid hC
    clear hl hm hA hC
    go_enter Tryz.func54, Tryz.ntmps54
    go_wp2
    go_loopw [13] (fun i wr => ∃ k : Nat, k ≤ n ∧ i = .int .i64 k ∧ L.take k = M.take k ∧ ∃ q, wr = w.drewN q) (fun i _ => n - (intOf i).toNat)
    case atStart => exact ⟨0, Nat.zero_le _, rfl, rfl, 0, rfl⟩
    case round =>
      obtain ⟨k, hk, rfl, htk, q, rfl⟩ := hrel
      have HT := Lib.hid htk
      clear htk
      by_cases hlt : k < n
      · obtain ⟨x, hx⟩ := get_at (L := L) (k := k) (by have := HL.out; omega)
        obtain ⟨y, hy⟩ := get_at (L := M) (k := k) (by have := HM.out; omega)
        obtain ⟨b1, o1, rfl, hb1, x0, x1, x2⟩ := HA.out.snd hx
        obtain ⟨b2, o2, rfl, hb2, y0, y1, y2⟩ := HC.out.snd hy
        have HX := Lib.hid hx
        have HY := Lib.hid hy
        clear hx hy
        by_cases hxy : x = y
        · subst hxy
          have HN := Lib.hid (takeQ HT.out HX.out HY.out)
          go_wp2
          try go_quiet (fail)
          try go_wp2
          go_roundw
          case rel => exact ⟨k + 1, by omega, by go_num, HN.out, _, by first | rfl | exact World.drewN_drewN _ _ _⟩
          case measure => simp [intOf]; omega
        · have HN := Lib.hid (sameL_ne HX.out HY.out hxy)
          by_cases ek : x.k = y.k
          · by_cases eq : x.q = y.q
            · have et : x.t ≠ y.t := fun e => hxy (Snd.eq ek eq e)
              have e1 : (x.k == y.k) = true := by simpa using ek
              have e2 : (x.q == y.q) = true := by simpa using eq
              have e3 : ((bs x.t).toList == (bs y.t).toList) = false := by rw [toL, toL]; simpa using et
              clear hxy ek eq et
              go_wp2
              try go_quiet (fail)
              try go_wp2
              go_ret
              exact ⟨ret_bool HN.out.symm, _, by first | rfl | exact World.drewN_drewN _ _ _⟩
            · have e1 : (x.k == y.k) = true := by simpa using ek
              have e2 : (x.q == y.q) = false := by simpa using eq
              clear hxy ek eq
              go_wp2
              try go_quiet (fail)
              try go_wp2
              go_ret
              exact ⟨ret_bool HN.out.symm, _, by first | rfl | exact World.drewN_drewN _ _ _⟩
          · have e1 : (x.k == y.k) = false := by simpa using ek
            clear hxy ek
            go_wp2
            try go_quiet (fail)
            try go_wp2
            go_ret
            exact ⟨ret_bool HN.out.symm, _, by first | rfl | exact World.drewN_drewN _ _ _⟩
      · have HE := Lib.hid (show sameL L M = true from sameL_is.2 (by
          have := HT.out
          rwa [take_all (by have := HL.out; omega), take_all (by have := HM.out; omega)] at this))
        go_wp2
        go_ret
        exact ⟨ret_bool HE.out.symm, _, rfl⟩
  · have HE := Lib.hid (show sameL L M = false from sameL_len (by omega))
    have hne' : ((n : Int) != (m : Int)) = true := by simp; omega
    have hne : ((n : Int) == (m : Int)) = false := by simp; omega
    clear hlen hl hm hA hC
    go_enter Tryz.func54, Tryz.ntmps54
    go_wp2
    go_ret
    exact ⟨ret_bool HE.out.symm, 0, rfl⟩
end Go.Proofs.YtfgnekbkcmpdiaaGreatDoor
