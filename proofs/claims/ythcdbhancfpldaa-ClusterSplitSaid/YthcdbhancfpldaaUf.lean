/- Contracts on lists of sounds: Few, Beats and Nuclei of both sides. -/
import Derived.Test.YthcdbhancfpldaaUc
namespace Go.Proofs.Ythcdbhancfpldaa
open Go.RowKit
set_option linter.unusedVariables false
set_option linter.unusedSimpArgs false
set_option maxRecDepth 100000

def fewB (L : List Snd) (N : Nat) : Bool := decide (L.length ≤ N) && L.all (fun x => decide (x.t.length ≤ 40))
theorem few_yes {L : List Snd} {N : Nat} (h : fewB L N = true) : L.length ≤ N ∧ ∀ x ∈ L, x.t.length ≤ 40 := by
  unfold fewB at h
  simpa using h
theorem few_len {L : List Snd} {N : Nat} (h : N < L.length) : fewB L N = false := by unfold fewB; rw [decide_eq_false (by omega)]; rfl
theorem few_not {L : List Snd} {N k : Nat} {x : Snd} (h : L[k]? = some x) (h1 : 40 < x.t.length) : fewB L N = false := by
  rw [Bool.eq_false_iff]; intro hf
  have := (few_yes hf).2 x (List.mem_of_getElem? h)
  omega
theorem few_all {L : List Snd} {N : Nat} (h : L.length ≤ N) (h1 : (L.take L.length).all (fun x => decide (x.t.length ≤ 40)) = true) : fewB L N = true := by
  rw [List.take_length] at h1
  unfold fewB; rw [h1, decide_eq_true h]; rfl
theorem few_step {L : List Snd} {k : Nat} {x : Snd} (h : L[k]? = some x) (h1 : (L.take k).all (fun x => decide (x.t.length ≤ 40)) = true) (h2 : x.t.length ≤ 40) : (L.take (k + 1)).all (fun x => decide (x.t.length ≤ 40)) = true := by
  rw [take_snoc h, List.all_append, h1]; simp [h2]
theorem idx_lt {α : Type} {L : List α} {n k : Nat} (hl : L.length = n) (h : k < n) : ∃ x, L[k]? = some x := get_at (by omega)
set_option maxHeartbeats 2000000 in
theorem few_any (L : List Snd) (N n c : Nat) (A : Option Addr) (w : World) (hl : L.length = n) (hn : n ≤ 17592186044416) (hN : N ≤ 1000000) (hs : ∀ x ∈ L, x.t.length ≤ 140737488355328) (hA : CellsIn w A (sndsC L)) :
    Calls Try.prog 34 #[.slice A n c, .int .i64 (N : Int)] w fun e w' => e = .returned (.bool (fewB L N)) ∧ w = w' := by
  have HL := Lib.hid hl
  have HA := Lib.hid hA
  have HS := Lib.hid hs
  by_cases hbig : N < n
  · have HF := Lib.hid (few_len (L := L) (N := N) (by omega))
    clear hl hA hs
    go_enter Try.func34, Try.ntmps34
    go_wp2
    go_ret
    exact ⟨ret_bool HF.out.symm, rfl⟩
  · clear hl hA hs
    go_enter Try.func34, Try.ntmps34
    go_wp2
    go_loopw [5] (fun i wr => ∃ k : Nat, k ≤ n ∧ i = .int .i64 k ∧ (L.take k).all (fun x => decide (x.t.length ≤ 40)) = true ∧ w = wr) (fun i _ => n - (intOf i).toNat)
    case atStart => exact ⟨0, Nat.zero_le _, rfl, rfl, rfl⟩
    case round =>
      obtain ⟨k, hk, rfl, hall, rfl⟩ := hrel
      have HALL := Lib.hid hall
      clear hall
      by_cases hlt : k < n
      · obtain ⟨x, hx⟩ := idx_lt HL.out hlt
        obtain ⟨b, off, rfl, hb, c0, c1, c2⟩ := HA.out.snd hx
        have HX := Lib.hid hx
        have hxs : x.t.length ≤ 140737488355328 := HS.out x (List.mem_of_getElem? hx)
        have hz : (bs x.t).size = x.t.length := rfl
        obtain ⟨y, hy⟩ : ∃ y, y = x.t.length := ⟨_, rfl⟩
        have HY := Lib.hid hy
        rw [← hy] at hxs hz
        clear hx c0 c1 hy
        by_cases h40 : 40 < y
        · have HF := Lib.hid (few_not (N := N) HX.out (by rw [← HY.out]; exact h40))
          go_wp2
          go_ret
          exact ⟨ret_bool HF.out.symm, rfl⟩
        · have HN := Lib.hid (few_step HX.out HALL.out (by rw [← HY.out]; omega))
          go_wp2
          go_roundw
          case rel => exact ⟨k + 1, by omega, by go_num, HN.out, trivial⟩
          case measure => simp [intOf]; omega
      · have HF := Lib.hid (show fewB L N = true from few_all (by have := HL.out; omega) (by have := HALL.out; rw [show k = L.length by have := HL.out; omega] at this; exact this))
        go_wp2
        go_ret
        exact ⟨ret_bool HF.out.symm, rfl⟩
theorem bt_step {L : List Snd} {k : Nat} {x : Snd} (h : L[k]? = some x) : btL (L.take (k + 1)) = btL (L.take k) + btS x := by rw [take_snoc h, btL_snoc]
theorem bt_bd (L : List Snd) (k : Nat) : btL (L.take k) ≤ k * 2 := by
  have := btL_le (L.take k)
  have h2 : (L.take k).length ≤ k := by rw [List.length_take]; omega
  have := Nat.mul_le_mul_right 2 h2
  omega
theorem btS_is {x : Snd} {d : Nat} (h : ((3 ≤ x.k ∧ x.k ≤ 6) ∨ x.k = 8) ∧ d = 1 ∨ x.k = 7 ∧ d = 2 ∨ (x.k < 3 ∨ 8 < x.k) ∧ d = 0) : btS x = d := by
  unfold btS
  rcases h with ⟨h, rfl⟩ | ⟨h, rfl⟩ | ⟨h, rfl⟩
  · rw [if_pos (by omega), if_neg (by omega)]
  · rw [if_pos (by omega), if_pos h]
  · rw [if_neg (by omega), if_neg (by omega)]
theorem bt_cases (k : Int) : k = 3 ∨ k = 4 ∨ k = 5 ∨ k = 6 ∨ k = 8 ∨ k = 7 ∨ (k < 3 ∨ 8 < k) := by omega
set_option maxHeartbeats 4000000 in
theorem beats_any (L : List Snd) (n c : Nat) (A : Option Addr) (w : World) (hl : L.length = n) (hn : n ≤ 17592186044416) (hA : CellsIn w A (sndsC L)) :
    Calls Try.prog 23 #[.slice A n c] w fun e w' => e = .returned (.int .i64 (btL L : Nat)) ∧ Below w.heap.size w w' := by
  have HL := Lib.hid hl
  have HA := Lib.hid hA
  clear hl hA
  go_enter Try.func23, Try.ntmps23
  go_wp2
  go_loopw [3, 8] (fun v i wr => ∃ k m : Nat, k ≤ n ∧ m ≤ k * 2 ∧ i = .int .i64 k ∧ v = .int .i64 m ∧ btL (L.take k) = m ∧ Below w.heap.size w wr) (fun v i _ => n - (intOf i).toNat)
  case atStart => exact ⟨0, 0, Nat.zero_le _, Nat.zero_le _, rfl, rfl, rfl, Below.refl _ _⟩
  case round =>
    obtain ⟨k, m, hk, hm, rfl, rfl, hbt, hbr⟩ := hrel
    have HBT := Lib.hid hbt
    have HB := Lib.hid hbr
    by_cases hlt : k < n
    · obtain ⟨x, hx⟩ := idx_lt HL.out hlt
      obtain ⟨b, off, rfl, hb, c0, c1, c2⟩ := (HA.out.below hbr).snd hx
      have HX := Lib.hid hx
      have HB2 := Lib.hid (btwo hbr (bnew wr (.cells #[.int .i64 x.k, .int .i64 x.q, .string (bs x.t)] 51)))
      clear hx hbt hbr
      rcases bt_cases x.k with h | h | h | h | h | h | h
      · have HN := Lib.hid (show btL (L.take (k + 1)) = m + 1 by rw [bt_step HX.out, HBT.out, btS_is (d := 1) (.inl ⟨by omega, rfl⟩)])
        have e3 : (x.k == 3) = true := by simp [h]
        clear h
        go_wp2
        go_roundw
        case rel => exact ⟨k + 1, m + 1, by omega, by omega, by go_num, by go_num, HN.out, HB2.out⟩
        case measure => simp [intOf]; omega
      · have HN := Lib.hid (show btL (L.take (k + 1)) = m + 1 by rw [bt_step HX.out, HBT.out, btS_is (d := 1) (.inl ⟨by omega, rfl⟩)])
        have e3 : (x.k == 3) = false := beq_no (by omega)
        have e4 : (x.k == 4) = true := by simp [h]
        clear h
        go_wp2
        go_roundw
        case rel => exact ⟨k + 1, m + 1, by omega, by omega, by go_num, by go_num, HN.out, HB2.out⟩
        case measure => simp [intOf]; omega
      · have HN := Lib.hid (show btL (L.take (k + 1)) = m + 1 by rw [bt_step HX.out, HBT.out, btS_is (d := 1) (.inl ⟨by omega, rfl⟩)])
        have e3 : (x.k == 3) = false := beq_no (by omega)
        have e4 : (x.k == 4) = false := beq_no (by omega)
        have e5 : (x.k == 5) = true := by simp [h]
        clear h
        go_wp2
        go_roundw
        case rel => exact ⟨k + 1, m + 1, by omega, by omega, by go_num, by go_num, HN.out, HB2.out⟩
        case measure => simp [intOf]; omega
      · have HN := Lib.hid (show btL (L.take (k + 1)) = m + 1 by rw [bt_step HX.out, HBT.out, btS_is (d := 1) (.inl ⟨by omega, rfl⟩)])
        have e3 : (x.k == 3) = false := beq_no (by omega)
        have e4 : (x.k == 4) = false := beq_no (by omega)
        have e5 : (x.k == 5) = false := beq_no (by omega)
        have e6 : (x.k == 6) = true := by simp [h]
        clear h
        go_wp2
        go_roundw
        case rel => exact ⟨k + 1, m + 1, by omega, by omega, by go_num, by go_num, HN.out, HB2.out⟩
        case measure => simp [intOf]; omega
      · have HN := Lib.hid (show btL (L.take (k + 1)) = m + 1 by rw [bt_step HX.out, HBT.out, btS_is (d := 1) (.inl ⟨by omega, rfl⟩)])
        have e3 : (x.k == 3) = false := beq_no (by omega)
        have e4 : (x.k == 4) = false := beq_no (by omega)
        have e5 : (x.k == 5) = false := beq_no (by omega)
        have e6 : (x.k == 6) = false := beq_no (by omega)
        have e8 : (x.k == 8) = true := by simp [h]
        clear h
        go_wp2
        go_roundw
        case rel => exact ⟨k + 1, m + 1, by omega, by omega, by go_num, by go_num, HN.out, HB2.out⟩
        case measure => simp [intOf]; omega
      · have HN := Lib.hid (show btL (L.take (k + 1)) = m + 2 by rw [bt_step HX.out, HBT.out, btS_is (d := 2) (.inr (.inl ⟨h, rfl⟩))])
        have e3 : (x.k == 3) = false := beq_no (by omega)
        have e4 : (x.k == 4) = false := beq_no (by omega)
        have e5 : (x.k == 5) = false := beq_no (by omega)
        have e6 : (x.k == 6) = false := beq_no (by omega)
        have e8 : (x.k == 8) = false := beq_no (by omega)
        have e7 : (x.k == 7) = true := by simp [h]
        clear h
        go_wp2
        go_roundw
        case rel => exact ⟨k + 1, m + 2, by omega, by omega, by go_num, by go_num, HN.out, HB2.out⟩
        case measure => simp [intOf]; omega
      · have HN := Lib.hid (show btL (L.take (k + 1)) = m + 0 by rw [bt_step HX.out, HBT.out, btS_is (d := 0) (.inr (.inr ⟨h, rfl⟩))])
        have e3 : (x.k == 3) = false := beq_no (by omega)
        have e4 : (x.k == 4) = false := beq_no (by omega)
        have e5 : (x.k == 5) = false := beq_no (by omega)
        have e6 : (x.k == 6) = false := beq_no (by omega)
        have e8 : (x.k == 8) = false := beq_no (by omega)
        have e7 : (x.k == 7) = false := beq_no (by omega)
        clear h
        go_wp2
        go_roundw
        case rel => exact ⟨k + 1, m + 0, by omega, by omega, by go_num, by go_num, HN.out, HB2.out⟩
        case measure => simp [intOf]; omega
    · have HE := Lib.hid (show btL L = m by have := HBT.out; rwa [take_all (by have := HL.out; omega)] at this)
      clear hbt hbr
      go_wp2
      go_ret
      exact ⟨ret_int (show (m : Int) = _ by rw [HE.out]), HB.out⟩
set_option maxHeartbeats 4000000 in
theorem rbeats_any (L : List Snd) (n c : Nat) (A : Option Addr) (w : World) (hl : L.length = n) (hn : n ≤ 17592186044416) (hA : CellsIn w A (sndsC L)) :
    Calls Try.prog 56 #[.slice A n c] w fun e w' => e = .returned (.int .i64 (btL L : Nat)) ∧ Below w.heap.size w w' := by
  have HL := Lib.hid hl
  have HA := Lib.hid hA
  clear hl hA
  go_enter Try.func56, Try.ntmps56
  go_wp2
  go_loopw [3, 4] (fun v i wr => ∃ k m : Nat, k ≤ n ∧ m ≤ k * 2 ∧ i = .int .i64 k ∧ v = .int .i64 m ∧ btL (L.take k) = m ∧ Below w.heap.size w wr) (fun v i _ => n - (intOf i).toNat)
  case atStart => exact ⟨0, 0, Nat.zero_le _, Nat.zero_le _, rfl, rfl, rfl, Below.refl _ _⟩
  case round =>
    obtain ⟨k, m, hk, hm, rfl, rfl, hbt, hbr⟩ := hrel
    have HBT := Lib.hid hbt
    have HB := Lib.hid hbr
    by_cases hlt : k < n
    · obtain ⟨x, hx⟩ := idx_lt HL.out hlt
      obtain ⟨b, off, rfl, hb, c0, c1, c2⟩ := (HA.out.below hbr).snd hx
      have HX := Lib.hid hx
      have HB2 := Lib.hid (btwo hbr (bnew wr (.cells #[.int .i64 x.k, .int .i64 x.q, .string (bs x.t)] 51)))
      clear hx hbt hbr
      rcases (show x.k < 3 ∨ (3 ≤ x.k ∧ x.k ≤ 8 ∧ x.k ≠ 7) ∨ x.k = 7 ∨ 8 < x.k by omega) with h | ⟨h, h2, h3⟩ | h | h
      · have HN := Lib.hid (show btL (L.take (k + 1)) = m + 0 by rw [bt_step HX.out, HBT.out, btS_is (d := 0) (.inr (.inr ⟨by omega, rfl⟩))])
        have e7 : (x.k == 7) = false := beq_no (by omega)
        go_wp2
        go_roundw
        case rel => exact ⟨k + 1, m + 0, by omega, by omega, by go_num, by go_num, HN.out, HB.out⟩
        case measure => simp [intOf]; omega
      · have HN := Lib.hid (show btL (L.take (k + 1)) = m + 1 by rw [bt_step HX.out, HBT.out, btS_is (d := 1) (.inl ⟨by omega, rfl⟩)])
        have e7 : (x.k == 7) = false := beq_no (by omega)
        clear h3
        go_wp2
        go_roundw
        case rel => exact ⟨k + 1, m + 1, by omega, by omega, by go_num, by go_num, HN.out, HB.out⟩
        case measure => simp [intOf]; omega
      · have HN := Lib.hid (show btL (L.take (k + 1)) = m + 2 by rw [bt_step HX.out, HBT.out, btS_is (d := 2) (.inr (.inl ⟨h, rfl⟩))])
        have e7 : (x.k == 7) = true := by simp [h]
        have h4 : 3 ≤ x.k := by omega
        have h5 : x.k ≤ 8 := by omega
        clear h
        go_wp2
        go_roundw
        case rel => exact ⟨k + 1, m + 2, by omega, by omega, by go_num, by go_num, HN.out, HB.out⟩
        case measure => simp [intOf]; omega
      · have HN := Lib.hid (show btL (L.take (k + 1)) = m + 0 by rw [bt_step HX.out, HBT.out, btS_is (d := 0) (.inr (.inr ⟨by omega, rfl⟩))])
        have e7 : (x.k == 7) = false := beq_no (by omega)
        have h4 : 3 ≤ x.k := by omega
        go_wp2
        go_roundw
        case rel => exact ⟨k + 1, m + 0, by omega, by omega, by go_num, by go_num, HN.out, HB.out⟩
        case measure => simp [intOf]; omega
    · have HE := Lib.hid (show btL L = m by have := HBT.out; rwa [take_all (by have := HL.out; omega)] at this)
      clear hbt hbr
      go_wp2
      go_ret
      exact ⟨ret_int (show (m : Int) = _ by rw [HE.out]), HB.out⟩
end Go.Proofs.Ythcdbhancfpldaa
