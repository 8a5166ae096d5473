/- Contracts of isText, decimal and Parse of the program. -/
import Derived.Test.YtkfkefgkepoaaaaGreatDoorNWn
namespace Go.Proofs.YtkfkefgkepoaaaaGreatDoor
open Go.RowKit
set_option linter.unusedVariables false
set_option maxRecDepth 100000

theorem sizeB (s : ByteArray) : s.data.toList.length = s.size := rfl
theorem getB (s : ByteArray) (k : Nat) (h : k < s.size) : s[k] = s.data.toList[k]'(by rw [sizeB]; exact h) := rfl
theorem take_snocB (s : ByteArray) (k : Nat) (h : k < s.size) : s.data.toList.take (k + 1) = s.data.toList.take k ++ [s[k]] := by
  rw [List.take_succ_eq_append_getElem (by rw [sizeB]; exact h)]; rfl
theorem tb_empty {s : ByteArray} (h : s.size = 0) : isTB s.data.toList = false := by
  have : s.data.toList = [] := List.eq_nil_of_length_eq_zero (by rw [sizeB]; exact h)
  rw [this]; rfl
theorem tb_zero {s : ByteArray} (h : 1 < s.size) (h0 : (s[0]'(by omega)).toNat = 48) : isTB s.data.toList = false := by
  cases e : isTB s.data.toList with
  | false => rfl
  | true =>
    obtain ⟨_, _, c⟩ := (isTB_iff _).1 e
    have h1 : s.data.toList.head? = some 48 := by
      rw [List.head?_eq_getElem?, List.getElem?_eq_getElem (by rw [sizeB]; omega)]
      rw [← getB s 0 (by omega)]
      exact congrArg some (UInt8.toNat_inj.1 h0)
    have := c h1
    rw [sizeB] at this; omega
theorem size_one {s : ByteArray} (h : (!s.toList == [48]) = false) : s.size = 1 := by
  rw [ByteArray.toList_eq] at h
  have e : s.data.toList = [48] := by simpa using h
  rw [← sizeB, e]; rfl
theorem tb_zero' {s : ByteArray} (h : 0 < s.size) (h0 : (s[0]'h).toNat = 48) (h1 : (!s.toList == [48]) = true) : isTB s.data.toList = false := by
  refine tb_zero ?_ h0
  by_cases c : 1 < s.size
  · exact c
  · exfalso
    rw [ByteArray.toList_eq] at h1
    have hl : s.data.toList.length = 1 := by rw [sizeB]; omega
    have e : s.data.toList = [48] := by
      apply List.ext_getElem (by rw [hl]; rfl)
      intro i h2 h3
      obtain rfl : i = 0 := by omega
      rw [← getB s 0 h]
      exact UInt8.toNat_inj.1 h0
    rw [e] at h1; simp at h1
theorem tb_bad {s : ByteArray} {k : Nat} (h : k < s.size) (hb : s[k].toNat < 48 ∨ 57 < s[k].toNat) : isTB s.data.toList = false := by
  cases e : isTB s.data.toList with
  | false => rfl
  | true =>
    obtain ⟨_, b, _⟩ := (isTB_iff _).1 e
    have := b _ (List.getElem_mem (l := s.data.toList) (n := k) (by rw [sizeB]; exact h))
    rw [← getB s k h, isd_iff] at this
    omega
theorem all_step {s : ByteArray} {k : Nat} (h : k < s.size) (ha : allD (s.data.toList.take k)) (h0 : 48 ≤ s[k].toNat) (h1 : s[k].toNat ≤ 57) : allD (s.data.toList.take (k + 1)) := by
  rw [take_snocB s k h]
  exact ha.append (fun c hc => by simp only [List.mem_singleton] at hc; subst hc; exact (isd_iff _).2 ⟨h0, h1⟩)
theorem tb_ok {s : ByteArray} (h : 0 < s.size) (ha : allD (s.data.toList.take s.size)) (h0 : s.size = 1 ∨ (s[0]'h).toNat ≠ 48) : isTB s.data.toList = true := by
  rw [isTB_iff]
  rw [List.take_of_length_le (by rw [sizeB]; omega)] at ha
  refine ⟨?_, ha, fun e => ?_⟩
  · intro e
    have := sizeB s
    rw [e] at this; simp at this; omega
  · rcases h0 with h0 | h0
    · exact h0
    · exfalso
      rw [List.head?_eq_getElem?, List.getElem?_eq_getElem (by rw [sizeB]; exact h)] at e
      rw [← getB s 0 h] at e
      have := Option.some.inj e
      apply h0; rw [this]; rfl
set_option maxHeartbeats 1000000 in
theorem isText_any (s : ByteArray) (w : World) (hs : s.size ≤ maxLen) :
    Calls Tryz.prog 61 #[.string s] w fun e w' => e = .returned (.bool (isTB s.data.toList)) ∧ w = w' := by
  unfold maxLen at hs
  by_cases h0 : s.size = 0
  · have HE := Lib.hid (tb_empty h0)
    have hx1 : s.toList = [] := by rw [ByteArray.toList_eq]; exact List.eq_nil_of_length_eq_zero (by rw [sizeB]; exact h0)
    have hx2 : s.toList.isEmpty = true := by rw [hx1]; rfl
    clear h0
    go_enter Tryz.func61, Tryz.ntmps61
    go_wp2
    go_ret
    exact ⟨ret_bool HE.out, rfl⟩
  · have hpos : 0 < s.size := by omega
    have hx2 : s.toList.isEmpty = false := by
      rw [ByteArray.toList_eq]
      cases e : s.data.toList with
      | nil => have := sizeB s; rw [e] at this; simp at this; omega
      | cons => rfl
    go_enter Tryz.func61, Tryz.ntmps61
    go_wp2
    · have h1 : (s[0].toNat : Int) = 48 := by assumption
      have h2 : (!s.toList == [48]) = true := by assumption
      go_ret
      exact ⟨ret_bool (tb_zero' hpos (by omega) h2), rfl⟩
    all_goals
      have H0 : Hid (s.size = 1 ∨ s[0].toNat ≠ 48) := by first | (have h2 : (!s.toList == [48]) = false := by assumption
                                                                  exact .inl (size_one h2)) | (have h1 : ¬ (s[0].toNat : Int) = 48 := by assumption
                                                                                               exact .inr (by omega))
      go_loop [3] (fun i => ∃ k : Nat, k ≤ s.size ∧ i = .int .i64 (k : Int) ∧ allD (s.data.toList.take k)) (fun i => s.size - (intOf i).toNat)
      case atStart => exact ⟨0, Nat.zero_le _, rfl, fun c hc => by simp at hc⟩
      case round =>
        obtain ⟨k, hk, rfl, ha⟩ := hrel
        have HA := Lib.hid ha
        clear ha
        by_cases hlt : k < s.size
        · have hb : (s[k].toNat : Int) ≤ 255 := by have := s[k].toNat_lt; omega
          by_cases h48 : (s[k].toNat : Int) < 48
          · have HE := Lib.hid (tb_bad hlt (.inl (by omega)))
            go_wp2
            go_ret
            exact ⟨ret_bool HE.out, rfl⟩
          · by_cases h57 : (57 : Int) < (s[k].toNat : Int)
            · have HE := Lib.hid (tb_bad hlt (.inr (by omega)))
              go_wp2
              go_ret
              exact ⟨ret_bool HE.out, rfl⟩
            · have HS := Lib.hid (all_step hlt HA.out (by omega) (by omega))
              go_wp2
              go_round
              case rel => exact ⟨k + 1, by omega, by go_num, HS.out⟩
              case measure => simp [intOf]; omega
        · obtain rfl : k = s.size := by omega
          have HE := Lib.hid (tb_ok hpos HA.out H0.out)
          go_wp2
          go_ret
          exact ⟨ret_bool HE.out, rfl⟩

theorem decV_take {s : ByteArray} {k : Nat} (h : k < s.size) : decV (s.data.toList.take (k + 1)) = decV (s.data.toList.take k) * 10 + ((s[k].toNat : Int) - 48) := by
  rw [take_snocB s k h, decV_snoc]; rfl
theorem dec_bd {s : ByteArray} {k : Nat} (ha : allD s.data.toList) (hk : k ≤ 4) (hs : k ≤ s.size) : 0 ≤ decV (s.data.toList.take k) ∧ decV (s.data.toList.take k) < 10000 := by
  have ha2 : allD (s.data.toList.take k) := fun c hc => ha c (List.mem_of_mem_take hc)
  have h1 := decV_lt ha2
  have h2 := decV_nonneg ha2
  rw [List.length_take, sizeB, Nat.min_eq_left hs] at h1
  have h3 : ten k ≤ 10000 := by
    match k, hk with
    | 0, _ => simp [ten]
    | 1, _ => simp [ten]
    | 2, _ => simp [ten]
    | 3, _ => simp [ten]
    | 4, _ => simp [ten]
  omega
set_option maxHeartbeats 1000000 in
theorem decimal_any (s : ByteArray) (w : World) (hs : s.size ≤ 4) (ha : allD s.data.toList) :
    Calls Tryz.prog 62 #[.string s] w fun e w' => e = .returned (.int .i64 (decV s.data.toList)) ∧ w = w' := by
  have HA := Lib.hid ha
  clear ha
  go_enter Tryz.func62, Tryz.ntmps62
  go_wp2
  go_loop [3, 4] (fun n i => ∃ k : Nat, k ≤ s.size ∧ i = .int .i64 (k : Int) ∧ n = .int .i64 (decV (s.data.toList.take k))) (fun _ i => s.size - (intOf i).toNat)
  case atStart => exact ⟨0, Nat.zero_le _, rfl, rfl⟩
  case round =>
    obtain ⟨k, hk, rfl, rfl⟩ := hrel
    obtain ⟨b0, b1⟩ := dec_bd HA.out (k := k) (by omega) hk
    obtain ⟨v, hv⟩ : ∃ v, v = decV (s.data.toList.take k) := ⟨_, rfl⟩
    rw [← hv] at b0 b1 ⊢
    by_cases hlt : k < s.size
    · have hd := isd_dch (HA.out _ (List.getElem_mem (l := s.data.toList) (n := k) (by rw [sizeB]; exact hlt)))
      rw [← getB s k hlt] at hd
      unfold dch at hd
      obtain ⟨hd0, hd1⟩ := hd
      have hx0 : (48 : Int) ≤ (s[k].toNat : Int) := by omega
      have hx1 : (s[k].toNat : Int) ≤ 57 := by omega
      have HS := Lib.hid (show decV (s.data.toList.take (k + 1)) = v * 10 + ((s[k].toNat : Int) - 48) by rw [hv]; exact decV_take hlt)
      clear hv hd0 hd1
      go_wp2
      go_round
      case rel => exact ⟨k + 1, by omega, by go_num, by rw [HS.out]⟩
      case measure => simp [intOf]; omega
    · have HS := Lib.hid (show decV s.data.toList = v by rw [hv, List.take_of_length_le (by rw [sizeB]; omega)])
      clear hv
      go_wp2
      go_ret
      exact ⟨ret_int HS.out, rfl⟩
end Go.Proofs.YtkfkefgkepoaaaaGreatDoor
