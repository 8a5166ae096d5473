/- Contracts of the small functions of both sides: signs, the error of a pattern and of a marked pattern, ranks. -/
import Derived.Test.YtlkigmlgbnlkaaaDoorRows
import Derived.Test.YtlkigmlgbnlkaaaDoorPMath
import Derived.Test.YtlkigmlgbnlkaaaDoorShelf
import Derived.WalkKit
import Derived.WalkSpells
import Derived.WalkLawsBesides
import Derived.Lib.Hide
import Derived.Outline
namespace Go.Proofs.YtlkigmlgbnlkaaaDoor
open Go.RowKit
set_option linter.unusedVariables false

set_option maxHeartbeats 400000 in
theorem sign_any (n : Int) (w : World) (h0 : 0 ≤ n) (h1 : n ≤ 255) :
    Calls Tryd.prog 39 #[.int .u8 n] w fun e w' => e = .returned (.bool (sgn n)) ∧ w = w' := by
  by_cases a : n = 117
  · subst a; go_enter Tryd.func39, Tryd.ntmps39; go_wp2; go_ret; exact ⟨rfl, rfl⟩
  · by_cases b : n = 45
    · subst b; go_enter Tryd.func39, Tryd.ntmps39; go_wp2; go_ret; exact ⟨rfl, rfl⟩
    · by_cases c : n = 120
      · subst c; go_enter Tryd.func39, Tryd.ntmps39; go_wp2; go_ret; exact ⟨rfl, rfl⟩
      · have : sgn n = false := by simp [sgn, a, b, c]
        rw [this]
        go_enter Tryd.func39, Tryd.ntmps39; go_wp2; go_ret; exact ⟨ret_bool (by simp [a, b, c]), rfl⟩
set_option maxHeartbeats 400000 in
theorem ris_any (n : Int) (w : World) (h0 : 0 ≤ n) (h1 : n ≤ 255) :
    Calls Tryd.prog 41 #[.int .u8 n] w fun e w' => e = .returned (.bool (sgn n)) ∧ w = w' := by
  by_cases a : n = 117
  · subst a; go_enter Tryd.func41, Tryd.ntmps41; go_wp2; go_ret; exact ⟨rfl, rfl⟩
  · by_cases b : n = 45
    · subst b; go_enter Tryd.func41, Tryd.ntmps41; go_wp2; go_ret; exact ⟨rfl, rfl⟩
    · by_cases c : n = 120
      · subst c; go_enter Tryd.func41, Tryd.ntmps41; go_wp2; go_ret; exact ⟨rfl, rfl⟩
      · have : sgn n = false := by simp [sgn, a, b, c]
        rw [this]
        go_enter Tryd.func41, Tryd.ntmps41; go_wp2; go_ret; exact ⟨ret_bool (by simp [a, b, c]), rfl⟩
def rk (n : Int) : Int := if n = 117 then 0 else if n = 45 then 1 else if n = 120 then 2 else 3 + n
set_option maxHeartbeats 400000 in
theorem rank_any (n : Int) (w : World) (h0 : 0 ≤ n) (h1 : n ≤ 255) :
    Calls Tryd.prog 49 #[.int .u8 n] w fun e w' => e = .returned (.int .i64 (rk n)) ∧ w = w' := by
  by_cases a : n = 117
  · subst a; go_enter Tryd.func49, Tryd.ntmps49; go_wp2; go_ret; exact ⟨rfl, rfl⟩
  · by_cases b : n = 45
    · subst b; go_enter Tryd.func49, Tryd.ntmps49; go_wp2; go_ret; exact ⟨rfl, rfl⟩
    · by_cases c : n = 120
      · subst c; go_enter Tryd.func49, Tryd.ntmps49; go_wp2; go_ret; exact ⟨rfl, rfl⟩
      · have HK := Lib.hid (show rk n = 3 + n by simp [rk, a, b, c])
        go_enter Tryd.func49, Tryd.ntmps49; go_wp2; go_ret; exact ⟨ret_int HK.out, rfl⟩
set_option maxHeartbeats 400000 in
theorem rrank_any (n : Int) (w : World) (h0 : 0 ≤ n) (h1 : n ≤ 255) :
    Calls Tryd.prog 50 #[.int .u8 n] w fun e w' => e = .returned (.int .i64 (rk n)) ∧ w = w' := by
  by_cases a : n = 117
  · subst a; go_enter Tryd.func50, Tryd.ntmps50; go_wp2; go_ret; exact ⟨rfl, rfl⟩
  · by_cases b : n = 45
    · subst b; go_enter Tryd.func50, Tryd.ntmps50; go_wp2; go_ret; exact ⟨rfl, rfl⟩
    · by_cases c : n = 120
      · subst c; go_enter Tryd.func50, Tryd.ntmps50; go_wp2; go_ret; exact ⟨rfl, rfl⟩
      · have HK := Lib.hid (show rk n = 3 + n by simp [rk, a, b, c])
        go_enter Tryd.func50, Tryd.ntmps50; go_wp2; go_ret; exact ⟨ret_int HK.out, rfl⟩

set_option maxHeartbeats 400000 in
theorem pvalid_any (s : ByteArray) (w : World) (hs : s.size ≤ maxLen) :
    Calls Tryd.prog 16 #[.string s] w fun e w' => e = .returned (.int .i64 (pErr s.data.toList)) ∧ w = w' := by
  unfold maxLen at hs
  by_cases h : 60 < s.size
  · rw [pErr_big (l := s.data.toList) h]
    go_enter Tryd.func16, Tryd.ntmps16
    go_wp2
    go_ret
    exact ⟨rfl, rfl⟩
  · go_enter Tryd.func16, Tryd.ntmps16
    go_wp2
    go_loop [3] (fun i => ∃ k : Nat, k ≤ s.size ∧ i = .int .i64 k ∧ (s.data.toList.take k).all isS = true) (fun i => s.size - (intOf i).toNat)
    case atStart => exact ⟨0, Nat.zero_le _, rfl, rfl⟩
    case round =>
      obtain ⟨k, hk, rfl, hok⟩ := hrel
      have HOK := Lib.hid hok
      clear hok
      by_cases hlt : k < s.size
      · have hb : (s[k].toNat : Int) ≤ 255 := by have := s[k].toNat_lt; omega
        cases hi : sgn (s[k].toNat : Int) with
        | true =>
          have HI := Lib.hid hi
          clear hi
          go_wp2_with (go_at_call 39; refine (sign_any _ _ (by omega) (by omega)).mono ?_; rintro e w' ⟨rfl, rfl⟩; rw [HI.out])
          go_round
          case rel => exact ⟨k + 1, by omega, by go_num, all_step hlt HOK.out HI.out⟩
          case measure => simp [intOf]; omega
        | false =>
          have HI := Lib.hid hi
          clear hi
          go_wp2_with (go_at_call 39; refine (sign_any _ _ (by omega) (by omega)).mono ?_; rintro e w' ⟨rfl, rfl⟩; rw [HI.out])
          go_ret
          exact ⟨ret_int (pErr_bad (by omega) hlt HI.out), rfl⟩
      · go_wp2
        go_ret
        exact ⟨ret_int (pErr_ok (by rw [sizeB]; omega) (all_end (by omega) HOK.out)), rfl⟩

set_option maxHeartbeats 400000 in
theorem rvalid_any (s : ByteArray) (w : World) (hs : s.size ≤ maxLen) :
    Calls Tryd.prog 17 #[.string s] w fun e w' => e = .returned (.int .i64 (pErr s.data.toList)) ∧ w = w' := by
  unfold maxLen at hs
  by_cases h : 60 < s.size
  · rw [pErr_big (l := s.data.toList) h]
    go_enter Tryd.func17, Tryd.ntmps17
    go_wp2
    go_ret
    exact ⟨rfl, rfl⟩
  · go_enter Tryd.func17, Tryd.ntmps17
    go_wp2
    go_loop [3] (fun i => ∃ k : Nat, k ≤ s.size ∧ i = .int .i64 k ∧ (s.data.toList.take k).all isS = true) (fun i => s.size - (intOf i).toNat)
    case atStart => exact ⟨0, Nat.zero_le _, rfl, rfl⟩
    case round =>
      obtain ⟨k, hk, rfl, hok⟩ := hrel
      have HOK := Lib.hid hok
      clear hok
      by_cases hlt : k < s.size
      · have hb : (s[k].toNat : Int) ≤ 255 := by have := s[k].toNat_lt; omega
        cases hi : sgn (s[k].toNat : Int) with
        | true =>
          have HI := Lib.hid hi
          clear hi
          go_wp2_with (go_at_call 41; refine (ris_any _ _ (by omega) (by omega)).mono ?_; rintro e w' ⟨rfl, rfl⟩; rw [HI.out])
          go_round
          case rel => exact ⟨k + 1, by omega, by go_num, all_step hlt HOK.out HI.out⟩
          case measure => simp [intOf]; omega
        | false =>
          have HI := Lib.hid hi
          clear hi
          go_wp2_with (go_at_call 41; refine (ris_any _ _ (by omega) (by omega)).mono ?_; rintro e w' ⟨rfl, rfl⟩; rw [HI.out])
          go_ret
          exact ⟨ret_int (pErr_bad (by omega) hlt HI.out), rfl⟩
      · go_wp2
        go_ret
        exact ⟨ret_int (pErr_ok (by rw [sizeB]; omega) (all_end (by omega) HOK.out)), rfl⟩

set_option maxHeartbeats 800000 in
theorem pmarked_any (s : ByteArray) (w : World) (hs : s.size ≤ maxLen) :
    Calls Tryd.prog 18 #[.string s] w fun e w' => e = .returned (.int .i64 (mErr s.data.toList)) ∧ w = w' := by
  unfold maxLen at hs
  by_cases h : 120 < s.size
  · rw [mErr_big (l := s.data.toList) h]
    go_enter Tryd.func18, Tryd.ntmps18
    go_wp2
    go_ret
    exact ⟨rfl, rfl⟩
  · go_enter Tryd.func18, Tryd.ntmps18
    go_wp2
    go_loop [3, 4] (fun c i => ∃ k n : Nat, k ≤ s.size ∧ n ≤ k ∧ i = .int .i64 k ∧ c = .int .i64 n ∧ mokR false (s.data.toList.take k) = true ∧ (s.data.toList.take k).countP isS = n) (fun _ i => s.size - (intOf i).toNat)
    case atStart => exact ⟨0, 0, Nat.zero_le _, Nat.le_refl _, rfl, rfl, rfl, rfl⟩
    case round =>
      obtain ⟨k, n, hk, hn, rfl, rfl, hok, hc⟩ := hrel
      have HOK := Lib.hid hok
      have HC := Lib.hid hc
      clear hok hc
      by_cases hlt : k < s.size
      · have hb : (s[k].toNat : Int) ≤ 255 := by have := s[k].toNat_lt; omega
        cases hi : sgn (s[k].toNat : Int) with
        | true =>
          have HI := Lib.hid hi
          clear hi
          go_wp2_with (go_at_call 39; refine (sign_any _ _ (by omega) (by omega)).mono ?_; rintro e w' ⟨rfl, rfl⟩; rw [HI.out])
          go_round
          case rel => exact ⟨k + 1, n + 1, by omega, by omega, by go_num, by go_num, (mok_sign hlt HOK.out HI.out).1, by rw [(mok_sign hlt HOK.out HI.out).2.1, HC.out]⟩
          case measure => simp [intOf]; omega
        | false =>
          have HI := Lib.hid hi
          clear hi
          by_cases hp : (s[k].toNat : Int) = 46
          · by_cases h0 : k = 0
            · subst h0
              have HE := Lib.hid (mErr_bad (s := s) (by omega) hlt HI.out (Or.inr rfl))
              go_wp2_with (go_at_call 39; refine (sign_any _ _ (by omega) (by omega)).mono ?_; rintro e w' ⟨rfl, rfl⟩; rw [show sgn 46 = false from rfl])
              go_ret
              exact ⟨ret_int HE.out, rfl⟩
            · have hbp : (s[k - 1].toNat : Int) ≤ 255 := by have := s[k - 1].toNat_lt; omega
              have hkk : IntKind.i64.wrap ((k : Int) - 1) = (k : Int) - 1 := IntWalk.i64_in _ (by omega)
              have hkt : ((k : Int) - 1).toNat = k - 1 := by omega
              cases hq : sgn (s[k - 1].toNat : Int) with
              | true =>
                have HQ := Lib.hid hq
                have HL := Lib.hid (show lastS false (s.data.toList.take k) = true by rw [last_prev hk (by omega)]; exact hq)
                clear hq
                go_wp2_with (go_at_call 39; refine (sign_any _ _ (by omega) (by omega)).mono ?_; rintro e w' ⟨rfl, rfl⟩; first | rw [show sgn 46 = false from rfl] | rw [HQ.out])
                go_round
                case rel => exact ⟨k + 1, n, by omega, by omega, by go_num, rfl, (mok_point hlt HOK.out (by omega) HL.out).1, by rw [(mok_point hlt HOK.out (by omega) HL.out).2.1, HC.out]⟩
                case measure => simp [intOf]; omega
              | false =>
                have HQ := Lib.hid hq
                have HE := Lib.hid (mErr_bad (s := s) (by omega) hlt HI.out (Or.inr (by rw [last_prev hk (by omega)]; exact hq)))
                clear hq
                go_wp2_with (go_at_call 39; refine (sign_any _ _ (by omega) (by omega)).mono ?_; rintro e w' ⟨rfl, rfl⟩; first | rw [show sgn 46 = false from rfl] | rw [HQ.out])
                go_ret
                exact ⟨ret_int HE.out, rfl⟩
          · have HE := Lib.hid (mErr_bad (s := s) (by omega) hlt HI.out (Or.inl (by omega)))
            go_wp2_with (go_at_call 39; refine (sign_any _ _ (by omega) (by omega)).mono ?_; rintro e w' ⟨rfl, rfl⟩; rw [HI.out])
            go_ret
            exact ⟨ret_int HE.out, rfl⟩
      · by_cases hm : 60 < n
        · have HE := Lib.hid (mErr_many (l := s.data.toList) (by rw [sizeB]; omega) (by rw [← takeAll (k := k) (by omega)]; exact HOK.out) (by rw [← takeAll (k := k) (by omega), HC.out]; exact hm))
          go_wp2
          go_ret
          exact ⟨ret_int HE.out, rfl⟩
        · have HE := Lib.hid (mErr_end (l := s.data.toList) (by rw [sizeB]; omega) (by rw [← takeAll (k := k) (by omega)]; exact HOK.out) (by rw [← takeAll (k := k) (by omega), HC.out]; omega))
          go_wp2
          go_ret
          exact ⟨ret_int HE.out, rfl⟩

set_option maxHeartbeats 800000 in
theorem rmarked_any (s : ByteArray) (w : World) (hs : s.size ≤ maxLen) :
    Calls Tryd.prog 19 #[.string s] w fun e w' => e = .returned (.int .i64 (mErr s.data.toList)) ∧ w = w' := by
  unfold maxLen at hs
  by_cases h : 120 < s.size
  · rw [mErr_big (l := s.data.toList) h]
    go_enter Tryd.func19, Tryd.ntmps19
    go_wp2
    go_ret
    exact ⟨rfl, rfl⟩
  · go_enter Tryd.func19, Tryd.ntmps19
    go_wp2
    go_loop [3, 4] (fun c i => ∃ k n : Nat, k ≤ s.size ∧ n ≤ k ∧ i = .int .i64 k ∧ c = .int .i64 n ∧ mokR false (s.data.toList.take k) = true ∧ (s.data.toList.take k).countP isS = n) (fun _ i => s.size - (intOf i).toNat)
    case atStart => exact ⟨0, 0, Nat.zero_le _, Nat.le_refl _, rfl, rfl, rfl, rfl⟩
    case round =>
      obtain ⟨k, n, hk, hn, rfl, rfl, hok, hc⟩ := hrel
      have HOK := Lib.hid hok
      have HC := Lib.hid hc
      clear hok hc
      by_cases hlt : k < s.size
      · have hb : (s[k].toNat : Int) ≤ 255 := by have := s[k].toNat_lt; omega
        cases hi : sgn (s[k].toNat : Int) with
        | true =>
          have HI := Lib.hid hi
          clear hi
          go_wp2_with (go_at_call 41; refine (ris_any _ _ (by omega) (by omega)).mono ?_; rintro e w' ⟨rfl, rfl⟩; rw [HI.out])
          go_round
          case rel => exact ⟨k + 1, n + 1, by omega, by omega, by go_num, by go_num, (mok_sign hlt HOK.out HI.out).1, by rw [(mok_sign hlt HOK.out HI.out).2.1, HC.out]⟩
          case measure => simp [intOf]; omega
        | false =>
          have HI := Lib.hid hi
          clear hi
          by_cases hp : (s[k].toNat : Int) = 46
          · by_cases h0 : k = 0
            · subst h0
              have HE := Lib.hid (mErr_bad (s := s) (by omega) hlt HI.out (Or.inr rfl))
              go_wp2_with (go_at_call 41; refine (ris_any _ _ (by omega) (by omega)).mono ?_; rintro e w' ⟨rfl, rfl⟩; rw [show sgn 46 = false from rfl])
              go_ret
              exact ⟨ret_int HE.out, rfl⟩
            · have hbp : (s[k - 1].toNat : Int) ≤ 255 := by have := s[k - 1].toNat_lt; omega
              have hkk : IntKind.i64.wrap ((k : Int) - 1) = (k : Int) - 1 := IntWalk.i64_in _ (by omega)
              have hkt : ((k : Int) - 1).toNat = k - 1 := by omega
              cases hq : sgn (s[k - 1].toNat : Int) with
              | true =>
                have HQ := Lib.hid hq
                have HL := Lib.hid (show lastS false (s.data.toList.take k) = true by rw [last_prev hk (by omega)]; exact hq)
                clear hq
                go_wp2_with (go_at_call 41; refine (ris_any _ _ (by omega) (by omega)).mono ?_; rintro e w' ⟨rfl, rfl⟩; first | rw [show sgn 46 = false from rfl] | rw [HQ.out])
                go_round
                case rel => exact ⟨k + 1, n, by omega, by omega, by go_num, rfl, (mok_point hlt HOK.out (by omega) HL.out).1, by rw [(mok_point hlt HOK.out (by omega) HL.out).2.1, HC.out]⟩
                case measure => simp [intOf]; omega
              | false =>
                have HQ := Lib.hid hq
                have HE := Lib.hid (mErr_bad (s := s) (by omega) hlt HI.out (Or.inr (by rw [last_prev hk (by omega)]; exact hq)))
                clear hq
                go_wp2_with (go_at_call 41; refine (ris_any _ _ (by omega) (by omega)).mono ?_; rintro e w' ⟨rfl, rfl⟩; first | rw [show sgn 46 = false from rfl] | rw [HQ.out])
                go_ret
                exact ⟨ret_int HE.out, rfl⟩
          · have HE := Lib.hid (mErr_bad (s := s) (by omega) hlt HI.out (Or.inl (by omega)))
            go_wp2_with (go_at_call 41; refine (ris_any _ _ (by omega) (by omega)).mono ?_; rintro e w' ⟨rfl, rfl⟩; rw [HI.out])
            go_ret
            exact ⟨ret_int HE.out, rfl⟩
      · by_cases hm : 60 < n
        · have HE := Lib.hid (mErr_many (l := s.data.toList) (by rw [sizeB]; omega) (by rw [← takeAll (k := k) (by omega)]; exact HOK.out) (by rw [← takeAll (k := k) (by omega), HC.out]; exact hm))
          go_wp2
          go_ret
          exact ⟨ret_int HE.out, rfl⟩
        · have HE := Lib.hid (mErr_end (l := s.data.toList) (by rw [sizeB]; omega) (by rw [← takeAll (k := k) (by omega)]; exact HOK.out) (by rw [← takeAll (k := k) (by omega), HC.out]; omega))
          go_wp2
          go_ret
          exact ⟨ret_int HE.out, rfl⟩
end Go.Proofs.YtlkigmlgbnlkaaaDoor
