/- Contracts of both sides: names, numbers, strings in quotes, white space. -/
import Derived.Test.YtngkhggofjeflaaDoorKb
import Derived.Below
import Derived.Lib.AtoiErrMem
import Derived.Deep.QuietTactic
import Derived.BigQuiet
namespace Go.Proofs.YtngkhggofjeflaaDoor
open Go.RowKit
set_option linter.unusedVariables false

theorem btwo {w w1 w2 : World} (h1 : Below w.heap.size w w1) (h2 : Below w1.heap.size w1 w2) : Below w.heap.size w w2 := h1.trans (h2.mono h1.size)
theorem nameB_empty {s : ByteArray} (h : s.size = 0) : nameB s.data.toList = false := by
  rw [List.eq_nil_of_length_eq_zero (show s.data.toList.length = 0 from h)]; rfl
theorem nameB_big {s : ByteArray} (h : 20 < s.size) : nameB s.data.toList = false := by
  unfold nameB; rw [sizeB, decide_eq_false (by omega)]; simp
theorem ne_nil {s : ByteArray} (h : ¬ s.size = 0) : s.data.toList ≠ [] := fun e => h (by rw [← sizeB, e]; rfl)
theorem nameB_is {s : ByteArray} (h : ¬ s.size = 0) (h1 : ¬ 20 < s.size) : nameB s.data.toList = decide (nmL s.data.toList = s.size) := by
  unfold nameB
  have e : (s.data.toList != []) = true := by simpa using ne_nil h
  rw [e, sizeB, decide_eq_true (show s.size ≤ 20 by omega), Bool.eq_iff_iff]; simp

set_option maxHeartbeats 400000 in
theorem isname_any (s : ByteArray) (w : World) (hs : s.size ≤ maxLen) :
    Calls Tryd.prog 25 #[.string s] w fun e w' => e = .returned (.bool (nameB s.data.toList)) ∧ w = w' := by
  by_cases h0 : s.size = 0
  · have HE := Lib.hid (nameB_empty h0)
    have hx := (empty_list h0).2
    clear h0
    go_enter Tryd.func25, Tryd.ntmps25
    go_wp2
    go_ret
    exact ⟨ret_bool (by rw [HE.out]), rfl⟩
  · have hx := full_list h0
    by_cases h20 : 20 < s.size
    · have HE := Lib.hid (nameB_big h20)
      clear h0
      go_enter Tryd.func25, Tryd.ntmps25
      go_wp2
      go_ret
      exact ⟨ret_bool (by rw [HE.out]), rfl⟩
    · have HE := Lib.hid (nameB_is h0 h20)
      clear h0
      go_enter Tryd.func25, Tryd.ntmps25
      go_wp2_with fail
      refine (nsize_any _ _ (by assumption)).mono ?_
      rintro e w' ⟨rfl, rfl⟩
      go_wp2_with fail
      go_ret
      exact ⟨ret_bool (by rw [HE.out, Bool.eq_iff_iff]; simp; omega), rfl⟩

set_option maxHeartbeats 400000 in
theorem risname_any (s : ByteArray) (w : World) (hs : s.size ≤ maxLen) :
    Calls Tryd.prog 26 #[.string s] w fun e w' => e = .returned (.bool (nameB s.data.toList)) ∧ w = w' := by
  by_cases h0 : s.size = 0
  · have HE := Lib.hid (nameB_empty h0)
    have hx := (empty_list h0).2
    clear h0
    go_enter Tryd.func26, Tryd.ntmps26
    go_wp2
    go_ret
    exact ⟨ret_bool (by rw [HE.out]), rfl⟩
  · have hx := full_list h0
    by_cases h20 : 20 < s.size
    · have HE := Lib.hid (nameB_big h20)
      clear h0
      go_enter Tryd.func26, Tryd.ntmps26
      go_wp2
      go_ret
      exact ⟨ret_bool (by rw [HE.out]), rfl⟩
    · have HE := Lib.hid (nameB_is h0 h20)
      clear h0
      go_enter Tryd.func26, Tryd.ntmps26
      go_wp2_with fail
      refine (rname_any _ _ (by assumption)).mono ?_
      rintro e w' ⟨rfl, rfl⟩
      go_wp2_with fail
      go_ret
      exact ⟨ret_bool (by rw [HE.out, Bool.eq_iff_iff]; simp; omega), rfl⟩

/-- Why a string is no number: empty, too long, with a byte that is no digit, or with a first digit 0. -/
theorem num_empty {s : ByteArray} (h : s.size = 0) : numV s.data.toList = (0, false) := by
  rw [List.eq_nil_of_length_eq_zero (show s.data.toList.length = 0 from h)]; rfl
theorem num_long {s : ByteArray} (h : 6 < s.size) : numV s.data.toList = (0, false) := by
  have : numB s.data.toList = false := by unfold numB; rw [sizeB, decide_eq_false (show ¬ s.size ≤ 6 by omega)]; simp
  unfold numV; rw [this]; rfl
theorem num_other {s : ByteArray} (h : runL isDg s.data.toList ≠ s.size) : numV s.data.toList = (0, false) := by
  have : numB s.data.toList = false := by unfold numB; rw [sizeB, show (runL isDg s.data.toList == s.size) = false by simpa using h]; simp
  unfold numV; rw [this]; rfl
theorem head_at {s : ByteArray} (h : 0 < s.size) : s.data.toList.head? = some s[0] := by
  have := dropS h
  rw [List.drop_zero] at this
  rw [this]; rfl
theorem num_zero {s : ByteArray} (h : 0 < s.size) (h0 : (s[0].toNat : Int) = 48) (h1 : 1 < s.size) : numV s.data.toList = (0, false) := by
  have e : s[0] = 48 := byte_is (n := 48) (by omega) (by decide)
  have : numB s.data.toList = false := by unfold numB; rw [sizeB, head_at h, e, decide_eq_true h1]; simp
  unfold numV; rw [this]; rfl
theorem num_good {s : ByteArray} (h : 0 < s.size) (h6 : ¬ 6 < s.size) (hr : runL isDg s.data.toList = s.size) (h0 : (s[0].toNat : Int) = 48 → ¬ 1 < s.size) : numV s.data.toList = ((decF 0 s.data.toList : Int), true) ∧ s.data.toList.all isDg = true := by
  have ha : s.data.toList.all isDg = true := runL_len (by rw [hr, sizeB])
  have : numB s.data.toList = true := numB_mk (ne_nil (by omega)) (by rw [sizeB]; omega) (by rw [hr, sizeB]) (fun hh => by
    rw [head_at h] at hh
    have e : s[0] = 48 := Option.some.inj hh
    have := h0 (by rw [e]; rfl)
    rw [sizeB]; omega)
  unfold numV; rw [this]; exact ⟨rfl, ha⟩
def NumPost (l : List UInt8) (w : World) (e : Ending) (w' : World) : Prop := e = .returned (.tuple #[.int .i64 (numV l).1, .bool (numV l).2]) ∧ Below w.heap.size w w'
theorem num_post {l : List UInt8} {w w' : World} {x : Int} {b : Bool} (h : numV l = (x, b)) (hb : Below w.heap.size w w') : NumPost l w (.returned (.tuple #[.int .i64 x, .bool b])) w' := ⟨by rw [h], hb⟩

set_option maxHeartbeats 1000000 in
theorem number_any (s : ByteArray) (w : World) (hs : s.size ≤ maxLen) :
    Calls Tryd.prog 23 #[.string s] w (NumPost s.data.toList w) := by
  by_cases h0 : s.size = 0
  · have HE := Lib.hid (num_empty h0)
    have hx := (empty_list h0).2
    clear h0
    go_enter Tryd.func23, Tryd.ntmps23
    go_wp2
    go_ret2
    exact num_post HE.out (Below.refl _ _)
  · have hx := full_list h0
    have hpos : 0 < s.size := by omega
    have hb0 : (s[0].toNat : Int) ≤ 255 := by have := s[0].toNat_lt; omega
    by_cases h6 : 6 < s.size
    · have HE := Lib.hid (num_long h6)
      clear h0
      go_enter Tryd.func23, Tryd.ntmps23
      go_wp2
      go_ret2
      exact num_post HE.out (Below.refl _ _)
    · obtain ⟨r, hr⟩ : ∃ r, r = runL isDg s.data.toList := ⟨_, rfl⟩
      have HR := Lib.hid hr
      have hrle : r ≤ s.size := by rw [hr]; exact runL_le _ _
      by_cases hrs : r = s.size
      · by_cases h48 : (s[0].toNat : Int) = 48
        · by_cases h1 : 1 < s.size
          · have HE := Lib.hid (num_zero hpos h48 h1)
            have e1 : ((r : Int) != (s.size : Int)) = false := by simp; omega
            have e2 : decide ((r : Int) < (s.size : Int)) = false := by simp; omega
            have e3 : decide (r < s.size) = false := by simp; omega
            clear h0 hr hrs
            go_enter Tryd.func23, Tryd.ntmps23
            go_wp2_with fail
            refine (dsize_any _ _ (by assumption)).mono ?_
            rintro e w' ⟨rfl, rfl⟩
            rw [← HR.out]
            go_wp2_with fail
            go_ret2
            exact num_post HE.out (Below.refl _ _)
          · have HG := Lib.hid (num_good hpos h6 (by omega) (fun _ => h1))
            have e1 : ((r : Int) != (s.size : Int)) = false := by simp; omega
            have e2 : decide ((r : Int) < (s.size : Int)) = false := by simp; omega
            have e3 : decide (r < s.size) = false := by simp; omega
            clear hr hrs
            go_enter Tryd.func23, Tryd.ntmps23
            go_wp2_with fail
            refine (dsize_any _ _ (by assumption)).mono ?_
            rintro e w' ⟨rfl, rfl⟩
            rw [← HR.out]
            go_wp2_with fail
            have HAT := Lib.hid (atoi_is (ne_nil h0) HG.out.2)
            refine (Tryd.strconv_Atoi s _ (by omega) HAT.out _).mono ?_
            rintro e w' ⟨rfl, t, rfl⟩
            go_wp2_with fail
            go_quiet (fail)
            go_wp2
            go_ret2
            exact num_post HG.out.1 (below_drewN (Lib.bytesWorld_below _ _ _) _)
        · have HG := Lib.hid (num_good hpos h6 (by omega) (fun h => absurd h h48))
          have e4 : ((s[0].toNat : Int) == 48) = false := by simpa using h48
          have e1 : ((r : Int) != (s.size : Int)) = false := by simp; omega
          have e2 : decide ((r : Int) < (s.size : Int)) = false := by simp; omega
          have e3 : decide (r < s.size) = false := by simp; omega
          clear hr hrs h48
          go_enter Tryd.func23, Tryd.ntmps23
          go_wp2_with fail
          refine (dsize_any _ _ (by assumption)).mono ?_
          rintro e w' ⟨rfl, rfl⟩
          rw [← HR.out]
          go_wp2_with fail
          have HAT := Lib.hid (atoi_is (ne_nil h0) HG.out.2)
          refine (Tryd.strconv_Atoi s _ (by omega) HAT.out _).mono ?_
          rintro e w' ⟨rfl, t, rfl⟩
          go_wp2_with fail
          go_quiet (fail)
          go_wp2
          go_ret2
          exact num_post HG.out.1 (below_drewN (Lib.bytesWorld_below _ _ _) _)
      · have HE := Lib.hid (num_other (by rw [← hr]; exact hrs))
        have e1 : ((r : Int) != (s.size : Int)) = true := by simp; omega
        have e2 : decide ((r : Int) < (s.size : Int)) = true := by simp; omega
        have e3 : decide (r < s.size) = true := by simp; omega
        clear h0 hr hrs
        go_enter Tryd.func23, Tryd.ntmps23
        go_wp2_with fail
        refine (dsize_any _ _ (by assumption)).mono ?_
        rintro e w' ⟨rfl, rfl⟩
        rw [← HR.out]
        go_wp2_with fail
        go_ret2
        exact num_post HE.out (Below.refl _ _)

theorem dec_step {s : ByteArray} {k : Nat} (hk : k < s.size) : decF 0 (s.data.toList.take (k + 1)) = decF 0 (s.data.toList.take k) * 10 + (s[k].toNat - 48) := by rw [takeS hk, decF_snoc]
theorem dig_bd {s : ByteArray} (h : s.data.toList.all isDg = true) {k : Nat} (hk : k < s.size) : 48 ≤ s[k].toNat ∧ s[k].toNat ≤ 57 := by
  have := List.all_eq_true.1 h s[k] (by rw [getB]; exact List.getElem_mem _)
  unfold isDg dgI at this
  simp only [Bool.and_eq_true, decide_eq_true_eq] at this
  omega
theorem dec_take {s : ByteArray} (h : s.data.toList.all isDg = true) (h6 : ¬ 6 < s.size) (k : Nat) : decF 0 (s.data.toList.take k) < 1000000 :=
  decF_small (List.all_eq_true.2 fun x hx => List.all_eq_true.1 h x (List.mem_of_mem_take hx)) (by rw [List.length_take, sizeB]; omega)

set_option maxHeartbeats 1000000 in
theorem rnumber_any (s : ByteArray) (w : World) (hs : s.size ≤ maxLen) :
    Calls Tryd.prog 24 #[.string s] w (NumPost s.data.toList w) := by
  by_cases h0 : s.size = 0
  · have HE := Lib.hid (num_empty h0)
    have hx := (empty_list h0).2
    clear h0
    go_enter Tryd.func24, Tryd.ntmps24
    go_wp2
    go_ret2
    exact num_post HE.out (Below.refl _ _)
  · have hx := full_list h0
    have hpos : 0 < s.size := by omega
    have hb0 : (s[0].toNat : Int) ≤ 255 := by have := s[0].toNat_lt; omega
    by_cases h6 : 6 < s.size
    · have HE := Lib.hid (num_long h6)
      clear h0
      go_enter Tryd.func24, Tryd.ntmps24
      go_wp2
      go_ret2
      exact num_post HE.out (Below.refl _ _)
    · obtain ⟨r, hr⟩ : ∃ r, r = runL isDg s.data.toList := ⟨_, rfl⟩
      have HR := Lib.hid hr
      have hrle : r ≤ s.size := by rw [hr]; exact runL_le _ _
      by_cases hrs : r = s.size
      · by_cases h48 : (s[0].toNat : Int) = 48
        · by_cases h1 : 1 < s.size
          · have HE := Lib.hid (num_zero hpos h48 h1)
            have e1 : ((r : Int) != (s.size : Int)) = false := by simp; omega
            have e2 : decide ((r : Int) < (s.size : Int)) = false := by simp; omega
            have e3 : decide (r < s.size) = false := by simp; omega
            clear h0 hr hrs
            go_enter Tryd.func24, Tryd.ntmps24
            go_wp2_with fail
            refine (rdigits_any _ _ (by assumption)).mono ?_
            rintro e w' ⟨rfl, rfl⟩
            rw [← HR.out]
            go_wp2_with fail
            go_ret2
            exact num_post HE.out (Below.refl _ _)
          · have HG := Lib.hid (num_good hpos h6 (by omega) (fun _ => h1))
            have e1 : ((r : Int) != (s.size : Int)) = false := by simp; omega
            have e2 : decide ((r : Int) < (s.size : Int)) = false := by simp; omega
            have e3 : decide (r < s.size) = false := by simp; omega
            clear hr hrs
            go_enter Tryd.func24, Tryd.ntmps24
            go_wp2_with fail
            refine (rdigits_any _ _ (by assumption)).mono ?_
            rintro e w' ⟨rfl, rfl⟩
            rw [← HR.out]
            go_wp2_with fail
            clear h0
            go_loop [4, 5] (fun v i => ∃ k n : Nat, k ≤ s.size ∧ n < 1000000 ∧ i = .int .i64 k ∧ v = .int .i64 n ∧ decF 0 (s.data.toList.take k) = n) (fun _ i => s.size - (intOf i).toNat)
            case atStart => exact ⟨0, 0, Nat.zero_le _, by omega, rfl, rfl, rfl⟩
            case round =>
              obtain ⟨k, n, hk, hn, rfl, rfl, hok⟩ := hrel
              have HOK := Lib.hid hok
              clear hok
              by_cases hlt : k < s.size
              · obtain ⟨hd1, hd2⟩ := dig_bd HG.out.2 hlt
                obtain ⟨m, hm⟩ : ∃ m : Nat, m = n * 10 + (s[k].toNat - 48) := ⟨_, rfl⟩
                have HN := Lib.hid (show decF 0 (s.data.toList.take (k + 1)) = m by rw [dec_step hlt, HOK.out, hm])
                have HMI := Lib.hid (show (m : Int) = 10 * (n : Int) + ((s[k].toNat : Int) - 48) by omega)
                have hm6 : m < 1000000 := by have := dec_take HG.out.2 h6 (k + 1); rw [HN.out] at this; exact this
                clear hm
                go_wp2
                go_round
                case rel => exact ⟨k + 1, m, by omega, hm6, by go_num, by rw [HMI.out], HN.out⟩
                case measure => simp [intOf]; omega
              · go_wp2
                go_ret2
                have HT := Lib.hid (show numV s.data.toList = ((n : Int), true) by rw [HG.out.1, ← HOK.out, takeAll (by omega)])
                exact num_post HT.out (Below.refl _ _)
        · have HG := Lib.hid (num_good hpos h6 (by omega) (fun h => absurd h h48))
          have e4 : ((s[0].toNat : Int) == 48) = false := by simpa using h48
          have e1 : ((r : Int) != (s.size : Int)) = false := by simp; omega
          have e2 : decide ((r : Int) < (s.size : Int)) = false := by simp; omega
          have e3 : decide (r < s.size) = false := by simp; omega
          clear hr hrs h48
          go_enter Tryd.func24, Tryd.ntmps24
          go_wp2_with fail
          refine (rdigits_any _ _ (by assumption)).mono ?_
          rintro e w' ⟨rfl, rfl⟩
          rw [← HR.out]
          go_wp2_with fail
          clear h0
          go_loop [4, 5] (fun v i => ∃ k n : Nat, k ≤ s.size ∧ n < 1000000 ∧ i = .int .i64 k ∧ v = .int .i64 n ∧ decF 0 (s.data.toList.take k) = n) (fun _ i => s.size - (intOf i).toNat)
          case atStart => exact ⟨0, 0, Nat.zero_le _, by omega, rfl, rfl, rfl⟩
          case round =>
            obtain ⟨k, n, hk, hn, rfl, rfl, hok⟩ := hrel
            have HOK := Lib.hid hok
            clear hok
            by_cases hlt : k < s.size
            · obtain ⟨hd1, hd2⟩ := dig_bd HG.out.2 hlt
              obtain ⟨m, hm⟩ : ∃ m : Nat, m = n * 10 + (s[k].toNat - 48) := ⟨_, rfl⟩
              have HN := Lib.hid (show decF 0 (s.data.toList.take (k + 1)) = m by rw [dec_step hlt, HOK.out, hm])
              have HMI := Lib.hid (show (m : Int) = 10 * (n : Int) + ((s[k].toNat : Int) - 48) by omega)
              have hm6 : m < 1000000 := by have := dec_take HG.out.2 h6 (k + 1); rw [HN.out] at this; exact this
              clear hm
              go_wp2
              go_round
              case rel => exact ⟨k + 1, m, by omega, hm6, by go_num, by rw [HMI.out], HN.out⟩
              case measure => simp [intOf]; omega
            · go_wp2
              go_ret2
              have HT := Lib.hid (show numV s.data.toList = ((n : Int), true) by rw [HG.out.1, ← HOK.out, takeAll (by omega)])
              exact num_post HT.out (Below.refl _ _)
      · have HE := Lib.hid (num_other (by rw [← hr]; exact hrs))
        have e1 : ((r : Int) != (s.size : Int)) = true := by simp; omega
        have e2 : decide ((r : Int) < (s.size : Int)) = true := by simp; omega
        have e3 : decide (r < s.size) = true := by simp; omega
        clear h0 hr hrs
        go_enter Tryd.func24, Tryd.ntmps24
        go_wp2_with fail
        refine (rdigits_any _ _ (by assumption)).mono ?_
        rintro e w' ⟨rfl, rfl⟩
        rw [← HR.out]
        go_wp2_with fail
        go_ret2
        exact num_post HE.out (Below.refl _ _)
end Go.Proofs.YtngkhggofjeflaaDoor
