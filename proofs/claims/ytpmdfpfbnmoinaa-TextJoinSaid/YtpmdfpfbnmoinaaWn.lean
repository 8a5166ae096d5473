/- Contract of the reference's Join. -/
import Derived.Test.YtpmdfpfbnmoinaaWm
namespace Go.Proofs.Ytpmdfpfbnmoinaa
open Go.RowKit
set_option linter.unusedVariables false

theorem cat_sep (o : ByteArray) : (o ++ (⟨#[32]⟩ : ByteArray)).data.toList = o.data.toList ++ [32] := by simp
theorem cat_any (o x : ByteArray) : (o ++ x).data.toList = o.data.toList ++ x.data.toList := by simp
theorem of_list {o : ByteArray} {l : List UInt8} (h : o.data.toList = l) : o = ⟨l.toArray⟩ := by
  subst h; rfl
set_option maxHeartbeats 2000000 in
theorem rjoin_any (n c : Nat) (f : Nat → ByteArray) (A : Option Addr) (w : World) (hn : n ≤ 60) (hnc : n ≤ c) (hA : StrArg w A n f) (hl : (joinF (lists f) n).length ≤ 500) :
    Calls Try.prog 22 #[.slice A n c] w (JoinPost (lists f) n w) := by
  by_cases h0 : 0 < n
  · obtain ⟨b, off, rfl, hlt0, hcc⟩ := hA.2 h0
    have HC := Lib.hid hcc
    have HA := Lib.hid hA.1
    clear hA hcc
    go_enter Try.func22, Try.ntmps22
    go_wp2
    go_loop [4] (fun i => ∃ k : Nat, k ≤ n ∧ i = .int .i64 k ∧ jst (lists f) k = 0) (fun i => n - (intOf i).toNat)
    case atStart => exact ⟨0, Nat.zero_le _, rfl, rfl⟩
    case round =>
      obtain ⟨k, hk, rfl, hj⟩ := hrel
      have HJ := Lib.hid hj
      clear hj
      by_cases hlt : k < n
      · have hc := HC.out k hlt
        have hz := HA.out k hlt
        obtain ⟨x, hx⟩ : ∃ x, x = f k := ⟨_, rfl⟩
        rw [← hx] at hc hz
        have HX := Lib.hid hx
        clear hx
        by_cases hx0 : x.size = 0
        · have HE := Lib.hid (joinVal_err (jst_stop hlt HJ.out (err1_empty (show lists f k = [] by unfold lists; rw [← HX.out]; exact empty_of hx0)) (by omega)) (by omega))
          have hx1 : x.toList = [] := by rw [ByteArray.toList_eq]; exact empty_of hx0
          have hx2 : x.toList.isEmpty = true := by rw [hx1]; rfl
          clear hx0 hx1
          go_wp2
          go_ret2
          exact join_post HE.out rfl (Below.refl _ _)
        · have hx2 : x.toList.isEmpty = false := by
            rw [ByteArray.toList_eq]
            cases e : x.data.toList with
            | nil => exact absurd e (nonempty_of hx0)
            | cons => rfl
          have HX0 := Lib.hid (nonempty_of hx0)
          clear hx0
          go_wp2
          go_loop [5] (fun i => ∃ m : Nat, m ≤ x.size ∧ i = .int .i64 m ∧ allLtr (x.data.toList.take m) = true) (fun i => x.size - (intOf i).toNat)
          case atStart => exact ⟨0, Nat.zero_le _, rfl, rfl⟩
          case round =>
            obtain ⟨m, hm, rfl, hok⟩ := hrel
            have HOK := Lib.hid hok
            clear hok
            by_cases hlt2 : m < x.size
            · have hb : (x[m].toNat : Int) ≤ 255 := by have := x[m].toNat_lt; omega
              cases hi : ltr (x[m].toNat : Int) with
              | true =>
                have HI := Lib.hid hi
                clear hi
                go_wp2_with (go_at_call 27; refine (rletter_any _ _ (by omega) (by omega)).mono ?_; rintro e w' ⟨rfl, rfl⟩; rw [HI.out])
                go_round
                case rel => exact ⟨m + 1, by omega, by go_num, all_step hlt2 HOK.out HI.out⟩
                case measure => simp [intOf]; omega
              | false =>
                have HI := Lib.hid hi
                have HE := Lib.hid (joinVal_err (jst_stop hlt HJ.out (err1_bad (show lists f k ≠ [] by unfold lists; rw [← HX.out]; exact HX0.out) (by unfold lists; rw [← HX.out]; exact all_no hlt2 hi)) (by omega)) (by omega))
                clear hi
                go_wp2_with (go_at_call 27; refine (rletter_any _ _ (by omega) (by omega)).mono ?_; rintro e w' ⟨rfl, rfl⟩; rw [HI.out])
                go_ret2
                exact join_post HE.out rfl (Below.refl _ _)
            · have HJ2 := Lib.hid (show jst (lists f) (k + 1) = 0 by rw [jst_step HJ.out]; exact err1_ok (by unfold lists; rw [← HX.out]; exact HX0.out) (by unfold lists; rw [← HX.out]; exact all_end (by omega) HOK.out))
              go_wp2
              go_round
              case rel => exact ⟨k + 1, by omega, by go_num, HJ2.out⟩
              case measure => simp [intOf]; omega
      · obtain rfl : k = n := by omega
        go_wp2
        go_loop [6, 7] (fun v i => ∃ (m : Nat) (o : ByteArray), m ≤ k ∧ i = .int .i64 m ∧ v = .string o ∧ o.data.toList = joinF (lists f) m) (fun _ i => k - (intOf i).toNat)
        case atStart => exact ⟨0, ⟨#[]⟩, Nat.zero_le _, rfl, rfl, rfl⟩
        case round =>
          obtain ⟨m, o, hm, rfl, rfl, ho⟩ := hrel
          have hos : o.size = (joinF (lists f) m).length := by rw [← ho]; rfl
          have hmo := joinF_mono (lists f) hm
          have ho5 : o.size ≤ 500 := by omega
          have HO := Lib.hid ho
          have HOS := Lib.hid hos
          clear ho hos hmo
          by_cases hbig : 120 < o.size
          · have HE := Lib.hid (joinVal_big HJ.out (by have := joinF_mono (lists f) hm; have := HOS.out; omega))
            by_cases hmk : m < k
            · go_wp2
              go_ret2
              exact join_post HE.out rfl (Below.refl _ _)
            · go_wp2
              go_ret2
              exact join_post HE.out rfl (Below.refl _ _)
          · by_cases hmk : m < k
            · have hc := HC.out m hmk
              have hz := HA.out m hmk
              obtain ⟨x, hx⟩ : ∃ x, x = f m := ⟨_, rfl⟩
              rw [← hx] at hc hz
              have HX := Lib.hid hx
              have hlx : lists f m = x.data.toList := by unfold lists; rw [hx]
              have HLX := Lib.hid hlx
              clear hx hlx
              by_cases hm0 : 0 < m
              · have HN := Lib.hid (show ((o ++ (⟨#[32]⟩ : ByteArray)) ++ x).data.toList = joinF (lists f) (m + 1) by rw [cat_any, cat_sep, HO.out, joinF, if_pos hm0, HLX.out])
                have ha1 : ∀ w : World, (Op.stringOp .add o (⟨#[32]⟩ : ByteArray)).run Try.prog w = .ok (.string (o ++ (⟨#[32]⟩ : ByteArray))) w := fun w => run_string_add_sum w o ⟨#[32]⟩ (by show o.size + 1 ≤ _; omega)
                have ha2 : ∀ w : World, (Op.stringOp .add (o ++ (⟨#[32]⟩ : ByteArray)) x).run Try.prog w = .ok (.string ((o ++ (⟨#[32]⟩ : ByteArray)) ++ x)) w := fun w => run_string_add_sum w (o ++ (⟨#[32]⟩ : ByteArray)) x (by rw [ByteArray.size_append]; show o.size + 1 + x.size ≤ _; omega)
                go_wp2
                go_round
                case rel => exact ⟨m + 1, _, by omega, by go_num, rfl, HN.out⟩
                case measure => simp [intOf]; omega
              · have HN := Lib.hid (show (o ++ x).data.toList = joinF (lists f) (m + 1) by rw [cat_any, HO.out, joinF, if_neg hm0, HLX.out]; simp)
                have ha2 : ∀ w : World, (Op.stringOp .add o x).run Try.prog w = .ok (.string (o ++ x)) w := fun w => run_string_add_sum w o x (by omega)
                go_wp2
                go_round
                case rel => exact ⟨m + 1, _, by omega, by go_num, rfl, HN.out⟩
                case measure => simp [intOf]; omega
            · obtain rfl : m = k := by omega
              have HE := Lib.hid (joinVal_ok HJ.out (by rw [← HOS.out]; exact hbig))
              go_wp2
              go_ret2
              exact join_post HE.out (of_list HO.out) (Below.refl _ _)
  · obtain rfl : n = 0 := by omega
    go_enter Try.func22, Try.ntmps22
    go_wp2
    refine wp_loop_rounds 1 ?_
    rw [rounds_succ]
    go_wp2
    refine wp_loop_rounds 1 ?_
    rw [rounds_succ]
    go_wp2
    go_ret2
    exact join_post (x := []) (i := 0) rfl rfl (Below.refl _ _)
end Go.Proofs.Ytpmdfpfbnmoinaa
