/- Contracts of the reference's Match, Meet and Join. -/
import Derived.Test.YtlkigmlgbnlkaaaDoorPc
namespace Go.Proofs.YtlkigmlgbnlkaaaDoor
open Go.RowKit
set_option linter.unusedVariables false

theorem match_err {p q : List UInt8} {x : Int} (h : pairErr p q = x) (h0 : x ≠ 0) : matchV p q = false := by unfold matchV; rw [meet_err h h0]; simp [h0]
theorem match_no {p q : List UInt8} (h : pairErr p q = 0) (h1 : agL p q = false) : matchV p q = false := by unfold matchV; rw [meet_no h h1]; rfl
theorem match_yes {p q : List UInt8} (h : pairErr p q = 0) (h1 : agL p q = true) : matchV p q = true := by unfold matchV; rw [meet_ok h h1]; rfl
theorem zip_take {F : UInt8 → UInt8 → UInt8} {p q : ByteArray} {k : Nat} (h1 : k < p.size) (h2 : k < q.size) :
    (List.zipWith F p.data.toList q.data.toList).take (k + 1) = (List.zipWith F p.data.toList q.data.toList).take k ++ [F p[k] q[k]] := by
  rw [List.take_succ_eq_append_getElem (by simp; exact Nat.lt_min.2 ⟨h1, h2⟩)]; simp [getB]
theorem zip_all {F : UInt8 → UInt8 → UInt8} {p q : ByteArray} {k : Nat} (h1 : p.size ≤ k) : (List.zipWith F p.data.toList q.data.toList).take k = List.zipWith F p.data.toList q.data.toList :=
  List.take_of_length_le (by simp; omega)
theorem one_byte {s : ByteArray} {k : Nat} (h : k < s.size) : (s.extract k (k + 1)).data.toList = [s[k]] := by
  rw [ByteArray.data_extract, Array.toList_extract, List.extract_eq_take_drop, dropS h, show k + 1 - k = 1 from by omega]
  rfl

set_option maxHeartbeats 1000000 in
theorem rmatch_any (p q : ByteArray) (w : World) (hp : p.size ≤ maxLen) (hq : q.size ≤ maxLen) :
    Calls Tryd.prog 29 #[.string p, .string q] w fun e w' => e = .returned (.bool (matchV p.data.toList q.data.toList)) ∧ ∃ n, w' = w.drewN n := by
  rcases pErr_val p.data.toList with h0 | h0 | h0
  · rcases pErr_val q.data.toList with h1 | h1 | h1
    · have H0 := Lib.hid h0
      have H1 := Lib.hid h1
      by_cases hl : p.size = q.size
      · have HE := Lib.hid (pair_ok h0 h1 hl)
        have HPQ := Lib.hid hl
        have hs60 : p.size ≤ 60 := (pErr_zero h0).1
        have hl1 : ((p.size : Int) == (q.size : Int)) = true := by simp; omega
        have hl2 : ((p.size : Int) != (q.size : Int)) = false := by simp; omega
        clear h0 h1 hl
        go_enter Tryd.func29, Tryd.ntmps29
        go_wp2_with (go_at_call 17; refine (rvalid_any _ _ (by assumption)).mono ?_; rintro e w' ⟨rfl, rfl⟩; first | rw [H0.out] | rw [H1.out])
        go_loopw [5] (fun i wr => ∃ k : Nat, k ≤ p.size ∧ i = .int .i64 (k : Int) ∧ (∀ j, j < k → agI (bt p.data.toList j) (bt q.data.toList j) = true) ∧ ∃ n, wr = w.drewN n) (fun i _ => p.size - (intOf i).toNat)
        case atStart => exact ⟨0, Nat.zero_le _, rfl, fun j hj => by omega, 0, rfl⟩
        case round =>
          obtain ⟨k, hk, rfl, hag, nd, rfl⟩ := hrel
          have HAG := Lib.hid hag
          clear hag
          by_cases hlt : k < p.size
          · have hltq : k < q.size := by have := HPQ.out; omega
            have HPB := Lib.hid (bt_at hlt)
            have HQB := Lib.hid (bt_at hltq)
            cases ha : agI (p[k].toNat : Int) (q[k].toNat : Int) with
            | false =>
              have HM := Lib.hid (match_no HE.out (agL_no (j := k) (by rw [HPB.out, HQB.out]; exact ha) (by rw [sizeB]; exact hlt) (by rw [sizeB]; exact hltq)))
              have e1 : ((p[k].toNat : Int) == (q[k].toNat : Int)) = false := by unfold agI at ha; simp at ha; simpa using ha.1.1
              have e2 : ((p[k].toNat : Int) != (q[k].toNat : Int)) = true := by unfold agI at ha; simp at ha; simpa using ha.1.1
              have e3 : ((p[k].toNat : Int) == 120) = false := by unfold agI at ha; simp at ha; simp; omega
              have e4 : ((q[k].toNat : Int) == 120) = false := by unfold agI at ha; simp at ha; simp; omega
              have e5 : ((p[k].toNat : Int) != 120) = true := by simpa using e3
              have e6 : ((q[k].toNat : Int) != 120) = true := by simpa using e4
              clear ha
              go_wp2
              go_quiet (fail)
              go_wp2
              go_ret
              exact ⟨ret_bool HM.out.symm, _, by first | rfl | exact World.drewN_drewN _ _ _⟩
            | true =>
              have HAG2 := Lib.hid (show ∀ j, j < k + 1 → agI (bt p.data.toList j) (bt q.data.toList j) = true from fun j hj => by
                by_cases e : j = k
                · subst e; rw [HPB.out, HQB.out]; exact ha
                · exact HAG.out j (by omega))
              by_cases a : (p[k].toNat : Int) = (q[k].toNat : Int)
              · have e1 : ((p[k].toNat : Int) == (q[k].toNat : Int)) = true := by simpa using a
                have e2 : ((p[k].toNat : Int) != (q[k].toNat : Int)) = false := by simp [a]
                clear ha a
                go_wp2
                go_quiet (fail)
                go_wp2
                go_roundw
                case rel => exact ⟨k + 1, by omega, by go_num, HAG2.out, _, by first | rfl | exact World.drewN_drewN _ _ _⟩
                case measure => simp [intOf]; omega
              · have e1 : ((p[k].toNat : Int) == (q[k].toNat : Int)) = false := by simpa using a
                have e2 : ((p[k].toNat : Int) != (q[k].toNat : Int)) = true := by simpa using a
                by_cases b : (p[k].toNat : Int) = 120
                · have e3 : ((p[k].toNat : Int) == 120) = true := by simpa using b
                  have e4 : ((p[k].toNat : Int) != 120) = false := by simp [b]
                  clear ha a b
                  go_wp2
                  go_quiet (fail)
                  go_wp2
                  go_roundw
                  case rel => exact ⟨k + 1, by omega, by go_num, HAG2.out, _, by first | rfl | exact World.drewN_drewN _ _ _⟩
                  case measure => simp [intOf]; omega
                · have e3 : ((p[k].toNat : Int) == 120) = false := by simpa using b
                  have e4 : ((p[k].toNat : Int) != 120) = true := by simpa using b
                  have c : (q[k].toNat : Int) = 120 := by unfold agI at ha; simp [a, b] at ha; omega
                  have e5 : ((q[k].toNat : Int) == 120) = true := by simpa using c
                  have e6 : ((q[k].toNat : Int) != 120) = false := by simp [c]
                  clear ha a b c
                  go_wp2
                  go_quiet (fail)
                  go_wp2
                  go_roundw
                  case rel => exact ⟨k + 1, by omega, by go_num, HAG2.out, _, by first | rfl | exact World.drewN_drewN _ _ _⟩
                  case measure => simp [intOf]; omega
          · obtain rfl : k = p.size := by omega
            have HM := Lib.hid (match_yes HE.out (agL_yes (fun j hj => HAG.out j hj) HPQ.out))
            go_wp2
            go_ret
            exact ⟨ret_bool HM.out.symm, _, rfl⟩
      · have HM := Lib.hid (match_err (pair_len h0 h1 hl) (by omega))
        have hl1 : ((p.size : Int) == (q.size : Int)) = false := by simp; omega
        have hl2 : ((p.size : Int) != (q.size : Int)) = true := by simp; omega
        clear h0 h1 hl
        go_enter Tryd.func29, Tryd.ntmps29
        go_wp2_with (go_at_call 17; refine (rvalid_any _ _ (by assumption)).mono ?_; rintro e w' ⟨rfl, rfl⟩; first | rw [H0.out] | rw [H1.out])
        go_ret
        exact ⟨ret_bool HM.out.symm, 0, rfl⟩
    all_goals
      have H0 := Lib.hid h0
      have H1 := Lib.hid h1
      have HM := Lib.hid (match_err (pair_q h0 h1 (by omega)) (by omega))
      clear h0 h1
      go_enter Tryd.func29, Tryd.ntmps29
      go_wp2_with (go_at_call 17; refine (rvalid_any _ _ (by assumption)).mono ?_; rintro e w' ⟨rfl, rfl⟩; first | rw [H0.out] | rw [H1.out])
      go_ret
      exact ⟨ret_bool HM.out.symm, 0, rfl⟩
  all_goals
    have H0 := Lib.hid h0
    have HM := Lib.hid (match_err (pair_p (q := q.data.toList) h0 (by omega)) (by omega))
    clear h0
    go_enter Tryd.func29, Tryd.ntmps29
    go_wp2_with (go_at_call 17; refine (rvalid_any _ _ (by assumption)).mono ?_; rintro e w' ⟨rfl, rfl⟩; rw [H0.out])
    go_ret
    exact ⟨ret_bool HM.out.symm, 0, rfl⟩

set_option maxHeartbeats 1000000 in
theorem rmeet_any (p q : ByteArray) (w : World) (hp : p.size ≤ maxLen) (hq : q.size ≤ maxLen) :
    Calls Tryd.prog 25 #[.string p, .string q] w (MeetPost p.data.toList q.data.toList w) := by
  obtain ⟨x, hx⟩ : ∃ x, x = pairErr p.data.toList q.data.toList := ⟨_, rfl⟩
  have HX := Lib.hid hx
  by_cases hx0 : x = 0
  · subst hx0
    obtain ⟨hs, hpq⟩ := pair_size hx.symm
    have HPQ := Lib.hid hpq
    clear hx hpq
    cases hg : agL p.data.toList q.data.toList with
    | false =>
      have HM := Lib.hid (match_no HX.out.symm hg)
      have HE := Lib.hid (meet_no HX.out.symm hg)
      clear hg
      go_enter Tryd.func25, Tryd.ntmps25
      go_wp2_with (first | (go_at_call 46; refine (two_any _ _ _ (by assumption) (by assumption)).mono ?_; rintro e w' ⟨rfl, rfl⟩; rw [← HX.out]) | (go_at_call 29; refine (rmatch_any _ _ _ (by assumption) (by assumption)).mono ?_; rintro e w' ⟨rfl, nd, rfl⟩; rw [HM.out]))
      go_ret2
      exact meet_post HE.out rfl (below_drewN (Below.refl _ _) _)
    | true =>
      have HM := Lib.hid (match_yes HX.out.symm hg)
      have HE := Lib.hid (meet_ok HX.out.symm hg)
      clear hg
      go_enter Tryd.func25, Tryd.ntmps25
      go_wp2_with (first | (go_at_call 46; refine (two_any _ _ _ (by assumption) (by assumption)).mono ?_; rintro e w' ⟨rfl, rfl⟩; rw [← HX.out]) | (go_at_call 29; refine (rmatch_any _ _ _ (by assumption) (by assumption)).mono ?_; rintro e w' ⟨rfl, nd, rfl⟩; rw [HM.out]))
      go_loop [7, 8] (fun v i => ∃ (k : Nat) (o : ByteArray), k ≤ p.size ∧ i = .int .i64 (k : Int) ∧ v = .string o ∧ o.data.toList = (List.zipWith meetB p.data.toList q.data.toList).take k) (fun _ i => p.size - (intOf i).toNat)
      case atStart => exact ⟨0, ⟨#[]⟩, Nat.zero_le _, rfl, rfl, rfl⟩
      case round =>
        obtain ⟨k, o, hk, rfl, rfl, ho⟩ := hrel
        have HO := Lib.hid ho
        have hos : o.size ≤ 60 := by
          have h1 : o.size = o.data.toList.length := rfl
          rw [h1, ho, List.length_take]; omega
        clear ho
        by_cases hlt : k < p.size
        · have hltq : k < q.size := by have := HPQ.out; omega
          by_cases h120 : (p[k].toNat : Int) = 120
          · have HN := Lib.hid (show (o ++ q.extract k (k + 1)).data.toList = (List.zipWith meetB p.data.toList q.data.toList).take (k + 1) by
              rw [zip_take hlt hltq, cat_any, one_byte hltq, HO.out]; unfold meetB; rw [if_pos (int_120.1 h120)])
            have ha : ∀ w : World, (Op.stringOp .add o (q.extract k (k + 1))).run Tryd.prog w = .ok (.string (o ++ q.extract k (k + 1))) w := fun w => run_string_add_sum w o _ (by rw [ByteArray.size_extract]; omega)
            go_wp2
            go_round
            case rel => exact ⟨k + 1, _, by omega, by go_num, rfl, HN.out⟩
            case measure => simp [intOf]; omega
          · have HN := Lib.hid (show (o ++ p.extract k (k + 1)).data.toList = (List.zipWith meetB p.data.toList q.data.toList).take (k + 1) by
              rw [zip_take hlt hltq, cat_any, one_byte hlt, HO.out]; unfold meetB; rw [if_neg (fun e => h120 (int_120.2 e))])
            have ha : ∀ w : World, (Op.stringOp .add o (p.extract k (k + 1))).run Tryd.prog w = .ok (.string (o ++ p.extract k (k + 1))) w := fun w => run_string_add_sum w o _ (by rw [ByteArray.size_extract]; omega)
            go_wp2
            go_round
            case rel => exact ⟨k + 1, _, by omega, by go_num, rfl, HN.out⟩
            case measure => simp [intOf]; omega
        · go_wp2
          go_ret2
          exact meet_post HE.out (of_list (by rw [HO.out]; exact zip_all (by omega))) (below_drewN (Below.refl _ _) _)
  · have HE := Lib.hid (meet_err hx.symm hx0)
    have hxf : (x == 0) = false := by simp [hx0]
    have hxf2 : (x != 0) = true := by simp [hx0]
    clear hx0 hx
    go_enter Tryd.func25, Tryd.ntmps25
    go_wp2_with (go_at_call 46; refine (two_any _ _ _ (by assumption) (by assumption)).mono ?_; rintro e w' ⟨rfl, rfl⟩; rw [← HX.out])
    go_ret2
    exact meet_post HE.out rfl (Below.refl _ _)

set_option maxHeartbeats 1000000 in
theorem rjoin_any (p q : ByteArray) (w : World) (hp : p.size ≤ maxLen) (hq : q.size ≤ maxLen) :
    Calls Tryd.prog 27 #[.string p, .string q] w (JoinPost p.data.toList q.data.toList w) := by
  obtain ⟨x, hx⟩ : ∃ x, x = pairErr p.data.toList q.data.toList := ⟨_, rfl⟩
  have HX := Lib.hid hx
  by_cases hx0 : x = 0
  · subst hx0
    obtain ⟨hs, hpq⟩ := pair_size hx.symm
    have HPQ := Lib.hid hpq
    have HE := Lib.hid (join_ok hx.symm)
    clear hx hpq
    go_enter Tryd.func27, Tryd.ntmps27
    go_wp2_with (go_at_call 46; refine (two_any _ _ _ (by assumption) (by assumption)).mono ?_; rintro e w' ⟨rfl, rfl⟩; rw [← HX.out])
    go_loopw [7, 8] (fun v i wr => ∃ (k : Nat) (o : ByteArray), k ≤ p.size ∧ i = .int .i64 (k : Int) ∧ v = .string o ∧ o.data.toList = (List.zipWith joinB p.data.toList q.data.toList).take k ∧ ∃ n, wr = w.drewN n) (fun _ i _ => p.size - (intOf i).toNat)
    case atStart => exact ⟨0, ⟨#[]⟩, Nat.zero_le _, rfl, rfl, rfl, 0, rfl⟩
    case round =>
      obtain ⟨k, o, hk, rfl, rfl, ho, nd, rfl⟩ := hrel
      have HO := Lib.hid ho
      have hos : o.size ≤ 60 := by
        have h1 : o.size = o.data.toList.length := rfl
        rw [h1, ho, List.length_take]; omega
      clear ho
      by_cases hlt : k < p.size
      · have hltq : k < q.size := by have := HPQ.out; omega
        by_cases a : (p[k].toNat : Int) = (q[k].toNat : Int)
        · have HN := Lib.hid (show (o ++ p.extract k (k + 1)).data.toList = (List.zipWith joinB p.data.toList q.data.toList).take (k + 1) by
            rw [zip_take hlt hltq, cat_any, one_byte hlt, HO.out]; unfold joinB; rw [if_pos (int_eq.1 a)])
          have ha : ∀ w : World, (Op.stringOp .add o (p.extract k (k + 1))).run Tryd.prog w = .ok (.string (o ++ p.extract k (k + 1))) w := fun w => run_string_add_sum w o _ (by rw [ByteArray.size_extract]; omega)
          have e1 : ((p[k].toNat : Int) == (q[k].toNat : Int)) = true := by simpa using a
          clear a
          go_wp2
          go_quiet (fail)
          go_wp2
          go_roundw
          case rel => exact ⟨k + 1, _, by omega, by go_num, rfl, HN.out, _, by first | rfl | exact World.drewN_drewN _ _ _⟩
          case measure => simp [intOf]; omega
        · have HN := Lib.hid (show (o ++ (⟨#[120]⟩ : ByteArray)).data.toList = (List.zipWith joinB p.data.toList q.data.toList).take (k + 1) by
            rw [zip_take hlt hltq, cat_any, HO.out]; unfold joinB; rw [if_neg (fun e => a (int_eq.2 e))])
          have ha : ∀ w : World, (Op.stringOp .add o (⟨#[120]⟩ : ByteArray)).run Tryd.prog w = .ok (.string (o ++ (⟨#[120]⟩ : ByteArray))) w := fun w => run_string_add_sum w o _ (by show o.size + 1 ≤ _; omega)
          have e1 : ((p[k].toNat : Int) == (q[k].toNat : Int)) = false := by simpa using a
          clear a
          go_wp2
          go_quiet (fail)
          go_wp2
          go_roundw
          case rel => exact ⟨k + 1, _, by omega, by go_num, rfl, HN.out, _, by first | rfl | exact World.drewN_drewN _ _ _⟩
          case measure => simp [intOf]; omega
      · go_wp2
        go_ret2
        exact join_post HE.out (of_list (by rw [HO.out]; exact zip_all (by omega))) (below_drewN (Below.refl _ _) _)
  · have HE := Lib.hid (join_err hx.symm hx0)
    have hxf : (x == 0) = false := by simp [hx0]
    have hxf2 : (x != 0) = true := by simp [hx0]
    clear hx0 hx
    go_enter Tryd.func27, Tryd.ntmps27
    go_wp2_with (go_at_call 46; refine (two_any _ _ _ (by assumption) (by assumption)).mono ?_; rintro e w' ⟨rfl, rfl⟩; rw [← HX.out])
    go_ret2
    exact join_post HE.out rfl (Below.refl _ _)
end Go.Proofs.YtlkigmlgbnlkaaaDoor
