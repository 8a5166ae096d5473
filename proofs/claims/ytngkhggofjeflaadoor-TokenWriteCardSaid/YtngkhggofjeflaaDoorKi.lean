/- Contracts on one token: isToken, written, and the reference's Right. -/
import Derived.Test.YtngkhggofjeflaaDoorKh
namespace Go.Proofs.YtngkhggofjeflaaDoor
open Go.RowKit
set_option linter.unusedVariables false
set_option maxRecDepth 100000

theorem right_1 (t : List UInt8) : rightT 1 t = nameB t := rfl
theorem right_2 (t : List UInt8) : rightT 2 t = numB t := rfl
theorem right_3 (t : List UInt8) : rightT 3 t = quoB t := rfl
theorem right_4 (t : List UInt8) : rightT 4 t = sigB t := rfl
theorem right_no {k : Int} (t : List UInt8) (h1 : k ≠ 1) (h2 : k ≠ 2) (h3 : k ≠ 3) (h4 : k ≠ 4) : rightT k t = false := by
  unfold rightT; rw [if_neg h1, if_neg h2, if_neg h3, if_neg h4]
theorem numV_snd (l : List UInt8) : (numV l).2 = numB l := by unfold numV; split <;> simp_all
theorem quoV_snd (l : List UInt8) : decide ((quoV l).2 = 0) = quoB l := by
  unfold quoV quoB
  by_cases h : 60 < l.length
  · rw [if_pos h, decide_eq_false (show ¬ l.length ≤ 60 by omega)]; rfl
  · rw [if_neg h, decide_eq_true (show l.length ≤ 60 by omega)]
    cases l.all isQu <;> rfl
theorem sig_one {s : ByteArray} (h0 : 0 < s.size) (h : s.size = 1) : sigB s.data.toList = sgI (s[0].toNat : Int) := by
  have e : s.data.toList = [s[0]] := by
    rw [split0 h0, dropE (by omega)]
  rw [sg_int]
  conv => lhs; rw [e]
  rfl
theorem sig_not {s : ByteArray} (h : ¬ s.size = 1) : sigB s.data.toList = false := by
  have hl : s.data.toList.length ≠ 1 := by rw [sizeB]; exact h
  match e : s.data.toList, hl with
  | [], _ => rfl
  | [c], hl => simp at hl
  | c :: d :: r, _ => rfl

set_option maxHeartbeats 1000000 in
theorem istok_any_1 (l : Int) (x : ByteArray) (w : World) (hx : x.size ≤ maxLen) :
    Calls Tryd.prog 38 #[.agg #[.int .i64 1, .string x, .int .i64 l]] w fun e w' => e = .returned (.bool (rightT 1 x.data.toList)) ∧ Below w.heap.size w w' := by
  go_enter Tryd.func38, Tryd.ntmps38
  go_wp2_with fail
  refine (isname_any _ _ hx).mono ?_
  rintro e w' ⟨rfl, rfl⟩
  go_wp2_with fail
  go_ret
  exact ⟨ret_bool (right_1 _).symm, bnew _ _⟩
set_option maxHeartbeats 1000000 in
theorem istok_any_2 (l : Int) (x : ByteArray) (w : World) (hx : x.size ≤ maxLen) :
    Calls Tryd.prog 38 #[.agg #[.int .i64 2, .string x, .int .i64 l]] w fun e w' => e = .returned (.bool (rightT 2 x.data.toList)) ∧ Below w.heap.size w w' := by
  go_enter Tryd.func38, Tryd.ntmps38
  go_wp2_with fail
  refine (number_any _ _ hx).mono ?_
  rintro e w1 ⟨rfl, hb1⟩
  go_wp2_with fail
  go_ret
  exact ⟨ret_bool (by rw [right_2, numV_snd]), btwo (bnew _ _) hb1⟩
set_option maxHeartbeats 1000000 in
theorem istok_any_3 (l : Int) (x : ByteArray) (w : World) (hx : x.size ≤ maxLen) :
    Calls Tryd.prog 38 #[.agg #[.int .i64 3, .string x, .int .i64 l]] w fun e w' => e = .returned (.bool (rightT 3 x.data.toList)) ∧ Below w.heap.size w w' := by
  go_enter Tryd.func38, Tryd.ntmps38
  go_wp2_with fail
  refine (quote_any _ _ hx).mono ?_
  rintro e w' ⟨rfl, rfl⟩
  go_wp2_with fail
  go_ret
  exact ⟨ret_bool (by rw [right_3, ← quoV_snd, Bool.eq_iff_iff]; simp), bnew _ _⟩
set_option maxHeartbeats 1000000 in
theorem istok_any_4 (l : Int) (x : ByteArray) (w : World) (hx : x.size ≤ maxLen) :
    Calls Tryd.prog 38 #[.agg #[.int .i64 4, .string x, .int .i64 l]] w fun e w' => e = .returned (.bool (rightT 4 x.data.toList)) ∧ Below w.heap.size w w' := by
  by_cases h1 : x.size = 1
  · have h0 : 0 < x.size := by omega
    have HS := Lib.hid (sig_one h0 h1)
    have hb0 : (x[0].toNat : Int) ≤ 255 := by have := x[0].toNat_lt; omega
    have e1 : ((x.size : Int) == 1) = true := by simp; omega
    have HX := Lib.hid h1
    clear h1
    go_enter Tryd.func38, Tryd.ntmps38
    go_wp2_with fail
    refine (sign_any _ _ (by omega) (by omega)).mono ?_
    rintro e w' ⟨rfl, rfl⟩
    go_wp2_with fail
    go_ret
    exact ⟨ret_bool (by rw [right_4, HS.out]), bnew _ _⟩
  · have HS := Lib.hid (sig_not h1)
    have e1 : ((x.size : Int) == 1) = false := by simp; omega
    clear h1
    go_enter Tryd.func38, Tryd.ntmps38
    go_wp2_with fail
    go_ret
    exact ⟨ret_bool (by rw [right_4, HS.out]), bnew _ _⟩
set_option maxHeartbeats 1000000 in
theorem istok_any (k l : Int) (x : ByteArray) (w : World) (hx : x.size ≤ maxLen) :
    Calls Tryd.prog 38 #[.agg #[.int .i64 k, .string x, .int .i64 l]] w fun e w' => e = .returned (.bool (rightT k x.data.toList)) ∧ Below w.heap.size w w' := by
  by_cases h1 : k = 1
  · subst h1; exact istok_any_1 l x w hx
  · by_cases h2 : k = 2
    · subst h2; exact istok_any_2 l x w hx
    · by_cases h3 : k = 3
      · subst h3; exact istok_any_3 l x w hx
      · by_cases h4 : k = 4
        · subst h4; exact istok_any_4 l x w hx
        · have HN := Lib.hid (right_no x.data.toList h1 h2 h3 h4)
          have e1 : (k == 1) = false := by simpa using h1
          have e2 : (k == 2) = false := by simpa using h2
          have e3 : (k == 3) = false := by simpa using h3
          have e4 : (k == 4) = false := by simpa using h4
          clear h1 h2 h3 h4
          go_enter Tryd.func38, Tryd.ntmps38
          go_wp2_with fail
          go_ret
          exact ⟨ret_bool (by rw [HN.out]), bnew _ _⟩

set_option maxHeartbeats 1000000 in
theorem rright_any_1 (l : Int) (x : ByteArray) (w : World) (hx : x.size ≤ maxLen) :
    Calls Tryd.prog 41 #[.agg #[.int .i64 1, .string x, .int .i64 l]] w fun e w' => e = .returned (.bool (rightT 1 x.data.toList)) ∧ Below w.heap.size w w' := by
  go_enter Tryd.func41, Tryd.ntmps41
  go_wp2_with fail
  refine (risname_any _ _ hx).mono ?_
  rintro e w' ⟨rfl, rfl⟩
  go_wp2_with fail
  go_ret
  exact ⟨ret_bool (right_1 _).symm, bnew _ _⟩
set_option maxHeartbeats 1000000 in
theorem rright_any_2 (l : Int) (x : ByteArray) (w : World) (hx : x.size ≤ maxLen) :
    Calls Tryd.prog 41 #[.agg #[.int .i64 2, .string x, .int .i64 l]] w fun e w' => e = .returned (.bool (rightT 2 x.data.toList)) ∧ Below w.heap.size w w' := by
  go_enter Tryd.func41, Tryd.ntmps41
  go_wp2_with fail
  refine (rnumber_any _ _ hx).mono ?_
  rintro e w1 ⟨rfl, hb1⟩
  go_wp2_with fail
  go_ret
  exact ⟨ret_bool (by rw [right_2, numV_snd]), btwo (bnew _ _) hb1⟩
set_option maxHeartbeats 1000000 in
theorem rright_any_3 (l : Int) (x : ByteArray) (w : World) (hx : x.size ≤ maxLen) :
    Calls Tryd.prog 41 #[.agg #[.int .i64 3, .string x, .int .i64 l]] w fun e w' => e = .returned (.bool (rightT 3 x.data.toList)) ∧ Below w.heap.size w w' := by
  go_enter Tryd.func41, Tryd.ntmps41
  go_wp2_with fail
  refine (rquote_any _ _ hx).mono ?_
  rintro e w' ⟨rfl, rfl⟩
  go_wp2_with fail
  go_ret
  exact ⟨ret_bool (by rw [right_3, ← quoV_snd, Bool.eq_iff_iff]; simp), bnew _ _⟩
set_option maxHeartbeats 1000000 in
theorem rright_any_4 (l : Int) (x : ByteArray) (w : World) (hx : x.size ≤ maxLen) :
    Calls Tryd.prog 41 #[.agg #[.int .i64 4, .string x, .int .i64 l]] w fun e w' => e = .returned (.bool (rightT 4 x.data.toList)) ∧ Below w.heap.size w w' := by
  by_cases h1 : x.size = 1
  · have h0 : 0 < x.size := by omega
    have HS := Lib.hid (sig_one h0 h1)
    have hb0 : (x[0].toNat : Int) ≤ 255 := by have := x[0].toNat_lt; omega
    have e1 : ((x.size : Int) == 1) = true := by simp; omega
    have HX := Lib.hid h1
    clear h1
    go_enter Tryd.func41, Tryd.ntmps41
    go_wp2_with fail
    refine (rsign_any _ _ (by omega) (by omega)).mono ?_
    rintro e w' ⟨rfl, rfl⟩
    go_wp2_with fail
    go_ret
    exact ⟨ret_bool (by rw [right_4, HS.out]), bnew _ _⟩
  · have HS := Lib.hid (sig_not h1)
    have e1 : ((x.size : Int) == 1) = false := by simp; omega
    clear h1
    go_enter Tryd.func41, Tryd.ntmps41
    go_wp2_with fail
    go_ret
    exact ⟨ret_bool (by rw [right_4, HS.out]), bnew _ _⟩
set_option maxHeartbeats 1000000 in
theorem rright_any (k l : Int) (x : ByteArray) (w : World) (hx : x.size ≤ maxLen) :
    Calls Tryd.prog 41 #[.agg #[.int .i64 k, .string x, .int .i64 l]] w fun e w' => e = .returned (.bool (rightT k x.data.toList)) ∧ Below w.heap.size w w' := by
  by_cases h1 : k = 1
  · subst h1; exact rright_any_1 l x w hx
  · by_cases h2 : k = 2
    · subst h2; exact rright_any_2 l x w hx
    · by_cases h3 : k = 3
      · subst h3; exact rright_any_3 l x w hx
      · by_cases h4 : k = 4
        · subst h4; exact rright_any_4 l x w hx
        · have HN := Lib.hid (right_no x.data.toList h1 h2 h3 h4)
          have e1 : (k == 1) = false := by simpa using h1
          have e2 : (k == 2) = false := by simpa using h2
          have e3 : (k == 3) = false := by simpa using h3
          have e4 : (k == 4) = false := by simpa using h4
          clear h1 h2 h3 h4
          go_enter Tryd.func41, Tryd.ntmps41
          go_wp2_with fail
          go_ret
          exact ⟨ret_bool (by rw [HN.out]), bnew _ _⟩

set_option maxHeartbeats 1000000 in
theorem written_any (k l : Int) (x : ByteArray) (w : World) (hx : x.size ≤ 1000000) :
    Calls Tryd.prog 39 #[.agg #[.int .i64 k, .string x, .int .i64 l]] w fun e w' => e = .returned (.string (bs (wrT k x.data.toList))) ∧ Below w.heap.size w w' := by
  by_cases h3 : k = 3
  · subst h3
    have s1 : ∀ w : World, (Op.stringOp .add (⟨#[34]⟩ : ByteArray) x).run Tryd.prog w = .ok (.string ((⟨#[34]⟩ : ByteArray) ++ x)) w := fun w => run_string_add_sum w _ _ (by show 1 + x.size ≤ _; omega)
    have s2 : ∀ w : World, (Op.stringOp .add ((⟨#[34]⟩ : ByteArray) ++ x) (⟨#[34]⟩ : ByteArray)).run Tryd.prog w = .ok (.string (((⟨#[34]⟩ : ByteArray) ++ x) ++ (⟨#[34]⟩ : ByteArray))) w := fun w => run_string_add_sum w _ _ (by rw [ByteArray.size_append]; show 1 + x.size + 1 ≤ _; omega)
    have HW := Lib.hid (show (((⟨#[34]⟩ : ByteArray) ++ x) ++ (⟨#[34]⟩ : ByteArray)) = bs (wrT 3 x.data.toList) from of_list (quo_cat x))
    go_enter Tryd.func39, Tryd.ntmps39
    go_wp2
    go_ret
    exact ⟨congrArg (fun b => Ending.returned (Value.string b)) HW.out, bnew _ _⟩
  · have e3 : (k == 3) = false := by simpa using h3
    have HW := Lib.hid (show x = bs (wrT k x.data.toList) from of_list (by unfold wrT; rw [if_neg h3]))
    clear h3
    go_enter Tryd.func39, Tryd.ntmps39
    go_wp2
    go_ret
    exact ⟨congrArg (fun b => Ending.returned (Value.string b)) HW.out, bnew _ _⟩
end Go.Proofs.YtngkhggofjeflaaDoor
