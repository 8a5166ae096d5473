/- What the statement about punctuation answers: true, whatever the input. -/
import Derived.Test.YtpmdfpfbnmoinaaDoorWy
namespace Go.Proofs.YtpmdfpfbnmoinaaDoor
open Go.RowKit
set_option linter.unusedVariables false

theorem rep_len (b l : List UInt8) (hb : b.length ≤ 40) : (rep b l).length ≤ l.length * 41 := by
  induction l with
  | nil => simp [rep]
  | cons c r ih =>
    unfold rep at ih ⊢
    rw [List.flatMap_cons, List.length_append]
    by_cases e : c = 32
    · rw [if_pos e]; simp at ih ⊢; omega
    · rw [if_neg e]; simp at ih ⊢; omega
theorem valid_ascii {l : List UInt8} (h : okL l = true) : ∀ (j : Nat) (b : UInt8), l[j]? = some b → b.toNat < 128 := by
  intro j b hj
  unfold okL at h
  have := List.all_eq_true.1 h b (List.mem_of_getElem? hj)
  unfold inl at this
  simp at this
  omega
theorem okL_of {l : List UInt8} (h : vErr l = 0) : okL l = true := by
  unfold vErr at h
  split at h
  · cases h
  · split at h
    · assumption
    · cases h
/-- The four ways on which the statement asks nothing. -/
def Idle (s t : ByteArray) : Prop := 40 < s.size ∨ 40 < t.size ∨ vErr s.data.toList ≠ 0 ∨ vErr t.data.toList ≠ 0
set_option maxHeartbeats 1000000 in
theorem spaced_idle (s t : ByteArray) (w : World) (w0 : s.size ≤ maxLen) (w1 : t.size ≤ maxLen) (h : Idle s t) :
    Calls Tryd.prog 5 #[.string s, .string t] w fun e w' => e = .returned (.bool true) ∧ Below w.heap.size w w' := by
  by_cases h1 : 40 < s.size
  · go_enter Tryd.func5, Tryd.ntmps5
    go_wp2_with fail
    refine (awake_any _).mono ?_
    rintro e wa ⟨rfl, hb1⟩
    go_wp2_with fail
    refine (awake_any _).mono ?_
    rintro e wb ⟨rfl, hb2⟩
    go_wp2_with fail
    go_ret
    exact ⟨rfl, btwo hb1 hb2⟩
  · by_cases h2 : 40 < t.size
    · go_enter Tryd.func5, Tryd.ntmps5
      go_wp2_with fail
      refine (awake_any _).mono ?_
      rintro e wa ⟨rfl, hb1⟩
      go_wp2_with fail
      refine (awake_any _).mono ?_
      rintro e wb ⟨rfl, hb2⟩
      go_wp2_with fail
      go_ret
      exact ⟨rfl, btwo hb1 hb2⟩
    · by_cases h3 : vErr s.data.toList = 0
      · have h4 : vErr t.data.toList ≠ 0 := by
          rcases h with h | h | h | h
          · exact absurd h h1
          · exact absurd h h2
          · exact absurd h3 h
          · exact h
        obtain ⟨x, hx⟩ : ∃ x, x = vErr t.data.toList := ⟨_, rfl⟩
        have hxf : (x == 0) = false := by rw [hx]; simp [h4]
        have hxf2 : (x != 0) = true := by rw [hx]; simp [h4]
        have HX := Lib.hid hx
        have H3 := Lib.hid h3
        clear h h3 h4 hx
        go_enter Tryd.func5, Tryd.ntmps5
        go_wp2_with fail
        refine (awake_any _).mono ?_
        rintro e wa ⟨rfl, hb1⟩
        go_wp2_with fail
        refine (rvalid_any s _ w0).mono ?_
        rintro e wb ⟨rfl, rfl⟩
        rw [H3.out]
        go_wp2_with fail
        refine (rvalid_any t _ w1).mono ?_
        rintro e wb ⟨rfl, rfl⟩
        rw [← HX.out]
        go_wp2_with fail
        refine (awake_any _).mono ?_
        rintro e wb ⟨rfl, hb2⟩
        go_wp2_with fail
        go_ret
        exact ⟨rfl, btwo hb1 hb2⟩
      · obtain ⟨x, hx⟩ : ∃ x, x = vErr s.data.toList := ⟨_, rfl⟩
        have hxf : (x == 0) = false := by rw [hx]; simp [h3]
        have hxf2 : (x != 0) = true := by rw [hx]; simp [h3]
        have HX := Lib.hid hx
        clear h h3 hx
        go_enter Tryd.func5, Tryd.ntmps5
        go_wp2_with fail
        refine (awake_any _).mono ?_
        rintro e wa ⟨rfl, hb1⟩
        go_wp2_with fail
        refine (rvalid_any s _ w0).mono ?_
        rintro e wb ⟨rfl, rfl⟩
        rw [← HX.out]
        go_wp2_with fail
        refine (awake_any _).mono ?_
        rintro e wb ⟨rfl, hb2⟩
        go_wp2_with fail
        go_ret
        exact ⟨rfl, btwo hb1 hb2⟩

set_option maxHeartbeats 2000000 in
theorem spaced_any (s t : ByteArray) (w : World) (w0 : s.size ≤ maxLen) (w1 : t.size ≤ maxLen) (hm : MaxAt w) :
    Calls Tryd.prog 5 #[.string s, .string t] w fun e w' => e = .returned (.bool true) ∧ Below w.heap.size w w' := by
  by_cases hidle : Idle s t
  · exact spaced_idle s t w w0 w1 hidle
  · unfold Idle at hidle
    have h1 : s.size ≤ 40 := by omega
    have h2 : t.size ≤ 40 := by omega
    have h3 : vErr s.data.toList = 0 := by
      by_cases e : vErr s.data.toList = 0
      · exact e
      · exact absurd (Or.inr (Or.inr (Or.inl e))) hidle
    have h4 : vErr t.data.toList = 0 := by
      by_cases e : vErr t.data.toList = 0
      · exact e
      · exact absurd (Or.inr (Or.inr (Or.inr e))) hidle
    have H3 := Lib.hid h3
    have H4 := Lib.hid h4
    have HM := Lib.hid hm
    clear hidle h3 h4 hm
    have hcv := fun w s => run_bytes_of_string (P := Tryd.prog) w 9 36 5 s Tryd.underlying9 Tryd.underlying36 Tryd.underlying5
    go_enter Tryd.func5, Tryd.ntmps5
    go_wp2_with fail
    refine (awake_any _).mono ?_
    rintro e wa ⟨rfl, hb1⟩
    have HMA := Lib.hid (MaxAt.below HM.out hb1)
    have HB1 := Lib.hid hb1
    clear hb1 HM
    go_wp2_with fail
    refine (rvalid_any s _ w0).mono ?_
    rintro e wb ⟨rfl, rfl⟩
    rw [H3.out]
    go_wp2_with fail
    refine (rvalid_any t _ w1).mono ?_
    rintro e wb ⟨rfl, rfl⟩
    rw [H4.out]
    go_wp2_with fail
    have HF := Lib.hid (frel_start t wa (grownCap wa t.size 0 5))
    have HC := Lib.hid (show ∀ j, j < t.size → ((wa.alloc (.cells (bytesRow t (grownCap wa t.size 0 5)) 5 ((bytesRow t (grownCap wa t.size 0 5)).size, (bytesRow t (grownCap wa t.size 0 5)).size + 1))).drew).cell? ⟨wa.heap.size, j, none⟩ = some (.int .u8 (bt t.data.toList j)) from
      fun j hj => by have := HF.out.2.2.1 j hj; rw [mix_zero] at this; exact this)
    have HB2 := Lib.hid (show Below wa.heap.size wa ((wa.alloc (.cells (bytesRow t (grownCap wa t.size 0 5)) 5 ((bytesRow t (grownCap wa t.size 0 5)).size, (bytesRow t (grownCap wa t.size 0 5)).size + 1))).drew) from HF.out.1)
    clear hcv HF
    generalize (wa.alloc (.cells (bytesRow t (grownCap wa t.size 0 5)) 5 ((bytesRow t (grownCap wa t.size 0 5)).size, (bytesRow t (grownCap wa t.size 0 5)).size + 1))).drew = wc at *
    generalize grownCap wa t.size 0 5 = cap at *
    refine (cont_any t.data.toList t.size wa.heap.size cap _ rfl (by omega) HC.out).mono ?_
    rintro e wd ⟨rfl, rfl⟩
    cases hh : hasL t.data.toList with
    | true =>
      go_wp2_with fail
      go_ret
      exact ⟨rfl, btwo HB1.out HB2.out⟩
    | false =>
      have HN := Lib.hid (hasL_no hh)
      clear hh
      obtain ⟨m, hm2⟩ := MaxAt.below HMA.out HB2.out
      have HM2 := Lib.hid hm2
      clear hm2 HMA HC
      obtain ⟨p, hp⟩ : ∃ p : ByteArray, p = (⟨#[32]⟩ : ByteArray) ++ t := ⟨_, rfl⟩
      have ha1 : ∀ w : World, (Op.stringOp .add (⟨#[32]⟩ : ByteArray) t).run Tryd.prog w = .ok (.string p) w := fun w => by rw [hp]; exact run_string_add_sum w ⟨#[32]⟩ t (by show 1 + t.size ≤ _; omega)
      have hpl : p.data.toList = 32 :: t.data.toList := by rw [hp]; simp
      have hps : p.size = t.size + 1 := by
        have e1 : p.size = p.data.toList.length := rfl
        rw [e1, hpl]; rfl
      obtain ⟨r, hr⟩ : ∃ r : ByteArray, r = ⟨(rep t.data.toList s.data.toList).toArray⟩ := ⟨_, rfl⟩
      have hrl : r.data.toList = rep t.data.toList s.data.toList := by rw [hr]
      have hrs : r.size ≤ 1640 := by
        have e1 : r.size = r.data.toList.length := rfl
        have e2 := rep_len t.data.toList s.data.toList (by rw [sizeB]; exact h2)
        rw [sizeB] at e2
        rw [e1, hrl]; omega
      obtain ⟨u, hu⟩ : ∃ u : ByteArray, u = ⟨(Lib.toUpperA r.data.toList).toArray⟩ := ⟨_, rfl⟩
      have hul : u.data.toList = Lib.toUpperA (rep t.data.toList s.data.toList) := by rw [hu, ← hrl]
      have hus : u.size = r.size := by
        have e1 : u.size = u.data.toList.length := rfl
        have e2 : r.size = r.data.toList.length := rfl
        rw [e1, e2, hu]; simp [Lib.toUpperA]
      have hcb : Lib.countB s ⟨#[32]⟩ ≤ s.size := Lib.countB_le ⟨#[32]⟩ (Nat.le_refl _) s.size s (Nat.le_refl _)
      have hmul : s.size + Lib.countB s ⟨#[32]⟩ * p.size ≤ 140737488355328 := by
        have e1 : Lib.countB s ⟨#[32]⟩ * p.size ≤ 40 * 41 := Nat.mul_le_mul (by omega) (by omega)
        omega
      have hra : (⟨(Lib.replaceAll s.data.toList (⟨#[32]⟩ : ByteArray).data.toList p.data.toList).toArray⟩ : ByteArray) = r := by
        rw [hr, hpl]
        exact congrArg (fun l : List UInt8 => (⟨l.toArray⟩ : ByteArray)) (replaceAll_rep t.data.toList s.data.toList)
      have hasc : ∀ (j : Nat) (b : UInt8), r.data.toList[j]? = some b → b.toNat < 128 := by
        rw [hrl]; exact valid_ascii (rep_valid (okL_of H4.out) (okL_of H3.out))
      obtain ⟨o, ho⟩ : ∃ o : ByteArray, o = (t ++ u) ++ t := ⟨_, rfl⟩
      have ha2 : ∀ w : World, (Op.stringOp .add t u).run Tryd.prog w = .ok (.string (t ++ u)) w := fun w => run_string_add_sum w t u (by omega)
      have ha3 : ∀ w : World, (Op.stringOp .add (t ++ u) t).run Tryd.prog w = .ok (.string o) w := fun w => by rw [ho]; exact run_string_add_sum w (t ++ u) t (by rw [ByteArray.size_append]; omega)
      have hol : o.data.toList = other t.data.toList s.data.toList := by rw [ho]; unfold other; rw [← hul]; simp
      have hom : o.size ≤ maxLen := by rw [ho, ByteArray.size_append, ByteArray.size_append]; unfold maxLen; omega
      have HMUL := Lib.hid hmul
      have HRA := Lib.hid hra
      have HASC := Lib.hid hasc
      have HU := Lib.hid hu
      have HOL := Lib.hid hol
      clear hp hpl hps hr hrl hu hul hus hcb hmul hra hasc ho hol
      go_wp2_with fail
      refine (Tryd.strings_ReplaceAll s ⟨#[32]⟩ p m _ (by omega) HM2.out (Nat.le_refl _) HMUL.out).mono ?_
      rintro e we ⟨rfl, hb3⟩
      have HB3 := Lib.hid (btwo (btwo HB1.out HB2.out) hb3)
      clear hb3
      rw [HRA.out]
      go_wp2_with fail
      refine (Tryd.strings_ToUpper_ascii r _ (by omega) HASC.out).mono ?_
      rintro e wf ⟨rfl, hb4⟩
      have HB4 := Lib.hid (btwo HB3.out hb4)
      clear hb4
      rw [← HU.out]
      by_cases hbig : 120 < o.size
      · go_wp2_with fail
        go_ret
        exact ⟨rfl, HB4.out⟩
      · have HS := Lib.hid (show sameL s.data.toList o.data.toList = true by
          rw [HOL.out]
          exact other_same H4.out H3.out HN.out (by rw [← HOL.out, sizeB]; omega))
        go_wp2_with fail
        refine (tsame_any s o _ w0 hom).mono ?_
        rintro e wg ⟨rfl, hb5⟩
        rw [HS.out]
        go_wp2_with fail
        go_ret
        exact ⟨rfl, btwo HB4.out hb5⟩
end Go.Proofs.YtpmdfpfbnmoinaaDoor
