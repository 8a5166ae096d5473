/- Contract of pattern.Letters. -/
import Derived.Test.YtlkigmlgbnlkaaaDoorPf
import Derived.Deep.RegionLaw
namespace Go.Proofs.YtlkigmlgbnlkaaaDoor
open Go.RowKit
set_option linter.unusedVariables false

set_option maxHeartbeats 16000000 in
theorem pletters_any (s : ByteArray) (w : World) (hs : s.size ≤ maxLen) (hm : MaxAt w) :
    Calls Tryd.prog 14 #[.string s] w (LettersPost s.data.toList w) := by
  obtain ⟨i0, hi, hz0, hz1, hz2⟩ := info_parts Tryd.infoInt
  by_cases hx0 : mErr s.data.toList = 0
  · obtain ⟨h120, hmok, h60⟩ := mErr_zero hx0
    obtain ⟨pl, hpl⟩ : ∃ pl : ByteArray, pl = ⟨(plainL s.data.toList).toArray⟩ := ⟨_, rfl⟩
    have HV1 := Lib.hid (show (⟨(plainVal s.data.toList).1.toArray⟩ : ByteArray) = pl by rw [plain_ok hx0, hpl])
    have HV2 := Lib.hid (show (plainVal s.data.toList).2 = 0 by rw [plain_ok hx0])
    have hpl3 : pl.size ≤ 120 := by
      have h1 : pl.size = (plainL s.data.toList).length := by rw [hpl]; rfl
      have h2 := plainL_len s.data.toList
      omega
    have HPL := Lib.hid (show pl.data.toList = plainL s.data.toList by rw [hpl])
    clear hpl
    by_cases hx : (120 : UInt8) ∈ s.data.toList
    · have HE := Lib.hid (letters_open hx0 hx)
      obtain ⟨ix, hix⟩ : ∃ ix : Int, ix = Lib.indexByte pl.data.toList (Int.toNat 120).toUInt8 := ⟨_, rfl⟩
      have hix0 : 0 ≤ ix := by rw [hix, HPL.out]; exact idx_some (plain_has.2 hx)
      have HI := Lib.hid hix
      clear hx0 hix hx
      go_enter Tryd.func14, Tryd.ntmps14
      go_wp2_with fail
      refine (pplain_any s _ hs hm).mono ?_
      rintro e w1 ⟨rfl, hb1⟩
      rw [HV1.out, HV2.out]
      go_wp2_with fail
      refine (idxb_any _ _ _).mono ?_
      rintro e w' ⟨rfl, rfl⟩
      rw [← HI.out]
      go_wp2_with fail
      go_ret2
      exact letters_none HE.out hb1
    · have HE := Lib.hid (letters_ok hx0 hx)
      have HNX := Lib.hid hx
      have HI := Lib.hid (show Lib.indexByte pl.data.toList (Int.toNat 120).toUInt8 = -1 by rw [HPL.out]; exact idx_none (fun h => hx (plain_has.1 h)))
      clear hx0
      have hs120 : s.size ≤ 120 := h120
      clear h120 hs
      go_enter Tryd.func14, Tryd.ntmps14
      go_wp2_with fail
      refine (pplain_any s _ (by unfold maxLen; omega) hm).mono ?_
      rintro e w1 ⟨rfl, hb1⟩
      rw [HV1.out, HV2.out]
      go_wp2_with fail
      refine (idxb_any _ _ _).mono ?_
      rintro e w' ⟨rfl, rfl⟩
      rw [HI.out]
      go_wp2_with (at_make; refine wpList_make_own _ rfl _ _ 26 rfl w.heap.size 3 i0 (.int .i64 0) 1 Tryd.underlying26 hi hz0 hz1 .i64 .i64 _ pl.size rfl rfl rfl (by rw [hz2]; omega) (by unfold maxLen; omega) (by have := hb1.size; omega) ?_; intro w2 hown hg)
      have HB2 := Lib.hid (show Below w.heap.size w w2 from hb1.grown hg (by have := hb1.size; omega) (fun k h => by cases h))
      clear hg
      go_loopw [6, 7] (fun v i wr => LRel s w v i wr) (fun _ i _ => s.size - (intOf i).toNat)
      case atStart => exact ⟨0, 0, [], Nat.zero_le _, Nat.le_refl _, rfl, rfl, rfl, hown, HB2.out⟩
      case round =>
        clear hown
        obtain ⟨k, n, L, hk, hn, rfl, hL, heq, hown, hbr⟩ := hrel
        have HEQ := Lib.hid heq
        have HO := Lib.hid hown
        have HBR := Lib.hid hbr
        have hLn := Lib.hid hL
        have hsz1 : w.heap.size ≤ wr.heap.size := hbr.size
        clear heq hL hown hbr
        by_cases hlt : k < s.size
        · have hb : (s[k].toNat : Int) ≤ 255 := by have := s[k].toNat_lt; omega
          cases hi2 : isS s[k] with
          | false =>
            have HS := Lib.hid (show sgn (s[k].toNat : Int) = false from hi2)
            have HN := Lib.hid (show L ++ letR (s.data.toList.drop (k + 1)) = letR s.data.toList by rw [← letR_skip hlt hi2]; exact HEQ.out)
            clear hi2
            go_wp2_with (go_at_call 39; refine (sign_any _ _ (by omega) (by omega)).mono ?_; rintro e w' ⟨rfl, rfl⟩; rw [HS.out])
            go_roundw
            case rel => exact ⟨k + 1, n, L, by omega, by omega, by go_num, hLn.out, HN.out, HO.out, HBR.out⟩
            case measure => simp [intOf]; omega
          | true =>
            have HS := Lib.hid (show sgn (s[k].toNat : Int) = true from hi2)
            have hne : s[k] ≠ 120 := fun e => HNX.out (by rw [← e, getB]; exact List.getElem_mem _)
            obtain ⟨hc, hlet⟩ := base_int hi2 hne
            have HC := Lib.hid hc
            have HLET := Lib.hid hlet
            have HD := Lib.hid (letR_drop hlt hi2)
            clear hi2 hc hlet hne
            have hkk : IntKind.i64.wrap ((k : Int) + 1) = (k : Int) + 1 := IntWalk.i64_in _ (by omega)
            have hkt : ((k : Int) + 1).toNat = k + 1 := by omega
            by_cases hl2 : k + 1 < s.size
            · have t1 : decide ((k : Int) + 1 < (s.size : Int)) = true := decide_eq_true (by omega)
              have t2 : decide (k + 1 < s.size) = true := decide_eq_true hl2
              by_cases h46 : (s[k + 1].toNat : Int) = 46
              · obtain ⟨x, hx⟩ : ∃ x, x = lettI (s[k].toNat : Int) true := ⟨_, rfl⟩
                have HX := Lib.hid hx.symm
                have HN := Lib.hid (show letR (s.data.toList.drop k) = x :: letR (s.data.toList.drop (k + 1)) by rw [HD.out, hx, HLET.out, head_in hl2, int_46.1 h46]; simp)
                clear hx
                go_wp2_with (go_at_call 39; refine (sign_any _ _ (by omega) (by omega)).mono ?_; rintro e w' ⟨rfl, rfl⟩; rw [HS.out])
                go_region_held3 (fun _ => True) (trivial)
                  (first | (go_at_call 40; (with_reducible refine (letter_val (by first | exact HX.out | (simp only [*]; exact HX.out)) (by first | exact HC.out)).mono ?_); rintro e w3 ⟨rfl, rfl⟩) | (refine step_append_lies _ (by rfl) _ _ _ (by rfl) w.heap.size 3 i0 _ 1 8 Tryd.underlying26 hi hz0 hz1 hz2 rfl (by omega) _ n (intCells L) (by rfl) (HO.out.alloc _) ⟨wr.heap.size, 0, none⟩ 1 1 [.int .i64 x] (by rfl) (by rfl) (new_one _ _ _) (one_int _) (by omega) (by unfold maxLen; omega) (by omega) (by simp; omega) (wr.heap.size + 1) (by simp) ?_; intro gg cap w4 hown4 hgrow hat hlt4))
                all_goals
                  have R := Lib.hid (lrel_more hlt hn hLn.out HEQ.out HN.out HO.out HBR.out hown4 hgrow)
                  clear hown4 hgrow hat hlt4
                  go_wp2
                  go_roundw
                  · exact R.out
                  · simp [intOf]; omega
              · have e46 : ((s[k + 1].toNat : Int) == 46) = false := by simpa using h46
                obtain ⟨x, hx⟩ : ∃ x, x = lettI (s[k].toNat : Int) false := ⟨_, rfl⟩
                have HX := Lib.hid hx.symm
                have HN := Lib.hid (show letR (s.data.toList.drop k) = x :: letR (s.data.toList.drop (k + 1)) by rw [HD.out, hx, HLET.out, head_in hl2, if_neg (show ¬ some s[k + 1] = some 46 from fun e => h46 (int_46.2 (Option.some.inj e)))]; simp)
                clear hx
                go_wp2_with (go_at_call 39; refine (sign_any _ _ (by omega) (by omega)).mono ?_; rintro e w' ⟨rfl, rfl⟩; rw [HS.out])
                go_region_held3 (fun _ => True) (trivial)
                  (first | (go_at_call 40; (with_reducible refine (letter_val (by first | exact HX.out | (simp only [*]; exact HX.out)) (by first | exact HC.out)).mono ?_); rintro e w3 ⟨rfl, rfl⟩) | (refine step_append_lies _ (by rfl) _ _ _ (by rfl) w.heap.size 3 i0 _ 1 8 Tryd.underlying26 hi hz0 hz1 hz2 rfl (by omega) _ n (intCells L) (by rfl) (HO.out.alloc _) ⟨wr.heap.size, 0, none⟩ 1 1 [.int .i64 x] (by rfl) (by rfl) (new_one _ _ _) (one_int _) (by omega) (by unfold maxLen; omega) (by omega) (by simp; omega) (wr.heap.size + 1) (by simp) ?_; intro gg cap w4 hown4 hgrow hat hlt4))
                all_goals
                  have R := Lib.hid (lrel_more hlt hn hLn.out HEQ.out HN.out HO.out HBR.out hown4 hgrow)
                  clear hown4 hgrow hat hlt4
                  go_wp2
                  go_roundw
                  · exact R.out
                  · simp [intOf]; omega
            · have t1 : decide ((k : Int) + 1 < (s.size : Int)) = false := decide_eq_false (by omega)
              have t2 : decide (k + 1 < s.size) = false := decide_eq_false hl2
              obtain ⟨x, hx⟩ : ∃ x, x = lettI (s[k].toNat : Int) false := ⟨_, rfl⟩
              have HX := Lib.hid hx.symm
              have HN := Lib.hid (show letR (s.data.toList.drop k) = x :: letR (s.data.toList.drop (k + 1)) by rw [HD.out, hx, HLET.out, head_out (s := s) (k := k + 1) (by omega)]; simp)
              clear hx
              go_wp2_with (go_at_call 39; refine (sign_any _ _ (by omega) (by omega)).mono ?_; rintro e w' ⟨rfl, rfl⟩; rw [HS.out])
              refine wp_region_held_drew (S := fun _ => True) (by kernel_rfl) trivial (fun hHeld => ?_)
              refine wpAnyH_take (i := 0) (v := ?_) (List.getElem?_toArray.trans rfl) (by kernel_rfl) (by kernel_rfl) (by kernel_rfl) (fun _ _ _ h => h) (Or.inl ⟨by rfl, ?_⟩) (by assumption) ?_
              rotate_left
              · intro w hSw; go_simp; try (with_reducible rfl)
              try simp only [Act.put, List.setIfInBounds_toArray, List.set_cons_zero, List.set_cons_succ]
              refine wpAnyH_take (i := 1) (v := ?_) (List.getElem?_toArray.trans rfl) (by kernel_rfl) (by kernel_rfl) (by kernel_rfl) (fun _ _ _ h => h) (Or.inl ⟨by rfl, ?_⟩) (by assumption) ?_
              rotate_left
              · intro w hSw; go_simp; try (with_reducible rfl)
              try simp only [Act.put, List.setIfInBounds_toArray, List.set_cons_zero, List.set_cons_succ]
              refine wpAnyH_take (i := 2) (v := ?_) (List.getElem?_toArray.trans rfl) (by kernel_rfl) (by kernel_rfl) (by kernel_rfl) (fun _ _ _ h => h) (Or.inl ⟨by rfl, ?_⟩) (by assumption) ?_
              rotate_left
              · intro w hSw; go_simp; try (with_reducible rfl)
              try simp only [Act.put, List.setIfInBounds_toArray, List.set_cons_zero, List.set_cons_succ]
              refine wpAnyH_take (i := 3) (v := ?_) (List.getElem?_toArray.trans rfl) (by kernel_rfl) (by kernel_rfl) (by kernel_rfl) (fun _ _ _ h => h) (Or.inl ⟨by rfl, ?_⟩) (by assumption) ?_
              rotate_left
              · intro w hSw; go_simp; try (with_reducible rfl)
              try simp only [Act.put, List.setIfInBounds_toArray, List.set_cons_zero, List.set_cons_succ]
              refine wpAnyH_take (i := 4) (v := ?_) (List.getElem?_toArray.trans rfl) (by kernel_rfl) (by kernel_rfl) (by kernel_rfl) (fun _ _ _ h => h) (Or.inl ⟨by rfl, ?_⟩) (by assumption) ?_
              rotate_left
              · intro w hSw; go_simp; try (with_reducible rfl)
              try simp only [Act.put, List.setIfInBounds_toArray, List.set_cons_zero, List.set_cons_succ]
              refine wpAnyH_take (i := 5) (v := ?_) (List.getElem?_toArray.trans rfl) (by kernel_rfl) (by kernel_rfl) (by kernel_rfl) (fun _ _ _ h => h) (Or.inl ⟨by rfl, ?_⟩) (by assumption) ?_
              rotate_left
              · intro w hSw; go_simp; try (with_reducible rfl)
              try simp only [Act.put, List.setIfInBounds_toArray, List.set_cons_zero, List.set_cons_succ]
              refine wpAnyH_take (i := 6) (v := ?_) (List.getElem?_toArray.trans rfl) (by kernel_rfl) (by kernel_rfl) (by kernel_rfl) (fun _ _ _ h => h) (Or.inl ⟨by rfl, ?_⟩) (by assumption) ?_
              rotate_left
              · intro w hSw; go_simp; try (with_reducible rfl)
              try simp only [Act.put, List.setIfInBounds_toArray, List.set_cons_zero, List.set_cons_succ]
              refine wpAnyH_take (i := 7) (v := ?_) (List.getElem?_toArray.trans rfl) (by kernel_rfl) (by kernel_rfl) (by kernel_rfl) (fun _ _ _ h => h) (Or.inl ⟨by rfl, ?_⟩) (by assumption) ?_
              rotate_left
              · intro w hSw; go_simp; try (with_reducible rfl)
              try simp only [Act.put, List.setIfInBounds_toArray, List.set_cons_zero, List.set_cons_succ]
              refine wpAnyH_take (i := 8) (v := ?_) (List.getElem?_toArray.trans rfl) (by kernel_rfl) (by kernel_rfl) (by kernel_rfl) (fun _ _ _ h => h) (Or.inl ⟨by rfl, ?_⟩) (by assumption) ?_
              rotate_left
              · intro w hSw; go_simp; try (with_reducible rfl)
              try simp only [Act.put, List.setIfInBounds_toArray, List.set_cons_zero, List.set_cons_succ]
              refine wpAnyH_take (i := 9) (v := ?_) (List.getElem?_toArray.trans rfl) (by kernel_rfl) (by kernel_rfl) (by kernel_rfl) (fun _ _ _ h => h) (Or.inl ⟨by rfl, ?_⟩) (by assumption) ?_
              rotate_left
              · intro w hSw; go_simp; try (with_reducible rfl)
              try simp only [Act.put, List.setIfInBounds_toArray, List.set_cons_zero, List.set_cons_succ]
              refine wpAnyH_take (i := 10) (v := undef) (List.getElem?_toArray.trans rfl) (by kernel_rfl) (by kernel_rfl) (by kernel_rfl) (fun _ _ _ h => h) (Or.inr ⟨by rfl, rfl⟩) (by assumption) ?_
              try simp only [Act.put, List.setIfInBounds_toArray, List.set_cons_zero, List.set_cons_succ]
              refine wpAnyH_take (i := 11) (v := undef) (List.getElem?_toArray.trans rfl) (by kernel_rfl) (by kernel_rfl) (by kernel_rfl) (fun _ _ _ h => h) (Or.inr ⟨by rfl, rfl⟩) (by assumption) ?_
              try simp only [Act.put, List.setIfInBounds_toArray, List.set_cons_zero, List.set_cons_succ]
              refine wpAnyH_take (i := 12) (v := undef) (List.getElem?_toArray.trans rfl) (by kernel_rfl) (by kernel_rfl) (by kernel_rfl) (fun _ _ _ h => h) (Or.inr ⟨by rfl, rfl⟩) (by assumption) ?_
              try simp only [Act.put, List.setIfInBounds_toArray, List.set_cons_zero, List.set_cons_succ]
              refine wpAnyH_take (i := 13) (v := undef) (List.getElem?_toArray.trans rfl) (by kernel_rfl) (by kernel_rfl) (by kernel_rfl) (fun _ _ _ h => h) (Or.inr ⟨by rfl, rfl⟩) (by assumption) ?_
              try simp only [Act.put, List.setIfInBounds_toArray, List.set_cons_zero, List.set_cons_succ]
              refine wpAnyH_take (i := 14) (v := undef) (List.getElem?_toArray.trans rfl) (by kernel_rfl) (by kernel_rfl) (by kernel_rfl) (fun _ _ _ h => h) (Or.inr ⟨by rfl, rfl⟩) (by assumption) ?_
              try simp only [Act.put, List.setIfInBounds_toArray, List.set_cons_zero, List.set_cons_succ]
              refine wpAnyH_take (i := 15) (v := ?_) (List.getElem?_toArray.trans rfl) (by kernel_rfl) (by kernel_rfl) (by kernel_rfl) (fun _ _ _ h => h) (Or.inl ⟨by rfl, ?_⟩) (by assumption) ?_
              rotate_left
              · intro w hSw; go_simp; try (with_reducible rfl)
              try simp only [Act.put, List.setIfInBounds_toArray, List.set_cons_zero, List.set_cons_succ]
              refine wpAnyH_ready (rs := [16]) (by kernel_rfl) (by simp) ?_
              refine AllReadyH.cons (List.getElem?_toArray.trans rfl) (fun K hK => ?_) AllReadyH.nil
              go_simp
              go_at_call 40
              refine (letter_val HX.out HC.out).mono ?_
              rintro e w3 ⟨rfl, rfl⟩
              try go_wp2_with fail
              refine hK.out _ _ trivial (fun hHeld => ?_)
              clear hK K
              try simp only [Act.put, List.setIfInBounds_toArray, List.set_cons_zero, List.set_cons_succ]
              refine wpAnyH_ready (rs := [17]) (by kernel_rfl) (by simp) ?_
              refine AllReadyH.cons (List.getElem?_toArray.trans rfl) (fun K hK => ?_) AllReadyH.nil
              go_simp
              refine hK.out _ _ trivial (fun hHeld => ?_)
              clear hK K
              try simp only [Act.put, List.setIfInBounds_toArray, List.set_cons_zero, List.set_cons_succ]
              refine wpAnyH_ready (rs := [18]) (by kernel_rfl) (by simp) ?_
              refine AllReadyH.cons (List.getElem?_toArray.trans rfl) (fun K hK => ?_) AllReadyH.nil
              refine step_append_lies _ (by rfl) _ _ _ (by rfl) w.heap.size 3 i0 _ 1 8 Tryd.underlying26 hi hz0 hz1 hz2 rfl (by omega) _ n (intCells L) (by rfl) (HO.out.alloc _) ⟨wr.heap.size, 0, none⟩ 1 1 [.int .i64 x] (by rfl) (by rfl) (new_one _ _ _) (one_int _) (by omega) (by unfold maxLen; omega) (by omega) (by simp; omega) (wr.heap.size + 1) (by simp) ?_
              intro gg cap w4 hown4 hgrow hat hlt4
              refine hK.out _ _ trivial (fun hHeld => ?_)
              clear hK K
              try simp only [Act.put, List.setIfInBounds_toArray, List.set_cons_zero, List.set_cons_succ]
              refine wpAnyH_take (i := 19) (v := ?_) (List.getElem?_toArray.trans rfl) (by kernel_rfl) (by kernel_rfl) (by kernel_rfl) (fun _ _ _ h => h) (Or.inl ⟨by rfl, ?_⟩) (by assumption) ?_
              rotate_left
              · intro w hSw; go_simp; try (with_reducible rfl)
              try simp only [Act.put, List.setIfInBounds_toArray, List.set_cons_zero, List.set_cons_succ]
              refine wpAnyH_done (by kernel_rfl) ?_ _
              all_goals
                have R := Lib.hid (lrel_more hlt hn hLn.out HEQ.out HN.out HO.out HBR.out hown4 hgrow)
                clear hown4 hgrow hat hlt4
                go_wp2
                go_roundw
                · exact R.out
                · simp [intOf]; omega
        · have HF := Lib.hid (show letR s.data.toList = L by rw [← HEQ.out, List.drop_eq_nil_of_le (by rw [sizeB]; omega)]; simp [letR])
          go_wp2
          go_ret2
          exact letters_ret (n := n) HE.out (by rw [HF.out]; exact hLn.out) (by rw [HF.out]; exact HO.out) HBR.out
  · obtain ⟨x, hx⟩ : ∃ x, x = mErr s.data.toList := ⟨_, rfl⟩
    rw [← hx] at hx0
    have HE := Lib.hid (letters_err hx.symm hx0)
    have HV1 := Lib.hid (show (⟨(plainVal s.data.toList).1.toArray⟩ : ByteArray) = ⟨#[]⟩ by rw [plain_err hx.symm hx0])
    have HV2 := Lib.hid (show (plainVal s.data.toList).2 = x by rw [plain_err hx.symm hx0])
    have hxf : (x == 0) = false := by simp [hx0]
    have hxf2 : (x != 0) = true := by simp [hx0]
    clear hx0 hx
    go_enter Tryd.func14, Tryd.ntmps14
    go_wp2_with fail
    refine (pplain_any s _ hs hm).mono ?_
    rintro e w1 ⟨rfl, hb1⟩
    rw [HV1.out, HV2.out]
    go_wp2_with fail
    go_ret2
    exact letters_none HE.out hb1
end Go.Proofs.YtlkigmlgbnlkaaaDoor
