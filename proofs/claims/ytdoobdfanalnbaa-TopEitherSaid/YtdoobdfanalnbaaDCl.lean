/- Contract of the program: all paths. -/
import Derived.Test.YtdoobdfanalnbaaDCk
import Derived.Test.YtdoobdfanalnbaaDCh
namespace Go.Proofs.Ytdoobdfanalnbaa
open Go.RowKit
set_option linter.unusedVariables false
set_option linter.unusedSimpArgs false
set_option maxRecDepth 100000

/-- Rows in front change places. -/
theorem Hp.swap {W w : World} {l1 l2 l3 : List Itm} (h : Hp W (l1 ++ l2 ++ l3) w) : Hp W (l2 ++ l1 ++ l3) w := by
  refine h.sub (fun i => if i < l2.length then i + l1.length else if i < l2.length + l1.length then i - l2.length else i) (fun i j e => ?_) (fun i it hi => ?_)
  · split at e <;> split at e <;> (try split at e) <;> (try split at e) <;> omega
  · have hl := (List.getElem?_eq_some_iff.1 hi).1
    rw [List.length_append, List.length_append] at hl
    split
    · rw [List.append_assoc, List.getElem?_append_right (by omega), Nat.add_sub_cancel, List.getElem?_append_left (by assumption)]
      rwa [List.append_assoc, List.getElem?_append_left (by assumption)] at hi
    · split
      · rw [List.append_assoc, List.getElem?_append_left (by omega)]
        rwa [List.append_assoc, List.getElem?_append_right (by omega), List.getElem?_append_left (by omega)] at hi
      · rw [List.getElem?_append_right (by rw [List.length_append]; omega)]
        rw [List.getElem?_append_right (by rw [List.length_append]; omega)] at hi
        rw [List.length_append] at hi ⊢
        rwa [Nat.add_comm l1.length]
theorem Hp.front {W w : World} {l1 l2 : List Itm} (h : Hp W (l1 ++ l2) w) : Hp W l1 w :=
  h.sub (fun i => i) (fun i j e => e) (fun i it hi => by rw [List.getElem?_append_left (List.getElem?_eq_some_iff.1 hi).1]; exact hi)
theorem Hp.back {W w : World} {l1 l2 : List Itm} (h : Hp W (l1 ++ l2) w) : Hp W l2 w := h.rot.front
/-- What Paths returns. -/
def PathsPost (g : Gr) (w : World) (e : Ending) (w' : World) : Prop := ∃ (Q : Option Addr) (qn qc : Nat) (us : List (Option Addr × Nat)), e = .returned (.tuple #[.slice Q qn qc, .int .i64 g.pth.2]) ∧ qn = g.pth.1.length ∧ us.length = qn ∧
  Hp w (rvals Q qn qc us g.pth.1 :: rowsG us g.pth.1) w'
theorem pths_none {W w : World} (h : Below W.heap.size W w) : Hp W (rvals none 0 0 [] [] :: rowsG [] []) w :=
  (Hp.start W).go h |>.nil_row (rvals none 0 0 [] []) rfl rfl rfl
theorem pth_bad {g : Gr} (h : ¬ g.vE = 0) : g.pth = ([], g.vE) := if_pos h
theorem pth_much {g : Gr} (h : g.vE = 0) (h2 : 2000 < g.wy 0) : g.pth = ([], 3) := by unfold Gr.pth; rw [if_neg (by omega), if_pos h2]
theorem pth_ok {g : Gr} (h : g.vE = 0) (h2 : ¬ 2000 < g.wy 0) : g.pth = (g.pv 0, 0) := by unfold Gr.pth; rw [if_neg (by omega), if_neg h2]
set_option maxHeartbeats 16000000 in
theorem paths_any (g : Gr) (A : Option Addr) (n c : Nat) (w : World) (h : GrIn w A n c g) :
    Calls Try.prog 49 #[gval g A n c] w (PathsPost g w) := by
  have H := Lib.hid h
  clear h
  obtain ⟨wz, hwz⟩ : ∃ z, z = w.alloc (.cells #[.int .i64 g.n, .slice A n c] 24) := ⟨_, rfl⟩
  have HZ := Lib.hid hwz
  have V := Lib.hid (show Hp w [gbox w.heap.size g A n c] wz by rw [hwz]; exact (Hp.start w).gnew g A n c)
  clear hwz
  go_enter Try.func49, Try.ntmps49
  go_upto_region 1 with fail
  rw [← HZ.out]
  clear HZ
  obtain ⟨r0, r1, r9⟩ := V.out.gb (i := 0) rfl
  go_wp2_with fail
  refine (count_any g A n c _ (H.out.below V.out.below)).mono ?_
  rintro e w1 ⟨rfl, b1⟩
  have V1 := Lib.hid (V.out.go b1)
  clear b1 r0 r1 r9 V
  obtain ⟨r0, r1, r9⟩ := V1.out.gb (i := 0) rfl
  by_cases hv : g.vE = 0
  case neg =>
    have HE := Lib.hid (pth_bad hv)
    have HB := Lib.hid (show 0 = g.pth.1.length by rw [HE.out]; rfl)
    have g1 : (g.vE != 0) = true := bne_yes hv
    have g2 : (g.vE == 0) = false := beq_no hv
    rw [cnt_bad hv]
    clear hv
    go_wp2_with fail
    exact bodyPost_ret (v := .tuple #[.slice none 0 0, .int .i64 g.vE]) (by simp [results, Try.results49, go_sem]) rfl ⟨none, 0, 0, [], by rw [HE.out], HB.out, rfl, by rw [HE.out]; exact pths_none V1.out.below⟩
  have HV := Lib.hid hv
  have HO := Lib.hid (Gr.ok hv)
  by_cases hm : 4611686018427387904 < g.wy 0
  · have HE := Lib.hid (pth_much hv (by omega))
    have HB := Lib.hid (show 0 = g.pth.1.length by rw [HE.out]; rfl)
    rw [cnt_much hv hm]
    clear hv hm
    go_wp2_with fail
    exact bodyPost_ret (v := .tuple #[.slice none 0 0, .int .i64 3]) (by simp [results, Try.results49, go_sem]) rfl ⟨none, 0, 0, [], by rw [HE.out], HB.out, rfl, by rw [HE.out]; exact pths_none V1.out.below⟩
  rw [cnt_ok hv hm]
  obtain ⟨x, hx⟩ : ∃ x, x = g.wy 0 := ⟨_, rfl⟩
  rw [← hx]
  have HX := Lib.hid hx
  clear hx hv hm
  by_cases hm : 2000 < x
  · have HE := Lib.hid (pth_much HV.out (by rw [← HX.out]; exact hm))
    have HB := Lib.hid (show 0 = g.pth.1.length by rw [HE.out]; rfl)
    go_wp2_with fail
    exact bodyPost_ret (v := .tuple #[.slice none 0 0, .int .i64 3]) (by simp [results, Try.results49, go_sem]) rfl ⟨none, 0, 0, [], by rw [HE.out], HB.out, rfl, by rw [HE.out]; exact pths_none V1.out.below⟩
  have HE := Lib.hid (pth_ok HV.out (by rw [← HX.out]; exact hm))
  have HLEN := Lib.hid (show (g.pv 0).length ≤ 2000 by
    have h1 := HO.out.n1
    have h2 := wy_len HO.out (q := 0) (Int.le_refl 0) (by omega)
    rw [← HX.out] at h2
    have h3 : x = min (((g.pv 0).length : Nat) : Int) 4611686018427387905 := h2
    omega)
  go_wp2_with fail
  refine (newLister_any g A n c _ (H.out.below V1.out.below) HO.out).mono ?_
  rintro e w2 ⟨gl, go, vs, rfl, hvs, hp⟩
  obtain ⟨N, hN⟩ : ∃ N, N = g.n.toNat := ⟨_, rfl⟩
  rw [← hN] at hp hvs
  have V2 := Lib.hid (show Hp w ([lbox gl N A n c go none 0 0 none 0 0, nums none 0 0 [], rvals none 0 0 [] [], rvals (some ⟨go, 0, none⟩) N N vs (g.rowsFK N)] ++ rowsG vs (g.rowsFK N) ++ rowsG [] []) w2 by
    have h1 := ((V1.out.join hp).front.nil_row (rvals none 0 0 [] []) rfl rfl rfl).nil_row (nums none 0 0 []) rfl rfl rfl
    have h2 := Hp.swap (l1 := [nums none 0 0 [], rvals none 0 0 [] []]) (l2 := [lbox gl N A n c go none 0 0 none 0 0]) (l3 := rvals (some ⟨go, 0, none⟩) N N vs (g.rowsFK N) :: rowsG vs (g.rowsFK N)) h1
    have e : rowsG ([] : List (Option Addr × Nat)) [] = [] := rfl
    rw [e, List.append_nil]
    exact h2)
  have HN := Lib.hid hN
  have HVS := Lib.hid hvs
  have hN1 : 0 < N := by have := HO.out.n1; omega
  clear hp hvs hN V1 r0 r1 r9
  go_wp2_with fail
  refine (list_any g A n c gl go N vs (g.rowsFK N) w HO.out HN.out H.out HVS.out rfl N w2 0 none 0 0 [] none 0 0 [] [] (by omega) hN1 rfl (Nat.le_refl _) rfl rfl (by simpa using HLEN.out) V2.out).mono ?_
  rintro e w3 ⟨P3, pc3, Q3, qn3, qc3, us3, rfl, hq3, hu3, hp3⟩
  have e0 : ([] : List (List Int)) ++ (g.pv ((0 : Nat) : Int)).map (([] : List Int) ++ ·) = g.pv 0 := by simp
  rw [e0] at hq3 hp3
  have V3 := Lib.hid hp3
  have HQ := Lib.hid hq3
  have HU := Lib.hid hu3
  clear hp3 hq3 hu3 V2
  obtain ⟨r4, _, r9⟩ := V3.out.box_at (i := 0) (j := 4) rfl rfl
  go_wp2_with fail
  refine bodyPost_ret (v := .tuple #[.slice Q3 qn3 qc3, .int .i64 0]) (by simp [results, Try.results49, go_sem]) rfl ⟨Q3, qn3, qc3, us3, by rw [HE.out], by rw [HE.out]; exact HQ.out, HU.out, ?_⟩
  rw [HE.out]
  have hh := Hp.swap (l1 := [lbox gl N A n c go P3 0 pc3 Q3 qn3 qc3, nums P3 0 pc3 []]) (l2 := [rvals Q3 qn3 qc3 us3 (g.pv 0)]) (l3 := rvals (some ⟨go, 0, none⟩) N N vs (g.rowsFK N) :: (rowsG vs (g.rowsFK N) ++ rowsG us3 (g.pv 0))) (by simpa using V3.out)
  have h2 := Hp.swap (l1 := [rvals Q3 qn3 qc3 us3 (g.pv 0)]) (l2 := [lbox gl N A n c go P3 0 pc3 Q3 qn3 qc3, nums P3 0 pc3 [], rvals (some ⟨go, 0, none⟩) N N vs (g.rowsFK N)] ++ rowsG vs (g.rowsFK N)) (l3 := rowsG us3 (g.pv 0)) (by simpa using hh)
  rw [List.append_assoc] at h2
  exact h2.back
end Go.Proofs.Ytdoobdfanalnbaa
