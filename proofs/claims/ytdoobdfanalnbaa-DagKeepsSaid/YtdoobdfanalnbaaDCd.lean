/- Contracts of the reference: paths and their costs. -/
import Derived.Test.YtdoobdfanalnbaaDCc
namespace Go.Proofs.Ytdoobdfanalnbaa
open Go.RowKit
set_option linter.unusedVariables false
set_option linter.unusedSimpArgs false
set_option maxRecDepth 100000

theorem chk_bad {g : Gr} {p : List Int} (h : ¬ g.vE = 0) : g.chk p = false := decide_eq_false fun e => h e.1
theorem chk_at {g : Gr} {p : List Int} (h : g.vE = 0) : g.chk p = decide (walkP g.rs 0 p = some (g.n - 1)) := by unfold Gr.chk; simp [h]
theorem chk_stop {g : Gr} {p : List Int} {k : Nat} {i q : Int} (h : g.vE = 0) (hi : p[k]? = some i) (hw : walkP g.rs 0 (p.take k) = some q) (hn : ¬ (0 ≤ i ∧ i < (g.rs.length : Int) ∧ (arc g.rs i).f = q)) : g.chk p = false := by
  rw [chk_at h]
  have := walkP_step hi hw
  rw [if_neg hn] at this
  rw [walkP_none this]
  simp
set_option maxHeartbeats 16000000 in
theorem rcheck_any (g : Gr) (A : Option Addr) (n c : Nat) (B : Option Addr) (m d : Nat) (p : List Int) (w : World) (h : GrIn w A n c g) (hp : p.length = m) (hm : m ≤ 17592186044416) (hB : CellsIn w B (ints p)) :
    Calls Try.prog 76 #[gval g A n c, .slice B m d] w fun e w' => e = .returned (.bool (g.chk p)) ∧ Below w.heap.size w w' := by
  have H := Lib.hid h
  have HP := Lib.hid hp
  have HB := Lib.hid hB
  have hcs := h.small
  have hcn := h.cap
  clear h hp hB
  obtain ⟨wz, hwz⟩ : ∃ z, z = w.alloc (.cells #[.int .i64 g.n, .slice A n c] 24) := ⟨_, rfl⟩
  have HZ := Lib.hid hwz
  have V := Lib.hid (show Hp w [gbox w.heap.size g A n c] wz by rw [hwz]; exact (Hp.start w).gnew g A n c)
  clear hwz
  by_cases hv : g.vE = 0
  case neg =>
    have HE := Lib.hid (chk_bad (p := p) hv)
    have g1 : (g.vE != 0) = true := bne_yes hv
    have g2 : (g.vE == 0) = false := beq_no hv
    clear hv
    go_enter Try.func76, Try.ntmps76
    go_upto_region 1 with fail
    rw [← HZ.out]
    clear HZ
    obtain ⟨r0, r1, r9⟩ := V.out.gb (i := 0) rfl
    go_wp2_with fail
    refine (rvalid_any g A n c _ (H.out.below V.out.below)).mono ?_
    rintro e w1 ⟨rfl, b1⟩
    have V1 := Lib.hid (V.out.go b1)
    clear b1 r0 r1 r9
    go_wp2_with fail
    go_ret
    exact ⟨ret_bool HE.out.symm, V1.out.below⟩
  have HO := Lib.hid (Gr.ok hv)
  have HV := Lib.hid hv
  have n1 := (Gr.ok hv).n1
  have n2 := (Gr.ok hv).n2
  have hnl : n ≤ 6000 := by have := (Gr.ok hv).len; have := H.out.len; omega
  have hn1 : IntKind.i64.wrap (g.n - 1) = g.n - 1 := IntWalk.i64_in _ (by omega)
  go_enter Try.func76, Try.ntmps76
  go_upto_region 1 with fail
  rw [← HZ.out]
  clear HZ hv
  obtain ⟨r0, r1, r9⟩ := V.out.gb (i := 0) rfl
  go_wp2_with fail
  refine (rvalid_any g A n c _ (H.out.below V.out.below)).mono ?_
  rintro e w1 ⟨rfl, b1⟩
  have V1 := Lib.hid (V.out.go b1)
  clear b1 r0 r1 r9
  rw [HV.out]
  go_wp2_with fail
  have H1 := Lib.hid (show walkP g.rs 0 (p.take 0) = some 0 from rfl)
  go_loopw [6, 5] (fun cv q wr => ∃ (k : Nat) (at' : Int), cv = .int .i64 (k : Int) ∧ q = .int .i64 at' ∧ k ≤ m ∧ (k : Int) ≤ at' ∧ at' < g.n ∧ walkP g.rs 0 (p.take k) = some at' ∧ Hp w [gbox w.heap.size g A n c] wr) (fun cv _ _ => m - (intOf cv).toNat)
  case atStart => exact ⟨0, 0, rfl, rfl, Nat.zero_le _, by omega, by omega, H1.out, V1.out⟩
  case round =>
    clear H1 V V1
    obtain ⟨k, q, rfl, rfl, hkm, hq0, hq1, hwk, hV⟩ := hrel
    obtain ⟨wi, rfl⟩ : ∃ wi : World, wi = wr := ⟨_, rfl⟩
    have V := Lib.hid hV
    have HW := Lib.hid hwk
    clear hV hwk
    obtain ⟨r0, r1, r9⟩ := V.out.gb (i := 0) rfl
    by_cases hlt : k < m
    case neg =>
      obtain rfl : k = m := by omega
      have HWW := Lib.hid (show walkP g.rs 0 p = some q by have := HW.out; rwa [List.take_of_length_le (by have := HP.out; omega)] at this)
      by_cases hq : q = g.n - 1
      · have HE := Lib.hid (show g.chk p = true by rw [chk_at HV.out, HWW.out, hq]; simp)
        have g2 : (q == g.n - 1) = true := beq_yes hq
        clear hq
        go_wp2_with fail
        go_ret
        exact ⟨ret_bool HE.out.symm, V.out.below⟩
      · have HE := Lib.hid (show g.chk p = false by rw [chk_at HV.out, HWW.out]; simp [hq])
        have g2 : (q == g.n - 1) = false := beq_no hq
        clear hq
        go_wp2_with fail
        go_ret
        exact ⟨ret_bool HE.out.symm, V.out.below⟩
    obtain ⟨bp, op, rfl, hbp, cp⟩ := (HB.out.below V.out.below).int (j := k) (by rw [HP.out]; exact hlt)
    obtain ⟨i, hi⟩ : ∃ i, i = p.getD k 0 := ⟨_, rfl⟩
    rw [← hi] at cp
    have HI := Lib.hid (show p[k]? = some i by rw [hi, List.getD_eq_getElem?_getD, List.getElem?_eq_getElem (by rw [HP.out]; exact hlt)]; rfl)
    clear hi
    by_cases hin : 0 ≤ i ∧ i < (n : Int)
    case neg =>
      have HE := Lib.hid (chk_stop HV.out HI.out HW.out (fun hc => hin ⟨hc.1, by have := H.out.len; omega⟩))
      by_cases h0 : 0 ≤ i
      · have h1 : (n : Int) ≤ i := by omega
        have d1 : decide (i < 0) = false := decide_eq_false (by omega)
        have d2 : decide ((n : Int) ≤ i) = true := decide_eq_true h1
        clear hin
        go_wp2_with fail
        go_quiet (fail)
        go_wp2_with fail
        go_ret
        exact ⟨ret_bool HE.out.symm, (V.out.go (bdrewN _ _)).below⟩
      · clear hin
        have h1 : i < 0 := by omega
        have d1 : decide (i < 0) = true := decide_eq_true h1
        go_wp2_with fail
        go_quiet (fail)
        go_wp2_with fail
        go_ret
        exact ⟨ret_bool HE.out.symm, (V.out.go (bdrewN _ _)).below⟩
    obtain ⟨h0, h1⟩ := hin
    obtain ⟨j, rfl⟩ := Int.eq_ofNat_of_zero_le h0
    obtain ⟨⟨f, t, ct⟩, b, off, ha, hae, hA, hb, c0, c1, c2⟩ := (H.out.below V.out.below).at (j := j) (by omega)
    subst hA
    dsimp only at c0 c1 c2
    have har := HO.out.arc _ (List.mem_of_getElem? ha)
    dsimp only at har
    have HAE := Lib.hid hae
    clear ha hae
    have hj3 : j * 3 ≤ 20000 := by omega
    have hjn : j < n := by omega
    have d1 : decide ((j : Int) < 0) = false := decide_eq_false (by omega)
    have d2 : decide ((n : Int) ≤ (j : Int)) = false := decide_eq_false (by omega)
    by_cases hf : f = q
    case neg =>
      have HE := Lib.hid (chk_stop HV.out HI.out HW.out (fun hc => hf (by rw [← HAE.out] at hc; exact hc.2.2)))
      have g1 : (f != q) = true := bne_yes hf
      have g2 : (f == q) = false := beq_no hf
      clear hf
      go_wp2_with fail
      go_quiet (fail)
      go_wp2_with fail
      go_ret
      exact ⟨ret_bool HE.out.symm, (V.out.go (bdrewN _ _)).below⟩
    subst hf
    have g1 : (f != f) = false := bne_no rfl
    have g2 : (f == f) = true := beq_yes rfl
    have HW2 := Lib.hid (show walkP g.rs 0 (p.take (k + 1)) = some t by rw [walkP_step HI.out HW.out, if_pos ⟨by omega, by have := H.out.len; omega, by rw [← HAE.out]⟩, ← HAE.out])
    go_wp2_with fail
    go_quiet (fail)
    go_wp2_with fail
    go_quiet (fail)
    go_wp2_with fail
    go_roundw
    case rel => exact ⟨k + 1, t, by go_num, rfl, by omega, by omega, by omega, HW2.out, V.out.go (bdrewN _ _)⟩
    case measure => simp [intOf]; omega
set_option maxHeartbeats 16000000 in
theorem rsum_any (g : Gr) (A : Option Addr) (n c : Nat) (B : Option Addr) (m d : Nat) (p : List Int) (w : World) (h : GrIn w A n c g) (hp : p.length = m) (hm : m ≤ 17592186044416) (hB : CellsIn w B (ints p)) (hO : g.Ok) (hr : ∃ r, walkP g.rs 0 p = some r) :
    Calls Try.prog 68 #[gval g A n c, .slice B m d] w fun e w' => e = .returned (.int .i64 (sumP g.rs p)) ∧ Below w.heap.size w w' := by
  have H := Lib.hid h
  have HP := Lib.hid hp
  have HB := Lib.hid hB
  have hcs := h.small
  have hcn := h.cap
  have n1 := hO.n1
  have n2 := hO.n2
  have hnl : n ≤ 6000 := by have := hO.len; have := h.len; omega
  have HO := Lib.hid hO
  have HR := Lib.hid hr
  clear h hp hB hO hr
  obtain ⟨wz, hwz⟩ : ∃ z, z = w.alloc (.cells #[.int .i64 g.n, .slice A n c] 24) := ⟨_, rfl⟩
  have HZ := Lib.hid hwz
  have V := Lib.hid (show Hp w [gbox w.heap.size g A n c] wz by rw [hwz]; exact (Hp.start w).gnew g A n c)
  clear hwz
  go_enter Try.func68, Try.ntmps68
  go_upto_region 1 with fail
  rw [← HZ.out]
  clear HZ
  go_wp2_with fail
  have H1 := Lib.hid (show sumP g.rs (p.take 0) = 0 from rfl)
  go_loopw [6, 5] (fun cv s wr => ∃ (k : Nat) (sum : Int), cv = .int .i64 (k : Int) ∧ s = .int .i64 sum ∧ k ≤ m ∧ 0 ≤ sum ∧ sum ≤ 2000000000 ∧ sumP g.rs (p.take k) = sum ∧ Hp w [gbox w.heap.size g A n c] wr) (fun cv _ _ => m - (intOf cv).toNat)
  case atStart => exact ⟨0, 0, rfl, rfl, Nat.zero_le _, by omega, by omega, H1.out, V.out⟩
  case round =>
    clear H1 V
    obtain ⟨k, sm, rfl, rfl, hkm, hs0, hs1, hsm, hV⟩ := hrel
    obtain ⟨wi, rfl⟩ : ∃ wi : World, wi = wr := ⟨_, rfl⟩
    have V := Lib.hid hV
    have HS := Lib.hid hsm
    clear hV hsm
    obtain ⟨r0, r1, r9⟩ := V.out.gb (i := 0) rfl
    by_cases hlt : k < m
    case neg =>
      obtain rfl : k = m := by omega
      have HSS := Lib.hid (show sumP g.rs p = sm by have := HS.out; rwa [List.take_of_length_le (by have := HP.out; omega)] at this)
      go_wp2_with fail
      go_ret
      exact ⟨ret_int HSS.out.symm, V.out.below⟩
    obtain ⟨bp, op, rfl, hbp, cp⟩ := (HB.out.below V.out.below).int (j := k) (by rw [HP.out]; exact hlt)
    obtain ⟨i, hi⟩ : ∃ i, i = p.getD k 0 := ⟨_, rfl⟩
    rw [← hi] at cp
    have HI := Lib.hid (show p[k]? = some i by rw [hi, List.getD_eq_getElem?_getD, List.getElem?_eq_getElem (by rw [HP.out]; exact hlt)]; rfl)
    clear hi
    obtain ⟨r, hr⟩ := HR.out
    obtain ⟨q, hq, h0, h1, h2⟩ := walkP_part HI.out hr
    obtain ⟨j, rfl⟩ := Int.eq_ofNat_of_zero_le h0
    obtain ⟨⟨f, t, ct⟩, b, off, ha, hae, hA, hb, c0, c1, c2⟩ := (H.out.below V.out.below).at (j := j) (by have := H.out.len; omega)
    subst hA
    dsimp only at c0 c1 c2
    have har := HO.out.arc _ (List.mem_of_getElem? ha)
    dsimp only at har
    have HAE := Lib.hid hae
    have hj3 : j * 3 ≤ 20000 := by have := H.out.len; omega
    have hjn : j < n := by have := H.out.len; omega
    have HS2 := Lib.hid (show sumP g.rs (p.take (k + 1)) = sm + ct by rw [sumP_step HI.out, HS.out, ← HAE.out])
    have HW2 : walkP g.rs 0 (p.take (k + 1)) = some t := by rw [walkP_step HI.out hq, if_pos ⟨by omega, h1, h2⟩, ← hae]
    have hsb := sumP_le HO.out HW2
    have hlb := walkP_range HO.out (Int.le_refl 0) (by omega) HW2
    have hsb2 : sm + ct ≤ 2000000000 := by
      have h3 := HS2.out
      have h4 := hlb.1
      have h5 := hsb.2
      omega
    clear hsb hlb ha hae HW2 hr hq h1 h2
    go_wp2_with fail
    go_quiet (fail)
    go_wp2_with fail
    go_roundw
    case rel => exact ⟨k + 1, sm + ct, by go_num, by go_num, by omega, by omega, by omega, HS2.out, V.out.go (bdrewN _ _)⟩
    case measure => simp [intOf]; omega
end Go.Proofs.Ytdoobdfanalnbaa
