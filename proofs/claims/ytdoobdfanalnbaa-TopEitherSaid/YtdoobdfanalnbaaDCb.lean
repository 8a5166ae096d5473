/- Contracts of the program: the cost of a path, whether a list is one. -/
import Derived.Test.YtdoobdfanalnbaaDCa
namespace Go.Proofs.Ytdoobdfanalnbaa
open Go.RowKit
set_option linter.unusedVariables false
set_option linter.unusedSimpArgs false
set_option maxRecDepth 100000

theorem ret_pair {k k2 : IntKind} {a b c d : Int} (h : a = c) (h2 : b = d) : Ending.returned (.tuple #[.int k a, .int k2 b]) = .returned (.tuple #[.int k c, .int k2 d]) := by rw [h, h2]
theorem cst_bad {g : Gr} {p : List Int} (h : ¬ g.vE = 0) : g.cst p = (0, g.vE) := if_pos h
theorem cst_no {g : Gr} {p : List Int} (h : g.vE = 0) (h2 : ¬ walkP g.rs 0 p = some (g.n - 1)) : g.cst p = (0, 1) := by unfold Gr.cst; rw [if_neg (by omega), if_neg h2]
theorem cst_yes {g : Gr} {p : List Int} (h : g.vE = 0) (h2 : walkP g.rs 0 p = some (g.n - 1)) : g.cst p = (sumP g.rs p, 0) := by unfold Gr.cst; rw [if_neg (by omega), if_pos h2]
theorem cst_stop {g : Gr} {p : List Int} {k : Nat} {i q : Int} (h : g.vE = 0) (hi : p[k]? = some i) (hw : walkP g.rs 0 (p.take k) = some q) (hn : ¬ (0 ≤ i ∧ i < (g.rs.length : Int) ∧ (arc g.rs i).f = q)) : g.cst p = (0, 1) := by
  refine cst_no h ?_
  have := walkP_step hi hw
  rw [if_neg hn] at this
  rw [walkP_none this]
  intro e; cases e
theorem chk_cst (g : Gr) (p : List Int) : g.chk p = decide ((g.cst p).2 = 0) := by
  unfold Gr.chk Gr.cst
  by_cases h : g.vE = 0
  · by_cases h2 : walkP g.rs 0 p = some (g.n - 1)
    · rw [if_neg (by omega), if_pos h2]; simp [h, h2]
    · rw [if_neg (by omega), if_neg h2]; simp [h2]
  · rw [if_pos h]; simp [h]
set_option maxHeartbeats 16000000 in
theorem cost_any (g : Gr) (A : Option Addr) (n c : Nat) (B : Option Addr) (m d : Nat) (p : List Int) (w : World) (h : GrIn w A n c g) (hp : p.length = m) (hm : m ≤ 17592186044416) (hB : CellsIn w B (ints p)) :
    Calls Try.prog 33 #[gval g A n c, .slice B m d] w fun e w' => e = .returned (.tuple #[.int .i64 (g.cst p).1, .int .i64 (g.cst p).2]) ∧ Below w.heap.size w w' := by
  have H := Lib.hid h
  have HP := Lib.hid hp
  have HB := Lib.hid hB
  have hcs := h.small
  have hcn := h.cap
  clear h hp hB
  obtain ⟨wz, hwz⟩ : ∃ z, z = w.alloc (.cells #[.int .i64 g.n, .slice A n c] 24) := ⟨_, rfl⟩
  have HZ := Lib.hid hwz
  have V := Lib.hid (show Hp w [gbox w.heap.size g A n c] wz by rw [hwz]; exact (Hp.start w).gnew g A n c)
  clear hwz
  by_cases hv : g.vE = 0
  case neg =>
    have HE := Lib.hid (cst_bad (p := p) hv)
    have g1 : (g.vE != 0) = true := bne_yes hv
    have g2 : (g.vE == 0) = false := beq_no hv
    clear hv
    go_enter Try.func33, Try.ntmps33
    go_upto_region 1 with fail
    rw [← HZ.out]
    clear HZ
    obtain ⟨r0, r1, r9⟩ := V.out.gb (i := 0) rfl
    go_wp2_with fail
    refine (valid_any g A n c _ (H.out.below V.out.below)).mono ?_
    rintro e w1 ⟨rfl, b1⟩
    have V1 := Lib.hid (V.out.go b1)
    clear b1 r0 r1 r9
    obtain ⟨r0, r1, r9⟩ := V1.out.gb (i := 0) rfl
    go_wp2_with fail
    exact bodyPost_ret (v := .tuple #[.int .i64 0, .int .i64 g.vE]) (by simp [results, Try.results33, go_sem]) rfl ⟨by rw [HE.out], V1.out.below⟩
  have HO := Lib.hid (Gr.ok hv)
  have HV := Lib.hid hv
  have n1 := (Gr.ok hv).n1
  have n2 := (Gr.ok hv).n2
  have hnl : n ≤ 6000 := by have := (Gr.ok hv).len; have := H.out.len; omega
  go_enter Try.func33, Try.ntmps33
  go_upto_region 1 with fail
  rw [← HZ.out]
  clear HZ
  clear hv
  obtain ⟨r0, r1, r9⟩ := V.out.gb (i := 0) rfl
  go_wp2_with fail
  refine (valid_any g A n c _ (H.out.below V.out.below)).mono ?_
  rintro e w1 ⟨rfl, b1⟩
  have V1 := Lib.hid (V.out.go b1)
  clear b1 r0 r1 r9
  rw [HV.out]
  obtain ⟨r0, r1, r9⟩ := V1.out.gb (i := 0) rfl
  go_wp2_with fail
  have H1 := Lib.hid (show walkP g.rs 0 (p.take 0) = some 0 ∧ sumP g.rs (p.take 0) = 0 from ⟨rfl, rfl⟩)
  clear r0 r1 r9
  go_loopw [18, 7, 8] (fun cv q s wr => ∃ (k : Nat) (at' sum : Int), cv = .int .i64 (k : Int) ∧ q = .int .i64 at' ∧ s = .int .i64 sum ∧ k ≤ m ∧ 0 ≤ sum ∧ sum ≤ 2000000000 ∧ (k : Int) ≤ at' ∧ at' < g.n ∧ walkP g.rs 0 (p.take k) = some at' ∧ sumP g.rs (p.take k) = sum ∧ Hp w [gbox w.heap.size g A n c] wr) (fun cv _ _ _ => m - (intOf cv).toNat)
  case atStart => exact ⟨0, 0, 0, rfl, rfl, rfl, Nat.zero_le _, by omega, by omega, by omega, by omega, H1.out.1, H1.out.2, V1.out⟩
  case round =>
    clear H1 V V1
    obtain ⟨k, q, sm, rfl, rfl, rfl, hkm, hs0, hs1, hq0, hq1, hwk, hsm, hV⟩ := hrel
    obtain ⟨wi, rfl⟩ : ∃ wi : World, wi = wr := ⟨_, rfl⟩
    have V := Lib.hid hV
    have HW := Lib.hid hwk
    have HS := Lib.hid hsm
    clear hV hwk hsm
    obtain ⟨r0, r1, r9⟩ := V.out.gb (i := 0) rfl
    by_cases hlt : k < m
    case neg =>
      obtain rfl : k = m := by omega
      have HWW := Lib.hid (show walkP g.rs 0 p = some q by have := HW.out; rwa [List.take_of_length_le (by have := HP.out; omega)] at this)
      have HSS := Lib.hid (show sumP g.rs p = sm by have := HS.out; rwa [List.take_of_length_le (by have := HP.out; omega)] at this)
      by_cases hq : q = g.n - 1
      · have HE := Lib.hid (cst_yes HV.out (by rw [HWW.out, hq]) : g.cst p = (sumP g.rs p, 0))
        have g1 : (q != g.n - 1) = false := bne_no hq
        have g2 : (q == g.n - 1) = true := beq_yes hq
        clear hq
        go_wp2_with fail
        refine (end_any g A n c _ n1 n2).mono ?_
        rintro e w2 ⟨rfl, b2⟩
        have V2 := Lib.hid (V.out.go b2)
        clear b2 r0 r1 r9
        obtain ⟨r0, r1, r9⟩ := V2.out.gb (i := 0) rfl
        go_wp2_with fail
        exact bodyPost_ret (v := .tuple #[.int .i64 sm, .int .i64 0]) (by simp [results, Try.results33, go_sem]) rfl ⟨by rw [HE.out, HSS.out], V2.out.below⟩
      · have HE := Lib.hid (cst_no HV.out (by rw [HWW.out]; intro e; injection e with e; exact hq e) : g.cst p = (0, 1))
        have g1 : (q != g.n - 1) = true := bne_yes hq
        have g2 : (q == g.n - 1) = false := beq_no hq
        clear hq
        go_wp2_with fail
        refine (end_any g A n c _ n1 n2).mono ?_
        rintro e w2 ⟨rfl, b2⟩
        have V2 := Lib.hid (V.out.go b2)
        clear b2 r0 r1 r9
        obtain ⟨r0, r1, r9⟩ := V2.out.gb (i := 0) rfl
        go_wp2_with fail
        exact bodyPost_ret (v := .tuple #[.int .i64 0, .int .i64 1]) (by simp [results, Try.results33, go_sem]) rfl ⟨by rw [HE.out], V2.out.below⟩
    obtain ⟨bp, op, rfl, hbp, cp⟩ := (HB.out.below V.out.below).int (j := k) (by rw [HP.out]; exact hlt)
    obtain ⟨i, hi⟩ : ∃ i, i = p.getD k 0 := ⟨_, rfl⟩
    rw [← hi] at cp
    have HI := Lib.hid (show p[k]? = some i by rw [hi, List.getD_eq_getElem?_getD, List.getElem?_eq_getElem (by rw [HP.out]; exact hlt)]; rfl)
    clear hi
    by_cases hin : 0 ≤ i ∧ i < (n : Int)
    case neg =>
      have HE := Lib.hid (cst_stop HV.out HI.out HW.out (fun hc => hin ⟨hc.1, by have := H.out.len; omega⟩))
      by_cases h0 : 0 ≤ i
      · have h1 : (n : Int) ≤ i := by omega
        clear hin
        go_wp2_with fail
        exact bodyPost_ret (v := .tuple #[.int .i64 0, .int .i64 1]) (by simp [results, Try.results33, go_sem]) rfl ⟨by rw [HE.out], V.out.below⟩
      · clear hin
        go_wp2_with fail
        exact bodyPost_ret (v := .tuple #[.int .i64 0, .int .i64 1]) (by simp [results, Try.results33, go_sem]) rfl ⟨by rw [HE.out], V.out.below⟩
    obtain ⟨h0, h1⟩ := hin
    obtain ⟨j, rfl⟩ := Int.eq_ofNat_of_zero_le h0
    obtain ⟨⟨f, t, ct⟩, b, off, ha, hae, hA, hb, c0, c1, c2⟩ := (H.out.below V.out.below).at (j := j) (by omega)
    subst hA
    dsimp only at c0 c1 c2
    have har := HO.out.arc _ (List.mem_of_getElem? ha)
    dsimp only at har
    have HAE := Lib.hid hae
    clear ha hae
    have hj3 : j * 3 ≤ 20000 := by omega
    have hjn : j < n := by omega
    by_cases hf : f = q
    case neg =>
      have HE := Lib.hid (cst_stop HV.out HI.out HW.out (fun hc => hf (by rw [← HAE.out] at hc; exact hc.2.2)))
      have g1 : (f != q) = true := bne_yes hf
      have g2 : (f == q) = false := beq_no hf
      clear hf
      go_wp2_with fail
      exact bodyPost_ret (v := .tuple #[.int .i64 0, .int .i64 1]) (by simp [results, Try.results33, go_sem]) rfl ⟨by rw [HE.out], V.out.below⟩
    subst hf
    have g1 : (f != f) = false := bne_no rfl
    have g2 : (f == f) = true := beq_yes rfl
    have HW2 := Lib.hid (show walkP g.rs 0 (p.take (k + 1)) = some t by rw [walkP_step HI.out HW.out, if_pos ⟨by omega, by have := H.out.len; omega, by rw [← HAE.out]⟩, ← HAE.out])
    have HS2 := Lib.hid (show sumP g.rs (p.take (k + 1)) = sm + ct by rw [sumP_step HI.out, HS.out, ← HAE.out])
    have hsb := sumP_le HO.out HW2.out
    have hlb := walkP_range HO.out (Int.le_refl 0) (by omega) HW2.out
    have HL := Lib.hid (show (p.take (k + 1)).length ≤ k + 1 from List.length_take_le _ _)
    have hsb2 : sm + ct ≤ 2000000000 := by
      have h3 := HS2.out
      have h4 := hlb.1
      have h5 := hsb.2
      omega
    clear hsb hlb
    go_wp2_with fail
    go_roundw
    case rel => exact ⟨k + 1, t, sm + ct, by go_num, rfl, by go_num, by omega, by omega, by omega, by omega, by omega, HW2.out, HS2.out, V.out⟩
    case measure => simp [intOf]; omega
theorem check_any (g : Gr) (A : Option Addr) (n c : Nat) (B : Option Addr) (m d : Nat) (p : List Int) (w : World) (h : GrIn w A n c g) (hp : p.length = m) (hm : m ≤ 17592186044416) (hB : CellsIn w B (ints p)) :
    Calls Try.prog 47 #[gval g A n c, .slice B m d] w fun e w' => e = .returned (.bool (g.chk p)) ∧ Below w.heap.size w w' := by
  have H := Lib.hid h
  have HB := Lib.hid hB
  have HE := Lib.hid (chk_cst g p)
  clear h hB
  obtain ⟨wz, hwz⟩ : ∃ z, z = w.alloc (.cells #[.int .i64 g.n, .slice A n c] 24) := ⟨_, rfl⟩
  have HZ := Lib.hid hwz
  have V := Lib.hid (show Hp w [gbox w.heap.size g A n c] wz by rw [hwz]; exact (Hp.start w).gnew g A n c)
  clear hwz
  go_enter Try.func47, Try.ntmps47
  go_upto_region 1 with fail
  rw [← HZ.out]
  clear HZ
  obtain ⟨r0, r1, r9⟩ := V.out.gb (i := 0) rfl
  go_wp2_with fail
  refine (cost_any g A n c B m d p _ (H.out.below V.out.below) hp hm (HB.out.below V.out.below)).mono ?_
  rintro e w1 ⟨rfl, b1⟩
  have V1 := Lib.hid (V.out.go b1)
  clear b1 r0 r1 r9
  obtain ⟨x, hx⟩ : ∃ x, x = (g.cst p).2 := ⟨_, rfl⟩
  rw [← hx]
  have HX := Lib.hid hx
  clear hx
  by_cases h0 : x = 0
  · have g1 : (x == 0) = true := beq_yes h0
    have HF := Lib.hid (show g.chk p = true by rw [HE.out, ← HX.out]; exact decide_eq_true h0)
    clear h0
    go_wp2_with fail
    go_ret
    exact ⟨ret_bool HF.out.symm, V1.out.below⟩
  · have g1 : (x == 0) = false := beq_no h0
    have HF := Lib.hid (show g.chk p = false by rw [HE.out, ← HX.out]; exact decide_eq_false h0)
    clear h0
    go_wp2_with fail
    go_ret
    exact ⟨ret_bool HF.out.symm, V1.out.below⟩
end Go.Proofs.Ytdoobdfanalnbaa
