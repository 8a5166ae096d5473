/- The walk of DagPaths. -/
import Derived.Test.YtefdklfflemofaaDDd
import Derived.Test.YtefdklfflemofaaDCb
import Derived.Test.YtefdklfflemofaaDCd
namespace Go.Proofs.Ytefdklfflemofaa
open Go.RowKit
set_option linter.unusedVariables false
set_option linter.unusedSimpArgs false
set_option maxRecDepth 100000

theorem pth_short {g : Gr} {p : List Int} (h : p ∈ g.pth.1) : g.vE = 0 ∧ p ∈ g.pv 0 := by
  unfold Gr.pth at h
  split at h
  · cases h
  · split at h
    · cases h
    · exact ⟨Classical.not_not.1 (by assumption), h⟩
theorem pth_len (g : Gr) : g.pth.1.length ≤ 2000 := by
  unfold Gr.pth
  split
  · exact Nat.zero_le _
  · rename_i hv
    have hv := Classical.not_not.1 hv
    split
    · exact Nat.zero_le _
    · rename_i hm
      have hO := Gr.ok hv
      have h1 := hO.n1
      have h2 := wy_len hO (q := 0) (Int.le_refl 0) (by omega)
      have h3 : g.wy 0 = min (((g.pv 0).length : Nat) : Int) 4611686018427387905 := h2
      show (g.pv 0).length ≤ 2000
      omega
theorem pth_rows {g : Gr} : ∀ row ∈ g.pth.1, row.length ≤ 17592186044416 := fun row hr => by
  obtain ⟨h1, h2⟩ := pth_short hr
  have hO := Gr.ok h1
  have := pv_short hO (q := 0) (Int.le_refl 0) (by have := hO.n1; omega) h2
  omega
theorem pth_chk {g : Gr} {p : List Int} (h : p ∈ g.pth.1) : g.chk p = true := by
  obtain ⟨h1, h2⟩ := pth_short h
  have hO := Gr.ok h1
  have h3 := (pv_iff hO p 0 (Int.le_refl 0) (by have := hO.n1; omega)).1 h2
  rw [chk_at h1]
  exact decide_eq_true h3
theorem pth_cnt {g : Gr} (h : g.pth.2 = 0) : g.cnt = (((g.pth.1.length : Nat) : Int), 0) := by
  unfold Gr.pth at h ⊢
  split
  · rename_i hv; rw [if_pos hv] at h; exact absurd h hv
  · rename_i hv
    rw [if_neg hv] at h
    have hv := Classical.not_not.1 hv
    split
    · rename_i hm; rw [if_pos hm] at h; cases h
    · rename_i hm
      have hO := Gr.ok hv
      have h1 := hO.n1
      have h2 := wy_len hO (q := 0) (Int.le_refl 0) (by omega)
      have h3 : g.wy 0 = min (((g.pv 0).length : Nat) : Int) 4611686018427387905 := h2
      rw [cnt_ok hv (by omega)]
      show (g.wy 0, (0 : Int)) = ((((g.pv 0).length : Nat) : Int), 0)
      rw [h3]
      congr 1
      omega

set_option maxHeartbeats 32000000 in
theorem lawpaths_any (g : Gr) (A : Option Addr) (n c : Nat) (w : World) (h : GrIn w A n c g) :
    Calls Try.prog 6 #[gval g A n c] w fun e w' => e = .returned (.bool true) ∧ Below w.heap.size w w' := by
  have H := Lib.hid h
  clear h
  obtain ⟨wz, hwz⟩ : ∃ z, z = w.alloc (.cells #[.int .i64 g.n, .slice A n c] 24) := ⟨_, rfl⟩
  have HZ := Lib.hid hwz
  have V := Lib.hid (show Hp w [gbox w.heap.size g A n c] wz by rw [hwz]; exact (Hp.start w).gnew g A n c)
  clear hwz
  go_enter Try.func6, Try.ntmps6
  go_upto_region 1 with fail
  rw [← HZ.out]
  clear HZ
  go_wp2_with fail
  refine (awake_any _).mono ?_
  rintro e w1 ⟨rfl, b1⟩
  have V1 := Lib.hid (V.out.go b1)
  clear b1 V
  obtain ⟨r0, r1, r9⟩ := V1.out.gb (i := 0) rfl
  go_wp2_with fail
  refine (rfew_any g A n c _ (H.out.below V1.out.below)).mono ?_
  rintro e w2 ⟨rfl, b2⟩
  have V2 := Lib.hid (V1.out.go b2)
  clear b2 r0 r1 r9 V1
  by_cases hfew : g.fewB = true
  case neg =>
    rw [show g.fewB = false by cases e : g.fewB; rfl; exact absurd e hfew]
    clear hfew
    go_wp2_with fail
    refine (awake_any _).mono ?_
    rintro e w3 ⟨rfl, b3⟩
    have V3 := Lib.hid (V2.out.go b3)
    clear b3
    go_wp2_with fail
    go_ret
    exact ⟨rfl, V3.out.below⟩
  have HFEW := Lib.hid hfew
  rw [hfew]
  clear hfew
  obtain ⟨r0, r1, r9⟩ := V2.out.gb (i := 0) rfl
  go_wp2_with fail
  refine (paths_any g A n c _ (H.out.below V2.out.below)).mono ?_
  rintro e w3 ⟨Q, qn, qc, us, rfl, hqn, hus, hp3⟩
  have R3 := Lib.hid (show RowsIn w3 Q g.pth.1 from rowsG_in (l := [rvals Q qn qc us g.pth.1]) (i := 0) hp3 rfl (by rw [hus, hqn]) pth_rows)
  have V3 := Lib.hid (V2.out.go hp3.below)
  have HQN := Lib.hid hqn
  have hqb : qn ≤ 2000 := by rw [hqn]; exact pth_len g
  clear hp3 hqn hus r0 r1 r9 V2
  obtain ⟨r0, r1, r9⟩ := V3.out.gb (i := 0) rfl
  go_wp2_with fail
  refine (rpaths_any g A n c _ (H.out.below V3.out.below)).mono ?_
  rintro e w4 ⟨Q2, m2, c2, us2, rfl, hm2, hus2, hp4⟩
  have R4 := Lib.hid (show RowsIn w4 Q2 g.pth.1 from rowsG_in (l := [rvals Q2 m2 c2 us2 g.pth.1]) (i := 0) hp4 rfl (by rw [hus2, hm2]) pth_rows)
  have R3' := Lib.hid (R3.out.below hp4.below)
  have V4 := Lib.hid (V3.out.go hp4.below)
  have HM2 := Lib.hid hm2
  have hmb : m2 ≤ 2000 := by rw [hm2]; exact pth_len g
  clear hp4 hm2 hus2 r0 r1 r9 V3 R3
  obtain ⟨pl, hpl⟩ : ∃ pl, pl = g.pth.1 := ⟨_, rfl⟩
  rw [← hpl] at R3' R4 HQN HM2
  have HPL := Lib.hid hpl
  obtain ⟨y, hy⟩ : ∃ y, y = g.pth.2 := ⟨_, rfl⟩
  rw [← hy]
  have HY := Lib.hid hy
  clear hpl hy
  have e1 : (y == y) = true := beq_yes rfl
  have e2 : (y != y) = false := bne_no rfl
  go_wp2_with fail
  refine (rlists_any Q Q2 qn qc m2 c2 pl pl _ HQN.out.symm HM2.out.symm (by omega) (by omega) R3'.out R4.out).mono ?_
  rintro e w5 ⟨rfl, b5⟩
  rw [decide_eq_true rfl]
  have V5 := Lib.hid (V4.out.go b5)
  have R5 := Lib.hid (R3'.out.below b5)
  have R5' := Lib.hid (R4.out.below b5)
  clear b5 V4 R3' R4
  by_cases hy0 : y = 0
  case neg =>
    have e3 : (y != 0) = true := bne_yes hy0
    have e4 : (y == 0) = false := beq_no hy0
    clear hy0
    go_wp2_with fail
    refine (rlists_any Q Q2 qn qc m2 c2 pl pl _ HQN.out.symm HM2.out.symm (by omega) (by omega) R5.out R5'.out).mono ?_
    rintro e w6 ⟨rfl, b6⟩
    rw [decide_eq_true rfl]
    have V6 := Lib.hid (V5.out.go b6)
    clear b6
    go_wp2_with fail
    go_ret
    exact ⟨rfl, V6.out.below⟩
  have e3 : (y != 0) = false := bne_no hy0
  have e4 : (y == 0) = true := beq_yes hy0
  have HC := Lib.hid (pth_cnt (g := g) (by rw [← HY.out]; exact hy0))
  rw [← HPL.out] at HC
  clear hy0
  go_wp2_with fail
  go_loopw [52] (fun cv wr => ∃ k : Nat, cv = .int .i64 (k : Int) ∧ k ≤ qn ∧ RowsIn wr Q pl ∧ Hp w [gbox w.heap.size g A n c] wr) (fun cv _ => qn - (intOf cv).toNat)
  case atStart => exact ⟨0, rfl, Nat.zero_le _, R5.out, V5.out⟩
  case round =>
    clear R5 R5' V5
    obtain ⟨k, rfl, hk, hR, hV⟩ := hrel
    obtain ⟨wi, rfl⟩ : ∃ wi : World, wi = wr := ⟨_, rfl⟩
    have V := Lib.hid hV
    have R := Lib.hid hR
    clear hV hR
    obtain ⟨r0, r1, r9⟩ := V.out.gb (i := 0) rfl
    by_cases hlt : k < qn
    case neg =>
      obtain rfl : k = qn := by omega
      go_wp2_with fail
      refine (count_any g A n c _ (H.out.below V.out.below)).mono ?_
      rintro e w6 ⟨rfl, b6⟩
      rw [HC.out]
      dsimp only
      rw [← HQN.out]
      have V6 := Lib.hid (V.out.go b6)
      clear b6
      have e5 : ((k : Int) == (k : Int)) = true := beq_yes rfl
      go_wp2_with fail
      go_ret
      exact ⟨rfl, V6.out.below⟩
    obtain ⟨p, hp⟩ : ∃ p, pl[k]? = some p := ⟨_, List.getElem?_eq_getElem (by rw [← HQN.out]; exact hlt)⟩
    obtain ⟨b, off, Aj, cj, rfl, hb, hc, _, _, hci⟩ := R.out.row hp
    obtain ⟨pn, hpn⟩ : ∃ pn, pn = p.length := ⟨_, rfl⟩
    rw [← hpn] at hc
    have HPN := Lib.hid hpn
    have HCI := Lib.hid hci
    have hmem : p ∈ g.pth.1 := by rw [← HPL.out]; exact List.mem_of_getElem? hp
    have HCK := Lib.hid (pth_chk hmem)
    have hpb : pn ≤ 17592186044416 := by rw [hpn]; exact pth_rows p hmem
    clear hp hpn hci hmem
    go_wp2_with fail
    refine (check_any g A n c Aj pn cj p _ (H.out.below V.out.below) HPN.out.symm hpb HCI.out).mono ?_
    rintro e w6 ⟨rfl, b6⟩
    rw [HCK.out]
    have V6 := Lib.hid (V.out.go b6)
    have R6 := Lib.hid (R.out.below b6)
    clear b6
    go_wp2_with fail
    go_roundw
    case rel => exact ⟨k + 1, by go_num, by omega, R6.out, V6.out⟩
    case measure => simp [intOf]; omega
end Go.Proofs.Ytefdklfflemofaa
