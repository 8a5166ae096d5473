/- Contracts of the program: what is reached; cuts. -/
import Derived.Test.YtdoobdfanalnbaaDCl
import Derived.Test.YtdoobdfanalnbaaDAd
namespace Go.Proofs.Ytdoobdfanalnbaa
open Go.RowKit
set_option linter.unusedVariables false
set_option linter.unusedSimpArgs false
set_option maxRecDepth 100000

/-- A list of numbers that a call made. -/
def NumsP (W : World) (L : List Int) (e : Ending) (w' : World) : Prop := ∃ (A : Option Addr) (n c : Nat), e = .returned (.slice A n c) ∧ L.length = n ∧ Hp W [nums A n c L] w'
set_option maxHeartbeats 16000000 in
theorem members_any (A : Option Addr) (n c : Nat) (L : List Bool) (w : World) (hn : L.length = n) (hb : n ≤ 1000000) (hA : CellsIn w A (bools L)) :
    Calls Try.prog 64 #[.slice A n c] w (NumsP w (memL L)) := by
  have HN := Lib.hid hn
  have HA := Lib.hid hA
  clear hn hA
  go_enter Try.func64, Try.ntmps64
  go_wp2_with fail
  have V := Lib.hid (show Hp w [nums none 0 0 (memL (L.take 0))] w from (Hp.start w).nil_row _ rfl rfl rfl)
  have HZ := Lib.hid (show (memL (L.take 0)).length = 0 from rfl)
  go_loopw [8, 3] (fun cv sv wr => ∃ (k : Nat) (B : Option Addr) (m d : Nat), cv = .int .i64 (k : Int) ∧ sv = .slice B m d ∧ k ≤ n ∧ (memL (L.take k)).length = m ∧ Hp w [nums B m d (memL (L.take k))] wr) (fun cv _ _ => n - (intOf cv).toNat)
  case atStart => exact ⟨0, none, 0, 0, rfl, rfl, Nat.zero_le _, HZ.out, V.out⟩
  case round =>
    clear HZ V
    obtain ⟨k, B, m, d, rfl, rfl, hkn, hm, hV⟩ := hrel
    obtain ⟨wi, rfl⟩ : ∃ wi : World, wi = wr := ⟨_, rfl⟩
    have V := Lib.hid hV
    have HM := Lib.hid hm
    clear hV hm
    by_cases hlt : k < n
    case neg =>
      obtain rfl : k = n := by omega
      go_wp2_with fail
      go_ret
      have hh := V.out
      have h2 := HM.out
      rw [List.take_of_length_le (by rw [HN.out]; exact Nat.le_refl _)] at hh h2
      exact ⟨B, m, d, rfl, h2, hh⟩
    obtain ⟨b, off, rfl, hbl, hc⟩ := (HA.out.below V.out.below).bool (j := k) (by rw [HN.out]; exact hlt)
    obtain ⟨x, hx⟩ : ∃ x, x = L.getD k false := ⟨_, rfl⟩
    rw [← hx] at hc
    have HX := Lib.hid (show L[k]? = some x by rw [hx, List.getD_eq_getElem?_getD, List.getElem?_eq_getElem (by rw [HN.out]; exact hlt)]; rfl)
    have hm2 : m ≤ 1000000 := by have h1 := HM.out; have h2 := memL_len (L.take k); rw [List.length_take] at h2; have h3 := HN.out; omega
    clear hx
    cases x with
    | false =>
      have HS := Lib.hid (show memL (L.take (k + 1)) = memL (L.take k) by rw [memL_step HX.out, if_neg (by simp), List.append_nil])
      go_wp2_with fail
      go_roundw
      case rel => exact ⟨k + 1, B, m, d, by go_num, rfl, by omega, by rw [HS.out]; exact HM.out, by rw [HS.out]; exact V.out⟩
      case measure => simp [intOf]; omega
    | true =>
      have HS := Lib.hid (show memL (L.take (k + 1)) = memL (L.take k) ++ [(k : Int)] by rw [memL_step HX.out, if_pos rfl])
      obtain ⟨wy, hwy⟩ : ∃ z, z = wi.alloc (.cells #[.int .i64 (k : Int)] 3) := ⟨_, rfl⟩
      have V2 := Lib.hid (show Hp w [box 3 wi.heap.size [.int .i64 (k : Int)], nums B m d (memL (L.take k))] wy by rw [hwy]; exact V.out.box_new _ _)
      have y0 := (V2.out.box_at (i := 0) (j := 0) rfl rfl).1
      obtain ⟨g5, cap5, w5, hr5, hv5, _⟩ := run_app_num V2.out (i := 1) rfl 27 (k : Int) y0 (by omega)
      have V3 := Lib.hid (show Hp w [nums (some ⟨g5, 0, none⟩) (m + 1) cap5 (memL (L.take k) ++ [(k : Int)])] w5 from hv5.tail)
      rw [← HS.out] at V3
      have HM3 := Lib.hid (show (memL (L.take (k + 1))).length = m + 1 by rw [HS.out, List.length_append, HM.out]; rfl)
      have HY := Lib.hid hwy
      have HR5 := Lib.hid hr5
      clear hwy y0 hv5 hr5
      go_wp2_with (at_builtin; rw [← HY.out]; refine wpList_app_run rfl (.tmp 14) (.tmp 16) 27 rfl HR5.out rfl rfl ?_)
      go_roundw
      case rel => exact ⟨k + 1, some ⟨g5, 0, none⟩, m + 1, cap5, by go_num, rfl, by omega, HM3.out, V3.out⟩
      case measure => simp [intOf]; omega
/-- What reach returns. -/
def ReachPost (g : Gr) (w : World) (e : Ending) (w' : World) : Prop := ∃ gr : Nat, e = .returned (.slice (some ⟨gr, 0, none⟩) g.n.toNat g.n.toNat) ∧ Hp w [flags (some ⟨gr, 0, none⟩) g.n.toNat g.n.toNat g.rc] w'
set_option maxHeartbeats 32000000 in
theorem reach_any (g : Gr) (A : Option Addr) (n c : Nat) (w : World) (h : GrIn w A n c g) (hO : g.Ok) :
    Calls Try.prog 61 #[gval g A n c] w (ReachPost g w) := by
  have H := Lib.hid h
  have hcs := h.small
  have hcn := h.cap
  have n1 := hO.n1
  have n2 := hO.n2
  have hnl : n ≤ 6000 := by have := hO.len; have := h.len; omega
  have HO := Lib.hid hO
  have HL := Lib.hid h.len
  clear h hO
  obtain ⟨N, hN⟩ : ∃ N, N = g.n.toNat := ⟨_, rfl⟩
  have HN := Lib.hid hN
  have hgN : g.n = (N : Int) := by omega
  have hN1 : 1 ≤ N := by omega
  have hN2 : N ≤ 2000 := by omega
  have HGN := Lib.hid hgN
  have hgv : gval g A n c = .agg #[.int .i64 (N : Int), .slice A n c] := by rw [← hgN]
  have HOUT := Lib.hid (show ∀ w, GrIn w A n c g → Calls Try.prog 99 #[.agg #[.int .i64 (N : Int), .slice A n c]] w fun e w' => ∃ (go : Nat) (vs : List (Option Addr × Nat)), e = .returned (.slice (some ⟨go, 0, none⟩) N N) ∧ vs.length = N ∧ Hp w (rvals (some ⟨go, 0, none⟩) N N vs (g.rowsK n) :: rowsG vs (g.rowsK n)) w' by
    intro w hh
    have := outgoing_any g A n c w hh HO.out
    rw [hgv] at this
    refine this.mono ?_
    rintro e w' ⟨go, vs, h1, h2, h3⟩
    rw [← HN.out, HL.out] at *
    exact ⟨go, vs, h1, h2, h3⟩)
  rw [hgv]
  obtain ⟨wz, hwz⟩ : ∃ z, z = w.alloc (.cells #[.int .i64 (N : Int), .slice A n c] 24) := ⟨_, rfl⟩
  have HZ := Lib.hid hwz
  have V := Lib.hid (show Hp w [box 24 w.heap.size [.int .i64 (N : Int), .slice A n c]] wz by rw [hwz]; exact (Hp.start w).box_new _ _)
  clear hwz hN hgN n1 n2 hgv
  obtain ⟨wy, hwy⟩ : ∃ z, z = wz.alloc (.cells (Array.replicate N (.bool false)) 4) := ⟨_, rfl⟩
  have HY := Lib.hid hwy
  have VY := Lib.hid (show Hp w [flags (some ⟨wz.heap.size, 0, none⟩) N N (List.replicate N false), box 24 w.heap.size [.int .i64 (N : Int), .slice A n c]] wy by
    rw [hwy]; exact V.out.made_flagsA N (by omega))
  have hmk := fun w => make_bools (N : Int) N rfl (by omega) w
  obtain ⟨gr, hgr⟩ : ∃ gr, gr = wz.heap.size := ⟨_, rfl⟩
  have hwg : w.heap.size < gr := by have := (V.out.box_at (i := 0) (j := 0) rfl rfl).2.2; omega
  rw [← hgr] at VY
  clear hwy
  go_enter Try.func61, Try.ntmps61
  go_upto_region 1 with fail
  rw [← HZ.out]
  clear HZ
  obtain ⟨r0, _, r9⟩ := V.out.box_at (i := 0) (j := 0) rfl rfl
  go_upto_region 2 with fail
  rw [← HY.out, ← hgr]
  clear HY V hmk r0 r9 hgr
  obtain ⟨x1, x2, x3⟩ := VY.out.flag_at (i := 0) rfl (j := 0) (by simp; omega)
  have V2 := VY.out.flag_set (i := 0) rfl 0 true
  obtain ⟨w2, hw2e⟩ : ∃ z, z = wy.setCell ⟨gr, 0, none⟩ (.bool true) := ⟨_, rfl⟩
  have H2 := Lib.hid hw2e
  have V3 := Lib.hid (show Hp w [flags (some ⟨gr, 0, none⟩) N N (g.rcK 0), box 24 w.heap.size [.int .i64 (N : Int), .slice A n c]] w2 by
    rw [hw2e, show g.rcK 0 = (List.replicate N false).set 0 true by unfold Gr.rcK initR; rw [HN.out]; rfl]; exact V2)
  clear hw2e V2
  go_upto_region 3 with fail
  rw [← H2.out]
  clear H2 VY x1 x2 x3
  obtain ⟨r0, _, r9⟩ := V3.out.box_at (i := 1) (j := 0) rfl rfl
  obtain ⟨r1, _, _⟩ := V3.out.box_at (i := 1) (j := 1) rfl rfl
  go_wp2_with fail
  refine (HOUT.out _ (H.out.below V3.out.below)).mono ?_
  rintro e w3 ⟨go, vs, rfl, hvs, hp3⟩
  have HVS := Lib.hid hvs
  have V4 := Lib.hid (show Hp w ([flags (some ⟨gr, 0, none⟩) N N (g.rcK 0), box 24 w.heap.size [.int .i64 (N : Int), .slice A n c], rvals (some ⟨go, 0, none⟩) N N vs (g.rowsK n)] ++ rowsG vs (g.rowsK n)) w3 from (V3.out.join hp3).rot)
  clear hp3 hvs V3 r0 r1 r9
  go_wp2_with fail
  have HROW := Lib.hid (show ∀ j, j < N → ∃ v, vs[j]? = some v ∧ (g.rowsK n)[j]? = some (outI g.rs j) from fun j hj => by
    refine ⟨_, List.getElem?_eq_getElem (by rw [HVS.out]; exact hj), ?_⟩
    rw [rowsK_get (by rw [← HN.out]; exact hj), ← HL.out, List.take_length])
  go_loopw [16] (fun cv wr => ∃ k : Nat, cv = .int .i64 (k : Int) ∧ k ≤ N ∧ Hp w ([flags (some ⟨gr, 0, none⟩) N N (g.rcK k), box 24 w.heap.size [.int .i64 (N : Int), .slice A n c], rvals (some ⟨go, 0, none⟩) N N vs (g.rowsK n)] ++ rowsG vs (g.rowsK n)) wr) (fun cv _ => N - (intOf cv).toNat)
  case atStart => exact ⟨0, rfl, Nat.zero_le _, V4.out⟩
  case round =>
    clear V4
    obtain ⟨k, rfl, hkN, hV⟩ := hrel
    obtain ⟨wi, rfl⟩ : ∃ wi : World, wi = wr := ⟨_, rfl⟩
    have V := Lib.hid hV
    clear hV
    by_cases hlt : k < N
    case neg =>
      obtain rfl : k = N := by omega
      go_wp2_with fail
      go_ret
      refine ⟨gr, by rw [← HN.out]; rfl, ?_⟩
      unfold Gr.rc
      rw [← HN.out]
      exact V.out.front (l1 := [flags (some ⟨gr, 0, none⟩) k k (g.rcK k)])
    obtain ⟨v, hv1, hv2⟩ := HROW.out k hlt
    obtain ⟨row, hrow⟩ : ∃ row, row = outI g.rs (k : Int) := ⟨_, rfl⟩
    rw [← hrow] at hv2
    have HRW := Lib.hid hrow
    have HV1 := Lib.hid hv1
    have HV2 := Lib.hid hv2
    obtain ⟨vA, vc⟩ := v
    obtain ⟨RL, hRL⟩ : ∃ RL, RL = row.length := ⟨_, rfl⟩
    have HRL := Lib.hid hRL
    have hRL2 : RL ≤ 6000 := by rw [hRL, hrow]; exact Nat.le_trans (outI_len _ _) (by have := HO.out.len; omega)
    obtain ⟨x1, _, x3⟩ := V.out.rv_at (i := 2) rfl hv1 hv2
    dsimp only at x1
    rw [← hRL] at x1
    obtain ⟨Lk, hLk⟩ : ∃ Lk, Lk = g.rcK k := ⟨_, rfl⟩
    have HLen := Lib.hid (show Lk.length = N by rw [hLk, rcK_len, HN.out])
    rw [← hLk] at V
    obtain ⟨y1, y2, y3⟩ := V.out.flag_at (i := 0) rfl (j := k) (by rw [HLen.out]; exact hlt)
    obtain ⟨x, hx⟩ : ∃ x, x = Lk.getD k false := ⟨_, rfl⟩
    rw [← hx] at y1
    clear hv1 hv2 hrow hRL
    cases x with
    | false =>
      have HS := Lib.hid (show g.rcK (k + 1) = Lk by rw [rcK_succ, ← hLk]; unfold rcStep; rw [← hx]; rfl)
      clear hx hLk
      go_wp2_with fail
      go_roundw
      case rel => exact ⟨k + 1, by go_num, by omega, by rw [HS.out]; exact V.out⟩
      case measure => simp [intOf]; omega
    | true =>
      have HS := Lib.hid (show g.rcK (k + 1) = row.foldl (rcI g) Lk by rw [rcK_succ, ← hLk, HRW.out]; unfold rcStep; rw [← hx, if_pos rfl])
      clear hx hLk
      go_wp2_with fail
      clear x1 x3 y1 y2 y3
      go_loopw [28] (fun cv wr => ∃ i : Nat, cv = .int .i64 (i : Int) ∧ i ≤ RL ∧ Hp w ([flags (some ⟨gr, 0, none⟩) N N ((row.take i).foldl (rcI g) Lk), box 24 w.heap.size [.int .i64 (N : Int), .slice A n c], rvals (some ⟨go, 0, none⟩) N N vs (g.rowsK n)] ++ rowsG vs (g.rowsK n)) wr) (fun cv _ => RL - (intOf cv).toNat)
      case atStart => exact ⟨0, rfl, Nat.zero_le _, V.out⟩
      case round =>
        clear V
        obtain ⟨i, rfl, hin, hV⟩ := hrel
        obtain ⟨wj, rfl⟩ : ∃ wj : World, wj = wr := ⟨_, rfl⟩
        have V := Lib.hid hV
        clear hV
        by_cases hilt : i < RL
        case neg =>
          obtain rfl : i = RL := by omega
          have V5 := V.out
          rw [List.take_of_length_le (by rw [← HRL.out]; exact Nat.le_refl _), ← HS.out] at V5
          have V6 := Lib.hid V5
          clear V5
          go_wp2_with fail
          go_roundw
          case rel => exact ⟨k + 1, by go_num, by omega, V6.out⟩
          case measure => simp [intOf]; omega
        have hir : i < row.length := by rw [← HRL.out]; exact hilt
        have hci : CellsIn wj vA (ints row) := V.out.cells (i := 3 + k) (by rw [List.getElem?_append_right (by simp)]; simpa using rowsG_get HV1.out HV2.out) rfl
        obtain ⟨br, or', rfl, hbr, hcr⟩ := hci.int (j := i) hir
        obtain ⟨I', hI'⟩ : ∃ I', row[i]? = some I' := ⟨_, List.getElem?_eq_getElem hir⟩
        have hIm : I' ∈ outI g.rs (k : Int) := by rw [← HRW.out]; exact List.mem_of_getElem? hI'
        obtain ⟨i0, i1, _⟩ := outI_mem.1 hIm
        obtain ⟨I, rfl⟩ := Int.eq_ofNat_of_zero_le i0
        rw [List.getD_eq_getElem?_getD, hI'] at hcr
        obtain ⟨⟨af, at', ac⟩, b, off, ha, hae, hA, hbw, c0', c1', c2'⟩ := H.out.at (j := I) (by have := HL.out; omega)
        have har := HO.out.arc _ (List.mem_of_getElem? ha)
        dsimp only at har c1'
        have c1 := (V.out.below.cell (p := ⟨b, off + I * 3 + 1, none⟩) hbw).trans c1'
        have hb := Nat.lt_of_lt_of_le hbw V.out.below.size
        have hIn : I < n := by have := HL.out; omega
        obtain ⟨T, rfl⟩ := Int.eq_ofNat_of_zero_le (show 0 ≤ at' by omega)
        have hTN : T < N := by have := HGN.out; omega
        have HL2 := Lib.hid (show ((row.take i).foldl (rcI g) Lk).length = N by rw [rcI_len, HLen.out])
        have HNEW := Lib.hid (show ((row.take i).foldl (rcI g) Lk).set T true = (row.take (i + 1)).foldl (rcI g) Lk by rw [rcI_take hI', ← hae]; rfl)
        obtain ⟨r1, _, r9⟩ := V.out.box_at (i := 1) (j := 1) rfl rfl
        obtain ⟨z1, z2, z3⟩ := V.out.flag_at (i := 0) rfl (j := T) (by rw [HL2.out]; exact hTN)
        have V5 := V.out.flag_set (i := 0) rfl T true
        rw [HNEW.out] at V5
        have V6 := Lib.hid V5
        have hI3 : I * 3 ≤ 20000 := by omega
        subst hA
        clear hir hci hI' hIm i0 i1 ha hae har c0' c1' c2' V5
        go_wp2_with fail
        go_roundw
        case rel => exact ⟨i + 1, by go_num, by omega, V6.out⟩
        case measure => simp [intOf]; omega
/-- What Cut returns. -/
def CutPost (g : Gr) (w : World) (e : Ending) (w' : World) : Prop := ∃ (A : Option Addr) (n c : Nat), e = .returned (.tuple #[.slice A n c, .int .i64 g.cutV.2]) ∧ g.cutV.1.length = n ∧ Hp w [nums A n c g.cutV.1] w'
set_option maxHeartbeats 16000000 in
theorem cut_any (g : Gr) (A : Option Addr) (n c : Nat) (w : World) (h : GrIn w A n c g) :
    Calls Try.prog 45 #[gval g A n c] w (CutPost g w) := by
  have H := Lib.hid h
  clear h
  obtain ⟨wz, hwz⟩ : ∃ z, z = w.alloc (.cells #[.int .i64 g.n, .slice A n c] 24) := ⟨_, rfl⟩
  have HZ := Lib.hid hwz
  have V := Lib.hid (show Hp w [gbox w.heap.size g A n c] wz by rw [hwz]; exact (Hp.start w).gnew g A n c)
  clear hwz
  go_enter Try.func45, Try.ntmps45
  go_upto_region 1 with fail
  rw [← HZ.out]
  clear HZ
  obtain ⟨r0, r1, r9⟩ := V.out.gb (i := 0) rfl
  go_wp2_with fail
  refine (valid_any g A n c _ (H.out.below V.out.below)).mono ?_
  rintro e w1 ⟨rfl, b1⟩
  have V1 := Lib.hid (V.out.go b1)
  clear b1 r0 r1 r9 V
  obtain ⟨r0, r1, r9⟩ := V1.out.gb (i := 0) rfl
  by_cases hv : g.vE = 0
  case neg =>
    have HE := Lib.hid (show g.cutV = ([], g.vE) from if_pos hv)
    have HB := Lib.hid (show g.cutV.1.length = 0 by rw [HE.out]; rfl)
    have g1 : (g.vE != 0) = true := bne_yes hv
    have g2 : (g.vE == 0) = false := beq_no hv
    clear hv
    go_wp2_with fail
    exact bodyPost_ret (v := .tuple #[.slice none 0 0, .int .i64 g.vE]) (by simp [results, Try.results45, go_sem]) rfl ⟨none, 0, 0, by rw [HE.out], HB.out, by rw [HE.out]; exact ((Hp.start w).go V1.out.below).nil_row (nums none 0 0 []) rfl rfl rfl⟩
  have HV := Lib.hid hv
  have HO := Lib.hid (Gr.ok hv)
  rw [hv]
  clear hv
  go_wp2_with fail
  refine (reach_any g A n c _ (H.out.below V1.out.below) HO.out).mono ?_
  rintro e w2 ⟨gr, rfl, hp⟩
  obtain ⟨N, hN⟩ : ∃ N, N = g.n.toNat := ⟨_, rfl⟩
  rw [← hN] at hp ⊢
  have V2 := Lib.hid (V1.out.join hp)
  have n1 := HO.out.n1
  have n2 := HO.out.n2
  have hN1 : 1 ≤ N := by omega
  have hN2 : N ≤ 2000 := by omega
  have HGN := Lib.hid (show g.n = (N : Int) by omega)
  clear hp V1 r0 r1 r9
  obtain ⟨E, hE⟩ : ∃ E, E = N - 1 := ⟨_, rfl⟩
  have hEN : E < N := by omega
  have HEN := Lib.hid (show g.n - 1 = (E : Int) by omega)
  have HE2 := Lib.hid (show (g.n - 1).toNat = E by omega)
  have HL := Lib.hid (show g.rc.length = N by rw [rc_len, hN])
  clear hE hN
  obtain ⟨r0, r1, r9⟩ := V2.out.gb (i := 1) rfl
  go_wp2_with fail
  refine (end_any g A n c _ n1 n2).mono ?_
  rintro e w3 ⟨rfl, b3⟩
  rw [HEN.out]
  have V3 := Lib.hid (V2.out.go b3)
  clear b3 r0 r1 r9 V2
  obtain ⟨x1, x2, x3⟩ := V3.out.flag_at (i := 0) rfl (j := E) (by rw [HL.out]; exact hEN)
  obtain ⟨x, hx⟩ : ∃ x, x = g.rc.getD E false := ⟨_, rfl⟩
  rw [← hx] at x1
  cases x with
  | true =>
    have HE := Lib.hid (show g.cutV = ([], 11) by unfold Gr.cutV; rw [if_neg (by have := HV.out; omega), HE2.out, ← hx, if_pos rfl])
    have HB := Lib.hid (show g.cutV.1.length = 0 by rw [HE.out]; rfl)
    clear hx
    go_wp2_with fail
    exact bodyPost_ret (v := .tuple #[.slice none 0 0, .int .i64 11]) (by simp [results, Try.results45, go_sem]) rfl ⟨none, 0, 0, by rw [HE.out], HB.out, by rw [HE.out]; exact ((Hp.start w).go V3.out.below).nil_row (nums none 0 0 []) rfl rfl rfl⟩
  | false =>
    have HE := Lib.hid (show g.cutV = (memL g.rc, 0) by unfold Gr.cutV; rw [if_neg (by have := HV.out; omega), HE2.out, ← hx, if_neg (by simp)])
    clear hx
    go_wp2_with fail
    refine (members_any _ _ _ g.rc _ HL.out (by omega) (V3.out.cells (i := 0) rfl rfl)).mono ?_
    rintro e w4 ⟨B, m, d, rfl, hm, hp4⟩
    have V4 := Lib.hid ((V3.out.join hp4).front (l1 := [nums B m d (memL g.rc)]))
    have HM := Lib.hid hm
    clear hp4 hm
    go_wp2_with fail
    exact bodyPost_ret (v := .tuple #[.slice B m d, .int .i64 0]) (by simp [results, Try.results45, go_sem]) rfl ⟨B, m, d, by rw [HE.out], by rw [HE.out]; exact HM.out, by rw [HE.out]; exact V4.out⟩
end Go.Proofs.Ytdoobdfanalnbaa
