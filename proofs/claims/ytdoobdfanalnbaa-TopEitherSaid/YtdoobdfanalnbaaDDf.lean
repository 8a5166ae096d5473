/- Contracts of the reference: what is reached; cuts. -/
import Derived.Test.YtdoobdfanalnbaaDCo
import Derived.Test.YtdoobdfanalnbaaDCm
namespace Go.Proofs.Ytdoobdfanalnbaa
open Go.RowKit
set_option linter.unusedVariables false
set_option linter.unusedSimpArgs false
set_option maxRecDepth 100000

/-- What the reference's reached returns. -/
def RReachPost (g : Gr) (w : World) (e : Ending) (w' : World) : Prop := ∃ gr : Nat, e = .returned (.slice (some ⟨gr, 0, none⟩) g.n.toNat g.n.toNat) ∧ Hp w [flags (some ⟨gr, 0, none⟩) g.n.toNat g.n.toNat g.rc] w'
set_option maxHeartbeats 32000000 in
theorem rreached_any (g : Gr) (A : Option Addr) (n c : Nat) (w : World) (h : GrIn w A n c g) (hO : g.Ok) :
    Calls Try.prog 65 #[gval g A n c] w (RReachPost g w) := by
  have H := Lib.hid h
  have hcs := h.small
  have hcn := h.cap
  have n1 := hO.n1
  have n2 := hO.n2
  have hnl : n ≤ 6000 := by have := hO.len; have := h.len; omega
  have HO := Lib.hid hO
  have HL := Lib.hid h.len
  clear h hO
  obtain ⟨N, hN⟩ : ∃ N, N = g.n.toNat := ⟨_, rfl⟩
  have HN := Lib.hid hN
  have hgN : g.n = (N : Int) := by omega
  have hN1 : 1 ≤ N := by omega
  have hN2 : N ≤ 2000 := by omega
  have HGN := Lib.hid hgN
  have hgv : gval g A n c = .agg #[.int .i64 (N : Int), .slice A n c] := by rw [← hgN]
  rw [hgv]
  obtain ⟨wz, hwz⟩ : ∃ z, z = w.alloc (.cells #[.int .i64 (N : Int), .slice A n c] 24) := ⟨_, rfl⟩
  have HZ := Lib.hid hwz
  have V := Lib.hid (show Hp w [box 24 w.heap.size [.int .i64 (N : Int), .slice A n c]] wz by rw [hwz]; exact (Hp.start w).box_new _ _)
  clear hwz hN hgN n1 n2 hgv
  obtain ⟨wy, hwy⟩ : ∃ z, z = wz.alloc (.cells (Array.replicate N (.bool false)) 4) := ⟨_, rfl⟩
  have HY := Lib.hid hwy
  have VY := Lib.hid (show Hp w [flags (some ⟨wz.heap.size, 0, none⟩) N N (List.replicate N false), box 24 w.heap.size [.int .i64 (N : Int), .slice A n c]] wy by
    rw [hwy]; exact V.out.made_flagsA N (by omega))
  have hmk := fun w => make_bools (N : Int) N rfl (by omega) w
  obtain ⟨gr, hgr⟩ : ∃ gr, gr = wz.heap.size := ⟨_, rfl⟩
  have hwg : w.heap.size < gr := by have := (V.out.box_at (i := 0) (j := 0) rfl rfl).2.2; omega
  rw [← hgr] at VY
  clear hwy
  go_enter Try.func65, Try.ntmps65
  go_upto_region 1 with fail
  rw [← HZ.out]
  clear HZ
  obtain ⟨r0, _, r9⟩ := V.out.box_at (i := 0) (j := 0) rfl rfl
  go_upto_region 2 with fail
  rw [← HY.out, ← hgr]
  clear HY V hmk r0 r9 hgr
  obtain ⟨x1, x2, x3⟩ := VY.out.flag_at (i := 0) rfl (j := 0) (by simp; omega)
  have V2 := VY.out.flag_set (i := 0) rfl 0 true
  obtain ⟨w2, hw2e⟩ : ∃ z, z = wy.setCell ⟨gr, 0, none⟩ (.bool true) := ⟨_, rfl⟩
  have H2 := Lib.hid hw2e
  have V3 := Lib.hid (show Hp w [flags (some ⟨gr, 0, none⟩) N N (g.rcK 0), box 24 w.heap.size [.int .i64 (N : Int), .slice A n c]] w2 by
    rw [hw2e, show g.rcK 0 = (List.replicate N false).set 0 true by unfold Gr.rcK initR; rw [HN.out]; rfl]; exact V2)
  clear hw2e V2
  go_upto_region 3 with fail
  rw [← H2.out]
  clear H2 VY x1 x2 x3
  go_wp2_with fail
  go_loopw [4] (fun cv wr => ∃ k : Nat, cv = .int .i64 (k : Int) ∧ k ≤ N ∧ Hp w [flags (some ⟨gr, 0, none⟩) N N (g.rcK k), box 24 w.heap.size [.int .i64 (N : Int), .slice A n c]] wr) (fun cv _ => N - (intOf cv).toNat)
  case atStart => exact ⟨0, rfl, Nat.zero_le _, V3.out⟩
  case round =>
    clear V3
    obtain ⟨k, rfl, hkN, hV⟩ := hrel
    obtain ⟨wi, rfl⟩ : ∃ wi : World, wi = wr := ⟨_, rfl⟩
    have V := Lib.hid hV
    clear hV
    obtain ⟨r0, _, r9⟩ := V.out.box_at (i := 1) (j := 0) rfl rfl
    by_cases hlt : k < N
    case neg =>
      obtain rfl : k = N := by omega
      go_wp2_with fail
      go_ret
      refine ⟨gr, by rw [← HN.out]; rfl, ?_⟩
      unfold Gr.rc
      rw [← HN.out]
      exact V.out.front (l1 := [flags (some ⟨gr, 0, none⟩) k k (g.rcK k)])
    have HST := Lib.hid (show g.rs.foldl (rcA k) (g.rcK k) = g.rcK (k + 1) by rw [rcA_fold HO.out, rcK_succ])
    have HLK := Lib.hid (show (g.rcK k).length = N by rw [rcK_len, HN.out])
    go_wp2_with fail
    clear r0 r9
    go_loopw [5] (fun cv wr => ∃ i : Nat, cv = .int .i64 (i : Int) ∧ i ≤ n ∧ Hp w [flags (some ⟨gr, 0, none⟩) N N ((g.rs.take i).foldl (rcA k) (g.rcK k)), box 24 w.heap.size [.int .i64 (N : Int), .slice A n c]] wr) (fun cv _ => n - (intOf cv).toNat)
    case atStart => exact ⟨0, rfl, Nat.zero_le _, V.out⟩
    case round =>
      clear V
      obtain ⟨i, rfl, hin, hV⟩ := hrel
      obtain ⟨wj, rfl⟩ : ∃ wj : World, wj = wr := ⟨_, rfl⟩
      have V := Lib.hid hV
      clear hV
      obtain ⟨r1, _, r8⟩ := V.out.box_at (i := 1) (j := 1) rfl rfl
      by_cases hilt : i < n
      case neg =>
        obtain rfl : i = n := by omega
        have V4 := Lib.hid (show Hp w [flags (some ⟨gr, 0, none⟩) N N (g.rcK (k + 1)), box 24 w.heap.size [.int .i64 (N : Int), .slice A i c]] wj by
          have := V.out
          rwa [List.take_of_length_le (by rw [HL.out]; exact Nat.le_refl _), HST.out] at this)
        go_wp2_with fail
        go_roundw
        case rel => exact ⟨k + 1, by go_num, by omega, V4.out⟩
        case measure => simp [intOf]; omega
      obtain ⟨Lk, hLk⟩ : ∃ Lk, Lk = (g.rs.take i).foldl (rcA k) (g.rcK k) := ⟨_, rfl⟩
      have HLK2 := Lib.hid (show Lk.length = N by rw [hLk, rcA_len, HLK.out])
      have HE := Lib.hid hLk
      rw [← hLk] at V
      clear hLk
      obtain ⟨⟨f, t, ct⟩, b, off, ha, hae, hA, hbw, c0', c1', c2'⟩ := H.out.at hilt
      have har := HO.out.arc _ (List.mem_of_getElem? ha)
      dsimp only at har c0' c1'
      have c0 := (V.out.below.cell (p := ⟨b, off + i * 3, none⟩) hbw).trans c0'
      have c1 := (V.out.below.cell (p := ⟨b, off + i * 3 + 1, none⟩) hbw).trans c1'
      have hb := Nat.lt_of_lt_of_le hbw V.out.below.size
      have hi3 : i * 3 ≤ 20000 := by omega
      have HSTEP := Lib.hid (show (g.rs.take (i + 1)).foldl (rcA k) (g.rcK k) = rcA k Lk ⟨f, t, ct⟩ by rw [rcA_step ha, ← HE.out])
      subst hA
      clear c0' c1' c2' ha hae
      by_cases hf : f = (k : Int)
      case neg =>
        have g1 : (f == (k : Int)) = false := beq_no hf
        have V4 := Lib.hid (show Hp w [flags (some ⟨gr, 0, none⟩) N N ((g.rs.take (i + 1)).foldl (rcA k) (g.rcK k)), box 24 w.heap.size [.int .i64 (N : Int), .slice (some ⟨b, off, none⟩) n c]] wj by
          rw [HSTEP.out]
          unfold rcA
          rw [if_neg (fun h => hf h.1)]
          exact V.out)
        clear hf har
        go_wp2_with fail
        go_roundw
        case rel => exact ⟨i + 1, by go_num, by omega, V4.out⟩
        case measure => simp [intOf]; omega
      have g1 : (f == (k : Int)) = true := beq_yes hf
      obtain ⟨T, rfl⟩ := Int.eq_ofNat_of_zero_le (show 0 ≤ t by omega)
      have hTN : T < N := by have := HGN.out; omega
      obtain ⟨y1, y2, y3⟩ := V.out.flag_at (i := 0) rfl (j := k) (by rw [HLK2.out]; exact hlt)
      obtain ⟨x, hx⟩ : ∃ x, x = Lk.getD k false := ⟨_, rfl⟩
      rw [← hx] at y1
      cases x with
      | false =>
        have V4 := Lib.hid (show Hp w [flags (some ⟨gr, 0, none⟩) N N ((g.rs.take (i + 1)).foldl (rcA k) (g.rcK k)), box 24 w.heap.size [.int .i64 (N : Int), .slice (some ⟨b, off, none⟩) n c]] wj by
          rw [HSTEP.out]
          unfold rcA
          rw [if_neg (fun h => by rw [← hx] at h; cases h.2)]
          exact V.out)
        clear hf har hx
        go_wp2_with fail
        go_roundw
        case rel => exact ⟨i + 1, by go_num, by omega, V4.out⟩
        case measure => simp [intOf]; omega
      | true =>
        obtain ⟨z1, z2, z3⟩ := V.out.flag_at (i := 0) rfl (j := T) (by rw [HLK2.out]; exact hTN)
        have V5 := V.out.flag_set (i := 0) rfl T true
        rw [show Lk.set T true = (g.rs.take (i + 1)).foldl (rcA k) (g.rcK k) by
          rw [HSTEP.out]
          unfold rcA
          rw [if_pos ⟨hf, hx.symm⟩]; rfl] at V5
        have V6 := Lib.hid V5
        clear hf har hx V5
        go_wp2_with fail
        go_roundw
        case rel => exact ⟨i + 1, by go_num, by omega, V6.out⟩
        case measure => simp [intOf]; omega
end Go.Proofs.Ytdoobdfanalnbaa
