/- Contract of the reference: how many ways lead on. -/
import Derived.Test.YtdoobdfanalnbaaDBd
import Derived.Test.YtdoobdfanalnbaaDAc
import Derived.Test.YtdoobdfanalnbaaDCc
import Derived.Test.YtdoobdfanalnbaaDCl
import Derived.Deep.RegionLaw
namespace Go.Proofs.Ytdoobdfanalnbaa
open Go.RowKit
set_option linter.unusedVariables false
set_option linter.unusedSimpArgs false
set_option maxRecDepth 100000

theorem rcapped_any (a b : Int) (w : World) (ha : 0 ≤ a) (ha2 : a ≤ 4611686018427387905) (hb : 0 ≤ b) (hb2 : b ≤ 4611686018427387905) :
    Calls Try.prog 101 #[.int .i64 a, .int .i64 b] w fun e w' => e = .returned (.int .i64 (min (a + b) capM)) ∧ Below w.heap.size w w' := by
  have h1 : IntKind.i64.wrap (4611686018427387905 - b) = 4611686018427387905 - b := IntWalk.i64_in _ (by omega)
  by_cases hc : 4611686018427387905 - b < a
  · have HE := Lib.hid (show min (a + b) capM = 4611686018427387905 from by show min (a + b) (4611686018427387905 : Int) = _; omega)
    go_enter Try.func101, Try.ntmps101
    go_wp2
    go_ret
    exact ⟨ret_int HE.out.symm, Below.refl _ _⟩
  · have h2 : IntKind.i64.wrap (a + b) = a + b := IntWalk.i64_in _ (by omega)
    have HE := Lib.hid (show min (a + b) capM = a + b from by show min (a + b) (4611686018427387905 : Int) = _; omega)
    go_enter Try.func101, Try.ntmps101
    go_wp2
    go_ret
    exact ⟨ret_int HE.out.symm, Below.refl _ _⟩
/-- A row of int64. -/
def lnums (A : Option Addr) (n c : Nat) (L : List Int) : Itm := ⟨2, 1, .slice A n c, n, ints L⟩
theorem lint_info : (Try.prog.info? 2).map (fun i => (i.zero, i.size, i.bytes)) = some (some (.int .i64 0), 1, 8) := by kernel_rfl
theorem Hp.lnum_set {W w : World} {l : List Itm} {i g n c : Nat} {L : List Int} (h : Hp W l w) (hi : l[i]? = some (lnums (some ⟨g, 0, none⟩) n c L)) (j : Nat) (x : Int) :
    Hp W (l.set i (lnums (some ⟨g, 0, none⟩) n c (L.set j x))) (w.setCell ⟨g, j, none⟩ (.int .i64 x)) := by
  have := h.store hi (g := g) (cap := c) rfl j (.int .i64 x)
  simpa [lnums, ints] using this
theorem Hp.lnum_at {W w : World} {l : List Itm} {i g n c : Nat} {L : List Int} (h : Hp W l w) (hi : l[i]? = some (lnums (some ⟨g, 0, none⟩) n c L)) {j : Nat} (hj : j < L.length) :
    w.cell? ⟨g, j, none⟩ = some (.int .i64 (L.getD j 0)) ∧ w.frozen? ⟨g, j, none⟩ = false ∧ g < w.heap.size := h.cell hi (cap := c) rfl (ints_at hj)
theorem make_lnums (N : Int) (n : Nat) (h : N = (n : Int)) (hn : n ≤ 1000000000000) (w : World) :
    (Instr.makeSlice 83 (.int .i64 N) (.int .i64 N)).run Try.prog w = .ok (.slice (some ⟨w.heap.size, 0, none⟩) n n) (w.alloc (.cells (List.replicate n (.int .i64 0)).toArray 2)) := by
  obtain ⟨i0, hi, hz0, hz1, hz2⟩ := info_parts lint_info
  have := run_make (P := Try.prog) w 83 2 i0 (.int .i64 0) Try.underlying83 hi hz0 .i64 .i64 N N (by omega) (Int.le_refl _) (by rw [hz2]; omega) (by omega)
  rw [this, hz1, h]
  simp only [Int.toNat_natCast]
  rw [made_cells _ _ rfl]
theorem Hp.made_lnumsA {W w : World} {l : List Itm} (h : Hp W l w) (n : Nat) (hn : n ≤ 1000000000000) : Hp W (lnums (some ⟨w.heap.size, 0, none⟩) n n (List.replicate n 0) :: l) (w.alloc (.cells (Array.replicate n (.int .i64 0)) 2)) := by
  refine h.new _ (bnew _ _) ?_ (fun k hk => by simp [lnums, Value.ownBlock] at hk; omega)
  have := World.ownsRow_lit (base := W.heap.size) (e := 2) (size := 1) w (List.replicate n (.int .i64 0)).toArray n h.below.size (by unfold maxLen; omega) (by simp)
  simpa [lnums, ints] using this
/-- What the reference's ways returns. -/
def RWaysPost (g : Gr) (w : World) (e : Ending) (w' : World) : Prop := ∃ gw : Nat, e = .returned (.slice (some ⟨gw, 0, none⟩) g.n.toNat g.n.toNat) ∧ Hp w [lnums (some ⟨gw, 0, none⟩) g.n.toNat g.n.toNat g.waysL] w'
set_option maxHeartbeats 32000000 in
theorem rways_any (g : Gr) (A : Option Addr) (n c : Nat) (w : World) (h : GrIn w A n c g) (hO : g.Ok) :
    Calls Try.prog 66 #[gval g A n c] w (RWaysPost g w) := by
  have H := Lib.hid h
  have hcs := h.small
  have hcn := h.cap
  have n1 := hO.n1
  have n2 := hO.n2
  have hnl : n ≤ 6000 := by have := hO.len; have := h.len; omega
  have HO := Lib.hid hO
  have HL := Lib.hid h.len
  clear h hO
  obtain ⟨N, hN⟩ : ∃ N, N = g.n.toNat := ⟨_, rfl⟩
  have HN := Lib.hid hN
  have hgN : g.n = (N : Int) := by omega
  have hN1 : 1 ≤ N := by omega
  have hN2 : N ≤ 2000 := by omega
  have HGN := Lib.hid hgN
  have hgv : gval g A n c = .agg #[.int .i64 (N : Int), .slice A n c] := by rw [← hgN]
  rw [hgv]
  obtain ⟨E, hE⟩ : ∃ E, E = N - 1 := ⟨_, rfl⟩
  have hEN : E < N := by omega
  have HE := Lib.hid hE
  have hw1 : IntKind.i64.wrap ((N : Int) - 1) = (E : Int) := by rw [IntWalk.i64_in _ (by omega)]; omega
  have hw2 : IntKind.i64.wrap ((N : Int) - 2) = (N : Int) - 2 := IntWalk.i64_in _ (by omega)
  obtain ⟨wz, hwz⟩ : ∃ z, z = w.alloc (.cells #[.int .i64 (N : Int), .slice A n c] 24) := ⟨_, rfl⟩
  have HZ := Lib.hid hwz
  have V := Lib.hid (show Hp w [box 24 w.heap.size [.int .i64 (N : Int), .slice A n c]] wz by rw [hwz]; exact (Hp.start w).box_new _ _)
  clear hwz hN hgN n1 n2 hgv hE
  obtain ⟨wy, hwy⟩ : ∃ z, z = wz.alloc (.cells (Array.replicate N (.int .i64 0)) 2) := ⟨_, rfl⟩
  have HY := Lib.hid hwy
  have VY := Lib.hid (show Hp w [lnums (some ⟨wz.heap.size, 0, none⟩) N N (List.replicate N 0), box 24 w.heap.size [.int .i64 (N : Int), .slice A n c]] wy by
    rw [hwy]; exact V.out.made_lnumsA N (by omega))
  have hmk := fun w => make_lnums (N : Int) N rfl (by omega) w
  obtain ⟨gw, hgw⟩ : ∃ gw, gw = wz.heap.size := ⟨_, rfl⟩
  have hwg : w.heap.size < gw := by have := (V.out.box_at (i := 0) (j := 0) rfl rfl).2.2; omega
  rw [← hgw] at VY
  clear hwy
  go_enter Try.func66, Try.ntmps66
  go_upto_region 1 with fail
  rw [← HZ.out]
  clear HZ
  obtain ⟨r0, _, r9⟩ := V.out.box_at (i := 0) (j := 0) rfl rfl
  go_upto_region 2 with fail
  rw [← HY.out, ← hgw]
  clear HY V hmk r0 r9 hgw
  obtain ⟨r0, _, r9⟩ := VY.out.box_at (i := 1) (j := 0) rfl rfl
  obtain ⟨x1, x2, x3⟩ := VY.out.lnum_at (i := 0) rfl (j := E) (by simp; omega)
  have V2 := Lib.hid (VY.out.lnum_set (i := 0) rfl E 1)
  rw [show (List.replicate N (0 : Int)).set E 1 = g.waysK 1 by rw [waysK_one HO.out, ← HN.out, HE.out]; rfl] at V2
  obtain ⟨w2, hw2e⟩ : ∃ z, z = wy.setCell ⟨gw, E, none⟩ (.int .i64 1) := ⟨_, rfl⟩
  have H2 := Lib.hid hw2e
  have V3 := Lib.hid (show Hp w [lnums (some ⟨gw, 0, none⟩) N N (g.waysK 1), box 24 w.heap.size [.int .i64 (N : Int), .slice A n c]] w2 by rw [hw2e]; exact V2.out)
  clear hw2e V2
  go_upto_region 3 with fail
  rw [← H2.out]
  clear H2 VY r0 r9 x1 x2 x3
  obtain ⟨r0, _, r9⟩ := V3.out.box_at (i := 1) (j := 0) rfl rfl
  go_wp2_with fail
  clear r0 r9
  go_loopw [4] (fun cv wr => ∃ k : Nat, cv = .int .i64 ((N : Int) - 1 - k) ∧ 1 ≤ k ∧ k ≤ N ∧ Hp w [lnums (some ⟨gw, 0, none⟩) N N (g.waysK k), box 24 w.heap.size [.int .i64 (N : Int), .slice A n c]] wr) (fun cv _ => (intOf cv + 1).toNat)
  case atStart => exact ⟨1, by congr 1; omega, Nat.le_refl _, hN1, V3.out⟩
  case round =>
    clear V3
    obtain ⟨k, rfl, hk1, hkN, hV⟩ := hrel
    obtain ⟨wi, rfl⟩ : ∃ wi : World, wi = wr := ⟨_, rfl⟩
    have V := Lib.hid hV
    clear hV
    by_cases hlt : k < N
    case neg =>
      obtain rfl : k = N := by omega
      have h0 : ¬ (0 : Int) ≤ (k : Int) - 1 - (k : Int) := by omega
      go_wp2_with fail
      go_ret
      refine ⟨gw, by rw [← HN.out]; rfl, ?_⟩
      have h1 := waysK_all g
      rw [← HN.out] at h1 ⊢
      rw [← h1]
      exact V.out.front (l1 := [lnums (some ⟨gw, 0, none⟩) k k (g.waysK k)])
    obtain ⟨q, hq⟩ : ∃ q : Nat, q = N - 1 - k := ⟨_, rfl⟩
    have hq2 : (N : Int) - 1 - k = (q : Int) := by omega
    have hqN : q < N := by omega
    have HQ := Lib.hid hq
    have HST := Lib.hid (show g.rs.foldl (inA q) (g.waysK k) = g.waysK (k + 1) by
      rw [inA_fold]
      have := waysK_step HO.out (k := k) (by rw [← HN.out]; exact hlt)
      rw [← HN.out, ← hq] at this
      exact this)
    have HOK := Lib.hid (show WOk N (g.waysK k) by have := waysK_ok HO.out k; rwa [← HN.out] at this)
    clear hq
    rw [hq2]
    have hq0 : (0 : Int) ≤ (q : Int) := by omega
    have HQ2 := Lib.hid hq2
    clear hq2
    go_wp2_with fail
    go_loopw [5] (fun cv wr => ∃ i : Nat, cv = .int .i64 (i : Int) ∧ i ≤ n ∧ Hp w [lnums (some ⟨gw, 0, none⟩) N N ((g.rs.take i).foldl (inA q) (g.waysK k)), box 24 w.heap.size [.int .i64 (N : Int), .slice A n c]] wr) (fun cv _ => n - (intOf cv).toNat)
    case atStart => exact ⟨0, rfl, Nat.zero_le _, V.out⟩
    case round =>
      clear V
      obtain ⟨i, rfl, hin, hV⟩ := hrel
      obtain ⟨wj, rfl⟩ : ∃ wj : World, wj = wr := ⟨_, rfl⟩
      have V := Lib.hid hV
      clear hV
      obtain ⟨r1, _, r8⟩ := V.out.box_at (i := 1) (j := 1) rfl rfl
      by_cases hilt : i < n
      case neg =>
        obtain rfl : i = n := by omega
        have V4 := Lib.hid (show Hp w [lnums (some ⟨gw, 0, none⟩) N N (g.waysK (k + 1)), box 24 w.heap.size [.int .i64 (N : Int), .slice A i c]] wj by
          have := V.out
          rwa [List.take_of_length_le (by rw [HL.out]; exact Nat.le_refl _), HST.out] at this)
        have hwq : IntKind.i64.wrap ((q : Int) - 1) = (q : Int) - 1 := IntWalk.i64_in _ (by omega)
        go_wp2_with fail
        go_roundw
        case rel => exact ⟨k + 1, by have := HQ2.out; congr 1; omega, by omega, by omega, V4.out⟩
        case measure => simp [intOf]; try omega
      obtain ⟨Lk, hLk⟩ : ∃ Lk, Lk = (g.rs.take i).foldl (inA q) (g.waysK k) := ⟨_, rfl⟩
      have HLK := Lib.hid hLk
      have hok : WOk N Lk := by rw [hLk]; exact WOk.foldA _ HOK.out
      have V1 := Lib.hid (show Hp w [lnums (some ⟨gw, 0, none⟩) N N Lk, box 24 w.heap.size [.int .i64 (N : Int), .slice A n c]] wj by rw [hLk]; exact V.out)
      clear V hLk
      obtain ⟨⟨f, t, ct⟩, b, off, ha, hae, hA, hbw, c0', c1', c2'⟩ := H.out.at hilt
      have har := HO.out.arc _ (List.mem_of_getElem? ha)
      dsimp only at har c0' c1'
      have c0 := (V1.out.below.cell (p := ⟨b, off + i * 3, none⟩) hbw).trans c0'
      have c1 := (V1.out.below.cell (p := ⟨b, off + i * 3 + 1, none⟩) hbw).trans c1'
      have hb := Nat.lt_of_lt_of_le hbw V1.out.below.size
      have hbg : b < gw := by omega
      have hi3 : i * 3 ≤ 20000 := by omega
      have HA := Lib.hid ha
      subst hA
      clear c0' c1' c2'
      by_cases hf : f = (q : Int)
      case neg =>
        have g1 : (f == (q : Int)) = false := beq_no hf
        have V4 := Lib.hid (show Hp w [lnums (some ⟨gw, 0, none⟩) N N ((g.rs.take (i + 1)).foldl (inA q) (g.waysK k)), box 24 w.heap.size [.int .i64 (N : Int), .slice (some ⟨b, off, none⟩) n c]] wj by
          rw [inA_step ha, ← HLK.out]
          unfold inA
          rw [if_neg hf]
          exact V1.out)
        clear hf ha hae har hok
        go_wp2_with fail
        go_roundw
        case rel => exact ⟨i + 1, by go_num, by omega, V4.out⟩
        case measure => simp [intOf]; omega
      have g1 : (f == (q : Int)) = true := beq_yes hf
      obtain ⟨T, rfl⟩ := Int.eq_ofNat_of_zero_le (show 0 ≤ t by omega)
      have hTN : T < N := by have := HGN.out; omega
      obtain ⟨a, ha1⟩ : ∃ a, a = Lk.getD q 0 := ⟨_, rfl⟩
      obtain ⟨b', hb1⟩ : ∃ b', b' = Lk.getD T 0 := ⟨_, rfl⟩
      have hab := hok.get q
      have hbb := hok.get T
      obtain ⟨x1, x2, x3⟩ := V1.out.lnum_at (i := 0) rfl (j := q) (by rw [hok.1]; exact hqN)
      obtain ⟨y1, y2, _⟩ := V1.out.lnum_at (i := 0) rfl (j := T) (by rw [hok.1]; exact hTN)
      rw [← ha1] at hab x1
      rw [← hb1] at hbb y1
      have HNEW := Lib.hid (show Lk.set q (min (a + b') capM) = (g.rs.take (i + 1)).foldl (inA q) (g.waysK k) by
        rw [inA_step ha, ← HLK.out]
        unfold inA
        rw [if_pos hf, ha1, hb1]; rfl)
      have HTL := Lib.hid (show T < Lk.length by rw [hok.1]; exact hTN)
      have HXA := Lib.hid ha1
      have HYB := Lib.hid hb1
      have HQL := Lib.hid (show q < Lk.length by rw [hok.1]; exact hqN)
      have HAB := Lib.hid hab
      have HBB := Lib.hid hbb
      clear hf ha hae har hok ha1 hb1 hab hbb
      go_upto_region 10 with fail
      have hKp : Keep [(⟨w.heap.size, 1, none⟩, .slice (some ⟨b, off, none⟩) n c), (⟨b, off + i * 3 + 1, none⟩, .int .i64 (T : Int))] wj := List.forall_mem_cons.2 ⟨⟨r1, r8⟩, List.forall_mem_cons.2 ⟨⟨c1, hb⟩, fun _ h => by simp at h⟩⟩
      refine wp_region_held_drew (S := Keep _) (by kernel_rfl) hKp.drew (fun hHeld => ?_)
      have V1d := Lib.hid (V1.out.go (bdrew _))
      refine tk 0 ?_ rfl ?_ ?_; rotate_left; focus (intro w hSw; clear hSw; go_simp; try (with_reducible rfl))
      try simp only [Act.put, sA, sZ, sS]
      refine tk 1 ?_ rfl ?_ ?_; rotate_left; focus (intro w hSw; clear hSw; go_simp; try (with_reducible rfl))
      try simp only [Act.put, sA, sZ, sS]
      refine tk 2 ?_ rfl ?_ ?_; rotate_left; focus (intro w hSw; clear hSw; go_simp; try (with_reducible rfl))
      try simp only [Act.put, sA, sZ, sS]
      refine tk 3 ?_ rfl ?_ ?_; rotate_left; focus (intro w hSw; clear hSw; go_simp; try (with_reducible rfl))
      try simp only [Act.put, sA, sZ, sS]
      refine tk 4 ?_ rfl ?_ ?_; rotate_left; focus (intro w hSw; clear hSw; go_simp; try (with_reducible rfl))
      try simp only [Act.put, sA, sZ, sS]
      refine tk 6 ?_ rfl ?_ ?_; rotate_left; focus (intro w hSw; clear hSw; go_simp; try (with_reducible rfl))
      try simp only [Act.put, sA, sZ, sS]
      refine tk 7 ?_ rfl ?_ ?_; rotate_left; focus (intro w hSw; clear hSw; go_simp; try (with_reducible rfl))
      try simp only [Act.put, sA, sZ, sS]
      refine tk 8 ?_ rfl ?_ ?_; rotate_left
      · intro wl hSw
        have hSw : Keep _ wl := hSw
        have k0 : wl.cell? ⟨w.heap.size, 1, none⟩ = some (.slice (some ⟨b, off, none⟩) n c) := (hSw _ (.head _)).1
        clear hSw
        go_simp
        try (with_reducible rfl)
      try simp only [Act.put, sA, sZ, sS]
      refine tk 9 ?_ rfl ?_ ?_; rotate_left; focus (intro w hSw; clear hSw; go_simp; try (with_reducible rfl))
      try simp only [Act.put, sA, sZ, sS]
      refine tk 10 ?_ rfl ?_ ?_; rotate_left; focus (intro w hSw; clear hSw; go_simp; try (with_reducible rfl))
      try simp only [Act.put, sA, sZ, sS]
      refine tk 11 ?_ rfl ?_ ?_; rotate_left; focus (intro w hSw; clear hSw; go_simp; try (with_reducible rfl))
      try simp only [Act.put, sA, sZ, sS]
      refine tk 12 ?_ rfl ?_ ?_; rotate_left
      · intro wl hSw
        have hSw : Keep _ wl := hSw
        have k0 : wl.cell? ⟨b, off + i * 3 + 1, none⟩ = some (.int .i64 (T : Int)) := (hSw _ (.tail _ (.head _))).1
        clear hSw
        go_simp
        try (with_reducible rfl)
      try simp only [Act.put, sA, sZ, sS]
      refine tk 13 ?_ rfl ?_ ?_; rotate_left; focus (intro w hSw; clear hSw; go_simp; try (with_reducible rfl))
      try simp only [Act.put, sA, sZ, sS]
      refine wpAnyH_ready (rs := [5, 14]) (by kernel_rfl) (by simp) ?_
      refine AllReadyH.cons (List.getElem?_toArray.trans rfl) (fun K hK => ?_) ?_
      · have yL := (V1d.out.lnum_at (i := 0) rfl (j := q) HQL.out).1
        rw [← HXA.out] at yL
        go_simp
        refine hK.out _ _ (hHeld) (fun hHeld => ?_)
        clear hK K
        try simp only [Act.put, sA, sZ, sS]
        refine wpAnyH_ready (rs := [14]) (by kernel_rfl) (by simp) ?_
        refine AllReadyH.cons (List.getElem?_toArray.trans rfl) (fun K hK => ?_) AllReadyH.nil
        have yL := (V1d.out.lnum_at (i := 0) rfl (j := T) HTL.out).1
        rw [← HYB.out] at yL
        go_simp
        refine hK.out _ _ (hHeld) (fun hHeld => ?_)
        clear hK K
        try simp only [Act.put, sA, sZ, sS]
        refine wpAnyH_ready (rs := [15]) (by kernel_rfl) (by simp) ?_
        refine AllReadyH.cons (List.getElem?_toArray.trans rfl) (fun K hK => ?_) AllReadyH.nil
        go_simp
        refine (rcapped_any a b' _ HAB.out.1 HAB.out.2 HBB.out.1 HBB.out.2).mono ?_
        rintro e w6 ⟨rfl, b6⟩
        try go_wp2_with fail
        have V6 := Lib.hid (V1d.out.go b6)
        refine hK.out _ _ (hHeld.go b6) (fun hHeld => ?_)
        clear hK K
        try simp only [Act.put, sA, sZ, sS]
        refine tk 16 ?_ rfl ?_ ?_; rotate_left; focus (intro w hSw; clear hSw; go_simp; try (with_reducible rfl))
        try simp only [Act.put, sA, sZ, sS]
        refine wpAnyH_ready (rs := [17]) (by kernel_rfl) (by simp) ?_
        refine AllReadyH.cons (List.getElem?_toArray.trans rfl) (fun K hK => ?_) AllReadyH.nil
        obtain ⟨z1, z2, z3⟩ := V6.out.lnum_at (i := 0) rfl (j := q) HQL.out
        have V7 := Lib.hid (V6.out.lnum_set (i := 0) rfl q (min (a + b') capM))
        rw [HNEW.out] at V7
        go_simp
        refine hK.out _ _ (hHeld.set _ _ _ (List.forall_mem_cons.2 ⟨(by show ¬ w.heap.size = gw; omega), List.forall_mem_cons.2 ⟨(by show ¬ b = gw; omega), fun _ h => by simp at h⟩⟩)) (fun hHeld => ?_)
        clear hK K
        try simp only [Act.put, sA, sZ, sS]
        refine wpAnyH_done (by kernel_rfl) ?_ _
        go_wp2_with fail
        go_roundw
        case rel => exact ⟨i + 1, by go_num, by omega, V7.out⟩
        case measure => simp [intOf]; omega
      refine AllReadyH.cons (List.getElem?_toArray.trans rfl) (fun K hK => ?_) ?_
      · have yL := (V1d.out.lnum_at (i := 0) rfl (j := T) HTL.out).1
        rw [← HYB.out] at yL
        go_simp
        refine hK.out _ _ (hHeld) (fun hHeld => ?_)
        clear hK K
        try simp only [Act.put, sA, sZ, sS]
        refine wpAnyH_ready (rs := [5]) (by kernel_rfl) (by simp) ?_
        refine AllReadyH.cons (List.getElem?_toArray.trans rfl) (fun K hK => ?_) AllReadyH.nil
        have yL := (V1d.out.lnum_at (i := 0) rfl (j := q) HQL.out).1
        rw [← HXA.out] at yL
        go_simp
        refine hK.out _ _ (hHeld) (fun hHeld => ?_)
        clear hK K
        try simp only [Act.put, sA, sZ, sS]
        refine wpAnyH_ready (rs := [15]) (by kernel_rfl) (by simp) ?_
        refine AllReadyH.cons (List.getElem?_toArray.trans rfl) (fun K hK => ?_) AllReadyH.nil
        go_simp
        refine (rcapped_any a b' _ HAB.out.1 HAB.out.2 HBB.out.1 HBB.out.2).mono ?_
        rintro e w6 ⟨rfl, b6⟩
        try go_wp2_with fail
        have V6 := Lib.hid (V1d.out.go b6)
        refine hK.out _ _ (hHeld.go b6) (fun hHeld => ?_)
        clear hK K
        try simp only [Act.put, sA, sZ, sS]
        refine tk 16 ?_ rfl ?_ ?_; rotate_left; focus (intro w hSw; clear hSw; go_simp; try (with_reducible rfl))
        try simp only [Act.put, sA, sZ, sS]
        refine wpAnyH_ready (rs := [17]) (by kernel_rfl) (by simp) ?_
        refine AllReadyH.cons (List.getElem?_toArray.trans rfl) (fun K hK => ?_) AllReadyH.nil
        obtain ⟨z1, z2, z3⟩ := V6.out.lnum_at (i := 0) rfl (j := q) HQL.out
        have V7 := Lib.hid (V6.out.lnum_set (i := 0) rfl q (min (a + b') capM))
        rw [HNEW.out] at V7
        go_simp
        refine hK.out _ _ (hHeld.set _ _ _ (List.forall_mem_cons.2 ⟨(by show ¬ w.heap.size = gw; omega), List.forall_mem_cons.2 ⟨(by show ¬ b = gw; omega), fun _ h => by simp at h⟩⟩)) (fun hHeld => ?_)
        clear hK K
        try simp only [Act.put, sA, sZ, sS]
        refine wpAnyH_done (by kernel_rfl) ?_ _
        go_wp2_with fail
        go_roundw
        case rel => exact ⟨i + 1, by go_num, by omega, V7.out⟩
        case measure => simp [intOf]; omega
      exact AllReadyH.nil
end Go.Proofs.Ytdoobdfanalnbaa
