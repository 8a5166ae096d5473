/- Contracts of the program: how many words of a length are accepted. -/
import Derived.Test.YtdkdfmflghbhiaaQr
import Derived.Test.YtdkdfmflghbhiaaAMp
namespace Go.Proofs.Ytdkdfmflghbhiaa
open Go.RowKit
set_option linter.unusedVariables false
set_option linter.unusedSimpArgs false
set_option maxRecDepth 100000

def u64s (L : List Nat) : List Value := L.map fun (x : Nat) => Value.int .u64 (x : Int)
theorem u64s_len (L : List Nat) : (u64s L).length = L.length := by simp [u64s]
theorem u64s_at {L : List Nat} {j : Nat} (h : j < L.length) : (u64s L)[j]? = some (.int .u64 ((L.getD j 0 : Nat) : Int)) := by
  rw [List.getD_eq_getElem?_getD, List.getElem?_eq_getElem h]; simp [u64s, h]
theorem CellsIn.u64 {w : World} {A : Option Addr} {L : List Nat} (h : CellsIn w A (u64s L)) {j : Nat} (hj : j < L.length) : ∃ b off, A = some ⟨b, off, none⟩ ∧ b < w.heap.size ∧ w.cell? ⟨b, off + j, none⟩ = some (.int .u64 ((L.getD j 0 : Nat) : Int)) := by
  obtain ⟨b, off, e, hlt, hc⟩ := h (by rw [u64s_len]; omega)
  exact ⟨b, off, e, hlt, hc j _ (u64s_at hj)⟩
/-- A row of words of 64 bits. -/
def wrow (A : Option Addr) (n c : Nat) (L : List Nat) : Itm := ⟨73, 1, .slice A n c, n, u64s L⟩
theorem Hp.w_len {W w : World} {l : List Itm} {i n c : Nat} {A : Option Addr} {L : List Nat} (h : Hp W l w) (hi : l[i]? = some (wrow A n c L)) : L.length = n := by
  have := (h.own i _ hi).1
  simpa [wrow, u64s] using this
theorem Hp.w_set {W w : World} {l : List Itm} {i g n c : Nat} {L : List Nat} (h : Hp W l w) (hi : l[i]? = some (wrow (some ⟨g, 0, none⟩) n c L)) (j : Nat) (x : Nat) :
    Hp W (l.set i (wrow (some ⟨g, 0, none⟩) n c (L.set j x))) (w.setCell ⟨g, j, none⟩ (.int .u64 (x : Int))) := by
  have := h.store hi (cap := c) rfl j (.int .u64 (x : Int))
  rw [show ({ (wrow (some ⟨g, 0, none⟩) n c L) with xs := (wrow (some ⟨g, 0, none⟩) n c L).xs.set j (.int .u64 (x : Int)) } : Itm) = wrow (some ⟨g, 0, none⟩) n c (L.set j x) by simp [wrow, u64s]] at this
  exact this
theorem Hp.w_at {W w : World} {l : List Itm} {i g n c : Nat} {L : List Nat} (h : Hp W l w) (hi : l[i]? = some (wrow (some ⟨g, 0, none⟩) n c L)) {j : Nat} (hj : j < L.length) :
    w.cell? ⟨g, j, none⟩ = some (.int .u64 ((L.getD j 0 : Nat) : Int)) ∧ w.frozen? ⟨g, j, none⟩ = false ∧ g < w.heap.size := h.cell hi (cap := c) rfl (u64s_at hj)
theorem u64_info : (Try.prog.info? 73).map (fun i => (i.zero, i.size, i.bytes)) = some (some (.int .u64 0), 1, 8) := by kernel_rfl
theorem make_words (N : Int) (n : Nat) (h : N = (n : Int)) (hn : n ≤ 10000000000000) (w : World) :
    (Instr.makeSlice 72 (.int .i64 N) (.int .i64 N)).run Try.prog w = .ok (.slice (some ⟨w.heap.size, 0, none⟩) n n) (w.alloc (.cells (List.replicate n (.int .u64 0)).toArray 73)) := by
  obtain ⟨i0, hi, hz0, hz1, hz2⟩ := info_parts u64_info
  have := run_make (P := Try.prog) w 72 73 i0 (.int .u64 0) Try.underlying72 hi hz0 .i64 .i64 N N (by omega) (Int.le_refl _) (by rw [hz2]; omega) (by omega)
  rw [this, hz1, h]
  simp only [Int.toNat_natCast]
  rw [made_cells _ _ rfl]
theorem Hp.made_words {W w : World} {l : List Itm} (h : Hp W l w) (n : Nat) (hn : n ≤ 10000000000000) : Hp W (wrow (some ⟨w.heap.size, 0, none⟩) n n (List.replicate n 0) :: l) (w.alloc (.cells (Array.replicate n (.int .u64 0)) 73)) := by
  refine h.new _ (bnew _ _) ?_ (fun k hk => by simp [wrow, Value.ownBlock] at hk; omega)
  have := World.ownsRow_lit (base := W.heap.size) (e := 73) (size := 1) w (List.replicate n (.int .u64 0)).toArray n h.below.size (by unfold maxLen; omega) (by simp)
  simpa [wrow, u64s] using this
theorem min_sat {a b s : Nat} (h : s = satN (a + b)) : min ((a : Int) + (b : Int)) 4611686018427387905 = (s : Int) := by
  subst h; unfold satN cap1; omega
/-- The counts of the words with a letter more. -/
def LongPost (M : Au) (Lc : List Nat) (w : World) (e : Ending) (w' : World) : Prop :=
  ∃ g Lr, e = .returned (.slice (some ⟨g, 0, none⟩) M.n M.n) ∧ Hp w [wrow (some ⟨g, 0, none⟩) M.n M.n Lr] w' ∧ ∀ (q : Nat), q < M.n → Lr.getD q 0 = satN (rowS (fun t => if t < 0 then 0 else Lc.getD t.toNat 0) (M.nx.getD q []))
set_option maxHeartbeats 8000000 in
theorem longer_any (x : DV) (M : Au) (k : Nat) (Ac : Option Addr) (c : Nat) (Lc : List Nat) (w : World) (h : DfaIn w x M) (hv : M.Vld k) (hl : Lc.length = M.n) (hc : CellsIn w Ac (u64s Lc)) (hs : ∀ q : Nat, Lc.getD q 0 ≤ cap1) :
    Calls Try.prog 39 #[dval x M, .slice Ac M.n c] w (LongPost M Lc w) := by
  have H := Lib.hid h
  have HV := Lib.hid hv
  have HL := Lib.hid hl
  have HC := Lib.hid hc
  have HS := Lib.hid hs
  have hn4 := hv.few
  have hxn : x.n = M.n := h.n.symm
  obtain ⟨N, hN⟩ : ∃ N, N = M.n := ⟨_, rfl⟩
  rw [← hN] at hn4 hxn
  have HN := Lib.hid hN
  unfold LongPost
  rw [← HN.out]
  clear h hv hl hc hs hN
  obtain ⟨xA, xn, xc, xB, xm, xd⟩ := x
  dsimp only at *
  subst hxn
  obtain ⟨wz, hwz⟩ : ∃ z, z = (w.alloc (.cells #[.int .i64 M.lt, .int .i64 M.st, .slice xA xn xc, .slice xB xm xd] 25)) := ⟨_, rfl⟩
  have V := Lib.hid (show Hp w [box 25 w.heap.size [.int .i64 M.lt, .int .i64 M.st, .slice xA xn xc, .slice xB xm xd]] wz by
    have := ((Hp.start w).box_new 25 [.int .i64 M.lt, .int .i64 M.st, .slice xA xn xc, .slice xB xm xd])
    rw [hwz]; simpa using this)
  have HZ := Lib.hid hwz
  clear hwz
  go_enter Try.func39, Try.ntmps39
  go_upto_region 1 with fail
  rw [← HZ.out]
  clear HZ
  have hmk := make_words (xn : Int) xn rfl (by omega)
  obtain ⟨gl, hgl⟩ : ∃ z, z = wz.heap.size := ⟨_, rfl⟩
  obtain ⟨w1, hw1⟩ : ∃ z, z = wz.alloc (.cells (Array.replicate xn (.int .u64 0)) 73) := ⟨_, rfl⟩
  have V1 := Lib.hid (show Hp w [wrow (some ⟨gl, 0, none⟩) xn xn (List.replicate xn 0), box 25 w.heap.size [.int .i64 M.lt, .int .i64 M.st, .slice xA xn xc, .slice xB xm xd]] w1 by rw [hw1, hgl]; exact V.out.made_words xn (by omega))
  have HW1 := Lib.hid hw1
  have HGL := Lib.hid hgl
  clear hw1 hgl V
  go_upto_region 2 with fail
  rw [← HW1.out, ← HGL.out]
  clear HW1 HGL hmk
  obtain ⟨r1_0, _, r1_9⟩ := V1.out.box_at (i := 1) (j := 0) rfl rfl
  obtain ⟨r1_1, _, _⟩ := V1.out.box_at (i := 1) (j := 1) rfl rfl
  obtain ⟨r1_2, _, _⟩ := V1.out.box_at (i := 1) (j := 2) rfl rfl
  obtain ⟨r1_3, _, _⟩ := V1.out.box_at (i := 1) (j := 3) rfl rfl
  go_wp2_with fail
  clear r1_9 r1_0 r1_1 r1_2 r1_3
  obtain ⟨f, hf⟩ : ∃ f : Int → Nat, f = fun t => if t < 0 then 0 else Lc.getD t.toNat 0 := ⟨_, rfl⟩
  have HF := Lib.hid hf
  clear hf
  have H1 := Lib.hid (show ∀ q : Nat, q < 0 → (List.replicate xn 0).getD q 0 = satN (rowS f (M.nx.getD q [])) from fun q h => absurd h (Nat.not_lt_zero _))
  have H2 := Lib.hid (show ∀ q : Nat, 0 ≤ q → (List.replicate xn 0).getD q 0 = 0 from fun q h => by rw [List.getD_eq_getElem?_getD, List.getElem?_replicate]; split <;> rfl)
  go_loopw [16] (fun cv wr => ∃ a : Nat, cv = .int .i64 (a : Int) ∧ a ≤ xn ∧ ∃ Lr : List Nat, (∀ q : Nat, q < a → Lr.getD q 0 = satN (rowS f (M.nx.getD q []))) ∧ (∀ q : Nat, a ≤ q → Lr.getD q 0 = 0) ∧ Hp w [wrow (some ⟨gl, 0, none⟩) xn xn Lr, box 25 w.heap.size [.int .i64 M.lt, .int .i64 M.st, .slice xA xn xc, .slice xB xm xd]] wr) (fun cv _ => xn - (intOf cv).toNat)
  case atStart => exact ⟨0, rfl, Nat.zero_le _, _, H1.out, H2.out, V1.out⟩
  case round =>
    clear H1 H2 V1
    obtain ⟨a, rfl, han, Lr, hr1, hr2, hV⟩ := hrel
    obtain ⟨wi, rfl⟩ : ∃ wi : World, wi = wr := ⟨_, rfl⟩
    have V := Lib.hid hV
    have R1 := Lib.hid hr1
    have R2 := Lib.hid hr2
    clear hV hr1 hr2
    by_cases hlt : a < xn
    · have hal : a < M.nx.length := by have := HN.out; unfold Au.n at this; omega
      obtain ⟨b, off, Aj, cj, hAe, hb0, hcell0, hl1, hl2, hrow⟩ := H.out.row hal
      dsimp only at hAe
      subst hAe
      have hcell := (V.out.below.cell (p := ⟨b, off + a, none⟩) hb0).trans hcell0
      have hb := Nat.lt_of_lt_of_le hb0 V.out.below.size
      obtain ⟨row, hrw⟩ : ∃ row, row = M.nx.getD a [] := ⟨_, rfl⟩
      have HRW := Lib.hid (show M.nx[a]? = some row by rw [hrw, List.getD_eq_getElem?_getD, List.getElem?_eq_getElem hal]; rfl)
      have HRD := Lib.hid hrw
      rw [← hrw] at hcell hl1 hl2 hrow
      have hrl := (HV.out.right.rows a row HRW.out).1
      have hk8 := HV.out.k8
      rw [hrl] at hcell hl1 hl2
      have HRL := Lib.hid hrl
      have HRO := Lib.hid hrow
      clear hcell0 hb0 hrw hrow hal hrl
      go_wp2_with fail
      have H1 := Lib.hid (show Lr.getD a 0 = satN (rowS f (row.take 0)) by rw [R2.out a (Nat.le_refl _)]; simp [rowS, satN])
      have H2 := Lib.hid (show ∀ q : Nat, a + 1 ≤ q → Lr.getD q 0 = 0 from fun q h => R2.out q (by omega))
      clear R2 hcell hb
      go_loopw [23] (fun cv wr => ∃ j : Nat, cv = .int .i64 (j : Int) ∧ j ≤ k ∧ ∃ Lr : List Nat, Lr.getD a 0 = satN (rowS f (row.take j)) ∧ (∀ q : Nat, q < a → Lr.getD q 0 = satN (rowS f (M.nx.getD q []))) ∧ (∀ q : Nat, a + 1 ≤ q → Lr.getD q 0 = 0) ∧ Hp w [wrow (some ⟨gl, 0, none⟩) xn xn Lr, box 25 w.heap.size [.int .i64 M.lt, .int .i64 M.st, .slice (some ⟨b, off, none⟩) xn xc, .slice xB xm xd]] wr) (fun cv _ => k - (intOf cv).toNat)
      case atStart => exact ⟨0, rfl, Nat.zero_le _, Lr, H1.out, R1.out, H2.out, V.out⟩
      case round =>
        clear H1 H2 R1 V
        obtain ⟨j, rfl, hjk, Lr, hr0, hr1, hr2, hV⟩ := hrel
        obtain ⟨wj, rfl⟩ : ∃ wj : World, wj = wr := ⟨_, rfl⟩
        have V := Lib.hid hV
        have R0 := Lib.hid hr0
        have R1 := Lib.hid hr1
        have R2 := Lib.hid hr2
        have hLr := V.out.w_len (i := 0) rfl
        have HLR := Lib.hid hLr
        clear hV hr0 hr1 hr2 hLr
        by_cases hjt : j < k
        · obtain ⟨b2, off2, rfl, hb2, hc2⟩ := (HRO.out.below V.out.below).int (j := j) (by rw [HRL.out]; exact hjt)
          obtain ⟨t, ht⟩ : ∃ t, t = row.getD j 0 := ⟨_, rfl⟩
          rw [← ht] at hc2
          have HX := Lib.hid (show row[j]? = some t by rw [ht, List.getD_eq_getElem?_getD, List.getElem?_eq_getElem (by rw [HRL.out]; exact hjt)]; rfl)
          have htb := (HV.out.right.rows a row HRW.out).2 t (List.mem_of_getElem? HX.out)
          rw [← HN.out] at htb
          obtain ⟨ht1, ht2⟩ := htb
          clear ht
          by_cases hz : t = -1
          · subst hz
            have H3 := Lib.hid (show Lr.getD a 0 = satN (rowS f (row.take (j + 1))) by rw [R0.out, Au.take_succ HX.out, rowS_snoc, HF.out]; rfl)
            go_wp2_with fail
            go_roundw
            case rel => exact ⟨j + 1, by go_num, by omega, Lr, H3.out, R1.out, R2.out, V.out⟩
            case measure => simp [intOf]; omega
          · obtain ⟨tn, rfl⟩ := Int.eq_ofNat_of_zero_le (show 0 ≤ t by omega)
            have e1 : ((tn : Int) == -1) = false := beq_no hz
            have e2 : ((tn : Int) != -1) = true := bne_yes hz
            have htn : tn < xn := by omega
            obtain ⟨bc, oc, rfl, hbc0, hcc0⟩ := HC.out.u64 (j := tn) (by rw [HL.out, ← HN.out]; exact htn)
            obtain ⟨x1, x2, x9⟩ := V.out.w_at (i := 0) rfl (j := a) (by rw [HLR.out]; exact hlt)
            obtain ⟨p1, hp1⟩ : ∃ p, p = Lr.getD a 0 := ⟨_, rfl⟩
            obtain ⟨p2, hp2⟩ : ∃ p, p = Lc.getD tn 0 := ⟨_, rfl⟩
            have hb1 : p1 ≤ 4611686018427387905 := by rw [hp1, R0.out]; exact satN_le _
            have hb2' : p2 ≤ 4611686018427387905 := by rw [hp2]; exact HS.out tn
            rw [← hp1] at x1
            rw [← hp2] at hcc0
            have hcc := (V.out.below.cell (p := ⟨bc, oc + tn, none⟩) hbc0).trans hcc0
            have hbc := Nat.lt_of_lt_of_le hbc0 V.out.below.size
            have HCC := Lib.hid hcc0
            have HP1 := Lib.hid hp1
            clear hcc0
            obtain ⟨s, hs⟩ : ∃ s, s = satN (p1 + p2) := ⟨_, rfl⟩
            have hmin := min_sat hs
            have hwr : IntKind.u64.wrap ((p1 : Int) + (p2 : Int)) = (p1 : Int) + (p2 : Int) := IntWalk.u64_in _ (by omega)
            have HS3 := Lib.hid (show s = satN (rowS f (row.take (j + 1))) by rw [hs, hp1, R0.out, hp2, Au.take_succ HX.out, rowS_snoc, HF.out, satN_add]; rfl)
            clear hz hp1 hp2 hs ht1 ht2
            go_upto_region 9 with fail
            have hKp : Keep [(⟨bc, oc + tn, none⟩, .int .u64 (p2 : Int))] wj := List.forall_mem_cons.2 ⟨⟨hcc, hbc⟩, fun _ h => by simp at h⟩
            refine wp_region_held_drew (S := Keep _) (by kernel_rfl) hKp.drew (fun hHeld => ?_)
            have Vd := Lib.hid (V.out.go (bdrew _))
            refine tk 0 ?_ rfl ?_ ?_; rotate_left; focus (intro w hSw; clear hSw; go_simp; try (with_reducible rfl))
            try simp only [Act.put, sA, sZ, sS]
            refine tk 1 ?_ rfl ?_ ?_; rotate_left; focus (intro w hSw; clear hSw; go_simp; try (with_reducible rfl))
            try simp only [Act.put, sA, sZ, sS]
            refine tk 2 ?_ rfl ?_ ?_; rotate_left; focus (intro w hSw; clear hSw; go_simp; try (with_reducible rfl))
            try simp only [Act.put, sA, sZ, sS]
            refine tk 3 ?_ rfl ?_ ?_; rotate_left; focus (intro w hSw; clear hSw; go_simp; try (with_reducible rfl))
            try simp only [Act.put, sA, sZ, sS]
            refine tk 4 ?_ rfl ?_ ?_; rotate_left; focus (intro w hSw; clear hSw; go_simp; try (with_reducible rfl))
            try simp only [Act.put, sA, sZ, sS]
            refine tk 6 ?_ rfl ?_ ?_; rotate_left; focus (intro w hSw; clear hSw; go_simp; try (with_reducible rfl))
            try simp only [Act.put, sA, sZ, sS]
            refine tk 7 ?_ rfl ?_ ?_; rotate_left; focus (intro w hSw; clear hSw; go_simp; try (with_reducible rfl))
            try simp only [Act.put, sA, sZ, sS]
            refine tk 8 ?_ rfl ?_ ?_; rotate_left; focus (intro w hSw; clear hSw; go_simp; try (with_reducible rfl))
            try simp only [Act.put, sA, sZ, sS]
            refine tk 9 ?_ rfl ?_ ?_; rotate_left
            · intro wl hSw
              have hSw : Keep _ wl := hSw
              have k0 : wl.cell? ⟨bc, oc + tn, none⟩ = some (.int .u64 (p2 : Int)) := (hSw _ (.head _)).1
              clear hSw
              go_simp
              try (with_reducible rfl)
            try simp only [Act.put, sA, sZ, sS]
            refine wpAnyH_ready (rs := [5]) (by kernel_rfl) (by simp) ?_
            refine AllReadyH.cons (List.getElem?_toArray.trans rfl) (fun K hK => ?_) AllReadyH.nil
            have yL := (Vd.out.w_at (i := 0) rfl (j := a) (by rw [HLR.out]; exact hlt)).1
            rw [← HP1.out] at yL
            go_simp
            refine hK.out _ _ (hHeld) (fun hHeld => ?_)
            clear hK K
            try simp only [Act.put, sA, sZ, sS]
            refine tk 10 ?_ rfl ?_ ?_; rotate_left; focus (intro w hSw; clear hSw; go_simp; try (with_reducible rfl))
            try simp only [Act.put, sA, sZ, sS]
            refine tk 11 ?_ rfl ?_ ?_; rotate_left; focus (intro w hSw; clear hSw; go_simp; try (with_reducible rfl))
            try simp only [Act.put, sA, sZ, sS]
            refine tk 12 ?_ rfl ?_ ?_; rotate_left; focus (intro w hSw; clear hSw; go_simp; try (with_reducible rfl))
            try simp only [Act.put, sA, sZ, sS]
            refine wpAnyH_ready (rs := [13]) (by kernel_rfl) (by simp) ?_
            refine AllReadyH.cons (List.getElem?_toArray.trans rfl) (fun K hK => ?_) AllReadyH.nil
            obtain ⟨x1, x2, x9⟩ := Vd.out.w_at (i := 0) rfl (j := a) (by rw [HLR.out]; exact hlt)
            have VE := Lib.hid (Vd.out.w_set (i := 0) rfl a s)
            go_simp
            refine hK.out _ _ (fun x hx => by rw [List.mem_singleton.1 hx]; exact ⟨(VE.out.below.cell (p := ⟨bc, oc + tn, none⟩) hbc0).trans HCC.out, Nat.lt_of_lt_of_le hbc0 VE.out.below.size⟩) (fun hHeld => ?_)
            clear hK K
            try simp only [Act.put, sA, sZ, sS]
            refine wpAnyH_done (by kernel_rfl) ?_ _
            have K1 := Lib.hid (show (Lr.set a s).getD a 0 = satN (rowS f (row.take (j + 1))) by rw [getD_set (by rw [HLR.out]; exact hlt), if_pos rfl]; exact HS3.out)
            have K2 := Lib.hid (show ∀ q : Nat, q < a → (Lr.set a s).getD q 0 = satN (rowS f (M.nx.getD q [])) from fun q hq => by rw [getD_set (by rw [HLR.out]; exact hlt), if_neg (by omega)]; exact R1.out q hq)
            have K3 := Lib.hid (show ∀ q : Nat, a + 1 ≤ q → (Lr.set a s).getD q 0 = 0 from fun q hq => by rw [getD_set (by rw [HLR.out]; exact hlt), if_neg (by omega)]; exact R2.out q hq)
            clear hHeld hKp
            go_wp2_with fail
            go_roundw
            case rel => exact ⟨j + 1, by go_num, by omega, _, K1.out, K2.out, K3.out, VE.out⟩
            case measure => simp [intOf]; omega
        · obtain rfl : j = k := by omega
          have H3 := Lib.hid (show ∀ q : Nat, q < a + 1 → Lr.getD q 0 = satN (rowS f (M.nx.getD q [])) from fun q hq => by
            by_cases e : q = a
            · subst e
              rw [R0.out, List.take_of_length_le (by rw [HRL.out]; exact Nat.le_refl _), HRD.out]
            · exact R1.out q (by omega))
          go_wp2_with fail
          go_roundw
          case rel => exact ⟨a + 1, by go_num, by omega, Lr, H3.out, R2.out, V.out⟩
          case measure => simp [intOf]; omega
    · obtain rfl : a = xn := by omega
      have HP := Lib.hid (show ∃ g Lr, Ending.returned (.slice (some ⟨gl, 0, none⟩) a a) = .returned (.slice (some ⟨g, 0, none⟩) a a) ∧ Hp w [wrow (some ⟨g, 0, none⟩) a a Lr] wi ∧ ∀ (q : Nat), q < a → Lr.getD q 0 = satN (rowS (fun t => if t < 0 then 0 else Lc.getD t.toNat 0) (M.nx.getD q [])) from ⟨gl, Lr, rfl, V.out.pick [0] (by decide) rfl, by rw [← HF.out]; exact R1.out⟩)
      go_wp2_with fail
      go_ret
      exact HP.out
theorem cw_next {M : Au} {k : Nat} (h : M.Vld k) {n : Nat} {Lc : List Nat} (hl : ∀ q : Nat, q < M.n → Lc.getD q 0 = satN (M.cw n q)) {q : Nat} (hq : q < M.n) : satN (rowS (fun t => if t < 0 then 0 else Lc.getD t.toNat 0) (M.nx.getD q [])) = satN (M.cw (n + 1) (q : Int)) := by
  have hql : q < M.nx.length := hq
  have hrow := (h.right.rows q M.nx[q] (List.getElem?_eq_getElem hql)).2
  have e : rowS (fun t => if t < 0 then 0 else Lc.getD t.toNat 0) (M.nx.getD q []) = rowS (fun t => satN (M.cw n t)) (M.nx.getD q []) := by
    unfold rowS
    congr 1
    apply List.map_congr_left
    intro t ht
    rw [List.getD_eq_getElem?_getD, List.getElem?_eq_getElem hql] at ht
    obtain ⟨h1, h2⟩ := hrow t ht
    by_cases h0 : t < 0
    · rw [if_pos h0, M.cw_neg h0]; rfl
    · rw [if_neg h0, hl _ (by omega)]
      rw [Int.toNat_of_nonneg (by omega)]
  rw [e, rowS_sat]
  show _ = satN (if (q : Int) < 0 then 0 else rowS (M.cw n) (M.nx.getD (q : Int).toNat []))
  rw [if_neg (by omega)]; rfl
/-- What Count returns. -/
def CountPost (M : Au) (n : Int) (w : World) (e : Ending) (w' : World) : Prop :=
  e = .returned (.tuple #[.int .i64 (M.cntR n).1, .int .i64 (M.cntR n).2]) ∧ Below w.heap.size w w'
theorem ret_two {a b c d : Int} {k : IntKind} (h1 : a = c) (h2 : b = d) : Ending.returned (.tuple #[.int k a, .int .i64 b]) = .returned (.tuple #[.int k c, .int .i64 d]) := by rw [h1, h2]
theorem u64_i64 {x : Nat} (h : x ≤ 4611686018427387904) : IntKind.i64.wrap (x : Int) = (x : Int) := IntWalk.i64_in _ (by omega)
set_option maxHeartbeats 8000000 in
theorem count_bad (x : DV) (M : Au) (n : Int) (w : World) (h : DfaIn w x M) (hv : ¬ M.vE = 0) :
    Calls Try.prog 14 #[dval x M, .int .i64 n] w (CountPost M n w) := by
  have H := Lib.hid h
  clear h
  have HC := Lib.hid (show M.cntR n = (0, 1) from if_neg hv)
  have hv : M.vE = 1 := by rcases M.vE_cases with e | e; exact absurd e hv; exact e
  have HE := Lib.hid hv
  clear hv
  obtain ⟨wz, hwz⟩ : ∃ z, z = (w.alloc (.cells #[.int .i64 M.lt, .int .i64 M.st, .slice x.A x.n x.c, .slice x.B x.m x.d] 25)) := ⟨_, rfl⟩
  have V := Lib.hid (show Hp w [box 25 w.heap.size [.int .i64 M.lt, .int .i64 M.st, .slice x.A x.n x.c, .slice x.B x.m x.d]] wz by
    have := ((Hp.start w).box_new 25 [.int .i64 M.lt, .int .i64 M.st, .slice x.A x.n x.c, .slice x.B x.m x.d])
    rw [hwz]; simpa using this)
  have HZ := Lib.hid hwz
  clear hwz
  go_enter Try.func14, Try.ntmps14
  go_upto_region 1 with fail
  rw [← HZ.out]
  clear HZ
  obtain ⟨r0_0, _, r0_9⟩ := V.out.box_at (i := 0) (j := 0) rfl rfl
  obtain ⟨r0_1, _, _⟩ := V.out.box_at (i := 0) (j := 1) rfl rfl
  obtain ⟨r0_2, _, _⟩ := V.out.box_at (i := 0) (j := 2) rfl rfl
  obtain ⟨r0_3, _, _⟩ := V.out.box_at (i := 0) (j := 3) rfl rfl
  go_wp2_with fail
  refine (valid_any x M _ (H.out.below V.out.below)).mono ?_
  rintro e w1 ⟨rfl, b1⟩
  have V1 := Lib.hid (V.out.go b1)
  rw [HE.out]
  clear b1 V r0_9 r0_0 r0_1 r0_2 r0_3
  have HP := Lib.hid (show CountPost M n w (.returned (.tuple #[.int .i64 0, .int .i64 1])) _ from ⟨ret_two (by rw [HC.out]) (by rw [HC.out]), V1.out.below⟩)
  go_wp2_with fail
  go_ret2
  exact HP.out
set_option maxHeartbeats 8000000 in
theorem count_range (x : DV) (M : Au) (n : Int) (w : World) (h : DfaIn w x M) (hv : M.vE = 0) (hn : n < 0 ∨ 1000 < n) :
    Calls Try.prog 14 #[dval x M, .int .i64 n] w (CountPost M n w) := by
  have H := Lib.hid h
  clear h
  have HC := Lib.hid (show M.cntR n = (0, 6) by unfold Au.cntR; rw [if_pos hv, if_pos hn])
  have HE := Lib.hid hv
  clear hv
  by_cases h0 : n < 0
  · clear hn
    obtain ⟨wz, hwz⟩ : ∃ z, z = (w.alloc (.cells #[.int .i64 M.lt, .int .i64 M.st, .slice x.A x.n x.c, .slice x.B x.m x.d] 25)) := ⟨_, rfl⟩
    have V := Lib.hid (show Hp w [box 25 w.heap.size [.int .i64 M.lt, .int .i64 M.st, .slice x.A x.n x.c, .slice x.B x.m x.d]] wz by
      have := ((Hp.start w).box_new 25 [.int .i64 M.lt, .int .i64 M.st, .slice x.A x.n x.c, .slice x.B x.m x.d])
      rw [hwz]; simpa using this)
    have HZ := Lib.hid hwz
    clear hwz
    go_enter Try.func14, Try.ntmps14
    go_upto_region 1 with fail
    rw [← HZ.out]
    clear HZ
    obtain ⟨r0_0, _, r0_9⟩ := V.out.box_at (i := 0) (j := 0) rfl rfl
    obtain ⟨r0_1, _, _⟩ := V.out.box_at (i := 0) (j := 1) rfl rfl
    obtain ⟨r0_2, _, _⟩ := V.out.box_at (i := 0) (j := 2) rfl rfl
    obtain ⟨r0_3, _, _⟩ := V.out.box_at (i := 0) (j := 3) rfl rfl
    go_wp2_with fail
    refine (valid_any x M _ (H.out.below V.out.below)).mono ?_
    rintro e w1 ⟨rfl, b1⟩
    have V1 := Lib.hid (V.out.go b1)
    rw [HE.out]
    clear b1 V r0_9 r0_0 r0_1 r0_2 r0_3
    have HP := Lib.hid (show CountPost M n w (.returned (.tuple #[.int .i64 0, .int .i64 6])) _ from ⟨ret_two (by rw [HC.out]) (by rw [HC.out]), V1.out.below⟩)
    go_wp2_with fail
    go_ret2
    exact HP.out
  · have h1 : 1000 < n := by omega
    have h2 : 0 ≤ n := by omega
    clear hn h0
    obtain ⟨wz, hwz⟩ : ∃ z, z = (w.alloc (.cells #[.int .i64 M.lt, .int .i64 M.st, .slice x.A x.n x.c, .slice x.B x.m x.d] 25)) := ⟨_, rfl⟩
    have V := Lib.hid (show Hp w [box 25 w.heap.size [.int .i64 M.lt, .int .i64 M.st, .slice x.A x.n x.c, .slice x.B x.m x.d]] wz by
      have := ((Hp.start w).box_new 25 [.int .i64 M.lt, .int .i64 M.st, .slice x.A x.n x.c, .slice x.B x.m x.d])
      rw [hwz]; simpa using this)
    have HZ := Lib.hid hwz
    clear hwz
    go_enter Try.func14, Try.ntmps14
    go_upto_region 1 with fail
    rw [← HZ.out]
    clear HZ
    obtain ⟨r0_0, _, r0_9⟩ := V.out.box_at (i := 0) (j := 0) rfl rfl
    obtain ⟨r0_1, _, _⟩ := V.out.box_at (i := 0) (j := 1) rfl rfl
    obtain ⟨r0_2, _, _⟩ := V.out.box_at (i := 0) (j := 2) rfl rfl
    obtain ⟨r0_3, _, _⟩ := V.out.box_at (i := 0) (j := 3) rfl rfl
    go_wp2_with fail
    refine (valid_any x M _ (H.out.below V.out.below)).mono ?_
    rintro e w1 ⟨rfl, b1⟩
    have V1 := Lib.hid (V.out.go b1)
    rw [HE.out]
    clear b1 V r0_9 r0_0 r0_1 r0_2 r0_3
    have HP := Lib.hid (show CountPost M n w (.returned (.tuple #[.int .i64 0, .int .i64 6])) _ from ⟨ret_two (by rw [HC.out]) (by rw [HC.out]), V1.out.below⟩)
    go_wp2_with fail
    go_ret2
    exact HP.out
set_option maxHeartbeats 8000000 in
theorem count_empty (x : DV) (M : Au) (n : Int) (w : World) (h : DfaIn w x M) (hv : M.vE = 0) (h1 : 0 ≤ n) (h2 : n ≤ 1000) (hs : M.st = -1) :
    Calls Try.prog 14 #[dval x M, .int .i64 n] w (CountPost M n w) := by
  have H := Lib.hid h
  clear h
  have HC := Lib.hid (show M.cntR n = (0, 0) by unfold Au.cntR; rw [if_pos hv, if_neg (by omega), hs, M.cw_neg (by decide)]; rfl)
  have HE := Lib.hid hv
  have e1 : (M.st == -1) = true := beq_yes hs
  clear hv hs
  obtain ⟨wz, hwz⟩ : ∃ z, z = (w.alloc (.cells #[.int .i64 M.lt, .int .i64 M.st, .slice x.A x.n x.c, .slice x.B x.m x.d] 25)) := ⟨_, rfl⟩
  have V := Lib.hid (show Hp w [box 25 w.heap.size [.int .i64 M.lt, .int .i64 M.st, .slice x.A x.n x.c, .slice x.B x.m x.d]] wz by
    have := ((Hp.start w).box_new 25 [.int .i64 M.lt, .int .i64 M.st, .slice x.A x.n x.c, .slice x.B x.m x.d])
    rw [hwz]; simpa using this)
  have HZ := Lib.hid hwz
  clear hwz
  go_enter Try.func14, Try.ntmps14
  go_upto_region 1 with fail
  rw [← HZ.out]
  clear HZ
  obtain ⟨r0_0, _, r0_9⟩ := V.out.box_at (i := 0) (j := 0) rfl rfl
  obtain ⟨r0_1, _, _⟩ := V.out.box_at (i := 0) (j := 1) rfl rfl
  obtain ⟨r0_2, _, _⟩ := V.out.box_at (i := 0) (j := 2) rfl rfl
  obtain ⟨r0_3, _, _⟩ := V.out.box_at (i := 0) (j := 3) rfl rfl
  go_wp2_with fail
  refine (valid_any x M _ (H.out.below V.out.below)).mono ?_
  rintro e w1 ⟨rfl, b1⟩
  have V1 := Lib.hid (V.out.go b1)
  rw [HE.out]
  clear b1 V r0_9 r0_0 r0_1 r0_2 r0_3
  obtain ⟨r0_0, _, r0_9⟩ := V1.out.box_at (i := 0) (j := 0) rfl rfl
  obtain ⟨r0_1, _, _⟩ := V1.out.box_at (i := 0) (j := 1) rfl rfl
  obtain ⟨r0_2, _, _⟩ := V1.out.box_at (i := 0) (j := 2) rfl rfl
  obtain ⟨r0_3, _, _⟩ := V1.out.box_at (i := 0) (j := 3) rfl rfl
  have HP := Lib.hid (show CountPost M n w (.returned (.tuple #[.int .i64 0, .int .i64 0])) _ from ⟨ret_two (by rw [HC.out]) (by rw [HC.out]), V1.out.below⟩)
  go_wp2_with fail
  go_ret2
  exact HP.out
set_option maxHeartbeats 8000000 in
theorem count_main (x : DV) (M : Au) (n : Int) (w : World) (h : DfaIn w x M) (hv : M.vE = 0) (h1 : 0 ≤ n) (h2 : n ≤ 1000) (hs : ¬ M.st = -1) :
    Calls Try.prog 14 #[dval x M, .int .i64 n] w (CountPost M n w) := by
  have H := Lib.hid h
  clear h
  obtain ⟨N, rfl⟩ := Int.eq_ofNat_of_zero_le h1
  have HC := Lib.hid (show M.cntR N = if 4611686018427387904 < M.cw N M.st then ((0 : Int), (3 : Int)) else (((M.cw N M.st : Nat) : Int), (0 : Int)) by unfold Au.cntR; rw [if_pos hv, if_neg (by omega)]; rfl)
  have HE := Lib.hid hv
  have HV := Lib.hid (Au.vE_ok hv)
  obtain ⟨k, hk⟩ : ∃ k, k = M.lt.toNat := ⟨_, rfl⟩
  rw [← hk] at HV
  have hN : N ≤ 1000 := by omega
  have e1 : (M.st == -1) = false := beq_no hs
  have hst := HV.out.right.st_in
  obtain ⟨s, hs2⟩ := Int.eq_ofNat_of_zero_le (show 0 ≤ M.st by omega)
  have HS := Lib.hid hs2
  have hxn : x.n = M.n := H.out.n.symm
  have hxm : x.m = M.n := H.out.m.symm.trans HV.out.right.acl
  have hn4 := HV.out.few
  have hsn : s < M.n := by omega
  obtain ⟨Z, hZ⟩ : ∃ Z, Z = M.n := ⟨_, rfl⟩
  rw [← hZ] at hxn hxm hn4 hsn
  have HZN := Lib.hid hZ
  clear hv hs hk hst hs2 hZ h1 h2
  obtain ⟨xA, xn, xc, xB, xm, xd⟩ := x
  dsimp only at *
  subst hxn
  have hxm := hxm.symm
  subst hxm
  obtain ⟨wz, hwz⟩ : ∃ z, z = (w.alloc (.cells #[.int .i64 M.lt, .int .i64 M.st, .slice xA xn xc, .slice xB xn xd] 25)) := ⟨_, rfl⟩
  have V := Lib.hid (show Hp w [box 25 w.heap.size [.int .i64 M.lt, .int .i64 M.st, .slice xA xn xc, .slice xB xn xd]] wz by
    have := ((Hp.start w).box_new 25 [.int .i64 M.lt, .int .i64 M.st, .slice xA xn xc, .slice xB xn xd])
    rw [hwz]; simpa using this)
  have HZ := Lib.hid hwz
  clear hwz
  go_enter Try.func14, Try.ntmps14
  go_upto_region 1 with fail
  rw [← HZ.out]
  clear HZ
  obtain ⟨r0_0, _, r0_9⟩ := V.out.box_at (i := 0) (j := 0) rfl rfl
  obtain ⟨r0_1, _, _⟩ := V.out.box_at (i := 0) (j := 1) rfl rfl
  obtain ⟨r0_2, _, _⟩ := V.out.box_at (i := 0) (j := 2) rfl rfl
  obtain ⟨r0_3, _, _⟩ := V.out.box_at (i := 0) (j := 3) rfl rfl
  go_wp2_with fail
  refine (valid_any ⟨xA, xn, xc, xB, xn, xd⟩ M _ (H.out.below V.out.below)).mono ?_
  rintro e w1 ⟨rfl, b1⟩
  have V1 := Lib.hid (V.out.go b1)
  rw [HE.out]
  clear b1 V r0_9 r0_0 r0_1 r0_2 r0_3
  obtain ⟨r0_0, _, r0_9⟩ := V1.out.box_at (i := 0) (j := 0) rfl rfl
  obtain ⟨r0_1, _, _⟩ := V1.out.box_at (i := 0) (j := 1) rfl rfl
  obtain ⟨r0_2, _, _⟩ := V1.out.box_at (i := 0) (j := 2) rfl rfl
  obtain ⟨r0_3, _, _⟩ := V1.out.box_at (i := 0) (j := 3) rfl rfl
  have hmk := make_words (xn : Int) xn rfl (by omega)
  obtain ⟨gl, hgl⟩ : ∃ z, z = w1.heap.size := ⟨_, rfl⟩
  obtain ⟨w2, hw2⟩ : ∃ z, z = w1.alloc (.cells (Array.replicate xn (.int .u64 0)) 73) := ⟨_, rfl⟩
  have V2 := Lib.hid (show Hp w [wrow (some ⟨gl, 0, none⟩) xn xn (List.replicate xn 0), box 25 w.heap.size [.int .i64 M.lt, .int .i64 M.st, .slice xA xn xc, .slice xB xn xd]] w2 by rw [hw2, hgl]; exact V1.out.made_words xn (by omega))
  have HW2 := Lib.hid hw2
  have HGL := Lib.hid hgl
  clear hw2 hgl V1
  go_upto_region 9 with fail
  rw [← HW2.out, ← HGL.out]
  clear HW2 HGL hmk r0_9 r0_0 r0_1 r0_2 r0_3
  obtain ⟨r1_0, _, r1_9⟩ := V2.out.box_at (i := 1) (j := 0) rfl rfl
  obtain ⟨r1_1, _, _⟩ := V2.out.box_at (i := 1) (j := 1) rfl rfl
  obtain ⟨r1_2, _, _⟩ := V2.out.box_at (i := 1) (j := 2) rfl rfl
  obtain ⟨r1_3, _, _⟩ := V2.out.box_at (i := 1) (j := 3) rfl rfl
  go_wp2_with fail
  clear r1_9 r1_0 r1_1 r1_2 r1_3
  have H1 := Lib.hid (show ∀ q : Nat, (List.replicate xn 0).getD q 0 = if q < 0 ∧ M.ac.getD q false = true then 1 else 0 from fun q => by rw [if_neg (by omega), List.getD_eq_getElem?_getD, List.getElem?_replicate]; split <;> rfl)
  go_loopw [31] (fun cv wr => ∃ a : Nat, cv = .int .i64 (a : Int) ∧ a ≤ xn ∧ ∃ Lr : List Nat, (∀ q : Nat, Lr.getD q 0 = if q < a ∧ M.ac.getD q false = true then 1 else 0) ∧ Hp w [wrow (some ⟨gl, 0, none⟩) xn xn Lr, box 25 w.heap.size [.int .i64 M.lt, .int .i64 M.st, .slice xA xn xc, .slice xB xn xd]] wr) (fun cv _ => xn - (intOf cv).toNat)
  case atStart => exact ⟨0, rfl, Nat.zero_le _, _, H1.out, V2.out⟩
  case round =>
    clear H1 V2
    obtain ⟨a, rfl, han, Lr, hr, hV⟩ := hrel
    obtain ⟨wi, rfl⟩ : ∃ wi : World, wi = wr := ⟨_, rfl⟩
    have V := Lib.hid hV
    have R := Lib.hid hr
    have hLr := V.out.w_len (i := 0) rfl
    have HLR := Lib.hid hLr
    clear hV hr hLr
    by_cases hlt : a < xn
    · obtain ⟨b, off, hBe, hb0, hcell⟩ := (H.out.below V.out.below).acc (q := a) (by rw [HV.out.right.acl]; show a < M.n; rw [← HZN.out]; exact hlt)
      dsimp only at hBe
      subst hBe
      obtain ⟨x1, x2, x9⟩ := V.out.w_at (i := 0) rfl (j := a) (by rw [HLR.out]; exact hlt)
      cases hav : M.ac.getD a false with
      | false =>
        rw [hav] at hcell
        have H3 := Lib.hid (show ∀ q : Nat, Lr.getD q 0 = if q < a + 1 ∧ M.ac.getD q false = true then 1 else 0 from fun q => by
          rw [R.out q]
          by_cases e : q = a
          · subst e; rw [hav]; simp
          · by_cases e2 : q < a
            · simp [e2, show q < a + 1 by omega]
            · rw [if_neg (by omega), if_neg (by omega)])
        clear hav x1 x2 x9
        go_wp2_with fail
        go_roundw
        case rel => exact ⟨a + 1, by go_num, by omega, Lr, H3.out, V.out⟩
        case measure => simp [intOf]; omega
      | true =>
        rw [hav] at hcell
        have H3 := Lib.hid (show ∀ q : Nat, (Lr.set a 1).getD q 0 = if q < a + 1 ∧ M.ac.getD q false = true then 1 else 0 from fun q => by
          rw [getD_set (by rw [HLR.out]; exact hlt)]
          by_cases e : q = a
          · subst e; rw [if_pos rfl, if_pos ⟨by omega, hav⟩]
          · rw [if_neg e, R.out q]
            by_cases e2 : q < a
            · simp [e2, show q < a + 1 by omega]
            · rw [if_neg (by omega), if_neg (by omega)])
        have VE := Lib.hid (V.out.w_set (i := 0) rfl a 1)
        clear hav
        go_wp2_with fail
        go_roundw
        case rel => exact ⟨a + 1, by go_num, by omega, _, H3.out, VE.out⟩
        case measure => simp [intOf]; omega
    · obtain rfl : a = xn := by omega
      have HCW := Lib.hid (show ∀ q : Nat, q < M.n → Lr.getD q 0 = satN (M.cw 0 q) from fun q hq => by
        rw [R.out q]
        have e : M.cw 0 (q : Int) = if M.ac.getD q false = true then 1 else 0 := by
          show (if M.acc (q : Int) = true then 1 else 0) = _
          rw [show M.acc (q : Int) = M.ac.getD q false by unfold Au.acc; simp]
        rw [e, ← HZN.out] at *
        by_cases e3 : M.ac.getD q false = true
        · rw [if_pos ⟨hq, e3⟩, if_pos e3]; rfl
        · rw [if_neg (fun h => e3 h.2), if_neg e3]; rfl)
      have HCAP := Lib.hid (show ∀ q : Nat, Lr.getD q 0 ≤ cap1 from fun q => by rw [R.out q]; split <;> decide)
      have HCI := Lib.hid (V.out.cells (i := 0) (A := some ⟨gl, 0, none⟩) (c := a) rfl rfl)
      have V4 := Lib.hid V.out.tail
      go_wp2_with fail
      go_loopw [7, 42] (fun gv cv wr => ∃ j : Nat, cv = .int .i64 (j : Int) ∧ j ≤ N ∧ ∃ (G : Option Addr) (c2 : Nat), gv = .slice G a c2 ∧ ∃ Lc : List Nat, Lc.length = a ∧ (∀ q : Nat, q < M.n → Lc.getD q 0 = satN (M.cw j q)) ∧ (∀ q : Nat, Lc.getD q 0 ≤ cap1) ∧ CellsIn wr G (u64s Lc) ∧ Hp w [box 25 w.heap.size [.int .i64 M.lt, .int .i64 M.st, .slice xA a xc, .slice xB a xd]] wr) (fun _ cv _ => N - (intOf cv).toNat)
      case atStart => exact ⟨0, rfl, Nat.zero_le _, _, _, rfl, Lr, HLR.out, HCW.out, HCAP.out, HCI.out, V4.out⟩
      case round =>
        clear HCW HCAP HCI V4 V R HLR hlt han
        obtain ⟨j, rfl, hjN, G, c2, rfl, Lc, hl0, hl1, hl2, hl3, hV⟩ := hrel
        obtain ⟨wj, rfl⟩ : ∃ wj : World, wj = wr := ⟨_, rfl⟩
        have V := Lib.hid hV
        have L0 := Lib.hid hl0
        have L1 := Lib.hid hl1
        have L2 := Lib.hid hl2
        have L3 := Lib.hid hl3
        clear hV hl0 hl1 hl2 hl3
        obtain ⟨r0_0, _, r0_9⟩ := V.out.box_at (i := 0) (j := 0) rfl rfl
        obtain ⟨r0_1, _, _⟩ := V.out.box_at (i := 0) (j := 1) rfl rfl
        obtain ⟨r0_2, _, _⟩ := V.out.box_at (i := 0) (j := 2) rfl rfl
        obtain ⟨r0_3, _, _⟩ := V.out.box_at (i := 0) (j := 3) rfl rfl
        by_cases hjt : j < N
        · go_wp2_with fail
          have hcl := longer_any ⟨xA, a, xc, xB, a, xd⟩ M k G c2 Lc wj (H.out.below V.out.below) HV.out (by rw [L0.out, HZN.out]) L3.out L2.out
          rw [← HZN.out] at hcl
          refine hcl.mono ?_
          clear hcl
          rintro e w6 ⟨g6, Lr6, rfl, hv6, hr6⟩
          rw [← HZN.out] at hr6
          have V6 := Lib.hid (V.out.go hv6.below)
          have K0 := Lib.hid (show Lr6.length = a by have := hv6.w_len (i := 0) rfl; rw [← HZN.out] at this; exact this)
          have K1 := Lib.hid (show ∀ q : Nat, q < M.n → Lr6.getD q 0 = satN (M.cw (j + 1) q) from fun q hq => by rw [hr6 q (by rw [HZN.out]; exact hq)]; exact cw_next HV.out L1.out hq)
          have K2 := Lib.hid (show ∀ q : Nat, Lr6.getD q 0 ≤ cap1 from fun q => by
            by_cases e : q < a
            · rw [hr6 q e]; exact satN_le _
            · rw [List.getD_eq_getElem?_getD, List.getElem?_eq_none (by have := K0.out; omega)]; exact Nat.zero_le _)
          have K3 := Lib.hid (hv6.cells (i := 0) (A := some ⟨g6, 0, none⟩) (c := M.n) rfl rfl)
          clear hv6 hr6 V r0_9 r0_0 r0_1 r0_2 r0_3
          rw [← HZN.out]
          go_wp2_with fail
          go_roundw
          case rel => exact ⟨j + 1, by go_num, by omega, _, _, rfl, Lr6, K0.out, K1.out, K2.out, K3.out, V6.out⟩
          case measure => simp [intOf]; omega
        · obtain rfl : j = N := by omega
          obtain ⟨b, off, rfl, hb, hcell⟩ := L3.out.u64 (j := s) (by rw [L0.out]; exact hsn)
          obtain ⟨v, hv⟩ : ∃ v, v = Lc.getD s 0 := ⟨_, rfl⟩
          rw [← hv] at hcell
          have hv2 : v = satN (M.cw j M.st) := by rw [hv, L1.out s (by rw [← HZN.out]; exact hsn), HS.out]
          have hvc : v ≤ 4611686018427387905 := by rw [hv2]; exact satN_le _
          have HV2 := Lib.hid hv2
          rw [HS.out] at r0_1
          clear hv hv2
          by_cases hbig : 4611686018427387904 < v
          · have hbig2 : (4611686018427387904 : Int) < (v : Int) := by omega
            have HP := Lib.hid (show CountPost M j w (.returned (.tuple #[.int .i64 0, .int .i64 3])) wj from ⟨ret_two (by rw [HC.out, if_pos ((satN_big _).1 (by rw [← HV2.out]; exact hbig))]) (by rw [HC.out, if_pos ((satN_big _).1 (by rw [← HV2.out]; exact hbig))]), V.out.below⟩)
            go_wp2_with fail
            go_ret2
            exact HP.out
          · have hbig2 : ¬ (4611686018427387904 : Int) < (v : Int) := by omega
            have hw9 := u64_i64 (x := v) (by omega)
            have HQ := Lib.hid (show ¬ 4611686018427387904 < M.cw j M.st from fun e => hbig (by rw [HV2.out]; exact (satN_big _).2 e))
            have HP := Lib.hid (show CountPost M j w (.returned (.tuple #[.int .i64 (v : Int), .int .i64 0])) wj from ⟨ret_two (by rw [HC.out, if_neg HQ.out, HV2.out, satN_small HQ.out]) (by rw [HC.out, if_neg HQ.out]), V.out.below⟩)
            go_wp2_with fail
            go_ret2
            exact HP.out
theorem count_any (x : DV) (M : Au) (n : Int) (w : World) (h : DfaIn w x M) :
    Calls Try.prog 14 #[dval x M, .int .i64 n] w (CountPost M n w) := by
  by_cases hv : M.vE = 0
  · by_cases hn : n < 0 ∨ 1000 < n
    · exact count_range x M n w h hv hn
    · by_cases hs : M.st = -1
      · exact count_empty x M n w h hv (by omega) (by omega) hs
      · exact count_main x M n w h hv (by omega) (by omega) hs
  · exact count_bad x M n w h hv
end Go.Proofs.Ytdkdfmflghbhiaa
