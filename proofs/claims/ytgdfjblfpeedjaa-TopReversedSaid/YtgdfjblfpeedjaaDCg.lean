/- Contract of the program: how many ways lead on. -/
import Derived.Test.YtgdfjblfpeedjaaDCf
import Derived.Test.YtgdfjblfpeedjaaDAX
namespace Go.Proofs.Ytgdfjblfpeedjaa
open Go.RowKit
set_option linter.unusedVariables false
set_option linter.unusedSimpArgs false
set_option maxRecDepth 100000

open Go.Shelf
attribute [local go_sem] Oper.semAt_some
def uints (L : List Int) : List Value := L.map (Value.int .u64)
theorem uints_len (L : List Int) : (uints L).length = L.length := by simp [uints]
theorem uints_at {L : List Int} {j : Nat} (h : j < L.length) : (uints L)[j]? = some (.int .u64 (L.getD j 0)) := by
  rw [List.getD_eq_getElem?_getD, List.getElem?_eq_getElem h]; simp [uints, h]
def unums (A : Option Addr) (n c : Nat) (L : List Int) : Itm := ⟨47, 1, .slice A n c, n, uints L⟩
theorem uint_info : (Try.prog.info? 47).map (fun i => (i.zero, i.size, i.bytes)) = some (some (.int .u64 0), 1, 8) := by kernel_rfl
theorem Hp.unum_set {W w : World} {l : List Itm} {i g n c : Nat} {L : List Int} (h : Hp W l w) (hi : l[i]? = some (unums (some ⟨g, 0, none⟩) n c L)) (j : Nat) (x : Int) :
    Hp W (l.set i (unums (some ⟨g, 0, none⟩) n c (L.set j x))) (w.setCell ⟨g, j, none⟩ (.int .u64 x)) := by
  have := h.store hi (g := g) (cap := c) rfl j (.int .u64 x)
  simpa [unums, uints] using this
theorem Hp.unum_at {W w : World} {l : List Itm} {i g n c : Nat} {L : List Int} (h : Hp W l w) (hi : l[i]? = some (unums (some ⟨g, 0, none⟩) n c L)) {j : Nat} (hj : j < L.length) :
    w.cell? ⟨g, j, none⟩ = some (.int .u64 (L.getD j 0)) ∧ w.frozen? ⟨g, j, none⟩ = false ∧ g < w.heap.size := h.cell hi (cap := c) rfl (uints_at hj)
theorem make_unums (N : Int) (n : Nat) (h : N = (n : Int)) (hn : n ≤ 1000000000000) (w : World) :
    (Instr.makeSlice 54 (.int .i64 N) (.int .i64 N)).run Try.prog w = .ok (.slice (some ⟨w.heap.size, 0, none⟩) n n) (w.alloc (.cells (List.replicate n (.int .u64 0)).toArray 47)) := by
  obtain ⟨i0, hi, hz0, hz1, hz2⟩ := info_parts uint_info
  have := run_make (P := Try.prog) w 54 47 i0 (.int .u64 0) Try.underlying54 hi hz0 .i64 .i64 N N (by omega) (Int.le_refl _) (by rw [hz2]; omega) (by omega)
  rw [this, hz1, h]
  simp only [Int.toNat_natCast]
  rw [made_cells _ _ rfl]
theorem Hp.made_unumsA {W w : World} {l : List Itm} (h : Hp W l w) (n : Nat) (hn : n ≤ 1000000000000) : Hp W (unums (some ⟨w.heap.size, 0, none⟩) n n (List.replicate n 0) :: l) (w.alloc (.cells (Array.replicate n (.int .u64 0)) 47)) := by
  refine h.new _ (bnew _ _) ?_ (fun k hk => by simp [unums, Value.ownBlock] at hk; omega)
  have := World.ownsRow_lit (base := W.heap.size) (e := 47) (size := 1) w (List.replicate n (.int .u64 0)).toArray n h.below.size (by unfold maxLen; omega) (by simp)
  simpa [unums, uints] using this
/-- Rows change places. -/
theorem Hp.rot {W w : World} {l1 l2 : List Itm} (h : Hp W (l1 ++ l2) w) : Hp W (l2 ++ l1) w := by
  refine h.sub (fun i => if i < l2.length then i + l1.length else if i < l2.length + l1.length then i - l2.length else i) (fun i j e => ?_) (fun i it hi => ?_)
  · split at e <;> split at e <;> (try split at e) <;> (try split at e) <;> omega
  · have hl := (List.getElem?_eq_some_iff.1 hi).1
    rw [List.length_append] at hl
    split
    · rw [List.getElem?_append_right (by omega), Nat.add_sub_cancel]
      rwa [List.getElem?_append_left (by assumption)] at hi
    · rw [List.getElem?_append_left (by omega)]
      rwa [List.getElem?_append_right (by omega)] at hi
/-- What is owed where nothing panics. -/
def noPanic (Q : Exit → Act → World → Prop) : Exit → Act → World → Prop
  | .panic _, _, _ => False
  | e, a, w => Q e a w
theorem wp_noPanic {P : Program} {c : Code} {Q : Exit → Act → World → Prop} {a : Act} {w : World} (h : c.wp P (noPanic Q) a w) : c.wp P Q a w := wp_mono h fun e a w h => by
  cases e <;> first | exact h | exact h.elim
theorem waysF_all {g : Gr} (h : g.Ok) {N : Nat} (hN : N = g.n.toNat) (h0 : 0 < N) : ∀ k, k ≤ N → ((upto (dn N h0) k).map Fin.val).foldl (stepW g) (initW N) = g.waysK k
  | 0, _ => by rw [waysK_zero h, ← hN]; rfl
  | k + 1, hk => by
    rw [upto_succ, List.map_append, List.foldl_append, waysF_all h hN h0 k (by omega)]
    have := waysK_step h (k := k) (by omega)
    rw [← hN] at this
    exact this
theorem KeptBut.drew (B g : Nat) (W : World) : KeptBut B g W W.drew := ⟨Nat.le_refl _, fun _ _ _ _ => rfl⟩
theorem Hp.store_grown {W w : World} {l : List Itm} {i : Nat} {it : Itm} (h : Hp W l w) (hi : l[i]? = some it) {g cap : Nat} (hv : it.v = .slice (some ⟨g, 0, none⟩) it.n cap) (j : Nat) (u : Value) : w.grownBy (w.setCell ⟨g, j, none⟩ u) (some g) := by
  have ho := h.own i it hi
  rw [hv] at ho
  exact (ho.stored j u).2
/-! ### Regions of a round that draw their order -/
theorem upon_in {P : Program} {o : Oper} {a : Act} {next next' : Act → World → Prop} {Q : Exit → Act → World → Prop} {l n : Nat} (hn : ∀ a w, next a w → next' a w) : ∀ {r : Result Next}, o.upon P a next Q r → o.uponIn (Fence.wide.inRound l) n P a next' Q r
  | .ok (.value v) w', h => hn _ _ h
  | .ok .skip w', h => hn _ _ h
  | .ok (.defer d) w', h => hn _ _ h
  | .ok (.enter f args) w', h => ⟨fun h => (by cases h), ((callsIn_wide (n := n - 1)).2 (Calls.mono h (fun e w hr => by
      cases e with
      | returned v => exact hn _ _ hr
      | panicked c => exact hr
      | outgrown => exact hr))).inRound l⟩
  | .ok (.row row args) w', h => ⟨fun h => (by cases h), fun c cs _ => by
      obtain ⟨v, w2, h1, h2⟩ := h c cs
      exact ⟨v, w2, hn _ _ h1, stepsIn_wide.2 h2⟩⟩
  | .halt (.panic v) w', h => h
theorem ops_in {P : Program} {ops : Array Oper} {Q : Exit → Act → World → Prop} {l n : Nat} (hno : ∀ (i : Nat) o, ops[i]? = some o → ∀ c, o.op ≠ .defer c) (hQ : ¬ LetsOut Q) : ∀ (is : List Nat) (a : Act) (w : World), wpOps P ops Q is a w → wpOpsIn (Fence.wide.inRound l) n P ops Q is a w
  | [], a, w, h => h
  | i :: rest, a, w, h => by
    unfold wpOps at h
    unfold wpOpsIn
    cases ho : ops[i]? with
    | none => rw [ho] at h; exact ops_in hno hQ rest a w h
    | some o =>
      rw [ho] at h
      dsimp only at h ⊢
      by_cases hw : Region.wanted o (yielded ops a.tmps) = true
      · rw [if_pos hw] at h ⊢
        rcases h with h | h
        · refine ⟨fun _ _ => trivial, ?_⟩
          rw [Oper.semAt_eq _ _ _ (hno i o ho)]
          exact upon_in (fun a w hx => ops_in hno hQ rest a w hx) h
        · exact absurd h.2 hQ
      · rw [if_neg hw] at h ⊢
        exact ⟨fun _ _ => trivial, ops_in hno hQ rest _ w h⟩
def noDefer (o : Oper) : Bool := match o.op with
  | .defer _ => false
  | _ => true
theorem wpIn_region_held {P : Program} {ops : Array Oper} {Q : Exit → Act → World → Prop} {S : World → Prop} {l n id : Nat} {a : Act} {w : World} (hm : P.follows .mixedOrders = true) (hno : ops.all noDefer = true) (hQ : ¬ LetsOut Q) (hS : S w.drew)
    (h : S w.drew → wpAnyH P .any ops Q S ops.size (Array.replicate ops.size false) a w.drew) : (Code.region id ops true).wpIn (Fence.wide.inRound l) n P Q a w :=
  wpIn_region_draw fun t => by
    simp only [Region.schedule, hm, Bool.true_or, if_true]
    refine ops_in (fun i o ho c e => ?_) hQ _ _ _ (wpAny_sound ops.size t _ a _ (wpAny_of_held _ _ _ _ (h hS)))
    have h1 := (Array.all_eq_true_iff_forall_mem.1 hno) o (Array.mem_of_getElem? ho)
    unfold noDefer at h1
    rw [e] at h1
    cases h1
/-- What waysOn returns: how many ways lead on from each node. -/
def WaysPost (g : Gr) (w : World) (e : Ending) (w' : World) : Prop := ∃ gw : Nat, e = .returned (.slice (some ⟨gw, 0, none⟩) g.n.toNat g.n.toNat) ∧ Hp w [unums (some ⟨gw, 0, none⟩) g.n.toNat g.n.toNat g.waysL] w'
set_option maxHeartbeats 32000000 in
theorem waysOn_any (g : Gr) (A : Option Addr) (n c : Nat) (w : World) (h : GrIn w A n c g) (hO : g.Ok) :
    Calls Try.prog 19 #[gval g A n c] w (WaysPost g w) := by
  have H := Lib.hid h
  have hcs := h.small
  have hcn := h.cap
  have n1 := hO.n1
  have n2 := hO.n2
  have hnl : n ≤ 6000 := by have := hO.len; have := h.len; omega
  have HO := Lib.hid hO
  have HL := Lib.hid h.len
  clear h hO
  obtain ⟨N, hN⟩ : ∃ N, N = g.n.toNat := ⟨_, rfl⟩
  have HN := Lib.hid hN
  have hgN : g.n = (N : Int) := by omega
  have hN1 : 1 ≤ N := by omega
  have hN2 : N ≤ 2000 := by omega
  obtain ⟨E, hE⟩ : ∃ E, E = N - 1 := ⟨_, rfl⟩
  have hEN : E < N := by omega
  have HE := Lib.hid hE
  have HGE := Lib.hid (show g.n - 1 = (E : Int) by omega)
  have HGN := Lib.hid hgN
  have HBX := Lib.hid (show ∀ W l w', Hp W l w' → Hp W (box 26 w'.heap.size [.int .i64 (N : Int), .slice A n c] :: l) (w'.alloc (.cells #[.int .i64 (N : Int), .slice A n c] 26)) from fun W l w' h => h.box_new _ _)
  have hgv : gval g A n c = .agg #[.int .i64 (N : Int), .slice A n c] := by rw [← hgN]
  have HEND := Lib.hid (show ∀ w, Calls Try.prog 13 #[.agg #[.int .i64 (N : Int), .slice A n c]] w fun e w' => e = .returned (.int .i64 (E : Int)) ∧ Below w.heap.size w w' by
    intro w
    have := end_any g A n c w n1 n2
    rw [hgv, HGE.out] at this
    exact this)
  have HOUT := Lib.hid (show ∀ w, GrIn w A n c g → Calls Try.prog 30 #[.agg #[.int .i64 (N : Int), .slice A n c]] w fun e w' => ∃ (go : Nat) (vs : List (Option Addr × Nat)), e = .returned (.slice (some ⟨go, 0, none⟩) N N) ∧ vs.length = N ∧ Hp w (rvals (some ⟨go, 0, none⟩) N N vs (g.rowsK n) :: rowsG vs (g.rowsK n)) w' by
    intro w hh
    have := outgoing_any g A n c w hh HO.out
    rw [hgv] at this
    refine this.mono ?_
    rintro e w' ⟨go, vs, h1, h2, h3⟩
    rw [← HN.out, HL.out] at *
    exact ⟨go, vs, h1, h2, h3⟩)
  rw [hgv]
  obtain ⟨wz, hwz⟩ : ∃ z, z = w.alloc (.cells #[.int .i64 (N : Int), .slice A n c] 26) := ⟨_, rfl⟩
  have HZ := Lib.hid hwz
  have V := Lib.hid (show Hp w [box 26 w.heap.size [.int .i64 (N : Int), .slice A n c]] wz by rw [hwz]; exact HBX.out _ _ _ (Hp.start w))
  clear hwz hN hgN n1 n2 HBX hgv hE
  obtain ⟨wy, hwy⟩ : ∃ z, z = wz.alloc (.cells (Array.replicate N (.int .u64 0)) 47) := ⟨_, rfl⟩
  have VY := Lib.hid (show Hp w [unums (some ⟨wz.heap.size, 0, none⟩) N N (List.replicate N 0), box 26 w.heap.size [.int .i64 (N : Int), .slice A n c]] wy by
    rw [hwy]; exact V.out.made_unumsA N (by omega))
  obtain ⟨gw, hgw⟩ : ∃ gw, gw = wz.heap.size := ⟨_, rfl⟩
  rw [← hgw] at VY
  have hwg : w.heap.size < gw := by have := (V.out.box_at (i := 0) (j := 0) rfl rfl).2.2; omega
  obtain ⟨wx, hwx⟩ : ∃ z, z = wy.alloc (.cells #[.slice (some ⟨gw, 0, none⟩) N N] 54) := ⟨_, rfl⟩
  have hsy : wy.heap.size = gw + 1 := by rw [hwy, hgw]; simp
  have VX := Lib.hid (show Hp w [box 54 (gw + 1) [.slice (some ⟨gw, 0, none⟩) N N], unums (some ⟨gw, 0, none⟩) N N (List.replicate N 0), box 26 w.heap.size [.int .i64 (N : Int), .slice A n c]] wx by
    rw [hwx, ← hsy]; exact VY.out.box_new _ _)
  have HX := Lib.hid (show wx = (wz.alloc (.cells (Array.replicate N (.int .u64 0)) 47)).alloc (.cells #[.slice (some ⟨wz.heap.size, 0, none⟩) N N] 54) by rw [hwx, hwy, hgw])
  have hmk := fun w => make_unums (N : Int) N rfl (by omega) w
  clear hwy hwx
  refine (callsIn_wide (n := 3)).1 ?_
  refine callsIn_of_wp_marks Try.func19 rfl trivial ?_
  refine wpIn_wide.2 (wp_noPanic ?_)
  simp only [Try.ntmps19, List.size_toArray, List.length_cons, List.length_nil, Nat.reduceAdd, Nat.reduceSub, Array.replicate_succ, Array.replicate_zero, List.push_toArray, List.append_toArray, List.nil_append, List.cons_append]
  go_upto_region 1 with fail
  rw [← HZ.out]
  clear HZ
  obtain ⟨r0, _, r9⟩ := V.out.box_at (i := 0) (j := 0) rfl rfl
  go_upto_region 2 with fail
  rw [← HX.out]
  clear HX VY hmk r0 r9 V hsy
  rw [← hgw]
  clear hgw
  have hKp : Keep [(⟨gw + 1, 0, none⟩, .slice (some ⟨gw, 0, none⟩) N N), (⟨w.heap.size, 0, none⟩, .int .i64 (N : Int)), (⟨w.heap.size, 1, none⟩, .slice A n c)] wx := List.forall_mem_cons.2 ⟨⟨(VX.out.box_at (i := 0) (j := 0) rfl rfl).1, (VX.out.box_at (i := 0) (j := 0) rfl rfl).2.2⟩, List.forall_mem_cons.2 ⟨⟨(VX.out.box_at (i := 2) (j := 0) rfl rfl).1, (VX.out.box_at (i := 2) (j := 0) rfl rfl).2.2⟩, List.forall_mem_cons.2 ⟨⟨(VX.out.box_at (i := 2) (j := 1) rfl rfl).1, (VX.out.box_at (i := 2) (j := 1) rfl rfl).2.2⟩, fun _ h => by simp at h⟩⟩⟩
  refine wp_region_held_drew (S := Keep _) (by kernel_rfl) hKp.drew (fun hHeld => ?_)
  have VXd := Lib.hid (VX.out.go (bdrew _))
  refine tk 0 ?_ rfl ?_ ?_; rotate_left
  · intro wl hSw
    have hSw : Keep _ wl := hSw
    have k0 : wl.cell? ⟨gw + 1, 0, none⟩ = some (.slice (some ⟨gw, 0, none⟩) N N) := (hSw _ (.head _)).1
    clear hSw
    go_simp
    try (with_reducible rfl)
  try simp only [Act.put, sA, sZ, sS]
  refine tk 1 ?_ rfl ?_ ?_; rotate_left
  · intro wl hSw
    have hSw : Keep _ wl := hSw
    have k0 : wl.cell? ⟨w.heap.size, 0, none⟩ = some (.int .i64 (N : Int)) := (hSw _ (.tail _ (.head _))).1
    have k1 : wl.cell? ⟨w.heap.size, 1, none⟩ = some (.slice A n c) := (hSw _ (.tail _ (.tail _ (.head _)))).1
    clear hSw
    go_simp
    try (with_reducible rfl)
  try simp only [Act.put, sA, sZ, sS]
  refine wpAnyH_ready (rs := [2]) (by kernel_rfl) (by simp) ?_
  refine AllReadyH.cons (List.getElem?_toArray.trans rfl) (fun K hK => ?_) AllReadyH.nil
  go_simp
  refine (HEND.out _).mono ?_
  rintro e w_2 ⟨rfl, b_2⟩
  try go_wp2_with fail
  have V_2 := Lib.hid (VXd.out.go b_2)
  refine hK.out _ _ (hHeld.go b_2) (fun hHeld => ?_)
  clear hK K
  try simp only [Act.put, sA, sZ, sS]
  refine tk 3 ?_ rfl ?_ ?_; rotate_left; focus (intro w hSw; clear hSw; go_simp; try (with_reducible rfl))
  try simp only [Act.put, sA, sZ, sS]
  refine wpAnyH_ready (rs := [4]) (by kernel_rfl) (by simp) ?_
  refine AllReadyH.cons (List.getElem?_toArray.trans rfl) (fun K hK => ?_) AllReadyH.nil
  obtain ⟨x1, x2, x3⟩ := V_2.out.unum_at (i := 1) rfl (j := E) (by simp; omega)
  have V2 := Lib.hid (V_2.out.unum_set (i := 1) rfl E 1)
  go_simp
  refine hK.out _ _ (hHeld.set _ _ _ (List.forall_mem_cons.2 ⟨(by show ¬ gw + 1 = gw; omega), List.forall_mem_cons.2 ⟨(by show ¬ w.heap.size = gw; omega), List.forall_mem_cons.2 ⟨(by show ¬ w.heap.size = gw; omega), fun _ h => by simp at h⟩⟩⟩)) (fun hHeld => ?_)
  clear hK K
  try simp only [Act.put, sA, sZ, sS]
  refine wpAnyH_done (by kernel_rfl) ?_ _
  clear hKp hHeld VX VXd

  rw [show (List.replicate N (0 : Int)).set E 1 = initW N by rw [HE.out]; rfl] at V2
  obtain ⟨w2, hw2⟩ : ∃ z, z = (w_2.setCell ⟨gw, E, none⟩ (.int .u64 1)) := ⟨_, rfl⟩
  have V3 := Lib.hid (show Hp w [box 54 (gw + 1) [.slice (some ⟨gw, 0, none⟩) N N], unums (some ⟨gw, 0, none⟩) N N (initW N), box 26 w.heap.size [.int .i64 (N : Int), .slice A n c]] w2 by rw [hw2]; exact V2.out)
  rw [← hw2]
  clear hw2 V2 V_2 b_2 x1 x2 x3
  obtain ⟨r0, _, r9⟩ := V3.out.box_at (i := 2) (j := 0) rfl rfl
  obtain ⟨r1, _, _⟩ := V3.out.box_at (i := 2) (j := 1) rfl rfl
  go_wp2_with fail
  refine (HOUT.out _ (H.out.below V3.out.below)).mono ?_
  rintro e w3 ⟨go, vs, rfl, hvs, hp3⟩
  have HVS := Lib.hid hvs
  have V4 := Lib.hid (show Hp w ([box 54 (gw + 1) [.slice (some ⟨gw, 0, none⟩) N N], unums (some ⟨gw, 0, none⟩) N N (initW N), box 26 w.heap.size [.int .i64 (N : Int), .slice A n c], rvals (some ⟨go, 0, none⟩) N N vs (g.rowsK n)] ++ rowsG vs (g.rowsK n)) w3 from (V3.out.join hp3).rot)
  have hgo : gw + 1 < go := by
    have h1 := hp3.lt (i := 0) rfl (k := go) rfl
    have h2 := (V3.out.box_at (i := 0) (j := 0) rfl rfl).2.2
    omega
  clear hp3 hvs V3 r0 r1 r9
  go_wp2_with fail
  refine (backward_any _ _ _ _).mono ?_
  rintro e w4 ⟨rfl, hw4⟩
  have V5 := Lib.hid (show Hp w ([box 69 w3.heap.size [.slice (some ⟨go, 0, none⟩) N N], box 54 (gw + 1) [.slice (some ⟨gw, 0, none⟩) N N], unums (some ⟨gw, 0, none⟩) N N (initW N), box 26 w.heap.size [.int .i64 (N : Int), .slice A n c], rvals (some ⟨go, 0, none⟩) N N vs (g.rowsK n)] ++ rowsG vs (g.rowsK n)) w4 by rw [hw4]; exact V4.out.box_new _ _)
  obtain ⟨Bs, hBs⟩ : ∃ Bs, Bs = w3.heap.size := ⟨_, rfl⟩
  have hgB : go < Bs := by rw [hBs]; exact (V4.out.lt (i := 3) rfl (k := go) rfl).2
  rw [← hBs] at V5 ⊢
  have hB4 : Bs < w4.heap.size := by rw [hw4, hBs]; simp
  clear hw4 hBs V4
  go_wp2_with fail
  obtain ⟨RA, RL, RC, hR⟩ : ∃ (RA : Nat → Option Addr) (RL RC : Nat → Nat), ∀ (j : Nat) v row, vs[j]? = some v → (g.rowsK n)[j]? = some row → RA j = v.1 ∧ RL j = row.length ∧ RC j = v.2 :=
    ⟨fun j => (vs.getD j (none, 0)).1, fun j => ((g.rowsK n).getD j []).length, fun j => (vs.getD j (none, 0)).2, fun j v row h1 h2 => by
      simp [List.getD_eq_getElem?_getD, h1, h2]⟩
  have HR := Lib.hid hR
  clear hR
  have HROW := Lib.hid (show ∀ j, j < N → ∃ v, vs[j]? = some v ∧ (g.rowsK n)[j]? = some (outI g.rs j) from fun j hj => by
    refine ⟨_, List.getElem?_eq_getElem (by rw [HVS.out]; exact hj), ?_⟩
    rw [rowsK_get (by rw [← HN.out]; exact hj), ← HL.out, List.take_length])
  have HC := Lib.hid (show ∀ j, j < N → w4.cell? ⟨go, j, none⟩ = some (.slice (RA j) (RL j) (RC j)) from fun j hj => by
    obtain ⟨v, h1, h2⟩ := HROW.out j hj
    obtain ⟨e1, e2, e3⟩ := HR.out j v _ h1 h2
    rw [e1, e2, e3]
    exact (V5.out.rv_at (i := 4) rfl h1 h2).1)
  refine (wpIn_wide (n := 3)).1 ?_
  refine wpIn_rangeFunc_ownG rfl (by omega) (gf := 36) (lb := #[.pointer (some ⟨Bs, 0, none⟩)]) rfl trivial (enters_of Try.func36 (by kernel_rfl) rfl)
    (backward_stops 2 (by omega) Bs go N N w4.heap.size gw (by omega) (by omega) RA RL RC hB4 (by omega) (by omega) (by omega) w4 (V5.out.box_at (i := 0) (j := 0) rfl rfl).1 HC.out)
    (fun h k => h.trans k) (fun W l o o' hl _ _ _ => KeptBut.putObj W l o' hl) (Below.refl _ _) (fun _ => rfl)
    (fun pre W => Hp w ([box 69 Bs [.slice (some ⟨go, 0, none⟩) N N], box 54 (gw + 1) [.slice (some ⟨gw, 0, none⟩) N N], unums (some ⟨gw, 0, none⟩) N N ((pre.map Fin.val).foldl (stepW g) (initW N)), box 26 w.heap.size [.int .i64 (N : Int), .slice A n c], rvals (some ⟨go, 0, none⟩) N N vs (g.rowsK n)] ++ rowsG vs (g.rowsK n)) W)
    (fun _ _ _ => False)
    (fun s A B row hs hg hr => hs.turned hg (fun r e => ⟨Nat.le_trans V5.out.below.size (hr r e).1, (hr r e).2⟩))
    (fun _ _ _ _ _ hs _ _ => hs)
    V5.out ?a1 ?assign ?body ?done ?stop
  case assign =>
    intro l x W K hK
    gi_wp2
    exact hK
  case stop =>
    rintro D c pre W _ _ h _
    exact h.elim
  case done =>
    rintro D ys W hD rfl hV hK
    obtain ⟨r0, _, r9⟩ := hV.box_at (i := 1) (j := 0) rfl rfl
    have HV := Lib.hid hV
    have HK := Lib.hid hK
    clear hV hK
    go_wp2_with fail
    refine ⟨by simp, .inl ⟨_, _, rfl, run_takeDeferred HK.out, ?_⟩⟩
    refine ⟨_, results_tmp rfl _ _ _, gw, by rw [← HN.out]; rfl, ?_⟩
    have h1 := (HV.out.turned (grownBy_putObj' W D (.deferred none)) (fun r e => by
      injection e with e
      subst e
      exact ⟨Nat.le_trans V5.out.below.size hD, _, HK.out, rfl⟩)).pick (l' := [unums (some ⟨gw, 0, none⟩) N N _]) [2] (by decide) rfl
    rw [waysF_all HO.out HN.out (by omega) N (Nat.le_refl _)] at h1
    have h2 := waysK_all g
    rw [← HN.out] at h2 ⊢
    rw [h2] at h1
    exact h1
  case body =>
    rintro l pre ⟨j, hj⟩ W hV hx
    have HV := Lib.hid hV
    clear hx hV
    obtain ⟨v, hv1, hv2⟩ := HROW.out j hj
    obtain ⟨e1, e2, e3⟩ := HR.out j v _ hv1 hv2
    obtain ⟨row, hrow⟩ : ∃ row, row = outI g.rs j := ⟨_, rfl⟩
    rw [← hrow] at hv2 e2
    have HRW := Lib.hid hrow
    have HRL := Lib.hid e2
    have HV1 := Lib.hid hv1
    have HV2 := Lib.hid hv2
    have HE1 := Lib.hid e1
    have hRL : RL j ≤ 6000 := by rw [e2, hrow]; exact Nat.le_trans (outI_len _ _) (by have := HO.out.len; omega)
    obtain ⟨L0, hL0⟩ : ∃ L0, L0 = (pre.map Fin.val).foldl (stepW g) (initW N) := ⟨_, rfl⟩
    have HL0 := Lib.hid hL0
    have HNX := Lib.hid (show ((pre ++ [(⟨j, hj⟩ : Fin N)]).map Fin.val).foldl (stepW g) (initW N) = row.foldl (inW g j) L0 by
      rw [List.map_append, List.foldl_append, ← hL0, hrow]; rfl)
    have HOK := Lib.hid (show WOk N L0 by rw [hL0]; exact WOk.steps _ (WOk.init N))
    have V0 := Lib.hid (show Hp w ([box 69 Bs [.slice (some ⟨go, 0, none⟩) N N], box 54 (gw + 1) [.slice (some ⟨gw, 0, none⟩) N N], unums (some ⟨gw, 0, none⟩) N N ((row.take 0).foldl (inW g j) L0), box 26 w.heap.size [.int .i64 (N : Int), .slice A n c], rvals (some ⟨go, 0, none⟩) N N vs (g.rowsK n)] ++ rowsG vs (g.rowsK n)) W by rw [hL0]; exact HV.out)
    have hjN2 : j < N := hj
    clear hv1 hv2 e1 e2 e3 hrow hL0 HV
    gi_wp2
    gi_loopw [22] (fun cv wr => ∃ k : Nat, cv = .int .i64 (k : Int) ∧ k ≤ RL j ∧ KeptBut w4.heap.size gw W wr ∧ KeepsFrom w4.heap.size W wr ∧ Hp w ([box 69 Bs [.slice (some ⟨go, 0, none⟩) N N], box 54 (gw + 1) [.slice (some ⟨gw, 0, none⟩) N N], unums (some ⟨gw, 0, none⟩) N N ((row.take k).foldl (inW g j) L0), box 26 w.heap.size [.int .i64 (N : Int), .slice A n c], rvals (some ⟨go, 0, none⟩) N N vs (g.rowsK n)] ++ rowsG vs (g.rowsK n)) wr) (fun cv _ => RL j - (intOf cv).toNat)
    case atStart => exact ⟨0, rfl, Nat.zero_le _, KeptBut.refl _ _ _, KeepsFrom.refl _ _, V0.out⟩
    case round =>
      obtain ⟨k, rfl, hk, hkb, hkf, hV⟩ := hrel
      obtain ⟨wi, rfl⟩ : ∃ wi : World, wi = wr := ⟨_, rfl⟩
      have KB := Lib.hid hkb
      have KF := Lib.hid hkf
      have V := Lib.hid hV
      clear hkb hkf hV V0
      by_cases hlt : k < RL j
      case neg =>
        obtain rfl : k = RL j := by omega
        gi_wp2
        refine ⟨KF.out, KB.out, ?_⟩
        simp only [HNX.out]
        have := V.out
        rwa [List.take_of_length_le (by rw [← HRL.out]; exact Nat.le_refl _)] at this
      obtain ⟨Lk, hLk⟩ : ∃ Lk, Lk = (row.take k).foldl (inW g j) L0 := ⟨_, rfl⟩
      have hok : WOk N Lk := by rw [hLk]; exact WOk.fold _ HOK.out
      have V1 := Lib.hid (show Hp w ([box 69 Bs [.slice (some ⟨go, 0, none⟩) N N], box 54 (gw + 1) [.slice (some ⟨gw, 0, none⟩) N N], unums (some ⟨gw, 0, none⟩) N N Lk, box 26 w.heap.size [.int .i64 (N : Int), .slice A n c], rvals (some ⟨go, 0, none⟩) N N vs (g.rowsK n)] ++ rowsG vs (g.rowsK n)) wi by rw [hLk]; exact V.out)
      have hkr : k < row.length := by rw [← HRL.out]; exact hlt
      have hci : CellsIn wi v.1 (ints row) := V1.out.cells (i := 5 + j) (by rw [List.getElem?_append_right (by simp)]; simpa using rowsG_get HV1.out HV2.out) rfl
      obtain ⟨br, or', hRA, hbr, hcr⟩ := hci.int (j := k) hkr
      obtain ⟨i, hi⟩ : ∃ i, i = row.getD k 0 := ⟨_, rfl⟩
      rw [← hi] at hcr
      have him : i ∈ outI g.rs j := by rw [← HRW.out, hi, List.getD_eq_getElem?_getD, List.getElem?_eq_getElem hkr]; exact List.getElem_mem hkr
      obtain ⟨hi0, hi1, hi2⟩ := outI_mem.1 him
      obtain ⟨I, rfl⟩ := Int.eq_ofNat_of_zero_le hi0
      have hIn : I < n := by have := HL.out; omega
      obtain ⟨⟨af, at', ac⟩, b, off, ha, hae, hA, hbw, c0', c1', c2'⟩ := H.out.at hIn
      have har := HO.out.arc _ (List.mem_of_getElem? ha)
      dsimp only at har c1'
      have c1 := (V1.out.below.cell (p := ⟨b, off + I * 3 + 1, none⟩) hbw).trans c1'
      have hb := Nat.lt_of_lt_of_le hbw V1.out.below.size
      have hbg : b < gw := by omega
      clear c0' c1' c2'
      obtain ⟨T, rfl⟩ := Int.eq_ofNat_of_zero_le (show 0 ≤ at' by omega)
      have hTN : T < N := by have := HGN.out; omega
      have HGI := Lib.hid (show row[k]? = some (I : Int) by rw [List.getElem?_eq_getElem hkr, ← Option.some_inj, hi, List.getD_eq_getElem?_getD, List.getElem?_eq_getElem hkr]; rfl)
      have HT := Lib.hid (show (arc g.rs (I : Int)).t.toNat = T by rw [← hae]; rfl)
      have HLK := Lib.hid hLk
      obtain ⟨a, ha1⟩ : ∃ a, a = Lk.getD j 0 := ⟨_, rfl⟩
      obtain ⟨b', hb1⟩ : ∃ b', b' = Lk.getD T 0 := ⟨_, rfl⟩
      have hab := hok.get j
      have hbb := hok.get T
      obtain ⟨x1, x2, x3⟩ := V1.out.unum_at (i := 2) rfl (j := j) (by rw [hok.1]; exact hjN2)
      obtain ⟨y1, y2, _⟩ := V1.out.unum_at (i := 2) rfl (j := T) (by rw [hok.1]; exact hTN)
      rw [← ha1] at hab x1
      rw [← hb1] at hbb y1
      have hwr : IntKind.u64.wrap (a + b') = a + b' := IntWalk.u64_in _ (by omega)
      have HNEW := Lib.hid (show Lk.set j (if 4611686018427387905 < a + b' then 4611686018427387905 else a + b') = (row.take (k + 1)).foldl (inW g j) L0 by
        rw [show (if 4611686018427387905 < a + b' then 4611686018427387905 else a + b') = min (a + b') 4611686018427387905 by split <;> omega]
        rw [List.take_add_one, HGI.out, List.foldl_append, ← HLK.out, ha1, hb1, ← HT.out]; rfl)
      obtain ⟨r1, _, r9⟩ := V1.out.box_at (i := 1) (j := 0) rfl rfl
      obtain ⟨r2, _, r8⟩ := V1.out.box_at (i := 3) (j := 1) rfl rfl
      have hI3 : I * 3 ≤ 20000 := by omega
      subst hA
      rw [HE1.out, hRA]
      have HOKK := Lib.hid hok
      clear hLk hok hkr hci hi him hi0 hi1 hi2 ha hae har V ha1 hb1
      have hgT : gw < wi.heap.size := by assumption
      gi_wp2
      have hKp : Keep [(⟨gw + 1, 0, none⟩, .slice (some ⟨gw, 0, none⟩) N N), (⟨w.heap.size, 1, none⟩, .slice (some ⟨b, off, none⟩) n c), (⟨b, off + I * 3 + 1, none⟩, .int .i64 (T : Int))] wi := List.forall_mem_cons.2 ⟨⟨r1, r9⟩, List.forall_mem_cons.2 ⟨⟨r2, r8⟩, List.forall_mem_cons.2 ⟨⟨c1, hb⟩, fun _ h => by simp at h⟩⟩⟩
      refine wpIn_region_held (S := Keep [(⟨gw + 1, 0, none⟩, .slice (some ⟨gw, 0, none⟩) N N), (⟨w.heap.size, 1, none⟩, .slice (some ⟨b, off, none⟩) n c), (⟨b, off + I * 3 + 1, none⟩, .int .i64 (T : Int))]) (by kernel_rfl) (by kernel_rfl) (fun ⟨_, _, h⟩ => h) hKp.drew (fun hHeld => ?_)
      have V1d := Lib.hid (V1.out.go (bdrew _))
      refine tk 0 ?_ rfl ?_ ?_; rotate_left
      · intro wl hSw
        have hSw : Keep _ wl := hSw
        have k0 : wl.cell? ⟨gw + 1, 0, none⟩ = some (.slice (some ⟨gw, 0, none⟩) N N) := (hSw _ (.head _)).1
        clear hSw
        go_simp
        try (with_reducible rfl)
      try simp only [Act.put, sA, sZ, sS]
      refine tk 1 ?_ rfl ?_ ?_; rotate_left; focus (intro w hSw; clear hSw; go_simp; try (with_reducible rfl))
      try simp only [Act.put, sA, sZ, sS]
      refine tk 2 ?_ rfl ?_ ?_; rotate_left
      · intro wl hSw
        have hSw : Keep _ wl := hSw
        have k0 : wl.cell? ⟨gw + 1, 0, none⟩ = some (.slice (some ⟨gw, 0, none⟩) N N) := (hSw _ (.head _)).1
        clear hSw
        go_simp
        try (with_reducible rfl)
      try simp only [Act.put, sA, sZ, sS]
      refine tk 3 ?_ rfl ?_ ?_; rotate_left; focus (intro w hSw; clear hSw; go_simp; try (with_reducible rfl))
      try simp only [Act.put, sA, sZ, sS]
      refine tk 4 ?_ rfl ?_ ?_; rotate_left; focus (intro w hSw; clear hSw; go_simp; try (with_reducible rfl))
      try simp only [Act.put, sA, sZ, sS]
      refine tk 6 ?_ rfl ?_ ?_; rotate_left
      · intro wl hSw
        have hSw : Keep _ wl := hSw
        have k0 : wl.cell? ⟨gw + 1, 0, none⟩ = some (.slice (some ⟨gw, 0, none⟩) N N) := (hSw _ (.head _)).1
        clear hSw
        go_simp
        try (with_reducible rfl)
      try simp only [Act.put, sA, sZ, sS]
      refine tk 7 ?_ rfl ?_ ?_; rotate_left; focus (intro w hSw; clear hSw; go_simp; try (with_reducible rfl))
      try simp only [Act.put, sA, sZ, sS]
      refine tk 8 ?_ rfl ?_ ?_; rotate_left
      · intro wl hSw
        have hSw : Keep _ wl := hSw
        have k0 : wl.cell? ⟨w.heap.size, 1, none⟩ = some (.slice (some ⟨b, off, none⟩) n c) := (hSw _ (.tail _ (.head _))).1
        clear hSw
        go_simp
        try (with_reducible rfl)
      try simp only [Act.put, sA, sZ, sS]
      refine tk 9 ?_ rfl ?_ ?_; rotate_left; focus (intro w hSw; clear hSw; go_simp; try (with_reducible rfl))
      try simp only [Act.put, sA, sZ, sS]
      refine tk 10 ?_ rfl ?_ ?_; rotate_left; focus (intro w hSw; clear hSw; go_simp; try (with_reducible rfl))
      try simp only [Act.put, sA, sZ, sS]
      refine tk 11 ?_ rfl ?_ ?_; rotate_left; focus (intro w hSw; clear hSw; go_simp; try (with_reducible rfl))
      try simp only [Act.put, sA, sZ, sS]
      refine tk 12 ?_ rfl ?_ ?_; rotate_left
      · intro wl hSw
        have hSw : Keep _ wl := hSw
        have k0 : wl.cell? ⟨b, off + I * 3 + 1, none⟩ = some (.int .i64 (T : Int)) := (hSw _ (.tail _ (.tail _ (.head _)))).1
        clear hSw
        go_simp
        try (with_reducible rfl)
      try simp only [Act.put, sA, sZ, sS]
      refine tk 13 ?_ rfl ?_ ?_; rotate_left; focus (intro w hSw; clear hSw; go_simp; try (with_reducible rfl))
      try simp only [Act.put, sA, sZ, sS]
      refine wpAnyH_ready (rs := [5, 14]) (by kernel_rfl) (by simp) ?_
      refine AllReadyH.cons (List.getElem?_toArray.trans rfl) (fun K hK => ?_) ?_
      · have yL := x1
        go_simp
        refine hK.out _ _ (hHeld) (fun hHeld => ?_)
        clear hK K
        try simp only [Act.put, sA, sZ, sS]
        refine wpAnyH_ready (rs := [14]) (by kernel_rfl) (by simp) ?_
        refine AllReadyH.cons (List.getElem?_toArray.trans rfl) (fun K hK => ?_) AllReadyH.nil
        have yL := y1
        go_simp
        refine hK.out _ _ (hHeld) (fun hHeld => ?_)
        clear hK K
        try simp only [Act.put, sA, sZ, sS]
        refine tk 15 ?_ rfl ?_ ?_; rotate_left; focus (intro w hSw; clear hSw; go_simp; try (with_reducible rfl))
        try simp only [Act.put, sA, sZ, sS]
        refine tk 16 ?_ rfl ?_ ?_; rotate_left; focus (intro w hSw; clear hSw; go_simp; try (with_reducible rfl))
        try simp only [Act.put, sA, sZ, sS]
        refine tk 17 ?_ rfl ?_ ?_; rotate_left; focus (intro w hSw; clear hSw; go_simp; try (with_reducible rfl))
        try simp only [Act.put, sA, sZ, sS]
        refine wpAnyH_ready (rs := [18]) (by kernel_rfl) (by simp) ?_
        refine AllReadyH.cons (List.getElem?_toArray.trans rfl) (fun K hK => ?_) AllReadyH.nil
        have V2 := Lib.hid (V1d.out.unum_set (i := 2) rfl j (if 4611686018427387905 < a + b' then 4611686018427387905 else a + b'))
        have HG2 := Lib.hid (V1d.out.store_grown (i := 2) rfl (g := gw) (cap := N) rfl j (.int .u64 (if 4611686018427387905 < a + b' then 4611686018427387905 else a + b')))
        obtain ⟨z1, z2, z3⟩ := V1d.out.unum_at (i := 2) rfl (j := j) (by rw [HOKK.out.1]; exact hjN2)
        go_simp
        refine hK.out _ _ (hHeld.set _ _ _ (List.forall_mem_cons.2 ⟨(by show ¬ gw + 1 = gw; omega), List.forall_mem_cons.2 ⟨(by show ¬ w.heap.size = gw; omega), List.forall_mem_cons.2 ⟨(by show ¬ b = gw; omega), fun _ h => by simp at h⟩⟩⟩)) (fun hHeld => ?_)
        clear hK K
        try simp only [Act.put, sA, sZ, sS]
        refine wpAnyH_done (by kernel_rfl) ?_ _
        clear hKp hHeld V1 V1d
        have KB2 := Lib.hid ((KB.out.trans (KeptBut.drew _ _ wi)).trans (KeptBut.of_grown HG2.out))
        have KF2 := Lib.hid (KF.out.trans (((KeepsOthers.drew wi).trans (KeepsOthers.setCell _ ⟨gw, j, none⟩ (.int .u64 (if 4611686018427387905 < a + b' then 4611686018427387905 else a + b')))).from _))
        rw [HNEW.out] at V2
        gi_wp2
        go_roundw
        case rel => exact ⟨k + 1, by go_num, by omega, KB2.out, KF2.out, V2.out⟩
        case measure => simp [intOf]; omega
      refine AllReadyH.cons (List.getElem?_toArray.trans rfl) (fun K hK => ?_) ?_
      · have yL := y1
        go_simp
        refine hK.out _ _ (hHeld) (fun hHeld => ?_)
        clear hK K
        try simp only [Act.put, sA, sZ, sS]
        refine wpAnyH_ready (rs := [5]) (by kernel_rfl) (by simp) ?_
        refine AllReadyH.cons (List.getElem?_toArray.trans rfl) (fun K hK => ?_) AllReadyH.nil
        have yL := x1
        go_simp
        refine hK.out _ _ (hHeld) (fun hHeld => ?_)
        clear hK K
        try simp only [Act.put, sA, sZ, sS]
        refine tk 15 ?_ rfl ?_ ?_; rotate_left; focus (intro w hSw; clear hSw; go_simp; try (with_reducible rfl))
        try simp only [Act.put, sA, sZ, sS]
        refine tk 16 ?_ rfl ?_ ?_; rotate_left; focus (intro w hSw; clear hSw; go_simp; try (with_reducible rfl))
        try simp only [Act.put, sA, sZ, sS]
        refine tk 17 ?_ rfl ?_ ?_; rotate_left; focus (intro w hSw; clear hSw; go_simp; try (with_reducible rfl))
        try simp only [Act.put, sA, sZ, sS]
        refine wpAnyH_ready (rs := [18]) (by kernel_rfl) (by simp) ?_
        refine AllReadyH.cons (List.getElem?_toArray.trans rfl) (fun K hK => ?_) AllReadyH.nil
        have V2 := Lib.hid (V1d.out.unum_set (i := 2) rfl j (if 4611686018427387905 < a + b' then 4611686018427387905 else a + b'))
        have HG2 := Lib.hid (V1d.out.store_grown (i := 2) rfl (g := gw) (cap := N) rfl j (.int .u64 (if 4611686018427387905 < a + b' then 4611686018427387905 else a + b')))
        obtain ⟨z1, z2, z3⟩ := V1d.out.unum_at (i := 2) rfl (j := j) (by rw [HOKK.out.1]; exact hjN2)
        go_simp
        refine hK.out _ _ (hHeld.set _ _ _ (List.forall_mem_cons.2 ⟨(by show ¬ gw + 1 = gw; omega), List.forall_mem_cons.2 ⟨(by show ¬ w.heap.size = gw; omega), List.forall_mem_cons.2 ⟨(by show ¬ b = gw; omega), fun _ h => by simp at h⟩⟩⟩)) (fun hHeld => ?_)
        clear hK K
        try simp only [Act.put, sA, sZ, sS]
        refine wpAnyH_done (by kernel_rfl) ?_ _
        clear hKp hHeld V1 V1d
        have KB2 := Lib.hid ((KB.out.trans (KeptBut.drew _ _ wi)).trans (KeptBut.of_grown HG2.out))
        have KF2 := Lib.hid (KF.out.trans (((KeepsOthers.drew wi).trans (KeepsOthers.setCell _ ⟨gw, j, none⟩ (.int .u64 (if 4611686018427387905 < a + b' then 4611686018427387905 else a + b')))).from _))
        rw [HNEW.out] at V2
        gi_wp2
        go_roundw
        case rel => exact ⟨k + 1, by go_num, by omega, KB2.out, KF2.out, V2.out⟩
        case measure => simp [intOf]; omega
      exact AllReadyH.nil

end Go.Proofs.Ytgdfjblfpeedjaa
