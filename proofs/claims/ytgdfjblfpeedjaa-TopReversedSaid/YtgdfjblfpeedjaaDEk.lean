/- Contract of the program: the costs of the cheapest ways on. -/
import Derived.Test.YtgdfjblfpeedjaaDEj
namespace Go.Proofs.Ytgdfjblfpeedjaa
open Go.RowKit
set_option linter.unusedVariables false
set_option linter.unusedSimpArgs false
set_option maxRecDepth 100000

open Go.Shelf
attribute [local go_sem] Oper.semAt_some
/-- What an arc makes of the costs of the ways on. -/
def stepC (g : Gr) (L : List Int) (i : Int) : List Int :=
  if L.getD (arc g.rs i).t.toNat 0 < 0 then L
  else if L.getD (arc g.rs i).f.toNat 0 < 0 ∨ (arc g.rs i).c + L.getD (arc g.rs i).t.toNat 0 < L.getD (arc g.rs i).f.toNat 0 then L.set (arc g.rs i).f.toNat ((arc g.rs i).c + L.getD (arc g.rs i).t.toNat 0)
  else L
def initC (N : Nat) : List Int := (List.replicate N (-1)).set (N - 1) 0
/-- The costs, for arcs in this order. -/
def costsC (g : Gr) (N : Nat) (Z : List Int) : List Int := Z.reverse.foldl (stepC g) (initC N)
def COk (N m : Nat) (L : List Int) : Prop := L.length = N ∧ ∀ x ∈ L, -1 ≤ x ∧ x ≤ (m : Int) * 1000000
theorem getD_of {L : List Int} {j : Nat} {P : Int → Prop} (h0 : P 0) (h : ∀ x ∈ L, P x) : P (L.getD j 0) := by
  rw [List.getD_eq_getElem?_getD]
  by_cases e : j < L.length
  · rw [List.getElem?_eq_getElem e]; exact h _ (List.getElem_mem _)
  · rw [List.getElem?_eq_none (by omega)]; exact h0
theorem COk.get {N m : Nat} {L : List Int} (h : COk N m L) (j : Nat) : -1 ≤ L.getD j 0 ∧ L.getD j 0 ≤ (m : Int) * 1000000 :=
  getD_of (P := fun x => -1 ≤ x ∧ x ≤ (m : Int) * 1000000) (by omega) h.2
theorem COk.init (N : Nat) : COk N 0 (initC N) := by
  refine ⟨by simp [initC], fun x hx => ?_⟩
  unfold initC at hx
  rcases List.mem_or_eq_of_mem_set hx with h | h
  · have := List.eq_of_mem_replicate h; omega
  · omega
theorem COk.up {N m k : Nat} {L : List Int} (h : COk N m L) (hk : m ≤ k) : COk N k L := ⟨h.1, fun x hx => by
  have := h.2 x hx
  exact ⟨this.1, Int.le_trans this.2 (by omega)⟩⟩
theorem COk.step {N m : Nat} {L : List Int} {g : Gr} {i : Int} (h : COk N m L) (hc : 0 ≤ (arc g.rs i).c ∧ (arc g.rs i).c ≤ 1000000) : COk N (m + 1) (stepC g L i) := by
  unfold stepC
  split
  · exact h.up (by omega)
  · split
    · refine ⟨by rw [List.length_set]; exact h.1, fun x hx => ?_⟩
      rcases List.mem_or_eq_of_mem_set hx with h1 | h1
      · exact (h.up (k := m + 1) (by omega)).2 x h1
      · have := h.get (arc g.rs i).t.toNat
        omega
    · exact h.up (by omega)
theorem COk.fold {N : Nat} {g : Gr} (hc : ∀ i, 0 ≤ (arc g.rs i).c ∧ (arc g.rs i).c ≤ 1000000) : ∀ (l : List Int) {m : Nat} {L : List Int}, COk N m L → COk N (m + l.length) (l.foldl (stepC g) L)
  | [], m, L, h => h
  | i :: r, m, L, h => by
    have := COk.fold hc r (h.step (hc i))
    rw [List.foldl_cons, List.length_cons, show m + (r.length + 1) = m + 1 + r.length by omega]
    exact this
theorem arc_cost {g : Gr} (h : g.Ok) (i : Int) : 0 ≤ (arc g.rs i).c ∧ (arc g.rs i).c ≤ 1000000 := by
  unfold arc
  rw [List.getD_eq_getElem?_getD]
  by_cases e : i.toNat < g.rs.length
  · rw [List.getElem?_eq_getElem e]
    have := h.arc _ (List.getElem_mem e)
    exact ⟨this.2.2.2.1, this.2.2.2.2⟩
  · rw [List.getElem?_eq_none (by omega)]; exact ⟨Int.le_refl _, by decide⟩
theorem KeptBut.alloc (B g : Nat) (W : World) (o : Obj) : KeptBut B g W (W.alloc o) := ⟨(bnew W o).size, fun k _ hx _ => (bnew W o).block k hx⟩
theorem bk_map (Z : List Int) : (bk Z.length).map (fun x => Z.getD x.1 0) = Z.reverse := by
  unfold bk
  rw [List.map_reverse]
  congr 1
  apply List.ext_getElem (by simp)
  intro i h1 h2
  simp
/-- What cheapest returns: the costs of the cheapest ways on. -/
def CheapPost (g : Gr) (Z : List Int) (w : World) (e : Ending) (w' : World) : Prop := ∃ gw : Nat, e = .returned (.slice (some ⟨gw, 0, none⟩) g.n.toNat g.n.toNat) ∧ Hp w [nums (some ⟨gw, 0, none⟩) g.n.toNat g.n.toNat (costsC g g.n.toNat Z)] w'
set_option maxHeartbeats 32000000 in
theorem cheapest_any (g : Gr) (A : Option Addr) (n c gd : Nat) (Z : List Int) (w : World) (h : GrIn w A n c g) (hO : g.Ok) (hZ : Z.length = n) (hZ2 : ∀ x ∈ Z, 0 ≤ x ∧ x < (n : Int)) (hZ3 : CellsIn w (some ⟨gd, 0, none⟩) (ints Z)) (hd : gd < w.heap.size) :
    Calls Try.prog 16 #[gval g A n c, .slice (some ⟨gd, 0, none⟩) n n] w (CheapPost g Z w) := by
  have H := Lib.hid h
  have hcs := h.small
  have hcn := h.cap
  have n1 := hO.n1
  have n2 := hO.n2
  have hnl : n ≤ 6000 := by have := hO.len; have := h.len; omega
  have HO := Lib.hid hO
  have HL := Lib.hid h.len
  have HZL := Lib.hid hZ
  have HZM := Lib.hid hZ2
  have HZC := Lib.hid hZ3
  clear h hO hZ hZ2 hZ3
  obtain ⟨N, hN⟩ : ∃ N, N = g.n.toNat := ⟨_, rfl⟩
  have HN := Lib.hid hN
  have hgN : g.n = (N : Int) := by omega
  have hN1 : 1 ≤ N := by omega
  have hN2 : N ≤ 2000 := by omega
  obtain ⟨E, hE⟩ : ∃ E, E = N - 1 := ⟨_, rfl⟩
  have hEN : E < N := by omega
  have HE := Lib.hid hE
  have HGN := Lib.hid hgN
  have g1 : IntKind.i64.wrap ((N : Int) - 1) = (E : Int) := by rw [IntWalk.i64_in _ (by omega)]; omega
  have hgv : gval g A n c = .agg #[.int .i64 (N : Int), .slice A n c] := by rw [← hgN]
  rw [hgv]
  obtain ⟨gb, hgb⟩ : ∃ gb, gb = w.heap.size := ⟨_, rfl⟩
  obtain ⟨bm, hbm⟩ : ∃ bm, bm = gb + 1 := ⟨_, rfl⟩
  obtain ⟨wz, hwz⟩ : ∃ z, z = (w.alloc (.cells #[.int .i64 (N : Int), .slice A n c] 26)).alloc (.cells #[.int .i64 (-1)] 3) := ⟨_, rfl⟩
  have HZ := Lib.hid hwz
  have V := Lib.hid (show Hp w [box 3 bm [.int .i64 (-1)], box 26 gb [.int .i64 (N : Int), .slice A n c]] wz by
    have h1 := (Hp.start w).box_new 26 [.int .i64 (N : Int), .slice A n c]
    have h2 := h1.box_new 3 [.int .i64 (-1)]
    rw [show (w.alloc (.cells [.int .i64 (N : Int), .slice A n c].toArray 26)).heap.size = w.heap.size + 1 by unfold World.alloc; exact Array.size_push ..] at h2
    rw [hwz, hbm, hgb]; exact h2)
  clear hwz hN hgN hgv n1 n2 hE
  refine (callsIn_wide (n := 3)).1 ?_
  refine callsIn_of_wp_marks Try.func16 rfl trivial ?_
  refine wpIn_wide.2 (wp_noPanic ?_)
  simp only [Try.ntmps16, List.size_toArray, List.length_cons, List.length_nil, Nat.reduceAdd, Nat.reduceSub, Array.replicate_succ, Array.replicate_zero, List.push_toArray, List.append_toArray, List.nil_append, List.cons_append]
  go_wp2_with fail
  rw [← HZ.out, ← hgb, ← hbm]
  have hgbw : gb < bm := by omega
  have hwb : w.heap.size ≤ gb := by omega
  have hbz : bm < wz.heap.size := (V.out.box_at (i := 0) (j := 0) rfl rfl).2.2
  clear HZ hgb hbm
  refine (repeat_any (-1) bm N wz V.out (V.out.box_at (i := 0) (j := 0) rfl rfl).1 hN1 (by omega)).mono ?_
  rintro e w1 ⟨gw, rfl, hp1⟩
  have V1 := Lib.hid hp1
  clear hp1 V
  obtain ⟨gc, hgc⟩ : ∃ gc, gc = w1.heap.size := ⟨_, rfl⟩
  obtain ⟨w2, hw2⟩ : ∃ z, z = w1.alloc (.cells #[.slice (some ⟨gw, 0, none⟩) N N] 33) := ⟨_, rfl⟩
  have HX := Lib.hid hw2
  have V2 := Lib.hid (show Hp w [box 33 gc [.slice (some ⟨gw, 0, none⟩) N N], nums (some ⟨gw, 0, none⟩) N N (List.replicate N (-1)), box 3 bm [.int .i64 (-1)], box 26 gb [.int .i64 (N : Int), .slice A n c]] w2 by
    rw [hw2, hgc]; exact V1.out.box_new _ _)
  have hgwc : gw < gc := by
    rw [hgc]; exact (V1.out.lt (i := 0) rfl (k := gw) rfl).2
  have hwgw : w.heap.size ≤ gw := (V1.out.lt (i := 0) rfl (k := gw) rfl).1
  clear hw2 V1
  go_upto_region 2 with fail
  rw [← HX.out, ← hgc]
  clear HX hgc
  obtain ⟨r0, _, r9⟩ := V2.out.box_at (i := 0) (j := 0) rfl rfl
  obtain ⟨q0, _, q9⟩ := V2.out.box_at (i := 3) (j := 0) rfl rfl
  obtain ⟨x1, x2, x3⟩ := V2.out.num_at (i := 1) rfl (j := E) (by simp; omega)
  obtain ⟨w3, hw3⟩ : ∃ z, z = w2.setCell ⟨gw, E, none⟩ (.int .i64 0) := ⟨_, rfl⟩
  have HX := Lib.hid hw3
  have V3 := Lib.hid (show Hp w [box 33 gc [.slice (some ⟨gw, 0, none⟩) N N], nums (some ⟨gw, 0, none⟩) N N (initC N), box 3 bm [.int .i64 (-1)], box 26 gb [.int .i64 (N : Int), .slice A n c]] w3 by
    have := V2.out.num_set (i := 1) rfl E 0
    rw [hw3]
    unfold initC
    rw [← HE.out]
    exact this)
  clear hw3
  go_upto_region 3 with fail
  rw [← HX.out]
  clear HX V2 r0 r9 q0 q9 x1 x2 x3
  go_wp2_with fail
  refine (backI_any _ _ _ _).mono ?_
  rintro e w4 ⟨rfl, hw4⟩
  have V5 := Lib.hid (show Hp w [box 33 w3.heap.size [.slice (some ⟨gd, 0, none⟩) n n], box 33 gc [.slice (some ⟨gw, 0, none⟩) N N], nums (some ⟨gw, 0, none⟩) N N (initC N), box 3 bm [.int .i64 (-1)], box 26 gb [.int .i64 (N : Int), .slice A n c]] w4 by rw [hw4]; exact V3.out.box_new _ _)
  obtain ⟨Bs, hBs⟩ : ∃ Bs, Bs = w3.heap.size := ⟨_, rfl⟩
  have hgB : gc < Bs := by rw [hBs]; exact (V3.out.lt (i := 0) rfl (k := gc) rfl).2
  rw [← hBs] at V5 ⊢
  have hB4 : Bs < w4.heap.size := by rw [hw4, hBs]; simp
  clear hw4 hBs V3
  go_wp2_with fail
  have HC := Lib.hid (show ∀ j, j < n → w4.cell? ⟨gd, j, none⟩ = some (.int .i64 (Z.getD j 0)) from fun j hj => by
    obtain ⟨b, off, e, h1, h2⟩ := (HZC.out.below V5.out.below).int (j := j) (by rw [HZL.out]; exact hj)
    injection e with e
    injection e with e1 e2
    subst e1; subst e2
    rwa [Nat.zero_add] at h2)
  refine (wpIn_wide (n := 3)).1 ?_
  refine wpIn_rangeFunc_ownG rfl (by omega) (gf := 32) (lb := #[.pointer (some ⟨Bs, 0, none⟩)]) rfl trivial (enters_of Try.func32 (by kernel_rfl) rfl)
    (backI_stops 2 (by omega) Bs gd n n w4.heap.size gw (by omega) (fun j => Z.getD j 0) hB4 (by omega) (by omega) (by omega) w4 (V5.out.box_at (i := 0) (j := 0) rfl rfl).1 HC.out)
    (fun h k => h.trans k) (fun W l o o' hl _ _ _ => KeptBut.putObj W l o' hl) (Below.refl _ _) (fun _ => rfl)
    (fun pre W => Hp w [box 33 Bs [.slice (some ⟨gd, 0, none⟩) n n], box 33 gc [.slice (some ⟨gw, 0, none⟩) N N], nums (some ⟨gw, 0, none⟩) N N ((pre.map fun x : Fin n => Z.getD x.1 0).foldl (stepC g) (initC N)), box 3 bm [.int .i64 (-1)], box 26 gb [.int .i64 (N : Int), .slice A n c]] W)
    (fun _ _ _ => False)
    (fun s A B row hs hg hr => hs.turned hg (fun r e => ⟨Nat.le_trans V5.out.below.size (hr r e).1, (hr r e).2⟩))
    (fun _ _ _ _ _ hs _ _ => hs)
    V5.out ?a1 ?assign ?body ?done ?stop
  case assign =>
    intro l x W K hK
    gi_wp2
    exact hK
  case stop =>
    rintro D c pre W _ _ h _
    exact h.elim
  case done =>
    rintro D ys W hD rfl hV hK
    obtain ⟨r0, _, r9⟩ := hV.box_at (i := 1) (j := 0) rfl rfl
    have HV := Lib.hid hV
    have HK := Lib.hid hK
    clear hV hK
    go_wp2_with fail
    refine ⟨by simp, .inl ⟨_, _, rfl, run_takeDeferred HK.out, ?_⟩⟩
    refine ⟨_, results_tmp rfl _ _ _, gw, by rw [← HN.out]; rfl, ?_⟩
    have h1 := (HV.out.turned (grownBy_putObj' W D (.deferred none)) (fun r e => by
      injection e with e
      subst e
      exact ⟨Nat.le_trans V5.out.below.size hD, _, HK.out, rfl⟩)).pick (l' := [nums (some ⟨gw, 0, none⟩) N N _]) [2] (by decide) rfl
    have e := bk_map Z
    rw [HZL.out] at e
    rw [e] at h1
    rw [← HN.out]
    exact h1
  case body =>
    rintro l pre ⟨j, hj⟩ W hV hx
    have HV := Lib.hid hV
    obtain ⟨i, hi⟩ : ∃ i, i = Z[j]?.getD 0 := ⟨_, rfl⟩
    have hiZ : i ∈ Z := by rw [hi, List.getElem?_eq_getElem (by rw [HZL.out]; exact hj)]; exact List.getElem_mem _
    dsimp only
    rw [← hi]
    obtain ⟨hi0, hi1⟩ := HZM.out i hiZ
    obtain ⟨I, rfl⟩ := Int.eq_ofNat_of_zero_le hi0
    have hIn : I < n := by omega
    obtain ⟨L0, hL0⟩ : ∃ L0, L0 = (pre.map fun x : Fin n => Z.getD x.1 0).foldl (stepC g) (initC N) := ⟨_, rfl⟩
    have HNX := Lib.hid (show ((pre ++ [(⟨j, hj⟩ : Fin n)]).map fun x : Fin n => Z.getD x.1 0).foldl (stepC g) (initC N) = stepC g L0 (I : Int) by
      rw [List.map_append, List.foldl_append, ← hL0, hi, ← List.getD_eq_getElem?_getD]; rfl)
    have hok : COk N n L0 := by
      rw [hL0]
      refine ((COk.init N).fold (arc_cost HO.out) _).up ?_
      rw [List.length_map]; omega
    obtain ⟨⟨af, at', ac⟩, b, off, ha, hae, hA, hbw, c0', c1', c2'⟩ := H.out.at hIn
    have har := HO.out.arc _ (List.mem_of_getElem? ha)
    dsimp only at har c0' c1' c2'
    have c0 := (HV.out.below.cell (p := ⟨b, off + I * 3, none⟩) hbw).trans c0'
    have c1 := (HV.out.below.cell (p := ⟨b, off + I * 3 + 1, none⟩) hbw).trans c1'
    have c2 := (HV.out.below.cell (p := ⟨b, off + I * 3 + 2, none⟩) hbw).trans c2'
    have hb := Nat.lt_of_lt_of_le hbw HV.out.below.size
    have hbg : b < gw := by omega
    clear c0' c1' c2'
    obtain ⟨F, rfl⟩ := Int.eq_ofNat_of_zero_le (show 0 ≤ af by omega)
    obtain ⟨T, rfl⟩ := Int.eq_ofNat_of_zero_le (show 0 ≤ at' by omega)
    have hTN : T < N := by have := HGN.out; omega
    have hFN : F < N := by omega
    have hac : 0 ≤ ac ∧ ac ≤ 1000000 := by omega
    obtain ⟨x, hx1⟩ : ∃ x, x = L0.getD F 0 := ⟨_, rfl⟩
    obtain ⟨y, hy1⟩ : ∃ y, y = L0.getD T 0 := ⟨_, rfl⟩
    have hxb := hok.get F
    have hyb := hok.get T
    rw [← hx1] at hxb
    rw [← hy1] at hyb
    have HST := Lib.hid (show stepC g L0 (I : Int) = if y < 0 then L0 else if x < 0 ∨ ac + y < x then L0.set F (ac + y) else L0 by
      rw [hx1, hy1]; unfold stepC; rw [← hae]; rfl)
    obtain ⟨r2, _, r8⟩ := HV.out.box_at (i := 4) (j := 1) rfl rfl
    obtain ⟨ba, hba⟩ : ∃ ba, ba = W.heap.size := ⟨_, rfl⟩
    have V1 := Lib.hid (show Hp w [abox ba ⟨F, T, ac⟩, box 33 Bs [.slice (some ⟨gd, 0, none⟩) n n], box 33 gc [.slice (some ⟨gw, 0, none⟩) N N], nums (some ⟨gw, 0, none⟩) N N L0, box 3 bm [.int .i64 (-1)], box 26 gb [.int .i64 (N : Int), .slice A n c]] (W.alloc (.cells #[.int .i64 (F : Int), .int .i64 (T : Int), .int .i64 ac] 40)) by
      rw [hba, hL0]; exact HV.out.anew ⟨F, T, ac⟩)
    obtain ⟨s0, s1, s2, s9⟩ := V1.out.ab (i := 0) rfl
    dsimp only at s0 s1 s2
    obtain ⟨x1, x2, x3⟩ := V1.out.num_at (i := 3) rfl (j := F) (by rw [hok.1]; exact hFN)
    obtain ⟨y1, y2, _⟩ := V1.out.num_at (i := 3) rfl (j := T) (by rw [hok.1]; exact hTN)
    rw [← hx1] at x1
    rw [← hy1] at y1
    obtain ⟨r1, _, r7⟩ := V1.out.box_at (i := 2) (j := 0) rfl rfl
    have hgba : gw < ba := by rw [hba]; exact (HV.out.lt (i := 2) rfl (k := gw) rfl).2
    have hI3 : I * 3 ≤ 20000 := by omega
    subst hA
    have HOKK := Lib.hid hok
    have HX1 := Lib.hid hx1
    have HY1 := Lib.hid hy1
    have HBA := Lib.hid hba
    clear hba ha hae har hok hx1 hy1 hi0 hi1 hiZ hL0 hi hx hV
    obtain ⟨W1, hW1⟩ : ∃ z, z = W.alloc (.cells #[.int .i64 (F : Int), .int .i64 (T : Int), .int .i64 ac] 40) := ⟨_, rfl⟩
    have HW1 := Lib.hid hW1
    have V2 := Lib.hid (show Hp w [abox ba ⟨F, T, ac⟩, box 33 Bs [.slice (some ⟨gd, 0, none⟩) n n], box 33 gc [.slice (some ⟨gw, 0, none⟩) N N], nums (some ⟨gw, 0, none⟩) N N L0, box 3 bm [.int .i64 (-1)], box 26 gb [.int .i64 (N : Int), .slice (some ⟨b, off, none⟩) n c]] W1 by rw [hW1]; exact V1.out)
    have KF := Lib.hid (show KeepsOthers W W1 by rw [hW1]; exact KeepsOthers.alloc _ _)
    have KB := Lib.hid (show KeptBut w4.heap.size gw W W1 by rw [hW1]; exact KeptBut.alloc _ _ _ _)
    clear hW1
    have g2 : IntKind.i64.wrap (ac + y) = ac + y := IntWalk.i64_in _ (by omega)
    have HNX2 := Lib.hid (show ∀ L' W', stepC g L0 (I : Int) = L' → Hp w [abox ba ⟨F, T, ac⟩, box 33 Bs [.slice (some ⟨gd, 0, none⟩) n n], box 33 gc [.slice (some ⟨gw, 0, none⟩) N N], nums (some ⟨gw, 0, none⟩) N N L', box 3 bm [.int .i64 (-1)], box 26 gb [.int .i64 (N : Int), .slice (some ⟨b, off, none⟩) n c]] W' → Hp w [box 33 Bs [.slice (some ⟨gd, 0, none⟩) n n], box 33 gc [.slice (some ⟨gw, 0, none⟩) N N], nums (some ⟨gw, 0, none⟩) N N (((pre ++ [(⟨j, hj⟩ : Fin n)]).map fun x : Fin n => Z.getD x.1 0).foldl (stepC g) (initC N)), box 3 bm [.int .i64 (-1)], box 26 gb [.int .i64 (N : Int), .slice (some ⟨b, off, none⟩) n c]] W' by
      intro L' W' e hp
      rw [HNX.out, e]
      exact hp.pick [1, 2, 3, 4, 5] (by decide) rfl)
    by_cases hy : y < 0
    case pos =>
      have HE1 := Lib.hid (show stepC g L0 (I : Int) = L0 by rw [HST.out, if_pos hy])
      gi_wp2
      rw [← HW1.out]
      exact ⟨KF.out.from _, KB.out, HNX2.out _ _ HE1.out V2.out⟩
    gi_wp2
    rw [← HW1.out, ← HBA.out]
    clear V1 s0 s1 s2 s9 x1 x2 x3 y1 y2 r1 r2 r7 r8
    obtain ⟨s0, s1, s2, s9⟩ := V2.out.ab (i := 0) rfl
    dsimp only at s0 s1 s2
    obtain ⟨x1, x2, x3⟩ := V2.out.num_at (i := 3) rfl (j := F) (by rw [HOKK.out.1]; exact hFN)
    obtain ⟨y1, y2, _⟩ := V2.out.num_at (i := 3) rfl (j := T) (by rw [HOKK.out.1]; exact hTN)
    rw [← HX1.out] at x1
    rw [← HY1.out] at y1
    obtain ⟨r1, _, r7⟩ := V2.out.box_at (i := 2) (j := 0) rfl rfl

    have hKp : Keep [(⟨ba, 1, none⟩, .int .i64 (T : Int)), (⟨ba, 2, none⟩, .int .i64 ac), (⟨gc, 0, none⟩, .slice (some ⟨gw, 0, none⟩) N N), (⟨gw, T, none⟩, .int .i64 y)] W1 := List.forall_mem_cons.2 ⟨⟨s1, s9⟩, List.forall_mem_cons.2 ⟨⟨s2, s9⟩, List.forall_mem_cons.2 ⟨⟨r1, r7⟩, List.forall_mem_cons.2 ⟨⟨y1, x3⟩, fun _ h => by simp at h⟩⟩⟩⟩
    refine wpIn_region_held (S := Keep [(⟨ba, 1, none⟩, .int .i64 (T : Int)), (⟨ba, 2, none⟩, .int .i64 ac), (⟨gc, 0, none⟩, .slice (some ⟨gw, 0, none⟩) N N), (⟨gw, T, none⟩, .int .i64 y)]) (by kernel_rfl) (by kernel_rfl) (fun ⟨_, _, h⟩ => h) hKp.drew (fun hHeld => ?_)
    have V2d := Lib.hid (V2.out.go (bdrew _))
    refine tk 0 ?_ rfl ?_ ?_; rotate_left; focus (intro w hSw; clear hSw; go_simp; try (with_reducible rfl))
    try simp only [Act.put, sA, sZ, sS]
    refine tk 1 ?_ rfl ?_ ?_; rotate_left
    · intro wl hSw
      have hSw : Keep _ wl := hSw
      have k0 : wl.cell? ⟨ba, 2, none⟩ = some (.int .i64 ac) := (hSw _ (.tail _ (.head _))).1
      clear hSw
      go_simp
      try (with_reducible rfl)
    try simp only [Act.put, sA, sZ, sS]
    refine tk 2 ?_ rfl ?_ ?_; rotate_left
    · intro wl hSw
      have hSw : Keep _ wl := hSw
      have k0 : wl.cell? ⟨gc, 0, none⟩ = some (.slice (some ⟨gw, 0, none⟩) N N) := (hSw _ (.tail _ (.tail _ (.head _)))).1
      clear hSw
      go_simp
      try (with_reducible rfl)
    try simp only [Act.put, sA, sZ, sS]
    refine tk 3 ?_ rfl ?_ ?_; rotate_left; focus (intro w hSw; clear hSw; go_simp; try (with_reducible rfl))
    try simp only [Act.put, sA, sZ, sS]
    refine tk 4 ?_ rfl ?_ ?_; rotate_left
    · intro wl hSw
      have hSw : Keep _ wl := hSw
      have k0 : wl.cell? ⟨ba, 1, none⟩ = some (.int .i64 (T : Int)) := (hSw _ (.head _)).1
      clear hSw
      go_simp
      try (with_reducible rfl)
    try simp only [Act.put, sA, sZ, sS]
    refine tk 5 ?_ rfl ?_ ?_; rotate_left; focus (intro w hSw; clear hSw; go_simp; try (with_reducible rfl))
    try simp only [Act.put, sA, sZ, sS]
    refine tk 6 ?_ rfl ?_ ?_; rotate_left
    · intro wl hSw
      have hSw : Keep _ wl := hSw
      have k0 : wl.cell? ⟨gw, T, none⟩ = some (.int .i64 y) := (hSw _ (.tail _ (.tail _ (.tail _ (.head _))))).1
      clear hSw
      go_simp
      try (with_reducible rfl)
    try simp only [Act.put, sA, sZ, sS]
    refine tk 7 ?_ rfl ?_ ?_; rotate_left; focus (intro w hSw; clear hSw; go_simp; try (with_reducible rfl))
    try simp only [Act.put, sA, sZ, sS]
    refine tk 8 ?_ rfl ?_ ?_; rotate_left; focus (intro w hSw; clear hSw; go_simp; try (with_reducible rfl))
    try simp only [Act.put, sA, sZ, sS]
    refine wpAnyH_done (by kernel_rfl) ?_ _
    clear hKp hHeld s0 s1 s2 s9 x1 x2 x3 y1 y2 r1 r7 V2
    obtain ⟨s0, s1, s2, s9⟩ := V2d.out.ab (i := 0) rfl
    dsimp only at s0 s1 s2
    obtain ⟨x1, x2, x3⟩ := V2d.out.num_at (i := 3) rfl (j := F) (by rw [HOKK.out.1]; exact hFN)
    rw [← HX1.out] at x1
    obtain ⟨r1, _, r7⟩ := V2d.out.box_at (i := 2) (j := 0) rfl rfl
    have V3 := Lib.hid (V2d.out.num_set (i := 3) rfl F (ac + y))
    have HG := Lib.hid (V2d.out.store_grown (i := 3) rfl (g := gw) (cap := N) rfl F (.int .i64 (ac + y)))
    have KB2 := Lib.hid ((KB.out.trans (KeptBut.drew _ _ W1)).trans (KeptBut.of_grown HG.out))
    have KF2 := Lib.hid ((KF.out.trans (KeepsOthers.drew W1)).trans (KeepsOthers.setCell _ ⟨gw, F, none⟩ (.int .i64 (ac + y))))
    by_cases h1 : x < 0
    case pos =>
      have HE1 := Lib.hid (show stepC g L0 (I : Int) = L0.set F (ac + y) by rw [HST.out, if_neg (show ¬ y < 0 by omega), if_pos (Or.inl h1)])
      gi_wp2
      exact ⟨KF2.out.from _, KB2.out, HNX2.out _ _ HE1.out V3.out⟩
    by_cases h2 : ac + y < x
    case pos =>
      have HE1 := Lib.hid (show stepC g L0 (I : Int) = L0.set F (ac + y) by rw [HST.out, if_neg (show ¬ y < 0 by omega), if_pos (Or.inr h2)])
      gi_wp2
      exact ⟨KF2.out.from _, KB2.out, HNX2.out _ _ HE1.out V3.out⟩
    have HE1 := Lib.hid (show stepC g L0 (I : Int) = L0 by rw [HST.out, if_neg (show ¬ y < 0 by omega), if_neg (show ¬ (x < 0 ∨ ac + y < x) by omega)])
    gi_wp2
    exact ⟨(KF.out.trans (KeepsOthers.drew W1)).from _, KB.out.trans (KeptBut.drew _ _ W1), HNX2.out _ _ HE1.out V2d.out⟩

end Go.Proofs.Ytgdfjblfpeedjaa
