/- Contract of the program: a lister of paths is made. -/
import Derived.Test.YtdoobdfanalnbaaDCi
namespace Go.Proofs.Ytdoobdfanalnbaa
open Go.RowKit
set_option linter.unusedVariables false
set_option linter.unusedSimpArgs false
set_option maxRecDepth 100000

theorem Hp.apart {W w : World} {l : List Itm} {i j x y : Nat} {a b : Itm} (h : Hp W l w) (hi : l[i]? = some a) (hj : l[j]? = some b) (hij : i ≠ j) (hx : a.v.ownBlock = some x) (hy : b.v.ownBlock = some y) : ¬ x = y := fun e => by
  subst e
  exact h.sep i j a b hij hi hj x hx hy
/-- A box that holds a lister. -/
abbrev lbox (b : Nat) (N : Nat) (A : Option Addr) (n c : Nat) (go : Nat) (P : Option Addr) (pn pc : Nat) (Q : Option Addr) (qn qc : Nat) : Itm := box 111 b [.int .i64 (N : Int), .slice A n c, .slice (some ⟨go, 0, none⟩) N N, .slice P pn pc, .slice Q qn qc]
/-- What newLister returns. -/
def ListerPost (g : Gr) (A : Option Addr) (n c : Nat) (w : World) (e : Ending) (w' : World) : Prop := ∃ (gl go : Nat) (vs : List (Option Addr × Nat)), e = .returned (.pointer (some ⟨gl, 0, none⟩)) ∧ vs.length = g.n.toNat ∧
  Hp w ([lbox gl g.n.toNat A n c go none 0 0 none 0 0, rvals (some ⟨go, 0, none⟩) g.n.toNat g.n.toNat vs (g.rowsFK g.n.toNat)] ++ rowsG vs (g.rowsFK g.n.toNat)) w'
set_option maxHeartbeats 32000000 in
theorem newLister_any (g : Gr) (A : Option Addr) (n c : Nat) (w : World) (h : GrIn w A n c g) (hO : g.Ok) :
    Calls Try.prog 92 #[gval g A n c] w (ListerPost g A n c w) := by
  have H := Lib.hid h
  have hcs := h.small
  have hcn := h.cap
  have n1 := hO.n1
  have n2 := hO.n2
  have hnl : n ≤ 6000 := by have := hO.len; have := h.len; omega
  have HO := Lib.hid hO
  have HL := Lib.hid h.len
  clear h hO
  obtain ⟨N, hN⟩ : ∃ N, N = g.n.toNat := ⟨_, rfl⟩
  have HN := Lib.hid hN
  have hgN : g.n = (N : Int) := by omega
  have hN1 : 1 ≤ N := by omega
  have hN2 : N ≤ 2000 := by omega
  have HGN := Lib.hid hgN
  have HBX := Lib.hid (show ∀ W l w', Hp W l w' → Hp W (box 24 w'.heap.size [.int .i64 (N : Int), .slice A n c] :: l) (w'.alloc (.cells #[.int .i64 (N : Int), .slice A n c] 24)) from fun W l w' h => h.box_new _ _)
  have hgv : gval g A n c = .agg #[.int .i64 (N : Int), .slice A n c] := by rw [← hgN]
  have HOUT := Lib.hid (show ∀ w, GrIn w A n c g → Calls Try.prog 99 #[.agg #[.int .i64 (N : Int), .slice A n c]] w fun e w' => ∃ (go : Nat) (vs : List (Option Addr × Nat)), e = .returned (.slice (some ⟨go, 0, none⟩) N N) ∧ vs.length = N ∧ Hp w (rvals (some ⟨go, 0, none⟩) N N vs (g.rowsFK 0) :: rowsG vs (g.rowsFK 0)) w' by
    intro w hh
    have := outgoing_any g A n c w hh HO.out
    rw [hgv] at this
    refine this.mono ?_
    rintro e w' ⟨go, vs, h1, h2, h3⟩
    rw [rowsK_all, ← rowsFK_zero] at h3
    rw [← HN.out] at *
    exact ⟨go, vs, h1, h2, h3⟩)
  have HWAY := Lib.hid (show ∀ w, GrIn w A n c g → Calls Try.prog 63 #[.agg #[.int .i64 (N : Int), .slice A n c]] w fun e w' => ∃ gw : Nat, e = .returned (.slice (some ⟨gw, 0, none⟩) N N) ∧ Hp w [unums (some ⟨gw, 0, none⟩) N N g.waysL] w' by
    intro w hh
    have := waysOn_any g A n c w hh HO.out
    rw [hgv] at this
    refine this.mono ?_
    rintro e w' ⟨gw, h1, h2⟩
    rw [← HN.out] at *
    exact ⟨gw, h1, h2⟩)
  rw [hgv]
  obtain ⟨wz, hwz⟩ : ∃ z, z = w.alloc (.cells #[.int .i64 (N : Int), .slice A n c] 24) := ⟨_, rfl⟩
  have HZ := Lib.hid hwz
  have V := Lib.hid (show Hp w [box 24 w.heap.size [.int .i64 (N : Int), .slice A n c]] wz by rw [hwz]; exact HBX.out _ _ _ (Hp.start w))
  clear hwz hN hgN n1 n2 HBX hgv
  go_enter Try.func92, Try.ntmps92
  go_upto_region 1 with fail
  rw [← HZ.out]
  clear HZ
  obtain ⟨r0, _, r9⟩ := V.out.box_at (i := 0) (j := 0) rfl rfl
  obtain ⟨r1, _, _⟩ := V.out.box_at (i := 0) (j := 1) rfl rfl
  go_wp2_with fail
  refine (HWAY.out _ (H.out.below V.out.below)).mono ?_
  rintro e w1 ⟨gw, rfl, hp⟩
  have V1 := Lib.hid (V.out.join hp)
  clear hp V r0 r1 r9
  obtain ⟨w2, hw2⟩ : ∃ z, z = w1.alloc (.cells #[.slice (some ⟨gw, 0, none⟩) N N] 79) := ⟨_, rfl⟩
  have H2 := Lib.hid hw2
  have V2 := Lib.hid (show Hp w [box 79 w1.heap.size [.slice (some ⟨gw, 0, none⟩) N N], unums (some ⟨gw, 0, none⟩) N N g.waysL, box 24 w.heap.size [.int .i64 (N : Int), .slice A n c]] w2 by rw [hw2]; exact V1.out.box_new _ _)
  obtain ⟨wb, hwb⟩ : ∃ wb, wb = w1.heap.size := ⟨_, rfl⟩
  clear hw2 V1
  go_upto_region 2 with fail
  rw [← H2.out]
  rw [← hwb] at V2 ⊢
  clear H2 hwb
  obtain ⟨r0, _, r9⟩ := V2.out.box_at (i := 2) (j := 0) rfl rfl
  obtain ⟨r1, _, _⟩ := V2.out.box_at (i := 2) (j := 1) rfl rfl
  go_wp2_with fail
  refine (HOUT.out _ (H.out.below V2.out.below)).mono ?_
  rintro e w3 ⟨go, vs, rfl, hvs, hp3⟩
  have HVS := Lib.hid hvs
  have V3 := Lib.hid (show Hp w ([box 79 wb [.slice (some ⟨gw, 0, none⟩) N N], unums (some ⟨gw, 0, none⟩) N N g.waysL, box 24 w.heap.size [.int .i64 (N : Int), .slice A n c], rvals (some ⟨go, 0, none⟩) N N vs (g.rowsFK 0)] ++ rowsG vs (g.rowsFK 0)) w3 from (V2.out.join hp3).rot)
  clear hp3 hvs V2 r0 r1 r9
  go_wp2_with fail
  go_loopw [13] (fun cv wr => ∃ (k : Nat) (vs : List (Option Addr × Nat)), cv = .int .i64 (k : Int) ∧ k ≤ N ∧ vs.length = N ∧ Hp w ([box 79 wb [.slice (some ⟨gw, 0, none⟩) N N], unums (some ⟨gw, 0, none⟩) N N g.waysL, box 24 w.heap.size [.int .i64 (N : Int), .slice A n c], rvals (some ⟨go, 0, none⟩) N N vs (g.rowsFK k)] ++ rowsG vs (g.rowsFK k)) wr) (fun cv _ => N - (intOf cv).toNat)
  case atStart => exact ⟨0, vs, rfl, Nat.zero_le _, HVS.out, V3.out⟩
  case round =>
    clear HVS V3
    obtain ⟨k, vs, rfl, hkn, hvs, hV⟩ := hrel
    obtain ⟨wi, rfl⟩ : ∃ wi : World, wi = wr := ⟨_, rfl⟩
    have V := Lib.hid hV
    have HVS := Lib.hid hvs
    clear hV hvs
    obtain ⟨r0, _, r9⟩ := V.out.box_at (i := 2) (j := 0) rfl rfl
    obtain ⟨r1, _, _⟩ := V.out.box_at (i := 2) (j := 1) rfl rfl
    by_cases hlt : k < N
    case neg =>
      obtain rfl : k = N := by omega
      obtain ⟨w5, hw5⟩ : ∃ z, z = wi.alloc (.cells #[.int .i64 (k : Int), .slice A n c, .slice (some ⟨go, 0, none⟩) k k, .slice none 0 0, .slice none 0 0] 111) := ⟨_, rfl⟩
      have H5 := Lib.hid hw5
      have V5 := Lib.hid (show Hp w ([lbox wi.heap.size k A n c go none 0 0 none 0 0, box 79 wb [.slice (some ⟨gw, 0, none⟩) k k], unums (some ⟨gw, 0, none⟩) k k g.waysL, box 24 w.heap.size [.int .i64 (k : Int), .slice A n c], rvals (some ⟨go, 0, none⟩) k k vs (g.rowsFK k)] ++ rowsG vs (g.rowsFK k)) w5 by rw [hw5]; exact V.out.box_new _ _)
      clear hw5
      go_wp2_with fail
      rw [← H5.out]
      go_ret
      refine ⟨wi.heap.size, go, vs, rfl, by rw [← HN.out]; exact HVS.out, ?_⟩
      rw [← HN.out]
      exact V5.out.drop2.drop2.drop2
    obtain ⟨v, hv⟩ : ∃ v, vs[k]? = some v := ⟨_, List.getElem?_eq_getElem (by rw [HVS.out]; exact hlt)⟩
    have hkN : k < g.n.toNat := by rw [← HN.out]; exact hlt
    have hr : (g.rowsFK k)[k]? = some (outI g.rs (k : Int)) := by rw [rowsFK_get hkN, if_neg (by omega)]
    have HST := Lib.hid (rowsFK_step hkN)
    obtain ⟨x1, x2, x3⟩ := V.out.rv_at (i := 3) rfl hv hr
    obtain ⟨y1, y2, y3⟩ := V.out.box_at (i := 0) (j := 0) rfl rfl
    have hi : ∀ (pre : List Itm), (pre ++ rowsG vs (g.rowsFK k))[pre.length + k]? = some (nums v.1 (outI g.rs (k : Int)).length v.2 (outI g.rs (k : Int))) := fun pre => by
      rw [List.getElem?_append_right (by omega), Nat.add_sub_cancel_left]; exact rowsG_get hv hr
    have HDEL := Lib.hid (delete_row g A n c wb w.heap.size gw N w wi [box 79 wb [.slice (some ⟨gw, 0, none⟩) N N], unums (some ⟨gw, 0, none⟩) N N g.waysL, box 24 w.heap.size [.int .i64 (N : Int), .slice A n c], rvals (some ⟨go, 0, none⟩) N N vs (g.rowsFK k)] vs (g.rowsFK k) k v HO.out HN.out (H.out.below V.out.below) V.out
      (fun b o h0 e => by obtain ⟨b', o', e', hlt', _⟩ := H.out.arcs h0; rw [e] at e'; injection e' with e'; injection e' with e1; omega)
      y1 r1 (fun j hj => by
        have := (V.out.unum_at (i := 1) rfl (j := j) (by rw [waysL_len, ← HN.out]; exact hj)).1
        rwa [waysL_getD (by rw [← HN.out]; exact hj) 0] at this)
      (fun b hb => by
        have h4 := hi [box 79 wb [.slice (some ⟨gw, 0, none⟩) N N], unums (some ⟨gw, 0, none⟩) N N g.waysL, box 24 w.heap.size [.int .i64 (N : Int), .slice A n c], rvals (some ⟨go, 0, none⟩) N N vs (g.rowsFK k)]
        have hob : (nums v.1 (outI g.rs (k : Int)).length v.2 (outI g.rs (k : Int))).v.ownBlock = some b := by rw [hb]; rfl
        exact ⟨V.out.apart (i := 0) rfl h4 (by simp; omega) rfl hob, V.out.apart (i := 2) rfl h4 (by simp; omega) rfl hob, V.out.apart (i := 1) rfl h4 (by simp; omega) rfl hob⟩)
      hv hr)
    have HV := Lib.hid hv
    have HR := Lib.hid hr
    obtain ⟨vA, vc⟩ := v
    obtain ⟨RL, hRL⟩ : ∃ RL, RL = (outI g.rs (k : Int)).length := ⟨_, rfl⟩
    have HRL := Lib.hid hRL
    dsimp only at x1
    rw [← hRL] at x1
    clear hv hr hi hRL hkN
    go_wp2_with fail
    have HD2 := HDEL.out
    try dsimp only at HD2
    rw [← HRL.out] at HD2
    refine HD2.mono ?_
    rintro e w4 ⟨rfl, hp4, _⟩
    have V4 := Lib.hid hp4
    clear hp4 HD2 HDEL
    obtain ⟨FL, hFL⟩ : ∃ FL, FL = (outF g (k : Int)).length := ⟨_, rfl⟩
    have HFL := Lib.hid hFL
    rw [← hFL]
    clear hFL
    obtain ⟨z1, z2, z3⟩ := V4.out.rv_at (i := 3) rfl HV.out HR.out
    have V5 := V4.out.rv_set (i := 3) rfl k vA vc (outF g (k : Int))
    rw [← HFL.out, HST.out] at V5
    have V6 := Lib.hid (show Hp w ([box 79 wb [.slice (some ⟨gw, 0, none⟩) N N], unums (some ⟨gw, 0, none⟩) N N g.waysL, box 24 w.heap.size [.int .i64 (N : Int), .slice A n c], rvals (some ⟨go, 0, none⟩) N N (vs.set k (vA, vc)) (g.rowsFK (k + 1))] ++ rowsG (vs.set k (vA, vc)) (g.rowsFK (k + 1))) (w4.setCell ⟨go, k, none⟩ (.slice vA FL vc)) from V5)
    clear V5
    go_wp2_with fail
    go_roundw
    case rel => exact ⟨k + 1, _, by go_num, by omega, by rw [List.length_set]; exact HVS.out, V6.out⟩
    case measure => simp [intOf]; omega
end Go.Proofs.Ytdoobdfanalnbaa
