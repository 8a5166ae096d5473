/- Contract of the reference: a graph turned round. -/
import Derived.Test.YtefdklfflemofaaDDl
import Derived.Test.YtefdklfflemofaaDAg
import Derived.Test.YtefdklfflemofaaDCc
import Derived.Test.YtefdklfflemofaaDCl
namespace Go.Proofs.Ytefdklfflemofaa
open Go.RowKit
set_option linter.unusedVariables false
set_option linter.unusedSimpArgs false
set_option maxRecDepth 100000

theorem run_app_arc {W w : World} {l : List Itm} {i : Nat} {A : Option Addr} {n c : Nat} {L : List Ar} (h : Hp W l w) (hi : l[i]? = some (arow A n c L)) (ty : TypeId) {b : Nat} (a : Ar) (h0 : w.cell? ⟨b, 0, none⟩ = some (.int .i64 a.f)) (h1 : w.cell? ⟨b, 1, none⟩ = some (.int .i64 a.t)) (h2 : w.cell? ⟨b, 2, none⟩ = some (.int .i64 a.c)) (hn : n ≤ 4000000000000) :
    ∃ g cap w', (Builtin.append_ #[22, 22] ty #[.slice A n c, .slice (some ⟨b, 0, none⟩) 1 1]).run Try.prog w = .ok (.slice (some ⟨g, 0, none⟩) (n + 1) cap) w' ∧ Hp W (l.set i (arow (some ⟨g, 0, none⟩) (n + 1) cap (L ++ [a]))) w' ∧ w.grownBy w' (Value.slice A n c).ownBlock := by
  have := run_app h hi (t := 22) (ty := ty) Try.underlying22 arc_info rfl (show 0 < 3 by decide) (by decide) (A := A) (c := c) rfl (b := b) [.int .i64 a.f, .int .i64 a.t, .int .i64 a.c] rfl (fun j u hu => by
    match j with
    | 0 => simp only [List.getElem?_cons_zero, Option.some.injEq] at hu; rw [← hu]; exact h0
    | 1 => simp only [List.getElem?_cons_succ, List.getElem?_cons_zero, Option.some.injEq] at hu; rw [← hu]; exact h1
    | 2 => simp only [List.getElem?_cons_succ, List.getElem?_cons_zero, Option.some.injEq] at hu; rw [← hu]; exact h2
    | j + 3 => simp at hu) (fun u hu => by simp only [List.mem_cons, List.not_mem_nil, or_false] at hu; rcases hu with rfl | rfl | rfl <;> rfl) hn
  obtain ⟨g, cap, w', hr, hp, hg⟩ := this
  refine ⟨g, cap, w', hr, ?_, hg⟩
  unfold arow
  rw [acells_snoc]
  exact hp
/-- What Reverse returns. -/
def RevPost (g : Gr) (w : World) (e : Ending) (w' : World) : Prop := ∃ (C : Option Addr) (m d : Nat), e = .returned (.tuple #[.agg #[.int .i64 g.rv.1.n, .slice C m d], .int .i64 g.rv.2]) ∧ g.rv.1.rs.length = m ∧ Hp w [arow C m d g.rv.1.rs] w'
set_option maxHeartbeats 32000000 in
theorem rreverse_any (g : Gr) (A : Option Addr) (n c : Nat) (w : World) (h : GrIn w A n c g) :
    Calls Try.prog 14 #[gval g A n c] w (RevPost g w) := by
  have H := Lib.hid h
  clear h
  obtain ⟨gn, hgn⟩ : ∃ gn, gn = g.n := ⟨_, rfl⟩
  have HGN := Lib.hid hgn
  have hgv : gval g A n c = .agg #[.int .i64 gn, .slice A n c] := by rw [hgn]
  have HV := Lib.hid (show ∀ W, GrIn W A n c g → Calls Try.prog 16 #[.agg #[.int .i64 gn, .slice A n c]] W fun e w' => e = .returned (.int .i64 g.vE) ∧ Below W.heap.size W w' from fun W hW => by rw [hgn]; exact rvalid_any g A n c W hW)
  rw [hgv]
  clear hgv hgn
  obtain ⟨wz, hwz⟩ : ∃ z, z = (w.alloc (.cells #[.int .i64 gn, .slice A n c] 24)).alloc (.cells #[.int .i64 0, .slice none 0 0] 24) := ⟨_, rfl⟩
  have HZ := Lib.hid hwz
  have V := Lib.hid (show Hp w [box 24 (w.heap.size + 1) [.int .i64 0, .slice none 0 0], box 24 w.heap.size [.int .i64 gn, .slice A n c]] wz by
    have h1 := (Hp.start w).box_new 24 [.int .i64 gn, .slice A n c]
    have h2 := h1.box_new 24 [.int .i64 0, .slice none 0 0]
    rw [show (w.alloc (.cells [.int .i64 gn, .slice A n c].toArray 24)).heap.size = w.heap.size + 1 by unfold World.alloc; exact Array.size_push ..] at h2
    rw [hwz]; exact h2)
  clear hwz
  go_enter Try.func14, Try.ntmps14
  go_upto_region 1 with fail
  rw [← HZ.out]
  clear HZ
  obtain ⟨gb, hgb⟩ : ∃ gb, gb = w.heap.size := ⟨_, rfl⟩
  rw [← hgb] at V ⊢
  clear hgb
  obtain ⟨r0, _, r9⟩ := V.out.box_at (i := 1) (j := 0) rfl rfl
  obtain ⟨r1, _, _⟩ := V.out.box_at (i := 1) (j := 1) rfl rfl
  go_wp2_with fail
  refine (HV.out _ (H.out.below V.out.below)).mono ?_
  rintro e w1 ⟨rfl, b1⟩
  have V1 := Lib.hid (V.out.go b1)
  clear b1 r0 r1 r9 V HV
  by_cases hv : g.vE = 0
  case neg =>
    have HE := Lib.hid (rv_bad hv)
    have g1 : (g.vE != 0) = true := bne_yes hv
    clear hv
    obtain ⟨t0, u0, v0⟩ := V1.out.box_at (i := 0) (j := 0) rfl rfl
    obtain ⟨t1, u1, v1⟩ := V1.out.box_at (i := 0) (j := 1) rfl rfl
    have V4 := (V1.out.box_set (i := 0) rfl 0 (.int .i64 0)).box_set (i := 0) rfl 1 (.slice none 0 0)
    obtain ⟨p0, _, _⟩ := V4.box_at (i := 0) (j := 0) rfl rfl
    obtain ⟨p1, _, _⟩ := V4.box_at (i := 0) (j := 1) rfl rfl
    have V5 := Lib.hid V4.below
    clear V4
    go_wp2_with fail
    refine bodyPost_ret (v := .tuple #[.agg #[.int .i64 0, .slice none 0 0], .int .i64 g.vE]) (by simp [results, Try.results14, go_sem, p0, p1]) rfl ⟨none, 0, 0, by rw [HE.out], by rw [HE.out]; rfl, ?_⟩
    rw [HE.out]
    exact ((Hp.start w).go V5.out).nil_row (arow none 0 0 []) rfl rfl rfl
  have HE := Lib.hid (rv_ok hv)
  have HO := Lib.hid (Gr.ok hv)
  rw [hv]
  clear hv
  have n1 : 1 ≤ gn := by rw [HGN.out]; exact HO.out.n1
  have n2 : gn ≤ 2000 := by rw [HGN.out]; exact HO.out.n2
  have hnl : n ≤ 6000 := by have := HO.out.len; have := H.out.len; omega
  have hw1 : IntKind.i64.wrap (gn - 1) = gn - 1 := IntWalk.i64_in _ (by omega)
  obtain ⟨gr, hgr⟩ : ∃ gr, gr = w1.heap.size := ⟨_, rfl⟩
  obtain ⟨w2, hw2⟩ : ∃ z, z = w1.alloc (.cells #[.int .i64 gn, .slice none 0 0] 24) := ⟨_, rfl⟩
  have H2 := Lib.hid hw2
  have V2 := Lib.hid (show Hp w [arow none 0 0 ((g.rs.take 0).map (revA g.n)), box 24 gr [.int .i64 gn, .slice none 0 0], box 24 (gb + 1) [.int .i64 0, .slice none 0 0], box 24 gb [.int .i64 gn, .slice A n c]] w2 by
    rw [hw2, hgr]; exact (V1.out.box_new _ _).nil_row _ rfl rfl rfl)
  clear hw2
  obtain ⟨r0, _, r9⟩ := V1.out.box_at (i := 1) (j := 0) rfl rfl
  go_upto_region 5 with fail
  rw [← H2.out, ← hgr]
  clear H2 r0 r9 V1 hgr
  go_wp2_with fail
  go_loopw [6] (fun cv wr => ∃ (k : Nat) (R : Option Addr) (d : Nat), cv = .int .i64 (k : Int) ∧ k ≤ n ∧ Hp w [arow R k d ((g.rs.take k).map (revA g.n)), box 24 gr [.int .i64 gn, .slice R k d], box 24 (gb + 1) [.int .i64 0, .slice none 0 0], box 24 gb [.int .i64 gn, .slice A n c]] wr) (fun cv _ => n - (intOf cv).toNat)
  case atStart => exact ⟨0, none, 0, rfl, Nat.zero_le _, V2.out⟩
  case round =>
    clear V2
    obtain ⟨k, R, d, rfl, hkn, hV⟩ := hrel
    obtain ⟨wi, rfl⟩ : ∃ wi : World, wi = wr := ⟨_, rfl⟩
    have V := Lib.hid hV
    clear hV
    obtain ⟨r0, _, r9⟩ := V.out.box_at (i := 3) (j := 0) rfl rfl
    obtain ⟨r1, _, _⟩ := V.out.box_at (i := 3) (j := 1) rfl rfl
    by_cases hlt : k < n
    case neg =>
      obtain rfl : k = n := by omega
      obtain ⟨q0, _, q9⟩ := V.out.box_at (i := 1) (j := 0) rfl rfl
      obtain ⟨q1, _, _⟩ := V.out.box_at (i := 1) (j := 1) rfl rfl
      obtain ⟨t0, u0, v0⟩ := V.out.box_at (i := 2) (j := 0) rfl rfl
      obtain ⟨t1, u1, v1⟩ := V.out.box_at (i := 2) (j := 1) rfl rfl
      have V4 := (V.out.box_set (i := 2) rfl 0 (.int .i64 gn)).box_set (i := 2) rfl 1 (.slice R k d)
      obtain ⟨p0, _, _⟩ := V4.box_at (i := 2) (j := 0) rfl rfl
      obtain ⟨p1, _, _⟩ := V4.box_at (i := 2) (j := 1) rfl rfl
      have V5 := Lib.hid (V4.front (l1 := [arow R k d ((g.rs.take k).map (revA g.n))]))
      clear V4
      go_wp2_with fail
      refine bodyPost_ret (v := .tuple #[.agg #[.int .i64 gn, .slice R k d], .int .i64 0]) (by simp [results, Try.results14, go_sem, p0, p1]) rfl ⟨R, k, d, by rw [HE.out, HGN.out], by rw [HE.out]; simpa using H.out.len, ?_⟩
      have h5 := V5.out
      rw [List.take_of_length_le (by rw [H.out.len]; exact Nat.le_refl _)] at h5
      rw [HE.out]
      exact h5
    obtain ⟨⟨f, t, q⟩, b, off, ha, hae, rfl, hbw, c0, c1, c2'⟩ := (H.out.below V.out.below).at hlt
    have har := HO.out.arc _ (List.mem_of_getElem? ha)
    dsimp only at har c0 c1 c2'
    have hk3 : k * 3 ≤ 20000 := by omega
    have HS := Lib.hid (show (g.rs.take (k + 1)).map (revA g.n) = (g.rs.take k).map (revA g.n) ++ [⟨gn - 1 - t, gn - 1 - f, q⟩] by rw [rvK_step ha, HGN.out]; rfl)
    have hw2 : IntKind.i64.wrap (gn - 1 - t) = gn - 1 - t := IntWalk.i64_in _ (by have := HGN.out; omega)
    have hw3 : IntKind.i64.wrap (gn - 1 - f) = gn - 1 - f := IntWalk.i64_in _ (by have := HGN.out; omega)
    obtain ⟨wy, hwy⟩ : ∃ z, z = wi.alloc (.cells #[.int .i64 f, .int .i64 t, .int .i64 q] 54) := ⟨_, rfl⟩
    have HY := Lib.hid hwy
    obtain ⟨ab, hab⟩ : ∃ ab, ab = wi.heap.size := ⟨_, rfl⟩
    have VY := Lib.hid (show Hp w [abox ab ⟨f, t, q⟩, arow R k d ((g.rs.take k).map (revA g.n)), box 24 gr [.int .i64 gn, .slice R k d], box 24 (gb + 1) [.int .i64 0, .slice none 0 0], box 24 gb [.int .i64 gn, .slice (some ⟨b, off, none⟩) n c]] wy by rw [hwy, hab]; exact V.out.anew ⟨f, t, q⟩)
    clear ha hae har hwy
    go_upto_region 9 with fail
    rw [← HY.out, ← hab]
    clear HY V c0 c1 c2' hbw r0 r1 r9 hab
    obtain ⟨r0, _, r9⟩ := VY.out.box_at (i := 4) (j := 0) rfl rfl
    obtain ⟨q1, _, q9⟩ := VY.out.box_at (i := 2) (j := 1) rfl rfl
    obtain ⟨s0, s1, s2, s9⟩ := VY.out.ab (i := 0) rfl
    dsimp only at s0 s1 s2
    obtain ⟨wq, hwq⟩ : ∃ z, z = wy.alloc (.cells #[.int .i64 (gn - 1 - t), .int .i64 (gn - 1 - f), .int .i64 q] 54) := ⟨_, rfl⟩
    have VQ := VY.out.anew ⟨gn - 1 - t, gn - 1 - f, q⟩
    obtain ⟨z0, z1, z2, z9⟩ := VQ.ab (i := 0) rfl
    obtain ⟨g5, cap5, w5, hr5, hv5, _⟩ := run_app_arc VQ (i := 2) rfl 22 ⟨gn - 1 - t, gn - 1 - f, q⟩ z0 z1 z2 (by omega)
    have V5 := Lib.hid (show Hp w [arow (some ⟨g5, 0, none⟩) (k + 1) cap5 ((g.rs.take (k + 1)).map (revA g.n)), box 24 gr [.int .i64 gn, .slice R k d], box 24 (gb + 1) [.int .i64 0, .slice none 0 0], box 24 gb [.int .i64 gn, .slice (some ⟨b, off, none⟩) n c]] w5 by
      rw [HS.out]; exact hv5.tail.tail)
    have HR5 := Lib.hid hr5
    clear hr5 hv5 VQ z0 z1 z2 z9 hwq
    obtain ⟨t0, u0, v0⟩ := V5.out.box_at (i := 1) (j := 0) rfl rfl
    obtain ⟨t1, u1, v1⟩ := V5.out.box_at (i := 1) (j := 1) rfl rfl
    have V6 := Lib.hid (V5.out.box_set (i := 1) rfl 1 (.slice (some ⟨g5, 0, none⟩) (k + 1) cap5))
    go_wp2_with (at_builtin; refine wpList_app_run rfl (.tmp 30) (.tmp 46) 22 rfl HR5.out rfl rfl ?_)
    go_roundw
    case rel => exact ⟨k + 1, some ⟨g5, 0, none⟩, cap5, by go_num, by omega, V6.out⟩
    case measure => simp [intOf]; omega
end Go.Proofs.Ytefdklfflemofaa
