/- Several texts in one: Zc. -/
import Derived.Test.YtjamfcihjendiaaGreatRaaz
import Derived.Test.YtjamfcihjendiaaGreatRaat
namespace Go.Proofs.YtjamfcihjendiaaGreat
open Go.RowKit
set_option linter.unusedVariables false
set_option linter.unusedSimpArgs false
set_option maxRecDepth 100000

def SrAt (w : World) (g : Nat) (nm : List UInt8) (A : Option Addr) (n c : Nat) (u : List UInt8) (F : Nat → Nat → Nat → Nat) : Prop :=
  g < w.heap.size ∧ w.cell? ⟨g, 0, none⟩ = some (.string (bs nm)) ∧ w.cell? ⟨g, 1, none⟩ = some (.slice A n c) ∧ w.cell? ⟨g, 2, none⟩ = some (.string (bs u)) ∧
  ∀ a b k, a ≤ 16 → b < 3 → k < 3 → w.cell? ⟨g, 3 + a * 9 + b * 3 + k, none⟩ = some (.int .i64 (F a b k : Nat))
theorem SrAt.below {w w' : World} {g : Nat} {nm : List UInt8} {A : Option Addr} {n c : Nat} {u : List UInt8} {F : Nat → Nat → Nat → Nat} (h : SrAt w g nm A n c u F) (hb : Below w.heap.size w w') : SrAt w' g nm A n c u F := by
  obtain ⟨h0, h1, h2, h3, h4⟩ := h
  exact ⟨Nat.lt_of_lt_of_le h0 hb.size, (hb.cell (p := ⟨g, 0, none⟩) h0).trans h1, (hb.cell (p := ⟨g, 1, none⟩) h0).trans h2, (hb.cell (p := ⟨g, 2, none⟩) h0).trans h3, fun a b k x y z => (hb.cell (p := ⟨g, 3 + a * 9 + b * 3 + k, none⟩) h0).trans (h4 a b k x y z)⟩
set_option maxHeartbeats 2000000 in
theorem countP_any (nm : List UInt8) (A : Option Addr) (n c : Nat) (u : List UInt8) (F : Nat → Nat → Nat → Nat) (g : Nat) (w : World) (h : SrAt w g nm A n c u F) (hF : ∀ k, F 0 0 k ≤ 201) :
    Calls Tryz.prog 26 #[.pointer (some ⟨g, 0, none⟩)] w fun e w' => e = .returned (.int .i64 ((F 0 0 0 + F 0 0 1 + F 0 0 2 : Nat) : Int)) ∧ Below w.heap.size w w' := by
  obtain ⟨h0, h1, h2, h3, h4⟩ := h
  have c0 := h4 0 0 0 (by decide) (by decide) (by decide)
  have c1 := h4 0 0 1 (by decide) (by decide) (by decide)
  have c2 := h4 0 0 2 (by decide) (by decide) (by decide)
  try simp only [Nat.zero_mul, Nat.add_zero, Nat.zero_add] at c0 c1 c2
  obtain ⟨x, hx⟩ : ∃ x, x = F 0 0 0 := ⟨_, rfl⟩
  obtain ⟨y, hy⟩ : ∃ y, y = F 0 0 1 := ⟨_, rfl⟩
  obtain ⟨z, hz⟩ : ∃ z, z = F 0 0 2 := ⟨_, rfl⟩
  have hx2 := hF 0
  have hy2 := hF 1
  have hz2 := hF 2
  rw [← hx] at c0 hx2 ⊢
  rw [← hy] at c1 hy2 ⊢
  rw [← hz] at c2 hz2 ⊢
  clear h1 h2 h3 h4 hx hy hz hF
  go_enter Tryz.func26, Tryz.ntmps26
  go_upto_region 1 with fail
  go_wp2_with fail
  refine (sum_any x y z _ (by omega) (by omega) (by omega)).mono ?_
  rintro e w2 ⟨rfl, hb⟩
  have B2 := Lib.hid hb
  clear hb
  go_wp2_with fail
  go_ret
  exact ⟨rfl, B2.out⟩
def opF (L : List Sg) (F : Nat → Nat → Nat → Nat) (i nx b k : Nat) : Nat := if whB (sgAt L i).w (exP b) (exP k) = true then F nx (lsK L i) k else 0
theorem opF_yes {L : List Sg} {F : Nat → Nat → Nat → Nat} {i nx b k : Nat} (h : whB (sgAt L i).w (exP b) (exP k) = true) : opF L F i nx b k = F nx (lsK L i) k := by unfold opF; rw [if_pos h]
theorem opF_no {L : List Sg} {F : Nat → Nat → Nat → Nat} {i nx b k : Nat} (h : whB (sgAt L i).w (exP b) (exP k) = false) : opF L F i nx b k = 0 := by unfold opF; rw [if_neg (by rw [h]; decide)]
def wbox (g : Nat) (a b c : Nat) : Itm := box 68 g [.int .i64 (a : Int), .int .i64 (b : Int), .int .i64 (c : Int)]
theorem wbox_at {W w : World} {l : List Itm} {i g a b c : Nat} (h : Hp W l w) (hi : l[i]? = some (wbox g a b c)) :
    w.cell? ⟨g, 0, none⟩ = some (.int .i64 (a : Int)) ∧ w.cell? ⟨g, 1, none⟩ = some (.int .i64 (b : Int)) ∧ w.cell? ⟨g, 2, none⟩ = some (.int .i64 (c : Int)) ∧ w.frozen? ⟨g, 0, none⟩ = false ∧ w.frozen? ⟨g, 1, none⟩ = false ∧ w.frozen? ⟨g, 2, none⟩ = false ∧ g < w.heap.size :=
  ⟨(h.box_at (j := 0) hi rfl).1, (h.box_at (j := 1) hi rfl).1, (h.box_at (j := 2) hi rfl).1, (h.box_at (j := 0) hi rfl).2.1, (h.box_at (j := 1) hi rfl).2.1, (h.box_at (j := 2) hi rfl).2.1, (h.box_at (j := 0) hi rfl).2.2⟩
theorem wbox_put {W w : World} {l : List Itm} {i g a b c : Nat} (h : Hp W l w) (hi : l[i]? = some (wbox g a b c)) (x y z : Nat) :
    Hp W (l.set i (wbox g x y z)) (((w.setCell ⟨g, 0, none⟩ (.int .i64 (x : Int))).setCell ⟨g, 1, none⟩ (.int .i64 (y : Int))).setCell ⟨g, 2, none⟩ (.int .i64 (z : Int))) := by
  have hl : i < l.length := (List.getElem?_eq_some_iff.1 hi).1
  have h1 := h.box_set hi 0 (.int .i64 (x : Int))
  have h2 := h1.box_set (i := i) (by rw [List.getElem?_set_self hl]) 1 (.int .i64 (y : Int))
  have h3 := h2.box_set (i := i) (by rw [List.getElem?_set_self (by rw [List.length_set]; exact hl)]) 2 (.int .i64 (z : Int))
  rw [List.set_set, List.set_set] at h3
  exact h3
def nL (o x : Nat → Nat) (k : Nat) : List Int := [((if 0 < k then o 0 else x 0 : Nat) : Int), ((if 1 < k then o 1 else x 1 : Nat) : Int), ((if 2 < k then o 2 else x 2 : Nat) : Int)]
theorem nL_skip {o x : Nat → Nat} {k : Nat} (hk : k < 3) (h : o k = x k) : nL o x (k + 1) = nL o x k := by
  rcases (show k = 0 ∨ k = 1 ∨ k = 2 by omega) with rfl | rfl | rfl <;> simp [nL, h]
theorem nL_put {o x : Nat → Nat} {k : Nat} (hk : k < 3) (h : o k = 0) : (nL o x k).set k 0 = nL o x (k + 1) := by
  rcases (show k = 0 ∨ k = 1 ∨ k = 2 by omega) with rfl | rfl | rfl <;> simp [nL, h]
theorem nL_get (o x : Nat → Nat) {k : Nat} (hk : k < 3) : (ints (nL o x k))[k]? = some (.int .i64 ((nL o x k).getD k 0)) := ints_at (by simpa [nL] using hk)
theorem nL_all (o x : Nat → Nat) : ints (nL o x 3) = [.int .i64 (o 0 : Int), .int .i64 (o 1 : Int), .int .i64 (o 2 : Int)] := by simp [nL, ints]
theorem ints_put {W w : World} {l : List Itm} {T : TypeId} {g k : Nat} {x : Int} {X : List Int} (h : Hp W (box T g ((ints X).set k (.int .i64 x)) :: l) w) : Hp W (box T g (ints (X.set k x)) :: l) w := by
  have e : ints (X.set k x) = (ints X).set k (.int .i64 x) := by unfold ints; rw [List.map_set]
  rw [e]; exact h
set_option maxHeartbeats 4000000 in
theorem behindP_any (nm : List UInt8) (L : List Sg) (A : Option Addr) (n c : Nat) (u : List UInt8) (F : Nat → Nat → Nat → Nat) (g i at_ nx b : Nat) (w : World) (hv : (vO nm L).2 = 0) (hl : L.length = n) (hA : SgnIn w A L) (h : SrAt w g nm A n c u F) (hi : i < n) (hnx : nx = at_ + (sgAt L i).t.length) (hnb : nx ≤ 16) (hF : ∀ k, F nx (lsK L i) k ≤ 201) (hb : b < 3) :
    Calls Tryz.prog 40 #[.pointer (some ⟨g, 0, none⟩), .int .i64 (i : Int), .int .i64 (at_ : Int), .int .i64 (b : Int)] w fun e w' => e = .returned (.agg #[.int .i64 (opF L F i nx b 0 : Nat), .int .i64 (opF L F i nx b 1 : Nat), .int .i64 (opF L F i nx b 2 : Nat)]) ∧ Below w.heap.size w w' := by
  have HV := Lib.hid hv
  have HL := Lib.hid hl
  have HA := Lib.hid hA
  have HS := Lib.hid h
  obtain ⟨x, hx⟩ := get_at (L := L) (k := i) (by omega)
  have HX := Lib.hid (sgAt_is hx)
  have HGX := Lib.hid hx
  have hxs : 0 < x.s.length ∧ x.s.length ≤ 2 := by have := sgn_bd hv (i := i) (by omega); rw [sgAt_is hx] at this; omega
  obtain ⟨tl, htl⟩ : ∃ tl, tl = x.t.length := ⟨_, rfl⟩
  have HTL := Lib.hid htl
  have hnx1 : nx = at_ + tl := by rw [hnx, sgAt_is hx, htl]
  obtain ⟨ls, hls⟩ : ∃ ls, ls = lsK L i := ⟨_, rfl⟩
  have HLS := Lib.hid hls
  have hls3 : ls < 3 := by rw [hls]; exact lsK_lt L i
  have HKL := Lib.hid (show kC (endB x.s) = ls by rw [hls, ← kC_ls, sgAt_is hx])
  have HOP := Lib.hid (fun k => (show (whB x.w (exP b) (exP k) = true → opF L F i nx b k = F nx ls k) ∧ (whB x.w (exP b) (exP k) = false → opF L F i nx b k = 0) from ⟨fun q => by rw [hls]; exact opF_yes (by rw [sgAt_is hx]; exact q), fun q => opF_no (by rw [sgAt_is hx]; exact q)⟩))
  have HFB := Lib.hid (fun (k : Nat) => (show fitB L (i : Int) (exP b) (exP k) = whB x.w (exP b) (exP k) by rw [fitB_at hx]))
  rw [← hls] at hF
  have hzx : (bs x.t).size = tl := by rw [bs_size, htl]
  have hn120 : n ≤ 120 := by have := (vO_zero hv).2.2.1; omega
  obtain ⟨g1, hg1⟩ : ∃ z, z = w.heap.size := ⟨_, rfl⟩
  obtain ⟨W1, hW1⟩ : ∃ z, z = w.alloc (.cells #[.int .i64 0, .int .i64 0, .int .i64 0] 68) := ⟨_, rfl⟩
  have V1 := Lib.hid (show Hp w [wbox g1 0 0 0] W1 by rw [hW1, hg1]; exact (Hp.start w).box_new _ _)
  have HW1 := Lib.hid hW1
  have HG1 := Lib.hid hg1
  clear hW1 hg1 hv hl hA hnx hls htl h hx
  obtain ⟨h0, h1, h2, h3, h4⟩ := HS.out.below V1.out.below
  obtain ⟨b0, off, Aj, cj, hAe, hb0', c0', c1', c2', c3', c4'⟩ := HA.out.at HGX.out
  have hb0 := Nat.lt_of_lt_of_le hb0' V1.out.below.size
  have c0 := (V1.out.below.cell (p := ⟨b0, off + i * 4, none⟩) hb0').trans c0'
  have c1 := (V1.out.below.cell (p := ⟨b0, off + i * 4 + 1, none⟩) hb0').trans c1'
  have c2 := (V1.out.below.cell (p := ⟨b0, off + i * 4 + 2, none⟩) hb0').trans c2'
  have c3 := (V1.out.below.cell (p := ⟨b0, off + i * 4 + 3, none⟩) hb0').trans c3'
  have HAE := Lib.hid hAe
  rw [hAe] at h2
  have HC4x := Lib.hid (fun (w' : World) (hb : Below w.heap.size w w') => c4'.below hb)
  have hi4 : i * 4 ≤ 480 := by omega
  clear hAe c4' c0' c1' c2' c3' hb0' h4 h3
  go_enter Tryz.func40, Tryz.ntmps40
  go_upto_region 1 with fail
  try rw [← HG1.out, ← HW1.out]
  obtain ⟨g2, hg2⟩ : ∃ z, z = W1.heap.size := ⟨_, rfl⟩
  obtain ⟨W2, hW2⟩ : ∃ z, z = W1.alloc (.cells #[.string (bs x.t), .slice Aj x.s.length cj, .int .i64 x.c, .int .i64 x.w] 64) := ⟨_, rfl⟩
  have V2 := Lib.hid (show Hp w (sgbox g2 (Aj, cj) x :: wbox g1 0 0 0 :: []) W2 by rw [hW2, hg2]; exact V1.out.sgbox_new Aj cj x)
  have HW2 := Lib.hid hW2
  have HG2 := Lib.hid hg2
  clear hW2 hg2
  go_upto_region 2 with fail
  rw [← HG2.out, ← HW2.out]
  clear h0 h1 h2 hb0 c0 c1 c2 c3
  obtain ⟨h0, h1, h2, h3, h4⟩ := HS.out.below V2.out.below
  obtain ⟨x0, hx0⟩ : ∃ z, z = F nx ls 0 := ⟨_, rfl⟩
  obtain ⟨x1, hx1⟩ : ∃ z, z = F nx ls 1 := ⟨_, rfl⟩
  obtain ⟨x2, hx2⟩ : ∃ z, z = F nx ls 2 := ⟨_, rfl⟩
  clear h0 h1 h2 h3 h4
  obtain ⟨h0, h1, h2, h3, h4⟩ := HS.out
  have HQ0 := Lib.hid (And.intro h0 (h4 nx ls 0 hnb hls3 (by decide)))
  have HQ1 := Lib.hid (And.intro h0 (h4 nx ls 1 hnb hls3 (by decide)))
  have HQ2 := Lib.hid (And.intro h0 (h4 nx ls 2 hnb hls3 (by decide)))
  have HQn := Lib.hid (And.intro h0 h1)
  have HQs := Lib.hid (And.intro h0 h2)
  have b0' := hF 0
  have b1' := hF 1
  have b2' := hF 2
  rw [← hx0] at HQ0 b0'
  rw [← hx1] at HQ1 b1'
  rw [← hx2] at HQ2 b2'
  have HX0 := Lib.hid hx0
  have HX1 := Lib.hid hx1
  have HX2 := Lib.hid hx2
  clear h0 h1 h2 h3 h4 hx0 hx1 hx2 hF
  have hwn : IntKind.i64.wrap ((at_ : Int) + (tl : Int)) = (nx : Int) := by rw [IntWalk.i64_in _ (by omega)]; omega
  have hn17 : (nx : Int) < 17 := by omega
  have hnxa : nx ≤ at_ + tl := by omega
  have hnxb : at_ + tl ≤ nx := by omega
  clear hnx1
  have hls4 : (ls : Int) < 3 := by omega
  have hnx9 : nx * 9 ≤ 144 := by omega
  go_cut [10] (fun p wx => ∃ g3, p = .pointer (some ⟨g3, 0, none⟩) ∧ Hp w (box 68 g3 (ints (nL (opF L F i nx b) (F nx ls) 0)) :: sgbox g2 (Aj, cj) x :: wbox g1 0 0 0 :: []) wx)
  case first =>
    have hKp : Keep [(⟨g2, 0, none⟩, .string (bs x.t)), (⟨g2, 1, none⟩, .slice Aj x.s.length cj), (⟨g2, 2, none⟩, .int .i64 x.c), (⟨g2, 3, none⟩, .int .i64 x.w), (⟨g, 3 + nx * 9 + ls * 3, none⟩, .int .i64 (x0 : Int)), (⟨g, 3 + nx * 9 + ls * 3 + 1, none⟩, .int .i64 (x1 : Int)), (⟨g, 3 + nx * 9 + ls * 3 + 2, none⟩, .int .i64 (x2 : Int))] W2 := List.forall_mem_cons.2 ⟨⟨(V2.out.box_at (i := 0) (j := 0) rfl rfl).1, (V2.out.box_at (i := 0) (j := 0) rfl rfl).2.2⟩, List.forall_mem_cons.2 ⟨⟨(V2.out.box_at (i := 0) (j := 1) rfl rfl).1, (V2.out.box_at (i := 0) (j := 1) rfl rfl).2.2⟩, List.forall_mem_cons.2 ⟨⟨(V2.out.box_at (i := 0) (j := 2) rfl rfl).1, (V2.out.box_at (i := 0) (j := 2) rfl rfl).2.2⟩, List.forall_mem_cons.2 ⟨⟨(V2.out.box_at (i := 0) (j := 3) rfl rfl).1, (V2.out.box_at (i := 0) (j := 3) rfl rfl).2.2⟩, List.forall_mem_cons.2 ⟨⟨(V2.out.below.cell (p := ⟨g, 3 + nx * 9 + ls * 3, none⟩) HQ0.out.1).trans HQ0.out.2, Nat.lt_of_lt_of_le HQ0.out.1 V2.out.below.size⟩, List.forall_mem_cons.2 ⟨⟨(V2.out.below.cell (p := ⟨g, 3 + nx * 9 + ls * 3 + 1, none⟩) HQ1.out.1).trans HQ1.out.2, Nat.lt_of_lt_of_le HQ1.out.1 V2.out.below.size⟩, List.forall_mem_cons.2 ⟨⟨(V2.out.below.cell (p := ⟨g, 3 + nx * 9 + ls * 3 + 2, none⟩) HQ2.out.1).trans HQ2.out.2, Nat.lt_of_lt_of_le HQ2.out.1 V2.out.below.size⟩, fun _ h => by simp at h⟩⟩⟩⟩⟩⟩⟩
    refine wp_region_held_drew (S := Keep _) (by kernel_rfl) hKp.drew (fun hHeld => ?_)
    obtain ⟨wf, hwf⟩ : ∃ z, z = W2.drew := ⟨_, rfl⟩
    have Vwf := Lib.hid (show Hp w (sgbox g2 (Aj, cj) x :: wbox g1 0 0 0 :: []) wf by rw [hwf]; exact V2.out.go (bdrew _))
    have Bwf := Lib.hid (show Below W2.heap.size W2 wf by rw [hwf]; exact bdrew _)
    rw [← hwf] at hHeld ⊢
    clear hwf hKp
    refine tk 0 ?_ rfl ?_ ?_; rotate_left; focus (intro w hSw; clear hSw; go_simp; try (with_reducible rfl))
    try simp only [Act.put, sA, sZ, sS]
    refine tk 1 ?_ rfl ?_ ?_; rotate_left; focus (intro w hSw; clear hSw; go_simp; try (with_reducible rfl))
    try simp only [Act.put, sA, sZ, sS]
    refine tk 2 ?_ rfl ?_ ?_; rotate_left; focus (intro w hSw; clear hSw; go_simp; try (with_reducible rfl))
    try simp only [Act.put, sA, sZ, sS]
    refine tk 3 ?_ rfl ?_ ?_; rotate_left
    · intro wl hSw
      have hSw : Keep _ wl := hSw
      have k0 := (hSw _ (.head _)).1
      dsimp only at k0
      clear hSw
      go_simp
      try (with_reducible rfl)
    try simp only [Act.put, sA, sZ, sS]
    refine tk 4 ?_ rfl ?_ ?_; rotate_left; focus (intro w hSw; clear hSw; go_simp; try (with_reducible rfl))
    try simp only [Act.put, sA, sZ, sS]
    refine tk 5 ?_ rfl ?_ ?_; rotate_left; focus (intro w hSw; clear hSw; go_simp; try (with_reducible rfl))
    try simp only [Act.put, sA, sZ, sS]
    refine tk 6 ?_ rfl ?_ ?_; rotate_left
    · intro wl hSw
      have hSw : Keep _ wl := hSw
      have k0 := (hSw _ (.head _)).1
      have k1 := (hSw _ (.tail _ (.head _))).1
      have k2 := (hSw _ (.tail _ (.tail _ (.head _)))).1
      have k3 := (hSw _ (.tail _ (.tail _ (.tail _ (.head _))))).1
      dsimp only at k0 k1 k2 k3
      clear hSw
      go_simp
      try (with_reducible rfl)
    try simp only [Act.put, sA, sZ, sS]
    refine tk 8 ?_ rfl ?_ ?_; rotate_left; focus (intro w hSw; clear hSw; go_simp; try (with_reducible rfl))
    try simp only [Act.put, sA, sZ, sS]
    refine tk 9 ?_ rfl ?_ ?_; rotate_left; focus (intro w hSw; clear hSw; go_simp; try (with_reducible rfl))
    try simp only [Act.put, sA, sZ, sS]
    refine tk 10 ?_ rfl ?_ ?_; rotate_left; focus (intro w hSw; clear hSw; go_simp; try (with_reducible rfl))
    try simp only [Act.put, sA, sZ, sS]
    refine wpAnyH_ready (rs := [7, 13]) (by kernel_rfl) (by simp) ?_
    refine AllReadyH.cons (List.getElem?_toArray.trans rfl) (fun K hK => ?_) ?_
    · go_simp
      refine (lastP_any x Aj cj _ hxs.1 (by omega) (HC4x.out _ Vwf.out.below)).mono ?_
      rintro r w_7 ⟨rfl, hb⟩
      rw [HKL.out]
      have V_7 := Lib.hid (Vwf.out.go hb)
      have B_7 := Lib.hid hb
      clear hb
      try go_wp2_with fail
      refine hK.out _ _ (hHeld.go B_7.out) (fun hHeld => ?_)
      clear hK K
      try simp only [Act.put, sA, sZ, sS]
      refine tk 11 ?_ rfl ?_ ?_; rotate_left; focus (intro w hSw; clear hSw; go_simp; try (with_reducible rfl))
      try simp only [Act.put, sA, sZ, sS]
      refine tk 12 ?_ rfl ?_ ?_; rotate_left
      · intro wl hSw
        have hSw : Keep _ wl := hSw
        have k0 := (hSw _ (.tail _ (.tail _ (.tail _ (.tail _ (.head _)))))).1
        have k1 := (hSw _ (.tail _ (.tail _ (.tail _ (.tail _ (.tail _ (.head _))))))).1
        have k2 := (hSw _ (.tail _ (.tail _ (.tail _ (.tail _ (.tail _ (.tail _ (.head _)))))))).1
        dsimp only at k0 k1 k2
        clear hSw
        go_simp
        try (with_reducible rfl)
      try simp only [Act.put, sA, sZ, sS]
      refine wpAnyH_ready (rs := [13]) (by kernel_rfl) (by simp) ?_
      refine AllReadyH.cons (List.getElem?_toArray.trans rfl) (fun K hK => ?_) AllReadyH.nil
      obtain ⟨w_7_13, hw_7_13⟩ : ∃ z, z = w_7.alloc (.cells #[.int .i64 0, .int .i64 0, .int .i64 0] 68) := ⟨_, rfl⟩
      obtain ⟨g_7_13, hg_7_13⟩ : ∃ z, z = w_7.heap.size := ⟨_, rfl⟩
      have V_7_13 := Lib.hid (show Hp w (wbox g_7_13 0 0 0 :: sgbox g2 (Aj, cj) x :: wbox g1 0 0 0 :: []) w_7_13 by rw [hw_7_13, hg_7_13]; exact V_7.out.box_new _ _)
      have B_7_13 := Lib.hid (show Below w_7.heap.size w_7 w_7_13 by rw [hw_7_13]; exact bnew _ _)
      have HW_7_13 := Lib.hid hw_7_13
      have HG_7_13 := Lib.hid hg_7_13
      clear hw_7_13 hg_7_13
      go_simp
      try rw [← HW_7_13.out]
      try rw [← HG_7_13.out]
      refine hK.out _ _ (hHeld.go B_7_13.out) (fun hHeld => ?_)
      clear hK K
      try simp only [Act.put, sA, sZ, sS]
      refine wpAnyH_ready (rs := [14]) (by kernel_rfl) (by simp) ?_
      refine AllReadyH.cons (List.getElem?_toArray.trans rfl) (fun K hK => ?_) AllReadyH.nil
      obtain ⟨y0, y1, y2, f0, f1, f2, hgN⟩ := wbox_at V_7_13.out (i := 0) rfl
      go_simp
      clear y0 y1 y2 f0 f1 f2 hgN
      have V_7_13_14 := Lib.hid (show Hp w (wbox g_7_13 x0 x1 x2 :: sgbox g2 (Aj, cj) x :: wbox g1 0 0 0 :: []) _ from wbox_put V_7_13.out (i := 0) rfl x0 x1 x2)
      refine hK.out _ _ (List.forall_mem_cons.2 ⟨⟨(V_7_13_14.out.box_at (i := 1) (j := 0) rfl rfl).1, (V_7_13_14.out.box_at (i := 1) (j := 0) rfl rfl).2.2⟩, List.forall_mem_cons.2 ⟨⟨(V_7_13_14.out.box_at (i := 1) (j := 1) rfl rfl).1, (V_7_13_14.out.box_at (i := 1) (j := 1) rfl rfl).2.2⟩, List.forall_mem_cons.2 ⟨⟨(V_7_13_14.out.box_at (i := 1) (j := 2) rfl rfl).1, (V_7_13_14.out.box_at (i := 1) (j := 2) rfl rfl).2.2⟩, List.forall_mem_cons.2 ⟨⟨(V_7_13_14.out.box_at (i := 1) (j := 3) rfl rfl).1, (V_7_13_14.out.box_at (i := 1) (j := 3) rfl rfl).2.2⟩, List.forall_mem_cons.2 ⟨⟨(V_7_13_14.out.below.cell (p := ⟨g, 3 + nx * 9 + ls * 3, none⟩) HQ0.out.1).trans HQ0.out.2, Nat.lt_of_lt_of_le HQ0.out.1 V_7_13_14.out.below.size⟩, List.forall_mem_cons.2 ⟨⟨(V_7_13_14.out.below.cell (p := ⟨g, 3 + nx * 9 + ls * 3 + 1, none⟩) HQ1.out.1).trans HQ1.out.2, Nat.lt_of_lt_of_le HQ1.out.1 V_7_13_14.out.below.size⟩, List.forall_mem_cons.2 ⟨⟨(V_7_13_14.out.below.cell (p := ⟨g, 3 + nx * 9 + ls * 3 + 2, none⟩) HQ2.out.1).trans HQ2.out.2, Nat.lt_of_lt_of_le HQ2.out.1 V_7_13_14.out.below.size⟩, fun _ h => by simp at h⟩⟩⟩⟩⟩⟩⟩) (fun hHeld => ?_)
      clear hK K
      try simp only [Act.put, sA, sZ, sS]
      refine wpAnyH_done (by kernel_rfl) ?_ _
      clear hHeld
      have VZ := Lib.hid (show Hp w (wbox g_7_13 x0 x1 x2 :: sgbox g2 (Aj, cj) x :: wbox g1 0 0 0 :: []) _ from (Hp.front (l := [_, _]) ((Hp.front (l := [_, _]) ((Hp.front (l := [_, _]) (V_7_13_14.out)))))))
      go_wp2_with fail
      go_meet
      exact ⟨g_7_13, rfl, by rw [show ints (nL (opF L F i nx b) (F nx ls) 0) = [.int .i64 (x0 : Int), .int .i64 (x1 : Int), .int .i64 (x2 : Int)] by rw [HX0.out, HX1.out, HX2.out]; rfl]; exact VZ.out⟩
    refine AllReadyH.cons (List.getElem?_toArray.trans rfl) (fun K hK => ?_) ?_
    · obtain ⟨w_13, hw_13⟩ : ∃ z, z = wf.alloc (.cells #[.int .i64 0, .int .i64 0, .int .i64 0] 68) := ⟨_, rfl⟩
      obtain ⟨g_13, hg_13⟩ : ∃ z, z = wf.heap.size := ⟨_, rfl⟩
      have V_13 := Lib.hid (show Hp w (wbox g_13 0 0 0 :: sgbox g2 (Aj, cj) x :: wbox g1 0 0 0 :: []) w_13 by rw [hw_13, hg_13]; exact Vwf.out.box_new _ _)
      have B_13 := Lib.hid (show Below wf.heap.size wf w_13 by rw [hw_13]; exact bnew _ _)
      have HW_13 := Lib.hid hw_13
      have HG_13 := Lib.hid hg_13
      clear hw_13 hg_13
      go_simp
      try rw [← HW_13.out]
      try rw [← HG_13.out]
      refine hK.out _ _ (hHeld.go B_13.out) (fun hHeld => ?_)
      clear hK K
      try simp only [Act.put, sA, sZ, sS]
      refine wpAnyH_ready (rs := [7]) (by kernel_rfl) (by simp) ?_
      refine AllReadyH.cons (List.getElem?_toArray.trans rfl) (fun K hK => ?_) AllReadyH.nil
      go_simp
      refine (lastP_any x Aj cj _ hxs.1 (by omega) (HC4x.out _ V_13.out.below)).mono ?_
      rintro r w_13_7 ⟨rfl, hb⟩
      rw [HKL.out]
      have V_13_7 := Lib.hid (V_13.out.go hb)
      have B_13_7 := Lib.hid hb
      clear hb
      try go_wp2_with fail
      refine hK.out _ _ (hHeld.go B_13_7.out) (fun hHeld => ?_)
      clear hK K
      try simp only [Act.put, sA, sZ, sS]
      refine tk 11 ?_ rfl ?_ ?_; rotate_left; focus (intro w hSw; clear hSw; go_simp; try (with_reducible rfl))
      try simp only [Act.put, sA, sZ, sS]
      refine tk 12 ?_ rfl ?_ ?_; rotate_left
      · intro wl hSw
        have hSw : Keep _ wl := hSw
        have k0 := (hSw _ (.tail _ (.tail _ (.tail _ (.tail _ (.head _)))))).1
        have k1 := (hSw _ (.tail _ (.tail _ (.tail _ (.tail _ (.tail _ (.head _))))))).1
        have k2 := (hSw _ (.tail _ (.tail _ (.tail _ (.tail _ (.tail _ (.tail _ (.head _)))))))).1
        dsimp only at k0 k1 k2
        clear hSw
        go_simp
        try (with_reducible rfl)
      try simp only [Act.put, sA, sZ, sS]
      refine wpAnyH_ready (rs := [14]) (by kernel_rfl) (by simp) ?_
      refine AllReadyH.cons (List.getElem?_toArray.trans rfl) (fun K hK => ?_) AllReadyH.nil
      obtain ⟨y0, y1, y2, f0, f1, f2, hgN⟩ := wbox_at V_13_7.out (i := 0) rfl
      go_simp
      clear y0 y1 y2 f0 f1 f2 hgN
      have V_13_7_14 := Lib.hid (show Hp w (wbox g_13 x0 x1 x2 :: sgbox g2 (Aj, cj) x :: wbox g1 0 0 0 :: []) _ from wbox_put V_13_7.out (i := 0) rfl x0 x1 x2)
      refine hK.out _ _ (List.forall_mem_cons.2 ⟨⟨(V_13_7_14.out.box_at (i := 1) (j := 0) rfl rfl).1, (V_13_7_14.out.box_at (i := 1) (j := 0) rfl rfl).2.2⟩, List.forall_mem_cons.2 ⟨⟨(V_13_7_14.out.box_at (i := 1) (j := 1) rfl rfl).1, (V_13_7_14.out.box_at (i := 1) (j := 1) rfl rfl).2.2⟩, List.forall_mem_cons.2 ⟨⟨(V_13_7_14.out.box_at (i := 1) (j := 2) rfl rfl).1, (V_13_7_14.out.box_at (i := 1) (j := 2) rfl rfl).2.2⟩, List.forall_mem_cons.2 ⟨⟨(V_13_7_14.out.box_at (i := 1) (j := 3) rfl rfl).1, (V_13_7_14.out.box_at (i := 1) (j := 3) rfl rfl).2.2⟩, List.forall_mem_cons.2 ⟨⟨(V_13_7_14.out.below.cell (p := ⟨g, 3 + nx * 9 + ls * 3, none⟩) HQ0.out.1).trans HQ0.out.2, Nat.lt_of_lt_of_le HQ0.out.1 V_13_7_14.out.below.size⟩, List.forall_mem_cons.2 ⟨⟨(V_13_7_14.out.below.cell (p := ⟨g, 3 + nx * 9 + ls * 3 + 1, none⟩) HQ1.out.1).trans HQ1.out.2, Nat.lt_of_lt_of_le HQ1.out.1 V_13_7_14.out.below.size⟩, List.forall_mem_cons.2 ⟨⟨(V_13_7_14.out.below.cell (p := ⟨g, 3 + nx * 9 + ls * 3 + 2, none⟩) HQ2.out.1).trans HQ2.out.2, Nat.lt_of_lt_of_le HQ2.out.1 V_13_7_14.out.below.size⟩, fun _ h => by simp at h⟩⟩⟩⟩⟩⟩⟩) (fun hHeld => ?_)
      clear hK K
      try simp only [Act.put, sA, sZ, sS]
      refine wpAnyH_done (by kernel_rfl) ?_ _
      clear hHeld
      have VZ := Lib.hid (show Hp w (wbox g_13 x0 x1 x2 :: sgbox g2 (Aj, cj) x :: wbox g1 0 0 0 :: []) _ from (Hp.front (l := [_, _]) ((Hp.front (l := [_, _]) ((Hp.front (l := [_, _]) (V_13_7_14.out)))))))
      go_wp2_with fail
      go_meet
      exact ⟨g_13, rfl, by rw [show ints (nL (opF L F i nx b) (F nx ls) 0) = [.int .i64 (x0 : Int), .int .i64 (x1 : Int), .int .i64 (x2 : Int)] by rw [HX0.out, HX1.out, HX2.out]; rfl]; exact VZ.out⟩
    exact AllReadyH.nil
  case rest =>
  obtain ⟨g3, rfl, hV⟩ := hcut
  obtain ⟨wk, rfl⟩ : ∃ z : World, z = wc := ⟨_, rfl⟩
  have V3 := Lib.hid hV
  clear hV V2 V1 hwn hn17
  go_wp2_with fail
  go_loopw [33] (fun iv wr => ∃ k : Nat, k ≤ 3 ∧ iv = .int .i64 (k : Int) ∧ Hp w (box 68 g3 (ints (nL (opF L F i nx b) (F nx ls) k)) :: sgbox g2 (Aj, cj) x :: wbox g1 0 0 0 :: []) wr) (fun iv _ => 3 - (intOf iv).toNat)
  case atStart => exact ⟨0, by omega, rfl, V3.out⟩
  case round =>
    obtain ⟨k, hk, rfl, hV⟩ := hrel
    obtain ⟨wi, rfl⟩ : ∃ wi : World, wi = wr := ⟨_, rfl⟩
    have V4 := Lib.hid hV
    clear hV V3
    by_cases hlt : k < 3
    · have hk3 : (k : Int) < 3 := by omega
      go_upto_region 6 with fail
      cases hw : whB x.w (exP b) (exP k) with
      | true =>
        have HFK := Lib.hid (show fitB L (i : Int) (exP b) (exP k) = true by rw [HFB.out, hw])
        have HN := Lib.hid (nL_skip (o := opF L F i nx b) (x := F nx ls) hlt ((HOP.out k).1 hw))
        clear hw
        have hKp : Keep [(⟨g, 0, none⟩, .string (bs nm)), (⟨g, 1, none⟩, .slice A n c)] wi := List.forall_mem_cons.2 ⟨⟨(V4.out.below.cell (p := ⟨g, 0, none⟩) HQn.out.1).trans HQn.out.2, Nat.lt_of_lt_of_le HQn.out.1 V4.out.below.size⟩, List.forall_mem_cons.2 ⟨⟨(V4.out.below.cell (p := ⟨g, 1, none⟩) HQs.out.1).trans HQs.out.2, Nat.lt_of_lt_of_le HQs.out.1 V4.out.below.size⟩, fun _ h => by simp at h⟩⟩
        refine wp_region_held_drew (S := Keep _) (by kernel_rfl) hKp.drew (fun hHeld => ?_)
        obtain ⟨wf, hwf⟩ : ∃ z, z = wi.drew := ⟨_, rfl⟩
        have Vwf := Lib.hid (show Hp w (box 68 g3 (ints (nL (opF L F i nx b) (F nx ls) k)) :: sgbox g2 (Aj, cj) x :: wbox g1 0 0 0 :: []) wf by rw [hwf]; exact V4.out.go (bdrew _))
        have Bwf := Lib.hid (show Below wi.heap.size wi wf by rw [hwf]; exact bdrew _)
        rw [← hwf] at hHeld ⊢
        clear hwf hKp
        refine tk 0 ?_ rfl ?_ ?_; rotate_left; focus (intro w hSw; clear hSw; go_simp; try (with_reducible rfl))
        try simp only [Act.put, sA, sZ, sS]
        refine tk 1 ?_ rfl ?_ ?_; rotate_left; focus (intro w hSw; clear hSw; go_simp; try (with_reducible rfl))
        try simp only [Act.put, sA, sZ, sS]
        refine tk 2 ?_ rfl ?_ ?_; rotate_left; focus (intro w hSw; clear hSw; go_simp; try (with_reducible rfl))
        try simp only [Act.put, sA, sZ, sS]
        refine tk 3 ?_ rfl ?_ ?_; rotate_left
        · intro wl hSw
          have hSw : Keep _ wl := hSw
          have k0 := (hSw _ (.head _)).1
          have k1 := (hSw _ (.tail _ (.head _))).1
          dsimp only at k0 k1
          clear hSw
          go_simp
          try (with_reducible rfl)
        try simp only [Act.put, sA, sZ, sS]
        refine tk 4 ?_ rfl ?_ ?_; rotate_left; focus (intro w hSw; clear hSw; go_simp; try (with_reducible rfl))
        try simp only [Act.put, sA, sZ, sS]
        refine tk 5 ?_ rfl ?_ ?_; rotate_left; focus (intro w hSw; clear hSw; go_simp; try (with_reducible rfl))
        try simp only [Act.put, sA, sZ, sS]
        refine tk 7 ?_ rfl ?_ ?_; rotate_left; focus (intro w hSw; clear hSw; go_simp; try (with_reducible rfl))
        try simp only [Act.put, sA, sZ, sS]
        refine wpAnyH_ready (rs := [6]) (by kernel_rfl) (by simp) ?_
        refine AllReadyH.cons (List.getElem?_toArray.trans rfl) (fun K hK => ?_) AllReadyH.nil
        go_simp
        refine (example_any b _ hb).mono ?_
        rintro r w_6 ⟨B1, cB1, rfl, hc1, hb⟩
        have HC1 := Lib.hid hc1
        have V_6 := Lib.hid (Vwf.out.go hb)
        have B_6 := Lib.hid hb
        clear hb hc1
        try go_wp2_with fail
        refine hK.out _ _ (hHeld.go B_6.out) (fun hHeld => ?_)
        clear hK K
        try simp only [Act.put, sA, sZ, sS]
        refine wpAnyH_ready (rs := [8]) (by kernel_rfl) (by simp) ?_
        refine AllReadyH.cons (List.getElem?_toArray.trans rfl) (fun K hK => ?_) AllReadyH.nil
        go_simp
        refine (example_any k _ hlt).mono ?_
        rintro r w_6_8 ⟨B2, cB2, rfl, hc2, hb⟩
        have HC2 := Lib.hid hc2
        have HC1b := Lib.hid (HC1.out.below hb)
        have V_6_8 := Lib.hid (V_6.out.go hb)
        have B_6_8 := Lib.hid hb
        clear hb hc2
        try go_wp2_with fail
        refine hK.out _ _ (hHeld.go B_6_8.out) (fun hHeld => ?_)
        clear hK K
        try simp only [Act.put, sA, sZ, sS]
        refine wpAnyH_ready (rs := [9]) (by kernel_rfl) (by simp) ?_
        refine AllReadyH.cons (List.getElem?_toArray.trans rfl) (fun K hK => ?_) AllReadyH.nil
        go_simp
        refine (fits_any nm L (i : Int) n c (exP b).length cB1 (exP k).length cB2 A B1 B2 _ (exP b) (exP k) HL.out (by omega) (HA.out.below V_6_8.out.below) rfl (Nat.le_trans (exP_len b) (by decide)) rfl (Nat.le_trans (exP_len k) (by decide)) HC1b.out HC2.out).mono ?_
        rintro r w_6_8_9 ⟨rfl, hb⟩
        rw [HFK.out]
        have V_6_8_9 := Lib.hid (V_6_8.out.go hb)
        have B_6_8_9 := Lib.hid hb
        clear hb
        try go_wp2_with fail
        refine hK.out _ _ (hHeld.go B_6_8_9.out) (fun hHeld => ?_)
        clear hK K
        try simp only [Act.put, sA, sZ, sS]
        refine tk 10 ?_ rfl ?_ ?_; rotate_left; focus (intro w hSw; clear hSw; go_simp; try (with_reducible rfl))
        try simp only [Act.put, sA, sZ, sS]
        refine wpAnyH_done (by kernel_rfl) ?_ _
        clear hHeld
        go_wp2_with fail
        go_roundw
        case rel => exact ⟨k + 1, by omega, by go_num, by rw [HN.out]; exact V_6_8_9.out⟩
        case measure => simp [intOf]; omega
      | false =>
        have HFK := Lib.hid (show fitB L (i : Int) (exP b) (exP k) = false by rw [HFB.out, hw])
        have HN := Lib.hid (nL_put (x := F nx ls) hlt ((HOP.out k).2 hw))
        clear hw
        have hKp : Keep [(⟨g, 0, none⟩, .string (bs nm)), (⟨g, 1, none⟩, .slice A n c)] wi := List.forall_mem_cons.2 ⟨⟨(V4.out.below.cell (p := ⟨g, 0, none⟩) HQn.out.1).trans HQn.out.2, Nat.lt_of_lt_of_le HQn.out.1 V4.out.below.size⟩, List.forall_mem_cons.2 ⟨⟨(V4.out.below.cell (p := ⟨g, 1, none⟩) HQs.out.1).trans HQs.out.2, Nat.lt_of_lt_of_le HQs.out.1 V4.out.below.size⟩, fun _ h => by simp at h⟩⟩
        refine wp_region_held_drew (S := Keep _) (by kernel_rfl) hKp.drew (fun hHeld => ?_)
        obtain ⟨wf, hwf⟩ : ∃ z, z = wi.drew := ⟨_, rfl⟩
        have Vwf := Lib.hid (show Hp w (box 68 g3 (ints (nL (opF L F i nx b) (F nx ls) k)) :: sgbox g2 (Aj, cj) x :: wbox g1 0 0 0 :: []) wf by rw [hwf]; exact V4.out.go (bdrew _))
        have Bwf := Lib.hid (show Below wi.heap.size wi wf by rw [hwf]; exact bdrew _)
        rw [← hwf] at hHeld ⊢
        clear hwf hKp
        refine tk 0 ?_ rfl ?_ ?_; rotate_left; focus (intro w hSw; clear hSw; go_simp; try (with_reducible rfl))
        try simp only [Act.put, sA, sZ, sS]
        refine tk 1 ?_ rfl ?_ ?_; rotate_left; focus (intro w hSw; clear hSw; go_simp; try (with_reducible rfl))
        try simp only [Act.put, sA, sZ, sS]
        refine tk 2 ?_ rfl ?_ ?_; rotate_left; focus (intro w hSw; clear hSw; go_simp; try (with_reducible rfl))
        try simp only [Act.put, sA, sZ, sS]
        refine tk 3 ?_ rfl ?_ ?_; rotate_left
        · intro wl hSw
          have hSw : Keep _ wl := hSw
          have k0 := (hSw _ (.head _)).1
          have k1 := (hSw _ (.tail _ (.head _))).1
          dsimp only at k0 k1
          clear hSw
          go_simp
          try (with_reducible rfl)
        try simp only [Act.put, sA, sZ, sS]
        refine tk 4 ?_ rfl ?_ ?_; rotate_left; focus (intro w hSw; clear hSw; go_simp; try (with_reducible rfl))
        try simp only [Act.put, sA, sZ, sS]
        refine tk 5 ?_ rfl ?_ ?_; rotate_left; focus (intro w hSw; clear hSw; go_simp; try (with_reducible rfl))
        try simp only [Act.put, sA, sZ, sS]
        refine tk 7 ?_ rfl ?_ ?_; rotate_left; focus (intro w hSw; clear hSw; go_simp; try (with_reducible rfl))
        try simp only [Act.put, sA, sZ, sS]
        refine wpAnyH_ready (rs := [6]) (by kernel_rfl) (by simp) ?_
        refine AllReadyH.cons (List.getElem?_toArray.trans rfl) (fun K hK => ?_) AllReadyH.nil
        go_simp
        refine (example_any b _ hb).mono ?_
        rintro r w_6 ⟨B1, cB1, rfl, hc1, hb⟩
        have HC1 := Lib.hid hc1
        have V_6 := Lib.hid (Vwf.out.go hb)
        have B_6 := Lib.hid hb
        clear hb hc1
        try go_wp2_with fail
        refine hK.out _ _ (hHeld.go B_6.out) (fun hHeld => ?_)
        clear hK K
        try simp only [Act.put, sA, sZ, sS]
        refine wpAnyH_ready (rs := [8]) (by kernel_rfl) (by simp) ?_
        refine AllReadyH.cons (List.getElem?_toArray.trans rfl) (fun K hK => ?_) AllReadyH.nil
        go_simp
        refine (example_any k _ hlt).mono ?_
        rintro r w_6_8 ⟨B2, cB2, rfl, hc2, hb⟩
        have HC2 := Lib.hid hc2
        have HC1b := Lib.hid (HC1.out.below hb)
        have V_6_8 := Lib.hid (V_6.out.go hb)
        have B_6_8 := Lib.hid hb
        clear hb hc2
        try go_wp2_with fail
        refine hK.out _ _ (hHeld.go B_6_8.out) (fun hHeld => ?_)
        clear hK K
        try simp only [Act.put, sA, sZ, sS]
        refine wpAnyH_ready (rs := [9]) (by kernel_rfl) (by simp) ?_
        refine AllReadyH.cons (List.getElem?_toArray.trans rfl) (fun K hK => ?_) AllReadyH.nil
        go_simp
        refine (fits_any nm L (i : Int) n c (exP b).length cB1 (exP k).length cB2 A B1 B2 _ (exP b) (exP k) HL.out (by omega) (HA.out.below V_6_8.out.below) rfl (Nat.le_trans (exP_len b) (by decide)) rfl (Nat.le_trans (exP_len k) (by decide)) HC1b.out HC2.out).mono ?_
        rintro r w_6_8_9 ⟨rfl, hb⟩
        rw [HFK.out]
        have V_6_8_9 := Lib.hid (V_6_8.out.go hb)
        have B_6_8_9 := Lib.hid hb
        clear hb
        try go_wp2_with fail
        refine hK.out _ _ (hHeld.go B_6_8_9.out) (fun hHeld => ?_)
        clear hK K
        try simp only [Act.put, sA, sZ, sS]
        refine tk 10 ?_ rfl ?_ ?_; rotate_left; focus (intro w hSw; clear hSw; go_simp; try (with_reducible rfl))
        try simp only [Act.put, sA, sZ, sS]
        refine wpAnyH_done (by kernel_rfl) ?_ _
        clear hHeld
        obtain ⟨yk, fk, gk⟩ := V_6_8_9.out.box_at (i := 0) (j := k) rfl (nL_get (opF L F i nx b) (F nx ls) hlt)
        have VP := Lib.hid (show Hp w (box 68 g3 (ints (nL (opF L F i nx b) (F nx ls) (k + 1))) :: sgbox g2 (Aj, cj) x :: wbox g1 0 0 0 :: []) _ by rw [← HN.out]; exact ints_put (V_6_8_9.out.box_set (i := 0) rfl k (.int .i64 0)))
        go_wp2_with fail
        go_roundw
        case rel => exact ⟨k + 1, by omega, by go_num, VP.out⟩
        case measure => simp [intOf]; omega
    · obtain rfl : k = 3 := by omega
      have HE := Lib.hid (nL_all (opF L F i nx b) (F nx ls))
      rw [HE.out] at V4
      obtain ⟨o0, ho0⟩ : ∃ z, z = opF L F i nx b 0 := ⟨_, rfl⟩
      obtain ⟨o1, ho1⟩ : ∃ z, z = opF L F i nx b 1 := ⟨_, rfl⟩
      obtain ⟨o2, ho2⟩ : ∃ z, z = opF L F i nx b 2 := ⟨_, rfl⟩
      rw [← ho0, ← ho1, ← ho2] at V4
      have HO0 := Lib.hid ho0
      have HO1 := Lib.hid ho1
      have HO2 := Lib.hid ho2
      have V5 := Lib.hid (show Hp w (wbox g3 o0 o1 o2 :: sgbox g2 (Aj, cj) x :: wbox g1 0 0 0 :: []) wi from V4.out)
      obtain ⟨y0, y1, y2, _, _, _, y6⟩ := wbox_at V5.out (i := 0) rfl
      obtain ⟨z0, z1, z2, f0, f1, f2, z6⟩ := wbox_at V5.out (i := 2) rfl
      obtain ⟨wz, hwz⟩ : ∃ z, z = (((wi.setCell ⟨g1, 0, none⟩ (.int .i64 (o0 : Int))).setCell ⟨g1, 1, none⟩ (.int .i64 (o1 : Int))).setCell ⟨g1, 2, none⟩ (.int .i64 (o2 : Int))) := ⟨_, rfl⟩
      have V9 := Lib.hid (show Hp w (wbox g3 o0 o1 o2 :: sgbox g2 (Aj, cj) x :: wbox g1 o0 o1 o2 :: []) wz by rw [hwz]; exact wbox_put V5.out (i := 2) rfl o0 o1 o2)
      have HWZ := Lib.hid hwz
      clear ho0 ho1 ho2 hwz
      go_wp2_with fail
      rw [← HWZ.out]
      clear y0 y1 y2 z0 z1 z2 f0 f1 f2
      obtain ⟨r0, r1, r2, _, _, _, r6⟩ := wbox_at V9.out (i := 2) rfl
      refine bodyPost_ret (v := .agg #[.int .i64 (o0 : Int), .int .i64 (o1 : Int), .int .i64 (o2 : Int)]) ?_ rfl ⟨by rw [← HO0.out, ← HO1.out, ← HO2.out], V9.out.below⟩
      simp [results, Tryz.results40, go_sem, r0, r1, r2]
end Go.Proofs.YtjamfcihjendiaaGreat
