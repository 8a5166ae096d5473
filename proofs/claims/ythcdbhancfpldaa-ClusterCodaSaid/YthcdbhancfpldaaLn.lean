/- Contract of Made of the reference. -/
import Derived.Test.YthcdbhancfpldaaLk
import Derived.Test.YthcdbhancfpldaaLm
import Derived.Test.YthcdbhancfpldaaUl
namespace Go.Proofs.Ythcdbhancfpldaa
open Go.RowKit
set_option linter.unusedVariables false
set_option linter.unusedSimpArgs false
set_option maxRecDepth 100000

def nine : List Snd := [⟨3, 0, [116]⟩, ⟨4, 0, [114]⟩, ⟨9, 0, [104]⟩, ⟨5, 0, [110]⟩, ⟨6, 0, [115]⟩, ⟨7, 0, [120]⟩, ⟨8, 0, [118]⟩, ⟨3, 0, [112]⟩, ⟨4, 0, [108]⟩]
theorem nine_ok : ∀ x ∈ nine, vS x = 0 ∧ nuc x = false := by
  intro x hx
  unfold nine at hx
  simp only [List.mem_cons, List.not_mem_nil, or_false] at hx
  rcases hx with rfl | rfl | rfl | rfl | rfl | rfl | rfl | rfl | rfl <;> exact ⟨by kernel_rfl, by kernel_rfl⟩
/-- What is made of a draft. -/
structure GoodC (C : Clu) : Prop where
  ok : COk C
  n6 : C.s.length ≤ 6
def MdPost (w : World) (e : Ending) (w' : World) : Prop := ∃ C A n c B m d, e = .returned (.agg #[.slice A n c, .slice B m d]) ∧ GoodC C ∧ CIn w' A n B m C ∧ n ≤ c ∧ m ≤ d ∧ Below w.heap.size w w'
theorem CellsIn.oat {w : World} {b off k : Nat} {D : List Int} {z : Int} (h : CellsIn w (some ⟨b, off, none⟩) (bytesC D)) (hz : D[k]? = some z) : w.cell? ⟨b, off + k, none⟩ = some (.int .u8 z) ∧ b < w.heap.size := by
  have hk := (List.getElem?_eq_some_iff.1 hz).1
  obtain ⟨b2, o2, e, hb, hc⟩ := h (by unfold bytesC; rw [List.length_map]; omega)
  injection e with e
  injection e with e1 e2
  subst e1 e2
  exact ⟨hc k _ (by unfold bytesC; rw [List.getElem?_map, hz]; rfl), hb⟩
theorem CellsIn.oct {w : World} {A : Option Addr} {D : List Int} (h : CellsIn w A (bytesC D)) {j : Nat} {z : Int} (hz : D[j]? = some z) : ∃ b off, A = some ⟨b, off, none⟩ := by
  have hk := (List.getElem?_eq_some_iff.1 hz).1
  obtain ⟨b, off, e, _, _⟩ := h (by unfold bytesC; rw [List.length_map]; omega)
  exact ⟨b, off, e⟩
theorem asc_snoc {M : List Int} {k : Int} (h : M.Pairwise (· ≤ ·)) (hb : ∀ a ∈ M, 0 ≤ a ∧ a ≤ k) (hk : 0 ≤ k) : (M ++ [k]).Pairwise (· ≤ ·) ∧ ∀ a ∈ M ++ [k], 0 ≤ a ∧ a ≤ k := by
  refine ⟨List.pairwise_append.2 ⟨h, List.pairwise_singleton _ _, fun a ha b hb2 => ?_⟩, fun a ha => ?_⟩
  · rw [List.mem_singleton.1 hb2]; exact (hb a ha).2
  · rcases List.mem_append.1 ha with ha | ha
    · exact hb a ha
    · rw [List.mem_singleton.1 ha]; omega
set_option maxHeartbeats 16000000 in
theorem rmade14_any (AD : Option Addr) (nd cd : Nat) (D : List Int) (q : Int) (w : World) (hD : D.length = nd ∧ nd ≤ 1000000000000000) (hDz : ∀ z ∈ D, 0 ≤ z ∧ z ≤ 255) (hDc : CellsIn w AD (bytesC D)) (hq : 0 ≤ q ∧ q ≤ 4294967295) :
    Calls Try.prog 31 #[.agg #[.slice AD nd cd, .int .u32 q]] w (MdPost w) := by
  have HD := Lib.hid hD
  have HDZ := Lib.hid hDz
  have HDC := Lib.hid hDc
  have hnd := hD.2
  obtain ⟨hq0, hq1⟩ := hq
  clear hD hDz hDc
  obtain ⟨g0, hg0⟩ : ∃ z, z = w.heap.size := ⟨_, rfl⟩
  obtain ⟨g1, hg1⟩ : ∃ z, z = w.heap.size + 1 := ⟨_, rfl⟩
  obtain ⟨g2, hg2⟩ : ∃ z, z = g1 + 1 := ⟨_, rfl⟩
  obtain ⟨g3, hg3⟩ : ∃ z, z = g2 + 1 := ⟨_, rfl⟩
  obtain ⟨W0, hW0⟩ : ∃ z, z = (((w.alloc (.cells #[.slice AD nd cd, .int .u32 q] 48)).alloc (.cells #[.slice none 0 0, .slice none 0 0] 25)).alloc (.cells #[.int .i64 3, .int .i64 0, .string ⟨#[116]⟩, .int .i64 4, .int .i64 0, .string ⟨#[114]⟩, .int .i64 9, .int .i64 0, .string ⟨#[104]⟩, .int .i64 5, .int .i64 0, .string ⟨#[110]⟩, .int .i64 6, .int .i64 0, .string ⟨#[115]⟩, .int .i64 7, .int .i64 0, .string ⟨#[120]⟩, .int .i64 8, .int .i64 0, .string ⟨#[118]⟩, .int .i64 3, .int .i64 0, .string ⟨#[112]⟩, .int .i64 4, .int .i64 0, .string ⟨#[108]⟩] 51)).alloc (.cells #[.slice none 0 0, .slice none 0 0] 25) := ⟨_, rfl⟩
  have V0 := Lib.hid (show Hp w [cbox g3 none 0 0 none 0 0, snds (some ⟨g2, 0, none⟩) 9 9 nine, cbox g1 none 0 0 none 0 0, box 48 g0 [.slice AD nd cd, .int .u32 q]] W0 by
    have h1 := ((Hp.start w).box_new 48 [.slice AD nd cd, .int .u32 q]).cbox_new none 0 0 none 0 0
    have h2 := (h1.lit 51 3 9 [.int .i64 3, .int .i64 0, .string (bs [116]), .int .i64 4, .int .i64 0, .string (bs [114]), .int .i64 9, .int .i64 0, .string (bs [104]), .int .i64 5, .int .i64 0, .string (bs [110]), .int .i64 6, .int .i64 0, .string (bs [115]), .int .i64 7, .int .i64 0, .string (bs [120]), .int .i64 8, .int .i64 0, .string (bs [118]), .int .i64 3, .int .i64 0, .string (bs [112]), .int .i64 4, .int .i64 0, .string (bs [108])] rfl (by decide)).cbox_new none 0 0 none 0 0
    rw [show (((w.alloc (.cells ([.slice AD nd cd, .int .u32 q] : List Value).toArray 48)).alloc (.cells #[.slice none 0 0, .slice none 0 0] 25)).alloc (.cells ([.int .i64 3, .int .i64 0, .string (bs [116]), .int .i64 4, .int .i64 0, .string (bs [114]), .int .i64 9, .int .i64 0, .string (bs [104]), .int .i64 5, .int .i64 0, .string (bs [110]), .int .i64 6, .int .i64 0, .string (bs [115]), .int .i64 7, .int .i64 0, .string (bs [120]), .int .i64 8, .int .i64 0, .string (bs [118]), .int .i64 3, .int .i64 0, .string (bs [112]), .int .i64 4, .int .i64 0, .string (bs [108])] : List Value).toArray 51)).heap.size = w.heap.size + 1 + 1 + 1 by simp, show ((w.alloc (.cells ([.slice AD nd cd, .int .u32 q] : List Value).toArray 48)).alloc (.cells #[.slice none 0 0, .slice none 0 0] 25)).heap.size = w.heap.size + 1 + 1 by simp, show (w.alloc (.cells ([.slice AD nd cd, .int .u32 q] : List Value).toArray 48)).heap.size = w.heap.size + 1 by simp, ← hg1, ← hg2, ← hg3, ← hg0] at h2
    rw [hW0]; exact h2)
  have HW0 := Lib.hid hW0
  have HG0 := Lib.hid hg0
  have HG1 := Lib.hid hg1
  have HG2 := Lib.hid hg2
  have HG3 := Lib.hid hg3
  clear hW0 hg0 hg1 hg2 hg3
  go_enter Try.func31, Try.ntmps31
  go_upto_region 3 with fail
  rw [← HW0.out, ← HG1.out, ← HG2.out, ← HG3.out]
  try rw [← HG0.out]
  go_wp2_with fail
  go_loopw [5] (fun i wr => ∃ (k c : Nat) (A : Option Addr) (L : List Snd), k ≤ nd ∧ k ≤ 6 ∧ i = .int .i64 k ∧ (∀ x ∈ L, x ∈ nine) ∧ Hp w [cbox g3 A k c none 0 0, snds A k c L, snds (some ⟨g2, 0, none⟩) 9 9 nine, cbox g1 none 0 0 none 0 0, box 48 g0 [.slice AD nd cd, .int .u32 q]] wr) (fun i _ => nd - (intOf i).toNat)
  case atStart => exact ⟨0, 0, none, [], Nat.zero_le _, Nat.zero_le _, rfl, fun x hx => (by cases hx), (V0.out.nil_row (snds none 0 0 []) rfl rfl rfl).pick [1, 0, 2, 3, 4] (by decide) rfl⟩
  case round =>
    obtain ⟨k, c, A, L, hk, hk6, rfl, hL, hV⟩ := hrel
    obtain ⟨wi, rfl⟩ : ∃ wi : World, wi = wr := ⟨_, rfl⟩
    have V := Lib.hid hV
    have HL := Lib.hid hL
    clear hV hL V0
    obtain ⟨b0, b1, bg⟩ := V.out.cbox_at (i := 0) rfl
    have y0 := (V.out.box_at (T := 48) (g := g0) (cs := [.slice AD nd cd, .int .u32 q]) (i := 4) rfl (j := 0) rfl).1
    have y1 := (V.out.box_at (T := 48) (g := g0) (cs := [.slice AD nd cd, .int .u32 q]) (i := 4) rfl (j := 1) rfl).1
    have yg := (V.out.box_at (T := 48) (g := g0) (cs := [.slice AD nd cd, .int .u32 q]) (i := 4) rfl (j := 0) rfl).2.2
    go_upto_region 4 with fail
    go_cut [26] (fun r wx => r = .bool (decide (k < nd ∧ k < 6)) ∧ wi = wx)
    case first =>
      by_cases hlt : k < nd
      · by_cases h6 : k < 6
        · go_wp2_with fail
          go_meet
          exact ⟨by rw [decide_eq_true (show k < nd ∧ k < 6 from ⟨hlt, h6⟩), decide_eq_true (show (k : Int) < 6 by omega)], rfl⟩
        · go_wp2_with fail
          go_meet
          exact ⟨by rw [decide_eq_false (show ¬ (k < nd ∧ k < 6) from fun h => h6 h.2), decide_eq_false (show ¬ (k : Int) < 6 by omega)], rfl⟩
      · go_wp2_with fail
        go_meet
        exact ⟨by rw [decide_eq_false (show ¬ (k < nd ∧ k < 6) from fun h => hlt h.1)], rfl⟩
    case rest =>
    obtain ⟨rfl, rfl⟩ := hcut
    by_cases hlt2 : k < nd ∧ k < 6
    · rw [decide_eq_true hlt2]
      obtain ⟨hlt, h6⟩ := hlt2
      obtain ⟨z, hz⟩ := get_at (L := D) (k := k) (by have := HD.out; omega)
      obtain ⟨bD, oD, rfl⟩ := HDC.out.oct hz
      have hzb := HDZ.out z (List.mem_of_getElem? hz)
      obtain ⟨zn, rfl⟩ := Int.eq_ofNat_of_zero_le hzb.1
      have hzn2 : zn ≤ 255 := by omega
      have HZ := Lib.hid hz
      obtain ⟨kk, hkk⟩ : ∃ kk, kk = zn % 9 := ⟨_, rfl⟩
      have hkn : kk < 9 := by omega
      have hkn9 : (kk : Int) < 9 := by omega
      have hmod : (zn : Int).tmod 9 = (kk : Int) := by rw [hkk]; rfl
      have hwz : IntKind.i64.wrap (zn : Int) = (zn : Int) := IntWalk.i64_in _ (by omega)
      obtain ⟨x, hx⟩ := get_at (L := nine) (k := kk) hkn
      have HX := Lib.hid hx
      obtain ⟨d0, hbD⟩ := (HDC.out.below V.out.below).oat hz
      obtain ⟨⟨x0, x1, x2⟩, xg⟩ := (V.out.cells (i := 2) (it := snds (some ⟨g2, 0, none⟩) 9 9 nine) rfl (A := some ⟨g2, 0, none⟩) (c := 9) rfl).sat hx
      rw [Nat.zero_add] at x0 x1 x2
      have hk4 : kk * 3 ≤ 24 := by omega
      clear hz hzb hkk hx
      go_upto_region 6 with fail
      have hKp : Keep [(⟨g0, 0, none⟩, .slice (some ⟨bD, oD, none⟩) nd cd), (⟨bD, oD + k, none⟩, .int .u8 (zn : Int)), (⟨g2, kk * 3, none⟩, .int .i64 x.k), (⟨g2, kk * 3 + 1, none⟩, .int .i64 x.q), (⟨g2, kk * 3 + 2, none⟩, .string (bs x.t))] wi := List.forall_mem_cons.2 ⟨⟨(V.out.box_at (T := 48) (g := g0) (cs := [.slice (some ⟨bD, oD, none⟩) nd cd, .int .u32 q]) (i := 4) rfl (j := 0) rfl).1, (V.out.box_at (T := 48) (g := g0) (cs := [.slice (some ⟨bD, oD, none⟩) nd cd, .int .u32 q]) (i := 4) rfl (j := 0) rfl).2.2⟩, List.forall_mem_cons.2 ⟨⟨((HDC.out.below V.out.below).oat HZ.out).1, ((HDC.out.below V.out.below).oat HZ.out).2⟩, List.forall_mem_cons.2 ⟨⟨(by have h := ((V.out.cells (i := 2) (it := snds (some ⟨g2, 0, none⟩) 9 9 nine) rfl (A := some ⟨g2, 0, none⟩) (c := 9) rfl).sat HX.out).1; rw [Nat.zero_add] at h; exact h.1), ((V.out.cells (i := 2) (it := snds (some ⟨g2, 0, none⟩) 9 9 nine) rfl (A := some ⟨g2, 0, none⟩) (c := 9) rfl).sat HX.out).2⟩, List.forall_mem_cons.2 ⟨⟨(by have h := ((V.out.cells (i := 2) (it := snds (some ⟨g2, 0, none⟩) 9 9 nine) rfl (A := some ⟨g2, 0, none⟩) (c := 9) rfl).sat HX.out).1; rw [Nat.zero_add] at h; exact h.2.1), ((V.out.cells (i := 2) (it := snds (some ⟨g2, 0, none⟩) 9 9 nine) rfl (A := some ⟨g2, 0, none⟩) (c := 9) rfl).sat HX.out).2⟩, List.forall_mem_cons.2 ⟨⟨(by have h := ((V.out.cells (i := 2) (it := snds (some ⟨g2, 0, none⟩) 9 9 nine) rfl (A := some ⟨g2, 0, none⟩) (c := 9) rfl).sat HX.out).1; rw [Nat.zero_add] at h; exact h.2.2), ((V.out.cells (i := 2) (it := snds (some ⟨g2, 0, none⟩) 9 9 nine) rfl (A := some ⟨g2, 0, none⟩) (c := 9) rfl).sat HX.out).2⟩, fun _ h => by simp at h⟩⟩⟩⟩⟩
      refine wp_region_held_drew (S := Keep _) (by kernel_rfl) hKp.drew (fun hHeld => ?_)
      obtain ⟨wf, hwf⟩ : ∃ z, z = wi.drew := ⟨_, rfl⟩
      have Vwf := Lib.hid (show Hp w (cbox g3 A k c none 0 0 :: snds A k c L :: snds (some ⟨g2, 0, none⟩) 9 9 nine :: cbox g1 none 0 0 none 0 0 :: box 48 g0 [.slice (some ⟨bD, oD, none⟩) nd cd, .int .u32 q] :: []) wf by rw [hwf]; exact V.out.go (bdrew _))
      have Bwf := Lib.hid (show Below wi.heap.size wi wf by rw [hwf]; exact bdrew _)
      rw [← hwf] at hHeld ⊢
      clear hwf hKp
      refine tk 0 ?_ rfl ?_ ?_; rotate_left; focus (intro w hSw; clear hSw; go_simp; try (with_reducible rfl))
      try simp only [Act.put, sA, sZ, sS]
      refine tk 2 ?_ rfl ?_ ?_; rotate_left; focus (intro w hSw; clear hSw; go_simp; try (with_reducible rfl))
      try simp only [Act.put, sA, sZ, sS]
      refine tk 3 ?_ rfl ?_ ?_; rotate_left; focus (intro w hSw; clear hSw; go_simp; try (with_reducible rfl))
      try simp only [Act.put, sA, sZ, sS]
      refine tk 4 ?_ rfl ?_ ?_; rotate_left
      · intro wl hSw
        have hSw : Keep _ wl := hSw
        have k0 := (hSw _ (.head _)).1
        dsimp only at k0
        clear hSw
        go_simp
        try (with_reducible rfl)
      try simp only [Act.put, sA, sZ, sS]
      refine tk 5 ?_ rfl ?_ ?_; rotate_left; focus (intro w hSw; clear hSw; go_simp; try (with_reducible rfl))
      try simp only [Act.put, sA, sZ, sS]
      refine tk 6 ?_ rfl ?_ ?_; rotate_left; focus (intro w hSw; clear hSw; go_simp; try (with_reducible rfl))
      try simp only [Act.put, sA, sZ, sS]
      refine tk 7 ?_ rfl ?_ ?_; rotate_left
      · intro wl hSw
        have hSw : Keep _ wl := hSw
        have k0 := (hSw _ (.tail _ (.head _))).1
        dsimp only at k0
        clear hSw
        go_simp
        try (with_reducible rfl)
      try simp only [Act.put, sA, sZ, sS]
      refine tk 8 ?_ rfl ?_ ?_; rotate_left; focus (intro w hSw; clear hSw; go_simp; try (with_reducible rfl))
      try simp only [Act.put, sA, sZ, sS]
      refine tk 9 ?_ rfl ?_ ?_; rotate_left; focus (intro w hSw; clear hSw; go_simp; try (with_reducible rfl))
      try simp only [Act.put, sA, sZ, sS]
      refine tk 10 ?_ rfl ?_ ?_; rotate_left; focus (intro w hSw; clear hSw; go_simp; try (with_reducible rfl))
      try simp only [Act.put, sA, sZ, sS]
      refine tk 11 ?_ rfl ?_ ?_; rotate_left; focus (intro w hSw; clear hSw; go_simp; try (with_reducible rfl))
      try simp only [Act.put, sA, sZ, sS]
      refine tk 12 ?_ rfl ?_ ?_; rotate_left; focus (intro w hSw; clear hSw; go_simp; try (with_reducible rfl))
      try simp only [Act.put, sA, sZ, sS]
      refine tk 13 ?_ rfl ?_ ?_; rotate_left
      · intro wl hSw
        have hSw : Keep _ wl := hSw
        have k0 := (hSw _ (.tail _ (.tail _ (.head _)))).1
        have k1 := (hSw _ (.tail _ (.tail _ (.tail _ (.head _))))).1
        have k2 := (hSw _ (.tail _ (.tail _ (.tail _ (.tail _ (.head _)))))).1
        dsimp only at k0 k1 k2
        clear hSw
        go_simp
        try (with_reducible rfl)
      try simp only [Act.put, sA, sZ, sS]
      refine wpAnyH_ready (rs := [1, 14]) (by kernel_rfl) (by simp) ?_
      refine AllReadyH.cons (List.getElem?_toArray.trans rfl) (fun K hK => ?_) ?_
      · have yL := (Vwf.out.cbox_at (i := 0) rfl).1
        go_simp
        clear yL
        refine hK.out _ _ (hHeld) (fun hHeld => ?_)
        clear hK K
        try simp only [Act.put, sA, sZ, sS]
        refine wpAnyH_ready (rs := [14]) (by kernel_rfl) (by simp) ?_
        refine AllReadyH.cons (List.getElem?_toArray.trans rfl) (fun K hK => ?_) AllReadyH.nil
        obtain ⟨w_1_14, hw_1_14⟩ : ∃ z, z = wf.alloc (.cells #[.int .i64 x.k, .int .i64 x.q, .string (bs x.t)] 51) := ⟨_, rfl⟩
        obtain ⟨g_1_14, hg_1_14⟩ : ∃ z, z = wf.heap.size := ⟨_, rfl⟩
        have V_1_14 := Lib.hid (show Hp w (sbox g_1_14 x :: cbox g3 A k c none 0 0 :: snds A k c L :: snds (some ⟨g2, 0, none⟩) 9 9 nine :: cbox g1 none 0 0 none 0 0 :: box 48 g0 [.slice (some ⟨bD, oD, none⟩) nd cd, .int .u32 q] :: []) w_1_14 by rw [hw_1_14, hg_1_14]; exact Vwf.out.sbox_new x)
        have B_1_14 := Lib.hid (show Below wf.heap.size wf w_1_14 by rw [hw_1_14]; exact bnew _ _)
        have HW_1_14 := Lib.hid hw_1_14
        have HG_1_14 := Lib.hid hg_1_14
        clear hw_1_14 hg_1_14
        go_simp
        try rw [← HW_1_14.out]
        try rw [← HG_1_14.out]
        refine hK.out _ _ (hHeld.go B_1_14.out) (fun hHeld => ?_)
        clear hK K
        try simp only [Act.put, sA, sZ, sS]
        refine wpAnyH_ready (rs := [15]) (by kernel_rfl) (by simp) ?_
        refine AllReadyH.cons (List.getElem?_toArray.trans rfl) (fun K hK => ?_) AllReadyH.nil
        obtain ⟨g_1_14_15, cap_1_14_15, w_1_14_15, hr_1_14_15, hv_1_14_15, _⟩ := run_app_snd V_1_14.out (i := 2) rfl 22 x (fun j u hu => (V_1_14.out.box_at (i := 0) (cs := sndC x) rfl hu).1) (by omega)
        have HR_1_14_15 := Lib.hid hr_1_14_15
        have V_1_14_15 := Lib.hid (show Hp w (sbox g_1_14 x :: cbox g3 A k c none 0 0 :: snds (some ⟨g_1_14_15, 0, none⟩) (k + 1) cap_1_14_15 (L ++ [x]) :: snds (some ⟨g2, 0, none⟩) 9 9 nine :: cbox g1 none 0 0 none 0 0 :: box 48 g0 [.slice (some ⟨bD, oD, none⟩) nd cd, .int .u32 q] :: []) w_1_14_15 from hv_1_14_15)
        clear hr_1_14_15 hv_1_14_15
        refine step_app_run rfl (.tmp 30) (.tmp 43) 22 rfl HR_1_14_15.out rfl rfl ?_
        refine hK.out _ _ (List.forall_mem_cons.2 ⟨⟨(V_1_14_15.out.box_at (T := 48) (g := g0) (cs := [.slice (some ⟨bD, oD, none⟩) nd cd, .int .u32 q]) (i := 5) rfl (j := 0) rfl).1, (V_1_14_15.out.box_at (T := 48) (g := g0) (cs := [.slice (some ⟨bD, oD, none⟩) nd cd, .int .u32 q]) (i := 5) rfl (j := 0) rfl).2.2⟩, List.forall_mem_cons.2 ⟨⟨((HDC.out.below V_1_14_15.out.below).oat HZ.out).1, ((HDC.out.below V_1_14_15.out.below).oat HZ.out).2⟩, List.forall_mem_cons.2 ⟨⟨(by have h := ((V_1_14_15.out.cells (i := 3) (it := snds (some ⟨g2, 0, none⟩) 9 9 nine) rfl (A := some ⟨g2, 0, none⟩) (c := 9) rfl).sat HX.out).1; rw [Nat.zero_add] at h; exact h.1), ((V_1_14_15.out.cells (i := 3) (it := snds (some ⟨g2, 0, none⟩) 9 9 nine) rfl (A := some ⟨g2, 0, none⟩) (c := 9) rfl).sat HX.out).2⟩, List.forall_mem_cons.2 ⟨⟨(by have h := ((V_1_14_15.out.cells (i := 3) (it := snds (some ⟨g2, 0, none⟩) 9 9 nine) rfl (A := some ⟨g2, 0, none⟩) (c := 9) rfl).sat HX.out).1; rw [Nat.zero_add] at h; exact h.2.1), ((V_1_14_15.out.cells (i := 3) (it := snds (some ⟨g2, 0, none⟩) 9 9 nine) rfl (A := some ⟨g2, 0, none⟩) (c := 9) rfl).sat HX.out).2⟩, List.forall_mem_cons.2 ⟨⟨(by have h := ((V_1_14_15.out.cells (i := 3) (it := snds (some ⟨g2, 0, none⟩) 9 9 nine) rfl (A := some ⟨g2, 0, none⟩) (c := 9) rfl).sat HX.out).1; rw [Nat.zero_add] at h; exact h.2.2), ((V_1_14_15.out.cells (i := 3) (it := snds (some ⟨g2, 0, none⟩) 9 9 nine) rfl (A := some ⟨g2, 0, none⟩) (c := 9) rfl).sat HX.out).2⟩, fun _ h => by simp at h⟩⟩⟩⟩⟩) (fun hHeld => ?_)
        clear hK K
        try simp only [Act.put, sA, sZ, sS]
        refine tk 16 ?_ rfl ?_ ?_; rotate_left; focus (intro w hSw; clear hSw; go_simp; try (with_reducible rfl))
        try simp only [Act.put, sA, sZ, sS]
        refine wpAnyH_ready (rs := [17]) (by kernel_rfl) (by simp) ?_
        refine AllReadyH.cons (List.getElem?_toArray.trans rfl) (fun K hK => ?_) AllReadyH.nil
        obtain ⟨⟨s0, s1, s2⟩, s3, s4⟩ := V_1_14_15.out.cbox_st (i := 1) rfl
        have XS := Lib.hid (Hp.box_set (T := 25) (g := g3) (cs := [.slice A k c, .slice none 0 0]) V_1_14_15.out (i := 1) rfl 0 (.slice (some ⟨g_1_14_15, 0, none⟩) (k + 1) cap_1_14_15))
        go_simp
        clear s0 s1 s2 s3 s4
        refine hK.out _ _ (List.forall_mem_cons.2 ⟨⟨(XS.out.box_at (T := 48) (g := g0) (cs := [.slice (some ⟨bD, oD, none⟩) nd cd, .int .u32 q]) (i := 5) rfl (j := 0) rfl).1, (XS.out.box_at (T := 48) (g := g0) (cs := [.slice (some ⟨bD, oD, none⟩) nd cd, .int .u32 q]) (i := 5) rfl (j := 0) rfl).2.2⟩, List.forall_mem_cons.2 ⟨⟨((HDC.out.below XS.out.below).oat HZ.out).1, ((HDC.out.below XS.out.below).oat HZ.out).2⟩, List.forall_mem_cons.2 ⟨⟨(by have h := ((XS.out.cells (i := 3) (it := snds (some ⟨g2, 0, none⟩) 9 9 nine) rfl (A := some ⟨g2, 0, none⟩) (c := 9) rfl).sat HX.out).1; rw [Nat.zero_add] at h; exact h.1), ((XS.out.cells (i := 3) (it := snds (some ⟨g2, 0, none⟩) 9 9 nine) rfl (A := some ⟨g2, 0, none⟩) (c := 9) rfl).sat HX.out).2⟩, List.forall_mem_cons.2 ⟨⟨(by have h := ((XS.out.cells (i := 3) (it := snds (some ⟨g2, 0, none⟩) 9 9 nine) rfl (A := some ⟨g2, 0, none⟩) (c := 9) rfl).sat HX.out).1; rw [Nat.zero_add] at h; exact h.2.1), ((XS.out.cells (i := 3) (it := snds (some ⟨g2, 0, none⟩) 9 9 nine) rfl (A := some ⟨g2, 0, none⟩) (c := 9) rfl).sat HX.out).2⟩, List.forall_mem_cons.2 ⟨⟨(by have h := ((XS.out.cells (i := 3) (it := snds (some ⟨g2, 0, none⟩) 9 9 nine) rfl (A := some ⟨g2, 0, none⟩) (c := 9) rfl).sat HX.out).1; rw [Nat.zero_add] at h; exact h.2.2), ((XS.out.cells (i := 3) (it := snds (some ⟨g2, 0, none⟩) 9 9 nine) rfl (A := some ⟨g2, 0, none⟩) (c := 9) rfl).sat HX.out).2⟩, fun _ h => by simp at h⟩⟩⟩⟩⟩) (fun hHeld => ?_)
        clear hK K
        try simp only [Act.put, sA, sZ, sS]
        refine wpAnyH_done (by kernel_rfl) ?_ _
        have VE := Lib.hid (XS.out.pick [1, 2, 3, 4, 5] (by decide) rfl : Hp w [cbox g3 (some ⟨g_1_14_15, 0, none⟩) (k + 1) cap_1_14_15 none 0 0, snds (some ⟨g_1_14_15, 0, none⟩) (k + 1) cap_1_14_15 (L ++ [x]), snds (some ⟨g2, 0, none⟩) 9 9 nine, cbox g1 none 0 0 none 0 0, box 48 g0 [.slice (some ⟨bD, oD, none⟩) nd cd, .int .u32 q]] _)
        have HL2 := Lib.hid (show ∀ y ∈ L ++ [x], y ∈ nine from fun y hy => by
          rcases List.mem_append.1 hy with hy | hy
          · exact HL.out y hy
          · rw [List.mem_singleton.1 hy]; exact List.mem_of_getElem? HX.out)
        clear hHeld
        go_wp2_with fail
        go_roundw
        case rel => exact ⟨k + 1, _, _, _, by omega, by omega, by go_num, HL2.out, VE.out⟩
        case measure => simp [intOf]; omega
      refine AllReadyH.cons (List.getElem?_toArray.trans rfl) (fun K hK => ?_) ?_
      · obtain ⟨w_14, hw_14⟩ : ∃ z, z = wf.alloc (.cells #[.int .i64 x.k, .int .i64 x.q, .string (bs x.t)] 51) := ⟨_, rfl⟩
        obtain ⟨g_14, hg_14⟩ : ∃ z, z = wf.heap.size := ⟨_, rfl⟩
        have V_14 := Lib.hid (show Hp w (sbox g_14 x :: cbox g3 A k c none 0 0 :: snds A k c L :: snds (some ⟨g2, 0, none⟩) 9 9 nine :: cbox g1 none 0 0 none 0 0 :: box 48 g0 [.slice (some ⟨bD, oD, none⟩) nd cd, .int .u32 q] :: []) w_14 by rw [hw_14, hg_14]; exact Vwf.out.sbox_new x)
        have B_14 := Lib.hid (show Below wf.heap.size wf w_14 by rw [hw_14]; exact bnew _ _)
        have HW_14 := Lib.hid hw_14
        have HG_14 := Lib.hid hg_14
        clear hw_14 hg_14
        go_simp
        try rw [← HW_14.out]
        try rw [← HG_14.out]
        refine hK.out _ _ (hHeld.go B_14.out) (fun hHeld => ?_)
        clear hK K
        try simp only [Act.put, sA, sZ, sS]
        refine wpAnyH_ready (rs := [1]) (by kernel_rfl) (by simp) ?_
        refine AllReadyH.cons (List.getElem?_toArray.trans rfl) (fun K hK => ?_) AllReadyH.nil
        have yL := (V_14.out.cbox_at (i := 1) rfl).1
        go_simp
        clear yL
        refine hK.out _ _ (hHeld) (fun hHeld => ?_)
        clear hK K
        try simp only [Act.put, sA, sZ, sS]
        refine wpAnyH_ready (rs := [15]) (by kernel_rfl) (by simp) ?_
        refine AllReadyH.cons (List.getElem?_toArray.trans rfl) (fun K hK => ?_) AllReadyH.nil
        obtain ⟨g_14_1_15, cap_14_1_15, w_14_1_15, hr_14_1_15, hv_14_1_15, _⟩ := run_app_snd V_14.out (i := 2) rfl 22 x (fun j u hu => (V_14.out.box_at (i := 0) (cs := sndC x) rfl hu).1) (by omega)
        have HR_14_1_15 := Lib.hid hr_14_1_15
        have V_14_1_15 := Lib.hid (show Hp w (sbox g_14 x :: cbox g3 A k c none 0 0 :: snds (some ⟨g_14_1_15, 0, none⟩) (k + 1) cap_14_1_15 (L ++ [x]) :: snds (some ⟨g2, 0, none⟩) 9 9 nine :: cbox g1 none 0 0 none 0 0 :: box 48 g0 [.slice (some ⟨bD, oD, none⟩) nd cd, .int .u32 q] :: []) w_14_1_15 from hv_14_1_15)
        clear hr_14_1_15 hv_14_1_15
        refine step_app_run rfl (.tmp 30) (.tmp 43) 22 rfl HR_14_1_15.out rfl rfl ?_
        refine hK.out _ _ (List.forall_mem_cons.2 ⟨⟨(V_14_1_15.out.box_at (T := 48) (g := g0) (cs := [.slice (some ⟨bD, oD, none⟩) nd cd, .int .u32 q]) (i := 5) rfl (j := 0) rfl).1, (V_14_1_15.out.box_at (T := 48) (g := g0) (cs := [.slice (some ⟨bD, oD, none⟩) nd cd, .int .u32 q]) (i := 5) rfl (j := 0) rfl).2.2⟩, List.forall_mem_cons.2 ⟨⟨((HDC.out.below V_14_1_15.out.below).oat HZ.out).1, ((HDC.out.below V_14_1_15.out.below).oat HZ.out).2⟩, List.forall_mem_cons.2 ⟨⟨(by have h := ((V_14_1_15.out.cells (i := 3) (it := snds (some ⟨g2, 0, none⟩) 9 9 nine) rfl (A := some ⟨g2, 0, none⟩) (c := 9) rfl).sat HX.out).1; rw [Nat.zero_add] at h; exact h.1), ((V_14_1_15.out.cells (i := 3) (it := snds (some ⟨g2, 0, none⟩) 9 9 nine) rfl (A := some ⟨g2, 0, none⟩) (c := 9) rfl).sat HX.out).2⟩, List.forall_mem_cons.2 ⟨⟨(by have h := ((V_14_1_15.out.cells (i := 3) (it := snds (some ⟨g2, 0, none⟩) 9 9 nine) rfl (A := some ⟨g2, 0, none⟩) (c := 9) rfl).sat HX.out).1; rw [Nat.zero_add] at h; exact h.2.1), ((V_14_1_15.out.cells (i := 3) (it := snds (some ⟨g2, 0, none⟩) 9 9 nine) rfl (A := some ⟨g2, 0, none⟩) (c := 9) rfl).sat HX.out).2⟩, List.forall_mem_cons.2 ⟨⟨(by have h := ((V_14_1_15.out.cells (i := 3) (it := snds (some ⟨g2, 0, none⟩) 9 9 nine) rfl (A := some ⟨g2, 0, none⟩) (c := 9) rfl).sat HX.out).1; rw [Nat.zero_add] at h; exact h.2.2), ((V_14_1_15.out.cells (i := 3) (it := snds (some ⟨g2, 0, none⟩) 9 9 nine) rfl (A := some ⟨g2, 0, none⟩) (c := 9) rfl).sat HX.out).2⟩, fun _ h => by simp at h⟩⟩⟩⟩⟩) (fun hHeld => ?_)
        clear hK K
        try simp only [Act.put, sA, sZ, sS]
        refine tk 16 ?_ rfl ?_ ?_; rotate_left; focus (intro w hSw; clear hSw; go_simp; try (with_reducible rfl))
        try simp only [Act.put, sA, sZ, sS]
        refine wpAnyH_ready (rs := [17]) (by kernel_rfl) (by simp) ?_
        refine AllReadyH.cons (List.getElem?_toArray.trans rfl) (fun K hK => ?_) AllReadyH.nil
        obtain ⟨⟨s0, s1, s2⟩, s3, s4⟩ := V_14_1_15.out.cbox_st (i := 1) rfl
        have XS := Lib.hid (Hp.box_set (T := 25) (g := g3) (cs := [.slice A k c, .slice none 0 0]) V_14_1_15.out (i := 1) rfl 0 (.slice (some ⟨g_14_1_15, 0, none⟩) (k + 1) cap_14_1_15))
        go_simp
        clear s0 s1 s2 s3 s4
        refine hK.out _ _ (List.forall_mem_cons.2 ⟨⟨(XS.out.box_at (T := 48) (g := g0) (cs := [.slice (some ⟨bD, oD, none⟩) nd cd, .int .u32 q]) (i := 5) rfl (j := 0) rfl).1, (XS.out.box_at (T := 48) (g := g0) (cs := [.slice (some ⟨bD, oD, none⟩) nd cd, .int .u32 q]) (i := 5) rfl (j := 0) rfl).2.2⟩, List.forall_mem_cons.2 ⟨⟨((HDC.out.below XS.out.below).oat HZ.out).1, ((HDC.out.below XS.out.below).oat HZ.out).2⟩, List.forall_mem_cons.2 ⟨⟨(by have h := ((XS.out.cells (i := 3) (it := snds (some ⟨g2, 0, none⟩) 9 9 nine) rfl (A := some ⟨g2, 0, none⟩) (c := 9) rfl).sat HX.out).1; rw [Nat.zero_add] at h; exact h.1), ((XS.out.cells (i := 3) (it := snds (some ⟨g2, 0, none⟩) 9 9 nine) rfl (A := some ⟨g2, 0, none⟩) (c := 9) rfl).sat HX.out).2⟩, List.forall_mem_cons.2 ⟨⟨(by have h := ((XS.out.cells (i := 3) (it := snds (some ⟨g2, 0, none⟩) 9 9 nine) rfl (A := some ⟨g2, 0, none⟩) (c := 9) rfl).sat HX.out).1; rw [Nat.zero_add] at h; exact h.2.1), ((XS.out.cells (i := 3) (it := snds (some ⟨g2, 0, none⟩) 9 9 nine) rfl (A := some ⟨g2, 0, none⟩) (c := 9) rfl).sat HX.out).2⟩, List.forall_mem_cons.2 ⟨⟨(by have h := ((XS.out.cells (i := 3) (it := snds (some ⟨g2, 0, none⟩) 9 9 nine) rfl (A := some ⟨g2, 0, none⟩) (c := 9) rfl).sat HX.out).1; rw [Nat.zero_add] at h; exact h.2.2), ((XS.out.cells (i := 3) (it := snds (some ⟨g2, 0, none⟩) 9 9 nine) rfl (A := some ⟨g2, 0, none⟩) (c := 9) rfl).sat HX.out).2⟩, fun _ h => by simp at h⟩⟩⟩⟩⟩) (fun hHeld => ?_)
        clear hK K
        try simp only [Act.put, sA, sZ, sS]
        refine wpAnyH_done (by kernel_rfl) ?_ _
        have VE := Lib.hid (XS.out.pick [1, 2, 3, 4, 5] (by decide) rfl : Hp w [cbox g3 (some ⟨g_14_1_15, 0, none⟩) (k + 1) cap_14_1_15 none 0 0, snds (some ⟨g_14_1_15, 0, none⟩) (k + 1) cap_14_1_15 (L ++ [x]), snds (some ⟨g2, 0, none⟩) 9 9 nine, cbox g1 none 0 0 none 0 0, box 48 g0 [.slice (some ⟨bD, oD, none⟩) nd cd, .int .u32 q]] _)
        have HL2 := Lib.hid (show ∀ y ∈ L ++ [x], y ∈ nine from fun y hy => by
          rcases List.mem_append.1 hy with hy | hy
          · exact HL.out y hy
          · rw [List.mem_singleton.1 hy]; exact List.mem_of_getElem? HX.out)
        clear hHeld
        go_wp2_with fail
        go_roundw
        case rel => exact ⟨k + 1, _, _, _, by omega, by omega, by go_num, HL2.out, VE.out⟩
        case measure => simp [intOf]; omega
      exact AllReadyH.nil
    · rw [decide_eq_false hlt2]
      have HK6 := Lib.hid hk6
      clear hlt2 hk hk6
      go_wp2_with fail
      have HLN := Lib.hid (V.out.snd_len (i := 1) rfl)
      go_loopw [6] (fun i wr => ∃ (j m d : Nat) (B : Option Addr) (M : List Int), j ≤ k + 1 ∧ m ≤ j + 4 ∧ i = .int .i64 j ∧ M.Pairwise (· ≤ ·) ∧ (∀ a ∈ M, 0 ≤ a ∧ a < (j : Int)) ∧ Hp w [cbox g3 A k c B m d, nums B m d M, snds A k c L, snds (some ⟨g2, 0, none⟩) 9 9 nine, cbox g1 none 0 0 none 0 0, box 48 g0 [.slice AD nd cd, .int .u32 q]] wr) (fun i _ => k + 1 - (intOf i).toNat)
      case atStart => exact ⟨0, 0, 0, none, [], Nat.zero_le _, by omega, rfl, List.Pairwise.nil, fun a ha => (by cases ha), (V.out.nil_row (nums none 0 0 []) rfl rfl rfl).pick [1, 0, 2, 3, 4, 5] (by decide) rfl⟩
      case round =>
        clear V b0 b1 bg y0 y1 yg
        obtain ⟨j, m, d, B, M, hj, hm, rfl, hasc, hbd, hV⟩ := hrel
        have V := Lib.hid hV
        have HA := Lib.hid hasc
        have HBD := Lib.hid hbd
        have hk6 := HK6.out
        clear hV hasc hbd
        obtain ⟨⟨b0, b2, bg⟩, b1, b3⟩ := V.out.cbox_st (i := 0) rfl
        have y0 := (V.out.box_at (T := 48) (g := g0) (cs := [.slice AD nd cd, .int .u32 q]) (i := 5) rfl (j := 0) rfl).1
        have y1 := (V.out.box_at (T := 48) (g := g0) (cs := [.slice AD nd cd, .int .u32 q]) (i := 5) rfl (j := 1) rfl).1
        by_cases hlt : j ≤ k
        · go_upto_region 11 with fail
          obtain ⟨E, hE⟩ : ∃ E, wrap64 (bits BinOp.and IntKind.u32 (q / 2 ^ (2 * j)) 3) = E := ⟨_, rfl⟩
          rw [hE]
          clear hE
          have F1 := Lib.hid (asc_snoc HA.out (k := (j : Int)) (fun a ha => by have := HBD.out a ha; omega) (by omega))
          have F2 := Lib.hid (asc_snoc F1.out.1 (k := (j : Int)) F1.out.2 (by omega))
          by_cases h1 : E = 1
          · have e1 : (E == 1) = true := beq_yes h1
            have e3 : (E == 3) = false := beq_no (by omega)
            clear h1
            obtain ⟨wya, hwy⟩ : ∃ z, z = wr.alloc (.cells #[.int .i64 (j : Int)] 3) := ⟨_, rfl⟩
            have V5a := Lib.hid (show Hp w (box 3 wr.heap.size [.int .i64 (j : Int)] :: [cbox g3 A k c B m d, nums B m d M, snds A k c L, snds (some ⟨g2, 0, none⟩) 9 9 nine, cbox g1 none 0 0 none 0 0, box 48 g0 [.slice AD nd cd, .int .u32 q]]) wya by rw [hwy]; exact V.out.box_new _ _)
            obtain ⟨g5a, cap5a, w5a, hr5, hv5, _⟩ := run_app_num V5a.out (i := 2) rfl 23 (j : Int) (V5a.out.box_at (i := 0) (j := 0) rfl rfl).1 (by omega)
            have V6a := Lib.hid (show Hp w [cbox g3 A k c B m d, nums (some ⟨g5a, 0, none⟩) (m + 1) cap5a (M ++ [(j : Int)]), snds A k c L, snds (some ⟨g2, 0, none⟩) 9 9 nine, cbox g1 none 0 0 none 0 0, box 48 g0 [.slice AD nd cd, .int .u32 q]] w5a from hv5.tail)
            have HYa := Lib.hid hwy
            have HR5a := Lib.hid hr5
            clear hwy hv5 hr5
            obtain ⟨⟨s0, s1, s2⟩, s3, s4⟩ := V6a.out.cbox_st (i := 0) rfl
            have V7a := Lib.hid (show Hp w [cbox g3 A k c (some ⟨g5a, 0, none⟩) (m + 1) cap5a, nums (some ⟨g5a, 0, none⟩) (m + 1) cap5a (M ++ [(j : Int)]), snds A k c L, snds (some ⟨g2, 0, none⟩) 9 9 nine, cbox g1 none 0 0 none 0 0, box 48 g0 [.slice AD nd cd, .int .u32 q]] _ from Hp.box_set (T := 25) (g := g3) (cs := [.slice A k c, .slice B m d]) V6a.out (i := 0) rfl 1 (.slice (some ⟨g5a, 0, none⟩) (m + 1) cap5a))
            go_wp2_with (at_builtin; rw [← HYa.out]; refine wpList_app_run rfl (.tmp 67) (.tmp 69) 23 rfl HR5a.out rfl rfl ?_)
            go_roundw
            case rel => exact ⟨j + 1, m + 1, _, _, _, by omega, by omega, by go_num, F1.out.1, fun a ha => by have := F1.out.2 a ha; omega, V7a.out⟩
            case measure => simp [intOf]; omega
          · have e1 : (E == 1) = false := beq_no h1
            by_cases h3 : E = 3
            · have e3 : (E == 3) = true := beq_yes h3
              clear h1 h3
              obtain ⟨wya, hwy⟩ : ∃ z, z = wr.alloc (.cells #[.int .i64 (j : Int)] 3) := ⟨_, rfl⟩
              have V5a := Lib.hid (show Hp w (box 3 wr.heap.size [.int .i64 (j : Int)] :: [cbox g3 A k c B m d, nums B m d M, snds A k c L, snds (some ⟨g2, 0, none⟩) 9 9 nine, cbox g1 none 0 0 none 0 0, box 48 g0 [.slice AD nd cd, .int .u32 q]]) wya by rw [hwy]; exact V.out.box_new _ _)
              obtain ⟨g5a, cap5a, w5a, hr5, hv5, _⟩ := run_app_num V5a.out (i := 2) rfl 23 (j : Int) (V5a.out.box_at (i := 0) (j := 0) rfl rfl).1 (by omega)
              have V6a := Lib.hid (show Hp w [cbox g3 A k c B m d, nums (some ⟨g5a, 0, none⟩) (m + 1) cap5a (M ++ [(j : Int)]), snds A k c L, snds (some ⟨g2, 0, none⟩) 9 9 nine, cbox g1 none 0 0 none 0 0, box 48 g0 [.slice AD nd cd, .int .u32 q]] w5a from hv5.tail)
              have HYa := Lib.hid hwy
              have HR5a := Lib.hid hr5
              clear hwy hv5 hr5
              obtain ⟨⟨s0, s1, s2⟩, s3, s4⟩ := V6a.out.cbox_st (i := 0) rfl
              have V7a := Lib.hid (show Hp w [cbox g3 A k c (some ⟨g5a, 0, none⟩) (m + 1) cap5a, nums (some ⟨g5a, 0, none⟩) (m + 1) cap5a (M ++ [(j : Int)]), snds A k c L, snds (some ⟨g2, 0, none⟩) 9 9 nine, cbox g1 none 0 0 none 0 0, box 48 g0 [.slice AD nd cd, .int .u32 q]] _ from Hp.box_set (T := 25) (g := g3) (cs := [.slice A k c, .slice B m d]) V6a.out (i := 0) rfl 1 (.slice (some ⟨g5a, 0, none⟩) (m + 1) cap5a))
              obtain ⟨t0, t1, tg⟩ := V7a.out.cbox_at (i := 0) rfl
              by_cases h5 : m + 1 < 5
              · go_upto_region 13 with (at_builtin; rw [← HYa.out]; refine wpList_app_run rfl (.tmp 67) (.tmp 69) 23 rfl HR5a.out rfl rfl ?_)
                obtain ⟨wz, hwz⟩ : ∃ z, z = w5a.setCell ⟨g3, 1, none⟩ (.slice (some ⟨g5a, 0, none⟩) (m + 1) cap5a) := ⟨_, rfl⟩
                rw [← hwz] at t0 t1 tg ⊢
                have V8 := Lib.hid (show Hp w _ wz from by rw [hwz]; exact V7a.out)
                clear s0 s1 s2 s3 s4 hwz
                obtain ⟨wyb, hwy⟩ : ∃ z, z = wz.alloc (.cells #[.int .i64 (j : Int)] 3) := ⟨_, rfl⟩
                have V5b := Lib.hid (show Hp w (box 3 wz.heap.size [.int .i64 (j : Int)] :: [cbox g3 A k c (some ⟨g5a, 0, none⟩) (m + 1) cap5a, nums (some ⟨g5a, 0, none⟩) (m + 1) cap5a (M ++ [(j : Int)]), snds A k c L, snds (some ⟨g2, 0, none⟩) 9 9 nine, cbox g1 none 0 0 none 0 0, box 48 g0 [.slice AD nd cd, .int .u32 q]]) wyb by rw [hwy]; exact V8.out.box_new _ _)
                obtain ⟨g5b, cap5b, w5b, hr5, hv5, _⟩ := run_app_num V5b.out (i := 2) rfl 23 (j : Int) (V5b.out.box_at (i := 0) (j := 0) rfl rfl).1 (by omega)
                have V6b := Lib.hid (show Hp w [cbox g3 A k c (some ⟨g5a, 0, none⟩) (m + 1) cap5a, nums (some ⟨g5b, 0, none⟩) ((m + 1) + 1) cap5b ((M ++ [(j : Int)]) ++ [(j : Int)]), snds A k c L, snds (some ⟨g2, 0, none⟩) 9 9 nine, cbox g1 none 0 0 none 0 0, box 48 g0 [.slice AD nd cd, .int .u32 q]] w5b from hv5.tail)
                have HYb := Lib.hid hwy
                have HR5b := Lib.hid hr5
                clear hwy hv5 hr5
                obtain ⟨⟨s0, s1, s2⟩, s3, s4⟩ := V6b.out.cbox_st (i := 0) rfl
                have V7b := Lib.hid (show Hp w [cbox g3 A k c (some ⟨g5b, 0, none⟩) ((m + 1) + 1) cap5b, nums (some ⟨g5b, 0, none⟩) ((m + 1) + 1) cap5b ((M ++ [(j : Int)]) ++ [(j : Int)]), snds A k c L, snds (some ⟨g2, 0, none⟩) 9 9 nine, cbox g1 none 0 0 none 0 0, box 48 g0 [.slice AD nd cd, .int .u32 q]] _ from Hp.box_set (T := 25) (g := g3) (cs := [.slice A k c, .slice (some ⟨g5a, 0, none⟩) (m + 1) cap5a]) V6b.out (i := 0) rfl 1 (.slice (some ⟨g5b, 0, none⟩) ((m + 1) + 1) cap5b))
                go_wp2_with (at_builtin; rw [← HYb.out]; refine wpList_app_run rfl (.tmp 81) (.tmp 83) 23 rfl HR5b.out rfl rfl ?_)
                go_roundw
                case rel => exact ⟨j + 1, m + 1 + 1, _, _, _, by omega, by omega, by go_num, F2.out.1, fun a ha => by have := F2.out.2 a ha; omega, V7b.out⟩
                case measure => simp [intOf]; omega
              · go_wp2_with (at_builtin; rw [← HYa.out]; refine wpList_app_run rfl (.tmp 67) (.tmp 69) 23 rfl HR5a.out rfl rfl ?_)
                go_roundw
                case rel => exact ⟨j + 1, m + 1, _, _, _, by omega, by omega, by go_num, F1.out.1, fun a ha => by have := F1.out.2 a ha; omega, V7a.out⟩
                case measure => simp [intOf]; omega
            · have e3 : (E == 3) = false := beq_no h3
              clear h1 h3
              go_wp2_with fail
              go_roundw
              case rel => exact ⟨j + 1, m, _, _, _, by omega, by omega, by go_num, HA.out, fun a ha => by have := HBD.out a ha; omega, V.out⟩
              case measure => simp [intOf]; omega
        · obtain ⟨⟨s0, s1, s2⟩, s3, s4⟩ := V.out.cbox_st (i := 4) rfl
          have VE := Lib.hid (V.out.cbox_set (i := 4) rfl A k c B m d)
          obtain ⟨u0, u1, ug⟩ := VE.out.cbox_at (i := 4) rfl
          have hML := V.out.num_len (i := 1) rfl
          have HML := Lib.hid hML
          have CSS := Lib.hid (VE.out.cells (i := 2) (it := snds A k c L) rfl (A := A) (c := c) rfl)
          have CSM := Lib.hid (VE.out.cells (i := 1) (it := nums B m d M) rfl (A := B) (c := d) rfl)
          have hcap1 := (VE.out.cap (i := 2) (it := snds A k c L) rfl (A := A) (c := c) rfl).1
          have hcap2 := (VE.out.cap (i := 1) (it := nums B m d M) rfl (A := B) (c := d) rfl).1
          clear hML
          go_wp2_with fail
          refine bodyPost_ret (v := .agg #[.slice A k c, .slice B m d]) (by simp [results, Try.results31, go_sem, u0, u1]) rfl ?_
          exact ⟨⟨L, M⟩, A, k, c, B, m, d, rfl, ⟨⟨by show L.length ≤ 12; rw [HLN.out]; omega, by show M.length ≤ 12; rw [HML.out]; omega, fun x hx => nine_ok x (HL.out x hx), fun a ha => by have := HBD.out a ha; show 0 ≤ a ∧ a ≤ (L.length : Int); rw [HLN.out]; omega, HA.out⟩, by show L.length ≤ 6; rw [HLN.out]; exact hk6⟩, ⟨HLN.out, HML.out, by omega, by omega, fun x hx => by have := vS_zero (nine_ok x (HL.out x hx)).1; omega, CSS.out, CSM.out⟩, hcap1, hcap2, VE.out.below⟩
end Go.Proofs.Ythcdbhancfpldaa
