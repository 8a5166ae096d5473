/- Contract of the program: how many arcs lead to each node. -/
import Derived.Test.YtgdfjblfpeedjaaDEk
import Derived.Test.YtgdfjblfpeedjaaDCX
namespace Go.Proofs.Ytgdfjblfpeedjaa
open Go.RowKit
set_option linter.unusedVariables false
set_option linter.unusedSimpArgs false
set_option maxRecDepth 100000

/-- One more arc leads to a node. -/
def openS (L : List Int) (a : Ar) : List Int := L.set a.t.toNat (L.getD a.t.toNat 0 + 1)
/-- How many arcs lead to each node. -/
def Gr.opK (g : Gr) (N k : Nat) : List Int := (g.rs.take k).foldl openS (List.replicate N 0)
theorem openS_len (rs : List Ar) : ∀ L : List Int, (rs.foldl openS L).length = L.length := by
  induction rs with
  | nil => intro L; rfl
  | cons a r ih => intro L; rw [List.foldl_cons, ih]; unfold openS; rw [List.length_set]
theorem openS_get (rs : List Ar) : ∀ (L : List Int) (b : Int), (∀ x ∈ L, 0 ≤ x ∧ x ≤ b) → 0 ≤ b → ∀ x ∈ rs.foldl openS L, 0 ≤ x ∧ x ≤ b + rs.length := by
  induction rs with
  | nil => intro L b h hb x hx; have := h x hx; simp; omega
  | cons a r ih =>
    intro L b h hb x hx
    have h1 := ih (openS L a) (b + 1) (fun y hy => by
      unfold openS at hy
      rcases List.mem_or_eq_of_mem_set hy with h2 | h2
      · have := h y h2; omega
      · have h3 := getD_of (L := L) (j := a.t.toNat) (P := fun x => 0 ≤ x ∧ x ≤ b) ⟨Int.le_refl _, hb⟩ h
        omega) (by omega) x hx
    rw [List.length_cons]
    omega
theorem opK_len (g : Gr) (N k : Nat) : (g.opK N k).length = N := by unfold Gr.opK; rw [openS_len, List.length_replicate]
theorem opK_get (g : Gr) (N k j : Nat) : 0 ≤ (g.opK N k).getD j 0 ∧ (g.opK N k).getD j 0 ≤ (k : Int) :=
  getD_of (L := g.opK N k) (P := fun x => 0 ≤ x ∧ x ≤ (k : Int)) (by omega) fun x hx => by
    have := openS_get (g.rs.take k) (List.replicate N 0) 0 (fun y hy => by rw [List.eq_of_mem_replicate hy]; omega) (Int.le_refl _) x hx
    rw [List.length_take] at this
    omega
theorem opK_step {g : Gr} {N k : Nat} {a : Ar} (h : g.rs[k]? = some a) : g.opK N (k + 1) = (g.opK N k).set a.t.toNat ((g.opK N k).getD a.t.toNat 0 + 1) := by
  unfold Gr.opK
  rw [List.take_add_one, h, List.foldl_append]; rfl
set_option maxHeartbeats 16000000 in
theorem arcsTo_any (g : Gr) (A : Option Addr) (n c N : Nat) (w : World) (h : GrIn w A n c g) (hO : g.Ok) (hN : g.n = (N : Int)) :
    Calls Try.prog 22 #[gval g A n c] w fun e w' => ∃ gr : Nat, e = .returned (.slice (some ⟨gr, 0, none⟩) N N) ∧ Hp w [nums (some ⟨gr, 0, none⟩) N N (g.opK N n)] w' := by
  have H := Lib.hid h
  have hcs := h.small
  have hcn := h.cap
  have n1 := hO.n1
  have n2 := hO.n2
  have hnl : n ≤ 6000 := by have := hO.len; have := h.len; omega
  have HO := Lib.hid hO
  have HGN := Lib.hid hN
  have hN1 : 1 ≤ N := by omega
  have hN2 : N ≤ 2000 := by omega
  have hgv : gval g A n c = .agg #[.int .i64 (N : Int), .slice A n c] := by unfold gval; rw [hN]
  rw [hgv]
  clear h hO hN hgv n1 n2
  obtain ⟨gb, hgb⟩ : ∃ gb, gb = w.heap.size := ⟨_, rfl⟩
  obtain ⟨wz, hwz⟩ : ∃ z, z = w.alloc (.cells #[.int .i64 (N : Int), .slice A n c] 26) := ⟨_, rfl⟩
  have HZ := Lib.hid hwz
  have V := Lib.hid (show Hp w [box 26 gb [.int .i64 (N : Int), .slice A n c]] wz by rw [hwz, hgb]; exact (Hp.start w).box_new 26 [.int .i64 (N : Int), .slice A n c])
  clear hwz
  obtain ⟨wy, hwy⟩ : ∃ z, z = wz.alloc (.cells (Array.replicate N (.int .i64 0)) 3) := ⟨_, rfl⟩
  have HY := Lib.hid hwy
  obtain ⟨gr, hgr⟩ : ∃ gr, gr = wz.heap.size := ⟨_, rfl⟩
  have V2 := Lib.hid (show Hp w [nums (some ⟨gr, 0, none⟩) N N (g.opK N 0), box 26 gb [.int .i64 (N : Int), .slice A n c]] wy by rw [hwy, hgr]; exact V.out.made_numsA N (by omega))
  clear hwy
  have hmk := fun w => make_nums (N : Int) N rfl (by omega) w
  obtain ⟨r0, _, r9⟩ := V.out.box_at (i := 0) (j := 0) rfl rfl
  go_enter Try.func22, Try.ntmps22
  go_upto_region 1 with fail
  rw [← HZ.out, ← hgb]
  clear HZ hgb
  go_upto_region 2 with fail
  rw [← HY.out, ← hgr]
  clear HY hgr hmk r0 r9 V
  obtain ⟨r1, _, r9⟩ := V2.out.box_at (i := 1) (j := 1) rfl rfl
  go_wp2_with fail
  clear r1 r9
  go_loopw [12] (fun cv wr => ∃ k : Nat, cv = .int .i64 (k : Int) ∧ k ≤ n ∧ Hp w [nums (some ⟨gr, 0, none⟩) N N (g.opK N k), box 26 gb [.int .i64 (N : Int), .slice A n c]] wr) (fun cv _ => n - (intOf cv).toNat)
  case atStart => exact ⟨0, rfl, Nat.zero_le _, V2.out⟩
  case round =>
    clear V2
    obtain ⟨k, rfl, hkn, hV⟩ := hrel
    obtain ⟨wi, rfl⟩ : ∃ wi : World, wi = wr := ⟨_, rfl⟩
    have V := Lib.hid hV
    clear hV
    by_cases hlt : k < n
    case neg =>
      obtain rfl : k = n := by omega
      go_wp2_with fail
      go_ret
      exact ⟨gr, rfl, V.out.pick [0] (by decide) rfl⟩
    obtain ⟨⟨af, at', ac⟩, b, off, ha, hae, hA, hbw, c0', c1', c2'⟩ := H.out.at hlt
    have har := HO.out.arc _ (List.mem_of_getElem? ha)
    dsimp only at har c0' c1' c2'
    have c0 := (V.out.below.cell (p := ⟨b, off + k * 3, none⟩) hbw).trans c0'
    have c1 := (V.out.below.cell (p := ⟨b, off + k * 3 + 1, none⟩) hbw).trans c1'
    have c2 := (V.out.below.cell (p := ⟨b, off + k * 3 + 2, none⟩) hbw).trans c2'
    have hb := Nat.lt_of_lt_of_le hbw V.out.below.size
    clear c0' c1' c2'
    obtain ⟨T, rfl⟩ := Int.eq_ofNat_of_zero_le (show 0 ≤ at' by omega)
    have hTN : T < N := by have := HGN.out; omega
    obtain ⟨y, hy⟩ : ∃ y, y = (g.opK N k).getD T 0 := ⟨_, rfl⟩
    have hyb := opK_get g N k T
    rw [← hy] at hyb
    have HST := Lib.hid (show (g.opK N k).set T (y + 1) = g.opK N (k + 1) by rw [hy]; exact (opK_step ha).symm)
    obtain ⟨ba, hba⟩ : ∃ ba, ba = wi.heap.size := ⟨_, rfl⟩
    obtain ⟨W1, hW1⟩ : ∃ z, z = wi.alloc (.cells #[.int .i64 af, .int .i64 (T : Int), .int .i64 ac] 40) := ⟨_, rfl⟩
    have V1 := Lib.hid (show Hp w [abox ba ⟨af, T, ac⟩, nums (some ⟨gr, 0, none⟩) N N (g.opK N k), box 26 gb [.int .i64 (N : Int), .slice A n c]] W1 by
      rw [hW1, hba]; exact V.out.anew ⟨af, T, ac⟩)
    have HBA := Lib.hid hba
    have HW1 := Lib.hid hW1
    subst hA
    have hk3 : k * 3 ≤ 20000 := by omega
    have g2 : IntKind.i64.wrap (y + 1) = y + 1 := IntWalk.i64_in _ (by omega)
    have HYY := Lib.hid hy
    clear hba hW1 ha hae har hy
    go_upto_region 5 with fail
    rw [← HW1.out, ← HBA.out]
    clear HW1 HBA c0 c1 c2 hb V
    obtain ⟨s0, s1, s2, s9⟩ := V1.out.ab (i := 0) rfl
    dsimp only at s0 s1 s2
    obtain ⟨x1, x2, x3⟩ := V1.out.num_at (i := 1) rfl (j := T) (by rw [opK_len]; exact hTN)
    rw [← HYY.out] at x1
    have V3 := Lib.hid (V1.out.num_set (i := 1) rfl T (y + 1)).tail
    rw [HST.out] at V3
    go_wp2_with fail
    go_roundw
    case rel => exact ⟨k + 1, by go_num, by omega, V3.out⟩
    case measure => simp [intOf]; omega

end Go.Proofs.Ytgdfjblfpeedjaa
