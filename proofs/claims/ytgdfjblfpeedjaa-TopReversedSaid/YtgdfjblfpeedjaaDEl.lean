/- Contract of the program: the way that the potentials show. -/
import Derived.Test.YtgdfjblfpeedjaaDEk
import Derived.Test.YtgdfjblfpeedjaaDCX
namespace Go.Proofs.Ytgdfjblfpeedjaa
open Go.RowKit
set_option linter.unusedVariables false
set_option linter.unusedSimpArgs false
set_option maxRecDepth 100000

/-- One arc of the way that the potentials show. -/
def followS (g : Gr) (P : List Int) (s : List Int × Int) (i : Int) : List Int × Int :=
  if (arc g.rs i).f = s.2 ∧ 0 ≤ P.getD (arc g.rs i).t.toNat 0 ∧ (arc g.rs i).c + P.getD (arc g.rs i).t.toNat 0 = P.getD s.2.toNat 0 then (s.1 ++ [i], (arc g.rs i).t) else s
/-- The way that the potentials show. -/
def followL (g : Gr) (P Z : List Int) : List Int := (Z.foldl (followS g P) ([], 0)).1
set_option maxHeartbeats 32000000 in
theorem follow_any (g : Gr) (A : Option Addr) (n c gd gp N : Nat) (Z P : List Int) (w : World) (h : GrIn w A n c g) (hO : g.Ok) (hZ : Z.length = n) (hZ2 : ∀ x ∈ Z, 0 ≤ x ∧ x < (n : Int)) (hZ3 : CellsIn w (some ⟨gd, 0, none⟩) (ints Z))
    (hN : g.n = (N : Int)) (hP : COk N 6000 P) (hPC : CellsIn w (some ⟨gp, 0, none⟩) (ints P)) :
    Calls Try.prog 17 #[gval g A n c, .slice (some ⟨gd, 0, none⟩) n n, .slice (some ⟨gp, 0, none⟩) N N] w (NumsP w (followL g P Z)) := by
  have H := Lib.hid h
  have hcs := h.small
  have hcn := h.cap
  have n1 := hO.n1
  have n2 := hO.n2
  have hnl : n ≤ 6000 := by have := hO.len; have := h.len; omega
  have HO := Lib.hid hO
  have HL := Lib.hid h.len
  have HZL := Lib.hid hZ
  have HZM := Lib.hid hZ2
  have HZC := Lib.hid hZ3
  have HPO := Lib.hid hP
  have HPC := Lib.hid hPC
  have HGN := Lib.hid hN
  have hN1 : 1 ≤ N := by omega
  have hN2 : N ≤ 2000 := by omega
  have hgv : gval g A n c = .agg #[.int .i64 (N : Int), .slice A n c] := by unfold gval; rw [hN]
  rw [hgv]
  obtain ⟨gb, hgb⟩ : ∃ gb, gb = w.heap.size := ⟨_, rfl⟩
  obtain ⟨wz, hwz⟩ : ∃ z, z = w.alloc (.cells #[.int .i64 (N : Int), .slice A n c] 26) := ⟨_, rfl⟩
  have HZ := Lib.hid hwz
  have V := Lib.hid (show Hp w [nums none 0 0 [], box 26 gb [.int .i64 (N : Int), .slice A n c]] wz by
    have h1 := (Hp.start w).box_new 26 [.int .i64 (N : Int), .slice A n c]
    rw [hwz, hgb]; exact h1.nil_row _ rfl rfl rfl)
  clear h hO hZ hZ2 hZ3 hP hPC hN hgv hwz n1 n2
  have HF0 := Lib.hid (show (Z.take 0).foldl (followS g P) ([], 0) = (([] : List Int), ((0 : Nat) : Int)) from rfl)
  go_enter Try.func17, Try.ntmps17
  go_upto_region 3 with fail
  rw [← HZ.out, ← hgb]
  clear HZ hgb
  go_wp2_with fail
  go_loopw [14, 7, 8] (fun cv sv av wr => ∃ (k : Nat) (B : Option Addr) (m d q : Nat) (L : List Int), cv = .int .i64 (k : Int) ∧ sv = .slice B m d ∧ av = .int .i64 (q : Int) ∧ k ≤ n ∧ q < N ∧ m ≤ k ∧ L.length = m ∧ (Z.take k).foldl (followS g P) ([], 0) = (L, (q : Int)) ∧ Hp w [nums B m d L, box 26 gb [.int .i64 (N : Int), .slice A n c]] wr) (fun cv _ _ _ => n - (intOf cv).toNat)
  case atStart => exact ⟨0, none, 0, 0, 0, [], rfl, rfl, rfl, Nat.zero_le _, by omega, Nat.le_refl _, rfl, HF0.out, V.out⟩
  case round =>
    clear HF0 V
    obtain ⟨k, B, m, d, q, L, rfl, rfl, rfl, hkn, hqN, hmk, hm, hst, hV⟩ := hrel
    obtain ⟨wi, rfl⟩ : ∃ wi : World, wi = wr := ⟨_, rfl⟩
    have V := Lib.hid hV
    have HM := Lib.hid hm
    have HS := Lib.hid hst
    clear hV hm hst
    by_cases hlt : k < n
    case neg =>
      obtain rfl : k = n := by omega
      go_wp2_with fail
      go_ret
      have h2 := HS.out
      rw [List.take_of_length_le (by rw [HZL.out]; exact Nat.le_refl _)] at h2
      have h3 : followL g P Z = L := by unfold followL; rw [h2]
      rw [h3]
      exact ⟨B, m, d, rfl, HM.out, V.out.pick [0] (by decide) rfl⟩
    obtain ⟨i, hi⟩ : ∃ i, i = Z.getD k 0 := ⟨_, rfl⟩
    have hZk : Z[k]? = some i := by rw [hi, List.getD_eq_getElem?_getD, List.getElem?_eq_getElem (by rw [HZL.out]; exact hlt)]; rfl
    obtain ⟨b0, o0, e0, hdl, hdc⟩ := (HZC.out.below V.out.below).int (j := k) (by rw [HZL.out]; exact hlt)
    injection e0 with e0
    injection e0 with e0 e1
    subst e0; subst e1
    rw [← hi, Nat.zero_add] at hdc
    obtain ⟨hi0, hi1⟩ := HZM.out i (List.mem_of_getElem? hZk)
    have HSN := Lib.hid (show (Z.take (k + 1)).foldl (followS g P) ([], 0) = followS g P (L, (q : Int)) i by
      rw [List.take_add_one, hZk, List.foldl_append, HS.out]; rfl)
    obtain ⟨I, rfl⟩ := Int.eq_ofNat_of_zero_le hi0
    have hIn : I < n := by omega
    obtain ⟨⟨af, at', ac⟩, b, off, ha, hae, hA, hbw, c0', c1', c2'⟩ := H.out.at hIn
    have har := HO.out.arc _ (List.mem_of_getElem? ha)
    dsimp only at har c0' c1' c2'
    have c0 := (V.out.below.cell (p := ⟨b, off + I * 3, none⟩) hbw).trans c0'
    have c1 := (V.out.below.cell (p := ⟨b, off + I * 3 + 1, none⟩) hbw).trans c1'
    have c2 := (V.out.below.cell (p := ⟨b, off + I * 3 + 2, none⟩) hbw).trans c2'
    have hb := Nat.lt_of_lt_of_le hbw V.out.below.size
    clear c0' c1' c2'
    obtain ⟨F, rfl⟩ := Int.eq_ofNat_of_zero_le (show 0 ≤ af by omega)
    obtain ⟨T, rfl⟩ := Int.eq_ofNat_of_zero_le (show 0 ≤ at' by omega)
    have hTN : T < N := by have := HGN.out; omega
    have hac : 0 ≤ ac ∧ ac ≤ 1000000 := by omega
    obtain ⟨x, hx1⟩ : ∃ x, x = P.getD q 0 := ⟨_, rfl⟩
    obtain ⟨y, hy1⟩ : ∃ y, y = P.getD T 0 := ⟨_, rfl⟩
    have hxb := HPO.out.get q
    have hyb := HPO.out.get T
    rw [← hx1] at hxb
    rw [← hy1] at hyb
    have HST := Lib.hid (show followS g P (L, (q : Int)) (I : Int) = if (F : Int) = (q : Int) ∧ 0 ≤ y ∧ ac + y = x then (L ++ [(I : Int)], (T : Int)) else (L, (q : Int)) by
      rw [hx1, hy1]; unfold followS; rw [← hae]; rfl)
    obtain ⟨r2, _, r8⟩ := V.out.box_at (i := 1) (j := 1) rfl rfl
    obtain ⟨ba, hba⟩ : ∃ ba, ba = wi.heap.size := ⟨_, rfl⟩
    obtain ⟨W1, hW1⟩ : ∃ z, z = wi.alloc (.cells #[.int .i64 (F : Int), .int .i64 (T : Int), .int .i64 ac] 40) := ⟨_, rfl⟩
    have V1 := Lib.hid (show Hp w [abox ba ⟨F, T, ac⟩, nums B m d L, box 26 gb [.int .i64 (N : Int), .slice A n c]] W1 by
      rw [hW1, hba]; exact V.out.anew ⟨F, T, ac⟩)
    have HBA := Lib.hid hba
    have HW1 := Lib.hid hW1
    subst hA
    have hI3 : I * 3 ≤ 20000 := by omega
    have g2 : IntKind.i64.wrap (ac + y) = ac + y := IntWalk.i64_in _ (by omega)
    have HY1 := Lib.hid hy1
    have HX1 := Lib.hid hx1
    clear hba hW1 ha hae har hx1 hy1 hi0 hi1 hi hZk
    go_upto_region 7 with fail
    rw [← HW1.out, ← HBA.out]
    clear HW1 HBA c0 c1 c2 hb r2 r8 hdc hdl V
    obtain ⟨s0, s1, s2, s9⟩ := V1.out.ab (i := 0) rfl
    dsimp only at s0 s1 s2
    obtain ⟨b1, o1, e1, hp1, hpT⟩ := (HPC.out.below V1.out.below).int (j := T) (by rw [HPO.out.1]; exact hTN)
    injection e1 with e1
    injection e1 with e1 e2
    subst e1; subst e2
    obtain ⟨b1, o1, e1, _, hpQ⟩ := (HPC.out.below V1.out.below).int (j := q) (by rw [HPO.out.1]; exact hqN)
    injection e1 with e1
    injection e1 with e1 e2
    subst e1; subst e2
    rw [Nat.zero_add, ← HY1.out] at hpT
    rw [Nat.zero_add, ← HX1.out] at hpQ

    by_cases hF : F = q
    case neg =>
      have HB : ((F : Int) == (q : Int)) = false := beq_eq_false_iff_ne.2 (by omega)

      have hKp : Keep [(⟨ba, 0, none⟩, .int .i64 (F : Int)), (⟨ba, 1, none⟩, .int .i64 (T : Int)), (⟨ba, 2, none⟩, .int .i64 ac), (⟨gp, T, none⟩, .int .i64 y), (⟨gp, q, none⟩, .int .i64 x)] W1 := List.forall_mem_cons.2 ⟨⟨s0, s9⟩, List.forall_mem_cons.2 ⟨⟨s1, s9⟩, List.forall_mem_cons.2 ⟨⟨s2, s9⟩, List.forall_mem_cons.2 ⟨⟨hpT, hp1⟩, List.forall_mem_cons.2 ⟨⟨hpQ, hp1⟩, fun _ h => by simp at h⟩⟩⟩⟩⟩
      refine wp_region_held_drew (S := Keep _) (by kernel_rfl) hKp.drew (fun hHeld => ?_)
      have V1d := Lib.hid (V1.out.go (bdrew _))
      refine tk 0 ?_ rfl ?_ ?_; rotate_left; focus (intro w hSw; clear hSw; go_simp; try (with_reducible rfl))
      try simp only [Act.put, sA, sZ, sS]
      refine tk 1 ?_ rfl ?_ ?_; rotate_left
      · intro wl hSw
        have hSw : Keep _ wl := hSw
        have k0 : wl.cell? ⟨ba, 0, none⟩ = some (.int .i64 (F : Int)) := (hSw _ (.head _)).1
        clear hSw
        go_simp
        try (with_reducible rfl)
      try simp only [Act.put, sA, sZ, sS]
      refine tk 2 ?_ rfl ?_ ?_; rotate_left; focus (intro w hSw; clear hSw; go_simp; try (with_reducible rfl))
      try simp only [Act.put, sA, sZ, sS]
      refine tk 3 ?_ rfl ?_ ?_; rotate_left; focus (intro w hSw; clear hSw; go_simp; try (with_reducible rfl))
      try simp only [Act.put, sA, sZ, sS]
      refine tk 4 ?_ rfl ?_ ?_; rotate_left; focus (intro w hSw; clear hSw; go_simp; try (with_reducible rfl))
      try simp only [Act.put, sA, sZ, sS]
      refine tu 5 rfl ?_
      try simp only [Act.put, sA, sZ, sS]
      refine tu 6 rfl ?_
      try simp only [Act.put, sA, sZ, sS]
      refine tu 7 rfl ?_
      try simp only [Act.put, sA, sZ, sS]
      refine tu 8 rfl ?_
      try simp only [Act.put, sA, sZ, sS]
      refine tu 9 rfl ?_
      try simp only [Act.put, sA, sZ, sS]
      refine tu 10 rfl ?_
      try simp only [Act.put, sA, sZ, sS]
      refine tk 11 ?_ rfl ?_ ?_; rotate_left; focus (intro w hSw; clear hSw; go_simp; try (with_reducible rfl))
      try simp only [Act.put, sA, sZ, sS]
      refine tk 12 ?_ rfl ?_ ?_; rotate_left; focus (intro w hSw; clear hSw; go_simp; try (with_reducible rfl))
      try simp only [Act.put, sA, sZ, sS]
      refine tu 13 rfl ?_
      try simp only [Act.put, sA, sZ, sS]
      refine tu 14 rfl ?_
      try simp only [Act.put, sA, sZ, sS]
      refine tu 15 rfl ?_
      try simp only [Act.put, sA, sZ, sS]
      refine tu 16 rfl ?_
      try simp only [Act.put, sA, sZ, sS]
      refine tu 17 rfl ?_
      try simp only [Act.put, sA, sZ, sS]
      refine tu 18 rfl ?_
      try simp only [Act.put, sA, sZ, sS]
      refine tu 19 rfl ?_
      try simp only [Act.put, sA, sZ, sS]
      refine tu 20 rfl ?_
      try simp only [Act.put, sA, sZ, sS]
      refine tu 21 rfl ?_
      try simp only [Act.put, sA, sZ, sS]
      refine tu 22 rfl ?_
      try simp only [Act.put, sA, sZ, sS]
      refine tu 23 rfl ?_
      try simp only [Act.put, sA, sZ, sS]
      refine tu 24 rfl ?_
      try simp only [Act.put, sA, sZ, sS]
      refine tu 25 rfl ?_
      try simp only [Act.put, sA, sZ, sS]
      refine tk 26 ?_ rfl ?_ ?_; rotate_left; focus (intro w hSw; clear hSw; go_simp; try (with_reducible rfl))
      try simp only [Act.put, sA, sZ, sS]
      refine wpAnyH_done (by kernel_rfl) ?_ _
      clear hKp hHeld
      have HE := Lib.hid (show (Z.take (k + 1)).foldl (followS g P) ([], 0) = (L, (q : Int)) by rw [HSN.out, HST.out, if_neg (show ¬ ((F : Int) = (q : Int) ∧ 0 ≤ y ∧ ac + y = x) by omega)])
      go_wp2_with fail
      go_roundw
      case rel => exact ⟨k + 1, B, m, d, q, L, by go_num, rfl, rfl, by omega, hqN, by omega, HM.out, HE.out, V1d.out.tail⟩
      case measure => simp [intOf]; omega

    subst hF
    by_cases hy : 0 ≤ y
    case neg =>

      have hKp : Keep [(⟨ba, 0, none⟩, .int .i64 (F : Int)), (⟨ba, 1, none⟩, .int .i64 (T : Int)), (⟨ba, 2, none⟩, .int .i64 ac), (⟨gp, T, none⟩, .int .i64 y), (⟨gp, F, none⟩, .int .i64 x)] W1 := List.forall_mem_cons.2 ⟨⟨s0, s9⟩, List.forall_mem_cons.2 ⟨⟨s1, s9⟩, List.forall_mem_cons.2 ⟨⟨s2, s9⟩, List.forall_mem_cons.2 ⟨⟨hpT, hp1⟩, List.forall_mem_cons.2 ⟨⟨hpQ, hp1⟩, fun _ h => by simp at h⟩⟩⟩⟩⟩
      refine wp_region_held_drew (S := Keep _) (by kernel_rfl) hKp.drew (fun hHeld => ?_)
      have V1d := Lib.hid (V1.out.go (bdrew _))
      refine tk 0 ?_ rfl ?_ ?_; rotate_left; focus (intro w hSw; clear hSw; go_simp; try (with_reducible rfl))
      try simp only [Act.put, sA, sZ, sS]
      refine tk 1 ?_ rfl ?_ ?_; rotate_left
      · intro wl hSw
        have hSw : Keep _ wl := hSw
        have k0 : wl.cell? ⟨ba, 0, none⟩ = some (.int .i64 (F : Int)) := (hSw _ (.head _)).1
        clear hSw
        go_simp
        try (with_reducible rfl)
      try simp only [Act.put, sA, sZ, sS]
      refine tk 2 ?_ rfl ?_ ?_; rotate_left; focus (intro w hSw; clear hSw; go_simp; try (with_reducible rfl))
      try simp only [Act.put, sA, sZ, sS]
      refine tk 3 ?_ rfl ?_ ?_; rotate_left; focus (intro w hSw; clear hSw; go_simp; try (with_reducible rfl))
      try simp only [Act.put, sA, sZ, sS]
      refine tk 4 ?_ rfl ?_ ?_; rotate_left; focus (intro w hSw; clear hSw; go_simp; try (with_reducible rfl))
      try simp only [Act.put, sA, sZ, sS]
      refine tk 5 ?_ rfl ?_ ?_; rotate_left; focus (intro w hSw; clear hSw; go_simp; try (with_reducible rfl))
      try simp only [Act.put, sA, sZ, sS]
      refine tk 6 ?_ rfl ?_ ?_; rotate_left; focus (intro w hSw; clear hSw; go_simp; try (with_reducible rfl))
      try simp only [Act.put, sA, sZ, sS]
      refine tk 7 ?_ rfl ?_ ?_; rotate_left
      · intro wl hSw
        have hSw : Keep _ wl := hSw
        have k0 : wl.cell? ⟨ba, 1, none⟩ = some (.int .i64 (T : Int)) := (hSw _ (.tail _ (.head _))).1
        clear hSw
        go_simp
        try (with_reducible rfl)
      try simp only [Act.put, sA, sZ, sS]
      refine tk 8 ?_ rfl ?_ ?_; rotate_left; focus (intro w hSw; clear hSw; go_simp; try (with_reducible rfl))
      try simp only [Act.put, sA, sZ, sS]
      refine tk 9 ?_ rfl ?_ ?_; rotate_left
      · intro wl hSw
        have hSw : Keep _ wl := hSw
        have k0 : wl.cell? ⟨gp, T, none⟩ = some (.int .i64 y) := (hSw _ (.tail _ (.tail _ (.tail _ (.head _))))).1
        clear hSw
        go_simp
        try (with_reducible rfl)
      try simp only [Act.put, sA, sZ, sS]
      refine tk 10 ?_ rfl ?_ ?_; rotate_left; focus (intro w hSw; clear hSw; go_simp; try (with_reducible rfl))
      try simp only [Act.put, sA, sZ, sS]
      refine tk 11 ?_ rfl ?_ ?_; rotate_left; focus (intro w hSw; clear hSw; go_simp; try (with_reducible rfl))
      try simp only [Act.put, sA, sZ, sS]
      refine tk 12 ?_ rfl ?_ ?_; rotate_left; focus (intro w hSw; clear hSw; go_simp; try (with_reducible rfl))
      try simp only [Act.put, sA, sZ, sS]
      refine tu 13 rfl ?_
      try simp only [Act.put, sA, sZ, sS]
      refine tu 14 rfl ?_
      try simp only [Act.put, sA, sZ, sS]
      refine tu 15 rfl ?_
      try simp only [Act.put, sA, sZ, sS]
      refine tu 16 rfl ?_
      try simp only [Act.put, sA, sZ, sS]
      refine tu 17 rfl ?_
      try simp only [Act.put, sA, sZ, sS]
      refine tu 18 rfl ?_
      try simp only [Act.put, sA, sZ, sS]
      refine tu 19 rfl ?_
      try simp only [Act.put, sA, sZ, sS]
      refine tu 20 rfl ?_
      try simp only [Act.put, sA, sZ, sS]
      refine tu 21 rfl ?_
      try simp only [Act.put, sA, sZ, sS]
      refine tu 22 rfl ?_
      try simp only [Act.put, sA, sZ, sS]
      refine tu 23 rfl ?_
      try simp only [Act.put, sA, sZ, sS]
      refine tu 24 rfl ?_
      try simp only [Act.put, sA, sZ, sS]
      refine tu 25 rfl ?_
      try simp only [Act.put, sA, sZ, sS]
      refine tk 26 ?_ rfl ?_ ?_; rotate_left; focus (intro w hSw; clear hSw; go_simp; try (with_reducible rfl))
      try simp only [Act.put, sA, sZ, sS]
      refine wpAnyH_done (by kernel_rfl) ?_ _
      clear hKp hHeld
      have HE := Lib.hid (show (Z.take (k + 1)).foldl (followS g P) ([], 0) = (L, (F : Int)) by rw [HSN.out, HST.out, if_neg (show ¬ ((F : Int) = (F : Int) ∧ 0 ≤ y ∧ ac + y = x) by omega)])
      go_wp2_with fail
      go_roundw
      case rel => exact ⟨k + 1, B, m, d, F, L, by go_num, rfl, rfl, by omega, hqN, by omega, HM.out, HE.out, V1d.out.tail⟩
      case measure => simp [intOf]; omega

    by_cases hq : ac + y = x
    case neg =>
      have HB : ((ac + y) == x) = false := beq_eq_false_iff_ne.2 hq

      have hKp : Keep [(⟨ba, 0, none⟩, .int .i64 (F : Int)), (⟨ba, 1, none⟩, .int .i64 (T : Int)), (⟨ba, 2, none⟩, .int .i64 ac), (⟨gp, T, none⟩, .int .i64 y), (⟨gp, F, none⟩, .int .i64 x)] W1 := List.forall_mem_cons.2 ⟨⟨s0, s9⟩, List.forall_mem_cons.2 ⟨⟨s1, s9⟩, List.forall_mem_cons.2 ⟨⟨s2, s9⟩, List.forall_mem_cons.2 ⟨⟨hpT, hp1⟩, List.forall_mem_cons.2 ⟨⟨hpQ, hp1⟩, fun _ h => by simp at h⟩⟩⟩⟩⟩
      refine wp_region_held_drew (S := Keep _) (by kernel_rfl) hKp.drew (fun hHeld => ?_)
      have V1d := Lib.hid (V1.out.go (bdrew _))
      refine tk 0 ?_ rfl ?_ ?_; rotate_left; focus (intro w hSw; clear hSw; go_simp; try (with_reducible rfl))
      try simp only [Act.put, sA, sZ, sS]
      refine tk 1 ?_ rfl ?_ ?_; rotate_left
      · intro wl hSw
        have hSw : Keep _ wl := hSw
        have k0 : wl.cell? ⟨ba, 0, none⟩ = some (.int .i64 (F : Int)) := (hSw _ (.head _)).1
        clear hSw
        go_simp
        try (with_reducible rfl)
      try simp only [Act.put, sA, sZ, sS]
      refine tk 2 ?_ rfl ?_ ?_; rotate_left; focus (intro w hSw; clear hSw; go_simp; try (with_reducible rfl))
      try simp only [Act.put, sA, sZ, sS]
      refine tk 3 ?_ rfl ?_ ?_; rotate_left; focus (intro w hSw; clear hSw; go_simp; try (with_reducible rfl))
      try simp only [Act.put, sA, sZ, sS]
      refine tk 4 ?_ rfl ?_ ?_; rotate_left; focus (intro w hSw; clear hSw; go_simp; try (with_reducible rfl))
      try simp only [Act.put, sA, sZ, sS]
      refine tk 5 ?_ rfl ?_ ?_; rotate_left; focus (intro w hSw; clear hSw; go_simp; try (with_reducible rfl))
      try simp only [Act.put, sA, sZ, sS]
      refine tk 6 ?_ rfl ?_ ?_; rotate_left; focus (intro w hSw; clear hSw; go_simp; try (with_reducible rfl))
      try simp only [Act.put, sA, sZ, sS]
      refine tk 7 ?_ rfl ?_ ?_; rotate_left
      · intro wl hSw
        have hSw : Keep _ wl := hSw
        have k0 : wl.cell? ⟨ba, 1, none⟩ = some (.int .i64 (T : Int)) := (hSw _ (.tail _ (.head _))).1
        clear hSw
        go_simp
        try (with_reducible rfl)
      try simp only [Act.put, sA, sZ, sS]
      refine tk 8 ?_ rfl ?_ ?_; rotate_left; focus (intro w hSw; clear hSw; go_simp; try (with_reducible rfl))
      try simp only [Act.put, sA, sZ, sS]
      refine tk 9 ?_ rfl ?_ ?_; rotate_left
      · intro wl hSw
        have hSw : Keep _ wl := hSw
        have k0 : wl.cell? ⟨gp, T, none⟩ = some (.int .i64 y) := (hSw _ (.tail _ (.tail _ (.tail _ (.head _))))).1
        clear hSw
        go_simp
        try (with_reducible rfl)
      try simp only [Act.put, sA, sZ, sS]
      refine tk 10 ?_ rfl ?_ ?_; rotate_left; focus (intro w hSw; clear hSw; go_simp; try (with_reducible rfl))
      try simp only [Act.put, sA, sZ, sS]
      refine tk 11 ?_ rfl ?_ ?_; rotate_left; focus (intro w hSw; clear hSw; go_simp; try (with_reducible rfl))
      try simp only [Act.put, sA, sZ, sS]
      refine tk 12 ?_ rfl ?_ ?_; rotate_left; focus (intro w hSw; clear hSw; go_simp; try (with_reducible rfl))
      try simp only [Act.put, sA, sZ, sS]
      refine tk 13 ?_ rfl ?_ ?_; rotate_left; focus (intro w hSw; clear hSw; go_simp; try (with_reducible rfl))
      try simp only [Act.put, sA, sZ, sS]
      refine tk 14 ?_ rfl ?_ ?_; rotate_left
      · intro wl hSw
        have hSw : Keep _ wl := hSw
        have k0 : wl.cell? ⟨ba, 2, none⟩ = some (.int .i64 ac) := (hSw _ (.tail _ (.tail _ (.head _)))).1
        clear hSw
        go_simp
        try (with_reducible rfl)
      try simp only [Act.put, sA, sZ, sS]
      refine tk 15 ?_ rfl ?_ ?_; rotate_left; focus (intro w hSw; clear hSw; go_simp; try (with_reducible rfl))
      try simp only [Act.put, sA, sZ, sS]
      refine tk 16 ?_ rfl ?_ ?_; rotate_left; focus (intro w hSw; clear hSw; go_simp; try (with_reducible rfl))
      try simp only [Act.put, sA, sZ, sS]
      refine tk 17 ?_ rfl ?_ ?_; rotate_left
      · intro wl hSw
        have hSw : Keep _ wl := hSw
        have k0 : wl.cell? ⟨ba, 1, none⟩ = some (.int .i64 (T : Int)) := (hSw _ (.tail _ (.head _))).1
        clear hSw
        go_simp
        try (with_reducible rfl)
      try simp only [Act.put, sA, sZ, sS]
      refine tk 18 ?_ rfl ?_ ?_; rotate_left; focus (intro w hSw; clear hSw; go_simp; try (with_reducible rfl))
      try simp only [Act.put, sA, sZ, sS]
      refine tk 19 ?_ rfl ?_ ?_; rotate_left
      · intro wl hSw
        have hSw : Keep _ wl := hSw
        have k0 : wl.cell? ⟨gp, T, none⟩ = some (.int .i64 y) := (hSw _ (.tail _ (.tail _ (.tail _ (.head _))))).1
        clear hSw
        go_simp
        try (with_reducible rfl)
      try simp only [Act.put, sA, sZ, sS]
      refine tk 20 ?_ rfl ?_ ?_; rotate_left; focus (intro w hSw; clear hSw; go_simp; try (with_reducible rfl))
      try simp only [Act.put, sA, sZ, sS]
      refine tk 21 ?_ rfl ?_ ?_; rotate_left; focus (intro w hSw; clear hSw; go_simp; try (with_reducible rfl))
      try simp only [Act.put, sA, sZ, sS]
      refine tk 22 ?_ rfl ?_ ?_; rotate_left; focus (intro w hSw; clear hSw; go_simp; try (with_reducible rfl))
      try simp only [Act.put, sA, sZ, sS]
      refine tk 23 ?_ rfl ?_ ?_; rotate_left; focus (intro w hSw; clear hSw; go_simp; try (with_reducible rfl))
      try simp only [Act.put, sA, sZ, sS]
      refine tk 24 ?_ rfl ?_ ?_; rotate_left
      · intro wl hSw
        have hSw : Keep _ wl := hSw
        have k0 : wl.cell? ⟨gp, F, none⟩ = some (.int .i64 x) := (hSw _ (.tail _ (.tail _ (.tail _ (.tail _ (.head _)))))).1
        clear hSw
        go_simp
        try (with_reducible rfl)
      try simp only [Act.put, sA, sZ, sS]
      refine tk 25 ?_ rfl ?_ ?_; rotate_left; focus (intro w hSw; clear hSw; go_simp; try (with_reducible rfl))
      try simp only [Act.put, sA, sZ, sS]
      refine tk 26 ?_ rfl ?_ ?_; rotate_left; focus (intro w hSw; clear hSw; go_simp; try (with_reducible rfl))
      try simp only [Act.put, sA, sZ, sS]
      refine wpAnyH_done (by kernel_rfl) ?_ _
      clear hKp hHeld
      have HE := Lib.hid (show (Z.take (k + 1)).foldl (followS g P) ([], 0) = (L, (F : Int)) by rw [HSN.out, HST.out, if_neg (show ¬ ((F : Int) = (F : Int) ∧ 0 ≤ y ∧ ac + y = x) by omega)])
      go_wp2_with fail
      go_roundw
      case rel => exact ⟨k + 1, B, m, d, F, L, by go_num, rfl, rfl, by omega, hqN, by omega, HM.out, HE.out, V1d.out.tail⟩
      case measure => simp [intOf]; omega

    have HB : ((ac + y) == x) = true := beq_iff_eq.2 hq
    have HQ := Lib.hid hq
    clear hq

    have hKp : Keep [(⟨ba, 0, none⟩, .int .i64 (F : Int)), (⟨ba, 1, none⟩, .int .i64 (T : Int)), (⟨ba, 2, none⟩, .int .i64 ac), (⟨gp, T, none⟩, .int .i64 y), (⟨gp, F, none⟩, .int .i64 x)] W1 := List.forall_mem_cons.2 ⟨⟨s0, s9⟩, List.forall_mem_cons.2 ⟨⟨s1, s9⟩, List.forall_mem_cons.2 ⟨⟨s2, s9⟩, List.forall_mem_cons.2 ⟨⟨hpT, hp1⟩, List.forall_mem_cons.2 ⟨⟨hpQ, hp1⟩, fun _ h => by simp at h⟩⟩⟩⟩⟩
    refine wp_region_held_drew (S := Keep _) (by kernel_rfl) hKp.drew (fun hHeld => ?_)
    have V1d := Lib.hid (V1.out.go (bdrew _))
    refine tk 0 ?_ rfl ?_ ?_; rotate_left; focus (intro w hSw; clear hSw; go_simp; try (with_reducible rfl))
    try simp only [Act.put, sA, sZ, sS]
    refine tk 1 ?_ rfl ?_ ?_; rotate_left
    · intro wl hSw
      have hSw : Keep _ wl := hSw
      have k0 : wl.cell? ⟨ba, 0, none⟩ = some (.int .i64 (F : Int)) := (hSw _ (.head _)).1
      clear hSw
      go_simp
      try (with_reducible rfl)
    try simp only [Act.put, sA, sZ, sS]
    refine tk 2 ?_ rfl ?_ ?_; rotate_left; focus (intro w hSw; clear hSw; go_simp; try (with_reducible rfl))
    try simp only [Act.put, sA, sZ, sS]
    refine tk 3 ?_ rfl ?_ ?_; rotate_left; focus (intro w hSw; clear hSw; go_simp; try (with_reducible rfl))
    try simp only [Act.put, sA, sZ, sS]
    refine tk 4 ?_ rfl ?_ ?_; rotate_left; focus (intro w hSw; clear hSw; go_simp; try (with_reducible rfl))
    try simp only [Act.put, sA, sZ, sS]
    refine tk 5 ?_ rfl ?_ ?_; rotate_left; focus (intro w hSw; clear hSw; go_simp; try (with_reducible rfl))
    try simp only [Act.put, sA, sZ, sS]
    refine tk 6 ?_ rfl ?_ ?_; rotate_left; focus (intro w hSw; clear hSw; go_simp; try (with_reducible rfl))
    try simp only [Act.put, sA, sZ, sS]
    refine tk 7 ?_ rfl ?_ ?_; rotate_left
    · intro wl hSw
      have hSw : Keep _ wl := hSw
      have k0 : wl.cell? ⟨ba, 1, none⟩ = some (.int .i64 (T : Int)) := (hSw _ (.tail _ (.head _))).1
      clear hSw
      go_simp
      try (with_reducible rfl)
    try simp only [Act.put, sA, sZ, sS]
    refine tk 8 ?_ rfl ?_ ?_; rotate_left; focus (intro w hSw; clear hSw; go_simp; try (with_reducible rfl))
    try simp only [Act.put, sA, sZ, sS]
    refine tk 9 ?_ rfl ?_ ?_; rotate_left
    · intro wl hSw
      have hSw : Keep _ wl := hSw
      have k0 : wl.cell? ⟨gp, T, none⟩ = some (.int .i64 y) := (hSw _ (.tail _ (.tail _ (.tail _ (.head _))))).1
      clear hSw
      go_simp
      try (with_reducible rfl)
    try simp only [Act.put, sA, sZ, sS]
    refine tk 10 ?_ rfl ?_ ?_; rotate_left; focus (intro w hSw; clear hSw; go_simp; try (with_reducible rfl))
    try simp only [Act.put, sA, sZ, sS]
    refine tk 11 ?_ rfl ?_ ?_; rotate_left; focus (intro w hSw; clear hSw; go_simp; try (with_reducible rfl))
    try simp only [Act.put, sA, sZ, sS]
    refine tk 12 ?_ rfl ?_ ?_; rotate_left; focus (intro w hSw; clear hSw; go_simp; try (with_reducible rfl))
    try simp only [Act.put, sA, sZ, sS]
    refine tk 13 ?_ rfl ?_ ?_; rotate_left; focus (intro w hSw; clear hSw; go_simp; try (with_reducible rfl))
    try simp only [Act.put, sA, sZ, sS]
    refine tk 14 ?_ rfl ?_ ?_; rotate_left
    · intro wl hSw
      have hSw : Keep _ wl := hSw
      have k0 : wl.cell? ⟨ba, 2, none⟩ = some (.int .i64 ac) := (hSw _ (.tail _ (.tail _ (.head _)))).1
      clear hSw
      go_simp
      try (with_reducible rfl)
    try simp only [Act.put, sA, sZ, sS]
    refine tk 15 ?_ rfl ?_ ?_; rotate_left; focus (intro w hSw; clear hSw; go_simp; try (with_reducible rfl))
    try simp only [Act.put, sA, sZ, sS]
    refine tk 16 ?_ rfl ?_ ?_; rotate_left; focus (intro w hSw; clear hSw; go_simp; try (with_reducible rfl))
    try simp only [Act.put, sA, sZ, sS]
    refine tk 17 ?_ rfl ?_ ?_; rotate_left
    · intro wl hSw
      have hSw : Keep _ wl := hSw
      have k0 : wl.cell? ⟨ba, 1, none⟩ = some (.int .i64 (T : Int)) := (hSw _ (.tail _ (.head _))).1
      clear hSw
      go_simp
      try (with_reducible rfl)
    try simp only [Act.put, sA, sZ, sS]
    refine tk 18 ?_ rfl ?_ ?_; rotate_left; focus (intro w hSw; clear hSw; go_simp; try (with_reducible rfl))
    try simp only [Act.put, sA, sZ, sS]
    refine tk 19 ?_ rfl ?_ ?_; rotate_left
    · intro wl hSw
      have hSw : Keep _ wl := hSw
      have k0 : wl.cell? ⟨gp, T, none⟩ = some (.int .i64 y) := (hSw _ (.tail _ (.tail _ (.tail _ (.head _))))).1
      clear hSw
      go_simp
      try (with_reducible rfl)
    try simp only [Act.put, sA, sZ, sS]
    refine tk 20 ?_ rfl ?_ ?_; rotate_left; focus (intro w hSw; clear hSw; go_simp; try (with_reducible rfl))
    try simp only [Act.put, sA, sZ, sS]
    refine tk 21 ?_ rfl ?_ ?_; rotate_left; focus (intro w hSw; clear hSw; go_simp; try (with_reducible rfl))
    try simp only [Act.put, sA, sZ, sS]
    refine tk 22 ?_ rfl ?_ ?_; rotate_left; focus (intro w hSw; clear hSw; go_simp; try (with_reducible rfl))
    try simp only [Act.put, sA, sZ, sS]
    refine tk 23 ?_ rfl ?_ ?_; rotate_left; focus (intro w hSw; clear hSw; go_simp; try (with_reducible rfl))
    try simp only [Act.put, sA, sZ, sS]
    refine tk 24 ?_ rfl ?_ ?_; rotate_left
    · intro wl hSw
      have hSw : Keep _ wl := hSw
      have k0 : wl.cell? ⟨gp, F, none⟩ = some (.int .i64 x) := (hSw _ (.tail _ (.tail _ (.tail _ (.tail _ (.head _)))))).1
      clear hSw
      go_simp
      try (with_reducible rfl)
    try simp only [Act.put, sA, sZ, sS]
    refine tk 25 ?_ rfl ?_ ?_; rotate_left; focus (intro w hSw; clear hSw; go_simp; try (with_reducible rfl))
    try simp only [Act.put, sA, sZ, sS]
    refine tk 26 ?_ rfl ?_ ?_; rotate_left; focus (intro w hSw; clear hSw; go_simp; try (with_reducible rfl))
    try simp only [Act.put, sA, sZ, sS]
    refine wpAnyH_done (by kernel_rfl) ?_ _
    clear hKp hHeld s0 s1 s2 s9 hpT hpQ hp1
    have HE := Lib.hid (show (Z.take (k + 1)).foldl (followS g P) ([], 0) = (L ++ [(I : Int)], (T : Int)) by rw [HSN.out, HST.out, if_pos ⟨rfl, hy, HQ.out⟩])
    obtain ⟨W2, hW2⟩ : ∃ z, z = W1.drew := ⟨_, rfl⟩
    rw [← hW2] at V1d ⊢
    clear hW2 V1
    obtain ⟨wy, hwy⟩ : ∃ z, z = W2.alloc (.cells #[.int .i64 (I : Int)] 3) := ⟨_, rfl⟩
    have V2 := Lib.hid (show Hp w [box 3 W2.heap.size [.int .i64 (I : Int)], abox ba ⟨F, T, ac⟩, nums B m d L, box 26 gb [.int .i64 (N : Int), .slice (some ⟨b, off, none⟩) n c]] wy by rw [hwy]; exact V1d.out.box_new _ _)
    have y0 := (V2.out.box_at (i := 0) (j := 0) rfl rfl).1
    obtain ⟨g5, cap5, w5, hr5, hv5, _⟩ := run_app_num V2.out (i := 2) rfl 33 (I : Int) y0 (by omega)
    have V3 := Lib.hid (show Hp w [nums (some ⟨g5, 0, none⟩) (m + 1) cap5 (L ++ [(I : Int)]), box 26 gb [.int .i64 (N : Int), .slice (some ⟨b, off, none⟩) n c]] w5 from hv5.tail.tail)
    obtain ⟨s0, s1, s2, s9⟩ := hv5.ab (i := 1) rfl
    dsimp only at s0 s1 s2
    have HM3 := Lib.hid (show (L ++ [(I : Int)]).length = m + 1 by rw [List.length_append, HM.out]; rfl)
    have HY := Lib.hid hwy
    have HR5 := Lib.hid hr5
    clear hwy y0 hv5 hr5
    go_wp2_with (at_builtin; rw [← HY.out]; refine wpList_app_run rfl (.tmp 50) (.tmp 52) 33 rfl HR5.out rfl rfl ?_)
    go_roundw
    case rel => exact ⟨k + 1, some ⟨g5, 0, none⟩, m + 1, cap5, T, L ++ [(I : Int)], by go_num, rfl, rfl, by omega, hTN, by omega, HM3.out, HE.out, V3.out⟩
    case measure => simp [intOf]; omega

end Go.Proofs.Ytgdfjblfpeedjaa
