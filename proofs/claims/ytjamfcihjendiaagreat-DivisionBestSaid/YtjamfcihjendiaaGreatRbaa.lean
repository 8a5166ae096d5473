/- Several texts in one: Jr. -/
import Derived.Test.YtjamfcihjendiaaGreatRaaa
import Derived.Test.YtjamfcihjendiaaGreatRaab
import Derived.Test.YtjamfcihjendiaaGreatRaac
import Derived.Test.YtjamfcihjendiaaGreatRaad
import Derived.Test.YtjamfcihjendiaaGreatRaae
import Derived.Test.YtjamfcihjendiaaGreatRaaf
import Derived.Test.YtjamfcihjendiaaGreatRaag
import Derived.Test.YtjamfcihjendiaaGreatRaah
import Derived.Test.YtjamfcihjendiaaGreatRaai
import Derived.Test.YtjamfcihjendiaaGreatRaaj
import Derived.Test.YtjamfcihjendiaaGreatRaak
import Derived.Test.YtjamfcihjendiaaGreatRaal
import Derived.Test.YtjamfcihjendiaaGreatRaam
import Derived.Test.YtjamfcihjendiaaGreatRaan
import Derived.Test.YtjamfcihjendiaaGreatRaao
import Derived.Test.YtjamfcihjendiaaGreatRaap
import Derived.Test.YtjamfcihjendiaaGreatRaaq
import Derived.Test.YtjamfcihjendiaaGreatRaar
import Derived.Test.YtjamfcihjendiaaGreatRaas
import Derived.Test.YtjamfcihjendiaaGreatRaat
import Derived.Test.YtjamfcihjendiaaGreatRaau
import Derived.Test.YtjamfcihjendiaaGreatRaav
import Derived.Test.YtjamfcihjendiaaGreatRaaw
import Derived.Test.YtjamfcihjendiaaGreatRaax
import Derived.Test.YtjamfcihjendiaaGreatRaay
import Derived.Test.YtjamfcihjendiaaGreatRaaz
import Derived.Test.YtjamfcihjendiaaGreatRaba
import Derived.Test.YtjamfcihjendiaaGreatRabb
import Derived.Test.YtjamfcihjendiaaGreatRabc
import Derived.Test.YtjamfcihjendiaaGreatRabd
import Derived.Test.YtjamfcihjendiaaGreatRabe
import Derived.Test.YtjamfcihjendiaaGreatRabf
import Derived.Test.YtjamfcihjendiaaGreatRabg
import Derived.Test.YtjamfcihjendiaaGreatRabh
import Derived.Test.YtjamfcihjendiaaGreatRabi
import Derived.Test.YtjamfcihjendiaaGreatRabj
import Derived.Test.YtjamfcihjendiaaGreatRabk
import Derived.Test.YtjamfcihjendiaaGreatRabl
import Derived.Test.YtjamfcihjendiaaGreatRabm
import Derived.Test.YtjamfcihjendiaaGreatRabn
import Derived.Test.YtjamfcihjendiaaGreatRabo
import Derived.Test.YtjamfcihjendiaaGreatRabp
import Derived.Test.YtjamfcihjendiaaGreatRabq
import Derived.Test.YtjamfcihjendiaaGreatRabr
import Derived.Test.YtjamfcihjendiaaGreatRabs
import Derived.Below
import Derived.BigQuiet
import Derived.BigRegion
import Derived.ChangeOld
import Derived.ChangeSlices
import Derived.Deep.AppendLies
import Derived.Deep.CutBlock
import Derived.Deep.DeepAppendRoom
import Derived.Deep.DeepCutAuto
import Derived.Deep.DeepFit
import Derived.Deep.DeepHandedRow
import Derived.Deep.QuietTactic
import Derived.Deep.RegionHeld3
import Derived.Deep.RegionLaw
import Derived.Deep.Slices
import Derived.Deep.Strs
import Derived.Deep.WholeRow
import Derived.Ground.Names2Prog
import Derived.IntWalk
import Derived.Laws.EntriesVeiled
import Derived.Laws.IdiomStrings
import Derived.Laws.NewBlocks
import Derived.Laws.OwnMore
import Derived.Laws.StructEq
import Derived.Lib.Atoi
import Derived.Lib.AtoiErrMem
import Derived.Lib.Bytealg
import Derived.Lib.Hide
import Derived.Lib.IndexMore
import Derived.Lib.ItoaNum
import Derived.Lib.Join
import Derived.Lib.SliceRun
import Derived.Lib.Small
import Derived.Lib.SmallJoins
import Derived.Lib.Split
import Derived.Lib.SplitLaws
import Derived.Lib.Strings
import Derived.OpenShut
import Derived.Outline
import Derived.OwnWalk
import Derived.ProofKit
import Derived.Shelf.Slices.Clone
import Derived.Shelf.Slices.Empties2
import Derived.Shelf.Slices.Equal
import Derived.Shelf.Small.Strs
import Derived.Shelf.Strings.Builder1
import Derived.Shelf.Strings.Builder2
import Derived.Shelf.Strings.BuilderF
import Derived.Shelf.Strings.BuilderK
import Derived.Shelf.Strings.Count
import Derived.Shelf.Strings.Cut
import Derived.Shelf.Strings.OnBuilder
import Derived.Shelf.Strings.Prefix
import Derived.Shelf.Strings.Search1
import Derived.Shelf.Strings.Split
import Derived.Shelf.Vars
import Derived.ShutString
import Derived.SizedLaws
import Derived.SliceStrings
import Derived.Test.YtjamfcihjendiaaGreatProg
import Derived.Test.YtjamfcihjendiaaGreatRows
import Derived.WalkKit
import Derived.WalkLawsBesides
import Derived.WalkSpells
namespace Go.Proofs.YtjamfcihjendiaaGreat
open Go.RowKit
set_option linter.unusedVariables false
set_option linter.unusedSimpArgs false
set_option maxRecDepth 100000

set_option maxHeartbeats 4000000 in
theorem rbest13_any (nm : List UInt8) (L : List Sg) (A : Option Addr) (n c : Nat) (u : List UInt8) (w : World) (hnm : nm.length ≤ 140737488355328) (hl : L.length = n) (hn : n ≤ 17592186044416) (hs : SgBd L) (hA : SgnIn w A L) (hu : u.length ≤ 1000) :
    Calls Tryz.prog 12 #[.agg #[.string (bs nm), .slice A n c], .string (bs u)] w (BsPost nm L u w) := by
  obtain ⟨g1, hg1⟩ : ∃ z, z = w.heap.size := ⟨_, rfl⟩
  obtain ⟨W1, hW1⟩ : ∃ z, z = w.alloc (.cells #[.string (bs nm), .slice A n c] 24) := ⟨_, rfl⟩
  have V1 := Lib.hid (show Hp w [obox g1 nm A n c] W1 by rw [hW1, hg1]; exact (Hp.start w).obox_new nm A n c)
  have HW1 := Lib.hid hW1
  have HG1 := Lib.hid hg1
  have HBG := Lib.hid (rall13_any nm L A n c u W1 hnm hl hn hs (hA.below V1.out.below) hu)
  have HL := Lib.hid hl
  have HA := Lib.hid hA
  obtain ⟨z0, z1, z2⟩ := V1.out.obox_at (i := 0) rfl
  clear hW1 hg1 hA hs hl hnm
  go_enter Tryz.func12, Tryz.ntmps12
  go_upto_region 1 with fail
  rw [← HG1.out, ← HW1.out]
  go_wp2_with fail
  refine HBG.out.mono ?_
  rintro e w2 (⟨hne, rfl, hb⟩ | ⟨h0, Q, q, e', ps, pool, rfl, hpl, hpe, hp, hpo⟩)
  · have V2 := Lib.hid (V1.out.go hb)
    have HNE := Lib.hid hne
    obtain ⟨v, hvv⟩ : ∃ v, v = bgE nm L u := ⟨_, rfl⟩
    rw [← hvv] at hne ⊢
    have HVV := Lib.hid hvv
    have e1 : (v != 0) = true := bne_yes hne
    clear hb hne hvv z0 z1 z2
    go_wp2_with fail
    go_ret3
    exact .inl ⟨HNE.out, by rw [← HVV.out]; rfl, V2.out.below⟩
  have H0 := Lib.hid h0
  have HZ := Lib.hid (bgE_zero h0)
  have hql : 0 < ps.length := by
    have h1 := congrArg List.length hpe
    rw [List.length_map, srtD_len] at h1
    have := HZ.out.2.2.2.1
    omega
  obtain ⟨p, hpp⟩ := get_at (L := ps) (k := 0) hql
  obtain ⟨⟨C, d⟩, x⟩ := p
  obtain ⟨kp, hkp⟩ := hpo _ (List.mem_of_getElem? hpp)
  have hq0 : 0 < q := by omega
  obtain ⟨r, hr⟩ : ∃ r, srtD L (dvs L u) = x :: r := by
    cases ps with
    | nil => simp at hql
    | cons a b =>
      injection hpp with hpp
      subst hpp
      exact ⟨b.map fun y => y.2, by rw [← hpe]; rfl⟩
  have HR := Lib.hid hr
  have HXB := Lib.hid (show x.length ≤ 16 ∧ ∀ i ∈ x, i < n by
    have := dv_bd HZ.out.1 HZ.out.2.1 HZ.out.2.2.1 (d := x) ((srtD_mem (dvs_nodup (TxNe.ok HZ.out.1) u) x).1 (by rw [hr]; exact List.mem_cons_self))
    rw [HL.out] at this
    exact this)
  have V2 := Lib.hid (show Hp w (nums C x.length d (dI x) :: hdrP Q q e' ps :: [obox g1 nm A n c]) w2 from V1.out.join (hp.sub (fun i => if i = 0 then kp + 1 else if i = 1 then 0 else kp + i + 5) (fun i j e => by split at e <;> split at e <;> (try split at e) <;> (try split at e) <;> omega) (fun i it hi => by
    match i, hi with
    | 0, hi => rw [if_pos rfl]; injection hi with hi; subst hi; exact hkp
    | 1, hi => rw [if_neg (by decide), if_pos rfl]; exact hi
    | i + 2, hi => simp at hi) : Hp W1 [nums C x.length d (dI x), hdrP Q q e' ps] w2))
  obtain ⟨gq, hgq⟩ := hp.head (i := 0) (it := hdrP Q q e' ps) rfl (A := Q) (c := e') rfl hq0
  subst hgq
  have HC0 := Lib.hid (fun (w' : World) (h' : Hp w (nums C x.length d (dI x) :: hdrP (some ⟨gq, 0, none⟩) q e' ps :: [obox g1 nm A n c]) w') => (show w'.cell? ⟨gq, 0, none⟩ = some (.slice C x.length d) ∧ gq < w'.heap.size from by
    have := h'.cell (i := 1) (it := hdrP (some ⟨gq, 0, none⟩) q e' ps) rfl (g := gq) (cap := e') rfl (rvP_get hpp)
    exact ⟨this.1, this.2.2⟩))
  clear hp hpo hpp hkp hpe hpl h0 hr hql z0 z1 z2
  have hqi : (0 : Int) < (q : Int) := by omega
  go_upto_region 4 with fail
  have hKp : Keep [(⟨gq, 0, none⟩, .slice C x.length d), (⟨g1, 0, none⟩, .string (bs nm)), (⟨g1, 1, none⟩, .slice A n c)] w2 := List.forall_mem_cons.2 ⟨⟨(HC0.out _ V2.out).1, (HC0.out _ V2.out).2⟩, List.forall_mem_cons.2 ⟨⟨(V2.out.box_at (i := 2) (j := 0) rfl rfl).1, (V2.out.box_at (i := 2) (j := 0) rfl rfl).2.2⟩, List.forall_mem_cons.2 ⟨⟨(V2.out.box_at (i := 2) (j := 1) rfl rfl).1, (V2.out.box_at (i := 2) (j := 1) rfl rfl).2.2⟩, fun _ h => by simp at h⟩⟩⟩
  refine wp_region_held_drew (S := Keep _) (by kernel_rfl) hKp.drew (fun hHeld => ?_)
  obtain ⟨wf, hwf⟩ : ∃ z, z = w2.drew := ⟨_, rfl⟩
  have Vwf := Lib.hid (show Hp w (nums C x.length d (dI x) :: hdrP (some ⟨gq, 0, none⟩) q e' ps :: obox g1 nm A n c :: []) wf by rw [hwf]; exact V2.out.go (bdrew _))
  have Bwf := Lib.hid (show Below w2.heap.size w2 wf by rw [hwf]; exact bdrew _)
  rw [← hwf] at hHeld ⊢
  clear hwf hKp
  refine tk 0 ?_ rfl ?_ ?_; rotate_left; focus (intro w hSw; clear hSw; go_simp; try (with_reducible rfl))
  try simp only [Act.put, sA, sZ, sS]
  refine tk 1 ?_ rfl ?_ ?_; rotate_left; focus (intro w hSw; clear hSw; go_simp; try (with_reducible rfl))
  try simp only [Act.put, sA, sZ, sS]
  refine tk 2 ?_ rfl ?_ ?_; rotate_left
  · intro wl hSw
    have hSw : Keep _ wl := hSw
    have k0 := (hSw _ (.head _)).1
    dsimp only at k0
    clear hSw
    go_simp
    try (with_reducible rfl)
  try simp only [Act.put, sA, sZ, sS]
  refine tk 3 ?_ rfl ?_ ?_; rotate_left
  · intro wl hSw
    have hSw : Keep _ wl := hSw
    have k0 := (hSw _ (.tail _ (.head _))).1
    have k1 := (hSw _ (.tail _ (.tail _ (.head _)))).1
    dsimp only at k0 k1
    clear hSw
    go_simp
    try (with_reducible rfl)
  try simp only [Act.put, sA, sZ, sS]
  refine tk 4 ?_ rfl ?_ ?_; rotate_left; focus (intro w hSw; clear hSw; go_simp; try (with_reducible rfl))
  try simp only [Act.put, sA, sZ, sS]
  refine tk 5 ?_ rfl ?_ ?_; rotate_left; focus (intro w hSw; clear hSw; go_simp; try (with_reducible rfl))
  try simp only [Act.put, sA, sZ, sS]
  refine tk 6 ?_ rfl ?_ ?_; rotate_left
  · intro wl hSw
    have hSw : Keep _ wl := hSw
    have k0 := (hSw _ (.head _)).1
    dsimp only at k0
    clear hSw
    go_simp
    try (with_reducible rfl)
  try simp only [Act.put, sA, sZ, sS]
  refine wpAnyH_ready (rs := [7]) (by kernel_rfl) (by simp) ?_
  refine AllReadyH.cons (List.getElem?_toArray.trans rfl) (fun K hK => ?_) AllReadyH.nil
  go_simp
  refine (rcost13_any nm L A n c x C x.length d _ HZ.out.1 HL.out (HA.out.below Vwf.out.below) HXB.out.2 rfl (by have := HXB.out.1; omega) (Vwf.out.cells (i := 0) (it := nums C x.length d (dI x)) rfl (A := C) (c := d) rfl)).mono ?_
  rintro r2 w_7 ⟨rfl, hb⟩
  have V_7 := Lib.hid (Vwf.out.go hb)
  have B_7 := Lib.hid hb
  clear hb
  try go_wp2_with fail
  refine hK.out _ _ (hHeld.go B_7.out) (fun hHeld => ?_)
  clear hK K
  try simp only [Act.put, sA, sZ, sS]
  refine tk 8 ?_ rfl ?_ ?_; rotate_left; focus (intro w hSw; clear hSw; go_simp; try (with_reducible rfl))
  try simp only [Act.put, sA, sZ, sS]
  refine tk 9 ?_ rfl ?_ ?_; rotate_left; focus (intro w hSw; clear hSw; go_simp; try (with_reducible rfl))
  try simp only [Act.put, sA, sZ, sS]
  refine tk 10 ?_ rfl ?_ ?_; rotate_left; focus (intro w hSw; clear hSw; go_simp; try (with_reducible rfl))
  try simp only [Act.put, sA, sZ, sS]
  refine wpAnyH_done (by kernel_rfl) ?_ _
  clear hHeld
  go_wp2_with fail
  go_ret3
  exact .inr ⟨H0.out, C, d, x, r, rfl, HR.out, V_7.out.only⟩

set_option maxHeartbeats 4000000 in
theorem lawdivisionbest_any (nm : List UInt8) (A : Option Addr) (n c : Nat) (L : List Sg) (t : List UInt8) (w : World) (hnm : nm.length ≤ 140737488355328) (hl : L.length = n) (hnc : n ≤ c) (hn : n ≤ 17592186044416) (hlim : ∀ x ∈ L, SgLim x) (hO : SgnIn w A L) (ht : t.length ≤ maxLen) :
    Calls Tryz.prog 4 #[.agg #[.string (bs nm), .slice A n c], .string (bs t)] w fun e w' => e = .returned (.bool true) ∧ Below w.heap.size w w' := by
  obtain ⟨g1, hg1⟩ : ∃ z, z = w.heap.size := ⟨_, rfl⟩
  obtain ⟨W1, hW1⟩ : ∃ z, z = w.alloc (.cells #[.string (bs nm), .slice A n c] 24) := ⟨_, rfl⟩
  have V1 := Lib.hid (show Hp w [obox g1 nm A n c] W1 by rw [hW1, hg1]; exact (Hp.start w).obox_new nm A n c)
  have HW1 := Lib.hid hW1
  have HG1 := Lib.hid hg1
  have HO := Lib.hid hO
  have HL := Lib.hid hl
  have HLIM := Lib.hid hlim
  have HT := Lib.hid ht
  obtain ⟨ty, hty⟩ : ∃ y, y = t.length := ⟨_, rfl⟩
  have htz : (bs t).size = ty := by rw [bs_size]; exact hty.symm
  have HTY := Lib.hid hty
  unfold maxLen at ht
  rw [← hty] at ht
  clear hW1 hg1 hO hl hlim hty
  go_enter Tryz.func4, Tryz.ntmps4
  go_upto_region 1 with fail
  rw [← HG1.out, ← HW1.out]
  go_wp2_with fail
  refine (awake13_any _).mono ?_
  rintro e wa ⟨rfl, hb⟩
  have V2 := Lib.hid (V1.out.go hb)
  clear hb
  obtain ⟨z0, z1, z2⟩ := V2.out.obox_at (i := 0) rfl
  go_wp2_with fail
  refine (few13_any nm A n c L t none 0 0 _ hnm HL.out hn HLIM.out (HO.out.below V2.out.below) HT.out (by decide)).mono ?_
  rintro e w3 ⟨rfl, hb⟩
  have V3 := Lib.hid (V2.out.go hb)
  clear hb z0 z1 z2
  cases hf : fwD nm L t.length 0 with
  | false =>
    clear hf
    go_wp2_with fail
    refine (awake13_any _).mono ?_
    rintro e wa ⟨rfl, hb⟩
    have VZ := Lib.hid (V3.out.go hb)
    clear hb
    go_wp2_with fail
    go_ret
    exact ⟨rfl, VZ.out.below⟩
  | true =>
  obtain ⟨hf1, hf2, hf3⟩ := fwD_yes hf
  have HSB := Lib.hid (fewO_bd hf1 HLIM.out)
  clear hf hf1
  rw [← HTY.out] at hf2
  have hu : t.length ≤ 1000000 := by rw [← HTY.out]; omega
  have HU := Lib.hid hu
  clear hu
  obtain ⟨z0, z1, z2⟩ := V3.out.obox_at (i := 0) rfl
  go_wp2_with fail
  refine (bestD_any nm L A n c t _ hnm HL.out hn hnc HSB.out (HO.out.below V3.out.below) HU.out).mono ?_
  have hu1000 : t.length ≤ 1000 := by rw [← HTY.out]; omega
  have HU1 := Lib.hid hu1000
  clear hu1000
  rintro e w4 (⟨hne, rfl, hb4⟩ | ⟨h0, C, d, x, r, rfl, hxr, hp⟩)
  · have V4 := Lib.hid (V3.out.go hb4)
    have HNE := Lib.hid hne
    clear hb4 z0 z1 z2 hne
    obtain ⟨E, hE⟩ : ∃ E, bgE nm L t = E := ⟨_, rfl⟩
    have HE := Lib.hid hE
    rw [hE]
    clear hE
    obtain ⟨z0, z1, z2⟩ := V4.out.obox_at (i := 0) rfl
    go_wp2_with fail
    refine (rbest13_any nm L A n c t _ hnm HL.out hn HSB.out (HO.out.below V4.out.below) HU1.out).mono ?_
    rintro e w5 (⟨_, rfl, hb5⟩ | ⟨h0, _⟩)
    · have V5 := Lib.hid (V4.out.go hb5)
      clear hb5 z0 z1 z2
      rw [HE.out]
      obtain ⟨z0, z1, z2⟩ := V5.out.obox_at (i := 0) rfl
      go_wp2_with fail
      refine (equal_nums none none 0 0 0 0 [] [] _ rfl rfl (by omega) (by omega) (CellsIn.nil _ _) (CellsIn.nil _ _)).mono ?_
      rintro e w6 ⟨rfl, hb6⟩
      have V6 := Lib.hid (V5.out.go hb6)
      clear hb6 z0 z1 z2
      rw [show decide (([] : List Int) = []) = true from by decide]
      obtain ⟨z0, z1, z2⟩ := V6.out.obox_at (i := 0) rfl
      go_wp2_with fail
      refine (all_any nm L A n c t _ hnm HL.out hn hnc HSB.out (HO.out.below V6.out.below) HU.out).mono ?_
      rintro e w7 (⟨_, rfl, hb7⟩ | ⟨h0, _⟩)
      · have V7 := Lib.hid (V6.out.go hb7)
        clear hb7 z0 z1 z2
        have e1 : (E != 0) = true := bne_yes (by rw [← HE.out]; exact HNE.out)
        have e2 : (E == 0) = false := beq_no (by rw [← HE.out]; exact HNE.out)
        rw [HE.out]
        go_wp2_with fail
        go_ret
        exact ⟨rfl, V7.out.below⟩
      · exact absurd h0 HNE.out
    · exact absurd h0 HNE.out
  · have V4 := Lib.hid (show Hp w (nums C x.length d (dI x) :: [obox g1 nm A n c]) w4 from V3.out.join hp)
    have HC := Lib.hid (V4.out.cells (i := 0) (it := nums C x.length d (dI x)) rfl (A := C) (c := d) rfl)
    have H0 := Lib.hid h0
    have HXR := Lib.hid hxr
    have HZ := Lib.hid (bgE_zero h0)
    have HX16 := Lib.hid (show x.length ≤ 16 from (dv_bd HZ.out.1 HZ.out.2.1 HZ.out.2.2.1 (d := x) ((srtD_mem (dvs_nodup (TxNe.ok HZ.out.1) t) x).1 (by rw [hxr]; exact List.mem_cons_self))).1)
    have HXL := Lib.hid (show (dI x).length = x.length by unfold dI; rw [List.length_map])
    clear hp hxr h0 z0 z1 z2
    obtain ⟨z0, z1, z2⟩ := V4.out.obox_at (i := 1) rfl
    go_wp2_with fail
    refine (rbest13_any nm L A n c t _ hnm HL.out hn HSB.out (HO.out.below V4.out.below) HU1.out).mono ?_
    rintro e w5 (⟨hne, _, _⟩ | ⟨h0, C5, d5, x5, r5, rfl, hxr5, hp⟩)
    · exact absurd H0.out hne
    · obtain ⟨hx5, hr5⟩ := List.cons.inj (HXR.out.symm.trans hxr5)
      subst hx5 hr5
      have V5 := Lib.hid (show Hp w (nums C5 x.length d5 (dI x) :: nums C x.length d (dI x) :: [obox g1 nm A n c]) w5 from V4.out.join hp)
      clear hp h0 hxr5 z0 z1 z2
      obtain ⟨cx, hcx⟩ : ∃ z, z = cD L x := ⟨_, rfl⟩
      obtain ⟨xl, hxl⟩ : ∃ z, z = x.length := ⟨_, rfl⟩
      have HXE := Lib.hid hxl
      obtain ⟨z0, z1, z2⟩ := V5.out.obox_at (i := 2) rfl
      rw [← hcx, ← hxl]
      clear hcx hxl
      go_wp2_with fail
      refine (equal_nums C C5 xl d xl d5 (dI x) (dI x) _ (by rw [HXE.out]; exact HXL.out) (by rw [HXE.out]; exact HXL.out) (by have := HX16.out; have := HXE.out; omega) (by have := HX16.out; have := HXE.out; omega) (V5.out.cells (i := 1) (it := nums C x.length d (dI x)) rfl (A := C) (c := d) rfl) (V5.out.cells (i := 0) (it := nums C5 x.length d5 (dI x)) rfl (A := C5) (c := d5) rfl)).mono ?_
      rintro e w6 ⟨rfl, hb6⟩
      have V6 := Lib.hid (V5.out.go hb6)
      clear hb6 z0 z1 z2
      rw [decide_eq_true rfl]
      obtain ⟨z0, z1, z2⟩ := V6.out.obox_at (i := 2) rfl
      go_wp2_with fail
      refine (all_any nm L A n c t _ hnm HL.out hn hnc HSB.out (HO.out.below V6.out.below) HU.out).mono ?_
      rintro e w7 (⟨hne, _, _⟩ | ⟨h0, Q, q, e4, ps, pool, rfl, hpl, hpe, hp, hpo⟩)
      · exact absurd H0.out hne
      · obtain ⟨hq, hR, hql⟩ := al_rows13 h0 hpl hpe hp hpo
        have V7 := Lib.hid (V6.out.go hp.below)
        rw [HXR.out] at hR hql
        have hq0 : 0 < q := by rw [← hql]; exact Nat.succ_pos _
        obtain ⟨b3, o3, C3, d3, rfl, hb3, hc3, hd3, _, hC3⟩ := hR.row (j := 0) (row := dI x) rfl
        have HC3 := Lib.hid hC3
        rw [HXL.out, ← HXE.out, Nat.add_zero] at hc3
        have hqi : (0 : Int) < (q : Int) := by omega
        clear hp hpo hpl hpe hR hql h0 z0 z1 z2 hC3 hd3
        go_wp2_with fail
        refine (equal_nums C3 C xl d3 xl d (dI x) (dI x) _ (by rw [HXE.out]; exact HXL.out) (by rw [HXE.out]; exact HXL.out) (by have := HX16.out; have := HXE.out; omega) (by have := HX16.out; have := HXE.out; omega) HC3.out (V7.out.cells (i := 1) (it := nums C x.length d (dI x)) rfl (A := C) (c := d) rfl)).mono ?_
        rintro e w8 ⟨rfl, hb8⟩
        have V8 := Lib.hid (V7.out.go hb8)
        clear hb8
        rw [decide_eq_true rfl]
        go_wp2_with fail
        go_ret
        exact ⟨rfl, V8.out.below⟩
end Go.Proofs.YtjamfcihjendiaaGreat
