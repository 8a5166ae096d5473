/- Several texts in one: Zj, Jh. -/
import Derived.Test.YtjamfcihjendiaaGreatRabk
import Derived.Test.YtjamfcihjendiaaGreatRaav
import Derived.Test.YtjamfcihjendiaaGreatRaat
import Derived.Test.YtjamfcihjendiaaGreatRaaq
namespace Go.Proofs.YtjamfcihjendiaaGreat
open Go.RowKit
set_option linter.unusedVariables false
set_option linter.unusedSimpArgs false
set_option maxRecDepth 100000

def AlPost (nm : List UInt8) (L : List Sg) (u : List UInt8) (w : World) (e : Ending) (w' : World) : Prop :=
  (bgE nm L u ≠ 0 ∧ e = .returned (.tuple #[.slice none 0 0, .int .i64 (bgE nm L u)]) ∧ Below w.heap.size w w') ∨
  (bgE nm L u = 0 ∧ ∃ Q q e' ps pool, e = .returned (.tuple #[.slice Q q e', .int .i64 0]) ∧ ps.length = q ∧ ps.map (·.2) = srtD L (dvs L u) ∧ Hp w (hdrP Q q e' ps :: pool) w' ∧ ∀ p ∈ ps, ∃ k : Nat, pool[k]? = some (nums p.1.1 p.2.length p.1.2 (dI p.2)))
theorem bgE_zero {nm : List UInt8} {L : List Sg} {u : List UInt8} (h : bgE nm L u = 0) : (vO nm L).2 = 0 ∧ 0 < u.length ∧ u.length ≤ 16 ∧ 0 < (dvs L u).length ∧ (dvs L u).length ≤ 200 := by
  unfold bgE at h
  split at h
  · exact absurd h (by assumption)
  · rename_i hg
    have hg : gvE nm L u = 0 := by simpa using hg
    have hw := wdE_zero (gvE_zero hg).2
    split at h
    · cases h
    · split at h
      · cases h
      · exact ⟨(gvE_zero hg).1, hw.1, hw.2.1, by omega, by omega⟩
theorem dv_bd {nm : List UInt8} {L : List Sg} (h : (vO nm L).2 = 0) {u : List UInt8} (h0 : 0 < u.length) (hu : u.length ≤ 16) {d : List Nat} (hd : d ∈ dvs L u) : d.length ≤ 16 ∧ ∀ i ∈ d, i < L.length := by
  have hi := (dvs_mem (TxNe.ok h) h0 d).1 hd
  have := isD_len h hi
  exact ⟨by omega, hi.1⟩
set_option maxHeartbeats 4000000 in
theorem all_any (nm : List UInt8) (L : List Sg) (A : Option Addr) (n c : Nat) (u : List UInt8) (w : World) (hnm : nm.length ≤ 140737488355328) (hl : L.length = n) (hn : n ≤ 17592186044416) (hnc : n ≤ c) (hs : SgBd L) (hA : SgnIn w A L) (hu : u.length ≤ 1000000) :
    Calls Tryz.prog 7 #[.agg #[.string (bs nm), .slice A n c], .string (bs u)] w (AlPost nm L u w) := by
  obtain ⟨g1, hg1⟩ : ∃ z, z = w.heap.size := ⟨_, rfl⟩
  obtain ⟨W1, hW1⟩ : ∃ z, z = w.alloc (.cells #[.string (bs nm), .slice A n c] 24) := ⟨_, rfl⟩
  have V1 := Lib.hid (show Hp w [obox g1 nm A n c] W1 by rw [hW1, hg1]; exact (Hp.start w).obox_new nm A n c)
  have HW1 := Lib.hid hW1
  have HG1 := Lib.hid hg1
  have HBG := Lib.hid (begin_any nm L A n c u W1 hnm hl hn hnc hs (hA.below V1.out.below) hu)
  have HL := Lib.hid hl
  have HA := Lib.hid hA
  obtain ⟨z0, z1, z2⟩ := V1.out.obox_at (i := 0) rfl
  clear hW1 hg1 hA hs hl hnm
  go_enter Tryz.func7, Tryz.ntmps7
  go_upto_region 1 with fail
  rw [← HG1.out, ← HW1.out]
  go_wp2_with fail
  refine HBG.out.mono ?_
  rintro e w2 (⟨hne, rfl, hb⟩ | ⟨h0, g, t, rfl, ht, hp⟩)
  · have V2 := Lib.hid (V1.out.go hb)
    have HNE := Lib.hid hne
    obtain ⟨v, hvv⟩ : ∃ v, v = bgE nm L u := ⟨_, rfl⟩
    rw [← hvv] at hne ⊢
    have HVV := Lib.hid hvv
    have e1 : (v != 0) = true := bne_yes hne
    clear hb hne hvv z0 z1 z2
    go_wp2_with fail
    go_ret2
    exact .inl ⟨HNE.out, by rw [← HVV.out]; rfl, V2.out.below⟩
  have V2 := Lib.hid (show Hp w (sxb g nm A n c u t :: [obox g1 nm A n c]) w2 from V1.out.join hp)
  have HT := Lib.hid ht
  have H0 := Lib.hid h0
  have HZ := Lib.hid (bgE_zero h0)
  clear hp ht h0 z0 z1 z2
  go_wp2_with fail
  refine (list_any nm L A n c u g _ HZ.out.1 HL.out (HA.out.below V2.out.below) (sxb_is V2.out (i := 0) rfl HT.out) HZ.out.2.1 HZ.out.2.2.1 HZ.out.2.2.2.2).mono ?_
  rintro e w3 ⟨Q, q, e', ps, rfl, hpl, hpe, hp⟩
  have HPL := Lib.hid hpl
  have HPE := Lib.hid hpe
  have VP := Lib.hid hp
  have V3 := Lib.hid (V2.out.go hp.below)
  have hq : 0 < q ∧ q ≤ 200 := by
    have h1 := congrArg List.length hpe
    rw [List.length_map] at h1
    have := HZ.out.2.2.2
    omega
  obtain ⟨z0, z1, z2⟩ := V3.out.obox_at (i := 1) rfl
  clear hpl hpe hp
  go_wp2_with fail
  refine (sortD_any nm L A n c Q q e' ps w2 _ HZ.out.1 HL.out (HA.out.below V2.out.below) HPL.out hq.1 hq.2 (fun p hp => by
    have := dv_bd HZ.out.1 HZ.out.2.1 HZ.out.2.2.1 (d := p.2) (by rw [← HPE.out]; exact List.mem_map_of_mem hp)
    rw [HL.out] at this
    exact ⟨by omega, this.2⟩) (by rw [HPE.out]; exact dvs_asc (TxNe.ok HZ.out.1) u) VP.out).mono ?_
  rintro e w4 ⟨rfl, ps', hpm, hps, hp⟩
  have V4 := Lib.hid (show Hp w (hdrP Q q e' ps' :: (rowP ps ++ (sxb g nm A n c u t :: [obox g1 nm A n c]))) w4 from V2.out.join hp)
  have HPM := Lib.hid hpm
  have HPS := Lib.hid hps
  clear hpm hps hp z0 z1 z2
  go_wp2_with fail
  go_ret2
  exact .inr ⟨H0.out, Q, q, e', ps', _, rfl, by rw [HPM.out.length_eq, HPL.out], by rw [HPS.out, HPE.out], V4.out, fun p hp => by
    obtain ⟨k, hk⟩ := List.getElem?_of_mem (HPM.out.mem_iff.1 hp)
    exact ⟨k, by rw [List.getElem?_append_left (by unfold rowP; rw [List.length_map]; exact (List.getElem?_eq_some_iff.1 hk).1)]; exact rowP_get hk⟩⟩
def cnT (nm : List UInt8) (L : List Sg) (u : List UInt8) : Nat := if bgE nm L u = 0 then (dvs L u).length else 0
set_option maxHeartbeats 4000000 in
theorem countD_any (nm : List UInt8) (L : List Sg) (A : Option Addr) (n c : Nat) (u : List UInt8) (w : World) (hnm : nm.length ≤ 140737488355328) (hl : L.length = n) (hn : n ≤ 17592186044416) (hnc : n ≤ c) (hs : SgBd L) (hA : SgnIn w A L) (hu : u.length ≤ 1000000) :
    Calls Tryz.prog 9 #[.agg #[.string (bs nm), .slice A n c], .string (bs u)] w fun e w' => e = .returned (.tuple #[.int .i64 (cnT nm L u : Nat), .int .i64 (bgE nm L u)]) ∧ Below w.heap.size w w' := by
  obtain ⟨g1, hg1⟩ : ∃ z, z = w.heap.size := ⟨_, rfl⟩
  obtain ⟨W1, hW1⟩ : ∃ z, z = w.alloc (.cells #[.string (bs nm), .slice A n c] 24) := ⟨_, rfl⟩
  have V1 := Lib.hid (show Hp w [obox g1 nm A n c] W1 by rw [hW1, hg1]; exact (Hp.start w).obox_new nm A n c)
  have HW1 := Lib.hid hW1
  have HG1 := Lib.hid hg1
  have HBG := Lib.hid (begin_any nm L A n c u W1 hnm hl hn hnc hs (hA.below V1.out.below) hu)
  obtain ⟨z0, z1, z2⟩ := V1.out.obox_at (i := 0) rfl
  clear hW1 hg1 hA hs hl hnm
  go_enter Tryz.func9, Tryz.ntmps9
  go_upto_region 1 with fail
  rw [← HG1.out, ← HW1.out]
  go_wp2_with fail
  refine HBG.out.mono ?_
  rintro e w2 (⟨hne, rfl, hb⟩ | ⟨h0, g, t, rfl, ht, hp⟩)
  · have V2 := Lib.hid (V1.out.go hb)
    have HC := Lib.hid (show cnT nm L u = 0 by unfold cnT; rw [if_neg hne])
    obtain ⟨v, hvv⟩ : ∃ v, v = bgE nm L u := ⟨_, rfl⟩
    rw [← hvv] at hne ⊢
    have HVV := Lib.hid hvv
    have e1 : (v != 0) = true := bne_yes hne
    clear hb hne hvv z0 z1 z2
    go_wp2_with fail
    go_ret2
    exact ⟨by rw [← HVV.out, HC.out]; rfl, V2.out.below⟩
  have V2 := Lib.hid (show Hp w (sxb g nm A n c u t :: [obox g1 nm A n c]) w2 from V1.out.join hp)
  have HT := Lib.hid ht
  have H0 := Lib.hid h0
  have HZ := Lib.hid (bgE_zero h0)
  clear hp ht h0 z0 z1 z2
  go_wp2_with fail
  refine (countP_any nm A n c u _ g _ (sxb_is V2.out (i := 0) rfl HT.out) (fun k => FB_le _ _ _ _ _ _)).mono ?_
  rintro e w5 ⟨rfl, hb⟩
  have V5 := Lib.hid (V2.out.go hb)
  clear hb
  obtain ⟨N, hN⟩ : ∃ z, z = FB L u 0 0 0 0 + FB L u 0 0 0 1 + FB L u 0 0 0 2 := ⟨_, rfl⟩
  have HN := Lib.hid (show N = cnT nm L u by
    unfold cnT
    rw [if_pos H0.out, ← (cnN_is (L := L) (u := u) HZ.out.2.1).2.2 HZ.out.2.2.2.2, hN, FB_on (Nat.le_refl _) (Nat.zero_le _), FB_on (Nat.le_refl _) (Nat.zero_le _), FB_on (Nat.le_refl _) (Nat.zero_le _)]; rfl)
  rw [← hN]
  clear hN
  go_wp2_with fail
  go_ret2
  exact ⟨by rw [H0.out, ← HN.out]; rfl, V5.out.below⟩
def BsPost (nm : List UInt8) (L : List Sg) (u : List UInt8) (w : World) (e : Ending) (w' : World) : Prop :=
  (bgE nm L u ≠ 0 ∧ e = .returned (.tuple #[.slice none 0 0, .int .i64 0, .int .i64 (bgE nm L u)]) ∧ Below w.heap.size w w') ∨
  (bgE nm L u = 0 ∧ ∃ C d x r, e = .returned (.tuple #[.slice C x.length d, .int .i64 (cD L x), .int .i64 0]) ∧ srtD L (dvs L u) = x :: r ∧ Hp w [nums C x.length d (dI x)] w')
set_option maxHeartbeats 4000000 in
theorem bestD_any (nm : List UInt8) (L : List Sg) (A : Option Addr) (n c : Nat) (u : List UInt8) (w : World) (hnm : nm.length ≤ 140737488355328) (hl : L.length = n) (hn : n ≤ 17592186044416) (hnc : n ≤ c) (hs : SgBd L) (hA : SgnIn w A L) (hu : u.length ≤ 1000000) :
    Calls Tryz.prog 11 #[.agg #[.string (bs nm), .slice A n c], .string (bs u)] w (BsPost nm L u w) := by
  obtain ⟨g1, hg1⟩ : ∃ z, z = w.heap.size := ⟨_, rfl⟩
  obtain ⟨W1, hW1⟩ : ∃ z, z = w.alloc (.cells #[.string (bs nm), .slice A n c] 24) := ⟨_, rfl⟩
  have V1 := Lib.hid (show Hp w [obox g1 nm A n c] W1 by rw [hW1, hg1]; exact (Hp.start w).obox_new nm A n c)
  have HW1 := Lib.hid hW1
  have HG1 := Lib.hid hg1
  have HBG := Lib.hid (all_any nm L A n c u W1 hnm hl hn hnc hs (hA.below V1.out.below) hu)
  have HL := Lib.hid hl
  have HA := Lib.hid hA
  obtain ⟨z0, z1, z2⟩ := V1.out.obox_at (i := 0) rfl
  clear hW1 hg1 hA hs hl hnm
  go_enter Tryz.func11, Tryz.ntmps11
  go_upto_region 1 with fail
  rw [← HG1.out, ← HW1.out]
  go_wp2_with fail
  refine HBG.out.mono ?_
  rintro e w2 (⟨hne, rfl, hb⟩ | ⟨h0, Q, q, e', ps, pool, rfl, hpl, hpe, hp, hpo⟩)
  · have V2 := Lib.hid (V1.out.go hb)
    have HNE := Lib.hid hne
    obtain ⟨v, hvv⟩ : ∃ v, v = bgE nm L u := ⟨_, rfl⟩
    rw [← hvv] at hne ⊢
    have HVV := Lib.hid hvv
    have e1 : (v != 0) = true := bne_yes hne
    clear hb hne hvv z0 z1 z2
    go_wp2_with fail
    go_ret3
    exact .inl ⟨HNE.out, by rw [← HVV.out]; rfl, V2.out.below⟩
  have H0 := Lib.hid h0
  have HZ := Lib.hid (bgE_zero h0)
  have hql : 0 < ps.length := by
    have h1 := congrArg List.length hpe
    rw [List.length_map, srtD_len] at h1
    have := HZ.out.2.2.2.1
    omega
  obtain ⟨p, hpp⟩ := get_at (L := ps) (k := 0) hql
  obtain ⟨⟨C, d⟩, x⟩ := p
  obtain ⟨kp, hkp⟩ := hpo _ (List.mem_of_getElem? hpp)
  have hq0 : 0 < q := by omega
  obtain ⟨r, hr⟩ : ∃ r, srtD L (dvs L u) = x :: r := by
    cases ps with
    | nil => simp at hql
    | cons a b =>
      injection hpp with hpp
      subst hpp
      exact ⟨b.map fun y => y.2, by rw [← hpe]; rfl⟩
  have HR := Lib.hid hr
  have HXB := Lib.hid (show x.length ≤ 16 ∧ ∀ i ∈ x, i < n by
    have := dv_bd HZ.out.1 HZ.out.2.1 HZ.out.2.2.1 (d := x) ((srtD_mem (dvs_nodup (TxNe.ok HZ.out.1) u) x).1 (by rw [hr]; exact List.mem_cons_self))
    rw [HL.out] at this
    exact this)
  have V2 := Lib.hid (show Hp w (nums C x.length d (dI x) :: hdrP Q q e' ps :: [obox g1 nm A n c]) w2 from V1.out.join (hp.sub (fun i => if i = 0 then kp + 1 else if i = 1 then 0 else kp + i + 5) (fun i j e => by split at e <;> split at e <;> (try split at e) <;> (try split at e) <;> omega) (fun i it hi => by
    match i, hi with
    | 0, hi => rw [if_pos rfl]; injection hi with hi; subst hi; exact hkp
    | 1, hi => rw [if_neg (by decide), if_pos rfl]; exact hi
    | i + 2, hi => simp at hi) : Hp W1 [nums C x.length d (dI x), hdrP Q q e' ps] w2))
  obtain ⟨gq, hgq⟩ := hp.head (i := 0) (it := hdrP Q q e' ps) rfl (A := Q) (c := e') rfl hq0
  subst hgq
  have HC0 := Lib.hid (fun (w' : World) (h' : Hp w (nums C x.length d (dI x) :: hdrP (some ⟨gq, 0, none⟩) q e' ps :: [obox g1 nm A n c]) w') => (show w'.cell? ⟨gq, 0, none⟩ = some (.slice C x.length d) ∧ gq < w'.heap.size from by
    have := h'.cell (i := 1) (it := hdrP (some ⟨gq, 0, none⟩) q e' ps) rfl (g := gq) (cap := e') rfl (rvP_get hpp)
    exact ⟨this.1, this.2.2⟩))
  clear hp hpo hpp hkp hpe hpl h0 hr hql z0 z1 z2
  have hqi : (0 : Int) < (q : Int) := by omega
  go_upto_region 4 with fail
  have hKp : Keep [(⟨gq, 0, none⟩, .slice C x.length d), (⟨g1, 0, none⟩, .string (bs nm)), (⟨g1, 1, none⟩, .slice A n c)] w2 := List.forall_mem_cons.2 ⟨⟨(HC0.out _ V2.out).1, (HC0.out _ V2.out).2⟩, List.forall_mem_cons.2 ⟨⟨(V2.out.box_at (i := 2) (j := 0) rfl rfl).1, (V2.out.box_at (i := 2) (j := 0) rfl rfl).2.2⟩, List.forall_mem_cons.2 ⟨⟨(V2.out.box_at (i := 2) (j := 1) rfl rfl).1, (V2.out.box_at (i := 2) (j := 1) rfl rfl).2.2⟩, fun _ h => by simp at h⟩⟩⟩
  refine wp_region_held_drew (S := Keep _) (by kernel_rfl) hKp.drew (fun hHeld => ?_)
  obtain ⟨wf, hwf⟩ : ∃ z, z = w2.drew := ⟨_, rfl⟩
  have Vwf := Lib.hid (show Hp w (nums C x.length d (dI x) :: hdrP (some ⟨gq, 0, none⟩) q e' ps :: obox g1 nm A n c :: []) wf by rw [hwf]; exact V2.out.go (bdrew _))
  have Bwf := Lib.hid (show Below w2.heap.size w2 wf by rw [hwf]; exact bdrew _)
  rw [← hwf] at hHeld ⊢
  clear hwf hKp
  refine tk 0 ?_ rfl ?_ ?_; rotate_left; focus (intro w hSw; clear hSw; go_simp; try (with_reducible rfl))
  try simp only [Act.put, sA, sZ, sS]
  refine tk 1 ?_ rfl ?_ ?_; rotate_left; focus (intro w hSw; clear hSw; go_simp; try (with_reducible rfl))
  try simp only [Act.put, sA, sZ, sS]
  refine tk 2 ?_ rfl ?_ ?_; rotate_left
  · intro wl hSw
    have hSw : Keep _ wl := hSw
    have k0 := (hSw _ (.head _)).1
    dsimp only at k0
    clear hSw
    go_simp
    try (with_reducible rfl)
  try simp only [Act.put, sA, sZ, sS]
  refine tk 3 ?_ rfl ?_ ?_; rotate_left
  · intro wl hSw
    have hSw : Keep _ wl := hSw
    have k0 := (hSw _ (.tail _ (.head _))).1
    have k1 := (hSw _ (.tail _ (.tail _ (.head _)))).1
    dsimp only at k0 k1
    clear hSw
    go_simp
    try (with_reducible rfl)
  try simp only [Act.put, sA, sZ, sS]
  refine tk 4 ?_ rfl ?_ ?_; rotate_left; focus (intro w hSw; clear hSw; go_simp; try (with_reducible rfl))
  try simp only [Act.put, sA, sZ, sS]
  refine tk 5 ?_ rfl ?_ ?_; rotate_left; focus (intro w hSw; clear hSw; go_simp; try (with_reducible rfl))
  try simp only [Act.put, sA, sZ, sS]
  refine tk 6 ?_ rfl ?_ ?_; rotate_left
  · intro wl hSw
    have hSw : Keep _ wl := hSw
    have k0 := (hSw _ (.head _)).1
    dsimp only at k0
    clear hSw
    go_simp
    try (with_reducible rfl)
  try simp only [Act.put, sA, sZ, sS]
  refine wpAnyH_ready (rs := [7]) (by kernel_rfl) (by simp) ?_
  refine AllReadyH.cons (List.getElem?_toArray.trans rfl) (fun K hK => ?_) AllReadyH.nil
  go_simp
  refine (costP_any nm L A n c x C x.length d _ HZ.out.1 HL.out (HA.out.below Vwf.out.below) HXB.out.2 rfl (by have := HXB.out.1; omega) (Vwf.out.cells (i := 0) (it := nums C x.length d (dI x)) rfl (A := C) (c := d) rfl)).mono ?_
  rintro r2 w_7 ⟨rfl, hb⟩
  have V_7 := Lib.hid (Vwf.out.go hb)
  have B_7 := Lib.hid hb
  clear hb
  try go_wp2_with fail
  refine hK.out _ _ (hHeld.go B_7.out) (fun hHeld => ?_)
  clear hK K
  try simp only [Act.put, sA, sZ, sS]
  refine tk 8 ?_ rfl ?_ ?_; rotate_left; focus (intro w hSw; clear hSw; go_simp; try (with_reducible rfl))
  try simp only [Act.put, sA, sZ, sS]
  refine tk 9 ?_ rfl ?_ ?_; rotate_left; focus (intro w hSw; clear hSw; go_simp; try (with_reducible rfl))
  try simp only [Act.put, sA, sZ, sS]
  refine tk 10 ?_ rfl ?_ ?_; rotate_left; focus (intro w hSw; clear hSw; go_simp; try (with_reducible rfl))
  try simp only [Act.put, sA, sZ, sS]
  refine wpAnyH_done (by kernel_rfl) ?_ _
  clear hHeld
  go_wp2_with fail
  go_ret3
  exact .inr ⟨H0.out, C, d, x, r, rfl, HR.out, V_7.out.only⟩
end Go.Proofs.YtjamfcihjendiaaGreat

namespace Go.Proofs.YtjamfcihjendiaaGreat
open Go.RowKit
set_option linter.unusedVariables false
set_option linter.unusedSimpArgs false
set_option maxRecDepth 100000

def Mk (L : List Sg) (u : List UInt8) (a : Nat) (ks : List Nat) (j : Nat) : Prop := j = 0 ∨ (∃ k i, k < a ∧ Rch L u k ∧ i ∈ stL L (u.drop k) ∧ j = k + (sgAt L i).t.length) ∨ ∃ i ∈ ks, j = a + (sgAt L i).t.length
def MkF (L : List Sg) (u : List UInt8) (a : Nat) (ks : List Nat) (F : List Bool) : Prop := F.length = u.length + 1 ∧ ∀ j, j ≤ u.length → (F.getD j false = true ↔ Mk L u a ks j)
theorem Mk.here {L : List Sg} (hne : TxNe L) {u : List UInt8} {a : Nat} (ha : a ≤ u.length) : Mk L u a [] a ↔ Rch L u a := by
  constructor
  · rintro (h | ⟨k, i, _, h2, h3, h4⟩ | ⟨i, hi, _⟩)
    · subst h; exact Rch.zero L u
    · rw [h4]; exact h2.step h3
    · cases hi
  · intro h
    rcases Nat.eq_zero_or_pos a with h0 | h0
    · exact Or.inl h0
    · obtain ⟨k, i, h1, h2, h3, h4⟩ := h.last hne h0
      exact Or.inr (Or.inl ⟨k, i, h1, h2, h3, h4⟩)
theorem Mk.on {L : List Sg} {u : List UInt8} {a : Nat} (h : Rch L u a) (j : Nat) : Mk L u a (stL L (u.drop a)) j ↔ Mk L u (a + 1) [] j := by
  constructor
  · rintro (h1 | ⟨k, i, h1, h2, h3, h4⟩ | ⟨i, hi, hj⟩)
    · exact Or.inl h1
    · exact Or.inr (Or.inl ⟨k, i, by omega, h2, h3, h4⟩)
    · exact Or.inr (Or.inl ⟨a, i, by omega, h, hi, hj⟩)
  · rintro (h1 | ⟨k, i, h1, h2, h3, h4⟩ | ⟨i, hi, _⟩)
    · exact Or.inl h1
    · rcases Nat.lt_or_ge k a with hk | hk
      · exact Or.inr (Or.inl ⟨k, i, hk, h2, h3, h4⟩)
      · obtain rfl : k = a := by omega
        exact Or.inr (Or.inr ⟨i, h3, h4⟩)
    · cases hi
theorem Mk.skip {L : List Sg} {u : List UInt8} {a : Nat} (h : ¬ Rch L u a) (j : Nat) : Mk L u a [] j ↔ Mk L u (a + 1) [] j := by
  constructor
  · rintro (h1 | ⟨k, i, h1, h2, h3, h4⟩ | ⟨i, hi, _⟩)
    · exact Or.inl h1
    · exact Or.inr (Or.inl ⟨k, i, by omega, h2, h3, h4⟩)
    · cases hi
  · rintro (h1 | ⟨k, i, h1, h2, h3, h4⟩ | ⟨i, hi, _⟩)
    · exact Or.inl h1
    · rcases Nat.lt_or_ge k a with hk | hk
      · exact Or.inr (Or.inl ⟨k, i, hk, h2, h3, h4⟩)
      · obtain rfl : k = a := by omega
        exact absurd h2 h
    · cases hi
theorem getD_set {F : List Bool} {i j : Nat} (hi : i < F.length) : (F.set i true).getD j false = if j = i then true else F.getD j false := by
  rw [List.getD_eq_getElem?_getD, List.getD_eq_getElem?_getD, List.getElem?_set]
  by_cases e : i = j
  · subst e; rw [if_pos rfl, if_pos rfl, if_pos hi]; rfl
  · rw [if_neg e, if_neg (Ne.symm e)]
theorem MkF.more {L : List Sg} {u : List UInt8} {a : Nat} {ks : List Nat} {F : List Bool} (h : MkF L u a ks F) (i : Nat) (hi : a + (sgAt L i).t.length ≤ u.length) : MkF L u a (ks ++ [i]) (F.set (a + (sgAt L i).t.length) true) := by
  obtain ⟨h1, h2⟩ := h
  refine ⟨by rw [List.length_set]; exact h1, fun j hj => ?_⟩
  rw [getD_set (by omega)]
  by_cases e : j = a + (sgAt L i).t.length
  · rw [if_pos e]
    exact ⟨fun _ => Or.inr (Or.inr ⟨i, by simp, e⟩), fun _ => rfl⟩
  · rw [if_neg e, h2 j hj]
    constructor
    · rintro (h3 | h3 | ⟨k, hk, hj2⟩)
      · exact Or.inl h3
      · exact Or.inr (Or.inl h3)
      · exact Or.inr (Or.inr ⟨k, by simp [hk], hj2⟩)
    · rintro (h3 | h3 | ⟨k, hk, hj2⟩)
      · exact Or.inl h3
      · exact Or.inr (Or.inl h3)
      · rcases List.mem_append.1 hk with hk | hk
        · exact Or.inr (Or.inr ⟨k, hk, hj2⟩)
        · rw [List.mem_singleton.1 hk] at hj2; exact absurd hj2 e
theorem MkF.start {L : List Sg} {u : List UInt8} {N : Nat} (hN : N = u.length + 1) : MkF L u 0 [] ((List.replicate N false).set 0 true) := by
  refine ⟨by rw [List.length_set, List.length_replicate, hN], fun j hj => ?_⟩
  rw [getD_set (by rw [List.length_replicate]; omega)]
  by_cases e : j = 0
  · rw [if_pos e]; exact ⟨fun _ => Or.inl e, fun _ => rfl⟩
  · rw [if_neg e, List.getD_eq_getElem?_getD, List.getElem?_replicate]
    constructor
    · intro h; split at h <;> cases h
    · rintro (h | ⟨k, _, h, _⟩ | ⟨i, hi, _⟩)
      · exact absurd h e
      · exact absurd h (Nat.not_lt_zero k)
      · cases hi
def RcPost (nm : List UInt8) (L : List Sg) (u : List UInt8) (w : World) (r : Ending) (w' : World) : Prop :=
  ∃ z : Int, r = .returned (.tuple #[.int .i64 z, .int .i64 (gvE nm L u)]) ∧ (gvE nm L u = 0 → ∃ q : Nat, z = (q : Int) ∧ RMax L u q) ∧ (gvE nm L u ≠ 0 → z = 0) ∧ Below w.heap.size w w'
end Go.Proofs.YtjamfcihjendiaaGreat
