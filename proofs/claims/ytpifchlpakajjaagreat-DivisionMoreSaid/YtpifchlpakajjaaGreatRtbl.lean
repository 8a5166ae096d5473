/- Several texts in one: Zi, Zj. -/
import Derived.Test.YtpifchlpakajjaaGreatRtbe
import Derived.Test.YtpifchlpakajjaaGreatRtbk
namespace Go.Proofs.YtpifchlpakajjaaGreat
open Go.RowKit
set_option linter.unusedVariables false
set_option linter.unusedSimpArgs false
set_option maxRecDepth 100000

def zP : Prow := ((none, 0), [])
def psA (ps : List Prow) (x : Int) : Prow := ps.getD x.toNat zP
theorem psA_at {ps : List Prow} {i : Nat} {p : Prow} (h : ps[i]? = some p) : psA ps (i : Int) = p := by unfold psA; rw [Int.toNat_natCast, List.getD_eq_getElem?_getD, h]; rfl
def idS (n : Nat) : List Int := (List.range n).map fun i : Nat => (i : Int)
theorem idS_len (n : Nat) : (idS n).length = n := by simp [idS]
theorem idS_asc (n : Nat) : (idS n).Pairwise (· < ·) := by
  unfold idS
  rw [List.pairwise_map]
  refine List.Pairwise.imp ?_ List.pairwise_lt_range
  intro a b h; omega
theorem idS_mem {n : Nat} {x : Int} : x ∈ idS n ↔ 0 ≤ x ∧ x < (n : Int) := by
  unfold idS
  rw [List.mem_map]
  constructor
  · rintro ⟨i, hi, rfl⟩
    have := List.mem_range.1 hi
    omega
  · intro h
    exact ⟨x.toNat, List.mem_range.2 (by omega), by omega⟩
theorem idS_map (ps : List Prow) : (idS ps.length).map (psA ps) = ps := by
  apply List.ext_getElem (by simp [idS])
  intro i h1 h2
  have hi : i < ps.length := h2
  simp only [idS, List.getElem_map, List.getElem_range]
  exact psA_at (List.getElem?_eq_getElem hi)
theorem sort_map {L : List Sg} {ps : List Prow} {Z : List Int} (hasc : (ps.map (·.2)).Pairwise (fun x y => lexB x y = true)) (hp : Z.Perm (idS ps.length)) (hs : Z.Pairwise (St.RL fun x => cD L (psA ps x).2)) :
    (Z.map (psA ps)).Perm ps ∧ (Z.map (psA ps)).map (·.2) = srtD L (ps.map (·.2)) := by
  have h1 : (Z.map (psA ps)).Perm ps := by
    have := hp.map (psA ps)
    rwa [idS_map] at this
  refine ⟨h1, ?_⟩
  have hnd : (ps.map (·.2)).Nodup := hasc.imp (fun {a b} h e => by rw [e, lexB_irrefl] at h; cases h)
  refine Ord.uniq ?_ (srtD_ord hnd) (fun x => ?_)
  · unfold Ord
    rw [List.map_map, List.pairwise_map]
    have hm : ∀ x ∈ Z, 0 ≤ x ∧ x < (ps.length : Int) := fun x hx => idS_mem.1 (hp.mem_iff.1 hx)
    refine List.Pairwise.imp_of_mem ?_ hs
    intro x y hx hy hxy
    show befB L (psA ps x).2 (psA ps y).2 = true
    unfold befB
    rcases hxy with h | ⟨h, h2⟩
    · have h : cD L (psA ps x).2 < cD L (psA ps y).2 := h
      rw [if_neg (by omega)]
      exact decide_eq_true h
    · have h : cD L (psA ps x).2 = cD L (psA ps y).2 := h
      rw [if_pos h]
      have hx' := hm x hx
      have hy' := hm y hy
      have := List.pairwise_iff_getElem.1 hasc x.toNat y.toNat (by rw [List.length_map]; omega) (by rw [List.length_map]; omega) (by omega)
      rw [List.getElem_map, List.getElem_map] at this
      unfold psA
      rw [List.getD_eq_getElem?_getD, List.getD_eq_getElem?_getD, List.getElem?_eq_getElem (by omega), List.getElem?_eq_getElem (by omega)]
      exact this
  · rw [srtD_mem hnd]
    exact (h1.map (·.2)).mem_iff
theorem hdr_vals {Q : Option Addr} {q e : Nat} {ps : List Prow} (Z : List Int) : hdrP Q q e (Z.map (psA ps)) = vals (fun x => (psA ps x).1.1) (fun x => (psA ps x).2.length) (fun x => (psA ps x).1.2) Q q e Z := by
  unfold hdrP vals rvP
  rw [List.map_map]
  rfl
set_option maxHeartbeats 2000000 in
theorem cmpD_any (nm : List UInt8) (L : List Sg) (A : Option Addr) (n c : Nat) (a b : List Nat) (D1 D2 : Option Addr) (m1 e1 m2 e2 gb : Nat) (w : World) (hv : (vO nm L).2 = 0) (hl : L.length = n) (hA : SgnIn w A L) (ha : ∀ i ∈ a, i < n) (hb : ∀ i ∈ b, i < n) (hm1 : a.length = m1) (hm2 : b.length = m2) (hb1 : m1 ≤ 1000) (hb2 : m2 ≤ 1000) (hD1 : CellsIn w D1 (ints (dI a))) (hD2 : CellsIn w D2 (ints (dI b)))
    (r0 : w.cell? ⟨gb, 0, none⟩ = some (.string (bs nm))) (r1 : w.cell? ⟨gb, 1, none⟩ = some (.slice A n c)) (r9 : gb < w.heap.size) :
    Calls Tryz.prog 74 #[.slice D1 m1 e1, .slice D2 m2 e2, .pointer (some ⟨gb, 0, none⟩)] w fun r w' => ∃ z, r = .returned (.int .i64 z) ∧ (z < 0 ↔ cD L a < cD L b) ∧ Below w.heap.size w w' := by
  have C1 := Lib.hid (fun (w' : World) (h : Below w.heap.size w w') => costP_any nm L A n c a D1 m1 e1 w' hv hl (hA.below h) ha hm1 hb1 (hD1.below h))
  have C2 := Lib.hid (fun (w' : World) (h : Below w.heap.size w w') => costP_any nm L A n c b D2 m2 e2 w' hv hl (hA.below h) hb hm2 hb2 (hD2.below h))
  have hba := cD_bd hv (d := a) (by rw [hl]; exact ha)
  have hbb := cD_bd hv (d := b) (by rw [hl]; exact hb)
  obtain ⟨ca, hca⟩ : ∃ z, z = cD L a := ⟨_, rfl⟩
  obtain ⟨cb, hcb⟩ : ∃ z, z = cD L b := ⟨_, rfl⟩
  have HCA := Lib.hid hca
  have HCB := Lib.hid hcb
  rw [← hca] at hba C1
  rw [← hcb] at hbb C2
  have h1 : 0 ≤ ca ∧ ca ≤ 99000 := by omega
  have h2 : 0 ≤ cb ∧ cb ≤ 99000 := by omega
  have hws : IntKind.i64.wrap (ca - cb) = ca - cb := IntWalk.i64_in _ (by omega)
  have V0 := Lib.hid (show Hp w [] w from Hp.start w)
  have HR0 := Lib.hid (And.intro r9 r0)
  have HR1 := Lib.hid (And.intro r9 r1)
  clear hv hl hA ha hb hm1 hm2 hD1 hD2 hca hcb hba hbb r0 r1
  go_enter Tryz.func74, Tryz.ntmps74
  go_upto_region 1 with fail
  have hKp : Keep [(⟨gb, 0, none⟩, .string (bs nm)), (⟨gb, 1, none⟩, .slice A n c)] w := List.forall_mem_cons.2 ⟨⟨(V0.out.below.cell (p := ⟨gb, 0, none⟩) HR0.out.1).trans HR0.out.2, Nat.lt_of_lt_of_le HR0.out.1 V0.out.below.size⟩, List.forall_mem_cons.2 ⟨⟨(V0.out.below.cell (p := ⟨gb, 1, none⟩) HR1.out.1).trans HR1.out.2, Nat.lt_of_lt_of_le HR1.out.1 V0.out.below.size⟩, fun _ h => by simp at h⟩⟩
  refine wp_region_held_drew (S := Keep _) (by kernel_rfl) hKp.drew (fun hHeld => ?_)
  obtain ⟨wf, hwf⟩ : ∃ z, z = w.drew := ⟨_, rfl⟩
  have Vwf := Lib.hid (show Hp w ([]) wf by rw [hwf]; exact V0.out.go (bdrew _))
  have Bwf := Lib.hid (show Below w.heap.size w wf by rw [hwf]; exact bdrew _)
  rw [← hwf] at hHeld ⊢
  clear hwf hKp
  refine tk 0 ?_ rfl ?_ ?_; rotate_left
  · intro wl hSw
    have hSw : Keep _ wl := hSw
    have k0 := (hSw _ (.head _)).1
    have k1 := (hSw _ (.tail _ (.head _))).1
    dsimp only at k0 k1
    clear hSw
    go_simp
    try (with_reducible rfl)
  try simp only [Act.put, sA, sZ, sS]
  refine tk 1 ?_ rfl ?_ ?_; rotate_left; focus (intro w hSw; clear hSw; go_simp; try (with_reducible rfl))
  try simp only [Act.put, sA, sZ, sS]
  refine tk 3 ?_ rfl ?_ ?_; rotate_left
  · intro wl hSw
    have hSw : Keep _ wl := hSw
    have k0 := (hSw _ (.head _)).1
    have k1 := (hSw _ (.tail _ (.head _))).1
    dsimp only at k0 k1
    clear hSw
    go_simp
    try (with_reducible rfl)
  try simp only [Act.put, sA, sZ, sS]
  refine tk 4 ?_ rfl ?_ ?_; rotate_left; focus (intro w hSw; clear hSw; go_simp; try (with_reducible rfl))
  try simp only [Act.put, sA, sZ, sS]
  refine wpAnyH_ready (rs := [2]) (by kernel_rfl) (by simp) ?_
  refine AllReadyH.cons (List.getElem?_toArray.trans rfl) (fun K hK => ?_) AllReadyH.nil
  go_simp
  refine (C1.out _ Vwf.out.below).mono ?_
  rintro r w_2 ⟨rfl, hb⟩
  have V_2 := Lib.hid (Vwf.out.go hb)
  have B_2 := Lib.hid hb
  clear hb
  try go_wp2_with fail
  refine hK.out _ _ (hHeld.go B_2.out) (fun hHeld => ?_)
  clear hK K
  try simp only [Act.put, sA, sZ, sS]
  refine wpAnyH_ready (rs := [5]) (by kernel_rfl) (by simp) ?_
  refine AllReadyH.cons (List.getElem?_toArray.trans rfl) (fun K hK => ?_) AllReadyH.nil
  go_simp
  refine (C2.out _ V_2.out.below).mono ?_
  rintro r w_2_5 ⟨rfl, hb⟩
  have V_2_5 := Lib.hid (V_2.out.go hb)
  have B_2_5 := Lib.hid hb
  clear hb
  try go_wp2_with fail
  refine hK.out _ _ (hHeld.go B_2_5.out) (fun hHeld => ?_)
  clear hK K
  try simp only [Act.put, sA, sZ, sS]
  refine tk 6 ?_ rfl ?_ ?_; rotate_left; focus (intro w hSw; clear hSw; go_simp; try (with_reducible rfl))
  try simp only [Act.put, sA, sZ, sS]
  refine tk 7 ?_ rfl ?_ ?_; rotate_left; focus (intro w hSw; clear hSw; go_simp; try (with_reducible rfl))
  try simp only [Act.put, sA, sZ, sS]
  refine wpAnyH_done (by kernel_rfl) ?_ _
  clear hHeld
  go_wp2_with fail
  go_ret
  exact ⟨ca - cb, rfl, by rw [← HCA.out, ← HCB.out]; omega, V_2_5.out.below⟩
set_option maxHeartbeats 4000000 in
theorem sortD_any (nm : List UInt8) (L : List Sg) (A : Option Addr) (n c : Nat) (Q : Option Addr) (q e : Nat) (ps : List Prow) (W w : World) (hv : (vO nm L).2 = 0) (hl : L.length = n) (hA : SgnIn W A L) (hq : ps.length = q) (hq0 : 0 < q) (hq2 : q ≤ 200) (hP : ∀ p ∈ ps, p.2.length ≤ 1000 ∧ ∀ i ∈ p.2, i < n) (hasc : (ps.map (·.2)).Pairwise (fun x y => lexB x y = true)) (hV : Hp W (hdrP Q q e ps :: rowP ps) w) :
    Calls Tryz.prog 39 #[.agg #[.string (bs nm), .slice A n c], .slice Q q e] w fun r w' => r = .returned (.tuple #[]) ∧ ∃ ps', ps'.Perm ps ∧ ps'.map (·.2) = srtD L (ps.map (·.2)) ∧ Hp W (hdrP Q q e ps' :: rowP ps) w' := by
  obtain ⟨gd, rfl⟩ := hV.head (i := 0) rfl (it := hdrP Q q e ps) (A := Q) (c := e) rfl hq0
  obtain ⟨g1, hg1⟩ : ∃ z, z = w.heap.size := ⟨_, rfl⟩
  obtain ⟨W1, hW1⟩ : ∃ z, z = w.alloc (.cells #[.string (bs nm), .slice A n c] 24) := ⟨_, rfl⟩
  have V1 := Lib.hid (show Hp W (vals (fun x => (psA ps x).1.1) (fun x => (psA ps x).2.length) (fun x => (psA ps x).1.2) (some ⟨gd, 0, none⟩) q e (idS q) :: (obox g1 nm A n c :: rowP ps)) W1 by
    have h := hV.obox_new nm A n c
    rw [← hW1, ← hg1] at h
    have h2 := Hp.front (l := [_]) h
    rw [← hdr_vals, ← hq, idS_map, hq]
    exact h2)
  have HW1 := Lib.hid hW1
  have HG1 := Lib.hid hg1
  have HC := Lib.hid (show St.CmpOk (fun x => (psA ps x).1.1) (fun x => (psA ps x).2.length) (fun x => (psA ps x).1.2) (fun x => cD L (psA ps x).2) q g1 gd q e W (obox g1 nm A n c :: rowP ps) from fun w' Z hp i k hi hk => by
    obtain ⟨p, hpp⟩ := get_at (L := ps) (k := i) (by omega)
    obtain ⟨r, hrr⟩ := get_at (L := ps) (k := k) (by omega)
    obtain ⟨r0, r1, r2⟩ := hp.obox_at (i := 1) rfl
    have cp := hp.cells (i := i + 2) (it := nums p.1.1 p.2.length p.1.2 (dI p.2)) (rowP_get hpp) (A := p.1.1) (c := p.1.2) rfl
    have cr := hp.cells (i := k + 2) (it := nums r.1.1 r.2.length r.1.2 (dI r.2)) (rowP_get hrr) (A := r.1.1) (c := r.1.2) rfl
    simp only [psA_at hpp, psA_at hrr]
    exact cmpD_any nm L A n c p.2 r.2 p.1.1 r.1.1 p.2.length p.1.2 r.2.length r.1.2 g1 w' hv hl (hA.below hp.below) (hP p (List.mem_of_getElem? hpp)).2 (hP r (List.mem_of_getElem? hrr)).2 rfl rfl (hP p (List.mem_of_getElem? hpp)).1 (hP r (List.mem_of_getElem? hrr)).1 cp cr r0 r1 r2)
  have HASC := Lib.hid hasc
  have HQ := Lib.hid hq
  clear hW1 hg1 hv hl hA hP hasc hV hq
  go_enter Tryz.func39, Tryz.ntmps39
  go_upto_region 1 with fail
  rw [← HG1.out, ← HW1.out]
  go_wp2_with fail
  refine (St.stableF_any (fun x => cD L (psA ps x).2) q g1 gd q e HC.out (by omega) (idS q) W1 (idS_len q) (idS_asc q) (fun x hx => idS_mem.1 hx) V1.out).mono ?_
  rintro r w3 ⟨rfl, Z, h1, h2, h3⟩
  have HM := Lib.hid (sort_map (L := L) HASC.out (by rw [HQ.out]; exact h1) h2)
  have V3 := Lib.hid (show Hp W (hdrP (some ⟨gd, 0, none⟩) q e (Z.map (psA ps)) :: rowP ps) w3 by
    rw [hdr_vals]
    exact Hp.out1 (a := [_]) h3)
  clear h1 h2 h3
  go_wp2_with fail
  exact bodyPost_end (results_none rfl _ _ _) rfl ⟨rfl, Z.map (psA ps), HM.out.1, HM.out.2, V3.out⟩
end Go.Proofs.YtpifchlpakajjaaGreat

namespace Go.Proofs.YtpifchlpakajjaaGreat
open Go.RowKit
set_option linter.unusedVariables false
set_option linter.unusedSimpArgs false
set_option maxRecDepth 100000

def AlPost (nm : List UInt8) (L : List Sg) (u : List UInt8) (w : World) (e : Ending) (w' : World) : Prop :=
  (bgE nm L u ≠ 0 ∧ e = .returned (.tuple #[.slice none 0 0, .int .i64 (bgE nm L u)]) ∧ Below w.heap.size w w') ∨
  (bgE nm L u = 0 ∧ ∃ Q q e' ps pool, e = .returned (.tuple #[.slice Q q e', .int .i64 0]) ∧ ps.length = q ∧ ps.map (·.2) = srtD L (dvs L u) ∧ Hp w (hdrP Q q e' ps :: pool) w' ∧ ∀ p ∈ ps, ∃ k : Nat, pool[k]? = some (nums p.1.1 p.2.length p.1.2 (dI p.2)))
theorem bgE_zero {nm : List UInt8} {L : List Sg} {u : List UInt8} (h : bgE nm L u = 0) : (vO nm L).2 = 0 ∧ 0 < u.length ∧ u.length ≤ 16 ∧ 0 < (dvs L u).length ∧ (dvs L u).length ≤ 200 := by
  unfold bgE at h
  split at h
  · exact absurd h (by assumption)
  · rename_i hg
    have hg : gvE nm L u = 0 := by simpa using hg
    have hw := wdE_zero (gvE_zero hg).2
    split at h
    · cases h
    · split at h
      · cases h
      · exact ⟨(gvE_zero hg).1, hw.1, hw.2.1, by omega, by omega⟩
theorem dv_bd {nm : List UInt8} {L : List Sg} (h : (vO nm L).2 = 0) {u : List UInt8} (h0 : 0 < u.length) (hu : u.length ≤ 16) {d : List Nat} (hd : d ∈ dvs L u) : d.length ≤ 16 ∧ ∀ i ∈ d, i < L.length := by
  have hi := (dvs_mem (TxNe.ok h) h0 d).1 hd
  have := isD_len h hi
  exact ⟨by omega, hi.1⟩
set_option maxHeartbeats 4000000 in
theorem all_any (nm : List UInt8) (L : List Sg) (A : Option Addr) (n c : Nat) (u : List UInt8) (w : World) (hnm : nm.length ≤ 140737488355328) (hl : L.length = n) (hn : n ≤ 17592186044416) (hnc : n ≤ c) (hs : SgBd L) (hA : SgnIn w A L) (hu : u.length ≤ 1000000) :
    Calls Tryz.prog 12 #[.agg #[.string (bs nm), .slice A n c], .string (bs u)] w (AlPost nm L u w) := by
  obtain ⟨g1, hg1⟩ : ∃ z, z = w.heap.size := ⟨_, rfl⟩
  obtain ⟨W1, hW1⟩ : ∃ z, z = w.alloc (.cells #[.string (bs nm), .slice A n c] 24) := ⟨_, rfl⟩
  have V1 := Lib.hid (show Hp w [obox g1 nm A n c] W1 by rw [hW1, hg1]; exact (Hp.start w).obox_new nm A n c)
  have HW1 := Lib.hid hW1
  have HG1 := Lib.hid hg1
  have HBG := Lib.hid (begin_any nm L A n c u W1 hnm hl hn hnc hs (hA.below V1.out.below) hu)
  have HL := Lib.hid hl
  have HA := Lib.hid hA
  obtain ⟨z0, z1, z2⟩ := V1.out.obox_at (i := 0) rfl
  clear hW1 hg1 hA hs hl hnm
  go_enter Tryz.func12, Tryz.ntmps12
  go_upto_region 1 with fail
  rw [← HG1.out, ← HW1.out]
  go_wp2_with fail
  refine HBG.out.mono ?_
  rintro e w2 (⟨hne, rfl, hb⟩ | ⟨h0, g, t, rfl, ht, hp⟩)
  · have V2 := Lib.hid (V1.out.go hb)
    have HNE := Lib.hid hne
    obtain ⟨v, hvv⟩ : ∃ v, v = bgE nm L u := ⟨_, rfl⟩
    rw [← hvv] at hne ⊢
    have HVV := Lib.hid hvv
    have e1 : (v != 0) = true := bne_yes hne
    clear hb hne hvv z0 z1 z2
    go_wp2_with fail
    go_ret2
    exact .inl ⟨HNE.out, by rw [← HVV.out]; rfl, V2.out.below⟩
  have V2 := Lib.hid (show Hp w (sxb g nm A n c u t :: [obox g1 nm A n c]) w2 from V1.out.join hp)
  have HT := Lib.hid ht
  have H0 := Lib.hid h0
  have HZ := Lib.hid (bgE_zero h0)
  clear hp ht h0 z0 z1 z2
  go_wp2_with fail
  refine (list_any nm L A n c u g _ HZ.out.1 HL.out (HA.out.below V2.out.below) (sxb_is V2.out (i := 0) rfl HT.out) HZ.out.2.1 HZ.out.2.2.1 HZ.out.2.2.2.2).mono ?_
  rintro e w3 ⟨Q, q, e', ps, rfl, hpl, hpe, hp⟩
  have HPL := Lib.hid hpl
  have HPE := Lib.hid hpe
  have VP := Lib.hid hp
  have V3 := Lib.hid (V2.out.go hp.below)
  have hq : 0 < q ∧ q ≤ 200 := by
    have h1 := congrArg List.length hpe
    rw [List.length_map] at h1
    have := HZ.out.2.2.2
    omega
  obtain ⟨z0, z1, z2⟩ := V3.out.obox_at (i := 1) rfl
  clear hpl hpe hp
  go_wp2_with fail
  refine (sortD_any nm L A n c Q q e' ps w2 _ HZ.out.1 HL.out (HA.out.below V2.out.below) HPL.out hq.1 hq.2 (fun p hp => by
    have := dv_bd HZ.out.1 HZ.out.2.1 HZ.out.2.2.1 (d := p.2) (by rw [← HPE.out]; exact List.mem_map_of_mem hp)
    rw [HL.out] at this
    exact ⟨by omega, this.2⟩) (by rw [HPE.out]; exact dvs_asc (TxNe.ok HZ.out.1) u) VP.out).mono ?_
  rintro e w4 ⟨rfl, ps', hpm, hps, hp⟩
  have V4 := Lib.hid (show Hp w (hdrP Q q e' ps' :: (rowP ps ++ (sxb g nm A n c u t :: [obox g1 nm A n c]))) w4 from V2.out.join hp)
  have HPM := Lib.hid hpm
  have HPS := Lib.hid hps
  clear hpm hps hp z0 z1 z2
  go_wp2_with fail
  go_ret2
  exact .inr ⟨H0.out, Q, q, e', ps', _, rfl, by rw [HPM.out.length_eq, HPL.out], by rw [HPS.out, HPE.out], V4.out, fun p hp => by
    obtain ⟨k, hk⟩ := List.getElem?_of_mem (HPM.out.mem_iff.1 hp)
    exact ⟨k, by rw [List.getElem?_append_left (by unfold rowP; rw [List.length_map]; exact (List.getElem?_eq_some_iff.1 hk).1)]; exact rowP_get hk⟩⟩
def BsPost (nm : List UInt8) (L : List Sg) (u : List UInt8) (w : World) (e : Ending) (w' : World) : Prop :=
  (bgE nm L u ≠ 0 ∧ e = .returned (.tuple #[.slice none 0 0, .int .i64 0, .int .i64 (bgE nm L u)]) ∧ Below w.heap.size w w') ∨
  (bgE nm L u = 0 ∧ ∃ C d x r, e = .returned (.tuple #[.slice C x.length d, .int .i64 (cD L x), .int .i64 0]) ∧ srtD L (dvs L u) = x :: r ∧ Hp w [nums C x.length d (dI x)] w')
set_option maxHeartbeats 4000000 in
theorem bestD_any (nm : List UInt8) (L : List Sg) (A : Option Addr) (n c : Nat) (u : List UInt8) (w : World) (hnm : nm.length ≤ 140737488355328) (hl : L.length = n) (hn : n ≤ 17592186044416) (hnc : n ≤ c) (hs : SgBd L) (hA : SgnIn w A L) (hu : u.length ≤ 1000000) :
    Calls Tryz.prog 16 #[.agg #[.string (bs nm), .slice A n c], .string (bs u)] w (BsPost nm L u w) := by
  obtain ⟨g1, hg1⟩ : ∃ z, z = w.heap.size := ⟨_, rfl⟩
  obtain ⟨W1, hW1⟩ : ∃ z, z = w.alloc (.cells #[.string (bs nm), .slice A n c] 24) := ⟨_, rfl⟩
  have V1 := Lib.hid (show Hp w [obox g1 nm A n c] W1 by rw [hW1, hg1]; exact (Hp.start w).obox_new nm A n c)
  have HW1 := Lib.hid hW1
  have HG1 := Lib.hid hg1
  have HBG := Lib.hid (all_any nm L A n c u W1 hnm hl hn hnc hs (hA.below V1.out.below) hu)
  have HL := Lib.hid hl
  have HA := Lib.hid hA
  obtain ⟨z0, z1, z2⟩ := V1.out.obox_at (i := 0) rfl
  clear hW1 hg1 hA hs hl hnm
  go_enter Tryz.func16, Tryz.ntmps16
  go_upto_region 1 with fail
  rw [← HG1.out, ← HW1.out]
  go_wp2_with fail
  refine HBG.out.mono ?_
  rintro e w2 (⟨hne, rfl, hb⟩ | ⟨h0, Q, q, e', ps, pool, rfl, hpl, hpe, hp, hpo⟩)
  · have V2 := Lib.hid (V1.out.go hb)
    have HNE := Lib.hid hne
    obtain ⟨v, hvv⟩ : ∃ v, v = bgE nm L u := ⟨_, rfl⟩
    rw [← hvv] at hne ⊢
    have HVV := Lib.hid hvv
    have e1 : (v != 0) = true := bne_yes hne
    clear hb hne hvv z0 z1 z2
    go_wp2_with fail
    go_ret3
    exact .inl ⟨HNE.out, by rw [← HVV.out]; rfl, V2.out.below⟩
  have H0 := Lib.hid h0
  have HZ := Lib.hid (bgE_zero h0)
  have hql : 0 < ps.length := by
    have h1 := congrArg List.length hpe
    rw [List.length_map, srtD_len] at h1
    have := HZ.out.2.2.2.1
    omega
  obtain ⟨p, hpp⟩ := get_at (L := ps) (k := 0) hql
  obtain ⟨⟨C, d⟩, x⟩ := p
  obtain ⟨kp, hkp⟩ := hpo _ (List.mem_of_getElem? hpp)
  have hq0 : 0 < q := by omega
  obtain ⟨r, hr⟩ : ∃ r, srtD L (dvs L u) = x :: r := by
    cases ps with
    | nil => simp at hql
    | cons a b =>
      injection hpp with hpp
      subst hpp
      exact ⟨b.map fun y => y.2, by rw [← hpe]; rfl⟩
  have HR := Lib.hid hr
  have HXB := Lib.hid (show x.length ≤ 16 ∧ ∀ i ∈ x, i < n by
    have := dv_bd HZ.out.1 HZ.out.2.1 HZ.out.2.2.1 (d := x) ((srtD_mem (dvs_nodup (TxNe.ok HZ.out.1) u) x).1 (by rw [hr]; exact List.mem_cons_self))
    rw [HL.out] at this
    exact this)
  have V2 := Lib.hid (show Hp w (nums C x.length d (dI x) :: hdrP Q q e' ps :: [obox g1 nm A n c]) w2 from V1.out.join (hp.sub (fun i => if i = 0 then kp + 1 else if i = 1 then 0 else kp + i + 5) (fun i j e => by split at e <;> split at e <;> (try split at e) <;> (try split at e) <;> omega) (fun i it hi => by
    match i, hi with
    | 0, hi => rw [if_pos rfl]; injection hi with hi; subst hi; exact hkp
    | 1, hi => rw [if_neg (by decide), if_pos rfl]; exact hi
    | i + 2, hi => simp at hi) : Hp W1 [nums C x.length d (dI x), hdrP Q q e' ps] w2))
  obtain ⟨gq, hgq⟩ := hp.head (i := 0) (it := hdrP Q q e' ps) rfl (A := Q) (c := e') rfl hq0
  subst hgq
  have HC0 := Lib.hid (fun (w' : World) (h' : Hp w (nums C x.length d (dI x) :: hdrP (some ⟨gq, 0, none⟩) q e' ps :: [obox g1 nm A n c]) w') => (show w'.cell? ⟨gq, 0, none⟩ = some (.slice C x.length d) ∧ gq < w'.heap.size from by
    have := h'.cell (i := 1) (it := hdrP (some ⟨gq, 0, none⟩) q e' ps) rfl (g := gq) (cap := e') rfl (rvP_get hpp)
    exact ⟨this.1, this.2.2⟩))
  clear hp hpo hpp hkp hpe hpl h0 hr hql z0 z1 z2
  have hqi : (0 : Int) < (q : Int) := by omega
  go_upto_region 4 with fail
  have hKp : Keep [(⟨gq, 0, none⟩, .slice C x.length d), (⟨g1, 0, none⟩, .string (bs nm)), (⟨g1, 1, none⟩, .slice A n c)] w2 := List.forall_mem_cons.2 ⟨⟨(HC0.out _ V2.out).1, (HC0.out _ V2.out).2⟩, List.forall_mem_cons.2 ⟨⟨(V2.out.box_at (i := 2) (j := 0) rfl rfl).1, (V2.out.box_at (i := 2) (j := 0) rfl rfl).2.2⟩, List.forall_mem_cons.2 ⟨⟨(V2.out.box_at (i := 2) (j := 1) rfl rfl).1, (V2.out.box_at (i := 2) (j := 1) rfl rfl).2.2⟩, fun _ h => by simp at h⟩⟩⟩
  refine wp_region_held_drew (S := Keep _) (by kernel_rfl) hKp.drew (fun hHeld => ?_)
  obtain ⟨wf, hwf⟩ : ∃ z, z = w2.drew := ⟨_, rfl⟩
  have Vwf := Lib.hid (show Hp w (nums C x.length d (dI x) :: hdrP (some ⟨gq, 0, none⟩) q e' ps :: obox g1 nm A n c :: []) wf by rw [hwf]; exact V2.out.go (bdrew _))
  have Bwf := Lib.hid (show Below w2.heap.size w2 wf by rw [hwf]; exact bdrew _)
  rw [← hwf] at hHeld ⊢
  clear hwf hKp
  refine tk 0 ?_ rfl ?_ ?_; rotate_left; focus (intro w hSw; clear hSw; go_simp; try (with_reducible rfl))
  try simp only [Act.put, sA, sZ, sS]
  refine tk 1 ?_ rfl ?_ ?_; rotate_left; focus (intro w hSw; clear hSw; go_simp; try (with_reducible rfl))
  try simp only [Act.put, sA, sZ, sS]
  refine tk 2 ?_ rfl ?_ ?_; rotate_left
  · intro wl hSw
    have hSw : Keep _ wl := hSw
    have k0 := (hSw _ (.head _)).1
    dsimp only at k0
    clear hSw
    go_simp
    try (with_reducible rfl)
  try simp only [Act.put, sA, sZ, sS]
  refine tk 3 ?_ rfl ?_ ?_; rotate_left
  · intro wl hSw
    have hSw : Keep _ wl := hSw
    have k0 := (hSw _ (.tail _ (.head _))).1
    have k1 := (hSw _ (.tail _ (.tail _ (.head _)))).1
    dsimp only at k0 k1
    clear hSw
    go_simp
    try (with_reducible rfl)
  try simp only [Act.put, sA, sZ, sS]
  refine tk 4 ?_ rfl ?_ ?_; rotate_left; focus (intro w hSw; clear hSw; go_simp; try (with_reducible rfl))
  try simp only [Act.put, sA, sZ, sS]
  refine tk 5 ?_ rfl ?_ ?_; rotate_left; focus (intro w hSw; clear hSw; go_simp; try (with_reducible rfl))
  try simp only [Act.put, sA, sZ, sS]
  refine tk 6 ?_ rfl ?_ ?_; rotate_left
  · intro wl hSw
    have hSw : Keep _ wl := hSw
    have k0 := (hSw _ (.head _)).1
    dsimp only at k0
    clear hSw
    go_simp
    try (with_reducible rfl)
  try simp only [Act.put, sA, sZ, sS]
  refine wpAnyH_ready (rs := [7]) (by kernel_rfl) (by simp) ?_
  refine AllReadyH.cons (List.getElem?_toArray.trans rfl) (fun K hK => ?_) AllReadyH.nil
  go_simp
  refine (costP_any nm L A n c x C x.length d _ HZ.out.1 HL.out (HA.out.below Vwf.out.below) HXB.out.2 rfl (by have := HXB.out.1; omega) (Vwf.out.cells (i := 0) (it := nums C x.length d (dI x)) rfl (A := C) (c := d) rfl)).mono ?_
  rintro r2 w_7 ⟨rfl, hb⟩
  have V_7 := Lib.hid (Vwf.out.go hb)
  have B_7 := Lib.hid hb
  clear hb
  try go_wp2_with fail
  refine hK.out _ _ (hHeld.go B_7.out) (fun hHeld => ?_)
  clear hK K
  try simp only [Act.put, sA, sZ, sS]
  refine tk 8 ?_ rfl ?_ ?_; rotate_left; focus (intro w hSw; clear hSw; go_simp; try (with_reducible rfl))
  try simp only [Act.put, sA, sZ, sS]
  refine tk 9 ?_ rfl ?_ ?_; rotate_left; focus (intro w hSw; clear hSw; go_simp; try (with_reducible rfl))
  try simp only [Act.put, sA, sZ, sS]
  refine tk 10 ?_ rfl ?_ ?_; rotate_left; focus (intro w hSw; clear hSw; go_simp; try (with_reducible rfl))
  try simp only [Act.put, sA, sZ, sS]
  refine wpAnyH_done (by kernel_rfl) ?_ _
  clear hHeld
  go_wp2_with fail
  go_ret3
  exact .inr ⟨H0.out, C, d, x, r, rfl, HR.out, V_7.out.only⟩
end Go.Proofs.YtpifchlpakajjaaGreat
