/- Several texts in one: Je, Jj, Jm. -/
import Derived.Test.YtpifchlpakajjaaGreatRday
import Derived.Test.YtpifchlpakajjaaGreatRdbe
import Derived.Test.YtpifchlpakajjaaGreatRdat
import Derived.Test.YtpifchlpakajjaaGreatRdbb
namespace Go.Proofs.YtpifchlpakajjaaGreat
open Go.RowKit
set_option linter.unusedVariables false
set_option linter.unusedSimpArgs false
set_option maxRecDepth 100000

theorem nbS_none {L : List Sg} {d : List Nat} {i : Int} (h : i < 0 ∨ (d.length : Int) ≤ i) : nbS L d i = [] := by unfold nbS; rw [if_pos h]
theorem nbS_at {L : List Sg} {d : List Nat} {k i : Nat} {x : Sg} (hk : d[k]? = some i) (hx : L[i]? = some x) : nbS L d (k : Int) = x.s := by
  have hkl := (List.getElem?_eq_some_iff.1 hk).1
  unfold nbS
  rw [if_neg (by omega), show ((k : Int)).toNat = k by omega, List.getD_eq_getElem?_getD, hk]
  show (sgAt L i).s = x.s
  rw [sgAt_is hx]
def NbPost (S : List Snd) (w : World) (r : Ending) (w' : World) : Prop := ∃ B q e, r = .returned (.slice B q e) ∧ S.length = q ∧ CellsIn w' B (sndsC S) ∧ Below w.heap.size w w'
set_option maxHeartbeats 2000000 in
theorem rneigh_any (nm : List UInt8) (L : List Sg) (A : Option Addr) (n c : Nat) (d : List Nat) (D : Option Addr) (m e : Nat) (i : Int) (w : World) (hl : L.length = n) (hn : n ≤ 1000000) (hA : SgnIn w A L) (hd : ∀ i ∈ d, i < n) (hm : d.length = m) (hmb : m ≤ 1000) (hD : CellsIn w D (ints (dI d))) :
    Calls Tryz.prog 56 #[.agg #[.string (bs nm), .slice A n c], .slice D m e, .int .i64 i] w (NbPost (nbS L d i) w) := by
  obtain ⟨g1, hg1⟩ : ∃ z, z = w.heap.size := ⟨_, rfl⟩
  obtain ⟨W1, hW1⟩ : ∃ z, z = w.alloc (.cells #[.string (bs nm), .slice A n c] 24) := ⟨_, rfl⟩
  have V1 := Lib.hid (show Hp w [obox g1 nm A n c] W1 by rw [hW1, hg1]; exact (Hp.start w).obox_new nm A n c)
  have HW1 := Lib.hid hW1
  have HG1 := Lib.hid hg1
  have HL := Lib.hid hl
  have HA := Lib.hid hA
  have HD := Lib.hid hD
  have HDN := Lib.hid hd
  have HM := Lib.hid hm
  clear hW1 hg1 hl hA hD hd hm
  by_cases hneg : i < 0
  · have HE := Lib.hid (nbS_none (L := L) (d := d) (Or.inl hneg))
    have e1 : decide (i < 0) = true := decide_eq_true hneg
    go_enter Tryz.func56, Tryz.ntmps56
    go_upto_region 1 with fail
    rw [← HG1.out, ← HW1.out]
    go_wp2_with fail
    go_ret
    exact ⟨none, 0, 0, rfl, by rw [HE.out]; rfl, by rw [HE.out]; exact CellsIn.nil _ _, V1.out.below⟩
  have e1 : decide (i < 0) = false := decide_eq_false hneg
  by_cases hbig : (m : Int) ≤ i
  · have HE := Lib.hid (nbS_none (L := L) (d := d) (Or.inr (show (d.length : Int) ≤ i by rw [HM.out]; exact hbig)))
    have e2 : decide ((m : Int) ≤ i) = true := decide_eq_true hbig
    go_enter Tryz.func56, Tryz.ntmps56
    go_upto_region 1 with fail
    rw [← HG1.out, ← HW1.out]
    go_wp2_with fail
    go_ret
    exact ⟨none, 0, 0, rfl, by rw [HE.out]; rfl, by rw [HE.out]; exact CellsIn.nil _ _, V1.out.below⟩
  have e2 : decide ((m : Int) ≤ i) = false := decide_eq_false hbig
  obtain ⟨k, rfl⟩ := Int.eq_ofNat_of_zero_le (show 0 ≤ i by omega)
  have hkm : k < m := by omega
  obtain ⟨j, hj⟩ := get_at (L := d) (k := k) (by have := HM.out; omega)
  have hjn := HDN.out j (List.mem_of_getElem? hj)
  obtain ⟨x, hx⟩ := get_at (L := L) (k := j) (by have := HL.out; omega)
  have HE := Lib.hid (nbS_at hj hx)
  obtain ⟨bD, oD, hDe, hbD, d0⟩ := (HD.out.below V1.out.below).idx hj
  obtain ⟨b, off, Aj, cj, hAe, hb, c0, c1, c2, c3, c4⟩ := (HA.out.below V1.out.below).at hx
  have HC := Lib.hid c4
  obtain ⟨o0, o1, o2⟩ := V1.out.obox_at (i := 0) rfl
  rw [hAe] at o1
  have HAE := Lib.hid hAe
  have HDE := Lib.hid hDe
  subst hAe
  subst hDe
  have hj4 : j * 4 ≤ 4000000 := by omega
  clear hj hx c0 c2 c3 c4
  go_enter Tryz.func56, Tryz.ntmps56
  go_upto_region 1 with fail
  rw [← HG1.out, ← HW1.out]
  go_upto_region 3 with fail
  have hKp : Keep [(⟨g1, 1, none⟩, .slice (some ⟨b, off, none⟩) n c), (⟨bD, oD + k, none⟩, .int .i64 (j : Int)), (⟨b, off + j * 4 + 1, none⟩, .slice Aj x.s.length cj)] W1 := List.forall_mem_cons.2 ⟨⟨(V1.out.box_at (i := 0) (j := 1) rfl rfl).1, (V1.out.box_at (i := 0) (j := 1) rfl rfl).2.2⟩, List.forall_mem_cons.2 ⟨⟨d0, hbD⟩, List.forall_mem_cons.2 ⟨⟨c1, hb⟩, fun _ h => by simp at h⟩⟩⟩
  refine wp_region_held_drew (S := Keep _) (by kernel_rfl) hKp.drew (fun hHeld => ?_)
  obtain ⟨wf, hwf⟩ : ∃ z, z = W1.drew := ⟨_, rfl⟩
  have Vwf := Lib.hid (show Hp w (obox g1 nm (some ⟨b, off, none⟩) n c :: []) wf by rw [hwf]; exact V1.out.go (bdrew _))
  have Bwf := Lib.hid (show Below W1.heap.size W1 wf by rw [hwf]; exact bdrew _)
  rw [← hwf] at hHeld ⊢
  clear hwf hKp
  refine tk 0 ?_ rfl ?_ ?_; rotate_left; focus (intro w hSw; clear hSw; go_simp; try (with_reducible rfl))
  try simp only [Act.put, sA, sZ, sS]
  refine tk 1 ?_ rfl ?_ ?_; rotate_left
  · intro wl hSw
    have hSw : Keep _ wl := hSw
    have k0 := (hSw _ (.head _)).1
    dsimp only at k0
    clear hSw
    go_simp
    try (with_reducible rfl)
  try simp only [Act.put, sA, sZ, sS]
  refine tk 2 ?_ rfl ?_ ?_; rotate_left; focus (intro w hSw; clear hSw; go_simp; try (with_reducible rfl))
  try simp only [Act.put, sA, sZ, sS]
  refine tk 3 ?_ rfl ?_ ?_; rotate_left; focus (intro w hSw; clear hSw; go_simp; try (with_reducible rfl))
  try simp only [Act.put, sA, sZ, sS]
  refine tk 4 ?_ rfl ?_ ?_; rotate_left; focus (intro w hSw; clear hSw; go_simp; try (with_reducible rfl))
  try simp only [Act.put, sA, sZ, sS]
  refine tk 5 ?_ rfl ?_ ?_; rotate_left
  · intro wl hSw
    have hSw : Keep _ wl := hSw
    have k0 := (hSw _ (.tail _ (.head _))).1
    dsimp only at k0
    clear hSw
    go_simp
    try (with_reducible rfl)
  try simp only [Act.put, sA, sZ, sS]
  refine tk 6 ?_ rfl ?_ ?_; rotate_left; focus (intro w hSw; clear hSw; go_simp; try (with_reducible rfl))
  try simp only [Act.put, sA, sZ, sS]
  refine tk 7 ?_ rfl ?_ ?_; rotate_left; focus (intro w hSw; clear hSw; go_simp; try (with_reducible rfl))
  try simp only [Act.put, sA, sZ, sS]
  refine tk 8 ?_ rfl ?_ ?_; rotate_left
  · intro wl hSw
    have hSw : Keep _ wl := hSw
    have k0 := (hSw _ (.tail _ (.tail _ (.head _)))).1
    dsimp only at k0
    clear hSw
    go_simp
    try (with_reducible rfl)
  try simp only [Act.put, sA, sZ, sS]
  refine tk 9 ?_ rfl ?_ ?_; rotate_left; focus (intro w hSw; clear hSw; go_simp; try (with_reducible rfl))
  try simp only [Act.put, sA, sZ, sS]
  refine wpAnyH_done (by kernel_rfl) ?_ _
  clear hHeld
  go_wp2_with fail
  go_ret
  exact ⟨Aj, x.s.length, cj, rfl, by rw [HE.out], by rw [HE.out]; exact HC.out.below Bwf.out, Vwf.out.below⟩
theorem nb_le {nm : List UInt8} {L : List Sg} (h : (vO nm L).2 = 0) (d : List Nat) (i : Int) : (nbS L d i).length ≤ 1000000 := by
  unfold nbS
  split
  · simp
  · by_cases hj : d.getD i.toNat 0 < L.length
    · have := sgn_bd h hj; omega
    · unfold sgAt
      rw [List.getD_eq_getElem?_getD, List.getElem?_eq_none (by omega)]
      simp [zSg]
def chC (nm : List UInt8) (L : List Sg) (u : List UInt8) (d : List Int) : Int := if chE nm L u d = 0 then cD L (dN d) else 0
theorem chC_no {nm : List UInt8} {L : List Sg} {u : List UInt8} {d : List Int} {v : Int} (h : chE nm L u d = v) (hv : v ≠ 0) : chC nm L u d = 0 := by unfold chC; rw [if_neg (by rw [h]; exact hv)]
theorem ret_pair {a b x y : Int} (h1 : x = a) (h2 : y = b) : Ending.returned (.tuple #[.int .i64 a, .int .i64 b]) = .returned (.tuple #[.int .i64 x, .int .i64 y]) := by rw [h1, h2]
set_option maxHeartbeats 3000000 in
theorem rcheck13_any (nm : List UInt8) (L : List Sg) (A : Option Addr) (n c : Nat) (u : List UInt8) (d : List Int) (D : Option Addr) (m e : Nat) (w : World) (hnm : nm.length ≤ 140737488355328) (hl : L.length = n) (hn : n ≤ 17592186044416) (hs : SgBd L) (hA : SgnIn w A L) (hu : u.length ≤ 1000000) (hm : d.length = m) (hmb : m ≤ 1000) (hD : CellsIn w D (ints d)) :
    Calls Tryz.prog 20 #[.agg #[.string (bs nm), .slice A n c], .string (bs u), .slice D m e] w fun r w' => r = .returned (.tuple #[.int .i64 (chC nm L u d), .int .i64 (chE nm L u d)]) ∧ Below w.heap.size w w' := by
  obtain ⟨g1, hg1⟩ : ∃ z, z = w.heap.size := ⟨_, rfl⟩
  obtain ⟨W1, hW1⟩ : ∃ z, z = w.alloc (.cells #[.string (bs nm), .slice A n c] 24) := ⟨_, rfl⟩
  have V1 := Lib.hid (show Hp w [obox g1 nm A n c] W1 by rw [hW1, hg1]; exact (Hp.start w).obox_new nm A n c)
  have HW1 := Lib.hid hW1
  have HG1 := Lib.hid hg1
  have HGI := Lib.hid (rgiven_any nm L A n c u W1 hnm hl hn hs (hA.below V1.out.below) hu)
  have HSI := Lib.hid (fun (w' : World) (h : Below w.heap.size w w') => rsigns_any nm A n c d D m e w' hm (by omega) (hD.below h))
  have HL := Lib.hid hl
  have HA := Lib.hid hA
  have HD := Lib.hid hD
  have HM := Lib.hid hm
  obtain ⟨s, hsu⟩ : ∃ s, s = bs u := ⟨_, rfl⟩
  obtain ⟨ul, hul⟩ : ∃ ul, ul = u.length := ⟨_, rfl⟩
  have HSU := Lib.hid hsu
  have HUL := Lib.hid hul
  have hsz : s.size = ul := by rw [hsu, bs_size, hul]
  rw [← hsu] at HGI ⊢
  rw [← hul] at hu
  obtain ⟨z0, z1, z2⟩ := V1.out.obox_at (i := 0) rfl
  clear hW1 hg1 hl hA hD hm hs hnm hsu hul
  go_enter Tryz.func20, Tryz.ntmps20
  go_upto_region 1 with fail
  rw [← HG1.out, ← HW1.out]
  go_wp2_with fail
  refine HGI.out.mono ?_
  rintro r w2 ⟨rfl, hb⟩
  have V2 := Lib.hid (V1.out.go hb)
  clear hb z0 z1 z2
  by_cases hgv : gvE nm L u = 0
  case neg =>
    have HE := Lib.hid (show chE nm L u d = gvE nm L u by unfold chE; rw [if_pos hgv])
    have HE2 := Lib.hid (chC_no HE.out hgv)
    obtain ⟨v, hvv⟩ : ∃ v, v = gvE nm L u := ⟨_, rfl⟩
    rw [← hvv] at hgv HE ⊢
    have e1 : (v != 0) = true := bne_yes hgv
    clear hgv hvv
    go_wp2_with fail
    go_ret2
    exact ⟨ret_pair HE2.out HE.out, V2.out.below⟩
  have HGV := Lib.hid hgv
  have HV := Lib.hid (gvE_zero hgv).1
  rw [hgv]
  clear hgv
  obtain ⟨z0, z1, z2⟩ := V2.out.obox_at (i := 0) rfl
  go_wp2_with fail
  refine (HSI.out _ V2.out.below).mono ?_
  rintro r w3 ⟨rfl, hb⟩
  have V3 := Lib.hid (V2.out.go hb)
  clear hb z0 z1 z2
  cases hrg : rgI n d with
  | false =>
    have HE := Lib.hid (show chE nm L u d = 6 by unfold chE; rw [if_neg (by rw [HGV.out]; simp), if_pos (by rw [HL.out]; exact hrg)])
    have HE2 := Lib.hid (chC_no HE.out (by decide))
    have hsg : sgsE n d = 6 := by unfold sgsE; rw [if_neg (by rw [hrg]; decide)]
    rw [hsg]
    clear hrg hsg
    go_wp2_with fail
    go_ret2
    exact ⟨ret_pair HE2.out HE.out, V3.out.below⟩
  | true =>
  have hsg : sgsE n d = 0 := by unfold sgsE; rw [if_pos hrg]
  rw [hsg]
  obtain ⟨dn, hdn⟩ : ∃ dn, dn = dN d := ⟨_, rfl⟩
  have hdd : dI dn = d := by rw [hdn]; exact dI_dN hrg
  have HDN := Lib.hid (show ∀ i ∈ dn, i < n by rw [hdn]; exact rgI_dN hrg)
  have HDE := Lib.hid (show CellsIn w D (ints (dI dn)) by rw [hdd]; exact HD.out)
  have HDM := Lib.hid (show dn.length = m by rw [hdn, dN_len]; exact HM.out)
  have HN0 := Lib.hid hdn
  have HC := Lib.hid (show chE nm L u d = if tD L dn ≠ u then 1 else if okD L [] dn = true then 0 else 19 by unfold chE; rw [if_neg (by rw [HGV.out]; simp), if_neg (by rw [HL.out, hrg]; decide), ← hdn])
  have hn120 : n ≤ 120 := by have := (vO_zero HV.out).2.2.1; have := HL.out; omega
  clear hrg hsg hdn hdd
  by_cases hlong : ul < m
  · have e1 : decide ((ul : Int) < (m : Int)) = true := decide_eq_true (by omega)
    have HE := Lib.hid (show chE nm L u d = 1 by
      rw [HC.out, if_pos]
      intro h
      have := (tD_len_le HV.out (d := dn) (by rw [HL.out]; exact HDN.out)).2.1
      rw [h, HDM.out] at this
      have := HUL.out
      omega)
    have HE2 := Lib.hid (chC_no HE.out (by decide))
    go_wp2_with fail
    go_ret2
    exact ⟨ret_pair HE2.out HE.out, V3.out.below⟩
  have e1 : decide ((ul : Int) < (m : Int)) = false := decide_eq_false (by omega)
  obtain ⟨z0, z1, z2⟩ := V3.out.obox_at (i := 0) rfl
  go_wp2_with fail
  refine (rjoin13_any nm L A n c dn D m e _ HV.out HL.out (HA.out.below V3.out.below) HDN.out HDM.out hmb (HDE.out.below V3.out.below)).mono ?_
  rintro r w4 ⟨rfl, hb⟩
  have V4 := Lib.hid (V3.out.go hb)
  clear hb z0 z1 z2
  have hst : s.toList = u := by rw [HSU.out]; exact toL _
  cases htx : (tD L dn == u) with
  | false =>
    have e2 : ((bs (tD L dn)).toList == s.toList) = false := by rw [toL, hst, htx]
    have HE := Lib.hid (show chE nm L u d = 1 by rw [HC.out, if_pos (by intro h; rw [h] at htx; simp at htx)])
    have HE2 := Lib.hid (chC_no HE.out (by decide))
    clear htx hst
    go_wp2_with fail
    go_ret2
    exact ⟨ret_pair HE2.out HE.out, V4.out.below⟩
  | true =>
  have e2 : ((bs (tD L dn)).toList == s.toList) = true := by rw [toL, hst, htx]
  have HC2 := Lib.hid (show chE nm L u d = if okD L [] dn = true then 0 else 19 by rw [HC.out, if_neg (by rw [beq_iff_eq.1 htx]; simp)])
  clear htx hst
  go_wp2_with fail
  clear e2
  go_loopw [10] (fun i wr => ∃ k : Nat, k ≤ m ∧ i = .int .i64 (k : Int) ∧ (∀ j, j < k → okN L dn j = true) ∧ Hp w [obox g1 nm A n c] wr) (fun i _ => m - (intOf i).toNat)
  case atStart => exact ⟨0, Nat.zero_le _, rfl, fun j h => absurd h (Nat.not_lt_zero j), V4.out⟩
  case round =>
    obtain ⟨k, hk, rfl, hok, hV⟩ := hrel
    obtain ⟨wi, rfl⟩ : ∃ wi : World, wi = wr := ⟨_, rfl⟩
    have V5 := Lib.hid hV
    have HOK := Lib.hid hok
    clear hV hok V4 V3 V2 V1
    by_cases hlt : k < m
    · obtain ⟨i, hi⟩ := get_at (L := dn) (k := k) (by have := HDM.out; omega)
      have hin := HDN.out i (List.mem_of_getElem? hi)
      obtain ⟨bD, oD, hDe, hbD, d0⟩ := (HDE.out.below V5.out.below).idx hi
      obtain ⟨x, hx⟩ := get_at (L := L) (k := i) (by have := HL.out; omega)
      have HFB := Lib.hid (show fitB L (i : Int) (nbS L dn ((k : Int) - 1)) (nbS L dn ((k : Int) + 1)) = okN L dn k by
        rw [fitB_at hx]; unfold okN; rw [List.getD_eq_getElem?_getD, hi]; show _ = whB (sgAt L i).w _ _; rw [sgAt_is hx])
      have HNB := Lib.hid (fun (q : Int) (w' : World) (h : Below w.heap.size w w') => rneigh_any nm L A n c dn D m e q w' HL.out (by omega) (HA.out.below h) HDN.out HDM.out hmb (HDE.out.below h))
      have HDD := Lib.hid hDe
      subst hDe
      clear hi hx
      have hwm : IntKind.i64.wrap ((k : Int) - 1) = (k : Int) - 1 := IntWalk.i64_in _ (by omega)
      have hwp : IntKind.i64.wrap ((k : Int) + 1) = (k : Int) + 1 := IntWalk.i64_in _ (by omega)
      go_upto_region 12 with fail
      cases hfb : okN L dn k with
      | false =>
        have HE := Lib.hid (show chE nm L u d = 19 by
          rw [HC2.out, if_neg]
          intro h
          have := (okD_is L dn).1 h k (by rw [HDM.out]; exact hlt)
          rw [hfb] at this; cases this)
        have HE2 := Lib.hid (chC_no HE.out (by decide))
        rw [hfb] at HFB
        clear hfb
        have hKp : Keep [(⟨g1, 0, none⟩, .string (bs nm)), (⟨g1, 1, none⟩, .slice A n c), (⟨bD, oD + k, none⟩, .int .i64 (i : Int))] wi := List.forall_mem_cons.2 ⟨⟨(V5.out.box_at (i := 0) (j := 0) rfl rfl).1, (V5.out.box_at (i := 0) (j := 0) rfl rfl).2.2⟩, List.forall_mem_cons.2 ⟨⟨(V5.out.box_at (i := 0) (j := 1) rfl rfl).1, (V5.out.box_at (i := 0) (j := 1) rfl rfl).2.2⟩, List.forall_mem_cons.2 ⟨⟨d0, hbD⟩, fun _ h => by simp at h⟩⟩⟩
        refine wp_region_held_drew (S := Keep _) (by kernel_rfl) hKp.drew (fun hHeld => ?_)
        obtain ⟨wf, hwf⟩ : ∃ z, z = wi.drew := ⟨_, rfl⟩
        have Vwf := Lib.hid (show Hp w (obox g1 nm A n c :: []) wf by rw [hwf]; exact V5.out.go (bdrew _))
        have Bwf := Lib.hid (show Below wi.heap.size wi wf by rw [hwf]; exact bdrew _)
        rw [← hwf] at hHeld ⊢
        clear hwf hKp
        refine tk 0 ?_ rfl ?_ ?_; rotate_left
        · intro wl hSw
          have hSw : Keep _ wl := hSw
          have k0 := (hSw _ (.head _)).1
          have k1 := (hSw _ (.tail _ (.head _))).1
          dsimp only at k0 k1
          clear hSw
          go_simp
          try (with_reducible rfl)
        try simp only [Act.put, sA, sZ, sS]
        refine tk 1 ?_ rfl ?_ ?_; rotate_left; focus (intro w hSw; clear hSw; go_simp; try (with_reducible rfl))
        try simp only [Act.put, sA, sZ, sS]
        refine tk 2 ?_ rfl ?_ ?_; rotate_left; focus (intro w hSw; clear hSw; go_simp; try (with_reducible rfl))
        try simp only [Act.put, sA, sZ, sS]
        refine tk 3 ?_ rfl ?_ ?_; rotate_left; focus (intro w hSw; clear hSw; go_simp; try (with_reducible rfl))
        try simp only [Act.put, sA, sZ, sS]
        refine tk 4 ?_ rfl ?_ ?_; rotate_left
        · intro wl hSw
          have hSw : Keep _ wl := hSw
          have k0 := (hSw _ (.tail _ (.tail _ (.head _)))).1
          dsimp only at k0
          clear hSw
          go_simp
          try (with_reducible rfl)
        try simp only [Act.put, sA, sZ, sS]
        refine tk 5 ?_ rfl ?_ ?_; rotate_left
        · intro wl hSw
          have hSw : Keep _ wl := hSw
          have k0 := (hSw _ (.head _)).1
          have k1 := (hSw _ (.tail _ (.head _))).1
          dsimp only at k0 k1
          clear hSw
          go_simp
          try (with_reducible rfl)
        try simp only [Act.put, sA, sZ, sS]
        refine tk 6 ?_ rfl ?_ ?_; rotate_left; focus (intro w hSw; clear hSw; go_simp; try (with_reducible rfl))
        try simp only [Act.put, sA, sZ, sS]
        refine tk 7 ?_ rfl ?_ ?_; rotate_left; focus (intro w hSw; clear hSw; go_simp; try (with_reducible rfl))
        try simp only [Act.put, sA, sZ, sS]
        refine tk 8 ?_ rfl ?_ ?_; rotate_left; focus (intro w hSw; clear hSw; go_simp; try (with_reducible rfl))
        try simp only [Act.put, sA, sZ, sS]
        refine tk 10 ?_ rfl ?_ ?_; rotate_left
        · intro wl hSw
          have hSw : Keep _ wl := hSw
          have k0 := (hSw _ (.head _)).1
          have k1 := (hSw _ (.tail _ (.head _))).1
          dsimp only at k0 k1
          clear hSw
          go_simp
          try (with_reducible rfl)
        try simp only [Act.put, sA, sZ, sS]
        refine tk 11 ?_ rfl ?_ ?_; rotate_left; focus (intro w hSw; clear hSw; go_simp; try (with_reducible rfl))
        try simp only [Act.put, sA, sZ, sS]
        refine tk 12 ?_ rfl ?_ ?_; rotate_left; focus (intro w hSw; clear hSw; go_simp; try (with_reducible rfl))
        try simp only [Act.put, sA, sZ, sS]
        refine tk 13 ?_ rfl ?_ ?_; rotate_left; focus (intro w hSw; clear hSw; go_simp; try (with_reducible rfl))
        try simp only [Act.put, sA, sZ, sS]
        refine wpAnyH_ready (rs := [9]) (by kernel_rfl) (by simp) ?_
        refine AllReadyH.cons (List.getElem?_toArray.trans rfl) (fun K hK => ?_) AllReadyH.nil
        go_simp
        refine (HNB.out ((k : Int) - 1) _ Vwf.out.below).mono ?_
        rintro r w_9 ⟨B1, Q1, E1, rfl, hq1, hc1, hb⟩
        have HQ1 := Lib.hid hq1
        have HC1 := Lib.hid hc1
        have V_9 := Lib.hid (Vwf.out.go hb)
        have B_9 := Lib.hid hb
        clear hb hq1 hc1
        try go_wp2_with fail
        refine hK.out _ _ (hHeld.go B_9.out) (fun hHeld => ?_)
        clear hK K
        try simp only [Act.put, sA, sZ, sS]
        refine wpAnyH_ready (rs := [14]) (by kernel_rfl) (by simp) ?_
        refine AllReadyH.cons (List.getElem?_toArray.trans rfl) (fun K hK => ?_) AllReadyH.nil
        go_simp
        refine (HNB.out ((k : Int) + 1) _ V_9.out.below).mono ?_
        rintro r w_9_14 ⟨B2, Q2, E2, rfl, hqz, hcz, hb⟩
        have HQ2 := Lib.hid hqz
        have HC2x := Lib.hid hcz
        have HC1b := Lib.hid (HC1.out.below hb)
        have V_9_14 := Lib.hid (V_9.out.go hb)
        have B_9_14 := Lib.hid hb
        clear hb hqz hcz
        try go_wp2_with fail
        refine hK.out _ _ (hHeld.go B_9_14.out) (fun hHeld => ?_)
        clear hK K
        try simp only [Act.put, sA, sZ, sS]
        refine wpAnyH_ready (rs := [15]) (by kernel_rfl) (by simp) ?_
        refine AllReadyH.cons (List.getElem?_toArray.trans rfl) (fun K hK => ?_) AllReadyH.nil
        go_simp
        have hq1 : Q1 ≤ 1000000 := by rw [← HQ1.out]; exact nb_le HV.out _ _
        have hq2 : Q2 ≤ 1000000 := by rw [← HQ2.out]; exact nb_le HV.out _ _
        refine (rfits_any nm L (i : Int) n c Q1 E1 Q2 E2 A B1 B2 _ _ _ HL.out (by omega) (HA.out.below V_9_14.out.below) HQ1.out hq1 HQ2.out hq2 HC1b.out HC2x.out).mono ?_
        rintro r w_9_14_15 ⟨rfl, hb⟩
        rw [HFB.out]
        have V_9_14_15 := Lib.hid (V_9_14.out.go hb)
        have B_9_14_15 := Lib.hid hb
        clear hb hq1 hq2
        try go_wp2_with fail
        refine hK.out _ _ (hHeld.go B_9_14_15.out) (fun hHeld => ?_)
        clear hK K
        try simp only [Act.put, sA, sZ, sS]
        refine tk 16 ?_ rfl ?_ ?_; rotate_left; focus (intro w hSw; clear hSw; go_simp; try (with_reducible rfl))
        try simp only [Act.put, sA, sZ, sS]
        refine wpAnyH_done (by kernel_rfl) ?_ _
        clear hHeld
        go_wp2_with fail
        go_ret2
        exact ⟨ret_pair HE2.out HE.out, V_9_14_15.out.below⟩
      | true =>
        have HN := Lib.hid (show ∀ j, j < k + 1 → okN L dn j = true from fun j hj => by
          rcases Nat.lt_or_ge j k with h | h
          · exact HOK.out j h
          · obtain rfl : j = k := by omega
            exact hfb)
        rw [hfb] at HFB
        clear hfb
        have hKp : Keep [(⟨g1, 0, none⟩, .string (bs nm)), (⟨g1, 1, none⟩, .slice A n c), (⟨bD, oD + k, none⟩, .int .i64 (i : Int))] wi := List.forall_mem_cons.2 ⟨⟨(V5.out.box_at (i := 0) (j := 0) rfl rfl).1, (V5.out.box_at (i := 0) (j := 0) rfl rfl).2.2⟩, List.forall_mem_cons.2 ⟨⟨(V5.out.box_at (i := 0) (j := 1) rfl rfl).1, (V5.out.box_at (i := 0) (j := 1) rfl rfl).2.2⟩, List.forall_mem_cons.2 ⟨⟨d0, hbD⟩, fun _ h => by simp at h⟩⟩⟩
        refine wp_region_held_drew (S := Keep _) (by kernel_rfl) hKp.drew (fun hHeld => ?_)
        obtain ⟨wf, hwf⟩ : ∃ z, z = wi.drew := ⟨_, rfl⟩
        have Vwf := Lib.hid (show Hp w (obox g1 nm A n c :: []) wf by rw [hwf]; exact V5.out.go (bdrew _))
        have Bwf := Lib.hid (show Below wi.heap.size wi wf by rw [hwf]; exact bdrew _)
        rw [← hwf] at hHeld ⊢
        clear hwf hKp
        refine tk 0 ?_ rfl ?_ ?_; rotate_left
        · intro wl hSw
          have hSw : Keep _ wl := hSw
          have k0 := (hSw _ (.head _)).1
          have k1 := (hSw _ (.tail _ (.head _))).1
          dsimp only at k0 k1
          clear hSw
          go_simp
          try (with_reducible rfl)
        try simp only [Act.put, sA, sZ, sS]
        refine tk 1 ?_ rfl ?_ ?_; rotate_left; focus (intro w hSw; clear hSw; go_simp; try (with_reducible rfl))
        try simp only [Act.put, sA, sZ, sS]
        refine tk 2 ?_ rfl ?_ ?_; rotate_left; focus (intro w hSw; clear hSw; go_simp; try (with_reducible rfl))
        try simp only [Act.put, sA, sZ, sS]
        refine tk 3 ?_ rfl ?_ ?_; rotate_left; focus (intro w hSw; clear hSw; go_simp; try (with_reducible rfl))
        try simp only [Act.put, sA, sZ, sS]
        refine tk 4 ?_ rfl ?_ ?_; rotate_left
        · intro wl hSw
          have hSw : Keep _ wl := hSw
          have k0 := (hSw _ (.tail _ (.tail _ (.head _)))).1
          dsimp only at k0
          clear hSw
          go_simp
          try (with_reducible rfl)
        try simp only [Act.put, sA, sZ, sS]
        refine tk 5 ?_ rfl ?_ ?_; rotate_left
        · intro wl hSw
          have hSw : Keep _ wl := hSw
          have k0 := (hSw _ (.head _)).1
          have k1 := (hSw _ (.tail _ (.head _))).1
          dsimp only at k0 k1
          clear hSw
          go_simp
          try (with_reducible rfl)
        try simp only [Act.put, sA, sZ, sS]
        refine tk 6 ?_ rfl ?_ ?_; rotate_left; focus (intro w hSw; clear hSw; go_simp; try (with_reducible rfl))
        try simp only [Act.put, sA, sZ, sS]
        refine tk 7 ?_ rfl ?_ ?_; rotate_left; focus (intro w hSw; clear hSw; go_simp; try (with_reducible rfl))
        try simp only [Act.put, sA, sZ, sS]
        refine tk 8 ?_ rfl ?_ ?_; rotate_left; focus (intro w hSw; clear hSw; go_simp; try (with_reducible rfl))
        try simp only [Act.put, sA, sZ, sS]
        refine tk 10 ?_ rfl ?_ ?_; rotate_left
        · intro wl hSw
          have hSw : Keep _ wl := hSw
          have k0 := (hSw _ (.head _)).1
          have k1 := (hSw _ (.tail _ (.head _))).1
          dsimp only at k0 k1
          clear hSw
          go_simp
          try (with_reducible rfl)
        try simp only [Act.put, sA, sZ, sS]
        refine tk 11 ?_ rfl ?_ ?_; rotate_left; focus (intro w hSw; clear hSw; go_simp; try (with_reducible rfl))
        try simp only [Act.put, sA, sZ, sS]
        refine tk 12 ?_ rfl ?_ ?_; rotate_left; focus (intro w hSw; clear hSw; go_simp; try (with_reducible rfl))
        try simp only [Act.put, sA, sZ, sS]
        refine tk 13 ?_ rfl ?_ ?_; rotate_left; focus (intro w hSw; clear hSw; go_simp; try (with_reducible rfl))
        try simp only [Act.put, sA, sZ, sS]
        refine wpAnyH_ready (rs := [9]) (by kernel_rfl) (by simp) ?_
        refine AllReadyH.cons (List.getElem?_toArray.trans rfl) (fun K hK => ?_) AllReadyH.nil
        go_simp
        refine (HNB.out ((k : Int) - 1) _ Vwf.out.below).mono ?_
        rintro r w_9 ⟨B1, Q1, E1, rfl, hq1, hc1, hb⟩
        have HQ1 := Lib.hid hq1
        have HC1 := Lib.hid hc1
        have V_9 := Lib.hid (Vwf.out.go hb)
        have B_9 := Lib.hid hb
        clear hb hq1 hc1
        try go_wp2_with fail
        refine hK.out _ _ (hHeld.go B_9.out) (fun hHeld => ?_)
        clear hK K
        try simp only [Act.put, sA, sZ, sS]
        refine wpAnyH_ready (rs := [14]) (by kernel_rfl) (by simp) ?_
        refine AllReadyH.cons (List.getElem?_toArray.trans rfl) (fun K hK => ?_) AllReadyH.nil
        go_simp
        refine (HNB.out ((k : Int) + 1) _ V_9.out.below).mono ?_
        rintro r w_9_14 ⟨B2, Q2, E2, rfl, hqz, hcz, hb⟩
        have HQ2 := Lib.hid hqz
        have HC2x := Lib.hid hcz
        have HC1b := Lib.hid (HC1.out.below hb)
        have V_9_14 := Lib.hid (V_9.out.go hb)
        have B_9_14 := Lib.hid hb
        clear hb hqz hcz
        try go_wp2_with fail
        refine hK.out _ _ (hHeld.go B_9_14.out) (fun hHeld => ?_)
        clear hK K
        try simp only [Act.put, sA, sZ, sS]
        refine wpAnyH_ready (rs := [15]) (by kernel_rfl) (by simp) ?_
        refine AllReadyH.cons (List.getElem?_toArray.trans rfl) (fun K hK => ?_) AllReadyH.nil
        go_simp
        have hq1 : Q1 ≤ 1000000 := by rw [← HQ1.out]; exact nb_le HV.out _ _
        have hq2 : Q2 ≤ 1000000 := by rw [← HQ2.out]; exact nb_le HV.out _ _
        refine (rfits_any nm L (i : Int) n c Q1 E1 Q2 E2 A B1 B2 _ _ _ HL.out (by omega) (HA.out.below V_9_14.out.below) HQ1.out hq1 HQ2.out hq2 HC1b.out HC2x.out).mono ?_
        rintro r w_9_14_15 ⟨rfl, hb⟩
        rw [HFB.out]
        have V_9_14_15 := Lib.hid (V_9_14.out.go hb)
        have B_9_14_15 := Lib.hid hb
        clear hb hq1 hq2
        try go_wp2_with fail
        refine hK.out _ _ (hHeld.go B_9_14_15.out) (fun hHeld => ?_)
        clear hK K
        try simp only [Act.put, sA, sZ, sS]
        refine tk 16 ?_ rfl ?_ ?_; rotate_left; focus (intro w hSw; clear hSw; go_simp; try (with_reducible rfl))
        try simp only [Act.put, sA, sZ, sS]
        refine wpAnyH_done (by kernel_rfl) ?_ _
        clear hHeld
        go_wp2_with fail
        go_roundw
        case rel => exact ⟨k + 1, by omega, by go_num, HN.out, V_9_14_15.out⟩
        case measure => simp [intOf]; omega
    · obtain rfl : k = m := by omega
      have HE := Lib.hid (show chE nm L u d = 0 by rw [HC2.out, if_pos ((okD_is L dn).2 (fun j hj => HOK.out j (by rw [HDM.out] at hj; exact hj)))])
      have HE2 := Lib.hid (show chC nm L u d = cD L dn by unfold chC; rw [if_pos HE.out, HN0.out])
      obtain ⟨z0, z1, z2⟩ := V5.out.obox_at (i := 0) rfl
      go_wp2_with fail
      refine (rcost13_any nm L A n c dn D k e _ HV.out HL.out (HA.out.below V5.out.below) HDN.out HDM.out hmb (HDE.out.below V5.out.below)).mono ?_
      rintro r w6 ⟨rfl, hb⟩
      have V6 := Lib.hid (V5.out.go hb)
      clear hb
      go_wp2_with fail
      go_ret2
      exact ⟨ret_pair HE2.out HE.out, V6.out.below⟩
end Go.Proofs.YtpifchlpakajjaaGreat

namespace Go.Proofs.YtpifchlpakajjaaGreat
open Go.RowKit
set_option linter.unusedVariables false
set_option linter.unusedSimpArgs false
set_option maxRecDepth 100000

def RowAt (w : World) (T : Option Addr) (p n : Nat) (tab : Nat → Nat → Nat) : Prop := ∃ t o b q e, T = some ⟨t, o, none⟩ ∧ t < w.heap.size ∧ b < w.heap.size ∧ w.cell? ⟨t, o + p, none⟩ = some (.slice (some ⟨b, q, none⟩) n e) ∧ ∀ i c, i < n → c < 3 → w.cell? ⟨b, q + i * 3 + c, none⟩ = some (.int .i64 (tab i c : Nat))
theorem RowAt.below {w w' : World} {T : Option Addr} {p n : Nat} {tab : Nat → Nat → Nat} (h : RowAt w T p n tab) (hb : Below w.heap.size w w') : RowAt w' T p n tab := by
  obtain ⟨t, o, b, q, e, h1, h2, h3, h4, h5⟩ := h
  exact ⟨t, o, b, q, e, h1, Nat.lt_of_lt_of_le h2 hb.size, Nat.lt_of_lt_of_le h3 hb.size, (hb.cell (p := ⟨t, o + p, none⟩) h2).trans h4, fun i c hi hc => (hb.cell (p := ⟨b, q + i * 3 + c, none⟩) h3).trans (h5 i c hi hc)⟩
end Go.Proofs.YtpifchlpakajjaaGreat

namespace Go.Proofs.YtpifchlpakajjaaGreat
open Go.RowKit
set_option linter.unusedVariables false
set_option linter.unusedSimpArgs false
set_option maxRecDepth 100000

def rowP (ps : List Prow) : List Itm := ps.map fun p => nums p.1.1 p.2.length p.1.2 (dI p.2)
theorem rowP_snoc (ps : List Prow) (p : Prow) : rowP (ps ++ [p]) = rowP ps ++ [nums p.1.1 p.2.length p.1.2 (dI p.2)] := by unfold rowP; rw [List.map_append]; rfl
theorem rowP_get {ps : List Prow} {k : Nat} {p : Prow} (h : ps[k]? = some p) : (rowP ps)[k]? = some (nums p.1.1 p.2.length p.1.2 (dI p.2)) := by unfold rowP; rw [List.getElem?_map, h]; rfl
end Go.Proofs.YtpifchlpakajjaaGreat
