/- Several texts in one: Jf, Jg, Zm. -/
import Derived.Test.YtpifchlpakajjaaGreatRtbc
import Derived.Test.YtpifchlpakajjaaGreatRtaw
import Derived.Test.YtpifchlpakajjaaGreatRtbb
namespace Go.Proofs.YtpifchlpakajjaaGreat
open Go.RowKit
set_option linter.unusedVariables false
set_option linter.unusedSimpArgs false
set_option maxRecDepth 100000

def txR (nm : List UInt8) (L : List Sg) (d : List Int) : List UInt8 := if lsE nm L d = 0 then tD L (dN d) else []
def sdR (nm : List UInt8) (L : List Sg) (d : List Int) : List Snd := if lsE nm L d = 0 then sndD L (dN d) else []
end Go.Proofs.YtpifchlpakajjaaGreat

namespace Go.Proofs.YtpifchlpakajjaaGreat
open Go.RowKit
set_option linter.unusedVariables false
set_option linter.unusedSimpArgs false
set_option maxRecDepth 100000

def ofR (nm : List UInt8) (L : List Sg) (d : List Int) : List Int := if lsE nm L d = 0 then offD L 0 (dN d) else []
end Go.Proofs.YtpifchlpakajjaaGreat

namespace Go.Proofs.YtpifchlpakajjaaGreat
open Go.RowKit
set_option linter.unusedVariables false
set_option linter.unusedSimpArgs false
set_option maxRecDepth 100000

set_option maxHeartbeats 2000000 in
theorem textD_any (nm : List UInt8) (L : List Sg) (A : Option Addr) (n c : Nat) (d : List Int) (D : Option Addr) (m e : Nat) (w : World) (hnm : nm.length ≤ 140737488355328) (hl : L.length = n) (hn : n ≤ 17592186044416) (hnc : n ≤ c) (hs : SgBd L) (hA : SgnIn w A L) (hm : d.length = m) (hmb : m ≤ 17592186044416) (hD : CellsIn w D (ints d)) :
    Calls Tryz.prog 28 #[.agg #[.string (bs nm), .slice A n c], .slice D m e] w fun r w' => r = .returned (.tuple #[.string (bs (txR nm L d)), .int .i64 (lsE nm L d)]) ∧ Below w.heap.size w w' := by
  obtain ⟨g1, hg1⟩ : ∃ z, z = w.heap.size := ⟨_, rfl⟩
  obtain ⟨W1, hW1⟩ : ∃ z, z = w.alloc (.cells #[.string (bs nm), .slice A n c] 24) := ⟨_, rfl⟩
  have V1 := Lib.hid (show Hp w [obox g1 nm A n c] W1 by rw [hW1, hg1]; exact (Hp.start w).obox_new nm A n c)
  have HW1 := Lib.hid hW1
  have HG1 := Lib.hid hg1
  have HLI := Lib.hid (lfault_any nm L A n c d D m e W1 hnm hl hn hnc hs (hA.below V1.out.below) hm hmb (hD.below V1.out.below))
  have HL := Lib.hid hl
  have HA := Lib.hid hA
  have HD := Lib.hid hD
  have HM := Lib.hid hm
  obtain ⟨z0, z1, z2⟩ := V1.out.obox_at (i := 0) rfl
  clear hW1 hg1 hl hA hD hm hs hnm
  go_enter Tryz.func28, Tryz.ntmps28
  go_upto_region 1 with fail
  rw [← HG1.out, ← HW1.out]
  go_wp2_with fail
  refine HLI.out.mono ?_
  rintro r w2 ⟨rfl, hb⟩
  have V2 := Lib.hid (V1.out.go hb)
  clear hb z0 z1 z2
  by_cases hv : lsE nm L d = 0
  case neg =>
    have HE := Lib.hid (show txR nm L d = [] by unfold txR; rw [if_neg hv]) 
    have _y := Lib.hid (show (if lsE nm L d = 0 then 0 else 1) = 1 by rw [if_neg hv])
    obtain ⟨v, hvv⟩ : ∃ v, v = lsE nm L d := ⟨_, rfl⟩
    rw [← hvv] at hv ⊢
    have HVV := Lib.hid hvv
    have e1 : (v != 0) = true := bne_yes hv
    clear hv hvv
    go_wp2_with fail
    go_ret2
    exact ⟨by rw [HE.out, ← HVV.out]; rfl, V2.out.below⟩
  have HLS := Lib.hid hv
  have HV := Lib.hid (lsE_zero hv).1
  have HRG := Lib.hid (lsE_zero hv).2.2
  have hm16 : m ≤ 16 := by have := (lsE_zero hv).2.1; have := HM.out; omega
  rw [hv]
  obtain ⟨dn, hdn⟩ : ∃ dn, dn = dN d := ⟨_, rfl⟩
  have HDN := Lib.hid (show ∀ i ∈ dn, i < n by rw [hdn, ← HL.out]; exact rgI_dN HRG.out)
  have HDE := Lib.hid (show CellsIn w D (ints (dI dn)) by rw [hdn, dI_dN HRG.out]; exact HD.out)
  have HDM := Lib.hid (show dn.length = m by rw [hdn, dN_len]; exact HM.out)
  have HN0 := Lib.hid hdn
  have hn120 : n ≤ 120 := by have := (vO_zero HV.out).2.2.1; have := HL.out; omega
  clear hv hdn
  have HE := Lib.hid (show txR nm L d = tD L dn by unfold txR; rw [if_pos HLS.out, HN0.out])
  go_wp2_with fail
  go_loopw [7, 18] (fun v i wr => ∃ k : Nat, k ≤ m ∧ i = .int .i64 (k : Int) ∧ v = .string (bs (tD L (dn.take k))) ∧ Hp w [obox g1 nm A n c] wr) (fun _ i _ => m - (intOf i).toNat)
  case atStart => exact ⟨0, Nat.zero_le _, rfl, rfl, V2.out⟩
  case round =>
    obtain ⟨k, hk, rfl, rfl, hV⟩ := hrel
    obtain ⟨wi, rfl⟩ : ∃ wi : World, wi = wr := ⟨_, rfl⟩
    have V5 := Lib.hid hV
    clear hV V1 V2
    obtain ⟨o0, o1, o2⟩ := V5.out.obox_at (i := 0) rfl
    by_cases hlt : k < m
    · skip
      obtain ⟨i, hi⟩ := get_at (L := dn) (k := k) (by have := HDM.out; omega)
      have hin := HDN.out i (List.mem_of_getElem? hi)
      obtain ⟨bD, oD, hDe, hbD', d0'⟩ := HDE.out.idx hi
      obtain ⟨x, hx⟩ := get_at (L := L) (k := i) (by have := HL.out; omega)
      obtain ⟨b, off, Aj, cj, hAe, hb', c0', c1', c2', c3', c4'⟩ := HA.out.at hx
      have d0 := (V5.out.below.cell (p := ⟨bD, oD + k, none⟩) hbD').trans d0'
      have c0 := (V5.out.below.cell (p := ⟨b, off + i * 4, none⟩) hb').trans c0'
      have c1 := (V5.out.below.cell (p := ⟨b, off + i * 4 + 1, none⟩) hb').trans c1'
      have hbD := Nat.lt_of_lt_of_le hbD' V5.out.below.size
      have hb := Nat.lt_of_lt_of_le hb' V5.out.below.size
      have HC4 := Lib.hid (c4'.below V5.out.below)
      have hxc : x.t.length ≤ 4 := by have := sgn_bd HV.out (i := i) (by rw [HL.out]; exact hin); rw [sgAt_is hx] at this; omega
      have htl : (tD L (dn.take k)).length ≤ 4000 := by
        have h1 := (tD_len_le HV.out (d := dn.take k) (fun j hj => by rw [HL.out]; exact HDN.out j (List.mem_of_mem_take hj))).1
        have h2 : (dn.take k).length ≤ m := by rw [List.length_take]; omega
        omega
      obtain ⟨u1, hu1⟩ : ∃ z, z = bs (tD L (dn.take k)) ++ bs x.t := ⟨_, rfl⟩
      have s1 : ∀ w : World, (Op.stringOp .add (bs (tD L (dn.take k))) (bs x.t)).run Tryz.prog w = .ok (.string u1) w := by rw [hu1]; exact add_run _ _ (by rw [bs_size, bs_size]; omega)
      have HN := Lib.hid (show u1 = bs (tD L (dn.take (k + 1))) from bs_of (by rw [hu1, cat_any, bs_list, bs_list, take_snocA hi, tD_snoc, sgAt_is hx]))
      rw [hAe] at o1
      have HAE := Lib.hid hAe
      have HDD := Lib.hid hDe
      subst hAe
      subst hDe
      have hi4 : i * 4 ≤ 480 := by omega
      clear hi hx hu1 htl hxc c1 c1' c2' c3' c4' d0' c0' hb' hbD'
      go_wp2_with fail
      go_roundw
      case rel => exact ⟨k + 1, by omega, by go_num, by rw [HN.out], V5.out⟩
      case measure => simp [intOf]; omega
    · obtain rfl : k = m := by omega
      have HT := Lib.hid (show dn.take k = dn from List.take_of_length_le (by have := HDM.out; omega))
      rw [HT.out, ← HE.out]
      go_wp2_with fail
      go_ret2
      exact ⟨by rw [HLS.out]; rfl, V5.out.below⟩
set_option maxHeartbeats 2000000 in
theorem soundsD_any (nm : List UInt8) (L : List Sg) (A : Option Addr) (n c : Nat) (d : List Int) (D : Option Addr) (m e : Nat) (w : World) (hnm : nm.length ≤ 140737488355328) (hl : L.length = n) (hn : n ≤ 17592186044416) (hnc : n ≤ c) (hs : SgBd L) (hA : SgnIn w A L) (hm : d.length = m) (hmb : m ≤ 17592186044416) (hD : CellsIn w D (ints d)) :
    Calls Tryz.prog 24 #[.agg #[.string (bs nm), .slice A n c], .slice D m e] w fun r w' => ∃ C q k, r = .returned (.tuple #[.slice C q k, .int .i64 (lsE nm L d)]) ∧ (sdR nm L d).length = q ∧ Hp w [snds C q k (sdR nm L d)] w' := by
  obtain ⟨g1, hg1⟩ : ∃ z, z = w.heap.size := ⟨_, rfl⟩
  obtain ⟨W1, hW1⟩ : ∃ z, z = w.alloc (.cells #[.string (bs nm), .slice A n c] 24) := ⟨_, rfl⟩
  have V1 := Lib.hid (show Hp w [obox g1 nm A n c] W1 by rw [hW1, hg1]; exact (Hp.start w).obox_new nm A n c)
  have HW1 := Lib.hid hW1
  have HG1 := Lib.hid hg1
  have HLI := Lib.hid (lfault_any nm L A n c d D m e W1 hnm hl hn hnc hs (hA.below V1.out.below) hm hmb (hD.below V1.out.below))
  have HL := Lib.hid hl
  have HA := Lib.hid hA
  have HD := Lib.hid hD
  have HM := Lib.hid hm
  obtain ⟨z0, z1, z2⟩ := V1.out.obox_at (i := 0) rfl
  clear hW1 hg1 hl hA hD hm hs hnm
  go_enter Tryz.func24, Tryz.ntmps24
  go_upto_region 1 with fail
  rw [← HG1.out, ← HW1.out]
  go_wp2_with fail
  refine HLI.out.mono ?_
  rintro r w2 ⟨rfl, hb⟩
  have V2 := Lib.hid (V1.out.go hb)
  clear hb z0 z1 z2
  by_cases hv : lsE nm L d = 0
  case neg =>
    have HE := Lib.hid (show sdR nm L d = [] by unfold sdR; rw [if_neg hv]) 
    have _y := Lib.hid (show (if lsE nm L d = 0 then 0 else 1) = 1 by rw [if_neg hv])
    obtain ⟨v, hvv⟩ : ∃ v, v = lsE nm L d := ⟨_, rfl⟩
    rw [← hvv] at hv ⊢
    have HVV := Lib.hid hvv
    have e1 : (v != 0) = true := bne_yes hv
    clear hv hvv
    go_wp2_with fail
    go_ret2
    have V3 := Lib.hid (show Hp w [snds none 0 0 (sdR nm L d), obox g1 nm A n c] w2 by rw [HE.out]; exact V2.out.nil_row _ rfl rfl rfl)
    exact ⟨none, 0, 0, by rw [← HVV.out]; rfl, by rw [HE.out]; rfl, V3.out.only⟩
  have HLS := Lib.hid hv
  have HV := Lib.hid (lsE_zero hv).1
  have HRG := Lib.hid (lsE_zero hv).2.2
  have hm16 : m ≤ 16 := by have := (lsE_zero hv).2.1; have := HM.out; omega
  rw [hv]
  obtain ⟨dn, hdn⟩ : ∃ dn, dn = dN d := ⟨_, rfl⟩
  have HDN := Lib.hid (show ∀ i ∈ dn, i < n by rw [hdn, ← HL.out]; exact rgI_dN HRG.out)
  have HDE := Lib.hid (show CellsIn w D (ints (dI dn)) by rw [hdn, dI_dN HRG.out]; exact HD.out)
  have HDM := Lib.hid (show dn.length = m by rw [hdn, dN_len]; exact HM.out)
  have HN0 := Lib.hid hdn
  have hn120 : n ≤ 120 := by have := (vO_zero HV.out).2.2.1; have := HL.out; omega
  clear hv hdn
  have HE := Lib.hid (show sdR nm L d = sndD L dn by unfold sdR; rw [if_pos HLS.out, HN0.out])
  have V3 := Lib.hid (show Hp w [snds none 0 0 (sndD L (dn.take 0)), obox g1 nm A n c] w2 from V2.out.nil_row _ rfl rfl rfl)
  clear V2
  go_wp2_with fail
  go_loopw [7, 18] (fun v i wr => ∃ (k q h : Nat) (C : Option Addr), k ≤ m ∧ i = .int .i64 (k : Int) ∧ v = .slice C q h ∧ q ≤ k * 2 ∧ (sndD L (dn.take k)).length = q ∧ Hp w [snds C q h (sndD L (dn.take k)), obox g1 nm A n c] wr) (fun _ i _ => m - (intOf i).toNat)
  case atStart => exact ⟨0, 0, 0, none, Nat.zero_le _, rfl, rfl, Nat.zero_le _, rfl, V3.out⟩
  case round =>
    obtain ⟨k, q, h, C, hk, rfl, rfl, hq, hql, hV⟩ := hrel
    obtain ⟨wi, rfl⟩ : ∃ wi : World, wi = wr := ⟨_, rfl⟩
    have V5 := Lib.hid hV
    have HQL := Lib.hid hql
    clear hV hql V3 V1
    obtain ⟨o0, o1, o2⟩ := V5.out.obox_at (i := 1) rfl
    by_cases hlt : k < m
    · skip
      obtain ⟨i, hi⟩ := get_at (L := dn) (k := k) (by have := HDM.out; omega)
      have hin := HDN.out i (List.mem_of_getElem? hi)
      obtain ⟨bD, oD, hDe, hbD', d0'⟩ := HDE.out.idx hi
      obtain ⟨x, hx⟩ := get_at (L := L) (k := i) (by have := HL.out; omega)
      obtain ⟨b, off, Aj, cj, hAe, hb', c0', c1', c2', c3', c4'⟩ := HA.out.at hx
      have d0 := (V5.out.below.cell (p := ⟨bD, oD + k, none⟩) hbD').trans d0'
      have c0 := (V5.out.below.cell (p := ⟨b, off + i * 4, none⟩) hb').trans c0'
      have c1 := (V5.out.below.cell (p := ⟨b, off + i * 4 + 1, none⟩) hb').trans c1'
      have hbD := Nat.lt_of_lt_of_le hbD' V5.out.below.size
      have hb := Nat.lt_of_lt_of_le hb' V5.out.below.size
      have HC4 := Lib.hid (c4'.below V5.out.below)
      have hxs : 0 < x.s.length ∧ x.s.length ≤ 2 := by have := sgn_bd HV.out (i := i) (by rw [HL.out]; exact hin); rw [sgAt_is hx] at this; omega
      have HN := Lib.hid (show sndD L (dn.take (k + 1)) = sndD L (dn.take k) ++ x.s by rw [take_snocA hi, sndD_snoc, sgAt_is hx])
      rw [hAe] at o1
      have HAE := Lib.hid hAe
      have HDD := Lib.hid hDe
      obtain ⟨A2, c2, w9, hr, hv2, _⟩ := run_cat_snds V5.out (i := 0) rfl 41 (B := Aj) (m := x.s.length) (d := cj) x.s rfl HC4.out (by omega) (by omega)
      have HR := Lib.hid hr
      have V9 := Lib.hid (show Hp w [snds A2 (q + x.s.length) c2 (sndD L (dn.take (k + 1))), obox g1 nm A n c] w9 by rw [HN.out]; exact hv2)
      have HL2 := Lib.hid (show (sndD L (dn.take (k + 1))).length = q + x.s.length by rw [HN.out, List.length_append, HQL.out])
      subst hAe
      subst hDe
      have hi4 : i * 4 ≤ 480 := by omega
      clear hi hx hr hv2 c0 c1' c2' c3' c4' d0' c0' hb' hbD'
      go_wp2_with (at_builtin; refine wpList_app_run rfl (.tmp 22) (.tmp 28) 41 rfl HR.out rfl rfl ?_)
      go_roundw
      case rel => exact ⟨k + 1, q + x.s.length, c2, A2, by omega, by go_num, rfl, by omega, HL2.out, V9.out⟩
      case measure => simp [intOf]; omega
    · obtain rfl : k = m := by omega
      have HT := Lib.hid (show dn.take k = dn from List.take_of_length_le (by have := HDM.out; omega))
      rw [HT.out, ← HE.out] at HQL V5
      go_wp2_with fail
      go_ret2
      exact ⟨C, q, h, by rw [HLS.out]; rfl, HQL.out, V5.out.only⟩
set_option maxHeartbeats 2000000 in
theorem offsetsD_any (nm : List UInt8) (L : List Sg) (A : Option Addr) (n c : Nat) (d : List Int) (D : Option Addr) (m e : Nat) (w : World) (hnm : nm.length ≤ 140737488355328) (hl : L.length = n) (hn : n ≤ 17592186044416) (hnc : n ≤ c) (hs : SgBd L) (hA : SgnIn w A L) (hm : d.length = m) (hmb : m ≤ 17592186044416) (hD : CellsIn w D (ints d)) :
    Calls Tryz.prog 26 #[.agg #[.string (bs nm), .slice A n c], .slice D m e] w fun r w' => ∃ C q k, r = .returned (.tuple #[.slice C q k, .int .i64 (lsE nm L d)]) ∧ (ofR nm L d).length = q ∧ Hp w [nums C q k (ofR nm L d)] w' := by
  obtain ⟨g1, hg1⟩ : ∃ z, z = w.heap.size := ⟨_, rfl⟩
  obtain ⟨W1, hW1⟩ : ∃ z, z = w.alloc (.cells #[.string (bs nm), .slice A n c] 24) := ⟨_, rfl⟩
  have V1 := Lib.hid (show Hp w [obox g1 nm A n c] W1 by rw [hW1, hg1]; exact (Hp.start w).obox_new nm A n c)
  have HW1 := Lib.hid hW1
  have HG1 := Lib.hid hg1
  have HLI := Lib.hid (lfault_any nm L A n c d D m e W1 hnm hl hn hnc hs (hA.below V1.out.below) hm hmb (hD.below V1.out.below))
  have HL := Lib.hid hl
  have HA := Lib.hid hA
  have HD := Lib.hid hD
  have HM := Lib.hid hm
  obtain ⟨z0, z1, z2⟩ := V1.out.obox_at (i := 0) rfl
  clear hW1 hg1 hl hA hD hm hs hnm
  go_enter Tryz.func26, Tryz.ntmps26
  go_upto_region 1 with fail
  rw [← HG1.out, ← HW1.out]
  go_wp2_with fail
  refine HLI.out.mono ?_
  rintro r w2 ⟨rfl, hb⟩
  have V2 := Lib.hid (V1.out.go hb)
  clear hb z0 z1 z2
  by_cases hv : lsE nm L d = 0
  case neg =>
    have HE := Lib.hid (show ofR nm L d = [] by unfold ofR; rw [if_neg hv]) 
    have _y := Lib.hid (show (if lsE nm L d = 0 then 0 else 1) = 1 by rw [if_neg hv])
    obtain ⟨v, hvv⟩ : ∃ v, v = lsE nm L d := ⟨_, rfl⟩
    rw [← hvv] at hv ⊢
    have HVV := Lib.hid hvv
    have e1 : (v != 0) = true := bne_yes hv
    clear hv hvv
    go_wp2_with fail
    go_ret2
    have V3 := Lib.hid (show Hp w [nums none 0 0 (ofR nm L d), obox g1 nm A n c] w2 by rw [HE.out]; exact V2.out.nil_row _ rfl rfl rfl)
    exact ⟨none, 0, 0, by rw [← HVV.out]; rfl, by rw [HE.out]; rfl, V3.out.only⟩
  have HLS := Lib.hid hv
  have HV := Lib.hid (lsE_zero hv).1
  have HRG := Lib.hid (lsE_zero hv).2.2
  have hm16 : m ≤ 16 := by have := (lsE_zero hv).2.1; have := HM.out; omega
  rw [hv]
  obtain ⟨dn, hdn⟩ : ∃ dn, dn = dN d := ⟨_, rfl⟩
  have HDN := Lib.hid (show ∀ i ∈ dn, i < n by rw [hdn, ← HL.out]; exact rgI_dN HRG.out)
  have HDE := Lib.hid (show CellsIn w D (ints (dI dn)) by rw [hdn, dI_dN HRG.out]; exact HD.out)
  have HDM := Lib.hid (show dn.length = m by rw [hdn, dN_len]; exact HM.out)
  have HN0 := Lib.hid hdn
  have hn120 : n ≤ 120 := by have := (vO_zero HV.out).2.2.1; have := HL.out; omega
  clear hv hdn
  have HE := Lib.hid (show ofR nm L d = offD L 0 dn by unfold ofR; rw [if_pos HLS.out, HN0.out])
  have V3 := Lib.hid (show Hp w [nums none 0 0 (offD L 0 (dn.take 0)), obox g1 nm A n c] w2 from V2.out.nil_row _ rfl rfl rfl)
  clear V2
  go_wp2_with fail
  go_loopw [7, 8, 19] (fun v a i wr => ∃ (k q h at_ : Nat) (C : Option Addr), k ≤ m ∧ i = .int .i64 (k : Int) ∧ v = .slice C q h ∧ a = .int .i64 (at_ : Int) ∧ q ≤ k * 2 ∧ at_ ≤ k * 4 ∧ (offD L 0 (dn.take k)).length = q ∧ (tD L (dn.take k)).length = at_ ∧ Hp w [nums C q h (offD L 0 (dn.take k)), obox g1 nm A n c] wr) (fun _ _ i _ => m - (intOf i).toNat)
  case atStart => exact ⟨0, 0, 0, 0, none, Nat.zero_le _, rfl, rfl, rfl, Nat.zero_le _, Nat.zero_le _, rfl, rfl, V3.out⟩
  case round =>
    obtain ⟨k, q, h, at_, C, hk, rfl, rfl, rfl, hq, hat, hql, hal, hV⟩ := hrel
    obtain ⟨wi, rfl⟩ : ∃ wi : World, wi = wr := ⟨_, rfl⟩
    have V5 := Lib.hid hV
    have HQL := Lib.hid hql
    have HAL := Lib.hid hal
    clear hV hql hal V3 V1
    obtain ⟨o0, o1, o2⟩ := V5.out.obox_at (i := 1) rfl
    by_cases hlt : k < m
    · skip
      obtain ⟨i, hi⟩ := get_at (L := dn) (k := k) (by have := HDM.out; omega)
      have hin := HDN.out i (List.mem_of_getElem? hi)
      obtain ⟨bD, oD, hDe, hbD', d0'⟩ := HDE.out.idx hi
      obtain ⟨x, hx⟩ := get_at (L := L) (k := i) (by have := HL.out; omega)
      obtain ⟨b, off, Aj, cj, hAe, hb', c0', c1', c2', c3', c4'⟩ := HA.out.at hx
      have d0 := (V5.out.below.cell (p := ⟨bD, oD + k, none⟩) hbD').trans d0'
      have c0 := (V5.out.below.cell (p := ⟨b, off + i * 4, none⟩) hb').trans c0'
      have c1 := (V5.out.below.cell (p := ⟨b, off + i * 4 + 1, none⟩) hb').trans c1'
      have hbD := Nat.lt_of_lt_of_le hbD' V5.out.below.size
      have hb := Nat.lt_of_lt_of_le hb' V5.out.below.size
      have HC4 := Lib.hid (c4'.below V5.out.below)
      have hxs : x.s.length ≤ 2 ∧ x.t.length ≤ 4 := by have := sgn_bd HV.out (i := i) (by rw [HL.out]; exact hin); rw [sgAt_is hx] at this; omega
      have HN := Lib.hid (show offD L 0 (dn.take (k + 1)) = offD L 0 (dn.take k) ++ List.replicate x.s.length (at_ : Int) by rw [take_snocA hi, offD_snoc, sgAt_is hx, Nat.zero_add, HAL.out])
      have HAN := Lib.hid (show (tD L (dn.take (k + 1))).length = at_ + x.t.length by rw [take_snocA hi, tD_snoc, List.length_append, HAL.out, sgAt_is hx])
      have HB1 := Lib.hid (And.intro hb' c1')
      have HB0 := Lib.hid (And.intro hb' c0')
      rw [hAe] at o1
      have HAE := Lib.hid hAe
      have HDD := Lib.hid hDe
      subst hAe
      subst hDe
      have hi4 : i * 4 ≤ 480 := by omega
      clear hi hx c1' c2' c3' c4' d0' c0' hb' hbD' c0
      obtain ⟨sl, hsl⟩ : ∃ z, z = x.s.length := ⟨_, rfl⟩
      obtain ⟨tl, htl⟩ : ∃ z, z = x.t.length := ⟨_, rfl⟩
      have HTL := Lib.hid htl
      rw [← hsl] at HN hxs c1 HB1
      rw [← htl] at HAN hxs
      clear hsl htl
      go_wp2_with fail
      clear d0 c1 o0 o1 o2
      go_loopw [7, 30] (fun v i wr => ∃ (j r g : Nat) (E : Option Addr), j ≤ sl ∧ i = .int .i64 (j : Int) ∧ v = .slice E r g ∧ q + j ≤ r ∧ r ≤ q + j ∧ Hp w (nums E r g (offD L 0 (dn.take k) ++ List.replicate j (at_ : Int)) :: obox g1 nm (some ⟨b, off, none⟩) n c :: []) wr) (fun _ i _ => sl - (intOf i).toNat)
      case atStart => exact ⟨0, q, h, C, Nat.zero_le _, rfl, rfl, Nat.le_refl _, Nat.le_refl _, by rw [List.replicate_zero, List.append_nil]; exact V5.out⟩
      case round =>
        obtain ⟨j, r, g, E, hj, rfl, rfl, hr1, hr2, hV⟩ := hrel
        obtain ⟨wk, rfl⟩ : ∃ wi : World, wi = wr := ⟨_, rfl⟩
        have V7 := Lib.hid hV
        clear hV V5
        by_cases hjl : j < sl
        · obtain ⟨wy, hwy⟩ : ∃ z, z = wk.alloc (.cells #[.int .i64 (at_ : Int)] 3) := ⟨_, rfl⟩
          have V8 := Lib.hid (show Hp w (box 3 wk.heap.size [.int .i64 (at_ : Int)] :: nums E r g (offD L 0 (dn.take k) ++ List.replicate j (at_ : Int)) :: obox g1 nm (some ⟨b, off, none⟩) n c :: []) wy by rw [hwy]; exact V7.out.box_new _ _)
          have q0 := (V8.out.box_at (i := 0) (j := 0) rfl rfl).1
          obtain ⟨g9, cap9, w9, hr9, hv9, _⟩ := run_app_num V8.out (i := 1) rfl 35 (at_ : Int) q0 (by omega)
          have V9 := Lib.hid (show Hp w (nums (some ⟨g9, 0, none⟩) (r + 1) cap9 (offD L 0 (dn.take k) ++ List.replicate (j + 1) (at_ : Int)) :: obox g1 nm (some ⟨b, off, none⟩) n c :: []) w9 by
            rw [List.replicate_succ', ← List.append_assoc]; exact hv9.tail)
          have HY := Lib.hid hwy
          have HR9 := Lib.hid hr9
          clear hwy q0 hv9 hr9
          go_wp2_with (at_builtin; rw [← HY.out]; refine wpList_app_run rfl (.tmp 32) (.tmp 34) 35 rfl HR9.out rfl rfl ?_)
          go_roundw
          case rel => exact ⟨j + 1, r + 1, cap9, _, by omega, by go_num, rfl, by omega, by omega, V9.out⟩
          case measure => simp [intOf]; omega
        · obtain rfl : j = sl := by omega
          have hzt : (bs x.t).size = tl := by rw [bs_size, HTL.out]
          rw [← HN.out] at V7
          have HQ2 := Lib.hid (show (offD L 0 (dn.take (k + 1))).length = r by rw [HN.out, List.length_append, HQL.out, List.length_replicate]; omega)
          have c0 := (V7.out.below.cell (p := ⟨b, off + i * 4, none⟩) HB0.out.1).trans HB0.out.2
          have hb := Nat.lt_of_lt_of_le HB0.out.1 V7.out.below.size
          obtain ⟨o0, o1, o2⟩ := V7.out.obox_at (i := 1) rfl
          go_wp2_with fail
          go_roundw
          case rel => exact ⟨k + 1, r, g, at_ + tl, E, by omega, by go_num, rfl, by go_num, by omega, by omega, HQ2.out, HAN.out, V7.out⟩
          case measure => simp [intOf]; omega
    · obtain rfl : k = m := by omega
      have HT := Lib.hid (show dn.take k = dn from List.take_of_length_le (by have := HDM.out; omega))
      rw [HT.out, ← HE.out] at HQL V5
      go_wp2_with fail
      go_ret2
      exact ⟨C, q, h, by rw [HLS.out]; rfl, HQL.out, V5.out.only⟩
end Go.Proofs.YtpifchlpakajjaaGreat
