/- Several texts in one: Zl. -/
import Derived.Test.YtjamfcihjendiaaGreatRaav
import Derived.Test.YtjamfcihjendiaaGreatRaat
import Derived.Test.YtjamfcihjendiaaGreatRaaq
import Derived.Test.YtjamfcihjendiaaGreatRaab
import Derived.Test.YtjamfcihjendiaaGreatRaaz
import Derived.Test.YtjamfcihjendiaaGreatRabl
import Derived.Test.YtjamfcihjendiaaGreatRabc
namespace Go.Proofs.YtjamfcihjendiaaGreat
open Go.RowKit
set_option linter.unusedVariables false
set_option linter.unusedSimpArgs false
set_option maxRecDepth 100000

def MkG (L : List Sg) (u : List UInt8) (a : Nat) (ks : List Nat) (F : List Bool) : Prop := F.length = 17 ∧ ∀ j, j ≤ u.length → (F.getD j false = true ↔ Mk L u a ks j)
theorem MkG.more {L : List Sg} {u : List UInt8} (hu : u.length ≤ 16) {a : Nat} {ks : List Nat} {F : List Bool} (h : MkG L u a ks F) (i : Nat) (hi : a + (sgAt L i).t.length ≤ u.length) : MkG L u a (ks ++ [i]) (F.set (a + (sgAt L i).t.length) true) := by
  obtain ⟨h1, h2⟩ := h
  refine ⟨by rw [List.length_set]; exact h1, fun j hj => ?_⟩
  rw [getD_set (by omega)]
  by_cases e : j = a + (sgAt L i).t.length
  · rw [if_pos e]
    exact ⟨fun _ => Or.inr (Or.inr ⟨i, by simp, e⟩), fun _ => rfl⟩
  · rw [if_neg e, h2 j hj]
    constructor
    · rintro (h3 | h3 | ⟨k, hk, hj2⟩)
      · exact Or.inl h3
      · exact Or.inr (Or.inl h3)
      · exact Or.inr (Or.inr ⟨k, by simp [hk], hj2⟩)
    · rintro (h3 | h3 | ⟨k, hk, hj2⟩)
      · exact Or.inl h3
      · exact Or.inr (Or.inl h3)
      · rcases List.mem_append.1 hk with hk | hk
        · exact Or.inr (Or.inr ⟨k, hk, hj2⟩)
        · rw [List.mem_singleton.1 hk] at hj2; exact absurd hj2 e
theorem MkG.start (L : List Sg) (u : List UInt8) : MkG L u 0 [] ((List.replicate 17 false).set 0 true) := by
  refine ⟨by rw [List.length_set, List.length_replicate], fun j hj => ?_⟩
  rw [getD_set (by rw [List.length_replicate]; omega)]
  by_cases e : j = 0
  · rw [if_pos e]; exact ⟨fun _ => Or.inl e, fun _ => rfl⟩
  · rw [if_neg e, List.getD_eq_getElem?_getD, List.getElem?_replicate]
    constructor
    · intro h; split at h <;> cases h
    · rintro (h | ⟨k, _, h, _⟩ | ⟨i, hi, _⟩)
      · exact absurd h e
      · exact absurd h (Nat.not_lt_zero k)
      · cases hi
def TopM (L : List Sg) (u : List UInt8) (a : Nat) (ks : List Nat) (b : Nat) : Prop := Rch L u b ∧ ∀ j, Mk L u a ks j → j ≤ b
theorem TopM.more {L : List Sg} {u : List UInt8} {a b i : Nat} {ks : List Nat} (h : TopM L u a ks b) (ha : Rch L u a) (hi : i ∈ stL L (u.drop a)) : TopM L u a (ks ++ [i]) (max b (a + (sgAt L i).t.length)) := by
  obtain ⟨h1, h2⟩ := h
  constructor
  · rcases Nat.le_total b (a + (sgAt L i).t.length) with hle | hle
    · rw [Nat.max_eq_right hle]; exact ha.step hi
    · rw [Nat.max_eq_left hle]; exact h1
  · rintro j (h3 | h3 | ⟨k, hk, hj⟩)
    · rw [h3]; exact Nat.zero_le _
    · exact Nat.le_trans (h2 j (Or.inr (Or.inl h3))) (Nat.le_max_left _ _)
    · rcases List.mem_append.1 hk with hk | hk
      · exact Nat.le_trans (h2 j (Or.inr (Or.inr ⟨k, hk, hj⟩))) (Nat.le_max_left _ _)
      · rw [List.mem_singleton.1 hk] at hj; rw [hj]; exact Nat.le_max_right _ _
theorem TopM.all {L : List Sg} (hne : TxNe L) {u : List UInt8} {b : Nat} (h : TopM L u u.length [] b) : RMax L u b := by
  refine ⟨h.1, fun j hj => ?_⟩
  rcases Nat.eq_zero_or_pos j with h0 | h0
  · rw [h0]; exact Nat.zero_le _
  · obtain ⟨k, i, h1, h2, h3, h4⟩ := hj.last hne h0
    exact h.2 j (Or.inr (Or.inl ⟨k, i, by have := hj.1; omega, h2, h3, h4⟩))
def mkb (g : Nat) (F : List Bool) : Itm := box 65 g (bools F)
theorem mkb_at {W w : World} {l : List Itm} {i g : Nat} {F : List Bool} (h : Hp W l w) (hi : l[i]? = some (mkb g F)) {j : Nat} (hj : j < F.length) : w.cell? ⟨g, j, none⟩ = some (.bool (F.getD j false)) ∧ w.frozen? ⟨g, j, none⟩ = false ∧ g < w.heap.size := h.box_at hi (bools_at hj)
theorem mkb_set {W w : World} {l : List Itm} {i g : Nat} {F : List Bool} (h : Hp W l w) (hi : l[i]? = some (mkb g F)) (j : Nat) : Hp W (l.set i (mkb g (F.set j true))) (w.setCell ⟨g, j, none⟩ (.bool true)) := by
  have := h.box_set hi j (.bool true)
  have e : (bools F).set j (.bool true) = bools (F.set j true) := by unfold bools; rw [List.map_set]
  rw [e] at this
  exact this
set_option maxHeartbeats 4000000 in
theorem reachedD_any (nm : List UInt8) (L : List Sg) (A : Option Addr) (n c : Nat) (u : List UInt8) (w : World) (hnm : nm.length ≤ 140737488355328) (hl : L.length = n) (hn : n ≤ 17592186044416) (hnc : n ≤ c) (hs : SgBd L) (hA : SgnIn w A L) (hu : u.length ≤ 1000000) :
    Calls Tryz.prog 16 #[.agg #[.string (bs nm), .slice A n c], .string (bs u)] w (RcPost nm L u w) := by
  obtain ⟨g1, hg1⟩ : ∃ z, z = w.heap.size := ⟨_, rfl⟩
  obtain ⟨W1, hW1⟩ : ∃ z, z = w.alloc (.cells #[.string (bs nm), .slice A n c] 24) := ⟨_, rfl⟩
  have V1 := Lib.hid (show Hp w [obox g1 nm A n c] W1 by rw [hW1, hg1]; exact (Hp.start w).obox_new nm A n c)
  have HW1 := Lib.hid hW1
  have HG1 := Lib.hid hg1
  have HWF := Lib.hid (wfault_any nm L A n c u W1 hnm hl hn hnc hs (hA.below V1.out.below) hu)
  have HL := Lib.hid hl
  have HA := Lib.hid hA
  obtain ⟨z0, z1, z2⟩ := V1.out.obox_at (i := 0) rfl
  obtain ⟨ul, hul⟩ : ∃ ul, ul = u.length := ⟨_, rfl⟩
  have HUL := Lib.hid hul
  have hsz : (bs u).size = ul := by rw [bs_size, hul]
  clear hW1 hg1 hA hs hl hnm hul hu
  go_enter Tryz.func16, Tryz.ntmps16
  go_upto_region 1 with fail
  rw [← HG1.out, ← HW1.out]
  go_wp2_with fail
  refine HWF.out.mono ?_
  rintro e w2 ⟨rfl, hb⟩
  have V2 := Lib.hid (V1.out.go hb)
  clear hb z0 z1 z2
  by_cases hgv : gvE nm L u = 0
  case neg =>
    obtain ⟨v, hvv⟩ : ∃ v, v = gvE nm L u := ⟨_, rfl⟩
    rw [← hvv] at hgv
    have HVV := Lib.hid hvv
    rw [← hvv]
    have e1 : (v != 0) = true := bne_yes hgv
    have HNV := Lib.hid hgv
    clear hgv hvv
    go_wp2_with fail
    go_ret2
    exact ⟨0, by rw [← HVV.out]; rfl, fun h => absurd (by rw [HVV.out]; exact h) HNV.out, fun _ => rfl, V2.out.below⟩
  have HGV := Lib.hid hgv
  have HV := Lib.hid (gvE_zero hgv).1
  have HNE := Lib.hid (TxNe.ok (gvE_zero hgv).1)
  have hul16 : ul ≤ 16 := by have := (wdE_zero (gvE_zero hgv).2).2.1; have := HUL.out; omega
  have hn120 : n ≤ 120 := by have := (vO_zero HV.out).2.2.1; have := HL.out; omega
  have HU16 := Lib.hid (show u.length ≤ 16 by rw [← HUL.out]; exact hul16)
  rw [hgv]
  clear hgv
  obtain ⟨g2, hg2⟩ : ∃ z, z = w2.heap.size := ⟨_, rfl⟩
  obtain ⟨W3, hW3⟩ : ∃ z, z = w2.alloc (.cells #[.bool false, .bool false, .bool false, .bool false, .bool false, .bool false, .bool false, .bool false, .bool false, .bool false, .bool false, .bool false, .bool false, .bool false, .bool false, .bool false, .bool false] 65) := ⟨_, rfl⟩
  have V3 := Lib.hid (show Hp w (mkb g2 (List.replicate 17 false) :: [obox g1 nm A n c]) W3 by rw [hW3, hg2]; exact V2.out.box_new _ _)
  go_upto_region 5 with fail
  rw [← hW3, ← hg2]
  clear hW3 hg2
  obtain ⟨y0, y1, y2⟩ := mkb_at V3.out (i := 0) rfl (j := 0) (by decide)
  obtain ⟨W4, hW4⟩ : ∃ z, z = W3.setCell ⟨g2, 0, none⟩ (.bool true) := ⟨_, rfl⟩
  have V4 := Lib.hid (show Hp w (mkb g2 ((List.replicate 17 false).set 0 true) :: [obox g1 nm A n c]) W4 by rw [hW4]; exact mkb_set V3.out (i := 0) rfl 0)
  have HW4 := Lib.hid hW4
  clear hW4
  go_upto_region 6 with fail
  rw [← HW4.out]
  clear y0 y1 y2 V3 V2 V1
  go_wp2_with fail
  go_loopw [8, 22] (fun bv iv wr => ∃ (b a : Nat) (F : List Bool), a ≤ ul ∧ b ≤ ul ∧ iv = .int .i64 (a : Int) ∧ bv = .int .i64 (b : Int) ∧ MkG L u a [] F ∧ TopM L u a [] b ∧ Hp w (mkb g2 F :: [obox g1 nm A n c]) wr) (fun _ iv _ => ul - (intOf iv).toNat)
  case atStart => exact ⟨0, 0, _, Nat.zero_le _, Nat.zero_le _, rfl, rfl, MkG.start L u, ⟨Rch.zero L u, fun j h => by
    rcases h with h | ⟨k, i, h, _⟩ | ⟨i, h, _⟩
    · omega
    · exact absurd h (Nat.not_lt_zero k)
    · cases h⟩, V4.out⟩
  case round =>
    clear V4
    obtain ⟨b, a, F, ha, hbu, rfl, rfl, hF, hT, hV⟩ := hrel
    obtain ⟨wi, rfl⟩ : ∃ wi : World, wi = wr := ⟨_, rfl⟩
    have V5 := Lib.hid hV
    have HF := Lib.hid hF
    have HT := Lib.hid hT
    clear hV hF hT
    by_cases hau : a < ul
    case neg =>
      have HR := Lib.hid (show RMax L u b from TopM.all HNE.out (by have h := HT.out; rwa [show a = u.length by have := HUL.out; omega] at h))
      go_wp2_with fail
      go_ret2
      exact ⟨(b : Int), by rw [HGV.out]; rfl, fun _ => ⟨b, rfl, HR.out⟩, fun h => absurd HGV.out h, V5.out.below⟩
    have haF : a < F.length := by rw [HF.out.1]; omega
    have ha17 : (a : Int) < 17 := by omega
    have HI := Lib.hid (show F.getD a false = true ↔ Rch L u a from (HF.out.2 a (by have := HUL.out; omega)).trans (Mk.here HNE.out (by have := HUL.out; omega)))
    obtain ⟨y0, y1, y2⟩ := mkb_at V5.out (i := 0) rfl haF
    cases hm : F.getD a false with
    | false =>
      have hnr : ¬ Rch L u a := fun h => by have := HI.out.2 h; rw [hm] at this; cases this
      have HF2 := Lib.hid (show MkG L u (a + 1) [] F from ⟨HF.out.1, fun j hj => (HF.out.2 j hj).trans (Mk.skip hnr j)⟩)
      have HT2 := Lib.hid (show TopM L u (a + 1) [] b from ⟨HT.out.1, fun j hj => HT.out.2 j ((Mk.skip hnr j).2 hj)⟩)
      rw [hm] at y0
      clear hm hnr
      go_wp2_with fail
      go_roundw
      case rel => exact ⟨b, a + 1, F, by omega, hbu, by go_num, rfl, HF2.out, HT2.out, V5.out⟩
      case measure => simp [intOf]; omega
    | true =>
      have HRA := Lib.hid (HI.out.1 hm)
      rw [hm] at y0
      obtain ⟨o0, o1, o2⟩ := V5.out.obox_at (i := 1) rfl
      clear hm
      go_wp2_with fail
      clear y0 y1 y2 o0 o1 o2
      have HF0 := Lib.hid (show MkG L u a (stK L (u.drop a) 0) F from HF.out)
      have HT0 := Lib.hid (show TopM L u a (stK L (u.drop a) 0) b from HT.out)
      go_loopw [8, 32] (fun bv iv wr => ∃ (b k : Nat) (F : List Bool), k ≤ n ∧ b ≤ ul ∧ iv = .int .i64 (k : Int) ∧ bv = .int .i64 (b : Int) ∧ MkG L u a (stK L (u.drop a) k) F ∧ TopM L u a (stK L (u.drop a) k) b ∧ Hp w (mkb g2 F :: [obox g1 nm A n c]) wr) (fun _ iv _ => n - (intOf iv).toNat)
      case atStart => exact ⟨b, 0, F, Nat.zero_le _, hbu, rfl, rfl, HF0.out, HT0.out, V5.out⟩
      case round =>
        clear V5 HF HT HF0 HT0 haF hbu HI
        obtain ⟨b, k, F, hk, hbu, rfl, rfl, hF, hT, hV⟩ := hrel
        obtain ⟨wj, rfl⟩ : ∃ wi : World, wi = wr := ⟨_, rfl⟩
        have V5 := Lib.hid hV
        have HF := Lib.hid hF
        have HT := Lib.hid hT
        clear hV hF hT
        by_cases hkn : k < n
        case neg =>
          have hkl : k = L.length := by have := HL.out; omega
          have HF2 := Lib.hid (show MkG L u (a + 1) [] F from ⟨HF.out.1, fun j hj => (HF.out.2 j hj).trans (by rw [hkl, stK_all]; exact Mk.on HRA.out j)⟩)
          have HT2 := Lib.hid (show TopM L u (a + 1) [] b from ⟨HT.out.1, fun j hj => HT.out.2 j (by rw [hkl, stK_all]; exact (Mk.on HRA.out j).2 hj)⟩)
          clear hkl
          go_wp2_with fail
          go_roundw
          case rel => exact ⟨b, a + 1, F, by omega, hbu, by go_num, rfl, HF2.out, HT2.out, V5.out⟩
          case measure => simp [intOf]; omega
        obtain ⟨x, hx⟩ := get_at (L := L) (k := k) (by have := HL.out; omega)
        obtain ⟨b0, off, Aj, cj, hAe, hb0', c0', c1', c2', c3', c4'⟩ := HA.out.at hx
        have HAE := Lib.hid hAe
        have HXS := Lib.hid (sgAt_is hx)
        have hb0 := Nat.lt_of_lt_of_le hb0' V5.out.below.size
        have c0 := (V5.out.below.cell (p := ⟨b0, off + k * 4, none⟩) hb0').trans c0'
        have c1 := (V5.out.below.cell (p := ⟨b0, off + k * 4 + 1, none⟩) hb0').trans c1'
        have c2 := (V5.out.below.cell (p := ⟨b0, off + k * 4 + 2, none⟩) hb0').trans c2'
        have c3 := (V5.out.below.cell (p := ⟨b0, off + k * 4 + 3, none⟩) hb0').trans c3'
        have hk4 : k * 4 ≤ 480 := by omega
        subst hAe
        obtain ⟨g5, hg5⟩ : ∃ z, z = wj.heap.size := ⟨_, rfl⟩
        obtain ⟨W6, hW6⟩ : ∃ z, z = wj.alloc (.cells #[.string (bs x.t), .slice Aj x.s.length cj, .int .i64 x.c, .int .i64 x.w] 64) := ⟨_, rfl⟩
        have V6 := Lib.hid (show Hp w (sgbox g5 (Aj, cj) x :: mkb g2 F :: [obox g1 nm (some ⟨b0, off, none⟩) n c]) W6 by rw [hW6, hg5]; exact V5.out.sgbox_new Aj cj x)
        have HW6 := Lib.hid hW6
        have HG5 := Lib.hid hg5
        clear hW6 hg5 hb0' c0' c1' c2' c3' c4' hx
        go_upto_region 14 with fail
        rw [← HG5.out, ← HW6.out]
        clear hb0 c0 c1 c2 c3 V5
        have hpi0 : (0 : Int) ≤ (a : Int) := by omega
        have hpi1 : (a : Int) ≤ (ul : Int) := by omega
        have hpi2 : (ul : Int) ≤ (ul : Int) := by omega
        cases hpf : x.t.isPrefixOf (u.drop a) with
        | false =>
          have HP := Lib.hid (show Lib.hasPrefix ((bs u).extract a ul).data.toList (bs x.t).data.toList = false by have h := has_at (a := a) (t := x.t) (rfl : bs u = bs u); rw [hsz] at h; rw [h]; exact hpf)
          have HS := Lib.hid (show stK L (u.drop a) (k + 1) = stK L (u.drop a) k by rw [stK_snoc, HXS.out, hpf]; simp)
          clear hpf
          have hKp : Keep [(⟨g5, 0, none⟩, .string (bs x.t))] W6 := List.forall_mem_cons.2 ⟨⟨(V6.out.box_at (i := 0) (j := 0) rfl rfl).1, (V6.out.box_at (i := 0) (j := 0) rfl rfl).2.2⟩, fun _ h => by simp at h⟩
          refine wp_region_held_drew (S := Keep _) (by kernel_rfl) hKp.drew (fun hHeld => ?_)
          obtain ⟨wf, hwf⟩ : ∃ z, z = W6.drew := ⟨_, rfl⟩
          have Vwf := Lib.hid (show Hp w (sgbox g5 (Aj, cj) x :: mkb g2 F :: obox g1 nm (some ⟨b0, off, none⟩) n c :: []) wf by rw [hwf]; exact V6.out.go (bdrew _))
          have Bwf := Lib.hid (show Below W6.heap.size W6 wf by rw [hwf]; exact bdrew _)
          rw [← hwf] at hHeld ⊢
          clear hwf hKp
          refine tk 0 ?_ rfl ?_ ?_; rotate_left; focus (intro w hSw; clear hSw; go_simp; try (with_reducible rfl))
          try simp only [Act.put, sA, sZ, sS]
          refine tk 1 ?_ rfl ?_ ?_; rotate_left; focus (intro w hSw; clear hSw; go_simp; try (with_reducible rfl))
          try simp only [Act.put, sA, sZ, sS]
          refine tk 2 ?_ rfl ?_ ?_; rotate_left; focus (intro w hSw; clear hSw; go_simp; try (with_reducible rfl))
          try simp only [Act.put, sA, sZ, sS]
          refine tk 3 ?_ rfl ?_ ?_; rotate_left; focus (intro w hSw; clear hSw; go_simp; try (with_reducible rfl))
          try simp only [Act.put, sA, sZ, sS]
          refine tk 4 ?_ rfl ?_ ?_; rotate_left
          · intro wl hSw
            have hSw : Keep _ wl := hSw
            have k0 := (hSw _ (.head _)).1
            dsimp only at k0
            clear hSw
            go_simp
            try (with_reducible rfl)
          try simp only [Act.put, sA, sZ, sS]
          refine wpAnyH_ready (rs := [5]) (by kernel_rfl) (by simp) ?_
          refine AllReadyH.cons (List.getElem?_toArray.trans rfl) (fun K hK => ?_) AllReadyH.nil
          go_simp
          refine (Tryz.strings_HasPrefix _ _ _).mono ?_
          rintro r w9 ⟨rfl, hw9⟩
          rw [HP.out]
          subst hw9
          try go_wp2_with fail
          refine hK.out _ _ (hHeld) (fun hHeld => ?_)
          clear hK K
          try simp only [Act.put, sA, sZ, sS]
          refine wpAnyH_done (by kernel_rfl) ?_ _
          clear hHeld
          have VE := Lib.hid (show Hp w (mkb g2 F :: [obox g1 nm (some ⟨b0, off, none⟩) n c]) _ from Vwf.out.tail)
          go_wp2_with fail
          go_roundw
          case rel => exact ⟨b, k + 1, F, by omega, hbu, by go_num, rfl, by rw [HS.out]; exact HF.out, by rw [HS.out]; exact HT.out, VE.out⟩
          case measure => simp [intOf]; omega
        | true =>
          have HP := Lib.hid (show Lib.hasPrefix ((bs u).extract a ul).data.toList (bs x.t).data.toList = true by have h := has_at (a := a) (t := x.t) (rfl : bs u = bs u); rw [hsz] at h; rw [h]; exact hpf)
          have HS := Lib.hid (show stK L (u.drop a) (k + 1) = stK L (u.drop a) k ++ [k] by rw [stK_snoc, HXS.out, hpf]; simp)
          have HST := Lib.hid (show k ∈ stL L (u.drop a) from stL_mem.2 ⟨by have := HL.out; omega, by rw [HXS.out]; exact List.isPrefixOf_iff_prefix.1 hpf⟩)
          have htl : a + x.t.length ≤ ul := by
            have := (List.isPrefixOf_iff_prefix.1 hpf).length_le
            rw [List.length_drop, ← HUL.out] at this
            omega
          obtain ⟨tl, htl2⟩ : ∃ tl, tl = x.t.length := ⟨_, rfl⟩
          obtain ⟨p, hp⟩ : ∃ p, p = a + tl := ⟨_, rfl⟩
          obtain ⟨nb, hnb⟩ : ∃ nb, nb = max b p := ⟨_, rfl⟩
          have hzx : (bs x.t).size = tl := by rw [bs_size, htl2]
          have HN := Lib.hid (show MkG L u a (stK L (u.drop a) (k + 1)) (F.set p true) by rw [HS.out, hp, htl2, ← HXS.out]; exact HF.out.more HU16.out k (by rw [HXS.out, ← HUL.out]; exact htl))
          have HTN := Lib.hid (show TopM L u a (stK L (u.drop a) (k + 1)) nb by rw [HS.out, hnb, hp, htl2, ← HXS.out]; exact HT.out.more HRA.out HST.out)
          have hpu : p ≤ ul := by omega
          have hpF : p < F.length := by rw [HF.out.1]; omega
          have hmax : max (b : Int) (p : Int) = (nb : Int) := by omega
          have hnbu : nb ≤ ul := by omega
          have hpa : p ≤ a + tl := by omega
          have hpb : a + tl ≤ p := by omega
          have hwp : IntKind.i64.wrap ((a : Int) + (tl : Int)) = (p : Int) := by rw [IntWalk.i64_in _ (by omega)]; omega
          have hp17 : (p : Int) < 17 := by omega
          clear hpf htl htl2 hp hnb
          have hKp : Keep [(⟨g5, 0, none⟩, .string (bs x.t))] W6 := List.forall_mem_cons.2 ⟨⟨(V6.out.box_at (i := 0) (j := 0) rfl rfl).1, (V6.out.box_at (i := 0) (j := 0) rfl rfl).2.2⟩, fun _ h => by simp at h⟩
          refine wp_region_held_drew (S := Keep _) (by kernel_rfl) hKp.drew (fun hHeld => ?_)
          obtain ⟨wf, hwf⟩ : ∃ z, z = W6.drew := ⟨_, rfl⟩
          have Vwf := Lib.hid (show Hp w (sgbox g5 (Aj, cj) x :: mkb g2 F :: obox g1 nm (some ⟨b0, off, none⟩) n c :: []) wf by rw [hwf]; exact V6.out.go (bdrew _))
          have Bwf := Lib.hid (show Below W6.heap.size W6 wf by rw [hwf]; exact bdrew _)
          rw [← hwf] at hHeld ⊢
          clear hwf hKp
          refine tk 0 ?_ rfl ?_ ?_; rotate_left; focus (intro w hSw; clear hSw; go_simp; try (with_reducible rfl))
          try simp only [Act.put, sA, sZ, sS]
          refine tk 1 ?_ rfl ?_ ?_; rotate_left; focus (intro w hSw; clear hSw; go_simp; try (with_reducible rfl))
          try simp only [Act.put, sA, sZ, sS]
          refine tk 2 ?_ rfl ?_ ?_; rotate_left; focus (intro w hSw; clear hSw; go_simp; try (with_reducible rfl))
          try simp only [Act.put, sA, sZ, sS]
          refine tk 3 ?_ rfl ?_ ?_; rotate_left; focus (intro w hSw; clear hSw; go_simp; try (with_reducible rfl))
          try simp only [Act.put, sA, sZ, sS]
          refine tk 4 ?_ rfl ?_ ?_; rotate_left
          · intro wl hSw
            have hSw : Keep _ wl := hSw
            have k0 := (hSw _ (.head _)).1
            dsimp only at k0
            clear hSw
            go_simp
            try (with_reducible rfl)
          try simp only [Act.put, sA, sZ, sS]
          refine wpAnyH_ready (rs := [5]) (by kernel_rfl) (by simp) ?_
          refine AllReadyH.cons (List.getElem?_toArray.trans rfl) (fun K hK => ?_) AllReadyH.nil
          go_simp
          refine (Tryz.strings_HasPrefix _ _ _).mono ?_
          rintro r w9 ⟨rfl, hw9⟩
          rw [HP.out]
          subst hw9
          try go_wp2_with fail
          refine hK.out _ _ (hHeld) (fun hHeld => ?_)
          clear hK K
          try simp only [Act.put, sA, sZ, sS]
          refine wpAnyH_done (by kernel_rfl) ?_ _
          clear hHeld
          obtain ⟨k0, k1, k2⟩ := mkb_at Vwf.out (i := 1) rfl hpF
          have kS := (Vwf.out.box_at (i := 0) (j := 0) rfl rfl).1
          have kS2 := (Vwf.out.box_at (i := 0) (j := 0) rfl rfl).2.2
          have VE := Lib.hid (show Hp w (mkb g2 (F.set p true) :: [obox g1 nm (some ⟨b0, off, none⟩) n c]) (w9.setCell ⟨g2, p, none⟩ (.bool true)) from (mkb_set Vwf.out (i := 1) rfl p).tail)
          go_wp2_with fail
          go_roundw
          case rel => exact ⟨nb, k + 1, _, by omega, hnbu, by go_num, rfl, HN.out, HTN.out, VE.out⟩
          case measure => simp [intOf]; omega
end Go.Proofs.YtjamfcihjendiaaGreat
