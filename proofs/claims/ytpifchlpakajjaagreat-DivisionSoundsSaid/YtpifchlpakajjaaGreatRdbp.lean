/- Several texts in one: Jh. -/
import Derived.Test.YtpifchlpakajjaaGreatRdbf
import Derived.Test.YtpifchlpakajjaaGreatRdbb
namespace Go.Proofs.YtpifchlpakajjaaGreat
open Go.RowKit
set_option linter.unusedVariables false
set_option linter.unusedSimpArgs false
set_option maxRecDepth 100000

theorem idx_cell {W w : World} {l : List Itm} {b o m d k i : Nat} {D : List Nat} (h : Hp W (nums (some ⟨b, o, none⟩) m d (dI D) :: l) w) (hi : D[k]? = some i) : w.cell? ⟨b, o + k, none⟩ = some (.int .i64 (i : Int)) ∧ b < w.heap.size := by
  obtain ⟨b2, o2, e, h1, h2⟩ := CellsIn.idx (h.cells (i := 0) (it := nums (some ⟨b, o, none⟩) m d (dI D)) (A := some ⟨b, o, none⟩) (c := d) rfl rfl) hi
  injection e with e
  injection e with e1 e2
  subst e1; subst e2
  exact ⟨h2, h1⟩
def Mk (L : List Sg) (u : List UInt8) (a : Nat) (ks : List Nat) (j : Nat) : Prop := j = 0 ∨ (∃ k i, k < a ∧ Rch L u k ∧ i ∈ stL L (u.drop k) ∧ j = k + (sgAt L i).t.length) ∨ ∃ i ∈ ks, j = a + (sgAt L i).t.length
def MkF (L : List Sg) (u : List UInt8) (a : Nat) (ks : List Nat) (F : List Bool) : Prop := F.length = u.length + 1 ∧ ∀ j, j ≤ u.length → (F.getD j false = true ↔ Mk L u a ks j)
theorem Mk.here {L : List Sg} (hne : TxNe L) {u : List UInt8} {a : Nat} (ha : a ≤ u.length) : Mk L u a [] a ↔ Rch L u a := by
  constructor
  · rintro (h | ⟨k, i, _, h2, h3, h4⟩ | ⟨i, hi, _⟩)
    · subst h; exact Rch.zero L u
    · rw [h4]; exact h2.step h3
    · cases hi
  · intro h
    rcases Nat.eq_zero_or_pos a with h0 | h0
    · exact Or.inl h0
    · obtain ⟨k, i, h1, h2, h3, h4⟩ := h.last hne h0
      exact Or.inr (Or.inl ⟨k, i, h1, h2, h3, h4⟩)
theorem Mk.on {L : List Sg} {u : List UInt8} {a : Nat} (h : Rch L u a) (j : Nat) : Mk L u a (stL L (u.drop a)) j ↔ Mk L u (a + 1) [] j := by
  constructor
  · rintro (h1 | ⟨k, i, h1, h2, h3, h4⟩ | ⟨i, hi, hj⟩)
    · exact Or.inl h1
    · exact Or.inr (Or.inl ⟨k, i, by omega, h2, h3, h4⟩)
    · exact Or.inr (Or.inl ⟨a, i, by omega, h, hi, hj⟩)
  · rintro (h1 | ⟨k, i, h1, h2, h3, h4⟩ | ⟨i, hi, _⟩)
    · exact Or.inl h1
    · rcases Nat.lt_or_ge k a with hk | hk
      · exact Or.inr (Or.inl ⟨k, i, hk, h2, h3, h4⟩)
      · obtain rfl : k = a := by omega
        exact Or.inr (Or.inr ⟨i, h3, h4⟩)
    · cases hi
theorem Mk.skip {L : List Sg} {u : List UInt8} {a : Nat} (h : ¬ Rch L u a) (j : Nat) : Mk L u a [] j ↔ Mk L u (a + 1) [] j := by
  constructor
  · rintro (h1 | ⟨k, i, h1, h2, h3, h4⟩ | ⟨i, hi, _⟩)
    · exact Or.inl h1
    · exact Or.inr (Or.inl ⟨k, i, by omega, h2, h3, h4⟩)
    · cases hi
  · rintro (h1 | ⟨k, i, h1, h2, h3, h4⟩ | ⟨i, hi, _⟩)
    · exact Or.inl h1
    · rcases Nat.lt_or_ge k a with hk | hk
      · exact Or.inr (Or.inl ⟨k, i, hk, h2, h3, h4⟩)
      · obtain rfl : k = a := by omega
        exact absurd h2 h
    · cases hi
theorem getD_set {F : List Bool} {i j : Nat} (hi : i < F.length) : (F.set i true).getD j false = if j = i then true else F.getD j false := by
  rw [List.getD_eq_getElem?_getD, List.getD_eq_getElem?_getD, List.getElem?_set]
  by_cases e : i = j
  · subst e; rw [if_pos rfl, if_pos rfl, if_pos hi]; rfl
  · rw [if_neg e, if_neg (Ne.symm e)]
theorem MkF.more {L : List Sg} {u : List UInt8} {a : Nat} {ks : List Nat} {F : List Bool} (h : MkF L u a ks F) (i : Nat) (hi : a + (sgAt L i).t.length ≤ u.length) : MkF L u a (ks ++ [i]) (F.set (a + (sgAt L i).t.length) true) := by
  obtain ⟨h1, h2⟩ := h
  refine ⟨by rw [List.length_set]; exact h1, fun j hj => ?_⟩
  rw [getD_set (by omega)]
  by_cases e : j = a + (sgAt L i).t.length
  · rw [if_pos e]
    exact ⟨fun _ => Or.inr (Or.inr ⟨i, by simp, e⟩), fun _ => rfl⟩
  · rw [if_neg e, h2 j hj]
    constructor
    · rintro (h3 | h3 | ⟨k, hk, hj2⟩)
      · exact Or.inl h3
      · exact Or.inr (Or.inl h3)
      · exact Or.inr (Or.inr ⟨k, by simp [hk], hj2⟩)
    · rintro (h3 | h3 | ⟨k, hk, hj2⟩)
      · exact Or.inl h3
      · exact Or.inr (Or.inl h3)
      · rcases List.mem_append.1 hk with hk | hk
        · exact Or.inr (Or.inr ⟨k, hk, hj2⟩)
        · rw [List.mem_singleton.1 hk] at hj2; exact absurd hj2 e
theorem MkF.start {L : List Sg} {u : List UInt8} {N : Nat} (hN : N = u.length + 1) : MkF L u 0 [] ((List.replicate N false).set 0 true) := by
  refine ⟨by rw [List.length_set, List.length_replicate, hN], fun j hj => ?_⟩
  rw [getD_set (by rw [List.length_replicate]; omega)]
  by_cases e : j = 0
  · rw [if_pos e]; exact ⟨fun _ => Or.inl e, fun _ => rfl⟩
  · rw [if_neg e, List.getD_eq_getElem?_getD, List.getElem?_replicate]
    constructor
    · intro h; split at h <;> cases h
    · rintro (h | ⟨k, _, h, _⟩ | ⟨i, hi, _⟩)
      · exact absurd h e
      · exact absurd h (Nat.not_lt_zero k)
      · cases hi
theorem TxB {nm : List UInt8} {L : List Sg} (h : (vO nm L).2 = 0) (x : Sg) (hx : x ∈ L) : x.t.length ≤ 4 := (txE_zero (sgE_zero ((vO_zero h).2.2.2 x hx)).1).2.1
def BestTo (L : List Sg) (u : List UInt8) (a b : Nat) : Prop := Rch L u b ∧ ∀ k, k < a → Rch L u k → k ≤ b
def RcPost (nm : List UInt8) (L : List Sg) (u : List UInt8) (w : World) (r : Ending) (w' : World) : Prop :=
  ∃ z : Int, r = .returned (.tuple #[.int .i64 z, .int .i64 (gvE nm L u)]) ∧ (gvE nm L u = 0 → ∃ q : Nat, z = (q : Int) ∧ RMax L u q) ∧ (gvE nm L u ≠ 0 → z = 0) ∧ Below w.heap.size w w'
set_option maxHeartbeats 3000000 in
theorem rreached13_any (nm : List UInt8) (L : List Sg) (A : Option Addr) (n c : Nat) (u : List UInt8) (w : World) (hnm : nm.length ≤ 140737488355328) (hl : L.length = n) (hn : n ≤ 17592186044416) (hs : SgBd L) (hA : SgnIn w A L) (hu : u.length ≤ 1000000) :
    Calls Tryz.prog 23 #[.agg #[.string (bs nm), .slice A n c], .string (bs u)] w (RcPost nm L u w) := by
  obtain ⟨g1, hg1⟩ : ∃ z, z = w.heap.size := ⟨_, rfl⟩
  obtain ⟨W1, hW1⟩ : ∃ z, z = w.alloc (.cells #[.string (bs nm), .slice A n c] 24) := ⟨_, rfl⟩
  have V1 := Lib.hid (show Hp w [obox g1 nm A n c] W1 by rw [hW1, hg1]; exact (Hp.start w).obox_new nm A n c)
  have HW1 := Lib.hid hW1
  have HG1 := Lib.hid hg1
  have HGI := Lib.hid (rgiven_any nm L A n c u W1 hnm hl hn hs (hA.below V1.out.below) hu)
  have HL := Lib.hid hl
  have HA := Lib.hid hA
  obtain ⟨s, hsu⟩ : ∃ s, s = bs u := ⟨_, rfl⟩
  obtain ⟨ul, hul⟩ : ∃ ul, ul = u.length := ⟨_, rfl⟩
  have HSU := Lib.hid hsu
  have HUL := Lib.hid hul
  have hsz : s.size = ul := by rw [hsu, bs_size, hul]
  rw [← hsu] at HGI ⊢
  rw [← hul] at hu
  obtain ⟨z0, z1, z2⟩ := V1.out.obox_at (i := 0) rfl
  clear hW1 hg1 hl hA hs hnm hsu hul
  go_enter Tryz.func23, Tryz.ntmps23
  go_upto_region 1 with fail
  rw [← HG1.out, ← HW1.out]
  go_wp2_with fail
  refine HGI.out.mono ?_
  rintro r w2 ⟨rfl, hb⟩
  have V2 := Lib.hid (V1.out.go hb)
  clear hb z0 z1 z2
  by_cases hgv : gvE nm L u = 0
  case neg =>
    obtain ⟨v, hvv⟩ : ∃ v, v = gvE nm L u := ⟨_, rfl⟩
    rw [← hvv] at hgv
    have HVV := Lib.hid hvv
    rw [← hvv]
    have e1 : (v != 0) = true := bne_yes hgv
    have HNV := Lib.hid hgv
    clear hgv hvv
    go_wp2_with fail
    go_ret2
    exact ⟨0, by rw [← HVV.out]; rfl, fun h => absurd (by rw [HVV.out]; exact h) HNV.out, fun _ => rfl, V2.out.below⟩
  have HGV := Lib.hid hgv
  have HV := Lib.hid (gvE_zero hgv).1
  have HNE := Lib.hid (TxNe.ok (gvE_zero hgv).1)
  rw [hgv]
  have hn120 : n ≤ 120 := by have := (vO_zero HV.out).2.2.1; have := HL.out; omega
  clear hgv
  obtain ⟨N, hN⟩ : ∃ N, N = ul + 1 := ⟨_, rfl⟩
  have hmk := fun w => make_bools ((ul : Int) + 1) N (by omega) (by omega) w
  obtain ⟨gr, hgr⟩ : ∃ gr, gr = w2.heap.size := ⟨_, rfl⟩
  obtain ⟨wy, hwy⟩ : ∃ z, z = w2.alloc (.cells (Array.replicate N (.bool false)) 4) := ⟨_, rfl⟩
  have V3 := Lib.hid (show Hp w [flags (some ⟨gr, 0, none⟩) N N (List.replicate N false), obox g1 nm A n c] wy by
    rw [hwy, hgr]; exact V2.out.made_flagsA N (by omega))
  have HY := Lib.hid hwy
  have HGR := Lib.hid hgr
  have HN := Lib.hid (show N = u.length + 1 by rw [hN, HUL.out])
  have hN1 : ul < N := by omega
  have hN2 : N ≤ ul + 1 := by omega
  have hwl : IntKind.i64.wrap ((ul : Int) + 1) = (ul : Int) + 1 := IntWalk.i64_in _ (by omega)
  clear hwy hgr hN V2 V1
  go_upto_region 5 with fail
  rw [← HY.out, ← HGR.out]
  clear hmk hwl
  obtain ⟨x1, x2, x3⟩ := V3.out.flag_at (i := 0) rfl (j := 0) (by rw [List.length_replicate]; omega)
  have V4 := Lib.hid (V3.out.flag_set (i := 0) rfl 0 true)
  have HF := Lib.hid (MkF.start (L := L) HN.out)
  obtain ⟨F, hF⟩ : ∃ F, F = (List.replicate N false).set 0 true := ⟨_, rfl⟩
  rw [← hF] at HF
  have V5 := Lib.hid (show Hp w [flags (some ⟨gr, 0, none⟩) N N F, obox g1 nm A n c] (wy.setCell ⟨gr, 0, none⟩ (.bool true)) by rw [hF]; exact V4.out)
  clear hF
  go_wp2_with fail
  clear x1 x2 x3 V3 V4
  go_loopw [8, 9] (fun b i wr => ∃ (a q : Nat) (F : List Bool), a ≤ N ∧ q ≤ ul ∧ i = .int .i64 (a : Int) ∧ b = .int .i64 (q : Int) ∧ BestTo L u a q ∧ MkF L u a [] F ∧ ∃ P, Hp w (flags (some ⟨gr, 0, none⟩) N N F :: obox g1 nm A n c :: P) wr) (fun _ i _ => N - (intOf i).toNat)
  case atStart => exact ⟨0, 0, F, Nat.zero_le _, Nat.zero_le _, rfl, rfl, ⟨Rch.zero L u, fun k hk => absurd hk (Nat.not_lt_zero k)⟩, HF.out, [], V5.out⟩
  case round =>
    obtain ⟨a, q, F, ha, hq, rfl, rfl, hbt, hmf, P, hV⟩ := hrel
    obtain ⟨wi, rfl⟩ : ∃ wi : World, wi = wr := ⟨_, rfl⟩
    have V6 := Lib.hid hV
    have HBT := Lib.hid hbt
    have HMF := Lib.hid hmf
    clear hV hbt hmf V5 HF
    by_cases hlt : a ≤ ul
    · have hFL := HMF.out.1
      obtain ⟨x1, x2, x3⟩ := V6.out.flag_at (i := 0) rfl (j := a) (by rw [hFL, ← HUL.out]; omega)
      have HH := Lib.hid ((HMF.out.2 a (by rw [← HUL.out]; exact hlt)).trans (Mk.here HNE.out (by rw [← HUL.out]; exact hlt)))
      obtain ⟨fb, hfb⟩ : ∃ fb, fb = F.getD a false := ⟨_, rfl⟩
      rw [← hfb] at x1 HH
      clear hFL hfb
      have hle : (a : Int) ≤ (ul : Int) := by omega
      cases fb with
      | false =>
        have HNR := Lib.hid (show ¬ Rch L u a from fun h => by have := HH.out.2 h; cases this)
        have HMN := Lib.hid (show MkF L u (a + 1) [] F from ⟨HMF.out.1, fun j hj => (HMF.out.2 j hj).trans (Mk.skip HNR.out j)⟩)
        have HBN := Lib.hid (show BestTo L u (a + 1) q from ⟨HBT.out.1, fun k hk hr => by
          rcases Nat.lt_or_ge k a with h | h
          · exact HBT.out.2 k h hr
          · obtain rfl : k = a := by omega
            exact absurd hr HNR.out⟩)
        go_wp2_with fail
        go_roundw
        case rel => exact ⟨a + 1, q, F, by omega, by omega, by go_num, rfl, HBN.out, HMN.out, P, V6.out⟩
        case measure => simp [intOf]; omega
      | true =>
        have HR := Lib.hid (HH.out.1 rfl)
        have HBN := Lib.hid (show BestTo L u (a + 1) a from ⟨HR.out, fun k hk _ => by omega⟩)
        obtain ⟨z0, z1, z2⟩ := V6.out.obox_at (i := 1) rfl
        go_wp2_with fail
        refine (rstands_any nm L A n c s u a _ HSU.out (by rw [← HUL.out]; exact hu) (by rw [← HUL.out]; exact hlt) HL.out (by omega) (fun x hx => by have := (TxB HV.out x hx); omega) (HA.out.below V6.out.below)).mono ?_
        rintro r w7 ⟨C, m, d, rfl, hm, hp⟩
        have V7 := Lib.hid (show Hp w (nums C m d (dI (stL L (u.drop a))) :: flags (some ⟨gr, 0, none⟩) N N F :: obox g1 nm A n c :: P) w7 from V6.out.join hp)
        have HM := Lib.hid hm
        have hmn : m ≤ n := by rw [← hm, ← HL.out]; exact stL_len _ _
        clear hm hp z0 z1 z2 x1 x2 x3 V6
        go_wp2_with fail
        go_loopw [11] (fun i wr => ∃ (k : Nat) (F : List Bool), k ≤ m ∧ i = .int .i64 (k : Int) ∧ MkF L u a ((stL L (u.drop a)).take k) F ∧ Hp w (nums C m d (dI (stL L (u.drop a))) :: flags (some ⟨gr, 0, none⟩) N N F :: obox g1 nm A n c :: P) wr) (fun i _ => m - (intOf i).toNat)
        case atStart => exact ⟨0, F, Nat.zero_le _, rfl, HMF.out, V7.out⟩
        case round =>
          obtain ⟨k, F2, hk, rfl, hmf, hV⟩ := hrel
          obtain ⟨wj, rfl⟩ : ∃ wi : World, wi = wr := ⟨_, rfl⟩
          have V8 := Lib.hid hV
          have HMF2 := Lib.hid hmf
          clear hV hmf V7
          by_cases hkl : k < m
          · obtain ⟨i, hi⟩ := get_at (L := stL L (u.drop a)) (k := k) (by have := HM.out; omega)
            have hmem := stL_mem.1 (List.mem_of_getElem? hi)
            obtain ⟨x, hx⟩ := get_at (L := L) (k := i) hmem.1
            obtain ⟨bC, oC', hCe, hbC, d0⟩ := CellsIn.idx (V8.out.cells (i := 0) (it := nums C m d (dI (stL L (u.drop a)))) (A := C) (c := d) rfl rfl) hi
            obtain ⟨b, off, Aj, cj, hAe, hb', c0', c1, c2, c3, c4⟩ := HA.out.at hx
            have HB1 := Lib.hid (And.intro hb' c0')
            have c0 := (V8.out.below.cell (p := ⟨b, off + i * 4, none⟩) hb').trans c0'
            have hb := Nat.lt_of_lt_of_le hb' V8.out.below.size
            clear hb' c0'
            obtain ⟨z0, z1, z2⟩ := V8.out.obox_at (i := 2) rfl
            have hpl := hmem.2.length_le
            rw [List.length_drop, sgAt_is hx, ← HUL.out] at hpl
            obtain ⟨p, hp⟩ : ∃ p, p = a + x.t.length := ⟨_, rfl⟩
            have hp1 : p ≤ ul := by omega
            obtain ⟨tl, htl⟩ : ∃ tl, tl = x.t.length := ⟨_, rfl⟩
            have hzt : (bs x.t).size = tl := by rw [bs_size, htl]
            have hwa : IntKind.i64.wrap ((a : Int) + (tl : Int)) = (p : Int) := by rw [IntWalk.i64_in _ (by omega)]; omega
            have HN2 := Lib.hid (show MkF L u a ((stL L (u.drop a)).take (k + 1)) (F2.set p true) by
              rw [take_snocA hi, hp, ← sgAt_is hx]; exact HMF2.out.more i (by rw [sgAt_is hx, ← HUL.out]; omega))
            rw [hAe] at z1
            have HAE := Lib.hid hAe
            have HCE := Lib.hid hCe
            have HI := Lib.hid hi
            have hi120 : i < n := by have := hmem.1; have := HL.out; omega
            have hi4 : i * 4 ≤ 480 := by omega
            have hpN : p < N := by omega
            subst hAe
            subst hCe
            clear hi hx hmem hpl hp htl c1 c2 c3 c4
            go_upto_region 16 with fail
            have hKp : Keep [(⟨g1, 1, none⟩, .slice (some ⟨b, off, none⟩) n c), (⟨bC, oC' + k, none⟩, .int .i64 (i : Int)), (⟨b, off + i * 4, none⟩, .string (bs x.t))] wj := List.forall_mem_cons.2 ⟨⟨(V8.out.box_at (i := 2) (j := 1) rfl rfl).1, (V8.out.box_at (i := 2) (j := 1) rfl rfl).2.2⟩, List.forall_mem_cons.2 ⟨⟨d0, hbC⟩, List.forall_mem_cons.2 ⟨⟨c0, hb⟩, fun _ h => by simp at h⟩⟩⟩
            refine wp_region_held_drew (S := Keep _) (by kernel_rfl) hKp.drew (fun hHeld => ?_)
            obtain ⟨wf, hwf⟩ : ∃ z, z = wj.drew := ⟨_, rfl⟩
            have Vwf := Lib.hid (show Hp w (nums (some ⟨bC, oC', none⟩) m d (dI (stL L (u.drop a))) :: flags (some ⟨gr, 0, none⟩) N N F2 :: obox g1 nm (some ⟨b, off, none⟩) n c :: P) wf by rw [hwf]; exact V8.out.go (bdrew _))
            have Bwf := Lib.hid (show Below wj.heap.size wj wf by rw [hwf]; exact bdrew _)
            rw [← hwf] at hHeld ⊢
            clear hwf hKp
            refine tk 0 ?_ rfl ?_ ?_; rotate_left; focus (intro w hSw; clear hSw; go_simp; try (with_reducible rfl))
            try simp only [Act.put, sA, sZ, sS]
            refine tk 1 ?_ rfl ?_ ?_; rotate_left; focus (intro w hSw; clear hSw; go_simp; try (with_reducible rfl))
            try simp only [Act.put, sA, sZ, sS]
            refine tk 2 ?_ rfl ?_ ?_; rotate_left; focus (intro w hSw; clear hSw; go_simp; try (with_reducible rfl))
            try simp only [Act.put, sA, sZ, sS]
            refine tk 3 ?_ rfl ?_ ?_; rotate_left
            · intro wl hSw
              have hSw : Keep _ wl := hSw
              have k0 := (hSw _ (.head _)).1
              dsimp only at k0
              clear hSw
              go_simp
              try (with_reducible rfl)
            try simp only [Act.put, sA, sZ, sS]
            refine tk 4 ?_ rfl ?_ ?_; rotate_left; focus (intro w hSw; clear hSw; go_simp; try (with_reducible rfl))
            try simp only [Act.put, sA, sZ, sS]
            refine tk 5 ?_ rfl ?_ ?_; rotate_left; focus (intro w hSw; clear hSw; go_simp; try (with_reducible rfl))
            try simp only [Act.put, sA, sZ, sS]
            refine tk 6 ?_ rfl ?_ ?_; rotate_left; focus (intro w hSw; clear hSw; go_simp; try (with_reducible rfl))
            try simp only [Act.put, sA, sZ, sS]
            refine tk 7 ?_ rfl ?_ ?_; rotate_left
            · intro wl hSw
              have hSw : Keep _ wl := hSw
              have k0 := (hSw _ (.tail _ (.head _))).1
              dsimp only at k0
              clear hSw
              go_simp
              try (with_reducible rfl)
            try simp only [Act.put, sA, sZ, sS]
            refine tk 8 ?_ rfl ?_ ?_; rotate_left; focus (intro w hSw; clear hSw; go_simp; try (with_reducible rfl))
            try simp only [Act.put, sA, sZ, sS]
            refine tk 9 ?_ rfl ?_ ?_; rotate_left; focus (intro w hSw; clear hSw; go_simp; try (with_reducible rfl))
            try simp only [Act.put, sA, sZ, sS]
            refine tk 10 ?_ rfl ?_ ?_; rotate_left
            · intro wl hSw
              have hSw : Keep _ wl := hSw
              have k0 := (hSw _ (.tail _ (.tail _ (.head _)))).1
              dsimp only at k0
              clear hSw
              go_simp
              try (with_reducible rfl)
            try simp only [Act.put, sA, sZ, sS]
            refine tk 11 ?_ rfl ?_ ?_; rotate_left; focus (intro w hSw; clear hSw; go_simp; try (with_reducible rfl))
            try simp only [Act.put, sA, sZ, sS]
            refine tk 12 ?_ rfl ?_ ?_; rotate_left; focus (intro w hSw; clear hSw; go_simp; try (with_reducible rfl))
            try simp only [Act.put, sA, sZ, sS]
            refine tk 13 ?_ rfl ?_ ?_; rotate_left; focus (intro w hSw; clear hSw; go_simp; try (with_reducible rfl))
            try simp only [Act.put, sA, sZ, sS]
            refine wpAnyH_ready (rs := [14]) (by kernel_rfl) (by simp) ?_
            refine AllReadyH.cons (List.getElem?_toArray.trans rfl) (fun K hK => ?_) AllReadyH.nil
            have hFL := HMF2.out.1
            obtain ⟨x1, x2, x3⟩ := Vwf.out.flag_at (i := 1) rfl (j := p) (by rw [hFL, ← HUL.out]; omega)
            have VE := Lib.hid (Vwf.out.flag_set (i := 1) rfl p true)
            have k3 := (VE.out.below.cell (p := ⟨b, off + i * 4, none⟩) HB1.out.1).trans HB1.out.2
            have k4 := Nat.lt_of_lt_of_le HB1.out.1 VE.out.below.size
            go_simp
            refine hK.out _ _ (List.forall_mem_cons.2 ⟨⟨(VE.out.box_at (i := 2) (j := 1) rfl rfl).1, (VE.out.box_at (i := 2) (j := 1) rfl rfl).2.2⟩, List.forall_mem_cons.2 ⟨⟨(idx_cell VE.out HI.out).1, (idx_cell VE.out HI.out).2⟩, List.forall_mem_cons.2 ⟨⟨k3, k4⟩, fun _ h => by simp at h⟩⟩⟩) (fun hHeld => ?_)
            clear hK K
            try simp only [Act.put, sA, sZ, sS]
            refine wpAnyH_done (by kernel_rfl) ?_ _
            clear hHeld
            go_wp2_with fail
            go_roundw
            case rel => exact ⟨k + 1, _, by omega, by go_num, HN2.out, VE.out⟩
            case measure => simp [intOf]; omega
          · obtain rfl : k = m := by omega
            have HT := Lib.hid (show (stL L (u.drop a)).take k = stL L (u.drop a) from List.take_of_length_le (by have := HM.out; omega))
            have HMN := Lib.hid (show MkF L u (a + 1) [] F2 by
              have := HMF2.out
              rw [HT.out] at this
              exact ⟨this.1, fun j hj => (this.2 j hj).trans (Mk.on HR.out j)⟩)
            go_wp2_with fail
            go_roundw
            case rel => exact ⟨a + 1, a, F2, by omega, by omega, by go_num, rfl, HBN.out, HMN.out, nums C k d (dI (stL L (u.drop a))) :: P, Hp.sink (l := [_, _]) V8.out⟩
            case measure => simp [intOf]; omega
    · have hle : ¬ (a : Int) ≤ (ul : Int) := by omega
      go_wp2_with fail
      go_ret2
      refine ⟨(q : Int), by rw [HGV.out]; rfl, fun _ => ⟨q, rfl, HBT.out.1, fun j hj => HBT.out.2 j (by have := hj.1; have := HUL.out; omega) hj⟩, fun h => absurd HGV.out h, V6.out.below⟩
end Go.Proofs.YtpifchlpakajjaaGreat
