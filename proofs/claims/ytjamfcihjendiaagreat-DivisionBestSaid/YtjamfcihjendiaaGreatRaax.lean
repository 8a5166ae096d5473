/- Several texts in one: Jm. -/
import Derived.Test.YtjamfcihjendiaaGreatRaau
import Derived.Test.YtjamfcihjendiaaGreatRaaw
namespace Go.Proofs.YtjamfcihjendiaaGreat
open Go.RowKit
set_option linter.unusedVariables false
set_option linter.unusedSimpArgs false
set_option maxRecDepth 100000

theorem tD_ge {L : List Sg} (hne : TxNe L) : ∀ d : List Nat, (∀ i ∈ d, i < L.length) → d.length ≤ (tD L d).length
  | [], _ => Nat.zero_le _
  | i :: r, h => by
    have h1 := hne.at (h i List.mem_cons_self)
    have h2 := tD_ge hne r (fun j hj => h j (List.mem_cons_of_mem _ hj))
    rw [show tD L (i :: r) = (sgAt L i).t ++ tD L r from rfl, List.length_append, List.length_cons]; omega
theorem bh_len {L : List Sg} (hne : TxNe L) {f i : Nat} {u : List UInt8} {B : List Snd} (hf : u.length ≤ f) (hi : i < L.length) (hp : (sgAt L i).t <+: u) {d : List Nat} (h : d ∈ bh L f i u B) : d.length ≤ u.length := by
  obtain ⟨r, _, h1, h2, _⟩ := (bh_mem hne f i u B hf hi hp d).1 h
  have := tD_ge hne d h1
  rwa [h2] at this
theorem hdr_cellM {w : World} {b off k : Nat} {ps : List Prow} {C : Option Addr} {d : Nat} {y : List Nat} (h : CellsIn w (some ⟨b, off, none⟩) (rvP ps)) (hp : ps[k]? = some ((C, d), y)) : w.cell? ⟨b, off + k, none⟩ = some (.slice C y.length d) ∧ b < w.heap.size := by
  obtain ⟨b2, o2, e, hb, hc⟩ := h.at_ (rvP_get hp)
  injection e with e
  injection e with e1 e2
  subst e1; subst e2
  exact ⟨hc, hb⟩
theorem idx_cellM {W w : World} {a : Itm} {l : List Itm} {b o m d k i : Nat} {D : List Nat} (h : Hp W (a :: nums (some ⟨b, o, none⟩) m d (dI D) :: l) w) (hi : D[k]? = some i) : w.cell? ⟨b, o + k, none⟩ = some (.int .i64 (i : Int)) ∧ b < w.heap.size := idx_cellJ h.tail hi
theorem onTo_take_le (L : List Sg) (f i : Nat) (v : List UInt8) (B : List Snd) (ks : List Nat) (k : Nat) : (onTo L f i v B (ks.take k)).length ≤ (onTo L f i v B ks).length := by
  have h : onTo L f i v B ks = onTo L f i v B (ks.take k) ++ onTo L f i v B (ks.drop k) := by
    conv => lhs; rw [← List.take_append_drop k ks]
    unfold onTo; rw [List.flatMap_append]
  rw [h, List.length_append]; omega
def rowP (ps : List Prow) : List Itm := ps.map fun p => nums p.1.1 p.2.length p.1.2 (dI p.2)
theorem rowP_snoc (ps : List Prow) (p : Prow) : rowP (ps ++ [p]) = rowP ps ++ [nums p.1.1 p.2.length p.1.2 (dI p.2)] := by unfold rowP; rw [List.map_append]; rfl
theorem rowP_get {ps : List Prow} {k : Nat} {p : Prow} (h : ps[k]? = some p) : (rowP ps)[k]? = some (nums p.1.1 p.2.length p.1.2 (dI p.2)) := by unfold rowP; rw [List.getElem?_map, h]; rfl
theorem row17 {a : List Itm} {ps qs : List Prow} {k : Nat} {C : Option Addr} {d : Nat} {y : List Nat} (hp : ps[k]? = some ((C, d), y)) : (a ++ (rowP ps ++ rowP qs))[a.length + k]? = some (nums C y.length d (dI y)) := by
  rw [List.getElem?_append_right (by omega), Nat.add_sub_cancel_left, List.getElem?_append_left (by unfold rowP; rw [List.length_map]; exact (List.getElem?_eq_some_iff.1 hp).1)]
  exact rowP_get hp
theorem Hp.cutout {W w : World} {a b c : List Itm} (h : Hp W (a ++ (b ++ c)) w) : Hp W (a ++ c) w := by
  refine h.sub (fun i => if i < a.length then i else i + b.length) (fun i j e => ?_) (fun i it hi => ?_)
  · split at e <;> split at e <;> omega
  · by_cases h1 : i < a.length
    · rw [if_pos h1]
      rw [List.getElem?_append_left h1] at hi ⊢
      exact hi
    · rw [if_neg h1]
      rw [List.getElem?_append_right (by omega)] at hi
      rw [List.getElem?_append_right (by omega), List.getElem?_append_right (by omega), show i + b.length - a.length - b.length = i - a.length by omega]
      exact hi
set_option maxHeartbeats 3000000 in
theorem rbehind_any (nm : List UInt8) (L : List Sg) (A : Option Addr) (n c0 : Nat) (u : List UInt8) (T : Option Addr) (N e0 : Nat) (hv : (vO nm L).2 = 0) (hl : L.length = n) (hu : u.length ≤ 1000) (hN : u.length < N) :
    ∀ (f i at_ : Nat) (S : List Snd) (B : Option Addr) (nb cb : Nat) (w : World), (u.drop at_).length ≤ f → SgnIn w A L → (∀ p, p < u.length → RowAt w T p n (tbN L u p)) → i ∈ stL L (u.drop at_) → at_ ≤ u.length → S.length = nb → nb ≤ 1000 → CellsIn w B (sndsC S) → (bh L f i (u.drop at_) S).length ≤ 200 →
    Calls Tryz.prog 24 #[.agg #[.string (bs nm), .slice A n c0], .string (bs u), .slice T N e0, .int .i64 (i : Int), .int .i64 (at_ : Int), .slice B nb cb] w fun r w' => ∃ Q k e ps, r = .returned (.slice Q k e) ∧ ps.map (·.2) = bh L f i (u.drop at_) S ∧ ps.length = k ∧ Hp w (hdrP Q k e ps :: rowP ps) w' := by
  intro f
  induction f with
  | zero =>
    intro i at_ S B nb cb w hf hA hT hi hat hS hnb hB hc
    exfalso
    have h0 := stL_mem.1 hi
    have h1 := h0.2.length_le
    have h2 := (TxNe.ok hv).at h0.1
    omega
  | succ f ih =>
  intro i at_ S B nb cb w hf hA hT hi hat hS hnb hB hc
  obtain ⟨g1, hg1⟩ : ∃ z, z = w.heap.size := ⟨_, rfl⟩
  obtain ⟨W1, hW1⟩ : ∃ z, z = w.alloc (.cells #[.string (bs nm), .slice A n c0] 24) := ⟨_, rfl⟩
  have V1 := Lib.hid (show Hp w [obox g1 nm A n c0] W1 by rw [hW1, hg1]; exact (Hp.start w).obox_new nm A n c0)
  have HW1 := Lib.hid hW1
  have HG1 := Lib.hid hg1
  have HV := Lib.hid hv
  have HL := Lib.hid hl
  have HA := Lib.hid hA
  have HT := Lib.hid hT
  have HS := Lib.hid hS
  have HB := Lib.hid hB
  have HC := Lib.hid hc
  have HNE := Lib.hid (TxNe.ok hv)
  have HI := Lib.hid (stL_mem.1 hi)
  have hin : i < n := by have := HI.out.1; omega
  have hn120 : n ≤ 120 := by have := (vO_zero HV.out).2.2.1; omega
  have hile := HI.out.2.length_le
  have h0 := HNE.out.at HI.out.1
  obtain ⟨x, hx⟩ := get_at (L := L) (k := i) HI.out.1
  have hxi := sgAt_is hx
  rw [hxi] at hile h0
  rw [List.length_drop] at hile hf
  obtain ⟨ul, hul⟩ : ∃ ul, ul = u.length := ⟨_, rfl⟩
  have HUL := Lib.hid hul
  obtain ⟨s, hsu⟩ : ∃ s, s = bs u := ⟨_, rfl⟩
  have hsz : s.size = ul := by rw [hsu, bs_size, hul]
  have HSU := Lib.hid hsu
  rw [← hsu] at ih
  have IH := Lib.hid ih
  obtain ⟨tl, htl⟩ : ∃ tl, tl = x.t.length := ⟨_, rfl⟩
  have htz : (bs x.t).size = tl := by rw [bs_size, htl]
  obtain ⟨nx, hnx⟩ : ∃ nx, nx = at_ + tl := ⟨_, rfl⟩
  have HDD := Lib.hid (show (u.drop at_).drop (sgAt L i).t.length = u.drop nx by rw [List.drop_drop, hxi, hnx, htl])
  rw [← hul] at hu hN hile hf hat
  rw [← htl] at hile h0
  have hnxw : IntKind.i64.wrap ((at_ : Int) + (tl : Int)) = (nx : Int) := by rw [IntWalk.i64_in _ (by omega)]; omega
  have hnxa : at_ + 1 ≤ nx := by omega
  have hfn : ul - nx ≤ f := by omega
  have HXI := Lib.hid hxi
  have HXS := Lib.hid (show x.s.length ≤ 2 by have := sgn_bd HV.out HI.out.1; rw [hxi] at this; omega)
  have HTL := Lib.hid htl
  have HFB := Lib.hid (fun (Q : List Snd) => (show fitB L (i : Int) S Q = whB x.w S Q by rw [← hxi]; exact fitB_at (sgAt_get HI.out.1)))
  obtain ⟨b, off, Aj, cj, hAe, hb, b0, b1, b2, b3, c4⟩ := HA.out.at hx
  have HC4 := Lib.hid c4
  have c0' := (V1.out.below.cell (p := ⟨b, off + i * 4, none⟩) hb).trans b0
  have c1 := (V1.out.below.cell (p := ⟨b, off + i * 4 + 1, none⟩) hb).trans b1
  have c2 := (V1.out.below.cell (p := ⟨b, off + i * 4 + 2, none⟩) hb).trans b2
  have c3 := (V1.out.below.cell (p := ⟨b, off + i * 4 + 3, none⟩) hb).trans b3
  obtain ⟨z0, z1, z2⟩ := V1.out.obox_at (i := 0) rfl
  rw [hAe] at z1
  have HAE := Lib.hid hAe
  have hi4 : i * 4 ≤ 480 := by omega
  have hnxu : nx ≤ ul := by omega
  have hnx1 : 1 ≤ nx := by omega
  rw [← hsu]
  subst hAe
  clear hW1 hg1 hv hl hA hT hS hB hc ih hi hsu hul hxi hx htl hnx b0 b1 b2 b3 c4
  go_enter Tryz.func24, Tryz.ntmps24
  go_upto_region 1 with fail
  rw [← HG1.out, ← HW1.out]
  obtain ⟨g8, hg8⟩ : ∃ z, z = W1.heap.size := ⟨_, rfl⟩
  obtain ⟨W2, hW2⟩ : ∃ z, z = W1.alloc (.cells #[.string (bs x.t), .slice Aj x.s.length cj, .int .i64 x.c, .int .i64 x.w] 64) := ⟨_, rfl⟩
  have V2 := Lib.hid (show Hp w (sgbox g8 (Aj, cj) x :: obox g1 nm (some ⟨b, off, none⟩) n c0 :: []) W2 by rw [hW2, hg8]; exact V1.out.sgbox_new Aj cj x)
  have HW2 := Lib.hid hW2
  have HG8 := Lib.hid hg8
  clear hW2 hg8
  go_upto_region 2 with fail
  rw [← HG8.out, ← HW2.out]
  clear V1 z0 z1 z2 c0' c1 c2 c3 hb
  obtain ⟨y0, y1, y2, y3, y4⟩ := V2.out.sgbox_at (i := 0) rfl
  by_cases hend : nx = ul
  · have HBH := Lib.hid (show bh L (f + 1) i (u.drop at_) S = if whB x.w S [] = true then [[i]] else [] by
      rw [bh_end (by rw [HDD.out, List.length_drop, ← HUL.out]; omega), HXI.out])
    have e1 : ((nx : Int) == (ul : Int)) = true := by rw [hend]; simp
    clear hend
    go_upto_region 4 with fail
    obtain ⟨z0, z1, z2⟩ := V2.out.obox_at (i := 1) rfl
    clear y0 y1 y2 y3
    go_wp2_with fail
    refine (rfits_any nm L (i : Int) n c0 nb cb 0 0 (some ⟨b, off, none⟩) B none _ S [] HL.out (by omega) (HA.out.below V2.out.below) HS.out (by omega) rfl (by decide) (HB.out.below V2.out.below) (CellsIn.nil _ _)).mono ?_
    rintro r w3 ⟨rfl, hb⟩
    rw [HFB.out]
    have V3 := Lib.hid (V2.out.go hb)
    clear hb z0 z1 z2
    cases hw : whB x.w S [] with
    | true =>
      have HE := Lib.hid (show bh L (f + 1) i (u.drop at_) S = [[i]] by rw [HBH.out, hw, if_pos rfl])
      obtain ⟨w4, hw4⟩ : ∃ z, z = w3.alloc (.cells #[.int .i64 (i : Int)] 3) := ⟨_, rfl⟩
      obtain ⟨g4, hg4⟩ : ∃ z, z = w3.heap.size := ⟨_, rfl⟩
      have V4 := Lib.hid (show Hp w (nums (some ⟨g4, 0, none⟩) 1 1 (dI [i]) :: sgbox g8 (Aj, cj) x :: obox g1 nm (some ⟨b, off, none⟩) n c0 :: []) w4 by rw [hw4, hg4]; exact V3.out.lit 3 1 1 (ints (dI [i])) rfl (by decide))
      obtain ⟨w5, hw5⟩ : ∃ z, z = w4.alloc (.cells #[.slice (some ⟨g4, 0, none⟩) 1 1] 35) := ⟨_, rfl⟩
      obtain ⟨g5, hg5⟩ : ∃ z, z = w4.heap.size := ⟨_, rfl⟩
      have V5 := Lib.hid (show Hp w (hdrP (some ⟨g5, 0, none⟩) 1 1 [((some ⟨g4, 0, none⟩, 1), [i])] :: nums (some ⟨g4, 0, none⟩) 1 1 (dI [i]) :: sgbox g8 (Aj, cj) x :: obox g1 nm (some ⟨b, off, none⟩) n c0 :: []) w5 by rw [hw5, hg5]; exact V4.out.lit 35 1 1 (rvP [((some ⟨g4, 0, none⟩, 1), [i])]) rfl (by decide))
      have HW4 := Lib.hid hw4
      have HG4 := Lib.hid hg4
      have hg54 : g5 = g4 + 1 := by rw [hg5, hw4, hg4]; exact Array.size_push _
      have HW5 := Lib.hid hw5
      have HG5 := Lib.hid hg5
      clear hw4 hg4 hw5 hg5
      go_wp2_with fail
      try rw [← HG4.out, ← HW4.out]
      try rw [← HG5.out, ← HW5.out]
      go_ret
      exact ⟨some ⟨g5, 0, none⟩, 1, 1, [((some ⟨g4, 0, none⟩, 1), [i])], by first | rfl | (rw [hg54]; rfl), by rw [HE.out]; rfl, rfl, (by (try rw [← HW5.out]); exact Hp.cutout (a := [_, _]) (b := [_, _]) (c := []) V5.out)⟩
    | false =>
      have HE := Lib.hid (show bh L (f + 1) i (u.drop at_) S = [] by rw [HBH.out, hw, if_neg (by decide)])
      go_wp2_with fail
      go_ret
      exact ⟨none, 0, 0, [], rfl, by rw [HE.out]; rfl, rfl, ((Hp.start w).go V3.out.below).nil_row (hdrP none 0 0 []) rfl rfl rfl⟩
  have e1 : ((nx : Int) == (ul : Int)) = false := by rw [beq_eq_false_iff_ne]; omega
  have hlt : nx < ul := by omega
  have hfu : ul - nx ≤ f := hfn
  have HBH := Lib.hid (show bh L (f + 1) i (u.drop at_) S = onTo L f i (u.drop nx) S (stL L (u.drop nx)) by
    rw [bh_on (by rw [HDD.out, List.length_drop, ← HUL.out]; omega), HDD.out]; rfl)
  obtain ⟨cc, hcc⟩ : ∃ cc, cc = clsB x.s := ⟨_, rfl⟩
  have HCC := Lib.hid hcc
  have hcc3 : cc < 3 := by rw [hcc]; exact clsB_lt _
  have hcc4 : (cc : Int) < 3 := by omega
  have HTB := Lib.hid (fun (k : Nat) (hk : k ∈ stL L (u.drop nx)) => (show tbN L u nx k cc = mn (bh L f k (u.drop nx) x.s).length by
    rw [HCC.out]; exact tbN_is HNE.out hk _ (by rw [List.length_drop, ← HUL.out]; omega)))
  have HROW2 := Lib.hid (HT.out nx (by rw [← HUL.out]; exact hlt))
  obtain ⟨z0, z1, z2⟩ := V2.out.obox_at (i := 1) rfl
  clear hend hcc
  go_upto_region 8 with fail
  clear y0 y1 y2 y3
  go_wp2_with fail
  refine (rstands_any nm L (some ⟨b, off, none⟩) n c0 s u nx _ HSU.out (by rw [← HUL.out]; omega) (by rw [← HUL.out]; exact hnxu) HL.out (by omega) (fun x hx => by have := (txE_zero (sgE_zero ((vO_zero HV.out).2.2.2 x hx)).1).2.1; omega) (HA.out.below V2.out.below)).mono ?_
  rintro r w3 ⟨C, m, d, rfl, hm, hp⟩
  have V3 := Lib.hid (show Hp w (hdrP none 0 0 [] :: nums C m d (dI (stL L (u.drop nx))) :: sgbox g8 (Aj, cj) x :: obox g1 nm (some ⟨b, off, none⟩) n c0 :: []) w3 from (V2.out.join hp).nil_row (hdrP none 0 0 []) rfl rfl rfl)
  have HM := Lib.hid hm
  have hmn : m ≤ n := by rw [← hm, ← HL.out]; exact stL_len _ _
  clear hm hp z0 z1 z2 V2
  go_wp2_with fail
  clear e1
  go_loopw [15, 17] (fun v j wr => ∃ (k q e : Nat) (Q : Option Addr) (ps : List Prow), k ≤ m ∧ j = .int .i64 (k : Int) ∧ v = .slice Q q e ∧ ps.length = q ∧ ps.map (·.2) = onTo L f i (u.drop nx) S ((stL L (u.drop nx)).take k) ∧ Hp w (hdrP Q q e ps :: nums C m d (dI (stL L (u.drop nx))) :: sgbox g8 (Aj, cj) x :: obox g1 nm (some ⟨b, off, none⟩) n c0 :: rowP ps) wr) (fun _ j _ => m - (intOf j).toNat)
  case atStart => exact ⟨0, 0, 0, none, [], Nat.zero_le _, rfl, rfl, rfl, rfl, V3.out⟩
  case round =>
    obtain ⟨k, q, e, Q, ps, hk, rfl, rfl, hpl, hpe, hV⟩ := hrel
    obtain ⟨wi, rfl⟩ : ∃ wi : World, wi = wr := ⟨_, rfl⟩
    have V4 := Lib.hid hV
    have HPE := Lib.hid hpe
    have HPL := Lib.hid hpl
    clear hV V3 hpe hpl
    by_cases hkm : k < m
    · obtain ⟨j, hj⟩ := get_at (L := stL L (u.drop nx)) (k := k) (by have := HM.out; omega)
      have hjm := List.mem_of_getElem? hj
      have hjl := (stL_mem.1 hjm).1
      obtain ⟨y, hy⟩ := get_at (L := L) (k := j) hjl
      have HON := Lib.hid (show onTo L f i (u.drop nx) S ((stL L (u.drop nx)).take (k + 1)) = onTo L f i (u.drop nx) S ((stL L (u.drop nx)).take k) ++ (if whB x.w S y.s = true then (bh L f j (u.drop nx) x.s).map (i :: ·) else []) by
        rw [take_snocA hj, onTo_snoc, sgAt_is hy, HXI.out])
      have HTJ := Lib.hid (HTB.out j hjm)
      obtain ⟨nj, hnj⟩ : ∃ nj, nj = tbN L u nx j cc := ⟨_, rfl⟩
      have hnj2 : nj ≤ 201 := by rw [hnj]; exact tbN_le _ _ _ _ _
      have HNJ := Lib.hid hnj
      obtain ⟨t, o, bR, qR, eR, hTe, ht0, hb0, t0, hrc⟩ := HROW2.out
      have r0 := hrc j cc (by have := HL.out; omega) hcc3
      rw [← hnj] at r0
      have HT0 := Lib.hid (And.intro ht0 t0)
      have HR0 := Lib.hid (And.intro hb0 r0)
      obtain ⟨bC, oC', hCe, hbC, d0⟩ := CellsIn.idx (V4.out.cells (i := 1) (it := nums C m d (dI (stL L (u.drop nx)))) (A := C) (c := d) rfl rfl) hj
      obtain ⟨b2, off2, A2, cj2, hAe2, hb2, u0, u1, u2, u3, u4⟩ := HA.out.at hy
      injection hAe2 with hAe2
      injection hAe2 with hAe2 hAe3
      subst hAe2
      subst hAe3
      have HC1 := Lib.hid (And.intro hb2 u1)
      have HC5 := Lib.hid u4
      have HYS := Lib.hid (show y.s.length ≤ 2 by have := sgn_bd HV.out hjl; rw [sgAt_is hy] at this; omega)
      have HXS0 := Lib.hid (show 0 < x.s.length by have := sgn_bd HV.out HI.out.1; rw [HXI.out] at this; omega)
      have HJ := Lib.hid hj
      have HJM := Lib.hid hjm
      have HCE := Lib.hid hCe
      have HTE := Lib.hid hTe
      have hjn : j < n := by have := HL.out; omega
      have hj4 : j * 4 ≤ 480 := by omega
      have hj3 : j * 3 ≤ 360 := by omega
      have hnxN : nx < N := by omega
      subst hCe
      subst hTe
      clear hj hjm hjl hy hnj ht0 hb0 t0 hrc r0 hb2 u0 u1 u2 u3 u4 d0
      go_upto_region 12 with fail
      by_cases hz : nj = 0
      · have e2 : ((nj : Int) == (0 : Int)) = true := by rw [hz]; rfl
        have e3 : decide (nj = 0) = true := decide_eq_true hz
        have HN := Lib.hid (show onTo L f i (u.drop nx) S ((stL L (u.drop nx)).take (k + 1)) = ps.map (·.2) by
          have h1 : bh L f j (u.drop nx) x.s = [] := by
            refine List.eq_nil_of_length_eq_zero ?_
            have h2 := HTJ.out
            rw [← HNJ.out, hz] at h2
            have := (mn_pos (n := (bh L f j (u.drop nx) x.s).length))
            omega
          rw [HON.out, h1, HPE.out]; split <;> simp)
        clear hz
        have hKp : Keep [(⟨t, o + nx, none⟩, .slice (some ⟨bR, qR, none⟩) n eR), (⟨bC, oC' + k, none⟩, .int .i64 (j : Int)), (⟨g8, 1, none⟩, .slice Aj x.s.length cj), (⟨bR, qR + j * 3 + cc, none⟩, .int .i64 (nj : Int)), (⟨g1, 0, none⟩, .string (bs nm)), (⟨g1, 1, none⟩, .slice (some ⟨b, off, none⟩) n c0), (⟨b, off + j * 4 + 1, none⟩, .slice A2 y.s.length cj2)] wi := List.forall_mem_cons.2 ⟨⟨(V4.out.below.cell (p := ⟨t, o + nx, none⟩) HT0.out.1).trans HT0.out.2, Nat.lt_of_lt_of_le HT0.out.1 V4.out.below.size⟩, List.forall_mem_cons.2 ⟨⟨(idx_cellM V4.out HJ.out).1, (idx_cellM V4.out HJ.out).2⟩, List.forall_mem_cons.2 ⟨⟨(V4.out.box_at (i := 2) (j := 1) rfl rfl).1, (V4.out.box_at (i := 2) (j := 1) rfl rfl).2.2⟩, List.forall_mem_cons.2 ⟨⟨(V4.out.below.cell (p := ⟨bR, qR + j * 3 + cc, none⟩) HR0.out.1).trans HR0.out.2, Nat.lt_of_lt_of_le HR0.out.1 V4.out.below.size⟩, List.forall_mem_cons.2 ⟨⟨(V4.out.box_at (i := 3) (j := 0) rfl rfl).1, (V4.out.box_at (i := 3) (j := 0) rfl rfl).2.2⟩, List.forall_mem_cons.2 ⟨⟨(V4.out.box_at (i := 3) (j := 1) rfl rfl).1, (V4.out.box_at (i := 3) (j := 1) rfl rfl).2.2⟩, List.forall_mem_cons.2 ⟨⟨(V4.out.below.cell (p := ⟨b, off + j * 4 + 1, none⟩) HC1.out.1).trans HC1.out.2, Nat.lt_of_lt_of_le HC1.out.1 V4.out.below.size⟩, fun _ h => by simp at h⟩⟩⟩⟩⟩⟩⟩
        refine wp_region_held_drew (S := Keep _) (by kernel_rfl) hKp.drew (fun hHeld => ?_)
        obtain ⟨wf, hwf⟩ : ∃ z, z = wi.drew := ⟨_, rfl⟩
        have Vwf := Lib.hid (show Hp w (hdrP Q q e ps :: nums (some ⟨bC, oC', none⟩) m d (dI (stL L (u.drop nx))) :: sgbox g8 (Aj, cj) x :: obox g1 nm (some ⟨b, off, none⟩) n c0 :: rowP ps) wf by rw [hwf]; exact V4.out.go (bdrew _))
        have Bwf := Lib.hid (show Below wi.heap.size wi wf by rw [hwf]; exact bdrew _)
        rw [← hwf] at hHeld ⊢
        clear hwf hKp
        refine tk 0 ?_ rfl ?_ ?_; rotate_left; focus (intro w hSw; clear hSw; go_simp; try (with_reducible rfl))
        try simp only [Act.put, sA, sZ, sS]
        refine tk 1 ?_ rfl ?_ ?_; rotate_left; focus (intro w hSw; clear hSw; go_simp; try (with_reducible rfl))
        try simp only [Act.put, sA, sZ, sS]
        refine tk 2 ?_ rfl ?_ ?_; rotate_left; focus (intro w hSw; clear hSw; go_simp; try (with_reducible rfl))
        try simp only [Act.put, sA, sZ, sS]
        refine tk 3 ?_ rfl ?_ ?_; rotate_left
        · intro wl hSw
          have hSw : Keep _ wl := hSw
          have k0 := (hSw _ (.head _)).1
          dsimp only at k0
          clear hSw
          go_simp
          try (with_reducible rfl)
        try simp only [Act.put, sA, sZ, sS]
        refine tk 4 ?_ rfl ?_ ?_; rotate_left; focus (intro w hSw; clear hSw; go_simp; try (with_reducible rfl))
        try simp only [Act.put, sA, sZ, sS]
        refine tk 5 ?_ rfl ?_ ?_; rotate_left; focus (intro w hSw; clear hSw; go_simp; try (with_reducible rfl))
        try simp only [Act.put, sA, sZ, sS]
        refine tk 6 ?_ rfl ?_ ?_; rotate_left; focus (intro w hSw; clear hSw; go_simp; try (with_reducible rfl))
        try simp only [Act.put, sA, sZ, sS]
        refine tk 7 ?_ rfl ?_ ?_; rotate_left
        · intro wl hSw
          have hSw : Keep _ wl := hSw
          have k0 := (hSw _ (.tail _ (.head _))).1
          dsimp only at k0
          clear hSw
          go_simp
          try (with_reducible rfl)
        try simp only [Act.put, sA, sZ, sS]
        refine tk 8 ?_ rfl ?_ ?_; rotate_left; focus (intro w hSw; clear hSw; go_simp; try (with_reducible rfl))
        try simp only [Act.put, sA, sZ, sS]
        refine tk 9 ?_ rfl ?_ ?_; rotate_left
        · intro wl hSw
          have hSw : Keep _ wl := hSw
          have k0 := (hSw _ (.tail _ (.tail _ (.head _)))).1
          dsimp only at k0
          clear hSw
          go_simp
          try (with_reducible rfl)
        try simp only [Act.put, sA, sZ, sS]
        refine tk 11 ?_ rfl ?_ ?_; rotate_left; focus (intro w hSw; clear hSw; go_simp; try (with_reducible rfl))
        try simp only [Act.put, sA, sZ, sS]
        refine wpAnyH_ready (rs := [10]) (by kernel_rfl) (by simp) ?_
        refine AllReadyH.cons (List.getElem?_toArray.trans rfl) (fun K hK => ?_) AllReadyH.nil
        go_simp
        refine (rclass_any x.s Aj x.s.length cj _ rfl HXS0.out (by have := HXS.out; omega) (HC4.out.below Vwf.out.below)).mono ?_
        rintro r w_10 ⟨rfl, hb⟩
        rw [← HCC.out]
        have V_10 := Lib.hid (Vwf.out.go hb)
        have B_10 := Lib.hid hb
        clear hb
        try go_wp2_with fail
        refine hK.out _ _ (hHeld.go B_10.out) (fun hHeld => ?_)
        clear hK K
        try simp only [Act.put, sA, sZ, sS]
        refine tk 12 ?_ rfl ?_ ?_; rotate_left; focus (intro w hSw; clear hSw; go_simp; try (with_reducible rfl))
        try simp only [Act.put, sA, sZ, sS]
        refine tk 13 ?_ rfl ?_ ?_; rotate_left
        · intro wl hSw
          have hSw : Keep _ wl := hSw
          have k0 := (hSw _ (.tail _ (.tail _ (.tail _ (.head _))))).1
          dsimp only at k0
          clear hSw
          go_simp
          try (with_reducible rfl)
        try simp only [Act.put, sA, sZ, sS]
        refine tk 14 ?_ rfl ?_ ?_; rotate_left; focus (intro w hSw; clear hSw; go_simp; try (with_reducible rfl))
        try simp only [Act.put, sA, sZ, sS]
        refine tk 15 ?_ rfl ?_ ?_; rotate_left; focus (intro w hSw; clear hSw; go_simp; try (with_reducible rfl))
        try simp only [Act.put, sA, sZ, sS]
        refine tu 16 rfl ?_
        try simp only [Act.put, sA, sZ, sS]
        refine tu 17 rfl ?_
        try simp only [Act.put, sA, sZ, sS]
        refine tu 18 rfl ?_
        try simp only [Act.put, sA, sZ, sS]
        refine tu 19 rfl ?_
        try simp only [Act.put, sA, sZ, sS]
        refine tu 20 rfl ?_
        try simp only [Act.put, sA, sZ, sS]
        refine tu 21 rfl ?_
        try simp only [Act.put, sA, sZ, sS]
        refine tu 22 rfl ?_
        try simp only [Act.put, sA, sZ, sS]
        refine tu 23 rfl ?_
        try simp only [Act.put, sA, sZ, sS]
        refine tu 24 rfl ?_
        try simp only [Act.put, sA, sZ, sS]
        refine tu 25 rfl ?_
        try simp only [Act.put, sA, sZ, sS]
        refine tu 26 rfl ?_
        try simp only [Act.put, sA, sZ, sS]
        refine tu 27 rfl ?_
        try simp only [Act.put, sA, sZ, sS]
        refine tu 28 rfl ?_
        try simp only [Act.put, sA, sZ, sS]
        refine tu 29 rfl ?_
        try simp only [Act.put, sA, sZ, sS]
        refine tk 30 ?_ rfl ?_ ?_; rotate_left; focus (intro w hSw; clear hSw; go_simp; try (with_reducible rfl))
        try simp only [Act.put, sA, sZ, sS]
        refine wpAnyH_done (by kernel_rfl) ?_ _
        clear hHeld
        go_wp2_with fail
        go_roundw
        case rel => exact ⟨k + 1, q, e, Q, ps, by omega, by go_num, rfl, HPL.out, HN.out.symm, V_10.out⟩
        case measure => simp [intOf]; omega
      · have e2 : ((nj : Int) == (0 : Int)) = false := by rw [beq_eq_false_iff_ne]; omega
        have e3 : decide (nj = 0) = false := decide_eq_false hz
        cases hw : whB x.w S y.s with
        | false =>
          have HW := Lib.hid (show fitB L (i : Int) S y.s = false by rw [HFB.out, hw])
          have HN := Lib.hid (show onTo L f i (u.drop nx) S ((stL L (u.drop nx)).take (k + 1)) = ps.map (·.2) by
            rw [HON.out, if_neg (by rw [hw]; decide), HPE.out, List.append_nil])
          clear hz hw
          have hKp : Keep [(⟨t, o + nx, none⟩, .slice (some ⟨bR, qR, none⟩) n eR), (⟨bC, oC' + k, none⟩, .int .i64 (j : Int)), (⟨g8, 1, none⟩, .slice Aj x.s.length cj), (⟨bR, qR + j * 3 + cc, none⟩, .int .i64 (nj : Int)), (⟨g1, 0, none⟩, .string (bs nm)), (⟨g1, 1, none⟩, .slice (some ⟨b, off, none⟩) n c0), (⟨b, off + j * 4 + 1, none⟩, .slice A2 y.s.length cj2)] wi := List.forall_mem_cons.2 ⟨⟨(V4.out.below.cell (p := ⟨t, o + nx, none⟩) HT0.out.1).trans HT0.out.2, Nat.lt_of_lt_of_le HT0.out.1 V4.out.below.size⟩, List.forall_mem_cons.2 ⟨⟨(idx_cellM V4.out HJ.out).1, (idx_cellM V4.out HJ.out).2⟩, List.forall_mem_cons.2 ⟨⟨(V4.out.box_at (i := 2) (j := 1) rfl rfl).1, (V4.out.box_at (i := 2) (j := 1) rfl rfl).2.2⟩, List.forall_mem_cons.2 ⟨⟨(V4.out.below.cell (p := ⟨bR, qR + j * 3 + cc, none⟩) HR0.out.1).trans HR0.out.2, Nat.lt_of_lt_of_le HR0.out.1 V4.out.below.size⟩, List.forall_mem_cons.2 ⟨⟨(V4.out.box_at (i := 3) (j := 0) rfl rfl).1, (V4.out.box_at (i := 3) (j := 0) rfl rfl).2.2⟩, List.forall_mem_cons.2 ⟨⟨(V4.out.box_at (i := 3) (j := 1) rfl rfl).1, (V4.out.box_at (i := 3) (j := 1) rfl rfl).2.2⟩, List.forall_mem_cons.2 ⟨⟨(V4.out.below.cell (p := ⟨b, off + j * 4 + 1, none⟩) HC1.out.1).trans HC1.out.2, Nat.lt_of_lt_of_le HC1.out.1 V4.out.below.size⟩, fun _ h => by simp at h⟩⟩⟩⟩⟩⟩⟩
          refine wp_region_held_drew (S := Keep _) (by kernel_rfl) hKp.drew (fun hHeld => ?_)
          obtain ⟨wf, hwf⟩ : ∃ z, z = wi.drew := ⟨_, rfl⟩
          have Vwf := Lib.hid (show Hp w (hdrP Q q e ps :: nums (some ⟨bC, oC', none⟩) m d (dI (stL L (u.drop nx))) :: sgbox g8 (Aj, cj) x :: obox g1 nm (some ⟨b, off, none⟩) n c0 :: rowP ps) wf by rw [hwf]; exact V4.out.go (bdrew _))
          have Bwf := Lib.hid (show Below wi.heap.size wi wf by rw [hwf]; exact bdrew _)
          rw [← hwf] at hHeld ⊢
          clear hwf hKp
          refine tk 0 ?_ rfl ?_ ?_; rotate_left; focus (intro w hSw; clear hSw; go_simp; try (with_reducible rfl))
          try simp only [Act.put, sA, sZ, sS]
          refine tk 1 ?_ rfl ?_ ?_; rotate_left; focus (intro w hSw; clear hSw; go_simp; try (with_reducible rfl))
          try simp only [Act.put, sA, sZ, sS]
          refine tk 2 ?_ rfl ?_ ?_; rotate_left; focus (intro w hSw; clear hSw; go_simp; try (with_reducible rfl))
          try simp only [Act.put, sA, sZ, sS]
          refine tk 3 ?_ rfl ?_ ?_; rotate_left
          · intro wl hSw
            have hSw : Keep _ wl := hSw
            have k0 := (hSw _ (.head _)).1
            dsimp only at k0
            clear hSw
            go_simp
            try (with_reducible rfl)
          try simp only [Act.put, sA, sZ, sS]
          refine tk 4 ?_ rfl ?_ ?_; rotate_left; focus (intro w hSw; clear hSw; go_simp; try (with_reducible rfl))
          try simp only [Act.put, sA, sZ, sS]
          refine tk 5 ?_ rfl ?_ ?_; rotate_left; focus (intro w hSw; clear hSw; go_simp; try (with_reducible rfl))
          try simp only [Act.put, sA, sZ, sS]
          refine tk 6 ?_ rfl ?_ ?_; rotate_left; focus (intro w hSw; clear hSw; go_simp; try (with_reducible rfl))
          try simp only [Act.put, sA, sZ, sS]
          refine tk 7 ?_ rfl ?_ ?_; rotate_left
          · intro wl hSw
            have hSw : Keep _ wl := hSw
            have k0 := (hSw _ (.tail _ (.head _))).1
            dsimp only at k0
            clear hSw
            go_simp
            try (with_reducible rfl)
          try simp only [Act.put, sA, sZ, sS]
          refine tk 8 ?_ rfl ?_ ?_; rotate_left; focus (intro w hSw; clear hSw; go_simp; try (with_reducible rfl))
          try simp only [Act.put, sA, sZ, sS]
          refine tk 9 ?_ rfl ?_ ?_; rotate_left
          · intro wl hSw
            have hSw : Keep _ wl := hSw
            have k0 := (hSw _ (.tail _ (.tail _ (.head _)))).1
            dsimp only at k0
            clear hSw
            go_simp
            try (with_reducible rfl)
          try simp only [Act.put, sA, sZ, sS]
          refine tk 11 ?_ rfl ?_ ?_; rotate_left; focus (intro w hSw; clear hSw; go_simp; try (with_reducible rfl))
          try simp only [Act.put, sA, sZ, sS]
          refine wpAnyH_ready (rs := [10]) (by kernel_rfl) (by simp) ?_
          refine AllReadyH.cons (List.getElem?_toArray.trans rfl) (fun K hK => ?_) AllReadyH.nil
          go_simp
          refine (rclass_any x.s Aj x.s.length cj _ rfl HXS0.out (by have := HXS.out; omega) (HC4.out.below Vwf.out.below)).mono ?_
          rintro r w_10 ⟨rfl, hb⟩
          rw [← HCC.out]
          have V_10 := Lib.hid (Vwf.out.go hb)
          have B_10 := Lib.hid hb
          clear hb
          try go_wp2_with fail
          refine hK.out _ _ (hHeld.go B_10.out) (fun hHeld => ?_)
          clear hK K
          try simp only [Act.put, sA, sZ, sS]
          refine tk 12 ?_ rfl ?_ ?_; rotate_left; focus (intro w hSw; clear hSw; go_simp; try (with_reducible rfl))
          try simp only [Act.put, sA, sZ, sS]
          refine tk 13 ?_ rfl ?_ ?_; rotate_left
          · intro wl hSw
            have hSw : Keep _ wl := hSw
            have k0 := (hSw _ (.tail _ (.tail _ (.tail _ (.head _))))).1
            dsimp only at k0
            clear hSw
            go_simp
            try (with_reducible rfl)
          try simp only [Act.put, sA, sZ, sS]
          refine tk 14 ?_ rfl ?_ ?_; rotate_left; focus (intro w hSw; clear hSw; go_simp; try (with_reducible rfl))
          try simp only [Act.put, sA, sZ, sS]
          refine tk 15 ?_ rfl ?_ ?_; rotate_left; focus (intro w hSw; clear hSw; go_simp; try (with_reducible rfl))
          try simp only [Act.put, sA, sZ, sS]
          refine tk 16 ?_ rfl ?_ ?_; rotate_left
          · intro wl hSw
            have hSw : Keep _ wl := hSw
            have k0 := (hSw _ (.tail _ (.tail _ (.tail _ (.tail _ (.head _)))))).1
            have k1 := (hSw _ (.tail _ (.tail _ (.tail _ (.tail _ (.tail _ (.head _))))))).1
            dsimp only at k0 k1
            clear hSw
            go_simp
            try (with_reducible rfl)
          try simp only [Act.put, sA, sZ, sS]
          refine tk 17 ?_ rfl ?_ ?_; rotate_left; focus (intro w hSw; clear hSw; go_simp; try (with_reducible rfl))
          try simp only [Act.put, sA, sZ, sS]
          refine tk 18 ?_ rfl ?_ ?_; rotate_left; focus (intro w hSw; clear hSw; go_simp; try (with_reducible rfl))
          try simp only [Act.put, sA, sZ, sS]
          refine tk 19 ?_ rfl ?_ ?_; rotate_left; focus (intro w hSw; clear hSw; go_simp; try (with_reducible rfl))
          try simp only [Act.put, sA, sZ, sS]
          refine tk 20 ?_ rfl ?_ ?_; rotate_left
          · intro wl hSw
            have hSw : Keep _ wl := hSw
            have k0 := (hSw _ (.tail _ (.tail _ (.tail _ (.tail _ (.tail _ (.head _))))))).1
            dsimp only at k0
            clear hSw
            go_simp
            try (with_reducible rfl)
          try simp only [Act.put, sA, sZ, sS]
          refine tk 21 ?_ rfl ?_ ?_; rotate_left; focus (intro w hSw; clear hSw; go_simp; try (with_reducible rfl))
          try simp only [Act.put, sA, sZ, sS]
          refine tk 22 ?_ rfl ?_ ?_; rotate_left; focus (intro w hSw; clear hSw; go_simp; try (with_reducible rfl))
          try simp only [Act.put, sA, sZ, sS]
          refine tk 23 ?_ rfl ?_ ?_; rotate_left; focus (intro w hSw; clear hSw; go_simp; try (with_reducible rfl))
          try simp only [Act.put, sA, sZ, sS]
          refine tk 24 ?_ rfl ?_ ?_; rotate_left
          · intro wl hSw
            have hSw : Keep _ wl := hSw
            have k0 := (hSw _ (.tail _ (.head _))).1
            dsimp only at k0
            clear hSw
            go_simp
            try (with_reducible rfl)
          try simp only [Act.put, sA, sZ, sS]
          refine tk 25 ?_ rfl ?_ ?_; rotate_left; focus (intro w hSw; clear hSw; go_simp; try (with_reducible rfl))
          try simp only [Act.put, sA, sZ, sS]
          refine tk 26 ?_ rfl ?_ ?_; rotate_left; focus (intro w hSw; clear hSw; go_simp; try (with_reducible rfl))
          try simp only [Act.put, sA, sZ, sS]
          refine tk 27 ?_ rfl ?_ ?_; rotate_left
          · intro wl hSw
            have hSw : Keep _ wl := hSw
            have k0 := (hSw _ (.tail _ (.tail _ (.tail _ (.tail _ (.tail _ (.tail _ (.head _)))))))).1
            dsimp only at k0
            clear hSw
            go_simp
            try (with_reducible rfl)
          try simp only [Act.put, sA, sZ, sS]
          refine wpAnyH_ready (rs := [28]) (by kernel_rfl) (by simp) ?_
          refine AllReadyH.cons (List.getElem?_toArray.trans rfl) (fun K hK => ?_) AllReadyH.nil
          go_simp
          refine (rfits_any nm L (i : Int) n c0 nb cb y.s.length cj2 (some ⟨b, off, none⟩) B A2 _ S y.s HL.out (by omega) (HA.out.below V_10.out.below) HS.out (by omega) rfl (by have := HYS.out; omega) (HB.out.below V_10.out.below) (HC5.out.below V_10.out.below)).mono ?_
          rintro r w_10_28 ⟨rfl, hb⟩
          rw [HW.out]
          have V_10_28 := Lib.hid (V_10.out.go hb)
          have B_10_28 := Lib.hid hb
          clear hb
          try go_wp2_with fail
          refine hK.out _ _ (hHeld.go B_10_28.out) (fun hHeld => ?_)
          clear hK K
          try simp only [Act.put, sA, sZ, sS]
          refine tk 29 ?_ rfl ?_ ?_; rotate_left; focus (intro w hSw; clear hSw; go_simp; try (with_reducible rfl))
          try simp only [Act.put, sA, sZ, sS]
          refine tk 30 ?_ rfl ?_ ?_; rotate_left; focus (intro w hSw; clear hSw; go_simp; try (with_reducible rfl))
          try simp only [Act.put, sA, sZ, sS]
          refine wpAnyH_done (by kernel_rfl) ?_ _
          clear hHeld
          go_wp2_with fail
          go_roundw
          case rel => exact ⟨k + 1, q, e, Q, ps, by omega, by go_num, rfl, HPL.out, HN.out.symm, V_10_28.out⟩
          case measure => simp [intOf]; omega
        | true =>
          have HW := Lib.hid (show fitB L (i : Int) S y.s = true by rw [HFB.out, hw])
          have HN := Lib.hid (show onTo L f i (u.drop nx) S ((stL L (u.drop nx)).take (k + 1)) = ps.map (·.2) ++ (bh L f j (u.drop nx) x.s).map (i :: ·) by
            rw [HON.out, if_pos hw, HPE.out])
          have HLB := Lib.hid (show (bh L f j (u.drop nx) x.s).length ≤ 200 by
            have h1 := onTo_take_le L f i (u.drop nx) S (stL L (u.drop nx)) (k + 1)
            rw [HN.out, List.length_append, List.length_map, List.length_map] at h1
            have h2 := HC.out
            rw [HBH.out] at h2
            omega)
          have HQB := Lib.hid (show q + (bh L f j (u.drop nx) x.s).length ≤ 200 by
            have h1 := onTo_take_le L f i (u.drop nx) S (stL L (u.drop nx)) (k + 1)
            rw [HN.out, List.length_append, List.length_map, List.length_map, HPL.out] at h1
            have h2 := HC.out
            rw [HBH.out] at h2
            omega)
          clear hz hw
          have hKp : Keep [(⟨t, o + nx, none⟩, .slice (some ⟨bR, qR, none⟩) n eR), (⟨bC, oC' + k, none⟩, .int .i64 (j : Int)), (⟨g8, 1, none⟩, .slice Aj x.s.length cj), (⟨bR, qR + j * 3 + cc, none⟩, .int .i64 (nj : Int)), (⟨g1, 0, none⟩, .string (bs nm)), (⟨g1, 1, none⟩, .slice (some ⟨b, off, none⟩) n c0), (⟨b, off + j * 4 + 1, none⟩, .slice A2 y.s.length cj2)] wi := List.forall_mem_cons.2 ⟨⟨(V4.out.below.cell (p := ⟨t, o + nx, none⟩) HT0.out.1).trans HT0.out.2, Nat.lt_of_lt_of_le HT0.out.1 V4.out.below.size⟩, List.forall_mem_cons.2 ⟨⟨(idx_cellM V4.out HJ.out).1, (idx_cellM V4.out HJ.out).2⟩, List.forall_mem_cons.2 ⟨⟨(V4.out.box_at (i := 2) (j := 1) rfl rfl).1, (V4.out.box_at (i := 2) (j := 1) rfl rfl).2.2⟩, List.forall_mem_cons.2 ⟨⟨(V4.out.below.cell (p := ⟨bR, qR + j * 3 + cc, none⟩) HR0.out.1).trans HR0.out.2, Nat.lt_of_lt_of_le HR0.out.1 V4.out.below.size⟩, List.forall_mem_cons.2 ⟨⟨(V4.out.box_at (i := 3) (j := 0) rfl rfl).1, (V4.out.box_at (i := 3) (j := 0) rfl rfl).2.2⟩, List.forall_mem_cons.2 ⟨⟨(V4.out.box_at (i := 3) (j := 1) rfl rfl).1, (V4.out.box_at (i := 3) (j := 1) rfl rfl).2.2⟩, List.forall_mem_cons.2 ⟨⟨(V4.out.below.cell (p := ⟨b, off + j * 4 + 1, none⟩) HC1.out.1).trans HC1.out.2, Nat.lt_of_lt_of_le HC1.out.1 V4.out.below.size⟩, fun _ h => by simp at h⟩⟩⟩⟩⟩⟩⟩
          refine wp_region_held_drew (S := Keep _) (by kernel_rfl) hKp.drew (fun hHeld => ?_)
          obtain ⟨wf, hwf⟩ : ∃ z, z = wi.drew := ⟨_, rfl⟩
          have Vwf := Lib.hid (show Hp w (hdrP Q q e ps :: nums (some ⟨bC, oC', none⟩) m d (dI (stL L (u.drop nx))) :: sgbox g8 (Aj, cj) x :: obox g1 nm (some ⟨b, off, none⟩) n c0 :: rowP ps) wf by rw [hwf]; exact V4.out.go (bdrew _))
          have Bwf := Lib.hid (show Below wi.heap.size wi wf by rw [hwf]; exact bdrew _)
          rw [← hwf] at hHeld ⊢
          clear hwf hKp
          refine tk 0 ?_ rfl ?_ ?_; rotate_left; focus (intro w hSw; clear hSw; go_simp; try (with_reducible rfl))
          try simp only [Act.put, sA, sZ, sS]
          refine tk 1 ?_ rfl ?_ ?_; rotate_left; focus (intro w hSw; clear hSw; go_simp; try (with_reducible rfl))
          try simp only [Act.put, sA, sZ, sS]
          refine tk 2 ?_ rfl ?_ ?_; rotate_left; focus (intro w hSw; clear hSw; go_simp; try (with_reducible rfl))
          try simp only [Act.put, sA, sZ, sS]
          refine tk 3 ?_ rfl ?_ ?_; rotate_left
          · intro wl hSw
            have hSw : Keep _ wl := hSw
            have k0 := (hSw _ (.head _)).1
            dsimp only at k0
            clear hSw
            go_simp
            try (with_reducible rfl)
          try simp only [Act.put, sA, sZ, sS]
          refine tk 4 ?_ rfl ?_ ?_; rotate_left; focus (intro w hSw; clear hSw; go_simp; try (with_reducible rfl))
          try simp only [Act.put, sA, sZ, sS]
          refine tk 5 ?_ rfl ?_ ?_; rotate_left; focus (intro w hSw; clear hSw; go_simp; try (with_reducible rfl))
          try simp only [Act.put, sA, sZ, sS]
          refine tk 6 ?_ rfl ?_ ?_; rotate_left; focus (intro w hSw; clear hSw; go_simp; try (with_reducible rfl))
          try simp only [Act.put, sA, sZ, sS]
          refine tk 7 ?_ rfl ?_ ?_; rotate_left
          · intro wl hSw
            have hSw : Keep _ wl := hSw
            have k0 := (hSw _ (.tail _ (.head _))).1
            dsimp only at k0
            clear hSw
            go_simp
            try (with_reducible rfl)
          try simp only [Act.put, sA, sZ, sS]
          refine tk 8 ?_ rfl ?_ ?_; rotate_left; focus (intro w hSw; clear hSw; go_simp; try (with_reducible rfl))
          try simp only [Act.put, sA, sZ, sS]
          refine tk 9 ?_ rfl ?_ ?_; rotate_left
          · intro wl hSw
            have hSw : Keep _ wl := hSw
            have k0 := (hSw _ (.tail _ (.tail _ (.head _)))).1
            dsimp only at k0
            clear hSw
            go_simp
            try (with_reducible rfl)
          try simp only [Act.put, sA, sZ, sS]
          refine tk 11 ?_ rfl ?_ ?_; rotate_left; focus (intro w hSw; clear hSw; go_simp; try (with_reducible rfl))
          try simp only [Act.put, sA, sZ, sS]
          refine wpAnyH_ready (rs := [10]) (by kernel_rfl) (by simp) ?_
          refine AllReadyH.cons (List.getElem?_toArray.trans rfl) (fun K hK => ?_) AllReadyH.nil
          go_simp
          refine (rclass_any x.s Aj x.s.length cj _ rfl HXS0.out (by have := HXS.out; omega) (HC4.out.below Vwf.out.below)).mono ?_
          rintro r w_10 ⟨rfl, hb⟩
          rw [← HCC.out]
          have V_10 := Lib.hid (Vwf.out.go hb)
          have B_10 := Lib.hid hb
          clear hb
          try go_wp2_with fail
          refine hK.out _ _ (hHeld.go B_10.out) (fun hHeld => ?_)
          clear hK K
          try simp only [Act.put, sA, sZ, sS]
          refine tk 12 ?_ rfl ?_ ?_; rotate_left; focus (intro w hSw; clear hSw; go_simp; try (with_reducible rfl))
          try simp only [Act.put, sA, sZ, sS]
          refine tk 13 ?_ rfl ?_ ?_; rotate_left
          · intro wl hSw
            have hSw : Keep _ wl := hSw
            have k0 := (hSw _ (.tail _ (.tail _ (.tail _ (.head _))))).1
            dsimp only at k0
            clear hSw
            go_simp
            try (with_reducible rfl)
          try simp only [Act.put, sA, sZ, sS]
          refine tk 14 ?_ rfl ?_ ?_; rotate_left; focus (intro w hSw; clear hSw; go_simp; try (with_reducible rfl))
          try simp only [Act.put, sA, sZ, sS]
          refine tk 15 ?_ rfl ?_ ?_; rotate_left; focus (intro w hSw; clear hSw; go_simp; try (with_reducible rfl))
          try simp only [Act.put, sA, sZ, sS]
          refine tk 16 ?_ rfl ?_ ?_; rotate_left
          · intro wl hSw
            have hSw : Keep _ wl := hSw
            have k0 := (hSw _ (.tail _ (.tail _ (.tail _ (.tail _ (.head _)))))).1
            have k1 := (hSw _ (.tail _ (.tail _ (.tail _ (.tail _ (.tail _ (.head _))))))).1
            dsimp only at k0 k1
            clear hSw
            go_simp
            try (with_reducible rfl)
          try simp only [Act.put, sA, sZ, sS]
          refine tk 17 ?_ rfl ?_ ?_; rotate_left; focus (intro w hSw; clear hSw; go_simp; try (with_reducible rfl))
          try simp only [Act.put, sA, sZ, sS]
          refine tk 18 ?_ rfl ?_ ?_; rotate_left; focus (intro w hSw; clear hSw; go_simp; try (with_reducible rfl))
          try simp only [Act.put, sA, sZ, sS]
          refine tk 19 ?_ rfl ?_ ?_; rotate_left; focus (intro w hSw; clear hSw; go_simp; try (with_reducible rfl))
          try simp only [Act.put, sA, sZ, sS]
          refine tk 20 ?_ rfl ?_ ?_; rotate_left
          · intro wl hSw
            have hSw : Keep _ wl := hSw
            have k0 := (hSw _ (.tail _ (.tail _ (.tail _ (.tail _ (.tail _ (.head _))))))).1
            dsimp only at k0
            clear hSw
            go_simp
            try (with_reducible rfl)
          try simp only [Act.put, sA, sZ, sS]
          refine tk 21 ?_ rfl ?_ ?_; rotate_left; focus (intro w hSw; clear hSw; go_simp; try (with_reducible rfl))
          try simp only [Act.put, sA, sZ, sS]
          refine tk 22 ?_ rfl ?_ ?_; rotate_left; focus (intro w hSw; clear hSw; go_simp; try (with_reducible rfl))
          try simp only [Act.put, sA, sZ, sS]
          refine tk 23 ?_ rfl ?_ ?_; rotate_left; focus (intro w hSw; clear hSw; go_simp; try (with_reducible rfl))
          try simp only [Act.put, sA, sZ, sS]
          refine tk 24 ?_ rfl ?_ ?_; rotate_left
          · intro wl hSw
            have hSw : Keep _ wl := hSw
            have k0 := (hSw _ (.tail _ (.head _))).1
            dsimp only at k0
            clear hSw
            go_simp
            try (with_reducible rfl)
          try simp only [Act.put, sA, sZ, sS]
          refine tk 25 ?_ rfl ?_ ?_; rotate_left; focus (intro w hSw; clear hSw; go_simp; try (with_reducible rfl))
          try simp only [Act.put, sA, sZ, sS]
          refine tk 26 ?_ rfl ?_ ?_; rotate_left; focus (intro w hSw; clear hSw; go_simp; try (with_reducible rfl))
          try simp only [Act.put, sA, sZ, sS]
          refine tk 27 ?_ rfl ?_ ?_; rotate_left
          · intro wl hSw
            have hSw : Keep _ wl := hSw
            have k0 := (hSw _ (.tail _ (.tail _ (.tail _ (.tail _ (.tail _ (.tail _ (.head _)))))))).1
            dsimp only at k0
            clear hSw
            go_simp
            try (with_reducible rfl)
          try simp only [Act.put, sA, sZ, sS]
          refine wpAnyH_ready (rs := [28]) (by kernel_rfl) (by simp) ?_
          refine AllReadyH.cons (List.getElem?_toArray.trans rfl) (fun K hK => ?_) AllReadyH.nil
          go_simp
          refine (rfits_any nm L (i : Int) n c0 nb cb y.s.length cj2 (some ⟨b, off, none⟩) B A2 _ S y.s HL.out (by omega) (HA.out.below V_10.out.below) HS.out (by omega) rfl (by have := HYS.out; omega) (HB.out.below V_10.out.below) (HC5.out.below V_10.out.below)).mono ?_
          rintro r w_10_28 ⟨rfl, hb⟩
          rw [HW.out]
          have V_10_28 := Lib.hid (V_10.out.go hb)
          have B_10_28 := Lib.hid hb
          clear hb
          try go_wp2_with fail
          refine hK.out _ _ (hHeld.go B_10_28.out) (fun hHeld => ?_)
          clear hK K
          try simp only [Act.put, sA, sZ, sS]
          refine tk 29 ?_ rfl ?_ ?_; rotate_left; focus (intro w hSw; clear hSw; go_simp; try (with_reducible rfl))
          try simp only [Act.put, sA, sZ, sS]
          refine tk 30 ?_ rfl ?_ ?_; rotate_left; focus (intro w hSw; clear hSw; go_simp; try (with_reducible rfl))
          try simp only [Act.put, sA, sZ, sS]
          refine wpAnyH_done (by kernel_rfl) ?_ _
          clear hHeld
          go_upto_region 13 with fail
          have hKp : Keep [(⟨bC, oC' + k, none⟩, .int .i64 (j : Int)), (⟨g8, 1, none⟩, .slice Aj x.s.length cj), (⟨g1, 0, none⟩, .string (bs nm)), (⟨g1, 1, none⟩, .slice (some ⟨b, off, none⟩) n c0)] w_10_28 := List.forall_mem_cons.2 ⟨⟨(idx_cellM V_10_28.out HJ.out).1, (idx_cellM V_10_28.out HJ.out).2⟩, List.forall_mem_cons.2 ⟨⟨(V_10_28.out.box_at (i := 2) (j := 1) rfl rfl).1, (V_10_28.out.box_at (i := 2) (j := 1) rfl rfl).2.2⟩, List.forall_mem_cons.2 ⟨⟨(V_10_28.out.box_at (i := 3) (j := 0) rfl rfl).1, (V_10_28.out.box_at (i := 3) (j := 0) rfl rfl).2.2⟩, List.forall_mem_cons.2 ⟨⟨(V_10_28.out.box_at (i := 3) (j := 1) rfl rfl).1, (V_10_28.out.box_at (i := 3) (j := 1) rfl rfl).2.2⟩, fun _ h => by simp at h⟩⟩⟩⟩
          refine wp_region_held_drew (S := Keep _) (by kernel_rfl) hKp.drew (fun hHeld => ?_)
          obtain ⟨wk, hwk⟩ : ∃ z, z = w_10_28.drew := ⟨_, rfl⟩
          have Vwk := Lib.hid (show Hp w (hdrP Q q e ps :: nums (some ⟨bC, oC', none⟩) m d (dI (stL L (u.drop nx))) :: sgbox g8 (Aj, cj) x :: obox g1 nm (some ⟨b, off, none⟩) n c0 :: rowP ps) wk by rw [hwk]; exact V_10_28.out.go (bdrew _))
          have Bwk := Lib.hid (show Below w_10_28.heap.size w_10_28 wk by rw [hwk]; exact bdrew _)
          rw [← hwk] at hHeld ⊢
          clear hwk hKp
          refine tk 0 ?_ rfl ?_ ?_; rotate_left
          · intro wl hSw
            have hSw : Keep _ wl := hSw
            have k0 := (hSw _ (.tail _ (.tail _ (.head _)))).1
            have k1 := (hSw _ (.tail _ (.tail _ (.tail _ (.head _))))).1
            dsimp only at k0 k1
            clear hSw
            go_simp
            try (with_reducible rfl)
          try simp only [Act.put, sA, sZ, sS]
          refine tk 1 ?_ rfl ?_ ?_; rotate_left; focus (intro w hSw; clear hSw; go_simp; try (with_reducible rfl))
          try simp only [Act.put, sA, sZ, sS]
          refine tk 2 ?_ rfl ?_ ?_; rotate_left; focus (intro w hSw; clear hSw; go_simp; try (with_reducible rfl))
          try simp only [Act.put, sA, sZ, sS]
          refine tk 3 ?_ rfl ?_ ?_; rotate_left; focus (intro w hSw; clear hSw; go_simp; try (with_reducible rfl))
          try simp only [Act.put, sA, sZ, sS]
          refine tk 4 ?_ rfl ?_ ?_; rotate_left; focus (intro w hSw; clear hSw; go_simp; try (with_reducible rfl))
          try simp only [Act.put, sA, sZ, sS]
          refine tk 5 ?_ rfl ?_ ?_; rotate_left; focus (intro w hSw; clear hSw; go_simp; try (with_reducible rfl))
          try simp only [Act.put, sA, sZ, sS]
          refine tk 6 ?_ rfl ?_ ?_; rotate_left
          · intro wl hSw
            have hSw : Keep _ wl := hSw
            have k0 := (hSw _ (.head _)).1
            dsimp only at k0
            clear hSw
            go_simp
            try (with_reducible rfl)
          try simp only [Act.put, sA, sZ, sS]
          refine tk 7 ?_ rfl ?_ ?_; rotate_left; focus (intro w hSw; clear hSw; go_simp; try (with_reducible rfl))
          try simp only [Act.put, sA, sZ, sS]
          refine tk 8 ?_ rfl ?_ ?_; rotate_left; focus (intro w hSw; clear hSw; go_simp; try (with_reducible rfl))
          try simp only [Act.put, sA, sZ, sS]
          refine tk 9 ?_ rfl ?_ ?_; rotate_left
          · intro wl hSw
            have hSw : Keep _ wl := hSw
            have k0 := (hSw _ (.tail _ (.head _))).1
            dsimp only at k0
            clear hSw
            go_simp
            try (with_reducible rfl)
          try simp only [Act.put, sA, sZ, sS]
          refine wpAnyH_ready (rs := [10]) (by kernel_rfl) (by simp) ?_
          refine AllReadyH.cons (List.getElem?_toArray.trans rfl) (fun K hK => ?_) AllReadyH.nil
          go_simp
          refine (IH.out j nx x.s Aj x.s.length cj _ (by rw [List.length_drop, ← HUL.out]; exact hfu) (HA.out.below Vwk.out.below) (fun p hp => (HT.out p hp).below Vwk.out.below) HJM.out (by rw [← HUL.out]; exact hnxu) rfl (by have := HXS.out; omega) (HC4.out.below Vwk.out.below) HLB.out).mono ?_
          rintro r w_10 ⟨M, mk, me, pm, rfl, hpm, hpml, hb⟩
          have HPM := Lib.hid hpm
          have HPML := Lib.hid hpml
          have B_10 := Lib.hid hb.below
          have V_10 := Lib.hid (show Hp w (obox g1 nm (some ⟨b, off, none⟩) n c0 :: sgbox g8 (Aj, cj) x :: nums (some ⟨bC, oC', none⟩) m d (dI (stL L (u.drop nx))) :: hdrP Q q e ps :: hdrP M mk me pm :: (rowP pm ++ rowP ps)) w_10 from Hp.front (l := sgbox g8 (Aj, cj) x :: nums (some ⟨bC, oC', none⟩) m d (dI (stL L (u.drop nx))) :: hdrP Q q e ps :: hdrP M mk me pm :: rowP pm) (Hp.front (l := nums (some ⟨bC, oC', none⟩) m d (dI (stL L (u.drop nx))) :: hdrP Q q e ps :: hdrP M mk me pm :: rowP pm) (Hp.front (l := hdrP Q q e ps :: hdrP M mk me pm :: rowP pm) (Hp.front (l := hdrP M mk me pm :: rowP pm) (Vwk.out.join hb)))))
          clear hb hpm hpml
          try go_wp2_with fail
          refine hK.out _ _ (hHeld.go B_10.out) (fun hHeld => ?_)
          clear hK K
          try simp only [Act.put, sA, sZ, sS]
          refine tk 11 ?_ rfl ?_ ?_; rotate_left; focus (intro w hSw; clear hSw; go_simp; try (with_reducible rfl))
          try simp only [Act.put, sA, sZ, sS]
          refine wpAnyH_done (by kernel_rfl) ?_ _
          clear hHeld
          go_wp2_with fail
          go_loopw [15, 19] (fun v z wr => ∃ (t2 q2 e2 : Nat) (Q2 : Option Addr) (ps2 : List Prow), t2 ≤ mk ∧ z = .int .i64 (t2 : Int) ∧ v = .slice Q2 q2 e2 ∧ ps2.length = q2 ∧ q2 ≤ q + t2 ∧ ps2.map (·.2) = ps.map (·.2) ++ ((bh L f j (u.drop nx) x.s).take t2).map (i :: ·) ∧ Hp w (obox g1 nm (some ⟨b, off, none⟩) n c0 :: sgbox g8 (Aj, cj) x :: nums (some ⟨bC, oC', none⟩) m d (dI (stL L (u.drop nx))) :: hdrP Q2 q2 e2 ps2 :: hdrP M mk me pm :: (rowP pm ++ rowP ps2)) wr) (fun _ z _ => mk - (intOf z).toNat)
          case atStart => exact ⟨0, q, e, Q, ps, Nat.zero_le _, rfl, rfl, HPL.out, Nat.le_refl _, by simp, V_10.out⟩
          case round =>
            obtain ⟨t2, q2, e2, Q2, ps2, ht2, rfl, rfl, hpl2, hq2, hpe2, hV⟩ := hrel
            obtain ⟨wm, rfl⟩ : ∃ wi : World, wi = wr := ⟨_, rfl⟩
            have V6 := Lib.hid hV
            have HPL2 := Lib.hid hpl2
            have HPE2 := Lib.hid hpe2
            clear hV hpl2 hpe2 V_10
            have hmk : mk ≤ 200 := by have := HPML.out; have h2 := congrArg List.length HPM.out; rw [List.length_map] at h2; have := HLB.out; omega
            have hq200 : q2 ≤ 400 := by have := HQB.out; omega
            by_cases htm : t2 < mk
            · obtain ⟨⟨⟨C9, d9⟩, y9⟩, hp9⟩ := get_at (L := pm) (k := t2) (by have := HPML.out; omega)
              have hy9 : (bh L f j (u.drop nx) x.s)[t2]? = some y9 := by rw [← HPM.out, List.getElem?_map, hp9]; rfl
              have HN2 := Lib.hid (show ps.map (·.2) ++ ((bh L f j (u.drop nx) x.s).take (t2 + 1)).map (i :: ·) = ps2.map (·.2) ++ [i :: y9] by rw [take_snocA hy9, List.map_append, ← List.append_assoc, ← HPE2.out]; rfl)
              have HYL := Lib.hid (show y9.length ≤ 1000 by have := bh_len HNE.out (by rw [List.length_drop, ← HUL.out]; exact hfu) (stL_mem.1 HJM.out).1 (stL_mem.1 HJM.out).2 (List.mem_of_getElem? hy9); rw [List.length_drop, ← HUL.out] at this; omega)
              obtain ⟨bM, oM, hMe, hbM, m0⟩ := (V6.out.cells (i := 4) (it := hdrP M mk me pm) rfl (A := M) (c := me) rfl).at_ (rvP_get hp9)
              have HP9 := Lib.hid hp9
              clear hp9 hy9
              subst hMe
              dsimp only at m0
              go_upto_region 17 with fail
              obtain ⟨w7, hw7⟩ : ∃ z, z = wm.alloc (.cells #[.int .i64 (i : Int)] 3) := ⟨_, rfl⟩
              have V7 := Lib.hid (show Hp w (nums (some ⟨wm.heap.size, 0, none⟩) 1 1 (dI [i]) :: obox g1 nm (some ⟨b, off, none⟩) n c0 :: sgbox g8 (Aj, cj) x :: nums (some ⟨bC, oC', none⟩) m d (dI (stL L (u.drop nx))) :: hdrP Q2 q2 e2 ps2 :: hdrP (some ⟨bM, oM, none⟩) mk me pm :: (rowP pm ++ rowP ps2)) w7 by rw [hw7]; exact V6.out.lit 3 1 1 (ints (dI [i])) rfl (by decide))
              have m1 : (wm.alloc (.cells #[.int .i64 (i : Int)] 3)).cell? ⟨bM, oM + t2, none⟩ = some (.slice C9 y9.length d9) := by
                rw [← hw7]; exact (hdr_cellM (V7.out.cells (i := 5) (it := hdrP (some ⟨bM, oM, none⟩) mk me pm) rfl (A := some ⟨bM, oM, none⟩) (c := me) rfl) HP9.out).1
              have cq : CellsIn w7 C9 (ints (dI y9)) := V7.out.cells (i := 6 + t2) (it := nums C9 y9.length d9 (dI y9)) (row17 (a := [_, _, _, _, _, _]) HP9.out) (A := C9) (c := d9) rfl
              have hy9l : y9.length ≤ 1000 := HYL.out
              obtain ⟨A7, c7, w8, hr8, hv8, _⟩ := run_cat_nums V7.out (i := 0) rfl 35 (B := C9) (m := y9.length) (d := d9) (dI y9) (by rw [dI_len]) cq (by omega) (by omega)
              have V8 := Lib.hid (show Hp w (nums A7 (1 + y9.length) c7 (dI (i :: y9)) :: obox g1 nm (some ⟨b, off, none⟩) n c0 :: sgbox g8 (Aj, cj) x :: nums (some ⟨bC, oC', none⟩) m d (dI (stL L (u.drop nx))) :: hdrP Q2 q2 e2 ps2 :: hdrP (some ⟨bM, oM, none⟩) mk me pm :: (rowP pm ++ rowP ps2)) w8 from hv8)
              obtain ⟨w9, hw9⟩ : ∃ z, z = w8.alloc (.cells #[.slice A7 (1 + y9.length) c7] 35) := ⟨_, rfl⟩
              have V9 := Lib.hid (show Hp w (hdrP (some ⟨w8.heap.size, 0, none⟩) 1 1 [((A7, c7), i :: y9)] :: nums A7 (1 + y9.length) c7 (dI (i :: y9)) :: obox g1 nm (some ⟨b, off, none⟩) n c0 :: sgbox g8 (Aj, cj) x :: nums (some ⟨bC, oC', none⟩) m d (dI (stL L (u.drop nx))) :: hdrP Q2 q2 e2 ps2 :: hdrP (some ⟨bM, oM, none⟩) mk me pm :: (rowP pm ++ rowP ps2)) w9 by rw [hw9, show 1 + y9.length = (i :: y9).length by rw [List.length_cons]; omega]; rw [show 1 + y9.length = (i :: y9).length by rw [List.length_cons]; omega] at V8; exact V8.out.lit 35 1 1 (rvP [((A7, c7), i :: y9)]) rfl (by decide))
              obtain ⟨A9, c9, w10, hr10, hv10, _⟩ := run_cat_P V9.out (i := 5) rfl 27 (B := some ⟨w8.heap.size, 0, none⟩) (m := 1) (d := 1) [((A7, c7), i :: y9)] rfl (V9.out.cells (i := 0) (it := hdrP (some ⟨w8.heap.size, 0, none⟩) 1 1 [((A7, c7), i :: y9)]) rfl (A := some ⟨w8.heap.size, 0, none⟩) (c := 1) rfl) (by omega) (by omega)
              have VZ := Lib.hid (show Hp w (hdrP (some ⟨w8.heap.size, 0, none⟩) 1 1 [((A7, c7), i :: y9)] :: nums A7 (1 + y9.length) c7 (dI (i :: y9)) :: obox g1 nm (some ⟨b, off, none⟩) n c0 :: sgbox g8 (Aj, cj) x :: nums (some ⟨bC, oC', none⟩) m d (dI (stL L (u.drop nx))) :: hdrP A9 (q2 + 1) c9 (ps2 ++ [((A7, c7), i :: y9)]) :: hdrP (some ⟨bM, oM, none⟩) mk me pm :: (rowP pm ++ rowP ps2)) w10 from hv10)
              have VY := Lib.hid (show Hp w (obox g1 nm (some ⟨b, off, none⟩) n c0 :: sgbox g8 (Aj, cj) x :: nums (some ⟨bC, oC', none⟩) m d (dI (stL L (u.drop nx))) :: hdrP A9 (q2 + 1) c9 (ps2 ++ [((A7, c7), i :: y9)]) :: hdrP (some ⟨bM, oM, none⟩) mk me pm :: (rowP pm ++ rowP (ps2 ++ [((A7, c7), i :: y9)]))) w10 by
                rw [rowP_snoc, ← List.append_assoc]
                have hz := Hp.sink (l := obox g1 nm (some ⟨b, off, none⟩) n c0 :: sgbox g8 (Aj, cj) x :: nums (some ⟨bC, oC', none⟩) m d (dI (stL L (u.drop nx))) :: hdrP A9 (q2 + 1) c9 (ps2 ++ [((A7, c7), i :: y9)]) :: hdrP (some ⟨bM, oM, none⟩) mk me pm :: (rowP pm ++ rowP ps2)) (l2 := []) (by rw [List.append_nil]; exact VZ.out.tail)
                rw [show 1 + y9.length = (i :: y9).length by rw [List.length_cons]; omega] at hz
                exact hz)
              have HW7 := Lib.hid hw7
              have HW9 := Lib.hid hw9
              have R8 := Lib.hid hr8
              have R10 := Lib.hid hr10
              clear hw7 hw9 hr8 hr10 hv8 hv10 cq V7 V8 V9 VZ hbM m0
              go_wp2_with (at_builtin; first | (rw [← HW7.out]; refine wpList_app_run rfl (.tmp 101) (.tmp 105) 35 rfl R8.out rfl rfl ?_) | (rw [← HW9.out]; refine wpList_app_run rfl (.tmp 99) (.tmp 107) 27 rfl R10.out rfl rfl ?_))
              go_roundw
              case rel => exact ⟨t2 + 1, q2 + 1, c9, A9, _, by omega, by go_num, rfl, by rw [List.length_append, HPL2.out]; rfl, by omega, by rw [HN2.out, List.map_append]; rfl, VY.out⟩
              case measure => simp [intOf]; omega
            · obtain rfl : t2 = mk := by omega
              have HN2 := Lib.hid (show ps2.map (·.2) = onTo L f i (u.drop nx) S ((stL L (u.drop nx)).take (k + 1)) by rw [HN.out, HPE2.out, List.take_of_length_le (by have := HPML.out; have h2 := congrArg List.length HPM.out; rw [List.length_map] at h2; omega)])
              have V7 := Lib.hid (show Hp w (hdrP Q2 q2 e2 ps2 :: nums (some ⟨bC, oC', none⟩) m d (dI (stL L (u.drop nx))) :: sgbox g8 (Aj, cj) x :: obox g1 nm (some ⟨b, off, none⟩) n c0 :: rowP ps2) wm from Hp.front (l := [_, _, _]) (Hp.front (l := [_, _]) (Hp.front (l := [_]) (Hp.cutout (a := [_, _, _, _]) (b := hdrP M t2 me pm :: rowP pm) (c := rowP ps2) V6.out))))
              go_wp2_with fail
              go_roundw
              case rel => exact ⟨k + 1, q2, e2, Q2, ps2, by omega, by go_num, rfl, HPL2.out, HN2.out, V7.out⟩
              case measure => simp [intOf]; omega
    · obtain rfl : k = m := by omega
      have HE := Lib.hid (show ps.map (·.2) = bh L (f + 1) i (u.drop at_) S by
        rw [HBH.out, HPE.out, List.take_of_length_le (by have := HM.out; omega)])
      go_wp2_with fail
      go_ret
      exact ⟨Q, q, e, ps, rfl, HE.out, HPL.out, Hp.cutout (a := [_]) (b := [_, _, _]) V4.out⟩
end Go.Proofs.YtjamfcihjendiaaGreat
