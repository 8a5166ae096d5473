/- What the statement on places answers: true, whatever the input. -/
import Derived.Test.YtfgnekbkcmpdiaaGreatDoorYi
import Derived.Test.YtfgnekbkcmpdiaaGreatDoorOo
import Derived.Test.YtfgnekbkcmpdiaaGreatDoorOq
import Derived.Test.YtfgnekbkcmpdiaaGreatDoorUf
namespace Go.Proofs.YtfgnekbkcmpdiaaGreatDoor
open Go.RowKit
set_option linter.unusedVariables false
set_option linter.unusedSimpArgs false
set_option maxRecDepth 100000

def ebx (g : Nat) (AB : Option Addr) (nb cb : Nat) (AA : Option Addr) (na ca : Nat) : Itm := box 40 g [.slice AB nb cb, .slice AA na ca]
theorem Hp.ebx_at {W w : World} {l : List Itm} {i g nb cb na ca : Nat} {AB AA : Option Addr} (h : Hp W l w) (hi : l[i]? = some (ebx g AB nb cb AA na ca)) :
    w.cell? ⟨g, 0, none⟩ = some (.slice AB nb cb) ∧ w.cell? ⟨g, 1, none⟩ = some (.slice AA na ca) ∧ g < w.heap.size :=
  ⟨(h.box_at hi (j := 0) rfl).1, (h.box_at hi (j := 1) rfl).1, (h.box_at hi (j := 0) rfl).2.2⟩
theorem wh_true (B A : List Snd) : whB 0 B A = true ∧ (whB 2 B A = true → whB 1 B A = true) ∧ (whB 3 B A = true → whB 1 B A = true) ∧ whB 4 B A = !(whB 1 B A) ∧ ¬ (whB 2 B A = true ∧ whB 3 B A = true) := by
  refine ⟨rfl, fun h => ?_, fun h => ?_, rfl, fun ⟨h, h2⟩ => ?_⟩
  · have h : ((B.length == 0) && begB A) = true := h
    rw [Bool.and_eq_true] at h
    exact h.2
  · have h : (endB B && begB A) = true := h
    rw [Bool.and_eq_true] at h
    exact h.2
  · have h : ((B.length == 0) && begB A) = true := h
    have h2 : (endB B && begB A) = true := h2
    rw [Bool.and_eq_true] at h h2
    have e : B = [] := List.eq_nil_of_length_eq_zero (by simpa using h.1)
    rw [e] at h2
    exact absurd h2.1 (by decide)
def faC (B A : List Snd) (k : Nat) : List Value := (List.range 5).map fun j => .bool (decide (j < k) && whB (j : Int) B A)
theorem faC_set (B A : List Snd) : ∀ {k : Nat}, k < 5 → (faC B A k).set k (.bool (whB (k : Int) B A)) = faC B A (k + 1)
  | 0, _ => rfl
  | 1, _ => rfl
  | 2, _ => rfl
  | 3, _ => rfl
  | 4, _ => rfl
  | k + 5, h => by omega
theorem faC_at (B A : List Snd) {k j : Nat} (h : j < 5) : (faC B A k)[j]? = some (.bool (decide (j < k) && whB (j : Int) B A)) := by
  unfold faC
  rw [List.getElem?_map, List.getElem?_range h]; rfl
set_option maxHeartbeats 3000000 in
theorem lawwhere_nat (q : Nat) (AD : Option Addr) (nd cd : Nat) (D : List Int) (AM : Option Addr) (mm cm : Nat) (M : List Int) (z : Nat) (AB : Option Addr) (nb cb : Nat) (B : List Snd) (AA : Option Addr) (na ca : Nat) (A : List Snd) (w : World) (hq : q ≤ 255) (hD : D.length = nd) (hDz : ∀ z ∈ D, 0 ≤ z ∧ z ≤ 255) (hDc : CellsIn w AD (bytesC D)) (hMl : M.length = mm) (hMz : ∀ z ∈ M, 0 ≤ z ∧ z ≤ 255) (hMc : CellsIn w AM (bytesC M)) (hz : z ≤ 255)
    (hB : B.length = nb) (hnb : nb ≤ 17592186044416) (hBs : ∀ x ∈ B, x.t.length ≤ 140737488355328) (hcB : CellsIn w AB (sndsC B)) (hA : A.length = na) (hna : na ≤ 17592186044416) (hAs : ∀ x ∈ A, x.t.length ≤ 140737488355328) (hcA : CellsIn w AA (sndsC A)) (hm : MaxAt w) :
    Calls Tryz.prog 4 #[.agg #[.int .u8 (q : Int), .slice AD nd cd, .slice AM mm cm], .int .u8 (z : Int), .agg #[.slice AB nb cb, .slice AA na ca]] w fun e w' => e = .returned (.bool true) ∧ Below w.heap.size w w' := by
  obtain ⟨g1, hg1⟩ : ∃ z, z = w.heap.size := ⟨_, rfl⟩
  obtain ⟨W1, hW1⟩ : ∃ z, z = w.alloc (.cells #[.int .u8 (q : Int), .slice AD nd cd, .slice AM mm cm] 38) := ⟨_, rfl⟩
  have V1 := Lib.hid (show Hp w [dbox g1 (q : Int) AD nd cd AM mm cm] W1 by rw [hW1, hg1]; exact (Hp.start w).box_new _ _)
  have HW1 := Lib.hid hW1
  have HG1 := Lib.hid hg1
  have HM := Lib.hid hm
  obtain ⟨g2, hg2⟩ : ∃ z, z = W1.heap.size := ⟨_, rfl⟩
  obtain ⟨W2, hW2⟩ : ∃ z, z = W1.alloc (.cells #[.slice AB nb cb, .slice AA na ca] 40) := ⟨_, rfl⟩
  have V0 := Lib.hid (show Hp w [ebx g2 AB nb cb AA na ca, dbox g1 (q : Int) AD nd cd AM mm cm] W2 by rw [hW2, hg2]; exact V1.out.box_new _ _)
  have HG2 := Lib.hid (show g2 = g1 + 1 by rw [hg2, hW1, hg1]; simp)
  have HW2 := Lib.hid hW2
  have HB := Lib.hid hB
  have HBS := Lib.hid hBs
  have CB := Lib.hid hcB
  have HA := Lib.hid hA
  have HAS := Lib.hid hAs
  have CA := Lib.hid hcA
  have HMADE := Lib.hid (fun (w' : World) (hb : Below w.heap.size w w') => rmade_any q AD nd cd D AM mm cm M w' hq hD hDz (hDc.below hb) hMl hMz (hMc.below hb))
  clear hW1 hg1 hm hB hBs hcB hA hAs hcA hW2 hg2 V1 hD hDz hDc hMl hMz hMc
  go_enter Tryz.func4, Tryz.ntmps4
  go_upto_region 1 with fail
  rw [← HG1.out, ← HW1.out, ← HG2.out, ← HW2.out]
  go_wp2_with fail
  refine (awake12_any _ (HM.out.below V0.out.below)).mono ?_
  rintro e wa ⟨rfl, hb⟩
  have V3 := Lib.hid (V0.out.go hb)
  clear hb
  obtain ⟨y0, y1, y2⟩ := V3.out.ebx_at (i := 0) rfl
  go_wp2_with fail
  refine (few_any B 20 nb cb AB _ HB.out hnb (by decide) HBS.out (CB.out.below V3.out.below)).mono ?_
  rintro e w4 ⟨rfl, hw⟩
  subst hw
  cases hf : fewB B 20 with
  | false =>
    clear hf
    go_wp2_with fail
    refine (awake12_any _ (HM.out.below V3.out.below)).mono ?_
    rintro e wa ⟨rfl, hb⟩
    have VZ := Lib.hid (V3.out.go hb)
    clear hb
    go_wp2_with fail
    go_ret
    exact ⟨rfl, VZ.out.below⟩
  | true =>
  have hnb2 : nb ≤ 20 := by have := (few_yes hf).1; have := HB.out; omega
  clear hf
  go_wp2_with fail
  refine (few_any A 20 na ca AA _ HA.out hna (by decide) HAS.out (CA.out.below V3.out.below)).mono ?_
  rintro e w4 ⟨rfl, hw⟩
  subst hw
  cases hf : fewB A 20 with
  | false =>
    clear hf
    go_wp2_with fail
    refine (awake12_any _ (HM.out.below V3.out.below)).mono ?_
    rintro e wa ⟨rfl, hb⟩
    have VZ := Lib.hid (V3.out.go hb)
    clear hb
    go_wp2_with fail
    go_ret
    exact ⟨rfl, VZ.out.below⟩
  | true =>
  have hna2 : na ≤ 20 := by have := (few_yes hf).1; have := HA.out; omega
  clear hf
  obtain ⟨d0, d1, d2, d3⟩ := V3.out.dbox_at (i := 1) rfl
  go_wp2_with fail
  refine (HMADE.out _ V3.out.below).mono ?_
  rintro e w5 ⟨nm, AO, n, c, vs, L, pool, rfl, hv, hl, hvs, hpool, hp⟩
  have V5 := Lib.hid (V3.out.join hp)
  obtain ⟨hn1, hn2⟩ : 0 < n ∧ n ≤ 120 := by obtain ⟨_, a, b, _⟩ := vO_zero hv; omega
  have HL := Lib.hid hl
  have HVS := Lib.hid hvs
  clear hp hv hl hvs hpool y0 y1 y2 d0 d1 d2 d3
  obtain ⟨g7, hg7⟩ : ∃ z, z = w5.heap.size := ⟨_, rfl⟩
  obtain ⟨W6, hW6⟩ : ∃ z, z = w5.alloc (.cells #[.string (bs nm), .slice AO n c] 25) := ⟨_, rfl⟩
  have V6 := Lib.hid (show Hp w (ebx g2 AB nb cb AA na ca :: dbox g1 (q : Int) AD nd cd AM mm cm :: obox g7 nm AO n c :: sgv AO n c vs L :: pool) W6 by rw [hW6, hg7]; exact mst_first (V5.out.obox_new nm AO n c))
  have HW6 := Lib.hid hW6
  have HG7 := Lib.hid hg7
  clear hW6 hg7
  go_upto_region 4 with fail
  rw [← HG7.out, ← HW6.out]
  obtain ⟨b, hAO⟩ := V6.out.head (i := 3) (it := sgv AO n c vs L) rfl (A := AO) (c := c) rfl hn1
  subst hAO
  obtain ⟨kk, hkk⟩ : ∃ kk, kk = z % n := ⟨_, rfl⟩
  have hkn : kk < n := by rw [hkk]; exact Nat.mod_lt _ hn1
  have hmod : (z : Int).tmod (n : Int) = (kk : Int) := by rw [hkk]; rfl
  have hwz : IntKind.i64.wrap (z : Int) = (z : Int) := IntWalk.i64_in _ (by omega)
  have hn0 : ¬ n = 0 := by omega
  clear hkk
  obtain ⟨o0, o1, o2⟩ := V6.out.obox_at (i := 2) rfl
  go_upto_region 6 with fail
  obtain ⟨g9, hg9⟩ : ∃ z, z = W6.heap.size := ⟨_, rfl⟩
  obtain ⟨W7, hW7⟩ : ∃ z, z = W6.alloc (.cells #[.bool false, .bool false, .bool false, .bool false, .bool false] 43) := ⟨_, rfl⟩
  have V7 := Lib.hid (show Hp w (box 43 g9 (faC B A 0) :: ebx g2 AB nb cb AA na ca :: dbox g1 (q : Int) AD nd cd AM mm cm :: obox g7 nm (some ⟨b, 0, none⟩) n c :: ⟨34, 4, .slice (some ⟨b, 0, none⟩) n c, n, sgsC vs L⟩ :: pool) W7 by rw [hW7, hg9]; exact V6.out.box_new 43 (faC B A 0))
  have HW7 := Lib.hid hW7
  have HG9 := Lib.hid hg9
  rw [← HG9.out, ← HW7.out]
  clear hW7 hg9 hmod hwz hn0 o0 o1 o2 V6
  go_wp2_with fail
  go_loopw [34] (fun i wr => ∃ k : Nat, k ≤ 5 ∧ i = .int .i64 (k : Int) ∧ ∃ xs, Hp w (box 43 g9 (faC B A k) :: ebx g2 AB nb cb AA na ca :: dbox g1 (q : Int) AD nd cd AM mm cm :: obox g7 nm (some ⟨b, 0, none⟩) n c :: ⟨34, 4, .slice (some ⟨b, 0, none⟩) n c, n, xs⟩ :: pool) wr) (fun i _ => 5 - (intOf i).toNat)
  case atStart => exact ⟨0, Nat.zero_le _, rfl, _, V7.out⟩
  case round =>
    obtain ⟨k, hk, rfl, xs, hV⟩ := hrel
    obtain ⟨wi, rfl⟩ : ∃ wi : World, wi = wr := ⟨_, rfl⟩
    have V8 := Lib.hid hV
    clear hV V7
    by_cases hlt : k < 5
    · have hxl : xs.length = n * 4 := (V8.out.own 4 _ rfl).1
      have hj : kk * 4 + 3 < xs.length := by omega
      obtain ⟨u, hu⟩ : ∃ u, xs[kk * 4 + 3]? = some u := ⟨_, List.getElem?_eq_getElem hj⟩
      obtain ⟨c0, c1, c2⟩ := V8.out.cell (i := 4) (it := ⟨34, 4, .slice (some ⟨b, 0, none⟩) n c, n, xs⟩) rfl (g := b) (cap := c) rfl (j := kk * 4 + 3) hu
      obtain ⟨o0, o1, o2⟩ := V8.out.obox_at (i := 3) rfl
      obtain ⟨wy, hwy⟩ : ∃ z, z = wi.setCell ⟨b, kk * 4 + 3, none⟩ (.int .i64 (k : Int)) := ⟨_, rfl⟩
      have V9 := Lib.hid (show Hp w (box 43 g9 (faC B A k) :: ebx g2 AB nb cb AA na ca :: dbox g1 (q : Int) AD nd cd AM mm cm :: obox g7 nm (some ⟨b, 0, none⟩) n c :: ⟨34, 4, .slice (some ⟨b, 0, none⟩) n c, n, xs.set (kk * 4 + 3) (.int .i64 (k : Int))⟩ :: pool) wy by
        rw [hwy]; exact V8.out.store (i := 4) (it := ⟨34, 4, .slice (some ⟨b, 0, none⟩) n c, n, xs⟩) rfl (g := b) (cap := c) rfl (kk * 4 + 3) (.int .i64 (k : Int)))
      have hx2 : (xs.set (kk * 4 + 3) (Value.int .i64 (k : Int)))[kk * 4 + 3]? = some (.int .i64 (k : Int)) := List.getElem?_set_self hj
      have HCE := Lib.hid (V9.out.cell (i := 4) (it := ⟨34, 4, .slice (some ⟨b, 0, none⟩) n c, n, xs.set (kk * 4 + 3) (.int .i64 (k : Int))⟩) rfl (g := b) (cap := c) rfl hx2)
      have HWY := Lib.hid hwy
      have hk4 : kk * 4 ≤ 480 := by omega
      clear hu hxl hj hx2 hwy
      go_upto_region 10 with fail
      rw [← HWY.out]
      clear c0 c1 c2 o0 o1 o2
      obtain ⟨o0, o1, o2⟩ := V9.out.obox_at (i := 3) rfl
      obtain ⟨y0, y1, y2⟩ := V9.out.ebx_at (i := 1) rfl
      obtain ⟨k0, k1, k2⟩ := V9.out.box_at (i := 0) rfl (faC_at B A (k := k) hlt)
      go_wp2_with fail
      refine (fits_cell nm kk (k : Int) n c nb cb na ca b 0 AB AA _ B A hkn (by omega) HCE.out.2.2 (by rw [Nat.zero_add]; exact HCE.out.1) HB.out (by omega) HA.out (by omega) (CB.out.below V9.out.below) (CA.out.below V9.out.below)).mono ?_
      rintro e w10 ⟨rfl, hb⟩
      have V10 := Lib.hid (V9.out.go hb)
      clear hb o0 o1 o2 y0 y1 y2 k0 k1 k2
      obtain ⟨k0, k1, k2⟩ := V10.out.box_at (i := 0) rfl (faC_at B A (k := k) hlt)
      obtain ⟨fv, hfv⟩ : ∃ fv, fv = whB (k : Int) B A := ⟨_, rfl⟩
      have V11 := Lib.hid (show Hp w (box 43 g9 (faC B A (k + 1)) :: ebx g2 AB nb cb AA na ca :: dbox g1 (q : Int) AD nd cd AM mm cm :: obox g7 nm (some ⟨b, 0, none⟩) n c :: ⟨34, 4, .slice (some ⟨b, 0, none⟩) n c, n, xs.set (kk * 4 + 3) (.int .i64 (k : Int))⟩ :: pool) (w10.setCell ⟨g9, k, none⟩ (.bool fv)) by
        rw [← faC_set B A hlt, hfv]; exact Hp.box_set V10.out (i := 0) rfl k (.bool (whB (k : Int) B A)))
      rw [← hfv]
      clear hfv
      go_wp2_with fail
      go_roundw
      case rel => exact ⟨k + 1, by omega, by go_num, _, V11.out⟩
      case measure => simp [intOf]; omega
    · obtain rfl : k = 5 := by omega
      obtain ⟨f0, hf0⟩ : ∃ f, f = whB 0 B A := ⟨_, rfl⟩
      obtain ⟨f1, hf1⟩ : ∃ f, f = whB 1 B A := ⟨_, rfl⟩
      obtain ⟨f2, hf2⟩ : ∃ f, f = whB 2 B A := ⟨_, rfl⟩
      obtain ⟨f3, hf3⟩ : ∃ f, f = whB 3 B A := ⟨_, rfl⟩
      obtain ⟨f4, hf4⟩ : ∃ f, f = whB 4 B A := ⟨_, rfl⟩
      have V9 := Lib.hid (show Hp w (box 43 g9 [.bool f0, .bool f1, .bool f2, .bool f3, .bool f4] :: ebx g2 AB nb cb AA na ca :: dbox g1 (q : Int) AD nd cd AM mm cm :: obox g7 nm (some ⟨b, 0, none⟩) n c :: ⟨34, 4, .slice (some ⟨b, 0, none⟩) n c, n, xs⟩ :: pool) wi by
        rw [hf0, hf1, hf2, hf3, hf4]; exact V8.out)
      have hT : f0 = true ∧ (f2 = true → f1 = true) ∧ (f3 = true → f1 = true) ∧ f4 = !f1 ∧ ¬ (f2 = true ∧ f3 = true) := by
        rw [hf0, hf1, hf2, hf3, hf4]; exact wh_true B A
      have k0 := (V9.out.box_at (i := 0) (j := 0) rfl rfl).1
      have k1 := (V9.out.box_at (i := 0) (j := 1) rfl rfl).1
      have k2 := (V9.out.box_at (i := 0) (j := 2) rfl rfl).1
      have k3 := (V9.out.box_at (i := 0) (j := 3) rfl rfl).1
      have k4 := (V9.out.box_at (i := 0) (j := 4) rfl rfl).1
      have k5 := (V9.out.box_at (i := 0) (j := 4) rfl rfl).2.2
      clear hf0 hf1 hf2 hf3 hf4 V8
      obtain ⟨t0, t1, t2, t3, t4⟩ := hT
      subst t0; subst t3
      cases f1 <;> cases f2 <;> cases f3 <;> first | (exact absurd (t1 rfl) (by decide)) | (exact absurd (t2 rfl) (by decide)) | (exact absurd ⟨rfl, rfl⟩ t4) | skip
      all_goals
        clear t1 t2 t4
        go_wp2_with fail
        go_ret
        exact ⟨rfl, V9.out.below⟩
theorem lawwhere_any (kd : Int) (AD : Option Addr) (nd cd : Nat) (D : List Int) (AM : Option Addr) (mm cm : Nat) (M : List Int) (z : Int) (AB : Option Addr) (nb cb : Nat) (B : List Snd) (AA : Option Addr) (na ca : Nat) (A : List Snd) (w : World) (hq : 0 ≤ kd ∧ kd ≤ 255) (hD : D.length = nd ∧ nd ≤ 1000000000000000) (hDz : ∀ z ∈ D, 0 ≤ z ∧ z ≤ 255) (hDc : CellsIn w AD (bytesC D)) (hMl : M.length = mm ∧ mm ≤ 1000000000000000) (hMz : ∀ z ∈ M, 0 ≤ z ∧ z ≤ 255) (hMc : CellsIn w AM (bytesC M)) (hz0 : 0 ≤ z) (hz : z ≤ 255)
    (hB : B.length = nb) (hnb : nb ≤ 17592186044416) (hBs : ∀ x ∈ B, x.t.length ≤ 140737488355328) (hcB : CellsIn w AB (sndsC B)) (hA : A.length = na) (hna : na ≤ 17592186044416) (hAs : ∀ x ∈ A, x.t.length ≤ 140737488355328) (hcA : CellsIn w AA (sndsC A)) (hm : MaxAt w) :
    Calls Tryz.prog 4 #[.agg #[.int .u8 kd, .slice AD nd cd, .slice AM mm cm], .int .u8 z, .agg #[.slice AB nb cb, .slice AA na ca]] w fun e w' => e = .returned (.bool true) ∧ Below w.heap.size w w' := by
  obtain ⟨q, rfl⟩ := Int.eq_ofNat_of_zero_le hq.1
  obtain ⟨y, rfl⟩ := Int.eq_ofNat_of_zero_le hz0
  exact lawwhere_nat q AD nd cd D AM mm cm M y AB nb cb B AA na ca A w (by omega) hD.1 hDz hDc hMl.1 hMz hMc (by omega) hB hnb hBs hcB hA hna hAs hcA hm
end Go.Proofs.YtfgnekbkcmpdiaaGreatDoor
