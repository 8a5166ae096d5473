/- What the statement on Fits answers: true, whatever the input. -/
import Derived.Test.YtghjglcckpdbcaaGreatDoorOs
import Derived.Test.YtghjglcckpdbcaaGreatDoorOq
namespace Go.Proofs.YtghjglcckpdbcaaGreatDoor
open Go.RowKit
set_option linter.unusedVariables false
set_option linter.unusedSimpArgs false
set_option maxRecDepth 100000

def ebox (g : Nat) (AB : Option Addr) (nb cb : Nat) (AA : Option Addr) (na ca : Nat) : Itm := box 31 g [.slice AB nb cb, .slice AA na ca]
theorem Hp.ebox_at {W w : World} {l : List Itm} {i g nb cb na ca : Nat} {AB AA : Option Addr} (h : Hp W l w) (hi : l[i]? = some (ebox g AB nb cb AA na ca)) :
    w.cell? ⟨g, 0, none⟩ = some (.slice AB nb cb) ∧ w.cell? ⟨g, 1, none⟩ = some (.slice AA na ca) ∧ g < w.heap.size :=
  ⟨(h.box_at hi (j := 0) rfl).1, (h.box_at hi (j := 1) rfl).1, (h.box_at hi (j := 0) rfl).2.2⟩
set_option maxHeartbeats 16000000 in
theorem lawfits_any (nm : List UInt8) (AO : Option Addr) (n c : Nat) (L : List Sg) (i : Int) (AB : Option Addr) (nb cb : Nat) (B : List Snd) (AA : Option Addr) (na ca : Nat) (A : List Snd) (w : World) (hnm : nm.length ≤ 140737488355328) (hl : L.length = n) (hnc : n ≤ c) (hn : n ≤ 17592186044416) (hlim : ∀ x ∈ L, SgLim x) (hO : SgnIn w AO L)
    (hB : B.length = nb) (hnb : nb ≤ 17592186044416) (hBs : ∀ x ∈ B, x.t.length ≤ 140737488355328) (hcB : CellsIn w AB (sndsC B)) (hA : A.length = na) (hna : na ≤ 17592186044416) (hAs : ∀ x ∈ A, x.t.length ≤ 140737488355328) (hcA : CellsIn w AA (sndsC A)) (hm : MaxAt w) :
    Calls Tryz.prog 4 #[.agg #[.string (bs nm), .slice AO n c], .int .i64 i, .agg #[.slice AB nb cb, .slice AA na ca]] w fun e w' => e = .returned (.bool true) ∧ Below w.heap.size w w' := by
  obtain ⟨g1, hg1⟩ : ∃ z, z = w.heap.size := ⟨_, rfl⟩
  obtain ⟨W1, hW1⟩ : ∃ z, z = w.alloc (.cells #[.string (bs nm), .slice AO n c] 24) := ⟨_, rfl⟩
  have V1 := Lib.hid (show Hp w [obox g1 nm AO n c] W1 by rw [hW1, hg1]; exact (Hp.start w).obox_new nm AO n c)
  have HW1 := Lib.hid hW1
  have HG1 := Lib.hid hg1
  have HO := Lib.hid hO
  have HL := Lib.hid hl
  have HLIM := Lib.hid hlim
  have HM := Lib.hid hm
  obtain ⟨g2, hg2⟩ : ∃ z, z = W1.heap.size := ⟨_, rfl⟩
  obtain ⟨W2, hW2⟩ : ∃ z, z = W1.alloc (.cells #[.slice AB nb cb, .slice AA na ca] 31) := ⟨_, rfl⟩
  have V0 := Lib.hid (show Hp w [ebox g2 AB nb cb AA na ca, obox g1 nm AO n c] W2 by rw [hW2, hg2]; exact V1.out.box_new _ _)
  have HG2 := Lib.hid (show g2 = g1 + 1 by rw [hg2, hW1, hg1]; simp)
  have HW2 := Lib.hid hW2
  have HB := Lib.hid hB
  have HBS := Lib.hid hBs
  have CB := Lib.hid hcB
  have HA := Lib.hid hA
  have HAS := Lib.hid hAs
  have CA := Lib.hid hcA
  clear hW1 hg1 hO hl hlim hm hB hBs hcB hA hAs hcA hW2 hg2 V1
  go_enter Tryz.func4, Tryz.ntmps4
  go_upto_region 1 with fail
  rw [← HG1.out, ← HW1.out, ← HG2.out, ← HW2.out]
  go_wp2_with fail
  refine (awake12_any _ (HM.out.below V0.out.below)).mono ?_
  rintro e wa ⟨rfl, hb⟩
  have V2 := Lib.hid (V0.out.go hb)
  clear hb
  obtain ⟨z0, z1, z2⟩ := V2.out.obox_at (i := 1) rfl
  go_wp2_with fail
  refine (rfewO_any nm L AO n c _ hnm HL.out hn HLIM.out (HO.out.below V2.out.below)).mono ?_
  rintro e w3 ⟨rfl, hb⟩
  have V3 := Lib.hid (V2.out.go hb)
  clear hb z0 z1 z2
  cases hf : fewO nm L with
  | false =>
    clear hf
    go_wp2_with fail
    refine (awake12_any _ (HM.out.below V3.out.below)).mono ?_
    rintro e wa ⟨rfl, hb⟩
    have VZ := Lib.hid (V3.out.go hb)
    clear hb
    go_wp2_with fail
    go_ret
    exact ⟨rfl, VZ.out.below⟩
  | true =>
  clear hf
  obtain ⟨y0, y1, y2⟩ := V3.out.ebox_at (i := 0) rfl
  go_wp2_with fail
  refine (few_any B 20 nb cb AB _ HB.out hnb (by decide) HBS.out (CB.out.below V3.out.below)).mono ?_
  rintro e w4 ⟨rfl, hw⟩
  subst hw
  cases hf : fewB B 20 with
  | false =>
    clear hf
    go_wp2_with fail
    refine (awake12_any _ (HM.out.below V3.out.below)).mono ?_
    rintro e wa ⟨rfl, hb⟩
    have VZ := Lib.hid (V3.out.go hb)
    clear hb
    go_wp2_with fail
    go_ret
    exact ⟨rfl, VZ.out.below⟩
  | true =>
  have hnb2 : nb ≤ 20 := by have := (few_yes hf).1; have := HB.out; omega
  clear hf
  go_wp2_with fail
  refine (few_any A 20 na ca AA _ HA.out hna (by decide) HAS.out (CA.out.below V3.out.below)).mono ?_
  rintro e w4 ⟨rfl, hw⟩
  subst hw
  cases hf : fewB A 20 with
  | false =>
    clear hf
    go_wp2_with fail
    refine (awake12_any _ (HM.out.below V3.out.below)).mono ?_
    rintro e wa ⟨rfl, hb⟩
    have VZ := Lib.hid (V3.out.go hb)
    clear hb
    go_wp2_with fail
    go_ret
    exact ⟨rfl, VZ.out.below⟩
  | true =>
  have hna2 : na ≤ 20 := by have := (few_yes hf).1; have := HA.out; omega
  clear hf
  obtain ⟨z0, z1, z2⟩ := V3.out.obox_at (i := 1) rfl
  go_upto_region 3 with fail
  have hKp : Keep [(⟨g1, 0, none⟩, .string (bs nm)), (⟨g1, 1, none⟩, .slice AO n c), (⟨g2, 0, none⟩, .slice AB nb cb), (⟨g2, 1, none⟩, .slice AA na ca)] w3 := List.forall_mem_cons.2 ⟨⟨z0, z2⟩, List.forall_mem_cons.2 ⟨⟨z1, z2⟩, List.forall_mem_cons.2 ⟨⟨y0, y2⟩, List.forall_mem_cons.2 ⟨⟨y1, y2⟩, fun _ h => by simp at h⟩⟩⟩⟩
  clear z0 z1 z2 y0 y1 y2
  refine wp_region_held_drew (S := Keep _) (by kernel_rfl) hKp.drew (fun hHeld => ?_)
  have VD := Lib.hid (V3.out.go (bdrew _))
  refine tk 0 ?_ rfl ?_ ?_; rotate_left
  · intro wl hSw
    have hSw : Keep _ wl := hSw
    have k0 := (hSw _ (.head _)).1
    have k1 := (hSw _ (.tail _ (.head _))).1
    dsimp only at k0 k1
    clear hSw
    go_simp
    try (with_reducible rfl)
  try simp only [Act.put, sA, sZ, sS]
  refine tk 1 ?_ rfl ?_ ?_; rotate_left; focus (intro w hSw; clear hSw; go_simp; try (with_reducible rfl))
  try simp only [Act.put, sA, sZ, sS]
  refine tk 2 ?_ rfl ?_ ?_; rotate_left; focus (intro w hSw; clear hSw; go_simp; try (with_reducible rfl))
  try simp only [Act.put, sA, sZ, sS]
  refine tk 3 ?_ rfl ?_ ?_; rotate_left
  · intro wl hSw
    have hSw : Keep _ wl := hSw
    have k0 := (hSw _ (.tail _ (.tail _ (.head _)))).1
    dsimp only at k0
    clear hSw
    go_simp
    try (with_reducible rfl)
  try simp only [Act.put, sA, sZ, sS]
  refine tk 4 ?_ rfl ?_ ?_; rotate_left; focus (intro w hSw; clear hSw; go_simp; try (with_reducible rfl))
  try simp only [Act.put, sA, sZ, sS]
  refine tk 5 ?_ rfl ?_ ?_; rotate_left
  · intro wl hSw
    have hSw : Keep _ wl := hSw
    have k0 := (hSw _ (.tail _ (.tail _ (.tail _ (.head _))))).1
    dsimp only at k0
    clear hSw
    go_simp
    try (with_reducible rfl)
  try simp only [Act.put, sA, sZ, sS]
  refine tk 7 ?_ rfl ?_ ?_; rotate_left
  · intro wl hSw
    have hSw : Keep _ wl := hSw
    have k0 := (hSw _ (.head _)).1
    have k1 := (hSw _ (.tail _ (.head _))).1
    dsimp only at k0 k1
    clear hSw
    go_simp
    try (with_reducible rfl)
  try simp only [Act.put, sA, sZ, sS]
  refine tk 8 ?_ rfl ?_ ?_; rotate_left; focus (intro w hSw; clear hSw; go_simp; try (with_reducible rfl))
  try simp only [Act.put, sA, sZ, sS]
  refine tk 9 ?_ rfl ?_ ?_; rotate_left; focus (intro w hSw; clear hSw; go_simp; try (with_reducible rfl))
  try simp only [Act.put, sA, sZ, sS]
  refine tk 10 ?_ rfl ?_ ?_; rotate_left
  · intro wl hSw
    have hSw : Keep _ wl := hSw
    have k0 := (hSw _ (.tail _ (.tail _ (.head _)))).1
    dsimp only at k0
    clear hSw
    go_simp
    try (with_reducible rfl)
  try simp only [Act.put, sA, sZ, sS]
  refine tk 11 ?_ rfl ?_ ?_; rotate_left; focus (intro w hSw; clear hSw; go_simp; try (with_reducible rfl))
  try simp only [Act.put, sA, sZ, sS]
  refine tk 12 ?_ rfl ?_ ?_; rotate_left
  · intro wl hSw
    have hSw : Keep _ wl := hSw
    have k0 := (hSw _ (.tail _ (.tail _ (.tail _ (.head _))))).1
    dsimp only at k0
    clear hSw
    go_simp
    try (with_reducible rfl)
  try simp only [Act.put, sA, sZ, sS]
  refine wpAnyH_ready (rs := [6]) (by kernel_rfl) (by simp) ?_
  refine AllReadyH.cons (List.getElem?_toArray.trans rfl) (fun K hK => ?_) AllReadyH.nil
  go_simp
  refine (fits_any nm L i n c nb cb na ca AO AB AA _ B A HL.out hn (HO.out.below VD.out.below) HB.out (by omega) HA.out (by omega) (CB.out.below VD.out.below) (CA.out.below VD.out.below)).mono ?_
  rintro e w8 ⟨rfl, hb8⟩
  have V8 := Lib.hid (VD.out.go hb8)
  try go_wp2_with fail
  refine hK.out _ _ (hHeld.go hb8) (fun hHeld => ?_)
  clear hK K
  try simp only [Act.put, sA, sZ, sS]
  refine wpAnyH_ready (rs := [13]) (by kernel_rfl) (by simp) ?_
  refine AllReadyH.cons (List.getElem?_toArray.trans rfl) (fun K hK => ?_) AllReadyH.nil
  go_simp
  refine (rfits_any nm L i n c nb cb na ca AO AB AA _ B A HL.out hn (HO.out.below V8.out.below) HB.out (by omega) HA.out (by omega) (CB.out.below V8.out.below) (CA.out.below V8.out.below)).mono ?_
  rintro e w9 ⟨rfl, hb9⟩
  have V9 := Lib.hid (V8.out.go hb9)
  try go_wp2_with fail
  refine hK.out _ _ (hHeld.go hb9) (fun hHeld => ?_)
  clear hK K
  try simp only [Act.put, sA, sZ, sS]
  refine tk 14 ?_ rfl ?_ ?_; rotate_left; focus (intro w hSw; clear hSw; go_simp; try (with_reducible rfl))
  try simp only [Act.put, sA, sZ, sS]
  refine tk 15 ?_ rfl ?_ ?_; rotate_left; focus (intro w hSw; clear hSw; go_simp; try (with_reducible rfl))
  try simp only [Act.put, sA, sZ, sS]
  refine wpAnyH_done (by kernel_rfl) ?_ _
  go_wp2_with fail
  go_ret
  exact ⟨rfl, V9.out.below⟩
end Go.Proofs.YtghjglcckpdbcaaGreatDoor
