/- What the statement on Find answers: true, whatever the input. -/
import Derived.Test.YtghjglcckpdbcaaGreatDoorOs
import Derived.Test.YtghjglcckpdbcaaGreatDoorOq
namespace Go.Proofs.YtghjglcckpdbcaaGreatDoor
open Go.RowKit
set_option linter.unusedVariables false
set_option linter.unusedSimpArgs false
set_option maxRecDepth 100000

theorem SgBd.of {nm : List UInt8} {L : List Sg} (h : fewO nm L = true) (hlim : ∀ x ∈ L, SgLim x) : SgBd L := fewO_bd h hlim
set_option maxHeartbeats 3000000 in
theorem lawfind_any (nm : List UInt8) (AO : Option Addr) (n c : Nat) (L : List Sg) (t : List UInt8) (w : World) (hnm : nm.length ≤ 140737488355328) (hl : L.length = n) (hnc : n ≤ c) (hn : n ≤ 17592186044416) (hlim : ∀ x ∈ L, SgLim x) (hO : SgnIn w AO L) (ht : t.length ≤ maxLen) (hm : MaxAt w) :
    Calls Tryz.prog 5 #[.agg #[.string (bs nm), .slice AO n c], .string (bs t)] w fun e w' => e = .returned (.bool true) ∧ Below w.heap.size w w' := by
  obtain ⟨g1, hg1⟩ : ∃ z, z = w.heap.size := ⟨_, rfl⟩
  obtain ⟨W1, hW1⟩ : ∃ z, z = w.alloc (.cells #[.string (bs nm), .slice AO n c] 24) := ⟨_, rfl⟩
  have V1 := Lib.hid (show Hp w [obox g1 nm AO n c] W1 by rw [hW1, hg1]; exact (Hp.start w).obox_new nm AO n c)
  have HW1 := Lib.hid hW1
  have HG1 := Lib.hid hg1
  have HO := Lib.hid hO
  have HL := Lib.hid hl
  have HLIM := Lib.hid hlim
  have HM := Lib.hid hm
  obtain ⟨y, hy⟩ : ∃ y, y = t.length := ⟨_, rfl⟩
  have hz : (bs t).size = y := by rw [bs_size]; exact hy.symm
  rw [← hy] at ht
  unfold maxLen at ht
  clear hW1 hg1 hO hl hlim hm hy
  go_enter Tryz.func5, Tryz.ntmps5
  go_upto_region 1 with fail
  rw [← HG1.out, ← HW1.out]
  go_wp2_with fail
  refine (awake12_any _ (HM.out.below V1.out.below)).mono ?_
  rintro e wa ⟨rfl, hb⟩
  have V2 := Lib.hid (V1.out.go hb)
  clear hb
  obtain ⟨z0, z1, z2⟩ := V2.out.obox_at (i := 0) rfl
  go_wp2_with fail
  refine (rfewO_any nm L AO n c _ hnm HL.out hn HLIM.out (HO.out.below V2.out.below)).mono ?_
  rintro e w3 ⟨rfl, hb⟩
  have V3 := Lib.hid (V2.out.go hb)
  clear hb z0 z1 z2
  cases hf : fewO nm L with
  | false =>
    clear hf
    go_wp2_with fail
    refine (awake12_any _ (HM.out.below V3.out.below)).mono ?_
    rintro e wa ⟨rfl, hb⟩
    have VZ := Lib.hid (V3.out.go hb)
    clear hb
    go_wp2_with fail
    go_ret
    exact ⟨rfl, VZ.out.below⟩
  | true =>
  have HF := Lib.hid hf
  have hn130 : n ≤ 130 := by have := (fewO_yes hf).2.1; have := HL.out; omega
  clear hf
  by_cases h100 : 100 < y
  · skip
    go_wp2_with fail
    refine (awake12_any _ (HM.out.below V3.out.below)).mono ?_
    rintro e wa ⟨rfl, hb⟩
    have VZ := Lib.hid (V3.out.go hb)
    clear hb
    go_wp2_with fail
    go_ret
    exact ⟨rfl, VZ.out.below⟩
  obtain ⟨z0, z1, z2⟩ := V3.out.obox_at (i := 0) rfl
  go_upto_region 3 with fail
  have hKp : Keep [(⟨g1, 0, none⟩, .string (bs nm)), (⟨g1, 1, none⟩, .slice AO n c)] w3 := List.forall_mem_cons.2 ⟨⟨z0, z2⟩, List.forall_mem_cons.2 ⟨⟨z1, z2⟩, fun _ h => by simp at h⟩⟩
  clear z0 z1 z2
  refine wp_region_held_drew (S := Keep _) (by kernel_rfl) hKp.drew (fun hHeld => ?_)
  have VD := Lib.hid (V3.out.go (bdrew _))
  refine tk 0 ?_ rfl ?_ ?_; rotate_left
  · intro wl hSw
    have hSw : Keep _ wl := hSw
    have k0 := (hSw _ (.head _)).1
    have k1 := (hSw _ (.tail _ (.head _))).1
    dsimp only at k0 k1
    clear hSw
    go_simp
    try (with_reducible rfl)
  try simp only [Act.put, sA, sZ, sS]
  refine tk 1 ?_ rfl ?_ ?_; rotate_left; focus (intro w hSw; clear hSw; go_simp; try (with_reducible rfl))
  try simp only [Act.put, sA, sZ, sS]
  refine tk 3 ?_ rfl ?_ ?_; rotate_left
  · intro wl hSw
    have hSw : Keep _ wl := hSw
    have k0 := (hSw _ (.head _)).1
    have k1 := (hSw _ (.tail _ (.head _))).1
    dsimp only at k0 k1
    clear hSw
    go_simp
    try (with_reducible rfl)
  try simp only [Act.put, sA, sZ, sS]
  refine tk 4 ?_ rfl ?_ ?_; rotate_left; focus (intro w hSw; clear hSw; go_simp; try (with_reducible rfl))
  try simp only [Act.put, sA, sZ, sS]
  refine wpAnyH_ready (rs := [2]) (by kernel_rfl) (by simp) ?_
  refine AllReadyH.cons (List.getElem?_toArray.trans rfl) (fun K hK => ?_) AllReadyH.nil
  go_simp
  refine (find_any nm L t AO n c _ HL.out (by omega) (HO.out.below (VD.out.below))).mono ?_
  rintro e w5 ⟨C5, m5, d5, rfl, hm5, hp5⟩
  have V5 := Lib.hid (VD.out.go hp5.below)
  have X5 := Lib.hid (hp5.cells (i := 0) (A := C5) (c := d5) rfl rfl)
  have HM5 := Lib.hid hm5
  have hb5 := hp5.below
  clear hm5 hp5
  try go_wp2_with fail
  refine hK.out _ _ (hHeld.go hb5) (fun hHeld => ?_)
  clear hK K
  try simp only [Act.put, sA, sZ, sS]
  refine wpAnyH_ready (rs := [5]) (by kernel_rfl) (by simp) ?_
  refine AllReadyH.cons (List.getElem?_toArray.trans rfl) (fun K hK => ?_) AllReadyH.nil
  go_simp
  refine (rfind_any nm L t AO n c _ HL.out (by omega) (HO.out.below (V5.out.below))).mono ?_
  rintro e w6 ⟨C6, m6, d6, rfl, hm6, hp6⟩
  have V6 := Lib.hid (V5.out.go hp6.below)
  have X6 := Lib.hid (hp6.cells (i := 0) (A := C6) (c := d6) rfl rfl)
  have Y6 := Lib.hid (X5.out.below hp6.below)
  have HM6 := Lib.hid hm6
  have hb6 := hp6.below
  clear hm6 hp6
  try go_wp2_with fail
  refine hK.out _ _ (hHeld.go hb6) (fun hHeld => ?_)
  clear hK K
  try simp only [Act.put, sA, sZ, sS]
  refine wpAnyH_ready (rs := [6]) (by kernel_rfl) (by simp) ?_
  refine AllReadyH.cons (List.getElem?_toArray.trans rfl) (fun K hK => ?_) AllReadyH.nil
  go_simp
  refine (equal_nums C5 C6 m5 d5 m6 d6 (fndI t L) (fndI t L) _ HM5.out.symm HM6.out.symm (by have := HM5.out; have := fndI_le t L; have := HL.out; omega) (by have := HM6.out; have := fndI_le t L; have := HL.out; omega) Y6.out X6.out).mono ?_
  rintro e w7 ⟨rfl, hb7⟩
  rw [show decide (fndI t L = fndI t L) = true from decide_eq_true rfl]
  have V7 := Lib.hid (V6.out.go hb7)
  try go_wp2_with fail
  refine hK.out _ _ (hHeld.go hb7) (fun hHeld => ?_)
  clear hK K
  try simp only [Act.put, sA, sZ, sS]
  refine tk 7 ?_ rfl ?_ ?_; rotate_left; focus (intro w hSw; clear hSw; go_simp; try (with_reducible rfl))
  try simp only [Act.put, sA, sZ, sS]
  refine tk 8 ?_ rfl ?_ ?_; rotate_left
  · intro wl hSw
    have hSw : Keep _ wl := hSw
    have k0 := (hSw _ (.head _)).1
    have k1 := (hSw _ (.tail _ (.head _))).1
    dsimp only at k0 k1
    clear hSw
    go_simp
    try (with_reducible rfl)
  try simp only [Act.put, sA, sZ, sS]
  refine tk 10 ?_ rfl ?_ ?_; rotate_left
  · intro wl hSw
    have hSw : Keep _ wl := hSw
    have k0 := (hSw _ (.head _)).1
    have k1 := (hSw _ (.tail _ (.head _))).1
    dsimp only at k0 k1
    clear hSw
    go_simp
    try (with_reducible rfl)
  try simp only [Act.put, sA, sZ, sS]
  refine wpAnyH_ready (rs := [9]) (by kernel_rfl) (by simp) ?_
  refine AllReadyH.cons (List.getElem?_toArray.trans rfl) (fun K hK => ?_) AllReadyH.nil
  go_simp
  refine (alph_any nm L AO n c _ HL.out (by omega) (fun x hx => (HLIM.out x hx).1) (HO.out.below (V7.out.below))).mono ?_
  rintro e w8 ⟨rfl, hb8⟩
  have V8 := Lib.hid (V7.out.go hb8)
  try go_wp2_with fail
  refine hK.out _ _ (hHeld.go hb8) (fun hHeld => ?_)
  clear hK K
  try simp only [Act.put, sA, sZ, sS]
  refine wpAnyH_ready (rs := [11]) (by kernel_rfl) (by simp) ?_
  refine AllReadyH.cons (List.getElem?_toArray.trans rfl) (fun K hK => ?_) AllReadyH.nil
  go_simp
  refine (ralph_any nm L AO n c _ HL.out (by omega) (fun x hx => (HLIM.out x hx).1) (HO.out.below (V8.out.below))).mono ?_
  rintro e w9 ⟨rfl, hb9⟩
  have V9 := Lib.hid (V8.out.go hb9)
  try go_wp2_with fail
  refine hK.out _ _ (hHeld.go hb9) (fun hHeld => ?_)
  clear hK K
  try simp only [Act.put, sA, sZ, sS]
  refine tk 12 ?_ rfl ?_ ?_; rotate_left; focus (intro w hSw; clear hSw; go_simp; try (with_reducible rfl))
  try simp only [Act.put, sA, sZ, sS]
  refine tk 13 ?_ rfl ?_ ?_; rotate_left; focus (intro w hSw; clear hSw; go_simp; try (with_reducible rfl))
  try simp only [Act.put, sA, sZ, sS]
  refine tk 14 ?_ rfl ?_ ?_; rotate_left; focus (intro w hSw; clear hSw; go_simp; try (with_reducible rfl))
  try simp only [Act.put, sA, sZ, sS]
  refine wpAnyH_done (by kernel_rfl) ?_ _
  go_wp2_with fail
  go_ret
  exact ⟨rfl, V9.out.below⟩
end Go.Proofs.YtghjglcckpdbcaaGreatDoor
