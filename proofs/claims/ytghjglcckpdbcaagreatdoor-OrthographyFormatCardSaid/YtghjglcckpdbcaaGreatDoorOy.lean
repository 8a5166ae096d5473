/- What the statement on Valid answers: true, whatever the input. -/
import Derived.Test.YtghjglcckpdbcaaGreatDoorOs
import Derived.Test.YtghjglcckpdbcaaGreatDoorOq
import Derived.Test.YtghjglcckpdbcaaGreatDoorOx
namespace Go.Proofs.YtghjglcckpdbcaaGreatDoor
open Go.RowKit
set_option linter.unusedVariables false
set_option linter.unusedSimpArgs false
set_option maxRecDepth 100000

set_option maxHeartbeats 2000000 in
theorem rovalid_any (nm : List UInt8) (L : List Sg) (A : Option Addr) (n c : Nat) (w : World) (hnm : nm.length ≤ 140737488355328) (hl : L.length = n) (hn : n ≤ 17592186044416) (hs : SgBd L) (hA : SgnIn w A L) :
    Calls Tryz.prog 13 #[.agg #[.string (bs nm), .slice A n c]] w fun e w' => e = .returned (.int .i64 (vO nm L).2) ∧ Below w.heap.size w w' := by
  obtain ⟨g1, hg1⟩ : ∃ z, z = w.heap.size := ⟨_, rfl⟩
  obtain ⟨W1, hW1⟩ : ∃ z, z = w.alloc (.cells #[.string (bs nm), .slice A n c] 24) := ⟨_, rfl⟩
  have V1 := Lib.hid (show Hp w [obox g1 nm A n c] W1 by rw [hW1, hg1]; exact (Hp.start w).obox_new nm A n c)
  have HW1 := Lib.hid hW1
  have HG1 := Lib.hid hg1
  have HF := Lib.hid (rfirst_any nm L A n c W1 hnm hl hn hs (hA.below V1.out.below))
  obtain ⟨x0, x1, x2⟩ := V1.out.obox_at (i := 0) rfl
  clear hW1 hg1 hA hs hl hnm
  go_enter Tryz.func13, Tryz.ntmps13
  go_upto_region 1 with fail
  rw [← HG1.out, ← HW1.out]
  go_wp2_with fail
  refine HF.out.mono ?_
  rintro e w2 ⟨rfl, hb⟩
  have B2 := Lib.hid (btwo V1.out.below hb)
  clear hb
  go_wp2_with fail
  go_ret
  exact ⟨rfl, B2.out⟩
set_option maxHeartbeats 3000000 in
theorem lawvalid_any (nm : List UInt8) (AO : Option Addr) (n c : Nat) (L : List Sg) (w : World) (hnm : nm.length ≤ 140737488355328) (hl : L.length = n) (hnc : n ≤ c) (hn : n ≤ 17592186044416) (hlim : ∀ x ∈ L, SgLim x) (hO : SgnIn w AO L) (hm : MaxAt w) :
    Calls Tryz.prog 3 #[.agg #[.string (bs nm), .slice AO n c]] w fun e w' => e = .returned (.bool true) ∧ Below w.heap.size w w' := by
  obtain ⟨g1, hg1⟩ : ∃ z, z = w.heap.size := ⟨_, rfl⟩
  obtain ⟨W1, hW1⟩ : ∃ z, z = w.alloc (.cells #[.string (bs nm), .slice AO n c] 24) := ⟨_, rfl⟩
  have V1 := Lib.hid (show Hp w [obox g1 nm AO n c] W1 by rw [hW1, hg1]; exact (Hp.start w).obox_new nm AO n c)
  have HW1 := Lib.hid hW1
  have HG1 := Lib.hid hg1
  have HO := Lib.hid hO
  have HL := Lib.hid hl
  have HLIM := Lib.hid hlim
  have HM := Lib.hid hm
  clear hW1 hg1 hO hl hlim hm
  go_enter Tryz.func3, Tryz.ntmps3
  go_upto_region 1 with fail
  rw [← HG1.out, ← HW1.out]
  go_wp2_with fail
  refine (awake12_any _ (HM.out.below V1.out.below)).mono ?_
  rintro e wa ⟨rfl, hb⟩
  have V2 := Lib.hid (V1.out.go hb)
  clear hb
  obtain ⟨z0, z1, z2⟩ := V2.out.obox_at (i := 0) rfl
  go_wp2_with fail
  refine (rfewO_any nm L AO n c _ hnm HL.out hn HLIM.out (HO.out.below V2.out.below)).mono ?_
  rintro e w3 ⟨rfl, hb⟩
  have V3 := Lib.hid (V2.out.go hb)
  clear hb z0 z1 z2
  cases hf : fewO nm L with
  | false =>
    clear hf
    go_wp2_with fail
    refine (awake12_any _ (HM.out.below V3.out.below)).mono ?_
    rintro e wa ⟨rfl, hb⟩
    have VZ := Lib.hid (V3.out.go hb)
    clear hb
    go_wp2_with fail
    go_ret
    exact ⟨rfl, VZ.out.below⟩
  | true =>
  have HB := Lib.hid (fewO_bd hf HLIM.out)
  clear hf
  obtain ⟨z0, z1, z2⟩ := V3.out.obox_at (i := 0) rfl
  go_upto_region 3 with fail
  have hKp : Keep [(⟨g1, 0, none⟩, .string (bs nm)), (⟨g1, 1, none⟩, .slice AO n c)] w3 := List.forall_mem_cons.2 ⟨⟨z0, z2⟩, List.forall_mem_cons.2 ⟨⟨z1, z2⟩, fun _ h => by simp at h⟩⟩
  clear z0 z1 z2
  refine wp_region_held_drew (S := Keep _) (by kernel_rfl) hKp.drew (fun hHeld => ?_)
  have VD := Lib.hid (V3.out.go (bdrew _))
  refine tk 0 ?_ rfl ?_ ?_; rotate_left
  · intro wl hSw
    have hSw : Keep _ wl := hSw
    have k0 := (hSw _ (.head _)).1
    have k1 := (hSw _ (.tail _ (.head _))).1
    dsimp only at k0 k1
    clear hSw
    go_simp
    try (with_reducible rfl)
  try simp only [Act.put, sA, sZ, sS]
  refine tk 2 ?_ rfl ?_ ?_; rotate_left
  · intro wl hSw
    have hSw : Keep _ wl := hSw
    have k0 := (hSw _ (.head _)).1
    have k1 := (hSw _ (.tail _ (.head _))).1
    dsimp only at k0 k1
    clear hSw
    go_simp
    try (with_reducible rfl)
  try simp only [Act.put, sA, sZ, sS]
  refine wpAnyH_ready (rs := [1]) (by kernel_rfl) (by simp) ?_
  refine AllReadyH.cons (List.getElem?_toArray.trans rfl) (fun K hK => ?_) AllReadyH.nil
  go_simp
  refine (ovalid_any nm L AO n c _ hnm HL.out hn hnc HB.out (HO.out.below VD.out.below)).mono ?_
  rintro e w8 ⟨rfl, hb8⟩
  have V8 := Lib.hid (VD.out.go hb8)
  try go_wp2_with fail
  refine hK.out _ _ (hHeld.go hb8) (fun hHeld => ?_)
  clear hK K
  try simp only [Act.put, sA, sZ, sS]
  refine wpAnyH_ready (rs := [3]) (by kernel_rfl) (by simp) ?_
  refine AllReadyH.cons (List.getElem?_toArray.trans rfl) (fun K hK => ?_) AllReadyH.nil
  go_simp
  refine (rovalid_any nm L AO n c _ hnm HL.out hn HB.out (HO.out.below V8.out.below)).mono ?_
  rintro e w9 ⟨rfl, hb9⟩
  have V9 := Lib.hid (V8.out.go hb9)
  try go_wp2_with fail
  refine hK.out _ _ (hHeld.go hb9) (fun hHeld => ?_)
  clear hK K
  try simp only [Act.put, sA, sZ, sS]
  refine tk 4 ?_ rfl ?_ ?_; rotate_left; focus (intro w hSw; clear hSw; go_simp; try (with_reducible rfl))
  try simp only [Act.put, sA, sZ, sS]
  refine tk 5 ?_ rfl ?_ ?_; rotate_left; focus (intro w hSw; clear hSw; go_simp; try (with_reducible rfl))
  try simp only [Act.put, sA, sZ, sS]
  refine wpAnyH_done (by kernel_rfl) ?_ _
  go_wp2_with fail
  go_ret
  exact ⟨rfl, V9.out.below⟩
end Go.Proofs.YtghjglcckpdbcaaGreatDoor
