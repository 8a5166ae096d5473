/- Several texts in one: Oy, Jc. -/
import Derived.Test.YtjamfcihjendiaaGreatRaaq
import Derived.Test.YtjamfcihjendiaaGreatRaak
import Derived.Test.YtjamfcihjendiaaGreatRaan
import Derived.Test.YtjamfcihjendiaaGreatRaar
import Derived.Test.YtjamfcihjendiaaGreatRaao
import Derived.Test.YtjamfcihjendiaaGreatRaaf
import Derived.Test.YtjamfcihjendiaaGreatRaag
namespace Go.Proofs.YtjamfcihjendiaaGreat
open Go.RowKit
set_option linter.unusedVariables false
set_option linter.unusedSimpArgs false
set_option maxRecDepth 100000

set_option maxHeartbeats 2000000 in
theorem rovalid_any (nm : List UInt8) (L : List Sg) (A : Option Addr) (n c : Nat) (w : World) (hnm : nm.length ≤ 140737488355328) (hl : L.length = n) (hn : n ≤ 17592186044416) (hs : SgBd L) (hA : SgnIn w A L) :
    Calls Tryz.prog 43 #[.agg #[.string (bs nm), .slice A n c]] w fun e w' => e = .returned (.int .i64 (vO nm L).2) ∧ Below w.heap.size w w' := by
  obtain ⟨g1, hg1⟩ : ∃ z, z = w.heap.size := ⟨_, rfl⟩
  obtain ⟨W1, hW1⟩ : ∃ z, z = w.alloc (.cells #[.string (bs nm), .slice A n c] 24) := ⟨_, rfl⟩
  have V1 := Lib.hid (show Hp w [obox g1 nm A n c] W1 by rw [hW1, hg1]; exact (Hp.start w).obox_new nm A n c)
  have HW1 := Lib.hid hW1
  have HG1 := Lib.hid hg1
  have HF := Lib.hid (rfirst_any nm L A n c W1 hnm hl hn hs (hA.below V1.out.below))
  obtain ⟨x0, x1, x2⟩ := V1.out.obox_at (i := 0) rfl
  clear hW1 hg1 hA hs hl hnm
  go_enter Tryz.func43, Tryz.ntmps43
  go_upto_region 1 with fail
  rw [← HG1.out, ← HW1.out]
  go_wp2_with fail
  refine HF.out.mono ?_
  rintro e w2 ⟨rfl, hb⟩
  have B2 := Lib.hid (btwo V1.out.below hb)
  clear hb
  go_wp2_with fail
  go_ret
  exact ⟨rfl, B2.out⟩
end Go.Proofs.YtjamfcihjendiaaGreat

namespace Go.Proofs.YtjamfcihjendiaaGreat
open Go.RowKit
set_option linter.unusedVariables false
set_option linter.unusedSimpArgs false
set_option maxRecDepth 100000

theorem CellsIn.idx {w : World} {D : Option Addr} {d : List Nat} (h : CellsIn w D (ints (dI d))) {k i : Nat} (hk : d[k]? = some i) : ∃ b off, D = some ⟨b, off, none⟩ ∧ b < w.heap.size ∧ w.cell? ⟨b, off + k, none⟩ = some (.int .i64 (i : Int)) := by
  have hkl := (List.getElem?_eq_some_iff.1 hk).1
  obtain ⟨b, off, e, hlt, hc⟩ := h (by rw [ints_len, dI_len]; omega)
  exact ⟨b, off, e, hlt, hc k _ (by unfold ints; rw [List.getElem?_map, dI_at hk]; rfl)⟩
theorem cD_acc {nm : List UInt8} {L : List Sg} (h : (vO nm L).2 = 0) {d : List Nat} (hd : ∀ i ∈ d, i < L.length) (k : Nat) : 0 ≤ cD L (d.take k) ∧ cD L (d.take k) ≤ d.length * 99 := by
  have := cD_bd h (d := d.take k) (fun i hi => hd i (List.mem_of_mem_take hi))
  have h2 : (d.take k).length ≤ d.length := by rw [List.length_take]; omega
  omega
set_option maxHeartbeats 2000000 in
theorem rcost13_any (nm : List UInt8) (L : List Sg) (A : Option Addr) (n c : Nat) (d : List Nat) (D : Option Addr) (m e : Nat) (w : World) (hv : (vO nm L).2 = 0) (hl : L.length = n) (hA : SgnIn w A L) (hd : ∀ i ∈ d, i < n) (hm : d.length = m) (hmb : m ≤ 1000) (hD : CellsIn w D (ints (dI d))) :
    Calls Tryz.prog 29 #[.agg #[.string (bs nm), .slice A n c], .slice D m e] w fun r w' => r = .returned (.int .i64 (cD L d)) ∧ Below w.heap.size w w' := by
  obtain ⟨g1, hg1⟩ : ∃ z, z = w.heap.size := ⟨_, rfl⟩
  obtain ⟨W1, hW1⟩ : ∃ z, z = w.alloc (.cells #[.string (bs nm), .slice A n c] 24) := ⟨_, rfl⟩
  have V1 := Lib.hid (show Hp w [obox g1 nm A n c] W1 by rw [hW1, hg1]; exact (Hp.start w).obox_new nm A n c)
  have HW1 := Lib.hid hW1
  have HG1 := Lib.hid hg1
  have HV := Lib.hid hv
  have HL := Lib.hid hl
  have HA := Lib.hid hA
  have HD := Lib.hid hD
  have HDN := Lib.hid hd
  have HM := Lib.hid hm
  have HACC := Lib.hid (cD_acc hv (by rw [hl]; exact hd))
  have hn120 : n ≤ 120 := by have := (vO_zero hv).2.2.1; omega
  clear hW1 hg1 hv hl hA hD hd hm
  go_enter Tryz.func29, Tryz.ntmps29
  go_upto_region 2 with fail
  rw [← HG1.out, ← HW1.out]
  go_wp2_with fail
  go_loopw [5, 6] (fun v i wr => ∃ k : Nat, k ≤ m ∧ i = .int .i64 (k : Int) ∧ v = .int .i64 (cD L (d.take k)) ∧ Hp w [obox g1 nm A n c] wr) (fun _ i _ => m - (intOf i).toNat)
  case atStart => exact ⟨0, Nat.zero_le _, rfl, rfl, V1.out⟩
  case round =>
    obtain ⟨k, hk, rfl, rfl, hV⟩ := hrel
    obtain ⟨wi, rfl⟩ : ∃ wi : World, wi = wr := ⟨_, rfl⟩
    have V3 := Lib.hid hV
    clear hV V1
    obtain ⟨o0, o1, o2⟩ := V3.out.obox_at (i := 0) rfl
    by_cases hlt : k < m
    · obtain ⟨i, hi⟩ := get_at (L := d) (k := k) (by have := HM.out; omega)
      have hin := HDN.out i (List.mem_of_getElem? hi)
      obtain ⟨bD, oD, hDe, hbD, d0⟩ := (HD.out.below V3.out.below).idx hi
      obtain ⟨x, hx⟩ := get_at (L := L) (k := i) (by have := HL.out; omega)
      obtain ⟨b, off, Aj, cj, hAe, hb, c0, c1, c2, c3, c4⟩ := (HA.out.below V3.out.below).at hx
      have HX := Lib.hid (sgAt_is hx)
      obtain ⟨acc, hacc⟩ : ∃ z, z = cD L (d.take k) := ⟨_, rfl⟩
      have HN := Lib.hid (show cD L (d.take (k + 1)) = acc + x.c by rw [cD_take hi, sgAt_is hx, hacc])
      have hab := HACC.out k
      rw [← hacc] at hab
      have hmm : (d.length : Int) ≤ 1000 := by have := HM.out; omega
      have hab2 : 0 ≤ acc ∧ acc ≤ 99000 := by omega
      have hxc : 0 ≤ x.c ∧ x.c ≤ 99 := by have := sgn_bd HV.out (i := i) (by rw [HL.out]; exact hin); rw [sgAt_is hx] at this; omega
      have hwr : IntKind.i64.wrap (acc + x.c) = acc + x.c := IntWalk.i64_in _ (by omega)
      rw [← hacc]
      rw [hAe] at o1
      have HAE := Lib.hid hAe
      have HDE := Lib.hid hDe
      subst hAe
      subst hDe
      have hi4 : i * 4 ≤ 480 := by omega
      clear hi hx hacc hab c0 c1 c3 c4
      go_upto_region 5 with fail
      have hKp : Keep [(⟨g1, 1, none⟩, .slice (some ⟨b, off, none⟩) n c), (⟨bD, oD + k, none⟩, .int .i64 (i : Int)), (⟨b, off + i * 4 + 2, none⟩, .int .i64 x.c)] wi := List.forall_mem_cons.2 ⟨⟨(V3.out.box_at (i := 0) (j := 1) rfl rfl).1, (V3.out.box_at (i := 0) (j := 1) rfl rfl).2.2⟩, List.forall_mem_cons.2 ⟨⟨d0, hbD⟩, List.forall_mem_cons.2 ⟨⟨c2, hb⟩, fun _ h => by simp at h⟩⟩⟩
      refine wp_region_held_drew (S := Keep _) (by kernel_rfl) hKp.drew (fun hHeld => ?_)
      obtain ⟨wf, hwf⟩ : ∃ z, z = wi.drew := ⟨_, rfl⟩
      have Vwf := Lib.hid (show Hp w (obox g1 nm (some ⟨b, off, none⟩) n c :: []) wf by rw [hwf]; exact V3.out.go (bdrew _))
      have Bwf := Lib.hid (show Below wi.heap.size wi wf by rw [hwf]; exact bdrew _)
      rw [← hwf] at hHeld ⊢
      clear hwf hKp
      refine tk 0 ?_ rfl ?_ ?_; rotate_left; focus (intro w hSw; clear hSw; go_simp; try (with_reducible rfl))
      try simp only [Act.put, sA, sZ, sS]
      refine tk 1 ?_ rfl ?_ ?_; rotate_left; focus (intro w hSw; clear hSw; go_simp; try (with_reducible rfl))
      try simp only [Act.put, sA, sZ, sS]
      refine tk 2 ?_ rfl ?_ ?_; rotate_left
      · intro wl hSw
        have hSw : Keep _ wl := hSw
        have k0 := (hSw _ (.head _)).1
        dsimp only at k0
        clear hSw
        go_simp
        try (with_reducible rfl)
      try simp only [Act.put, sA, sZ, sS]
      refine tk 3 ?_ rfl ?_ ?_; rotate_left; focus (intro w hSw; clear hSw; go_simp; try (with_reducible rfl))
      try simp only [Act.put, sA, sZ, sS]
      refine tk 4 ?_ rfl ?_ ?_; rotate_left; focus (intro w hSw; clear hSw; go_simp; try (with_reducible rfl))
      try simp only [Act.put, sA, sZ, sS]
      refine tk 5 ?_ rfl ?_ ?_; rotate_left; focus (intro w hSw; clear hSw; go_simp; try (with_reducible rfl))
      try simp only [Act.put, sA, sZ, sS]
      refine tk 6 ?_ rfl ?_ ?_; rotate_left
      · intro wl hSw
        have hSw : Keep _ wl := hSw
        have k0 := (hSw _ (.tail _ (.head _))).1
        dsimp only at k0
        clear hSw
        go_simp
        try (with_reducible rfl)
      try simp only [Act.put, sA, sZ, sS]
      refine tk 7 ?_ rfl ?_ ?_; rotate_left; focus (intro w hSw; clear hSw; go_simp; try (with_reducible rfl))
      try simp only [Act.put, sA, sZ, sS]
      refine tk 8 ?_ rfl ?_ ?_; rotate_left; focus (intro w hSw; clear hSw; go_simp; try (with_reducible rfl))
      try simp only [Act.put, sA, sZ, sS]
      refine tk 9 ?_ rfl ?_ ?_; rotate_left
      · intro wl hSw
        have hSw : Keep _ wl := hSw
        have k0 := (hSw _ (.tail _ (.tail _ (.head _)))).1
        dsimp only at k0
        clear hSw
        go_simp
        try (with_reducible rfl)
      try simp only [Act.put, sA, sZ, sS]
      refine tk 10 ?_ rfl ?_ ?_; rotate_left; focus (intro w hSw; clear hSw; go_simp; try (with_reducible rfl))
      try simp only [Act.put, sA, sZ, sS]
      refine tk 11 ?_ rfl ?_ ?_; rotate_left; focus (intro w hSw; clear hSw; go_simp; try (with_reducible rfl))
      try simp only [Act.put, sA, sZ, sS]
      refine wpAnyH_done (by kernel_rfl) ?_ _
      clear hHeld
      go_wp2_with fail
      go_roundw
      case rel => exact ⟨k + 1, by omega, by go_num, by rw [HN.out], Vwf.out⟩
      case measure => simp [intOf]; omega
    · obtain rfl : k = m := by omega
      have HE := Lib.hid (show d.take k = d from List.take_of_length_le (by have := HM.out; omega))
      rw [HE.out]
      go_wp2_with fail
      go_ret
      exact ⟨rfl, V3.out.below⟩
set_option maxHeartbeats 2000000 in
theorem rless13_any (a b : List Nat) (A B : Option Addr) (n c m d : Nat) (w : World) (ha : a.length = n) (hb : b.length = m) (hn : n ≤ 1000000) (hm : m ≤ 1000000) (hA : CellsIn w A (ints (dI a))) (hB : CellsIn w B (ints (dI b))) :
    Calls Tryz.prog 67 #[.slice A n c, .slice B m d] w fun r w' => r = .returned (.bool (lexB a b)) ∧ Below w.heap.size w w' := by
  have HAL := Lib.hid ha
  have HBL := Lib.hid hb
  have HA := Lib.hid hA
  have HB := Lib.hid hB
  clear ha hb hA hB
  go_enter Tryz.func67, Tryz.ntmps67
  go_wp2_with fail
  go_loopw [5] (fun i wr => ∃ k : Nat, k ≤ n ∧ k ≤ m ∧ i = .int .i64 (k : Int) ∧ LexI a b k ∧ Below w.heap.size w wr) (fun i _ => n - (intOf i).toNat)
  case atStart => exact ⟨0, Nat.zero_le _, Nat.zero_le _, rfl, LexI.start a b, Below.refl _ _⟩
  case round =>
    obtain ⟨k, hk, hk2, rfl, hx, hbl⟩ := hrel
    obtain ⟨wi, rfl⟩ : ∃ wi : World, wi = wr := ⟨_, rfl⟩
    have HX := Lib.hid hx
    have BL := Lib.hid hbl
    clear hx hbl
    by_cases h1 : k < n
    · by_cases h2 : k < m
      · obtain ⟨x, hx⟩ := get_at (L := a) (k := k) (by have := HAL.out; omega)
        obtain ⟨y, hy⟩ := get_at (L := b) (k := k) (by have := HBL.out; omega)
        obtain ⟨bA, oA, hAe, hbA, a0⟩ := (HA.out.below BL.out).idx hx
        obtain ⟨bB, oB, hBe, hbB, b0⟩ := (HB.out.below BL.out).idx hy
        have HAX := Lib.hid hx
        have HBY := Lib.hid hy
        subst hAe
        subst hBe
        clear hx hy
        go_upto_region 4 with fail
        by_cases hxy : x = y
        · have e1 : ((x : Int) != (y : Int)) = false := by rw [hxy]; simp
          have HN := Lib.hid (HX.out.step (x := x) HAX.out (by rw [hxy]; exact HBY.out))
          clear hxy
          have VX := Lib.hid (show Hp w [] wi from ⟨fun i it h => by simp at h, fun i j a b _ h => by simp at h, BL.out⟩)
          have hKp : Keep [(⟨bA, oA + k, none⟩, .int .i64 (x : Int)), (⟨bB, oB + k, none⟩, .int .i64 (y : Int))] wi := List.forall_mem_cons.2 ⟨⟨a0, hbA⟩, List.forall_mem_cons.2 ⟨⟨b0, hbB⟩, fun _ h => by simp at h⟩⟩
          refine wp_region_held_drew (S := Keep _) (by kernel_rfl) hKp.drew (fun hHeld => ?_)
          obtain ⟨wf, hwf⟩ : ∃ z, z = wi.drew := ⟨_, rfl⟩
          have Vwf := Lib.hid (show Hp w ([]) wf by rw [hwf]; exact VX.out.go (bdrew _))
          have Bwf := Lib.hid (show Below wi.heap.size wi wf by rw [hwf]; exact bdrew _)
          rw [← hwf] at hHeld ⊢
          clear hwf hKp
          refine tk 0 ?_ rfl ?_ ?_; rotate_left; focus (intro w hSw; clear hSw; go_simp; try (with_reducible rfl))
          try simp only [Act.put, sA, sZ, sS]
          refine tk 1 ?_ rfl ?_ ?_; rotate_left; focus (intro w hSw; clear hSw; go_simp; try (with_reducible rfl))
          try simp only [Act.put, sA, sZ, sS]
          refine tk 2 ?_ rfl ?_ ?_; rotate_left; focus (intro w hSw; clear hSw; go_simp; try (with_reducible rfl))
          try simp only [Act.put, sA, sZ, sS]
          refine tk 3 ?_ rfl ?_ ?_; rotate_left
          · intro wl hSw
            have hSw : Keep _ wl := hSw
            have k0 := (hSw _ (.head _)).1
            dsimp only at k0
            clear hSw
            go_simp
            try (with_reducible rfl)
          try simp only [Act.put, sA, sZ, sS]
          refine tk 4 ?_ rfl ?_ ?_; rotate_left; focus (intro w hSw; clear hSw; go_simp; try (with_reducible rfl))
          try simp only [Act.put, sA, sZ, sS]
          refine tk 5 ?_ rfl ?_ ?_; rotate_left; focus (intro w hSw; clear hSw; go_simp; try (with_reducible rfl))
          try simp only [Act.put, sA, sZ, sS]
          refine tk 6 ?_ rfl ?_ ?_; rotate_left; focus (intro w hSw; clear hSw; go_simp; try (with_reducible rfl))
          try simp only [Act.put, sA, sZ, sS]
          refine tk 7 ?_ rfl ?_ ?_; rotate_left
          · intro wl hSw
            have hSw : Keep _ wl := hSw
            have k0 := (hSw _ (.tail _ (.head _))).1
            dsimp only at k0
            clear hSw
            go_simp
            try (with_reducible rfl)
          try simp only [Act.put, sA, sZ, sS]
          refine tk 8 ?_ rfl ?_ ?_; rotate_left; focus (intro w hSw; clear hSw; go_simp; try (with_reducible rfl))
          try simp only [Act.put, sA, sZ, sS]
          refine wpAnyH_done (by kernel_rfl) ?_ _
          clear hHeld
          go_wp2_with fail
          go_roundw
          case rel => exact ⟨k + 1, by omega, by omega, by go_num, HN.out, Vwf.out.below⟩
          case measure => simp [intOf]; omega
        · have e1 : ((x : Int) != (y : Int)) = true := by rw [bne_iff_ne]; omega
          have HE := Lib.hid (HX.out.differ HAX.out HBY.out hxy)
          clear hxy
          have VX := Lib.hid (show Hp w [] wi from ⟨fun i it h => by simp at h, fun i j a b _ h => by simp at h, BL.out⟩)
          have hKp : Keep [(⟨bA, oA + k, none⟩, .int .i64 (x : Int)), (⟨bB, oB + k, none⟩, .int .i64 (y : Int))] wi := List.forall_mem_cons.2 ⟨⟨a0, hbA⟩, List.forall_mem_cons.2 ⟨⟨b0, hbB⟩, fun _ h => by simp at h⟩⟩
          refine wp_region_held_drew (S := Keep _) (by kernel_rfl) hKp.drew (fun hHeld => ?_)
          obtain ⟨wf, hwf⟩ : ∃ z, z = wi.drew := ⟨_, rfl⟩
          have Vwf := Lib.hid (show Hp w ([]) wf by rw [hwf]; exact VX.out.go (bdrew _))
          have Bwf := Lib.hid (show Below wi.heap.size wi wf by rw [hwf]; exact bdrew _)
          rw [← hwf] at hHeld ⊢
          clear hwf hKp
          refine tk 0 ?_ rfl ?_ ?_; rotate_left; focus (intro w hSw; clear hSw; go_simp; try (with_reducible rfl))
          try simp only [Act.put, sA, sZ, sS]
          refine tk 1 ?_ rfl ?_ ?_; rotate_left; focus (intro w hSw; clear hSw; go_simp; try (with_reducible rfl))
          try simp only [Act.put, sA, sZ, sS]
          refine tk 2 ?_ rfl ?_ ?_; rotate_left; focus (intro w hSw; clear hSw; go_simp; try (with_reducible rfl))
          try simp only [Act.put, sA, sZ, sS]
          refine tk 3 ?_ rfl ?_ ?_; rotate_left
          · intro wl hSw
            have hSw : Keep _ wl := hSw
            have k0 := (hSw _ (.head _)).1
            dsimp only at k0
            clear hSw
            go_simp
            try (with_reducible rfl)
          try simp only [Act.put, sA, sZ, sS]
          refine tk 4 ?_ rfl ?_ ?_; rotate_left; focus (intro w hSw; clear hSw; go_simp; try (with_reducible rfl))
          try simp only [Act.put, sA, sZ, sS]
          refine tk 5 ?_ rfl ?_ ?_; rotate_left; focus (intro w hSw; clear hSw; go_simp; try (with_reducible rfl))
          try simp only [Act.put, sA, sZ, sS]
          refine tk 6 ?_ rfl ?_ ?_; rotate_left; focus (intro w hSw; clear hSw; go_simp; try (with_reducible rfl))
          try simp only [Act.put, sA, sZ, sS]
          refine tk 7 ?_ rfl ?_ ?_; rotate_left
          · intro wl hSw
            have hSw : Keep _ wl := hSw
            have k0 := (hSw _ (.tail _ (.head _))).1
            dsimp only at k0
            clear hSw
            go_simp
            try (with_reducible rfl)
          try simp only [Act.put, sA, sZ, sS]
          refine tk 8 ?_ rfl ?_ ?_; rotate_left; focus (intro w hSw; clear hSw; go_simp; try (with_reducible rfl))
          try simp only [Act.put, sA, sZ, sS]
          refine wpAnyH_done (by kernel_rfl) ?_ _
          clear hHeld
          have a1 := (Bwf.out.cell (p := ⟨bA, oA + k, none⟩) hbA).trans a0
          have b1 := (Bwf.out.cell (p := ⟨bB, oB + k, none⟩) hbB).trans b0
          have hbA1 := Nat.lt_of_lt_of_le hbA Bwf.out.size
          have hbB1 := Nat.lt_of_lt_of_le hbB Bwf.out.size
          go_upto_region 5 with fail
          have hKp : Keep [(⟨bA, oA + k, none⟩, .int .i64 (x : Int)), (⟨bB, oB + k, none⟩, .int .i64 (y : Int))] wf := List.forall_mem_cons.2 ⟨⟨a1, hbA1⟩, List.forall_mem_cons.2 ⟨⟨b1, hbB1⟩, fun _ h => by simp at h⟩⟩
          refine wp_region_held_drew (S := Keep _) (by kernel_rfl) hKp.drew (fun hHeld => ?_)
          obtain ⟨wg, hwg⟩ : ∃ z, z = wf.drew := ⟨_, rfl⟩
          have Vwg := Lib.hid (show Hp w ([]) wg by rw [hwg]; exact Vwf.out.go (bdrew _))
          have Bwg := Lib.hid (show Below wf.heap.size wf wg by rw [hwg]; exact bdrew _)
          rw [← hwg] at hHeld ⊢
          clear hwg hKp
          refine tk 0 ?_ rfl ?_ ?_; rotate_left; focus (intro w hSw; clear hSw; go_simp; try (with_reducible rfl))
          try simp only [Act.put, sA, sZ, sS]
          refine tk 1 ?_ rfl ?_ ?_; rotate_left; focus (intro w hSw; clear hSw; go_simp; try (with_reducible rfl))
          try simp only [Act.put, sA, sZ, sS]
          refine tk 2 ?_ rfl ?_ ?_; rotate_left; focus (intro w hSw; clear hSw; go_simp; try (with_reducible rfl))
          try simp only [Act.put, sA, sZ, sS]
          refine tk 3 ?_ rfl ?_ ?_; rotate_left
          · intro wl hSw
            have hSw : Keep _ wl := hSw
            have k0 := (hSw _ (.head _)).1
            dsimp only at k0
            clear hSw
            go_simp
            try (with_reducible rfl)
          try simp only [Act.put, sA, sZ, sS]
          refine tk 4 ?_ rfl ?_ ?_; rotate_left; focus (intro w hSw; clear hSw; go_simp; try (with_reducible rfl))
          try simp only [Act.put, sA, sZ, sS]
          refine tk 5 ?_ rfl ?_ ?_; rotate_left; focus (intro w hSw; clear hSw; go_simp; try (with_reducible rfl))
          try simp only [Act.put, sA, sZ, sS]
          refine tk 6 ?_ rfl ?_ ?_; rotate_left; focus (intro w hSw; clear hSw; go_simp; try (with_reducible rfl))
          try simp only [Act.put, sA, sZ, sS]
          refine tk 7 ?_ rfl ?_ ?_; rotate_left
          · intro wl hSw
            have hSw : Keep _ wl := hSw
            have k0 := (hSw _ (.tail _ (.head _))).1
            dsimp only at k0
            clear hSw
            go_simp
            try (with_reducible rfl)
          try simp only [Act.put, sA, sZ, sS]
          refine tk 8 ?_ rfl ?_ ?_; rotate_left; focus (intro w hSw; clear hSw; go_simp; try (with_reducible rfl))
          try simp only [Act.put, sA, sZ, sS]
          refine tk 9 ?_ rfl ?_ ?_; rotate_left; focus (intro w hSw; clear hSw; go_simp; try (with_reducible rfl))
          try simp only [Act.put, sA, sZ, sS]
          refine wpAnyH_done (by kernel_rfl) ?_ _
          clear hHeld
          go_wp2_with fail
          go_ret
          exact ⟨by rw [HE.out]; simp, Vwg.out.below⟩
      · have HE := Lib.hid (HX.out.fin (Or.inr (by have := HBL.out; omega)) (by have := HAL.out; omega) (by have := HBL.out; omega))
        rw [HAL.out, HBL.out] at HE
        go_wp2_with fail
        go_ret
        exact ⟨by rw [HE.out]; simp, BL.out⟩
    · have HE := Lib.hid (HX.out.fin (Or.inl (by have := HAL.out; omega)) (by have := HAL.out; omega) (by have := HBL.out; omega))
      rw [HAL.out, HBL.out] at HE
      go_wp2_with fail
      go_ret
      exact ⟨by rw [HE.out]; simp, BL.out⟩
set_option maxHeartbeats 2000000 in
theorem rbefore13_any (nm : List UInt8) (L : List Sg) (A : Option Addr) (n c : Nat) (a b : List Nat) (D1 D2 : Option Addr) (m1 e1 m2 e2 : Nat) (w : World) (hv : (vO nm L).2 = 0) (hl : L.length = n) (hA : SgnIn w A L) (ha : ∀ i ∈ a, i < n) (hb : ∀ i ∈ b, i < n) (hm1 : a.length = m1) (hm2 : b.length = m2) (hb1 : m1 ≤ 1000) (hb2 : m2 ≤ 1000) (hD1 : CellsIn w D1 (ints (dI a))) (hD2 : CellsIn w D2 (ints (dI b))) :
    Calls Tryz.prog 49 #[.agg #[.string (bs nm), .slice A n c], .slice D1 m1 e1, .slice D2 m2 e2] w fun r w' => r = .returned (.bool (befB L a b)) ∧ Below w.heap.size w w' := by
  obtain ⟨g1, hg1⟩ : ∃ z, z = w.heap.size := ⟨_, rfl⟩
  obtain ⟨W1, hW1⟩ : ∃ z, z = w.alloc (.cells #[.string (bs nm), .slice A n c] 24) := ⟨_, rfl⟩
  have V1 := Lib.hid (show Hp w [obox g1 nm A n c] W1 by rw [hW1, hg1]; exact (Hp.start w).obox_new nm A n c)
  have HW1 := Lib.hid hW1
  have HG1 := Lib.hid hg1
  have C1 := Lib.hid (fun (w' : World) (h : Below w.heap.size w w') => rcost13_any nm L A n c a D1 m1 e1 w' hv hl (hA.below h) ha hm1 hb1 (hD1.below h))
  have C2 := Lib.hid (fun (w' : World) (h : Below w.heap.size w w') => rcost13_any nm L A n c b D2 m2 e2 w' hv hl (hA.below h) hb hm2 hb2 (hD2.below h))
  have CLS := Lib.hid (fun (w' : World) (h : Below w.heap.size w w') => rless13_any a b D1 D2 m1 e1 m2 e2 w' hm1 hm2 (by omega) (by omega) (hD1.below h) (hD2.below h))
  clear hW1 hg1 hv hl hA ha hb hm1 hm2 hD1 hD2
  obtain ⟨ca, hca⟩ : ∃ z, z = cD L a := ⟨_, rfl⟩
  obtain ⟨cb, hcb⟩ : ∃ z, z = cD L b := ⟨_, rfl⟩
  have HCA := Lib.hid hca
  have HCB := Lib.hid hcb
  clear hca hcb
  go_enter Tryz.func49, Tryz.ntmps49
  go_upto_region 1 with fail
  rw [← HG1.out, ← HW1.out]
  by_cases hab : ca = cb
  · have e3 : (ca != cb) = false := by rw [hab]; simp
    have HE := Lib.hid (show befB L a b = lexB a b by unfold befB; rw [if_pos (by rw [← HCA.out, ← HCB.out]; exact hab)])
    clear hab
    have hKp : Keep [(⟨g1, 0, none⟩, .string (bs nm)), (⟨g1, 1, none⟩, .slice A n c)] W1 := List.forall_mem_cons.2 ⟨⟨(V1.out.box_at (i := 0) (j := 0) rfl rfl).1, (V1.out.box_at (i := 0) (j := 0) rfl rfl).2.2⟩, List.forall_mem_cons.2 ⟨⟨(V1.out.box_at (i := 0) (j := 1) rfl rfl).1, (V1.out.box_at (i := 0) (j := 1) rfl rfl).2.2⟩, fun _ h => by simp at h⟩⟩
    refine wp_region_held_drew (S := Keep _) (by kernel_rfl) hKp.drew (fun hHeld => ?_)
    obtain ⟨wf, hwf⟩ : ∃ z, z = W1.drew := ⟨_, rfl⟩
    have Vwf := Lib.hid (show Hp w (obox g1 nm A n c :: []) wf by rw [hwf]; exact V1.out.go (bdrew _))
    have Bwf := Lib.hid (show Below W1.heap.size W1 wf by rw [hwf]; exact bdrew _)
    rw [← hwf] at hHeld ⊢
    clear hwf hKp
    refine tk 0 ?_ rfl ?_ ?_; rotate_left
    · intro wl hSw
      have hSw : Keep _ wl := hSw
      have k0 := (hSw _ (.head _)).1
      have k1 := (hSw _ (.tail _ (.head _))).1
      dsimp only at k0 k1
      clear hSw
      go_simp
      try (with_reducible rfl)
    try simp only [Act.put, sA, sZ, sS]
    refine tk 1 ?_ rfl ?_ ?_; rotate_left; focus (intro w hSw; clear hSw; go_simp; try (with_reducible rfl))
    try simp only [Act.put, sA, sZ, sS]
    refine tk 3 ?_ rfl ?_ ?_; rotate_left
    · intro wl hSw
      have hSw : Keep _ wl := hSw
      have k0 := (hSw _ (.head _)).1
      have k1 := (hSw _ (.tail _ (.head _))).1
      dsimp only at k0 k1
      clear hSw
      go_simp
      try (with_reducible rfl)
    try simp only [Act.put, sA, sZ, sS]
    refine tk 4 ?_ rfl ?_ ?_; rotate_left; focus (intro w hSw; clear hSw; go_simp; try (with_reducible rfl))
    try simp only [Act.put, sA, sZ, sS]
    refine wpAnyH_ready (rs := [2]) (by kernel_rfl) (by simp) ?_
    refine AllReadyH.cons (List.getElem?_toArray.trans rfl) (fun K hK => ?_) AllReadyH.nil
    go_simp
    refine (C1.out _ Vwf.out.below).mono ?_
    rintro e w_2 ⟨rfl, hb⟩
    rw [← HCA.out]
    have V_2 := Lib.hid (Vwf.out.go hb)
    have B_2 := Lib.hid hb
    clear hb
    try go_wp2_with fail
    refine hK.out _ _ (hHeld.go B_2.out) (fun hHeld => ?_)
    clear hK K
    try simp only [Act.put, sA, sZ, sS]
    refine wpAnyH_ready (rs := [5]) (by kernel_rfl) (by simp) ?_
    refine AllReadyH.cons (List.getElem?_toArray.trans rfl) (fun K hK => ?_) AllReadyH.nil
    go_simp
    refine (C2.out _ V_2.out.below).mono ?_
    rintro e w_2_5 ⟨rfl, hb⟩
    rw [← HCB.out]
    have V_2_5 := Lib.hid (V_2.out.go hb)
    have B_2_5 := Lib.hid hb
    clear hb
    try go_wp2_with fail
    refine hK.out _ _ (hHeld.go B_2_5.out) (fun hHeld => ?_)
    clear hK K
    try simp only [Act.put, sA, sZ, sS]
    refine tk 6 ?_ rfl ?_ ?_; rotate_left; focus (intro w hSw; clear hSw; go_simp; try (with_reducible rfl))
    try simp only [Act.put, sA, sZ, sS]
    refine wpAnyH_done (by kernel_rfl) ?_ _
    clear hHeld
    go_wp2_with fail
    refine (CLS.out _ V_2_5.out.below).mono ?_
    rintro e wz ⟨rfl, hb⟩
    have VZ := Lib.hid (V_2_5.out.go hb)
    clear hb
    go_wp2_with fail
    go_ret
    exact ⟨by rw [HE.out]; rfl, VZ.out.below⟩
  · have e3 : (ca != cb) = true := by rw [bne_iff_ne]; exact hab
    have HE := Lib.hid (show befB L a b = decide (ca < cb) by unfold befB; rw [if_neg (by rw [← HCA.out, ← HCB.out]; exact hab), ← HCA.out, ← HCB.out])
    clear hab
    have hKp : Keep [(⟨g1, 0, none⟩, .string (bs nm)), (⟨g1, 1, none⟩, .slice A n c)] W1 := List.forall_mem_cons.2 ⟨⟨(V1.out.box_at (i := 0) (j := 0) rfl rfl).1, (V1.out.box_at (i := 0) (j := 0) rfl rfl).2.2⟩, List.forall_mem_cons.2 ⟨⟨(V1.out.box_at (i := 0) (j := 1) rfl rfl).1, (V1.out.box_at (i := 0) (j := 1) rfl rfl).2.2⟩, fun _ h => by simp at h⟩⟩
    refine wp_region_held_drew (S := Keep _) (by kernel_rfl) hKp.drew (fun hHeld => ?_)
    obtain ⟨wf, hwf⟩ : ∃ z, z = W1.drew := ⟨_, rfl⟩
    have Vwf := Lib.hid (show Hp w (obox g1 nm A n c :: []) wf by rw [hwf]; exact V1.out.go (bdrew _))
    have Bwf := Lib.hid (show Below W1.heap.size W1 wf by rw [hwf]; exact bdrew _)
    rw [← hwf] at hHeld ⊢
    clear hwf hKp
    refine tk 0 ?_ rfl ?_ ?_; rotate_left
    · intro wl hSw
      have hSw : Keep _ wl := hSw
      have k0 := (hSw _ (.head _)).1
      have k1 := (hSw _ (.tail _ (.head _))).1
      dsimp only at k0 k1
      clear hSw
      go_simp
      try (with_reducible rfl)
    try simp only [Act.put, sA, sZ, sS]
    refine tk 1 ?_ rfl ?_ ?_; rotate_left; focus (intro w hSw; clear hSw; go_simp; try (with_reducible rfl))
    try simp only [Act.put, sA, sZ, sS]
    refine tk 3 ?_ rfl ?_ ?_; rotate_left
    · intro wl hSw
      have hSw : Keep _ wl := hSw
      have k0 := (hSw _ (.head _)).1
      have k1 := (hSw _ (.tail _ (.head _))).1
      dsimp only at k0 k1
      clear hSw
      go_simp
      try (with_reducible rfl)
    try simp only [Act.put, sA, sZ, sS]
    refine tk 4 ?_ rfl ?_ ?_; rotate_left; focus (intro w hSw; clear hSw; go_simp; try (with_reducible rfl))
    try simp only [Act.put, sA, sZ, sS]
    refine wpAnyH_ready (rs := [2]) (by kernel_rfl) (by simp) ?_
    refine AllReadyH.cons (List.getElem?_toArray.trans rfl) (fun K hK => ?_) AllReadyH.nil
    go_simp
    refine (C1.out _ Vwf.out.below).mono ?_
    rintro e w_2 ⟨rfl, hb⟩
    rw [← HCA.out]
    have V_2 := Lib.hid (Vwf.out.go hb)
    have B_2 := Lib.hid hb
    clear hb
    try go_wp2_with fail
    refine hK.out _ _ (hHeld.go B_2.out) (fun hHeld => ?_)
    clear hK K
    try simp only [Act.put, sA, sZ, sS]
    refine wpAnyH_ready (rs := [5]) (by kernel_rfl) (by simp) ?_
    refine AllReadyH.cons (List.getElem?_toArray.trans rfl) (fun K hK => ?_) AllReadyH.nil
    go_simp
    refine (C2.out _ V_2.out.below).mono ?_
    rintro e w_2_5 ⟨rfl, hb⟩
    rw [← HCB.out]
    have V_2_5 := Lib.hid (V_2.out.go hb)
    have B_2_5 := Lib.hid hb
    clear hb
    try go_wp2_with fail
    refine hK.out _ _ (hHeld.go B_2_5.out) (fun hHeld => ?_)
    clear hK K
    try simp only [Act.put, sA, sZ, sS]
    refine tk 6 ?_ rfl ?_ ?_; rotate_left; focus (intro w hSw; clear hSw; go_simp; try (with_reducible rfl))
    try simp only [Act.put, sA, sZ, sS]
    refine wpAnyH_done (by kernel_rfl) ?_ _
    clear hHeld
    go_upto_region 2 with fail
    have hKp : Keep [(⟨g1, 0, none⟩, .string (bs nm)), (⟨g1, 1, none⟩, .slice A n c)] w_2_5 := List.forall_mem_cons.2 ⟨⟨(V_2_5.out.box_at (i := 0) (j := 0) rfl rfl).1, (V_2_5.out.box_at (i := 0) (j := 0) rfl rfl).2.2⟩, List.forall_mem_cons.2 ⟨⟨(V_2_5.out.box_at (i := 0) (j := 1) rfl rfl).1, (V_2_5.out.box_at (i := 0) (j := 1) rfl rfl).2.2⟩, fun _ h => by simp at h⟩⟩
    refine wp_region_held_drew (S := Keep _) (by kernel_rfl) hKp.drew (fun hHeld => ?_)
    obtain ⟨wg, hwg⟩ : ∃ z, z = w_2_5.drew := ⟨_, rfl⟩
    have Vwg := Lib.hid (show Hp w (obox g1 nm A n c :: []) wg by rw [hwg]; exact V_2_5.out.go (bdrew _))
    have Bwg := Lib.hid (show Below w_2_5.heap.size w_2_5 wg by rw [hwg]; exact bdrew _)
    rw [← hwg] at hHeld ⊢
    clear hwg hKp
    refine tk 0 ?_ rfl ?_ ?_; rotate_left
    · intro wl hSw
      have hSw : Keep _ wl := hSw
      have k0 := (hSw _ (.head _)).1
      have k1 := (hSw _ (.tail _ (.head _))).1
      dsimp only at k0 k1
      clear hSw
      go_simp
      try (with_reducible rfl)
    try simp only [Act.put, sA, sZ, sS]
    refine tk 1 ?_ rfl ?_ ?_; rotate_left; focus (intro w hSw; clear hSw; go_simp; try (with_reducible rfl))
    try simp only [Act.put, sA, sZ, sS]
    refine tk 3 ?_ rfl ?_ ?_; rotate_left
    · intro wl hSw
      have hSw : Keep _ wl := hSw
      have k0 := (hSw _ (.head _)).1
      have k1 := (hSw _ (.tail _ (.head _))).1
      dsimp only at k0 k1
      clear hSw
      go_simp
      try (with_reducible rfl)
    try simp only [Act.put, sA, sZ, sS]
    refine tk 4 ?_ rfl ?_ ?_; rotate_left; focus (intro w hSw; clear hSw; go_simp; try (with_reducible rfl))
    try simp only [Act.put, sA, sZ, sS]
    refine wpAnyH_ready (rs := [2]) (by kernel_rfl) (by simp) ?_
    refine AllReadyH.cons (List.getElem?_toArray.trans rfl) (fun K hK => ?_) AllReadyH.nil
    go_simp
    refine (C1.out _ Vwg.out.below).mono ?_
    rintro e w_2 ⟨rfl, hb⟩
    rw [← HCA.out]
    have V_2 := Lib.hid (Vwg.out.go hb)
    have B_2 := Lib.hid hb
    clear hb
    try go_wp2_with fail
    refine hK.out _ _ (hHeld.go B_2.out) (fun hHeld => ?_)
    clear hK K
    try simp only [Act.put, sA, sZ, sS]
    refine wpAnyH_ready (rs := [5]) (by kernel_rfl) (by simp) ?_
    refine AllReadyH.cons (List.getElem?_toArray.trans rfl) (fun K hK => ?_) AllReadyH.nil
    go_simp
    refine (C2.out _ V_2.out.below).mono ?_
    rintro e w_2_5 ⟨rfl, hb⟩
    rw [← HCB.out]
    have V_2_5 := Lib.hid (V_2.out.go hb)
    have B_2_5 := Lib.hid hb
    clear hb
    try go_wp2_with fail
    refine hK.out _ _ (hHeld.go B_2_5.out) (fun hHeld => ?_)
    clear hK K
    try simp only [Act.put, sA, sZ, sS]
    refine tk 6 ?_ rfl ?_ ?_; rotate_left; focus (intro w hSw; clear hSw; go_simp; try (with_reducible rfl))
    try simp only [Act.put, sA, sZ, sS]
    refine tk 7 ?_ rfl ?_ ?_; rotate_left; focus (intro w hSw; clear hSw; go_simp; try (with_reducible rfl))
    try simp only [Act.put, sA, sZ, sS]
    refine wpAnyH_done (by kernel_rfl) ?_ _
    clear hHeld
    go_wp2_with fail
    go_ret
    exact ⟨by rw [HE.out]; rfl, V_2_5.out.below⟩
end Go.Proofs.YtjamfcihjendiaaGreat
