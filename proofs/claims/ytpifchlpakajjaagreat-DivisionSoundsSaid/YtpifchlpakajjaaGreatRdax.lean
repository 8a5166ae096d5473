/- Several texts in one: Oy, Jc. -/
import Derived.Test.YtpifchlpakajjaaGreatRdav
import Derived.Test.YtpifchlpakajjaaGreatRdam
import Derived.Test.YtpifchlpakajjaaGreatRdap
import Derived.Test.YtpifchlpakajjaaGreatRdaw
import Derived.Test.YtpifchlpakajjaaGreatRdar
import Derived.Test.YtpifchlpakajjaaGreatRdaf
import Derived.Test.YtpifchlpakajjaaGreatRdag
namespace Go.Proofs.YtpifchlpakajjaaGreat
open Go.RowKit
set_option linter.unusedVariables false
set_option linter.unusedSimpArgs false
set_option maxRecDepth 100000

set_option maxHeartbeats 2000000 in
theorem rovalid_any (nm : List UInt8) (L : List Sg) (A : Option Addr) (n c : Nat) (w : World) (hnm : nm.length ≤ 140737488355328) (hl : L.length = n) (hn : n ≤ 17592186044416) (hs : SgBd L) (hA : SgnIn w A L) :
    Calls Tryz.prog 35 #[.agg #[.string (bs nm), .slice A n c]] w fun e w' => e = .returned (.int .i64 (vO nm L).2) ∧ Below w.heap.size w w' := by
  obtain ⟨g1, hg1⟩ : ∃ z, z = w.heap.size := ⟨_, rfl⟩
  obtain ⟨W1, hW1⟩ : ∃ z, z = w.alloc (.cells #[.string (bs nm), .slice A n c] 24) := ⟨_, rfl⟩
  have V1 := Lib.hid (show Hp w [obox g1 nm A n c] W1 by rw [hW1, hg1]; exact (Hp.start w).obox_new nm A n c)
  have HW1 := Lib.hid hW1
  have HG1 := Lib.hid hg1
  have HF := Lib.hid (rfirst_any nm L A n c W1 hnm hl hn hs (hA.below V1.out.below))
  obtain ⟨x0, x1, x2⟩ := V1.out.obox_at (i := 0) rfl
  clear hW1 hg1 hA hs hl hnm
  go_enter Tryz.func35, Tryz.ntmps35
  go_upto_region 1 with fail
  rw [← HG1.out, ← HW1.out]
  go_wp2_with fail
  refine HF.out.mono ?_
  rintro e w2 ⟨rfl, hb⟩
  have B2 := Lib.hid (btwo V1.out.below hb)
  clear hb
  go_wp2_with fail
  go_ret
  exact ⟨rfl, B2.out⟩
end Go.Proofs.YtpifchlpakajjaaGreat

namespace Go.Proofs.YtpifchlpakajjaaGreat
open Go.RowKit
set_option linter.unusedVariables false
set_option linter.unusedSimpArgs false
set_option maxRecDepth 100000

theorem CellsIn.idx {w : World} {D : Option Addr} {d : List Nat} (h : CellsIn w D (ints (dI d))) {k i : Nat} (hk : d[k]? = some i) : ∃ b off, D = some ⟨b, off, none⟩ ∧ b < w.heap.size ∧ w.cell? ⟨b, off + k, none⟩ = some (.int .i64 (i : Int)) := by
  have hkl := (List.getElem?_eq_some_iff.1 hk).1
  obtain ⟨b, off, e, hlt, hc⟩ := h (by rw [ints_len, dI_len]; omega)
  exact ⟨b, off, e, hlt, hc k _ (by unfold ints; rw [List.getElem?_map, dI_at hk]; rfl)⟩
theorem cD_acc {nm : List UInt8} {L : List Sg} (h : (vO nm L).2 = 0) {d : List Nat} (hd : ∀ i ∈ d, i < L.length) (k : Nat) : 0 ≤ cD L (d.take k) ∧ cD L (d.take k) ≤ d.length * 99 := by
  have := cD_bd h (d := d.take k) (fun i hi => hd i (List.mem_of_mem_take hi))
  have h2 : (d.take k).length ≤ d.length := by rw [List.length_take]; omega
  omega
set_option maxHeartbeats 2000000 in
theorem rcost13_any (nm : List UInt8) (L : List Sg) (A : Option Addr) (n c : Nat) (d : List Nat) (D : Option Addr) (m e : Nat) (w : World) (hv : (vO nm L).2 = 0) (hl : L.length = n) (hA : SgnIn w A L) (hd : ∀ i ∈ d, i < n) (hm : d.length = m) (hmb : m ≤ 1000) (hD : CellsIn w D (ints (dI d))) :
    Calls Tryz.prog 48 #[.agg #[.string (bs nm), .slice A n c], .slice D m e] w fun r w' => r = .returned (.int .i64 (cD L d)) ∧ Below w.heap.size w w' := by
  obtain ⟨g1, hg1⟩ : ∃ z, z = w.heap.size := ⟨_, rfl⟩
  obtain ⟨W1, hW1⟩ : ∃ z, z = w.alloc (.cells #[.string (bs nm), .slice A n c] 24) := ⟨_, rfl⟩
  have V1 := Lib.hid (show Hp w [obox g1 nm A n c] W1 by rw [hW1, hg1]; exact (Hp.start w).obox_new nm A n c)
  have HW1 := Lib.hid hW1
  have HG1 := Lib.hid hg1
  have HV := Lib.hid hv
  have HL := Lib.hid hl
  have HA := Lib.hid hA
  have HD := Lib.hid hD
  have HDN := Lib.hid hd
  have HM := Lib.hid hm
  have HACC := Lib.hid (cD_acc hv (by rw [hl]; exact hd))
  have hn120 : n ≤ 120 := by have := (vO_zero hv).2.2.1; omega
  clear hW1 hg1 hv hl hA hD hd hm
  go_enter Tryz.func48, Tryz.ntmps48
  go_upto_region 2 with fail
  rw [← HG1.out, ← HW1.out]
  go_wp2_with fail
  go_loopw [5, 6] (fun v i wr => ∃ k : Nat, k ≤ m ∧ i = .int .i64 (k : Int) ∧ v = .int .i64 (cD L (d.take k)) ∧ Hp w [obox g1 nm A n c] wr) (fun _ i _ => m - (intOf i).toNat)
  case atStart => exact ⟨0, Nat.zero_le _, rfl, rfl, V1.out⟩
  case round =>
    obtain ⟨k, hk, rfl, rfl, hV⟩ := hrel
    obtain ⟨wi, rfl⟩ : ∃ wi : World, wi = wr := ⟨_, rfl⟩
    have V3 := Lib.hid hV
    clear hV V1
    obtain ⟨o0, o1, o2⟩ := V3.out.obox_at (i := 0) rfl
    by_cases hlt : k < m
    · obtain ⟨i, hi⟩ := get_at (L := d) (k := k) (by have := HM.out; omega)
      have hin := HDN.out i (List.mem_of_getElem? hi)
      obtain ⟨bD, oD, hDe, hbD, d0⟩ := (HD.out.below V3.out.below).idx hi
      obtain ⟨x, hx⟩ := get_at (L := L) (k := i) (by have := HL.out; omega)
      obtain ⟨b, off, Aj, cj, hAe, hb, c0, c1, c2, c3, c4⟩ := (HA.out.below V3.out.below).at hx
      have HX := Lib.hid (sgAt_is hx)
      obtain ⟨acc, hacc⟩ : ∃ z, z = cD L (d.take k) := ⟨_, rfl⟩
      have HN := Lib.hid (show cD L (d.take (k + 1)) = acc + x.c by rw [cD_take hi, sgAt_is hx, hacc])
      have hab := HACC.out k
      rw [← hacc] at hab
      have hmm : (d.length : Int) ≤ 1000 := by have := HM.out; omega
      have hab2 : 0 ≤ acc ∧ acc ≤ 99000 := by omega
      have hxc : 0 ≤ x.c ∧ x.c ≤ 99 := by have := sgn_bd HV.out (i := i) (by rw [HL.out]; exact hin); rw [sgAt_is hx] at this; omega
      have hwr : IntKind.i64.wrap (acc + x.c) = acc + x.c := IntWalk.i64_in _ (by omega)
      rw [← hacc]
      rw [hAe] at o1
      have HAE := Lib.hid hAe
      have HDE := Lib.hid hDe
      subst hAe
      subst hDe
      have hi4 : i * 4 ≤ 480 := by omega
      clear hi hx hacc hab c0 c1 c3 c4
      go_upto_region 5 with fail
      have hKp : Keep [(⟨g1, 1, none⟩, .slice (some ⟨b, off, none⟩) n c), (⟨bD, oD + k, none⟩, .int .i64 (i : Int)), (⟨b, off + i * 4 + 2, none⟩, .int .i64 x.c)] wi := List.forall_mem_cons.2 ⟨⟨(V3.out.box_at (i := 0) (j := 1) rfl rfl).1, (V3.out.box_at (i := 0) (j := 1) rfl rfl).2.2⟩, List.forall_mem_cons.2 ⟨⟨d0, hbD⟩, List.forall_mem_cons.2 ⟨⟨c2, hb⟩, fun _ h => by simp at h⟩⟩⟩
      refine wp_region_held_drew (S := Keep _) (by kernel_rfl) hKp.drew (fun hHeld => ?_)
      obtain ⟨wf, hwf⟩ : ∃ z, z = wi.drew := ⟨_, rfl⟩
      have Vwf := Lib.hid (show Hp w (obox g1 nm (some ⟨b, off, none⟩) n c :: []) wf by rw [hwf]; exact V3.out.go (bdrew _))
      have Bwf := Lib.hid (show Below wi.heap.size wi wf by rw [hwf]; exact bdrew _)
      rw [← hwf] at hHeld ⊢
      clear hwf hKp
      refine tk 0 ?_ rfl ?_ ?_; rotate_left; focus (intro w hSw; clear hSw; go_simp; try (with_reducible rfl))
      try simp only [Act.put, sA, sZ, sS]
      refine tk 1 ?_ rfl ?_ ?_; rotate_left; focus (intro w hSw; clear hSw; go_simp; try (with_reducible rfl))
      try simp only [Act.put, sA, sZ, sS]
      refine tk 2 ?_ rfl ?_ ?_; rotate_left
      · intro wl hSw
        have hSw : Keep _ wl := hSw
        have k0 := (hSw _ (.head _)).1
        dsimp only at k0
        clear hSw
        go_simp
        try (with_reducible rfl)
      try simp only [Act.put, sA, sZ, sS]
      refine tk 3 ?_ rfl ?_ ?_; rotate_left; focus (intro w hSw; clear hSw; go_simp; try (with_reducible rfl))
      try simp only [Act.put, sA, sZ, sS]
      refine tk 4 ?_ rfl ?_ ?_; rotate_left; focus (intro w hSw; clear hSw; go_simp; try (with_reducible rfl))
      try simp only [Act.put, sA, sZ, sS]
      refine tk 5 ?_ rfl ?_ ?_; rotate_left; focus (intro w hSw; clear hSw; go_simp; try (with_reducible rfl))
      try simp only [Act.put, sA, sZ, sS]
      refine tk 6 ?_ rfl ?_ ?_; rotate_left
      · intro wl hSw
        have hSw : Keep _ wl := hSw
        have k0 := (hSw _ (.tail _ (.head _))).1
        dsimp only at k0
        clear hSw
        go_simp
        try (with_reducible rfl)
      try simp only [Act.put, sA, sZ, sS]
      refine tk 7 ?_ rfl ?_ ?_; rotate_left; focus (intro w hSw; clear hSw; go_simp; try (with_reducible rfl))
      try simp only [Act.put, sA, sZ, sS]
      refine tk 8 ?_ rfl ?_ ?_; rotate_left; focus (intro w hSw; clear hSw; go_simp; try (with_reducible rfl))
      try simp only [Act.put, sA, sZ, sS]
      refine tk 9 ?_ rfl ?_ ?_; rotate_left
      · intro wl hSw
        have hSw : Keep _ wl := hSw
        have k0 := (hSw _ (.tail _ (.tail _ (.head _)))).1
        dsimp only at k0
        clear hSw
        go_simp
        try (with_reducible rfl)
      try simp only [Act.put, sA, sZ, sS]
      refine tk 10 ?_ rfl ?_ ?_; rotate_left; focus (intro w hSw; clear hSw; go_simp; try (with_reducible rfl))
      try simp only [Act.put, sA, sZ, sS]
      refine tk 11 ?_ rfl ?_ ?_; rotate_left; focus (intro w hSw; clear hSw; go_simp; try (with_reducible rfl))
      try simp only [Act.put, sA, sZ, sS]
      refine wpAnyH_done (by kernel_rfl) ?_ _
      clear hHeld
      go_wp2_with fail
      go_roundw
      case rel => exact ⟨k + 1, by omega, by go_num, by rw [HN.out], Vwf.out⟩
      case measure => simp [intOf]; omega
    · obtain rfl : k = m := by omega
      have HE := Lib.hid (show d.take k = d from List.take_of_length_le (by have := HM.out; omega))
      rw [HE.out]
      go_wp2_with fail
      go_ret
      exact ⟨rfl, V3.out.below⟩
end Go.Proofs.YtpifchlpakajjaaGreat
