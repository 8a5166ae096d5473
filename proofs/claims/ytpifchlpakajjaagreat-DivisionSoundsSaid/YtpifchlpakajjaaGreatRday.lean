/- Several texts in one: Jd. -/
import Derived.Test.YtpifchlpakajjaaGreatRdax
namespace Go.Proofs.YtpifchlpakajjaaGreat
open Go.RowKit
set_option linter.unusedVariables false
set_option linter.unusedSimpArgs false
set_option maxRecDepth 100000

theorem CellsIn.num {w : World} {D : Option Addr} {d : List Int} (h : CellsIn w D (ints d)) {k : Nat} {z : Int} (hk : d[k]? = some z) : ∃ b off, D = some ⟨b, off, none⟩ ∧ b < w.heap.size ∧ w.cell? ⟨b, off + k, none⟩ = some (.int .i64 z) := by
  have hkl := (List.getElem?_eq_some_iff.1 hk).1
  obtain ⟨b, off, e, hlt, hc⟩ := h (by rw [ints_len]; omega)
  exact ⟨b, off, e, hlt, hc k _ (by unfold ints; rw [List.getElem?_map, hk]; rfl)⟩
theorem rg_take {n : Nat} {d : List Int} {k : Nat} {z : Int} (h : rgI n (d.take k) = true) (hk : d[k]? = some z) (h1 : 0 ≤ z ∧ z < (n : Int)) : rgI n (d.take (k + 1)) = true := by
  rw [rgI_is] at h ⊢
  rw [take_snocA hk]
  intro i hi
  rcases List.mem_append.1 hi with hi | hi
  · exact h i hi
  · rw [List.mem_singleton.1 hi]; exact h1
def sgsE (n : Nat) (d : List Int) : Int := if rgI n d = true then 0 else 6
theorem rg_bad {n : Nat} {d : List Int} {k : Nat} {z : Int} (hk : d[k]? = some z) (h1 : ¬ (0 ≤ z ∧ z < (n : Int))) : rgI n d = false := by
  rw [Bool.eq_false_iff]
  intro h
  exact h1 (rgI_is.1 h z (List.mem_of_getElem? hk))
set_option maxHeartbeats 2000000 in
theorem rsigns_any (nm : List UInt8) (A : Option Addr) (n c : Nat) (d : List Int) (D : Option Addr) (m e : Nat) (w : World) (hm : d.length = m) (hmb : m ≤ 17592186044416) (hD : CellsIn w D (ints d)) :
    Calls Tryz.prog 53 #[.agg #[.string (bs nm), .slice A n c], .slice D m e] w fun r w' => r = .returned (.int .i64 (sgsE n d)) ∧ Below w.heap.size w w' := by
  obtain ⟨g1, hg1⟩ : ∃ z, z = w.heap.size := ⟨_, rfl⟩
  obtain ⟨W1, hW1⟩ : ∃ z, z = w.alloc (.cells #[.string (bs nm), .slice A n c] 24) := ⟨_, rfl⟩
  have V1 := Lib.hid (show Hp w [obox g1 nm A n c] W1 by rw [hW1, hg1]; exact (Hp.start w).obox_new nm A n c)
  have HW1 := Lib.hid hW1
  have HG1 := Lib.hid hg1
  have HD := Lib.hid hD
  have HM := Lib.hid hm
  clear hW1 hg1 hD hm
  go_enter Tryz.func53, Tryz.ntmps53
  go_upto_region 1 with fail
  rw [← HG1.out, ← HW1.out]
  go_wp2_with fail
  go_loopw [5] (fun i wr => ∃ k : Nat, k ≤ m ∧ i = .int .i64 (k : Int) ∧ rgI n (d.take k) = true ∧ Hp w [obox g1 nm A n c] wr) (fun i _ => m - (intOf i).toNat)
  case atStart => exact ⟨0, Nat.zero_le _, rfl, rfl, V1.out⟩
  case round =>
    obtain ⟨k, hk, rfl, hr, hV⟩ := hrel
    obtain ⟨wi, rfl⟩ : ∃ wi : World, wi = wr := ⟨_, rfl⟩
    have V3 := Lib.hid hV
    have HR := Lib.hid hr
    clear hV hr V1
    by_cases hlt : k < m
    · obtain ⟨z, hz⟩ := get_at (L := d) (k := k) (by have := HM.out; omega)
      obtain ⟨bD, oD, hDe, hbD, d0⟩ := (HD.out.below V3.out.below).num hz
      have HZ := Lib.hid hz
      subst hDe
      clear hz
      go_upto_region 4 with fail
      by_cases hneg : z < 0
      · have e1 : decide (z < 0) = true := decide_eq_true hneg
        have HE := Lib.hid (show sgsE n d = 6 by unfold sgsE; rw [if_neg (by rw [rg_bad (n := n) HZ.out (by omega)]; decide)])
        have hKp : Keep [(⟨bD, oD + k, none⟩, .int .i64 z), (⟨g1, 1, none⟩, .slice A n c)] wi := List.forall_mem_cons.2 ⟨⟨d0, hbD⟩, List.forall_mem_cons.2 ⟨⟨(V3.out.box_at (i := 0) (j := 1) rfl rfl).1, (V3.out.box_at (i := 0) (j := 1) rfl rfl).2.2⟩, fun _ h => by simp at h⟩⟩
        refine wp_region_held_drew (S := Keep _) (by kernel_rfl) hKp.drew (fun hHeld => ?_)
        obtain ⟨wf, hwf⟩ : ∃ z, z = wi.drew := ⟨_, rfl⟩
        have Vwf := Lib.hid (show Hp w (obox g1 nm A n c :: []) wf by rw [hwf]; exact V3.out.go (bdrew _))
        have Bwf := Lib.hid (show Below wi.heap.size wi wf by rw [hwf]; exact bdrew _)
        rw [← hwf] at hHeld ⊢
        clear hwf hKp
        refine tk 0 ?_ rfl ?_ ?_; rotate_left; focus (intro w hSw; clear hSw; go_simp; try (with_reducible rfl))
        try simp only [Act.put, sA, sZ, sS]
        refine tk 1 ?_ rfl ?_ ?_; rotate_left; focus (intro w hSw; clear hSw; go_simp; try (with_reducible rfl))
        try simp only [Act.put, sA, sZ, sS]
        refine tk 2 ?_ rfl ?_ ?_; rotate_left; focus (intro w hSw; clear hSw; go_simp; try (with_reducible rfl))
        try simp only [Act.put, sA, sZ, sS]
        refine tk 3 ?_ rfl ?_ ?_; rotate_left
        · intro wl hSw
          have hSw : Keep _ wl := hSw
          have k0 := (hSw _ (.head _)).1
          dsimp only at k0
          clear hSw
          go_simp
          try (with_reducible rfl)
        try simp only [Act.put, sA, sZ, sS]
        refine tk 4 ?_ rfl ?_ ?_; rotate_left; focus (intro w hSw; clear hSw; go_simp; try (with_reducible rfl))
        try simp only [Act.put, sA, sZ, sS]
        refine tk 5 ?_ rfl ?_ ?_; rotate_left; focus (intro w hSw; clear hSw; go_simp; try (with_reducible rfl))
        try simp only [Act.put, sA, sZ, sS]
        refine tu 6 rfl ?_
        try simp only [Act.put, sA, sZ, sS]
        refine tu 7 rfl ?_
        try simp only [Act.put, sA, sZ, sS]
        refine tu 8 rfl ?_
        try simp only [Act.put, sA, sZ, sS]
        refine tu 9 rfl ?_
        try simp only [Act.put, sA, sZ, sS]
        refine tu 10 rfl ?_
        try simp only [Act.put, sA, sZ, sS]
        refine tu 11 rfl ?_
        try simp only [Act.put, sA, sZ, sS]
        refine tu 12 rfl ?_
        try simp only [Act.put, sA, sZ, sS]
        refine tu 13 rfl ?_
        try simp only [Act.put, sA, sZ, sS]
        refine tk 14 ?_ rfl ?_ ?_; rotate_left; focus (intro w hSw; clear hSw; go_simp; try (with_reducible rfl))
        try simp only [Act.put, sA, sZ, sS]
        refine wpAnyH_done (by kernel_rfl) ?_ _
        clear hHeld
        go_wp2_with fail
        go_ret
        exact ⟨sym_int HE.out, Vwf.out.below⟩
      · have e1 : decide (z < 0) = false := decide_eq_false hneg
        by_cases hbig : (n : Int) ≤ z
        · have e2 : decide ((n : Int) ≤ z) = true := decide_eq_true hbig
          have HE := Lib.hid (show sgsE n d = 6 by unfold sgsE; rw [if_neg (by rw [rg_bad (n := n) HZ.out (by omega)]; decide)])
          have hKp : Keep [(⟨bD, oD + k, none⟩, .int .i64 z), (⟨g1, 1, none⟩, .slice A n c)] wi := List.forall_mem_cons.2 ⟨⟨d0, hbD⟩, List.forall_mem_cons.2 ⟨⟨(V3.out.box_at (i := 0) (j := 1) rfl rfl).1, (V3.out.box_at (i := 0) (j := 1) rfl rfl).2.2⟩, fun _ h => by simp at h⟩⟩
          refine wp_region_held_drew (S := Keep _) (by kernel_rfl) hKp.drew (fun hHeld => ?_)
          obtain ⟨wf, hwf⟩ : ∃ z, z = wi.drew := ⟨_, rfl⟩
          have Vwf := Lib.hid (show Hp w (obox g1 nm A n c :: []) wf by rw [hwf]; exact V3.out.go (bdrew _))
          have Bwf := Lib.hid (show Below wi.heap.size wi wf by rw [hwf]; exact bdrew _)
          rw [← hwf] at hHeld ⊢
          clear hwf hKp
          refine tk 0 ?_ rfl ?_ ?_; rotate_left; focus (intro w hSw; clear hSw; go_simp; try (with_reducible rfl))
          try simp only [Act.put, sA, sZ, sS]
          refine tk 1 ?_ rfl ?_ ?_; rotate_left; focus (intro w hSw; clear hSw; go_simp; try (with_reducible rfl))
          try simp only [Act.put, sA, sZ, sS]
          refine tk 2 ?_ rfl ?_ ?_; rotate_left; focus (intro w hSw; clear hSw; go_simp; try (with_reducible rfl))
          try simp only [Act.put, sA, sZ, sS]
          refine tk 3 ?_ rfl ?_ ?_; rotate_left
          · intro wl hSw
            have hSw : Keep _ wl := hSw
            have k0 := (hSw _ (.head _)).1
            dsimp only at k0
            clear hSw
            go_simp
            try (with_reducible rfl)
          try simp only [Act.put, sA, sZ, sS]
          refine tk 4 ?_ rfl ?_ ?_; rotate_left; focus (intro w hSw; clear hSw; go_simp; try (with_reducible rfl))
          try simp only [Act.put, sA, sZ, sS]
          refine tk 5 ?_ rfl ?_ ?_; rotate_left; focus (intro w hSw; clear hSw; go_simp; try (with_reducible rfl))
          try simp only [Act.put, sA, sZ, sS]
          refine tk 6 ?_ rfl ?_ ?_; rotate_left; focus (intro w hSw; clear hSw; go_simp; try (with_reducible rfl))
          try simp only [Act.put, sA, sZ, sS]
          refine tk 7 ?_ rfl ?_ ?_; rotate_left; focus (intro w hSw; clear hSw; go_simp; try (with_reducible rfl))
          try simp only [Act.put, sA, sZ, sS]
          refine tk 8 ?_ rfl ?_ ?_; rotate_left; focus (intro w hSw; clear hSw; go_simp; try (with_reducible rfl))
          try simp only [Act.put, sA, sZ, sS]
          refine tk 9 ?_ rfl ?_ ?_; rotate_left
          · intro wl hSw
            have hSw : Keep _ wl := hSw
            have k0 := (hSw _ (.head _)).1
            dsimp only at k0
            clear hSw
            go_simp
            try (with_reducible rfl)
          try simp only [Act.put, sA, sZ, sS]
          refine tk 10 ?_ rfl ?_ ?_; rotate_left; focus (intro w hSw; clear hSw; go_simp; try (with_reducible rfl))
          try simp only [Act.put, sA, sZ, sS]
          refine tk 11 ?_ rfl ?_ ?_; rotate_left
          · intro wl hSw
            have hSw : Keep _ wl := hSw
            have k0 := (hSw _ (.tail _ (.head _))).1
            dsimp only at k0
            clear hSw
            go_simp
            try (with_reducible rfl)
          try simp only [Act.put, sA, sZ, sS]
          refine tk 12 ?_ rfl ?_ ?_; rotate_left; focus (intro w hSw; clear hSw; go_simp; try (with_reducible rfl))
          try simp only [Act.put, sA, sZ, sS]
          refine tk 13 ?_ rfl ?_ ?_; rotate_left; focus (intro w hSw; clear hSw; go_simp; try (with_reducible rfl))
          try simp only [Act.put, sA, sZ, sS]
          refine tk 14 ?_ rfl ?_ ?_; rotate_left; focus (intro w hSw; clear hSw; go_simp; try (with_reducible rfl))
          try simp only [Act.put, sA, sZ, sS]
          refine wpAnyH_done (by kernel_rfl) ?_ _
          clear hHeld
          go_wp2_with fail
          go_ret
          exact ⟨sym_int HE.out, Vwf.out.below⟩
        · have e2 : decide ((n : Int) ≤ z) = false := decide_eq_false hbig
          have HN := Lib.hid (rg_take HR.out HZ.out ⟨by omega, by omega⟩)
          have hKp : Keep [(⟨bD, oD + k, none⟩, .int .i64 z), (⟨g1, 1, none⟩, .slice A n c)] wi := List.forall_mem_cons.2 ⟨⟨d0, hbD⟩, List.forall_mem_cons.2 ⟨⟨(V3.out.box_at (i := 0) (j := 1) rfl rfl).1, (V3.out.box_at (i := 0) (j := 1) rfl rfl).2.2⟩, fun _ h => by simp at h⟩⟩
          refine wp_region_held_drew (S := Keep _) (by kernel_rfl) hKp.drew (fun hHeld => ?_)
          obtain ⟨wf, hwf⟩ : ∃ z, z = wi.drew := ⟨_, rfl⟩
          have Vwf := Lib.hid (show Hp w (obox g1 nm A n c :: []) wf by rw [hwf]; exact V3.out.go (bdrew _))
          have Bwf := Lib.hid (show Below wi.heap.size wi wf by rw [hwf]; exact bdrew _)
          rw [← hwf] at hHeld ⊢
          clear hwf hKp
          refine tk 0 ?_ rfl ?_ ?_; rotate_left; focus (intro w hSw; clear hSw; go_simp; try (with_reducible rfl))
          try simp only [Act.put, sA, sZ, sS]
          refine tk 1 ?_ rfl ?_ ?_; rotate_left; focus (intro w hSw; clear hSw; go_simp; try (with_reducible rfl))
          try simp only [Act.put, sA, sZ, sS]
          refine tk 2 ?_ rfl ?_ ?_; rotate_left; focus (intro w hSw; clear hSw; go_simp; try (with_reducible rfl))
          try simp only [Act.put, sA, sZ, sS]
          refine tk 3 ?_ rfl ?_ ?_; rotate_left
          · intro wl hSw
            have hSw : Keep _ wl := hSw
            have k0 := (hSw _ (.head _)).1
            dsimp only at k0
            clear hSw
            go_simp
            try (with_reducible rfl)
          try simp only [Act.put, sA, sZ, sS]
          refine tk 4 ?_ rfl ?_ ?_; rotate_left; focus (intro w hSw; clear hSw; go_simp; try (with_reducible rfl))
          try simp only [Act.put, sA, sZ, sS]
          refine tk 5 ?_ rfl ?_ ?_; rotate_left; focus (intro w hSw; clear hSw; go_simp; try (with_reducible rfl))
          try simp only [Act.put, sA, sZ, sS]
          refine tk 6 ?_ rfl ?_ ?_; rotate_left; focus (intro w hSw; clear hSw; go_simp; try (with_reducible rfl))
          try simp only [Act.put, sA, sZ, sS]
          refine tk 7 ?_ rfl ?_ ?_; rotate_left; focus (intro w hSw; clear hSw; go_simp; try (with_reducible rfl))
          try simp only [Act.put, sA, sZ, sS]
          refine tk 8 ?_ rfl ?_ ?_; rotate_left; focus (intro w hSw; clear hSw; go_simp; try (with_reducible rfl))
          try simp only [Act.put, sA, sZ, sS]
          refine tk 9 ?_ rfl ?_ ?_; rotate_left
          · intro wl hSw
            have hSw : Keep _ wl := hSw
            have k0 := (hSw _ (.head _)).1
            dsimp only at k0
            clear hSw
            go_simp
            try (with_reducible rfl)
          try simp only [Act.put, sA, sZ, sS]
          refine tk 10 ?_ rfl ?_ ?_; rotate_left; focus (intro w hSw; clear hSw; go_simp; try (with_reducible rfl))
          try simp only [Act.put, sA, sZ, sS]
          refine tk 11 ?_ rfl ?_ ?_; rotate_left
          · intro wl hSw
            have hSw : Keep _ wl := hSw
            have k0 := (hSw _ (.tail _ (.head _))).1
            dsimp only at k0
            clear hSw
            go_simp
            try (with_reducible rfl)
          try simp only [Act.put, sA, sZ, sS]
          refine tk 12 ?_ rfl ?_ ?_; rotate_left; focus (intro w hSw; clear hSw; go_simp; try (with_reducible rfl))
          try simp only [Act.put, sA, sZ, sS]
          refine tk 13 ?_ rfl ?_ ?_; rotate_left; focus (intro w hSw; clear hSw; go_simp; try (with_reducible rfl))
          try simp only [Act.put, sA, sZ, sS]
          refine tk 14 ?_ rfl ?_ ?_; rotate_left; focus (intro w hSw; clear hSw; go_simp; try (with_reducible rfl))
          try simp only [Act.put, sA, sZ, sS]
          refine wpAnyH_done (by kernel_rfl) ?_ _
          clear hHeld
          go_wp2_with fail
          go_roundw
          case rel => exact ⟨k + 1, by omega, by go_num, HN.out, Vwf.out⟩
          case measure => simp [intOf]; omega
    · obtain rfl : k = m := by omega
      have HE := Lib.hid (show sgsE n d = 0 by have := HR.out; rw [List.take_of_length_le (by have := HM.out; omega)] at this; unfold sgsE; rw [if_pos this])
      go_wp2_with fail
      go_ret
      exact ⟨sym_int HE.out, V3.out.below⟩
set_option maxHeartbeats 2000000 in
theorem rlist13_any (nm : List UInt8) (L : List Sg) (A : Option Addr) (n c : Nat) (d : List Int) (D : Option Addr) (m e : Nat) (w : World) (hnm : nm.length ≤ 140737488355328) (hl : L.length = n) (hn : n ≤ 17592186044416) (hs : SgBd L) (hA : SgnIn w A L) (hm : d.length = m) (hmb : m ≤ 17592186044416) (hD : CellsIn w D (ints d)) :
    Calls Tryz.prog 59 #[.agg #[.string (bs nm), .slice A n c], .slice D m e] w fun r w' => r = .returned (.int .i64 (lsE nm L d)) ∧ Below w.heap.size w w' := by
  obtain ⟨g1, hg1⟩ : ∃ z, z = w.heap.size := ⟨_, rfl⟩
  obtain ⟨W1, hW1⟩ : ∃ z, z = w.alloc (.cells #[.string (bs nm), .slice A n c] 24) := ⟨_, rfl⟩
  have V1 := Lib.hid (show Hp w [obox g1 nm A n c] W1 by rw [hW1, hg1]; exact (Hp.start w).obox_new nm A n c)
  have HW1 := Lib.hid hW1
  have HG1 := Lib.hid hg1
  have HV := Lib.hid (rovalid_any nm L A n c W1 hnm hl hn hs (hA.below V1.out.below))
  have HS := Lib.hid (fun (w' : World) (h : Below w.heap.size w w') => rsigns_any nm A n c d D m e w' hm hmb (hD.below h))
  have HM := Lib.hid hm
  have HL := Lib.hid hl
  obtain ⟨z0, z1, z2⟩ := V1.out.obox_at (i := 0) rfl
  clear hW1 hg1 hA hs hl hnm hm hD
  go_enter Tryz.func59, Tryz.ntmps59
  go_upto_region 1 with fail
  rw [← HG1.out, ← HW1.out]
  go_wp2_with fail
  refine HV.out.mono ?_
  rintro r w2 ⟨rfl, hb⟩
  have V2 := Lib.hid (V1.out.go hb)
  clear hb z0 z1 z2
  by_cases hv : (vO nm L).2 = 0
  · rw [hv]
    by_cases h16 : 16 < m
    · have HE := Lib.hid (show lsE nm L d = 3 by unfold lsE; rw [if_neg (by simp [hv]), if_pos (by rw [HM.out]; exact h16)])
      clear hv
      go_wp2_with fail
      go_ret
      exact ⟨sym_int HE.out, V2.out.below⟩
    · have HE := Lib.hid (show lsE nm L d = sgsE n d by unfold lsE sgsE; rw [if_neg (by simp [hv]), if_neg (by rw [HM.out]; exact h16), HL.out])
      clear hv
      obtain ⟨z0, z1, z2⟩ := V2.out.obox_at (i := 0) rfl
      go_wp2_with fail
      refine (HS.out _ V2.out.below).mono ?_
      rintro r w3 ⟨rfl, hb⟩
      rw [← HE.out]
      have V3 := Lib.hid (V2.out.go hb)
      clear hb
      go_wp2_with fail
      go_ret
      exact ⟨rfl, V3.out.below⟩
  · have HE := Lib.hid (show lsE nm L d = (vO nm L).2 by unfold lsE; rw [if_pos hv])
    obtain ⟨v, hvv⟩ : ∃ v, v = (vO nm L).2 := ⟨_, rfl⟩
    rw [← hvv] at hv HE ⊢
    have e1 : (v != 0) = true := bne_yes hv
    clear hv hvv
    go_wp2_with fail
    go_ret
    exact ⟨sym_int HE.out, V2.out.below⟩
set_option maxHeartbeats 2000000 in
theorem rjoin13_any (nm : List UInt8) (L : List Sg) (A : Option Addr) (n c : Nat) (d : List Nat) (D : Option Addr) (m e : Nat) (w : World) (hv : (vO nm L).2 = 0) (hl : L.length = n) (hA : SgnIn w A L) (hd : ∀ i ∈ d, i < n) (hm : d.length = m) (hmb : m ≤ 1000) (hD : CellsIn w D (ints (dI d))) :
    Calls Tryz.prog 54 #[.agg #[.string (bs nm), .slice A n c], .slice D m e] w fun r w' => r = .returned (.string (bs (tD L d))) ∧ Below w.heap.size w w' := by
  obtain ⟨g1, hg1⟩ : ∃ z, z = w.heap.size := ⟨_, rfl⟩
  obtain ⟨W1, hW1⟩ : ∃ z, z = w.alloc (.cells #[.string (bs nm), .slice A n c] 24) := ⟨_, rfl⟩
  have V1 := Lib.hid (show Hp w [obox g1 nm A n c] W1 by rw [hW1, hg1]; exact (Hp.start w).obox_new nm A n c)
  have HW1 := Lib.hid hW1
  have HG1 := Lib.hid hg1
  have HV := Lib.hid hv
  have HL := Lib.hid hl
  have HA := Lib.hid hA
  have HD := Lib.hid hD
  have HDN := Lib.hid hd
  have HM := Lib.hid hm
  have hn120 : n ≤ 120 := by have := (vO_zero hv).2.2.1; omega
  clear hW1 hg1 hv hl hA hD hd hm
  go_enter Tryz.func54, Tryz.ntmps54
  go_upto_region 2 with fail
  rw [← HG1.out, ← HW1.out]
  go_wp2_with fail
  go_loopw [5, 6] (fun v i wr => ∃ k : Nat, k ≤ m ∧ i = .int .i64 (k : Int) ∧ v = .string (bs (tD L (d.take k))) ∧ Hp w [obox g1 nm A n c] wr) (fun _ i _ => m - (intOf i).toNat)
  case atStart => exact ⟨0, Nat.zero_le _, rfl, rfl, V1.out⟩
  case round =>
    obtain ⟨k, hk, rfl, rfl, hV⟩ := hrel
    obtain ⟨wi, rfl⟩ : ∃ wi : World, wi = wr := ⟨_, rfl⟩
    have V3 := Lib.hid hV
    clear hV V1
    obtain ⟨o0, o1, o2⟩ := V3.out.obox_at (i := 0) rfl
    by_cases hlt : k < m
    · obtain ⟨i, hi⟩ := get_at (L := d) (k := k) (by have := HM.out; omega)
      have hin := HDN.out i (List.mem_of_getElem? hi)
      obtain ⟨bD, oD, hDe, hbD, d0⟩ := (HD.out.below V3.out.below).idx hi
      obtain ⟨x, hx⟩ := get_at (L := L) (k := i) (by have := HL.out; omega)
      obtain ⟨b, off, Aj, cj, hAe, hb, c0, c1, c2, c3, c4⟩ := (HA.out.below V3.out.below).at hx
      have hxc : x.t.length ≤ 4 := by have := sgn_bd HV.out (i := i) (by rw [HL.out]; exact hin); rw [sgAt_is hx] at this; omega
      have htl : (tD L (d.take k)).length ≤ 4000 := by
        have h1 := (tD_len_le HV.out (d := d.take k) (fun j hj => by rw [HL.out]; exact HDN.out j (List.mem_of_mem_take hj))).1
        have h2 : (d.take k).length ≤ m := by rw [List.length_take]; omega
        omega
      obtain ⟨u1, hu1⟩ : ∃ z, z = bs (tD L (d.take k)) ++ bs x.t := ⟨_, rfl⟩
      have s1 : ∀ w : World, (Op.stringOp .add (bs (tD L (d.take k))) (bs x.t)).run Tryz.prog w = .ok (.string u1) w := by rw [hu1]; exact add_run _ _ (by rw [bs_size, bs_size]; omega)
      have HN := Lib.hid (show u1 = bs (tD L (d.take (k + 1))) from bs_of (by rw [hu1, cat_any, bs_list, bs_list, take_snocA hi, tD_snoc, sgAt_is hx]))
      rw [hAe] at o1
      have HAE := Lib.hid hAe
      have HDE := Lib.hid hDe
      subst hAe
      subst hDe
      have hi4 : i * 4 ≤ 480 := by omega
      clear hi hx c1 c2 c3 c4 hu1 htl hxc
      go_upto_region 5 with fail
      have hKp : Keep [(⟨g1, 1, none⟩, .slice (some ⟨b, off, none⟩) n c), (⟨bD, oD + k, none⟩, .int .i64 (i : Int)), (⟨b, off + i * 4, none⟩, .string (bs x.t))] wi := List.forall_mem_cons.2 ⟨⟨(V3.out.box_at (i := 0) (j := 1) rfl rfl).1, (V3.out.box_at (i := 0) (j := 1) rfl rfl).2.2⟩, List.forall_mem_cons.2 ⟨⟨d0, hbD⟩, List.forall_mem_cons.2 ⟨⟨c0, hb⟩, fun _ h => by simp at h⟩⟩⟩
      refine wp_region_held_drew (S := Keep _) (by kernel_rfl) hKp.drew (fun hHeld => ?_)
      obtain ⟨wf, hwf⟩ : ∃ z, z = wi.drew := ⟨_, rfl⟩
      have Vwf := Lib.hid (show Hp w (obox g1 nm (some ⟨b, off, none⟩) n c :: []) wf by rw [hwf]; exact V3.out.go (bdrew _))
      have Bwf := Lib.hid (show Below wi.heap.size wi wf by rw [hwf]; exact bdrew _)
      rw [← hwf] at hHeld ⊢
      clear hwf hKp
      refine tk 0 ?_ rfl ?_ ?_; rotate_left; focus (intro w hSw; clear hSw; go_simp; try (with_reducible rfl))
      try simp only [Act.put, sA, sZ, sS]
      refine tk 1 ?_ rfl ?_ ?_; rotate_left; focus (intro w hSw; clear hSw; go_simp; try (with_reducible rfl))
      try simp only [Act.put, sA, sZ, sS]
      refine tk 2 ?_ rfl ?_ ?_; rotate_left
      · intro wl hSw
        have hSw : Keep _ wl := hSw
        have k0 := (hSw _ (.head _)).1
        dsimp only at k0
        clear hSw
        go_simp
        try (with_reducible rfl)
      try simp only [Act.put, sA, sZ, sS]
      refine tk 3 ?_ rfl ?_ ?_; rotate_left; focus (intro w hSw; clear hSw; go_simp; try (with_reducible rfl))
      try simp only [Act.put, sA, sZ, sS]
      refine tk 4 ?_ rfl ?_ ?_; rotate_left; focus (intro w hSw; clear hSw; go_simp; try (with_reducible rfl))
      try simp only [Act.put, sA, sZ, sS]
      refine tk 5 ?_ rfl ?_ ?_; rotate_left; focus (intro w hSw; clear hSw; go_simp; try (with_reducible rfl))
      try simp only [Act.put, sA, sZ, sS]
      refine tk 6 ?_ rfl ?_ ?_; rotate_left
      · intro wl hSw
        have hSw : Keep _ wl := hSw
        have k0 := (hSw _ (.tail _ (.head _))).1
        dsimp only at k0
        clear hSw
        go_simp
        try (with_reducible rfl)
      try simp only [Act.put, sA, sZ, sS]
      refine tk 7 ?_ rfl ?_ ?_; rotate_left; focus (intro w hSw; clear hSw; go_simp; try (with_reducible rfl))
      try simp only [Act.put, sA, sZ, sS]
      refine tk 8 ?_ rfl ?_ ?_; rotate_left; focus (intro w hSw; clear hSw; go_simp; try (with_reducible rfl))
      try simp only [Act.put, sA, sZ, sS]
      refine tk 9 ?_ rfl ?_ ?_; rotate_left
      · intro wl hSw
        have hSw : Keep _ wl := hSw
        have k0 := (hSw _ (.tail _ (.tail _ (.head _)))).1
        dsimp only at k0
        clear hSw
        go_simp
        try (with_reducible rfl)
      try simp only [Act.put, sA, sZ, sS]
      refine tk 10 ?_ rfl ?_ ?_; rotate_left; focus (intro w hSw; clear hSw; go_simp; try (with_reducible rfl))
      try simp only [Act.put, sA, sZ, sS]
      refine tk 11 ?_ rfl ?_ ?_; rotate_left; focus (intro w hSw; clear hSw; go_simp; try (with_reducible rfl))
      try simp only [Act.put, sA, sZ, sS]
      refine wpAnyH_done (by kernel_rfl) ?_ _
      clear hHeld
      go_wp2_with fail
      go_roundw
      case rel => exact ⟨k + 1, by omega, by go_num, by rw [HN.out], Vwf.out⟩
      case measure => simp [intOf]; omega
    · obtain rfl : k = m := by omega
      have HE := Lib.hid (show d.take k = d from List.take_of_length_le (by have := HM.out; omega))
      rw [HE.out]
      go_wp2_with fail
      go_ret
      exact ⟨rfl, V3.out.below⟩
end Go.Proofs.YtpifchlpakajjaaGreat
