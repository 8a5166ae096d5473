/- Contracts: Text and Format of the reference. -/
import Derived.Test.YtghjglcckpdbcaaGreatDoorUe
import Derived.Test.YtghjglcckpdbcaaGreatDoorUr
namespace Go.Proofs.YtghjglcckpdbcaaGreatDoor
open Go.RowKit
set_option linter.unusedVariables false
set_option linter.unusedSimpArgs false
set_option maxRecDepth 100000

theorem letters_any (w : World) : Calls Tryz.prog 63 #[] w fun e w' => e = .returned (.string (⟨#[32, 118, 100, 109, 108, 110, 115, 120, 103, 98]⟩ : ByteArray)) ∧ w = w' := by
  go_enter Tryz.func63, Tryz.ntmps63
  go_wp2
  go_ret
  exact ⟨rfl, rfl⟩
theorem ltr_ext {k : Int} (h : 1 ≤ k ∧ k ≤ 9) : ((⟨#[32, 118, 100, 109, 108, 110, 115, 120, 103, 98]⟩ : ByteArray).extract k.toNat (k + 1).toNat).data.toList = [ltrK k] := by
  rcases kinds h with rfl | rfl | rfl | rfl | rfl | rfl | rfl | rfl | rfl <;> decide
theorem dig_ext {q : Int} (h : 1 ≤ q ∧ q ≤ 3) : ((⟨#[48, 49, 50, 51]⟩ : ByteArray).extract q.toNat (q + 1).toNat).data.toList = [(48 + q).toNat.toUInt8] := by
  rcases qs h with rfl | rfl | rfl <;> decide
theorem txL_none : txL [] = [] := rfl
theorem tx_end {L : List Snd} {k : Nat} {x : Snd} {u o2 q : List UInt8} (hx : L[k]? = some x) (hu : u = o2 ++ (x.t ++ [47, ltrK x.k])) (h2 : o2 = if k = 0 then [] else txL (L.take k) ++ [32]) (hq : q = if nuc x then [(48 + x.q).toNat.toUInt8] else []) : u ++ q = txL (L.take (k + 1)) := by
  by_cases h0 : k = 0
  · subst h0
    rw [if_pos rfl] at h2
    rw [txL_first hx, hu, h2, hq]
    unfold tx1
    simp
  · rw [if_neg h0] at h2
    rw [txL_take hx (by omega), hu, h2, hq]
    unfold tx1
    simp
theorem txL_size {L : List Snd} (h1 : ∀ x ∈ L, vS x = 0) (k : Nat) : (txL (L.take k)).length ≤ k * 12 := by
  have h := txL_len (L := L.take k) (fun x hx => h1 x (List.mem_of_mem_take hx))
  have h2 : (L.take k).length ≤ k := by rw [List.length_take]; omega
  have := Nat.mul_le_mul_right 12 h2
  omega
set_option maxHeartbeats 8000000 in
theorem text_any (L : List Snd) (n c : Nat) (A : Option Addr) (w : World) (hl : L.length = n) (hn : n ≤ 1000000) (hv : ∀ x ∈ L, vS x = 0) (hA : CellsIn w A (sndsC L)) :
    Calls Tryz.prog 42 #[.slice A n c] w fun e w' => e = .returned (.string (bs (txL L))) ∧ Below w.heap.size w w' := by
  have HL := Lib.hid hl
  have HA := Lib.hid hA
  have HVA := Lib.hid hv
  clear hl hA hv
  go_enter Tryz.func42, Tryz.ntmps42
  go_wp2
  go_loopw [3, 4] (fun v i wr => ∃ (k : Nat) (o : ByteArray), k ≤ n ∧ i = .int .i64 k ∧ v = .string o ∧ o.data.toList = txL (L.take k) ∧ Below w.heap.size w wr) (fun _ i _ => n - (intOf i).toNat)
  case atStart => exact ⟨0, ⟨#[]⟩, Nat.zero_le _, rfl, rfl, rfl, Below.refl _ _⟩
  case round =>
    obtain ⟨k, o, hk, rfl, rfl, ho, hbr⟩ := hrel
    have HO := Lib.hid ho
    have HB := Lib.hid hbr
    by_cases hlt : k < n
    · obtain ⟨x, hx⟩ := idx_lt HL.out hlt
      obtain ⟨b, off, rfl, hb, c0, c1, c2⟩ := (HA.out.below hbr).snd hx
      have hxv := HVA.out x (List.mem_of_getElem? hx)
      obtain ⟨hk9, hqk, ht0, ht8, _⟩ := vS_zero hxv
      have HX := Lib.hid hx
      have HQ := Lib.hid hqk
      have hos : o.size ≤ k * 12 := by rw [← sizeB, ho]; exact txL_size HVA.out k
      have hz : (bs x.t).size = x.t.length := rfl
      have hk1 : 1 ≤ x.k := hk9.1
      have hk2 : x.k ≤ 9 := hk9.2
      have hw1 : IntKind.i64.wrap (x.k + 1) = x.k + 1 := IntWalk.i64_in _ (by omega)
      have hw2 : (0 : Int) ≤ x.k := by omega
      have hw3 : x.k ≤ x.k + 1 := by omega
      have hw4 : x.k + 1 ≤ 10 := by omega
      have hw5 : (0 : Int) ≤ x.k + 1 := by omega
      obtain ⟨ex, hex⟩ : ∃ ex, ex = (⟨#[32, 118, 100, 109, 108, 110, 115, 120, 103, 98]⟩ : ByteArray).extract x.k.toNat (x.k + 1).toNat := ⟨_, rfl⟩
      have hexl : ex.data.toList = [ltrK x.k] := by rw [hex]; exact ltr_ext hk9
      have hexs : ex.size = 1 := by rw [← sizeB, hexl]; rfl
      have HEX := Lib.hid hex
      have HEXL := Lib.hid hexl
      clear hx hxv hqk ho hk9 hbr hex hexl
      by_cases hk0 : k = 0
      · have hk00 : (k : Int) ≤ 0 := by omega
        have HK0 := Lib.hid hk0
        clear hk0
        have s1 := add_run o (bs x.t) (by (try simp only [ByteArray.size_append]); (try simp only [show (⟨#[32]⟩ : ByteArray).size = 1 from rfl, show (⟨#[47]⟩ : ByteArray).size = 1 from rfl]); omega)
        have s2 := add_run (o ++ bs x.t) (⟨#[47]⟩ : ByteArray) (by (try simp only [ByteArray.size_append]); (try simp only [show (⟨#[32]⟩ : ByteArray).size = 1 from rfl, show (⟨#[47]⟩ : ByteArray).size = 1 from rfl]); omega)
        have s3 := add_run ((o ++ bs x.t) ++ (⟨#[47]⟩ : ByteArray)) ex (by (try simp only [ByteArray.size_append]); (try simp only [show (⟨#[32]⟩ : ByteArray).size = 1 from rfl, show (⟨#[47]⟩ : ByteArray).size = 1 from rfl]); omega)
        obtain ⟨u, hu⟩ : ∃ u, u = ((o ++ bs x.t) ++ (⟨#[47]⟩ : ByteArray)) ++ ex := ⟨_, rfl⟩
        have HU := Lib.hid hu
        have hus : u.size ≤ k * 12 + 12 := by rw [hu]; simp only [ByteArray.size_append]; (try simp only [show (⟨#[32]⟩ : ByteArray).size = 1 from rfl, show (⟨#[47]⟩ : ByteArray).size = 1 from rfl]); omega
        have hul : u.data.toList = o.data.toList ++ (x.t ++ [47, ltrK x.k]) := by
          rw [hu]
          simp only [cat_any, bs_list, HEXL.out]
          simp
        have HUL := Lib.hid hul
        clear hu hul
        go_upto_region 8 with fail
        have hKp : Keep [(⟨b, off + k * 3, none⟩, .int .i64 x.k), (⟨b, off + k * 3 + 1, none⟩, .int .i64 x.q), (⟨b, off + k * 3 + 2, none⟩, .string (bs x.t))] wr := List.forall_mem_cons.2 ⟨⟨c0, hb⟩, List.forall_mem_cons.2 ⟨⟨c1, hb⟩, List.forall_mem_cons.2 ⟨⟨c2, hb⟩, fun _ h => by simp at h⟩⟩⟩
        refine wp_region_held_drew (S := Keep _) (by kernel_rfl) hKp.drew (fun hHeld => ?_)
        refine tk 0 ?_ rfl ?_ ?_; rotate_left; focus (intro w hSw; clear hSw; go_simp; try (with_reducible rfl))
        try simp only [Act.put, sA, sZ, sS]
        refine tk 1 ?_ rfl ?_ ?_; rotate_left; focus (intro w hSw; clear hSw; go_simp; try (with_reducible rfl))
        try simp only [Act.put, sA, sZ, sS]
        refine tk 2 ?_ rfl ?_ ?_; rotate_left; focus (intro w hSw; clear hSw; go_simp; try (with_reducible rfl))
        try simp only [Act.put, sA, sZ, sS]
        refine tk 3 ?_ rfl ?_ ?_; rotate_left; focus (intro w hSw; clear hSw; go_simp; try (with_reducible rfl))
        try simp only [Act.put, sA, sZ, sS]
        refine tk 4 ?_ rfl ?_ ?_; rotate_left; focus (intro w hSw; clear hSw; go_simp; try (with_reducible rfl))
        try simp only [Act.put, sA, sZ, sS]
        refine tk 5 ?_ rfl ?_ ?_; rotate_left
        · intro wl hSw
          have hSw : Keep _ wl := hSw
          have k0 := (hSw _ (.tail _ (.tail _ (.head _)))).1
          dsimp only at k0
          clear hSw
          go_simp
          try (with_reducible rfl)
        try simp only [Act.put, sA, sZ, sS]
        refine tk 6 ?_ rfl ?_ ?_; rotate_left; focus (intro w hSw; clear hSw; go_simp; try (with_reducible rfl))
        try simp only [Act.put, sA, sZ, sS]
        refine tk 7 ?_ rfl ?_ ?_; rotate_left; focus (intro w hSw; clear hSw; go_simp; try (with_reducible rfl))
        try simp only [Act.put, sA, sZ, sS]
        refine tk 9 ?_ rfl ?_ ?_; rotate_left; focus (intro w hSw; clear hSw; go_simp; try (with_reducible rfl))
        try simp only [Act.put, sA, sZ, sS]
        refine tk 10 ?_ rfl ?_ ?_; rotate_left; focus (intro w hSw; clear hSw; go_simp; try (with_reducible rfl))
        try simp only [Act.put, sA, sZ, sS]
        refine tk 11 ?_ rfl ?_ ?_; rotate_left; focus (intro w hSw; clear hSw; go_simp; try (with_reducible rfl))
        try simp only [Act.put, sA, sZ, sS]
        refine wpAnyH_ready (rs := [8]) (by kernel_rfl) (by simp) ?_
        refine AllReadyH.cons (List.getElem?_toArray.trans rfl) (fun K hK => ?_) AllReadyH.nil
        go_simp
        refine (letters_any _).mono ?_
        rintro e w1 ⟨rfl, hw1'⟩
        have hb1 : Below wr.drew.heap.size wr.drew w1 := by rw [← hw1']; exact Below.refl _ _
        have B1 := Lib.hid (btwo (btwo HB.out (bdrew _)) hb1)
        clear hw1'
        try go_wp2_with fail
        refine hK.out _ _ (hHeld.go hb1) (fun hHeld => ?_)
        clear hK K
        try simp only [Act.put, sA, sZ, sS]
        refine tk 12 ?_ rfl ?_ ?_; rotate_left
        · intro w hSw; clear hSw; go_simp; try (rw [← HEX.out])
        try simp only [Act.put, sA, sZ, sS]
        try rw [← HEX.out]
        refine tk 13 ?_ rfl ?_ ?_; rotate_left; focus (intro w hSw; clear hSw; go_simp; try (with_reducible rfl))
        try simp only [Act.put, sA, sZ, sS]
        try rw [← HU.out]
        refine tk 14 ?_ rfl ?_ ?_; rotate_left; focus (intro w hSw; clear hSw; go_simp; try (with_reducible rfl))
        try simp only [Act.put, sA, sZ, sS]
        refine wpAnyH_done (by kernel_rfl) ?_ _
        have HHD := Lib.hid hHeld
        clear hHeld hKp hb1
        obtain ⟨f0, hbf⟩ := HHD.out _ (.head _)
        obtain ⟨f1, _⟩ := HHD.out _ (.tail _ (.head _))
        obtain ⟨f2, _⟩ := HHD.out _ (.tail _ (.tail _ (.head _)))
        dsimp only at f0 f1 f2 hbf
        clear c0 c1 c2
        have hb1' : b < w1.heap.size := hbf
        cases hnu : nuc x with
        | false =>
          have HNU := Lib.hid hnu
          have HN := Lib.hid (show u.data.toList = txL (L.take (k + 1)) by have := tx_end (q := []) (o2 := o.data.toList) HX.out HUL.out (by rw [if_pos HK0.out, HO.out, HK0.out]; rfl) (by rw [if_neg (by simp [hnu])]); rwa [List.append_nil] at this)
          clear hnu
          go_wp2_with fail
          refine (rnucleus_any x _).mono ?_
          rintro e w2 ⟨rfl, hb2⟩
          rw [HNU.out]
          have B2 := Lib.hid (btwo B1.out hb2)
          obtain ⟨r0, r1, r2⟩ : w2.cell? ⟨b, off + k * 3, none⟩ = some (.int .i64 x.k) ∧ w2.cell? ⟨b, off + k * 3 + 1, none⟩ = some (.int .i64 x.q) ∧ w2.cell? ⟨b, off + k * 3 + 2, none⟩ = some (.string (bs x.t)) := ⟨(hb2.cell (p := ⟨b, _, none⟩) hbf).trans f0, (hb2.cell (p := ⟨b, _, none⟩) hbf).trans f1, (hb2.cell (p := ⟨b, _, none⟩) hbf).trans f2⟩
          have hbf2 : b < w2.heap.size := Nat.lt_of_lt_of_le hbf hb2.size
          clear hb2 f0 f1 f2
          go_wp2_with fail
          go_roundw
          case rel => exact ⟨k + 1, u, by omega, by go_num, rfl, HN.out, B2.out⟩
          case measure => simp [intOf]; omega
        | true =>
          have HNU := Lib.hid hnu
          have hq := qOk_nuc HQ.out hnu
          obtain ⟨eq, heq⟩ : ∃ eq, eq = (⟨#[48, 49, 50, 51]⟩ : ByteArray).extract x.q.toNat (x.q + 1).toNat := ⟨_, rfl⟩
          have heql : eq.data.toList = [(48 + x.q).toNat.toUInt8] := by rw [heq]; exact dig_ext hq
          have heqs : eq.size = 1 := by rw [← sizeB, heql]; rfl
          have HEQ := Lib.hid heq
          have hq1 : 1 ≤ x.q := hq.1
          have hq2 : x.q ≤ 3 := hq.2
          have hv1 : IntKind.i64.wrap (x.q + 1) = x.q + 1 := IntWalk.i64_in _ (by omega)
          have hv2 : (0 : Int) ≤ x.q := by omega
          have hv3 : x.q ≤ x.q + 1 := by omega
          have hv4 : x.q + 1 ≤ 4 := by omega
          have hv5 : (0 : Int) ≤ x.q + 1 := by omega
          have s4 := add_run u eq (by omega)
          obtain ⟨u2, hu2⟩ : ∃ u2, u2 = u ++ eq := ⟨_, rfl⟩
          have HU2 := Lib.hid hu2
          have HN := Lib.hid (show u2.data.toList = txL (L.take (k + 1)) by
            rw [hu2, cat_any, heql]
            exact tx_end (o2 := o.data.toList) HX.out HUL.out (by rw [if_pos HK0.out, HO.out, HK0.out]; rfl) (by rw [if_pos hnu]))
          clear hnu hq heq heql hu2
          go_wp2_with fail
          refine (rnucleus_any x _).mono ?_
          rintro e w2 ⟨rfl, hb2⟩
          rw [HNU.out]
          have B2 := Lib.hid (btwo B1.out hb2)
          obtain ⟨r0, r1, r2⟩ : w2.cell? ⟨b, off + k * 3, none⟩ = some (.int .i64 x.k) ∧ w2.cell? ⟨b, off + k * 3 + 1, none⟩ = some (.int .i64 x.q) ∧ w2.cell? ⟨b, off + k * 3 + 2, none⟩ = some (.string (bs x.t)) := ⟨(hb2.cell (p := ⟨b, _, none⟩) hbf).trans f0, (hb2.cell (p := ⟨b, _, none⟩) hbf).trans f1, (hb2.cell (p := ⟨b, _, none⟩) hbf).trans f2⟩
          have hbf2 : b < w2.heap.size := Nat.lt_of_lt_of_le hbf hb2.size
          clear hb2 f0 f1 f2
          go_upto_region 10 with fail
          have hKq : Keep [(⟨b, off + k * 3, none⟩, .int .i64 x.k), (⟨b, off + k * 3 + 1, none⟩, .int .i64 x.q), (⟨b, off + k * 3 + 2, none⟩, .string (bs x.t))] w2 := List.forall_mem_cons.2 ⟨⟨r0, hbf2⟩, List.forall_mem_cons.2 ⟨⟨r1, hbf2⟩, List.forall_mem_cons.2 ⟨⟨r2, hbf2⟩, fun _ h => by simp at h⟩⟩⟩
          clear r0 r1 r2
          refine wp_region_held_drew (S := Keep [(⟨b, off + k * 3, none⟩, .int .i64 x.k), (⟨b, off + k * 3 + 1, none⟩, .int .i64 x.q), (⟨b, off + k * 3 + 2, none⟩, .string (bs x.t))]) (by kernel_rfl) hKq.drew (fun hHeld => ?_)
          refine tk 0 ?_ rfl ?_ ?_; rotate_left; focus (intro w hSw; clear hSw; go_simp; try (with_reducible rfl))
          try simp only [Act.put, sA, sZ, sS]
          refine tk 1 ?_ rfl ?_ ?_; rotate_left; focus (intro w hSw; clear hSw; go_simp; try (with_reducible rfl))
          try simp only [Act.put, sA, sZ, sS]
          refine tk 2 ?_ rfl ?_ ?_; rotate_left; focus (intro w hSw; clear hSw; go_simp; try (with_reducible rfl))
          try simp only [Act.put, sA, sZ, sS]
          refine tk 3 ?_ rfl ?_ ?_; rotate_left; focus (intro w hSw; clear hSw; go_simp; try (with_reducible rfl))
          try simp only [Act.put, sA, sZ, sS]
          refine tk 4 ?_ rfl ?_ ?_; rotate_left; focus (intro w hSw; clear hSw; go_simp; try (with_reducible rfl))
          try simp only [Act.put, sA, sZ, sS]
          refine tk 5 ?_ rfl ?_ ?_; rotate_left
          · intro wl hSw
            have hSw : Keep _ wl := hSw
            have k0 := (hSw _ (.tail _ (.head _))).1
            dsimp only at k0
            clear hSw
            go_simp
            try (with_reducible rfl)
          try simp only [Act.put, sA, sZ, sS]
          refine tk 6 ?_ rfl ?_ ?_; rotate_left; focus (intro w hSw; clear hSw; go_simp; try (with_reducible rfl))
          try simp only [Act.put, sA, sZ, sS]
          refine tk 7 ?_ rfl ?_ ?_; rotate_left; focus (intro w hSw; clear hSw; go_simp; try (with_reducible rfl))
          try simp only [Act.put, sA, sZ, sS]
          refine tk 8 ?_ rfl ?_ ?_; rotate_left; focus (intro w hSw; clear hSw; go_simp; try (with_reducible rfl))
          try simp only [Act.put, sA, sZ, sS]
          refine tk 9 ?_ rfl ?_ ?_; rotate_left; focus (intro w hSw; clear hSw; go_simp; try (with_reducible rfl))
          try simp only [Act.put, sA, sZ, sS]
          refine tk 10 ?_ rfl ?_ ?_; rotate_left
          · intro wl hSw
            have hSw : Keep _ wl := hSw
            have k0 := (hSw _ (.tail _ (.head _))).1
            dsimp only at k0
            clear hSw
            go_simp
            try (with_reducible rfl)
          try simp only [Act.put, sA, sZ, sS]
          refine tk 11 ?_ rfl ?_ ?_; rotate_left; focus (intro w hSw; clear hSw; go_simp; try (with_reducible rfl))
          try simp only [Act.put, sA, sZ, sS]
          refine tk 12 ?_ rfl ?_ ?_; rotate_left
          · intro w hSw; clear hSw; go_simp; try (rw [← HEQ.out])
          try simp only [Act.put, sA, sZ, sS]
          refine tk 13 ?_ rfl ?_ ?_; rotate_left
          · intro w hSw; clear hSw; go_simp; try (rw [← HU2.out])
          try simp only [Act.put, sA, sZ, sS]
          refine tk 14 ?_ rfl ?_ ?_; rotate_left; focus (intro w hSw; clear hSw; go_simp; try (with_reducible rfl))
          try simp only [Act.put, sA, sZ, sS]
          refine wpAnyH_done (by kernel_rfl) ?_ _
          have B3 := Lib.hid (btwo B2.out (bdrew _))
          go_wp2_with fail
          go_roundw
          case rel => exact ⟨k + 1, u2, by omega, by go_num, rfl, HN.out, B3.out⟩
          case measure => simp [intOf]; omega
      · have s0 := add_run o (⟨#[32]⟩ : ByteArray) (by show o.size + 1 ≤ _; omega)
        have hk0 : (0 : Int) < (k : Int) := by omega
        have s1 := add_run (o ++ (⟨#[32]⟩ : ByteArray)) (bs x.t) (by (try simp only [ByteArray.size_append]); (try simp only [show (⟨#[32]⟩ : ByteArray).size = 1 from rfl, show (⟨#[47]⟩ : ByteArray).size = 1 from rfl]); omega)
        have s2 := add_run ((o ++ (⟨#[32]⟩ : ByteArray)) ++ bs x.t) (⟨#[47]⟩ : ByteArray) (by (try simp only [ByteArray.size_append]); (try simp only [show (⟨#[32]⟩ : ByteArray).size = 1 from rfl, show (⟨#[47]⟩ : ByteArray).size = 1 from rfl]); omega)
        have s3 := add_run (((o ++ (⟨#[32]⟩ : ByteArray)) ++ bs x.t) ++ (⟨#[47]⟩ : ByteArray)) ex (by (try simp only [ByteArray.size_append]); (try simp only [show (⟨#[32]⟩ : ByteArray).size = 1 from rfl, show (⟨#[47]⟩ : ByteArray).size = 1 from rfl]); omega)
        obtain ⟨u, hu⟩ : ∃ u, u = (((o ++ (⟨#[32]⟩ : ByteArray)) ++ bs x.t) ++ (⟨#[47]⟩ : ByteArray)) ++ ex := ⟨_, rfl⟩
        have HU := Lib.hid hu
        have hus : u.size ≤ k * 12 + 12 := by rw [hu]; simp only [ByteArray.size_append]; (try simp only [show (⟨#[32]⟩ : ByteArray).size = 1 from rfl, show (⟨#[47]⟩ : ByteArray).size = 1 from rfl]); omega
        have hul : u.data.toList = (o ++ (⟨#[32]⟩ : ByteArray)).data.toList ++ (x.t ++ [47, ltrK x.k]) := by
          rw [hu]
          simp only [cat_any, bs_list, HEXL.out]
          simp
        have HUL := Lib.hid hul
        clear hu hul
        go_upto_region 8 with fail
        have hKp : Keep [(⟨b, off + k * 3, none⟩, .int .i64 x.k), (⟨b, off + k * 3 + 1, none⟩, .int .i64 x.q), (⟨b, off + k * 3 + 2, none⟩, .string (bs x.t))] wr := List.forall_mem_cons.2 ⟨⟨c0, hb⟩, List.forall_mem_cons.2 ⟨⟨c1, hb⟩, List.forall_mem_cons.2 ⟨⟨c2, hb⟩, fun _ h => by simp at h⟩⟩⟩
        refine wp_region_held_drew (S := Keep _) (by kernel_rfl) hKp.drew (fun hHeld => ?_)
        refine tk 0 ?_ rfl ?_ ?_; rotate_left; focus (intro w hSw; clear hSw; go_simp; try (with_reducible rfl))
        try simp only [Act.put, sA, sZ, sS]
        refine tk 1 ?_ rfl ?_ ?_; rotate_left; focus (intro w hSw; clear hSw; go_simp; try (with_reducible rfl))
        try simp only [Act.put, sA, sZ, sS]
        refine tk 2 ?_ rfl ?_ ?_; rotate_left; focus (intro w hSw; clear hSw; go_simp; try (with_reducible rfl))
        try simp only [Act.put, sA, sZ, sS]
        refine tk 3 ?_ rfl ?_ ?_; rotate_left; focus (intro w hSw; clear hSw; go_simp; try (with_reducible rfl))
        try simp only [Act.put, sA, sZ, sS]
        refine tk 4 ?_ rfl ?_ ?_; rotate_left; focus (intro w hSw; clear hSw; go_simp; try (with_reducible rfl))
        try simp only [Act.put, sA, sZ, sS]
        refine tk 5 ?_ rfl ?_ ?_; rotate_left
        · intro wl hSw
          have hSw : Keep _ wl := hSw
          have k0 := (hSw _ (.tail _ (.tail _ (.head _)))).1
          dsimp only at k0
          clear hSw
          go_simp
          try (with_reducible rfl)
        try simp only [Act.put, sA, sZ, sS]
        refine tk 6 ?_ rfl ?_ ?_; rotate_left; focus (intro w hSw; clear hSw; go_simp; try (with_reducible rfl))
        try simp only [Act.put, sA, sZ, sS]
        refine tk 7 ?_ rfl ?_ ?_; rotate_left; focus (intro w hSw; clear hSw; go_simp; try (with_reducible rfl))
        try simp only [Act.put, sA, sZ, sS]
        refine tk 9 ?_ rfl ?_ ?_; rotate_left; focus (intro w hSw; clear hSw; go_simp; try (with_reducible rfl))
        try simp only [Act.put, sA, sZ, sS]
        refine tk 10 ?_ rfl ?_ ?_; rotate_left; focus (intro w hSw; clear hSw; go_simp; try (with_reducible rfl))
        try simp only [Act.put, sA, sZ, sS]
        refine tk 11 ?_ rfl ?_ ?_; rotate_left; focus (intro w hSw; clear hSw; go_simp; try (with_reducible rfl))
        try simp only [Act.put, sA, sZ, sS]
        refine wpAnyH_ready (rs := [8]) (by kernel_rfl) (by simp) ?_
        refine AllReadyH.cons (List.getElem?_toArray.trans rfl) (fun K hK => ?_) AllReadyH.nil
        go_simp
        refine (letters_any _).mono ?_
        rintro e w1 ⟨rfl, hw1'⟩
        have hb1 : Below wr.drew.heap.size wr.drew w1 := by rw [← hw1']; exact Below.refl _ _
        have B1 := Lib.hid (btwo (btwo HB.out (bdrew _)) hb1)
        clear hw1'
        try go_wp2_with fail
        refine hK.out _ _ (hHeld.go hb1) (fun hHeld => ?_)
        clear hK K
        try simp only [Act.put, sA, sZ, sS]
        refine tk 12 ?_ rfl ?_ ?_; rotate_left
        · intro w hSw; clear hSw; go_simp; try (rw [← HEX.out])
        try simp only [Act.put, sA, sZ, sS]
        try rw [← HEX.out]
        refine tk 13 ?_ rfl ?_ ?_; rotate_left; focus (intro w hSw; clear hSw; go_simp; try (with_reducible rfl))
        try simp only [Act.put, sA, sZ, sS]
        try rw [← HU.out]
        refine tk 14 ?_ rfl ?_ ?_; rotate_left; focus (intro w hSw; clear hSw; go_simp; try (with_reducible rfl))
        try simp only [Act.put, sA, sZ, sS]
        refine wpAnyH_done (by kernel_rfl) ?_ _
        have HHD := Lib.hid hHeld
        clear hHeld hKp hb1
        obtain ⟨f0, hbf⟩ := HHD.out _ (.head _)
        obtain ⟨f1, _⟩ := HHD.out _ (.tail _ (.head _))
        obtain ⟨f2, _⟩ := HHD.out _ (.tail _ (.tail _ (.head _)))
        dsimp only at f0 f1 f2 hbf
        clear c0 c1 c2
        have hb1' : b < w1.heap.size := hbf
        cases hnu : nuc x with
        | false =>
          have HNU := Lib.hid hnu
          have HN := Lib.hid (show u.data.toList = txL (L.take (k + 1)) by have := tx_end (q := []) (o2 := (o ++ (⟨#[32]⟩ : ByteArray)).data.toList) HX.out HUL.out (by rw [if_neg (show ¬ k = 0 by omega), cat_any, HO.out]) (by rw [if_neg (by simp [hnu])]); rwa [List.append_nil] at this)
          clear hnu
          go_wp2_with fail
          refine (rnucleus_any x _).mono ?_
          rintro e w2 ⟨rfl, hb2⟩
          rw [HNU.out]
          have B2 := Lib.hid (btwo B1.out hb2)
          obtain ⟨r0, r1, r2⟩ : w2.cell? ⟨b, off + k * 3, none⟩ = some (.int .i64 x.k) ∧ w2.cell? ⟨b, off + k * 3 + 1, none⟩ = some (.int .i64 x.q) ∧ w2.cell? ⟨b, off + k * 3 + 2, none⟩ = some (.string (bs x.t)) := ⟨(hb2.cell (p := ⟨b, _, none⟩) hbf).trans f0, (hb2.cell (p := ⟨b, _, none⟩) hbf).trans f1, (hb2.cell (p := ⟨b, _, none⟩) hbf).trans f2⟩
          have hbf2 : b < w2.heap.size := Nat.lt_of_lt_of_le hbf hb2.size
          clear hb2 f0 f1 f2
          go_wp2_with fail
          go_roundw
          case rel => exact ⟨k + 1, u, by omega, by go_num, rfl, HN.out, B2.out⟩
          case measure => simp [intOf]; omega
        | true =>
          have HNU := Lib.hid hnu
          have hq := qOk_nuc HQ.out hnu
          obtain ⟨eq, heq⟩ : ∃ eq, eq = (⟨#[48, 49, 50, 51]⟩ : ByteArray).extract x.q.toNat (x.q + 1).toNat := ⟨_, rfl⟩
          have heql : eq.data.toList = [(48 + x.q).toNat.toUInt8] := by rw [heq]; exact dig_ext hq
          have heqs : eq.size = 1 := by rw [← sizeB, heql]; rfl
          have HEQ := Lib.hid heq
          have hq1 : 1 ≤ x.q := hq.1
          have hq2 : x.q ≤ 3 := hq.2
          have hv1 : IntKind.i64.wrap (x.q + 1) = x.q + 1 := IntWalk.i64_in _ (by omega)
          have hv2 : (0 : Int) ≤ x.q := by omega
          have hv3 : x.q ≤ x.q + 1 := by omega
          have hv4 : x.q + 1 ≤ 4 := by omega
          have hv5 : (0 : Int) ≤ x.q + 1 := by omega
          have s4 := add_run u eq (by omega)
          obtain ⟨u2, hu2⟩ : ∃ u2, u2 = u ++ eq := ⟨_, rfl⟩
          have HU2 := Lib.hid hu2
          have HN := Lib.hid (show u2.data.toList = txL (L.take (k + 1)) by
            rw [hu2, cat_any, heql]
            exact tx_end (o2 := (o ++ (⟨#[32]⟩ : ByteArray)).data.toList) HX.out HUL.out (by rw [if_neg (show ¬ k = 0 by omega), cat_any, HO.out]) (by rw [if_pos hnu]))
          clear hnu hq heq heql hu2
          go_wp2_with fail
          refine (rnucleus_any x _).mono ?_
          rintro e w2 ⟨rfl, hb2⟩
          rw [HNU.out]
          have B2 := Lib.hid (btwo B1.out hb2)
          obtain ⟨r0, r1, r2⟩ : w2.cell? ⟨b, off + k * 3, none⟩ = some (.int .i64 x.k) ∧ w2.cell? ⟨b, off + k * 3 + 1, none⟩ = some (.int .i64 x.q) ∧ w2.cell? ⟨b, off + k * 3 + 2, none⟩ = some (.string (bs x.t)) := ⟨(hb2.cell (p := ⟨b, _, none⟩) hbf).trans f0, (hb2.cell (p := ⟨b, _, none⟩) hbf).trans f1, (hb2.cell (p := ⟨b, _, none⟩) hbf).trans f2⟩
          have hbf2 : b < w2.heap.size := Nat.lt_of_lt_of_le hbf hb2.size
          clear hb2 f0 f1 f2
          go_upto_region 10 with fail
          have hKq : Keep [(⟨b, off + k * 3, none⟩, .int .i64 x.k), (⟨b, off + k * 3 + 1, none⟩, .int .i64 x.q), (⟨b, off + k * 3 + 2, none⟩, .string (bs x.t))] w2 := List.forall_mem_cons.2 ⟨⟨r0, hbf2⟩, List.forall_mem_cons.2 ⟨⟨r1, hbf2⟩, List.forall_mem_cons.2 ⟨⟨r2, hbf2⟩, fun _ h => by simp at h⟩⟩⟩
          clear r0 r1 r2
          refine wp_region_held_drew (S := Keep [(⟨b, off + k * 3, none⟩, .int .i64 x.k), (⟨b, off + k * 3 + 1, none⟩, .int .i64 x.q), (⟨b, off + k * 3 + 2, none⟩, .string (bs x.t))]) (by kernel_rfl) hKq.drew (fun hHeld => ?_)
          refine tk 0 ?_ rfl ?_ ?_; rotate_left; focus (intro w hSw; clear hSw; go_simp; try (with_reducible rfl))
          try simp only [Act.put, sA, sZ, sS]
          refine tk 1 ?_ rfl ?_ ?_; rotate_left; focus (intro w hSw; clear hSw; go_simp; try (with_reducible rfl))
          try simp only [Act.put, sA, sZ, sS]
          refine tk 2 ?_ rfl ?_ ?_; rotate_left; focus (intro w hSw; clear hSw; go_simp; try (with_reducible rfl))
          try simp only [Act.put, sA, sZ, sS]
          refine tk 3 ?_ rfl ?_ ?_; rotate_left; focus (intro w hSw; clear hSw; go_simp; try (with_reducible rfl))
          try simp only [Act.put, sA, sZ, sS]
          refine tk 4 ?_ rfl ?_ ?_; rotate_left; focus (intro w hSw; clear hSw; go_simp; try (with_reducible rfl))
          try simp only [Act.put, sA, sZ, sS]
          refine tk 5 ?_ rfl ?_ ?_; rotate_left
          · intro wl hSw
            have hSw : Keep _ wl := hSw
            have k0 := (hSw _ (.tail _ (.head _))).1
            dsimp only at k0
            clear hSw
            go_simp
            try (with_reducible rfl)
          try simp only [Act.put, sA, sZ, sS]
          refine tk 6 ?_ rfl ?_ ?_; rotate_left; focus (intro w hSw; clear hSw; go_simp; try (with_reducible rfl))
          try simp only [Act.put, sA, sZ, sS]
          refine tk 7 ?_ rfl ?_ ?_; rotate_left; focus (intro w hSw; clear hSw; go_simp; try (with_reducible rfl))
          try simp only [Act.put, sA, sZ, sS]
          refine tk 8 ?_ rfl ?_ ?_; rotate_left; focus (intro w hSw; clear hSw; go_simp; try (with_reducible rfl))
          try simp only [Act.put, sA, sZ, sS]
          refine tk 9 ?_ rfl ?_ ?_; rotate_left; focus (intro w hSw; clear hSw; go_simp; try (with_reducible rfl))
          try simp only [Act.put, sA, sZ, sS]
          refine tk 10 ?_ rfl ?_ ?_; rotate_left
          · intro wl hSw
            have hSw : Keep _ wl := hSw
            have k0 := (hSw _ (.tail _ (.head _))).1
            dsimp only at k0
            clear hSw
            go_simp
            try (with_reducible rfl)
          try simp only [Act.put, sA, sZ, sS]
          refine tk 11 ?_ rfl ?_ ?_; rotate_left; focus (intro w hSw; clear hSw; go_simp; try (with_reducible rfl))
          try simp only [Act.put, sA, sZ, sS]
          refine tk 12 ?_ rfl ?_ ?_; rotate_left
          · intro w hSw; clear hSw; go_simp; try (rw [← HEQ.out])
          try simp only [Act.put, sA, sZ, sS]
          refine tk 13 ?_ rfl ?_ ?_; rotate_left
          · intro w hSw; clear hSw; go_simp; try (rw [← HU2.out])
          try simp only [Act.put, sA, sZ, sS]
          refine tk 14 ?_ rfl ?_ ?_; rotate_left; focus (intro w hSw; clear hSw; go_simp; try (with_reducible rfl))
          try simp only [Act.put, sA, sZ, sS]
          refine wpAnyH_done (by kernel_rfl) ?_ _
          have B3 := Lib.hid (btwo B2.out (bdrew _))
          go_wp2_with fail
          go_roundw
          case rel => exact ⟨k + 1, u2, by omega, by go_num, rfl, HN.out, B3.out⟩
          case measure => simp [intOf]; omega
    · have HE := Lib.hid (show txL (L.take k) = txL L by rw [take_all (by have := HL.out; omega)])
      clear hbr ho
      go_wp2
      go_ret
      exact ⟨congrArg (fun b => Ending.returned (Value.string b)) (of_list (by rw [HO.out, HE.out])), HB.out⟩
end Go.Proofs.YtghjglcckpdbcaaGreatDoor
