/- Contracts: Compare of both sides. -/
import Derived.Test.YthcdbhancfpldaaLf
import Derived.Test.YthcdbhancfpldaaUo
namespace Go.Proofs.Ythcdbhancfpldaa
open Go.RowKit
set_option linter.unusedVariables false
set_option linter.unusedSimpArgs false
set_option maxRecDepth 100000

theorem lx_step {α : Type} {f : α → α → Int} {L M : List α} {k : Nat} {x y : α} (hx : L[k]? = some x) (hy : M[k]? = some y) (h : lx f L M = lx f (L.drop k) (M.drop k)) : lx f L M = if f x y ≠ 0 then f x y else lx f (L.drop (k + 1)) (M.drop (k + 1)) := by
  obtain ⟨h1, e1⟩ := List.getElem?_eq_some_iff.1 hx
  obtain ⟨h2, e2⟩ := List.getElem?_eq_some_iff.1 hy
  rw [h, List.drop_eq_getElem_cons h1, List.drop_eq_getElem_cons h2, e1, e2]; rfl
theorem lx_long {α : Type} {f : α → α → Int} {L M : List α} {k : Nat} (h1 : k < L.length) (h2 : M.length ≤ k) (h : lx f L M = lx f (L.drop k) (M.drop k)) : lx f L M = 1 := by
  rw [h, List.drop_eq_getElem_cons h1, List.drop_eq_nil_of_le h2]; rfl
theorem lx_short {α : Type} {f : α → α → Int} {L M : List α} {k : Nat} (h1 : L.length ≤ k) (h2 : k < M.length) (h : lx f L M = lx f (L.drop k) (M.drop k)) : lx f L M = -1 := by
  rw [h, List.drop_eq_getElem_cons h2, List.drop_eq_nil_of_le h1]; rfl
theorem lx_end {α : Type} {f : α → α → Int} {L M : List α} {k : Nat} (h1 : L.length ≤ k) (h2 : M.length ≤ k) (h : lx f L M = lx f (L.drop k) (M.drop k)) : lx f L M = 0 := by
  rw [h, List.drop_eq_nil_of_le h1, List.drop_eq_nil_of_le h2]; rfl
theorem lx_lens {α : Type} {f : α → α → Int} {L M : List α} {k : Nat} (h1 : k ≤ L.length) (h2 : k ≤ M.length) (h3 : ¬ (k < L.length ∧ k < M.length)) (h : lx f L M = lx f (L.drop k) (M.drop k)) : lx f L M = Lib.compareInt (L.length : Int) (M.length : Int) := by
  rcases cmpI_cases (L.length : Int) (M.length : Int) with ⟨e, g⟩ | ⟨e, g⟩ | ⟨e, g⟩ <;> rw [e]
  · exact lx_short (k := k) (by omega) (by omega) h
  · exact lx_end (k := k) (by omega) (by omega) h
  · exact lx_long (k := k) (by omega) (by omega) h
theorem ints_get {L : List Int} {n k : Nat} (hl : L.length = n) (h : k < n) : L[k]? = some (L.getD k 0) := by
  rw [getD_at (by omega)]; exact List.getElem?_eq_getElem (by omega)
set_option maxHeartbeats 4000000 in
theorem cmpnums_any (L M : List Int) (n c m d : Nat) (A B : Option Addr) (w : World) (hl : L.length = n) (hm : M.length = m) (hn : n ≤ 1000000) (hm1 : m ≤ 1000000) (hA : CellsIn w A (ints L)) (hB : CellsIn w B (ints M)) :
    Calls Try.prog 53 #[.slice A n c, .slice B m d] w fun e w' => e = .returned (.int .i64 (lx Lib.compareInt L M)) ∧ w = w' := by
  have HL := Lib.hid hl
  have HM := Lib.hid hm
  have HA := Lib.hid hA
  have HB := Lib.hid hB
  clear hl hm hA hB
  go_enter Try.func53, Try.ntmps53
  go_wp2
  go_loopw [11] (fun i wr => ∃ k : Nat, k ≤ n ∧ k ≤ m ∧ i = .int .i64 k ∧ lx Lib.compareInt L M = lx Lib.compareInt (L.drop k) (M.drop k) ∧ w = wr) (fun i _ => n - (intOf i).toNat)
  case atStart => exact ⟨0, Nat.zero_le _, Nat.zero_le _, rfl, rfl, rfl⟩
  case round =>
    obtain ⟨k, hk, hkm, rfl, hz, rfl⟩ := hrel
    have HZ := Lib.hid hz
    clear hz
    by_cases hlt : k < n
    · obtain ⟨b, off, rfl, hb, c0⟩ := HA.out.int (j := k) (by have := HL.out; omega)
      by_cases hlm : k < m
      · obtain ⟨b2, off2, rfl, hb2, c1⟩ := HB.out.int (j := k) (by have := HM.out; omega)
        have HX := Lib.hid (ints_get HL.out hlt)
        have HY := Lib.hid (ints_get HM.out hlm)
        obtain ⟨x, hx⟩ : ∃ x, L.getD k 0 = x := ⟨_, rfl⟩
        obtain ⟨y, hy⟩ : ∃ y, M.getD k 0 = y := ⟨_, rfl⟩
        rw [hx] at c0 HX
        rw [hy] at c1 HY
        have HS := Lib.hid (lx_step HX.out HY.out HZ.out)
        clear hx hy
        go_wp2_with fail
        refine (Try.cmp_Compare_int x y _).mono ?_
        rintro e w' ⟨rfl, rfl⟩
        obtain ⟨v, hv⟩ : ∃ v, Lib.compareInt x y = v := ⟨_, rfl⟩
        rw [hv]
        rw [hv] at HS
        clear hv
        by_cases h0 : v = 0
        · subst h0
          have HN := Lib.hid (show lx Lib.compareInt L M = lx Lib.compareInt (L.drop (k + 1)) (M.drop (k + 1)) from HS.out)
          go_wp2_with fail
          go_roundw
          case rel => exact ⟨k + 1, by omega, by omega, by go_num, HN.out, trivial⟩
          case measure => simp [intOf]; omega
        · have HE := Lib.hid (show lx Lib.compareInt L M = v by rw [HS.out, if_pos h0])
          have hne : (v != 0) = true := bne_yes h0
          clear h0
          go_wp2_with fail
          go_ret
          exact ⟨sym_int HE.out, rfl⟩
      · have HE := Lib.hid (lx_long (k := k) (by have := HL.out; omega) (by have := HM.out; omega) HZ.out)
        go_wp2_with fail
        go_ret
        exact ⟨sym_int HE.out, rfl⟩
    · by_cases hlm : n < m
      · have HE := Lib.hid (lx_short (k := k) (by have := HL.out; omega) (by have := HM.out; omega) HZ.out)
        go_wp2_with fail
        go_ret
        exact ⟨sym_int HE.out, rfl⟩
      · have HE := Lib.hid (lx_end (k := k) (by have := HL.out; omega) (by have := HM.out; omega) HZ.out)
        go_wp2_with fail
        go_ret
        exact ⟨sym_int HE.out, rfl⟩
set_option maxHeartbeats 8000000 in
theorem cmpfn_any (L M : List Snd) (n c m d : Nat) (A B : Option Addr) (w : World) (hl : L.length = n) (hm : M.length = m) (hn : n ≤ 1000000) (hm1 : m ≤ 1000000) (hA : CellsIn w A (sndsC L)) (hB : CellsIn w B (sndsC M)) :
    Calls Try.prog 51 #[.slice A n c, .slice B m d, .func (.func 52) #[] #[]] w fun e w' => e = .returned (.int .i64 (lx cmpS L M)) ∧ Below w.heap.size w w' := by
  have HL := Lib.hid hl
  have HM := Lib.hid hm
  have HA := Lib.hid hA
  have HB := Lib.hid hB
  clear hl hm hA hB
  go_enter Try.func51, Try.ntmps51
  go_wp2
  go_loopw [13] (fun i wr => ∃ k : Nat, k ≤ n ∧ k ≤ m ∧ i = .int .i64 k ∧ lx cmpS L M = lx cmpS (L.drop k) (M.drop k) ∧ Below w.heap.size w wr) (fun i _ => n - (intOf i).toNat)
  case atStart => exact ⟨0, Nat.zero_le _, Nat.zero_le _, rfl, rfl, Below.refl _ _⟩
  case round =>
    obtain ⟨k, hk, hkm, rfl, hz, hbr⟩ := hrel
    have HZ := Lib.hid hz
    have HBR := Lib.hid hbr
    clear hz hbr
    by_cases hlt : k < n
    · obtain ⟨x, hx⟩ := idx_lt HL.out hlt
      obtain ⟨b, off, rfl, hb, c0, c1, c2⟩ := (HA.out.below HBR.out).snd hx
      have HX := Lib.hid hx
      clear hx
      have V1 := Lib.hid (((Hp.start w).go HBR.out).sbox_new x)
      by_cases hlm : k < m
      · obtain ⟨y, hy⟩ := idx_lt HM.out hlm
        obtain ⟨b2, off2, rfl, hb2, d0, d1, d2⟩ := (HB.out.below V1.out.below).snd hy
        have HY := Lib.hid hy
        clear hy
        have HS := Lib.hid (lx_step HX.out HY.out HZ.out)
        have V2 := Lib.hid (V1.out.sbox_new y)
        obtain ⟨r0, r1, r2, rg⟩ := V2.out.sbox_at (i := 1) rfl
        obtain ⟨s0, s1, s2, sg⟩ := V2.out.sbox_at (i := 0) rfl
        have hh : (wr.alloc (.cells #[.int .i64 x.k, .int .i64 x.q, .string (bs x.t)] 51)).heap.size = wr.heap.size + 1 := by simp
        rw [hh] at s0 s1 s2 sg
        clear hh
        go_wp2_with fail
        refine (compare_any x y _).mono ?_
        rintro e w2 ⟨rfl, hb3⟩
        have V3 := Lib.hid (V2.out.go hb3)
        clear hb3 r0 r1 r2 rg s0 s1 s2 sg
        obtain ⟨v, hv⟩ : ∃ v, cmpS x y = v := ⟨_, rfl⟩
        rw [hv]
        rw [hv] at HS
        clear hv
        by_cases h0 : v = 0
        · subst h0
          have HN := Lib.hid (show lx cmpS L M = lx cmpS (L.drop (k + 1)) (M.drop (k + 1)) from HS.out)
          go_wp2_with fail
          go_roundw
          case rel => exact ⟨k + 1, by omega, by omega, by go_num, HN.out, V3.out.below⟩
          case measure => simp [intOf]; omega
        · have HE := Lib.hid (show lx cmpS L M = v by rw [HS.out, if_pos h0])
          have hne : (v != 0) = true := bne_yes h0
          clear h0
          go_wp2_with fail
          go_ret
          exact ⟨sym_int HE.out, V3.out.below⟩
      · have HE := Lib.hid (lx_long (k := k) (by have := HL.out; omega) (by have := HM.out; omega) HZ.out)
        go_wp2_with fail
        go_ret
        exact ⟨sym_int HE.out, V1.out.below⟩
    · by_cases hlm : n < m
      · have HE := Lib.hid (lx_short (k := k) (by have := HL.out; omega) (by have := HM.out; omega) HZ.out)
        go_wp2_with fail
        go_ret
        exact ⟨sym_int HE.out, HBR.out⟩
      · have HE := Lib.hid (lx_end (k := k) (by have := HL.out; omega) (by have := HM.out; omega) HZ.out)
        go_wp2_with fail
        go_ret
        exact ⟨sym_int HE.out, HBR.out⟩
set_option maxHeartbeats 4000000 in
theorem ccompare_any (X Y : Clu) (A : Option Addr) (n c : Nat) (B : Option Addr) (m d : Nat) (P : Option Addr) (p e : Nat) (Q : Option Addr) (q f : Nat) (w : World) (hX : CIn w A n B m X) (hY : CIn w P p Q q Y) :
    Calls Try.prog 29 #[.agg #[.slice A n c, .slice B m d], .agg #[.slice P p e, .slice Q q f]] w fun r w' => r = .returned (.int .i64 (cmpC X Y)) ∧ Below w.heap.size w w' := by
  have HX := Lib.hid hX
  have HY := Lib.hid hY
  have hn := hX.hn
  have hm := hX.hm
  have hp := hY.hn
  have hq := hY.hm
  have V1 := Lib.hid (((Hp.start w).cbox_new A n c B m d).cbox_new P p e Q q f)
  have hh : (w.alloc (.cells #[.slice A n c, .slice B m d] 25)).heap.size = w.heap.size + 1 := by simp
  rw [hh] at V1
  obtain ⟨b0, b1, bg⟩ := V1.out.cbox_at (i := 1) rfl
  obtain ⟨e0, e1, eg⟩ := V1.out.cbox_at (i := 0) rfl
  clear hX hY hh
  go_enter Try.func29, Try.ntmps29
  go_wp2_with fail
  refine (cmpfn_any X.s Y.s n c p e A P _ HX.out.ls HY.out.ls hn hp (HX.out.cs.below V1.out.below) (HY.out.cs.below V1.out.below)).mono ?_
  rintro r w1 ⟨rfl, hb1⟩
  have V2 := Lib.hid (V1.out.go hb1)
  clear hb1 b0 b1 bg e0 e1 eg
  obtain ⟨b0, b1, bg⟩ := V2.out.cbox_at (i := 1) rfl
  obtain ⟨e0, e1, eg⟩ := V2.out.cbox_at (i := 0) rfl
  obtain ⟨v, hv⟩ : ∃ v, lx cmpS X.s Y.s = v := ⟨_, rfl⟩
  have HV := Lib.hid hv
  rw [hv]
  clear hv
  by_cases h0 : v = 0
  · subst h0
    have HE := Lib.hid (show cmpC X Y = lx Lib.compareInt X.b Y.b by unfold cmpC; rw [HV.out]; rfl)
    go_wp2_with fail
    refine (cmpnums_any X.b Y.b m d q f B Q _ HX.out.lb HY.out.lb hm hq (HX.out.cb.below V2.out.below) (HY.out.cb.below V2.out.below)).mono ?_
    rintro r w2 ⟨rfl, rfl⟩
    go_wp2_with fail
    go_ret
    exact ⟨sym_int HE.out, V2.out.below⟩
  · have HE := Lib.hid (show cmpC X Y = v by unfold cmpC; rw [HV.out, if_pos h0])
    have hne : (v != 0) = true := bne_yes h0
    clear h0
    go_wp2_with fail
    go_ret
    exact ⟨sym_int HE.out, V2.out.below⟩
theorem rorder14_any (a b : Int) (w : World) : Calls Try.prog 54 #[.int .i64 a, .int .i64 b] w fun e w' => e = .returned (.int .i64 (Lib.compareInt a b)) ∧ w = w' := by
  rcases cmpI_cases a b with ⟨h, g⟩ | ⟨h, g⟩ | ⟨h, g⟩
  · have HP := Lib.hid h
    clear h
    go_enter Try.func54, Try.ntmps54
    go_wp2
    go_ret
    exact ⟨ret_int HP.out.symm, rfl⟩
  · have HP := Lib.hid h
    clear h
    subst g
    go_enter Try.func54, Try.ntmps54
    go_wp2
    go_ret
    exact ⟨ret_int HP.out.symm, rfl⟩
  · have HP := Lib.hid h
    clear h
    go_enter Try.func54, Try.ntmps54
    go_wp2
    go_ret
    exact ⟨ret_int HP.out.symm, rfl⟩
set_option maxHeartbeats 16000000 in
theorem rccompare_any (X Y : Clu) (A : Option Addr) (n c : Nat) (B : Option Addr) (m d : Nat) (P : Option Addr) (p e : Nat) (Q : Option Addr) (q f : Nat) (w : World) (hX : CIn w A n B m X) (hY : CIn w P p Q q Y) :
    Calls Try.prog 30 #[.agg #[.slice A n c, .slice B m d], .agg #[.slice P p e, .slice Q q f]] w fun r w' => r = .returned (.int .i64 (cmpC X Y)) ∧ Below w.heap.size w w' := by
  have HX := Lib.hid hX
  have HY := Lib.hid hY
  have hn := hX.hn
  have hm := hX.hm
  have hp := hY.hn
  have hq := hY.hm
  have V1 := Lib.hid (((Hp.start w).cbox_new A n c B m d).cbox_new P p e Q q f)
  have hh : (w.alloc (.cells #[.slice A n c, .slice B m d] 25)).heap.size = w.heap.size + 1 := by simp
  rw [hh] at V1
  obtain ⟨b0, b1, bg⟩ := V1.out.cbox_at (i := 1) rfl
  obtain ⟨e0, e1, eg⟩ := V1.out.cbox_at (i := 0) rfl
  clear hX hY hh
  go_enter Try.func30, Try.ntmps30
  go_wp2
  go_loopw [5] (fun i wr => ∃ k : Nat, k ≤ n ∧ k ≤ p ∧ i = .int .i64 k ∧ lx cmpS X.s Y.s = lx cmpS (X.s.drop k) (Y.s.drop k) ∧ Hp w [cbox (w.heap.size + 1) P p e Q q f, cbox w.heap.size A n c B m d] wr) (fun i _ => n - (intOf i).toNat)
  case atStart => exact ⟨0, Nat.zero_le _, Nat.zero_le _, rfl, rfl, V1.out⟩
  case round =>
    clear V1 b0 b1 bg e0 e1 eg
    obtain ⟨k, hk, hkp, rfl, hz, V0⟩ := hrel
    have HZ := Lib.hid hz
    have V := Lib.hid V0
    clear hz V0
    obtain ⟨b0, b1, bg⟩ := V.out.cbox_at (i := 1) rfl
    obtain ⟨e0, e1, eg⟩ := V.out.cbox_at (i := 0) rfl
    by_cases hlt : k < n ∧ k < p
    · obtain ⟨hlt, hlp⟩ := hlt
      obtain ⟨x, hx⟩ := idx_lt HX.out.ls hlt
      obtain ⟨y, hy⟩ := idx_lt HY.out.ls hlp
      obtain ⟨u1, o1, rfl, hu1, x0, x1, x2⟩ := (HX.out.cs.below V.out.below).snd hx
      obtain ⟨u2, o2, rfl, hu2, y0, y1, y2⟩ := (HY.out.cs.below V.out.below).snd hy
      have HXX := Lib.hid hx
      have HYY := Lib.hid hy
      clear hx hy
      go_upto_region 4 with fail
      have hKp : Keep [(⟨w.heap.size, 0, none⟩, .slice (some ⟨u1, o1, none⟩) n c), (⟨w.heap.size + 1, 0, none⟩, .slice (some ⟨u2, o2, none⟩) p e), (⟨u1, o1 + k * 3, none⟩, .int .i64 x.k), (⟨u1, o1 + k * 3 + 1, none⟩, .int .i64 x.q), (⟨u1, o1 + k * 3 + 2, none⟩, .string (bs x.t)), (⟨u2, o2 + k * 3, none⟩, .int .i64 y.k), (⟨u2, o2 + k * 3 + 1, none⟩, .int .i64 y.q), (⟨u2, o2 + k * 3 + 2, none⟩, .string (bs y.t))] wr := List.forall_mem_cons.2 ⟨⟨b0, bg⟩, List.forall_mem_cons.2 ⟨⟨e0, eg⟩, List.forall_mem_cons.2 ⟨⟨x0, hu1⟩, List.forall_mem_cons.2 ⟨⟨x1, hu1⟩, List.forall_mem_cons.2 ⟨⟨x2, hu1⟩, List.forall_mem_cons.2 ⟨⟨y0, hu2⟩, List.forall_mem_cons.2 ⟨⟨y1, hu2⟩, List.forall_mem_cons.2 ⟨⟨y2, hu2⟩, fun _ h => by simp at h⟩⟩⟩⟩⟩⟩⟩⟩
      refine wp_region_held_drew (S := Keep _) (by kernel_rfl) hKp.drew (fun hHeld => ?_)
      obtain ⟨wf, hwf⟩ : ∃ z, z = wr.drew := ⟨_, rfl⟩
      have Vwf := Lib.hid (show Hp w (cbox (w.heap.size + 1) (some ⟨u2, o2, none⟩) p e Q q f :: cbox w.heap.size (some ⟨u1, o1, none⟩) n c B m d :: []) wf by rw [hwf]; exact V.out.go (bdrew _))
      have Bwf := Lib.hid (show Below wr.heap.size wr wf by rw [hwf]; exact bdrew _)
      rw [← hwf] at hHeld ⊢
      clear hwf hKp
      refine tk 0 ?_ rfl ?_ ?_; rotate_left; focus (intro w hSw; clear hSw; go_simp; try (with_reducible rfl))
      try simp only [Act.put, sA, sZ, sS]
      refine tk 1 ?_ rfl ?_ ?_; rotate_left
      · intro wl hSw
        have hSw : Keep _ wl := hSw
        have k0 := (hSw _ (.head _)).1
        dsimp only at k0
        clear hSw
        go_simp
        try (with_reducible rfl)
      try simp only [Act.put, sA, sZ, sS]
      refine tk 2 ?_ rfl ?_ ?_; rotate_left; focus (intro w hSw; clear hSw; go_simp; try (with_reducible rfl))
      try simp only [Act.put, sA, sZ, sS]
      refine tk 3 ?_ rfl ?_ ?_; rotate_left; focus (intro w hSw; clear hSw; go_simp; try (with_reducible rfl))
      try simp only [Act.put, sA, sZ, sS]
      refine tk 4 ?_ rfl ?_ ?_; rotate_left
      · intro wl hSw
        have hSw : Keep _ wl := hSw
        have k0 := (hSw _ (.tail _ (.tail _ (.head _)))).1
        have k1 := (hSw _ (.tail _ (.tail _ (.tail _ (.head _))))).1
        have k2 := (hSw _ (.tail _ (.tail _ (.tail _ (.tail _ (.head _)))))).1
        dsimp only at k0 k1 k2
        clear hSw
        go_simp
        try (with_reducible rfl)
      try simp only [Act.put, sA, sZ, sS]
      refine tk 5 ?_ rfl ?_ ?_; rotate_left; focus (intro w hSw; clear hSw; go_simp; try (with_reducible rfl))
      try simp only [Act.put, sA, sZ, sS]
      refine tk 6 ?_ rfl ?_ ?_; rotate_left
      · intro wl hSw
        have hSw : Keep _ wl := hSw
        have k0 := (hSw _ (.tail _ (.head _))).1
        dsimp only at k0
        clear hSw
        go_simp
        try (with_reducible rfl)
      try simp only [Act.put, sA, sZ, sS]
      refine tk 7 ?_ rfl ?_ ?_; rotate_left; focus (intro w hSw; clear hSw; go_simp; try (with_reducible rfl))
      try simp only [Act.put, sA, sZ, sS]
      refine tk 8 ?_ rfl ?_ ?_; rotate_left; focus (intro w hSw; clear hSw; go_simp; try (with_reducible rfl))
      try simp only [Act.put, sA, sZ, sS]
      refine tk 9 ?_ rfl ?_ ?_; rotate_left
      · intro wl hSw
        have hSw : Keep _ wl := hSw
        have k0 := (hSw _ (.tail _ (.tail _ (.tail _ (.tail _ (.tail _ (.head _))))))).1
        have k1 := (hSw _ (.tail _ (.tail _ (.tail _ (.tail _ (.tail _ (.tail _ (.head _)))))))).1
        have k2 := (hSw _ (.tail _ (.tail _ (.tail _ (.tail _ (.tail _ (.tail _ (.tail _ (.head _))))))))).1
        dsimp only at k0 k1 k2
        clear hSw
        go_simp
        try (with_reducible rfl)
      try simp only [Act.put, sA, sZ, sS]
      refine wpAnyH_ready (rs := [10]) (by kernel_rfl) (by simp) ?_
      refine AllReadyH.cons (List.getElem?_toArray.trans rfl) (fun K hK => ?_) AllReadyH.nil
      go_simp
      refine (rcompare_any x y _).mono ?_
      rintro e w_10 ⟨rfl, b_10⟩
      have V_10 := Lib.hid (Vwf.out.go b_10)
      try go_wp2_with fail
      refine hK.out _ _ (hHeld.go b_10) (fun hHeld => ?_)
      clear hK K
      try simp only [Act.put, sA, sZ, sS]
      refine tk 11 ?_ rfl ?_ ?_; rotate_left; focus (intro w hSw; clear hSw; go_simp; try (with_reducible rfl))
      try simp only [Act.put, sA, sZ, sS]
      refine wpAnyH_done (by kernel_rfl) ?_ _
      clear hHeld
      obtain ⟨v, hv⟩ : ∃ v, cmpS x y = v := ⟨_, rfl⟩
      have HS := Lib.hid (lx_step HXX.out HYY.out HZ.out)
      rw [hv]
      rw [hv] at HS
      clear hv
      obtain ⟨b0, b1, bg⟩ := V_10.out.cbox_at (i := 1) rfl
      obtain ⟨e0, e1, eg⟩ := V_10.out.cbox_at (i := 0) rfl
      by_cases h0 : v = 0
      · subst h0
        have HN := Lib.hid (show lx cmpS X.s Y.s = lx cmpS (X.s.drop (k + 1)) (Y.s.drop (k + 1)) from HS.out)
        go_wp2_with fail
        go_roundw
        case rel => exact ⟨k + 1, by omega, by omega, by go_num, HN.out, V_10.out⟩
        case measure => simp [intOf]; omega
      · have HE := Lib.hid (show cmpC X Y = v by unfold cmpC; rw [HS.out, if_pos h0, if_pos h0])
        have hne : (v != 0) = true := bne_yes h0
        clear h0
        go_wp2_with fail
        go_ret
        exact ⟨sym_int HE.out, V_10.out.below⟩
    · have HLN := Lib.hid (lx_lens (by rw [HX.out.ls]; exact hk) (by rw [HY.out.ls]; exact hkp) (by rw [HX.out.ls, HY.out.ls]; exact hlt) HZ.out)
      have hx : ¬ (k < n) ∨ (k < n ∧ ¬ k < p) := by omega
      have go : ∀ {G : Prop}, (k < n → ¬ k < p → G) → (¬ k < n → G) → G := fun h1 h2 => by
        rcases hx with h | ⟨h, h'⟩
        · exact h2 h
        · exact h1 h h'
      clear hlt hx
      go_upto_region 2 with fail
      go_cut [21] (fun r wx => r = .bool false ∧ wr = wx)
      case first =>
        refine go (fun h1 h2 => ?_) (fun h1 => ?_)
        · go_wp2_with fail
          go_meet
          exact ⟨rfl, rfl⟩
        · go_wp2_with fail
          go_meet
          exact ⟨rfl, rfl⟩
      case rest =>
        obtain ⟨rfl, rfl⟩ := hcut
        clear go
        obtain ⟨v, hv⟩ : ∃ v, Lib.compareInt (n : Int) (p : Int) = v := ⟨_, rfl⟩
        rw [HX.out.ls, HY.out.ls] at HLN
        have HV := Lib.hid hv
        go_wp2_with fail
        refine (rorder14_any (n : Int) (p : Int) _).mono ?_
        rintro r w2 ⟨rfl, rfl⟩
        rw [hv]
        rw [hv] at HLN
        clear hv
        by_cases h0 : v = 0
        · subst h0
          have HB := Lib.hid (show cmpC X Y = lx Lib.compareInt X.b Y.b by unfold cmpC; rw [HLN.out]; rfl)
          clear HZ HLN HV hk hkp
          go_wp2_with fail
          go_loopw [8] (fun i wr => ∃ k : Nat, k ≤ m ∧ k ≤ q ∧ i = .int .i64 k ∧ lx Lib.compareInt X.b Y.b = lx Lib.compareInt (X.b.drop k) (Y.b.drop k) ∧ Hp w [cbox (w.heap.size + 1) P p e Q q f, cbox w.heap.size A n c B m d] wr) (fun i _ => m - (intOf i).toNat)
          case atStart => exact ⟨0, Nat.zero_le _, Nat.zero_le _, rfl, rfl, V.out⟩
          case round =>
            clear V b0 b1 bg e0 e1 eg
            obtain ⟨k, hk, hkp, rfl, hz, V0⟩ := hrel
            have HZ := Lib.hid hz
            have V := Lib.hid V0
            clear hz V0
            obtain ⟨b0, b1, bg⟩ := V.out.cbox_at (i := 1) rfl
            obtain ⟨e0, e1, eg⟩ := V.out.cbox_at (i := 0) rfl
            by_cases hlt : k < m ∧ k < q
            · obtain ⟨hlt, hlp⟩ := hlt
              obtain ⟨u1, o1, rfl, hu1, x0⟩ := (HX.out.cb.below V.out.below).int (j := k) (by rw [HX.out.lb]; omega)
              obtain ⟨u2, o2, rfl, hu2, y0⟩ := (HY.out.cb.below V.out.below).int (j := k) (by rw [HY.out.lb]; omega)
              have HXX := Lib.hid (ints_get HX.out.lb hlt)
              have HYY := Lib.hid (ints_get HY.out.lb hlp)
              obtain ⟨x, hx⟩ : ∃ x, X.b.getD k 0 = x := ⟨_, rfl⟩
              obtain ⟨y, hy⟩ : ∃ y, Y.b.getD k 0 = y := ⟨_, rfl⟩
              rw [hx] at x0 HXX
              rw [hy] at y0 HYY
              clear hx hy
              go_upto_region 13 with fail
              have hKp : Keep [(⟨w.heap.size, 1, none⟩, .slice (some ⟨u1, o1, none⟩) m d), (⟨w.heap.size + 1, 1, none⟩, .slice (some ⟨u2, o2, none⟩) q f), (⟨u1, o1 + k, none⟩, .int .i64 x), (⟨u2, o2 + k, none⟩, .int .i64 y)] wr := List.forall_mem_cons.2 ⟨⟨b1, bg⟩, List.forall_mem_cons.2 ⟨⟨e1, eg⟩, List.forall_mem_cons.2 ⟨⟨x0, hu1⟩, List.forall_mem_cons.2 ⟨⟨y0, hu2⟩, fun _ h => by simp at h⟩⟩⟩⟩
              refine wp_region_held_drew (S := Keep _) (by kernel_rfl) hKp.drew (fun hHeld => ?_)
              obtain ⟨wf, hwf⟩ : ∃ z, z = wr.drew := ⟨_, rfl⟩
              have Vwf := Lib.hid (show Hp w (cbox (w.heap.size + 1) P p e (some ⟨u2, o2, none⟩) q f :: cbox w.heap.size A n c (some ⟨u1, o1, none⟩) m d :: []) wf by rw [hwf]; exact V.out.go (bdrew _))
              have Bwf := Lib.hid (show Below wr.heap.size wr wf by rw [hwf]; exact bdrew _)
              rw [← hwf] at hHeld ⊢
              clear hwf hKp
              refine tk 0 ?_ rfl ?_ ?_; rotate_left; focus (intro w hSw; clear hSw; go_simp; try (with_reducible rfl))
              try simp only [Act.put, sA, sZ, sS]
              refine tk 1 ?_ rfl ?_ ?_; rotate_left
              · intro wl hSw
                have hSw : Keep _ wl := hSw
                have k0 := (hSw _ (.head _)).1
                dsimp only at k0
                clear hSw
                go_simp
                try (with_reducible rfl)
              try simp only [Act.put, sA, sZ, sS]
              refine tk 2 ?_ rfl ?_ ?_; rotate_left; focus (intro w hSw; clear hSw; go_simp; try (with_reducible rfl))
              try simp only [Act.put, sA, sZ, sS]
              refine tk 3 ?_ rfl ?_ ?_; rotate_left; focus (intro w hSw; clear hSw; go_simp; try (with_reducible rfl))
              try simp only [Act.put, sA, sZ, sS]
              refine tk 4 ?_ rfl ?_ ?_; rotate_left
              · intro wl hSw
                have hSw : Keep _ wl := hSw
                have k0 := (hSw _ (.tail _ (.tail _ (.head _)))).1
                dsimp only at k0
                clear hSw
                go_simp
                try (with_reducible rfl)
              try simp only [Act.put, sA, sZ, sS]
              refine tk 5 ?_ rfl ?_ ?_; rotate_left; focus (intro w hSw; clear hSw; go_simp; try (with_reducible rfl))
              try simp only [Act.put, sA, sZ, sS]
              refine tk 6 ?_ rfl ?_ ?_; rotate_left
              · intro wl hSw
                have hSw : Keep _ wl := hSw
                have k0 := (hSw _ (.tail _ (.head _))).1
                dsimp only at k0
                clear hSw
                go_simp
                try (with_reducible rfl)
              try simp only [Act.put, sA, sZ, sS]
              refine tk 7 ?_ rfl ?_ ?_; rotate_left; focus (intro w hSw; clear hSw; go_simp; try (with_reducible rfl))
              try simp only [Act.put, sA, sZ, sS]
              refine tk 8 ?_ rfl ?_ ?_; rotate_left; focus (intro w hSw; clear hSw; go_simp; try (with_reducible rfl))
              try simp only [Act.put, sA, sZ, sS]
              refine tk 9 ?_ rfl ?_ ?_; rotate_left
              · intro wl hSw
                have hSw : Keep _ wl := hSw
                have k0 := (hSw _ (.tail _ (.tail _ (.tail _ (.head _))))).1
                dsimp only at k0
                clear hSw
                go_simp
                try (with_reducible rfl)
              try simp only [Act.put, sA, sZ, sS]
              refine wpAnyH_ready (rs := [10]) (by kernel_rfl) (by simp) ?_
              refine AllReadyH.cons (List.getElem?_toArray.trans rfl) (fun K hK => ?_) AllReadyH.nil
              go_simp
              refine (rorder14_any x y _).mono ?_
              rintro r w13 ⟨rfl, rfl⟩
              try go_wp2_with fail
              refine hK.out _ _ (hHeld) (fun hHeld => ?_)
              clear hK K
              try simp only [Act.put, sA, sZ, sS]
              refine tk 11 ?_ rfl ?_ ?_; rotate_left; focus (intro w hSw; clear hSw; go_simp; try (with_reducible rfl))
              try simp only [Act.put, sA, sZ, sS]
              refine wpAnyH_done (by kernel_rfl) ?_ _
              clear hHeld
              obtain ⟨v, hv⟩ : ∃ v, Lib.compareInt x y = v := ⟨_, rfl⟩
              have HS := Lib.hid (lx_step HXX.out HYY.out HZ.out)
              rw [hv]
              rw [hv] at HS
              clear hv
              obtain ⟨b0, b1, bg⟩ := Vwf.out.cbox_at (i := 1) rfl
              obtain ⟨e0, e1, eg⟩ := Vwf.out.cbox_at (i := 0) rfl
              by_cases h0 : v = 0
              · subst h0
                have HN := Lib.hid (show lx Lib.compareInt X.b Y.b = lx Lib.compareInt (X.b.drop (k + 1)) (Y.b.drop (k + 1)) from HS.out)
                go_wp2_with fail
                go_roundw
                case rel => exact ⟨k + 1, by omega, by omega, by go_num, HN.out, Vwf.out⟩
                case measure => simp [intOf]; omega
              · have HE := Lib.hid (show cmpC X Y = v by rw [HB.out, HS.out, if_pos h0])
                have hne : (v != 0) = true := bne_yes h0
                clear h0
                go_wp2_with fail
                go_ret
                exact ⟨sym_int HE.out, Vwf.out.below⟩
            · have HLN := Lib.hid (lx_lens (by rw [HX.out.lb]; exact hk) (by rw [HY.out.lb]; exact hkp) (by rw [HX.out.lb, HY.out.lb]; exact hlt) HZ.out)
              have hx : ¬ (k < m) ∨ (k < m ∧ ¬ k < q) := by omega
              have go : ∀ {G : Prop}, (k < m → ¬ k < q → G) → (¬ k < m → G) → G := fun h1 h2 => by
                rcases hx with h | ⟨h, h'⟩
                · exact h2 h
                · exact h1 h h'
              clear hlt hx
              go_upto_region 11 with fail
              go_cut [59] (fun r wx => r = .bool false ∧ wr = wx)
              case first =>
                refine go (fun h1 h2 => ?_) (fun h1 => ?_)
                · go_wp2_with fail
                  go_meet
                  exact ⟨rfl, rfl⟩
                · go_wp2_with fail
                  go_meet
                  exact ⟨rfl, rfl⟩
              case rest =>
                obtain ⟨rfl, rfl⟩ := hcut
                clear go
                rw [HX.out.lb, HY.out.lb] at HLN
                go_wp2_with fail
                refine (rorder14_any (m : Int) (q : Int) _).mono ?_
                rintro r w2 ⟨rfl, rfl⟩
                go_wp2_with fail
                go_ret
                exact ⟨sym_int (show cmpC X Y = _ by rw [HB.out, HLN.out]), V.out.below⟩
        · have HE := Lib.hid (show cmpC X Y = v by unfold cmpC; rw [HLN.out, if_pos h0])
          have hne : (v != 0) = true := bne_yes h0
          clear h0
          go_wp2_with fail
          go_ret
          exact ⟨sym_int HE.out, V.out.below⟩
set_option maxHeartbeats 4000000 in
theorem rsame14_any (X Y : Clu) (A : Option Addr) (n c : Nat) (B : Option Addr) (m d : Nat) (P : Option Addr) (p e : Nat) (Q : Option Addr) (q f : Nat) (w : World) (hX : CIn w A n B m X) (hY : CIn w P p Q q Y) :
    Calls Try.prog 26 #[.agg #[.slice A n c, .slice B m d], .agg #[.slice P p e, .slice Q q f]] w fun r w' => r = .returned (.bool (cmpC X Y == 0)) ∧ Below w.heap.size w w' := by
  have HX := Lib.hid hX
  have HY := Lib.hid hY
  have hn := hX.hn
  have hm := hX.hm
  have hp := hY.hn
  have hq := hY.hm
  have V1 := Lib.hid (((Hp.start w).cbox_new A n c B m d).cbox_new P p e Q q f)
  have hh : (w.alloc (.cells #[.slice A n c, .slice B m d] 25)).heap.size = w.heap.size + 1 := by simp
  rw [hh] at V1
  obtain ⟨b0, b1, bg⟩ := V1.out.cbox_at (i := 1) rfl
  obtain ⟨e0, e1, eg⟩ := V1.out.cbox_at (i := 0) rfl
  clear hX hY hh
  go_enter Try.func26, Try.ntmps26
  go_wp2_with fail
  refine (rccompare_any X Y A n c B m d P p e Q q f _ (HX.out.below V1.out.below) (HY.out.below V1.out.below)).mono ?_
  rintro r w1 ⟨rfl, hb1⟩
  have V2 := Lib.hid (V1.out.go hb1)
  clear hb1
  go_wp2_with fail
  go_ret
  exact ⟨rfl, V2.out.below⟩
end Go.Proofs.Ythcdbhancfpldaa
