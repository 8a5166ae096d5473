/- What the statement about sums answers: true, whatever the input. -/
import Derived.Test.YtkfkefgkepoaaaaGreatDoorIc
namespace Go.Proofs.YtkfkefgkepoaaaaGreatDoor
open Go.RowKit
set_option linter.unusedVariables false
set_option maxRecDepth 100000

set_option linter.unusedSimpArgs false
/-- What a region loads. -/
def Keep (l : List (Addr × Value)) (w : World) : Prop := ∀ p ∈ l, w.cell? p.1 = some p.2 ∧ p.1.block < w.heap.size
theorem Keep.go {l : List (Addr × Value)} {w w' : World} (h : Keep l w) (hb : Below w.heap.size w w') : Keep l w' := fun p hp =>
  ⟨(hb.cell (p := p.1) (h p hp).2).trans (h p hp).1, Nat.lt_of_lt_of_le (h p hp).2 hb.size⟩
theorem bdrew (w : World) : Below w.heap.size w w.drew := (Below.refl _ _).drew
theorem Keep.drew {l : List (Addr × Value)} {w : World} (h : Keep l w) : Keep l w.drew := h.go (bdrew _)
theorem grown_ofF {w w' : World} (h : Below w.heap.size w w') : w.grownBy w' none := ⟨h.os, h.tape, h.output, h.size, fun k hk _ => h.block k hk⟩
theorem own_goF {w w' : World} {base n sz : Nat} {e : TypeId} {v : Value} {xs : List Value} (h : w.ownsRow base e sz v n xs) (hb : Below w.heap.size w w') : w'.ownsRow base e sz v n xs :=
  h.kept (grown_ofF hb) (by cases v.ownBlock <;> simp)
/-- The block of z is none of the row that grows. -/
theorem boxf_grown {W w w' : World} {lb : List (Nat × FB)} {row : Option Nat} (h : BoxF W lb [] w) (hg : w.grownBy w' row) (hr : ∀ k, row = some k → W.heap.size ≤ k ∧ ∀ x ∈ lb, ¬ x.1 = k) : BoxF W lb [] w' :=
  ⟨fun g f hm => ⟨(h.1 g f hm).1, (hg.block g (lt_of_block (h.1 g f hm).2) (fun e => (hr g e.symm).2 _ hm rfl)).trans (h.1 g f hm).2⟩, fun v x hm => by simp at hm, h.2.2.grown hg h.2.2.size (fun k hk => (hr k hk).1)⟩
theorem sumL_snoc {l : List FL} {x : FL} {s : Bool} {p q : Int} (h : sumL l = (s, p, q, 0)) (hx : vldF x.s x.L x.M = true) : sumL (l ++ [x]) = sumR s x.s p q (val x.L) (val x.M) := by
  unfold sumL at h ⊢
  cases hv : allV l with
  | false => rw [hv] at h; simp at h
  | true =>
    rw [hv, if_pos rfl] at h
    have e : allV (l ++ [x]) = true := by unfold allV at hv ⊢; rw [List.all_append, hv]; simpa using hx
    rw [e, if_pos rfl, foldS_snoc, h, if_pos rfl]
theorem new_frc {w : World} {g : Nat} {x : FL} (h0 : w.cell? ⟨g, 0, none⟩ = some (.bool x.s)) (h1 : w.cell? ⟨g, 1, none⟩ = some (.slice x.A x.n x.c)) (h2 : w.cell? ⟨g, 2, none⟩ = some (.slice x.B x.m x.d)) :
    ∀ (j : Nat) (u : Value), (frcCells x)[j]? = some u → w.cell? ((⟨g, 0, none⟩ : Addr).add j) = some u := by
  intro j u hu
  have e : (⟨g, 0, none⟩ : Addr).add j = ⟨g, j, none⟩ := by unfold Addr.add; split <;> simp_all
  rw [e]
  match j, hu with
  | 0, hu => injection hu with hu; subst hu; exact h0
  | 1, hu => injection hu with hu; subst hu; exact h1
  | 2, hu => injection hu with hu; subst hu; exact h2
  | j + 3, hu => simp [frcCells] at hu
theorem fadd_is (r : Bool × Int × Int × Int) (s s2 : Bool) (n c m d n2 c2 m2 d2 : Nat) (p q u t : Int) (A B A2 B2 : Option Addr) (W : World) (hr : r = sumR s s2 p q u t) (hp : NumAt W (.slice A n c) p) (hq : NumAt W (.slice B m d) q) (hu : NumAt W (.slice A2 n2 c2) u) (ht : NumAt W (.slice B2 m2 d2) t) (h : Fr s p q) (k : Fr s2 u t) :
    Calls Tryz.prog 11 #[.agg #[.bool s, .slice A n c, .slice B m d], .agg #[.bool s2, .slice A2 n2 c2, .slice B2 m2 d2]] W (FrE r W) := by
  rw [hr]; exact fadd_num s s2 n c m d n2 c2 m2 d2 p q u t A B A2 B2 W hp hq hu ht h k
theorem same_self (s : Bool) (n c m d n2 c2 m2 d2 : Nat) (x y : Int) (A B A2 B2 : Option Addr) (W : World) (hx : NumAt W (.slice A n c) x) (hy : NumAt W (.slice B m d) y) (hx2 : NumAt W (.slice A2 n2 c2) x) (hy2 : NumAt W (.slice B2 m2 d2) y) :
    Calls Tryz.prog 9 #[.agg #[.bool s, .slice A n c, .slice B m d], .agg #[.bool s, .slice A2 n2 c2, .slice B2 m2 d2]] W fun e w' => e = .returned (.bool true) ∧ Below W.heap.size W w' := by
  have := same03_b s s n c m d n2 c2 m2 d2 x y x y A B A2 B2 W hx hy hx2 hy2
  rwa [decide_eq_true (⟨rfl, rfl, rfl⟩ : s = s ∧ x = x ∧ y = y)] at this
set_option maxHeartbeats 16000000 in
theorem lawsum_any (l : List FL) (A0 : Option Addr) (n c : Nat) (a b : Int) (W : World) (hn : l.length = n) (hnb : n ≤ 17592186044416) (hA : FracL W A0 l) (ha : -32768 ≤ a) (ha2 : a ≤ 32767) (hb : 0 ≤ b) (hb2 : b ≤ 255) (hT : Tab W) (hC : Cutl W) :
    Calls Tryz.prog 3 #[.slice A0 n c, .agg #[.int .i16 a, .int .u8 b]] W fun e w' => e = .returned (.bool true) ∧ Below W.heap.size W w' := by
  obtain ⟨W0, hW0⟩ : ∃ x, x = W.alloc (.cells #[.int .i16 a, .int .u8 b] 25) := ⟨_, rfl⟩
  have hr : W0.heap[W.heap.size]? = some (.cells #[.int .i16 a, .int .u8 b] 25 (0, 0)) := by rw [hW0]; exact heap_alloc_new W _
  have B0 := Lib.hid (show Below W.heap.size W W0 by rw [hW0]; exact one_new)
  have HC0 := Lib.hid (show W0.cell? ⟨W.heap.size, 0, none⟩ = some (.int .i16 a) ∧ W0.cell? ⟨W.heap.size, 1, none⟩ = some (.int .u8 b) ∧ W.heap.size < W0.heap.size from ⟨by rw [cell_of_row _ _ 0 _ _ _ hr]; rfl, by rw [cell_of_row _ _ 1 _ _ _ hr]; rfl, lt_of_block hr⟩)
  have HT := Lib.hid hT
  have HC := Lib.hid hC
  have HW0 := Lib.hid hW0
  have HL := Lib.hid hn
  have HA := Lib.hid hA
  clear hT hC hr hW0 hn hA
  by_cases h12 : 12 < n
  · have g12 : decide ((12 : Int) < (n : Int)) = true := decide_eq_true (by omega)
    go_enter Tryz.func3, Tryz.ntmps3
    go_upto_region 1 with fail
    rw [← HW0.out]
    go_wp2_with fail
    refine (awake_any _ (HT.out.below B0.out) (HC.out.below B0.out)).mono ?_
    rintro e w1 ⟨rfl, b1⟩
    have B1 := Lib.hid (btwo B0.out b1)
    clear b1
    go_wp2_with fail
    refine (awake_any _ (HT.out.below B1.out) (HC.out.below B1.out)).mono ?_
    rintro e w2 ⟨rfl, b2⟩
    go_wp2_with fail
    go_ret
    exact ⟨rfl, btwo B1.out b2⟩
  · have g12 : decide ((12 : Int) < (n : Int)) = false := decide_eq_false (by omega)
    cases hf : fewF (lens l) 60 with
    | false =>
      have HF := Lib.hid hf
      clear hf
      go_enter Tryz.func3, Tryz.ntmps3
      go_upto_region 1 with fail
      rw [← HW0.out]
      go_wp2_with fail
      refine (awake_any _ (HT.out.below B0.out) (HC.out.below B0.out)).mono ?_
      rintro e w1 ⟨rfl, b1⟩
      have B1 := Lib.hid (btwo B0.out b1)
      clear b1
      go_wp2_with fail
      refine (fewL_any l A0 n c 60 _ HL.out (by omega) (by omega) (HA.out.below B1.out)).mono ?_
      rintro e w2 ⟨rfl, b2⟩
      rw [HF.out]
      have B2 := Lib.hid (btwo B1.out b2)
      clear b2
      go_wp2_with fail
      refine (awake_any _ (HT.out.below B2.out) (HC.out.below B2.out)).mono ?_
      rintro e w3 ⟨rfl, b3⟩
      go_wp2_with fail
      go_ret
      exact ⟨rfl, btwo B2.out b3⟩
    | true =>
      have HF := Lib.hid hf
      clear hf
      go_enter Tryz.func3, Tryz.ntmps3
      go_upto_region 1 with fail
      rw [← HW0.out]
      clear HW0
      go_wp2_with fail
      refine (awake_any _ (HT.out.below B0.out) (HC.out.below B0.out)).mono ?_
      rintro e w1 ⟨rfl, b1⟩
      have B1 := Lib.hid (btwo B0.out b1)
      obtain ⟨c0, c1, c2⟩ := HC0.out
      have c0 := (b1.cell (p := ⟨W.heap.size, 0, none⟩) c2).trans c0
      have c1 := (b1.cell (p := ⟨W.heap.size, 1, none⟩) c2).trans c1
      have c2 := Nat.lt_of_lt_of_le c2 b1.size
      clear b1 HC0
      go_wp2_with fail
      refine (fewL_any l A0 n c 60 _ HL.out (by omega) (by omega) (HA.out.below B1.out)).mono ?_
      rintro e w2 ⟨rfl, b2⟩
      rw [HF.out]
      have B2 := Lib.hid (btwo B1.out b2)
      have c0 := (b2.cell (p := ⟨W.heap.size, 0, none⟩) c2).trans c0
      have c1 := (b2.cell (p := ⟨W.heap.size, 1, none⟩) c2).trans c1
      have c2 := Nat.lt_of_lt_of_le c2 b2.size
      clear b2 HF
      go_wp2_with fail
      refine (cloneF_any l n c A0 _ HL.out.symm (by omega) (HA.out.below B2.out)).mono ?_
      rintro e w3 ⟨C, d, rfl, hcd, hl3, ho3, b3⟩
      have HL3 := Lib.hid hl3
      have B3 := Lib.hid (btwo B2.out b3)
      have c0 := (b3.cell (p := ⟨W.heap.size, 0, none⟩) c2).trans c0
      have c1 := (b3.cell (p := ⟨W.heap.size, 1, none⟩) c2).trans c1
      have c2 := Nat.lt_of_lt_of_le c2 b3.size
      clear b3 hl3 ho3
      obtain ⟨⟨s, p, q, er⟩, hs⟩ : ∃ r, r = sumL l := ⟨_, rfl⟩
      have HSL := Lib.hid hs
      have HG := Lib.hid (show GoodF (s, p, q, er) by rw [hs]; exact sumL_good l)
      have HS1 := Lib.hid (fun A c w (h : FracL w A l) => show Calls Tryz.prog 6 #[.slice A n c] w (FrE (s, p, q, er) w) by rw [hs]; exact fsum_any l A n c w HL.out (by omega) h)
      have HS2 := Lib.hid (fun A c w (h : FracL w A l) => show Calls Tryz.prog 8 #[.slice A n c] w (FrE (s, p, q, er) w) by rw [hs]; exact rsumL_any l A n c w HL.out (by omega) h)
      clear hs
      go_wp2_with fail
      refine (HS1.out C d _ HL3.out).mono ?_
      rintro e w4 ⟨Ax, cx, kx, Bx, dx, lx, rfl, nx, mx, bx⟩
      have B4 := Lib.hid (btwo B3.out bx)
      have U4 := Lib.hid (((BoxF.start W).go B4.out).num mx |>.num nx)
      have V4 := Lib.hid (U4.out.new s Ax kx cx Bx lx dx)
      have c0 := (bx.cell (p := ⟨W.heap.size, 0, none⟩) c2).trans c0
      have c1 := (bx.cell (p := ⟨W.heap.size, 1, none⟩) c2).trans c1
      have c2 := Nat.lt_of_lt_of_le c2 bx.size
      clear nx mx bx
      go_wp2_with fail
      refine (HS2.out A0 c _ (HA.out.below V4.out.2.2)).mono ?_
      rintro e w5 ⟨Ay, cy, ky, By, dy, ly, rfl, ny, my, bx⟩
      have U5 := Lib.hid (((V4.out.go bx).num my).num ny)
      have V5 := Lib.hid (U5.out.new s Ay ky cy By ly dy)
      have bx2 := Lib.hid (btwo (one_new (w := w4) (o := .cells #[.bool s, .slice Ax kx cx, .slice Bx lx dx] 32)) bx)
      have c0 := (bx2.out.cell (p := ⟨W.heap.size, 0, none⟩) c2).trans c0
      have c1 := (bx2.out.cell (p := ⟨W.heap.size, 1, none⟩) c2).trans c1
      have c2 := Nat.lt_of_lt_of_le c2 bx2.out.size
      have D4 := (U5.out.lt (.head _)).2
      clear ny my bx bx2
      obtain ⟨wz, hwz⟩ : ∃ z, z = w5.alloc (.cells #[.bool s, .slice Ay ky cy, .slice By ly dy] 32) := ⟨_, rfl⟩
      have b5 := Lib.hid (show Below w5.heap.size w5 wz by rw [hwz]; exact one_new)
      rw [← hwz] at V5
      have HWZ := Lib.hid hwz
      have c0 := (b5.out.cell (p := ⟨W.heap.size, 0, none⟩) c2).trans c0
      have c1 := (b5.out.cell (p := ⟨W.heap.size, 1, none⟩) c2).trans c1
      have c2 := Nat.lt_of_lt_of_le c2 b5.out.size
      clear hwz b5
      obtain ⟨y0, y1, y2, y3⟩ := V5.out.box (.head _)
      obtain ⟨x0, x1, x2, x3⟩ := V5.out.box (.tail _ (.head _))
      have gne : (er != er) = false := by simp
      have geq : (er == er) = true := by simp
      by_cases he : er = 0
      · subst he
        have HFR := Lib.hid (HG.out.fr rfl)
        go_upto_region 5 with fail
        rw [← HWZ.out]
        go_wp2_with fail
        refine (same_self s kx cx lx dx ky cy ly dy p q Ax Bx Ay By _ (V5.out.at (.tail _ (.tail _ (.head _)))) (V5.out.at (.tail _ (.tail _ (.tail _ (.head _))))) (V5.out.at (.head _)) (V5.out.at (.tail _ (.head _)))).mono ?_
        rintro e w6 ⟨rfl, b6⟩
        have V6 := Lib.hid (V5.out.go b6)
        have c0 := (b6.cell (p := ⟨W.heap.size, 0, none⟩) c2).trans c0
        have c1 := (b6.cell (p := ⟨W.heap.size, 1, none⟩) c2).trans c1
        clear b6 x0 x1 x2 x3 y0 y1 y2 y3
        go_wp2_with fail
        refine (rmade_any a b _ ha ha2 hb hb2).mono ?_
        rintro e w7 ⟨s2, p2, q2, Am, cm, km, Bm, dm, lm, rfl, nm, mm, zm, _, bx⟩
        have HZM := Lib.hid zm
        have U7 := Lib.hid (((V6.out.go bx).num mm).num nm)
        have V7 := Lib.hid (U7.out.new s2 Am km cm Bm lm dm)
        clear nm mm zm bx c0 c1 c2
        obtain ⟨wb, hwb⟩ : ∃ z, z = w7.alloc (.cells #[.bool s2, .slice Am km cm, .slice Bm lm dm] 32) := ⟨_, rfl⟩
        have BWB := Lib.hid (show Below W.heap.size W wb by rw [hwb]; exact V7.out.2.2)
        rw [← hwb] at V7
        have HWB := Lib.hid hwb
        clear hwb
        obtain ⟨m0, m1, m2, m3⟩ := V7.out.box (.head _)
        have FS0 := Lib.hid ((BoxF.start wb))
        obtain ⟨i0, hi0, hz0, hz1, hz2⟩ := info_parts frc_info
        have HI := Lib.hid (And.intro hi0 (And.intro hz0 (And.intro hz1 hz2)))
        obtain ⟨a1, a2, a3, a4, a5, a6, a7, a8⟩ := num_in (V7.out.at (.head _))
        obtain ⟨d1, d2, d3, d4, d5, d6, d7, d8⟩ := num_in (V7.out.at (.tail _ (.head _)))
        have hkm : km ≤ 17592186044416 := by have := (vldB_true a6).1; omega
        have hlm : lm ≤ 17592186044416 := by have := (vldB_true d6).1; omega
        obtain ⟨fm, hfm⟩ : ∃ f : FL, f = ⟨s2, digs p2, digs q2, km, cm, lm, dm, Am, Bm⟩ := ⟨_, rfl⟩
        have HFI := Lib.hid (show fm.In wb from by rw [hfm]; exact ⟨⟨a1, d1, a2, d2, ⟨hkm, by dsimp only; unfold maxLen at a4; omega⟩, ⟨hlm, by dsimp only; unfold maxLen at d4; omega⟩⟩, a5, d5⟩)
        have HVM := Lib.hid (show vldF fm.s fm.L fm.M = true by rw [hfm]; exact vldF_digs HZM.out.1 a6 d6 a7 d7)
        obtain ⟨⟨sz, pz, qz, ez⟩, hsz⟩ : ∃ r, r = sumL (l ++ [fm]) := ⟨_, rfl⟩
        have HSZ := Lib.hid (show (sz, pz, qz, ez) = sumR s s2 p q p2 q2 by rw [hsz, sumL_snoc HSL.out.symm HVM.out, hfm]; dsimp only; rw [a7, d7])
        have HS3 := Lib.hid (fun A c w (h : FracL w A (l ++ [fm])) => show Calls Tryz.prog 6 #[.slice A (n + 1) c] w (FrE (sz, pz, qz, ez) w) by rw [hsz]; exact fsum_any (l ++ [fm]) A (n + 1) c w (by rw [List.length_append, HL.out]; rfl) (by omega) h)
        have HF := Lib.hid hfm
        have HFR2 := Lib.hid HZM.out.1
        clear hi0 hz0 hz1 hz2 a1 a2 a3 a4 a5 a6 a7 a8 d1 d2 d3 d4 d5 d6 d7 d8 hkm hlm hsz hfm HS1 HS2 HSL
        go_upto_region 8 with fail
        rw [← HWB.out]
        go_cut [10, 11] (fun s10 s11 wx => ∃ gz Az cz kz Bz dz lz, s10 = .pointer (some ⟨gz, 0, none⟩) ∧ s11 = .int .i64 ez ∧ BoxF wb [(gz, ⟨sz, Az, kz, cz, Bz, lz, dz⟩)] [(.slice Az kz cz, pz), (.slice Bz lz dz, qz)] wx)
        case first =>
          have hKp : Keep [(⟨w7.heap.size, 0, none⟩, .bool s2), (⟨w7.heap.size, 1, none⟩, .slice Am km cm), (⟨w7.heap.size, 2, none⟩, .slice Bm lm dm)] wb := List.forall_mem_cons.2 ⟨⟨m0, m3⟩, List.forall_mem_cons.2 ⟨⟨m1, m3⟩, List.forall_mem_cons.2 ⟨⟨m2, m3⟩, fun _ h => by simp at h⟩⟩⟩
          refine wp_region_held_drew (S := Keep [(⟨w7.heap.size, 0, none⟩, .bool s2), (⟨w7.heap.size, 1, none⟩, .slice Am km cm), (⟨w7.heap.size, 2, none⟩, .slice Bm lm dm)]) (by kernel_rfl) hKp.drew (fun hHeld => ?_)
          have FS0d := Lib.hid (FS0.out.go (bdrew _))
          refine wpAnyH_take (i := 0) (v := ?_) (List.getElem?_toArray.trans rfl) (by kernel_rfl) (by kernel_rfl) (by kernel_rfl) (fun _ _ _ h => h) (Or.inl ⟨by rfl, ?_⟩) (by assumption) ?_
          rotate_left
          · intro w hSw; clear hSw; go_simp; try (with_reducible rfl)
          try simp only [Act.put, List.setIfInBounds_toArray, List.set_cons_zero, List.set_cons_succ]
          refine wpAnyH_take (i := 2) (v := ?_) (List.getElem?_toArray.trans rfl) (by kernel_rfl) (by kernel_rfl) (by kernel_rfl) (fun _ _ _ h => h) (Or.inl ⟨by rfl, ?_⟩) (by assumption) ?_
          rotate_left
          · intro wl hSw
            have hSw : Keep [(⟨w7.heap.size, 0, none⟩, .bool s2), (⟨w7.heap.size, 1, none⟩, .slice Am km cm), (⟨w7.heap.size, 2, none⟩, .slice Bm lm dm)] wl := hSw
            have k0 : wl.cell? ⟨w7.heap.size, 0, none⟩ = some (.bool s2) := (hSw _ (.head _)).1
            have k1 : wl.cell? ⟨w7.heap.size, 1, none⟩ = some (.slice Am km cm) := (hSw _ (.tail _ (.head _))).1
            have k2 : wl.cell? ⟨w7.heap.size, 2, none⟩ = some (.slice Bm lm dm) := (hSw _ (.tail _ (.tail _ (.head _)))).1
            clear hSw
            go_simp
            try (with_reducible rfl)
          try simp only [Act.put, List.setIfInBounds_toArray, List.set_cons_zero, List.set_cons_succ]
          refine wpAnyH_ready (rs := [1, 3, 9]) (by kernel_rfl) (by simp) ?_
          refine AllReadyH.cons (List.getElem?_toArray.trans rfl) (fun K hK => ?_) ?_
          · go_simp
            refine (cloneF_any l n c A0 _ HL.out.symm (by omega) (HA.out.below (btwo BWB.out FS0d.out.2.2))).mono ?_
            rintro e w_1 ⟨C, d, rfl, hcd, hl3, ho3, b_1⟩
            try go_wp2_with fail
            have FS_1 := Lib.hid (FS0d.out.go b_1)
            have HO_1 := Lib.hid ho3
            have hs_1 := b_1.size
            have HK_1 := Lib.hid (show ∀ k, (Value.slice C n d).ownBlock = some k → wb.heap.size ≤ k ∧ ∀ x ∈ ([] : List (Nat × FB)), ¬ x.1 = k from fun k hk => ⟨by have q1 := (HO_1.out.lt k hk).1; have q2 := FS0d.out.2.2.size; omega, fun _ h => by simp at h⟩)
            clear hl3 ho3
            refine hK.out _ _ (hHeld.go b_1) (fun hHeld => ?_)
            clear hK K
            try simp only [Act.put, List.setIfInBounds_toArray, List.set_cons_zero, List.set_cons_succ]
            refine wpAnyH_ready (rs := [3, 9]) (by kernel_rfl) (by simp) ?_
            refine AllReadyH.cons (List.getElem?_toArray.trans rfl) (fun K hK => ?_) ?_
            · obtain ⟨w_1_3, hw_1_3⟩ : ∃ z, z = (w_1.alloc (.cells #[.bool s2, .slice Am km cm, .slice Bm lm dm] 32)) := ⟨_, rfl⟩
              have FS_1_3 := Lib.hid (show BoxF wb ((w_1.heap.size, ⟨s2, Am, km, cm, Bm, lm, dm⟩) :: _) [] w_1_3 by rw [hw_1_3]; exact FS_1.out.new s2 Am km cm Bm lm dm)
              have Bw_1_3 := Lib.hid (show Below w_1.heap.size w_1 w_1_3 by rw [hw_1_3]; exact bnewF _ _)
              have hs_1_3 := Bw_1_3.out.size
              have HO_1_3 := Lib.hid (own_goF HO_1.out Bw_1_3.out)
              have HK_1_3 := Lib.hid (show ∀ k, (Value.slice C n d).ownBlock = some k → wb.heap.size ≤ k ∧ ∀ x ∈ ((w_1.heap.size, ⟨s2, Am, km, cm, Bm, lm, dm⟩) :: [] : List (Nat × FB)), ¬ x.1 = k from fun k hk => ⟨(HK_1.out k hk).1, List.forall_mem_cons.2 ⟨by have q1 := (HO_1.out.lt k hk).2; show ¬ w_1.heap.size = k; have q3 : w_1.heap.size = w_1.heap.size := rfl; omega, (HK_1.out k hk).2⟩⟩)
              go_simp
              rw [← hw_1_3]
              clear hw_1_3
              refine hK.out _ _ (hHeld.go Bw_1_3.out) (fun hHeld => ?_)
              clear hK K
              try simp only [Act.put, List.setIfInBounds_toArray, List.set_cons_zero, List.set_cons_succ]
              refine wpAnyH_ready (rs := [4, 9]) (by kernel_rfl) (by simp) ?_
              refine AllReadyH.cons (List.getElem?_toArray.trans rfl) (fun K hK => ?_) ?_
              · obtain ⟨n0, n1, n2, n3⟩ := FS_1_3.out.box (.head _)
                refine step_append_lies _ rfl (.tmp 66) (.tmp 68) 22 rfl (wb.drew.heap.size) 32 i0 _ 3 56 Tryz.underlying22 HI.out.1 HI.out.2.1 HI.out.2.2.1 HI.out.2.2.2 rfl (by omega) (.slice C n d) n (frcsCells l) rfl HO_1_3.out ⟨w_1.heap.size, 0, none⟩ 1 1 (frcCells fm) rfl rfl (new_frc (by rw [HF.out]; exact n0) (by rw [HF.out]; exact n1) (by rw [HF.out]; exact n2)) (frc_one _) (by omega) (by unfold maxLen; omega) (by omega) (by omega) _ rfl ?_
                intro gA capA wA hown4 hgrow hat hlt4
                have FS_1_3_4 := Lib.hid (boxf_grown FS_1_3.out hgrow HK_1_3.out)
                have HF4 := Lib.hid (show FracL wA (some ⟨gA, 0, none⟩) (l ++ [fm]) from ⟨fun x hx => by
                  rcases List.mem_append.1 hx with hx | hx
                  · exact (HA.out.1 x hx).below (btwo BWB.out FS_1_3_4.out.2.2)
                  · rw [List.mem_singleton.1 hx]; exact HFI.out.below FS_1_3_4.out.2.2, frcs_own (by rw [frcs_snoc]; exact hown4) (by rw [List.length_append, HL.out]; rfl)⟩)
                clear hown4 hgrow hat hlt4 n0 n1 n2 n3
                refine hK.out _ _ (List.forall_mem_cons.2 ⟨⟨(FS_1_3_4.out.2.2.cell (p := ⟨w7.heap.size, 0, none⟩) m3).trans m0, Nat.lt_of_lt_of_le m3 FS_1_3_4.out.2.2.size⟩, List.forall_mem_cons.2 ⟨⟨(FS_1_3_4.out.2.2.cell (p := ⟨w7.heap.size, 1, none⟩) m3).trans m1, Nat.lt_of_lt_of_le m3 FS_1_3_4.out.2.2.size⟩, List.forall_mem_cons.2 ⟨⟨(FS_1_3_4.out.2.2.cell (p := ⟨w7.heap.size, 2, none⟩) m3).trans m2, Nat.lt_of_lt_of_le m3 FS_1_3_4.out.2.2.size⟩, fun _ h => by simp at h⟩⟩⟩) (fun hHeld => ?_)
                clear hK K
                try simp only [Act.put, List.setIfInBounds_toArray, List.set_cons_zero, List.set_cons_succ]
                refine wpAnyH_ready (rs := [5, 9]) (by kernel_rfl) (by simp) ?_
                refine AllReadyH.cons (List.getElem?_toArray.trans rfl) (fun K hK => ?_) ?_
                · go_simp
                  refine (HS3.out _ _ _ HF4.out).mono ?_
                  rintro e w_1_3_4_5 ⟨Az, cz, kz, Bz, dz, lz, rfl, nz, mz, b_1_3_4_5⟩
                  try go_wp2_with fail
                  have FS_1_3_4_5 := Lib.hid (((FS_1_3_4.out.go b_1_3_4_5).num mz).num nz)
                  refine hK.out _ _ (hHeld.go b_1_3_4_5) (fun hHeld => ?_)
                  clear hK K
                  try simp only [Act.put, List.setIfInBounds_toArray, List.set_cons_zero, List.set_cons_succ]
                  refine wpAnyH_take (i := 6) (v := ?_) (List.getElem?_toArray.trans rfl) (by kernel_rfl) (by kernel_rfl) (by kernel_rfl) (fun _ _ _ h => h) (Or.inl ⟨by rfl, ?_⟩) (by assumption) ?_
                  rotate_left
                  · intro w hSw; clear hSw; go_simp; try (with_reducible rfl)
                  try simp only [Act.put, List.setIfInBounds_toArray, List.set_cons_zero, List.set_cons_succ]
                  refine wpAnyH_take (i := 7) (v := ?_) (List.getElem?_toArray.trans rfl) (by kernel_rfl) (by kernel_rfl) (by kernel_rfl) (fun _ _ _ h => h) (Or.inl ⟨by rfl, ?_⟩) (by assumption) ?_
                  rotate_left
                  · intro w hSw; clear hSw; go_simp; try (with_reducible rfl)
                  try simp only [Act.put, List.setIfInBounds_toArray, List.set_cons_zero, List.set_cons_succ]
                  refine wpAnyH_take (i := 8) (v := ?_) (List.getElem?_toArray.trans rfl) (by kernel_rfl) (by kernel_rfl) (by kernel_rfl) (fun _ _ _ h => h) (Or.inl ⟨by rfl, ?_⟩) (by assumption) ?_
                  rotate_left
                  · intro w hSw; clear hSw; go_simp; try (with_reducible rfl)
                  try simp only [Act.put, List.setIfInBounds_toArray, List.set_cons_zero, List.set_cons_succ]
                  refine wpAnyH_ready (rs := [9]) (by kernel_rfl) (by simp) ?_
                  refine AllReadyH.cons (List.getElem?_toArray.trans rfl) (fun K hK => ?_) AllReadyH.nil
                  obtain ⟨w_1_3_4_5_9, hw_1_3_4_5_9⟩ : ∃ z, z = (w_1_3_4_5.alloc (.cells #[.bool false, .slice none 0 0, .slice none 0 0] 32)) := ⟨_, rfl⟩
                  have FS_1_3_4_5_9 := Lib.hid (show BoxF wb ((w_1_3_4_5.heap.size, ⟨false, none, 0, 0, none, 0, 0⟩) :: _) _ w_1_3_4_5_9 by rw [hw_1_3_4_5_9]; exact FS_1_3_4_5.out.new false none 0 0 none 0 0)
                  have Bw_1_3_4_5_9 := Lib.hid (show Below w_1_3_4_5.heap.size w_1_3_4_5 w_1_3_4_5_9 by rw [hw_1_3_4_5_9]; exact bnewF _ _)
                  go_simp
                  rw [← hw_1_3_4_5_9]
                  clear hw_1_3_4_5_9
                  refine hK.out _ _ (hHeld.go Bw_1_3_4_5_9.out) (fun hHeld => ?_)
                  clear hK K
                  try simp only [Act.put, List.setIfInBounds_toArray, List.set_cons_zero, List.set_cons_succ]
                  refine wpAnyH_ready (rs := [10]) (by kernel_rfl) (by simp) ?_
                  refine AllReadyH.cons (List.getElem?_toArray.trans rfl) (fun K hK => ?_) AllReadyH.nil
                  obtain ⟨z0, z1, z2, z3⟩ := FS_1_3_4_5_9.out.box (.head _)
                  obtain ⟨o0, o1, o2⟩ := FS_1_3_4_5_9.out.open (.head _)
                  have FSE := Lib.hid (FS_1_3_4_5_9.out.set (.head _) ⟨sz, Az, kz, cz, Bz, lz, dz⟩ [(w_1_3_4_5.heap.size, ⟨sz, Az, kz, cz, Bz, lz, dz⟩)] (List.forall_mem_cons.2 ⟨.inl rfl, fun _ h => by simp at h⟩))
                  go_simp
                  refine hK.out _ _ (List.forall_mem_cons.2 ⟨⟨(FSE.out.2.2.cell (p := ⟨w7.heap.size, 0, none⟩) m3).trans m0, Nat.lt_of_lt_of_le m3 FSE.out.2.2.size⟩, List.forall_mem_cons.2 ⟨⟨(FSE.out.2.2.cell (p := ⟨w7.heap.size, 1, none⟩) m3).trans m1, Nat.lt_of_lt_of_le m3 FSE.out.2.2.size⟩, List.forall_mem_cons.2 ⟨⟨(FSE.out.2.2.cell (p := ⟨w7.heap.size, 2, none⟩) m3).trans m2, Nat.lt_of_lt_of_le m3 FSE.out.2.2.size⟩, fun _ h => by simp at h⟩⟩⟩) (fun hHeld => ?_)
                  clear hK K
                  try simp only [Act.put, List.setIfInBounds_toArray, List.set_cons_zero, List.set_cons_succ]
                  refine wpAnyH_take (i := 11) (v := ?_) (List.getElem?_toArray.trans rfl) (by kernel_rfl) (by kernel_rfl) (by kernel_rfl) (fun _ _ _ h => h) (Or.inl ⟨by rfl, ?_⟩) (by assumption) ?_
                  rotate_left
                  · intro w hSw; clear hSw; go_simp; try (with_reducible rfl)
                  try simp only [Act.put, List.setIfInBounds_toArray, List.set_cons_zero, List.set_cons_succ]
                  refine wpAnyH_done (by kernel_rfl) ?_ _
                  go_wp2_with fail
                  go_meet
                  exact ⟨_, _, _, _, _, _, _, rfl, rfl, FSE.out⟩
                refine AllReadyH.cons (List.getElem?_toArray.trans rfl) (fun K hK => ?_) ?_
                · obtain ⟨w_1_3_4_9, hw_1_3_4_9⟩ : ∃ z, z = (wA.alloc (.cells #[.bool false, .slice none 0 0, .slice none 0 0] 32)) := ⟨_, rfl⟩
                  have FS_1_3_4_9 := Lib.hid (show BoxF wb ((wA.heap.size, ⟨false, none, 0, 0, none, 0, 0⟩) :: _) [] w_1_3_4_9 by rw [hw_1_3_4_9]; exact FS_1_3_4.out.new false none 0 0 none 0 0)
                  have Bw_1_3_4_9 := Lib.hid (show Below wA.heap.size wA w_1_3_4_9 by rw [hw_1_3_4_9]; exact bnewF _ _)
                  have hs_1_3_4_9 := Bw_1_3_4_9.out.size
                  have HF4 := Lib.hid (HF4.out.below Bw_1_3_4_9.out)
                  go_simp
                  rw [← hw_1_3_4_9]
                  clear hw_1_3_4_9
                  refine hK.out _ _ (hHeld.go Bw_1_3_4_9.out) (fun hHeld => ?_)
                  clear hK K
                  try simp only [Act.put, List.setIfInBounds_toArray, List.set_cons_zero, List.set_cons_succ]
                  refine wpAnyH_ready (rs := [5]) (by kernel_rfl) (by simp) ?_
                  refine AllReadyH.cons (List.getElem?_toArray.trans rfl) (fun K hK => ?_) AllReadyH.nil
                  go_simp
                  refine (HS3.out _ _ _ HF4.out).mono ?_
                  rintro e w_1_3_4_9_5 ⟨Az, cz, kz, Bz, dz, lz, rfl, nz, mz, b_1_3_4_9_5⟩
                  try go_wp2_with fail
                  have FS_1_3_4_9_5 := Lib.hid (((FS_1_3_4_9.out.go b_1_3_4_9_5).num mz).num nz)
                  refine hK.out _ _ (hHeld.go b_1_3_4_9_5) (fun hHeld => ?_)
                  clear hK K
                  try simp only [Act.put, List.setIfInBounds_toArray, List.set_cons_zero, List.set_cons_succ]
                  refine wpAnyH_take (i := 6) (v := ?_) (List.getElem?_toArray.trans rfl) (by kernel_rfl) (by kernel_rfl) (by kernel_rfl) (fun _ _ _ h => h) (Or.inl ⟨by rfl, ?_⟩) (by assumption) ?_
                  rotate_left
                  · intro w hSw; clear hSw; go_simp; try (with_reducible rfl)
                  try simp only [Act.put, List.setIfInBounds_toArray, List.set_cons_zero, List.set_cons_succ]
                  refine wpAnyH_take (i := 7) (v := ?_) (List.getElem?_toArray.trans rfl) (by kernel_rfl) (by kernel_rfl) (by kernel_rfl) (fun _ _ _ h => h) (Or.inl ⟨by rfl, ?_⟩) (by assumption) ?_
                  rotate_left
                  · intro w hSw; clear hSw; go_simp; try (with_reducible rfl)
                  try simp only [Act.put, List.setIfInBounds_toArray, List.set_cons_zero, List.set_cons_succ]
                  refine wpAnyH_take (i := 8) (v := ?_) (List.getElem?_toArray.trans rfl) (by kernel_rfl) (by kernel_rfl) (by kernel_rfl) (fun _ _ _ h => h) (Or.inl ⟨by rfl, ?_⟩) (by assumption) ?_
                  rotate_left
                  · intro w hSw; clear hSw; go_simp; try (with_reducible rfl)
                  try simp only [Act.put, List.setIfInBounds_toArray, List.set_cons_zero, List.set_cons_succ]
                  refine wpAnyH_ready (rs := [10]) (by kernel_rfl) (by simp) ?_
                  refine AllReadyH.cons (List.getElem?_toArray.trans rfl) (fun K hK => ?_) AllReadyH.nil
                  obtain ⟨z0, z1, z2, z3⟩ := FS_1_3_4_9_5.out.box (.head _)
                  obtain ⟨o0, o1, o2⟩ := FS_1_3_4_9_5.out.open (.head _)
                  have FSE := Lib.hid (FS_1_3_4_9_5.out.set (.head _) ⟨sz, Az, kz, cz, Bz, lz, dz⟩ [(wA.heap.size, ⟨sz, Az, kz, cz, Bz, lz, dz⟩)] (List.forall_mem_cons.2 ⟨.inl rfl, fun _ h => by simp at h⟩))
                  go_simp
                  refine hK.out _ _ (List.forall_mem_cons.2 ⟨⟨(FSE.out.2.2.cell (p := ⟨w7.heap.size, 0, none⟩) m3).trans m0, Nat.lt_of_lt_of_le m3 FSE.out.2.2.size⟩, List.forall_mem_cons.2 ⟨⟨(FSE.out.2.2.cell (p := ⟨w7.heap.size, 1, none⟩) m3).trans m1, Nat.lt_of_lt_of_le m3 FSE.out.2.2.size⟩, List.forall_mem_cons.2 ⟨⟨(FSE.out.2.2.cell (p := ⟨w7.heap.size, 2, none⟩) m3).trans m2, Nat.lt_of_lt_of_le m3 FSE.out.2.2.size⟩, fun _ h => by simp at h⟩⟩⟩) (fun hHeld => ?_)
                  clear hK K
                  try simp only [Act.put, List.setIfInBounds_toArray, List.set_cons_zero, List.set_cons_succ]
                  refine wpAnyH_take (i := 11) (v := ?_) (List.getElem?_toArray.trans rfl) (by kernel_rfl) (by kernel_rfl) (by kernel_rfl) (fun _ _ _ h => h) (Or.inl ⟨by rfl, ?_⟩) (by assumption) ?_
                  rotate_left
                  · intro w hSw; clear hSw; go_simp; try (with_reducible rfl)
                  try simp only [Act.put, List.setIfInBounds_toArray, List.set_cons_zero, List.set_cons_succ]
                  refine wpAnyH_done (by kernel_rfl) ?_ _
                  go_wp2_with fail
                  go_meet
                  exact ⟨_, _, _, _, _, _, _, rfl, rfl, FSE.out⟩
                exact AllReadyH.nil
              refine AllReadyH.cons (List.getElem?_toArray.trans rfl) (fun K hK => ?_) ?_
              · obtain ⟨w_1_3_9, hw_1_3_9⟩ : ∃ z, z = (w_1_3.alloc (.cells #[.bool false, .slice none 0 0, .slice none 0 0] 32)) := ⟨_, rfl⟩
                have FS_1_3_9 := Lib.hid (show BoxF wb ((w_1_3.heap.size, ⟨false, none, 0, 0, none, 0, 0⟩) :: _) [] w_1_3_9 by rw [hw_1_3_9]; exact FS_1_3.out.new false none 0 0 none 0 0)
                have Bw_1_3_9 := Lib.hid (show Below w_1_3.heap.size w_1_3 w_1_3_9 by rw [hw_1_3_9]; exact bnewF _ _)
                have hs_1_3_9 := Bw_1_3_9.out.size
                have HO_1_3_9 := Lib.hid (own_goF HO_1_3.out Bw_1_3_9.out)
                have HK_1_3_9 := Lib.hid (show ∀ k, (Value.slice C n d).ownBlock = some k → wb.heap.size ≤ k ∧ ∀ x ∈ ((w_1_3.heap.size, ⟨false, none, 0, 0, none, 0, 0⟩) :: [(w_1.heap.size, ⟨s2, Am, km, cm, Bm, lm, dm⟩)] : List (Nat × FB)), ¬ x.1 = k from fun k hk => ⟨(HK_1_3.out k hk).1, List.forall_mem_cons.2 ⟨by have q1 := (HO_1_3.out.lt k hk).2; show ¬ w_1_3.heap.size = k; have q3 : w_1_3.heap.size = w_1_3.heap.size := rfl; omega, (HK_1_3.out k hk).2⟩⟩)
                go_simp
                rw [← hw_1_3_9]
                clear hw_1_3_9
                refine hK.out _ _ (hHeld.go Bw_1_3_9.out) (fun hHeld => ?_)
                clear hK K
                try simp only [Act.put, List.setIfInBounds_toArray, List.set_cons_zero, List.set_cons_succ]
                refine wpAnyH_ready (rs := [4]) (by kernel_rfl) (by simp) ?_
                refine AllReadyH.cons (List.getElem?_toArray.trans rfl) (fun K hK => ?_) AllReadyH.nil
                obtain ⟨n0, n1, n2, n3⟩ := FS_1_3_9.out.box (.tail _ (.head _))
                refine step_append_lies _ rfl (.tmp 66) (.tmp 68) 22 rfl (wb.drew.heap.size) 32 i0 _ 3 56 Tryz.underlying22 HI.out.1 HI.out.2.1 HI.out.2.2.1 HI.out.2.2.2 rfl (by omega) (.slice C n d) n (frcsCells l) rfl HO_1_3_9.out ⟨w_1.heap.size, 0, none⟩ 1 1 (frcCells fm) rfl rfl (new_frc (by rw [HF.out]; exact n0) (by rw [HF.out]; exact n1) (by rw [HF.out]; exact n2)) (frc_one _) (by omega) (by unfold maxLen; omega) (by omega) (by omega) _ rfl ?_
                intro gA capA wA hown4 hgrow hat hlt4
                have FS_1_3_9_4 := Lib.hid (boxf_grown FS_1_3_9.out hgrow HK_1_3_9.out)
                have HF4 := Lib.hid (show FracL wA (some ⟨gA, 0, none⟩) (l ++ [fm]) from ⟨fun x hx => by
                  rcases List.mem_append.1 hx with hx | hx
                  · exact (HA.out.1 x hx).below (btwo BWB.out FS_1_3_9_4.out.2.2)
                  · rw [List.mem_singleton.1 hx]; exact HFI.out.below FS_1_3_9_4.out.2.2, frcs_own (by rw [frcs_snoc]; exact hown4) (by rw [List.length_append, HL.out]; rfl)⟩)
                clear hown4 hgrow hat hlt4 n0 n1 n2 n3
                refine hK.out _ _ (List.forall_mem_cons.2 ⟨⟨(FS_1_3_9_4.out.2.2.cell (p := ⟨w7.heap.size, 0, none⟩) m3).trans m0, Nat.lt_of_lt_of_le m3 FS_1_3_9_4.out.2.2.size⟩, List.forall_mem_cons.2 ⟨⟨(FS_1_3_9_4.out.2.2.cell (p := ⟨w7.heap.size, 1, none⟩) m3).trans m1, Nat.lt_of_lt_of_le m3 FS_1_3_9_4.out.2.2.size⟩, List.forall_mem_cons.2 ⟨⟨(FS_1_3_9_4.out.2.2.cell (p := ⟨w7.heap.size, 2, none⟩) m3).trans m2, Nat.lt_of_lt_of_le m3 FS_1_3_9_4.out.2.2.size⟩, fun _ h => by simp at h⟩⟩⟩) (fun hHeld => ?_)
                clear hK K
                try simp only [Act.put, List.setIfInBounds_toArray, List.set_cons_zero, List.set_cons_succ]
                refine wpAnyH_ready (rs := [5]) (by kernel_rfl) (by simp) ?_
                refine AllReadyH.cons (List.getElem?_toArray.trans rfl) (fun K hK => ?_) AllReadyH.nil
                go_simp
                refine (HS3.out _ _ _ HF4.out).mono ?_
                rintro e w_1_3_9_4_5 ⟨Az, cz, kz, Bz, dz, lz, rfl, nz, mz, b_1_3_9_4_5⟩
                try go_wp2_with fail
                have FS_1_3_9_4_5 := Lib.hid (((FS_1_3_9_4.out.go b_1_3_9_4_5).num mz).num nz)
                refine hK.out _ _ (hHeld.go b_1_3_9_4_5) (fun hHeld => ?_)
                clear hK K
                try simp only [Act.put, List.setIfInBounds_toArray, List.set_cons_zero, List.set_cons_succ]
                refine wpAnyH_take (i := 6) (v := ?_) (List.getElem?_toArray.trans rfl) (by kernel_rfl) (by kernel_rfl) (by kernel_rfl) (fun _ _ _ h => h) (Or.inl ⟨by rfl, ?_⟩) (by assumption) ?_
                rotate_left
                · intro w hSw; clear hSw; go_simp; try (with_reducible rfl)
                try simp only [Act.put, List.setIfInBounds_toArray, List.set_cons_zero, List.set_cons_succ]
                refine wpAnyH_take (i := 7) (v := ?_) (List.getElem?_toArray.trans rfl) (by kernel_rfl) (by kernel_rfl) (by kernel_rfl) (fun _ _ _ h => h) (Or.inl ⟨by rfl, ?_⟩) (by assumption) ?_
                rotate_left
                · intro w hSw; clear hSw; go_simp; try (with_reducible rfl)
                try simp only [Act.put, List.setIfInBounds_toArray, List.set_cons_zero, List.set_cons_succ]
                refine wpAnyH_take (i := 8) (v := ?_) (List.getElem?_toArray.trans rfl) (by kernel_rfl) (by kernel_rfl) (by kernel_rfl) (fun _ _ _ h => h) (Or.inl ⟨by rfl, ?_⟩) (by assumption) ?_
                rotate_left
                · intro w hSw; clear hSw; go_simp; try (with_reducible rfl)
                try simp only [Act.put, List.setIfInBounds_toArray, List.set_cons_zero, List.set_cons_succ]
                refine wpAnyH_ready (rs := [10]) (by kernel_rfl) (by simp) ?_
                refine AllReadyH.cons (List.getElem?_toArray.trans rfl) (fun K hK => ?_) AllReadyH.nil
                obtain ⟨z0, z1, z2, z3⟩ := FS_1_3_9_4_5.out.box (.head _)
                obtain ⟨o0, o1, o2⟩ := FS_1_3_9_4_5.out.open (.head _)
                have FSE := Lib.hid (FS_1_3_9_4_5.out.set (.head _) ⟨sz, Az, kz, cz, Bz, lz, dz⟩ [(w_1_3.heap.size, ⟨sz, Az, kz, cz, Bz, lz, dz⟩)] (List.forall_mem_cons.2 ⟨.inl rfl, fun _ h => by simp at h⟩))
                go_simp
                refine hK.out _ _ (List.forall_mem_cons.2 ⟨⟨(FSE.out.2.2.cell (p := ⟨w7.heap.size, 0, none⟩) m3).trans m0, Nat.lt_of_lt_of_le m3 FSE.out.2.2.size⟩, List.forall_mem_cons.2 ⟨⟨(FSE.out.2.2.cell (p := ⟨w7.heap.size, 1, none⟩) m3).trans m1, Nat.lt_of_lt_of_le m3 FSE.out.2.2.size⟩, List.forall_mem_cons.2 ⟨⟨(FSE.out.2.2.cell (p := ⟨w7.heap.size, 2, none⟩) m3).trans m2, Nat.lt_of_lt_of_le m3 FSE.out.2.2.size⟩, fun _ h => by simp at h⟩⟩⟩) (fun hHeld => ?_)
                clear hK K
                try simp only [Act.put, List.setIfInBounds_toArray, List.set_cons_zero, List.set_cons_succ]
                refine wpAnyH_take (i := 11) (v := ?_) (List.getElem?_toArray.trans rfl) (by kernel_rfl) (by kernel_rfl) (by kernel_rfl) (fun _ _ _ h => h) (Or.inl ⟨by rfl, ?_⟩) (by assumption) ?_
                rotate_left
                · intro w hSw; clear hSw; go_simp; try (with_reducible rfl)
                try simp only [Act.put, List.setIfInBounds_toArray, List.set_cons_zero, List.set_cons_succ]
                refine wpAnyH_done (by kernel_rfl) ?_ _
                go_wp2_with fail
                go_meet
                exact ⟨_, _, _, _, _, _, _, rfl, rfl, FSE.out⟩
              exact AllReadyH.nil
            refine AllReadyH.cons (List.getElem?_toArray.trans rfl) (fun K hK => ?_) ?_
            · obtain ⟨w_1_9, hw_1_9⟩ : ∃ z, z = (w_1.alloc (.cells #[.bool false, .slice none 0 0, .slice none 0 0] 32)) := ⟨_, rfl⟩
              have FS_1_9 := Lib.hid (show BoxF wb ((w_1.heap.size, ⟨false, none, 0, 0, none, 0, 0⟩) :: _) [] w_1_9 by rw [hw_1_9]; exact FS_1.out.new false none 0 0 none 0 0)
              have Bw_1_9 := Lib.hid (show Below w_1.heap.size w_1 w_1_9 by rw [hw_1_9]; exact bnewF _ _)
              have hs_1_9 := Bw_1_9.out.size
              have HO_1_9 := Lib.hid (own_goF HO_1.out Bw_1_9.out)
              have HK_1_9 := Lib.hid (show ∀ k, (Value.slice C n d).ownBlock = some k → wb.heap.size ≤ k ∧ ∀ x ∈ ((w_1.heap.size, ⟨false, none, 0, 0, none, 0, 0⟩) :: [] : List (Nat × FB)), ¬ x.1 = k from fun k hk => ⟨(HK_1.out k hk).1, List.forall_mem_cons.2 ⟨by have q1 := (HO_1.out.lt k hk).2; show ¬ w_1.heap.size = k; have q3 : w_1.heap.size = w_1.heap.size := rfl; omega, (HK_1.out k hk).2⟩⟩)
              go_simp
              rw [← hw_1_9]
              clear hw_1_9
              refine hK.out _ _ (hHeld.go Bw_1_9.out) (fun hHeld => ?_)
              clear hK K
              try simp only [Act.put, List.setIfInBounds_toArray, List.set_cons_zero, List.set_cons_succ]
              refine wpAnyH_ready (rs := [3]) (by kernel_rfl) (by simp) ?_
              refine AllReadyH.cons (List.getElem?_toArray.trans rfl) (fun K hK => ?_) AllReadyH.nil
              obtain ⟨w_1_9_3, hw_1_9_3⟩ : ∃ z, z = (w_1_9.alloc (.cells #[.bool s2, .slice Am km cm, .slice Bm lm dm] 32)) := ⟨_, rfl⟩
              have FS_1_9_3 := Lib.hid (show BoxF wb ((w_1_9.heap.size, ⟨s2, Am, km, cm, Bm, lm, dm⟩) :: _) [] w_1_9_3 by rw [hw_1_9_3]; exact FS_1_9.out.new s2 Am km cm Bm lm dm)
              have Bw_1_9_3 := Lib.hid (show Below w_1_9.heap.size w_1_9 w_1_9_3 by rw [hw_1_9_3]; exact bnewF _ _)
              have hs_1_9_3 := Bw_1_9_3.out.size
              have HO_1_9_3 := Lib.hid (own_goF HO_1_9.out Bw_1_9_3.out)
              have HK_1_9_3 := Lib.hid (show ∀ k, (Value.slice C n d).ownBlock = some k → wb.heap.size ≤ k ∧ ∀ x ∈ ((w_1_9.heap.size, ⟨s2, Am, km, cm, Bm, lm, dm⟩) :: [(w_1.heap.size, ⟨false, none, 0, 0, none, 0, 0⟩)] : List (Nat × FB)), ¬ x.1 = k from fun k hk => ⟨(HK_1_9.out k hk).1, List.forall_mem_cons.2 ⟨by have q1 := (HO_1_9.out.lt k hk).2; show ¬ w_1_9.heap.size = k; have q3 : w_1_9.heap.size = w_1_9.heap.size := rfl; omega, (HK_1_9.out k hk).2⟩⟩)
              go_simp
              rw [← hw_1_9_3]
              clear hw_1_9_3
              refine hK.out _ _ (hHeld.go Bw_1_9_3.out) (fun hHeld => ?_)
              clear hK K
              try simp only [Act.put, List.setIfInBounds_toArray, List.set_cons_zero, List.set_cons_succ]
              refine wpAnyH_ready (rs := [4]) (by kernel_rfl) (by simp) ?_
              refine AllReadyH.cons (List.getElem?_toArray.trans rfl) (fun K hK => ?_) AllReadyH.nil
              obtain ⟨n0, n1, n2, n3⟩ := FS_1_9_3.out.box (.head _)
              refine step_append_lies _ rfl (.tmp 66) (.tmp 68) 22 rfl (wb.drew.heap.size) 32 i0 _ 3 56 Tryz.underlying22 HI.out.1 HI.out.2.1 HI.out.2.2.1 HI.out.2.2.2 rfl (by omega) (.slice C n d) n (frcsCells l) rfl HO_1_9_3.out ⟨w_1_9.heap.size, 0, none⟩ 1 1 (frcCells fm) rfl rfl (new_frc (by rw [HF.out]; exact n0) (by rw [HF.out]; exact n1) (by rw [HF.out]; exact n2)) (frc_one _) (by omega) (by unfold maxLen; omega) (by omega) (by omega) _ rfl ?_
              intro gA capA wA hown4 hgrow hat hlt4
              have FS_1_9_3_4 := Lib.hid (boxf_grown FS_1_9_3.out hgrow HK_1_9_3.out)
              have HF4 := Lib.hid (show FracL wA (some ⟨gA, 0, none⟩) (l ++ [fm]) from ⟨fun x hx => by
                  rcases List.mem_append.1 hx with hx | hx
                  · exact (HA.out.1 x hx).below (btwo BWB.out FS_1_9_3_4.out.2.2)
                  · rw [List.mem_singleton.1 hx]; exact HFI.out.below FS_1_9_3_4.out.2.2, frcs_own (by rw [frcs_snoc]; exact hown4) (by rw [List.length_append, HL.out]; rfl)⟩)
              clear hown4 hgrow hat hlt4 n0 n1 n2 n3
              refine hK.out _ _ (List.forall_mem_cons.2 ⟨⟨(FS_1_9_3_4.out.2.2.cell (p := ⟨w7.heap.size, 0, none⟩) m3).trans m0, Nat.lt_of_lt_of_le m3 FS_1_9_3_4.out.2.2.size⟩, List.forall_mem_cons.2 ⟨⟨(FS_1_9_3_4.out.2.2.cell (p := ⟨w7.heap.size, 1, none⟩) m3).trans m1, Nat.lt_of_lt_of_le m3 FS_1_9_3_4.out.2.2.size⟩, List.forall_mem_cons.2 ⟨⟨(FS_1_9_3_4.out.2.2.cell (p := ⟨w7.heap.size, 2, none⟩) m3).trans m2, Nat.lt_of_lt_of_le m3 FS_1_9_3_4.out.2.2.size⟩, fun _ h => by simp at h⟩⟩⟩) (fun hHeld => ?_)
              clear hK K
              try simp only [Act.put, List.setIfInBounds_toArray, List.set_cons_zero, List.set_cons_succ]
              refine wpAnyH_ready (rs := [5]) (by kernel_rfl) (by simp) ?_
              refine AllReadyH.cons (List.getElem?_toArray.trans rfl) (fun K hK => ?_) AllReadyH.nil
              go_simp
              refine (HS3.out _ _ _ HF4.out).mono ?_
              rintro e w_1_9_3_4_5 ⟨Az, cz, kz, Bz, dz, lz, rfl, nz, mz, b_1_9_3_4_5⟩
              try go_wp2_with fail
              have FS_1_9_3_4_5 := Lib.hid (((FS_1_9_3_4.out.go b_1_9_3_4_5).num mz).num nz)
              refine hK.out _ _ (hHeld.go b_1_9_3_4_5) (fun hHeld => ?_)
              clear hK K
              try simp only [Act.put, List.setIfInBounds_toArray, List.set_cons_zero, List.set_cons_succ]
              refine wpAnyH_take (i := 6) (v := ?_) (List.getElem?_toArray.trans rfl) (by kernel_rfl) (by kernel_rfl) (by kernel_rfl) (fun _ _ _ h => h) (Or.inl ⟨by rfl, ?_⟩) (by assumption) ?_
              rotate_left
              · intro w hSw; clear hSw; go_simp; try (with_reducible rfl)
              try simp only [Act.put, List.setIfInBounds_toArray, List.set_cons_zero, List.set_cons_succ]
              refine wpAnyH_take (i := 7) (v := ?_) (List.getElem?_toArray.trans rfl) (by kernel_rfl) (by kernel_rfl) (by kernel_rfl) (fun _ _ _ h => h) (Or.inl ⟨by rfl, ?_⟩) (by assumption) ?_
              rotate_left
              · intro w hSw; clear hSw; go_simp; try (with_reducible rfl)
              try simp only [Act.put, List.setIfInBounds_toArray, List.set_cons_zero, List.set_cons_succ]
              refine wpAnyH_take (i := 8) (v := ?_) (List.getElem?_toArray.trans rfl) (by kernel_rfl) (by kernel_rfl) (by kernel_rfl) (fun _ _ _ h => h) (Or.inl ⟨by rfl, ?_⟩) (by assumption) ?_
              rotate_left
              · intro w hSw; clear hSw; go_simp; try (with_reducible rfl)
              try simp only [Act.put, List.setIfInBounds_toArray, List.set_cons_zero, List.set_cons_succ]
              refine wpAnyH_ready (rs := [10]) (by kernel_rfl) (by simp) ?_
              refine AllReadyH.cons (List.getElem?_toArray.trans rfl) (fun K hK => ?_) AllReadyH.nil
              obtain ⟨z0, z1, z2, z3⟩ := FS_1_9_3_4_5.out.box (.tail _ (.head _))
              obtain ⟨o0, o1, o2⟩ := FS_1_9_3_4_5.out.open (.tail _ (.head _))
              have FSE := Lib.hid (FS_1_9_3_4_5.out.set (.tail _ (.head _)) ⟨sz, Az, kz, cz, Bz, lz, dz⟩ [(w_1.heap.size, ⟨sz, Az, kz, cz, Bz, lz, dz⟩)] (List.forall_mem_cons.2 ⟨.inl rfl, fun _ h => by simp at h⟩))
              go_simp
              refine hK.out _ _ (List.forall_mem_cons.2 ⟨⟨(FSE.out.2.2.cell (p := ⟨w7.heap.size, 0, none⟩) m3).trans m0, Nat.lt_of_lt_of_le m3 FSE.out.2.2.size⟩, List.forall_mem_cons.2 ⟨⟨(FSE.out.2.2.cell (p := ⟨w7.heap.size, 1, none⟩) m3).trans m1, Nat.lt_of_lt_of_le m3 FSE.out.2.2.size⟩, List.forall_mem_cons.2 ⟨⟨(FSE.out.2.2.cell (p := ⟨w7.heap.size, 2, none⟩) m3).trans m2, Nat.lt_of_lt_of_le m3 FSE.out.2.2.size⟩, fun _ h => by simp at h⟩⟩⟩) (fun hHeld => ?_)
              clear hK K
              try simp only [Act.put, List.setIfInBounds_toArray, List.set_cons_zero, List.set_cons_succ]
              refine wpAnyH_take (i := 11) (v := ?_) (List.getElem?_toArray.trans rfl) (by kernel_rfl) (by kernel_rfl) (by kernel_rfl) (fun _ _ _ h => h) (Or.inl ⟨by rfl, ?_⟩) (by assumption) ?_
              rotate_left
              · intro w hSw; clear hSw; go_simp; try (with_reducible rfl)
              try simp only [Act.put, List.setIfInBounds_toArray, List.set_cons_zero, List.set_cons_succ]
              refine wpAnyH_done (by kernel_rfl) ?_ _
              go_wp2_with fail
              go_meet
              exact ⟨_, _, _, _, _, _, _, rfl, rfl, FSE.out⟩
            exact AllReadyH.nil
          refine AllReadyH.cons (List.getElem?_toArray.trans rfl) (fun K hK => ?_) ?_
          · obtain ⟨w_3, hw_3⟩ : ∃ z, z = (wb.alloc (.cells #[.bool s2, .slice Am km cm, .slice Bm lm dm] 32)).drew := ⟨_, rfl⟩
            have FS_3 := Lib.hid (show BoxF wb ((wb.heap.size, ⟨s2, Am, km, cm, Bm, lm, dm⟩) :: _) [] w_3 by rw [hw_3]; exact FS0d.out.new s2 Am km cm Bm lm dm)
            have Bw_3 := Lib.hid (show Below wb.drew.heap.size wb.drew w_3 by rw [hw_3]; exact bnewF _ _)
            have hs_3 := Bw_3.out.size
            go_simp
            rw [← hw_3]
            clear hw_3
            refine hK.out _ _ (hHeld.go Bw_3.out) (fun hHeld => ?_)
            clear hK K
            try simp only [Act.put, List.setIfInBounds_toArray, List.set_cons_zero, List.set_cons_succ]
            refine wpAnyH_ready (rs := [1, 9]) (by kernel_rfl) (by simp) ?_
            refine AllReadyH.cons (List.getElem?_toArray.trans rfl) (fun K hK => ?_) ?_
            · go_simp
              refine (cloneF_any l n c A0 _ HL.out.symm (by omega) (HA.out.below (btwo BWB.out FS_3.out.2.2))).mono ?_
              rintro e w_3_1 ⟨C, d, rfl, hcd, hl3, ho3, b_3_1⟩
              try go_wp2_with fail
              have FS_3_1 := Lib.hid (FS_3.out.go b_3_1)
              have HO_3_1 := Lib.hid ho3
              have hs_3_1 := b_3_1.size
              have HK_3_1 := Lib.hid (show ∀ k, (Value.slice C n d).ownBlock = some k → wb.heap.size ≤ k ∧ ∀ x ∈ ([(wb.heap.size, ⟨s2, Am, km, cm, Bm, lm, dm⟩)] : List (Nat × FB)), ¬ x.1 = k from fun k hk => ⟨by have q1 := (HO_3_1.out.lt k hk).1; have q2 := FS_3.out.2.2.size; omega, List.forall_mem_cons.2 ⟨(by have q1 := (FS_3.out.lt (.head _)).2; have q2 := (HO_3_1.out.lt k hk).1; show ¬ wb.heap.size = k; omega), fun _ h => by simp at h⟩⟩)
              clear hl3 ho3
              refine hK.out _ _ (hHeld.go b_3_1) (fun hHeld => ?_)
              clear hK K
              try simp only [Act.put, List.setIfInBounds_toArray, List.set_cons_zero, List.set_cons_succ]
              refine wpAnyH_ready (rs := [4, 9]) (by kernel_rfl) (by simp) ?_
              refine AllReadyH.cons (List.getElem?_toArray.trans rfl) (fun K hK => ?_) ?_
              · obtain ⟨n0, n1, n2, n3⟩ := FS_3_1.out.box (.head _)
                refine step_append_lies _ rfl (.tmp 66) (.tmp 68) 22 rfl (w_3.heap.size) 32 i0 _ 3 56 Tryz.underlying22 HI.out.1 HI.out.2.1 HI.out.2.2.1 HI.out.2.2.2 rfl (by omega) (.slice C n d) n (frcsCells l) rfl HO_3_1.out ⟨wb.heap.size, 0, none⟩ 1 1 (frcCells fm) rfl rfl (new_frc (by rw [HF.out]; exact n0) (by rw [HF.out]; exact n1) (by rw [HF.out]; exact n2)) (frc_one _) (by omega) (by unfold maxLen; omega) (by omega) (by omega) _ rfl ?_
                intro gA capA wA hown4 hgrow hat hlt4
                have FS_3_1_4 := Lib.hid (boxf_grown FS_3_1.out hgrow HK_3_1.out)
                have HF4 := Lib.hid (show FracL wA (some ⟨gA, 0, none⟩) (l ++ [fm]) from ⟨fun x hx => by
                  rcases List.mem_append.1 hx with hx | hx
                  · exact (HA.out.1 x hx).below (btwo BWB.out FS_3_1_4.out.2.2)
                  · rw [List.mem_singleton.1 hx]; exact HFI.out.below FS_3_1_4.out.2.2, frcs_own (by rw [frcs_snoc]; exact hown4) (by rw [List.length_append, HL.out]; rfl)⟩)
                clear hown4 hgrow hat hlt4 n0 n1 n2 n3
                refine hK.out _ _ (List.forall_mem_cons.2 ⟨⟨(FS_3_1_4.out.2.2.cell (p := ⟨w7.heap.size, 0, none⟩) m3).trans m0, Nat.lt_of_lt_of_le m3 FS_3_1_4.out.2.2.size⟩, List.forall_mem_cons.2 ⟨⟨(FS_3_1_4.out.2.2.cell (p := ⟨w7.heap.size, 1, none⟩) m3).trans m1, Nat.lt_of_lt_of_le m3 FS_3_1_4.out.2.2.size⟩, List.forall_mem_cons.2 ⟨⟨(FS_3_1_4.out.2.2.cell (p := ⟨w7.heap.size, 2, none⟩) m3).trans m2, Nat.lt_of_lt_of_le m3 FS_3_1_4.out.2.2.size⟩, fun _ h => by simp at h⟩⟩⟩) (fun hHeld => ?_)
                clear hK K
                try simp only [Act.put, List.setIfInBounds_toArray, List.set_cons_zero, List.set_cons_succ]
                refine wpAnyH_ready (rs := [5, 9]) (by kernel_rfl) (by simp) ?_
                refine AllReadyH.cons (List.getElem?_toArray.trans rfl) (fun K hK => ?_) ?_
                · go_simp
                  refine (HS3.out _ _ _ HF4.out).mono ?_
                  rintro e w_3_1_4_5 ⟨Az, cz, kz, Bz, dz, lz, rfl, nz, mz, b_3_1_4_5⟩
                  try go_wp2_with fail
                  have FS_3_1_4_5 := Lib.hid (((FS_3_1_4.out.go b_3_1_4_5).num mz).num nz)
                  refine hK.out _ _ (hHeld.go b_3_1_4_5) (fun hHeld => ?_)
                  clear hK K
                  try simp only [Act.put, List.setIfInBounds_toArray, List.set_cons_zero, List.set_cons_succ]
                  refine wpAnyH_take (i := 6) (v := ?_) (List.getElem?_toArray.trans rfl) (by kernel_rfl) (by kernel_rfl) (by kernel_rfl) (fun _ _ _ h => h) (Or.inl ⟨by rfl, ?_⟩) (by assumption) ?_
                  rotate_left
                  · intro w hSw; clear hSw; go_simp; try (with_reducible rfl)
                  try simp only [Act.put, List.setIfInBounds_toArray, List.set_cons_zero, List.set_cons_succ]
                  refine wpAnyH_take (i := 7) (v := ?_) (List.getElem?_toArray.trans rfl) (by kernel_rfl) (by kernel_rfl) (by kernel_rfl) (fun _ _ _ h => h) (Or.inl ⟨by rfl, ?_⟩) (by assumption) ?_
                  rotate_left
                  · intro w hSw; clear hSw; go_simp; try (with_reducible rfl)
                  try simp only [Act.put, List.setIfInBounds_toArray, List.set_cons_zero, List.set_cons_succ]
                  refine wpAnyH_take (i := 8) (v := ?_) (List.getElem?_toArray.trans rfl) (by kernel_rfl) (by kernel_rfl) (by kernel_rfl) (fun _ _ _ h => h) (Or.inl ⟨by rfl, ?_⟩) (by assumption) ?_
                  rotate_left
                  · intro w hSw; clear hSw; go_simp; try (with_reducible rfl)
                  try simp only [Act.put, List.setIfInBounds_toArray, List.set_cons_zero, List.set_cons_succ]
                  refine wpAnyH_ready (rs := [9]) (by kernel_rfl) (by simp) ?_
                  refine AllReadyH.cons (List.getElem?_toArray.trans rfl) (fun K hK => ?_) AllReadyH.nil
                  obtain ⟨w_3_1_4_5_9, hw_3_1_4_5_9⟩ : ∃ z, z = (w_3_1_4_5.alloc (.cells #[.bool false, .slice none 0 0, .slice none 0 0] 32)) := ⟨_, rfl⟩
                  have FS_3_1_4_5_9 := Lib.hid (show BoxF wb ((w_3_1_4_5.heap.size, ⟨false, none, 0, 0, none, 0, 0⟩) :: _) _ w_3_1_4_5_9 by rw [hw_3_1_4_5_9]; exact FS_3_1_4_5.out.new false none 0 0 none 0 0)
                  have Bw_3_1_4_5_9 := Lib.hid (show Below w_3_1_4_5.heap.size w_3_1_4_5 w_3_1_4_5_9 by rw [hw_3_1_4_5_9]; exact bnewF _ _)
                  go_simp
                  rw [← hw_3_1_4_5_9]
                  clear hw_3_1_4_5_9
                  refine hK.out _ _ (hHeld.go Bw_3_1_4_5_9.out) (fun hHeld => ?_)
                  clear hK K
                  try simp only [Act.put, List.setIfInBounds_toArray, List.set_cons_zero, List.set_cons_succ]
                  refine wpAnyH_ready (rs := [10]) (by kernel_rfl) (by simp) ?_
                  refine AllReadyH.cons (List.getElem?_toArray.trans rfl) (fun K hK => ?_) AllReadyH.nil
                  obtain ⟨z0, z1, z2, z3⟩ := FS_3_1_4_5_9.out.box (.head _)
                  obtain ⟨o0, o1, o2⟩ := FS_3_1_4_5_9.out.open (.head _)
                  have FSE := Lib.hid (FS_3_1_4_5_9.out.set (.head _) ⟨sz, Az, kz, cz, Bz, lz, dz⟩ [(w_3_1_4_5.heap.size, ⟨sz, Az, kz, cz, Bz, lz, dz⟩)] (List.forall_mem_cons.2 ⟨.inl rfl, fun _ h => by simp at h⟩))
                  go_simp
                  refine hK.out _ _ (List.forall_mem_cons.2 ⟨⟨(FSE.out.2.2.cell (p := ⟨w7.heap.size, 0, none⟩) m3).trans m0, Nat.lt_of_lt_of_le m3 FSE.out.2.2.size⟩, List.forall_mem_cons.2 ⟨⟨(FSE.out.2.2.cell (p := ⟨w7.heap.size, 1, none⟩) m3).trans m1, Nat.lt_of_lt_of_le m3 FSE.out.2.2.size⟩, List.forall_mem_cons.2 ⟨⟨(FSE.out.2.2.cell (p := ⟨w7.heap.size, 2, none⟩) m3).trans m2, Nat.lt_of_lt_of_le m3 FSE.out.2.2.size⟩, fun _ h => by simp at h⟩⟩⟩) (fun hHeld => ?_)
                  clear hK K
                  try simp only [Act.put, List.setIfInBounds_toArray, List.set_cons_zero, List.set_cons_succ]
                  refine wpAnyH_take (i := 11) (v := ?_) (List.getElem?_toArray.trans rfl) (by kernel_rfl) (by kernel_rfl) (by kernel_rfl) (fun _ _ _ h => h) (Or.inl ⟨by rfl, ?_⟩) (by assumption) ?_
                  rotate_left
                  · intro w hSw; clear hSw; go_simp; try (with_reducible rfl)
                  try simp only [Act.put, List.setIfInBounds_toArray, List.set_cons_zero, List.set_cons_succ]
                  refine wpAnyH_done (by kernel_rfl) ?_ _
                  go_wp2_with fail
                  go_meet
                  exact ⟨_, _, _, _, _, _, _, rfl, rfl, FSE.out⟩
                refine AllReadyH.cons (List.getElem?_toArray.trans rfl) (fun K hK => ?_) ?_
                · obtain ⟨w_3_1_4_9, hw_3_1_4_9⟩ : ∃ z, z = (wA.alloc (.cells #[.bool false, .slice none 0 0, .slice none 0 0] 32)) := ⟨_, rfl⟩
                  have FS_3_1_4_9 := Lib.hid (show BoxF wb ((wA.heap.size, ⟨false, none, 0, 0, none, 0, 0⟩) :: _) [] w_3_1_4_9 by rw [hw_3_1_4_9]; exact FS_3_1_4.out.new false none 0 0 none 0 0)
                  have Bw_3_1_4_9 := Lib.hid (show Below wA.heap.size wA w_3_1_4_9 by rw [hw_3_1_4_9]; exact bnewF _ _)
                  have hs_3_1_4_9 := Bw_3_1_4_9.out.size
                  have HF4 := Lib.hid (HF4.out.below Bw_3_1_4_9.out)
                  go_simp
                  rw [← hw_3_1_4_9]
                  clear hw_3_1_4_9
                  refine hK.out _ _ (hHeld.go Bw_3_1_4_9.out) (fun hHeld => ?_)
                  clear hK K
                  try simp only [Act.put, List.setIfInBounds_toArray, List.set_cons_zero, List.set_cons_succ]
                  refine wpAnyH_ready (rs := [5]) (by kernel_rfl) (by simp) ?_
                  refine AllReadyH.cons (List.getElem?_toArray.trans rfl) (fun K hK => ?_) AllReadyH.nil
                  go_simp
                  refine (HS3.out _ _ _ HF4.out).mono ?_
                  rintro e w_3_1_4_9_5 ⟨Az, cz, kz, Bz, dz, lz, rfl, nz, mz, b_3_1_4_9_5⟩
                  try go_wp2_with fail
                  have FS_3_1_4_9_5 := Lib.hid (((FS_3_1_4_9.out.go b_3_1_4_9_5).num mz).num nz)
                  refine hK.out _ _ (hHeld.go b_3_1_4_9_5) (fun hHeld => ?_)
                  clear hK K
                  try simp only [Act.put, List.setIfInBounds_toArray, List.set_cons_zero, List.set_cons_succ]
                  refine wpAnyH_take (i := 6) (v := ?_) (List.getElem?_toArray.trans rfl) (by kernel_rfl) (by kernel_rfl) (by kernel_rfl) (fun _ _ _ h => h) (Or.inl ⟨by rfl, ?_⟩) (by assumption) ?_
                  rotate_left
                  · intro w hSw; clear hSw; go_simp; try (with_reducible rfl)
                  try simp only [Act.put, List.setIfInBounds_toArray, List.set_cons_zero, List.set_cons_succ]
                  refine wpAnyH_take (i := 7) (v := ?_) (List.getElem?_toArray.trans rfl) (by kernel_rfl) (by kernel_rfl) (by kernel_rfl) (fun _ _ _ h => h) (Or.inl ⟨by rfl, ?_⟩) (by assumption) ?_
                  rotate_left
                  · intro w hSw; clear hSw; go_simp; try (with_reducible rfl)
                  try simp only [Act.put, List.setIfInBounds_toArray, List.set_cons_zero, List.set_cons_succ]
                  refine wpAnyH_take (i := 8) (v := ?_) (List.getElem?_toArray.trans rfl) (by kernel_rfl) (by kernel_rfl) (by kernel_rfl) (fun _ _ _ h => h) (Or.inl ⟨by rfl, ?_⟩) (by assumption) ?_
                  rotate_left
                  · intro w hSw; clear hSw; go_simp; try (with_reducible rfl)
                  try simp only [Act.put, List.setIfInBounds_toArray, List.set_cons_zero, List.set_cons_succ]
                  refine wpAnyH_ready (rs := [10]) (by kernel_rfl) (by simp) ?_
                  refine AllReadyH.cons (List.getElem?_toArray.trans rfl) (fun K hK => ?_) AllReadyH.nil
                  obtain ⟨z0, z1, z2, z3⟩ := FS_3_1_4_9_5.out.box (.head _)
                  obtain ⟨o0, o1, o2⟩ := FS_3_1_4_9_5.out.open (.head _)
                  have FSE := Lib.hid (FS_3_1_4_9_5.out.set (.head _) ⟨sz, Az, kz, cz, Bz, lz, dz⟩ [(wA.heap.size, ⟨sz, Az, kz, cz, Bz, lz, dz⟩)] (List.forall_mem_cons.2 ⟨.inl rfl, fun _ h => by simp at h⟩))
                  go_simp
                  refine hK.out _ _ (List.forall_mem_cons.2 ⟨⟨(FSE.out.2.2.cell (p := ⟨w7.heap.size, 0, none⟩) m3).trans m0, Nat.lt_of_lt_of_le m3 FSE.out.2.2.size⟩, List.forall_mem_cons.2 ⟨⟨(FSE.out.2.2.cell (p := ⟨w7.heap.size, 1, none⟩) m3).trans m1, Nat.lt_of_lt_of_le m3 FSE.out.2.2.size⟩, List.forall_mem_cons.2 ⟨⟨(FSE.out.2.2.cell (p := ⟨w7.heap.size, 2, none⟩) m3).trans m2, Nat.lt_of_lt_of_le m3 FSE.out.2.2.size⟩, fun _ h => by simp at h⟩⟩⟩) (fun hHeld => ?_)
                  clear hK K
                  try simp only [Act.put, List.setIfInBounds_toArray, List.set_cons_zero, List.set_cons_succ]
                  refine wpAnyH_take (i := 11) (v := ?_) (List.getElem?_toArray.trans rfl) (by kernel_rfl) (by kernel_rfl) (by kernel_rfl) (fun _ _ _ h => h) (Or.inl ⟨by rfl, ?_⟩) (by assumption) ?_
                  rotate_left
                  · intro w hSw; clear hSw; go_simp; try (with_reducible rfl)
                  try simp only [Act.put, List.setIfInBounds_toArray, List.set_cons_zero, List.set_cons_succ]
                  refine wpAnyH_done (by kernel_rfl) ?_ _
                  go_wp2_with fail
                  go_meet
                  exact ⟨_, _, _, _, _, _, _, rfl, rfl, FSE.out⟩
                exact AllReadyH.nil
              refine AllReadyH.cons (List.getElem?_toArray.trans rfl) (fun K hK => ?_) ?_
              · obtain ⟨w_3_1_9, hw_3_1_9⟩ : ∃ z, z = (w_3_1.alloc (.cells #[.bool false, .slice none 0 0, .slice none 0 0] 32)) := ⟨_, rfl⟩
                have FS_3_1_9 := Lib.hid (show BoxF wb ((w_3_1.heap.size, ⟨false, none, 0, 0, none, 0, 0⟩) :: _) [] w_3_1_9 by rw [hw_3_1_9]; exact FS_3_1.out.new false none 0 0 none 0 0)
                have Bw_3_1_9 := Lib.hid (show Below w_3_1.heap.size w_3_1 w_3_1_9 by rw [hw_3_1_9]; exact bnewF _ _)
                have hs_3_1_9 := Bw_3_1_9.out.size
                have HO_3_1_9 := Lib.hid (own_goF HO_3_1.out Bw_3_1_9.out)
                have HK_3_1_9 := Lib.hid (show ∀ k, (Value.slice C n d).ownBlock = some k → wb.heap.size ≤ k ∧ ∀ x ∈ ((w_3_1.heap.size, ⟨false, none, 0, 0, none, 0, 0⟩) :: [(wb.heap.size, ⟨s2, Am, km, cm, Bm, lm, dm⟩)] : List (Nat × FB)), ¬ x.1 = k from fun k hk => ⟨(HK_3_1.out k hk).1, List.forall_mem_cons.2 ⟨by have q1 := (HO_3_1.out.lt k hk).2; show ¬ w_3_1.heap.size = k; have q3 : w_3_1.heap.size = w_3_1.heap.size := rfl; omega, (HK_3_1.out k hk).2⟩⟩)
                go_simp
                rw [← hw_3_1_9]
                clear hw_3_1_9
                refine hK.out _ _ (hHeld.go Bw_3_1_9.out) (fun hHeld => ?_)
                clear hK K
                try simp only [Act.put, List.setIfInBounds_toArray, List.set_cons_zero, List.set_cons_succ]
                refine wpAnyH_ready (rs := [4]) (by kernel_rfl) (by simp) ?_
                refine AllReadyH.cons (List.getElem?_toArray.trans rfl) (fun K hK => ?_) AllReadyH.nil
                obtain ⟨n0, n1, n2, n3⟩ := FS_3_1_9.out.box (.tail _ (.head _))
                refine step_append_lies _ rfl (.tmp 66) (.tmp 68) 22 rfl (w_3.heap.size) 32 i0 _ 3 56 Tryz.underlying22 HI.out.1 HI.out.2.1 HI.out.2.2.1 HI.out.2.2.2 rfl (by omega) (.slice C n d) n (frcsCells l) rfl HO_3_1_9.out ⟨wb.heap.size, 0, none⟩ 1 1 (frcCells fm) rfl rfl (new_frc (by rw [HF.out]; exact n0) (by rw [HF.out]; exact n1) (by rw [HF.out]; exact n2)) (frc_one _) (by omega) (by unfold maxLen; omega) (by omega) (by omega) _ rfl ?_
                intro gA capA wA hown4 hgrow hat hlt4
                have FS_3_1_9_4 := Lib.hid (boxf_grown FS_3_1_9.out hgrow HK_3_1_9.out)
                have HF4 := Lib.hid (show FracL wA (some ⟨gA, 0, none⟩) (l ++ [fm]) from ⟨fun x hx => by
                  rcases List.mem_append.1 hx with hx | hx
                  · exact (HA.out.1 x hx).below (btwo BWB.out FS_3_1_9_4.out.2.2)
                  · rw [List.mem_singleton.1 hx]; exact HFI.out.below FS_3_1_9_4.out.2.2, frcs_own (by rw [frcs_snoc]; exact hown4) (by rw [List.length_append, HL.out]; rfl)⟩)
                clear hown4 hgrow hat hlt4 n0 n1 n2 n3
                refine hK.out _ _ (List.forall_mem_cons.2 ⟨⟨(FS_3_1_9_4.out.2.2.cell (p := ⟨w7.heap.size, 0, none⟩) m3).trans m0, Nat.lt_of_lt_of_le m3 FS_3_1_9_4.out.2.2.size⟩, List.forall_mem_cons.2 ⟨⟨(FS_3_1_9_4.out.2.2.cell (p := ⟨w7.heap.size, 1, none⟩) m3).trans m1, Nat.lt_of_lt_of_le m3 FS_3_1_9_4.out.2.2.size⟩, List.forall_mem_cons.2 ⟨⟨(FS_3_1_9_4.out.2.2.cell (p := ⟨w7.heap.size, 2, none⟩) m3).trans m2, Nat.lt_of_lt_of_le m3 FS_3_1_9_4.out.2.2.size⟩, fun _ h => by simp at h⟩⟩⟩) (fun hHeld => ?_)
                clear hK K
                try simp only [Act.put, List.setIfInBounds_toArray, List.set_cons_zero, List.set_cons_succ]
                refine wpAnyH_ready (rs := [5]) (by kernel_rfl) (by simp) ?_
                refine AllReadyH.cons (List.getElem?_toArray.trans rfl) (fun K hK => ?_) AllReadyH.nil
                go_simp
                refine (HS3.out _ _ _ HF4.out).mono ?_
                rintro e w_3_1_9_4_5 ⟨Az, cz, kz, Bz, dz, lz, rfl, nz, mz, b_3_1_9_4_5⟩
                try go_wp2_with fail
                have FS_3_1_9_4_5 := Lib.hid (((FS_3_1_9_4.out.go b_3_1_9_4_5).num mz).num nz)
                refine hK.out _ _ (hHeld.go b_3_1_9_4_5) (fun hHeld => ?_)
                clear hK K
                try simp only [Act.put, List.setIfInBounds_toArray, List.set_cons_zero, List.set_cons_succ]
                refine wpAnyH_take (i := 6) (v := ?_) (List.getElem?_toArray.trans rfl) (by kernel_rfl) (by kernel_rfl) (by kernel_rfl) (fun _ _ _ h => h) (Or.inl ⟨by rfl, ?_⟩) (by assumption) ?_
                rotate_left
                · intro w hSw; clear hSw; go_simp; try (with_reducible rfl)
                try simp only [Act.put, List.setIfInBounds_toArray, List.set_cons_zero, List.set_cons_succ]
                refine wpAnyH_take (i := 7) (v := ?_) (List.getElem?_toArray.trans rfl) (by kernel_rfl) (by kernel_rfl) (by kernel_rfl) (fun _ _ _ h => h) (Or.inl ⟨by rfl, ?_⟩) (by assumption) ?_
                rotate_left
                · intro w hSw; clear hSw; go_simp; try (with_reducible rfl)
                try simp only [Act.put, List.setIfInBounds_toArray, List.set_cons_zero, List.set_cons_succ]
                refine wpAnyH_take (i := 8) (v := ?_) (List.getElem?_toArray.trans rfl) (by kernel_rfl) (by kernel_rfl) (by kernel_rfl) (fun _ _ _ h => h) (Or.inl ⟨by rfl, ?_⟩) (by assumption) ?_
                rotate_left
                · intro w hSw; clear hSw; go_simp; try (with_reducible rfl)
                try simp only [Act.put, List.setIfInBounds_toArray, List.set_cons_zero, List.set_cons_succ]
                refine wpAnyH_ready (rs := [10]) (by kernel_rfl) (by simp) ?_
                refine AllReadyH.cons (List.getElem?_toArray.trans rfl) (fun K hK => ?_) AllReadyH.nil
                obtain ⟨z0, z1, z2, z3⟩ := FS_3_1_9_4_5.out.box (.head _)
                obtain ⟨o0, o1, o2⟩ := FS_3_1_9_4_5.out.open (.head _)
                have FSE := Lib.hid (FS_3_1_9_4_5.out.set (.head _) ⟨sz, Az, kz, cz, Bz, lz, dz⟩ [(w_3_1.heap.size, ⟨sz, Az, kz, cz, Bz, lz, dz⟩)] (List.forall_mem_cons.2 ⟨.inl rfl, fun _ h => by simp at h⟩))
                go_simp
                refine hK.out _ _ (List.forall_mem_cons.2 ⟨⟨(FSE.out.2.2.cell (p := ⟨w7.heap.size, 0, none⟩) m3).trans m0, Nat.lt_of_lt_of_le m3 FSE.out.2.2.size⟩, List.forall_mem_cons.2 ⟨⟨(FSE.out.2.2.cell (p := ⟨w7.heap.size, 1, none⟩) m3).trans m1, Nat.lt_of_lt_of_le m3 FSE.out.2.2.size⟩, List.forall_mem_cons.2 ⟨⟨(FSE.out.2.2.cell (p := ⟨w7.heap.size, 2, none⟩) m3).trans m2, Nat.lt_of_lt_of_le m3 FSE.out.2.2.size⟩, fun _ h => by simp at h⟩⟩⟩) (fun hHeld => ?_)
                clear hK K
                try simp only [Act.put, List.setIfInBounds_toArray, List.set_cons_zero, List.set_cons_succ]
                refine wpAnyH_take (i := 11) (v := ?_) (List.getElem?_toArray.trans rfl) (by kernel_rfl) (by kernel_rfl) (by kernel_rfl) (fun _ _ _ h => h) (Or.inl ⟨by rfl, ?_⟩) (by assumption) ?_
                rotate_left
                · intro w hSw; clear hSw; go_simp; try (with_reducible rfl)
                try simp only [Act.put, List.setIfInBounds_toArray, List.set_cons_zero, List.set_cons_succ]
                refine wpAnyH_done (by kernel_rfl) ?_ _
                go_wp2_with fail
                go_meet
                exact ⟨_, _, _, _, _, _, _, rfl, rfl, FSE.out⟩
              exact AllReadyH.nil
            refine AllReadyH.cons (List.getElem?_toArray.trans rfl) (fun K hK => ?_) ?_
            · obtain ⟨w_3_9, hw_3_9⟩ : ∃ z, z = (w_3.alloc (.cells #[.bool false, .slice none 0 0, .slice none 0 0] 32)) := ⟨_, rfl⟩
              have FS_3_9 := Lib.hid (show BoxF wb ((w_3.heap.size, ⟨false, none, 0, 0, none, 0, 0⟩) :: _) [] w_3_9 by rw [hw_3_9]; exact FS_3.out.new false none 0 0 none 0 0)
              have Bw_3_9 := Lib.hid (show Below w_3.heap.size w_3 w_3_9 by rw [hw_3_9]; exact bnewF _ _)
              have hs_3_9 := Bw_3_9.out.size
              go_simp
              rw [← hw_3_9]
              clear hw_3_9
              refine hK.out _ _ (hHeld.go Bw_3_9.out) (fun hHeld => ?_)
              clear hK K
              try simp only [Act.put, List.setIfInBounds_toArray, List.set_cons_zero, List.set_cons_succ]
              refine wpAnyH_ready (rs := [1]) (by kernel_rfl) (by simp) ?_
              refine AllReadyH.cons (List.getElem?_toArray.trans rfl) (fun K hK => ?_) AllReadyH.nil
              go_simp
              refine (cloneF_any l n c A0 _ HL.out.symm (by omega) (HA.out.below (btwo BWB.out FS_3_9.out.2.2))).mono ?_
              rintro e w_3_9_1 ⟨C, d, rfl, hcd, hl3, ho3, b_3_9_1⟩
              try go_wp2_with fail
              have FS_3_9_1 := Lib.hid (FS_3_9.out.go b_3_9_1)
              have HO_3_9_1 := Lib.hid ho3
              have hs_3_9_1 := b_3_9_1.size
              have HK_3_9_1 := Lib.hid (show ∀ k, (Value.slice C n d).ownBlock = some k → wb.heap.size ≤ k ∧ ∀ x ∈ ([(w_3.heap.size, ⟨false, none, 0, 0, none, 0, 0⟩), (wb.heap.size, ⟨s2, Am, km, cm, Bm, lm, dm⟩)] : List (Nat × FB)), ¬ x.1 = k from fun k hk => ⟨by have q1 := (HO_3_9_1.out.lt k hk).1; have q2 := FS_3_9.out.2.2.size; omega, List.forall_mem_cons.2 ⟨(by have q1 := (FS_3_9.out.lt (.head _)).2; have q2 := (HO_3_9_1.out.lt k hk).1; show ¬ w_3.heap.size = k; omega), List.forall_mem_cons.2 ⟨(by have q1 := (FS_3_9.out.lt (.tail _ (.head _))).2; have q2 := (HO_3_9_1.out.lt k hk).1; show ¬ wb.heap.size = k; omega), fun _ h => by simp at h⟩⟩⟩)
              clear hl3 ho3
              refine hK.out _ _ (hHeld.go b_3_9_1) (fun hHeld => ?_)
              clear hK K
              try simp only [Act.put, List.setIfInBounds_toArray, List.set_cons_zero, List.set_cons_succ]
              refine wpAnyH_ready (rs := [4]) (by kernel_rfl) (by simp) ?_
              refine AllReadyH.cons (List.getElem?_toArray.trans rfl) (fun K hK => ?_) AllReadyH.nil
              obtain ⟨n0, n1, n2, n3⟩ := FS_3_9_1.out.box (.tail _ (.head _))
              refine step_append_lies _ rfl (.tmp 66) (.tmp 68) 22 rfl (w_3_9.heap.size) 32 i0 _ 3 56 Tryz.underlying22 HI.out.1 HI.out.2.1 HI.out.2.2.1 HI.out.2.2.2 rfl (by omega) (.slice C n d) n (frcsCells l) rfl HO_3_9_1.out ⟨wb.heap.size, 0, none⟩ 1 1 (frcCells fm) rfl rfl (new_frc (by rw [HF.out]; exact n0) (by rw [HF.out]; exact n1) (by rw [HF.out]; exact n2)) (frc_one _) (by omega) (by unfold maxLen; omega) (by omega) (by omega) _ rfl ?_
              intro gA capA wA hown4 hgrow hat hlt4
              have FS_3_9_1_4 := Lib.hid (boxf_grown FS_3_9_1.out hgrow HK_3_9_1.out)
              have HF4 := Lib.hid (show FracL wA (some ⟨gA, 0, none⟩) (l ++ [fm]) from ⟨fun x hx => by
                  rcases List.mem_append.1 hx with hx | hx
                  · exact (HA.out.1 x hx).below (btwo BWB.out FS_3_9_1_4.out.2.2)
                  · rw [List.mem_singleton.1 hx]; exact HFI.out.below FS_3_9_1_4.out.2.2, frcs_own (by rw [frcs_snoc]; exact hown4) (by rw [List.length_append, HL.out]; rfl)⟩)
              clear hown4 hgrow hat hlt4 n0 n1 n2 n3
              refine hK.out _ _ (List.forall_mem_cons.2 ⟨⟨(FS_3_9_1_4.out.2.2.cell (p := ⟨w7.heap.size, 0, none⟩) m3).trans m0, Nat.lt_of_lt_of_le m3 FS_3_9_1_4.out.2.2.size⟩, List.forall_mem_cons.2 ⟨⟨(FS_3_9_1_4.out.2.2.cell (p := ⟨w7.heap.size, 1, none⟩) m3).trans m1, Nat.lt_of_lt_of_le m3 FS_3_9_1_4.out.2.2.size⟩, List.forall_mem_cons.2 ⟨⟨(FS_3_9_1_4.out.2.2.cell (p := ⟨w7.heap.size, 2, none⟩) m3).trans m2, Nat.lt_of_lt_of_le m3 FS_3_9_1_4.out.2.2.size⟩, fun _ h => by simp at h⟩⟩⟩) (fun hHeld => ?_)
              clear hK K
              try simp only [Act.put, List.setIfInBounds_toArray, List.set_cons_zero, List.set_cons_succ]
              refine wpAnyH_ready (rs := [5]) (by kernel_rfl) (by simp) ?_
              refine AllReadyH.cons (List.getElem?_toArray.trans rfl) (fun K hK => ?_) AllReadyH.nil
              go_simp
              refine (HS3.out _ _ _ HF4.out).mono ?_
              rintro e w_3_9_1_4_5 ⟨Az, cz, kz, Bz, dz, lz, rfl, nz, mz, b_3_9_1_4_5⟩
              try go_wp2_with fail
              have FS_3_9_1_4_5 := Lib.hid (((FS_3_9_1_4.out.go b_3_9_1_4_5).num mz).num nz)
              refine hK.out _ _ (hHeld.go b_3_9_1_4_5) (fun hHeld => ?_)
              clear hK K
              try simp only [Act.put, List.setIfInBounds_toArray, List.set_cons_zero, List.set_cons_succ]
              refine wpAnyH_take (i := 6) (v := ?_) (List.getElem?_toArray.trans rfl) (by kernel_rfl) (by kernel_rfl) (by kernel_rfl) (fun _ _ _ h => h) (Or.inl ⟨by rfl, ?_⟩) (by assumption) ?_
              rotate_left
              · intro w hSw; clear hSw; go_simp; try (with_reducible rfl)
              try simp only [Act.put, List.setIfInBounds_toArray, List.set_cons_zero, List.set_cons_succ]
              refine wpAnyH_take (i := 7) (v := ?_) (List.getElem?_toArray.trans rfl) (by kernel_rfl) (by kernel_rfl) (by kernel_rfl) (fun _ _ _ h => h) (Or.inl ⟨by rfl, ?_⟩) (by assumption) ?_
              rotate_left
              · intro w hSw; clear hSw; go_simp; try (with_reducible rfl)
              try simp only [Act.put, List.setIfInBounds_toArray, List.set_cons_zero, List.set_cons_succ]
              refine wpAnyH_take (i := 8) (v := ?_) (List.getElem?_toArray.trans rfl) (by kernel_rfl) (by kernel_rfl) (by kernel_rfl) (fun _ _ _ h => h) (Or.inl ⟨by rfl, ?_⟩) (by assumption) ?_
              rotate_left
              · intro w hSw; clear hSw; go_simp; try (with_reducible rfl)
              try simp only [Act.put, List.setIfInBounds_toArray, List.set_cons_zero, List.set_cons_succ]
              refine wpAnyH_ready (rs := [10]) (by kernel_rfl) (by simp) ?_
              refine AllReadyH.cons (List.getElem?_toArray.trans rfl) (fun K hK => ?_) AllReadyH.nil
              obtain ⟨z0, z1, z2, z3⟩ := FS_3_9_1_4_5.out.box (.head _)
              obtain ⟨o0, o1, o2⟩ := FS_3_9_1_4_5.out.open (.head _)
              have FSE := Lib.hid (FS_3_9_1_4_5.out.set (.head _) ⟨sz, Az, kz, cz, Bz, lz, dz⟩ [(w_3.heap.size, ⟨sz, Az, kz, cz, Bz, lz, dz⟩)] (List.forall_mem_cons.2 ⟨.inl rfl, fun _ h => by simp at h⟩))
              go_simp
              refine hK.out _ _ (List.forall_mem_cons.2 ⟨⟨(FSE.out.2.2.cell (p := ⟨w7.heap.size, 0, none⟩) m3).trans m0, Nat.lt_of_lt_of_le m3 FSE.out.2.2.size⟩, List.forall_mem_cons.2 ⟨⟨(FSE.out.2.2.cell (p := ⟨w7.heap.size, 1, none⟩) m3).trans m1, Nat.lt_of_lt_of_le m3 FSE.out.2.2.size⟩, List.forall_mem_cons.2 ⟨⟨(FSE.out.2.2.cell (p := ⟨w7.heap.size, 2, none⟩) m3).trans m2, Nat.lt_of_lt_of_le m3 FSE.out.2.2.size⟩, fun _ h => by simp at h⟩⟩⟩) (fun hHeld => ?_)
              clear hK K
              try simp only [Act.put, List.setIfInBounds_toArray, List.set_cons_zero, List.set_cons_succ]
              refine wpAnyH_take (i := 11) (v := ?_) (List.getElem?_toArray.trans rfl) (by kernel_rfl) (by kernel_rfl) (by kernel_rfl) (fun _ _ _ h => h) (Or.inl ⟨by rfl, ?_⟩) (by assumption) ?_
              rotate_left
              · intro w hSw; clear hSw; go_simp; try (with_reducible rfl)
              try simp only [Act.put, List.setIfInBounds_toArray, List.set_cons_zero, List.set_cons_succ]
              refine wpAnyH_done (by kernel_rfl) ?_ _
              go_wp2_with fail
              go_meet
              exact ⟨_, _, _, _, _, _, _, rfl, rfl, FSE.out⟩
            exact AllReadyH.nil
          refine AllReadyH.cons (List.getElem?_toArray.trans rfl) (fun K hK => ?_) ?_
          · obtain ⟨w_9, hw_9⟩ : ∃ z, z = (wb.alloc (.cells #[.bool false, .slice none 0 0, .slice none 0 0] 32)).drew := ⟨_, rfl⟩
            have FS_9 := Lib.hid (show BoxF wb ((wb.heap.size, ⟨false, none, 0, 0, none, 0, 0⟩) :: _) [] w_9 by rw [hw_9]; exact FS0d.out.new false none 0 0 none 0 0)
            have Bw_9 := Lib.hid (show Below wb.drew.heap.size wb.drew w_9 by rw [hw_9]; exact bnewF _ _)
            have hs_9 := Bw_9.out.size
            go_simp
            rw [← hw_9]
            clear hw_9
            refine hK.out _ _ (hHeld.go Bw_9.out) (fun hHeld => ?_)
            clear hK K
            try simp only [Act.put, List.setIfInBounds_toArray, List.set_cons_zero, List.set_cons_succ]
            refine wpAnyH_ready (rs := [1, 3]) (by kernel_rfl) (by simp) ?_
            refine AllReadyH.cons (List.getElem?_toArray.trans rfl) (fun K hK => ?_) ?_
            · go_simp
              refine (cloneF_any l n c A0 _ HL.out.symm (by omega) (HA.out.below (btwo BWB.out FS_9.out.2.2))).mono ?_
              rintro e w_9_1 ⟨C, d, rfl, hcd, hl3, ho3, b_9_1⟩
              try go_wp2_with fail
              have FS_9_1 := Lib.hid (FS_9.out.go b_9_1)
              have HO_9_1 := Lib.hid ho3
              have hs_9_1 := b_9_1.size
              have HK_9_1 := Lib.hid (show ∀ k, (Value.slice C n d).ownBlock = some k → wb.heap.size ≤ k ∧ ∀ x ∈ ([(wb.heap.size, ⟨false, none, 0, 0, none, 0, 0⟩)] : List (Nat × FB)), ¬ x.1 = k from fun k hk => ⟨by have q1 := (HO_9_1.out.lt k hk).1; have q2 := FS_9.out.2.2.size; omega, List.forall_mem_cons.2 ⟨(by have q1 := (FS_9.out.lt (.head _)).2; have q2 := (HO_9_1.out.lt k hk).1; show ¬ wb.heap.size = k; omega), fun _ h => by simp at h⟩⟩)
              clear hl3 ho3
              refine hK.out _ _ (hHeld.go b_9_1) (fun hHeld => ?_)
              clear hK K
              try simp only [Act.put, List.setIfInBounds_toArray, List.set_cons_zero, List.set_cons_succ]
              refine wpAnyH_ready (rs := [3]) (by kernel_rfl) (by simp) ?_
              refine AllReadyH.cons (List.getElem?_toArray.trans rfl) (fun K hK => ?_) AllReadyH.nil
              obtain ⟨w_9_1_3, hw_9_1_3⟩ : ∃ z, z = (w_9_1.alloc (.cells #[.bool s2, .slice Am km cm, .slice Bm lm dm] 32)) := ⟨_, rfl⟩
              have FS_9_1_3 := Lib.hid (show BoxF wb ((w_9_1.heap.size, ⟨s2, Am, km, cm, Bm, lm, dm⟩) :: _) [] w_9_1_3 by rw [hw_9_1_3]; exact FS_9_1.out.new s2 Am km cm Bm lm dm)
              have Bw_9_1_3 := Lib.hid (show Below w_9_1.heap.size w_9_1 w_9_1_3 by rw [hw_9_1_3]; exact bnewF _ _)
              have hs_9_1_3 := Bw_9_1_3.out.size
              have HO_9_1_3 := Lib.hid (own_goF HO_9_1.out Bw_9_1_3.out)
              have HK_9_1_3 := Lib.hid (show ∀ k, (Value.slice C n d).ownBlock = some k → wb.heap.size ≤ k ∧ ∀ x ∈ ((w_9_1.heap.size, ⟨s2, Am, km, cm, Bm, lm, dm⟩) :: [(wb.heap.size, ⟨false, none, 0, 0, none, 0, 0⟩)] : List (Nat × FB)), ¬ x.1 = k from fun k hk => ⟨(HK_9_1.out k hk).1, List.forall_mem_cons.2 ⟨by have q1 := (HO_9_1.out.lt k hk).2; show ¬ w_9_1.heap.size = k; have q3 : w_9_1.heap.size = w_9_1.heap.size := rfl; omega, (HK_9_1.out k hk).2⟩⟩)
              go_simp
              rw [← hw_9_1_3]
              clear hw_9_1_3
              refine hK.out _ _ (hHeld.go Bw_9_1_3.out) (fun hHeld => ?_)
              clear hK K
              try simp only [Act.put, List.setIfInBounds_toArray, List.set_cons_zero, List.set_cons_succ]
              refine wpAnyH_ready (rs := [4]) (by kernel_rfl) (by simp) ?_
              refine AllReadyH.cons (List.getElem?_toArray.trans rfl) (fun K hK => ?_) AllReadyH.nil
              obtain ⟨n0, n1, n2, n3⟩ := FS_9_1_3.out.box (.head _)
              refine step_append_lies _ rfl (.tmp 66) (.tmp 68) 22 rfl (w_9.heap.size) 32 i0 _ 3 56 Tryz.underlying22 HI.out.1 HI.out.2.1 HI.out.2.2.1 HI.out.2.2.2 rfl (by omega) (.slice C n d) n (frcsCells l) rfl HO_9_1_3.out ⟨w_9_1.heap.size, 0, none⟩ 1 1 (frcCells fm) rfl rfl (new_frc (by rw [HF.out]; exact n0) (by rw [HF.out]; exact n1) (by rw [HF.out]; exact n2)) (frc_one _) (by omega) (by unfold maxLen; omega) (by omega) (by omega) _ rfl ?_
              intro gA capA wA hown4 hgrow hat hlt4
              have FS_9_1_3_4 := Lib.hid (boxf_grown FS_9_1_3.out hgrow HK_9_1_3.out)
              have HF4 := Lib.hid (show FracL wA (some ⟨gA, 0, none⟩) (l ++ [fm]) from ⟨fun x hx => by
                  rcases List.mem_append.1 hx with hx | hx
                  · exact (HA.out.1 x hx).below (btwo BWB.out FS_9_1_3_4.out.2.2)
                  · rw [List.mem_singleton.1 hx]; exact HFI.out.below FS_9_1_3_4.out.2.2, frcs_own (by rw [frcs_snoc]; exact hown4) (by rw [List.length_append, HL.out]; rfl)⟩)
              clear hown4 hgrow hat hlt4 n0 n1 n2 n3
              refine hK.out _ _ (List.forall_mem_cons.2 ⟨⟨(FS_9_1_3_4.out.2.2.cell (p := ⟨w7.heap.size, 0, none⟩) m3).trans m0, Nat.lt_of_lt_of_le m3 FS_9_1_3_4.out.2.2.size⟩, List.forall_mem_cons.2 ⟨⟨(FS_9_1_3_4.out.2.2.cell (p := ⟨w7.heap.size, 1, none⟩) m3).trans m1, Nat.lt_of_lt_of_le m3 FS_9_1_3_4.out.2.2.size⟩, List.forall_mem_cons.2 ⟨⟨(FS_9_1_3_4.out.2.2.cell (p := ⟨w7.heap.size, 2, none⟩) m3).trans m2, Nat.lt_of_lt_of_le m3 FS_9_1_3_4.out.2.2.size⟩, fun _ h => by simp at h⟩⟩⟩) (fun hHeld => ?_)
              clear hK K
              try simp only [Act.put, List.setIfInBounds_toArray, List.set_cons_zero, List.set_cons_succ]
              refine wpAnyH_ready (rs := [5]) (by kernel_rfl) (by simp) ?_
              refine AllReadyH.cons (List.getElem?_toArray.trans rfl) (fun K hK => ?_) AllReadyH.nil
              go_simp
              refine (HS3.out _ _ _ HF4.out).mono ?_
              rintro e w_9_1_3_4_5 ⟨Az, cz, kz, Bz, dz, lz, rfl, nz, mz, b_9_1_3_4_5⟩
              try go_wp2_with fail
              have FS_9_1_3_4_5 := Lib.hid (((FS_9_1_3_4.out.go b_9_1_3_4_5).num mz).num nz)
              refine hK.out _ _ (hHeld.go b_9_1_3_4_5) (fun hHeld => ?_)
              clear hK K
              try simp only [Act.put, List.setIfInBounds_toArray, List.set_cons_zero, List.set_cons_succ]
              refine wpAnyH_take (i := 6) (v := ?_) (List.getElem?_toArray.trans rfl) (by kernel_rfl) (by kernel_rfl) (by kernel_rfl) (fun _ _ _ h => h) (Or.inl ⟨by rfl, ?_⟩) (by assumption) ?_
              rotate_left
              · intro w hSw; clear hSw; go_simp; try (with_reducible rfl)
              try simp only [Act.put, List.setIfInBounds_toArray, List.set_cons_zero, List.set_cons_succ]
              refine wpAnyH_take (i := 7) (v := ?_) (List.getElem?_toArray.trans rfl) (by kernel_rfl) (by kernel_rfl) (by kernel_rfl) (fun _ _ _ h => h) (Or.inl ⟨by rfl, ?_⟩) (by assumption) ?_
              rotate_left
              · intro w hSw; clear hSw; go_simp; try (with_reducible rfl)
              try simp only [Act.put, List.setIfInBounds_toArray, List.set_cons_zero, List.set_cons_succ]
              refine wpAnyH_take (i := 8) (v := ?_) (List.getElem?_toArray.trans rfl) (by kernel_rfl) (by kernel_rfl) (by kernel_rfl) (fun _ _ _ h => h) (Or.inl ⟨by rfl, ?_⟩) (by assumption) ?_
              rotate_left
              · intro w hSw; clear hSw; go_simp; try (with_reducible rfl)
              try simp only [Act.put, List.setIfInBounds_toArray, List.set_cons_zero, List.set_cons_succ]
              refine wpAnyH_ready (rs := [10]) (by kernel_rfl) (by simp) ?_
              refine AllReadyH.cons (List.getElem?_toArray.trans rfl) (fun K hK => ?_) AllReadyH.nil
              obtain ⟨z0, z1, z2, z3⟩ := FS_9_1_3_4_5.out.box (.tail _ (.head _))
              obtain ⟨o0, o1, o2⟩ := FS_9_1_3_4_5.out.open (.tail _ (.head _))
              have FSE := Lib.hid (FS_9_1_3_4_5.out.set (.tail _ (.head _)) ⟨sz, Az, kz, cz, Bz, lz, dz⟩ [(wb.heap.size, ⟨sz, Az, kz, cz, Bz, lz, dz⟩)] (List.forall_mem_cons.2 ⟨.inl rfl, fun _ h => by simp at h⟩))
              go_simp
              refine hK.out _ _ (List.forall_mem_cons.2 ⟨⟨(FSE.out.2.2.cell (p := ⟨w7.heap.size, 0, none⟩) m3).trans m0, Nat.lt_of_lt_of_le m3 FSE.out.2.2.size⟩, List.forall_mem_cons.2 ⟨⟨(FSE.out.2.2.cell (p := ⟨w7.heap.size, 1, none⟩) m3).trans m1, Nat.lt_of_lt_of_le m3 FSE.out.2.2.size⟩, List.forall_mem_cons.2 ⟨⟨(FSE.out.2.2.cell (p := ⟨w7.heap.size, 2, none⟩) m3).trans m2, Nat.lt_of_lt_of_le m3 FSE.out.2.2.size⟩, fun _ h => by simp at h⟩⟩⟩) (fun hHeld => ?_)
              clear hK K
              try simp only [Act.put, List.setIfInBounds_toArray, List.set_cons_zero, List.set_cons_succ]
              refine wpAnyH_take (i := 11) (v := ?_) (List.getElem?_toArray.trans rfl) (by kernel_rfl) (by kernel_rfl) (by kernel_rfl) (fun _ _ _ h => h) (Or.inl ⟨by rfl, ?_⟩) (by assumption) ?_
              rotate_left
              · intro w hSw; clear hSw; go_simp; try (with_reducible rfl)
              try simp only [Act.put, List.setIfInBounds_toArray, List.set_cons_zero, List.set_cons_succ]
              refine wpAnyH_done (by kernel_rfl) ?_ _
              go_wp2_with fail
              go_meet
              exact ⟨_, _, _, _, _, _, _, rfl, rfl, FSE.out⟩
            refine AllReadyH.cons (List.getElem?_toArray.trans rfl) (fun K hK => ?_) ?_
            · obtain ⟨w_9_3, hw_9_3⟩ : ∃ z, z = (w_9.alloc (.cells #[.bool s2, .slice Am km cm, .slice Bm lm dm] 32)) := ⟨_, rfl⟩
              have FS_9_3 := Lib.hid (show BoxF wb ((w_9.heap.size, ⟨s2, Am, km, cm, Bm, lm, dm⟩) :: _) [] w_9_3 by rw [hw_9_3]; exact FS_9.out.new s2 Am km cm Bm lm dm)
              have Bw_9_3 := Lib.hid (show Below w_9.heap.size w_9 w_9_3 by rw [hw_9_3]; exact bnewF _ _)
              have hs_9_3 := Bw_9_3.out.size
              go_simp
              rw [← hw_9_3]
              clear hw_9_3
              refine hK.out _ _ (hHeld.go Bw_9_3.out) (fun hHeld => ?_)
              clear hK K
              try simp only [Act.put, List.setIfInBounds_toArray, List.set_cons_zero, List.set_cons_succ]
              refine wpAnyH_ready (rs := [1]) (by kernel_rfl) (by simp) ?_
              refine AllReadyH.cons (List.getElem?_toArray.trans rfl) (fun K hK => ?_) AllReadyH.nil
              go_simp
              refine (cloneF_any l n c A0 _ HL.out.symm (by omega) (HA.out.below (btwo BWB.out FS_9_3.out.2.2))).mono ?_
              rintro e w_9_3_1 ⟨C, d, rfl, hcd, hl3, ho3, b_9_3_1⟩
              try go_wp2_with fail
              have FS_9_3_1 := Lib.hid (FS_9_3.out.go b_9_3_1)
              have HO_9_3_1 := Lib.hid ho3
              have hs_9_3_1 := b_9_3_1.size
              have HK_9_3_1 := Lib.hid (show ∀ k, (Value.slice C n d).ownBlock = some k → wb.heap.size ≤ k ∧ ∀ x ∈ ([(w_9.heap.size, ⟨s2, Am, km, cm, Bm, lm, dm⟩), (wb.heap.size, ⟨false, none, 0, 0, none, 0, 0⟩)] : List (Nat × FB)), ¬ x.1 = k from fun k hk => ⟨by have q1 := (HO_9_3_1.out.lt k hk).1; have q2 := FS_9_3.out.2.2.size; omega, List.forall_mem_cons.2 ⟨(by have q1 := (FS_9_3.out.lt (.head _)).2; have q2 := (HO_9_3_1.out.lt k hk).1; show ¬ w_9.heap.size = k; omega), List.forall_mem_cons.2 ⟨(by have q1 := (FS_9_3.out.lt (.tail _ (.head _))).2; have q2 := (HO_9_3_1.out.lt k hk).1; show ¬ wb.heap.size = k; omega), fun _ h => by simp at h⟩⟩⟩)
              clear hl3 ho3
              refine hK.out _ _ (hHeld.go b_9_3_1) (fun hHeld => ?_)
              clear hK K
              try simp only [Act.put, List.setIfInBounds_toArray, List.set_cons_zero, List.set_cons_succ]
              refine wpAnyH_ready (rs := [4]) (by kernel_rfl) (by simp) ?_
              refine AllReadyH.cons (List.getElem?_toArray.trans rfl) (fun K hK => ?_) AllReadyH.nil
              obtain ⟨n0, n1, n2, n3⟩ := FS_9_3_1.out.box (.head _)
              refine step_append_lies _ rfl (.tmp 66) (.tmp 68) 22 rfl (w_9_3.heap.size) 32 i0 _ 3 56 Tryz.underlying22 HI.out.1 HI.out.2.1 HI.out.2.2.1 HI.out.2.2.2 rfl (by omega) (.slice C n d) n (frcsCells l) rfl HO_9_3_1.out ⟨w_9.heap.size, 0, none⟩ 1 1 (frcCells fm) rfl rfl (new_frc (by rw [HF.out]; exact n0) (by rw [HF.out]; exact n1) (by rw [HF.out]; exact n2)) (frc_one _) (by omega) (by unfold maxLen; omega) (by omega) (by omega) _ rfl ?_
              intro gA capA wA hown4 hgrow hat hlt4
              have FS_9_3_1_4 := Lib.hid (boxf_grown FS_9_3_1.out hgrow HK_9_3_1.out)
              have HF4 := Lib.hid (show FracL wA (some ⟨gA, 0, none⟩) (l ++ [fm]) from ⟨fun x hx => by
                  rcases List.mem_append.1 hx with hx | hx
                  · exact (HA.out.1 x hx).below (btwo BWB.out FS_9_3_1_4.out.2.2)
                  · rw [List.mem_singleton.1 hx]; exact HFI.out.below FS_9_3_1_4.out.2.2, frcs_own (by rw [frcs_snoc]; exact hown4) (by rw [List.length_append, HL.out]; rfl)⟩)
              clear hown4 hgrow hat hlt4 n0 n1 n2 n3
              refine hK.out _ _ (List.forall_mem_cons.2 ⟨⟨(FS_9_3_1_4.out.2.2.cell (p := ⟨w7.heap.size, 0, none⟩) m3).trans m0, Nat.lt_of_lt_of_le m3 FS_9_3_1_4.out.2.2.size⟩, List.forall_mem_cons.2 ⟨⟨(FS_9_3_1_4.out.2.2.cell (p := ⟨w7.heap.size, 1, none⟩) m3).trans m1, Nat.lt_of_lt_of_le m3 FS_9_3_1_4.out.2.2.size⟩, List.forall_mem_cons.2 ⟨⟨(FS_9_3_1_4.out.2.2.cell (p := ⟨w7.heap.size, 2, none⟩) m3).trans m2, Nat.lt_of_lt_of_le m3 FS_9_3_1_4.out.2.2.size⟩, fun _ h => by simp at h⟩⟩⟩) (fun hHeld => ?_)
              clear hK K
              try simp only [Act.put, List.setIfInBounds_toArray, List.set_cons_zero, List.set_cons_succ]
              refine wpAnyH_ready (rs := [5]) (by kernel_rfl) (by simp) ?_
              refine AllReadyH.cons (List.getElem?_toArray.trans rfl) (fun K hK => ?_) AllReadyH.nil
              go_simp
              refine (HS3.out _ _ _ HF4.out).mono ?_
              rintro e w_9_3_1_4_5 ⟨Az, cz, kz, Bz, dz, lz, rfl, nz, mz, b_9_3_1_4_5⟩
              try go_wp2_with fail
              have FS_9_3_1_4_5 := Lib.hid (((FS_9_3_1_4.out.go b_9_3_1_4_5).num mz).num nz)
              refine hK.out _ _ (hHeld.go b_9_3_1_4_5) (fun hHeld => ?_)
              clear hK K
              try simp only [Act.put, List.setIfInBounds_toArray, List.set_cons_zero, List.set_cons_succ]
              refine wpAnyH_take (i := 6) (v := ?_) (List.getElem?_toArray.trans rfl) (by kernel_rfl) (by kernel_rfl) (by kernel_rfl) (fun _ _ _ h => h) (Or.inl ⟨by rfl, ?_⟩) (by assumption) ?_
              rotate_left
              · intro w hSw; clear hSw; go_simp; try (with_reducible rfl)
              try simp only [Act.put, List.setIfInBounds_toArray, List.set_cons_zero, List.set_cons_succ]
              refine wpAnyH_take (i := 7) (v := ?_) (List.getElem?_toArray.trans rfl) (by kernel_rfl) (by kernel_rfl) (by kernel_rfl) (fun _ _ _ h => h) (Or.inl ⟨by rfl, ?_⟩) (by assumption) ?_
              rotate_left
              · intro w hSw; clear hSw; go_simp; try (with_reducible rfl)
              try simp only [Act.put, List.setIfInBounds_toArray, List.set_cons_zero, List.set_cons_succ]
              refine wpAnyH_take (i := 8) (v := ?_) (List.getElem?_toArray.trans rfl) (by kernel_rfl) (by kernel_rfl) (by kernel_rfl) (fun _ _ _ h => h) (Or.inl ⟨by rfl, ?_⟩) (by assumption) ?_
              rotate_left
              · intro w hSw; clear hSw; go_simp; try (with_reducible rfl)
              try simp only [Act.put, List.setIfInBounds_toArray, List.set_cons_zero, List.set_cons_succ]
              refine wpAnyH_ready (rs := [10]) (by kernel_rfl) (by simp) ?_
              refine AllReadyH.cons (List.getElem?_toArray.trans rfl) (fun K hK => ?_) AllReadyH.nil
              obtain ⟨z0, z1, z2, z3⟩ := FS_9_3_1_4_5.out.box (.tail _ (.head _))
              obtain ⟨o0, o1, o2⟩ := FS_9_3_1_4_5.out.open (.tail _ (.head _))
              have FSE := Lib.hid (FS_9_3_1_4_5.out.set (.tail _ (.head _)) ⟨sz, Az, kz, cz, Bz, lz, dz⟩ [(wb.heap.size, ⟨sz, Az, kz, cz, Bz, lz, dz⟩)] (List.forall_mem_cons.2 ⟨.inl rfl, fun _ h => by simp at h⟩))
              go_simp
              refine hK.out _ _ (List.forall_mem_cons.2 ⟨⟨(FSE.out.2.2.cell (p := ⟨w7.heap.size, 0, none⟩) m3).trans m0, Nat.lt_of_lt_of_le m3 FSE.out.2.2.size⟩, List.forall_mem_cons.2 ⟨⟨(FSE.out.2.2.cell (p := ⟨w7.heap.size, 1, none⟩) m3).trans m1, Nat.lt_of_lt_of_le m3 FSE.out.2.2.size⟩, List.forall_mem_cons.2 ⟨⟨(FSE.out.2.2.cell (p := ⟨w7.heap.size, 2, none⟩) m3).trans m2, Nat.lt_of_lt_of_le m3 FSE.out.2.2.size⟩, fun _ h => by simp at h⟩⟩⟩) (fun hHeld => ?_)
              clear hK K
              try simp only [Act.put, List.setIfInBounds_toArray, List.set_cons_zero, List.set_cons_succ]
              refine wpAnyH_take (i := 11) (v := ?_) (List.getElem?_toArray.trans rfl) (by kernel_rfl) (by kernel_rfl) (by kernel_rfl) (fun _ _ _ h => h) (Or.inl ⟨by rfl, ?_⟩) (by assumption) ?_
              rotate_left
              · intro w hSw; clear hSw; go_simp; try (with_reducible rfl)
              try simp only [Act.put, List.setIfInBounds_toArray, List.set_cons_zero, List.set_cons_succ]
              refine wpAnyH_done (by kernel_rfl) ?_ _
              go_wp2_with fail
              go_meet
              exact ⟨_, _, _, _, _, _, _, rfl, rfl, FSE.out⟩
            exact AllReadyH.nil
          exact AllReadyH.nil
        case rest =>
          obtain ⟨gz, Az, cz, kz, Bz, dz, lz, rfl, rfl, hz⟩ := hcut
          have VZ := Lib.hid hz
          have V9 := Lib.hid (V7.out.go hz.2.2)
          clear hz V7 m0 m1 m2 m3
          obtain ⟨x0, x1, x2, x3⟩ := V9.out.box (.tail _ (.tail _ (.head _)))
          obtain ⟨m0, m1, m2, m3⟩ := V9.out.box (.head _)
          go_wp2_with fail
          refine (fadd_is (sz, pz, qz, ez) s s2 kx cx lx dx km cm lm dm p q p2 q2 Ax Bx Am Bm _ HSZ.out (V9.out.at (.tail _ (.tail _ (.tail _ (.tail _ (.head _)))))) (V9.out.at (.tail _ (.tail _ (.tail _ (.tail _ (.tail _ (.head _))))))) (V9.out.at (.head _)) (V9.out.at (.tail _ (.head _))) HFR.out HFR2.out).mono ?_
          rintro e w8 ⟨Au, cu, ku, Bu, du, lu, rfl, nu, mu, bu⟩
          have VW := Lib.hid ((((VZ.out.go bu).num mu).num nu).new sz Au ku cu Bu lu du)
          have BE := Lib.hid (show Below W.heap.size W w8 from (V9.out.go bu).2.2)
          have l1 := ((VZ.out.go bu).lt (.head _)).2
          clear nu mu bu x0 x1 x2 x3 m0 m1 m2 m3 V9 VZ
          obtain ⟨x0, x1, x2, x3⟩ := VW.out.box (.head _)
          obtain ⟨z0, z1, z2, z3⟩ := VW.out.box (.tail _ (.head _))
          have gez : (ez == ez) = true := by simp
          go_wp2_with fail
          refine (same_self sz kz cz lz dz ku cu lu du pz qz Az Bz Au Bu _ (VW.out.at (.tail _ (.tail _ (.head _)))) (VW.out.at (.tail _ (.tail _ (.tail _ (.head _))))) (VW.out.at (.head _)) (VW.out.at (.tail _ (.head _)))).mono ?_
          rintro e w9 ⟨rfl, b9⟩
          go_wp2_with fail
          go_ret
          exact ⟨rfl, btwo BE.out (btwo one_new b9)⟩
      · have g0 : (er != 0) = true := by simpa using he
        go_upto_region 5 with fail
        rw [← HWZ.out]
        go_wp2_with fail
        refine (same_self s kx cx lx dx ky cy ly dy p q Ax Bx Ay By _ (V5.out.at (.tail _ (.tail _ (.head _)))) (V5.out.at (.tail _ (.tail _ (.tail _ (.head _))))) (V5.out.at (.head _)) (V5.out.at (.tail _ (.head _)))).mono ?_
        rintro e w6 ⟨rfl, b6⟩
        have V6 := Lib.hid (V5.out.go b6)
        clear b6 x0 x1 x2 x3 y0 y1 y2 y3
        obtain ⟨y0, y1, y2, y3⟩ := V6.out.box (.head _)
        obtain ⟨x0, x1, x2, x3⟩ := V6.out.box (.tail _ (.head _))
        go_wp2_with fail
        refine (same_self s kx cx lx dx ky cy ly dy p q Ax Bx Ay By _ (V6.out.at (.tail _ (.tail _ (.head _)))) (V6.out.at (.tail _ (.tail _ (.tail _ (.head _))))) (V6.out.at (.head _)) (V6.out.at (.tail _ (.head _)))).mono ?_
        rintro e w7 ⟨rfl, b7⟩
        go_wp2_with fail
        go_ret
        exact ⟨rfl, btwo V6.out.2.2 b7⟩
end Go.Proofs.YtkfkefgkepoaaaaGreatDoor
