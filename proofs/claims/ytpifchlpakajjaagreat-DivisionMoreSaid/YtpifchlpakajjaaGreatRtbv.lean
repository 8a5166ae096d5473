/- Several texts in one: Yi. -/
import Derived.Test.YtpifchlpakajjaaGreatRtax
import Derived.Test.YtpifchlpakajjaaGreatRtbs
import Derived.Test.YtpifchlpakajjaaGreatRtbu
import Derived.Test.YtpifchlpakajjaaGreatRtaw
namespace Go.Proofs.YtpifchlpakajjaaGreat
open Go.RowKit
set_option linter.unusedVariables false
set_option linter.unusedSimpArgs false
set_option maxRecDepth 100000

def dbox (g : Nat) (kd : Int) (A : Option Addr) (n c : Nat) (B : Option Addr) (m e : Nat) : Itm := box 52 g [.int .u8 kd, .slice A n c, .slice B m e]
theorem Hp.dbox_at {W w : World} {l : List Itm} {i g n c m e : Nat} {kd : Int} {A B : Option Addr} (h : Hp W l w) (hi : l[i]? = some (dbox g kd A n c B m e)) :
    w.cell? ⟨g, 0, none⟩ = some (.int .u8 kd) ∧ w.cell? ⟨g, 1, none⟩ = some (.slice A n c) ∧ w.cell? ⟨g, 2, none⟩ = some (.slice B m e) ∧ g < w.heap.size :=
  ⟨(h.box_at hi (j := 0) rfl).1, (h.box_at hi (j := 1) rfl).1, (h.box_at hi (j := 2) rfl).1, (h.box_at hi (j := 0) rfl).2.2⟩
theorem CellsIn.oct {w : World} {A : Option Addr} {B : List Int} (h : CellsIn w A (bytesC B)) {j : Nat} {z : Int} (hz : B[j]? = some z) : ∃ b off, A = some ⟨b, off, none⟩ ∧ b < w.heap.size ∧ w.cell? ⟨b, off + j, none⟩ = some (.int .u8 z) := by
  have hj := (List.getElem?_eq_some_iff.1 hz).1
  obtain ⟨b, off, e, hlt, hc⟩ := h (by unfold bytesC; rw [List.length_map]; omega)
  exact ⟨b, off, e, hlt, hc j _ (by unfold bytesC; rw [List.getElem?_map, hz]; rfl)⟩
theorem Hp.swap3 {W w : World} {a b c : Itm} {l : List Itm} (h : Hp W (a :: b :: c :: l) w) : Hp W (c :: b :: a :: l) w :=
  h.sub (fun i => if i = 0 then 2 else if i = 2 then 0 else i) (fun i j e => by
    split at e <;> split at e <;> (try split at e) <;> (try split at e) <;> omega) (fun i it hi => by
    match i with
    | 0 => exact hi
    | 1 => exact hi
    | 2 => exact hi
    | i + 3 => exact hi)
theorem mst_first {W w : World} {O S R D : Itm} {P : List Itm} (h : Hp W (O :: ((S :: P) ++ [R, D])) w) : Hp W (R :: D :: O :: S :: P) w := by
  have h1 : Hp W ((O :: S :: P ++ [R]) ++ D :: []) w := by simpa using h
  have h2 := h1.front
  have h3 : Hp W ((D :: O :: S :: P) ++ R :: []) w := by simpa using h2
  simpa using h3.front
theorem mst_next {W w : World} {O S R D S2 : Itm} {P P2 : List Itm} (h : Hp W ((S2 :: P2) ++ R :: D :: O :: S :: P) w) : Hp W (R :: D :: O :: S2 :: (P2 ++ S :: P)) w := by
  have h1 := h.front
  have h2 : Hp W ((R :: S2 :: P2) ++ D :: O :: S :: P) w := by simpa using h1
  have h3 := h2.front
  have h4 : Hp W ((D :: R :: S2 :: P2) ++ O :: S :: P) w := by simpa using h3
  have h5 : Hp W (O :: D :: R :: S2 :: (P2 ++ S :: P)) w := by simpa using h4.front
  exact h5.swap3
def MSt (w : World) (R D : Itm) (g : Nat) (wx : World) : Prop := ∃ nm A n c vs L pool, (vO nm L).2 = 0 ∧ vs.length = L.length ∧ Pool pool vs L ∧ Hp w (R :: D :: obox g nm A n c :: sgv A n c vs L :: pool) wx
def MadeO (w : World) (e : Ending) (w' : World) : Prop :=
  ∃ nm A n c vs L pool, e = .returned (.agg #[.string (bs nm), .slice A n c]) ∧ (vO nm L).2 = 0 ∧ L.length = n ∧ vs.length = L.length ∧ Pool pool vs L ∧ Hp w (sgv A n c vs L :: pool) w'
set_option maxHeartbeats 3000000 in
theorem rmade_any (q : Nat) (AD : Option Addr) (nd cd : Nat) (D : List Int) (AM : Option Addr) (mm cm : Nat) (M : List Int) (w : World) (hq : q ≤ 255) (hD : D.length = nd) (hDz : ∀ z ∈ D, 0 ≤ z ∧ z ≤ 255) (hDc : CellsIn w AD (bytesC D)) (hM : M.length = mm) (hMz : ∀ z ∈ M, 0 ≤ z ∧ z ≤ 255) (hMc : CellsIn w AM (bytesC M)) :
    Calls Tryz.prog 31 #[.agg #[.int .u8 (q : Int), .slice AD nd cd, .slice AM mm cm]] w (MadeO w) := by
  obtain ⟨g1, hg1⟩ : ∃ z, z = w.heap.size := ⟨_, rfl⟩
  obtain ⟨W1, hW1⟩ : ∃ z, z = w.alloc (.cells #[.int .u8 (q : Int), .slice AD nd cd, .slice AM mm cm] 52) := ⟨_, rfl⟩
  have V1 := Lib.hid (show Hp w [dbox g1 (q : Int) AD nd cd AM mm cm] W1 by rw [hW1, hg1]; exact (Hp.start w).box_new _ _)
  obtain ⟨g2, hg2⟩ : ∃ z, z = W1.heap.size := ⟨_, rfl⟩
  obtain ⟨W2, hW2⟩ : ∃ z, z = W1.alloc (.cells #[.string ⟨#[]⟩, .slice none 0 0] 24) := ⟨_, rfl⟩
  have V2 := Lib.hid (show Hp w [obox g2 [] none 0 0, dbox g1 (q : Int) AD nd cd AM mm cm] W2 by rw [hW2, hg2]; exact V1.out.obox_new [] none 0 0)
  have HG2 := Lib.hid (show g2 = g1 + 1 by rw [hg2, hW1, hg1]; simp)
  have HG1 := Lib.hid hg1
  have HW1 := Lib.hid hW1
  have HW2 := Lib.hid hW2
  have HD := Lib.hid hD
  have HDZ := Lib.hid hDz
  have HDC := Lib.hid hDc
  have HM := Lib.hid hM
  have HMZ := Lib.hid hMz
  have HMC := Lib.hid hMc
  have hg12 : g1 < g2 := by rw [hg2, hW1, hg1]; simp
  have HG12 := Lib.hid hg12
  clear hg1 hW1 hg2 hW2 hD hDz hDc hM hMz hMc V1 hg12
  go_enter Tryz.func31, Tryz.ntmps31
  go_upto_region 1 with fail
  rw [← HG1.out, ← HW1.out, ← HG2.out, ← HW2.out]
  go_wp2_with fail
  refine (rlatin_any _).mono ?_
  rintro e w3 ⟨A, n, c, vs, pool, rfl, hn, hvs, hpool, hp⟩
  have V3 := Lib.hid (V2.out.join hp)
  have HVS := Lib.hid hvs
  have HPO := Lib.hid hpool
  clear hp hn hvs hpool
  obtain ⟨g3, hg3⟩ : ∃ z, z = w3.heap.size := ⟨_, rfl⟩
  obtain ⟨W4, hW4⟩ : ∃ z, z = w3.alloc (.cells #[.string (bs latN), .slice A n c] 24) := ⟨_, rfl⟩
  have V4 := Lib.hid (show Hp w (obox g2 [] none 0 0 :: dbox g1 (q : Int) AD nd cd AM mm cm :: obox g3 latN A n c :: sgv A n c vs latL :: pool) W4 by rw [hW4, hg3]; exact mst_first (V3.out.obox_new latN A n c))
  have HW4 := Lib.hid hW4
  have HG3 := Lib.hid hg3
  clear hW4 hg3
  go_upto_region 2 with fail
  rw [← HG3.out, ← HW4.out]
  obtain ⟨y0, y1, y2, y3⟩ := V4.out.dbox_at (i := 1) rfl
  go_upto_if 14 with fail
  go_cut [] (fun wx => MSt w (obox g2 [] none 0 0) (dbox g1 (q : Int) AD nd cd AM mm cm) g3 wx)
  case first =>
    by_cases hq2 : (q : Int) % 2 = 1
    · have e1 : ((q : Int) % 2 == 1) = true := by rw [beq_iff_eq]; exact hq2
      clear hq2 y0 y1 y2 y3
      go_wp2_with fail
      refine (rgreek_any _).mono ?_
      rintro e w5 ⟨A5, n5, c5, vs5, pool5, rfl, hn, hvs5, hpool5, hp⟩
      have V5 := Lib.hid (mst_next (V4.out.join hp))
      have HVS5 := Lib.hid hvs5
      have HPO5 := Lib.hid hpool5
      clear hp hn hvs5 hpool5
      obtain ⟨u01, u02, u03⟩ := V5.out.box_at (T := 24) (g := g3) (cs := oC latN A n c) (i := 2) rfl (j := 0) rfl
      obtain ⟨u11, u12, u13⟩ := V5.out.box_at (T := 24) (g := g3) (cs := oC latN A n c) (i := 2) rfl (j := 1) rfl
      have V6 := Lib.hid (show MSt w (obox g2 [] none 0 0) (dbox g1 (q : Int) AD nd cd AM mm cm) g3 ((w5.setCell ⟨g3, 0, none⟩ (.string (bs grkN))).setCell ⟨g3, 1, none⟩ (.slice A5 n5 c5)) from
        ⟨grkN, A5, n5, c5, vs5, grkL, _, grk_ok, HVS5.out, HPO5.out.app _, Hp.box_set (T := 24) (g := g3) (cs := [.string (bs grkN), .slice A n c]) (Hp.box_set (T := 24) (g := g3) (cs := oC latN A n c) V5.out (i := 2) rfl 0 (.string (bs grkN))) (i := 2) rfl 1 (.slice A5 n5 c5)⟩)
      go_wp2_with fail
      go_meet
      exact V6.out
    · have e1 : ((q : Int) % 2 == 1) = false := by rw [beq_eq_false_iff_ne]; exact hq2
      clear hq2
      go_wp2_with fail
      go_meet
      exact ⟨latN, A, n, c, vs, latL, pool, lat_ok, HVS.out, HPO.out, V4.out⟩
  case rest =>
    have HC4 := Lib.hid hcut
    clear hcut y0 y1 y2 y3 V4 V3 V2 HVS HPO HW4 HG3
    go_wp2_with fail
    go_loopw [4] (fun i wr => ∃ k : Nat, k ≤ nd ∧ i = .int .i64 (k : Int) ∧ MSt w (obox g2 [] none 0 0) (dbox g1 (q : Int) AD nd cd AM mm cm) g3 wr) (fun i _ => nd - (intOf i).toNat)
    case atStart => exact ⟨0, Nat.zero_le _, rfl, HC4.out⟩
    case round =>
      obtain ⟨k, hk, rfl, nm, A, n, c, vs, L, pool, hv, hvs, hpool, hV⟩ := hrel
      obtain ⟨wi, rfl⟩ : ∃ wi : World, wi = wr := ⟨_, rfl⟩
      have V3 := Lib.hid hV
      have HV := Lib.hid hv
      have HVS := Lib.hid hvs
      have HPO := Lib.hid hpool
      obtain ⟨hn1, hn2⟩ : 0 < n ∧ n ≤ 120 := by
        have := hV.sg_len (i := 3) rfl hvs
        obtain ⟨_, a, b, _⟩ := vO_zero hv
        omega
      have HL := Lib.hid (hV.sg_len (i := 3) rfl hvs)
      clear hV hv hvs hpool HC4
      obtain ⟨y0, y1, y2, y3⟩ := V3.out.dbox_at (i := 1) rfl
      go_upto_region 5 with fail
      go_cut [24] (fun r wx => r = .bool (decide (k < nd ∧ k < 20)) ∧ wi = wx)
      case first =>
        by_cases hlt : k < nd
        · by_cases h20 : k < 20
          · go_wp2_with fail
            go_meet
            exact ⟨by rw [decide_eq_true (show k < nd ∧ k < 20 from ⟨hlt, h20⟩), decide_eq_true (show (k : Int) < 20 by omega)], rfl⟩
          · go_wp2_with fail
            go_meet
            exact ⟨by rw [decide_eq_false (show ¬ (k < nd ∧ k < 20) from fun h => h20 h.2), decide_eq_false (show ¬ (k : Int) < 20 by omega)], rfl⟩
        · go_wp2_with fail
          go_meet
          exact ⟨by rw [decide_eq_false (show ¬ (k < nd ∧ k < 20) from fun h => hlt h.1)], rfl⟩
      case rest =>
      obtain ⟨rfl, rfl⟩ := hcut
      by_cases hlt2 : k < nd ∧ k < 20
      · rw [decide_eq_true hlt2]
        obtain ⟨hlt, h20⟩ := hlt2
        · obtain ⟨z, hz⟩ := get_at (L := D) (k := k) (by have := HD.out; omega)
          obtain ⟨bD, oD, hAD, hbD, d0⟩ := (HDC.out.below V3.out.below).oct hz
          have hzb := HDZ.out z (List.mem_of_getElem? hz)
          obtain ⟨zn, hzn⟩ := Int.eq_ofNat_of_zero_le hzb.1
          have hzn2 : zn ≤ 255 := by omega
          subst hzn
          obtain ⟨b, hA⟩ := V3.out.head (i := 3) (it := sgv A n c vs L) rfl (A := A) (c := c) rfl hn1
          subst hA
          obtain ⟨kk, hkk⟩ : ∃ kk, kk = zn % n := ⟨_, rfl⟩
          have hkn : kk < n := by rw [hkk]; exact Nat.mod_lt _ hn1
          have hmod : (zn : Int).tmod (n : Int) = (kk : Int) := by rw [hkk]; rfl
          have hwz : IntKind.i64.wrap (zn : Int) = (zn : Int) := IntWalk.i64_in _ (by omega)
          have hn0 : ¬ n = 0 := by omega
          clear hz hzb hkk
          obtain ⟨o0, o1, o2⟩ := V3.out.obox_at (i := 2) rfl
          rw [hAD] at y1
          have HAD := Lib.hid hAD
          clear hAD
          go_upto_region 7 with fail
          have hKp : Keep [(⟨g1, 1, none⟩, .slice (some ⟨bD, oD, none⟩) nd cd), (⟨bD, oD + k, none⟩, .int .u8 (zn : Int)), (⟨g3, 1, none⟩, .slice (some ⟨b, 0, none⟩) n c)] wi := List.forall_mem_cons.2 ⟨⟨y1, y3⟩, List.forall_mem_cons.2 ⟨⟨d0, hbD⟩, List.forall_mem_cons.2 ⟨⟨o1, o2⟩, fun _ h => by simp at h⟩⟩⟩
          refine wp_region_held_drew (S := Keep _) (by kernel_rfl) hKp.drew (fun hHeld => ?_)
          obtain ⟨wd, hwd⟩ : ∃ z, z = wi.drew := ⟨_, rfl⟩
          have Vwd := Lib.hid (show Hp w (obox g2 [] none 0 0 :: dbox g1 (q : Int) AD nd cd AM mm cm :: obox g3 nm (some ⟨b, 0, none⟩) n c :: sgv (some ⟨b, 0, none⟩) n c vs L :: pool) wd by rw [hwd]; exact V3.out.go (bdrew _))
          have Bwd := Lib.hid (show Below wi.heap.size wi wd by rw [hwd]; exact bdrew _)
          rw [← hwd] at hHeld ⊢
          clear hwd hKp
          refine tk 0 ?_ rfl ?_ ?_; rotate_left; focus (intro w hSw; clear hSw; go_simp; try (with_reducible rfl))
          try simp only [Act.put, sA, sZ, sS]
          refine tk 1 ?_ rfl ?_ ?_; rotate_left
          · intro wl hSw
            have hSw : Keep _ wl := hSw
            have k0 := (hSw _ (.head _)).1
            dsimp only at k0
            clear hSw
            go_simp
            try (with_reducible rfl)
          try simp only [Act.put, sA, sZ, sS]
          refine tk 2 ?_ rfl ?_ ?_; rotate_left; focus (intro w hSw; clear hSw; go_simp; try (with_reducible rfl))
          try simp only [Act.put, sA, sZ, sS]
          refine tk 3 ?_ rfl ?_ ?_; rotate_left; focus (intro w hSw; clear hSw; go_simp; try (with_reducible rfl))
          try simp only [Act.put, sA, sZ, sS]
          refine tk 4 ?_ rfl ?_ ?_; rotate_left
          · intro wl hSw
            have hSw : Keep _ wl := hSw
            have k0 := (hSw _ (.tail _ (.head _))).1
            dsimp only at k0
            clear hSw
            go_simp
            try (with_reducible rfl)
          try simp only [Act.put, sA, sZ, sS]
          refine tk 5 ?_ rfl ?_ ?_; rotate_left; focus (intro w hSw; clear hSw; go_simp; try (with_reducible rfl))
          try simp only [Act.put, sA, sZ, sS]
          refine tk 6 ?_ rfl ?_ ?_; rotate_left; focus (intro w hSw; clear hSw; go_simp; try (with_reducible rfl))
          try simp only [Act.put, sA, sZ, sS]
          refine tk 7 ?_ rfl ?_ ?_; rotate_left
          · intro wl hSw
            have hSw : Keep _ wl := hSw
            have k0 := (hSw _ (.tail _ (.tail _ (.head _)))).1
            dsimp only at k0
            clear hSw
            go_simp
            try (with_reducible rfl)
          try simp only [Act.put, sA, sZ, sS]
          refine tk 8 ?_ rfl ?_ ?_; rotate_left; focus (intro w hSw; clear hSw; go_simp; try (with_reducible rfl))
          try simp only [Act.put, sA, sZ, sS]
          refine tk 9 ?_ rfl ?_ ?_; rotate_left; focus (intro w hSw; clear hSw; go_simp; try (with_reducible rfl))
          try simp only [Act.put, sA, sZ, sS]
          refine tk 10 ?_ rfl ?_ ?_; rotate_left; focus (intro w hSw; clear hSw; go_simp; try (with_reducible rfl))
          try simp only [Act.put, sA, sZ, sS]
          refine wpAnyH_done (by kernel_rfl) ?_ _
          clear hHeld y0 y1 y2 y3 o0 o1 o2 d0 hbD hmod hwz hn0
          obtain ⟨x, hx⟩ := get_at (L := L) (k := kk) (by have := HL.out; omega)
          obtain ⟨v, hvv⟩ : ∃ v, vs[kk]? = some v := ⟨_, List.getElem?_eq_getElem (by rw [HVS.out, HL.out]; exact hkn)⟩
          obtain ⟨c0, _, cb⟩ := Vwd.out.cell (i := 3) (it := sgv (some ⟨b, 0, none⟩) n c vs L) rfl (g := b) (cap := c) rfl (sgsC_at hvv hx).1
          clear hx hvv
          obtain ⟨o0, o1, o2⟩ := Vwd.out.obox_at (i := 2) rfl
          have hcap : n ≤ c := (Vwd.out.cap (i := 3) (it := sgv (some ⟨b, 0, none⟩) n c vs L) rfl (A := some ⟨b, 0, none⟩) (c := c) rfl).1
          have hk4 : kk * 4 ≤ 480 := by omega
          cases e0 : ((bs x.t).toList == [97]) with
          | true =>
            go_wp2_with fail
            go_roundw
            case rel => exact ⟨k + 1, by omega, by go_num, nm, _, n, c, vs, L, pool, HV.out, HVS.out, HPO.out, Vwd.out⟩
            case measure => simp [intOf]; omega
          | false =>
            cases e1 : ((bs x.t).toList == [101]) with
            | true =>
              go_wp2_with fail
              go_roundw
              case rel => exact ⟨k + 1, by omega, by go_num, nm, _, n, c, vs, L, pool, HV.out, HVS.out, HPO.out, Vwd.out⟩
              case measure => simp [intOf]; omega
            | false =>
              cases e2 : ((bs x.t).toList == [114]) with
              | true =>
                go_wp2_with fail
                go_roundw
                case rel => exact ⟨k + 1, by omega, by go_num, nm, _, n, c, vs, L, pool, HV.out, HVS.out, HPO.out, Vwd.out⟩
                case measure => simp [intOf]; omega
              | false =>
                cases e3 : ((bs x.t).toList == [116]) with
                | true =>
                  go_wp2_with fail
                  go_roundw
                  case rel => exact ⟨k + 1, by omega, by go_num, nm, _, n, c, vs, L, pool, HV.out, HVS.out, HPO.out, Vwd.out⟩
                  case measure => simp [intOf]; omega
                | false =>
                  by_cases h8 : n < 8
                  · go_wp2_with fail
                    go_roundw
                    case rel => exact ⟨k + 1, by omega, by go_num, nm, _, n, c, vs, L, pool, HV.out, HVS.out, HPO.out, Vwd.out⟩
                    case measure => simp [intOf]; omega
                  · obtain ⟨k1, hk1⟩ : ∃ k1, k1 = kk + 1 := ⟨_, rfl⟩
                    have HK1 := Lib.hid hk1
                    have hk1n : k1 ≤ n := by omega
                    have hkc : kk ≤ c := by omega
                    have hkw : IntKind.i64.wrap ((kk : Int) + 1) = (k1 : Int) := by rw [IntWalk.i64_in _ (by omega)]; omega
                    obtain ⟨BB, hBB⟩ : ∃ BB : Option Addr, (if c = k1 then some (⟨b, 0, none⟩ : Addr) else some ⟨b, k1 * 4, none⟩) = BB := ⟨_, rfl⟩
                    have HBB := Lib.hid hBB
                    clear hk1
                    go_upto_region 10 with fail
                    clear h8 c0 cb o0 o1 o2
                    have hKp : Keep [] wd := fun _ h => by simp at h
                    refine wp_region_held_drew (S := Keep _) (by kernel_rfl) hKp.drew (fun hHeld => ?_)
                    obtain ⟨we, hwe⟩ : ∃ z, z = wd.drew := ⟨_, rfl⟩
                    have Vwe := Lib.hid (show Hp w (obox g2 [] none 0 0 :: dbox g1 (q : Int) AD nd cd AM mm cm :: obox g3 nm (some ⟨b, 0, none⟩) n c :: sgv (some ⟨b, 0, none⟩) n c vs L :: pool) we by rw [hwe]; exact Vwd.out.go (bdrew _))
                    have Bwe := Lib.hid (show Below wd.heap.size wd we by rw [hwe]; exact bdrew _)
                    rw [← hwe] at hHeld ⊢
                    clear hwe hKp
                    refine tk 1 ?_ rfl ?_ ?_; rotate_left; focus (intro w hSw; clear hSw; go_simp; try (with_reducible rfl))
                    try simp only [Act.put, sA, sZ, sS]
                    refine tk 3 ?_ rfl ?_ ?_; rotate_left; focus (intro w hSw; clear hSw; go_simp; try (with_reducible rfl))
                    try simp only [Act.put, sA, sZ, sS]
                    refine tk 6 ?_ rfl ?_ ?_; rotate_left; focus (intro w hSw; clear hSw; go_simp; try (with_reducible rfl))
                    try simp only [Act.put, sA, sZ, sS]
                    refine tk 8 ?_ rfl ?_ ?_; rotate_left; focus (intro w hSw; clear hSw; go_simp; try (with_reducible rfl))
                    try simp only [Act.put, sA, sZ, sS]
                    refine tk 9 ?_ rfl ?_ ?_; rotate_left; focus (intro w hSw; clear hSw; go_simp; try (with_reducible rfl))
                    try simp only [Act.put, sA, sZ, sS]
                    refine wpAnyH_ready (rs := [0, 2, 7]) (by kernel_rfl) (by simp) ?_
                    refine AllReadyH.cons (List.getElem?_toArray.trans rfl) (fun K hK => ?_) ?_
                    · obtain ⟨w_0, hw_0⟩ : ∃ z, z = we.alloc (.cells #[] 58) := ⟨_, rfl⟩
                      obtain ⟨A2, c2, w2, A3, c3, w3, hr2, hr3, hv2, hv3⟩ := run_drop Vwe.out HVS.out hkn (by omega) 22 hw_0 b rfl BB (by rw [← HBB.out, HK1.out, Nat.zero_add])
                      rw [← HK1.out] at hr3
                      have R2 := Lib.hid hr2
                      have R3 := Lib.hid hr3
                      have X2 := Lib.hid hv2
                      have X3 := Lib.hid hv3
                      have HW_0 := Lib.hid hw_0
                      clear hr2 hr3 hv2 hv3 hw_0
                      have V_0 := Lib.hid (show Hp w (obox g2 [] none 0 0 :: dbox g1 (q : Int) AD nd cd AM mm cm :: obox g3 nm (some ⟨b, 0, none⟩) n c :: sgv (some ⟨b, 0, none⟩) n c vs L :: pool) w_0 by rw [HW_0.out]; exact Vwe.out.go (bnew _ _))
                      go_simp
                      try rw [← HW_0.out]
                      refine hK.out _ _ (fun _ h => by simp at h) (fun hHeld => ?_)
                      clear hK K
                      try simp only [Act.put, sA, sZ, sS]
                      refine wpAnyH_ready (rs := [2, 7]) (by kernel_rfl) (by simp) ?_
                      refine AllReadyH.cons (List.getElem?_toArray.trans rfl) (fun K hK => ?_) ?_
                      · have yL := (V_0.out.box_at (i := 2) (j := 1) rfl rfl).1
                        go_simp
                        clear yL
                        refine hK.out _ _ (hHeld) (fun hHeld => ?_)
                        clear hK K
                        try simp only [Act.put, sA, sZ, sS]
                        refine tk 4 ?_ rfl ?_ ?_; rotate_left; focus (intro w hSw; clear hSw; go_simp; try (with_reducible rfl))
                        try simp only [Act.put, sA, sZ, sS]
                        refine wpAnyH_ready (rs := [5, 7]) (by kernel_rfl) (by simp) ?_
                        refine AllReadyH.cons (List.getElem?_toArray.trans rfl) (fun K hK => ?_) ?_
                        · refine step_app_run rfl (.tmp 63) (.tmp 67) 22 rfl R2.out rfl rfl ?_
                          refine hK.out _ _ (fun _ h => by simp at h) (fun hHeld => ?_)
                          clear hK K
                          try simp only [Act.put, sA, sZ, sS]
                          refine wpAnyH_ready (rs := [7]) (by kernel_rfl) (by simp) ?_
                          refine AllReadyH.cons (List.getElem?_toArray.trans rfl) (fun K hK => ?_) AllReadyH.nil
                          have yL := (X2.out.box_at (i := 3) (j := 1) rfl rfl).1
                          go_simp
                          clear yL
                          refine hK.out _ _ (hHeld) (fun hHeld => ?_)
                          clear hK K
                          try simp only [Act.put, sA, sZ, sS]
                          refine tk 10 ?_ rfl ?_ ?_; rotate_left; focus (intro w hSw; clear hSw; go_simp; try (with_reducible rfl))
                          try simp only [Act.put, sA, sZ, sS]
                          refine wpAnyH_ready (rs := [11]) (by kernel_rfl) (by simp) ?_
                          refine AllReadyH.cons (List.getElem?_toArray.trans rfl) (fun K hK => ?_) AllReadyH.nil
                          refine step_app_run rfl (.tmp 68) (.tmp 73) 22 rfl R3.out rfl rfl ?_
                          refine hK.out _ _ (fun _ h => by simp at h) (fun hHeld => ?_)
                          clear hK K
                          try simp only [Act.put, sA, sZ, sS]
                          refine tk 12 ?_ rfl ?_ ?_; rotate_left; focus (intro w hSw; clear hSw; go_simp; try (with_reducible rfl))
                          try simp only [Act.put, sA, sZ, sS]
                          refine wpAnyH_ready (rs := [13]) (by kernel_rfl) (by simp) ?_
                          refine AllReadyH.cons (List.getElem?_toArray.trans rfl) (fun K hK => ?_) AllReadyH.nil
                          obtain ⟨u1, u2, u3⟩ := (X3.out.box_at (i := 3) (j := 1) rfl rfl)
                          have X4 := Lib.hid (Hp.box_set (T := 24) (g := g3) (cs := oC nm (some ⟨b, 0, none⟩) n c) X3.out (i := 3) rfl 1 (.slice A3 (n - 1) c3))
                          go_simp
                          refine hK.out _ _ (fun _ h => by simp at h) (fun hHeld => ?_)
                          clear hK K
                          try simp only [Act.put, sA, sZ, sS]
                          refine wpAnyH_done (by kernel_rfl) ?_ _
                          have X5 := Lib.hid (show Hp w (obox g2 [] none 0 0 :: dbox g1 (q : Int) AD nd cd AM mm cm :: obox g3 nm A3 (n - 1) c3 :: sgv A3 (n - 1) c3 (vs.take kk ++ vs.drop (kk + 1)) (L.take kk ++ L.drop (kk + 1)) :: sgv (some ⟨b, 0, none⟩) n c vs L :: pool) _ from Hp.sink (l := [_, _, _]) X4.out)
                          clear hHeld
                          go_wp2_with fail
                          go_roundw
                          case rel => exact ⟨k + 1, by omega, by go_num, nm, A3, n - 1, c3, _, _, _, vO_sub HV.out (cut_sub L kk) (by rw [cut_len (by have := HL.out; omega)]; have := HL.out; omega), by rw [cut_len (by rw [HVS.out, HL.out]; exact hkn), cut_len (by rw [HL.out]; exact hkn), HVS.out], (HPO.out.cut kk).wider _, X5.out⟩
                          case measure => simp [intOf]; omega
                        refine AllReadyH.cons (List.getElem?_toArray.trans rfl) (fun K hK => ?_) ?_
                        · have yL := (V_0.out.box_at (i := 2) (j := 1) rfl rfl).1
                          go_simp
                          clear yL
                          refine hK.out _ _ (hHeld) (fun hHeld => ?_)
                          clear hK K
                          try simp only [Act.put, sA, sZ, sS]
                          refine tk 10 ?_ rfl ?_ ?_; rotate_left; focus (intro w hSw; clear hSw; go_simp; try (with_reducible rfl))
                          try simp only [Act.put, sA, sZ, sS]
                          refine wpAnyH_ready (rs := [5]) (by kernel_rfl) (by simp) ?_
                          refine AllReadyH.cons (List.getElem?_toArray.trans rfl) (fun K hK => ?_) AllReadyH.nil
                          refine step_app_run rfl (.tmp 63) (.tmp 67) 22 rfl R2.out rfl rfl ?_
                          refine hK.out _ _ (fun _ h => by simp at h) (fun hHeld => ?_)
                          clear hK K
                          try simp only [Act.put, sA, sZ, sS]
                          refine wpAnyH_ready (rs := [11]) (by kernel_rfl) (by simp) ?_
                          refine AllReadyH.cons (List.getElem?_toArray.trans rfl) (fun K hK => ?_) AllReadyH.nil
                          refine step_app_run rfl (.tmp 68) (.tmp 73) 22 rfl R3.out rfl rfl ?_
                          refine hK.out _ _ (fun _ h => by simp at h) (fun hHeld => ?_)
                          clear hK K
                          try simp only [Act.put, sA, sZ, sS]
                          refine tk 12 ?_ rfl ?_ ?_; rotate_left; focus (intro w hSw; clear hSw; go_simp; try (with_reducible rfl))
                          try simp only [Act.put, sA, sZ, sS]
                          refine wpAnyH_ready (rs := [13]) (by kernel_rfl) (by simp) ?_
                          refine AllReadyH.cons (List.getElem?_toArray.trans rfl) (fun K hK => ?_) AllReadyH.nil
                          obtain ⟨u1, u2, u3⟩ := (X3.out.box_at (i := 3) (j := 1) rfl rfl)
                          have X4 := Lib.hid (Hp.box_set (T := 24) (g := g3) (cs := oC nm (some ⟨b, 0, none⟩) n c) X3.out (i := 3) rfl 1 (.slice A3 (n - 1) c3))
                          go_simp
                          refine hK.out _ _ (fun _ h => by simp at h) (fun hHeld => ?_)
                          clear hK K
                          try simp only [Act.put, sA, sZ, sS]
                          refine wpAnyH_done (by kernel_rfl) ?_ _
                          have X5 := Lib.hid (show Hp w (obox g2 [] none 0 0 :: dbox g1 (q : Int) AD nd cd AM mm cm :: obox g3 nm A3 (n - 1) c3 :: sgv A3 (n - 1) c3 (vs.take kk ++ vs.drop (kk + 1)) (L.take kk ++ L.drop (kk + 1)) :: sgv (some ⟨b, 0, none⟩) n c vs L :: pool) _ from Hp.sink (l := [_, _, _]) X4.out)
                          clear hHeld
                          go_wp2_with fail
                          go_roundw
                          case rel => exact ⟨k + 1, by omega, by go_num, nm, A3, n - 1, c3, _, _, _, vO_sub HV.out (cut_sub L kk) (by rw [cut_len (by have := HL.out; omega)]; have := HL.out; omega), by rw [cut_len (by rw [HVS.out, HL.out]; exact hkn), cut_len (by rw [HL.out]; exact hkn), HVS.out], (HPO.out.cut kk).wider _, X5.out⟩
                          case measure => simp [intOf]; omega
                        exact AllReadyH.nil
                      refine AllReadyH.cons (List.getElem?_toArray.trans rfl) (fun K hK => ?_) ?_
                      · have yL := (V_0.out.box_at (i := 2) (j := 1) rfl rfl).1
                        go_simp
                        clear yL
                        refine hK.out _ _ (hHeld) (fun hHeld => ?_)
                        clear hK K
                        try simp only [Act.put, sA, sZ, sS]
                        refine tk 10 ?_ rfl ?_ ?_; rotate_left; focus (intro w hSw; clear hSw; go_simp; try (with_reducible rfl))
                        try simp only [Act.put, sA, sZ, sS]
                        refine wpAnyH_ready (rs := [2]) (by kernel_rfl) (by simp) ?_
                        refine AllReadyH.cons (List.getElem?_toArray.trans rfl) (fun K hK => ?_) AllReadyH.nil
                        have yL := (V_0.out.box_at (i := 2) (j := 1) rfl rfl).1
                        go_simp
                        clear yL
                        refine hK.out _ _ (hHeld) (fun hHeld => ?_)
                        clear hK K
                        try simp only [Act.put, sA, sZ, sS]
                        refine tk 4 ?_ rfl ?_ ?_; rotate_left; focus (intro w hSw; clear hSw; go_simp; try (with_reducible rfl))
                        try simp only [Act.put, sA, sZ, sS]
                        refine wpAnyH_ready (rs := [5]) (by kernel_rfl) (by simp) ?_
                        refine AllReadyH.cons (List.getElem?_toArray.trans rfl) (fun K hK => ?_) AllReadyH.nil
                        refine step_app_run rfl (.tmp 63) (.tmp 67) 22 rfl R2.out rfl rfl ?_
                        refine hK.out _ _ (fun _ h => by simp at h) (fun hHeld => ?_)
                        clear hK K
                        try simp only [Act.put, sA, sZ, sS]
                        refine wpAnyH_ready (rs := [11]) (by kernel_rfl) (by simp) ?_
                        refine AllReadyH.cons (List.getElem?_toArray.trans rfl) (fun K hK => ?_) AllReadyH.nil
                        refine step_app_run rfl (.tmp 68) (.tmp 73) 22 rfl R3.out rfl rfl ?_
                        refine hK.out _ _ (fun _ h => by simp at h) (fun hHeld => ?_)
                        clear hK K
                        try simp only [Act.put, sA, sZ, sS]
                        refine tk 12 ?_ rfl ?_ ?_; rotate_left; focus (intro w hSw; clear hSw; go_simp; try (with_reducible rfl))
                        try simp only [Act.put, sA, sZ, sS]
                        refine wpAnyH_ready (rs := [13]) (by kernel_rfl) (by simp) ?_
                        refine AllReadyH.cons (List.getElem?_toArray.trans rfl) (fun K hK => ?_) AllReadyH.nil
                        obtain ⟨u1, u2, u3⟩ := (X3.out.box_at (i := 3) (j := 1) rfl rfl)
                        have X4 := Lib.hid (Hp.box_set (T := 24) (g := g3) (cs := oC nm (some ⟨b, 0, none⟩) n c) X3.out (i := 3) rfl 1 (.slice A3 (n - 1) c3))
                        go_simp
                        refine hK.out _ _ (fun _ h => by simp at h) (fun hHeld => ?_)
                        clear hK K
                        try simp only [Act.put, sA, sZ, sS]
                        refine wpAnyH_done (by kernel_rfl) ?_ _
                        have X5 := Lib.hid (show Hp w (obox g2 [] none 0 0 :: dbox g1 (q : Int) AD nd cd AM mm cm :: obox g3 nm A3 (n - 1) c3 :: sgv A3 (n - 1) c3 (vs.take kk ++ vs.drop (kk + 1)) (L.take kk ++ L.drop (kk + 1)) :: sgv (some ⟨b, 0, none⟩) n c vs L :: pool) _ from Hp.sink (l := [_, _, _]) X4.out)
                        clear hHeld
                        go_wp2_with fail
                        go_roundw
                        case rel => exact ⟨k + 1, by omega, by go_num, nm, A3, n - 1, c3, _, _, _, vO_sub HV.out (cut_sub L kk) (by rw [cut_len (by have := HL.out; omega)]; have := HL.out; omega), by rw [cut_len (by rw [HVS.out, HL.out]; exact hkn), cut_len (by rw [HL.out]; exact hkn), HVS.out], (HPO.out.cut kk).wider _, X5.out⟩
                        case measure => simp [intOf]; omega
                      exact AllReadyH.nil
                    refine AllReadyH.cons (List.getElem?_toArray.trans rfl) (fun K hK => ?_) ?_
                    · have yL := (Vwe.out.box_at (i := 2) (j := 1) rfl rfl).1
                      go_simp
                      clear yL
                      refine hK.out _ _ (hHeld) (fun hHeld => ?_)
                      clear hK K
                      try simp only [Act.put, sA, sZ, sS]
                      refine tk 4 ?_ rfl ?_ ?_; rotate_left; focus (intro w hSw; clear hSw; go_simp; try (with_reducible rfl))
                      try simp only [Act.put, sA, sZ, sS]
                      refine wpAnyH_ready (rs := [0, 7]) (by kernel_rfl) (by simp) ?_
                      refine AllReadyH.cons (List.getElem?_toArray.trans rfl) (fun K hK => ?_) ?_
                      · obtain ⟨w_2_0, hw_2_0⟩ : ∃ z, z = we.alloc (.cells #[] 58) := ⟨_, rfl⟩
                        obtain ⟨A2, c2, w2, A3, c3, w3, hr2, hr3, hv2, hv3⟩ := run_drop Vwe.out HVS.out hkn (by omega) 22 hw_2_0 b rfl BB (by rw [← HBB.out, HK1.out, Nat.zero_add])
                        rw [← HK1.out] at hr3
                        have R2 := Lib.hid hr2
                        have R3 := Lib.hid hr3
                        have X2 := Lib.hid hv2
                        have X3 := Lib.hid hv3
                        have HW_2_0 := Lib.hid hw_2_0
                        clear hr2 hr3 hv2 hv3 hw_2_0
                        have V_2_0 := Lib.hid (show Hp w (obox g2 [] none 0 0 :: dbox g1 (q : Int) AD nd cd AM mm cm :: obox g3 nm (some ⟨b, 0, none⟩) n c :: sgv (some ⟨b, 0, none⟩) n c vs L :: pool) w_2_0 by rw [HW_2_0.out]; exact Vwe.out.go (bnew _ _))
                        go_simp
                        try rw [← HW_2_0.out]
                        refine hK.out _ _ (fun _ h => by simp at h) (fun hHeld => ?_)
                        clear hK K
                        try simp only [Act.put, sA, sZ, sS]
                        refine wpAnyH_ready (rs := [5, 7]) (by kernel_rfl) (by simp) ?_
                        refine AllReadyH.cons (List.getElem?_toArray.trans rfl) (fun K hK => ?_) ?_
                        · refine step_app_run rfl (.tmp 63) (.tmp 67) 22 rfl R2.out rfl rfl ?_
                          refine hK.out _ _ (fun _ h => by simp at h) (fun hHeld => ?_)
                          clear hK K
                          try simp only [Act.put, sA, sZ, sS]
                          refine wpAnyH_ready (rs := [7]) (by kernel_rfl) (by simp) ?_
                          refine AllReadyH.cons (List.getElem?_toArray.trans rfl) (fun K hK => ?_) AllReadyH.nil
                          have yL := (X2.out.box_at (i := 3) (j := 1) rfl rfl).1
                          go_simp
                          clear yL
                          refine hK.out _ _ (hHeld) (fun hHeld => ?_)
                          clear hK K
                          try simp only [Act.put, sA, sZ, sS]
                          refine tk 10 ?_ rfl ?_ ?_; rotate_left; focus (intro w hSw; clear hSw; go_simp; try (with_reducible rfl))
                          try simp only [Act.put, sA, sZ, sS]
                          refine wpAnyH_ready (rs := [11]) (by kernel_rfl) (by simp) ?_
                          refine AllReadyH.cons (List.getElem?_toArray.trans rfl) (fun K hK => ?_) AllReadyH.nil
                          refine step_app_run rfl (.tmp 68) (.tmp 73) 22 rfl R3.out rfl rfl ?_
                          refine hK.out _ _ (fun _ h => by simp at h) (fun hHeld => ?_)
                          clear hK K
                          try simp only [Act.put, sA, sZ, sS]
                          refine tk 12 ?_ rfl ?_ ?_; rotate_left; focus (intro w hSw; clear hSw; go_simp; try (with_reducible rfl))
                          try simp only [Act.put, sA, sZ, sS]
                          refine wpAnyH_ready (rs := [13]) (by kernel_rfl) (by simp) ?_
                          refine AllReadyH.cons (List.getElem?_toArray.trans rfl) (fun K hK => ?_) AllReadyH.nil
                          obtain ⟨u1, u2, u3⟩ := (X3.out.box_at (i := 3) (j := 1) rfl rfl)
                          have X4 := Lib.hid (Hp.box_set (T := 24) (g := g3) (cs := oC nm (some ⟨b, 0, none⟩) n c) X3.out (i := 3) rfl 1 (.slice A3 (n - 1) c3))
                          go_simp
                          refine hK.out _ _ (fun _ h => by simp at h) (fun hHeld => ?_)
                          clear hK K
                          try simp only [Act.put, sA, sZ, sS]
                          refine wpAnyH_done (by kernel_rfl) ?_ _
                          have X5 := Lib.hid (show Hp w (obox g2 [] none 0 0 :: dbox g1 (q : Int) AD nd cd AM mm cm :: obox g3 nm A3 (n - 1) c3 :: sgv A3 (n - 1) c3 (vs.take kk ++ vs.drop (kk + 1)) (L.take kk ++ L.drop (kk + 1)) :: sgv (some ⟨b, 0, none⟩) n c vs L :: pool) _ from Hp.sink (l := [_, _, _]) X4.out)
                          clear hHeld
                          go_wp2_with fail
                          go_roundw
                          case rel => exact ⟨k + 1, by omega, by go_num, nm, A3, n - 1, c3, _, _, _, vO_sub HV.out (cut_sub L kk) (by rw [cut_len (by have := HL.out; omega)]; have := HL.out; omega), by rw [cut_len (by rw [HVS.out, HL.out]; exact hkn), cut_len (by rw [HL.out]; exact hkn), HVS.out], (HPO.out.cut kk).wider _, X5.out⟩
                          case measure => simp [intOf]; omega
                        refine AllReadyH.cons (List.getElem?_toArray.trans rfl) (fun K hK => ?_) ?_
                        · have yL := (V_2_0.out.box_at (i := 2) (j := 1) rfl rfl).1
                          go_simp
                          clear yL
                          refine hK.out _ _ (hHeld) (fun hHeld => ?_)
                          clear hK K
                          try simp only [Act.put, sA, sZ, sS]
                          refine tk 10 ?_ rfl ?_ ?_; rotate_left; focus (intro w hSw; clear hSw; go_simp; try (with_reducible rfl))
                          try simp only [Act.put, sA, sZ, sS]
                          refine wpAnyH_ready (rs := [5]) (by kernel_rfl) (by simp) ?_
                          refine AllReadyH.cons (List.getElem?_toArray.trans rfl) (fun K hK => ?_) AllReadyH.nil
                          refine step_app_run rfl (.tmp 63) (.tmp 67) 22 rfl R2.out rfl rfl ?_
                          refine hK.out _ _ (fun _ h => by simp at h) (fun hHeld => ?_)
                          clear hK K
                          try simp only [Act.put, sA, sZ, sS]
                          refine wpAnyH_ready (rs := [11]) (by kernel_rfl) (by simp) ?_
                          refine AllReadyH.cons (List.getElem?_toArray.trans rfl) (fun K hK => ?_) AllReadyH.nil
                          refine step_app_run rfl (.tmp 68) (.tmp 73) 22 rfl R3.out rfl rfl ?_
                          refine hK.out _ _ (fun _ h => by simp at h) (fun hHeld => ?_)
                          clear hK K
                          try simp only [Act.put, sA, sZ, sS]
                          refine tk 12 ?_ rfl ?_ ?_; rotate_left; focus (intro w hSw; clear hSw; go_simp; try (with_reducible rfl))
                          try simp only [Act.put, sA, sZ, sS]
                          refine wpAnyH_ready (rs := [13]) (by kernel_rfl) (by simp) ?_
                          refine AllReadyH.cons (List.getElem?_toArray.trans rfl) (fun K hK => ?_) AllReadyH.nil
                          obtain ⟨u1, u2, u3⟩ := (X3.out.box_at (i := 3) (j := 1) rfl rfl)
                          have X4 := Lib.hid (Hp.box_set (T := 24) (g := g3) (cs := oC nm (some ⟨b, 0, none⟩) n c) X3.out (i := 3) rfl 1 (.slice A3 (n - 1) c3))
                          go_simp
                          refine hK.out _ _ (fun _ h => by simp at h) (fun hHeld => ?_)
                          clear hK K
                          try simp only [Act.put, sA, sZ, sS]
                          refine wpAnyH_done (by kernel_rfl) ?_ _
                          have X5 := Lib.hid (show Hp w (obox g2 [] none 0 0 :: dbox g1 (q : Int) AD nd cd AM mm cm :: obox g3 nm A3 (n - 1) c3 :: sgv A3 (n - 1) c3 (vs.take kk ++ vs.drop (kk + 1)) (L.take kk ++ L.drop (kk + 1)) :: sgv (some ⟨b, 0, none⟩) n c vs L :: pool) _ from Hp.sink (l := [_, _, _]) X4.out)
                          clear hHeld
                          go_wp2_with fail
                          go_roundw
                          case rel => exact ⟨k + 1, by omega, by go_num, nm, A3, n - 1, c3, _, _, _, vO_sub HV.out (cut_sub L kk) (by rw [cut_len (by have := HL.out; omega)]; have := HL.out; omega), by rw [cut_len (by rw [HVS.out, HL.out]; exact hkn), cut_len (by rw [HL.out]; exact hkn), HVS.out], (HPO.out.cut kk).wider _, X5.out⟩
                          case measure => simp [intOf]; omega
                        exact AllReadyH.nil
                      refine AllReadyH.cons (List.getElem?_toArray.trans rfl) (fun K hK => ?_) ?_
                      · have yL := (Vwe.out.box_at (i := 2) (j := 1) rfl rfl).1
                        go_simp
                        clear yL
                        refine hK.out _ _ (hHeld) (fun hHeld => ?_)
                        clear hK K
                        try simp only [Act.put, sA, sZ, sS]
                        refine tk 10 ?_ rfl ?_ ?_; rotate_left; focus (intro w hSw; clear hSw; go_simp; try (with_reducible rfl))
                        try simp only [Act.put, sA, sZ, sS]
                        refine wpAnyH_ready (rs := [0]) (by kernel_rfl) (by simp) ?_
                        refine AllReadyH.cons (List.getElem?_toArray.trans rfl) (fun K hK => ?_) AllReadyH.nil
                        obtain ⟨w_2_7_0, hw_2_7_0⟩ : ∃ z, z = we.alloc (.cells #[] 58) := ⟨_, rfl⟩
                        obtain ⟨A2, c2, w2, A3, c3, w3, hr2, hr3, hv2, hv3⟩ := run_drop Vwe.out HVS.out hkn (by omega) 22 hw_2_7_0 b rfl BB (by rw [← HBB.out, HK1.out, Nat.zero_add])
                        rw [← HK1.out] at hr3
                        have R2 := Lib.hid hr2
                        have R3 := Lib.hid hr3
                        have X2 := Lib.hid hv2
                        have X3 := Lib.hid hv3
                        have HW_2_7_0 := Lib.hid hw_2_7_0
                        clear hr2 hr3 hv2 hv3 hw_2_7_0
                        have V_2_7_0 := Lib.hid (show Hp w (obox g2 [] none 0 0 :: dbox g1 (q : Int) AD nd cd AM mm cm :: obox g3 nm (some ⟨b, 0, none⟩) n c :: sgv (some ⟨b, 0, none⟩) n c vs L :: pool) w_2_7_0 by rw [HW_2_7_0.out]; exact Vwe.out.go (bnew _ _))
                        go_simp
                        try rw [← HW_2_7_0.out]
                        refine hK.out _ _ (fun _ h => by simp at h) (fun hHeld => ?_)
                        clear hK K
                        try simp only [Act.put, sA, sZ, sS]
                        refine wpAnyH_ready (rs := [5]) (by kernel_rfl) (by simp) ?_
                        refine AllReadyH.cons (List.getElem?_toArray.trans rfl) (fun K hK => ?_) AllReadyH.nil
                        refine step_app_run rfl (.tmp 63) (.tmp 67) 22 rfl R2.out rfl rfl ?_
                        refine hK.out _ _ (fun _ h => by simp at h) (fun hHeld => ?_)
                        clear hK K
                        try simp only [Act.put, sA, sZ, sS]
                        refine wpAnyH_ready (rs := [11]) (by kernel_rfl) (by simp) ?_
                        refine AllReadyH.cons (List.getElem?_toArray.trans rfl) (fun K hK => ?_) AllReadyH.nil
                        refine step_app_run rfl (.tmp 68) (.tmp 73) 22 rfl R3.out rfl rfl ?_
                        refine hK.out _ _ (fun _ h => by simp at h) (fun hHeld => ?_)
                        clear hK K
                        try simp only [Act.put, sA, sZ, sS]
                        refine tk 12 ?_ rfl ?_ ?_; rotate_left; focus (intro w hSw; clear hSw; go_simp; try (with_reducible rfl))
                        try simp only [Act.put, sA, sZ, sS]
                        refine wpAnyH_ready (rs := [13]) (by kernel_rfl) (by simp) ?_
                        refine AllReadyH.cons (List.getElem?_toArray.trans rfl) (fun K hK => ?_) AllReadyH.nil
                        obtain ⟨u1, u2, u3⟩ := (X3.out.box_at (i := 3) (j := 1) rfl rfl)
                        have X4 := Lib.hid (Hp.box_set (T := 24) (g := g3) (cs := oC nm (some ⟨b, 0, none⟩) n c) X3.out (i := 3) rfl 1 (.slice A3 (n - 1) c3))
                        go_simp
                        refine hK.out _ _ (fun _ h => by simp at h) (fun hHeld => ?_)
                        clear hK K
                        try simp only [Act.put, sA, sZ, sS]
                        refine wpAnyH_done (by kernel_rfl) ?_ _
                        have X5 := Lib.hid (show Hp w (obox g2 [] none 0 0 :: dbox g1 (q : Int) AD nd cd AM mm cm :: obox g3 nm A3 (n - 1) c3 :: sgv A3 (n - 1) c3 (vs.take kk ++ vs.drop (kk + 1)) (L.take kk ++ L.drop (kk + 1)) :: sgv (some ⟨b, 0, none⟩) n c vs L :: pool) _ from Hp.sink (l := [_, _, _]) X4.out)
                        clear hHeld
                        go_wp2_with fail
                        go_roundw
                        case rel => exact ⟨k + 1, by omega, by go_num, nm, A3, n - 1, c3, _, _, _, vO_sub HV.out (cut_sub L kk) (by rw [cut_len (by have := HL.out; omega)]; have := HL.out; omega), by rw [cut_len (by rw [HVS.out, HL.out]; exact hkn), cut_len (by rw [HL.out]; exact hkn), HVS.out], (HPO.out.cut kk).wider _, X5.out⟩
                        case measure => simp [intOf]; omega
                      exact AllReadyH.nil
                    refine AllReadyH.cons (List.getElem?_toArray.trans rfl) (fun K hK => ?_) ?_
                    · have yL := (Vwe.out.box_at (i := 2) (j := 1) rfl rfl).1
                      go_simp
                      clear yL
                      refine hK.out _ _ (hHeld) (fun hHeld => ?_)
                      clear hK K
                      try simp only [Act.put, sA, sZ, sS]
                      refine tk 10 ?_ rfl ?_ ?_; rotate_left; focus (intro w hSw; clear hSw; go_simp; try (with_reducible rfl))
                      try simp only [Act.put, sA, sZ, sS]
                      refine wpAnyH_ready (rs := [0, 2]) (by kernel_rfl) (by simp) ?_
                      refine AllReadyH.cons (List.getElem?_toArray.trans rfl) (fun K hK => ?_) ?_
                      · obtain ⟨w_7_0, hw_7_0⟩ : ∃ z, z = we.alloc (.cells #[] 58) := ⟨_, rfl⟩
                        obtain ⟨A2, c2, w2, A3, c3, w3, hr2, hr3, hv2, hv3⟩ := run_drop Vwe.out HVS.out hkn (by omega) 22 hw_7_0 b rfl BB (by rw [← HBB.out, HK1.out, Nat.zero_add])
                        rw [← HK1.out] at hr3
                        have R2 := Lib.hid hr2
                        have R3 := Lib.hid hr3
                        have X2 := Lib.hid hv2
                        have X3 := Lib.hid hv3
                        have HW_7_0 := Lib.hid hw_7_0
                        clear hr2 hr3 hv2 hv3 hw_7_0
                        have V_7_0 := Lib.hid (show Hp w (obox g2 [] none 0 0 :: dbox g1 (q : Int) AD nd cd AM mm cm :: obox g3 nm (some ⟨b, 0, none⟩) n c :: sgv (some ⟨b, 0, none⟩) n c vs L :: pool) w_7_0 by rw [HW_7_0.out]; exact Vwe.out.go (bnew _ _))
                        go_simp
                        try rw [← HW_7_0.out]
                        refine hK.out _ _ (fun _ h => by simp at h) (fun hHeld => ?_)
                        clear hK K
                        try simp only [Act.put, sA, sZ, sS]
                        refine wpAnyH_ready (rs := [2]) (by kernel_rfl) (by simp) ?_
                        refine AllReadyH.cons (List.getElem?_toArray.trans rfl) (fun K hK => ?_) AllReadyH.nil
                        have yL := (V_7_0.out.box_at (i := 2) (j := 1) rfl rfl).1
                        go_simp
                        clear yL
                        refine hK.out _ _ (hHeld) (fun hHeld => ?_)
                        clear hK K
                        try simp only [Act.put, sA, sZ, sS]
                        refine tk 4 ?_ rfl ?_ ?_; rotate_left; focus (intro w hSw; clear hSw; go_simp; try (with_reducible rfl))
                        try simp only [Act.put, sA, sZ, sS]
                        refine wpAnyH_ready (rs := [5]) (by kernel_rfl) (by simp) ?_
                        refine AllReadyH.cons (List.getElem?_toArray.trans rfl) (fun K hK => ?_) AllReadyH.nil
                        refine step_app_run rfl (.tmp 63) (.tmp 67) 22 rfl R2.out rfl rfl ?_
                        refine hK.out _ _ (fun _ h => by simp at h) (fun hHeld => ?_)
                        clear hK K
                        try simp only [Act.put, sA, sZ, sS]
                        refine wpAnyH_ready (rs := [11]) (by kernel_rfl) (by simp) ?_
                        refine AllReadyH.cons (List.getElem?_toArray.trans rfl) (fun K hK => ?_) AllReadyH.nil
                        refine step_app_run rfl (.tmp 68) (.tmp 73) 22 rfl R3.out rfl rfl ?_
                        refine hK.out _ _ (fun _ h => by simp at h) (fun hHeld => ?_)
                        clear hK K
                        try simp only [Act.put, sA, sZ, sS]
                        refine tk 12 ?_ rfl ?_ ?_; rotate_left; focus (intro w hSw; clear hSw; go_simp; try (with_reducible rfl))
                        try simp only [Act.put, sA, sZ, sS]
                        refine wpAnyH_ready (rs := [13]) (by kernel_rfl) (by simp) ?_
                        refine AllReadyH.cons (List.getElem?_toArray.trans rfl) (fun K hK => ?_) AllReadyH.nil
                        obtain ⟨u1, u2, u3⟩ := (X3.out.box_at (i := 3) (j := 1) rfl rfl)
                        have X4 := Lib.hid (Hp.box_set (T := 24) (g := g3) (cs := oC nm (some ⟨b, 0, none⟩) n c) X3.out (i := 3) rfl 1 (.slice A3 (n - 1) c3))
                        go_simp
                        refine hK.out _ _ (fun _ h => by simp at h) (fun hHeld => ?_)
                        clear hK K
                        try simp only [Act.put, sA, sZ, sS]
                        refine wpAnyH_done (by kernel_rfl) ?_ _
                        have X5 := Lib.hid (show Hp w (obox g2 [] none 0 0 :: dbox g1 (q : Int) AD nd cd AM mm cm :: obox g3 nm A3 (n - 1) c3 :: sgv A3 (n - 1) c3 (vs.take kk ++ vs.drop (kk + 1)) (L.take kk ++ L.drop (kk + 1)) :: sgv (some ⟨b, 0, none⟩) n c vs L :: pool) _ from Hp.sink (l := [_, _, _]) X4.out)
                        clear hHeld
                        go_wp2_with fail
                        go_roundw
                        case rel => exact ⟨k + 1, by omega, by go_num, nm, A3, n - 1, c3, _, _, _, vO_sub HV.out (cut_sub L kk) (by rw [cut_len (by have := HL.out; omega)]; have := HL.out; omega), by rw [cut_len (by rw [HVS.out, HL.out]; exact hkn), cut_len (by rw [HL.out]; exact hkn), HVS.out], (HPO.out.cut kk).wider _, X5.out⟩
                        case measure => simp [intOf]; omega
                      refine AllReadyH.cons (List.getElem?_toArray.trans rfl) (fun K hK => ?_) ?_
                      · have yL := (Vwe.out.box_at (i := 2) (j := 1) rfl rfl).1
                        go_simp
                        clear yL
                        refine hK.out _ _ (hHeld) (fun hHeld => ?_)
                        clear hK K
                        try simp only [Act.put, sA, sZ, sS]
                        refine tk 4 ?_ rfl ?_ ?_; rotate_left; focus (intro w hSw; clear hSw; go_simp; try (with_reducible rfl))
                        try simp only [Act.put, sA, sZ, sS]
                        refine wpAnyH_ready (rs := [0]) (by kernel_rfl) (by simp) ?_
                        refine AllReadyH.cons (List.getElem?_toArray.trans rfl) (fun K hK => ?_) AllReadyH.nil
                        obtain ⟨w_7_2_0, hw_7_2_0⟩ : ∃ z, z = we.alloc (.cells #[] 58) := ⟨_, rfl⟩
                        obtain ⟨A2, c2, w2, A3, c3, w3, hr2, hr3, hv2, hv3⟩ := run_drop Vwe.out HVS.out hkn (by omega) 22 hw_7_2_0 b rfl BB (by rw [← HBB.out, HK1.out, Nat.zero_add])
                        rw [← HK1.out] at hr3
                        have R2 := Lib.hid hr2
                        have R3 := Lib.hid hr3
                        have X2 := Lib.hid hv2
                        have X3 := Lib.hid hv3
                        have HW_7_2_0 := Lib.hid hw_7_2_0
                        clear hr2 hr3 hv2 hv3 hw_7_2_0
                        have V_7_2_0 := Lib.hid (show Hp w (obox g2 [] none 0 0 :: dbox g1 (q : Int) AD nd cd AM mm cm :: obox g3 nm (some ⟨b, 0, none⟩) n c :: sgv (some ⟨b, 0, none⟩) n c vs L :: pool) w_7_2_0 by rw [HW_7_2_0.out]; exact Vwe.out.go (bnew _ _))
                        go_simp
                        try rw [← HW_7_2_0.out]
                        refine hK.out _ _ (fun _ h => by simp at h) (fun hHeld => ?_)
                        clear hK K
                        try simp only [Act.put, sA, sZ, sS]
                        refine wpAnyH_ready (rs := [5]) (by kernel_rfl) (by simp) ?_
                        refine AllReadyH.cons (List.getElem?_toArray.trans rfl) (fun K hK => ?_) AllReadyH.nil
                        refine step_app_run rfl (.tmp 63) (.tmp 67) 22 rfl R2.out rfl rfl ?_
                        refine hK.out _ _ (fun _ h => by simp at h) (fun hHeld => ?_)
                        clear hK K
                        try simp only [Act.put, sA, sZ, sS]
                        refine wpAnyH_ready (rs := [11]) (by kernel_rfl) (by simp) ?_
                        refine AllReadyH.cons (List.getElem?_toArray.trans rfl) (fun K hK => ?_) AllReadyH.nil
                        refine step_app_run rfl (.tmp 68) (.tmp 73) 22 rfl R3.out rfl rfl ?_
                        refine hK.out _ _ (fun _ h => by simp at h) (fun hHeld => ?_)
                        clear hK K
                        try simp only [Act.put, sA, sZ, sS]
                        refine tk 12 ?_ rfl ?_ ?_; rotate_left; focus (intro w hSw; clear hSw; go_simp; try (with_reducible rfl))
                        try simp only [Act.put, sA, sZ, sS]
                        refine wpAnyH_ready (rs := [13]) (by kernel_rfl) (by simp) ?_
                        refine AllReadyH.cons (List.getElem?_toArray.trans rfl) (fun K hK => ?_) AllReadyH.nil
                        obtain ⟨u1, u2, u3⟩ := (X3.out.box_at (i := 3) (j := 1) rfl rfl)
                        have X4 := Lib.hid (Hp.box_set (T := 24) (g := g3) (cs := oC nm (some ⟨b, 0, none⟩) n c) X3.out (i := 3) rfl 1 (.slice A3 (n - 1) c3))
                        go_simp
                        refine hK.out _ _ (fun _ h => by simp at h) (fun hHeld => ?_)
                        clear hK K
                        try simp only [Act.put, sA, sZ, sS]
                        refine wpAnyH_done (by kernel_rfl) ?_ _
                        have X5 := Lib.hid (show Hp w (obox g2 [] none 0 0 :: dbox g1 (q : Int) AD nd cd AM mm cm :: obox g3 nm A3 (n - 1) c3 :: sgv A3 (n - 1) c3 (vs.take kk ++ vs.drop (kk + 1)) (L.take kk ++ L.drop (kk + 1)) :: sgv (some ⟨b, 0, none⟩) n c vs L :: pool) _ from Hp.sink (l := [_, _, _]) X4.out)
                        clear hHeld
                        go_wp2_with fail
                        go_roundw
                        case rel => exact ⟨k + 1, by omega, by go_num, nm, A3, n - 1, c3, _, _, _, vO_sub HV.out (cut_sub L kk) (by rw [cut_len (by have := HL.out; omega)]; have := HL.out; omega), by rw [cut_len (by rw [HVS.out, HL.out]; exact hkn), cut_len (by rw [HL.out]; exact hkn), HVS.out], (HPO.out.cut kk).wider _, X5.out⟩
                        case measure => simp [intOf]; omega
                      exact AllReadyH.nil
                    exact AllReadyH.nil
                    
      · rw [decide_eq_false hlt2]
        clear hlt2 hn1 hn2 y0 y1 y2 y3 hk
        go_wp2_with fail
        go_loopw [7] (fun i wr => ∃ k : Nat, k ≤ mm ∧ i = .int .i64 (k : Int) ∧ MSt w (obox g2 [] none 0 0) (dbox g1 (q : Int) AD nd cd AM mm cm) g3 wr) (fun i _ => mm - (intOf i).toNat)
        case atStart => exact ⟨0, Nat.zero_le _, rfl, nm, A, n, c, vs, L, pool, HV.out, HVS.out, HPO.out, V3.out⟩
        case round =>
          clear V3 HV HVS HPO HL
          obtain ⟨k, hk, rfl, nm, A, n, c, vs, L, pool, hv, hvs, hpool, hV⟩ := hrel
          obtain ⟨wj, rfl⟩ : ∃ wi : World, wi = wr := ⟨_, rfl⟩
          have V3 := Lib.hid hV
          have HV := Lib.hid hv
          have HVS := Lib.hid hvs
          have HPO := Lib.hid hpool
          obtain ⟨hn1, hn2⟩ : 0 < n ∧ n ≤ 120 := by
            have := hV.sg_len (i := 3) rfl hvs
            obtain ⟨_, a, b, _⟩ := vO_zero hv
            omega
          have HL := Lib.hid (hV.sg_len (i := 3) rfl hvs)
          clear hV hv hvs hpool
          obtain ⟨y0, y1, y2, y3⟩ := V3.out.dbox_at (i := 1) rfl
          go_upto_region 12 with fail
          go_cut [84] (fun r wx => r = .bool (decide (k < mm ∧ k < 6)) ∧ wj = wx)
          case first =>
            by_cases hlt : k < mm
            · by_cases h20 : k < 6
              · go_wp2_with fail
                go_meet
                exact ⟨by rw [decide_eq_true (show k < mm ∧ k < 6 from ⟨hlt, h20⟩), decide_eq_true (show (k : Int) < 6 by omega)], rfl⟩
              · go_wp2_with fail
                go_meet
                exact ⟨by rw [decide_eq_false (show ¬ (k < mm ∧ k < 6) from fun h => h20 h.2), decide_eq_false (show ¬ (k : Int) < 6 by omega)], rfl⟩
            · go_wp2_with fail
              go_meet
              exact ⟨by rw [decide_eq_false (show ¬ (k < mm ∧ k < 6) from fun h => hlt h.1)], rfl⟩
          case rest =>
          obtain ⟨rfl, rfl⟩ := hcut
          by_cases hlt2 : k < mm ∧ k < 6
          · rw [decide_eq_true hlt2]
            obtain ⟨hlt, h20⟩ := hlt2
            obtain ⟨z, hz⟩ := get_at (L := M) (k := k) (by have := HM.out; omega)
            obtain ⟨bM, oM, hAM, hbM0, d00⟩ := HMC.out.oct hz
            have D0 := Lib.hid d00
            have d0 := (V3.out.below.cell (p := ⟨bM, oM + k, none⟩) hbM0).trans d00
            have hbM := Nat.lt_of_lt_of_le hbM0 V3.out.below.size
            clear d00
            have hzb := HMZ.out z (List.mem_of_getElem? hz)
            obtain ⟨zn, hzn⟩ := Int.eq_ofNat_of_zero_le hzb.1
            have hzn2 : zn ≤ 255 := by omega
            subst hzn
            have HB0 := Lib.hid hbM0
            obtain ⟨b, hA⟩ := V3.out.head (i := 3) (it := sgv A n c vs L) rfl (A := A) (c := c) rfl hn1
            subst hA
            obtain ⟨kk, hkk⟩ : ∃ kk, kk = zn % n := ⟨_, rfl⟩
            have hkn : kk < n := by rw [hkk]; exact Nat.mod_lt _ hn1
            have hmod : (zn : Int).tmod (n : Int) = (kk : Int) := by rw [hkk]; rfl
            have hwz : IntKind.i64.wrap (zn : Int) = (zn : Int) := IntWalk.i64_in _ (by omega)
            have hn0 : ¬ n = 0 := by omega
            clear hz hzb hkk hbM0
            obtain ⟨x, hx⟩ := get_at (L := L) (k := kk) (by have := HL.out; omega)
            obtain ⟨v, hvv⟩ : ∃ v, vs[kk]? = some v := ⟨_, List.getElem?_eq_getElem (by rw [HVS.out, HL.out]; exact hkn)⟩
            have HX := Lib.hid hx
            have HVV := Lib.hid hvv
            obtain ⟨a0, a1, a2, a3⟩ := sgsC_at hvv hx
            obtain ⟨c0, _, cb⟩ := V3.out.cell (i := 3) (it := sgv (some ⟨b, 0, none⟩) n c vs L) rfl (g := b) (cap := c) rfl a0
            have c1 := (V3.out.cell (i := 3) (it := sgv (some ⟨b, 0, none⟩) n c vs L) rfl (g := b) (cap := c) rfl a1).1
            have c2 := (V3.out.cell (i := 3) (it := sgv (some ⟨b, 0, none⟩) n c vs L) rfl (g := b) (cap := c) rfl a2).1
            have c3 := (V3.out.cell (i := 3) (it := sgv (some ⟨b, 0, none⟩) n c vs L) rfl (g := b) (cap := c) rfl a3).1
            have hk4 : kk * 4 ≤ 480 := by omega
            clear hx hvv a0 a1 a2 a3
            obtain ⟨o0, o1, o2⟩ := V3.out.obox_at (i := 2) rfl
            rw [hAM] at y2
            have HAM := Lib.hid hAM
            clear hAM
            go_upto_region 14 with fail
            go_cut [8] (fun p wx => ∃ g8, p = .pointer (some ⟨g8, 0, none⟩) ∧ Hp w (sgbox g8 v x :: obox g2 [] none 0 0 :: dbox g1 (q : Int) AD nd cd AM mm cm :: obox g3 nm (some ⟨b, 0, none⟩) n c :: sgv (some ⟨b, 0, none⟩) n c vs L :: pool) wx)
            case first =>
              have hKp : Keep [(⟨g1, 2, none⟩, .slice (some ⟨bM, oM, none⟩) mm cm), (⟨bM, oM + k, none⟩, .int .u8 (zn : Int)), (⟨g3, 1, none⟩, .slice (some ⟨b, 0, none⟩) n c), (⟨b, kk * 4, none⟩, .string (bs x.t)), (⟨b, kk * 4 + 1, none⟩, .slice v.1 x.s.length v.2), (⟨b, kk * 4 + 2, none⟩, .int .i64 x.c), (⟨b, kk * 4 + 3, none⟩, .int .i64 x.w)] wj := List.forall_mem_cons.2 ⟨⟨y2, y3⟩, List.forall_mem_cons.2 ⟨⟨d0, hbM⟩, List.forall_mem_cons.2 ⟨⟨o1, o2⟩, List.forall_mem_cons.2 ⟨⟨c0, cb⟩, List.forall_mem_cons.2 ⟨⟨c1, cb⟩, List.forall_mem_cons.2 ⟨⟨c2, cb⟩, List.forall_mem_cons.2 ⟨⟨c3, cb⟩, fun _ h => by simp at h⟩⟩⟩⟩⟩⟩⟩
              refine wp_region_held_drew (S := Keep _) (by kernel_rfl) hKp.drew (fun hHeld => ?_)
              obtain ⟨wd, hwd⟩ : ∃ z, z = wj.drew := ⟨_, rfl⟩
              have Vwd := Lib.hid (show Hp w (obox g2 [] none 0 0 :: dbox g1 (q : Int) AD nd cd AM mm cm :: obox g3 nm (some ⟨b, 0, none⟩) n c :: sgv (some ⟨b, 0, none⟩) n c vs L :: pool) wd by rw [hwd]; exact V3.out.go (bdrew _))
              have Bwd := Lib.hid (show Below wj.heap.size wj wd by rw [hwd]; exact bdrew _)
              rw [← hwd] at hHeld ⊢
              clear hwd hKp
              refine tk 0 ?_ rfl ?_ ?_; rotate_left; focus (intro w hSw; clear hSw; go_simp; try (with_reducible rfl))
              try simp only [Act.put, sA, sZ, sS]
              refine tk 1 ?_ rfl ?_ ?_; rotate_left
              · intro wl hSw
                have hSw : Keep _ wl := hSw
                have k0 := (hSw _ (.tail _ (.tail _ (.head _)))).1
                dsimp only at k0
                clear hSw
                go_simp
                try (with_reducible rfl)
              try simp only [Act.put, sA, sZ, sS]
              refine tk 2 ?_ rfl ?_ ?_; rotate_left; focus (intro w hSw; clear hSw; go_simp; try (with_reducible rfl))
              try simp only [Act.put, sA, sZ, sS]
              refine tk 3 ?_ rfl ?_ ?_; rotate_left
              · intro wl hSw
                have hSw : Keep _ wl := hSw
                have k0 := (hSw _ (.head _)).1
                dsimp only at k0
                clear hSw
                go_simp
                try (with_reducible rfl)
              try simp only [Act.put, sA, sZ, sS]
              refine tk 4 ?_ rfl ?_ ?_; rotate_left; focus (intro w hSw; clear hSw; go_simp; try (with_reducible rfl))
              try simp only [Act.put, sA, sZ, sS]
              refine tk 5 ?_ rfl ?_ ?_; rotate_left; focus (intro w hSw; clear hSw; go_simp; try (with_reducible rfl))
              try simp only [Act.put, sA, sZ, sS]
              refine tk 6 ?_ rfl ?_ ?_; rotate_left
              · intro wl hSw
                have hSw : Keep _ wl := hSw
                have k0 := (hSw _ (.tail _ (.head _))).1
                dsimp only at k0
                clear hSw
                go_simp
                try (with_reducible rfl)
              try simp only [Act.put, sA, sZ, sS]
              refine tk 7 ?_ rfl ?_ ?_; rotate_left; focus (intro w hSw; clear hSw; go_simp; try (with_reducible rfl))
              try simp only [Act.put, sA, sZ, sS]
              refine tk 8 ?_ rfl ?_ ?_; rotate_left; focus (intro w hSw; clear hSw; go_simp; try (with_reducible rfl))
              try simp only [Act.put, sA, sZ, sS]
              refine tk 9 ?_ rfl ?_ ?_; rotate_left
              · intro wl hSw
                have hSw : Keep _ wl := hSw
                have k0 := (hSw _ (.tail _ (.tail _ (.head _)))).1
                dsimp only at k0
                clear hSw
                go_simp
                try (with_reducible rfl)
              try simp only [Act.put, sA, sZ, sS]
              refine tk 10 ?_ rfl ?_ ?_; rotate_left; focus (intro w hSw; clear hSw; go_simp; try (with_reducible rfl))
              try simp only [Act.put, sA, sZ, sS]
              refine tk 11 ?_ rfl ?_ ?_; rotate_left; focus (intro w hSw; clear hSw; go_simp; try (with_reducible rfl))
              try simp only [Act.put, sA, sZ, sS]
              refine tk 12 ?_ rfl ?_ ?_; rotate_left; focus (intro w hSw; clear hSw; go_simp; try (with_reducible rfl))
              try simp only [Act.put, sA, sZ, sS]
              refine tk 13 ?_ rfl ?_ ?_; rotate_left
              · intro wl hSw
                have hSw : Keep _ wl := hSw
                have k0 := (hSw _ (.tail _ (.tail _ (.tail _ (.head _))))).1
                have k1 := (hSw _ (.tail _ (.tail _ (.tail _ (.tail _ (.head _)))))).1
                have k2 := (hSw _ (.tail _ (.tail _ (.tail _ (.tail _ (.tail _ (.head _))))))).1
                have k3 := (hSw _ (.tail _ (.tail _ (.tail _ (.tail _ (.tail _ (.tail _ (.head _)))))))).1
                dsimp only at k0 k1 k2 k3
                clear hSw
                go_simp
                try (with_reducible rfl)
              try simp only [Act.put, sA, sZ, sS]
              refine wpAnyH_ready (rs := [14]) (by kernel_rfl) (by simp) ?_
              refine AllReadyH.cons (List.getElem?_toArray.trans rfl) (fun K hK => ?_) AllReadyH.nil
              obtain ⟨w_14, hw_14⟩ : ∃ z, z = wd.alloc (.cells #[.string ⟨#[]⟩, .slice none 0 0, .int .i64 0, .int .i64 0] 58) := ⟨_, rfl⟩
              obtain ⟨g_14, hg_14⟩ : ∃ z, z = wd.heap.size := ⟨_, rfl⟩
              have V_14 := Lib.hid (show Hp w (sgbox g_14 (none, 0) zSg :: obox g2 [] none 0 0 :: dbox g1 (q : Int) AD nd cd AM mm cm :: obox g3 nm (some ⟨b, 0, none⟩) n c :: sgv (some ⟨b, 0, none⟩) n c vs L :: pool) w_14 by rw [hw_14, hg_14]; exact Vwd.out.sgbox_new none 0 zSg)
              have B_14 := Lib.hid (show Below wd.heap.size wd w_14 by rw [hw_14]; exact bnew _ _)
              have HW_14 := Lib.hid hw_14
              have HG_14 := Lib.hid hg_14
              clear hw_14 hg_14
              go_simp
              try rw [← HW_14.out]
              try rw [← HG_14.out]
              refine hK.out _ _ (hHeld.go B_14.out) (fun hHeld => ?_)
              clear hK K
              try simp only [Act.put, sA, sZ, sS]
              refine wpAnyH_ready (rs := [15]) (by kernel_rfl) (by simp) ?_
              refine AllReadyH.cons (List.getElem?_toArray.trans rfl) (fun K hK => ?_) AllReadyH.nil
              have hlt1 : g1 < g_14 := by rw [HG_14.out]; exact Nat.lt_of_lt_of_le y3 (Nat.le_trans Bwd.out.size (Nat.le_refl _))
              have hlt2 : bM < g_14 := by rw [HG_14.out]; exact Nat.lt_of_lt_of_le hbM Bwd.out.size
              have hlt3 : g3 < g_14 := by rw [HG_14.out]; exact Nat.lt_of_lt_of_le o2 Bwd.out.size
              have hlt4 : b < g_14 := by rw [HG_14.out]; exact Nat.lt_of_lt_of_le cb Bwd.out.size
              obtain ⟨⟨k0, k1, k2, k3⟩, ⟨f0, f1, f2, f3⟩, k4⟩ := V_14.out.sgbox_all (i := 0) rfl
              dsimp only [zSg, List.length_nil] at k0 k1 k2 k3
              have VE := Lib.hid (V_14.out.sgbox_put (i := 0) rfl v.1 v.2 x)
              go_simp
              refine hK.out _ _ (((((hHeld.set _ _ _ (List.forall_mem_cons.2 ⟨Nat.ne_of_lt hlt1, List.forall_mem_cons.2 ⟨Nat.ne_of_lt hlt2, List.forall_mem_cons.2 ⟨Nat.ne_of_lt hlt3, List.forall_mem_cons.2 ⟨Nat.ne_of_lt hlt4, List.forall_mem_cons.2 ⟨Nat.ne_of_lt hlt4, List.forall_mem_cons.2 ⟨Nat.ne_of_lt hlt4, List.forall_mem_cons.2 ⟨Nat.ne_of_lt hlt4, fun _ h => by simp at h⟩⟩⟩⟩⟩⟩⟩)).set _ _ _ (List.forall_mem_cons.2 ⟨Nat.ne_of_lt hlt1, List.forall_mem_cons.2 ⟨Nat.ne_of_lt hlt2, List.forall_mem_cons.2 ⟨Nat.ne_of_lt hlt3, List.forall_mem_cons.2 ⟨Nat.ne_of_lt hlt4, List.forall_mem_cons.2 ⟨Nat.ne_of_lt hlt4, List.forall_mem_cons.2 ⟨Nat.ne_of_lt hlt4, List.forall_mem_cons.2 ⟨Nat.ne_of_lt hlt4, fun _ h => by simp at h⟩⟩⟩⟩⟩⟩⟩)).set _ _ _ (List.forall_mem_cons.2 ⟨Nat.ne_of_lt hlt1, List.forall_mem_cons.2 ⟨Nat.ne_of_lt hlt2, List.forall_mem_cons.2 ⟨Nat.ne_of_lt hlt3, List.forall_mem_cons.2 ⟨Nat.ne_of_lt hlt4, List.forall_mem_cons.2 ⟨Nat.ne_of_lt hlt4, List.forall_mem_cons.2 ⟨Nat.ne_of_lt hlt4, List.forall_mem_cons.2 ⟨Nat.ne_of_lt hlt4, fun _ h => by simp at h⟩⟩⟩⟩⟩⟩⟩)).set _ _ _ (List.forall_mem_cons.2 ⟨Nat.ne_of_lt hlt1, List.forall_mem_cons.2 ⟨Nat.ne_of_lt hlt2, List.forall_mem_cons.2 ⟨Nat.ne_of_lt hlt3, List.forall_mem_cons.2 ⟨Nat.ne_of_lt hlt4, List.forall_mem_cons.2 ⟨Nat.ne_of_lt hlt4, List.forall_mem_cons.2 ⟨Nat.ne_of_lt hlt4, List.forall_mem_cons.2 ⟨Nat.ne_of_lt hlt4, fun _ h => by simp at h⟩⟩⟩⟩⟩⟩⟩))) (fun hHeld => ?_)
              clear hK K
              try simp only [Act.put, sA, sZ, sS]
              refine wpAnyH_done (by kernel_rfl) ?_ _
              clear hHeld
              go_wp2_with fail
              go_meet
              exact ⟨_, rfl, VE.out⟩
            case rest =>
            obtain ⟨g8, rfl, hV5⟩ := hcut
            have V5 := Lib.hid hV5
            clear hV5 y0 y1 y2 y3 o0 o1 o2 d0 hbM c0 c1 c2 c3 cb hmod hwz hn0
            obtain ⟨y0, y1, y2, y3⟩ := V5.out.dbox_at (i := 2) rfl
            rw [HAM.out] at y2
            have d0 := (V5.out.below.cell (p := ⟨bM, oM + k, none⟩) HB0.out).trans D0.out
            have hbM := Nat.lt_of_lt_of_le HB0.out V5.out.below.size
            obtain ⟨⟨k0, k1, k2, k3⟩, ⟨f0, f1, f2, f3⟩, k4⟩ := V5.out.sgbox_all (i := 0) rfl
            obtain ⟨wk, rfl⟩ : ∃ z : World, z = wc := ⟨_, rfl⟩
            obtain ⟨cW, hcW⟩ : ∃ z : Int, z = (zn : Int) / 16 % 5 := ⟨_, rfl⟩
            obtain ⟨cC, hcC⟩ : ∃ z : Int, z = (zn : Int) % 5 := ⟨_, rfl⟩
            obtain ⟨wp, hwp⟩ : ∃ z, z = wk.setCell ⟨g8, 3, none⟩ (.int .i64 ((zn : Int) / 16 % 5)) := ⟨_, rfl⟩
            have V6 := Lib.hid (show Hp w (sgbox g8 v ⟨x.t, x.s, x.c, cW⟩ :: obox g2 [] none 0 0 :: dbox g1 (q : Int) AD nd cd AM mm cm :: obox g3 nm (some ⟨b, 0, none⟩) n c :: sgv (some ⟨b, 0, none⟩) n c vs L :: pool) wp by
              rw [hwp, hcW]; exact Hp.box_set (T := 58) (g := g8) (cs := sgC v x) V5.out (i := 0) rfl 3 (.int .i64 ((zn : Int) / 16 % 5)))
            have HWP := Lib.hid hwp
            have HCW := Lib.hid hcW
            have HCC := Lib.hid hcC
            clear hwp hcW hcC
            go_upto_region 16 with fail
            rw [← HWP.out]
            clear y0 y1 y2 y3 d0 hbM k0 k1 k2 k3 f0 f1 f2 f3 k4
            obtain ⟨y0, y1, y2, y3⟩ := V6.out.dbox_at (i := 2) rfl
            rw [HAM.out] at y2
            have d0 := (V6.out.below.cell (p := ⟨bM, oM + k, none⟩) HB0.out).trans D0.out
            have hbM := Nat.lt_of_lt_of_le HB0.out V6.out.below.size
            obtain ⟨⟨k0, k1, k2, k3⟩, ⟨f0, f1, f2, f3⟩, k4⟩ := V6.out.sgbox_all (i := 0) rfl
            obtain ⟨wr, hwr⟩ : ∃ z, z = wp.setCell ⟨g8, 2, none⟩ (.int .i64 ((zn : Int) % 5)) := ⟨_, rfl⟩
            have V7 := Lib.hid (show Hp w (sgbox g8 v ⟨x.t, x.s, cC, cW⟩ :: obox g2 [] none 0 0 :: dbox g1 (q : Int) AD nd cd AM mm cm :: obox g3 nm (some ⟨b, 0, none⟩) n c :: sgv (some ⟨b, 0, none⟩) n c vs L :: pool) wr by
              rw [hwr, HCC.out]; exact Hp.box_set (T := 58) (g := g8) (cs := sgC v ⟨x.t, x.s, x.c, cW⟩) V6.out (i := 0) rfl 2 (.int .i64 ((zn : Int) % 5)))
            have HWR := Lib.hid hwr
            clear hwr
            go_upto_region 17 with fail
            rw [← HWR.out]
            clear y0 y1 y2 y3 d0 hbM k0 k1 k2 k3 f0 f1 f2 f3 k4
            obtain ⟨y, hy⟩ : ∃ z : Sg, z = ⟨x.t, x.s, cC, cW⟩ := ⟨_, rfl⟩
            have HYT := Lib.hid (show y.t = x.t by rw [hy])
            have HYS := Lib.hid (show y.s = x.s by rw [hy])
            have V8 := Lib.hid (show Hp w (sgbox g8 v y :: obox g2 [] none 0 0 :: dbox g1 (q : Int) AD nd cd AM mm cm :: obox g3 nm (some ⟨b, 0, none⟩) n c :: sgv (some ⟨b, 0, none⟩) n c vs L :: pool) wr by rw [hy]; exact V7.out)
            clear hy V7 V6 V5
            go_cut [9] (fun p wx => ∃ gx gz A4 c4, p = .pointer (some ⟨gx, 0, none⟩) ∧ Hp w (obox g2 [] none 0 0 :: dbox g1 (q : Int) AD nd cd AM mm cm :: obox gx nm A4 (n + 1) c4 :: obox g3 nm (some ⟨b, 0, none⟩) n c :: sgv A4 (n + 1) c4 (vs ++ [v]) (L ++ [y]) :: sgbox g8 v y :: sgv (some ⟨b, 0, none⟩) n c vs L :: sgbox gz v y :: pool) wx)
            case first =>
              have hKp : Keep [(⟨g3, 0, none⟩, .string (bs nm)), (⟨g3, 1, none⟩, .slice (some ⟨b, 0, none⟩) n c), (⟨g8, 0, none⟩, .string (bs y.t)), (⟨g8, 1, none⟩, .slice v.1 y.s.length v.2), (⟨g8, 2, none⟩, .int .i64 y.c), (⟨g8, 3, none⟩, .int .i64 y.w)] wr := List.forall_mem_cons.2 ⟨⟨(V8.out.box_at (i := 3) (j := 0) rfl rfl).1, (V8.out.box_at (i := 3) (j := 0) rfl rfl).2.2⟩, List.forall_mem_cons.2 ⟨⟨(V8.out.box_at (i := 3) (j := 1) rfl rfl).1, (V8.out.box_at (i := 3) (j := 1) rfl rfl).2.2⟩, List.forall_mem_cons.2 ⟨⟨(V8.out.box_at (i := 0) (j := 0) rfl rfl).1, (V8.out.box_at (i := 0) (j := 0) rfl rfl).2.2⟩, List.forall_mem_cons.2 ⟨⟨(V8.out.box_at (i := 0) (j := 1) rfl rfl).1, (V8.out.box_at (i := 0) (j := 1) rfl rfl).2.2⟩, List.forall_mem_cons.2 ⟨⟨(V8.out.box_at (i := 0) (j := 2) rfl rfl).1, (V8.out.box_at (i := 0) (j := 2) rfl rfl).2.2⟩, List.forall_mem_cons.2 ⟨⟨(V8.out.box_at (i := 0) (j := 3) rfl rfl).1, (V8.out.box_at (i := 0) (j := 3) rfl rfl).2.2⟩, fun _ h => by simp at h⟩⟩⟩⟩⟩⟩
              refine wp_region_held_drew (S := Keep _) (by kernel_rfl) hKp.drew (fun hHeld => ?_)
              obtain ⟨wf, hwf⟩ : ∃ z, z = wr.drew := ⟨_, rfl⟩
              have Vwf := Lib.hid (show Hp w (sgbox g8 v y :: obox g2 [] none 0 0 :: dbox g1 (q : Int) AD nd cd AM mm cm :: obox g3 nm (some ⟨b, 0, none⟩) n c :: sgv (some ⟨b, 0, none⟩) n c vs L :: pool) wf by rw [hwf]; exact V8.out.go (bdrew _))
              have Bwf := Lib.hid (show Below wr.heap.size wr wf by rw [hwf]; exact bdrew _)
              rw [← hwf] at hHeld ⊢
              clear hwf hKp
              refine tk 0 ?_ rfl ?_ ?_; rotate_left; focus (intro w hSw; clear hSw; go_simp; try (with_reducible rfl))
              try simp only [Act.put, sA, sZ, sS]
              refine tk 1 ?_ rfl ?_ ?_; rotate_left
              · intro wl hSw
                have hSw : Keep _ wl := hSw
                have k0 := (hSw _ (.head _)).1
                dsimp only at k0
                clear hSw
                go_simp
                try (with_reducible rfl)
              try simp only [Act.put, sA, sZ, sS]
              refine tk 3 ?_ rfl ?_ ?_; rotate_left; focus (intro w hSw; clear hSw; go_simp; try (with_reducible rfl))
              try simp only [Act.put, sA, sZ, sS]
              refine tk 4 ?_ rfl ?_ ?_; rotate_left
              · intro wl hSw
                have hSw : Keep _ wl := hSw
                have k0 := (hSw _ (.tail _ (.head _))).1
                dsimp only at k0
                clear hSw
                go_simp
                try (with_reducible rfl)
              try simp only [Act.put, sA, sZ, sS]
              refine tk 6 ?_ rfl ?_ ?_; rotate_left
              · intro wl hSw
                have hSw : Keep _ wl := hSw
                have k0 := (hSw _ (.tail _ (.tail _ (.head _)))).1
                have k1 := (hSw _ (.tail _ (.tail _ (.tail _ (.head _))))).1
                have k2 := (hSw _ (.tail _ (.tail _ (.tail _ (.tail _ (.head _)))))).1
                have k3 := (hSw _ (.tail _ (.tail _ (.tail _ (.tail _ (.tail _ (.head _))))))).1
                dsimp only at k0 k1 k2 k3
                clear hSw
                go_simp
                try (with_reducible rfl)
              try simp only [Act.put, sA, sZ, sS]
              refine wpAnyH_ready (rs := [2, 7, 10]) (by kernel_rfl) (by simp) ?_
              refine AllReadyH.cons (List.getElem?_toArray.trans rfl) (fun K hK => ?_) ?_
              · obtain ⟨w_2, hw_2⟩ : ∃ z, z = wf.alloc (.cells #[] 58) := ⟨_, rfl⟩
                obtain ⟨g_2, hg_2⟩ : ∃ z, z = wf.heap.size := ⟨_, rfl⟩
                have V_2 := Lib.hid (show Hp w (sgv (some ⟨g_2, 0, none⟩) 0 0 [] [] :: sgbox g8 v y :: obox g2 [] none 0 0 :: dbox g1 (q : Int) AD nd cd AM mm cm :: obox g3 nm (some ⟨b, 0, none⟩) n c :: sgv (some ⟨b, 0, none⟩) n c vs L :: pool) w_2 by rw [hw_2, hg_2]; exact Vwf.out.lit 58 4 0 [] rfl (by decide))
                have B_2 := Lib.hid (show Below wf.heap.size wf w_2 by rw [hw_2]; exact bnew _ _)
                have HW_2 := Lib.hid hw_2
                have HG_2 := Lib.hid hg_2
                clear hw_2 hg_2
                go_simp
                try rw [← HW_2.out]
                try rw [← HG_2.out]
                refine hK.out _ _ (hHeld.go B_2.out) (fun hHeld => ?_)
                clear hK K
                try simp only [Act.put, sA, sZ, sS]
                refine wpAnyH_ready (rs := [5, 7, 10]) (by kernel_rfl) (by simp) ?_
                refine AllReadyH.cons (List.getElem?_toArray.trans rfl) (fun K hK => ?_) ?_
                · obtain ⟨A2, c2, w_2_5, hr_2_5, hv_2_5, _⟩ := run_cat_sgs V_2.out (i := 0) rfl rfl 22 (B := some ⟨b, 0, none⟩) (m := n) (d := c) vs L HVS.out HL.out (V_2.out.cells (i := 5) (it := sgv (some ⟨b, 0, none⟩) n c vs L) rfl rfl) (by omega) (by omega)
                  rw [Nat.zero_add] at hr_2_5 hv_2_5
                  have HR_2_5 := Lib.hid hr_2_5
                  have V_2_5 := Lib.hid (show Hp w (sgv A2 n c2 vs L :: sgbox g8 v y :: obox g2 [] none 0 0 :: dbox g1 (q : Int) AD nd cd AM mm cm :: obox g3 nm (some ⟨b, 0, none⟩) n c :: sgv (some ⟨b, 0, none⟩) n c vs L :: pool) w_2_5 from hv_2_5)
                  clear hr_2_5 hv_2_5
                  refine step_app_run rfl (.tmp 120) (.tmp 122) 22 rfl HR_2_5.out rfl rfl ?_
                  refine hK.out _ _ (List.forall_mem_cons.2 ⟨⟨(V_2_5.out.box_at (i := 4) (j := 0) rfl rfl).1, (V_2_5.out.box_at (i := 4) (j := 0) rfl rfl).2.2⟩, List.forall_mem_cons.2 ⟨⟨(V_2_5.out.box_at (i := 4) (j := 1) rfl rfl).1, (V_2_5.out.box_at (i := 4) (j := 1) rfl rfl).2.2⟩, List.forall_mem_cons.2 ⟨⟨(V_2_5.out.box_at (i := 1) (j := 0) rfl rfl).1, (V_2_5.out.box_at (i := 1) (j := 0) rfl rfl).2.2⟩, List.forall_mem_cons.2 ⟨⟨(V_2_5.out.box_at (i := 1) (j := 1) rfl rfl).1, (V_2_5.out.box_at (i := 1) (j := 1) rfl rfl).2.2⟩, List.forall_mem_cons.2 ⟨⟨(V_2_5.out.box_at (i := 1) (j := 2) rfl rfl).1, (V_2_5.out.box_at (i := 1) (j := 2) rfl rfl).2.2⟩, List.forall_mem_cons.2 ⟨⟨(V_2_5.out.box_at (i := 1) (j := 3) rfl rfl).1, (V_2_5.out.box_at (i := 1) (j := 3) rfl rfl).2.2⟩, fun _ h => by simp at h⟩⟩⟩⟩⟩⟩) (fun hHeld => ?_)
                  clear hK K
                  try simp only [Act.put, sA, sZ, sS]
                  refine wpAnyH_ready (rs := [7, 10]) (by kernel_rfl) (by simp) ?_
                  refine AllReadyH.cons (List.getElem?_toArray.trans rfl) (fun K hK => ?_) ?_
                  · obtain ⟨w_2_5_7, hw_2_5_7⟩ : ∃ z, z = w_2_5.alloc (.cells #[.string (bs y.t), .slice v.1 y.s.length v.2, .int .i64 y.c, .int .i64 y.w] 58) := ⟨_, rfl⟩
                    obtain ⟨g_2_5_7, hg_2_5_7⟩ : ∃ z, z = w_2_5.heap.size := ⟨_, rfl⟩
                    have V_2_5_7 := Lib.hid (show Hp w (sgbox g_2_5_7 v y :: sgv A2 n c2 vs L :: sgbox g8 v y :: obox g2 [] none 0 0 :: dbox g1 (q : Int) AD nd cd AM mm cm :: obox g3 nm (some ⟨b, 0, none⟩) n c :: sgv (some ⟨b, 0, none⟩) n c vs L :: pool) w_2_5_7 by rw [hw_2_5_7, hg_2_5_7]; exact V_2_5.out.sgbox_new v.1 v.2 y)
                    have B_2_5_7 := Lib.hid (show Below w_2_5.heap.size w_2_5 w_2_5_7 by rw [hw_2_5_7]; exact bnew _ _)
                    have HW_2_5_7 := Lib.hid hw_2_5_7
                    have HG_2_5_7 := Lib.hid hg_2_5_7
                    clear hw_2_5_7 hg_2_5_7
                    go_simp
                    try rw [← HW_2_5_7.out]
                    try rw [← HG_2_5_7.out]
                    refine hK.out _ _ (hHeld.go B_2_5_7.out) (fun hHeld => ?_)
                    clear hK K
                    try simp only [Act.put, sA, sZ, sS]
                    refine wpAnyH_ready (rs := [8, 10]) (by kernel_rfl) (by simp) ?_
                    refine AllReadyH.cons (List.getElem?_toArray.trans rfl) (fun K hK => ?_) ?_
                    · obtain ⟨g5, c5, w_2_5_7_8, hr_2_5_7_8, hv_2_5_7_8, _⟩ := run_app_sg V_2_5_7.out (i := 1) rfl HVS.out 22 (b := g_2_5_7) v y (fun j u hu => (V_2_5_7.out.box_at (i := 0) rfl hu).1) (by omega)
                      have HR_2_5_7_8 := Lib.hid hr_2_5_7_8
                      have V_2_5_7_8 := Lib.hid (show Hp w (sgbox g_2_5_7 v y :: sgv (some ⟨g5, 0, none⟩) (n + 1) c5 (vs ++ [v]) (L ++ [y]) :: sgbox g8 v y :: obox g2 [] none 0 0 :: dbox g1 (q : Int) AD nd cd AM mm cm :: obox g3 nm (some ⟨b, 0, none⟩) n c :: sgv (some ⟨b, 0, none⟩) n c vs L :: pool) w_2_5_7_8 from hv_2_5_7_8)
                      clear hr_2_5_7_8 hv_2_5_7_8
                      refine step_app_run rfl (.tmp 123) (.tmp 125) 22 rfl HR_2_5_7_8.out rfl rfl ?_
                      refine hK.out _ _ (List.forall_mem_cons.2 ⟨⟨(V_2_5_7_8.out.box_at (i := 5) (j := 0) rfl rfl).1, (V_2_5_7_8.out.box_at (i := 5) (j := 0) rfl rfl).2.2⟩, List.forall_mem_cons.2 ⟨⟨(V_2_5_7_8.out.box_at (i := 5) (j := 1) rfl rfl).1, (V_2_5_7_8.out.box_at (i := 5) (j := 1) rfl rfl).2.2⟩, List.forall_mem_cons.2 ⟨⟨(V_2_5_7_8.out.box_at (i := 2) (j := 0) rfl rfl).1, (V_2_5_7_8.out.box_at (i := 2) (j := 0) rfl rfl).2.2⟩, List.forall_mem_cons.2 ⟨⟨(V_2_5_7_8.out.box_at (i := 2) (j := 1) rfl rfl).1, (V_2_5_7_8.out.box_at (i := 2) (j := 1) rfl rfl).2.2⟩, List.forall_mem_cons.2 ⟨⟨(V_2_5_7_8.out.box_at (i := 2) (j := 2) rfl rfl).1, (V_2_5_7_8.out.box_at (i := 2) (j := 2) rfl rfl).2.2⟩, List.forall_mem_cons.2 ⟨⟨(V_2_5_7_8.out.box_at (i := 2) (j := 3) rfl rfl).1, (V_2_5_7_8.out.box_at (i := 2) (j := 3) rfl rfl).2.2⟩, fun _ h => by simp at h⟩⟩⟩⟩⟩⟩) (fun hHeld => ?_)
                      clear hK K
                      try simp only [Act.put, sA, sZ, sS]
                      refine tk 9 ?_ rfl ?_ ?_; rotate_left; focus (intro w hSw; clear hSw; go_simp; try (with_reducible rfl))
                      try simp only [Act.put, sA, sZ, sS]
                      refine wpAnyH_ready (rs := [10]) (by kernel_rfl) (by simp) ?_
                      refine AllReadyH.cons (List.getElem?_toArray.trans rfl) (fun K hK => ?_) AllReadyH.nil
                      obtain ⟨w_2_5_7_8_10, hw_2_5_7_8_10⟩ : ∃ z, z = w_2_5_7_8.alloc (.cells #[.string ⟨#[]⟩, .slice none 0 0] 24) := ⟨_, rfl⟩
                      obtain ⟨g_2_5_7_8_10, hg_2_5_7_8_10⟩ : ∃ z, z = w_2_5_7_8.heap.size := ⟨_, rfl⟩
                      have V_2_5_7_8_10 := Lib.hid (show Hp w (obox g_2_5_7_8_10 [] none 0 0 :: sgbox g_2_5_7 v y :: sgv (some ⟨g5, 0, none⟩) (n + 1) c5 (vs ++ [v]) (L ++ [y]) :: sgbox g8 v y :: obox g2 [] none 0 0 :: dbox g1 (q : Int) AD nd cd AM mm cm :: obox g3 nm (some ⟨b, 0, none⟩) n c :: sgv (some ⟨b, 0, none⟩) n c vs L :: pool) w_2_5_7_8_10 by rw [hw_2_5_7_8_10, hg_2_5_7_8_10]; exact V_2_5_7_8.out.obox_new [] none 0 0)
                      have B_2_5_7_8_10 := Lib.hid (show Below w_2_5_7_8.heap.size w_2_5_7_8 w_2_5_7_8_10 by rw [hw_2_5_7_8_10]; exact bnew _ _)
                      have HW_2_5_7_8_10 := Lib.hid hw_2_5_7_8_10
                      have HG_2_5_7_8_10 := Lib.hid hg_2_5_7_8_10
                      clear hw_2_5_7_8_10 hg_2_5_7_8_10
                      go_simp
                      try rw [← HW_2_5_7_8_10.out]
                      try rw [← HG_2_5_7_8_10.out]
                      refine hK.out _ _ (hHeld.go B_2_5_7_8_10.out) (fun hHeld => ?_)
                      clear hK K
                      try simp only [Act.put, sA, sZ, sS]
                      refine wpAnyH_ready (rs := [11]) (by kernel_rfl) (by simp) ?_
                      refine AllReadyH.cons (List.getElem?_toArray.trans rfl) (fun K hK => ?_) AllReadyH.nil
                      obtain ⟨u01, u02, u03⟩ := (V_2_5_7_8_10.out.box_at (i := 0) (j := 0) rfl rfl)
                      obtain ⟨u11, u12, u13⟩ := (V_2_5_7_8_10.out.box_at (i := 0) (j := 1) rfl rfl)
                      have VE := Lib.hid (show Hp w (obox g_2_5_7_8_10 nm (some ⟨g5, 0, none⟩) (n + 1) c5 :: sgbox g_2_5_7 v y :: sgv (some ⟨g5, 0, none⟩) (n + 1) c5 (vs ++ [v]) (L ++ [y]) :: sgbox g8 v y :: obox g2 [] none 0 0 :: dbox g1 (q : Int) AD nd cd AM mm cm :: obox g3 nm (some ⟨b, 0, none⟩) n c :: sgv (some ⟨b, 0, none⟩) n c vs L :: pool) _ from Hp.box_set (T := 24) (g := g_2_5_7_8_10) (cs := [.string (bs nm), .slice none 0 0]) (Hp.box_set (T := 24) (g := g_2_5_7_8_10) (cs := oC [] none 0 0) V_2_5_7_8_10.out (i := 0) rfl 0 (.string (bs nm))) (i := 0) rfl 1 (.slice (some ⟨g5, 0, none⟩) (n + 1) c5))
                      go_simp
                      refine hK.out _ _ (List.forall_mem_cons.2 ⟨⟨(VE.out.box_at (i := 6) (j := 0) rfl rfl).1, (VE.out.box_at (i := 6) (j := 0) rfl rfl).2.2⟩, List.forall_mem_cons.2 ⟨⟨(VE.out.box_at (i := 6) (j := 1) rfl rfl).1, (VE.out.box_at (i := 6) (j := 1) rfl rfl).2.2⟩, List.forall_mem_cons.2 ⟨⟨(VE.out.box_at (i := 3) (j := 0) rfl rfl).1, (VE.out.box_at (i := 3) (j := 0) rfl rfl).2.2⟩, List.forall_mem_cons.2 ⟨⟨(VE.out.box_at (i := 3) (j := 1) rfl rfl).1, (VE.out.box_at (i := 3) (j := 1) rfl rfl).2.2⟩, List.forall_mem_cons.2 ⟨⟨(VE.out.box_at (i := 3) (j := 2) rfl rfl).1, (VE.out.box_at (i := 3) (j := 2) rfl rfl).2.2⟩, List.forall_mem_cons.2 ⟨⟨(VE.out.box_at (i := 3) (j := 3) rfl rfl).1, (VE.out.box_at (i := 3) (j := 3) rfl rfl).2.2⟩, fun _ h => by simp at h⟩⟩⟩⟩⟩⟩) (fun hHeld => ?_)
                      clear hK K
                      try simp only [Act.put, sA, sZ, sS]
                      refine wpAnyH_done (by kernel_rfl) ?_ _
                      clear hHeld
                      have VF := Lib.hid (show Hp w (obox g2 [] none 0 0 :: dbox g1 (q : Int) AD nd cd AM mm cm :: obox g_2_5_7_8_10 nm (some ⟨g5, 0, none⟩) (n + 1) c5 :: obox g3 nm (some ⟨b, 0, none⟩) n c :: sgv (some ⟨g5, 0, none⟩) (n + 1) c5 (vs ++ [v]) (L ++ [y]) :: sgbox g8 v y :: sgv (some ⟨b, 0, none⟩) n c vs L :: sgbox g_2_5_7 v y :: pool) _ from (Hp.front (l := [_, _, _, _, _, _, _]) ((Hp.front (l := [_, _, _, _, _, _, _]) ((Hp.front (l := [_, _, _, _, _]) ((Hp.front (l := [_, _, _, _, _, _, _]) ((Hp.front (l := [_, _, _, _]) ((Hp.front (l := [_, _, _, _]) ((Hp.front (l := [_, _, _, _, _, _, _]) ((Hp.front (l := [_]) (VE.out)))))))))))))))))
                      go_wp2_with fail
                      go_meet
                      exact ⟨_, _, _, _, rfl, VF.out⟩
                    refine AllReadyH.cons (List.getElem?_toArray.trans rfl) (fun K hK => ?_) ?_
                    · obtain ⟨w_2_5_7_10, hw_2_5_7_10⟩ : ∃ z, z = w_2_5_7.alloc (.cells #[.string ⟨#[]⟩, .slice none 0 0] 24) := ⟨_, rfl⟩
                      obtain ⟨g_2_5_7_10, hg_2_5_7_10⟩ : ∃ z, z = w_2_5_7.heap.size := ⟨_, rfl⟩
                      have V_2_5_7_10 := Lib.hid (show Hp w (obox g_2_5_7_10 [] none 0 0 :: sgbox g_2_5_7 v y :: sgv A2 n c2 vs L :: sgbox g8 v y :: obox g2 [] none 0 0 :: dbox g1 (q : Int) AD nd cd AM mm cm :: obox g3 nm (some ⟨b, 0, none⟩) n c :: sgv (some ⟨b, 0, none⟩) n c vs L :: pool) w_2_5_7_10 by rw [hw_2_5_7_10, hg_2_5_7_10]; exact V_2_5_7.out.obox_new [] none 0 0)
                      have B_2_5_7_10 := Lib.hid (show Below w_2_5_7.heap.size w_2_5_7 w_2_5_7_10 by rw [hw_2_5_7_10]; exact bnew _ _)
                      have HW_2_5_7_10 := Lib.hid hw_2_5_7_10
                      have HG_2_5_7_10 := Lib.hid hg_2_5_7_10
                      clear hw_2_5_7_10 hg_2_5_7_10
                      go_simp
                      try rw [← HW_2_5_7_10.out]
                      try rw [← HG_2_5_7_10.out]
                      refine hK.out _ _ (hHeld.go B_2_5_7_10.out) (fun hHeld => ?_)
                      clear hK K
                      try simp only [Act.put, sA, sZ, sS]
                      refine wpAnyH_ready (rs := [8]) (by kernel_rfl) (by simp) ?_
                      refine AllReadyH.cons (List.getElem?_toArray.trans rfl) (fun K hK => ?_) AllReadyH.nil
                      obtain ⟨g5, c5, w_2_5_7_10_8, hr_2_5_7_10_8, hv_2_5_7_10_8, _⟩ := run_app_sg V_2_5_7_10.out (i := 2) rfl HVS.out 22 (b := g_2_5_7) v y (fun j u hu => (V_2_5_7_10.out.box_at (i := 1) rfl hu).1) (by omega)
                      have HR_2_5_7_10_8 := Lib.hid hr_2_5_7_10_8
                      have V_2_5_7_10_8 := Lib.hid (show Hp w (obox g_2_5_7_10 [] none 0 0 :: sgbox g_2_5_7 v y :: sgv (some ⟨g5, 0, none⟩) (n + 1) c5 (vs ++ [v]) (L ++ [y]) :: sgbox g8 v y :: obox g2 [] none 0 0 :: dbox g1 (q : Int) AD nd cd AM mm cm :: obox g3 nm (some ⟨b, 0, none⟩) n c :: sgv (some ⟨b, 0, none⟩) n c vs L :: pool) w_2_5_7_10_8 from hv_2_5_7_10_8)
                      clear hr_2_5_7_10_8 hv_2_5_7_10_8
                      refine step_app_run rfl (.tmp 123) (.tmp 125) 22 rfl HR_2_5_7_10_8.out rfl rfl ?_
                      refine hK.out _ _ (List.forall_mem_cons.2 ⟨⟨(V_2_5_7_10_8.out.box_at (i := 6) (j := 0) rfl rfl).1, (V_2_5_7_10_8.out.box_at (i := 6) (j := 0) rfl rfl).2.2⟩, List.forall_mem_cons.2 ⟨⟨(V_2_5_7_10_8.out.box_at (i := 6) (j := 1) rfl rfl).1, (V_2_5_7_10_8.out.box_at (i := 6) (j := 1) rfl rfl).2.2⟩, List.forall_mem_cons.2 ⟨⟨(V_2_5_7_10_8.out.box_at (i := 3) (j := 0) rfl rfl).1, (V_2_5_7_10_8.out.box_at (i := 3) (j := 0) rfl rfl).2.2⟩, List.forall_mem_cons.2 ⟨⟨(V_2_5_7_10_8.out.box_at (i := 3) (j := 1) rfl rfl).1, (V_2_5_7_10_8.out.box_at (i := 3) (j := 1) rfl rfl).2.2⟩, List.forall_mem_cons.2 ⟨⟨(V_2_5_7_10_8.out.box_at (i := 3) (j := 2) rfl rfl).1, (V_2_5_7_10_8.out.box_at (i := 3) (j := 2) rfl rfl).2.2⟩, List.forall_mem_cons.2 ⟨⟨(V_2_5_7_10_8.out.box_at (i := 3) (j := 3) rfl rfl).1, (V_2_5_7_10_8.out.box_at (i := 3) (j := 3) rfl rfl).2.2⟩, fun _ h => by simp at h⟩⟩⟩⟩⟩⟩) (fun hHeld => ?_)
                      clear hK K
                      try simp only [Act.put, sA, sZ, sS]
                      refine tk 9 ?_ rfl ?_ ?_; rotate_left; focus (intro w hSw; clear hSw; go_simp; try (with_reducible rfl))
                      try simp only [Act.put, sA, sZ, sS]
                      refine wpAnyH_ready (rs := [11]) (by kernel_rfl) (by simp) ?_
                      refine AllReadyH.cons (List.getElem?_toArray.trans rfl) (fun K hK => ?_) AllReadyH.nil
                      obtain ⟨u01, u02, u03⟩ := (V_2_5_7_10_8.out.box_at (i := 0) (j := 0) rfl rfl)
                      obtain ⟨u11, u12, u13⟩ := (V_2_5_7_10_8.out.box_at (i := 0) (j := 1) rfl rfl)
                      have VE := Lib.hid (show Hp w (obox g_2_5_7_10 nm (some ⟨g5, 0, none⟩) (n + 1) c5 :: sgbox g_2_5_7 v y :: sgv (some ⟨g5, 0, none⟩) (n + 1) c5 (vs ++ [v]) (L ++ [y]) :: sgbox g8 v y :: obox g2 [] none 0 0 :: dbox g1 (q : Int) AD nd cd AM mm cm :: obox g3 nm (some ⟨b, 0, none⟩) n c :: sgv (some ⟨b, 0, none⟩) n c vs L :: pool) _ from Hp.box_set (T := 24) (g := g_2_5_7_10) (cs := [.string (bs nm), .slice none 0 0]) (Hp.box_set (T := 24) (g := g_2_5_7_10) (cs := oC [] none 0 0) V_2_5_7_10_8.out (i := 0) rfl 0 (.string (bs nm))) (i := 0) rfl 1 (.slice (some ⟨g5, 0, none⟩) (n + 1) c5))
                      go_simp
                      refine hK.out _ _ (List.forall_mem_cons.2 ⟨⟨(VE.out.box_at (i := 6) (j := 0) rfl rfl).1, (VE.out.box_at (i := 6) (j := 0) rfl rfl).2.2⟩, List.forall_mem_cons.2 ⟨⟨(VE.out.box_at (i := 6) (j := 1) rfl rfl).1, (VE.out.box_at (i := 6) (j := 1) rfl rfl).2.2⟩, List.forall_mem_cons.2 ⟨⟨(VE.out.box_at (i := 3) (j := 0) rfl rfl).1, (VE.out.box_at (i := 3) (j := 0) rfl rfl).2.2⟩, List.forall_mem_cons.2 ⟨⟨(VE.out.box_at (i := 3) (j := 1) rfl rfl).1, (VE.out.box_at (i := 3) (j := 1) rfl rfl).2.2⟩, List.forall_mem_cons.2 ⟨⟨(VE.out.box_at (i := 3) (j := 2) rfl rfl).1, (VE.out.box_at (i := 3) (j := 2) rfl rfl).2.2⟩, List.forall_mem_cons.2 ⟨⟨(VE.out.box_at (i := 3) (j := 3) rfl rfl).1, (VE.out.box_at (i := 3) (j := 3) rfl rfl).2.2⟩, fun _ h => by simp at h⟩⟩⟩⟩⟩⟩) (fun hHeld => ?_)
                      clear hK K
                      try simp only [Act.put, sA, sZ, sS]
                      refine wpAnyH_done (by kernel_rfl) ?_ _
                      clear hHeld
                      have VF := Lib.hid (show Hp w (obox g2 [] none 0 0 :: dbox g1 (q : Int) AD nd cd AM mm cm :: obox g_2_5_7_10 nm (some ⟨g5, 0, none⟩) (n + 1) c5 :: obox g3 nm (some ⟨b, 0, none⟩) n c :: sgv (some ⟨g5, 0, none⟩) (n + 1) c5 (vs ++ [v]) (L ++ [y]) :: sgbox g8 v y :: sgv (some ⟨b, 0, none⟩) n c vs L :: sgbox g_2_5_7 v y :: pool) _ from (Hp.front (l := [_, _, _, _, _, _, _]) ((Hp.front (l := [_, _, _, _, _, _, _]) ((Hp.front (l := [_, _, _, _, _]) ((Hp.front (l := [_, _, _, _, _, _, _]) ((Hp.front (l := [_, _, _, _]) ((Hp.front (l := [_, _, _, _]) ((Hp.front (l := [_, _, _, _, _, _, _]) ((Hp.front (l := [_]) (VE.out)))))))))))))))))
                      go_wp2_with fail
                      go_meet
                      exact ⟨_, _, _, _, rfl, VF.out⟩
                    exact AllReadyH.nil
                  refine AllReadyH.cons (List.getElem?_toArray.trans rfl) (fun K hK => ?_) ?_
                  · obtain ⟨w_2_5_10, hw_2_5_10⟩ : ∃ z, z = w_2_5.alloc (.cells #[.string ⟨#[]⟩, .slice none 0 0] 24) := ⟨_, rfl⟩
                    obtain ⟨g_2_5_10, hg_2_5_10⟩ : ∃ z, z = w_2_5.heap.size := ⟨_, rfl⟩
                    have V_2_5_10 := Lib.hid (show Hp w (obox g_2_5_10 [] none 0 0 :: sgv A2 n c2 vs L :: sgbox g8 v y :: obox g2 [] none 0 0 :: dbox g1 (q : Int) AD nd cd AM mm cm :: obox g3 nm (some ⟨b, 0, none⟩) n c :: sgv (some ⟨b, 0, none⟩) n c vs L :: pool) w_2_5_10 by rw [hw_2_5_10, hg_2_5_10]; exact V_2_5.out.obox_new [] none 0 0)
                    have B_2_5_10 := Lib.hid (show Below w_2_5.heap.size w_2_5 w_2_5_10 by rw [hw_2_5_10]; exact bnew _ _)
                    have HW_2_5_10 := Lib.hid hw_2_5_10
                    have HG_2_5_10 := Lib.hid hg_2_5_10
                    clear hw_2_5_10 hg_2_5_10
                    go_simp
                    try rw [← HW_2_5_10.out]
                    try rw [← HG_2_5_10.out]
                    refine hK.out _ _ (hHeld.go B_2_5_10.out) (fun hHeld => ?_)
                    clear hK K
                    try simp only [Act.put, sA, sZ, sS]
                    refine wpAnyH_ready (rs := [7]) (by kernel_rfl) (by simp) ?_
                    refine AllReadyH.cons (List.getElem?_toArray.trans rfl) (fun K hK => ?_) AllReadyH.nil
                    obtain ⟨w_2_5_10_7, hw_2_5_10_7⟩ : ∃ z, z = w_2_5_10.alloc (.cells #[.string (bs y.t), .slice v.1 y.s.length v.2, .int .i64 y.c, .int .i64 y.w] 58) := ⟨_, rfl⟩
                    obtain ⟨g_2_5_10_7, hg_2_5_10_7⟩ : ∃ z, z = w_2_5_10.heap.size := ⟨_, rfl⟩
                    have V_2_5_10_7 := Lib.hid (show Hp w (sgbox g_2_5_10_7 v y :: obox g_2_5_10 [] none 0 0 :: sgv A2 n c2 vs L :: sgbox g8 v y :: obox g2 [] none 0 0 :: dbox g1 (q : Int) AD nd cd AM mm cm :: obox g3 nm (some ⟨b, 0, none⟩) n c :: sgv (some ⟨b, 0, none⟩) n c vs L :: pool) w_2_5_10_7 by rw [hw_2_5_10_7, hg_2_5_10_7]; exact V_2_5_10.out.sgbox_new v.1 v.2 y)
                    have B_2_5_10_7 := Lib.hid (show Below w_2_5_10.heap.size w_2_5_10 w_2_5_10_7 by rw [hw_2_5_10_7]; exact bnew _ _)
                    have HW_2_5_10_7 := Lib.hid hw_2_5_10_7
                    have HG_2_5_10_7 := Lib.hid hg_2_5_10_7
                    clear hw_2_5_10_7 hg_2_5_10_7
                    go_simp
                    try rw [← HW_2_5_10_7.out]
                    try rw [← HG_2_5_10_7.out]
                    refine hK.out _ _ (hHeld.go B_2_5_10_7.out) (fun hHeld => ?_)
                    clear hK K
                    try simp only [Act.put, sA, sZ, sS]
                    refine wpAnyH_ready (rs := [8]) (by kernel_rfl) (by simp) ?_
                    refine AllReadyH.cons (List.getElem?_toArray.trans rfl) (fun K hK => ?_) AllReadyH.nil
                    obtain ⟨g5, c5, w_2_5_10_7_8, hr_2_5_10_7_8, hv_2_5_10_7_8, _⟩ := run_app_sg V_2_5_10_7.out (i := 2) rfl HVS.out 22 (b := g_2_5_10_7) v y (fun j u hu => (V_2_5_10_7.out.box_at (i := 0) rfl hu).1) (by omega)
                    have HR_2_5_10_7_8 := Lib.hid hr_2_5_10_7_8
                    have V_2_5_10_7_8 := Lib.hid (show Hp w (sgbox g_2_5_10_7 v y :: obox g_2_5_10 [] none 0 0 :: sgv (some ⟨g5, 0, none⟩) (n + 1) c5 (vs ++ [v]) (L ++ [y]) :: sgbox g8 v y :: obox g2 [] none 0 0 :: dbox g1 (q : Int) AD nd cd AM mm cm :: obox g3 nm (some ⟨b, 0, none⟩) n c :: sgv (some ⟨b, 0, none⟩) n c vs L :: pool) w_2_5_10_7_8 from hv_2_5_10_7_8)
                    clear hr_2_5_10_7_8 hv_2_5_10_7_8
                    refine step_app_run rfl (.tmp 123) (.tmp 125) 22 rfl HR_2_5_10_7_8.out rfl rfl ?_
                    refine hK.out _ _ (List.forall_mem_cons.2 ⟨⟨(V_2_5_10_7_8.out.box_at (i := 6) (j := 0) rfl rfl).1, (V_2_5_10_7_8.out.box_at (i := 6) (j := 0) rfl rfl).2.2⟩, List.forall_mem_cons.2 ⟨⟨(V_2_5_10_7_8.out.box_at (i := 6) (j := 1) rfl rfl).1, (V_2_5_10_7_8.out.box_at (i := 6) (j := 1) rfl rfl).2.2⟩, List.forall_mem_cons.2 ⟨⟨(V_2_5_10_7_8.out.box_at (i := 3) (j := 0) rfl rfl).1, (V_2_5_10_7_8.out.box_at (i := 3) (j := 0) rfl rfl).2.2⟩, List.forall_mem_cons.2 ⟨⟨(V_2_5_10_7_8.out.box_at (i := 3) (j := 1) rfl rfl).1, (V_2_5_10_7_8.out.box_at (i := 3) (j := 1) rfl rfl).2.2⟩, List.forall_mem_cons.2 ⟨⟨(V_2_5_10_7_8.out.box_at (i := 3) (j := 2) rfl rfl).1, (V_2_5_10_7_8.out.box_at (i := 3) (j := 2) rfl rfl).2.2⟩, List.forall_mem_cons.2 ⟨⟨(V_2_5_10_7_8.out.box_at (i := 3) (j := 3) rfl rfl).1, (V_2_5_10_7_8.out.box_at (i := 3) (j := 3) rfl rfl).2.2⟩, fun _ h => by simp at h⟩⟩⟩⟩⟩⟩) (fun hHeld => ?_)
                    clear hK K
                    try simp only [Act.put, sA, sZ, sS]
                    refine tk 9 ?_ rfl ?_ ?_; rotate_left; focus (intro w hSw; clear hSw; go_simp; try (with_reducible rfl))
                    try simp only [Act.put, sA, sZ, sS]
                    refine wpAnyH_ready (rs := [11]) (by kernel_rfl) (by simp) ?_
                    refine AllReadyH.cons (List.getElem?_toArray.trans rfl) (fun K hK => ?_) AllReadyH.nil
                    obtain ⟨u01, u02, u03⟩ := (V_2_5_10_7_8.out.box_at (i := 1) (j := 0) rfl rfl)
                    obtain ⟨u11, u12, u13⟩ := (V_2_5_10_7_8.out.box_at (i := 1) (j := 1) rfl rfl)
                    have VE := Lib.hid (show Hp w (sgbox g_2_5_10_7 v y :: obox g_2_5_10 nm (some ⟨g5, 0, none⟩) (n + 1) c5 :: sgv (some ⟨g5, 0, none⟩) (n + 1) c5 (vs ++ [v]) (L ++ [y]) :: sgbox g8 v y :: obox g2 [] none 0 0 :: dbox g1 (q : Int) AD nd cd AM mm cm :: obox g3 nm (some ⟨b, 0, none⟩) n c :: sgv (some ⟨b, 0, none⟩) n c vs L :: pool) _ from Hp.box_set (T := 24) (g := g_2_5_10) (cs := [.string (bs nm), .slice none 0 0]) (Hp.box_set (T := 24) (g := g_2_5_10) (cs := oC [] none 0 0) V_2_5_10_7_8.out (i := 1) rfl 0 (.string (bs nm))) (i := 1) rfl 1 (.slice (some ⟨g5, 0, none⟩) (n + 1) c5))
                    go_simp
                    refine hK.out _ _ (List.forall_mem_cons.2 ⟨⟨(VE.out.box_at (i := 6) (j := 0) rfl rfl).1, (VE.out.box_at (i := 6) (j := 0) rfl rfl).2.2⟩, List.forall_mem_cons.2 ⟨⟨(VE.out.box_at (i := 6) (j := 1) rfl rfl).1, (VE.out.box_at (i := 6) (j := 1) rfl rfl).2.2⟩, List.forall_mem_cons.2 ⟨⟨(VE.out.box_at (i := 3) (j := 0) rfl rfl).1, (VE.out.box_at (i := 3) (j := 0) rfl rfl).2.2⟩, List.forall_mem_cons.2 ⟨⟨(VE.out.box_at (i := 3) (j := 1) rfl rfl).1, (VE.out.box_at (i := 3) (j := 1) rfl rfl).2.2⟩, List.forall_mem_cons.2 ⟨⟨(VE.out.box_at (i := 3) (j := 2) rfl rfl).1, (VE.out.box_at (i := 3) (j := 2) rfl rfl).2.2⟩, List.forall_mem_cons.2 ⟨⟨(VE.out.box_at (i := 3) (j := 3) rfl rfl).1, (VE.out.box_at (i := 3) (j := 3) rfl rfl).2.2⟩, fun _ h => by simp at h⟩⟩⟩⟩⟩⟩) (fun hHeld => ?_)
                    clear hK K
                    try simp only [Act.put, sA, sZ, sS]
                    refine wpAnyH_done (by kernel_rfl) ?_ _
                    clear hHeld
                    have VF := Lib.hid (show Hp w (obox g2 [] none 0 0 :: dbox g1 (q : Int) AD nd cd AM mm cm :: obox g_2_5_10 nm (some ⟨g5, 0, none⟩) (n + 1) c5 :: obox g3 nm (some ⟨b, 0, none⟩) n c :: sgv (some ⟨g5, 0, none⟩) (n + 1) c5 (vs ++ [v]) (L ++ [y]) :: sgbox g8 v y :: sgv (some ⟨b, 0, none⟩) n c vs L :: sgbox g_2_5_10_7 v y :: pool) _ from (Hp.front (l := [_, _, _, _, _, _, _]) ((Hp.front (l := [_, _, _, _, _, _, _]) ((Hp.front (l := [_, _, _, _, _]) ((Hp.front (l := [_, _, _, _, _, _, _]) ((Hp.front (l := [_, _, _, _]) ((Hp.front (l := [_, _, _, _]) ((Hp.front (l := [_, _, _, _, _, _, _]) (VE.out)))))))))))))))
                    go_wp2_with fail
                    go_meet
                    exact ⟨_, _, _, _, rfl, VF.out⟩
                  exact AllReadyH.nil
                refine AllReadyH.cons (List.getElem?_toArray.trans rfl) (fun K hK => ?_) ?_
                · obtain ⟨w_2_7, hw_2_7⟩ : ∃ z, z = w_2.alloc (.cells #[.string (bs y.t), .slice v.1 y.s.length v.2, .int .i64 y.c, .int .i64 y.w] 58) := ⟨_, rfl⟩
                  obtain ⟨g_2_7, hg_2_7⟩ : ∃ z, z = w_2.heap.size := ⟨_, rfl⟩
                  have V_2_7 := Lib.hid (show Hp w (sgbox g_2_7 v y :: sgv (some ⟨g_2, 0, none⟩) 0 0 [] [] :: sgbox g8 v y :: obox g2 [] none 0 0 :: dbox g1 (q : Int) AD nd cd AM mm cm :: obox g3 nm (some ⟨b, 0, none⟩) n c :: sgv (some ⟨b, 0, none⟩) n c vs L :: pool) w_2_7 by rw [hw_2_7, hg_2_7]; exact V_2.out.sgbox_new v.1 v.2 y)
                  have B_2_7 := Lib.hid (show Below w_2.heap.size w_2 w_2_7 by rw [hw_2_7]; exact bnew _ _)
                  have HW_2_7 := Lib.hid hw_2_7
                  have HG_2_7 := Lib.hid hg_2_7
                  clear hw_2_7 hg_2_7
                  go_simp
                  try rw [← HW_2_7.out]
                  try rw [← HG_2_7.out]
                  refine hK.out _ _ (hHeld.go B_2_7.out) (fun hHeld => ?_)
                  clear hK K
                  try simp only [Act.put, sA, sZ, sS]
                  refine wpAnyH_ready (rs := [5, 10]) (by kernel_rfl) (by simp) ?_
                  refine AllReadyH.cons (List.getElem?_toArray.trans rfl) (fun K hK => ?_) ?_
                  · obtain ⟨A2, c2, w_2_7_5, hr_2_7_5, hv_2_7_5, _⟩ := run_cat_sgs V_2_7.out (i := 1) rfl rfl 22 (B := some ⟨b, 0, none⟩) (m := n) (d := c) vs L HVS.out HL.out (V_2_7.out.cells (i := 6) (it := sgv (some ⟨b, 0, none⟩) n c vs L) rfl rfl) (by omega) (by omega)
                    rw [Nat.zero_add] at hr_2_7_5 hv_2_7_5
                    have HR_2_7_5 := Lib.hid hr_2_7_5
                    have V_2_7_5 := Lib.hid (show Hp w (sgbox g_2_7 v y :: sgv A2 n c2 vs L :: sgbox g8 v y :: obox g2 [] none 0 0 :: dbox g1 (q : Int) AD nd cd AM mm cm :: obox g3 nm (some ⟨b, 0, none⟩) n c :: sgv (some ⟨b, 0, none⟩) n c vs L :: pool) w_2_7_5 from hv_2_7_5)
                    clear hr_2_7_5 hv_2_7_5
                    refine step_app_run rfl (.tmp 120) (.tmp 122) 22 rfl HR_2_7_5.out rfl rfl ?_
                    refine hK.out _ _ (List.forall_mem_cons.2 ⟨⟨(V_2_7_5.out.box_at (i := 5) (j := 0) rfl rfl).1, (V_2_7_5.out.box_at (i := 5) (j := 0) rfl rfl).2.2⟩, List.forall_mem_cons.2 ⟨⟨(V_2_7_5.out.box_at (i := 5) (j := 1) rfl rfl).1, (V_2_7_5.out.box_at (i := 5) (j := 1) rfl rfl).2.2⟩, List.forall_mem_cons.2 ⟨⟨(V_2_7_5.out.box_at (i := 2) (j := 0) rfl rfl).1, (V_2_7_5.out.box_at (i := 2) (j := 0) rfl rfl).2.2⟩, List.forall_mem_cons.2 ⟨⟨(V_2_7_5.out.box_at (i := 2) (j := 1) rfl rfl).1, (V_2_7_5.out.box_at (i := 2) (j := 1) rfl rfl).2.2⟩, List.forall_mem_cons.2 ⟨⟨(V_2_7_5.out.box_at (i := 2) (j := 2) rfl rfl).1, (V_2_7_5.out.box_at (i := 2) (j := 2) rfl rfl).2.2⟩, List.forall_mem_cons.2 ⟨⟨(V_2_7_5.out.box_at (i := 2) (j := 3) rfl rfl).1, (V_2_7_5.out.box_at (i := 2) (j := 3) rfl rfl).2.2⟩, fun _ h => by simp at h⟩⟩⟩⟩⟩⟩) (fun hHeld => ?_)
                    clear hK K
                    try simp only [Act.put, sA, sZ, sS]
                    refine wpAnyH_ready (rs := [8, 10]) (by kernel_rfl) (by simp) ?_
                    refine AllReadyH.cons (List.getElem?_toArray.trans rfl) (fun K hK => ?_) ?_
                    · obtain ⟨g5, c5, w_2_7_5_8, hr_2_7_5_8, hv_2_7_5_8, _⟩ := run_app_sg V_2_7_5.out (i := 1) rfl HVS.out 22 (b := g_2_7) v y (fun j u hu => (V_2_7_5.out.box_at (i := 0) rfl hu).1) (by omega)
                      have HR_2_7_5_8 := Lib.hid hr_2_7_5_8
                      have V_2_7_5_8 := Lib.hid (show Hp w (sgbox g_2_7 v y :: sgv (some ⟨g5, 0, none⟩) (n + 1) c5 (vs ++ [v]) (L ++ [y]) :: sgbox g8 v y :: obox g2 [] none 0 0 :: dbox g1 (q : Int) AD nd cd AM mm cm :: obox g3 nm (some ⟨b, 0, none⟩) n c :: sgv (some ⟨b, 0, none⟩) n c vs L :: pool) w_2_7_5_8 from hv_2_7_5_8)
                      clear hr_2_7_5_8 hv_2_7_5_8
                      refine step_app_run rfl (.tmp 123) (.tmp 125) 22 rfl HR_2_7_5_8.out rfl rfl ?_
                      refine hK.out _ _ (List.forall_mem_cons.2 ⟨⟨(V_2_7_5_8.out.box_at (i := 5) (j := 0) rfl rfl).1, (V_2_7_5_8.out.box_at (i := 5) (j := 0) rfl rfl).2.2⟩, List.forall_mem_cons.2 ⟨⟨(V_2_7_5_8.out.box_at (i := 5) (j := 1) rfl rfl).1, (V_2_7_5_8.out.box_at (i := 5) (j := 1) rfl rfl).2.2⟩, List.forall_mem_cons.2 ⟨⟨(V_2_7_5_8.out.box_at (i := 2) (j := 0) rfl rfl).1, (V_2_7_5_8.out.box_at (i := 2) (j := 0) rfl rfl).2.2⟩, List.forall_mem_cons.2 ⟨⟨(V_2_7_5_8.out.box_at (i := 2) (j := 1) rfl rfl).1, (V_2_7_5_8.out.box_at (i := 2) (j := 1) rfl rfl).2.2⟩, List.forall_mem_cons.2 ⟨⟨(V_2_7_5_8.out.box_at (i := 2) (j := 2) rfl rfl).1, (V_2_7_5_8.out.box_at (i := 2) (j := 2) rfl rfl).2.2⟩, List.forall_mem_cons.2 ⟨⟨(V_2_7_5_8.out.box_at (i := 2) (j := 3) rfl rfl).1, (V_2_7_5_8.out.box_at (i := 2) (j := 3) rfl rfl).2.2⟩, fun _ h => by simp at h⟩⟩⟩⟩⟩⟩) (fun hHeld => ?_)
                      clear hK K
                      try simp only [Act.put, sA, sZ, sS]
                      refine tk 9 ?_ rfl ?_ ?_; rotate_left; focus (intro w hSw; clear hSw; go_simp; try (with_reducible rfl))
                      try simp only [Act.put, sA, sZ, sS]
                      refine wpAnyH_ready (rs := [10]) (by kernel_rfl) (by simp) ?_
                      refine AllReadyH.cons (List.getElem?_toArray.trans rfl) (fun K hK => ?_) AllReadyH.nil
                      obtain ⟨w_2_7_5_8_10, hw_2_7_5_8_10⟩ : ∃ z, z = w_2_7_5_8.alloc (.cells #[.string ⟨#[]⟩, .slice none 0 0] 24) := ⟨_, rfl⟩
                      obtain ⟨g_2_7_5_8_10, hg_2_7_5_8_10⟩ : ∃ z, z = w_2_7_5_8.heap.size := ⟨_, rfl⟩
                      have V_2_7_5_8_10 := Lib.hid (show Hp w (obox g_2_7_5_8_10 [] none 0 0 :: sgbox g_2_7 v y :: sgv (some ⟨g5, 0, none⟩) (n + 1) c5 (vs ++ [v]) (L ++ [y]) :: sgbox g8 v y :: obox g2 [] none 0 0 :: dbox g1 (q : Int) AD nd cd AM mm cm :: obox g3 nm (some ⟨b, 0, none⟩) n c :: sgv (some ⟨b, 0, none⟩) n c vs L :: pool) w_2_7_5_8_10 by rw [hw_2_7_5_8_10, hg_2_7_5_8_10]; exact V_2_7_5_8.out.obox_new [] none 0 0)
                      have B_2_7_5_8_10 := Lib.hid (show Below w_2_7_5_8.heap.size w_2_7_5_8 w_2_7_5_8_10 by rw [hw_2_7_5_8_10]; exact bnew _ _)
                      have HW_2_7_5_8_10 := Lib.hid hw_2_7_5_8_10
                      have HG_2_7_5_8_10 := Lib.hid hg_2_7_5_8_10
                      clear hw_2_7_5_8_10 hg_2_7_5_8_10
                      go_simp
                      try rw [← HW_2_7_5_8_10.out]
                      try rw [← HG_2_7_5_8_10.out]
                      refine hK.out _ _ (hHeld.go B_2_7_5_8_10.out) (fun hHeld => ?_)
                      clear hK K
                      try simp only [Act.put, sA, sZ, sS]
                      refine wpAnyH_ready (rs := [11]) (by kernel_rfl) (by simp) ?_
                      refine AllReadyH.cons (List.getElem?_toArray.trans rfl) (fun K hK => ?_) AllReadyH.nil
                      obtain ⟨u01, u02, u03⟩ := (V_2_7_5_8_10.out.box_at (i := 0) (j := 0) rfl rfl)
                      obtain ⟨u11, u12, u13⟩ := (V_2_7_5_8_10.out.box_at (i := 0) (j := 1) rfl rfl)
                      have VE := Lib.hid (show Hp w (obox g_2_7_5_8_10 nm (some ⟨g5, 0, none⟩) (n + 1) c5 :: sgbox g_2_7 v y :: sgv (some ⟨g5, 0, none⟩) (n + 1) c5 (vs ++ [v]) (L ++ [y]) :: sgbox g8 v y :: obox g2 [] none 0 0 :: dbox g1 (q : Int) AD nd cd AM mm cm :: obox g3 nm (some ⟨b, 0, none⟩) n c :: sgv (some ⟨b, 0, none⟩) n c vs L :: pool) _ from Hp.box_set (T := 24) (g := g_2_7_5_8_10) (cs := [.string (bs nm), .slice none 0 0]) (Hp.box_set (T := 24) (g := g_2_7_5_8_10) (cs := oC [] none 0 0) V_2_7_5_8_10.out (i := 0) rfl 0 (.string (bs nm))) (i := 0) rfl 1 (.slice (some ⟨g5, 0, none⟩) (n + 1) c5))
                      go_simp
                      refine hK.out _ _ (List.forall_mem_cons.2 ⟨⟨(VE.out.box_at (i := 6) (j := 0) rfl rfl).1, (VE.out.box_at (i := 6) (j := 0) rfl rfl).2.2⟩, List.forall_mem_cons.2 ⟨⟨(VE.out.box_at (i := 6) (j := 1) rfl rfl).1, (VE.out.box_at (i := 6) (j := 1) rfl rfl).2.2⟩, List.forall_mem_cons.2 ⟨⟨(VE.out.box_at (i := 3) (j := 0) rfl rfl).1, (VE.out.box_at (i := 3) (j := 0) rfl rfl).2.2⟩, List.forall_mem_cons.2 ⟨⟨(VE.out.box_at (i := 3) (j := 1) rfl rfl).1, (VE.out.box_at (i := 3) (j := 1) rfl rfl).2.2⟩, List.forall_mem_cons.2 ⟨⟨(VE.out.box_at (i := 3) (j := 2) rfl rfl).1, (VE.out.box_at (i := 3) (j := 2) rfl rfl).2.2⟩, List.forall_mem_cons.2 ⟨⟨(VE.out.box_at (i := 3) (j := 3) rfl rfl).1, (VE.out.box_at (i := 3) (j := 3) rfl rfl).2.2⟩, fun _ h => by simp at h⟩⟩⟩⟩⟩⟩) (fun hHeld => ?_)
                      clear hK K
                      try simp only [Act.put, sA, sZ, sS]
                      refine wpAnyH_done (by kernel_rfl) ?_ _
                      clear hHeld
                      have VF := Lib.hid (show Hp w (obox g2 [] none 0 0 :: dbox g1 (q : Int) AD nd cd AM mm cm :: obox g_2_7_5_8_10 nm (some ⟨g5, 0, none⟩) (n + 1) c5 :: obox g3 nm (some ⟨b, 0, none⟩) n c :: sgv (some ⟨g5, 0, none⟩) (n + 1) c5 (vs ++ [v]) (L ++ [y]) :: sgbox g8 v y :: sgv (some ⟨b, 0, none⟩) n c vs L :: sgbox g_2_7 v y :: pool) _ from (Hp.front (l := [_, _, _, _, _, _, _]) ((Hp.front (l := [_, _, _, _, _, _, _]) ((Hp.front (l := [_, _, _, _, _]) ((Hp.front (l := [_, _, _, _, _, _, _]) ((Hp.front (l := [_, _, _, _]) ((Hp.front (l := [_, _, _, _]) ((Hp.front (l := [_, _, _, _, _, _, _]) ((Hp.front (l := [_]) (VE.out)))))))))))))))))
                      go_wp2_with fail
                      go_meet
                      exact ⟨_, _, _, _, rfl, VF.out⟩
                    refine AllReadyH.cons (List.getElem?_toArray.trans rfl) (fun K hK => ?_) ?_
                    · obtain ⟨w_2_7_5_10, hw_2_7_5_10⟩ : ∃ z, z = w_2_7_5.alloc (.cells #[.string ⟨#[]⟩, .slice none 0 0] 24) := ⟨_, rfl⟩
                      obtain ⟨g_2_7_5_10, hg_2_7_5_10⟩ : ∃ z, z = w_2_7_5.heap.size := ⟨_, rfl⟩
                      have V_2_7_5_10 := Lib.hid (show Hp w (obox g_2_7_5_10 [] none 0 0 :: sgbox g_2_7 v y :: sgv A2 n c2 vs L :: sgbox g8 v y :: obox g2 [] none 0 0 :: dbox g1 (q : Int) AD nd cd AM mm cm :: obox g3 nm (some ⟨b, 0, none⟩) n c :: sgv (some ⟨b, 0, none⟩) n c vs L :: pool) w_2_7_5_10 by rw [hw_2_7_5_10, hg_2_7_5_10]; exact V_2_7_5.out.obox_new [] none 0 0)
                      have B_2_7_5_10 := Lib.hid (show Below w_2_7_5.heap.size w_2_7_5 w_2_7_5_10 by rw [hw_2_7_5_10]; exact bnew _ _)
                      have HW_2_7_5_10 := Lib.hid hw_2_7_5_10
                      have HG_2_7_5_10 := Lib.hid hg_2_7_5_10
                      clear hw_2_7_5_10 hg_2_7_5_10
                      go_simp
                      try rw [← HW_2_7_5_10.out]
                      try rw [← HG_2_7_5_10.out]
                      refine hK.out _ _ (hHeld.go B_2_7_5_10.out) (fun hHeld => ?_)
                      clear hK K
                      try simp only [Act.put, sA, sZ, sS]
                      refine wpAnyH_ready (rs := [8]) (by kernel_rfl) (by simp) ?_
                      refine AllReadyH.cons (List.getElem?_toArray.trans rfl) (fun K hK => ?_) AllReadyH.nil
                      obtain ⟨g5, c5, w_2_7_5_10_8, hr_2_7_5_10_8, hv_2_7_5_10_8, _⟩ := run_app_sg V_2_7_5_10.out (i := 2) rfl HVS.out 22 (b := g_2_7) v y (fun j u hu => (V_2_7_5_10.out.box_at (i := 1) rfl hu).1) (by omega)
                      have HR_2_7_5_10_8 := Lib.hid hr_2_7_5_10_8
                      have V_2_7_5_10_8 := Lib.hid (show Hp w (obox g_2_7_5_10 [] none 0 0 :: sgbox g_2_7 v y :: sgv (some ⟨g5, 0, none⟩) (n + 1) c5 (vs ++ [v]) (L ++ [y]) :: sgbox g8 v y :: obox g2 [] none 0 0 :: dbox g1 (q : Int) AD nd cd AM mm cm :: obox g3 nm (some ⟨b, 0, none⟩) n c :: sgv (some ⟨b, 0, none⟩) n c vs L :: pool) w_2_7_5_10_8 from hv_2_7_5_10_8)
                      clear hr_2_7_5_10_8 hv_2_7_5_10_8
                      refine step_app_run rfl (.tmp 123) (.tmp 125) 22 rfl HR_2_7_5_10_8.out rfl rfl ?_
                      refine hK.out _ _ (List.forall_mem_cons.2 ⟨⟨(V_2_7_5_10_8.out.box_at (i := 6) (j := 0) rfl rfl).1, (V_2_7_5_10_8.out.box_at (i := 6) (j := 0) rfl rfl).2.2⟩, List.forall_mem_cons.2 ⟨⟨(V_2_7_5_10_8.out.box_at (i := 6) (j := 1) rfl rfl).1, (V_2_7_5_10_8.out.box_at (i := 6) (j := 1) rfl rfl).2.2⟩, List.forall_mem_cons.2 ⟨⟨(V_2_7_5_10_8.out.box_at (i := 3) (j := 0) rfl rfl).1, (V_2_7_5_10_8.out.box_at (i := 3) (j := 0) rfl rfl).2.2⟩, List.forall_mem_cons.2 ⟨⟨(V_2_7_5_10_8.out.box_at (i := 3) (j := 1) rfl rfl).1, (V_2_7_5_10_8.out.box_at (i := 3) (j := 1) rfl rfl).2.2⟩, List.forall_mem_cons.2 ⟨⟨(V_2_7_5_10_8.out.box_at (i := 3) (j := 2) rfl rfl).1, (V_2_7_5_10_8.out.box_at (i := 3) (j := 2) rfl rfl).2.2⟩, List.forall_mem_cons.2 ⟨⟨(V_2_7_5_10_8.out.box_at (i := 3) (j := 3) rfl rfl).1, (V_2_7_5_10_8.out.box_at (i := 3) (j := 3) rfl rfl).2.2⟩, fun _ h => by simp at h⟩⟩⟩⟩⟩⟩) (fun hHeld => ?_)
                      clear hK K
                      try simp only [Act.put, sA, sZ, sS]
                      refine tk 9 ?_ rfl ?_ ?_; rotate_left; focus (intro w hSw; clear hSw; go_simp; try (with_reducible rfl))
                      try simp only [Act.put, sA, sZ, sS]
                      refine wpAnyH_ready (rs := [11]) (by kernel_rfl) (by simp) ?_
                      refine AllReadyH.cons (List.getElem?_toArray.trans rfl) (fun K hK => ?_) AllReadyH.nil
                      obtain ⟨u01, u02, u03⟩ := (V_2_7_5_10_8.out.box_at (i := 0) (j := 0) rfl rfl)
                      obtain ⟨u11, u12, u13⟩ := (V_2_7_5_10_8.out.box_at (i := 0) (j := 1) rfl rfl)
                      have VE := Lib.hid (show Hp w (obox g_2_7_5_10 nm (some ⟨g5, 0, none⟩) (n + 1) c5 :: sgbox g_2_7 v y :: sgv (some ⟨g5, 0, none⟩) (n + 1) c5 (vs ++ [v]) (L ++ [y]) :: sgbox g8 v y :: obox g2 [] none 0 0 :: dbox g1 (q : Int) AD nd cd AM mm cm :: obox g3 nm (some ⟨b, 0, none⟩) n c :: sgv (some ⟨b, 0, none⟩) n c vs L :: pool) _ from Hp.box_set (T := 24) (g := g_2_7_5_10) (cs := [.string (bs nm), .slice none 0 0]) (Hp.box_set (T := 24) (g := g_2_7_5_10) (cs := oC [] none 0 0) V_2_7_5_10_8.out (i := 0) rfl 0 (.string (bs nm))) (i := 0) rfl 1 (.slice (some ⟨g5, 0, none⟩) (n + 1) c5))
                      go_simp
                      refine hK.out _ _ (List.forall_mem_cons.2 ⟨⟨(VE.out.box_at (i := 6) (j := 0) rfl rfl).1, (VE.out.box_at (i := 6) (j := 0) rfl rfl).2.2⟩, List.forall_mem_cons.2 ⟨⟨(VE.out.box_at (i := 6) (j := 1) rfl rfl).1, (VE.out.box_at (i := 6) (j := 1) rfl rfl).2.2⟩, List.forall_mem_cons.2 ⟨⟨(VE.out.box_at (i := 3) (j := 0) rfl rfl).1, (VE.out.box_at (i := 3) (j := 0) rfl rfl).2.2⟩, List.forall_mem_cons.2 ⟨⟨(VE.out.box_at (i := 3) (j := 1) rfl rfl).1, (VE.out.box_at (i := 3) (j := 1) rfl rfl).2.2⟩, List.forall_mem_cons.2 ⟨⟨(VE.out.box_at (i := 3) (j := 2) rfl rfl).1, (VE.out.box_at (i := 3) (j := 2) rfl rfl).2.2⟩, List.forall_mem_cons.2 ⟨⟨(VE.out.box_at (i := 3) (j := 3) rfl rfl).1, (VE.out.box_at (i := 3) (j := 3) rfl rfl).2.2⟩, fun _ h => by simp at h⟩⟩⟩⟩⟩⟩) (fun hHeld => ?_)
                      clear hK K
                      try simp only [Act.put, sA, sZ, sS]
                      refine wpAnyH_done (by kernel_rfl) ?_ _
                      clear hHeld
                      have VF := Lib.hid (show Hp w (obox g2 [] none 0 0 :: dbox g1 (q : Int) AD nd cd AM mm cm :: obox g_2_7_5_10 nm (some ⟨g5, 0, none⟩) (n + 1) c5 :: obox g3 nm (some ⟨b, 0, none⟩) n c :: sgv (some ⟨g5, 0, none⟩) (n + 1) c5 (vs ++ [v]) (L ++ [y]) :: sgbox g8 v y :: sgv (some ⟨b, 0, none⟩) n c vs L :: sgbox g_2_7 v y :: pool) _ from (Hp.front (l := [_, _, _, _, _, _, _]) ((Hp.front (l := [_, _, _, _, _, _, _]) ((Hp.front (l := [_, _, _, _, _]) ((Hp.front (l := [_, _, _, _, _, _, _]) ((Hp.front (l := [_, _, _, _]) ((Hp.front (l := [_, _, _, _]) ((Hp.front (l := [_, _, _, _, _, _, _]) ((Hp.front (l := [_]) (VE.out)))))))))))))))))
                      go_wp2_with fail
                      go_meet
                      exact ⟨_, _, _, _, rfl, VF.out⟩
                    exact AllReadyH.nil
                  refine AllReadyH.cons (List.getElem?_toArray.trans rfl) (fun K hK => ?_) ?_
                  · obtain ⟨w_2_7_10, hw_2_7_10⟩ : ∃ z, z = w_2_7.alloc (.cells #[.string ⟨#[]⟩, .slice none 0 0] 24) := ⟨_, rfl⟩
                    obtain ⟨g_2_7_10, hg_2_7_10⟩ : ∃ z, z = w_2_7.heap.size := ⟨_, rfl⟩
                    have V_2_7_10 := Lib.hid (show Hp w (obox g_2_7_10 [] none 0 0 :: sgbox g_2_7 v y :: sgv (some ⟨g_2, 0, none⟩) 0 0 [] [] :: sgbox g8 v y :: obox g2 [] none 0 0 :: dbox g1 (q : Int) AD nd cd AM mm cm :: obox g3 nm (some ⟨b, 0, none⟩) n c :: sgv (some ⟨b, 0, none⟩) n c vs L :: pool) w_2_7_10 by rw [hw_2_7_10, hg_2_7_10]; exact V_2_7.out.obox_new [] none 0 0)
                    have B_2_7_10 := Lib.hid (show Below w_2_7.heap.size w_2_7 w_2_7_10 by rw [hw_2_7_10]; exact bnew _ _)
                    have HW_2_7_10 := Lib.hid hw_2_7_10
                    have HG_2_7_10 := Lib.hid hg_2_7_10
                    clear hw_2_7_10 hg_2_7_10
                    go_simp
                    try rw [← HW_2_7_10.out]
                    try rw [← HG_2_7_10.out]
                    refine hK.out _ _ (hHeld.go B_2_7_10.out) (fun hHeld => ?_)
                    clear hK K
                    try simp only [Act.put, sA, sZ, sS]
                    refine wpAnyH_ready (rs := [5]) (by kernel_rfl) (by simp) ?_
                    refine AllReadyH.cons (List.getElem?_toArray.trans rfl) (fun K hK => ?_) AllReadyH.nil
                    obtain ⟨A2, c2, w_2_7_10_5, hr_2_7_10_5, hv_2_7_10_5, _⟩ := run_cat_sgs V_2_7_10.out (i := 2) rfl rfl 22 (B := some ⟨b, 0, none⟩) (m := n) (d := c) vs L HVS.out HL.out (V_2_7_10.out.cells (i := 7) (it := sgv (some ⟨b, 0, none⟩) n c vs L) rfl rfl) (by omega) (by omega)
                    rw [Nat.zero_add] at hr_2_7_10_5 hv_2_7_10_5
                    have HR_2_7_10_5 := Lib.hid hr_2_7_10_5
                    have V_2_7_10_5 := Lib.hid (show Hp w (obox g_2_7_10 [] none 0 0 :: sgbox g_2_7 v y :: sgv A2 n c2 vs L :: sgbox g8 v y :: obox g2 [] none 0 0 :: dbox g1 (q : Int) AD nd cd AM mm cm :: obox g3 nm (some ⟨b, 0, none⟩) n c :: sgv (some ⟨b, 0, none⟩) n c vs L :: pool) w_2_7_10_5 from hv_2_7_10_5)
                    clear hr_2_7_10_5 hv_2_7_10_5
                    refine step_app_run rfl (.tmp 120) (.tmp 122) 22 rfl HR_2_7_10_5.out rfl rfl ?_
                    refine hK.out _ _ (List.forall_mem_cons.2 ⟨⟨(V_2_7_10_5.out.box_at (i := 6) (j := 0) rfl rfl).1, (V_2_7_10_5.out.box_at (i := 6) (j := 0) rfl rfl).2.2⟩, List.forall_mem_cons.2 ⟨⟨(V_2_7_10_5.out.box_at (i := 6) (j := 1) rfl rfl).1, (V_2_7_10_5.out.box_at (i := 6) (j := 1) rfl rfl).2.2⟩, List.forall_mem_cons.2 ⟨⟨(V_2_7_10_5.out.box_at (i := 3) (j := 0) rfl rfl).1, (V_2_7_10_5.out.box_at (i := 3) (j := 0) rfl rfl).2.2⟩, List.forall_mem_cons.2 ⟨⟨(V_2_7_10_5.out.box_at (i := 3) (j := 1) rfl rfl).1, (V_2_7_10_5.out.box_at (i := 3) (j := 1) rfl rfl).2.2⟩, List.forall_mem_cons.2 ⟨⟨(V_2_7_10_5.out.box_at (i := 3) (j := 2) rfl rfl).1, (V_2_7_10_5.out.box_at (i := 3) (j := 2) rfl rfl).2.2⟩, List.forall_mem_cons.2 ⟨⟨(V_2_7_10_5.out.box_at (i := 3) (j := 3) rfl rfl).1, (V_2_7_10_5.out.box_at (i := 3) (j := 3) rfl rfl).2.2⟩, fun _ h => by simp at h⟩⟩⟩⟩⟩⟩) (fun hHeld => ?_)
                    clear hK K
                    try simp only [Act.put, sA, sZ, sS]
                    refine wpAnyH_ready (rs := [8]) (by kernel_rfl) (by simp) ?_
                    refine AllReadyH.cons (List.getElem?_toArray.trans rfl) (fun K hK => ?_) AllReadyH.nil
                    obtain ⟨g5, c5, w_2_7_10_5_8, hr_2_7_10_5_8, hv_2_7_10_5_8, _⟩ := run_app_sg V_2_7_10_5.out (i := 2) rfl HVS.out 22 (b := g_2_7) v y (fun j u hu => (V_2_7_10_5.out.box_at (i := 1) rfl hu).1) (by omega)
                    have HR_2_7_10_5_8 := Lib.hid hr_2_7_10_5_8
                    have V_2_7_10_5_8 := Lib.hid (show Hp w (obox g_2_7_10 [] none 0 0 :: sgbox g_2_7 v y :: sgv (some ⟨g5, 0, none⟩) (n + 1) c5 (vs ++ [v]) (L ++ [y]) :: sgbox g8 v y :: obox g2 [] none 0 0 :: dbox g1 (q : Int) AD nd cd AM mm cm :: obox g3 nm (some ⟨b, 0, none⟩) n c :: sgv (some ⟨b, 0, none⟩) n c vs L :: pool) w_2_7_10_5_8 from hv_2_7_10_5_8)
                    clear hr_2_7_10_5_8 hv_2_7_10_5_8
                    refine step_app_run rfl (.tmp 123) (.tmp 125) 22 rfl HR_2_7_10_5_8.out rfl rfl ?_
                    refine hK.out _ _ (List.forall_mem_cons.2 ⟨⟨(V_2_7_10_5_8.out.box_at (i := 6) (j := 0) rfl rfl).1, (V_2_7_10_5_8.out.box_at (i := 6) (j := 0) rfl rfl).2.2⟩, List.forall_mem_cons.2 ⟨⟨(V_2_7_10_5_8.out.box_at (i := 6) (j := 1) rfl rfl).1, (V_2_7_10_5_8.out.box_at (i := 6) (j := 1) rfl rfl).2.2⟩, List.forall_mem_cons.2 ⟨⟨(V_2_7_10_5_8.out.box_at (i := 3) (j := 0) rfl rfl).1, (V_2_7_10_5_8.out.box_at (i := 3) (j := 0) rfl rfl).2.2⟩, List.forall_mem_cons.2 ⟨⟨(V_2_7_10_5_8.out.box_at (i := 3) (j := 1) rfl rfl).1, (V_2_7_10_5_8.out.box_at (i := 3) (j := 1) rfl rfl).2.2⟩, List.forall_mem_cons.2 ⟨⟨(V_2_7_10_5_8.out.box_at (i := 3) (j := 2) rfl rfl).1, (V_2_7_10_5_8.out.box_at (i := 3) (j := 2) rfl rfl).2.2⟩, List.forall_mem_cons.2 ⟨⟨(V_2_7_10_5_8.out.box_at (i := 3) (j := 3) rfl rfl).1, (V_2_7_10_5_8.out.box_at (i := 3) (j := 3) rfl rfl).2.2⟩, fun _ h => by simp at h⟩⟩⟩⟩⟩⟩) (fun hHeld => ?_)
                    clear hK K
                    try simp only [Act.put, sA, sZ, sS]
                    refine tk 9 ?_ rfl ?_ ?_; rotate_left; focus (intro w hSw; clear hSw; go_simp; try (with_reducible rfl))
                    try simp only [Act.put, sA, sZ, sS]
                    refine wpAnyH_ready (rs := [11]) (by kernel_rfl) (by simp) ?_
                    refine AllReadyH.cons (List.getElem?_toArray.trans rfl) (fun K hK => ?_) AllReadyH.nil
                    obtain ⟨u01, u02, u03⟩ := (V_2_7_10_5_8.out.box_at (i := 0) (j := 0) rfl rfl)
                    obtain ⟨u11, u12, u13⟩ := (V_2_7_10_5_8.out.box_at (i := 0) (j := 1) rfl rfl)
                    have VE := Lib.hid (show Hp w (obox g_2_7_10 nm (some ⟨g5, 0, none⟩) (n + 1) c5 :: sgbox g_2_7 v y :: sgv (some ⟨g5, 0, none⟩) (n + 1) c5 (vs ++ [v]) (L ++ [y]) :: sgbox g8 v y :: obox g2 [] none 0 0 :: dbox g1 (q : Int) AD nd cd AM mm cm :: obox g3 nm (some ⟨b, 0, none⟩) n c :: sgv (some ⟨b, 0, none⟩) n c vs L :: pool) _ from Hp.box_set (T := 24) (g := g_2_7_10) (cs := [.string (bs nm), .slice none 0 0]) (Hp.box_set (T := 24) (g := g_2_7_10) (cs := oC [] none 0 0) V_2_7_10_5_8.out (i := 0) rfl 0 (.string (bs nm))) (i := 0) rfl 1 (.slice (some ⟨g5, 0, none⟩) (n + 1) c5))
                    go_simp
                    refine hK.out _ _ (List.forall_mem_cons.2 ⟨⟨(VE.out.box_at (i := 6) (j := 0) rfl rfl).1, (VE.out.box_at (i := 6) (j := 0) rfl rfl).2.2⟩, List.forall_mem_cons.2 ⟨⟨(VE.out.box_at (i := 6) (j := 1) rfl rfl).1, (VE.out.box_at (i := 6) (j := 1) rfl rfl).2.2⟩, List.forall_mem_cons.2 ⟨⟨(VE.out.box_at (i := 3) (j := 0) rfl rfl).1, (VE.out.box_at (i := 3) (j := 0) rfl rfl).2.2⟩, List.forall_mem_cons.2 ⟨⟨(VE.out.box_at (i := 3) (j := 1) rfl rfl).1, (VE.out.box_at (i := 3) (j := 1) rfl rfl).2.2⟩, List.forall_mem_cons.2 ⟨⟨(VE.out.box_at (i := 3) (j := 2) rfl rfl).1, (VE.out.box_at (i := 3) (j := 2) rfl rfl).2.2⟩, List.forall_mem_cons.2 ⟨⟨(VE.out.box_at (i := 3) (j := 3) rfl rfl).1, (VE.out.box_at (i := 3) (j := 3) rfl rfl).2.2⟩, fun _ h => by simp at h⟩⟩⟩⟩⟩⟩) (fun hHeld => ?_)
                    clear hK K
                    try simp only [Act.put, sA, sZ, sS]
                    refine wpAnyH_done (by kernel_rfl) ?_ _
                    clear hHeld
                    have VF := Lib.hid (show Hp w (obox g2 [] none 0 0 :: dbox g1 (q : Int) AD nd cd AM mm cm :: obox g_2_7_10 nm (some ⟨g5, 0, none⟩) (n + 1) c5 :: obox g3 nm (some ⟨b, 0, none⟩) n c :: sgv (some ⟨g5, 0, none⟩) (n + 1) c5 (vs ++ [v]) (L ++ [y]) :: sgbox g8 v y :: sgv (some ⟨b, 0, none⟩) n c vs L :: sgbox g_2_7 v y :: pool) _ from (Hp.front (l := [_, _, _, _, _, _, _]) ((Hp.front (l := [_, _, _, _, _, _, _]) ((Hp.front (l := [_, _, _, _, _]) ((Hp.front (l := [_, _, _, _, _, _, _]) ((Hp.front (l := [_, _, _, _]) ((Hp.front (l := [_, _, _, _]) ((Hp.front (l := [_, _, _, _, _, _, _]) ((Hp.front (l := [_]) (VE.out)))))))))))))))))
                    go_wp2_with fail
                    go_meet
                    exact ⟨_, _, _, _, rfl, VF.out⟩
                  exact AllReadyH.nil
                refine AllReadyH.cons (List.getElem?_toArray.trans rfl) (fun K hK => ?_) ?_
                · obtain ⟨w_2_10, hw_2_10⟩ : ∃ z, z = w_2.alloc (.cells #[.string ⟨#[]⟩, .slice none 0 0] 24) := ⟨_, rfl⟩
                  obtain ⟨g_2_10, hg_2_10⟩ : ∃ z, z = w_2.heap.size := ⟨_, rfl⟩
                  have V_2_10 := Lib.hid (show Hp w (obox g_2_10 [] none 0 0 :: sgv (some ⟨g_2, 0, none⟩) 0 0 [] [] :: sgbox g8 v y :: obox g2 [] none 0 0 :: dbox g1 (q : Int) AD nd cd AM mm cm :: obox g3 nm (some ⟨b, 0, none⟩) n c :: sgv (some ⟨b, 0, none⟩) n c vs L :: pool) w_2_10 by rw [hw_2_10, hg_2_10]; exact V_2.out.obox_new [] none 0 0)
                  have B_2_10 := Lib.hid (show Below w_2.heap.size w_2 w_2_10 by rw [hw_2_10]; exact bnew _ _)
                  have HW_2_10 := Lib.hid hw_2_10
                  have HG_2_10 := Lib.hid hg_2_10
                  clear hw_2_10 hg_2_10
                  go_simp
                  try rw [← HW_2_10.out]
                  try rw [← HG_2_10.out]
                  refine hK.out _ _ (hHeld.go B_2_10.out) (fun hHeld => ?_)
                  clear hK K
                  try simp only [Act.put, sA, sZ, sS]
                  refine wpAnyH_ready (rs := [5, 7]) (by kernel_rfl) (by simp) ?_
                  refine AllReadyH.cons (List.getElem?_toArray.trans rfl) (fun K hK => ?_) ?_
                  · obtain ⟨A2, c2, w_2_10_5, hr_2_10_5, hv_2_10_5, _⟩ := run_cat_sgs V_2_10.out (i := 1) rfl rfl 22 (B := some ⟨b, 0, none⟩) (m := n) (d := c) vs L HVS.out HL.out (V_2_10.out.cells (i := 6) (it := sgv (some ⟨b, 0, none⟩) n c vs L) rfl rfl) (by omega) (by omega)
                    rw [Nat.zero_add] at hr_2_10_5 hv_2_10_5
                    have HR_2_10_5 := Lib.hid hr_2_10_5
                    have V_2_10_5 := Lib.hid (show Hp w (obox g_2_10 [] none 0 0 :: sgv A2 n c2 vs L :: sgbox g8 v y :: obox g2 [] none 0 0 :: dbox g1 (q : Int) AD nd cd AM mm cm :: obox g3 nm (some ⟨b, 0, none⟩) n c :: sgv (some ⟨b, 0, none⟩) n c vs L :: pool) w_2_10_5 from hv_2_10_5)
                    clear hr_2_10_5 hv_2_10_5
                    refine step_app_run rfl (.tmp 120) (.tmp 122) 22 rfl HR_2_10_5.out rfl rfl ?_
                    refine hK.out _ _ (List.forall_mem_cons.2 ⟨⟨(V_2_10_5.out.box_at (i := 5) (j := 0) rfl rfl).1, (V_2_10_5.out.box_at (i := 5) (j := 0) rfl rfl).2.2⟩, List.forall_mem_cons.2 ⟨⟨(V_2_10_5.out.box_at (i := 5) (j := 1) rfl rfl).1, (V_2_10_5.out.box_at (i := 5) (j := 1) rfl rfl).2.2⟩, List.forall_mem_cons.2 ⟨⟨(V_2_10_5.out.box_at (i := 2) (j := 0) rfl rfl).1, (V_2_10_5.out.box_at (i := 2) (j := 0) rfl rfl).2.2⟩, List.forall_mem_cons.2 ⟨⟨(V_2_10_5.out.box_at (i := 2) (j := 1) rfl rfl).1, (V_2_10_5.out.box_at (i := 2) (j := 1) rfl rfl).2.2⟩, List.forall_mem_cons.2 ⟨⟨(V_2_10_5.out.box_at (i := 2) (j := 2) rfl rfl).1, (V_2_10_5.out.box_at (i := 2) (j := 2) rfl rfl).2.2⟩, List.forall_mem_cons.2 ⟨⟨(V_2_10_5.out.box_at (i := 2) (j := 3) rfl rfl).1, (V_2_10_5.out.box_at (i := 2) (j := 3) rfl rfl).2.2⟩, fun _ h => by simp at h⟩⟩⟩⟩⟩⟩) (fun hHeld => ?_)
                    clear hK K
                    try simp only [Act.put, sA, sZ, sS]
                    refine wpAnyH_ready (rs := [7]) (by kernel_rfl) (by simp) ?_
                    refine AllReadyH.cons (List.getElem?_toArray.trans rfl) (fun K hK => ?_) AllReadyH.nil
                    obtain ⟨w_2_10_5_7, hw_2_10_5_7⟩ : ∃ z, z = w_2_10_5.alloc (.cells #[.string (bs y.t), .slice v.1 y.s.length v.2, .int .i64 y.c, .int .i64 y.w] 58) := ⟨_, rfl⟩
                    obtain ⟨g_2_10_5_7, hg_2_10_5_7⟩ : ∃ z, z = w_2_10_5.heap.size := ⟨_, rfl⟩
                    have V_2_10_5_7 := Lib.hid (show Hp w (sgbox g_2_10_5_7 v y :: obox g_2_10 [] none 0 0 :: sgv A2 n c2 vs L :: sgbox g8 v y :: obox g2 [] none 0 0 :: dbox g1 (q : Int) AD nd cd AM mm cm :: obox g3 nm (some ⟨b, 0, none⟩) n c :: sgv (some ⟨b, 0, none⟩) n c vs L :: pool) w_2_10_5_7 by rw [hw_2_10_5_7, hg_2_10_5_7]; exact V_2_10_5.out.sgbox_new v.1 v.2 y)
                    have B_2_10_5_7 := Lib.hid (show Below w_2_10_5.heap.size w_2_10_5 w_2_10_5_7 by rw [hw_2_10_5_7]; exact bnew _ _)
                    have HW_2_10_5_7 := Lib.hid hw_2_10_5_7
                    have HG_2_10_5_7 := Lib.hid hg_2_10_5_7
                    clear hw_2_10_5_7 hg_2_10_5_7
                    go_simp
                    try rw [← HW_2_10_5_7.out]
                    try rw [← HG_2_10_5_7.out]
                    refine hK.out _ _ (hHeld.go B_2_10_5_7.out) (fun hHeld => ?_)
                    clear hK K
                    try simp only [Act.put, sA, sZ, sS]
                    refine wpAnyH_ready (rs := [8]) (by kernel_rfl) (by simp) ?_
                    refine AllReadyH.cons (List.getElem?_toArray.trans rfl) (fun K hK => ?_) AllReadyH.nil
                    obtain ⟨g5, c5, w_2_10_5_7_8, hr_2_10_5_7_8, hv_2_10_5_7_8, _⟩ := run_app_sg V_2_10_5_7.out (i := 2) rfl HVS.out 22 (b := g_2_10_5_7) v y (fun j u hu => (V_2_10_5_7.out.box_at (i := 0) rfl hu).1) (by omega)
                    have HR_2_10_5_7_8 := Lib.hid hr_2_10_5_7_8
                    have V_2_10_5_7_8 := Lib.hid (show Hp w (sgbox g_2_10_5_7 v y :: obox g_2_10 [] none 0 0 :: sgv (some ⟨g5, 0, none⟩) (n + 1) c5 (vs ++ [v]) (L ++ [y]) :: sgbox g8 v y :: obox g2 [] none 0 0 :: dbox g1 (q : Int) AD nd cd AM mm cm :: obox g3 nm (some ⟨b, 0, none⟩) n c :: sgv (some ⟨b, 0, none⟩) n c vs L :: pool) w_2_10_5_7_8 from hv_2_10_5_7_8)
                    clear hr_2_10_5_7_8 hv_2_10_5_7_8
                    refine step_app_run rfl (.tmp 123) (.tmp 125) 22 rfl HR_2_10_5_7_8.out rfl rfl ?_
                    refine hK.out _ _ (List.forall_mem_cons.2 ⟨⟨(V_2_10_5_7_8.out.box_at (i := 6) (j := 0) rfl rfl).1, (V_2_10_5_7_8.out.box_at (i := 6) (j := 0) rfl rfl).2.2⟩, List.forall_mem_cons.2 ⟨⟨(V_2_10_5_7_8.out.box_at (i := 6) (j := 1) rfl rfl).1, (V_2_10_5_7_8.out.box_at (i := 6) (j := 1) rfl rfl).2.2⟩, List.forall_mem_cons.2 ⟨⟨(V_2_10_5_7_8.out.box_at (i := 3) (j := 0) rfl rfl).1, (V_2_10_5_7_8.out.box_at (i := 3) (j := 0) rfl rfl).2.2⟩, List.forall_mem_cons.2 ⟨⟨(V_2_10_5_7_8.out.box_at (i := 3) (j := 1) rfl rfl).1, (V_2_10_5_7_8.out.box_at (i := 3) (j := 1) rfl rfl).2.2⟩, List.forall_mem_cons.2 ⟨⟨(V_2_10_5_7_8.out.box_at (i := 3) (j := 2) rfl rfl).1, (V_2_10_5_7_8.out.box_at (i := 3) (j := 2) rfl rfl).2.2⟩, List.forall_mem_cons.2 ⟨⟨(V_2_10_5_7_8.out.box_at (i := 3) (j := 3) rfl rfl).1, (V_2_10_5_7_8.out.box_at (i := 3) (j := 3) rfl rfl).2.2⟩, fun _ h => by simp at h⟩⟩⟩⟩⟩⟩) (fun hHeld => ?_)
                    clear hK K
                    try simp only [Act.put, sA, sZ, sS]
                    refine tk 9 ?_ rfl ?_ ?_; rotate_left; focus (intro w hSw; clear hSw; go_simp; try (with_reducible rfl))
                    try simp only [Act.put, sA, sZ, sS]
                    refine wpAnyH_ready (rs := [11]) (by kernel_rfl) (by simp) ?_
                    refine AllReadyH.cons (List.getElem?_toArray.trans rfl) (fun K hK => ?_) AllReadyH.nil
                    obtain ⟨u01, u02, u03⟩ := (V_2_10_5_7_8.out.box_at (i := 1) (j := 0) rfl rfl)
                    obtain ⟨u11, u12, u13⟩ := (V_2_10_5_7_8.out.box_at (i := 1) (j := 1) rfl rfl)
                    have VE := Lib.hid (show Hp w (sgbox g_2_10_5_7 v y :: obox g_2_10 nm (some ⟨g5, 0, none⟩) (n + 1) c5 :: sgv (some ⟨g5, 0, none⟩) (n + 1) c5 (vs ++ [v]) (L ++ [y]) :: sgbox g8 v y :: obox g2 [] none 0 0 :: dbox g1 (q : Int) AD nd cd AM mm cm :: obox g3 nm (some ⟨b, 0, none⟩) n c :: sgv (some ⟨b, 0, none⟩) n c vs L :: pool) _ from Hp.box_set (T := 24) (g := g_2_10) (cs := [.string (bs nm), .slice none 0 0]) (Hp.box_set (T := 24) (g := g_2_10) (cs := oC [] none 0 0) V_2_10_5_7_8.out (i := 1) rfl 0 (.string (bs nm))) (i := 1) rfl 1 (.slice (some ⟨g5, 0, none⟩) (n + 1) c5))
                    go_simp
                    refine hK.out _ _ (List.forall_mem_cons.2 ⟨⟨(VE.out.box_at (i := 6) (j := 0) rfl rfl).1, (VE.out.box_at (i := 6) (j := 0) rfl rfl).2.2⟩, List.forall_mem_cons.2 ⟨⟨(VE.out.box_at (i := 6) (j := 1) rfl rfl).1, (VE.out.box_at (i := 6) (j := 1) rfl rfl).2.2⟩, List.forall_mem_cons.2 ⟨⟨(VE.out.box_at (i := 3) (j := 0) rfl rfl).1, (VE.out.box_at (i := 3) (j := 0) rfl rfl).2.2⟩, List.forall_mem_cons.2 ⟨⟨(VE.out.box_at (i := 3) (j := 1) rfl rfl).1, (VE.out.box_at (i := 3) (j := 1) rfl rfl).2.2⟩, List.forall_mem_cons.2 ⟨⟨(VE.out.box_at (i := 3) (j := 2) rfl rfl).1, (VE.out.box_at (i := 3) (j := 2) rfl rfl).2.2⟩, List.forall_mem_cons.2 ⟨⟨(VE.out.box_at (i := 3) (j := 3) rfl rfl).1, (VE.out.box_at (i := 3) (j := 3) rfl rfl).2.2⟩, fun _ h => by simp at h⟩⟩⟩⟩⟩⟩) (fun hHeld => ?_)
                    clear hK K
                    try simp only [Act.put, sA, sZ, sS]
                    refine wpAnyH_done (by kernel_rfl) ?_ _
                    clear hHeld
                    have VF := Lib.hid (show Hp w (obox g2 [] none 0 0 :: dbox g1 (q : Int) AD nd cd AM mm cm :: obox g_2_10 nm (some ⟨g5, 0, none⟩) (n + 1) c5 :: obox g3 nm (some ⟨b, 0, none⟩) n c :: sgv (some ⟨g5, 0, none⟩) (n + 1) c5 (vs ++ [v]) (L ++ [y]) :: sgbox g8 v y :: sgv (some ⟨b, 0, none⟩) n c vs L :: sgbox g_2_10_5_7 v y :: pool) _ from (Hp.front (l := [_, _, _, _, _, _, _]) ((Hp.front (l := [_, _, _, _, _, _, _]) ((Hp.front (l := [_, _, _, _, _]) ((Hp.front (l := [_, _, _, _, _, _, _]) ((Hp.front (l := [_, _, _, _]) ((Hp.front (l := [_, _, _, _]) ((Hp.front (l := [_, _, _, _, _, _, _]) (VE.out)))))))))))))))
                    go_wp2_with fail
                    go_meet
                    exact ⟨_, _, _, _, rfl, VF.out⟩
                  refine AllReadyH.cons (List.getElem?_toArray.trans rfl) (fun K hK => ?_) ?_
                  · obtain ⟨w_2_10_7, hw_2_10_7⟩ : ∃ z, z = w_2_10.alloc (.cells #[.string (bs y.t), .slice v.1 y.s.length v.2, .int .i64 y.c, .int .i64 y.w] 58) := ⟨_, rfl⟩
                    obtain ⟨g_2_10_7, hg_2_10_7⟩ : ∃ z, z = w_2_10.heap.size := ⟨_, rfl⟩
                    have V_2_10_7 := Lib.hid (show Hp w (sgbox g_2_10_7 v y :: obox g_2_10 [] none 0 0 :: sgv (some ⟨g_2, 0, none⟩) 0 0 [] [] :: sgbox g8 v y :: obox g2 [] none 0 0 :: dbox g1 (q : Int) AD nd cd AM mm cm :: obox g3 nm (some ⟨b, 0, none⟩) n c :: sgv (some ⟨b, 0, none⟩) n c vs L :: pool) w_2_10_7 by rw [hw_2_10_7, hg_2_10_7]; exact V_2_10.out.sgbox_new v.1 v.2 y)
                    have B_2_10_7 := Lib.hid (show Below w_2_10.heap.size w_2_10 w_2_10_7 by rw [hw_2_10_7]; exact bnew _ _)
                    have HW_2_10_7 := Lib.hid hw_2_10_7
                    have HG_2_10_7 := Lib.hid hg_2_10_7
                    clear hw_2_10_7 hg_2_10_7
                    go_simp
                    try rw [← HW_2_10_7.out]
                    try rw [← HG_2_10_7.out]
                    refine hK.out _ _ (hHeld.go B_2_10_7.out) (fun hHeld => ?_)
                    clear hK K
                    try simp only [Act.put, sA, sZ, sS]
                    refine wpAnyH_ready (rs := [5]) (by kernel_rfl) (by simp) ?_
                    refine AllReadyH.cons (List.getElem?_toArray.trans rfl) (fun K hK => ?_) AllReadyH.nil
                    obtain ⟨A2, c2, w_2_10_7_5, hr_2_10_7_5, hv_2_10_7_5, _⟩ := run_cat_sgs V_2_10_7.out (i := 2) rfl rfl 22 (B := some ⟨b, 0, none⟩) (m := n) (d := c) vs L HVS.out HL.out (V_2_10_7.out.cells (i := 7) (it := sgv (some ⟨b, 0, none⟩) n c vs L) rfl rfl) (by omega) (by omega)
                    rw [Nat.zero_add] at hr_2_10_7_5 hv_2_10_7_5
                    have HR_2_10_7_5 := Lib.hid hr_2_10_7_5
                    have V_2_10_7_5 := Lib.hid (show Hp w (sgbox g_2_10_7 v y :: obox g_2_10 [] none 0 0 :: sgv A2 n c2 vs L :: sgbox g8 v y :: obox g2 [] none 0 0 :: dbox g1 (q : Int) AD nd cd AM mm cm :: obox g3 nm (some ⟨b, 0, none⟩) n c :: sgv (some ⟨b, 0, none⟩) n c vs L :: pool) w_2_10_7_5 from hv_2_10_7_5)
                    clear hr_2_10_7_5 hv_2_10_7_5
                    refine step_app_run rfl (.tmp 120) (.tmp 122) 22 rfl HR_2_10_7_5.out rfl rfl ?_
                    refine hK.out _ _ (List.forall_mem_cons.2 ⟨⟨(V_2_10_7_5.out.box_at (i := 6) (j := 0) rfl rfl).1, (V_2_10_7_5.out.box_at (i := 6) (j := 0) rfl rfl).2.2⟩, List.forall_mem_cons.2 ⟨⟨(V_2_10_7_5.out.box_at (i := 6) (j := 1) rfl rfl).1, (V_2_10_7_5.out.box_at (i := 6) (j := 1) rfl rfl).2.2⟩, List.forall_mem_cons.2 ⟨⟨(V_2_10_7_5.out.box_at (i := 3) (j := 0) rfl rfl).1, (V_2_10_7_5.out.box_at (i := 3) (j := 0) rfl rfl).2.2⟩, List.forall_mem_cons.2 ⟨⟨(V_2_10_7_5.out.box_at (i := 3) (j := 1) rfl rfl).1, (V_2_10_7_5.out.box_at (i := 3) (j := 1) rfl rfl).2.2⟩, List.forall_mem_cons.2 ⟨⟨(V_2_10_7_5.out.box_at (i := 3) (j := 2) rfl rfl).1, (V_2_10_7_5.out.box_at (i := 3) (j := 2) rfl rfl).2.2⟩, List.forall_mem_cons.2 ⟨⟨(V_2_10_7_5.out.box_at (i := 3) (j := 3) rfl rfl).1, (V_2_10_7_5.out.box_at (i := 3) (j := 3) rfl rfl).2.2⟩, fun _ h => by simp at h⟩⟩⟩⟩⟩⟩) (fun hHeld => ?_)
                    clear hK K
                    try simp only [Act.put, sA, sZ, sS]
                    refine wpAnyH_ready (rs := [8]) (by kernel_rfl) (by simp) ?_
                    refine AllReadyH.cons (List.getElem?_toArray.trans rfl) (fun K hK => ?_) AllReadyH.nil
                    obtain ⟨g5, c5, w_2_10_7_5_8, hr_2_10_7_5_8, hv_2_10_7_5_8, _⟩ := run_app_sg V_2_10_7_5.out (i := 2) rfl HVS.out 22 (b := g_2_10_7) v y (fun j u hu => (V_2_10_7_5.out.box_at (i := 0) rfl hu).1) (by omega)
                    have HR_2_10_7_5_8 := Lib.hid hr_2_10_7_5_8
                    have V_2_10_7_5_8 := Lib.hid (show Hp w (sgbox g_2_10_7 v y :: obox g_2_10 [] none 0 0 :: sgv (some ⟨g5, 0, none⟩) (n + 1) c5 (vs ++ [v]) (L ++ [y]) :: sgbox g8 v y :: obox g2 [] none 0 0 :: dbox g1 (q : Int) AD nd cd AM mm cm :: obox g3 nm (some ⟨b, 0, none⟩) n c :: sgv (some ⟨b, 0, none⟩) n c vs L :: pool) w_2_10_7_5_8 from hv_2_10_7_5_8)
                    clear hr_2_10_7_5_8 hv_2_10_7_5_8
                    refine step_app_run rfl (.tmp 123) (.tmp 125) 22 rfl HR_2_10_7_5_8.out rfl rfl ?_
                    refine hK.out _ _ (List.forall_mem_cons.2 ⟨⟨(V_2_10_7_5_8.out.box_at (i := 6) (j := 0) rfl rfl).1, (V_2_10_7_5_8.out.box_at (i := 6) (j := 0) rfl rfl).2.2⟩, List.forall_mem_cons.2 ⟨⟨(V_2_10_7_5_8.out.box_at (i := 6) (j := 1) rfl rfl).1, (V_2_10_7_5_8.out.box_at (i := 6) (j := 1) rfl rfl).2.2⟩, List.forall_mem_cons.2 ⟨⟨(V_2_10_7_5_8.out.box_at (i := 3) (j := 0) rfl rfl).1, (V_2_10_7_5_8.out.box_at (i := 3) (j := 0) rfl rfl).2.2⟩, List.forall_mem_cons.2 ⟨⟨(V_2_10_7_5_8.out.box_at (i := 3) (j := 1) rfl rfl).1, (V_2_10_7_5_8.out.box_at (i := 3) (j := 1) rfl rfl).2.2⟩, List.forall_mem_cons.2 ⟨⟨(V_2_10_7_5_8.out.box_at (i := 3) (j := 2) rfl rfl).1, (V_2_10_7_5_8.out.box_at (i := 3) (j := 2) rfl rfl).2.2⟩, List.forall_mem_cons.2 ⟨⟨(V_2_10_7_5_8.out.box_at (i := 3) (j := 3) rfl rfl).1, (V_2_10_7_5_8.out.box_at (i := 3) (j := 3) rfl rfl).2.2⟩, fun _ h => by simp at h⟩⟩⟩⟩⟩⟩) (fun hHeld => ?_)
                    clear hK K
                    try simp only [Act.put, sA, sZ, sS]
                    refine tk 9 ?_ rfl ?_ ?_; rotate_left; focus (intro w hSw; clear hSw; go_simp; try (with_reducible rfl))
                    try simp only [Act.put, sA, sZ, sS]
                    refine wpAnyH_ready (rs := [11]) (by kernel_rfl) (by simp) ?_
                    refine AllReadyH.cons (List.getElem?_toArray.trans rfl) (fun K hK => ?_) AllReadyH.nil
                    obtain ⟨u01, u02, u03⟩ := (V_2_10_7_5_8.out.box_at (i := 1) (j := 0) rfl rfl)
                    obtain ⟨u11, u12, u13⟩ := (V_2_10_7_5_8.out.box_at (i := 1) (j := 1) rfl rfl)
                    have VE := Lib.hid (show Hp w (sgbox g_2_10_7 v y :: obox g_2_10 nm (some ⟨g5, 0, none⟩) (n + 1) c5 :: sgv (some ⟨g5, 0, none⟩) (n + 1) c5 (vs ++ [v]) (L ++ [y]) :: sgbox g8 v y :: obox g2 [] none 0 0 :: dbox g1 (q : Int) AD nd cd AM mm cm :: obox g3 nm (some ⟨b, 0, none⟩) n c :: sgv (some ⟨b, 0, none⟩) n c vs L :: pool) _ from Hp.box_set (T := 24) (g := g_2_10) (cs := [.string (bs nm), .slice none 0 0]) (Hp.box_set (T := 24) (g := g_2_10) (cs := oC [] none 0 0) V_2_10_7_5_8.out (i := 1) rfl 0 (.string (bs nm))) (i := 1) rfl 1 (.slice (some ⟨g5, 0, none⟩) (n + 1) c5))
                    go_simp
                    refine hK.out _ _ (List.forall_mem_cons.2 ⟨⟨(VE.out.box_at (i := 6) (j := 0) rfl rfl).1, (VE.out.box_at (i := 6) (j := 0) rfl rfl).2.2⟩, List.forall_mem_cons.2 ⟨⟨(VE.out.box_at (i := 6) (j := 1) rfl rfl).1, (VE.out.box_at (i := 6) (j := 1) rfl rfl).2.2⟩, List.forall_mem_cons.2 ⟨⟨(VE.out.box_at (i := 3) (j := 0) rfl rfl).1, (VE.out.box_at (i := 3) (j := 0) rfl rfl).2.2⟩, List.forall_mem_cons.2 ⟨⟨(VE.out.box_at (i := 3) (j := 1) rfl rfl).1, (VE.out.box_at (i := 3) (j := 1) rfl rfl).2.2⟩, List.forall_mem_cons.2 ⟨⟨(VE.out.box_at (i := 3) (j := 2) rfl rfl).1, (VE.out.box_at (i := 3) (j := 2) rfl rfl).2.2⟩, List.forall_mem_cons.2 ⟨⟨(VE.out.box_at (i := 3) (j := 3) rfl rfl).1, (VE.out.box_at (i := 3) (j := 3) rfl rfl).2.2⟩, fun _ h => by simp at h⟩⟩⟩⟩⟩⟩) (fun hHeld => ?_)
                    clear hK K
                    try simp only [Act.put, sA, sZ, sS]
                    refine wpAnyH_done (by kernel_rfl) ?_ _
                    clear hHeld
                    have VF := Lib.hid (show Hp w (obox g2 [] none 0 0 :: dbox g1 (q : Int) AD nd cd AM mm cm :: obox g_2_10 nm (some ⟨g5, 0, none⟩) (n + 1) c5 :: obox g3 nm (some ⟨b, 0, none⟩) n c :: sgv (some ⟨g5, 0, none⟩) (n + 1) c5 (vs ++ [v]) (L ++ [y]) :: sgbox g8 v y :: sgv (some ⟨b, 0, none⟩) n c vs L :: sgbox g_2_10_7 v y :: pool) _ from (Hp.front (l := [_, _, _, _, _, _, _]) ((Hp.front (l := [_, _, _, _, _, _, _]) ((Hp.front (l := [_, _, _, _, _]) ((Hp.front (l := [_, _, _, _, _, _, _]) ((Hp.front (l := [_, _, _, _]) ((Hp.front (l := [_, _, _, _]) ((Hp.front (l := [_, _, _, _, _, _, _]) (VE.out)))))))))))))))
                    go_wp2_with fail
                    go_meet
                    exact ⟨_, _, _, _, rfl, VF.out⟩
                  exact AllReadyH.nil
                exact AllReadyH.nil
              refine AllReadyH.cons (List.getElem?_toArray.trans rfl) (fun K hK => ?_) ?_
              · obtain ⟨w_7, hw_7⟩ : ∃ z, z = wf.alloc (.cells #[.string (bs y.t), .slice v.1 y.s.length v.2, .int .i64 y.c, .int .i64 y.w] 58) := ⟨_, rfl⟩
                obtain ⟨g_7, hg_7⟩ : ∃ z, z = wf.heap.size := ⟨_, rfl⟩
                have V_7 := Lib.hid (show Hp w (sgbox g_7 v y :: sgbox g8 v y :: obox g2 [] none 0 0 :: dbox g1 (q : Int) AD nd cd AM mm cm :: obox g3 nm (some ⟨b, 0, none⟩) n c :: sgv (some ⟨b, 0, none⟩) n c vs L :: pool) w_7 by rw [hw_7, hg_7]; exact Vwf.out.sgbox_new v.1 v.2 y)
                have B_7 := Lib.hid (show Below wf.heap.size wf w_7 by rw [hw_7]; exact bnew _ _)
                have HW_7 := Lib.hid hw_7
                have HG_7 := Lib.hid hg_7
                clear hw_7 hg_7
                go_simp
                try rw [← HW_7.out]
                try rw [← HG_7.out]
                refine hK.out _ _ (hHeld.go B_7.out) (fun hHeld => ?_)
                clear hK K
                try simp only [Act.put, sA, sZ, sS]
                refine wpAnyH_ready (rs := [2, 10]) (by kernel_rfl) (by simp) ?_
                refine AllReadyH.cons (List.getElem?_toArray.trans rfl) (fun K hK => ?_) ?_
                · obtain ⟨w_7_2, hw_7_2⟩ : ∃ z, z = w_7.alloc (.cells #[] 58) := ⟨_, rfl⟩
                  obtain ⟨g_7_2, hg_7_2⟩ : ∃ z, z = w_7.heap.size := ⟨_, rfl⟩
                  have V_7_2 := Lib.hid (show Hp w (sgv (some ⟨g_7_2, 0, none⟩) 0 0 [] [] :: sgbox g_7 v y :: sgbox g8 v y :: obox g2 [] none 0 0 :: dbox g1 (q : Int) AD nd cd AM mm cm :: obox g3 nm (some ⟨b, 0, none⟩) n c :: sgv (some ⟨b, 0, none⟩) n c vs L :: pool) w_7_2 by rw [hw_7_2, hg_7_2]; exact V_7.out.lit 58 4 0 [] rfl (by decide))
                  have B_7_2 := Lib.hid (show Below w_7.heap.size w_7 w_7_2 by rw [hw_7_2]; exact bnew _ _)
                  have HW_7_2 := Lib.hid hw_7_2
                  have HG_7_2 := Lib.hid hg_7_2
                  clear hw_7_2 hg_7_2
                  go_simp
                  try rw [← HW_7_2.out]
                  try rw [← HG_7_2.out]
                  refine hK.out _ _ (hHeld.go B_7_2.out) (fun hHeld => ?_)
                  clear hK K
                  try simp only [Act.put, sA, sZ, sS]
                  refine wpAnyH_ready (rs := [5, 10]) (by kernel_rfl) (by simp) ?_
                  refine AllReadyH.cons (List.getElem?_toArray.trans rfl) (fun K hK => ?_) ?_
                  · obtain ⟨A2, c2, w_7_2_5, hr_7_2_5, hv_7_2_5, _⟩ := run_cat_sgs V_7_2.out (i := 0) rfl rfl 22 (B := some ⟨b, 0, none⟩) (m := n) (d := c) vs L HVS.out HL.out (V_7_2.out.cells (i := 6) (it := sgv (some ⟨b, 0, none⟩) n c vs L) rfl rfl) (by omega) (by omega)
                    rw [Nat.zero_add] at hr_7_2_5 hv_7_2_5
                    have HR_7_2_5 := Lib.hid hr_7_2_5
                    have V_7_2_5 := Lib.hid (show Hp w (sgv A2 n c2 vs L :: sgbox g_7 v y :: sgbox g8 v y :: obox g2 [] none 0 0 :: dbox g1 (q : Int) AD nd cd AM mm cm :: obox g3 nm (some ⟨b, 0, none⟩) n c :: sgv (some ⟨b, 0, none⟩) n c vs L :: pool) w_7_2_5 from hv_7_2_5)
                    clear hr_7_2_5 hv_7_2_5
                    refine step_app_run rfl (.tmp 120) (.tmp 122) 22 rfl HR_7_2_5.out rfl rfl ?_
                    refine hK.out _ _ (List.forall_mem_cons.2 ⟨⟨(V_7_2_5.out.box_at (i := 5) (j := 0) rfl rfl).1, (V_7_2_5.out.box_at (i := 5) (j := 0) rfl rfl).2.2⟩, List.forall_mem_cons.2 ⟨⟨(V_7_2_5.out.box_at (i := 5) (j := 1) rfl rfl).1, (V_7_2_5.out.box_at (i := 5) (j := 1) rfl rfl).2.2⟩, List.forall_mem_cons.2 ⟨⟨(V_7_2_5.out.box_at (i := 2) (j := 0) rfl rfl).1, (V_7_2_5.out.box_at (i := 2) (j := 0) rfl rfl).2.2⟩, List.forall_mem_cons.2 ⟨⟨(V_7_2_5.out.box_at (i := 2) (j := 1) rfl rfl).1, (V_7_2_5.out.box_at (i := 2) (j := 1) rfl rfl).2.2⟩, List.forall_mem_cons.2 ⟨⟨(V_7_2_5.out.box_at (i := 2) (j := 2) rfl rfl).1, (V_7_2_5.out.box_at (i := 2) (j := 2) rfl rfl).2.2⟩, List.forall_mem_cons.2 ⟨⟨(V_7_2_5.out.box_at (i := 2) (j := 3) rfl rfl).1, (V_7_2_5.out.box_at (i := 2) (j := 3) rfl rfl).2.2⟩, fun _ h => by simp at h⟩⟩⟩⟩⟩⟩) (fun hHeld => ?_)
                    clear hK K
                    try simp only [Act.put, sA, sZ, sS]
                    refine wpAnyH_ready (rs := [8, 10]) (by kernel_rfl) (by simp) ?_
                    refine AllReadyH.cons (List.getElem?_toArray.trans rfl) (fun K hK => ?_) ?_
                    · obtain ⟨g5, c5, w_7_2_5_8, hr_7_2_5_8, hv_7_2_5_8, _⟩ := run_app_sg V_7_2_5.out (i := 0) rfl HVS.out 22 (b := g_7) v y (fun j u hu => (V_7_2_5.out.box_at (i := 1) rfl hu).1) (by omega)
                      have HR_7_2_5_8 := Lib.hid hr_7_2_5_8
                      have V_7_2_5_8 := Lib.hid (show Hp w (sgv (some ⟨g5, 0, none⟩) (n + 1) c5 (vs ++ [v]) (L ++ [y]) :: sgbox g_7 v y :: sgbox g8 v y :: obox g2 [] none 0 0 :: dbox g1 (q : Int) AD nd cd AM mm cm :: obox g3 nm (some ⟨b, 0, none⟩) n c :: sgv (some ⟨b, 0, none⟩) n c vs L :: pool) w_7_2_5_8 from hv_7_2_5_8)
                      clear hr_7_2_5_8 hv_7_2_5_8
                      refine step_app_run rfl (.tmp 123) (.tmp 125) 22 rfl HR_7_2_5_8.out rfl rfl ?_
                      refine hK.out _ _ (List.forall_mem_cons.2 ⟨⟨(V_7_2_5_8.out.box_at (i := 5) (j := 0) rfl rfl).1, (V_7_2_5_8.out.box_at (i := 5) (j := 0) rfl rfl).2.2⟩, List.forall_mem_cons.2 ⟨⟨(V_7_2_5_8.out.box_at (i := 5) (j := 1) rfl rfl).1, (V_7_2_5_8.out.box_at (i := 5) (j := 1) rfl rfl).2.2⟩, List.forall_mem_cons.2 ⟨⟨(V_7_2_5_8.out.box_at (i := 2) (j := 0) rfl rfl).1, (V_7_2_5_8.out.box_at (i := 2) (j := 0) rfl rfl).2.2⟩, List.forall_mem_cons.2 ⟨⟨(V_7_2_5_8.out.box_at (i := 2) (j := 1) rfl rfl).1, (V_7_2_5_8.out.box_at (i := 2) (j := 1) rfl rfl).2.2⟩, List.forall_mem_cons.2 ⟨⟨(V_7_2_5_8.out.box_at (i := 2) (j := 2) rfl rfl).1, (V_7_2_5_8.out.box_at (i := 2) (j := 2) rfl rfl).2.2⟩, List.forall_mem_cons.2 ⟨⟨(V_7_2_5_8.out.box_at (i := 2) (j := 3) rfl rfl).1, (V_7_2_5_8.out.box_at (i := 2) (j := 3) rfl rfl).2.2⟩, fun _ h => by simp at h⟩⟩⟩⟩⟩⟩) (fun hHeld => ?_)
                      clear hK K
                      try simp only [Act.put, sA, sZ, sS]
                      refine tk 9 ?_ rfl ?_ ?_; rotate_left; focus (intro w hSw; clear hSw; go_simp; try (with_reducible rfl))
                      try simp only [Act.put, sA, sZ, sS]
                      refine wpAnyH_ready (rs := [10]) (by kernel_rfl) (by simp) ?_
                      refine AllReadyH.cons (List.getElem?_toArray.trans rfl) (fun K hK => ?_) AllReadyH.nil
                      obtain ⟨w_7_2_5_8_10, hw_7_2_5_8_10⟩ : ∃ z, z = w_7_2_5_8.alloc (.cells #[.string ⟨#[]⟩, .slice none 0 0] 24) := ⟨_, rfl⟩
                      obtain ⟨g_7_2_5_8_10, hg_7_2_5_8_10⟩ : ∃ z, z = w_7_2_5_8.heap.size := ⟨_, rfl⟩
                      have V_7_2_5_8_10 := Lib.hid (show Hp w (obox g_7_2_5_8_10 [] none 0 0 :: sgv (some ⟨g5, 0, none⟩) (n + 1) c5 (vs ++ [v]) (L ++ [y]) :: sgbox g_7 v y :: sgbox g8 v y :: obox g2 [] none 0 0 :: dbox g1 (q : Int) AD nd cd AM mm cm :: obox g3 nm (some ⟨b, 0, none⟩) n c :: sgv (some ⟨b, 0, none⟩) n c vs L :: pool) w_7_2_5_8_10 by rw [hw_7_2_5_8_10, hg_7_2_5_8_10]; exact V_7_2_5_8.out.obox_new [] none 0 0)
                      have B_7_2_5_8_10 := Lib.hid (show Below w_7_2_5_8.heap.size w_7_2_5_8 w_7_2_5_8_10 by rw [hw_7_2_5_8_10]; exact bnew _ _)
                      have HW_7_2_5_8_10 := Lib.hid hw_7_2_5_8_10
                      have HG_7_2_5_8_10 := Lib.hid hg_7_2_5_8_10
                      clear hw_7_2_5_8_10 hg_7_2_5_8_10
                      go_simp
                      try rw [← HW_7_2_5_8_10.out]
                      try rw [← HG_7_2_5_8_10.out]
                      refine hK.out _ _ (hHeld.go B_7_2_5_8_10.out) (fun hHeld => ?_)
                      clear hK K
                      try simp only [Act.put, sA, sZ, sS]
                      refine wpAnyH_ready (rs := [11]) (by kernel_rfl) (by simp) ?_
                      refine AllReadyH.cons (List.getElem?_toArray.trans rfl) (fun K hK => ?_) AllReadyH.nil
                      obtain ⟨u01, u02, u03⟩ := (V_7_2_5_8_10.out.box_at (i := 0) (j := 0) rfl rfl)
                      obtain ⟨u11, u12, u13⟩ := (V_7_2_5_8_10.out.box_at (i := 0) (j := 1) rfl rfl)
                      have VE := Lib.hid (show Hp w (obox g_7_2_5_8_10 nm (some ⟨g5, 0, none⟩) (n + 1) c5 :: sgv (some ⟨g5, 0, none⟩) (n + 1) c5 (vs ++ [v]) (L ++ [y]) :: sgbox g_7 v y :: sgbox g8 v y :: obox g2 [] none 0 0 :: dbox g1 (q : Int) AD nd cd AM mm cm :: obox g3 nm (some ⟨b, 0, none⟩) n c :: sgv (some ⟨b, 0, none⟩) n c vs L :: pool) _ from Hp.box_set (T := 24) (g := g_7_2_5_8_10) (cs := [.string (bs nm), .slice none 0 0]) (Hp.box_set (T := 24) (g := g_7_2_5_8_10) (cs := oC [] none 0 0) V_7_2_5_8_10.out (i := 0) rfl 0 (.string (bs nm))) (i := 0) rfl 1 (.slice (some ⟨g5, 0, none⟩) (n + 1) c5))
                      go_simp
                      refine hK.out _ _ (List.forall_mem_cons.2 ⟨⟨(VE.out.box_at (i := 6) (j := 0) rfl rfl).1, (VE.out.box_at (i := 6) (j := 0) rfl rfl).2.2⟩, List.forall_mem_cons.2 ⟨⟨(VE.out.box_at (i := 6) (j := 1) rfl rfl).1, (VE.out.box_at (i := 6) (j := 1) rfl rfl).2.2⟩, List.forall_mem_cons.2 ⟨⟨(VE.out.box_at (i := 3) (j := 0) rfl rfl).1, (VE.out.box_at (i := 3) (j := 0) rfl rfl).2.2⟩, List.forall_mem_cons.2 ⟨⟨(VE.out.box_at (i := 3) (j := 1) rfl rfl).1, (VE.out.box_at (i := 3) (j := 1) rfl rfl).2.2⟩, List.forall_mem_cons.2 ⟨⟨(VE.out.box_at (i := 3) (j := 2) rfl rfl).1, (VE.out.box_at (i := 3) (j := 2) rfl rfl).2.2⟩, List.forall_mem_cons.2 ⟨⟨(VE.out.box_at (i := 3) (j := 3) rfl rfl).1, (VE.out.box_at (i := 3) (j := 3) rfl rfl).2.2⟩, fun _ h => by simp at h⟩⟩⟩⟩⟩⟩) (fun hHeld => ?_)
                      clear hK K
                      try simp only [Act.put, sA, sZ, sS]
                      refine wpAnyH_done (by kernel_rfl) ?_ _
                      clear hHeld
                      have VF := Lib.hid (show Hp w (obox g2 [] none 0 0 :: dbox g1 (q : Int) AD nd cd AM mm cm :: obox g_7_2_5_8_10 nm (some ⟨g5, 0, none⟩) (n + 1) c5 :: obox g3 nm (some ⟨b, 0, none⟩) n c :: sgv (some ⟨g5, 0, none⟩) (n + 1) c5 (vs ++ [v]) (L ++ [y]) :: sgbox g8 v y :: sgv (some ⟨b, 0, none⟩) n c vs L :: sgbox g_7 v y :: pool) _ from (Hp.front (l := [_, _, _, _, _, _, _]) ((Hp.front (l := [_, _, _, _, _, _, _]) ((Hp.front (l := [_, _, _, _, _]) ((Hp.front (l := [_, _, _, _, _, _, _]) ((Hp.front (l := [_, _, _, _]) ((Hp.front (l := [_, _, _, _]) ((Hp.front (l := [_, _, _, _, _, _, _]) ((Hp.front (l := [_, _]) (VE.out)))))))))))))))))
                      go_wp2_with fail
                      go_meet
                      exact ⟨_, _, _, _, rfl, VF.out⟩
                    refine AllReadyH.cons (List.getElem?_toArray.trans rfl) (fun K hK => ?_) ?_
                    · obtain ⟨w_7_2_5_10, hw_7_2_5_10⟩ : ∃ z, z = w_7_2_5.alloc (.cells #[.string ⟨#[]⟩, .slice none 0 0] 24) := ⟨_, rfl⟩
                      obtain ⟨g_7_2_5_10, hg_7_2_5_10⟩ : ∃ z, z = w_7_2_5.heap.size := ⟨_, rfl⟩
                      have V_7_2_5_10 := Lib.hid (show Hp w (obox g_7_2_5_10 [] none 0 0 :: sgv A2 n c2 vs L :: sgbox g_7 v y :: sgbox g8 v y :: obox g2 [] none 0 0 :: dbox g1 (q : Int) AD nd cd AM mm cm :: obox g3 nm (some ⟨b, 0, none⟩) n c :: sgv (some ⟨b, 0, none⟩) n c vs L :: pool) w_7_2_5_10 by rw [hw_7_2_5_10, hg_7_2_5_10]; exact V_7_2_5.out.obox_new [] none 0 0)
                      have B_7_2_5_10 := Lib.hid (show Below w_7_2_5.heap.size w_7_2_5 w_7_2_5_10 by rw [hw_7_2_5_10]; exact bnew _ _)
                      have HW_7_2_5_10 := Lib.hid hw_7_2_5_10
                      have HG_7_2_5_10 := Lib.hid hg_7_2_5_10
                      clear hw_7_2_5_10 hg_7_2_5_10
                      go_simp
                      try rw [← HW_7_2_5_10.out]
                      try rw [← HG_7_2_5_10.out]
                      refine hK.out _ _ (hHeld.go B_7_2_5_10.out) (fun hHeld => ?_)
                      clear hK K
                      try simp only [Act.put, sA, sZ, sS]
                      refine wpAnyH_ready (rs := [8]) (by kernel_rfl) (by simp) ?_
                      refine AllReadyH.cons (List.getElem?_toArray.trans rfl) (fun K hK => ?_) AllReadyH.nil
                      obtain ⟨g5, c5, w_7_2_5_10_8, hr_7_2_5_10_8, hv_7_2_5_10_8, _⟩ := run_app_sg V_7_2_5_10.out (i := 1) rfl HVS.out 22 (b := g_7) v y (fun j u hu => (V_7_2_5_10.out.box_at (i := 2) rfl hu).1) (by omega)
                      have HR_7_2_5_10_8 := Lib.hid hr_7_2_5_10_8
                      have V_7_2_5_10_8 := Lib.hid (show Hp w (obox g_7_2_5_10 [] none 0 0 :: sgv (some ⟨g5, 0, none⟩) (n + 1) c5 (vs ++ [v]) (L ++ [y]) :: sgbox g_7 v y :: sgbox g8 v y :: obox g2 [] none 0 0 :: dbox g1 (q : Int) AD nd cd AM mm cm :: obox g3 nm (some ⟨b, 0, none⟩) n c :: sgv (some ⟨b, 0, none⟩) n c vs L :: pool) w_7_2_5_10_8 from hv_7_2_5_10_8)
                      clear hr_7_2_5_10_8 hv_7_2_5_10_8
                      refine step_app_run rfl (.tmp 123) (.tmp 125) 22 rfl HR_7_2_5_10_8.out rfl rfl ?_
                      refine hK.out _ _ (List.forall_mem_cons.2 ⟨⟨(V_7_2_5_10_8.out.box_at (i := 6) (j := 0) rfl rfl).1, (V_7_2_5_10_8.out.box_at (i := 6) (j := 0) rfl rfl).2.2⟩, List.forall_mem_cons.2 ⟨⟨(V_7_2_5_10_8.out.box_at (i := 6) (j := 1) rfl rfl).1, (V_7_2_5_10_8.out.box_at (i := 6) (j := 1) rfl rfl).2.2⟩, List.forall_mem_cons.2 ⟨⟨(V_7_2_5_10_8.out.box_at (i := 3) (j := 0) rfl rfl).1, (V_7_2_5_10_8.out.box_at (i := 3) (j := 0) rfl rfl).2.2⟩, List.forall_mem_cons.2 ⟨⟨(V_7_2_5_10_8.out.box_at (i := 3) (j := 1) rfl rfl).1, (V_7_2_5_10_8.out.box_at (i := 3) (j := 1) rfl rfl).2.2⟩, List.forall_mem_cons.2 ⟨⟨(V_7_2_5_10_8.out.box_at (i := 3) (j := 2) rfl rfl).1, (V_7_2_5_10_8.out.box_at (i := 3) (j := 2) rfl rfl).2.2⟩, List.forall_mem_cons.2 ⟨⟨(V_7_2_5_10_8.out.box_at (i := 3) (j := 3) rfl rfl).1, (V_7_2_5_10_8.out.box_at (i := 3) (j := 3) rfl rfl).2.2⟩, fun _ h => by simp at h⟩⟩⟩⟩⟩⟩) (fun hHeld => ?_)
                      clear hK K
                      try simp only [Act.put, sA, sZ, sS]
                      refine tk 9 ?_ rfl ?_ ?_; rotate_left; focus (intro w hSw; clear hSw; go_simp; try (with_reducible rfl))
                      try simp only [Act.put, sA, sZ, sS]
                      refine wpAnyH_ready (rs := [11]) (by kernel_rfl) (by simp) ?_
                      refine AllReadyH.cons (List.getElem?_toArray.trans rfl) (fun K hK => ?_) AllReadyH.nil
                      obtain ⟨u01, u02, u03⟩ := (V_7_2_5_10_8.out.box_at (i := 0) (j := 0) rfl rfl)
                      obtain ⟨u11, u12, u13⟩ := (V_7_2_5_10_8.out.box_at (i := 0) (j := 1) rfl rfl)
                      have VE := Lib.hid (show Hp w (obox g_7_2_5_10 nm (some ⟨g5, 0, none⟩) (n + 1) c5 :: sgv (some ⟨g5, 0, none⟩) (n + 1) c5 (vs ++ [v]) (L ++ [y]) :: sgbox g_7 v y :: sgbox g8 v y :: obox g2 [] none 0 0 :: dbox g1 (q : Int) AD nd cd AM mm cm :: obox g3 nm (some ⟨b, 0, none⟩) n c :: sgv (some ⟨b, 0, none⟩) n c vs L :: pool) _ from Hp.box_set (T := 24) (g := g_7_2_5_10) (cs := [.string (bs nm), .slice none 0 0]) (Hp.box_set (T := 24) (g := g_7_2_5_10) (cs := oC [] none 0 0) V_7_2_5_10_8.out (i := 0) rfl 0 (.string (bs nm))) (i := 0) rfl 1 (.slice (some ⟨g5, 0, none⟩) (n + 1) c5))
                      go_simp
                      refine hK.out _ _ (List.forall_mem_cons.2 ⟨⟨(VE.out.box_at (i := 6) (j := 0) rfl rfl).1, (VE.out.box_at (i := 6) (j := 0) rfl rfl).2.2⟩, List.forall_mem_cons.2 ⟨⟨(VE.out.box_at (i := 6) (j := 1) rfl rfl).1, (VE.out.box_at (i := 6) (j := 1) rfl rfl).2.2⟩, List.forall_mem_cons.2 ⟨⟨(VE.out.box_at (i := 3) (j := 0) rfl rfl).1, (VE.out.box_at (i := 3) (j := 0) rfl rfl).2.2⟩, List.forall_mem_cons.2 ⟨⟨(VE.out.box_at (i := 3) (j := 1) rfl rfl).1, (VE.out.box_at (i := 3) (j := 1) rfl rfl).2.2⟩, List.forall_mem_cons.2 ⟨⟨(VE.out.box_at (i := 3) (j := 2) rfl rfl).1, (VE.out.box_at (i := 3) (j := 2) rfl rfl).2.2⟩, List.forall_mem_cons.2 ⟨⟨(VE.out.box_at (i := 3) (j := 3) rfl rfl).1, (VE.out.box_at (i := 3) (j := 3) rfl rfl).2.2⟩, fun _ h => by simp at h⟩⟩⟩⟩⟩⟩) (fun hHeld => ?_)
                      clear hK K
                      try simp only [Act.put, sA, sZ, sS]
                      refine wpAnyH_done (by kernel_rfl) ?_ _
                      clear hHeld
                      have VF := Lib.hid (show Hp w (obox g2 [] none 0 0 :: dbox g1 (q : Int) AD nd cd AM mm cm :: obox g_7_2_5_10 nm (some ⟨g5, 0, none⟩) (n + 1) c5 :: obox g3 nm (some ⟨b, 0, none⟩) n c :: sgv (some ⟨g5, 0, none⟩) (n + 1) c5 (vs ++ [v]) (L ++ [y]) :: sgbox g8 v y :: sgv (some ⟨b, 0, none⟩) n c vs L :: sgbox g_7 v y :: pool) _ from (Hp.front (l := [_, _, _, _, _, _, _]) ((Hp.front (l := [_, _, _, _, _, _, _]) ((Hp.front (l := [_, _, _, _, _]) ((Hp.front (l := [_, _, _, _, _, _, _]) ((Hp.front (l := [_, _, _, _]) ((Hp.front (l := [_, _, _, _]) ((Hp.front (l := [_, _, _, _, _, _, _]) ((Hp.front (l := [_, _]) (VE.out)))))))))))))))))
                      go_wp2_with fail
                      go_meet
                      exact ⟨_, _, _, _, rfl, VF.out⟩
                    exact AllReadyH.nil
                  refine AllReadyH.cons (List.getElem?_toArray.trans rfl) (fun K hK => ?_) ?_
                  · obtain ⟨w_7_2_10, hw_7_2_10⟩ : ∃ z, z = w_7_2.alloc (.cells #[.string ⟨#[]⟩, .slice none 0 0] 24) := ⟨_, rfl⟩
                    obtain ⟨g_7_2_10, hg_7_2_10⟩ : ∃ z, z = w_7_2.heap.size := ⟨_, rfl⟩
                    have V_7_2_10 := Lib.hid (show Hp w (obox g_7_2_10 [] none 0 0 :: sgv (some ⟨g_7_2, 0, none⟩) 0 0 [] [] :: sgbox g_7 v y :: sgbox g8 v y :: obox g2 [] none 0 0 :: dbox g1 (q : Int) AD nd cd AM mm cm :: obox g3 nm (some ⟨b, 0, none⟩) n c :: sgv (some ⟨b, 0, none⟩) n c vs L :: pool) w_7_2_10 by rw [hw_7_2_10, hg_7_2_10]; exact V_7_2.out.obox_new [] none 0 0)
                    have B_7_2_10 := Lib.hid (show Below w_7_2.heap.size w_7_2 w_7_2_10 by rw [hw_7_2_10]; exact bnew _ _)
                    have HW_7_2_10 := Lib.hid hw_7_2_10
                    have HG_7_2_10 := Lib.hid hg_7_2_10
                    clear hw_7_2_10 hg_7_2_10
                    go_simp
                    try rw [← HW_7_2_10.out]
                    try rw [← HG_7_2_10.out]
                    refine hK.out _ _ (hHeld.go B_7_2_10.out) (fun hHeld => ?_)
                    clear hK K
                    try simp only [Act.put, sA, sZ, sS]
                    refine wpAnyH_ready (rs := [5]) (by kernel_rfl) (by simp) ?_
                    refine AllReadyH.cons (List.getElem?_toArray.trans rfl) (fun K hK => ?_) AllReadyH.nil
                    obtain ⟨A2, c2, w_7_2_10_5, hr_7_2_10_5, hv_7_2_10_5, _⟩ := run_cat_sgs V_7_2_10.out (i := 1) rfl rfl 22 (B := some ⟨b, 0, none⟩) (m := n) (d := c) vs L HVS.out HL.out (V_7_2_10.out.cells (i := 7) (it := sgv (some ⟨b, 0, none⟩) n c vs L) rfl rfl) (by omega) (by omega)
                    rw [Nat.zero_add] at hr_7_2_10_5 hv_7_2_10_5
                    have HR_7_2_10_5 := Lib.hid hr_7_2_10_5
                    have V_7_2_10_5 := Lib.hid (show Hp w (obox g_7_2_10 [] none 0 0 :: sgv A2 n c2 vs L :: sgbox g_7 v y :: sgbox g8 v y :: obox g2 [] none 0 0 :: dbox g1 (q : Int) AD nd cd AM mm cm :: obox g3 nm (some ⟨b, 0, none⟩) n c :: sgv (some ⟨b, 0, none⟩) n c vs L :: pool) w_7_2_10_5 from hv_7_2_10_5)
                    clear hr_7_2_10_5 hv_7_2_10_5
                    refine step_app_run rfl (.tmp 120) (.tmp 122) 22 rfl HR_7_2_10_5.out rfl rfl ?_
                    refine hK.out _ _ (List.forall_mem_cons.2 ⟨⟨(V_7_2_10_5.out.box_at (i := 6) (j := 0) rfl rfl).1, (V_7_2_10_5.out.box_at (i := 6) (j := 0) rfl rfl).2.2⟩, List.forall_mem_cons.2 ⟨⟨(V_7_2_10_5.out.box_at (i := 6) (j := 1) rfl rfl).1, (V_7_2_10_5.out.box_at (i := 6) (j := 1) rfl rfl).2.2⟩, List.forall_mem_cons.2 ⟨⟨(V_7_2_10_5.out.box_at (i := 3) (j := 0) rfl rfl).1, (V_7_2_10_5.out.box_at (i := 3) (j := 0) rfl rfl).2.2⟩, List.forall_mem_cons.2 ⟨⟨(V_7_2_10_5.out.box_at (i := 3) (j := 1) rfl rfl).1, (V_7_2_10_5.out.box_at (i := 3) (j := 1) rfl rfl).2.2⟩, List.forall_mem_cons.2 ⟨⟨(V_7_2_10_5.out.box_at (i := 3) (j := 2) rfl rfl).1, (V_7_2_10_5.out.box_at (i := 3) (j := 2) rfl rfl).2.2⟩, List.forall_mem_cons.2 ⟨⟨(V_7_2_10_5.out.box_at (i := 3) (j := 3) rfl rfl).1, (V_7_2_10_5.out.box_at (i := 3) (j := 3) rfl rfl).2.2⟩, fun _ h => by simp at h⟩⟩⟩⟩⟩⟩) (fun hHeld => ?_)
                    clear hK K
                    try simp only [Act.put, sA, sZ, sS]
                    refine wpAnyH_ready (rs := [8]) (by kernel_rfl) (by simp) ?_
                    refine AllReadyH.cons (List.getElem?_toArray.trans rfl) (fun K hK => ?_) AllReadyH.nil
                    obtain ⟨g5, c5, w_7_2_10_5_8, hr_7_2_10_5_8, hv_7_2_10_5_8, _⟩ := run_app_sg V_7_2_10_5.out (i := 1) rfl HVS.out 22 (b := g_7) v y (fun j u hu => (V_7_2_10_5.out.box_at (i := 2) rfl hu).1) (by omega)
                    have HR_7_2_10_5_8 := Lib.hid hr_7_2_10_5_8
                    have V_7_2_10_5_8 := Lib.hid (show Hp w (obox g_7_2_10 [] none 0 0 :: sgv (some ⟨g5, 0, none⟩) (n + 1) c5 (vs ++ [v]) (L ++ [y]) :: sgbox g_7 v y :: sgbox g8 v y :: obox g2 [] none 0 0 :: dbox g1 (q : Int) AD nd cd AM mm cm :: obox g3 nm (some ⟨b, 0, none⟩) n c :: sgv (some ⟨b, 0, none⟩) n c vs L :: pool) w_7_2_10_5_8 from hv_7_2_10_5_8)
                    clear hr_7_2_10_5_8 hv_7_2_10_5_8
                    refine step_app_run rfl (.tmp 123) (.tmp 125) 22 rfl HR_7_2_10_5_8.out rfl rfl ?_
                    refine hK.out _ _ (List.forall_mem_cons.2 ⟨⟨(V_7_2_10_5_8.out.box_at (i := 6) (j := 0) rfl rfl).1, (V_7_2_10_5_8.out.box_at (i := 6) (j := 0) rfl rfl).2.2⟩, List.forall_mem_cons.2 ⟨⟨(V_7_2_10_5_8.out.box_at (i := 6) (j := 1) rfl rfl).1, (V_7_2_10_5_8.out.box_at (i := 6) (j := 1) rfl rfl).2.2⟩, List.forall_mem_cons.2 ⟨⟨(V_7_2_10_5_8.out.box_at (i := 3) (j := 0) rfl rfl).1, (V_7_2_10_5_8.out.box_at (i := 3) (j := 0) rfl rfl).2.2⟩, List.forall_mem_cons.2 ⟨⟨(V_7_2_10_5_8.out.box_at (i := 3) (j := 1) rfl rfl).1, (V_7_2_10_5_8.out.box_at (i := 3) (j := 1) rfl rfl).2.2⟩, List.forall_mem_cons.2 ⟨⟨(V_7_2_10_5_8.out.box_at (i := 3) (j := 2) rfl rfl).1, (V_7_2_10_5_8.out.box_at (i := 3) (j := 2) rfl rfl).2.2⟩, List.forall_mem_cons.2 ⟨⟨(V_7_2_10_5_8.out.box_at (i := 3) (j := 3) rfl rfl).1, (V_7_2_10_5_8.out.box_at (i := 3) (j := 3) rfl rfl).2.2⟩, fun _ h => by simp at h⟩⟩⟩⟩⟩⟩) (fun hHeld => ?_)
                    clear hK K
                    try simp only [Act.put, sA, sZ, sS]
                    refine tk 9 ?_ rfl ?_ ?_; rotate_left; focus (intro w hSw; clear hSw; go_simp; try (with_reducible rfl))
                    try simp only [Act.put, sA, sZ, sS]
                    refine wpAnyH_ready (rs := [11]) (by kernel_rfl) (by simp) ?_
                    refine AllReadyH.cons (List.getElem?_toArray.trans rfl) (fun K hK => ?_) AllReadyH.nil
                    obtain ⟨u01, u02, u03⟩ := (V_7_2_10_5_8.out.box_at (i := 0) (j := 0) rfl rfl)
                    obtain ⟨u11, u12, u13⟩ := (V_7_2_10_5_8.out.box_at (i := 0) (j := 1) rfl rfl)
                    have VE := Lib.hid (show Hp w (obox g_7_2_10 nm (some ⟨g5, 0, none⟩) (n + 1) c5 :: sgv (some ⟨g5, 0, none⟩) (n + 1) c5 (vs ++ [v]) (L ++ [y]) :: sgbox g_7 v y :: sgbox g8 v y :: obox g2 [] none 0 0 :: dbox g1 (q : Int) AD nd cd AM mm cm :: obox g3 nm (some ⟨b, 0, none⟩) n c :: sgv (some ⟨b, 0, none⟩) n c vs L :: pool) _ from Hp.box_set (T := 24) (g := g_7_2_10) (cs := [.string (bs nm), .slice none 0 0]) (Hp.box_set (T := 24) (g := g_7_2_10) (cs := oC [] none 0 0) V_7_2_10_5_8.out (i := 0) rfl 0 (.string (bs nm))) (i := 0) rfl 1 (.slice (some ⟨g5, 0, none⟩) (n + 1) c5))
                    go_simp
                    refine hK.out _ _ (List.forall_mem_cons.2 ⟨⟨(VE.out.box_at (i := 6) (j := 0) rfl rfl).1, (VE.out.box_at (i := 6) (j := 0) rfl rfl).2.2⟩, List.forall_mem_cons.2 ⟨⟨(VE.out.box_at (i := 6) (j := 1) rfl rfl).1, (VE.out.box_at (i := 6) (j := 1) rfl rfl).2.2⟩, List.forall_mem_cons.2 ⟨⟨(VE.out.box_at (i := 3) (j := 0) rfl rfl).1, (VE.out.box_at (i := 3) (j := 0) rfl rfl).2.2⟩, List.forall_mem_cons.2 ⟨⟨(VE.out.box_at (i := 3) (j := 1) rfl rfl).1, (VE.out.box_at (i := 3) (j := 1) rfl rfl).2.2⟩, List.forall_mem_cons.2 ⟨⟨(VE.out.box_at (i := 3) (j := 2) rfl rfl).1, (VE.out.box_at (i := 3) (j := 2) rfl rfl).2.2⟩, List.forall_mem_cons.2 ⟨⟨(VE.out.box_at (i := 3) (j := 3) rfl rfl).1, (VE.out.box_at (i := 3) (j := 3) rfl rfl).2.2⟩, fun _ h => by simp at h⟩⟩⟩⟩⟩⟩) (fun hHeld => ?_)
                    clear hK K
                    try simp only [Act.put, sA, sZ, sS]
                    refine wpAnyH_done (by kernel_rfl) ?_ _
                    clear hHeld
                    have VF := Lib.hid (show Hp w (obox g2 [] none 0 0 :: dbox g1 (q : Int) AD nd cd AM mm cm :: obox g_7_2_10 nm (some ⟨g5, 0, none⟩) (n + 1) c5 :: obox g3 nm (some ⟨b, 0, none⟩) n c :: sgv (some ⟨g5, 0, none⟩) (n + 1) c5 (vs ++ [v]) (L ++ [y]) :: sgbox g8 v y :: sgv (some ⟨b, 0, none⟩) n c vs L :: sgbox g_7 v y :: pool) _ from (Hp.front (l := [_, _, _, _, _, _, _]) ((Hp.front (l := [_, _, _, _, _, _, _]) ((Hp.front (l := [_, _, _, _, _]) ((Hp.front (l := [_, _, _, _, _, _, _]) ((Hp.front (l := [_, _, _, _]) ((Hp.front (l := [_, _, _, _]) ((Hp.front (l := [_, _, _, _, _, _, _]) ((Hp.front (l := [_, _]) (VE.out)))))))))))))))))
                    go_wp2_with fail
                    go_meet
                    exact ⟨_, _, _, _, rfl, VF.out⟩
                  exact AllReadyH.nil
                refine AllReadyH.cons (List.getElem?_toArray.trans rfl) (fun K hK => ?_) ?_
                · obtain ⟨w_7_10, hw_7_10⟩ : ∃ z, z = w_7.alloc (.cells #[.string ⟨#[]⟩, .slice none 0 0] 24) := ⟨_, rfl⟩
                  obtain ⟨g_7_10, hg_7_10⟩ : ∃ z, z = w_7.heap.size := ⟨_, rfl⟩
                  have V_7_10 := Lib.hid (show Hp w (obox g_7_10 [] none 0 0 :: sgbox g_7 v y :: sgbox g8 v y :: obox g2 [] none 0 0 :: dbox g1 (q : Int) AD nd cd AM mm cm :: obox g3 nm (some ⟨b, 0, none⟩) n c :: sgv (some ⟨b, 0, none⟩) n c vs L :: pool) w_7_10 by rw [hw_7_10, hg_7_10]; exact V_7.out.obox_new [] none 0 0)
                  have B_7_10 := Lib.hid (show Below w_7.heap.size w_7 w_7_10 by rw [hw_7_10]; exact bnew _ _)
                  have HW_7_10 := Lib.hid hw_7_10
                  have HG_7_10 := Lib.hid hg_7_10
                  clear hw_7_10 hg_7_10
                  go_simp
                  try rw [← HW_7_10.out]
                  try rw [← HG_7_10.out]
                  refine hK.out _ _ (hHeld.go B_7_10.out) (fun hHeld => ?_)
                  clear hK K
                  try simp only [Act.put, sA, sZ, sS]
                  refine wpAnyH_ready (rs := [2]) (by kernel_rfl) (by simp) ?_
                  refine AllReadyH.cons (List.getElem?_toArray.trans rfl) (fun K hK => ?_) AllReadyH.nil
                  obtain ⟨w_7_10_2, hw_7_10_2⟩ : ∃ z, z = w_7_10.alloc (.cells #[] 58) := ⟨_, rfl⟩
                  obtain ⟨g_7_10_2, hg_7_10_2⟩ : ∃ z, z = w_7_10.heap.size := ⟨_, rfl⟩
                  have V_7_10_2 := Lib.hid (show Hp w (sgv (some ⟨g_7_10_2, 0, none⟩) 0 0 [] [] :: obox g_7_10 [] none 0 0 :: sgbox g_7 v y :: sgbox g8 v y :: obox g2 [] none 0 0 :: dbox g1 (q : Int) AD nd cd AM mm cm :: obox g3 nm (some ⟨b, 0, none⟩) n c :: sgv (some ⟨b, 0, none⟩) n c vs L :: pool) w_7_10_2 by rw [hw_7_10_2, hg_7_10_2]; exact V_7_10.out.lit 58 4 0 [] rfl (by decide))
                  have B_7_10_2 := Lib.hid (show Below w_7_10.heap.size w_7_10 w_7_10_2 by rw [hw_7_10_2]; exact bnew _ _)
                  have HW_7_10_2 := Lib.hid hw_7_10_2
                  have HG_7_10_2 := Lib.hid hg_7_10_2
                  clear hw_7_10_2 hg_7_10_2
                  go_simp
                  try rw [← HW_7_10_2.out]
                  try rw [← HG_7_10_2.out]
                  refine hK.out _ _ (hHeld.go B_7_10_2.out) (fun hHeld => ?_)
                  clear hK K
                  try simp only [Act.put, sA, sZ, sS]
                  refine wpAnyH_ready (rs := [5]) (by kernel_rfl) (by simp) ?_
                  refine AllReadyH.cons (List.getElem?_toArray.trans rfl) (fun K hK => ?_) AllReadyH.nil
                  obtain ⟨A2, c2, w_7_10_2_5, hr_7_10_2_5, hv_7_10_2_5, _⟩ := run_cat_sgs V_7_10_2.out (i := 0) rfl rfl 22 (B := some ⟨b, 0, none⟩) (m := n) (d := c) vs L HVS.out HL.out (V_7_10_2.out.cells (i := 7) (it := sgv (some ⟨b, 0, none⟩) n c vs L) rfl rfl) (by omega) (by omega)
                  rw [Nat.zero_add] at hr_7_10_2_5 hv_7_10_2_5
                  have HR_7_10_2_5 := Lib.hid hr_7_10_2_5
                  have V_7_10_2_5 := Lib.hid (show Hp w (sgv A2 n c2 vs L :: obox g_7_10 [] none 0 0 :: sgbox g_7 v y :: sgbox g8 v y :: obox g2 [] none 0 0 :: dbox g1 (q : Int) AD nd cd AM mm cm :: obox g3 nm (some ⟨b, 0, none⟩) n c :: sgv (some ⟨b, 0, none⟩) n c vs L :: pool) w_7_10_2_5 from hv_7_10_2_5)
                  clear hr_7_10_2_5 hv_7_10_2_5
                  refine step_app_run rfl (.tmp 120) (.tmp 122) 22 rfl HR_7_10_2_5.out rfl rfl ?_
                  refine hK.out _ _ (List.forall_mem_cons.2 ⟨⟨(V_7_10_2_5.out.box_at (i := 6) (j := 0) rfl rfl).1, (V_7_10_2_5.out.box_at (i := 6) (j := 0) rfl rfl).2.2⟩, List.forall_mem_cons.2 ⟨⟨(V_7_10_2_5.out.box_at (i := 6) (j := 1) rfl rfl).1, (V_7_10_2_5.out.box_at (i := 6) (j := 1) rfl rfl).2.2⟩, List.forall_mem_cons.2 ⟨⟨(V_7_10_2_5.out.box_at (i := 3) (j := 0) rfl rfl).1, (V_7_10_2_5.out.box_at (i := 3) (j := 0) rfl rfl).2.2⟩, List.forall_mem_cons.2 ⟨⟨(V_7_10_2_5.out.box_at (i := 3) (j := 1) rfl rfl).1, (V_7_10_2_5.out.box_at (i := 3) (j := 1) rfl rfl).2.2⟩, List.forall_mem_cons.2 ⟨⟨(V_7_10_2_5.out.box_at (i := 3) (j := 2) rfl rfl).1, (V_7_10_2_5.out.box_at (i := 3) (j := 2) rfl rfl).2.2⟩, List.forall_mem_cons.2 ⟨⟨(V_7_10_2_5.out.box_at (i := 3) (j := 3) rfl rfl).1, (V_7_10_2_5.out.box_at (i := 3) (j := 3) rfl rfl).2.2⟩, fun _ h => by simp at h⟩⟩⟩⟩⟩⟩) (fun hHeld => ?_)
                  clear hK K
                  try simp only [Act.put, sA, sZ, sS]
                  refine wpAnyH_ready (rs := [8]) (by kernel_rfl) (by simp) ?_
                  refine AllReadyH.cons (List.getElem?_toArray.trans rfl) (fun K hK => ?_) AllReadyH.nil
                  obtain ⟨g5, c5, w_7_10_2_5_8, hr_7_10_2_5_8, hv_7_10_2_5_8, _⟩ := run_app_sg V_7_10_2_5.out (i := 0) rfl HVS.out 22 (b := g_7) v y (fun j u hu => (V_7_10_2_5.out.box_at (i := 2) rfl hu).1) (by omega)
                  have HR_7_10_2_5_8 := Lib.hid hr_7_10_2_5_8
                  have V_7_10_2_5_8 := Lib.hid (show Hp w (sgv (some ⟨g5, 0, none⟩) (n + 1) c5 (vs ++ [v]) (L ++ [y]) :: obox g_7_10 [] none 0 0 :: sgbox g_7 v y :: sgbox g8 v y :: obox g2 [] none 0 0 :: dbox g1 (q : Int) AD nd cd AM mm cm :: obox g3 nm (some ⟨b, 0, none⟩) n c :: sgv (some ⟨b, 0, none⟩) n c vs L :: pool) w_7_10_2_5_8 from hv_7_10_2_5_8)
                  clear hr_7_10_2_5_8 hv_7_10_2_5_8
                  refine step_app_run rfl (.tmp 123) (.tmp 125) 22 rfl HR_7_10_2_5_8.out rfl rfl ?_
                  refine hK.out _ _ (List.forall_mem_cons.2 ⟨⟨(V_7_10_2_5_8.out.box_at (i := 6) (j := 0) rfl rfl).1, (V_7_10_2_5_8.out.box_at (i := 6) (j := 0) rfl rfl).2.2⟩, List.forall_mem_cons.2 ⟨⟨(V_7_10_2_5_8.out.box_at (i := 6) (j := 1) rfl rfl).1, (V_7_10_2_5_8.out.box_at (i := 6) (j := 1) rfl rfl).2.2⟩, List.forall_mem_cons.2 ⟨⟨(V_7_10_2_5_8.out.box_at (i := 3) (j := 0) rfl rfl).1, (V_7_10_2_5_8.out.box_at (i := 3) (j := 0) rfl rfl).2.2⟩, List.forall_mem_cons.2 ⟨⟨(V_7_10_2_5_8.out.box_at (i := 3) (j := 1) rfl rfl).1, (V_7_10_2_5_8.out.box_at (i := 3) (j := 1) rfl rfl).2.2⟩, List.forall_mem_cons.2 ⟨⟨(V_7_10_2_5_8.out.box_at (i := 3) (j := 2) rfl rfl).1, (V_7_10_2_5_8.out.box_at (i := 3) (j := 2) rfl rfl).2.2⟩, List.forall_mem_cons.2 ⟨⟨(V_7_10_2_5_8.out.box_at (i := 3) (j := 3) rfl rfl).1, (V_7_10_2_5_8.out.box_at (i := 3) (j := 3) rfl rfl).2.2⟩, fun _ h => by simp at h⟩⟩⟩⟩⟩⟩) (fun hHeld => ?_)
                  clear hK K
                  try simp only [Act.put, sA, sZ, sS]
                  refine tk 9 ?_ rfl ?_ ?_; rotate_left; focus (intro w hSw; clear hSw; go_simp; try (with_reducible rfl))
                  try simp only [Act.put, sA, sZ, sS]
                  refine wpAnyH_ready (rs := [11]) (by kernel_rfl) (by simp) ?_
                  refine AllReadyH.cons (List.getElem?_toArray.trans rfl) (fun K hK => ?_) AllReadyH.nil
                  obtain ⟨u01, u02, u03⟩ := (V_7_10_2_5_8.out.box_at (i := 1) (j := 0) rfl rfl)
                  obtain ⟨u11, u12, u13⟩ := (V_7_10_2_5_8.out.box_at (i := 1) (j := 1) rfl rfl)
                  have VE := Lib.hid (show Hp w (sgv (some ⟨g5, 0, none⟩) (n + 1) c5 (vs ++ [v]) (L ++ [y]) :: obox g_7_10 nm (some ⟨g5, 0, none⟩) (n + 1) c5 :: sgbox g_7 v y :: sgbox g8 v y :: obox g2 [] none 0 0 :: dbox g1 (q : Int) AD nd cd AM mm cm :: obox g3 nm (some ⟨b, 0, none⟩) n c :: sgv (some ⟨b, 0, none⟩) n c vs L :: pool) _ from Hp.box_set (T := 24) (g := g_7_10) (cs := [.string (bs nm), .slice none 0 0]) (Hp.box_set (T := 24) (g := g_7_10) (cs := oC [] none 0 0) V_7_10_2_5_8.out (i := 1) rfl 0 (.string (bs nm))) (i := 1) rfl 1 (.slice (some ⟨g5, 0, none⟩) (n + 1) c5))
                  go_simp
                  refine hK.out _ _ (List.forall_mem_cons.2 ⟨⟨(VE.out.box_at (i := 6) (j := 0) rfl rfl).1, (VE.out.box_at (i := 6) (j := 0) rfl rfl).2.2⟩, List.forall_mem_cons.2 ⟨⟨(VE.out.box_at (i := 6) (j := 1) rfl rfl).1, (VE.out.box_at (i := 6) (j := 1) rfl rfl).2.2⟩, List.forall_mem_cons.2 ⟨⟨(VE.out.box_at (i := 3) (j := 0) rfl rfl).1, (VE.out.box_at (i := 3) (j := 0) rfl rfl).2.2⟩, List.forall_mem_cons.2 ⟨⟨(VE.out.box_at (i := 3) (j := 1) rfl rfl).1, (VE.out.box_at (i := 3) (j := 1) rfl rfl).2.2⟩, List.forall_mem_cons.2 ⟨⟨(VE.out.box_at (i := 3) (j := 2) rfl rfl).1, (VE.out.box_at (i := 3) (j := 2) rfl rfl).2.2⟩, List.forall_mem_cons.2 ⟨⟨(VE.out.box_at (i := 3) (j := 3) rfl rfl).1, (VE.out.box_at (i := 3) (j := 3) rfl rfl).2.2⟩, fun _ h => by simp at h⟩⟩⟩⟩⟩⟩) (fun hHeld => ?_)
                  clear hK K
                  try simp only [Act.put, sA, sZ, sS]
                  refine wpAnyH_done (by kernel_rfl) ?_ _
                  clear hHeld
                  have VF := Lib.hid (show Hp w (obox g2 [] none 0 0 :: dbox g1 (q : Int) AD nd cd AM mm cm :: obox g_7_10 nm (some ⟨g5, 0, none⟩) (n + 1) c5 :: obox g3 nm (some ⟨b, 0, none⟩) n c :: sgv (some ⟨g5, 0, none⟩) (n + 1) c5 (vs ++ [v]) (L ++ [y]) :: sgbox g8 v y :: sgv (some ⟨b, 0, none⟩) n c vs L :: sgbox g_7 v y :: pool) _ from (Hp.front (l := [_, _, _, _, _, _, _]) ((Hp.front (l := [_, _, _, _, _, _, _]) ((Hp.front (l := [_, _, _, _, _]) ((Hp.front (l := [_, _, _, _, _, _, _]) ((Hp.front (l := [_, _, _]) ((Hp.front (l := [_, _, _, _]) ((Hp.front (l := [_, _, _, _, _, _, _]) ((Hp.front (l := [_, _]) (VE.out)))))))))))))))))
                  go_wp2_with fail
                  go_meet
                  exact ⟨_, _, _, _, rfl, VF.out⟩
                exact AllReadyH.nil
              refine AllReadyH.cons (List.getElem?_toArray.trans rfl) (fun K hK => ?_) ?_
              · obtain ⟨w_10, hw_10⟩ : ∃ z, z = wf.alloc (.cells #[.string ⟨#[]⟩, .slice none 0 0] 24) := ⟨_, rfl⟩
                obtain ⟨g_10, hg_10⟩ : ∃ z, z = wf.heap.size := ⟨_, rfl⟩
                have V_10 := Lib.hid (show Hp w (obox g_10 [] none 0 0 :: sgbox g8 v y :: obox g2 [] none 0 0 :: dbox g1 (q : Int) AD nd cd AM mm cm :: obox g3 nm (some ⟨b, 0, none⟩) n c :: sgv (some ⟨b, 0, none⟩) n c vs L :: pool) w_10 by rw [hw_10, hg_10]; exact Vwf.out.obox_new [] none 0 0)
                have B_10 := Lib.hid (show Below wf.heap.size wf w_10 by rw [hw_10]; exact bnew _ _)
                have HW_10 := Lib.hid hw_10
                have HG_10 := Lib.hid hg_10
                clear hw_10 hg_10
                go_simp
                try rw [← HW_10.out]
                try rw [← HG_10.out]
                refine hK.out _ _ (hHeld.go B_10.out) (fun hHeld => ?_)
                clear hK K
                try simp only [Act.put, sA, sZ, sS]
                refine wpAnyH_ready (rs := [2, 7]) (by kernel_rfl) (by simp) ?_
                refine AllReadyH.cons (List.getElem?_toArray.trans rfl) (fun K hK => ?_) ?_
                · obtain ⟨w_10_2, hw_10_2⟩ : ∃ z, z = w_10.alloc (.cells #[] 58) := ⟨_, rfl⟩
                  obtain ⟨g_10_2, hg_10_2⟩ : ∃ z, z = w_10.heap.size := ⟨_, rfl⟩
                  have V_10_2 := Lib.hid (show Hp w (sgv (some ⟨g_10_2, 0, none⟩) 0 0 [] [] :: obox g_10 [] none 0 0 :: sgbox g8 v y :: obox g2 [] none 0 0 :: dbox g1 (q : Int) AD nd cd AM mm cm :: obox g3 nm (some ⟨b, 0, none⟩) n c :: sgv (some ⟨b, 0, none⟩) n c vs L :: pool) w_10_2 by rw [hw_10_2, hg_10_2]; exact V_10.out.lit 58 4 0 [] rfl (by decide))
                  have B_10_2 := Lib.hid (show Below w_10.heap.size w_10 w_10_2 by rw [hw_10_2]; exact bnew _ _)
                  have HW_10_2 := Lib.hid hw_10_2
                  have HG_10_2 := Lib.hid hg_10_2
                  clear hw_10_2 hg_10_2
                  go_simp
                  try rw [← HW_10_2.out]
                  try rw [← HG_10_2.out]
                  refine hK.out _ _ (hHeld.go B_10_2.out) (fun hHeld => ?_)
                  clear hK K
                  try simp only [Act.put, sA, sZ, sS]
                  refine wpAnyH_ready (rs := [5, 7]) (by kernel_rfl) (by simp) ?_
                  refine AllReadyH.cons (List.getElem?_toArray.trans rfl) (fun K hK => ?_) ?_
                  · obtain ⟨A2, c2, w_10_2_5, hr_10_2_5, hv_10_2_5, _⟩ := run_cat_sgs V_10_2.out (i := 0) rfl rfl 22 (B := some ⟨b, 0, none⟩) (m := n) (d := c) vs L HVS.out HL.out (V_10_2.out.cells (i := 6) (it := sgv (some ⟨b, 0, none⟩) n c vs L) rfl rfl) (by omega) (by omega)
                    rw [Nat.zero_add] at hr_10_2_5 hv_10_2_5
                    have HR_10_2_5 := Lib.hid hr_10_2_5
                    have V_10_2_5 := Lib.hid (show Hp w (sgv A2 n c2 vs L :: obox g_10 [] none 0 0 :: sgbox g8 v y :: obox g2 [] none 0 0 :: dbox g1 (q : Int) AD nd cd AM mm cm :: obox g3 nm (some ⟨b, 0, none⟩) n c :: sgv (some ⟨b, 0, none⟩) n c vs L :: pool) w_10_2_5 from hv_10_2_5)
                    clear hr_10_2_5 hv_10_2_5
                    refine step_app_run rfl (.tmp 120) (.tmp 122) 22 rfl HR_10_2_5.out rfl rfl ?_
                    refine hK.out _ _ (List.forall_mem_cons.2 ⟨⟨(V_10_2_5.out.box_at (i := 5) (j := 0) rfl rfl).1, (V_10_2_5.out.box_at (i := 5) (j := 0) rfl rfl).2.2⟩, List.forall_mem_cons.2 ⟨⟨(V_10_2_5.out.box_at (i := 5) (j := 1) rfl rfl).1, (V_10_2_5.out.box_at (i := 5) (j := 1) rfl rfl).2.2⟩, List.forall_mem_cons.2 ⟨⟨(V_10_2_5.out.box_at (i := 2) (j := 0) rfl rfl).1, (V_10_2_5.out.box_at (i := 2) (j := 0) rfl rfl).2.2⟩, List.forall_mem_cons.2 ⟨⟨(V_10_2_5.out.box_at (i := 2) (j := 1) rfl rfl).1, (V_10_2_5.out.box_at (i := 2) (j := 1) rfl rfl).2.2⟩, List.forall_mem_cons.2 ⟨⟨(V_10_2_5.out.box_at (i := 2) (j := 2) rfl rfl).1, (V_10_2_5.out.box_at (i := 2) (j := 2) rfl rfl).2.2⟩, List.forall_mem_cons.2 ⟨⟨(V_10_2_5.out.box_at (i := 2) (j := 3) rfl rfl).1, (V_10_2_5.out.box_at (i := 2) (j := 3) rfl rfl).2.2⟩, fun _ h => by simp at h⟩⟩⟩⟩⟩⟩) (fun hHeld => ?_)
                    clear hK K
                    try simp only [Act.put, sA, sZ, sS]
                    refine wpAnyH_ready (rs := [7]) (by kernel_rfl) (by simp) ?_
                    refine AllReadyH.cons (List.getElem?_toArray.trans rfl) (fun K hK => ?_) AllReadyH.nil
                    obtain ⟨w_10_2_5_7, hw_10_2_5_7⟩ : ∃ z, z = w_10_2_5.alloc (.cells #[.string (bs y.t), .slice v.1 y.s.length v.2, .int .i64 y.c, .int .i64 y.w] 58) := ⟨_, rfl⟩
                    obtain ⟨g_10_2_5_7, hg_10_2_5_7⟩ : ∃ z, z = w_10_2_5.heap.size := ⟨_, rfl⟩
                    have V_10_2_5_7 := Lib.hid (show Hp w (sgbox g_10_2_5_7 v y :: sgv A2 n c2 vs L :: obox g_10 [] none 0 0 :: sgbox g8 v y :: obox g2 [] none 0 0 :: dbox g1 (q : Int) AD nd cd AM mm cm :: obox g3 nm (some ⟨b, 0, none⟩) n c :: sgv (some ⟨b, 0, none⟩) n c vs L :: pool) w_10_2_5_7 by rw [hw_10_2_5_7, hg_10_2_5_7]; exact V_10_2_5.out.sgbox_new v.1 v.2 y)
                    have B_10_2_5_7 := Lib.hid (show Below w_10_2_5.heap.size w_10_2_5 w_10_2_5_7 by rw [hw_10_2_5_7]; exact bnew _ _)
                    have HW_10_2_5_7 := Lib.hid hw_10_2_5_7
                    have HG_10_2_5_7 := Lib.hid hg_10_2_5_7
                    clear hw_10_2_5_7 hg_10_2_5_7
                    go_simp
                    try rw [← HW_10_2_5_7.out]
                    try rw [← HG_10_2_5_7.out]
                    refine hK.out _ _ (hHeld.go B_10_2_5_7.out) (fun hHeld => ?_)
                    clear hK K
                    try simp only [Act.put, sA, sZ, sS]
                    refine wpAnyH_ready (rs := [8]) (by kernel_rfl) (by simp) ?_
                    refine AllReadyH.cons (List.getElem?_toArray.trans rfl) (fun K hK => ?_) AllReadyH.nil
                    obtain ⟨g5, c5, w_10_2_5_7_8, hr_10_2_5_7_8, hv_10_2_5_7_8, _⟩ := run_app_sg V_10_2_5_7.out (i := 1) rfl HVS.out 22 (b := g_10_2_5_7) v y (fun j u hu => (V_10_2_5_7.out.box_at (i := 0) rfl hu).1) (by omega)
                    have HR_10_2_5_7_8 := Lib.hid hr_10_2_5_7_8
                    have V_10_2_5_7_8 := Lib.hid (show Hp w (sgbox g_10_2_5_7 v y :: sgv (some ⟨g5, 0, none⟩) (n + 1) c5 (vs ++ [v]) (L ++ [y]) :: obox g_10 [] none 0 0 :: sgbox g8 v y :: obox g2 [] none 0 0 :: dbox g1 (q : Int) AD nd cd AM mm cm :: obox g3 nm (some ⟨b, 0, none⟩) n c :: sgv (some ⟨b, 0, none⟩) n c vs L :: pool) w_10_2_5_7_8 from hv_10_2_5_7_8)
                    clear hr_10_2_5_7_8 hv_10_2_5_7_8
                    refine step_app_run rfl (.tmp 123) (.tmp 125) 22 rfl HR_10_2_5_7_8.out rfl rfl ?_
                    refine hK.out _ _ (List.forall_mem_cons.2 ⟨⟨(V_10_2_5_7_8.out.box_at (i := 6) (j := 0) rfl rfl).1, (V_10_2_5_7_8.out.box_at (i := 6) (j := 0) rfl rfl).2.2⟩, List.forall_mem_cons.2 ⟨⟨(V_10_2_5_7_8.out.box_at (i := 6) (j := 1) rfl rfl).1, (V_10_2_5_7_8.out.box_at (i := 6) (j := 1) rfl rfl).2.2⟩, List.forall_mem_cons.2 ⟨⟨(V_10_2_5_7_8.out.box_at (i := 3) (j := 0) rfl rfl).1, (V_10_2_5_7_8.out.box_at (i := 3) (j := 0) rfl rfl).2.2⟩, List.forall_mem_cons.2 ⟨⟨(V_10_2_5_7_8.out.box_at (i := 3) (j := 1) rfl rfl).1, (V_10_2_5_7_8.out.box_at (i := 3) (j := 1) rfl rfl).2.2⟩, List.forall_mem_cons.2 ⟨⟨(V_10_2_5_7_8.out.box_at (i := 3) (j := 2) rfl rfl).1, (V_10_2_5_7_8.out.box_at (i := 3) (j := 2) rfl rfl).2.2⟩, List.forall_mem_cons.2 ⟨⟨(V_10_2_5_7_8.out.box_at (i := 3) (j := 3) rfl rfl).1, (V_10_2_5_7_8.out.box_at (i := 3) (j := 3) rfl rfl).2.2⟩, fun _ h => by simp at h⟩⟩⟩⟩⟩⟩) (fun hHeld => ?_)
                    clear hK K
                    try simp only [Act.put, sA, sZ, sS]
                    refine tk 9 ?_ rfl ?_ ?_; rotate_left; focus (intro w hSw; clear hSw; go_simp; try (with_reducible rfl))
                    try simp only [Act.put, sA, sZ, sS]
                    refine wpAnyH_ready (rs := [11]) (by kernel_rfl) (by simp) ?_
                    refine AllReadyH.cons (List.getElem?_toArray.trans rfl) (fun K hK => ?_) AllReadyH.nil
                    obtain ⟨u01, u02, u03⟩ := (V_10_2_5_7_8.out.box_at (i := 2) (j := 0) rfl rfl)
                    obtain ⟨u11, u12, u13⟩ := (V_10_2_5_7_8.out.box_at (i := 2) (j := 1) rfl rfl)
                    have VE := Lib.hid (show Hp w (sgbox g_10_2_5_7 v y :: sgv (some ⟨g5, 0, none⟩) (n + 1) c5 (vs ++ [v]) (L ++ [y]) :: obox g_10 nm (some ⟨g5, 0, none⟩) (n + 1) c5 :: sgbox g8 v y :: obox g2 [] none 0 0 :: dbox g1 (q : Int) AD nd cd AM mm cm :: obox g3 nm (some ⟨b, 0, none⟩) n c :: sgv (some ⟨b, 0, none⟩) n c vs L :: pool) _ from Hp.box_set (T := 24) (g := g_10) (cs := [.string (bs nm), .slice none 0 0]) (Hp.box_set (T := 24) (g := g_10) (cs := oC [] none 0 0) V_10_2_5_7_8.out (i := 2) rfl 0 (.string (bs nm))) (i := 2) rfl 1 (.slice (some ⟨g5, 0, none⟩) (n + 1) c5))
                    go_simp
                    refine hK.out _ _ (List.forall_mem_cons.2 ⟨⟨(VE.out.box_at (i := 6) (j := 0) rfl rfl).1, (VE.out.box_at (i := 6) (j := 0) rfl rfl).2.2⟩, List.forall_mem_cons.2 ⟨⟨(VE.out.box_at (i := 6) (j := 1) rfl rfl).1, (VE.out.box_at (i := 6) (j := 1) rfl rfl).2.2⟩, List.forall_mem_cons.2 ⟨⟨(VE.out.box_at (i := 3) (j := 0) rfl rfl).1, (VE.out.box_at (i := 3) (j := 0) rfl rfl).2.2⟩, List.forall_mem_cons.2 ⟨⟨(VE.out.box_at (i := 3) (j := 1) rfl rfl).1, (VE.out.box_at (i := 3) (j := 1) rfl rfl).2.2⟩, List.forall_mem_cons.2 ⟨⟨(VE.out.box_at (i := 3) (j := 2) rfl rfl).1, (VE.out.box_at (i := 3) (j := 2) rfl rfl).2.2⟩, List.forall_mem_cons.2 ⟨⟨(VE.out.box_at (i := 3) (j := 3) rfl rfl).1, (VE.out.box_at (i := 3) (j := 3) rfl rfl).2.2⟩, fun _ h => by simp at h⟩⟩⟩⟩⟩⟩) (fun hHeld => ?_)
                    clear hK K
                    try simp only [Act.put, sA, sZ, sS]
                    refine wpAnyH_done (by kernel_rfl) ?_ _
                    clear hHeld
                    have VF := Lib.hid (show Hp w (obox g2 [] none 0 0 :: dbox g1 (q : Int) AD nd cd AM mm cm :: obox g_10 nm (some ⟨g5, 0, none⟩) (n + 1) c5 :: obox g3 nm (some ⟨b, 0, none⟩) n c :: sgv (some ⟨g5, 0, none⟩) (n + 1) c5 (vs ++ [v]) (L ++ [y]) :: sgbox g8 v y :: sgv (some ⟨b, 0, none⟩) n c vs L :: sgbox g_10_2_5_7 v y :: pool) _ from (Hp.front (l := [_, _, _, _, _, _, _]) ((Hp.front (l := [_, _, _, _, _, _, _]) ((Hp.front (l := [_, _, _, _, _]) ((Hp.front (l := [_, _, _, _, _, _, _]) ((Hp.front (l := [_, _, _]) ((Hp.front (l := [_, _, _, _]) ((Hp.front (l := [_, _, _, _, _, _, _]) (VE.out)))))))))))))))
                    go_wp2_with fail
                    go_meet
                    exact ⟨_, _, _, _, rfl, VF.out⟩
                  refine AllReadyH.cons (List.getElem?_toArray.trans rfl) (fun K hK => ?_) ?_
                  · obtain ⟨w_10_2_7, hw_10_2_7⟩ : ∃ z, z = w_10_2.alloc (.cells #[.string (bs y.t), .slice v.1 y.s.length v.2, .int .i64 y.c, .int .i64 y.w] 58) := ⟨_, rfl⟩
                    obtain ⟨g_10_2_7, hg_10_2_7⟩ : ∃ z, z = w_10_2.heap.size := ⟨_, rfl⟩
                    have V_10_2_7 := Lib.hid (show Hp w (sgbox g_10_2_7 v y :: sgv (some ⟨g_10_2, 0, none⟩) 0 0 [] [] :: obox g_10 [] none 0 0 :: sgbox g8 v y :: obox g2 [] none 0 0 :: dbox g1 (q : Int) AD nd cd AM mm cm :: obox g3 nm (some ⟨b, 0, none⟩) n c :: sgv (some ⟨b, 0, none⟩) n c vs L :: pool) w_10_2_7 by rw [hw_10_2_7, hg_10_2_7]; exact V_10_2.out.sgbox_new v.1 v.2 y)
                    have B_10_2_7 := Lib.hid (show Below w_10_2.heap.size w_10_2 w_10_2_7 by rw [hw_10_2_7]; exact bnew _ _)
                    have HW_10_2_7 := Lib.hid hw_10_2_7
                    have HG_10_2_7 := Lib.hid hg_10_2_7
                    clear hw_10_2_7 hg_10_2_7
                    go_simp
                    try rw [← HW_10_2_7.out]
                    try rw [← HG_10_2_7.out]
                    refine hK.out _ _ (hHeld.go B_10_2_7.out) (fun hHeld => ?_)
                    clear hK K
                    try simp only [Act.put, sA, sZ, sS]
                    refine wpAnyH_ready (rs := [5]) (by kernel_rfl) (by simp) ?_
                    refine AllReadyH.cons (List.getElem?_toArray.trans rfl) (fun K hK => ?_) AllReadyH.nil
                    obtain ⟨A2, c2, w_10_2_7_5, hr_10_2_7_5, hv_10_2_7_5, _⟩ := run_cat_sgs V_10_2_7.out (i := 1) rfl rfl 22 (B := some ⟨b, 0, none⟩) (m := n) (d := c) vs L HVS.out HL.out (V_10_2_7.out.cells (i := 7) (it := sgv (some ⟨b, 0, none⟩) n c vs L) rfl rfl) (by omega) (by omega)
                    rw [Nat.zero_add] at hr_10_2_7_5 hv_10_2_7_5
                    have HR_10_2_7_5 := Lib.hid hr_10_2_7_5
                    have V_10_2_7_5 := Lib.hid (show Hp w (sgbox g_10_2_7 v y :: sgv A2 n c2 vs L :: obox g_10 [] none 0 0 :: sgbox g8 v y :: obox g2 [] none 0 0 :: dbox g1 (q : Int) AD nd cd AM mm cm :: obox g3 nm (some ⟨b, 0, none⟩) n c :: sgv (some ⟨b, 0, none⟩) n c vs L :: pool) w_10_2_7_5 from hv_10_2_7_5)
                    clear hr_10_2_7_5 hv_10_2_7_5
                    refine step_app_run rfl (.tmp 120) (.tmp 122) 22 rfl HR_10_2_7_5.out rfl rfl ?_
                    refine hK.out _ _ (List.forall_mem_cons.2 ⟨⟨(V_10_2_7_5.out.box_at (i := 6) (j := 0) rfl rfl).1, (V_10_2_7_5.out.box_at (i := 6) (j := 0) rfl rfl).2.2⟩, List.forall_mem_cons.2 ⟨⟨(V_10_2_7_5.out.box_at (i := 6) (j := 1) rfl rfl).1, (V_10_2_7_5.out.box_at (i := 6) (j := 1) rfl rfl).2.2⟩, List.forall_mem_cons.2 ⟨⟨(V_10_2_7_5.out.box_at (i := 3) (j := 0) rfl rfl).1, (V_10_2_7_5.out.box_at (i := 3) (j := 0) rfl rfl).2.2⟩, List.forall_mem_cons.2 ⟨⟨(V_10_2_7_5.out.box_at (i := 3) (j := 1) rfl rfl).1, (V_10_2_7_5.out.box_at (i := 3) (j := 1) rfl rfl).2.2⟩, List.forall_mem_cons.2 ⟨⟨(V_10_2_7_5.out.box_at (i := 3) (j := 2) rfl rfl).1, (V_10_2_7_5.out.box_at (i := 3) (j := 2) rfl rfl).2.2⟩, List.forall_mem_cons.2 ⟨⟨(V_10_2_7_5.out.box_at (i := 3) (j := 3) rfl rfl).1, (V_10_2_7_5.out.box_at (i := 3) (j := 3) rfl rfl).2.2⟩, fun _ h => by simp at h⟩⟩⟩⟩⟩⟩) (fun hHeld => ?_)
                    clear hK K
                    try simp only [Act.put, sA, sZ, sS]
                    refine wpAnyH_ready (rs := [8]) (by kernel_rfl) (by simp) ?_
                    refine AllReadyH.cons (List.getElem?_toArray.trans rfl) (fun K hK => ?_) AllReadyH.nil
                    obtain ⟨g5, c5, w_10_2_7_5_8, hr_10_2_7_5_8, hv_10_2_7_5_8, _⟩ := run_app_sg V_10_2_7_5.out (i := 1) rfl HVS.out 22 (b := g_10_2_7) v y (fun j u hu => (V_10_2_7_5.out.box_at (i := 0) rfl hu).1) (by omega)
                    have HR_10_2_7_5_8 := Lib.hid hr_10_2_7_5_8
                    have V_10_2_7_5_8 := Lib.hid (show Hp w (sgbox g_10_2_7 v y :: sgv (some ⟨g5, 0, none⟩) (n + 1) c5 (vs ++ [v]) (L ++ [y]) :: obox g_10 [] none 0 0 :: sgbox g8 v y :: obox g2 [] none 0 0 :: dbox g1 (q : Int) AD nd cd AM mm cm :: obox g3 nm (some ⟨b, 0, none⟩) n c :: sgv (some ⟨b, 0, none⟩) n c vs L :: pool) w_10_2_7_5_8 from hv_10_2_7_5_8)
                    clear hr_10_2_7_5_8 hv_10_2_7_5_8
                    refine step_app_run rfl (.tmp 123) (.tmp 125) 22 rfl HR_10_2_7_5_8.out rfl rfl ?_
                    refine hK.out _ _ (List.forall_mem_cons.2 ⟨⟨(V_10_2_7_5_8.out.box_at (i := 6) (j := 0) rfl rfl).1, (V_10_2_7_5_8.out.box_at (i := 6) (j := 0) rfl rfl).2.2⟩, List.forall_mem_cons.2 ⟨⟨(V_10_2_7_5_8.out.box_at (i := 6) (j := 1) rfl rfl).1, (V_10_2_7_5_8.out.box_at (i := 6) (j := 1) rfl rfl).2.2⟩, List.forall_mem_cons.2 ⟨⟨(V_10_2_7_5_8.out.box_at (i := 3) (j := 0) rfl rfl).1, (V_10_2_7_5_8.out.box_at (i := 3) (j := 0) rfl rfl).2.2⟩, List.forall_mem_cons.2 ⟨⟨(V_10_2_7_5_8.out.box_at (i := 3) (j := 1) rfl rfl).1, (V_10_2_7_5_8.out.box_at (i := 3) (j := 1) rfl rfl).2.2⟩, List.forall_mem_cons.2 ⟨⟨(V_10_2_7_5_8.out.box_at (i := 3) (j := 2) rfl rfl).1, (V_10_2_7_5_8.out.box_at (i := 3) (j := 2) rfl rfl).2.2⟩, List.forall_mem_cons.2 ⟨⟨(V_10_2_7_5_8.out.box_at (i := 3) (j := 3) rfl rfl).1, (V_10_2_7_5_8.out.box_at (i := 3) (j := 3) rfl rfl).2.2⟩, fun _ h => by simp at h⟩⟩⟩⟩⟩⟩) (fun hHeld => ?_)
                    clear hK K
                    try simp only [Act.put, sA, sZ, sS]
                    refine tk 9 ?_ rfl ?_ ?_; rotate_left; focus (intro w hSw; clear hSw; go_simp; try (with_reducible rfl))
                    try simp only [Act.put, sA, sZ, sS]
                    refine wpAnyH_ready (rs := [11]) (by kernel_rfl) (by simp) ?_
                    refine AllReadyH.cons (List.getElem?_toArray.trans rfl) (fun K hK => ?_) AllReadyH.nil
                    obtain ⟨u01, u02, u03⟩ := (V_10_2_7_5_8.out.box_at (i := 2) (j := 0) rfl rfl)
                    obtain ⟨u11, u12, u13⟩ := (V_10_2_7_5_8.out.box_at (i := 2) (j := 1) rfl rfl)
                    have VE := Lib.hid (show Hp w (sgbox g_10_2_7 v y :: sgv (some ⟨g5, 0, none⟩) (n + 1) c5 (vs ++ [v]) (L ++ [y]) :: obox g_10 nm (some ⟨g5, 0, none⟩) (n + 1) c5 :: sgbox g8 v y :: obox g2 [] none 0 0 :: dbox g1 (q : Int) AD nd cd AM mm cm :: obox g3 nm (some ⟨b, 0, none⟩) n c :: sgv (some ⟨b, 0, none⟩) n c vs L :: pool) _ from Hp.box_set (T := 24) (g := g_10) (cs := [.string (bs nm), .slice none 0 0]) (Hp.box_set (T := 24) (g := g_10) (cs := oC [] none 0 0) V_10_2_7_5_8.out (i := 2) rfl 0 (.string (bs nm))) (i := 2) rfl 1 (.slice (some ⟨g5, 0, none⟩) (n + 1) c5))
                    go_simp
                    refine hK.out _ _ (List.forall_mem_cons.2 ⟨⟨(VE.out.box_at (i := 6) (j := 0) rfl rfl).1, (VE.out.box_at (i := 6) (j := 0) rfl rfl).2.2⟩, List.forall_mem_cons.2 ⟨⟨(VE.out.box_at (i := 6) (j := 1) rfl rfl).1, (VE.out.box_at (i := 6) (j := 1) rfl rfl).2.2⟩, List.forall_mem_cons.2 ⟨⟨(VE.out.box_at (i := 3) (j := 0) rfl rfl).1, (VE.out.box_at (i := 3) (j := 0) rfl rfl).2.2⟩, List.forall_mem_cons.2 ⟨⟨(VE.out.box_at (i := 3) (j := 1) rfl rfl).1, (VE.out.box_at (i := 3) (j := 1) rfl rfl).2.2⟩, List.forall_mem_cons.2 ⟨⟨(VE.out.box_at (i := 3) (j := 2) rfl rfl).1, (VE.out.box_at (i := 3) (j := 2) rfl rfl).2.2⟩, List.forall_mem_cons.2 ⟨⟨(VE.out.box_at (i := 3) (j := 3) rfl rfl).1, (VE.out.box_at (i := 3) (j := 3) rfl rfl).2.2⟩, fun _ h => by simp at h⟩⟩⟩⟩⟩⟩) (fun hHeld => ?_)
                    clear hK K
                    try simp only [Act.put, sA, sZ, sS]
                    refine wpAnyH_done (by kernel_rfl) ?_ _
                    clear hHeld
                    have VF := Lib.hid (show Hp w (obox g2 [] none 0 0 :: dbox g1 (q : Int) AD nd cd AM mm cm :: obox g_10 nm (some ⟨g5, 0, none⟩) (n + 1) c5 :: obox g3 nm (some ⟨b, 0, none⟩) n c :: sgv (some ⟨g5, 0, none⟩) (n + 1) c5 (vs ++ [v]) (L ++ [y]) :: sgbox g8 v y :: sgv (some ⟨b, 0, none⟩) n c vs L :: sgbox g_10_2_7 v y :: pool) _ from (Hp.front (l := [_, _, _, _, _, _, _]) ((Hp.front (l := [_, _, _, _, _, _, _]) ((Hp.front (l := [_, _, _, _, _]) ((Hp.front (l := [_, _, _, _, _, _, _]) ((Hp.front (l := [_, _, _]) ((Hp.front (l := [_, _, _, _]) ((Hp.front (l := [_, _, _, _, _, _, _]) (VE.out)))))))))))))))
                    go_wp2_with fail
                    go_meet
                    exact ⟨_, _, _, _, rfl, VF.out⟩
                  exact AllReadyH.nil
                refine AllReadyH.cons (List.getElem?_toArray.trans rfl) (fun K hK => ?_) ?_
                · obtain ⟨w_10_7, hw_10_7⟩ : ∃ z, z = w_10.alloc (.cells #[.string (bs y.t), .slice v.1 y.s.length v.2, .int .i64 y.c, .int .i64 y.w] 58) := ⟨_, rfl⟩
                  obtain ⟨g_10_7, hg_10_7⟩ : ∃ z, z = w_10.heap.size := ⟨_, rfl⟩
                  have V_10_7 := Lib.hid (show Hp w (sgbox g_10_7 v y :: obox g_10 [] none 0 0 :: sgbox g8 v y :: obox g2 [] none 0 0 :: dbox g1 (q : Int) AD nd cd AM mm cm :: obox g3 nm (some ⟨b, 0, none⟩) n c :: sgv (some ⟨b, 0, none⟩) n c vs L :: pool) w_10_7 by rw [hw_10_7, hg_10_7]; exact V_10.out.sgbox_new v.1 v.2 y)
                  have B_10_7 := Lib.hid (show Below w_10.heap.size w_10 w_10_7 by rw [hw_10_7]; exact bnew _ _)
                  have HW_10_7 := Lib.hid hw_10_7
                  have HG_10_7 := Lib.hid hg_10_7
                  clear hw_10_7 hg_10_7
                  go_simp
                  try rw [← HW_10_7.out]
                  try rw [← HG_10_7.out]
                  refine hK.out _ _ (hHeld.go B_10_7.out) (fun hHeld => ?_)
                  clear hK K
                  try simp only [Act.put, sA, sZ, sS]
                  refine wpAnyH_ready (rs := [2]) (by kernel_rfl) (by simp) ?_
                  refine AllReadyH.cons (List.getElem?_toArray.trans rfl) (fun K hK => ?_) AllReadyH.nil
                  obtain ⟨w_10_7_2, hw_10_7_2⟩ : ∃ z, z = w_10_7.alloc (.cells #[] 58) := ⟨_, rfl⟩
                  obtain ⟨g_10_7_2, hg_10_7_2⟩ : ∃ z, z = w_10_7.heap.size := ⟨_, rfl⟩
                  have V_10_7_2 := Lib.hid (show Hp w (sgv (some ⟨g_10_7_2, 0, none⟩) 0 0 [] [] :: sgbox g_10_7 v y :: obox g_10 [] none 0 0 :: sgbox g8 v y :: obox g2 [] none 0 0 :: dbox g1 (q : Int) AD nd cd AM mm cm :: obox g3 nm (some ⟨b, 0, none⟩) n c :: sgv (some ⟨b, 0, none⟩) n c vs L :: pool) w_10_7_2 by rw [hw_10_7_2, hg_10_7_2]; exact V_10_7.out.lit 58 4 0 [] rfl (by decide))
                  have B_10_7_2 := Lib.hid (show Below w_10_7.heap.size w_10_7 w_10_7_2 by rw [hw_10_7_2]; exact bnew _ _)
                  have HW_10_7_2 := Lib.hid hw_10_7_2
                  have HG_10_7_2 := Lib.hid hg_10_7_2
                  clear hw_10_7_2 hg_10_7_2
                  go_simp
                  try rw [← HW_10_7_2.out]
                  try rw [← HG_10_7_2.out]
                  refine hK.out _ _ (hHeld.go B_10_7_2.out) (fun hHeld => ?_)
                  clear hK K
                  try simp only [Act.put, sA, sZ, sS]
                  refine wpAnyH_ready (rs := [5]) (by kernel_rfl) (by simp) ?_
                  refine AllReadyH.cons (List.getElem?_toArray.trans rfl) (fun K hK => ?_) AllReadyH.nil
                  obtain ⟨A2, c2, w_10_7_2_5, hr_10_7_2_5, hv_10_7_2_5, _⟩ := run_cat_sgs V_10_7_2.out (i := 0) rfl rfl 22 (B := some ⟨b, 0, none⟩) (m := n) (d := c) vs L HVS.out HL.out (V_10_7_2.out.cells (i := 7) (it := sgv (some ⟨b, 0, none⟩) n c vs L) rfl rfl) (by omega) (by omega)
                  rw [Nat.zero_add] at hr_10_7_2_5 hv_10_7_2_5
                  have HR_10_7_2_5 := Lib.hid hr_10_7_2_5
                  have V_10_7_2_5 := Lib.hid (show Hp w (sgv A2 n c2 vs L :: sgbox g_10_7 v y :: obox g_10 [] none 0 0 :: sgbox g8 v y :: obox g2 [] none 0 0 :: dbox g1 (q : Int) AD nd cd AM mm cm :: obox g3 nm (some ⟨b, 0, none⟩) n c :: sgv (some ⟨b, 0, none⟩) n c vs L :: pool) w_10_7_2_5 from hv_10_7_2_5)
                  clear hr_10_7_2_5 hv_10_7_2_5
                  refine step_app_run rfl (.tmp 120) (.tmp 122) 22 rfl HR_10_7_2_5.out rfl rfl ?_
                  refine hK.out _ _ (List.forall_mem_cons.2 ⟨⟨(V_10_7_2_5.out.box_at (i := 6) (j := 0) rfl rfl).1, (V_10_7_2_5.out.box_at (i := 6) (j := 0) rfl rfl).2.2⟩, List.forall_mem_cons.2 ⟨⟨(V_10_7_2_5.out.box_at (i := 6) (j := 1) rfl rfl).1, (V_10_7_2_5.out.box_at (i := 6) (j := 1) rfl rfl).2.2⟩, List.forall_mem_cons.2 ⟨⟨(V_10_7_2_5.out.box_at (i := 3) (j := 0) rfl rfl).1, (V_10_7_2_5.out.box_at (i := 3) (j := 0) rfl rfl).2.2⟩, List.forall_mem_cons.2 ⟨⟨(V_10_7_2_5.out.box_at (i := 3) (j := 1) rfl rfl).1, (V_10_7_2_5.out.box_at (i := 3) (j := 1) rfl rfl).2.2⟩, List.forall_mem_cons.2 ⟨⟨(V_10_7_2_5.out.box_at (i := 3) (j := 2) rfl rfl).1, (V_10_7_2_5.out.box_at (i := 3) (j := 2) rfl rfl).2.2⟩, List.forall_mem_cons.2 ⟨⟨(V_10_7_2_5.out.box_at (i := 3) (j := 3) rfl rfl).1, (V_10_7_2_5.out.box_at (i := 3) (j := 3) rfl rfl).2.2⟩, fun _ h => by simp at h⟩⟩⟩⟩⟩⟩) (fun hHeld => ?_)
                  clear hK K
                  try simp only [Act.put, sA, sZ, sS]
                  refine wpAnyH_ready (rs := [8]) (by kernel_rfl) (by simp) ?_
                  refine AllReadyH.cons (List.getElem?_toArray.trans rfl) (fun K hK => ?_) AllReadyH.nil
                  obtain ⟨g5, c5, w_10_7_2_5_8, hr_10_7_2_5_8, hv_10_7_2_5_8, _⟩ := run_app_sg V_10_7_2_5.out (i := 0) rfl HVS.out 22 (b := g_10_7) v y (fun j u hu => (V_10_7_2_5.out.box_at (i := 1) rfl hu).1) (by omega)
                  have HR_10_7_2_5_8 := Lib.hid hr_10_7_2_5_8
                  have V_10_7_2_5_8 := Lib.hid (show Hp w (sgv (some ⟨g5, 0, none⟩) (n + 1) c5 (vs ++ [v]) (L ++ [y]) :: sgbox g_10_7 v y :: obox g_10 [] none 0 0 :: sgbox g8 v y :: obox g2 [] none 0 0 :: dbox g1 (q : Int) AD nd cd AM mm cm :: obox g3 nm (some ⟨b, 0, none⟩) n c :: sgv (some ⟨b, 0, none⟩) n c vs L :: pool) w_10_7_2_5_8 from hv_10_7_2_5_8)
                  clear hr_10_7_2_5_8 hv_10_7_2_5_8
                  refine step_app_run rfl (.tmp 123) (.tmp 125) 22 rfl HR_10_7_2_5_8.out rfl rfl ?_
                  refine hK.out _ _ (List.forall_mem_cons.2 ⟨⟨(V_10_7_2_5_8.out.box_at (i := 6) (j := 0) rfl rfl).1, (V_10_7_2_5_8.out.box_at (i := 6) (j := 0) rfl rfl).2.2⟩, List.forall_mem_cons.2 ⟨⟨(V_10_7_2_5_8.out.box_at (i := 6) (j := 1) rfl rfl).1, (V_10_7_2_5_8.out.box_at (i := 6) (j := 1) rfl rfl).2.2⟩, List.forall_mem_cons.2 ⟨⟨(V_10_7_2_5_8.out.box_at (i := 3) (j := 0) rfl rfl).1, (V_10_7_2_5_8.out.box_at (i := 3) (j := 0) rfl rfl).2.2⟩, List.forall_mem_cons.2 ⟨⟨(V_10_7_2_5_8.out.box_at (i := 3) (j := 1) rfl rfl).1, (V_10_7_2_5_8.out.box_at (i := 3) (j := 1) rfl rfl).2.2⟩, List.forall_mem_cons.2 ⟨⟨(V_10_7_2_5_8.out.box_at (i := 3) (j := 2) rfl rfl).1, (V_10_7_2_5_8.out.box_at (i := 3) (j := 2) rfl rfl).2.2⟩, List.forall_mem_cons.2 ⟨⟨(V_10_7_2_5_8.out.box_at (i := 3) (j := 3) rfl rfl).1, (V_10_7_2_5_8.out.box_at (i := 3) (j := 3) rfl rfl).2.2⟩, fun _ h => by simp at h⟩⟩⟩⟩⟩⟩) (fun hHeld => ?_)
                  clear hK K
                  try simp only [Act.put, sA, sZ, sS]
                  refine tk 9 ?_ rfl ?_ ?_; rotate_left; focus (intro w hSw; clear hSw; go_simp; try (with_reducible rfl))
                  try simp only [Act.put, sA, sZ, sS]
                  refine wpAnyH_ready (rs := [11]) (by kernel_rfl) (by simp) ?_
                  refine AllReadyH.cons (List.getElem?_toArray.trans rfl) (fun K hK => ?_) AllReadyH.nil
                  obtain ⟨u01, u02, u03⟩ := (V_10_7_2_5_8.out.box_at (i := 2) (j := 0) rfl rfl)
                  obtain ⟨u11, u12, u13⟩ := (V_10_7_2_5_8.out.box_at (i := 2) (j := 1) rfl rfl)
                  have VE := Lib.hid (show Hp w (sgv (some ⟨g5, 0, none⟩) (n + 1) c5 (vs ++ [v]) (L ++ [y]) :: sgbox g_10_7 v y :: obox g_10 nm (some ⟨g5, 0, none⟩) (n + 1) c5 :: sgbox g8 v y :: obox g2 [] none 0 0 :: dbox g1 (q : Int) AD nd cd AM mm cm :: obox g3 nm (some ⟨b, 0, none⟩) n c :: sgv (some ⟨b, 0, none⟩) n c vs L :: pool) _ from Hp.box_set (T := 24) (g := g_10) (cs := [.string (bs nm), .slice none 0 0]) (Hp.box_set (T := 24) (g := g_10) (cs := oC [] none 0 0) V_10_7_2_5_8.out (i := 2) rfl 0 (.string (bs nm))) (i := 2) rfl 1 (.slice (some ⟨g5, 0, none⟩) (n + 1) c5))
                  go_simp
                  refine hK.out _ _ (List.forall_mem_cons.2 ⟨⟨(VE.out.box_at (i := 6) (j := 0) rfl rfl).1, (VE.out.box_at (i := 6) (j := 0) rfl rfl).2.2⟩, List.forall_mem_cons.2 ⟨⟨(VE.out.box_at (i := 6) (j := 1) rfl rfl).1, (VE.out.box_at (i := 6) (j := 1) rfl rfl).2.2⟩, List.forall_mem_cons.2 ⟨⟨(VE.out.box_at (i := 3) (j := 0) rfl rfl).1, (VE.out.box_at (i := 3) (j := 0) rfl rfl).2.2⟩, List.forall_mem_cons.2 ⟨⟨(VE.out.box_at (i := 3) (j := 1) rfl rfl).1, (VE.out.box_at (i := 3) (j := 1) rfl rfl).2.2⟩, List.forall_mem_cons.2 ⟨⟨(VE.out.box_at (i := 3) (j := 2) rfl rfl).1, (VE.out.box_at (i := 3) (j := 2) rfl rfl).2.2⟩, List.forall_mem_cons.2 ⟨⟨(VE.out.box_at (i := 3) (j := 3) rfl rfl).1, (VE.out.box_at (i := 3) (j := 3) rfl rfl).2.2⟩, fun _ h => by simp at h⟩⟩⟩⟩⟩⟩) (fun hHeld => ?_)
                  clear hK K
                  try simp only [Act.put, sA, sZ, sS]
                  refine wpAnyH_done (by kernel_rfl) ?_ _
                  clear hHeld
                  have VF := Lib.hid (show Hp w (obox g2 [] none 0 0 :: dbox g1 (q : Int) AD nd cd AM mm cm :: obox g_10 nm (some ⟨g5, 0, none⟩) (n + 1) c5 :: obox g3 nm (some ⟨b, 0, none⟩) n c :: sgv (some ⟨g5, 0, none⟩) (n + 1) c5 (vs ++ [v]) (L ++ [y]) :: sgbox g8 v y :: sgv (some ⟨b, 0, none⟩) n c vs L :: sgbox g_10_7 v y :: pool) _ from (Hp.front (l := [_, _, _, _, _, _, _]) ((Hp.front (l := [_, _, _, _, _, _, _]) ((Hp.front (l := [_, _, _, _, _]) ((Hp.front (l := [_, _, _, _, _, _, _]) ((Hp.front (l := [_, _, _]) ((Hp.front (l := [_, _, _, _]) ((Hp.front (l := [_, _, _, _, _, _, _]) ((Hp.front (l := [_]) (VE.out)))))))))))))))))
                  go_wp2_with fail
                  go_meet
                  exact ⟨_, _, _, _, rfl, VF.out⟩
                exact AllReadyH.nil
              exact AllReadyH.nil
            case rest =>
            obtain ⟨gx, gz, A4, c4, rfl, hV9⟩ := hcut
            obtain ⟨wm, rfl⟩ : ∃ z : World, z = wc := ⟨_, rfl⟩
            have V9 := Lib.hid hV9
            have HPA := Lib.hid (HPO.out.again HVS.out HVV.out HX.out HYS.out)
            have HLA := Lib.hid (show (L ++ [y]).length = n + 1 by rw [List.length_append, HL.out]; rfl)
            have HVA := Lib.hid (show (vs ++ [v]).length = (L ++ [y]).length by rw [List.length_append, List.length_append, HVS.out]; rfl)
            have HBA := Lib.hid (show SgBd (L ++ [y]) from fun z hz => by
              rcases List.mem_append.1 hz with hz | hz
              · exact SgBd.ok HV.out z hz
              · rw [List.mem_singleton.1 hz]
                obtain ⟨a, b, c⟩ := SgBd.ok HV.out x (List.mem_of_getElem? HX.out)
                exact ⟨by rw [HYT.out]; exact a, by rw [HYS.out]; exact b, by rw [HYS.out]; exact c⟩)
            have HSA := Lib.hid (show SgnIn wm A4 (L ++ [y]) from sg_in (i := 4) (d := 0) (n := n + 1) (c := c4) V9.out rfl HVA.out (fun j u z hu hz => by
              obtain ⟨r, hr⟩ := HPA.out j u z hu hz
              exact V9.out.cells (i := r + 8) (it := snds u.1 z.s.length u.2 z.s) hr rfl))
            have hnb := nm_bnd HV.out
            obtain ⟨z0, z1, z2⟩ := V9.out.obox_at (i := 2) rfl
            clear hV9 V8
            go_wp2_with fail
            refine (rovalid_any nm (L ++ [y]) A4 (n + 1) c4 _ (by omega) HLA.out (by omega) HBA.out HSA.out).mono ?_
            rintro e wn ⟨rfl, hb⟩
            have V10 := Lib.hid (V9.out.go hb)
            clear hb z0 z1 z2
            obtain ⟨z0, z1, z2⟩ := V10.out.obox_at (i := 2) rfl
            obtain ⟨vv, hvv⟩ : ∃ vv, vv = (vO nm (L ++ [y])).2 := ⟨_, rfl⟩
            rw [← hvv]
            have HVX := Lib.hid hvv
            by_cases hv0 : vv = 0
            · have e1 : (vv == 0) = true := by rw [beq_iff_eq]; exact hv0
              have HV0 := Lib.hid hv0
              obtain ⟨u01, u02, u03⟩ := V10.out.box_at (T := 24) (g := g3) (cs := oC nm (some ⟨b, 0, none⟩) n c) (i := 3) rfl (j := 0) rfl
              obtain ⟨u11, u12, u13⟩ := V10.out.box_at (T := 24) (g := g3) (cs := oC nm (some ⟨b, 0, none⟩) n c) (i := 3) rfl (j := 1) rfl
              have V11 := Lib.hid (show Hp w (obox g2 [] none 0 0 :: dbox g1 (q : Int) AD nd cd AM mm cm :: obox gx nm A4 (n + 1) c4 :: obox g3 nm A4 (n + 1) c4 :: sgv A4 (n + 1) c4 (vs ++ [v]) (L ++ [y]) :: sgbox g8 v y :: sgv (some ⟨b, 0, none⟩) n c vs L :: sgbox gz v y :: pool) ((wn.setCell ⟨g3, 0, none⟩ (.string (bs nm))).setCell ⟨g3, 1, none⟩ (.slice A4 (n + 1) c4)) from
                Hp.box_set (T := 24) (g := g3) (cs := oC nm (some ⟨b, 0, none⟩) n c) (Hp.box_set (T := 24) (g := g3) (cs := oC nm (some ⟨b, 0, none⟩) n c) V10.out (i := 3) rfl 0 (.string (bs nm))) (i := 3) rfl 1 (.slice A4 (n + 1) c4))
              have V12 := Lib.hid (show Hp w (obox g2 [] none 0 0 :: dbox g1 (q : Int) AD nd cd AM mm cm :: obox g3 nm A4 (n + 1) c4 :: sgv A4 (n + 1) c4 (vs ++ [v]) (L ++ [y]) :: obox gx nm A4 (n + 1) c4 :: sgbox g8 v y :: sgv (some ⟨b, 0, none⟩) n c vs L :: sgbox gz v y :: pool) _ from
                Hp.front (l := [_, _, _]) (Hp.front (l := [_, _, _]) (Hp.front (l := [_, _, _, _]) (Hp.front (l := [_, _, _, _]) V11.out))))
              clear hv0 hvv V9
              go_wp2_with fail
              go_roundw
              case rel => exact ⟨k + 1, by omega, by go_num, nm, A4, n + 1, c4, _, _, _, by rw [← HVX.out]; exact HV0.out, HVA.out, (((HPA.out.wider _).wider _).wider _).wider _, V12.out⟩
              case measure => simp [intOf]; omega
            · have e1 : (vv == 0) = false := by rw [beq_eq_false_iff_ne]; exact hv0
              have V12 := Lib.hid (show Hp w (obox g2 [] none 0 0 :: dbox g1 (q : Int) AD nd cd AM mm cm :: obox g3 nm (some ⟨b, 0, none⟩) n c :: sgv (some ⟨b, 0, none⟩) n c vs L :: obox gx nm A4 (n + 1) c4 :: sgv A4 (n + 1) c4 (vs ++ [v]) (L ++ [y]) :: sgbox g8 v y :: sgbox gz v y :: pool) _ from
                Hp.front (l := [_, _, _]) (Hp.front (l := [_, _, _]) (Hp.front (l := [_, _, _, _]) (Hp.front (l := [_, _, _, _, _, _]) V10.out))))
              clear hv0 hvv V9
              go_wp2_with fail
              go_roundw
              case rel => exact ⟨k + 1, by omega, by go_num, nm, _, n, c, _, _, _, HV.out, HVS.out, (((HPO.out.wider _).wider _).wider _).wider _, V12.out⟩
              case measure => simp [intOf]; omega
          · rw [decide_eq_false hlt2]
            clear hlt2 hn1 hn2 y0 y1 y2 y3 hk
            obtain ⟨z0, z1, z2⟩ := V3.out.obox_at (i := 2) rfl
            obtain ⟨u01, u02, u03⟩ := V3.out.box_at (T := 24) (g := g2) (cs := oC [] none 0 0) (i := 0) rfl (j := 0) rfl
            obtain ⟨u11, u12, u13⟩ := V3.out.box_at (T := 24) (g := g2) (cs := oC [] none 0 0) (i := 0) rfl (j := 1) rfl
            have V4 := Lib.hid (Hp.box_set (T := 24) (g := g2) (cs := [.string (bs nm), .slice none 0 0]) (Hp.box_set (T := 24) (g := g2) (cs := oC [] none 0 0) V3.out (i := 0) rfl 0 (.string (bs nm))) (i := 0) rfl 1 (.slice A n c))
            go_wp2_with fail
            refine bodyPost_ret (v := .agg #[.string (bs nm), .slice A n c]) (by simp [results, Tryz.results31, go_sem, u01, u11]) rfl ⟨nm, A, n, c, vs, L, pool, rfl, HV.out, HL.out, HVS.out, HPO.out, Hp.tail (Hp.tail (Hp.tail V4.out))⟩
end Go.Proofs.YtpifchlpakajjaaGreat
