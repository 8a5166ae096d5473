/- Contract of the reference: the ways from a node. -/
import Derived.Test.YtdoobdfanalnbaaDCm
import Derived.Test.YtdoobdfanalnbaaDCp
import Derived.Test.YtdoobdfanalnbaaDAe
import Derived.Deep.RegionLaw
namespace Go.Proofs.Ytdoobdfanalnbaa
open Go.RowKit
set_option linter.unusedVariables false
set_option linter.unusedSimpArgs false
set_option maxRecDepth 100000

/-- The new rows go behind the box. -/
theorem Hp.shuf {W w : World} {x y z : Itm} {l1 l2 : List Itm} (h : Hp W ((x :: l1) ++ ([y, z] ++ l2)) w) : Hp W ([y, x, z] ++ l1 ++ l2) w := by
  have h1 := Hp.swap (l1 := x :: l1) (l2 := [y, z]) (l3 := l2) (by simpa using h)
  have h2 : Hp W ([y] ++ ([z] ++ (x :: l1)) ++ l2) w := by simpa using h1
  refine h2.sub (fun i => if i = 1 then 2 else if i = 2 then 1 else i) (fun i j e => ?_) (fun i it hi => ?_)
  · split at e <;> split at e <;> (try split at e) <;> (try split at e) <;> omega
  · match i with
    | 0 => simpa using hi
    | 1 => simpa using hi
    | 2 => simpa using hi
    | i + 3 => rw [if_neg (by omega), if_neg (by omega)]; simpa using hi
/-- What from returns. -/
def FromPost (g : Gr) (q : Int) (w : World) (e : Ending) (w' : World) : Prop := ∃ (Q : Option Addr) (qn qc : Nat) (us : List (Option Addr × Nat)), e = .returned (.slice Q qn qc) ∧ qn = (g.pv q).length ∧ us.length = qn ∧ Hp w (rvals Q qn qc us (g.pv q) :: rowsG us (g.pv q)) w'
theorem rv_len {W w : World} {l : List Itm} {i n c : Nat} {A : Option Addr} {vs : List (Option Addr × Nat)} {rows : List (List Int)} (h : vs.length = rows.length) (hn : n = rows.length) : vs.length = n := by omega
set_option maxHeartbeats 32000000 in
theorem rfrom_any (g : Gr) (A : Option Addr) (n c : Nat) (hO : g.Ok) (N : Nat) (hN : N = g.n.toNat) :
    ∀ (d : Nat) (w : World) (q : Nat) (B : Option Addr) (bn bc : Nat), GrIn w A n c g → CellsIn w B (ints g.waysL) → bn = N → N - q ≤ d → q < N → (g.pv (q : Int)).length ≤ 2000 →
      Calls Try.prog 67 #[gval g A n c, .slice B bn bc, .int .i64 (q : Int)] w (FromPost g (q : Int) w)
  | 0, w, q, B, bn, bc, _, _, _, hd, hq, _ => by omega
  | d + 1, w, q, B, bn, bc, h, hB, hbn, hd, hq, hps => by
    have IH := Lib.hid (rfrom_any g A n c hO N hN d)
    have H := Lib.hid h
    have HB := Lib.hid hB
    have HO := Lib.hid hO
    have HN := Lib.hid hN
    have HPS := Lib.hid hps
    have HL := Lib.hid h.len
    have hcs := h.small
    have hcn := h.cap
    have n1 := hO.n1
    have n2 := hO.n2
    have hnl : n ≤ 6000 := by have := hO.len; have := h.len; omega
    have hgN : g.n = (N : Int) := by omega
    have HGN := Lib.hid hgN
    have hN2 : N ≤ 2000 := by omega
    have hgv : gval g A n c = .agg #[.int .i64 (N : Int), .slice A n c] := by rw [← hgN]
    rw [hgv]
    subst hbn
    obtain ⟨E, hE⟩ : ∃ E, E = bn - 1 := ⟨_, rfl⟩
    have hw1 : IntKind.i64.wrap ((bn : Int) - 1) = (E : Int) := by rw [IntWalk.i64_in _ (by omega)]; omega
    have HE := Lib.hid hE
    have HIH := Lib.hid (show ∀ (w : World) (t : Nat), GrIn w A n c g → CellsIn w B (ints g.waysL) → bn - t ≤ d → t < bn → (g.pv (t : Int)).length ≤ 2000 → Calls Try.prog 67 #[.agg #[.int .i64 (bn : Int), .slice A n c], .slice B bn bc, .int .i64 (t : Int)] w (FromPost g (t : Int) w) from fun w t a1 a2 a3 a4 a5 => by
      have := IH.out w t B bn bc a1 a2 rfl a3 a4 a5
      rwa [hgv] at this)
    obtain ⟨wz, hwz⟩ : ∃ z, z = w.alloc (.cells #[.int .i64 (bn : Int), .slice A n c] 24) := ⟨_, rfl⟩
    have HZ := Lib.hid hwz
    have V := Lib.hid (show Hp w [box 24 w.heap.size [.int .i64 (bn : Int), .slice A n c]] wz by rw [hwz]; exact (Hp.start w).box_new _ _)
    clear h hB hO hN hps n1 n2 hgN hE hgv hwz IH
    go_enter Try.func67, Try.ntmps67
    go_upto_region 1 with fail
    rw [← HZ.out]
    clear HZ
    obtain ⟨r0, _, r9⟩ := V.out.box_at (i := 0) (j := 0) rfl rfl
    by_cases hqe : (q : Int) = (E : Int)
    · have g1 : ((q : Int) == (E : Int)) = true := beq_yes hqe
      have HPV := Lib.hid (show g.pv (q : Int) = [[]] by
        have h1 := HO.out.n1
        have h2 := HGN.out
        have h3 := HE.out
        rw [show (q : Int) = g.n - 1 by omega, pv_end HO.out])
      clear hqe
      obtain ⟨w5, hw5⟩ : ∃ z, z = (wz.alloc (.cells #[] 3)).alloc (.cells #[.slice (some ⟨wz.heap.size, 0, none⟩) 0 0] 27) := ⟨_, rfl⟩
      have H5 := Lib.hid hw5
      have V5 := Lib.hid (show Hp w [rvals (some ⟨wz.heap.size + 1, 0, none⟩) 1 1 [(some ⟨wz.heap.size, 0, none⟩, 0)] [[]], nums (some ⟨wz.heap.size, 0, none⟩) 0 0 [], box 24 w.heap.size [.int .i64 (bn : Int), .slice A n c]] w5 by
        have h1 := V.out.lit 3 1 0 [] rfl (by omega)
        have h2 := h1.lit 27 1 1 [.slice (some ⟨wz.heap.size, 0, none⟩) 0 0] rfl (by omega)
        rw [World.size_alloc] at h2
        rw [hw5]
        exact h2)
      clear hw5
      go_wp2_with fail
      rw [← H5.out]
      go_ret
      refine ⟨some ⟨wz.heap.size + 1, 0, none⟩, 1, 1, [(some ⟨wz.heap.size, 0, none⟩, 0)], rfl, by rw [HPV.out]; rfl, rfl, ?_⟩
      rw [HPV.out]
      exact V5.out.front (l1 := [rvals (some ⟨wz.heap.size + 1, 0, none⟩) 1 1 [(some ⟨wz.heap.size, 0, none⟩, 0)] [[]], nums (some ⟨wz.heap.size, 0, none⟩) 0 0 []])
    have g1 : ((q : Int) == (E : Int)) = false := beq_no hqe
    have HQ1 := Lib.hid (show (q : Int) < g.n - 1 by have := HGN.out; have := HE.out; omega)
    clear hqe
    go_wp2_with fail
    clear r0 r9
    have V1 := Lib.hid (show Hp w ([box 24 w.heap.size [.int .i64 (bn : Int), .slice A n c], rvals none 0 0 [] (fromL g (q : Int) 0)] ++ rowsG [] (fromL g (q : Int) 0)) wz from by
      have h1 := V.out.nil_end (rvals none 0 0 [] []) rfl rfl rfl
      rw [fromL_zero]
      show Hp w ([box 24 w.heap.size [.int .i64 (bn : Int), .slice A n c], rvals none 0 0 [] []] ++ rowsG [] []) wz
      rw [show rowsG ([] : List (Option Addr × Nat)) [] = [] from rfl, List.append_nil]
      exact h1)
    clear V
    try rw [g1]
    go_loopw [8, 7] (fun cv sv wr => ∃ (k : Nat) (Q : Option Addr) (qn qc : Nat) (us : List (Option Addr × Nat)), cv = .int .i64 (k : Int) ∧ sv = .slice Q qn qc ∧ k ≤ n ∧ qn = (fromL g (q : Int) k).length ∧ us.length = qn ∧ Hp w ([box 24 w.heap.size [.int .i64 (bn : Int), .slice A n c], rvals Q qn qc us (fromL g (q : Int) k)] ++ rowsG us (fromL g (q : Int) k)) wr) (fun cv _ _ => n - (intOf cv).toNat)
    case atStart => exact ⟨0, none, 0, 0, [], rfl, rfl, Nat.zero_le _, rfl, rfl, V1.out⟩
    case round =>
      clear V1
      obtain ⟨k, Q, qn, qc, us, rfl, rfl, hk, hqn, hus, hV⟩ := hrel
      obtain ⟨wi, rfl⟩ : ∃ wi : World, wi = wr := ⟨_, rfl⟩
      have V := Lib.hid hV
      have HQN := Lib.hid hqn
      have HUS := Lib.hid hus
      clear hV hqn hus
      obtain ⟨r0, _, r9⟩ := V.out.box_at (i := 0) (j := 0) rfl rfl
      obtain ⟨r1, _, _⟩ := V.out.box_at (i := 0) (j := 1) rfl rfl
      by_cases hlt : k < n
      case neg =>
        obtain rfl : k = n := by omega
        have HPA := Lib.hid (show fromL g (q : Int) k = g.pv (q : Int) by rw [← HL.out]; exact fromL_all HO.out (by omega) HQ1.out)
        go_wp2_with fail
        go_ret
        have hh := V.out.tail
        have h2 := HQN.out
        rw [HPA.out] at hh h2
        exact ⟨Q, qn, qc, us, rfl, h2, HUS.out, hh⟩
      obtain ⟨⟨af, at', ac⟩, b, off, ha, hae, hA, hb, c0', c1', c2'⟩ := H.out.at hlt
      have har := HO.out.arc _ (List.mem_of_getElem? ha)
      dsimp only at har c0' c1'
      have c0 := (V.out.below.cell (p := ⟨b, off + k * 3, none⟩) hb).trans c0'
      have c1 := (V.out.below.cell (p := ⟨b, off + k * 3 + 1, none⟩) hb).trans c1'
      have hb' := Nat.lt_of_lt_of_le hb V.out.below.size
      have hk3 : k * 3 ≤ 20000 := by omega
      have HA := Lib.hid ha
      subst hA
      clear c0' c1' c2' hae
      by_cases hf : af = (q : Int)
      case neg =>
        have g2 : (af != (q : Int)) = true := bne_yes hf
        have g3 : (af == (q : Int)) = false := beq_no hf
        have HS := Lib.hid (fromL_skip (q := (q : Int)) ha (.inl hf))
        clear hf ha har
        go_wp2_with fail
        go_roundw
        case rel => exact ⟨k + 1, Q, qn, qc, us, by go_num, rfl, by omega, by rw [HS.out]; exact HQN.out, HUS.out, by rw [HS.out]; exact V.out⟩
        case measure => simp [intOf]; omega
      have g2 : (af != (q : Int)) = false := bne_no hf
      have g3 : (af == (q : Int)) = true := beq_yes hf
      obtain ⟨t, rfl⟩ := Int.eq_ofNat_of_zero_le (show 0 ≤ at' by omega)
      have htq : q < t := by omega
      have htN : t < bn := by have := HGN.out; omega
      have HTW := Lib.hid (show t < g.n.toNat by rw [← HN.out]; exact htN)
      obtain ⟨bB, oB, rfl, hbB, cB0⟩ := HB.out.int (j := t) (by rw [waysL_len]; exact HTW.out)
      rw [waysL_getD HTW.out] at cB0
      have cB := (V.out.below.cell (p := ⟨bB, oB + t, none⟩) hbB).trans cB0
      have hbB' := Nat.lt_of_lt_of_le hbB V.out.below.size
      obtain ⟨x, hx⟩ : ∃ x, x = g.wy (t : Int) := ⟨_, rfl⟩
      rw [← hx] at cB
      clear cB0
      by_cases hx0 : x = 0
      · have e1 : (x == 0) = true := beq_yes hx0
        have HS := Lib.hid (fromL_skip (q := (q : Int)) ha (.inr (by show g.wy (t : Int) = 0; rw [← hx]; exact hx0)))
        clear hf ha har hx hx0
        go_wp2_with fail
        go_roundw
        case rel => exact ⟨k + 1, Q, qn, qc, us, by go_num, rfl, by omega, by rw [HS.out]; exact HQN.out, HUS.out, by rw [HS.out]; exact V.out⟩
        case measure => simp [intOf]; omega
      have e1 : (x == 0) = false := beq_no hx0
      have HS := Lib.hid (fromL_take (q := (q : Int)) ha hf (by show ¬ g.wy (t : Int) = 0; rw [← hx]; exact hx0))
      have HPT := Lib.hid (show (fromL g (q : Int) k).length + (g.pv (t : Int)).length ≤ 2000 by
        have h1 := fromL_le HO.out (q := (q : Int)) (by omega) HQ1.out (k + 1)
        rw [HS.out, List.length_append, List.length_map] at h1
        dsimp only at h1
        have h2 := HPS.out
        omega)
      obtain ⟨acc, hacc⟩ : ∃ acc, acc = fromL g (q : Int) k := ⟨_, rfl⟩
      have HACC := Lib.hid hacc
      have V1 := Lib.hid (show Hp w ([box 24 w.heap.size [.int .i64 (bn : Int), .slice (some ⟨b, off, none⟩) n c], rvals Q qn qc us acc] ++ rowsG us acc) wi by rw [hacc]; exact V.out)
      rw [← hacc] at HQN HPT HS
      clear hf ha har hx hx0 hacc V
      go_upto_region 8 with fail
      go_cut [9] (fun lv wx => ∃ (Q2 : Option Addr) (m2 c2 : Nat) (us2 : List (Option Addr × Nat)), lv = .slice Q2 m2 c2 ∧ m2 = (g.pv (t : Int)).length ∧ us2.length = m2 ∧ Hp w ([box 24 w.heap.size [.int .i64 (bn : Int), .slice (some ⟨b, off, none⟩) n c], rvals Q2 m2 c2 us2 (g.pv (t : Int)), rvals Q qn qc us acc] ++ rowsG us2 (g.pv (t : Int)) ++ rowsG us acc) wx)
      case first =>
        have hKp : Keep [(⟨w.heap.size, 0, none⟩, .int .i64 (bn : Int)), (⟨w.heap.size, 1, none⟩, .slice (some ⟨b, off, none⟩) n c), (⟨b, off + k * 3 + 1, none⟩, .int .i64 (t : Int))] wi := List.forall_mem_cons.2 ⟨⟨r0, r9⟩, List.forall_mem_cons.2 ⟨⟨r1, r9⟩, List.forall_mem_cons.2 ⟨⟨c1, hb'⟩, fun _ h => by simp at h⟩⟩⟩
        refine wp_region_held_drew (S := Keep _) (by kernel_rfl) hKp.drew (fun hHeld => ?_)
        have V1d := Lib.hid (V1.out.go (bdrew _))
        refine tk 0 ?_ rfl ?_ ?_; rotate_left
        · intro wl hSw
          have hSw : Keep _ wl := hSw
          have k0 : wl.cell? ⟨w.heap.size, 0, none⟩ = some (.int .i64 (bn : Int)) := (hSw _ (.head _)).1
          have k1 : wl.cell? ⟨w.heap.size, 1, none⟩ = some (.slice (some ⟨b, off, none⟩) n c) := (hSw _ (.tail _ (.head _))).1
          clear hSw
          go_simp
          try (with_reducible rfl)
        try simp only [Act.put, sA, sZ, sS]
        refine tk 1 ?_ rfl ?_ ?_; rotate_left; focus (intro w hSw; clear hSw; go_simp; try (with_reducible rfl))
        try simp only [Act.put, sA, sZ, sS]
        refine tk 2 ?_ rfl ?_ ?_; rotate_left; focus (intro w hSw; clear hSw; go_simp; try (with_reducible rfl))
        try simp only [Act.put, sA, sZ, sS]
        refine tk 3 ?_ rfl ?_ ?_; rotate_left
        · intro wl hSw
          have hSw : Keep _ wl := hSw
          have k0 : wl.cell? ⟨w.heap.size, 1, none⟩ = some (.slice (some ⟨b, off, none⟩) n c) := (hSw _ (.tail _ (.head _))).1
          clear hSw
          go_simp
          try (with_reducible rfl)
        try simp only [Act.put, sA, sZ, sS]
        refine tk 4 ?_ rfl ?_ ?_; rotate_left; focus (intro w hSw; clear hSw; go_simp; try (with_reducible rfl))
        try simp only [Act.put, sA, sZ, sS]
        refine tk 5 ?_ rfl ?_ ?_; rotate_left; focus (intro w hSw; clear hSw; go_simp; try (with_reducible rfl))
        try simp only [Act.put, sA, sZ, sS]
        refine tk 6 ?_ rfl ?_ ?_; rotate_left; focus (intro w hSw; clear hSw; go_simp; try (with_reducible rfl))
        try simp only [Act.put, sA, sZ, sS]
        refine tk 7 ?_ rfl ?_ ?_; rotate_left
        · intro wl hSw
          have hSw : Keep _ wl := hSw
          have k0 : wl.cell? ⟨b, off + k * 3 + 1, none⟩ = some (.int .i64 (t : Int)) := (hSw _ (.tail _ (.tail _ (.head _)))).1
          clear hSw
          go_simp
          try (with_reducible rfl)
        try simp only [Act.put, sA, sZ, sS]
        refine wpAnyH_ready (rs := [8]) (by kernel_rfl) (by simp) ?_
        refine AllReadyH.cons (List.getElem?_toArray.trans rfl) (fun K hK => ?_) AllReadyH.nil
        go_simp
        refine (HIH.out _ t (H.out.below V1d.out.below) (HB.out.below V1d.out.below) (by omega) htN (by have := HPT.out; omega)).mono ?_
        rintro e w6 ⟨Q2, m2, c2, us2, rfl, hm2, hu2, hp6⟩
        have b6 := hp6.below
        have V6 := Lib.hid (V1d.out.join hp6)
        have HM := Lib.hid hm2
        have HU := Lib.hid hu2
        clear hp6 hm2 hu2
        try go_wp2_with fail
        refine hK.out _ _ (hHeld.go b6) (fun hHeld => ?_)
        clear hK K
        try simp only [Act.put, sA, sZ, sS]
        refine tk 9 ?_ rfl ?_ ?_; rotate_left; focus (intro w hSw; clear hSw; go_simp; try (with_reducible rfl))
        try simp only [Act.put, sA, sZ, sS]
        refine wpAnyH_done (by kernel_rfl) ?_ _
        clear hKp hHeld
        go_wp2_with fail
        go_meet
        refine ⟨Q2, m2, c2, us2, rfl, HM.out, HU.out, ?_⟩
        exact Hp.shuf V6.out
      case rest =>
        obtain ⟨Q2, m2, c2, us2, rfl, hm2, hus2, hV2⟩ := hcut
        obtain ⟨pl, hpl⟩ : ∃ pl, pl = g.pv (t : Int) := ⟨_, rfl⟩
        rw [← hpl] at hm2 hV2
        have HPL := Lib.hid hpl
        have HM2 := Lib.hid hm2
        have HU2 := Lib.hid hus2
        have V2 := Lib.hid (show Hp w ([box 24 w.heap.size [.int .i64 (bn : Int), .slice (some ⟨b, off, none⟩) n c], rvals Q2 m2 c2 us2 pl, rvals Q qn qc us (acc ++ (pl.take 0).map ((k : Int) :: ·))] ++ rowsG us2 pl ++ rowsG us (acc ++ (pl.take 0).map ((k : Int) :: ·))) wc by
          rw [List.take_zero, List.map_nil, List.append_nil]; exact hV2)
        have HQ0 := Lib.hid (show qn = (acc ++ (pl.take 0).map ((k : Int) :: ·)).length by rw [List.take_zero, List.map_nil, List.append_nil]; exact HQN.out)
        have hm2b : m2 ≤ 2000 := by rw [hm2, hpl]; have := HPT.out; omega
        clear hm2 hus2 hV2 hpl
        go_wp2_with fail
        go_loopw [10, 7] (fun cv sv wr => ∃ (i : Nat) (Q : Option Addr) (qn qc : Nat) (us : List (Option Addr × Nat)), cv = .int .i64 (i : Int) ∧ sv = .slice Q qn qc ∧ i ≤ m2 ∧ qn = (acc ++ (pl.take i).map ((k : Int) :: ·)).length ∧ us.length = qn ∧ Hp w ([box 24 w.heap.size [.int .i64 (bn : Int), .slice (some ⟨b, off, none⟩) n c], rvals Q2 m2 c2 us2 pl, rvals Q qn qc us (acc ++ (pl.take i).map ((k : Int) :: ·))] ++ rowsG us2 pl ++ rowsG us (acc ++ (pl.take i).map ((k : Int) :: ·))) wr) (fun cv _ _ => m2 - (intOf cv).toNat)
        case atStart => exact ⟨0, Q, qn, qc, us, rfl, rfl, Nat.zero_le _, HQ0.out, HUS.out, V2.out⟩
        case round =>
          clear HQ0 V2 V1 HQN HUS
          obtain ⟨i, Q, qn, qc, us, rfl, rfl, hi, hqn, hus, hV⟩ := hrel
          obtain ⟨wj, rfl⟩ : ∃ wj : World, wj = wr := ⟨_, rfl⟩
          obtain ⟨ac2, hac2⟩ : ∃ ac2, ac2 = acc ++ (pl.take i).map ((k : Int) :: ·) := ⟨_, rfl⟩
          rw [← hac2] at hV hqn
          have V := Lib.hid hV
          have HQN := Lib.hid hqn
          have HUS := Lib.hid hus
          have HAC := Lib.hid hac2
          have hqb : qn ≤ 2000 := by
            rw [hqn, hac2, List.length_append, List.length_map, List.length_take]
            have h1 := HPT.out
            rw [← HPL.out] at h1
            omega
          clear hV hqn hus hac2
          by_cases hilt : i < m2
          case neg =>
            obtain rfl : i = m2 := by omega
            have HS2 := Lib.hid (show ac2 = fromL g (q : Int) (k + 1) by
              rw [HAC.out, List.take_of_length_le (by rw [← HM2.out]; exact Nat.le_refl _), HS.out, HPL.out])
            have hh := V.out
            rw [HS2.out] at hh
            have h1 := Hp.swap (l1 := [box 24 w.heap.size [.int .i64 (bn : Int), .slice (some ⟨b, off, none⟩) n c]]) (l2 := [rvals Q2 i c2 us2 pl]) (l3 := rvals Q qn qc us (fromL g (q : Int) (k + 1)) :: (rowsG us2 pl ++ rowsG us (fromL g (q : Int) (k + 1)))) (by simpa using hh)
            have h2 : Hp w ([box 24 w.heap.size [.int .i64 (bn : Int), .slice (some ⟨b, off, none⟩) n c], rvals Q qn qc us (fromL g (q : Int) (k + 1))] ++ (rowsG us2 pl ++ rowsG us (fromL g (q : Int) (k + 1)))) wj := by
              have := h1.tail
              simpa using this
            have h3 := Hp.swap (l1 := [box 24 w.heap.size [.int .i64 (bn : Int), .slice (some ⟨b, off, none⟩) n c], rvals Q qn qc us (fromL g (q : Int) (k + 1))]) (l2 := rowsG us2 pl) (l3 := rowsG us (fromL g (q : Int) (k + 1))) (by simpa using h2)
            rw [List.append_assoc] at h3
            have V5 := Lib.hid (h3.back)
            have HQ5 := Lib.hid (show qn = (fromL g (q : Int) (k + 1)).length by rw [← HS2.out]; exact HQN.out)
            clear hh h1 h2 h3
            go_wp2_with fail
            go_roundw
            case rel => exact ⟨k + 1, Q, qn, qc, us, by go_num, rfl, by omega, HQ5.out, HUS.out, V5.out⟩
            case measure => simp [intOf]; omega
          obtain ⟨p, hp⟩ : ∃ p, pl[i]? = some p := ⟨_, List.getElem?_eq_getElem (by rw [← HM2.out]; exact hilt)⟩
          obtain ⟨v2, hv2⟩ : ∃ v2, us2[i]? = some v2 := ⟨_, List.getElem?_eq_getElem (by rw [HU2.out]; exact hilt)⟩
          obtain ⟨vA, vc⟩ := v2
          have hplen : p.length ≤ 2000 := pv_short HO.out (q := (t : Int)) (by omega) (by have := HGN.out; omega) (by rw [← HPL.out]; exact List.mem_of_getElem? hp)
          obtain ⟨pn, hpn⟩ : ∃ pn, pn = p.length := ⟨_, rfl⟩
          obtain ⟨g2', hg2, hx1⟩ : ∃ g2', Q2 = some ⟨g2', 0, none⟩ ∧ True := by
            obtain ⟨g2', e⟩ := V.out.head (i := 1) rfl (A := Q2) (c := c2) rfl (by show 0 < m2; omega)
            exact ⟨g2', e, trivial⟩
          subst hg2
          obtain ⟨x1, _, x3⟩ := V.out.rv_at (i := 1) rfl hv2 hp
          dsimp only at x1
          rw [← hpn] at x1 hplen
          have hci : CellsIn wj vA (ints p) := V.out.cells (i := 3 + i) (by rw [List.append_assoc, List.getElem?_append_right (by simp), List.getElem?_append_left (by simp [rowsG]; have := HU2.out; have := HM2.out; omega)]; simpa using rowsG_get hv2 hp) rfl
          obtain ⟨wy, hwy⟩ : ∃ z, z = wj.alloc (.cells #[.int .i64 (k : Int)] 3) := ⟨_, rfl⟩
          have V3 := Lib.hid (show Hp w (nums (some ⟨wj.heap.size, 0, none⟩) 1 1 [(k : Int)] :: ([box 24 w.heap.size [.int .i64 (bn : Int), .slice (some ⟨b, off, none⟩) n c], rvals (some ⟨g2', 0, none⟩) m2 c2 us2 pl, rvals Q qn qc us ac2] ++ rowsG us2 pl ++ rowsG us ac2)) wy by rw [hwy]; exact V.out.lit 3 1 1 [.int .i64 (k : Int)] rfl (by omega))
          have BY := (show Below wj.heap.size wj wy by rw [hwy]; exact bnew _ _)
          have x1' := ((bnew wj (.cells #[.int .i64 (k : Int)] 3)).cell (p := ⟨g2', i, none⟩) x3).trans x1
          have x3' := Nat.lt_of_lt_of_le x3 (bnew wj (.cells #[.int .i64 (k : Int)] 3)).size
          obtain ⟨C, cC, w5, hr5, hv5, hg5⟩ := run_cat_nums V3.out (i := 0) rfl 27 p hpn.symm (hci.below BY) (d := vc) (by omega) (by omega)
          have V4 := Lib.hid (show Hp w (nums C (1 + pn) cC ((k : Int) :: p) :: ([box 24 w.heap.size [.int .i64 (bn : Int), .slice (some ⟨b, off, none⟩) n c], rvals (some ⟨g2', 0, none⟩) m2 c2 us2 pl, rvals Q qn qc us ac2] ++ rowsG us2 pl ++ rowsG us ac2)) w5 from hv5)
          obtain ⟨w6, hw6⟩ : ∃ z, z = w5.alloc (.cells #[.slice C (1 + pn) cC] 27) := ⟨_, rfl⟩
          have V5 := Lib.hid (show Hp w (box 27 w5.heap.size [.slice C (1 + pn) cC] :: nums C (1 + pn) cC ((k : Int) :: p) :: ([box 24 w.heap.size [.int .i64 (bn : Int), .slice (some ⟨b, off, none⟩) n c], rvals (some ⟨g2', 0, none⟩) m2 c2 us2 pl, rvals Q qn qc us ac2] ++ rowsG us2 pl ++ rowsG us ac2)) w6 by rw [hw6]; exact V4.out.box_new _ _)
          have y0 := (V5.out.box_at (i := 0) (j := 0) rfl rfl).1
          have hkl : ((k : Int) :: p).length = 1 + pn := by rw [hpn, List.length_cons]; omega
          obtain ⟨g7, c7, w7, hr7, hv7, _⟩ := run_app_rv V5.out (i := 4) rfl (by rw [HUS.out, HQN.out]) 35 C (1 + pn) cC ((k : Int) :: p) hkl y0 (by omega)
          have HNX := Lib.hid (show ac2 ++ [(k : Int) :: p] = acc ++ (pl.take (i + 1)).map ((k : Int) :: ·) by rw [take_map_step _ hp, HAC.out, List.append_assoc])
          have V7 := Lib.hid (show Hp w ([box 24 w.heap.size [.int .i64 (bn : Int), .slice (some ⟨b, off, none⟩) n c], rvals (some ⟨g2', 0, none⟩) m2 c2 us2 pl, rvals (some ⟨g7, 0, none⟩) (qn + 1) c7 (us ++ [(C, cC)]) (acc ++ (pl.take (i + 1)).map ((k : Int) :: ·))] ++ rowsG us2 pl ++ rowsG (us ++ [(C, cC)]) (acc ++ (pl.take (i + 1)).map ((k : Int) :: ·))) w7 by
            have hh := hv7.tail
            rw [← hkl] at hh
            have h2 := row_doneG (by rw [HUS.out, HQN.out]) (l := [box 24 w.heap.size [.int .i64 (bn : Int), .slice (some ⟨b, off, none⟩) n c], rvals (some ⟨g2', 0, none⟩) m2 c2 us2 pl, rvals (some ⟨g7, 0, none⟩) (qn + 1) c7 (us ++ [(C, cC)]) (ac2 ++ [(k : Int) :: p])] ++ rowsG us2 pl) (rows := ac2) (vs := us) hh
            rw [← HNX.out]
            exact h2)
          have HQ7 := Lib.hid (show qn + 1 = (acc ++ (pl.take (i + 1)).map ((k : Int) :: ·)).length by rw [← HNX.out, List.length_append, ← HQN.out]; rfl)
          have HU7 := Lib.hid (show (us ++ [(C, cC)]).length = qn + 1 by rw [List.length_append, HUS.out]; rfl)
          have HY := Lib.hid hwy
          have HR5 := Lib.hid hr5
          have H6 := Lib.hid hw6
          have HR7 := Lib.hid hr7
          clear hwy y0 hv5 hr5 hg5 hw6 hr7 hv7 hkl hci hp hv2 x1 x3 BY hpn
          go_wp2_with (first | (at_builtin; rw [← HY.out]; refine wpList_app_run rfl (.tmp 62) (.tmp 66) 27 rfl HR5.out rfl rfl ?_) | (at_builtin; rw [← H6.out]; refine wpList_app_run rfl (.tmp 60) (.tmp 68) 35 rfl HR7.out rfl rfl ?_))
          go_roundw
          case rel => exact ⟨i + 1, some ⟨g7, 0, none⟩, qn + 1, c7, us ++ [(C, cC)], by go_num, rfl, by omega, HQ7.out, HU7.out, V7.out⟩
          case measure => simp [intOf]; omega
end Go.Proofs.Ytdoobdfanalnbaa
