/- Contract of the program: the classes are divided until nothing is left to divide. -/
import Derived.Test.YtdkdfmflghbhiaaQj
namespace Go.Proofs.Ytdkdfmflghbhiaa
open Go.RowKit
set_option linter.unusedVariables false
set_option linter.unusedSimpArgs false
set_option maxRecDepth 100000

theorem Hp.sink {W w : World} {l l2 : List Itm} {x : Itm} (h : Hp W (x :: (l ++ l2)) w) : Hp W (l ++ x :: l2) w := by
  refine h.sub (fun i => if i < l.length then i + 1 else if i = l.length then 0 else i) (fun i j e => ?_) (fun i it hi => ?_)
  · repeat' split at e
    all_goals omega
  · by_cases h1 : i < l.length
    · rw [List.getElem?_append_left h1] at hi
      simp only [h1, if_true]
      rw [List.getElem?_cons_succ, List.getElem?_append_left h1]
      exact hi
    · rw [List.getElem?_append_right (by omega)] at hi
      simp only [h1, if_false]
      by_cases h2 : i = l.length
      · rw [if_pos h2]
        rw [h2, Nat.sub_self] at hi
        simpa using hi
      · rw [if_neg h2]
        obtain ⟨k, hk⟩ : ∃ k, i = l.length + (k + 1) := ⟨i - l.length - 1, by omega⟩
        rw [show i - l.length = k + 1 by omega, List.getElem?_cons_succ] at hi
        rw [show i = (i - 1) + 1 by omega, List.getElem?_cons_succ, List.getElem?_append_right (by omega), show i - 1 - l.length = k by omega]
        exact hi
theorem Hp.drop_mid {W w : World} {l l2 : List Itm} {x : Itm} (h : Hp W (l ++ x :: l2) w) : Hp W (l ++ l2) w := by
  refine h.sub (fun i => if i < l.length then i else i + 1) (fun i j e => ?_) (fun i it hi => ?_)
  · by_cases h1 : i < l.length <;> by_cases h3 : j < l.length <;> simp only [h1, h3, if_true, if_false] at e <;> omega
  · by_cases h1 : i < l.length
    · rw [List.getElem?_append_left h1] at hi
      simp only [h1, if_true]
      rw [List.getElem?_append_left h1]
      exact hi
    · rw [List.getElem?_append_right (by omega)] at hi
      simp only [h1, if_false]
      rw [List.getElem?_append_right (by omega), show i + 1 - l.length = (i - l.length) + 1 by omega, List.getElem?_cons_succ]
      exact hi
theorem ofNat_at {l : List Nat} {j x : Nat} (h : l[j]? = some x) : (l.map Int.ofNat)[j]? = some (x : Int) := by rw [List.getElem?_map, h]; rfl
theorem part_cells {w : World} {A : Option Addr} {L : List Nat} {a b : Nat} (h : CellsIn w A (ints (pN L))) (hab : a < b) (hb : b ≤ L.length) (A2 : Option Addr) (hA : ∀ g o, A = some ⟨g, o, none⟩ → A2 = some ⟨g, o + a, none⟩) : CellsIn w A2 (ints (pN (Pt.part L a b))) := by
  intro h0
  obtain ⟨g, o, rfl, hlt, hc⟩ := h (by rw [ints_len, pN_len]; omega)
  refine ⟨g, o + a, hA g o rfl, hlt, fun j u hu => ?_⟩
  have hj : j < b - a := by
    have := (List.getElem?_eq_some_iff.1 hu).1
    rw [ints_len, pN_len, Pt.part_len hb] at this
    exact this
  have e : (ints (pN L))[a + j]? = some u := by
    unfold ints pN at hu ⊢
    rw [List.getElem?_map, List.getElem?_map] at hu ⊢
    rw [← Pt.part_at hj]; exact hu
  have := hc (a + j) u e
  rwa [Nat.add_assoc]
set_option maxHeartbeats 16000000 in
theorem refine_any (g N k : Nat) (nx : List Int) (ac lv : List Bool) (p : Pt) (I : Option Addr) (n c : Nat) (J : Option Addr) (m d : Nat) (first from' : List Int) (W w : World) (rest : List Itm) (hS : SrcIn W nx k N I n c J m d first from') (sys : Sys N k (nxF nx k) (acF ac) (acF lv)) (ok : p.Ok N (acF lv) []) (hop : Hop N k (nxF nx k) (acF ac) (acF lv) p 0) (h : PtIn W g N p [] rest w) :
    Calls Try.prog 61 #[.pointer (some ⟨g, 0, none⟩), .agg #[.int .i64 (k : Int), .slice I n c, .slice J m d]] w fun e w' => e = .returned (.tuple #[]) ∧ ∃ p', p'.Ok N (acF lv) [] ∧ Hop N k (nxF nx k) (acF ac) (acF lv) p' p'.sp.length ∧ PtIn W g N p' [] rest w' := by
  have hN := hS.few
  have hk8 := hS.k8
  have HS := Lib.hid hS
  have SYS := Lib.hid sys
  obtain ⟨wz, hwz⟩ : ∃ z, z = w.alloc (.cells #[.int .i64 (k : Int), .slice I n c, .slice J m d] 90) := ⟨_, rfl⟩
  have HX := Lib.hid (show ∃ q, q.Ok N (acF lv) [] ∧ Hop N k (nxF nx k) (acF ac) (acF lv) q 0 ∧ PtIn W g N q [] (box 90 w.heap.size [.int .i64 (k : Int), .slice I n c, .slice J m d] :: rest) wz from ⟨p, ok, hop, by
    obtain ⟨At, nt, ct, Ao, no, co, Ap, cp, Ac, cc, As, ns, cs, Am, nm, cm, hv⟩ := h
    refine ⟨At, nt, ct, Ao, no, co, Ap, cp, Ac, cc, As, ns, cs, Am, nm, cm, ?_⟩
    rw [hwz]
    exact Hp.sink (l := [_, _, _, _, _, _, _]) (hv.box_new 90 [.int .i64 (k : Int), .slice I n c, .slice J m d])⟩)
  have HZ := Lib.hid hwz
  clear hwz hS sys ok hop h
  go_enter Try.func61, Try.ntmps61
  go_upto_region 1 with fail
  rw [← HZ.out]
  clear HZ
  go_wp2_with fail
  go_loopw [4] (fun cv wr => ∃ k0 : Nat, cv = .int .i64 (k0 : Int) ∧ k0 ≤ N ∧ ∃ q, q.Ok N (acF lv) [] ∧ Hop N k (nxF nx k) (acF ac) (acF lv) q k0 ∧ PtIn W g N q [] (box 90 w.heap.size [.int .i64 (k : Int), .slice I n c, .slice J m d] :: rest) wr) (fun cv _ => N - (intOf cv).toNat)
  case atStart => exact ⟨0, rfl, Nat.zero_le _, HX.out⟩
  case round =>
    clear HX
    obtain ⟨k0, rfl, hk0, p, hok, hhop, At, nt, ct, Ao, no, co, Ap, cp, Ac, cc, As, ns, cs, Am, nm, cm, hV⟩ := hrel
    obtain ⟨wi, rfl⟩ : ∃ wi : World, wi = wr := ⟨_, rfl⟩
    have V := Lib.hid hV
    have h4 := V.out.pair_len (i := 4) rfl
    rw [pS_len] at h4
    have HOK := Lib.hid hok
    have HOP := Lib.hid hhop
    obtain ⟨b3, _, b9⟩ := V.out.box_at (i := 0) (j := 3) rfl rfl
    clear hV
    by_cases hlt : k0 < ns
    · have hcs : k0 < p.sp.length := by omega
      obtain ⟨⟨a, b⟩, hsp⟩ : ∃ ab, p.sp[k0]? = some ab := ⟨_, List.getElem?_eq_getElem hcs⟩
      obtain ⟨hab, hbo, _⟩ := hok.o4 k0 a b hsp
      obtain ⟨few1, few2⟩ := hok.few
      have h1 := V.out.num_len (i := 1) rfl
      rw [pN_len] at h1
      have hcap : no ≤ co := (V.out.cap (i := 1) (c := co) rfl rfl).1
      obtain ⟨gs, rfl⟩ := V.out.head (i := 4) (A := As) (c := cs) rfl rfl (show 0 < ns by omega)
      obtain ⟨s0, s1, s9⟩ := V.out.pair_at (i := 4) rfl (pS_at hsp)
      have HSP := Lib.hid hsp
      have HL1 := Lib.hid h1
      have hns : ns ≤ 1010000 := by omega
      have hb1 : b ≤ 1010000 := by omega
      have K4 : (k0 : Int) < (ns : Int) := by omega
      have i1 : (a : Int) ≤ (b : Int) := by omega
      have i2 : (b : Int) ≤ (co : Int) := by omega
      have i3 : a ≤ b := by omega
      have i4 : b ≤ co := by omega
      have hbn : b ≤ no := by omega
      obtain ⟨A, hA⟩ : ∃ A, A = (if co = a then Ao else Option.map (fun x => x.add a) Ao) := ⟨_, rfl⟩
      have HA := Lib.hid hA
      obtain ⟨w4, hw4⟩ : ∃ z, z = wi.alloc (.cells #[.int .i64 (a : Int), .int .i64 (b : Int)] 113) := ⟨_, rfl⟩
      have V4 := Lib.hid (show Hp W (box 113 wi.heap.size [.int .i64 (a : Int), .int .i64 (b : Int)] :: box 97 g [.slice Ao no co, .slice Ap N cp, .slice Ac N cc, .slice (some ⟨gs, 0, none⟩) ns cs, .slice Am nm cm, .slice At nt ct] :: nums Ao no co (pN p.ord) :: nums Ap N cp (pN p.plc) :: nums Ac N cc p.cls :: prow 113 (some ⟨gs, 0, none⟩) ns cs (pS p.sp) :: nums Am nm cm (pN p.mrk) :: nums At nt ct (pN []) :: box 90 w.heap.size [.int .i64 (k : Int), .slice I n c, .slice J m d] :: rest) w4 by rw [hw4]; exact V.out.box_new 113 [.int .i64 (a : Int), .int .i64 (b : Int)])
      have HW4 := Lib.hid hw4
      obtain ⟨S, hSd⟩ : ∃ S, S = Pt.part p.ord a b := ⟨_, rfl⟩
      have hSl : S.length = b - a := by rw [hSd, Pt.part_len hbo]
      have HSL := Lib.hid hSl
      have HSD := Lib.hid hSd
      clear hw4 hsp hok hhop h4 h1 few1 few2 hcap hbo hcs V hA hSl hSd
      go_upto_region 5 with fail
      rw [← HW4.out]
      clear HW4 b3 b9 s0 s1 s9
      go_cut [6] (fun s6 wx => ∃ C dC, s6 = .slice C S.length dC ∧ Hp W (nums C S.length dC (pN S) :: box 113 wi.heap.size [.int .i64 (a : Int), .int .i64 (b : Int)] :: box 97 g [.slice Ao no co, .slice Ap N cp, .slice Ac N cc, .slice (some ⟨gs, 0, none⟩) ns cs, .slice Am nm cm, .slice At nt ct] :: nums Ao no co (pN p.ord) :: nums Ap N cp (pN p.plc) :: nums Ac N cc p.cls :: prow 113 (some ⟨gs, 0, none⟩) ns cs (pS p.sp) :: nums Am nm cm (pN p.mrk) :: nums At nt ct (pN []) :: box 90 w.heap.size [.int .i64 (k : Int), .slice I n c, .slice J m d] :: rest) wx)
      case first =>
        have hKp : Keep [(⟨wi.heap.size, 0, none⟩, .int .i64 (a : Int)), (⟨wi.heap.size, 1, none⟩, .int .i64 (b : Int)), (⟨g, 0, none⟩, .slice Ao no co)] w4 := List.forall_mem_cons.2 ⟨⟨(V4.out.box_at (i := 0) (j := 0) rfl rfl).1, (V4.out.box_at (i := 0) (j := 0) rfl rfl).2.2⟩, List.forall_mem_cons.2 ⟨⟨(V4.out.box_at (i := 0) (j := 1) rfl rfl).1, (V4.out.box_at (i := 0) (j := 1) rfl rfl).2.2⟩, List.forall_mem_cons.2 ⟨⟨(V4.out.box_at (i := 1) (j := 0) rfl rfl).1, (V4.out.box_at (i := 1) (j := 0) rfl rfl).2.2⟩, fun _ h => by simp at h⟩⟩⟩
        refine wp_region_held_drew (S := Keep _) (by kernel_rfl) hKp.drew (fun hHeld => ?_)
        have V4d := Lib.hid (V4.out.go (bdrew _))
        refine tk 0 ?_ rfl ?_ ?_; rotate_left; focus (intro w hSw; clear hSw; go_simp; try (with_reducible rfl))
        try simp only [Act.put, sA, sZ, sS]
        refine tk 1 ?_ rfl ?_ ?_; rotate_left; focus (intro w hSw; clear hSw; go_simp; try (with_reducible rfl))
        try simp only [Act.put, sA, sZ, sS]
        refine tk 2 ?_ rfl ?_ ?_; rotate_left; focus (intro w hSw; clear hSw; go_simp; try (with_reducible rfl))
        try simp only [Act.put, sA, sZ, sS]
        refine tk 3 ?_ rfl ?_ ?_; rotate_left
        · intro wl hSw
          have hSw : Keep _ wl := hSw
          have k0 : wl.cell? ⟨g, 0, none⟩ = some (.slice Ao no co) := (hSw _ (.tail _ (.tail _ (.head _)))).1
          clear hSw
          go_simp
          try (with_reducible rfl)
        try simp only [Act.put, sA, sZ, sS]
        refine tk 4 ?_ rfl ?_ ?_; rotate_left; focus (intro w hSw; clear hSw; go_simp; try (with_reducible rfl))
        try simp only [Act.put, sA, sZ, sS]
        refine tk 5 ?_ rfl ?_ ?_; rotate_left
        · intro wl hSw
          have hSw : Keep _ wl := hSw
          have k0 : wl.cell? ⟨wi.heap.size, 0, none⟩ = some (.int .i64 (a : Int)) := (hSw _ (.head _)).1
          clear hSw
          go_simp
          try (with_reducible rfl)
        try simp only [Act.put, sA, sZ, sS]
        refine tk 6 ?_ rfl ?_ ?_; rotate_left; focus (intro w hSw; clear hSw; go_simp; try (with_reducible rfl))
        try simp only [Act.put, sA, sZ, sS]
        refine tk 7 ?_ rfl ?_ ?_; rotate_left
        · intro wl hSw
          have hSw : Keep _ wl := hSw
          have k0 : wl.cell? ⟨wi.heap.size, 1, none⟩ = some (.int .i64 (b : Int)) := (hSw _ (.tail _ (.head _))).1
          clear hSw
          go_simp
          try (with_reducible rfl)
        try simp only [Act.put, sA, sZ, sS]
        refine tk 8 ?_ rfl ?_ ?_; rotate_left
        · intro w hSw
          clear hSw
          go_simp
          rw [← HA.out]
          try (with_reducible rfl)
        try simp only [Act.put, sA, sZ, sS]
        refine wpAnyH_ready (rs := [9]) (by kernel_rfl) (by simp) ?_
        refine AllReadyH.cons (List.getElem?_toArray.trans rfl) (fun K hK => ?_) AllReadyH.nil
        go_simp
        rw [← HSL.out]
        refine (clone_nums (pN S) A S.length (co - a) W _ _ V4d.out (pN_len S) (by rw [HSL.out]; omega) (by rw [HSD.out]; exact part_cells (V4.out.cells (i := 2) rfl rfl) hab (by rw [HL1.out]; exact hbn) A (fun g o e => by rw [HA.out, if_neg (by omega), e]; simp [Addr.add]))).mono ?_
        rintro e w_9 ⟨C, dC, rfl, hv9, b_9⟩
        try go_wp2_with fail
        have V9 := Lib.hid hv9
        clear hv9
        refine hK.out _ _ (hHeld.go b_9) (fun hHeld => ?_)
        clear hK K
        try simp only [Act.put, sA, sZ, sS]
        refine tk 10 ?_ rfl ?_ ?_; rotate_left; focus (intro w hSw; clear hSw; go_simp; try (with_reducible rfl))
        try simp only [Act.put, sA, sZ, sS]
        refine wpAnyH_done (by kernel_rfl) ?_ _
        go_wp2_with fail
        go_meet
        exact ⟨_, _, rfl, V9.out⟩
      case rest =>
        obtain ⟨C, dC, rfl, hv⟩ := hcut
        obtain ⟨wA, rfl⟩ : ∃ z : World, z = wc := ⟨_, rfl⟩
        have V5 := Lib.hid (show Hp W (box 97 g [.slice Ao no co, .slice Ap N cp, .slice Ac N cc, .slice (some ⟨gs, 0, none⟩) ns cs, .slice Am nm cm, .slice At nt ct] :: nums Ao no co (pN p.ord) :: nums Ap N cp (pN p.plc) :: nums Ac N cc p.cls :: prow 113 (some ⟨gs, 0, none⟩) ns cs (pS p.sp) :: nums Am nm cm (pN p.mrk) :: nums At nt ct (pN []) :: nums C S.length dC (pN S) :: box 90 w.heap.size [.int .i64 (k : Int), .slice I n c, .slice J m d] :: rest) wA from Hp.sink (l := [_, _, _, _, _, _, _]) (Hp.drop2 hv))
        clear hv V4
        obtain ⟨t0, _, t9⟩ := V5.out.box_at (i := 8) (j := 0) rfl rfl
        have HIN := Lib.hid (show ∀ (i j t : Nat), S[i]? = some t → S[j]? = some t → i = j by
          intro i j t hi hj
          have h1 := (List.getElem?_eq_some_iff.1 hi).1
          have h2 := (List.getElem?_eq_some_iff.1 hj).1
          rw [HSL.out] at h1 h2
          rw [HSD.out, Pt.part_at h1] at hi
          rw [HSD.out, Pt.part_at h2] at hj
          have := HOK.out.inj hi hj
          omega)
        have hSb : S.length ≤ 1010000 := by rw [HSL.out]; omega
        have H5 := Lib.hid (show ∃ q, q.Ok N (acF lv) [] ∧ Hop2 N k (nxF nx k) (acF ac) (acF lv) q k0 S 0 ∧ PtIn W g N q [] (nums C S.length dC (pN S) :: box 90 w.heap.size [.int .i64 (k : Int), .slice I n c, .slice J m d] :: rest) wA from ⟨p, HOK.out, by rw [HSD.out]; exact HOP.out.open HOK.out HSP.out, _, _, _, _, _, _, _, _, _, _, _, _, _, _, _, _, V5.out⟩)
        clear V5 HA HSP HL1 HOK HOP HSL HSD
        go_wp2_with fail
        clear t0 t9
        go_loopw [40] (fun cv wr => ∃ c0 : Nat, cv = .int .i64 (c0 : Int) ∧ c0 ≤ k ∧ ∃ q, q.Ok N (acF lv) [] ∧ Hop2 N k (nxF nx k) (acF ac) (acF lv) q k0 S c0 ∧ PtIn W g N q [] (nums C S.length dC (pN S) :: box 90 w.heap.size [.int .i64 (k : Int), .slice I n c, .slice J m d] :: rest) wr) (fun cv _ => k - (intOf cv).toNat)
        case atStart => exact ⟨0, rfl, Nat.zero_le _, H5.out⟩
        case round =>
          clear H5
          obtain ⟨c0, rfl, hc0, q, hok, hh2, hpt⟩ := hrel
          obtain ⟨wj, rfl⟩ : ∃ wj : World, wj = wr := ⟨_, rfl⟩
          have HOK := Lib.hid hok
          have HH2 := Lib.hid hh2
          by_cases hltc : c0 < k
          · have H6 := Lib.hid (show ∃ pm tl2, pm.Ok N (acF lv) tl2 ∧ pm.cls = q.cls ∧ pm.sp = q.sp ∧ (∀ x, x < N → acF lv x = true → (pm.Mkd x ↔ ∃ j : Nat, j < 0 ∧ ∃ t, S[j]? = some t ∧ nxF nx k x c0 = (t : Nat))) ∧ PtIn W g N pm tl2 (nums C S.length dC (pN S) :: box 90 w.heap.size [.int .i64 (k : Int), .slice I n c, .slice J m d] :: rest) wj from ⟨q, [], hok, rfl, rfl, fun x _ _ => ⟨fun ⟨i, cc, a, b, mm, h1, h2, h3, h4, h5⟩ => absurd ((hok.t1 cc).2 ⟨mm, h3, by omega⟩) (by simp), fun ⟨j, hj, _⟩ => by omega⟩, hpt⟩)
            clear hok hh2 hpt
            go_wp2_with fail
            go_loopw [45] (fun cv wr => ∃ i : Nat, cv = .int .i64 (i : Int) ∧ i ≤ S.length ∧ ∃ pm tl2, pm.Ok N (acF lv) tl2 ∧ pm.cls = q.cls ∧ pm.sp = q.sp ∧ (∀ x, x < N → acF lv x = true → (pm.Mkd x ↔ ∃ j : Nat, j < i ∧ ∃ t, S[j]? = some t ∧ nxF nx k x c0 = (t : Nat))) ∧ PtIn W g N pm tl2 (nums C S.length dC (pN S) :: box 90 w.heap.size [.int .i64 (k : Int), .slice I n c, .slice J m d] :: rest) wr) (fun cv _ => S.length - (intOf cv).toNat)
            case atStart => exact ⟨0, rfl, Nat.zero_le _, H6.out⟩
            case round =>
              clear H6
              obtain ⟨i, rfl, hiS, pm, tl2, hpm, hcl, hsp, hmk, hpt⟩ := hrel
              obtain ⟨wl, rfl⟩ : ∃ wl : World, wl = wr := ⟨_, rfl⟩
              have HMK := Lib.hid hmk
              have HCL := Lib.hid (And.intro hcl hsp)
              have HPM := Lib.hid hpm
              have HPT := Lib.hid hpt
              by_cases hlti : i < S.length
              · obtain ⟨tg, htg⟩ : ∃ tg, S[i]? = some tg := ⟨_, List.getElem?_eq_getElem hlti⟩
                obtain ⟨htN, htl, _⟩ := HH2.out.sup tg (List.mem_of_getElem? htg)
                obtain ⟨At, nt, ct, Ao, no, co, Ap, cp, Ac, cc, As, ns, cs, Am, nm, cm, hv⟩ := hpt
                have V := Lib.hid hv
                obtain ⟨gC, hgC⟩ := V.out.head (i := 7) (A := C) (c := dC) rfl rfl (show 0 < S.length by omega)
                subst hgC
                obtain ⟨xt, _, xt9⟩ := V.out.num_get (i := 7) rfl (pN_at htg)
                obtain ⟨t0, _, t9⟩ := V.out.box_at (i := 8) (j := 0) rfl rfl
                obtain ⟨t1, _, _⟩ := V.out.box_at (i := 8) (j := 1) rfl rfl
                obtain ⟨t2, _, _⟩ := V.out.box_at (i := 8) (j := 2) rfl rfl
                have HTG := Lib.hid htg
                have HTL := Lib.hid htl
                have hWb := Lib.hid V.out.below
                clear hv hpm hcl hsp hmk htg htl V
                go_wp2_with fail
                refine (by_any nx k N I n c J m d first from' tg c0 W _ HS.out hWb.out htN hltc).mono ?_
                rintro e w5 ⟨A2, C2, rfl, hcL, b5⟩
                obtain ⟨L, hL⟩ : ∃ L, L = byL nx k tg c0 := ⟨_, rfl⟩
                rw [← hL] at hcL ⊢
                have HCL2 := Lib.hid hcL
                have HLD := Lib.hid hL
                have hLb : L.length ≤ 1010000 := by
                  rw [hL]
                  have := few_below N (byL nx k tg c0) (byL_nodup (t := tg) HS.out.ok HS.out.k0 hltc) (fun x hx => ((byL_mem (t := tg) HS.out.ok HS.out.k0 hltc).1 hx).1)
                  omega
                have H7 := Lib.hid (show ∃ pm tl2, pm.Ok N (acF lv) tl2 ∧ pm.cls = q.cls ∧ pm.sp = q.sp ∧ (∀ x, x < N → acF lv x = true → (pm.Mkd x ↔ (∃ j : Nat, j < i ∧ ∃ t, S[j]? = some t ∧ nxF nx k x c0 = (t : Nat)) ∨ ∃ v : Nat, v < 0 ∧ L[v]? = some x)) ∧ PtIn W g N pm tl2 (nums (some ⟨gC, 0, none⟩) S.length dC (pN S) :: box 90 w.heap.size [.int .i64 (k : Int), .slice I n c, .slice J m d] :: rest) w5 from
                  ⟨pm, tl2, HPM.out, HCL.out.1, HCL.out.2, fun x hx lx => ⟨fun h => .inl ((HMK.out x hx lx).1 h), fun h => by rcases h with h | ⟨v, hv, _⟩; exact (HMK.out x hx lx).2 h; omega⟩, by
                    obtain ⟨At, nt, ct, Ao, no, co, Ap, cp, Ac, cc, As, ns, cs, Am, nm, cm, hv⟩ := HPT.out
                    exact ⟨At, nt, ct, Ao, no, co, Ap, cp, Ac, cc, As, ns, cs, Am, nm, cm, hv.go b5⟩⟩)
                clear hcL hL HPM HCL HMK HPT b5 xt xt9 t0 t1 t2 t9
                go_wp2_with fail
                go_loopw [54] (fun cv wr => ∃ u : Nat, cv = .int .i64 (u : Int) ∧ u ≤ L.length ∧ ∃ pm tl2, pm.Ok N (acF lv) tl2 ∧ pm.cls = q.cls ∧ pm.sp = q.sp ∧ (∀ x, x < N → acF lv x = true → (pm.Mkd x ↔ (∃ j : Nat, j < i ∧ ∃ t, S[j]? = some t ∧ nxF nx k x c0 = (t : Nat)) ∨ ∃ v : Nat, v < u ∧ L[v]? = some x)) ∧ PtIn W g N pm tl2 (nums (some ⟨gC, 0, none⟩) S.length dC (pN S) :: box 90 w.heap.size [.int .i64 (k : Int), .slice I n c, .slice J m d] :: rest) wr) (fun cv _ => L.length - (intOf cv).toNat)
                case atStart => exact ⟨0, rfl, Nat.zero_le _, H7.out⟩
                case round =>
                  clear H7
                  obtain ⟨u, rfl, huL, pm, tl2, hpm, hcl, hsp, hmk, hpt⟩ := hrel
                  obtain ⟨wm, rfl⟩ : ∃ wm : World, wm = wr := ⟨_, rfl⟩
                  by_cases hltu : u < L.length
                  · obtain ⟨x, hx⟩ : ∃ x, L[u]? = some x := ⟨_, List.getElem?_eq_getElem hltu⟩
                    have hxm : x ∈ byL nx k tg c0 := by rw [← HLD.out]; exact List.mem_of_getElem? hx
                    obtain ⟨hxN, hxt⟩ := (byL_mem HS.out.ok HS.out.k0 hltc).1 hxm
                    have hxl : acF lv x = true := by
                      obtain ⟨y, hy, hya⟩ := (SYS.out.live tg htN).1 HTL.out
                      refine (SYS.out.live x hxN).2 ⟨c0 :: y, let_cons hltc hy, ?_⟩
                      rw [List.foldl_cons, gq_nat, hxt]; exact hya
                    have hno : ¬ pm.Mkd x := by
                      intro hmd
                      rcases (hmk x hxN hxl).1 hmd with ⟨j, hj, t, hjt, hnt⟩ | ⟨v, hv, hvx⟩
                      · rw [hxt] at hnt
                        have : t = tg := by omega
                        subst this
                        have := HIN.out _ _ _ hjt HTG.out
                        omega
                      · have hnd := byL_nodup (nx := nx) (t := tg) HS.out.ok HS.out.k0 hltc
                        rw [← HLD.out] at hnd
                        have h1 := List.getElem?_eq_some_iff.1 hvx
                        have h2 := List.getElem?_eq_some_iff.1 hx
                        obtain ⟨a1, a2⟩ := h1
                        obtain ⟨c1, c2⟩ := h2
                        have := (List.pairwise_iff_getElem.1 hnd) v u a1 c1 hv
                        exact this (a2.trans c2.symm)
                    obtain ⟨i2, cl, a2, b2, m2, f1, f2, f3, f4, f5, f6, f7, f8, f9⟩ := hpm.find hxN hxl
                    have f10 : a2 + m2 ≤ i2 := by
                      have := hpm.mkd_at f1 f3 f4 f5 f6
                      by_cases e : i2 < a2 + m2
                      · exact absurd (this.2 e) hno
                      · omega
                    have hol := (List.getElem?_eq_some_iff.1 f1).1
                    obtain ⟨r, hr⟩ : ∃ r, pm.ord[a2 + m2]? = some r := ⟨_, List.getElem?_eq_getElem (by omega)⟩
                    have hrN := (hpm.o1 _ _ hr).1
                    have few := hpm.few
                    have hlm := hpm.lm
                    have htl : tl2.length ≤ 1010000 := by
                      have hx : tl2.length ≤ pm.sp.length := few_below _ _ hpm.t2 (fun x hx => by
                        obtain ⟨m, hm, _⟩ := (hpm.t1 x).1 hx
                        have := (List.getElem?_eq_some_iff.1 hm).1
                        rwa [hpm.lm] at this)
                      omega
                    obtain ⟨mk1, mk2⟩ := Pt.mark_ok hpm f1 f3 f4 f10 f6 hr
                    have hcon := fun (ww : World) (hp : PtIn W g N pm tl2 (nums (some ⟨gC, 0, none⟩) S.length dC (pN S) :: box 90 w.heap.size [.int .i64 (k : Int), .slice I n c, .slice J m d] :: rest) ww) => mark_any g N pm tl2 x i2 cl a2 b2 m2 r W ww _ f1 f2 f7 f3 f4 hr hrN hN (by omega) (by omega) (by omega) htl hp
                    have HCON := Lib.hid (hcon wm hpt)
                    have HREL := Lib.hid (show (pm.marked x i2 cl (a2 + m2) m2 r).Ok N (acF lv) (if m2 = 0 then tl2 ++ [cl] else tl2) ∧ (pm.marked x i2 cl (a2 + m2) m2 r).cls = q.cls ∧ (pm.marked x i2 cl (a2 + m2) m2 r).sp = q.sp ∧ (∀ y, y < N → acF lv y = true → ((pm.marked x i2 cl (a2 + m2) m2 r).Mkd y ↔ (∃ j : Nat, j < i ∧ ∃ t, S[j]? = some t ∧ nxF nx k y c0 = (t : Nat)) ∨ ∃ v : Nat, v < u + 1 ∧ L[v]? = some y)) from
                      ⟨mk1, hcl, hsp, fun y hy ly => by
                        rw [mk2 y, hmk y hy ly]
                        constructor
                        · rintro ((h | ⟨v, h1, h2⟩) | h)
                          · exact .inl h
                          · exact .inr ⟨v, by omega, h2⟩
                          · exact .inr ⟨u, by omega, by rw [h]; exact hx⟩
                        · rintro (h | ⟨v, h1, h2⟩)
                          · exact .inl (.inl h)
                          · by_cases e : v = u
                            · subst e
                              rw [hx] at h2; injection h2 with h2
                              exact .inr h2.symm
                            · exact .inl (.inr ⟨v, by omega, h2⟩)⟩)
                    obtain ⟨bL, oL, rfl, hbL, hcL⟩ := bad_int (HCL2.out.below (by obtain ⟨At, nt, ct, Ao, no, co, Ap, cp, Ac, cc, As, ns, cs, Am, nm, cm, hv⟩ := hpt; exact hv.below)) (ofNat_at hx)
                    clear hx hxm hxt hxl hno f1 f2 f3 f4 f5 f6 f7 f8 f9 f10 hol hr hrN few hlm htl mk1 mk2 hcon hpm hcl hsp hmk hpt
                    go_wp2_with fail
                    refine HCON.out.mono ?_
                    rintro e w6 ⟨rfl, hp6⟩
                    have HP6 := Lib.hid hp6
                    clear hp6 HCON
                    go_wp2_with fail
                    go_roundw
                    case rel => exact ⟨u + 1, by go_num, by omega, _, _, HREL.out.1, HREL.out.2.1, HREL.out.2.2.1, HREL.out.2.2.2, HP6.out⟩
                    case measure => simp [intOf]; omega
                  · obtain rfl : u = L.length := by omega
                    have HREL := Lib.hid (show ∀ x, x < N → acF lv x = true → (pm.Mkd x ↔ ∃ j : Nat, j < i + 1 ∧ ∃ t, S[j]? = some t ∧ nxF nx k x c0 = (t : Nat)) by
                      intro x hxN hxl
                      rw [hmk x hxN hxl]
                      constructor
                      · rintro (⟨j, h1, h2⟩ | ⟨v, h1, h2⟩)
                        · exact ⟨j, by omega, h2⟩
                        · have hxm : x ∈ byL nx k tg c0 := by rw [← HLD.out]; exact List.mem_of_getElem? h2
                          exact ⟨i, by omega, tg, HTG.out, ((byL_mem HS.out.ok HS.out.k0 hltc).1 hxm).2⟩
                      · rintro ⟨j, h1, t, h2, h3⟩
                        by_cases e : j = i
                        · subst e
                          rw [HTG.out] at h2; injection h2 with h2
                          subst h2
                          have hxm : x ∈ L := by rw [HLD.out]; exact (byL_mem HS.out.ok HS.out.k0 hltc).2 ⟨hxN, h3⟩
                          obtain ⟨v, hv⟩ := mem_at hxm
                          exact .inr ⟨v, (List.getElem?_eq_some_iff.1 hv).1, hv⟩
                        · exact .inl ⟨j, by omega, t, h2, h3⟩)
                    have HPT := Lib.hid hpt
                    have HPM := Lib.hid hpm
                    have HCL := Lib.hid (And.intro hcl hsp)
                    clear hmk hpt hpm hcl hsp hltu
                    go_wp2_with fail
                    go_roundw
                    case rel => exact ⟨i + 1, by go_num, by omega, pm, tl2, HPM.out, HCL.out.1, HCL.out.2, HREL.out, HPT.out⟩
                    case measure => simp [intOf]; omega
              · obtain rfl : i = S.length := by omega
                clear hlti hpm hcl hsp hmk hpt
                go_wp2_with fail
                refine (divide_any g N (acF lv) pm tl2 W _ _ HPM.out hN HPT.out).mono ?_
                rintro e w6 ⟨rfl, p', hk', hd', hp'⟩
                have HREL := Lib.hid (show p'.Ok N (acF lv) [] ∧ Hop2 N k (nxF nx k) (acF ac) (acF lv) p' k0 S (c0 + 1) from ⟨hk', HH2.out.step (tl3 := []) SYS.out hltc HOK.out hk' HCL.out.1 HCL.out.2 (fun x hx lx => by
                  rw [HMK.out x hx lx]
                  constructor
                  · rintro ⟨j, _, t, h1, h2⟩; exact ⟨t, List.mem_of_getElem? h1, h2⟩
                  · rintro ⟨t, h1, h2⟩
                    obtain ⟨j, hj⟩ := mem_at h1
                    exact ⟨j, (List.getElem?_eq_some_iff.1 hj).1, t, hj, h2⟩) hd'⟩)
                have HP6 := Lib.hid hp'
                clear hp' hk' hd' HPM HPT HMK HCL HOK HH2
                go_wp2_with fail
                go_roundw
                case rel => exact ⟨c0 + 1, by go_num, by omega, p', HREL.out.1, HREL.out.2, HP6.out⟩
                case measure => simp [intOf]; omega
          · obtain rfl : c0 = k := by omega
            have HREL := Lib.hid (show ∃ q, q.Ok N (acF lv) [] ∧ Hop N c0 (nxF nx c0) (acF ac) (acF lv) q (k0 + 1) ∧ PtIn W g N q [] (box 90 w.heap.size [.int .i64 (c0 : Int), .slice I n c, .slice J m d] :: rest) wj from ⟨q, hok, hh2.close SYS.out hok, by
              obtain ⟨At, nt, ct, Ao, no, co, Ap, cp, Ac, cc, As, ns, cs, Am, nm, cm, hv⟩ := hpt
              exact ⟨At, nt, ct, Ao, no, co, Ap, cp, Ac, cc, As, ns, cs, Am, nm, cm, Hp.drop_mid (l := [_, _, _, _, _, _, _]) hv⟩⟩)
            have hkN := Lib.hid (show k0 + 1 ≤ N by have := hh2.low; have := hok.few; omega)
            clear hok hh2 hpt HOK HH2 hltc
            go_wp2_with fail
            have hkN2 := hkN.out
            go_roundw
            case rel => exact ⟨k0 + 1, by go_num, hkN2, HREL.out⟩
            case measure => simp [intOf]; omega
    · have hend := Lib.hid (show ∃ p', p'.Ok N (acF lv) [] ∧ Hop N k (nxF nx k) (acF ac) (acF lv) p' p'.sp.length ∧ PtIn W g N p' [] rest wi from ⟨p, hok, by
          have e : ((k0 : Nat) : Int) = (k0 : Int) := rfl
          exact ⟨hhop.h1, hhop.h2, fun x y c hx hy lx ly e hc h1 h2 => hhop.h3 x y c hx hy lx ly e hc (by omega) (by omega)⟩, At, nt, ct, Ao, no, co, Ap, cp, Ac, cc, As, ns, cs, Am, nm, cm, Hp.drop_mid (l := [_, _, _, _, _, _, _]) V.out⟩)
      clear hok hhop HOK HOP V h4
      go_wp2_with fail
      go_end0
      exact ⟨rfl, hend.out⟩
end Go.Proofs.Ytdkdfmflghbhiaa
