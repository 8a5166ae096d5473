/- Contract of the program: the classes are divided by their marks. -/
import Derived.Test.YtdkdfmflghbhiaaQi
namespace Go.Proofs.Ytdkdfmflghbhiaa
open Go.RowKit
set_option linter.unusedVariables false
set_option linter.unusedSimpArgs false
set_option maxRecDepth 100000

theorem Hp.pair_fr {W w : World} {l : List Itm} {T : TypeId} {g n c i : Nat} {ps : List (Int × Int)} (h : Hp W l w) (hi : l[i]? = some (prow T (some ⟨g, 0, none⟩) n c ps)) {j : Nat} {p : Int × Int} (hj : ps[j]? = some p) :
    w.frozen? ⟨g, j * 2, none⟩ = false ∧ w.frozen? ⟨g, j * 2 + 1, none⟩ = false :=
  ⟨(h.cell hi (cap := c) rfl (pcells_at hj).1).2.1, (h.cell hi (cap := c) rfl (pcells_at hj).2).2.1⟩
theorem Hp.num_cut {W w : World} {l : List Itm} {i g n c : Nat} {L : List Int} (h : Hp W l w) (hi : l[i]? = some (nums (some ⟨g, 0, none⟩) n c L)) : Hp W (l.set i (nums (some ⟨g, 0, none⟩) 0 c [])) w := by
  have ho := h.own i _ hi
  refine h.upd hi (nums (some ⟨g, 0, none⟩) 0 c []) ⟨rfl, rfl, rfl, Nat.le_refl _, fun k hk _ => rfl⟩ ?_ (fun k hk => .inl hk)
  rcases ho.2 with ⟨e, _⟩ | ⟨g', cap, cur, e, h1, h2, h3, h4, h5, h6⟩
  · cases e
  · cases e
    exact ⟨rfl, .inr ⟨g, c, cur, rfl, h1, h2, Nat.zero_le _, h4, h5, by simp [nums, ints]⟩⟩
theorem Hp.nil_form {W w : World} {l : List Itm} {i n c : Nat} {L : List Int} (h : Hp W l w) (hi : l[i]? = some (nums none n c L)) : n = 0 ∧ c = 0 := by
  have ho := h.own i _ hi
  rcases ho.2 with ⟨e, _⟩ | ⟨g', cap, cur, e, _⟩
  · cases e; exact ⟨rfl, rfl⟩
  · cases e
theorem Hp.swap01 {W w : World} {a b : Itm} {l : List Itm} (h : Hp W (a :: b :: l) w) : Hp W (b :: a :: l) w := by
  refine h.sub (fun i => if i = 0 then 1 else if i = 1 then 0 else i) (fun i j e => ?_) (fun i it hi => ?_)
  · by_cases h1 : i = 0 <;> by_cases h2 : i = 1 <;> by_cases h3 : j = 0 <;> by_cases h4 : j = 1 <;> simp [h1, h2, h3, h4] at e ⊢ <;> omega
  · match i, hi with
    | 0, hi => simpa using hi
    | 1, hi => simpa using hi
    | i + 2, hi => simpa using hi
theorem drop_at {β : Type} {l : List β} {j : Nat} {x : β} (h : l[j]? = some x) : l.drop j = x :: l.drop (j + 1) := by
  obtain ⟨h1, h2⟩ := List.getElem?_eq_some_iff.1 h
  rw [← h2]; exact List.drop_eq_getElem_cons h1
set_option maxHeartbeats 16000000 in
theorem divide_any (g N : Nat) (lv : Nat → Bool) (p : Pt) (tl : List Nat) (W w : World) (rest : List Itm) (ok : p.Ok N lv tl) (hN : N ≤ 1010000) (h : PtIn W g N p tl rest w) :
    Calls Try.prog 78 #[.pointer (some ⟨g, 0, none⟩)] w fun e w' => e = .returned (.tuple #[]) ∧ ∃ p', p'.Ok N lv [] ∧ Pt.Dvd N lv p p' [] ∧ PtIn W g N p' [] rest w' := by
  obtain ⟨At, nt, ct, h2⟩ := h
  have HX := Lib.hid (show ∃ pj, Pt.Ok N lv pj (tl.drop 0) ∧ Pt.Dvd N lv p pj (tl.drop 0) ∧ PtIn2 W g N At nt ct pj tl rest w from ⟨p, ok, Pt.dvd_start ok, h2⟩)
  obtain ⟨Ao, no, co, Ap, cp, Ac, cc, As, ns, cs, Am, nm, cm, hv⟩ := h2
  have V := Lib.hid hv
  have h1 := V.out.num_len (i := 6) rfl
  rw [pN_len] at h1
  have HT := Lib.hid h1
  have OK0 := Lib.hid ok
  have hntb : nt ≤ 1010000 := by
    have hx : tl.length ≤ p.sp.length := few_below _ _ ok.t2 (fun x hx => by
      obtain ⟨m, hm, _⟩ := (ok.t1 x).1 hx
      have := (List.getElem?_eq_some_iff.1 hm).1
      rwa [ok.lm] at this)
    have := ok.few
    omega
  obtain ⟨b5, _, b9⟩ := V.out.box_at (i := 0) (j := 5) rfl rfl
  clear hv h1 V ok
  go_enter Try.func78, Try.ntmps78
  go_wp2_with fail
  clear b5 b9
  go_loopw [13] (fun cv wr => ∃ j : Nat, cv = .int .i64 (j : Int) ∧ j ≤ nt ∧ ∃ pj, Pt.Ok N lv pj (tl.drop j) ∧ Pt.Dvd N lv p pj (tl.drop j) ∧ PtIn2 W g N At nt ct pj tl rest wr) (fun cv _ => nt - (intOf cv).toNat)
  case atStart => exact ⟨0, rfl, Nat.zero_le _, HX.out⟩
  case round =>
    clear HX
    obtain ⟨j, rfl, hjn, pj, hok, hdv, Ao, no, co, Ap, cp, Ac, cc, As, ns, cs, Am, nm, cm, hV⟩ := hrel
    obtain ⟨wi, rfl⟩ : ∃ wi : World, wi = wr := ⟨_, rfl⟩
    have V := Lib.hid hV
    clear hV
    by_cases hlt : j < nt
    · obtain ⟨c, hc⟩ : ∃ c, tl[j]? = some c := ⟨_, List.getElem?_eq_getElem (by rw [HT.out]; exact hlt)⟩
      rw [drop_at hc] at hok hdv
      obtain ⟨m, hm, hm0⟩ := (hok.t1 c).1 (List.mem_cons_self ..)
      have hcm := (List.getElem?_eq_some_iff.1 hm).1
      have hcs : c < pj.sp.length := by rw [← hok.lm]; exact hcm
      obtain ⟨⟨a, b⟩, hsp⟩ : ∃ ab, pj.sp[c]? = some ab := ⟨_, List.getElem?_eq_getElem hcs⟩
      have hmb := hok.m1 c a b m hsp hm
      obtain ⟨hab, hbo, _⟩ := hok.o4 c a b hsp
      obtain ⟨few1, few2⟩ := hok.few
      have h4 := V.out.pair_len (i := 4) rfl
      have h5 := V.out.num_len (i := 5) rfl
      rw [pS_len] at h4
      rw [pN_len] at h5
      have hlm := hok.lm
      obtain ⟨gt, rfl⟩ := V.out.head (i := 6) (A := At) (c := ct) rfl rfl (show 0 < nt by omega)
      obtain ⟨gs, rfl⟩ := V.out.head (i := 4) (A := As) (c := cs) rfl rfl (show 0 < ns by omega)
      obtain ⟨gm, rfl⟩ := V.out.head (i := 5) (A := Am) (c := cm) rfl rfl (show 0 < nm by omega)
      obtain ⟨md, hmd⟩ : ∃ x, x = a + m := ⟨_, rfl⟩
      have HMD := Lib.hid hmd
      have HC := Lib.hid hc
      have HM := Lib.hid hm
      have HSP := Lib.hid hsp
      have HOK := Lib.hid hok
      have HDV := Lib.hid hdv
      have HL5 := Lib.hid h5
      have HL4 := Lib.hid h4
      have hns : ns ≤ 1010000 := by omega
      have hnm : nm ≤ 1010000 := by omega
      have hb1 : b ≤ 1010000 := by omega
      have k4 : c < ns := by omega
      have k5 : c < nm := by omega
      have K4 : (c : Int) < (ns : Int) := by omega
      have K5 : (c : Int) < (nm : Int) := by omega
      have K6 : (j : Int) < (nt : Int) := by omega
      have hw : IntKind.i64.wrap ((a : Int) + (m : Int)) = (md : Int) := by rw [show (a : Int) + (m : Int) = (md : Int) by omega]; exact IntWalk.i64_in _ (by omega)
      have hmdb : md ≤ b := by omega
      have hamd : a < md := by omega
      obtain ⟨xt, _, xt9⟩ := V.out.num_get (i := 6) rfl (pN_at hc)
      obtain ⟨b3, _, b9⟩ := V.out.box_at (i := 0) (j := 3) rfl rfl
      obtain ⟨s0, s1, s9⟩ := V.out.pair_at (i := 4) rfl (pS_at hsp)
      obtain ⟨w4, hw4⟩ : ∃ z, z = wi.alloc (.cells #[.int .i64 (a : Int), .int .i64 (b : Int)] 113) := ⟨_, rfl⟩
      have V4 := Lib.hid (show Hp W (box 113 wi.heap.size [.int .i64 (a : Int), .int .i64 (b : Int)] :: box 97 g [.slice Ao no co, .slice Ap N cp, .slice Ac N cc, .slice (some ⟨gs, 0, none⟩) ns cs, .slice (some ⟨gm, 0, none⟩) nm cm, .slice (some ⟨gt, 0, none⟩) nt ct] :: nums Ao no co (pN pj.ord) :: nums Ap N cp (pN pj.plc) :: nums Ac N cc pj.cls :: prow 113 (some ⟨gs, 0, none⟩) ns cs (pS pj.sp) :: nums (some ⟨gm, 0, none⟩) nm cm (pN pj.mrk) :: nums (some ⟨gt, 0, none⟩) nt ct (pN tl) :: rest) w4 by rw [hw4]; exact V.out.box_new 113 [.int .i64 (a : Int), .int .i64 (b : Int)])
      have HW4 := Lib.hid hw4
      clear hw4 hc hm hsp hok hdv h4 h5 hmd hm0 hcm hcs few1 few2 hlm hmb hbo V
      go_upto_region 4 with fail
      rw [← HW4.out]
      clear HW4 xt xt9 b3 b9 s0 s1 s9
      go_cut [5] (fun s5 wx => s5 = .int .i64 (md : Int) ∧ Hp W (box 113 wi.heap.size [.int .i64 (a : Int), .int .i64 (b : Int)] :: box 97 g [.slice Ao no co, .slice Ap N cp, .slice Ac N cc, .slice (some ⟨gs, 0, none⟩) ns cs, .slice (some ⟨gm, 0, none⟩) nm cm, .slice (some ⟨gt, 0, none⟩) nt ct] :: nums Ao no co (pN pj.ord) :: nums Ap N cp (pN pj.plc) :: nums Ac N cc pj.cls :: prow 113 (some ⟨gs, 0, none⟩) ns cs (pS pj.sp) :: nums (some ⟨gm, 0, none⟩) nm cm (pN pj.mrk) :: nums (some ⟨gt, 0, none⟩) nt ct (pN tl) :: rest) wx)
      case first =>
        have hKp : Keep [(⟨wi.heap.size, 0, none⟩, .int .i64 (a : Int)), (⟨g, 4, none⟩, .slice (some ⟨gm, 0, none⟩) nm cm), (⟨gm, c, none⟩, .int .i64 (m : Int))] w4 := List.forall_mem_cons.2 ⟨⟨(V4.out.box_at (i := 0) (j := 0) rfl rfl).1, (V4.out.box_at (i := 0) (j := 0) rfl rfl).2.2⟩, List.forall_mem_cons.2 ⟨⟨(V4.out.box_at (i := 1) (j := 4) rfl rfl).1, (V4.out.box_at (i := 1) (j := 4) rfl rfl).2.2⟩, List.forall_mem_cons.2 ⟨⟨(V4.out.num_get (i := 6) rfl (pN_at HM.out)).1, (V4.out.num_get (i := 6) rfl (pN_at HM.out)).2.2⟩, fun _ h => by simp at h⟩⟩⟩
        refine wp_region_held_drew (S := Keep _) (by kernel_rfl) hKp.drew (fun hHeld => ?_)
        have V4d := Lib.hid (V4.out.go (bdrew _))
        refine tk 0 ?_ rfl ?_ ?_; rotate_left; focus (intro w hSw; clear hSw; go_simp; try (with_reducible rfl))
        try simp only [Act.put, sA, sZ, sS]
        refine tk 1 ?_ rfl ?_ ?_; rotate_left
        · intro wl hSw
          have hSw : Keep _ wl := hSw
          have k0 : wl.cell? ⟨wi.heap.size, 0, none⟩ = some (.int .i64 (a : Int)) := (hSw _ (.head _)).1
          clear hSw
          go_simp
          try (with_reducible rfl)
        try simp only [Act.put, sA, sZ, sS]
        refine tk 2 ?_ rfl ?_ ?_; rotate_left; focus (intro w hSw; clear hSw; go_simp; try (with_reducible rfl))
        try simp only [Act.put, sA, sZ, sS]
        refine tk 3 ?_ rfl ?_ ?_; rotate_left; focus (intro w hSw; clear hSw; go_simp; try (with_reducible rfl))
        try simp only [Act.put, sA, sZ, sS]
        refine tk 4 ?_ rfl ?_ ?_; rotate_left; focus (intro w hSw; clear hSw; go_simp; try (with_reducible rfl))
        try simp only [Act.put, sA, sZ, sS]
        refine tk 5 ?_ rfl ?_ ?_; rotate_left
        · intro wl hSw
          have hSw : Keep _ wl := hSw
          have k0 : wl.cell? ⟨g, 4, none⟩ = some (.slice (some ⟨gm, 0, none⟩) nm cm) := (hSw _ (.tail _ (.head _))).1
          clear hSw
          go_simp
          try (with_reducible rfl)
        try simp only [Act.put, sA, sZ, sS]
        refine tk 6 ?_ rfl ?_ ?_; rotate_left; focus (intro w hSw; clear hSw; go_simp; try (with_reducible rfl))
        try simp only [Act.put, sA, sZ, sS]
        refine tk 7 ?_ rfl ?_ ?_; rotate_left; focus (intro w hSw; clear hSw; go_simp; try (with_reducible rfl))
        try simp only [Act.put, sA, sZ, sS]
        refine tk 8 ?_ rfl ?_ ?_; rotate_left
        · intro wl hSw
          have hSw : Keep _ wl := hSw
          have k0 : wl.cell? ⟨gm, c, none⟩ = some (.int .i64 (m : Int)) := (hSw _ (.tail _ (.tail _ (.head _)))).1
          clear hSw
          go_simp
          try (with_reducible rfl)
        try simp only [Act.put, sA, sZ, sS]
        refine tk 9 ?_ rfl ?_ ?_; rotate_left; focus (intro w hSw; clear hSw; go_simp; try (with_reducible rfl))
        try simp only [Act.put, sA, sZ, sS]
        refine tk 10 ?_ rfl ?_ ?_; rotate_left; focus (intro w hSw; clear hSw; go_simp; try (with_reducible rfl))
        try simp only [Act.put, sA, sZ, sS]
        refine wpAnyH_done (by kernel_rfl) ?_ _
        go_wp2_with fail
        go_meet
        exact ⟨rfl, V4d.out⟩
      case rest =>
        obtain ⟨rfl, hv⟩ := hcut
        obtain ⟨wA, rfl⟩ : ∃ z : World, z = wc := ⟨_, rfl⟩
        have V5 := Lib.hid hv
        clear hv V4
        obtain ⟨b4, _, b9⟩ := V5.out.box_at (i := 1) (j := 4) rfl rfl
        obtain ⟨x5, o5, x9⟩ := V5.out.num_get (i := 6) rfl (pN_at HM.out)
        obtain ⟨s1, _, s9⟩ := V5.out.box_at (i := 0) (j := 1) rfl rfl
        have V6 := Lib.hid (show Hp W (box 113 wi.heap.size [.int .i64 (a : Int), .int .i64 (b : Int)] :: box 97 g [.slice Ao no co, .slice Ap N cp, .slice Ac N cc, .slice (some ⟨gs, 0, none⟩) ns cs, .slice (some ⟨gm, 0, none⟩) nm cm, .slice (some ⟨gt, 0, none⟩) nt ct] :: nums Ao no co (pN pj.ord) :: nums Ap N cp (pN pj.plc) :: nums Ac N cc pj.cls :: prow 113 (some ⟨gs, 0, none⟩) ns cs (pS pj.sp) :: nums (some ⟨gm, 0, none⟩) nm cm (pN (pj.mrk.set c 0)) :: nums (some ⟨gt, 0, none⟩) nt ct (pN tl) :: rest) (wA.setCell ⟨gm, c, none⟩ (.int .i64 0)) by have := V5.out.num_set (i := 6) rfl c 0; rw [pN_set]; exact this)
        obtain ⟨t1, _, t9⟩ := V6.out.box_at (i := 0) (j := 1) rfl rfl
        by_cases hmb : md = b
        · have e1 : ((md : Int) == (b : Int)) = true := beq_yes (by omega)
          have HK := Lib.hid (Pt.clear_ok HOK.out)
          have HD := Lib.hid (Pt.dvd_clear OK0.out HOK.out HDV.out HSP.out HM.out (by rw [← HMD.out]; exact hmb))
          clear hmb V5
          go_wp2_with fail
          go_roundw
          case rel => exact ⟨j + 1, by go_num, by omega, _, HK.out, HD.out, _, _, _, _, _, _, _, _, _, _, _, _, _, V6.out.tail⟩
          case measure => simp [intOf]; omega
        · have e1 : ((md : Int) == (b : Int)) = false := beq_no (by omega)
          have hmb2 : md < b := by omega
          clear hmb V5
          go_upto_region 7 with fail
          obtain ⟨wB, hwB⟩ : ∃ z, z = wA.setCell ⟨gm, c, none⟩ (.int .i64 0) := ⟨_, rfl⟩
          rw [← hwB]
          have V7 := Lib.hid (show Hp W (box 113 wi.heap.size [.int .i64 (a : Int), .int .i64 (b : Int)] :: box 97 g [.slice Ao no co, .slice Ap N cp, .slice Ac N cc, .slice (some ⟨gs, 0, none⟩) ns cs, .slice (some ⟨gm, 0, none⟩) nm cm, .slice (some ⟨gt, 0, none⟩) nt ct] :: nums Ao no co (pN pj.ord) :: nums Ap N cp (pN pj.plc) :: nums Ac N cc pj.cls :: prow 113 (some ⟨gs, 0, none⟩) ns cs (pS pj.sp) :: nums (some ⟨gm, 0, none⟩) nm cm (pN (pj.mrk.set c 0)) :: nums (some ⟨gt, 0, none⟩) nt ct (pN tl) :: rest) wB by rw [hwB]; exact V6.out)
          clear V6 hwB b4 b9 x5 o5 x9 s1 s9 t1 t9
          go_cut [6, 7] (fun s6 s7 wx => ∃ g6 g7, s6 = .pointer (some ⟨g6, 0, none⟩) ∧ s7 = .pointer (some ⟨g7, 0, none⟩) ∧ Hp W (box 113 g6 [.int .i64 (a : Int), .int .i64 (md : Int)] :: box 113 g7 [.int .i64 (md : Int), .int .i64 (b : Int)] :: box 113 wi.heap.size [.int .i64 (a : Int), .int .i64 (b : Int)] :: box 97 g [.slice Ao no co, .slice Ap N cp, .slice Ac N cc, .slice (some ⟨gs, 0, none⟩) ns cs, .slice (some ⟨gm, 0, none⟩) nm cm, .slice (some ⟨gt, 0, none⟩) nt ct] :: nums Ao no co (pN pj.ord) :: nums Ap N cp (pN pj.plc) :: nums Ac N cc pj.cls :: prow 113 (some ⟨gs, 0, none⟩) ns cs (pS pj.sp) :: nums (some ⟨gm, 0, none⟩) nm cm (pN (pj.mrk.set c 0)) :: nums (some ⟨gt, 0, none⟩) nt ct (pN tl) :: rest) wx)
          case first =>
            have hKp : Keep [(⟨wi.heap.size, 0, none⟩, .int .i64 (a : Int)), (⟨wi.heap.size, 1, none⟩, .int .i64 (b : Int))] wB := List.forall_mem_cons.2 ⟨⟨(V7.out.box_at (i := 0) (j := 0) rfl rfl).1, (V7.out.box_at (i := 0) (j := 0) rfl rfl).2.2⟩, List.forall_mem_cons.2 ⟨⟨(V7.out.box_at (i := 0) (j := 1) rfl rfl).1, (V7.out.box_at (i := 0) (j := 1) rfl rfl).2.2⟩, fun _ h => by simp at h⟩⟩
            refine wp_region_held_drew (S := Keep _) (by kernel_rfl) hKp.drew (fun hHeld => ?_)
            have V7d := Lib.hid (V7.out.go (bdrew _))
            refine tk 0 ?_ rfl ?_ ?_; rotate_left; focus (intro w hSw; clear hSw; go_simp; try (with_reducible rfl))
            try simp only [Act.put, sA, sZ, sS]
            refine tk 1 ?_ rfl ?_ ?_; rotate_left
            · intro wl hSw
              have hSw : Keep _ wl := hSw
              have k0 : wl.cell? ⟨wi.heap.size, 0, none⟩ = some (.int .i64 (a : Int)) := (hSw _ (.head _)).1
              clear hSw
              go_simp
              try (with_reducible rfl)
            try simp only [Act.put, sA, sZ, sS]
            refine tk 2 ?_ rfl ?_ ?_; rotate_left; focus (intro w hSw; clear hSw; go_simp; try (with_reducible rfl))
            try simp only [Act.put, sA, sZ, sS]
            refine tk 3 ?_ rfl ?_ ?_; rotate_left; focus (intro w hSw; clear hSw; go_simp; try (with_reducible rfl))
            try simp only [Act.put, sA, sZ, sS]
            refine tk 4 ?_ rfl ?_ ?_; rotate_left; focus (intro w hSw; clear hSw; go_simp; try (with_reducible rfl))
            try simp only [Act.put, sA, sZ, sS]
            refine tk 5 ?_ rfl ?_ ?_; rotate_left; focus (intro w hSw; clear hSw; go_simp; try (with_reducible rfl))
            try simp only [Act.put, sA, sZ, sS]
            refine tk 6 ?_ rfl ?_ ?_; rotate_left
            · intro wl hSw
              have hSw : Keep _ wl := hSw
              have k0 : wl.cell? ⟨wi.heap.size, 1, none⟩ = some (.int .i64 (b : Int)) := (hSw _ (.tail _ (.head _))).1
              clear hSw
              go_simp
              try (with_reducible rfl)
            try simp only [Act.put, sA, sZ, sS]
            refine tk 7 ?_ rfl ?_ ?_; rotate_left; focus (intro w hSw; clear hSw; go_simp; try (with_reducible rfl))
            try simp only [Act.put, sA, sZ, sS]
            refine wpAnyH_ready (rs := [8, 9]) (by kernel_rfl) (by simp) ?_
            refine AllReadyH.cons (List.getElem?_toArray.trans rfl) (fun K hK => ?_) ?_
            · obtain ⟨w_8, hw_8⟩ : ∃ z, z = (wB.alloc (.cells #[.int .i64 0, .int .i64 0] 113)).drew := ⟨_, rfl⟩
              have V_8 := Lib.hid (show Hp _ (box 113 wB.heap.size [.int .i64 0, .int .i64 0] :: _) w_8 by rw [hw_8]; exact V7d.out.box_new 113 [.int .i64 0, .int .i64 0])
              have Bw_8 := Lib.hid (show Below wB.drew.heap.size wB.drew w_8 by rw [hw_8]; exact bnew _ _)
              go_simp
              rw [← hw_8]
              clear hw_8
              refine hK.out _ _ (hHeld.go Bw_8.out) (fun hHeld => ?_)
              clear hK K
              try simp only [Act.put, sA, sZ, sS]
              refine wpAnyH_ready (rs := [9]) (by kernel_rfl) (by simp) ?_
              refine AllReadyH.cons (List.getElem?_toArray.trans rfl) (fun K hK => ?_) AllReadyH.nil
              obtain ⟨w_8_9, hw_8_9⟩ : ∃ z, z = (w_8.alloc (.cells #[.int .i64 0, .int .i64 0] 113)) := ⟨_, rfl⟩
              have V_8_9 := Lib.hid (show Hp _ (box 113 w_8.heap.size [.int .i64 0, .int .i64 0] :: _) w_8_9 by rw [hw_8_9]; exact V_8.out.box_new 113 [.int .i64 0, .int .i64 0])
              have Bw_8_9 := Lib.hid (show Below w_8.heap.size w_8 w_8_9 by rw [hw_8_9]; exact bnew _ _)
              go_simp
              rw [← hw_8_9]
              clear hw_8_9
              refine hK.out _ _ (hHeld.go Bw_8_9.out) (fun hHeld => ?_)
              clear hK K
              try simp only [Act.put, sA, sZ, sS]
              refine wpAnyH_ready (rs := [10]) (by kernel_rfl) (by simp) ?_
              refine AllReadyH.cons (List.getElem?_toArray.trans rfl) (fun K hK => ?_) AllReadyH.nil
              obtain ⟨r0, o0, z0⟩ := V_8_9.out.box_at (i := 1) (j := 0) rfl rfl
              obtain ⟨r1, o1, z1⟩ := V_8_9.out.box_at (i := 1) (j := 1) rfl rfl
              have VA := Lib.hid ((V_8_9.out.box_set (i := 1) rfl 0 (.int .i64 (a : Int))).box_set (i := 1) rfl 1 (.int .i64 (md : Int)))
              go_simp
              refine hK.out _ _ (List.forall_mem_cons.2 ⟨⟨(VA.out.box_at (i := 2) (j := 0) rfl rfl).1, (VA.out.box_at (i := 2) (j := 0) rfl rfl).2.2⟩, List.forall_mem_cons.2 ⟨⟨(VA.out.box_at (i := 2) (j := 1) rfl rfl).1, (VA.out.box_at (i := 2) (j := 1) rfl rfl).2.2⟩, fun _ h => by simp at h⟩⟩) (fun hHeld => ?_)
              clear hK K
              try simp only [Act.put, sA, sZ, sS]
              refine wpAnyH_ready (rs := [11]) (by kernel_rfl) (by simp) ?_
              refine AllReadyH.cons (List.getElem?_toArray.trans rfl) (fun K hK => ?_) AllReadyH.nil
              obtain ⟨r0, o0, z0⟩ := VA.out.box_at (i := 0) (j := 0) rfl rfl
              obtain ⟨r1, o1, z1⟩ := VA.out.box_at (i := 0) (j := 1) rfl rfl
              obtain ⟨u0, v0, _⟩ := V_8_9.out.box_at (i := 0) (j := 0) rfl rfl
              obtain ⟨u1, v1, _⟩ := V_8_9.out.box_at (i := 0) (j := 1) rfl rfl
              have hne := V_8_9.out.sep 0 1 _ _ (by decide) rfl rfl _ rfl
              simp [box, Value.ownBlock] at hne
              have VB := Lib.hid ((VA.out.box_set (i := 0) rfl 0 (.int .i64 (md : Int))).box_set (i := 0) rfl 1 (.int .i64 (b : Int)))
              go_simp
              refine hK.out _ _ (List.forall_mem_cons.2 ⟨⟨(VB.out.box_at (i := 2) (j := 0) rfl rfl).1, (VB.out.box_at (i := 2) (j := 0) rfl rfl).2.2⟩, List.forall_mem_cons.2 ⟨⟨(VB.out.box_at (i := 2) (j := 1) rfl rfl).1, (VB.out.box_at (i := 2) (j := 1) rfl rfl).2.2⟩, fun _ h => by simp at h⟩⟩) (fun hHeld => ?_)
              clear hK K
              try simp only [Act.put, sA, sZ, sS]
              refine wpAnyH_done (by kernel_rfl) ?_ _
              go_wp2_with fail
              go_meet
              exact ⟨_, _, rfl, rfl, VB.out.swap01⟩
            refine AllReadyH.cons (List.getElem?_toArray.trans rfl) (fun K hK => ?_) ?_
            · obtain ⟨w_9, hw_9⟩ : ∃ z, z = (wB.alloc (.cells #[.int .i64 0, .int .i64 0] 113)).drew := ⟨_, rfl⟩
              have V_9 := Lib.hid (show Hp _ (box 113 wB.heap.size [.int .i64 0, .int .i64 0] :: _) w_9 by rw [hw_9]; exact V7d.out.box_new 113 [.int .i64 0, .int .i64 0])
              have Bw_9 := Lib.hid (show Below wB.drew.heap.size wB.drew w_9 by rw [hw_9]; exact bnew _ _)
              go_simp
              rw [← hw_9]
              clear hw_9
              refine hK.out _ _ (hHeld.go Bw_9.out) (fun hHeld => ?_)
              clear hK K
              try simp only [Act.put, sA, sZ, sS]
              refine wpAnyH_ready (rs := [8]) (by kernel_rfl) (by simp) ?_
              refine AllReadyH.cons (List.getElem?_toArray.trans rfl) (fun K hK => ?_) AllReadyH.nil
              obtain ⟨w_9_8, hw_9_8⟩ : ∃ z, z = (w_9.alloc (.cells #[.int .i64 0, .int .i64 0] 113)) := ⟨_, rfl⟩
              have V_9_8 := Lib.hid (show Hp _ (box 113 w_9.heap.size [.int .i64 0, .int .i64 0] :: _) w_9_8 by rw [hw_9_8]; exact V_9.out.box_new 113 [.int .i64 0, .int .i64 0])
              have Bw_9_8 := Lib.hid (show Below w_9.heap.size w_9 w_9_8 by rw [hw_9_8]; exact bnew _ _)
              go_simp
              rw [← hw_9_8]
              clear hw_9_8
              refine hK.out _ _ (hHeld.go Bw_9_8.out) (fun hHeld => ?_)
              clear hK K
              try simp only [Act.put, sA, sZ, sS]
              refine wpAnyH_ready (rs := [10]) (by kernel_rfl) (by simp) ?_
              refine AllReadyH.cons (List.getElem?_toArray.trans rfl) (fun K hK => ?_) AllReadyH.nil
              obtain ⟨r0, o0, z0⟩ := V_9_8.out.box_at (i := 0) (j := 0) rfl rfl
              obtain ⟨r1, o1, z1⟩ := V_9_8.out.box_at (i := 0) (j := 1) rfl rfl
              have VA := Lib.hid ((V_9_8.out.box_set (i := 0) rfl 0 (.int .i64 (a : Int))).box_set (i := 0) rfl 1 (.int .i64 (md : Int)))
              go_simp
              refine hK.out _ _ (List.forall_mem_cons.2 ⟨⟨(VA.out.box_at (i := 2) (j := 0) rfl rfl).1, (VA.out.box_at (i := 2) (j := 0) rfl rfl).2.2⟩, List.forall_mem_cons.2 ⟨⟨(VA.out.box_at (i := 2) (j := 1) rfl rfl).1, (VA.out.box_at (i := 2) (j := 1) rfl rfl).2.2⟩, fun _ h => by simp at h⟩⟩) (fun hHeld => ?_)
              clear hK K
              try simp only [Act.put, sA, sZ, sS]
              refine wpAnyH_ready (rs := [11]) (by kernel_rfl) (by simp) ?_
              refine AllReadyH.cons (List.getElem?_toArray.trans rfl) (fun K hK => ?_) AllReadyH.nil
              obtain ⟨r0, o0, z0⟩ := VA.out.box_at (i := 1) (j := 0) rfl rfl
              obtain ⟨r1, o1, z1⟩ := VA.out.box_at (i := 1) (j := 1) rfl rfl
              obtain ⟨u0, v0, _⟩ := V_9_8.out.box_at (i := 1) (j := 0) rfl rfl
              obtain ⟨u1, v1, _⟩ := V_9_8.out.box_at (i := 1) (j := 1) rfl rfl
              have hne := V_9_8.out.sep 0 1 _ _ (by decide) rfl rfl _ rfl
              simp [box, Value.ownBlock] at hne
              have VB := Lib.hid ((VA.out.box_set (i := 1) rfl 0 (.int .i64 (md : Int))).box_set (i := 1) rfl 1 (.int .i64 (b : Int)))
              go_simp
              refine hK.out _ _ (List.forall_mem_cons.2 ⟨⟨(VB.out.box_at (i := 2) (j := 0) rfl rfl).1, (VB.out.box_at (i := 2) (j := 0) rfl rfl).2.2⟩, List.forall_mem_cons.2 ⟨⟨(VB.out.box_at (i := 2) (j := 1) rfl rfl).1, (VB.out.box_at (i := 2) (j := 1) rfl rfl).2.2⟩, fun _ h => by simp at h⟩⟩) (fun hHeld => ?_)
              clear hK K
              try simp only [Act.put, sA, sZ, sS]
              refine wpAnyH_done (by kernel_rfl) ?_ _
              go_wp2_with fail
              go_meet
              exact ⟨_, _, rfl, rfl, VB.out⟩
            exact AllReadyH.nil
          case rest =>
            obtain ⟨g6, g7, rfl, rfl, hv⟩ := hcut
            obtain ⟨wD, rfl⟩ : ∃ z : World, z = wc := ⟨_, rfl⟩
            have V8 := Lib.hid hv
            clear hv V7
            obtain ⟨fl, hfl⟩ : ∃ x, x = md - a := ⟨_, rfl⟩
            obtain ⟨sl, hsl⟩ : ∃ x, x = b - md := ⟨_, rfl⟩
            have hwf : IntKind.i64.wrap ((md : Int) - (a : Int)) = (fl : Int) := by rw [show (md : Int) - (a : Int) = (fl : Int) by omega]; exact IntWalk.i64_in _ (by omega)
            have hws : IntKind.i64.wrap ((b : Int) - (md : Int)) = (sl : Int) := by rw [show (b : Int) - (md : Int) = (sl : Int) by omega]; exact IntWalk.i64_in _ (by omega)
            obtain ⟨p0, q0, p9⟩ := V8.out.box_at (i := 0) (j := 0) rfl rfl
            obtain ⟨p1, q1, _⟩ := V8.out.box_at (i := 0) (j := 1) rfl rfl
            obtain ⟨p2, q2, p8⟩ := V8.out.box_at (i := 1) (j := 0) rfl rfl
            obtain ⟨p3, q3, _⟩ := V8.out.box_at (i := 1) (j := 1) rfl rfl
            have hne := V8.out.sep 0 1 _ _ (by decide) rfl rfl g6 rfl
            have hne : ¬ g7 = g6 := by simpa [box, Value.ownBlock] using hne
            have hne2 : ¬ g6 = g7 := fun e => hne e.symm
            clear hfl hsl
            by_cases hgt : sl < fl
            · have hgt2 : (sl : Int) < (fl : Int) := by omega
              obtain ⟨wE, hwE⟩ : ∃ z, z = (((wD.setCell ⟨g6, 0, none⟩ (.int .i64 (md : Int))).setCell ⟨g6, 1, none⟩ (.int .i64 (b : Int))).setCell ⟨g7, 0, none⟩ (.int .i64 (a : Int))).setCell ⟨g7, 1, none⟩ (.int .i64 (md : Int)) := ⟨_, rfl⟩
              have V9 := Lib.hid (show Hp W (box 113 g6 [.int .i64 (md : Int), .int .i64 (b : Int)] :: box 113 g7 [.int .i64 (a : Int), .int .i64 (md : Int)] :: box 113 wi.heap.size [.int .i64 (a : Int), .int .i64 (b : Int)] :: box 97 g [.slice Ao no co, .slice Ap N cp, .slice Ac N cc, .slice (some ⟨gs, 0, none⟩) ns cs, .slice (some ⟨gm, 0, none⟩) nm cm, .slice (some ⟨gt, 0, none⟩) nt ct] :: nums Ao no co (pN pj.ord) :: nums Ap N cp (pN pj.plc) :: nums Ac N cc pj.cls :: prow 113 (some ⟨gs, 0, none⟩) ns cs (pS pj.sp) :: nums (some ⟨gm, 0, none⟩) nm cm (pN (pj.mrk.set c 0)) :: nums (some ⟨gt, 0, none⟩) nt ct (pN tl) :: rest) wE by rw [hwE]; exact (((V8.out.box_set (i := 0) rfl 0 (.int .i64 (md : Int))).box_set (i := 0) rfl 1 (.int .i64 (b : Int))).box_set (i := 1) rfl 0 (.int .i64 (a : Int))).box_set (i := 1) rfl 1 (.int .i64 (md : Int)))
              have HE := Lib.hid hwE
              clear hwE V8
              go_upto_region 10 with fail
              rw [← HE.out]
              clear HE p0 q0 p9 p1 q1 p2 q2 p8 p3 q3
              go_cut [] (fun wx => Hp W (box 113 g6 [.int .i64 (md : Int), .int .i64 (b : Int)] :: box 113 g7 [.int .i64 (a : Int), .int .i64 (md : Int)] :: box 113 wi.heap.size [.int .i64 (a : Int), .int .i64 (b : Int)] :: box 97 g [.slice Ao no co, .slice Ap N cp, .slice Ac N cc, .slice (some ⟨gs, 0, none⟩) ns cs, .slice (some ⟨gm, 0, none⟩) nm cm, .slice (some ⟨gt, 0, none⟩) nt ct] :: nums Ao no co (pN pj.ord) :: nums Ap N cp (pN pj.plc) :: nums Ac N cc pj.cls :: prow 113 (some ⟨gs, 0, none⟩) ns cs (pS (pj.sp.set c (a, md))) :: nums (some ⟨gm, 0, none⟩) nm cm (pN (pj.mrk.set c 0)) :: nums (some ⟨gt, 0, none⟩) nt ct (pN tl) :: rest) wx)
              case first =>
                have hKp : Keep [(⟨g, 3, none⟩, .slice (some ⟨gs, 0, none⟩) ns cs), (⟨g7, 0, none⟩, .int .i64 (a : Int)), (⟨g7, 1, none⟩, .int .i64 (md : Int))] _ := List.forall_mem_cons.2 ⟨⟨(V9.out.box_at (i := 3) (j := 3) rfl rfl).1, (V9.out.box_at (i := 3) (j := 3) rfl rfl).2.2⟩, List.forall_mem_cons.2 ⟨⟨(V9.out.box_at (i := 1) (j := 0) rfl rfl).1, (V9.out.box_at (i := 1) (j := 0) rfl rfl).2.2⟩, List.forall_mem_cons.2 ⟨⟨(V9.out.box_at (i := 1) (j := 1) rfl rfl).1, (V9.out.box_at (i := 1) (j := 1) rfl rfl).2.2⟩, fun _ h => by simp at h⟩⟩⟩
                refine wp_region_held_drew (S := Keep _) (by kernel_rfl) hKp.drew (fun hHeld => ?_)
                have V9d := Lib.hid (V9.out.go (bdrew _))
                refine tk 0 ?_ rfl ?_ ?_; rotate_left; focus (intro w hSw; clear hSw; go_simp; try (with_reducible rfl))
                try simp only [Act.put, sA, sZ, sS]
                refine tk 1 ?_ rfl ?_ ?_; rotate_left; focus (intro w hSw; clear hSw; go_simp; try (with_reducible rfl))
                try simp only [Act.put, sA, sZ, sS]
                refine tk 2 ?_ rfl ?_ ?_; rotate_left; focus (intro w hSw; clear hSw; go_simp; try (with_reducible rfl))
                try simp only [Act.put, sA, sZ, sS]
                refine tk 3 ?_ rfl ?_ ?_; rotate_left
                · intro wl hSw
                  have hSw : Keep _ wl := hSw
                  have k0 : wl.cell? ⟨g, 3, none⟩ = some (.slice (some ⟨gs, 0, none⟩) ns cs) := (hSw _ (.head _)).1
                  clear hSw
                  go_simp
                  try (with_reducible rfl)
                try simp only [Act.put, sA, sZ, sS]
                refine tk 4 ?_ rfl ?_ ?_; rotate_left; focus (intro w hSw; clear hSw; go_simp; try (with_reducible rfl))
                try simp only [Act.put, sA, sZ, sS]
                refine tk 5 ?_ rfl ?_ ?_; rotate_left
                · intro wl hSw
                  have hSw : Keep _ wl := hSw
                  have k0 : wl.cell? ⟨g7, 0, none⟩ = some (.int .i64 (a : Int)) := (hSw _ (.tail _ (.head _))).1
                  have k1 : wl.cell? ⟨g7, 1, none⟩ = some (.int .i64 (md : Int)) := (hSw _ (.tail _ (.tail _ (.head _)))).1
                  clear hSw
                  go_simp
                  try (with_reducible rfl)
                try simp only [Act.put, sA, sZ, sS]
                refine tk 6 ?_ rfl ?_ ?_; rotate_left; focus (intro w hSw; clear hSw; go_simp; try (with_reducible rfl))
                try simp only [Act.put, sA, sZ, sS]
                refine wpAnyH_ready (rs := [7]) (by kernel_rfl) (by simp) ?_
                refine AllReadyH.cons (List.getElem?_toArray.trans rfl) (fun K hK => ?_) AllReadyH.nil
                obtain ⟨r0, r1, z0⟩ := V9d.out.pair_at (i := 7) rfl (pS_at HSP.out)
                obtain ⟨o0, o1⟩ := V9d.out.pair_fr (i := 7) rfl (pS_at HSP.out)
                obtain ⟨r3, r4, _⟩ := V9.out.pair_at (i := 7) rfl (pS_at HSP.out)
                obtain ⟨o3, o4⟩ := V9.out.pair_fr (i := 7) rfl (pS_at HSP.out)
                have VC := Lib.hid (V9d.out.pair_set (i := 7) rfl (j := c) (by rw [pS_len, HL4.out]; exact k4) ((a : Int), (md : Int)))
                go_simp
                refine hK.out _ _ (List.forall_mem_cons.2 ⟨⟨(VC.out.box_at (i := 3) (j := 3) rfl rfl).1, (VC.out.box_at (i := 3) (j := 3) rfl rfl).2.2⟩, List.forall_mem_cons.2 ⟨⟨(VC.out.box_at (i := 1) (j := 0) rfl rfl).1, (VC.out.box_at (i := 1) (j := 0) rfl rfl).2.2⟩, List.forall_mem_cons.2 ⟨⟨(VC.out.box_at (i := 1) (j := 1) rfl rfl).1, (VC.out.box_at (i := 1) (j := 1) rfl rfl).2.2⟩, fun _ h => by simp at h⟩⟩⟩) (fun hHeld => ?_)
                clear hK K
                try simp only [Act.put, sA, sZ, sS]
                refine wpAnyH_done (by kernel_rfl) ?_ _
                go_wp2_with fail
                go_meet
                rw [pS_set]
                exact VC.out
              case rest =>
                have V10 := Lib.hid hcut
                clear hcut V9
                obtain ⟨p0, _, p9⟩ := V10.out.box_at (i := 0) (j := 0) rfl rfl
                obtain ⟨p1, _, _⟩ := V10.out.box_at (i := 0) (j := 1) rfl rfl
                have hf2 : b ≤ pj.ord.length := Nat.le_trans (show b ≤ b by omega) (HOK.out.o4 c a b HSP.out).2.1
                have V11 := Lib.hid V10.out.tail.tail.tail
                clear V10
                go_wp2_with fail
                have hfew := HOK.out.few
                refine (padd_any g N md b (some ⟨gt, 0, none⟩) nt ct { pj with sp := pj.sp.set c (a, md), mrk := pj.mrk.set c 0 } tl W _ rest (by omega) hf2 (fun i q hi => (HOK.out.o1 i q hi).1) hN (Nat.le_trans hfew.2 hN) (by rw [List.length_set, HL4.out]; exact hns) (by rw [List.length_set, HL5.out]; exact hnm) ⟨_, _, _, _, _, _, _, _, _, _, _, _, _, V11.out⟩).mono ?_
                rintro e wF ⟨rfl, hF⟩
                rw [addc_split] at hF
                have HF := Lib.hid hF
                have HK := Lib.hid (Pt.split_ok (f1 := md) (f2 := b) (s1 := a) (s2 := md) HOK.out HSP.out (by omega) (by omega) (by omega) (by omega))
                have HM0 := (HOK.out.t1 c).1 (List.mem_cons_self ..)
                have HD := Lib.hid (Pt.dvd_split (f1 := md) (f2 := b) (s1 := a) (s2 := md) OK0.out HOK.out HDV.out HSP.out HM.out (by rw [← HMD.out]; omega) (by have := HMD.out; omega) (by rw [← HMD.out]; exact hmb2))
                clear hF V11 HM0 hfew hf2
                go_wp2_with fail
                go_roundw
                case rel => exact ⟨j + 1, by go_num, by omega, _, HK.out, HD.out, HF.out⟩
                case measure => simp [intOf]; omega
            · have hgt2 : ¬ (sl : Int) < (fl : Int) := by omega
              have V9 := Lib.hid V8.out
              clear V8
              go_upto_region 10 with fail
              clear p0 q0 p9 p1 q1 p2 q2 p8 p3 q3
              go_cut [] (fun wx => Hp W (box 113 g6 [.int .i64 (a : Int), .int .i64 (md : Int)] :: box 113 g7 [.int .i64 (md : Int), .int .i64 (b : Int)] :: box 113 wi.heap.size [.int .i64 (a : Int), .int .i64 (b : Int)] :: box 97 g [.slice Ao no co, .slice Ap N cp, .slice Ac N cc, .slice (some ⟨gs, 0, none⟩) ns cs, .slice (some ⟨gm, 0, none⟩) nm cm, .slice (some ⟨gt, 0, none⟩) nt ct] :: nums Ao no co (pN pj.ord) :: nums Ap N cp (pN pj.plc) :: nums Ac N cc pj.cls :: prow 113 (some ⟨gs, 0, none⟩) ns cs (pS (pj.sp.set c (md, b))) :: nums (some ⟨gm, 0, none⟩) nm cm (pN (pj.mrk.set c 0)) :: nums (some ⟨gt, 0, none⟩) nt ct (pN tl) :: rest) wx)
              case first =>
                have hKp : Keep [(⟨g, 3, none⟩, .slice (some ⟨gs, 0, none⟩) ns cs), (⟨g7, 0, none⟩, .int .i64 (md : Int)), (⟨g7, 1, none⟩, .int .i64 (b : Int))] _ := List.forall_mem_cons.2 ⟨⟨(V9.out.box_at (i := 3) (j := 3) rfl rfl).1, (V9.out.box_at (i := 3) (j := 3) rfl rfl).2.2⟩, List.forall_mem_cons.2 ⟨⟨(V9.out.box_at (i := 1) (j := 0) rfl rfl).1, (V9.out.box_at (i := 1) (j := 0) rfl rfl).2.2⟩, List.forall_mem_cons.2 ⟨⟨(V9.out.box_at (i := 1) (j := 1) rfl rfl).1, (V9.out.box_at (i := 1) (j := 1) rfl rfl).2.2⟩, fun _ h => by simp at h⟩⟩⟩
                refine wp_region_held_drew (S := Keep _) (by kernel_rfl) hKp.drew (fun hHeld => ?_)
                have V9d := Lib.hid (V9.out.go (bdrew _))
                refine tk 0 ?_ rfl ?_ ?_; rotate_left; focus (intro w hSw; clear hSw; go_simp; try (with_reducible rfl))
                try simp only [Act.put, sA, sZ, sS]
                refine tk 1 ?_ rfl ?_ ?_; rotate_left; focus (intro w hSw; clear hSw; go_simp; try (with_reducible rfl))
                try simp only [Act.put, sA, sZ, sS]
                refine tk 2 ?_ rfl ?_ ?_; rotate_left; focus (intro w hSw; clear hSw; go_simp; try (with_reducible rfl))
                try simp only [Act.put, sA, sZ, sS]
                refine tk 3 ?_ rfl ?_ ?_; rotate_left
                · intro wl hSw
                  have hSw : Keep _ wl := hSw
                  have k0 : wl.cell? ⟨g, 3, none⟩ = some (.slice (some ⟨gs, 0, none⟩) ns cs) := (hSw _ (.head _)).1
                  clear hSw
                  go_simp
                  try (with_reducible rfl)
                try simp only [Act.put, sA, sZ, sS]
                refine tk 4 ?_ rfl ?_ ?_; rotate_left; focus (intro w hSw; clear hSw; go_simp; try (with_reducible rfl))
                try simp only [Act.put, sA, sZ, sS]
                refine tk 5 ?_ rfl ?_ ?_; rotate_left
                · intro wl hSw
                  have hSw : Keep _ wl := hSw
                  have k0 : wl.cell? ⟨g7, 0, none⟩ = some (.int .i64 (md : Int)) := (hSw _ (.tail _ (.head _))).1
                  have k1 : wl.cell? ⟨g7, 1, none⟩ = some (.int .i64 (b : Int)) := (hSw _ (.tail _ (.tail _ (.head _)))).1
                  clear hSw
                  go_simp
                  try (with_reducible rfl)
                try simp only [Act.put, sA, sZ, sS]
                refine tk 6 ?_ rfl ?_ ?_; rotate_left; focus (intro w hSw; clear hSw; go_simp; try (with_reducible rfl))
                try simp only [Act.put, sA, sZ, sS]
                refine wpAnyH_ready (rs := [7]) (by kernel_rfl) (by simp) ?_
                refine AllReadyH.cons (List.getElem?_toArray.trans rfl) (fun K hK => ?_) AllReadyH.nil
                obtain ⟨r0, r1, z0⟩ := V9d.out.pair_at (i := 7) rfl (pS_at HSP.out)
                obtain ⟨o0, o1⟩ := V9d.out.pair_fr (i := 7) rfl (pS_at HSP.out)
                obtain ⟨r3, r4, _⟩ := V9.out.pair_at (i := 7) rfl (pS_at HSP.out)
                obtain ⟨o3, o4⟩ := V9.out.pair_fr (i := 7) rfl (pS_at HSP.out)
                have VC := Lib.hid (V9d.out.pair_set (i := 7) rfl (j := c) (by rw [pS_len, HL4.out]; exact k4) ((md : Int), (b : Int)))
                go_simp
                refine hK.out _ _ (List.forall_mem_cons.2 ⟨⟨(VC.out.box_at (i := 3) (j := 3) rfl rfl).1, (VC.out.box_at (i := 3) (j := 3) rfl rfl).2.2⟩, List.forall_mem_cons.2 ⟨⟨(VC.out.box_at (i := 1) (j := 0) rfl rfl).1, (VC.out.box_at (i := 1) (j := 0) rfl rfl).2.2⟩, List.forall_mem_cons.2 ⟨⟨(VC.out.box_at (i := 1) (j := 1) rfl rfl).1, (VC.out.box_at (i := 1) (j := 1) rfl rfl).2.2⟩, fun _ h => by simp at h⟩⟩⟩) (fun hHeld => ?_)
                clear hK K
                try simp only [Act.put, sA, sZ, sS]
                refine wpAnyH_done (by kernel_rfl) ?_ _
                go_wp2_with fail
                go_meet
                rw [pS_set]
                exact VC.out
              case rest =>
                have V10 := Lib.hid hcut
                clear hcut V9
                obtain ⟨p0, _, p9⟩ := V10.out.box_at (i := 0) (j := 0) rfl rfl
                obtain ⟨p1, _, _⟩ := V10.out.box_at (i := 0) (j := 1) rfl rfl
                have hf2 : md ≤ pj.ord.length := Nat.le_trans (show md ≤ b by omega) (HOK.out.o4 c a b HSP.out).2.1
                have V11 := Lib.hid V10.out.tail.tail.tail
                clear V10
                go_wp2_with fail
                have hfew := HOK.out.few
                refine (padd_any g N a md (some ⟨gt, 0, none⟩) nt ct { pj with sp := pj.sp.set c (md, b), mrk := pj.mrk.set c 0 } tl W _ rest (by omega) hf2 (fun i q hi => (HOK.out.o1 i q hi).1) hN (Nat.le_trans hfew.2 hN) (by rw [List.length_set, HL4.out]; exact hns) (by rw [List.length_set, HL5.out]; exact hnm) ⟨_, _, _, _, _, _, _, _, _, _, _, _, _, V11.out⟩).mono ?_
                rintro e wF ⟨rfl, hF⟩
                rw [addc_split] at hF
                have HF := Lib.hid hF
                have HK := Lib.hid (Pt.split_ok (f1 := a) (f2 := md) (s1 := md) (s2 := b) HOK.out HSP.out (by omega) (by omega) (by omega) (by omega))
                have HM0 := (HOK.out.t1 c).1 (List.mem_cons_self ..)
                have HD := Lib.hid (Pt.dvd_split (f1 := a) (f2 := md) (s1 := md) (s2 := b) OK0.out HOK.out HDV.out HSP.out HM.out (by rw [← HMD.out]; omega) (by have := HMD.out; omega) (by rw [← HMD.out]; exact hmb2))
                clear hF V11 HM0 hfew hf2
                go_wp2_with fail
                go_roundw
                case rel => exact ⟨j + 1, by go_num, by omega, _, HK.out, HD.out, HF.out⟩
                case measure => simp [intOf]; omega
    · obtain rfl : j = nt := by omega
      have hnil : tl.drop j = [] := List.drop_of_length_le (by rw [HT.out]; exact Nat.le_refl _)
      rw [hnil] at hok hdv
      have HOK := Lib.hid hok
      have HDV := Lib.hid hdv
      obtain ⟨b5, o5, b9⟩ := V.out.box_at (i := 0) (j := 5) rfl rfl
      clear hok hdv hnil hlt hjn
      cases At with
      | none =>
        obtain ⟨rfl, rfl⟩ := V.out.nil_form (i := 6) rfl
        have V2 := V.out.box_set (i := 0) rfl 5 (.slice none 0 0)
        have HV := Lib.hid (show PtIn W g N pj [] rest _ from ⟨_, _, _, _, _, _, _, _, _, _, _, _, _, _, _, _, by have e0 : tl = [] := List.eq_nil_of_length_eq_zero HT.out; subst e0; exact V2⟩)
        clear V V2
        go_wp2_with fail
        go_end0
        exact ⟨rfl, pj, HOK.out, HDV.out, HV.out⟩
      | some ad =>
        obtain ⟨gt, e⟩ : ∃ gt, ad = ⟨gt, 0, none⟩ := by
          have ho := V.out.own 6 _ rfl
          rcases ho.2 with ⟨e, _⟩ | ⟨g', cap, cur, e, _⟩
          · cases e
          · cases e; exact ⟨_, rfl⟩
        subst e
        have V1 := V.out.num_cut (i := 6) rfl
        have V2 := V1.box_set (i := 0) rfl 5 (.slice (some ⟨gt, 0, none⟩) 0 ct)
        have HV := Lib.hid (show PtIn W g N pj [] rest _ from ⟨_, _, _, _, _, _, _, _, _, _, _, _, _, _, _, _, V2⟩)
        clear V V1 V2
        go_wp2_with fail
        go_end0
        exact ⟨rfl, pj, HOK.out, HDV.out, HV.out⟩
end Go.Proofs.Ytdkdfmflghbhiaa
