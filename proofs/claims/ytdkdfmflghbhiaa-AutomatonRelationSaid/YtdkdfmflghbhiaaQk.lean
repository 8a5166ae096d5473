/- Contract of the program: the first partition. -/
import Derived.Test.YtdkdfmflghbhiaaQl
namespace Go.Proofs.Ytdkdfmflghbhiaa
open Go.RowKit
set_option linter.unusedVariables false
set_option linter.unusedSimpArgs false
set_option maxRecDepth 100000

theorem Hp.join {W w w' : World} {l l2 : List Itm} (h : Hp W l w) (h2 : Hp w l2 w') : Hp W (l2 ++ l) w' := by
  have h3 := h.go h2.below
  have far : ∀ (i j : Nat) a b, l2[i]? = some a → l[j]? = some b → a.far b := fun i j a b ha hb k h4 h5 => by
    have := (h2.lt ha h4).1
    have := (h.lt hb h5).2
    omega
  refine ⟨fun i it hi => ?_, fun i j a b hij ha hb => ?_, h3.below⟩
  · by_cases e : i < l2.length
    · rw [List.getElem?_append_left e] at hi
      exact own_base (h2.own i it hi) h.below.size
    · rw [List.getElem?_append_right (by omega)] at hi
      exact h3.own _ it hi
  · by_cases e : i < l2.length <;> by_cases e2 : j < l2.length
    · rw [List.getElem?_append_left e] at ha
      rw [List.getElem?_append_left e2] at hb
      exact h2.sep i j a b hij ha hb
    · rw [List.getElem?_append_left e] at ha
      rw [List.getElem?_append_right (by omega)] at hb
      exact far _ _ a b ha hb
    · rw [List.getElem?_append_right (by omega)] at ha
      rw [List.getElem?_append_left e2] at hb
      exact (far _ _ b a hb ha).symm
    · rw [List.getElem?_append_right (by omega)] at ha
      rw [List.getElem?_append_right (by omega)] at hb
      exact h.sep _ _ a b (by omega) ha hb
/-- How far the first partition has come. -/
def StB (N : Nat) (lv ac : List Bool) (r : Nat) (q : Pt) : Prop :=
  (r = 0 ∧ q = ⟨[], List.replicate N 0, List.replicate N (-1), [], []⟩) ∨
  (r = 1 ∧ Npl N lv ac q.ord q.plc q.ord.length false 0 ∧ q = (if 0 < q.ord.length then Pt.addc ⟨q.ord, q.plc, List.replicate N (-1), [], []⟩ 0 q.ord.length else ⟨q.ord, q.plc, List.replicate N (-1), [], []⟩)) ∨
  (r = 2 ∧ ∃ f, Npl N lv ac q.ord q.plc f false N ∧ q = newPt N q.ord q.plc f)
theorem StB.npl {N : Nat} {lv ac : List Bool} {r : Nat} {q : Pt} (h : StB N lv ac r q) (hr : r < 2) : Npl N lv ac q.ord q.plc q.ord.length (decide (r = 0)) 0 := by
  rcases h with ⟨rfl, rfl⟩ | ⟨rfl, h, _⟩ | ⟨rfl, _⟩
  · exact Npl.start
  · exact h
  · omega
theorem StB.small {N : Nat} {lv ac : List Bool} {r : Nat} {q : Pt} (h : StB N lv ac r q) (hr : r < 2) : q.sp.length ≤ 2 ∧ q.mrk.length ≤ 2 := by
  rcases h with ⟨rfl, rfl⟩ | ⟨rfl, h, hq⟩ | ⟨rfl, _⟩
  · exact ⟨by simp, by simp⟩
  · rw [hq]
    split <;> simp [Pt.addc]
  · omega
theorem Npl.few {N : Nat} {lv ac : List Bool} {ord plc : List Nat} {f : Nat} {b : Bool} {m : Nat} (h : Npl N lv ac ord plc f b m) : ord.length ≤ N := by
  refine few_below N ord ?_ (fun x hx => ?_)
  · refine nodup_of fun i j x hi hj => ?_
    have h1 := (h.o1 i x hi).2.2
    have h2 := (h.o1 j x hj).2.2
    rw [h1] at h2; injection h2
  · obtain ⟨i, hi⟩ := mem_at hx
    exact (h.o1 i x hi).1
theorem addc_ord (p : Pt) (a b : Nat) : (p.addc a b).ord = p.ord ∧ (p.addc a b).plc = p.plc := ⟨rfl, rfl⟩
theorem StB.next {N : Nat} {lv ac : List Bool} {r : Nat} {q : Pt} {ord plc : List Nat} (h : StB N lv ac r q) (hr : r < 2) (h2 : Npl N lv ac ord plc q.ord.length (decide (r = 0)) N) (ht : ord.take q.ord.length = q.ord) :
    StB N lv ac (r + 1) (if q.ord.length < ord.length then Pt.addc { q with ord := ord, plc := plc } q.ord.length ord.length else { q with ord := ord, plc := plc }) := by
  rcases h with ⟨rfl, rfl⟩ | ⟨rfl, h, hq⟩ | ⟨rfl, _⟩
  · refine .inr (.inl ⟨rfl, ?_, ?_⟩)
    · have h3 : Npl N lv ac ord plc 0 true N := h2
      have h4 := h3.turn
      split <;> exact h4
    · dsimp only [List.length_nil]
      split
      · rename_i e
        first | rfl | (rw [if_pos (show 0 < (Pt.addc ⟨ord, plc, List.replicate N (-1), [], []⟩ 0 ord.length).ord.length from e)]; rfl)
      · rename_i e
        first | rfl | rw [if_neg e]
  · refine .inr (.inr ⟨rfl, q.ord.length, ?_, ?_⟩)
    · split <;> exact h2
    · have hc : q.cls = (newPt N q.ord q.plc q.ord.length).cls ∧ q.sp = (newPt N q.ord q.plc q.ord.length).sp ∧ q.mrk = (newPt N q.ord q.plc q.ord.length).mrk := by
        have e : newPt N q.ord q.plc q.ord.length = q := by
          unfold newPt
          dsimp only
          rw [if_neg (Nat.lt_irrefl _)]
          exact hq.symm
        rw [e]; exact ⟨rfl, rfl, rfl⟩
      have hp : Pt.part ord 0 q.ord.length = Pt.part q.ord 0 q.ord.length := by
        unfold Pt.part
        simp only [List.drop_zero, Nat.sub_zero]
        rw [ht, List.take_of_length_le (Nat.le_refl _)]
      have hb : ({ q with ord := ord, plc := plc } : Pt) = (if 0 < q.ord.length then Pt.addc ⟨ord, plc, List.replicate N (-1), [], []⟩ 0 q.ord.length else ⟨ord, plc, List.replicate N (-1), [], []⟩) := by
        rw [hc.1, hc.2.1, hc.2.2]
        unfold newPt Pt.addc
        dsimp only
        rw [if_neg (Nat.lt_irrefl _), hp]
        split <;> rfl
      rw [hb]
      have ho : ∀ (x : Pt) (a b : Nat) (c : Prop) [Decidable c], (if c then x.addc a b else x).ord = x.ord ∧ (if c then x.addc a b else x).plc = x.plc := by
        intro x a b c _
        split <;> exact ⟨rfl, rfl⟩
      rw [(ho _ _ _ _).1, (ho _ _ _ _).2, (ho _ _ _ _).1, (ho _ _ _ _).2]
      rfl
  · omega
set_option maxHeartbeats 16000000 in
theorem newPartition_any (k N : Nat) (nx : List Int) (ac lv : List Bool) (A0 : Option Addr) (c0 : Nat) (A1 : Option Addr) (c1 : Nat) (W : World) (hN : N ≤ 1010000) (sys : Sys N k (nxF nx k) (acF ac) (acF lv)) (hac : ac.length = N) (hlv : lv.length = N) (hA : CellsIn W A0 (bools ac)) (hL : CellsIn W A1 (bools lv)) :
    Calls Try.prog 59 #[.slice A0 N c0, .slice A1 N c1] W fun e w' => ∃ g q, e = .returned (.pointer (some ⟨g, 0, none⟩)) ∧ Pt.Ok N (acF lv) q [] ∧ Hop N k (nxF nx k) (acF ac) (acF lv) q 0 ∧ PtIn W g N q [] [] w' := by
  have HAC := Lib.hid hac
  have HLV := Lib.hid hlv
  have HA := Lib.hid hA
  have HL := Lib.hid hL
  have hmk := make_nums (N : Int) N rfl (by omega)
  have V := Lib.hid (Hp.start W)
  clear sys hac hlv hA hL
  go_enter Try.func59, Try.ntmps59
  go_upto_region 1 with fail
  go_cut [5] (fun s5 wx => ∃ g gp gc, s5 = .pointer (some ⟨g, 0, none⟩) ∧ Hp W (box 97 g [.slice none 0 0, .slice (some ⟨gp, 0, none⟩) N N, .slice (some ⟨gc, 0, none⟩) N N, .slice none 0 0, .slice none 0 0, .slice none 0 0] :: nums (some ⟨gp, 0, none⟩) N N (List.replicate N 0) :: nums (some ⟨gc, 0, none⟩) N N (List.replicate N 0) :: []) wx)
  case first =>
    have hKp : Keep [] W := fun _ h => by simp at h
    refine wp_region_held_drew (S := Keep _) (by kernel_rfl) hKp.drew (fun hHeld => ?_)
    have Vd := Lib.hid (V.out.go (bdrew _))
    refine tk 0 ?_ rfl ?_ ?_; rotate_left; focus (intro w hSw; clear hSw; go_simp; try (with_reducible rfl))
    try simp only [Act.put, sA, sZ, sS]
    refine tk 1 ?_ rfl ?_ ?_; rotate_left; focus (intro w hSw; clear hSw; go_simp; try (with_reducible rfl))
    try simp only [Act.put, sA, sZ, sS]
    refine tk 3 ?_ rfl ?_ ?_; rotate_left; focus (intro w hSw; clear hSw; go_simp; try (with_reducible rfl))
    try simp only [Act.put, sA, sZ, sS]
    refine tk 4 ?_ rfl ?_ ?_; rotate_left; focus (intro w hSw; clear hSw; go_simp; try (with_reducible rfl))
    try simp only [Act.put, sA, sZ, sS]
    refine wpAnyH_ready (rs := [2, 5]) (by kernel_rfl) (by simp) ?_
    refine AllReadyH.cons (List.getElem?_toArray.trans rfl) (fun K hK => ?_) ?_
    · obtain ⟨w_2, hw_2⟩ : ∃ z, z = (W.alloc (.cells (Array.replicate N (Value.int .i64 0)) 3)).drew := ⟨_, rfl⟩
      have V_2 := Lib.hid (show Hp _ (nums (some ⟨W.heap.size, 0, none⟩) N N (List.replicate N 0) :: _) w_2 by rw [hw_2]; exact Vd.out.made_numsA N (by omega))
      have Bw_2 := Lib.hid (show Below W.drew.heap.size W.drew w_2 by rw [hw_2]; exact bnew _ _)
      go_simp
      try rw [← hw_2]
      clear hw_2
      refine hK.out _ _ (hHeld.go Bw_2.out) (fun hHeld => ?_)
      clear hK K
      try simp only [Act.put, sA, sZ, sS]
      refine wpAnyH_ready (rs := [5]) (by kernel_rfl) (by simp) ?_
      refine AllReadyH.cons (List.getElem?_toArray.trans rfl) (fun K hK => ?_) AllReadyH.nil
      obtain ⟨w_2_5, hw_2_5⟩ : ∃ z, z = (w_2.alloc (.cells (Array.replicate N (Value.int .i64 0)) 3)) := ⟨_, rfl⟩
      have V_2_5 := Lib.hid (show Hp _ (nums (some ⟨w_2.heap.size, 0, none⟩) N N (List.replicate N 0) :: _) w_2_5 by rw [hw_2_5]; exact V_2.out.made_numsA N (by omega))
      have Bw_2_5 := Lib.hid (show Below w_2.heap.size w_2 w_2_5 by rw [hw_2_5]; exact bnew _ _)
      go_simp
      try rw [← hw_2_5]
      clear hw_2_5
      refine hK.out _ _ (hHeld.go Bw_2_5.out) (fun hHeld => ?_)
      clear hK K
      try simp only [Act.put, sA, sZ, sS]
      refine tk 6 ?_ rfl ?_ ?_; rotate_left; focus (intro w hSw; clear hSw; go_simp; try (with_reducible rfl))
      try simp only [Act.put, sA, sZ, sS]
      refine wpAnyH_ready (rs := [7]) (by kernel_rfl) (by simp) ?_
      refine AllReadyH.cons (List.getElem?_toArray.trans rfl) (fun K hK => ?_) AllReadyH.nil
      have VE := Lib.hid (V_2_5.out.box_new 97 [.slice none 0 0, .slice (some ⟨W.heap.size, 0, none⟩) N N, .slice (some ⟨w_2.heap.size, 0, none⟩) N N, .slice none 0 0, .slice none 0 0, .slice none 0 0])
      have BE := Lib.hid (bnew w_2_5 (.cells #[.slice none 0 0, .slice (some ⟨W.heap.size, 0, none⟩) N N, .slice (some ⟨w_2.heap.size, 0, none⟩) N N, .slice none 0 0, .slice none 0 0, .slice none 0 0] 97))
      go_simp
      refine hK.out _ _ (hHeld.go BE.out) (fun hHeld => ?_)
      clear hK K
      try simp only [Act.put, sA, sZ, sS]
      refine tk 8 ?_ rfl ?_ ?_; rotate_left; focus (intro w hSw; clear hSw; go_simp; try (with_reducible rfl))
      try simp only [Act.put, sA, sZ, sS]
      refine wpAnyH_done (by kernel_rfl) ?_ _
      go_wp2_with fail
      go_meet
      exact ⟨_, _, _, rfl, VE.out.pick [0, 2, 1] (by decide) rfl⟩
    refine AllReadyH.cons (List.getElem?_toArray.trans rfl) (fun K hK => ?_) ?_
    · obtain ⟨w_5, hw_5⟩ : ∃ z, z = (W.alloc (.cells (Array.replicate N (Value.int .i64 0)) 3)).drew := ⟨_, rfl⟩
      have V_5 := Lib.hid (show Hp _ (nums (some ⟨W.heap.size, 0, none⟩) N N (List.replicate N 0) :: _) w_5 by rw [hw_5]; exact Vd.out.made_numsA N (by omega))
      have Bw_5 := Lib.hid (show Below W.drew.heap.size W.drew w_5 by rw [hw_5]; exact bnew _ _)
      go_simp
      try rw [← hw_5]
      clear hw_5
      refine hK.out _ _ (hHeld.go Bw_5.out) (fun hHeld => ?_)
      clear hK K
      try simp only [Act.put, sA, sZ, sS]
      refine wpAnyH_ready (rs := [2]) (by kernel_rfl) (by simp) ?_
      refine AllReadyH.cons (List.getElem?_toArray.trans rfl) (fun K hK => ?_) AllReadyH.nil
      obtain ⟨w_5_2, hw_5_2⟩ : ∃ z, z = (w_5.alloc (.cells (Array.replicate N (Value.int .i64 0)) 3)) := ⟨_, rfl⟩
      have V_5_2 := Lib.hid (show Hp _ (nums (some ⟨w_5.heap.size, 0, none⟩) N N (List.replicate N 0) :: _) w_5_2 by rw [hw_5_2]; exact V_5.out.made_numsA N (by omega))
      have Bw_5_2 := Lib.hid (show Below w_5.heap.size w_5 w_5_2 by rw [hw_5_2]; exact bnew _ _)
      go_simp
      try rw [← hw_5_2]
      clear hw_5_2
      refine hK.out _ _ (hHeld.go Bw_5_2.out) (fun hHeld => ?_)
      clear hK K
      try simp only [Act.put, sA, sZ, sS]
      refine tk 6 ?_ rfl ?_ ?_; rotate_left; focus (intro w hSw; clear hSw; go_simp; try (with_reducible rfl))
      try simp only [Act.put, sA, sZ, sS]
      refine wpAnyH_ready (rs := [7]) (by kernel_rfl) (by simp) ?_
      refine AllReadyH.cons (List.getElem?_toArray.trans rfl) (fun K hK => ?_) AllReadyH.nil
      have VE := Lib.hid (V_5_2.out.box_new 97 [.slice none 0 0, .slice (some ⟨w_5.heap.size, 0, none⟩) N N, .slice (some ⟨W.heap.size, 0, none⟩) N N, .slice none 0 0, .slice none 0 0, .slice none 0 0])
      have BE := Lib.hid (bnew w_5_2 (.cells #[.slice none 0 0, .slice (some ⟨w_5.heap.size, 0, none⟩) N N, .slice (some ⟨W.heap.size, 0, none⟩) N N, .slice none 0 0, .slice none 0 0, .slice none 0 0] 97))
      go_simp
      refine hK.out _ _ (hHeld.go BE.out) (fun hHeld => ?_)
      clear hK K
      try simp only [Act.put, sA, sZ, sS]
      refine tk 8 ?_ rfl ?_ ?_; rotate_left; focus (intro w hSw; clear hSw; go_simp; try (with_reducible rfl))
      try simp only [Act.put, sA, sZ, sS]
      refine wpAnyH_done (by kernel_rfl) ?_ _
      go_wp2_with fail
      go_meet
      exact ⟨_, _, _, rfl, VE.out⟩
    exact AllReadyH.nil
  case rest =>
    obtain ⟨g, gp, gc, rfl, hv⟩ := hcut
    have V1 := Lib.hid hv
    clear hv V hmk
    go_wp2_with fail
    have H1 := Lib.hid (show Hp W (box 97 g [.slice none 0 0, .slice (some ⟨gp, 0, none⟩) N N, .slice (some ⟨gc, 0, none⟩) N N, .slice none 0 0, .slice none 0 0, .slice none 0 0] :: nums (some ⟨gp, 0, none⟩) N N (List.replicate N 0) :: nums (some ⟨gc, 0, none⟩) N N (List.replicate 0 (-1) ++ List.replicate (N - 0) 0) :: []) wc by simpa using V1.out)
    clear V1
    go_loopw [21] (fun cv wr => ∃ j : Nat, cv = .int .i64 (j : Int) ∧ j ≤ N ∧ Hp W (box 97 g [.slice none 0 0, .slice (some ⟨gp, 0, none⟩) N N, .slice (some ⟨gc, 0, none⟩) N N, .slice none 0 0, .slice none 0 0, .slice none 0 0] :: nums (some ⟨gp, 0, none⟩) N N (List.replicate N 0) :: nums (some ⟨gc, 0, none⟩) N N (List.replicate j (-1) ++ List.replicate (N - j) 0) :: []) wr) (fun cv _ => N - (intOf cv).toNat)
    case atStart => exact ⟨0, rfl, Nat.zero_le _, H1.out⟩
    case round =>
      clear H1
      obtain ⟨j, rfl, hjN, hV⟩ := hrel
      obtain ⟨wi, rfl⟩ : ∃ wi : World, wi = wr := ⟨_, rfl⟩
      have V := Lib.hid hV
      clear hV
      by_cases hlt : j < N
      · have hjl : j < (List.replicate j (-1 : Int) ++ List.replicate (N - j) 0).length := by simp; omega
        obtain ⟨x0, x1, x9⟩ := V.out.num_at (i := 2) rfl hjl
        obtain ⟨b2, _, b9⟩ := V.out.box_at (i := 0) (j := 2) rfl rfl
        have HV := Lib.hid (V.out.num_set (i := 2) rfl j (-1))
        have HE := Lib.hid (show (List.replicate j (-1 : Int) ++ List.replicate (N - j) 0).set j (-1) = List.replicate (j + 1) (-1) ++ List.replicate (N - (j + 1)) 0 by
          rw [List.set_append_right _ _ (by simp)]
          simp only [List.length_replicate, Nat.sub_self]
          rw [show N - j = (N - (j + 1)) + 1 by omega, List.replicate_succ (n := N - (j + 1)), List.set_cons_zero, List.replicate_succ' (n := j), List.append_assoc]; rfl)
        have HR := Lib.hid (show Hp W (box 97 g [.slice none 0 0, .slice (some ⟨gp, 0, none⟩) N N, .slice (some ⟨gc, 0, none⟩) N N, .slice none 0 0, .slice none 0 0, .slice none 0 0] :: nums (some ⟨gp, 0, none⟩) N N (List.replicate N 0) :: nums (some ⟨gc, 0, none⟩) N N (List.replicate (j + 1) (-1) ++ List.replicate (N - (j + 1)) 0) :: []) _ from HE.out ▸ HV.out)
        clear HV V hjl
        go_wp2_with fail
        go_roundw
        case rel => exact ⟨j + 1, by go_num, by omega, HR.out⟩
        case measure => simp [intOf]; omega
      · obtain rfl : j = N := by omega
        obtain ⟨wl, hwl⟩ : ∃ z, z = wi.alloc (.cells #[.bool true, .bool false] 4) := ⟨_, rfl⟩
        have H2 := Lib.hid (show ∃ q, StB j lv ac 0 q ∧ PtIn W g j q [] [flags (some ⟨wi.heap.size, 0, none⟩) 2 2 [true, false]] wl by
          refine ⟨⟨[], List.replicate j 0, List.replicate j (-1), [], []⟩, .inl ⟨rfl, rfl⟩, none, 0, 0, none, 0, 0, some ⟨gp, 0, none⟩, j, some ⟨gc, 0, none⟩, j, none, 0, 0, none, 0, 0, ?_⟩
          have h1 := V.out
          rw [Nat.sub_self] at h1
          have h2 : Hp W [box 97 g [.slice none 0 0, .slice (some ⟨gp, 0, none⟩) j j, .slice (some ⟨gc, 0, none⟩) j j, .slice none 0 0, .slice none 0 0, .slice none 0 0], nums (some ⟨gp, 0, none⟩) j j (List.replicate j 0), nums (some ⟨gc, 0, none⟩) j j (List.replicate j (-1))] wi := by simpa using h1
          have h3 : Hp W (flags (some ⟨wi.heap.size, 0, none⟩) 2 2 [true, false] :: [box 97 g [.slice none 0 0, .slice (some ⟨gp, 0, none⟩) j j, .slice (some ⟨gc, 0, none⟩) j j, .slice none 0 0, .slice none 0 0, .slice none 0 0], nums (some ⟨gp, 0, none⟩) j j (List.replicate j 0), nums (some ⟨gc, 0, none⟩) j j (List.replicate j (-1))]) wl := by
            rw [hwl]
            refine h2.new _ (bnew _ _) ?_ (fun k hk => by simp [flags, Value.ownBlock] at hk; omega)
            have := World.ownsRow_lit (base := W.heap.size) (e := 4) (size := 1) wi #[.bool true, .bool false] 2 h2.below.size (by unfold maxLen; omega) (by simp)
            simpa [flags, bools] using this
          have h4 := (((h3.nil_end (nums none 0 0 []) rfl rfl rfl).nil_end (prow 113 none 0 0 []) rfl rfl rfl).nil_end (nums none 0 0 []) rfl rfl rfl).nil_end (nums none 0 0 []) rfl rfl rfl
          have h5 := h4.pick [1, 4, 2, 3, 5, 6, 7, 0] (by decide) (l' := [box 97 g [.slice none 0 0, .slice (some ⟨gp, 0, none⟩) j j, .slice (some ⟨gc, 0, none⟩) j j, .slice none 0 0, .slice none 0 0, .slice none 0 0], nums none 0 0 [], nums (some ⟨gp, 0, none⟩) j j (List.replicate j 0), nums (some ⟨gc, 0, none⟩) j j (List.replicate j (-1)), prow 113 none 0 0 [], nums none 0 0 [], nums none 0 0 [], flags (some ⟨wi.heap.size, 0, none⟩) 2 2 [true, false]]) rfl
          rw [show pN (Pt.plc ⟨[], List.replicate j 0, List.replicate j (-1), [], []⟩) = List.replicate j 0 from by simp [pN]]
          exact h5)
        obtain ⟨gl, hgl⟩ : ∃ z, z = wi.heap.size := ⟨_, rfl⟩
        rw [← hgl] at H2
        have HGL := Lib.hid hgl
        have HWL := Lib.hid hwl
        clear hwl hgl V hlt hjN
        go_upto_region 8 with fail
        rw [← HWL.out, ← HGL.out]
        clear HWL HGL
        go_wp2_with fail
        go_loopw [33] (fun cv wr => ∃ r : Nat, cv = .int .i64 (r : Int) ∧ r ≤ 2 ∧ ∃ q, StB j lv ac r q ∧ PtIn W g j q [] [flags (some ⟨gl, 0, none⟩) 2 2 [true, false]] wr) (fun cv _ => 2 - (intOf cv).toNat)
        case atStart => exact ⟨0, rfl, by omega, H2.out⟩
        case round =>
          clear H2
          obtain ⟨r, rfl, hr2, q, hst, At, nt, ct, Ao, no, co, Ap, cp, Ac, cc, As, ns, cs, Am, nm, cm, hV⟩ := hrel
          obtain ⟨wj, rfl⟩ : ∃ wj : World, wj = wr := ⟨_, rfl⟩
          have V := Lib.hid hV
          have HST := Lib.hid hst
          clear hV hst
          by_cases hlt : r < 2
          · obtain ⟨bb, hbb⟩ : ∃ bb, bb = decide (r = 0) := ⟨_, rfl⟩
            have hfl : [true, false].getD r false = bb := by
              rw [hbb]
              match r, hlt with
              | 0, _ => rfl
              | 1, _ => rfl
            obtain ⟨xf, _, xf9⟩ := V.out.flag_at (i := 7) rfl (j := r) (by simp; omega)
            rw [hfl] at xf
            have hnp := HST.out.npl hlt
            rw [← hbb] at hnp
            have h1 := V.out.num_len (i := 1) rfl
            rw [pN_len] at h1
            have hsm := HST.out.small hlt
            have hnoN := hnp.few
            rw [h1] at hnp hnoN
            have H3 := Lib.hid (show ∃ ord plc, Npl j lv ac ord plc no bb 0 ∧ ord.take no = q.ord ∧ PtIn W g j { q with ord := ord, plc := plc } [] [flags (some ⟨gl, 0, none⟩) 2 2 [true, false]] wj from ⟨q.ord, q.plc, hnp, List.take_of_length_le (by rw [h1]; exact Nat.le_refl _), At, nt, ct, Ao, no, co, Ap, cp, Ac, cc, As, ns, cs, Am, nm, cm, V.out⟩)
            obtain ⟨b0, _, b9⟩ := V.out.box_at (i := 0) (j := 0) rfl rfl
            have HSM := Lib.hid hsm
            have HQL := Lib.hid h1
            have HBB := Lib.hid hbb
            have hr3 : (r : Int) < 2 := by omega
            clear hfl hnp h1 hsm hbb V
            go_wp2_with fail
            clear xf xf9 b0 b9
            go_loopw [44] (fun cv wr => ∃ m : Nat, cv = .int .i64 (m : Int) ∧ m ≤ j ∧ ∃ ord plc, Npl j lv ac ord plc no bb m ∧ ord.take no = q.ord ∧ PtIn W g j { q with ord := ord, plc := plc } [] [flags (some ⟨gl, 0, none⟩) 2 2 [true, false]] wr) (fun cv _ => j - (intOf cv).toNat)
            case atStart => exact ⟨0, rfl, Nat.zero_le _, H3.out⟩
            case round =>
              clear H3
              obtain ⟨m, rfl, hmj, ord, plc, hnp, htk, At, nt, ct, Ao, na, co, Ap, cp, Ac, cc, As, ns, cs, Am, nm, cm, hV⟩ := hrel
              obtain ⟨wk, rfl⟩ : ∃ wk : World, wk = wr := ⟨_, rfl⟩
              have V := Lib.hid hV
              have HNP := Lib.hid hnp
              have HTK := Lib.hid htk
              have h1 := V.out.num_len (i := 1) rfl
              have h2 := V.out.num_len (i := 2) rfl
              rw [pN_len] at h1 h2
              have hfw := hnp.few
              dsimp only at h1 h2
              have hna : na ≤ j := by omega
              have HL1 := Lib.hid h1
              have HL2 := Lib.hid h2
              clear hV hnp htk h1 h2 hfw
              by_cases hltm : m < j
              · obtain ⟨bl, ol, rfl, hbl, hcl⟩ := (HL.out.below V.out.below).bool (j := m) (by rw [HLV.out]; exact hltm)
                obtain ⟨ba, oa, rfl, hba, hca⟩ := (HA.out.below V.out.below).bool (j := m) (by rw [HAC.out]; exact hltm)
                obtain ⟨xa, hxa⟩ : ∃ x, x = ac.getD m false := ⟨_, rfl⟩
                rw [← hxa] at hca
                have HXA := Lib.hid hxa
                have hmj2 : (m : Int) < (j : Int) := by omega
                clear hxa
                cases hlm : lv.getD m false with
                | false =>
                  rw [hlm] at hcl
                  have HR := Lib.hid (HNP.out.skip (fun h => by have h5 := h.1; unfold acF at h5; rw [hlm] at h5; cases h5))
                  have HP := Lib.hid (show PtIn W g j { q with ord := ord, plc := plc } [] [flags (some ⟨gl, 0, none⟩) 2 2 [true, false]] wk from ⟨At, nt, ct, Ao, na, co, Ap, cp, Ac, cc, As, ns, cs, Am, nm, cm, V.out⟩)
                  clear hlm V HNP HL1 HL2
                  go_wp2_with fail
                  go_roundw
                  case rel => exact ⟨m + 1, by go_num, by omega, ord, plc, HR.out, HTK.out, HP.out⟩
                  case measure => simp [intOf]; omega
                | true =>
                  rw [hlm] at hcl
                  by_cases he : xa = bb
                  · have e1 : (xa == bb) = true := by rw [he]; simp
                    have HR := Lib.hid (HNP.out.put hltm (show acF lv m = true from hlm) (show acF ac m = bb from by unfold acF; rw [← HXA.out]; exact he))
                    obtain ⟨gp2, rfl⟩ := V.out.head (i := 2) (A := Ap) (c := cp) rfl rfl (show 0 < j by omega)
                    have hna2 : na ≤ 1010000 := by omega
                    clear hlm he
                    go_upto_region 15 with fail
                    go_cut [] (fun wx => Hp W (box 97 g [.slice Ao na co, .slice (some ⟨gp2, 0, none⟩) j cp, .slice Ac j cc, .slice As ns cs, .slice Am nm cm, .slice At nt ct] :: nums Ao na co (pN ord) :: nums (some ⟨gp2, 0, none⟩) j cp (pN (plc.set m ord.length)) :: nums Ac j cc q.cls :: prow 113 As ns cs (pS q.sp) :: nums Am nm cm (pN q.mrk) :: nums At nt ct (pN []) :: flags (some ⟨gl, 0, none⟩) 2 2 [true, false] :: []) wx)
                    case first =>
                      have hKp : Keep [(⟨g, 0, none⟩, .slice Ao na co), (⟨g, 1, none⟩, .slice (some ⟨gp2, 0, none⟩) j cp)] wk := List.forall_mem_cons.2 ⟨⟨(V.out.box_at (i := 0) (j := 0) rfl rfl).1, (V.out.box_at (i := 0) (j := 0) rfl rfl).2.2⟩, List.forall_mem_cons.2 ⟨⟨(V.out.box_at (i := 0) (j := 1) rfl rfl).1, (V.out.box_at (i := 0) (j := 1) rfl rfl).2.2⟩, fun _ h => by simp at h⟩⟩
                      refine wp_region_held_drew (S := Keep _) (by kernel_rfl) hKp.drew (fun hHeld => ?_)
                      have Vd := Lib.hid (V.out.go (bdrew _))
                      refine tk 0 ?_ rfl ?_ ?_; rotate_left; focus (intro w hSw; clear hSw; go_simp; try (with_reducible rfl))
                      try simp only [Act.put, sA, sZ, sS]
                      refine tk 1 ?_ rfl ?_ ?_; rotate_left; focus (intro w hSw; clear hSw; go_simp; try (with_reducible rfl))
                      try simp only [Act.put, sA, sZ, sS]
                      refine tk 2 ?_ rfl ?_ ?_; rotate_left; focus (intro w hSw; clear hSw; go_simp; try (with_reducible rfl))
                      try simp only [Act.put, sA, sZ, sS]
                      refine tk 3 ?_ rfl ?_ ?_; rotate_left
                      · intro wl hSw
                        have hSw : Keep _ wl := hSw
                        have k0 : wl.cell? ⟨g, 1, none⟩ = some (.slice (some ⟨gp2, 0, none⟩) j cp) := (hSw _ (.tail _ (.head _))).1
                        clear hSw
                        go_simp
                        try (with_reducible rfl)
                      try simp only [Act.put, sA, sZ, sS]
                      refine tk 4 ?_ rfl ?_ ?_; rotate_left; focus (intro w hSw; clear hSw; go_simp; try (with_reducible rfl))
                      try simp only [Act.put, sA, sZ, sS]
                      refine tk 5 ?_ rfl ?_ ?_; rotate_left; focus (intro w hSw; clear hSw; go_simp; try (with_reducible rfl))
                      try simp only [Act.put, sA, sZ, sS]
                      refine tk 6 ?_ rfl ?_ ?_; rotate_left; focus (intro w hSw; clear hSw; go_simp; try (with_reducible rfl))
                      try simp only [Act.put, sA, sZ, sS]
                      refine tk 7 ?_ rfl ?_ ?_; rotate_left; focus (intro w hSw; clear hSw; go_simp; try (with_reducible rfl))
                      try simp only [Act.put, sA, sZ, sS]
                      refine tk 8 ?_ rfl ?_ ?_; rotate_left
                      · intro wl hSw
                        have hSw : Keep _ wl := hSw
                        have k0 : wl.cell? ⟨g, 0, none⟩ = some (.slice Ao na co) := (hSw _ (.head _)).1
                        clear hSw
                        go_simp
                        try (with_reducible rfl)
                      try simp only [Act.put, sA, sZ, sS]
                      refine tk 9 ?_ rfl ?_ ?_; rotate_left; focus (intro w hSw; clear hSw; go_simp; try (with_reducible rfl))
                      try simp only [Act.put, sA, sZ, sS]
                      refine tk 10 ?_ rfl ?_ ?_; rotate_left; focus (intro w hSw; clear hSw; go_simp; try (with_reducible rfl))
                      try simp only [Act.put, sA, sZ, sS]
                      refine wpAnyH_ready (rs := [11]) (by kernel_rfl) (by simp) ?_
                      refine AllReadyH.cons (List.getElem?_toArray.trans rfl) (fun K hK => ?_) AllReadyH.nil
                      obtain ⟨r0, o0, z0⟩ := Vd.out.num_at (i := 2) rfl (j := m) (by rw [pN_len]; show m < plc.length; rw [HL2.out]; exact hltm)
                      have VE := Lib.hid (Vd.out.num_set (i := 2) rfl m (na : Int))
                      go_simp
                      refine hK.out _ _ (List.forall_mem_cons.2 ⟨⟨(VE.out.box_at (i := 0) (j := 0) rfl rfl).1, (VE.out.box_at (i := 0) (j := 0) rfl rfl).2.2⟩, List.forall_mem_cons.2 ⟨⟨(VE.out.box_at (i := 0) (j := 1) rfl rfl).1, (VE.out.box_at (i := 0) (j := 1) rfl rfl).2.2⟩, fun _ h => by simp at h⟩⟩) (fun hHeld => ?_)
                      clear hK K
                      try simp only [Act.put, sA, sZ, sS]
                      refine wpAnyH_done (by kernel_rfl) ?_ _
                      go_wp2_with fail
                      go_meet
                      have := VE.out
                      rw [pN_set, show (ord.length : Nat) = na from HL1.out]
                      exact this
                    case rest =>
                      obtain ⟨wm, rfl⟩ : ∃ z : World, z = wc := ⟨_, rfl⟩
                      have V15 := Lib.hid hcut
                      clear hcut V
                      obtain ⟨b0, o0, b9⟩ := V15.out.box_at (i := 0) (j := 0) rfl rfl
                      obtain ⟨wy, hwy⟩ : ∃ z, z = wm.alloc (.cells #[.int .i64 (m : Int)] 3) := ⟨_, rfl⟩
                      have V16 := Lib.hid (show Hp W (box 3 wm.heap.size [.int .i64 (m : Int)] :: box 97 g [.slice Ao na co, .slice (some ⟨gp2, 0, none⟩) j cp, .slice Ac j cc, .slice As ns cs, .slice Am nm cm, .slice At nt ct] :: nums Ao na co (pN ord) :: nums (some ⟨gp2, 0, none⟩) j cp (pN (plc.set m ord.length)) :: nums Ac j cc q.cls :: prow 113 As ns cs (pS q.sp) :: nums Am nm cm (pN q.mrk) :: nums At nt ct (pN []) :: flags (some ⟨gl, 0, none⟩) 2 2 [true, false] :: []) wy by rw [hwy]; exact V15.out.box_new 3 [.int .i64 (m : Int)])
                      have y0 := (V16.out.box_at (i := 0) (j := 0) rfl rfl).1
                      obtain ⟨g5, cap5, w5, hr5, hv5, hg5⟩ := run_app_num V16.out (i := 2) rfl 39 (m : Int) y0 (by omega)
                      have V17 := Lib.hid hv5.tail
                      have HY := Lib.hid hwy
                      have HR5 := Lib.hid hr5
                      obtain ⟨r1, o1, z1⟩ := V17.out.box_at (i := 0) (j := 0) rfl rfl
                      have HP := Lib.hid (show PtIn W g j { q with ord := ord ++ [m], plc := plc.set m ord.length } [] [flags (some ⟨gl, 0, none⟩) 2 2 [true, false]] (w5.setCell ⟨g, 0, none⟩ (.slice (some ⟨g5, 0, none⟩) (na + 1) cap5)) from ⟨At, nt, ct, _, na + 1, cap5, _, cp, Ac, cc, As, ns, cs, Am, nm, cm, by
                        have := V17.out.box_set (i := 0) rfl 0 (.slice (some ⟨g5, 0, none⟩) (na + 1) cap5)
                        dsimp only
                        rw [show pN (ord ++ [m]) = pN ord ++ [(m : Int)] from pN_app ord m]
                        exact this⟩)
                      clear hwy y0 hv5 hg5 hr5 V16 V17 V15
                      go_wp2_with (at_builtin; rw [← HY.out]; refine wpList_app_run rfl (.tmp 74) (.tmp 76) 39 rfl HR5.out rfl rfl ?_)
                      go_roundw
                      case rel => exact ⟨m + 1, by go_num, by omega, _, _, HR.out, by rw [List.take_append_of_le_length (by have := HNP.out.fl; omega)]; exact HTK.out, HP.out⟩
                      case measure => simp [intOf]; omega
                  · have e1 : (xa == bb) = false := by rw [beq_eq_false_iff_ne]; exact he
                    have HR := Lib.hid (HNP.out.skip (fun h => he (by have h5 := h.2; unfold acF at h5; rw [← HXA.out] at h5; exact h5)))
                    have HP := Lib.hid (show PtIn W g j { q with ord := ord, plc := plc } [] [flags (some ⟨gl, 0, none⟩) 2 2 [true, false]] wk from ⟨At, nt, ct, Ao, na, co, Ap, cp, Ac, cc, As, ns, cs, Am, nm, cm, V.out⟩)
                    clear hlm V HNP HL1 HL2 he
                    go_wp2_with fail
                    go_roundw
                    case rel => exact ⟨m + 1, by go_num, by omega, ord, plc, HR.out, HTK.out, HP.out⟩
                    case measure => simp [intOf]; omega
              · obtain rfl : m = j := by omega
                have HNX := Lib.hid (HST.out.next hlt (ord := ord) (plc := plc) (by rw [HQL.out, ← HBB.out]; exact HNP.out) (by rw [HQL.out]; exact HTK.out))
                rw [HQL.out] at HNX
                obtain ⟨b0, _, b9⟩ := V.out.box_at (i := 0) (j := 0) rfl rfl
                clear HTK
                by_cases hgt : no < na
                · have hgt2 : (no : Int) < (na : Int) := by omega
                  rw [if_pos (by rw [HL1.out]; exact hgt)] at HNX
                  clear HL2
                  go_wp2_with fail
                  have hfw := HNP.out.few
                  have hcon := padd_any g m no na At nt ct { q with ord := ord, plc := plc } [] W wk [flags (some ⟨gl, 0, none⟩) 2 2 [true, false]] hgt (by show na ≤ ord.length; rw [HL1.out]; exact Nat.le_refl _) (fun i q hi => (HNP.out.o1 i q hi).1) hN (by show ord.length ≤ _; omega) (Nat.le_trans HSM.out.1 (by omega)) (Nat.le_trans HSM.out.2 (by omega)) ⟨Ao, na, co, Ap, cp, Ac, cc, As, ns, cs, Am, nm, cm, V.out⟩
                  refine hcon.mono ?_
                  rintro e wF ⟨rfl, hF⟩
                  have HF := Lib.hid (show PtIn W g m (Pt.addc { q with ord := ord, plc := plc } no ord.length) [] [flags (some ⟨gl, 0, none⟩) 2 2 [true, false]] wF by rw [HL1.out]; exact ⟨At, nt, ct, hF⟩)
                  clear hF hcon V hfw HNP HL1
                  go_wp2_with fail
                  go_roundw
                  case rel => exact ⟨r + 1, by go_num, by omega, _, HNX.out, HF.out⟩
                  case measure => simp [intOf]; omega
                · have hgt2 : ¬ (no : Int) < (na : Int) := by omega
                  rw [if_neg (by rw [HL1.out]; exact hgt)] at HNX
                  have HF := Lib.hid (show PtIn W g m { q with ord := ord, plc := plc } [] [flags (some ⟨gl, 0, none⟩) 2 2 [true, false]] wk from ⟨At, nt, ct, Ao, na, co, Ap, cp, Ac, cc, As, ns, cs, Am, nm, cm, V.out⟩)
                  clear V HNP HL1 HL2
                  go_wp2_with fail
                  go_roundw
                  case rel => exact ⟨r + 1, by go_num, by omega, _, HNX.out, HF.out⟩
                  case measure => simp [intOf]; omega
          · obtain rfl : r = 2 := by omega
            have HE := Lib.hid (show ∃ g' q, Ending.returned (.pointer (some ⟨g, 0, none⟩)) = .returned (.pointer (some ⟨g', 0, none⟩)) ∧ Pt.Ok j (acF lv) q [] ∧ Hop j k (nxF nx k) (acF ac) (acF lv) q 0 ∧ PtIn W g' j q [] [] wj by
              rcases HST.out with ⟨h, _⟩ | ⟨h, _⟩ | ⟨_, f, h1, h2⟩
              · omega
              · omega
              · refine ⟨g, q, rfl, ?_, ?_, At, nt, ct, Ao, no, co, Ap, cp, Ac, cc, As, ns, cs, Am, nm, cm, Hp.drop_mid (l := [_, _, _, _, _, _, _]) V.out⟩
                · rw [h2]; exact h1.ok
                · rw [h2]; exact h1.hop)
            clear V HST hlt
            go_wp2_with fail
            go_ret
            obtain ⟨g', q', e1, e2⟩ := HE.out
            exact ⟨g', q', e1, e2⟩
end Go.Proofs.Ytdkdfmflghbhiaa
