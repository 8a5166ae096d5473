/- Contract of the program: the places sorted by where they lead to. -/
import Derived.Test.YtdkdfmflghbhiaaQf
import Derived.Test.YtdkdfmflghbhiaaShelf
namespace Go.Proofs.Ytdkdfmflghbhiaa
open Go.RowKit
set_option linter.unusedVariables false
set_option linter.unusedSimpArgs false
set_option maxRecDepth 100000

theorem own_base {w : World} {b b0 : Nat} {e : TypeId} {sz : Nat} {v : Value} {n : Nat} {xs : List Value} (h : w.ownsRow b e sz v n xs) (hb : b0 ≤ b) : w.ownsRow b0 e sz v n xs := by
  refine ⟨h.1, ?_⟩
  rcases h.2 with hn | ⟨g, cap, cur, e1, h1, rest⟩
  · exact .inl hn
  · exact .inr ⟨g, cap, cur, e1, Nat.le_trans hb h1, rest⟩
/-- A copy of a list of numbers. -/
def ClonePost (W : World) (l : List Itm) (n : Nat) (L : List Int) (w : World) (e : Ending) (w' : World) : Prop := ∃ C d, e = .returned (.slice C n d) ∧ Hp W (nums C n d L :: l) w' ∧ Below w.heap.size w w'
theorem clone_nums (L : List Int) (A : Option Addr) (n c : Nat) (W w : World) (l : List Itm) (h : Hp W l w) (hn : L.length = n) (hb : n ≤ 1000000000000) (hA : CellsIn w A (ints L)) :
    Calls Try.prog 26 #[.slice A n c] w (ClonePost W l n L w) := by
  have mk : ∀ (v' : Value) (w' : World), w'.ownsRow w.heap.size 3 1 v' n (ints L) → Below w.heap.size w w' → ∃ C d, v' = .slice C n d ∧ Hp W (nums C n d L :: l) w' := by
    intro v' w' ho hbel
    have ho' := own_base ho h.below.size
    have hv : ∃ C d, v' = .slice C n d := by
      rcases ho.2 with ⟨e, h0⟩ | ⟨g, cap, cur, e, _⟩
      · exact ⟨none, 0, by rw [e, h0]⟩
      · exact ⟨_, _, e⟩
    obtain ⟨C, d, rfl⟩ := hv
    exact ⟨C, d, rfl, h.new (nums C n d L) hbel ho' (fun k hk => (ho.lt k hk).1)⟩
  by_cases h0 : n = 0
  · subst h0
    have e0 : L = [] := List.eq_nil_of_length_eq_zero hn
    subst e0
    cases A with
    | none =>
      refine (Try.slices_Clone_int_nil 0 c w).mono ?_
      rintro e w' ⟨rfl, rfl⟩
      exact ⟨none, 0, rfl, h.nil_row _ rfl rfl rfl, Below.refl _ _⟩
    | some a =>
      refine (Try.slices_Clone_int_zero a c w).mono ?_
      rintro e w' ⟨v', rfl, ho, _, hbel⟩
      obtain ⟨C, d, rfl, hp⟩ := mk v' w' ho hbel
      exact ⟨C, d, rfl, hp, hbel⟩
  · obtain ⟨b, off, rfl, hlt, hc⟩ := hA (by rw [ints_len]; omega)
    refine (Try.slices_Clone_int b off n c L w (by omega) (by omega) (fun j hj => hc j _ (ints_at hj))).mono ?_
    rintro e w' ⟨v', rfl, ho, _, hbel⟩
    rw [List.take_of_length_le (by omega)] at ho
    obtain ⟨C, d, rfl, hp⟩ := mk v' w' ho hbel
    exact ⟨C, d, rfl, hp, hbel⟩
/-- What sources returns. -/
def SourcesPost (nx : List Int) (k N : Nat) (W : World) (e : Ending) (w' : World) : Prop :=
  ∃ I n c J m d first from', e = .returned (.agg #[.int .i64 (k : Int), .slice I n c, .slice J m d]) ∧ SrcIn w' nx k N I n c J m d first from' ∧ Below W.heap.size W w'
theorem Srt.done' {nx : List Int} {k b : Nat} {L free from' : List Int} (g : Srt nx k b free from') (h : Fst2 nx k nx.length L) (e : nx.length = b) : Src nx k L from' := by subst e; exact Srt.done h g
set_option maxHeartbeats 16000000 in
theorem sources_any (k N : Nat) (Ap : Option Addr) (np cp : Nat) (An : Option Addr) (nn cn : Nat) (Af : Option Addr) (nf cf : Nat) (nx : List Int) (W : World) (hx : NxOk N k nx) (hk0 : 0 < k) (hk8 : k ≤ 8) (hN : N ≤ 1010000) (hnn : nx.length = nn) (hI : CellsIn W An (ints nx)) :
    Calls Try.prog 58 #[.agg #[.int .i64 (k : Int), .slice Ap np cp, .slice An nn cn, .slice Af nf cf]] W (SourcesPost nx k N W) := by
  have hnb : nn ≤ 8080000 := by
    have := Nat.mul_le_mul hN hk8
    rw [← hnn, hx.1]; omega
  have HX := Lib.hid hx
  have HNN := Lib.hid hnn
  have HI := Lib.hid hI
  obtain ⟨wz, hwz⟩ : ∃ z, z = (W.alloc (.cells #[.int .i64 (k : Int), .slice Ap np cp, .slice An nn cn, .slice Af nf cf] 52)).alloc (.cells #[.int .i64 0, .slice none 0 0, .slice none 0 0] 90) := ⟨_, rfl⟩
  have V := Lib.hid (show Hp W [box 90 (W.heap.size + 1) [.int .i64 0, .slice none 0 0, .slice none 0 0], box 52 W.heap.size [.int .i64 (k : Int), .slice Ap np cp, .slice An nn cn, .slice Af nf cf]] wz by
    have := ((Hp.start W).box_new 52 [.int .i64 (k : Int), .slice Ap np cp, .slice An nn cn, .slice Af nf cf]).box_new 90 [.int .i64 0, .slice none 0 0, .slice none 0 0]
    rw [hwz]; simpa using this)
  have HZ := Lib.hid hwz
  have hmk := make_nums ((nn : Int) + 1) (nn + 1) (by simp) (by omega)
  have hw1 : IntKind.i64.wrap ((nn : Int) + 1) = (nn : Int) + 1 := IntWalk.i64_in _ (by omega)
  clear hwz hx hnn hI
  go_enter Try.func58, Try.ntmps58
  go_upto_region 1 with fail
  rw [← HZ.out]
  go_cut [3] (fun s3 wx => ∃ gs gf, s3 = .pointer (some ⟨gs, 0, none⟩) ∧ Hp W [box 90 gs [.int .i64 (k : Int), .slice (some ⟨gf, 0, none⟩) (nn + 1) (nn + 1), .slice none 0 0], nums (some ⟨gf, 0, none⟩) (nn + 1) (nn + 1) (List.replicate (nn + 1) 0), box 90 (W.heap.size + 1) [.int .i64 0, .slice none 0 0, .slice none 0 0], box 52 W.heap.size [.int .i64 (k : Int), .slice Ap np cp, .slice An nn cn, .slice Af nf cf]] wx)
  case first =>
    have hKp : Keep [(⟨W.heap.size, 0, none⟩, .int .i64 (k : Int)), (⟨W.heap.size, 1, none⟩, .slice Ap np cp), (⟨W.heap.size, 2, none⟩, .slice An nn cn), (⟨W.heap.size, 3, none⟩, .slice Af nf cf)] wz := List.forall_mem_cons.2 ⟨⟨(V.out.box_at (i := 1) (j := 0) rfl rfl).1, (V.out.box_at (i := 1) (j := 0) rfl rfl).2.2⟩, List.forall_mem_cons.2 ⟨⟨(V.out.box_at (i := 1) (j := 1) rfl rfl).1, (V.out.box_at (i := 1) (j := 1) rfl rfl).2.2⟩, List.forall_mem_cons.2 ⟨⟨(V.out.box_at (i := 1) (j := 2) rfl rfl).1, (V.out.box_at (i := 1) (j := 2) rfl rfl).2.2⟩, List.forall_mem_cons.2 ⟨⟨(V.out.box_at (i := 1) (j := 3) rfl rfl).1, (V.out.box_at (i := 1) (j := 3) rfl rfl).2.2⟩, fun _ h => by simp at h⟩⟩⟩⟩
    refine wp_region_held_drew (S := Keep _) (by kernel_rfl) hKp.drew (fun hHeld => ?_)
    have Vd := Lib.hid (V.out.go (bdrew _))
    refine tk 0 ?_ rfl ?_ ?_; rotate_left; focus (intro w hSw; clear hSw; go_simp; try (with_reducible rfl))
    try simp only [Act.put, sA, sZ, sS]
    refine tk 1 ?_ rfl ?_ ?_; rotate_left
    · intro wl hSw
      have hSw : Keep _ wl := hSw
      have k0 : wl.cell? ⟨W.heap.size, 0, none⟩ = some (.int .i64 (k : Int)) := (hSw _ (.head _)).1
      clear hSw
      go_simp
      try (with_reducible rfl)
    try simp only [Act.put, sA, sZ, sS]
    refine tk 2 ?_ rfl ?_ ?_; rotate_left; focus (intro w hSw; clear hSw; go_simp; try (with_reducible rfl))
    try simp only [Act.put, sA, sZ, sS]
    refine tk 3 ?_ rfl ?_ ?_; rotate_left
    · intro wl hSw
      have hSw : Keep _ wl := hSw
      have k0 : wl.cell? ⟨W.heap.size, 2, none⟩ = some (.slice An nn cn) := (hSw _ (.tail _ (.tail _ (.head _)))).1
      clear hSw
      go_simp
      try (with_reducible rfl)
    try simp only [Act.put, sA, sZ, sS]
    refine tk 4 ?_ rfl ?_ ?_; rotate_left; focus (intro w hSw; clear hSw; go_simp; try (with_reducible rfl))
    try simp only [Act.put, sA, sZ, sS]
    refine tk 5 ?_ rfl ?_ ?_; rotate_left; focus (intro w hSw; clear hSw; go_simp; try (with_reducible rfl))
    try simp only [Act.put, sA, sZ, sS]
    refine wpAnyH_ready (rs := [6, 8]) (by kernel_rfl) (by simp) ?_
    refine AllReadyH.cons (List.getElem?_toArray.trans rfl) (fun K hK => ?_) ?_
    · obtain ⟨w_6, hw_6⟩ : ∃ z, z = (wz.alloc (.cells (Array.replicate (nn + 1) (Value.int .i64 0)) 3)).drew := ⟨_, rfl⟩
      have V_6 := Lib.hid (show Hp _ (nums (some ⟨wz.heap.size, 0, none⟩) (nn + 1) (nn + 1) (List.replicate (nn + 1) 0) :: _) w_6 by rw [hw_6]; exact Vd.out.made_numsA (nn + 1) (by omega))
      have Bw_6 := Lib.hid (show Below wz.drew.heap.size wz.drew w_6 by rw [hw_6]; exact bnew _ _)
      go_simp
      try rw [← hw_6]
      clear hw_6
      refine hK.out _ _ (hHeld.go Bw_6.out) (fun hHeld => ?_)
      clear hK K
      try simp only [Act.put, sA, sZ, sS]
      refine tk 7 ?_ rfl ?_ ?_; rotate_left; focus (intro w hSw; clear hSw; go_simp; try (with_reducible rfl))
      try simp only [Act.put, sA, sZ, sS]
      refine wpAnyH_ready (rs := [8]) (by kernel_rfl) (by simp) ?_
      refine AllReadyH.cons (List.getElem?_toArray.trans rfl) (fun K hK => ?_) AllReadyH.nil
      obtain ⟨w_6_8, hw_6_8⟩ : ∃ z, z = (w_6.alloc (.cells #[.int .i64 0, .slice none 0 0, .slice none 0 0] 90)) := ⟨_, rfl⟩
      have V_6_8 := Lib.hid (show Hp _ (box 90 w_6.heap.size [.int .i64 0, .slice none 0 0, .slice none 0 0] :: _) w_6_8 by rw [hw_6_8]; exact V_6.out.box_new 90 [.int .i64 0, .slice none 0 0, .slice none 0 0])
      have Bw_6_8 := Lib.hid (show Below w_6.heap.size w_6 w_6_8 by rw [hw_6_8]; exact bnew _ _)
      go_simp
      rw [← hw_6_8]
      clear hw_6_8
      refine hK.out _ _ (hHeld.go Bw_6_8.out) (fun hHeld => ?_)
      clear hK K
      try simp only [Act.put, sA, sZ, sS]
      refine wpAnyH_ready (rs := [9]) (by kernel_rfl) (by simp) ?_
      refine AllReadyH.cons (List.getElem?_toArray.trans rfl) (fun K hK => ?_) AllReadyH.nil
      obtain ⟨r0, o0, z0⟩ := V_6_8.out.box_at (i := 0) (j := 0) rfl rfl
      obtain ⟨r1, o1, z1⟩ := V_6_8.out.box_at (i := 0) (j := 1) rfl rfl
      obtain ⟨r2, o2, z2⟩ := V_6_8.out.box_at (i := 0) (j := 2) rfl rfl
      have q5 : W.heap.size < wz.heap.size := by have q4 := (V.out.box_at (i := 1) (j := 0) rfl rfl).2.2; exact q4
      have q6 : wz.heap.size ≤ w_6.heap.size := Bw_6.out.size
      have VE := Lib.hid (((V_6_8.out.box_set (i := 0) rfl 0 (.int .i64 (k : Int))).box_set (i := 0) rfl 1 (.slice (some ⟨wz.heap.size, 0, none⟩) (nn + 1) (nn + 1))).box_set (i := 0) rfl 2 (.slice none 0 0))
      go_simp
      refine hK.out _ _ ((((hHeld.set _ _ _ (List.forall_mem_cons.2 ⟨(by show ¬ W.heap.size = w_6.heap.size; omega), List.forall_mem_cons.2 ⟨(by show ¬ W.heap.size = w_6.heap.size; omega), List.forall_mem_cons.2 ⟨(by show ¬ W.heap.size = w_6.heap.size; omega), List.forall_mem_cons.2 ⟨(by show ¬ W.heap.size = w_6.heap.size; omega), fun _ h => by simp at h⟩⟩⟩⟩)).set _ _ _ (List.forall_mem_cons.2 ⟨(by show ¬ W.heap.size = w_6.heap.size; omega), List.forall_mem_cons.2 ⟨(by show ¬ W.heap.size = w_6.heap.size; omega), List.forall_mem_cons.2 ⟨(by show ¬ W.heap.size = w_6.heap.size; omega), List.forall_mem_cons.2 ⟨(by show ¬ W.heap.size = w_6.heap.size; omega), fun _ h => by simp at h⟩⟩⟩⟩)).set _ _ _ (List.forall_mem_cons.2 ⟨(by show ¬ W.heap.size = w_6.heap.size; omega), List.forall_mem_cons.2 ⟨(by show ¬ W.heap.size = w_6.heap.size; omega), List.forall_mem_cons.2 ⟨(by show ¬ W.heap.size = w_6.heap.size; omega), List.forall_mem_cons.2 ⟨(by show ¬ W.heap.size = w_6.heap.size; omega), fun _ h => by simp at h⟩⟩⟩⟩))) (fun hHeld => ?_)
      clear hK K
      try simp only [Act.put, sA, sZ, sS]
      refine wpAnyH_done (by kernel_rfl) ?_ _
      go_wp2_with fail
      go_meet
      exact ⟨_, _, rfl, VE.out⟩
    refine AllReadyH.cons (List.getElem?_toArray.trans rfl) (fun K hK => ?_) ?_
    · obtain ⟨w_8, hw_8⟩ : ∃ z, z = (wz.alloc (.cells #[.int .i64 0, .slice none 0 0, .slice none 0 0] 90)).drew := ⟨_, rfl⟩
      have V_8 := Lib.hid (show Hp _ (box 90 wz.heap.size [.int .i64 0, .slice none 0 0, .slice none 0 0] :: _) w_8 by rw [hw_8]; exact Vd.out.box_new 90 [.int .i64 0, .slice none 0 0, .slice none 0 0])
      have Bw_8 := Lib.hid (show Below wz.drew.heap.size wz.drew w_8 by rw [hw_8]; exact bnew _ _)
      go_simp
      rw [← hw_8]
      clear hw_8
      refine hK.out _ _ (hHeld.go Bw_8.out) (fun hHeld => ?_)
      clear hK K
      try simp only [Act.put, sA, sZ, sS]
      refine wpAnyH_ready (rs := [6]) (by kernel_rfl) (by simp) ?_
      refine AllReadyH.cons (List.getElem?_toArray.trans rfl) (fun K hK => ?_) AllReadyH.nil
      obtain ⟨w_8_6, hw_8_6⟩ : ∃ z, z = (w_8.alloc (.cells (Array.replicate (nn + 1) (Value.int .i64 0)) 3)) := ⟨_, rfl⟩
      have V_8_6 := Lib.hid (show Hp _ (nums (some ⟨w_8.heap.size, 0, none⟩) (nn + 1) (nn + 1) (List.replicate (nn + 1) 0) :: _) w_8_6 by rw [hw_8_6]; exact V_8.out.made_numsA (nn + 1) (by omega))
      have Bw_8_6 := Lib.hid (show Below w_8.heap.size w_8 w_8_6 by rw [hw_8_6]; exact bnew _ _)
      go_simp
      try rw [← hw_8_6]
      clear hw_8_6
      refine hK.out _ _ (hHeld.go Bw_8_6.out) (fun hHeld => ?_)
      clear hK K
      try simp only [Act.put, sA, sZ, sS]
      refine tk 7 ?_ rfl ?_ ?_; rotate_left; focus (intro w hSw; clear hSw; go_simp; try (with_reducible rfl))
      try simp only [Act.put, sA, sZ, sS]
      refine wpAnyH_ready (rs := [9]) (by kernel_rfl) (by simp) ?_
      refine AllReadyH.cons (List.getElem?_toArray.trans rfl) (fun K hK => ?_) AllReadyH.nil
      obtain ⟨r0, o0, z0⟩ := V_8_6.out.box_at (i := 1) (j := 0) rfl rfl
      obtain ⟨r1, o1, z1⟩ := V_8_6.out.box_at (i := 1) (j := 1) rfl rfl
      obtain ⟨r2, o2, z2⟩ := V_8_6.out.box_at (i := 1) (j := 2) rfl rfl
      have q5 : W.heap.size < wz.heap.size := by have q4 := (V.out.box_at (i := 1) (j := 0) rfl rfl).2.2; exact q4
      have q6 : wz.heap.size ≤ wz.heap.size := Nat.le_refl _
      have VE := Lib.hid (((V_8_6.out.box_set (i := 1) rfl 0 (.int .i64 (k : Int))).box_set (i := 1) rfl 1 (.slice (some ⟨w_8.heap.size, 0, none⟩) (nn + 1) (nn + 1))).box_set (i := 1) rfl 2 (.slice none 0 0))
      go_simp
      refine hK.out _ _ ((((hHeld.set _ _ _ (List.forall_mem_cons.2 ⟨(by show ¬ W.heap.size = wz.heap.size; omega), List.forall_mem_cons.2 ⟨(by show ¬ W.heap.size = wz.heap.size; omega), List.forall_mem_cons.2 ⟨(by show ¬ W.heap.size = wz.heap.size; omega), List.forall_mem_cons.2 ⟨(by show ¬ W.heap.size = wz.heap.size; omega), fun _ h => by simp at h⟩⟩⟩⟩)).set _ _ _ (List.forall_mem_cons.2 ⟨(by show ¬ W.heap.size = wz.heap.size; omega), List.forall_mem_cons.2 ⟨(by show ¬ W.heap.size = wz.heap.size; omega), List.forall_mem_cons.2 ⟨(by show ¬ W.heap.size = wz.heap.size; omega), List.forall_mem_cons.2 ⟨(by show ¬ W.heap.size = wz.heap.size; omega), fun _ h => by simp at h⟩⟩⟩⟩)).set _ _ _ (List.forall_mem_cons.2 ⟨(by show ¬ W.heap.size = wz.heap.size; omega), List.forall_mem_cons.2 ⟨(by show ¬ W.heap.size = wz.heap.size; omega), List.forall_mem_cons.2 ⟨(by show ¬ W.heap.size = wz.heap.size; omega), List.forall_mem_cons.2 ⟨(by show ¬ W.heap.size = wz.heap.size; omega), fun _ h => by simp at h⟩⟩⟩⟩))) (fun hHeld => ?_)
      clear hK K
      try simp only [Act.put, sA, sZ, sS]
      refine wpAnyH_done (by kernel_rfl) ?_ _
      go_wp2_with fail
      go_meet
      exact ⟨_, _, rfl, VE.out.pick [1, 0, 2, 3] (by decide) rfl⟩
    exact AllReadyH.nil
  case rest =>
    obtain ⟨gs, gf, rfl, hv⟩ := hcut
    have V1 := Lib.hid hv
    obtain ⟨r2, _, r9⟩ := V1.out.box_at (i := 3) (j := 2) rfl rfl
    clear hv V hmk hw1
    go_wp2_with fail
    have HX0 := Lib.hid (show ∃ L, Fst1 nx k 0 L ∧ Hp W [box 90 gs [.int .i64 (k : Int), .slice (some ⟨gf, 0, none⟩) (nn + 1) (nn + 1), .slice none 0 0], nums (some ⟨gf, 0, none⟩) (nn + 1) (nn + 1) L, box 90 (W.heap.size + 1) [.int .i64 0, .slice none 0 0, .slice none 0 0], box 52 W.heap.size [.int .i64 (k : Int), .slice Ap np cp, .slice An nn cn, .slice Af nf cf]] wc from ⟨List.replicate (nn + 1) 0, by have := Fst1.start (nx := nx) (k := k); rwa [HNN.out] at this, V1.out⟩)
    clear V1 r2 r9
    go_loopw [22] (fun cv wr => ∃ a : Nat, cv = .int .i64 (a : Int) ∧ a ≤ nn ∧ ∃ L, Fst1 nx k a L ∧ Hp W [box 90 gs [.int .i64 (k : Int), .slice (some ⟨gf, 0, none⟩) (nn + 1) (nn + 1), .slice none 0 0], nums (some ⟨gf, 0, none⟩) (nn + 1) (nn + 1) L, box 90 (W.heap.size + 1) [.int .i64 0, .slice none 0 0, .slice none 0 0], box 52 W.heap.size [.int .i64 (k : Int), .slice Ap np cp, .slice An nn cn, .slice Af nf cf]] wr) (fun cv _ => nn - (intOf cv).toNat)
    case atStart => exact ⟨0, rfl, Nat.zero_le _, HX0.out⟩
    case round =>
      clear HX0
      obtain ⟨a, rfl, han, L, hL, hV⟩ := hrel
      obtain ⟨wi, rfl⟩ : ∃ wi : World, wi = wr := ⟨_, rfl⟩
      have V := Lib.hid hV
      have HL := Lib.hid hL
      clear hL hV
      by_cases hlt : a < nn
      · obtain ⟨b, off, rfl, hb, hc⟩ := (HI.out.below V.out.below).int (j := a) (by rw [HNN.out]; exact hlt)
        obtain ⟨v, hv⟩ : ∃ v, v = nx.getD a 0 := ⟨_, rfl⟩
        rw [← hv] at hc
        have hv2 : v = nx.getD a (-1) := by rw [hv]; exact getD_def (by rw [HNN.out]; exact hlt) _ _
        by_cases h1 : v = -1
        · have hk := Lib.hid (show hasKey nx a = false from by unfold hasKey; rw [← hv2, h1]; rfl)
          have e1 : (v != -1) = false := bne_no h1
          have HR := Lib.hid (show ∃ L, Fst1 nx k (a + 1) L ∧ Hp W [box 90 gs [.int .i64 (k : Int), .slice (some ⟨gf, 0, none⟩) (nn + 1) (nn + 1), .slice none 0 0], nums (some ⟨gf, 0, none⟩) (nn + 1) (nn + 1) L, box 90 (W.heap.size + 1) [.int .i64 0, .slice none 0 0, .slice none 0 0], box 52 W.heap.size [.int .i64 (k : Int), .slice Ap np cp, .slice (some ⟨b, off, none⟩) nn cn, .slice Af nf cf]] wi from ⟨L, HL.out.skip hk.out, V.out⟩)
          clear hv hv2 h1 HL V
          go_wp2_with fail
          go_roundw
          case rel => exact ⟨a + 1, by go_num, by omega, HR.out⟩
          case measure => simp [intOf]; omega
        · have hk := Lib.hid (show hasKey nx a = true from by unfold hasKey; rw [← hv2]; exact decide_eq_true h1)
          obtain ⟨tg, t1, t2, t3, t4⟩ := HX.out.key hk0 (by rw [HNN.out]; exact hlt) hk.out
          rw [← hv2] at t1
          subst t1
          have e1 : ((tg : Int) != -1) = true := bne_yes h1
          have hmod : ((a : Int)).tmod (k : Int) = ((a % k : Nat) : Int) := by rw [Int.tmod_eq_emod_of_nonneg (by omega)]; simp
          have hak := Nat.mod_lt a hk0
          obtain ⟨am, ham⟩ : ∃ x, x = a % k := ⟨_, rfl⟩
          rw [← ham] at hmod t3 hak
          obtain ⟨q, hq⟩ : ∃ q, q = keyOf nx k a := ⟨_, rfl⟩
          rw [← hq] at t3 t4
          have HQ := Lib.hid t3
          have HKQ := Lib.hid hq
          have hqn : q < nn := by rw [← HNN.out]; exact t4
          have HLL := Lib.hid HL.out.len
          have hLl : q + 1 < L.length := by rw [HLL.out, HNN.out]; omega
          obtain ⟨u, hu⟩ : ∃ u, u = L.getD (q + 1) 0 := ⟨_, rfl⟩
          have hu0 : 0 ≤ u ∧ u ≤ 8080000 := by
            rw [hu, HL.out.at' q (by rw [HNN.out]; omega)]
            have h5 : (Kp nx k q a).length ≤ (List.range a).length := List.length_filter_le _ _
            rw [List.length_range] at h5
            omega
          have HU := Lib.hid hu
          have hkne : ¬ ((k : Int) = 0) := by omega
          have hkn0 : ¬ k = 0 := by omega
          have hw1 : IntKind.i64.wrap ((q : Int) + 1) = (q : Int) + 1 := IntWalk.i64_in _ (by omega)
          have hw2 : IntKind.i64.wrap (u + 1) = u + 1 := IntWalk.i64_in _ (by omega)
          have hw3 : ((q : Int) + 1).toNat = q + 1 := by omega
          have hi1 : (0 : Int) ≤ (q : Int) + 1 := by omega
          have hi2 : (q : Int) + 1 < (nn : Int) + 1 := by omega
          have hi3 : q + 1 < nn + 1 := by omega
          have ht2 : tg ≤ 2000000 := by omega
          have hn1 := HX.out.1
          clear hv hv2 h1 hq t2 t3 t4 ham hu hkne hn1
          go_wp2_with fail
          have hKp : Keep [(⟨gs, 0, none⟩, .int .i64 (k : Int)), (⟨gs, 1, none⟩, .slice (some ⟨gf, 0, none⟩) (nn + 1) (nn + 1)), (⟨gs, 2, none⟩, .slice none 0 0), (⟨W.heap.size, 0, none⟩, .int .i64 (k : Int))] wi := List.forall_mem_cons.2 ⟨⟨(V.out.box_at (i := 0) (j := 0) rfl rfl).1, (V.out.box_at (i := 0) (j := 0) rfl rfl).2.2⟩, List.forall_mem_cons.2 ⟨⟨(V.out.box_at (i := 0) (j := 1) rfl rfl).1, (V.out.box_at (i := 0) (j := 1) rfl rfl).2.2⟩, List.forall_mem_cons.2 ⟨⟨(V.out.box_at (i := 0) (j := 2) rfl rfl).1, (V.out.box_at (i := 0) (j := 2) rfl rfl).2.2⟩, List.forall_mem_cons.2 ⟨⟨(V.out.box_at (i := 3) (j := 0) rfl rfl).1, (V.out.box_at (i := 3) (j := 0) rfl rfl).2.2⟩, fun _ h => by simp at h⟩⟩⟩⟩
          refine wp_region_held_drew (S := Keep _) (by kernel_rfl) hKp.drew (fun hHeld => ?_)
          have Vd := Lib.hid (V.out.go (bdrew _))
          refine tk 0 ?_ rfl ?_ ?_; rotate_left; focus (intro w hSw; clear hSw; go_simp; try (with_reducible rfl))
          try simp only [Act.put, sA, sZ, sS]
          refine tk 1 ?_ rfl ?_ ?_; rotate_left
          · intro wl hSw
            have hSw : Keep _ wl := hSw
            have k0 : wl.cell? ⟨gs, 1, none⟩ = some (.slice (some ⟨gf, 0, none⟩) (nn + 1) (nn + 1)) := (hSw _ (.tail _ (.head _))).1
            clear hSw
            go_simp
            try (with_reducible rfl)
          try simp only [Act.put, sA, sZ, sS]
          refine tk 2 ?_ rfl ?_ ?_; rotate_left
          · intro wl hSw
            have hSw : Keep _ wl := hSw
            have k0 : wl.cell? ⟨gs, 0, none⟩ = some (.int .i64 (k : Int)) := (hSw _ (.head _)).1
            have k1 : wl.cell? ⟨gs, 1, none⟩ = some (.slice (some ⟨gf, 0, none⟩) (nn + 1) (nn + 1)) := (hSw _ (.tail _ (.head _))).1
            have k2 : wl.cell? ⟨gs, 2, none⟩ = some (.slice none 0 0) := (hSw _ (.tail _ (.tail _ (.head _)))).1
            clear hSw
            go_simp
            try (with_reducible rfl)
          try simp only [Act.put, sA, sZ, sS]
          refine tk 3 ?_ rfl ?_ ?_; rotate_left; focus (intro w hSw; clear hSw; go_simp; try (with_reducible rfl))
          try simp only [Act.put, sA, sZ, sS]
          refine tk 4 ?_ rfl ?_ ?_; rotate_left; focus (intro w hSw; clear hSw; go_simp; try (with_reducible rfl))
          try simp only [Act.put, sA, sZ, sS]
          refine tk 5 ?_ rfl ?_ ?_; rotate_left; focus (intro w hSw; clear hSw; go_simp; try (with_reducible rfl))
          try simp only [Act.put, sA, sZ, sS]
          refine tk 6 ?_ rfl ?_ ?_; rotate_left
          · intro wl hSw
            have hSw : Keep _ wl := hSw
            have k0 : wl.cell? ⟨W.heap.size, 0, none⟩ = some (.int .i64 (k : Int)) := (hSw _ (.tail _ (.tail _ (.tail _ (.head _))))).1
            clear hSw
            go_simp
            try (with_reducible rfl)
          try simp only [Act.put, sA, sZ, sS]
          refine tk 7 ?_ rfl ?_ ?_; rotate_left; focus (intro w hSw; clear hSw; go_simp; try (with_reducible rfl))
          try simp only [Act.put, sA, sZ, sS]
          refine wpAnyH_ready (rs := [8]) (by kernel_rfl) (by simp) ?_
          refine AllReadyH.cons (List.getElem?_toArray.trans rfl) (fun K hK => ?_) AllReadyH.nil
          go_simp
          refine (number_is q tg am _ _ k _ _ _ _ _ _ _ HQ.out rfl rfl ht2 hk8 (by omega)).mono ?_
          rintro e w_8 ⟨rfl, b_8⟩
          try go_wp2_with fail
          have V_8 := Lib.hid (Vd.out.go b_8)
          refine hK.out _ _ (hHeld.go b_8) (fun hHeld => ?_)
          clear hK K
          try simp only [Act.put, sA, sZ, sS]
          refine tk 9 ?_ rfl ?_ ?_; rotate_left; focus (intro w hSw; clear hSw; go_simp; try (with_reducible rfl))
          try simp only [Act.put, sA, sZ, sS]
          refine tk 10 ?_ rfl ?_ ?_; rotate_left; focus (intro w hSw; clear hSw; go_simp; try (with_reducible rfl))
          try simp only [Act.put, sA, sZ, sS]
          refine wpAnyH_ready (rs := [11]) (by kernel_rfl) (by simp) ?_
          refine AllReadyH.cons (List.getElem?_toArray.trans rfl) (fun K hK => ?_) AllReadyH.nil
          have yL := (V_8.out.num_at (i := 1) rfl hLl).1
          rw [← HU.out] at yL
          go_simp
          refine hK.out _ _ (hHeld) (fun hHeld => ?_)
          clear hK K
          try simp only [Act.put, sA, sZ, sS]
          refine tk 12 ?_ rfl ?_ ?_; rotate_left; focus (intro w hSw; clear hSw; go_simp; try (with_reducible rfl))
          try simp only [Act.put, sA, sZ, sS]
          refine tk 13 ?_ rfl ?_ ?_; rotate_left; focus (intro w hSw; clear hSw; go_simp; try (with_reducible rfl))
          try simp only [Act.put, sA, sZ, sS]
          refine wpAnyH_ready (rs := [14]) (by kernel_rfl) (by simp) ?_
          refine AllReadyH.cons (List.getElem?_toArray.trans rfl) (fun K hK => ?_) AllReadyH.nil
          obtain ⟨r0, o0, z0⟩ := V_8.out.num_at (i := 1) rfl hLl
          have VE := Lib.hid (V_8.out.num_set (i := 1) rfl (q + 1) (u + 1))
          go_simp
          refine hK.out _ _ (List.forall_mem_cons.2 ⟨⟨(VE.out.box_at (i := 0) (j := 0) rfl rfl).1, (VE.out.box_at (i := 0) (j := 0) rfl rfl).2.2⟩, List.forall_mem_cons.2 ⟨⟨(VE.out.box_at (i := 0) (j := 1) rfl rfl).1, (VE.out.box_at (i := 0) (j := 1) rfl rfl).2.2⟩, List.forall_mem_cons.2 ⟨⟨(VE.out.box_at (i := 0) (j := 2) rfl rfl).1, (VE.out.box_at (i := 0) (j := 2) rfl rfl).2.2⟩, List.forall_mem_cons.2 ⟨⟨(VE.out.box_at (i := 3) (j := 0) rfl rfl).1, (VE.out.box_at (i := 3) (j := 0) rfl rfl).2.2⟩, fun _ h => by simp at h⟩⟩⟩⟩) (fun hHeld => ?_)
          clear hK K
          try simp only [Act.put, sA, sZ, sS]
          refine wpAnyH_done (by kernel_rfl) ?_ _
          have HR := Lib.hid (show ∃ L, Fst1 nx k (a + 1) L ∧ Hp W [box 90 gs [.int .i64 (k : Int), .slice (some ⟨gf, 0, none⟩) (nn + 1) (nn + 1), .slice none 0 0], nums (some ⟨gf, 0, none⟩) (nn + 1) (nn + 1) L, box 90 (W.heap.size + 1) [.int .i64 0, .slice none 0 0, .slice none 0 0], box 52 W.heap.size [.int .i64 (k : Int), .slice Ap np cp, .slice (some ⟨b, off, none⟩) nn cn, .slice Af nf cf]] _ from ⟨_, by have := HL.out.step hk.out HKQ.out.symm (by rw [HNN.out]; exact hqn); rw [← HU.out] at this; exact this, VE.out⟩)
          clear VE
          go_wp2_with fail
          go_roundw
          case rel => exact ⟨a + 1, by go_num, by omega, HR.out⟩
          case measure => simp [intOf]; omega
      · obtain rfl : a = nn := by omega
        have H2 := Lib.hid (show ∃ L, Fst2 nx k 0 L ∧ Hp W [box 90 gs [.int .i64 (k : Int), .slice (some ⟨gf, 0, none⟩) (a + 1) (a + 1), .slice none 0 0], nums (some ⟨gf, 0, none⟩) (a + 1) (a + 1) L, box 90 (W.heap.size + 1) [.int .i64 0, .slice none 0 0, .slice none 0 0], box 52 W.heap.size [.int .i64 (k : Int), .slice Ap np cp, .slice An a cn, .slice Af nf cf]] wi from ⟨L, by have := HL.out; rw [← HNN.out] at this; exact this.two, V.out⟩)
        obtain ⟨r2, _, r9⟩ := V.out.box_at (i := 3) (j := 2) rfl rfl
        clear HL V hlt han
        go_wp2_with fail
        go_loopw [47] (fun cv wr => ∃ b : Nat, cv = .int .i64 (b : Int) ∧ b ≤ a ∧ ∃ L, Fst2 nx k b L ∧ Hp W [box 90 gs [.int .i64 (k : Int), .slice (some ⟨gf, 0, none⟩) (a + 1) (a + 1), .slice none 0 0], nums (some ⟨gf, 0, none⟩) (a + 1) (a + 1) L, box 90 (W.heap.size + 1) [.int .i64 0, .slice none 0 0, .slice none 0 0], box 52 W.heap.size [.int .i64 (k : Int), .slice Ap np cp, .slice An a cn, .slice Af nf cf]] wr) (fun cv _ => a - (intOf cv).toNat)
        case atStart => exact ⟨0, rfl, Nat.zero_le _, H2.out⟩
        case round =>
          clear H2
          obtain ⟨b2, rfl, hba, L, hL, hV⟩ := hrel
          obtain ⟨wj, rfl⟩ : ∃ wj : World, wj = wr := ⟨_, rfl⟩
          have V := Lib.hid hV
          have HL := Lib.hid hL
          have HLL := Lib.hid hL.len
          clear hL hV
          by_cases hlt : b2 < a
          · have hl1 : b2 + 1 < L.length := by rw [HLL.out, HNN.out]; omega
            have hl0 : b2 < L.length := by omega
            obtain ⟨u1, hu1⟩ : ∃ u, u = L.getD (b2 + 1) 0 := ⟨_, rfl⟩
            obtain ⟨u0, hu0⟩ : ∃ u, u = L.getD b2 0 := ⟨_, rfl⟩
            have hb1 : 0 ≤ u1 ∧ u1 ≤ 8080000 := by
              rw [hu1, HL.out.hi b2 (Nat.le_refl _) (by rw [HNN.out]; exact hlt)]
              have h5 : (Kp nx k b2 nx.length).length ≤ (List.range nx.length).length := List.length_filter_le _ _
              rw [List.length_range] at h5
              have h6 := HNN.out
              omega
            have hb0 : 0 ≤ u0 ∧ u0 ≤ 8080000 := by
              rw [hu0, HL.out.lo b2 (Nat.le_refl _)]
              have := tot_le (nx := nx) (k := k) b2
              rw [HNN.out] at this
              omega
            have HU1 := Lib.hid hu1
            have HU0 := Lib.hid hu0
            have hw1 : IntKind.i64.wrap ((b2 : Int) + 1) = (b2 : Int) + 1 := IntWalk.i64_in _ (by omega)
            have hw2 : IntKind.i64.wrap (u1 + u0) = u1 + u0 := IntWalk.i64_in _ (by omega)
            have hw3 : ((b2 : Int) + 1).toNat = b2 + 1 := by omega
            have hi1 : (0 : Int) ≤ (b2 : Int) + 1 := by omega
            have hi2 : (b2 : Int) + 1 < (a : Int) + 1 := by omega
            have hi3 : b2 + 1 < a + 1 := by omega
            have hi4 : (b2 : Int) < (a : Int) + 1 := by omega
            have hi5 : b2 < a + 1 := by omega
            clear hu1 hu0
            go_wp2_with fail
            have hKp : Keep [(⟨gs, 0, none⟩, .int .i64 (k : Int)), (⟨gs, 1, none⟩, .slice (some ⟨gf, 0, none⟩) (a + 1) (a + 1)), (⟨gs, 2, none⟩, .slice none 0 0), (⟨gf, b2, none⟩, .int .i64 u0)] wj := List.forall_mem_cons.2 ⟨⟨(V.out.box_at (i := 0) (j := 0) rfl rfl).1, (V.out.box_at (i := 0) (j := 0) rfl rfl).2.2⟩, List.forall_mem_cons.2 ⟨⟨(V.out.box_at (i := 0) (j := 1) rfl rfl).1, (V.out.box_at (i := 0) (j := 1) rfl rfl).2.2⟩, List.forall_mem_cons.2 ⟨⟨(V.out.box_at (i := 0) (j := 2) rfl rfl).1, (V.out.box_at (i := 0) (j := 2) rfl rfl).2.2⟩, List.forall_mem_cons.2 ⟨⟨(by have := (V.out.num_at (i := 1) rfl hl0).1; rwa [← HU0.out] at this), (V.out.num_at (i := 1) rfl hl0).2.2⟩, fun _ h => by simp at h⟩⟩⟩⟩
            refine wp_region_held_drew (S := Keep _) (by kernel_rfl) hKp.drew (fun hHeld => ?_)
            have Vd := Lib.hid (V.out.go (bdrew _))
            refine tk 0 ?_ rfl ?_ ?_; rotate_left; focus (intro w hSw; clear hSw; go_simp; try (with_reducible rfl))
            try simp only [Act.put, sA, sZ, sS]
            refine tk 1 ?_ rfl ?_ ?_; rotate_left
            · intro wl hSw
              have hSw : Keep _ wl := hSw
              have k0 : wl.cell? ⟨gs, 1, none⟩ = some (.slice (some ⟨gf, 0, none⟩) (a + 1) (a + 1)) := (hSw _ (.tail _ (.head _))).1
              clear hSw
              go_simp
              try (with_reducible rfl)
            try simp only [Act.put, sA, sZ, sS]
            refine tk 2 ?_ rfl ?_ ?_; rotate_left; focus (intro w hSw; clear hSw; go_simp; try (with_reducible rfl))
            try simp only [Act.put, sA, sZ, sS]
            refine tk 3 ?_ rfl ?_ ?_; rotate_left; focus (intro w hSw; clear hSw; go_simp; try (with_reducible rfl))
            try simp only [Act.put, sA, sZ, sS]
            refine tk 4 ?_ rfl ?_ ?_; rotate_left; focus (intro w hSw; clear hSw; go_simp; try (with_reducible rfl))
            try simp only [Act.put, sA, sZ, sS]
            refine tk 6 ?_ rfl ?_ ?_; rotate_left; focus (intro w hSw; clear hSw; go_simp; try (with_reducible rfl))
            try simp only [Act.put, sA, sZ, sS]
            refine tk 7 ?_ rfl ?_ ?_; rotate_left
            · intro wl hSw
              have hSw : Keep _ wl := hSw
              have k0 : wl.cell? ⟨gs, 1, none⟩ = some (.slice (some ⟨gf, 0, none⟩) (a + 1) (a + 1)) := (hSw _ (.tail _ (.head _))).1
              clear hSw
              go_simp
              try (with_reducible rfl)
            try simp only [Act.put, sA, sZ, sS]
            refine tk 8 ?_ rfl ?_ ?_; rotate_left; focus (intro w hSw; clear hSw; go_simp; try (with_reducible rfl))
            try simp only [Act.put, sA, sZ, sS]
            refine tk 9 ?_ rfl ?_ ?_; rotate_left; focus (intro w hSw; clear hSw; go_simp; try (with_reducible rfl))
            try simp only [Act.put, sA, sZ, sS]
            refine tk 10 ?_ rfl ?_ ?_; rotate_left
            · intro wl hSw
              have hSw : Keep _ wl := hSw
              have k0 : wl.cell? ⟨gf, b2, none⟩ = some (.int .i64 u0) := (hSw _ (.tail _ (.tail _ (.tail _ (.head _))))).1
              clear hSw
              go_simp
              try (with_reducible rfl)
            try simp only [Act.put, sA, sZ, sS]
            refine wpAnyH_ready (rs := [5]) (by kernel_rfl) (by simp) ?_
            refine AllReadyH.cons (List.getElem?_toArray.trans rfl) (fun K hK => ?_) AllReadyH.nil
            have yL := (Vd.out.num_at (i := 1) rfl hl1).1
            rw [← HU1.out] at yL
            go_simp
            refine hK.out _ _ (hHeld) (fun hHeld => ?_)
            clear hK K
            try simp only [Act.put, sA, sZ, sS]
            refine tk 11 ?_ rfl ?_ ?_; rotate_left; focus (intro w hSw; clear hSw; go_simp; try (with_reducible rfl))
            try simp only [Act.put, sA, sZ, sS]
            refine tk 12 ?_ rfl ?_ ?_; rotate_left; focus (intro w hSw; clear hSw; go_simp; try (with_reducible rfl))
            try simp only [Act.put, sA, sZ, sS]
            refine wpAnyH_ready (rs := [13]) (by kernel_rfl) (by simp) ?_
            refine AllReadyH.cons (List.getElem?_toArray.trans rfl) (fun K hK => ?_) AllReadyH.nil
            obtain ⟨r0, o0, z0⟩ := Vd.out.num_at (i := 1) rfl hl1
            have VE := Lib.hid (Vd.out.num_set (i := 1) rfl (b2 + 1) (u1 + u0))
            have x0 := (VE.out.num_at (i := 1) rfl (j := b2) (by rw [List.length_set]; exact hl0))
            rw [getD_set hl1, if_neg (by omega), ← HU0.out] at x0
            go_simp
            refine hK.out _ _ (List.forall_mem_cons.2 ⟨⟨(VE.out.box_at (i := 0) (j := 0) rfl rfl).1, (VE.out.box_at (i := 0) (j := 0) rfl rfl).2.2⟩, List.forall_mem_cons.2 ⟨⟨(VE.out.box_at (i := 0) (j := 1) rfl rfl).1, (VE.out.box_at (i := 0) (j := 1) rfl rfl).2.2⟩, List.forall_mem_cons.2 ⟨⟨(VE.out.box_at (i := 0) (j := 2) rfl rfl).1, (VE.out.box_at (i := 0) (j := 2) rfl rfl).2.2⟩, List.forall_mem_cons.2 ⟨⟨x0.1, x0.2.2⟩, fun _ h => by simp at h⟩⟩⟩⟩) (fun hHeld => ?_)
            clear hK K
            try simp only [Act.put, sA, sZ, sS]
            refine wpAnyH_done (by kernel_rfl) ?_ _
            have HR := Lib.hid (show ∃ L, Fst2 nx k (b2 + 1) L ∧ Hp W [box 90 gs [.int .i64 (k : Int), .slice (some ⟨gf, 0, none⟩) (a + 1) (a + 1), .slice none 0 0], nums (some ⟨gf, 0, none⟩) (a + 1) (a + 1) L, box 90 (W.heap.size + 1) [.int .i64 0, .slice none 0 0, .slice none 0 0], box 52 W.heap.size [.int .i64 (k : Int), .slice Ap np cp, .slice An a cn, .slice Af nf cf]] _ from ⟨_, by have := HL.out.step (by rw [HNN.out]; exact hlt); rw [← HU1.out, ← HU0.out] at this; exact this, VE.out⟩)
            clear VE
            go_wp2_with fail
            go_roundw
            case rel => exact ⟨b2 + 1, by go_num, by omega, HR.out⟩
            case measure => simp [intOf]; omega
          · obtain rfl : b2 = a := by omega
            obtain ⟨tt, htt⟩ : ∃ x, x = tot nx k b2 := ⟨_, rfl⟩
            have htb : tt ≤ 8080000 := by
              rw [htt]
              have := tot_le (nx := nx) (k := k) b2
              rw [HNN.out] at this
              omega
            have HF2 := Lib.hid (show Fst2 nx k nx.length L by rw [HNN.out]; exact HL.out)
            have hll : b2 < L.length := by rw [HLL.out, HNN.out]; omega
            have hc1 := (V.out.num_at (i := 1) rfl hll).1
            have hc9 := (V.out.num_at (i := 1) rfl hll).2.2
            rw [HL.out.lo b2 (Nat.le_refl _), ← htt] at hc1
            have HTT := Lib.hid (show tt = tot nx k nx.length by rw [HNN.out]; exact htt)
            have hmk := make_nums (tt : Int) tt rfl (by omega)
            obtain ⟨r1, _, r9⟩ := V.out.box_at (i := 0) (j := 1) rfl rfl
            obtain ⟨s2, _, s9⟩ := V.out.box_at (i := 3) (j := 2) rfl rfl
            have V13 := Lib.hid (V.out.made_numsA tt (by omega))
            obtain ⟨x2, o2, x9⟩ := V13.out.box_at (i := 1) (j := 2) rfl rfl
            have V14 := Lib.hid ((V.out.box_set (i := 0) rfl 2 (.slice (some ⟨wj.heap.size, 0, none⟩) tt tt)).made_numsA tt (by omega))
            have hsz : (wj.setCell ⟨gs, 2, none⟩ (.slice (some ⟨wj.heap.size, 0, none⟩) tt tt)).heap.size = wj.heap.size := by simp [World.setCell]
            clear HL htt hba hlt
            go_upto_region 14 with fail
            obtain ⟨wk, hwk⟩ : ∃ z, z = (wj.setCell ⟨gs, 2, none⟩ (.slice (some ⟨wj.heap.size, 0, none⟩) tt tt)).alloc (.cells (Array.replicate tt (.int .i64 0)) 3) := ⟨_, rfl⟩
            obtain ⟨gr, hgr⟩ : ∃ z, z = wj.heap.size := ⟨_, rfl⟩
            have V15 := Lib.hid (show Hp W [nums (some ⟨gr, 0, none⟩) tt tt (List.replicate tt 0), box 90 gs [.int .i64 (k : Int), .slice (some ⟨gf, 0, none⟩) (b2 + 1) (b2 + 1), .slice (some ⟨gr, 0, none⟩) tt tt], nums (some ⟨gf, 0, none⟩) (b2 + 1) (b2 + 1) L, box 90 (W.heap.size + 1) [.int .i64 0, .slice none 0 0, .slice none 0 0], box 52 W.heap.size [.int .i64 (k : Int), .slice Ap np cp, .slice An b2 cn, .slice Af nf cf]] wk by rw [hwk, hgr]; have := V14.out; rw [hsz] at this; exact this)
            rw [← hgr] at hwk ⊢
            rw [← hwk]
            clear r1 r9 s2 s9 x2 o2 x9 V13 V14 V hwk hgr hc1 hc9 hmk hsz
            obtain ⟨r1, _, r9⟩ := V15.out.box_at (i := 1) (j := 1) rfl rfl
            go_wp2_with fail
            refine (clone_nums L (some ⟨gf, 0, none⟩) (b2 + 1) (b2 + 1) W _ _ V15.out (by rw [HLL.out, HNN.out]) (by omega) (V15.out.cells (i := 2) rfl rfl)).mono ?_
            rintro e w16 ⟨C, d, rfl, hv16, b16⟩
            have V16 := Lib.hid hv16
            obtain ⟨gc, rfl⟩ := V16.out.head (i := 0) (A := C) (c := d) rfl rfl (Nat.succ_pos _)
            clear b16 hv16 r1 r9 V15
            obtain ⟨s2, _, s9⟩ := V16.out.box_at (i := 5) (j := 2) rfl rfl
            go_wp2_with fail
            clear s2 s9
            have H3 := Lib.hid (show ∃ fre fr, Srt nx k 0 fre fr ∧ Hp W [nums (some ⟨gc, 0, none⟩) (b2 + 1) d fre, box 90 gs [.int .i64 (k : Int), .slice (some ⟨gf, 0, none⟩) (b2 + 1) (b2 + 1), .slice (some ⟨gr, 0, none⟩) tt tt], nums (some ⟨gr, 0, none⟩) tt tt fr, nums (some ⟨gf, 0, none⟩) (b2 + 1) (b2 + 1) L, box 90 (W.heap.size + 1) [.int .i64 0, .slice none 0 0, .slice none 0 0], box 52 W.heap.size [.int .i64 (k : Int), .slice Ap np cp, .slice An b2 cn, .slice Af nf cf]] w16 from ⟨L, List.replicate tt 0, by rw [HTT.out]; exact Srt.start HF2.out, V16.out.pick [0, 2, 1, 3, 4, 5] (by decide) rfl⟩)
            clear V16
            go_loopw [79] (fun cv wr => ∃ c : Nat, cv = .int .i64 (c : Int) ∧ c ≤ b2 ∧ ∃ fre fr, Srt nx k c fre fr ∧ Hp W [nums (some ⟨gc, 0, none⟩) (b2 + 1) d fre, box 90 gs [.int .i64 (k : Int), .slice (some ⟨gf, 0, none⟩) (b2 + 1) (b2 + 1), .slice (some ⟨gr, 0, none⟩) tt tt], nums (some ⟨gr, 0, none⟩) tt tt fr, nums (some ⟨gf, 0, none⟩) (b2 + 1) (b2 + 1) L, box 90 (W.heap.size + 1) [.int .i64 0, .slice none 0 0, .slice none 0 0], box 52 W.heap.size [.int .i64 (k : Int), .slice Ap np cp, .slice An b2 cn, .slice Af nf cf]] wr) (fun cv _ => b2 - (intOf cv).toNat)
            case atStart => exact ⟨0, rfl, Nat.zero_le _, H3.out⟩
            case round =>
              clear H3
              obtain ⟨c3, rfl, hc3, fre, fr, hS, hV⟩ := hrel
              obtain ⟨wl, rfl⟩ : ∃ wl : World, wl = wr := ⟨_, rfl⟩
              have V := Lib.hid hV
              have HS := Lib.hid hS
              have hlf : fre.length = b2 + 1 := by rw [hS.lf, HNN.out]
              have hlr : fr.length = tt := by rw [hS.lr, HTT.out]
              clear hV hS
              by_cases hlt : c3 < b2
              · obtain ⟨b, off, rfl, hb, hc⟩ := (HI.out.below V.out.below).int (j := c3) (by rw [HNN.out]; exact hlt)
                obtain ⟨v, hv⟩ : ∃ v, v = nx.getD c3 0 := ⟨_, rfl⟩
                rw [← hv] at hc
                have hv2 : v = nx.getD c3 (-1) := by rw [hv]; exact getD_def (by rw [HNN.out]; exact hlt) _ _
                by_cases h1 : v = -1
                · have hk := Lib.hid (show hasKey nx c3 = false from by unfold hasKey; rw [← hv2, h1]; rfl)
                  have e1 : (v != -1) = false := bne_no h1
                  have HR := Lib.hid (show ∃ fre fr, Srt nx k (c3 + 1) fre fr ∧ Hp W [nums (some ⟨gc, 0, none⟩) (b2 + 1) d fre, box 90 gs [.int .i64 (k : Int), .slice (some ⟨gf, 0, none⟩) (b2 + 1) (b2 + 1), .slice (some ⟨gr, 0, none⟩) tt tt], nums (some ⟨gr, 0, none⟩) tt tt fr, nums (some ⟨gf, 0, none⟩) (b2 + 1) (b2 + 1) L, box 90 (W.heap.size + 1) [.int .i64 0, .slice none 0 0, .slice none 0 0], box 52 W.heap.size [.int .i64 (k : Int), .slice Ap np cp, .slice (some ⟨b, off, none⟩) b2 cn, .slice Af nf cf]] wl from ⟨fre, fr, HS.out.skip hk.out, V.out⟩)
                  clear hv hv2 h1 HS V hlf hlr
                  go_wp2_with fail
                  go_roundw
                  case rel => exact ⟨c3 + 1, by go_num, by omega, HR.out⟩
                  case measure => simp [intOf]; omega
                · have hk := Lib.hid (show hasKey nx c3 = true from by unfold hasKey; rw [← hv2]; exact decide_eq_true h1)
                  obtain ⟨tg, t1, t2, t3, t4⟩ := HX.out.key hk0 (by rw [HNN.out]; exact hlt) hk.out
                  rw [← hv2] at t1
                  subst t1
                  have e1 : ((tg : Int) != -1) = true := bne_yes h1
                  have hmod : ((c3 : Int)).tmod (k : Int) = ((c3 % k : Nat) : Int) := by rw [Int.tmod_eq_emod_of_nonneg (by omega)]; simp
                  have hdiv : ((c3 : Int)).tdiv (k : Int) = ((c3 / k : Nat) : Int) := by rw [Int.tdiv_eq_ediv_of_nonneg (by omega)]; simp
                  have hak := Nat.mod_lt c3 hk0
                  have hcb : c3 / k ≤ c3 := Nat.div_le_self _ _
                  obtain ⟨am, ham⟩ : ∃ x, x = c3 % k := ⟨_, rfl⟩
                  rw [← ham] at hmod t3 hak
                  obtain ⟨cd, hcd⟩ : ∃ x, x = c3 / k := ⟨_, rfl⟩
                  rw [← hcd] at hdiv hcb
                  have HCD := Lib.hid hcd
                  obtain ⟨q, hq⟩ : ∃ q, q = keyOf nx k c3 := ⟨_, rfl⟩
                  rw [← hq] at t3 t4
                  have HQ := Lib.hid t3
                  have HKQ := Lib.hid hq
                  have hqn : q < b2 := by rw [← HNN.out]; exact t4
                  obtain ⟨fq, hfq⟩ : ∃ x, x = tot nx k q + (Kp nx k q c3).length := ⟨_, rfl⟩
                  have HFQ := Lib.hid hfq
                  have HFV := Lib.hid (show fre.getD q 0 = (fq : Int) by rw [HS.out.fr q t4, hfq])
                  have hfb : fq < tt := by
                    have h5 := Kp_room (show c3 < nx.length by rw [HNN.out]; exact hlt) hk.out hq.symm
                    have h6 := tot_mono (nx := nx) (k := k) (show q + 1 ≤ nx.length by omega)
                    rw [hfq, HTT.out]
                    omega
                  have hlq : q < fre.length := by omega
                  have hlr2 : fq < fr.length := by omega
                  have hkn0 : ¬ k = 0 := by omega
                  have ht2 : tg ≤ 2000000 := by omega
                  have hwf : IntKind.i64.wrap ((fq : Int) + 1) = (fq : Int) + 1 := IntWalk.i64_in _ (by omega)
                  have hwc : IntKind.i64.wrap (cd : Int) = (cd : Int) := IntWalk.i64_in _ (by omega)
                  have hi0 : (q : Int) < (b2 : Int) + 1 := by omega
                  have hi1 : q < b2 + 1 := by omega
                  have hi2 : (fq : Int) < (tt : Int) := by omega
                  clear hv hv2 h1 hq t2 t3 t4 ham hcd hfq hlf hlr
                  go_wp2_with fail
                  have hKp : Keep [(⟨gs, 0, none⟩, .int .i64 (k : Int)), (⟨gs, 1, none⟩, .slice (some ⟨gf, 0, none⟩) (b2 + 1) (b2 + 1)), (⟨gs, 2, none⟩, .slice (some ⟨gr, 0, none⟩) tt tt), (⟨W.heap.size, 0, none⟩, .int .i64 (k : Int))] wl := List.forall_mem_cons.2 ⟨⟨(V.out.box_at (i := 1) (j := 0) rfl rfl).1, (V.out.box_at (i := 1) (j := 0) rfl rfl).2.2⟩, List.forall_mem_cons.2 ⟨⟨(V.out.box_at (i := 1) (j := 1) rfl rfl).1, (V.out.box_at (i := 1) (j := 1) rfl rfl).2.2⟩, List.forall_mem_cons.2 ⟨⟨(V.out.box_at (i := 1) (j := 2) rfl rfl).1, (V.out.box_at (i := 1) (j := 2) rfl rfl).2.2⟩, List.forall_mem_cons.2 ⟨⟨(V.out.box_at (i := 5) (j := 0) rfl rfl).1, (V.out.box_at (i := 5) (j := 0) rfl rfl).2.2⟩, fun _ h => by simp at h⟩⟩⟩⟩
                  refine wp_region_held_drew (S := Keep _) (by kernel_rfl) hKp.drew (fun hHeld => ?_)
                  have Vd := Lib.hid (V.out.go (bdrew _))
                  refine tk 0 ?_ rfl ?_ ?_; rotate_left
                  · intro wl hSw
                    have hSw : Keep _ wl := hSw
                    have k0 : wl.cell? ⟨gs, 0, none⟩ = some (.int .i64 (k : Int)) := (hSw _ (.head _)).1
                    have k1 : wl.cell? ⟨gs, 1, none⟩ = some (.slice (some ⟨gf, 0, none⟩) (b2 + 1) (b2 + 1)) := (hSw _ (.tail _ (.head _))).1
                    have k2 : wl.cell? ⟨gs, 2, none⟩ = some (.slice (some ⟨gr, 0, none⟩) tt tt) := (hSw _ (.tail _ (.tail _ (.head _)))).1
                    clear hSw
                    go_simp
                    try (with_reducible rfl)
                  try simp only [Act.put, sA, sZ, sS]
                  refine tk 1 ?_ rfl ?_ ?_; rotate_left; focus (intro w hSw; clear hSw; go_simp; try (with_reducible rfl))
                  try simp only [Act.put, sA, sZ, sS]
                  refine tk 2 ?_ rfl ?_ ?_; rotate_left; focus (intro w hSw; clear hSw; go_simp; try (with_reducible rfl))
                  try simp only [Act.put, sA, sZ, sS]
                  refine tk 3 ?_ rfl ?_ ?_; rotate_left; focus (intro w hSw; clear hSw; go_simp; try (with_reducible rfl))
                  try simp only [Act.put, sA, sZ, sS]
                  refine tk 4 ?_ rfl ?_ ?_; rotate_left
                  · intro wl hSw
                    have hSw : Keep _ wl := hSw
                    have k0 : wl.cell? ⟨W.heap.size, 0, none⟩ = some (.int .i64 (k : Int)) := (hSw _ (.tail _ (.tail _ (.tail _ (.head _))))).1
                    clear hSw
                    go_simp
                    try (with_reducible rfl)
                  try simp only [Act.put, sA, sZ, sS]
                  refine tk 5 ?_ rfl ?_ ?_; rotate_left; focus (intro w hSw; clear hSw; go_simp; try (with_reducible rfl))
                  try simp only [Act.put, sA, sZ, sS]
                  refine wpAnyH_ready (rs := [6]) (by kernel_rfl) (by simp) ?_
                  refine AllReadyH.cons (List.getElem?_toArray.trans rfl) (fun K hK => ?_) AllReadyH.nil
                  go_simp
                  refine (number_is q tg am _ _ k _ _ _ _ _ _ _ HQ.out rfl rfl ht2 hk8 (by omega)).mono ?_
                  rintro e w_6 ⟨rfl, b_6⟩
                  try go_wp2_with fail
                  have V_6 := Lib.hid (Vd.out.go b_6)
                  refine hK.out _ _ (hHeld.go b_6) (fun hHeld => ?_)
                  clear hK K
                  try simp only [Act.put, sA, sZ, sS]
                  refine tk 7 ?_ rfl ?_ ?_; rotate_left; focus (intro w hSw; clear hSw; go_simp; try (with_reducible rfl))
                  try simp only [Act.put, sA, sZ, sS]
                  refine wpAnyH_done (by kernel_rfl) ?_ _
                  clear hHeld hKp
                  obtain ⟨wm, rfl⟩ : ∃ wm : World, wm = w_6 := ⟨_, rfl⟩
                  go_wp2_with fail
                  have hKp : Keep [(⟨gs, 2, none⟩, .slice (some ⟨gr, 0, none⟩) tt tt), (⟨gc, q, none⟩, .int .i64 (fq : Int)), (⟨W.heap.size, 0, none⟩, .int .i64 (k : Int))] wm := List.forall_mem_cons.2 ⟨⟨(V_6.out.box_at (i := 1) (j := 2) rfl rfl).1, (V_6.out.box_at (i := 1) (j := 2) rfl rfl).2.2⟩, List.forall_mem_cons.2 ⟨⟨(by have := (V_6.out.num_at (i := 0) rfl hlq).1; rwa [HFV.out] at this), (V_6.out.num_at (i := 0) rfl hlq).2.2⟩, List.forall_mem_cons.2 ⟨⟨(V_6.out.box_at (i := 5) (j := 0) rfl rfl).1, (V_6.out.box_at (i := 5) (j := 0) rfl rfl).2.2⟩, fun _ h => by simp at h⟩⟩⟩
                  refine wp_region_held_drew (S := Keep _) (by kernel_rfl) hKp.drew (fun hHeld => ?_)
                  have V_6d := Lib.hid (V_6.out.go (bdrew _))
                  refine tk 0 ?_ rfl ?_ ?_; rotate_left; focus (intro w hSw; clear hSw; go_simp; try (with_reducible rfl))
                  try simp only [Act.put, sA, sZ, sS]
                  refine tk 1 ?_ rfl ?_ ?_; rotate_left
                  · intro wl hSw
                    have hSw : Keep _ wl := hSw
                    have k0 : wl.cell? ⟨gs, 2, none⟩ = some (.slice (some ⟨gr, 0, none⟩) tt tt) := (hSw _ (.head _)).1
                    clear hSw
                    go_simp
                    try (with_reducible rfl)
                  try simp only [Act.put, sA, sZ, sS]
                  refine tk 2 ?_ rfl ?_ ?_; rotate_left; focus (intro w hSw; clear hSw; go_simp; try (with_reducible rfl))
                  try simp only [Act.put, sA, sZ, sS]
                  refine tk 3 ?_ rfl ?_ ?_; rotate_left; focus (intro w hSw; clear hSw; go_simp; try (with_reducible rfl))
                  try simp only [Act.put, sA, sZ, sS]
                  refine tk 4 ?_ rfl ?_ ?_; rotate_left; focus (intro w hSw; clear hSw; go_simp; try (with_reducible rfl))
                  try simp only [Act.put, sA, sZ, sS]
                  refine tk 5 ?_ rfl ?_ ?_; rotate_left
                  · intro wl hSw
                    have hSw : Keep _ wl := hSw
                    have k0 : wl.cell? ⟨gc, q, none⟩ = some (.int .i64 (fq : Int)) := (hSw _ (.tail _ (.head _))).1
                    clear hSw
                    go_simp
                    try (with_reducible rfl)
                  try simp only [Act.put, sA, sZ, sS]
                  refine tk 6 ?_ rfl ?_ ?_; rotate_left; focus (intro w hSw; clear hSw; go_simp; try (with_reducible rfl))
                  try simp only [Act.put, sA, sZ, sS]
                  refine tk 7 ?_ rfl ?_ ?_; rotate_left; focus (intro w hSw; clear hSw; go_simp; try (with_reducible rfl))
                  try simp only [Act.put, sA, sZ, sS]
                  refine tk 8 ?_ rfl ?_ ?_; rotate_left
                  · intro wl hSw
                    have hSw : Keep _ wl := hSw
                    have k0 : wl.cell? ⟨W.heap.size, 0, none⟩ = some (.int .i64 (k : Int)) := (hSw _ (.tail _ (.tail _ (.head _)))).1
                    clear hSw
                    go_simp
                    try (with_reducible rfl)
                  try simp only [Act.put, sA, sZ, sS]
                  refine tk 9 ?_ rfl ?_ ?_; rotate_left; focus (intro w hSw; clear hSw; go_simp; try (with_reducible rfl))
                  try simp only [Act.put, sA, sZ, sS]
                  refine tk 10 ?_ rfl ?_ ?_; rotate_left; focus (intro w hSw; clear hSw; go_simp; try (with_reducible rfl))
                  try simp only [Act.put, sA, sZ, sS]
                  refine wpAnyH_ready (rs := [11]) (by kernel_rfl) (by simp) ?_
                  refine AllReadyH.cons (List.getElem?_toArray.trans rfl) (fun K hK => ?_) AllReadyH.nil
                  obtain ⟨r0, o0, z0⟩ := V_6d.out.num_at (i := 2) rfl hlr2
                  have VE := Lib.hid (V_6d.out.num_set (i := 2) rfl fq (cd : Int))
                  have x0 := VE.out.num_at (i := 0) rfl hlq
                  rw [HFV.out] at x0
                  go_simp
                  refine hK.out _ _ (List.forall_mem_cons.2 ⟨⟨(VE.out.box_at (i := 1) (j := 2) rfl rfl).1, (VE.out.box_at (i := 1) (j := 2) rfl rfl).2.2⟩, List.forall_mem_cons.2 ⟨⟨x0.1, x0.2.2⟩, List.forall_mem_cons.2 ⟨⟨(VE.out.box_at (i := 5) (j := 0) rfl rfl).1, (VE.out.box_at (i := 5) (j := 0) rfl rfl).2.2⟩, fun _ h => by simp at h⟩⟩⟩) (fun hHeld => ?_)
                  clear hK K
                  try simp only [Act.put, sA, sZ, sS]
                  refine wpAnyH_done (by kernel_rfl) ?_ _
                  obtain ⟨wn, hwn⟩ : ∃ z, z = (wm.setCell ⟨gr, fq, none⟩ (.int .i64 (cd : Int))).drew := ⟨_, rfl⟩
                  have VN := Lib.hid (show Hp W [nums (some ⟨gc, 0, none⟩) (b2 + 1) d fre, box 90 gs [.int .i64 (k : Int), .slice (some ⟨gf, 0, none⟩) (b2 + 1) (b2 + 1), .slice (some ⟨gr, 0, none⟩) tt tt], nums (some ⟨gr, 0, none⟩) tt tt (fr.set fq (cd : Int)), nums (some ⟨gf, 0, none⟩) (b2 + 1) (b2 + 1) L, box 90 (W.heap.size + 1) [.int .i64 0, .slice none 0 0, .slice none 0 0], box 52 W.heap.size [.int .i64 (k : Int), .slice Ap np cp, .slice (some ⟨b, off, none⟩) b2 cn, .slice Af nf cf]] wn by rw [hwn]; exact VE.out)
                  first | rw [← hwn] | rw [show wm.drew.setCell ⟨gr, fq, none⟩ (.int .i64 (cd : Int)) = wn from hwn.symm]
                  clear x0 VE hHeld hKp hwn
                  obtain ⟨y0, y1, y9⟩ := VN.out.num_at (i := 0) rfl hlq
                  rw [HFV.out] at y0
                  have VF := Lib.hid (VN.out.num_set (i := 0) rfl q ((fq : Int) + 1))
                  have HR := Lib.hid (show ∃ fre fr, Srt nx k (c3 + 1) fre fr ∧ Hp W [nums (some ⟨gc, 0, none⟩) (b2 + 1) d fre, box 90 gs [.int .i64 (k : Int), .slice (some ⟨gf, 0, none⟩) (b2 + 1) (b2 + 1), .slice (some ⟨gr, 0, none⟩) tt tt], nums (some ⟨gr, 0, none⟩) tt tt fr, nums (some ⟨gf, 0, none⟩) (b2 + 1) (b2 + 1) L, box 90 (W.heap.size + 1) [.int .i64 0, .slice none 0 0, .slice none 0 0], box 52 W.heap.size [.int .i64 (k : Int), .slice Ap np cp, .slice (some ⟨b, off, none⟩) b2 cn, .slice Af nf cf]] _ from ⟨_, _, by have st := HS.out.step (by rw [HNN.out]; exact hlt) hk.out HKQ.out.symm (by rw [HNN.out]; exact hqn); rw [HFV.out, ← HFQ.out, ← HCD.out] at st; exact st, VF.out⟩)
                  clear VN VF
                  go_wp2_with fail
                  go_roundw
                  case rel => exact ⟨c3 + 1, by go_num, by omega, HR.out⟩
                  case measure => simp [intOf]; omega
              · obtain rfl : c3 = b2 := by omega
                obtain ⟨r0, _, r9⟩ := V.out.box_at (i := 1) (j := 0) rfl rfl
                obtain ⟨r1, _, _⟩ := V.out.box_at (i := 1) (j := 1) rfl rfl
                obtain ⟨r2, _, _⟩ := V.out.box_at (i := 1) (j := 2) rfl rfl
                obtain ⟨s0, o0, s9⟩ := V.out.box_at (i := 4) (j := 0) rfl rfl
                obtain ⟨s1, o1, _⟩ := V.out.box_at (i := 4) (j := 1) rfl rfl
                obtain ⟨s2, o2, _⟩ := V.out.box_at (i := 4) (j := 2) rfl rfl
                have VE := Lib.hid (((V.out.box_set (i := 4) rfl 0 (.int .i64 (k : Int))).box_set (i := 4) rfl 1 (.slice (some ⟨gf, 0, none⟩) (c3 + 1) (c3 + 1))).box_set (i := 4) rfl 2 (.slice (some ⟨gr, 0, none⟩) tt tt))
                obtain ⟨q0, _, _⟩ := VE.out.box_at (i := 4) (j := 0) rfl rfl
                obtain ⟨q1, _, _⟩ := VE.out.box_at (i := 4) (j := 1) rfl rfl
                obtain ⟨q2, _, _⟩ := VE.out.box_at (i := 4) (j := 2) rfl rfl
                have HP := Lib.hid (show SourcesPost nx k N W (.returned (.agg #[.int .i64 (k : Int), .slice (some ⟨gf, 0, none⟩) (c3 + 1) (c3 + 1), .slice (some ⟨gr, 0, none⟩) tt tt])) _ from
                  ⟨_, _, _, _, _, _, L, fr, rfl, ⟨HS.out.done' HF2.out HNN.out, HX.out, hk0, hk8, hN, by rw [HLL.out, HNN.out], hlr, Nat.le_refl _, Nat.le_refl _, VE.out.cells (i := 3) rfl rfl, VE.out.cells (i := 2) rfl rfl⟩, VE.out.below⟩)
                clear V VE HS hlf hlr hlt hc3
                go_wp2_with fail
                exact bodyPost_ret (v := .agg #[.int .i64 (k : Int), .slice (some ⟨gf, 0, none⟩) (c3 + 1) (c3 + 1), .slice (some ⟨gr, 0, none⟩) tt tt]) (by simp [results, Try.results58, go_sem, q0, q1, q2]) rfl HP.out
end Go.Proofs.Ytdkdfmflghbhiaa
