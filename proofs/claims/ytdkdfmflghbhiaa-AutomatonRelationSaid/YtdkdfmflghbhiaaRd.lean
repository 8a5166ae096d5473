/- Contracts: pairs that are compared, relations, on both sides. -/
import Derived.Test.YtdkdfmflghbhiaaRb
namespace Go.Proofs.Ytdkdfmflghbhiaa
open Go.RowKit
set_option linter.unusedVariables false
set_option linter.unusedSimpArgs false
set_option maxRecDepth 100000

theorem cmpI (x y : Int) (w : World) : Calls Try.prog 50 #[.int .i64 x, .int .i64 y] w fun e w' => e = .returned (.int .i64 (Lib.compareInt x y)) ∧ Below w.heap.size w w' := by
  refine (Try.cmp_Compare_int x y w).mono ?_
  rintro e w' ⟨rfl, rfl⟩
  exact ⟨rfl, Below.refl _ _⟩
/-- The order of pairs, as a number. -/
def cmpP (p q : Int × Int) : Int := if Lib.compareInt p.1 q.1 = 0 then Lib.compareInt p.2 q.2 else Lib.compareInt p.1 q.1
def ltP (p q : Int × Int) : Bool := decide (p.1 < q.1 ∨ p.1 = q.1 ∧ p.2 < q.2)
theorem cmpP_lt (p q : Int × Int) : cmpP p q < 0 ↔ ltP p q = true := by
  unfold cmpP ltP Lib.compareInt
  rw [decide_eq_true_eq]
  split <;> (repeat' split) <;> omega
set_option maxHeartbeats 1000000 in
theorem or_two (b : Nat) (x y : Int) (w : World) (h0 : w.cell? ⟨b, 0, none⟩ = some (.int .i64 x)) (h1 : w.cell? ⟨b, 1, none⟩ = some (.int .i64 y)) (hb : b < w.heap.size) :
    Calls Try.prog 49 #[.slice (some ⟨b, 0, none⟩) 2 2] w fun e w' => e = .returned (.int .i64 (if x = 0 then y else x)) ∧ Below w.heap.size w w' := by
  have H0 := Lib.hid h0
  have H1 := Lib.hid h1
  clear h0 h1
  go_enter Try.func49, Try.ntmps49
  go_wp2_with fail
  go_loopw [8] (fun cv wr => (cv = .int .i64 0 ∨ (cv = .int .i64 1 ∧ x = 0) ∨ (cv = .int .i64 2 ∧ x = 0 ∧ y = 0)) ∧ Below w.heap.size w wr) (fun cv _ => 2 - (intOf cv).toNat)
  case atStart => exact ⟨.inl rfl, Below.refl _ _⟩
  case round =>
    obtain ⟨hc, hbel⟩ := hrel
    obtain ⟨wi, rfl⟩ : ∃ wi : World, wi = wr := ⟨_, rfl⟩
    have k0 := (hbel.cell (p := ⟨b, 0, none⟩) hb).trans H0.out
    have k1 := (hbel.cell (p := ⟨b, 1, none⟩) hb).trans H1.out
    have HB := Lib.hid hbel
    clear hbel
    rcases hc with rfl | ⟨rfl, hx⟩ | ⟨rfl, hx, hy⟩
    · by_cases hx : x = 0
      · subst hx
        go_wp2_with fail
        go_roundw
        case rel => first | exact ⟨.inr (.inl ⟨rfl, trivial⟩), HB.out⟩ | exact ⟨.inr (.inl ⟨rfl, rfl⟩), HB.out⟩
        case measure => simp [intOf]
      · have HE := Lib.hid (show (if x = 0 then y else x) = x from if_neg hx)
        have e1 : (x != 0) = true := bne_yes hx
        have e2 : (x == 0) = false := beq_no hx
        go_wp2_with fail
        go_ret
        first | exact ⟨rfl, HB.out⟩ | exact ⟨ret_int HE.out.symm, HB.out⟩
    · subst hx
      by_cases hy : y = 0
      · subst hy
        go_wp2_with fail
        go_roundw
        case rel => exact ⟨.inr (.inr ⟨rfl, trivial, trivial⟩), HB.out⟩
        case measure => simp [intOf]
      · have e1 : (y != 0) = true := bne_yes hy
        have e2 : (y == 0) = false := beq_no hy
        go_wp2_with fail
        go_ret
        exact ⟨by simp, HB.out⟩
    · subst hx hy
      go_wp2_with fail
      go_ret
      exact ⟨by simp, HB.out⟩
theorem or_two' (v : Int) (b : Nat) (x y : Int) (w : World) (hv : (if x = 0 then y else x) = v) (h0 : w.cell? ⟨b, 0, none⟩ = some (.int .i64 x)) (h1 : w.cell? ⟨b, 1, none⟩ = some (.int .i64 y)) (hb : b < w.heap.size) :
    Calls Try.prog 49 #[.slice (some ⟨b, 0, none⟩) 2 2] w fun e w' => e = .returned (.int .i64 v) ∧ Below w.heap.size w w' := by
  subst hv; exact or_two b x y w h0 h1 hb
set_option maxHeartbeats 4000000 in
theorem cmpPairs_any (p1 p2 q1 q2 : Int) (w : World) :
    Calls Try.prog 24 #[.agg #[.int .i64 p1, .int .i64 p2], .agg #[.int .i64 q1, .int .i64 q2]] w fun e w' => e = .returned (.int .i64 (cmpP (p1, p2) (q1, q2))) ∧ Below w.heap.size w w' := by
  obtain ⟨wz, hwz⟩ : ∃ z, z = ((w.alloc (.cells #[.int .i64 p1, .int .i64 p2] 35)).alloc (.cells #[.int .i64 q1, .int .i64 q2] 35)) := ⟨_, rfl⟩
  have V := Lib.hid (show Hp w [box 35 (w.heap.size + 1) [.int .i64 q1, .int .i64 q2], box 35 w.heap.size [.int .i64 p1, .int .i64 p2]] wz by
    have := (((Hp.start w).box_new 35 [.int .i64 p1, .int .i64 p2]).box_new 35 [.int .i64 q1, .int .i64 q2])
    rw [hwz]; simpa using this)
  have HZ := Lib.hid hwz
  clear hwz
  go_enter Try.func24, Try.ntmps24
  go_upto_region 1 with fail
  rw [← HZ.out]
  clear HZ
  obtain ⟨x, hx⟩ : ∃ x, x = Lib.compareInt p1 q1 := ⟨_, rfl⟩
  obtain ⟨y, hy⟩ : ∃ y, y = Lib.compareInt p2 q2 := ⟨_, rfl⟩
  obtain ⟨v, hv⟩ : ∃ v, v = cmpP (p1, p2) (q1, q2) := ⟨_, rfl⟩
  have HE := Lib.hid (show (if x = 0 then y else x) = v by rw [hx, hy, hv]; rfl)
  have HVV := Lib.hid hv
  have HX := Lib.hid hx
  have HY := Lib.hid hy
  clear hx hy hv
  have hKp : Keep [(⟨w.heap.size, 0, none⟩, .int .i64 p1), (⟨w.heap.size, 1, none⟩, .int .i64 p2), (⟨w.heap.size + 1, 0, none⟩, .int .i64 q1), (⟨w.heap.size + 1, 1, none⟩, .int .i64 q2)] wz := List.forall_mem_cons.2 ⟨⟨(V.out.box_at (i := 1) (j := 0) rfl rfl).1, (V.out.box_at (i := 1) (j := 0) rfl rfl).2.2⟩, List.forall_mem_cons.2 ⟨⟨(V.out.box_at (i := 1) (j := 1) rfl rfl).1, (V.out.box_at (i := 1) (j := 1) rfl rfl).2.2⟩, List.forall_mem_cons.2 ⟨⟨(V.out.box_at (i := 0) (j := 0) rfl rfl).1, (V.out.box_at (i := 0) (j := 0) rfl rfl).2.2⟩, List.forall_mem_cons.2 ⟨⟨(V.out.box_at (i := 0) (j := 1) rfl rfl).1, (V.out.box_at (i := 0) (j := 1) rfl rfl).2.2⟩, fun _ h => by simp at h⟩⟩⟩⟩
  refine wp_region_held_drew (S := Keep _) (by kernel_rfl) hKp.drew (fun hHeld => ?_)
  have Vd := Lib.hid (V.out.go (bdrew _))
  refine tk 0 ?_ rfl ?_ ?_; rotate_left; focus (intro w hSw; clear hSw; go_simp; try (with_reducible rfl))
  try simp only [Act.put, sA, sZ, sS]
  refine tk 1 ?_ rfl ?_ ?_; rotate_left
  · intro wl hSw
    have hSw : Keep _ wl := hSw
    have k0 : wl.cell? ⟨w.heap.size, 0, none⟩ = some (.int .i64 p1) := (hSw _ (.head _)).1
    clear hSw
    go_simp
    try (with_reducible rfl)
  try simp only [Act.put, sA, sZ, sS]
  refine tk 2 ?_ rfl ?_ ?_; rotate_left; focus (intro w hSw; clear hSw; go_simp; try (with_reducible rfl))
  try simp only [Act.put, sA, sZ, sS]
  refine tk 3 ?_ rfl ?_ ?_; rotate_left
  · intro wl hSw
    have hSw : Keep _ wl := hSw
    have k0 : wl.cell? ⟨w.heap.size + 1, 0, none⟩ = some (.int .i64 q1) := (hSw _ (.tail _ (.tail _ (.head _)))).1
    clear hSw
    go_simp
    try (with_reducible rfl)
  try simp only [Act.put, sA, sZ, sS]
  refine tk 5 ?_ rfl ?_ ?_; rotate_left; focus (intro w hSw; clear hSw; go_simp; try (with_reducible rfl))
  try simp only [Act.put, sA, sZ, sS]
  refine tk 6 ?_ rfl ?_ ?_; rotate_left
  · intro wl hSw
    have hSw : Keep _ wl := hSw
    have k0 : wl.cell? ⟨w.heap.size, 1, none⟩ = some (.int .i64 p2) := (hSw _ (.tail _ (.head _))).1
    clear hSw
    go_simp
    try (with_reducible rfl)
  try simp only [Act.put, sA, sZ, sS]
  refine tk 7 ?_ rfl ?_ ?_; rotate_left; focus (intro w hSw; clear hSw; go_simp; try (with_reducible rfl))
  try simp only [Act.put, sA, sZ, sS]
  refine tk 8 ?_ rfl ?_ ?_; rotate_left
  · intro wl hSw
    have hSw : Keep _ wl := hSw
    have k0 : wl.cell? ⟨w.heap.size + 1, 1, none⟩ = some (.int .i64 q2) := (hSw _ (.tail _ (.tail _ (.tail _ (.head _))))).1
    clear hSw
    go_simp
    try (with_reducible rfl)
  try simp only [Act.put, sA, sZ, sS]
  refine wpAnyH_ready (rs := [4]) (by kernel_rfl) (by simp) ?_
  refine AllReadyH.cons (List.getElem?_toArray.trans rfl) (fun K hK => ?_) AllReadyH.nil
  go_simp
  refine (cmpI p1 q1 _).mono ?_
  rintro e w_4 ⟨rfl, b_4⟩
  try go_wp2_with fail
  rw [← HX.out]
  have V_4 := Lib.hid (Vd.out.go b_4)
  refine hK.out _ _ (hHeld.go b_4) (fun hHeld => ?_)
  clear hK K
  try simp only [Act.put, sA, sZ, sS]
  refine wpAnyH_ready (rs := [9]) (by kernel_rfl) (by simp) ?_
  refine AllReadyH.cons (List.getElem?_toArray.trans rfl) (fun K hK => ?_) AllReadyH.nil
  go_simp
  refine (cmpI p2 q2 _).mono ?_
  rintro e w_4_9 ⟨rfl, b_4_9⟩
  try go_wp2_with fail
  rw [← HY.out]
  have V_4_9 := Lib.hid (V_4.out.go b_4_9)
  refine hK.out _ _ (hHeld.go b_4_9) (fun hHeld => ?_)
  clear hK K
  try simp only [Act.put, sA, sZ, sS]
  refine wpAnyH_ready (rs := [10]) (by kernel_rfl) (by simp) ?_
  refine AllReadyH.cons (List.getElem?_toArray.trans rfl) (fun K hK => ?_) AllReadyH.nil
  obtain ⟨w_4_9_10, hw_4_9_10⟩ : ∃ z, z = (w_4_9.alloc (.cells #[.int .i64 x, .int .i64 y] 3)) := ⟨_, rfl⟩
  have V_4_9_10 := Lib.hid (show Hp _ (box 3 w_4_9.heap.size [.int .i64 x, .int .i64 y] :: _) w_4_9_10 by rw [hw_4_9_10]; exact V_4_9.out.box_new 3 [.int .i64 x, .int .i64 y])
  have Bw_4_9_10 := Lib.hid (show Below w_4_9.heap.size w_4_9 w_4_9_10 by rw [hw_4_9_10]; exact bnew _ _)
  go_simp
  rw [← hw_4_9_10]
  clear hw_4_9_10
  refine hK.out _ _ (hHeld.go Bw_4_9_10.out) (fun hHeld => ?_)
  clear hK K
  try simp only [Act.put, sA, sZ, sS]
  refine wpAnyH_ready (rs := [11]) (by kernel_rfl) (by simp) ?_
  refine AllReadyH.cons (List.getElem?_toArray.trans rfl) (fun K hK => ?_) AllReadyH.nil
  have y0 := V_4_9_10.out.box_at (i := 0) (j := 0) rfl rfl
  have y1 := V_4_9_10.out.box_at (i := 0) (j := 1) rfl rfl
  go_simp
  refine (or_two' v _ x y _ HE.out y0.1 y1.1 y0.2.2).mono ?_
  rintro e w_4_9_10_11 ⟨rfl, b_4_9_10_11⟩
  try go_wp2_with fail
  have V_4_9_10_11 := Lib.hid (V_4_9_10.out.go b_4_9_10_11)
  refine hK.out _ _ (hHeld.go b_4_9_10_11) (fun hHeld => ?_)
  clear hK K
  try simp only [Act.put, sA, sZ, sS]
  refine tk 12 ?_ rfl ?_ ?_; rotate_left; focus (intro w hSw; clear hSw; go_simp; try (with_reducible rfl))
  try simp only [Act.put, sA, sZ, sS]
  refine wpAnyH_done (by kernel_rfl) ?_ _
  go_wp2_with fail
  go_ret
  exact ⟨ret_int HVV.out, V_4_9_10_11.out.below⟩
end Go.Proofs.Ytdkdfmflghbhiaa
