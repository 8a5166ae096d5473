/- Contracts of the statements: copies of automata, small ones. -/
import Derived.Test.YtdkdfmflghbhiaaQv
import Derived.Test.YtdkdfmflghbhiaaQm
import Derived.Test.YtdkdfmflghbhiaaQx
namespace Go.Proofs.Ytdkdfmflghbhiaa
open Go.RowKit
set_option linter.unusedVariables false
set_option linter.unusedSimpArgs false
set_option maxRecDepth 100000

/-- The values of a list of rows. -/
def rvals (A : Option Addr) (n c : Nat) (vs : List (Option Addr × Nat)) (rows : List (List Int)) : Itm := ⟨39, 1, .slice A n c, n, List.zipWith (fun v (row : List Int) => Value.slice v.1 row.length v.2) vs rows⟩
/-- The rows. -/
def rowsG (vs : List (Option Addr × Nat)) (rows : List (List Int)) : List Itm := List.zipWith (fun v row => nums v.1 row.length v.2 row) vs rows
theorem run_app_rv {W w : World} {l : List Itm} {i : Nat} {A : Option Addr} {n c : Nat} {vs : List (Option Addr × Nat)} {rows : List (List Int)} (h : Hp W l w) (hi : l[i]? = some (rvals A n c vs rows)) (hvs : vs.length = rows.length) (ty : TypeId) {b : Nat} (C : Option Addr) (ℓ d : Nat) (row : List Int) (hℓ : row.length = ℓ)
    (hb : w.cell? ⟨b, 0, none⟩ = some (.slice C ℓ d)) (hn : n ≤ 4000000000000) :
    ∃ g2 cap w', (Builtin.append_ #[22, 22] ty #[.slice A n c, .slice (some ⟨b, 0, none⟩) 1 1]).run Try.prog w = .ok (.slice (some ⟨g2, 0, none⟩) (n + 1) cap) w' ∧
      Hp W (l.set i (rvals (some ⟨g2, 0, none⟩) (n + 1) cap (vs ++ [(C, d)]) (rows ++ [row]))) w' ∧ w.grownBy w' (Value.slice A n c).ownBlock := by
  have := run_app h hi (t := 22) (ty := ty) Try.underlying22 row_info rfl (Nat.zero_lt_one) (by decide) (A := A) (c := c) rfl (b := b) [.slice C ℓ d] rfl (fun j u hu => by
    cases j with
    | zero => injection hu with hu; subst hu; exact hb
    | succ j => simp at hu) (fun u hu => by rw [List.mem_singleton.1 hu]; rfl) hn
  subst hℓ
  have e : List.zipWith (fun v (row : List Int) => Value.slice v.1 row.length v.2) (vs ++ [(C, d)]) (rows ++ [row]) = List.zipWith (fun v (row : List Int) => Value.slice v.1 row.length v.2) vs rows ++ [.slice C row.length d] := by rw [List.zipWith_append hvs]; rfl
  simpa [rvals, e] using this
theorem rowsG_snoc {vs : List (Option Addr × Nat)} {rows : List (List Int)} (C : Option Addr) (d : Nat) (row : List Int) (h : vs.length = rows.length) : rowsG (vs ++ [(C, d)]) (rows ++ [row]) = rowsG vs rows ++ [nums C row.length d row] := by
  unfold rowsG
  rw [List.zipWith_append h]; rfl
theorem rowsG_in {W w : World} {l : List Itm} {i n c : Nat} {vs : List (Option Addr × Nat)} {rows : List (List Int)} {A : Option Addr} (h : Hp W (l ++ rowsG vs rows) w) (hi : (l ++ rowsG vs rows)[i]? = some (rvals A n c vs rows)) (hl : vs.length = rows.length) (hb : ∀ row ∈ rows, row.length ≤ 17592186044416) : RowsIn w A rows := by
  intro h0
  have hc := h.cells hi (A := A) (c := c) rfl
  obtain ⟨b, off, e, hlt, hcell⟩ := hc (by show 0 < (List.zipWith _ vs rows).length; rw [List.length_zipWith]; omega)
  refine ⟨b, off, e, hlt, fun j row hr => ?_⟩
  have hj := (List.getElem?_eq_some_iff.1 hr).1
  obtain ⟨v, hv⟩ : ∃ v, vs[j]? = some v := ⟨_, List.getElem?_eq_getElem (by omega)⟩
  have hit : (l ++ rowsG vs rows)[l.length + j]? = some (nums v.1 row.length v.2 row) := by
    rw [List.getElem?_append_right (by omega), Nat.add_sub_cancel_left]
    unfold rowsG
    rw [List.getElem?_zipWith, hv, hr]
  have hcap := h.cap hit (A := v.1) (c := v.2) rfl
  refine ⟨v.1, v.2, hcell j _ ?_, hcap.1, hb row (List.mem_of_getElem? hr), h.cells hit rfl⟩
  show (List.zipWith _ vs rows)[j]? = _
  rw [List.getElem?_zipWith, hv, hr]
theorem len_totI {R : List (List Int)} {r : List Int} (h : r ∈ R) : r.length ≤ totI R := by
  unfold totI
  induction R with
  | nil => cases h
  | cons x R ih =>
    rw [List.map_cons, List.sum_cons]
    rcases List.mem_cons.1 h with rfl | h
    · omega
    · have := ih h; omega
theorem row_doneG {W w : World} {l : List Itm} {C : Option Addr} {d : Nat} {vs : List (Option Addr × Nat)} {rows : List (List Int)} {row : List Int} (hl : vs.length = rows.length) (h : Hp W (nums C row.length d row :: (l ++ rowsG vs rows)) w) : Hp W (l ++ rowsG (vs ++ [(C, d)]) (rows ++ [row])) w := by
  rw [rowsG_snoc C d row hl, ← List.append_assoc]
  exact Hp.sink (l := l ++ rowsG vs rows) (l2 := []) (by rw [List.append_nil]; exact h)
/-- What copied returns: a copy. -/
def CopyPost (M : Au) (w : World) (e : Ending) (w' : World) : Prop := ∃ y : DV, e = .returned (dval y M) ∧ DfaIn w' y M ∧ Below w.heap.size w w'
set_option maxHeartbeats 16000000 in
theorem copied_any (x : DV) (M : Au) (w : World) (h : DfaIn w x M) (hf : M.fewB = true) :
    Calls Try.prog 7 #[dval x M] w (CopyPost M w) := by
  obtain ⟨f1, f2, f3⟩ := of_decide_eq_true (show decide (M.n ≤ 410 ∧ M.ac.length ≤ 420 ∧ totI M.nx ≤ 1700) = true from hf)
  have HROW := Lib.hid (show ∀ row ∈ M.nx, row.length ≤ 1700 from fun r hr => Nat.le_trans (len_totI hr) f3)
  have H := Lib.hid h
  have hn : M.n = x.n := h.n
  have hm : M.ac.length = x.m := h.m
  clear h hf f3
  obtain ⟨A, n, c, B, m, d⟩ := x
  dsimp only at *
  have HN := Lib.hid hn
  have HM := Lib.hid hm
  have hn4 : n ≤ 410 := by omega
  have hm4 : m ≤ 420 := by omega
  clear hn hm f1 f2
  obtain ⟨wz, hwz⟩ : ∃ z, z = ((w.alloc (.cells #[.int .i64 M.lt, .int .i64 M.st, .slice A n c, .slice B m d] 25)).alloc (.cells #[.int .i64 0, .int .i64 0, .slice none 0 0, .slice none 0 0] 25)) := ⟨_, rfl⟩
  have V := Lib.hid (show Hp w [box 25 (w.heap.size + 1) [.int .i64 0, .int .i64 0, .slice none 0 0, .slice none 0 0], box 25 w.heap.size [.int .i64 M.lt, .int .i64 M.st, .slice A n c, .slice B m d]] wz by
    have := (((Hp.start w).box_new 25 [.int .i64 M.lt, .int .i64 M.st, .slice A n c, .slice B m d]).box_new 25 [.int .i64 0, .int .i64 0, .slice none 0 0, .slice none 0 0])
    rw [hwz]; simpa using this)
  have HZ := Lib.hid hwz
  clear hwz
  go_enter Try.func7, Try.ntmps7
  go_upto_region 1 with fail
  rw [← HZ.out]
  clear HZ
  go_cut [3] (fun s3 wx => ∃ go C dd, s3 = .pointer (some ⟨go, 0, none⟩) ∧ Hp w [box 25 go [.int .i64 M.lt, .int .i64 M.st, .slice none 0 0, .slice C m dd], flags C m dd M.ac, box 25 (w.heap.size + 1) [.int .i64 0, .int .i64 0, .slice none 0 0, .slice none 0 0], box 25 w.heap.size [.int .i64 M.lt, .int .i64 M.st, .slice A n c, .slice B m d]] wx)
  case first =>
    have hKp : Keep [(⟨w.heap.size, 0, none⟩, .int .i64 M.lt), (⟨w.heap.size, 1, none⟩, .int .i64 M.st), (⟨w.heap.size, 2, none⟩, .slice A n c), (⟨w.heap.size, 3, none⟩, .slice B m d)] wz := List.forall_mem_cons.2 ⟨⟨(V.out.box_at (i := 1) (j := 0) rfl rfl).1, (V.out.box_at (i := 1) (j := 0) rfl rfl).2.2⟩, List.forall_mem_cons.2 ⟨⟨(V.out.box_at (i := 1) (j := 1) rfl rfl).1, (V.out.box_at (i := 1) (j := 1) rfl rfl).2.2⟩, List.forall_mem_cons.2 ⟨⟨(V.out.box_at (i := 1) (j := 2) rfl rfl).1, (V.out.box_at (i := 1) (j := 2) rfl rfl).2.2⟩, List.forall_mem_cons.2 ⟨⟨(V.out.box_at (i := 1) (j := 3) rfl rfl).1, (V.out.box_at (i := 1) (j := 3) rfl rfl).2.2⟩, fun _ h => by simp at h⟩⟩⟩⟩
    refine wp_region_held_drew (S := Keep _) (by kernel_rfl) hKp.drew (fun hHeld => ?_)
    have Vd := Lib.hid (V.out.go (bdrew _))
    refine tk 0 ?_ rfl ?_ ?_; rotate_left; focus (intro w hSw; clear hSw; go_simp; try (with_reducible rfl))
    try simp only [Act.put, sA, sZ, sS]
    refine tk 1 ?_ rfl ?_ ?_; rotate_left
    · intro wl hSw
      have hSw : Keep _ wl := hSw
      have k0 : wl.cell? ⟨w.heap.size, 0, none⟩ = some (.int .i64 M.lt) := (hSw _ (.head _)).1
      clear hSw
      go_simp
      try (with_reducible rfl)
    try simp only [Act.put, sA, sZ, sS]
    refine tk 2 ?_ rfl ?_ ?_; rotate_left; focus (intro w hSw; clear hSw; go_simp; try (with_reducible rfl))
    try simp only [Act.put, sA, sZ, sS]
    refine tk 3 ?_ rfl ?_ ?_; rotate_left
    · intro wl hSw
      have hSw : Keep _ wl := hSw
      have k0 : wl.cell? ⟨w.heap.size, 1, none⟩ = some (.int .i64 M.st) := (hSw _ (.tail _ (.head _))).1
      clear hSw
      go_simp
      try (with_reducible rfl)
    try simp only [Act.put, sA, sZ, sS]
    refine tk 4 ?_ rfl ?_ ?_; rotate_left; focus (intro w hSw; clear hSw; go_simp; try (with_reducible rfl))
    try simp only [Act.put, sA, sZ, sS]
    refine tk 5 ?_ rfl ?_ ?_; rotate_left
    · intro wl hSw
      have hSw : Keep _ wl := hSw
      have k0 : wl.cell? ⟨w.heap.size, 3, none⟩ = some (.slice B m d) := (hSw _ (.tail _ (.tail _ (.tail _ (.head _))))).1
      clear hSw
      go_simp
      try (with_reducible rfl)
    try simp only [Act.put, sA, sZ, sS]
    refine wpAnyH_ready (rs := [6, 8]) (by kernel_rfl) (by simp) ?_
    refine AllReadyH.cons (List.getElem?_toArray.trans rfl) (fun K hK => ?_) ?_
    · go_simp
      refine (clone_flags M.ac B m d w _ _ Vd.out HM.out (by omega) (H.out.accs.below Vd.out.below)).mono ?_
      rintro e w_6 ⟨C, dd, rfl, hv_6, b_6⟩
      try go_wp2_with fail
      have V_6 := Lib.hid hv_6
      refine hK.out _ _ (hHeld.go b_6) (fun hHeld => ?_)
      clear hK K
      try simp only [Act.put, sA, sZ, sS]
      refine tk 7 ?_ rfl ?_ ?_; rotate_left; focus (intro w hSw; clear hSw; go_simp; try (with_reducible rfl))
      try simp only [Act.put, sA, sZ, sS]
      refine wpAnyH_ready (rs := [8]) (by kernel_rfl) (by simp) ?_
      refine AllReadyH.cons (List.getElem?_toArray.trans rfl) (fun K hK => ?_) AllReadyH.nil
      obtain ⟨w_6_8, hw_6_8⟩ : ∃ z, z = (w_6.alloc (.cells #[.int .i64 0, .int .i64 0, .slice none 0 0, .slice none 0 0] 25)) := ⟨_, rfl⟩
      have V_6_8 := Lib.hid (show Hp _ (box 25 w_6.heap.size [.int .i64 0, .int .i64 0, .slice none 0 0, .slice none 0 0] :: _) w_6_8 by rw [hw_6_8]; exact V_6.out.box_new 25 [.int .i64 0, .int .i64 0, .slice none 0 0, .slice none 0 0])
      have Bw_6_8 := Lib.hid (show Below w_6.heap.size w_6 w_6_8 by rw [hw_6_8]; exact bnew _ _)
      go_simp
      rw [← hw_6_8]
      clear hw_6_8
      refine hK.out _ _ (hHeld.go Bw_6_8.out) (fun hHeld => ?_)
      clear hK K
      try simp only [Act.put, sA, sZ, sS]
      refine wpAnyH_ready (rs := [9]) (by kernel_rfl) (by simp) ?_
      refine AllReadyH.cons (List.getElem?_toArray.trans rfl) (fun K hK => ?_) AllReadyH.nil
      obtain ⟨r0, o0, z0⟩ := V_6_8.out.box_at (i := 0) (j := 0) rfl rfl
      obtain ⟨r1, o1, z1⟩ := V_6_8.out.box_at (i := 0) (j := 1) rfl rfl
      obtain ⟨r2, o2, z2⟩ := V_6_8.out.box_at (i := 0) (j := 2) rfl rfl
      obtain ⟨r3, o3, z3⟩ := V_6_8.out.box_at (i := 0) (j := 3) rfl rfl
      have q5 : w.heap.size < wz.heap.size := by have q4 := (V.out.box_at (i := 1) (j := 0) rfl rfl).2.2; exact q4
      have q6 : wz.heap.size ≤ w_6.heap.size := b_6.size
      have VE := Lib.hid ((((V_6_8.out.box_set (i := 0) rfl 0 (.int .i64 M.lt)).box_set (i := 0) rfl 1 (.int .i64 M.st)).box_set (i := 0) rfl 2 (.slice none 0 0)).box_set (i := 0) rfl 3 (.slice C m dd))
      go_simp
      refine hK.out _ _ (((((hHeld.set _ _ _ (List.forall_mem_cons.2 ⟨(by show ¬ w.heap.size = w_6.heap.size; omega), List.forall_mem_cons.2 ⟨(by show ¬ w.heap.size = w_6.heap.size; omega), List.forall_mem_cons.2 ⟨(by show ¬ w.heap.size = w_6.heap.size; omega), List.forall_mem_cons.2 ⟨(by show ¬ w.heap.size = w_6.heap.size; omega), fun _ h => by simp at h⟩⟩⟩⟩)).set _ _ _ (List.forall_mem_cons.2 ⟨(by show ¬ w.heap.size = w_6.heap.size; omega), List.forall_mem_cons.2 ⟨(by show ¬ w.heap.size = w_6.heap.size; omega), List.forall_mem_cons.2 ⟨(by show ¬ w.heap.size = w_6.heap.size; omega), List.forall_mem_cons.2 ⟨(by show ¬ w.heap.size = w_6.heap.size; omega), fun _ h => by simp at h⟩⟩⟩⟩)).set _ _ _ (List.forall_mem_cons.2 ⟨(by show ¬ w.heap.size = w_6.heap.size; omega), List.forall_mem_cons.2 ⟨(by show ¬ w.heap.size = w_6.heap.size; omega), List.forall_mem_cons.2 ⟨(by show ¬ w.heap.size = w_6.heap.size; omega), List.forall_mem_cons.2 ⟨(by show ¬ w.heap.size = w_6.heap.size; omega), fun _ h => by simp at h⟩⟩⟩⟩)).set _ _ _ (List.forall_mem_cons.2 ⟨(by show ¬ w.heap.size = w_6.heap.size; omega), List.forall_mem_cons.2 ⟨(by show ¬ w.heap.size = w_6.heap.size; omega), List.forall_mem_cons.2 ⟨(by show ¬ w.heap.size = w_6.heap.size; omega), List.forall_mem_cons.2 ⟨(by show ¬ w.heap.size = w_6.heap.size; omega), fun _ h => by simp at h⟩⟩⟩⟩))) (fun hHeld => ?_)
      clear hK K
      try simp only [Act.put, sA, sZ, sS]
      refine wpAnyH_done (by kernel_rfl) ?_ _
      go_wp2_with fail
      go_meet
      exact ⟨_, _, _, rfl, VE.out⟩
    refine AllReadyH.cons (List.getElem?_toArray.trans rfl) (fun K hK => ?_) ?_
    · obtain ⟨w_8, hw_8⟩ : ∃ z, z = (wz.alloc (.cells #[.int .i64 0, .int .i64 0, .slice none 0 0, .slice none 0 0] 25)).drew := ⟨_, rfl⟩
      have V_8 := Lib.hid (show Hp _ (box 25 wz.heap.size [.int .i64 0, .int .i64 0, .slice none 0 0, .slice none 0 0] :: _) w_8 by rw [hw_8]; exact Vd.out.box_new 25 [.int .i64 0, .int .i64 0, .slice none 0 0, .slice none 0 0])
      have Bw_8 := Lib.hid (show Below wz.drew.heap.size wz.drew w_8 by rw [hw_8]; exact bnew _ _)
      go_simp
      rw [← hw_8]
      clear hw_8
      refine hK.out _ _ (hHeld.go Bw_8.out) (fun hHeld => ?_)
      clear hK K
      try simp only [Act.put, sA, sZ, sS]
      refine wpAnyH_ready (rs := [6]) (by kernel_rfl) (by simp) ?_
      refine AllReadyH.cons (List.getElem?_toArray.trans rfl) (fun K hK => ?_) AllReadyH.nil
      go_simp
      refine (clone_flags M.ac B m d w _ _ V_8.out HM.out (by omega) (H.out.accs.below V_8.out.below)).mono ?_
      rintro e w_8_6 ⟨C, dd, rfl, hv_8_6, b_8_6⟩
      try go_wp2_with fail
      have V_8_6 := Lib.hid hv_8_6
      refine hK.out _ _ (hHeld.go b_8_6) (fun hHeld => ?_)
      clear hK K
      try simp only [Act.put, sA, sZ, sS]
      refine tk 7 ?_ rfl ?_ ?_; rotate_left; focus (intro w hSw; clear hSw; go_simp; try (with_reducible rfl))
      try simp only [Act.put, sA, sZ, sS]
      refine wpAnyH_ready (rs := [9]) (by kernel_rfl) (by simp) ?_
      refine AllReadyH.cons (List.getElem?_toArray.trans rfl) (fun K hK => ?_) AllReadyH.nil
      obtain ⟨r0, o0, z0⟩ := V_8_6.out.box_at (i := 1) (j := 0) rfl rfl
      obtain ⟨r1, o1, z1⟩ := V_8_6.out.box_at (i := 1) (j := 1) rfl rfl
      obtain ⟨r2, o2, z2⟩ := V_8_6.out.box_at (i := 1) (j := 2) rfl rfl
      obtain ⟨r3, o3, z3⟩ := V_8_6.out.box_at (i := 1) (j := 3) rfl rfl
      have q5 : w.heap.size < wz.heap.size := by have q4 := (V.out.box_at (i := 1) (j := 0) rfl rfl).2.2; exact q4
      have q6 : wz.heap.size ≤ wz.heap.size := Nat.le_refl _
      have VE := Lib.hid ((((V_8_6.out.box_set (i := 1) rfl 0 (.int .i64 M.lt)).box_set (i := 1) rfl 1 (.int .i64 M.st)).box_set (i := 1) rfl 2 (.slice none 0 0)).box_set (i := 1) rfl 3 (.slice C m dd))
      go_simp
      refine hK.out _ _ (((((hHeld.set _ _ _ (List.forall_mem_cons.2 ⟨(by show ¬ w.heap.size = wz.heap.size; omega), List.forall_mem_cons.2 ⟨(by show ¬ w.heap.size = wz.heap.size; omega), List.forall_mem_cons.2 ⟨(by show ¬ w.heap.size = wz.heap.size; omega), List.forall_mem_cons.2 ⟨(by show ¬ w.heap.size = wz.heap.size; omega), fun _ h => by simp at h⟩⟩⟩⟩)).set _ _ _ (List.forall_mem_cons.2 ⟨(by show ¬ w.heap.size = wz.heap.size; omega), List.forall_mem_cons.2 ⟨(by show ¬ w.heap.size = wz.heap.size; omega), List.forall_mem_cons.2 ⟨(by show ¬ w.heap.size = wz.heap.size; omega), List.forall_mem_cons.2 ⟨(by show ¬ w.heap.size = wz.heap.size; omega), fun _ h => by simp at h⟩⟩⟩⟩)).set _ _ _ (List.forall_mem_cons.2 ⟨(by show ¬ w.heap.size = wz.heap.size; omega), List.forall_mem_cons.2 ⟨(by show ¬ w.heap.size = wz.heap.size; omega), List.forall_mem_cons.2 ⟨(by show ¬ w.heap.size = wz.heap.size; omega), List.forall_mem_cons.2 ⟨(by show ¬ w.heap.size = wz.heap.size; omega), fun _ h => by simp at h⟩⟩⟩⟩)).set _ _ _ (List.forall_mem_cons.2 ⟨(by show ¬ w.heap.size = wz.heap.size; omega), List.forall_mem_cons.2 ⟨(by show ¬ w.heap.size = wz.heap.size; omega), List.forall_mem_cons.2 ⟨(by show ¬ w.heap.size = wz.heap.size; omega), List.forall_mem_cons.2 ⟨(by show ¬ w.heap.size = wz.heap.size; omega), fun _ h => by simp at h⟩⟩⟩⟩))) (fun hHeld => ?_)
      clear hK K
      try simp only [Act.put, sA, sZ, sS]
      refine wpAnyH_done (by kernel_rfl) ?_ _
      go_wp2_with fail
      go_meet
      exact ⟨_, _, _, rfl, VE.out.pick [1, 0, 2, 3] (by decide) rfl⟩
    exact AllReadyH.nil
  case rest =>
    obtain ⟨go, C, dd, rfl, hv⟩ := hcut
    have V1 := Lib.hid hv
    clear hv V
    have V0 := Lib.hid (show ∃ An cn, ∃ vs : List (Option Addr × Nat), vs.length = 0 ∧ Hp w ([box 25 go [.int .i64 M.lt, .int .i64 M.st, .slice An 0 cn, .slice C m dd], rvals An 0 cn vs (M.nx.take 0), flags C m dd M.ac, box 25 (w.heap.size + 1) [.int .i64 0, .int .i64 0, .slice none 0 0, .slice none 0 0], box 25 w.heap.size [.int .i64 M.lt, .int .i64 M.st, .slice A n c, .slice B m d]] ++ rowsG vs (M.nx.take 0)) wc from
      ⟨none, 0, [], rfl, (V1.out.nil_row (rvals none 0 0 [] []) rfl rfl rfl).pick [1, 0, 2, 3, 4] (by decide) rfl⟩)
    obtain ⟨r2, _, r9⟩ := V1.out.box_at (i := 3) (j := 2) rfl rfl
    go_wp2_with fail
    clear r2 r9 V1
    go_loopw [17] (fun cv wr => ∃ j : Nat, cv = .int .i64 (j : Int) ∧ j ≤ n ∧ ∃ An cn vs, vs.length = j ∧ Hp w ([box 25 go [.int .i64 M.lt, .int .i64 M.st, .slice An j cn, .slice C m dd], rvals An j cn vs (M.nx.take j), flags C m dd M.ac, box 25 (w.heap.size + 1) [.int .i64 0, .int .i64 0, .slice none 0 0, .slice none 0 0], box 25 w.heap.size [.int .i64 M.lt, .int .i64 M.st, .slice A n c, .slice B m d]] ++ rowsG vs (M.nx.take j)) wr) (fun cv _ => n - (intOf cv).toNat)
    case atStart => exact ⟨0, rfl, Nat.zero_le _, V0.out⟩
    case round =>
      clear V0
      obtain ⟨j, rfl, hjn, An, cn, vs, hvs, hV⟩ := hrel
      obtain ⟨wi, rfl⟩ : ∃ wi : World, wi = wr := ⟨_, rfl⟩
      have V := Lib.hid hV
      have HVS := Lib.hid hvs
      clear hV hvs
      by_cases hlt : j < n
      · have hjl : j < M.nx.length := by have := HN.out; unfold Au.n at this; omega
        obtain ⟨b, off, Aj, cj, hxA, hb, hcell, hl1, hl2, hrow⟩ := (H.out.below V.out.below).row (q := j) hjl
        dsimp only at hxA
        subst hxA
        obtain ⟨row, hrw⟩ : ∃ row, row = M.nx.getD j [] := ⟨_, rfl⟩
        have HRW := Lib.hid (show M.nx[j]? = some row by rw [hrw, List.getD_eq_getElem?_getD, List.getElem?_eq_getElem hjl]; rfl)
        rw [← hrw] at hcell hrow
        have hr17 := HROW.out row (List.mem_of_getElem? HRW.out)
        obtain ⟨ℓ, hℓ⟩ : ∃ l, row.length = l := ⟨_, rfl⟩
        rw [hℓ] at hcell hr17
        have HL := Lib.hid hℓ
        have HC := Lib.hid hrow
        clear hrw hrow hl1 hl2 hℓ hjl
        have HTK := Lib.hid (show M.nx.take (j + 1) = M.nx.take j ++ [row] by rw [List.take_add_one, HRW.out]; rfl)
        have HVL := Lib.hid (show vs.length = (M.nx.take j).length by rw [HVS.out, List.length_take]; have : M.nx.length = n := HN.out; omega)
        go_upto_region 5 with fail
        have hKp : Keep [] wi := fun _ h => by simp at h
        refine wp_region_held_drew (S := Keep _) (by kernel_rfl) hKp.drew (fun hHeld => ?_)
        have Vd := Lib.hid (V.out.go (bdrew _))
        refine tk 0 ?_ rfl ?_ ?_; rotate_left; focus (intro w hSw; clear hSw; go_simp; try (with_reducible rfl))
        try simp only [Act.put, sA, sZ, sS]
        refine tk 2 ?_ rfl ?_ ?_; rotate_left; focus (intro w hSw; clear hSw; go_simp; try (with_reducible rfl))
        try simp only [Act.put, sA, sZ, sS]
        refine wpAnyH_ready (rs := [1, 3]) (by kernel_rfl) (by simp) ?_
        refine AllReadyH.cons (List.getElem?_toArray.trans rfl) (fun K hK => ?_) ?_
        · have yL := (Vd.out.box_at (i := 0) (j := 2) rfl rfl).1
          go_simp
          refine hK.out _ _ (hHeld) (fun hHeld => ?_)
          clear hK K
          try simp only [Act.put, sA, sZ, sS]
          refine wpAnyH_ready (rs := [3]) (by kernel_rfl) (by simp) ?_
          refine AllReadyH.cons (List.getElem?_toArray.trans rfl) (fun K hK => ?_) AllReadyH.nil
          go_simp
          refine (clone_nums row Aj ℓ cj w _ _ Vd.out HL.out (by omega) (HC.out.below (bdrew _))).mono ?_
          rintro e w_1_3 ⟨C5, d5, rfl, hv_1_3, b_1_3⟩
          try go_wp2_with fail
          have V_1_3 := Lib.hid hv_1_3
          refine hK.out _ _ (hHeld.go b_1_3) (fun hHeld => ?_)
          clear hK K
          try simp only [Act.put, sA, sZ, sS]
          refine wpAnyH_ready (rs := [4]) (by kernel_rfl) (by simp) ?_
          refine AllReadyH.cons (List.getElem?_toArray.trans rfl) (fun K hK => ?_) AllReadyH.nil
          obtain ⟨w_1_3_4, hw_1_3_4⟩ : ∃ z, z = (w_1_3.alloc (.cells #[.slice C5 ℓ d5] 39)) := ⟨_, rfl⟩
          have V_1_3_4 := Lib.hid (show Hp _ (box 39 w_1_3.heap.size [.slice C5 ℓ d5] :: _) w_1_3_4 by rw [hw_1_3_4]; exact V_1_3.out.box_new 39 [.slice C5 ℓ d5])
          have Bw_1_3_4 := Lib.hid (show Below w_1_3.heap.size w_1_3 w_1_3_4 by rw [hw_1_3_4]; exact bnew _ _)
          go_simp
          rw [← hw_1_3_4]
          clear hw_1_3_4
          refine hK.out _ _ (hHeld.go Bw_1_3_4.out) (fun hHeld => ?_)
          clear hK K
          try simp only [Act.put, sA, sZ, sS]
          refine wpAnyH_ready (rs := [5]) (by kernel_rfl) (by simp) ?_
          refine AllReadyH.cons (List.getElem?_toArray.trans rfl) (fun K hK => ?_) AllReadyH.nil
          have y0 := (V_1_3_4.out.box_at (i := 0) (j := 0) rfl rfl).1
          obtain ⟨g4, cap4, w4, hr4, hv4, _⟩ := run_app_rv V_1_3_4.out (i := 3) rfl HVL.out 22 C5 ℓ d5 row HL.out y0 (by omega)
          have V4 := Lib.hid hv4.tail
          refine step_app_run rfl (.tmp 22) (.tmp 25) 22 rfl hr4 rfl rfl ?_
          refine hK.out _ _ (fun _ h => by simp at h) (fun hHeld => ?_)
          clear hK K
          try simp only [Act.put, sA, sZ, sS]
          refine tk 6 ?_ rfl ?_ ?_; rotate_left; focus (intro w hSw; clear hSw; go_simp; try (with_reducible rfl))
          try simp only [Act.put, sA, sZ, sS]
          refine wpAnyH_ready (rs := [7]) (by kernel_rfl) (by simp) ?_
          refine AllReadyH.cons (List.getElem?_toArray.trans rfl) (fun K hK => ?_) AllReadyH.nil
          obtain ⟨r0, o0, z0⟩ := V4.out.box_at (i := 1) (j := 2) rfl rfl
          have V5 := Lib.hid (V4.out.box_set (i := 1) rfl 2 (.slice (some ⟨g4, 0, none⟩) (j + 1) cap4))
          go_simp
          refine hK.out _ _ (fun _ h => by simp at h) (fun hHeld => ?_)
          clear hK K
          try simp only [Act.put, sA, sZ, sS]
          refine wpAnyH_done (by kernel_rfl) ?_ _
          have HR := Lib.hid (show ∃ An cn, ∃ vs : List (Option Addr × Nat), vs.length = j + 1 ∧ Hp w ([box 25 go [.int .i64 M.lt, .int .i64 M.st, .slice An (j + 1) cn, .slice C m dd], rvals An (j + 1) cn vs (M.nx.take (j + 1)), flags C m dd M.ac, box 25 (w.heap.size + 1) [.int .i64 0, .int .i64 0, .slice none 0 0, .slice none 0 0], box 25 w.heap.size [.int .i64 M.lt, .int .i64 M.st, .slice (some ⟨b, off, none⟩) n c, .slice B m d]] ++ rowsG vs (M.nx.take (j + 1))) _ from ⟨some ⟨g4, 0, none⟩, cap4, vs ++ [(C5, d5)], by rw [List.length_append, HVS.out]; rfl, by rw [HTK.out]; exact row_doneG (l := [box 25 go [.int .i64 M.lt, .int .i64 M.st, .slice (some ⟨g4, 0, none⟩) (j + 1) cap4, .slice C m dd], rvals (some ⟨g4, 0, none⟩) (j + 1) cap4 (vs ++ [(C5, d5)]) (M.nx.take j ++ [row]), flags C m dd M.ac, box 25 (w.heap.size + 1) [.int .i64 0, .int .i64 0, .slice none 0 0, .slice none 0 0], box 25 w.heap.size [.int .i64 M.lt, .int .i64 M.st, .slice (some ⟨b, off, none⟩) n c, .slice B m d]]) HVL.out (by rw [HL.out]; exact V5.out)⟩)
          go_wp2_with fail
          go_roundw
          case rel => exact ⟨j + 1, by go_num, by omega, HR.out⟩
          case measure => simp [intOf]; omega
        refine AllReadyH.cons (List.getElem?_toArray.trans rfl) (fun K hK => ?_) ?_
        · go_simp
          refine (clone_nums row Aj ℓ cj w _ _ Vd.out HL.out (by omega) (HC.out.below (bdrew _))).mono ?_
          rintro e w_3 ⟨C5, d5, rfl, hv_3, b_3⟩
          try go_wp2_with fail
          have V_3 := Lib.hid hv_3
          refine hK.out _ _ (hHeld.go b_3) (fun hHeld => ?_)
          clear hK K
          try simp only [Act.put, sA, sZ, sS]
          refine wpAnyH_ready (rs := [1, 4]) (by kernel_rfl) (by simp) ?_
          refine AllReadyH.cons (List.getElem?_toArray.trans rfl) (fun K hK => ?_) ?_
          · have yL := (V_3.out.box_at (i := 1) (j := 2) rfl rfl).1
            go_simp
            refine hK.out _ _ (hHeld) (fun hHeld => ?_)
            clear hK K
            try simp only [Act.put, sA, sZ, sS]
            refine wpAnyH_ready (rs := [4]) (by kernel_rfl) (by simp) ?_
            refine AllReadyH.cons (List.getElem?_toArray.trans rfl) (fun K hK => ?_) AllReadyH.nil
            obtain ⟨w_3_1_4, hw_3_1_4⟩ : ∃ z, z = (w_3.alloc (.cells #[.slice C5 ℓ d5] 39)) := ⟨_, rfl⟩
            have V_3_1_4 := Lib.hid (show Hp _ (box 39 w_3.heap.size [.slice C5 ℓ d5] :: _) w_3_1_4 by rw [hw_3_1_4]; exact V_3.out.box_new 39 [.slice C5 ℓ d5])
            have Bw_3_1_4 := Lib.hid (show Below w_3.heap.size w_3 w_3_1_4 by rw [hw_3_1_4]; exact bnew _ _)
            go_simp
            rw [← hw_3_1_4]
            clear hw_3_1_4
            refine hK.out _ _ (hHeld.go Bw_3_1_4.out) (fun hHeld => ?_)
            clear hK K
            try simp only [Act.put, sA, sZ, sS]
            refine wpAnyH_ready (rs := [5]) (by kernel_rfl) (by simp) ?_
            refine AllReadyH.cons (List.getElem?_toArray.trans rfl) (fun K hK => ?_) AllReadyH.nil
            have y0 := (V_3_1_4.out.box_at (i := 0) (j := 0) rfl rfl).1
            obtain ⟨g4, cap4, w4, hr4, hv4, _⟩ := run_app_rv V_3_1_4.out (i := 3) rfl HVL.out 22 C5 ℓ d5 row HL.out y0 (by omega)
            have V4 := Lib.hid hv4.tail
            refine step_app_run rfl (.tmp 22) (.tmp 25) 22 rfl hr4 rfl rfl ?_
            refine hK.out _ _ (fun _ h => by simp at h) (fun hHeld => ?_)
            clear hK K
            try simp only [Act.put, sA, sZ, sS]
            refine tk 6 ?_ rfl ?_ ?_; rotate_left; focus (intro w hSw; clear hSw; go_simp; try (with_reducible rfl))
            try simp only [Act.put, sA, sZ, sS]
            refine wpAnyH_ready (rs := [7]) (by kernel_rfl) (by simp) ?_
            refine AllReadyH.cons (List.getElem?_toArray.trans rfl) (fun K hK => ?_) AllReadyH.nil
            obtain ⟨r0, o0, z0⟩ := V4.out.box_at (i := 1) (j := 2) rfl rfl
            have V5 := Lib.hid (V4.out.box_set (i := 1) rfl 2 (.slice (some ⟨g4, 0, none⟩) (j + 1) cap4))
            go_simp
            refine hK.out _ _ (fun _ h => by simp at h) (fun hHeld => ?_)
            clear hK K
            try simp only [Act.put, sA, sZ, sS]
            refine wpAnyH_done (by kernel_rfl) ?_ _
            have HR := Lib.hid (show ∃ An cn, ∃ vs : List (Option Addr × Nat), vs.length = j + 1 ∧ Hp w ([box 25 go [.int .i64 M.lt, .int .i64 M.st, .slice An (j + 1) cn, .slice C m dd], rvals An (j + 1) cn vs (M.nx.take (j + 1)), flags C m dd M.ac, box 25 (w.heap.size + 1) [.int .i64 0, .int .i64 0, .slice none 0 0, .slice none 0 0], box 25 w.heap.size [.int .i64 M.lt, .int .i64 M.st, .slice (some ⟨b, off, none⟩) n c, .slice B m d]] ++ rowsG vs (M.nx.take (j + 1))) _ from ⟨some ⟨g4, 0, none⟩, cap4, vs ++ [(C5, d5)], by rw [List.length_append, HVS.out]; rfl, by rw [HTK.out]; exact row_doneG (l := [box 25 go [.int .i64 M.lt, .int .i64 M.st, .slice (some ⟨g4, 0, none⟩) (j + 1) cap4, .slice C m dd], rvals (some ⟨g4, 0, none⟩) (j + 1) cap4 (vs ++ [(C5, d5)]) (M.nx.take j ++ [row]), flags C m dd M.ac, box 25 (w.heap.size + 1) [.int .i64 0, .int .i64 0, .slice none 0 0, .slice none 0 0], box 25 w.heap.size [.int .i64 M.lt, .int .i64 M.st, .slice (some ⟨b, off, none⟩) n c, .slice B m d]]) HVL.out (by rw [HL.out]; exact V5.out)⟩)
            go_wp2_with fail
            go_roundw
            case rel => exact ⟨j + 1, by go_num, by omega, HR.out⟩
            case measure => simp [intOf]; omega
          refine AllReadyH.cons (List.getElem?_toArray.trans rfl) (fun K hK => ?_) ?_
          · obtain ⟨w_3_4, hw_3_4⟩ : ∃ z, z = (w_3.alloc (.cells #[.slice C5 ℓ d5] 39)) := ⟨_, rfl⟩
            have V_3_4 := Lib.hid (show Hp _ (box 39 w_3.heap.size [.slice C5 ℓ d5] :: _) w_3_4 by rw [hw_3_4]; exact V_3.out.box_new 39 [.slice C5 ℓ d5])
            have Bw_3_4 := Lib.hid (show Below w_3.heap.size w_3 w_3_4 by rw [hw_3_4]; exact bnew _ _)
            go_simp
            rw [← hw_3_4]
            clear hw_3_4
            refine hK.out _ _ (hHeld.go Bw_3_4.out) (fun hHeld => ?_)
            clear hK K
            try simp only [Act.put, sA, sZ, sS]
            refine wpAnyH_ready (rs := [1]) (by kernel_rfl) (by simp) ?_
            refine AllReadyH.cons (List.getElem?_toArray.trans rfl) (fun K hK => ?_) AllReadyH.nil
            have yL := (V_3_4.out.box_at (i := 2) (j := 2) rfl rfl).1
            go_simp
            refine hK.out _ _ (hHeld) (fun hHeld => ?_)
            clear hK K
            try simp only [Act.put, sA, sZ, sS]
            refine wpAnyH_ready (rs := [5]) (by kernel_rfl) (by simp) ?_
            refine AllReadyH.cons (List.getElem?_toArray.trans rfl) (fun K hK => ?_) AllReadyH.nil
            have y0 := (V_3_4.out.box_at (i := 0) (j := 0) rfl rfl).1
            obtain ⟨g4, cap4, w4, hr4, hv4, _⟩ := run_app_rv V_3_4.out (i := 3) rfl HVL.out 22 C5 ℓ d5 row HL.out y0 (by omega)
            have V4 := Lib.hid hv4.tail
            refine step_app_run rfl (.tmp 22) (.tmp 25) 22 rfl hr4 rfl rfl ?_
            refine hK.out _ _ (fun _ h => by simp at h) (fun hHeld => ?_)
            clear hK K
            try simp only [Act.put, sA, sZ, sS]
            refine tk 6 ?_ rfl ?_ ?_; rotate_left; focus (intro w hSw; clear hSw; go_simp; try (with_reducible rfl))
            try simp only [Act.put, sA, sZ, sS]
            refine wpAnyH_ready (rs := [7]) (by kernel_rfl) (by simp) ?_
            refine AllReadyH.cons (List.getElem?_toArray.trans rfl) (fun K hK => ?_) AllReadyH.nil
            obtain ⟨r0, o0, z0⟩ := V4.out.box_at (i := 1) (j := 2) rfl rfl
            have V5 := Lib.hid (V4.out.box_set (i := 1) rfl 2 (.slice (some ⟨g4, 0, none⟩) (j + 1) cap4))
            go_simp
            refine hK.out _ _ (fun _ h => by simp at h) (fun hHeld => ?_)
            clear hK K
            try simp only [Act.put, sA, sZ, sS]
            refine wpAnyH_done (by kernel_rfl) ?_ _
            have HR := Lib.hid (show ∃ An cn, ∃ vs : List (Option Addr × Nat), vs.length = j + 1 ∧ Hp w ([box 25 go [.int .i64 M.lt, .int .i64 M.st, .slice An (j + 1) cn, .slice C m dd], rvals An (j + 1) cn vs (M.nx.take (j + 1)), flags C m dd M.ac, box 25 (w.heap.size + 1) [.int .i64 0, .int .i64 0, .slice none 0 0, .slice none 0 0], box 25 w.heap.size [.int .i64 M.lt, .int .i64 M.st, .slice (some ⟨b, off, none⟩) n c, .slice B m d]] ++ rowsG vs (M.nx.take (j + 1))) _ from ⟨some ⟨g4, 0, none⟩, cap4, vs ++ [(C5, d5)], by rw [List.length_append, HVS.out]; rfl, by rw [HTK.out]; exact row_doneG (l := [box 25 go [.int .i64 M.lt, .int .i64 M.st, .slice (some ⟨g4, 0, none⟩) (j + 1) cap4, .slice C m dd], rvals (some ⟨g4, 0, none⟩) (j + 1) cap4 (vs ++ [(C5, d5)]) (M.nx.take j ++ [row]), flags C m dd M.ac, box 25 (w.heap.size + 1) [.int .i64 0, .int .i64 0, .slice none 0 0, .slice none 0 0], box 25 w.heap.size [.int .i64 M.lt, .int .i64 M.st, .slice (some ⟨b, off, none⟩) n c, .slice B m d]]) HVL.out (by rw [HL.out]; exact V5.out)⟩)
            go_wp2_with fail
            go_roundw
            case rel => exact ⟨j + 1, by go_num, by omega, HR.out⟩
            case measure => simp [intOf]; omega
          exact AllReadyH.nil
        exact AllReadyH.nil
      · obtain rfl : j = n := by omega
        have hfull : M.nx.take j = M.nx := List.take_of_length_le (by have := HN.out; unfold Au.n at this; omega)
        rw [hfull] at V
        obtain ⟨r0, _, r90⟩ := V.out.box_at (i := 0) (j := 0) rfl rfl
        obtain ⟨r1, _, r91⟩ := V.out.box_at (i := 0) (j := 1) rfl rfl
        obtain ⟨r2, _, r92⟩ := V.out.box_at (i := 0) (j := 2) rfl rfl
        obtain ⟨r3, _, r93⟩ := V.out.box_at (i := 0) (j := 3) rfl rfl
        obtain ⟨s0, o0, s90⟩ := V.out.box_at (i := 3) (j := 0) rfl rfl
        obtain ⟨s1, o1, s91⟩ := V.out.box_at (i := 3) (j := 1) rfl rfl
        obtain ⟨s2, o2, s92⟩ := V.out.box_at (i := 3) (j := 2) rfl rfl
        obtain ⟨s3, o3, s93⟩ := V.out.box_at (i := 3) (j := 3) rfl rfl
        have VE := Lib.hid ((((V.out.box_set (i := 3) rfl 0 (.int .i64 M.lt)).box_set (i := 3) rfl 1 (.int .i64 M.st)).box_set (i := 3) rfl 2 (.slice An j cn)).box_set (i := 3) rfl 3 (.slice C m dd))
        obtain ⟨q0, _, _⟩ := VE.out.box_at (i := 3) (j := 0) rfl rfl
        obtain ⟨q1, _, _⟩ := VE.out.box_at (i := 3) (j := 1) rfl rfl
        obtain ⟨q2, _, _⟩ := VE.out.box_at (i := 3) (j := 2) rfl rfl
        obtain ⟨q3, _, _⟩ := VE.out.box_at (i := 3) (j := 3) rfl rfl
        clear hfull
        go_wp2_with fail
        refine bodyPost_ret (v := .agg #[.int .i64 M.lt, .int .i64 M.st, .slice An j cn, .slice C m dd]) (by simp [results, Try.results7, go_sem, q0, q1, q2, q3]) rfl ?_
        have c0 := VE.out.cap (i := 1) (A := An) (c := cn) rfl rfl
        have c1 := VE.out.cap (i := 2) (A := C) (c := dd) rfl rfl
        exact ⟨⟨An, j, cn, C, m, dd⟩, rfl, ⟨HN.out, HM.out, c0.1, c1.1, by show j ≤ _; omega, by show m ≤ _; omega, rowsG_in (l := [_, _, _, _, _]) (i := 1) VE.out rfl (by rw [HVS.out]; exact HN.out.symm) (fun row hr => Nat.le_trans (HROW.out row hr) (by omega)), VE.out.cells (i := 2) rfl rfl⟩, VE.out.below⟩
end Go.Proofs.Ytdkdfmflghbhiaa
