/- Contract of the library: a list repeated. -/
import Derived.Test.YtgdfjblfpeedjaaDEb
import Derived.Test.YtgdfjblfpeedjaaShelfM
import Derived.Test.YtgdfjblfpeedjaaDCX
import Derived.Laws.IdiomCopy
import Derived.Deep.RegionLaw
namespace Go.Proofs.Ytgdfjblfpeedjaa
open Go.RowKit
set_option linter.unusedVariables false
set_option linter.unusedSimpArgs false
set_option maxRecDepth 100000

theorem Hp.nums_setCells {W : World} {l : List Itm} {i g n c : Nat} : ∀ (cs : List Int) (o : Nat) (L : List Int) (w : World), Hp W l w → l[i]? = some (nums (some ⟨g, 0, none⟩) n c L) → o + cs.length ≤ L.length →
    Hp W (l.set i (nums (some ⟨g, 0, none⟩) n c (L.take o ++ cs ++ L.drop (o + cs.length)))) (w.setCells g o (ints cs))
  | [], o, L, w, h, hi, hl => by
    rw [List.append_nil, List.length_nil, Nat.add_zero, List.take_append_drop]
    rw [show l.set i (nums (some ⟨g, 0, none⟩) n c L) = l from by
      apply List.ext_getElem?
      intro j
      rw [List.getElem?_set]
      split
      · rename_i e; subst e
        rw [if_pos (List.getElem?_eq_some_iff.1 hi).1, hi]
      · rfl]
    exact h
  | x :: r, o, L, w, h, hi, hl => by
    have hil := (List.getElem?_eq_some_iff.1 hi).1
    rw [List.length_cons] at hl
    have h1 := h.num_set hi o x
    have h2 := Hp.nums_setCells (l := l.set i (nums (some ⟨g, 0, none⟩) n c (L.set o x))) r (o + 1) (L.set o x) _ h1 (by rw [List.getElem?_set_self hil]) (by rw [List.length_set]; omega)
    rw [List.set_set] at h2
    have e1 : (L.set o x).take (o + 1) = L.take o ++ [x] := by
      rw [List.take_add_one, List.getElem?_set_self (by omega), List.take_set_of_le (Nat.le_refl _)]; rfl
    have e2 : (L.set o x).drop (o + 1 + r.length) = L.drop (o + (r.length + 1)) := by
      rw [List.drop_set_of_lt (by omega), show o + 1 + r.length = o + (r.length + 1) by omega]
    rw [e1, e2] at h2
    rw [List.length_cons, show L.take o ++ x :: r ++ L.drop (o + (r.length + 1)) = L.take o ++ [x] ++ r ++ L.drop (o + (r.length + 1)) by simp only [List.append_assoc, List.cons_append, List.nil_append]]
    exact h2
theorem int_size : (Try.prog.info? 3).map (·.size) = some 1 := by kernel_rfl
/-- Cells are copied into a row. -/
theorem run_copy_nums {W w : World} {l : List Itm} {i g n c : Nat} {L : List Int} (h : Hp W l w) (hi : l[i]? = some (nums (some ⟨g, 0, none⟩) n c L)) (ty : TypeId) (o dl dc : Nat) (b off sl sc : Nat) (cs : List Int) (hc : cs.length = Nat.min sl dl) (hsrc : ∀ (j : Nat) u, (ints cs)[j]? = some u → w.cell? ⟨b, off + j, none⟩ = some u) (hfit : o + cs.length ≤ n) :
    (Builtin.copy_ #[33, 33] ty #[.slice (some ⟨g, o, none⟩) dl dc, .slice (some ⟨b, off, none⟩) sl sc]).run Try.prog w = .ok (.int .i64 (cs.length : Int)) (w.setCells g o (ints cs)) ∧
      Hp W (l.set i (nums (some ⟨g, 0, none⟩) n c (L.take o ++ cs ++ L.drop (o + cs.length)))) (w.setCells g o (ints cs)) := by
  have hl := h.num_len hi
  refine ⟨?_, h.nums_setCells cs o L w hi (by omega)⟩
  have := run_copy_cells (P := Try.prog) w 33 33 ty 3 g o dl dc ⟨b, off, none⟩ sl sc (ints cs) Try.underlying33 int_size (by rw [ints_len]; exact hc) (fun j v hv => by rw [add_at]; exact hsrc j v hv) (fun j hj => by
    rw [ints_len] at hj
    rw [(h.num_at hi (j := o + j) (by omega)).1]; rfl) (fun j hj => by
    rw [ints_len] at hj
    exact (h.num_at hi (j := o + j) (by omega)).2.1) (ints_one' cs)
  rw [this, ints_len]; rfl
theorem wp_copy_run {P : Program} {w w' : World} {v' : Value} {o : Oper} {a : Act} {K : Act → World → Prop} {Q : Exit → Act → World → Prop} (s x : Operand) (t : TypeId)
    (ho : o.op = .call { callee := .builtin .copy, args := #[s, x], argTypes := #[t, t] }) {vs vx : Value} (hr : (Builtin.copy_ #[t, t] o.type #[vs, vx]).run P w = .ok v' w') (hs : a.eval s = vs) (hx : a.eval x = vx)
    (h : K (a.put o.dst v') w') : o.wp P a w K Q := by
  unfold Oper.wp execOp
  simp only [ho, resolve, invoke, builtin, Sem.run_bind, Sem.run_pure, Result.andThen_ok, List.map_toArray, List.map_cons, List.map_nil, hs, hx, hr]
  exact h
theorem wpList_copy_run {P : Program} {w w' : World} {v' : Value} {ops : Array Oper} {rest : List Oper} {o : Oper} {a : Act} {Q : Exit → Act → World → Prop} (hgd : o.guard = none) (s x : Operand) (t : TypeId)
    (ho : o.op = .call { callee := .builtin .copy, args := #[s, x], argTypes := #[t, t] }) {vs vx : Value} (hr : (Builtin.copy_ #[t, t] o.type #[vs, vx]).run P w = .ok v' w') (hs : a.eval s = vs) (hx : a.eval x = vx)
    (h : wpList P ops Q rest (a.put o.dst v') w') : wpList P ops Q (o :: rest) a w :=
  wpList_plain hgd fun _ hK => wp_copy_run s x t ho hr hs hx (hK _ _ h)
theorem step_copy_run {P : Program} {w w' : World} {v' : Value} {ops : Array Oper} {o : Oper} {a : Act} {K : Act → World → Prop} {Q : Exit → Act → World → Prop} {E : Prop} (hgd : o.guard = none) (s x : Operand) (t : TypeId)
    (ho : o.op = .call { callee := .builtin .copy, args := #[s, x], argTypes := #[t, t] }) {vs vx : Value} (hr : (Builtin.copy_ #[t, t] o.type #[vs, vx]).run P w = .ok v' w') (hs : a.eval s = vs) (hx : a.eval x = vx)
    (h : K (a.put o.dst v') w') : if Region.wanted o (yielded ops a.tmps) = true then Oper.wp P o a w K Q else E := by
  have hw : Region.wanted o (yielded ops a.tmps) = true := by simp [Region.wanted, hgd]
  rw [if_pos hw]
  exact wp_copy_run s x t ho hr hs hx h
/-- The first so many are given. -/
def rpK (N : Nat) (z : Int) (k : Nat) : List Int := List.replicate k z ++ List.replicate (N - k) 0
theorem rpK_step {N k q : Nat} {z : Int} (h : k + q ≤ N) : (rpK N z k).take k ++ List.replicate q z ++ (rpK N z k).drop (k + (List.replicate q z).length) = rpK N z (k + q) := by
  unfold rpK
  rw [List.length_replicate, List.take_left' (List.length_replicate ..), List.drop_append, List.length_replicate, List.drop_of_length_le (by rw [List.length_replicate]; omega), List.nil_append, List.drop_replicate, List.replicate_append_replicate]
  congr 2
  omega
theorem rpK_len {N k : Nat} {z : Int} (h : k ≤ N) : (rpK N z k).length = N := by unfold rpK; rw [List.length_append, List.length_replicate, List.length_replicate]; omega
theorem rpK_get {N k j : Nat} {z : Int} (h : j < k) : (rpK N z k)[j]? = some z := by
  unfold rpK
  rw [List.getElem?_append_left (by rw [List.length_replicate]; exact h), List.getElem?_replicate, if_pos h]
set_option maxHeartbeats 32000000 in
theorem repeat_any {W : World} {l : List Itm} (z : Int) (b N : Nat) (w : World) (hV : Hp W l w) (hb : w.cell? ⟨b, 0, none⟩ = some (.int .i64 z)) (hN1 : 1 ≤ N) (hN : N ≤ 1000000) :
    Calls Try.prog 29 #[.slice (some ⟨b, 0, none⟩) 1 1, .int .i64 (N : Int)] w fun e w' => ∃ gr : Nat, e = .returned (.slice (some ⟨gr, 0, none⟩) N N) ∧ Hp W (nums (some ⟨gr, 0, none⟩) N N (List.replicate N z) :: l) w' := by
  have V := Lib.hid hV
  have HB := Lib.hid hb
  clear hV hb
  have g1 : IntKind.u64.wrap (N : Int) = (N : Int) := IntWalk.u64_in _ (by omega)
  have g2 : IntKind.i64.wrap (N : Int) = (N : Int) := IntWalk.i64_in _ (by omega)
  have HMUL := Lib.hid (show ∀ W, Calls Try.prog 35 #[.int .u64 1, .int .u64 (N : Int)] W fun e w' => e = .returned (.tuple #[.int .u64 0, .int .u64 (N : Int)]) ∧ w' = W from fun W => by
    have h := Try.bits_Mul 1 N (by omega) (by omega) W
    rw [Nat.one_mul, Nat.div_eq_of_lt (by omega), Nat.mod_eq_of_lt (by omega)] at h
    exact h)
  have hmk := fun w => make_nums (N : Int) N rfl (by omega) w
  go_enter Try.func29, Try.ntmps29
  go_wp2_with fail
  refine (HMUL.out w).mono ?_
  rintro e w1 ⟨rfl, hw1⟩
  have e1 : w = w1 := hw1.symm
  subst e1
  clear hw1 HMUL
  obtain ⟨wm, hwm⟩ : ∃ z, z = w.alloc (.cells (Array.replicate N (.int .i64 0)) 3) := ⟨_, rfl⟩
  have HWM := Lib.hid hwm
  obtain ⟨gr, hgr⟩ : ∃ gr, gr = w.heap.size := ⟨_, rfl⟩
  have VM := Lib.hid (show Hp W (nums (some ⟨gr, 0, none⟩) N N (rpK N z 0) :: l) wm by
    rw [hwm, hgr]
    have h := V.out.made_numsA N (by omega)
    rw [show rpK N z 0 = List.replicate N 0 by unfold rpK; simp]
    exact h)
  have HB2 := Lib.hid (show wm.cell? ⟨b, 0, none⟩ = some (.int .i64 z) by rw [hwm]; exact ((bnew w _).cell (p := ⟨b, 0, none⟩) (World.block_lt_of_cell? w _ HB.out)).trans HB.out)
  clear hwm
  go_upto_region 7 with fail
  rw [← HWM.out, ← hgr]
  clear HWM hgr V HB hmk g1 g2
  obtain ⟨hr, hp⟩ := run_copy_nums VM.out (i := 0) rfl 3 0 N N b 0 1 1 [z] (by show 1 = Nat.min 1 N; exact (Nat.min_eq_left hN1).symm) (fun j u hu => by
    cases j with
    | zero => injection hu with hu; subst hu; exact HB2.out
    | succ j => simp [ints] at hu) (by show 0 + 1 ≤ N; omega)
  have VC := Lib.hid (show Hp W (nums (some ⟨gr, 0, none⟩) N N (rpK N z 1) :: l) _ by
    have h : Hp W (nums (some ⟨gr, 0, none⟩) N N ((rpK N z 0).take 0 ++ [z] ++ (rpK N z 0).drop (0 + [z].length)) :: l) _ := hp
    have e := rpK_step (N := N) (k := 0) (q := 1) (z := z) (by omega)
    rw [show [z] = List.replicate 1 z from rfl, e] at h
    exact h)
  clear hp VM HB2
  go_wp2_with fail
  clear hr
  go_loopw [8] (fun cv wr => ∃ k : Nat, cv = .int .i64 (k : Int) ∧ 1 ≤ k ∧ k ≤ N ∧ Hp W (nums (some ⟨gr, 0, none⟩) N N (rpK N z k) :: l) wr) (fun cv _ => N - (intOf cv).toNat)
  case atStart => exact ⟨1, rfl, Nat.le_refl _, hN1, VC.out⟩
  case round =>
    clear VC
    obtain ⟨k, rfl, hk1, hkN, hV⟩ := hrel
    obtain ⟨wi, rfl⟩ : ∃ wi : World, wi = wr := ⟨_, rfl⟩
    have V := Lib.hid hV
    clear hV
    by_cases hlt : k < N
    case neg =>
      obtain rfl : N = k := by omega
      have V2 := Lib.hid (show Hp W (nums (some ⟨gr, 0, none⟩) N N (List.replicate N z) :: l) wi by
        have h := V.out
        unfold rpK at h
        rwa [Nat.sub_self, List.replicate_zero, List.append_nil] at h)
      go_wp2_with fail
      exact bodyPost_ret (v := .slice (some ⟨gr, 0, none⟩) N N) (by simp [results, Try.results29, go_sem]) rfl ⟨gr, rfl, V2.out⟩
    obtain ⟨r, hr⟩ : ∃ r, r = N - k := ⟨_, rfl⟩
    have hr1 : r + k ≤ N := by omega
    have hr2 : N ≤ r + k := by omega
    clear hr
    obtain ⟨q, hq⟩ : ∃ q, q = Nat.min k r := ⟨_, rfl⟩
    have hq1 : q ≤ k := by rw [hq]; exact Nat.min_le_left _ _
    have hq2 : q ≤ r := by rw [hq]; exact Nat.min_le_right _ _
    have hq0 : 0 < q := by rw [hq]; exact Nat.lt_min.2 ⟨by omega, by omega⟩
    have HQ := Lib.hid hq
    clear hq
    have g3 : IntKind.i64.wrap ((k : Int) + (q : Int)) = ((k + q : Nat) : Int) := by rw [IntWalk.i64_in _ (by omega)]; omega
    go_upto_region 9 with fail
    have hKp : Keep [] wi := fun _ h => by simp at h
    refine wp_region_held_drew (S := Keep _) (by kernel_rfl) hKp.drew (fun hHeld => ?_)
    have Vd := Lib.hid (V.out.go (bdrew _))
    refine tk 0 ?_ rfl ?_ ?_; rotate_left; focus (intro w hSw; clear hSw; go_simp; try (with_reducible rfl))
    try simp only [Act.put, sA, sZ, sS]
    refine tk 1 ?_ rfl ?_ ?_; rotate_left; focus (intro w hSw; clear hSw; go_simp; try (with_reducible rfl))
    try simp only [Act.put, sA, sZ, sS]
    refine tk 2 ?_ rfl ?_ ?_; rotate_left; focus (intro w hSw; clear hSw; go_simp; try (with_reducible rfl))
    try simp only [Act.put, sA, sZ, sS]
    refine tk 3 ?_ rfl ?_ ?_; rotate_left
    · intro w hSw; clear hSw; go_simp; rw [if_neg (show ¬ N = k by omega), show N - k = r by omega]
    try simp only [Act.put, sA, sZ, sS]
    refine tk 4 ?_ rfl ?_ ?_; rotate_left; focus (intro w hSw; clear hSw; go_simp; try (with_reducible rfl))
    try simp only [Act.put, sA, sZ, sS]
    refine tk 5 ?_ rfl ?_ ?_; rotate_left; focus (intro w hSw; clear hSw; go_simp; try (with_reducible rfl))
    try simp only [Act.put, sA, sZ, sS]
    refine tk 6 ?_ rfl ?_ ?_; rotate_left; focus (intro w hSw; clear hSw; go_simp; try (with_reducible rfl))
    try simp only [Act.put, sA, sZ, sS]
    refine wpAnyH_ready (rs := [7]) (by kernel_rfl) (by simp) ?_
    refine AllReadyH.cons (List.getElem?_toArray.trans rfl) (fun K hK => ?_) AllReadyH.nil
    obtain ⟨hr, hp⟩ := run_copy_nums Vd.out (i := 0) rfl 3 k r r gr 0 k N (List.replicate q z) (by rw [List.length_replicate]; exact HQ.out) (fun j u hu => by
      have hj := (List.getElem?_eq_some_iff.1 hu).1
      rw [ints_len, List.length_replicate] at hj
      have h1 := (Vd.out.num_get (i := 0) rfl (rpK_get (N := N) (z := z) (show j < k by omega))).1
      rw [Nat.zero_add, h1, ← hu]
      unfold ints
      rw [List.getElem?_map, List.getElem?_replicate, if_pos hj]; rfl) (by rw [List.length_replicate]; omega)
    have VC := Lib.hid (show Hp W (nums (some ⟨gr, 0, none⟩) N N (rpK N z (k + q)) :: l) _ by
      have h : Hp W (nums (some ⟨gr, 0, none⟩) N N ((rpK N z k).take k ++ List.replicate q z ++ (rpK N z k).drop (k + (List.replicate q z).length)) :: l) _ := hp
      rw [rpK_step (by omega)] at h
      exact h)
    rw [List.length_replicate] at hr
    have HR := Lib.hid hr
    clear hr hp
    refine step_copy_run rfl (.tmp 41) (.tmp 44) 33 rfl HR.out rfl rfl ?_
    refine hK.out _ _ (fun _ h => by simp at h) (fun hHeld => ?_)
    clear hK K
    try simp only [Act.put, sA, sZ, sS]
    refine tk 8 ?_ rfl ?_ ?_; rotate_left; focus (intro w hSw; clear hSw; go_simp; try (with_reducible rfl))
    try simp only [Act.put, sA, sZ, sS]
    refine tk 9 ?_ rfl ?_ ?_; rotate_left; focus (intro w hSw; clear hSw; go_simp; try (with_reducible rfl))
    try simp only [Act.put, sA, sZ, sS]
    refine wpAnyH_done (by kernel_rfl) ?_ _
    clear hHeld hKp
    go_wp2_with fail
    go_roundw
    case rel => exact ⟨k + q, by first | go_num | exact congrArg (Value.int .i64) (by omega), by omega, by omega, VC.out⟩
    case measure => simp [intOf]; omega
end Go.Proofs.Ytgdfjblfpeedjaa
