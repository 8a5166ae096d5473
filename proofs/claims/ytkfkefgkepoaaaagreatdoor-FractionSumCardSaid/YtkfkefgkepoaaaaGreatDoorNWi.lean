/- Contracts of limited and within, and of Of. -/
import Derived.Test.YtkfkefgkepoaaaaGreatDoorNWh
namespace Go.Proofs.YtkfkefgkepoaaaaGreatDoor
open Go.RowKit
set_option linter.unusedVariables false
set_option maxRecDepth 100000

/-- A call that returns a number and an error. -/
def NatPost (r : Int × Int) (W : World) (e : Ending) (w' : World) : Prop :=
  ∃ A c, e = .returned (.tuple #[.agg #[.slice A (digs r.1).length c], .int .i64 r.2]) ∧ IntsIn w' A (digs r.1) ∧ (digs r.1).length ≤ c ∧ c ≤ maxLen ∧ Below W.heap.size W w'
def lim (n : Int) : Int × Int := if 200 < (digs n).length then (0, 3) else (n, 0)
theorem nat_err {r : Int × Int} {x : Int} {W w' : World} (h : r = (0, x)) (hb : Below W.heap.size W w') : NatPost r W (.returned (.tuple #[.agg #[.slice none 0 0], .int .i64 x])) w' := by
  subst h
  exact ⟨none, 0, by simp [digs_zero], by rw [digs_zero]; exact IntsIn.nil _ _, by simp [digs_zero], Nat.zero_le _, hb⟩
theorem nat_ok {r : Int × Int} {n : Int} {x : Nat} {W w' : World} {A : Option Addr} {c : Nat} (h : r = (n, 0)) (hx : x = (digs n).length) (hi : IntsIn w' A (digs n)) (hc : (digs n).length ≤ c) (hm : c ≤ maxLen) (hb : Below W.heap.size W w') :
    NatPost r W (.returned (.tuple #[.agg #[.slice A x c], .int .i64 0])) w' := by
  subst h; subst hx
  exact ⟨A, c, rfl, hi, hc, hm, hb⟩
theorem one_set {W : World} {o : Obj} (v : Value) : Below W.heap.size W ((W.alloc o).setCell ⟨W.heap.size, 0, none⟩ v) := ((Below.refl _ _).alloc (Nat.le_refl _) _).setCell (Nat.le_refl _) _
set_option maxHeartbeats 1000000 in
theorem limited_any (n : Int) (m c : Nat) (A : Option Addr) (W : World) (hm : (digs n).length = m) (hmc : m ≤ c) (hc63 : c ≤ maxLen) (hA : IntsIn W A (digs n)) :
    Calls Tryz.prog 67 #[.slice A m c] W (NatPost (lim n) W) := by
  have hm63 := Nat.le_trans hmc hc63
  unfold maxLen at hm63
  by_cases h : 200 < m
  · have hv := Lib.hid (show lim n = (0, 3) by unfold lim; rw [if_pos (by omega)])
    clear hm hA
    go_enter Tryz.func67, Tryz.ntmps67
    go_wp2
    exact bodyPost_ret (v := .tuple #[.agg #[.slice none 0 0], .int .i64 3]) (by simp [results, Tryz.results67, go_sem]) rfl (nat_err hv.out ((Below.refl _ _).alloc (Nat.le_refl _) _))
  · have hv := Lib.hid (show lim n = (n, 0) by unfold lim; rw [if_neg (by omega)])
    have HM := Lib.hid hm
    have HA := Lib.hid hA
    clear hm hA
    go_enter Tryz.func67, Tryz.ntmps67
    go_wp2
    refine bodyPost_ret (v := .tuple #[.agg #[.slice A m c], .int .i64 0]) (by simp [results, Tryz.results67, go_sem]) rfl ?_
    exact nat_ok hv.out HM.out.symm (HA.out.below ((Below.refl _ _).alloc (Nat.le_refl _) _)) (by rw [HM.out]; exact hmc) hc63 ((Below.refl _ _).alloc (Nat.le_refl _) _)
set_option maxHeartbeats 1000000 in
theorem within_any (n : Int) (m c : Nat) (A : Option Addr) (W : World) (hm : (digs n).length = m) (hmc : m ≤ c) (hc63 : c ≤ maxLen) (hA : IntsIn W A (digs n)) :
    Calls Tryz.prog 77 #[.slice A m c] W (NatPost (lim n) W) := by
  have hm63 := Nat.le_trans hmc hc63
  unfold maxLen at hm63
  by_cases h : 200 < m
  · have hv := Lib.hid (show lim n = (0, 3) by unfold lim; rw [if_pos (by omega)])
    clear hm hA
    go_enter Tryz.func77, Tryz.ntmps77
    go_wp2
    exact bodyPost_ret (v := .tuple #[.agg #[.slice none 0 0], .int .i64 3]) (by simp [results, Tryz.results77, go_sem]) rfl (nat_err hv.out ((Below.refl _ _).alloc (Nat.le_refl _) _))
  · have hv := Lib.hid (show lim n = (n, 0) by unfold lim; rw [if_neg (by omega)])
    have HM := Lib.hid hm
    have HA := Lib.hid hA
    clear hm hA
    go_enter Tryz.func77, Tryz.ntmps77
    go_wp2
    refine bodyPost_ret (v := .tuple #[.agg #[.slice A m c], .int .i64 0]) (by simp [results, Tryz.results77, go_sem]) rfl ?_
    exact nat_ok hv.out HM.out.symm (HA.out.below ((Below.refl _ _).alloc (Nat.le_refl _) _)) (by rw [HM.out]; exact hmc) hc63 ((Below.refl _ _).alloc (Nat.le_refl _) _)

def ofV (n : Int) : Int × Int := if n < 0 then (0, 6) else (n, 0)
/-- The state of Of: what has been taken, what is left. -/
def OfSt (N : Int) (W : World) (T : TypeId) (x : Int) (v : Value) (wr : World) : Prop :=
  ∃ L : List Int, 0 ≤ x ∧ x ≤ N ∧ L ++ digs x = digs N ∧ L.length ≤ 5 ∧ wr.ownsRow (W.heap.size + 1) 3 1 v L.length (ints L) ∧ Below (W.heap.size + 1) (W.alloc (.cells #[.slice none 0 0] T)) wr
theorem of_start {N : Int} {W : World} {T : TypeId} (h : 0 ≤ N) : OfSt N W T N (.slice none 0 0) (W.alloc (.cells #[.slice none 0 0] T)) :=
  ⟨[], h, Int.le_refl _, rfl, by simp, World.ownsRow_nil _ _ _ _, Below.refl _ _⟩
theorem pw5 : pw 5 = 100000000000000000000 := by simp [pw]
theorem of_len {N : Int} {L : List Int} {x : Int} (hN : N ≤ 9223372036854775807) (h : L ++ digs x = digs N) (hx : 0 < x) : L.length ≤ 4 := by
  have h1 := digs_len_le (n := N) (k := 5) (by rw [pw5]; omega)
  rw [← h, List.length_append, digs_pos hx, List.length_cons] at h1
  omega
theorem of_step {N x : Int} {W wr w1 : World} {T : TypeId} {v v' : Value} {L : List Int} {o : Obj} (hN : N ≤ 9223372036854775807) (hx : 0 < x) (hxN : x ≤ N) (hl : L ++ digs x = digs N)
    (hb : Below (W.heap.size + 1) (W.alloc (.cells #[.slice none 0 0] T)) wr) (hown : w1.ownsRow (W.heap.size + 1) 3 1 v' (L.length + 1) (ints L ++ [.int .i64 (x % 10000)])) (hg : (wr.alloc o).grownBy w1 v.ownBlock)
    (hv : ∀ k, v.ownBlock = some k → W.heap.size + 1 ≤ k) : OfSt N W T (x / 10000) v' w1 := by
  have hl4 := of_len hN hl hx
  have hs : W.heap.size + 1 ≤ wr.heap.size := by have := hb.size; simpa using this
  refine ⟨L ++ [x % 10000], by omega, by omega, ?_, by simp; omega, by simpa [ints] using hown, ?_⟩
  · rw [← hl, digs_pos hx]; simp
  · exact (hb.alloc hs o).grown hg (by simp; omega) hv
theorem of_cell {W wr : World} {T : TypeId} (hb : Below (W.heap.size + 1) (W.alloc (.cells #[.slice none 0 0] T)) wr) :
    wr.cell? ⟨W.heap.size, 0, none⟩ = some (.slice none 0 0) ∧ wr.frozen? ⟨W.heap.size, 0, none⟩ = false ∧ W.heap.size < wr.heap.size := by
  refine ⟨(hb.cell (p := ⟨W.heap.size, 0, none⟩) (Nat.lt_succ_self _)).trans (by simp), (hb.frozen (p := ⟨W.heap.size, 0, none⟩) (Nat.lt_succ_self _)).trans (by simp [World.frozen?_alloc_mark]), ?_⟩
  have := hb.size; simp at this; omega
theorem of_end {N : Int} {W wr : World} {T : TypeId} {v : Value} (h : OfSt N W T 0 v wr) (h0 : 0 ≤ N) :
    ∃ A c, v = .slice A (digs N).length c ∧ NatPost (ofV N) W (.returned (.tuple #[.agg #[v], .int .i64 0])) (wr.setCell ⟨W.heap.size, 0, none⟩ v) := by
  obtain ⟨L, _, _, hl, _, hown, hb⟩ := h
  rw [digs_zero, List.append_nil] at hl
  subst hl
  have hown2 := ownsRow_setCell_below hown (a := ⟨W.heap.size, 0, none⟩) (Nat.lt_succ_self _) v
  obtain ⟨A, c, rfl, hi, hc, hm, _⟩ := own_ints hown2
  refine ⟨A, c, rfl, A, c, ?_, ?_, ?_⟩
  · unfold ofV; rw [if_neg (by omega)]
  · unfold ofV; rw [if_neg (by omega)]; exact hi
  · unfold ofV; rw [if_neg (by omega)]
    exact ⟨hc, hm, (((Below.refl _ _).alloc (Nat.le_refl _) _).trans (hb.mono (by omega))).setCell (p := ⟨W.heap.size, 0, none⟩) (Nat.le_refl _) _⟩
theorem new_int (w : World) (t : TypeId) (x : Value) : ∀ (j : Nat) (u : Value), [x][j]? = some u → (w.alloc (.cells #[x] t)).cell? ((⟨w.heap.size, 0, none⟩ : Addr).add j) = some u := by
  intro j u hj
  match j, hj with
  | 0, hj => simp at hj; subst hj; simp [Addr.add]
theorem one_int (x : Int) : ∀ u ∈ [Value.int .i64 x], u.oneCell' = true := by
  intro u hu; simp at hu; subst hu; rfl
set_option maxHeartbeats 1000000 in
theorem of_any (N : Int) (W : World) (h1 : N ≤ 9223372036854775807) :
    Calls Tryz.prog 25 #[.int .i64 N] W (NatPost (ofV N) W) := by
  by_cases hneg : N < 0
  · have hv := Lib.hid (show ofV N = (0, 6) by unfold ofV; rw [if_pos hneg])
    go_enter Tryz.func25, Tryz.ntmps25
    go_wp2
    exact bodyPost_ret (v := .tuple #[.agg #[.slice none 0 0], .int .i64 6]) (by simp [results, Tryz.results25, go_sem]) rfl (nat_err hv.out ((Below.refl _ _).alloc (Nat.le_refl _) _))
  · have hN0 : 0 ≤ N := by omega
    obtain ⟨i0, hi, hz0, hz1, hz2⟩ := info_parts Tryz.infoInt
    go_enter Tryz.func25, Tryz.ntmps25
    go_wp2
    go_loopw [0, 4] (fun n v wr => ∃ x : Int, n = .int .i64 x ∧ OfSt N W 30 x v wr) (fun n _ _ => (intOf n).toNat)
    case atStart => exact ⟨N, rfl, of_start hN0⟩
    case round =>
      obtain ⟨x, rfl, hst⟩ := hrel
      have HST := Lib.hid hst
      obtain ⟨L, hx0, hxN, hl, hl5, hown, hb⟩ := hst
      by_cases hx : 0 < x
      · have HL := Lib.hid hl
        have hl4 := of_len h1 hl hx
        have HV := Lib.hid (show ∀ k, u4.ownBlock = some k → W.heap.size + 1 ≤ k from fun k hk => (hown.lt k hk).1)
        have hs : W.heap.size + 1 ≤ wr.heap.size := by have := hb.size; simpa using this
        have HB := Lib.hid hb
        have HO := Lib.hid hown
        have k63 : L.length + 1 ≤ maxLen := by unfold maxLen; omega
        have k8 : (L.length + 1) * 8 ≤ 140737488355328 := by omega
        have ksz : W.heap.size + 1 ≤ (wr.alloc (.cells #[.int .i64 (x % 10000)] 3)).heap.size := by simp; omega
        clear hl hown hb
        go_wp2_with (at_builtin; refine wpList_append_own _ rfl _ _ 28 rfl (W.heap.size + 1) 3 i0 (.int .i64 0) 1 8 Tryz.underlying28 hi hz0 hz1 hz2 rfl (by decide) _ _ _ rfl (HO.out.alloc _) ⟨wr.heap.size, 0, none⟩ 1 1 [.int .i64 (x % 10000)] rfl rfl (new_int _ _ _) (one_int _) k63 k8 ksz ?_; intro v' w1 hown' hgrow _; have R := Lib.hid (of_step h1 hx hxN HL.out HB.out hown' hgrow HV.out); clear hown' hgrow)
        go_roundw
        case rel => exact ⟨_, rfl, R.out⟩
        case measure => simp [intOf]; omega
      · obtain rfl : x = 0 := by omega
        obtain ⟨A, c, rfl, hpost⟩ := of_end HST.out hN0
        obtain ⟨hc1, hc2, hc3⟩ := of_cell hb
        have HP := Lib.hid hpost
        clear hl hown hb hpost
        go_wp2
        refine bodyPost_ret (v := .tuple #[.agg #[.slice A (digs N).length c], .int .i64 0]) (by simp [results, Tryz.results25, go_sem, hc1]) rfl ?_
        exact HP.out
set_option maxHeartbeats 1000000 in
theorem rof_any (N : Int) (W : World) (h1 : N ≤ 9223372036854775807) :
    Calls Tryz.prog 93 #[.int .i64 N] W (NatPost (ofV N) W) := by
  by_cases hneg : N < 0
  · have hv := Lib.hid (show ofV N = (0, 6) by unfold ofV; rw [if_pos hneg])
    go_enter Tryz.func93, Tryz.ntmps93
    go_wp2
    exact bodyPost_ret (v := .tuple #[.agg #[.slice none 0 0], .int .i64 6]) (by simp [results, Tryz.results93, go_sem]) rfl (nat_err hv.out ((Below.refl _ _).alloc (Nat.le_refl _) _))
  · have hN0 : 0 ≤ N := by omega
    obtain ⟨i0, hi, hz0, hz1, hz2⟩ := info_parts Tryz.infoInt
    go_enter Tryz.func93, Tryz.ntmps93
    go_wp2
    go_loopw [0, 4] (fun n v wr => ∃ x : Int, n = .int .i64 x ∧ OfSt N W 30 x v wr) (fun n _ _ => (intOf n).toNat)
    case atStart => exact ⟨N, rfl, of_start hN0⟩
    case round =>
      obtain ⟨x, rfl, hst⟩ := hrel
      have HST := Lib.hid hst
      obtain ⟨L, hx0, hxN, hl, hl5, hown, hb⟩ := hst
      by_cases hx : 0 < x
      · have HL := Lib.hid hl
        have hl4 := of_len h1 hl hx
        have HV := Lib.hid (show ∀ k, u4.ownBlock = some k → W.heap.size + 1 ≤ k from fun k hk => (hown.lt k hk).1)
        have hs : W.heap.size + 1 ≤ wr.heap.size := by have := hb.size; simpa using this
        have HB := Lib.hid hb
        have HO := Lib.hid hown
        have k63 : L.length + 1 ≤ maxLen := by unfold maxLen; omega
        have k8 : (L.length + 1) * 8 ≤ 140737488355328 := by omega
        have ksz : W.heap.size + 1 ≤ (wr.alloc (.cells #[.int .i64 (x % 10000)] 3)).heap.size := by simp; omega
        clear hl hown hb
        go_wp2_with (at_builtin; refine wpList_append_own _ rfl _ _ 28 rfl (W.heap.size + 1) 3 i0 (.int .i64 0) 1 8 Tryz.underlying28 hi hz0 hz1 hz2 rfl (by decide) _ _ _ rfl (HO.out.alloc _) ⟨wr.heap.size, 0, none⟩ 1 1 [.int .i64 (x % 10000)] rfl rfl (new_int _ _ _) (one_int _) k63 k8 ksz ?_; intro v' w1 hown' hgrow _; have R := Lib.hid (of_step h1 hx hxN HL.out HB.out hown' hgrow HV.out); clear hown' hgrow)
        go_roundw
        case rel => exact ⟨_, rfl, R.out⟩
        case measure => simp [intOf]; omega
      · obtain rfl : x = 0 := by omega
        obtain ⟨A, c, rfl, hpost⟩ := of_end HST.out hN0
        obtain ⟨hc1, hc2, hc3⟩ := of_cell hb
        have HP := Lib.hid hpost
        clear hl hown hb hpost
        go_wp2
        refine bodyPost_ret (v := .tuple #[.agg #[.slice A (digs N).length c], .int .i64 0]) (by simp [results, Tryz.results93, go_sem, hc1]) rfl ?_
        exact HP.out
end Go.Proofs.YtkfkefgkepoaaaaGreatDoor
