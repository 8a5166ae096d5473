/- slices.Backward over rows: what its iterator does, while the loop's body writes one row of its own. -/
import Derived.Test.YtgdfjblfpeedjaaDCe
import Derived.RangeFuncNested
import Derived.RangeFuncBound
import Derived.RangeFuncBox
import Derived.RangeFuncCalls
import Derived.RangeFuncLeaves
import Derived.RangeFuncWrites
import Derived.Shelf.Abstract
import Derived.OwnWalkIn
import Derived.TacticsInMore
import Derived.LoopNIn
import Derived.LoopIn
namespace Go.Proofs.Ytgdfjblfpeedjaa
open Go.RowKit Go.Shelf
set_option linter.unusedVariables false
set_option linter.unusedSimpArgs false
set_option maxRecDepth 100000
attribute [local go_sem] Oper.semAt_some

/-- Whatever lay below B lies as it lay, but for block g. -/
structure KeptBut (B g : Nat) (W W' : World) : Prop where
  size : W.heap.size ≤ W'.heap.size
  block : ∀ k, k < B → k < W.heap.size → ¬ k = g → W'.heap[k]? = W.heap[k]?
theorem KeptBut.refl (B g : Nat) (W : World) : KeptBut B g W W := ⟨Nat.le_refl _, fun _ _ _ _ => rfl⟩
theorem KeptBut.trans {B g : Nat} {X Y Z : World} (h : KeptBut B g X Y) (k : KeptBut B g Y Z) : KeptBut B g X Z :=
  ⟨Nat.le_trans h.size k.size, fun i hi hx hg => (k.block i hi (Nat.lt_of_lt_of_le hx h.size) hg).trans (h.block i hi hx hg)⟩
theorem KeptBut.cell {B g : Nat} {W W' : World} (h : KeptBut B g W W') {b j : Nat} {u : Value} (hb : b < B) (hg : ¬ b = g) (hc : W.cell? ⟨b, j, none⟩ = some u) : W'.cell? ⟨b, j, none⟩ = some u := by
  have hlt := World.block_lt_of_cell? W _ hc
  exact (World.cell?_of_block (w := W) (w' := W') (h.block b hb hlt hg)).trans hc
theorem KeptBut.putObj {B g : Nat} (W : World) (l : Nat) (o' : Obj) (hl : B ≤ l) : KeptBut B g W (W.putObj l o') := by
  have hg := grownBy_putObj' W l o'
  exact ⟨hg.size, fun k hk hx _ => hg.block k hx (fun e => by injection e with e; omega)⟩
theorem KeptBut.of_grown {B g : Nat} {W W' : World} (h : W.grownBy W' (some g)) : KeptBut B g W W' := ⟨h.size, fun k _ hx hg => h.block k hx (fun e => hg (by injection e))⟩
/-- What has come when k rounds are over. -/
def upto {α : Type} (f : Nat → α) (k : Nat) : List α := (List.range k).map f
theorem upto_succ {α : Type} (f : Nat → α) (k : Nat) : upto f (k + 1) = upto f k ++ [f k] := by simp [upto, List.range_succ]
theorem upto_length {α : Type} (f : Nat → α) (k : Nat) : (upto f k).length = k := by simp [upto]
/-- The nodes from the last one on. -/
def dn (N : Nat) (h : 0 < N) (k : Nat) : Fin N := ⟨N - 1 - k, by omega⟩
set_option maxHeartbeats 4000000 in
theorem backward1_in (n : Nat) (hn : 1 ≤ n) (l Bs go N c B gw : Nat) (hN : 0 < N) (hN2 : N ≤ 100000) (RA : Nat → Option Addr) (RL RC : Nat → Nat) (hBs0 : Bs < B) (hBs1 : ¬ Bs = gw) (hgo0 : go < B) (hgo1 : ¬ go = gw) (J Jx : List (Fin N) → World → Prop)
    (hY : ∀ pre (x : Fin N) W, J pre W → pre.length < N → YieldAt Fence.wide (n - 1) Try.prog l #[.int .i64 (x.1 : Int), .slice (RA x.1) (RL x.1) (RC x.1)] W fun e W' =>
      (e = .returned (.bool true) ∧ J (pre ++ [x]) W' ∧ KeptBut B gw W W') ∨ (e = .returned (.bool false) ∧ Jx (pre ++ [x]) W'))
    (W : World) (hBs : W.cell? ⟨Bs, 0, none⟩ = some (.slice (some ⟨go, 0, none⟩) N c)) (hc : ∀ j, j < N → W.cell? ⟨go, j, none⟩ = some (.slice (RA j) (RL j) (RC j))) (h0 : J [] W) :
    CallsIn Fence.wide n Try.prog 36 #[.func (.yield l) #[] #[], .pointer (some ⟨Bs, 0, none⟩)] W fun e W' => (∃ v, e = .returned v) ∧
      ((∃ ys, ys = upto (dn N hN) N ∧ J ys W') ∨ (∃ pre, (∃ k, k ≤ N ∧ pre = upto (dn N hN) k) ∧ Jx pre W')) := by
  refine callsIn_of_wp Try.func36 rfl trivial ?_ rfl
  simp only [Try.ntmps36, List.size_toArray, List.length_cons, List.length_nil, Nat.reduceAdd, Nat.reduceSub, Array.replicate_succ, Array.replicate_zero, List.push_toArray, List.append_toArray, List.nil_append, List.cons_append]
  have e1 : IntKind.i64.wrap ((N : Int) - 1) = (N : Int) - 1 := IntWalk.i64_in _ (by omega)
  gi_wp2
  gi_loopw [3] (fun i wr => ∃ k : Nat, k ≤ N ∧ i = .int .i64 ((N : Int) - 1 - k) ∧ J (upto (dn N hN) k) wr ∧ KeptBut B gw W wr)
    (fun i _ => (intOf i + 1).toNat)
  case atStart => exact ⟨0, Nat.zero_le _, by simp, h0, KeptBut.refl _ _ _⟩
  case round =>
    obtain ⟨k, hk, rfl, hJs, hnx⟩ := hrel
    by_cases hlt : k < N
    · obtain ⟨j, hj⟩ : ∃ j : Nat, j = N - 1 - k := ⟨_, rfl⟩
      have hj2 : (N : Int) - 1 - k = (j : Int) := by omega
      have hjN : j < N := by omega
      have hcx := hnx.cell hgo0 hgo1 (hc j hjN)
      have hbx := hnx.cell hBs0 hBs1 hBs
      have hdn : dn N hN k = ⟨j, hjN⟩ := by unfold dn; simp [hj]
      obtain ⟨fn, tmps, assign, body, hy, hR⟩ := hY _ ⟨j, hjN⟩ wr hJs (by rw [upto_length]; exact hlt)
      dsimp only at hy
      rw [hj2]
      have HJ := Lib.hid hj
      clear hj
      have e2 : IntKind.i64.wrap ((j : Int) - 1) = (j : Int) - 1 := IntWalk.i64_in _ (by omega)
      gi_wp2
      refine hR.mono ?_
      rintro e W3 (⟨rfl, hJ3, hk3⟩ | ⟨rfl, hJx3⟩)
      · gi_wp2
        go_roundw
        case rel => exact ⟨k + 1, by omega, by have := HJ.out; congr 1; try omega, by rw [upto_succ, hdn]; exact hJ3, hnx.trans hk3⟩
        case measure => have := HJ.out; simp [intOf]; try omega
      · gi_wp2
        refine bodyPost_ret (results_none rfl _ _ _) rfl ?_
        exact ⟨⟨_, rfl⟩, .inr ⟨_, ⟨k + 1, by omega, by rw [upto_succ, hdn]⟩, hJx3⟩⟩
    · obtain rfl : k = N := by omega
      have e3 : ¬ (0 : Int) ≤ (k : Int) - 1 - (k : Int) := by omega
      gi_wp2
      go_end0
      exact ⟨⟨_, rfl⟩, .inl hJs⟩
theorem backward_any (A : Option Addr) (n c : Nat) (w : World) :
    Calls Try.prog 31 #[.slice A n c] w fun e w' => e = .returned (.func (.func 36) #[] #[.pointer (some ⟨w.heap.size, 0, none⟩)]) ∧ w' = w.alloc (.cells #[.slice A n c] 69) := by
  go_enter Try.func31, Try.ntmps31
  go_wp2
  go_ret
  exact ⟨rfl, rfl⟩
theorem backward_stops (n : Nat) (hn : 1 ≤ n) (Bs go N c B gw : Nat) (hN : 0 < N) (hN2 : N ≤ 100000) (RA : Nat → Option Addr) (RL RC : Nat → Nat) (hBs0 : Bs < B) (hBs1 : ¬ Bs = gw) (hgo0 : go < B) (hgo1 : ¬ go = gw) (w : World)
    (hBs : w.cell? ⟨Bs, 0, none⟩ = some (.slice (some ⟨go, 0, none⟩) N c)) (hc : ∀ j, j < N → w.cell? ⟨go, j, none⟩ = some (.slice (RA j) (RL j) (RC j))) :
    SeqStopsK Fence.wide n Try.prog 36 #[.pointer (some ⟨Bs, 0, none⟩)] (fun x : Fin N => #[Value.int .i64 (x.1 : Int), Value.slice (RA x.1) (RL x.1) (RC x.1)]) (KeptBut B gw) (fun ys => ys = upto (dn N hN) N)
      (fun pre => ∃ k, k ≤ N ∧ pre = upto (dn N hN) k) N w := fun l J Jx W hW _ _ hY h0 =>
  backward1_in n hn l Bs go N c B gw hN hN2 RA RL RC hBs0 hBs1 hgo0 hgo1 J Jx hY W ((hW.cell (p := ⟨Bs, 0, none⟩) (World.block_lt_of_cell? w _ hBs)).trans hBs) (fun j hj => (hW.cell (p := ⟨go, j, none⟩) (World.block_lt_of_cell? w _ (hc j hj))).trans (hc j hj)) h0
/-- Rows bear the turn of a block that is no cells. -/
theorem Hp.turned {W A B : World} {l : List Itm} {row : Option Nat} (h : Hp W l A) (hg : A.grownBy B row) (hr : ∀ r, row = some r → W.heap.size ≤ r ∧ ∃ o : Obj, A.heap[r]? = some o ∧ o.isCells = false) : Hp W l B := by
  refine ⟨fun i it hi => ?_, h.sep, h.below.grown hg h.below.size fun k hk => (hr k hk).1⟩
  have ho := h.own i it hi
  refine ho.kept hg ?_
  rcases ho.2 with ⟨e, _⟩ | ⟨b, cap, cur, e, hx⟩
  · left; rw [e]; rfl
  · right
    rw [e]
    intro e2
    obtain ⟨r', hr'⟩ : ∃ r', row = some r' := ⟨b, e2.symm⟩
    obtain ⟨_, o, h1, h2⟩ := hr r' hr'
    rw [hr'] at e2
    have e3 : b = r' := by injection e2
    subst e3
    rw [h1] at hx
    obtain ⟨_, h3, _⟩ := hx
    injection h3 with h3
    rw [h3] at h2
    cases h2
end Go.Proofs.Ytgdfjblfpeedjaa
