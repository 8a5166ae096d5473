/- slices.Backward over numbers: what its iterator does, while the loop body leaves alone what it reads. -/
import Derived.Test.YtgdfjblfpeedjaaDEv
import Derived.Test.YtgdfjblfpeedjaaDEm
namespace Go.Proofs.Ytgdfjblfpeedjaa
open Go.RowKit
set_option linter.unusedVariables false
set_option linter.unusedSimpArgs false
set_option maxRecDepth 100000

open Go.Shelf
attribute [local go_sem] Oper.semAt_some
/-- What the iterator reads stays. -/
structure KeptC (Bs go N c : Nat) (Z : Nat → Int) (W W' : World) : Prop where
  box : W.cell? ⟨Bs, 0, none⟩ = some (.slice (some ⟨go, 0, none⟩) N c) → W'.cell? ⟨Bs, 0, none⟩ = some (.slice (some ⟨go, 0, none⟩) N c)
  row : ∀ j, j < N → W.cell? ⟨go, j, none⟩ = some (.int .i64 (Z j)) → W'.cell? ⟨go, j, none⟩ = some (.int .i64 (Z j))
theorem KeptC.refl (Bs go N c : Nat) (Z : Nat → Int) (W : World) : KeptC Bs go N c Z W W := ⟨fun h => h, fun _ _ h => h⟩
theorem KeptC.trans {Bs go N c : Nat} {Z : Nat → Int} {X Y T : World} (h : KeptC Bs go N c Z X Y) (k : KeptC Bs go N c Z Y T) : KeptC Bs go N c Z X T := ⟨fun x => k.box (h.box x), fun j hj x => k.row j hj (h.row j hj x)⟩
theorem KeptC.putObj {Bs go N c B : Nat} {Z : Nat → Int} (W : World) (l : Nat) (o' : Obj) (h1 : Bs < B) (h2 : go < B) (hl : B ≤ l) : KeptC Bs go N c Z W (W.putObj l o') := by
  have hg := grownBy_putObj' W l o'
  have key : ∀ (b j : Nat) (u : Value), b < B → W.cell? ⟨b, j, none⟩ = some u → (W.putObj l o').cell? ⟨b, j, none⟩ = some u := fun b j u hb hc =>
    (World.cell?_of_block (w := W) (w' := W.putObj l o') (hg.block b (World.block_lt_of_cell? W _ hc) (fun e => by injection e with e; omega))).trans hc
  exact ⟨key _ _ _ h1, fun j _ => key _ _ _ h2⟩
set_option maxHeartbeats 4000000 in
theorem backC_in (n : Nat) (hn : 1 ≤ n) (l Bs go N c : Nat) (hN2 : N ≤ 100000) (Z : Nat → Int) (J Jx : List (Fin N) → World → Prop)
    (hY : ∀ pre (x : Fin N) W, J pre W → pre.length < N → YieldAt Fence.wide (n - 1) Try.prog l #[.int .i64 (x.1 : Int), .int .i64 (Z x.1)] W fun e W' =>
      (e = .returned (.bool true) ∧ J (pre ++ [x]) W' ∧ KeptC Bs go N c Z W W') ∨ (e = .returned (.bool false) ∧ Jx (pre ++ [x]) W'))
    (W : World) (hBs : W.cell? ⟨Bs, 0, none⟩ = some (.slice (some ⟨go, 0, none⟩) N c)) (hc : ∀ j, j < N → W.cell? ⟨go, j, none⟩ = some (.int .i64 (Z j))) (h0 : J [] W) :
    CallsIn Fence.wide n Try.prog 32 #[.func (.yield l) #[] #[], .pointer (some ⟨Bs, 0, none⟩)] W fun e W' => (∃ v, e = .returned v) ∧
      ((∃ ys, ys = bk N ∧ J ys W') ∨ (∃ pre, (∃ k, k ≤ N ∧ pre = (bk N).take k) ∧ Jx pre W')) := by
  refine callsIn_of_wp Try.func32 rfl trivial ?_ rfl
  simp only [Try.ntmps32, List.size_toArray, List.length_cons, List.length_nil, Nat.reduceAdd, Nat.reduceSub, Array.replicate_succ, Array.replicate_zero, List.push_toArray, List.append_toArray, List.nil_append, List.cons_append]
  have e1 : IntKind.i64.wrap ((N : Int) - 1) = (N : Int) - 1 := IntWalk.i64_in _ (by omega)
  gi_wp2
  gi_loopw [3] (fun i wr => ∃ k : Nat, k ≤ N ∧ i = .int .i64 ((N : Int) - 1 - k) ∧ J ((bk N).take k) wr ∧ KeptC Bs go N c Z W wr)
    (fun i _ => (intOf i + 1).toNat)
  case atStart => exact ⟨0, Nat.zero_le _, by simp, h0, KeptC.refl _ _ _ _ _ _⟩
  case round =>
    obtain ⟨k, hk, rfl, hJs, hnx⟩ := hrel
    by_cases hlt : k < N
    · obtain ⟨j, hj⟩ : ∃ j : Nat, j = N - 1 - k := ⟨_, rfl⟩
      have hj2 : (N : Int) - 1 - k = (j : Int) := by omega
      have hjN : j < N := by omega
      have hcx := hnx.row j hjN (hc j hjN)
      have hbx := hnx.box hBs
      have hdn : dnI hlt = ⟨j, hjN⟩ := by unfold dnI; simp [hj]
      obtain ⟨fn, tmps, assign, body, hy, hR⟩ := hY _ ⟨j, hjN⟩ wr hJs (by rw [take_len hk]; exact hlt)
      dsimp only at hy
      rw [hj2]
      have HJ := Lib.hid hj
      clear hj
      have e2 : IntKind.i64.wrap ((j : Int) - 1) = (j : Int) - 1 := IntWalk.i64_in _ (by omega)
      gi_wp2
      refine hR.mono ?_
      rintro e W3 (⟨rfl, hJ3, hk3⟩ | ⟨rfl, hJx3⟩)
      · gi_wp2
        go_roundw
        case rel => exact ⟨k + 1, by omega, by have := HJ.out; congr 1; try omega, by rw [bk_step hlt, hdn]; exact hJ3, hnx.trans hk3⟩
        case measure => have := HJ.out; simp [intOf]; try omega
      · gi_wp2
        refine bodyPost_ret (results_none rfl _ _ _) rfl ?_
        exact ⟨⟨_, rfl⟩, .inr ⟨_, ⟨k + 1, by omega, by rw [bk_step hlt, hdn]⟩, hJx3⟩⟩
    · obtain rfl : k = N := by omega
      have e3 : ¬ (0 : Int) ≤ (k : Int) - 1 - (k : Int) := by omega
      gi_wp2
      go_end0
      exact ⟨⟨_, rfl⟩, .inl (by rw [bk_all] at hJs; exact hJs)⟩
theorem backC_stops (n : Nat) (hn : 1 ≤ n) (Bs go N c : Nat) (hN2 : N ≤ 100000) (Z : Nat → Int) (w : World)
    (hBs : w.cell? ⟨Bs, 0, none⟩ = some (.slice (some ⟨go, 0, none⟩) N c)) (hc : ∀ j, j < N → w.cell? ⟨go, j, none⟩ = some (.int .i64 (Z j))) :
    SeqStopsK Fence.wide n Try.prog 32 #[.pointer (some ⟨Bs, 0, none⟩)] (fun x : Fin N => #[Value.int .i64 (x.1 : Int), Value.int .i64 (Z x.1)]) (KeptC Bs go N c Z) (fun ys => ys = bk N)
      (fun pre => ∃ k, k ≤ N ∧ pre = (bk N).take k) N w := fun l J Jx W hW _ _ hY h0 =>
  backC_in n hn l Bs go N c hN2 Z J Jx hY W ((hW.cell (p := ⟨Bs, 0, none⟩) (World.block_lt_of_cell? w _ hBs)).trans hBs) (fun j hj => (hW.cell (p := ⟨go, j, none⟩) (World.block_lt_of_cell? w _ (hc j hj))).trans (hc j hj)) h0
end Go.Proofs.Ytgdfjblfpeedjaa
