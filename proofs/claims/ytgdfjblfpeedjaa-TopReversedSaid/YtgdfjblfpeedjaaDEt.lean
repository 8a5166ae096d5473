/- Spreads in memory: the row of spreads, the rows of their ways, and an append of zeros. -/
import Derived.Test.YtgdfjblfpeedjaaDCg
import Derived.Lib.AppendZerosOnto
namespace Go.Proofs.Ytgdfjblfpeedjaa
open Go.RowKit
set_option linter.unusedVariables false
set_option linter.unusedSimpArgs false
set_option maxRecDepth 100000

theorem zeros_u64 (k : Nat) : Builtin.zeroCells ((.int .u64 0 : Value).cells) k = (List.replicate k (.int .u64 0 : Value)).toArray := by
  refine Array.ext (by simp [Builtin.zeroCells, Value.cells]) fun i h1 h2 => ?_
  simp [Builtin.zeroCells, Value.cells, Nat.mod_one]
theorem uints_zeros (U : List Int) (k : Nat) : uints (U ++ List.replicate k 0) = uints U ++ List.replicate k (.int .u64 0 : Value) := by
  unfold uints
  rw [List.map_append, List.map_replicate]
/-- A row of numbers grows by zeros. -/
theorem run_zeros {W w : World} {l : List Itm} {i : Nat} {A : Option Addr} {n c : Nat} {U : List Int} (h : Hp W l w) (hi : l[i]? = some (unums A n c U)) (ty : TypeId) (k : Nat) (h0 : 0 < k) (hn : n + k ≤ 1000000) :
    ∃ g cap w', (Builtin.append_ #[54, 3] ty #[.slice A n c, .int .i64 k]).run Try.prog w = .ok (.slice (some ⟨g, 0, none⟩) (n + k) cap) w' ∧
      Hp W (l.set i (unums (some ⟨g, 0, none⟩) (n + k) cap (U ++ List.replicate k 0))) w' ∧ w.grownBy w' (Value.slice A n c).ownBlock := by
  obtain ⟨i0, hi0, hz0, hz1, hz2⟩ := info_parts uint_info
  have hown := h.own i _ hi
  have hown : w.ownsRow W.heap.size 47 1 (.slice A n c) n (uints U) := hown
  have hlen : (uints U ++ List.replicate k (.int .u64 0 : Value)).length = n + k := by rw [List.length_append, List.length_replicate, hown.1, Nat.mul_one]
  have key : ∀ (g cap : Nat) (w' : World), (Builtin.append_ #[54, 3] ty #[.slice A n c, .int .i64 k]).run Try.prog w = .ok (.slice (some ⟨g, 0, none⟩) (n + k) cap) w' →
      w'.ownsRow W.heap.size 47 1 (.slice (some ⟨g, 0, none⟩) (n + k) cap) (n + k) (uints U ++ List.replicate k (.int .u64 0 : Value)) → w.grownBy w' (Value.slice A n c).ownBlock → ((Value.slice A n c).ownBlock = some g ∨ w.heap.size ≤ g) →
      ∃ g cap w', (Builtin.append_ #[54, 3] ty #[.slice A n c, .int .i64 k]).run Try.prog w = .ok (.slice (some ⟨g, 0, none⟩) (n + k) cap) w' ∧
        Hp W (l.set i (unums (some ⟨g, 0, none⟩) (n + k) cap (U ++ List.replicate k 0))) w' ∧ w.grownBy w' (Value.slice A n c).ownBlock := by
    intro g cap w' hr ho hg hat
    refine ⟨g, cap, w', hr, ?_, hg⟩
    have := h.upd (w' := w') hi (unums (some ⟨g, 0, none⟩) (n + k) cap (U ++ List.replicate k 0)) hg (by unfold unums; rw [uints_zeros]; exact ho) (fun q hq => by
      simp [unums, Value.ownBlock] at hq
      subst hq
      rcases hat with e | e
      · exact .inl e
      · exact .inr e)
    exact this
  have grown : ∀ (old : Nat), old < n + k →
      (w.drew.alloc (.cells ((uints U).toArray ++ Builtin.zeroCells ((.int .u64 0 : Value).cells) k ++ Builtin.zeroCells ((.int .u64 0 : Value).cells) (grownCap w (n + k) old 47 - (n + k))) 47)).ownsRow W.heap.size 47 1
        (.slice (some ⟨w.heap.size, 0, none⟩) (n + k) (grownCap w (n + k) old 47)) (n + k) (uints U ++ List.replicate k (.int .u64 0 : Value)) ∧
      ∀ row, w.grownBy (w.drew.alloc (.cells ((uints U).toArray ++ Builtin.zeroCells ((.int .u64 0 : Value).cells) k ++ Builtin.zeroCells ((.int .u64 0 : Value).cells) (grownCap w (n + k) old 47 - (n + k))) 47)) row := by
    intro old ho
    have hge := grownCap_ge w (n + k) old 47
    have hcm : grownCap w (n + k) old 47 ≤ maxLen := grownCap_le_maxLen w (n + k) old 47 (by unfold maxLen; omega)
    refine ⟨⟨by rw [hlen, Nat.mul_one], .inr ⟨w.heap.size, _, _, rfl, h.below.size, heap_alloc_new w.drew _, hge, hcm, ?_, ?_⟩⟩, fun row => ⟨rfl, rfl, rfl, by simp, fun q hq _ => heap_alloc_old w.drew _ hq⟩⟩
    · rw [zeros_u64, zeros_u64]
      have := hown.1
      simp only [Array.size_append, List.size_toArray, List.length_replicate]
      omega
    · rw [zeros_u64, zeros_u64]
      simp only [Array.toList_append, List.append_assoc]
      rw [← List.append_assoc, Nat.mul_one, ← hlen]
      exact List.take_left
  have hw : IntKind.i64.wrap (k : Int) = k := IntWalk.i64_in _ (by omega)
  have hk : k ≠ 0 := by omega
  have hneg : ¬ ((k : Int) < 0) := by omega
  have h48 : ¬ (281474976710656 < (k : Int) * (i0.bytes : Int)) := by rw [hz2]; omega
  rcases hown.2 with ⟨e, e2⟩ | ⟨g, cap, cur, e, hbg, hg, hnc, hcm, hcs, htake⟩
  · injection e with e1 e3 e4
    subst e1; subst e4; subst e2
    have hr := Lib.run_append_nil_zeros (P := Try.prog) w 54 3 ty 47 i0 (.int .u64 0) .i64 .i64 Try.underlying54 Try.underlying3 hi0 hz0 k h0 (by rw [hz1]; decide) (by omega) (by rw [hz2]; omega)
    have hU : uints U = [] := List.eq_nil_of_length_eq_zero (by have := hown.1; simpa using this)
    have hgr := grown 0 (by omega)
    rw [hU] at hgr
    simp only [Nat.zero_add] at hgr ⊢ key
    exact key _ _ _ hr (by rw [hU]; simpa using hgr.1) (by simpa using hgr.2 _) (.inr (Nat.le_refl _))
  · injection e with e1 e3 e4
    subst e1; subst e4
    by_cases hroom : n + k ≤ c
    · have hst := run_storeCells_at Try.prog g (n * 1) 47 (List.replicate k (.int .u64 0 : Value)) 0 cur w hg (by rw [List.length_replicate]; omega) (fun u hu => by rw [List.eq_of_mem_replicate hu]; rfl)
      simp only [Nat.add_zero] at hst
      have hr : (Builtin.append_ #[54, 3] ty #[.slice (some ⟨g, 0, none⟩) n c, .int .i64 k]).run Try.prog w = .ok (.slice (some ⟨g, 0, none⟩) (n + k) c) (w.setRow g (cur.toList.take (n * 1) ++ List.replicate k (.int .u64 0 : Value) ++ cur.toList.drop (n * 1 + (List.replicate k (.int .u64 0 : Value)).length)).toArray) := by
        have hns : ¬ (k * i0.size = 0) := by rw [hz1]; omega
        simp [Builtin.append_, run_underlying Try.underlying54, run_underlying Try.underlying3, sizeOf, typeInfo, zeroValue, hi0, hz0, hz1, asInt, asIntOf, hw, hroom, hneg, h48, hk, zeros_u64, Addr.add_lit]
        have h2 := hst
        simp at h2
        rw [h2]
        simp
      refine key _ _ _ hr ⟨by rw [hlen, Nat.mul_one], .inr ⟨g, c, _, rfl, hbg, setRow_heap w g cur _ 47 _ hg, hroom, hcm, ?_, ?_⟩⟩ ⟨rfl, rfl, rfl, by simp, fun q _ hq => setRow_other w g q _ (fun e => hq (by simp [Value.ownBlock, e]))⟩ (.inl rfl)
      · simp only [List.size_toArray, List.length_append, List.length_take, List.length_drop, Array.length_toList, List.length_replicate]
        omega
      · rw [htake, Nat.mul_one (n + k), ← hlen]
        exact List.take_left
    · have hold := run_firstCells_some (P := Try.prog) w.drew 1 n ⟨g, 0, none⟩ n c (uints U) hown.1 (fun j u hu => by
        have := hown.cells (g := g) rfl j u hu
        simpa using this)
      have hr := Lib.run_append_grow_zeros (P := Try.prog) w 54 3 ty 47 i0 (.int .u64 0) .i64 .i64 Try.underlying54 Try.underlying3 hi0 hz0 (some ⟨g, 0, none⟩) n c (uints U) (by rw [hz1]; exact hold) k h0 (by rw [hz1]; decide) (by omega) (by omega) (by rw [hz2]; omega) (by rw [hz2]; exact growslice_fits (by omega) (by omega))
      have hgr := grown c (by omega)
      exact key _ _ _ hr hgr.1 (hgr.2 _) (.inr (Nat.le_refl _))
end Go.Proofs.Ytgdfjblfpeedjaa
