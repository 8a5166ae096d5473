/- Contract of the reference: a graph trimmed. -/
import Derived.Test.YtgdfjblfpeedjaaDCX
import Derived.Test.YtgdfjblfpeedjaaDDf
import Derived.Test.YtgdfjblfpeedjaaDCm
import Derived.Test.YtgdfjblfpeedjaaDAX
import Derived.Deep.RegionLaw
namespace Go.Proofs.Ytgdfjblfpeedjaa
open Go.RowKit
set_option linter.unusedVariables false
set_option linter.unusedSimpArgs false
set_option maxRecDepth 100000

/-- New names, half given. -/
def nmK (g : Gr) (k : Nat) : List Int := (List.range g.n.toNat).map fun j : Nat => if j < k then (if g.kp.getD j false = true then (g.rk j : Int) else -1) else 0
theorem nmK_len (g : Gr) (k : Nat) : (nmK g k).length = g.n.toNat := by simp [nmK]
theorem nmK_get {g : Gr} {k j : Nat} (hj : j < g.n.toNat) : (nmK g k)[j]? = some (if j < k then (if g.kp.getD j false = true then (g.rk j : Int) else -1) else 0) := by
  unfold nmK
  rw [List.getElem?_map, List.getElem?_range hj]; rfl
theorem nmK_zero (g : Gr) : nmK g 0 = List.replicate g.n.toNat 0 := by
  apply List.ext_getElem?
  intro j
  by_cases hj : j < g.n.toNat
  · rw [nmK_get hj, if_neg (by omega), List.getElem?_replicate, if_pos hj]
  · rw [List.getElem?_eq_none (by rw [nmK_len]; omega), List.getElem?_eq_none (by simp; omega)]
theorem nmK_step {g : Gr} {k : Nat} (hk : k < g.n.toNat) : (nmK g k).set k (if g.kp.getD k false = true then (g.rk k : Int) else -1) = nmK g (k + 1) := by
  apply List.ext_getElem?
  intro j
  by_cases hj : j < g.n.toNat
  · rw [nmK_get hj, List.getElem?_set]
    by_cases e : k = j
    · subst e
      rw [if_pos rfl, if_pos (by rw [nmK_len]; exact hk), if_pos (show k < k + 1 by omega)]
    · rw [if_neg e, nmK_get hj]
      by_cases h2 : j < k
      · rw [if_pos h2, if_pos (show j < k + 1 by omega)]
      · rw [if_neg h2, if_neg (show ¬ j < k + 1 by omega)]
  · rw [List.getElem?_eq_none (by rw [List.length_set, nmK_len]; omega), List.getElem?_eq_none (by rw [nmK_len]; omega)]
theorem kp_bool {g : Gr} {k : Nat} {x : Bool} (hx : g.kp[k]? = some x) : g.kp.getD k false = x := by rw [List.getD_eq_getElem?_getD, hx]; rfl
theorem nmK_no {g : Gr} {k : Nat} (hk : k < g.n.toNat) (hx : g.kp[k]? = some false) : (nmK g k).set k (-1) = nmK g (k + 1) := by
  rw [← nmK_step hk, kp_bool hx]; rfl
theorem nmK_yes {g : Gr} {k : Nat} (hk : k < g.n.toNat) (hx : g.kp[k]? = some true) : ((nmK g k).set k (-1)).set k (g.rk k : Int) = nmK g (k + 1) := by
  rw [List.set_set, ← nmK_step hk, kp_bool hx]; rfl
theorem rk_bd {g : Gr} (j : Nat) : g.rk j ≤ j := by
  unfold Gr.rk
  have := memL_len (g.kp.take j)
  rw [List.length_take] at this
  omega
/-- The arcs kept of the first so many. -/
def taK (g : Gr) (i : Nat) : List Ar := ((g.rs.take i).filter g.tk).map g.ta
theorem taK_step {g : Gr} {i : Nat} {a : Ar} (ha : g.rs[i]? = some a) : taK g (i + 1) = taK g i ++ (if g.tk a = true then [g.ta a] else []) := by
  unfold taK
  rw [List.take_add_one, ha, List.filter_append, List.map_append]
  congr 1
  cases h : g.tk a with
  | true => simp [h]
  | false => simp [h]
theorem taK_len (g : Gr) (i : Nat) : (taK g i).length ≤ g.rs.length := by
  unfold taK
  rw [List.length_map]
  refine Nat.le_trans (List.length_filter_le _ _) ?_
  rw [List.length_take]
  exact Nat.min_le_right _ _
theorem tn_len (g : Gr) : g.tn.length ≤ g.n.toNat := by
  have := memL_len g.kp
  rw [kp_len] at this
  exact this
theorem Hp.num_get {W w : World} {l : List Itm} {i g n c : Nat} {L : List Int} (h : Hp W l w) (hi : l[i]? = some (nums (some ⟨g, 0, none⟩) n c L)) {j : Nat} {x : Int} (hj : L[j]? = some x) :
    w.cell? ⟨g, j, none⟩ = some (.int .i64 x) ∧ w.frozen? ⟨g, j, none⟩ = false ∧ g < w.heap.size := h.cell hi (cap := c) rfl (by show (ints L)[j]? = _; unfold ints; rw [List.getElem?_map, hj]; rfl)
/-- What Trim returns. -/
def TrimPost (g : Gr) (w : World) (e : Ending) (w' : World) : Prop := ∃ (C : Option Addr) (m d : Nat) (B : Option Addr) (bn bc : Nat), e = .returned (.tuple #[.agg #[.int .i64 g.tr.1.n, .slice C m d], .slice B bn bc, .int .i64 g.tr.2.2]) ∧ g.tr.1.rs.length = m ∧ g.tr.2.1.length = bn ∧ Hp w [arow C m d g.tr.1.rs, nums B bn bc g.tr.2.1] w'
theorem trim_no {g : Gr} {w w' : World} {x : Int} (h : Below w.heap.size w w') (he : g.tr = (⟨0, []⟩, [], x)) : TrimPost g w (.returned (.tuple #[.agg #[.int .i64 0, .slice none 0 0], .slice none 0 0, .int .i64 x])) w' := by
  refine ⟨none, 0, 0, none, 0, 0, by rw [he], by rw [he]; rfl, by rw [he]; rfl, ?_⟩
  rw [he]
  exact (((Hp.start w).go h).nil_row (nums none 0 0 []) rfl rfl rfl).nil_row (arow none 0 0 []) rfl rfl rfl
end Go.Proofs.Ytgdfjblfpeedjaa
