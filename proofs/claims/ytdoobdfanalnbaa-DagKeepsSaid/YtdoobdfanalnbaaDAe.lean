/- Plain mathematics: the ways from a node, arc by arc. Nothing here speaks of the program. -/
import Derived.Test.YtdoobdfanalnbaaDAc
namespace Go.Proofs.Ytdoobdfanalnbaa
set_option linter.unusedVariables false
set_option linter.unusedSimpArgs false

/-- The ways that have been found when k arcs have been seen. -/
def fromL (g : Gr) (q : Int) (k : Nat) : List (List Int) := ((outI (g.rs.take k) q).filter fun i => !wayB g i).flatMap fun i => (g.pv (arc g.rs i).t).map (i :: ·)
theorem fromL_zero (g : Gr) (q : Int) : fromL g q 0 = [] := rfl
theorem fromL_skip {g : Gr} {q : Int} {k : Nat} {a : Ar} (ha : g.rs[k]? = some a) (h : ¬ a.f = q ∨ g.wy a.t = 0) : fromL g q (k + 1) = fromL g q k := by
  have hk := (List.getElem?_eq_some_iff.1 ha).1
  have hae : arc g.rs (k : Int) = a := by have := arc_get hk; rw [ha] at this; injection this with this; exact this.symm
  unfold fromL
  rw [outI_take ha]
  by_cases e : a.f = q
  · rw [if_pos e, List.filter_append]
    have hw : wayB g (k : Int) = true := by unfold wayB; rw [hae]; exact decide_eq_true (h.resolve_left (fun h => h e))
    rw [show [(k : Int)].filter (fun i => !wayB g i) = [] by rw [List.filter_cons, hw]; rfl, List.append_nil]
  · rw [if_neg e, List.append_nil]
theorem fromL_take {g : Gr} {q : Int} {k : Nat} {a : Ar} (ha : g.rs[k]? = some a) (h : a.f = q) (h2 : ¬ g.wy a.t = 0) : fromL g q (k + 1) = fromL g q k ++ (g.pv a.t).map ((k : Int) :: ·) := by
  have hk := (List.getElem?_eq_some_iff.1 ha).1
  have hae : arc g.rs (k : Int) = a := by have := arc_get hk; rw [ha] at this; injection this with this; exact this.symm
  unfold fromL
  rw [outI_take ha, if_pos h, List.filter_append, List.flatMap_append]
  congr 1
  have hw : wayB g (k : Int) = false := by unfold wayB; rw [hae]; exact decide_eq_false h2
  rw [show [(k : Int)].filter (fun i => !wayB g i) = [(k : Int)] by rw [List.filter_cons, hw]; rfl]
  rw [List.flatMap_cons, List.flatMap_nil, List.append_nil, hae]
theorem fromL_all {g : Gr} (h : g.Ok) {q : Int} (h0 : 0 ≤ q) (h1 : q < g.n - 1) : fromL g q g.rs.length = g.pv q := by
  unfold fromL; rw [List.take_length, pv_outF h h0 h1]; rfl
theorem fromL_le {g : Gr} (h : g.Ok) {q : Int} (h0 : 0 ≤ q) (h1 : q < g.n - 1) (k : Nat) : (fromL g q k).length ≤ (g.pv q).length := by
  have hmono : ∀ d, k + d ≤ g.rs.length → (fromL g q k).length ≤ (fromL g q (k + d)).length := by
    intro d
    induction d with
    | zero => intro _; exact Nat.le_refl _
    | succ d ih =>
      intro hd
      refine Nat.le_trans (ih (by omega)) ?_
      have ha : g.rs[k + d]? = some g.rs[k + d] := List.getElem?_eq_getElem (by omega)
      by_cases e : ¬ (g.rs[k + d]).f = q ∨ g.wy (g.rs[k + d]).t = 0
      · rw [← Nat.add_assoc, fromL_skip ha e]; exact Nat.le_refl _
      · rw [← Nat.add_assoc, fromL_take ha (Classical.not_not.1 (fun x => e (.inl x))) (fun x => e (.inr x)), List.length_append]; omega
  by_cases hk : k ≤ g.rs.length
  · have := hmono (g.rs.length - k) (by omega)
    rwa [show k + (g.rs.length - k) = g.rs.length by omega, fromL_all h h0 h1] at this
  · have : fromL g q k = g.pv q := by
      rw [← fromL_all h h0 h1]; unfold fromL
      rw [List.take_of_length_le (by omega), List.take_length]
    rw [this]; exact Nat.le_refl _
theorem pv_short {g : Gr} (h : g.Ok) {q : Int} (h0 : 0 ≤ q) (h1 : q < g.n) {p : List Int} (hp : p ∈ g.pv q) : p.length ≤ 2000 := by
  have h2 := walkP_range h h0 h1 ((pv_iff h p q h0 h1).1 hp)
  have := h.n2
  omega
theorem take_map_step {l : List (List Int)} {k : Nat} {x : List Int} (i : Int) (hx : l[k]? = some x) : (l.take (k + 1)).map (i :: ·) = (l.take k).map (i :: ·) ++ [i :: x] := by
  rw [List.take_add_one, hx, List.map_append]; rfl
end Go.Proofs.Ytdoobdfanalnbaa
