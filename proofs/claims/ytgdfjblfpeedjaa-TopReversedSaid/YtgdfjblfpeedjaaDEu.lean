/- The memory of spreads. -/
import Derived.Test.YtgdfjblfpeedjaaDEt
import Derived.Test.YtgdfjblfpeedjaaDCi
import Derived.Test.YtgdfjblfpeedjaaDAX
namespace Go.Proofs.Ytgdfjblfpeedjaa
open Go.RowKit
set_option linter.unusedVariables false
set_option linter.unusedSimpArgs false
set_option maxRecDepth 100000

/-! ### Spreads and their rows -/
abbrev slU (v : Option Addr × Nat) (U : List Int) : Value := .slice v.1 U.length v.2
def spC : List (Int × Value) → List Value
  | [] => []
  | p :: r => .int .i64 p.1 :: p.2 :: spC r
def spP (lo : List Int) (vs : List (Option Addr × Nat)) (U : List (List Int)) : List (Int × Value) := List.zipWith (fun (x : Int) (v : Value) => (x, v)) lo (List.zipWith slU vs U)
theorem spC_len : ∀ L : List (Int × Value), (spC L).length = L.length * 2
  | [] => rfl
  | p :: r => by show (spC r).length + 2 = _; rw [spC_len r, List.length_cons]; omega
theorem spC_at : ∀ {L : List (Int × Value)} {j : Nat} {p : Int × Value}, L[j]? = some p → (spC L)[j * 2]? = some (.int .i64 p.1) ∧ (spC L)[j * 2 + 1]? = some p.2
  | [], j, p, h => by simp at h
  | q :: r, 0, p, h => by
    have e : q = p := by simpa using h
    subst e; exact ⟨rfl, rfl⟩
  | q :: r, j + 1, p, h => by
    have ih := @spC_at r j p (by simpa using h)
    rw [show (j + 1) * 2 = j * 2 + 1 + 1 by omega, show j * 2 + 1 + 1 + 1 = (j * 2 + 1) + 1 + 1 by omega]
    exact ih
theorem spC_set0 : ∀ (L : List (Int × Value)) (j : Nat) (p : Int × Value) (x : Int), L[j]? = some p → (spC L).set (j * 2) (.int .i64 x) = spC (L.set j (x, p.2))
  | [], j, p, x, h => by simp at h
  | q :: r, 0, p, x, h => by
    have e : q = p := by simpa using h
    subst e; rfl
  | q :: r, j + 1, p, x, h => by
    have ih := spC_set0 r j p x (by simpa using h)
    rw [show (j + 1) * 2 = j * 2 + 1 + 1 by omega]
    show _ :: _ :: (spC r).set (j * 2) _ = _
    rw [ih]; rfl
theorem spC_set1 : ∀ (L : List (Int × Value)) (j : Nat) (p : Int × Value) (v : Value), L[j]? = some p → (spC L).set (j * 2 + 1) v = spC (L.set j (p.1, v))
  | [], j, p, x, h => by simp at h
  | q :: r, 0, p, x, h => by
    have e : q = p := by simpa using h
    subst e; rfl
  | q :: r, j + 1, p, x, h => by
    have ih := spC_set1 r j p x (by simpa using h)
    rw [show (j + 1) * 2 + 1 = j * 2 + 1 + 1 + 1 by omega]
    show _ :: _ :: (spC r).set (j * 2 + 1) _ = _
    rw [ih]; rfl
/-- The row of spreads. -/
def spr (g N : Nat) (lo : List Int) (vs : List (Option Addr × Nat)) (U : List (List Int)) : Itm := ⟨60, 2, .slice (some ⟨g, 0, none⟩) N N, N, spC (spP lo vs U)⟩
/-- The rows of their ways. -/
def urows (vs : List (Option Addr × Nat)) (U : List (List Int)) : List Itm := List.zipWith (fun v row => unums v.1 row.length v.2 row) vs U
theorem urows_get {vs : List (Option Addr × Nat)} {U : List (List Int)} {q : Nat} {v : Option Addr × Nat} {row : List Int} (hv : vs[q]? = some v) (hr : U[q]? = some row) : (urows vs U)[q]? = some (unums v.1 row.length v.2 row) := by
  unfold urows; rw [List.getElem?_zipWith, hv, hr]
theorem urows_set (vs : List (Option Addr × Nat)) (U : List (List Int)) (q : Nat) (A : Option Addr) (c : Nat) (row : List Int) : (urows vs U).set q (unums A row.length c row) = urows (vs.set q (A, c)) (U.set q row) := zip_set _ (A, c) row q vs U
theorem row_in {pre : List Itm} {vs : List (Option Addr × Nat)} {U : List (List Int)} {q : Nat} {v : Option Addr × Nat} {row : List Int} (hv : vs[q]? = some v) (hr : U[q]? = some row) : (pre ++ urows vs U)[pre.length + q]? = some (unums v.1 row.length v.2 row) := by
  rw [List.getElem?_append_right (by omega), Nat.add_sub_cancel_left]; exact urows_get hv hr
theorem spP_at {lo : List Int} {vs : List (Option Addr × Nat)} {U : List (List Int)} {q : Nat} {x : Int} {v : Option Addr × Nat} {row : List Int} (hx : lo[q]? = some x) (hv : vs[q]? = some v) (hr : U[q]? = some row) : (spP lo vs U)[q]? = some (x, slU v row) := by
  unfold spP; rw [List.getElem?_zipWith, hx, List.getElem?_zipWith, hv, hr]
theorem set_same {α : Type} {L : List α} {q : Nat} {x : α} (h : L[q]? = some x) : L.set q x = L := by
  refine List.ext_getElem? fun j => ?_
  rw [List.getElem?_set]
  by_cases e : q = j
  · subst e
    rw [if_pos rfl, if_pos (List.getElem?_eq_some_iff.1 h).1, h]
  · rw [if_neg e]
theorem spP_set {lo : List Int} {vs : List (Option Addr × Nat)} {U : List (List Int)} {q : Nat} {x : Int} (hx : lo[q]? = some x) (v : Option Addr × Nat) (row : List Int) : (spP lo vs U).set q (x, slU v row) = spP lo (vs.set q v) (U.set q row) := by
  unfold spP
  rw [zip_set, zip_set, set_same hx]
/-- Only the lengths of the rows stand in the row of spreads. -/
theorem spP_len {lo : List Int} {vs : List (Option Addr × Nat)} {U : List (List Int)} {q : Nat} {row row2 : List Int} (hr : U[q]? = some row) (hl : row2.length = row.length) : spP lo vs (U.set q row2) = spP lo vs U := by
  unfold spP
  congr 1
  refine List.ext_getElem? fun j => ?_
  rw [List.getElem?_zipWith, List.getElem?_zipWith, List.getElem?_set]
  by_cases e : q = j
  · subst e
    rw [if_pos rfl, if_pos (List.getElem?_eq_some_iff.1 hr).1, hr]
    cases vs[q]? with
    | none => rfl
    | some v => show some (Value.slice v.1 row2.length v.2) = some (Value.slice v.1 row.length v.2); rw [hl]
  · rw [if_neg e]
theorem Hp.spr_at {W w : World} {l : List Itm} {i g N q : Nat} {lo : List Int} {vs : List (Option Addr × Nat)} {U : List (List Int)} {x : Int} {v : Option Addr × Nat} {row : List Int} (h : Hp W l w) (hi : l[i]? = some (spr g N lo vs U)) (hx : lo[q]? = some x) (hv : vs[q]? = some v) (hr : U[q]? = some row) :
    w.cell? ⟨g, q * 2, none⟩ = some (.int .i64 x) ∧ w.cell? ⟨g, q * 2 + 1, none⟩ = some (.slice v.1 row.length v.2) ∧ w.frozen? ⟨g, q * 2, none⟩ = false ∧ w.frozen? ⟨g, q * 2 + 1, none⟩ = false ∧ g < w.heap.size := by
  have h0 := h.cell hi (g := g) (cap := N) rfl (spC_at (spP_at hx hv hr)).1
  have h1 := h.cell hi (g := g) (cap := N) rfl (spC_at (spP_at hx hv hr)).2
  exact ⟨h0.1, h1.1, h0.2.1, h1.2.1, h1.2.2⟩
theorem Hp.spr_set {W w : World} {l : List Itm} {i g N q : Nat} {lo : List Int} {vs : List (Option Addr × Nat)} {U : List (List Int)} {x : Int} {v0 : Option Addr × Nat} {row0 : List Int} (h : Hp W l w) (hi : l[i]? = some (spr g N lo vs U)) (hx : lo[q]? = some x) (hv : vs[q]? = some v0) (hr : U[q]? = some row0) (v : Option Addr × Nat) (row : List Int) :
    Hp W (l.set i (spr g N lo (vs.set q v) (U.set q row))) (w.setCell ⟨g, q * 2 + 1, none⟩ (.slice v.1 row.length v.2)) := by
  have := h.store hi (g := g) (cap := N) rfl (q * 2 + 1) (slU v row)
  unfold spr at this ⊢
  dsimp only at this
  rw [spC_set1 _ q _ _ (spP_at hx hv hr), spP_set hx] at this
  exact this
end Go.Proofs.Ytgdfjblfpeedjaa
