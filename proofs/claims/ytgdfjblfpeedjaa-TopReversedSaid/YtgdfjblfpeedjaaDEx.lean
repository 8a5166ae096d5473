/- How spreads are made. -/
import Derived.Test.YtgdfjblfpeedjaaDEw
import Derived.Test.YtgdfjblfpeedjaaDDq
namespace Go.Proofs.Ytgdfjblfpeedjaa
open Go.RowKit
set_option linter.unusedVariables false
set_option linter.unusedSimpArgs false
set_option maxRecDepth 100000

open Go.Shelf
attribute [local go_sem] Oper.semAt_some
theorem spr_info : (Try.prog.info? 60).map (fun i => (i.zero, i.size, i.bytes)) = some (some (.agg #[.int .i64 0, .slice none 0 0]), 2, 32) := by kernel_rfl
theorem spP_rep (n : Nat) : spP (List.replicate n 0) (List.replicate n (none, 0)) (List.replicate n []) = List.replicate n ((0 : Int), (.slice none 0 0 : Value)) := by
  unfold spP
  rw [zip_rep, zip_rep]; rfl
theorem made_sprs (n : Nat) : madeCells (Value.cells (.agg #[.int .i64 0, .slice none 0 0])) (n * 2) = (spC (List.replicate n ((0 : Int), (.slice none 0 0 : Value)))).toArray := by
  apply Array.ext
  · rw [size_madeCells]; simp [spC_len]
  · intro i h1 h2
    have hn : i / 2 < n := by rw [size_madeCells] at h1; omega
    have h3 := @spC_at (List.replicate n ((0 : Int), (.slice none 0 0 : Value))) (i / 2) (0, .slice none 0 0) (by rw [List.getElem?_replicate, if_pos hn])
    have h5 : (spC (List.replicate n ((0 : Int), (.slice none 0 0 : Value))))[i]? = some (if i % 2 = 0 then .int .i64 0 else .slice none 0 0) := by
      by_cases e : i % 2 = 0
      · rw [if_pos e]
        have := h3.1
        rwa [show i / 2 * 2 = i by omega] at this
      · rw [if_neg e]
        have := h3.2
        rwa [show i / 2 * 2 + 1 = i by omega] at this
    have h6 : (spC (List.replicate n ((0 : Int), (.slice none 0 0 : Value)))).toArray[i] = (if i % 2 = 0 then .int .i64 0 else .slice none 0 0) := by
      have h7 := List.getElem?_eq_getElem (l := spC (List.replicate n ((0 : Int), (.slice none 0 0 : Value)))) (i := i) (by simpa using h2)
      rw [h5] at h7
      injection h7 with h7
      rw [List.getElem_toArray]; exact h7.symm
    rw [h6]
    simp only [madeCells, Array.getElem_map, Array.getElem_range]
    show (#[Value.int .i64 0, .slice none 0 0] : Array Value)[i % 2]! = _
    rcases (show i % 2 = 0 ∨ i % 2 = 1 by omega) with h | h <;> rw [h] <;> rfl
theorem make_sprs (N : Int) (n : Nat) (h : N = (n : Int)) (hn : n ≤ 1000000) (w : World) :
    (Instr.makeSlice 58 (.int .i64 N) (.int .i64 N)).run Try.prog w = .ok (.slice (some ⟨w.heap.size, 0, none⟩) n n) (w.alloc (.cells (spC (List.replicate n ((0 : Int), (.slice none 0 0 : Value)))).toArray 60)) := by
  obtain ⟨i0, hi, hz0, hz1, hz2⟩ := info_parts spr_info
  have := run_make (P := Try.prog) w 58 60 i0 (.agg #[.int .i64 0, .slice none 0 0]) Try.underlying58 hi hz0 .i64 .i64 N N (by omega) (Int.le_refl _) (by rw [hz2]; omega) (by omega)
  rw [this, hz1, h]
  simp only [Int.toNat_natCast]
  rw [made_sprs]
theorem Hp.made_sprs {W w : World} {l : List Itm} (h : Hp W l w) (n : Nat) (hn : n ≤ 1000000) {ZC : Array Value} (hz : ZC = (spC (List.replicate n ((0 : Int), (.slice none 0 0 : Value)))).toArray) : Hp W (spr w.heap.size n (List.replicate n 0) (List.replicate n (none, 0)) (List.replicate n []) :: l) (w.alloc (.cells ZC 60)) := by
  rw [hz]
  have := h.lit 60 2 n (spC (List.replicate n ((0 : Int), (.slice none 0 0 : Value)))) (by rw [spC_len, List.length_replicate]) hn
  unfold spr
  rw [spP_rep]
  exact this
theorem spP_low {lo : List Int} {vs : List (Option Addr × Nat)} {U : List (List Int)} {q : Nat} {x : Int} {v : Option Addr × Nat} {row : List Int} (hv : vs[q]? = some v) (hr : U[q]? = some row) : (spP lo vs U).set q (x, slU v row) = spP (lo.set q x) vs U := by
  unfold spP
  have h := zip_set (fun (x : Int) (v : Value) => (x, v)) x (slU v row) q lo (List.zipWith slU vs U)
  rw [h, set_same (L := List.zipWith slU vs U) (q := q) (x := slU v row) (by rw [List.getElem?_zipWith, hv, hr])]
theorem Hp.spr_low {W w : World} {l : List Itm} {i g N q : Nat} {lo : List Int} {vs : List (Option Addr × Nat)} {U : List (List Int)} {x : Int} {v : Option Addr × Nat} {row : List Int} (h : Hp W l w) (hi : l[i]? = some (spr g N lo vs U)) (hx : lo[q]? = some x) (hv : vs[q]? = some v) (hr : U[q]? = some row) (y : Int) :
    Hp W (l.set i (spr g N (lo.set q y) vs U)) (w.setCell ⟨g, q * 2, none⟩ (.int .i64 y)) := by
  have := h.store hi (g := g) (cap := N) rfl (q * 2) (.int .i64 y)
  unfold spr at this ⊢
  dsimp only at this
  rw [spC_set0 _ q _ _ (spP_at hx hv hr), spP_low hv hr] at this
  exact this
theorem Hp.unils {W w : World} {l : List Itm} (h : Hp W l w) : ∀ N, Hp W (l ++ List.replicate N (unums none 0 0 [])) w
  | 0 => by simpa using h
  | N + 1 => by
    rw [List.replicate_succ', ← List.append_assoc]
    exact (h.unils N).nil_end (unums none 0 0 []) rfl rfl rfl
theorem rep_last {α : Type} (x y : α) : ∀ N, 1 ≤ N → (List.replicate N y).set (N - 1) x = List.replicate (N - 1) y ++ [x]
  | N + 1, _ => by
    rw [Nat.add_sub_cancel, List.replicate_succ', List.set_append_right _ _ (by rw [List.length_replicate]; exact Nat.le_refl _), List.length_replicate, Nat.sub_self]; rfl
/-- The rows at the start: the end's, and none of all others. -/
theorem Hp.rows_one {W w : World} {l : List Itm} {gu N : Nat} (h : Hp W (unums (some ⟨gu, 0, none⟩) 1 1 [1] :: l) w) (hN : 1 ≤ N) : Hp W (l ++ urows ((List.replicate N (none, 0)).set (N - 1) (some ⟨gu, 0, none⟩, 1)) ((List.replicate N []).set (N - 1) [1])) w := by
  rw [← urows_set]
  unfold urows
  rw [zip_rep]
  show Hp W (l ++ (List.replicate N (unums none 0 0 [])).set (N - 1) (unums (some ⟨gu, 0, none⟩) 1 1 [1])) w
  rw [rep_last _ _ N hN, ← List.append_assoc]
  have h2 := h.unils (N - 1)
  have h3 := Hp.sink (l := l ++ List.replicate (N - 1) (unums none 0 0 [])) (l2 := []) (x := unums (some ⟨gu, 0, none⟩) 1 1 [1]) (by rw [List.append_nil]; exact h2)
  exact h3
theorem Hp.swap01 {W w : World} {a b : Itm} {l : List Itm} (h : Hp W (a :: b :: l) w) : Hp W (b :: a :: l) w := h.sub (fun i => if i = 0 then 1 else if i = 1 then 0 else i) (fun i j e => by
  split at e <;> split at e <;> (try split at e) <;> (try split at e) <;> omega) (fun i it hi => by
  match i, hi with
  | 0, hi => exact hi
  | 1, hi => exact hi
  | i + 2, hi => exact hi)
theorem wN_none {g : Gr} (hO : g.Ok) (hw : g.wy 0 = 0) (m : Int) : g.wN m = 0 := by
  have w1 := wy_len hO (q := 0) (Int.le_refl 0) (by have := hO.n1; omega)
  have hc : (4611686018427387905 : Int) = capM := rfl
  have e : g.pv 0 = [] := List.eq_nil_of_length_eq_zero (by rw [hw] at w1; have := hc; omega)
  unfold Gr.wN Gr.cs
  rw [e]; rfl
end Go.Proofs.Ytgdfjblfpeedjaa
