/- Rows of numbers side by side: what make gives, a row that grows, a row that is set. -/
import Derived.Test.YtgdfjblfpeedjaaDBb
namespace Go.Proofs.Ytgdfjblfpeedjaa
open Go.RowKit
set_option linter.unusedVariables false
set_option linter.unusedSimpArgs false
set_option maxRecDepth 100000

/-- The values of a list of rows. -/
def rvals (A : Option Addr) (n c : Nat) (vs : List (Option Addr × Nat)) (rows : List (List Int)) : Itm := ⟨33, 1, .slice A n c, n, List.zipWith (fun v (row : List Int) => Value.slice v.1 row.length v.2) vs rows⟩
/-- The rows. -/
def rowsG (vs : List (Option Addr × Nat)) (rows : List (List Int)) : List Itm := List.zipWith (fun v row => nums v.1 row.length v.2 row) vs rows
theorem run_app_rv {W w : World} {l : List Itm} {i : Nat} {A : Option Addr} {n c : Nat} {vs : List (Option Addr × Nat)} {rows : List (List Int)} (h : Hp W l w) (hi : l[i]? = some (rvals A n c vs rows)) (hvs : vs.length = rows.length) (ty : TypeId) {b : Nat} (C : Option Addr) (ℓ d : Nat) (row : List Int) (hℓ : row.length = ℓ)
    (hb : w.cell? ⟨b, 0, none⟩ = some (.slice C ℓ d)) (hn : n ≤ 4000000000000) :
    ∃ g2 cap w', (Builtin.append_ #[69, 69] ty #[.slice A n c, .slice (some ⟨b, 0, none⟩) 1 1]).run Try.prog w = .ok (.slice (some ⟨g2, 0, none⟩) (n + 1) cap) w' ∧
      Hp W (l.set i (rvals (some ⟨g2, 0, none⟩) (n + 1) cap (vs ++ [(C, d)]) (rows ++ [row]))) w' ∧ w.grownBy w' (Value.slice A n c).ownBlock := by
  have := run_app h hi (t := 69) (ty := ty) Try.underlying69 row_info rfl (Nat.zero_lt_one) (by decide) (A := A) (c := c) rfl (b := b) [.slice C ℓ d] rfl (fun j u hu => by
    cases j with
    | zero => injection hu with hu; subst hu; exact hb
    | succ j => simp at hu) (fun u hu => by rw [List.mem_singleton.1 hu]; rfl) hn
  subst hℓ
  have e : List.zipWith (fun v (row : List Int) => Value.slice v.1 row.length v.2) (vs ++ [(C, d)]) (rows ++ [row]) = List.zipWith (fun v (row : List Int) => Value.slice v.1 row.length v.2) vs rows ++ [.slice C row.length d] := by rw [List.zipWith_append hvs]; rfl
  simpa [rvals, e] using this
theorem rowsG_snoc {vs : List (Option Addr × Nat)} {rows : List (List Int)} (C : Option Addr) (d : Nat) (row : List Int) (h : vs.length = rows.length) : rowsG (vs ++ [(C, d)]) (rows ++ [row]) = rowsG vs rows ++ [nums C row.length d row] := by
  unfold rowsG
  rw [List.zipWith_append h]; rfl
theorem rowsG_in {W w : World} {l : List Itm} {i n c : Nat} {vs : List (Option Addr × Nat)} {rows : List (List Int)} {A : Option Addr} (h : Hp W (l ++ rowsG vs rows) w) (hi : (l ++ rowsG vs rows)[i]? = some (rvals A n c vs rows)) (hl : vs.length = rows.length) (hb : ∀ row ∈ rows, row.length ≤ 17592186044416) : RowsIn w A rows := by
  intro h0
  have hc := h.cells hi (A := A) (c := c) rfl
  obtain ⟨b, off, e, hlt, hcell⟩ := hc (by show 0 < (List.zipWith _ vs rows).length; rw [List.length_zipWith]; omega)
  refine ⟨b, off, e, hlt, fun j row hr => ?_⟩
  have hj := (List.getElem?_eq_some_iff.1 hr).1
  obtain ⟨v, hv⟩ : ∃ v, vs[j]? = some v := ⟨_, List.getElem?_eq_getElem (by omega)⟩
  have hit : (l ++ rowsG vs rows)[l.length + j]? = some (nums v.1 row.length v.2 row) := by
    rw [List.getElem?_append_right (by omega), Nat.add_sub_cancel_left]
    unfold rowsG
    rw [List.getElem?_zipWith, hv, hr]
  have hcap := h.cap hit (A := v.1) (c := v.2) rfl
  refine ⟨v.1, v.2, hcell j _ ?_, hcap.1, hb row (List.mem_of_getElem? hr), h.cells hit rfl⟩
  show (List.zipWith _ vs rows)[j]? = _
  rw [List.getElem?_zipWith, hv, hr]
theorem row_doneG {W w : World} {l : List Itm} {C : Option Addr} {d : Nat} {vs : List (Option Addr × Nat)} {rows : List (List Int)} {row : List Int} (hl : vs.length = rows.length) (h : Hp W (nums C row.length d row :: (l ++ rowsG vs rows)) w) : Hp W (l ++ rowsG (vs ++ [(C, d)]) (rows ++ [row])) w := by
  rw [rowsG_snoc C d row hl, ← List.append_assoc]
  exact Hp.sink (l := l ++ rowsG vs rows) (l2 := []) (by rw [List.append_nil]; exact h)
theorem rowsG_get {vs : List (Option Addr × Nat)} {rows : List (List Int)} {q : Nat} {v : Option Addr × Nat} {row : List Int} (hv : vs[q]? = some v) (hr : rows[q]? = some row) : (rowsG vs rows)[q]? = some (nums v.1 row.length v.2 row) := by
  unfold rowsG; rw [List.getElem?_zipWith, hv, hr]
theorem zip_set {α β γ : Type} (f : α → β → γ) (a : α) (b : β) : ∀ (q : Nat) (xs : List α) (ys : List β), (List.zipWith f xs ys).set q (f a b) = List.zipWith f (xs.set q a) (ys.set q b)
  | _, [], ys => by simp
  | _, x :: xs, [] => by cases ‹Nat› <;> simp
  | 0, x :: xs, y :: ys => by simp
  | q + 1, x :: xs, y :: ys => by simp only [List.zipWith_cons_cons, List.set_cons_succ]; rw [zip_set f a b q xs ys]
theorem rowsG_set (vs : List (Option Addr × Nat)) (rows : List (List Int)) (q : Nat) (A : Option Addr) (c : Nat) (row : List Int) : (rowsG vs rows).set q (nums A row.length c row) = rowsG (vs.set q (A, c)) (rows.set q row) := zip_set _ (A, c) row q vs rows
/-- A row grows by a number. -/
theorem Hp.row_app {W w : World} {pre : List Itm} {vs : List (Option Addr × Nat)} {rows : List (List Int)} {q : Nat} {v : Option Addr × Nat} {row : List Int} (h : Hp W (pre ++ rowsG vs rows) w) (hv : vs[q]? = some v) (hr : rows[q]? = some row) (ty : TypeId) {b : Nat} (x : Int) (hb : w.cell? ⟨b, 0, none⟩ = some (.int .i64 x)) (hn : row.length ≤ 4000000000000) :
    ∃ g cap w', (Builtin.append_ #[33, 33] ty #[.slice v.1 row.length v.2, .slice (some ⟨b, 0, none⟩) 1 1]).run Try.prog w = .ok (.slice (some ⟨g, 0, none⟩) (row.length + 1) cap) w' ∧
      Hp W (pre ++ rowsG (vs.set q (some ⟨g, 0, none⟩, cap)) (rows.set q (row ++ [x]))) w' ∧ w.grownBy w' (Value.slice v.1 row.length v.2).ownBlock := by
  have hi : (pre ++ rowsG vs rows)[pre.length + q]? = some (nums v.1 row.length v.2 row) := by
    rw [List.getElem?_append_right (by omega), Nat.add_sub_cancel_left]; exact rowsG_get hv hr
  obtain ⟨g, cap, w', h1, h2, h3⟩ := run_app_num h hi ty x hb hn
  refine ⟨g, cap, w', h1, ?_, h3⟩
  rw [List.set_append_right _ _ (by omega), Nat.add_sub_cancel_left] at h2
  have e : (row ++ [x]).length = row.length + 1 := by simp
  have := rowsG_set vs rows q (some ⟨g, 0, none⟩) cap (row ++ [x])
  rw [e] at this
  rwa [this] at h2
/-- The value of a row is set. -/
theorem Hp.rv_set {W w : World} {l : List Itm} {i g n c : Nat} {vs : List (Option Addr × Nat)} {rows : List (List Int)} (h : Hp W l w) (hi : l[i]? = some (rvals (some ⟨g, 0, none⟩) n c vs rows)) (q : Nat) (A : Option Addr) (d : Nat) (row : List Int) :
    Hp W (l.set i (rvals (some ⟨g, 0, none⟩) n c (vs.set q (A, d)) (rows.set q row))) (w.setCell ⟨g, q, none⟩ (.slice A row.length d)) := by
  have := h.store hi (g := g) (cap := c) rfl q (.slice A row.length d)
  have e := zip_set (fun (v : Option Addr × Nat) (row : List Int) => Value.slice v.1 row.length v.2) (A, d) row q vs rows
  unfold rvals at this ⊢
  dsimp only at this
  rw [e] at this
  exact this
theorem Hp.rv_at {W w : World} {l : List Itm} {i g n c q : Nat} {vs : List (Option Addr × Nat)} {rows : List (List Int)} {v : Option Addr × Nat} {row : List Int} (h : Hp W l w) (hi : l[i]? = some (rvals (some ⟨g, 0, none⟩) n c vs rows)) (hv : vs[q]? = some v) (hr : rows[q]? = some row) :
    w.cell? ⟨g, q, none⟩ = some (.slice v.1 row.length v.2) ∧ w.frozen? ⟨g, q, none⟩ = false ∧ g < w.heap.size := h.cell hi (cap := c) rfl (by show (List.zipWith _ vs rows)[q]? = _; rw [List.getElem?_zipWith, hv, hr])
theorem Hp.nils {W w : World} {l : List Itm} (h : Hp W l w) : ∀ N, Hp W (l ++ List.replicate N (nums none 0 0 [])) w
  | 0 => by simpa using h
  | N + 1 => by
    rw [List.replicate_succ', ← List.append_assoc]
    exact (h.nils N).nil_end (nums none 0 0 []) rfl rfl rfl
theorem zip_rep {α β γ : Type} (f : α → β → γ) (a : α) (b : β) : ∀ N, List.zipWith f (List.replicate N a) (List.replicate N b) = List.replicate N (f a b)
  | 0 => rfl
  | N + 1 => by rw [List.replicate_succ, List.replicate_succ, List.replicate_succ, List.zipWith_cons_cons, zip_rep f a b N]
theorem make_rows (N : Int) (n : Nat) (h : N = (n : Int)) (hn : n ≤ 1000000000000) (w : World) :
    (Instr.makeSlice 69 (.int .i64 N) (.int .i64 N)).run Try.prog w = .ok (.slice (some ⟨w.heap.size, 0, none⟩) n n) (w.alloc (.cells (List.replicate n (.slice none 0 0)).toArray 33)) := by
  obtain ⟨i0, hi, hz0, hz1, hz2⟩ := info_parts row_info
  have := run_make (P := Try.prog) w 69 33 i0 (.slice none 0 0) Try.underlying69 hi hz0 .i64 .i64 N N (by omega) (Int.le_refl _) (by rw [hz2]; omega) (by omega)
  rw [this, hz1, h]
  simp only [Int.toNat_natCast]
  rw [made_cells _ _ rfl]
theorem Hp.made_rows {W w : World} {l : List Itm} (h : Hp W l w) (n : Nat) (hn : n ≤ 1000000000000) :
    Hp W (rvals (some ⟨w.heap.size, 0, none⟩) n n (List.replicate n (none, 0)) (List.replicate n []) :: l) (w.alloc (.cells (List.replicate n (.slice none 0 0)).toArray 33)) := by
  refine h.new _ (bnew _ _) ?_ (fun k hk => by simp [rvals, Value.ownBlock] at hk; omega)
  have := World.ownsRow_lit (base := W.heap.size) (e := 33) (size := 1) w (List.replicate n (.slice none 0 0)).toArray n h.below.size (by unfold maxLen; omega) (by simp)
  unfold rvals
  rw [zip_rep]
  simpa using this
theorem Hp.made_rowsA {W w : World} {l : List Itm} (h : Hp W l w) (n : Nat) (hn : n ≤ 1000000000000) :
    Hp W (rvals (some ⟨w.heap.size, 0, none⟩) n n (List.replicate n (none, 0)) (List.replicate n []) :: l) (w.alloc (.cells (Array.replicate n (.slice none 0 0)) 33)) := by
  have := h.made_rows n hn
  simpa using this
theorem rowsG_nils (n : Nat) : rowsG (List.replicate n (none, 0)) (List.replicate n []) = List.replicate n (nums none 0 0 []) := by unfold rowsG; rw [zip_rep]; rfl
/-- The rows of indices behind k arcs. -/
def Gr.rowsK (g : Gr) (k : Nat) : List (List Int) := (List.range g.n.toNat).map fun q : Nat => outI (g.rs.take k) (q : Int)
theorem rowsK_len (g : Gr) (k : Nat) : (g.rowsK k).length = g.n.toNat := by simp [Gr.rowsK]
theorem rowsK_get {g : Gr} {q : Nat} (h : q < g.n.toNat) (k : Nat) : (g.rowsK k)[q]? = some (outI (g.rs.take k) q) := by
  unfold Gr.rowsK; rw [List.getElem?_map, List.getElem?_range h]; rfl
theorem rowsK_zero (g : Gr) : g.rowsK 0 = List.replicate g.n.toNat [] := by
  unfold Gr.rowsK
  apply List.ext_getElem (by simp)
  intro i h1 h2
  simp [outI_nil]
theorem rowsK_step {g : Gr} {k q : Nat} {a : Ar} (ha : g.rs[k]? = some a) (hq : a.f = (q : Int)) (hn : q < g.n.toNat) : (g.rowsK k).set q (outI (g.rs.take k) q ++ [(k : Int)]) = g.rowsK (k + 1) := by
  apply List.ext_getElem? 
  intro j
  have hl : q < (g.rowsK k).length := by rw [rowsK_len]; exact hn
  rw [Pt.set_at hl]
  by_cases hj : j < g.n.toNat
  · rw [rowsK_get hj, rowsK_get hj, outI_take ha]
    by_cases e : j = q
    · subst e; rw [if_pos rfl, if_pos hq]
    · rw [if_neg e, if_neg (by omega), List.append_nil]
  · rw [if_neg (by omega), List.getElem?_eq_none (by rw [rowsK_len]; omega), List.getElem?_eq_none (by rw [rowsK_len]; omega)]
theorem rowsK_all (g : Gr) : g.rowsK g.rs.length = (List.range g.n.toNat).map fun q : Nat => outI g.rs (q : Int) := by
  unfold Gr.rowsK; rw [List.take_length]
end Go.Proofs.Ytgdfjblfpeedjaa
