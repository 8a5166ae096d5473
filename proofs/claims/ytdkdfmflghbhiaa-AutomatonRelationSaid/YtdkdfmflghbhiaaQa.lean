/- What a call owns: rows and boxes side by side; lists and automata that lie in memory. Nothing here speaks of a function of the program. -/
import Derived.Test.YtdkdfmflghbhiaaRows
import Derived.Test.YtdkdfmflghbhiaaAMg
import Derived.WalkKit
import Derived.Below
import Derived.Laws.OwnMore
import Derived.Laws.NewBlocks
import Derived.Deep.AppendLies
import Derived.Lib.Hide
import Derived.Deep.QuietTactic
import Derived.Deep.RegionHeld3
import Derived.Deep.DeepCutAuto
import Derived.Deep.CutBlock
import Derived.OwnWalk
namespace Go.Proofs.Ytdkdfmflghbhiaa
open Go.RowKit
set_option linter.unusedVariables false

theorem btwo {w w1 w2 : World} (h1 : Below w.heap.size w w1) (h2 : Below w1.heap.size w1 w2) : Below w.heap.size w w2 := h1.trans (h2.mono h1.size)
theorem bnew (w : World) (o : Obj) : Below w.heap.size w (w.alloc o) := (Below.refl _ _).alloc (Nat.le_refl _) _
theorem bdrew (w : World) : Below w.heap.size w w.drew := (Below.refl _ _).drew
theorem bdrewN (w : World) (n : Nat) : Below w.heap.size w (w.drewN n) := by
  induction n with
  | zero => exact Below.refl _ _
  | succ n ih => exact ih.drew
theorem grown_of {w w' : World} (h : Below w.heap.size w w') : w.grownBy w' none := ⟨h.os, h.tape, h.output, h.size, fun k hk _ => h.block k hk⟩
theorem ret_bool {a b : Bool} (h : a = b) : Ending.returned (.bool a) = .returned (.bool b) := by rw [h]
theorem ret_int {k : IntKind} {a b : Int} (h : a = b) : Ending.returned (.int k a) = .returned (.int k b) := by rw [h]

theorem beq_no {a b : Int} (h : ¬ a = b) : (a == b) = false := by rw [beq_eq_false_iff_ne]; exact h
theorem bne_yes {a b : Int} (h : ¬ a = b) : (a != b) = true := by rw [bne_iff_ne]; exact h
theorem beq_yes {a b : Int} (h : a = b) : (a == b) = true := by rw [beq_iff_eq]; exact h
theorem bne_no {a b : Int} (h : a = b) : (a != b) = false := by rw [h]; simp

/-! ### Lists in memory -/
def ints (L : List Int) : List Value := L.map (Value.int .i64)
def bools (L : List Bool) : List Value := L.map Value.bool
theorem ints_len (L : List Int) : (ints L).length = L.length := by simp [ints]
theorem bools_len (L : List Bool) : (bools L).length = L.length := by simp [bools]
theorem ints_at {L : List Int} {j : Nat} (h : j < L.length) : (ints L)[j]? = some (.int .i64 (L.getD j 0)) := by
  rw [List.getD_eq_getElem?_getD, List.getElem?_eq_getElem h]; simp [ints, h]
theorem bools_at {L : List Bool} {j : Nat} (h : j < L.length) : (bools L)[j]? = some (.bool (L.getD j false)) := by
  rw [List.getD_eq_getElem?_getD, List.getElem?_eq_getElem h]; simp [bools, h]
/-- These cells lie there. -/
def CellsIn (w : World) (A : Option Addr) (xs : List Value) : Prop :=
  0 < xs.length → ∃ b off, A = some ⟨b, off, none⟩ ∧ b < w.heap.size ∧ ∀ (j : Nat) u, xs[j]? = some u → w.cell? ⟨b, off + j, none⟩ = some u
theorem CellsIn.below {w w' : World} {A : Option Addr} {xs : List Value} (h : CellsIn w A xs) (hb : Below w.heap.size w w') : CellsIn w' A xs := by
  intro h0
  obtain ⟨b, off, e, hlt, hc⟩ := h h0
  exact ⟨b, off, e, Nat.lt_of_lt_of_le hlt hb.size, fun j u hu => (hb.cell (p := ⟨b, off + j, none⟩) hlt).trans (hc j u hu)⟩
theorem CellsIn.nil (w : World) (A : Option Addr) : CellsIn w A [] := fun h => by simp at h
/-- Rows of numbers lie there. -/
def RowsIn (w : World) (A : Option Addr) (R : List (List Int)) : Prop :=
  0 < R.length → ∃ b off, A = some ⟨b, off, none⟩ ∧ b < w.heap.size ∧ ∀ (j : Nat) row, R[j]? = some row →
    ∃ Aj cj, w.cell? ⟨b, off + j, none⟩ = some (.slice Aj row.length cj) ∧ row.length ≤ cj ∧ row.length ≤ 17592186044416 ∧ CellsIn w Aj (ints row)
theorem RowsIn.below {w w' : World} {A : Option Addr} {R : List (List Int)} (h : RowsIn w A R) (hb : Below w.heap.size w w') : RowsIn w' A R := by
  intro h0
  obtain ⟨b, off, e, hlt, hc⟩ := h h0
  refine ⟨b, off, e, Nat.lt_of_lt_of_le hlt hb.size, fun j row hr => ?_⟩
  obtain ⟨Aj, cj, h1, h2, h3, h4⟩ := hc j row hr
  exact ⟨Aj, cj, (hb.cell (p := ⟨b, off + j, none⟩) hlt).trans h1, h2, h3, h4.below hb⟩
/-- The slices of an automaton. -/
structure DV where
  A : Option Addr
  n : Nat
  c : Nat
  B : Option Addr
  m : Nat
  d : Nat
/-- An automaton lies there. -/
structure DfaIn (w : World) (x : DV) (M : Au) : Prop where
  n : M.nx.length = x.n
  m : M.ac.length = x.m
  c : x.n ≤ x.c
  d : x.m ≤ x.d
  cb : x.n ≤ 17592186044416
  db : x.m ≤ 140737488355328
  rows : RowsIn w x.A M.nx
  accs : CellsIn w x.B (bools M.ac)
theorem DfaIn.below {w w' : World} {x : DV} {M : Au} (h : DfaIn w x M) (hb : Below w.heap.size w w') : DfaIn w' x M :=
  ⟨h.n, h.m, h.c, h.d, h.cb, h.db, h.rows.below hb, h.accs.below hb⟩
theorem DfaIn.acc {w : World} {x : DV} {M : Au} (h : DfaIn w x M) {q : Nat} (hq : q < M.ac.length) : ∃ b off, x.B = some ⟨b, off, none⟩ ∧ b < w.heap.size ∧ w.cell? ⟨b, off + q, none⟩ = some (.bool (M.ac.getD q false)) := by
  obtain ⟨b, off, e, hlt, hc⟩ := h.accs (by rw [bools_len]; omega)
  exact ⟨b, off, e, hlt, hc q _ (bools_at hq)⟩
theorem DfaIn.row {w : World} {x : DV} {M : Au} (h : DfaIn w x M) {q : Nat} (hq : q < M.nx.length) :
    ∃ b off Aj cj, x.A = some ⟨b, off, none⟩ ∧ b < w.heap.size ∧ w.cell? ⟨b, off + q, none⟩ = some (.slice Aj (M.nx.getD q []).length cj) ∧ (M.nx.getD q []).length ≤ cj ∧ (M.nx.getD q []).length ≤ 17592186044416 ∧ CellsIn w Aj (ints (M.nx.getD q [])) := by
  obtain ⟨b, off, e, hlt, hc⟩ := h.rows (by omega)
  have hr : M.nx[q]? = some (M.nx.getD q []) := by rw [List.getD_eq_getElem?_getD, List.getElem?_eq_getElem hq]; rfl
  obtain ⟨Aj, cj, h1, h2, h3, h4⟩ := hc q _ hr
  exact ⟨b, off, Aj, cj, e, hlt, h1, h2, h3, h4⟩
theorem CellsIn.int {w : World} {A : Option Addr} {L : List Int} (h : CellsIn w A (ints L)) {j : Nat} (hj : j < L.length) : ∃ b off, A = some ⟨b, off, none⟩ ∧ b < w.heap.size ∧ w.cell? ⟨b, off + j, none⟩ = some (.int .i64 (L.getD j 0)) := by
  obtain ⟨b, off, e, hlt, hc⟩ := h (by rw [ints_len]; omega)
  exact ⟨b, off, e, hlt, hc j _ (ints_at hj)⟩
theorem CellsIn.bool {w : World} {A : Option Addr} {L : List Bool} (h : CellsIn w A (bools L)) {j : Nat} (hj : j < L.length) : ∃ b off, A = some ⟨b, off, none⟩ ∧ b < w.heap.size ∧ w.cell? ⟨b, off + j, none⟩ = some (.bool (L.getD j false)) := by
  obtain ⟨b, off, e, hlt, hc⟩ := h (by rw [bools_len]; omega)
  exact ⟨b, off, e, hlt, hc j _ (bools_at hj)⟩

/-- What a region loads. -/
def Keep (l : List (Addr × Value)) (w : World) : Prop := ∀ p ∈ l, w.cell? p.1 = some p.2 ∧ p.1.block < w.heap.size
theorem Keep.go {l : List (Addr × Value)} {w w' : World} (h : Keep l w) (hb : Below w.heap.size w w') : Keep l w' := fun p hp =>
  ⟨(hb.cell (p := p.1) (h p hp).2).trans (h p hp).1, Nat.lt_of_lt_of_le (h p hp).2 hb.size⟩
theorem Keep.drew {l : List (Addr × Value)} {w : World} (h : Keep l w) : Keep l w.drew := h.go (bdrew _)
theorem Keep.set {l : List (Addr × Value)} {w : World} (h : Keep l w) (g j : Nat) (u : Value) (hg : ∀ p ∈ l, ¬ p.1.block = g) : Keep l (w.setCell ⟨g, j, none⟩ u) := fun p hp =>
  ⟨(World.cell?_of_block (w := w) (Below.heap_setCell _ _ _ _ (by show ¬ p.1.block = g; exact hg p hp))).trans (h p hp).1, by simpa [World.setCell] using (h p hp).2⟩
theorem Keep.grown {l : List (Addr × Value)} {w w' : World} {row : Option Nat} (h : Keep l w) (hg : w.grownBy w' row) (hr : ∀ p ∈ l, some p.1.block ≠ row) : Keep l w' := fun p hp =>
  ⟨hg.cell (h p hp).1 (hr p hp), Nat.lt_of_lt_of_le (h p hp).2 hg.size⟩

/-! ### Rows side by side -/
/-- A row of a slice's own, or a box (a row of one element). -/
structure Itm where
  e : TypeId
  size : Nat
  v : Value
  n : Nat
  xs : List Value
/-- Two rows lie in different blocks. -/
def Itm.far (a b : Itm) : Prop := ∀ k, a.v.ownBlock = some k → b.v.ownBlock ≠ some k
theorem Itm.far.symm {a b : Itm} (h : a.far b) : b.far a := fun k h1 h2 => h k h2 h1
/-- Rows that were made since W, each in a block of its own. -/
structure Hp (W : World) (l : List Itm) (w : World) : Prop where
  own : ∀ (i : Nat) it, l[i]? = some it → w.ownsRow W.heap.size it.e it.size it.v it.n it.xs
  sep : ∀ (i j : Nat) a b, i ≠ j → l[i]? = some a → l[j]? = some b → a.far b
  below : Below W.heap.size W w
namespace Hp
variable {W w w' : World} {l : List Itm} {it : Itm} {i : Nat}
theorem start (W : World) : Hp W [] W := ⟨fun i it h => by simp at h, fun i j a b _ h => by simp at h, Below.refl _ _⟩
theorem go (h : Hp W l w) (hb : Below w.heap.size w w') : Hp W l w' :=
  ⟨fun i it hi => (h.own i it hi).kept (grown_of hb) (by cases it.v.ownBlock <;> simp), h.sep, btwo h.below hb⟩
theorem lt (h : Hp W l w) (hi : l[i]? = some it) {k : Nat} (hk : it.v.ownBlock = some k) : W.heap.size ≤ k ∧ k < w.heap.size := (h.own i it hi).lt k hk
/-- Another list of the same rows. -/
theorem sub (h : Hp W l w) {l' : List Itm} (f : Nat → Nat) (hf : ∀ i j, f i = f j → i = j) (hl : ∀ (i : Nat) it, l'[i]? = some it → l[f i]? = some it) : Hp W l' w :=
  ⟨fun i it hi => h.own _ it (hl i it hi), fun i j a b hij ha hb => h.sep _ _ a b (fun e => hij (hf _ _ e)) (hl i a ha) (hl j b hb), h.below⟩
theorem tail (h : Hp W (it :: l) w) : Hp W l w := h.sub (fun i => i + 1) (fun i j e => by omega) (fun i it hi => by simpa using hi)
theorem drop2 {a b : Itm} (h : Hp W (a :: b :: l) w) : Hp W (a :: l) w := h.sub (fun i => if i = 0 then 0 else i + 1) (fun i j e => by
    by_cases h1 : i = 0 <;> by_cases h2 : j = 0 <;> simp [h1, h2] at e ⊢ <;> omega) (fun i it hi => by
    cases i with
    | zero => simpa using hi
    | succ i => simpa using hi)
/-- A row more. -/
theorem new (h : Hp W l w) (it : Itm) (hb : Below w.heap.size w w') (ho : w'.ownsRow W.heap.size it.e it.size it.v it.n it.xs) (hk : ∀ k, it.v.ownBlock = some k → w.heap.size ≤ k) : Hp W (it :: l) w' := by
  have h2 := h.go hb
  have key : ∀ (j : Nat) b, l[j]? = some b → it.far b := fun j b hb2 k h3 h4 => by
    have := (h.lt hb2 h4).2
    have := hk k h3
    omega
  refine ⟨fun i x hi => ?_, fun i j a b hij ha hb2 => ?_, h2.below⟩
  · cases i with
    | zero => injection hi with hi; subst hi; exact ho
    | succ i => exact h2.own i x (by simpa using hi)
  · cases i with
    | zero =>
      cases j with
      | zero => exact absurd rfl hij
      | succ j => injection ha with ha; subst ha; exact key j b (by simpa using hb2)
    | succ i =>
      cases j with
      | zero => injection hb2 with hb2; subst hb2; exact (key i a (by simpa using ha)).symm
      | succ j => exact h.sep i j a b (by omega) (by simpa using ha) (by simpa using hb2)
/-- A row of nothing. -/
theorem nil_row (h : Hp W l w) (it : Itm) (hv : it.v = .slice none 0 0) (hn : it.n = 0) (hx : it.xs = []) : Hp W (it :: l) w :=
  h.new it (Below.refl _ _) (by rw [hv, hn, hx]; exact World.ownsRow_nil _ _ _ _) (fun k hk => by rw [hv] at hk; cases hk)
theorem nil_end (h : Hp W l w) (it : Itm) (hv : it.v = .slice none 0 0) (hn : it.n = 0) (hx : it.xs = []) : Hp W (l ++ [it]) w := by
  have hf : ∀ b : Itm, it.far b := fun b k hk => by rw [hv] at hk; cases hk
  refine ⟨fun i x hi => ?_, fun i j a b hij ha hb => ?_, h.below⟩
  · rcases get_snoc hi with ⟨_, e⟩ | ⟨_, rfl⟩
    · exact h.own i x e
    · rw [hv, hn, hx]; exact World.ownsRow_nil _ _ _ _
  · rcases get_snoc ha with ⟨_, e1⟩ | ⟨e1, rfl⟩ <;> rcases get_snoc hb with ⟨_, e2⟩ | ⟨e2, e3⟩
    · exact h.sep i j a b hij e1 e2
    · rw [e3]; exact (hf a).symm
    · exact hf b
    · omega
/-- A row is written to, or grows. -/
theorem upd (h : Hp W l w) (hi : l[i]? = some it) (nw : Itm) (hg : w.grownBy w' it.v.ownBlock) (ho : w'.ownsRow W.heap.size nw.e nw.size nw.v nw.n nw.xs)
    (hk : ∀ k, nw.v.ownBlock = some k → it.v.ownBlock = some k ∨ w.heap.size ≤ k) : Hp W (l.set i nw) w' := by
  have hil := (List.getElem?_eq_some_iff.1 hi).1
  have key : ∀ (j : Nat) b, j ≠ i → l[j]? = some b → nw.far b := fun j b hj hb k h3 h4 => by
    rcases hk k h3 with e | e
    · exact h.sep i j it b (fun e => hj e.symm) hi hb k e h4
    · have := (h.lt hb h4).2
      omega
  have at' : ∀ (j : Nat) b, (l.set i nw)[j]? = some b → (j = i ∧ b = nw) ∨ (j ≠ i ∧ l[j]? = some b) := by
    intro j b hj
    rw [Pt.set_at hil] at hj
    split at hj
    · injection hj with hj; exact .inl ⟨by assumption, hj.symm⟩
    · exact .inr ⟨by assumption, hj⟩
  refine ⟨fun j b hj => ?_, fun j k a b hjk ha hb => ?_, h.below.grown hg h.below.size fun k hk => (h.lt hi hk).1⟩
  · rcases at' j b hj with ⟨rfl, rfl⟩ | ⟨hne, hj⟩
    · exact ho
    · refine (h.own j b hj).kept hg ?_
      cases e : b.v.ownBlock with
      | none => exact .inl rfl
      | some k => exact .inr fun e2 => h.sep j i b it hne hj hi k e e2.symm
  · rcases at' j a ha with ⟨e1, e2⟩ | ⟨hne, ha2⟩ <;> rcases at' k b hb with ⟨e3, e4⟩ | ⟨hne2, hb2⟩
    · exact absurd (e1.trans e3.symm) hjk
    · rw [e2]; exact key k b hne2 hb2
    · rw [e4]; exact (key j a hne ha2).symm
    · exact h.sep j k a b hjk ha2 hb2
/-- A cell of a row. -/
theorem cell (h : Hp W l w) (hi : l[i]? = some it) {g cap : Nat} (hv : it.v = .slice (some ⟨g, 0, none⟩) it.n cap) {j : Nat} {u : Value} (hj : it.xs[j]? = some u) :
    w.cell? ⟨g, j, none⟩ = some u ∧ w.frozen? ⟨g, j, none⟩ = false ∧ g < w.heap.size := by
  have ho := h.own i it hi
  rw [hv] at ho
  have hjl := (List.getElem?_eq_some_iff.1 hj).1
  rw [ho.1] at hjl
  exact ⟨(ho.cellAt j hjl).trans hj, ho.frozenAt j, (ho.lt g rfl).2⟩
/-- A cell of a row is stored to. -/
theorem store (h : Hp W l w) (hi : l[i]? = some it) {g cap : Nat} (hv : it.v = .slice (some ⟨g, 0, none⟩) it.n cap) (j : Nat) (u : Value) :
    Hp W (l.set i { it with xs := it.xs.set j u }) (w.setCell ⟨g, j, none⟩ u) := by
  have ho := h.own i it hi
  rw [hv] at ho
  obtain ⟨h1, h2⟩ := ho.stored j u
  refine h.upd hi _ (by rw [hv]; exact h2) (by rw [← hv] at h1; exact h1) (fun k hk => .inl hk)
/-- What lies in a row can be read like any list. -/
theorem cells (h : Hp W l w) (hi : l[i]? = some it) {A : Option Addr} {c : Nat} (hv : it.v = .slice A it.n c) : CellsIn w A it.xs := by
  intro h0
  have ho := h.own i it hi
  rcases ho.2 with ⟨e, hn⟩ | ⟨g, cap, cur, e, _, hg, _⟩
  · rw [ho.1, hn] at h0; omega
  · rw [hv] at e
    injection e with e1
    subst e1
    have hlt := (h.lt hi (k := g) (by rw [hv]; rfl)).2
    refine ⟨g, 0, rfl, hlt, fun j u hu => ?_⟩
    rw [Nat.zero_add]
    exact (h.cell hi (cap := c) hv hu).1
/-- The value of a row. -/
theorem form (h : Hp W l w) (hi : l[i]? = some it) : ∃ A c, it.v = .slice A it.n c ∧ it.n ≤ c ∧ c ≤ maxLen ∧ (0 < it.n → ∃ g, A = some ⟨g, 0, none⟩) := by
  have ho := h.own i it hi
  rcases ho.2 with ⟨e, hn⟩ | ⟨g, cap, cur, e, _, _, h1, h2, _⟩
  · exact ⟨none, 0, by rw [e, hn], by omega, by unfold maxLen; omega, fun h => by omega⟩
  · exact ⟨_, cap, e, h1, h2, fun _ => ⟨g, rfl⟩⟩
end Hp
/-- A box of a struct. -/
def box (T : TypeId) (g : Nat) (cs : List Value) : Itm := ⟨T, cs.length, .slice (some ⟨g, 0, none⟩) 1 1, 1, cs⟩
theorem Hp.box_new {W w : World} {l : List Itm} (h : Hp W l w) (T : TypeId) (cs : List Value) : Hp W (box T w.heap.size cs :: l) (w.alloc (.cells cs.toArray T)) := by
  refine h.new _ (bnew _ _) ?_ (fun k hk => by simp [box, Value.ownBlock] at hk; omega)
  have := World.ownsRow_lit (base := W.heap.size) (e := T) (size := cs.length) w cs.toArray 1 h.below.size (by unfold maxLen; omega) (by simp)
  simpa [box] using this
theorem Hp.box_at {W w : World} {l : List Itm} {T : TypeId} {g i : Nat} {cs : List Value} (h : Hp W l w) (hi : l[i]? = some (box T g cs)) {j : Nat} {u : Value} (hj : cs[j]? = some u) :
    w.cell? ⟨g, j, none⟩ = some u ∧ w.frozen? ⟨g, j, none⟩ = false ∧ g < w.heap.size := h.cell hi (cap := 1) rfl hj
theorem Hp.box_set {W w : World} {l : List Itm} {T : TypeId} {g i : Nat} {cs : List Value} (h : Hp W l w) (hi : l[i]? = some (box T g cs)) (j : Nat) (u : Value) :
    Hp W (l.set i (box T g (cs.set j u))) (w.setCell ⟨g, j, none⟩ u) := by
  have := h.store hi (g := g) (cap := 1) rfl j u
  simpa [box] using this
/-- Rows in another order, or fewer. -/
theorem Hp.pick {W w : World} {l l' : List Itm} (h : Hp W l w) (is : List Nat) (hnd : is.Nodup) (hl : l'.map some = is.map (fun i => l[i]?)) : Hp W l' w := by
  have key : ∀ (i : Nat) it, l'[i]? = some it → ∃ j : Nat, is[i]? = some j ∧ l[j]? = some it := by
    intro i it hi
    have h1 : (l'.map some)[i]? = some (some it) := by rw [List.getElem?_map, hi]; rfl
    rw [hl, List.getElem?_map] at h1
    cases e : is[i]? with
    | none => rw [e] at h1; cases h1
    | some j => rw [e] at h1; injection h1 with h1; exact ⟨j, rfl, h1⟩
  refine ⟨fun i it hi => ?_, fun i j a b hij ha hb => ?_, h.below⟩
  · obtain ⟨k, _, hk⟩ := key i it hi
    exact h.own k it hk
  · obtain ⟨u, u1, u2⟩ := key i a ha
    obtain ⟨v, v1, v2⟩ := key j b hb
    refine h.sep u v a b (fun e => hij ?_) u2 v2
    subst e
    have e1 := (List.getElem?_eq_some_iff.1 u1)
    have e2 := (List.getElem?_eq_some_iff.1 v1)
    obtain ⟨x1, x2⟩ := e1
    obtain ⟨y1, y2⟩ := e2
    have hp := List.pairwise_iff_getElem.1 hnd
    rcases Nat.lt_trichotomy i j with e | e | e
    · exact absurd (x2.trans y2.symm) (hp i j x1 y1 e)
    · exact e
    · exact absurd (y2.trans x2.symm) (hp j i y1 x1 e)
/-- A row of numbers. -/
def nums (A : Option Addr) (n c : Nat) (L : List Int) : Itm := ⟨3, 1, .slice A n c, n, ints L⟩
/-- A row of bools. -/
def flags (A : Option Addr) (n c : Nat) (L : List Bool) : Itm := ⟨4, 1, .slice A n c, n, bools L⟩
/-- Two cells for each pair. -/
def pcells (ps : List (Int × Int)) : List Value := ps.flatMap fun p => [.int .i64 p.1, .int .i64 p.2]
theorem pcells_len (ps : List (Int × Int)) : (pcells ps).length = ps.length * 2 := by
  induction ps with
  | nil => rfl
  | cons p ps ih => unfold pcells at *; rw [List.flatMap_cons, List.length_append, ih]; simp; omega
theorem pcells_at {ps : List (Int × Int)} {j : Nat} {p : Int × Int} (h : ps[j]? = some p) : (pcells ps)[j * 2]? = some (.int .i64 p.1) ∧ (pcells ps)[j * 2 + 1]? = some (.int .i64 p.2) := by
  induction ps generalizing j with
  | nil => simp at h
  | cons x ps ih =>
    unfold pcells at *
    rw [List.flatMap_cons]
    cases j with
    | zero => injection h with h; subst h; simp
    | succ j =>
      have h' : ps[j]? = some p := by simpa using h
      obtain ⟨h1, h2⟩ := ih h'
      rw [show (j + 1) * 2 = j * 2 + 1 + 1 by omega]
      simp only [List.cons_append, List.nil_append, List.getElem?_cons_succ]
      exact ⟨h1, h2⟩
theorem pcells_snoc (ps : List (Int × Int)) (p : Int × Int) : pcells (ps ++ [p]) = pcells ps ++ [.int .i64 p.1, .int .i64 p.2] := by
  unfold pcells; rw [List.flatMap_append]; simp
/-- A row of pairs (of structs of two numbers of type T). -/
def prow (T : TypeId) (A : Option Addr) (n c : Nat) (ps : List (Int × Int)) : Itm := ⟨T, 2, .slice A n c, n, pcells ps⟩
section
variable {W w : World} {l : List Itm} {g n c i : Nat} {A : Option Addr} {L : List Int} {F : List Bool} {ps : List (Int × Int)} {T : TypeId}
theorem Hp.num_len (h : Hp W l w) (hi : l[i]? = some (nums A n c L)) : L.length = n := by
  have := (h.own i _ hi).1
  simpa [nums, ints] using this
theorem Hp.flag_len (h : Hp W l w) (hi : l[i]? = some (flags A n c F)) : F.length = n := by
  have := (h.own i _ hi).1
  simpa [flags, bools] using this
theorem Hp.pair_len (h : Hp W l w) (hi : l[i]? = some (prow T A n c ps)) : ps.length = n := by
  have := (h.own i _ hi).1
  rw [show (prow T A n c ps).xs = pcells ps from rfl, pcells_len] at this
  have e : (prow T A n c ps).n * (prow T A n c ps).size = n * 2 := rfl
  omega
theorem Hp.num_set (h : Hp W l w) (hi : l[i]? = some (nums (some ⟨g, 0, none⟩) n c L)) (j : Nat) (x : Int) :
    Hp W (l.set i (nums (some ⟨g, 0, none⟩) n c (L.set j x))) (w.setCell ⟨g, j, none⟩ (.int .i64 x)) := by
  have := h.store hi (g := g) (cap := c) rfl j (.int .i64 x)
  simpa [nums, ints] using this
theorem Hp.num_at (h : Hp W l w) (hi : l[i]? = some (nums (some ⟨g, 0, none⟩) n c L)) {j : Nat} (hj : j < L.length) :
    w.cell? ⟨g, j, none⟩ = some (.int .i64 (L.getD j 0)) ∧ w.frozen? ⟨g, j, none⟩ = false ∧ g < w.heap.size := h.cell hi (cap := c) rfl (ints_at hj)
theorem Hp.flag_set (h : Hp W l w) (hi : l[i]? = some (flags (some ⟨g, 0, none⟩) n c F)) (j : Nat) (x : Bool) :
    Hp W (l.set i (flags (some ⟨g, 0, none⟩) n c (F.set j x))) (w.setCell ⟨g, j, none⟩ (.bool x)) := by
  have := h.store hi (g := g) (cap := c) rfl j (.bool x)
  simpa [flags, bools] using this
theorem Hp.flag_at (h : Hp W l w) (hi : l[i]? = some (flags (some ⟨g, 0, none⟩) n c F)) {j : Nat} (hj : j < F.length) :
    w.cell? ⟨g, j, none⟩ = some (.bool (F.getD j false)) ∧ w.frozen? ⟨g, j, none⟩ = false ∧ g < w.heap.size := h.cell hi (cap := c) rfl (bools_at hj)
theorem Hp.pair_at (h : Hp W l w) (hi : l[i]? = some (prow T (some ⟨g, 0, none⟩) n c ps)) {j : Nat} {p : Int × Int} (hj : ps[j]? = some p) :
    w.cell? ⟨g, j * 2, none⟩ = some (.int .i64 p.1) ∧ w.cell? ⟨g, j * 2 + 1, none⟩ = some (.int .i64 p.2) ∧ g < w.heap.size :=
  ⟨(h.cell hi (cap := c) rfl (pcells_at hj).1).1, (h.cell hi (cap := c) rfl (pcells_at hj).2).1, (h.cell hi (cap := c) rfl (pcells_at hj).1).2.2⟩
/-- A slice that is not empty begins a block. -/
theorem Hp.head (h : Hp W l w) {it : Itm} (hi : l[i]? = some it) (hv : it.v = .slice A it.n c) (h0 : 0 < it.n) : ∃ g, A = some ⟨g, 0, none⟩ := by
  obtain ⟨A', c', e, _, _, h4⟩ := h.form hi
  rw [hv] at e
  injection e with e1
  subst e1
  exact h4 h0
theorem Hp.cap (h : Hp W l w) {it : Itm} (hi : l[i]? = some it) (hv : it.v = .slice A it.n c) : it.n ≤ c ∧ c ≤ maxLen := by
  obtain ⟨A', c', e, h2, h3, _⟩ := h.form hi
  rw [hv] at e
  injection e with e1 e2 e3
  subst e3
  exact ⟨h2, h3⟩
end
/-! ### Appends -/
theorem int_info : (Try.prog.info? 3).map (fun i => (i.zero, i.size, i.bytes)) = some (some (.int .i64 0), 1, 8) := by kernel_rfl
theorem bool_info : (Try.prog.info? 4).map (fun i => (i.zero, i.size, i.bytes)) = some (some (.bool false), 1, 1) := by kernel_rfl
/-- A row grows by the cells of a row of one element. -/
theorem run_app {W w : World} {l : List Itm} {i : Nat} {it : Itm} (h : Hp W l w) (hi : l[i]? = some it) {t ty : TypeId} {z : Value} {bytes : Nat} (ht : Try.prog.underlying t = some (.slice it.e))
    (hinf : (Try.prog.info? it.e).map (fun i => (i.zero, i.size, i.bytes)) = some (some z, it.size, bytes)) (hzs : z.cells.size = it.size) (hsz : 0 < it.size) (hby : bytes ≤ 32)
    {A : Option Addr} {c : Nat} (hv : it.v = .slice A it.n c) {b : Nat} (news : List Value) (hl : news.length = it.size) (hnews : ∀ (j : Nat) u, news[j]? = some u → w.cell? ⟨b, j, none⟩ = some u) (h1 : ∀ u ∈ news, u.oneCell' = true) (hn : it.n ≤ 4000000000000) :
    ∃ g cap w', (Builtin.append_ #[t, t] ty #[.slice A it.n c, .slice (some ⟨b, 0, none⟩) 1 1]).run Try.prog w = .ok (.slice (some ⟨g, 0, none⟩) (it.n + 1) cap) w' ∧
      Hp W (l.set i { it with v := .slice (some ⟨g, 0, none⟩) (it.n + 1) cap, n := it.n + 1, xs := it.xs ++ news }) w' ∧ w.grownBy w' it.v.ownBlock := by
  obtain ⟨i0, hi0, hz0, hz1, hz2⟩ := info_parts hinf
  obtain ⟨g, cap, w', hr, ho, hg, hat, _⟩ := run_append_lies (P := Try.prog) w t ty W.heap.size it.e i0 z it.size bytes ht hi0 hz0 hz1 hz2 hzs hsz (.slice A it.n c) it.n it.xs (by rw [← hv]; exact h.own i it hi) ⟨b, 0, none⟩ 1 1 news (by rw [hl, Nat.one_mul])
    (fun j u hu => by
      have e : (⟨b, 0, none⟩ : Addr).add j = ⟨b, j, none⟩ := by unfold Addr.add; split <;> simp_all
      rw [e]; exact hnews j u hu) h1 (by omega) (by unfold maxLen; omega) (by
        have := Nat.mul_le_mul (show it.n + 1 ≤ 4000000000001 by omega) hby
        omega) h.below.size _ rfl
  refine ⟨g, cap, w', hr, ?_, by rw [hv]; exact hg⟩
  refine h.upd hi _ (by rw [hv]; exact hg) ho (fun k hk => ?_)
  simp [Value.ownBlock] at hk
  subst hk
  rcases hat with e | e
  · exact .inl (by rw [hv]; exact e)
  · exact .inr (by omega)
/-- The walk passes an append whose run is known. -/
theorem wp_app_run {P : Program} {w w' : World} {v' : Value} {o : Oper} {a : Act} {K : Act → World → Prop} {Q : Exit → Act → World → Prop} (s x : Operand) (t : TypeId)
    (ho : o.op = .call { callee := .builtin .append, args := #[s, x], argTypes := #[t, t] }) {vs vx : Value} (hr : (Builtin.append_ #[t, t] o.type #[vs, vx]).run P w = .ok v' w') (hs : a.eval s = vs) (hx : a.eval x = vx)
    (h : K (a.put o.dst v') w') : o.wp P a w K Q := by
  unfold Oper.wp execOp
  simp only [ho, resolve, invoke, builtin, Sem.run_bind, Sem.run_pure, Result.andThen_ok, List.map_toArray, List.map_cons, List.map_nil, hs, hx, hr]
  exact h
theorem wpList_app_run {P : Program} {w w' : World} {v' : Value} {ops : Array Oper} {rest : List Oper} {o : Oper} {a : Act} {Q : Exit → Act → World → Prop} (hgd : o.guard = none) (s x : Operand) (t : TypeId)
    (ho : o.op = .call { callee := .builtin .append, args := #[s, x], argTypes := #[t, t] }) {vs vx : Value} (hr : (Builtin.append_ #[t, t] o.type #[vs, vx]).run P w = .ok v' w') (hs : a.eval s = vs) (hx : a.eval x = vx)
    (h : wpList P ops Q rest (a.put o.dst v') w') : wpList P ops Q (o :: rest) a w :=
  wpList_plain hgd fun _ hK => wp_app_run s x t ho hr hs hx (hK _ _ h)
theorem step_app_run {P : Program} {w w' : World} {v' : Value} {ops : Array Oper} {o : Oper} {a : Act} {K : Act → World → Prop} {Q : Exit → Act → World → Prop} {E : Prop} (hgd : o.guard = none) (s x : Operand) (t : TypeId)
    (ho : o.op = .call { callee := .builtin .append, args := #[s, x], argTypes := #[t, t] }) {vs vx : Value} (hr : (Builtin.append_ #[t, t] o.type #[vs, vx]).run P w = .ok v' w') (hs : a.eval s = vs) (hx : a.eval x = vx)
    (h : K (a.put o.dst v') w') : if Region.wanted o (yielded ops a.tmps) = true then Oper.wp P o a w K Q else E := by
  have hw : Region.wanted o (yielded ops a.tmps) = true := by simp [Region.wanted, hgd]
  rw [if_pos hw]
  exact wp_app_run s x t ho hr hs hx h
theorem run_app_num {W w : World} {l : List Itm} {i : Nat} {A : Option Addr} {n c : Nat} {L : List Int} (h : Hp W l w) (hi : l[i]? = some (nums A n c L)) (ty : TypeId) {b : Nat} (x : Int) (hb : w.cell? ⟨b, 0, none⟩ = some (.int .i64 x)) (hn : n ≤ 4000000000000) :
    ∃ g cap w', (Builtin.append_ #[39, 39] ty #[.slice A n c, .slice (some ⟨b, 0, none⟩) 1 1]).run Try.prog w = .ok (.slice (some ⟨g, 0, none⟩) (n + 1) cap) w' ∧
      Hp W (l.set i (nums (some ⟨g, 0, none⟩) (n + 1) cap (L ++ [x]))) w' ∧ w.grownBy w' (Value.slice A n c).ownBlock := by
  have := run_app h hi (t := 39) (ty := ty) Try.underlying39 int_info rfl (Nat.zero_lt_one) (by decide) (A := A) (c := c) rfl (b := b) [.int .i64 x] rfl (fun j u hu => by
    cases j with
    | zero => injection hu with hu; subst hu; exact hb
    | succ j => simp at hu) (fun u hu => by rw [List.mem_singleton.1 hu]; rfl) hn
  simpa [nums, ints] using this
/-! ### make -/
theorem made_cells (z : Value) (n : Nat) (hz : z.cells = #[z]) : madeCells z.cells (n * 1) = (List.replicate n z).toArray := by
  rw [hz]; apply Array.ext'; rw [Nat.mul_one, toList_madeCells_one]
theorem make_nums (N : Int) (n : Nat) (h : N = (n : Int)) (hn : n ≤ 10000000000000) (w : World) :
    (Instr.makeSlice 39 (.int .i64 N) (.int .i64 N)).run Try.prog w = .ok (.slice (some ⟨w.heap.size, 0, none⟩) n n) (w.alloc (.cells (List.replicate n (.int .i64 0)).toArray 3)) := by
  obtain ⟨i0, hi, hz0, hz1, hz2⟩ := info_parts int_info
  have := run_make (P := Try.prog) w 39 3 i0 (.int .i64 0) Try.underlying39 hi hz0 .i64 .i64 N N (by omega) (Int.le_refl _) (by rw [hz2]; omega) (by omega)
  rw [this, hz1, h]
  simp only [Int.toNat_natCast]
  rw [made_cells _ _ rfl]
theorem make_bools (N : Int) (n : Nat) (h : N = (n : Int)) (hn : n ≤ 10000000000000) (w : World) :
    (Instr.makeSlice 23 (.int .i64 N) (.int .i64 N)).run Try.prog w = .ok (.slice (some ⟨w.heap.size, 0, none⟩) n n) (w.alloc (.cells (List.replicate n (.bool false)).toArray 4)) := by
  obtain ⟨i0, hi, hz0, hz1, hz2⟩ := info_parts bool_info
  have := run_make (P := Try.prog) w 23 4 i0 (.bool false) Try.underlying23 hi hz0 .i64 .i64 N N (by omega) (Int.le_refl _) (by rw [hz2]; omega) (by omega)
  rw [this, hz1, h]
  simp only [Int.toNat_natCast]
  rw [made_cells _ _ rfl]
theorem Hp.made_nums {W w : World} {l : List Itm} (h : Hp W l w) (n : Nat) (hn : n ≤ 10000000000000) : Hp W (nums (some ⟨w.heap.size, 0, none⟩) n n (List.replicate n 0) :: l) (w.alloc (.cells (List.replicate n (.int .i64 0)).toArray 3)) := by
  refine h.new _ (bnew _ _) ?_ (fun k hk => by simp [nums, Value.ownBlock] at hk; omega)
  have := World.ownsRow_lit (base := W.heap.size) (e := 3) (size := 1) w (List.replicate n (.int .i64 0)).toArray n h.below.size (by unfold maxLen; omega) (by simp)
  simpa [nums, ints] using this
theorem Hp.made_flags {W w : World} {l : List Itm} (h : Hp W l w) (n : Nat) (hn : n ≤ 10000000000000) : Hp W (flags (some ⟨w.heap.size, 0, none⟩) n n (List.replicate n false) :: l) (w.alloc (.cells (List.replicate n (.bool false)).toArray 4)) := by
  refine h.new _ (bnew _ _) ?_ (fun k hk => by simp [flags, Value.ownBlock] at hk; omega)
  have := World.ownsRow_lit (base := W.heap.size) (e := 4) (size := 1) w (List.replicate n (.bool false)).toArray n h.below.size (by unfold maxLen; omega) (by simp)
  simpa [flags, bools] using this
theorem Hp.made_numsA {W w : World} {l : List Itm} (h : Hp W l w) (n : Nat) (hn : n ≤ 10000000000000) : Hp W (nums (some ⟨w.heap.size, 0, none⟩) n n (List.replicate n 0) :: l) (w.alloc (.cells (Array.replicate n (.int .i64 0)) 3)) := by
  have := h.made_nums n hn
  simpa using this
theorem Hp.made_flagsA {W w : World} {l : List Itm} (h : Hp W l w) (n : Nat) (hn : n ≤ 10000000000000) : Hp W (flags (some ⟨w.heap.size, 0, none⟩) n n (List.replicate n false) :: l) (w.alloc (.cells (Array.replicate n (.bool false)) 4)) := by
  have := h.made_flags n hn
  simpa using this
/-! ### Operations of a region, one by one -/
/-- One operation of a region that draws its order is taken first. -/
theorem tk {P : Program} {md : Region.Mode} {L : List Oper} {Q : Exit → Act → World → Prop} {S : World → Prop} (i : Nat) (v : Value) {oi : Oper} {fuel : Nat} {listed : Array Bool} {a : Act} {w : World} (hi : L[i]? = some oi)
    (hy : ∀ w, S w → (execOp a.eval oi).run P w = .ok (.value v) w) (h : wpAnyH P md L.toArray Q S fuel (listed.setIfInBounds i true) (a.put oi.dst v) w)
    (hs : Region.noSelect L.toArray = true := by kernel_rfl) (hf : Region.free md L.toArray listed i = true := by kernel_rfl) (hr : (Region.ready md L.toArray listed).contains i = true := by kernel_rfl)
    (hw : Region.wanted oi (yielded L.toArray a.tmps) = true := by rfl) (hS : S w := by assumption) (hQ : ∀ c a w, Q (.panic c) (a.put oi.dst v) w → Q (.panic c) a w := by exact fun _ _ _ h => h) : wpAnyH P md L.toArray Q S (fuel + 1) listed a w :=
  wpAnyH_take (List.getElem?_toArray.trans hi) hs hf hr hQ (.inl ⟨hw, hy⟩) hS h
/-- One operation that is not wanted is taken first. -/
theorem tu {P : Program} {md : Region.Mode} {L : List Oper} {Q : Exit → Act → World → Prop} {S : World → Prop} (i : Nat) {oi : Oper} {fuel : Nat} {listed : Array Bool} {a : Act} {w : World} (hi : L[i]? = some oi)
    (h : wpAnyH P md L.toArray Q S fuel (listed.setIfInBounds i true) (a.put oi.dst undef) w)
    (hs : Region.noSelect L.toArray = true := by kernel_rfl) (hf : Region.free md L.toArray listed i = true := by kernel_rfl) (hr : (Region.ready md L.toArray listed).contains i = true := by kernel_rfl)
    (hw : Region.wanted oi (yielded L.toArray a.tmps) = false := by rfl) (hS : S w := by assumption) (hQ : ∀ c a w, Q (.panic c) (a.put oi.dst undef) w → Q (.panic c) a w := by exact fun _ _ _ h => h) : wpAnyH P md L.toArray Q S (fuel + 1) listed a w :=
  wpAnyH_take (List.getElem?_toArray.trans hi) hs hf hr hQ (.inr ⟨hw, rfl⟩) hS h
theorem sA {α : Type} (l : List α) (i : Nat) (x : α) : l.toArray.setIfInBounds i x = (l.set i x).toArray := List.setIfInBounds_toArray l i x
theorem sZ {α : Type} (a b : α) (l : List α) : (a :: l).set 0 b = b :: l := rfl
theorem sS {α : Type} (a b : α) (l : List α) (n : Nat) : (a :: l).set (n + 1) b = a :: l.set n b := rfl
end Go.Proofs.Ytdkdfmflghbhiaa
