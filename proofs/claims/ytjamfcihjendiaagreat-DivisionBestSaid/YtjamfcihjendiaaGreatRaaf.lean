/- Several texts in one: DBa. -/
import Derived.Test.YtjamfcihjendiaaGreatRows
import Derived.WalkKit
import Derived.Below
import Derived.Laws.OwnMore
import Derived.Laws.NewBlocks
import Derived.Deep.AppendLies
import Derived.Lib.Hide
import Derived.Deep.QuietTactic
import Derived.Deep.RegionHeld3
import Derived.Deep.DeepCutAuto
import Derived.Deep.CutBlock
import Derived.OwnWalk
import Derived.ChangeOld
import Derived.Deep.Slices
import Derived.Deep.Strs
import Derived.ChangeSlices
import Derived.SizedLaws
import Derived.OpenShut
import Derived.SliceStrings
import Derived.ProofKit
import Derived.ShutString
import Derived.Deep.DeepHandedRow
import Derived.Lib.SmallJoins
import Derived.WalkSpells
import Derived.WalkLawsBesides
import Derived.IntWalk
import Derived.Outline
import Derived.BigQuiet
import Derived.BigRegion
namespace Go.Proofs.YtjamfcihjendiaaGreat
open Go.RowKit
set_option linter.unusedVariables false
set_option linter.unusedSimpArgs false
set_option maxRecDepth 100000

theorem get_snoc {β : Type} {l : List β} {x z : β} {j : Nat} (h : (l ++ [x])[j]? = some z) : (j < l.length ∧ l[j]? = some z) ∨ (j = l.length ∧ z = x) := by
  by_cases hj : j < l.length
  · rw [List.getElem?_append_left hj] at h; exact .inl ⟨hj, h⟩
  · rw [List.getElem?_append_right (by omega)] at h
    have hj2 := (List.getElem?_eq_some_iff.1 h).1
    simp at hj2
    have e : j - l.length = 0 := by omega
    rw [e] at h
    injection h with h
    exact .inr ⟨by omega, h.symm⟩
theorem get_last {β : Type} {l : List β} {x : β} : (l ++ [x])[l.length]? = some x := by
  rw [List.getElem?_append_right (Nat.le_refl _), Nat.sub_self]; rfl
theorem Pt.set_at {β : Type} {l : List β} {i j : Nat} {x : β} (hi : i < l.length) : (l.set i x)[j]? = if j = i then some x else l[j]? := by
  rw [List.getElem?_set]
  by_cases e : j = i
  · subst e; rw [if_pos rfl, if_pos rfl, if_pos hi]
  · rw [if_neg (fun f => e f.symm), if_neg e]
theorem btwo {w w1 w2 : World} (h1 : Below w.heap.size w w1) (h2 : Below w1.heap.size w1 w2) : Below w.heap.size w w2 := h1.trans (h2.mono h1.size)
theorem bnew (w : World) (o : Obj) : Below w.heap.size w (w.alloc o) := (Below.refl _ _).alloc (Nat.le_refl _) _
theorem bdrew (w : World) : Below w.heap.size w w.drew := (Below.refl _ _).drew
theorem bdrewN (w : World) (n : Nat) : Below w.heap.size w (w.drewN n) := by
  induction n with
  | zero => exact Below.refl _ _
  | succ n ih => exact ih.drew
theorem grown_of {w w' : World} (h : Below w.heap.size w w') : w.grownBy w' none := ⟨h.os, h.tape, h.output, h.size, fun k hk _ => h.block k hk⟩
theorem ret_bool {a b : Bool} (h : a = b) : Ending.returned (.bool a) = .returned (.bool b) := by rw [h]
theorem ret_int {k : IntKind} {a b : Int} (h : a = b) : Ending.returned (.int k a) = .returned (.int k b) := by rw [h]

theorem beq_no {a b : Int} (h : ¬ a = b) : (a == b) = false := by rw [beq_eq_false_iff_ne]; exact h
theorem bne_yes {a b : Int} (h : ¬ a = b) : (a != b) = true := by rw [bne_iff_ne]; exact h
theorem beq_yes {a b : Int} (h : a = b) : (a == b) = true := by rw [beq_iff_eq]; exact h
theorem bne_no {a b : Int} (h : a = b) : (a != b) = false := by rw [h]; simp

def ints (L : List Int) : List Value := L.map (Value.int .i64)
def bools (L : List Bool) : List Value := L.map Value.bool
theorem ints_len (L : List Int) : (ints L).length = L.length := by simp [ints]
theorem bools_len (L : List Bool) : (bools L).length = L.length := by simp [bools]
theorem ints_at {L : List Int} {j : Nat} (h : j < L.length) : (ints L)[j]? = some (.int .i64 (L.getD j 0)) := by
  rw [List.getD_eq_getElem?_getD, List.getElem?_eq_getElem h]; simp [ints, h]
theorem bools_at {L : List Bool} {j : Nat} (h : j < L.length) : (bools L)[j]? = some (.bool (L.getD j false)) := by
  rw [List.getD_eq_getElem?_getD, List.getElem?_eq_getElem h]; simp [bools, h]
def CellsIn (w : World) (A : Option Addr) (xs : List Value) : Prop :=
  0 < xs.length → ∃ b off, A = some ⟨b, off, none⟩ ∧ b < w.heap.size ∧ ∀ (j : Nat) u, xs[j]? = some u → w.cell? ⟨b, off + j, none⟩ = some u
theorem CellsIn.below {w w' : World} {A : Option Addr} {xs : List Value} (h : CellsIn w A xs) (hb : Below w.heap.size w w') : CellsIn w' A xs := by
  intro h0
  obtain ⟨b, off, e, hlt, hc⟩ := h h0
  exact ⟨b, off, e, Nat.lt_of_lt_of_le hlt hb.size, fun j u hu => (hb.cell (p := ⟨b, off + j, none⟩) hlt).trans (hc j u hu)⟩
theorem CellsIn.nil (w : World) (A : Option Addr) : CellsIn w A [] := fun h => by simp at h
def RowsIn (w : World) (A : Option Addr) (R : List (List Int)) : Prop :=
  0 < R.length → ∃ b off, A = some ⟨b, off, none⟩ ∧ b < w.heap.size ∧ ∀ (j : Nat) row, R[j]? = some row →
    ∃ Aj cj, w.cell? ⟨b, off + j, none⟩ = some (.slice Aj row.length cj) ∧ row.length ≤ cj ∧ row.length ≤ 17592186044416 ∧ CellsIn w Aj (ints row)
theorem RowsIn.below {w w' : World} {A : Option Addr} {R : List (List Int)} (h : RowsIn w A R) (hb : Below w.heap.size w w') : RowsIn w' A R := by
  intro h0
  obtain ⟨b, off, e, hlt, hc⟩ := h h0
  refine ⟨b, off, e, Nat.lt_of_lt_of_le hlt hb.size, fun j row hr => ?_⟩
  obtain ⟨Aj, cj, h1, h2, h3, h4⟩ := hc j row hr
  exact ⟨Aj, cj, (hb.cell (p := ⟨b, off + j, none⟩) hlt).trans h1, h2, h3, h4.below hb⟩
theorem CellsIn.int {w : World} {A : Option Addr} {L : List Int} (h : CellsIn w A (ints L)) {j : Nat} (hj : j < L.length) : ∃ b off, A = some ⟨b, off, none⟩ ∧ b < w.heap.size ∧ w.cell? ⟨b, off + j, none⟩ = some (.int .i64 (L.getD j 0)) := by
  obtain ⟨b, off, e, hlt, hc⟩ := h (by rw [ints_len]; omega)
  exact ⟨b, off, e, hlt, hc j _ (ints_at hj)⟩
theorem CellsIn.bool {w : World} {A : Option Addr} {L : List Bool} (h : CellsIn w A (bools L)) {j : Nat} (hj : j < L.length) : ∃ b off, A = some ⟨b, off, none⟩ ∧ b < w.heap.size ∧ w.cell? ⟨b, off + j, none⟩ = some (.bool (L.getD j false)) := by
  obtain ⟨b, off, e, hlt, hc⟩ := h (by rw [bools_len]; omega)
  exact ⟨b, off, e, hlt, hc j _ (bools_at hj)⟩

def Keep (l : List (Addr × Value)) (w : World) : Prop := ∀ p ∈ l, w.cell? p.1 = some p.2 ∧ p.1.block < w.heap.size
theorem Keep.go {l : List (Addr × Value)} {w w' : World} (h : Keep l w) (hb : Below w.heap.size w w') : Keep l w' := fun p hp =>
  ⟨(hb.cell (p := p.1) (h p hp).2).trans (h p hp).1, Nat.lt_of_lt_of_le (h p hp).2 hb.size⟩
theorem Keep.drew {l : List (Addr × Value)} {w : World} (h : Keep l w) : Keep l w.drew := h.go (bdrew _)
theorem Keep.set {l : List (Addr × Value)} {w : World} (h : Keep l w) (g j : Nat) (u : Value) (hg : ∀ p ∈ l, ¬ p.1.block = g) : Keep l (w.setCell ⟨g, j, none⟩ u) := fun p hp =>
  ⟨(World.cell?_of_block (w := w) (Below.heap_setCell _ _ _ _ (by show ¬ p.1.block = g; exact hg p hp))).trans (h p hp).1, by simpa [World.setCell] using (h p hp).2⟩
theorem Keep.grown {l : List (Addr × Value)} {w w' : World} {row : Option Nat} (h : Keep l w) (hg : w.grownBy w' row) (hr : ∀ p ∈ l, some p.1.block ≠ row) : Keep l w' := fun p hp =>
  ⟨hg.cell (h p hp).1 (hr p hp), Nat.lt_of_lt_of_le (h p hp).2 hg.size⟩

structure Itm where
  e : TypeId
  size : Nat
  v : Value
  n : Nat
  xs : List Value
def Itm.far (a b : Itm) : Prop := ∀ k, a.v.ownBlock = some k → b.v.ownBlock ≠ some k
theorem Itm.far.symm {a b : Itm} (h : a.far b) : b.far a := fun k h1 h2 => h k h2 h1
structure Hp (W : World) (l : List Itm) (w : World) : Prop where
  own : ∀ (i : Nat) it, l[i]? = some it → w.ownsRow W.heap.size it.e it.size it.v it.n it.xs
  sep : ∀ (i j : Nat) a b, i ≠ j → l[i]? = some a → l[j]? = some b → a.far b
  below : Below W.heap.size W w
namespace Hp
variable {W w w' : World} {l : List Itm} {it : Itm} {i : Nat}
theorem start (W : World) : Hp W [] W := ⟨fun i it h => by simp at h, fun i j a b _ h => by simp at h, Below.refl _ _⟩
theorem go (h : Hp W l w) (hb : Below w.heap.size w w') : Hp W l w' :=
  ⟨fun i it hi => (h.own i it hi).kept (grown_of hb) (by cases it.v.ownBlock <;> simp), h.sep, btwo h.below hb⟩
theorem lt (h : Hp W l w) (hi : l[i]? = some it) {k : Nat} (hk : it.v.ownBlock = some k) : W.heap.size ≤ k ∧ k < w.heap.size := (h.own i it hi).lt k hk
theorem sub (h : Hp W l w) {l' : List Itm} (f : Nat → Nat) (hf : ∀ i j, f i = f j → i = j) (hl : ∀ (i : Nat) it, l'[i]? = some it → l[f i]? = some it) : Hp W l' w :=
  ⟨fun i it hi => h.own _ it (hl i it hi), fun i j a b hij ha hb => h.sep _ _ a b (fun e => hij (hf _ _ e)) (hl i a ha) (hl j b hb), h.below⟩
theorem tail (h : Hp W (it :: l) w) : Hp W l w := h.sub (fun i => i + 1) (fun i j e => by omega) (fun i it hi => by simpa using hi)
theorem drop2 {a b : Itm} (h : Hp W (a :: b :: l) w) : Hp W (a :: l) w := h.sub (fun i => if i = 0 then 0 else i + 1) (fun i j e => by
    by_cases h1 : i = 0 <;> by_cases h2 : j = 0 <;> simp [h1, h2] at e ⊢ <;> omega) (fun i it hi => by
    cases i with
    | zero => simpa using hi
    | succ i => simpa using hi)
theorem new (h : Hp W l w) (it : Itm) (hb : Below w.heap.size w w') (ho : w'.ownsRow W.heap.size it.e it.size it.v it.n it.xs) (hk : ∀ k, it.v.ownBlock = some k → w.heap.size ≤ k) : Hp W (it :: l) w' := by
  have h2 := h.go hb
  have key : ∀ (j : Nat) b, l[j]? = some b → it.far b := fun j b hb2 k h3 h4 => by
    have := (h.lt hb2 h4).2
    have := hk k h3
    omega
  refine ⟨fun i x hi => ?_, fun i j a b hij ha hb2 => ?_, h2.below⟩
  · cases i with
    | zero => injection hi with hi; subst hi; exact ho
    | succ i => exact h2.own i x (by simpa using hi)
  · cases i with
    | zero =>
      cases j with
      | zero => exact absurd rfl hij
      | succ j => injection ha with ha; subst ha; exact key j b (by simpa using hb2)
    | succ i =>
      cases j with
      | zero => injection hb2 with hb2; subst hb2; exact (key i a (by simpa using ha)).symm
      | succ j => exact h.sep i j a b (by omega) (by simpa using ha) (by simpa using hb2)
theorem nil_row (h : Hp W l w) (it : Itm) (hv : it.v = .slice none 0 0) (hn : it.n = 0) (hx : it.xs = []) : Hp W (it :: l) w :=
  h.new it (Below.refl _ _) (by rw [hv, hn, hx]; exact World.ownsRow_nil _ _ _ _) (fun k hk => by rw [hv] at hk; cases hk)
theorem upd (h : Hp W l w) (hi : l[i]? = some it) (nw : Itm) (hg : w.grownBy w' it.v.ownBlock) (ho : w'.ownsRow W.heap.size nw.e nw.size nw.v nw.n nw.xs)
    (hk : ∀ k, nw.v.ownBlock = some k → it.v.ownBlock = some k ∨ w.heap.size ≤ k) : Hp W (l.set i nw) w' := by
  have hil := (List.getElem?_eq_some_iff.1 hi).1
  have key : ∀ (j : Nat) b, j ≠ i → l[j]? = some b → nw.far b := fun j b hj hb k h3 h4 => by
    rcases hk k h3 with e | e
    · exact h.sep i j it b (fun e => hj e.symm) hi hb k e h4
    · have := (h.lt hb h4).2
      omega
  have at' : ∀ (j : Nat) b, (l.set i nw)[j]? = some b → (j = i ∧ b = nw) ∨ (j ≠ i ∧ l[j]? = some b) := by
    intro j b hj
    rw [Pt.set_at hil] at hj
    split at hj
    · injection hj with hj; exact .inl ⟨by assumption, hj.symm⟩
    · exact .inr ⟨by assumption, hj⟩
  refine ⟨fun j b hj => ?_, fun j k a b hjk ha hb => ?_, h.below.grown hg h.below.size fun k hk => (h.lt hi hk).1⟩
  · rcases at' j b hj with ⟨rfl, rfl⟩ | ⟨hne, hj⟩
    · exact ho
    · refine (h.own j b hj).kept hg ?_
      cases e : b.v.ownBlock with
      | none => exact .inl rfl
      | some k => exact .inr fun e2 => h.sep j i b it hne hj hi k e e2.symm
  · rcases at' j a ha with ⟨e1, e2⟩ | ⟨hne, ha2⟩ <;> rcases at' k b hb with ⟨e3, e4⟩ | ⟨hne2, hb2⟩
    · exact absurd (e1.trans e3.symm) hjk
    · rw [e2]; exact key k b hne2 hb2
    · rw [e4]; exact (key j a hne ha2).symm
    · exact h.sep j k a b hjk ha2 hb2
theorem cell (h : Hp W l w) (hi : l[i]? = some it) {g cap : Nat} (hv : it.v = .slice (some ⟨g, 0, none⟩) it.n cap) {j : Nat} {u : Value} (hj : it.xs[j]? = some u) :
    w.cell? ⟨g, j, none⟩ = some u ∧ w.frozen? ⟨g, j, none⟩ = false ∧ g < w.heap.size := by
  have ho := h.own i it hi
  rw [hv] at ho
  have hjl := (List.getElem?_eq_some_iff.1 hj).1
  rw [ho.1] at hjl
  exact ⟨(ho.cellAt j hjl).trans hj, ho.frozenAt j, (ho.lt g rfl).2⟩
theorem store (h : Hp W l w) (hi : l[i]? = some it) {g cap : Nat} (hv : it.v = .slice (some ⟨g, 0, none⟩) it.n cap) (j : Nat) (u : Value) :
    Hp W (l.set i { it with xs := it.xs.set j u }) (w.setCell ⟨g, j, none⟩ u) := by
  have ho := h.own i it hi
  rw [hv] at ho
  obtain ⟨h1, h2⟩ := ho.stored j u
  refine h.upd hi _ (by rw [hv]; exact h2) (by rw [← hv] at h1; exact h1) (fun k hk => .inl hk)
theorem cells (h : Hp W l w) (hi : l[i]? = some it) {A : Option Addr} {c : Nat} (hv : it.v = .slice A it.n c) : CellsIn w A it.xs := by
  intro h0
  have ho := h.own i it hi
  rcases ho.2 with ⟨e, hn⟩ | ⟨g, cap, cur, e, _, hg, _⟩
  · rw [ho.1, hn] at h0; omega
  · rw [hv] at e
    injection e with e1
    subst e1
    have hlt := (h.lt hi (k := g) (by rw [hv]; rfl)).2
    refine ⟨g, 0, rfl, hlt, fun j u hu => ?_⟩
    rw [Nat.zero_add]
    exact (h.cell hi (cap := c) hv hu).1
theorem form (h : Hp W l w) (hi : l[i]? = some it) : ∃ A c, it.v = .slice A it.n c ∧ it.n ≤ c ∧ c ≤ maxLen ∧ (0 < it.n → ∃ g, A = some ⟨g, 0, none⟩) := by
  have ho := h.own i it hi
  rcases ho.2 with ⟨e, hn⟩ | ⟨g, cap, cur, e, _, _, h1, h2, _⟩
  · exact ⟨none, 0, by rw [e, hn], by omega, by unfold maxLen; omega, fun h => by omega⟩
  · exact ⟨_, cap, e, h1, h2, fun _ => ⟨g, rfl⟩⟩
end Hp
def box (T : TypeId) (g : Nat) (cs : List Value) : Itm := ⟨T, cs.length, .slice (some ⟨g, 0, none⟩) 1 1, 1, cs⟩
theorem Hp.box_new {W w : World} {l : List Itm} (h : Hp W l w) (T : TypeId) (cs : List Value) : Hp W (box T w.heap.size cs :: l) (w.alloc (.cells cs.toArray T)) := by
  refine h.new _ (bnew _ _) ?_ (fun k hk => by simp [box, Value.ownBlock] at hk; omega)
  have := World.ownsRow_lit (base := W.heap.size) (e := T) (size := cs.length) w cs.toArray 1 h.below.size (by unfold maxLen; omega) (by simp)
  simpa [box] using this
theorem Hp.box_at {W w : World} {l : List Itm} {T : TypeId} {g i : Nat} {cs : List Value} (h : Hp W l w) (hi : l[i]? = some (box T g cs)) {j : Nat} {u : Value} (hj : cs[j]? = some u) :
    w.cell? ⟨g, j, none⟩ = some u ∧ w.frozen? ⟨g, j, none⟩ = false ∧ g < w.heap.size := h.cell hi (cap := 1) rfl hj
theorem Hp.box_set {W w : World} {l : List Itm} {T : TypeId} {g i : Nat} {cs : List Value} (h : Hp W l w) (hi : l[i]? = some (box T g cs)) (j : Nat) (u : Value) :
    Hp W (l.set i (box T g (cs.set j u))) (w.setCell ⟨g, j, none⟩ u) := by
  have := h.store hi (g := g) (cap := 1) rfl j u
  simpa [box] using this
theorem Hp.pick {W w : World} {l l' : List Itm} (h : Hp W l w) (is : List Nat) (hnd : is.Nodup) (hl : l'.map some = is.map (fun i => l[i]?)) : Hp W l' w := by
  have key : ∀ (i : Nat) it, l'[i]? = some it → ∃ j : Nat, is[i]? = some j ∧ l[j]? = some it := by
    intro i it hi
    have h1 : (l'.map some)[i]? = some (some it) := by rw [List.getElem?_map, hi]; rfl
    rw [hl, List.getElem?_map] at h1
    cases e : is[i]? with
    | none => rw [e] at h1; cases h1
    | some j => rw [e] at h1; injection h1 with h1; exact ⟨j, rfl, h1⟩
  refine ⟨fun i it hi => ?_, fun i j a b hij ha hb => ?_, h.below⟩
  · obtain ⟨k, _, hk⟩ := key i it hi
    exact h.own k it hk
  · obtain ⟨u, u1, u2⟩ := key i a ha
    obtain ⟨v, v1, v2⟩ := key j b hb
    refine h.sep u v a b (fun e => hij ?_) u2 v2
    subst e
    have e1 := (List.getElem?_eq_some_iff.1 u1)
    have e2 := (List.getElem?_eq_some_iff.1 v1)
    obtain ⟨x1, x2⟩ := e1
    obtain ⟨y1, y2⟩ := e2
    have hp := List.pairwise_iff_getElem.1 hnd
    rcases Nat.lt_trichotomy i j with e | e | e
    · exact absurd (x2.trans y2.symm) (hp i j x1 y1 e)
    · exact e
    · exact absurd (y2.trans x2.symm) (hp j i y1 x1 e)
def nums (A : Option Addr) (n c : Nat) (L : List Int) : Itm := ⟨3, 1, .slice A n c, n, ints L⟩
section
variable {W w : World} {l : List Itm} {g n c i : Nat} {A : Option Addr} {L : List Int} {F : List Bool} {ps : List (Int × Int)} {T : TypeId}
theorem Hp.num_len (h : Hp W l w) (hi : l[i]? = some (nums A n c L)) : L.length = n := by
  have := (h.own i _ hi).1
  simpa [nums, ints] using this
theorem Hp.num_at (h : Hp W l w) (hi : l[i]? = some (nums (some ⟨g, 0, none⟩) n c L)) {j : Nat} (hj : j < L.length) :
    w.cell? ⟨g, j, none⟩ = some (.int .i64 (L.getD j 0)) ∧ w.frozen? ⟨g, j, none⟩ = false ∧ g < w.heap.size := h.cell hi (cap := c) rfl (ints_at hj)
theorem Hp.head (h : Hp W l w) {it : Itm} (hi : l[i]? = some it) (hv : it.v = .slice A it.n c) (h0 : 0 < it.n) : ∃ g, A = some ⟨g, 0, none⟩ := by
  obtain ⟨A', c', e, _, _, h4⟩ := h.form hi
  rw [hv] at e
  injection e with e1
  subst e1
  exact h4 h0
theorem Hp.cap (h : Hp W l w) {it : Itm} (hi : l[i]? = some it) (hv : it.v = .slice A it.n c) : it.n ≤ c ∧ c ≤ maxLen := by
  obtain ⟨A', c', e, h2, h3, _⟩ := h.form hi
  rw [hv] at e
  injection e with e1 e2 e3
  subst e3
  exact ⟨h2, h3⟩
end
theorem int_info : (Tryz.prog.info? 3).map (fun i => (i.zero, i.size, i.bytes)) = some (some (.int .i64 0), 1, 8) := by kernel_rfl
theorem run_app {W w : World} {l : List Itm} {i : Nat} {it : Itm} (h : Hp W l w) (hi : l[i]? = some it) {t ty : TypeId} {z : Value} {bytes : Nat} (ht : Tryz.prog.underlying t = some (.slice it.e))
    (hinf : (Tryz.prog.info? it.e).map (fun i => (i.zero, i.size, i.bytes)) = some (some z, it.size, bytes)) (hzs : z.cells.size = it.size) (hsz : 0 < it.size) (hby : bytes ≤ 32)
    {A : Option Addr} {c : Nat} (hv : it.v = .slice A it.n c) {b : Nat} (news : List Value) (hl : news.length = it.size) (hnews : ∀ (j : Nat) u, news[j]? = some u → w.cell? ⟨b, j, none⟩ = some u) (h1 : ∀ u ∈ news, u.oneCell' = true) (hn : it.n ≤ 4000000000000) :
    ∃ g cap w', (Builtin.append_ #[t, t] ty #[.slice A it.n c, .slice (some ⟨b, 0, none⟩) 1 1]).run Tryz.prog w = .ok (.slice (some ⟨g, 0, none⟩) (it.n + 1) cap) w' ∧
      Hp W (l.set i { it with v := .slice (some ⟨g, 0, none⟩) (it.n + 1) cap, n := it.n + 1, xs := it.xs ++ news }) w' ∧ w.grownBy w' it.v.ownBlock := by
  obtain ⟨i0, hi0, hz0, hz1, hz2⟩ := info_parts hinf
  obtain ⟨g, cap, w', hr, ho, hg, hat, _⟩ := run_append_lies (P := Tryz.prog) w t ty W.heap.size it.e i0 z it.size bytes ht hi0 hz0 hz1 hz2 hzs hsz (.slice A it.n c) it.n it.xs (by rw [← hv]; exact h.own i it hi) ⟨b, 0, none⟩ 1 1 news (by rw [hl, Nat.one_mul])
    (fun j u hu => by
      have e : (⟨b, 0, none⟩ : Addr).add j = ⟨b, j, none⟩ := by unfold Addr.add; split <;> simp_all
      rw [e]; exact hnews j u hu) h1 (by omega) (by unfold maxLen; omega) (by
        have := Nat.mul_le_mul (show it.n + 1 ≤ 4000000000001 by omega) hby
        omega) h.below.size _ rfl
  refine ⟨g, cap, w', hr, ?_, by rw [hv]; exact hg⟩
  refine h.upd hi _ (by rw [hv]; exact hg) ho (fun k hk => ?_)
  simp [Value.ownBlock] at hk
  subst hk
  rcases hat with e | e
  · exact .inl (by rw [hv]; exact e)
  · exact .inr (by omega)
theorem wp_app_run {P : Program} {w w' : World} {v' : Value} {o : Oper} {a : Act} {K : Act → World → Prop} {Q : Exit → Act → World → Prop} (s x : Operand) (t : TypeId)
    (ho : o.op = .call { callee := .builtin .append, args := #[s, x], argTypes := #[t, t] }) {vs vx : Value} (hr : (Builtin.append_ #[t, t] o.type #[vs, vx]).run P w = .ok v' w') (hs : a.eval s = vs) (hx : a.eval x = vx)
    (h : K (a.put o.dst v') w') : o.wp P a w K Q := by
  unfold Oper.wp execOp
  simp only [ho, resolve, invoke, builtin, Sem.run_bind, Sem.run_pure, Result.andThen_ok, List.map_toArray, List.map_cons, List.map_nil, hs, hx, hr]
  exact h
theorem wpList_app_run {P : Program} {w w' : World} {v' : Value} {ops : Array Oper} {rest : List Oper} {o : Oper} {a : Act} {Q : Exit → Act → World → Prop} (hgd : o.guard = none) (s x : Operand) (t : TypeId)
    (ho : o.op = .call { callee := .builtin .append, args := #[s, x], argTypes := #[t, t] }) {vs vx : Value} (hr : (Builtin.append_ #[t, t] o.type #[vs, vx]).run P w = .ok v' w') (hs : a.eval s = vs) (hx : a.eval x = vx)
    (h : wpList P ops Q rest (a.put o.dst v') w') : wpList P ops Q (o :: rest) a w :=
  wpList_plain hgd fun _ hK => wp_app_run s x t ho hr hs hx (hK _ _ h)
theorem step_app_run {P : Program} {w w' : World} {v' : Value} {ops : Array Oper} {o : Oper} {a : Act} {K : Act → World → Prop} {Q : Exit → Act → World → Prop} {E : Prop} (hgd : o.guard = none) (s x : Operand) (t : TypeId)
    (ho : o.op = .call { callee := .builtin .append, args := #[s, x], argTypes := #[t, t] }) {vs vx : Value} (hr : (Builtin.append_ #[t, t] o.type #[vs, vx]).run P w = .ok v' w') (hs : a.eval s = vs) (hx : a.eval x = vx)
    (h : K (a.put o.dst v') w') : if Region.wanted o (yielded ops a.tmps) = true then Oper.wp P o a w K Q else E := by
  have hw : Region.wanted o (yielded ops a.tmps) = true := by simp [Region.wanted, hgd]
  rw [if_pos hw]
  exact wp_app_run s x t ho hr hs hx h
theorem run_app_num {W w : World} {l : List Itm} {i : Nat} {A : Option Addr} {n c : Nat} {L : List Int} (h : Hp W l w) (hi : l[i]? = some (nums A n c L)) (ty : TypeId) {b : Nat} (x : Int) (hb : w.cell? ⟨b, 0, none⟩ = some (.int .i64 x)) (hn : n ≤ 4000000000000) :
    ∃ g cap w', (Builtin.append_ #[35, 35] ty #[.slice A n c, .slice (some ⟨b, 0, none⟩) 1 1]).run Tryz.prog w = .ok (.slice (some ⟨g, 0, none⟩) (n + 1) cap) w' ∧
      Hp W (l.set i (nums (some ⟨g, 0, none⟩) (n + 1) cap (L ++ [x]))) w' ∧ w.grownBy w' (Value.slice A n c).ownBlock := by
  have := run_app h hi (t := 35) (ty := ty) Tryz.underlying35 int_info rfl (Nat.zero_lt_one) (by decide) (A := A) (c := c) rfl (b := b) [.int .i64 x] rfl (fun j u hu => by
    cases j with
    | zero => injection hu with hu; subst hu; exact hb
    | succ j => simp at hu) (fun u hu => by rw [List.mem_singleton.1 hu]; rfl) hn
  simpa [nums, ints] using this
theorem made_cells (z : Value) (n : Nat) (hz : z.cells = #[z]) : madeCells z.cells (n * 1) = (List.replicate n z).toArray := by
  rw [hz]; apply Array.ext'; rw [Nat.mul_one, toList_madeCells_one]
theorem tk {P : Program} {md : Region.Mode} {L : List Oper} {Q : Exit → Act → World → Prop} {S : World → Prop} (i : Nat) (v : Value) {oi : Oper} {fuel : Nat} {listed : Array Bool} {a : Act} {w : World} (hi : L[i]? = some oi)
    (hy : ∀ w, S w → (execOp a.eval oi).run P w = .ok (.value v) w) (h : wpAnyH P md L.toArray Q S fuel (listed.setIfInBounds i true) (a.put oi.dst v) w)
    (hs : Region.noSelect L.toArray = true := by kernel_rfl) (hf : Region.free md L.toArray listed i = true := by kernel_rfl) (hr : (Region.ready md L.toArray listed).contains i = true := by kernel_rfl)
    (hw : Region.wanted oi (yielded L.toArray a.tmps) = true := by rfl) (hS : S w := by assumption) (hQ : ∀ c a w, Q (.panic c) (a.put oi.dst v) w → Q (.panic c) a w := by exact fun _ _ _ h => h) : wpAnyH P md L.toArray Q S (fuel + 1) listed a w :=
  wpAnyH_take (List.getElem?_toArray.trans hi) hs hf hr hQ (.inl ⟨hw, hy⟩) hS h
theorem tu {P : Program} {md : Region.Mode} {L : List Oper} {Q : Exit → Act → World → Prop} {S : World → Prop} (i : Nat) {oi : Oper} {fuel : Nat} {listed : Array Bool} {a : Act} {w : World} (hi : L[i]? = some oi)
    (h : wpAnyH P md L.toArray Q S fuel (listed.setIfInBounds i true) (a.put oi.dst undef) w)
    (hs : Region.noSelect L.toArray = true := by kernel_rfl) (hf : Region.free md L.toArray listed i = true := by kernel_rfl) (hr : (Region.ready md L.toArray listed).contains i = true := by kernel_rfl)
    (hw : Region.wanted oi (yielded L.toArray a.tmps) = false := by rfl) (hS : S w := by assumption) (hQ : ∀ c a w, Q (.panic c) (a.put oi.dst undef) w → Q (.panic c) a w := by exact fun _ _ _ h => h) : wpAnyH P md L.toArray Q S (fuel + 1) listed a w :=
  wpAnyH_take (List.getElem?_toArray.trans hi) hs hf hr hQ (.inr ⟨hw, rfl⟩) hS h
theorem sA {α : Type} (l : List α) (i : Nat) (x : α) : l.toArray.setIfInBounds i x = (l.set i x).toArray := List.setIfInBounds_toArray l i x
theorem sZ {α : Type} (a b : α) (l : List α) : (a :: l).set 0 b = b :: l := rfl
theorem sS {α : Type} (a b : α) (l : List α) (n : Nat) : (a :: l).set (n + 1) b = a :: l.set n b := rfl

theorem own_base {w : World} {b b0 : Nat} {e : TypeId} {sz : Nat} {v : Value} {n : Nat} {xs : List Value} (h : w.ownsRow b e sz v n xs) (hb : b0 ≤ b) : w.ownsRow b0 e sz v n xs := by
  refine ⟨h.1, ?_⟩
  rcases h.2 with hn | ⟨g, cap, cur, e1, h1, rest⟩
  · exact .inl hn
  · exact .inr ⟨g, cap, cur, e1, Nat.le_trans hb h1, rest⟩
theorem Hp.join {W w w' : World} {l l2 : List Itm} (h : Hp W l w) (h2 : Hp w l2 w') : Hp W (l2 ++ l) w' := by
  have h3 := h.go h2.below
  have far : ∀ (i j : Nat) a b, l2[i]? = some a → l[j]? = some b → a.far b := fun i j a b ha hb k h4 h5 => by
    have := (h2.lt ha h4).1
    have := (h.lt hb h5).2
    omega
  refine ⟨fun i it hi => ?_, fun i j a b hij ha hb => ?_, h3.below⟩
  · by_cases e : i < l2.length
    · rw [List.getElem?_append_left e] at hi
      exact own_base (h2.own i it hi) h.below.size
    · rw [List.getElem?_append_right (by omega)] at hi
      exact h3.own _ it hi
  · by_cases e : i < l2.length <;> by_cases e2 : j < l2.length
    · rw [List.getElem?_append_left e] at ha
      rw [List.getElem?_append_left e2] at hb
      exact h2.sep i j a b hij ha hb
    · rw [List.getElem?_append_left e] at ha
      rw [List.getElem?_append_right (by omega)] at hb
      exact far _ _ a b ha hb
    · rw [List.getElem?_append_right (by omega)] at ha
      rw [List.getElem?_append_left e2] at hb
      exact (far _ _ b a hb ha).symm
    · rw [List.getElem?_append_right (by omega)] at ha
      rw [List.getElem?_append_right (by omega)] at hb
      exact h.sep _ _ a b (by omega) ha hb
theorem Hp.sink {W w : World} {l l2 : List Itm} {x : Itm} (h : Hp W (x :: (l ++ l2)) w) : Hp W (l ++ x :: l2) w := by
  refine h.sub (fun i => if i < l.length then i + 1 else if i = l.length then 0 else i) (fun i j e => ?_) (fun i it hi => ?_)
  · repeat' split at e
    all_goals omega
  · by_cases h1 : i < l.length
    · rw [List.getElem?_append_left h1] at hi
      simp only [h1, if_true]
      rw [List.getElem?_cons_succ, List.getElem?_append_left h1]
      exact hi
    · rw [List.getElem?_append_right (by omega)] at hi
      simp only [h1, if_false]
      by_cases h2 : i = l.length
      · rw [if_pos h2]
        rw [h2, Nat.sub_self] at hi
        simpa using hi
      · rw [if_neg h2]
        obtain ⟨k, hk⟩ : ∃ k, i = l.length + (k + 1) := ⟨i - l.length - 1, by omega⟩
        rw [show i - l.length = k + 1 by omega, List.getElem?_cons_succ] at hi
        rw [show i = (i - 1) + 1 by omega, List.getElem?_cons_succ, List.getElem?_append_right (by omega), show i - 1 - l.length = k by omega]
        exact hi
theorem row_info : (Tryz.prog.info? 35).map (fun i => (i.zero, i.size, i.bytes)) = some (some (.slice none 0 0), 1, 24) := by kernel_rfl
theorem Hp.lit {W w : World} {l : List Itm} (h : Hp W l w) (e : TypeId) (size n : Nat) (cs : List Value) (hl : cs.length = n * size) (hn : n ≤ 1000000) : Hp W (⟨e, size, .slice (some ⟨w.heap.size, 0, none⟩) n n, n, cs⟩ :: l) (w.alloc (.cells cs.toArray e)) := by
  refine h.new _ (bnew _ _) ?_ (fun k hk => by simp [Value.ownBlock] at hk; omega)
  have := World.ownsRow_lit (base := W.heap.size) (e := e) (size := size) w cs.toArray n h.below.size (by unfold maxLen; omega) (by simpa using hl)
  simpa using this
theorem run_cat {W w : World} {l : List Itm} {i : Nat} {it : Itm} (h : Hp W l w) (hi : l[i]? = some it) {t : TypeId} (ty : TypeId) {z : Value} {bytes : Nat} (ht : Tryz.prog.underlying t = some (.slice it.e))
    (hinf : (Tryz.prog.info? it.e).map (fun i => (i.zero, i.size, i.bytes)) = some (some z, it.size, bytes)) (hzs : z.cells.size = it.size) (hsz : 0 < it.size) (hby : bytes ≤ 32)
    {A : Option Addr} {c : Nat} (hv : it.v = .slice A it.n c) {B : Option Addr} {m d : Nat} (news : List Value) (hl : news.length = m * it.size) (hc : CellsIn w B news) (h1 : ∀ u ∈ news, u.oneCell' = true) (hn : it.n ≤ 2000000000000) (hm : m ≤ 2000000000000) :
    ∃ A2 c2 w', (Builtin.append_ #[t, t] ty #[.slice A it.n c, .slice B m d]).run Tryz.prog w = .ok (.slice A2 (it.n + m) c2) w' ∧
      Hp W (l.set i { it with v := .slice A2 (it.n + m) c2, n := it.n + m, xs := it.xs ++ news }) w' ∧ w.grownBy w' it.v.ownBlock := by
  obtain ⟨i0, hi0, hz0, hz1, hz2⟩ := info_parts hinf
  have hown := h.own i it hi
  by_cases h0 : m = 0
  · subst h0
    have hnews : news = [] := List.eq_nil_of_length_eq_zero (by rw [hl, Nat.zero_mul])
    subst hnews
    cases B with
    | some ad =>
      obtain ⟨v', w', hr, ho, hg, _, hat⟩ := run_append_own_at (P := Tryz.prog) w W.heap.size t ty it.e i0 z it.size bytes ht hi0 hz0 hz1 hz2 hzs hsz (.slice A it.n c) it.n it.xs (by rw [← hv]; exact hown) ad 0 d [] (by simp)
        (fun j u hu => by simp at hu) (fun u hu => by cases hu) (by unfold maxLen; omega) (by
          have := Nat.mul_le_mul (show it.n + 0 ≤ 4000000000000 by omega) hby
          omega) h.below.size
      obtain ⟨A2, c2, rfl⟩ : ∃ A2 c2, v' = .slice A2 (it.n + 0) c2 := by
        rcases ho.2 with ⟨e, e2⟩ | ⟨g, cap, cur, e, _⟩
        · exact ⟨none, 0, by rw [e2]; exact e⟩
        · exact ⟨_, cap, e⟩
      refine ⟨A2, c2, w', hr, ?_, by rw [hv]; exact hg⟩
      refine h.upd hi _ (by rw [hv]; exact hg) ho (fun k hk => ?_)
      rcases hat with e | e
      · exact .inl (by rw [hv, ← e]; exact hk)
      · refine .inr ?_
        have hk2 : (Value.slice A2 (it.n + 0) c2).ownBlock = some k := hk
        rw [e] at hk2
        injection hk2 with hk2
        omega
    | none =>
    have hr : (Builtin.append_ #[t, t] ty #[.slice A it.n c, .slice none 0 d]).run Tryz.prog w = .ok (.slice A it.n c) w := by
      rw [hv] at hown
      rcases hown.2 with ⟨e, e2⟩ | ⟨g, cap, cur, e, _, _, hnc, _⟩
      · rw [e2] at e ⊢
        injection e with e1 e3 e4
        subst e1; subst e4
        simp [Builtin.append_, run_underlying ht, sizeOf, typeInfo, hi0, Builtin.lenOf, Builtin.firstCells]
      · injection e with e1 e3 e4
        subst e1; subst e4
        simp [Builtin.append_, run_underlying ht, sizeOf, typeInfo, hi0, Builtin.lenOf, Builtin.firstCells, hnc, storeCells]
    refine ⟨A, c, w, hr, ?_, ⟨rfl, rfl, rfl, Nat.le_refl _, fun _ _ _ => rfl⟩⟩
    have := h.upd (w' := w) hi { it with v := .slice A (it.n + 0) c, n := it.n + 0, xs := it.xs ++ [] } ⟨rfl, rfl, rfl, Nat.le_refl _, fun _ _ _ => rfl⟩ (by rw [List.append_nil, Nat.add_zero, ← hv]; exact hown) (fun k hk => .inl (by rw [hv]; exact hk))
    exact this
  · have hpos : 0 < news.length := by rw [hl]; exact Nat.mul_pos (by omega) hsz
    obtain ⟨b, off, rfl, hlt, hcell⟩ := hc hpos
    obtain ⟨g, cap, w', hr, ho, hg, hat, _⟩ := run_append_lies (P := Tryz.prog) w t ty W.heap.size it.e i0 z it.size bytes ht hi0 hz0 hz1 hz2 hzs hsz (.slice A it.n c) it.n it.xs (by rw [← hv]; exact hown) ⟨b, off, none⟩ m d news hl
      (fun j u hu => by
        have e : (⟨b, off, none⟩ : Addr).add j = ⟨b, off + j, none⟩ := by unfold Addr.add; split <;> simp_all
        rw [e]; exact hcell j u hu) h1 (by omega) (by unfold maxLen; omega) (by
          have := Nat.mul_le_mul (show it.n + m ≤ 4000000000000 by omega) hby
          omega) h.below.size _ rfl
    refine ⟨_, cap, w', hr, ?_, by rw [hv]; exact hg⟩
    refine h.upd hi _ (by rw [hv]; exact hg) ho (fun k hk => ?_)
    simp [Value.ownBlock] at hk
    subst hk
    rcases hat with e | e
    · exact .inl (by rw [hv]; exact e)
    · exact .inr (by omega)
theorem ints_one' (L : List Int) : ∀ u ∈ ints L, u.oneCell' = true := fun u hu => by
  obtain ⟨x, _, rfl⟩ := List.mem_map.1 hu
  rfl
theorem run_cat_nums {W w : World} {l : List Itm} {i : Nat} {A : Option Addr} {n c : Nat} {L : List Int} (h : Hp W l w) (hi : l[i]? = some (nums A n c L)) (ty : TypeId) {B : Option Addr} {m d : Nat} (X : List Int) (hX : X.length = m) (hc : CellsIn w B (ints X)) (hn : n ≤ 2000000000000) (hm : m ≤ 2000000000000) :
    ∃ A2 c2 w', (Builtin.append_ #[35, 35] ty #[.slice A n c, .slice B m d]).run Tryz.prog w = .ok (.slice A2 (n + m) c2) w' ∧ Hp W (l.set i (nums A2 (n + m) c2 (L ++ X))) w' ∧ w.grownBy w' (Value.slice A n c).ownBlock := by
  have := run_cat h hi (t := 35) ty Tryz.underlying35 int_info rfl (Nat.zero_lt_one) (by decide) (A := A) (c := c) rfl (B := B) (m := m) (d := d) (ints X) (by rw [ints_len, hX]; exact (Nat.mul_one m).symm) hc (ints_one' X) hn hm
  simpa [nums, ints] using this
theorem weights_of {H : Type} {P : Program} {ts : List TypeId} {ds : List (DataW H)} (h : (DataW.weightsEach P ts ds).all (· ≤ reachBytes) = true) {j : Nat} {t : TypeId} {d : DataW H} (ht : ts[j]? = some t) (hd : ds[j]? = some d) : ∀ m ∈ d.weights P t, m ≤ reachBytes :=
  fun m hm => of_decide_eq_true (List.all_eq_true.1 h m (DataW.weights_mem_each ht hd m hm))
theorem weights_in {H : Type} {P : Program} {e : TypeId} : ∀ {l : List (DataW H)} {d : DataW H}, d ∈ l → ∀ n ∈ d.weights P e, n ∈ DataW.weightsAll P e l
  | [], d, hd, n, hn => by cases hd
  | x :: r, d, hd, n, hn => by
    simp only [DataW.weightsAll, List.mem_append]
    rcases List.mem_cons.1 hd with rfl | h
    · exact Or.inl hn
    · exact Or.inr (weights_in h n hn)
theorem int_cells : Tryz.prog.cellsOf 3 = 1 := by kernel_rfl
theorem get_range {β : Type} {f : Nat → β} {n j : Nat} {x : β} (h : ((List.range n).map f)[j]? = some x) : j < n ∧ x = f j := by
  have hj : j < n := by have := (List.getElem?_eq_some_iff.1 h).1; simpa using this
  rw [List.getElem?_map, List.getElem?_range hj] at h
  exact ⟨hj, (Option.some.inj h).symm⟩
open Go.ChangeShapes Go.WideShapes Go.ChangeAt
section
variable {H : Type} {enc : TypeId × Value → H} {W : World} {fuel : Nat}
end
end Go.Proofs.YtjamfcihjendiaaGreat
