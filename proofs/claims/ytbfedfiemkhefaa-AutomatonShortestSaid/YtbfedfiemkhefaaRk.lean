/- Rows beside a map; the rows that the second implementation's walk writes. Nothing here speaks of a function of the program. -/
import Derived.Test.YtbfedfiemkhefaaRj
import Derived.Test.YtbfedfiemkhefaaAMh
namespace Go.Proofs.Ytbfedfiemkhefaa
open Go.RowKit Go.ChangeMaps Go.MapKept
set_option linter.unusedVariables false
set_option linter.unusedSimpArgs false
set_option maxRecDepth 100000

/-- Rows that were made since W, and a map beside them. -/
structure HM (W : World) (l : List Itm) (b : Nat) (ps : List ((Int × Int) × Value)) (w : World) : Prop where
  hp : Hp W l w
  mp : MapIs w b ps
  lo : W.heap.size ≤ b
  far : ∀ (i : Nat) it, l[i]? = some it → it.v.ownBlock ≠ some b
namespace HM
variable {W w w' : World} {l : List Itm} {b : Nat} {ps : List ((Int × Int) × Value)}
theorem go (h : HM W l b ps w) (hb : Below w.heap.size w w') : HM W l b ps w' := ⟨h.hp.go hb, h.mp.below hb, h.lo, h.far⟩
theorem below (h : HM W l b ps w) : Below W.heap.size W w := h.hp.below
theorem box_new (h : HM W l b ps w) (T : TypeId) (cs : List Value) : HM W (box T w.heap.size cs :: l) b ps (w.alloc (.cells cs.toArray T)) := by
  refine ⟨h.hp.box_new T cs, h.mp.below (bnew _ _), h.lo, fun i it hi => ?_⟩
  cases i with
  | zero =>
    injection hi with hi
    subst hi
    have := h.mp.lt
    show (Value.slice (some ⟨w.heap.size, 0, none⟩) 1 1).ownBlock ≠ some b
    simp [Value.ownBlock]
    omega
  | succ i => exact h.far i it (by simpa using hi)
theorem tail {it : Itm} (h : HM W (it :: l) b ps w) : HM W l b ps w := ⟨h.hp.tail, h.mp, h.lo, fun i x hi => h.far (i + 1) x (by simpa using hi)⟩
theorem made (h : Hp W l w) : HM W l w.heap.size [] (w.alloc (.map #[] 0)) := by
  refine ⟨h.go (bnew _ _), made_map w, h.below.size, fun i it hi e => ?_⟩
  have := (h.lt hi e).2
  omega
theorem put {T e : TypeId} (hT : Try.prog.underlying T = some (.map 46 e)) (p : Int × Int) (v : Value) (h : HM W l b ps w) (hno : findP p ps 0 = none) :
    ∃ w', (Instr.mapUpdate T (.map (some b)) (pkey p) v).run Try.prog w = .ok () w' ∧ HM W l b (ps ++ [(p, v)]) w' := by
  obtain ⟨w', hr, hm, hg⟩ := update_map hT p v h.mp hno
  refine ⟨w', hr, ⟨⟨fun i it hi => (h.hp.own i it hi).kept hg ?_, h.hp.sep, h.hp.below.grown hg h.hp.below.size fun k hk => ?_⟩, hm, h.lo, h.far⟩⟩
  · have := h.far i it hi
    cases e : it.v.ownBlock with
    | none => exact .inl rfl
    | some k => rw [e] at this; exact .inr this
  · injection hk with hk; subst hk; exact h.lo
theorem box_set0 {T : TypeId} {g : Nat} {cs : List Value} (h : HM W (box T g cs :: l) b ps w) (j : Nat) (u : Value) : HM W (box T g (cs.set j u) :: l) b ps (w.setCell ⟨g, j, none⟩ u) := by
  have hf : b ≠ g := fun e => h.far 0 _ rfl (by rw [e]; rfl)
  have hm : w.grownBy (w.setCell ⟨g, j, none⟩ u) (some g) := ⟨rfl, rfl, rfl, by simp [World.setCell], fun k hk hne => Below.heap_setCell _ _ _ _ (fun e => hne (by rw [e]))⟩
  refine ⟨h.hp.box_set (i := 0) rfl j u, h.mp.grown hm (fun e => hf (by injection e)), h.lo, fun i it hi => ?_⟩
  cases i with
  | zero => injection hi with hi; subst hi; exact fun e => h.far 0 (box T g cs) rfl e
  | succ i => exact h.far (i + 1) it hi
end HM
/-! ### Rows of four cells -/
abbrev Fnd := (Int × Int) × (Int × Int)
def fcells (F : List Fnd) : List Value := F.flatMap fun q => [.int .i64 q.1.1, .int .i64 q.1.2, .int .i64 q.2.1, .int .i64 q.2.2]
theorem fcells_len (F : List Fnd) : (fcells F).length = F.length * 4 := by
  induction F with
  | nil => rfl
  | cons p F ih => unfold fcells at *; rw [List.flatMap_cons, List.length_append, ih]; simp; omega
theorem fcells_at {F : List Fnd} {j : Nat} {q : Fnd} (h : F[j]? = some q) : (fcells F)[j * 4]? = some (.int .i64 q.1.1) ∧ (fcells F)[j * 4 + 1]? = some (.int .i64 q.1.2) ∧ (fcells F)[j * 4 + 2]? = some (.int .i64 q.2.1) ∧ (fcells F)[j * 4 + 3]? = some (.int .i64 q.2.2) := by
  induction F generalizing j with
  | nil => simp at h
  | cons x F ih =>
    unfold fcells at *
    rw [List.flatMap_cons]
    cases j with
    | zero => injection h with h; subst h; simp
    | succ j =>
      obtain ⟨h1, h2, h3, h4⟩ := ih (show F[j]? = some q by simpa using h)
      rw [show (j + 1) * 4 = j * 4 + 1 + 1 + 1 + 1 by omega]
      simp only [List.cons_append, List.nil_append, List.getElem?_cons_succ]
      exact ⟨h1, h2, h3, h4⟩
theorem fcells_snoc (F : List Fnd) (q : Fnd) : fcells (F ++ [q]) = fcells F ++ [.int .i64 q.1.1, .int .i64 q.1.2, .int .i64 q.2.1, .int .i64 q.2.2] := by
  unfold fcells; rw [List.flatMap_append]; simp
def frow (A : Option Addr) (n c : Nat) (F : List Fnd) : Itm := ⟨68, 4, .slice A n c, n, fcells F⟩
theorem found_info : (Try.prog.info? 68).map (fun i => (i.zero, i.size, i.bytes)) = some (some (.agg #[.int .i64 0, .int .i64 0, .int .i64 0, .int .i64 0]), 4, 32) := by kernel_rfl
theorem Hp.found_at {W w : World} {l : List Itm} {i g n c : Nat} {F : List Fnd} (h : Hp W l w) (hi : l[i]? = some (frow (some ⟨g, 0, none⟩) n c F)) {j : Nat} {q : Fnd} (hj : F[j]? = some q) :
    w.cell? ⟨g, j * 4, none⟩ = some (.int .i64 q.1.1) ∧ w.cell? ⟨g, j * 4 + 1, none⟩ = some (.int .i64 q.1.2) ∧ w.cell? ⟨g, j * 4 + 2, none⟩ = some (.int .i64 q.2.1) ∧ w.cell? ⟨g, j * 4 + 3, none⟩ = some (.int .i64 q.2.2) ∧ g < w.heap.size := by
  obtain ⟨h1, h2, h3, h4⟩ := fcells_at hj
  exact ⟨(h.cell hi (cap := c) rfl h1).1, (h.cell hi (cap := c) rfl h2).1, (h.cell hi (cap := c) rfl h3).1, (h.cell hi (cap := c) rfl h4).1, (h.cell hi (cap := c) rfl h1).2.2⟩
theorem Hp.found_len {W w : World} {l : List Itm} {i n c : Nat} {A : Option Addr} {F : List Fnd} (h : Hp W l w) (hi : l[i]? = some (frow A n c F)) : F.length = n := by
  have := (h.own i _ hi).1
  rw [show (frow A n c F).xs = fcells F from rfl, fcells_len] at this
  have e : (frow A n c F).n * (frow A n c F).size = n * 4 := rfl
  omega
theorem run_app_found {W w : World} {l : List Itm} {i : Nat} {A : Option Addr} {n c b : Nat} {F : List Fnd} {ps : List ((Int × Int) × Value)} (h : HM W l b ps w) (hi : l[i]? = some (frow A n c F)) (ty : TypeId) {g0 : Nat} (q : Fnd)
    (hb : ∀ (j : Nat) u, ([.int .i64 q.1.1, .int .i64 q.1.2, .int .i64 q.2.1, .int .i64 q.2.2] : List Value)[j]? = some u → w.cell? ⟨g0, j, none⟩ = some u) (hn : n ≤ 2000000) :
    ∃ g cap w', (Builtin.append_ #[65, 65] ty #[.slice A n c, .slice (some ⟨g0, 0, none⟩) 1 1]).run Try.prog w = .ok (.slice (some ⟨g, 0, none⟩) (n + 1) cap) w' ∧
      HM W (l.set i (frow (some ⟨g, 0, none⟩) (n + 1) cap (F ++ [q]))) b ps w' := by
  obtain ⟨i0, hi0, hz0, hz1, hz2⟩ := info_parts found_info
  have news1 : ∀ u ∈ ([.int .i64 q.1.1, .int .i64 q.1.2, .int .i64 q.2.1, .int .i64 q.2.2] : List Value), u.oneCell' = true := fun u hu => by
    simp only [List.mem_cons, List.not_mem_nil, or_false] at hu
    rcases hu with rfl | rfl | rfl | rfl <;> rfl
  obtain ⟨g, cap, w', hr, ho, hg, hat, _⟩ := run_append_lies (P := Try.prog) w 65 ty W.heap.size 68 i0 _ 4 32 Try.underlying65 hi0 hz0 hz1 hz2 rfl (by decide) (.slice A n c) n (fcells F) (h.hp.own i _ hi) ⟨g0, 0, none⟩ 1 1
    [.int .i64 q.1.1, .int .i64 q.1.2, .int .i64 q.2.1, .int .i64 q.2.2] rfl
    (fun j u hu => by
      have e : (⟨g0, 0, none⟩ : Addr).add j = ⟨g0, j, none⟩ := by unfold Addr.add; split <;> simp_all
      rw [e]; exact hb j u hu) news1 (by omega) (by unfold maxLen; omega) (by omega) h.hp.below.size _ rfl
  have hat2 : (Value.slice A n c).ownBlock = some g ∨ w.heap.size ≤ g := by
    rcases hat with e | e
    · exact .inl e
    · exact .inr (by omega)
  have ho2 : w'.ownsRow W.heap.size 68 4 (.slice (some ⟨g, 0, none⟩) (n + 1) cap) (n + 1) (fcells (F ++ [q])) := by rw [fcells_snoc]; exact ho
  refine ⟨g, cap, w', hr, h.hp.upd hi (frow (some ⟨g, 0, none⟩) (n + 1) cap (F ++ [q])) hg ho2 (fun k hk => ?_), h.mp.grown hg (fun e => h.far i _ hi e.symm), h.lo, fun j it hj e => ?_⟩
  · simp [frow, Value.ownBlock] at hk
    subst hk
    exact hat2
  have hil := (List.getElem?_eq_some_iff.1 hi).1
  rw [Pt.set_at hil] at hj
  split at hj
  · injection hj with hj
    subst hj
    have hgb : g = b := by
      have : (Value.slice (some ⟨g, 0, none⟩) (n + 1) cap).ownBlock = some b := e
      simpa [Value.ownBlock] using this
    rcases hat2 with e2 | e2
    · exact h.far i _ hi (by rw [← hgb]; exact e2)
    · have := h.mp.lt
      omega
  · exact h.far j it hj e
end Go.Proofs.Ytbfedfiemkhefaa
