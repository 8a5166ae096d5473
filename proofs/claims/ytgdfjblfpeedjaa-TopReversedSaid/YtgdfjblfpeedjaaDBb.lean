/- Graphs in memory: arcs lie in three cells each; how a graph is handed over; how one that came in is opened. -/
import Derived.Test.YtgdfjblfpeedjaaDBa
import Derived.Test.YtgdfjblfpeedjaaDAX
namespace Go.Proofs.Ytgdfjblfpeedjaa
open Go.RowKit
set_option linter.unusedVariables false
set_option linter.unusedSimpArgs false
set_option maxRecDepth 100000

/-- Three cells for each arc. -/
def acells (rs : List Ar) : List Value := rs.flatMap fun a => [.int .i64 a.f, .int .i64 a.t, .int .i64 a.c]
theorem acells_len (rs : List Ar) : (acells rs).length = rs.length * 3 := by
  induction rs with
  | nil => rfl
  | cons p ps ih => unfold acells at *; rw [List.flatMap_cons, List.length_append, ih]; simp; omega
theorem acells_at {rs : List Ar} {j : Nat} {a : Ar} (h : rs[j]? = some a) : (acells rs)[j * 3]? = some (.int .i64 a.f) ∧ (acells rs)[j * 3 + 1]? = some (.int .i64 a.t) ∧ (acells rs)[j * 3 + 2]? = some (.int .i64 a.c) := by
  induction rs generalizing j with
  | nil => simp at h
  | cons x rs ih =>
    unfold acells at *
    rw [List.flatMap_cons]
    cases j with
    | zero => injection h with h; subst h; simp
    | succ j =>
      have h' : rs[j]? = some a := by simpa using h
      obtain ⟨h1, h2, h3⟩ := ih h'
      rw [show (j + 1) * 3 = j * 3 + 1 + 1 + 1 by omega]
      simp only [List.cons_append, List.nil_append, List.getElem?_cons_succ]
      exact ⟨h1, h2, h3⟩
theorem acells_snoc (rs : List Ar) (a : Ar) : acells (rs ++ [a]) = acells rs ++ [.int .i64 a.f, .int .i64 a.t, .int .i64 a.c] := by
  unfold acells; rw [List.flatMap_append]; simp
theorem acells_one (rs : List Ar) : ∀ u ∈ acells rs, u.oneCell' = true := by
  intro u hu
  unfold acells at hu
  obtain ⟨x, _, h⟩ := List.mem_flatMap.1 hu
  simp only [List.mem_cons, List.not_mem_nil, or_false] at h
  rcases h with rfl | rfl | rfl <;> rfl
theorem CellsIn.arc {w : World} {A : Option Addr} {rs : List Ar} (h : CellsIn w A (acells rs)) {j : Nat} {a : Ar} (hj : rs[j]? = some a) :
    ∃ b off, A = some ⟨b, off, none⟩ ∧ b < w.heap.size ∧ w.cell? ⟨b, off + j * 3, none⟩ = some (.int .i64 a.f) ∧ w.cell? ⟨b, off + j * 3 + 1, none⟩ = some (.int .i64 a.t) ∧ w.cell? ⟨b, off + j * 3 + 2, none⟩ = some (.int .i64 a.c) := by
  have hl := (List.getElem?_eq_some_iff.1 hj).1
  obtain ⟨b, off, e, hlt, hc⟩ := h (by rw [acells_len]; omega)
  obtain ⟨h1, h2, h3⟩ := acells_at hj
  exact ⟨b, off, e, hlt, hc _ _ h1, by rw [Nat.add_assoc]; exact hc _ _ h2, by rw [Nat.add_assoc]; exact hc _ _ h3⟩
/-- How a graph is handed over. -/
abbrev gval (g : Gr) (A : Option Addr) (n c : Nat) : Value := .agg #[.int .i64 g.n, .slice A n c]
/-- A box that holds a graph, and one that holds an arc. -/
abbrev gbox (b : Nat) (g : Gr) (A : Option Addr) (n c : Nat) : Itm := box 26 b [.int .i64 g.n, .slice A n c]
abbrev abox (b : Nat) (a : Ar) : Itm := box 40 b [.int .i64 a.f, .int .i64 a.t, .int .i64 a.c]
/-- A graph lies there. -/
structure GrIn (w : World) (A : Option Addr) (n c : Nat) (g : Gr) : Prop where
  len : g.rs.length = n
  cap : n ≤ c
  small : n ≤ 5864062014805
  arcs : CellsIn w A (acells g.rs)
theorem GrIn.below {w w' : World} {A : Option Addr} {n c : Nat} {g : Gr} (h : GrIn w A n c g) (hb : Below w.heap.size w w') : GrIn w' A n c g := ⟨h.len, h.cap, h.small, h.arcs.below hb⟩
theorem GrIn.at {w : World} {A : Option Addr} {n c : Nat} {g : Gr} (h : GrIn w A n c g) {j : Nat} (hj : j < n) : ∃ (a : Ar) (b off : Nat), g.rs[j]? = some a ∧ a = arc g.rs j ∧ A = some ⟨b, off, none⟩ ∧ b < w.heap.size ∧
    w.cell? ⟨b, off + j * 3, none⟩ = some (.int .i64 a.f) ∧ w.cell? ⟨b, off + j * 3 + 1, none⟩ = some (.int .i64 a.t) ∧ w.cell? ⟨b, off + j * 3 + 2, none⟩ = some (.int .i64 a.c) := by
  have hl := h.len
  have ha := arc_get (rs := g.rs) (i := j) (by omega)
  obtain ⟨b, off, h1, h2, h3⟩ := h.arcs.arc ha
  exact ⟨_, b, off, ha, rfl, h1, h2, h3⟩
theorem Hp.gb {W w : World} {l : List Itm} {b i : Nat} {g : Gr} {A : Option Addr} {n c : Nat} (h : Hp W l w) (hi : l[i]? = some (gbox b g A n c)) :
    w.cell? ⟨b, 0, none⟩ = some (.int .i64 g.n) ∧ w.cell? ⟨b, 1, none⟩ = some (.slice A n c) ∧ b < w.heap.size :=
  ⟨(h.box_at hi (j := 0) rfl).1, (h.box_at hi (j := 1) rfl).1, (h.box_at hi (j := 1) rfl).2.2⟩
theorem Hp.ab {W w : World} {l : List Itm} {b i : Nat} {a : Ar} (h : Hp W l w) (hi : l[i]? = some (abox b a)) :
    w.cell? ⟨b, 0, none⟩ = some (.int .i64 a.f) ∧ w.cell? ⟨b, 1, none⟩ = some (.int .i64 a.t) ∧ w.cell? ⟨b, 2, none⟩ = some (.int .i64 a.c) ∧ b < w.heap.size :=
  ⟨(h.box_at hi (j := 0) rfl).1, (h.box_at hi (j := 1) rfl).1, (h.box_at hi (j := 2) rfl).1, (h.box_at hi (j := 2) rfl).2.2⟩
theorem Hp.gnew {W w : World} {l : List Itm} (h : Hp W l w) (g : Gr) (A : Option Addr) (n c : Nat) : Hp W (gbox w.heap.size g A n c :: l) (w.alloc (.cells #[.int .i64 g.n, .slice A n c] 26)) := h.box_new _ [.int .i64 g.n, .slice A n c]
theorem Hp.anew {W w : World} {l : List Itm} (h : Hp W l w) (a : Ar) : Hp W (abox w.heap.size a :: l) (w.alloc (.cells #[.int .i64 a.f, .int .i64 a.t, .int .i64 a.c] 40)) := h.box_new _ [.int .i64 a.f, .int .i64 a.t, .int .i64 a.c]
/-! ### Graphs that came in -/
theorem arc_cells : Try.prog.cellsOf 40 = 3 := by kernel_rfl
theorem arc_bytes : Try.prog.bytesOf 40 = 24 := by kernel_rfl
theorem graph_cells : Try.prog.cellsOf 26 = 2 := by kernel_rfl
theorem arcs_cells : Try.prog.cellsOf 24 = 1 := by kernel_rfl
theorem field_at {cs : List Value} {j : Nat} {v : Value} (h : (cs.drop j).take 1 = [v]) : cs[j]? = some v := by
  have h1 : ((cs.drop j).take 1)[0]? = some v := by rw [h]; rfl
  rw [List.getElem?_take_of_lt (by omega), List.getElem?_drop] at h1
  simpa using h1
theorem acells_get {rs : List Ar} {i : Nat} {u : Value} (h : (acells rs)[i]? = some u) : ∃ (j : Nat) (a : Ar), rs[j]? = some a ∧ ((i = j * 3 ∧ u = .int .i64 a.f) ∨ (i = j * 3 + 1 ∧ u = .int .i64 a.t) ∨ (i = j * 3 + 2 ∧ u = .int .i64 a.c)) := by
  have hi := (List.getElem?_eq_some_iff.1 h).1
  rw [acells_len] at hi
  obtain ⟨a, ha⟩ : ∃ a, rs[i / 3]? = some a := ⟨_, List.getElem?_eq_getElem (by omega)⟩
  obtain ⟨h1, h2, h3⟩ := acells_at ha
  refine ⟨i / 3, a, ha, ?_⟩
  have : i % 3 = 0 ∨ i % 3 = 1 ∨ i % 3 = 2 := by omega
  rcases this with e | e | e
  · rw [show i / 3 * 3 = i by omega] at h1
    rw [h] at h1; injection h1 with h1
    exact .inl ⟨by omega, h1⟩
  · rw [show i / 3 * 3 + 1 = i by omega] at h2
    rw [h] at h2; injection h2 with h2
    exact .inr (.inl ⟨by omega, h2⟩)
  · rw [show i / 3 * 3 + 2 = i by omega] at h3
    rw [h] at h3; injection h3 with h3
    exact .inr (.inr ⟨by omega, h3⟩)
section
open Go.ChangeShapes Go.WideShapes Go.ChangeAt
variable {H : Type} {enc : TypeId × Value → H} {W : World} {fuel : Nat}
theorem open_arcs {v : Value} {x : DataW H × List MemPlace} (h : DataW.trod enc Try.prog W 0 (fun _ => true) true fuel 24 [v] = some x) (hw : ∀ m ∈ x.1.weights Try.prog 24, m ≤ reachBytes) :
    ∃ (A : Option Addr) (n c : Nat) (L : List Ar), v = .slice A n c ∧ L.length = n ∧ n ≤ c ∧ c ≤ 5864062014805 ∧ CellsIn W A (acells L) := by
  have hcv : ∀ u, [v] = [u] → v = u := fun u hu => by injection hu
  rcases Go.Deep.open_slice Try.underlying24 h with ⟨hcs, hy⟩ | ⟨a, len, cap, m, n, D, Pl, hcs, _, hl, hm, hmm, hy, hi⟩
  · exact ⟨none, 0, 0, [], hcv _ hcs, rfl, Nat.le_refl _, by omega, CellsIn.nil _ _⟩
  · simp only [if_true] at hmm
    subst hmm
    rw [arc_cells] at hi
    have hr := reachBytes_lt
    have hbig : m * 24 ≤ reachBytes := by
      have h1 : (((List.range len).map D).length + ((List.range (m - len)).map fun j => D (len + j)).length) * Try.prog.bytesOf 40 ∈ x.1.weights Try.prog 24 := by
        rw [hy]; simp [DataW.weights, Try.underlying24]
      have h2 := hw _ h1
      rw [arc_bytes] at h2
      simp only [List.length_map, List.length_range] at h2
      rwa [show len + (m - len) = m by omega] at h2
    have hone : ∀ i, i < len → ∃ x : Ar, W.cell? ((a.add (i * 3)).add 0) = some (.int .i64 x.f) ∧ W.cell? ((a.add (i * 3)).add 1) = some (.int .i64 x.t) ∧ W.cell? ((a.add (i * 3)).add 2) = some (.int .i64 x.c) := by
      intro i hil
      obtain ⟨cs', hc, ht⟩ := hi i (by omega)
      obtain ⟨_, hlen, hat⟩ := World.cells?_some hc
      obtain ⟨y0, y1, y2, n', _, _, h0, h1, h2⟩ := Go.Deep.trod_struct3 Try.underlying40 ht
      simp only [int_cells] at h0 h1 h2
      obtain ⟨k0, hk0, _, _⟩ := DataW.trod_int Try.underlying3 h0
      obtain ⟨k1, hk1, _, _⟩ := DataW.trod_int Try.underlying3 h1
      obtain ⟨k2, hk2, _, _⟩ := DataW.trod_int Try.underlying3 h2
      exact ⟨⟨k0, k1, k2⟩, (hat 0 (by omega)).trans (field_at hk0), (hat 1 (by omega)).trans (field_at hk1), (hat 2 (by omega)).trans (field_at hk2)⟩
    obtain ⟨F, hF⟩ : ∃ F : Nat → Ar, ∀ i, i < len → W.cell? ((a.add (i * 3)).add 0) = some (.int .i64 (F i).f) ∧ W.cell? ((a.add (i * 3)).add 1) = some (.int .i64 (F i).t) ∧ W.cell? ((a.add (i * 3)).add 2) = some (.int .i64 (F i).c) :=
      ⟨fun i => if h : i < len then Classical.choose (hone i h) else ⟨0, 0, 0⟩, fun i h => by simp only [dif_pos h]; exact Classical.choose_spec (hone i h)⟩
    refine ⟨some a, len, m, (List.range len).map F, hcv _ hcs, by simp, hl, by omega, fun h0 => ?_⟩
    have h0' : 0 < len := by rw [acells_len] at h0; simp at h0; omega
    have hc0 := (hF 0 h0').1
    rw [show a.add (0 * 3) = a by unfold Addr.add; cases a; split <;> simp_all] at hc0
    obtain ⟨b, off, rfl, hlt⟩ := spot_none hc0
    refine ⟨b, off, rfl, hlt, fun i u hu => ?_⟩
    obtain ⟨j, x, hx, hc⟩ := acells_get hu
    obtain ⟨hj, rfl⟩ := get_range hx
    obtain ⟨h1, h2, h3⟩ := hF j hj
    rw [add_at, add_at] at h1 h2 h3
    rcases hc with ⟨rfl, rfl⟩ | ⟨rfl, rfl⟩ | ⟨rfl, rfl⟩
    · exact h1
    · exact h2
    · exact h3
/-- A graph that came in. -/
theorem open_graph {r : Reach} {b0 : Nat} {v : Value} {d : DataW H} {p : List MemPlace} (hv : Value.okWide Try.prog W r b0 26 v)
    (h : DataW.Trod enc Try.prog W 0 (fun _ => true) true 26 v d p) (hw : ∀ m ∈ d.weights Try.prog 26, m ≤ reachBytes) :
    ∃ (g : Gr) (A : Option Addr) (n c : Nat), v = gval g A n c ∧ GrIn W A n c g := by
  obtain ⟨cs, rfl, hsz⟩ := okWide_struct Try.underlying26 hv
  obtain ⟨c0, c1, rfl⟩ : ∃ c0 c1, cs = #[c0, c1] := by
    have hs : cs.size = 2 := hsz.trans graph_cells
    obtain ⟨l⟩ := cs
    match l, hs with
    | [a, b], _ => exact ⟨a, b, rfl⟩
  obtain ⟨fuel, hf⟩ := h
  obtain ⟨y0, y1, n, hx, _, h0, h1⟩ := Go.ChangeShapes.trod_struct2 Try.underlying26 (cs := [c0, c1]) (by simpa [Value.cells] using hf)
  have k0 : DataW.trod enc Try.prog W 0 (fun _ => true) true n 3 [c0] = some y0 := by simpa [int_cells] using h0
  have k1 : DataW.trod enc Try.prog W 0 (fun _ => true) true n 24 [c1] = some y1 := by simpa [arcs_cells] using h1
  obtain ⟨gn, e0, _, _⟩ := DataW.trod_int Try.underlying3 k0
  have hw1 : ∀ m ∈ y1.1.weights Try.prog 24, m ≤ reachBytes := fun m hm => hw m (by
    have hx' : d = .agg [y0.1, y1.1] := by injection hx
    rw [hx']; simp only [DataW.weights, Try.underlying26]; simp [DataW.weightsEach, hm])
  obtain ⟨A, n1, c1, L, e1, a1, a2, a3, a4⟩ := open_arcs k1 hw1
  exact ⟨⟨gn, L⟩, A, n1, c1, by simp [gval]; exact ⟨by simpa using e0, e1⟩, ⟨a1, a2, by omega, a4⟩⟩
end
end Go.Proofs.Ytgdfjblfpeedjaa
