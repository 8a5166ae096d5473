/- How automata, numbers and lists that came in are opened. -/
import Derived.Test.YtdkdfmflghbhiaaQn
import Derived.ChangeOld
import Derived.Deep.Slices
import Derived.Deep.Strs
import Derived.ChangeSlices
import Derived.SizedLaws
import Derived.OpenShut
import Derived.SliceStrings
import Derived.ProofKit
import Derived.ShutString
import Derived.Deep.DeepHandedRow
import Derived.Lib.SmallJoins
namespace Go.Proofs.Ytdkdfmflghbhiaa
open Go.ChangeShapes Go.WideShapes Go.ChangeAt Go.RowKit
set_option linter.unusedVariables false
set_option linter.unusedSimpArgs false
set_option maxRecDepth 100000

theorem weights_of {H : Type} {P : Program} {ts : List TypeId} {ds : List (DataW H)} (h : (DataW.weightsEach P ts ds).all (· ≤ reachBytes) = true) {j : Nat} {t : TypeId} {d : DataW H} (ht : ts[j]? = some t) (hd : ds[j]? = some d) : ∀ m ∈ d.weights P t, m ≤ reachBytes :=
  fun m hm => of_decide_eq_true (List.all_eq_true.1 h m (DataW.weights_mem_each ht hd m hm))
theorem weights_in {H : Type} {P : Program} {e : TypeId} : ∀ {l : List (DataW H)} {d : DataW H}, d ∈ l → ∀ n ∈ d.weights P e, n ∈ DataW.weightsAll P e l
  | [], d, hd, n, hn => by cases hd
  | x :: r, d, hd, n, hn => by
    simp only [DataW.weightsAll, List.mem_append]
    rcases List.mem_cons.1 hd with rfl | h
    · exact Or.inl hn
    · exact Or.inr (weights_in h n hn)
theorem int_cells : Try.prog.cellsOf 3 = 1 := by kernel_rfl
theorem bool_cells : Try.prog.cellsOf 4 = 1 := by kernel_rfl
theorem ints_cells : Try.prog.cellsOf 39 = 1 := by kernel_rfl
theorem rows_cells : Try.prog.cellsOf 22 = 1 := by kernel_rfl
theorem bools_cells : Try.prog.cellsOf 23 = 1 := by kernel_rfl
theorem dfa_cells : Try.prog.cellsOf 25 = 4 := by kernel_rfl
theorem int_bytes : Try.prog.bytesOf 3 = 8 := by kernel_rfl
theorem bool_bytes : Try.prog.bytesOf 4 = 1 := by kernel_rfl
theorem ints_bytes : Try.prog.bytesOf 39 = 24 := by kernel_rfl
theorem add_at (b o i : Nat) : (⟨b, o, none⟩ : Addr).add i = ⟨b, o + i, none⟩ := by unfold Addr.add; split <;> simp_all
theorem spot_none {w : World} {a : Addr} {v : Value} (h : w.cell? (a.add 0) = some v) : ∃ b o, a = ⟨b, o, none⟩ ∧ b < w.heap.size := by
  obtain ⟨b, off, spot⟩ := a
  have hspot : spot = none := by simpa [Addr.add] using World.cell?_spot h
  subst hspot
  exact ⟨b, off, rfl, by simpa [Addr.add] using World.block_lt_of_cell? w _ h⟩
theorem get_range {β : Type} {f : Nat → β} {n j : Nat} {x : β} (h : ((List.range n).map f)[j]? = some x) : j < n ∧ x = f j := by
  have hj : j < n := by have := (List.getElem?_eq_some_iff.1 h).1; simpa using this
  rw [List.getElem?_map, List.getElem?_range hj] at h
  exact ⟨hj, (Option.some.inj h).symm⟩
section
variable {H : Type} {enc : TypeId × Value → H} {W : World} {fuel : Nat}
/-- A list of numbers. -/
theorem open_nums {v : Value} {x : DataW H × List MemPlace} (h : DataW.trod enc Try.prog W 0 (fun _ => true) true fuel 39 [v] = some x) (hw : ∀ m ∈ x.1.weights Try.prog 39, m ≤ reachBytes) :
    ∃ (A : Option Addr) (n c : Nat) (L : List Int), v = .slice A n c ∧ L.length = n ∧ n ≤ c ∧ c ≤ 17592186044416 ∧ CellsIn W A (ints L) := by
  rcases open_ints Try.underlying39 Try.underlying3 int_cells h with ⟨hcs, hy⟩ | ⟨a, len, cap, zs, hcs, _, hl, hm, hz, hy, hcell, hwz⟩
  · exact ⟨none, 0, 0, [], by simpa using hcs, rfl, Nat.le_refl _, Nat.zero_le _, CellsIn.nil _ _⟩
  · simp only [if_true] at hz
    have hr := reachBytes_lt
    have hbig : cap * 8 ≤ reachBytes := by
      have h1 : ((lits .i64 (zs.take len) : List (DataW H)).length + (lits .i64 (zs.drop len) : List (DataW H)).length) * Try.prog.bytesOf 3 ∈ x.1.weights Try.prog 39 := by
        rw [hy]; simp [DataW.weights, Try.underlying39]
      have h2 := hw _ h1
      rw [int_bytes] at h2
      simp only [lits, List.length_map, List.length_take, List.length_drop, hz, Nat.min_eq_left hl] at h2
      rwa [show len + (cap - len) = cap by omega] at h2
    refine ⟨some a, len, cap, zs.take len, by simpa using hcs, by simp [hz, hl], hl, by omega, fun h0 => ?_⟩
    have hlen : 0 < len := by rw [ints_len] at h0; simp at h0; omega
    obtain ⟨b, off, rfl, hlt⟩ := spot_none (hcell 0 (by omega))
    refine ⟨b, off, rfl, hlt, fun j u hu => ?_⟩
    have hj := (List.getElem?_eq_some_iff.1 hu).1
    rw [ints_len] at hj
    have hj2 : j < len := by simp at hj; omega
    rw [ints_at hj] at hu
    have := hcell j (by omega)
    rw [add_at] at this
    rw [this, ← hu]
    rw [List.getD_eq_getElem?_getD, List.getD_eq_getElem?_getD, List.getElem?_take_of_lt hj2]
/-- A list of flags. -/
theorem open_flags {v : Value} {x : DataW H × List MemPlace} (h : DataW.trod enc Try.prog W 0 (fun _ => true) true fuel 23 [v] = some x) (hw : ∀ m ∈ x.1.weights Try.prog 23, m ≤ reachBytes) :
    ∃ (A : Option Addr) (n c : Nat) (L : List Bool), v = .slice A n c ∧ L.length = n ∧ n ≤ c ∧ n ≤ 140737488355328 ∧ CellsIn W A (bools L) := by
  rcases Go.Deep.open_slice1 Try.underlying23 bool_cells h with ⟨hcs, hy⟩ | ⟨a, len, cap, m, n, V, D, Pl, hcs, _, hl, hm, hmm, hy, hi⟩
  · exact ⟨none, 0, 0, [], by simpa using hcs, rfl, Nat.le_refl _, Nat.zero_le _, CellsIn.nil _ _⟩
  · simp only [if_true] at hmm
    subst hmm
    have hr := reachBytes_lt
    have hbig : m ≤ reachBytes := by
      have h1 : (((List.range len).map D).length + ((List.range (m - len)).map fun j => D (len + j)).length) * Try.prog.bytesOf 4 ∈ x.1.weights Try.prog 23 := by
        rw [hy]; simp [DataW.weights, Try.underlying23]
      have h2 := hw _ h1
      rw [bool_bytes] at h2
      simp only [List.length_map, List.length_range] at h2
      omega
    obtain ⟨F, hF⟩ : ∃ F : Nat → Bool, ∀ i, i < m → V i = .bool (F i) := by
      have : ∀ i, i < m → ∃ b : Bool, V i = .bool b := fun i him => by
        obtain ⟨b, h1, _⟩ := DataW.trod_bool Try.underlying4 (hi i him).2
        exact ⟨b, by simpa using h1⟩
      exact ⟨fun i => if h : i < m then Classical.choose (this i h) else false, fun i h => by simp only [dif_pos h]; exact Classical.choose_spec (this i h)⟩
    refine ⟨some a, len, m, (List.range len).map F, by simpa using hcs, by simp, hl, by omega, fun h0 => ?_⟩
    have hlen : 0 < len := by rw [bools_len] at h0; simpa using h0
    obtain ⟨b, off, rfl, hlt⟩ := spot_none (hi 0 (by omega)).1
    refine ⟨b, off, rfl, hlt, fun j u hu => ?_⟩
    have hj := (List.getElem?_eq_some_iff.1 hu).1
    rw [bools_len] at hj
    have hj2 : j < len := by simpa using hj
    have h3 := (hi j (by omega)).1
    rw [add_at] at h3
    rw [h3, hF j (by omega), ← hu]
    unfold bools
    rw [List.getElem?_map, List.getElem?_map, List.getElem?_range hj2]
    rfl
/-- A list of lists of numbers. -/
theorem open_rows {v : Value} {x : DataW H × List MemPlace} (h : DataW.trod enc Try.prog W 0 (fun _ => true) true fuel 22 [v] = some x) (hw : ∀ m ∈ x.1.weights Try.prog 22, m ≤ reachBytes) :
    ∃ (A : Option Addr) (n c : Nat) (R : List (List Int)), v = .slice A n c ∧ R.length = n ∧ n ≤ c ∧ n ≤ 17592186044416 ∧ RowsIn W A R := by
  rcases Go.Deep.open_slice1 Try.underlying22 ints_cells h with ⟨hcs, hy⟩ | ⟨a, len, cap, m, n, V, D, Pl, hcs, _, hl, hm, hmm, hy, hi⟩
  · exact ⟨none, 0, 0, [], by simpa using hcs, rfl, Nat.le_refl _, Nat.zero_le _, fun h => by simp at h⟩
  · simp only [if_true] at hmm
    subst hmm
    have hr := reachBytes_lt
    have hbig : m * 24 ≤ reachBytes := by
      have h1 : (((List.range len).map D).length + ((List.range (m - len)).map fun j => D (len + j)).length) * Try.prog.bytesOf 39 ∈ x.1.weights Try.prog 22 := by
        rw [hy]; simp [DataW.weights, Try.underlying22]
      have h2 := hw _ h1
      rw [ints_bytes] at h2
      simp only [List.length_map, List.length_range] at h2
      rwa [show len + (m - len) = m by omega] at h2
    obtain ⟨F, hF⟩ : ∃ F : Nat → List Int, ∀ i, i < len → ∃ A c, V i = .slice A (F i).length c ∧ (F i).length ≤ c ∧ c ≤ 17592186044416 ∧ CellsIn W A (ints (F i)) := by
      have : ∀ i, i < len → ∃ L : List Int, ∃ A c, V i = .slice A L.length c ∧ L.length ≤ c ∧ c ≤ 17592186044416 ∧ CellsIn W A (ints L) := fun i him => by
        obtain ⟨A, n', c, L, h1, h2, h3, h4, h5⟩ := open_nums (hi i (by omega)).2 (fun q hq => hw q (by
          rw [hy]
          simp only [DataW.weights, Try.underlying22, List.mem_cons, List.mem_append]
          exact Or.inr (Or.inl (weights_in (List.mem_map.2 ⟨i, List.mem_range.2 him, rfl⟩) _ hq))))
        exact ⟨L, A, c, by rw [h1, h2], by omega, h4, h5⟩
      exact ⟨fun i => if h : i < len then Classical.choose (this i h) else [], fun i h => by simp only [dif_pos h]; exact Classical.choose_spec (this i h)⟩
    refine ⟨some a, len, m, (List.range len).map F, by simpa using hcs, by simp, hl, by omega, fun h0 => ?_⟩
    have hlen : 0 < len := by simpa using h0
    obtain ⟨b, off, rfl, hlt⟩ := spot_none (hi 0 (by omega)).1
    refine ⟨b, off, rfl, hlt, fun j row hu => ?_⟩
    obtain ⟨hj, rfl⟩ := get_range hu
    obtain ⟨A, c, e1, e2, e3, e4⟩ := hF j hj
    have h3 := (hi j (by omega)).1
    rw [add_at] at h3
    exact ⟨A, c, by rw [h3, e1], e2, Nat.le_trans e2 e3, e4⟩
/-- An automaton, from its four cells. -/
theorem open_dfa4 {v0 v1 v2 v3 : Value} {x : DataW H × List MemPlace} (h : DataW.trod enc Try.prog W 0 (fun _ => true) true fuel 25 [v0, v1, v2, v3] = some x) (hw : ∀ m ∈ x.1.weights Try.prog 25, m ≤ reachBytes) :
    ∃ (x : DV) (M : Au), v0 = .int .i64 M.lt ∧ v1 = .int .i64 M.st ∧ v2 = .slice x.A x.n x.c ∧ v3 = .slice x.B x.m x.d ∧ DfaIn W x M := by
  obtain ⟨y0, y1, y2, y3, n, hx, _, h0, h1, h2, h3⟩ := Go.Joins.trod_struct4 Try.underlying25 h
  have k0 : DataW.trod enc Try.prog W 0 (fun _ => true) true n 3 [v0] = some y0 := by simpa [int_cells] using h0
  have k1 : DataW.trod enc Try.prog W 0 (fun _ => true) true n 3 [v1] = some y1 := by simpa [int_cells] using h1
  have k2 : DataW.trod enc Try.prog W 0 (fun _ => true) true n 22 [v2] = some y2 := by simpa [rows_cells] using h2
  have k3 : DataW.trod enc Try.prog W 0 (fun _ => true) true n 23 [v3] = some y3 := by simpa [bools_cells] using h3
  obtain ⟨lt, e0, _, _⟩ := DataW.trod_int Try.underlying3 k0
  obtain ⟨st, e1, _, _⟩ := DataW.trod_int Try.underlying3 k1
  have hw2 : ∀ m ∈ y2.1.weights Try.prog 22, m ≤ reachBytes := fun m hm => hw m (by rw [hx]; simp only [DataW.weights, Try.underlying25]; simp [DataW.weightsEach, hm])
  have hw3 : ∀ m ∈ y3.1.weights Try.prog 23, m ≤ reachBytes := fun m hm => hw m (by rw [hx]; simp only [DataW.weights, Try.underlying25]; simp [DataW.weightsEach, hm])
  obtain ⟨A, n1, c1, R, e2, a1, a2, a3, a4⟩ := open_rows k2 hw2
  obtain ⟨B, m1, d1, F, e3, b1, b2, b3, b4⟩ := open_flags k3 hw3
  exact ⟨⟨A, n1, c1, B, m1, d1⟩, ⟨lt, R, F, st⟩, by simpa using e0, by simpa using e1, e2, e3, ⟨a1, b1, a2, b2, a3, b3, a4, b4⟩⟩
/-- An automaton that came in. -/
theorem open_dfa {r : Reach} {b0 : Nat} {v : Value} {d : DataW H} {p : List MemPlace} (hv : Value.okWide Try.prog W r b0 25 v)
    (h : DataW.Trod enc Try.prog W 0 (fun _ => true) true 25 v d p) (hw : ∀ m ∈ d.weights Try.prog 25, m ≤ reachBytes) :
    ∃ (x : DV) (M : Au), v = dval x M ∧ DfaIn W x M := by
  obtain ⟨cs, rfl, hsz⟩ := okWide_struct Try.underlying25 hv
  obtain ⟨c0, c1, c2, c3, rfl⟩ := Go.Joins.array4 (hsz.trans dfa_cells)
  obtain ⟨fuel, hf⟩ := h
  obtain ⟨x, M, rfl, rfl, rfl, rfl, hd⟩ := open_dfa4 (v0 := c0) (v1 := c1) (v2 := c2) (v3 := c3) (by simpa [Value.cells] using hf) hw
  exact ⟨x, M, rfl, hd⟩
/-- A list of numbers that came in. -/
theorem open_word {r : Reach} {b0 : Nat} {v : Value} {d : DataW H} {p : List MemPlace} (hv : Value.okWide Try.prog W r b0 39 v)
    (h : DataW.Trod enc Try.prog W 0 (fun _ => true) true 39 v d p) (hw : ∀ m ∈ d.weights Try.prog 39, m ≤ reachBytes) :
    ∃ (A : Option Addr) (n c : Nat) (L : List Int), v = .slice A n c ∧ L.length = n ∧ n ≤ 17592186044416 ∧ CellsIn W A (ints L) := by
  obtain ⟨fuel, hf⟩ := h
  obtain ⟨av, lv, cv, rfl⟩ := okWide_slice Try.underlying39 hv
  obtain ⟨A, n, c, L, e, h1, h2, h3, h4⟩ := open_nums (v := .slice av lv cv) (by simpa [Value.cells] using hf) hw
  exact ⟨A, n, c, L, e, h1, by omega, h4⟩
end
end Go.Proofs.Ytdkdfmflghbhiaa
