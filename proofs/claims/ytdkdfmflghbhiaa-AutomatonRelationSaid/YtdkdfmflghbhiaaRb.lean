/- Lists of pairs that came in; copies of them. -/
import Derived.Test.YtdkdfmflghbhiaaQz
namespace Go.Proofs.Ytdkdfmflghbhiaa
open Go.ChangeShapes Go.WideShapes Go.ChangeAt Go.RowKit
set_option linter.unusedVariables false
set_option linter.unusedSimpArgs false
set_option maxRecDepth 100000

theorem pair_cells : Try.prog.cellsOf 35 = 2 := by kernel_rfl
theorem pair_bytes : Try.prog.bytesOf 35 = 16 := by kernel_rfl
theorem field_one {cs : List Value} {j : Nat} {v : Value} (h : (cs.drop j).take 1 = [v]) : cs[j]? = some v := by
  have h1 : ((cs.drop j).take 1)[0]? = some v := by rw [h]; rfl
  rw [List.getElem?_take_of_lt (by omega), List.getElem?_drop] at h1
  simpa using h1
/-- The cells of pairs, by index. -/
theorem pcells_get {ps : List (Int × Int)} {i : Nat} {u : Value} (h : (pcells ps)[i]? = some u) : ∃ (j : Nat) (p : Int × Int), ps[j]? = some p ∧ ((i = j * 2 ∧ u = .int .i64 p.1) ∨ (i = j * 2 + 1 ∧ u = .int .i64 p.2)) := by
  have hi := (List.getElem?_eq_some_iff.1 h).1
  rw [pcells_len] at hi
  have hj : i / 2 < ps.length := by omega
  obtain ⟨p, hp⟩ : ∃ p, ps[i / 2]? = some p := ⟨_, List.getElem?_eq_getElem hj⟩
  obtain ⟨h1, h2⟩ := pcells_at hp
  refine ⟨i / 2, p, hp, ?_⟩
  rcases Nat.mod_two_eq_zero_or_one i with e | e
  · have e2 : i = i / 2 * 2 := by omega
    rw [← e2] at h1
    exact .inl ⟨e2, Option.some.inj (h.symm.trans h1)⟩
  · have e2 : i = i / 2 * 2 + 1 := by omega
    rw [← e2] at h2
    exact .inr ⟨e2, Option.some.inj (h.symm.trans h2)⟩
theorem CellsIn.pair {w : World} {A : Option Addr} {ps : List (Int × Int)} (h : CellsIn w A (pcells ps)) {j : Nat} {p : Int × Int} (hj : ps[j]? = some p) :
    ∃ b off, A = some ⟨b, off, none⟩ ∧ b < w.heap.size ∧ w.cell? ⟨b, off + j * 2, none⟩ = some (.int .i64 p.1) ∧ w.cell? ⟨b, off + j * 2 + 1, none⟩ = some (.int .i64 p.2) := by
  have hl := (List.getElem?_eq_some_iff.1 hj).1
  obtain ⟨b, off, e, hlt, hc⟩ := h (by rw [pcells_len]; omega)
  obtain ⟨h1, h2⟩ := pcells_at hj
  exact ⟨b, off, e, hlt, hc _ _ h1, by rw [Nat.add_assoc]; exact hc _ _ h2⟩
section
variable {H : Type} {enc : TypeId × Value → H} {W : World} {fuel : Nat}
theorem open_pairs {r : Reach} {b0 : Nat} {v : Value} {d : DataW H} {p : List MemPlace} (hv : Value.okWide Try.prog W r b0 28 v)
    (h : DataW.Trod enc Try.prog W 0 (fun _ => true) true 28 v d p) (hw : ∀ m ∈ d.weights Try.prog 28, m ≤ reachBytes) :
    ∃ (A : Option Addr) (n c : Nat) (L : List (Int × Int)), v = .slice A n c ∧ L.length = n ∧ n ≤ 17592186044416 ∧ CellsIn W A (pcells L) := by
  obtain ⟨fuel, hf⟩ := h
  obtain ⟨av, lv, cv, rfl⟩ := okWide_slice Try.underlying28 hv
  have hcv : ∀ u, (Value.slice av lv cv).cells.toList = [u] → Value.slice av lv cv = u := fun u hu => by
    have : [Value.slice av lv cv] = [u] := by simpa [Value.cells] using hu
    injection this
  rcases Go.Deep.open_slice Try.underlying28 hf with ⟨hcs, hy⟩ | ⟨a, len, cap, m, n, D, Pl, hcs, _, hl, hm, hmm, hy, hi⟩
  · exact ⟨none, 0, 0, [], hcv _ hcs, rfl, Nat.zero_le _, CellsIn.nil _ _⟩
  · simp only [if_true] at hmm
    subst hmm
    simp only [Prod.mk.injEq] at hy
    obtain ⟨hd, _⟩ := hy
    rw [pair_cells] at hi
    have hr := reachBytes_lt
    have hbig : len * 16 ≤ reachBytes := by
      have h1 : (((List.range len).map D).length + ((List.range (m - len)).map fun j => D (len + j)).length) * Try.prog.bytesOf 35 ∈ d.weights Try.prog 28 := by
        rw [hd]; simp [DataW.weights, Try.underlying28]
      have h2 := hw _ h1
      rw [pair_bytes] at h2
      simp only [List.length_map, List.length_range] at h2
      omega
    have hone : ∀ i, i < len → ∃ x : Int × Int, W.cell? ((a.add (i * 2)).add 0) = some (.int .i64 x.1) ∧ W.cell? ((a.add (i * 2)).add 1) = some (.int .i64 x.2) := by
      intro i hil
      obtain ⟨cs', hc, ht⟩ := hi i (by omega)
      obtain ⟨_, hlen, hat⟩ := World.cells?_some hc
      obtain ⟨y0, y1, n', _, _, h0, h1⟩ := Go.ChangeShapes.trod_struct2 Try.underlying35 ht
      simp only [int_cells] at h0 h1
      obtain ⟨k, hk, _, _⟩ := DataW.trod_int Try.underlying3 h0
      obtain ⟨l, hll, _, _⟩ := DataW.trod_int Try.underlying3 h1
      exact ⟨(k, l), (hat 0 (by omega)).trans (field_one hk), (hat 1 (by omega)).trans (field_one hll)⟩
    obtain ⟨F, hF⟩ : ∃ F : Nat → Int × Int, ∀ i, i < len → W.cell? ((a.add (i * 2)).add 0) = some (.int .i64 (F i).1) ∧ W.cell? ((a.add (i * 2)).add 1) = some (.int .i64 (F i).2) :=
      ⟨fun i => if h : i < len then Classical.choose (hone i h) else (0, 0), fun i h => by simp only [dif_pos h]; exact Classical.choose_spec (hone i h)⟩
    refine ⟨some a, len, m, (List.range len).map F, hcv _ hcs, by simp, by omega, fun h0 => ?_⟩
    have h0' : 0 < len := by rw [pcells_len] at h0; simp at h0; omega
    have hc0 := (hF 0 h0').1
    rw [show a.add (0 * 2) = a by unfold Addr.add; cases a; split <;> simp_all] at hc0
    obtain ⟨b, off, rfl, hlt⟩ := spot_none hc0
    refine ⟨b, off, rfl, hlt, fun i u hu => ?_⟩
    obtain ⟨j, x, hx, hc⟩ := pcells_get hu
    obtain ⟨hj, rfl⟩ := get_range hx
    obtain ⟨h1, h2⟩ := hF j hj
    rw [add_at, add_at] at h1 h2
    rcases hc with ⟨rfl, rfl⟩ | ⟨rfl, rfl⟩
    · exact h1
    · exact h2
end
theorem pcells_one (L : List (Int × Int)) : ∀ u ∈ pcells L, u.oneCell' = true := by
  intro u hu
  unfold pcells at hu
  obtain ⟨x, _, h⟩ := List.mem_flatMap.1 hu
  simp only [List.mem_cons, List.not_mem_nil, or_false] at h
  rcases h with rfl | rfl <;> rfl
end Go.Proofs.Ytdkdfmflghbhiaa
