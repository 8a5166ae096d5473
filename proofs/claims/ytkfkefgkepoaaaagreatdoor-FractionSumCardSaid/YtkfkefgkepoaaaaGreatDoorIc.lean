/- How a list of fractions that came in is opened. -/
import Derived.Test.YtkfkefgkepoaaaaGreatDoorIb
namespace Go.Proofs.YtkfkefgkepoaaaaGreatDoor
open Go.ChangeShapes Go.WideShapes Go.ChangeAt Go.RowKit
set_option linter.unusedVariables false
set_option maxRecDepth 100000

theorem weights_inF {H : Type} {P : Program} {e : TypeId} : ∀ {l : List (DataW H)} {d : DataW H}, d ∈ l → ∀ n ∈ d.weights P e, n ∈ DataW.weightsAll P e l
  | [], d, hd, n, hn => by cases hd
  | x :: r, d, hd, n, hn => by
    simp only [DataW.weightsAll, List.mem_append]
    rcases List.mem_cons.1 hd with rfl | h
    · exact Or.inl hn
    · exact Or.inr (weights_inF h n hn)
theorem frac_bytes : Tryz.prog.bytesOf 32 = 56 := by kernel_rfl
/-- One fraction of a list that came in. -/
theorem open_fl {H : Type} {enc : TypeId × Value → H} {W : World} {fuel : Nat} {cs : List Value} {d : DataW H} {p : List MemPlace} (hsz : cs.length = 3) (hf : DataW.trod enc Tryz.prog W 0 (fun _ => true) true fuel 32 cs = some (d, p)) (hw : ∀ m ∈ d.weights Tryz.prog 32, m ≤ reachBytes) :
    ∃ f : FL, cs = [.bool f.s, .slice f.A f.n f.c, .slice f.B f.m f.d] ∧ f.In W := by
  obtain ⟨x, y, z, rfl⟩ : ∃ x y z, cs = [x, y, z] := by
    match cs, hsz with
    | [x, y, z], _ => exact ⟨x, y, z, rfl⟩
  obtain ⟨y0, y1, y2, n, hx, _, h0, h1, h2⟩ := Go.Deep.trod_struct3 Tryz.underlying32 hf
  obtain ⟨d1, p1⟩ := y1
  obtain ⟨d2, p2⟩ := y2
  simp only [Prod.mk.injEq] at hx
  rw [hx.1] at hw
  have k0 : DataW.trod enc Tryz.prog W 0 (fun _ => true) true n 4 [x] = some y0 := by simpa [Value.cells, cellsBool] using h0
  have k1 : DataW.trod enc Tryz.prog W 0 (fun _ => true) true n 30 [y] = some (d1, p1) := by simpa [Value.cells, Tryz.cellsNat] using h1
  have k2 : DataW.trod enc Tryz.prog W 0 (fun _ => true) true n 30 [z] = some (d2, p2) := by simpa [Value.cells, Tryz.cellsNat] using h2
  obtain ⟨s, rfl⟩ := bool_field k0
  have hw1 : ∀ m ∈ d1.weights Tryz.prog 30, m ≤ reachBytes := fun m hm => hw m (by simp only [DataW.weights, Tryz.underlying32]; simp [DataW.weightsEach, hm])
  have hw2 : ∀ m ∈ d2.weights Tryz.prog 30, m ≤ reachBytes := fun m hm => hw m (by simp only [DataW.weights, Tryz.underlying32]; simp [DataW.weightsEach, hm])
  obtain ⟨A, n1, c1, L, rfl, a1, a2, a3, a4⟩ := nat_field k1 hw1
  obtain ⟨B, n2, c2, M, rfl, b1, b2, b3, b4⟩ := nat_field k2 hw2
  exact ⟨⟨s, L, M, n1, c1, n2, c2, A, B⟩, rfl, ⟨a1, b1, a2, b2, ⟨by dsimp only; omega, by dsimp only; omega⟩, ⟨by dsimp only; omega, by dsimp only; omega⟩⟩, a4, b4⟩
/-- A list of fractions that came in. -/
theorem open_fracs {H : Type} {enc : TypeId × Value → H} {W : World} {r : Reach} {b0 : Nat} {v : Value} {d : DataW H} {p : List MemPlace} (hv : Value.okWide Tryz.prog W r b0 22 v)
    (h : DataW.Trod enc Tryz.prog W 0 (fun _ => true) true 22 v d p) (hw : ∀ m ∈ d.weights Tryz.prog 22, m ≤ reachBytes) :
    ∃ (A : Option Addr) (n c : Nat) (L : List FL), v = .slice A n c ∧ L.length = n ∧ n ≤ 17592186044416 ∧ FracL W A L := by
  obtain ⟨fuel, hf⟩ := h
  obtain ⟨av, lv, cv, rfl⟩ := okWide_slice Tryz.underlying22 hv
  have hcv : ∀ u, (Value.slice av lv cv).cells.toList = [u] → Value.slice av lv cv = u := fun u hu => by
    have : [Value.slice av lv cv] = [u] := by simpa [Value.cells] using hu
    injection this
  rcases Go.Deep.open_slice Tryz.underlying22 hf with ⟨hcs, hy⟩ | ⟨a, len, cap, m, n, D, Pl, hcs, _, hl, hm, hmm, hy, hi⟩
  · exact ⟨none, 0, 0, [], hcv _ hcs, rfl, Nat.zero_le _, fracL_nil _ _⟩
  · simp only [if_true] at hmm
    subst hmm
    simp only [Prod.mk.injEq] at hy
    obtain ⟨hd, _⟩ := hy
    rw [cellsFrac] at hi
    have hr := reachBytes_lt
    have hbig : len ≤ 17592186044416 := by
      have h1 : (((List.range len).map D).length + ((List.range (m - len)).map fun j => D (len + j)).length) * Tryz.prog.bytesOf 32 ∈ d.weights Tryz.prog 22 := by
        rw [hd]; simp [DataW.weights, Tryz.underlying22]
      have h2 := hw _ h1
      rw [frac_bytes] at h2
      simp only [List.length_map, List.length_range] at h2
      omega
    have hone : ∀ i, i < len → ∃ x : FL, (W.cell? ((a.add (i * 3)).add 0) = some (.bool x.s) ∧ W.cell? ((a.add (i * 3)).add 1) = some (.slice x.A x.n x.c) ∧ W.cell? ((a.add (i * 3)).add 2) = some (.slice x.B x.m x.d)) ∧ x.In W := by
      intro i hil
      obtain ⟨cs', hc, ht⟩ := hi i (by omega)
      obtain ⟨_, hlen, hat⟩ := World.cells?_some hc
      have hmem : ∀ m ∈ (D i).weights Tryz.prog 32, m ≤ reachBytes := fun m hm => hw m (by
        rw [hd]
        simp only [DataW.weights, Tryz.underlying22, List.mem_cons, List.mem_append]
        exact Or.inr (Or.inl (weights_inF (List.mem_map.2 ⟨i, List.mem_range.2 hil, rfl⟩) _ hm)))
      obtain ⟨x, hx, hin⟩ := open_fl hlen ht hmem
      subst hx
      exact ⟨x, ⟨hat 0 (by omega), hat 1 (by omega), hat 2 (by omega)⟩, hin⟩
    obtain ⟨F, hF⟩ : ∃ F : Nat → FL, ∀ i, i < len → (W.cell? ((a.add (i * 3)).add 0) = some (.bool (F i).s) ∧ W.cell? ((a.add (i * 3)).add 1) = some (.slice (F i).A (F i).n (F i).c) ∧ W.cell? ((a.add (i * 3)).add 2) = some (.slice (F i).B (F i).m (F i).d)) ∧ (F i).In W :=
      ⟨fun i => if h : i < len then Classical.choose (hone i h) else ⟨false, [], [], 0, 0, 0, 0, none, none⟩, fun i h => by simp only [dif_pos h]; exact Classical.choose_spec (hone i h)⟩
    refine ⟨some a, len, m, (List.range len).map F, hcv _ hcs, by simp, hbig, fun x hx => ?_, fun h0 => ?_⟩
    · obtain ⟨i, hi1, rfl⟩ := List.mem_map.1 hx
      exact (hF i (List.mem_range.1 hi1)).2
    · have h0' : 0 < len := by simpa using h0
      obtain ⟨b, off, spot⟩ := a
      have hc0 := (hF 0 h0').1.1
      have hspot : spot = none := by simpa [Addr.add] using World.cell?_spot hc0
      subst hspot
      have ea : ∀ i j, ((⟨b, off, none⟩ : Addr).add i).add j = ⟨b, off + i + j, none⟩ := fun i j => by unfold Addr.add; split <;> split <;> simp_all
      refine ⟨b, off, rfl, ?_, fun j x hx => ?_⟩
      · have := World.block_lt_of_cell? W _ hc0
        rw [ea] at this
        exact this
      · rw [List.getElem?_map] at hx
        by_cases hj : j < len
        · rw [List.getElem?_range hj] at hx
          have hx' : F j = x := Option.some.inj hx
          obtain ⟨⟨h1, h2, h3⟩, _⟩ := hF j hj
          rw [ea] at h1 h2 h3
          rw [← hx']
          exact ⟨h1, h2, h3⟩
        · rw [List.getElem?_eq_none (by simp; omega)] at hx; cases hx
end Go.Proofs.YtkfkefgkepoaaaaGreatDoor
