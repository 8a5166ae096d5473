/- How clusters, and drafts of clusters, that came in are opened. -/
import Derived.Test.YthcdbhancfpldaaLk
import Derived.Test.YthcdbhancfpldaaUl
namespace Go.Proofs.Ythcdbhancfpldaa
open Go.RowKit
set_option linter.unusedVariables false
set_option linter.unusedSimpArgs false
set_option maxRecDepth 100000

open Go.ChangeShapes Go.WideShapes Go.ChangeAt
theorem sndl_cells : Try.prog.cellsOf 22 = 1 := by kernel_rfl
theorem octl_cells : Try.prog.cellsOf 45 = 1 := by kernel_rfl
theorem word_cells : Try.prog.cellsOf 46 = 1 := by kernel_rfl
theorem clu_cells : Try.prog.cellsOf 25 = 2 := by kernel_rfl
theorem cdraft_cells : Try.prog.cellsOf 48 = 2 := by kernel_rfl
section
variable {H : Type} {enc : TypeId × Value → H} {W : World}
/-- A list of sounds, by its cell. -/
theorem open_sndsT {fuel : Nat} {v : Value} {d : DataW H} {p : List MemPlace} (hf : DataW.trod enc Try.prog W 0 (fun _ => true) true fuel 22 [v] = some (d, p)) (hw : ∀ m ∈ d.weights Try.prog 22, m ≤ reachBytes) :
    ∃ (A : Option Addr) (n c : Nat) (L : List Snd), v = .slice A n c ∧ L.length = n ∧ n ≤ c ∧ n ≤ 17592186044416 ∧ (∀ x ∈ L, x.t.length ≤ 140737488355328) ∧ CellsIn W A (sndsC L) := by
  have hcv : ∀ u, [v] = [u] → v = u := fun u hu => by injection hu
  rcases Go.Deep.open_slice Try.underlying22 hf with ⟨hcs, hy⟩ | ⟨a, len, cap, m, n, D, Pl, hcs, _, hl, hm, hmm, hy, hi⟩
  · exact ⟨none, 0, 0, [], hcv _ hcs, rfl, Nat.le_refl _, Nat.zero_le _, fun x hx => by simp at hx, CellsIn.nil _ _⟩
  · simp only [if_true] at hmm
    subst hmm
    simp only [Prod.mk.injEq] at hy
    obtain ⟨hd, _⟩ := hy
    rw [snd_cells] at hi
    have hr := reachBytes_lt
    have hbig : len ≤ 17592186044416 := by
      have h1 : (((List.range len).map D).length + ((List.range (m - len)).map fun j => D (len + j)).length) * Try.prog.bytesOf 51 ∈ d.weights Try.prog 22 := by
        rw [hd]; simp [DataW.weights, Try.underlying22]
      have h2 := hw _ h1
      rw [snd_bytes] at h2
      simp only [List.length_map, List.length_range] at h2
      omega
    have hone : ∀ i, i < len → ∃ x : Snd, (W.cell? ((a.add (i * 3)).add 0) = some (.int .i64 x.k) ∧ W.cell? ((a.add (i * 3)).add 1) = some (.int .i64 x.q) ∧ W.cell? ((a.add (i * 3)).add 2) = some (.string (bs x.t))) ∧ x.t.length ≤ 140737488355328 := by
      intro i hil
      obtain ⟨cs', hc, ht⟩ := hi i (by omega)
      obtain ⟨x, h0, h1, h2, hwx⟩ := open_sndc ht
      obtain ⟨_, hlen, hat⟩ := World.cells?_some hc
      refine ⟨x, ⟨(hat 0 (by omega)).trans h0, (hat 1 (by omega)).trans h1, (hat 2 (by omega)).trans h2⟩, ?_⟩
      have hmem : x.t.length ∈ d.weights Try.prog 22 := by
        rw [hd]
        simp only [DataW.weights, Try.underlying22, List.mem_cons, List.mem_append]
        exact Or.inr (Or.inl (weights_in (List.mem_map.2 ⟨i, List.mem_range.2 hil, rfl⟩) _ hwx))
      have := hw _ hmem
      omega
    obtain ⟨F, hF⟩ : ∃ F : Nat → Snd, ∀ i, i < len → (W.cell? ((a.add (i * 3)).add 0) = some (.int .i64 (F i).k) ∧ W.cell? ((a.add (i * 3)).add 1) = some (.int .i64 (F i).q) ∧ W.cell? ((a.add (i * 3)).add 2) = some (.string (bs (F i).t))) ∧ (F i).t.length ≤ 140737488355328 :=
      ⟨fun i => if h : i < len then Classical.choose (hone i h) else ⟨0, 0, []⟩, fun i h => by simp only [dif_pos h]; exact Classical.choose_spec (hone i h)⟩
    refine ⟨some a, len, m, (List.range len).map F, hcv _ hcs, by simp, hl, hbig, fun x hx => ?_, fun h0 => ?_⟩
    · obtain ⟨i, hi1, rfl⟩ := List.mem_map.1 hx
      exact (hF i (List.mem_range.1 hi1)).2
    · have h0' : 0 < len := by rw [sndsC_len] at h0; simp at h0; omega
      obtain ⟨b, off, spot⟩ := a
      have hc0 := (hF 0 h0').1.1
      have hspot : spot = none := by simpa [Addr.add] using World.cell?_spot hc0
      subst hspot
      have ea : ∀ i j, ((⟨b, off, none⟩ : Addr).add i).add j = ⟨b, off + i + j, none⟩ := fun i j => by unfold Addr.add; split <;> split <;> simp_all
      refine ⟨b, off, rfl, ?_, fun j u hu => ?_⟩
      · have := World.block_lt_of_cell? W _ hc0
        rw [ea] at this
        exact this
      · obtain ⟨i, x, hx, hc⟩ := snds_split hu
        obtain ⟨hil, rfl⟩ := get_range hx
        obtain ⟨⟨h1, h2, h3⟩, _⟩ := hF i hil
        rw [ea] at h1 h2 h3
        rcases hc with ⟨rfl, rfl⟩ | ⟨rfl, rfl⟩ | ⟨rfl, rfl⟩
        · exact h1
        · rw [← Nat.add_assoc]; exact h2
        · rw [← Nat.add_assoc]; exact h3
theorem nums_le {v : Value} {x : DataW H × List MemPlace} {fuel : Nat} (h : DataW.trod enc Try.prog W 0 (fun _ => true) true fuel 23 [v] = some x) (hw : ∀ m ∈ x.1.weights Try.prog 23, m ≤ reachBytes) :
    ∃ (A : Option Addr) (n c : Nat) (L : List Int), v = .slice A n c ∧ L.length = n ∧ n ≤ c ∧ n ≤ 17592186044416 ∧ CellsIn W A (ints L) := by
  obtain ⟨A, n, c, L, e, h1, h2, h3, h4⟩ := open_nums h hw
  exact ⟨A, n, c, L, e, h1, h2, by omega, h4⟩
/-- A cluster that came in. -/
theorem open_clu {r : Reach} {b0 : Nat} {v : Value} {d : DataW H} {p : List MemPlace} (hv : Value.okWide Try.prog W r b0 25 v)
    (h : DataW.Trod enc Try.prog W 0 (fun _ => true) true 25 v d p) (hw : ∀ m ∈ d.weights Try.prog 25, m ≤ reachBytes) :
    ∃ (C : Clu) (A : Option Addr) (n c : Nat) (B : Option Addr) (m e : Nat), v = .agg #[.slice A n c, .slice B m e] ∧ COpen W A n c B m e C := by
  obtain ⟨cs, rfl, hsz⟩ := okWide_struct Try.underlying25 hv
  rw [clu_cells] at hsz
  obtain ⟨a, b, rfl⟩ : ∃ a b, cs = #[a, b] := by
    obtain ⟨l⟩ := cs
    match l, hsz with
    | [a, b], _ => exact ⟨a, b, rfl⟩
  obtain ⟨fuel, hf⟩ := h
  obtain ⟨y0, y1, k, hx, hl, h0, h1⟩ := trod_struct2 Try.underlying25 hf
  simp only [sndl_cells, ints_cells] at h0 h1
  injection hx with hd _
  have hwt : ∀ m, m ∈ y0.1.weights Try.prog 22 ∨ m ∈ y1.1.weights Try.prog 23 → m ≤ reachBytes := fun m hm => hw m (by
    rw [hd]
    simp only [DataW.weights, Try.underlying25, DataW.weightsEach, List.map_cons, List.map_nil, List.mem_append]
    rcases hm with hm | hm
    · exact Or.inl hm
    · exact Or.inr (Or.inl hm))
  have h0' : DataW.trod enc Try.prog W 0 (fun _ => true) true k 22 [a] = some y0 := by simpa [Value.cells] using h0
  have h1' : DataW.trod enc Try.prog W 0 (fun _ => true) true k 23 [b] = some y1 := by simpa [Value.cells] using h1
  obtain ⟨A, n, c, L, rfl, e1, e2, e3, e4, e5⟩ := open_sndsT (d := y0.1) (p := y0.2) h0' (fun m hm => hwt m (Or.inl hm))
  obtain ⟨B, m, e, M, rfl, f1, f2, f3, f4⟩ := nums_le h1' (fun m hm => hwt m (Or.inr hm))
  exact ⟨⟨L, M⟩, A, n, c, B, m, e, rfl, ⟨e1, f1, e3, f3, e2, f2, e4, e5, f4⟩⟩
/-- A list of bytes, by its cell. -/
theorem open_bytesT {H : Type} {enc : TypeId × Value → H} {W : World} {fuel : Nat} {v : Value} {d : DataW H} {p : List MemPlace} (hf : DataW.trod enc Try.prog W 0 (fun _ => true) true fuel 45 [v] = some (d, p)) (hw : ∀ m ∈ d.weights Try.prog 45, m ≤ reachBytes) :
    ∃ (A : Option Addr) (n c : Nat) (B : List Int), v = .slice A n c ∧ B.length = n ∧ n ≤ 1000000000000000 ∧ (∀ z ∈ B, 0 ≤ z ∧ z ≤ 255) ∧ CellsIn W A (bytesC B) := by
  have hcv : ∀ u, [v] = [u] → v = u := fun u hu => by injection hu
  rcases open_ints Try.underlying45 Try.underlying5 byte_cells hf with ⟨hcs, hy⟩ | ⟨a, len, cap, zs, hcs, _, hl, hm, hz, hy, hcell, hwz⟩
  · exact ⟨none, 0, 0, [], hcv _ hcs, rfl, Nat.zero_le _, fun z hz => by simp at hz, CellsIn.nil _ _⟩
  · simp only [if_true] at hz
    simp only [Prod.mk.injEq] at hy
    rw [hy.1] at hw
    have hr := bytes_weights hw
    simp only [lits, List.length_map, List.length_take, List.length_drop, hz, Nat.min_eq_left hl] at hr
    have hb := reachBytes_lt
    refine ⟨some a, len, cap, zs.take len, hcv _ hcs, by rw [List.length_take]; omega, by omega, fun z hzz => ?_, fun h0 => ?_⟩
    · exact bounds_u8 (hwz _ (List.mem_of_mem_take hzz))
    · have hlen : 0 < len := by unfold bytesC at h0; rw [List.length_map, List.length_take] at h0; omega
      obtain ⟨b, off, rfl, hlt⟩ := spot_none (hcell 0 (by omega))
      refine ⟨b, off, rfl, hlt, fun j u hu => ?_⟩
      have hj := (List.getElem?_eq_some_iff.1 hu).1
      unfold bytesC at hj hu
      rw [List.length_map, List.length_take] at hj
      have hjl : j < zs.length := by omega
      have := hcell j (by omega)
      rw [add_at] at this
      rw [this]
      rw [List.getElem?_map, List.getElem?_take_of_lt (by omega), List.getElem?_eq_getElem hjl] at hu
      rw [← hu, List.getD_eq_getElem?_getD, List.getElem?_eq_getElem hjl]; rfl
/-- A draft of a cluster that came in. -/
theorem open_cdraft {r : Reach} {b0 : Nat} {v : Value} {d : DataW H} {p : List MemPlace} (hv : Value.okWide Try.prog W r b0 48 v)
    (h : DataW.Trod enc Try.prog W 0 (fun _ => true) true 48 v d p) (hw : ∀ m ∈ d.weights Try.prog 48, m ≤ reachBytes) :
    ∃ (A : Option Addr) (n c : Nat) (D : List Int) (q : Int), v = .agg #[.slice A n c, .int .u32 q] ∧ (D.length = n ∧ n ≤ 1000000000000000) ∧ (∀ z ∈ D, 0 ≤ z ∧ z ≤ 255) ∧ CellsIn W A (bytesC D) ∧ (0 ≤ q ∧ q ≤ 4294967295) := by
  obtain ⟨cs, rfl, hsz⟩ := okWide_struct Try.underlying48 hv
  rw [cdraft_cells] at hsz
  obtain ⟨a, b, rfl⟩ : ∃ a b, cs = #[a, b] := by
    obtain ⟨l⟩ := cs
    match l, hsz with
    | [a, b], _ => exact ⟨a, b, rfl⟩
  obtain ⟨fuel, hf⟩ := h
  obtain ⟨y0, y1, k, hx, hl, h0, h1⟩ := trod_struct2 Try.underlying48 hf
  simp only [octl_cells, word_cells] at h0 h1
  obtain ⟨q, hq, hy1, hqb⟩ := DataW.trod_int Try.underlying46 h1
  injection hx with hd _
  have h0' : DataW.trod enc Try.prog W 0 (fun _ => true) true k 45 [a] = some y0 := by simpa [Value.cells] using h0
  obtain ⟨A1, n1, c1, B1, rfl, a1, a2, a3, a4⟩ := open_bytesT (d := y0.1) (p := y0.2) h0' (fun m hm => hw m (by
    rw [hd]
    simp only [DataW.weights, Try.underlying48, DataW.weightsEach, List.map_cons, List.map_nil, List.mem_append]
    exact Or.inl hm))
  have hb : b = .int .u32 q := by simpa [Value.cells] using field_one hq
  have hqr : 0 ≤ q ∧ q ≤ 4294967295 := bounds_u32 hqb
  exact ⟨A1, n1, c1, B1, q, by rw [hb], ⟨a1, a2⟩, a3, a4, hqr⟩
end
end Go.Proofs.Ythcdbhancfpldaa
