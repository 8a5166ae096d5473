/- Drafts of orthographies, and signs, that come in. -/
import Derived.Test.YtfgnekbkcmpdiaaGreatDoorOr
namespace Go.Proofs.YtfgnekbkcmpdiaaGreatDoor
open Go.RowKit
set_option linter.unusedVariables false
set_option linter.unusedSimpArgs false
set_option maxRecDepth 100000
open Go.ChangeShapes Go.WideShapes Go.ChangeAt
theorem octl_cells : Tryz.prog.cellsOf 36 = 1 := by kernel_rfl
theorem draft_cells : Tryz.prog.cellsOf 38 = 3 := by kernel_rfl
/-- A list of bytes, by its cell. -/
theorem open_bytesT {H : Type} {enc : TypeId × Value → H} {W : World} {fuel : Nat} {v : Value} {d : DataW H} {p : List MemPlace} (hf : DataW.trod enc Tryz.prog W 0 (fun _ => true) true fuel 36 [v] = some (d, p)) (hw : ∀ m ∈ d.weights Tryz.prog 36, m ≤ reachBytes) :
    ∃ (A : Option Addr) (n c : Nat) (B : List Int), v = .slice A n c ∧ B.length = n ∧ n ≤ 1000000000000000 ∧ (∀ z ∈ B, 0 ≤ z ∧ z ≤ 255) ∧ CellsIn W A (bytesC B) := by
  have hcv : ∀ u, [v] = [u] → v = u := fun u hu => by injection hu
  rcases open_ints Tryz.underlying36 Tryz.underlying5 byte_cells hf with ⟨hcs, hy⟩ | ⟨a, len, cap, zs, hcs, _, hl, hm, hz, hy, hcell, hwz⟩
  · exact ⟨none, 0, 0, [], hcv _ hcs, rfl, Nat.zero_le _, fun z hz => by simp at hz, CellsIn.nil _ _⟩
  · simp only [if_true] at hz
    simp only [Prod.mk.injEq] at hy
    rw [hy.1] at hw
    have hr := bytes_weights hw
    simp only [lits, List.length_map, List.length_take, List.length_drop, hz, Nat.min_eq_left hl] at hr
    have hb := reachBytes_lt
    refine ⟨some a, len, cap, zs.take len, hcv _ hcs, by rw [List.length_take]; omega, by omega, fun z hzz => ?_, fun h0 => ?_⟩
    · exact bounds_u8 (hwz _ (List.mem_of_mem_take hzz))
    · have hlen : 0 < len := by unfold bytesC at h0; rw [List.length_map, List.length_take] at h0; omega
      obtain ⟨b, off, rfl, hlt⟩ := spot_none (hcell 0 (by omega))
      refine ⟨b, off, rfl, hlt, fun j u hu => ?_⟩
      have hj := (List.getElem?_eq_some_iff.1 hu).1
      unfold bytesC at hj hu
      rw [List.length_map, List.length_take] at hj
      have hjl : j < zs.length := by omega
      have := hcell j (by omega)
      rw [add_at] at this
      rw [this]
      rw [List.getElem?_map, List.getElem?_take_of_lt (by omega), List.getElem?_eq_getElem hjl] at hu
      rw [← hu, List.getD_eq_getElem?_getD, List.getElem?_eq_getElem hjl]; rfl
/-- A draft that came in. -/
theorem open_draft {H : Type} {enc : TypeId × Value → H} {W : World} {r : Reach} {b0 : Nat} {v : Value} {d : DataW H} {p : List MemPlace} (hv : Value.okWide Tryz.prog W r b0 38 v)
    (h : DataW.Trod enc Tryz.prog W 0 (fun _ => true) true 38 v d p) (hw : ∀ m ∈ d.weights Tryz.prog 38, m ≤ reachBytes) :
    ∃ (kd : Int) (A : Option Addr) (n c : Nat) (D : List Int) (B : Option Addr) (m e : Nat) (M : List Int), v = .agg #[.int .u8 kd, .slice A n c, .slice B m e] ∧ (0 ≤ kd ∧ kd ≤ 255) ∧ ((D.length = n ∧ n ≤ 1000000000000000) ∧ (∀ z ∈ D, 0 ≤ z ∧ z ≤ 255) ∧ CellsIn W A (bytesC D)) ∧ ((M.length = m ∧ m ≤ 1000000000000000) ∧ (∀ z ∈ M, 0 ≤ z ∧ z ≤ 255) ∧ CellsIn W B (bytesC M)) := by
  obtain ⟨cs, rfl, hsz⟩ := okWide_struct Tryz.underlying38 hv
  rw [draft_cells] at hsz
  obtain ⟨a, b, c, rfl⟩ : ∃ a b c, cs = #[a, b, c] := by
    obtain ⟨l⟩ := cs
    match l, hsz with
    | [a, b, c], _ => exact ⟨a, b, c, rfl⟩
  obtain ⟨fuel, hf⟩ := h
  obtain ⟨y0, y1, y2, k, hx, hl, h0, h1, h2⟩ := Go.Deep.trod_struct3 Tryz.underlying38 hf
  simp only [byte_cells, octl_cells] at h0 h1 h2
  obtain ⟨q, hq, hy0, hqb⟩ := DataW.trod_int Tryz.underlying5 h0
  injection hx with hd _
  have hwt : ∀ m, m ∈ y1.1.weights Tryz.prog 36 ∨ m ∈ y2.1.weights Tryz.prog 36 → m ≤ reachBytes := fun m hm => hw m (by
    rw [hd]
    simp only [DataW.weights, Tryz.underlying38, DataW.weightsEach, List.map_cons, List.map_nil, List.mem_append]
    rcases hm with hm | hm
    · exact Or.inr (Or.inl hm)
    · exact Or.inr (Or.inr (Or.inl hm)))
  have h1' : DataW.trod enc Tryz.prog W 0 (fun _ => true) true k 36 [b] = some y1 := by simpa [Value.cells] using h1
  have h2' : DataW.trod enc Tryz.prog W 0 (fun _ => true) true k 36 [c] = some y2 := by simpa [Value.cells] using h2
  obtain ⟨A1, n1, c1, B1, rfl, a1, a2, a3, a4⟩ := open_bytesT (d := y1.1) (p := y1.2) h1' (fun m hm => hwt m (Or.inl hm))
  obtain ⟨A2, n2, c2, B2, rfl, d1, d2, d3, d4⟩ := open_bytesT (d := y2.1) (p := y2.2) h2' (fun m hm => hwt m (Or.inr hm))
  have ha : a = .int .u8 q := by simpa [Value.cells] using field_one hq
  have hb : 0 ≤ q ∧ q ≤ 255 := bounds_u8 hqb
  exact ⟨q, A1, n1, c1, B1, A2, n2, c2, B2, by rw [ha], hb, ⟨⟨a1, a2⟩, a3, a4⟩, ⟨⟨d1, d2⟩, d3, d4⟩⟩
/-- A sign that came in. -/
theorem open_sign {H : Type} {enc : TypeId × Value → H} {W : World} {r : Reach} {b0 : Nat} {v : Value} {d : DataW H} {p : List MemPlace} (hv : Value.okWide Tryz.prog W r b0 34 v)
    (h : DataW.Trod enc Tryz.prog W 0 (fun _ => true) true 34 v d p) (hw : ∀ m ∈ d.weights Tryz.prog 34, m ≤ reachBytes) :
    ∃ (x : Sg) (A : Option Addr) (c : Nat), v = .agg #[.string (bs x.t), .slice A x.s.length c, .int .i64 x.c, .int .i64 x.w] ∧ SgLim x ∧ CellsIn W A (sndsC x.s) := by
  obtain ⟨cs, rfl, hsz⟩ := okWide_struct Tryz.underlying34 hv
  rw [sgn_cells] at hsz
  obtain ⟨a, b, c, e, rfl⟩ : ∃ a b c e, cs = #[a, b, c, e] := by
    obtain ⟨l⟩ := cs
    match l, hsz with
    | [a, b, c, e], _ => exact ⟨a, b, c, e, rfl⟩
  obtain ⟨fuel, hf⟩ := h
  obtain ⟨x, A, cc, h0, h1, h2, h3, hlim, _, hC⟩ := open_sgc hf hw
  refine ⟨x, A, cc, ?_, hlim, hC⟩
  simp [Value.cells] at h0 h1 h2 h3
  rw [h0, h1, h2, h3]
end Go.Proofs.YtfgnekbkcmpdiaaGreatDoor
