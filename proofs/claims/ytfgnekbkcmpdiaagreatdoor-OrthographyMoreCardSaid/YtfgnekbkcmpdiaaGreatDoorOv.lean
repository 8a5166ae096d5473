/- Pairs of lists of sounds that come in. -/
import Derived.Test.YtfgnekbkcmpdiaaGreatDoorOr
namespace Go.Proofs.YtfgnekbkcmpdiaaGreatDoor
open Go.RowKit
set_option linter.unusedVariables false
set_option linter.unusedSimpArgs false
set_option maxRecDepth 100000
open Go.ChangeShapes Go.WideShapes Go.ChangeAt
theorem ends_cells : Tryz.prog.cellsOf 40 = 2 := by kernel_rfl
theorem open_ends {H : Type} {enc : TypeId × Value → H} {W : World} {r : Reach} {b0 : Nat} {v : Value} {d : DataW H} {p : List MemPlace} (hv : Value.okWide Tryz.prog W r b0 40 v)
    (h : DataW.Trod enc Tryz.prog W 0 (fun _ => true) true 40 v d p) (hw : ∀ m ∈ d.weights Tryz.prog 40, m ≤ reachBytes) :
    ∃ (AB : Option Addr) (nb cb : Nat) (B : List Snd) (AA : Option Addr) (na ca : Nat) (A : List Snd), v = .agg #[.slice AB nb cb, .slice AA na ca] ∧ (B.length = nb ∧ nb ≤ 17592186044416 ∧ (∀ x ∈ B, x.t.length ≤ 140737488355328) ∧ CellsIn W AB (sndsC B)) ∧ (A.length = na ∧ na ≤ 17592186044416 ∧ (∀ x ∈ A, x.t.length ≤ 140737488355328) ∧ CellsIn W AA (sndsC A)) := by
  obtain ⟨cs, rfl, hsz⟩ := okWide_struct Tryz.underlying40 hv
  rw [ends_cells] at hsz
  obtain ⟨a, b, rfl⟩ : ∃ a b, cs = #[a, b] := by
    obtain ⟨l⟩ := cs
    match l, hsz with
    | [a, b], _ => exact ⟨a, b, rfl⟩
  obtain ⟨fuel, hf⟩ := h
  obtain ⟨y0, y1, k, hx, hl, h0, h1⟩ := trod_struct2 Tryz.underlying40 hf
  simp only [sndl_cells] at h0 h1
  injection hx with hd _
  have hwt : ∀ m, m ∈ y0.1.weights Tryz.prog 32 ∨ m ∈ y1.1.weights Tryz.prog 32 → m ≤ reachBytes := fun m hm => hw m (by
    rw [hd]
    simp only [DataW.weights, Tryz.underlying40, DataW.weightsEach, List.map_cons, List.map_nil, List.mem_append]
    rcases hm with hm | hm
    · exact Or.inl hm
    · exact Or.inr (Or.inl hm))
  have h0' : DataW.trod enc Tryz.prog W 0 (fun _ => true) true k 32 [a] = some y0 := by simpa [Value.cells] using h0
  have h1' : DataW.trod enc Tryz.prog W 0 (fun _ => true) true k 32 [b] = some y1 := by simpa [Value.cells] using h1
  obtain ⟨AB, nb, cb, B, rfl, b1, _, b2, b3, b4⟩ := open_sndsT (d := y0.1) (p := y0.2) h0' (fun m hm => hwt m (Or.inl hm))
  obtain ⟨AA, na, ca, A, rfl, a1, _, a2, a3, a4⟩ := open_sndsT (d := y1.1) (p := y1.2) h1' (fun m hm => hwt m (Or.inr hm))
  exact ⟨AB, nb, cb, B, AA, na, ca, A, rfl, ⟨b1, b2, b3, b4⟩, ⟨a1, a2, a3, a4⟩⟩
end Go.Proofs.YtfgnekbkcmpdiaaGreatDoor
