/- How a list of words that came in is opened. -/
import Derived.Test.YtjmndidbhickdaaDoorNFrame
import Derived.Test.YtjmndidbhickdaaDoorNMd
namespace Go.Proofs.YtjmndidbhickdaaDoor
open Go.ChangeShapes Go.WideShapes Go.ChangeAt Go.RowKit
set_option linter.unusedVariables false
set_option maxRecDepth 100000

theorem words_cells : Tryd.prog.cellsOf 65 = 1 := by kernel_rfl
theorem words_bytes : Tryd.prog.bytesOf 65 = 2 := by kernel_rfl
theorem words_weights {H : Type} {el sp : List (DataW H)} (hw : ∀ m ∈ (DataW.slice el sp : DataW H).weights Tryd.prog 36, m ≤ reachBytes) : (el.length + sp.length) * 2 ≤ reachBytes := by
  have h1 : (el.length + sp.length) * Tryd.prog.bytesOf 65 ∈ (DataW.slice el sp : DataW H).weights Tryd.prog 36 := by
    simp [DataW.weights, Tryd.underlying36]
  have h2 := hw _ h1
  rwa [words_bytes] at h2
/-- A list of words that came in: a slice that reads as integers from 0 to 65535. -/
theorem open_words {H : Type} {enc : TypeId × Value → H} {W : World} {r : Reach} {b0 : Nat} {v : Value} {d : DataW H} {p : List MemPlace} (hv : Value.okWide Tryd.prog W r b0 36 v)
    (h : DataW.Trod enc Tryd.prog W 0 (fun _ => true) true 36 v d p) (hw : ∀ m ∈ d.weights Tryd.prog 36, m ≤ reachBytes) :
    ∃ (A : Option Addr) (n c : Nat) (L : List Int), v = .slice A n c ∧ L.length = n ∧ n ≤ c ∧ c ≤ 70368744177664 ∧ WordsIn W A L ∧ ∀ j, 0 ≤ L.getD j 0 ∧ L.getD j 0 ≤ 65535 := by
  obtain ⟨fuel, hf⟩ := h
  obtain ⟨av, lv, cv, rfl⟩ := okWide_slice Tryd.underlying36 hv
  have hcv : ∀ u, (Value.slice av lv cv).cells.toList = [u] → Value.slice av lv cv = u := fun u hu => by
    have : [Value.slice av lv cv] = [u] := by simpa [Value.cells] using hu
    injection this
  rcases open_ints Tryd.underlying36 Tryd.underlying65 words_cells hf with ⟨hcs, hy⟩ | ⟨a, len, cap, zs, hcs, _, hl, hm, hz, hy, hcell, hwz⟩
  · exact ⟨none, 0, 0, [], hcv _ hcs, rfl, Nat.le_refl _, Nat.zero_le _, fun h0 => by simp at h0, fun j => by simp⟩
  · simp only [if_true] at hz
    simp only [Prod.mk.injEq] at hy
    rw [hy.1] at hw
    have hr := words_weights hw
    simp only [lits, List.length_map, List.length_take, List.length_drop, hz, Nat.min_eq_left hl] at hr
    have hb := reachBytes_lt
    have hlen : (zs.take len).length = len := by rw [List.length_take, hz, Nat.min_eq_left hl]
    refine ⟨some a, len, cap, zs.take len, hcv _ hcs, hlen, hl, by omega, fun h0 => ?_, fun j => ?_⟩
    · rw [hlen] at h0
      obtain ⟨b, off, spot⟩ := a
      have hc0 := hcell 0 (by omega)
      have hspot : spot = none := by simpa [Addr.add] using World.cell?_spot hc0
      subst hspot
      refine ⟨b, off, rfl, ?_, fun j hj => ?_⟩
      · have := World.block_lt_of_cell? W _ hc0
        simpa [Addr.add] using this
      · rw [hlen] at hj
        have := hcell j (by omega)
        rw [show (⟨b, off, none⟩ : Addr).add j = ⟨b, off + j, none⟩ from by unfold Addr.add; split <;> simp_all] at this
        rw [this, getD_take hj]
    · by_cases hj : j < (zs.take len).length
      · rw [getD_lt hj]
        exact bounds_u16 (hwz _ (List.mem_of_mem_take (List.getElem_mem hj)))
      · rw [getD_ge (by omega)]; omega
end Go.Proofs.YtjmndidbhickdaaDoor
