/- How sounds, lists of sounds and lists of bytes that came in are opened. -/
import Derived.Test.YthcdbhancfpldaaUf
import Derived.ChangeOld
import Derived.Deep.Slices
import Derived.Deep.Strs
import Derived.ChangeSlices
import Derived.SizedLaws
import Derived.OpenShut
import Derived.SliceStrings
import Derived.ProofKit
import Derived.ShutString
import Derived.Deep.DeepHandedRow
import Derived.Shelf.Vars
namespace Go.Proofs.Ythcdbhancfpldaa
open Go.RowKit
set_option linter.unusedVariables false
set_option linter.unusedSimpArgs false
set_option maxRecDepth 100000

open Go.ChangeShapes Go.WideShapes Go.ChangeAt
theorem bs_self (s : ByteArray) : bs s.data.toList = s := (bs_of rfl).symm
theorem snd_cells : Try.prog.cellsOf 51 = 3 := by kernel_rfl
theorem snd_bytes : Try.prog.bytesOf 51 = 32 := by kernel_rfl
theorem str_cells : Try.prog.cellsOf 9 = 1 := by kernel_rfl
theorem byte_cells : Try.prog.cellsOf 5 = 1 := by kernel_rfl
theorem byte_bytes : Try.prog.bytesOf 5 = 1 := by kernel_rfl
theorem field_one {cs : List Value} {j : Nat} {v : Value} (h : (cs.drop j).take 1 = [v]) : cs[j]? = some v := by
  have h1 : ((cs.drop j).take 1)[0]? = some v := by rw [h]; rfl
  rw [List.getElem?_take_of_lt (by omega), List.getElem?_drop] at h1
  simpa using h1
/-- The cells of a sound that came in. -/
theorem open_sndc {H : Type} {enc : TypeId × Value → H} {W : World} {fuel : Nat} {cs : List Value} {d : DataW H} {p : List MemPlace} (h : DataW.trod enc Try.prog W 0 (fun _ => true) true fuel 51 cs = some (d, p)) :
    ∃ x : Snd, cs[0]? = some (.int .i64 x.k) ∧ cs[1]? = some (.int .i64 x.q) ∧ cs[2]? = some (.string (bs x.t)) ∧ x.t.length ∈ d.weights Try.prog 51 := by
  obtain ⟨y0, y1, y2, n, hx, hl, h0, h1, h2⟩ := Go.Deep.trod_struct3 Try.underlying51 h
  simp only [int_cells, str_cells] at h0 h1 h2
  obtain ⟨k, hk, hy0, _⟩ := DataW.trod_int Try.underlying3 h0
  obtain ⟨q, hq, hy1, _⟩ := DataW.trod_int Try.underlying3 h1
  obtain ⟨s, hs, hy2, _⟩ := DataW.trod_string Try.underlying9 h2
  refine ⟨⟨k, q, s.data.toList⟩, field_one hk, field_one hq, ?_, ?_⟩
  · rw [field_one hs]; exact congrArg (fun b => some (Value.string b)) (bs_self s).symm
  · injection hx with hd _
    rw [hd, hy0, hy1, hy2]
    simp [DataW.weights, Try.underlying51, DataW.weightsEach]
/-- A sound that came in. -/
theorem open_snd {H : Type} {enc : TypeId × Value → H} {W : World} {r : Reach} {b0 : Nat} {v : Value} {d : DataW H} {p : List MemPlace} (hv : Value.okWide Try.prog W r b0 51 v)
    (h : DataW.Trod enc Try.prog W 0 (fun _ => true) true 51 v d p) (hw : ∀ m ∈ d.weights Try.prog 51, m ≤ reachBytes) :
    ∃ x : Snd, v = .agg #[.int .i64 x.k, .int .i64 x.q, .string (bs x.t)] ∧ x.t.length ≤ 140737488355328 := by
  obtain ⟨cs, rfl, hsz⟩ := okWide_struct Try.underlying51 hv
  rw [snd_cells] at hsz
  obtain ⟨a, b, c, rfl⟩ : ∃ a b c, cs = #[a, b, c] := by
    obtain ⟨l⟩ := cs
    match l, hsz with
    | [a, b, c], _ => exact ⟨a, b, c, rfl⟩
  obtain ⟨fuel, hf⟩ := h
  obtain ⟨x, h0, h1, h2, hwx⟩ := open_sndc hf
  have hr := reachBytes_lt
  have := hw _ hwx
  refine ⟨x, ?_, by omega⟩
  simp [Value.cells] at h0 h1 h2
  rw [h0, h1, h2]
theorem snds_split : ∀ {L : List Snd} {i : Nat} {u : Value}, (sndsC L)[i]? = some u → ∃ (j : Nat) (x : Snd), L[j]? = some x ∧ ((i = j * 3 ∧ u = .int .i64 x.k) ∨ (i = j * 3 + 1 ∧ u = .int .i64 x.q) ∨ (i = j * 3 + 2 ∧ u = .string (bs x.t)))
  | [], i, u, h => by simp [sndsC] at h
  | y :: r, 0, u, h => ⟨0, y, rfl, Or.inl ⟨rfl, by simpa [sndsC, sndC] using h.symm⟩⟩
  | y :: r, 1, u, h => ⟨0, y, rfl, Or.inr (Or.inl ⟨rfl, by simpa [sndsC, sndC] using h.symm⟩)⟩
  | y :: r, 2, u, h => ⟨0, y, rfl, Or.inr (Or.inr ⟨rfl, by simpa [sndsC, sndC] using h.symm⟩)⟩
  | y :: r, i + 3, u, h => by
    have h' : (sndsC r)[i]? = some u := by simpa [sndsC, sndC] using h
    obtain ⟨j, x, hx, hc⟩ := snds_split h'
    refine ⟨j + 1, x, by simpa using hx, ?_⟩
    rcases hc with ⟨a, b⟩ | ⟨a, b⟩ | ⟨a, b⟩
    · exact Or.inl ⟨by omega, b⟩
    · exact Or.inr (Or.inl ⟨by omega, b⟩)
    · exact Or.inr (Or.inr ⟨by omega, b⟩)
/-- A list of sounds that came in. -/
theorem open_snds {H : Type} {enc : TypeId × Value → H} {W : World} {r : Reach} {b0 : Nat} {v : Value} {d : DataW H} {p : List MemPlace} (hv : Value.okWide Try.prog W r b0 22 v)
    (h : DataW.Trod enc Try.prog W 0 (fun _ => true) true 22 v d p) (hw : ∀ m ∈ d.weights Try.prog 22, m ≤ reachBytes) :
    ∃ (A : Option Addr) (n c : Nat) (L : List Snd), v = .slice A n c ∧ L.length = n ∧ n ≤ 17592186044416 ∧ (∀ x ∈ L, x.t.length ≤ 140737488355328) ∧ CellsIn W A (sndsC L) := by
  obtain ⟨fuel, hf⟩ := h
  obtain ⟨av, lv, cv, rfl⟩ := okWide_slice Try.underlying22 hv
  have hcv : ∀ u, (Value.slice av lv cv).cells.toList = [u] → Value.slice av lv cv = u := fun u hu => by
    have : [Value.slice av lv cv] = [u] := by simpa [Value.cells] using hu
    injection this
  rcases Go.Deep.open_slice Try.underlying22 hf with ⟨hcs, hy⟩ | ⟨a, len, cap, m, n, D, Pl, hcs, _, hl, hm, hmm, hy, hi⟩
  · exact ⟨none, 0, 0, [], hcv _ hcs, rfl, Nat.zero_le _, fun x hx => by simp at hx, CellsIn.nil _ _⟩
  · simp only [if_true] at hmm
    subst hmm
    simp only [Prod.mk.injEq] at hy
    obtain ⟨hd, _⟩ := hy
    rw [snd_cells] at hi
    have hr := reachBytes_lt
    have hbig : len ≤ 17592186044416 := by
      have h1 : (((List.range len).map D).length + ((List.range (m - len)).map fun j => D (len + j)).length) * Try.prog.bytesOf 51 ∈ d.weights Try.prog 22 := by
        rw [hd]; simp [DataW.weights, Try.underlying22]
      have h2 := hw _ h1
      rw [snd_bytes] at h2
      simp only [List.length_map, List.length_range] at h2
      omega
    have hone : ∀ i, i < len → ∃ x : Snd, (W.cell? ((a.add (i * 3)).add 0) = some (.int .i64 x.k) ∧ W.cell? ((a.add (i * 3)).add 1) = some (.int .i64 x.q) ∧ W.cell? ((a.add (i * 3)).add 2) = some (.string (bs x.t))) ∧ x.t.length ≤ 140737488355328 := by
      intro i hil
      obtain ⟨cs', hc, ht⟩ := hi i (by omega)
      obtain ⟨x, h0, h1, h2, hwx⟩ := open_sndc ht
      obtain ⟨_, hlen, hat⟩ := World.cells?_some hc
      refine ⟨x, ⟨(hat 0 (by omega)).trans h0, (hat 1 (by omega)).trans h1, (hat 2 (by omega)).trans h2⟩, ?_⟩
      have hmem : x.t.length ∈ d.weights Try.prog 22 := by
        rw [hd]
        simp only [DataW.weights, Try.underlying22, List.mem_cons, List.mem_append]
        exact Or.inr (Or.inl (weights_in (List.mem_map.2 ⟨i, List.mem_range.2 hil, rfl⟩) _ hwx))
      have := hw _ hmem
      omega
    obtain ⟨F, hF⟩ : ∃ F : Nat → Snd, ∀ i, i < len → (W.cell? ((a.add (i * 3)).add 0) = some (.int .i64 (F i).k) ∧ W.cell? ((a.add (i * 3)).add 1) = some (.int .i64 (F i).q) ∧ W.cell? ((a.add (i * 3)).add 2) = some (.string (bs (F i).t))) ∧ (F i).t.length ≤ 140737488355328 :=
      ⟨fun i => if h : i < len then Classical.choose (hone i h) else ⟨0, 0, []⟩, fun i h => by simp only [dif_pos h]; exact Classical.choose_spec (hone i h)⟩
    refine ⟨some a, len, m, (List.range len).map F, hcv _ hcs, by simp, hbig, fun x hx => ?_, fun h0 => ?_⟩
    · obtain ⟨i, hi1, rfl⟩ := List.mem_map.1 hx
      exact (hF i (List.mem_range.1 hi1)).2
    · have h0' : 0 < len := by rw [sndsC_len] at h0; simp at h0; omega
      obtain ⟨b, off, spot⟩ := a
      have hc0 := (hF 0 h0').1.1
      have hspot : spot = none := by simpa [Addr.add] using World.cell?_spot hc0
      subst hspot
      have ea : ∀ i j, ((⟨b, off, none⟩ : Addr).add i).add j = ⟨b, off + i + j, none⟩ := fun i j => by unfold Addr.add; split <;> split <;> simp_all
      refine ⟨b, off, rfl, ?_, fun j u hu => ?_⟩
      · have := World.block_lt_of_cell? W _ hc0
        rw [ea] at this
        exact this
      · obtain ⟨i, x, hx, hc⟩ := snds_split hu
        obtain ⟨hil, rfl⟩ := get_range hx
        obtain ⟨⟨h1, h2, h3⟩, _⟩ := hF i hil
        rw [ea] at h1 h2 h3
        rcases hc with ⟨rfl, rfl⟩ | ⟨rfl, rfl⟩ | ⟨rfl, rfl⟩
        · exact h1
        · rw [← Nat.add_assoc]; exact h2
        · rw [← Nat.add_assoc]; exact h3
def bytesC (B : List Int) : List Value := B.map (Value.int .u8)
theorem bytes_weights {H : Type} {el sp : List (DataW H)} (hw : ∀ m ∈ (DataW.slice el sp : DataW H).weights Try.prog 45, m ≤ reachBytes) : (el.length + sp.length) * 1 ≤ reachBytes := by
  have h1 : (el.length + sp.length) * Try.prog.bytesOf 5 ∈ (DataW.slice el sp : DataW H).weights Try.prog 45 := by
    simp [DataW.weights, Try.underlying45]
  have h2 := hw _ h1
  rwa [byte_bytes] at h2
/-- A list of bytes that came in. -/
theorem open_bytes {H : Type} {enc : TypeId × Value → H} {W : World} {r : Reach} {b0 : Nat} {v : Value} {d : DataW H} {p : List MemPlace} (hv : Value.okWide Try.prog W r b0 45 v)
    (h : DataW.Trod enc Try.prog W 0 (fun _ => true) true 45 v d p) (hw : ∀ m ∈ d.weights Try.prog 45, m ≤ reachBytes) :
    ∃ (A : Option Addr) (n c : Nat) (B : List Int), v = .slice A n c ∧ B.length = n ∧ n ≤ 1000000000000000 ∧ (∀ z ∈ B, 0 ≤ z ∧ z ≤ 255) ∧ CellsIn W A (bytesC B) := by
  obtain ⟨fuel, hf⟩ := h
  obtain ⟨av, lv, cv, rfl⟩ := okWide_slice Try.underlying45 hv
  have hcv : ∀ u, (Value.slice av lv cv).cells.toList = [u] → Value.slice av lv cv = u := fun u hu => by
    have : [Value.slice av lv cv] = [u] := by simpa [Value.cells] using hu
    injection this
  rcases open_ints Try.underlying45 Try.underlying5 byte_cells hf with ⟨hcs, hy⟩ | ⟨a, len, cap, zs, hcs, _, hl, hm, hz, hy, hcell, hwz⟩
  · exact ⟨none, 0, 0, [], hcv _ hcs, rfl, Nat.zero_le _, fun z hz => by simp at hz, CellsIn.nil _ _⟩
  · simp only [if_true] at hz
    simp only [Prod.mk.injEq] at hy
    rw [hy.1] at hw
    have hr := bytes_weights hw
    simp only [lits, List.length_map, List.length_take, List.length_drop, hz, Nat.min_eq_left hl] at hr
    have hb := reachBytes_lt
    refine ⟨some a, len, cap, zs.take len, hcv _ hcs, by rw [List.length_take]; omega, by omega, fun z hzz => ?_, fun h0 => ?_⟩
    · exact bounds_u8 (hwz _ (List.mem_of_mem_take hzz))
    · have hlen : 0 < len := by unfold bytesC at h0; rw [List.length_map, List.length_take] at h0; omega
      obtain ⟨b, off, rfl, hlt⟩ := spot_none (hcell 0 (by omega))
      refine ⟨b, off, rfl, hlt, fun j u hu => ?_⟩
      have hj := (List.getElem?_eq_some_iff.1 hu).1
      unfold bytesC at hj hu
      rw [List.length_map, List.length_take] at hj
      have hjl : j < zs.length := by omega
      have := hcell j (by omega)
      rw [add_at] at this
      rw [this]
      rw [List.getElem?_map, List.getElem?_take_of_lt (by omega), List.getElem?_eq_getElem hjl] at hu
      rw [← hu, List.getD_eq_getElem?_getD, List.getElem?_eq_getElem hjl]; rfl

end Go.Proofs.Ythcdbhancfpldaa
