/- Orthographies that come in: how they are read. -/
import Derived.Test.YtfgnekbkcmpdiaaGreatDoorOb
import Derived.Test.YtfgnekbkcmpdiaaGreatDoorOf
import Derived.Test.YtfgnekbkcmpdiaaGreatDoorUl
namespace Go.Proofs.YtfgnekbkcmpdiaaGreatDoor
open Go.RowKit
set_option linter.unusedVariables false
set_option linter.unusedSimpArgs false
set_option maxRecDepth 100000
open Go.ChangeShapes Go.WideShapes Go.ChangeAt
theorem sgn_cells : Tryz.prog.cellsOf 34 = 4 := by kernel_rfl
theorem sgn_bytes : Tryz.prog.bytesOf 34 = 56 := by kernel_rfl
theorem orth_cells : Tryz.prog.cellsOf 25 = 2 := by kernel_rfl
theorem sndl_cells : Tryz.prog.cellsOf 32 = 1 := by kernel_rfl
theorem sgnl_cells : Tryz.prog.cellsOf 23 = 1 := by kernel_rfl
section
variable {H : Type} {enc : TypeId × Value → H} {W : World}
/-- A list of sounds, by its cell. -/
theorem open_sndsT {fuel : Nat} {v : Value} {d : DataW H} {p : List MemPlace} (hf : DataW.trod enc Tryz.prog W 0 (fun _ => true) true fuel 32 [v] = some (d, p)) (hw : ∀ m ∈ d.weights Tryz.prog 32, m ≤ reachBytes) :
    ∃ (A : Option Addr) (n c : Nat) (L : List Snd), v = .slice A n c ∧ L.length = n ∧ n ≤ c ∧ n ≤ 17592186044416 ∧ (∀ x ∈ L, x.t.length ≤ 140737488355328) ∧ CellsIn W A (sndsC L) := by
  have hcv : ∀ u, [v] = [u] → v = u := fun u hu => by injection hu
  rcases Go.Deep.open_slice Tryz.underlying32 hf with ⟨hcs, hy⟩ | ⟨a, len, cap, m, n, D, Pl, hcs, _, hl, hm, hmm, hy, hi⟩
  · exact ⟨none, 0, 0, [], hcv _ hcs, rfl, Nat.le_refl _, Nat.zero_le _, fun x hx => by simp at hx, CellsIn.nil _ _⟩
  · simp only [if_true] at hmm
    subst hmm
    simp only [Prod.mk.injEq] at hy
    obtain ⟨hd, _⟩ := hy
    rw [snd_cells] at hi
    have hr := reachBytes_lt
    have hbig : len ≤ 17592186044416 := by
      have h1 : (((List.range len).map D).length + ((List.range (m - len)).map fun j => D (len + j)).length) * Tryz.prog.bytesOf 31 ∈ d.weights Tryz.prog 32 := by
        rw [hd]; simp [DataW.weights, Tryz.underlying32]
      have h2 := hw _ h1
      rw [snd_bytes] at h2
      simp only [List.length_map, List.length_range] at h2
      omega
    have hone : ∀ i, i < len → ∃ x : Snd, (W.cell? ((a.add (i * 3)).add 0) = some (.int .i64 x.k) ∧ W.cell? ((a.add (i * 3)).add 1) = some (.int .i64 x.q) ∧ W.cell? ((a.add (i * 3)).add 2) = some (.string (bs x.t))) ∧ x.t.length ≤ 140737488355328 := by
      intro i hil
      obtain ⟨cs', hc, ht⟩ := hi i (by omega)
      obtain ⟨x, h0, h1, h2, hwx⟩ := open_sndc ht
      obtain ⟨_, hlen, hat⟩ := World.cells?_some hc
      refine ⟨x, ⟨(hat 0 (by omega)).trans h0, (hat 1 (by omega)).trans h1, (hat 2 (by omega)).trans h2⟩, ?_⟩
      have hmem : x.t.length ∈ d.weights Tryz.prog 32 := by
        rw [hd]
        simp only [DataW.weights, Tryz.underlying32, List.mem_cons, List.mem_append]
        exact Or.inr (Or.inl (weights_in (List.mem_map.2 ⟨i, List.mem_range.2 hil, rfl⟩) _ hwx))
      have := hw _ hmem
      omega
    obtain ⟨F, hF⟩ : ∃ F : Nat → Snd, ∀ i, i < len → (W.cell? ((a.add (i * 3)).add 0) = some (.int .i64 (F i).k) ∧ W.cell? ((a.add (i * 3)).add 1) = some (.int .i64 (F i).q) ∧ W.cell? ((a.add (i * 3)).add 2) = some (.string (bs (F i).t))) ∧ (F i).t.length ≤ 140737488355328 :=
      ⟨fun i => if h : i < len then Classical.choose (hone i h) else ⟨0, 0, []⟩, fun i h => by simp only [dif_pos h]; exact Classical.choose_spec (hone i h)⟩
    refine ⟨some a, len, m, (List.range len).map F, hcv _ hcs, by simp, hl, hbig, fun x hx => ?_, fun h0 => ?_⟩
    · obtain ⟨i, hi1, rfl⟩ := List.mem_map.1 hx
      exact (hF i (List.mem_range.1 hi1)).2
    · have h0' : 0 < len := by rw [sndsC_len] at h0; simp at h0; omega
      obtain ⟨b, off, spot⟩ := a
      have hc0 := (hF 0 h0').1.1
      have hspot : spot = none := by simpa [Addr.add] using World.cell?_spot hc0
      subst hspot
      have ea : ∀ i j, ((⟨b, off, none⟩ : Addr).add i).add j = ⟨b, off + i + j, none⟩ := fun i j => by unfold Addr.add; split <;> split <;> simp_all
      refine ⟨b, off, rfl, ?_, fun j u hu => ?_⟩
      · have := World.block_lt_of_cell? W _ hc0
        rw [ea] at this
        exact this
      · obtain ⟨i, x, hx, hc⟩ := snds_split hu
        obtain ⟨hil, rfl⟩ := get_range hx
        obtain ⟨⟨h1, h2, h3⟩, _⟩ := hF i hil
        rw [ea] at h1 h2 h3
        rcases hc with ⟨rfl, rfl⟩ | ⟨rfl, rfl⟩ | ⟨rfl, rfl⟩
        · exact h1
        · rw [← Nat.add_assoc]; exact h2
        · rw [← Nat.add_assoc]; exact h3
/-- What is known of a sign that came in. -/
def SgLim (x : Sg) : Prop := x.t.length ≤ 140737488355328 ∧ x.s.length ≤ 17592186044416 ∧ ∀ y ∈ x.s, y.t.length ≤ 140737488355328
/-- The cells of a sign that came in. -/
theorem open_sgc {fuel : Nat} {cs : List Value} {d : DataW H} {p : List MemPlace} (h : DataW.trod enc Tryz.prog W 0 (fun _ => true) true fuel 34 cs = some (d, p)) (hw : ∀ m ∈ d.weights Tryz.prog 34, m ≤ reachBytes) :
    ∃ (x : Sg) (A : Option Addr) (c : Nat), cs[0]? = some (.string (bs x.t)) ∧ cs[1]? = some (.slice A x.s.length c) ∧ cs[2]? = some (.int .i64 x.c) ∧ cs[3]? = some (.int .i64 x.w) ∧ SgLim x ∧ x.s.length ≤ c ∧ CellsIn W A (sndsC x.s) := by
  obtain ⟨y0, y1, y2, y3, n, hx, hl, h0, h1, h2, h3⟩ := Go.Joins.trod_struct4 Tryz.underlying34 h
  simp only [int_cells, str_cells, sndl_cells] at h0 h1 h2 h3
  obtain ⟨s, hs, hy0, _⟩ := DataW.trod_string Tryz.underlying9 h0
  obtain ⟨q, hq, hy2, _⟩ := DataW.trod_int Tryz.underlying3 h2
  obtain ⟨r, hr, hy3, _⟩ := DataW.trod_int Tryz.underlying3 h3
  injection hx with hd _
  have hwt : ∀ m, m ∈ y0.1.weights Tryz.prog 9 ∨ m ∈ y1.1.weights Tryz.prog 32 → m ≤ reachBytes := fun m hm => hw m (by
    rw [hd]
    simp only [DataW.weights, Tryz.underlying34, DataW.weightsEach, List.map_cons, List.map_nil, List.mem_append]
    rcases hm with hm | hm
    · exact Or.inl hm
    · exact Or.inr (Or.inl hm))
  have hlen : ((cs.drop 1).take 1).length = 1 := by rw [sgn_cells] at hl; rw [List.length_take, List.length_drop]; omega
  obtain ⟨v, hv⟩ : ∃ v, (cs.drop 1).take 1 = [v] := by
    match hh : (cs.drop 1).take 1, hlen with
    | [v], _ => exact ⟨v, rfl⟩
  rw [hv] at h1
  obtain ⟨A, m, c, L, rfl, hL, hmc, hm, hLs, hC⟩ := open_sndsT h1 (fun m hm => hwt m (Or.inr hm))
  have hrb := reachBytes_lt
  have hst : s.data.toList.length ≤ 140737488355328 := by
    have := hwt s.data.toList.length (Or.inl (by rw [hy0]; simp [DataW.weights]))
    omega
  subst hL
  refine ⟨⟨s.data.toList, L, q, r⟩, A, c, ?_, field_one hv, field_one hq, field_one hr, ⟨hst, hm, hLs⟩, hmc, hC⟩
  rw [field_one hs]; exact congrArg (fun b => some (Value.string b)) (bs_self s).symm
/-- A list of signs that came in. -/
theorem open_sgns {fuel : Nat} {v : Value} {d : DataW H} {p : List MemPlace} (hf : DataW.trod enc Tryz.prog W 0 (fun _ => true) true fuel 23 [v] = some (d, p)) (hw : ∀ m ∈ d.weights Tryz.prog 23, m ≤ reachBytes) :
    ∃ (A : Option Addr) (n c : Nat) (L : List Sg), v = .slice A n c ∧ L.length = n ∧ n ≤ c ∧ n ≤ 17592186044416 ∧ (∀ x ∈ L, SgLim x) ∧ SgnIn W A L := by
  have hcv : ∀ u, [v] = [u] → v = u := fun u hu => by injection hu
  rcases Go.Deep.open_slice Tryz.underlying23 hf with ⟨hcs, hy⟩ | ⟨a, len, cap, m, n, D, Pl, hcs, _, hl, hm, hmm, hy, hi⟩
  · exact ⟨none, 0, 0, [], hcv _ hcs, rfl, Nat.le_refl _, Nat.zero_le _, fun x hx => by simp at hx, fun h => by simp at h⟩
  · simp only [if_true] at hmm
    subst hmm
    simp only [Prod.mk.injEq] at hy
    obtain ⟨hd, _⟩ := hy
    rw [sgn_cells] at hi
    have hr := reachBytes_lt
    have hbig : len ≤ 17592186044416 := by
      have h1 : (((List.range len).map D).length + ((List.range (m - len)).map fun j => D (len + j)).length) * Tryz.prog.bytesOf 34 ∈ d.weights Tryz.prog 23 := by
        rw [hd]; simp [DataW.weights, Tryz.underlying23]
      have h2 := hw _ h1
      rw [sgn_bytes] at h2
      simp only [List.length_map, List.length_range] at h2
      omega
    have hone : ∀ i, i < len → ∃ x : Sg, (∃ Aj cj, W.cell? ((a.add (i * 4)).add 0) = some (.string (bs x.t)) ∧ W.cell? ((a.add (i * 4)).add 1) = some (.slice Aj x.s.length cj) ∧ W.cell? ((a.add (i * 4)).add 2) = some (.int .i64 x.c) ∧ W.cell? ((a.add (i * 4)).add 3) = some (.int .i64 x.w) ∧ CellsIn W Aj (sndsC x.s)) ∧ SgLim x := by
      intro i hil
      obtain ⟨cs', hc, ht⟩ := hi i (by omega)
      have hwi : ∀ k ∈ (D i).weights Tryz.prog 34, k ≤ reachBytes := fun k hk => hw k (by
        rw [hd]
        simp only [DataW.weights, Tryz.underlying23, List.mem_cons, List.mem_append]
        exact Or.inr (Or.inl (weights_in (List.mem_map.2 ⟨i, List.mem_range.2 hil, rfl⟩) _ hk)))
      obtain ⟨x, Aj, cj, h0, h1, h2, h3, hlim, _, hC⟩ := open_sgc ht hwi
      obtain ⟨_, hlen, hat⟩ := World.cells?_some hc
      exact ⟨x, ⟨Aj, cj, (hat 0 (by omega)).trans h0, (hat 1 (by omega)).trans h1, (hat 2 (by omega)).trans h2, (hat 3 (by omega)).trans h3, hC⟩, hlim⟩
    obtain ⟨F, hF⟩ : ∃ F : Nat → Sg, ∀ i, i < len → (∃ Aj cj, W.cell? ((a.add (i * 4)).add 0) = some (.string (bs (F i).t)) ∧ W.cell? ((a.add (i * 4)).add 1) = some (.slice Aj (F i).s.length cj) ∧ W.cell? ((a.add (i * 4)).add 2) = some (.int .i64 (F i).c) ∧ W.cell? ((a.add (i * 4)).add 3) = some (.int .i64 (F i).w) ∧ CellsIn W Aj (sndsC (F i).s)) ∧ SgLim (F i) :=
      ⟨fun i => if h : i < len then Classical.choose (hone i h) else ⟨[], [], 0, 0⟩, fun i h => by simp only [dif_pos h]; exact Classical.choose_spec (hone i h)⟩
    refine ⟨some a, len, m, (List.range len).map F, hcv _ hcs, by simp, hl, hbig, fun x hx => ?_, fun h0 => ?_⟩
    · obtain ⟨i, hi1, rfl⟩ := List.mem_map.1 hx
      exact (hF i (List.mem_range.1 hi1)).2
    · have h0' : 0 < len := by simpa using h0
      obtain ⟨b, off, spot⟩ := a
      obtain ⟨Aj, cj, hc0, _⟩ := (hF 0 h0').1
      have hspot : spot = none := by simpa [Addr.add] using World.cell?_spot hc0
      subst hspot
      have ea : ∀ i j, ((⟨b, off, none⟩ : Addr).add i).add j = ⟨b, off + i + j, none⟩ := fun i j => by unfold Addr.add; split <;> split <;> simp_all
      refine ⟨b, off, rfl, ?_, fun j x hx => ?_⟩
      · have := World.block_lt_of_cell? W _ hc0
        rw [ea] at this
        exact this
      · obtain ⟨hil, rfl⟩ := get_range hx
        obtain ⟨⟨Aj, cj, h0, h1, h2, h3, h4⟩, _⟩ := hF j hil
        rw [ea] at h0 h1 h2 h3
        exact ⟨Aj, cj, h0, h1, h2, h3, h4⟩
/-- An orthography that came in. -/
theorem open_orth {r : Reach} {b0 : Nat} {v : Value} {d : DataW H} {p : List MemPlace} (hv : Value.okWide Tryz.prog W r b0 25 v)
    (h : DataW.Trod enc Tryz.prog W 0 (fun _ => true) true 25 v d p) (hw : ∀ m ∈ d.weights Tryz.prog 25, m ≤ reachBytes) :
    ∃ (nm : List UInt8) (A : Option Addr) (n c : Nat) (L : List Sg), v = .agg #[.string (bs nm), .slice A n c] ∧ nm.length ≤ 140737488355328 ∧ L.length = n ∧ n ≤ c ∧ n ≤ 17592186044416 ∧ (∀ x ∈ L, SgLim x) ∧ SgnIn W A L := by
  obtain ⟨cs, rfl, hsz⟩ := okWide_struct Tryz.underlying25 hv
  rw [orth_cells] at hsz
  obtain ⟨a, b, rfl⟩ : ∃ a b, cs = #[a, b] := by
    obtain ⟨l⟩ := cs
    match l, hsz with
    | [a, b], _ => exact ⟨a, b, rfl⟩
  obtain ⟨fuel, hf⟩ := h
  obtain ⟨y0, y1, k, hx, hl, h0, h1⟩ := trod_struct2 Tryz.underlying25 hf
  simp only [str_cells, sgnl_cells] at h0 h1
  obtain ⟨s, hs, hy0, _⟩ := DataW.trod_string Tryz.underlying9 h0
  injection hx with hd _
  have hwt : ∀ m, m ∈ y0.1.weights Tryz.prog 9 ∨ m ∈ y1.1.weights Tryz.prog 23 → m ≤ reachBytes := fun m hm => hw m (by
    rw [hd]
    simp only [DataW.weights, Tryz.underlying25, DataW.weightsEach, List.map_cons, List.map_nil, List.mem_append]
    rcases hm with hm | hm
    · exact Or.inl hm
    · exact Or.inr (Or.inl hm))
  have h1' : DataW.trod enc Tryz.prog W 0 (fun _ => true) true k 23 [b] = some y1 := by simpa [Value.cells] using h1
  obtain ⟨A, n, c, L, rfl, hL, hnc, hn, hlim, hC⟩ := open_sgns (d := y1.1) (p := y1.2) h1' (fun m hm => hwt m (Or.inr hm))
  have hrb := reachBytes_lt
  have hst : s.data.toList.length ≤ 140737488355328 := by
    have := hwt s.data.toList.length (Or.inl (by rw [hy0]; simp [DataW.weights]))
    omega
  have ha : a = .string s := by simpa [Value.cells] using field_one hs
  refine ⟨s.data.toList, A, n, c, L, ?_, hst, hL, hnc, hn, hlim, hC⟩
  rw [ha, bs_self]
end
end Go.Proofs.YtfgnekbkcmpdiaaGreatDoor
