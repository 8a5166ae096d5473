/- How lists of tokens, bytes and numbers that came in are opened. -/
import Derived.Test.YtngkhggofjeflaaDoorKt
import Derived.ChangeOld
import Derived.Deep.Slices
import Derived.Deep.Strs
import Derived.ChangeSlices
import Derived.SizedLaws
import Derived.OpenShut
import Derived.SliceStrings
import Derived.ProofKit
import Derived.ShutString
import Derived.Deep.DeepHandedRow
import Derived.Shelf.Vars
namespace Go.Proofs.YtngkhggofjeflaaDoor
open Go.ChangeShapes Go.WideShapes Go.ChangeAt Go.RowKit
set_option linter.unusedVariables false
set_option maxRecDepth 100000

theorem weights_of {H : Type} {P : Program} {ts : List TypeId} {ds : List (DataW H)} (h : (DataW.weightsEach P ts ds).all (· ≤ reachBytes) = true) {j : Nat} {t : TypeId} {d : DataW H} (ht : ts[j]? = some t) (hd : ds[j]? = some d) : ∀ m ∈ d.weights P t, m ≤ reachBytes :=
  fun m hm => of_decide_eq_true (List.all_eq_true.1 h m (DataW.weights_mem_each ht hd m hm))
theorem weights_in {H : Type} {P : Program} {e : TypeId} : ∀ {l : List (DataW H)} {d : DataW H}, d ∈ l → ∀ n ∈ d.weights P e, n ∈ DataW.weightsAll P e l
  | [], d, hd, n, hn => by cases hd
  | x :: r, d, hd, n, hn => by
    simp only [DataW.weightsAll, List.mem_append]
    rcases List.mem_cons.1 hd with rfl | h
    · exact Or.inl hn
    · exact Or.inr (weights_in h n hn)
theorem tok_cells : Tryd.prog.cellsOf 29 = 3 := by kernel_rfl
theorem tok_bytes : Tryd.prog.bytesOf 29 = 32 := by kernel_rfl
theorem int_cells : Tryd.prog.cellsOf 3 = 1 := by kernel_rfl
theorem str_cells : Tryd.prog.cellsOf 9 = 1 := by kernel_rfl
theorem byte_cells : Tryd.prog.cellsOf 5 = 1 := by kernel_rfl
theorem byte_bytes : Tryd.prog.bytesOf 5 = 1 := by kernel_rfl
theorem field_one {cs : List Value} {j : Nat} {v : Value} (h : (cs.drop j).take 1 = [v]) : cs[j]? = some v := by
  have h1 : ((cs.drop j).take 1)[0]? = some v := by rw [h]; rfl
  rw [List.getElem?_take_of_lt (by omega), List.getElem?_drop] at h1
  simpa using h1
/-- One token that came in. -/
theorem open_tok {H : Type} {enc : TypeId × Value → H} {W : World} {fuel : Nat} {cs : List Value} {d : DataW H} {p : List MemPlace} (h : DataW.trod enc Tryd.prog W 0 (fun _ => true) true fuel 29 cs = some (d, p)) :
    ∃ x : Tok, cs[0]? = some (.int .i64 x.k) ∧ cs[1]? = some (.string (bs x.t)) ∧ cs[2]? = some (.int .i64 x.l) ∧ x.t.length ∈ d.weights Tryd.prog 29 := by
  obtain ⟨y0, y1, y2, n, hx, hl, h0, h1, h2⟩ := Go.Deep.trod_struct3 Tryd.underlying29 h
  simp only [int_cells, str_cells] at h0 h1 h2
  obtain ⟨k, hk, hy0, _⟩ := DataW.trod_int Tryd.underlying3 h0
  obtain ⟨s, hs, hy1, _⟩ := DataW.trod_string Tryd.underlying9 h1
  obtain ⟨l, hll, hy2, _⟩ := DataW.trod_int Tryd.underlying3 h2
  refine ⟨⟨k, s.data.toList, l⟩, field_one hk, ?_, field_one hll, ?_⟩
  · rw [field_one hs]; exact congrArg (fun b => some (Value.string b)) (bs_self s).symm
  · injection hx with hd _
    rw [hd, hy0, hy1, hy2]
    simp [DataW.weights, Tryd.underlying29, DataW.weightsEach]
/-- A list of tokens that came in. -/
theorem open_toks {H : Type} {enc : TypeId × Value → H} {W : World} {r : Reach} {b0 : Nat} {v : Value} {d : DataW H} {p : List MemPlace} (hv : Value.okWide Tryd.prog W r b0 23 v)
    (h : DataW.Trod enc Tryd.prog W 0 (fun _ => true) true 23 v d p) (hw : ∀ m ∈ d.weights Tryd.prog 23, m ≤ reachBytes) :
    ∃ (A : Option Addr) (n c : Nat) (L : List Tok), v = .slice A n c ∧ TokArg W A n c L := by
  obtain ⟨fuel, hf⟩ := h
  obtain ⟨av, lv, cv, rfl⟩ := okWide_slice Tryd.underlying23 hv
  have hcv : ∀ u, (Value.slice av lv cv).cells.toList = [u] → Value.slice av lv cv = u := fun u hu => by
    have : [Value.slice av lv cv] = [u] := by simpa [Value.cells] using hu
    injection this
  rcases Go.Deep.open_slice Tryd.underlying23 hf with ⟨hcs, hy⟩ | ⟨a, len, cap, m, n, D, Pl, hcs, _, hl, hm, hmm, hy, hi⟩
  · exact ⟨none, 0, 0, [], hcv _ hcs, rfl, Nat.zero_le _, fun x hx => by simp at hx, toks_nil _ _⟩
  · simp only [if_true] at hmm
    subst hmm
    simp only [Prod.mk.injEq] at hy
    obtain ⟨hd, _⟩ := hy
    rw [tok_cells] at hi
    have hr := reachBytes_lt
    have hbig : len ≤ 17592186044416 := by
      have h1 : (((List.range len).map D).length + ((List.range (m - len)).map fun j => D (len + j)).length) * Tryd.prog.bytesOf 29 ∈ d.weights Tryd.prog 23 := by
        rw [hd]; simp [DataW.weights, Tryd.underlying23]
      have h2 := hw _ h1
      rw [tok_bytes] at h2
      simp only [List.length_map, List.length_range] at h2
      omega
    have hone : ∀ i, i < len → ∃ x : Tok, (W.cell? ((a.add (i * 3)).add 0) = some (.int .i64 x.k) ∧ W.cell? ((a.add (i * 3)).add 1) = some (.string (bs x.t)) ∧ W.cell? ((a.add (i * 3)).add 2) = some (.int .i64 x.l)) ∧ x.t.length ≤ 140737488355328 := by
      intro i hil
      obtain ⟨cs', hc, ht⟩ := hi i (by omega)
      obtain ⟨x, h0, h1, h2, hwx⟩ := open_tok ht
      obtain ⟨_, hlen, hat⟩ := World.cells?_some hc
      refine ⟨x, ⟨(hat 0 (by omega)).trans h0, (hat 1 (by omega)).trans h1, (hat 2 (by omega)).trans h2⟩, ?_⟩
      have hmem : x.t.length ∈ d.weights Tryd.prog 23 := by
        rw [hd]
        simp only [DataW.weights, Tryd.underlying23, List.mem_cons, List.mem_append]
        exact Or.inr (Or.inl (weights_in (List.mem_map.2 ⟨i, List.mem_range.2 hil, rfl⟩) _ hwx))
      have := hw _ hmem
      omega
    obtain ⟨F, hF⟩ : ∃ F : Nat → Tok, ∀ i, i < len → (W.cell? ((a.add (i * 3)).add 0) = some (.int .i64 (F i).k) ∧ W.cell? ((a.add (i * 3)).add 1) = some (.string (bs (F i).t)) ∧ W.cell? ((a.add (i * 3)).add 2) = some (.int .i64 (F i).l)) ∧ (F i).t.length ≤ 140737488355328 :=
      ⟨fun i => if h : i < len then Classical.choose (hone i h) else ⟨0, [], 0⟩, fun i h => by simp only [dif_pos h]; exact Classical.choose_spec (hone i h)⟩
    refine ⟨some a, len, m, (List.range len).map F, hcv _ hcs, by simp, hbig, fun x hx => ?_, fun h0 => ?_⟩
    · obtain ⟨i, hi1, rfl⟩ := List.mem_map.1 hx
      exact (hF i (List.mem_range.1 hi1)).2
    · have h0' : 0 < len := by simpa using h0
      obtain ⟨b, off, spot⟩ := a
      have hc0 := (hF 0 h0').1.1
      have hspot : spot = none := by simpa [Addr.add] using World.cell?_spot hc0
      subst hspot
      have ea : ∀ i j, ((⟨b, off, none⟩ : Addr).add i).add j = ⟨b, off + i + j, none⟩ := fun i j => by unfold Addr.add; split <;> split <;> simp_all
      refine ⟨b, off, rfl, ?_, fun j x hx => ?_⟩
      · have := World.block_lt_of_cell? W _ hc0
        rw [ea] at this
        exact this
      · rw [List.getElem?_map] at hx
        by_cases hj : j < len
        · rw [List.getElem?_range hj] at hx
          have hx' : F j = x := Option.some.inj hx
          obtain ⟨⟨h1, h2, h3⟩, _⟩ := hF j hj
          rw [ea] at h1 h2 h3
          rw [← hx']
          exact ⟨h1, h2, h3⟩
        · rw [List.getElem?_eq_none (by simp; omega)] at hx; cases hx
theorem bytes_weights {H : Type} {el sp : List (DataW H)} (hw : ∀ m ∈ (DataW.slice el sp : DataW H).weights Tryd.prog 35, m ≤ reachBytes) : (el.length + sp.length) * 1 ≤ reachBytes := by
  have h1 : (el.length + sp.length) * Tryd.prog.bytesOf 5 ∈ (DataW.slice el sp : DataW H).weights Tryd.prog 35 := by
    simp [DataW.weights, Tryd.underlying35]
  have h2 := hw _ h1
  rwa [byte_bytes] at h2
/-- A list of bytes that came in. -/
theorem open_bytes {H : Type} {enc : TypeId × Value → H} {W : World} {r : Reach} {b0 : Nat} {v : Value} {d : DataW H} {p : List MemPlace} (hv : Value.okWide Tryd.prog W r b0 35 v)
    (h : DataW.Trod enc Tryd.prog W 0 (fun _ => true) true 35 v d p) (hw : ∀ m ∈ d.weights Tryd.prog 35, m ≤ reachBytes) :
    ∃ (A : Option Addr) (n c : Nat) (ch : Nat → Int), v = .slice A n c ∧ n ≤ 1000000000000000 ∧ BytesIn W A n ch := by
  obtain ⟨fuel, hf⟩ := h
  obtain ⟨av, lv, cv, rfl⟩ := okWide_slice Tryd.underlying35 hv
  have hcv : ∀ u, (Value.slice av lv cv).cells.toList = [u] → Value.slice av lv cv = u := fun u hu => by
    have : [Value.slice av lv cv] = [u] := by simpa [Value.cells] using hu
    injection this
  rcases open_ints Tryd.underlying35 Tryd.underlying5 byte_cells hf with ⟨hcs, hy⟩ | ⟨a, len, cap, zs, hcs, _, hl, hm, hz, hy, hcell, hwz⟩
  · exact ⟨none, 0, 0, fun _ => 0, hcv _ hcs, Nat.zero_le _, fun j => ⟨Int.le_refl 0, show (0 : Int) ≤ 255 by decide⟩, fun h0 => by omega⟩
  · simp only [if_true] at hz
    simp only [Prod.mk.injEq] at hy
    rw [hy.1] at hw
    have hr := bytes_weights hw
    simp only [lits, List.length_map, List.length_take, List.length_drop, hz, Nat.min_eq_left hl] at hr
    have hb := reachBytes_lt
    refine ⟨some a, len, cap, fun j => zs.getD j 0, hcv _ hcs, by omega, fun j => ?_, fun h0 => ?_⟩
    · by_cases hj : j < zs.length
      · show 0 ≤ zs.getD j 0 ∧ zs.getD j 0 ≤ 255
        rw [List.getD_eq_getElem?_getD, List.getElem?_eq_getElem hj]
        exact bounds_u8 (hwz _ (List.getElem_mem hj))
      · show 0 ≤ zs.getD j 0 ∧ zs.getD j 0 ≤ 255
        rw [List.getD_eq_getElem?_getD, List.getElem?_eq_none (by omega)]
        exact ⟨by decide, by decide⟩
    · obtain ⟨b, off, spot⟩ := a
      have hc0 := hcell 0 (by omega)
      have hspot : spot = none := by simpa [Addr.add] using World.cell?_spot hc0
      subst hspot
      refine ⟨b, off, rfl, ?_, fun j hj => ?_⟩
      · have := World.block_lt_of_cell? W _ hc0
        simpa [Addr.add] using this
      · have := hcell j (by omega)
        rw [show (⟨b, off, none⟩ : Addr).add j = ⟨b, off + j, none⟩ from by unfold Addr.add; split <;> simp_all] at this
        exact this
theorem max_at {W : World} (hsh : W.ShapedOpen Tryd.prog) : MaxAt W :=
  Go.Proofs.cell_of_shapedOpen_int (t := 3) (zero := #[.int .i64 0]) hsh (of_decide_eq_true (by kernel_rfl)) (by kernel_rfl) rfl (by kernel_rfl) (by kernel_rfl) Tryd.underlying3
end Go.Proofs.YtngkhggofjeflaaDoor
