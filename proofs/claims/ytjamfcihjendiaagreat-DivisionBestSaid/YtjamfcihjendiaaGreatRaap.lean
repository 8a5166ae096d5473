/- Several texts in one: Or, On. -/
import Derived.Test.YtjamfcihjendiaaGreatRaag
import Derived.Test.YtjamfcihjendiaaGreatRaai
import Derived.Test.YtjamfcihjendiaaGreatRaan
namespace Go.Proofs.YtjamfcihjendiaaGreat
open Go.RowKit
set_option linter.unusedVariables false
set_option linter.unusedSimpArgs false
set_option maxRecDepth 100000
open Go.ChangeShapes Go.WideShapes Go.ChangeAt
theorem sgn_cells : Tryz.prog.cellsOf 64 = 4 := by kernel_rfl
theorem sgn_bytes : Tryz.prog.bytesOf 64 = 56 := by kernel_rfl
theorem orth_cells : Tryz.prog.cellsOf 24 = 2 := by kernel_rfl
theorem sndl_cells : Tryz.prog.cellsOf 62 = 1 := by kernel_rfl
theorem sgnl_cells : Tryz.prog.cellsOf 22 = 1 := by kernel_rfl
section
variable {H : Type} {enc : TypeId × Value → H} {W : World}
theorem open_sndsT {fuel : Nat} {v : Value} {d : DataW H} {p : List MemPlace} (hf : DataW.trod enc Tryz.prog W 0 (fun _ => true) true fuel 62 [v] = some (d, p)) (hw : ∀ m ∈ d.weights Tryz.prog 62, m ≤ reachBytes) :
    ∃ (A : Option Addr) (n c : Nat) (L : List Snd), v = .slice A n c ∧ L.length = n ∧ n ≤ c ∧ n ≤ 17592186044416 ∧ (∀ x ∈ L, x.t.length ≤ 140737488355328) ∧ CellsIn W A (sndsC L) := by
  have hcv : ∀ u, [v] = [u] → v = u := fun u hu => by injection hu
  rcases Go.Deep.open_slice Tryz.underlying62 hf with ⟨hcs, hy⟩ | ⟨a, len, cap, m, n, D, Pl, hcs, _, hl, hm, hmm, hy, hi⟩
  · exact ⟨none, 0, 0, [], hcv _ hcs, rfl, Nat.le_refl _, Nat.zero_le _, fun x hx => by simp at hx, CellsIn.nil _ _⟩
  · simp only [if_true] at hmm
    subst hmm
    simp only [Prod.mk.injEq] at hy
    obtain ⟨hd, _⟩ := hy
    rw [snd_cells] at hi
    have hr := reachBytes_lt
    have hbig : len ≤ 17592186044416 := by
      have h1 : (((List.range len).map D).length + ((List.range (m - len)).map fun j => D (len + j)).length) * Tryz.prog.bytesOf 96 ∈ d.weights Tryz.prog 62 := by
        rw [hd]; simp [DataW.weights, Tryz.underlying62]
      have h2 := hw _ h1
      rw [snd_bytes] at h2
      simp only [List.length_map, List.length_range] at h2
      omega
    have hone : ∀ i, i < len → ∃ x : Snd, (W.cell? ((a.add (i * 3)).add 0) = some (.int .i64 x.k) ∧ W.cell? ((a.add (i * 3)).add 1) = some (.int .i64 x.q) ∧ W.cell? ((a.add (i * 3)).add 2) = some (.string (bs x.t))) ∧ x.t.length ≤ 140737488355328 := by
      intro i hil
      obtain ⟨cs', hc, ht⟩ := hi i (by omega)
      obtain ⟨x, h0, h1, h2, hwx⟩ := open_sndc ht
      obtain ⟨_, hlen, hat⟩ := World.cells?_some hc
      refine ⟨x, ⟨(hat 0 (by omega)).trans h0, (hat 1 (by omega)).trans h1, (hat 2 (by omega)).trans h2⟩, ?_⟩
      have hmem : x.t.length ∈ d.weights Tryz.prog 62 := by
        rw [hd]
        simp only [DataW.weights, Tryz.underlying62, List.mem_cons, List.mem_append]
        exact Or.inr (Or.inl (weights_in (List.mem_map.2 ⟨i, List.mem_range.2 hil, rfl⟩) _ hwx))
      have := hw _ hmem
      omega
    obtain ⟨F, hF⟩ : ∃ F : Nat → Snd, ∀ i, i < len → (W.cell? ((a.add (i * 3)).add 0) = some (.int .i64 (F i).k) ∧ W.cell? ((a.add (i * 3)).add 1) = some (.int .i64 (F i).q) ∧ W.cell? ((a.add (i * 3)).add 2) = some (.string (bs (F i).t))) ∧ (F i).t.length ≤ 140737488355328 :=
      ⟨fun i => if h : i < len then Classical.choose (hone i h) else ⟨0, 0, []⟩, fun i h => by simp only [dif_pos h]; exact Classical.choose_spec (hone i h)⟩
    refine ⟨some a, len, m, (List.range len).map F, hcv _ hcs, by simp, hl, hbig, fun x hx => ?_, fun h0 => ?_⟩
    · obtain ⟨i, hi1, rfl⟩ := List.mem_map.1 hx
      exact (hF i (List.mem_range.1 hi1)).2
    · have h0' : 0 < len := by rw [sndsC_len] at h0; simp at h0; omega
      obtain ⟨b, off, spot⟩ := a
      have hc0 := (hF 0 h0').1.1
      have hspot : spot = none := by simpa [Addr.add] using World.cell?_spot hc0
      subst hspot
      have ea : ∀ i j, ((⟨b, off, none⟩ : Addr).add i).add j = ⟨b, off + i + j, none⟩ := fun i j => by unfold Addr.add; split <;> split <;> simp_all
      refine ⟨b, off, rfl, ?_, fun j u hu => ?_⟩
      · have := World.block_lt_of_cell? W _ hc0
        rw [ea] at this
        exact this
      · obtain ⟨i, x, hx, hc⟩ := snds_split hu
        obtain ⟨hil, rfl⟩ := get_range hx
        obtain ⟨⟨h1, h2, h3⟩, _⟩ := hF i hil
        rw [ea] at h1 h2 h3
        rcases hc with ⟨rfl, rfl⟩ | ⟨rfl, rfl⟩ | ⟨rfl, rfl⟩
        · exact h1
        · rw [← Nat.add_assoc]; exact h2
        · rw [← Nat.add_assoc]; exact h3
def SgLim (x : Sg) : Prop := x.t.length ≤ 140737488355328 ∧ x.s.length ≤ 17592186044416 ∧ ∀ y ∈ x.s, y.t.length ≤ 140737488355328
theorem open_sgc {fuel : Nat} {cs : List Value} {d : DataW H} {p : List MemPlace} (h : DataW.trod enc Tryz.prog W 0 (fun _ => true) true fuel 64 cs = some (d, p)) (hw : ∀ m ∈ d.weights Tryz.prog 64, m ≤ reachBytes) :
    ∃ (x : Sg) (A : Option Addr) (c : Nat), cs[0]? = some (.string (bs x.t)) ∧ cs[1]? = some (.slice A x.s.length c) ∧ cs[2]? = some (.int .i64 x.c) ∧ cs[3]? = some (.int .i64 x.w) ∧ SgLim x ∧ x.s.length ≤ c ∧ CellsIn W A (sndsC x.s) := by
  obtain ⟨y0, y1, y2, y3, n, hx, hl, h0, h1, h2, h3⟩ := Go.Joins.trod_struct4 Tryz.underlying64 h
  simp only [int_cells, str_cells, sndl_cells] at h0 h1 h2 h3
  obtain ⟨s, hs, hy0, _⟩ := DataW.trod_string Tryz.underlying9 h0
  obtain ⟨q, hq, hy2, _⟩ := DataW.trod_int Tryz.underlying3 h2
  obtain ⟨r, hr, hy3, _⟩ := DataW.trod_int Tryz.underlying3 h3
  injection hx with hd _
  have hwt : ∀ m, m ∈ y0.1.weights Tryz.prog 9 ∨ m ∈ y1.1.weights Tryz.prog 62 → m ≤ reachBytes := fun m hm => hw m (by
    rw [hd]
    simp only [DataW.weights, Tryz.underlying64, DataW.weightsEach, List.map_cons, List.map_nil, List.mem_append]
    rcases hm with hm | hm
    · exact Or.inl hm
    · exact Or.inr (Or.inl hm))
  have hlen : ((cs.drop 1).take 1).length = 1 := by rw [sgn_cells] at hl; rw [List.length_take, List.length_drop]; omega
  obtain ⟨v, hv⟩ : ∃ v, (cs.drop 1).take 1 = [v] := by
    match hh : (cs.drop 1).take 1, hlen with
    | [v], _ => exact ⟨v, rfl⟩
  rw [hv] at h1
  obtain ⟨A, m, c, L, rfl, hL, hmc, hm, hLs, hC⟩ := open_sndsT h1 (fun m hm => hwt m (Or.inr hm))
  have hrb := reachBytes_lt
  have hst : s.data.toList.length ≤ 140737488355328 := by
    have := hwt s.data.toList.length (Or.inl (by rw [hy0]; simp [DataW.weights]))
    omega
  subst hL
  refine ⟨⟨s.data.toList, L, q, r⟩, A, c, ?_, field_one hv, field_one hq, field_one hr, ⟨hst, hm, hLs⟩, hmc, hC⟩
  rw [field_one hs]; exact congrArg (fun b => some (Value.string b)) (bs_self s).symm
theorem open_sgns {fuel : Nat} {v : Value} {d : DataW H} {p : List MemPlace} (hf : DataW.trod enc Tryz.prog W 0 (fun _ => true) true fuel 22 [v] = some (d, p)) (hw : ∀ m ∈ d.weights Tryz.prog 22, m ≤ reachBytes) :
    ∃ (A : Option Addr) (n c : Nat) (L : List Sg), v = .slice A n c ∧ L.length = n ∧ n ≤ c ∧ n ≤ 17592186044416 ∧ (∀ x ∈ L, SgLim x) ∧ SgnIn W A L := by
  have hcv : ∀ u, [v] = [u] → v = u := fun u hu => by injection hu
  rcases Go.Deep.open_slice Tryz.underlying22 hf with ⟨hcs, hy⟩ | ⟨a, len, cap, m, n, D, Pl, hcs, _, hl, hm, hmm, hy, hi⟩
  · exact ⟨none, 0, 0, [], hcv _ hcs, rfl, Nat.le_refl _, Nat.zero_le _, fun x hx => by simp at hx, fun h => by simp at h⟩
  · simp only [if_true] at hmm
    subst hmm
    simp only [Prod.mk.injEq] at hy
    obtain ⟨hd, _⟩ := hy
    rw [sgn_cells] at hi
    have hr := reachBytes_lt
    have hbig : len ≤ 17592186044416 := by
      have h1 : (((List.range len).map D).length + ((List.range (m - len)).map fun j => D (len + j)).length) * Tryz.prog.bytesOf 64 ∈ d.weights Tryz.prog 22 := by
        rw [hd]; simp [DataW.weights, Tryz.underlying22]
      have h2 := hw _ h1
      rw [sgn_bytes] at h2
      simp only [List.length_map, List.length_range] at h2
      omega
    have hone : ∀ i, i < len → ∃ x : Sg, (∃ Aj cj, W.cell? ((a.add (i * 4)).add 0) = some (.string (bs x.t)) ∧ W.cell? ((a.add (i * 4)).add 1) = some (.slice Aj x.s.length cj) ∧ W.cell? ((a.add (i * 4)).add 2) = some (.int .i64 x.c) ∧ W.cell? ((a.add (i * 4)).add 3) = some (.int .i64 x.w) ∧ CellsIn W Aj (sndsC x.s)) ∧ SgLim x := by
      intro i hil
      obtain ⟨cs', hc, ht⟩ := hi i (by omega)
      have hwi : ∀ k ∈ (D i).weights Tryz.prog 64, k ≤ reachBytes := fun k hk => hw k (by
        rw [hd]
        simp only [DataW.weights, Tryz.underlying22, List.mem_cons, List.mem_append]
        exact Or.inr (Or.inl (weights_in (List.mem_map.2 ⟨i, List.mem_range.2 hil, rfl⟩) _ hk)))
      obtain ⟨x, Aj, cj, h0, h1, h2, h3, hlim, _, hC⟩ := open_sgc ht hwi
      obtain ⟨_, hlen, hat⟩ := World.cells?_some hc
      exact ⟨x, ⟨Aj, cj, (hat 0 (by omega)).trans h0, (hat 1 (by omega)).trans h1, (hat 2 (by omega)).trans h2, (hat 3 (by omega)).trans h3, hC⟩, hlim⟩
    obtain ⟨F, hF⟩ : ∃ F : Nat → Sg, ∀ i, i < len → (∃ Aj cj, W.cell? ((a.add (i * 4)).add 0) = some (.string (bs (F i).t)) ∧ W.cell? ((a.add (i * 4)).add 1) = some (.slice Aj (F i).s.length cj) ∧ W.cell? ((a.add (i * 4)).add 2) = some (.int .i64 (F i).c) ∧ W.cell? ((a.add (i * 4)).add 3) = some (.int .i64 (F i).w) ∧ CellsIn W Aj (sndsC (F i).s)) ∧ SgLim (F i) :=
      ⟨fun i => if h : i < len then Classical.choose (hone i h) else ⟨[], [], 0, 0⟩, fun i h => by simp only [dif_pos h]; exact Classical.choose_spec (hone i h)⟩
    refine ⟨some a, len, m, (List.range len).map F, hcv _ hcs, by simp, hl, hbig, fun x hx => ?_, fun h0 => ?_⟩
    · obtain ⟨i, hi1, rfl⟩ := List.mem_map.1 hx
      exact (hF i (List.mem_range.1 hi1)).2
    · have h0' : 0 < len := by simpa using h0
      obtain ⟨b, off, spot⟩ := a
      obtain ⟨Aj, cj, hc0, _⟩ := (hF 0 h0').1
      have hspot : spot = none := by simpa [Addr.add] using World.cell?_spot hc0
      subst hspot
      have ea : ∀ i j, ((⟨b, off, none⟩ : Addr).add i).add j = ⟨b, off + i + j, none⟩ := fun i j => by unfold Addr.add; split <;> split <;> simp_all
      refine ⟨b, off, rfl, ?_, fun j x hx => ?_⟩
      · have := World.block_lt_of_cell? W _ hc0
        rw [ea] at this
        exact this
      · obtain ⟨hil, rfl⟩ := get_range hx
        obtain ⟨⟨Aj, cj, h0, h1, h2, h3, h4⟩, _⟩ := hF j hil
        rw [ea] at h0 h1 h2 h3
        exact ⟨Aj, cj, h0, h1, h2, h3, h4⟩
theorem open_orth {r : Reach} {b0 : Nat} {v : Value} {d : DataW H} {p : List MemPlace} (hv : Value.okWide Tryz.prog W r b0 24 v)
    (h : DataW.Trod enc Tryz.prog W 0 (fun _ => true) true 24 v d p) (hw : ∀ m ∈ d.weights Tryz.prog 24, m ≤ reachBytes) :
    ∃ (nm : List UInt8) (A : Option Addr) (n c : Nat) (L : List Sg), v = .agg #[.string (bs nm), .slice A n c] ∧ nm.length ≤ 140737488355328 ∧ L.length = n ∧ n ≤ c ∧ n ≤ 17592186044416 ∧ (∀ x ∈ L, SgLim x) ∧ SgnIn W A L := by
  obtain ⟨cs, rfl, hsz⟩ := okWide_struct Tryz.underlying24 hv
  rw [orth_cells] at hsz
  obtain ⟨a, b, rfl⟩ : ∃ a b, cs = #[a, b] := by
    obtain ⟨l⟩ := cs
    match l, hsz with
    | [a, b], _ => exact ⟨a, b, rfl⟩
  obtain ⟨fuel, hf⟩ := h
  obtain ⟨y0, y1, k, hx, hl, h0, h1⟩ := trod_struct2 Tryz.underlying24 hf
  simp only [str_cells, sgnl_cells] at h0 h1
  obtain ⟨s, hs, hy0, _⟩ := DataW.trod_string Tryz.underlying9 h0
  injection hx with hd _
  have hwt : ∀ m, m ∈ y0.1.weights Tryz.prog 9 ∨ m ∈ y1.1.weights Tryz.prog 22 → m ≤ reachBytes := fun m hm => hw m (by
    rw [hd]
    simp only [DataW.weights, Tryz.underlying24, DataW.weightsEach, List.map_cons, List.map_nil, List.mem_append]
    rcases hm with hm | hm
    · exact Or.inl hm
    · exact Or.inr (Or.inl hm))
  have h1' : DataW.trod enc Tryz.prog W 0 (fun _ => true) true k 22 [b] = some y1 := by simpa [Value.cells] using h1
  obtain ⟨A, n, c, L, rfl, hL, hnc, hn, hlim, hC⟩ := open_sgns (d := y1.1) (p := y1.2) h1' (fun m hm => hwt m (Or.inr hm))
  have hrb := reachBytes_lt
  have hst : s.data.toList.length ≤ 140737488355328 := by
    have := hwt s.data.toList.length (Or.inl (by rw [hy0]; simp [DataW.weights]))
    omega
  have ha : a = .string s := by simpa [Value.cells] using field_one hs
  refine ⟨s.data.toList, A, n, c, L, ?_, hst, hL, hnc, hn, hlim, hC⟩
  rw [ha, bs_self]
end
end Go.Proofs.YtjamfcihjendiaaGreat

namespace Go.Proofs.YtjamfcihjendiaaGreat
open Go.RowKit
set_option linter.unusedVariables false
set_option linter.unusedSimpArgs false
set_option maxRecDepth 100000

set_option maxHeartbeats 8000000 in
theorem fits_00 (nm : List UInt8) (k : Nat) (wv : Int) (n c nb cb na ca b off : Nat) (w : World) (x : Snd) (p o1 m1 : Nat) (y : Snd) (r o2 m2 : Nat) (hk : k < n) (hn : n ≤ 17592186044416) (hb : b < w.heap.size) (hc : w.cell? ⟨b, off + k * 4 + 3, none⟩ = some (.int .i64 wv)) (hp : p < w.heap.size) (hm1 : m1 ≤ 1000000) (hx : w.cell? ⟨p, o1, none⟩ = some (.int .i64 x.k) ∧ w.cell? ⟨p, o1 + 1, none⟩ = some (.int .i64 x.q) ∧ w.cell? ⟨p, o1 + 2, none⟩ = some (.string (bs x.t))) (hr : r < w.heap.size) (hm2 : m2 ≤ 1000000) (hy : w.cell? ⟨r, o2 + m2 * 3, none⟩ = some (.int .i64 y.k) ∧ w.cell? ⟨r, o2 + m2 * 3 + 1, none⟩ = some (.int .i64 y.q) ∧ w.cell? ⟨r, o2 + m2 * 3 + 2, none⟩ = some (.string (bs y.t))) :
    Calls Tryz.prog 60 #[.agg #[.string (bs nm), .slice (some ⟨b, off, none⟩) n c], .int .i64 (k : Int), .slice (some ⟨r, o2, none⟩) (m2 + 1) cb, .slice (some ⟨p, o1, none⟩) (m1 + 1) ca] w fun e w' => e = .returned (.bool (whV wv false (nuc x) (nuc y))) ∧ Below w.heap.size w w' := by
  obtain ⟨g1, hg1⟩ : ∃ z, z = w.heap.size := ⟨_, rfl⟩
  obtain ⟨W1, hW1⟩ : ∃ z, z = w.alloc (.cells #[.string (bs nm), .slice (some ⟨b, off, none⟩) n c] 24) := ⟨_, rfl⟩
  have V1 := Lib.hid (show Hp w [obox g1 nm (some ⟨b, off, none⟩) n c] W1 by rw [hW1, hg1]; exact (Hp.start w).obox_new nm (some ⟨b, off, none⟩) n c)
  have HW1 := Lib.hid hW1
  have HG1 := Lib.hid hg1
  have c0 := (V1.out.below.cell (p := ⟨b, off + k * 4 + 3, none⟩) hb).trans hc
  have hb1 := Nat.lt_of_lt_of_le hb V1.out.below.size
  have HC := Lib.hid hc
  have HB := Lib.hid hb
  have hk4 : k * 4 ≤ 70368744177664 := by omega
  have ek0 : ((k : Int) < 0) = False := by simp
  have ek1 : ¬ ((n : Int) ≤ (k : Int)) := by omega
  obtain ⟨x0, x1, x2⟩ := hx
  have a0 := (V1.out.below.cell (p := ⟨p, o1, none⟩) hp).trans x0
  have a1 := (V1.out.below.cell (p := ⟨p, o1 + 1, none⟩) hp).trans x1
  have a2 := (V1.out.below.cell (p := ⟨p, o1 + 2, none⟩) hp).trans x2
  have hp1 := Nat.lt_of_lt_of_le hp V1.out.below.size
  have ep : (0 : Int) < ((m1 + 1 : Nat) : Int) := by omega
  have ep' : (0 : Int) < (m1 : Int) + 1 := by omega
  obtain ⟨y0, y1, y2⟩ := hy
  have HY0 := Lib.hid y0
  have HY1 := Lib.hid y1
  have HY2 := Lib.hid y2
  have HR := Lib.hid hr
  have eq : (0 : Int) < ((m2 + 1 : Nat) : Int) := by omega
  have eq' : (0 : Int) < (m2 : Int) + 1 := by omega
  have hw : IntKind.i64.wrap (((m2 + 1 : Nat) : Int) - 1) = (m2 : Int) := by rw [IntWalk.i64_in _ (by omega)]; omega
  have hw' : IntKind.i64.wrap ((m2 : Int) + 1 - 1) = (m2 : Int) := by rw [IntWalk.i64_in _ (by omega)]; omega
  have hm3 : m2 * 3 ≤ 3000000 := by omega
  have en0 : (((m2 + 1 : Nat) : Int) == 0) = false := by simp; omega
  have en1 : ((m2 : Int) + 1 == 0) = false := by simp; omega
  obtain ⟨z0, z1, z2⟩ := V1.out.obox_at (i := 0) rfl
  clear hW1 hg1 hc hb x0 x1 x2 hp y0 y1 y2 hr
  go_enter Tryz.func60, Tryz.ntmps60
  go_upto_region 1 with fail
  rw [← HG1.out, ← HW1.out]
  go_wp2_with fail
  refine (nucleus_any x _).mono ?_
  rintro e w2 ⟨rfl, hb2⟩
  have V2 := Lib.hid (V1.out.go hb2)
  clear hb2 a0 a1 a2
  obtain ⟨bA, hbA⟩ : ∃ z, z = nuc x := ⟨_, rfl⟩
  rw [← hbA]
  have HBA := Lib.hid hbA
  clear hbA
  have a0 := (V2.out.below.cell (p := ⟨r, o2 + m2 * 3, none⟩) HR.out).trans HY0.out
  have a1 := (V2.out.below.cell (p := ⟨r, o2 + m2 * 3 + 1, none⟩) HR.out).trans HY1.out
  have a2 := (V2.out.below.cell (p := ⟨r, o2 + m2 * 3 + 2, none⟩) HR.out).trans HY2.out
  have hr1 := Nat.lt_of_lt_of_le HR.out V2.out.below.size
  clear z0 z1 z2
  obtain ⟨z0, z1, z2⟩ := V2.out.obox_at (i := 0) rfl
  cases bA
  all_goals
    go_wp2_with fail
    refine (nucleus_any y _).mono ?_
    rintro e w3 ⟨rfl, hb3⟩
    have V3 := Lib.hid (V2.out.go hb3)
    clear hb3 a0 a1 a2 z0 z1 z2
    obtain ⟨z0, z1, z2⟩ := V3.out.obox_at (i := 0) rfl
    have c0 := (V3.out.below.cell (p := ⟨b, off + k * 4 + 3, none⟩) HB.out).trans HC.out
    have hb1 := Nat.lt_of_lt_of_le HB.out V3.out.below.size
    obtain ⟨bB, hbB⟩ : ∃ z, z = nuc y := ⟨_, rfl⟩
    rw [← hbB]
    have HBB := Lib.hid hbB
    clear hbB
    by_cases h0 : wv = 0
    · subst h0
      cases bB <;> (go_wp2_with fail; go_ret; exact ⟨ret_bool (by rw [← HBA.out, ← HBB.out]; rfl), V3.out.below⟩)
    have e0 : (wv == 0) = false := by simpa using h0
    by_cases h1 : wv = 1
    · subst h1
      cases bB <;> (go_wp2_with fail; go_ret; exact ⟨ret_bool (by rw [← HBA.out, ← HBB.out]; rfl), V3.out.below⟩)
    have e1 : (wv == 1) = false := by simpa using h1
    by_cases h2 : wv = 2
    · subst h2
      cases bB <;> (go_wp2_with fail; go_ret; exact ⟨ret_bool (by rw [← HBA.out, ← HBB.out]; rfl), V3.out.below⟩)
    have e2 : (wv == 2) = false := by simpa using h2
    by_cases h3 : wv = 3
    · subst h3
      cases bB <;> (go_wp2_with fail; go_ret; exact ⟨ret_bool (by rw [← HBA.out, ← HBB.out]; rfl), V3.out.below⟩)
    have e3 : (wv == 3) = false := by simpa using h3
    by_cases h4 : wv = 4
    · subst h4
      cases bB <;> (go_wp2_with fail; go_ret; exact ⟨ret_bool (by rw [← HBA.out, ← HBB.out]; rfl), V3.out.below⟩)
    have e4 : (wv == 4) = false := by simpa using h4
    have HE := Lib.hid (fun e a b => wh_out (e := e) (a := a) (b := b) h0 h1 h2 h3 h4)
    clear h0 h1 h2 h3 h4
    go_wp2_with fail
    go_ret
    exact ⟨ret_bool (by rw [← HBA.out, ← HBB.out]; exact (HE.out _ _ _).symm), V3.out.below⟩
set_option maxHeartbeats 8000000 in
theorem fits_01 (nm : List UInt8) (k : Nat) (wv : Int) (n c nb cb na ca b off : Nat) (w : World) (x : Snd) (p o1 m1 : Nat) (AB : Option Addr) (hk : k < n) (hn : n ≤ 17592186044416) (hb : b < w.heap.size) (hc : w.cell? ⟨b, off + k * 4 + 3, none⟩ = some (.int .i64 wv)) (hp : p < w.heap.size) (hm1 : m1 ≤ 1000000) (hx : w.cell? ⟨p, o1, none⟩ = some (.int .i64 x.k) ∧ w.cell? ⟨p, o1 + 1, none⟩ = some (.int .i64 x.q) ∧ w.cell? ⟨p, o1 + 2, none⟩ = some (.string (bs x.t))) :
    Calls Tryz.prog 60 #[.agg #[.string (bs nm), .slice (some ⟨b, off, none⟩) n c], .int .i64 (k : Int), .slice AB 0 cb, .slice (some ⟨p, o1, none⟩) (m1 + 1) ca] w fun e w' => e = .returned (.bool (whV wv true (nuc x) false)) ∧ Below w.heap.size w w' := by
  obtain ⟨g1, hg1⟩ : ∃ z, z = w.heap.size := ⟨_, rfl⟩
  obtain ⟨W1, hW1⟩ : ∃ z, z = w.alloc (.cells #[.string (bs nm), .slice (some ⟨b, off, none⟩) n c] 24) := ⟨_, rfl⟩
  have V1 := Lib.hid (show Hp w [obox g1 nm (some ⟨b, off, none⟩) n c] W1 by rw [hW1, hg1]; exact (Hp.start w).obox_new nm (some ⟨b, off, none⟩) n c)
  have HW1 := Lib.hid hW1
  have HG1 := Lib.hid hg1
  have c0 := (V1.out.below.cell (p := ⟨b, off + k * 4 + 3, none⟩) hb).trans hc
  have hb1 := Nat.lt_of_lt_of_le hb V1.out.below.size
  have HC := Lib.hid hc
  have HB := Lib.hid hb
  have hk4 : k * 4 ≤ 70368744177664 := by omega
  have ek0 : ((k : Int) < 0) = False := by simp
  have ek1 : ¬ ((n : Int) ≤ (k : Int)) := by omega
  obtain ⟨x0, x1, x2⟩ := hx
  have a0 := (V1.out.below.cell (p := ⟨p, o1, none⟩) hp).trans x0
  have a1 := (V1.out.below.cell (p := ⟨p, o1 + 1, none⟩) hp).trans x1
  have a2 := (V1.out.below.cell (p := ⟨p, o1 + 2, none⟩) hp).trans x2
  have hp1 := Nat.lt_of_lt_of_le hp V1.out.below.size
  have ep : (0 : Int) < ((m1 + 1 : Nat) : Int) := by omega
  have ep' : (0 : Int) < (m1 : Int) + 1 := by omega
  obtain ⟨z0, z1, z2⟩ := V1.out.obox_at (i := 0) rfl
  clear hW1 hg1 hc hb x0 x1 x2 hp
  go_enter Tryz.func60, Tryz.ntmps60
  go_upto_region 1 with fail
  rw [← HG1.out, ← HW1.out]
  go_wp2_with fail
  refine (nucleus_any x _).mono ?_
  rintro e w2 ⟨rfl, hb2⟩
  have V2 := Lib.hid (V1.out.go hb2)
  clear hb2 a0 a1 a2
  obtain ⟨bA, hbA⟩ : ∃ z, z = nuc x := ⟨_, rfl⟩
  rw [← hbA]
  have HBA := Lib.hid hbA
  clear hbA
  have V3 := V2
  clear z0 z1 z2 c0 hb1
  obtain ⟨z0, z1, z2⟩ := V3.out.obox_at (i := 0) rfl
  have c0 := (V3.out.below.cell (p := ⟨b, off + k * 4 + 3, none⟩) HB.out).trans HC.out
  have hb1 := Nat.lt_of_lt_of_le HB.out V3.out.below.size
  by_cases h0 : wv = 0
  · subst h0
    cases bA <;> (go_wp2_with fail; go_ret; exact ⟨ret_bool (by rw [← HBA.out]; rfl), V3.out.below⟩)
  have e0 : (wv == 0) = false := by simpa using h0
  by_cases h1 : wv = 1
  · subst h1
    cases bA <;> (go_wp2_with fail; go_ret; exact ⟨ret_bool (by rw [← HBA.out]; rfl), V3.out.below⟩)
  have e1 : (wv == 1) = false := by simpa using h1
  by_cases h2 : wv = 2
  · subst h2
    cases bA <;> (go_wp2_with fail; go_ret; exact ⟨ret_bool (by rw [← HBA.out]; rfl), V3.out.below⟩)
  have e2 : (wv == 2) = false := by simpa using h2
  by_cases h3 : wv = 3
  · subst h3
    cases bA <;> (go_wp2_with fail; go_ret; exact ⟨ret_bool (by rw [← HBA.out]; rfl), V3.out.below⟩)
  have e3 : (wv == 3) = false := by simpa using h3
  by_cases h4 : wv = 4
  · subst h4
    cases bA <;> (go_wp2_with fail; go_ret; exact ⟨ret_bool (by rw [← HBA.out]; rfl), V3.out.below⟩)
  have e4 : (wv == 4) = false := by simpa using h4
  have HE := Lib.hid (fun e a b => wh_out (e := e) (a := a) (b := b) h0 h1 h2 h3 h4)
  clear h0 h1 h2 h3 h4
  go_wp2_with fail
  go_ret
  exact ⟨ret_bool (by rw [← HBA.out]; exact (HE.out _ _ _).symm), V3.out.below⟩
set_option maxHeartbeats 8000000 in
theorem fits_10 (nm : List UInt8) (k : Nat) (wv : Int) (n c nb cb na ca b off : Nat) (w : World) (y : Snd) (r o2 m2 : Nat) (AA : Option Addr) (hk : k < n) (hn : n ≤ 17592186044416) (hb : b < w.heap.size) (hc : w.cell? ⟨b, off + k * 4 + 3, none⟩ = some (.int .i64 wv)) (hr : r < w.heap.size) (hm2 : m2 ≤ 1000000) (hy : w.cell? ⟨r, o2 + m2 * 3, none⟩ = some (.int .i64 y.k) ∧ w.cell? ⟨r, o2 + m2 * 3 + 1, none⟩ = some (.int .i64 y.q) ∧ w.cell? ⟨r, o2 + m2 * 3 + 2, none⟩ = some (.string (bs y.t))) :
    Calls Tryz.prog 60 #[.agg #[.string (bs nm), .slice (some ⟨b, off, none⟩) n c], .int .i64 (k : Int), .slice (some ⟨r, o2, none⟩) (m2 + 1) cb, .slice AA 0 ca] w fun e w' => e = .returned (.bool (whV wv false false (nuc y))) ∧ Below w.heap.size w w' := by
  obtain ⟨g1, hg1⟩ : ∃ z, z = w.heap.size := ⟨_, rfl⟩
  obtain ⟨W1, hW1⟩ : ∃ z, z = w.alloc (.cells #[.string (bs nm), .slice (some ⟨b, off, none⟩) n c] 24) := ⟨_, rfl⟩
  have V1 := Lib.hid (show Hp w [obox g1 nm (some ⟨b, off, none⟩) n c] W1 by rw [hW1, hg1]; exact (Hp.start w).obox_new nm (some ⟨b, off, none⟩) n c)
  have HW1 := Lib.hid hW1
  have HG1 := Lib.hid hg1
  have c0 := (V1.out.below.cell (p := ⟨b, off + k * 4 + 3, none⟩) hb).trans hc
  have hb1 := Nat.lt_of_lt_of_le hb V1.out.below.size
  have HC := Lib.hid hc
  have HB := Lib.hid hb
  have hk4 : k * 4 ≤ 70368744177664 := by omega
  have ek0 : ((k : Int) < 0) = False := by simp
  have ek1 : ¬ ((n : Int) ≤ (k : Int)) := by omega
  obtain ⟨y0, y1, y2⟩ := hy
  have HY0 := Lib.hid y0
  have HY1 := Lib.hid y1
  have HY2 := Lib.hid y2
  have HR := Lib.hid hr
  have eq : (0 : Int) < ((m2 + 1 : Nat) : Int) := by omega
  have eq' : (0 : Int) < (m2 : Int) + 1 := by omega
  have hw : IntKind.i64.wrap (((m2 + 1 : Nat) : Int) - 1) = (m2 : Int) := by rw [IntWalk.i64_in _ (by omega)]; omega
  have hw' : IntKind.i64.wrap ((m2 : Int) + 1 - 1) = (m2 : Int) := by rw [IntWalk.i64_in _ (by omega)]; omega
  have hm3 : m2 * 3 ≤ 3000000 := by omega
  have en0 : (((m2 + 1 : Nat) : Int) == 0) = false := by simp; omega
  have en1 : ((m2 : Int) + 1 == 0) = false := by simp; omega
  obtain ⟨z0, z1, z2⟩ := V1.out.obox_at (i := 0) rfl
  clear hW1 hg1 hc hb y0 y1 y2 hr
  go_enter Tryz.func60, Tryz.ntmps60
  go_upto_region 1 with fail
  rw [← HG1.out, ← HW1.out]
  have V2 := V1
  have a0 := (V2.out.below.cell (p := ⟨r, o2 + m2 * 3, none⟩) HR.out).trans HY0.out
  have a1 := (V2.out.below.cell (p := ⟨r, o2 + m2 * 3 + 1, none⟩) HR.out).trans HY1.out
  have a2 := (V2.out.below.cell (p := ⟨r, o2 + m2 * 3 + 2, none⟩) HR.out).trans HY2.out
  have hr1 := Nat.lt_of_lt_of_le HR.out V2.out.below.size
  go_wp2_with fail
  refine (nucleus_any y _).mono ?_
  rintro e w3 ⟨rfl, hb3⟩
  have V3 := Lib.hid (V2.out.go hb3)
  clear hb3 a0 a1 a2 z0 z1 z2
  obtain ⟨z0, z1, z2⟩ := V3.out.obox_at (i := 0) rfl
  have c0 := (V3.out.below.cell (p := ⟨b, off + k * 4 + 3, none⟩) HB.out).trans HC.out
  have hb1 := Nat.lt_of_lt_of_le HB.out V3.out.below.size
  obtain ⟨bB, hbB⟩ : ∃ z, z = nuc y := ⟨_, rfl⟩
  rw [← hbB]
  have HBB := Lib.hid hbB
  clear hbB
  by_cases h0 : wv = 0
  · subst h0
    cases bB <;> (go_wp2_with fail; go_ret; exact ⟨ret_bool (by rw [← HBB.out]; rfl), V3.out.below⟩)
  have e0 : (wv == 0) = false := by simpa using h0
  by_cases h1 : wv = 1
  · subst h1
    cases bB <;> (go_wp2_with fail; go_ret; exact ⟨ret_bool (by rw [← HBB.out]; rfl), V3.out.below⟩)
  have e1 : (wv == 1) = false := by simpa using h1
  by_cases h2 : wv = 2
  · subst h2
    cases bB <;> (go_wp2_with fail; go_ret; exact ⟨ret_bool (by rw [← HBB.out]; rfl), V3.out.below⟩)
  have e2 : (wv == 2) = false := by simpa using h2
  by_cases h3 : wv = 3
  · subst h3
    cases bB <;> (go_wp2_with fail; go_ret; exact ⟨ret_bool (by rw [← HBB.out]; rfl), V3.out.below⟩)
  have e3 : (wv == 3) = false := by simpa using h3
  by_cases h4 : wv = 4
  · subst h4
    cases bB <;> (go_wp2_with fail; go_ret; exact ⟨ret_bool (by rw [← HBB.out]; rfl), V3.out.below⟩)
  have e4 : (wv == 4) = false := by simpa using h4
  have HE := Lib.hid (fun e a b => wh_out (e := e) (a := a) (b := b) h0 h1 h2 h3 h4)
  clear h0 h1 h2 h3 h4
  go_wp2_with fail
  go_ret
  exact ⟨ret_bool (by rw [← HBB.out]; exact (HE.out _ _ _).symm), V3.out.below⟩
set_option maxHeartbeats 8000000 in
theorem fits_11 (nm : List UInt8) (k : Nat) (wv : Int) (n c nb cb na ca b off : Nat) (w : World) (AA : Option Addr) (AB : Option Addr) (hk : k < n) (hn : n ≤ 17592186044416) (hb : b < w.heap.size) (hc : w.cell? ⟨b, off + k * 4 + 3, none⟩ = some (.int .i64 wv)) :
    Calls Tryz.prog 60 #[.agg #[.string (bs nm), .slice (some ⟨b, off, none⟩) n c], .int .i64 (k : Int), .slice AB 0 cb, .slice AA 0 ca] w fun e w' => e = .returned (.bool (whV wv true false false)) ∧ Below w.heap.size w w' := by
  obtain ⟨g1, hg1⟩ : ∃ z, z = w.heap.size := ⟨_, rfl⟩
  obtain ⟨W1, hW1⟩ : ∃ z, z = w.alloc (.cells #[.string (bs nm), .slice (some ⟨b, off, none⟩) n c] 24) := ⟨_, rfl⟩
  have V1 := Lib.hid (show Hp w [obox g1 nm (some ⟨b, off, none⟩) n c] W1 by rw [hW1, hg1]; exact (Hp.start w).obox_new nm (some ⟨b, off, none⟩) n c)
  have HW1 := Lib.hid hW1
  have HG1 := Lib.hid hg1
  have c0 := (V1.out.below.cell (p := ⟨b, off + k * 4 + 3, none⟩) hb).trans hc
  have hb1 := Nat.lt_of_lt_of_le hb V1.out.below.size
  have HC := Lib.hid hc
  have HB := Lib.hid hb
  have hk4 : k * 4 ≤ 70368744177664 := by omega
  have ek0 : ((k : Int) < 0) = False := by simp
  have ek1 : ¬ ((n : Int) ≤ (k : Int)) := by omega
  obtain ⟨z0, z1, z2⟩ := V1.out.obox_at (i := 0) rfl
  clear hW1 hg1 hc hb
  go_enter Tryz.func60, Tryz.ntmps60
  go_upto_region 1 with fail
  rw [← HG1.out, ← HW1.out]
  have V2 := V1
  have V3 := V2
  by_cases h0 : wv = 0
  · subst h0
    (go_wp2_with fail; go_ret; exact ⟨ret_bool (by rfl), V3.out.below⟩)
  have e0 : (wv == 0) = false := by simpa using h0
  by_cases h1 : wv = 1
  · subst h1
    (go_wp2_with fail; go_ret; exact ⟨ret_bool (by rfl), V3.out.below⟩)
  have e1 : (wv == 1) = false := by simpa using h1
  by_cases h2 : wv = 2
  · subst h2
    (go_wp2_with fail; go_ret; exact ⟨ret_bool (by rfl), V3.out.below⟩)
  have e2 : (wv == 2) = false := by simpa using h2
  by_cases h3 : wv = 3
  · subst h3
    (go_wp2_with fail; go_ret; exact ⟨ret_bool (by rfl), V3.out.below⟩)
  have e3 : (wv == 3) = false := by simpa using h3
  by_cases h4 : wv = 4
  · subst h4
    (go_wp2_with fail; go_ret; exact ⟨ret_bool (by rfl), V3.out.below⟩)
  have e4 : (wv == 4) = false := by simpa using h4
  have HE := Lib.hid (fun e a b => wh_out (e := e) (a := a) (b := b) h0 h1 h2 h3 h4)
  clear h0 h1 h2 h3 h4
  go_wp2_with fail
  go_ret
  exact ⟨ret_bool (by exact (HE.out _ _ _).symm), V3.out.below⟩
end Go.Proofs.YtjamfcihjendiaaGreat
