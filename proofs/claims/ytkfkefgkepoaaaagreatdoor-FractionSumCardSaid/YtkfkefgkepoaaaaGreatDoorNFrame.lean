/- How the statements' rows are opened: a number by value, the listed tables. -/
import Derived.Test.YtkfkefgkepoaaaaGreatDoorNWr
import Derived.Test.YtkfkefgkepoaaaaGreatDoorRows
import Derived.Deep.DeepHandedRow
import Derived.Lib.LaidTab
import Derived.Shelf.Vars
namespace Go.Proofs.YtkfkefgkepoaaaaGreatDoor
open Go.ChangeShapes Go.WideShapes Go.ChangeAt Go.RowKit
set_option linter.unusedVariables false
set_option maxRecDepth 100000

theorem nat_weights {H : Type} {el sp : List (DataW H)} (hw : ∀ m ∈ (DataW.agg [.slice el sp] : DataW H).weights Tryz.prog 30, m ≤ reachBytes) : (el.length + sp.length) * 8 ≤ reachBytes := by
  have h1 : (el.length + sp.length) * Tryz.prog.bytesOf 3 ∈ (DataW.agg [.slice el sp] : DataW H).weights Tryz.prog 30 := by
    simp [DataW.weights, DataW.weightsEach, Tryz.underlying30, Tryz.underlying28]
  have h2 := hw _ h1
  rwa [Tryz.bytesInt] at h2
/-- A number that came in by value: a slice that reads as integers, within the reach. -/
theorem open_nat {H : Type} {enc : TypeId × Value → H} {W : World} {r : Reach} {b0 : Nat} {v : Value} {d : DataW H} {p : List MemPlace} (hv : Value.okWide Tryz.prog W r b0 30 v)
    (h : DataW.Trod enc Tryz.prog W 0 (fun _ => true) true 30 v d p) (hw : ∀ m ∈ d.weights Tryz.prog 30, m ≤ reachBytes) :
    ∃ (A : Option Addr) (n c : Nat) (L : List Int), v = .agg #[.slice A n c] ∧ L.length = n ∧ n ≤ c ∧ c ≤ 17592186044416 ∧ IntsIn W A L := by
  obtain ⟨cs, rfl, hsz⟩ := okWide_struct Tryz.underlying30 hv
  rw [Tryz.cellsNat] at hsz
  obtain ⟨x, rfl⟩ : ∃ x, cs = #[x] := by
    obtain ⟨l⟩ := cs
    match l, hsz with
    | [x], _ => exact ⟨x, rfl⟩
  obtain ⟨fuel, hf⟩ := h
  obtain ⟨y0, n, hx, _, h0⟩ := trod_struct1 Tryz.underlying30 hf
  obtain ⟨yd, yp⟩ := y0
  simp only [Prod.mk.injEq] at hx
  have h0' : DataW.trod enc Tryz.prog W 0 (fun _ => true) true n 28 [x] = some (yd, yp) := by
    have e : Tryz.prog.cellsOf 28 = 1 := by kernel_rfl
    simpa [Value.cells, e] using h0
  rcases open_ints Tryz.underlying28 Tryz.underlying3 Tryz.cellsInt h0' with ⟨hcs, hy⟩ | ⟨a, len, cap, zs, hcs, _, hl, hm, hz, hy, hcell, hwz⟩
  · simp only [List.cons.injEq, and_true] at hcs
    subst hcs
    exact ⟨none, 0, 0, [], rfl, rfl, Nat.le_refl _, Nat.zero_le _, IntsIn.nil _ _⟩
  · simp only [List.cons.injEq, and_true] at hcs
    subst hcs
    simp only [if_true] at hz
    simp only [Prod.mk.injEq] at hy
    rw [hx.1, hy.1] at hw
    have hr := nat_weights hw
    simp only [lits, List.length_map, List.length_take, List.length_drop, hz, Nat.min_eq_left hl] at hr
    have hb := reachBytes_lt
    have hlen : (zs.take len).length = len := by rw [List.length_take, hz, Nat.min_eq_left hl]
    refine ⟨some a, len, cap, zs.take len, rfl, hlen, hl, by omega, fun h0 => ?_⟩
    rw [hlen] at h0
    obtain ⟨b, off, spot⟩ := a
    have hc0 := hcell 0 (by omega)
    have hspot : spot = none := by simpa [Addr.add] using World.cell?_spot hc0
    subst hspot
    refine ⟨b, off, rfl, ?_, fun j hj => ?_⟩
    · have := World.block_lt_of_cell? W _ hc0
      simpa [Addr.add] using this
    · rw [hlen] at hj
      have := hcell j (by omega)
      rw [show (⟨b, off, none⟩ : Addr).add j = ⟨b, off + j, none⟩ from by unfold Addr.add; split <;> simp_all] at this
      rw [this, getD_take hj]
theorem weights_of {H : Type} {P : Program} {ts : List TypeId} {ds : List (DataW H)} (h : (DataW.weightsEach P ts ds).all (· ≤ reachBytes) = true) {j : Nat} {t : TypeId} {d : DataW H} (ht : ts[j]? = some t) (hd : ds[j]? = some d) : ∀ m ∈ d.weights P t, m ≤ reachBytes :=
  fun m hm => of_decide_eq_true (List.all_eq_true.1 h _ (DataW.weights_mem_each ht hd m hm))
theorem laid_rot {P : Program} {a b c : String × DataW Unit} {w : World} (h : laidMet P [a, b, c] w) : laidMet P [c, a, b] w := by
  obtain ⟨ps, hv, hn, hc⟩ := h
  obtain ⟨an, ad⟩ := a
  obtain ⟨bn, bd⟩ := b
  obtain ⟨cn, cd⟩ := c
  simp only [DataW.LaidVars] at hv
  obtain ⟨g1, t1, cs1, f1, p1, q1, x1, x2, x3, x4, ⟨g2, t2, cs2, f2, p2, q2, y1, y2, y3, y4, ⟨g3, t3, cs3, f3, p3, q3, z1, z2, z3, z4, z5, rfl⟩, rfl⟩, rfl⟩ := hv
  subst z5
  have hp : List.Perm (MemPlace.row ⟨g1, 0, none⟩ cs1.size ++ p1 ++ (MemPlace.row ⟨g2, 0, none⟩ cs2.size ++ p2 ++ (MemPlace.row ⟨g3, 0, none⟩ cs3.size ++ p3 ++ []))) (MemPlace.row ⟨g3, 0, none⟩ cs3.size ++ p3 ++ (MemPlace.row ⟨g1, 0, none⟩ cs1.size ++ p1 ++ (MemPlace.row ⟨g2, 0, none⟩ cs2.size ++ p2 ++ []))) := by
    rw [List.append_nil, List.append_nil, ← List.append_assoc (MemPlace.row ⟨g1, 0, none⟩ cs1.size ++ p1)]
    exact List.perm_append_comm
  refine ⟨_, ?_, hp.nodup_iff.1 hn, fun b off hb => hc b off (hp.mem_iff.2 hb)⟩
  simp only [DataW.LaidVars]
  exact ⟨g3, t3, cs3, f3, p3, _, z1, z2, z3, z4, ⟨g1, t1, cs1, f1, p1, _, x1, x2, x3, x4, ⟨g2, t2, cs2, f2, p2, [], y1, y2, y3, y4, rfl, rfl⟩, rfl⟩, rfl⟩
theorem pow_eq : (Rows.laid_internal_strconv_uint64pow10 : DataW Unit) = Lib.tabData .u64 Lib.pow10Tab := by kernel_rfl
end Go.Proofs.YtkfkefgkepoaaaaGreatDoor
