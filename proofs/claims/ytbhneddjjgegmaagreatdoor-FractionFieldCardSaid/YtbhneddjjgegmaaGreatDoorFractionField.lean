/-
  The laws of a field, on small fractions: the statement answers true for all of them, whose arguments read afterwards as before, where the listed tables of the library lie as its text lays them.
-/
import Derived.Test.YtbhneddjjgegmaaGreatDoorHx
import Derived.Test.YtbhneddjjgegmaaGreatDoorNFrame
import Derived.Test.YtbhneddjjgegmaaGreatDoorCards
import Derived.Test.YtbhneddjjgegmaaGreatDoorTie
import Derived.MakeChecks
import Derived.Deep.DeepWitnessRowRef
import Derived.OpenShut
import Derived.ShutString
import Derived.Deep.DeepHandedRow
import Derived.Lib.SmallJoins
namespace Go.Proofs.YtbhneddjjgegmaaGreatDoor.fractionFieldProof
open Go.ChangeShapes Go.WideShapes Go.ChangeAt Go.RowKit
open Go.ChangeMaps (open_string shut_string)
set_option linter.unusedVariables false
set_option maxRecDepth 100000

theorem cellsSmall : Tryz.prog.cellsOf 37 = 2 := by kernel_rfl
theorem own : ownKnob Tryz.prog.godebug = none := by kernel_rfl
theorem laidOut : laidOutB Tryz.prog = true := by kernel_rfl
theorem tab_of {W : World} (h : laidMetH Tryz.prog Rows.fractionFieldRow.laid W) : Tab W := by
  rw [MakeChecks.laidMetH_plain _ _ _ (by kernel_rfl)] at h
  have h1 := laid_rot (a := ("math/bits.deBruijn32tab", Rows.laid_math_bits_deBruijn32tab)) (b := ("math/bits.deBruijn64tab", Rows.laid_math_bits_deBruijn64tab)) (c := ("internal/strconv.uint64pow10", Rows.laid_internal_strconv_uint64pow10)) h
  rw [pow_eq] at h1
  exact Lib.tabIs_of_head (g := 1) (t := 130) (e := 110) (n := 20) (by kernel_rfl) (by kernel_rfl) (by kernel_rfl) (by kernel_rfl) (by kernel_rfl) (by kernel_rfl) h1
theorem cutl_of {W : World} (hsh : W.ShapedOpen Tryz.prog) : Cutl W := by
  have h : ∃ m : Int, W.cell? ⟨0, 0, none⟩ = some (.int .i64 m) :=
    Go.Proofs.cell_of_shapedOpen_int (t := 3) (zero := #[.int .i64 0]) hsh (of_decide_eq_true (by kernel_rfl)) (by kernel_rfl) rfl (by kernel_rfl) (by kernel_rfl) Tryz.underlying3
  obtain ⟨m, hm⟩ := h
  exact ⟨m, hm, World.block_lt_of_cell? _ _ hm⟩
def flat : Nat → DataW Unit → List Value
  | 0, _ => []
  | _ + 1, .lit (.int k n) => [.int k n]
  | m + 1, .agg l => l.flatMap (flat m)
  | _, _ => []
def lay (cs : List Value) : Obj → Obj
  | .cells _ t frozen => .cells cs.toArray t frozen
  | o => o
/-- A world for the witness: the settled one, with the listed tables as their initialisers lay them. -/
noncomputable def laidWorld (os : Os) : World :=
  { World.holding Tryz.prog os ⟨#[], #[], []⟩ with heap := (((World.holding Tryz.prog os ⟨#[], #[], []⟩).heap.modify 2 (lay (flat 3 Rows.laid_math_bits_deBruijn32tab))).modify 3 (lay (flat 3 Rows.laid_math_bits_deBruijn64tab))).modify 1 (lay (flat 3 Rows.laid_internal_strconv_uint64pow10)) }
set_option maxRecDepth 100000 in
theorem laid_met (os : Os) : laidMet Tryz.prog Rows.fractionFieldRow.laid ((laidWorld os).forCall (fun _ _ => 0) ⟨#[], #[.agg #[.int .i16 0, .int .u8 0], .agg #[.int .i16 0, .int .u8 0], .agg #[.int .i16 0, .int .u8 0]], []⟩).memory :=
  laidMet_of_run' 8 (by kernel_rfl) (by kernel_rfl)
theorem reads (os : Os) {H : Type} (enc : TypeId × Value → H) : ∃ places, DataW.whole enc Tryz.prog ((laidWorld os).forCall (fun _ _ => 0) ⟨#[], #[.agg #[.int .i16 0, .int .u8 0], .agg #[.int .i16 0, .int .u8 0], .agg #[.int .i16 0, .int .u8 0]], []⟩).memory Tryz.f4.params.toList Rows.fractionFieldSpec.vars false (#[.agg #[.int .i16 0, .int .u8 0], .agg #[.int .i16 0, .int .u8 0], .agg #[.int .i16 0, .int .u8 0]] : Array Value).toList 8 = some ([.agg [.lit (.int .i16 0), .lit (.int .u8 0)], .agg [.lit (.int .i16 0), .lit (.int .u8 0)], .agg [.lit (.int .i16 0), .lit (.int .u8 0)]], [], places) :=
  ⟨[], by kernel_rfl⟩

theorem contract (H : Type) (enc : TypeId × Value → H) (W : World) (base : Nat) (args : Array Value) (ds gs : List (DataW H)) (before : List MemPlace)
    (hval : ∀ (j : Nat) t v, Tryz.f4.params[j]? = some t → args[j]? = some v → Value.okWide Tryz.prog W .any base t v)
    (hW : DataW.Whole enc Tryz.prog Tryz.f4.params.toList Rows.fractionFieldSpec.vars false W args.toList ds gs before)
    (hsz : (DataW.weightsEach Tryz.prog (Tryz.f4.params.toList ++ Rows.fractionFieldSpec.plain.varTypes Tryz.prog) (ds ++ gs)).all (· ≤ reachBytes) = true) (hlaid : laidMetH Tryz.prog Rows.fractionFieldRow.laid W) (hsh : W.ShapedOpen Tryz.prog) :
    Calls Tryz.prog 4 args W fun e W' => ∃ v, e = .returned v ∧ Rows.fractionFieldSpec.post enc Tryz.prog Tryz.f4 false true false false W args v W' := by
  have hW' := hW
  obtain ⟨p, q, hA0, hV, rfl, hfz, hnd⟩ := hW
  have hA : DataW.TrodAll enc Tryz.prog W 0 (fun _ => true) true Tryz.f4.params.toList args.toList ds p := hA0
  rw [Tryz.params4] at hA hval hsz
  obtain ⟨v0, vs0, d0, ds0, p0, q0, hargs, rfl, rfl, h0, r0⟩ := trodAll_cons hA
  obtain ⟨v1, vs1, d1, ds1, p1, q1, rfl, rfl, rfl, h1, r1⟩ := trodAll_cons r0
  obtain ⟨v2, vs2, d2, ds2, p2, q2, rfl, rfl, rfl, h2, r2⟩ := trodAll_cons r1
  obtain ⟨rfl, rfl, rfl⟩ := trodAll_nil r2
  obtain rfl : args = #[v0, v1, v2] := by cases args; simp_all
  obtain ⟨rfl, rfl⟩ := trodVars_none hV
  have k0 := h0
  have lt0 : ∀ x ∈ p0, x.block < W.heap.size := by obtain ⟨m, hm⟩ := k0; exact DataW.trod_lt m _ _ _ hm
  obtain ⟨xa0, xb0, ya0, yb0, ym0, rfl, rfl, rfl, hy0, hz0⟩ := Go.Joins.open_agg2 Tryz.underlying37 (by kernel_rfl) cellsSmall (hval 0 37 v0 rfl rfl) h0
  obtain ⟨a0, ea0, rfl, wa0⟩ := DataW.trod_int Tryz.underlying35 hy0
  obtain ⟨b0, eb0, rfl, wb0⟩ := DataW.trod_int Tryz.underlying5 hz0
  simp only [List.cons.injEq, and_true] at ea0 eb0
  subst ea0
  subst eb0
  have ga0 := bounds_i16 wa0
  have gb0 := bounds_u8 wb0
  have k1 := h1
  have lt1 : ∀ x ∈ p1, x.block < W.heap.size := by obtain ⟨m, hm⟩ := k1; exact DataW.trod_lt m _ _ _ hm
  obtain ⟨xa1, xb1, ya1, yb1, ym1, rfl, rfl, rfl, hy1, hz1⟩ := Go.Joins.open_agg2 Tryz.underlying37 (by kernel_rfl) cellsSmall (hval 1 37 v1 rfl rfl) h1
  obtain ⟨a1, ea1, rfl, wa1⟩ := DataW.trod_int Tryz.underlying35 hy1
  obtain ⟨b1, eb1, rfl, wb1⟩ := DataW.trod_int Tryz.underlying5 hz1
  simp only [List.cons.injEq, and_true] at ea1 eb1
  subst ea1
  subst eb1
  have ga1 := bounds_i16 wa1
  have gb1 := bounds_u8 wb1
  have k2 := h2
  have lt2 : ∀ x ∈ p2, x.block < W.heap.size := by obtain ⟨m, hm⟩ := k2; exact DataW.trod_lt m _ _ _ hm
  obtain ⟨xa2, xb2, ya2, yb2, ym2, rfl, rfl, rfl, hy2, hz2⟩ := Go.Joins.open_agg2 Tryz.underlying37 (by kernel_rfl) cellsSmall (hval 2 37 v2 rfl rfl) h2
  obtain ⟨a2, ea2, rfl, wa2⟩ := DataW.trod_int Tryz.underlying35 hy2
  obtain ⟨b2, eb2, rfl, wb2⟩ := DataW.trod_int Tryz.underlying5 hz2
  simp only [List.cons.injEq, and_true] at ea2 eb2
  subst ea2
  subst eb2
  have ga2 := bounds_i16 wa2
  have gb2 := bounds_u8 wb2
  clear hA0
  refine (lawfield_any a0 b0 a1 b1 a2 b2 W ga0.1 ga0.2 gb0.1 gb0.2 ga1.1 ga1.2 gb1.1 gb1.2 ga2.1 ga2.2 gb2.1 gb2.2 (tab_of hlaid) (cutl_of hsh)).mono fun e W' ⟨he, bel⟩ => ?_
  subst he
  exact ⟨_, rfl, _, _, _, [], _, [], hW', trodAll_mk1 (shut_bool Tryz.underlying4 _), (trodAll_cons_mk (Below.trod laidOut (by kernel_rfl) (of_decide_eq_true (by kernel_rfl)) k0 bel lt0) (trodAll_cons_mk (Below.trod laidOut (by kernel_rfl) (of_decide_eq_true (by kernel_rfl)) k1 bel lt1) (trodAll_cons_mk (Below.trod laidOut (by kernel_rfl) (of_decide_eq_true (by kernel_rfl)) k2 bel lt2) trodAll_mk0))), rfl, bel.frame _, fun h => by cases h⟩

set_option maxRecDepth 100000 in
theorem lifted (os : Os) (started : os.Started) (H : Type) (enc : TypeId × Value → H) (F : Stop.Interp) :
    ReturnsInHanded {} Tryz.checked os 4 .any ((OpenSpec.ofChange Rows.fractionFieldSpec).preRow enc Tryz.prog Tryz.f4 Rows.fractionFieldRow.domain false Rows.fractionFieldRow.laid) (((OpenSpec.ofChange Rows.fractionFieldSpec).at F).post enc Tryz.prog Tryz.f4 false true false false) := by
  obtain ⟨places, hx⟩ := reads os enc
  refine returnsInHanded_of_row (C := Tryz.checked) (s := OpenSpec.ofChange Rows.fractionFieldSpec) own started (by kernel_rfl) Tryz.func4
    (witness_row_at (enc := enc) (C := Tryz.checked) false (laidWorld os) #[.agg #[.int .i16 0, .int .u8 0], .agg #[.int .i16 0, .int .u8 0], .agg #[.int .i16 0, .int .u8 0]] rfl (by kernel_rfl) (by kernel_rfl) (by kernel_rfl)
      (OpenSpec.preRow_of_cond 8 hx (by kernel_rfl) (fun k hk => by cases hk) (by kernel_rfl) (laid_met os))) ?_
  intro W base args ds gs before hval hW _ _ hsz hlaid hsh _
  exact contract H enc W base args ds gs before hval hW hsz hlaid hsh

theorem said : Rows.FractionFieldSaid :=
  OpenClaim.holds_of_cond 4 Tryz.f4 rfl rfl rfl rfl rfl rfl rfl ⟨rfl, rfl, rfl, rfl, rfl⟩ rfl rfl rfl rfl rfl (by kernel_rfl) Tryz.func4 (by kernel_rfl)
    (of_decide_eq_true (by kernel_rfl)) (by unfold Func.isWrapper; rw [if_neg (of_decide_eq_false (by kernel_rfl))]; exact ⟨rfl, rfl⟩)
    (fun os started H enc _ F => by rw [OpenClaim.pre_eq_preRow]; exact lifted os started H enc F)

theorem plain (f : FuncId) (fn : Func) (hf : Tryz.pinned.checked.prog.funcNamed "anceps/ancepslaw03.FractionField" = some f) (hfn : Tryz.pinned.checked.prog.funcs[f]? = some fn) :
    false = Tryz.pinned.checked.prog.looks [] ∧ ∀ (j : Nat) t, fn.params[j]? = some t → Tryz.pinned.checked.prog.wantsStandIn t = false := by
  obtain rfl : f = 4 := Option.some.inj ((show Tryz.prog.funcNamed "anceps/ancepslaw03.FractionField" = some 4 by kernel_rfl).symm.trans hf) |>.symm
  obtain rfl : fn = Tryz.f4 := (Option.some.inj (Tryz.func4.symm.trans hfn)).symm
  refine ⟨by kernel_rfl, fun j t ht => ?_⟩
  rw [Tryz.params4] at ht
  have ht2 : t = 37 := by simpa using Array.mem_of_getElem? ht
  subst ht2
  exact (show Tryz.prog.wantsStandIn 37 = false by kernel_rfl)

theorem card : Rows.FractionFieldCardSaid :=
  Claim7.holds_tied_plain_at .later [] _ _ _ _ said (fun _ h => by cases h) (by kernel_rfl) (fun _ h => by cases h) fractionField_row_tie rfl ⟨rfl, rfl⟩ (by kernel_rfl) rfl plain (by kernel_rfl)
#print axioms card
end Go.Proofs.YtbhneddjjgegmaaGreatDoor.fractionFieldProof
