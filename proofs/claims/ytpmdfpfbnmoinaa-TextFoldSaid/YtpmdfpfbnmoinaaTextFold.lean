/-
  fold changes the capitals of any string of up to 500 bytes, and nothing else; folded again it remains: for every string the statement's function answers true and leaves its argument as it was. No condition.
-/
import Derived.Test.YtpmdfpfbnmoinaaWi
import Derived.ProofKit
import Derived.OpenShut
import Derived.ShutString
import Derived.ChangeOld
import Derived.Below
namespace Go.Proofs.Ytpmdfpfbnmoinaa.textFoldProof
open Go.ChangeShapes Go.WideShapes Go.ChangeAt Go.RowKit
open Go.ChangeMaps (open_string shut_string)
set_option linter.unusedVariables false

theorem own : ownKnob Try.prog.godebug = none := by kernel_rfl

theorem foldB_two (c : UInt8) : foldB (foldB c) = foldB c := by
  apply UInt8.toNat_inj.1
  have h1 := foldB_int c
  have h2 := foldB_int (foldB c)
  unfold fb at h1 h2
  have := c.toNat_lt
  split at h1 <;> split at h2 <;> omega
theorem foldL_two (l : List UInt8) : foldL (foldL l) = foldL l := by
  unfold foldL; rw [List.map_map]; exact List.map_congr_left (fun c _ => foldB_two c)
set_option maxHeartbeats 400000 in
theorem walk_big (a0 : ByteArray) (w : World) (w0 : a0.size ≤ maxLen) (hbig : 500 < a0.size) :
    Calls Try.prog 6 #[.string a0] w fun e w' => e = .returned (.bool true) ∧ Below w.heap.size w w' := by
  go_enter Try.func6, Try.ntmps6
  go_wp2_with fail
  refine (awake_any _).mono ?_
  rintro e w1 ⟨rfl, hb1⟩
  go_wp2_with fail
  refine (awake_any _).mono ?_
  rintro e w2 ⟨rfl, hb2⟩
  go_wp2_with fail
  go_ret
  exact ⟨rfl, btwo hb1 hb2⟩

set_option maxHeartbeats 400000 in
theorem walk (a0 : ByteArray) (w : World) (w0 : a0.size ≤ maxLen) :
    Calls Try.prog 6 #[.string a0] w fun e w' => e = .returned (.bool true) ∧ Below w.heap.size w w' := by
  by_cases hbig : 500 < a0.size
  · exact walk_big a0 w w0 hbig
  · obtain ⟨t, ht⟩ : ∃ t : ByteArray, t = ⟨(foldL a0.data.toList).toArray⟩ := ⟨_, rfl⟩
    have hz : t.size = a0.size := by rw [ht]; show (foldL a0.data.toList).toArray.size = _; simp [foldL]
    have ht2 : (⟨(foldL t.data.toList).toArray⟩ : ByteArray) = t := by rw [ht]; simp [foldL_two]
    have HT := Lib.hid ht
    have HT2 := Lib.hid ht2
    have hz1 : t.size ≤ maxLen := by omega
    have HZ := Lib.hid hz
    have he : ((t.size : Int) == (a0.size : Int)) = true := by rw [hz]; simp
    clear ht ht2 hz
    go_enter Try.func6, Try.ntmps6
    go_wp2_with fail
    refine (awake_any _).mono ?_
    rintro e w1 ⟨rfl, hb1⟩
    have HB1 := Lib.hid hb1
    clear hb1
    go_wp2_with fail
    refine (tfold_any a0 _ w0).mono ?_
    rintro e w2 ⟨rfl, hb2⟩
    have HB2 := Lib.hid hb2
    clear hb2
    rw [← HT.out]
    go_wp2_with fail
    refine (rfold_any a0 _ (by omega)).mono ?_
    rintro e w3 ⟨rfl, hb3⟩
    have HB3 := Lib.hid hb3
    clear hb3
    rw [← HT.out]
    go_wp2_with fail
    refine (tfold_any t _ hz1).mono ?_
    rintro e w4 ⟨rfl, hb4⟩
    have HB4 := Lib.hid hb4
    clear hb4
    rw [HT2.out]
    go_wp2_with fail
    go_ret
    exact ⟨rfl, btwo (btwo HB1.out HB2.out) (btwo HB3.out HB4.out)⟩


set_option maxRecDepth 100000 in
theorem lifted (os : Os) (started : os.Started) (H : Type) (enc : TypeId × Value → H) :
    ReturnsInHanded {} Try.checked os 6 .any (Rows.textFoldSpec.pre6 enc Try.prog Try.f6 Rows.textFoldRow.domain false) (Rows.textFoldSpec.post enc Try.prog Try.f6 false true false false) := by
  refine returnsInHanded_of_change (C := Try.checked) own started (by kernel_rfl) Try.func6
    (ChangeSpec.witness6 (enc := enc) (C := Try.checked) false ⟨#[], #[.string ⟨#[]⟩], []⟩ 8 (by kernel_rfl) (by kernel_rfl) (by kernel_rfl) (by kernel_rfl)) ?_
  intro W base args ds gs before hval0 hW hcnd _
  have hval : ∀ (j : Nat) t v, Try.f6.params[j]? = some t → args[j]? = some v → Value.okWide Try.prog W .any base t v := hval0
  have hW' := hW
  obtain ⟨p, q, hA0, hV, rfl, hfz, hnd⟩ := hW
  have hA : DataW.TrodAll enc Try.prog W 0 (fun _ => true) true Try.f6.params.toList args.toList ds p := hA0
  rw [Try.params6] at hA hval
  obtain ⟨v0, vs0, d0, ds0, p0, q0, hargs, rfl, rfl, h0, r0⟩ := trodAll_cons hA
  obtain ⟨rfl, rfl, rfl⟩ := trodAll_nil r0
  obtain rfl : args = #[v0] := by cases args; simp_all
  obtain ⟨rfl, rfl⟩ := trodVars_none hV
  obtain ⟨a0, rfl, rfl, rfl, w0⟩ := open_string Try.underlying9 (hval 0 9 v0 rfl rfl) h0
  clear hA0 hval0
  refine (walk a0 W w0).mono fun e W' ⟨he, bel⟩ => ?_
  subst he
  exact ⟨_, rfl, _, _, _, [], [], [], hW', trodAll_mk1 (shut_bool Try.underlying4 _), (trodAll_cons_mk (shut_string Try.underlying9 w0) trodAll_mk0), rfl, bel.frame _, fun h => by cases h⟩

theorem over : Rows.textFoldRow.holds Try.pinned (OpenSpec.ofChange Rows.textFoldSpec) :=
  OpenClaim.holds_of_wide 6 Try.f6 rfl rfl rfl rfl rfl rfl rfl ⟨rfl, rfl, rfl, rfl, rfl⟩ rfl rfl rfl rfl rfl (by kernel_rfl) Try.func6 (by kernel_rfl)
    (of_decide_eq_true (by kernel_rfl)) (by unfold Func.isWrapper; rw [if_neg (of_decide_eq_false (by kernel_rfl))]; exact ⟨rfl, rfl⟩)
    (fun os started H enc _ => lifted os started H enc)

theorem proved : Rows.TextFoldSaid := over
#print axioms proved
end Go.Proofs.Ytpmdfpfbnmoinaa.textFoldProof
