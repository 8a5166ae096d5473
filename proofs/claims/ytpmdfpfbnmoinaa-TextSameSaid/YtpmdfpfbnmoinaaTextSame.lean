/-
  same compares the words of any two of three strings of up to 500 bytes, and is reflexive for lines, symmetric and transitive: for every three strings the statement's function answers true and leaves its arguments as they were. No condition.
-/
import Derived.Test.YtpmdfpfbnmoinaaWk
import Derived.ProofKit
import Derived.OpenShut
import Derived.ShutString
import Derived.ChangeOld
import Derived.Below
namespace Go.Proofs.Ytpmdfpfbnmoinaa.textSameProof
open Go.ChangeShapes Go.WideShapes Go.ChangeAt Go.RowKit
open Go.ChangeMaps (open_string shut_string)
set_option linter.unusedVariables false

theorem own : ownKnob Try.prog.godebug = none := by kernel_rfl

theorem same_symm (l m : List UInt8) : sameL m l = sameL l m := by
  unfold sameL
  rw [decide_eq_decide]
  constructor <;> (intro h; exact ⟨h.2.1, h.1, h.2.2.symm⟩)
theorem same_self (l : List UInt8) : sameL l l = (vErr l == 0) := by
  unfold sameL
  rw [Bool.eq_iff_iff]
  simp
theorem same_trans {l m k : List UInt8} (h1 : sameL l m = true) (h2 : sameL m k = true) : sameL l k = true := by
  unfold sameL at *
  simp only [decide_eq_true_eq] at *
  exact ⟨h1.1, h2.2.1, h1.2.2.trans h2.2.2⟩
set_option maxHeartbeats 400000 in
theorem big_a (a0 a1 a2 : ByteArray) (w : World) (hbig : 500 < a0.size) :
    Calls Try.prog 8 #[.string a0, .string a1, .string a2] w fun e w' => e = .returned (.bool true) ∧ Below w.heap.size w w' := by
  go_enter Try.func8, Try.ntmps8
  go_wp2_with fail
  refine (awake_any _).mono ?_
  rintro e w1 ⟨rfl, hb1⟩
  go_wp2_with fail
  refine (awake_any _).mono ?_
  rintro e w2 ⟨rfl, hb2⟩
  go_wp2_with fail
  go_ret
  exact ⟨rfl, btwo hb1 hb2⟩
set_option maxHeartbeats 400000 in
theorem big_b (a0 a1 a2 : ByteArray) (w : World) (h1 : ¬ 500 < a0.size) (hbig : 500 < a1.size) :
    Calls Try.prog 8 #[.string a0, .string a1, .string a2] w fun e w' => e = .returned (.bool true) ∧ Below w.heap.size w w' := by
  go_enter Try.func8, Try.ntmps8
  go_wp2_with fail
  refine (awake_any _).mono ?_
  rintro e w1 ⟨rfl, hb1⟩
  go_wp2_with fail
  refine (awake_any _).mono ?_
  rintro e w2 ⟨rfl, hb2⟩
  go_wp2_with fail
  go_ret
  exact ⟨rfl, btwo hb1 hb2⟩
set_option maxHeartbeats 400000 in
theorem big_c (a0 a1 a2 : ByteArray) (w : World) (h1 : ¬ 500 < a0.size) (h2 : ¬ 500 < a1.size) (hbig : 500 < a2.size) :
    Calls Try.prog 8 #[.string a0, .string a1, .string a2] w fun e w' => e = .returned (.bool true) ∧ Below w.heap.size w w' := by
  go_enter Try.func8, Try.ntmps8
  go_wp2_with fail
  refine (awake_any _).mono ?_
  rintro e w1 ⟨rfl, hb1⟩
  go_wp2_with fail
  refine (awake_any _).mono ?_
  rintro e w2 ⟨rfl, hb2⟩
  go_wp2_with fail
  go_ret
  exact ⟨rfl, btwo hb1 hb2⟩

set_option maxHeartbeats 1000000 in
theorem small (X Y Z : Bool) (hz : X = true → Y = true → Z = true) (a0 a1 a2 : ByteArray) (w : World) (w0 : a0.size ≤ maxLen) (w1 : a1.size ≤ maxLen) (w2 : a2.size ≤ maxLen) (h1 : ¬ 500 < a0.size) (h2 : ¬ 500 < a1.size) (h3 : ¬ 500 < a2.size)
    (e1 : sameL a0.data.toList a1.data.toList = X) (e2 : sameL a1.data.toList a2.data.toList = Y) (e3 : sameL a0.data.toList a2.data.toList = Z) :
    Calls Try.prog 8 #[.string a0, .string a1, .string a2] w fun e w' => e = .returned (.bool true) ∧ Below w.heap.size w w' := by
  have e4 : sameL a1.data.toList a0.data.toList = X := (same_symm _ _).trans e1
  obtain ⟨v, hv⟩ : ∃ v, v = vErr a0.data.toList := ⟨_, rfl⟩
  have e5 : sameL a0.data.toList a0.data.toList = (v == 0) := by rw [hv]; exact same_self _
  have E1 := Lib.hid e1
  have E2 := Lib.hid e2
  have E3 := Lib.hid e3
  have E4 := Lib.hid e4
  have E5 := Lib.hid e5
  have HV := Lib.hid hv
  have HZ := Lib.hid hz
  clear e1 e2 e3 e4 e5 hv hz
  cases X <;> cases Y <;> cases Z
  all_goals first
    | (have hh := HZ.out rfl rfl; cases hh; done)
    | (go_enter Try.func8, Try.ntmps8
       go_wp2_with fail
       refine (awake_any _).mono ?_
       rintro e wa ⟨rfl, hb1⟩
       have HB1 := Lib.hid hb1
       clear hb1
       go_wp2_with fail
       refine (tsame_any a0 a1 _ w0 w1).mono ?_
       rintro e wb ⟨rfl, hb2⟩
       have HB2 := Lib.hid (btwo HB1.out hb2)
       clear hb2
       rw [E1.out]
       go_wp2_with fail
       refine (tsame_any a1 a2 _ w1 w2).mono ?_
       rintro e wc ⟨rfl, hb3⟩
       have HB3 := Lib.hid (btwo HB2.out hb3)
       clear hb3
       rw [E2.out]
       go_wp2_with fail
       refine (tsame_any a0 a2 _ w0 w2).mono ?_
       rintro e wd ⟨rfl, hb4⟩
       have HB4 := Lib.hid (btwo HB3.out hb4)
       clear hb4
       rw [E3.out]
       go_wp2_with fail
       refine (rsame_any a0 a1 _ w0 w1).mono ?_
       rintro e we ⟨rfl, hb5⟩
       have HB5 := Lib.hid (btwo HB4.out hb5)
       clear hb5
       rw [E1.out]
       go_wp2_with fail
       refine (tsame_any a1 a0 _ w1 w0).mono ?_
       rintro e wf ⟨rfl, hb6⟩
       have HB6 := Lib.hid (btwo HB5.out hb6)
       clear hb6
       rw [E4.out]
       go_wp2_with fail
       refine (tsame_any a0 a0 _ w0 w0).mono ?_
       rintro e wg ⟨rfl, hb7⟩
       have HB7 := Lib.hid (btwo HB6.out hb7)
       clear hb7
       rw [E5.out]
       go_wp2_with fail
       refine (rvalid_any a0 _ w0).mono ?_
       rintro e wh ⟨rfl, rfl⟩
       rw [← HV.out]
       go_wp2_with fail
       go_ret
       exact ⟨rfl, HB7.out⟩)
theorem walk (a0 a1 a2 : ByteArray) (w : World) (w0 : a0.size ≤ maxLen) (w1 : a1.size ≤ maxLen) (w2 : a2.size ≤ maxLen) :
    Calls Try.prog 8 #[.string a0, .string a1, .string a2] w fun e w' => e = .returned (.bool true) ∧ Below w.heap.size w w' := by
  by_cases h1 : 500 < a0.size
  · exact big_a a0 a1 a2 w h1
  · by_cases h2 : 500 < a1.size
    · exact big_b a0 a1 a2 w h1 h2
    · by_cases h3 : 500 < a2.size
      · exact big_c a0 a1 a2 w h1 h2 h3
      · exact small _ _ _ (fun x y => same_trans x y) a0 a1 a2 w w0 w1 w2 h1 h2 h3 rfl rfl rfl


set_option maxRecDepth 100000 in
theorem lifted (os : Os) (started : os.Started) (H : Type) (enc : TypeId × Value → H) :
    ReturnsInHanded {} Try.checked os 8 .any (Rows.textSameSpec.pre6 enc Try.prog Try.f8 Rows.textSameRow.domain false) (Rows.textSameSpec.post enc Try.prog Try.f8 false true false false) := by
  refine returnsInHanded_of_change (C := Try.checked) own started (by kernel_rfl) Try.func8
    (ChangeSpec.witness6 (enc := enc) (C := Try.checked) false ⟨#[], #[.string ⟨#[]⟩, .string ⟨#[]⟩, .string ⟨#[]⟩], []⟩ 8 (by kernel_rfl) (by kernel_rfl) (by kernel_rfl) (by kernel_rfl)) ?_
  intro W base args ds gs before hval0 hW hcnd _
  have hval : ∀ (j : Nat) t v, Try.f8.params[j]? = some t → args[j]? = some v → Value.okWide Try.prog W .any base t v := hval0
  have hW' := hW
  obtain ⟨p, q, hA0, hV, rfl, hfz, hnd⟩ := hW
  have hA : DataW.TrodAll enc Try.prog W 0 (fun _ => true) true Try.f8.params.toList args.toList ds p := hA0
  rw [Try.params8] at hA hval
  obtain ⟨v0, vs0, d0, ds0, p0, q0, hargs, rfl, rfl, h0, r0⟩ := trodAll_cons hA
  obtain ⟨v1, vs1, d1, ds1, p1, q1, rfl, rfl, rfl, h1, r1⟩ := trodAll_cons r0
  obtain ⟨v2, vs2, d2, ds2, p2, q2, rfl, rfl, rfl, h2, r2⟩ := trodAll_cons r1
  obtain ⟨rfl, rfl, rfl⟩ := trodAll_nil r2
  obtain rfl : args = #[v0, v1, v2] := by cases args; simp_all
  obtain ⟨rfl, rfl⟩ := trodVars_none hV
  obtain ⟨a0, rfl, rfl, rfl, w0⟩ := open_string Try.underlying9 (hval 0 9 v0 rfl rfl) h0
  obtain ⟨a1, rfl, rfl, rfl, w1⟩ := open_string Try.underlying9 (hval 1 9 v1 rfl rfl) h1
  obtain ⟨a2, rfl, rfl, rfl, w2⟩ := open_string Try.underlying9 (hval 2 9 v2 rfl rfl) h2
  clear hA0 hval0
  refine (walk a0 a1 a2 W w0 w1 w2).mono fun e W' ⟨he, bel⟩ => ?_
  subst he
  exact ⟨_, rfl, _, _, _, [], [], [], hW', trodAll_mk1 (shut_bool Try.underlying4 _), (trodAll_cons_mk (shut_string Try.underlying9 w0) (trodAll_cons_mk (shut_string Try.underlying9 w1) (trodAll_cons_mk (shut_string Try.underlying9 w2) trodAll_mk0))), rfl, bel.frame _, fun h => by cases h⟩

theorem over : Rows.textSameRow.holds Try.pinned (OpenSpec.ofChange Rows.textSameSpec) :=
  OpenClaim.holds_of_wide 8 Try.f8 rfl rfl rfl rfl rfl rfl rfl ⟨rfl, rfl, rfl, rfl, rfl⟩ rfl rfl rfl rfl rfl (by kernel_rfl) Try.func8 (by kernel_rfl)
    (of_decide_eq_true (by kernel_rfl)) (by unfold Func.isWrapper; rw [if_neg (of_decide_eq_false (by kernel_rfl))]; exact ⟨rfl, rfl⟩)
    (fun os started H enc _ => lifted os started H enc)

theorem proved : Rows.TextSameSaid := over
#print axioms proved
end Go.Proofs.Ytpmdfpfbnmoinaa.textSameProof
