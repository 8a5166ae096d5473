/- Contract of the statements' own check of the chapter's examples: it answers true. -/
import Derived.Test.YtlkigmlgbnlkaaaDoorPf2
import Derived.Test.YtlkigmlgbnlkaaaDoorPl
namespace Go.Proofs.YtlkigmlgbnlkaaaDoor
open Go.RowKit
set_option linter.unusedVariables false

def exBA (l : List UInt8) : ByteArray := ⟨l.toArray⟩
theorem ex1 (w : World) : Calls Tryd.prog 24 #[.string ⟨#[120, 45]⟩, .string ⟨#[117, 120]⟩] w fun e w' => e = .returned (.tuple #[.string ⟨#[117, 45]⟩, .int .i64 0]) ∧ Below w.heap.size w w' := by
  refine (pmeet_any _ _ w (by decide +kernel) (by decide +kernel)).mono ?_
  rintro e w' ⟨he, hb⟩
  rw [show meetVal ((⟨#[120, 45]⟩ : ByteArray).data.toList) ((⟨#[117, 120]⟩ : ByteArray).data.toList) = ([117, 45], 0) by decide +kernel] at he
  exact ⟨he, hb⟩
theorem ex2 (w : World) : Calls Tryd.prog 26 #[.string ⟨#[120, 45]⟩, .string ⟨#[117, 120]⟩] w fun e w' => e = .returned (.tuple #[.string ⟨#[120, 120]⟩, .int .i64 0]) ∧ Below w.heap.size w w' := by
  refine (pjoin_any _ _ w (by decide +kernel) (by decide +kernel)).mono ?_
  rintro e w' ⟨he, hb⟩
  rw [show joinVal ((⟨#[120, 45]⟩ : ByteArray).data.toList) ((⟨#[117, 120]⟩ : ByteArray).data.toList) = ([120, 120], 0) by decide +kernel] at he
  exact ⟨he, hb⟩
def exS : List (List UInt8) := [[117, 45, 117], [117, 45, 45], [45, 45, 117], [45, 45, 45]]
theorem ex3 (w : World) : Calls Tryd.prog 30 #[.string ⟨#[120, 45, 120]⟩] w fun e w' => ∃ A c, e = .returned (.tuple #[.slice A 4 c, .int .i64 0]) ∧ StrsIn w' A (exS.map toBA) ∧ Below w.heap.size w w' := by
  refine (pexpand_any _ w (by decide +kernel)).mono ?_
  rintro e w' ⟨A, c, he, hown, hb⟩
  rw [show expandVal ((⟨#[120, 45, 120]⟩ : ByteArray).data.toList) = (exS, 0) by decide +kernel] at he hown
  rw [baCells_str] at hown
  exact ⟨A, c, he, strs_own hown rfl, hb⟩
theorem ex4 (w : World) : Calls Tryd.prog 34 #[.string ⟨#[120, 45, 120]⟩] w fun e w' => e = .returned (.tuple #[.int .i64 4, .int .i64 6, .int .i64 0]) ∧ w' = w := by
  refine (pmorae_any _ w (by decide +kernel)).mono ?_
  rintro e w' ⟨he, hb⟩
  rw [show moraeVal ((⟨#[120, 45, 120]⟩ : ByteArray).data.toList) = (4, 6, 0) by decide +kernel] at he
  exact ⟨he, hb⟩
theorem ex5 (w : World) (hm : MaxAt w) : Calls Tryd.prog 14 #[.string ⟨#[45, 46, 117, 117, 46]⟩] w fun e w' => ∃ A c, e = .returned (.tuple #[.slice A 3 c, .int .i64 0]) ∧ IntsIn w' A [3, 0, 2] ∧ Below w.heap.size w w' := by
  refine (pletters_any _ w (by decide +kernel) hm).mono ?_
  rintro e w' ⟨A, c, he, hown, hb⟩
  rw [show lettersVal ((⟨#[45, 46, 117, 117, 46]⟩ : ByteArray).data.toList) = ([3, 0, 2], 0) by decide +kernel] at he hown
  exact ⟨A, c, he, ints_own hown rfl, hb⟩
theorem ex6 (w : World) : Calls Tryd.prog 28 #[.string ⟨#[120, 45]⟩, .string ⟨#[117, 120]⟩] w fun e w' => e = .returned (.bool true) ∧ Below w.heap.size w w' := by
  refine (pmatch_any _ _ w (by decide +kernel) (by decide +kernel)).mono ?_
  rintro e w' ⟨he, hb⟩
  rw [show matchV ((⟨#[120, 45]⟩ : ByteArray).data.toList) ((⟨#[117, 120]⟩ : ByteArray).data.toList) = true by decide +kernel] at he
  exact ⟨he, hb⟩
theorem ex_strs (w : World) : StrsIn (w.alloc (.cells #[.string ⟨#[117, 45, 117]⟩, .string ⟨#[117, 45, 45]⟩, .string ⟨#[45, 45, 117]⟩, .string ⟨#[45, 45, 45]⟩] 9)) (some ⟨w.heap.size, 0, none⟩) (exS.map toBA) := by
  intro _
  refine ⟨w.heap.size, 0, rfl, by simp, fun i hi => ?_⟩
  match i, hi with
  | 0, _ => simp [exS, toBA]
  | 1, _ => simp [exS, toBA]
  | 2, _ => simp [exS, toBA]
  | 3, _ => simp [exS, toBA]
theorem ex_ints (w : World) : IntsIn (w.alloc (.cells #[.int .i64 3, .int .i64 0, .int .i64 2] 3)) (some ⟨w.heap.size, 0, none⟩) [3, 0, 2] := by
  intro _
  refine ⟨w.heap.size, 0, rfl, by simp, fun i hi => ?_⟩
  match i, hi with
  | 0, _ => simp
  | 1, _ => simp
  | 2, _ => simp
set_option maxRecDepth 100000 in
set_option maxHeartbeats 4000000 in
theorem awake_any (w : World) (hm : MaxAt w) : Calls Tryd.prog 11 #[] w fun e w' => e = .returned (.bool true) ∧ Below w.heap.size w w' := by
  have HM := Lib.hid hm
  clear hm
  go_enter Tryd.func11, Tryd.ntmps11
  go_wp2_with fail
  refine (ex1 _).mono ?_
  rintro e w1 ⟨rfl, hb1⟩
  have HB1 := Lib.hid hb1
  clear hb1
  go_wp2_with fail
  refine (ex2 _).mono ?_
  rintro e w2 ⟨rfl, hb2⟩
  have HB2 := Lib.hid (btwo HB1.out hb2)
  clear hb2
  go_wp2_with fail
  refine (ex3 _).mono ?_
  rintro e w3 ⟨A, c, rfl, hS, hb3⟩
  have HB3 := Lib.hid (btwo HB2.out hb3)
  have HS3 := Lib.hid hS
  clear hb3 hS
  go_wp2_with fail
  refine (ex4 _).mono ?_
  rintro e w' ⟨rfl, hw⟩
  subst hw
  go_wp2_with fail
  refine (ex5 _ (HM.out.below HB3.out)).mono ?_
  rintro e w5 ⟨C, d, rfl, hI, hb5⟩
  have HB5 := Lib.hid (btwo HB3.out hb5)
  have HS5 := Lib.hid (HS3.out.below hb5)
  have HI5 := Lib.hid hI
  clear hb5 hI
  go_wp2_with fail
  refine (ex6 _).mono ?_
  rintro e w6 ⟨rfl, hb6⟩
  have HB6 := Lib.hid (btwo HB5.out hb6)
  have HS6 := Lib.hid (HS5.out.below hb6)
  have HI6 := Lib.hid (HI5.out.below hb6)
  clear hb6
  go_wp2_with fail
  refine (eqs_any (exS.map toBA) (exS.map toBA) 4 4 A _ c 4 _ rfl rfl (by omega) (by omega) (StrsIn.below HS6.out ((Below.refl _ _).alloc (Nat.le_refl _) _)) (ex_strs w6)).mono ?_
  rintro e w7 ⟨rfl, q, rfl⟩
  rw [show decide (exS.map toBA = exS.map toBA) = true from decide_eq_true rfl]
  have HB7 := Lib.hid (btwo HB6.out (below_drewN (below_alloc w6 (.cells #[.string ⟨#[117, 45, 117]⟩, .string ⟨#[117, 45, 45]⟩, .string ⟨#[45, 45, 117]⟩, .string ⟨#[45, 45, 45]⟩] 9)) q))
  have HI7 := Lib.hid (HI6.out.below (below_drewN (below_alloc w6 (.cells #[.string ⟨#[117, 45, 117]⟩, .string ⟨#[117, 45, 45]⟩, .string ⟨#[45, 45, 117]⟩, .string ⟨#[45, 45, 45]⟩] 9)) q))
  generalize (w6.alloc (.cells #[.string ⟨#[117, 45, 117]⟩, .string ⟨#[117, 45, 45]⟩, .string ⟨#[45, 45, 117]⟩, .string ⟨#[45, 45, 45]⟩] 9)).drewN q = w7 at HB7 HI7 ⊢
  go_wp2_with fail
  refine (eqi_any [3, 0, 2] [3, 0, 2] 3 3 C _ d 3 _ rfl rfl (by omega) (by omega) (IntsIn.below HI7.out ((Below.refl _ _).alloc (Nat.le_refl _) _)) (ex_ints w7)).mono ?_
  rintro e w8 ⟨rfl, q2, rfl⟩
  rw [show decide (([3, 0, 2] : List Int) = [3, 0, 2]) = true from decide_eq_true rfl]
  go_wp2_with fail
  go_ret
  exact ⟨rfl, btwo HB7.out (below_drewN (below_alloc _ _) _)⟩
end Go.Proofs.YtlkigmlgbnlkaaaDoor
