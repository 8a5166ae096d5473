/- Contract of the statements' own check of the chapter's example: it answers true. -/
import Derived.Test.YtpmdfpfbnmoinaaDoorWh
namespace Go.Proofs.YtpmdfpfbnmoinaaDoor
open Go.RowKit
set_option linter.unusedVariables false

theorem bdr {B : Nat} {a w : World} (h : Below B a w) (n : Nat) : Below B a (w.drewN n) := ⟨h.os, h.tape, h.output, h.size, h.block⟩
def exL : List (Nat × Nat) := [(0, 4), (5, 13), (14, 18), (20, 26)]
def exA : List UInt8 := [65, 114, 109, 97, 32, 118, 105, 114, 117, 109, 113, 117, 101, 32, 99, 97, 110, 111, 44, 32, 84, 114, 111, 105, 97, 101]
def exB : List UInt8 := [97, 114, 109, 97, 32, 86, 73, 82, 85, 77, 81, 85, 69, 59, 32, 99, 97, 110, 111, 32, 84, 114, 111, 105, 97, 101, 33]
def exC : List UInt8 := [97, 114, 109, 97, 32, 118, 105, 114, 117, 109, 32, 113, 117, 101, 32, 99, 97, 110, 111, 32, 84, 114, 111, 105, 97, 101]
theorem ex_spans : spansOf exA = exL := by decide +kernel
theorem ex_err : vErr exA = 0 := by decide +kernel
theorem ex_word : wordL exA 3 = [116, 114, 111, 105, 97, 101] := by decide +kernel
theorem ex_same : sameL exA exB = true := by decide +kernel
theorem ex_other : sameL exA exC = false := by decide +kernel

def ExWords (w : World) (e : Ending) (w' : World) : Prop := ∃ A c, e = .returned (.tuple #[.slice A 4 c, .int .i64 0]) ∧ SpansIn w' A exL ∧ Below w.heap.size w w'
theorem ex1 (w : World) : Calls Tryd.prog 20 #[.string ⟨#[65, 114, 109, 97, 32, 118, 105, 114, 117, 109, 113, 117, 101, 32, 99, 97, 110, 111, 44, 32, 84, 114, 111, 105, 97, 101]⟩] w (ExWords w) := by
  refine (twords_any _ w (by decide +kernel)).mono ?_
  rintro e w' ⟨A, c, he, hsp, hb⟩
  have e1 : spansOf ((⟨#[65, 114, 109, 97, 32, 118, 105, 114, 117, 109, 113, 117, 101, 32, 99, 97, 110, 111, 44, 32, 84, 114, 111, 105, 97, 101]⟩ : ByteArray).data.toList) = exL := ex_spans
  have e2 : vErr ((⟨#[65, 114, 109, 97, 32, 118, 105, 114, 117, 109, 113, 117, 101, 32, 99, 97, 110, 111, 44, 32, 84, 114, 111, 105, 97, 101]⟩ : ByteArray).data.toList) = 0 := ex_err
  rw [e1] at he hsp
  rw [e2] at he
  exact ⟨A, c, he, hsp.reads, hb⟩
def ExWord (w : World) (e : Ending) (w' : World) : Prop := e = .returned (.tuple #[.string ⟨#[116, 114, 111, 105, 97, 101]⟩, .int .i64 0]) ∧ Below w.heap.size w w'
theorem ex2 (w : World) : Calls Tryd.prog 21 #[.string ⟨#[65, 114, 109, 97, 32, 118, 105, 114, 117, 109, 113, 117, 101, 32, 99, 97, 110, 111, 44, 32, 84, 114, 111, 105, 97, 101]⟩, .int .i64 3] w (ExWord w) := by
  refine (tword_any _ 3 w (by decide +kernel)).mono ?_
  rintro e w' ⟨he, hb⟩
  have e1 : wordVal (⟨#[65, 114, 109, 97, 32, 118, 105, 114, 117, 109, 113, 117, 101, 32, 99, 97, 110, 111, 44, 32, 84, 114, 111, 105, 97, 101]⟩ : ByteArray) 3 = (⟨#[116, 114, 111, 105, 97, 101]⟩, 0) := by
    refine (wordVal_in (j := 3) ex_err (by show 3 < (spansOf exA).length; rw [ex_spans]; decide)).trans ?_
    show (wordB _ 3, (0 : Int)) = _
    unfold wordB
    rw [show wordL ((⟨#[65, 114, 109, 97, 32, 118, 105, 114, 117, 109, 113, 117, 101, 32, 99, 97, 110, 111, 44, 32, 84, 114, 111, 105, 97, 101]⟩ : ByteArray).data.toList) 3 = [116, 114, 111, 105, 97, 101] from ex_word]
  rw [e1] at he
  exact ⟨he, hb⟩
theorem ex3 (w : World) : Calls Tryd.prog 19 #[.string ⟨#[65, 114, 109, 97, 32, 118, 105, 114, 117, 109, 113, 117, 101, 32, 99, 97, 110, 111, 44, 32, 84, 114, 111, 105, 97, 101]⟩, .string ⟨#[97, 114, 109, 97, 32, 86, 73, 82, 85, 77, 81, 85, 69, 59, 32, 99, 97, 110, 111, 32, 84, 114, 111, 105, 97, 101, 33]⟩] w fun e w' => e = .returned (.bool true) ∧ Below w.heap.size w w' := by
  refine (tsame_any _ _ w (by decide +kernel) (by decide +kernel)).mono ?_
  rintro e w' ⟨he, hb⟩
  exact ⟨he.trans (ret_bool ex_same), hb⟩
theorem ex4 (w : World) : Calls Tryd.prog 19 #[.string ⟨#[65, 114, 109, 97, 32, 118, 105, 114, 117, 109, 113, 117, 101, 32, 99, 97, 110, 111, 44, 32, 84, 114, 111, 105, 97, 101]⟩, .string ⟨#[97, 114, 109, 97, 32, 118, 105, 114, 117, 109, 32, 113, 117, 101, 32, 99, 97, 110, 111, 32, 84, 114, 111, 105, 97, 101]⟩] w fun e w' => e = .returned (.bool false) ∧ Below w.heap.size w w' := by
  refine (tsame_any _ _ w (by decide +kernel) (by decide +kernel)).mono ?_
  rintro e w' ⟨he, hb⟩
  exact ⟨he.trans (ret_bool ex_other), hb⟩
theorem ex_row (w : World) : SpansIn (w.alloc (.cells #[.int .i64 0, .int .i64 4, .int .i64 5, .int .i64 13, .int .i64 14, .int .i64 18, .int .i64 20, .int .i64 26] 46)) (some ⟨w.heap.size, 0, none⟩) exL := by
  intro _
  refine ⟨w.heap.size, rfl, by simp, fun i hi => ?_⟩
  match i, hi with
  | 0, _ => exact ⟨by simp [sp, exL], by simp [sp, exL]⟩
  | 1, _ => exact ⟨by simp [sp, exL], by simp [sp, exL]⟩
  | 2, _ => exact ⟨by simp [sp, exL], by simp [sp, exL]⟩
  | 3, _ => exact ⟨by simp [sp, exL], by simp [sp, exL]⟩

set_option maxRecDepth 100000 in
set_option maxHeartbeats 1000000 in
theorem awake_any (w : World) : Calls Tryd.prog 6 #[] w fun e w' => e = .returned (.bool true) ∧ Below w.heap.size w w' := by
  go_enter Tryd.func6, Tryd.ntmps6
  go_wp2_with fail
  refine (ex1 _).mono ?_
  rintro e w1 ⟨A, c, rfl, hsp, hb1⟩
  have HB1 := Lib.hid hb1
  have HS := Lib.hid hsp
  clear hb1 hsp
  go_wp2_with fail
  refine (ex2 _).mono ?_
  rintro e w2 ⟨rfl, hb2⟩
  have HB2 := Lib.hid hb2
  have HS2 := Lib.hid (SpansIn.below HS.out hb2)
  clear hb2
  go_wp2_with fail
  refine (seq_any exL exL 4 4 A _ c 4 _ rfl rfl (by omega) (by omega) (SpansIn.below HS2.out ((Below.refl _ _).alloc (Nat.le_refl _) _)) (ex_row w2)).mono ?_
  rintro e w3 ⟨rfl, q, rfl⟩
  rw [show decide (exL = exL) = true from decide_eq_true rfl]
  go_wp2_with fail
  refine (ex3 _).mono ?_
  rintro e w4 ⟨rfl, hb4⟩
  have HB4 := Lib.hid hb4
  clear hb4
  go_wp2_with fail
  refine (ex4 _).mono ?_
  rintro e w5 ⟨rfl, hb5⟩
  have HB5 := Lib.hid hb5
  clear hb5
  go_wp2_with fail
  go_ret
  exact ⟨rfl, btwo (btwo (btwo HB1.out HB2.out) (btwo (bdr ((Below.refl _ _).alloc (Nat.le_refl _) _) _) HB4.out)) HB5.out⟩
end Go.Proofs.YtpmdfpfbnmoinaaDoor
