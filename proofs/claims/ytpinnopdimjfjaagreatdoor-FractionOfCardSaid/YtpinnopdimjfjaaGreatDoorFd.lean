/- Contract of Format of fractions. -/
import Derived.Test.YtpinnopdimjfjaaGreatDoorFa
import Derived.Test.YtpinnopdimjfjaaGreatDoorNRf
namespace Go.Proofs.YtpinnopdimjfjaaGreatDoor
open Go.RowKit
set_option linter.unusedVariables false
set_option maxRecDepth 100000

/-- The text of a fraction. -/
def ftext (s : Bool) (p q : Int) : List UInt8 := (if s = true then [45] else []) ++ (fmt p ++ if q = 1 then [] else 47 :: fmt q)
def ftextV (s : Bool) (L M : List Int) : List UInt8 × Int := if vldF s L M = true then (ftext s (val L) (val M), 0) else ([], 1)
def StrIs (l : List UInt8) (W : World) (e : Ending) (w' : World) : Prop := e = .returned (.tuple #[.string ⟨l.toArray⟩, .int .i64 0]) ∧ Below W.heap.size W w'
/-- A call that returns the text l, of at most so many bytes, and no error. -/
def StrB (l : List UInt8) (k : Nat) (W : World) (e : Ending) (w' : World) : Prop := ∃ b : ByteArray, e = .returned (.tuple #[.string b, .int .i64 0]) ∧ b = ⟨l.toArray⟩ ∧ b.size ≤ k ∧ Below W.heap.size W w'
theorem ba_app (a b : List UInt8) : (⟨a.toArray⟩ : ByteArray) ++ ⟨b.toArray⟩ = ⟨(a ++ b).toArray⟩ := by
  apply ByteArray.ext; simp
theorem format_num (n c : Nat) (x : Int) (A : Option Addr) (w : World) (h : NumAt w (.slice A n c) x) (hT : Tab w) : Calls Tryz.prog 65 #[.agg #[.slice A n c]] w (StrB (fmt x) 800 w) := by
  obtain ⟨a1, a2, a3, a4, a5, a6, a7, a8⟩ := num_in h
  have hl := h.slice.2.2.2.2.2
  refine (format_any (digs x) n c A w a1 a3 a5 hT).mono ?_
  rintro e w' ⟨he, hb⟩
  have e1 : fmtV (digs x) = (fmt x, 0) := by unfold fmtV; rw [if_pos a6, a7]
  rw [e1] at he
  exact ⟨_, he, rfl, by have := fmt_len (n := x) (by omega); simpa [ByteArray.size] using this, hb⟩
theorem rformat_num (n c : Nat) (x : Int) (A : Option Addr) (w : World) (h : NumAt w (.slice A n c) x) : Calls Tryz.prog 68 #[.agg #[.slice A n c]] w (StrB (fmt x) 800 w) := by
  obtain ⟨a1, a2, a3, a4, a5, a6, a7, a8⟩ := num_in h
  have hl := h.slice.2.2.2.2.2
  refine (rformat_any (digs x) n c A w a1 a3 a5).mono ?_
  rintro e w' ⟨he, hb⟩
  have e1 : fmtV (digs x) = (fmt x, 0) := by unfold fmtV; rw [if_pos a6, a7]
  rw [e1] at he
  exact ⟨_, he, rfl, by have := fmt_len (n := x) (by omega); simpa [ByteArray.size] using this, hb⟩
theorem fvalid_t (s : Bool) (n c m d : Nat) (x y : Int) (A B : Option Addr) (W : World) (hx : NumAt W (.slice A n c) x) (hy : NumAt W (.slice B m d) y) (hv : 0 < y ∧ gcdI x y = 1 ∧ (s = true → 0 < x)) :
    Calls Tryz.prog 20 #[.agg #[.bool s, .slice A n c, .slice B m d]] W fun e w' => e = .returned (.bool true) ∧ Below W.heap.size W w' := by
  have := fvalid_num s n c m d x y A B W hx hy
  rwa [decide_eq_true hv] at this
set_option maxHeartbeats 4000000 in
theorem fformat_num (s : Bool) (n c m d : Nat) (x y : Int) (A B : Option Addr) (W : World) (hx : NumAt W (.slice A n c) x) (hy : NumAt W (.slice B m d) y) (hv : 0 < y ∧ gcdI x y = 1 ∧ (s = true → 0 < x)) (hT : Tab W) :
    Calls Tryz.prog 39 #[.agg #[.bool s, .slice A n c, .slice B m d]] W (StrIs (ftext s x y) W) := by
  have V0 := Lib.hid ((((LiveA.start W).num hy).num hx).newF (.bool s) (.slice A n c) (.slice B m d) 30)
  have HV := Lib.hid hv
  have HT := Lib.hid hT
  clear hx hy hv hT
  cases s with
  | false =>
    by_cases hy1 : y = 1
    · have HX := Lib.hid (show ftext false x y = fmt x by unfold ftext; rw [if_pos hy1]; simp)
      go_enter Tryz.func39, Tryz.ntmps39
      go_wp2_with fail
      refine (fvalid_t false n c m d _ _ A B _ (V0.out.at (.head _)) (V0.out.at (.tail _ (.head _))) (by simpa using HV.out)).mono ?_
      rintro e w1 ⟨rfl, b1⟩
      have V1 := Lib.hid (V0.out.go b1)
      clear b1
      obtain ⟨x1_f1, y1_f1⟩ := V1.out.box (.tail _ (.head _))
      go_wp2_with fail
      refine (format_num n c x A _ (V1.out.at (.head _)) (HT.out.below V1.out.2.2)).mono ?_
      rintro e w2 ⟨tx, rfl, etx, ltx, b2⟩
      clear x1_f1 y1_f1
      have V2 := Lib.hid (V1.out.go b2)
      clear b2
      obtain ⟨x2_f0, y2_f0⟩ := V2.out.box (.tail _ (.tail _ (.head _)))
      obtain ⟨x2_f2, y2_f2⟩ := V2.out.box (.head _)
      have ETX := Lib.hid etx
      clear etx
      go_wp2_with fail
      refine (isOne_t m d _ B _ (V2.out.at (.tail _ (.head _))) hy1).mono ?_
      rintro e w3 ⟨rfl, b3⟩
      clear x2_f0 y2_f0 x2_f2 y2_f2
      have V3 := Lib.hid (V2.out.go b3)
      clear b3
      go_wp2_with fail
      go_ret2
      exact ⟨by rw [HX.out, ETX.out]; rfl, V3.out.2.2⟩
    · have HX := Lib.hid (show ftext false x y = fmt x ++ 47 :: fmt y by unfold ftext; rw [if_neg hy1]; simp)
      go_enter Tryz.func39, Tryz.ntmps39
      go_wp2_with fail
      refine (fvalid_t false n c m d _ _ A B _ (V0.out.at (.head _)) (V0.out.at (.tail _ (.head _))) (by simpa using HV.out)).mono ?_
      rintro e w1 ⟨rfl, b1⟩
      have V1 := Lib.hid (V0.out.go b1)
      clear b1
      obtain ⟨x1_f1, y1_f1⟩ := V1.out.box (.tail _ (.head _))
      go_wp2_with fail
      refine (format_num n c x A _ (V1.out.at (.head _)) (HT.out.below V1.out.2.2)).mono ?_
      rintro e w2 ⟨tx, rfl, etx, ltx, b2⟩
      clear x1_f1 y1_f1
      have V2 := Lib.hid (V1.out.go b2)
      clear b2
      obtain ⟨x2_f0, y2_f0⟩ := V2.out.box (.tail _ (.tail _ (.head _)))
      obtain ⟨x2_f2, y2_f2⟩ := V2.out.box (.head _)
      have ETX := Lib.hid etx
      clear etx
      go_wp2_with fail
      refine (isOne_f m d _ B _ (V2.out.at (.tail _ (.head _))) hy1).mono ?_
      rintro e w3 ⟨rfl, b3⟩
      clear x2_f0 y2_f0 x2_f2 y2_f2
      have V3 := Lib.hid (V2.out.go b3)
      clear b3
      obtain ⟨x3_f2, y3_f2⟩ := V3.out.box (.head _)
      go_wp2_with fail
      refine (format_num m d y B _ (V3.out.at (.tail _ (.head _))) (HT.out.below V3.out.2.2)).mono ?_
      rintro e w4 ⟨ty, rfl, ety, lty, b4⟩
      clear x3_f2 y3_f2
      have V4 := Lib.hid (V3.out.go b4)
      clear b4
      have ETY := Lib.hid ety
      clear ety
      go_wp2_with fail
      go_ret2
      exact ⟨by rw [HX.out, ETX.out, ETY.out]; rw [show (⟨#[47]⟩ : ByteArray) = ⟨([47] : List UInt8).toArray⟩ from rfl, ba_app, ba_app]; rfl, V4.out.2.2⟩
  | true =>
    by_cases hy1 : y = 1
    · have HX := Lib.hid (show ftext true x y = [45] ++ fmt x by unfold ftext; rw [if_pos hy1]; simp)
      go_enter Tryz.func39, Tryz.ntmps39
      go_wp2_with fail
      refine (fvalid_t true n c m d _ _ A B _ (V0.out.at (.head _)) (V0.out.at (.tail _ (.head _))) (by simpa using HV.out)).mono ?_
      rintro e w1 ⟨rfl, b1⟩
      have V1 := Lib.hid (V0.out.go b1)
      clear b1
      obtain ⟨x1_f1, y1_f1⟩ := V1.out.box (.tail _ (.head _))
      go_wp2_with fail
      refine (format_num n c x A _ (V1.out.at (.head _)) (HT.out.below V1.out.2.2)).mono ?_
      rintro e w2 ⟨tx, rfl, etx, ltx, b2⟩
      clear x1_f1 y1_f1
      have V2 := Lib.hid (V1.out.go b2)
      clear b2
      obtain ⟨x2_f0, y2_f0⟩ := V2.out.box (.tail _ (.tail _ (.head _)))
      obtain ⟨x2_f2, y2_f2⟩ := V2.out.box (.head _)
      have ETX := Lib.hid etx
      clear etx
      go_wp2_with fail
      refine (isOne_t m d _ B _ (V2.out.at (.tail _ (.head _))) hy1).mono ?_
      rintro e w3 ⟨rfl, b3⟩
      clear x2_f0 y2_f0 x2_f2 y2_f2
      have V3 := Lib.hid (V2.out.go b3)
      clear b3
      go_wp2_with fail
      go_ret2
      exact ⟨by show Ending.returned (.tuple #[.string (⟨#[45]⟩ ++ tx), .int .i64 0]) = _; rw [HX.out, ETX.out, show (⟨#[45]⟩ : ByteArray) = ⟨([45] : List UInt8).toArray⟩ from rfl, ba_app], V3.out.2.2⟩
    · have HX := Lib.hid (show ftext true x y = [45] ++ fmt x ++ 47 :: fmt y by unfold ftext; rw [if_neg hy1]; simp)
      go_enter Tryz.func39, Tryz.ntmps39
      go_wp2_with fail
      refine (fvalid_t true n c m d _ _ A B _ (V0.out.at (.head _)) (V0.out.at (.tail _ (.head _))) (by simpa using HV.out)).mono ?_
      rintro e w1 ⟨rfl, b1⟩
      have V1 := Lib.hid (V0.out.go b1)
      clear b1
      obtain ⟨x1_f1, y1_f1⟩ := V1.out.box (.tail _ (.head _))
      go_wp2_with fail
      refine (format_num n c x A _ (V1.out.at (.head _)) (HT.out.below V1.out.2.2)).mono ?_
      rintro e w2 ⟨tx, rfl, etx, ltx, b2⟩
      clear x1_f1 y1_f1
      have V2 := Lib.hid (V1.out.go b2)
      clear b2
      obtain ⟨x2_f0, y2_f0⟩ := V2.out.box (.tail _ (.tail _ (.head _)))
      obtain ⟨x2_f2, y2_f2⟩ := V2.out.box (.head _)
      have ETX := Lib.hid etx
      clear etx
      go_wp2_with fail
      refine (isOne_f m d _ B _ (V2.out.at (.tail _ (.head _))) hy1).mono ?_
      rintro e w3 ⟨rfl, b3⟩
      clear x2_f0 y2_f0 x2_f2 y2_f2
      have V3 := Lib.hid (V2.out.go b3)
      clear b3
      obtain ⟨x3_f2, y3_f2⟩ := V3.out.box (.head _)
      go_wp2_with fail
      refine (format_num m d y B _ (V3.out.at (.tail _ (.head _))) (HT.out.below V3.out.2.2)).mono ?_
      rintro e w4 ⟨ty, rfl, ety, lty, b4⟩
      clear x3_f2 y3_f2
      have V4 := Lib.hid (V3.out.go b4)
      clear b4
      have ETY := Lib.hid ety
      clear ety
      go_wp2_with fail
      go_ret2
      exact ⟨by rw [HX.out, ETX.out, ETY.out]; rw [show (⟨#[45]⟩ : ByteArray) = ⟨([45] : List UInt8).toArray⟩ from rfl, show (⟨#[47]⟩ : ByteArray) = ⟨([47] : List UInt8).toArray⟩ from rfl, ba_app, ba_app, ba_app]; simp, V4.out.2.2⟩
end Go.Proofs.YtpinnopdimjfjaaGreatDoor
