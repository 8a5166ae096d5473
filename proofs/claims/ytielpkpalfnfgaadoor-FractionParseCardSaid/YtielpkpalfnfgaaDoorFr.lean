/- Contract of the reference's Format of fractions. -/
import Derived.Test.YtielpkpalfnfgaaDoorFq
import Derived.Test.YtielpkpalfnfgaaDoorFd
namespace Go.Proofs.YtielpkpalfnfgaaDoor
open Go.RowKit
set_option linter.unusedVariables false
set_option maxRecDepth 100000

theorem rfvalid_t (s : Bool) (n c m d : Nat) (x y : Int) (A B : Option Addr) (W : World) (hx : NumAt W (.slice A n c) x) (hy : NumAt W (.slice B m d) y) (hv : 0 < y ∧ gcdI x y = 1 ∧ (s = true → 0 < x)) :
    Calls Tryd.prog 10 #[.agg #[.bool s, .slice A n c, .slice B m d]] W fun e w' => e = .returned (.bool true) ∧ Below W.heap.size W w' := by
  have := rfvalid_num s n c m d x y A B W hx hy
  rwa [decide_eq_true hv] at this
set_option maxHeartbeats 4000000 in
theorem rfformat_false1 (n c m d : Nat) (x y : Int) (A B : Option Addr) (W : World) (hx : NumAt W (.slice A n c) x) (hy : NumAt W (.slice B m d) y) (hv : 0 < y ∧ gcdI x y = 1 ∧ (false = true → 0 < x)) (hy1 : y = 1) :
    Calls Tryd.prog 8 #[.agg #[.bool false, .slice A n c, .slice B m d]] W (StrIs (ftext false x y) W) := by
  have V0 := Lib.hid ((((LiveA.start W).num hy).num hx).newF (.bool false) (.slice A n c) (.slice B m d) 26)
  have HV := Lib.hid hv
  have HX := Lib.hid (show ftext false x y = fmt x by unfold ftext; rw [if_pos hy1]; simp)
  have HY1 := Lib.hid hy1
  clear hx hy hv hy1
  go_enter Tryd.func8, Tryd.ntmps8
  go_wp2_with fail
  refine (rfvalid_t false n c m d _ _ A B _ (V0.out.at (.head _)) (V0.out.at (.tail _ (.head _))) (by simpa using HV.out)).mono ?_
  rintro e w1 ⟨rfl, b1⟩
  have V1 := Lib.hid (V0.out.go b1)
  clear b1
  obtain ⟨x1_f1, y1_f1⟩ := V1.out.box (.tail _ (.head _))
  go_wp2_with fail
  refine (rformat_num n c x A _ (V1.out.at (.head _))).mono ?_
  rintro e w2 ⟨tx, rfl, etx, ltx, b2⟩
  clear x1_f1 y1_f1
  have V2 := Lib.hid (V1.out.go b2)
  clear b2
  obtain ⟨x2_f0, y2_f0⟩ := V2.out.box (.tail _ (.tail _ (.head _)))
  obtain ⟨x2_f2, y2_f2⟩ := V2.out.box (.head _)
  have ETX := Lib.hid etx
  clear etx
  have NY := Lib.hid (V2.out.at (.tail _ (.head _)))
  have XF2 := Lib.hid (V2.out.box (.head _))
  obtain ⟨wz, rfl⟩ : ∃ wz : World, wz = w2 := ⟨_, rfl⟩
  go_upto_region 6 with fail
  clear x2_f0 y2_f0 x2_f2 y2_f2
  obtain ⟨xf, yf⟩ := XF2.out
  go_region_with (first | (go_at_call 22; (with_reducible refine (rSmall_num 1 _ (by omega) (by omega)).mono ?_); rintro e w8 ⟨Ao, co, ko, rfl, no8, b8⟩; have D8 : Below wz.heap.size wz w8 := btwo (by first | exact Below.refl _ _ | exact (Below.refl _ _).drew | exact bdr (Below.refl _ _) _ | exact bdr (Below.refl _ _).drew _) b8; have x8f := (D8.cell (p := ⟨W.heap.size, 2, none⟩) XF2.out.2).trans XF2.out.1; have y8f := Nat.lt_of_lt_of_le XF2.out.2 D8.size; have HD8 := Lib.hid D8; have NO8 := Lib.hid no8; clear D8 b8 no8) | (go_at_call 21; (with_reducible refine (same_num m d ko co _ _ B Ao _ (by first | exact NY.out.below HD8.out | exact NumAt.below (NY.out.below HD8.out) (Below.refl _ _).drew | exact NumAt.below (NY.out.below HD8.out) (bdr (Below.refl _ _) _)) (by first | exact NO8.out | exact NumAt.below (NO8.out) (Below.refl _ _).drew | exact NumAt.below (NO8.out) (bdr (Below.refl _ _) _)) HY1.out).mono ?_); rintro e w9 ⟨rfl, b9⟩; have D9 : Below wz.heap.size wz w9 := btwo (by first | exact HD8.out | exact btwo HD8.out (Below.refl _ _).drew | exact btwo HD8.out (bdr (Below.refl _ _) _)) b9; have x9f := (D9.cell (p := ⟨W.heap.size, 2, none⟩) XF2.out.2).trans XF2.out.1; have y9f := Nat.lt_of_lt_of_le XF2.out.2 D9.size; have HD9 := Lib.hid D9; clear D9 b9))
  all_goals (go_wp2_with fail)
  all_goals go_ret2
  all_goals exact ⟨by show Ending.returned (.tuple #[.string tx, .int .i64 0]) = _; rw [HX.out, ETX.out], btwo V2.out.2.2 (by first | exact HD9.out | exact btwo HD9.out (Below.refl _ _).drew | exact btwo HD9.out (bdr (Below.refl _ _) _))⟩
set_option maxHeartbeats 4000000 in
theorem rfformat_false (n c m d : Nat) (x y : Int) (A B : Option Addr) (W : World) (hx : NumAt W (.slice A n c) x) (hy : NumAt W (.slice B m d) y) (hv : 0 < y ∧ gcdI x y = 1 ∧ (false = true → 0 < x)) (hy1 : ¬ y = 1) :
    Calls Tryd.prog 8 #[.agg #[.bool false, .slice A n c, .slice B m d]] W (StrIs (ftext false x y) W) := by
  have V0 := Lib.hid ((((LiveA.start W).num hy).num hx).newF (.bool false) (.slice A n c) (.slice B m d) 26)
  have HV := Lib.hid hv
  have HX := Lib.hid (show ftext false x y = fmt x ++ 47 :: fmt y by unfold ftext; rw [if_neg hy1]; simp)
  have HY1 := Lib.hid hy1
  clear hx hy hv hy1
  go_enter Tryd.func8, Tryd.ntmps8
  go_wp2_with fail
  refine (rfvalid_t false n c m d _ _ A B _ (V0.out.at (.head _)) (V0.out.at (.tail _ (.head _))) (by simpa using HV.out)).mono ?_
  rintro e w1 ⟨rfl, b1⟩
  have V1 := Lib.hid (V0.out.go b1)
  clear b1
  obtain ⟨x1_f1, y1_f1⟩ := V1.out.box (.tail _ (.head _))
  go_wp2_with fail
  refine (rformat_num n c x A _ (V1.out.at (.head _))).mono ?_
  rintro e w2 ⟨tx, rfl, etx, ltx, b2⟩
  clear x1_f1 y1_f1
  have V2 := Lib.hid (V1.out.go b2)
  clear b2
  obtain ⟨x2_f0, y2_f0⟩ := V2.out.box (.tail _ (.tail _ (.head _)))
  obtain ⟨x2_f2, y2_f2⟩ := V2.out.box (.head _)
  have ETX := Lib.hid etx
  clear etx
  have NY := Lib.hid (V2.out.at (.tail _ (.head _)))
  have XF2 := Lib.hid (V2.out.box (.head _))
  obtain ⟨wz, rfl⟩ : ∃ wz : World, wz = w2 := ⟨_, rfl⟩
  go_upto_region 6 with fail
  clear x2_f0 y2_f0 x2_f2 y2_f2
  obtain ⟨xf, yf⟩ := XF2.out
  go_region_with (first | (go_at_call 22; (with_reducible refine (rSmall_num 1 _ (by omega) (by omega)).mono ?_); rintro e w8 ⟨Ao, co, ko, rfl, no8, b8⟩; have D8 : Below wz.heap.size wz w8 := btwo (by first | exact Below.refl _ _ | exact (Below.refl _ _).drew | exact bdr (Below.refl _ _) _ | exact bdr (Below.refl _ _).drew _) b8; have x8f := (D8.cell (p := ⟨W.heap.size, 2, none⟩) XF2.out.2).trans XF2.out.1; have y8f := Nat.lt_of_lt_of_le XF2.out.2 D8.size; have HD8 := Lib.hid D8; have NO8 := Lib.hid no8; clear D8 b8 no8) | (go_at_call 21; (with_reducible refine (same_numF m d ko co _ _ B Ao _ (by first | exact NY.out.below HD8.out | exact NumAt.below (NY.out.below HD8.out) (Below.refl _ _).drew | exact NumAt.below (NY.out.below HD8.out) (bdr (Below.refl _ _) _)) (by first | exact NO8.out | exact NumAt.below (NO8.out) (Below.refl _ _).drew | exact NumAt.below (NO8.out) (bdr (Below.refl _ _) _)) HY1.out).mono ?_); rintro e w9 ⟨rfl, b9⟩; have D9 : Below wz.heap.size wz w9 := btwo (by first | exact HD8.out | exact btwo HD8.out (Below.refl _ _).drew | exact btwo HD8.out (bdr (Below.refl _ _) _)) b9; have x9f := (D9.cell (p := ⟨W.heap.size, 2, none⟩) XF2.out.2).trans XF2.out.1; have y9f := Nat.lt_of_lt_of_le XF2.out.2 D9.size; have HD9 := Lib.hid D9; clear D9 b9))
  all_goals (go_wp2_with fail)
  all_goals (refine (rformat_num m d y B _ (by first | exact NY.out.below HD9.out | exact NumAt.below (NY.out.below HD9.out) (Below.refl _ _).drew | exact NumAt.below (NY.out.below HD9.out) (bdr (Below.refl _ _) _))).mono ?_; rintro e w10 ⟨ty, rfl, ety, lty, b10⟩; have ETY := Lib.hid ety; have HD10 := Lib.hid (show Below W.heap.size W w10 from btwo (btwo V2.out.2.2 (by first | exact HD9.out | exact btwo HD9.out (Below.refl _ _).drew | exact btwo HD9.out (bdr (Below.refl _ _) _))) b10); clear ety b10)
  all_goals (go_wp2_with fail)
  all_goals go_ret2
  all_goals exact ⟨by show Ending.returned (.tuple #[.string ((tx ++ ⟨#[47]⟩) ++ ty), .int .i64 0]) = _; rw [HX.out, ETX.out, ETY.out, show (⟨#[47]⟩ : ByteArray) = ⟨([47] : List UInt8).toArray⟩ from rfl, ba_app, ba_app]; simp, HD10.out⟩
set_option maxHeartbeats 4000000 in
theorem rfformat_true1 (n c m d : Nat) (x y : Int) (A B : Option Addr) (W : World) (hx : NumAt W (.slice A n c) x) (hy : NumAt W (.slice B m d) y) (hv : 0 < y ∧ gcdI x y = 1 ∧ (true = true → 0 < x)) (hy1 : y = 1) :
    Calls Tryd.prog 8 #[.agg #[.bool true, .slice A n c, .slice B m d]] W (StrIs (ftext true x y) W) := by
  have V0 := Lib.hid ((((LiveA.start W).num hy).num hx).newF (.bool true) (.slice A n c) (.slice B m d) 26)
  have HV := Lib.hid hv
  have HX := Lib.hid (show ftext true x y = [45] ++ fmt x by unfold ftext; rw [if_pos hy1]; simp)
  have HY1 := Lib.hid hy1
  clear hx hy hv hy1
  go_enter Tryd.func8, Tryd.ntmps8
  go_wp2_with fail
  refine (rfvalid_t true n c m d _ _ A B _ (V0.out.at (.head _)) (V0.out.at (.tail _ (.head _))) (by simpa using HV.out)).mono ?_
  rintro e w1 ⟨rfl, b1⟩
  have V1 := Lib.hid (V0.out.go b1)
  clear b1
  obtain ⟨x1_f1, y1_f1⟩ := V1.out.box (.tail _ (.head _))
  go_wp2_with fail
  refine (rformat_num n c x A _ (V1.out.at (.head _))).mono ?_
  rintro e w2 ⟨tx, rfl, etx, ltx, b2⟩
  clear x1_f1 y1_f1
  have V2 := Lib.hid (V1.out.go b2)
  clear b2
  obtain ⟨x2_f0, y2_f0⟩ := V2.out.box (.tail _ (.tail _ (.head _)))
  obtain ⟨x2_f2, y2_f2⟩ := V2.out.box (.head _)
  have ETX := Lib.hid etx
  clear etx
  have NY := Lib.hid (V2.out.at (.tail _ (.head _)))
  have XF2 := Lib.hid (V2.out.box (.head _))
  obtain ⟨wz, rfl⟩ : ∃ wz : World, wz = w2 := ⟨_, rfl⟩
  go_upto_region 6 with fail
  clear x2_f0 y2_f0 x2_f2 y2_f2
  obtain ⟨xf, yf⟩ := XF2.out
  go_region_with (first | (go_at_call 22; (with_reducible refine (rSmall_num 1 _ (by omega) (by omega)).mono ?_); rintro e w8 ⟨Ao, co, ko, rfl, no8, b8⟩; have D8 : Below wz.heap.size wz w8 := btwo (by first | exact Below.refl _ _ | exact (Below.refl _ _).drew | exact bdr (Below.refl _ _) _ | exact bdr (Below.refl _ _).drew _) b8; have x8f := (D8.cell (p := ⟨W.heap.size, 2, none⟩) XF2.out.2).trans XF2.out.1; have y8f := Nat.lt_of_lt_of_le XF2.out.2 D8.size; have HD8 := Lib.hid D8; have NO8 := Lib.hid no8; clear D8 b8 no8) | (go_at_call 21; (with_reducible refine (same_num m d ko co _ _ B Ao _ (by first | exact NY.out.below HD8.out | exact NumAt.below (NY.out.below HD8.out) (Below.refl _ _).drew | exact NumAt.below (NY.out.below HD8.out) (bdr (Below.refl _ _) _)) (by first | exact NO8.out | exact NumAt.below (NO8.out) (Below.refl _ _).drew | exact NumAt.below (NO8.out) (bdr (Below.refl _ _) _)) HY1.out).mono ?_); rintro e w9 ⟨rfl, b9⟩; have D9 : Below wz.heap.size wz w9 := btwo (by first | exact HD8.out | exact btwo HD8.out (Below.refl _ _).drew | exact btwo HD8.out (bdr (Below.refl _ _) _)) b9; have x9f := (D9.cell (p := ⟨W.heap.size, 2, none⟩) XF2.out.2).trans XF2.out.1; have y9f := Nat.lt_of_lt_of_le XF2.out.2 D9.size; have HD9 := Lib.hid D9; clear D9 b9))
  all_goals (go_wp2_with fail)
  all_goals go_ret2
  all_goals exact ⟨by show Ending.returned (.tuple #[.string (⟨#[45]⟩ ++ tx), .int .i64 0]) = _; rw [HX.out, ETX.out, show (⟨#[45]⟩ : ByteArray) = ⟨([45] : List UInt8).toArray⟩ from rfl, ba_app], btwo V2.out.2.2 (by first | exact HD9.out | exact btwo HD9.out (Below.refl _ _).drew | exact btwo HD9.out (bdr (Below.refl _ _) _))⟩
set_option maxHeartbeats 4000000 in
theorem rfformat_true (n c m d : Nat) (x y : Int) (A B : Option Addr) (W : World) (hx : NumAt W (.slice A n c) x) (hy : NumAt W (.slice B m d) y) (hv : 0 < y ∧ gcdI x y = 1 ∧ (true = true → 0 < x)) (hy1 : ¬ y = 1) :
    Calls Tryd.prog 8 #[.agg #[.bool true, .slice A n c, .slice B m d]] W (StrIs (ftext true x y) W) := by
  have V0 := Lib.hid ((((LiveA.start W).num hy).num hx).newF (.bool true) (.slice A n c) (.slice B m d) 26)
  have HV := Lib.hid hv
  have HX := Lib.hid (show ftext true x y = [45] ++ fmt x ++ 47 :: fmt y by unfold ftext; rw [if_neg hy1]; simp)
  have HY1 := Lib.hid hy1
  clear hx hy hv hy1
  go_enter Tryd.func8, Tryd.ntmps8
  go_wp2_with fail
  refine (rfvalid_t true n c m d _ _ A B _ (V0.out.at (.head _)) (V0.out.at (.tail _ (.head _))) (by simpa using HV.out)).mono ?_
  rintro e w1 ⟨rfl, b1⟩
  have V1 := Lib.hid (V0.out.go b1)
  clear b1
  obtain ⟨x1_f1, y1_f1⟩ := V1.out.box (.tail _ (.head _))
  go_wp2_with fail
  refine (rformat_num n c x A _ (V1.out.at (.head _))).mono ?_
  rintro e w2 ⟨tx, rfl, etx, ltx, b2⟩
  clear x1_f1 y1_f1
  have V2 := Lib.hid (V1.out.go b2)
  clear b2
  obtain ⟨x2_f0, y2_f0⟩ := V2.out.box (.tail _ (.tail _ (.head _)))
  obtain ⟨x2_f2, y2_f2⟩ := V2.out.box (.head _)
  have ETX := Lib.hid etx
  clear etx
  have NY := Lib.hid (V2.out.at (.tail _ (.head _)))
  have XF2 := Lib.hid (V2.out.box (.head _))
  obtain ⟨wz, rfl⟩ : ∃ wz : World, wz = w2 := ⟨_, rfl⟩
  go_upto_region 6 with fail
  clear x2_f0 y2_f0 x2_f2 y2_f2
  obtain ⟨xf, yf⟩ := XF2.out
  go_region_with (first | (go_at_call 22; (with_reducible refine (rSmall_num 1 _ (by omega) (by omega)).mono ?_); rintro e w8 ⟨Ao, co, ko, rfl, no8, b8⟩; have D8 : Below wz.heap.size wz w8 := btwo (by first | exact Below.refl _ _ | exact (Below.refl _ _).drew | exact bdr (Below.refl _ _) _ | exact bdr (Below.refl _ _).drew _) b8; have x8f := (D8.cell (p := ⟨W.heap.size, 2, none⟩) XF2.out.2).trans XF2.out.1; have y8f := Nat.lt_of_lt_of_le XF2.out.2 D8.size; have HD8 := Lib.hid D8; have NO8 := Lib.hid no8; clear D8 b8 no8) | (go_at_call 21; (with_reducible refine (same_numF m d ko co _ _ B Ao _ (by first | exact NY.out.below HD8.out | exact NumAt.below (NY.out.below HD8.out) (Below.refl _ _).drew | exact NumAt.below (NY.out.below HD8.out) (bdr (Below.refl _ _) _)) (by first | exact NO8.out | exact NumAt.below (NO8.out) (Below.refl _ _).drew | exact NumAt.below (NO8.out) (bdr (Below.refl _ _) _)) HY1.out).mono ?_); rintro e w9 ⟨rfl, b9⟩; have D9 : Below wz.heap.size wz w9 := btwo (by first | exact HD8.out | exact btwo HD8.out (Below.refl _ _).drew | exact btwo HD8.out (bdr (Below.refl _ _) _)) b9; have x9f := (D9.cell (p := ⟨W.heap.size, 2, none⟩) XF2.out.2).trans XF2.out.1; have y9f := Nat.lt_of_lt_of_le XF2.out.2 D9.size; have HD9 := Lib.hid D9; clear D9 b9))
  all_goals (go_wp2_with fail)
  all_goals (refine (rformat_num m d y B _ (by first | exact NY.out.below HD9.out | exact NumAt.below (NY.out.below HD9.out) (Below.refl _ _).drew | exact NumAt.below (NY.out.below HD9.out) (bdr (Below.refl _ _) _))).mono ?_; rintro e w10 ⟨ty, rfl, ety, lty, b10⟩; have ETY := Lib.hid ety; have HD10 := Lib.hid (show Below W.heap.size W w10 from btwo (btwo V2.out.2.2 (by first | exact HD9.out | exact btwo HD9.out (Below.refl _ _).drew | exact btwo HD9.out (bdr (Below.refl _ _) _))) b10); clear ety b10)
  all_goals (go_wp2_with fail)
  all_goals go_ret2
  all_goals exact ⟨by show Ending.returned (.tuple #[.string (((⟨#[45]⟩ ++ tx) ++ ⟨#[47]⟩) ++ ty), .int .i64 0]) = _; rw [HX.out, ETX.out, ETY.out, show (⟨#[45]⟩ : ByteArray) = ⟨([45] : List UInt8).toArray⟩ from rfl, show (⟨#[47]⟩ : ByteArray) = ⟨([47] : List UInt8).toArray⟩ from rfl, ba_app, ba_app, ba_app]; simp, HD10.out⟩
theorem rfformat_num (s : Bool) (n c m d : Nat) (x y : Int) (A B : Option Addr) (W : World) (hx : NumAt W (.slice A n c) x) (hy : NumAt W (.slice B m d) y) (hv : 0 < y ∧ gcdI x y = 1 ∧ (s = true → 0 < x)) :
    Calls Tryd.prog 8 #[.agg #[.bool s, .slice A n c, .slice B m d]] W (StrIs (ftext s x y) W) := by
  cases s with
  | false =>
    by_cases h : y = 1
    · exact rfformat_false1 n c m d x y A B W hx hy hv h
    · exact rfformat_false n c m d x y A B W hx hy hv h
  | true =>
    by_cases h : y = 1
    · exact rfformat_true1 n c m d x y A B W hx hy hv h
    · exact rfformat_true n c m d x y A B W hx hy hv h
end Go.Proofs.YtielpkpalfnfgaaDoor
