/- Contract of Parse of fractions. -/
import Derived.Test.YtkfkefgkepoaaaaGreatDoorHA
import Derived.Test.YtkfkefgkepoaaaaGreatDoorShelf
import Derived.Test.YtkfkefgkepoaaaaGreatDoorNWp
import Derived.Test.YtkfkefgkepoaaaaGreatDoorNReg
import Derived.Deep.DeepCutAuto
import Derived.Deep.RegionHeld3
import Derived.WalkSmall
import Derived.Test.YtkfkefgkepoaaaaGreatDoorNFrame
import Derived.Deep.Strs
namespace Go.Proofs.YtkfkefgkepoaaaaGreatDoor
open Go.RowKit
set_option linter.unusedVariables false
set_option maxRecDepth 100000

/-- The pieces of a text: is there a sign, what stands ahead of the slash, what behind it (1 if there is none), is there one. -/
def negOf (l : List UInt8) : Bool := Lib.hasPrefix l [45]
def restOf (l : List UInt8) : List UInt8 := Lib.trimPrefix l [45]
def numOf (l : List UInt8) : List UInt8 := (Lib.cut (restOf l) [47]).1
def divOf (l : List UInt8) : Bool := (Lib.cut (restOf l) [47]).2.2
def denOf (l : List UInt8) : List UInt8 := if divOf l = true then (Lib.cut (restOf l) [47]).2.1 else [49]
/-- What a world knows of the variable that strings.Cut reads. -/
def Cutl (w : World) : Prop := ∃ m : Int, w.cell? ⟨0, 0, none⟩ = some (.int .i64 m) ∧ 0 < w.heap.size
theorem Cutl.below {w w' : World} (h : Cutl w) (hb : Below w.heap.size w w') : Cutl w' := by
  obtain ⟨m, h1, h2⟩ := h
  exact ⟨m, (hb.cell (p := ⟨0, 0, none⟩) h2).trans h1, Nat.lt_of_lt_of_le h2 hb.size⟩
theorem cutP (s : ByteArray) (w : World) : Calls Tryz.prog 32 #[.string s, .string ⟨#[45]⟩] w fun e w' => e = .returned (.tuple #[.string ⟨(restOf s.data.toList).toArray⟩, .bool (negOf s.data.toList)]) ∧ w = w' := by
  refine (Tryz.strings_CutPrefix s ⟨#[45]⟩ w).mono ?_
  rintro e w' ⟨rfl, rfl⟩
  exact ⟨rfl, rfl⟩
theorem cutS (l : List UInt8) (w : World) (hs : (restOf l).length < 4294967281) (hC : Cutl w) : Calls Tryz.prog 33 #[.string ⟨(restOf l).toArray⟩, .string ⟨#[47]⟩] w fun e w' => e = .returned (.tuple #[.string ⟨(numOf l).toArray⟩, .string ⟨(Lib.cut (restOf l) [47]).2.1.toArray⟩, .bool (divOf l)]) ∧ Below w.heap.size w w' := by
  obtain ⟨m, h1, h2⟩ := hC
  refine (Tryz.strings_Cut ⟨(restOf l).toArray⟩ ⟨#[47]⟩ m w (by simpa [ByteArray.size] using hs) h1).mono ?_
  rintro e w' ⟨he, n, hw⟩
  subst hw
  exact ⟨by rw [he]; simp [numOf, divOf], bdr (Below.refl _ _) n⟩
theorem LiveA.new1F {W w : World} {lc : List (Addr × Value)} {ln : List (Value × Int)} (h : LiveA W lc ln w) (v1 : Value) (T1 : TypeId) (u v x : Value) (T : TypeId) : LiveA W ((⟨w.heap.size + 1, 2, none⟩, x) :: (⟨w.heap.size + 1, 1, none⟩, v) :: (⟨w.heap.size + 1, 0, none⟩, u) :: (⟨w.heap.size, 0, none⟩, v1) :: lc) ln ((w.alloc (.cells #[v1] T1)).alloc (.cells #[u, v, x] T)) := by
  have h2 := (h.new v1 T1).newF u v x T
  rw [show (w.alloc (.cells #[v1] T1)).heap.size = w.heap.size + 1 by simp] at h2
  exact h2
def FrErr (x : Int) (W : World) (e : Ending) (w' : World) : Prop := e = .returned (.tuple #[.agg #[.bool false, .slice none 0 0, .slice none 0 0], .int .i64 x]) ∧ Below W.heap.size W w'
theorem fr_err {W w : World} {g : Nat} {x : Int} {u v y : Value} (hW : W.heap.size ≤ g) (hb : Below W.heap.size W w) : FrErr x W (.returned (.tuple #[.agg #[.bool false, .slice none 0 0, .slice none 0 0], .int .i64 x])) (((w.setCell ⟨g, 0, none⟩ u).setCell ⟨g, 1, none⟩ v).setCell ⟨g, 2, none⟩ y) :=
  ⟨rfl, ((hb.setCell (p := ⟨g, 0, none⟩) hW _).setCell (p := ⟨g, 1, none⟩) hW _).setCell (p := ⟨g, 2, none⟩) hW _⟩
theorem parse_num (l : List UInt8) (b : ByteArray) (W : World) (hb : b = ⟨l.toArray⟩) (h : isTB l = true) (h8 : ¬ 800 < l.length) : Calls Tryz.prog 34 #[.string b] W (ValPost (decV l) W) := by
  subst hb
  have ha := ((isTB_iff l).1 h).2.1
  refine (parse_any ⟨l.toArray⟩ W (by simp [ByteArray.size]; unfold maxLen; omega)).mono fun e w' hp => val_post hp ?_ (decV_nonneg ha) (decV_bound ha (by omega))
  dsimp only
  exact parse_ok h h8
/-- Which texts stand for a fraction. -/
def fok (l : List UInt8) : Prop := (isTB (numOf l) = true ∧ ¬ 800 < (numOf l).length) ∧ (isTB (denOf l) = true ∧ ¬ 800 < (denOf l).length)
set_option maxHeartbeats 8000000 in
theorem fparse_nums (l : List UInt8) (W : World) (hs : l.length ≤ 100000) (hC : Cutl W) (hk : fok l) (hd1 : ¬ (divOf l = true ∧ decV (denOf l) = 1)) (hv : 0 < decV (denOf l) ∧ gcdI (decV (numOf l)) (decV (denOf l)) = 1 ∧ (negOf l = true → 0 < decV (numOf l))) :
    Calls Tryz.prog 15 #[.string ⟨l.toArray⟩] W (FrOk (negOf l) (decV (numOf l)) (decV (denOf l)) W) := by
  have HC := Lib.hid (hC.below (w' := W.alloc (.cells #[.bool false, .slice none 0 0, .slice none 0 0] 32)) one_new)
  have HBE := Lib.hid (show Below W.heap.size W (W.alloc (.cells #[.bool false, .slice none 0 0, .slice none 0 0] 32)) from one_new)
  have HKE := Lib.hid (keptF_new W)
  have V0 := Lib.hid (LiveA.start (W.alloc (.cells #[.bool false, .slice none 0 0, .slice none 0 0] 32)))
  have HRL := Lib.hid (show (restOf l).length < 4294967281 by
    unfold restOf Lib.trimPrefix; split
    · rw [List.length_drop]; omega
    · omega)
  obtain ⟨⟨k1, k2⟩, k3, k4⟩ := hk
  obtain ⟨p, hp⟩ : ∃ p, p = decV (numOf l) := ⟨_, rfl⟩
  obtain ⟨q, hq⟩ : ∃ q, q = decV (denOf l) := ⟨_, rfl⟩
  obtain ⟨sb, hsb⟩ : ∃ b, b = negOf l := ⟨_, rfl⟩
  have HPN := Lib.hid (fun (b : ByteArray) (w : World) (hb : b = ⟨(numOf l).toArray⟩) => (show Calls Tryz.prog 34 #[.string b] w (ValPost p w) by rw [hp]; exact parse_num _ b w hb k1 k2))
  have HPD := Lib.hid (fun (b : ByteArray) (w : World) (hb : b = ⟨(denOf l).toArray⟩) => (show Calls Tryz.prog 34 #[.string b] w (ValPost q w) by rw [hq]; exact parse_num _ b w hb k3 k4))
  rw [← hp, ← hq, ← hsb] at hv
  rw [← hq] at hd1
  rw [← hp, ← hq, ← hsb]
  have HV := Lib.hid hv
  have HSB := Lib.hid hsb
  have CP := Lib.hid (fun (w : World) => (show Calls Tryz.prog 32 #[.string ⟨l.toArray⟩, .string ⟨#[45]⟩] w fun e w' => e = .returned (.tuple #[.string ⟨(restOf l).toArray⟩, .bool sb]) ∧ w = w' by
    have h := cutP ⟨l.toArray⟩ w
    dsimp only at h
    rw [hsb]; exact h))
  clear hC hp hq hsb k1 k2 k3 k4 hv
  by_cases hd : divOf l = true
  · have hq1 : ¬ q = 1 := fun e => hd1 ⟨hd, e⟩
    have CS := Lib.hid (fun (w : World) (h : Cutl w) => (show Calls Tryz.prog 33 #[.string ⟨(restOf l).toArray⟩, .string ⟨#[47]⟩] w fun e w' => e = .returned (.tuple #[.string ⟨(numOf l).toArray⟩, .string ⟨(denOf l).toArray⟩, .bool true]) ∧ Below w.heap.size w w' by
      have h := cutS l w HRL.out h
      rw [hd] at h
      unfold denOf; rw [if_pos hd]; exact h))
    clear hd hd1
    go_enter Tryz.func15, Tryz.ntmps15
    go_wp2_with fail
    refine (CP.out _).mono ?_
    rintro e w' ⟨rfl, rfl⟩
    go_wp2_with fail
    refine (CS.out _ HC.out).mono ?_
    rintro e w1 ⟨rfl, b1⟩
    have V1 := Lib.hid (V0.out.go b1)
    clear b1
    go_wp2_with fail
    refine (HPN.out _ _ rfl).mono ?_
    rintro e w2 ⟨Ap, cp, kp, rfl, n2, b2⟩
    have U2 := Lib.hid ((V1.out.go b2).num n2)
    clear n2 b2
    have V2 := Lib.hid (U2.out.new (.slice Ap kp cp) 30)
    go_wp2_with fail
    refine (HPD.out _ _ rfl).mono ?_
    rintro e w3 ⟨Aq, cq, kq, rfl, n3, b3⟩
    have U3 := Lib.hid ((V2.out.go b3).num n3)
    clear n3 b3
    obtain ⟨x3_p, y3_p⟩ := U3.out.box (.head _)
    have V3 := Lib.hid (U3.out.new (.slice Aq kq cq) 30)
    have V3f := Lib.hid (U3.out.new1F (.slice Aq kq cq) 30 (.bool sb) (.slice Ap kp cp) (.slice Aq kq cq) 32)
    go_wp2_with fail
    refine (isOne_f kq cq _ Aq _ (V3f.out.at (.head _)) hq1).mono ?_
    rintro e w4 ⟨rfl, b4⟩
    clear x3_p y3_p
    have V4 := Lib.hid (V3f.out.go b4)
    clear b4
    obtain ⟨x4_f2, y4_f2⟩ := V4.out.box (.head _)
    obtain ⟨x4_f1, y4_f1⟩ := V4.out.box (.tail _ (.head _))
    obtain ⟨x4_f0, y4_f0⟩ := V4.out.box (.tail _ (.tail _ (.head _)))
    go_wp2_with fail
    refine (fvalid_t sb kp cp kq cq _ _ Ap Aq _ (V4.out.at (.tail _ (.head _))) (V4.out.at (.head _)) HV.out).mono ?_
    rintro e w5 ⟨rfl, b5⟩
    clear x4_f2 y4_f2 x4_f1 y4_f1 x4_f0 y4_f0
    have V5 := Lib.hid (V4.out.go b5)
    clear b5
    obtain ⟨x5_f2, y5_f2⟩ := V5.out.box (.head _)
    obtain ⟨x5_f1, y5_f1⟩ := V5.out.box (.tail _ (.head _))
    obtain ⟨x5_f0, y5_f0⟩ := V5.out.box (.tail _ (.tail _ (.head _)))
    have K9 := Lib.hid (HKE.out.go V5.out.2.2)
    have HB9 := Lib.hid (btwo HBE.out V5.out.2.2)
    obtain ⟨k0, k1, k2, k3, k4, k5, k6⟩ := K9.out.facts
    go_wp2_with fail
    refine bodyPost_ret (v := .tuple #[.agg #[.bool sb, .slice Ap kp cp, .slice Aq kq cq], .int .i64 0]) ?_ rfl ?_
    · simp [results, Tryz.results15, go_sem, k0, k1, k2]
    · have h := fr_ok (s := sb) K9.out (Nat.le_refl _) (V5.out.at (.tail _ (.head _))) (V5.out.at (.head _)) HB9.out
      exact h
  · have HD1 := Lib.hid (show (⟨#[49]⟩ : ByteArray) = ⟨(denOf l).toArray⟩ by unfold denOf; rw [if_neg hd])
    obtain ⟨td, htd⟩ : ∃ b : ByteArray, b = ⟨(Lib.cut (restOf l) [47]).2.1.toArray⟩ := ⟨_, rfl⟩
    have hdf : divOf l = false := by simpa using hd
    have CS := Lib.hid (fun (w : World) (h : Cutl w) => (show Calls Tryz.prog 33 #[.string ⟨(restOf l).toArray⟩, .string ⟨#[47]⟩] w fun e w' => e = .returned (.tuple #[.string ⟨(numOf l).toArray⟩, .string td, .bool false]) ∧ Below w.heap.size w w' by
      have h := cutS l w HRL.out h
      rw [hdf] at h
      rw [htd]; exact h))
    clear hd hd1 hdf htd
    go_enter Tryz.func15, Tryz.ntmps15
    go_wp2_with fail
    refine (CP.out _).mono ?_
    rintro e w' ⟨rfl, rfl⟩
    go_wp2_with fail
    refine (CS.out _ HC.out).mono ?_
    rintro e w1 ⟨rfl, b1⟩
    have V1 := Lib.hid (V0.out.go b1)
    clear b1
    go_wp2_with fail
    refine (HPN.out _ _ rfl).mono ?_
    rintro e w2 ⟨Ap, cp, kp, rfl, n2, b2⟩
    have U2 := Lib.hid ((V1.out.go b2).num n2)
    clear n2 b2
    have V2 := Lib.hid (U2.out.new (.slice Ap kp cp) 30)
    go_wp2_with fail
    refine (HPD.out _ _ HD1.out).mono ?_
    rintro e w3 ⟨Aq, cq, kq, rfl, n3, b3⟩
    have U3 := Lib.hid ((V2.out.go b3).num n3)
    clear n3 b3
    obtain ⟨x3_p, y3_p⟩ := U3.out.box (.head _)
    have V3 := Lib.hid (U3.out.new (.slice Aq kq cq) 30)
    have V3f := Lib.hid (U3.out.new1F (.slice Aq kq cq) 30 (.bool sb) (.slice Ap kp cp) (.slice Aq kq cq) 32)
    go_wp2_with fail
    refine (fvalid_t sb kp cp kq cq _ _ Ap Aq _ (V3f.out.at (.tail _ (.head _))) (V3f.out.at (.head _)) HV.out).mono ?_
    rintro e w4 ⟨rfl, b4⟩
    clear x3_p y3_p
    have V4 := Lib.hid (V3f.out.go b4)
    clear b4
    obtain ⟨x4_f2, y4_f2⟩ := V4.out.box (.head _)
    obtain ⟨x4_f1, y4_f1⟩ := V4.out.box (.tail _ (.head _))
    obtain ⟨x4_f0, y4_f0⟩ := V4.out.box (.tail _ (.tail _ (.head _)))
    have K9 := Lib.hid (HKE.out.go V4.out.2.2)
    have HB9 := Lib.hid (btwo HBE.out V4.out.2.2)
    obtain ⟨k0, k1, k2, k3, k4, k5, k6⟩ := K9.out.facts
    go_wp2_with fail
    refine bodyPost_ret (v := .tuple #[.agg #[.bool sb, .slice Ap kp cp, .slice Aq kq cq], .int .i64 0]) ?_ rfl ?_
    · simp [results, Tryz.results15, go_sem, k0, k1, k2]
    · have h := fr_ok (s := sb) K9.out (Nat.le_refl _) (V4.out.at (.tail _ (.head _))) (V4.out.at (.head _)) HB9.out
      exact h
def AnyPost (W : World) (e : Ending) (w' : World) : Prop := ∃ A c k x, e = .returned (.tuple #[.agg #[.slice A k c], .int .i64 x]) ∧ Below W.heap.size W w'
def ErrAny (W : World) (e : Ending) (w' : World) : Prop := ∃ A c k x, e = .returned (.tuple #[.agg #[.slice A k c], .int .i64 x]) ∧ (x == 0) = false ∧ (x != 0) = true ∧ Below W.heap.size W w'
theorem parse_anyP (b : ByteArray) (W : World) (h : b.size ≤ 200000) : Calls Tryz.prog 34 #[.string b] W (AnyPost W) := by
  refine (parse_any b W (by unfold maxLen; omega)).mono ?_
  rintro e w' ⟨A, c, he, _, _, _, hb⟩
  exact ⟨A, c, _, _, he, hb⟩
theorem parse_errP (l : List UInt8) (b : ByteArray) (W : World) (hb : b = ⟨l.toArray⟩) (hl : l.length ≤ 200000) (h : ¬ (isTB l = true ∧ ¬ 800 < l.length)) : Calls Tryz.prog 34 #[.string b] W (ErrAny W) := by
  subst hb
  refine (parse_any ⟨l.toArray⟩ W (by simp [ByteArray.size]; unfold maxLen; omega)).mono ?_
  rintro e w' ⟨A, c, he, _, _, _, hb⟩
  dsimp only at he
  have hx : (parseV l).2 = 2 ∨ (parseV l).2 = 3 := by
    unfold parseV
    by_cases c1 : isTB l = true
    · rw [if_pos c1, if_pos (by by_cases c2 : 800 < l.length; exact c2; exact absurd ⟨c1, c2⟩ h)]; exact .inr rfl
    · rw [if_neg c1]; exact .inl rfl
  exact ⟨A, c, _, _, he, by rcases hx with e1 | e1 <;> rw [e1] <;> rfl, by rcases hx with e1 | e1 <;> rw [e1] <;> rfl, hb⟩
theorem fvalid_f (s : Bool) (n c m d : Nat) (x y : Int) (A B : Option Addr) (W : World) (hx : NumAt W (.slice A n c) x) (hy : NumAt W (.slice B m d) y) (hv : ¬ (0 < y ∧ gcdI x y = 1 ∧ (s = true → 0 < x))) :
    Calls Tryz.prog 16 #[.agg #[.bool s, .slice A n c, .slice B m d]] W fun e w' => e = .returned (.bool false) ∧ Below W.heap.size W w' := by
  have := fvalid_num s n c m d x y A B W hx hy
  rwa [decide_eq_false hv] at this
theorem cut_len (l : List UInt8) : (numOf l).length ≤ (restOf l).length ∧ (denOf l).length ≤ (restOf l).length + 1 := by
  unfold denOf numOf divOf Lib.cut
  by_cases h : 0 ≤ Lib.index (restOf l) [47]
  · rw [if_pos h]; simp; omega
  · rw [if_neg h]; simp
theorem err_cells {w : World} {g : Nat} (h : KeptF g w) (o1 o2 : Obj) :
    (((((w.setCell ⟨g, 0, none⟩ (.bool false)).setCell ⟨g, 1, none⟩ (.slice none 0 0)).setCell ⟨g, 2, none⟩ (.slice none 0 0)).alloc o1).alloc o2).cell? ⟨g, 0, none⟩ = some (.bool false) ∧
    (((((w.setCell ⟨g, 0, none⟩ (.bool false)).setCell ⟨g, 1, none⟩ (.slice none 0 0)).setCell ⟨g, 2, none⟩ (.slice none 0 0)).alloc o1).alloc o2).cell? ⟨g, 1, none⟩ = some (.slice none 0 0) ∧
    (((((w.setCell ⟨g, 0, none⟩ (.bool false)).setCell ⟨g, 1, none⟩ (.slice none 0 0)).setCell ⟨g, 2, none⟩ (.slice none 0 0)).alloc o1).alloc o2).cell? ⟨g, 2, none⟩ = some (.slice none 0 0) := by
  obtain ⟨a0, a1, a2, _, _, _, hs⟩ := h.facts
  have b0 : ((w.setCell ⟨g, 0, none⟩ (.bool false)).setCell ⟨g, 1, none⟩ (.slice none 0 0)).cell? ⟨g, 2, none⟩ = some (.slice none 0 0) := by
    rw [World.cell?_setCell_other _ _ _ _ (by simp), World.cell?_setCell_other _ _ _ _ (by simp)]; exact a2
  have b1 : (w.setCell ⟨g, 0, none⟩ (.bool false)).cell? ⟨g, 1, none⟩ = some (.slice none 0 0) := by
    rw [World.cell?_setCell_other _ _ _ _ (by simp)]; exact a1
  have hb : ∀ (S : World), S.heap.size = w.heap.size → ∀ i v, S.cell? ⟨g, i, none⟩ = some v → ((S.alloc o1).alloc o2).cell? ⟨g, i, none⟩ = some v := fun S e i v hv =>
    ((two_box (W := S) (o1 := o1) (o2 := o2)).cell (p := ⟨g, i, none⟩) (by simp only; omega)).trans hv
  have hz : (((w.setCell ⟨g, 0, none⟩ (.bool false)).setCell ⟨g, 1, none⟩ (.slice none 0 0)).setCell ⟨g, 2, none⟩ (.slice none 0 0)).heap.size = w.heap.size := by simp [World.setCell]
  refine ⟨hb _ hz _ _ ?_, hb _ hz _ _ ?_, hb _ hz _ _ (World.cell?_setCell_same _ _ _ b0)⟩
  · rw [World.cell?_setCell_other _ _ _ _ (by simp), World.cell?_setCell_other _ _ _ _ (by simp)]; exact World.cell?_setCell_same _ _ _ a0
  · rw [World.cell?_setCell_other _ _ _ _ (by simp)]; exact World.cell?_setCell_same _ _ _ b1
theorem fr_err2 {W w : World} {g : Nat} {x : Int} {u v y : Value} {o1 o2 : Obj} (hW : W.heap.size ≤ g) (hb : Below W.heap.size W w) : FrErr x W (.returned (.tuple #[.agg #[.bool false, .slice none 0 0, .slice none 0 0], .int .i64 x])) (((((w.setCell ⟨g, 0, none⟩ u).setCell ⟨g, 1, none⟩ v).setCell ⟨g, 2, none⟩ y).alloc o1).alloc o2) :=
  ⟨rfl, btwo (((hb.setCell (p := ⟨g, 0, none⟩) hW _).setCell (p := ⟨g, 1, none⟩) hW _).setCell (p := ⟨g, 2, none⟩) hW _) two_box⟩
set_option maxHeartbeats 8000000 in
theorem fparse_bad1 (l : List UInt8) (W : World) (hs : l.length ≤ 100000) (hC : Cutl W) (hn : ¬ (isTB (numOf l) = true ∧ ¬ 800 < (numOf l).length)) :
    Calls Tryz.prog 15 #[.string ⟨l.toArray⟩] W (FrErr 2 W) := by
  have HC := Lib.hid (hC.below (w' := W.alloc (.cells #[.bool false, .slice none 0 0, .slice none 0 0] 32)) one_new)
  have HBE := Lib.hid (show Below W.heap.size W (W.alloc (.cells #[.bool false, .slice none 0 0, .slice none 0 0] 32)) from one_new)
  have HKE := Lib.hid (keptF_new W)
  have V0 := Lib.hid (LiveA.start (W.alloc (.cells #[.bool false, .slice none 0 0, .slice none 0 0] 32)))
  have hr : (restOf l).length ≤ l.length := by
    unfold restOf Lib.trimPrefix; split
    · rw [List.length_drop]; omega
    · omega
  have HRL := Lib.hid (show (restOf l).length < 4294967281 by omega)
  obtain ⟨hnl, hdl⟩ := cut_len l
  obtain ⟨sb, hsb⟩ : ∃ b, b = negOf l := ⟨_, rfl⟩
  have CP := Lib.hid (fun (w : World) => (show Calls Tryz.prog 32 #[.string ⟨l.toArray⟩, .string ⟨#[45]⟩] w fun e w' => e = .returned (.tuple #[.string ⟨(restOf l).toArray⟩, .bool sb]) ∧ w = w' by
    have h := cutP ⟨l.toArray⟩ w
    dsimp only at h
    rw [hsb]; exact h))
  have HPN := Lib.hid (fun (b : ByteArray) (w : World) (hb : b = ⟨(numOf l).toArray⟩) => parse_errP _ b w hb (by omega) hn)
  have HPD := Lib.hid (fun (b : ByteArray) (w : World) (hb : b = ⟨(denOf l).toArray⟩) => parse_anyP b w (by rw [hb]; simp [ByteArray.size]; omega))
  clear hn
  by_cases hd : divOf l = true
  · have CS := Lib.hid (fun (w : World) (h : Cutl w) => (show Calls Tryz.prog 33 #[.string ⟨(restOf l).toArray⟩, .string ⟨#[47]⟩] w fun e w' => e = .returned (.tuple #[.string ⟨(numOf l).toArray⟩, .string ⟨(denOf l).toArray⟩, .bool true]) ∧ Below w.heap.size w w' by
      have h := cutS l w HRL.out h
      rw [hd] at h
      unfold denOf; rw [if_pos hd]; exact h))
    clear hC hs hr hnl hdl hsb 
    clear hd
    go_enter Tryz.func15, Tryz.ntmps15
    go_wp2_with fail
    refine (CP.out _).mono ?_
    rintro e w' ⟨rfl, rfl⟩
    go_wp2_with fail
    refine (CS.out _ HC.out).mono ?_
    rintro e w1 ⟨rfl, b1⟩
    have V1 := Lib.hid (V0.out.go b1)
    clear b1
    go_wp2_with fail
    refine (HPN.out _ _ rfl).mono ?_
    rintro e w2 ⟨Ap, cp, kp, xp, rfl, epa, epb, b2⟩
    have U2 := Lib.hid (V1.out.go b2)
    clear b2
    have V2 := Lib.hid (U2.out.new (.slice Ap kp cp) 30)
    go_wp2_with fail
    refine (HPD.out _ _ rfl).mono ?_
    rintro e w3 ⟨Aq, cq, kq, xq, rfl, b3⟩
    have U3 := Lib.hid (V2.out.go b3)
    clear b3
    obtain ⟨x3_p, y3_p⟩ := U3.out.box (.head _)
    have V3 := Lib.hid (U3.out.new (.slice Aq kq cq) 30)
    have V3f := Lib.hid (U3.out.new1F (.slice Aq kq cq) 30 (.bool sb) (.slice Ap kp cp) (.slice Aq kq cq) 32)
    have K8 := Lib.hid (HKE.out.go U3.out.2.2)
    have HB9 := Lib.hid (btwo HBE.out U3.out.2.2)
    obtain ⟨e0, e1, e2⟩ := err_cells K8.out (.cells #[.slice Aq kq cq] 30) (.cells #[.bool sb, .slice Ap kp cp, .slice Aq kq cq] 32)
    have E0 := Lib.hid e0
    have E1 := Lib.hid e1
    have E2 := Lib.hid e2
    clear e0 e1 e2
    obtain ⟨j0, j1, j2, j3, j4, j5, j6⟩ := K8.out.facts
    go_wp2_with fail
    refine bodyPost_ret (v := .tuple #[.agg #[.bool false, .slice none 0 0, .slice none 0 0], .int .i64 2]) ?_ rfl ?_
    · simp [results, Tryz.results15, go_sem, E0.out, E1.out, E2.out]
    · exact fr_err2 (Nat.le_refl _) HB9.out
  · have HD1 := Lib.hid (show (⟨#[49]⟩ : ByteArray) = ⟨(denOf l).toArray⟩ by unfold denOf; rw [if_neg hd])
    obtain ⟨td, htd⟩ : ∃ b : ByteArray, b = ⟨(Lib.cut (restOf l) [47]).2.1.toArray⟩ := ⟨_, rfl⟩
    have hdf : divOf l = false := by simpa using hd
    have CS := Lib.hid (fun (w : World) (h : Cutl w) => (show Calls Tryz.prog 33 #[.string ⟨(restOf l).toArray⟩, .string ⟨#[47]⟩] w fun e w' => e = .returned (.tuple #[.string ⟨(numOf l).toArray⟩, .string td, .bool false]) ∧ Below w.heap.size w w' by
      have h := cutS l w HRL.out h
      rw [hdf] at h
      rw [htd]; exact h))
    clear hd hdf htd
    clear hC hs hr hnl hdl hsb 
    go_enter Tryz.func15, Tryz.ntmps15
    go_wp2_with fail
    refine (CP.out _).mono ?_
    rintro e w' ⟨rfl, rfl⟩
    go_wp2_with fail
    refine (CS.out _ HC.out).mono ?_
    rintro e w1 ⟨rfl, b1⟩
    have V1 := Lib.hid (V0.out.go b1)
    clear b1
    go_wp2_with fail
    refine (HPN.out _ _ rfl).mono ?_
    rintro e w2 ⟨Ap, cp, kp, xp, rfl, epa, epb, b2⟩
    have U2 := Lib.hid (V1.out.go b2)
    clear b2
    have V2 := Lib.hid (U2.out.new (.slice Ap kp cp) 30)
    go_wp2_with fail
    refine (HPD.out _ _ HD1.out).mono ?_
    rintro e w3 ⟨Aq, cq, kq, xq, rfl, b3⟩
    have U3 := Lib.hid (V2.out.go b3)
    clear b3
    obtain ⟨x3_p, y3_p⟩ := U3.out.box (.head _)
    have V3 := Lib.hid (U3.out.new (.slice Aq kq cq) 30)
    have V3f := Lib.hid (U3.out.new1F (.slice Aq kq cq) 30 (.bool sb) (.slice Ap kp cp) (.slice Aq kq cq) 32)
    have K8 := Lib.hid (HKE.out.go U3.out.2.2)
    have HB9 := Lib.hid (btwo HBE.out U3.out.2.2)
    obtain ⟨e0, e1, e2⟩ := err_cells K8.out (.cells #[.slice Aq kq cq] 30) (.cells #[.bool sb, .slice Ap kp cp, .slice Aq kq cq] 32)
    have E0 := Lib.hid e0
    have E1 := Lib.hid e1
    have E2 := Lib.hid e2
    clear e0 e1 e2
    obtain ⟨j0, j1, j2, j3, j4, j5, j6⟩ := K8.out.facts
    go_wp2_with fail
    refine bodyPost_ret (v := .tuple #[.agg #[.bool false, .slice none 0 0, .slice none 0 0], .int .i64 2]) ?_ rfl ?_
    · simp [results, Tryz.results15, go_sem, E0.out, E1.out, E2.out]
    · exact fr_err2 (Nat.le_refl _) HB9.out
set_option maxHeartbeats 8000000 in
theorem fparse_bad2 (l : List UInt8) (W : World) (hs : l.length ≤ 100000) (hC : Cutl W) (hn : isTB (numOf l) = true ∧ ¬ 800 < (numOf l).length) (hk : ¬ (isTB (denOf l) = true ∧ ¬ 800 < (denOf l).length)) :
    Calls Tryz.prog 15 #[.string ⟨l.toArray⟩] W (FrErr 2 W) := by
  have HC := Lib.hid (hC.below (w' := W.alloc (.cells #[.bool false, .slice none 0 0, .slice none 0 0] 32)) one_new)
  have HBE := Lib.hid (show Below W.heap.size W (W.alloc (.cells #[.bool false, .slice none 0 0, .slice none 0 0] 32)) from one_new)
  have HKE := Lib.hid (keptF_new W)
  have V0 := Lib.hid (LiveA.start (W.alloc (.cells #[.bool false, .slice none 0 0, .slice none 0 0] 32)))
  have hr : (restOf l).length ≤ l.length := by
    unfold restOf Lib.trimPrefix; split
    · rw [List.length_drop]; omega
    · omega
  have HRL := Lib.hid (show (restOf l).length < 4294967281 by omega)
  obtain ⟨hnl, hdl⟩ := cut_len l
  obtain ⟨sb, hsb⟩ : ∃ b, b = negOf l := ⟨_, rfl⟩
  have CP := Lib.hid (fun (w : World) => (show Calls Tryz.prog 32 #[.string ⟨l.toArray⟩, .string ⟨#[45]⟩] w fun e w' => e = .returned (.tuple #[.string ⟨(restOf l).toArray⟩, .bool sb]) ∧ w = w' by
    have h := cutP ⟨l.toArray⟩ w
    dsimp only at h
    rw [hsb]; exact h))
  obtain ⟨p, hp⟩ : ∃ p, p = decV (numOf l) := ⟨_, rfl⟩
  have HPN := Lib.hid (fun (b : ByteArray) (w : World) (hb : b = ⟨(numOf l).toArray⟩) => (show Calls Tryz.prog 34 #[.string b] w (ValPost p w) by rw [hp]; exact parse_num _ b w hb hn.1 hn.2))
  have HPD := Lib.hid (fun (b : ByteArray) (w : World) (hb : b = ⟨(denOf l).toArray⟩) => parse_errP _ b w hb (by omega) hk)
  clear hn hk hp
  by_cases hd : divOf l = true
  · have CS := Lib.hid (fun (w : World) (h : Cutl w) => (show Calls Tryz.prog 33 #[.string ⟨(restOf l).toArray⟩, .string ⟨#[47]⟩] w fun e w' => e = .returned (.tuple #[.string ⟨(numOf l).toArray⟩, .string ⟨(denOf l).toArray⟩, .bool true]) ∧ Below w.heap.size w w' by
      have h := cutS l w HRL.out h
      rw [hd] at h
      unfold denOf; rw [if_pos hd]; exact h))
    clear hC hs hr hnl hdl hsb 
    clear hd
    go_enter Tryz.func15, Tryz.ntmps15
    go_wp2_with fail
    refine (CP.out _).mono ?_
    rintro e w' ⟨rfl, rfl⟩
    go_wp2_with fail
    refine (CS.out _ HC.out).mono ?_
    rintro e w1 ⟨rfl, b1⟩
    have V1 := Lib.hid (V0.out.go b1)
    clear b1
    go_wp2_with fail
    refine (HPN.out _ _ rfl).mono ?_
    rintro e w2 ⟨Ap, cp, kp, rfl, n2, b2⟩
    have U2 := Lib.hid ((V1.out.go b2).num n2)
    clear n2 b2
    have V2 := Lib.hid (U2.out.new (.slice Ap kp cp) 30)
    go_wp2_with fail
    refine (HPD.out _ _ rfl).mono ?_
    rintro e w3 ⟨Aq, cq, kq, xq, rfl, eqa, eqb, b3⟩
    have U3 := Lib.hid (V2.out.go b3)
    clear b3
    obtain ⟨x3_p, y3_p⟩ := U3.out.box (.head _)
    have V3 := Lib.hid (U3.out.new (.slice Aq kq cq) 30)
    have V3f := Lib.hid (U3.out.new1F (.slice Aq kq cq) 30 (.bool sb) (.slice Ap kp cp) (.slice Aq kq cq) 32)
    have K8 := Lib.hid (HKE.out.go U3.out.2.2)
    have HB9 := Lib.hid (btwo HBE.out U3.out.2.2)
    obtain ⟨e0, e1, e2⟩ := err_cells K8.out (.cells #[.slice Aq kq cq] 30) (.cells #[.bool sb, .slice Ap kp cp, .slice Aq kq cq] 32)
    have E0 := Lib.hid e0
    have E1 := Lib.hid e1
    have E2 := Lib.hid e2
    clear e0 e1 e2
    obtain ⟨j0, j1, j2, j3, j4, j5, j6⟩ := K8.out.facts
    go_wp2_with fail
    refine bodyPost_ret (v := .tuple #[.agg #[.bool false, .slice none 0 0, .slice none 0 0], .int .i64 2]) ?_ rfl ?_
    · simp [results, Tryz.results15, go_sem, E0.out, E1.out, E2.out]
    · exact fr_err2 (Nat.le_refl _) HB9.out
  · have HD1 := Lib.hid (show (⟨#[49]⟩ : ByteArray) = ⟨(denOf l).toArray⟩ by unfold denOf; rw [if_neg hd])
    obtain ⟨td, htd⟩ : ∃ b : ByteArray, b = ⟨(Lib.cut (restOf l) [47]).2.1.toArray⟩ := ⟨_, rfl⟩
    have hdf : divOf l = false := by simpa using hd
    have CS := Lib.hid (fun (w : World) (h : Cutl w) => (show Calls Tryz.prog 33 #[.string ⟨(restOf l).toArray⟩, .string ⟨#[47]⟩] w fun e w' => e = .returned (.tuple #[.string ⟨(numOf l).toArray⟩, .string td, .bool false]) ∧ Below w.heap.size w w' by
      have h := cutS l w HRL.out h
      rw [hdf] at h
      rw [htd]; exact h))
    clear hd hdf htd
    clear hC hs hr hnl hdl hsb 
    go_enter Tryz.func15, Tryz.ntmps15
    go_wp2_with fail
    refine (CP.out _).mono ?_
    rintro e w' ⟨rfl, rfl⟩
    go_wp2_with fail
    refine (CS.out _ HC.out).mono ?_
    rintro e w1 ⟨rfl, b1⟩
    have V1 := Lib.hid (V0.out.go b1)
    clear b1
    go_wp2_with fail
    refine (HPN.out _ _ rfl).mono ?_
    rintro e w2 ⟨Ap, cp, kp, rfl, n2, b2⟩
    have U2 := Lib.hid ((V1.out.go b2).num n2)
    clear n2 b2
    have V2 := Lib.hid (U2.out.new (.slice Ap kp cp) 30)
    go_wp2_with fail
    refine (HPD.out _ _ HD1.out).mono ?_
    rintro e w3 ⟨Aq, cq, kq, xq, rfl, eqa, eqb, b3⟩
    have U3 := Lib.hid (V2.out.go b3)
    clear b3
    obtain ⟨x3_p, y3_p⟩ := U3.out.box (.head _)
    have V3 := Lib.hid (U3.out.new (.slice Aq kq cq) 30)
    have V3f := Lib.hid (U3.out.new1F (.slice Aq kq cq) 30 (.bool sb) (.slice Ap kp cp) (.slice Aq kq cq) 32)
    have K8 := Lib.hid (HKE.out.go U3.out.2.2)
    have HB9 := Lib.hid (btwo HBE.out U3.out.2.2)
    obtain ⟨e0, e1, e2⟩ := err_cells K8.out (.cells #[.slice Aq kq cq] 30) (.cells #[.bool sb, .slice Ap kp cp, .slice Aq kq cq] 32)
    have E0 := Lib.hid e0
    have E1 := Lib.hid e1
    have E2 := Lib.hid e2
    clear e0 e1 e2
    obtain ⟨j0, j1, j2, j3, j4, j5, j6⟩ := K8.out.facts
    go_wp2_with fail
    refine bodyPost_ret (v := .tuple #[.agg #[.bool false, .slice none 0 0, .slice none 0 0], .int .i64 2]) ?_ rfl ?_
    · simp [results, Tryz.results15, go_sem, E0.out, E1.out, E2.out]
    · exact fr_err2 (Nat.le_refl _) HB9.out
set_option maxHeartbeats 8000000 in
theorem fparse_bad3 (l : List UInt8) (W : World) (hs : l.length ≤ 100000) (hC : Cutl W) (hn : isTB (numOf l) = true ∧ ¬ 800 < (numOf l).length) (hk : isTB (denOf l) = true ∧ ¬ 800 < (denOf l).length) (hdv : divOf l = true) (hone : decV (denOf l) = 1) :
    Calls Tryz.prog 15 #[.string ⟨l.toArray⟩] W (FrErr 2 W) := by
  have HC := Lib.hid (hC.below (w' := W.alloc (.cells #[.bool false, .slice none 0 0, .slice none 0 0] 32)) one_new)
  have HBE := Lib.hid (show Below W.heap.size W (W.alloc (.cells #[.bool false, .slice none 0 0, .slice none 0 0] 32)) from one_new)
  have HKE := Lib.hid (keptF_new W)
  have V0 := Lib.hid (LiveA.start (W.alloc (.cells #[.bool false, .slice none 0 0, .slice none 0 0] 32)))
  have hr : (restOf l).length ≤ l.length := by
    unfold restOf Lib.trimPrefix; split
    · rw [List.length_drop]; omega
    · omega
  have HRL := Lib.hid (show (restOf l).length < 4294967281 by omega)
  obtain ⟨hnl, hdl⟩ := cut_len l
  obtain ⟨sb, hsb⟩ : ∃ b, b = negOf l := ⟨_, rfl⟩
  have CP := Lib.hid (fun (w : World) => (show Calls Tryz.prog 32 #[.string ⟨l.toArray⟩, .string ⟨#[45]⟩] w fun e w' => e = .returned (.tuple #[.string ⟨(restOf l).toArray⟩, .bool sb]) ∧ w = w' by
    have h := cutP ⟨l.toArray⟩ w
    dsimp only at h
    rw [hsb]; exact h))
  obtain ⟨p, hp⟩ : ∃ p, p = decV (numOf l) := ⟨_, rfl⟩
  have HPN := Lib.hid (fun (b : ByteArray) (w : World) (hb : b = ⟨(numOf l).toArray⟩) => (show Calls Tryz.prog 34 #[.string b] w (ValPost p w) by rw [hp]; exact parse_num _ b w hb hn.1 hn.2))
  obtain ⟨q, hq⟩ : ∃ q, q = decV (denOf l) := ⟨_, rfl⟩
  have HPD := Lib.hid (fun (b : ByteArray) (w : World) (hb : b = ⟨(denOf l).toArray⟩) => (show Calls Tryz.prog 34 #[.string b] w (ValPost q w) by rw [hq]; exact parse_num _ b w hb hk.1 hk.2))
  have hq1 : q = 1 := by rw [hq]; exact hone
  clear hn hk hp hq hone
  by_cases hd : divOf l = true
  · have CS := Lib.hid (fun (w : World) (h : Cutl w) => (show Calls Tryz.prog 33 #[.string ⟨(restOf l).toArray⟩, .string ⟨#[47]⟩] w fun e w' => e = .returned (.tuple #[.string ⟨(numOf l).toArray⟩, .string ⟨(denOf l).toArray⟩, .bool true]) ∧ Below w.heap.size w w' by
      have h := cutS l w HRL.out h
      rw [hd] at h
      unfold denOf; rw [if_pos hd]; exact h))
    clear hC hs hr hnl hdl hsb 
    clear hd hdv
    go_enter Tryz.func15, Tryz.ntmps15
    go_wp2_with fail
    refine (CP.out _).mono ?_
    rintro e w' ⟨rfl, rfl⟩
    go_wp2_with fail
    refine (CS.out _ HC.out).mono ?_
    rintro e w1 ⟨rfl, b1⟩
    have V1 := Lib.hid (V0.out.go b1)
    clear b1
    go_wp2_with fail
    refine (HPN.out _ _ rfl).mono ?_
    rintro e w2 ⟨Ap, cp, kp, rfl, n2, b2⟩
    have U2 := Lib.hid ((V1.out.go b2).num n2)
    clear n2 b2
    have V2 := Lib.hid (U2.out.new (.slice Ap kp cp) 30)
    go_wp2_with fail
    refine (HPD.out _ _ rfl).mono ?_
    rintro e w3 ⟨Aq, cq, kq, rfl, n3, b3⟩
    have U3 := Lib.hid ((V2.out.go b3).num n3)
    clear n3 b3
    obtain ⟨x3_p, y3_p⟩ := U3.out.box (.head _)
    have V3 := Lib.hid (U3.out.new (.slice Aq kq cq) 30)
    have V3f := Lib.hid (U3.out.new1F (.slice Aq kq cq) 30 (.bool sb) (.slice Ap kp cp) (.slice Aq kq cq) 32)
    go_wp2_with fail
    refine (isOne_t kq cq _ Aq _ (V3f.out.at (.head _)) hq1).mono ?_
    rintro e w4 ⟨rfl, b4⟩
    clear x3_p y3_p
    have V4 := Lib.hid (V3f.out.go b4)
    clear b4
    have K9 := Lib.hid (HKE.out.go V4.out.2.2)
    have HB9 := Lib.hid (btwo HBE.out V4.out.2.2)
    obtain ⟨k0, k1, k2, k3, k4, k5, k6⟩ := K9.out.facts
    go_wp2_with fail
    refine bodyPost_ret (v := .tuple #[.agg #[.bool false, .slice none 0 0, .slice none 0 0], .int .i64 2]) ?_ rfl ?_
    · simp [results, Tryz.results15, go_sem, k0, k1, k2]
    · exact fr_err (Nat.le_refl _) HB9.out
  · exact absurd hdv hd
set_option maxHeartbeats 8000000 in
theorem fparse_bad4 (l : List UInt8) (W : World) (hs : l.length ≤ 100000) (hC : Cutl W) (hn : isTB (numOf l) = true ∧ ¬ 800 < (numOf l).length) (hk : isTB (denOf l) = true ∧ ¬ 800 < (denOf l).length) (hd1 : ¬ (divOf l = true ∧ decV (denOf l) = 1)) (hv : ¬ (0 < decV (denOf l) ∧ gcdI (decV (numOf l)) (decV (denOf l)) = 1 ∧ (negOf l = true → 0 < decV (numOf l)))) :
    Calls Tryz.prog 15 #[.string ⟨l.toArray⟩] W (FrErr 2 W) := by
  have HC := Lib.hid (hC.below (w' := W.alloc (.cells #[.bool false, .slice none 0 0, .slice none 0 0] 32)) one_new)
  have HBE := Lib.hid (show Below W.heap.size W (W.alloc (.cells #[.bool false, .slice none 0 0, .slice none 0 0] 32)) from one_new)
  have HKE := Lib.hid (keptF_new W)
  have V0 := Lib.hid (LiveA.start (W.alloc (.cells #[.bool false, .slice none 0 0, .slice none 0 0] 32)))
  have hr : (restOf l).length ≤ l.length := by
    unfold restOf Lib.trimPrefix; split
    · rw [List.length_drop]; omega
    · omega
  have HRL := Lib.hid (show (restOf l).length < 4294967281 by omega)
  obtain ⟨hnl, hdl⟩ := cut_len l
  obtain ⟨sb, hsb⟩ : ∃ b, b = negOf l := ⟨_, rfl⟩
  have CP := Lib.hid (fun (w : World) => (show Calls Tryz.prog 32 #[.string ⟨l.toArray⟩, .string ⟨#[45]⟩] w fun e w' => e = .returned (.tuple #[.string ⟨(restOf l).toArray⟩, .bool sb]) ∧ w = w' by
    have h := cutP ⟨l.toArray⟩ w
    dsimp only at h
    rw [hsb]; exact h))
  obtain ⟨p, hp⟩ : ∃ p, p = decV (numOf l) := ⟨_, rfl⟩
  have HPN := Lib.hid (fun (b : ByteArray) (w : World) (hb : b = ⟨(numOf l).toArray⟩) => (show Calls Tryz.prog 34 #[.string b] w (ValPost p w) by rw [hp]; exact parse_num _ b w hb hn.1 hn.2))
  obtain ⟨q, hq⟩ : ∃ q, q = decV (denOf l) := ⟨_, rfl⟩
  have HPD := Lib.hid (fun (b : ByteArray) (w : World) (hb : b = ⟨(denOf l).toArray⟩) => (show Calls Tryz.prog 34 #[.string b] w (ValPost q w) by rw [hq]; exact parse_num _ b w hb hk.1 hk.2))
  rw [← hp, ← hq, ← hsb] at hv
  rw [← hq] at hd1
  have HV := Lib.hid hv
  clear hn hk hp hq hv
  by_cases hd : divOf l = true
  · have CS := Lib.hid (fun (w : World) (h : Cutl w) => (show Calls Tryz.prog 33 #[.string ⟨(restOf l).toArray⟩, .string ⟨#[47]⟩] w fun e w' => e = .returned (.tuple #[.string ⟨(numOf l).toArray⟩, .string ⟨(denOf l).toArray⟩, .bool true]) ∧ Below w.heap.size w w' by
      have h := cutS l w HRL.out h
      rw [hd] at h
      unfold denOf; rw [if_pos hd]; exact h))
    have hq1 := Lib.hid (fun e => hd1 ⟨hd, e⟩)
    clear hC hs hr hnl hdl hsb hd1
    clear hd
    go_enter Tryz.func15, Tryz.ntmps15
    go_wp2_with fail
    refine (CP.out _).mono ?_
    rintro e w' ⟨rfl, rfl⟩
    go_wp2_with fail
    refine (CS.out _ HC.out).mono ?_
    rintro e w1 ⟨rfl, b1⟩
    have V1 := Lib.hid (V0.out.go b1)
    clear b1
    go_wp2_with fail
    refine (HPN.out _ _ rfl).mono ?_
    rintro e w2 ⟨Ap, cp, kp, rfl, n2, b2⟩
    have U2 := Lib.hid ((V1.out.go b2).num n2)
    clear n2 b2
    have V2 := Lib.hid (U2.out.new (.slice Ap kp cp) 30)
    go_wp2_with fail
    refine (HPD.out _ _ rfl).mono ?_
    rintro e w3 ⟨Aq, cq, kq, rfl, n3, b3⟩
    have U3 := Lib.hid ((V2.out.go b3).num n3)
    clear n3 b3
    obtain ⟨x3_p, y3_p⟩ := U3.out.box (.head _)
    have V3 := Lib.hid (U3.out.new (.slice Aq kq cq) 30)
    have V3f := Lib.hid (U3.out.new1F (.slice Aq kq cq) 30 (.bool sb) (.slice Ap kp cp) (.slice Aq kq cq) 32)
    go_wp2_with fail
    refine (isOne_f kq cq _ Aq _ (V3f.out.at (.head _)) hq1.out).mono ?_
    rintro e w4 ⟨rfl, b4⟩
    clear x3_p y3_p
    have V4 := Lib.hid (V3f.out.go b4)
    clear b4
    obtain ⟨x4_f2, y4_f2⟩ := V4.out.box (.head _)
    obtain ⟨x4_f1, y4_f1⟩ := V4.out.box (.tail _ (.head _))
    obtain ⟨x4_f0, y4_f0⟩ := V4.out.box (.tail _ (.tail _ (.head _)))
    go_wp2_with fail
    refine (fvalid_f sb kp cp kq cq _ _ Ap Aq _ (V4.out.at (.tail _ (.head _))) (V4.out.at (.head _)) HV.out).mono ?_
    rintro e w5 ⟨rfl, b5⟩
    clear x4_f2 y4_f2 x4_f1 y4_f1 x4_f0 y4_f0
    have V5 := Lib.hid (V4.out.go b5)
    clear b5
    have K9 := Lib.hid (HKE.out.go V5.out.2.2)
    have HB9 := Lib.hid (btwo HBE.out V5.out.2.2)
    obtain ⟨k0, k1, k2, k3, k4, k5, k6⟩ := K9.out.facts
    go_wp2_with fail
    refine bodyPost_ret (v := .tuple #[.agg #[.bool false, .slice none 0 0, .slice none 0 0], .int .i64 2]) ?_ rfl ?_
    · simp [results, Tryz.results15, go_sem, k0, k1, k2]
    · exact fr_err (Nat.le_refl _) HB9.out
  · have HD1 := Lib.hid (show (⟨#[49]⟩ : ByteArray) = ⟨(denOf l).toArray⟩ by unfold denOf; rw [if_neg hd])
    obtain ⟨td, htd⟩ : ∃ b : ByteArray, b = ⟨(Lib.cut (restOf l) [47]).2.1.toArray⟩ := ⟨_, rfl⟩
    have hdf : divOf l = false := by simpa using hd
    have CS := Lib.hid (fun (w : World) (h : Cutl w) => (show Calls Tryz.prog 33 #[.string ⟨(restOf l).toArray⟩, .string ⟨#[47]⟩] w fun e w' => e = .returned (.tuple #[.string ⟨(numOf l).toArray⟩, .string td, .bool false]) ∧ Below w.heap.size w w' by
      have h := cutS l w HRL.out h
      rw [hdf] at h
      rw [htd]; exact h))
    clear hd hdf htd
    clear hC hs hr hnl hdl hsb hd1
    go_enter Tryz.func15, Tryz.ntmps15
    go_wp2_with fail
    refine (CP.out _).mono ?_
    rintro e w' ⟨rfl, rfl⟩
    go_wp2_with fail
    refine (CS.out _ HC.out).mono ?_
    rintro e w1 ⟨rfl, b1⟩
    have V1 := Lib.hid (V0.out.go b1)
    clear b1
    go_wp2_with fail
    refine (HPN.out _ _ rfl).mono ?_
    rintro e w2 ⟨Ap, cp, kp, rfl, n2, b2⟩
    have U2 := Lib.hid ((V1.out.go b2).num n2)
    clear n2 b2
    have V2 := Lib.hid (U2.out.new (.slice Ap kp cp) 30)
    go_wp2_with fail
    refine (HPD.out _ _ HD1.out).mono ?_
    rintro e w3 ⟨Aq, cq, kq, rfl, n3, b3⟩
    have U3 := Lib.hid ((V2.out.go b3).num n3)
    clear n3 b3
    obtain ⟨x3_p, y3_p⟩ := U3.out.box (.head _)
    have V3 := Lib.hid (U3.out.new (.slice Aq kq cq) 30)
    have V3f := Lib.hid (U3.out.new1F (.slice Aq kq cq) 30 (.bool sb) (.slice Ap kp cp) (.slice Aq kq cq) 32)
    go_wp2_with fail
    refine (fvalid_f sb kp cp kq cq _ _ Ap Aq _ (V3f.out.at (.tail _ (.head _))) (V3f.out.at (.head _)) HV.out).mono ?_
    rintro e w4 ⟨rfl, b4⟩
    clear x3_p y3_p
    have V4 := Lib.hid (V3f.out.go b4)
    clear b4
    have K9 := Lib.hid (HKE.out.go V4.out.2.2)
    have HB9 := Lib.hid (btwo HBE.out V4.out.2.2)
    obtain ⟨k0, k1, k2, k3, k4, k5, k6⟩ := K9.out.facts
    go_wp2_with fail
    refine bodyPost_ret (v := .tuple #[.agg #[.bool false, .slice none 0 0, .slice none 0 0], .int .i64 2]) ?_ rfl ?_
    · simp [results, Tryz.results15, go_sem, k0, k1, k2]
    · exact fr_err (Nat.le_refl _) HB9.out
end Go.Proofs.YtkfkefgkepoaaaaGreatDoor
/- Contracts of the reference's Small and Valid of fractions. -/
namespace Go.Proofs.YtkfkefgkepoaaaaGreatDoor
open Go.RowKit
set_option linter.unusedVariables false
set_option maxRecDepth 100000

theorem rof_num (N : Int) (W : World) (h0 : 0 ≤ N) (h1 : N ≤ 9223372036854775807) : Calls Tryz.prog 93 #[.int .i64 N] W (ValPost N W) := by
  have hl : (digs N).length ≤ 5 := digs_len_le (n := N) (k := 5) (by rw [pw5]; omega)
  have hv : ofV N = (N, 0) := by unfold ofV; rw [if_neg (by omega)]
  exact (rof_any N W h1).mono fun e w' h => val_post h hv h0 (by omega)
theorem made_store {W w : World} {g : Nat} {x : Int} {A : Option Addr} {k c : Nat} (hg : w.heap[g]? = some (.cells #[.slice none 0 0] 30 (0, 0))) (hW : W.heap.size ≤ g) (hx : NumAt w (.slice A k c) x) (hb : Below W.heap.size W w) :
    MadeNum x W (.returned (.agg #[.slice A k c])) (w.setCell ⟨g, 0, none⟩ (.slice A k c)) := by
  obtain ⟨h0, A', c', e, hi, h1, h2, h3⟩ := hx
  exact ⟨A, c, k, rfl, ⟨h0, A', c', e, hi.store (x := .slice none 0 0) hg, h1, h2, h3⟩, hb.setCell (p := ⟨g, 0, none⟩) hW _⟩
set_option maxHeartbeats 2000000 in
theorem rsmall_num (N : Int) (W : World) (h0 : 0 ≤ N) (h1 : N ≤ 1000000000000000) : Calls Tryz.prog 76 #[.int .i64 N] W (MadeNum N W) := by
  have HK := Lib.hid (show KeptAt W.heap.size (W.alloc (.cells #[.slice none 0 0] 30)) from heap_alloc_new W _)
  have HBE := Lib.hid (show Below W.heap.size W (W.alloc (.cells #[.slice none 0 0] 30)) from one_new)
  have V0 := Lib.hid (LiveA.start (W.alloc (.cells #[.slice none 0 0] 30)))
  go_enter Tryz.func76, Tryz.ntmps76
  go_wp2_with fail
  refine (rof_num N _ h0 (by omega)).mono ?_
  rintro e w1 ⟨Aa, ca, ka, rfl, n1, b1⟩
  have U1 := Lib.hid ((V0.out.go b1).num n1)
  clear n1 b1
  have V1 := Lib.hid (U1.out.new (.slice Aa ka ca) 30)
  obtain ⟨q1, q2, q3, q4⟩ := kept_old HK.out (by simp) V1.out.2.2
  have HQ1 := Lib.hid q1
  clear q1
  have HB := Lib.hid (btwo HBE.out V1.out.2.2)
  go_wp2_with fail
  refine bodyPost_ret (v := .agg #[.slice Aa ka ca]) ?_ rfl ?_
  · simp [results, Tryz.results76, go_sem, q2]
  · exact made_store HQ1.out (Nat.le_refl _) (V1.out.at (.head _)) HB.out
set_option maxHeartbeats 2000000 in
theorem rSmall_num (N : Int) (W : World) (h0 : 0 ≤ N) (h1 : N ≤ 1000000000000000) : Calls Tryz.prog 43 #[.int .i64 N] W (MadeNum N W) := by
  have HK := Lib.hid (show KeptAt W.heap.size (W.alloc (.cells #[.slice none 0 0] 30)) from heap_alloc_new W _)
  have HBE := Lib.hid (show Below W.heap.size W (W.alloc (.cells #[.slice none 0 0] 30)) from one_new)
  have V0 := Lib.hid (LiveA.start (W.alloc (.cells #[.slice none 0 0] 30)))
  have e1 : max N 0 = N := by omega
  go_enter Tryz.func43, Tryz.ntmps43
  go_wp2_with fail
  refine (rsmall_num N _ h0 h1).mono ?_
  rintro e w1 ⟨Aa, ca, ka, rfl, n1, b1⟩
  have U1 := Lib.hid ((V0.out.go b1).num n1)
  clear n1 b1
  obtain ⟨q1, q2, q3, q4⟩ := kept_old HK.out (by simp) U1.out.2.2
  have HQ1 := Lib.hid q1
  clear q1
  have HB := Lib.hid (btwo HBE.out U1.out.2.2)
  go_wp2_with fail
  refine bodyPost_ret (v := .agg #[.slice Aa ka ca]) ?_ rfl ?_
  · simp [results, Tryz.results43, go_sem, q2]
  · exact made_store HQ1.out (Nat.le_refl _) (U1.out.at (.head _)) HB.out
theorem rvalid_num (n c : Nat) (x : Int) (A : Option Addr) (w : World) (h : NumAt w (.slice A n c) x) : Calls Tryz.prog 40 #[.agg #[.slice A n c]] w fun e w' => e = .returned (.bool true) ∧ Below w.heap.size w w' := by
  obtain ⟨a1, a2, a3, a4, a5, a6, a7, a8⟩ := num_in h
  have := rvalid_any (digs x) n c A w a1 a3 a5
  rwa [a6] at this
theorem same_numF (n c m d : Nat) (x y : Int) (A B : Option Addr) (w : World) (h : NumAt w (.slice A n c) x) (k : NumAt w (.slice B m d) y) (hxy : ¬ x = y) :
    Calls Tryz.prog 23 #[.agg #[.slice A n c], .agg #[.slice B m d]] w fun e w' => e = .returned (.bool false) ∧ Below w.heap.size w w' := by
  have := same_numB n c m d x y A B w h k
  rwa [decide_eq_false hxy] at this
set_option maxHeartbeats 2000000 in
theorem rfvalid_bad (s : Bool) (L M : List Int) (n c m d : Nat) (A B : Option Addr) (W : World) (hn : L.length = n) (hm : M.length = m) (hnc : n ≤ c) (hmd : m ≤ d) (hc63 : c ≤ maxLen) (hd63 : d ≤ maxLen) (hA : IntsIn W A L) (hB : IntsIn W B M) (hv : ¬ (vldB L = true ∧ vldB M = true)) :
    Calls Tryz.prog 20 #[.agg #[.bool s, .slice A n c, .slice B m d]] W fun e w' => e = .returned (.bool false) ∧ Below W.heap.size W w' := by
  have V0 := Lib.hid ((LiveA.start W).newF (.bool s) (.slice A n c) (.slice B m d) 32)
  have B0 : Below W.heap.size W (W.alloc (.cells #[.bool s, .slice A n c, .slice B m d] 32)) := (Below.refl _ _).alloc (Nat.le_refl _) _
  have HA := Lib.hid (hA.below B0)
  have HB := Lib.hid (hB.below B0)
  have HN := Lib.hid hn
  have HM := Lib.hid hm
  have hn63 : n ≤ maxLen := Nat.le_trans hnc hc63
  have hm63 : m ≤ maxLen := Nat.le_trans hmd hd63
  clear hA hB B0 hn hm
  by_cases h1 : vldB L = true
  · have h2 : vldB M = false := by
      by_cases c : vldB M = true
      · exact absurd ⟨h1, c⟩ hv
      · simpa using c
    have H1 := Lib.hid h1
    have H2 := Lib.hid h2
    clear h1 h2 hv
    go_enter Tryz.func20, Tryz.ntmps20
    go_wp2_with fail
    refine (rvalid_any L n c A _ HN.out hn63 HA.out).mono ?_
    rintro e w1 ⟨rfl, b1⟩
    rw [H1.out]
    have V1 := Lib.hid (V0.out.go b1)
    have HB1 := Lib.hid b1
    clear b1
    obtain ⟨x1_f2, y1_f2⟩ := V1.out.box (.head _)
    go_wp2_with fail
    refine (rvalid_any M m d B _ HM.out hm63 (HB.out.below HB1.out)).mono ?_
    rintro e w2 ⟨rfl, b2⟩
    rw [H2.out]
    have V2 := Lib.hid (V1.out.go b2)
    clear b2 x1_f2 y1_f2
    go_wp2_with fail
    go_ret
    exact ⟨rfl, V2.out.2.2⟩
  · have H1 := Lib.hid (show vldB L = false by simpa using h1)
    clear h1 hv
    go_enter Tryz.func20, Tryz.ntmps20
    go_wp2_with fail
    refine (rvalid_any L n c A _ HN.out hn63 HA.out).mono ?_
    rintro e w1 ⟨rfl, b1⟩
    rw [H1.out]
    have V1 := Lib.hid (V0.out.go b1)
    clear b1
    go_wp2_with fail
    go_ret
    exact ⟨rfl, V1.out.2.2⟩
set_option maxHeartbeats 4000000 in
theorem rfvalid_num (s : Bool) (n c m d : Nat) (x y : Int) (A B : Option Addr) (W : World) (hx : NumAt W (.slice A n c) x) (hy : NumAt W (.slice B m d) y) :
    Calls Tryz.prog 20 #[.agg #[.bool s, .slice A n c, .slice B m d]] W fun e w' => e = .returned (.bool (decide (0 < y ∧ gcdI x y = 1 ∧ (s = true → 0 < x)))) ∧ Below W.heap.size W w' := by
  have V0 := Lib.hid ((((LiveA.start W).num hy).num hx).newF (.bool s) (.slice A n c) (.slice B m d) 32)
  have PX := hx.1
  have PY := hy.1
  clear hx hy
  by_cases hy0 : y = 0
  · rw [decide_eq_false (show ¬ (0 < y ∧ gcdI x y = 1 ∧ (s = true → 0 < x)) by omega)]
    go_enter Tryz.func20, Tryz.ntmps20
    go_wp2_with fail
    refine (rvalid_num n c _ A _ (V0.out.at (.head _))).mono ?_
    rintro e w1 ⟨rfl, b1⟩
    have V1 := Lib.hid (V0.out.go b1)
    clear b1
    obtain ⟨x1_f2, y1_f2⟩ := V1.out.box (.head _)
    obtain ⟨x1_f1, y1_f1⟩ := V1.out.box (.tail _ (.head _))
    obtain ⟨x1_f0, y1_f0⟩ := V1.out.box (.tail _ (.tail _ (.head _)))
    go_wp2_with fail
    refine (rvalid_num m d _ B _ (V1.out.at (.tail _ (.head _)))).mono ?_
    rintro e w2 ⟨rfl, b2⟩
    clear x1_f2 y1_f2 x1_f1 y1_f1 x1_f0 y1_f0
    have V2 := Lib.hid (V1.out.go b2)
    clear b2
    obtain ⟨x2_f2, y2_f2⟩ := V2.out.box (.head _)
    obtain ⟨x2_f1, y2_f1⟩ := V2.out.box (.tail _ (.head _))
    obtain ⟨x2_f0, y2_f0⟩ := V2.out.box (.tail _ (.tail _ (.head _)))
    go_wp2_with fail
    refine (rzero_t m d _ B _ (V2.out.at (.tail _ (.head _))) hy0).mono ?_
    rintro e w3 ⟨rfl, b3⟩
    clear x2_f2 y2_f2 x2_f1 y2_f1 x2_f0 y2_f0
    have V3 := Lib.hid (V2.out.go b3)
    clear b3
    go_wp2_with fail
    go_ret
    exact ⟨rfl, V3.out.2.2⟩
  · have hy1 : 0 < y := by omega
    by_cases hxs : s = true ∧ x = 0
    · obtain ⟨rfl, hx0⟩ := hxs
      rw [decide_eq_false (show ¬ (0 < y ∧ gcdI x y = 1 ∧ (true = true → 0 < x)) from fun h => by have := h.2.2 rfl; omega)]
      go_enter Tryz.func20, Tryz.ntmps20
      go_wp2_with fail
      refine (rvalid_num n c _ A _ (V0.out.at (.head _))).mono ?_
      rintro e w1 ⟨rfl, b1⟩
      have V1 := Lib.hid (V0.out.go b1)
      clear b1
      obtain ⟨x1_f2, y1_f2⟩ := V1.out.box (.head _)
      obtain ⟨x1_f1, y1_f1⟩ := V1.out.box (.tail _ (.head _))
      obtain ⟨x1_f0, y1_f0⟩ := V1.out.box (.tail _ (.tail _ (.head _)))
      go_wp2_with fail
      refine (rvalid_num m d _ B _ (V1.out.at (.tail _ (.head _)))).mono ?_
      rintro e w2 ⟨rfl, b2⟩
      clear x1_f2 y1_f2 x1_f1 y1_f1 x1_f0 y1_f0
      have V2 := Lib.hid (V1.out.go b2)
      clear b2
      obtain ⟨x2_f2, y2_f2⟩ := V2.out.box (.head _)
      obtain ⟨x2_f1, y2_f1⟩ := V2.out.box (.tail _ (.head _))
      obtain ⟨x2_f0, y2_f0⟩ := V2.out.box (.tail _ (.tail _ (.head _)))
      go_wp2_with fail
      refine (rzero_f m d _ B _ (V2.out.at (.tail _ (.head _))) hy1).mono ?_
      rintro e w3 ⟨rfl, b3⟩
      clear x2_f2 y2_f2 x2_f1 y2_f1 x2_f0 y2_f0
      have V3 := Lib.hid (V2.out.go b3)
      clear b3
      obtain ⟨x3_f0, y3_f0⟩ := V3.out.box (.tail _ (.tail _ (.head _)))
      obtain ⟨x3_f1, y3_f1⟩ := V3.out.box (.tail _ (.head _))
      obtain ⟨x3_f2, y3_f2⟩ := V3.out.box (.head _)
      go_wp2_with fail
      refine (rzero_t n c _ A _ (V3.out.at (.head _)) hx0).mono ?_
      rintro e w4 ⟨rfl, b4⟩
      clear x3_f0 y3_f0 x3_f1 y3_f1 x3_f2 y3_f2
      have V4 := Lib.hid (V3.out.go b4)
      clear b4
      obtain ⟨x4_f0, y4_f0⟩ := V4.out.box (.tail _ (.tail _ (.head _)))
      go_wp2_with fail
      go_ret
      exact ⟨rfl, V4.out.2.2⟩
    · by_cases hg : gcdI x y = 1
      · rw [decide_eq_true (show 0 < y ∧ gcdI x y = 1 ∧ (s = true → 0 < x) from ⟨hy1, hg, fun h => by
          by_cases c : x = 0
          · exact absurd ⟨h, c⟩ hxs
          · omega⟩)]
        have HG := Lib.hid hg
        clear hg
        by_cases hx0 : x = 0
        · have hs : s = false := by
            cases s with
            | false => rfl
            | true => exact absurd ⟨rfl, hx0⟩ hxs
          subst hs
          clear hxs
          go_enter Tryz.func20, Tryz.ntmps20
          go_wp2_with fail
          refine (rvalid_num n c _ A _ (V0.out.at (.head _))).mono ?_
          rintro e w1 ⟨rfl, b1⟩
          have V1 := Lib.hid (V0.out.go b1)
          clear b1
          obtain ⟨x1_f2, y1_f2⟩ := V1.out.box (.head _)
          obtain ⟨x1_f1, y1_f1⟩ := V1.out.box (.tail _ (.head _))
          obtain ⟨x1_f0, y1_f0⟩ := V1.out.box (.tail _ (.tail _ (.head _)))
          go_wp2_with fail
          refine (rvalid_num m d _ B _ (V1.out.at (.tail _ (.head _)))).mono ?_
          rintro e w2 ⟨rfl, b2⟩
          clear x1_f2 y1_f2 x1_f1 y1_f1 x1_f0 y1_f0
          have V2 := Lib.hid (V1.out.go b2)
          clear b2
          obtain ⟨x2_f2, y2_f2⟩ := V2.out.box (.head _)
          obtain ⟨x2_f1, y2_f1⟩ := V2.out.box (.tail _ (.head _))
          obtain ⟨x2_f0, y2_f0⟩ := V2.out.box (.tail _ (.tail _ (.head _)))
          go_wp2_with fail
          refine (rzero_f m d _ B _ (V2.out.at (.tail _ (.head _))) hy1).mono ?_
          rintro e w3 ⟨rfl, b3⟩
          clear x2_f2 y2_f2 x2_f1 y2_f1 x2_f0 y2_f0
          have V3 := Lib.hid (V2.out.go b3)
          clear b3
          obtain ⟨x3_f0, y3_f0⟩ := V3.out.box (.tail _ (.tail _ (.head _)))
          obtain ⟨x3_f1, y3_f1⟩ := V3.out.box (.tail _ (.head _))
          obtain ⟨x3_f2, y3_f2⟩ := V3.out.box (.head _)
          go_wp2_with fail
          refine (rzero_t n c _ A _ (V3.out.at (.head _)) hx0).mono ?_
          rintro e w4 ⟨rfl, b4⟩
          clear x3_f0 y3_f0 x3_f1 y3_f1 x3_f2 y3_f2
          have V4 := Lib.hid (V3.out.go b4)
          clear b4
          obtain ⟨x4_f0, y4_f0⟩ := V4.out.box (.tail _ (.tail _ (.head _)))
          obtain ⟨x4_f1, y4_f1⟩ := V4.out.box (.tail _ (.head _))
          obtain ⟨x4_f2, y4_f2⟩ := V4.out.box (.head _)
          go_wp2_with fail
          refine (rgcd_num n c m d _ _ A B _ (V4.out.at (.head _)) (V4.out.at (.tail _ (.head _)))).mono ?_
          rintro e w5 ⟨Ag, cg, kg, rfl, n5, b5⟩
          clear x4_f0 y4_f0 x4_f1 y4_f1 x4_f2 y4_f2
          have U5 := Lib.hid ((V4.out.go b5).num n5)
          clear n5 b5
          have V5 := Lib.hid (U5.out.new (.slice Ag kg cg) 30)
          obtain ⟨wz, hwz⟩ : ∃ wz : World, wz = w5.alloc (.cells #[.slice Ag kg cg] 30) := ⟨_, rfl⟩
          have VZ := V5.out
          rw [← hwz] at VZ
          have HVZ := Lib.hid VZ
          have XG := Lib.hid (VZ.box (.head _))
          have NG := Lib.hid (VZ.at (.head _))
          go_upto_region 4 with fail
          rw [← hwz]
          clear hwz VZ
          obtain ⟨xg, yg⟩ := XG.out
          go_region_with (first | (go_at_call 43; (with_reducible refine (rSmall_num 1 _ (by omega) (by omega)).mono ?_); rintro e w8 ⟨Ao, co, ko, rfl, no8, b8⟩; have D8 : Below wz.heap.size wz w8 := btwo (by first | exact Below.refl _ _ | exact (Below.refl _ _).drew | exact bdr (Below.refl _ _) _ | exact bdr (Below.refl _ _).drew _) b8; obtain ⟨x8g, y8g⟩ := cell_old XG.out.1 XG.out.2 D8; have HD8 := Lib.hid D8; have NO8 := Lib.hid no8; clear D8 b8 no8) | (go_at_call 23; (with_reducible refine (same_num kg cg ko co _ _ Ag Ao _ (by first | exact NG.out.below HD8.out | exact NumAt.below (NG.out.below HD8.out) (Below.refl _ _).drew | exact NumAt.below (NG.out.below HD8.out) (bdr (Below.refl _ _) _)) (by first | exact NO8.out | exact NumAt.below (NO8.out) (Below.refl _ _).drew | exact NumAt.below (NO8.out) (bdr (Below.refl _ _) _)) HG.out).mono ?_); rintro e w9 ⟨rfl, b9⟩; have HD9 := Lib.hid (show Below wz.heap.size wz w9 from btwo (by first | exact HD8.out | exact btwo HD8.out (Below.refl _ _).drew | exact btwo HD8.out (bdr (Below.refl _ _) _)) b9); clear b9))
          all_goals (go_wp2_with fail)
          all_goals go_ret
          all_goals exact ⟨rfl, btwo HVZ.out.2.2 (by first | exact HD9.out | exact btwo HD9.out (Below.refl _ _).drew | exact btwo HD9.out (bdr (Below.refl _ _) _))⟩
        · have hx1 : 0 < x := by omega
          clear hxs
          go_enter Tryz.func20, Tryz.ntmps20
          go_wp2_with fail
          refine (rvalid_num n c _ A _ (V0.out.at (.head _))).mono ?_
          rintro e w1 ⟨rfl, b1⟩
          have V1 := Lib.hid (V0.out.go b1)
          clear b1
          obtain ⟨x1_f2, y1_f2⟩ := V1.out.box (.head _)
          obtain ⟨x1_f1, y1_f1⟩ := V1.out.box (.tail _ (.head _))
          obtain ⟨x1_f0, y1_f0⟩ := V1.out.box (.tail _ (.tail _ (.head _)))
          go_wp2_with fail
          refine (rvalid_num m d _ B _ (V1.out.at (.tail _ (.head _)))).mono ?_
          rintro e w2 ⟨rfl, b2⟩
          clear x1_f2 y1_f2 x1_f1 y1_f1 x1_f0 y1_f0
          have V2 := Lib.hid (V1.out.go b2)
          clear b2
          obtain ⟨x2_f2, y2_f2⟩ := V2.out.box (.head _)
          obtain ⟨x2_f1, y2_f1⟩ := V2.out.box (.tail _ (.head _))
          obtain ⟨x2_f0, y2_f0⟩ := V2.out.box (.tail _ (.tail _ (.head _)))
          go_wp2_with fail
          refine (rzero_f m d _ B _ (V2.out.at (.tail _ (.head _))) hy1).mono ?_
          rintro e w3 ⟨rfl, b3⟩
          clear x2_f2 y2_f2 x2_f1 y2_f1 x2_f0 y2_f0
          have V3 := Lib.hid (V2.out.go b3)
          clear b3
          obtain ⟨x3_f0, y3_f0⟩ := V3.out.box (.tail _ (.tail _ (.head _)))
          obtain ⟨x3_f1, y3_f1⟩ := V3.out.box (.tail _ (.head _))
          obtain ⟨x3_f2, y3_f2⟩ := V3.out.box (.head _)
          go_wp2_with fail
          refine (rzero_f n c _ A _ (V3.out.at (.head _)) hx1).mono ?_
          rintro e w4 ⟨rfl, b4⟩
          clear x3_f0 y3_f0 x3_f1 y3_f1 x3_f2 y3_f2
          have V4 := Lib.hid (V3.out.go b4)
          clear b4
          obtain ⟨x4_f0, y4_f0⟩ := V4.out.box (.tail _ (.tail _ (.head _)))
          obtain ⟨x4_f1, y4_f1⟩ := V4.out.box (.tail _ (.head _))
          obtain ⟨x4_f2, y4_f2⟩ := V4.out.box (.head _)
          go_wp2_with fail
          refine (rgcd_num n c m d _ _ A B _ (V4.out.at (.head _)) (V4.out.at (.tail _ (.head _)))).mono ?_
          rintro e w5 ⟨Ag, cg, kg, rfl, n5, b5⟩
          clear x4_f0 y4_f0 x4_f1 y4_f1 x4_f2 y4_f2
          have U5 := Lib.hid ((V4.out.go b5).num n5)
          clear n5 b5
          have V5 := Lib.hid (U5.out.new (.slice Ag kg cg) 30)
          obtain ⟨wz, hwz⟩ : ∃ wz : World, wz = w5.alloc (.cells #[.slice Ag kg cg] 30) := ⟨_, rfl⟩
          have VZ := V5.out
          rw [← hwz] at VZ
          have HVZ := Lib.hid VZ
          have XG := Lib.hid (VZ.box (.head _))
          have NG := Lib.hid (VZ.at (.head _))
          go_upto_region 4 with fail
          rw [← hwz]
          clear hwz VZ
          obtain ⟨xg, yg⟩ := XG.out
          go_region_with (first | (go_at_call 43; (with_reducible refine (rSmall_num 1 _ (by omega) (by omega)).mono ?_); rintro e w8 ⟨Ao, co, ko, rfl, no8, b8⟩; have D8 : Below wz.heap.size wz w8 := btwo (by first | exact Below.refl _ _ | exact (Below.refl _ _).drew | exact bdr (Below.refl _ _) _ | exact bdr (Below.refl _ _).drew _) b8; obtain ⟨x8g, y8g⟩ := cell_old XG.out.1 XG.out.2 D8; have HD8 := Lib.hid D8; have NO8 := Lib.hid no8; clear D8 b8 no8) | (go_at_call 23; (with_reducible refine (same_num kg cg ko co _ _ Ag Ao _ (by first | exact NG.out.below HD8.out | exact NumAt.below (NG.out.below HD8.out) (Below.refl _ _).drew | exact NumAt.below (NG.out.below HD8.out) (bdr (Below.refl _ _) _)) (by first | exact NO8.out | exact NumAt.below (NO8.out) (Below.refl _ _).drew | exact NumAt.below (NO8.out) (bdr (Below.refl _ _) _)) HG.out).mono ?_); rintro e w9 ⟨rfl, b9⟩; have HD9 := Lib.hid (show Below wz.heap.size wz w9 from btwo (by first | exact HD8.out | exact btwo HD8.out (Below.refl _ _).drew | exact btwo HD8.out (bdr (Below.refl _ _) _)) b9); clear b9))
          all_goals (go_wp2_with fail)
          all_goals go_ret
          all_goals exact ⟨rfl, btwo HVZ.out.2.2 (by first | exact HD9.out | exact btwo HD9.out (Below.refl _ _).drew | exact btwo HD9.out (bdr (Below.refl _ _) _))⟩
      · rw [decide_eq_false (show ¬ (0 < y ∧ gcdI x y = 1 ∧ (s = true → 0 < x)) from fun h => hg h.2.1)]
        by_cases hx0 : x = 0
        · have hs : s = false := by
            cases s with
            | false => rfl
            | true => exact absurd ⟨rfl, hx0⟩ hxs
          subst hs
          clear hxs
          go_enter Tryz.func20, Tryz.ntmps20
          go_wp2_with fail
          refine (rvalid_num n c _ A _ (V0.out.at (.head _))).mono ?_
          rintro e w1 ⟨rfl, b1⟩
          have V1 := Lib.hid (V0.out.go b1)
          clear b1
          obtain ⟨x1_f2, y1_f2⟩ := V1.out.box (.head _)
          obtain ⟨x1_f1, y1_f1⟩ := V1.out.box (.tail _ (.head _))
          obtain ⟨x1_f0, y1_f0⟩ := V1.out.box (.tail _ (.tail _ (.head _)))
          go_wp2_with fail
          refine (rvalid_num m d _ B _ (V1.out.at (.tail _ (.head _)))).mono ?_
          rintro e w2 ⟨rfl, b2⟩
          clear x1_f2 y1_f2 x1_f1 y1_f1 x1_f0 y1_f0
          have V2 := Lib.hid (V1.out.go b2)
          clear b2
          obtain ⟨x2_f2, y2_f2⟩ := V2.out.box (.head _)
          obtain ⟨x2_f1, y2_f1⟩ := V2.out.box (.tail _ (.head _))
          obtain ⟨x2_f0, y2_f0⟩ := V2.out.box (.tail _ (.tail _ (.head _)))
          go_wp2_with fail
          refine (rzero_f m d _ B _ (V2.out.at (.tail _ (.head _))) hy1).mono ?_
          rintro e w3 ⟨rfl, b3⟩
          clear x2_f2 y2_f2 x2_f1 y2_f1 x2_f0 y2_f0
          have V3 := Lib.hid (V2.out.go b3)
          clear b3
          obtain ⟨x3_f0, y3_f0⟩ := V3.out.box (.tail _ (.tail _ (.head _)))
          obtain ⟨x3_f1, y3_f1⟩ := V3.out.box (.tail _ (.head _))
          obtain ⟨x3_f2, y3_f2⟩ := V3.out.box (.head _)
          go_wp2_with fail
          refine (rzero_t n c _ A _ (V3.out.at (.head _)) hx0).mono ?_
          rintro e w4 ⟨rfl, b4⟩
          clear x3_f0 y3_f0 x3_f1 y3_f1 x3_f2 y3_f2
          have V4 := Lib.hid (V3.out.go b4)
          clear b4
          obtain ⟨x4_f0, y4_f0⟩ := V4.out.box (.tail _ (.tail _ (.head _)))
          obtain ⟨x4_f1, y4_f1⟩ := V4.out.box (.tail _ (.head _))
          obtain ⟨x4_f2, y4_f2⟩ := V4.out.box (.head _)
          go_wp2_with fail
          refine (rgcd_num n c m d _ _ A B _ (V4.out.at (.head _)) (V4.out.at (.tail _ (.head _)))).mono ?_
          rintro e w5 ⟨Ag, cg, kg, rfl, n5, b5⟩
          clear x4_f0 y4_f0 x4_f1 y4_f1 x4_f2 y4_f2
          have U5 := Lib.hid ((V4.out.go b5).num n5)
          clear n5 b5
          have V5 := Lib.hid (U5.out.new (.slice Ag kg cg) 30)
          obtain ⟨wz, hwz⟩ : ∃ wz : World, wz = w5.alloc (.cells #[.slice Ag kg cg] 30) := ⟨_, rfl⟩
          have VZ := V5.out
          rw [← hwz] at VZ
          have HVZ := Lib.hid VZ
          have XG := Lib.hid (VZ.box (.head _))
          have NG := Lib.hid (VZ.at (.head _))
          go_upto_region 4 with fail
          rw [← hwz]
          clear hwz VZ
          obtain ⟨xg, yg⟩ := XG.out
          go_region_with (first | (go_at_call 43; (with_reducible refine (rSmall_num 1 _ (by omega) (by omega)).mono ?_); rintro e w8 ⟨Ao, co, ko, rfl, no8, b8⟩; have D8 : Below wz.heap.size wz w8 := btwo (by first | exact Below.refl _ _ | exact (Below.refl _ _).drew | exact bdr (Below.refl _ _) _ | exact bdr (Below.refl _ _).drew _) b8; obtain ⟨x8g, y8g⟩ := cell_old XG.out.1 XG.out.2 D8; have HD8 := Lib.hid D8; have NO8 := Lib.hid no8; clear D8 b8 no8) | (go_at_call 23; (with_reducible refine (same_numF kg cg ko co _ _ Ag Ao _ (by first | exact NG.out.below HD8.out | exact NumAt.below (NG.out.below HD8.out) (Below.refl _ _).drew | exact NumAt.below (NG.out.below HD8.out) (bdr (Below.refl _ _) _)) (by first | exact NO8.out | exact NumAt.below (NO8.out) (Below.refl _ _).drew | exact NumAt.below (NO8.out) (bdr (Below.refl _ _) _)) hg).mono ?_); rintro e w9 ⟨rfl, b9⟩; have HD9 := Lib.hid (show Below wz.heap.size wz w9 from btwo (by first | exact HD8.out | exact btwo HD8.out (Below.refl _ _).drew | exact btwo HD8.out (bdr (Below.refl _ _) _)) b9); clear b9))
          all_goals (go_wp2_with fail)
          all_goals go_ret
          all_goals exact ⟨rfl, btwo HVZ.out.2.2 (by first | exact HD9.out | exact btwo HD9.out (Below.refl _ _).drew | exact btwo HD9.out (bdr (Below.refl _ _) _))⟩
        · have hx1 : 0 < x := by omega
          clear hxs
          go_enter Tryz.func20, Tryz.ntmps20
          go_wp2_with fail
          refine (rvalid_num n c _ A _ (V0.out.at (.head _))).mono ?_
          rintro e w1 ⟨rfl, b1⟩
          have V1 := Lib.hid (V0.out.go b1)
          clear b1
          obtain ⟨x1_f2, y1_f2⟩ := V1.out.box (.head _)
          obtain ⟨x1_f1, y1_f1⟩ := V1.out.box (.tail _ (.head _))
          obtain ⟨x1_f0, y1_f0⟩ := V1.out.box (.tail _ (.tail _ (.head _)))
          go_wp2_with fail
          refine (rvalid_num m d _ B _ (V1.out.at (.tail _ (.head _)))).mono ?_
          rintro e w2 ⟨rfl, b2⟩
          clear x1_f2 y1_f2 x1_f1 y1_f1 x1_f0 y1_f0
          have V2 := Lib.hid (V1.out.go b2)
          clear b2
          obtain ⟨x2_f2, y2_f2⟩ := V2.out.box (.head _)
          obtain ⟨x2_f1, y2_f1⟩ := V2.out.box (.tail _ (.head _))
          obtain ⟨x2_f0, y2_f0⟩ := V2.out.box (.tail _ (.tail _ (.head _)))
          go_wp2_with fail
          refine (rzero_f m d _ B _ (V2.out.at (.tail _ (.head _))) hy1).mono ?_
          rintro e w3 ⟨rfl, b3⟩
          clear x2_f2 y2_f2 x2_f1 y2_f1 x2_f0 y2_f0
          have V3 := Lib.hid (V2.out.go b3)
          clear b3
          obtain ⟨x3_f0, y3_f0⟩ := V3.out.box (.tail _ (.tail _ (.head _)))
          obtain ⟨x3_f1, y3_f1⟩ := V3.out.box (.tail _ (.head _))
          obtain ⟨x3_f2, y3_f2⟩ := V3.out.box (.head _)
          go_wp2_with fail
          refine (rzero_f n c _ A _ (V3.out.at (.head _)) hx1).mono ?_
          rintro e w4 ⟨rfl, b4⟩
          clear x3_f0 y3_f0 x3_f1 y3_f1 x3_f2 y3_f2
          have V4 := Lib.hid (V3.out.go b4)
          clear b4
          obtain ⟨x4_f0, y4_f0⟩ := V4.out.box (.tail _ (.tail _ (.head _)))
          obtain ⟨x4_f1, y4_f1⟩ := V4.out.box (.tail _ (.head _))
          obtain ⟨x4_f2, y4_f2⟩ := V4.out.box (.head _)
          go_wp2_with fail
          refine (rgcd_num n c m d _ _ A B _ (V4.out.at (.head _)) (V4.out.at (.tail _ (.head _)))).mono ?_
          rintro e w5 ⟨Ag, cg, kg, rfl, n5, b5⟩
          clear x4_f0 y4_f0 x4_f1 y4_f1 x4_f2 y4_f2
          have U5 := Lib.hid ((V4.out.go b5).num n5)
          clear n5 b5
          have V5 := Lib.hid (U5.out.new (.slice Ag kg cg) 30)
          obtain ⟨wz, hwz⟩ : ∃ wz : World, wz = w5.alloc (.cells #[.slice Ag kg cg] 30) := ⟨_, rfl⟩
          have VZ := V5.out
          rw [← hwz] at VZ
          have HVZ := Lib.hid VZ
          have XG := Lib.hid (VZ.box (.head _))
          have NG := Lib.hid (VZ.at (.head _))
          go_upto_region 4 with fail
          rw [← hwz]
          clear hwz VZ
          obtain ⟨xg, yg⟩ := XG.out
          go_region_with (first | (go_at_call 43; (with_reducible refine (rSmall_num 1 _ (by omega) (by omega)).mono ?_); rintro e w8 ⟨Ao, co, ko, rfl, no8, b8⟩; have D8 : Below wz.heap.size wz w8 := btwo (by first | exact Below.refl _ _ | exact (Below.refl _ _).drew | exact bdr (Below.refl _ _) _ | exact bdr (Below.refl _ _).drew _) b8; obtain ⟨x8g, y8g⟩ := cell_old XG.out.1 XG.out.2 D8; have HD8 := Lib.hid D8; have NO8 := Lib.hid no8; clear D8 b8 no8) | (go_at_call 23; (with_reducible refine (same_numF kg cg ko co _ _ Ag Ao _ (by first | exact NG.out.below HD8.out | exact NumAt.below (NG.out.below HD8.out) (Below.refl _ _).drew | exact NumAt.below (NG.out.below HD8.out) (bdr (Below.refl _ _) _)) (by first | exact NO8.out | exact NumAt.below (NO8.out) (Below.refl _ _).drew | exact NumAt.below (NO8.out) (bdr (Below.refl _ _) _)) hg).mono ?_); rintro e w9 ⟨rfl, b9⟩; have HD9 := Lib.hid (show Below wz.heap.size wz w9 from btwo (by first | exact HD8.out | exact btwo HD8.out (Below.refl _ _).drew | exact btwo HD8.out (bdr (Below.refl _ _) _)) b9); clear b9))
          all_goals (go_wp2_with fail)
          all_goals go_ret
          all_goals exact ⟨rfl, btwo HVZ.out.2.2 (by first | exact HD9.out | exact btwo HD9.out (Below.refl _ _).drew | exact btwo HD9.out (bdr (Below.refl _ _) _))⟩
theorem rfvalid_any (s : Bool) (L M : List Int) (n c m d : Nat) (A B : Option Addr) (W : World) (hn : L.length = n) (hm : M.length = m) (hnc : n ≤ c) (hmd : m ≤ d) (hc63 : c ≤ maxLen) (hd63 : d ≤ maxLen) (hA : IntsIn W A L) (hB : IntsIn W B M) :
    Calls Tryz.prog 20 #[.agg #[.bool s, .slice A n c, .slice B m d]] W fun e w' => e = .returned (.bool (vldF s L M)) ∧ Below W.heap.size W w' := by
  by_cases hv : vldB L = true ∧ vldB M = true
  · have := rfvalid_num s n c m d (val L) (val M) A B W (num_mk hn hnc hc63 hA hv.1) (num_mk hm hmd hd63 hB hv.2)
    rwa [show decide (0 < val M ∧ gcdI (val L) (val M) = 1 ∧ (s = true → 0 < val L)) = vldF s L M from decide_eq_decide.2 ⟨fun h => ⟨hv, h⟩, fun h => h.2⟩] at this
  · have := rfvalid_bad s L M n c m d A B W hn hm hnc hmd hc63 hd63 hA hB hv
    rwa [show false = vldF s L M from (decide_eq_false (fun h => hv h.1)).symm] at this
end Go.Proofs.YtkfkefgkepoaaaaGreatDoor
/- Contract of the reference's Format of fractions. -/
namespace Go.Proofs.YtkfkefgkepoaaaaGreatDoor
open Go.RowKit
set_option linter.unusedVariables false
set_option maxRecDepth 100000

theorem rfvalid_t (s : Bool) (n c m d : Nat) (x y : Int) (A B : Option Addr) (W : World) (hx : NumAt W (.slice A n c) x) (hy : NumAt W (.slice B m d) y) (hv : 0 < y ∧ gcdI x y = 1 ∧ (s = true → 0 < x)) :
    Calls Tryz.prog 20 #[.agg #[.bool s, .slice A n c, .slice B m d]] W fun e w' => e = .returned (.bool true) ∧ Below W.heap.size W w' := by
  have := rfvalid_num s n c m d x y A B W hx hy
  rwa [decide_eq_true hv] at this
end Go.Proofs.YtkfkefgkepoaaaaGreatDoor
/- The example of the chapter: what Decimal rounds. -/
namespace Go.Proofs.YtkfkefgkepoaaaaGreatDoor
open Go.RowKit
set_option linter.unusedVariables false
set_option maxRecDepth 100000

theorem zeros3 : zeros 3 = ⟨#[48, 48, 48]⟩ := by decide +kernel
theorem zeros1 : zeros 1 = ⟨#[48]⟩ := by decide +kernel
theorem rep3 (W : World) : Calls Tryz.prog 30 #[.string ⟨#[48]⟩, .int .i64 3] W fun e w' => e = .returned (.string ⟨#[48, 48, 48]⟩) ∧ W = w' := by
  have := repeat_any 3 W (by omega)
  rwa [zeros3] at this
theorem rep1 (W : World) : Calls Tryz.prog 30 #[.string ⟨#[48]⟩, .int .i64 1] W fun e w' => e = .returned (.string ⟨#[48]⟩) ∧ W = w' := by
  have := repeat_any 1 W (by omega)
  rwa [zeros1] at this
theorem lenN {x : Int} (h : x < 100000000) : (digs x).length ≤ 200 := Nat.le_trans (digs_len_le (n := x) (k := 2) (by simp [pw]; omega)) (by omega)
theorem par2000 (W : World) (b : ByteArray) (hb : b = ⟨#[50, 48, 48, 48]⟩) : Calls Tryz.prog 34 #[.string b] W (ValPost 2000 W) := by
  subst hb
  have hv : parseV (⟨#[50, 48, 48, 48]⟩ : ByteArray).data.toList = (2000, 0) := by decide +kernel
  exact (parse_any _ W (by decide)).mono fun e w' h => val_post h hv (by omega) (lenN (by omega))
/-- A list with one cell less. -/
theorem LiveA.tail {W w : World} {p : Addr × Value} {lc : List (Addr × Value)} {ln : List (Value × Int)} (h : LiveA W (p :: lc) ln w) : LiveA W lc ln w := ⟨fun a v hm => h.1 a v (List.mem_cons_of_mem _ hm), h.2⟩
/-- A number's box is stored into again. -/
theorem LiveA.set {W w : World} {lc : List (Addr × Value)} {ln : List (Value × Int)} {g : Nat} {T : TypeId} {A : Option Addr} {n c : Nat} (u : Value) (h : LiveA W lc ln w) (hg : w.heap[g]? = some (.cells #[.slice A n c] T (0, 0))) (hW : W.heap.size ≤ g) (hl : ∀ p ∈ lc, ¬ p.1.block = g) :
    LiveA W ((⟨g, 0, none⟩, u) :: lc) ln (w.setCell ⟨g, 0, none⟩ u) := by
  have hc : w.cell? ⟨g, 0, none⟩ = some (.slice A n c) := by rw [cell_of_row w _ 0 _ _ _ hg]; rfl
  have hs : (w.setCell ⟨g, 0, none⟩ u).heap.size = w.heap.size := by simp [World.setCell]
  have hgs : g < w.heap.size := (Array.getElem?_eq_some_iff.1 hg).1
  refine ⟨fun a v hm => ?_, fun v x hm => ?_, h.2.2.setCell (p := ⟨g, 0, none⟩) hW _⟩
  · rcases List.mem_cons.1 hm with e | e
    · injection e with e1 e2; subst e1; subst e2
      exact ⟨World.cell?_setCell_same w _ _ hc, by rw [hs]; exact hgs⟩
    · have hb := hl _ e
      have ap : a ≠ ⟨g, 0, none⟩ := fun e => hb (by rw [e])
      exact ⟨(World.cell?_setCell_other _ _ _ _ (by first | exact ap | exact ap.symm)).trans (h.1 a v e).1, by rw [hs]; exact (h.1 a v e).2⟩
  · obtain ⟨h0, A', c', e, hi, h1, h2, h3⟩ := h.2.1 v x hm
    exact ⟨h0, A', c', e, hi.store (x := .slice none 0 0) hg, h1, h2, h3⟩
theorem set_cells {w : World} {g : Nat} (hg : KeptAt g w) (v : Value) (o1 o2 : Obj) : (((w.setCell ⟨g, 0, none⟩ v).alloc o1).alloc o2).cell? ⟨g, 0, none⟩ = some v := by
  have hgs : g < w.heap.size := (Array.getElem?_eq_some_iff.1 hg).1
  exact ((two_box (W := w.setCell ⟨g, 0, none⟩ v) (o1 := o1) (o2 := o2)).cell (p := ⟨g, 0, none⟩) (by simpa [World.setCell] using hgs)).trans (World.cell?_setCell_same w _ _ hg.facts.1)
theorem val_store2 {W w : World} {g : Nat} {x y : Int} {A : Option Addr} {k c : Nat} {o1 o2 : Obj} (hg : KeptAt g w) (hW : W.heap.size ≤ g) (hx : NumAt w (.slice A k c) x) (hb : Below W.heap.size W w) (hxy : x = y) :
    ValPost y W (.returned (.tuple #[.agg #[.slice A k c], .int .i64 0])) (((w.setCell ⟨g, 0, none⟩ (.slice A k c)).alloc o1).alloc o2) := by
  subst hxy
  have h1 : w.heap[g]? = some (.cells #[.slice none 0 0] 30 (0, 0)) := hg
  obtain ⟨h0, A', c', e, hi, a1, a2, a3⟩ := hx
  exact ⟨A, c, k, rfl, ⟨h0, A', c', e, (hi.store (x := .slice none 0 0) h1).below two_box, a1, a2, a3⟩, btwo (hb.setCell (p := ⟨g, 0, none⟩) hW _) two_box⟩
set_option maxHeartbeats 4000000 in
theorem rounded_ex (n c m d : Nat) (A B : Option Addr) (W : World) (hx : NumAt W (.slice A n c) 2) (hy : NumAt W (.slice B m d) 3) :
    Calls Tryz.prog 29 #[.agg #[.bool true, .slice A n c, .slice B m d], .int .i64 3] W (ValPost 667 W) := by
  obtain ⟨E, hE⟩ : ∃ E : World, E = (W.alloc (.cells #[.bool true, .slice A n c, .slice B m d] 32)).alloc (.cells #[.slice none 0 0] 30) := ⟨_, rfl⟩
  have BE : Below W.heap.size W E := by rw [hE]; exact two_box
  have KE : KeptAt (W.heap.size + 1) E := by
    have : KeptAt (W.alloc (.cells #[.bool true, .slice A n c, .slice B m d] 32)).heap.size ((W.alloc (.cells #[.bool true, .slice A n c, .slice B m d] 32)).alloc (.cells #[.slice none 0 0] 30)) := heap_alloc_new _ _
    rw [← hE] at this
    simpa using this
  have VW := (((LiveA.start W).num hy).num hx).newF (.bool true) (.slice A n c) (.slice B m d) 32
  have V0 := Lib.hid (show LiveA E [(⟨W.heap.size, 2, none⟩, .slice B m d), (⟨W.heap.size, 1, none⟩, .slice A n c), (⟨W.heap.size, 0, none⟩, .bool true)] [(.slice A n c, 2), (.slice B m d, 3)] E by
    have h := VW.go (one_new (o := .cells #[.slice none 0 0] 30))
    rw [← hE] at h
    exact ⟨h.1, h.2.1, Below.refl _ _⟩)
  have HKE := Lib.hid KE
  have HES := Lib.hid (show E.heap.size = W.heap.size + 1 + 1 by rw [hE]; simp)
  have HBE := Lib.hid BE
  clear VW KE BE hx hy
  subst hE
  go_enter Tryz.func29, Tryz.ntmps29
  go_wp2_with fail
  refine (rep3 _).mono ?_
  rintro e w' ⟨rfl, rfl⟩
  go_wp2_with fail
  refine (par2000 _ _ (by decide +kernel)).mono ?_
  rintro e w1 ⟨At, ct, kt, rfl, n1, b1⟩
  have U1 := Lib.hid ((V0.out.go b1).num n1)
  clear n1 b1
  have V1 := Lib.hid (U1.out.new (.slice At kt ct) 30)
  go_wp2_with fail
  refine (of_num 2 _ (by omega) (by omega)).mono ?_
  rintro e w2 ⟨Aw, cw, kw, rfl, n2, b2⟩
  have U2 := Lib.hid ((V1.out.go b2).num n2)
  clear n2 b2
  obtain ⟨x2_f1, y2_f1⟩ := U2.out.box (.tail _ (.tail _ (.head _)))
  obtain ⟨x2_t, y2_t⟩ := U2.out.box (.head _)
  have V2 := Lib.hid (U2.out.new (.slice Aw kw cw) 30)
  go_wp2_with fail
  refine (mul_num n c kt ct _ _ A At _ (V2.out.at (.tail _ (.tail _ (.head _)))) (V2.out.at (.tail _ (.head _))) (lenN (by omega))).mono ?_
  rintro e w3 ⟨An, cn, kn, rfl, n3, b3⟩
  clear x2_f1 y2_f1 x2_t y2_t
  have U3 := Lib.hid ((V2.out.go b3).num n3)
  clear n3 b3
  obtain ⟨x3_f2, y3_f2⟩ := U3.out.box (.tail _ (.tail _ (.head _)))
  obtain ⟨x3_f1, y3_f1⟩ := U3.out.box (.tail _ (.tail _ (.tail _ (.head _))))
  obtain ⟨x3_w, y3_w⟩ := U3.out.box (.head _)
  have V3 := Lib.hid (U3.out.new (.slice An kn cn) 30)
  have HN3 := Lib.hid (heap_alloc_new w3 (.cells #[.slice An kn cn] 30))
  go_wp2_with fail
  refine (add_num kn cn m d _ _ An B _ (V3.out.at (.head _)) (V3.out.at (.tail _ (.tail _ (.tail _ (.tail _ (.head _)))))) (lenN (by omega))).mono ?_
  rintro e w4 ⟨Az, cz, kz, rfl, n4, b4⟩
  clear x3_f2 y3_f2 x3_f1 y3_f1 x3_w y3_w
  have HN4 := Lib.hid (show w4.heap[w3.heap.size]? = some (.cells #[.slice An kn cn] 30 (0, 0)) by rw [b4.block _ (by simp)]; exact HN3.out)
  have U4 := Lib.hid ((V3.out.go b4).num n4)
  clear n4 b4
  obtain ⟨x4_f2, y4_f2⟩ := U4.out.box (.tail _ (.tail _ (.tail _ (.head _))))
  obtain ⟨x4_f1, y4_f1⟩ := U4.out.box (.tail _ (.tail _ (.tail _ (.tail _ (.head _)))))
  obtain ⟨x4_w, y4_w⟩ := U4.out.box (.tail _ (.head _))
  obtain ⟨x4_t, y4_t⟩ := U4.out.box (.tail _ (.tail _ (.head _)))
  have z0 := row_cell HN4.out
  have z1 : w4.frozen? ⟨w3.heap.size, 0, none⟩ = false := by simp [World.frozen?, HN4.out]
  have z2 : w3.heap.size < w4.heap.size := (Array.getElem?_eq_some_iff.1 HN4.out).1
  obtain ⟨x3_w, y3_w⟩ := U3.out.box (.head _)
  obtain ⟨x3_t, y3_t⟩ := U3.out.box (.tail _ (.head _))
  obtain ⟨x3_f, y3_f⟩ := U3.out.box (.tail _ (.tail _ (.head _)))
  clear x3_w x3_f x3_t
  dsimp only at y3_w y3_t y3_f
  have HES3 := Lib.hid U3.out.2.2.size
  have V4 := Lib.hid (LiveA.set (.slice Az kz cz) U4.out.tail HN4.out HES3.out (by intro p hp; simp only [List.mem_cons, List.not_mem_nil, or_false] at hp; rcases hp with rfl | rfl | rfl | rfl | rfl <;> (simp only; omega)))
  go_wp2_with fail
  refine (mul_num m d kw cw _ _ B Aw _ (V4.out.at (.tail _ (.tail _ (.tail _ (.tail _ (.tail _ (.head _))))))) (V4.out.at (.tail _ (.tail _ (.head _)))) (lenN (by omega))).mono ?_
  rintro e w5 ⟨Ad, cd, kd, rfl, n5, b5⟩
  clear x4_f2 y4_f2 x4_f1 y4_f1 x4_w y4_w x4_t y4_t
  have U5 := Lib.hid ((V4.out.go b5).num n5)
  clear n5 b5
  obtain ⟨x5_n, y5_n⟩ := U5.out.box (.head _)
  have V5 := Lib.hid (U5.out.new (.slice Ad kd cd) 30)
  go_wp2_with fail
  refine (div_num kz cz kd cd _ _ Az Ad _ (V5.out.at (.tail _ (.head _))) (V5.out.at (.head _)) (by omega)).mono ?_
  rintro e w6 ⟨Au, cu, ku, Ar, cr, kr, rfl, n6, m6, b6⟩
  clear x5_n y5_n
  have U6 := Lib.hid (((V5.out.go b6).num n6).num m6)
  clear n6 m6 b6
  have V6 := Lib.hid (U6.out.new2 (.slice Au ku cu) (.slice Ar kr cr) 30)
  obtain ⟨q5, q6, q7, q8⟩ := kept_old HKE.out (by simp) U6.out.2.2
  have q9 : W.heap.size < w6.heap.size := by omega
  have HQ5 := Lib.hid q5
  have HB := Lib.hid (btwo HBE.out U6.out.2.2)
  have NU := Lib.hid (U6.out.at (.tail _ (.head _)))
  have EC := Lib.hid (set_cells q5 (.slice Au ku cu) (.cells #[.slice Au ku cu] 30) (.cells #[.slice Ar kr cr] 30))
  clear q5
  go_wp2_with fail
  refine bodyPost_ret (v := .tuple #[.agg #[.slice Au ku cu], .int .i64 0]) ?_ rfl ?_
  · simp [results, Tryz.results29, go_sem, EC.out]
  · exact val_store2 HQ5.out (by omega) NU.out HB.out (by decide)
end Go.Proofs.YtkfkefgkepoaaaaGreatDoor
/- The example of the chapter: Decimal. -/
namespace Go.Proofs.YtkfkefgkepoaaaaGreatDoor
open Go.RowKit
set_option linter.unusedVariables false
set_option maxRecDepth 100000

theorem fmt667 : (⟨(fmt 667).toArray⟩ : ByteArray) = ⟨#[54, 54, 55]⟩ := by decide +kernel
theorem gcd23 : gcdI 2 3 = 1 := by decide
theorem form667 (n c : Nat) (A : Option Addr) (w : World) (h : NumAt w (.slice A n c) 667) (hT : Tab w) : Calls Tryz.prog 27 #[.agg #[.slice A n c]] w fun e w' => e = .returned (.tuple #[.string ⟨#[54, 54, 55]⟩, .int .i64 0]) ∧ Below w.heap.size w w' := by
  refine (format_num n c 667 A w h hT).mono ?_
  rintro e w' ⟨b, he, hb, _, hbel⟩
  rw [hb, fmt667] at he
  exact ⟨he, hbel⟩
set_option maxHeartbeats 4000000 in
theorem decimal_ex (n c m d : Nat) (A B : Option Addr) (W : World) (hx : NumAt W (.slice A n c) 2) (hy : NumAt W (.slice B m d) 3) (hT : Tab W) :
    Calls Tryz.prog 14 #[.agg #[.bool true, .slice A n c, .slice B m d], .int .i64 3] W (StrIs [45, 48, 46, 54, 54, 55] W) := by
  have V0 := Lib.hid ((((LiveA.start W).num hy).num hx).newF (.bool true) (.slice A n c) (.slice B m d) 32)
  have HT := Lib.hid hT
  clear hx hy hT
  go_enter Tryz.func14, Tryz.ntmps14
  go_wp2_with fail
  refine (fvalid_t true n c m d _ _ A B _ (V0.out.at (.head _)) (V0.out.at (.tail _ (.head _))) ⟨by omega, gcd23, fun _ => by omega⟩).mono ?_
  rintro e w1 ⟨rfl, b1⟩
  have V1 := Lib.hid (V0.out.go b1)
  clear b1
  obtain ⟨x1_f2, y1_f2⟩ := V1.out.box (.head _)
  obtain ⟨x1_f1, y1_f1⟩ := V1.out.box (.tail _ (.head _))
  obtain ⟨x1_f0, y1_f0⟩ := V1.out.box (.tail _ (.tail _ (.head _)))
  go_wp2_with fail
  refine (rounded_ex n c m d A B _ (V1.out.at (.head _)) (V1.out.at (.tail _ (.head _)))).mono ?_
  rintro e w2 ⟨Au, cu, ku, rfl, n2, b2⟩
  clear x1_f2 y1_f2 x1_f1 y1_f1 x1_f0 y1_f0
  have U2 := Lib.hid ((V1.out.go b2).num n2)
  clear n2 b2
  have V2 := Lib.hid (U2.out.new (.slice Au ku cu) 30)
  go_wp2_with fail
  refine (form667 ku cu Au _ (V2.out.at (.head _)) (HT.out.below V2.out.2.2)).mono ?_
  rintro e w3 ⟨rfl, b3⟩
  have V3 := Lib.hid (V2.out.go b3)
  clear b3
  obtain ⟨x3_f0, y3_f0⟩ := V3.out.box (.tail _ (.tail _ (.tail _ (.head _))))
  obtain ⟨x3_u, y3_u⟩ := V3.out.box (.head _)
  go_wp2_with fail
  refine (rep1 _).mono ?_
  rintro e w' ⟨rfl, rfl⟩
  go_wp2_with fail
  go_quiet (fail)
  have VQ := Lib.hid (V3.out.go (bdr (Below.refl _ _) nq))
  go_wp2_with fail
  refine (isZero_f ku cu _ Au _ (VQ.out.at (.head _)) (by omega)).mono ?_
  rintro e w4 ⟨rfl, b4⟩
  clear x3_f0 y3_f0 x3_u y3_u
  have V4 := Lib.hid (VQ.out.go b4)
  clear b4
  have e : (⟨#[45]⟩ ++ ((⟨#[48]⟩ ++ ⟨#[54, 54, 55]⟩ : ByteArray).extract 0 1 ++ ⟨#[46]⟩ ++ (⟨#[48]⟩ ++ ⟨#[54, 54, 55]⟩ : ByteArray).extract 1 4) : ByteArray) = ⟨([45, 48, 46, 54, 54, 55] : List UInt8).toArray⟩ := by decide +kernel
  have HE := Lib.hid e
  clear e
  go_wp2_with fail
  go_ret2
  exact ⟨congrArg (fun b => Ending.returned (.tuple #[.string b, .int .i64 0])) HE.out, V4.out.2.2⟩
end Go.Proofs.YtkfkefgkepoaaaaGreatDoor
/- The example of the chapter: how compare orders 2/3 and 3/2. -/
namespace Go.Proofs.YtkfkefgkepoaaaaGreatDoor
open Go.RowKit
set_option linter.unusedVariables false
set_option maxRecDepth 100000

/-- Four boxes of a world that has grown out of wz. -/
def Box4 (wz : World) (v5 v6 v7 v8 : Value) (s5 s6 s7 s8 : Value) (w : World) : Prop :=
  ∃ b5 b6 b7 b8 : Nat, s5 = .pointer (some ⟨b5, 0, none⟩) ∧ s6 = .pointer (some ⟨b6, 0, none⟩) ∧ s7 = .pointer (some ⟨b7, 0, none⟩) ∧ s8 = .pointer (some ⟨b8, 0, none⟩) ∧
    (w.cell? ⟨b5, 0, none⟩ = some v5 ∧ b5 < w.heap.size) ∧ (w.cell? ⟨b6, 0, none⟩ = some v6 ∧ b6 < w.heap.size) ∧ (w.cell? ⟨b7, 0, none⟩ = some v7 ∧ b7 < w.heap.size) ∧ (w.cell? ⟨b8, 0, none⟩ = some v8 ∧ b8 < w.heap.size) ∧ Below wz.heap.size wz w
def Held4 (W : World) (u1 u2 u3 u4 : Value) (w : World) : Prop :=
  w.cell? ⟨W.heap.size, 1, none⟩ = some u1 ∧ w.cell? ⟨W.heap.size, 2, none⟩ = some u2 ∧ w.cell? ⟨W.heap.size + 1, 1, none⟩ = some u3 ∧ w.cell? ⟨W.heap.size + 1, 2, none⟩ = some u4
theorem held4_alloc {W w : World} {u1 u2 u3 u4 : Value} {o : Obj} (h : w.cell? ⟨W.heap.size, 1, none⟩ = some u1 ∧ w.cell? ⟨W.heap.size, 2, none⟩ = some u2 ∧ w.cell? ⟨W.heap.size + 1, 1, none⟩ = some u3 ∧ w.cell? ⟨W.heap.size + 1, 2, none⟩ = some u4) :
    (w.alloc o).cell? ⟨W.heap.size, 1, none⟩ = some u1 ∧ (w.alloc o).cell? ⟨W.heap.size, 2, none⟩ = some u2 ∧ (w.alloc o).cell? ⟨W.heap.size + 1, 1, none⟩ = some u3 ∧ (w.alloc o).cell? ⟨W.heap.size + 1, 2, none⟩ = some u4 :=
  ⟨(World.cell?_alloc_lt w o _ (World.block_lt_of_cell? _ _ h.1)).trans h.1, (World.cell?_alloc_lt w o _ (World.block_lt_of_cell? _ _ h.2.1)).trans h.2.1, (World.cell?_alloc_lt w o _ (World.block_lt_of_cell? _ _ h.2.2.1)).trans h.2.2.1, (World.cell?_alloc_lt w o _ (World.block_lt_of_cell? _ _ h.2.2.2)).trans h.2.2.2⟩
theorem held4_set {W w : World} {u1 u2 u3 u4 v : Value} {b : Nat} (hb : W.heap.size + 1 < b) (h : w.cell? ⟨W.heap.size, 1, none⟩ = some u1 ∧ w.cell? ⟨W.heap.size, 2, none⟩ = some u2 ∧ w.cell? ⟨W.heap.size + 1, 1, none⟩ = some u3 ∧ w.cell? ⟨W.heap.size + 1, 2, none⟩ = some u4) :
    (w.setCell ⟨b, 0, none⟩ v).cell? ⟨W.heap.size, 1, none⟩ = some u1 ∧ (w.setCell ⟨b, 0, none⟩ v).cell? ⟨W.heap.size, 2, none⟩ = some u2 ∧ (w.setCell ⟨b, 0, none⟩ v).cell? ⟨W.heap.size + 1, 1, none⟩ = some u3 ∧ (w.setCell ⟨b, 0, none⟩ v).cell? ⟨W.heap.size + 1, 2, none⟩ = some u4 :=
  ⟨(World.cell?_setCell_far w _ _ v (by show b ≠ W.heap.size; omega)).trans h.1, (World.cell?_setCell_far w _ _ v (by show b ≠ W.heap.size; omega)).trans h.2.1, (World.cell?_setCell_far w _ _ v (by show b ≠ W.heap.size + 1; omega)).trans h.2.2.1, (World.cell?_setCell_far w _ _ v (by show b ≠ W.heap.size + 1; omega)).trans h.2.2.2⟩
theorem quad {wz : World} {x1 x2 x3 x4 : Value} {T : TypeId} {N : Nat} (hN : wz.heap.size = N) (w : World) (hw : w = ((((wz.alloc (.cells #[x1] T)).alloc (.cells #[x2] T)).alloc (.cells #[x3] T)).alloc (.cells #[x4] T)).drew) :
    w.cell? ⟨N, 0, none⟩ = some x1 ∧ w.cell? ⟨N + 1, 0, none⟩ = some x2 ∧ w.cell? ⟨N + 1 + 1, 0, none⟩ = some x3 ∧ w.cell? ⟨N + 1 + 1 + 1, 0, none⟩ = some x4 ∧ w.heap.size = N + 1 + 1 + 1 + 1 ∧ Below wz.heap.size wz w := by
  subst hw
  subst hN
  have c1 : (wz.alloc (.cells #[x1] T)).cell? ⟨wz.heap.size, 0, none⟩ = some x1 := by rw [World.cell?_alloc_mark]; rfl
  have c2 : ((wz.alloc (.cells #[x1] T)).alloc (.cells #[x2] T)).cell? ⟨wz.heap.size + 1, 0, none⟩ = some x2 := by
    have e : wz.heap.size + 1 = (wz.alloc (.cells #[x1] T)).heap.size := by simp
    rw [e, World.cell?_alloc_mark]; rfl
  have c3 : (((wz.alloc (.cells #[x1] T)).alloc (.cells #[x2] T)).alloc (.cells #[x3] T)).cell? ⟨wz.heap.size + 1 + 1, 0, none⟩ = some x3 := by
    have e : wz.heap.size + 1 + 1 = ((wz.alloc (.cells #[x1] T)).alloc (.cells #[x2] T)).heap.size := by simp
    rw [e, World.cell?_alloc_mark]; rfl
  have c4 : ((((wz.alloc (.cells #[x1] T)).alloc (.cells #[x2] T)).alloc (.cells #[x3] T)).alloc (.cells #[x4] T)).cell? ⟨wz.heap.size + 1 + 1 + 1, 0, none⟩ = some x4 := by
    have e : wz.heap.size + 1 + 1 + 1 = (((wz.alloc (.cells #[x1] T)).alloc (.cells #[x2] T)).alloc (.cells #[x3] T)).heap.size := by simp
    rw [e, World.cell?_alloc_mark]; rfl
  have k : ∀ {w : World} {a : Addr} {v : Value} {o : Obj}, w.cell? a = some v → (w.alloc o).cell? a = some v := fun {w a v o} h => (World.cell?_alloc_lt w o a (World.block_lt_of_cell? _ _ h)).trans h
  refine ⟨k (k (k c1)), k (k c2), k c3, c4, by show (((wz.heap.push _).push _).push _ |>.push _).size = _; simp, ?_⟩
  exact (((((Below.refl _ _).alloc (Nat.le_refl _) _).alloc (by simp) _).alloc (by simp; omega) _).alloc (by simp; omega) _).drew
theorem lenN' {x : Int} (h : x < 100000000) : (digs x).length ≤ 200 := Nat.le_trans (digs_len_le (n := x) (k := 2) (by simp [pw]; omega)) (by omega)
set_option maxHeartbeats 16000000 in
theorem compare_ex (n c m d n2 c2 m2 d2 : Nat) (A B A2 B2 : Option Addr) (W : World) (hx : NumAt W (.slice A n c) 2) (hy : NumAt W (.slice B m d) 3) (hx2 : NumAt W (.slice A2 n2 c2) 3) (hy2 : NumAt W (.slice B2 m2 d2) 2) :
    Calls Tryz.prog 36 #[.agg #[.bool true, .slice A n c, .slice B m d], .agg #[.bool true, .slice A2 n2 c2, .slice B2 m2 d2]] W fun e w' => e = .returned (.int .i64 (-1)) ∧ Below W.heap.size W w' := by
  obtain ⟨wz, hwz⟩ : ∃ wz : World, wz = (W.alloc (.cells #[.bool true, .slice A n c, .slice B m d] 32)).alloc (.cells #[.bool true, .slice A2 n2 c2, .slice B2 m2 d2] 32) := ⟨_, rfl⟩
  have h0 := ((((((LiveA.start W).num hy2).num hx2).num hy).num hx).newF (.bool true) (.slice A n c) (.slice B m d) 32).newF (.bool true) (.slice A2 n2 c2) (.slice B2 m2 d2) 32
  rw [show (W.alloc (.cells #[.bool true, .slice A n c, .slice B m d] 32)).heap.size = W.heap.size + 1 by simp, ← hwz] at h0
  have hs : wz.heap.size = W.heap.size + 1 + 1 := by rw [hwz]; simp
  have g2 := (h0.box (.head _)).1
  have g1 := (h0.box (.tail _ (.head _))).1
  have f2 := (h0.box (.tail _ (.tail _ (.tail _ (.head _))))).1
  have f1 := (h0.box (.tail _ (.tail _ (.tail _ (.tail _ (.head _)))))).1
  have VZ := Lib.hid h0
  have HZ := Lib.hid hwz
  clear hwz h0 hx hy hx2 hy2
  go_enter Tryz.func36, Tryz.ntmps36
  go_upto_region 1 with fail
  rw [← HZ.out]
  go_cut [5, 6, 7, 8] (fun s5 s6 s7 s8 wx => Box4 wz (.slice A n c) (.slice B m d) (.slice A2 n2 c2) (.slice B2 m2 d2) s5 s6 s7 s8 wx)
  case first =>
    go_region_held3 (fun w' => w'.cell? ⟨W.heap.size, 1, none⟩ = some (.slice A n c) ∧ w'.cell? ⟨W.heap.size, 2, none⟩ = some (.slice B m d) ∧ w'.cell? ⟨W.heap.size + 1, 1, none⟩ = some (.slice A2 n2 c2) ∧ w'.cell? ⟨W.heap.size + 1, 2, none⟩ = some (.slice B2 m2 d2)) (first | exact ⟨f1, f2, g1, g2⟩ | exact held4_alloc (by assumption) | exact held4_alloc (held4_alloc (held4_alloc (held4_alloc ⟨f1, f2, g1, g2⟩)))) (fail)
    all_goals (go_wp2_with fail; go_meet)
    all_goals
      obtain ⟨q1, q2, q3, q4, q5, q6⟩ := quad hs _ rfl
      refine ⟨_, _, _, _, rfl, rfl, rfl, rfl, ⟨by assumption, ?_⟩, ⟨by assumption, ?_⟩, ⟨by assumption, ?_⟩, ⟨by assumption, ?_⟩, q6⟩
      all_goals (rw [q5]; omega)
  case rest =>
    obtain ⟨b5, b6, b7, b8, rfl, rfl, rfl, rfl, x5, x6, x7, x8, hb⟩ := hcut
    have V0 := Lib.hid (((((VZ.out.go hb).boxed (a := ⟨b5, 0, none⟩) x5.1 x5.2).boxed (a := ⟨b6, 0, none⟩) x6.1 x6.2).boxed (a := ⟨b7, 0, none⟩) x7.1 x7.2).boxed (a := ⟨b8, 0, none⟩) x8.1 x8.2)
    obtain ⟨x5, y5⟩ := x5
    obtain ⟨x6, y6⟩ := x6
    obtain ⟨x7, y7⟩ := x7
    obtain ⟨x8, y8⟩ := x8
    clear hb f1 f2 g1 g2 hs
    go_wp2
    refine wp_loop_rounds 1 ?_
    rw [rounds_succ]
    go_wp2_with fail
    refine (div_num n c m d 2 3 A B _ (V0.out.at (.head _)) (V0.out.at (.tail _ (.head _))) (by omega)).mono ?_
    rintro e w1 ⟨Ap, cp, kp, Au, cu, ku, rfl, n1, m1, e1⟩
    clear x5 y5 x6 y6 x7 y7 x8 y8
    have U1 := Lib.hid (((V0.out.go e1).num n1).num m1)
    clear n1 m1 e1
    obtain ⟨x8, y8⟩ := U1.out.box (.head _)
    obtain ⟨x7, y7⟩ := U1.out.box (.tail _ (.head _))
    have V1 := Lib.hid (U1.out.new2 (.slice Ap kp cp) (.slice Au ku cu) 30)
    go_wp2_with fail
    refine (div_num n2 c2 m2 d2 3 2 A2 B2 _ (V1.out.at (.tail _ (.tail _ (.tail _ (.tail _ (.head _)))))) (V1.out.at (.tail _ (.tail _ (.tail _ (.tail _ (.tail _ (.head _))))))) (by omega)).mono ?_
    rintro e w2 ⟨Aq, cq, kq, Av, cv, kv, rfl, n2', m2', e2⟩
    clear x7 y7 x8 y8
    have U2 := Lib.hid (((V1.out.go e2).num n2').num m2')
    clear n2' m2' e2
    obtain ⟨xp, yp⟩ := U2.out.box (.tail _ (.head _))
    have V2 := Lib.hid (U2.out.new2 (.slice Aq kq cq) (.slice Av kv cv) 30)
    go_wp2_with fail
    refine (cmp_num kp cp kq cq (2 / 3) (3 / 2) Ap Aq _ (V2.out.at (.tail _ (.tail _ (.tail _ (.head _))))) (V2.out.at (.tail _ (.head _)))).mono ?_
    rintro e w3 ⟨rfl, e3⟩
    rw [show sgn ((2 : Int) / 3 - 3 / 2) = -1 by decide]
    clear xp yp
    go_wp2_with fail
    go_ret
    exact ⟨rfl, (V2.out.go e3).2.2⟩
end Go.Proofs.YtkfkefgkepoaaaaGreatDoor
/- The example of the chapter: Cmp; and what Parse says of 2/4. -/
namespace Go.Proofs.YtkfkefgkepoaaaaGreatDoor
open Go.RowKit
set_option linter.unusedVariables false
set_option maxRecDepth 100000

theorem gcd32 : gcdI 3 2 = 1 := by decide
theorem gcd23' : gcdI 2 3 = 1 := by decide
set_option maxHeartbeats 4000000 in
theorem cmp_ex (n c m d n2 c2 m2 d2 : Nat) (A B A2 B2 : Option Addr) (W : World) (hx : NumAt W (.slice A n c) 3) (hy : NumAt W (.slice B m d) 2) (hx2 : NumAt W (.slice A2 n2 c2) 2) (hy2 : NumAt W (.slice B2 m2 d2) 3) :
    Calls Tryz.prog 17 #[.agg #[.bool true, .slice A n c, .slice B m d], .agg #[.bool true, .slice A2 n2 c2, .slice B2 m2 d2]] W fun e w' => e = .returned (.int .i64 (-1)) ∧ Below W.heap.size W w' := by
  have h0 := ((((((LiveA.start W).num hy2).num hx2).num hy).num hx).newF (.bool true) (.slice A n c) (.slice B m d) 32).newF (.bool true) (.slice A2 n2 c2) (.slice B2 m2 d2) 32
  rw [show (W.alloc (.cells #[.bool true, .slice A n c, .slice B m d] 32)).heap.size = W.heap.size + 1 by simp] at h0
  have V0 := Lib.hid h0
  clear hx hy hx2 hy2 h0
  go_enter Tryz.func17, Tryz.ntmps17
  go_wp2_with fail
  refine (fvalid_t true n c m d _ _ A B _ (V0.out.at (.head _)) (V0.out.at (.tail _ (.head _))) ⟨by omega, gcd32, fun _ => by omega⟩).mono ?_
  rintro e w1 ⟨rfl, b1⟩
  have V1 := Lib.hid (V0.out.go b1)
  clear b1
  obtain ⟨x1_g2, y1_g2⟩ := V1.out.box (.head _)
  obtain ⟨x1_g1, y1_g1⟩ := V1.out.box (.tail _ (.head _))
  obtain ⟨x1_g0, y1_g0⟩ := V1.out.box (.tail _ (.tail _ (.head _)))
  go_wp2_with fail
  refine (fvalid_t true n2 c2 m2 d2 _ _ A2 B2 _ (V1.out.at (.tail _ (.tail _ (.head _)))) (V1.out.at (.tail _ (.tail _ (.tail _ (.head _))))) ⟨by omega, gcd23', fun _ => by omega⟩).mono ?_
  rintro e w2 ⟨rfl, b2⟩
  clear x1_g2 y1_g2 x1_g1 y1_g1 x1_g0 y1_g0
  have V2 := Lib.hid (V1.out.go b2)
  clear b2
  obtain ⟨x2_g2, y2_g2⟩ := V2.out.box (.head _)
  obtain ⟨x2_g1, y2_g1⟩ := V2.out.box (.tail _ (.head _))
  obtain ⟨x2_g0, y2_g0⟩ := V2.out.box (.tail _ (.tail _ (.head _)))
  obtain ⟨x2_f2, y2_f2⟩ := V2.out.box (.tail _ (.tail _ (.tail _ (.head _))))
  obtain ⟨x2_f1, y2_f1⟩ := V2.out.box (.tail _ (.tail _ (.tail _ (.tail _ (.head _)))))
  obtain ⟨x2_f0, y2_f0⟩ := V2.out.box (.tail _ (.tail _ (.tail _ (.tail _ (.tail _ (.head _))))))
  go_wp2_with fail
  refine (compare_ex n2 c2 m2 d2 n c m d A2 B2 A B _ (V2.out.at (.tail _ (.tail _ (.head _)))) (V2.out.at (.tail _ (.tail _ (.tail _ (.head _))))) (V2.out.at (.head _)) (V2.out.at (.tail _ (.head _)))).mono ?_
  rintro e w3 ⟨rfl, b3⟩
  clear x2_g2 y2_g2 x2_g1 y2_g1 x2_g0 y2_g0 x2_f2 y2_f2 x2_f1 y2_f1 x2_f0 y2_f0
  have V3 := Lib.hid (V2.out.go b3)
  clear b3
  go_wp2_with fail
  go_ret
  exact ⟨rfl, V3.out.2.2⟩
end Go.Proofs.YtkfkefgkepoaaaaGreatDoor
/- Contract of the statements' own check of the chapter's examples: it answers true. -/
namespace Go.Proofs.YtkfkefgkepoaaaaGreatDoor
open Go.RowKit
set_option linter.unusedVariables false
set_option maxRecDepth 100000

theorem ofA (W : World) : Calls Tryz.prog 12 #[.int .i64 6, .int .i64 (-4)] W (FrOk true 3 2 W) := by
  have h := fof_good 6 (-4) 6 4 W (by omega) (by omega) (by omega) (by omega) (by omega) (by omega) (by omega)
  rw [show gcdI 6 4 = 2 by decide] at h
  exact h
theorem ofB (W : World) : Calls Tryz.prog 12 #[.int .i64 (-2), .int .i64 3] W (FrOk true 2 3 W) := by
  have h := fof_good (-2) 3 2 3 W (by omega) (by omega) (by omega) (by omega) (by omega) (by omega) (by omega)
  rw [show gcdI 2 3 = 1 by decide] at h
  exact h
theorem fmtA (n c m d : Nat) (A B : Option Addr) (W : World) (hx : NumAt W (.slice A n c) 3) (hy : NumAt W (.slice B m d) 2) (hT : Tab W) :
    Calls Tryz.prog 13 #[.agg #[.bool true, .slice A n c, .slice B m d]] W fun e w' => e = .returned (.tuple #[.string ⟨#[45, 51, 47, 50]⟩, .int .i64 0]) ∧ Below W.heap.size W w' := by
  refine (fformat_num true n c m d 3 2 A B W hx hy ⟨by omega, gcd32, fun _ => by omega⟩ hT).mono ?_
  rintro e w' ⟨he, hb⟩
  rw [show ftext true 3 2 = [45, 51, 47, 50] by decide +kernel] at he
  exact ⟨he, hb⟩
theorem parC (W : World) (hC : Cutl W) : Calls Tryz.prog 15 #[.string ⟨#[50, 47, 52]⟩] W (FrErr 2 W) := by
  have h1 : numOf [50, 47, 52] = [50] := by decide +kernel
  have h2 : denOf [50, 47, 52] = [52] := by decide +kernel
  refine fparse_bad4 [50, 47, 52] W (by decide) hC ?_ ?_ ?_ ?_
  · rw [h1]; decide +kernel
  · rw [h2]; decide +kernel
  · rw [h2]; decide +kernel
  · rw [h1, h2]; decide +kernel
set_option maxHeartbeats 8000000 in
theorem awake_any (W : World) (hT : Tab W) (hC : Cutl W) : Calls Tryz.prog 4 #[] W fun e w' => e = .returned (.bool true) ∧ Below W.heap.size W w' := by
  have HT := Lib.hid hT
  have HC := Lib.hid hC
  have V0 := Lib.hid (LiveA.start W)
  clear hT hC
  go_enter Tryz.func4, Tryz.ntmps4
  go_wp2_with fail
  refine (ofA _).mono ?_
  rintro e w1 ⟨Aa, ca, ka, Ap, cp, kp, rfl, n1, m1, b1⟩
  have U1 := Lib.hid (((V0.out.go b1).num m1).num n1)
  clear n1 m1 b1
  have V1 := Lib.hid (U1.out.newF (.bool true) (.slice Aa ka ca) (.slice Ap kp cp) 32)
  go_wp2_with fail
  refine (fmtA ka ca kp cp Aa Ap _ (V1.out.at (.head _)) (V1.out.at (.tail _ (.head _))) (HT.out.below V1.out.2.2)).mono ?_
  rintro e w2 ⟨rfl, b2⟩
  have V2 := Lib.hid (V1.out.go b2)
  clear b2
  go_wp2_with fail
  refine (ofB _).mono ?_
  rintro e w3 ⟨Ab, cb, kb, Aq, cq, kq, rfl, n3, m3, b3⟩
  have U3 := Lib.hid (((V2.out.go b3).num m3).num n3)
  clear n3 m3 b3
  have V3 := Lib.hid (U3.out.newF (.bool true) (.slice Ab kb cb) (.slice Aq kq cq) 32)
  go_wp2_with fail
  refine (decimal_ex kb cb kq cq Ab Aq _ (V3.out.at (.head _)) (V3.out.at (.tail _ (.head _))) (HT.out.below V3.out.2.2)).mono ?_
  rintro e w4 ⟨rfl, b4⟩
  have V4 := Lib.hid (V3.out.go b4)
  clear b4
  go_wp2_with fail
  refine (parC _ (HC.out.below V4.out.2.2)).mono ?_
  rintro e w5 ⟨rfl, b5⟩
  have V5 := Lib.hid (V4.out.go b5)
  clear b5
  obtain ⟨x5_a0, y5_a0⟩ := V5.out.box (.tail _ (.tail _ (.tail _ (.tail _ (.tail _ (.head _))))))
  obtain ⟨x5_a1, y5_a1⟩ := V5.out.box (.tail _ (.tail _ (.tail _ (.tail _ (.head _)))))
  obtain ⟨x5_a2, y5_a2⟩ := V5.out.box (.tail _ (.tail _ (.tail _ (.head _))))
  have VB := Lib.hid (V5.out.newF (.bool false) (.slice none 0 0) (.slice none 0 0) 32)
  go_wp2_with fail
  refine (fvalid_t true ka ca kp cp _ _ Aa Ap _ (VB.out.at (.tail _ (.tail _ (.head _)))) (VB.out.at (.tail _ (.tail _ (.tail _ (.head _))))) ⟨by omega, gcd32, fun _ => by omega⟩).mono ?_
  rintro e w6 ⟨rfl, b6⟩
  clear x5_a0 y5_a0 x5_a1 y5_a1 x5_a2 y5_a2
  have V6 := Lib.hid (VB.out.go b6)
  clear b6
  obtain ⟨x6_a0, y6_a0⟩ := V6.out.box (.tail _ (.tail _ (.tail _ (.tail _ (.tail _ (.tail _ (.tail _ (.tail _ (.head _)))))))))
  obtain ⟨x6_a1, y6_a1⟩ := V6.out.box (.tail _ (.tail _ (.tail _ (.tail _ (.tail _ (.tail _ (.tail _ (.head _))))))))
  obtain ⟨x6_a2, y6_a2⟩ := V6.out.box (.tail _ (.tail _ (.tail _ (.tail _ (.tail _ (.tail _ (.head _)))))))
  obtain ⟨x6_b0, y6_b0⟩ := V6.out.box (.tail _ (.tail _ (.tail _ (.tail _ (.tail _ (.head _))))))
  obtain ⟨x6_b1, y6_b1⟩ := V6.out.box (.tail _ (.tail _ (.tail _ (.tail _ (.head _)))))
  obtain ⟨x6_b2, y6_b2⟩ := V6.out.box (.tail _ (.tail _ (.tail _ (.head _))))
  go_wp2_with fail
  refine (cmp_ex ka ca kp cp kb cb kq cq Aa Ap Ab Aq _ (V6.out.at (.tail _ (.tail _ (.head _)))) (V6.out.at (.tail _ (.tail _ (.tail _ (.head _))))) (V6.out.at (.head _)) (V6.out.at (.tail _ (.head _)))).mono ?_
  rintro e w7 ⟨rfl, b7⟩
  clear x6_a0 y6_a0 x6_a1 y6_a1 x6_a2 y6_a2 x6_b0 y6_b0 x6_b1 y6_b1 x6_b2 y6_b2
  have V7 := Lib.hid (V6.out.go b7)
  clear b7
  go_wp2_with fail
  go_ret
  exact ⟨rfl, V7.out.2.2⟩
end Go.Proofs.YtkfkefgkepoaaaaGreatDoor
/- Contracts of the reference's Same and Few of fractions. -/
namespace Go.Proofs.YtkfkefgkepoaaaaGreatDoor
open Go.RowKit
set_option linter.unusedVariables false
set_option maxRecDepth 100000

set_option maxHeartbeats 4000000 in
theorem same03_t (s : Bool) (n c m d n2 c2 m2 d2 : Nat) (x y x2 y2 : Int) (A B A2 B2 : Option Addr) (W : World) (hx : NumAt W (.slice A n c) x) (hy : NumAt W (.slice B m d) y) (hx2 : NumAt W (.slice A2 n2 c2) x2) (hy2 : NumAt W (.slice B2 m2 d2) y2) (ex : x = x2) (ey : y = y2) :
    Calls Tryz.prog 9 #[.agg #[.bool s, .slice A n c, .slice B m d], .agg #[.bool s, .slice A2 n2 c2, .slice B2 m2 d2]] W fun e w' => e = .returned (.bool true) ∧ Below W.heap.size W w' := by
  have V0 := Lib.hid (((((((LiveA.start W).num hy2).num hx2).num hy).num hx).newF (.bool s) (.slice A n c) (.slice B m d) 32).newF (.bool s) (.slice A2 n2 c2) (.slice B2 m2 d2) 32)
  have V1 : Hid (LiveA W [(⟨W.heap.size + 1, 2, none⟩, .slice B2 m2 d2), (⟨W.heap.size + 1, 1, none⟩, .slice A2 n2 c2), (⟨W.heap.size + 1, 0, none⟩, .bool s), (⟨W.heap.size, 2, none⟩, .slice B m d), (⟨W.heap.size, 1, none⟩, .slice A n c), (⟨W.heap.size, 0, none⟩, .bool s)] [(.slice A n c, x), (.slice B m d, y), (.slice A2 n2 c2, x2), (.slice B2 m2 d2, y2)] ((W.alloc (.cells #[.bool s, .slice A n c, .slice B m d] 32)).alloc (.cells #[.bool s, .slice A2 n2 c2, .slice B2 m2 d2] 32))) := by
    have h := V0.out
    rw [show (W.alloc (.cells #[.bool s, .slice A n c, .slice B m d] 32)).heap.size = W.heap.size + 1 by simp] at h
    exact h
  clear hx hy hx2 hy2 V0
  cases s with
  | false =>
    go_enter Tryz.func9, Tryz.ntmps9
    go_wp2_with fail
    refine (same_num n c n2 c2 _ _ A A2 _ (V1.out.at (.head _)) (V1.out.at (.tail _ (.tail _ (.head _)))) ex).mono ?_
    rintro e w2 ⟨rfl, b2⟩
    have V2 := Lib.hid (V1.out.go b2)
    clear b2
    obtain ⟨x2_f2, y2_f2⟩ := V2.out.box (.tail _ (.tail _ (.tail _ (.head _))))
    obtain ⟨x2_g2, y2_g2⟩ := V2.out.box (.head _)
    go_wp2_with fail
    refine (same_num m d m2 d2 _ _ B B2 _ (V2.out.at (.tail _ (.head _))) (V2.out.at (.tail _ (.tail _ (.tail _ (.head _))))) ey).mono ?_
    rintro e w3 ⟨rfl, b3⟩
    clear x2_f2 y2_f2 x2_g2 y2_g2
    have V3 := Lib.hid (V2.out.go b3)
    clear b3
    go_wp2_with fail
    go_ret
    exact ⟨rfl, V3.out.2.2⟩
  | true =>
    go_enter Tryz.func9, Tryz.ntmps9
    go_wp2_with fail
    refine (same_num n c n2 c2 _ _ A A2 _ (V1.out.at (.head _)) (V1.out.at (.tail _ (.tail _ (.head _)))) ex).mono ?_
    rintro e w2 ⟨rfl, b2⟩
    have V2 := Lib.hid (V1.out.go b2)
    clear b2
    obtain ⟨x2_f2, y2_f2⟩ := V2.out.box (.tail _ (.tail _ (.tail _ (.head _))))
    obtain ⟨x2_g2, y2_g2⟩ := V2.out.box (.head _)
    go_wp2_with fail
    refine (same_num m d m2 d2 _ _ B B2 _ (V2.out.at (.tail _ (.head _))) (V2.out.at (.tail _ (.tail _ (.tail _ (.head _))))) ey).mono ?_
    rintro e w3 ⟨rfl, b3⟩
    clear x2_f2 y2_f2 x2_g2 y2_g2
    have V3 := Lib.hid (V2.out.go b3)
    clear b3
    go_wp2_with fail
    go_ret
    exact ⟨rfl, V3.out.2.2⟩
/-- A list of fractions, by the lengths of their lists of digits. -/
def FracsAt (w : World) (g : Nat) (ns : List (Nat × Nat)) : Prop := g < w.heap.size ∧ ∀ j, j < ns.length → ∃ s A c B d, w.cell? ⟨g, j * 3, none⟩ = some (.bool s) ∧ w.cell? ⟨g, j * 3 + 1, none⟩ = some (.slice A (ns.getD j (0, 0)).1 c) ∧ w.cell? ⟨g, j * 3 + 2, none⟩ = some (.slice B (ns.getD j (0, 0)).2 d)
theorem FracsAt.below {w w' : World} {g : Nat} {ns : List (Nat × Nat)} (h : FracsAt w g ns) (hb : Below w.heap.size w w') : FracsAt w' g ns := by
  refine ⟨Nat.lt_of_lt_of_le h.1 hb.size, fun j hj => ?_⟩
  obtain ⟨s, A, c, B, d, h1, h2, h3⟩ := h.2 j hj
  exact ⟨s, A, c, B, d, (hb.cell (p := ⟨g, _, none⟩) h.1).trans h1, (hb.cell (p := ⟨g, _, none⟩) h.1).trans h2, (hb.cell (p := ⟨g, _, none⟩) h.1).trans h3⟩
def fewF (ns : List (Nat × Nat)) (k : Nat) : Bool := ns.all fun p => decide (p.1 + p.2 ≤ k)
theorem fewF_step {ns : List (Nat × Nat)} {k j : Nat} (h : j < ns.length) (h1 : fewF (ns.take j) k = true) (h2 : (ns.getD j (0, 0)).1 + (ns.getD j (0, 0)).2 ≤ k) : fewF (ns.take (j + 1)) k = true := by
  unfold fewF at *
  rw [List.take_succ_eq_append_getElem h, List.all_append, h1]
  simp [List.getD_eq_getElem?_getD, h] at h2 ⊢
  exact h2
theorem fewF_stop {ns : List (Nat × Nat)} {k j : Nat} (h : j < ns.length) (h2 : ¬ (ns.getD j (0, 0)).1 + (ns.getD j (0, 0)).2 ≤ k) : fewF ns k = false := by
  unfold fewF
  rw [List.all_eq_false]
  refine ⟨ns[j], List.getElem_mem h, ?_⟩
  simp [List.getD_eq_getElem?_getD, h] at h2 ⊢
  omega
set_option maxHeartbeats 4000000 in
theorem few03_any (ns : List (Nat × Nat)) (g n c most : Nat) (W : World) (hn : ns.length = n) (hn4 : n ≤ 12) (hns : ∀ j, (ns.getD j (0, 0)).1 ≤ 17592186044416 ∧ (ns.getD j (0, 0)).2 ≤ 17592186044416) (hm : most ≤ 1000) (hA : FracsAt W g ns) :
    Calls Tryz.prog 5 #[.slice (some ⟨g, 0, none⟩) n c, .int .i64 most] W fun e w' => e = .returned (.bool (fewF ns most)) ∧ Below W.heap.size W w' := by
  have HN := Lib.hid hn
  have HA := Lib.hid hA
  have HNS := Lib.hid hns
  clear hn hA hns
  go_enter Tryz.func5, Tryz.ntmps5
  go_wp2
  go_loopw [5] (fun i wr => ∃ k : Nat, k ≤ n ∧ i = .int .i64 (k : Int) ∧ fewF (ns.take k) most = true ∧ Below W.heap.size W wr) (fun i _ => n - (intOf i).toNat)
  case atStart => exact ⟨0, Nat.zero_le _, rfl, by simp [fewF], Below.refl _ _⟩
  case round =>
    obtain ⟨k, hk, rfl, hf, hb⟩ := hrel
    have HF := Lib.hid hf
    have HB := Lib.hid hb
    clear hf hb
    by_cases hlt : k < n
    · obtain ⟨s, A, cA, B, cB, h0, h1, h2⟩ := (HA.out.below HB.out).2 k (by rw [HN.out]; exact hlt)
      obtain ⟨u, hu⟩ : ∃ u, u = (ns.getD k (0, 0)).1 := ⟨_, rfl⟩
      obtain ⟨v, hv⟩ : ∃ u, u = (ns.getD k (0, 0)).2 := ⟨_, rfl⟩
      have hu4 : u ≤ 17592186044416 := by rw [hu]; exact (HNS.out k).1
      have hv4 : v ≤ 17592186044416 := by rw [hv]; exact (HNS.out k).2
      rw [← hu] at h1
      rw [← hv] at h2
      have HU := Lib.hid hu
      have HVV := Lib.hid hv
      have HS2 := Lib.hid (small2 hu4 hv4)
      clear hu hv hu4 hv4
      by_cases hle : u + v ≤ most
      · have HD := Lib.hid (show decide (([u, v] : List Nat).sum ≤ most) = true from decide_eq_true (by simpa using hle))
        have HST := Lib.hid (fewF_step (by rw [HN.out]; exact hlt) HF.out (by rw [← HU.out, ← HVV.out]; exact hle))
        clear hle
        go_wp2_with fail
        go_region_with ((go_at_call 18; (refine (Few_any [u, v] _ 2 2 most _ rfl (by omega) HS2.out hm (by intro j hj; exact nats2 wr wr.heap.size u v cA cB A B _ rfl j hj)).mono ?_); rintro e w5 ⟨rfl, rfl⟩; rw [HD.out]))
        all_goals (go_wp2_with fail)
        all_goals go_roundw
        all_goals first
          | exact ⟨k + 1, by omega, by go_num, HST.out, by first | exact btwo HB.out one_new | exact btwo HB.out (btwo one_new (Below.refl _ _).drew) | exact bdr (btwo HB.out one_new) _⟩
          | (simp [intOf]; omega)
      · have HD := Lib.hid (show decide (([u, v] : List Nat).sum ≤ most) = false from decide_eq_false (by simpa using hle))
        have HST := Lib.hid (fewF_stop (by rw [HN.out]; exact hlt) (by rw [← HU.out, ← HVV.out]; exact hle))
        clear hle
        go_wp2_with fail
        go_region_with ((go_at_call 18; (refine (Few_any [u, v] _ 2 2 most _ rfl (by omega) HS2.out hm (by intro j hj; exact nats2 wr wr.heap.size u v cA cB A B _ rfl j hj)).mono ?_); rintro e w5 ⟨rfl, rfl⟩; rw [HD.out]))
        all_goals (go_wp2_with fail)
        all_goals go_ret
        all_goals exact ⟨ret_bool HST.out, by first | exact btwo HB.out one_new | exact btwo HB.out (btwo one_new (Below.refl _ _).drew) | exact bdr (btwo HB.out one_new) _⟩
    · obtain rfl : k = n := by omega
      rw [List.take_of_length_le (by rw [HN.out]; exact Nat.le_refl _)] at HF
      clear hlt
      go_wp2_with fail
      go_ret
      exact ⟨ret_bool HF.out, HB.out⟩
end Go.Proofs.YtkfkefgkepoaaaaGreatDoor
/- Plain mathematics: the text of a fraction is taken apart again. -/
namespace Go.Proofs.YtkfkefgkepoaaaaGreatDoor
open Go.RowKit
set_option linter.unusedVariables false
set_option maxRecDepth 100000

theorem index_split (b : List UInt8) : ∀ a : List UInt8, (47 : UInt8) ∉ a → Lib.index (a ++ 47 :: b) [47] = a.length
  | [], _ => by simp [Lib.index]
  | x :: a, h => by
    have hx : ¬ (47 : UInt8) = x := fun e => h (by rw [e]; exact List.mem_cons_self)
    have ih := index_split b a (fun hm => h (List.mem_cons_of_mem _ hm))
    rw [List.cons_append]
    unfold Lib.index
    rw [ih, if_neg (by simp [hx]), if_neg (by first | (simp; done) | (simp; omega)), List.length_cons]
    omega
theorem index_no : ∀ a : List UInt8, (47 : UInt8) ∉ a → Lib.index a [47] = -1
  | [], _ => by simp [Lib.index]
  | x :: a, h => by
    have hx : ¬ (47 : UInt8) = x := fun e => h (by rw [e]; exact List.mem_cons_self)
    have ih := index_no a (fun hm => h (List.mem_cons_of_mem _ hm))
    unfold Lib.index
    rw [ih, if_neg (by simp [hx])]
    rfl
theorem cut_split (a b : List UInt8) (h : (47 : UInt8) ∉ a) : Lib.cut (a ++ 47 :: b) [47] = (a, b, true) := by
  unfold Lib.cut
  rw [index_split b a h, if_pos (by omega)]
  simp
theorem cut_no (a : List UInt8) (h : (47 : UInt8) ∉ a) : Lib.cut a [47] = (a, [], false) := by
  unfold Lib.cut
  rw [index_no a h, if_neg (by omega)]
theorem dig_no {l : List UInt8} (h : allD l) (c : UInt8) (hc : isd c = false) : c ∉ l := fun hm => by
  have := h c hm
  rw [hc] at this; cases this
theorem pre_of (c x : UInt8) (l : List UInt8) (h : ¬ c = x) : Lib.hasPrefix (x :: l) [c] = false := by
  simp [Lib.hasPrefix, List.isPrefixOf, h]
theorem pre_yes (c : UInt8) (l : List UInt8) : Lib.hasPrefix (c :: l) [c] = true := by
  simp [Lib.hasPrefix, List.isPrefixOf]
theorem neg_ftext (s : Bool) (p q : Int) : negOf (ftext s p q) = s ∧ restOf (ftext s p q) = fmt p ++ (if q = 1 then [] else 47 :: fmt q) := by
  cases s with
  | true =>
    have e : ftext true p q = 45 :: (fmt p ++ (if q = 1 then [] else 47 :: fmt q)) := by simp [ftext]
    rw [e]
    unfold negOf restOf Lib.trimPrefix
    rw [pre_yes]
    exact ⟨rfl, by simp⟩
  | false =>
    have e : ftext false p q = fmt p ++ (if q = 1 then [] else 47 :: fmt q) := by simp [ftext]
    rw [e]
    obtain ⟨hne, hd, _⟩ := fmt_isT p
    obtain ⟨x, l, hl⟩ := List.exists_cons_of_ne_nil hne
    have hx : ¬ (45 : UInt8) = x := fun e => dig_no hd 45 (by decide) (by rw [hl, e]; exact List.mem_cons_self)
    rw [hl, List.cons_append]
    unfold negOf restOf Lib.trimPrefix
    rw [pre_of 45 x _ hx]
    exact ⟨rfl, by simp⟩
theorem parts_ftext (s : Bool) (p q : Int) : numOf (ftext s p q) = fmt p ∧ denOf (ftext s p q) = fmt q ∧ divOf (ftext s p q) = !decide (q = 1) := by
  have hn : (47 : UInt8) ∉ fmt p := dig_no (fmt_isT p).2.1 47 (by decide)
  unfold numOf denOf divOf
  rw [(neg_ftext s p q).2]
  by_cases h : q = 1
  · rw [if_pos h, List.append_nil, cut_no _ hn]
    refine ⟨rfl, ?_, by simp [h]⟩
    rw [if_neg (by simp), h]
    decide +kernel
  · rw [if_neg h, cut_split _ _ hn]
    exact ⟨rfl, by simp, by simp [h]⟩
end Go.Proofs.YtkfkefgkepoaaaaGreatDoor
/- How a fraction that came in is opened: a bool and two numbers by value. -/
namespace Go.Proofs.YtkfkefgkepoaaaaGreatDoor
open Go.ChangeShapes Go.WideShapes Go.ChangeAt Go.RowKit
set_option linter.unusedVariables false
set_option maxRecDepth 100000

theorem cellsFrac : Tryz.prog.cellsOf 32 = 3 := by kernel_rfl
theorem cellsBool : Tryz.prog.cellsOf 4 = 1 := by kernel_rfl
/-- A number inside a struct that came in. -/
theorem nat_field {H : Type} {enc : TypeId × Value → H} {W : World} {fuel : Nat} {x : Value} {yd : DataW H} {yp : List MemPlace}
    (hf : DataW.trod enc Tryz.prog W 0 (fun _ => true) true fuel 30 [x] = some (yd, yp)) (hw : ∀ m ∈ yd.weights Tryz.prog 30, m ≤ reachBytes) :
    ∃ (A : Option Addr) (n c : Nat) (L : List Int), x = .slice A n c ∧ L.length = n ∧ n ≤ c ∧ c ≤ 17592186044416 ∧ IntsIn W A L := by
  obtain ⟨y0, n, hx, _, h0⟩ := trod_struct1 Tryz.underlying30 hf
  obtain ⟨zd, zp⟩ := y0
  simp only [Prod.mk.injEq] at hx
  have h0' : DataW.trod enc Tryz.prog W 0 (fun _ => true) true n 28 [x] = some (zd, zp) := by
    have e : Tryz.prog.cellsOf 28 = 1 := by kernel_rfl
    simpa [e] using h0
  rcases open_ints Tryz.underlying28 Tryz.underlying3 Tryz.cellsInt h0' with ⟨hcs, hy⟩ | ⟨a, len, cap, zs, hcs, _, hl, hm, hz, hy, hcell, hwz⟩
  · simp only [List.cons.injEq, and_true] at hcs
    subst hcs
    exact ⟨none, 0, 0, [], rfl, rfl, Nat.le_refl _, Nat.zero_le _, IntsIn.nil _ _⟩
  · simp only [List.cons.injEq, and_true] at hcs
    subst hcs
    simp only [if_true] at hz
    simp only [Prod.mk.injEq] at hy
    rw [hx.1, hy.1] at hw
    have hr := nat_weights hw
    simp only [lits, List.length_map, List.length_take, List.length_drop, hz, Nat.min_eq_left hl] at hr
    have hb := reachBytes_lt
    have hlen : (zs.take len).length = len := by rw [List.length_take, hz, Nat.min_eq_left hl]
    refine ⟨some a, len, cap, zs.take len, rfl, hlen, hl, by omega, fun h0 => ?_⟩
    rw [hlen] at h0
    obtain ⟨b, off, spot⟩ := a
    have hc0 := hcell 0 (by omega)
    have hspot : spot = none := by simpa [Addr.add] using World.cell?_spot hc0
    subst hspot
    refine ⟨b, off, rfl, ?_, fun j hj => ?_⟩
    · have := World.block_lt_of_cell? W _ hc0
      simpa [Addr.add] using this
    · rw [hlen] at hj
      have := hcell j (by omega)
      rw [show (⟨b, off, none⟩ : Addr).add j = ⟨b, off + j, none⟩ from by unfold Addr.add; split <;> simp_all] at this
      rw [this, getD_take hj]
theorem bool_field {H : Type} {enc : TypeId × Value → H} {W : World} {fuel : Nat} {x : Value} {y : DataW H × List MemPlace}
    (hf : DataW.trod enc Tryz.prog W 0 (fun _ => true) true fuel 4 [x] = some y) : ∃ b : Bool, x = .bool b := by
  cases fuel with
  | zero => simp [DataW.trod] at hf
  | succ k =>
    simp only [DataW.trod, Tryz.underlying4] at hf
    split at hf
    all_goals first
      | (rename_i b hb; exact ⟨_, by simp_all⟩)
      | (simp at hf; done)
      | simp_all
/-- A fraction that came in by value. -/
theorem open_frac {H : Type} {enc : TypeId × Value → H} {W : World} {r : Reach} {b0 : Nat} {v : Value} {d : DataW H} {p : List MemPlace} (hv : Value.okWide Tryz.prog W r b0 32 v)
    (h : DataW.Trod enc Tryz.prog W 0 (fun _ => true) true 32 v d p) (hw : ∀ m ∈ d.weights Tryz.prog 32, m ≤ reachBytes) :
    ∃ (s : Bool) (A B : Option Addr) (n c m e : Nat) (L M : List Int), v = .agg #[.bool s, .slice A n c, .slice B m e] ∧ L.length = n ∧ M.length = m ∧ n ≤ c ∧ m ≤ e ∧ c ≤ 17592186044416 ∧ e ≤ 17592186044416 ∧ IntsIn W A L ∧ IntsIn W B M := by
  obtain ⟨cs, rfl, hsz⟩ := okWide_struct Tryz.underlying32 hv
  rw [cellsFrac] at hsz
  obtain ⟨x, y, z, rfl⟩ : ∃ x y z, cs = #[x, y, z] := by
    obtain ⟨l⟩ := cs
    match l, hsz with
    | [x, y, z], _ => exact ⟨x, y, z, rfl⟩
  obtain ⟨fuel, hf⟩ := h
  obtain ⟨y0, y1, y2, n, hx, _, h0, h1, h2⟩ := Go.Deep.trod_struct3 Tryz.underlying32 hf
  obtain ⟨d1, p1⟩ := y1
  obtain ⟨d2, p2⟩ := y2
  simp only [Prod.mk.injEq] at hx
  rw [hx.1] at hw
  have k0 : DataW.trod enc Tryz.prog W 0 (fun _ => true) true n 4 [x] = some y0 := by simpa [Value.cells, cellsBool] using h0
  have k1 : DataW.trod enc Tryz.prog W 0 (fun _ => true) true n 30 [y] = some (d1, p1) := by simpa [Value.cells, Tryz.cellsNat] using h1
  have k2 : DataW.trod enc Tryz.prog W 0 (fun _ => true) true n 30 [z] = some (d2, p2) := by simpa [Value.cells, Tryz.cellsNat] using h2
  obtain ⟨s, rfl⟩ := bool_field k0
  have hw1 : ∀ m ∈ d1.weights Tryz.prog 30, m ≤ reachBytes := fun m hm => hw m (by simp only [DataW.weights, Tryz.underlying32]; simp [DataW.weightsEach, hm])
  have hw2 : ∀ m ∈ d2.weights Tryz.prog 30, m ≤ reachBytes := fun m hm => hw m (by simp only [DataW.weights, Tryz.underlying32]; simp [DataW.weightsEach, hm])
  obtain ⟨A, n1, c1, L, rfl, a1, a2, a3, a4⟩ := nat_field k1 hw1
  obtain ⟨B, n2, c2, M, rfl, b1, b2, b3, b4⟩ := nat_field k2 hw2
  exact ⟨s, A, B, n1, c1, n2, c2, L, M, rfl, a1, b1, a2, b2, a3, b3, a4, b4⟩
end Go.Proofs.YtkfkefgkepoaaaaGreatDoor
/- What the statement about the text of a fraction answers: true, whatever the input. -/
namespace Go.Proofs.YtkfkefgkepoaaaaGreatDoor
open Go.RowKit
set_option linter.unusedVariables false
set_option maxRecDepth 100000

theorem parse_text (s : Bool) (p q : Int) (W : World) (hC : Cutl W) (hp : 0 ≤ p) (hp2 : (digs p).length ≤ 200) (hq2 : (digs q).length ≤ 200) (hv : 0 < q ∧ gcdI p q = 1 ∧ (s = true → 0 < p)) :
    Calls Tryz.prog 15 #[.string ⟨(ftext s p q).toArray⟩] W (FrOk s p q W) := by
  obtain ⟨e1, e2, e3⟩ := parts_ftext s p q
  have e4 := (neg_ftext s p q).1
  have hq : 0 ≤ q := by omega
  have l1 := fmt_len hp2
  have l2 := fmt_len hq2
  have hl : (ftext s p q).length ≤ 100000 := by
    unfold ftext
    rw [List.length_append, List.length_append]
    have i1 : (if s = true then ([45] : List UInt8) else []).length ≤ 1 := by split <;> simp
    have i2 : (if q = 1 then ([] : List UInt8) else 47 :: fmt q).length ≤ 801 := by
      split
      · simp
      · rw [List.length_cons]; omega
    omega
  have h := fparse_nums (ftext s p q) W hl hC ⟨by rw [e1]; exact ⟨(isTB_iff _).2 (fmt_isT p), by omega⟩, by rw [e2]; exact ⟨(isTB_iff _).2 (fmt_isT q), by omega⟩⟩
    (by rw [e2, e3, fmt_dec hq]; simp) (by rw [e1, e2, e4, fmt_dec hp, fmt_dec hq]; exact hv)
  rw [e1, e2, e4, fmt_dec hp, fmt_dec hq] at h
  exact h
set_option maxHeartbeats 2000000 in
theorem fformat_bad (s : Bool) (L M : List Int) (n c m d : Nat) (A B : Option Addr) (W : World) (hn : L.length = n) (hm : M.length = m) (hnc : n ≤ c) (hmd : m ≤ d) (hc63 : c ≤ maxLen) (hd63 : d ≤ maxLen) (hA : IntsIn W A L) (hB : IntsIn W B M) (hv : vldF s L M = false) :
    Calls Tryz.prog 13 #[.agg #[.bool s, .slice A n c, .slice B m d]] W fun e w' => e = .returned (.tuple #[.string ⟨#[]⟩, .int .i64 1]) ∧ Below W.heap.size W w' := by
  have B0 : Below W.heap.size W (W.alloc (.cells #[.bool s, .slice A n c, .slice B m d] 32)) := (Below.refl _ _).alloc (Nat.le_refl _) _
  have HA := Lib.hid (hA.below B0)
  have HB := Lib.hid (hB.below B0)
  have HB0 := Lib.hid B0
  have HV := Lib.hid hv
  have HN := Lib.hid hn
  have HM := Lib.hid hm
  clear hA hB B0 hv hn hm
  go_enter Tryz.func13, Tryz.ntmps13
  go_wp2_with fail
  refine (fvalid_any s L M n c m d A B _ HN.out HM.out hnc hmd hc63 hd63 HA.out HB.out).mono ?_
  rintro e w1 ⟨rfl, b1⟩
  rw [HV.out]
  go_wp2_with fail
  go_ret2
  exact ⟨rfl, btwo HB0.out b1⟩
theorem fvalid_is (s : Bool) (L M : List Int) (n c m d : Nat) (A B : Option Addr) (W : World) (hn : L.length = n) (hm : M.length = m) (hnc : n ≤ c) (hmd : m ≤ d) (hc63 : c ≤ maxLen) (hd63 : d ≤ maxLen) (hA : IntsIn W A L) (hB : IntsIn W B M) {b : Bool} (hv : vldF s L M = b) : Calls Tryz.prog 16 #[.agg #[.bool s, .slice A n c, .slice B m d]] W fun e w' => e = .returned (.bool b) ∧ Below W.heap.size W w' := by
  have := fvalid_any s L M n c m d A B W hn hm hnc hmd hc63 hd63 hA hB
  rwa [hv] at this
theorem rfvalid_is (s : Bool) (L M : List Int) (n c m d : Nat) (A B : Option Addr) (W : World) (hn : L.length = n) (hm : M.length = m) (hnc : n ≤ c) (hmd : m ≤ d) (hc63 : c ≤ maxLen) (hd63 : d ≤ maxLen) (hA : IntsIn W A L) (hB : IntsIn W B M) {b : Bool} (hv : vldF s L M = b) : Calls Tryz.prog 20 #[.agg #[.bool s, .slice A n c, .slice B m d]] W fun e w' => e = .returned (.bool b) ∧ Below W.heap.size W w' := by
  have := rfvalid_any s L M n c m d A B W hn hm hnc hmd hc63 hd63 hA hB
  rwa [hv] at this
theorem heldx_go {W w w' : World} {g : Nat} {u v x : Value} (h : Below W.heap.size W w ∧ (w.cell? ⟨g, 0, none⟩ = some u ∧ w.cell? ⟨g, 1, none⟩ = some v ∧ w.cell? ⟨g, 2, none⟩ = some x)) (hb : Below w.heap.size w w') :
    Below W.heap.size W w' ∧ (w'.cell? ⟨g, 0, none⟩ = some u ∧ w'.cell? ⟨g, 1, none⟩ = some v ∧ w'.cell? ⟨g, 2, none⟩ = some x) :=
  ⟨btwo h.1 hb, (hb.cell (p := ⟨g, 0, none⟩) (World.block_lt_of_cell? _ _ h.2.1)).trans h.2.1, (hb.cell (p := ⟨g, 1, none⟩) (World.block_lt_of_cell? _ _ h.2.2.1)).trans h.2.2.1, (hb.cell (p := ⟨g, 2, none⟩) (World.block_lt_of_cell? _ _ h.2.2.2)).trans h.2.2.2⟩
theorem heldx_i {W w : World} {g : Nat} {u v x : Value} {A : Option Addr} {L : List Int} (h : Below W.heap.size W w ∧ (w.cell? ⟨g, 0, none⟩ = some u ∧ w.cell? ⟨g, 1, none⟩ = some v ∧ w.cell? ⟨g, 2, none⟩ = some x)) (hA : IntsIn W A L) : IntsIn w A L := hA.below h.1
theorem LiveA.over {W w w' : World} {lc : List (Addr × Value)} {ln : List (Value × Int)} (h : LiveA W lc ln w) (hb : Below w.heap.size w w') : LiveA W lc ln w' := h.go hb
theorem fracs_one (s : Bool) (A B : Option Addr) (n c m d : Nat) (w : World) : FracsAt (w.alloc (.cells #[.bool s, .slice A n c, .slice B m d] 32)) w.heap.size [(n, m)] := by
  have hr := heap_alloc_new w (.cells #[.bool s, .slice A n c, .slice B m d] 32)
  refine ⟨by simp, fun j hj => ?_⟩
  obtain rfl : j = 0 := by simpa using hj
  exact ⟨s, A, c, B, d, by rw [cell_of_row _ _ 0 _ _ _ hr]; rfl, by rw [cell_of_row _ _ 1 _ _ _ hr]; rfl, by rw [cell_of_row _ _ 2 _ _ _ hr]; rfl⟩
end Go.Proofs.YtkfkefgkepoaaaaGreatDoor
