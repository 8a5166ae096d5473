/- Contract of Parse of fractions. -/
import Derived.Test.YtpinnopdimjfjaaGreatDoorFd
import Derived.Test.YtpinnopdimjfjaaGreatDoorFc
import Derived.Test.YtpinnopdimjfjaaGreatDoorShelf
import Derived.Test.YtpinnopdimjfjaaGreatDoorNWp
namespace Go.Proofs.YtpinnopdimjfjaaGreatDoor
open Go.RowKit
set_option linter.unusedVariables false
set_option maxRecDepth 100000

/-- The pieces of a text: is there a sign, what stands ahead of the slash, what behind it (1 if there is none), is there one. -/
def negOf (l : List UInt8) : Bool := Lib.hasPrefix l [45]
def restOf (l : List UInt8) : List UInt8 := Lib.trimPrefix l [45]
def numOf (l : List UInt8) : List UInt8 := (Lib.cut (restOf l) [47]).1
def divOf (l : List UInt8) : Bool := (Lib.cut (restOf l) [47]).2.2
def denOf (l : List UInt8) : List UInt8 := if divOf l = true then (Lib.cut (restOf l) [47]).2.1 else [49]
/-- What a world knows of the variable that strings.Cut reads. -/
def Cutl (w : World) : Prop := ∃ m : Int, w.cell? ⟨0, 0, none⟩ = some (.int .i64 m) ∧ 0 < w.heap.size
theorem Cutl.below {w w' : World} (h : Cutl w) (hb : Below w.heap.size w w') : Cutl w' := by
  obtain ⟨m, h1, h2⟩ := h
  exact ⟨m, (hb.cell (p := ⟨0, 0, none⟩) h2).trans h1, Nat.lt_of_lt_of_le h2 hb.size⟩
theorem cutP (s : ByteArray) (w : World) : Calls Tryz.prog 69 #[.string s, .string ⟨#[45]⟩] w fun e w' => e = .returned (.tuple #[.string ⟨(restOf s.data.toList).toArray⟩, .bool (negOf s.data.toList)]) ∧ w = w' := by
  refine (Tryz.strings_CutPrefix s ⟨#[45]⟩ w).mono ?_
  rintro e w' ⟨rfl, rfl⟩
  exact ⟨rfl, rfl⟩
theorem cutS (l : List UInt8) (w : World) (hs : (restOf l).length < 4294967281) (hC : Cutl w) : Calls Tryz.prog 70 #[.string ⟨(restOf l).toArray⟩, .string ⟨#[47]⟩] w fun e w' => e = .returned (.tuple #[.string ⟨(numOf l).toArray⟩, .string ⟨(Lib.cut (restOf l) [47]).2.1.toArray⟩, .bool (divOf l)]) ∧ Below w.heap.size w w' := by
  obtain ⟨m, h1, h2⟩ := hC
  refine (Tryz.strings_Cut ⟨(restOf l).toArray⟩ ⟨#[47]⟩ m w (by simpa [ByteArray.size] using hs) h1).mono ?_
  rintro e w' ⟨he, n, hw⟩
  subst hw
  exact ⟨by rw [he]; simp [numOf, divOf], bdr (Below.refl _ _) n⟩
theorem LiveA.new1F {W w : World} {lc : List (Addr × Value)} {ln : List (Value × Int)} (h : LiveA W lc ln w) (v1 : Value) (T1 : TypeId) (u v x : Value) (T : TypeId) : LiveA W ((⟨w.heap.size + 1, 2, none⟩, x) :: (⟨w.heap.size + 1, 1, none⟩, v) :: (⟨w.heap.size + 1, 0, none⟩, u) :: (⟨w.heap.size, 0, none⟩, v1) :: lc) ln ((w.alloc (.cells #[v1] T1)).alloc (.cells #[u, v, x] T)) := by
  have h2 := (h.new v1 T1).newF u v x T
  rw [show (w.alloc (.cells #[v1] T1)).heap.size = w.heap.size + 1 by simp] at h2
  exact h2
def FrErr (x : Int) (W : World) (e : Ending) (w' : World) : Prop := e = .returned (.tuple #[.agg #[.bool false, .slice none 0 0, .slice none 0 0], .int .i64 x]) ∧ Below W.heap.size W w'
theorem fr_err {W w : World} {g : Nat} {x : Int} {u v y : Value} (hW : W.heap.size ≤ g) (hb : Below W.heap.size W w) : FrErr x W (.returned (.tuple #[.agg #[.bool false, .slice none 0 0, .slice none 0 0], .int .i64 x])) (((w.setCell ⟨g, 0, none⟩ u).setCell ⟨g, 1, none⟩ v).setCell ⟨g, 2, none⟩ y) :=
  ⟨rfl, ((hb.setCell (p := ⟨g, 0, none⟩) hW _).setCell (p := ⟨g, 1, none⟩) hW _).setCell (p := ⟨g, 2, none⟩) hW _⟩
theorem parse_num (l : List UInt8) (b : ByteArray) (W : World) (hb : b = ⟨l.toArray⟩) (h : isTB l = true) (h8 : ¬ 800 < l.length) : Calls Tryz.prog 71 #[.string b] W (ValPost (decV l) W) := by
  subst hb
  have ha := ((isTB_iff l).1 h).2.1
  refine (parse_any ⟨l.toArray⟩ W (by simp [ByteArray.size]; unfold maxLen; omega)).mono fun e w' hp => val_post hp ?_ (decV_nonneg ha) (decV_bound ha (by omega))
  dsimp only
  exact parse_ok h h8
/-- Which texts stand for a fraction. -/
def fok (l : List UInt8) : Prop := (isTB (numOf l) = true ∧ ¬ 800 < (numOf l).length) ∧ (isTB (denOf l) = true ∧ ¬ 800 < (denOf l).length)
set_option maxHeartbeats 8000000 in
theorem fparse_nums (l : List UInt8) (W : World) (hs : l.length ≤ 100000) (hC : Cutl W) (hk : fok l) (hd1 : ¬ (divOf l = true ∧ decV (denOf l) = 1)) (hv : 0 < decV (denOf l) ∧ gcdI (decV (numOf l)) (decV (denOf l)) = 1 ∧ (negOf l = true → 0 < decV (numOf l))) :
    Calls Tryz.prog 40 #[.string ⟨l.toArray⟩] W (FrOk (negOf l) (decV (numOf l)) (decV (denOf l)) W) := by
  have HC := Lib.hid (hC.below (w' := W.alloc (.cells #[.bool false, .slice none 0 0, .slice none 0 0] 30)) one_new)
  have HBE := Lib.hid (show Below W.heap.size W (W.alloc (.cells #[.bool false, .slice none 0 0, .slice none 0 0] 30)) from one_new)
  have HKE := Lib.hid (keptF_new W)
  have V0 := Lib.hid (LiveA.start (W.alloc (.cells #[.bool false, .slice none 0 0, .slice none 0 0] 30)))
  have HRL := Lib.hid (show (restOf l).length < 4294967281 by
    unfold restOf Lib.trimPrefix; split
    · rw [List.length_drop]; omega
    · omega)
  obtain ⟨⟨k1, k2⟩, k3, k4⟩ := hk
  obtain ⟨p, hp⟩ : ∃ p, p = decV (numOf l) := ⟨_, rfl⟩
  obtain ⟨q, hq⟩ : ∃ q, q = decV (denOf l) := ⟨_, rfl⟩
  obtain ⟨sb, hsb⟩ : ∃ b, b = negOf l := ⟨_, rfl⟩
  have HPN := Lib.hid (fun (b : ByteArray) (w : World) (hb : b = ⟨(numOf l).toArray⟩) => (show Calls Tryz.prog 71 #[.string b] w (ValPost p w) by rw [hp]; exact parse_num _ b w hb k1 k2))
  have HPD := Lib.hid (fun (b : ByteArray) (w : World) (hb : b = ⟨(denOf l).toArray⟩) => (show Calls Tryz.prog 71 #[.string b] w (ValPost q w) by rw [hq]; exact parse_num _ b w hb k3 k4))
  rw [← hp, ← hq, ← hsb] at hv
  rw [← hq] at hd1
  rw [← hp, ← hq, ← hsb]
  have HV := Lib.hid hv
  have HSB := Lib.hid hsb
  have CP := Lib.hid (fun (w : World) => (show Calls Tryz.prog 69 #[.string ⟨l.toArray⟩, .string ⟨#[45]⟩] w fun e w' => e = .returned (.tuple #[.string ⟨(restOf l).toArray⟩, .bool sb]) ∧ w = w' by
    have h := cutP ⟨l.toArray⟩ w
    dsimp only at h
    rw [hsb]; exact h))
  clear hC hp hq hsb k1 k2 k3 k4 hv
  by_cases hd : divOf l = true
  · have hq1 : ¬ q = 1 := fun e => hd1 ⟨hd, e⟩
    have CS := Lib.hid (fun (w : World) (h : Cutl w) => (show Calls Tryz.prog 70 #[.string ⟨(restOf l).toArray⟩, .string ⟨#[47]⟩] w fun e w' => e = .returned (.tuple #[.string ⟨(numOf l).toArray⟩, .string ⟨(denOf l).toArray⟩, .bool true]) ∧ Below w.heap.size w w' by
      have h := cutS l w HRL.out h
      rw [hd] at h
      unfold denOf; rw [if_pos hd]; exact h))
    clear hd hd1
    go_enter Tryz.func40, Tryz.ntmps40
    go_wp2_with fail
    refine (CP.out _).mono ?_
    rintro e w' ⟨rfl, rfl⟩
    go_wp2_with fail
    refine (CS.out _ HC.out).mono ?_
    rintro e w1 ⟨rfl, b1⟩
    have V1 := Lib.hid (V0.out.go b1)
    clear b1
    go_wp2_with fail
    refine (HPN.out _ _ rfl).mono ?_
    rintro e w2 ⟨Ap, cp, kp, rfl, n2, b2⟩
    have U2 := Lib.hid ((V1.out.go b2).num n2)
    clear n2 b2
    have V2 := Lib.hid (U2.out.new (.slice Ap kp cp) 24)
    go_wp2_with fail
    refine (HPD.out _ _ rfl).mono ?_
    rintro e w3 ⟨Aq, cq, kq, rfl, n3, b3⟩
    have U3 := Lib.hid ((V2.out.go b3).num n3)
    clear n3 b3
    obtain ⟨x3_p, y3_p⟩ := U3.out.box (.head _)
    have V3 := Lib.hid (U3.out.new (.slice Aq kq cq) 24)
    have V3f := Lib.hid (U3.out.new1F (.slice Aq kq cq) 24 (.bool sb) (.slice Ap kp cp) (.slice Aq kq cq) 30)
    go_wp2_with fail
    refine (isOne_f kq cq _ Aq _ (V3f.out.at (.head _)) hq1).mono ?_
    rintro e w4 ⟨rfl, b4⟩
    clear x3_p y3_p
    have V4 := Lib.hid (V3f.out.go b4)
    clear b4
    obtain ⟨x4_f2, y4_f2⟩ := V4.out.box (.head _)
    obtain ⟨x4_f1, y4_f1⟩ := V4.out.box (.tail _ (.head _))
    obtain ⟨x4_f0, y4_f0⟩ := V4.out.box (.tail _ (.tail _ (.head _)))
    go_wp2_with fail
    refine (fvalid_t sb kp cp kq cq _ _ Ap Aq _ (V4.out.at (.tail _ (.head _))) (V4.out.at (.head _)) HV.out).mono ?_
    rintro e w5 ⟨rfl, b5⟩
    clear x4_f2 y4_f2 x4_f1 y4_f1 x4_f0 y4_f0
    have V5 := Lib.hid (V4.out.go b5)
    clear b5
    obtain ⟨x5_f2, y5_f2⟩ := V5.out.box (.head _)
    obtain ⟨x5_f1, y5_f1⟩ := V5.out.box (.tail _ (.head _))
    obtain ⟨x5_f0, y5_f0⟩ := V5.out.box (.tail _ (.tail _ (.head _)))
    have K9 := Lib.hid (HKE.out.go V5.out.2.2)
    have HB9 := Lib.hid (btwo HBE.out V5.out.2.2)
    obtain ⟨k0, k1, k2, k3, k4, k5, k6⟩ := K9.out.facts
    go_wp2_with fail
    refine bodyPost_ret (v := .tuple #[.agg #[.bool sb, .slice Ap kp cp, .slice Aq kq cq], .int .i64 0]) ?_ rfl ?_
    · simp [results, Tryz.results40, go_sem, k0, k1, k2]
    · have h := fr_ok (s := sb) K9.out (Nat.le_refl _) (V5.out.at (.tail _ (.head _))) (V5.out.at (.head _)) HB9.out
      exact h
  · have HD1 := Lib.hid (show (⟨#[49]⟩ : ByteArray) = ⟨(denOf l).toArray⟩ by unfold denOf; rw [if_neg hd])
    obtain ⟨td, htd⟩ : ∃ b : ByteArray, b = ⟨(Lib.cut (restOf l) [47]).2.1.toArray⟩ := ⟨_, rfl⟩
    have hdf : divOf l = false := by simpa using hd
    have CS := Lib.hid (fun (w : World) (h : Cutl w) => (show Calls Tryz.prog 70 #[.string ⟨(restOf l).toArray⟩, .string ⟨#[47]⟩] w fun e w' => e = .returned (.tuple #[.string ⟨(numOf l).toArray⟩, .string td, .bool false]) ∧ Below w.heap.size w w' by
      have h := cutS l w HRL.out h
      rw [hdf] at h
      rw [htd]; exact h))
    clear hd hd1 hdf htd
    go_enter Tryz.func40, Tryz.ntmps40
    go_wp2_with fail
    refine (CP.out _).mono ?_
    rintro e w' ⟨rfl, rfl⟩
    go_wp2_with fail
    refine (CS.out _ HC.out).mono ?_
    rintro e w1 ⟨rfl, b1⟩
    have V1 := Lib.hid (V0.out.go b1)
    clear b1
    go_wp2_with fail
    refine (HPN.out _ _ rfl).mono ?_
    rintro e w2 ⟨Ap, cp, kp, rfl, n2, b2⟩
    have U2 := Lib.hid ((V1.out.go b2).num n2)
    clear n2 b2
    have V2 := Lib.hid (U2.out.new (.slice Ap kp cp) 24)
    go_wp2_with fail
    refine (HPD.out _ _ HD1.out).mono ?_
    rintro e w3 ⟨Aq, cq, kq, rfl, n3, b3⟩
    have U3 := Lib.hid ((V2.out.go b3).num n3)
    clear n3 b3
    obtain ⟨x3_p, y3_p⟩ := U3.out.box (.head _)
    have V3 := Lib.hid (U3.out.new (.slice Aq kq cq) 24)
    have V3f := Lib.hid (U3.out.new1F (.slice Aq kq cq) 24 (.bool sb) (.slice Ap kp cp) (.slice Aq kq cq) 30)
    go_wp2_with fail
    refine (fvalid_t sb kp cp kq cq _ _ Ap Aq _ (V3f.out.at (.tail _ (.head _))) (V3f.out.at (.head _)) HV.out).mono ?_
    rintro e w4 ⟨rfl, b4⟩
    clear x3_p y3_p
    have V4 := Lib.hid (V3f.out.go b4)
    clear b4
    obtain ⟨x4_f2, y4_f2⟩ := V4.out.box (.head _)
    obtain ⟨x4_f1, y4_f1⟩ := V4.out.box (.tail _ (.head _))
    obtain ⟨x4_f0, y4_f0⟩ := V4.out.box (.tail _ (.tail _ (.head _)))
    have K9 := Lib.hid (HKE.out.go V4.out.2.2)
    have HB9 := Lib.hid (btwo HBE.out V4.out.2.2)
    obtain ⟨k0, k1, k2, k3, k4, k5, k6⟩ := K9.out.facts
    go_wp2_with fail
    refine bodyPost_ret (v := .tuple #[.agg #[.bool sb, .slice Ap kp cp, .slice Aq kq cq], .int .i64 0]) ?_ rfl ?_
    · simp [results, Tryz.results40, go_sem, k0, k1, k2]
    · have h := fr_ok (s := sb) K9.out (Nat.le_refl _) (V4.out.at (.tail _ (.head _))) (V4.out.at (.head _)) HB9.out
      exact h
def AnyPost (W : World) (e : Ending) (w' : World) : Prop := ∃ A c k x, e = .returned (.tuple #[.agg #[.slice A k c], .int .i64 x]) ∧ Below W.heap.size W w'
def ErrAny (W : World) (e : Ending) (w' : World) : Prop := ∃ A c k x, e = .returned (.tuple #[.agg #[.slice A k c], .int .i64 x]) ∧ (x == 0) = false ∧ (x != 0) = true ∧ Below W.heap.size W w'
theorem parse_anyP (b : ByteArray) (W : World) (h : b.size ≤ 200000) : Calls Tryz.prog 71 #[.string b] W (AnyPost W) := by
  refine (parse_any b W (by unfold maxLen; omega)).mono ?_
  rintro e w' ⟨A, c, he, _, _, _, hb⟩
  exact ⟨A, c, _, _, he, hb⟩
theorem parse_errP (l : List UInt8) (b : ByteArray) (W : World) (hb : b = ⟨l.toArray⟩) (hl : l.length ≤ 200000) (h : ¬ (isTB l = true ∧ ¬ 800 < l.length)) : Calls Tryz.prog 71 #[.string b] W (ErrAny W) := by
  subst hb
  refine (parse_any ⟨l.toArray⟩ W (by simp [ByteArray.size]; unfold maxLen; omega)).mono ?_
  rintro e w' ⟨A, c, he, _, _, _, hb⟩
  dsimp only at he
  have hx : (parseV l).2 = 2 ∨ (parseV l).2 = 3 := by
    unfold parseV
    by_cases c1 : isTB l = true
    · rw [if_pos c1, if_pos (by by_cases c2 : 800 < l.length; exact c2; exact absurd ⟨c1, c2⟩ h)]; exact .inr rfl
    · rw [if_neg c1]; exact .inl rfl
  exact ⟨A, c, _, _, he, by rcases hx with e1 | e1 <;> rw [e1] <;> rfl, by rcases hx with e1 | e1 <;> rw [e1] <;> rfl, hb⟩
theorem fvalid_f (s : Bool) (n c m d : Nat) (x y : Int) (A B : Option Addr) (W : World) (hx : NumAt W (.slice A n c) x) (hy : NumAt W (.slice B m d) y) (hv : ¬ (0 < y ∧ gcdI x y = 1 ∧ (s = true → 0 < x))) :
    Calls Tryz.prog 20 #[.agg #[.bool s, .slice A n c, .slice B m d]] W fun e w' => e = .returned (.bool false) ∧ Below W.heap.size W w' := by
  have := fvalid_num s n c m d x y A B W hx hy
  rwa [decide_eq_false hv] at this
theorem cut_len (l : List UInt8) : (numOf l).length ≤ (restOf l).length ∧ (denOf l).length ≤ (restOf l).length + 1 := by
  unfold denOf numOf divOf Lib.cut
  by_cases h : 0 ≤ Lib.index (restOf l) [47]
  · rw [if_pos h]; simp; omega
  · rw [if_neg h]; simp
theorem err_cells {w : World} {g : Nat} (h : KeptF g w) (o1 o2 : Obj) :
    (((((w.setCell ⟨g, 0, none⟩ (.bool false)).setCell ⟨g, 1, none⟩ (.slice none 0 0)).setCell ⟨g, 2, none⟩ (.slice none 0 0)).alloc o1).alloc o2).cell? ⟨g, 0, none⟩ = some (.bool false) ∧
    (((((w.setCell ⟨g, 0, none⟩ (.bool false)).setCell ⟨g, 1, none⟩ (.slice none 0 0)).setCell ⟨g, 2, none⟩ (.slice none 0 0)).alloc o1).alloc o2).cell? ⟨g, 1, none⟩ = some (.slice none 0 0) ∧
    (((((w.setCell ⟨g, 0, none⟩ (.bool false)).setCell ⟨g, 1, none⟩ (.slice none 0 0)).setCell ⟨g, 2, none⟩ (.slice none 0 0)).alloc o1).alloc o2).cell? ⟨g, 2, none⟩ = some (.slice none 0 0) := by
  obtain ⟨a0, a1, a2, _, _, _, hs⟩ := h.facts
  have b0 : ((w.setCell ⟨g, 0, none⟩ (.bool false)).setCell ⟨g, 1, none⟩ (.slice none 0 0)).cell? ⟨g, 2, none⟩ = some (.slice none 0 0) := by
    rw [World.cell?_setCell_other _ _ _ _ (by simp), World.cell?_setCell_other _ _ _ _ (by simp)]; exact a2
  have b1 : (w.setCell ⟨g, 0, none⟩ (.bool false)).cell? ⟨g, 1, none⟩ = some (.slice none 0 0) := by
    rw [World.cell?_setCell_other _ _ _ _ (by simp)]; exact a1
  have hb : ∀ (S : World), S.heap.size = w.heap.size → ∀ i v, S.cell? ⟨g, i, none⟩ = some v → ((S.alloc o1).alloc o2).cell? ⟨g, i, none⟩ = some v := fun S e i v hv =>
    ((two_box (W := S) (o1 := o1) (o2 := o2)).cell (p := ⟨g, i, none⟩) (by simp only; omega)).trans hv
  have hz : (((w.setCell ⟨g, 0, none⟩ (.bool false)).setCell ⟨g, 1, none⟩ (.slice none 0 0)).setCell ⟨g, 2, none⟩ (.slice none 0 0)).heap.size = w.heap.size := by simp [World.setCell]
  refine ⟨hb _ hz _ _ ?_, hb _ hz _ _ ?_, hb _ hz _ _ (World.cell?_setCell_same _ _ _ b0)⟩
  · rw [World.cell?_setCell_other _ _ _ _ (by simp), World.cell?_setCell_other _ _ _ _ (by simp)]; exact World.cell?_setCell_same _ _ _ a0
  · rw [World.cell?_setCell_other _ _ _ _ (by simp)]; exact World.cell?_setCell_same _ _ _ b1
theorem fr_err2 {W w : World} {g : Nat} {x : Int} {u v y : Value} {o1 o2 : Obj} (hW : W.heap.size ≤ g) (hb : Below W.heap.size W w) : FrErr x W (.returned (.tuple #[.agg #[.bool false, .slice none 0 0, .slice none 0 0], .int .i64 x])) (((((w.setCell ⟨g, 0, none⟩ u).setCell ⟨g, 1, none⟩ v).setCell ⟨g, 2, none⟩ y).alloc o1).alloc o2) :=
  ⟨rfl, btwo (((hb.setCell (p := ⟨g, 0, none⟩) hW _).setCell (p := ⟨g, 1, none⟩) hW _).setCell (p := ⟨g, 2, none⟩) hW _) two_box⟩
set_option maxHeartbeats 8000000 in
theorem fparse_bad1 (l : List UInt8) (W : World) (hs : l.length ≤ 100000) (hC : Cutl W) (hn : ¬ (isTB (numOf l) = true ∧ ¬ 800 < (numOf l).length)) :
    Calls Tryz.prog 40 #[.string ⟨l.toArray⟩] W (FrErr 2 W) := by
  have HC := Lib.hid (hC.below (w' := W.alloc (.cells #[.bool false, .slice none 0 0, .slice none 0 0] 30)) one_new)
  have HBE := Lib.hid (show Below W.heap.size W (W.alloc (.cells #[.bool false, .slice none 0 0, .slice none 0 0] 30)) from one_new)
  have HKE := Lib.hid (keptF_new W)
  have V0 := Lib.hid (LiveA.start (W.alloc (.cells #[.bool false, .slice none 0 0, .slice none 0 0] 30)))
  have hr : (restOf l).length ≤ l.length := by
    unfold restOf Lib.trimPrefix; split
    · rw [List.length_drop]; omega
    · omega
  have HRL := Lib.hid (show (restOf l).length < 4294967281 by omega)
  obtain ⟨hnl, hdl⟩ := cut_len l
  obtain ⟨sb, hsb⟩ : ∃ b, b = negOf l := ⟨_, rfl⟩
  have CP := Lib.hid (fun (w : World) => (show Calls Tryz.prog 69 #[.string ⟨l.toArray⟩, .string ⟨#[45]⟩] w fun e w' => e = .returned (.tuple #[.string ⟨(restOf l).toArray⟩, .bool sb]) ∧ w = w' by
    have h := cutP ⟨l.toArray⟩ w
    dsimp only at h
    rw [hsb]; exact h))
  have HPN := Lib.hid (fun (b : ByteArray) (w : World) (hb : b = ⟨(numOf l).toArray⟩) => parse_errP _ b w hb (by omega) hn)
  have HPD := Lib.hid (fun (b : ByteArray) (w : World) (hb : b = ⟨(denOf l).toArray⟩) => parse_anyP b w (by rw [hb]; simp [ByteArray.size]; omega))
  clear hn
  by_cases hd : divOf l = true
  · have CS := Lib.hid (fun (w : World) (h : Cutl w) => (show Calls Tryz.prog 70 #[.string ⟨(restOf l).toArray⟩, .string ⟨#[47]⟩] w fun e w' => e = .returned (.tuple #[.string ⟨(numOf l).toArray⟩, .string ⟨(denOf l).toArray⟩, .bool true]) ∧ Below w.heap.size w w' by
      have h := cutS l w HRL.out h
      rw [hd] at h
      unfold denOf; rw [if_pos hd]; exact h))
    clear hC hs hr hnl hdl hsb 
    clear hd
    go_enter Tryz.func40, Tryz.ntmps40
    go_wp2_with fail
    refine (CP.out _).mono ?_
    rintro e w' ⟨rfl, rfl⟩
    go_wp2_with fail
    refine (CS.out _ HC.out).mono ?_
    rintro e w1 ⟨rfl, b1⟩
    have V1 := Lib.hid (V0.out.go b1)
    clear b1
    go_wp2_with fail
    refine (HPN.out _ _ rfl).mono ?_
    rintro e w2 ⟨Ap, cp, kp, xp, rfl, epa, epb, b2⟩
    have U2 := Lib.hid (V1.out.go b2)
    clear b2
    have V2 := Lib.hid (U2.out.new (.slice Ap kp cp) 24)
    go_wp2_with fail
    refine (HPD.out _ _ rfl).mono ?_
    rintro e w3 ⟨Aq, cq, kq, xq, rfl, b3⟩
    have U3 := Lib.hid (V2.out.go b3)
    clear b3
    obtain ⟨x3_p, y3_p⟩ := U3.out.box (.head _)
    have V3 := Lib.hid (U3.out.new (.slice Aq kq cq) 24)
    have V3f := Lib.hid (U3.out.new1F (.slice Aq kq cq) 24 (.bool sb) (.slice Ap kp cp) (.slice Aq kq cq) 30)
    have K8 := Lib.hid (HKE.out.go U3.out.2.2)
    have HB9 := Lib.hid (btwo HBE.out U3.out.2.2)
    obtain ⟨e0, e1, e2⟩ := err_cells K8.out (.cells #[.slice Aq kq cq] 24) (.cells #[.bool sb, .slice Ap kp cp, .slice Aq kq cq] 30)
    have E0 := Lib.hid e0
    have E1 := Lib.hid e1
    have E2 := Lib.hid e2
    clear e0 e1 e2
    obtain ⟨j0, j1, j2, j3, j4, j5, j6⟩ := K8.out.facts
    go_wp2_with fail
    refine bodyPost_ret (v := .tuple #[.agg #[.bool false, .slice none 0 0, .slice none 0 0], .int .i64 2]) ?_ rfl ?_
    · simp [results, Tryz.results40, go_sem, E0.out, E1.out, E2.out]
    · exact fr_err2 (Nat.le_refl _) HB9.out
  · have HD1 := Lib.hid (show (⟨#[49]⟩ : ByteArray) = ⟨(denOf l).toArray⟩ by unfold denOf; rw [if_neg hd])
    obtain ⟨td, htd⟩ : ∃ b : ByteArray, b = ⟨(Lib.cut (restOf l) [47]).2.1.toArray⟩ := ⟨_, rfl⟩
    have hdf : divOf l = false := by simpa using hd
    have CS := Lib.hid (fun (w : World) (h : Cutl w) => (show Calls Tryz.prog 70 #[.string ⟨(restOf l).toArray⟩, .string ⟨#[47]⟩] w fun e w' => e = .returned (.tuple #[.string ⟨(numOf l).toArray⟩, .string td, .bool false]) ∧ Below w.heap.size w w' by
      have h := cutS l w HRL.out h
      rw [hdf] at h
      rw [htd]; exact h))
    clear hd hdf htd
    clear hC hs hr hnl hdl hsb 
    go_enter Tryz.func40, Tryz.ntmps40
    go_wp2_with fail
    refine (CP.out _).mono ?_
    rintro e w' ⟨rfl, rfl⟩
    go_wp2_with fail
    refine (CS.out _ HC.out).mono ?_
    rintro e w1 ⟨rfl, b1⟩
    have V1 := Lib.hid (V0.out.go b1)
    clear b1
    go_wp2_with fail
    refine (HPN.out _ _ rfl).mono ?_
    rintro e w2 ⟨Ap, cp, kp, xp, rfl, epa, epb, b2⟩
    have U2 := Lib.hid (V1.out.go b2)
    clear b2
    have V2 := Lib.hid (U2.out.new (.slice Ap kp cp) 24)
    go_wp2_with fail
    refine (HPD.out _ _ HD1.out).mono ?_
    rintro e w3 ⟨Aq, cq, kq, xq, rfl, b3⟩
    have U3 := Lib.hid (V2.out.go b3)
    clear b3
    obtain ⟨x3_p, y3_p⟩ := U3.out.box (.head _)
    have V3 := Lib.hid (U3.out.new (.slice Aq kq cq) 24)
    have V3f := Lib.hid (U3.out.new1F (.slice Aq kq cq) 24 (.bool sb) (.slice Ap kp cp) (.slice Aq kq cq) 30)
    have K8 := Lib.hid (HKE.out.go U3.out.2.2)
    have HB9 := Lib.hid (btwo HBE.out U3.out.2.2)
    obtain ⟨e0, e1, e2⟩ := err_cells K8.out (.cells #[.slice Aq kq cq] 24) (.cells #[.bool sb, .slice Ap kp cp, .slice Aq kq cq] 30)
    have E0 := Lib.hid e0
    have E1 := Lib.hid e1
    have E2 := Lib.hid e2
    clear e0 e1 e2
    obtain ⟨j0, j1, j2, j3, j4, j5, j6⟩ := K8.out.facts
    go_wp2_with fail
    refine bodyPost_ret (v := .tuple #[.agg #[.bool false, .slice none 0 0, .slice none 0 0], .int .i64 2]) ?_ rfl ?_
    · simp [results, Tryz.results40, go_sem, E0.out, E1.out, E2.out]
    · exact fr_err2 (Nat.le_refl _) HB9.out
set_option maxHeartbeats 8000000 in
theorem fparse_bad2 (l : List UInt8) (W : World) (hs : l.length ≤ 100000) (hC : Cutl W) (hn : isTB (numOf l) = true ∧ ¬ 800 < (numOf l).length) (hk : ¬ (isTB (denOf l) = true ∧ ¬ 800 < (denOf l).length)) :
    Calls Tryz.prog 40 #[.string ⟨l.toArray⟩] W (FrErr 2 W) := by
  have HC := Lib.hid (hC.below (w' := W.alloc (.cells #[.bool false, .slice none 0 0, .slice none 0 0] 30)) one_new)
  have HBE := Lib.hid (show Below W.heap.size W (W.alloc (.cells #[.bool false, .slice none 0 0, .slice none 0 0] 30)) from one_new)
  have HKE := Lib.hid (keptF_new W)
  have V0 := Lib.hid (LiveA.start (W.alloc (.cells #[.bool false, .slice none 0 0, .slice none 0 0] 30)))
  have hr : (restOf l).length ≤ l.length := by
    unfold restOf Lib.trimPrefix; split
    · rw [List.length_drop]; omega
    · omega
  have HRL := Lib.hid (show (restOf l).length < 4294967281 by omega)
  obtain ⟨hnl, hdl⟩ := cut_len l
  obtain ⟨sb, hsb⟩ : ∃ b, b = negOf l := ⟨_, rfl⟩
  have CP := Lib.hid (fun (w : World) => (show Calls Tryz.prog 69 #[.string ⟨l.toArray⟩, .string ⟨#[45]⟩] w fun e w' => e = .returned (.tuple #[.string ⟨(restOf l).toArray⟩, .bool sb]) ∧ w = w' by
    have h := cutP ⟨l.toArray⟩ w
    dsimp only at h
    rw [hsb]; exact h))
  obtain ⟨p, hp⟩ : ∃ p, p = decV (numOf l) := ⟨_, rfl⟩
  have HPN := Lib.hid (fun (b : ByteArray) (w : World) (hb : b = ⟨(numOf l).toArray⟩) => (show Calls Tryz.prog 71 #[.string b] w (ValPost p w) by rw [hp]; exact parse_num _ b w hb hn.1 hn.2))
  have HPD := Lib.hid (fun (b : ByteArray) (w : World) (hb : b = ⟨(denOf l).toArray⟩) => parse_errP _ b w hb (by omega) hk)
  clear hn hk hp
  by_cases hd : divOf l = true
  · have CS := Lib.hid (fun (w : World) (h : Cutl w) => (show Calls Tryz.prog 70 #[.string ⟨(restOf l).toArray⟩, .string ⟨#[47]⟩] w fun e w' => e = .returned (.tuple #[.string ⟨(numOf l).toArray⟩, .string ⟨(denOf l).toArray⟩, .bool true]) ∧ Below w.heap.size w w' by
      have h := cutS l w HRL.out h
      rw [hd] at h
      unfold denOf; rw [if_pos hd]; exact h))
    clear hC hs hr hnl hdl hsb 
    clear hd
    go_enter Tryz.func40, Tryz.ntmps40
    go_wp2_with fail
    refine (CP.out _).mono ?_
    rintro e w' ⟨rfl, rfl⟩
    go_wp2_with fail
    refine (CS.out _ HC.out).mono ?_
    rintro e w1 ⟨rfl, b1⟩
    have V1 := Lib.hid (V0.out.go b1)
    clear b1
    go_wp2_with fail
    refine (HPN.out _ _ rfl).mono ?_
    rintro e w2 ⟨Ap, cp, kp, rfl, n2, b2⟩
    have U2 := Lib.hid ((V1.out.go b2).num n2)
    clear n2 b2
    have V2 := Lib.hid (U2.out.new (.slice Ap kp cp) 24)
    go_wp2_with fail
    refine (HPD.out _ _ rfl).mono ?_
    rintro e w3 ⟨Aq, cq, kq, xq, rfl, eqa, eqb, b3⟩
    have U3 := Lib.hid (V2.out.go b3)
    clear b3
    obtain ⟨x3_p, y3_p⟩ := U3.out.box (.head _)
    have V3 := Lib.hid (U3.out.new (.slice Aq kq cq) 24)
    have V3f := Lib.hid (U3.out.new1F (.slice Aq kq cq) 24 (.bool sb) (.slice Ap kp cp) (.slice Aq kq cq) 30)
    have K8 := Lib.hid (HKE.out.go U3.out.2.2)
    have HB9 := Lib.hid (btwo HBE.out U3.out.2.2)
    obtain ⟨e0, e1, e2⟩ := err_cells K8.out (.cells #[.slice Aq kq cq] 24) (.cells #[.bool sb, .slice Ap kp cp, .slice Aq kq cq] 30)
    have E0 := Lib.hid e0
    have E1 := Lib.hid e1
    have E2 := Lib.hid e2
    clear e0 e1 e2
    obtain ⟨j0, j1, j2, j3, j4, j5, j6⟩ := K8.out.facts
    go_wp2_with fail
    refine bodyPost_ret (v := .tuple #[.agg #[.bool false, .slice none 0 0, .slice none 0 0], .int .i64 2]) ?_ rfl ?_
    · simp [results, Tryz.results40, go_sem, E0.out, E1.out, E2.out]
    · exact fr_err2 (Nat.le_refl _) HB9.out
  · have HD1 := Lib.hid (show (⟨#[49]⟩ : ByteArray) = ⟨(denOf l).toArray⟩ by unfold denOf; rw [if_neg hd])
    obtain ⟨td, htd⟩ : ∃ b : ByteArray, b = ⟨(Lib.cut (restOf l) [47]).2.1.toArray⟩ := ⟨_, rfl⟩
    have hdf : divOf l = false := by simpa using hd
    have CS := Lib.hid (fun (w : World) (h : Cutl w) => (show Calls Tryz.prog 70 #[.string ⟨(restOf l).toArray⟩, .string ⟨#[47]⟩] w fun e w' => e = .returned (.tuple #[.string ⟨(numOf l).toArray⟩, .string td, .bool false]) ∧ Below w.heap.size w w' by
      have h := cutS l w HRL.out h
      rw [hdf] at h
      rw [htd]; exact h))
    clear hd hdf htd
    clear hC hs hr hnl hdl hsb 
    go_enter Tryz.func40, Tryz.ntmps40
    go_wp2_with fail
    refine (CP.out _).mono ?_
    rintro e w' ⟨rfl, rfl⟩
    go_wp2_with fail
    refine (CS.out _ HC.out).mono ?_
    rintro e w1 ⟨rfl, b1⟩
    have V1 := Lib.hid (V0.out.go b1)
    clear b1
    go_wp2_with fail
    refine (HPN.out _ _ rfl).mono ?_
    rintro e w2 ⟨Ap, cp, kp, rfl, n2, b2⟩
    have U2 := Lib.hid ((V1.out.go b2).num n2)
    clear n2 b2
    have V2 := Lib.hid (U2.out.new (.slice Ap kp cp) 24)
    go_wp2_with fail
    refine (HPD.out _ _ HD1.out).mono ?_
    rintro e w3 ⟨Aq, cq, kq, xq, rfl, eqa, eqb, b3⟩
    have U3 := Lib.hid (V2.out.go b3)
    clear b3
    obtain ⟨x3_p, y3_p⟩ := U3.out.box (.head _)
    have V3 := Lib.hid (U3.out.new (.slice Aq kq cq) 24)
    have V3f := Lib.hid (U3.out.new1F (.slice Aq kq cq) 24 (.bool sb) (.slice Ap kp cp) (.slice Aq kq cq) 30)
    have K8 := Lib.hid (HKE.out.go U3.out.2.2)
    have HB9 := Lib.hid (btwo HBE.out U3.out.2.2)
    obtain ⟨e0, e1, e2⟩ := err_cells K8.out (.cells #[.slice Aq kq cq] 24) (.cells #[.bool sb, .slice Ap kp cp, .slice Aq kq cq] 30)
    have E0 := Lib.hid e0
    have E1 := Lib.hid e1
    have E2 := Lib.hid e2
    clear e0 e1 e2
    obtain ⟨j0, j1, j2, j3, j4, j5, j6⟩ := K8.out.facts
    go_wp2_with fail
    refine bodyPost_ret (v := .tuple #[.agg #[.bool false, .slice none 0 0, .slice none 0 0], .int .i64 2]) ?_ rfl ?_
    · simp [results, Tryz.results40, go_sem, E0.out, E1.out, E2.out]
    · exact fr_err2 (Nat.le_refl _) HB9.out
set_option maxHeartbeats 8000000 in
theorem fparse_bad3 (l : List UInt8) (W : World) (hs : l.length ≤ 100000) (hC : Cutl W) (hn : isTB (numOf l) = true ∧ ¬ 800 < (numOf l).length) (hk : isTB (denOf l) = true ∧ ¬ 800 < (denOf l).length) (hdv : divOf l = true) (hone : decV (denOf l) = 1) :
    Calls Tryz.prog 40 #[.string ⟨l.toArray⟩] W (FrErr 2 W) := by
  have HC := Lib.hid (hC.below (w' := W.alloc (.cells #[.bool false, .slice none 0 0, .slice none 0 0] 30)) one_new)
  have HBE := Lib.hid (show Below W.heap.size W (W.alloc (.cells #[.bool false, .slice none 0 0, .slice none 0 0] 30)) from one_new)
  have HKE := Lib.hid (keptF_new W)
  have V0 := Lib.hid (LiveA.start (W.alloc (.cells #[.bool false, .slice none 0 0, .slice none 0 0] 30)))
  have hr : (restOf l).length ≤ l.length := by
    unfold restOf Lib.trimPrefix; split
    · rw [List.length_drop]; omega
    · omega
  have HRL := Lib.hid (show (restOf l).length < 4294967281 by omega)
  obtain ⟨hnl, hdl⟩ := cut_len l
  obtain ⟨sb, hsb⟩ : ∃ b, b = negOf l := ⟨_, rfl⟩
  have CP := Lib.hid (fun (w : World) => (show Calls Tryz.prog 69 #[.string ⟨l.toArray⟩, .string ⟨#[45]⟩] w fun e w' => e = .returned (.tuple #[.string ⟨(restOf l).toArray⟩, .bool sb]) ∧ w = w' by
    have h := cutP ⟨l.toArray⟩ w
    dsimp only at h
    rw [hsb]; exact h))
  obtain ⟨p, hp⟩ : ∃ p, p = decV (numOf l) := ⟨_, rfl⟩
  have HPN := Lib.hid (fun (b : ByteArray) (w : World) (hb : b = ⟨(numOf l).toArray⟩) => (show Calls Tryz.prog 71 #[.string b] w (ValPost p w) by rw [hp]; exact parse_num _ b w hb hn.1 hn.2))
  obtain ⟨q, hq⟩ : ∃ q, q = decV (denOf l) := ⟨_, rfl⟩
  have HPD := Lib.hid (fun (b : ByteArray) (w : World) (hb : b = ⟨(denOf l).toArray⟩) => (show Calls Tryz.prog 71 #[.string b] w (ValPost q w) by rw [hq]; exact parse_num _ b w hb hk.1 hk.2))
  have hq1 : q = 1 := by rw [hq]; exact hone
  clear hn hk hp hq hone
  by_cases hd : divOf l = true
  · have CS := Lib.hid (fun (w : World) (h : Cutl w) => (show Calls Tryz.prog 70 #[.string ⟨(restOf l).toArray⟩, .string ⟨#[47]⟩] w fun e w' => e = .returned (.tuple #[.string ⟨(numOf l).toArray⟩, .string ⟨(denOf l).toArray⟩, .bool true]) ∧ Below w.heap.size w w' by
      have h := cutS l w HRL.out h
      rw [hd] at h
      unfold denOf; rw [if_pos hd]; exact h))
    clear hC hs hr hnl hdl hsb 
    clear hd hdv
    go_enter Tryz.func40, Tryz.ntmps40
    go_wp2_with fail
    refine (CP.out _).mono ?_
    rintro e w' ⟨rfl, rfl⟩
    go_wp2_with fail
    refine (CS.out _ HC.out).mono ?_
    rintro e w1 ⟨rfl, b1⟩
    have V1 := Lib.hid (V0.out.go b1)
    clear b1
    go_wp2_with fail
    refine (HPN.out _ _ rfl).mono ?_
    rintro e w2 ⟨Ap, cp, kp, rfl, n2, b2⟩
    have U2 := Lib.hid ((V1.out.go b2).num n2)
    clear n2 b2
    have V2 := Lib.hid (U2.out.new (.slice Ap kp cp) 24)
    go_wp2_with fail
    refine (HPD.out _ _ rfl).mono ?_
    rintro e w3 ⟨Aq, cq, kq, rfl, n3, b3⟩
    have U3 := Lib.hid ((V2.out.go b3).num n3)
    clear n3 b3
    obtain ⟨x3_p, y3_p⟩ := U3.out.box (.head _)
    have V3 := Lib.hid (U3.out.new (.slice Aq kq cq) 24)
    have V3f := Lib.hid (U3.out.new1F (.slice Aq kq cq) 24 (.bool sb) (.slice Ap kp cp) (.slice Aq kq cq) 30)
    go_wp2_with fail
    refine (isOne_t kq cq _ Aq _ (V3f.out.at (.head _)) hq1).mono ?_
    rintro e w4 ⟨rfl, b4⟩
    clear x3_p y3_p
    have V4 := Lib.hid (V3f.out.go b4)
    clear b4
    have K9 := Lib.hid (HKE.out.go V4.out.2.2)
    have HB9 := Lib.hid (btwo HBE.out V4.out.2.2)
    obtain ⟨k0, k1, k2, k3, k4, k5, k6⟩ := K9.out.facts
    go_wp2_with fail
    refine bodyPost_ret (v := .tuple #[.agg #[.bool false, .slice none 0 0, .slice none 0 0], .int .i64 2]) ?_ rfl ?_
    · simp [results, Tryz.results40, go_sem, k0, k1, k2]
    · exact fr_err (Nat.le_refl _) HB9.out
  · exact absurd hdv hd
set_option maxHeartbeats 8000000 in
theorem fparse_bad4 (l : List UInt8) (W : World) (hs : l.length ≤ 100000) (hC : Cutl W) (hn : isTB (numOf l) = true ∧ ¬ 800 < (numOf l).length) (hk : isTB (denOf l) = true ∧ ¬ 800 < (denOf l).length) (hd1 : ¬ (divOf l = true ∧ decV (denOf l) = 1)) (hv : ¬ (0 < decV (denOf l) ∧ gcdI (decV (numOf l)) (decV (denOf l)) = 1 ∧ (negOf l = true → 0 < decV (numOf l)))) :
    Calls Tryz.prog 40 #[.string ⟨l.toArray⟩] W (FrErr 2 W) := by
  have HC := Lib.hid (hC.below (w' := W.alloc (.cells #[.bool false, .slice none 0 0, .slice none 0 0] 30)) one_new)
  have HBE := Lib.hid (show Below W.heap.size W (W.alloc (.cells #[.bool false, .slice none 0 0, .slice none 0 0] 30)) from one_new)
  have HKE := Lib.hid (keptF_new W)
  have V0 := Lib.hid (LiveA.start (W.alloc (.cells #[.bool false, .slice none 0 0, .slice none 0 0] 30)))
  have hr : (restOf l).length ≤ l.length := by
    unfold restOf Lib.trimPrefix; split
    · rw [List.length_drop]; omega
    · omega
  have HRL := Lib.hid (show (restOf l).length < 4294967281 by omega)
  obtain ⟨hnl, hdl⟩ := cut_len l
  obtain ⟨sb, hsb⟩ : ∃ b, b = negOf l := ⟨_, rfl⟩
  have CP := Lib.hid (fun (w : World) => (show Calls Tryz.prog 69 #[.string ⟨l.toArray⟩, .string ⟨#[45]⟩] w fun e w' => e = .returned (.tuple #[.string ⟨(restOf l).toArray⟩, .bool sb]) ∧ w = w' by
    have h := cutP ⟨l.toArray⟩ w
    dsimp only at h
    rw [hsb]; exact h))
  obtain ⟨p, hp⟩ : ∃ p, p = decV (numOf l) := ⟨_, rfl⟩
  have HPN := Lib.hid (fun (b : ByteArray) (w : World) (hb : b = ⟨(numOf l).toArray⟩) => (show Calls Tryz.prog 71 #[.string b] w (ValPost p w) by rw [hp]; exact parse_num _ b w hb hn.1 hn.2))
  obtain ⟨q, hq⟩ : ∃ q, q = decV (denOf l) := ⟨_, rfl⟩
  have HPD := Lib.hid (fun (b : ByteArray) (w : World) (hb : b = ⟨(denOf l).toArray⟩) => (show Calls Tryz.prog 71 #[.string b] w (ValPost q w) by rw [hq]; exact parse_num _ b w hb hk.1 hk.2))
  rw [← hp, ← hq, ← hsb] at hv
  rw [← hq] at hd1
  have HV := Lib.hid hv
  clear hn hk hp hq hv
  by_cases hd : divOf l = true
  · have CS := Lib.hid (fun (w : World) (h : Cutl w) => (show Calls Tryz.prog 70 #[.string ⟨(restOf l).toArray⟩, .string ⟨#[47]⟩] w fun e w' => e = .returned (.tuple #[.string ⟨(numOf l).toArray⟩, .string ⟨(denOf l).toArray⟩, .bool true]) ∧ Below w.heap.size w w' by
      have h := cutS l w HRL.out h
      rw [hd] at h
      unfold denOf; rw [if_pos hd]; exact h))
    have hq1 := Lib.hid (fun e => hd1 ⟨hd, e⟩)
    clear hC hs hr hnl hdl hsb hd1
    clear hd
    go_enter Tryz.func40, Tryz.ntmps40
    go_wp2_with fail
    refine (CP.out _).mono ?_
    rintro e w' ⟨rfl, rfl⟩
    go_wp2_with fail
    refine (CS.out _ HC.out).mono ?_
    rintro e w1 ⟨rfl, b1⟩
    have V1 := Lib.hid (V0.out.go b1)
    clear b1
    go_wp2_with fail
    refine (HPN.out _ _ rfl).mono ?_
    rintro e w2 ⟨Ap, cp, kp, rfl, n2, b2⟩
    have U2 := Lib.hid ((V1.out.go b2).num n2)
    clear n2 b2
    have V2 := Lib.hid (U2.out.new (.slice Ap kp cp) 24)
    go_wp2_with fail
    refine (HPD.out _ _ rfl).mono ?_
    rintro e w3 ⟨Aq, cq, kq, rfl, n3, b3⟩
    have U3 := Lib.hid ((V2.out.go b3).num n3)
    clear n3 b3
    obtain ⟨x3_p, y3_p⟩ := U3.out.box (.head _)
    have V3 := Lib.hid (U3.out.new (.slice Aq kq cq) 24)
    have V3f := Lib.hid (U3.out.new1F (.slice Aq kq cq) 24 (.bool sb) (.slice Ap kp cp) (.slice Aq kq cq) 30)
    go_wp2_with fail
    refine (isOne_f kq cq _ Aq _ (V3f.out.at (.head _)) hq1.out).mono ?_
    rintro e w4 ⟨rfl, b4⟩
    clear x3_p y3_p
    have V4 := Lib.hid (V3f.out.go b4)
    clear b4
    obtain ⟨x4_f2, y4_f2⟩ := V4.out.box (.head _)
    obtain ⟨x4_f1, y4_f1⟩ := V4.out.box (.tail _ (.head _))
    obtain ⟨x4_f0, y4_f0⟩ := V4.out.box (.tail _ (.tail _ (.head _)))
    go_wp2_with fail
    refine (fvalid_f sb kp cp kq cq _ _ Ap Aq _ (V4.out.at (.tail _ (.head _))) (V4.out.at (.head _)) HV.out).mono ?_
    rintro e w5 ⟨rfl, b5⟩
    clear x4_f2 y4_f2 x4_f1 y4_f1 x4_f0 y4_f0
    have V5 := Lib.hid (V4.out.go b5)
    clear b5
    have K9 := Lib.hid (HKE.out.go V5.out.2.2)
    have HB9 := Lib.hid (btwo HBE.out V5.out.2.2)
    obtain ⟨k0, k1, k2, k3, k4, k5, k6⟩ := K9.out.facts
    go_wp2_with fail
    refine bodyPost_ret (v := .tuple #[.agg #[.bool false, .slice none 0 0, .slice none 0 0], .int .i64 2]) ?_ rfl ?_
    · simp [results, Tryz.results40, go_sem, k0, k1, k2]
    · exact fr_err (Nat.le_refl _) HB9.out
  · have HD1 := Lib.hid (show (⟨#[49]⟩ : ByteArray) = ⟨(denOf l).toArray⟩ by unfold denOf; rw [if_neg hd])
    obtain ⟨td, htd⟩ : ∃ b : ByteArray, b = ⟨(Lib.cut (restOf l) [47]).2.1.toArray⟩ := ⟨_, rfl⟩
    have hdf : divOf l = false := by simpa using hd
    have CS := Lib.hid (fun (w : World) (h : Cutl w) => (show Calls Tryz.prog 70 #[.string ⟨(restOf l).toArray⟩, .string ⟨#[47]⟩] w fun e w' => e = .returned (.tuple #[.string ⟨(numOf l).toArray⟩, .string td, .bool false]) ∧ Below w.heap.size w w' by
      have h := cutS l w HRL.out h
      rw [hdf] at h
      rw [htd]; exact h))
    clear hd hdf htd
    clear hC hs hr hnl hdl hsb hd1
    go_enter Tryz.func40, Tryz.ntmps40
    go_wp2_with fail
    refine (CP.out _).mono ?_
    rintro e w' ⟨rfl, rfl⟩
    go_wp2_with fail
    refine (CS.out _ HC.out).mono ?_
    rintro e w1 ⟨rfl, b1⟩
    have V1 := Lib.hid (V0.out.go b1)
    clear b1
    go_wp2_with fail
    refine (HPN.out _ _ rfl).mono ?_
    rintro e w2 ⟨Ap, cp, kp, rfl, n2, b2⟩
    have U2 := Lib.hid ((V1.out.go b2).num n2)
    clear n2 b2
    have V2 := Lib.hid (U2.out.new (.slice Ap kp cp) 24)
    go_wp2_with fail
    refine (HPD.out _ _ HD1.out).mono ?_
    rintro e w3 ⟨Aq, cq, kq, rfl, n3, b3⟩
    have U3 := Lib.hid ((V2.out.go b3).num n3)
    clear n3 b3
    obtain ⟨x3_p, y3_p⟩ := U3.out.box (.head _)
    have V3 := Lib.hid (U3.out.new (.slice Aq kq cq) 24)
    have V3f := Lib.hid (U3.out.new1F (.slice Aq kq cq) 24 (.bool sb) (.slice Ap kp cp) (.slice Aq kq cq) 30)
    go_wp2_with fail
    refine (fvalid_f sb kp cp kq cq _ _ Ap Aq _ (V3f.out.at (.tail _ (.head _))) (V3f.out.at (.head _)) HV.out).mono ?_
    rintro e w4 ⟨rfl, b4⟩
    clear x3_p y3_p
    have V4 := Lib.hid (V3f.out.go b4)
    clear b4
    have K9 := Lib.hid (HKE.out.go V4.out.2.2)
    have HB9 := Lib.hid (btwo HBE.out V4.out.2.2)
    obtain ⟨k0, k1, k2, k3, k4, k5, k6⟩ := K9.out.facts
    go_wp2_with fail
    refine bodyPost_ret (v := .tuple #[.agg #[.bool false, .slice none 0 0, .slice none 0 0], .int .i64 2]) ?_ rfl ?_
    · simp [results, Tryz.results40, go_sem, k0, k1, k2]
    · exact fr_err (Nat.le_refl _) HB9.out
end Go.Proofs.YtpinnopdimjfjaaGreatDoor
