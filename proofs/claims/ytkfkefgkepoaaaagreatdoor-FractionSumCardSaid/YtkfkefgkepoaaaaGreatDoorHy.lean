/- Lists of fractions in memory, with their digits; Few of them; what a sum of a list is. -/
import Derived.Test.YtkfkefgkepoaaaaGreatDoorHH
namespace Go.Proofs.YtkfkefgkepoaaaaGreatDoor
open Go.RowKit
set_option linter.unusedVariables false
set_option maxRecDepth 100000

/-- A fraction as it lies in a list: its digits and where they lie. -/
structure FL where
  s : Bool
  L : List Int
  M : List Int
  n : Nat
  c : Nat
  m : Nat
  d : Nat
  A : Option Addr
  B : Option Addr
/-- Its lengths. -/
def FL.Sizes (x : FL) : Prop := x.L.length = x.n ∧ x.M.length = x.m ∧ x.n ≤ x.c ∧ x.m ≤ x.d ∧ (x.n ≤ 17592186044416 ∧ x.c ≤ 9223372036854775807) ∧ (x.m ≤ 17592186044416 ∧ x.d ≤ 9223372036854775807)
/-- Its digits lie there. -/
def FL.In (x : FL) (w : World) : Prop := x.Sizes ∧ IntsIn w x.A x.L ∧ IntsIn w x.B x.M
theorem FL.In.below {x : FL} {w w' : World} (h : x.In w) (hb : Below w.heap.size w w') : x.In w' := ⟨h.1, h.2.1.below hb, h.2.2.below hb⟩
/-- A slice that reads as fractions. -/
def FracL (w : World) (A : Option Addr) (l : List FL) : Prop :=
  (∀ x ∈ l, x.In w) ∧ (0 < l.length → ∃ b off, A = some ⟨b, off, none⟩ ∧ b < w.heap.size ∧ ∀ (j : Nat) (x : FL), l[j]? = some x →
    w.cell? ⟨b, off + j * 3, none⟩ = some (.bool x.s) ∧ w.cell? ⟨b, off + j * 3 + 1, none⟩ = some (.slice x.A x.n x.c) ∧ w.cell? ⟨b, off + j * 3 + 2, none⟩ = some (.slice x.B x.m x.d))
theorem FracL.below {w w' : World} {A : Option Addr} {l : List FL} (h : FracL w A l) (hb : Below w.heap.size w w') : FracL w' A l := by
  refine ⟨fun x hx => (h.1 x hx).below hb, fun h0 => ?_⟩
  obtain ⟨b, off, rfl, hlt, hc⟩ := h.2 h0
  refine ⟨b, off, rfl, Nat.lt_of_lt_of_le hlt hb.size, fun j x hx => ?_⟩
  obtain ⟨h1, h2, h3⟩ := hc j x hx
  exact ⟨(hb.cell (p := ⟨b, _, none⟩) hlt).trans h1, (hb.cell (p := ⟨b, _, none⟩) hlt).trans h2, (hb.cell (p := ⟨b, _, none⟩) hlt).trans h3⟩
theorem fracL_nil (w : World) (A : Option Addr) : FracL w A [] := ⟨fun _ h => by simp at h, fun h => by simp at h⟩
/-- Its lengths, as Few wants them. -/
def lens (l : List FL) : List (Nat × Nat) := l.map fun x => (x.n, x.m)
/-- Are all of them valid? -/
def allV (l : List FL) : Bool := l.all fun x => vldF x.s x.L x.M
/-- The sum, from a fraction on. -/
def foldS : Bool × Int × Int × Int → List FL → Bool × Int × Int × Int
  | r, [] => r
  | r, x :: l => if r.2.2.2 = 0 then foldS (sumR r.1 x.s r.2.1 r.2.2.1 (val x.L) (val x.M)) l else r
/-- What Sum returns. -/
def sumL (l : List FL) : Bool × Int × Int × Int := if allV l = true then foldS (false, 0, 1, 0) l else (false, 0, 0, 1)
theorem foldS_err {r : Bool × Int × Int × Int} (h : ¬ r.2.2.2 = 0) (l : List FL) : foldS r l = r := by
  cases l with
  | nil => rfl
  | cons x l => unfold foldS; rw [if_neg h]
theorem foldS_snoc (r : Bool × Int × Int × Int) (l : List FL) (x : FL) : foldS r (l ++ [x]) = if (foldS r l).2.2.2 = 0 then sumR (foldS r l).1 x.s (foldS r l).2.1 (foldS r l).2.2.1 (val x.L) (val x.M) else foldS r l := by
  induction l generalizing r with
  | nil => rfl
  | cons y l ih =>
    by_cases h : r.2.2.2 = 0
    · have e1 : foldS r (y :: l ++ [x]) = foldS (sumR r.1 y.s r.2.1 r.2.2.1 (val y.L) (val y.M)) (l ++ [x]) := by
        show foldS r (y :: (l ++ [x])) = _
        rw [foldS, if_pos h]
      have e2 : foldS r (y :: l) = foldS (sumR r.1 y.s r.2.1 r.2.2.1 (val y.L) (val y.M)) l := by rw [foldS, if_pos h]
      rw [e1, ih, e2]
    · rw [foldS_err h, foldS_err h, if_neg h]
theorem fold_step {r : Bool × Int × Int × Int} {x : FL} (h : r.2.2.2 = 0) (g : GoodF r) (hx : vldF x.s x.L x.M = true) : GoodF (sumR r.1 x.s r.2.1 r.2.2.1 (val x.L) (val x.M)) := by
  obtain ⟨a1, a2, a3, a4, a5⟩ := vldF_pos hx
  obtain ⟨b1, b2, b3, b4⟩ := g h
  exact sum_good _ _ _ _ _ _ b1 b2 (vldB_true a1).2.2.2.1 a3
theorem zero_good : GoodF (false, 0, 1, 0) := fun _ => ⟨Int.le_refl _, by show (0 : Int) < 1; omega, by decide, fun h => by simp at h⟩
theorem foldS_good {l : List FL} (h : allV l = true) : ∀ {r : Bool × Int × Int × Int}, GoodF r → GoodF (foldS r l) := by
  induction l with
  | nil => exact fun g => g
  | cons x l ih =>
    intro r g
    unfold allV at h
    rw [List.all_cons, Bool.and_eq_true] at h
    by_cases e : r.2.2.2 = 0
    · rw [foldS, if_pos e]; exact ih h.2 (fold_step e g h.1)
    · rw [foldS_err e]; exact g
theorem sumL_good (l : List FL) : GoodF (sumL l) := by
  unfold sumL
  split
  · rename_i h; exact foldS_good h zero_good
  · exact err_good (by omega)
set_option maxHeartbeats 4000000 in
theorem fewL_any (l : List FL) (A0 : Option Addr) (n c most : Nat) (W : World) (hn : l.length = n) (hn4 : n ≤ 12) (hm : most ≤ 1000) (hA : FracL W A0 l) :
    Calls Tryz.prog 5 #[.slice A0 n c, .int .i64 most] W fun e w' => e = .returned (.bool (fewF (lens l) most)) ∧ Below W.heap.size W w' := by
  obtain ⟨ns, hns0⟩ : ∃ ns, ns = lens l := ⟨_, rfl⟩
  have hnl : ns.length = n := by rw [hns0]; simpa [lens] using hn
  rw [← hns0]
  have HE := Lib.hid hns0
  have HN := Lib.hid hnl
  have HL := Lib.hid hn
  have HA := Lib.hid hA
  clear hn hA hns0 hnl
  go_enter Tryz.func5, Tryz.ntmps5
  go_wp2
  go_loopw [5] (fun i wr => ∃ k : Nat, k ≤ n ∧ i = .int .i64 (k : Int) ∧ fewF (ns.take k) most = true ∧ Below W.heap.size W wr) (fun i _ => n - (intOf i).toNat)
  case atStart => exact ⟨0, Nat.zero_le _, rfl, by simp [fewF], Below.refl _ _⟩
  case round =>
    obtain ⟨k, hk, rfl, hf, hb⟩ := hrel
    have HF := Lib.hid hf
    have HB := Lib.hid hb
    clear hf hb
    by_cases hlt : k < n
    · have hlk : k < l.length := by rw [HL.out]; exact hlt
      have HAk := HA.out.below HB.out
      obtain ⟨⟨x1, x2, x3, x4, x5, x6⟩, x7, x8⟩ := HAk.1 l[k] (List.getElem_mem hlk)
      obtain ⟨b, off, rfl, hbl, hcs⟩ := HAk.2 (by omega)
      obtain ⟨h0, h1, h2⟩ := hcs k l[k] (List.getElem?_eq_getElem hlk)
      have hg : ns.getD k (0, 0) = (l[k].n, l[k].m) := by rw [HE.out]; unfold lens; rw [List.getD_eq_getElem?_getD, List.getElem?_map, List.getElem?_eq_getElem hlk]; rfl
      obtain ⟨s, hs⟩ : ∃ y, y = l[k].s := ⟨_, rfl⟩
      obtain ⟨A, hA'⟩ : ∃ y, y = l[k].A := ⟨_, rfl⟩
      obtain ⟨B, hB'⟩ : ∃ y, y = l[k].B := ⟨_, rfl⟩
      obtain ⟨cA, hcA⟩ : ∃ y, y = l[k].c := ⟨_, rfl⟩
      obtain ⟨cB, hcB⟩ : ∃ y, y = l[k].d := ⟨_, rfl⟩
      obtain ⟨u, hu'⟩ : ∃ u, u = l[k].n := ⟨_, rfl⟩
      obtain ⟨v, hv'⟩ : ∃ u, u = l[k].m := ⟨_, rfl⟩
      have hu4 : u ≤ 17592186044416 := by omega
      have hv4 : v ≤ 17592186044416 := by omega
      rw [← hs] at h0
      rw [← hu', ← hA', ← hcA] at h1
      rw [← hv', ← hB', ← hcB] at h2
      have hu : u = (ns.getD k (0, 0)).1 := by rw [hg, hu']
      have hv : v = (ns.getD k (0, 0)).2 := by rw [hg, hv']
      clear x1 x2 x3 x4 x5 x6 x7 x8 hcs HAk hg hs hA' hB' hcA hcB hu' hv'
      have HU := Lib.hid hu
      have HVV := Lib.hid hv
      have HS2 := Lib.hid (small2 hu4 hv4)
      clear hu hv hu4 hv4
      by_cases hle : u + v ≤ most
      · have HD := Lib.hid (show decide (([u, v] : List Nat).sum ≤ most) = true from decide_eq_true (by simpa using hle))
        have HST := Lib.hid (fewF_step (by rw [HN.out]; exact hlt) HF.out (by rw [← HU.out, ← HVV.out]; exact hle))
        clear hle
        go_wp2_with fail
        go_region_with ((go_at_call 18; (refine (Few_any [u, v] _ 2 2 most _ rfl (by omega) HS2.out hm (by intro j hj; exact nats2 wr wr.heap.size u v cA cB A B _ rfl j hj)).mono ?_); rintro e w5 ⟨rfl, rfl⟩; rw [HD.out]))
        all_goals (go_wp2_with fail)
        all_goals go_roundw
        all_goals first
          | exact ⟨k + 1, by omega, by go_num, HST.out, by first | exact btwo HB.out one_new | exact btwo HB.out (btwo one_new (Below.refl _ _).drew) | exact bdr (btwo HB.out one_new) _⟩
          | (simp [intOf]; omega)
      · have HD := Lib.hid (show decide (([u, v] : List Nat).sum ≤ most) = false from decide_eq_false (by simpa using hle))
        have HST := Lib.hid (fewF_stop (by rw [HN.out]; exact hlt) (by rw [← HU.out, ← HVV.out]; exact hle))
        clear hle
        go_wp2_with fail
        go_region_with ((go_at_call 18; (refine (Few_any [u, v] _ 2 2 most _ rfl (by omega) HS2.out hm (by intro j hj; exact nats2 wr wr.heap.size u v cA cB A B _ rfl j hj)).mono ?_); rintro e w5 ⟨rfl, rfl⟩; rw [HD.out]))
        all_goals (go_wp2_with fail)
        all_goals go_ret
        all_goals exact ⟨ret_bool HST.out, by first | exact btwo HB.out one_new | exact btwo HB.out (btwo one_new (Below.refl _ _).drew) | exact bdr (btwo HB.out one_new) _⟩
    · obtain rfl : k = n := by omega
      rw [List.take_of_length_le (by rw [HN.out]; exact Nat.le_refl _)] at HF
      clear hlt
      go_wp2_with fail
      go_ret
      exact ⟨ret_bool HF.out, HB.out⟩
end Go.Proofs.YtkfkefgkepoaaaaGreatDoor
