/- Several texts in one: JF. -/
import Derived.Test.YtjamfcihjendiaaGreatRaay
namespace Go.Proofs.YtjamfcihjendiaaGreat
open Go.RowKit
set_option linter.unusedVariables false
set_option linter.unusedSimpArgs false
set_option maxRecDepth 100000

def TabIs (t : List Int) (F : Nat → Nat → Nat → Nat) : Prop := t.length = 153 ∧ ∀ a b k, a ≤ 16 → b < 3 → k < 3 → t[a * 9 + b * 3 + k]? = some ((F a b k : Nat) : Int)
theorem TabIs.congr {t : List Int} {F G : Nat → Nat → Nat → Nat} (h : TabIs t F) (e : ∀ a b k, a ≤ 16 → b < 3 → k < 3 → F a b k = G a b k) : TabIs t G :=
  ⟨h.1, fun a b k x y z => by rw [h.2 a b k x y z, e a b k x y z]⟩
def upF (F : Nat → Nat → Nat → Nat) (a0 b0 k0 x : Nat) : Nat → Nat → Nat → Nat := fun a b k => if a = a0 ∧ b = b0 ∧ k = k0 then x else F a b k
theorem TabIs.put {t : List Int} {F : Nat → Nat → Nat → Nat} (h : TabIs t F) {a b k : Nat} (ha : a ≤ 16) (hb : b < 3) (hk : k < 3) (x : Nat) : TabIs (t.set (a * 9 + b * 3 + k) (x : Int)) (upF F a b k x) := by
  refine ⟨by rw [List.length_set]; exact h.1, fun a' b' k' x' y z => ?_⟩
  unfold upF
  by_cases e : a' = a ∧ b' = b ∧ k' = k
  · obtain ⟨rfl, rfl, rfl⟩ := e
    rw [if_pos ⟨rfl, rfl, rfl⟩, List.getElem?_set_self (by rw [h.1]; omega)]
  · rw [if_neg e, List.getElem?_set_ne (by omega)]
    exact h.2 a' b' k' x' y z
theorem TabIs.zero : TabIs (List.replicate 153 0) (fun _ _ _ => 0) := ⟨by simp, fun a b k x y z => by rw [List.getElem?_replicate, if_pos (by omega)]; rfl⟩
def FZ (u : List UInt8) (b0 : Nat) (a b k : Nat) : Nat := if a = u.length ∧ b < b0 ∧ k = 0 then 1 else 0
def FB (L : List Sg) (u : List UInt8) (p a b k : Nat) : Nat := if p ≤ a then (if a ≤ u.length then rsN L u a b k else 0) else 0
def FA (L : List Sg) (u : List UInt8) (p : Nat) (P : Nat → List Nat) (a b k : Nat) : Nat := if p < a then (if a ≤ u.length then rsN L u a b k else 0) else if a = p then mn (wL L (u.drop p) b k (P b)) else 0
theorem FZ_zero (u : List UInt8) (a b k : Nat) : (fun _ _ _ => 0 : Nat → Nat → Nat → Nat) a b k = FZ u 0 a b k := by unfold FZ; rw [if_neg (by omega)]
theorem FZ_put (u : List UInt8) (b0 a b k : Nat) : upF (FZ u b0) u.length b0 0 1 a b k = FZ u (b0 + 1) a b k := by
  unfold upF FZ
  by_cases h : a = u.length ∧ b = b0 ∧ k = 0
  · rw [if_pos h, if_pos ⟨h.1, by omega, h.2.2⟩]
  · rw [if_neg h]
    by_cases h2 : a = u.length ∧ b < b0 ∧ k = 0
    · rw [if_pos h2, if_pos ⟨h2.1, by omega, h2.2.2⟩]
    · rw [if_neg h2, if_neg (fun h3 => by
        by_cases e : b = b0
        · exact h ⟨h3.1, e, h3.2.2⟩
        · exact h2 ⟨h3.1, by omega, h3.2.2⟩)]
theorem FZ_all (L : List Sg) (u : List UInt8) (a b k : Nat) (hb : b < 3) : FZ u 3 a b k = FB L u u.length a b k := by
  unfold FZ FB
  by_cases h : a = u.length
  · subst h
    rw [if_pos (Nat.le_refl _), if_pos (Nat.le_refl _)]
    unfold rsN wP
    rw [List.drop_length, if_pos (show ([] : List UInt8).length = 0 from rfl)]
    by_cases hk : k = 0
    · rw [if_pos ⟨rfl, hb, hk⟩, if_pos hk]; rfl
    · rw [if_neg (fun h => hk h.2.2), if_neg hk]; rfl
  · rw [if_neg (fun h2 => h h2.1)]
    split
    · rw [if_neg (by omega)]
    · rfl
theorem FA_start (L : List Sg) (u : List UInt8) (p a b k : Nat) : FB L u (p + 1) a b k = FA L u p (fun _ => stK L (u.drop p) 0) a b k := by
  unfold FB FA
  by_cases h : p < a
  · rw [if_pos h, if_pos (show p + 1 ≤ a from h)]
  · rw [if_neg h, if_neg (show ¬ p + 1 ≤ a from h), stK_zero]
    split
    · unfold wL; rfl
    · rfl
theorem FA_end {L : List Sg} {u : List UInt8} {p : Nat} (hp : p < u.length) (a b k : Nat) : FA L u p (fun _ => stK L (u.drop p) L.length) a b k = FB L u p a b k := by
  unfold FB FA
  by_cases h : p < a
  · rw [if_pos h, if_pos (show p ≤ a by omega)]
  · rw [if_neg h]
    by_cases e : a = p
    · subst e
      rw [if_pos rfl, if_pos (Nat.le_refl _), if_pos (show a ≤ u.length by omega), stK_all]
      unfold rsN wP
      rw [if_neg (show ¬ (u.drop a).length = 0 by rw [List.length_drop]; omega)]
    · rw [if_neg e, if_neg (show ¬ p ≤ a by omega)]
theorem FA_congr {L : List Sg} {u : List UInt8} {p : Nat} {P Q : Nat → List Nat} (a : Nat) {b : Nat} (k : Nat) (h : P b = Q b) : FA L u p P a b k = FA L u p Q a b k := by unfold FA; rw [h]
theorem FA_put {L : List Sg} {u : List UInt8} {p : Nat} {P Q : Nat → List Nat} {b0 i x : Nat} (hQ : Q b0 = P b0 ++ [i]) (hQ2 : ∀ b, b ≠ b0 → Q b = P b) (hx : x = mn (wL L (u.drop p) b0 (fsK L i) (P b0) + (bh L (u.drop p).length i (u.drop p) (exP b0)).length)) (a b k : Nat) :
    upF (FA L u p P) p b0 (fsK L i) x a b k = FA L u p Q a b k := by
  unfold upF
  by_cases h : a = p ∧ b = b0 ∧ k = fsK L i
  · obtain ⟨rfl, rfl, rfl⟩ := h
    rw [if_pos ⟨rfl, rfl, rfl⟩, hx]
    unfold FA
    rw [if_neg (Nat.lt_irrefl _), if_pos rfl, hQ, wL_snoc, if_pos rfl]
  · rw [if_neg h]
    unfold FA
    by_cases h1 : p < a
    · rw [if_pos h1, if_pos h1]
    · rw [if_neg h1, if_neg h1]
      by_cases e : a = p
      · rw [if_pos e, if_pos e]
        by_cases e2 : b = b0
        · subst e2
          rw [hQ, wL_snoc, if_neg (fun e3 => h ⟨e, rfl, e3.symm⟩), Nat.add_zero]
        · rw [hQ2 b e2]
      · rw [if_neg e, if_neg e]
theorem FA_at (L : List Sg) (u : List UInt8) (p : Nat) (P : Nat → List Nat) (b k : Nat) : FA L u p P p b k = mn (wL L (u.drop p) b k (P b)) := by unfold FA; rw [if_neg (Nat.lt_irrefl _), if_pos rfl]
theorem FA_on {L : List Sg} {u : List UInt8} {p : Nat} {P : Nat → List Nat} {a : Nat} (h : p < a) (h2 : a ≤ u.length) (b k : Nat) : FA L u p P a b k = rsN L u a b k := by unfold FA; rw [if_pos h, if_pos h2]
theorem FB_on {L : List Sg} {u : List UInt8} {p a : Nat} (h : p ≤ a) (h2 : a ≤ u.length) (b k : Nat) : FB L u p a b k = rsN L u a b k := by unfold FB; rw [if_pos h, if_pos h2]
theorem FA_le (L : List Sg) (u : List UInt8) (p : Nat) (P : Nat → List Nat) (a b k : Nat) : FA L u p P a b k ≤ 201 := by
  unfold FA
  split
  · split
    · exact rsN_le _ _ _ _ _
    · omega
  · split
    · exact mn_le _
    · omega
theorem FB_le (L : List Sg) (u : List UInt8) (p a b k : Nat) : FB L u p a b k ≤ 201 := by
  unfold FB
  split
  · split
    · exact rsN_le _ _ _ _ _
    · omega
  · omega
def PK (L : List Sg) (v : List UInt8) (k b : Nat) : Nat → List Nat := fun b' => if b' < b then stK L v (k + 1) else stK L v k
theorem PK_zero (L : List Sg) (v : List UInt8) (k b' : Nat) : PK L v k 0 b' = stK L v k := by unfold PK; rw [if_neg (Nat.not_lt_zero _)]
theorem PK_all (L : List Sg) (v : List UInt8) (k : Nat) {b' : Nat} (h : b' < 3) : PK L v k 3 b' = stK L v (k + 1) := by unfold PK; rw [if_pos h]
theorem PK_here {L : List Sg} {v : List UInt8} {k : Nat} (b : Nat) (h : stK L v (k + 1) = stK L v k ++ [k]) : PK L v k (b + 1) b = PK L v k b b ++ [k] := by unfold PK; rw [if_pos (Nat.lt_succ_self _), if_neg (Nat.lt_irrefl _), h]
theorem PK_other (L : List Sg) (v : List UInt8) (k b b' : Nat) (h : b' ≠ b) : PK L v k (b + 1) b' = PK L v k b b' := by
  unfold PK
  by_cases h1 : b' < b
  · rw [if_pos h1, if_pos (by omega : b' < b + 1)]
  · rw [if_neg h1, if_neg (by omega : ¬ b' < b + 1)]
theorem PK_self (L : List Sg) (v : List UInt8) (k b : Nat) : PK L v k b b = stK L v k := by unfold PK; rw [if_neg (Nat.lt_irrefl _)]
end Go.Proofs.YtjamfcihjendiaaGreat
