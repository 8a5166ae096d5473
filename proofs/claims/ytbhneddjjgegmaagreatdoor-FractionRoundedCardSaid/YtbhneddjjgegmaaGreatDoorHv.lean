/- Plain mathematics: reading decimal digits again; a rounded number is near. -/
import Derived.Test.YtbhneddjjgegmaaGreatDoorHt
import Derived.Test.YtbhneddjjgegmaaGreatDoorHH
namespace Go.Proofs.YtbhneddjjgegmaaGreatDoor
open Go.RowKit
set_option linter.unusedVariables false
set_option maxRecDepth 100000

def decF (x : Int) (l : List UInt8) : Int := l.foldl (fun n c => n * 10 + dch c) x
theorem decF_cons (x : Int) (c : UInt8) (l : List UInt8) : decF x (c :: l) = decF (x * 10 + dch c) l := rfl
theorem decF_app (x : Int) (a b : List UInt8) : decF x (a ++ b) = decF (decF x a) b := List.foldl_append
theorem dch_in {c : UInt8} (h : isd c = true) : dch c = (c.toNat : Int) - 48 ∧ 0 ≤ dch c ∧ dch c ≤ 9 := by
  have h := of_decide_eq_true h
  unfold dch
  refine ⟨by omega, by omega, by omega⟩
theorem decF_le : ∀ (l : List UInt8) (x : Int), 0 ≤ x → allD l → x ≤ decF x l
  | [], x, _, _ => Int.le_refl _
  | c :: l, x, h0, h => by
    obtain ⟨_, d1, d2⟩ := dch_in (h c (List.mem_cons_self ..))
    have := decF_le l (x * 10 + dch c) (by omega) (fun y hy => h y (List.mem_cons_of_mem _ hy))
    rw [decF_cons]; omega
theorem decF_zeros (j : Nat) : decF 0 (List.replicate j 48) = 0 := by
  induction j with
  | zero => rfl
  | succ j ih => rw [List.replicate_succ, decF_cons]; exact ih
/-- One byte of the text is read. -/
def rstep (i : Nat) (b : UInt8) (x y : Int) (bh : Bool) : Option (Int × Int × Bool) :=
  if isd b = true then (if x * 10 + dch b ≤ 100000000000000000 ∧ (if bh = true then y * 10 else y) ≤ 10000000000000 then some (x * 10 + dch b, if bh = true then y * 10 else y, bh) else none)
  else if b = 46 ∧ bh = false then (if x ≤ 100000000000000000 then some (x, y, true) else none)
  else if b = 45 ∧ i = 0 then (if x ≤ 100000000000000000 then some (x, y, bh) else none) else none
/-- The rest of a text is read. -/
def runB : Nat → List UInt8 → Int × Int × Bool → Option (Int × Int × Bool)
  | _, [], st => some st
  | i, b :: l, st => (rstep i b st.1 st.2.1 st.2.2).bind (runB (i + 1) l)
theorem runB_cons (i : Nat) (b : UInt8) (l : List UInt8) (x y : Int) (bh : Bool) : runB i (b :: l) (x, y, bh) = (rstep i b x y bh).bind (runB (i + 1) l) := rfl
theorem runB_app : ∀ (a b : List UInt8) (i : Nat) (st : Int × Int × Bool), runB i (a ++ b) st = (runB i a st).bind (runB (i + a.length) b)
  | [], b, i, st => by simp [runB]
  | c :: a, b, i, (x, y, bh) => by
    rw [List.cons_append, runB_cons, runB_cons]
    cases h : rstep i c x y bh with
    | none => rfl
    | some s => rw [Option.bind_some, Option.bind_some, runB_app a b (i + 1) s, List.length_cons, show i + 1 + a.length = i + (a.length + 1) by omega]
theorem run_dig : ∀ (l : List UInt8) (i : Nat) (x y : Int), 0 ≤ x → allD l → decF x l ≤ 100000000000000000 → y ≤ 10000000000000 → runB i l (x, y, false) = some (decF x l, y, false)
  | [], i, x, y, _, _, _, _ => rfl
  | c :: l, i, x, y, h0, h, h1, h2 => by
    have hc := h c (List.mem_cons_self ..)
    obtain ⟨_, d1, d2⟩ := dch_in hc
    have hl : allD l := fun y hy => h y (List.mem_cons_of_mem _ hy)
    have := decF_le l (x * 10 + dch c) (by omega) hl
    rw [decF_cons] at h1
    have e : rstep i c x y false = some (x * 10 + dch c, y, false) := by
      unfold rstep
      rw [if_pos hc, if_pos ⟨by omega, by simpa using h2⟩]
      simp
    rw [runB_cons, e, Option.bind_some, run_dig l (i + 1) _ y (by omega) hl h1 h2]
    rfl
theorem run_dig2 : ∀ (l : List UInt8) (i : Nat) (x y : Int), 0 ≤ x → 0 < y → allD l → decF x l ≤ 100000000000000000 → y * 10 ^ l.length ≤ 10000000000000 → runB i l (x, y, true) = some (decF x l, y * 10 ^ l.length, true)
  | [], i, x, y, _, _, _, _, _ => by simp [runB, decF]
  | c :: l, i, x, y, h0, hy, h, h1, h2 => by
    have hc := h c (List.mem_cons_self ..)
    obtain ⟨_, d1, d2⟩ := dch_in hc
    have hl : allD l := fun y hy => h y (List.mem_cons_of_mem _ hy)
    have := decF_le l (x * 10 + dch c) (by omega) hl
    rw [decF_cons] at h1
    have ep : y * 10 ^ (c :: l).length = (y * 10) * 10 ^ l.length := by
      rw [List.length_cons, Int.pow_succ, Int.mul_assoc, Int.mul_comm (10 ^ l.length) 10]
    rw [ep] at h2 ⊢
    have hp : (0 : Int) < 10 ^ l.length := Int.pow_pos (by omega)
    have hb : y * 10 ≤ 10000000000000 := by
      have : y * 10 * 1 ≤ y * 10 * 10 ^ l.length := Int.mul_le_mul_of_nonneg_left (by omega) (by omega)
      omega
    have e : rstep i c x y true = some (x * 10 + dch c, y * 10, true) := by
      unfold rstep
      rw [if_pos hc, if_pos ⟨by omega, by simpa using hb⟩]
      simp
    rw [runB_cons, e, Option.bind_some, run_dig2 l (i + 1) _ (y * 10) (by omega) (by omega) hl h1 h2]
    rfl
/-- The text of a rounded number, as a list. -/
theorem pad_list (k : Nat) (u : Int) : (padB k (fmtB u)).data.toList = List.replicate (k + 1 - (fmtB u).size) 48 ++ fmt u := by
  simp [padB, zeros, fmtB]
theorem pnt_list {k : Nat} (hk : ¬ k = 0) (b : ByteArray) : (pntB k b).data.toList = b.data.toList.take (b.size - k) ++ 46 :: b.data.toList.drop (b.size - k) := by
  unfold pntB
  rw [if_neg hk]
  simp [ByteArray.data_append, ByteArray.data_extract, List.take_of_length_le]
theorem text_run (k : Nat) (s : Bool) (u : Int) (hk : k ≤ 12) (hu : 0 ≤ u) (hu2 : u ≤ 100000000000000000) :
    runB 0 (sgnB s u (pntB k (padB k (fmtB u)))).data.toList (0, 1, false) = some (u, 10 ^ k, decide (0 < k)) := by
  have hd : allD (padB k (fmtB u)).data.toList := by
    rw [pad_list]
    exact allD.append (fun c hc => by rw [List.eq_of_mem_replicate hc]; decide) (fmt_isT u).2.1
  have hv : decF 0 (padB k (fmtB u)).data.toList = u := by
    rw [pad_list, decF_app, decF_zeros]; exact fmt_dec hu
  have hs := (padB_size k (fmtB u)).1
  generalize padB k (fmtB u) = b at *
  have hbl : b.data.toList.length = b.size := by rw [Array.length_toList]; rfl
  have key : ∀ i, runB i (pntB k b).data.toList (0, 1, false) = some (u, 10 ^ k, decide (0 < k)) := by
    intro i
    by_cases h0 : k = 0
    · subst h0
      have : pntB 0 b = b := if_pos rfl
      rw [this, run_dig _ i 0 1 (by omega) hd (by rw [hv]; exact hu2) (by omega), hv]
      rfl
    · rw [pnt_list h0]
      have hsp : b.data.toList = b.data.toList.take (b.size - k) ++ b.data.toList.drop (b.size - k) := (List.take_append_drop _ _).symm
      have ht : allD (b.data.toList.take (b.size - k)) := fun c hc => hd c (List.mem_of_mem_take hc)
      have hr : allD (b.data.toList.drop (b.size - k)) := fun c hc => hd c (List.mem_of_mem_drop hc)
      have hrl : (b.data.toList.drop (b.size - k)).length = k := by rw [List.length_drop, hbl]; omega
      rw [hsp, decF_app] at hv
      have z1 := decF_le _ 0 (by omega) ht
      have z2 := decF_le _ (decF 0 (b.data.toList.take (b.size - k))) z1 hr
      have hp : (1 : Int) * 10 ^ k ≤ 10000000000000 := by
        have h1 : (10 : Nat) ^ k ≤ 10 ^ 12 := Nat.pow_le_pow_right (by omega) hk
        have h2 : ((10 ^ k : Nat) : Int) ≤ ((10 ^ 12 : Nat) : Int) := Int.ofNat_le.2 h1
        have e1 : ((10 ^ k : Nat) : Int) = (10 : Int) ^ k := by simp
        rw [e1] at h2
        have e2 : ((10 ^ 12 : Nat) : Int) = 1000000000000 := by decide
        omega
      generalize b.data.toList.take (b.size - k) = l1 at *
      generalize b.data.toList.drop (b.size - k) = l2 at *
      rw [runB_app, run_dig l1 i 0 1 (by omega) ht (by omega) (by omega), Option.bind_some, runB_cons]
      have e : rstep (i + l1.length) 46 (decF 0 l1) 1 false = some (decF 0 l1, 1, true) := by
        unfold rstep
        rw [if_neg (by decide), if_pos ⟨rfl, rfl⟩, if_pos (by omega)]
      rw [e, Option.bind_some, run_dig2 l2 _ (decF 0 l1) 1 z1 (by omega) hr (by omega) (by rw [hrl]; exact hp), hv, hrl, Int.one_mul, decide_eq_true (by omega)]
  unfold sgnB
  by_cases hc : s = true ∧ ¬ u = 0
  · rw [if_pos hc, ByteArray.data_append, Array.toList_append, show (⟨#[45]⟩ : ByteArray).data.toList = [45] from rfl, List.singleton_append, runB_cons]
    have e : rstep 0 45 0 1 false = some (0, 1, false) := by decide
    rw [e, Option.bind_some]
    exact key 1
  · rw [if_neg hc]; exact key 0
/-- Whether the text begins with a sign. -/
theorem text_head (k : Nat) (s : Bool) (u : Int) : ∃ c l, (sgnB s u (pntB k (padB k (fmtB u)))).data.toList = c :: l ∧ (c = 45 ↔ (s = true ∧ ¬ u = 0)) := by
  have hd : allD (padB k (fmtB u)).data.toList := by
    rw [pad_list]
    exact allD.append (fun c hc => by rw [List.eq_of_mem_replicate hc]; decide) (fmt_isT u).2.1
  have hs := (padB_size k (fmtB u)).1
  generalize padB k (fmtB u) = b at *
  have hbl : b.data.toList.length = b.size := by rw [Array.length_toList]; rfl
  have key : ∃ c l, (pntB k b).data.toList = c :: l ∧ isd c = true := by
    cases hb : b.data.toList with
    | nil => rw [hb] at hbl; simp at hbl; omega
    | cons c l =>
      by_cases h0 : k = 0
      · subst h0
        exact ⟨c, l, by rw [show pntB 0 b = b from if_pos rfl, hb], hd c (by rw [hb]; exact List.mem_cons_self ..)⟩
      · obtain ⟨m, hm⟩ : ∃ m, b.size - k = m + 1 := ⟨b.size - k - 1, by omega⟩
        exact ⟨c, _, by rw [pnt_list h0, hb, hm, List.take_succ_cons, List.cons_append], hd c (by rw [hb]; exact List.mem_cons_self ..)⟩
  unfold sgnB
  by_cases hc : s = true ∧ ¬ u = 0
  · rw [if_pos hc]
    exact ⟨45, (pntB k b).data.toList, by rw [ByteArray.data_append, Array.toList_append]; rfl, fun _ => hc, fun _ => rfl⟩
  · rw [if_neg hc]
    obtain ⟨c, l, h1, h2⟩ := key
    exact ⟨c, l, h1, fun e => by rw [e] at h2; exact absurd h2 (by decide), fun h => absurd h hc⟩
/-- A rounded number is near: twice the difference of the products is at most the denominator. -/
theorem near {p q t u : Int} (hq : 0 < q) (hu : u = (p * (2 * t) + q) / (q * 2)) : -q ≤ 2 * (p * t - u * q) ∧ 2 * (p * t - u * q) ≤ q := by
  have h1 := Int.emod_nonneg (p * (2 * t) + q) (show q * 2 ≠ 0 by omega)
  have h2 := Int.emod_lt_of_pos (p * (2 * t) + q) (show 0 < q * 2 by omega)
  have h3 := Int.emod_add_mul_ediv (p * (2 * t) + q) (q * 2)
  rw [← hu] at h3
  have e1 : p * (2 * t) = 2 * (p * t) := by rw [← Int.mul_assoc, Int.mul_comm p 2, Int.mul_assoc]
  have e2 : q * 2 * u = 2 * (u * q) := by rw [Int.mul_comm q 2, Int.mul_assoc, Int.mul_comm q u]
  rw [e1, e2] at h3
  rw [e1] at h1 h2
  generalize p * t = a at *
  generalize u * q = b at *
  omega
end Go.Proofs.YtbhneddjjgegmaaGreatDoor
