/- Plain mathematics of automata: how many states a minimal automaton has; the parts of a language. Nothing here speaks of the program. -/
import Derived.Test.YtbfedfiemkhefaaAMq
namespace Go.Proofs.Ytbfedfiemkhefaa
set_option linter.unusedVariables false
theorem Canon.few {k : Nat} {A B R : Au} {f : Bool → Bool → Bool} (hA : A.Right k) (hB : B.Right k) (h : Canon k (fun u => f (A.lang u) (B.lang u)) R) : R.n ≤ (A.n + 1) * (B.n + 1) := by
  rcases Nat.eq_zero_or_pos R.n with h0 | h0
  · rw [h0]; exact Nat.zero_le _
  obtain ⟨pa, hb⟩ := h.bfs h0
  have hst := h.start h0
  have hw : ∀ q : Nat, q < R.n → ∃ u, Let k u ∧ R.run 0 u = (q : Int) := fun q hq => by
    obtain ⟨u, _, h1, h2⟩ := hb.word h.right.pos (q + 1) q (q : Int) (Nat.lt_succ_self q) (rangeI_mk hq)
    exact ⟨u, h1, h2⟩
  obtain ⟨g, hg⟩ : ∃ g : Nat → List Nat, ∀ q, q < R.n → Let k (g q) ∧ R.run 0 (g q) = (q : Int) :=
    ⟨fun q => if hq : q < R.n then Classical.choose (hw q hq) else [], fun q hq => by simp only [dif_pos hq]; exact Classical.choose_spec (hw q hq)⟩
  have key := few2 (A := A) (B := B) (l := (List.range R.n).map fun q => (A.run A.st (g q), B.run B.st (g q)))
    (fun j p hj => by
      rw [List.getElem?_map] at hj
      cases e : (List.range R.n)[j]? with
      | none => rw [e] at hj; cases hj
      | some x =>
        rw [e] at hj
        injection hj with hj
        subst hj
        exact ⟨hA.inRun _ _ hA.st_in.1 hA.st_in.2, hB.inRun _ _ hB.st_in.1 hB.st_in.2⟩)
    (fun i j x hi hj => by
      have hil : i < R.n := by have := (List.getElem?_eq_some_iff.1 hi).1; simpa using this
      have hjl : j < R.n := by have := (List.getElem?_eq_some_iff.1 hj).1; simpa using this
      rw [List.getElem?_map, List.getElem?_range hil] at hi
      rw [List.getElem?_map, List.getElem?_range hjl] at hj
      injection hi with hi
      injection hj with hj
      have e := hi.trans hj.symm
      injection e with e1 e2
      refine h.red i j hil hjl fun v hv => ?_
      have hl : ∀ q : Nat, q < R.n → R.acc (R.run q v) = f (A.acc (A.run (A.run A.st (g q)) v)) (B.acc (B.run (B.run B.st (g q)) v)) := fun q hq => by
        have h1 := h.lang (g q ++ v) ((hg q hq).1.app hv)
        unfold Au.lang at h1
        rw [Au.run_app, Au.run_app, Au.run_app, hst, (hg q hq).2] at h1
        exact h1
      rw [hl i hil, hl j hjl, e1, e2])
  simpa using key
theorem wordsN_len (k : Nat) : ∀ n, (wordsN k n).length = k ^ n
  | 0 => rfl
  | n + 1 => by
    unfold wordsN
    rw [List.length_flatMap]
    simp only [List.length_map, wordsN_len k n]
    rw [List.map_const', List.sum_replicate_nat, List.length_range, Nat.pow_succ, Nat.mul_comm]
theorem cw_few {M : Au} {k : Nat} (h : M.Right k) (hk : k ≤ 4) {n : Nat} (hn : n ≤ 20) : M.cw n M.st ≤ 1099511627776 := by
  rw [h.cw_words n M.st h.st_in.1 h.st_in.2]
  refine Nat.le_trans (List.countP_le_length) ?_
  rw [wordsN_len]
  exact Nat.le_trans (Nat.pow_le_pow_left hk n) (Nat.le_trans (Nat.pow_le_pow_right (by omega) hn) (by decide))
theorem cnt_few {M : Au} {k : Nat} (h : M.Vld k) (hk : k ≤ 4) {n : Nat} (hn : n ≤ 20) : M.cntR (n : Int) = (((M.cw n M.st : Nat) : Int), 0) := by
  have := cw_few h.right hk hn
  unfold Au.cntR
  rw [if_pos h.vE, if_neg (by omega), Int.toNat_natCast, if_neg (by omega)]
theorem cw_split {A R S : Au} {k : Nat} {f : List Nat → Bool} (hA : A.Right k) (hR : R.Right k) (hS : S.Right k) (h1 : ∀ u, Let k u → R.lang u = (A.lang u && f u)) (h2 : ∀ u, Let k u → S.lang u = (A.lang u && !f u)) (n : Nat) : A.cw n A.st = R.cw n R.st + S.cw n S.st := by
  rw [hA.cw_words n _ hA.st_in.1 hA.st_in.2, hR.cw_words n _ hR.st_in.1 hR.st_in.2, hS.cw_words n _ hS.st_in.1 hS.st_in.2]
  refine countP_split _ _ _ _ fun u hu => ?_
  have hl := (wordsN_mem.1 hu).2
  have e1 := h1 u hl
  have e2 := h2 u hl
  unfold Au.lang at e1 e2
  rw [e1, e2]
  cases A.acc (A.run A.st u) <;> cases f u <;> exact ⟨rfl, rfl⟩
/-- A minimal automaton that is small enough. -/
theorem Canon.vld {k : Nat} {P : List Nat → Bool} {R : Au} (h : Canon k P R) (hk : k ≤ 8) (hn : R.n ≤ 400) : R.Vld k := ⟨h.right, hk, hn⟩
theorem two_thirteen {a b : Nat} (ha : a ≤ 12) (hb : b ≤ 12) : (a + 1) * (b + 1) ≤ 400 := by
  have := Nat.mul_le_mul (show a + 1 ≤ 13 by omega) (show b + 1 ≤ 13 by omega)
  omega
end Go.Proofs.Ytbfedfiemkhefaa
