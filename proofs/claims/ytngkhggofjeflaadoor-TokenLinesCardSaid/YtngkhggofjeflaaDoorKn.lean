/- Contract of slices.Clone on tokens. -/
import Derived.Test.YtngkhggofjeflaaDoorKm
import Derived.Lib.SliceRun
namespace Go.Proofs.YtngkhggofjeflaaDoor
open Go.RowKit
set_option linter.unusedVariables false
set_option maxRecDepth 100000

theorem toks_all (L : List Tok) : ∀ u ∈ toksCells L, u.oneCell' = true := by
  intro u hu
  unfold toksCells at hu
  obtain ⟨x, _, h⟩ := List.mem_flatMap.1 hu
  exact tok_one x u h
theorem toks_split : ∀ (L : List Tok) (i : Nat) (u : Value), (toksCells L)[i]? = some u → ∃ (j : Nat) (x : Tok), L[j]? = some x ∧ ((i = j * 3 ∧ u = .int .i64 x.k) ∨ (i = j * 3 + 1 ∧ u = .string (bs x.t)) ∨ (i = j * 3 + 2 ∧ u = .int .i64 x.l))
  | [], i, u, h => by simp [toksCells] at h
  | y :: r, 0, u, h => ⟨0, y, rfl, Or.inl ⟨rfl, by simpa [toksCells, tokCells] using h.symm⟩⟩
  | y :: r, 1, u, h => ⟨0, y, rfl, Or.inr (Or.inl ⟨rfl, by simpa [toksCells, tokCells] using h.symm⟩)⟩
  | y :: r, 2, u, h => ⟨0, y, rfl, Or.inr (Or.inr ⟨rfl, by simpa [toksCells, tokCells] using h.symm⟩)⟩
  | y :: r, i + 3, u, h => by
    have h' : (toksCells r)[i]? = some u := by simpa [toksCells, tokCells] using h
    obtain ⟨j, x, hx, hc⟩ := toks_split r i u h'
    refine ⟨j + 1, x, by simpa using hx, ?_⟩
    rcases hc with ⟨a, b⟩ | ⟨a, b⟩ | ⟨a, b⟩
    · exact Or.inl ⟨by omega, b⟩
    · exact Or.inr (Or.inl ⟨by omega, b⟩)
    · exact Or.inr (Or.inr ⟨by omega, b⟩)
theorem toks_read {w w' : World} {b off : Nat} {L : List Tok} (h : ∀ (j : Nat) (x : Tok), L[j]? = some x → w.cell? ⟨b, off + j * 3, none⟩ = some (.int .i64 x.k) ∧ w.cell? ⟨b, off + j * 3 + 1, none⟩ = some (.string (bs x.t)) ∧ w.cell? ⟨b, off + j * 3 + 2, none⟩ = some (.int .i64 x.l))
    (hb : Below w.heap.size w w') (hlt : b < w.heap.size) : ∀ (i : Nat) (u : Value), (toksCells L)[i]? = some u → w'.cell? ((⟨b, off, none⟩ : Addr).add i) = some u := by
  intro i u hu
  rw [show (⟨b, off, none⟩ : Addr).add i = ⟨b, off + i, none⟩ from by unfold Addr.add; split <;> simp_all]
  rw [hb.cell (p := ⟨b, off + i, none⟩) hlt]
  obtain ⟨j, x, hx, hc⟩ := toks_split L i u hu
  obtain ⟨h1, h2, h3⟩ := h j x hx
  rcases hc with ⟨a, rfl⟩ | ⟨a, rfl⟩ | ⟨a, rfl⟩
  · subst a; exact h1
  · subst a; rw [← Nat.add_assoc]; exact h2
  · subst a; rw [← Nat.add_assoc]; exact h3
set_option maxHeartbeats 4000000 in
theorem clone_any (L : List Tok) (n c : Nat) (A : Option Addr) (w : World) (hl : n = L.length) (hn : n ≤ 1000000) (hA : ToksIn w A L) :
    Calls Tryd.prog 18 #[.slice A n c] w fun e w' => ∃ C d, e = .returned (.slice C n d) ∧ ToksIn w' C L ∧ Below w.heap.size w w' := by
  obtain ⟨i0, hi, hz0, hz1, hz2⟩ := info_parts token_info
  have qn : ∀ (w : World) (a : Option Addr) (n c n' c' : Nat), (binOp .eql 23 (.slice a n c) (.slice none n' c')).run Tryd.prog w = .ok (.bool a.isNone) w := fun w a n c n' c' => Lib.run_eql_slice_nil w _ _ a n c n' c' Tryd.underlying23
  have HL := Lib.hid hl
  have HA := Lib.hid hA
  clear hA hl
  cases A with
  | none =>
    have hn0 : n = 0 := by
      rcases Nat.eq_zero_or_pos n with h | h
      · exact h
      · obtain ⟨b, off, e, _⟩ := HA.out (by have := HL.out; omega)
        cases e
    subst hn0
    have hL0 : L = [] := List.eq_nil_of_length_eq_zero HL.out.symm
    go_enter Tryd.func18, Tryd.ntmps18
    go_wp2
    go_ret
    exact ⟨none, 0, rfl, by rw [hL0]; exact toks_nil _ _, Below.refl _ _⟩
  | some a =>
    have HR := Lib.hid (show ∀ (i : Nat) (u : Value), (toksCells L)[i]? = some u → (w.alloc (.cells #[] 29)).cell? (a.add i) = some u from fun i u hu => by
      have h0 : 0 < L.length := by
        rcases Nat.eq_zero_or_pos L.length with h | h
        · rw [List.eq_nil_of_length_eq_zero h] at hu; simp [toksCells] at hu
        · exact h
      obtain ⟨b, off, e, hlt, hc⟩ := HA.out h0
      injection e with e
      subst e
      exact toks_read hc (bnew _ _) hlt i u hu)
    go_enter Tryd.func18, Tryd.ntmps18
    go_wp2_with (at_builtin; refine wpList_append_own _ rfl _ _ 23 rfl w.heap.size 29 i0 _ 3 32 Tryd.underlying23 hi hz0 hz1 hz2 rfl (by decide) _ _ _ rfl (World.ownsRow_made w #[] 0 (Nat.le_refl _) (Nat.zero_le _) rfl) a n c (toksCells L) rfl (by rw [toks_len]; have := HL.out; omega) HR.out (toks_all L) (by unfold maxLen; omega) (by omega) (by simp) ?_)
    intro v' w1 hown hgrow hnil
    have HB := Lib.hid (((bnew w (.cells #[] 29))).grown hgrow (by simp) (by intro k hk; simp [Value.ownBlock] at hk; omega))
    have hown' : w1.ownsRow w.heap.size 29 3 v' n (toksCells L) := by simpa using hown
    obtain ⟨C, d, rfl, hd⟩ := own_slice hown'
    have HT := Lib.hid (toks_own hown' HL.out)
    clear hown hgrow hnil hown'
    go_wp2
    go_ret
    exact ⟨C, d, rfl, HT.out, HB.out⟩
end Go.Proofs.YtngkhggofjeflaaDoor
