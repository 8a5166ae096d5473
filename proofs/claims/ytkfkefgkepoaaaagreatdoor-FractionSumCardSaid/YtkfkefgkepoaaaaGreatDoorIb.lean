/- slices.Clone of a list of fractions. -/
import Derived.Test.YtkfkefgkepoaaaaGreatDoorIa
import Derived.Lib.SliceRun
namespace Go.Proofs.YtkfkefgkepoaaaaGreatDoor
open Go.RowKit
set_option linter.unusedVariables false
set_option maxRecDepth 100000

def frcCells (x : FL) : List Value := [.bool x.s, .slice x.A x.n x.c, .slice x.B x.m x.d]
def frcsCells (L : List FL) : List Value := L.flatMap frcCells
theorem frcs_len : ∀ L : List FL, (frcsCells L).length = L.length * 3
  | [] => rfl
  | x :: r => by
    have := frcs_len r
    unfold frcsCells at *
    rw [List.flatMap_cons, List.length_append, this, List.length_cons]
    show 3 + _ = _
    omega
theorem frcs_snoc (L : List FL) (x : FL) : frcsCells (L ++ [x]) = frcsCells L ++ frcCells x := by
  unfold frcsCells; rw [List.flatMap_append]; simp
theorem frcs_at : ∀ (L : List FL) (j : Nat) (x : FL), L[j]? = some x → (frcsCells L)[j * 3]? = some (.bool x.s) ∧ (frcsCells L)[j * 3 + 1]? = some (.slice x.A x.n x.c) ∧ (frcsCells L)[j * 3 + 2]? = some (.slice x.B x.m x.d)
  | [], j, x, h => by simp at h
  | y :: r, 0, x, h => by
    simp at h; subst h
    exact ⟨rfl, rfl, rfl⟩
  | y :: r, j + 1, x, h => by
    have ih := frcs_at r j x (by simpa using h)
    have e : frcsCells (y :: r) = frcCells y ++ frcsCells r := by unfold frcsCells; rw [List.flatMap_cons]
    have hl : (frcCells y).length = 3 := rfl
    rw [e]
    refine ⟨?_, ?_, ?_⟩
    · rw [List.getElem?_append_right (by omega), hl, show (j + 1) * 3 - 3 = j * 3 by omega]; exact ih.1
    · rw [List.getElem?_append_right (by omega), hl, show (j + 1) * 3 + 1 - 3 = j * 3 + 1 by omega]; exact ih.2.1
    · rw [List.getElem?_append_right (by omega), hl, show (j + 1) * 3 + 2 - 3 = j * 3 + 2 by omega]; exact ih.2.2
/-- The cells of a slice of fractions. -/
def FracC (w : World) (A : Option Addr) (L : List FL) : Prop :=
  0 < L.length → ∃ b off, A = some ⟨b, off, none⟩ ∧ b < w.heap.size ∧ ∀ (j : Nat) (x : FL), L[j]? = some x →
    w.cell? ⟨b, off + j * 3, none⟩ = some (.bool x.s) ∧ w.cell? ⟨b, off + j * 3 + 1, none⟩ = some (.slice x.A x.n x.c) ∧ w.cell? ⟨b, off + j * 3 + 2, none⟩ = some (.slice x.B x.m x.d)
theorem frcs_nil (w : World) (A : Option Addr) : FracC w A [] := fun h => by simp at h
theorem frcs_own {w : World} {base n c : Nat} {e : TypeId} {A : Option Addr} {L : List FL} (h : w.ownsRow base e 3 (.slice A n c) n (frcsCells L)) (hn : n = L.length) : FracC w A L := by
  intro h0
  obtain ⟨g, cap, hv, hb, hlt⟩ := h.form (by omega)
  have hA : A = some ⟨g, 0, none⟩ := by injection hv
  subst hA
  refine ⟨g, 0, rfl, hlt, fun j x hx => ?_⟩
  obtain ⟨h1, h2, h3⟩ := frcs_at L j x hx
  have hc := h.cells (g := g) rfl
  have ea : ∀ i, (⟨g, 0, none⟩ : Addr).add i = ⟨g, 0 + i, none⟩ := fun i => by unfold Addr.add; split <;> simp_all
  refine ⟨?_, ?_, ?_⟩
  · have := hc _ _ h1; rw [ea] at this; exact this
  · have := hc _ _ h2; rw [ea] at this; exact this
  · have := hc _ _ h3; rw [ea] at this; exact this
theorem own_sliceF {w : World} {base n : Nat} {e : TypeId} {sz : Nat} {v : Value} {xs : List Value} (h : w.ownsRow base e sz v n xs) : ∃ A c, v = .slice A n c ∧ n ≤ c := by
  rcases h.2 with ⟨rfl, rfl⟩ | ⟨g, cap, cur, rfl, _, _, hnc, _⟩
  · exact ⟨none, 0, rfl, Nat.le_refl _⟩
  · exact ⟨_, _, rfl, hnc⟩
theorem bnewF (w : World) (o : Obj) : Below w.heap.size w (w.alloc o) := (Below.refl _ _).alloc (Nat.le_refl _) _
theorem frc_one (x : FL) : ∀ u ∈ frcCells x, u.oneCell' = true := by
  intro u hu
  unfold frcCells at hu
  simp only [List.mem_cons, List.not_mem_nil, or_false] at hu
  rcases hu with rfl | rfl | rfl <;> rfl
theorem frc_info : (Tryz.prog.info? 32).map (fun i => (i.zero, i.size, i.bytes)) = some (some (.agg #[.bool false, .slice none 0 0, .slice none 0 0]), 3, 56) := by kernel_rfl
theorem frcs_all (L : List FL) : ∀ u ∈ frcsCells L, u.oneCell' = true := by
  intro u hu
  unfold frcsCells at hu
  obtain ⟨x, _, h⟩ := List.mem_flatMap.1 hu
  exact frc_one x u h
theorem frcs_split : ∀ (L : List FL) (i : Nat) (u : Value), (frcsCells L)[i]? = some u → ∃ (j : Nat) (x : FL), L[j]? = some x ∧ ((i = j * 3 ∧ u = .bool x.s) ∨ (i = j * 3 + 1 ∧ u = .slice x.A x.n x.c) ∨ (i = j * 3 + 2 ∧ u = .slice x.B x.m x.d))
  | [], i, u, h => by simp [frcsCells] at h
  | y :: r, 0, u, h => ⟨0, y, rfl, Or.inl ⟨rfl, by simpa [frcsCells, frcCells] using h.symm⟩⟩
  | y :: r, 1, u, h => ⟨0, y, rfl, Or.inr (Or.inl ⟨rfl, by simpa [frcsCells, frcCells] using h.symm⟩)⟩
  | y :: r, 2, u, h => ⟨0, y, rfl, Or.inr (Or.inr ⟨rfl, by simpa [frcsCells, frcCells] using h.symm⟩)⟩
  | y :: r, i + 3, u, h => by
    have h' : (frcsCells r)[i]? = some u := by simpa [frcsCells, frcCells] using h
    obtain ⟨j, x, hx, hc⟩ := frcs_split r i u h'
    refine ⟨j + 1, x, by simpa using hx, ?_⟩
    rcases hc with ⟨a, b⟩ | ⟨a, b⟩ | ⟨a, b⟩
    · exact Or.inl ⟨by omega, b⟩
    · exact Or.inr (Or.inl ⟨by omega, b⟩)
    · exact Or.inr (Or.inr ⟨by omega, b⟩)
theorem frcs_read {w w' : World} {b off : Nat} {L : List FL} (h : ∀ (j : Nat) (x : FL), L[j]? = some x → w.cell? ⟨b, off + j * 3, none⟩ = some (.bool x.s) ∧ w.cell? ⟨b, off + j * 3 + 1, none⟩ = some (.slice x.A x.n x.c) ∧ w.cell? ⟨b, off + j * 3 + 2, none⟩ = some (.slice x.B x.m x.d))
    (hb : Below w.heap.size w w') (hlt : b < w.heap.size) : ∀ (i : Nat) (u : Value), (frcsCells L)[i]? = some u → w'.cell? ((⟨b, off, none⟩ : Addr).add i) = some u := by
  intro i u hu
  rw [show (⟨b, off, none⟩ : Addr).add i = ⟨b, off + i, none⟩ from by unfold Addr.add; split <;> simp_all]
  rw [hb.cell (p := ⟨b, off + i, none⟩) hlt]
  obtain ⟨j, x, hx, hc⟩ := frcs_split L i u hu
  obtain ⟨h1, h2, h3⟩ := h j x hx
  rcases hc with ⟨a, rfl⟩ | ⟨a, rfl⟩ | ⟨a, rfl⟩
  · subst a; exact h1
  · subst a; rw [← Nat.add_assoc]; exact h2
  · subst a; rw [← Nat.add_assoc]; exact h3
set_option maxHeartbeats 4000000 in
theorem cloneC_any (L : List FL) (n c : Nat) (A : Option Addr) (w : World) (hl : n = L.length) (hn : n ≤ 1000000) (hA : FracC w A L) :
    Calls Tryz.prog 7 #[.slice A n c] w fun e w' => ∃ C d, e = .returned (.slice C n d) ∧ w'.ownsRow w.heap.size 32 3 (.slice C n d) n (frcsCells L) ∧ Below w.heap.size w w' := by
  obtain ⟨i0, hi, hz0, hz1, hz2⟩ := info_parts frc_info
  have qn : ∀ (w : World) (a : Option Addr) (n c n' c' : Nat), (binOp .eql 22 (.slice a n c) (.slice none n' c')).run Tryz.prog w = .ok (.bool a.isNone) w := fun w a n c n' c' => Lib.run_eql_slice_nil w _ _ a n c n' c' Tryz.underlying22
  have HL := Lib.hid hl
  have HA := Lib.hid hA
  clear hA hl
  cases A with
  | none =>
    have hn0 : n = 0 := by
      rcases Nat.eq_zero_or_pos n with h | h
      · exact h
      · obtain ⟨b, off, e, _⟩ := HA.out (by have := HL.out; omega)
        cases e
    subst hn0
    have hL0 : L = [] := List.eq_nil_of_length_eq_zero HL.out.symm
    go_enter Tryz.func7, Tryz.ntmps7
    go_wp2
    go_ret
    exact ⟨none, 0, rfl, by rw [hL0]; exact World.ownsRow_nil _ _ _ _, Below.refl _ _⟩
  | some a =>
    have HR := Lib.hid (show ∀ (i : Nat) (u : Value), (frcsCells L)[i]? = some u → (w.alloc (.cells #[] 32)).cell? (a.add i) = some u from fun i u hu => by
      have h0 : 0 < L.length := by
        rcases Nat.eq_zero_or_pos L.length with h | h
        · rw [List.eq_nil_of_length_eq_zero h] at hu; simp [frcsCells] at hu
        · exact h
      obtain ⟨b, off, e, hlt, hc⟩ := HA.out h0
      injection e with e
      subst e
      exact frcs_read hc (bnewF _ _) hlt i u hu)
    go_enter Tryz.func7, Tryz.ntmps7
    go_wp2_with (at_builtin; refine wpList_append_own _ rfl _ _ 22 rfl w.heap.size 32 i0 _ 3 56 Tryz.underlying22 hi hz0 hz1 hz2 rfl (by decide) _ _ _ rfl (World.ownsRow_made w #[] 0 (Nat.le_refl _) (Nat.zero_le _) rfl) a n c (frcsCells L) rfl (by rw [frcs_len]; have := HL.out; omega) HR.out (frcs_all L) (by unfold maxLen; omega) (by omega) (by simp) ?_)
    intro v' w1 hown hgrow hnil
    have HB := Lib.hid (((bnewF w (.cells #[] 32))).grown hgrow (by simp) (by intro k hk; simp [Value.ownBlock] at hk; omega))
    have hown' : w1.ownsRow w.heap.size 32 3 v' n (frcsCells L) := by simpa using hown
    obtain ⟨C, d, rfl, hd⟩ := own_sliceF hown'
    have HT := Lib.hid hown'
    clear hown hgrow hnil hown'
    go_wp2
    go_ret
    exact ⟨C, d, rfl, HT.out, HB.out⟩
theorem cloneF_any (l : List FL) (n c : Nat) (A : Option Addr) (w : World) (hl : n = l.length) (hn : n ≤ 1000000) (hA : FracL w A l) :
    Calls Tryz.prog 7 #[.slice A n c] w fun e w' => ∃ C d, e = .returned (.slice C n d) ∧ n ≤ d ∧ FracL w' C l ∧ w'.ownsRow w.heap.size 32 3 (.slice C n d) n (frcsCells l) ∧ Below w.heap.size w w' :=
  (cloneC_any l n c A w hl hn hA.2).mono fun e w' ⟨C, d, he, ho, hb⟩ => ⟨C, d, he, by obtain ⟨_, _, e1, h1⟩ := own_sliceF ho; injection e1 with e1 e2 e3; omega, ⟨fun x hx => (hA.1 x hx).below hb, frcs_own ho hl⟩, ho, hb⟩
end Go.Proofs.YtkfkefgkepoaaaaGreatDoor
