/- Copies and comparisons of lists of numbers, by the library's contracts. -/
import Derived.Test.YtdoobdfanalnbaaDBc
import Derived.Test.YtdoobdfanalnbaaShelf
namespace Go.Proofs.Ytdoobdfanalnbaa
open Go.RowKit
set_option linter.unusedVariables false
set_option linter.unusedSimpArgs false
set_option maxRecDepth 100000

/-- A copy of a list of numbers. -/
def ClonePost (W : World) (l : List Itm) (n : Nat) (L : List Int) (w : World) (e : Ending) (w' : World) : Prop := ∃ C d, e = .returned (.slice C n d) ∧ Hp W (nums C n d L :: l) w' ∧ Below w.heap.size w w'
theorem clone_nums (L : List Int) (A : Option Addr) (n c : Nat) (W w : World) (l : List Itm) (h : Hp W l w) (hn : L.length = n) (hb : n ≤ 1000000000000) (hA : CellsIn w A (ints L)) :
    Calls Try.prog 32 #[.slice A n c] w (ClonePost W l n L w) := by
  have mk : ∀ (v' : Value) (w' : World), w'.ownsRow w.heap.size 3 1 v' n (ints L) → Below w.heap.size w w' → ∃ C d, v' = .slice C n d ∧ Hp W (nums C n d L :: l) w' := by
    intro v' w' ho hbel
    have ho' := own_base ho h.below.size
    have hv : ∃ C d, v' = .slice C n d := by
      rcases ho.2 with ⟨e, h0⟩ | ⟨g, cap, cur, e, _⟩
      · exact ⟨none, 0, by rw [e, h0]⟩
      · exact ⟨_, _, e⟩
    obtain ⟨C, d, rfl⟩ := hv
    exact ⟨C, d, rfl, h.new (nums C n d L) hbel ho' (fun k hk => (ho.lt k hk).1)⟩
  by_cases h0 : n = 0
  · subst h0
    have e0 : L = [] := List.eq_nil_of_length_eq_zero hn
    subst e0
    cases A with
    | none =>
      refine (Try.slices_Clone_int_nil 0 c w).mono ?_
      rintro e w' ⟨rfl, rfl⟩
      exact ⟨none, 0, rfl, h.nil_row _ rfl rfl rfl, Below.refl _ _⟩
    | some a =>
      refine (Try.slices_Clone_int_zero a c w).mono ?_
      rintro e w' ⟨v', rfl, ho, _, hbel⟩
      obtain ⟨C, d, rfl, hp⟩ := mk v' w' ho hbel
      exact ⟨C, d, rfl, hp, hbel⟩
  · obtain ⟨b, off, rfl, hlt, hc⟩ := hA (by rw [ints_len]; omega)
    refine (Try.slices_Clone_int b off n c L w (by omega) (by omega) (fun j hj => hc j _ (ints_at hj))).mono ?_
    rintro e w' ⟨v', rfl, ho, _, hbel⟩
    rw [List.take_of_length_le (by omega)] at ho
    obtain ⟨C, d, rfl, hp⟩ := mk v' w' ho hbel
    exact ⟨C, d, rfl, hp, hbel⟩
theorem equal_nums (A1 A2 : Option Addr) (n c m d : Nat) (L M : List Int) (w : World) (hL : L.length = n) (hM : M.length = m) (hn : n ≤ 17592186044416) (hm : m ≤ 17592186044416) (h1 : CellsIn w A1 (ints L)) (h2 : CellsIn w A2 (ints M)) :
    Calls Try.prog 20 #[.slice A1 n c, .slice A2 m d] w fun e w' => e = .returned (.bool (decide (L = M))) ∧ Below w.heap.size w w' := by
  by_cases h0 : n = 0
  · subst h0
    have e0 : L = [] := List.eq_nil_of_length_eq_zero hL
    subst e0
    refine (Try.slices_Equal_int_empty A1 A2 c m d w (by omega)).mono ?_
    rintro e w' ⟨rfl, rfl⟩
    refine ⟨ret_bool ?_, Below.refl _ _⟩
    apply decide_eq_decide.2
    rw [← hM]
    constructor
    · intro h; exact (List.eq_nil_of_length_eq_zero h).symm
    · intro h; rw [← h]; rfl
  · by_cases hnm : n = m
    · subst hnm
      obtain ⟨b1, o1, rfl, _, hc1⟩ := h1 (by rw [ints_len]; omega)
      obtain ⟨b2, o2, rfl, _, hc2⟩ := h2 (by rw [ints_len]; omega)
      refine (Try.slices_Equal_int b1 o1 n c b2 o2 n d L M w (by omega) (by omega) (by omega) (by omega) (fun j hj => hc1 j _ (ints_at hj)) (fun j hj => hc2 j _ (ints_at hj))).mono ?_
      rintro e w' ⟨rfl, q, rfl⟩
      refine ⟨ret_bool ?_, bdrewN _ _⟩
      rw [List.take_of_length_le (by omega), List.take_of_length_le (by omega)]
      by_cases e : L = M
      · rw [decide_eq_true e, beq_iff_eq]; exact e
      · rw [decide_eq_false e, beq_eq_false_iff_ne]; exact e
    · refine (Try.slices_Equal_int_lens A1 A2 n c m d w hnm).mono ?_
      rintro e w' ⟨rfl, rfl⟩
      exact ⟨ret_bool (decide_eq_false (fun e => hnm (by rw [← hL, ← hM, e]))).symm, Below.refl _ _⟩
/-- A row is cut by its last number. -/
theorem Hp.cut {W w : World} {l : List Itm} {i g n c : Nat} {L : List Int} {x : Int} (h : Hp W l w) (hi : l[i]? = some (nums (some ⟨g, 0, none⟩) (n + 1) c (L ++ [x]))) : Hp W (l.set i (nums (some ⟨g, 0, none⟩) n c L)) w := by
  have ho := h.own i _ hi
  refine h.upd hi _ ⟨rfl, rfl, rfl, Nat.le_refl _, fun _ _ _ => rfl⟩ ?_ (fun k hk => .inl hk)
  have hl : L.length = n := by have := h.num_len hi; simpa using this
  refine ⟨by simp [nums, ints, hl], ?_⟩
  rcases ho.2 with ⟨e, _⟩ | ⟨g', cap, cur, e, h1, h2, h3, h4, h5, h6⟩
  · cases e
  · have e' : Value.slice (some ⟨g, 0, none⟩) (n + 1) c = .slice (some ⟨g', 0, none⟩) (n + 1) cap := e
    injection e' with e1 _ e3
    injection e1 with e1
    injection e1 with e1
    subst e1; subst e3
    refine .inr ⟨g, c, cur, rfl, h1, h2, ?_, h4, h5, ?_⟩
    · exact Nat.le_of_succ_le h3
    · have h7 : cur.toList.take ((n + 1) * 1) = ints (L ++ [x]) := h6
      show cur.toList.take (n * 1) = ints L
      have : (cur.toList.take ((n + 1) * 1)).take (n * 1) = cur.toList.take (n * 1) := by rw [List.take_take]; congr 1; omega
      rw [← this, h7]
      unfold ints
      rw [List.map_append, List.take_left' (by simp; omega)]
end Go.Proofs.Ytdoobdfanalnbaa
