/- Copies and comparisons of lists of numbers, by the library's contracts; an append to a row that is used further on. -/
import Derived.Test.YthcdbhancfpldaaDBa
import Derived.Test.YthcdbhancfpldaaShelf
import Derived.Deep.DeepAppendRoom
namespace Go.Proofs.Ythcdbhancfpldaa
open Go.RowKit
set_option linter.unusedVariables false
set_option linter.unusedSimpArgs false
set_option maxRecDepth 100000

/-- A copy of a list of numbers. -/
def ClonePost (W : World) (l : List Itm) (n : Nat) (L : List Int) (w : World) (e : Ending) (w' : World) : Prop := ∃ C d, e = .returned (.slice C n d) ∧ Hp W (nums C n d L :: l) w' ∧ Below w.heap.size w w'
theorem clone_nums (L : List Int) (A : Option Addr) (n c : Nat) (W w : World) (l : List Itm) (h : Hp W l w) (hn : L.length = n) (hb : n ≤ 1000000000000) (hA : CellsIn w A (ints L)) :
    Calls Try.prog 37 #[.slice A n c] w (ClonePost W l n L w) := by
  have mk : ∀ (v' : Value) (w' : World), w'.ownsRow w.heap.size 3 1 v' n (ints L) → Below w.heap.size w w' → ∃ C d, v' = .slice C n d ∧ Hp W (nums C n d L :: l) w' := by
    intro v' w' ho hbel
    have ho' := own_base ho h.below.size
    have hv : ∃ C d, v' = .slice C n d := by
      rcases ho.2 with ⟨e, h0⟩ | ⟨g, cap, cur, e, _⟩
      · exact ⟨none, 0, by rw [e, h0]⟩
      · exact ⟨_, _, e⟩
    obtain ⟨C, d, rfl⟩ := hv
    exact ⟨C, d, rfl, h.new (nums C n d L) hbel ho' (fun k hk => (ho.lt k hk).1)⟩
  by_cases h0 : n = 0
  · subst h0
    have e0 : L = [] := List.eq_nil_of_length_eq_zero hn
    subst e0
    cases A with
    | none =>
      refine (Try.slices_Clone_int_nil 0 c w).mono ?_
      rintro e w' ⟨rfl, rfl⟩
      exact ⟨none, 0, rfl, h.nil_row _ rfl rfl rfl, Below.refl _ _⟩
    | some a =>
      refine (Try.slices_Clone_int_zero a c w).mono ?_
      rintro e w' ⟨v', rfl, ho, _, hbel⟩
      obtain ⟨C, d, rfl, hp⟩ := mk v' w' ho hbel
      exact ⟨C, d, rfl, hp, hbel⟩
  · obtain ⟨b, off, rfl, hlt, hc⟩ := hA (by rw [ints_len]; omega)
    refine (Try.slices_Clone_int b off n c L w (by omega) (by omega) (fun j hj => hc j _ (ints_at hj))).mono ?_
    rintro e w' ⟨v', rfl, ho, _, hbel⟩
    rw [List.take_of_length_le (by omega)] at ho
    obtain ⟨C, d, rfl, hp⟩ := mk v' w' ho hbel
    exact ⟨C, d, rfl, hp, hbel⟩
/-- A row is cut by its last number. -/
theorem Hp.cut {W w : World} {l : List Itm} {i g n c : Nat} {L : List Int} {x : Int} (h : Hp W l w) (hi : l[i]? = some (nums (some ⟨g, 0, none⟩) (n + 1) c (L ++ [x]))) : Hp W (l.set i (nums (some ⟨g, 0, none⟩) n c L)) w := by
  have ho := h.own i _ hi
  refine h.upd hi _ ⟨rfl, rfl, rfl, Nat.le_refl _, fun _ _ _ => rfl⟩ ?_ (fun k hk => .inl hk)
  have hl : L.length = n := by have := h.num_len hi; simpa using this
  refine ⟨by simp [nums, ints, hl], ?_⟩
  rcases ho.2 with ⟨e, _⟩ | ⟨g', cap, cur, e, h1, h2, h3, h4, h5, h6⟩
  · cases e
  · have e' : Value.slice (some ⟨g, 0, none⟩) (n + 1) c = .slice (some ⟨g', 0, none⟩) (n + 1) cap := e
    injection e' with e1 _ e3
    injection e1 with e1
    injection e1 with e1
    subst e1; subst e3
    refine .inr ⟨g, c, cur, rfl, h1, h2, ?_, h4, h5, ?_⟩
    · exact Nat.le_of_succ_le h3
    · have h7 : cur.toList.take ((n + 1) * 1) = ints (L ++ [x]) := h6
      show cur.toList.take (n * 1) = ints L
      have : (cur.toList.take ((n + 1) * 1)).take (n * 1) = cur.toList.take (n * 1) := by rw [List.take_take]; congr 1; omega
      rw [← this, h7]
      unfold ints
      rw [List.map_append, List.take_left' (by simp; omega)]
theorem get_midI {l r : List Itm} {x : Itm} : (l ++ x :: r)[l.length]? = some x := by rw [List.getElem?_append_right (Nat.le_refl _), Nat.sub_self]; rfl
theorem set_midI {l r : List Itm} {x y : Itm} : (l ++ x :: r).set l.length y = l ++ y :: r := by rw [List.set_append_right _ _ (Nat.le_refl _), Nat.sub_self]; rfl
theorem Hp.out1 {W w : World} {a : List Itm} {x : Itm} {c : List Itm} (h : Hp W (a ++ x :: c) w) : Hp W (a ++ c) w := by
  refine h.sub (fun i => if i < a.length then i else i + 1) (fun i j e => ?_) (fun i it hi => ?_)
  · split at e <;> split at e <;> omega
  · by_cases h1 : i < a.length
    · rw [if_pos h1]
      rw [List.getElem?_append_left h1] at hi ⊢
      exact hi
    · rw [if_neg h1]
      rw [List.getElem?_append_right (by omega)] at hi
      rw [List.getElem?_append_right (by omega), show i + 1 - a.length = (i - a.length) + 1 by omega, List.getElem?_cons_succ]
      exact hi
/-- An append to a row that is used further on: the row is there again, whatever was done behind it. -/
theorem run_app_two {W w : World} {pre l : List Itm} {A : Option Addr} {n c : Nat} {L : List Int} (h : Hp W (pre ++ nums A n c L :: l) w) (ty : TypeId) {b : Nat} (x : Int) (hb : w.cell? ⟨b, 0, none⟩ = some (.int .i64 x)) (hn : n ≤ 1000) :
    ∃ g cap w' K, (Builtin.append_ #[23, 23] ty #[.slice A n c, .slice (some ⟨b, 0, none⟩) 1 1]).run Try.prog w = .ok (.slice (some ⟨g, 0, none⟩) (n + 1) cap) w' ∧
      Hp W (pre ++ nums (some ⟨g, 0, none⟩) (n + 1) cap (L ++ [x]) :: (K ++ l)) w' ∧
      ∀ (pre' l' : List Itm) (w2 : World), Hp W (pre' ++ nums (some ⟨g, 0, none⟩) (n + 1) cap (L ++ [x]) :: (K ++ l')) w2 → Hp W (pre' ++ nums A n c L :: l') w2 := by
  obtain ⟨i0, hi0, hz0, hz1, hz2⟩ := info_parts int_info
  have hown : w.ownsRow W.heap.size 3 1 (.slice A n c) n (ints L) := h.own pre.length _ get_midI
  have hcell : ∀ j u, [Value.int .i64 x][j]? = some u → w.cell? ((⟨b, 0, none⟩ : Addr).add j) = some u := fun j u hu => by
    cases j with
    | zero => injection hu with hu; subst hu; exact hb
    | succ j => simp at hu
  have h1 : ∀ u ∈ [Value.int .i64 x], u.oneCell' = true := fun u hu => by rw [List.mem_singleton.1 hu]; rfl
  have hx : ints (L ++ [x]) = ints L ++ [.int .i64 x] := by unfold ints; rw [List.map_append]; rfl
  have grow : ∀ (v : Value) (w' : World), w'.ownsRow W.heap.size 3 1 v (n + 1) (ints L ++ [.int .i64 x]) → Below w.heap.size w w' → (∀ k, v.ownBlock = some k → w.heap.size ≤ k) → ∃ g cap, v = .slice (some ⟨g, 0, none⟩) (n + 1) cap ∧ Hp W (pre ++ nums (some ⟨g, 0, none⟩) (n + 1) cap (L ++ [x]) :: ([nums A n c L] ++ l)) w' := by
    intro v w' ho hbel hk
    obtain ⟨g, cap, rfl, _, _⟩ := ho.form (by omega)
    refine ⟨g, cap, rfl, ?_⟩
    have hp : Hp W (nums (some ⟨g, 0, none⟩) (n + 1) cap (L ++ [x]) :: (pre ++ nums A n c L :: l)) w' := h.new _ hbel (by show w'.ownsRow _ _ _ _ _ (ints (L ++ [x])); rw [hx]; exact ho) hk
    exact Hp.sink (l := pre) (l2 := nums A n c L :: l) hp
  have hres : ∀ g cap, (∀ (pre' l' : List Itm) (w2 : World), Hp W (pre' ++ nums (some ⟨g, 0, none⟩) (n + 1) cap (L ++ [x]) :: ([nums A n c L] ++ l')) w2 → Hp W (pre' ++ nums A n c L :: l') w2) := fun g cap pre' l' w2 h2 => Hp.out1 h2
  rcases hown.2 with ⟨e, e0⟩ | ⟨g0, cap0, cur, e, hb0, hg0, hnc, hcm, hcs, htk⟩
  · obtain ⟨g, cap, w', hr, ho, hg, hat, hlt⟩ := run_append_lies (P := Try.prog) w 23 ty W.heap.size 3 i0 _ 1 8 Try.underlying23 hi0 hz0 hz1 hz2 rfl Nat.zero_lt_one (.slice A n c) n (ints L) hown ⟨b, 0, none⟩ 1 1 [.int .i64 x] rfl hcell h1 Nat.zero_lt_one (by unfold maxLen; omega) (by omega) h.below.size _ rfl
    rw [e] at hg hat
    have hgs : g = w.heap.size := by
      rcases hat with hat | hat
      · cases hat
      · exact hat
    have hbel : Below w.heap.size w w' := (Below.refl _ _).grown hg (Nat.le_refl _) (fun k hk => by cases hk)
    obtain ⟨g2, cap2, e2, hp⟩ := grow _ w' ho hbel (fun k hk => by simp [Value.ownBlock] at hk; omega)
    rw [e2] at hr
    exact ⟨g2, cap2, w', _, hr, hp, hres g2 cap2⟩
  · injection e with e1 _ e3
    subst e1; subst e3
    by_cases hroom : n + 1 ≤ c
    · obtain ⟨w', hr, ho, hg⟩ := run_append_own_spare (P := Try.prog) w W.heap.size 23 ty 3 i0 1 Try.underlying23 hi0 hz1 g0 n c (ints L) hown ⟨b, 0, none⟩ 1 1 [.int .i64 x] rfl hcell h1 hroom
      refine ⟨g0, c, w', [], hr, ?_, fun pre' l' w2 h2 => ?_⟩
      · have := h.upd (i := pre.length) get_midI (nums (some ⟨g0, 0, none⟩) (n + 1) c (L ++ [x])) hg (by show w'.ownsRow _ _ _ _ _ (ints (L ++ [x])); rw [hx]; exact ho) (fun k hk => .inl hk)
        rw [set_midI] at this
        exact this
      · have := h2.cut (i := pre'.length) get_midI
        rw [set_midI] at this
        exact this
    · have hl : (ints L).length = n * i0.size := by rw [hown.1, hz1]
      have hr2 := run_append_grow (P := Try.prog) w 23 ty 3 i0 _ Try.underlying23 hi0 hz0 ⟨g0, 0, none⟩ n c (ints L) hl (hown.cells rfl) ⟨b, 0, none⟩ 1 1 [.int .i64 x] (by rw [hz1]; rfl) hcell (by omega) (by omega) (growslice_fits (by omega) (by rw [hz2]; omega))
      obtain ⟨g, cap, w', hr, ho, hg, hat, hlt⟩ := run_append_lies (P := Try.prog) w 23 ty W.heap.size 3 i0 _ 1 8 Try.underlying23 hi0 hz0 hz1 hz2 rfl Nat.zero_lt_one (.slice (some ⟨g0, 0, none⟩) n c) n (ints L) hown ⟨b, 0, none⟩ 1 1 [.int .i64 x] rfl hcell h1 Nat.zero_lt_one (by unfold maxLen; omega) (by omega) h.below.size _ rfl
      rw [hr2] at hr
      injection hr with hv hw
      injection hv with hv1 _ hv3
      injection hv1 with hv1
      injection hv1 with hgs
      subst hw
      obtain ⟨g2, cap2, e2, hp⟩ := grow _ _ ho (btwo (bdrew w) (bnew _ _)) (fun k hk => by simp [Value.ownBlock] at hk; omega)
      refine ⟨g2, cap2, _, _, ?_, hp, hres g2 cap2⟩
      rw [hr2, ← e2, ← hgs, ← hv3]
end Go.Proofs.Ythcdbhancfpldaa
