/- Contract of the reference's Parse of fractions. -/
import Derived.Test.YtielpkpalfnfgaaDoorFZ
import Derived.Test.YtielpkpalfnfgaaDoorNRp
namespace Go.Proofs.YtielpkpalfnfgaaDoor
open Go.RowKit
set_option linter.unusedVariables false
set_option maxRecDepth 100000

/-- The two boxes of the reference's Parse, its result and the fraction that it fills, and the numbers that live. -/
def ParW (W : World) (g : Nat) (s : Bool) (v x : Value) (ln : List (Value × Int)) (w : World) : Prop :=
  KeptF W.heap.size w ∧ w.heap[g]? = some (.cells #[.bool s, v, x] 26 (0, 0)) ∧ (∀ u y, (u, y) ∈ ln → NumAt w u y) ∧ Below W.heap.size W w ∧ W.heap.size < g ∧ (∃ A n c, v = .slice A n c) ∧ ∃ A n c, x = .slice A n c
theorem ParW.go {W w w' : World} {g : Nat} {s : Bool} {v x : Value} {ln : List (Value × Int)} (h : ParW W g s v x ln w) (hb : Below w.heap.size w w') : ParW W g s v x ln w' :=
  ⟨h.1.go hb, by rw [hb.block _ (lt_of_block h.2.1)]; exact h.2.1, fun u y hm => (h.2.2.1 u y hm).below hb, btwo h.2.2.2.1 hb, h.2.2.2.2⟩
theorem ParW.num {W w : World} {g : Nat} {s : Bool} {v x u : Value} {y : Int} {ln : List (Value × Int)} (h : ParW W g s v x ln w) (hi : NumAt w u y) : ParW W g s v x ((u, y) :: ln) w :=
  ⟨h.1, h.2.1, fun a b hm => by
    rcases List.mem_cons.1 hm with e | e
    · injection e with e1 e2; subst e1; subst e2; exact hi
    · exact h.2.2.1 a b e, h.2.2.2⟩
theorem ParW.at {W w : World} {g : Nat} {s : Bool} {v x u : Value} {y : Int} {ln : List (Value × Int)} (h : ParW W g s v x ln w) (hm : (u, y) ∈ ln) : NumAt w u y := h.2.2.1 u y hm
theorem ParW.new {W w : World} {s : Bool} {A B : Option Addr} {n c m d : Nat} {ln : List (Value × Int)} (hk : KeptF W.heap.size w) (hl : ∀ u y, (u, y) ∈ ln → NumAt w u y) (hb : Below W.heap.size W w) (hs : W.heap.size < w.heap.size) :
    ParW W w.heap.size s (.slice A n c) (.slice B m d) ln (w.alloc (.cells #[.bool s, .slice A n c, .slice B m d] 26)) :=
  ⟨hk.go one_new, heap_alloc_new w _, fun u y hm => (hl u y hm).below one_new, btwo hb one_new, hs, ⟨_, _, _, rfl⟩, ⟨_, _, _, rfl⟩⟩
theorem ParW.facts {W w : World} {g : Nat} {s : Bool} {v x : Value} {ln : List (Value × Int)} (h : ParW W g s v x ln w) :
    w.cell? ⟨g, 0, none⟩ = some (.bool s) ∧ w.cell? ⟨g, 1, none⟩ = some v ∧ w.cell? ⟨g, 2, none⟩ = some x ∧ w.frozen? ⟨g, 0, none⟩ = false ∧ w.frozen? ⟨g, 1, none⟩ = false ∧ w.frozen? ⟨g, 2, none⟩ = false ∧ g < w.heap.size := by
  have hb := h.2.1
  refine ⟨?_, ?_, ?_, by simp [World.frozen?, hb], by simp [World.frozen?, hb], by simp [World.frozen?, hb], lt_of_block hb⟩
  · rw [cell_of_row w _ 0 _ _ _ hb]; rfl
  · rw [cell_of_row w _ 1 _ _ _ hb]; rfl
  · rw [cell_of_row w _ 2 _ _ _ hb]; rfl
theorem three_set {w : World} {g : Nat} {s : Bool} {v x u : Value} {i : Nat} (h : w.heap[g]? = some (.cells #[.bool s, v, x] 26 (0, 0))) :
    (w.setCell ⟨g, i, none⟩ u).heap[g]? = some (.cells (#[.bool s, v, x].setIfInBounds i u) 26 (0, 0)) := by
  have hlt := lt_of_block h
  have h' : w.heap[g] = .cells #[.bool s, v, x] 26 (0, 0) := by simpa [Array.getElem?_eq_getElem hlt] using h
  show (w.heap.modify g _)[g]? = _
  rw [Array.getElem?_eq_getElem (by simpa using hlt), Array.getElem_modify_self, h']
  rfl
theorem IntsIn.set3 {w : World} {A : Option Addr} {L : List Int} {g i : Nat} {s : Bool} {v x u : Value} (h : IntsIn w A L) (hg : w.heap[g]? = some (.cells #[.bool s, v, x] 26 (0, 0))) (hv : ∃ A n c, v = .slice A n c) (hx : ∃ A n c, x = .slice A n c) : IntsIn (w.setCell ⟨g, i, none⟩ u) A L := by
  intro h0
  obtain ⟨b, off, rfl, hlt, hc⟩ := h h0
  obtain ⟨A1, n1, c1, rfl⟩ := hv
  obtain ⟨A2, n2, c2, rfl⟩ := hx
  have hb : ¬ b = g := by
    rintro rfl
    have h1 := hc 0 h0
    rw [cell_of_row w _ _ _ _ _ hg] at h1
    match off, h1 with
    | 0, h1 => simp at h1
    | 1, h1 => simp at h1
    | 2, h1 => simp at h1
    | k + 3, h1 => simp at h1
  refine ⟨b, off, rfl, by simpa [World.setCell] using hlt, fun j hj => ?_⟩
  have ap : (⟨b, off + j, none⟩ : Addr) ≠ ⟨g, i, none⟩ := fun e => by injection e with e1; exact hb e1
  rw [World.cell?_setCell_other _ _ _ _ (by first | exact ap | exact ap.symm)]
  exact hc j hj
theorem ParW.set1 {W w : World} {g : Nat} {s : Bool} {v x : Value} {ln : List (Value × Int)} (h : ParW W g s v x ln w) (A : Option Addr) (n c : Nat) : ParW W g s (.slice A n c) x ln (w.setCell ⟨g, 1, none⟩ (.slice A n c)) := by
  obtain ⟨h1, h2, h3, h4, h5, h6, h7⟩ := h
  refine ⟨?_, three_set h2, fun u y hm => ?_, h4.setCell (p := ⟨g, 1, none⟩) (Nat.le_of_lt h5) _, h5, ⟨_, _, _, rfl⟩, h7⟩
  · unfold KeptF at h1 ⊢; rw [Below.heap_setCell _ _ _ _ (by show W.heap.size ≠ g; omega)]; exact h1
  · obtain ⟨a, A', c', e, hi, k1, k2, k3⟩ := h3 u y hm
    exact ⟨a, A', c', e, hi.set3 h2 h6 h7, k1, k2, k3⟩
theorem ParW.set2 {W w : World} {g : Nat} {s : Bool} {v x : Value} {ln : List (Value × Int)} (h : ParW W g s v x ln w) (A : Option Addr) (n c : Nat) : ParW W g s v (.slice A n c) ln (w.setCell ⟨g, 2, none⟩ (.slice A n c)) := by
  obtain ⟨h1, h2, h3, h4, h5, h6, h7⟩ := h
  refine ⟨?_, three_set h2, fun u y hm => ?_, h4.setCell (p := ⟨g, 2, none⟩) (Nat.le_of_lt h5) _, h5, h6, ⟨_, _, _, rfl⟩⟩
  · unfold KeptF at h1 ⊢; rw [Below.heap_setCell _ _ _ _ (by show W.heap.size ≠ g; omega)]; exact h1
  · obtain ⟨a, A', c', e, hi, k1, k2, k3⟩ := h3 u y hm
    exact ⟨a, A', c', e, hi.set3 h2 h6 h7, k1, k2, k3⟩
/-- What the result's box holds behind three stores. -/
theorem kept3 {w : World} {g : Nat} (h : KeptF g w) (b : Bool) (u v : Value) :
    (((w.setCell ⟨g, 0, none⟩ (.bool b)).setCell ⟨g, 1, none⟩ u).setCell ⟨g, 2, none⟩ v).cell? ⟨g, 0, none⟩ = some (.bool b) ∧ (((w.setCell ⟨g, 0, none⟩ (.bool b)).setCell ⟨g, 1, none⟩ u).setCell ⟨g, 2, none⟩ v).cell? ⟨g, 1, none⟩ = some u ∧ (((w.setCell ⟨g, 0, none⟩ (.bool b)).setCell ⟨g, 1, none⟩ u).setCell ⟨g, 2, none⟩ v).cell? ⟨g, 2, none⟩ = some v := by
  have h0 : (w.setCell ⟨g, 0, none⟩ (.bool b)).heap[g]? = some (.cells #[.bool b, .slice none 0 0, .slice none 0 0] 26 (0, 0)) := three_set h
  have h1 : ((w.setCell ⟨g, 0, none⟩ (.bool b)).setCell ⟨g, 1, none⟩ u).heap[g]? = some (.cells #[.bool b, u, .slice none 0 0] 26 (0, 0)) := three_set h0
  have h2 : (((w.setCell ⟨g, 0, none⟩ (.bool b)).setCell ⟨g, 1, none⟩ u).setCell ⟨g, 2, none⟩ v).heap[g]? = some (.cells #[.bool b, u, v] 26 (0, 0)) := three_set h1
  refine ⟨?_, ?_, ?_⟩
  · rw [cell_of_row _ _ 0 _ _ _ h2]; rfl
  · rw [cell_of_row _ _ 1 _ _ _ h2]; rfl
  · rw [cell_of_row _ _ 2 _ _ _ h2]; rfl
theorem rpar_ok (b : ByteArray) (l : List UInt8) (W : World) (hb : b.data.toList = l) (h : isTB l = true ∧ ¬ 800 < l.length) : Calls Tryd.prog 31 #[.string b] W (ValPost (decV l) W) := by
  have ha := ((isTB_iff l).1 h.1).2.1
  refine (rparse_any b W (by have : b.size = b.data.toList.length := rfl; rw [this, hb]; unfold maxLen; omega)).mono fun e w' hp => val_post hp ?_ (decV_nonneg ha) (decV_bound ha (by omega))
  rw [hb]; exact parse_ok h.1 h.2
theorem rpar_no (b : ByteArray) (l : List UInt8) (W : World) (hb : b.data.toList = l) (hl : l.length ≤ 1700) (h : ¬ (isTB l = true ∧ ¬ 800 < l.length)) : ∃ x : Int, ((x == 0) = false ∧ (x != 0) = true) ∧ Calls Tryd.prog 31 #[.string b] W (ErrPost x W) := by
  have hm : b.size ≤ maxLen := by have : b.size = b.data.toList.length := rfl; rw [this, hb]; unfold maxLen; omega
  by_cases h1 : isTB l = true
  · have h2 : 800 < l.length := by
      by_cases h3 : 800 < l.length
      · exact h3
      · exact absurd ⟨h1, h3⟩ h
    exact ⟨3, ⟨rfl, rfl⟩, (rparse_any b W hm).mono fun e w' hp => err_post hp (by rw [hb]; exact parse_long h1 h2)⟩
  · exact ⟨2, ⟨rfl, rfl⟩, (rparse_any b W hm).mono fun e w' hp => err_post hp (by rw [hb]; exact parse_bad (by simpa using h1))⟩
theorem split_at {tb : ByteArray} {l : List UInt8} {k : Nat} (htb : tb.data.toList = restOf l) (hk : k < tb.size) (h47 : (tb[k].toNat : Int) = 47) (hn : (47 : UInt8) ∉ tb.data.toList.take k) :
    numOf l = tb.data.toList.take k ∧ denOf l = tb.data.toList.drop (k + 1) ∧ divOf l = true := by
  have hb : tb[k] = 47 := UInt8.toNat_inj.1 (by have : (47 : UInt8).toNat = 47 := rfl; omega)
  have e : restOf l = tb.data.toList.take k ++ 47 :: tb.data.toList.drop (k + 1) := by
    rw [← htb, ← hb]
    have : tb[k] = tb.data.toList[k]'(by rw [sizeB]; exact hk) := rfl
    rw [this, List.getElem_cons_drop, List.take_append_drop]
  have hc := cut_split (tb.data.toList.take k) (tb.data.toList.drop (k + 1)) hn
  have hd : divOf l = true := by unfold divOf; rw [e, hc]
  refine ⟨by unfold numOf; rw [e, hc], ?_, hd⟩
  unfold denOf; rw [if_pos hd, e, hc]
theorem split_no {tb : ByteArray} {l : List UInt8} {k : Nat} (htb : tb.data.toList = restOf l) (hk : tb.size ≤ k) (hn : (47 : UInt8) ∉ tb.data.toList.take k) :
    numOf l = tb.data.toList ∧ denOf l = [49] ∧ divOf l = false := by
  rw [List.take_of_length_le (by rw [sizeB]; exact hk)] at hn
  have hc := cut_no tb.data.toList hn
  have hd : divOf l = false := by unfold divOf; rw [← htb, hc]
  refine ⟨by unfold numOf; rw [← htb, hc], ?_, hd⟩
  unfold denOf; rw [if_neg (by simp [hd])]
theorem slash_step {tb : ByteArray} {k : Nat} (hk : k < tb.size) (h : (47 : UInt8) ∉ tb.data.toList.take k) (h47 : ¬ (tb[k].toNat : Int) = 47) : (47 : UInt8) ∉ tb.data.toList.take (k + 1) := by
  have e : tb.data.toList.take (k + 1) = tb.data.toList.take k ++ [tb[k]] := List.take_succ_eq_append_getElem (by rw [sizeB]; exact hk)
  rw [e]; simp
  exact ⟨h, fun e => h47 (by rw [← e]; rfl)⟩
theorem ext_list (s : ByteArray) (a b : Nat) : (s.extract a b).data.toList = (s.data.toList.drop a).take (b - a) := by
  rw [ByteArray.data_extract, Array.toList_extract, List.extract_eq_take_drop]
end Go.Proofs.YtielpkpalfnfgaaDoor
/- The walk of the reference's Parse of fractions. -/
namespace Go.Proofs.YtielpkpalfnfgaaDoor
open Go.RowKit
set_option linter.unusedVariables false
set_option maxRecDepth 100000

/-- Which texts stand for a fraction, as its one text. -/
def fgood (l : List UInt8) : Prop := fok l ∧ ¬ (divOf l = true ∧ decV (denOf l) = 1) ∧ 0 < decV (denOf l) ∧ gcdI (decV (numOf l)) (decV (denOf l)) = 1 ∧ (negOf l = true → 0 < decV (numOf l))
def FPost (l : List UInt8) (W : World) (e : Ending) (w' : World) : Prop :=
  (fgood l ∧ FrOk (negOf l) (decV (numOf l)) (decV (denOf l)) W e w') ∨ (¬ fgood l ∧ FrErr 2 W e w')
theorem ParW.boxed {W w : World} {g : Nat} {s : Bool} {v x : Value} {ln : List (Value × Int)} (h : ParW W g s v x ln w) (A : Option Addr) (n c : Nat) : ParW W g s (.slice A n c) x ln ((w.alloc (.cells #[.slice A n c] 24)).setCell ⟨g, 1, none⟩ (.slice A n c)) :=
  (h.go one_new).set1 A n c
theorem err_cell1 {w : World} {g : Nat} (h : KeptF g w) (o : Obj) :
    ((((w.setCell ⟨g, 0, none⟩ (.bool false)).setCell ⟨g, 1, none⟩ (.slice none 0 0)).setCell ⟨g, 2, none⟩ (.slice none 0 0)).alloc o).cell? ⟨g, 0, none⟩ = some (.bool false) ∧
    ((((w.setCell ⟨g, 0, none⟩ (.bool false)).setCell ⟨g, 1, none⟩ (.slice none 0 0)).setCell ⟨g, 2, none⟩ (.slice none 0 0)).alloc o).cell? ⟨g, 1, none⟩ = some (.slice none 0 0) ∧
    ((((w.setCell ⟨g, 0, none⟩ (.bool false)).setCell ⟨g, 1, none⟩ (.slice none 0 0)).setCell ⟨g, 2, none⟩ (.slice none 0 0)).alloc o).cell? ⟨g, 2, none⟩ = some (.slice none 0 0) := by
  obtain ⟨e0, e1, e2⟩ := kept3 h false (.slice none 0 0) (.slice none 0 0)
  have hs := lt_of_block h
  have hb : ∀ (S : World), S.heap.size = w.heap.size → ∀ i v, S.cell? ⟨g, i, none⟩ = some v → (S.alloc o).cell? ⟨g, i, none⟩ = some v := fun S e i v hv =>
    ((one_new (w := S) (o := o)).cell (p := ⟨g, i, none⟩) (by simp only; omega)).trans hv
  have hz : (((w.setCell ⟨g, 0, none⟩ (.bool false)).setCell ⟨g, 1, none⟩ (.slice none 0 0)).setCell ⟨g, 2, none⟩ (.slice none 0 0)).heap.size = w.heap.size := by simp [World.setCell]
  exact ⟨hb _ hz _ _ e0, hb _ hz _ _ e1, hb _ hz _ _ e2⟩
theorem fr_err1 {W w : World} {g : Nat} {x : Int} {u v y : Value} {o : Obj} (hW : W.heap.size ≤ g) (hb : Below W.heap.size W w) : FrErr x W (.returned (.tuple #[.agg #[.bool false, .slice none 0 0, .slice none 0 0], .int .i64 x])) ((((w.setCell ⟨g, 0, none⟩ u).setCell ⟨g, 1, none⟩ v).setCell ⟨g, 2, none⟩ y).alloc o) :=
  ⟨rfl, btwo (((hb.setCell (p := ⟨g, 0, none⟩) hW _).setCell (p := ⟨g, 1, none⟩) hW _).setCell (p := ⟨g, 2, none⟩) hW _) one_new⟩
theorem rfmt_is (b : ByteArray) (s : Bool) (n c m d : Nat) (x y : Int) (A B : Option Addr) (W : World) (hx : NumAt W (.slice A n c) x) (hy : NumAt W (.slice B m d) y) (hv : 0 < y ∧ gcdI x y = 1 ∧ (s = true → 0 < x)) (hb : (⟨(ftext s x y).toArray⟩ : ByteArray) = b) :
    Calls Tryd.prog 8 #[.agg #[.bool s, .slice A n c, .slice B m d]] W fun e w' => e = .returned (.tuple #[.string b, .int .i64 0]) ∧ Below W.heap.size W w' := by
  subst hb; exact rfformat_num s n c m d x y A B W hx hy hv
theorem rfmt_no (s : Bool) (n c m d : Nat) (x y : Int) (A B : Option Addr) (W : World) (hx : NumAt W (.slice A n c) x) (hy : NumAt W (.slice B m d) y) (hv : ¬ (0 < y ∧ gcdI x y = 1 ∧ (s = true → 0 < x))) :
    Calls Tryd.prog 8 #[.agg #[.bool s, .slice A n c, .slice B m d]] W fun e w' => e = .returned (.tuple #[.string ⟨#[]⟩, .int .i64 1]) ∧ Below W.heap.size W w' := by
  obtain ⟨a1, a2, a3, a4, a5, a6, a7, a8⟩ := num_in hx
  obtain ⟨b1, b2, b3, b4, b5, b6, b7, b8⟩ := num_in hy
  exact rfformat_bad s (digs x) (digs y) n c m d A B W a1 b1 a2 b2 a4 b4 a5 b5 (by
    unfold vldF; rw [a7, b7]; exact decide_eq_false fun h => hv h.2)
theorem pref_no (x : UInt8) (l : List UInt8) (h : ¬ (45 : UInt8) = x) : negOf (x :: l) = false ∧ restOf (x :: l) = x :: l := by
  unfold negOf restOf Lib.trimPrefix
  rw [pre_of 45 x l h]; exact ⟨rfl, by simp⟩
theorem pref_yes (l : List UInt8) : negOf (45 :: l) = true ∧ restOf (45 :: l) = l := by
  unfold negOf restOf Lib.trimPrefix
  rw [pre_yes]; exact ⟨rfl, by simp⟩
theorem pref_nil : negOf [] = false ∧ restOf [] = [] := ⟨rfl, rfl⟩
theorem sign_rest (l : List UInt8) : l = (if negOf l = true then [45] else []) ++ restOf l := by
  match l with
  | [] => rw [pref_nil.1, pref_nil.2]; rfl
  | x :: l =>
    by_cases h : (45 : UInt8) = x
    · subst h; rw [(pref_yes l).1, (pref_yes l).2]; rfl
    · rw [(pref_no x l h).1, (pref_no x l h).2]; rfl
theorem parts_rest (l : List UInt8) : restOf l = numOf l ++ (if divOf l = true then 47 :: denOf l else []) := by
  by_cases h : (47 : UInt8) ∈ restOf l
  · obtain ⟨a, b, e, hna⟩ := List.eq_append_cons_of_mem h
    have hc := cut_split a b hna
    have hd : divOf l = true := by unfold divOf; rw [e, hc]
    have hn : numOf l = a := by unfold numOf; rw [e, hc]
    have hb : denOf l = b := by unfold denOf; rw [if_pos hd, e, hc]
    rw [if_pos hd, hn, hb, e]
  · have hc := cut_no _ h
    have hd : divOf l = false := by unfold divOf; rw [hc]
    have hn : numOf l = restOf l := by unfold numOf; rw [hc]
    rw [if_neg (by simp [hd]), hn, List.append_nil]
theorem text_back (l : List UInt8) (hk : fok l) (h1 : ¬ (divOf l = true ∧ decV (denOf l) = 1)) : ftext (negOf l) (decV (numOf l)) (decV (denOf l)) = l := by
  obtain ⟨⟨k1, _⟩, k3, _⟩ := hk
  have hn : fmt (decV (numOf l)) = numOf l := (fmt_of ((isTB_iff _).1 k1) rfl).symm
  have hd : fmt (decV (denOf l)) = denOf l := (fmt_of ((isTB_iff _).1 k3) rfl).symm
  have h2 := sign_rest l
  rw [parts_rest l] at h2
  unfold ftext
  rw [hn, hd]
  by_cases h : divOf l = true
  · rw [if_neg (fun e => h1 ⟨h, e⟩)]; rw [if_pos h] at h2; exact h2.symm
  · have h3 : decV (denOf l) = 1 := by unfold denOf; rw [if_neg h]; decide +kernel
    rw [if_pos h3]; rw [if_neg h] at h2; exact h2.symm
theorem text_one (l : List UInt8) (s : Bool) (p : Int) (h : divOf l = true) : ¬ ftext s p 1 = l := fun e => by
  have := (parts_ftext s p 1).2.2
  rw [e, h] at this; simp at this
theorem den_no {l : List UInt8} (h : denOf l = [49]) : decV (denOf l) = 1 := by rw [h]; decide +kernel
theorem toList_is (s : ByteArray) : s.toList = s.data.toList := by
  rw [ByteArray.toList_eq]
theorem differ_toList {a b : ByteArray} (h : ¬ a = b) : (a.toList == b.toList) = false := by
  rw [beq_eq_false_iff_ne, toList_is, toList_is]
  exact fun e => h (ByteArray.ext (Array.toList_inj.1 e))
set_option maxHeartbeats 4000000 in
theorem rfparse_n (l : List UInt8) (s : ByteArray) (W : World) (hsl : s.data.toList = l) (hs : s.size ≤ 1700) (h0 : s.size = 0) (hr : s.data.toList = restOf l) (hneg : negOf l = false) :
    Calls Tryd.prog 13 #[.string s] W (FPost l W) := by
  have hx2 := empty_toList h0
  have HTB := Lib.hid hr
  have htbs := hs
  clear h0 hr
  have HN := Lib.hid hneg
  have HSL := Lib.hid hsl
  clear hneg hsl
  have HBE := Lib.hid (show Below W.heap.size W (W.alloc (.cells #[.bool false, .slice none 0 0, .slice none 0 0] 26)) from one_new)
  have HKE := Lib.hid (keptF_new W)
  go_enter Tryd.func13, Tryd.ntmps13
  go_wp2_with fail
  refine (rSmall_num 1 _ (by omega) (by omega)).mono ?_
  rintro e w1 ⟨A1, c1, k1, rfl, n1, b1⟩
  have P1 := Lib.hid (ParW.new (s := false) (A := none) (n := 0) (c := 0) (B := A1) (m := k1) (d := c1) (ln := [(.slice A1 k1 c1, 1)]) (HKE.out.go b1) (fun u y hm => by rw [List.mem_singleton] at hm; injection hm with e1 e2; subst e1; subst e2; exact n1) (btwo HBE.out b1) (by have := b1.size; simp at this; omega))
  clear n1 b1
  go_wp2_with fail
  go_loop [6] (fun i => ∃ k : Nat, k ≤ s.size ∧ i = .int .i64 (k : Int) ∧ (47 : UInt8) ∉ s.data.toList.take k) (fun i => s.size - (intOf i).toNat)
  case atStart => exact ⟨0, Nat.zero_le _, rfl, by simp⟩
  case round =>
    obtain ⟨k, hk, rfl, ha⟩ := hrel
    have HA := Lib.hid ha
    clear ha
    by_cases hlt : k < s.size
    · have hb8 : (s[k].toNat : Int) ≤ 255 := by have := s[k].toNat_lt; omega
      by_cases h47 : (s[k].toNat : Int) = 47
      · go_wp2_with fail
        have hsp := split_at HTB.out hlt h47 HA.out
        have HDIV := Lib.hid hsp.2.2
        have HNM := Lib.hid (show (s.extract 0 k).data.toList = numOf l by rw [ext_list, hsp.1]; simp)
        have HDM := Lib.hid (show (s.extract (k + 1) s.size).data.toList = denOf l by
          rw [ext_list, hsp.2.1]; exact List.take_of_length_le (by rw [List.length_drop, sizeB]; exact Nat.le_refl _))
        have HLN := Lib.hid (show (numOf l).length ≤ 1700 by rw [hsp.1, List.length_take, sizeB]; omega)
        have HLD := Lib.hid (show (denOf l).length ≤ 1700 by rw [hsp.2.1, List.length_drop, sizeB]; omega)
        clear hsp
        by_cases hn : isTB (numOf l) = true ∧ ¬ 800 < (numOf l).length
        · refine (rpar_ok (s.extract 0 k) (numOf l) (w1.alloc (.cells #[.bool false, .slice none 0 0, .slice A1 k1 c1] 26)) HNM.out hn).mono ?_
          rintro e w2 ⟨Ap, cp, kp, rfl, np, b2⟩
          have P2 := Lib.hid ((P1.out.go b2).num np)
          clear b2 np
          obtain ⟨f0, f1, f2, f3, f4, f5, f6⟩ := P2.out.facts
          obtain ⟨q0, q1, q2, q3, q4, q5, q6⟩ := P2.out.1.facts
          have q7 := P2.out.2.2.2.2.1
          have P3 := Lib.hid ((P2.out.set1 Ap kp cp).go (one_new (o := .cells #[.slice Ap kp cp] 24)))
          have HN1 := Lib.hid hn
          clear hn
          go_wp2_with fail
          clear f0 f1 f2 f3 f4 f5 f6 q0 q1 q2 q3 q4 q5 q6 q7
          by_cases hd : isTB (denOf l) = true ∧ ¬ 800 < (denOf l).length
          · refine (rpar_ok (s.extract (k + 1) s.size) (denOf l) ((w2.setCell ⟨w1.heap.size, 1, none⟩ (.slice Ap kp cp)).alloc (.cells #[.slice Ap kp cp] 24)) HDM.out hd).mono ?_
            rintro e w3 ⟨Aq, cq, kq, rfl, nq, b3⟩
            have P4 := Lib.hid ((P3.out.go b3).num nq)
            clear b3 nq
            obtain ⟨f0, f1, f2, f3, f4, f5, f6⟩ := P4.out.facts
            obtain ⟨q0, q1, q2, q3, q4, q5, q6⟩ := P4.out.1.facts
            have q7 := P4.out.2.2.2.2.1
            have P5 := Lib.hid (P4.out.set2 Aq kq cq)
            have HK := Lib.hid (show fok l from ⟨HN1.out, hd⟩)
            clear hd
            go_wp2_with fail
            clear f0 f1 f2 f3 f4 f5 f6 q0 q1 q2 q3 q4 q5 q6 q7
            by_cases hv : 0 < decV (denOf l) ∧ gcdI (decV (numOf l)) (decV (denOf l)) = 1 ∧ (false = true → 0 < decV (numOf l))
            · have HV := Lib.hid hv
              clear hv
              by_cases h1 : decV (denOf l) = 1
              · have HND := Lib.hid (show divOf l = true ∧ decV (denOf l) = 1 from ⟨HDIV.out, h1⟩)
                obtain ⟨ub, hub⟩ : ∃ b : ByteArray, (⟨(ftext false (decV (numOf l)) (decV (denOf l))).toArray⟩ : ByteArray) = b := ⟨_, rfl⟩
                have hne : ¬ ub = s := fun e => text_one l false (decV (numOf l)) HDIV.out (by
                  have h := congrArg (fun b : ByteArray => b.data.toList) (hub.trans e)
                  rw [h1] at h
                  have h2 : ftext false (decV (numOf l)) 1 = s.data.toList := by simpa using h
                  rw [h2]; exact HSL.out)
                have hne2 := differ_toList hne
                clear hne
                refine (rfmt_is ub false kp cp kq cq _ _ Ap Aq _ (P5.out.at (.tail _ (.head _))) (P5.out.at (.head _)) HV.out hub).mono ?_
                rintro e w4 ⟨rfl, b4⟩
                have P9 := Lib.hid (P5.out.go b4)
                clear b4 h1 hub

                have K9 := Lib.hid P9.out.1
                have B9 := Lib.hid P9.out.2.2.2.1
                obtain ⟨e0, e1, e2⟩ := kept3 K9.out false (.slice none 0 0) (.slice none 0 0)
                have E0 := Lib.hid e0
                have E1 := Lib.hid e1
                have E2 := Lib.hid e2
                clear e0 e1 e2
                obtain ⟨j0, j1, j2, j3, j4, j5, j6⟩ := K9.out.facts
                go_wp2_with fail
                refine bodyPost_ret (v := .tuple #[.agg #[.bool false, .slice none 0 0, .slice none 0 0], .int .i64 2]) ?_ rfl ?_
                · simp [results, Tryd.results13, go_sem, E0.out, E1.out, E2.out]
                · exact .inr ⟨fun h => h.2.1 HND.out, fr_err (Nat.le_refl _) B9.out⟩
              · have HND := Lib.hid (show ¬ (divOf l = true ∧ decV (denOf l) = 1) from fun h => h1 h.2)
                clear h1
                have HTX := Lib.hid (show (⟨(ftext false (decV (numOf l)) (decV (denOf l))).toArray⟩ : ByteArray) = s by
                  have h := text_back l HK.out HND.out
                  rw [HN.out] at h
                  rw [h, ← HSL.out, Array.toArray_toList])
                refine (rfmt_is s false kp cp kq cq _ _ Ap Aq _ (P5.out.at (.tail _ (.head _))) (P5.out.at (.head _)) HV.out HTX.out).mono ?_
                rintro e w4 ⟨rfl, b4⟩
                have P9 := Lib.hid (P5.out.go b4)
                clear b4

                have K9 := Lib.hid P9.out.1
                have B9 := Lib.hid P9.out.2.2.2.1
                obtain ⟨e0, e1, e2⟩ := kept3 K9.out false (.slice Ap kp cp) (.slice Aq kq cq)
                have E0 := Lib.hid e0
                have E1 := Lib.hid e1
                have E2 := Lib.hid e2
                clear e0 e1 e2
                obtain ⟨j0, j1, j2, j3, j4, j5, j6⟩ := K9.out.facts
                obtain ⟨f0, f1, f2, f3, f4, f5, f6⟩ := P9.out.facts
                go_wp2_with fail
                refine bodyPost_ret (v := .tuple #[.agg #[.bool false, .slice Ap kp cp, .slice Aq kq cq], .int .i64 0]) ?_ rfl ?_
                · simp [results, Tryd.results13, go_sem, E0.out, E1.out, E2.out]
                · exact .inl ⟨⟨HK.out, HND.out, by rw [HN.out]; simpa using HV.out⟩, by rw [HN.out]; exact fr_ok (s := false) K9.out (Nat.le_refl _) (P9.out.at (.tail _ (.head _))) (P9.out.at (.head _)) B9.out⟩
            · refine (rfmt_no false kp cp kq cq _ _ Ap Aq _ (P5.out.at (.tail _ (.head _))) (P5.out.at (.head _)) hv).mono ?_
              rintro e w4 ⟨rfl, b4⟩
              have P9 := Lib.hid (P5.out.go b4)
              have HV := Lib.hid hv
              clear b4 hv

              have K9 := Lib.hid P9.out.1
              have B9 := Lib.hid P9.out.2.2.2.1
              obtain ⟨e0, e1, e2⟩ := kept3 K9.out false (.slice none 0 0) (.slice none 0 0)
              have E0 := Lib.hid e0
              have E1 := Lib.hid e1
              have E2 := Lib.hid e2
              clear e0 e1 e2
              obtain ⟨j0, j1, j2, j3, j4, j5, j6⟩ := K9.out.facts
              go_wp2_with fail
              refine bodyPost_ret (v := .tuple #[.agg #[.bool false, .slice none 0 0, .slice none 0 0], .int .i64 2]) ?_ rfl ?_
              · simp [results, Tryd.results13, go_sem, E0.out, E1.out, E2.out]
              · exact .inr ⟨fun h => HV.out (by have h := h.2.2; rw [HN.out] at h; simpa using h), fr_err (Nat.le_refl _) B9.out⟩
          · obtain ⟨x, ⟨hx1, hx2⟩, hcal⟩ := rpar_no (s.extract (k + 1) s.size) (denOf l) ((w2.setCell ⟨w1.heap.size, 1, none⟩ (.slice Ap kp cp)).alloc (.cells #[.slice Ap kp cp] 24)) HDM.out HLD.out hd
            refine hcal.mono ?_
            rintro e w3 ⟨Aq, cq, rfl, nq, b3⟩
            have P4 := Lib.hid ((P3.out.go b3).num nq)
            clear b3 nq hcal
            obtain ⟨f0, f1, f2, f3, f4, f5, f6⟩ := P4.out.facts
            obtain ⟨q0, q1, q2, q3, q4, q5, q6⟩ := P4.out.1.facts
            have q7 := P4.out.2.2.2.2.1
            have P9 := Lib.hid (P4.out.set2 Aq 0 cq)

            have K9 := Lib.hid P9.out.1
            have B9 := Lib.hid P9.out.2.2.2.1
            obtain ⟨e0, e1, e2⟩ := kept3 K9.out false (.slice none 0 0) (.slice none 0 0)
            have E0 := Lib.hid e0
            have E1 := Lib.hid e1
            have E2 := Lib.hid e2
            clear e0 e1 e2
            obtain ⟨j0, j1, j2, j3, j4, j5, j6⟩ := K9.out.facts
            go_wp2_with fail
            refine bodyPost_ret (v := .tuple #[.agg #[.bool false, .slice none 0 0, .slice none 0 0], .int .i64 2]) ?_ rfl ?_
            · simp [results, Tryd.results13, go_sem, E0.out, E1.out, E2.out]
            · exact .inr ⟨fun h => hd h.1.2, fr_err (Nat.le_refl _) B9.out⟩
        · obtain ⟨x, ⟨hx1, hx2⟩, hcal⟩ := rpar_no (s.extract 0 k) (numOf l) (w1.alloc (.cells #[.bool false, .slice none 0 0, .slice A1 k1 c1] 26)) HNM.out HLN.out hn

          refine (hcal).mono ?_
          rintro e w2 ⟨Ap, cp, rfl, np, b2⟩

          have P2 := Lib.hid ((P1.out.go b2).num np)
          clear b2 np hcal
          have P9 := Lib.hid (P2.out.set1 Ap 0 cp)
          obtain ⟨f0, f1, f2, f3, f4, f5, f6⟩ := P2.out.facts
          obtain ⟨q0, q1, q2, q3, q4, q5, q6⟩ := P2.out.1.facts
          have q7 := P2.out.2.2.2.2.1
          have K9 := Lib.hid P9.out.1
          have B9 := Lib.hid P9.out.2.2.2.1
          obtain ⟨e0, e1, e2⟩ := err_cell1 K9.out (.cells #[.slice Ap 0 cp] 24)
          have E0 := Lib.hid e0
          have E1 := Lib.hid e1
          have E2 := Lib.hid e2
          clear e0 e1 e2
          obtain ⟨j0, j1, j2, j3, j4, j5, j6⟩ := K9.out.facts
          go_wp2_with fail
          refine bodyPost_ret (v := .tuple #[.agg #[.bool false, .slice none 0 0, .slice none 0 0], .int .i64 2]) ?_ rfl ?_
          · simp [results, Tryd.results13, go_sem, E0.out, E1.out, E2.out]
          · exact .inr ⟨fun h => hn h.1.1, fr_err1 (Nat.le_refl _) B9.out⟩
      · have HS := Lib.hid (slash_step hlt HA.out h47)
        have h47b : ((s[k].toNat : Int) == 47) = false := by simpa using h47
        go_wp2_with fail
        go_round
        case rel => exact ⟨k + 1, by omega, by go_num, HS.out⟩
        case measure => simp [intOf]; omega
    · obtain rfl : k = s.size := by omega
      go_wp2_with fail
      have hsp := split_no HTB.out (Nat.le_refl _) HA.out
      have HNUM := Lib.hid hsp.1
      have HDEN := Lib.hid hsp.2.1
      have HDIV := Lib.hid hsp.2.2
      have HNM := Lib.hid hsp.1.symm
      have HLN := Lib.hid (show (numOf l).length ≤ 1700 by rw [hsp.1, sizeB]; exact htbs)
      clear hsp
      by_cases hn : isTB (numOf l) = true ∧ ¬ 800 < (numOf l).length
      · have HD1 := Lib.hid (den_no HDEN.out)
        have HK := Lib.hid (show fok l from ⟨hn, by rw [HDEN.out]; decide⟩)
        have HND := Lib.hid (show ¬ (divOf l = true ∧ decV (denOf l) = 1) from fun h => by rw [HDIV.out] at h; simp at h)
        have HTX := Lib.hid (show (⟨(ftext false (decV (numOf l)) 1).toArray⟩ : ByteArray) = s by
          have h := text_back l HK.out HND.out
          rw [HN.out, HD1.out] at h
          rw [h, ← HSL.out, Array.toArray_toList])
        refine (rpar_ok s (numOf l) (w1.alloc (.cells #[.bool false, .slice none 0 0, .slice A1 k1 c1] 26)) HNM.out hn).mono ?_
        rintro e w2 ⟨Ap, cp, kp, rfl, np, b2⟩
        have P2 := Lib.hid ((P1.out.go b2).num np)
        clear b2 np
        obtain ⟨f0, f1, f2, f3, f4, f5, f6⟩ := P2.out.facts
        obtain ⟨q0, q1, q2, q3, q4, q5, q6⟩ := P2.out.1.facts
        have q7 := P2.out.2.2.2.2.1
        have P3 := Lib.hid ((P2.out.set1 Ap kp cp).go (one_new (o := .cells #[.slice Ap kp cp] 24)))
        go_wp2_with fail
        clear f0 f1 f2 f3 f4 f5 f6 q0 q1 q2 q3 q4 q5 q6 q7
        by_cases hv : 0 < (1 : Int) ∧ gcdI (decV (numOf l)) 1 = 1 ∧ (false = true → 0 < decV (numOf l))
        · have HV := Lib.hid hv
          refine (rfmt_is s false kp cp k1 c1 _ 1 Ap A1 _ (P3.out.at (.head _)) (P3.out.at (.tail _ (.head _))) hv HTX.out).mono ?_
          rintro e w3 ⟨rfl, b3⟩
          have P9 := Lib.hid (P3.out.go b3)
          clear b3 hv

          have K9 := Lib.hid P9.out.1
          have B9 := Lib.hid P9.out.2.2.2.1
          obtain ⟨e0, e1, e2⟩ := kept3 K9.out false (.slice Ap kp cp) (.slice A1 k1 c1)
          have E0 := Lib.hid e0
          have E1 := Lib.hid e1
          have E2 := Lib.hid e2
          clear e0 e1 e2
          obtain ⟨j0, j1, j2, j3, j4, j5, j6⟩ := K9.out.facts
          obtain ⟨f0, f1, f2, f3, f4, f5, f6⟩ := P9.out.facts
          go_wp2_with fail
          refine bodyPost_ret (v := .tuple #[.agg #[.bool false, .slice Ap kp cp, .slice A1 k1 c1], .int .i64 0]) ?_ rfl ?_
          · simp [results, Tryd.results13, go_sem, E0.out, E1.out, E2.out]
          · exact .inl ⟨⟨HK.out, HND.out, by rw [HD1.out, HN.out]; simpa using HV.out⟩, by rw [HN.out, HD1.out]; exact fr_ok (s := false) K9.out (Nat.le_refl _) (P9.out.at (.head _)) (P9.out.at (.tail _ (.head _))) B9.out⟩
        · refine (rfmt_no false kp cp k1 c1 _ 1 Ap A1 _ (P3.out.at (.head _)) (P3.out.at (.tail _ (.head _))) hv).mono ?_
          rintro e w3 ⟨rfl, b3⟩
          have P9 := Lib.hid (P3.out.go b3)
          have HV := Lib.hid hv
          clear b3 hv

          have K9 := Lib.hid P9.out.1
          have B9 := Lib.hid P9.out.2.2.2.1
          obtain ⟨e0, e1, e2⟩ := kept3 K9.out false (.slice none 0 0) (.slice none 0 0)
          have E0 := Lib.hid e0
          have E1 := Lib.hid e1
          have E2 := Lib.hid e2
          clear e0 e1 e2
          obtain ⟨j0, j1, j2, j3, j4, j5, j6⟩ := K9.out.facts
          go_wp2_with fail
          refine bodyPost_ret (v := .tuple #[.agg #[.bool false, .slice none 0 0, .slice none 0 0], .int .i64 2]) ?_ rfl ?_
          · simp [results, Tryd.results13, go_sem, E0.out, E1.out, E2.out]
          · exact .inr ⟨fun h => HV.out (by have h := h.2.2; rw [HD1.out, HN.out] at h; simpa using h), fr_err (Nat.le_refl _) B9.out⟩
      · obtain ⟨x, ⟨hx1, hx2⟩, hcal⟩ := rpar_no s (numOf l) (w1.alloc (.cells #[.bool false, .slice none 0 0, .slice A1 k1 c1] 26)) HNM.out HLN.out hn

        refine (hcal).mono ?_
        rintro e w2 ⟨Ap, cp, rfl, np, b2⟩

        have P2 := Lib.hid ((P1.out.go b2).num np)
        clear b2 np hcal
        have P9 := Lib.hid (P2.out.set1 Ap 0 cp)
        obtain ⟨f0, f1, f2, f3, f4, f5, f6⟩ := P2.out.facts
        obtain ⟨q0, q1, q2, q3, q4, q5, q6⟩ := P2.out.1.facts
        have q7 := P2.out.2.2.2.2.1
        have K9 := Lib.hid P9.out.1
        have B9 := Lib.hid P9.out.2.2.2.1
        obtain ⟨e0, e1, e2⟩ := err_cell1 K9.out (.cells #[.slice Ap 0 cp] 24)
        have E0 := Lib.hid e0
        have E1 := Lib.hid e1
        have E2 := Lib.hid e2
        clear e0 e1 e2
        obtain ⟨j0, j1, j2, j3, j4, j5, j6⟩ := K9.out.facts
        go_wp2_with fail
        refine bodyPost_ret (v := .tuple #[.agg #[.bool false, .slice none 0 0, .slice none 0 0], .int .i64 2]) ?_ rfl ?_
        · simp [results, Tryd.results13, go_sem, E0.out, E1.out, E2.out]
        · exact .inr ⟨fun h => hn h.1.1, fr_err1 (Nat.le_refl _) B9.out⟩
set_option maxHeartbeats 4000000 in
theorem rfparse_b (l : List UInt8) (s : ByteArray) (W : World) (hsl : s.data.toList = l) (hs : s.size ≤ 1700) (hpos : 0 < s.size) (hb : (((s[0]'hpos).toNat : Int) == 45) = false) (hr : s.data.toList = restOf l) (hneg : negOf l = false) :
    Calls Tryd.prog 13 #[.string s] W (FPost l W) := by
  have hx2 := nonempty_toList (s := s) (by omega)
  have HTB := Lib.hid hr
  have htbs := hs
  clear hr
  have HN := Lib.hid hneg
  have HSL := Lib.hid hsl
  clear hneg hsl
  have HBE := Lib.hid (show Below W.heap.size W (W.alloc (.cells #[.bool false, .slice none 0 0, .slice none 0 0] 26)) from one_new)
  have HKE := Lib.hid (keptF_new W)
  go_enter Tryd.func13, Tryd.ntmps13
  go_wp2_with fail
  refine (rSmall_num 1 _ (by omega) (by omega)).mono ?_
  rintro e w1 ⟨A1, c1, k1, rfl, n1, b1⟩
  have P1 := Lib.hid (ParW.new (s := false) (A := none) (n := 0) (c := 0) (B := A1) (m := k1) (d := c1) (ln := [(.slice A1 k1 c1, 1)]) (HKE.out.go b1) (fun u y hm => by rw [List.mem_singleton] at hm; injection hm with e1 e2; subst e1; subst e2; exact n1) (btwo HBE.out b1) (by have := b1.size; simp at this; omega))
  clear n1 b1
  go_wp2_with fail
  go_loop [6] (fun i => ∃ k : Nat, k ≤ s.size ∧ i = .int .i64 (k : Int) ∧ (47 : UInt8) ∉ s.data.toList.take k) (fun i => s.size - (intOf i).toNat)
  case atStart => exact ⟨0, Nat.zero_le _, rfl, by simp⟩
  case round =>
    obtain ⟨k, hk, rfl, ha⟩ := hrel
    have HA := Lib.hid ha
    clear ha
    by_cases hlt : k < s.size
    · have hb8 : (s[k].toNat : Int) ≤ 255 := by have := s[k].toNat_lt; omega
      by_cases h47 : (s[k].toNat : Int) = 47
      · go_wp2_with fail
        have hsp := split_at HTB.out hlt h47 HA.out
        have HDIV := Lib.hid hsp.2.2
        have HNM := Lib.hid (show (s.extract 0 k).data.toList = numOf l by rw [ext_list, hsp.1]; simp)
        have HDM := Lib.hid (show (s.extract (k + 1) s.size).data.toList = denOf l by
          rw [ext_list, hsp.2.1]; exact List.take_of_length_le (by rw [List.length_drop, sizeB]; exact Nat.le_refl _))
        have HLN := Lib.hid (show (numOf l).length ≤ 1700 by rw [hsp.1, List.length_take, sizeB]; omega)
        have HLD := Lib.hid (show (denOf l).length ≤ 1700 by rw [hsp.2.1, List.length_drop, sizeB]; omega)
        clear hsp
        by_cases hn : isTB (numOf l) = true ∧ ¬ 800 < (numOf l).length
        · refine (rpar_ok (s.extract 0 k) (numOf l) (w1.alloc (.cells #[.bool false, .slice none 0 0, .slice A1 k1 c1] 26)) HNM.out hn).mono ?_
          rintro e w2 ⟨Ap, cp, kp, rfl, np, b2⟩
          have P2 := Lib.hid ((P1.out.go b2).num np)
          clear b2 np
          obtain ⟨f0, f1, f2, f3, f4, f5, f6⟩ := P2.out.facts
          obtain ⟨q0, q1, q2, q3, q4, q5, q6⟩ := P2.out.1.facts
          have q7 := P2.out.2.2.2.2.1
          have P3 := Lib.hid ((P2.out.set1 Ap kp cp).go (one_new (o := .cells #[.slice Ap kp cp] 24)))
          have HN1 := Lib.hid hn
          clear hn
          go_wp2_with fail
          clear f0 f1 f2 f3 f4 f5 f6 q0 q1 q2 q3 q4 q5 q6 q7
          by_cases hd : isTB (denOf l) = true ∧ ¬ 800 < (denOf l).length
          · refine (rpar_ok (s.extract (k + 1) s.size) (denOf l) ((w2.setCell ⟨w1.heap.size, 1, none⟩ (.slice Ap kp cp)).alloc (.cells #[.slice Ap kp cp] 24)) HDM.out hd).mono ?_
            rintro e w3 ⟨Aq, cq, kq, rfl, nq, b3⟩
            have P4 := Lib.hid ((P3.out.go b3).num nq)
            clear b3 nq
            obtain ⟨f0, f1, f2, f3, f4, f5, f6⟩ := P4.out.facts
            obtain ⟨q0, q1, q2, q3, q4, q5, q6⟩ := P4.out.1.facts
            have q7 := P4.out.2.2.2.2.1
            have P5 := Lib.hid (P4.out.set2 Aq kq cq)
            have HK := Lib.hid (show fok l from ⟨HN1.out, hd⟩)
            clear hd
            go_wp2_with fail
            clear f0 f1 f2 f3 f4 f5 f6 q0 q1 q2 q3 q4 q5 q6 q7
            by_cases hv : 0 < decV (denOf l) ∧ gcdI (decV (numOf l)) (decV (denOf l)) = 1 ∧ (false = true → 0 < decV (numOf l))
            · have HV := Lib.hid hv
              clear hv
              by_cases h1 : decV (denOf l) = 1
              · have HND := Lib.hid (show divOf l = true ∧ decV (denOf l) = 1 from ⟨HDIV.out, h1⟩)
                obtain ⟨ub, hub⟩ : ∃ b : ByteArray, (⟨(ftext false (decV (numOf l)) (decV (denOf l))).toArray⟩ : ByteArray) = b := ⟨_, rfl⟩
                have hne : ¬ ub = s := fun e => text_one l false (decV (numOf l)) HDIV.out (by
                  have h := congrArg (fun b : ByteArray => b.data.toList) (hub.trans e)
                  rw [h1] at h
                  have h2 : ftext false (decV (numOf l)) 1 = s.data.toList := by simpa using h
                  rw [h2]; exact HSL.out)
                have hne2 := differ_toList hne
                clear hne
                refine (rfmt_is ub false kp cp kq cq _ _ Ap Aq _ (P5.out.at (.tail _ (.head _))) (P5.out.at (.head _)) HV.out hub).mono ?_
                rintro e w4 ⟨rfl, b4⟩
                have P9 := Lib.hid (P5.out.go b4)
                clear b4 h1 hub

                have K9 := Lib.hid P9.out.1
                have B9 := Lib.hid P9.out.2.2.2.1
                obtain ⟨e0, e1, e2⟩ := kept3 K9.out false (.slice none 0 0) (.slice none 0 0)
                have E0 := Lib.hid e0
                have E1 := Lib.hid e1
                have E2 := Lib.hid e2
                clear e0 e1 e2
                obtain ⟨j0, j1, j2, j3, j4, j5, j6⟩ := K9.out.facts
                go_wp2_with fail
                refine bodyPost_ret (v := .tuple #[.agg #[.bool false, .slice none 0 0, .slice none 0 0], .int .i64 2]) ?_ rfl ?_
                · simp [results, Tryd.results13, go_sem, E0.out, E1.out, E2.out]
                · exact .inr ⟨fun h => h.2.1 HND.out, fr_err (Nat.le_refl _) B9.out⟩
              · have HND := Lib.hid (show ¬ (divOf l = true ∧ decV (denOf l) = 1) from fun h => h1 h.2)
                clear h1
                have HTX := Lib.hid (show (⟨(ftext false (decV (numOf l)) (decV (denOf l))).toArray⟩ : ByteArray) = s by
                  have h := text_back l HK.out HND.out
                  rw [HN.out] at h
                  rw [h, ← HSL.out, Array.toArray_toList])
                refine (rfmt_is s false kp cp kq cq _ _ Ap Aq _ (P5.out.at (.tail _ (.head _))) (P5.out.at (.head _)) HV.out HTX.out).mono ?_
                rintro e w4 ⟨rfl, b4⟩
                have P9 := Lib.hid (P5.out.go b4)
                clear b4

                have K9 := Lib.hid P9.out.1
                have B9 := Lib.hid P9.out.2.2.2.1
                obtain ⟨e0, e1, e2⟩ := kept3 K9.out false (.slice Ap kp cp) (.slice Aq kq cq)
                have E0 := Lib.hid e0
                have E1 := Lib.hid e1
                have E2 := Lib.hid e2
                clear e0 e1 e2
                obtain ⟨j0, j1, j2, j3, j4, j5, j6⟩ := K9.out.facts
                obtain ⟨f0, f1, f2, f3, f4, f5, f6⟩ := P9.out.facts
                go_wp2_with fail
                refine bodyPost_ret (v := .tuple #[.agg #[.bool false, .slice Ap kp cp, .slice Aq kq cq], .int .i64 0]) ?_ rfl ?_
                · simp [results, Tryd.results13, go_sem, E0.out, E1.out, E2.out]
                · exact .inl ⟨⟨HK.out, HND.out, by rw [HN.out]; simpa using HV.out⟩, by rw [HN.out]; exact fr_ok (s := false) K9.out (Nat.le_refl _) (P9.out.at (.tail _ (.head _))) (P9.out.at (.head _)) B9.out⟩
            · refine (rfmt_no false kp cp kq cq _ _ Ap Aq _ (P5.out.at (.tail _ (.head _))) (P5.out.at (.head _)) hv).mono ?_
              rintro e w4 ⟨rfl, b4⟩
              have P9 := Lib.hid (P5.out.go b4)
              have HV := Lib.hid hv
              clear b4 hv

              have K9 := Lib.hid P9.out.1
              have B9 := Lib.hid P9.out.2.2.2.1
              obtain ⟨e0, e1, e2⟩ := kept3 K9.out false (.slice none 0 0) (.slice none 0 0)
              have E0 := Lib.hid e0
              have E1 := Lib.hid e1
              have E2 := Lib.hid e2
              clear e0 e1 e2
              obtain ⟨j0, j1, j2, j3, j4, j5, j6⟩ := K9.out.facts
              go_wp2_with fail
              refine bodyPost_ret (v := .tuple #[.agg #[.bool false, .slice none 0 0, .slice none 0 0], .int .i64 2]) ?_ rfl ?_
              · simp [results, Tryd.results13, go_sem, E0.out, E1.out, E2.out]
              · exact .inr ⟨fun h => HV.out (by have h := h.2.2; rw [HN.out] at h; simpa using h), fr_err (Nat.le_refl _) B9.out⟩
          · obtain ⟨x, ⟨hx1, hx2⟩, hcal⟩ := rpar_no (s.extract (k + 1) s.size) (denOf l) ((w2.setCell ⟨w1.heap.size, 1, none⟩ (.slice Ap kp cp)).alloc (.cells #[.slice Ap kp cp] 24)) HDM.out HLD.out hd
            refine hcal.mono ?_
            rintro e w3 ⟨Aq, cq, rfl, nq, b3⟩
            have P4 := Lib.hid ((P3.out.go b3).num nq)
            clear b3 nq hcal
            obtain ⟨f0, f1, f2, f3, f4, f5, f6⟩ := P4.out.facts
            obtain ⟨q0, q1, q2, q3, q4, q5, q6⟩ := P4.out.1.facts
            have q7 := P4.out.2.2.2.2.1
            have P9 := Lib.hid (P4.out.set2 Aq 0 cq)

            have K9 := Lib.hid P9.out.1
            have B9 := Lib.hid P9.out.2.2.2.1
            obtain ⟨e0, e1, e2⟩ := kept3 K9.out false (.slice none 0 0) (.slice none 0 0)
            have E0 := Lib.hid e0
            have E1 := Lib.hid e1
            have E2 := Lib.hid e2
            clear e0 e1 e2
            obtain ⟨j0, j1, j2, j3, j4, j5, j6⟩ := K9.out.facts
            go_wp2_with fail
            refine bodyPost_ret (v := .tuple #[.agg #[.bool false, .slice none 0 0, .slice none 0 0], .int .i64 2]) ?_ rfl ?_
            · simp [results, Tryd.results13, go_sem, E0.out, E1.out, E2.out]
            · exact .inr ⟨fun h => hd h.1.2, fr_err (Nat.le_refl _) B9.out⟩
        · obtain ⟨x, ⟨hx1, hx2⟩, hcal⟩ := rpar_no (s.extract 0 k) (numOf l) (w1.alloc (.cells #[.bool false, .slice none 0 0, .slice A1 k1 c1] 26)) HNM.out HLN.out hn

          refine (hcal).mono ?_
          rintro e w2 ⟨Ap, cp, rfl, np, b2⟩

          have P2 := Lib.hid ((P1.out.go b2).num np)
          clear b2 np hcal
          have P9 := Lib.hid (P2.out.set1 Ap 0 cp)
          obtain ⟨f0, f1, f2, f3, f4, f5, f6⟩ := P2.out.facts
          obtain ⟨q0, q1, q2, q3, q4, q5, q6⟩ := P2.out.1.facts
          have q7 := P2.out.2.2.2.2.1
          have K9 := Lib.hid P9.out.1
          have B9 := Lib.hid P9.out.2.2.2.1
          obtain ⟨e0, e1, e2⟩ := err_cell1 K9.out (.cells #[.slice Ap 0 cp] 24)
          have E0 := Lib.hid e0
          have E1 := Lib.hid e1
          have E2 := Lib.hid e2
          clear e0 e1 e2
          obtain ⟨j0, j1, j2, j3, j4, j5, j6⟩ := K9.out.facts
          go_wp2_with fail
          refine bodyPost_ret (v := .tuple #[.agg #[.bool false, .slice none 0 0, .slice none 0 0], .int .i64 2]) ?_ rfl ?_
          · simp [results, Tryd.results13, go_sem, E0.out, E1.out, E2.out]
          · exact .inr ⟨fun h => hn h.1.1, fr_err1 (Nat.le_refl _) B9.out⟩
      · have HS := Lib.hid (slash_step hlt HA.out h47)
        have h47b : ((s[k].toNat : Int) == 47) = false := by simpa using h47
        go_wp2_with fail
        go_round
        case rel => exact ⟨k + 1, by omega, by go_num, HS.out⟩
        case measure => simp [intOf]; omega
    · obtain rfl : k = s.size := by omega
      go_wp2_with fail
      have hsp := split_no HTB.out (Nat.le_refl _) HA.out
      have HNUM := Lib.hid hsp.1
      have HDEN := Lib.hid hsp.2.1
      have HDIV := Lib.hid hsp.2.2
      have HNM := Lib.hid hsp.1.symm
      have HLN := Lib.hid (show (numOf l).length ≤ 1700 by rw [hsp.1, sizeB]; exact htbs)
      clear hsp
      by_cases hn : isTB (numOf l) = true ∧ ¬ 800 < (numOf l).length
      · have HD1 := Lib.hid (den_no HDEN.out)
        have HK := Lib.hid (show fok l from ⟨hn, by rw [HDEN.out]; decide⟩)
        have HND := Lib.hid (show ¬ (divOf l = true ∧ decV (denOf l) = 1) from fun h => by rw [HDIV.out] at h; simp at h)
        have HTX := Lib.hid (show (⟨(ftext false (decV (numOf l)) 1).toArray⟩ : ByteArray) = s by
          have h := text_back l HK.out HND.out
          rw [HN.out, HD1.out] at h
          rw [h, ← HSL.out, Array.toArray_toList])
        refine (rpar_ok s (numOf l) (w1.alloc (.cells #[.bool false, .slice none 0 0, .slice A1 k1 c1] 26)) HNM.out hn).mono ?_
        rintro e w2 ⟨Ap, cp, kp, rfl, np, b2⟩
        have P2 := Lib.hid ((P1.out.go b2).num np)
        clear b2 np
        obtain ⟨f0, f1, f2, f3, f4, f5, f6⟩ := P2.out.facts
        obtain ⟨q0, q1, q2, q3, q4, q5, q6⟩ := P2.out.1.facts
        have q7 := P2.out.2.2.2.2.1
        have P3 := Lib.hid ((P2.out.set1 Ap kp cp).go (one_new (o := .cells #[.slice Ap kp cp] 24)))
        go_wp2_with fail
        clear f0 f1 f2 f3 f4 f5 f6 q0 q1 q2 q3 q4 q5 q6 q7
        by_cases hv : 0 < (1 : Int) ∧ gcdI (decV (numOf l)) 1 = 1 ∧ (false = true → 0 < decV (numOf l))
        · have HV := Lib.hid hv
          refine (rfmt_is s false kp cp k1 c1 _ 1 Ap A1 _ (P3.out.at (.head _)) (P3.out.at (.tail _ (.head _))) hv HTX.out).mono ?_
          rintro e w3 ⟨rfl, b3⟩
          have P9 := Lib.hid (P3.out.go b3)
          clear b3 hv

          have K9 := Lib.hid P9.out.1
          have B9 := Lib.hid P9.out.2.2.2.1
          obtain ⟨e0, e1, e2⟩ := kept3 K9.out false (.slice Ap kp cp) (.slice A1 k1 c1)
          have E0 := Lib.hid e0
          have E1 := Lib.hid e1
          have E2 := Lib.hid e2
          clear e0 e1 e2
          obtain ⟨j0, j1, j2, j3, j4, j5, j6⟩ := K9.out.facts
          obtain ⟨f0, f1, f2, f3, f4, f5, f6⟩ := P9.out.facts
          go_wp2_with fail
          refine bodyPost_ret (v := .tuple #[.agg #[.bool false, .slice Ap kp cp, .slice A1 k1 c1], .int .i64 0]) ?_ rfl ?_
          · simp [results, Tryd.results13, go_sem, E0.out, E1.out, E2.out]
          · exact .inl ⟨⟨HK.out, HND.out, by rw [HD1.out, HN.out]; simpa using HV.out⟩, by rw [HN.out, HD1.out]; exact fr_ok (s := false) K9.out (Nat.le_refl _) (P9.out.at (.head _)) (P9.out.at (.tail _ (.head _))) B9.out⟩
        · refine (rfmt_no false kp cp k1 c1 _ 1 Ap A1 _ (P3.out.at (.head _)) (P3.out.at (.tail _ (.head _))) hv).mono ?_
          rintro e w3 ⟨rfl, b3⟩
          have P9 := Lib.hid (P3.out.go b3)
          have HV := Lib.hid hv
          clear b3 hv

          have K9 := Lib.hid P9.out.1
          have B9 := Lib.hid P9.out.2.2.2.1
          obtain ⟨e0, e1, e2⟩ := kept3 K9.out false (.slice none 0 0) (.slice none 0 0)
          have E0 := Lib.hid e0
          have E1 := Lib.hid e1
          have E2 := Lib.hid e2
          clear e0 e1 e2
          obtain ⟨j0, j1, j2, j3, j4, j5, j6⟩ := K9.out.facts
          go_wp2_with fail
          refine bodyPost_ret (v := .tuple #[.agg #[.bool false, .slice none 0 0, .slice none 0 0], .int .i64 2]) ?_ rfl ?_
          · simp [results, Tryd.results13, go_sem, E0.out, E1.out, E2.out]
          · exact .inr ⟨fun h => HV.out (by have h := h.2.2; rw [HD1.out, HN.out] at h; simpa using h), fr_err (Nat.le_refl _) B9.out⟩
      · obtain ⟨x, ⟨hx1, hx2⟩, hcal⟩ := rpar_no s (numOf l) (w1.alloc (.cells #[.bool false, .slice none 0 0, .slice A1 k1 c1] 26)) HNM.out HLN.out hn

        refine (hcal).mono ?_
        rintro e w2 ⟨Ap, cp, rfl, np, b2⟩

        have P2 := Lib.hid ((P1.out.go b2).num np)
        clear b2 np hcal
        have P9 := Lib.hid (P2.out.set1 Ap 0 cp)
        obtain ⟨f0, f1, f2, f3, f4, f5, f6⟩ := P2.out.facts
        obtain ⟨q0, q1, q2, q3, q4, q5, q6⟩ := P2.out.1.facts
        have q7 := P2.out.2.2.2.2.1
        have K9 := Lib.hid P9.out.1
        have B9 := Lib.hid P9.out.2.2.2.1
        obtain ⟨e0, e1, e2⟩ := err_cell1 K9.out (.cells #[.slice Ap 0 cp] 24)
        have E0 := Lib.hid e0
        have E1 := Lib.hid e1
        have E2 := Lib.hid e2
        clear e0 e1 e2
        obtain ⟨j0, j1, j2, j3, j4, j5, j6⟩ := K9.out.facts
        go_wp2_with fail
        refine bodyPost_ret (v := .tuple #[.agg #[.bool false, .slice none 0 0, .slice none 0 0], .int .i64 2]) ?_ rfl ?_
        · simp [results, Tryd.results13, go_sem, E0.out, E1.out, E2.out]
        · exact .inr ⟨fun h => hn h.1.1, fr_err1 (Nat.le_refl _) B9.out⟩
set_option maxHeartbeats 4000000 in
theorem rfparse_m (l : List UInt8) (s : ByteArray) (W : World) (hsl : s.data.toList = l) (hs : s.size ≤ 1700) (hpos : 0 < s.size) (hb : (((s[0]'hpos).toNat : Int) == 45) = true) (tb : ByteArray) (htb : tb = s.extract 1 s.size) (htbs : tb.size ≤ 1700) (hr : tb.data.toList = restOf l) (hneg : negOf l = true) :
    Calls Tryd.prog 13 #[.string s] W (FPost l W) := by
  have hx2 := nonempty_toList (s := s) (by omega)
  have HTB := Lib.hid hr
  have HTT := Lib.hid htb
  clear hr htb
  have HN := Lib.hid hneg
  have HSL := Lib.hid hsl
  clear hneg hsl
  have HBE := Lib.hid (show Below W.heap.size W (W.alloc (.cells #[.bool false, .slice none 0 0, .slice none 0 0] 26)) from one_new)
  have HKE := Lib.hid (keptF_new W)
  go_enter Tryd.func13, Tryd.ntmps13
  go_wp2_with fail
  refine (rSmall_num 1 _ (by omega) (by omega)).mono ?_
  rintro e w1 ⟨A1, c1, k1, rfl, n1, b1⟩
  have P1 := Lib.hid (ParW.new (s := true) (A := none) (n := 0) (c := 0) (B := A1) (m := k1) (d := c1) (ln := [(.slice A1 k1 c1, 1)]) (HKE.out.go b1) (fun u y hm => by rw [List.mem_singleton] at hm; injection hm with e1 e2; subst e1; subst e2; exact n1) (btwo HBE.out b1) (by have := b1.size; simp at this; omega))
  clear n1 b1
  go_wp2_with fail
  rw [← HTT.out]
  go_loop [6] (fun i => ∃ k : Nat, k ≤ tb.size ∧ i = .int .i64 (k : Int) ∧ (47 : UInt8) ∉ tb.data.toList.take k) (fun i => tb.size - (intOf i).toNat)
  case atStart => exact ⟨0, Nat.zero_le _, rfl, by simp⟩
  case round =>
    obtain ⟨k, hk, rfl, ha⟩ := hrel
    have HA := Lib.hid ha
    clear ha
    by_cases hlt : k < tb.size
    · have hb8 : (tb[k].toNat : Int) ≤ 255 := by have := tb[k].toNat_lt; omega
      by_cases h47 : (tb[k].toNat : Int) = 47
      · go_wp2_with fail
        have hsp := split_at HTB.out hlt h47 HA.out
        have HDIV := Lib.hid hsp.2.2
        have HNM := Lib.hid (show (tb.extract 0 k).data.toList = numOf l by rw [ext_list, hsp.1]; simp)
        have HDM := Lib.hid (show (tb.extract (k + 1) tb.size).data.toList = denOf l by
          rw [ext_list, hsp.2.1]; exact List.take_of_length_le (by rw [List.length_drop, sizeB]; exact Nat.le_refl _))
        have HLN := Lib.hid (show (numOf l).length ≤ 1700 by rw [hsp.1, List.length_take, sizeB]; omega)
        have HLD := Lib.hid (show (denOf l).length ≤ 1700 by rw [hsp.2.1, List.length_drop, sizeB]; omega)
        clear hsp
        by_cases hn : isTB (numOf l) = true ∧ ¬ 800 < (numOf l).length
        · refine (rpar_ok (tb.extract 0 k) (numOf l) (w1.alloc (.cells #[.bool true, .slice none 0 0, .slice A1 k1 c1] 26)) HNM.out hn).mono ?_
          rintro e w2 ⟨Ap, cp, kp, rfl, np, b2⟩
          have P2 := Lib.hid ((P1.out.go b2).num np)
          clear b2 np
          obtain ⟨f0, f1, f2, f3, f4, f5, f6⟩ := P2.out.facts
          obtain ⟨q0, q1, q2, q3, q4, q5, q6⟩ := P2.out.1.facts
          have q7 := P2.out.2.2.2.2.1
          have P3 := Lib.hid ((P2.out.set1 Ap kp cp).go (one_new (o := .cells #[.slice Ap kp cp] 24)))
          have HN1 := Lib.hid hn
          clear hn
          go_wp2_with fail
          clear f0 f1 f2 f3 f4 f5 f6 q0 q1 q2 q3 q4 q5 q6 q7
          by_cases hd : isTB (denOf l) = true ∧ ¬ 800 < (denOf l).length
          · refine (rpar_ok (tb.extract (k + 1) tb.size) (denOf l) ((w2.setCell ⟨w1.heap.size, 1, none⟩ (.slice Ap kp cp)).alloc (.cells #[.slice Ap kp cp] 24)) HDM.out hd).mono ?_
            rintro e w3 ⟨Aq, cq, kq, rfl, nq, b3⟩
            have P4 := Lib.hid ((P3.out.go b3).num nq)
            clear b3 nq
            obtain ⟨f0, f1, f2, f3, f4, f5, f6⟩ := P4.out.facts
            obtain ⟨q0, q1, q2, q3, q4, q5, q6⟩ := P4.out.1.facts
            have q7 := P4.out.2.2.2.2.1
            have P5 := Lib.hid (P4.out.set2 Aq kq cq)
            have HK := Lib.hid (show fok l from ⟨HN1.out, hd⟩)
            clear hd
            go_wp2_with fail
            clear f0 f1 f2 f3 f4 f5 f6 q0 q1 q2 q3 q4 q5 q6 q7
            by_cases hv : 0 < decV (denOf l) ∧ gcdI (decV (numOf l)) (decV (denOf l)) = 1 ∧ (true = true → 0 < decV (numOf l))
            · have HV := Lib.hid hv
              clear hv
              by_cases h1 : decV (denOf l) = 1
              · have HND := Lib.hid (show divOf l = true ∧ decV (denOf l) = 1 from ⟨HDIV.out, h1⟩)
                obtain ⟨ub, hub⟩ : ∃ b : ByteArray, (⟨(ftext true (decV (numOf l)) (decV (denOf l))).toArray⟩ : ByteArray) = b := ⟨_, rfl⟩
                have hne : ¬ ub = s := fun e => text_one l true (decV (numOf l)) HDIV.out (by
                  have h := congrArg (fun b : ByteArray => b.data.toList) (hub.trans e)
                  rw [h1] at h
                  have h2 : ftext true (decV (numOf l)) 1 = s.data.toList := by simpa using h
                  rw [h2]; exact HSL.out)
                have hne2 := differ_toList hne
                clear hne
                refine (rfmt_is ub true kp cp kq cq _ _ Ap Aq _ (P5.out.at (.tail _ (.head _))) (P5.out.at (.head _)) HV.out hub).mono ?_
                rintro e w4 ⟨rfl, b4⟩
                have P9 := Lib.hid (P5.out.go b4)
                clear b4 h1 hub

                have K9 := Lib.hid P9.out.1
                have B9 := Lib.hid P9.out.2.2.2.1
                obtain ⟨e0, e1, e2⟩ := kept3 K9.out false (.slice none 0 0) (.slice none 0 0)
                have E0 := Lib.hid e0
                have E1 := Lib.hid e1
                have E2 := Lib.hid e2
                clear e0 e1 e2
                obtain ⟨j0, j1, j2, j3, j4, j5, j6⟩ := K9.out.facts
                go_wp2_with fail
                refine bodyPost_ret (v := .tuple #[.agg #[.bool false, .slice none 0 0, .slice none 0 0], .int .i64 2]) ?_ rfl ?_
                · simp [results, Tryd.results13, go_sem, E0.out, E1.out, E2.out]
                · exact .inr ⟨fun h => h.2.1 HND.out, fr_err (Nat.le_refl _) B9.out⟩
              · have HND := Lib.hid (show ¬ (divOf l = true ∧ decV (denOf l) = 1) from fun h => h1 h.2)
                clear h1
                have HTX := Lib.hid (show (⟨(ftext true (decV (numOf l)) (decV (denOf l))).toArray⟩ : ByteArray) = s by
                  have h := text_back l HK.out HND.out
                  rw [HN.out] at h
                  rw [h, ← HSL.out, Array.toArray_toList])
                refine (rfmt_is s true kp cp kq cq _ _ Ap Aq _ (P5.out.at (.tail _ (.head _))) (P5.out.at (.head _)) HV.out HTX.out).mono ?_
                rintro e w4 ⟨rfl, b4⟩
                have P9 := Lib.hid (P5.out.go b4)
                clear b4

                have K9 := Lib.hid P9.out.1
                have B9 := Lib.hid P9.out.2.2.2.1
                obtain ⟨e0, e1, e2⟩ := kept3 K9.out true (.slice Ap kp cp) (.slice Aq kq cq)
                have E0 := Lib.hid e0
                have E1 := Lib.hid e1
                have E2 := Lib.hid e2
                clear e0 e1 e2
                obtain ⟨j0, j1, j2, j3, j4, j5, j6⟩ := K9.out.facts
                obtain ⟨f0, f1, f2, f3, f4, f5, f6⟩ := P9.out.facts
                go_wp2_with fail
                refine bodyPost_ret (v := .tuple #[.agg #[.bool true, .slice Ap kp cp, .slice Aq kq cq], .int .i64 0]) ?_ rfl ?_
                · simp [results, Tryd.results13, go_sem, E0.out, E1.out, E2.out]
                · exact .inl ⟨⟨HK.out, HND.out, by rw [HN.out]; simpa using HV.out⟩, by rw [HN.out]; exact fr_ok (s := true) K9.out (Nat.le_refl _) (P9.out.at (.tail _ (.head _))) (P9.out.at (.head _)) B9.out⟩
            · refine (rfmt_no true kp cp kq cq _ _ Ap Aq _ (P5.out.at (.tail _ (.head _))) (P5.out.at (.head _)) hv).mono ?_
              rintro e w4 ⟨rfl, b4⟩
              have P9 := Lib.hid (P5.out.go b4)
              have HV := Lib.hid hv
              clear b4 hv

              have K9 := Lib.hid P9.out.1
              have B9 := Lib.hid P9.out.2.2.2.1
              obtain ⟨e0, e1, e2⟩ := kept3 K9.out false (.slice none 0 0) (.slice none 0 0)
              have E0 := Lib.hid e0
              have E1 := Lib.hid e1
              have E2 := Lib.hid e2
              clear e0 e1 e2
              obtain ⟨j0, j1, j2, j3, j4, j5, j6⟩ := K9.out.facts
              go_wp2_with fail
              refine bodyPost_ret (v := .tuple #[.agg #[.bool false, .slice none 0 0, .slice none 0 0], .int .i64 2]) ?_ rfl ?_
              · simp [results, Tryd.results13, go_sem, E0.out, E1.out, E2.out]
              · exact .inr ⟨fun h => HV.out (by have h := h.2.2; rw [HN.out] at h; simpa using h), fr_err (Nat.le_refl _) B9.out⟩
          · obtain ⟨x, ⟨hx1, hx2⟩, hcal⟩ := rpar_no (tb.extract (k + 1) tb.size) (denOf l) ((w2.setCell ⟨w1.heap.size, 1, none⟩ (.slice Ap kp cp)).alloc (.cells #[.slice Ap kp cp] 24)) HDM.out HLD.out hd
            refine hcal.mono ?_
            rintro e w3 ⟨Aq, cq, rfl, nq, b3⟩
            have P4 := Lib.hid ((P3.out.go b3).num nq)
            clear b3 nq hcal
            obtain ⟨f0, f1, f2, f3, f4, f5, f6⟩ := P4.out.facts
            obtain ⟨q0, q1, q2, q3, q4, q5, q6⟩ := P4.out.1.facts
            have q7 := P4.out.2.2.2.2.1
            have P9 := Lib.hid (P4.out.set2 Aq 0 cq)

            have K9 := Lib.hid P9.out.1
            have B9 := Lib.hid P9.out.2.2.2.1
            obtain ⟨e0, e1, e2⟩ := kept3 K9.out false (.slice none 0 0) (.slice none 0 0)
            have E0 := Lib.hid e0
            have E1 := Lib.hid e1
            have E2 := Lib.hid e2
            clear e0 e1 e2
            obtain ⟨j0, j1, j2, j3, j4, j5, j6⟩ := K9.out.facts
            go_wp2_with fail
            refine bodyPost_ret (v := .tuple #[.agg #[.bool false, .slice none 0 0, .slice none 0 0], .int .i64 2]) ?_ rfl ?_
            · simp [results, Tryd.results13, go_sem, E0.out, E1.out, E2.out]
            · exact .inr ⟨fun h => hd h.1.2, fr_err (Nat.le_refl _) B9.out⟩
        · obtain ⟨x, ⟨hx1, hx2⟩, hcal⟩ := rpar_no (tb.extract 0 k) (numOf l) (w1.alloc (.cells #[.bool true, .slice none 0 0, .slice A1 k1 c1] 26)) HNM.out HLN.out hn

          refine (hcal).mono ?_
          rintro e w2 ⟨Ap, cp, rfl, np, b2⟩

          have P2 := Lib.hid ((P1.out.go b2).num np)
          clear b2 np hcal
          have P9 := Lib.hid (P2.out.set1 Ap 0 cp)
          obtain ⟨f0, f1, f2, f3, f4, f5, f6⟩ := P2.out.facts
          obtain ⟨q0, q1, q2, q3, q4, q5, q6⟩ := P2.out.1.facts
          have q7 := P2.out.2.2.2.2.1
          have K9 := Lib.hid P9.out.1
          have B9 := Lib.hid P9.out.2.2.2.1
          obtain ⟨e0, e1, e2⟩ := err_cell1 K9.out (.cells #[.slice Ap 0 cp] 24)
          have E0 := Lib.hid e0
          have E1 := Lib.hid e1
          have E2 := Lib.hid e2
          clear e0 e1 e2
          obtain ⟨j0, j1, j2, j3, j4, j5, j6⟩ := K9.out.facts
          go_wp2_with fail
          refine bodyPost_ret (v := .tuple #[.agg #[.bool false, .slice none 0 0, .slice none 0 0], .int .i64 2]) ?_ rfl ?_
          · simp [results, Tryd.results13, go_sem, E0.out, E1.out, E2.out]
          · exact .inr ⟨fun h => hn h.1.1, fr_err1 (Nat.le_refl _) B9.out⟩
      · have HS := Lib.hid (slash_step hlt HA.out h47)
        have h47b : ((tb[k].toNat : Int) == 47) = false := by simpa using h47
        go_wp2_with fail
        go_round
        case rel => exact ⟨k + 1, by omega, by go_num, HS.out⟩
        case measure => simp [intOf]; omega
    · obtain rfl : k = tb.size := by omega
      go_wp2_with fail
      have hsp := split_no HTB.out (Nat.le_refl _) HA.out
      have HNUM := Lib.hid hsp.1
      have HDEN := Lib.hid hsp.2.1
      have HDIV := Lib.hid hsp.2.2
      have HNM := Lib.hid hsp.1.symm
      have HLN := Lib.hid (show (numOf l).length ≤ 1700 by rw [hsp.1, sizeB]; exact htbs)
      clear hsp
      by_cases hn : isTB (numOf l) = true ∧ ¬ 800 < (numOf l).length
      · have HD1 := Lib.hid (den_no HDEN.out)
        have HK := Lib.hid (show fok l from ⟨hn, by rw [HDEN.out]; decide⟩)
        have HND := Lib.hid (show ¬ (divOf l = true ∧ decV (denOf l) = 1) from fun h => by rw [HDIV.out] at h; simp at h)
        have HTX := Lib.hid (show (⟨(ftext true (decV (numOf l)) 1).toArray⟩ : ByteArray) = s by
          have h := text_back l HK.out HND.out
          rw [HN.out, HD1.out] at h
          rw [h, ← HSL.out, Array.toArray_toList])
        refine (rpar_ok tb (numOf l) (w1.alloc (.cells #[.bool true, .slice none 0 0, .slice A1 k1 c1] 26)) HNM.out hn).mono ?_
        rintro e w2 ⟨Ap, cp, kp, rfl, np, b2⟩
        have P2 := Lib.hid ((P1.out.go b2).num np)
        clear b2 np
        obtain ⟨f0, f1, f2, f3, f4, f5, f6⟩ := P2.out.facts
        obtain ⟨q0, q1, q2, q3, q4, q5, q6⟩ := P2.out.1.facts
        have q7 := P2.out.2.2.2.2.1
        have P3 := Lib.hid ((P2.out.set1 Ap kp cp).go (one_new (o := .cells #[.slice Ap kp cp] 24)))
        go_wp2_with fail
        clear f0 f1 f2 f3 f4 f5 f6 q0 q1 q2 q3 q4 q5 q6 q7
        by_cases hv : 0 < (1 : Int) ∧ gcdI (decV (numOf l)) 1 = 1 ∧ (true = true → 0 < decV (numOf l))
        · have HV := Lib.hid hv
          refine (rfmt_is s true kp cp k1 c1 _ 1 Ap A1 _ (P3.out.at (.head _)) (P3.out.at (.tail _ (.head _))) hv HTX.out).mono ?_
          rintro e w3 ⟨rfl, b3⟩
          have P9 := Lib.hid (P3.out.go b3)
          clear b3 hv

          have K9 := Lib.hid P9.out.1
          have B9 := Lib.hid P9.out.2.2.2.1
          obtain ⟨e0, e1, e2⟩ := kept3 K9.out true (.slice Ap kp cp) (.slice A1 k1 c1)
          have E0 := Lib.hid e0
          have E1 := Lib.hid e1
          have E2 := Lib.hid e2
          clear e0 e1 e2
          obtain ⟨j0, j1, j2, j3, j4, j5, j6⟩ := K9.out.facts
          obtain ⟨f0, f1, f2, f3, f4, f5, f6⟩ := P9.out.facts
          go_wp2_with fail
          refine bodyPost_ret (v := .tuple #[.agg #[.bool true, .slice Ap kp cp, .slice A1 k1 c1], .int .i64 0]) ?_ rfl ?_
          · simp [results, Tryd.results13, go_sem, E0.out, E1.out, E2.out]
          · exact .inl ⟨⟨HK.out, HND.out, by rw [HD1.out, HN.out]; simpa using HV.out⟩, by rw [HN.out, HD1.out]; exact fr_ok (s := true) K9.out (Nat.le_refl _) (P9.out.at (.head _)) (P9.out.at (.tail _ (.head _))) B9.out⟩
        · refine (rfmt_no true kp cp k1 c1 _ 1 Ap A1 _ (P3.out.at (.head _)) (P3.out.at (.tail _ (.head _))) hv).mono ?_
          rintro e w3 ⟨rfl, b3⟩
          have P9 := Lib.hid (P3.out.go b3)
          have HV := Lib.hid hv
          clear b3 hv

          have K9 := Lib.hid P9.out.1
          have B9 := Lib.hid P9.out.2.2.2.1
          obtain ⟨e0, e1, e2⟩ := kept3 K9.out false (.slice none 0 0) (.slice none 0 0)
          have E0 := Lib.hid e0
          have E1 := Lib.hid e1
          have E2 := Lib.hid e2
          clear e0 e1 e2
          obtain ⟨j0, j1, j2, j3, j4, j5, j6⟩ := K9.out.facts
          go_wp2_with fail
          refine bodyPost_ret (v := .tuple #[.agg #[.bool false, .slice none 0 0, .slice none 0 0], .int .i64 2]) ?_ rfl ?_
          · simp [results, Tryd.results13, go_sem, E0.out, E1.out, E2.out]
          · exact .inr ⟨fun h => HV.out (by have h := h.2.2; rw [HD1.out, HN.out] at h; simpa using h), fr_err (Nat.le_refl _) B9.out⟩
      · obtain ⟨x, ⟨hx1, hx2⟩, hcal⟩ := rpar_no tb (numOf l) (w1.alloc (.cells #[.bool true, .slice none 0 0, .slice A1 k1 c1] 26)) HNM.out HLN.out hn

        refine (hcal).mono ?_
        rintro e w2 ⟨Ap, cp, rfl, np, b2⟩

        have P2 := Lib.hid ((P1.out.go b2).num np)
        clear b2 np hcal
        have P9 := Lib.hid (P2.out.set1 Ap 0 cp)
        obtain ⟨f0, f1, f2, f3, f4, f5, f6⟩ := P2.out.facts
        obtain ⟨q0, q1, q2, q3, q4, q5, q6⟩ := P2.out.1.facts
        have q7 := P2.out.2.2.2.2.1
        have K9 := Lib.hid P9.out.1
        have B9 := Lib.hid P9.out.2.2.2.1
        obtain ⟨e0, e1, e2⟩ := err_cell1 K9.out (.cells #[.slice Ap 0 cp] 24)
        have E0 := Lib.hid e0
        have E1 := Lib.hid e1
        have E2 := Lib.hid e2
        clear e0 e1 e2
        obtain ⟨j0, j1, j2, j3, j4, j5, j6⟩ := K9.out.facts
        go_wp2_with fail
        refine bodyPost_ret (v := .tuple #[.agg #[.bool false, .slice none 0 0, .slice none 0 0], .int .i64 2]) ?_ rfl ?_
        · simp [results, Tryd.results13, go_sem, E0.out, E1.out, E2.out]
        · exact .inr ⟨fun h => hn h.1.1, fr_err1 (Nat.le_refl _) B9.out⟩
theorem rfparse_any (l : List UInt8) (s : ByteArray) (W : World) (hsl : s.data.toList = l) (hs : s.size ≤ 1700) :
    Calls Tryd.prog 13 #[.string s] W (FPost l W) := by
  by_cases h0 : s.size = 0
  · have hl : l = [] := by rw [← hsl]; exact List.eq_nil_of_length_eq_zero (by rw [sizeB]; exact h0)
    exact rfparse_n l s W hsl hs h0 (by rw [hsl, hl]; exact pref_nil.2.symm) (by rw [hl]; exact pref_nil.1)
  · have hpos : 0 < s.size := by omega
    have h1 : s.data.toList = s[0] :: s.data.toList.tail := by
      cases e : s.data.toList with
      | nil => have := sizeB s; rw [e] at this; simp at this; omega
      | cons x t => 
        have h2 : s[0] = s.data.toList[0]'(by rw [sizeB]; exact hpos) := rfl
        simp only [e] at h2
        rw [h2]; rfl
    by_cases hb : ((s[0].toNat : Int) == 45) = true
    · have hx : s[0] = 45 := UInt8.toNat_inj.1 (by
        have h3 : (s[0].toNat : Int) = 45 := by simpa using hb
        have : (45 : UInt8).toNat = 45 := rfl
        omega)
      have hl : l = 45 :: s.data.toList.tail := by rw [← hsl, h1, hx]; rfl
      refine rfparse_m l s W hsl hs hpos hb (s.extract 1 s.size) rfl (by simp; omega) ?_ (by rw [hl]; exact (pref_yes _).1)
      rw [hl, (pref_yes _).2, ext_list]
      rw [List.drop_one]
      exact List.take_of_length_le (by rw [List.length_tail, sizeB]; exact Nat.le_refl _)
    · have hb2 : ((s[0].toNat : Int) == 45) = false := by simpa using hb
      have hx : ¬ (45 : UInt8) = s[0] := fun e => hb (by rw [← e]; rfl)
      have hl : l = s[0] :: s.data.toList.tail := by rw [← hsl]; exact h1
      exact rfparse_b l s W hsl hs hpos hb2 (by rw [hsl, hl]; exact (pref_no _ _ hx).2.symm) (by rw [hl]; exact (pref_no _ _ hx).1)
end Go.Proofs.YtielpkpalfnfgaaDoor
/- The walk of a statement of layer 3: Parse of fractions against the reference's. -/
namespace Go.Proofs.YtielpkpalfnfgaaDoor
open Go.RowKit
set_option linter.unusedVariables false
set_option maxRecDepth 100000

theorem fparse_any (l : List UInt8) (s : ByteArray) (W : World) (hsl : s.data.toList = l) (hs : s.size ≤ 1700) (hC : Cutl W) : Calls Tryd.prog 11 #[.string s] W (FPost l W) := by
  have e : s = ⟨l.toArray⟩ := by rw [← hsl, Array.toArray_toList]
  have hl : l.length ≤ 100000 := by rw [← hsl, sizeB]; omega
  rw [e]
  by_cases hg : fgood l
  · exact (fparse_nums l W hl hC hg.1 hg.2.1 hg.2.2).mono fun _ _ h => .inl ⟨hg, h⟩
  · have h : Calls Tryd.prog 11 #[.string ⟨l.toArray⟩] W (FrErr 2 W) := by
      by_cases hn : isTB (numOf l) = true ∧ ¬ 800 < (numOf l).length
      · by_cases hd : isTB (denOf l) = true ∧ ¬ 800 < (denOf l).length
        · by_cases h1 : divOf l = true ∧ decV (denOf l) = 1
          · exact fparse_bad3 l W hl hC hn hd h1.1 h1.2
          · exact fparse_bad4 l W hl hC hn hd h1 fun hv => hg ⟨⟨hn, hd⟩, h1, hv⟩
        · exact fparse_bad2 l W hl hC hn hd
      · exact fparse_bad1 l W hl hC hn
    exact h.mono fun _ _ h => .inr ⟨hg, h⟩
theorem fmt_is (b : ByteArray) (s : Bool) (n c m d : Nat) (x y : Int) (A B : Option Addr) (W : World) (hx : NumAt W (.slice A n c) x) (hy : NumAt W (.slice B m d) y) (hv : 0 < y ∧ gcdI x y = 1 ∧ (s = true → 0 < x)) (hT : Tab W) (hb : (⟨(ftext s x y).toArray⟩ : ByteArray) = b) :
    Calls Tryd.prog 7 #[.agg #[.bool s, .slice A n c, .slice B m d]] W fun e w' => e = .returned (.tuple #[.string b, .int .i64 0]) ∧ Below W.heap.size W w' := by
  subst hb; exact fformat_num s n c m d x y A B W hx hy hv hT
theorem nil_num (w : World) : NumAt w (.slice none 0 0) 0 := ⟨Int.le_refl _, none, 0, by rw [digs_zero]; rfl, by rw [digs_zero]; exact fun h => by simp at h, by rw [digs_zero]; exact Nat.zero_le _, Nat.zero_le _, by rw [digs_zero]; simp⟩
set_option maxHeartbeats 8000000 in
theorem lawfparse_any (s : ByteArray) (W : World) (hs : s.size ≤ maxLen) (hT : Tab W) (hC : Cutl W) :
    Calls Tryd.prog 4 #[.string s] W fun e w' => e = .returned (.bool true) ∧ Below W.heap.size W w' := by
  have hs63 := hs
  unfold maxLen at hs63
  have V0 := Lib.hid (LiveA.start W)
  have HT := Lib.hid hT
  have HC := Lib.hid hC
  clear hT hC
  by_cases hbig : 1700 < s.size
  · clear hs
    go_enter Tryd.func4, Tryd.ntmps4
    go_wp2_with fail
    refine (awake_any _ (HT.out.below V0.out.2.2) (HC.out.below V0.out.2.2)).mono ?_
    rintro e w1 ⟨rfl, b1⟩
    have V1 := Lib.hid (V0.out.go b1)
    clear b1
    go_wp2_with fail
    refine (awake_any _ (HT.out.below V1.out.2.2) (HC.out.below V1.out.2.2)).mono ?_
    rintro e w2 ⟨rfl, b2⟩
    have V2 := Lib.hid (V1.out.go b2)
    clear b2
    go_wp2_with fail
    go_ret
    exact ⟨rfl, V2.out.2.2⟩
  · have hs17 : s.size ≤ 1700 := by omega
    obtain ⟨l, hl⟩ : ∃ l, s.data.toList = l := ⟨_, rfl⟩
    have HSL := Lib.hid hl
    by_cases hg : fgood l
    · have HV := Lib.hid hg.2.2
      have HTX := Lib.hid (show (⟨(ftext (negOf l) (decV (numOf l)) (decV (denOf l))).toArray⟩ : ByteArray) = s by
        rw [text_back l hg.1 hg.2.1, ← hl, Array.toArray_toList])
      have HP1 := Lib.hid (fun (w : World) (h : Cutl w) => show Calls Tryd.prog 11 #[.string s] w (FrOk (negOf l) (decV (numOf l)) (decV (denOf l)) w) from (fparse_any l s w hl hs17 h).mono fun e w' h => by
        rcases h with h | h
        · exact h.2
        · exact absurd hg h.1)
      have HP2 := Lib.hid (fun (w : World) => show Calls Tryd.prog 13 #[.string s] w (FrOk (negOf l) (decV (numOf l)) (decV (denOf l)) w) from (rfparse_any l s w hl hs17).mono fun e w' h => by
        rcases h with h | h
        · exact h.2
        · exact absurd hg h.1)
      obtain ⟨p, hp⟩ : ∃ p, decV (numOf l) = p := ⟨_, rfl⟩
      obtain ⟨q, hq⟩ : ∃ q, decV (denOf l) = q := ⟨_, rfl⟩
      obtain ⟨sb, hsb⟩ : ∃ b, negOf l = b := ⟨_, rfl⟩
      rw [hp, hq, hsb] at HV HTX HP1 HP2
      clear hs hg hl hp hq hsb HSL
      go_enter Tryd.func4, Tryd.ntmps4
      go_wp2_with fail
      refine (awake_any _ (HT.out.below V0.out.2.2) (HC.out.below V0.out.2.2)).mono ?_
      rintro e w1 ⟨rfl, b1⟩
      have V1 := Lib.hid (V0.out.go b1)
      clear b1
      go_wp2_with fail
      refine (HP1.out _ (HC.out.below V1.out.2.2)).mono ?_
      rintro e w2 ⟨Ap, cp, kp, Aq, cq, kq, rfl, n2, m2, b2⟩
      have U2 := Lib.hid (((V1.out.go b2).num m2).num n2)
      clear n2 m2 b2
      have V2 := Lib.hid (U2.out.newF (.bool sb) (.slice Ap kp cp) (.slice Aq kq cq) 26)
      go_wp2_with fail
      refine (HP2.out _).mono ?_
      rintro e w3 ⟨Ar, cr, kr, At, ct, kt, rfl, n3, m3, b3⟩
      have U3 := Lib.hid (((V2.out.go b3).num m3).num n3)
      clear n3 m3 b3
      obtain ⟨x3_x2, y3_x2⟩ := U3.out.box (.head _)
      obtain ⟨x3_x1, y3_x1⟩ := U3.out.box (.tail _ (.head _))
      obtain ⟨x3_x0, y3_x0⟩ := U3.out.box (.tail _ (.tail _ (.head _)))
      have V3 := Lib.hid (U3.out.newF (.bool sb) (.slice Ar kr cr) (.slice At kt ct) 26)
      go_wp2_with fail
      refine (same03_t sb kp cp kq cq kr cr kt ct _ _ _ _ Ap Aq Ar At _ (V3.out.at (.tail _ (.tail _ (.head _)))) (V3.out.at (.tail _ (.tail _ (.tail _ (.head _))))) (V3.out.at (.head _)) (V3.out.at (.tail _ (.head _))) rfl rfl).mono ?_
      rintro e w4 ⟨rfl, b4⟩
      clear x3_x2 y3_x2 x3_x1 y3_x1 x3_x0 y3_x0
      have V4 := Lib.hid (V3.out.go b4)
      clear b4
      obtain ⟨x4_x2, y4_x2⟩ := V4.out.box (.tail _ (.tail _ (.tail _ (.head _))))
      obtain ⟨x4_x1, y4_x1⟩ := V4.out.box (.tail _ (.tail _ (.tail _ (.tail _ (.head _)))))
      obtain ⟨x4_x0, y4_x0⟩ := V4.out.box (.tail _ (.tail _ (.tail _ (.tail _ (.tail _ (.head _))))))
      obtain ⟨x4_y2, y4_y2⟩ := V4.out.box (.head _)
      obtain ⟨x4_y1, y4_y1⟩ := V4.out.box (.tail _ (.head _))
      obtain ⟨x4_y0, y4_y0⟩ := V4.out.box (.tail _ (.tail _ (.head _)))
      go_wp2_with fail
      refine (fmt_is s sb kp cp kq cq _ _ Ap Aq _ (V4.out.at (.tail _ (.tail _ (.head _)))) (V4.out.at (.tail _ (.tail _ (.tail _ (.head _))))) HV.out (HT.out.below V4.out.2.2) HTX.out).mono ?_
      rintro e w5 ⟨rfl, b5⟩
      clear x4_x2 y4_x2 x4_x1 y4_x1 x4_x0 y4_x0 x4_y2 y4_y2 x4_y1 y4_y1 x4_y0 y4_y0
      have V5 := Lib.hid (V4.out.go b5)
      clear b5
      obtain ⟨x5_x2, y5_x2⟩ := V5.out.box (.tail _ (.tail _ (.tail _ (.head _))))
      obtain ⟨x5_x1, y5_x1⟩ := V5.out.box (.tail _ (.tail _ (.tail _ (.tail _ (.head _)))))
      obtain ⟨x5_x0, y5_x0⟩ := V5.out.box (.tail _ (.tail _ (.tail _ (.tail _ (.tail _ (.head _))))))
      obtain ⟨x5_y2, y5_y2⟩ := V5.out.box (.head _)
      obtain ⟨x5_y1, y5_y1⟩ := V5.out.box (.tail _ (.head _))
      obtain ⟨x5_y0, y5_y0⟩ := V5.out.box (.tail _ (.tail _ (.head _)))
      go_wp2_with fail
      refine (fvalid_t sb kp cp kq cq _ _ Ap Aq _ (V5.out.at (.tail _ (.tail _ (.head _)))) (V5.out.at (.tail _ (.tail _ (.tail _ (.head _))))) HV.out).mono ?_
      rintro e w6 ⟨rfl, b6⟩
      clear x5_x2 y5_x2 x5_x1 y5_x1 x5_x0 y5_x0 x5_y2 y5_y2 x5_y1 y5_y1 x5_y0 y5_y0
      have V6 := Lib.hid (V5.out.go b6)
      clear b6
      go_wp2_with fail
      go_ret
      exact ⟨rfl, V6.out.2.2⟩
    · have HP1 := Lib.hid (fun (w : World) (h : Cutl w) => show Calls Tryd.prog 11 #[.string s] w (FrErr 2 w) from (fparse_any l s w hl hs17 h).mono fun e w' h => by
        rcases h with h | h
        · exact absurd h.1 hg
        · exact h.2)
      have HP2 := Lib.hid (fun (w : World) => show Calls Tryd.prog 13 #[.string s] w (FrErr 2 w) from (rfparse_any l s w hl hs17).mono fun e w' h => by
        rcases h with h | h
        · exact absurd h.1 hg
        · exact h.2)
      clear hs hg hl HSL
      go_enter Tryd.func4, Tryd.ntmps4
      go_wp2_with fail
      refine (awake_any _ (HT.out.below V0.out.2.2) (HC.out.below V0.out.2.2)).mono ?_
      rintro e w1 ⟨rfl, b1⟩
      have V1 := Lib.hid (V0.out.go b1)
      clear b1
      go_wp2_with fail
      refine (HP1.out _ (HC.out.below V1.out.2.2)).mono ?_
      rintro e w2 ⟨rfl, b2⟩
      have U2 := Lib.hid (V1.out.go b2)
      clear b2
      have V2 := Lib.hid (U2.out.newF (.bool false) (.slice none 0 0) (.slice none 0 0) 26)
      go_wp2_with fail
      refine (HP2.out _).mono ?_
      rintro e w3 ⟨rfl, b3⟩
      have U3 := Lib.hid (V2.out.go b3)
      clear b3
      obtain ⟨x3_x2, y3_x2⟩ := U3.out.box (.head _)
      obtain ⟨x3_x1, y3_x1⟩ := U3.out.box (.tail _ (.head _))
      obtain ⟨x3_x0, y3_x0⟩ := U3.out.box (.tail _ (.tail _ (.head _)))
      have V3 := Lib.hid (U3.out.newF (.bool false) (.slice none 0 0) (.slice none 0 0) 26)
      go_wp2_with fail
      refine (same03_t false 0 0 0 0 0 0 0 0 0 0 0 0 none none none none _ (nil_num _) (nil_num _) (nil_num _) (nil_num _) rfl rfl).mono ?_
      rintro e w4 ⟨rfl, b4⟩
      clear x3_x2 y3_x2 x3_x1 y3_x1 x3_x0 y3_x0
      have V4 := Lib.hid (V3.out.go b4)
      clear b4
      obtain ⟨x4_x2, y4_x2⟩ := V4.out.box (.tail _ (.tail _ (.tail _ (.head _))))
      obtain ⟨x4_x1, y4_x1⟩ := V4.out.box (.tail _ (.tail _ (.tail _ (.tail _ (.head _)))))
      obtain ⟨x4_x0, y4_x0⟩ := V4.out.box (.tail _ (.tail _ (.tail _ (.tail _ (.tail _ (.head _))))))
      obtain ⟨x4_y2, y4_y2⟩ := V4.out.box (.head _)
      obtain ⟨x4_y1, y4_y1⟩ := V4.out.box (.tail _ (.head _))
      obtain ⟨x4_y0, y4_y0⟩ := V4.out.box (.tail _ (.tail _ (.head _)))
      go_wp2_with fail
      refine (same03_t false 0 0 0 0 0 0 0 0 0 0 0 0 none none none none _ (nil_num _) (nil_num _) (nil_num _) (nil_num _) rfl rfl).mono ?_
      rintro e w5 ⟨rfl, b5⟩
      clear x4_x2 y4_x2 x4_x1 y4_x1 x4_x0 y4_x0 x4_y2 y4_y2 x4_y1 y4_y1 x4_y0 y4_y0
      have V5 := Lib.hid (V4.out.go b5)
      clear b5
      go_wp2_with fail
      go_ret
      exact ⟨rfl, V5.out.2.2⟩
end Go.Proofs.YtielpkpalfnfgaaDoor
