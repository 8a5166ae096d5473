/- Contract of text.Same: it compares the folded words of two lines. -/
import Derived.Test.YtpmdfpfbnmoinaaDoorWg
namespace Go.Proofs.YtpmdfpfbnmoinaaDoor
open Go.RowKit
set_option linter.unusedVariables false

def wordsL (l : List UInt8) : List (List UInt8) := (List.range (spansOf l).length).map (wordL l)
def sameL (l m : List UInt8) : Bool := decide (vErr l = 0 ∧ vErr m = 0 ∧ wordsL l = wordsL m)
def SamePost (s t : ByteArray) (w : World) (e : Ending) (w' : World) : Prop := e = .returned (.bool (sameL s.data.toList t.data.toList)) ∧ Below w.heap.size w w'
theorem wordsL_len (l : List UInt8) : (wordsL l).length = (spansOf l).length := by simp [wordsL]
theorem sameL_err1 {l m : List UInt8} (h : vErr l ≠ 0) : sameL l m = false := decide_eq_false (fun e => h e.1)
theorem sameL_err2 {l m : List UInt8} (h : vErr m ≠ 0) : sameL l m = false := decide_eq_false (fun e => h e.2.1)
theorem sameL_len {l m : List UInt8} (h : (spansOf l).length ≠ (spansOf m).length) : sameL l m = false := decide_eq_false (fun e => h (by rw [← wordsL_len, ← wordsL_len, e.2.2]))
theorem wordsL_at {l : List UInt8} {k : Nat} (h : k < (spansOf l).length) : (wordsL l)[k]? = some (wordL l k) := by unfold wordsL; simp [h]
theorem sameL_ne {l m : List UInt8} {k : Nat} (hl : k < (spansOf l).length) (hm : k < (spansOf m).length) (h : wordL l k ≠ wordL m k) : sameL l m = false := by
  refine decide_eq_false (fun e => h ?_)
  have h1 := wordsL_at hl
  rw [e.2.2, wordsL_at hm] at h1
  exact (Option.some.inj h1).symm
theorem sameL_yes {l m : List UInt8} (h0 : vErr l = 0) (h1 : vErr m = 0) (hlen : (spansOf l).length = (spansOf m).length) (h : ∀ k, k < (spansOf l).length → wordL l k = wordL m k) : sameL l m = true := by
  refine decide_eq_true ⟨h0, h1, ?_⟩
  unfold wordsL
  rw [← hlen]
  exact List.map_congr_left (fun k hk => h k (by simpa using hk))
theorem same_post {s t : ByteArray} {w w' : World} {x : Bool} (h : sameL s.data.toList t.data.toList = x) (hb : Below w.heap.size w w') : SamePost s t w (.returned (.bool x)) w' := ⟨by rw [h], hb⟩
theorem btwo {w w1 w2 : World} (h : Below w.heap.size w w1) (h2 : Below w1.heap.size w1 w2) : Below w.heap.size w w2 := h.trans (h2.mono h.size)

theorem keep5 {wr W w3 : World} {g g' o1 o2 o3 o4 : Nat} {v1 v2 v3 v4 : Value} (hb : Below W.heap.size W w3) (hg : g < wr.heap.size) (hg' : g' < wr.heap.size)
    (h : Below wr.heap.size wr W ∧ W.cell? ⟨g, o1, none⟩ = some v1 ∧ W.cell? ⟨g, o2, none⟩ = some v2 ∧ W.cell? ⟨g', o3, none⟩ = some v3 ∧ W.cell? ⟨g', o4, none⟩ = some v4) :
    Below wr.heap.size wr w3 ∧ w3.cell? ⟨g, o1, none⟩ = some v1 ∧ w3.cell? ⟨g, o2, none⟩ = some v2 ∧ w3.cell? ⟨g', o3, none⟩ = some v3 ∧ w3.cell? ⟨g', o4, none⟩ = some v4 := by
  have l1 : g < W.heap.size := Nat.lt_of_lt_of_le hg h.1.size
  have l2 : g' < W.heap.size := Nat.lt_of_lt_of_le hg' h.1.size
  exact ⟨btwo h.1 hb, (hb.cell (p := ⟨g, o1, none⟩) l1).trans h.2.1, (hb.cell (p := ⟨g, o2, none⟩) l1).trans h.2.2.1, (hb.cell (p := ⟨g', o3, none⟩) l2).trans h.2.2.2.1, (hb.cell (p := ⟨g', o4, none⟩) l2).trans h.2.2.2.2⟩
set_option maxHeartbeats 1000000 in
theorem tsame_ok (s t : ByteArray) (w : World) (hs : s.size ≤ maxLen) (ht : t.size ≤ maxLen) (h0 : vErr s.data.toList = 0) (h1 : vErr t.data.toList = 0) (hlen : (spansOf s.data.toList).length = (spansOf t.data.toList).length) :
    Calls Tryd.prog 19 #[.string s, .string t] w (SamePost s t w) := by
  have hs120 : s.size ≤ 120 := by have := vErr_small h0; rw [sizeB] at this; exact this
  have ht120 : t.size ≤ 120 := by have := vErr_small h1; rw [sizeB] at this; exact this
  obtain ⟨n, hn⟩ : ∃ n, n = (spansOf s.data.toList).length := ⟨_, rfl⟩
  have hn2 : n = (spansOf t.data.toList).length := hn.trans hlen
  have hn3 : n ≤ 121 := by
    rw [hn, spansOf_ok h0, sizeB]; have := (wst_le (fAt s.data.toList) (s.size + 1)).2; omega
  have H0 := Lib.hid h0
  have H1 := Lib.hid h1
  have HN := Lib.hid hn
  have HN2 := Lib.hid hn2
  clear h0 h1 hlen hn hn2
  go_enter Tryd.func19, Tryd.ntmps19
  go_wp2_with fail
  refine (twords_any s _ hs).mono ?_
  rintro e w1 ⟨A, c, rfl, hspA, hb1⟩
  rw [H0.out, ← HN.out]
  have HB1 := Lib.hid hb1
  have HA1 := Lib.hid (SpansAt.reads hspA)
  clear hb1 hspA
  go_wp2_with fail
  refine (twords_any t _ ht).mono ?_
  rintro e w2 ⟨C, d, rfl, hspB, hb2⟩
  rw [H1.out, ← HN2.out]
  have HB2 := Lib.hid hb2
  have HA2 := Lib.hid (SpansIn.below HA1.out hb2)
  have HC2 := Lib.hid (SpansAt.reads hspB)
  clear hb2 hspB
  go_wp2
  go_loopw [35] (fun i wr => ∃ k : Nat, k ≤ n ∧ i = .int .i64 (k : Int) ∧ Below w2.heap.size w2 wr ∧ ∀ j, j < k → wordL s.data.toList j = wordL t.data.toList j) (fun i _ => n - (intOf i).toNat)
  case atStart => exact ⟨0, Nat.zero_le _, rfl, Below.refl _ _, fun j hj => by omega⟩
  case round =>
    obtain ⟨k, hk, rfl, hbr, hall⟩ := hrel
    have HBR := Lib.hid hbr
    have HALL := Lib.hid hall
    clear hbr hall
    by_cases hlt : k < n
    · have hkL : k < (spansOf s.data.toList).length := by rw [← HN.out]; exact hlt
      have hkM : k < (spansOf t.data.toList).length := by rw [← HN2.out]; exact hlt
      obtain ⟨g, rfl, hg, hcc⟩ := (SpansIn.below HA2.out HBR.out) (by omega)
      obtain ⟨c1, c2⟩ := hcc k hkL
      obtain ⟨g', rfl, hg', hcc'⟩ := (SpansIn.below HC2.out HBR.out) (by omega)
      obtain ⟨c3, c4⟩ := hcc' k hkM
      obtain ⟨p1, p2⟩ := span_in hkL
      obtain ⟨p3, p4⟩ := span_in hkM
      have HKL := Lib.hid hkL
      have HKM := Lib.hid hkM
      obtain ⟨a1, ha1⟩ : ∃ a, a = (sp (spansOf s.data.toList) k).1 := ⟨_, rfl⟩
      obtain ⟨b1, hb1⟩ : ∃ a, a = (sp (spansOf s.data.toList) k).2 := ⟨_, rfl⟩
      obtain ⟨a2, ha2⟩ : ∃ a, a = (sp (spansOf t.data.toList) k).1 := ⟨_, rfl⟩
      obtain ⟨b2, hb2⟩ : ∃ a, a = (sp (spansOf t.data.toList) k).2 := ⟨_, rfl⟩
      rw [← ha1] at c1 p1
      rw [← hb1] at c2 p1 p2
      rw [← ha2] at c3 p3
      rw [← hb2] at c4 p3 p4
      have hw1 : wordL s.data.toList k = foldL (List.take (b1 - a1) (List.drop a1 s.data.toList)) := by unfold wordL cutL; rw [← ha1, ← hb1]
      have hw2 : wordL t.data.toList k = foldL (List.take (b2 - a2) (List.drop a2 t.data.toList)) := by unfold wordL cutL; rw [← ha2, ← hb2]
      have HW1 := Lib.hid hw1
      have HW2 := Lib.hid hw2
      have i1 : (0 : Int) ≤ (a1 : Int) := by omega
      have i2 : (a1 : Int) ≤ (b1 : Int) := by omega
      have i3 : (b1 : Int) ≤ (s.size : Int) := by omega
      have i4 : (0 : Int) ≤ (a2 : Int) := by omega
      have i5 : (a2 : Int) ≤ (b2 : Int) := by omega
      have i6 : (b2 : Int) ≤ (t.size : Int) := by omega
      have j1 : (0 : Int) ≤ (k : Int) := by omega
      have j2 : (k : Int) < (n : Int) := by omega
      clear hcc hcc' ha1 hb1 ha2 hb2 hw1 hw2 hkL hkM
      go_wp2
      go_region_held3 (fun w' => Below wr.heap.size wr w' ∧ w'.cell? ⟨g, k * 2, none⟩ = some (.int .i64 (a1 : Int)) ∧ w'.cell? ⟨g, k * 2 + 1, none⟩ = some (.int .i64 (b1 : Int)) ∧ w'.cell? ⟨g', k * 2, none⟩ = some (.int .i64 (a2 : Int)) ∧ w'.cell? ⟨g', k * 2 + 1, none⟩ = some (.int .i64 (b2 : Int))) (first | (exact ⟨(Below.refl _ _).drew, c1, c2, c3, c4⟩) | (exact keep5 hb3 hg hg' (by assumption)) | go_keep)
        (first | (go_at_call 37; (with_reducible refine (tfold_cut _ _ _ _ (by assumption)).mono ?_); rintro e w3 ⟨rfl, hb3⟩))
      go_wp2
      · have ht : (!foldL (List.take (b1 - a1) (List.drop a1 s.data.toList)) == foldL (List.take (b2 - a2) (List.drop a2 t.data.toList))) = true := by assumption
        have HE := Lib.hid (sameL_ne HKL.out HKM.out (by rw [HW1.out, HW2.out]; simpa using ht))
        have hS : Below wr.heap.size wr w3 := by rename_i h _; exact h.1
        go_ret
        exact same_post HE.out (btwo (btwo HB1.out HB2.out) (btwo HBR.out hS))
      · have ht : (!foldL (List.take (b1 - a1) (List.drop a1 s.data.toList)) == foldL (List.take (b2 - a2) (List.drop a2 t.data.toList))) = false := by assumption
        have HE := Lib.hid (show wordL s.data.toList k = wordL t.data.toList k by rw [HW1.out, HW2.out]; simpa using ht)
        have hS : Below wr.heap.size wr w3 := by rename_i h _; exact h.1
        go_roundw
        case rel => exact ⟨k + 1, by omega, by go_num, btwo HBR.out hS, fun j hj => by
          by_cases e : j = k
          · subst e; exact HE.out
          · exact HALL.out j (by omega)⟩
        case measure => simp [intOf]; omega
    · have HE := Lib.hid (sameL_yes (l := s.data.toList) (m := t.data.toList) H0.out H1.out (by rw [← HN.out, ← HN2.out]) (fun j hj => HALL.out j (by rw [← HN.out] at hj; omega)))
      go_wp2
      go_ret
      exact same_post HE.out (btwo (btwo HB1.out HB2.out) HBR.out)

set_option maxHeartbeats 1000000 in
theorem tsame_len (s t : ByteArray) (w : World) (hs : s.size ≤ maxLen) (ht : t.size ≤ maxLen) (h0 : vErr s.data.toList = 0) (h1 : vErr t.data.toList = 0) (hlen : (spansOf s.data.toList).length ≠ (spansOf t.data.toList).length) :
    Calls Tryd.prog 19 #[.string s, .string t] w (SamePost s t w) := by
  have HE := Lib.hid (sameL_len hlen)
  have hne : (((spansOf s.data.toList).length : Int) != ((spansOf t.data.toList).length : Int)) = true := by simp; omega
  have hne2 : (((spansOf s.data.toList).length : Int) == ((spansOf t.data.toList).length : Int)) = false := by simp; omega
  have H0 := Lib.hid h0
  have H1 := Lib.hid h1
  clear h0 h1 hlen
  go_enter Tryd.func19, Tryd.ntmps19
  go_wp2_with fail
  refine (twords_any s _ hs).mono ?_
  rintro e w1 ⟨A, c, rfl, hspA, hb1⟩
  rw [H0.out]
  clear hspA
  go_wp2_with fail
  refine (twords_any t _ ht).mono ?_
  rintro e w2 ⟨C, d, rfl, hspB, hb2⟩
  rw [H1.out]
  clear hspB
  go_wp2
  go_ret
  exact same_post HE.out (btwo hb1 hb2)

set_option maxHeartbeats 1000000 in
theorem tsame_err (s t : ByteArray) (w : World) (hs : s.size ≤ maxLen) (ht : t.size ≤ maxLen) (x y : Int) (h0 : vErr s.data.toList = x) (h1 : vErr t.data.toList = y) (h : sameL s.data.toList t.data.toList = false) (hx : x = 0 ∨ x = 2 ∨ x = 3) (hy : y = 2 ∨ y = 3 ∨ (y = 0 ∧ x ≠ 0)) :
    Calls Tryd.prog 19 #[.string s, .string t] w (SamePost s t w) := by
  have HE := Lib.hid h
  have H0 := Lib.hid h0
  have H1 := Lib.hid h1
  clear h0 h1 h
  rcases hx with rfl | rfl | rfl <;> rcases hy with rfl | rfl | ⟨rfl, hxy⟩
  all_goals first
    | exact absurd rfl hxy
    | (go_enter Tryd.func19, Tryd.ntmps19
       go_wp2_with fail
       refine (twords_any s _ hs).mono ?_
       rintro e w1 ⟨A, c, rfl, hspA, hb1⟩
       rw [H0.out]
       clear hspA
       go_wp2_with fail
       refine (twords_any t _ ht).mono ?_
       rintro e w2 ⟨C, d, rfl, hspB, hb2⟩
       rw [H1.out]
       clear hspB
       go_wp2
       go_ret
       exact same_post HE.out (btwo hb1 hb2))

theorem tsame_any (s t : ByteArray) (w : World) (hs : s.size ≤ maxLen) (ht : t.size ≤ maxLen) : Calls Tryd.prog 19 #[.string s, .string t] w (SamePost s t w) := by
  by_cases h0 : vErr s.data.toList = 0
  · by_cases h1 : vErr t.data.toList = 0
    · by_cases hlen : (spansOf s.data.toList).length = (spansOf t.data.toList).length
      · exact tsame_ok s t w hs ht h0 h1 hlen
      · exact tsame_len s t w hs ht h0 h1 hlen
    · exact tsame_err s t w hs ht _ _ rfl rfl (sameL_err2 h1) (vErr_val _) (by rcases vErr_val t.data.toList with e | e | e; exact absurd e h1; exact .inl e; exact .inr (.inl e))
  · exact tsame_err s t w hs ht _ _ rfl rfl (sameL_err1 h0) (vErr_val _) (by rcases vErr_val t.data.toList with e | e | e; exact .inr (.inr ⟨e, h0⟩); exact .inl e; exact .inr (.inl e))
end Go.Proofs.YtpmdfpfbnmoinaaDoor
