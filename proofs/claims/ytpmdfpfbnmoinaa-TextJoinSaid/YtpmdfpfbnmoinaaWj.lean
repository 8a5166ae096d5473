/- Contracts of the reference's All and Word. -/
import Derived.Test.YtpmdfpfbnmoinaaWi
import Derived.Deep.RegionHeld3
namespace Go.Proofs.Ytpmdfpfbnmoinaa
open Go.RowKit
set_option linter.unusedVariables false

theorem Try.infoString : (Try.prog.info? 9).map (fun i => (i.zero, i.size, i.bytes)) = some (some (.string ⟨#[]⟩), 1, 16) := by kernel_rfl
theorem own_below {w w' : World} {base z n : Nat} {t : TypeId} {v : Value} {xs : List Value} (h : w.ownsRow base t z v n xs) (hb : Below w.heap.size w w') : w'.ownsRow base t z v n xs :=
  h.kept (row := none) ⟨hb.os, hb.tape, hb.output, hb.size, fun k hk _ => hb.block k hk⟩ (by
    cases e : v.ownBlock with
    | none => exact .inl rfl
    | some k => exact .inr (by simp))
def wordsB (s : ByteArray) (k : Nat) : List Value := (List.range k).map (fun j => Value.string (wordB s j))
theorem wordsB_succ (s : ByteArray) (k : Nat) : wordsB s (k + 1) = wordsB s k ++ [.string (wordB s k)] := by simp [wordsB, List.range_succ]
theorem wordsB_len (s : ByteArray) (k : Nat) : (wordsB s k).length = k := by simp [wordsB]
def wcount (s : ByteArray) : Nat := (spansOf s.data.toList).length
def AllPost (s : ByteArray) (w : World) (e : Ending) (w' : World) : Prop :=
  ∃ A c, e = .returned (.tuple #[.slice A (wcount s) c, .int .i64 (vErr s.data.toList)]) ∧ w'.ownsRow w.heap.size 9 1 (.slice A (wcount s) c) (wcount s) (wordsB s (wcount s)) ∧ Below w.heap.size w w'
theorem all_err {s : ByteArray} {w w' : World} {x : Int} (hx : vErr s.data.toList = x) (h : x ≠ 0) (hb : Below w.heap.size w w') : AllPost s w (.returned (.tuple #[.slice none 0 0, .int .i64 x])) w' := by
  subst hx
  have e : wcount s = 0 := by unfold wcount; rw [spansOf_err h]; rfl
  exact ⟨none, 0, by rw [e], by rw [e]; exact World.ownsRow_nil _ _ _ _, hb⟩
theorem all_ok {s : ByteArray} {w w' : World} {v : Value} (h : vErr s.data.toList = 0) (hown : w'.ownsRow w.heap.size 9 1 v (wcount s) (wordsB s (wcount s))) (hb : Below w.heap.size w w') : AllPost s w (.returned (.tuple #[v, .int .i64 0])) w' := by
  obtain ⟨A, c, rfl⟩ := own_slice hown
  exact ⟨A, c, by rw [h], hown, hb⟩
theorem one_str (s : ByteArray) : ∀ u ∈ [Value.string s], u.oneCell' = true := by
  intro u hu; simp at hu; subst hu; rfl
theorem new_one (w : World) (t : TypeId) (x : Value) : ∀ (j : Nat) (u : Value), [x][j]? = some u → (w.alloc (.cells #[x] t)).cell? ((⟨w.heap.size, 0, none⟩ : Addr).add j) = some u := by
  intro j u hj
  match j, hj with
  | 0, hj => simp at hj; subst hj; simp [Addr.add]
theorem rfold_cut (s : ByteArray) (a b : Nat) (w : World) (h : s.size ≤ 120) :
    Calls Try.prog 18 #[.string (s.extract a b)] w fun e w' => e = .returned (.string ⟨(foldL (List.take (b - a) (List.drop a s.data.toList))).toArray⟩) ∧ Below w.heap.size w w' := by
  have := rfold_any (s.extract a b) w (by rw [ByteArray.size_extract]; omega)
  simpa using this

theorem keep2 {W w3 : World} {g o1 o2 : Nat} {v1 v2 : Value} (hb : Below W.heap.size W w3) (hg : g < W.heap.size)
    (h : W.cell? ⟨g, o1, none⟩ = some v1 ∧ W.cell? ⟨g, o2, none⟩ = some v2) : w3.cell? ⟨g, o1, none⟩ = some v1 ∧ w3.cell? ⟨g, o2, none⟩ = some v2 :=
  ⟨(hb.cell (p := ⟨g, o1, none⟩) hg).trans h.1, (hb.cell (p := ⟨g, o2, none⟩) hg).trans h.2⟩
theorem keepA {W w3 : World} {B g o1 o2 : Nat} {r : Option Nat} {v1 v2 : Value} (hb : W.grownBy w3 r) (hr : ∀ x, r = some x → B ≤ x) (hg : g < B) (hg2 : g < W.heap.size)
    (h : W.cell? ⟨g, o1, none⟩ = some v1 ∧ W.cell? ⟨g, o2, none⟩ = some v2) : w3.cell? ⟨g, o1, none⟩ = some v1 ∧ w3.cell? ⟨g, o2, none⟩ = some v2 :=
  ⟨(hb.cell_far ⟨g, o1, none⟩ hg2 (fun e => by have := hr _ e.symm; simp at this; omega)).trans h.1, (hb.cell_far ⟨g, o2, none⟩ hg2 (fun e => by have := hr _ e.symm; simp at this; omega)).trans h.2⟩
theorem keepC {W : World} {g o1 o2 : Nat} {v1 v2 : Value} {o : Obj} (h : W.cell? ⟨g, o1, none⟩ = some v1 ∧ W.cell? ⟨g, o2, none⟩ = some v2) (hg : g < W.heap.size) : (W.alloc o).cell? ⟨g, o1, none⟩ = some v1 ∧ (W.alloc o).cell? ⟨g, o2, none⟩ = some v2 :=
  ⟨(World.cell?_alloc_lt W o ⟨g, o1, none⟩ hg).trans h.1, (World.cell?_alloc_lt W o ⟨g, o2, none⟩ hg).trans h.2⟩
theorem all_below {w1 wr w3 w4 : World} {o : Obj} {r : Option Nat} (h1 : Below w1.heap.size w1 wr) (h2 : Below wr.drew.heap.size wr.drew w3) (h3 : (w3.alloc o).grownBy w4 r) (h4 : ∀ x, r = some x → w1.heap.size ≤ x) : Below w1.heap.size w1 w4 := by
  have h5 : Below w1.heap.size w1 w3 := h1.drew.trans (h2.mono h1.size)
  exact (h5.alloc h5.size o).grown h3 (by have := h5.size; simp; omega) h4
theorem ownsRow_base {w : World} {base base' z n : Nat} {t : TypeId} {v : Value} {xs : List Value} (h : w.ownsRow base t z v n xs) (hb : base' ≤ base) : w.ownsRow base' t z v n xs := by
  refine ⟨h.1, ?_⟩
  rcases h.2 with h' | ⟨g, cap, cur, h1, h2, h3⟩
  · exact .inl h'
  · exact .inr ⟨g, cap, cur, h1, Nat.le_trans hb h2, h3⟩
set_option maxHeartbeats 1000000 in
theorem rall_ok (s : ByteArray) (w : World) (hs : s.size ≤ maxLen) (h0 : vErr s.data.toList = 0) :
    Calls Try.prog 28 #[.string s] w (AllPost s w) := by
  have h120 : s.size ≤ 120 := by have := vErr_small h0; rw [sizeB] at this; exact this
  obtain ⟨n, hn⟩ : ∃ n, n = wcount s := ⟨_, rfl⟩
  have hn3 : n ≤ 121 := by
    rw [hn]; unfold wcount; rw [spansOf_ok h0, sizeB]; have := (wst_le (fAt s.data.toList) (s.size + 1)).2; omega
  have H0 := Lib.hid h0
  have HN := Lib.hid hn
  have HN2 := Lib.hid (show n = (spansOf s.data.toList).length from hn)
  clear h0 hn
  obtain ⟨i0, hi, hz0, hz1, hz2⟩ := info_parts Try.infoString
  go_enter Try.func28, Try.ntmps28
  go_wp2_with fail
  refine (rwords_any s _ hs).mono ?_
  rintro e w1 ⟨A, c, rfl, hsp, hb1⟩
  rw [H0.out, ← HN2.out]
  have HS := Lib.hid (SpansAt.reads hsp)
  have HB1 := Lib.hid hb1
  clear hsp
  go_wp2
  go_loopw [6, 7] (fun v i wr => ∃ k : Nat, k ≤ n ∧ i = .int .i64 (k : Int) ∧ wr.ownsRow w1.heap.size 9 1 v k (wordsB s k) ∧ Below w1.heap.size w1 wr) (fun _ i _ => n - (intOf i).toNat)
  case atStart => exact ⟨0, Nat.zero_le _, rfl, World.ownsRow_nil _ _ _ _, Below.refl _ _⟩
  case round =>
    obtain ⟨k, hk, rfl, hown, hbr⟩ := hrel
    have HO := Lib.hid hown
    have HBR := Lib.hid hbr
    by_cases hlt : k < n
    · have hkL : k < (spansOf s.data.toList).length := by rw [← HN2.out]; exact hlt
      obtain ⟨g, rfl, hg, hcc⟩ := HS.out (by omega)
      obtain ⟨c1', c2'⟩ := hcc k hkL
      have c1 := (hbr.cell (p := ⟨g, k * 2, none⟩) hg).trans c1'
      have c2 := (hbr.cell (p := ⟨g, k * 2 + 1, none⟩) hg).trans c2'
      have hgr : g < wr.heap.size := Nat.lt_of_lt_of_le hg hbr.size
      have HNE := Lib.hid (show ∀ x, u6.ownBlock = some x → w1.heap.size ≤ x from fun x hx => (hown.lt x hx).1)
      have hsz1 : w1.heap.size ≤ wr.heap.size := hbr.size
      clear c1' c2'
      obtain ⟨p1, p2⟩ := span_in hkL
      obtain ⟨a, ha⟩ : ∃ a, a = (sp (spansOf s.data.toList) k).1 := ⟨_, rfl⟩
      obtain ⟨b, hbb⟩ : ∃ b, b = (sp (spansOf s.data.toList) k).2 := ⟨_, rfl⟩
      rw [← ha] at c1 p1
      rw [← hbb] at c2 p1 p2
      have hw : wordB s k = ⟨(foldL (List.take (b - a) (List.drop a s.data.toList))).toArray⟩ := by unfold wordB wordL cutL; rw [← ha, ← hbb]
      have HW := Lib.hid hw
      have i1 : (0 : Int) ≤ (a : Int) := by omega
      have i2 : (a : Int) ≤ (b : Int) := by omega
      have i3 : (b : Int) ≤ (s.size : Int) := by omega
      have j1 : (0 : Int) ≤ (k : Int) := by omega
      have j2 : (k : Int) < (n : Int) := by omega
      clear hcc ha hbb hw hkL hown hbr hb1
      go_wp2
      go_region_held3 (fun w' => w'.cell? ⟨g, k * 2, none⟩ = some (.int .i64 (a : Int)) ∧ w'.cell? ⟨g, k * 2 + 1, none⟩ = some (.int .i64 (b : Int))) (first | (exact ⟨c1, c2⟩) | (exact keep2 hb3 hgr (by assumption)) | (have hq := hb3.size; have hq2 : g < w3.heap.size := Nat.lt_of_lt_of_le hgr hq; exact keepA hgrow HNE.out hg (by simp; omega) (by first | assumption | exact keepC (by assumption) hq2)) | go_keep)
        (first | (go_at_call 18; (with_reducible refine (rfold_cut _ _ _ _ (by assumption)).mono ?_); rintro e w3 ⟨rfl, hb3⟩) | (refine step_append_lies _ (by rfl) _ _ _ (by rfl) w1.heap.size 9 i0 _ 1 16 Try.underlying36 hi hz0 hz1 hz2 rfl (by omega) _ k (wordsB s k) (by rfl) ((own_below HO.out.drew hb3).alloc _) ⟨w3.heap.size, 0, none⟩ 1 1 [.string _] (by rfl) (by rfl) (new_one _ _ _) (one_str _) (by omega) (by unfold maxLen; omega) (by omega) (by have := hb3.size; simp at this ⊢; omega) (w3.heap.size + 1) (by simp) ?_; intro gg cap w4 hown4 hgrow hat hlt4))
      go_wp2
      go_roundw
      case rel => exact ⟨k + 1, by omega, by go_num, by rw [wordsB_succ, HW.out]; exact hown4, all_below HBR.out hb3 hgrow HNE.out⟩
      case measure => simp [intOf]; omega
    · have hkn : k = wcount s := by rw [← HN.out]; omega
      have R := Lib.hid (all_ok (s := s) (w := w) H0.out (by rw [← hkn]; exact ownsRow_base HO.out HB1.out.size) (btwo HB1.out HBR.out))
      clear hkn hown hbr hb1
      go_wp2
      go_ret2
      exact R.out

set_option maxHeartbeats 1000000 in
theorem rall_any (s : ByteArray) (w : World) (hs : s.size ≤ maxLen) :
    Calls Try.prog 28 #[.string s] w (AllPost s w) := by
  rcases vErr_val s.data.toList with h0 | h0 | h0
  · exact rall_ok s w hs h0
  all_goals
    have H0 := Lib.hid h0
    clear h0
    go_enter Try.func28, Try.ntmps28
    go_wp2_with fail
    refine (rwords_any s _ hs).mono ?_
    rintro e w1 ⟨A, c, rfl, hsp, hb1⟩
    rw [H0.out]
    clear hsp
    go_wp2
    go_ret2
    exact all_err H0.out (by omega) hb1
end Go.Proofs.Ytpmdfpfbnmoinaa
