/- Contracts of text.Lines and of the reference's Lines. -/
import Derived.Test.YtpmdfpfbnmoinaaDoorWt
import Derived.Test.YtpmdfpfbnmoinaaDoorShelfB
namespace Go.Proofs.YtpmdfpfbnmoinaaDoor
open Go.RowKit
set_option linter.unusedVariables false

def fOf (ls : List (List UInt8)) (i : Nat) : ByteArray := ⟨(ls[i]?.getD []).toArray⟩
theorem fOf_lists (ls : List (List UInt8)) : lsOf (fOf ls) ls.length = ls := by
  apply List.ext_getElem
  · rw [lsOf_len]
  · intro i h1 h2
    rw [lsOf_len] at h1
    rw [lsOf_at h1]
    unfold lists fOf
    rw [List.getElem?_eq_getElem h1]
    rfl
def LinesPost (l : List UInt8) (w : World) (e : Ending) (w' : World) : Prop :=
  ∃ A c, e = .returned (.tuple #[.slice A (linesVal l).1.length c, .int .i64 (linesVal l).2]) ∧ (linesVal l).1.length ≤ c ∧ StrArg w' A (linesVal l).1.length (fOf (linesVal l).1) ∧ Below w.heap.size w w'
theorem strArg_nil (w : World) (A : Option Addr) (f : Nat → ByteArray) : StrArg w A 0 f := ⟨fun i hi => by omega, fun h => by omega⟩
theorem lines_err {l : List UInt8} {w w' : World} {x : Int} (h : linesVal l = ([], x)) (hb : Below w.heap.size w w') : LinesPost l w (.returned (.tuple #[.slice none 0 0, .int .i64 x])) w' :=
  ⟨none, 0, by rw [h]; rfl, by rw [h]; exact Nat.le_refl _, by rw [h]; exact strArg_nil _ _ _, hb⟩
theorem lv_empty {l : List UInt8} (h : l = []) : linesVal l = ([], 0) := by unfold linesVal; rw [if_pos h]
theorem lv_last {l : List UInt8} (h : l ≠ []) (h1 : l.getLast? ≠ some 10) : linesVal l = ([], 2) := by unfold linesVal; rw [if_neg h, if_pos h1]
theorem lv_big {l : List UInt8} (h : l ≠ []) (h1 : l.getLast? = some 10) (h2 : 400 < (splitS l).1.length) : linesVal l = ([], 3) := by unfold linesVal; rw [if_neg h, if_neg (by simp [h1]), if_pos h2]
theorem lv_err {l : List UInt8} {x : Int} (h : l ≠ []) (h1 : l.getLast? = some 10) (h2 : ¬ 400 < (splitS l).1.length) (h3 : ferr (splitS l).1 = x) (h4 : x ≠ 0) : linesVal l = ([], x) := by
  unfold linesVal; rw [if_neg h, if_neg (by simp [h1]), if_neg h2, if_pos (by rw [h3]; exact h4), h3]
theorem lv_ok {l : List UInt8} (h : l ≠ []) (h1 : l.getLast? = some 10) (h2 : ¬ 400 < (splitS l).1.length) (h3 : ferr (splitS l).1 = 0) : linesVal l = ((splitS l).1, 0) := by
  unfold linesVal; rw [if_neg h, if_neg (by simp [h1]), if_neg h2, if_neg (by simp [h3])]
theorem suffix_one {l : List UInt8} : Lib.hasSuffix l [10] = decide (l.getLast? = some 10) := by
  unfold Lib.hasSuffix
  rw [Bool.eq_iff_iff]
  simp only [List.isSuffixOf_iff_suffix, decide_eq_true_eq]
  constructor
  · rintro ⟨t, rfl⟩; simp
  · intro h; exact ⟨l.dropLast, (split_end h).2.symm⟩
theorem trim_one {l : List UInt8} (h : l.getLast? = some 10) : Lib.trimSuffix l [10] = l.dropLast := by
  unfold Lib.trimSuffix
  rw [suffix_one, if_pos (by simpa using h)]
  conv => lhs; rw [(split_end h).2]
  simp
theorem count_lines {l : List UInt8} (h : l.getLast? = some 10) : l.count 10 = (splitS l).1.length := by
  have e := (split_end h).2
  have h1 : l.count 10 = l.dropLast.count 10 + 1 := by conv => lhs; rw [e]; simp
  have h2 : (splitS l).1 = splitL l.dropLast := by conv => lhs; rw [e, splitS_end]
  rw [h1, h2, splitL_len]
theorem split_drop {l : List UInt8} (h : l.getLast? = some 10) : (splitS l).1 = splitL l.dropLast := by
  conv => lhs; rw [(split_end h).2, splitS_end]
theorem splitL_small (l : List UInt8) : ∀ x ∈ splitL l, x.length ≤ l.length := by
  have h1 : ∀ (r : List (List UInt8)), ∀ x ∈ r, x.length ≤ (textL r).length := by
    intro r
    induction r with
    | nil => intro x hx; cases hx
    | cons y r ih =>
      intro x hx
      rw [textL_cons]
      rcases List.mem_cons.1 hx with rfl | hx
      · simp
      · have := ih x hx; simp; omega
  have h2 := text_split l
  have h3 : l.length = (textL (splitS l).1).length + (splitS l).2.length := by
    have := congrArg List.length h2
    rw [List.length_append] at this
    omega
  intro x hx
  unfold splitL at hx
  rcases List.mem_append.1 hx with hx | hx
  · have := h1 _ x hx; omega
  · rw [List.mem_singleton.1 hx]; omega
theorem split_row {d : ByteArray} {w : World} (hd : d.size ≤ 3000) :
    StrArg (w.alloc (.cells ((Lib.splitB (⟨#[10]⟩ : ByteArray) 0 (Lib.countB d ⟨#[10]⟩) d).map Value.string).toArray 9)) (some ⟨w.heap.size, 0, none⟩) (splitL d.data.toList).length (fOf (splitL d.data.toList)) := by
  have hm := splitB_map d
  generalize Lib.splitB (⟨#[10]⟩ : ByteArray) 0 (Lib.countB d ⟨#[10]⟩) d = bs at hm
  have hf : ∀ i, i < (splitL d.data.toList).length → bs[i]? = some (fOf (splitL d.data.toList) i) := by
    intro i hi
    rw [← hm] at hi
    have hi' : i < bs.length := by simpa using hi
    rw [List.getElem?_eq_getElem hi']
    unfold fOf
    rw [← hm, List.getElem?_map, List.getElem?_eq_getElem hi']
    rfl
  refine ⟨fun i hi => ?_, fun h0 => ⟨w.heap.size, 0, rfl, by simp, fun i hi => ?_⟩⟩
  · have h1 : (fOf (splitL d.data.toList) i).size = ((splitL d.data.toList)[i]'hi).length := by
      unfold fOf; rw [List.getElem?_eq_getElem hi]; rfl
    have h2 := splitL_small d.data.toList _ (List.getElem_mem hi)
    rw [h1]
    rw [sizeB] at h2
    omega
  · rw [Nat.zero_add, World.cell?_alloc_mark]
    simp [hf i hi]
theorem below_alloc (w : World) (o : Obj) : Below w.heap.size w (w.alloc o) := (Below.refl _ _).alloc (Nat.le_refl _) _

theorem lines_fine {l : List UInt8} {L M : List (List UInt8)} {w w' : World} {A : Option Addr} {n c : Nat} (h : linesVal l = (L, 0)) (h1 : L = M) (hn : n = M.length) (hS : StrArg w' A n (fOf M)) (hb : Below w.heap.size w w') (hc : n ≤ c := by omega) :
    LinesPost l w (.returned (.tuple #[.slice A n c, .int .i64 0])) w' := by
  subst h1; subst hn
  exact ⟨A, c, by rw [h], by rw [h]; exact hc, by rw [h]; exact hS, hb⟩
set_option maxHeartbeats 1000000 in
theorem tlines_any (s : ByteArray) (m : Int) (w : World) (hs : s.size ≤ 3000) (hm : w.cell? ⟨0, 0, none⟩ = some (.int .i64 m)) :
    Calls Tryd.prog 7 #[.string s] w (LinesPost s.data.toList w) := by
  by_cases hs0 : s.size = 0
  · have HE := Lib.hid (lv_empty (empty_of hs0))
    have hx1 : s.toList = [] := by rw [ByteArray.toList_eq]; exact empty_of hs0
    have hx2 : s.toList.isEmpty = true := by rw [hx1]; rfl
    clear hs0 hx1 hm
    go_enter Tryd.func7, Tryd.ntmps7
    go_wp2
    go_ret2
    exact lines_err HE.out (Below.refl _ _)
  · have hne : s.data.toList ≠ [] := nonempty_of hs0
    have hx2 : s.toList.isEmpty = false := by
      rw [ByteArray.toList_eq]
      cases e : s.data.toList with
      | nil => exact absurd e hne
      | cons => rfl
    by_cases hlast : s.data.toList.getLast? = some 10
    · have hsuf : Lib.hasSuffix s.data.toList [10] = true := by rw [suffix_one]; simpa using hlast
      have HSUF := Lib.hid hsuf
      have hcnt : Lib.countByte s.data.toList 10 = (splitS s.data.toList).1.length := count_lines hlast
      have HC := Lib.hid hcnt
      obtain ⟨n, hn⟩ : ∃ n, n = (splitS s.data.toList).1.length := ⟨_, rfl⟩
      by_cases hbig : 400 < n
      · have HE := Lib.hid (lv_big hne hlast (by rw [← hn]; exact hbig))
        rw [← hn] at HC
        clear hne hlast hsuf hcnt hs0 hn hm
        go_enter Tryd.func7, Tryd.ntmps7
        go_wp2_with fail
        refine (Tryd.strings_HasSuffix s ⟨#[10]⟩ _ (by omega)).mono ?_
        rintro e w' ⟨rfl, rfl⟩
        rw [show Lib.hasSuffix s.data.toList (⟨#[10]⟩ : ByteArray).data.toList = true from HSUF.out]
        go_wp2_with fail
        refine (Tryd.strings_Count_one s 10 _).mono ?_
        rintro e w' ⟨rfl, rfl⟩
        rw [HC.out]
        go_wp2_with fail
        go_ret2
        exact lines_err HE.out (Below.refl _ _)
      · obtain ⟨d, hd⟩ : ∃ d : ByteArray, d = ⟨(s.data.toList.dropLast).toArray⟩ := ⟨_, rfl⟩
        have hdl : d.data.toList = s.data.toList.dropLast := by rw [hd]
        have hds : d.size ≤ 3000 := by
          have h1 : d.size = d.data.toList.length := rfl
          rw [h1, hdl, List.length_dropLast, sizeB]; omega
        have hL : (splitS s.data.toList).1 = splitL d.data.toList := by rw [hdl]; exact split_drop hlast
        have hcb : Lib.countB d ⟨#[10]⟩ + 1 = n := by
          rw [hn, hL, splitL_len]
          exact congrArg (· + 1) (Lib.count_one 10 d.data.toList)
        have hnl : n = (splitL d.data.toList).length := by rw [hn, hL]
        have HT := Lib.hid (show (⟨(Lib.trimSuffix s.data.toList (⟨#[10]⟩ : ByteArray).data.toList).toArray⟩ : ByteArray) = d by
          rw [hd]
          exact congrArg (fun l : List UInt8 => (⟨l.toArray⟩ : ByteArray)) (trim_one hlast))
        have HCB := Lib.hid hcb
        have HNL := Lib.hid hnl
        have HL := Lib.hid hL
        have HB := Lib.hid (show ¬ 400 < (splitS s.data.toList).1.length by rw [← hn]; exact hbig)
        have HNE := Lib.hid hne
        have HLA := Lib.hid hlast
        have HM := Lib.hid hm
        rw [← hn] at HC
        clear hne hlast hsuf hcnt hs0 hn hd hdl hL hcb hnl hm
        obtain ⟨x, hx⟩ : ∃ x, x = ferr (splitL d.data.toList) := ⟨_, rfl⟩
        have HX := Lib.hid hx
        clear hx
        go_enter Tryd.func7, Tryd.ntmps7
        go_wp2_with fail
        refine (Tryd.strings_HasSuffix s ⟨#[10]⟩ _ (by omega)).mono ?_
        rintro e w' ⟨rfl, rfl⟩
        rw [show Lib.hasSuffix s.data.toList (⟨#[10]⟩ : ByteArray).data.toList = true from HSUF.out]
        go_wp2_with fail
        refine (Tryd.strings_Count_one s 10 _).mono ?_
        rintro e w' ⟨rfl, rfl⟩
        rw [HC.out]
        go_wp2_with fail
        refine (Tryd.strings_TrimSuffix s ⟨#[10]⟩ _ (by omega)).mono ?_
        rintro e w' ⟨rfl, rfl⟩
        rw [HT.out]
        go_wp2_with fail
        refine (Tryd.strings_Split d ⟨#[10]⟩ m _ (by omega) HM.out (Nat.le_refl _)).mono ?_
        rintro e w1 ⟨rfl, hw1⟩
        have HROW := Lib.hid (show StrArg w1 (some ⟨w'.heap.size, 0, none⟩) n (fOf (splitL d.data.toList)) by rw [hw1, HNL.out]; exact split_row hds)
        have HBEL := Lib.hid (show Below w'.heap.size w' w1 by rw [hw1]; exact below_alloc _ _)
        rw [HCB.out]
        clear hw1
        go_wp2_with fail
        refine (ferr_any n n _ _ _ (by omega) HROW.out).mono ?_
        rintro e w2 ⟨rfl, rfl⟩
        rw [show ferr (lsOf (fOf (splitL d.data.toList)) n) = x by rw [HNL.out, fOf_lists, HX.out]]
        by_cases hx0 : x = 0
        · subst hx0
          have HE := Lib.hid (lv_ok HNE.out HLA.out HB.out (by rw [HL.out]; exact HX.out.symm))
          go_wp2
          go_ret2
          exact lines_fine HE.out HL.out HNL.out HROW.out HBEL.out
        · have HE := Lib.hid (lv_err HNE.out HLA.out HB.out (by rw [HL.out]; exact HX.out.symm) hx0)
          have hxf : (x == 0) = false := by simp [hx0]
          have hxf2 : (x != 0) = true := by simp [hx0]
          clear hx0
          go_wp2
          go_ret2
          exact lines_err HE.out HBEL.out
    · have hsuf : Lib.hasSuffix s.data.toList [10] = false := by rw [suffix_one]; simpa using hlast
      have HSUF := Lib.hid hsuf
      have HE := Lib.hid (lv_last hne hlast)
      clear hne hlast hsuf hs0 hm
      go_enter Tryd.func7, Tryd.ntmps7
      go_wp2_with fail
      refine (Tryd.strings_HasSuffix s ⟨#[10]⟩ _ (by omega)).mono ?_
      rintro e w' ⟨rfl, rfl⟩
      rw [show Lib.hasSuffix s.data.toList (⟨#[10]⟩ : ByteArray).data.toList = false from HSUF.out]
      go_wp2_with fail
      go_ret2
      exact lines_err HE.out (Below.refl _ _)
end Go.Proofs.YtpmdfpfbnmoinaaDoor
