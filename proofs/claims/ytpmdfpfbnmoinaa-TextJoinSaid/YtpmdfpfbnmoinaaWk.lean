/- Contracts of the reference's Word, Equal and Same. -/
import Derived.Test.YtpmdfpfbnmoinaaWj
namespace Go.Proofs.Ytpmdfpfbnmoinaa
open Go.RowKit
set_option linter.unusedVariables false

theorem wordsB_at {s : ByteArray} {k j : Nat} (h : j < k) : (wordsB s k)[j]? = some (.string (wordB s j)) := by unfold wordsB; simp [h]
def StrsIn (w : World) (A : Option Addr) (n : Nat) (f : Nat → ByteArray) : Prop :=
  0 < n → ∃ g, A = some ⟨g, 0, none⟩ ∧ g < w.heap.size ∧ ∀ i, i < n → w.cell? ⟨g, i, none⟩ = some (.string (f i))
theorem all_reads {s : ByteArray} {w : World} {B n c : Nat} {A : Option Addr} (h : w.ownsRow B 9 1 (.slice A n c) n (wordsB s n)) : StrsIn w A n (wordB s) := by
  intro h0
  obtain ⟨g, c', hv, _, hlt⟩ := h.form h0
  injection hv with h1 h2 h3
  subst h1; subst h3
  exact ⟨g, rfl, hlt, fun i hi => by rw [h.cellAt _ (by omega)]; exact wordsB_at hi⟩
theorem StrsIn.below {w w' : World} {A : Option Addr} {n : Nat} {f : Nat → ByteArray} (h : StrsIn w A n f) (hb : Below w.heap.size w w') : StrsIn w' A n f := by
  intro h0
  obtain ⟨g, e, hlt, hc⟩ := h h0
  exact ⟨g, e, Nat.lt_of_lt_of_le hlt hb.size, fun i hi => (hb.cell (p := ⟨g, i, none⟩) hlt).trans (hc i hi)⟩

set_option maxHeartbeats 1000000 in
theorem rword_any (s : ByteArray) (i : Int) (w : World) (hs : s.size ≤ maxLen) :
    Calls Try.prog 16 #[.string s, .int .i64 i] w (WordPost s i w) := by
  rcases vErr_val s.data.toList with h0 | h0 | h0
  · have H0 := Lib.hid h0
    obtain ⟨n, hn⟩ : ∃ n, n = wcount s := ⟨_, rfl⟩
    have HN := Lib.hid hn
    have HN2 := Lib.hid (show n = (spansOf s.data.toList).length from hn)
    clear h0 hn
    by_cases h1 : i < 0
    · have HW := Lib.hid (wordVal_out (i := i) H0.out (.inl h1))
      go_enter Try.func16, Try.ntmps16
      go_wp2_with fail
      refine (rall_any s _ hs).mono ?_
      rintro e w1 ⟨A, c, rfl, hsp, hb⟩
      rw [H0.out, ← HN.out]
      clear hsp
      go_wp2
      go_ret2
      exact word_post HW.out hb
    · by_cases h2 : (n : Int) ≤ i
      · have HW := Lib.hid (wordVal_out (i := i) H0.out (.inr (by rw [← HN2.out]; exact h2)))
        go_enter Try.func16, Try.ntmps16
        go_wp2_with fail
        refine (rall_any s _ hs).mono ?_
        rintro e w1 ⟨A, c, rfl, hsp, hb⟩
        rw [H0.out, ← HN.out]
        clear hsp
        go_wp2
        go_ret2
        exact word_post HW.out hb
      · obtain ⟨j, rfl⟩ := Int.eq_ofNat_of_zero_le (show 0 ≤ i by omega)
        have hj : j < n := by omega
        have HW := Lib.hid (wordVal_in (j := j) H0.out (by rw [← HN2.out]; exact hj))
        go_enter Try.func16, Try.ntmps16
        go_wp2_with fail
        refine (rall_any s _ hs).mono ?_
        rintro e w1 ⟨A, c, rfl, hsp, hb⟩
        rw [← HN.out] at hsp
        rw [H0.out, ← HN.out]
        obtain ⟨g, rfl, hg, hcc⟩ := all_reads hsp (by omega)
        have c1 := hcc j hj
        clear hcc hsp
        go_wp2
        go_ret2
        exact word_post HW.out hb
  all_goals
    have HW := Lib.hid (wordVal_err (i := i) h0 (by omega))
    have H0 := Lib.hid h0
    clear h0
    go_enter Try.func16, Try.ntmps16
    go_wp2_with fail
    refine (rall_any s _ hs).mono ?_
    rintro e w1 ⟨A, c, rfl, hsp, hb⟩
    rw [H0.out]
    clear hsp
    go_wp2
    go_ret2
    exact word_post HW.out hb

/-! ### Equal on lists of strings -/
theorem bytes_eq_of {a b : ByteArray} (h : (a.toList == b.toList) = true) : a = b := by
  rw [ByteArray.toList_eq, ByteArray.toList_eq] at h
  obtain ⟨⟨x⟩⟩ := a
  obtain ⟨⟨y⟩⟩ := b
  simpa using h
theorem range_map_yes {n : Nat} {f h : Nat → ByteArray} (e : ∀ j, j < n → f j = h j) : decide ((List.range n).map f = (List.range n).map h) = true :=
  decide_eq_true (List.map_congr_left (fun j hj => e j (by simpa using hj)))
theorem range_map_no {n k : Nat} {f h : Nat → ByteArray} (hk : k < n) (e : ((f k).toList == (h k).toList) = false) : decide ((List.range n).map f = (List.range n).map h) = false := by
  refine decide_eq_false (fun e2 => ?_)
  have h1 : ((List.range n).map f)[k]? = ((List.range n).map h)[k]? := by rw [e2]
  have h2 : f k = h k := by simpa [hk] using h1
  rw [h2] at e
  simp at e
set_option maxHeartbeats 1000000 in
theorem req_any (n m : Nat) (f h : Nat → ByteArray) (A C : Option Addr) (c d : Nat) (w : World) (hn : n ≤ 140737488355328) (hm : m ≤ 140737488355328) (hA : StrsIn w A n f) (hC : StrsIn w C m h) :
    Calls Try.prog 31 #[.slice A n c, .slice C m d] w fun e w' => e = .returned (.bool (decide ((List.range n).map f = (List.range m).map h))) ∧ ∃ q, w' = w.drewN q := by
  by_cases hlen : n = m
  · subst hlen
    by_cases h0 : 0 < n
    · obtain ⟨g, rfl, hg, hcA⟩ := hA h0
      obtain ⟨g', rfl, hg', hcC⟩ := hC h0
      have HA := Lib.hid hcA
      have HC := Lib.hid hcC
      clear hA hC hcA hcC
      go_enter Try.func31, Try.ntmps31
      go_wp2
      go_loopw [5] (fun i wr => ∃ k : Nat, k ≤ n ∧ i = .int .i64 k ∧ (∀ j, j < k → f j = h j) ∧ ∃ q, wr = w.drewN q) (fun i _ => n - (intOf i).toNat)
      case atStart => exact ⟨0, Nat.zero_le _, rfl, fun j hj => by omega, 0, rfl⟩
      case round =>
        obtain ⟨k, hk, rfl, htk, q, rfl⟩ := hrel
        have HT := Lib.hid htk
        clear htk
        by_cases hlt : k < n
        · have a1 := HA.out k hlt
          have c1 := HC.out k hlt
          obtain ⟨x, hx⟩ : ∃ x, x = f k := ⟨_, rfl⟩
          obtain ⟨y, hy⟩ : ∃ y, y = h k := ⟨_, rfl⟩
          rw [← hx] at a1
          rw [← hy] at c1
          have HX := Lib.hid hx
          have HY := Lib.hid hy
          clear hx hy
          cases hq : x.toList == y.toList with
          | true =>
            have HQ := Lib.hid (bytes_eq_of hq)
            go_wp2
            go_quiet (fail)
            go_wp2
            go_roundw
            case rel => exact ⟨k + 1, by omega, by go_num, fun j hj => by
              by_cases e : j = k
              · subst e; rw [← HX.out, ← HY.out, HQ.out]
              · exact HT.out j (by omega), _, rfl⟩
            case measure => simp [intOf]; omega
          | false =>
            have HQ := Lib.hid (range_map_no (f := f) (h := h) hlt (by rw [← HX.out, ← HY.out]; exact hq))
            go_wp2
            go_quiet (fail)
            go_wp2
            go_ret
            exact ⟨ret_bool HQ.out.symm, _, World.drewN_drewN _ _ _⟩
        · have HE := Lib.hid (range_map_yes (n := n) (f := f) (h := h) (fun j hj => HT.out j (by omega)))
          go_wp2
          go_ret
          exact ⟨ret_bool HE.out.symm, _, rfl⟩
    · obtain rfl : n = 0 := by omega
      go_enter Try.func31, Try.ntmps31
      go_wp2
      refine wp_loop_rounds 1 ?_
      rw [rounds_succ]
      go_wp2
      go_ret
      exact ⟨rfl, 0, rfl⟩
  · have HE := Lib.hid (show decide ((List.range n).map f = (List.range m).map h) = false from decide_eq_false (fun e => hlen (by simpa using congrArg List.length e)))
    have hne : ((n : Int) == (m : Int)) = false := by simp; omega
    have hne' : ((n : Int) != (m : Int)) = true := by simp; omega
    clear hlen
    go_enter Try.func31, Try.ntmps31
    go_wp2
    go_ret
    exact ⟨ret_bool HE.out.symm, 0, rfl⟩

theorem sameL_eq {s t : ByteArray} (h0 : vErr s.data.toList = 0) (h1 : vErr t.data.toList = 0) :
    decide ((List.range (wcount s)).map (wordB s) = (List.range (wcount t)).map (wordB t)) = sameL s.data.toList t.data.toList := by
  have e : ∀ u : ByteArray, (List.range (wcount u)).map (wordB u) = (wordsL u.data.toList).map (fun l => (⟨l.toArray⟩ : ByteArray)) := by
    intro u; unfold wordsL wcount wordB; rw [List.map_map]; rfl
  unfold sameL
  rw [e, e, decide_eq_decide]
  constructor
  · intro h
    refine ⟨h0, h1, ?_⟩
    have h2 := congrArg (List.map (fun b : ByteArray => b.data.toList)) h
    simpa [List.map_map, Function.comp_def] using h2
  · intro h
    rw [h.2.2]

set_option maxHeartbeats 1000000 in
theorem rsame_any (s t : ByteArray) (w : World) (hs : s.size ≤ maxLen) (ht : t.size ≤ maxLen) : Calls Try.prog 24 #[.string s, .string t] w (SamePost s t w) := by
  rcases vErr_val s.data.toList with h0 | h0 | h0
  · rcases vErr_val t.data.toList with h1 | h1 | h1
    · have hs120 : wcount s ≤ 1000 := by
        have := vErr_small h0; rw [sizeB] at this; unfold wcount; rw [spansOf_ok h0, sizeB]; have := (wst_le (fAt s.data.toList) (s.size + 1)).2; omega
      have ht120 : wcount t ≤ 1000 := by
        have := vErr_small h1; rw [sizeB] at this; unfold wcount; rw [spansOf_ok h1, sizeB]; have := (wst_le (fAt t.data.toList) (t.size + 1)).2; omega
      have HE := Lib.hid (sameL_eq h0 h1)
      have H0 := Lib.hid h0
      have H1 := Lib.hid h1
      clear h0 h1
      go_enter Try.func24, Try.ntmps24
      go_wp2_with fail
      refine (rall_any s _ hs).mono ?_
      rintro e w1 ⟨A, c, rfl, hA, hb1⟩
      rw [H0.out]
      have HA := Lib.hid (all_reads hA)
      have HB1 := Lib.hid hb1
      clear hA hb1
      go_wp2_with fail
      refine (rall_any t _ ht).mono ?_
      rintro e w2 ⟨C, d, rfl, hC, hb2⟩
      rw [H1.out]
      have HC := Lib.hid (all_reads hC)
      have HA2 := Lib.hid (StrsIn.below HA.out hb2)
      have HB2 := Lib.hid hb2
      clear hC hb2
      go_wp2_with fail
      refine (req_any _ _ (wordB s) (wordB t) A C c d _ (by omega) (by omega) HA2.out HC.out).mono ?_
      rintro e w3 ⟨rfl, q, rfl⟩
      rw [HE.out]
      go_wp2_with fail
      go_ret
      exact same_post rfl (bdr (btwo HB1.out HB2.out) _)
    all_goals
      have HE := Lib.hid (sameL_err2 (l := s.data.toList) (m := t.data.toList) (by omega))
      have H0 := Lib.hid h0
      have H1 := Lib.hid h1
      clear h0 h1
      go_enter Try.func24, Try.ntmps24
      go_wp2_with fail
      refine (rall_any s _ hs).mono ?_
      rintro e w1 ⟨A, c, rfl, hA, hb1⟩
      rw [H0.out]
      clear hA
      go_wp2_with fail
      refine (rall_any t _ ht).mono ?_
      rintro e w2 ⟨C, d, rfl, hC, hb2⟩
      rw [H1.out]
      clear hC
      go_wp2_with fail
      go_ret
      exact same_post HE.out (btwo hb1 hb2)
  all_goals
    have HE := Lib.hid (sameL_err1 (l := s.data.toList) (m := t.data.toList) (by omega))
    have H0 := Lib.hid h0
    clear h0
    go_enter Try.func24, Try.ntmps24
    go_wp2_with fail
    refine (rall_any s _ hs).mono ?_
    rintro e w1 ⟨A, c, rfl, hA, hb1⟩
    rw [H0.out]
    clear hA
    go_wp2_with fail
    refine (rall_any t _ ht).mono ?_
    rintro e w2 ⟨C, d, rfl, hC, hb2⟩
    clear hC
    go_wp2_with fail
    go_ret
    exact same_post HE.out (btwo hb1 hb2)
end Go.Proofs.Ytpmdfpfbnmoinaa
