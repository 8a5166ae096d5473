/- Contracts of text.Text and of the reference's Text. -/
import Derived.Test.YtpmdfpfbnmoinaaDoorWv
namespace Go.Proofs.YtpmdfpfbnmoinaaDoor
open Go.RowKit
set_option linter.unusedVariables false

def TextPost (ls : List (List UInt8)) (w : World) (e : Ending) (w' : World) : Prop :=
  e = .returned (.tuple #[.string ⟨(textVal ls).1.toArray⟩, .int .i64 (textVal ls).2]) ∧ Below w.heap.size w w'
theorem text_post {ls : List (List UInt8)} {w w' : World} {l : List UInt8} {x : Int} {b : ByteArray} (h : textVal ls = (l, x)) (hb : b = ⟨l.toArray⟩) (hB : Below w.heap.size w w') : TextPost ls w (.returned (.tuple #[.string b, .int .i64 x])) w' := by
  subst hb; exact ⟨by rw [h], hB⟩
theorem tv_big {ls : List (List UInt8)} (h : 400 < ls.length) : textVal ls = ([], 3) := by unfold textVal; rw [if_pos h]
theorem tv_err {ls : List (List UInt8)} {x : Int} (h : ¬ 400 < ls.length) (h1 : ferr ls = x) (h0 : x ≠ 0) : textVal ls = ([], x) := by unfold textVal; rw [if_neg h, if_pos (by rw [h1]; exact h0), h1]
theorem tv_ok {ls : List (List UInt8)} (h : ¬ 400 < ls.length) (h1 : ferr ls = 0) : textVal ls = (textL ls, 0) := by unfold textVal; rw [if_neg h, if_neg (by simp [h1])]
theorem tv_rerr {ls : List (List UInt8)} {x : Int} (h : rerr ls = x) (h0 : x ≠ 0) : textVal ls = ([], x) := by
  unfold rerr at h
  split at h
  · rename_i h1; subst h; exact tv_big h1
  · rename_i h1; exact tv_err h1 h h0
theorem of_bytes {o : ByteArray} {l : List UInt8} (h : o.data.toList = l) : o = ⟨l.toArray⟩ := by
  subst h; rfl
theorem lsOf_succ (f : Nat → ByteArray) (k : Nat) : lsOf f (k + 1) = lsOf f k ++ [lists f k] := by simp [lsOf, List.range_succ]
theorem textL_snoc (ls : List (List UInt8)) (x : List UInt8) : textL (ls ++ [x]) = textL ls ++ x ++ [10] := by simp [textL]
theorem textL_sums (f : Nat → ByteArray) (k : Nat) : (textL (lsOf f k)).length = sums (lists f) k := by
  induction k with
  | zero => rfl
  | succ k ih => rw [lsOf_succ, textL_snoc, sums, List.length_append, List.length_append, ih]; simp; omega

set_option maxHeartbeats 1000000 in
theorem rtext_any (n c : Nat) (f : Nat → ByteArray) (A : Option Addr) (w : World) (hn : n ≤ 1000000) (hA : StrArg w A n f) (hl : sums (lists f) n ≤ 1000000) :
    Calls Tryd.prog 13 #[.slice A n c] w (TextPost (lsOf f n) w) := by
  obtain ⟨x, hx⟩ : ∃ x, x = rerr (lsOf f n) := ⟨_, rfl⟩
  have HX := Lib.hid hx
  have HA := Lib.hid hA
  clear hx hA
  by_cases hx0 : x = 0
  · subst hx0
    have hz := rerr_zero HX.out.symm
    have HE := Lib.hid (tv_ok hz.1 hz.2)
    clear hz
    by_cases h0 : 0 < n
    · obtain ⟨b, off, rfl, hlt0, hcc⟩ := HA.out.2 h0
      have HC := Lib.hid hcc
      clear hcc
      go_enter Tryd.func13, Tryd.ntmps13
      go_wp2_with fail
      refine (rerr_any n c f _ _ hn HA.out).mono ?_
      rintro e w2 ⟨rfl, rfl⟩
      rw [← HX.out]
      go_wp2
      go_loop [5, 6] (fun v i => ∃ (k : Nat) (o : ByteArray), k ≤ n ∧ i = .int .i64 k ∧ v = .string o ∧ o.data.toList = textL (lsOf f k)) (fun _ i => n - (intOf i).toNat)
      case atStart => exact ⟨0, ⟨#[]⟩, Nat.zero_le _, rfl, rfl, rfl⟩
      case round =>
        obtain ⟨k, o, hk, rfl, rfl, ho⟩ := hrel
        have hos : o.size = sums (lists f) k := by rw [← textL_sums, ← ho]; rfl
        have hmo := sums_mono (lists f) hk
        have ho5 : o.size ≤ 1000000 := by omega
        have HO := Lib.hid ho
        clear ho hos hmo
        by_cases hlt : k < n
        · have hc := HC.out k hlt
          have hz := HA.out.1 k hlt
          obtain ⟨y, hy⟩ : ∃ y, y = f k := ⟨_, rfl⟩
          rw [← hy] at hc hz
          have HY := Lib.hid (show lists f k = y.data.toList by unfold lists; rw [hy])
          clear hy
          have HN := Lib.hid (show ((o ++ y) ++ (⟨#[10]⟩ : ByteArray)).data.toList = textL (lsOf f (k + 1)) by rw [lsOf_succ, textL_snoc, HY.out, ← HO.out]; simp)
          have ha1 : ∀ w : World, (Op.stringOp .add o y).run Tryd.prog w = .ok (.string (o ++ y)) w := fun w => run_string_add_sum w o y (by omega)
          have ha2 : ∀ w : World, (Op.stringOp .add (o ++ y) (⟨#[10]⟩ : ByteArray)).run Tryd.prog w = .ok (.string ((o ++ y) ++ (⟨#[10]⟩ : ByteArray))) w := fun w => run_string_add_sum w (o ++ y) ⟨#[10]⟩ (by rw [ByteArray.size_append]; show o.size + y.size + 1 ≤ _; omega)
          go_wp2
          go_round
          case rel => exact ⟨k + 1, _, by omega, by go_num, rfl, HN.out⟩
          case measure => simp [intOf]; omega
        · obtain rfl : k = n := by omega
          go_wp2
          go_ret2
          exact text_post HE.out (of_bytes HO.out) (Below.refl _ _)
    · obtain rfl : n = 0 := by omega
      go_enter Tryd.func13, Tryd.ntmps13
      go_wp2_with fail
      refine (rerr_any 0 c f _ _ hn HA.out).mono ?_
      rintro e w2 ⟨rfl, rfl⟩
      rw [← HX.out]
      go_wp2
      refine wp_loop_rounds 1 ?_
      rw [rounds_succ]
      go_wp2
      go_ret2
      exact text_post HE.out rfl (Below.refl _ _)
  · have HE := Lib.hid (tv_rerr HX.out.symm hx0)
    have hxf : (x == 0) = false := by simp [hx0]
    have hxf2 : (x != 0) = true := by simp [hx0]
    clear hx0
    go_enter Tryd.func13, Tryd.ntmps13
    go_wp2_with fail
    refine (rerr_any n c f _ _ hn HA.out).mono ?_
    rintro e w2 ⟨rfl, rfl⟩
    rw [← HX.out]
    go_wp2
    go_ret2
    exact text_post HE.out rfl (Below.refl _ _)

def BRel (l : List UInt8) (w wr : World) : Prop := Lib.IsBuilder 54 5 w.heap.size w.heap.size (Lib.byteCells l) wr ∧ Below w.heap.size w wr
set_option maxHeartbeats 1000000 in
theorem ttext_any (n c : Nat) (f : Nat → ByteArray) (A : Option Addr) (w : World) (hn : n ≤ 1000000) (hA : StrArg w A n f) (hl : sums (lists f) n ≤ 1000000) :
    Calls Tryd.prog 10 #[.slice A n c] w (TextPost (lsOf f n) w) := by
  by_cases hbig : 400 < n
  · have HE := Lib.hid (tv_big (ls := lsOf f n) (by rw [lsOf_len]; exact hbig))
    clear hA hl
    go_enter Tryd.func10, Tryd.ntmps10
    go_wp2
    go_ret2
    exact text_post HE.out rfl (Below.refl _ _)
  · obtain ⟨x, hx⟩ : ∃ x, x = ferr (lsOf f n) := ⟨_, rfl⟩
    have HX := Lib.hid hx
    have HA := Lib.hid hA
    clear hx hA
    by_cases hx0 : x = 0
    · subst hx0
      have HE := Lib.hid (tv_ok (ls := lsOf f n) (by rw [lsOf_len]; exact hbig) HX.out.symm)
      by_cases h0 : 0 < n
      · obtain ⟨b, off, rfl, hlt0, hcc⟩ := HA.out.2 h0
        have HC := Lib.hid hcc
        clear hcc
        go_enter Tryd.func10, Tryd.ntmps10
        go_wp2_with fail
        refine (ferr_any n c f _ _ hn HA.out).mono ?_
        rintro e w2 ⟨rfl, rfl⟩
        rw [← HX.out]
        go_wp2
        go_loopw [18] (fun i wr => ∃ k : Nat, k ≤ n ∧ i = .int .i64 k ∧ BRel (textL (lsOf f k)) w wr) (fun i _ => n - (intOf i).toNat)
        case atStart => exact ⟨0, Nat.zero_le _, rfl, Lib.fresh_isBuilder 54 5 w, below_alloc _ _⟩
        case round =>
          obtain ⟨k, hk, rfl, hB, hb⟩ := hrel
          have HB := Lib.hid hB
          have HBB := Lib.hid hb
          clear hB
          by_cases hlt : k < n
          · have hc := (hb.cell (p := ⟨b, off + k, none⟩) hlt0).trans (HC.out k hlt)
            have hsz := hb.size
            have hz := HA.out.1 k hlt
            have hks : sums (lists f) k + 1 + (f k).size ≤ 1000000 := by
              have h1 := sums_mono (lists f) (show k + 1 ≤ n from hlt)
              rw [sums] at h1
              have h2 : (lists f k).length = (f k).size := rfl
              omega
            obtain ⟨y, hy⟩ : ∃ y, y = f k := ⟨_, rfl⟩
            rw [← hy] at hc hz hks
            have HY := Lib.hid (show lists f k = y.data.toList by unfold lists; rw [hy])
            have hlen : (Lib.byteCells (textL (lsOf f k))).length = sums (lists f) k := by rw [Lib.byteCells_length, textL_sums]
            have HLEN := Lib.hid hlen
            have HN := Lib.hid (show (Lib.byteCells (textL (lsOf f k)) ++ Lib.strCells y) ++ Lib.strCells (⟨#[10]⟩ : ByteArray) = Lib.byteCells (textL (lsOf f (k + 1))) by
              rw [lsOf_succ, textL_snoc, HY.out, Lib.byteCells_append, Lib.byteCells_append]; rfl)
            clear hy hlen hb
            go_wp2_with fail
            refine (Tryd.Builder_WriteString w.heap.size w.heap.size _ y _ HB.out (by rw [HLEN.out]; omega) hsz).mono ?_
            rintro e w3 ⟨rfl, hB3, hb3⟩
            have HB3 := Lib.hid hB3
            have HBB3 := Lib.hid (HBB.out.trans hb3)
            have hsz3 : w.heap.size ≤ w3.heap.size := Nat.le_trans hsz hb3.size
            clear hB3 hb3
            go_wp2_with fail
            refine (Tryd.Builder_WriteString w.heap.size w.heap.size _ ⟨#[10]⟩ _ (Or.inr HB3.out) (by
              rw [List.length_append, HLEN.out, Lib.strCells_length]; show _ + 1 ≤ _; omega) hsz3).mono ?_
            rintro e w4 ⟨rfl, hB4, hb4⟩
            have R := Lib.hid (show BRel (textL (lsOf f (k + 1))) w w4 from ⟨Or.inr (by rw [← HN.out]; exact hB4), HBB3.out.trans hb4⟩)
            clear hB4 hb4
            go_wp2_with fail
            go_roundw
            case rel => exact ⟨k + 1, by omega, by go_num, R.out⟩
            case measure => simp [intOf]; omega
          · obtain rfl : k = n := by omega
            have hsz := hb.size
            go_wp2_with fail
            refine (Tryd.Builder_String_any w.heap.size w.heap.size (textL (lsOf f k)) _ HB.out hsz).mono ?_
            rintro e w3 ⟨rfl, hb3⟩
            go_wp2_with fail
            go_ret2
            exact text_post HE.out rfl (HBB.out.trans hb3)
      · obtain rfl : n = 0 := by omega
        go_enter Tryd.func10, Tryd.ntmps10
        go_wp2_with fail
        refine (ferr_any 0 c f _ _ hn HA.out).mono ?_
        rintro e w2 ⟨rfl, rfl⟩
        rw [← HX.out]
        go_wp2
        refine wp_loop_rounds 1 ?_
        rw [rounds_succ]
        go_wp2_with fail
        refine (Tryd.Builder_String_any w.heap.size w.heap.size [] _ (Lib.fresh_isBuilder 54 5 w) (by simp)).mono ?_
        rintro e w3 ⟨rfl, hb3⟩
        go_wp2_with fail
        go_ret2
        exact text_post HE.out rfl ((below_alloc _ _).trans hb3)
    · have HE := Lib.hid (tv_err (ls := lsOf f n) (by rw [lsOf_len]; exact hbig) HX.out.symm hx0)
      have hxf : (x == 0) = false := by simp [hx0]
      have hxf2 : (x != 0) = true := by simp [hx0]
      clear hx0
      go_enter Tryd.func10, Tryd.ntmps10
      go_wp2_with fail
      refine (ferr_any n c f _ _ hn HA.out).mono ?_
      rintro e w2 ⟨rfl, rfl⟩
      rw [← HX.out]
      go_wp2
      go_ret2
      exact text_post HE.out rfl (Below.refl _ _)
end Go.Proofs.YtpmdfpfbnmoinaaDoor
