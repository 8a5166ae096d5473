/- Contracts of slices.Equal on lists of numbers and of strings, and of Text of both sides. -/
import Derived.Test.YtlkigmlgbnlkaaaDoorPf
import Derived.Test.YtlkigmlgbnlkaaaDoorShelfC
namespace Go.Proofs.YtlkigmlgbnlkaaaDoor
open Go.RowKit
set_option linter.unusedVariables false

/-- A slice value that reads as the numbers L. -/
def IntsIn (w : World) (A : Option Addr) (L : List Int) : Prop :=
  0 < L.length → ∃ b off, A = some ⟨b, off, none⟩ ∧ b < w.heap.size ∧ ∀ i, i < L.length → w.cell? ⟨b, off + i, none⟩ = some (.int .i64 (L.getD i 0))
def StrsIn (w : World) (A : Option Addr) (L : List ByteArray) : Prop :=
  0 < L.length → ∃ b off, A = some ⟨b, off, none⟩ ∧ b < w.heap.size ∧ ∀ i, i < L.length → w.cell? ⟨b, off + i, none⟩ = some (.string (L.getD i ByteArray.empty))
theorem IntsIn.below {w w' : World} {A : Option Addr} {L : List Int} (h : IntsIn w A L) (hb : Below w.heap.size w w') : IntsIn w' A L := by
  intro h0
  obtain ⟨b, off, e, hlt, hc⟩ := h h0
  exact ⟨b, off, e, Nat.lt_of_lt_of_le hlt hb.size, fun i hi => (hb.cell (p := ⟨b, off + i, none⟩) hlt).trans (hc i hi)⟩
theorem StrsIn.below {w w' : World} {A : Option Addr} {L : List ByteArray} (h : StrsIn w A L) (hb : Below w.heap.size w w') : StrsIn w' A L := by
  intro h0
  obtain ⟨b, off, e, hlt, hc⟩ := h h0
  exact ⟨b, off, e, Nat.lt_of_lt_of_le hlt hb.size, fun i hi => (hb.cell (p := ⟨b, off + i, none⟩) hlt).trans (hc i hi)⟩
theorem ints_own {w : World} {B n c : Nat} {A : Option Addr} {L : List Int} (h : w.ownsRow B 3 1 (.slice A n c) n (intCells L)) (hn : n = L.length) : IntsIn w A L := by
  subst hn
  intro h0
  obtain ⟨g, c', hv, _, hlt⟩ := h.form h0
  injection hv with h1 h2 h3
  subst h1; subst h3
  refine ⟨g, 0, rfl, hlt, fun i hi => ?_⟩
  rw [Nat.zero_add, h.cellAt _ (by omega)]
  simp [intCells, hi]
def strCells (L : List ByteArray) : List Value := L.map Value.string
theorem strs_own {w : World} {B n c : Nat} {A : Option Addr} {L : List ByteArray} (h : w.ownsRow B 9 1 (.slice A n c) n (strCells L)) (hn : n = L.length) : StrsIn w A L := by
  subst hn
  intro h0
  obtain ⟨g, c', hv, _, hlt⟩ := h.form h0
  injection hv with h1 h2 h3
  subst h1; subst h3
  refine ⟨g, 0, rfl, hlt, fun i hi => ?_⟩
  rw [Nat.zero_add, h.cellAt _ (by omega)]
  simp [strCells, hi]
theorem eqi_any (L M : List Int) (n m : Nat) (A C : Option Addr) (c d : Nat) (w : World) (hl : n = L.length) (hm : m = M.length) (hn : n ≤ 1000000) (hm' : m ≤ 1000000) (hA : IntsIn w A L) (hC : IntsIn w C M) :
    Calls Tryd.prog 20 #[.slice A n c, .slice C m d] w fun e w' => e = .returned (.bool (decide (L = M))) ∧ ∃ q, w' = w.drewN q := by
  subst hl; subst hm
  by_cases h : L.length = M.length
  · by_cases h0 : 0 < L.length
    · obtain ⟨b1, o1, rfl, _, h1⟩ := hA h0
      obtain ⟨b2, o2, rfl, _, h2⟩ := hC (by omega)
      refine (Tryd.slices_Equal_int b1 o1 L.length c b2 o2 M.length d L M w (Nat.le_refl _) (Nat.le_refl _) (by omega) (by omega) h1 h2).mono fun e w' ⟨he, hw⟩ => ⟨?_, hw⟩
      rw [he, List.take_length, List.take_length]
      exact ret_bool (by rw [Bool.eq_iff_iff]; simp)
    · have e1 : L = [] := List.eq_nil_of_length_eq_zero (by omega)
      have e2 : M = [] := List.eq_nil_of_length_eq_zero (by omega)
      subst e1; subst e2
      exact (Tryd.slices_Equal_int_empty A C c 0 d w (by omega)).mono fun e w' ⟨he, hw⟩ => ⟨he, 0, hw⟩
  · refine (Tryd.slices_Equal_int_lens A C L.length c M.length d w h).mono fun e w' ⟨he, hw⟩ => ⟨?_, 0, hw⟩
    rw [he]
    exact ret_bool (decide_eq_false (fun e => h (by rw [e]))).symm
theorem eqs_any (L M : List ByteArray) (n m : Nat) (A C : Option Addr) (c d : Nat) (w : World) (hl : n = L.length) (hm : m = M.length) (hn : n ≤ 1000000) (hm' : m ≤ 1000000) (hA : StrsIn w A L) (hC : StrsIn w C M) :
    Calls Tryd.prog 32 #[.slice A n c, .slice C m d] w fun e w' => e = .returned (.bool (decide (L = M))) ∧ ∃ q, w' = w.drewN q := by
  subst hl; subst hm
  by_cases h : L.length = M.length
  · by_cases h0 : 0 < L.length
    · obtain ⟨b1, o1, rfl, _, h1⟩ := hA h0
      obtain ⟨b2, o2, rfl, _, h2⟩ := hC (by omega)
      refine (Tryd.slices_Equal_string b1 o1 L.length c b2 o2 M.length d L M w (Nat.le_refl _) (Nat.le_refl _) (by omega) (by omega) h1 h2).mono fun e w' ⟨he, hw⟩ => ⟨?_, hw⟩
      rw [he, List.take_length, List.take_length]
    · have e1 : L = [] := List.eq_nil_of_length_eq_zero (by omega)
      have e2 : M = [] := List.eq_nil_of_length_eq_zero (by omega)
      subst e1; subst e2
      exact (Tryd.slices_Equal_string_empty A C c 0 d w (by omega)).mono fun e w' ⟨he, hw⟩ => ⟨he, 0, hw⟩
  · refine (Tryd.slices_Equal_string_lens A C L.length c M.length d w h).mono fun e w' ⟨he, hw⟩ => ⟨?_, 0, hw⟩
    rw [he]
    exact ret_bool (decide_eq_false (fun e => h (by rw [e]))).symm

/-! ### Text -/
def TextPost (L : List Int) (w : World) (e : Ending) (w' : World) : Prop :=
  e = .returned (.tuple #[.string ⟨(textVal L).1.toArray⟩, .int .i64 (textVal L).2]) ∧ Below w.heap.size w w'
theorem text_post {L : List Int} {l : List UInt8} {w w' : World} {x : Int} {b : ByteArray} (h : textVal L = (l, x)) (hb : b = ⟨l.toArray⟩) (hB : Below w.heap.size w w') : TextPost L w (.returned (.tuple #[.string b, .int .i64 x])) w' := by
  subst hb; exact ⟨by rw [h], hB⟩
theorem below_alloc (w : World) (o : Obj) : Below w.heap.size w (w.alloc o) := (Below.refl _ _).alloc (Nat.le_refl _) _
def BRel (l : List UInt8) (w wr : World) : Prop := Lib.IsBuilder 52 5 w.heap.size w.heap.size (Lib.byteCells l) wr ∧ Below w.heap.size w wr
theorem lets_take {L : List Int} {k : Nat} (hk : k < L.length) : L.take (k + 1) = L.take k ++ [L.getD k 0] := by
  rw [List.take_succ_eq_append_getElem hk, List.getD_eq_getElem?_getD, List.getElem?_eq_getElem hk]; rfl
theorem all_take {L : List Int} {k : Nat} (hk : k < L.length) (h : (L.take k).all isLet = true) (h1 : isLet (L.getD k 0) = true) : (L.take (k + 1)).all isLet = true := by
  rw [lets_take hk, List.all_append, h, List.all_cons, h1]; rfl
theorem text_bad' {L : List Int} (h : ¬ 60 < L.length) {k : Nat} (hk : k < L.length) (hb : isLet (L.getD k 0) = false) : textVal L = ([], 6) :=
  text_bad h hk (by rw [List.getD_eq_getElem?_getD, List.getElem?_eq_getElem hk] at hb; exact hb)
theorem textL_take {L : List Int} {k : Nat} (hk : k < L.length) : textL (L.take (k + 1)) = textL (L.take k) ++ pieceL (L.getD k 0) := by
  rw [lets_take hk, textL_snoc]
theorem textL_take_len (L : List Int) (k : Nat) : (textL (L.take k)).length ≤ 2 * k := by
  have h1 := textL_len (L.take k)
  rw [List.length_take] at h1
  omega
theorem piece_at {w : World} {x : Int} : isLet x = true → x = 0 ∨ x = 1 ∨ x = 2 ∨ x = 3 := isLet_cases
theorem notLet {x : Int} (h : isLet x = false) : x < 0 ∨ 3 < x := by
  unfold isLet at h; simp at h
  by_cases h0 : x < 0
  · exact .inl h0
  · exact .inr (h (by omega))

set_option maxHeartbeats 2000000 in
theorem ptext_any (L : List Int) (n c : Nat) (A : Option Addr) (w : World) (hl : n = L.length) (hn : n ≤ 1000000) (hA : IntsIn w A L) :
    Calls Tryd.prog 21 #[.slice A n c] w (TextPost L w) := by
  have HL := Lib.hid hl
  by_cases hbig : 60 < n
  · have HE := Lib.hid (text_big (L := L) (by rw [← hl]; exact hbig))
    clear hA hl
    go_enter Tryd.func21, Tryd.ntmps21
    go_wp2
    go_ret2
    exact text_post HE.out rfl (Below.refl _ _)
  · have HA := Lib.hid hA
    have HB60 := Lib.hid (show ¬ 60 < L.length by rw [← hl]; exact hbig)
    by_cases h0 : 0 < n
    · obtain ⟨b, off, rfl, hlt0, hcc⟩ := hA (by omega)
      have HC := Lib.hid hcc
      clear hA hl hcc
      go_enter Tryd.func21, Tryd.ntmps21
      go_wp2
      go_loopw [12] (fun i wr => ∃ k : Nat, k ≤ n ∧ i = .int .i64 k ∧ (L.take k).all isLet = true ∧ BRel (textL (L.take k)) w wr) (fun i _ => n - (intOf i).toNat)
      case atStart => exact ⟨0, Nat.zero_le _, rfl, rfl, Lib.fresh_isBuilder 52 5 w, below_alloc _ _⟩
      case round =>
        obtain ⟨k, hk, rfl, hal, hB, hb⟩ := hrel
        have HAL := Lib.hid hal
        have HB := Lib.hid hB
        have HBB := Lib.hid hb
        clear hal hB
        by_cases hlt : k < n
        · have hkL : k < L.length := by have := HL.out; omega
          have HKL := Lib.hid hkL
          have hc := (hb.cell (p := ⟨b, off + k, none⟩) hlt0).trans (HC.out k hkL)
          have hsz := hb.size
          have hlen : (Lib.byteCells (textL (L.take k))).length ≤ 2 * k := by rw [Lib.byteCells_length]; exact textL_take_len L k
          have HST := Lib.hid (textL_take hkL)
          obtain ⟨y, hy⟩ : ∃ y, y = L.getD k 0 := ⟨_, rfl⟩
          have HY := Lib.hid hy
          rw [← hy] at hc
          clear hy hb hkL
          cases hil : isLet y with
          | false =>
            have HE := Lib.hid (text_bad' HB60.out HKL.out (by rw [← HY.out]; exact hil))
            have hy2 := notLet hil
            have e0 : (y == 0) = false := by simp; omega
            have e1 : (y == 1) = false := by simp; omega
            have e2 : (y == 2) = false := by simp; omega
            have e3 : (y == 3) = false := by simp; omega
            clear hil hy2
            go_wp2
            go_ret2
            exact text_post HE.out rfl HBB.out
          | true =>
            have HAL2 := Lib.hid (all_take HKL.out HAL.out (by rw [← HY.out]; exact hil))
            have HST2 := Lib.hid (show textL (L.take (k + 1)) = textL (L.take k) ++ pieceL y by rw [HST.out, ← HY.out])
            rcases isLet_cases hil with rfl | rfl | rfl | rfl
            · have HN := Lib.hid (show Lib.byteCells (textL (L.take k)) ++ [.int .u8 117] = Lib.byteCells (textL (L.take (k + 1))) by rw [HST2.out, Lib.byteCells_append]; rfl)
              clear hil
              go_wp2_with fail
              refine (Tryd.Builder_WriteByte w.heap.size w.heap.size _ 117 _ HB.out (by omega) hsz).mono ?_
              rintro e w3 ⟨rfl, hB3, hb3⟩
              have R := Lib.hid (show BRel (textL (L.take (k + 1))) w w3 from ⟨Or.inr (by rw [← HN.out]; exact hB3), HBB.out.trans hb3⟩)
              clear hB3 hb3
              go_wp2_with fail
              go_roundw
              case rel => exact ⟨k + 1, by omega, by go_num, HAL2.out, R.out⟩
              case measure => simp [intOf]; omega
            · have HN := Lib.hid (show Lib.byteCells (textL (L.take k)) ++ [.int .u8 45] = Lib.byteCells (textL (L.take (k + 1))) by rw [HST2.out, Lib.byteCells_append]; rfl)
              clear hil
              go_wp2_with fail
              refine (Tryd.Builder_WriteByte w.heap.size w.heap.size _ 45 _ HB.out (by omega) hsz).mono ?_
              rintro e w3 ⟨rfl, hB3, hb3⟩
              have R := Lib.hid (show BRel (textL (L.take (k + 1))) w w3 from ⟨Or.inr (by rw [← HN.out]; exact hB3), HBB.out.trans hb3⟩)
              clear hB3 hb3
              go_wp2_with fail
              go_roundw
              case rel => exact ⟨k + 1, by omega, by go_num, HAL2.out, R.out⟩
              case measure => simp [intOf]; omega
            · have HN := Lib.hid (show (Lib.byteCells (textL (L.take k)) ++ [.int .u8 117]) ++ [.int .u8 46] = Lib.byteCells (textL (L.take (k + 1))) by rw [HST2.out, Lib.byteCells_append, List.append_assoc]; rfl)
              clear hil
              go_wp2_with fail
              refine (Tryd.Builder_WriteByte w.heap.size w.heap.size _ 117 _ HB.out (by omega) hsz).mono ?_
              rintro e w3 ⟨rfl, hB3, hb3⟩
              have HB3 := Lib.hid hB3
              have HBB3 := Lib.hid (HBB.out.trans hb3)
              have hsz3 : w.heap.size ≤ w3.heap.size := Nat.le_trans hsz hb3.size
              clear hB3 hb3
              go_wp2_with fail
              refine (Tryd.Builder_WriteByte w.heap.size w.heap.size _ 46 _ (Or.inr HB3.out) (by rw [List.length_append]; show _ + 1 + 1 ≤ _; omega) hsz3).mono ?_
              rintro e w4 ⟨rfl, hB4, hb4⟩
              have R := Lib.hid (show BRel (textL (L.take (k + 1))) w w4 from ⟨Or.inr (by rw [← HN.out]; exact hB4), HBB3.out.trans hb4⟩)
              clear hB4 hb4
              go_wp2_with fail
              go_roundw
              case rel => exact ⟨k + 1, by omega, by go_num, HAL2.out, R.out⟩
              case measure => simp [intOf]; omega
            · have HN := Lib.hid (show (Lib.byteCells (textL (L.take k)) ++ [.int .u8 45]) ++ [.int .u8 46] = Lib.byteCells (textL (L.take (k + 1))) by rw [HST2.out, Lib.byteCells_append, List.append_assoc]; rfl)
              clear hil
              go_wp2_with fail
              refine (Tryd.Builder_WriteByte w.heap.size w.heap.size _ 45 _ HB.out (by omega) hsz).mono ?_
              rintro e w3 ⟨rfl, hB3, hb3⟩
              have HB3 := Lib.hid hB3
              have HBB3 := Lib.hid (HBB.out.trans hb3)
              have hsz3 : w.heap.size ≤ w3.heap.size := Nat.le_trans hsz hb3.size
              clear hB3 hb3
              go_wp2_with fail
              refine (Tryd.Builder_WriteByte w.heap.size w.heap.size _ 46 _ (Or.inr HB3.out) (by rw [List.length_append]; show _ + 1 + 1 ≤ _; omega) hsz3).mono ?_
              rintro e w4 ⟨rfl, hB4, hb4⟩
              have R := Lib.hid (show BRel (textL (L.take (k + 1))) w w4 from ⟨Or.inr (by rw [← HN.out]; exact hB4), HBB3.out.trans hb4⟩)
              clear hB4 hb4
              go_wp2_with fail
              go_roundw
              case rel => exact ⟨k + 1, by omega, by go_num, HAL2.out, R.out⟩
              case measure => simp [intOf]; omega
        · obtain rfl : k = n := by omega
          have hsz := hb.size
          have HT := Lib.hid (show L.take k = L from List.take_of_length_le (by have := HL.out; omega))
          have HE := Lib.hid (text_ok HB60.out (by rw [← HT.out]; exact HAL.out))
          go_wp2_with fail
          refine (Tryd.Builder_String_any w.heap.size w.heap.size (textL (L.take k)) _ HB.out hsz).mono ?_
          rintro e w3 ⟨rfl, hb3⟩
          go_wp2_with fail
          go_ret2
          exact text_post HE.out (by rw [HT.out]) (HBB.out.trans hb3)
    · obtain rfl : n = 0 := by omega
      have hL0 : L = [] := List.eq_nil_of_length_eq_zero hl.symm
      have HE := Lib.hid (show textVal L = ([], 0) by rw [hL0]; rfl)
      clear hl hA hL0
      go_enter Tryd.func21, Tryd.ntmps21
      go_wp2
      refine wp_loop_rounds 1 ?_
      rw [rounds_succ]
      go_wp2_with fail
      refine (Tryd.Builder_String_any w.heap.size w.heap.size [] _ (Lib.fresh_isBuilder 52 5 w) (by simp)).mono ?_
      rintro e w3 ⟨rfl, hb3⟩
      go_wp2_with fail
      go_ret2
      exact text_post HE.out rfl ((below_alloc _ _).trans hb3)
end Go.Proofs.YtlkigmlgbnlkaaaDoor
