/- Contracts of text.Words: the spans of the words of a line. -/
import Derived.Test.YtpmdfpfbnmoinaaDoorWa
namespace Go.Proofs.YtpmdfpfbnmoinaaDoor
open Go.RowKit
set_option linter.unusedVariables false

theorem Tryd.infoSpan : (Tryd.prog.info? 46).map (fun i => (i.zero, i.size, i.bytes)) = some (some (.agg #[.int .i64 0, .int .i64 0]), 2, 16) := by kernel_rfl

/-- A slice value that holds the spans L in a row of the call's own (blocks from B on). -/
def SpansAt (w : World) (B : Nat) (A : Option Addr) (c : Nat) (L : List (Nat × Nat)) : Prop :=
  w.ownsRow B 46 2 (.slice A L.length c) L.length (pairCells L)
def WordsPost (l : List UInt8) (w : World) (e : Ending) (w' : World) : Prop :=
  ∃ A c, e = .returned (.tuple #[.slice A (spansOf l).length c, .int .i64 (vErr l)]) ∧ SpansAt w' w.heap.size A c (spansOf l) ∧ Below w.heap.size w w'
theorem own_slice {w : World} {B : Nat} {t : TypeId} {z : Nat} {v : Value} {n : Nat} {xs : List Value} (h : w.ownsRow B t z v n xs) : ∃ A c, v = .slice A n c := by
  rcases h.2 with ⟨rfl, rfl⟩ | ⟨g, c, cur, rfl, _⟩
  · exact ⟨_, _, rfl⟩
  · exact ⟨_, _, rfl⟩
theorem words_post {s : ByteArray} {w wr : World} {v : Value} {L : List (Nat × Nat)} {f k : Nat} (hv : vErr s.data.toList = 0) (hk : k = s.size + 1) (hw : wst (fAt s.data.toList) k = (L, f))
    (hown : wr.ownsRow w.heap.size 46 2 v L.length (pairCells L)) (hb : Below w.heap.size w wr) : WordsPost s.data.toList w (.returned (.tuple #[v, .int .i64 0])) wr := by
  have e : spansOf s.data.toList = L := by rw [spansOf_ok hv, sizeB, ← hk, hw]
  obtain ⟨A, c, rfl⟩ := own_slice hown
  exact ⟨A, c, by rw [e, hv], by rw [e]; exact hown, hb⟩
theorem words_err {l : List UInt8} {w : World} {x : Int} (hv : vErr l ≠ 0) (hx : vErr l = x) : WordsPost l w (.returned (.tuple #[.slice none 0 0, .int .i64 x])) w := by
  subst hx
  exact ⟨none, 0, by rw [spansOf_err hv]; rfl, by rw [spansOf_err hv]; exact World.ownsRow_nil _ _ _ _, Below.refl _ _⟩

def WRel (s : ByteArray) (w : World) (v f i : Value) (wr : World) : Prop :=
  ∃ (k f' : Nat) (L : List (Nat × Nat)), k ≤ s.size + 1 ∧ i = .int .i64 (k : Int) ∧ f = .int .i64 (f' : Int) ∧ wst (fAt s.data.toList) k = (L, f') ∧
    wr.ownsRow w.heap.size 46 2 v L.length (pairCells L) ∧ Below w.heap.size w wr

theorem wrel_cut {s : ByteArray} {w wr w1 : World} {v v' : Value} {o : Obj} {k f : Nat} {L : List (Nat × Nat)} (hk : k ≤ s.size) (hw : wst (fAt s.data.toList) k = (L, f)) (hf : fAt s.data.toList k = false) (hlt : f < k)
    (hown : wr.ownsRow w.heap.size 46 2 v L.length (pairCells L)) (hb : Below w.heap.size w wr)
    (hown' : w1.ownsRow w.heap.size 46 2 v' (L.length + 1) (pairCells L ++ [.int .i64 (f : Int), .int .i64 (k : Int)])) (hgrow : (wr.alloc o).grownBy w1 v.ownBlock) :
    WRel s w v' (.int .i64 ((k : Int) + 1)) (.int .i64 ((k : Int) + 1)) w1 :=
  ⟨k + 1, k + 1, L ++ [(f, k)], by omega, by go_num, by go_num, wst_cut hw hf hlt, by rw [pairCells_snoc]; simpa using hown',
    (hb.alloc hb.size o).grown hgrow (by have := hb.size; simp; omega) (fun j hj => (hown.lt j hj).1)⟩

set_option maxHeartbeats 1000000 in
theorem twords_any (s : ByteArray) (w : World) (hs : s.size ≤ maxLen) :
    Calls Tryd.prog 20 #[.string s] w (WordsPost s.data.toList w) := by
  by_cases hv : vErr s.data.toList = 0
  · have h120 : s.size ≤ 120 := by have := vErr_small hv; rw [sizeB] at this; exact this
    have HV := Lib.hid hv
    clear hv hs
    obtain ⟨i0, hi, hz0, hz1, hz2⟩ := info_parts Tryd.infoSpan
    go_enter Tryd.func20, Tryd.ntmps20
    go_wp2_with (go_at_call 38; refine (tvalid_any _ _ (by unfold maxLen; omega)).mono ?_; rintro e w' ⟨rfl, rfl⟩; rw [HV.out])
    go_loopw [5, 6, 7] (fun v f i wr => WRel s w v f i wr) (fun _ _ i _ => s.size + 1 - (intOf i).toNat)
    case atStart => exact ⟨0, 0, [], Nat.zero_le _, rfl, rfl, rfl, World.ownsRow_nil _ _ _ _, Below.refl _ _⟩
    case round =>
      obtain ⟨k, f, L, hk, rfl, rfl, hw, hown, hb⟩ := hrel
      have hfk : f ≤ k ∧ L.length ≤ k := by have := wst_le (fAt s.data.toList) k; rw [hw] at this; exact this
      obtain ⟨hf1, hf2⟩ := hfk
      have HW := Lib.hid hw
      clear hw
      by_cases hend : k ≤ s.size
      · by_cases hlt : k < s.size
        · have hbt : (s[k].toNat : Int) ≤ 255 := by have := s[k].toNat_lt; omega
          cases hl : ltr (s[k].toNat : Int) with
          | true =>
            have HL := Lib.hid hl
            clear hl
            go_wp2_with (go_at_call 39; refine (letter_any _ _ (by omega) (by omega)).mono ?_; rintro e w' ⟨rfl, rfl⟩; rw [HL.out])
            go_roundw
            case rel => exact ⟨k + 1, f, L, by omega, by go_num, rfl, wst_yes HW.out (by rw [fAt_lt hlt]; exact HL.out), hown, hb⟩
            case measure => simp [intOf]; omega
          | false =>
            have HL := Lib.hid hl
            clear hl
            by_cases hfl : f < k
            · go_wp2_with (first | (go_at_call 39; refine (letter_any _ _ (by omega) (by omega)).mono ?_; rintro e w' ⟨rfl, rfl⟩; rw [HL.out]) | (at_builtin; refine wpList_append_own _ rfl _ _ 41 rfl w.heap.size 46 i0 (.agg #[.int .i64 0, .int .i64 0]) 2 16 Tryd.underlying41 hi hz0 hz1 hz2 rfl (by decide) _ _ _ rfl (hown.alloc _) ⟨wr.heap.size, 0, none⟩ 1 1 [.int .i64 (f : Int), .int .i64 (k : Int)] rfl rfl (new_two _ _ _ _) (one_two _ _ _ _) (by unfold maxLen; omega) (by omega) (by have := hb.size; simp; omega) ?_; intro v' w1 hown' hgrow _; have R := Lib.hid (wrel_cut (by omega) HW.out (by rw [fAt_lt hlt]; exact HL.out) hfl hown hb hown' hgrow); clear hown' hgrow))
              go_roundw
              case rel => exact R.out
              case measure => simp [intOf]; omega
            · go_wp2_with (go_at_call 39; refine (letter_any _ _ (by omega) (by omega)).mono ?_; rintro e w' ⟨rfl, rfl⟩; rw [HL.out])
              go_roundw
              case rel => exact ⟨k + 1, k + 1, L, by omega, by go_num, by go_num, wst_skip HW.out (by rw [fAt_lt hlt]; exact HL.out) hfl, hown, hb⟩
              case measure => simp [intOf]; omega
        · by_cases hfl : f < k
          · go_wp2_with (at_builtin; refine wpList_append_own _ rfl _ _ 41 rfl w.heap.size 46 i0 (.agg #[.int .i64 0, .int .i64 0]) 2 16 Tryd.underlying41 hi hz0 hz1 hz2 rfl (by decide) _ _ _ rfl (hown.alloc _) ⟨wr.heap.size, 0, none⟩ 1 1 [.int .i64 (f : Int), .int .i64 (k : Int)] rfl rfl (new_two _ _ _ _) (one_two _ _ _ _) (by unfold maxLen; omega) (by omega) (by have := hb.size; simp; omega) ?_; intro v' w1 hown' hgrow _; have R := Lib.hid (wrel_cut (by omega) HW.out (fAt_ge (by omega)) hfl hown hb hown' hgrow); clear hown' hgrow)
            go_roundw
            case rel => exact R.out
            case measure => simp [intOf]; omega
          · go_wp2
            go_roundw
            case rel => exact ⟨k + 1, k + 1, L, by omega, by go_num, by go_num, wst_skip HW.out (fAt_ge (by omega)) hfl, hown, hb⟩
            case measure => simp [intOf]; omega
      · go_wp2
        go_ret2
        exact words_post HV.out (by omega) HW.out hown hb
  · rcases vErr_val s.data.toList with h0 | h0 | h0
    · exact absurd h0 hv
    all_goals
      have HV := Lib.hid hv
      have H0 := Lib.hid h0
      clear hv h0
      go_enter Tryd.func20, Tryd.ntmps20
      go_wp2_with (go_at_call 38; refine (tvalid_any _ _ hs).mono ?_; rintro e w' ⟨rfl, rfl⟩; rw [H0.out])
      go_ret2
      exact words_err HV.out H0.out
end Go.Proofs.YtpmdfpfbnmoinaaDoor
