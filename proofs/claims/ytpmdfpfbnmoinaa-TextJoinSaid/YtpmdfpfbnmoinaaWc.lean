/- Contracts of the reference's letters and words. -/
import Derived.Test.YtpmdfpfbnmoinaaWb
namespace Go.Proofs.Ytpmdfpfbnmoinaa
open Go.RowKit
set_option linter.unusedVariables false

set_option maxHeartbeats 1000000 in
theorem rletter_any (n : Int) (w : World) (h0 : 0 ≤ n) (h1 : n ≤ 255) :
    Calls Try.prog 27 #[.int .u8 n] w fun e w' => e = .returned (.bool (ltr n)) ∧ w = w' := by
  by_cases h2 : n < 32
  · have HL := Lib.hid (show ltr n = false by simp [ltr]; omega)
    go_enter Try.func27, Try.ntmps27
    go_wp2
    go_ret
    exact ⟨ret_bool HL.out.symm, rfl⟩
  · by_cases h3 : 126 < n
    · have HL := Lib.hid (show ltr n = false by simp [ltr]; omega)
      go_enter Try.func27, Try.ntmps27
      go_wp2
      go_ret
      exact ⟨ret_bool HL.out.symm, rfl⟩
    · have h4 : 32 ≤ n := by omega
      have h5 : n ≤ 126 := by omega
      go_enter Try.func27, Try.ntmps27
      go_wp2
      go_loop [3] (fun i => ∃ k : Nat, k ≤ 15 ∧ i = .int .i64 k ∧ ∀ j, j < k → punL[j]? ≠ some n) (fun i => 15 - (intOf i).toNat)
      case atStart => exact ⟨0, Nat.zero_le _, rfl, fun j hj => by omega⟩
      case round =>
        obtain ⟨k, hk, rfl, hall⟩ := hrel
        have HA := Lib.hid hall
        clear hall
        by_cases hlt : k < 15
        · have HP := Lib.hid (pun_at k hlt)
          go_wp2
          · have ht : ((((⟨#[32, 46, 44, 59, 58, 33, 63, 34, 45, 91, 93, 60, 62, 123, 125]⟩ : ByteArray)[k]'(by exact hlt)).toNat : Int) == n) = true := by assumption
            have HE := Lib.hid (show ltr n = false from ltr_hit (k := k) (by rw [HP.out (by exact hlt)]; simpa using ht))
            go_ret
            exact ⟨ret_bool HE.out.symm, rfl⟩
          · have ht : ((((⟨#[32, 46, 44, 59, 58, 33, 63, 34, 45, 91, 93, 60, 62, 123, 125]⟩ : ByteArray)[k]'(by exact hlt)).toNat : Int) == n) = false := by assumption
            go_round
            case rel => exact ⟨k + 1, by omega, by go_num, fun j hj => by
              by_cases e : j = k
              · subst e; rw [HP.out (by exact hlt)]; simpa using ht
              · exact HA.out j (by omega)⟩
            case measure => simp [intOf]; omega
        · have HE := Lib.hid (show ltr n = true from ltr_miss h4 h5 (fun j hj => HA.out j (by omega)))
          go_wp2
          go_ret
          exact ⟨ret_bool HE.out.symm, rfl⟩

def RRel (s : ByteArray) (w : World) (v i : Value) (wr : World) : Prop :=
  ∃ (k f : Nat) (L : List (Nat × Nat)), k ≤ s.size ∧ i = .int .i64 (k : Int) ∧ wst (fAt s.data.toList) k = (L, f) ∧
    wr.ownsRow w.heap.size 31 2 v (rst L f k).length (pairCells (rst L f k)) ∧ Below w.heap.size w wr

theorem rrel_more {s : ByteArray} {w wr w1 : World} {v v' : Value} {o : Obj} {f : Nat} {L : List (Nat × Nat)} (hk : f < s.size) (hw : wst (fAt s.data.toList) (f + 1) = (L, f)) (he : rst L f (f + 1) = L ++ [(f, f + 1)])
    (hown : wr.ownsRow w.heap.size 31 2 v L.length (pairCells L)) (hb : Below w.heap.size w wr)
    (hown' : w1.ownsRow w.heap.size 31 2 v' (L.length + 1) (pairCells L ++ [.int .i64 (f : Int), .int .i64 ((f : Int) + 1)])) (hgrow : (wr.alloc o).grownBy w1 v.ownBlock) :
    RRel s w v' (.int .i64 ((f : Int) + 1)) w1 :=
  ⟨f + 1, f, L, by omega, by go_num, hw, by rw [he, pairCells_snoc]; simpa using hown', (hb.alloc hb.size o).grown hgrow (by have := hb.size; simp; omega) (fun j hj => (hown.lt j hj).1)⟩
theorem rwords_post {s : ByteArray} {w wr : World} {v : Value} {L : List (Nat × Nat)} {f : Nat} (hv : vErr s.data.toList = 0) (hw : wst (fAt s.data.toList) s.size = (L, f))
    (hown : wr.ownsRow w.heap.size 31 2 v (rst L f s.size).length (pairCells (rst L f s.size))) (hb : Below w.heap.size w wr) : WordsPost s.data.toList w (.returned (.tuple #[v, .int .i64 0])) wr := by
  have e : spansOf s.data.toList = rst L f s.size := by rw [spansOf_ok hv, sizeB, rst_end hw (fAt_ge (Nat.le_refl _))]
  obtain ⟨A, c, rfl⟩ := own_slice hown
  exact ⟨A, c, by rw [e, hv], by rw [e]; exact hown, hb⟩

set_option maxHeartbeats 1000000 in
theorem rwords_any (s : ByteArray) (w : World) (hs : s.size ≤ maxLen) :
    Calls Try.prog 13 #[.string s] w (WordsPost s.data.toList w) := by
  by_cases hv : vErr s.data.toList = 0
  · have h120 : s.size ≤ 120 := by have := vErr_small hv; rw [sizeB] at this; exact this
    have HV := Lib.hid hv
    clear hv hs
    obtain ⟨i0, hi, hz0, hz1, hz2⟩ := info_parts Try.infoSpan
    go_enter Try.func13, Try.ntmps13
    go_wp2_with (go_at_call 11; refine (rvalid_any _ _ (by unfold maxLen; omega)).mono ?_; rintro e w' ⟨rfl, rfl⟩; rw [HV.out])
    go_loopw [5, 6] (fun v i wr => RRel s w v i wr) (fun _ i _ => s.size - (intOf i).toNat)
    case atStart => exact ⟨0, 0, [], Nat.zero_le _, rfl, rfl, World.ownsRow_nil _ _ _ _, Below.refl _ _⟩
    case round =>
      obtain ⟨k, f, L, hk, rfl, hw, hown, hb⟩ := hrel
      have hfk : f ≤ k ∧ L.length ≤ k := by have := wst_le (fAt s.data.toList) k; rw [hw] at this; exact this
      obtain ⟨hf1, hf2⟩ := hfk
      by_cases hlt : k < s.size
      · have hbt : (s[k].toNat : Int) ≤ 255 := by have := s[k].toNat_lt; omega
        cases hl : ltr (s[k].toNat : Int) with
        | false =>
          have HL := Lib.hid hl
          have HR := Lib.hid (rst_false hw (by rw [fAt_lt hlt]; exact hl))
          clear hl hw
          go_wp2_with (go_at_call 27; refine (rletter_any _ _ (by omega) (by omega)).mono ?_; rintro e w' ⟨rfl, rfl⟩; rw [HL.out])
          go_roundw
          case rel =>
            obtain ⟨L', f', h1, h2⟩ := HR.out
            exact ⟨k + 1, f', L', by omega, by go_num, h1, by rw [h2]; exact hown, hb⟩
          case measure => simp [intOf]; omega
        | true =>
          have HW' := Lib.hid (wst_yes hw (show fAt s.data.toList k = true by rw [fAt_lt hlt]; exact hl))
          have HL := Lib.hid hl
          clear hl
          by_cases hfl : f < k
          · obtain ⟨hk0, hp⟩ := (wst_prev hw).1 hfl
            rw [fAt_lt (by omega)] at hp
            have HP := Lib.hid hp
            have hbp : (s[k - 1].toNat : Int) ≤ 255 := by have := s[k - 1].toNat_lt; omega
            clear hp hw
            have e : rst L f k = L ++ [(f, k)] := by simp [rst, hfl]
            rw [e] at hown
            simp only [List.length_append, List.length_singleton] at hown
            obtain ⟨g, c, hvv, hB, hlt'⟩ := hown.form (by omega)
            subst hvv
            have hcell : wr.cell? ⟨g, L.length * 2 + 1, none⟩ = some (.int .i64 (k : Int)) := by
              rw [hown.cellAt _ (by omega), pairCells_snoc, List.getElem?_append_right (by rw [pairCells_length]; omega), pairCells_length, show L.length * 2 + 1 - L.length * 2 = 1 from by omega]; rfl
            have hfz := hown.frozenAt (L.length * 2 + 1)
            have HO := Lib.hid hown
            clear hown e
            go_wp2_with (go_at_call 27; refine (rletter_any _ _ (by omega) (by omega)).mono ?_; rintro e w' ⟨rfl, rfl⟩; first | rw [HL.out] | rw [HP.out])
            go_roundw
            case rel =>
              refine ⟨k + 1, f, L, by omega, by go_num, HW'.out, ?_, hb.setCell hB _⟩
              rw [show rst L f (k + 1) = L ++ [(f, k + 1)] by unfold rst; rw [if_pos (by omega)], ← pairCells_set L f k (k + 1)]
              simpa using (HO.out.stored (L.length * 2 + 1) _).1
            case measure => simp [intOf]; omega
          · have hfk2 : f = k := by omega
            subst hfk2
            have hpv : ¬ (0 < f ∧ fAt s.data.toList (f - 1) = true) := fun h => hfl ((wst_prev hw).2 h)
            have e : rst L f f = L := by simp [rst]
            rw [e] at hown
            have HE := Lib.hid (show rst L f (f + 1) = L ++ [(f, f + 1)] by unfold rst; rw [if_pos (by omega)])
            clear hw e
            by_cases hk0 : 0 < f
            · have hp : fAt s.data.toList (f - 1) = false := by simpa [hk0] using hpv
              rw [fAt_lt (by omega)] at hp
              have HP := Lib.hid hp
              have hbp : (s[f - 1].toNat : Int) ≤ 255 := by have := s[f - 1].toNat_lt; omega
              clear hp hpv
              go_wp2_with (first | (go_at_call 27; refine (rletter_any _ _ (by omega) (by omega)).mono ?_; rintro e w' ⟨rfl, rfl⟩; first | rw [HL.out] | rw [HP.out]) | (at_builtin; refine wpList_append_own _ rfl _ _ 26 rfl w.heap.size 31 i0 (.agg #[.int .i64 0, .int .i64 0]) 2 16 Try.underlying26 hi hz0 hz1 hz2 rfl (by decide) _ _ _ rfl (hown.alloc _) ⟨wr.heap.size, 0, none⟩ 1 1 [.int .i64 (f : Int), .int .i64 ((f : Int) + 1)] rfl rfl (new_two _ _ _ _) (one_two _ _ _ _) (by unfold maxLen; omega) (by omega) (by have := hb.size; simp; omega) ?_; intro v' w1 hown' hgrow _; have R := Lib.hid (rrel_more hlt HW'.out HE.out hown hb hown' hgrow); clear hown' hgrow))
              go_roundw
              case rel => exact R.out
              case measure => simp [intOf]; omega
            · clear hpv
              obtain rfl : f = 0 := by omega
              go_wp2_with (first | (go_at_call 27; refine (rletter_any _ _ (by omega) (by omega)).mono ?_; rintro e w' ⟨rfl, rfl⟩; rw [HL.out]) | (at_builtin; refine wpList_append_own _ rfl _ _ 26 rfl w.heap.size 31 i0 (.agg #[.int .i64 0, .int .i64 0]) 2 16 Try.underlying26 hi hz0 hz1 hz2 rfl (by decide) _ _ _ rfl (hown.alloc _) ⟨wr.heap.size, 0, none⟩ 1 1 [.int .i64 0, .int .i64 1] rfl rfl (new_two _ _ _ _) (one_two _ _ _ _) (by unfold maxLen; omega) (by omega) (by have := hb.size; simp; omega) ?_; intro v' w1 hown' hgrow _; have R := Lib.hid (rrel_more (f := 0) hlt HW'.out HE.out hown hb hown' hgrow); clear hown' hgrow))
              go_roundw
              case rel => exact R.out
              case measure => simp [intOf]; omega
      · go_wp2
        go_ret2
        obtain rfl : k = s.size := by omega
        exact rwords_post HV.out hw hown hb
  · rcases vErr_val s.data.toList with h0 | h0 | h0
    · exact absurd h0 hv
    all_goals
      have HV := Lib.hid hv
      have H0 := Lib.hid h0
      clear hv h0
      go_enter Try.func13, Try.ntmps13
      go_wp2_with (go_at_call 11; refine (rvalid_any _ _ hs).mono ?_; rintro e w' ⟨rfl, rfl⟩; rw [H0.out])
      go_ret2
      exact words_err HV.out H0.out
end Go.Proofs.Ytpmdfpfbnmoinaa
