/- What the statements about valid patterns and about letters answer: true, whatever the input. -/
import Derived.Test.YtlkigmlgbnlkaaaDoorPn
import Derived.Test.YtlkigmlgbnlkaaaDoorPh
import Derived.Test.YtlkigmlgbnlkaaaDoorPq
namespace Go.Proofs.YtlkigmlgbnlkaaaDoor
open Go.RowKit
set_option linter.unusedVariables false

theorem val_eqv {p : ByteArray} {x : Int} (w : World) (hp : p.size ≤ maxLen) (h : x = pErr p.data.toList) : Calls Tryd.prog 16 #[.string p] w fun e w' => e = .returned (.int .i64 x) ∧ w = w' := by rw [h]; exact pvalid_any p w hp
theorem rval_eqv {p : ByteArray} {x : Int} (w : World) (hp : p.size ≤ maxLen) (h : x = pErr p.data.toList) : Calls Tryd.prog 17 #[.string p] w fun e w' => e = .returned (.int .i64 x) ∧ w = w' := by rw [h]; exact rvalid_any p w hp
theorem mar_eqv {p : ByteArray} {x : Int} (w : World) (hp : p.size ≤ maxLen) (h : x = mErr p.data.toList) : Calls Tryd.prog 18 #[.string p] w fun e w' => e = .returned (.int .i64 x) ∧ w = w' := by rw [h]; exact pmarked_any p w hp
theorem rmar_eqv {p : ByteArray} {x : Int} (w : World) (hp : p.size ≤ maxLen) (h : x = mErr p.data.toList) : Calls Tryd.prog 19 #[.string p] w fun e w' => e = .returned (.int .i64 x) ∧ w = w' := by rw [h]; exact rmarked_any p w hp
theorem letters_len (l : List UInt8) : (lettersVal l).1.length ≤ l.length := by
  unfold lettersVal
  split
  · split
    · simp
    · rw [letR_len]; exact List.countP_le_length
  · simp
/-- Letters, with its answer named. -/
def LetPost (L : List Int) (x : Int) (w : World) (e : Ending) (w' : World) : Prop := ∃ A c, e = .returned (.tuple #[.slice A L.length c, .int .i64 x]) ∧ IntsIn w' A L ∧ Below w.heap.size w w'
theorem let_post {l : List UInt8} {L : List Int} {x : Int} {w w' : World} {e : Ending} (h : lettersVal l = (L, x)) (hp : LettersPost l w e w') : LetPost L x w e w' := by
  obtain ⟨A, c, he, hown, hb⟩ := hp
  rw [h] at he hown
  exact ⟨A, c, he, ints_own hown rfl, hb⟩
theorem btwn {w w1 : World} {n : Nat} (h : Below w.heap.size w w1) : Below w.heap.size w (w1.drewN n) := below_drewN h n

set_option maxHeartbeats 8000000 in
theorem lawvalid_any (p : ByteArray) (w : World) (hp : p.size ≤ maxLen) (hm : MaxAt w) :
    Calls Tryd.prog 3 #[.string p] w fun e w' => e = .returned (.bool true) ∧ Below w.heap.size w w' := by
  have HM := Lib.hid hm
  clear hm
  by_cases hbig : 300 < p.size
  · go_enter Tryd.func3, Tryd.ntmps3
    go_wp2_with fail
    refine (awake_any _ HM.out).mono ?_
    rintro e w1 ⟨rfl, hb1⟩
    go_wp2_with fail
    refine (awake_any _ (HM.out.below hb1)).mono ?_
    rintro e w2 ⟨rfl, hb2⟩
    go_wp2_with fail
    go_ret
    exact ⟨rfl, btwo hb1 hb2⟩
  · have h300 : p.size ≤ 300 := by omega
    obtain ⟨L, hL⟩ : ∃ L, L = (lettersVal p.data.toList).1 := ⟨_, rfl⟩
    obtain ⟨g, hg⟩ : ∃ g, g = (lettersVal p.data.toList).2 := ⟨_, rfl⟩
    obtain ⟨x, hx⟩ : ∃ x, x = pErr p.data.toList := ⟨_, rfl⟩
    obtain ⟨y, hy⟩ : ∃ y, y = mErr p.data.toList := ⟨_, rfl⟩
    obtain ⟨a, ha⟩ : ∃ a : ByteArray, (⟨(plainVal p.data.toList).1.toArray⟩ : ByteArray) = a := ⟨_, rfl⟩
    obtain ⟨z, hz⟩ : ∃ z : Int, (plainVal p.data.toList).2 = z := ⟨_, rfl⟩
    have HLV := Lib.hid (show lettersVal p.data.toList = (L, g) by rw [hL, hg])
    have HX := Lib.hid hx
    have HY := Lib.hid hy
    have HA := Lib.hid ha
    have HZ := Lib.hid hz
    have hLn : L.length ≤ 300 := by
      have := letters_len p.data.toList
      rw [← hL, sizeB] at this; omega
    obtain ⟨n, hn⟩ : ∃ n, n = L.length := ⟨_, rfl⟩
    have HN := Lib.hid hn
    have hn300 : n ≤ 300 := by omega
    have HT := Lib.hid (show g = 0 → textVal L = (p.data.toList, 0) from fun h => by rw [hL]; exact text_letters (by rw [← hg]; exact h))
    clear hL hg hx hy ha hz hLn
    clear hn
    go_enter Tryd.func3, Tryd.ntmps3
    go_wp2_with fail
    refine (awake_any _ HM.out).mono ?_
    rintro e w1 ⟨rfl, hb1⟩
    have HB1 := Lib.hid hb1
    clear hb1
    go_wp2_with fail
    refine (pplain_any p _ hp (HM.out.below HB1.out)).mono ?_
    rintro e w2 ⟨rfl, hb2⟩
    rw [HA.out, HZ.out]
    have HB2 := Lib.hid (btwo HB1.out hb2)
    clear hb2
    go_wp2_with fail
    refine (rplain_any p _ hp).mono ?_
    rintro e w3 ⟨rfl, hb3⟩
    rw [HA.out, HZ.out]
    have HB3 := Lib.hid (btwo HB2.out hb3)
    clear hb3
    go_wp2_with fail
    refine ((pletters_any p _ hp (HM.out.below HB3.out)).mono (fun _ _ h => let_post HLV.out h)).mono ?_
    rintro e w4 ⟨A, c, rfl, hi4, hb4⟩
    rw [← HN.out]
    have HI4 := Lib.hid hi4
    have HB4 := Lib.hid (btwo HB3.out hb4)
    clear hi4 hb4
    go_wp2_with fail
    refine ((rletters_any p _ hp).mono (fun _ _ h => let_post HLV.out h)).mono ?_
    rintro e w5 ⟨C, d, rfl, hi5, hb5⟩
    rw [← HN.out]
    have HI5 := Lib.hid hi5
    have HI45 := Lib.hid (HI4.out.below hb5)
    have HB5 := Lib.hid (btwo HB4.out hb5)
    clear hi5 hb5
    go_wp2_with fail
    refine (val_eqv _ hp HX.out).mono ?_
    rintro e w' ⟨rfl, rfl⟩
    go_wp2_with fail
    refine (rval_eqv _ hp HX.out).mono ?_
    rintro e w' ⟨rfl, rfl⟩
    go_wp2_with fail
    refine (mar_eqv _ hp HY.out).mono ?_
    rintro e w' ⟨rfl, rfl⟩
    go_wp2_with fail
    refine (rmar_eqv _ hp HY.out).mono ?_
    rintro e w' ⟨rfl, rfl⟩
    go_wp2_with fail
    refine (eqi_any L L n n A C c d _ HN.out HN.out (by omega) (by omega) HI45.out HI5.out).mono ?_
    rintro e w6 ⟨rfl, q, rfl⟩
    rw [show decide (L = L) = true from decide_eq_true rfl]
    by_cases hg0 : g = 0
    · subst hg0
      have HT2 := Lib.hid (HT.out rfl)
      go_wp2_with fail
      refine (ptext_any L n c A _ HN.out (by omega) (HI45.out.below (below_drewN (Below.refl _ _) _))).mono ?_
      rintro e w7 ⟨rfl, hb7⟩
      rw [HT2.out]
      go_wp2_with fail
      go_ret
      exact ⟨ret_bool (by simp), btwo (below_drewN HB5.out _) hb7⟩
    · have e1 : (g == 0) = false := by simp [hg0]
      have e2 : (g != 0) = true := by simp [hg0]
      clear hg0
      go_wp2_with fail
      go_ret
      exact ⟨rfl, below_drewN HB5.out _⟩

theorem clone_any (L : List Int) (n c : Nat) (A : Option Addr) (w : World) (hl : n = L.length) (hn : n ≤ 1000000) (hA : IntsIn w A L) :
    Calls Tryd.prog 22 #[.slice A n c] w fun e w' => ∃ C d, e = .returned (.slice C n d) ∧ IntsIn w' C L ∧ Below w.heap.size w w' := by
  by_cases h0 : 0 < n
  · obtain ⟨b, off, rfl, _, hc⟩ := hA (by omega)
    refine (Tryd.slices_Clone_int b off n c L w (by omega) (by omega) hc).mono ?_
    rintro e w' ⟨v, rfl, hown, _, hb⟩
    obtain ⟨C, d, rfl⟩ := own_slice hown
    have e1 : L.take n = L := List.take_of_length_le (by omega)
    rw [e1] at hown
    exact ⟨C, d, rfl, ints_own hown hl, hb⟩
  · obtain rfl : n = 0 := by omega
    have hL : L = [] := List.eq_nil_of_length_eq_zero hl.symm
    subst hL
    cases A with
    | none =>
      refine (Tryd.slices_Clone_int_nil 0 c w).mono ?_
      rintro e w' ⟨rfl, rfl⟩
      exact ⟨none, 0, rfl, fun h => by simp at h, Below.refl _ _⟩
    | some a =>
      refine (Tryd.slices_Clone_int_zero a c w).mono ?_
      rintro e w' ⟨v, rfl, hown, _, hb⟩
      obtain ⟨C, d, rfl⟩ := own_slice hown
      exact ⟨C, d, rfl, fun h => by simp at h, hb⟩
set_option maxHeartbeats 8000000 in
theorem lawtext_any (L : List Int) (n c : Nat) (A : Option Addr) (w : World) (hl : n = L.length) (hnc : n ≤ c) (hcr : c ≤ 17592186044416) (hA : IntsIn w A L) (hm : MaxAt w) :
    Calls Tryd.prog 4 #[.slice A n c] w fun e w' => e = .returned (.bool true) ∧ Below w.heap.size w w' := by
  have HM := Lib.hid hm
  have HA := Lib.hid hA
  clear hm hA
  by_cases hbig : 100 < n
  · clear hl
    go_enter Tryd.func4, Tryd.ntmps4
    go_wp2_with fail
    refine (awake_any _ HM.out).mono ?_
    rintro e w1 ⟨rfl, hb1⟩
    go_wp2_with fail
    refine (awake_any _ (HM.out.below hb1)).mono ?_
    rintro e w2 ⟨rfl, hb2⟩
    go_wp2_with fail
    go_ret
    exact ⟨rfl, btwo hb1 hb2⟩
  · have h100 : n ≤ 100 := by omega
    obtain ⟨s, hs⟩ : ∃ s : ByteArray, (⟨(textVal L).1.toArray⟩ : ByteArray) = s := ⟨_, rfl⟩
    obtain ⟨x, hx⟩ : ∃ x : Int, (textVal L).2 = x := ⟨_, rfl⟩
    have HS := Lib.hid hs
    have HX := Lib.hid hx
    have hsz : s.size ≤ 1000 := by
      have h1 : s.size = (textVal L).1.length := by rw [← hs]; rfl
      rw [h1]
      unfold textVal
      have := textL_len L
      split
      · simp
      · split
        · simp only; omega
        · simp
    have HLV := Lib.hid (show x = 0 → lettersVal s.data.toList = (L, 0) from fun h => by
      have h1 : s.data.toList = (textVal L).1 := by rw [← hs]
      rw [h1]; exact letters_text (by rw [hx]; exact h))
    have HL := Lib.hid hl
    clear hs hx hl hbig
    go_enter Tryd.func4, Tryd.ntmps4
    go_wp2_with fail
    refine (awake_any _ HM.out).mono ?_
    rintro e w1 ⟨rfl, hb1⟩
    have HB1 := Lib.hid hb1
    have HA1 := Lib.hid (HA.out.below hb1)
    clear hb1
    go_wp2_with fail
    refine (clone_any L n c A _ HL.out (by omega) HA1.out).mono ?_
    rintro e w2 ⟨C, d, rfl, hi2, hb2⟩
    have HI2 := Lib.hid hi2
    have HA2 := Lib.hid (HA1.out.below hb2)
    have HB2 := Lib.hid (btwo HB1.out hb2)
    clear hi2 hb2
    go_wp2_with fail
    refine (ptext_any L n d C _ HL.out (by omega) HI2.out).mono ?_
    rintro e w3 ⟨rfl, hb3⟩
    rw [HS.out, HX.out]
    have HA3 := Lib.hid (HA2.out.below hb3)
    have HB3 := Lib.hid (btwo HB2.out hb3)
    clear hb3
    go_wp2_with fail
    refine (rtext_any L n c A _ HL.out (by omega) HA3.out).mono ?_
    rintro e w4 ⟨rfl, hb4⟩
    rw [HS.out, HX.out]
    have HA4 := Lib.hid (HA3.out.below hb4)
    have HB4 := Lib.hid (btwo HB3.out hb4)
    clear hb4
    by_cases hx0 : x = 0
    · subst hx0
      have HLV2 := Lib.hid (HLV.out rfl)
      go_wp2_with fail
      refine ((pletters_any s _ (by unfold maxLen; omega) (HM.out.below HB4.out)).mono (fun _ _ h => let_post HLV2.out h)).mono ?_
      rintro e w5 ⟨D, f, rfl, hi5, hb5⟩
      rw [← HL.out]
      have HI5 := Lib.hid hi5
      have HA5 := Lib.hid (HA4.out.below hb5)
      have HB5 := Lib.hid (btwo HB4.out hb5)
      clear hi5 hb5
      go_wp2_with fail
      refine (eqi_any L L n n A D c f _ HL.out HL.out (by omega) (by omega) HA5.out HI5.out).mono ?_
      rintro e w6 ⟨rfl, q, rfl⟩
      rw [show decide (L = L) = true from decide_eq_true rfl]
      go_wp2_with fail
      go_ret
      exact ⟨ret_bool (by simp), below_drewN HB5.out _⟩
    · have e1 : (x == 0) = false := by simp [hx0]
      have e2 : (x != 0) = true := by simp [hx0]
      clear hx0
      go_wp2_with fail
      go_ret
      exact ⟨ret_bool (by simp), HB4.out⟩
end Go.Proofs.YtlkigmlgbnlkaaaDoor
