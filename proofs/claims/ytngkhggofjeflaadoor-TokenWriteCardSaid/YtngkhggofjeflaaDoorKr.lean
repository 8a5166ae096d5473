/- What the statement about equal lists of tokens answers: true, whatever the lists. -/
import Derived.Test.YtngkhggofjeflaaDoorKq
namespace Go.Proofs.YtngkhggofjeflaaDoor
open Go.RowKit
set_option linter.unusedVariables false
set_option maxRecDepth 100000

/-- Lists of tokens as they come in. -/
structure TokArg (w : World) (A : Option Addr) (n c : Nat) (L : List Tok) : Prop where
  len : n = L.length
  cap : n ≤ 17592186044416
  texts : ∀ x ∈ L, x.t.length ≤ 140737488355328
  at_ : ToksIn w A L
theorem TokArg.below {w w' : World} {A : Option Addr} {n c : Nat} {L : List Tok} (h : TokArg w A n c L) (hb : Below w.heap.size w w') : TokArg w' A n c L := ⟨h.len, h.cap, h.texts, h.at_.below hb⟩
theorem TokArg.few {w : World} {A : Option Addr} {n c : Nat} {L : List Tok} (h : TokArg w A n c L) {b : Bool} (hb : fewB L = b) :
    Calls Tryd.prog 16 #[.slice A n c] w fun e w' => e = .returned (.bool b) ∧ ∃ q, w' = w.drewN q := by
  rw [← hb]; exact few_any L n c A w h.len h.cap h.texts h.at_
theorem few_len {L : List Tok} {n : Nat} (hn : n = L.length) (h : fewB L = true) : n ≤ 400 := by have := (few_yes h).1; omega
theorem same_is {L M : List Tok} {b : Bool} (h : sameL L M = b) {n m c d : Nat} {A C : Option Addr} {w : World} (hA : TokArg w A n c L) (hC : TokArg w C m d M) (hn : n ≤ 400) (hm : m ≤ 400) :
    Calls Tryd.prog 21 #[.slice A n c, .slice C m d] w fun e w' => e = .returned (.bool b) ∧ ∃ q, w' = w.drewN q := by
  rw [← h]; exact same_any L M n m c d A C w hA.len hC.len (by omega) (by omega) hA.at_ hC.at_
theorem rsame_is {L M : List Tok} {b : Bool} (h : sameL L M = b) {n m c d : Nat} {A C : Option Addr} {w : World} (hA : TokArg w A n c L) (hC : TokArg w C m d M) (hn : n ≤ 400) (hm : m ≤ 400) :
    Calls Tryd.prog 20 #[.slice A n c, .slice C m d] w fun e w' => e = .returned (.bool b) ∧ ∃ q, w' = w.drewN q := by
  rw [← h]; exact rsame_any L M n m c d A C w hA.len hC.len (by omega) (by omega) hA.at_ hC.at_

set_option maxHeartbeats 16000000 in
theorem lawsame_any (a b c : List Tok) (n1 n2 n3 c1 c2 c3 : Nat) (A B C : Option Addr) (w : World) (hA : TokArg w A n1 c1 a) (hB : TokArg w B n2 c2 b) (hC : TokArg w C n3 c3 c) :
    Calls Tryd.prog 10 #[.slice A n1 c1, .slice B n2 c2, .slice C n3 c3] w fun e w' => e = .returned (.bool true) ∧ Below w.heap.size w w' := by
  have HA := Lib.hid hA
  have HB := Lib.hid hB
  have HC := Lib.hid hC
  have hcA := hA.cap
  have hcB := hB.cap
  have hcC := hC.cap
  clear hA hB hC
  obtain ⟨fa, hfa⟩ : ∃ fa, fewB a = fa := ⟨_, rfl⟩
  obtain ⟨fb, hfb⟩ : ∃ fb, fewB b = fb := ⟨_, rfl⟩
  obtain ⟨fc, hfc⟩ : ∃ fc, fewB c = fc := ⟨_, rfl⟩
  have HFA := Lib.hid hfa
  have HFB := Lib.hid hfb
  have HFC := Lib.hid hfc
  go_enter Tryd.func10, Tryd.ntmps10
  go_wp2_with fail
  refine (awake_any _).mono ?_
  rintro e w1 ⟨rfl, hb1⟩
  have HB1 := Lib.hid hb1
  have HA1 := Lib.hid (HA.out.below hb1)
  have HBB1 := Lib.hid (HB.out.below hb1)
  have HC1 := Lib.hid (HC.out.below hb1)
  clear hb1
  cases fa with
  | false =>
    clear hfa hfb hfc
    go_wp2_with fail
    refine (HA1.out.few HFA.out).mono ?_
    rintro e w2 ⟨rfl, hq⟩
    have HB2 := Lib.hid (btwo HB1.out (below_of_drewN hq))
    clear hq
    go_wp2_with fail
    refine (awake_any _).mono ?_
    rintro e w3 ⟨rfl, hb3⟩
    have HB3 := Lib.hid (btwo HB2.out hb3)
    clear hb3
    go_wp2_with fail
    go_ret
    exact ⟨rfl, HB3.out⟩
  | true =>
    have hn1 := few_len HA.out.len hfa
    go_wp2_with fail
    refine (HA1.out.few HFA.out).mono ?_
    rintro e w2 ⟨rfl, hq⟩
    have HB2 := Lib.hid (btwo HB1.out (below_of_drewN hq))
    have HA2 := Lib.hid (HA1.out.below (below_of_drewN hq))
    have HBB2 := Lib.hid (HBB1.out.below (below_of_drewN hq))
    have HC2 := Lib.hid (HC1.out.below (below_of_drewN hq))
    clear hq
    cases fb with
    | false =>
      clear hfa hfb hfc
      go_wp2_with fail
      refine (HBB2.out.few HFB.out).mono ?_
      rintro e w3 ⟨rfl, hq⟩
      have HB3 := Lib.hid (btwo HB2.out (below_of_drewN hq))
      clear hq
      go_wp2_with fail
      refine (awake_any _).mono ?_
      rintro e w4 ⟨rfl, hb4⟩
      have HB4 := Lib.hid (btwo HB3.out hb4)
      clear hb4
      go_wp2_with fail
      go_ret
      exact ⟨rfl, HB4.out⟩
    | true =>
      have hn2 := few_len HB.out.len hfb
      go_wp2_with fail
      refine (HBB2.out.few HFB.out).mono ?_
      rintro e w3 ⟨rfl, hq⟩
      have HB3 := Lib.hid (btwo HB2.out (below_of_drewN hq))
      have HA3 := Lib.hid (HA2.out.below (below_of_drewN hq))
      have HBB3 := Lib.hid (HBB2.out.below (below_of_drewN hq))
      have HC3 := Lib.hid (HC2.out.below (below_of_drewN hq))
      clear hq
      cases fc with
      | false =>
        clear hfa hfb hfc
        go_wp2_with fail
        refine (HC3.out.few HFC.out).mono ?_
        rintro e w4 ⟨rfl, hq⟩
        have HB4 := Lib.hid (btwo HB3.out (below_of_drewN hq))
        clear hq
        go_wp2_with fail
        refine (awake_any _).mono ?_
        rintro e w5 ⟨rfl, hb5⟩
        have HB5 := Lib.hid (btwo HB4.out hb5)
        clear hb5
        go_wp2_with fail
        go_ret
        exact ⟨rfl, HB5.out⟩
      | true =>
        have hn3 := few_len HC.out.len hfc
        clear hfa hfb hfc
        go_wp2_with fail
        refine (HC3.out.few HFC.out).mono ?_
        rintro e w4 ⟨rfl, hq⟩
        have HB4 := Lib.hid (btwo HB3.out (below_of_drewN hq))
        have HA4 := Lib.hid (HA3.out.below (below_of_drewN hq))
        have HBB4 := Lib.hid (HBB3.out.below (below_of_drewN hq))
        have HC4 := Lib.hid (HC3.out.below (below_of_drewN hq))
        clear hq
        obtain ⟨ab, hab⟩ : ∃ ab, sameL a b = ab := ⟨_, rfl⟩
        obtain ⟨bc, hbc⟩ : ∃ bc, sameL b c = bc := ⟨_, rfl⟩
        obtain ⟨ac, hac⟩ : ∃ ac, sameL a c = ac := ⟨_, rfl⟩
        have HAB := Lib.hid hab
        have HBC := Lib.hid hbc
        have HAC := Lib.hid hac
        have HBA := Lib.hid (show sameL b a = ab by rw [← hab]; exact sameL_symm b a)
        have HAA := Lib.hid (sameL_refl a)
        have htr : ab = true → bc = true → ac = true := fun h1 h2 => by
          rw [← hac]; exact sameL_trans (by rw [hab]; exact h1) (by rw [hbc]; exact h2)
        clear hab hbc hac
        cases ab <;> cases bc <;> cases ac
        all_goals first
          | exact absurd (htr rfl rfl) (by decide)
          | (clear htr
             go_wp2_with fail
             refine (same_is HAB.out HA4.out HBB4.out hn1 hn2).mono ?_
             rintro e w5 ⟨rfl, hq⟩
             have HB5 := Lib.hid (btwo HB4.out (below_of_drewN hq))
             have HA5 := Lib.hid (HA4.out.below (below_of_drewN hq))
             have HBB5 := Lib.hid (HBB4.out.below (below_of_drewN hq))
             have HC5 := Lib.hid (HC4.out.below (below_of_drewN hq))
             clear hq
             go_wp2_with fail
             refine (same_is HBC.out HBB5.out HC5.out hn2 hn3).mono ?_
             rintro e w6 ⟨rfl, hq⟩
             have HB6 := Lib.hid (btwo HB5.out (below_of_drewN hq))
             have HA6 := Lib.hid (HA5.out.below (below_of_drewN hq))
             have HBB6 := Lib.hid (HBB5.out.below (below_of_drewN hq))
             have HC6 := Lib.hid (HC5.out.below (below_of_drewN hq))
             clear hq
             go_wp2_with fail
             refine (same_is HAC.out HA6.out HC6.out hn1 hn3).mono ?_
             rintro e w7 ⟨rfl, hq⟩
             have HB7 := Lib.hid (btwo HB6.out (below_of_drewN hq))
             have HA7 := Lib.hid (HA6.out.below (below_of_drewN hq))
             have HBB7 := Lib.hid (HBB6.out.below (below_of_drewN hq))
             have HC7 := Lib.hid (HC6.out.below (below_of_drewN hq))
             clear hq
             go_wp2_with fail
             refine (rsame_is HAB.out HA7.out HBB7.out hn1 hn2).mono ?_
             rintro e w8 ⟨rfl, hq⟩
             have HB8 := Lib.hid (btwo HB7.out (below_of_drewN hq))
             have HA8 := Lib.hid (HA7.out.below (below_of_drewN hq))
             have HBB8 := Lib.hid (HBB7.out.below (below_of_drewN hq))
             have HC8 := Lib.hid (HC7.out.below (below_of_drewN hq))
             clear hq
             go_wp2_with fail
             refine (same_is HBA.out HBB8.out HA8.out hn2 hn1).mono ?_
             rintro e w9 ⟨rfl, hq⟩
             have HB9 := Lib.hid (btwo HB8.out (below_of_drewN hq))
             have HA9 := Lib.hid (HA8.out.below (below_of_drewN hq))
             have HBB9 := Lib.hid (HBB8.out.below (below_of_drewN hq))
             have HC9 := Lib.hid (HC8.out.below (below_of_drewN hq))
             clear hq
             go_wp2_with fail
             refine (same_is HAA.out HA9.out HA9.out hn1 hn1).mono ?_
             rintro e w10 ⟨rfl, hq⟩
             have HB10 := Lib.hid (btwo HB9.out (below_of_drewN hq))
             have HA10 := Lib.hid (HA9.out.below (below_of_drewN hq))
             have HBB10 := Lib.hid (HBB9.out.below (below_of_drewN hq))
             have HC10 := Lib.hid (HC9.out.below (below_of_drewN hq))
             clear hq
             go_wp2_with fail
             go_ret
             exact ⟨rfl, HB10.out⟩)
end Go.Proofs.YtngkhggofjeflaaDoor
