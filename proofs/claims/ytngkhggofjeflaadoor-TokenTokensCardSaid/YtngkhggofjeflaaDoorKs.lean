/- What the statement about writing tokens answers: true, whatever the tokens. -/
import Derived.Test.YtngkhggofjeflaaDoorKr
namespace Go.Proofs.YtngkhggofjeflaaDoor
open Go.RowKit
set_option linter.unusedVariables false
set_option maxRecDepth 100000

theorem set_at {L : List Tok} {k : Nat} {x : Tok} (h : (L.map (setL 1))[k]? = some x) : x.l = 1 := by
  rw [List.getElem?_map] at h
  cases hk : L[k]? with
  | none => rw [hk] at h; cases h
  | some y => rw [hk] at h; rw [← Option.some.inj h]; rfl
theorem few_small {L : List Tok} (h : fewB L = true) : ∀ x ∈ L, x.t.length ≤ 1000000 := fun x hx => by
  have h1 := sum_mem hx
  have h2 := (few_yes h).2
  omega

set_option maxHeartbeats 16000000 in
theorem lawwrite_any (L : List Tok) (n c : Nat) (A : Option Addr) (w : World) (hA : TokArg w A n c L) :
    Calls Tryd.prog 4 #[.slice A n c] w fun e w' => e = .returned (.bool true) ∧ Below w.heap.size w w' := by
  have HA := Lib.hid hA
  have hcA := hA.cap
  have HN := Lib.hid hA.len
  clear hA
  obtain ⟨fa, hfa⟩ : ∃ fa, fewB L = fa := ⟨_, rfl⟩
  have HFA := Lib.hid hfa
  go_enter Tryd.func4, Tryd.ntmps4
  go_wp2_with fail
  refine (awake_any _).mono ?_
  rintro e w1 ⟨rfl, hb1⟩
  have HB1 := Lib.hid hb1
  have HA1 := Lib.hid (HA.out.below hb1)
  clear hb1
  cases fa with
  | false =>
    clear hfa
    go_wp2_with fail
    refine (HA1.out.few HFA.out).mono ?_
    rintro e w2 ⟨rfl, hq⟩
    have HB2 := Lib.hid (btwo HB1.out (below_of_drewN hq))
    clear hq
    go_wp2_with fail
    refine (awake_any _).mono ?_
    rintro e w3 ⟨rfl, hb3⟩
    have HB3 := Lib.hid (btwo HB2.out hb3)
    clear hb3
    go_wp2_with fail
    go_ret
    exact ⟨rfl, HB3.out⟩
  | true =>
    have hn1 := few_len HN.out hfa
    have HS := Lib.hid (few_small hfa)
    obtain ⟨l, x, hw⟩ : ∃ l x, writeV L = (l, x) := ⟨_, _, rfl⟩
    have HW := Lib.hid hw
    obtain ⟨t, ht⟩ : ∃ t, bs l = t := ⟨_, rfl⟩
    have HT := Lib.hid ht
    have e9 : (t.toList == t.toList) = true := by simp
    go_wp2_with fail
    refine (HA1.out.few HFA.out).mono ?_
    rintro e w2 ⟨rfl, hq⟩
    have HB2 := Lib.hid (btwo HB1.out (below_of_drewN hq))
    have HA2 := Lib.hid (HA1.out.below (below_of_drewN hq))
    clear hq
    go_wp2_with fail
    refine (clone_any L n c A _ HN.out (by omega) HA2.out.at_).mono ?_
    rintro e w3 ⟨C, d, rfl, hi3, hb3⟩
    have HI3 := Lib.hid hi3
    have HA3 := Lib.hid (HA2.out.below hb3)
    have HB3 := Lib.hid (btwo HB2.out hb3)
    clear hi3 hb3
    go_wp2_with fail
    refine (write_is HW.out n d C _ HN.out (by omega) HS.out HI3.out).mono ?_
    rintro e w4 ⟨rfl, hb4⟩
    rw [HT.out]
    have HA4 := Lib.hid (HA3.out.below hb4)
    have HB4 := Lib.hid (btwo HB3.out hb4)
    clear hb4
    go_wp2_with fail
    refine (rwrite_is HW.out n c A _ HN.out (by omega) HS.out HA4.out.at_).mono ?_
    rintro e w5 ⟨rfl, hb5⟩
    rw [HT.out]
    have HA5 := Lib.hid (HA4.out.below hb5)
    have HB5 := Lib.hid (btwo HB4.out hb5)
    clear hb5
    by_cases hx : x = 0
    · subst hx
      have hzero : (writeV L).2 = 0 := by rw [hw]
      have htz := tok_write hzero
      rw [hw] at htz
      have htl : t.size ≤ 20000 := by
        have h1 := write_zero hzero
        have h2 := write_ok h1.1 (by omega)
        rw [hw] at h2
        injection h2 with h2 _
        rw [← ht, h2]; exact h1.2
      have HV := Lib.hid (show tokV t.data.toList = (L.map (setL 1), 0, 0) by rw [← ht]; exact htz)
      have HN2 := Lib.hid (show n = (L.map (setL 1)).length by rw [List.length_map]; exact HN.out)
      clear hfa hw ht hzero htz
      go_wp2_with fail
      refine (tokens_is HV.out _ (by unfold maxLen; omega)).mono ?_
      rintro e w6 ⟨A1, n1, c1, rfl, hn1', hc1, ht1, hb6⟩
      obtain rfl : n1 = n := by rw [hn1', ← HN2.out]
      have HT1 := Lib.hid ht1
      have HA6 := Lib.hid (HA5.out.below hb6)
      have HB6 := Lib.hid (btwo HB5.out hb6)
      clear ht1 hb6 hn1'
      go_wp2
      go_loopw [59] (fun i wr => ∃ k : Nat, k ≤ n1 ∧ i = .int .i64 k ∧ Below w6.heap.size w6 wr) (fun i _ => n1 - (intOf i).toNat)
      case atStart => exact ⟨0, Nat.zero_le _, rfl, Below.refl _ _⟩
      case round =>
        obtain ⟨k, hk, rfl, hbr⟩ := hrel
        have HBR := Lib.hid hbr
        have hszr := hbr.size
        by_cases hlt : k < n1
        · have hkL : k < (L.map (setL 1)).length := by have := HN2.out; omega
          obtain ⟨b1, o1, rfl, hb1, hc1⟩ := HT1.out (by omega)
          obtain ⟨y, hy⟩ : ∃ y, (L.map (setL 1))[k]? = some y := ⟨_, List.getElem?_eq_getElem hkL⟩
          have hyl := set_at hy
          obtain ⟨xk, xt, xl⟩ := tok_load (hc1 k y hy) hbr hb1
          rw [hyl] at xl
          have hb1r : b1 < wr.heap.size := by omega
          clear hy hyl hc1 hkL hbr
          go_wp2
          go_roundw
          case rel => exact ⟨k + 1, by omega, by go_num, btwo HBR.out (bnew _ _)⟩
          case measure => simp [intOf]; omega
        · have HA7 := Lib.hid (HA6.out.below HBR.out)
          have HT7 := Lib.hid (HT1.out.below HBR.out)
          have HB7 := Lib.hid (btwo HB6.out HBR.out)
          clear hbr
          go_wp2_with fail
          refine (rsame_any L (L.map (setL 1)) n1 n1 c c1 A A1 _ HN.out HN2.out (by omega) (by omega) HA7.out.at_ HT7.out).mono ?_
          rintro e w8 ⟨rfl, q, rfl⟩
          rw [sameL_set]
          go_wp2_with fail
          go_ret
          exact ⟨rfl, below_drewN HB7.out _⟩
    · have e1 : (x == 0) = false := by simpa using hx
      have e2 : (x != 0) = true := by simpa using hx
      clear hfa hw ht hx
      go_wp2_with fail
      go_ret
      exact ⟨rfl, HB5.out⟩
end Go.Proofs.YtngkhggofjeflaaDoor
