/- Contracts of pattern.Meet, Join and Match. -/
import Derived.Test.YtlkigmlgbnlkaaaDoorPb
import Derived.Deep.QuietTactic
import Derived.BigQuiet
namespace Go.Proofs.YtlkigmlgbnlkaaaDoor
open Go.RowKit
set_option linter.unusedVariables false

theorem ByRow.drewN {l : Nat → Int} {n B : Nat} {w wr : World} (h : ByRow l n B w wr) (q : Nat) : ByRow l n B w (wr.drewN q) := ⟨below_drewN h.1 q, h.2.1, h.2.2.1, h.2.2.2⟩
theorem agree_yes {n m : Int} {w : World} {q : Nat} (h : agI n m = true) (h0 : 0 ≤ n) (h1 : n ≤ 255) (h2 : 0 ≤ m) (h3 : m ≤ 255) :
    Calls Tryd.prog 45 #[.int .u8 n, .int .u8 m] (w.drewN q) fun e w'' => e = .returned (.bool true) ∧ ∃ m, w'' = w.drewN m :=
  Calls.quiet_of_same ((agree_any n m (w.drewN q) h0 h1 h2 h3).mono fun _ _ ⟨a, b⟩ => ⟨by rw [a, h], b.symm⟩)
theorem agree_no {n m : Int} {w : World} {q : Nat} (h : agI n m = false) (h0 : 0 ≤ n) (h1 : n ≤ 255) (h2 : 0 ≤ m) (h3 : m ≤ 255) :
    Calls Tryd.prog 45 #[.int .u8 n, .int .u8 m] (w.drewN q) fun e w'' => e = .returned (.bool false) ∧ ∃ m, w'' = w.drewN m :=
  Calls.quiet_of_same ((agree_any n m (w.drewN q) h0 h1 h2 h3).mono fun _ _ ⟨a, b⟩ => ⟨by rw [a, h], b.symm⟩)
def MeetPost (p q : List UInt8) (w : World) (e : Ending) (w' : World) : Prop :=
  e = .returned (.tuple #[.string ⟨(meetVal p q).1.toArray⟩, .int .i64 (meetVal p q).2]) ∧ Below w.heap.size w w'
theorem meet_post {p q l : List UInt8} {w w' : World} {x : Int} {b : ByteArray} (h : meetVal p q = (l, x)) (hb : b = ⟨l.toArray⟩) (hB : Below w.heap.size w w') : MeetPost p q w (.returned (.tuple #[.string b, .int .i64 x])) w' := by
  subst hb; exact ⟨by rw [h], hB⟩
def JoinPost (p q : List UInt8) (w : World) (e : Ending) (w' : World) : Prop :=
  e = .returned (.tuple #[.string ⟨(joinVal p q).1.toArray⟩, .int .i64 (joinVal p q).2]) ∧ Below w.heap.size w w'
theorem join_post {p q l : List UInt8} {w w' : World} {x : Int} {b : ByteArray} (h : joinVal p q = (l, x)) (hb : b = ⟨l.toArray⟩) (hB : Below w.heap.size w w') : JoinPost p q w (.returned (.tuple #[.string b, .int .i64 x])) w' := by
  subst hb; exact ⟨by rw [h], hB⟩
theorem pair_size {p q : ByteArray} (h : pairErr p.data.toList q.data.toList = 0) : p.size ≤ 60 ∧ p.size = q.size := by
  obtain ⟨h1, h2, h3⟩ := pair_zero h
  exact ⟨(pErr_zero h1).1, h3⟩

set_option maxHeartbeats 1000000 in
theorem pmeet_any (p q : ByteArray) (w : World) (hp : p.size ≤ maxLen) (hq : q.size ≤ maxLen) :
    Calls Tryd.prog 24 #[.string p, .string q] w (MeetPost p.data.toList q.data.toList w) := by
  have hcv := fun w s => run_bytes_of_string (P := Tryd.prog) w 9 50 5 s Tryd.underlying9 Tryd.underlying50 Tryd.underlying5
  obtain ⟨x, hx⟩ : ∃ x, x = pairErr p.data.toList q.data.toList := ⟨_, rfl⟩
  have HX := Lib.hid hx
  by_cases hx0 : x = 0
  · subst hx0
    obtain ⟨hs, hpq⟩ := pair_size hx.symm
    have HPQ := Lib.hid hpq
    clear hx hpq
    go_enter Tryd.func24, Tryd.ntmps24
    go_wp2_with (go_at_call 44; refine (pairerr_any _ _ _ (by assumption) (by assumption)).mono ?_; rintro e w' ⟨rfl, rfl⟩; rw [← HX.out])
    generalize grownCap w p.size 0 5 = cap
    go_loopw [19] (fun i wr => ∃ k : Nat, k ≤ p.size ∧ i = .int .i64 (k : Int) ∧ ByRow (mix meetI p.data.toList q.data.toList k) p.size w.heap.size w wr ∧ ∀ j, j < k → agI (bt p.data.toList j) (bt q.data.toList j) = true) (fun i _ => p.size - (intOf i).toNat)
    case atStart => exact ⟨0, Nat.zero_le _, rfl, (byrow_start p w cap).same (fun j _ => mix_zero _ _ _ j), fun j hj => by omega⟩
    case round =>
      obtain ⟨k, hk, rfl, hrl, hag⟩ := hrel
      have HR := Lib.hid hrl
      have HAG := Lib.hid hag
      by_cases hlt : k < p.size
      · have hltq : k < q.size := by have := HPQ.out; omega
        have hb1 : (p[k].toNat : Int) ≤ 255 := by have := p[k].toNat_lt; omega
        have hb2 : (q[k].toNat : Int) ≤ 255 := by have := q[k].toNat_lt; omega
        have hc := hrl.2.2.1 k hlt
        rw [mix_at, bt_at hlt] at hc
        have hfz := hrl.2.2.2 k hlt
        have HPB := Lib.hid (bt_at hlt)
        have HQB := Lib.hid (bt_at hltq)
        clear hrl hag
        cases ha : agI (p[k].toNat : Int) (q[k].toNat : Int) with
        | false =>
          have HE := Lib.hid (meet_no HX.out.symm (agL_no (j := k) (by rw [HPB.out, HQB.out]; exact ha) (by rw [sizeB]; exact hlt) (by rw [sizeB]; exact hltq)))
          have HA := Lib.hid ha
          clear ha
          go_wp2
          go_quiet (exact agree_no HA.out (by omega) (by omega) (by omega) (by omega))
          go_wp2
          go_ret2
          exact meet_post HE.out rfl (below_drewN HR.out.1 _)
        | true =>
          have HA := Lib.hid ha
          have HAG2 := Lib.hid (show ∀ j, j < k + 1 → agI (bt p.data.toList j) (bt q.data.toList j) = true from fun j hj => by
            by_cases e : j = k
            · subst e; rw [HPB.out, HQB.out]; exact ha
            · exact HAG.out j (by omega))
          clear ha
          by_cases h120 : (p[k].toNat : Int) = 120
          · have HN := Lib.hid (show mix meetI p.data.toList q.data.toList (k + 1) k = (q[k].toNat : Int) by rw [mix_new, HPB.out, HQB.out, h120]; rfl)
            have HA2 := Lib.hid (show agI 120 (q[k].toNat : Int) = true by rw [← h120]; exact HA.out)
            go_wp2
            go_quiet (exact agree_yes HA2.out (by omega) (by omega) (by omega) (by omega))
            go_wp2
            go_roundw
            case rel => exact ⟨k + 1, by omega, by go_num, (HR.out.drewN _).set hlt (fun j _ hj => mix_same _ _ _ hj) HN.out, HAG2.out⟩
            case measure => simp [intOf]; omega
          · have HN := Lib.hid (show ∀ j, j < p.size → mix meetI p.data.toList q.data.toList (k + 1) j = mix meetI p.data.toList q.data.toList k j from fun j _ => by
              by_cases e : j = k
              · subst e; rw [mix_new, mix_at, HPB.out, HQB.out]; unfold meetI; rw [if_neg h120]
              · exact mix_same _ _ _ e)
            go_wp2
            go_quiet (exact agree_yes HA.out (by omega) (by omega) (by omega) (by omega))
            go_wp2
            go_roundw
            case rel => exact ⟨k + 1, by omega, by go_num, (HR.out.drewN _).same HN.out, HAG2.out⟩
            case measure => simp [intOf]; omega
      · clear hrl hag
        obtain rfl : k = p.size := by omega
        have HE := Lib.hid (meet_ok HX.out.symm (agL_yes (fun j hj => HAG.out j hj) HPQ.out))
        have hback := (HR.out.same (l' := bt (List.zipWith meetB p.data.toList q.data.toList)) (fun j hj => by rw [mix_end _ _ _ hj]; exact meet_at hj (by rw [sizeB, ← HPQ.out]; exact hj))).back (by simp [← HPQ.out]) cap
        go_wp2
        go_ret2
        exact meet_post HE.out rfl HR.out.1
  · have HE := Lib.hid (meet_err hx.symm hx0)
    have hxf : (x == 0) = false := by simp [hx0]
    have hxf2 : (x != 0) = true := by simp [hx0]
    clear hx0 hx
    go_enter Tryd.func24, Tryd.ntmps24
    go_wp2_with (go_at_call 44; refine (pairerr_any _ _ _ (by assumption) (by assumption)).mono ?_; rintro e w' ⟨rfl, rfl⟩; rw [← HX.out])
    go_ret2
    exact meet_post HE.out rfl (Below.refl _ _)
set_option maxHeartbeats 1000000 in
theorem pjoin_any (p q : ByteArray) (w : World) (hp : p.size ≤ maxLen) (hq : q.size ≤ maxLen) :
    Calls Tryd.prog 26 #[.string p, .string q] w (JoinPost p.data.toList q.data.toList w) := by
  have hcv := fun w s => run_bytes_of_string (P := Tryd.prog) w 9 50 5 s Tryd.underlying9 Tryd.underlying50 Tryd.underlying5
  obtain ⟨x, hx⟩ : ∃ x, x = pairErr p.data.toList q.data.toList := ⟨_, rfl⟩
  have HX := Lib.hid hx
  by_cases hx0 : x = 0
  · subst hx0
    obtain ⟨hs, hpq⟩ := pair_size hx.symm
    have HPQ := Lib.hid hpq
    clear hx hpq
    go_enter Tryd.func26, Tryd.ntmps26
    go_wp2_with (go_at_call 44; refine (pairerr_any _ _ _ (by assumption) (by assumption)).mono ?_; rintro e w' ⟨rfl, rfl⟩; rw [← HX.out])
    generalize grownCap w p.size 0 5 = cap
    go_loopw [19] (fun i wr => ∃ k : Nat, k ≤ p.size ∧ i = .int .i64 (k : Int) ∧ ByRow (mix joinI p.data.toList q.data.toList k) p.size w.heap.size w wr) (fun i _ => p.size - (intOf i).toNat)
    case atStart => exact ⟨0, Nat.zero_le _, rfl, (byrow_start p w cap).same (fun j _ => mix_zero _ _ _ j)⟩
    case round =>
      obtain ⟨k, hk, rfl, hrl⟩ := hrel
      have HR := Lib.hid hrl
      by_cases hlt : k < p.size
      · have hltq : k < q.size := by have := HPQ.out; omega
        have hc := hrl.2.2.1 k hlt
        have hfz := hrl.2.2.2 k hlt
        have HPB := Lib.hid (bt_at hlt)
        have HQB := Lib.hid (bt_at hltq)
        clear hrl
        by_cases ha : (p[k].toNat : Int) = (q[k].toNat : Int)
        · have HN := Lib.hid (show ∀ j, j < p.size → mix joinI p.data.toList q.data.toList (k + 1) j = mix joinI p.data.toList q.data.toList k j from fun j _ => by
              by_cases e : j = k
              · subst e; rw [mix_new, mix_at, HPB.out, HQB.out]; unfold joinI; rw [if_pos ha]
              · exact mix_same _ _ _ e)
          have ha1 : ((p[k].toNat : Int) == (q[k].toNat : Int)) = true := by simpa using ha
          have ha2 : ((p[k].toNat : Int) != (q[k].toNat : Int)) = false := by simp [ha]
          clear ha
          go_wp2
          go_quiet (fail)
          go_wp2
          go_roundw
          case rel => exact ⟨k + 1, by omega, by go_num, (HR.out.drewN _).same HN.out⟩
          case measure => simp [intOf]; omega
        · have HN := Lib.hid (show mix joinI p.data.toList q.data.toList (k + 1) k = 120 by rw [mix_new, HPB.out, HQB.out]; unfold joinI; rw [if_neg ha])
          have ha1 : ((p[k].toNat : Int) == (q[k].toNat : Int)) = false := by simpa using ha
          have ha2 : ((p[k].toNat : Int) != (q[k].toNat : Int)) = true := by simpa using ha
          clear ha
          go_wp2
          go_quiet (fail)
          go_wp2
          go_roundw
          case rel => exact ⟨k + 1, by omega, by go_num, (HR.out.drewN _).set hlt (fun j _ hj => mix_same _ _ _ hj) HN.out⟩
          case measure => simp [intOf]; omega
      · clear hrl
        obtain rfl : k = p.size := by omega
        have HE := Lib.hid (join_ok HX.out.symm)
        have hback := (HR.out.same (l' := bt (List.zipWith joinB p.data.toList q.data.toList)) (fun j hj => by rw [mix_end _ _ _ hj]; exact join_at hj (by rw [sizeB, ← HPQ.out]; exact hj))).back (by simp [← HPQ.out]) cap
        go_wp2
        go_ret2
        exact join_post HE.out rfl HR.out.1
  · have HE := Lib.hid (join_err hx.symm hx0)
    have hxf : (x == 0) = false := by simp [hx0]
    have hxf2 : (x != 0) = true := by simp [hx0]
    clear hx0 hx
    go_enter Tryd.func26, Tryd.ntmps26
    go_wp2_with (go_at_call 44; refine (pairerr_any _ _ _ (by assumption) (by assumption)).mono ?_; rintro e w' ⟨rfl, rfl⟩; rw [← HX.out])
    go_ret2
    exact join_post HE.out rfl (Below.refl _ _)

set_option maxHeartbeats 400000 in
theorem pmatch_any (p q : ByteArray) (w : World) (hp : p.size ≤ maxLen) (hq : q.size ≤ maxLen) :
    Calls Tryd.prog 28 #[.string p, .string q] w fun e w' => e = .returned (.bool (matchV p.data.toList q.data.toList)) ∧ Below w.heap.size w w' := by
  obtain ⟨x, hx⟩ : ∃ x, x = (meetVal p.data.toList q.data.toList).2 := ⟨_, rfl⟩
  have HX := Lib.hid hx
  have HM := Lib.hid (show matchV p.data.toList q.data.toList = (x == 0) by unfold matchV; rw [hx])
  clear hx
  go_enter Tryd.func28, Tryd.ntmps28
  go_wp2_with fail
  refine (pmeet_any _ _ _ hp hq).mono ?_
  rintro e w1 ⟨rfl, hb1⟩
  rw [← HX.out]
  go_wp2_with fail
  go_ret
  exact ⟨ret_bool HM.out.symm, hb1⟩
end Go.Proofs.YtlkigmlgbnlkaaaDoor
