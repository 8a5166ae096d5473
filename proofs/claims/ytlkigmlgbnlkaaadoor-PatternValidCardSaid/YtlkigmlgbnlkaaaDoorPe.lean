/- Contracts of Compare, Morae and Plain of both sides. -/
import Derived.Test.YtlkigmlgbnlkaaaDoorPd
import Derived.OwnWalk
namespace Go.Proofs.YtlkigmlgbnlkaaaDoor
open Go.RowKit
set_option linter.unusedVariables false

/-! ### Compare -/
def cmpR : List UInt8 → List UInt8 → Int
  | a :: r, b :: s => if a = b then cmpR r s else Lib.compareInt (rk (a.toNat : Int)) (rk (b.toNat : Int))
  | _, _ => 0
def cmpV (p q : List UInt8) : Int := if p.length = q.length then cmpR p q else Lib.compareInt p.length q.length
theorem rk_inj {a b : Int} (ha : 0 ≤ a) (hb : 0 ≤ b) (h : rk a = rk b) : a = b := by
  unfold rk at h
  split at h <;> split at h <;> (try split at h) <;> (try split at h) <;> (try split at h) <;> (try split at h) <;> omega
theorem rk_ne {a b : UInt8} (h : a ≠ b) : rk (a.toNat : Int) ≠ rk (b.toNat : Int) := fun e => h (byte_eq (rk_inj (by omega) (by omega) e))
theorem cmp_zero {x y : Int} : Lib.compareInt x y = 0 ↔ x = y := by
  unfold Lib.compareInt; split
  · constructor <;> intro h <;> omega
  · split
    · constructor <;> intro h <;> omega
    · constructor <;> intro h <;> omega
theorem cmpR_drop {p q : ByteArray} {k : Nat} (h1 : k < p.size) (h2 : k < q.size) : cmpR (p.data.toList.drop k) (q.data.toList.drop k) = if p[k] = q[k] then cmpR (p.data.toList.drop (k + 1)) (q.data.toList.drop (k + 1)) else Lib.compareInt (rk (p[k].toNat : Int)) (rk (q[k].toNat : Int)) := by
  rw [dropS h1, dropS h2, cmpR]
theorem cmpR_end {p q : ByteArray} {k : Nat} (h1 : p.size ≤ k) : cmpR (p.data.toList.drop k) (q.data.toList.drop k) = 0 := by
  rw [List.drop_eq_nil_of_le (by rw [sizeB]; exact h1)]; cases List.drop k q.data.toList <;> rfl
theorem rank_val {n r : Int} {w : World} {q : Nat} (h : rk n = r) (h0 : 0 ≤ n) (h1 : n ≤ 255) :
    Calls Tryd.prog 49 #[.int .u8 n] (w.drewN q) fun e w'' => e = .returned (.int .i64 r) ∧ ∃ m, w'' = w.drewN m :=
  Calls.quiet_of_same ((rank_any n (w.drewN q) h0 h1).mono fun _ _ ⟨a, b⟩ => ⟨by rw [a, h], b.symm⟩)
theorem rrank_val {n r : Int} {w : World} {q : Nat} (h : rk n = r) (h0 : 0 ≤ n) (h1 : n ≤ 255) :
    Calls Tryd.prog 50 #[.int .u8 n] (w.drewN q) fun e w'' => e = .returned (.int .i64 r) ∧ ∃ m, w'' = w.drewN m :=
  Calls.quiet_of_same ((rrank_any n (w.drewN q) h0 h1).mono fun _ _ ⟨a, b⟩ => ⟨by rw [a, h], b.symm⟩)
theorem more {w wr : World} (h : ∃ n, wr = w.drewN n) (q : Nat) : ∃ n, wr.drewN q = w.drewN n := by
  obtain ⟨n, rfl⟩ := h
  exact ⟨n + q, World.drewN_drewN _ _ _⟩
theorem cmp_any (x y : Int) (w : World) : Calls Tryd.prog 48 #[.int .i64 x, .int .i64 y] w fun e w' => e = .returned (.int .i64 (Lib.compareInt x y)) ∧ w = w' :=
  (Tryd.cmp_Compare_int x y w).mono fun _ _ ⟨a, b⟩ => ⟨a, b.symm⟩
theorem cmp_val {x y c : Int} {w : World} {q : Nat} (h : Lib.compareInt x y = c) :
    Calls Tryd.prog 48 #[.int .i64 x, .int .i64 y] (w.drewN q) fun e w'' => e = .returned (.int .i64 c) ∧ ∃ m, w'' = w.drewN m :=
  Calls.quiet_of_same ((Tryd.cmp_Compare_int x y (w.drewN q)).mono fun _ _ ⟨a, b⟩ => ⟨by rw [a, h], b⟩)
set_option maxHeartbeats 1000000 in
theorem pcompare_any (p q : ByteArray) (w : World) (hp : p.size ≤ maxLen) (hq : q.size ≤ maxLen) :
    Calls Tryd.prog 33 #[.string p, .string q] w fun e w' => e = .returned (.int .i64 (cmpV p.data.toList q.data.toList)) ∧ ∃ n, w' = w.drewN n := by
  unfold maxLen at hp hq
  by_cases hl : p.size = q.size
  · have HE := Lib.hid (show cmpV p.data.toList q.data.toList = cmpR p.data.toList q.data.toList by unfold cmpV; rw [if_pos (show p.data.toList.length = q.data.toList.length from hl)])
    have HPQ := Lib.hid hl
    have H0 := Lib.hid (show Lib.compareInt (p.size : Int) (q.size : Int) = 0 from cmp_zero.2 (by omega))
    clear hl
    go_enter Tryd.func33, Tryd.ntmps33
    go_wp2_with (go_at_call 48; refine (cmp_any _ _ _).mono ?_; rintro e w' ⟨rfl, rfl⟩; rw [H0.out])
    go_loopw [6] (fun i wr => ∃ k : Nat, k ≤ p.size ∧ i = .int .i64 (k : Int) ∧ cmpR p.data.toList q.data.toList = cmpR (p.data.toList.drop k) (q.data.toList.drop k) ∧ ∃ n, wr = w.drewN n) (fun i _ => p.size - (intOf i).toNat)
    case atStart => exact ⟨0, Nat.zero_le _, rfl, rfl, 0, rfl⟩
    case round =>
      obtain ⟨k, hk, rfl, hc, hw⟩ := hrel
      have HC := Lib.hid hc
      have HW := Lib.hid hw
      clear hc hw
      by_cases hlt : k < p.size
      · have hltq : k < q.size := by have := HPQ.out; omega
        have hb1 : (p[k].toNat : Int) ≤ 255 := by have := p[k].toNat_lt; omega
        have hb2 : (q[k].toNat : Int) ≤ 255 := by have := q[k].toNat_lt; omega
        obtain ⟨x, hx⟩ : ∃ x, rk (p[k].toNat : Int) = x := ⟨_, rfl⟩
        obtain ⟨y, hy⟩ : ∃ y, rk (q[k].toNat : Int) = y := ⟨_, rfl⟩
        obtain ⟨c, hc⟩ : ∃ c, Lib.compareInt x y = c := ⟨_, rfl⟩
        have HX := Lib.hid hx
        have HY := Lib.hid hy
        have HCC := Lib.hid hc
        by_cases a : p[k] = q[k]
        · have hc0 : c = 0 := by rw [← hc]; exact cmp_zero.2 (by rw [← hx, ← hy, a])
          subst hc0
          have HN := Lib.hid (show cmpR p.data.toList q.data.toList = cmpR (p.data.toList.drop (k + 1)) (q.data.toList.drop (k + 1)) by rw [HC.out, cmpR_drop hlt hltq, if_pos a])
          clear a hx hy hc
          go_wp2
          go_quiet (first | exact rank_val HX.out (by omega) (by omega) | exact rank_val HY.out (by omega) (by omega) | exact cmp_val HCC.out)
          go_wp2
          go_roundw
          case rel => exact ⟨k + 1, by omega, by go_num, HN.out, more HW.out _⟩
          case measure => simp [intOf]; omega
        · have hc0 : c ≠ 0 := by rw [← hc]; exact fun e => rk_ne a (by rw [hx, hy]; exact cmp_zero.1 e)
          have HN := Lib.hid (show cmpV p.data.toList q.data.toList = c by rw [HE.out, HC.out, cmpR_drop hlt hltq, if_neg a, hx, hy, hc])
          have e1 : (c == 0) = false := by simpa using hc0
          have e2 : (c != 0) = true := by simpa using hc0
          clear a hx hy hc hc0
          go_wp2
          go_quiet (first | exact rank_val HX.out (by omega) (by omega) | exact rank_val HY.out (by omega) (by omega) | exact cmp_val HCC.out)
          go_wp2
          go_ret
          exact ⟨ret_int HN.out, more HW.out _⟩
      · have HN := Lib.hid (show cmpV p.data.toList q.data.toList = 0 by rw [HE.out, HC.out]; exact cmpR_end (by omega))
        go_wp2
        go_ret
        exact ⟨ret_int HN.out, HW.out⟩
  · obtain ⟨c, hc⟩ : ∃ c, Lib.compareInt (p.size : Int) (q.size : Int) = c := ⟨_, rfl⟩
    have HC := Lib.hid hc
    have HE := Lib.hid (show cmpV p.data.toList q.data.toList = c by unfold cmpV; rw [if_neg (show ¬ p.data.toList.length = q.data.toList.length from hl)]; exact hc)
    have hc0 : c ≠ 0 := by rw [← hc]; exact fun e => hl (by have := cmp_zero.1 e; omega)
    have e1 : (c == 0) = false := by simpa using hc0
    have e2 : (c != 0) = true := by simpa using hc0
    clear hc hl hc0
    go_enter Tryd.func33, Tryd.ntmps33
    go_wp2_with (go_at_call 48; refine (cmp_any _ _ _).mono ?_; rintro e w' ⟨rfl, rfl⟩; rw [HC.out])
    go_ret
    exact ⟨ret_int HE.out, 0, rfl⟩

set_option maxHeartbeats 1000000 in
theorem rcompare_any (p q : ByteArray) (w : World) (hp : p.size ≤ maxLen) (hq : q.size ≤ maxLen) :
    Calls Tryd.prog 36 #[.string p, .string q] w fun e w' => e = .returned (.int .i64 (cmpV p.data.toList q.data.toList)) ∧ ∃ n, w' = w.drewN n := by
  unfold maxLen at hp hq
  by_cases hl : p.size = q.size
  · have HE := Lib.hid (show cmpV p.data.toList q.data.toList = cmpR p.data.toList q.data.toList by unfold cmpV; rw [if_pos (show p.data.toList.length = q.data.toList.length from hl)])
    have HPQ := Lib.hid hl
    have e1 : ((p.size : Int) == (q.size : Int)) = true := by simp; omega
    have e2 : ((p.size : Int) != (q.size : Int)) = false := by simp; omega
    clear hl
    go_enter Tryd.func36, Tryd.ntmps36
    go_wp2
    go_loopw [5] (fun i wr => ∃ k : Nat, k ≤ p.size ∧ i = .int .i64 (k : Int) ∧ cmpR p.data.toList q.data.toList = cmpR (p.data.toList.drop k) (q.data.toList.drop k) ∧ ∃ n, wr = w.drewN n) (fun i _ => p.size - (intOf i).toNat)
    case atStart => exact ⟨0, Nat.zero_le _, rfl, rfl, 0, rfl⟩
    case round =>
      obtain ⟨k, hk, rfl, hc, hw⟩ := hrel
      have HC := Lib.hid hc
      have HW := Lib.hid hw
      clear hc hw
      by_cases hlt : k < p.size
      · have hltq : k < q.size := by have := HPQ.out; omega
        have hb1 : (p[k].toNat : Int) ≤ 255 := by have := p[k].toNat_lt; omega
        have hb2 : (q[k].toNat : Int) ≤ 255 := by have := q[k].toNat_lt; omega
        obtain ⟨x, hx⟩ : ∃ x, rk (p[k].toNat : Int) = x := ⟨_, rfl⟩
        obtain ⟨y, hy⟩ : ∃ y, rk (q[k].toNat : Int) = y := ⟨_, rfl⟩
        have HX := Lib.hid hx
        have HY := Lib.hid hy
        by_cases a : p[k] = q[k]
        · have HN := Lib.hid (show cmpR p.data.toList q.data.toList = cmpR (p.data.toList.drop (k + 1)) (q.data.toList.drop (k + 1)) by rw [HC.out, cmpR_drop hlt hltq, if_pos a])
          have e3 : ((p[k].toNat : Int) == (q[k].toNat : Int)) = true := by simp [a]
          have e4 : ((p[k].toNat : Int) != (q[k].toNat : Int)) = false := by simp [a]
          clear a hx hy
          go_wp2
          go_quiet (fail)
          go_wp2
          go_roundw
          case rel => exact ⟨k + 1, by omega, by go_num, HN.out, more HW.out _⟩
          case measure => simp [intOf]; omega
        · have hne : x ≠ y := by rw [← hx, ← hy]; exact rk_ne a
          have e3 : ((p[k].toNat : Int) == (q[k].toNat : Int)) = false := by simp; exact fun e => a (byte_eq (by omega))
          have e4 : ((p[k].toNat : Int) != (q[k].toNat : Int)) = true := by simpa using e3
          have HV := Lib.hid (show cmpV p.data.toList q.data.toList = Lib.compareInt x y by rw [HE.out, HC.out, cmpR_drop hlt hltq, if_neg a, hx, hy])
          by_cases b : x < y
          · have HN := Lib.hid (show cmpV p.data.toList q.data.toList = -1 by rw [HV.out]; unfold Lib.compareInt; rw [if_pos b])
            clear a hx hy hne
            go_wp2
            go_quiet (fail)
            go_wp2
            have HWQ := Lib.hid (more HW.out nq)
            generalize wr.drewN nq = wq at HWQ ⊢
            go_quiet (first | exact rrank_val HX.out (by omega) (by omega) | exact rrank_val HY.out (by omega) (by omega))
            go_wp2
            go_ret
            exact ⟨ret_int HN.out, more HWQ.out _⟩
          · have HN := Lib.hid (show cmpV p.data.toList q.data.toList = 1 by rw [HV.out]; unfold Lib.compareInt; rw [if_neg b, if_pos (by omega)])
            clear a hx hy hne
            go_wp2
            go_quiet (fail)
            go_wp2
            have HWQ := Lib.hid (more HW.out nq)
            generalize wr.drewN nq = wq at HWQ ⊢
            go_quiet (first | exact rrank_val HX.out (by omega) (by omega) | exact rrank_val HY.out (by omega) (by omega))
            go_wp2
            go_ret
            exact ⟨ret_int HN.out, more HWQ.out _⟩
      · have HN := Lib.hid (show cmpV p.data.toList q.data.toList = 0 by rw [HE.out, HC.out]; exact cmpR_end (by omega))
        go_wp2
        go_ret
        exact ⟨ret_int HN.out, HW.out⟩
  · have e1 : ((p.size : Int) == (q.size : Int)) = false := by simp; omega
    have e2 : ((p.size : Int) != (q.size : Int)) = true := by simp; omega
    by_cases b : p.size < q.size
    · have HN := Lib.hid (show cmpV p.data.toList q.data.toList = -1 by unfold cmpV; rw [if_neg (show ¬ p.data.toList.length = q.data.toList.length from hl)]; unfold Lib.compareInt; rw [if_pos (by rw [sizeB, sizeB]; omega)])
      clear hl
      go_enter Tryd.func36, Tryd.ntmps36
      go_wp2
      go_ret
      exact ⟨ret_int HN.out, 0, rfl⟩
    · have HN := Lib.hid (show cmpV p.data.toList q.data.toList = 1 by unfold cmpV; rw [if_neg (show ¬ p.data.toList.length = q.data.toList.length from hl)]; unfold Lib.compareInt; rw [if_neg (by rw [sizeB, sizeB]; omega), if_pos (by rw [sizeB, sizeB]; omega)])
      clear hl
      go_enter Tryd.func36, Tryd.ntmps36
      go_wp2
      go_ret
      exact ⟨ret_int HN.out, 0, rfl⟩

/-! ### Morae -/
def lowV (l : List UInt8) : Int := (l.length : Int) + (l.count 45 : Int)
def highV (l : List UInt8) : Int := lowV l + (l.count 120 : Int)
def moraeVal (l : List UInt8) : Int × Int × Int := if pErr l = 0 then (lowV l, highV l, 0) else (0, 0, pErr l)
def MoraePost (l : List UInt8) (w : World) (e : Ending) (w' : World) : Prop :=
  e = .returned (.tuple #[.int .i64 (moraeVal l).1, .int .i64 (moraeVal l).2.1, .int .i64 (moraeVal l).2.2]) ∧ w' = w
theorem morae_post {l : List UInt8} {w w' : World} {a b c : Int} (h : moraeVal l = (a, b, c)) (hw : w' = w) : MoraePost l w (.returned (.tuple #[.int .i64 a, .int .i64 b, .int .i64 c])) w' := ⟨by rw [h], hw⟩
theorem morae_err {l : List UInt8} {x : Int} (h : pErr l = x) (h0 : x ≠ 0) : moraeVal l = (0, 0, x) := by subst h; unfold moraeVal; rw [if_neg h0]
theorem morae_ok {l : List UInt8} (h : pErr l = 0) : moraeVal l = (lowV l, highV l, 0) := by unfold moraeVal; rw [if_pos h]
theorem count_le (l : List UInt8) (c : UInt8) : l.count c ≤ l.length := List.count_le_length
set_option maxHeartbeats 1000000 in
theorem pmorae_any (s : ByteArray) (w : World) (hs : s.size ≤ maxLen) :
    Calls Tryd.prog 34 #[.string s] w (MoraePost s.data.toList w) := by
  obtain ⟨x, hx⟩ : ∃ x, x = pErr s.data.toList := ⟨_, rfl⟩
  have HX := Lib.hid hx
  by_cases hx0 : x = 0
  · subst hx0
    have h60 : s.size ≤ 60 := (pErr_zero hx.symm).1
    obtain ⟨a, ha⟩ : ∃ a : Nat, a = s.data.toList.count 45 := ⟨_, rfl⟩
    obtain ⟨b, hb⟩ : ∃ b : Nat, b = s.data.toList.count 120 := ⟨_, rfl⟩
    have ha60 : a ≤ 60 := by have := count_le s.data.toList 45; rw [sizeB] at this; omega
    have hb60 : b ≤ 60 := by have := count_le s.data.toList 120; rw [sizeB] at this; omega
    have HA := Lib.hid (show (Lib.countByte s.data.toList 45 : Int) = (a : Int) by rw [ha]; rfl)
    have HB := Lib.hid (show (Lib.countByte s.data.toList 120 : Int) = (b : Int) by rw [hb]; rfl)
    have HE := Lib.hid (show moraeVal s.data.toList = ((s.size : Int) + (a : Int), (s.size : Int) + (a : Int) + (b : Int), 0) by rw [morae_ok hx.symm]; unfold highV lowV; rw [sizeB, ← ha, ← hb])
    clear hx ha hb
    go_enter Tryd.func34, Tryd.ntmps34
    go_wp2_with fail
    refine (pvalid_any _ _ (by assumption)).mono ?_
    rintro e w' ⟨rfl, rfl⟩
    rw [← HX.out]
    go_wp2_with fail
    refine (Tryd.strings_Count_one _ 45 _).mono ?_
    rintro e w1 ⟨rfl, rfl⟩
    rw [HA.out]
    go_wp2_with fail
    refine (Tryd.strings_Count_one _ 120 _).mono ?_
    rintro e w2 ⟨rfl, rfl⟩
    rw [HB.out]
    go_wp2_with fail
    go_ret3
    exact morae_post HE.out rfl
  · have HE := Lib.hid (morae_err hx.symm hx0)
    have hxf : (x == 0) = false := by simp [hx0]
    have hxf2 : (x != 0) = true := by simp [hx0]
    clear hx0 hx
    go_enter Tryd.func34, Tryd.ntmps34
    go_wp2_with (go_at_call 16; refine (pvalid_any _ _ (by assumption)).mono ?_; rintro e w' ⟨rfl, rfl⟩; rw [← HX.out])
    go_ret3
    exact morae_post HE.out rfl
theorem sign_sum (l : List UInt8) (h : l.all isS = true) : l.count 117 + l.count 45 + l.count 120 = l.length := by
  induction l with
  | nil => rfl
  | cons c l ih =>
    simp only [List.all_cons, Bool.and_eq_true] at h
    have ih := ih h.2
    rcases sign_cases h.1 with rfl | rfl | rfl <;> simp <;> omega
theorem count_take {s : ByteArray} {k : Nat} (hk : k < s.size) (c : UInt8) : (s.data.toList.take (k + 1)).count c = (s.data.toList.take k).count c + if s[k] = c then 1 else 0 := by
  rw [takeS hk, List.count_append, List.count_singleton]
  by_cases h : s[k] = c <;> simp [h]
theorem count_take_le {s : ByteArray} {k : Nat} (c : UInt8) : (s.data.toList.take k).count c ≤ k := by
  have := count_le (s.data.toList.take k) c
  rw [List.length_take] at this; omega
theorem int_45 {a : UInt8} : ((a.toNat : Int) = 45) ↔ a = 45 := ⟨fun h => byte_is (n := 45) (by omega) (by decide), fun h => by rw [h]; rfl⟩
theorem int_117 {a : UInt8} : ((a.toNat : Int) = 117) ↔ a = 117 := ⟨fun h => byte_is (n := 117) (by omega) (by decide), fun h => by rw [h]; rfl⟩
theorem int_46 {a : UInt8} : ((a.toNat : Int) = 46) ↔ a = 46 := ⟨fun h => byte_is (n := 46) (by omega) (by decide), fun h => by rw [h]; rfl⟩
set_option maxHeartbeats 1000000 in
theorem rmorae_any (s : ByteArray) (w : World) (hs : s.size ≤ maxLen) :
    Calls Tryd.prog 35 #[.string s] w (MoraePost s.data.toList w) := by
  obtain ⟨x, hx⟩ : ∃ x, x = pErr s.data.toList := ⟨_, rfl⟩
  have HX := Lib.hid hx
  by_cases hx0 : x = 0
  · subst hx0
    have h60 : s.size ≤ 60 := (pErr_zero hx.symm).1
    clear hx
    go_enter Tryd.func35, Tryd.ntmps35
    go_wp2_with (go_at_call 17; refine (rvalid_any _ _ (by assumption)).mono ?_; rintro e w' ⟨rfl, rfl⟩; rw [← HX.out])
    go_loop [6, 7, 8] (fun lo hi i => ∃ k a b L H : Nat, k ≤ s.size ∧ b ≤ k ∧ a ≤ k ∧ k + a ≤ L ∧ L ≤ k + a ∧ 2 * k ≤ H + b ∧ H + b ≤ 2 * k ∧ i = .int .i64 (k : Int) ∧ lo = .int .i64 (L : Int) ∧ hi = .int .i64 (H : Int) ∧ (s.data.toList.take k).count 45 = a ∧ (s.data.toList.take k).count 117 = b) (fun _ _ i => s.size - (intOf i).toNat)
    case atStart => exact ⟨0, 0, 0, 0, 0, Nat.zero_le _, Nat.le_refl _, Nat.le_refl _, Nat.le_refl _, Nat.le_refl _, Nat.le_refl _, Nat.le_refl _, rfl, rfl, rfl, rfl, rfl⟩
    case round =>
      obtain ⟨k, a, b, L, H, hk, hbk, hak, hL, hL2, hH, hH2, rfl, rfl, rfl, ha, hb⟩ := hrel
      have HA := Lib.hid ha
      have HB := Lib.hid hb
      clear ha hb
      by_cases hlt : k < s.size
      · have HA1 := Lib.hid (count_take hlt 45)
        have HB1 := Lib.hid (count_take hlt 117)
        by_cases h45 : (s[k].toNat : Int) = 45
        · have HA2 := Lib.hid (show (s.data.toList.take (k + 1)).count 45 = a + 1 by rw [HA1.out, if_pos (int_45.1 h45), HA.out])
          have HB2 := Lib.hid (show (s.data.toList.take (k + 1)).count 117 = b by rw [HB1.out, if_neg (by rw [int_45.1 h45]; decide), HB.out]; rfl)
          go_wp2
          go_round
          case rel => exact ⟨k + 1, a + 1, b, L + 2, H + 2, by omega, by omega, by omega, by omega, by omega, by omega, by omega, by go_num, by go_num, by go_num, HA2.out, HB2.out⟩
          case measure => simp [intOf]; omega
        · have HA2 := Lib.hid (show (s.data.toList.take (k + 1)).count 45 = a by rw [HA1.out, if_neg (fun e => h45 (int_45.2 e)), HA.out]; rfl)
          by_cases h117 : (s[k].toNat : Int) = 117
          · have HB2 := Lib.hid (show (s.data.toList.take (k + 1)).count 117 = b + 1 by rw [HB1.out, if_pos (int_117.1 h117), HB.out])
            go_wp2
            go_round
            case rel => exact ⟨k + 1, a, b + 1, L + 1, H + 1, by omega, by omega, by omega, by omega, by omega, by omega, by omega, by go_num, by go_num, by go_num, HA2.out, HB2.out⟩
            case measure => simp [intOf]; omega
          · have HB2 := Lib.hid (show (s.data.toList.take (k + 1)).count 117 = b by rw [HB1.out, if_neg (fun e => h117 (int_117.2 e)), HB.out]; rfl)
            go_wp2
            go_round
            case rel => exact ⟨k + 1, a, b, L + 1, H + 2, by omega, by omega, by omega, by omega, by omega, by omega, by omega, by go_num, by go_num, by go_num, HA2.out, HB2.out⟩
            case measure => simp [intOf]; omega
      · obtain rfl : k = s.size := by omega
        have HE := Lib.hid (show moraeVal s.data.toList = ((L : Int), (H : Int), 0) by
          have h1 := HA.out
          have h2 := HB.out
          rw [takeAll (Nat.le_refl _)] at h1 h2
          have h3 := sign_sum _ (pErr_zero HX.out.symm).2
          rw [sizeB] at h3
          rw [morae_ok HX.out.symm]; unfold highV lowV; rw [sizeB, h1]
          refine Prod.ext ?_ (Prod.ext ?_ rfl)
          · show (s.size : Int) + (a : Int) = (L : Int)
            omega
          · show (s.size : Int) + (a : Int) + _ = (H : Int)
            omega)
        go_wp2
        go_ret3
        exact morae_post HE.out rfl
  · have HE := Lib.hid (morae_err hx.symm hx0)
    have hxf : (x == 0) = false := by simp [hx0]
    have hxf2 : (x != 0) = true := by simp [hx0]
    clear hx0 hx
    go_enter Tryd.func35, Tryd.ntmps35
    go_wp2_with (go_at_call 17; refine (rvalid_any _ _ (by assumption)).mono ?_; rintro e w' ⟨rfl, rfl⟩; rw [← HX.out])
    go_ret3
    exact morae_post HE.out rfl

/-! ### Plain -/
def PlainPost (l : List UInt8) (w : World) (e : Ending) (w' : World) : Prop :=
  e = .returned (.tuple #[.string ⟨(plainVal l).1.toArray⟩, .int .i64 (plainVal l).2]) ∧ Below w.heap.size w w'
theorem plain_post {l p : List UInt8} {w w' : World} {x : Int} {b : ByteArray} (h : plainVal l = (p, x)) (hb : b = ⟨p.toArray⟩) (hB : Below w.heap.size w w') : PlainPost l w (.returned (.tuple #[.string b, .int .i64 x])) w' := by
  subst hb; exact ⟨by rw [h], hB⟩
def MaxAt (w : World) : Prop := ∃ m : Int, w.cell? ⟨0, 0, none⟩ = some (.int .i64 m)
theorem MaxAt.below {w w' : World} (h : MaxAt w) (hb : Below w.heap.size w w') : MaxAt w' := by
  obtain ⟨m, hm⟩ := h
  exact ⟨m, (hb.cell (p := ⟨0, 0, none⟩) (World.block_lt_of_cell? _ _ hm)).trans hm⟩
theorem MaxAt.drewN {w : World} (h : MaxAt w) (n : Nat) : MaxAt (w.drewN n) := h
set_option maxHeartbeats 1000000 in
theorem pplain_any (s : ByteArray) (w : World) (hs : s.size ≤ maxLen) (hm : MaxAt w) :
    Calls Tryd.prog 12 #[.string s] w (PlainPost s.data.toList w) := by
  obtain ⟨x, hx⟩ : ∃ x, x = mErr s.data.toList := ⟨_, rfl⟩
  have HX := Lib.hid hx
  by_cases hx0 : x = 0
  · subst hx0
    have h120 : s.size ≤ 120 := (mErr_zero hx.symm).1
    have HE := Lib.hid (plain_ok hx.symm)
    have HR := Lib.hid (rep_points s.data.toList)
    obtain ⟨m, hm⟩ := hm
    have HM := Lib.hid hm
    clear hx hm
    go_enter Tryd.func12, Tryd.ntmps12
    go_wp2_with fail
    refine (pmarked_any _ _ (by assumption)).mono ?_
    rintro e w' ⟨rfl, rfl⟩
    rw [← HX.out]
    go_wp2_with fail
    refine (Tryd.strings_ReplaceAll s ⟨#[46]⟩ ⟨#[]⟩ m _ (by omega) HM.out (by decide) (by show s.size + _ * 0 ≤ _; omega)).mono ?_
    rintro e w1 ⟨rfl, hb1⟩
    go_wp2_with fail
    go_ret2
    exact plain_post HE.out (congrArg (fun l : List UInt8 => (⟨l.toArray⟩ : ByteArray)) HR.out) hb1
  · have HE := Lib.hid (plain_err hx.symm hx0)
    have hxf : (x == 0) = false := by simp [hx0]
    have hxf2 : (x != 0) = true := by simp [hx0]
    clear hx0 hx hm
    go_enter Tryd.func12, Tryd.ntmps12
    go_wp2_with fail
    refine (pmarked_any _ _ (by assumption)).mono ?_
    rintro e w' ⟨rfl, rfl⟩
    rw [← HX.out]
    go_wp2_with fail
    go_ret2
    exact plain_post HE.out rfl (Below.refl _ _)
set_option maxHeartbeats 1000000 in
theorem rplain_any (s : ByteArray) (w : World) (hs : s.size ≤ maxLen) :
    Calls Tryd.prog 13 #[.string s] w (PlainPost s.data.toList w) := by
  obtain ⟨x, hx⟩ : ∃ x, x = mErr s.data.toList := ⟨_, rfl⟩
  have HX := Lib.hid hx
  by_cases hx0 : x = 0
  · subst hx0
    have h120 : s.size ≤ 120 := (mErr_zero hx.symm).1
    have HE := Lib.hid (plain_ok hx.symm)
    clear hx
    go_enter Tryd.func13, Tryd.ntmps13
    go_wp2_with (go_at_call 19; refine (rmarked_any _ _ (by assumption)).mono ?_; rintro e w' ⟨rfl, rfl⟩; rw [← HX.out])
    go_loop [5, 6] (fun v i => ∃ (k : Nat) (o : ByteArray), k ≤ s.size ∧ i = .int .i64 (k : Int) ∧ v = .string o ∧ o.data.toList = plainL (s.data.toList.take k)) (fun _ i => s.size - (intOf i).toNat)
    case atStart => exact ⟨0, ⟨#[]⟩, Nat.zero_le _, rfl, rfl, rfl⟩
    case round =>
      obtain ⟨k, o, hk, rfl, rfl, ho⟩ := hrel
      have HO := Lib.hid ho
      have hos : o.size ≤ 120 := by
        have h1 : o.size = o.data.toList.length := rfl
        have h2 := plainL_len (s.data.toList.take k)
        rw [List.length_take] at h2
        rw [h1, ho]; omega
      clear ho
      by_cases hlt : k < s.size
      · by_cases h46 : (s[k].toNat : Int) = 46
        · have HN := Lib.hid (show o.data.toList = plainL (s.data.toList.take (k + 1)) by rw [takeS hlt, HO.out]; unfold plainL; rw [List.filter_append, int_46.1 h46]; simp)
          go_wp2
          go_round
          case rel => exact ⟨k + 1, o, by omega, by go_num, rfl, HN.out⟩
          case measure => simp [intOf]; omega
        · have HN := Lib.hid (show (o ++ s.extract k (k + 1)).data.toList = plainL (s.data.toList.take (k + 1)) by
            rw [takeS hlt, cat_any, one_byte hlt, HO.out]; unfold plainL; rw [List.filter_append]
            have : s[k] ≠ 46 := fun e => h46 (int_46.2 e)
            simp [this])
          have ha : ∀ w : World, (Op.stringOp .add o (s.extract k (k + 1))).run Tryd.prog w = .ok (.string (o ++ s.extract k (k + 1))) w := fun w => run_string_add_sum w o _ (by rw [ByteArray.size_extract]; omega)
          go_wp2
          go_round
          case rel => exact ⟨k + 1, _, by omega, by go_num, rfl, HN.out⟩
          case measure => simp [intOf]; omega
      · have HT := Lib.hid (takeAll (s := s) (k := k) (by omega))
        go_wp2
        go_ret2
        exact plain_post HE.out (of_list (by rw [HO.out, HT.out])) (Below.refl _ _)
  · have HE := Lib.hid (plain_err hx.symm hx0)
    have hxf : (x == 0) = false := by simp [hx0]
    have hxf2 : (x != 0) = true := by simp [hx0]
    clear hx0 hx
    go_enter Tryd.func13, Tryd.ntmps13
    go_wp2_with (go_at_call 19; refine (rmarked_any _ _ (by assumption)).mono ?_; rintro e w' ⟨rfl, rfl⟩; rw [← HX.out])
    go_ret2
    exact plain_post HE.out rfl (Below.refl _ _)
end Go.Proofs.YtlkigmlgbnlkaaaDoor
