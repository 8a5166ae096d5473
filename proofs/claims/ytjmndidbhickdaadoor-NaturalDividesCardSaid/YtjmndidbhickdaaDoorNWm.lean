/- Contract of Binomial of the program. -/
import Derived.Test.YtjmndidbhickdaaDoorNWl
namespace Go.Proofs.YtjmndidbhickdaaDoor
open Go.RowKit
set_option linter.unusedVariables false
set_option maxRecDepth 100000

def binV (n k : Int) : Int × Int := if n < 0 ∨ 400 < n ∨ k < 0 ∨ n < k then (0, 6) else (binom n.toNat k.toNat, 0)
abbrev box1 (W : World) : World := W.alloc (.cells #[.slice none 0 0] 24)
theorem one1 {W w : World} (hb : Below (W.heap.size + 1) (box1 W) w) :
    w.cell? ⟨W.heap.size, 0, none⟩ = some (.slice none 0 0) ∧ w.frozen? ⟨W.heap.size, 0, none⟩ = false ∧ W.heap.size < w.heap.size ∧ Below W.heap.size W w ∧ w.heap[W.heap.size]? = some (.cells #[.slice none 0 0] 24 (0, 0)) := by
  have b0 : w.heap[W.heap.size]? = some (.cells #[.slice none 0 0] 24 (0, 0)) := by
    rw [hb.block _ (by omega)]; exact heap_alloc_new W _
  refine ⟨?_, ?_, ?_, ((Below.refl _ _).alloc (Nat.le_refl _) _).trans (hb.mono (by omega)), b0⟩
  · rw [cell_of_row w _ 0 _ _ _ b0]; rfl
  · simp [World.frozen?, b0]
  · have := hb.size; simp at this; omega
theorem one_go {W w w' : World} (h : Below (W.heap.size + 1) (box1 W) w) (h2 : Below w.heap.size w w') : Below (W.heap.size + 1) (box1 W) w' :=
  h.trans (h2.mono (by have := h.size; simpa using this))
theorem ints_one_new (w : World) (t : Int) (T : TypeId) : IntsIn (w.alloc (.cells #[.int .i64 t] T)) (some ⟨w.heap.size, 0, none⟩) [t] := by
  intro _
  refine ⟨w.heap.size, 0, rfl, by simp, fun j hj => ?_⟩
  obtain rfl : j = 0 := by simpa using hj
  simp
def BinSt (N : Nat) (W : World) (j : Nat) (v : Value) (w : World) : Prop := NumAt w v (binom N j) ∧ Below (W.heap.size + 1) (box1 W) w
theorem len_binom {N : Nat} (k : Nat) (h : N ≤ 400) : (digs (binom N k)).length ≤ 100 := digs_len_le (binom_lt k h)
theorem bin_start {N : Nat} {W : World} (h : N ≤ 400) : BinSt N W 0 (.slice (some ⟨W.heap.size + 1, 0, none⟩) 1 1) ((box1 W).alloc (.cells #[.int .i64 1] 3)) := by
  have e : digs (binom N 0) = [1] := by rw [binom_zero]; exact digs_one (by omega) (by omega)
  have := ints_one_new (box1 W) 1 3
  rw [show (box1 W).heap.size = W.heap.size + 1 by simp [box1]] at this
  refine ⟨⟨binom_nonneg _ _, _, _, by rw [e]; rfl, by rw [e]; exact this, by rw [e]; exact Nat.le_refl _, by unfold maxLen; omega, by rw [e]; simp⟩, (Below.refl _ _).alloc (by simp [box1]) _⟩
theorem bin_step {N j : Nat} {W w : World} {A : Option Addr} {c : Nat} {x : Int} (hN : N ≤ 400) (hx : x = binom N (j + 1)) (hi : IntsIn w A (digs x)) (hc : (digs x).length ≤ c) (hm : c ≤ maxLen) (hb : Below (W.heap.size + 1) (box1 W) w) : BinSt N W (j + 1) (.slice A (digs x).length c) w := by
  subst hx
  exact ⟨⟨binom_nonneg _ _, A, c, rfl, hi, hc, hm, by have := len_binom (j + 1) hN; omega⟩, hb⟩
theorem bin_end {N K m : Nat} {W w : World} {A : Option Addr} {k c : Nat} {r : Int × Int} (hr : r = (binom N K, 0)) (hs : binom N m = binom N K) (hk : k = (digs (binom N m)).length) (hi : IntsIn w A (digs (binom N m))) (hc : k ≤ c) (hm : c ≤ maxLen) (hb : Below (W.heap.size + 1) (box1 W) w) :
    NatPost r W (.returned (.tuple #[.agg #[.slice A k c], .int .i64 0])) (w.setCell ⟨W.heap.size, 0, none⟩ (.slice A k c)) := by
  obtain ⟨_, _, _, h6, h7⟩ := one1 hb
  subst hr
  rw [hs] at hk hi
  exact nat_store (r := (binom N K, 0)) hk hi (show (digs (binom N K)).length ≤ c by rw [← hk]; exact hc) hm h6 h7 (Nat.le_refl _)
theorem bin_prod {N j : Nat} {t : Int} (hN : N ≤ 400) (ht : t = (N : Int) - j) (hj : j < N) : (digs (binom N j * t)).length ≤ 101 := by
  apply digs_len_le
  have h1 := binom_lt j hN
  have h2 := binom_nonneg N j
  have h3 := Int.mul_le_mul_of_nonneg_left (show t ≤ 9999 by omega) h2
  rw [show (101 : Nat) = 100 + 1 by rfl, pw_succ]
  omega
set_option maxHeartbeats 2000000 in
theorem binomial_any (n k : Int) (W : World) (hn0 : -9223372036854775808 ≤ n) (hn1 : n ≤ 9223372036854775807) (hk0 : -9223372036854775808 ≤ k) (hk1 : k ≤ 9223372036854775807) :
    Calls Tryd.prog 23 #[.int .i64 n, .int .i64 k] W (NatPost (binV n k) W) := by
  by_cases hbad : n < 0 ∨ 400 < n ∨ k < 0 ∨ n < k
  · have hv := Lib.hid (show binV n k = (0, 6) by unfold binV; rw [if_pos hbad])
    rcases Classical.em (n < 0) with h1 | h1
    · clear hbad
      go_enter Tryd.func23, Tryd.ntmps23
      go_wp2
      exact bodyPost_ret (v := .tuple #[.agg #[.slice none 0 0], .int .i64 6]) (by simp [results, Tryd.results23, go_sem]) rfl (nat_err hv.out ((Below.refl _ _).alloc (Nat.le_refl _) _))
    · rcases Classical.em (400 < n) with h2 | h2
      · clear hbad
        go_enter Tryd.func23, Tryd.ntmps23
        go_wp2
        exact bodyPost_ret (v := .tuple #[.agg #[.slice none 0 0], .int .i64 6]) (by simp [results, Tryd.results23, go_sem]) rfl (nat_err hv.out ((Below.refl _ _).alloc (Nat.le_refl _) _))
      · rcases Classical.em (k < 0) with h3 | h3
        · clear hbad
          go_enter Tryd.func23, Tryd.ntmps23
          go_wp2
          exact bodyPost_ret (v := .tuple #[.agg #[.slice none 0 0], .int .i64 6]) (by simp [results, Tryd.results23, go_sem]) rfl (nat_err hv.out ((Below.refl _ _).alloc (Nat.le_refl _) _))
        · have h4 : n < k := by omega
          clear hbad
          go_enter Tryd.func23, Tryd.ntmps23
          go_wp2
          exact bodyPost_ret (v := .tuple #[.agg #[.slice none 0 0], .int .i64 6]) (by simp [results, Tryd.results23, go_sem]) rfl (nat_err hv.out ((Below.refl _ _).alloc (Nat.le_refl _) _))
  · obtain ⟨N, rfl⟩ : ∃ N : Nat, n = N := ⟨n.toNat, by omega⟩
    obtain ⟨K, rfl⟩ : ∃ K : Nat, k = K := ⟨k.toNat, by omega⟩
    have hN : N ≤ 400 := by omega
    have hKN : K ≤ N := by omega
    have HR := Lib.hid (show binV (N : Int) (K : Int) = (binom N K, 0) by unfold binV; rw [if_neg hbad]; simp)
    clear hbad hn0 hn1 hk0 hk1
    have g1 : decide ((N : Int) < 0) = false := by simp
    have g2 : decide ((400 : Int) < (N : Int)) = false := by simp; omega
    have g3 : decide ((K : Int) < 0) = false := by simp
    have g4 : decide (N < K) = false := by simp; omega
    obtain ⟨m, hmN, hmcase⟩ : ∃ m : Nat, m ≤ N ∧ ((N - K < K ∧ m = N - K) ∨ (¬ N - K < K ∧ m = K)) := by
      by_cases h : N - K < K
      · exact ⟨N - K, by omega, .inl ⟨h, rfl⟩⟩
      · exact ⟨K, by omega, .inr ⟨h, rfl⟩⟩
    have HS := Lib.hid (show binom N m = binom N K by
      rcases hmcase with ⟨_, rfl⟩ | ⟨_, rfl⟩
      · exact (binom_symm hKN).symm
      · rfl)
    have e0 : IntKind.i64.wrap ((N : Int) - (K : Int)) = ((N - K : Nat) : Int) := by rw [IntWalk.i64_in _ (by omega)]; omega
    obtain ⟨Q, hQ⟩ : ∃ Q, Q = N - K := ⟨_, rfl⟩
    rw [← hQ] at e0 hmcase
    clear hQ
    rcases hmcase with ⟨hlt, rfl⟩ | ⟨hlt, rfl⟩
    all_goals
      try have hlt' : (m : Int) < (K : Int) := by omega
      try have hlt' : ¬ ((Q : Int) < (m : Int)) := by omega
      go_enter Tryd.func23, Tryd.ntmps23
      go_wp2
      go_loopw [6, 7] (fun v iv wr => ∃ (j : Nat) (i : Int), j ≤ m ∧ i = (j : Int) + 1 ∧ iv = .int .i64 i ∧ BinSt N W j v wr) (fun _ iv _ => (m + 1 - intOf iv).toNat)
      case atStart => exact ⟨0, 1, Nat.zero_le _, rfl, rfl, bin_start hN⟩
      case round =>
        obtain ⟨j, i, hj, hi, rfl, ⟨hx0, A1, c1, rfl, hi1, hl1, hm1, hz1⟩, hb⟩ := hrel
        have HB := Lib.hid hb
        have HI1 := Lib.hid hi1
        have HIJ := Lib.hid hi
        have hi0 : 1 ≤ i := by omega
        have hi400 : i ≤ 401 := by omega
        obtain ⟨k1, hk1⟩ : ∃ k, k = (digs (binom N j)).length := ⟨_, rfl⟩
        rw [← hk1] at hl1 hz1 ⊢
        have HK1 := Lib.hid hk1
        by_cases hjm : j < m
        · have him : i ≤ (m : Int) := by omega
          obtain ⟨t, ht⟩ : ∃ t, t = (N : Int) - j := ⟨_, rfl⟩
          have ht0 : 0 < t := by omega
          have ht1 : t < 10000 := by omega
          have e1 : IntKind.i64.wrap ((N : Int) - i) = (N : Int) - i := IntWalk.i64_in _ (by omega)
          have e2 : IntKind.i64.wrap ((N : Int) - i + 1) = t := by rw [IntWalk.i64_in _ (by omega)]; omega
          have e3 : IntKind.i64.wrap (i + 1) = i + 1 := IntWalk.i64_in _ (by omega)
          have HT := Lib.hid ht
          have HDT := Lib.hid (show Dig [t] from fun z hz => by simp at hz; subst hz; exact ⟨by omega, ht1⟩)
          have HP := Lib.hid (bin_prod (N := N) (j := j) (t := t) hN ht (by omega))
          have HD1 := Lib.hid (digs_one (i := i) (by omega) (by omega))
          have HQ := Lib.hid (show binom N j * t / i = binom N (j + 1) by rw [ht, hi]; exact binom_div N j)
          clear hi ht hb hi1 hk1
          go_wp2_with fail
          refine (product_any k1 c1 1 1 (digs (binom N j)) [t] A1 _ _ HK1.out.symm rfl (by omega) (by omega) (dig_digs _) HDT.out (HI1.out.below ((Below.refl _ _).alloc (Nat.le_refl _) _)) (ints_one_new wr t _)).mono ?_
          rintro e w3 ⟨A3, c3, rfl, hi3, hl3, hm3, hb3⟩
          rw [val_digs hx0, show val [t] = t by simp [val]] at hi3 hl3
          rw [val_digs hx0, show val [t] = t by simp [val]]
          obtain ⟨k3, hk3⟩ : ∃ k, k = (digs (binom N j * t)).length := ⟨_, rfl⟩
          rw [← hk3] at hl3 ⊢
          have HK3 := Lib.hid hk3
          have HI3 := Lib.hid hi3
          have HB3 := Lib.hid (one_go HB.out (((Below.refl _ _).alloc (Nat.le_refl _) (.cells #[.int .i64 t] 3)).trans (hb3.mono (by simp))))
          have hx3 : 0 ≤ binom N j * t := Int.mul_nonneg hx0 (by omega)
          clear hi3 hk3 hb3
          go_wp2_with fail
          refine (divide_any k3 c3 1 1 (binom N j * t) i A3 _ _ HK3.out.symm (by rw [HD1.out]; rfl) (by have := HP.out; have := HK3.out; omega) (by omega) hx3 (by omega) (HI3.out.below ((Below.refl _ _).alloc (Nat.le_refl _) _)) (by rw [HD1.out]; exact ints_one_new w3 i _)).mono ?_
          rintro e w4 ⟨A4, c4, B4, d4, rfl, hi4, hl4, hm4, _, _, _, hb4⟩
          have HB4 := Lib.hid (one_go HB3.out (((Below.refl _ _).alloc (Nat.le_refl _) (.cells #[.int .i64 i] 3)).trans (hb4.mono (by simp))))
          have R := Lib.hid (bin_step (j := j) (W := W) hN HQ.out hi4 hl4 hm4 HB4.out)
          obtain ⟨k4, hk4⟩ : ∃ k, k = (digs (binom N j * t / i)).length := ⟨_, rfl⟩
          obtain ⟨k5, hk5⟩ : ∃ k, k = (digs (binom N j * t % i)).length := ⟨_, rfl⟩
          rw [← hk4] at R
          rw [← hk4, ← hk5]
          clear hi4 hl4 hm4 hb4 hk4 hk5 hx3
          go_wp2_with fail
          go_roundw
          case rel => exact ⟨j + 1, _, by omega, by have := HIJ.out; omega, rfl, R.out⟩
          case measure => simp [intOf]; omega
        · obtain rfl : j = m := by omega
          have him : ¬ i ≤ (j : Int) := by omega
          have R := Lib.hid (bin_end (W := W) (m := j) HR.out (by first | exact HS.out | rfl) hk1 hi1 hl1 hm1 hb)
          obtain ⟨hc1, hf1, hs1, _, _⟩ := one1 hb
          clear hi hb hi1 hk1
          go_wp2_with fail
          exact bodyPost_ret (v := .tuple #[.agg #[.slice A1 k1 c1], .int .i64 0]) (by simp [results, Tryd.results23, go_sem, hc1]) rfl R.out
end Go.Proofs.YtjmndidbhickdaaDoor
