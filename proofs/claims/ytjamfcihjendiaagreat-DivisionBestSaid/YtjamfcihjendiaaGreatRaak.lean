/- Several texts in one: Uk, Un. -/
import Derived.Test.YtjamfcihjendiaaGreatRaai
namespace Go.Proofs.YtjamfcihjendiaaGreat
open Go.RowKit
set_option linter.unusedVariables false
set_option linter.unusedSimpArgs false
set_option maxRecDepth 100000

theorem equal_nums (A1 A2 : Option Addr) (n c m d : Nat) (L M : List Int) (w : World) (hL : L.length = n) (hM : M.length = m) (hn : n ≤ 17592186044416) (hm : m ≤ 17592186044416) (h1 : CellsIn w A1 (ints L)) (h2 : CellsIn w A2 (ints M)) :
    Calls Tryz.prog 13 #[.slice A1 n c, .slice A2 m d] w fun e w' => e = .returned (.bool (decide (L = M))) ∧ Below w.heap.size w w' := by
  by_cases h0 : n = 0
  · subst h0
    have e0 : L = [] := List.eq_nil_of_length_eq_zero hL
    subst e0
    refine (Tryz.slices_Equal_int_empty A1 A2 c m d w (by omega)).mono ?_
    rintro e w' ⟨rfl, rfl⟩
    refine ⟨ret_bool ?_, Below.refl _ _⟩
    apply decide_eq_decide.2
    rw [← hM]
    constructor
    · intro h; exact (List.eq_nil_of_length_eq_zero h).symm
    · intro h; rw [← h]; rfl
  · by_cases hnm : n = m
    · subst hnm
      obtain ⟨b1, o1, rfl, _, hc1⟩ := h1 (by rw [ints_len]; omega)
      obtain ⟨b2, o2, rfl, _, hc2⟩ := h2 (by rw [ints_len]; omega)
      refine (Tryz.slices_Equal_int b1 o1 n c b2 o2 n d L M w (by omega) (by omega) (by omega) (by omega) (fun j hj => hc1 j _ (ints_at hj)) (fun j hj => hc2 j _ (ints_at hj))).mono ?_
      rintro e w' ⟨rfl, q, rfl⟩
      refine ⟨ret_bool ?_, bdrewN _ _⟩
      rw [List.take_of_length_le (by omega), List.take_of_length_le (by omega)]
      by_cases e : L = M
      · rw [decide_eq_true e, beq_iff_eq]; exact e
      · rw [decide_eq_false e, beq_eq_false_iff_ne]; exact e
    · refine (Tryz.slices_Equal_int_lens A1 A2 n c m d w hnm).mono ?_
      rintro e w' ⟨rfl, rfl⟩
      exact ⟨ret_bool (decide_eq_false (fun e => hnm (by rw [← hL, ← hM, e]))).symm, Below.refl _ _⟩
end Go.Proofs.YtjamfcihjendiaaGreat

namespace Go.Proofs.YtjamfcihjendiaaGreat
open Go.RowKit
set_option linter.unusedVariables false
set_option linter.unusedSimpArgs false
set_option maxRecDepth 100000

set_option maxHeartbeats 1000000 in
theorem order_any (a b : Int) (w : World) : Calls Tryz.prog 100 #[.int .i64 a, .int .i64 b] w fun e w' => e = .returned (.int .i64 (Lib.compareInt a b)) ∧ w = w' := by
  rcases cmpI_cases a b with ⟨h, g⟩ | ⟨h, g⟩ | ⟨h, g⟩
  · have HP := Lib.hid h
    clear h
    go_enter Tryz.func100, Tryz.ntmps100
    go_wp2
    go_ret
    exact ⟨ret_int HP.out.symm, rfl⟩
  · have HP := Lib.hid h
    clear h
    subst g
    go_enter Tryz.func100, Tryz.ntmps100
    go_wp2
    go_ret
    exact ⟨ret_int HP.out.symm, rfl⟩
  · have HP := Lib.hid h
    clear h
    go_enter Tryz.func100, Tryz.ntmps100
    go_wp2
    go_ret
    exact ⟨ret_int HP.out.symm, rfl⟩
theorem two_cells (x y : Snd) (w : World) : Keep [(⟨w.heap.size, 0, none⟩, .int .i64 x.k), (⟨w.heap.size, 1, none⟩, .int .i64 x.q), (⟨w.heap.size, 2, none⟩, .string (bs x.t)), (⟨w.heap.size + 1, 0, none⟩, .int .i64 y.k), (⟨w.heap.size + 1, 1, none⟩, .int .i64 y.q), (⟨w.heap.size + 1, 2, none⟩, .string (bs y.t))] ((w.alloc (.cells #[.int .i64 x.k, .int .i64 x.q, .string (bs x.t)] 96)).alloc (.cells #[.int .i64 y.k, .int .i64 y.q, .string (bs y.t)] 96)) := by
  have h1 := box_cells w x
  have h2 := kept_cells h1 (by simp) (bnew (w.alloc (.cells #[.int .i64 x.k, .int .i64 x.q, .string (bs x.t)] 96)) (.cells #[.int .i64 y.k, .int .i64 y.q, .string (bs y.t)] 96))
  have h3 := box_cells (w.alloc (.cells #[.int .i64 x.k, .int .i64 x.q, .string (bs x.t)] 96)) y
  have e : (w.alloc (.cells #[.int .i64 x.k, .int .i64 x.q, .string (bs x.t)] 96)).heap.size = w.heap.size + 1 := by simp
  rw [e] at h3
  exact List.forall_mem_cons.2 ⟨⟨h2.1, by simp; omega⟩, List.forall_mem_cons.2 ⟨⟨h2.2.1, by simp; omega⟩, List.forall_mem_cons.2 ⟨⟨h2.2.2, by simp; omega⟩, List.forall_mem_cons.2 ⟨⟨h3.1, by simp⟩, List.forall_mem_cons.2 ⟨⟨h3.2.1, by simp⟩, List.forall_mem_cons.2 ⟨⟨h3.2.2, by simp⟩, fun _ h => by simp at h⟩⟩⟩⟩⟩⟩
theorem str_lt {x y : Snd} (h : Lib.compareBytes x.t y.t = -1) : Op.bytesLess (bs x.t).toList (bs y.t).toList = true := by
  rw [ByteArray.toList_eq, ByteArray.toList_eq, bs_list, bs_list, less_cmp, h]; rfl
theorem str_nlt {x y : Snd} (h : Lib.compareBytes x.t y.t ≠ -1) : Op.bytesLess (bs x.t).toList (bs y.t).toList = false := by
  rw [ByteArray.toList_eq, ByteArray.toList_eq, bs_list, bs_list, less_cmp, decide_eq_false h]
theorem str_eq {x y : Snd} (h : Lib.compareBytes x.t y.t = 0) : ((bs x.t).toList == (bs y.t).toList) = true := by
  rw [cmpB_zero.1 h]; simp
theorem str_neq {x y : Snd} (h : Lib.compareBytes x.t y.t ≠ 0) : ((bs x.t).toList == (bs y.t).toList) = false := by
  rw [ByteArray.toList_eq, ByteArray.toList_eq, bs_list, bs_list, beq_eq_false_iff_ne]; intro e; exact h (cmpB_zero.2 e)
theorem cmp_k {x y : Snd} (h : Lib.compareInt x.k y.k ≠ 0) : cmpS x y = Lib.compareInt x.k y.k := by unfold cmpS; rw [if_pos h]
theorem cmp_q {x y : Snd} (h : Lib.compareInt x.k y.k = 0) (h2 : Lib.compareInt x.q y.q ≠ 0) : cmpS x y = Lib.compareInt x.q y.q := by unfold cmpS; rw [if_neg (by simp [h]), if_pos h2]
theorem cmp_t {x y : Snd} (h : Lib.compareInt x.k y.k = 0) (h2 : Lib.compareInt x.q y.q = 0) : cmpS x y = Lib.compareBytes x.t y.t := by unfold cmpS; rw [if_neg (by simp [h]), if_neg (by simp [h2])]
set_option maxHeartbeats 8000000 in
theorem rcompare_any (x y : Snd) (w : World) : Calls Tryz.prog 87 #[.agg #[.int .i64 x.k, .int .i64 x.q, .string (bs x.t)], .agg #[.int .i64 y.k, .int .i64 y.q, .string (bs y.t)]] w fun e w' => e = .returned (.int .i64 (cmpS x y)) ∧ Below w.heap.size w w' := by
  have hKp := Lib.hid (two_cells x y w)
  obtain ⟨wz, hwz⟩ : ∃ wz, wz = (w.alloc (.cells #[.int .i64 x.k, .int .i64 x.q, .string (bs x.t)] 96)).alloc (.cells #[.int .i64 y.k, .int .i64 y.q, .string (bs y.t)] 96) := ⟨_, rfl⟩
  have B0 := Lib.hid (show Below w.heap.size w wz by rw [hwz]; exact btwo (bnew _ _) (bnew _ _))
  rw [← hwz] at hKp
  have HZ := Lib.hid hwz
  have hl0 : w.heap.size < (w.alloc (.cells #[.int .i64 x.k, .int .i64 x.q, .string (bs x.t)] 96)).heap.size := by simp
  clear hwz
  rcases cmpI_cases x.k y.k with ⟨h, -⟩ | ⟨h, -⟩ | ⟨h, -⟩
  · have HA := Lib.hid h
    have HE := Lib.hid (show cmpS x y = -1 by rw [cmp_k (by rw [h]; decide), h])
    clear h
    obtain ⟨x0, _⟩ := hKp.out _ (.head _)
    obtain ⟨x1, _⟩ := hKp.out _ (.tail _ (.head _))
    obtain ⟨x2, l1⟩ := hKp.out _ (.tail _ (.tail _ (.head _)))
    obtain ⟨y0, _⟩ := hKp.out _ (.tail _ (.tail _ (.tail _ (.head _))))
    obtain ⟨y1, _⟩ := hKp.out _ (.tail _ (.tail _ (.tail _ (.tail _ (.head _)))))
    obtain ⟨y2, l2⟩ := hKp.out _ (.tail _ (.tail _ (.tail _ (.tail _ (.tail _ (.head _))))))
    dsimp only at x0 x1 x2 y0 y1 y2 l1 l2
    go_enter Tryz.func87, Tryz.ntmps87
    go_upto_region 1 with fail
    rw [← HZ.out]
    go_wp2_with fail
    refine (order_any _ _ _).mono ?_
    rintro e w1 ⟨rfl, rfl⟩
    rw [HA.out]
    go_wp2_with fail
    go_ret
    exact ⟨ret_int HE.out.symm, B0.out⟩
  · have HA := Lib.hid h
    rcases cmpI_cases x.q y.q with ⟨h2, -⟩ | ⟨h2, -⟩ | ⟨h2, -⟩
    · have HQ := Lib.hid h2
      have HE := Lib.hid (show cmpS x y = -1 by rw [cmp_q h (by rw [h2]; decide), h2])
      clear h h2
      obtain ⟨x0, _⟩ := hKp.out _ (.head _)
      obtain ⟨x1, _⟩ := hKp.out _ (.tail _ (.head _))
      obtain ⟨x2, l1⟩ := hKp.out _ (.tail _ (.tail _ (.head _)))
      obtain ⟨y0, _⟩ := hKp.out _ (.tail _ (.tail _ (.tail _ (.head _))))
      obtain ⟨y1, _⟩ := hKp.out _ (.tail _ (.tail _ (.tail _ (.tail _ (.head _)))))
      obtain ⟨y2, l2⟩ := hKp.out _ (.tail _ (.tail _ (.tail _ (.tail _ (.tail _ (.head _))))))
      dsimp only at x0 x1 x2 y0 y1 y2 l1 l2
      go_enter Tryz.func87, Tryz.ntmps87
      go_upto_region 1 with fail
      rw [← HZ.out]
      go_wp2_with fail
      refine (order_any _ _ _).mono ?_
      rintro e w1 ⟨rfl, rfl⟩
      rw [HA.out]
      go_wp2_with fail
      refine (order_any _ _ _).mono ?_
      rintro e w1 ⟨rfl, rfl⟩
      rw [HQ.out]
      go_wp2_with fail
      go_ret
      exact ⟨ret_int HE.out.symm, B0.out⟩
    · have HQ := Lib.hid h2
      rcases cmpB_rng x.t y.t with h3 | h3 | h3
      · have HE := Lib.hid (show cmpS x y = -1 by rw [cmp_t h h2, h3])
        have s1 := str_lt h3
        clear h h2 h3
        obtain ⟨x0, _⟩ := hKp.out _ (.head _)
        obtain ⟨x1, _⟩ := hKp.out _ (.tail _ (.head _))
        obtain ⟨x2, l1⟩ := hKp.out _ (.tail _ (.tail _ (.head _)))
        obtain ⟨y0, _⟩ := hKp.out _ (.tail _ (.tail _ (.tail _ (.head _))))
        obtain ⟨y1, _⟩ := hKp.out _ (.tail _ (.tail _ (.tail _ (.tail _ (.head _)))))
        obtain ⟨y2, l2⟩ := hKp.out _ (.tail _ (.tail _ (.tail _ (.tail _ (.tail _ (.head _))))))
        dsimp only at x0 x1 x2 y0 y1 y2 l1 l2
        go_enter Tryz.func87, Tryz.ntmps87
        go_upto_region 1 with fail
        rw [← HZ.out]
        go_wp2_with fail
        refine (order_any _ _ _).mono ?_
        rintro e w1 ⟨rfl, rfl⟩
        rw [HA.out]
        go_wp2_with fail
        refine (order_any _ _ _).mono ?_
        rintro e w1 ⟨rfl, rfl⟩
        rw [HQ.out]
        go_wp2_with fail
        go_ret
        exact ⟨ret_int HE.out.symm, B0.out⟩
      · have HE := Lib.hid (show cmpS x y = 0 by rw [cmp_t h h2, h3])
        have s1 := str_nlt (x := x) (y := y) (by rw [h3]; decide)
        have s2 := str_eq h3
        clear h h2 h3
        obtain ⟨x0, _⟩ := hKp.out _ (.head _)
        obtain ⟨x1, _⟩ := hKp.out _ (.tail _ (.head _))
        obtain ⟨x2, l1⟩ := hKp.out _ (.tail _ (.tail _ (.head _)))
        obtain ⟨y0, _⟩ := hKp.out _ (.tail _ (.tail _ (.tail _ (.head _))))
        obtain ⟨y1, _⟩ := hKp.out _ (.tail _ (.tail _ (.tail _ (.tail _ (.head _)))))
        obtain ⟨y2, l2⟩ := hKp.out _ (.tail _ (.tail _ (.tail _ (.tail _ (.tail _ (.head _))))))
        dsimp only at x0 x1 x2 y0 y1 y2 l1 l2
        go_enter Tryz.func87, Tryz.ntmps87
        go_upto_region 1 with fail
        rw [← HZ.out]
        go_wp2_with fail
        refine (order_any _ _ _).mono ?_
        rintro e w1 ⟨rfl, rfl⟩
        rw [HA.out]
        go_wp2_with fail
        refine (order_any _ _ _).mono ?_
        rintro e w1 ⟨rfl, rfl⟩
        rw [HQ.out]
        go_wp2_with fail
        go_ret
        exact ⟨ret_int HE.out.symm, B0.out⟩
      · have HE := Lib.hid (show cmpS x y = 1 by rw [cmp_t h h2, h3])
        have s1 := str_nlt (x := x) (y := y) (by rw [h3]; decide)
        have s2 := str_neq (x := x) (y := y) (by rw [h3]; decide)
        clear h h2 h3
        obtain ⟨x0, _⟩ := hKp.out _ (.head _)
        obtain ⟨x1, _⟩ := hKp.out _ (.tail _ (.head _))
        obtain ⟨x2, l1⟩ := hKp.out _ (.tail _ (.tail _ (.head _)))
        obtain ⟨y0, _⟩ := hKp.out _ (.tail _ (.tail _ (.tail _ (.head _))))
        obtain ⟨y1, _⟩ := hKp.out _ (.tail _ (.tail _ (.tail _ (.tail _ (.head _)))))
        obtain ⟨y2, l2⟩ := hKp.out _ (.tail _ (.tail _ (.tail _ (.tail _ (.tail _ (.head _))))))
        dsimp only at x0 x1 x2 y0 y1 y2 l1 l2
        go_enter Tryz.func87, Tryz.ntmps87
        go_upto_region 1 with fail
        rw [← HZ.out]
        go_wp2_with fail
        refine (order_any _ _ _).mono ?_
        rintro e w1 ⟨rfl, rfl⟩
        rw [HA.out]
        go_wp2_with fail
        refine (order_any _ _ _).mono ?_
        rintro e w1 ⟨rfl, rfl⟩
        rw [HQ.out]
        go_wp2_with fail
        go_ret
        exact ⟨ret_int HE.out.symm, B0.out⟩
    · have HQ := Lib.hid h2
      have HE := Lib.hid (show cmpS x y = 1 by rw [cmp_q h (by rw [h2]; decide), h2])
      clear h h2
      obtain ⟨x0, _⟩ := hKp.out _ (.head _)
      obtain ⟨x1, _⟩ := hKp.out _ (.tail _ (.head _))
      obtain ⟨x2, l1⟩ := hKp.out _ (.tail _ (.tail _ (.head _)))
      obtain ⟨y0, _⟩ := hKp.out _ (.tail _ (.tail _ (.tail _ (.head _))))
      obtain ⟨y1, _⟩ := hKp.out _ (.tail _ (.tail _ (.tail _ (.tail _ (.head _)))))
      obtain ⟨y2, l2⟩ := hKp.out _ (.tail _ (.tail _ (.tail _ (.tail _ (.tail _ (.head _))))))
      dsimp only at x0 x1 x2 y0 y1 y2 l1 l2
      go_enter Tryz.func87, Tryz.ntmps87
      go_upto_region 1 with fail
      rw [← HZ.out]
      go_wp2_with fail
      refine (order_any _ _ _).mono ?_
      rintro e w1 ⟨rfl, rfl⟩
      rw [HA.out]
      go_wp2_with fail
      refine (order_any _ _ _).mono ?_
      rintro e w1 ⟨rfl, rfl⟩
      rw [HQ.out]
      go_wp2_with fail
      go_ret
      exact ⟨ret_int HE.out.symm, B0.out⟩
  · have HA := Lib.hid h
    have HE := Lib.hid (show cmpS x y = 1 by rw [cmp_k (by rw [h]; decide), h])
    clear h
    obtain ⟨x0, _⟩ := hKp.out _ (.head _)
    obtain ⟨x1, _⟩ := hKp.out _ (.tail _ (.head _))
    obtain ⟨x2, l1⟩ := hKp.out _ (.tail _ (.tail _ (.head _)))
    obtain ⟨y0, _⟩ := hKp.out _ (.tail _ (.tail _ (.tail _ (.head _))))
    obtain ⟨y1, _⟩ := hKp.out _ (.tail _ (.tail _ (.tail _ (.tail _ (.head _)))))
    obtain ⟨y2, l2⟩ := hKp.out _ (.tail _ (.tail _ (.tail _ (.tail _ (.tail _ (.head _))))))
    dsimp only at x0 x1 x2 y0 y1 y2 l1 l2
    go_enter Tryz.func87, Tryz.ntmps87
    go_upto_region 1 with fail
    rw [← HZ.out]
    go_wp2_with fail
    refine (order_any _ _ _).mono ?_
    rintro e w1 ⟨rfl, rfl⟩
    rw [HA.out]
    go_wp2_with fail
    go_ret
    exact ⟨ret_int HE.out.symm, B0.out⟩
end Go.Proofs.YtjamfcihjendiaaGreat
