/- What the statement SoundCompare answers: true, whatever the input. -/
import Derived.Test.YtbmldlkjnejfaaaDoorUo
import Derived.Test.YtbmldlkjnejfaaaDoorUl
namespace Go.Proofs.YtbmldlkjnejfaaaDoor
open Go.RowKit
set_option linter.unusedVariables false
set_option linter.unusedSimpArgs false
set_option maxRecDepth 100000

theorem eqIn_int (n : Nat) (a b : Int) (w : World) : (Op.equalIn (n + 1) 3 (.int .i64 a) (.int .i64 b)).run Tryd.prog w = .ok (a == b) w := by
  unfold Op.equalIn
  go_simp
theorem eqIn_str (n : Nat) (a b : ByteArray) (w : World) : (Op.equalIn (n + 1) 9 (.string a) (.string b)).run Tryd.prog w = .ok (a.toList == b.toList) w := run_equalIn_string w n _ a b Tryd.underlying9
theorem eqIn_snd (n : Nat) (x y : Snd) (w : World) : (Op.equalIn (n + 2) 23 (.agg #[.int .i64 x.k, .int .i64 x.q, .string (bs x.t)]) (.agg #[.int .i64 y.k, .int .i64 y.q, .string (bs y.t)])).run Tryd.prog w = .ok (eqB x y) w := by
  have h : ∀ (a b : Int) (w : World), (Op.equalIn (n + 1) 3 (.int .i64 a) (.int .i64 b)).run Tryd.prog w = .ok (a == b) w := fun a b w => eqIn_int n a b w
  have hs : ∀ (a b : ByteArray) (w : World), (Op.equalIn (n + 1) 9 (.string a) (.string b)).run Tryd.prog w = .ok (a.toList == b.toList) w := fun a b w => eqIn_str n a b w
  have hb : ((bs x.t).toList == (bs y.t).toList) = (x.t == y.t) := by rw [ByteArray.toList_eq, ByteArray.toList_eq, bs_list, bs_list]
  unfold Op.equalIn
  go_simp
  by_cases h1 : x.k = y.k
  · by_cases h2 : x.q = y.q
    · by_cases h3 : x.t = y.t
      · rw [if_pos h1, if_pos h2, if_pos h3, eqB_yes (Snd.eq h1 h2 h3)]
      · rw [if_pos h1, if_pos h2, if_neg h3, eqB_no (fun e => h3 (by rw [e]))]
    · rw [if_pos h1, if_neg h2, eqB_no (fun e => h2 (by rw [e]))]
  · rw [if_neg h1, eqB_no (fun e => h1 (by rw [e]))]
theorem eql_snd (x y : Snd) (w : World) : (binOp .eql 23 (.agg #[.int .i64 x.k, .int .i64 x.q, .string (bs x.t)]) (.agg #[.int .i64 y.k, .int .i64 y.q, .string (bs y.t)])).run Tryd.prog w = .ok (.bool (eqB x y)) w := by
  rw [run_eql_struct, eqIn_snd 9998]; rfl
theorem three_cells (x y z : Snd) (w : World) : Keep [(⟨w.heap.size, 0, none⟩, .int .i64 x.k), (⟨w.heap.size, 1, none⟩, .int .i64 x.q), (⟨w.heap.size, 2, none⟩, .string (bs x.t)), (⟨w.heap.size + 1, 0, none⟩, .int .i64 y.k), (⟨w.heap.size + 1, 1, none⟩, .int .i64 y.q), (⟨w.heap.size + 1, 2, none⟩, .string (bs y.t)), (⟨w.heap.size + 1 + 1, 0, none⟩, .int .i64 z.k), (⟨w.heap.size + 1 + 1, 1, none⟩, .int .i64 z.q), (⟨w.heap.size + 1 + 1, 2, none⟩, .string (bs z.t))] (((w.alloc (.cells #[.int .i64 x.k, .int .i64 x.q, .string (bs x.t)] 23)).alloc (.cells #[.int .i64 y.k, .int .i64 y.q, .string (bs y.t)] 23)).alloc (.cells #[.int .i64 z.k, .int .i64 z.q, .string (bs z.t)] 23)) := by
  have h1 := two_cells x y w
  have hb : Below ((w.alloc (.cells #[.int .i64 x.k, .int .i64 x.q, .string (bs x.t)] 23)).alloc (.cells #[.int .i64 y.k, .int .i64 y.q, .string (bs y.t)] 23)).heap.size ((w.alloc (.cells #[.int .i64 x.k, .int .i64 x.q, .string (bs x.t)] 23)).alloc (.cells #[.int .i64 y.k, .int .i64 y.q, .string (bs y.t)] 23)) (((w.alloc (.cells #[.int .i64 x.k, .int .i64 x.q, .string (bs x.t)] 23)).alloc (.cells #[.int .i64 y.k, .int .i64 y.q, .string (bs y.t)] 23)).alloc (.cells #[.int .i64 z.k, .int .i64 z.q, .string (bs z.t)] 23)) := bnew _ _
  have h2 := h1.go hb
  have h3 := box_cells ((w.alloc (.cells #[.int .i64 x.k, .int .i64 x.q, .string (bs x.t)] 23)).alloc (.cells #[.int .i64 y.k, .int .i64 y.q, .string (bs y.t)] 23)) z
  have e : ((w.alloc (.cells #[.int .i64 x.k, .int .i64 x.q, .string (bs x.t)] 23)).alloc (.cells #[.int .i64 y.k, .int .i64 y.q, .string (bs y.t)] 23)).heap.size = w.heap.size + 1 + 1 := by simp
  rw [e] at h3
  intro p hp
  rcases List.mem_append.1 (show p ∈ [(⟨w.heap.size, 0, none⟩, .int .i64 x.k), (⟨w.heap.size, 1, none⟩, .int .i64 x.q), (⟨w.heap.size, 2, none⟩, .string (bs x.t)), (⟨w.heap.size + 1, 0, none⟩, .int .i64 y.k), (⟨w.heap.size + 1, 1, none⟩, .int .i64 y.q), (⟨w.heap.size + 1, 2, none⟩, .string (bs y.t))] ++ [(⟨w.heap.size + 1 + 1, 0, none⟩, .int .i64 z.k), (⟨w.heap.size + 1 + 1, 1, none⟩, .int .i64 z.q), (⟨w.heap.size + 1 + 1, 2, none⟩, .string (bs z.t))] from hp) with hp | hp
  · exact h2 p hp
  · have h4 : Keep [(⟨w.heap.size + 1 + 1, 0, none⟩, .int .i64 z.k), (⟨w.heap.size + 1 + 1, 1, none⟩, .int .i64 z.q), (⟨w.heap.size + 1 + 1, 2, none⟩, .string (bs z.t))] (((w.alloc (.cells #[.int .i64 x.k, .int .i64 x.q, .string (bs x.t)] 23)).alloc (.cells #[.int .i64 y.k, .int .i64 y.q, .string (bs y.t)] 23)).alloc (.cells #[.int .i64 z.k, .int .i64 z.q, .string (bs z.t)] 23)) := List.forall_mem_cons.2 ⟨⟨h3.1, by simp⟩, List.forall_mem_cons.2 ⟨⟨h3.2.1, by simp⟩, List.forall_mem_cons.2 ⟨⟨h3.2.2, by simp⟩, fun _ h => by simp at h⟩⟩⟩
    exact h4 p hp
theorem cells_three (x y z : Snd) (w : World) : CellsIn (w.alloc (.cells #[.int .i64 x.k, .int .i64 x.q, .string (bs x.t), .int .i64 y.k, .int .i64 y.q, .string (bs y.t), .int .i64 z.k, .int .i64 z.q, .string (bs z.t)] 23)) (some ⟨w.heap.size, 0, none⟩) (sndsC [x, y, z]) :=
  ((Hp.start w).lit 23 3 3 (sndsC [x, y, z]) rfl (by decide)).cells (i := 0) (A := some ⟨w.heap.size, 0, none⟩) (c := 3) rfl rfl
set_option maxHeartbeats 8000000 in
theorem lawcompare_any (x y z : Snd) (w : World) (hx : x.t.length ≤ 140737488355328) (hy : y.t.length ≤ 140737488355328) (hz : z.t.length ≤ 140737488355328) (hm : MaxAt w) :
    Calls Tryd.prog 5 #[.agg #[.int .i64 x.k, .int .i64 x.q, .string (bs x.t)], .agg #[.int .i64 y.k, .int .i64 y.q, .string (bs y.t)], .agg #[.int .i64 z.k, .int .i64 z.q, .string (bs z.t)]] w fun e w' => e = .returned (.bool true) ∧ Below w.heap.size w w' := by
  have hKp := Lib.hid (three_cells x y z w)
  obtain ⟨wz, hwz⟩ : ∃ wz, wz = ((w.alloc (.cells #[.int .i64 x.k, .int .i64 x.q, .string (bs x.t)] 23)).alloc (.cells #[.int .i64 y.k, .int .i64 y.q, .string (bs y.t)] 23)).alloc (.cells #[.int .i64 z.k, .int .i64 z.q, .string (bs z.t)] 23) := ⟨_, rfl⟩
  have B0 := Lib.hid (show Below w.heap.size w wz by rw [hwz]; exact btwo (btwo (bnew _ _) (bnew _ _)) (bnew _ _))
  have HM := Lib.hid (show MaxAt wz by rw [hwz]; exact ((hm.below (bnew _ _)).below (bnew _ _)).below (bnew _ _))
  rw [← hwz] at hKp
  have HZ := Lib.hid hwz
  have hl0 : w.heap.size < (w.alloc (.cells #[.int .i64 x.k, .int .i64 x.q, .string (bs x.t)] 23)).heap.size := by simp
  have hl00 : w.heap.size < ((w.alloc (.cells #[.int .i64 x.k, .int .i64 x.q, .string (bs x.t)] 23)).alloc (.cells #[.int .i64 y.k, .int .i64 y.q, .string (bs y.t)] 23)).heap.size := by simp; omega
  have HS := Lib.hid (show ∀ u ∈ [x, y, z], u.t.length ≤ 140737488355328 from fun u hu => by
    simp only [List.mem_cons, List.not_mem_nil, or_false] at hu
    rcases hu with rfl | rfl | rfl <;> assumption)
  clear hwz hm hx hy hz
  cases hf : fewB [x, y, z] 3 with
  | false =>
    have HF := Lib.hid hf
    clear hf
    go_enter Tryd.func5, Tryd.ntmps5
    go_upto_region 1 with fail
    rw [← HZ.out]
    clear hl0 hl00
    go_wp2_with fail
    refine (awake_any _ HM.out).mono ?_
    rintro e w1 ⟨rfl, hb1⟩
    have B1 := Lib.hid (btwo B0.out hb1)
    have HM1 := Lib.hid (HM.out.below hb1)
    have K1 := Lib.hid (hKp.out.go hb1)
    clear hb1
    obtain ⟨x0, _⟩ := K1.out _ (.head _)
    obtain ⟨x1, _⟩ := K1.out _ (.tail _ (.head _))
    obtain ⟨x2, l1⟩ := K1.out _ (.tail _ (.tail _ (.head _)))
    obtain ⟨y0, _⟩ := K1.out _ (.tail _ (.tail _ (.tail _ (.head _))))
    obtain ⟨y1, _⟩ := K1.out _ (.tail _ (.tail _ (.tail _ (.tail _ (.head _)))))
    obtain ⟨y2, l2⟩ := K1.out _ (.tail _ (.tail _ (.tail _ (.tail _ (.tail _ (.head _))))))
    obtain ⟨z0, _⟩ := K1.out _ (.tail _ (.tail _ (.tail _ (.tail _ (.tail _ (.tail _ (.head _)))))))
    obtain ⟨z1, _⟩ := K1.out _ (.tail _ (.tail _ (.tail _ (.tail _ (.tail _ (.tail _ (.tail _ (.head _))))))))
    obtain ⟨z2, l3⟩ := K1.out _ (.tail _ (.tail _ (.tail _ (.tail _ (.tail _ (.tail _ (.tail _ (.tail _ (.head _)))))))))
    dsimp only at x0 x1 x2 y0 y1 y2 z0 z1 z2 l1 l2 l3
    go_wp2_with fail
    refine (few_any [x, y, z] 3 3 3 _ _ rfl (by decide) (by decide) HS.out (cells_three x y z w1)).mono ?_
    rintro e w2 ⟨rfl, rfl⟩
    rw [HF.out]
    clear x0 x1 x2 y0 y1 y2 z0 z1 z2 l1 l2 l3
    have HM2 := Lib.hid (HM1.out.below (bnew w1 (.cells #[.int .i64 x.k, .int .i64 x.q, .string (bs x.t), .int .i64 y.k, .int .i64 y.q, .string (bs y.t), .int .i64 z.k, .int .i64 z.q, .string (bs z.t)] 23)))
    go_wp2_with fail
    refine (awake_any _ HM2.out).mono ?_
    rintro e w3 ⟨rfl, hb3⟩
    go_wp2_with fail
    go_ret
    exact ⟨rfl, btwo (btwo B1.out (bnew _ _)) hb3⟩
  | true =>
    have HF := Lib.hid hf
    clear hf
    obtain ⟨va, hva⟩ : ∃ v, v = cmpS x y := ⟨_, rfl⟩
    obtain ⟨vb, hvb⟩ : ∃ v, v = cmpS y z := ⟨_, rfl⟩
    obtain ⟨vc, hvc⟩ : ∃ v, v = cmpS x z := ⟨_, rfl⟩
    have HVA := Lib.hid hva
    have HVB := Lib.hid hvb
    have HVC := Lib.hid hvc
    have HVN := Lib.hid (show cmpS y x = -va by rw [hva]; exact cmpS_neg x y)
    have hra : va = -1 ∨ va = 0 ∨ va = 1 := by rw [hva]; exact cmpS_rng x y
    have hrb : vb = -1 ∨ vb = 0 ∨ vb = 1 := by rw [hvb]; exact cmpS_rng y z
    have hrc : vc = -1 ∨ vc = 0 ∨ vc = 1 := by rw [hvc]; exact cmpS_rng x z
    have htr : va ≤ 0 → vb ≤ 0 → vc ≤ 0 := fun h1 h2 => by rw [hvc]; rw [hva] at h1; rw [hvb] at h2; exact cmpS_trans h1 h2
    have hze : va = 0 → x = y := fun h => cmpS_zero.1 (by rw [← hva]; exact h)
    have hzn : va ≠ 0 → x ≠ y := fun h e => h (by rw [hva]; exact cmpS_zero.2 e)
    clear hva hvb hvc
    go_enter Tryd.func5, Tryd.ntmps5
    go_upto_region 1 with fail
    rw [← HZ.out]
    clear hl0 hl00
    go_wp2_with fail
    refine (awake_any _ HM.out).mono ?_
    rintro e w1 ⟨rfl, hb1⟩
    have B1 := Lib.hid (btwo B0.out hb1)
    have K1 := Lib.hid (hKp.out.go hb1)
    clear hb1
    obtain ⟨x0, _⟩ := K1.out _ (.head _)
    obtain ⟨x1, _⟩ := K1.out _ (.tail _ (.head _))
    obtain ⟨x2, l1⟩ := K1.out _ (.tail _ (.tail _ (.head _)))
    obtain ⟨y0, _⟩ := K1.out _ (.tail _ (.tail _ (.tail _ (.head _))))
    obtain ⟨y1, _⟩ := K1.out _ (.tail _ (.tail _ (.tail _ (.tail _ (.head _)))))
    obtain ⟨y2, l2⟩ := K1.out _ (.tail _ (.tail _ (.tail _ (.tail _ (.tail _ (.head _))))))
    obtain ⟨z0, _⟩ := K1.out _ (.tail _ (.tail _ (.tail _ (.tail _ (.tail _ (.tail _ (.head _)))))))
    obtain ⟨z1, _⟩ := K1.out _ (.tail _ (.tail _ (.tail _ (.tail _ (.tail _ (.tail _ (.tail _ (.head _))))))))
    obtain ⟨z2, l3⟩ := K1.out _ (.tail _ (.tail _ (.tail _ (.tail _ (.tail _ (.tail _ (.tail _ (.tail _ (.head _)))))))))
    dsimp only at x0 x1 x2 y0 y1 y2 z0 z1 z2 l1 l2 l3
    go_wp2_with fail
    refine (few_any [x, y, z] 3 3 3 _ _ rfl (by decide) (by decide) HS.out (cells_three x y z w1)).mono ?_
    rintro e w2 ⟨rfl, rfl⟩
    rw [HF.out]
    clear x0 x1 x2 y0 y1 y2 z0 z1 z2 l1 l2 l3
    obtain ⟨w4, hw4⟩ : ∃ w4, w4 = w1.alloc (.cells #[.int .i64 x.k, .int .i64 x.q, .string (bs x.t), .int .i64 y.k, .int .i64 y.q, .string (bs y.t), .int .i64 z.k, .int .i64 z.q, .string (bs z.t)] 23) := ⟨_, rfl⟩
    have HW4 := Lib.hid hw4
    have K4 := Lib.hid (show Keep [(⟨w.heap.size, 0, none⟩, .int .i64 x.k), (⟨w.heap.size, 1, none⟩, .int .i64 x.q), (⟨w.heap.size, 2, none⟩, .string (bs x.t)), (⟨w.heap.size + 1, 0, none⟩, .int .i64 y.k), (⟨w.heap.size + 1, 1, none⟩, .int .i64 y.q), (⟨w.heap.size + 1, 2, none⟩, .string (bs y.t)), (⟨w.heap.size + 1 + 1, 0, none⟩, .int .i64 z.k), (⟨w.heap.size + 1 + 1, 1, none⟩, .int .i64 z.q), (⟨w.heap.size + 1 + 1, 2, none⟩, .string (bs z.t))] w4 by rw [hw4]; exact K1.out.go (bnew _ _))
    have B4 := Lib.hid (show Below w.heap.size w w4 by rw [hw4]; exact btwo B1.out (bnew _ _))
    clear hw4
    go_upto_region 3 with fail
    rw [← HW4.out]
    have hKd := K4.out.drew
    refine wp_region_held_drew (S := Keep [(⟨w.heap.size, 0, none⟩, .int .i64 x.k), (⟨w.heap.size, 1, none⟩, .int .i64 x.q), (⟨w.heap.size, 2, none⟩, .string (bs x.t)), (⟨w.heap.size + 1, 0, none⟩, .int .i64 y.k), (⟨w.heap.size + 1, 1, none⟩, .int .i64 y.q), (⟨w.heap.size + 1, 2, none⟩, .string (bs y.t)), (⟨w.heap.size + 1 + 1, 0, none⟩, .int .i64 z.k), (⟨w.heap.size + 1 + 1, 1, none⟩, .int .i64 z.q), (⟨w.heap.size + 1 + 1, 2, none⟩, .string (bs z.t))]) (by kernel_rfl) hKd (fun hHeld => ?_)
    refine tk 0 ?_ rfl ?_ ?_; rotate_left
    · intro wl hSw
      have hSw : Keep _ wl := hSw
      have k0 := (hSw _ (.head _)).1
      have k1 := (hSw _ (.tail _ (.head _))).1
      have k2 := (hSw _ (.tail _ (.tail _ (.head _)))).1
      dsimp only at k0 k1 k2
      clear hSw
      go_simp
      try (with_reducible rfl)
    try simp only [Act.put, sA, sZ, sS]
    refine tk 1 ?_ rfl ?_ ?_; rotate_left
    · intro wl hSw
      have hSw : Keep _ wl := hSw
      have k0 := (hSw _ (.tail _ (.tail _ (.tail _ (.head _))))).1
      have k1 := (hSw _ (.tail _ (.tail _ (.tail _ (.tail _ (.head _)))))).1
      have k2 := (hSw _ (.tail _ (.tail _ (.tail _ (.tail _ (.tail _ (.head _))))))).1
      dsimp only at k0 k1 k2
      clear hSw
      go_simp
      try (with_reducible rfl)
    try simp only [Act.put, sA, sZ, sS]
    refine tk 3 ?_ rfl ?_ ?_; rotate_left
    · intro wl hSw
      have hSw : Keep _ wl := hSw
      have k0 := (hSw _ (.tail _ (.tail _ (.tail _ (.head _))))).1
      have k1 := (hSw _ (.tail _ (.tail _ (.tail _ (.tail _ (.head _)))))).1
      have k2 := (hSw _ (.tail _ (.tail _ (.tail _ (.tail _ (.tail _ (.head _))))))).1
      dsimp only at k0 k1 k2
      clear hSw
      go_simp
      try (with_reducible rfl)
    try simp only [Act.put, sA, sZ, sS]
    refine tk 4 ?_ rfl ?_ ?_; rotate_left
    · intro wl hSw
      have hSw : Keep _ wl := hSw
      have k0 := (hSw _ (.tail _ (.tail _ (.tail _ (.tail _ (.tail _ (.tail _ (.head _)))))))).1
      have k1 := (hSw _ (.tail _ (.tail _ (.tail _ (.tail _ (.tail _ (.tail _ (.tail _ (.head _))))))))).1
      have k2 := (hSw _ (.tail _ (.tail _ (.tail _ (.tail _ (.tail _ (.tail _ (.tail _ (.tail _ (.head _)))))))))).1
      dsimp only at k0 k1 k2
      clear hSw
      go_simp
      try (with_reducible rfl)
    try simp only [Act.put, sA, sZ, sS]
    refine tk 6 ?_ rfl ?_ ?_; rotate_left
    · intro wl hSw
      have hSw : Keep _ wl := hSw
      have k0 := (hSw _ (.head _)).1
      have k1 := (hSw _ (.tail _ (.head _))).1
      have k2 := (hSw _ (.tail _ (.tail _ (.head _)))).1
      dsimp only at k0 k1 k2
      clear hSw
      go_simp
      try (with_reducible rfl)
    try simp only [Act.put, sA, sZ, sS]
    refine tk 7 ?_ rfl ?_ ?_; rotate_left
    · intro wl hSw
      have hSw : Keep _ wl := hSw
      have k0 := (hSw _ (.tail _ (.tail _ (.tail _ (.tail _ (.tail _ (.tail _ (.head _)))))))).1
      have k1 := (hSw _ (.tail _ (.tail _ (.tail _ (.tail _ (.tail _ (.tail _ (.tail _ (.head _))))))))).1
      have k2 := (hSw _ (.tail _ (.tail _ (.tail _ (.tail _ (.tail _ (.tail _ (.tail _ (.tail _ (.head _)))))))))).1
      dsimp only at k0 k1 k2
      clear hSw
      go_simp
      try (with_reducible rfl)
    try simp only [Act.put, sA, sZ, sS]
    refine wpAnyH_ready (rs := [2]) (by kernel_rfl) (by simp) ?_
    refine AllReadyH.cons (List.getElem?_toArray.trans rfl) (fun K hK => ?_) AllReadyH.nil
    go_simp
    refine (compare_any x y _).mono ?_
    rintro e w5 ⟨rfl, hb5⟩
    rw [← HVA.out]
    have B5 := Lib.hid (btwo (btwo B4.out (bdrew _)) hb5)
    try go_wp2_with fail
    refine hK.out _ _ (hHeld.go hb5) (fun hHeld => ?_)
    clear hK K
    try simp only [Act.put, sA, sZ, sS]
    refine wpAnyH_ready (rs := [5]) (by kernel_rfl) (by simp) ?_
    refine AllReadyH.cons (List.getElem?_toArray.trans rfl) (fun K hK => ?_) AllReadyH.nil
    go_simp
    refine (compare_any y z _).mono ?_
    rintro e w6 ⟨rfl, hb6⟩
    rw [← HVB.out]
    have B6 := Lib.hid (btwo B5.out hb6)
    try go_wp2_with fail
    refine hK.out _ _ (hHeld.go hb6) (fun hHeld => ?_)
    clear hK K
    try simp only [Act.put, sA, sZ, sS]
    refine wpAnyH_ready (rs := [8]) (by kernel_rfl) (by simp) ?_
    refine AllReadyH.cons (List.getElem?_toArray.trans rfl) (fun K hK => ?_) AllReadyH.nil
    go_simp
    refine (compare_any x z _).mono ?_
    rintro e w7 ⟨rfl, hb7⟩
    rw [← HVC.out]
    have B7 := Lib.hid (btwo B6.out hb7)
    try go_wp2_with fail
    refine hK.out _ _ (hHeld.go hb7) (fun hHeld => ?_)
    clear hK K
    try simp only [Act.put, sA, sZ, sS]
    refine tk 9 ?_ rfl ?_ ?_; rotate_left; focus (intro w hSw; clear hSw; go_simp; try (with_reducible rfl))
    try simp only [Act.put, sA, sZ, sS]
    refine tk 10 ?_ rfl ?_ ?_; rotate_left; focus (intro w hSw; clear hSw; go_simp; try (with_reducible rfl))
    try simp only [Act.put, sA, sZ, sS]
    refine tk 11 ?_ rfl ?_ ?_; rotate_left; focus (intro w hSw; clear hSw; go_simp; try (with_reducible rfl))
    try simp only [Act.put, sA, sZ, sS]
    refine wpAnyH_done (by kernel_rfl) ?_ _
    have K7 := Lib.hid hHeld
    clear hHeld hKd hb5 hb6 hb7
    have a1 : (va != va) = false := by simp
    have a2 : (vb != vb) = false := by simp
    have a3 : (vc != vc) = false := by simp
    obtain ⟨x0, _⟩ := K7.out _ (.head _)
    obtain ⟨x1, _⟩ := K7.out _ (.tail _ (.head _))
    obtain ⟨x2, l1⟩ := K7.out _ (.tail _ (.tail _ (.head _)))
    obtain ⟨y0, _⟩ := K7.out _ (.tail _ (.tail _ (.tail _ (.head _))))
    obtain ⟨y1, _⟩ := K7.out _ (.tail _ (.tail _ (.tail _ (.tail _ (.head _)))))
    obtain ⟨y2, l2⟩ := K7.out _ (.tail _ (.tail _ (.tail _ (.tail _ (.tail _ (.head _))))))
    obtain ⟨z0, _⟩ := K7.out _ (.tail _ (.tail _ (.tail _ (.tail _ (.tail _ (.tail _ (.head _)))))))
    obtain ⟨z1, _⟩ := K7.out _ (.tail _ (.tail _ (.tail _ (.tail _ (.tail _ (.tail _ (.tail _ (.head _))))))))
    obtain ⟨z2, l3⟩ := K7.out _ (.tail _ (.tail _ (.tail _ (.tail _ (.tail _ (.tail _ (.tail _ (.tail _ (.head _)))))))))
    dsimp only at x0 x1 x2 y0 y1 y2 z0 z1 z2 l1 l2 l3
    go_wp2_with fail
    refine (rcompare_any x y _).mono ?_
    rintro e w8 ⟨rfl, hb8⟩
    rw [← HVA.out]
    have K8 := Lib.hid (K7.out.go hb8)
    have B8 := Lib.hid (btwo B7.out hb8)
    clear hb8
    clear x0 x1 x2 y0 y1 y2 z0 z1 z2 l1 l2 l3
    obtain ⟨x0, _⟩ := K8.out _ (.head _)
    obtain ⟨x1, _⟩ := K8.out _ (.tail _ (.head _))
    obtain ⟨x2, l1⟩ := K8.out _ (.tail _ (.tail _ (.head _)))
    obtain ⟨y0, _⟩ := K8.out _ (.tail _ (.tail _ (.tail _ (.head _))))
    obtain ⟨y1, _⟩ := K8.out _ (.tail _ (.tail _ (.tail _ (.tail _ (.head _)))))
    obtain ⟨y2, l2⟩ := K8.out _ (.tail _ (.tail _ (.tail _ (.tail _ (.tail _ (.head _))))))
    obtain ⟨z0, _⟩ := K8.out _ (.tail _ (.tail _ (.tail _ (.tail _ (.tail _ (.tail _ (.head _)))))))
    obtain ⟨z1, _⟩ := K8.out _ (.tail _ (.tail _ (.tail _ (.tail _ (.tail _ (.tail _ (.tail _ (.head _))))))))
    obtain ⟨z2, l3⟩ := K8.out _ (.tail _ (.tail _ (.tail _ (.tail _ (.tail _ (.tail _ (.tail _ (.tail _ (.head _)))))))))
    dsimp only at x0 x1 x2 y0 y1 y2 z0 z1 z2 l1 l2 l3
    go_wp2_with fail
    refine (rcompare_any y z _).mono ?_
    rintro e w9 ⟨rfl, hb9⟩
    rw [← HVB.out]
    have K9 := Lib.hid (K8.out.go hb9)
    have B9 := Lib.hid (btwo B8.out hb9)
    clear hb9
    clear x0 x1 x2 y0 y1 y2 z0 z1 z2 l1 l2 l3
    obtain ⟨x0, _⟩ := K9.out _ (.head _)
    obtain ⟨x1, _⟩ := K9.out _ (.tail _ (.head _))
    obtain ⟨x2, l1⟩ := K9.out _ (.tail _ (.tail _ (.head _)))
    obtain ⟨y0, _⟩ := K9.out _ (.tail _ (.tail _ (.tail _ (.head _))))
    obtain ⟨y1, _⟩ := K9.out _ (.tail _ (.tail _ (.tail _ (.tail _ (.head _)))))
    obtain ⟨y2, l2⟩ := K9.out _ (.tail _ (.tail _ (.tail _ (.tail _ (.tail _ (.head _))))))
    obtain ⟨z0, _⟩ := K9.out _ (.tail _ (.tail _ (.tail _ (.tail _ (.tail _ (.tail _ (.head _)))))))
    obtain ⟨z1, _⟩ := K9.out _ (.tail _ (.tail _ (.tail _ (.tail _ (.tail _ (.tail _ (.tail _ (.head _))))))))
    obtain ⟨z2, l3⟩ := K9.out _ (.tail _ (.tail _ (.tail _ (.tail _ (.tail _ (.tail _ (.tail _ (.tail _ (.head _)))))))))
    dsimp only at x0 x1 x2 y0 y1 y2 z0 z1 z2 l1 l2 l3
    go_wp2_with fail
    refine (rcompare_any x z _).mono ?_
    rintro e w10 ⟨rfl, hb10⟩
    rw [← HVC.out]
    have K10 := Lib.hid (K9.out.go hb10)
    have B10 := Lib.hid (btwo B9.out hb10)
    clear hb10
    clear x0 x1 x2 y0 y1 y2 z0 z1 z2 l1 l2 l3
    obtain ⟨x0, _⟩ := K10.out _ (.head _)
    obtain ⟨x1, _⟩ := K10.out _ (.tail _ (.head _))
    obtain ⟨x2, l1⟩ := K10.out _ (.tail _ (.tail _ (.head _)))
    obtain ⟨y0, _⟩ := K10.out _ (.tail _ (.tail _ (.tail _ (.head _))))
    obtain ⟨y1, _⟩ := K10.out _ (.tail _ (.tail _ (.tail _ (.tail _ (.head _)))))
    obtain ⟨y2, l2⟩ := K10.out _ (.tail _ (.tail _ (.tail _ (.tail _ (.tail _ (.head _))))))
    obtain ⟨z0, _⟩ := K10.out _ (.tail _ (.tail _ (.tail _ (.tail _ (.tail _ (.tail _ (.head _)))))))
    obtain ⟨z1, _⟩ := K10.out _ (.tail _ (.tail _ (.tail _ (.tail _ (.tail _ (.tail _ (.tail _ (.head _))))))))
    obtain ⟨z2, l3⟩ := K10.out _ (.tail _ (.tail _ (.tail _ (.tail _ (.tail _ (.tail _ (.tail _ (.tail _ (.head _)))))))))
    dsimp only at x0 x1 x2 y0 y1 y2 z0 z1 z2 l1 l2 l3
    go_wp2_with fail
    refine (compare_any y x _).mono ?_
    rintro e w11 ⟨rfl, hb11⟩
    rw [HVN.out]
    have K11 := Lib.hid (K10.out.go hb11)
    have B11 := Lib.hid (btwo B10.out hb11)
    clear hb11
    clear x0 x1 x2 y0 y1 y2 z0 z1 z2 l1 l2 l3
    have hneg : IntKind.i64.wrap (-va) = -va := IntWalk.i64_in _ (by omega)
    have heq := Lib.hid (fun w => eql_snd x y w)
    by_cases h0 : va = 0
    · have hE := fun w => heq.out w
      rw [eqB_yes (hze h0)] at hE
      subst h0
      have HXY := Lib.hid (hze rfl)
      clear hra hze hzn a1 hneg
      by_cases h1 : 0 < vb
      · obtain ⟨x0, _⟩ := K11.out _ (.head _)
        obtain ⟨x1, _⟩ := K11.out _ (.tail _ (.head _))
        obtain ⟨x2, l1⟩ := K11.out _ (.tail _ (.tail _ (.head _)))
        obtain ⟨y0, _⟩ := K11.out _ (.tail _ (.tail _ (.tail _ (.head _))))
        obtain ⟨y1, _⟩ := K11.out _ (.tail _ (.tail _ (.tail _ (.tail _ (.head _)))))
        obtain ⟨y2, l2⟩ := K11.out _ (.tail _ (.tail _ (.tail _ (.tail _ (.tail _ (.head _))))))
        obtain ⟨z0, _⟩ := K11.out _ (.tail _ (.tail _ (.tail _ (.tail _ (.tail _ (.tail _ (.head _)))))))
        obtain ⟨z1, _⟩ := K11.out _ (.tail _ (.tail _ (.tail _ (.tail _ (.tail _ (.tail _ (.tail _ (.head _))))))))
        obtain ⟨z2, l3⟩ := K11.out _ (.tail _ (.tail _ (.tail _ (.tail _ (.tail _ (.tail _ (.tail _ (.tail _ (.head _)))))))))
        dsimp only at x0 x1 x2 y0 y1 y2 z0 z1 z2 l1 l2 l3
        go_wp2_with fail
        go_ret
        exact ⟨rfl, B11.out⟩
      · have h2 : vc ≤ 0 := htr (by omega) (by omega)
        have h3 : vb ≤ 0 := by omega
        obtain ⟨x0, _⟩ := K11.out _ (.head _)
        obtain ⟨x1, _⟩ := K11.out _ (.tail _ (.head _))
        obtain ⟨x2, l1⟩ := K11.out _ (.tail _ (.tail _ (.head _)))
        obtain ⟨y0, _⟩ := K11.out _ (.tail _ (.tail _ (.tail _ (.head _))))
        obtain ⟨y1, _⟩ := K11.out _ (.tail _ (.tail _ (.tail _ (.tail _ (.head _)))))
        obtain ⟨y2, l2⟩ := K11.out _ (.tail _ (.tail _ (.tail _ (.tail _ (.tail _ (.head _))))))
        obtain ⟨z0, _⟩ := K11.out _ (.tail _ (.tail _ (.tail _ (.tail _ (.tail _ (.tail _ (.head _)))))))
        obtain ⟨z1, _⟩ := K11.out _ (.tail _ (.tail _ (.tail _ (.tail _ (.tail _ (.tail _ (.tail _ (.head _))))))))
        obtain ⟨z2, l3⟩ := K11.out _ (.tail _ (.tail _ (.tail _ (.tail _ (.tail _ (.tail _ (.tail _ (.tail _ (.head _)))))))))
        dsimp only at x0 x1 x2 y0 y1 y2 z0 z1 z2 l1 l2 l3
        go_wp2_with fail
        go_ret
        exact ⟨rfl, B11.out⟩
    · have hE := fun w => heq.out w
      rw [eqB_no (hzn h0)] at hE
      have e0 : (va == 0) = false := beq_no h0
      have e1 : (-va == -va) = true := by simp
      clear hze hzn
      by_cases h4 : 0 < va
      · obtain ⟨x0, _⟩ := K11.out _ (.head _)
        obtain ⟨x1, _⟩ := K11.out _ (.tail _ (.head _))
        obtain ⟨x2, l1⟩ := K11.out _ (.tail _ (.tail _ (.head _)))
        obtain ⟨y0, _⟩ := K11.out _ (.tail _ (.tail _ (.tail _ (.head _))))
        obtain ⟨y1, _⟩ := K11.out _ (.tail _ (.tail _ (.tail _ (.tail _ (.head _)))))
        obtain ⟨y2, l2⟩ := K11.out _ (.tail _ (.tail _ (.tail _ (.tail _ (.tail _ (.head _))))))
        obtain ⟨z0, _⟩ := K11.out _ (.tail _ (.tail _ (.tail _ (.tail _ (.tail _ (.tail _ (.head _)))))))
        obtain ⟨z1, _⟩ := K11.out _ (.tail _ (.tail _ (.tail _ (.tail _ (.tail _ (.tail _ (.tail _ (.head _))))))))
        obtain ⟨z2, l3⟩ := K11.out _ (.tail _ (.tail _ (.tail _ (.tail _ (.tail _ (.tail _ (.tail _ (.tail _ (.head _)))))))))
        dsimp only at x0 x1 x2 y0 y1 y2 z0 z1 z2 l1 l2 l3
        go_wp2_with fail
        go_ret
        exact ⟨rfl, B11.out⟩
      · have h5 : va ≤ 0 := by omega
        by_cases h1 : 0 < vb
        · obtain ⟨x0, _⟩ := K11.out _ (.head _)
          obtain ⟨x1, _⟩ := K11.out _ (.tail _ (.head _))
          obtain ⟨x2, l1⟩ := K11.out _ (.tail _ (.tail _ (.head _)))
          obtain ⟨y0, _⟩ := K11.out _ (.tail _ (.tail _ (.tail _ (.head _))))
          obtain ⟨y1, _⟩ := K11.out _ (.tail _ (.tail _ (.tail _ (.tail _ (.head _)))))
          obtain ⟨y2, l2⟩ := K11.out _ (.tail _ (.tail _ (.tail _ (.tail _ (.tail _ (.head _))))))
          obtain ⟨z0, _⟩ := K11.out _ (.tail _ (.tail _ (.tail _ (.tail _ (.tail _ (.tail _ (.head _)))))))
          obtain ⟨z1, _⟩ := K11.out _ (.tail _ (.tail _ (.tail _ (.tail _ (.tail _ (.tail _ (.tail _ (.head _))))))))
          obtain ⟨z2, l3⟩ := K11.out _ (.tail _ (.tail _ (.tail _ (.tail _ (.tail _ (.tail _ (.tail _ (.tail _ (.head _)))))))))
          dsimp only at x0 x1 x2 y0 y1 y2 z0 z1 z2 l1 l2 l3
          go_wp2_with fail
          go_ret
          exact ⟨rfl, B11.out⟩
        · have h2 : vc ≤ 0 := htr (by omega) (by omega)
          have h3 : vb ≤ 0 := by omega
          obtain ⟨x0, _⟩ := K11.out _ (.head _)
          obtain ⟨x1, _⟩ := K11.out _ (.tail _ (.head _))
          obtain ⟨x2, l1⟩ := K11.out _ (.tail _ (.tail _ (.head _)))
          obtain ⟨y0, _⟩ := K11.out _ (.tail _ (.tail _ (.tail _ (.head _))))
          obtain ⟨y1, _⟩ := K11.out _ (.tail _ (.tail _ (.tail _ (.tail _ (.head _)))))
          obtain ⟨y2, l2⟩ := K11.out _ (.tail _ (.tail _ (.tail _ (.tail _ (.tail _ (.head _))))))
          obtain ⟨z0, _⟩ := K11.out _ (.tail _ (.tail _ (.tail _ (.tail _ (.tail _ (.tail _ (.head _)))))))
          obtain ⟨z1, _⟩ := K11.out _ (.tail _ (.tail _ (.tail _ (.tail _ (.tail _ (.tail _ (.tail _ (.head _))))))))
          obtain ⟨z2, l3⟩ := K11.out _ (.tail _ (.tail _ (.tail _ (.tail _ (.tail _ (.tail _ (.tail _ (.tail _ (.head _)))))))))
          dsimp only at x0 x1 x2 y0 y1 y2 z0 z1 z2 l1 l2 l3
          go_wp2_with fail
          go_ret
          exact ⟨rfl, B11.out⟩
end Go.Proofs.YtbmldlkjnejfaaaDoor
