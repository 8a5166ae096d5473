/- Contracts: Compare of both sides, the order of numbers. -/
import Derived.Test.YthcdbhancfpldaaUf
import Derived.Test.YthcdbhancfpldaaUg
namespace Go.Proofs.Ythcdbhancfpldaa
open Go.RowKit
set_option linter.unusedVariables false
set_option linter.unusedSimpArgs false
set_option maxRecDepth 100000

set_option maxHeartbeats 1000000 in
theorem order_any (a b : Int) (w : World) : Calls Try.prog 60 #[.int .i64 a, .int .i64 b] w fun e w' => e = .returned (.int .i64 (Lib.compareInt a b)) ∧ w = w' := by
  rcases cmpI_cases a b with ⟨h, g⟩ | ⟨h, g⟩ | ⟨h, g⟩
  · have HP := Lib.hid h
    clear h
    go_enter Try.func60, Try.ntmps60
    go_wp2
    go_ret
    exact ⟨ret_int HP.out.symm, rfl⟩
  · have HP := Lib.hid h
    clear h
    subst g
    go_enter Try.func60, Try.ntmps60
    go_wp2
    go_ret
    exact ⟨ret_int HP.out.symm, rfl⟩
  · have HP := Lib.hid h
    clear h
    go_enter Try.func60, Try.ntmps60
    go_wp2
    go_ret
    exact ⟨ret_int HP.out.symm, rfl⟩
def orL : List Int → Int
  | [] => 0
  | x :: r => if x ≠ 0 then x else orL r
theorem orL_at : ∀ {L : List Int} {k : Nat} {x : Int}, L[k]? = some x → (∀ y ∈ L.take k, y = 0) → x ≠ 0 → orL L = x
  | [], k, x, h, _, _ => by simp at h
  | y :: r, 0, x, h, _, hx => by
    have e : y = x := by simpa using h
    subst e; rw [orL, if_pos hx]
  | y :: r, k + 1, x, h, hk, hx => by
    have hy : y = 0 := hk y (by simp)
    rw [orL, if_neg (by simp [hy]), orL_at (by simpa using h) (fun z hz => hk z (by rw [List.take_succ_cons]; exact List.mem_cons_of_mem _ hz)) hx]
theorem orL_all : ∀ {L : List Int}, (∀ y ∈ L, y = 0) → orL L = 0
  | [], _ => rfl
  | y :: r, h => by rw [orL, if_neg (by simp [h y]), orL_all (fun z hz => h z (List.mem_cons_of_mem _ hz))]
set_option maxHeartbeats 2000000 in
theorem cmpor_any (L : List Int) (n c : Nat) (A : Option Addr) (w : World) (hl : L.length = n) (hn : n ≤ 1000) (hA : CellsIn w A (ints L)) : Calls Try.prog 65 #[.slice A n c] w fun e w' => e = .returned (.int .i64 (orL L)) ∧ w = w' := by
  have HL := Lib.hid hl
  have HA := Lib.hid hA
  clear hl hA
  go_enter Try.func65, Try.ntmps65
  go_wp2
  go_loopw [8] (fun i wr => ∃ k : Nat, k ≤ n ∧ i = .int .i64 k ∧ (∀ y ∈ L.take k, y = 0) ∧ w = wr) (fun i _ => n - (intOf i).toNat)
  case atStart => exact ⟨0, Nat.zero_le _, rfl, fun y hy => by simp at hy, rfl⟩
  case round =>
    obtain ⟨k, hk, rfl, hall, rfl⟩ := hrel
    have HALL := Lib.hid hall
    clear hall
    by_cases hlt : k < n
    · obtain ⟨b, off, rfl, hb, c0⟩ := HA.out.int (j := k) (by rw [HL.out]; exact hlt)
      obtain ⟨x, hx⟩ := idx_lt HL.out hlt
      have hgd : L.getD k 0 = x := by rw [List.getD_eq_getElem?_getD, hx]; rfl
      rw [hgd] at c0
      have HX := Lib.hid hx
      clear hx hgd
      by_cases h0 : x = 0
      · have HN := Lib.hid (show ∀ y ∈ L.take (k + 1), y = 0 from fun y hy => by
          rw [take_snoc HX.out] at hy
          rcases List.mem_append.1 hy with hy | hy
          · exact HALL.out y hy
          · rw [List.mem_singleton.1 hy]; exact h0)
        have e1 : (x != 0) = false := by simp [h0]
        clear h0
        go_wp2
        go_roundw
        case rel => exact ⟨k + 1, by omega, by go_num, HN.out, trivial⟩
        case measure => simp [intOf]; omega
      · have HE := Lib.hid (orL_at HX.out HALL.out h0)
        have e1 : (x != 0) = true := bne_yes h0
        clear h0
        go_wp2
        go_ret
        exact ⟨ret_int HE.out.symm, rfl⟩
    · have HE := Lib.hid (show orL L = 0 from orL_all (by have := HALL.out; rwa [take_all (by have := HL.out; omega)] at this))
      go_wp2
      go_ret
      exact ⟨ret_int HE.out.symm, rfl⟩
theorem orL_three (x y : Snd) : orL [Lib.compareInt x.k y.k, Lib.compareInt x.q y.q, Lib.compareBytes x.t y.t] = cmpS x y := by
  unfold cmpS
  simp only [orL]
  split
  · rfl
  · split
    · rfl
    · split
      · rfl
      · rename_i h; simp at h; exact h.symm
theorem two_cells (x y : Snd) (w : World) : Keep [(⟨w.heap.size, 0, none⟩, .int .i64 x.k), (⟨w.heap.size, 1, none⟩, .int .i64 x.q), (⟨w.heap.size, 2, none⟩, .string (bs x.t)), (⟨w.heap.size + 1, 0, none⟩, .int .i64 y.k), (⟨w.heap.size + 1, 1, none⟩, .int .i64 y.q), (⟨w.heap.size + 1, 2, none⟩, .string (bs y.t))] ((w.alloc (.cells #[.int .i64 x.k, .int .i64 x.q, .string (bs x.t)] 51)).alloc (.cells #[.int .i64 y.k, .int .i64 y.q, .string (bs y.t)] 51)) := by
  have h1 := box_cells w x
  have h2 := kept_cells h1 (by simp) (bnew (w.alloc (.cells #[.int .i64 x.k, .int .i64 x.q, .string (bs x.t)] 51)) (.cells #[.int .i64 y.k, .int .i64 y.q, .string (bs y.t)] 51))
  have h3 := box_cells (w.alloc (.cells #[.int .i64 x.k, .int .i64 x.q, .string (bs x.t)] 51)) y
  have e : (w.alloc (.cells #[.int .i64 x.k, .int .i64 x.q, .string (bs x.t)] 51)).heap.size = w.heap.size + 1 := by simp
  rw [e] at h3
  exact List.forall_mem_cons.2 ⟨⟨h2.1, by simp; omega⟩, List.forall_mem_cons.2 ⟨⟨h2.2.1, by simp; omega⟩, List.forall_mem_cons.2 ⟨⟨h2.2.2, by simp; omega⟩, List.forall_mem_cons.2 ⟨⟨h3.1, by simp⟩, List.forall_mem_cons.2 ⟨⟨h3.2.1, by simp⟩, List.forall_mem_cons.2 ⟨⟨h3.2.2, by simp⟩, fun _ h => by simp at h⟩⟩⟩⟩⟩⟩
set_option maxHeartbeats 8000000 in
theorem compare_any (x y : Snd) (w : World) : Calls Try.prog 52 #[.agg #[.int .i64 x.k, .int .i64 x.q, .string (bs x.t)], .agg #[.int .i64 y.k, .int .i64 y.q, .string (bs y.t)]] w fun e w' => e = .returned (.int .i64 (cmpS x y)) ∧ Below w.heap.size w w' := by
  have hKp := Lib.hid (two_cells x y w)
  obtain ⟨wz, hwz⟩ : ∃ wz, wz = (w.alloc (.cells #[.int .i64 x.k, .int .i64 x.q, .string (bs x.t)] 51)).alloc (.cells #[.int .i64 y.k, .int .i64 y.q, .string (bs y.t)] 51) := ⟨_, rfl⟩
  have B0 := Lib.hid (show Below w.heap.size w wz by rw [hwz]; exact btwo (bnew _ _) (bnew _ _))
  rw [← hwz] at hKp
  have HZ := Lib.hid hwz
  have hl0 : w.heap.size < (w.alloc (.cells #[.int .i64 x.k, .int .i64 x.q, .string (bs x.t)] 51)).heap.size := by simp
  have HOR := Lib.hid (orL_three x y)
  have HBA := Lib.hid (show (bs x.t).data.toList = x.t from rfl)
  clear hwz
  go_enter Try.func52, Try.ntmps52
  go_upto_region 1 with fail
  rw [← HZ.out]
  refine wp_region_held_drew (S := Keep [(⟨w.heap.size, 0, none⟩, .int .i64 x.k), (⟨w.heap.size, 1, none⟩, .int .i64 x.q), (⟨w.heap.size, 2, none⟩, .string (bs x.t)), (⟨w.heap.size + 1, 0, none⟩, .int .i64 y.k), (⟨w.heap.size + 1, 1, none⟩, .int .i64 y.q), (⟨w.heap.size + 1, 2, none⟩, .string (bs y.t))]) (by kernel_rfl) hKp.out.drew (fun hHeld => ?_)
  refine tk 0 ?_ rfl ?_ ?_; rotate_left; focus (intro w hSw; clear hSw; go_simp; try (with_reducible rfl))
  try simp only [Act.put, sA, sZ, sS]
  refine tk 1 ?_ rfl ?_ ?_; rotate_left
  · intro wl hSw
    have hSw : Keep _ wl := hSw
    have k0 := (hSw _ (.head _)).1
    dsimp only at k0
    clear hSw
    go_simp
    try (with_reducible rfl)
  try simp only [Act.put, sA, sZ, sS]
  refine tk 2 ?_ rfl ?_ ?_; rotate_left; focus (intro w hSw; clear hSw; go_simp; try (with_reducible rfl))
  try simp only [Act.put, sA, sZ, sS]
  refine tk 3 ?_ rfl ?_ ?_; rotate_left
  · intro wl hSw
    have hSw : Keep _ wl := hSw
    have k0 := (hSw _ (.tail _ (.tail _ (.tail _ (.head _))))).1
    dsimp only at k0
    clear hSw
    go_simp
    try (with_reducible rfl)
  try simp only [Act.put, sA, sZ, sS]
  refine tk 5 ?_ rfl ?_ ?_; rotate_left; focus (intro w hSw; clear hSw; go_simp; try (with_reducible rfl))
  try simp only [Act.put, sA, sZ, sS]
  refine tk 6 ?_ rfl ?_ ?_; rotate_left
  · intro wl hSw
    have hSw : Keep _ wl := hSw
    have k0 := (hSw _ (.tail _ (.head _))).1
    dsimp only at k0
    clear hSw
    go_simp
    try (with_reducible rfl)
  try simp only [Act.put, sA, sZ, sS]
  refine tk 7 ?_ rfl ?_ ?_; rotate_left; focus (intro w hSw; clear hSw; go_simp; try (with_reducible rfl))
  try simp only [Act.put, sA, sZ, sS]
  refine tk 8 ?_ rfl ?_ ?_; rotate_left
  · intro wl hSw
    have hSw : Keep _ wl := hSw
    have k0 := (hSw _ (.tail _ (.tail _ (.tail _ (.tail _ (.head _)))))).1
    dsimp only at k0
    clear hSw
    go_simp
    try (with_reducible rfl)
  try simp only [Act.put, sA, sZ, sS]
  refine tk 10 ?_ rfl ?_ ?_; rotate_left; focus (intro w hSw; clear hSw; go_simp; try (with_reducible rfl))
  try simp only [Act.put, sA, sZ, sS]
  refine tk 11 ?_ rfl ?_ ?_; rotate_left
  · intro wl hSw
    have hSw : Keep _ wl := hSw
    have k0 := (hSw _ (.tail _ (.tail _ (.head _)))).1
    dsimp only at k0
    clear hSw
    go_simp
    try (with_reducible rfl)
  try simp only [Act.put, sA, sZ, sS]
  refine tk 12 ?_ rfl ?_ ?_; rotate_left; focus (intro w hSw; clear hSw; go_simp; try (with_reducible rfl))
  try simp only [Act.put, sA, sZ, sS]
  refine tk 13 ?_ rfl ?_ ?_; rotate_left
  · intro wl hSw
    have hSw : Keep _ wl := hSw
    have k0 := (hSw _ (.tail _ (.tail _ (.tail _ (.tail _ (.tail _ (.head _))))))).1
    dsimp only at k0
    clear hSw
    go_simp
    try (with_reducible rfl)
  try simp only [Act.put, sA, sZ, sS]
  refine wpAnyH_ready (rs := [4]) (by kernel_rfl) (by simp) ?_
  refine AllReadyH.cons (List.getElem?_toArray.trans rfl) (fun K hK => ?_) AllReadyH.nil
  go_simp
  refine (Try.cmp_Compare_int _ _ _).mono ?_
  rintro e w1 ⟨rfl, hw1⟩
  have hb1 : Below wz.drew.heap.size wz.drew w1 := by rw [hw1]; exact Below.refl _ _
  have B1 := Lib.hid (btwo (btwo B0.out (bdrew _)) hb1)
  clear hw1
  try go_wp2_with fail
  refine hK.out _ _ (hHeld.go hb1) (fun hHeld => ?_)
  clear hK K
  try simp only [Act.put, sA, sZ, sS]
  refine wpAnyH_ready (rs := [9]) (by kernel_rfl) (by simp) ?_
  refine AllReadyH.cons (List.getElem?_toArray.trans rfl) (fun K hK => ?_) AllReadyH.nil
  go_simp
  refine (Try.cmp_Compare_int _ _ _).mono ?_
  rintro e w2 ⟨rfl, hw2⟩
  have hb2 : Below w1.heap.size w1 w2 := by rw [hw2]; exact Below.refl _ _
  have B2 := Lib.hid (btwo B1.out hb2)
  clear hw2
  try go_wp2_with fail
  refine hK.out _ _ (hHeld.go hb2) (fun hHeld => ?_)
  clear hK K
  try simp only [Act.put, sA, sZ, sS]
  refine wpAnyH_ready (rs := [14]) (by kernel_rfl) (by simp) ?_
  refine AllReadyH.cons (List.getElem?_toArray.trans rfl) (fun K hK => ?_) AllReadyH.nil
  go_simp
  refine (Try.strings_Compare _ _ _).mono ?_
  rintro e w3 ⟨rfl, hw3⟩
  rw [show Lib.compareBytes (bs x.t).data.toList (bs y.t).data.toList = Lib.compareBytes x.t y.t from rfl]
  have hb3 : Below w2.heap.size w2 w3 := by rw [hw3]; exact Below.refl _ _
  have B3 := Lib.hid (btwo B2.out hb3)
  clear hw3
  try go_wp2_with fail
  refine hK.out _ _ (hHeld.go hb3) (fun hHeld => ?_)
  clear hK K
  try simp only [Act.put, sA, sZ, sS]
  refine wpAnyH_ready (rs := [15]) (by kernel_rfl) (by simp) ?_
  refine AllReadyH.cons (List.getElem?_toArray.trans rfl) (fun K hK => ?_) AllReadyH.nil
  obtain ⟨wb, hwb⟩ : ∃ z, z = w3.alloc (.cells #[.int .i64 (Lib.compareInt x.k y.k), .int .i64 (Lib.compareInt x.q y.q), .int .i64 (Lib.compareBytes x.t y.t)] 3) := ⟨_, rfl⟩
  have CB := Lib.hid (show CellsIn wb (some ⟨w3.heap.size, 0, none⟩) (ints [Lib.compareInt x.k y.k, Lib.compareInt x.q y.q, Lib.compareBytes x.t y.t]) by rw [hwb]; exact ((Hp.start w3).lit 3 1 3 (ints [Lib.compareInt x.k y.k, Lib.compareInt x.q y.q, Lib.compareBytes x.t y.t]) rfl (by decide)).cells (i := 0) (A := some ⟨w3.heap.size, 0, none⟩) (c := 3) rfl rfl)
  have hbb : Below w3.heap.size w3 wb := by rw [hwb]; exact bnew _ _
  have B4 := Lib.hid (btwo B3.out hbb)
  go_simp
  rw [← hwb]
  clear hwb
  refine hK.out _ _ (hHeld.go hbb) (fun hHeld => ?_)
  clear hK K
  try simp only [Act.put, sA, sZ, sS]
  refine wpAnyH_ready (rs := [16]) (by kernel_rfl) (by simp) ?_
  refine AllReadyH.cons (List.getElem?_toArray.trans rfl) (fun K hK => ?_) AllReadyH.nil
  go_simp
  refine (cmpor_any _ 3 3 _ _ rfl (by decide) CB.out).mono ?_
  rintro e w5 ⟨rfl, hw5⟩
  rw [HOR.out]
  have hb5 : Below wb.heap.size wb w5 := by rw [hw5]; exact Below.refl _ _
  have B5 := Lib.hid (btwo B4.out hb5)
  clear hw5
  try go_wp2_with fail
  refine hK.out _ _ (hHeld.go hb5) (fun hHeld => ?_)
  clear hK K
  try simp only [Act.put, sA, sZ, sS]
  refine tk 17 ?_ rfl ?_ ?_; rotate_left; focus (intro w hSw; clear hSw; go_simp; try (with_reducible rfl))
  try simp only [Act.put, sA, sZ, sS]
  refine wpAnyH_done (by kernel_rfl) ?_ _
  go_wp2_with fail
  go_ret
  exact ⟨rfl, B5.out⟩
theorem str_lt {x y : Snd} (h : Lib.compareBytes x.t y.t = -1) : Op.bytesLess (bs x.t).toList (bs y.t).toList = true := by
  rw [ByteArray.toList_eq, ByteArray.toList_eq, bs_list, bs_list, less_cmp, h]; rfl
theorem str_nlt {x y : Snd} (h : Lib.compareBytes x.t y.t ≠ -1) : Op.bytesLess (bs x.t).toList (bs y.t).toList = false := by
  rw [ByteArray.toList_eq, ByteArray.toList_eq, bs_list, bs_list, less_cmp, decide_eq_false h]
theorem str_eq {x y : Snd} (h : Lib.compareBytes x.t y.t = 0) : ((bs x.t).toList == (bs y.t).toList) = true := by
  rw [cmpB_zero.1 h]; simp
theorem str_neq {x y : Snd} (h : Lib.compareBytes x.t y.t ≠ 0) : ((bs x.t).toList == (bs y.t).toList) = false := by
  rw [ByteArray.toList_eq, ByteArray.toList_eq, bs_list, bs_list, beq_eq_false_iff_ne]; intro e; exact h (cmpB_zero.2 e)
theorem cmp_k {x y : Snd} (h : Lib.compareInt x.k y.k ≠ 0) : cmpS x y = Lib.compareInt x.k y.k := by unfold cmpS; rw [if_pos h]
theorem cmp_q {x y : Snd} (h : Lib.compareInt x.k y.k = 0) (h2 : Lib.compareInt x.q y.q ≠ 0) : cmpS x y = Lib.compareInt x.q y.q := by unfold cmpS; rw [if_neg (by simp [h]), if_pos h2]
theorem cmp_t {x y : Snd} (h : Lib.compareInt x.k y.k = 0) (h2 : Lib.compareInt x.q y.q = 0) : cmpS x y = Lib.compareBytes x.t y.t := by unfold cmpS; rw [if_neg (by simp [h]), if_neg (by simp [h2])]
set_option maxHeartbeats 8000000 in
theorem rcompare_any (x y : Snd) (w : World) : Calls Try.prog 46 #[.agg #[.int .i64 x.k, .int .i64 x.q, .string (bs x.t)], .agg #[.int .i64 y.k, .int .i64 y.q, .string (bs y.t)]] w fun e w' => e = .returned (.int .i64 (cmpS x y)) ∧ Below w.heap.size w w' := by
  have hKp := Lib.hid (two_cells x y w)
  obtain ⟨wz, hwz⟩ : ∃ wz, wz = (w.alloc (.cells #[.int .i64 x.k, .int .i64 x.q, .string (bs x.t)] 51)).alloc (.cells #[.int .i64 y.k, .int .i64 y.q, .string (bs y.t)] 51) := ⟨_, rfl⟩
  have B0 := Lib.hid (show Below w.heap.size w wz by rw [hwz]; exact btwo (bnew _ _) (bnew _ _))
  rw [← hwz] at hKp
  have HZ := Lib.hid hwz
  have hl0 : w.heap.size < (w.alloc (.cells #[.int .i64 x.k, .int .i64 x.q, .string (bs x.t)] 51)).heap.size := by simp
  clear hwz
  rcases cmpI_cases x.k y.k with ⟨h, -⟩ | ⟨h, -⟩ | ⟨h, -⟩
  · have HA := Lib.hid h
    have HE := Lib.hid (show cmpS x y = -1 by rw [cmp_k (by rw [h]; decide), h])
    clear h
    obtain ⟨x0, _⟩ := hKp.out _ (.head _)
    obtain ⟨x1, _⟩ := hKp.out _ (.tail _ (.head _))
    obtain ⟨x2, l1⟩ := hKp.out _ (.tail _ (.tail _ (.head _)))
    obtain ⟨y0, _⟩ := hKp.out _ (.tail _ (.tail _ (.tail _ (.head _))))
    obtain ⟨y1, _⟩ := hKp.out _ (.tail _ (.tail _ (.tail _ (.tail _ (.head _)))))
    obtain ⟨y2, l2⟩ := hKp.out _ (.tail _ (.tail _ (.tail _ (.tail _ (.tail _ (.head _))))))
    dsimp only at x0 x1 x2 y0 y1 y2 l1 l2
    go_enter Try.func46, Try.ntmps46
    go_upto_region 1 with fail
    rw [← HZ.out]
    go_wp2_with fail
    refine (order_any _ _ _).mono ?_
    rintro e w1 ⟨rfl, rfl⟩
    rw [HA.out]
    go_wp2_with fail
    go_ret
    exact ⟨ret_int HE.out.symm, B0.out⟩
  · have HA := Lib.hid h
    rcases cmpI_cases x.q y.q with ⟨h2, -⟩ | ⟨h2, -⟩ | ⟨h2, -⟩
    · have HQ := Lib.hid h2
      have HE := Lib.hid (show cmpS x y = -1 by rw [cmp_q h (by rw [h2]; decide), h2])
      clear h h2
      obtain ⟨x0, _⟩ := hKp.out _ (.head _)
      obtain ⟨x1, _⟩ := hKp.out _ (.tail _ (.head _))
      obtain ⟨x2, l1⟩ := hKp.out _ (.tail _ (.tail _ (.head _)))
      obtain ⟨y0, _⟩ := hKp.out _ (.tail _ (.tail _ (.tail _ (.head _))))
      obtain ⟨y1, _⟩ := hKp.out _ (.tail _ (.tail _ (.tail _ (.tail _ (.head _)))))
      obtain ⟨y2, l2⟩ := hKp.out _ (.tail _ (.tail _ (.tail _ (.tail _ (.tail _ (.head _))))))
      dsimp only at x0 x1 x2 y0 y1 y2 l1 l2
      go_enter Try.func46, Try.ntmps46
      go_upto_region 1 with fail
      rw [← HZ.out]
      go_wp2_with fail
      refine (order_any _ _ _).mono ?_
      rintro e w1 ⟨rfl, rfl⟩
      rw [HA.out]
      go_wp2_with fail
      refine (order_any _ _ _).mono ?_
      rintro e w1 ⟨rfl, rfl⟩
      rw [HQ.out]
      go_wp2_with fail
      go_ret
      exact ⟨ret_int HE.out.symm, B0.out⟩
    · have HQ := Lib.hid h2
      rcases cmpB_rng x.t y.t with h3 | h3 | h3
      · have HE := Lib.hid (show cmpS x y = -1 by rw [cmp_t h h2, h3])
        have s1 := str_lt h3
        clear h h2 h3
        obtain ⟨x0, _⟩ := hKp.out _ (.head _)
        obtain ⟨x1, _⟩ := hKp.out _ (.tail _ (.head _))
        obtain ⟨x2, l1⟩ := hKp.out _ (.tail _ (.tail _ (.head _)))
        obtain ⟨y0, _⟩ := hKp.out _ (.tail _ (.tail _ (.tail _ (.head _))))
        obtain ⟨y1, _⟩ := hKp.out _ (.tail _ (.tail _ (.tail _ (.tail _ (.head _)))))
        obtain ⟨y2, l2⟩ := hKp.out _ (.tail _ (.tail _ (.tail _ (.tail _ (.tail _ (.head _))))))
        dsimp only at x0 x1 x2 y0 y1 y2 l1 l2
        go_enter Try.func46, Try.ntmps46
        go_upto_region 1 with fail
        rw [← HZ.out]
        go_wp2_with fail
        refine (order_any _ _ _).mono ?_
        rintro e w1 ⟨rfl, rfl⟩
        rw [HA.out]
        go_wp2_with fail
        refine (order_any _ _ _).mono ?_
        rintro e w1 ⟨rfl, rfl⟩
        rw [HQ.out]
        go_wp2_with fail
        go_ret
        exact ⟨ret_int HE.out.symm, B0.out⟩
      · have HE := Lib.hid (show cmpS x y = 0 by rw [cmp_t h h2, h3])
        have s1 := str_nlt (x := x) (y := y) (by rw [h3]; decide)
        have s2 := str_eq h3
        clear h h2 h3
        obtain ⟨x0, _⟩ := hKp.out _ (.head _)
        obtain ⟨x1, _⟩ := hKp.out _ (.tail _ (.head _))
        obtain ⟨x2, l1⟩ := hKp.out _ (.tail _ (.tail _ (.head _)))
        obtain ⟨y0, _⟩ := hKp.out _ (.tail _ (.tail _ (.tail _ (.head _))))
        obtain ⟨y1, _⟩ := hKp.out _ (.tail _ (.tail _ (.tail _ (.tail _ (.head _)))))
        obtain ⟨y2, l2⟩ := hKp.out _ (.tail _ (.tail _ (.tail _ (.tail _ (.tail _ (.head _))))))
        dsimp only at x0 x1 x2 y0 y1 y2 l1 l2
        go_enter Try.func46, Try.ntmps46
        go_upto_region 1 with fail
        rw [← HZ.out]
        go_wp2_with fail
        refine (order_any _ _ _).mono ?_
        rintro e w1 ⟨rfl, rfl⟩
        rw [HA.out]
        go_wp2_with fail
        refine (order_any _ _ _).mono ?_
        rintro e w1 ⟨rfl, rfl⟩
        rw [HQ.out]
        go_wp2_with fail
        go_ret
        exact ⟨ret_int HE.out.symm, B0.out⟩
      · have HE := Lib.hid (show cmpS x y = 1 by rw [cmp_t h h2, h3])
        have s1 := str_nlt (x := x) (y := y) (by rw [h3]; decide)
        have s2 := str_neq (x := x) (y := y) (by rw [h3]; decide)
        clear h h2 h3
        obtain ⟨x0, _⟩ := hKp.out _ (.head _)
        obtain ⟨x1, _⟩ := hKp.out _ (.tail _ (.head _))
        obtain ⟨x2, l1⟩ := hKp.out _ (.tail _ (.tail _ (.head _)))
        obtain ⟨y0, _⟩ := hKp.out _ (.tail _ (.tail _ (.tail _ (.head _))))
        obtain ⟨y1, _⟩ := hKp.out _ (.tail _ (.tail _ (.tail _ (.tail _ (.head _)))))
        obtain ⟨y2, l2⟩ := hKp.out _ (.tail _ (.tail _ (.tail _ (.tail _ (.tail _ (.head _))))))
        dsimp only at x0 x1 x2 y0 y1 y2 l1 l2
        go_enter Try.func46, Try.ntmps46
        go_upto_region 1 with fail
        rw [← HZ.out]
        go_wp2_with fail
        refine (order_any _ _ _).mono ?_
        rintro e w1 ⟨rfl, rfl⟩
        rw [HA.out]
        go_wp2_with fail
        refine (order_any _ _ _).mono ?_
        rintro e w1 ⟨rfl, rfl⟩
        rw [HQ.out]
        go_wp2_with fail
        go_ret
        exact ⟨ret_int HE.out.symm, B0.out⟩
    · have HQ := Lib.hid h2
      have HE := Lib.hid (show cmpS x y = 1 by rw [cmp_q h (by rw [h2]; decide), h2])
      clear h h2
      obtain ⟨x0, _⟩ := hKp.out _ (.head _)
      obtain ⟨x1, _⟩ := hKp.out _ (.tail _ (.head _))
      obtain ⟨x2, l1⟩ := hKp.out _ (.tail _ (.tail _ (.head _)))
      obtain ⟨y0, _⟩ := hKp.out _ (.tail _ (.tail _ (.tail _ (.head _))))
      obtain ⟨y1, _⟩ := hKp.out _ (.tail _ (.tail _ (.tail _ (.tail _ (.head _)))))
      obtain ⟨y2, l2⟩ := hKp.out _ (.tail _ (.tail _ (.tail _ (.tail _ (.tail _ (.head _))))))
      dsimp only at x0 x1 x2 y0 y1 y2 l1 l2
      go_enter Try.func46, Try.ntmps46
      go_upto_region 1 with fail
      rw [← HZ.out]
      go_wp2_with fail
      refine (order_any _ _ _).mono ?_
      rintro e w1 ⟨rfl, rfl⟩
      rw [HA.out]
      go_wp2_with fail
      refine (order_any _ _ _).mono ?_
      rintro e w1 ⟨rfl, rfl⟩
      rw [HQ.out]
      go_wp2_with fail
      go_ret
      exact ⟨ret_int HE.out.symm, B0.out⟩
  · have HA := Lib.hid h
    have HE := Lib.hid (show cmpS x y = 1 by rw [cmp_k (by rw [h]; decide), h])
    clear h
    obtain ⟨x0, _⟩ := hKp.out _ (.head _)
    obtain ⟨x1, _⟩ := hKp.out _ (.tail _ (.head _))
    obtain ⟨x2, l1⟩ := hKp.out _ (.tail _ (.tail _ (.head _)))
    obtain ⟨y0, _⟩ := hKp.out _ (.tail _ (.tail _ (.tail _ (.head _))))
    obtain ⟨y1, _⟩ := hKp.out _ (.tail _ (.tail _ (.tail _ (.tail _ (.head _)))))
    obtain ⟨y2, l2⟩ := hKp.out _ (.tail _ (.tail _ (.tail _ (.tail _ (.tail _ (.head _))))))
    dsimp only at x0 x1 x2 y0 y1 y2 l1 l2
    go_enter Try.func46, Try.ntmps46
    go_upto_region 1 with fail
    rw [← HZ.out]
    go_wp2_with fail
    refine (order_any _ _ _).mono ?_
    rintro e w1 ⟨rfl, rfl⟩
    rw [HA.out]
    go_wp2_with fail
    go_ret
    exact ⟨ret_int HE.out.symm, B0.out⟩
end Go.Proofs.Ythcdbhancfpldaa
