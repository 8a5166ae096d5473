/- Contracts: the core of clusters, of both sides. -/
import Derived.Test.YthcdbhancfpldaaLb
namespace Go.Proofs.Ythcdbhancfpldaa
open Go.RowKit
set_option linter.unusedVariables false
set_option linter.unusedSimpArgs false
set_option maxRecDepth 100000

theorem cp_yes {L : List Snd} {k : Nat} {x : Snd} (hx : L[k]? = some x) (h : ¬ x.k = 9) : cpI (L.take (k + 1)) = cpI (L.take k) ++ [(k : Int)] := by
  rw [take_snoc hx, cpI_snoc, if_neg h, List.length_take, show min k L.length = k by have := (List.getElem?_eq_some_iff.1 hx).1; omega]
theorem cp_no {L : List Snd} {k : Nat} {x : Snd} (hx : L[k]? = some x) (h : x.k = 9) : cpI (L.take (k + 1)) = cpI (L.take k) := by
  rw [take_snoc hx, cpI_snoc, if_pos h, List.append_nil]
theorem cp_bd (L : List Snd) (k : Nat) : (cpI (L.take k)).length ≤ k := by
  rw [cpI_len]
  refine Nat.le_trans (List.length_filter_le _ _) ?_
  rw [List.length_take]; omega
def PlPost (L : List Snd) (w : World) (e : Ending) (w' : World) : Prop := ∃ D q f, e = .returned (.slice D q f) ∧ q = (cpI L).length ∧ Hp w [nums D q f (cpI L)] w'
set_option maxHeartbeats 4000000 in
theorem places_any (L : List Snd) (n c : Nat) (A : Option Addr) (w : World) (hl : L.length = n) (hn : n ≤ 1000000) (hA : CellsIn w A (sndsC L)) :
    Calls Try.prog 39 #[.slice A n c] w (PlPost L w) := by
  have HL := Lib.hid hl
  have HA := Lib.hid hA
  clear hl hA
  go_enter Try.func39, Try.ntmps39
  go_wp2
  go_loopw [3, 8] (fun v i wr => ∃ (k q f : Nat) (D : Option Addr), k ≤ n ∧ q ≤ k ∧ i = .int .i64 k ∧ v = .slice D q f ∧ q = (cpI (L.take k)).length ∧ Hp w [nums D q f (cpI (L.take k))] wr) (fun _ i _ => n - (intOf i).toNat)
  case atStart => exact ⟨0, 0, 0, none, Nat.zero_le _, Nat.zero_le _, rfl, rfl, rfl, (Hp.start w).nil_row _ rfl rfl rfl⟩
  case round =>
    obtain ⟨k, q, f, D, hk, hq, rfl, rfl, hql, V0⟩ := hrel
    have HQL := Lib.hid hql
    have V := Lib.hid V0
    clear hql V0
    by_cases hlt : k < n
    · obtain ⟨x, hx⟩ := idx_lt HL.out hlt
      obtain ⟨b, off, rfl, hb, c0, c1, c2⟩ := (HA.out.below V.out.below).snd hx
      have HX := Lib.hid hx
      clear hx
      have V1 := Lib.hid (V.out.go (bnew wr (.cells #[.int .i64 x.k, .int .i64 x.q, .string (bs x.t)] 51)))
      by_cases h9 : x.k = 9
      · have HS := Lib.hid (cp_no HX.out h9)
        have e9 : (x.k != 9) = false := bne_no h9
        clear h9
        go_wp2
        go_roundw
        case rel => exact ⟨k + 1, q, f, D, by omega, by omega, by go_num, rfl, by rw [HS.out]; exact HQL.out, by rw [HS.out]; exact V1.out⟩
        case measure => simp [intOf]; omega
      · have HS := Lib.hid (cp_yes HX.out h9)
        have e9 : (x.k != 9) = true := bne_yes h9
        clear h9
        obtain ⟨wy, hwy⟩ : ∃ z, z = (wr.alloc (.cells #[.int .i64 x.k, .int .i64 x.q, .string (bs x.t)] 51)).alloc (.cells #[.int .i64 (k : Int)] 3) := ⟨_, rfl⟩
        have V3 := Lib.hid (show Hp w [box 3 (wr.alloc (.cells #[.int .i64 x.k, .int .i64 x.q, .string (bs x.t)] 51)).heap.size [.int .i64 (k : Int)], nums D q f (cpI (L.take k))] wy by rw [hwy]; exact V1.out.box_new _ _)
        have y0 := (V3.out.box_at (i := 0) (j := 0) rfl rfl).1
        obtain ⟨g5, cap5, w5, hr5, hv5, _⟩ := run_app_num V3.out (i := 1) rfl 23 (k : Int) y0 (by omega)
        have V4 := Lib.hid (show Hp w [nums (some ⟨g5, 0, none⟩) (q + 1) cap5 (cpI (L.take k) ++ [(k : Int)])] w5 from hv5.tail)
        rw [← HS.out] at V4
        have HM3 := Lib.hid (show q + 1 = (cpI (L.take (k + 1))).length by rw [HS.out, List.length_append, ← HQL.out]; rfl)
        rw [show (wr.alloc (.cells #[.int .i64 x.k, .int .i64 x.q, .string (bs x.t)] 51)).heap.size = wr.heap.size + 1 by simp] at hr5
        have HY := Lib.hid hwy
        have HR5 := Lib.hid hr5
        clear hwy y0 hv5 hr5
        go_wp2_with (at_builtin; rw [← HY.out]; refine wpList_app_run rfl (.tmp 16) (.tmp 18) 23 rfl HR5.out rfl rfl ?_)
        go_roundw
        case rel => exact ⟨k + 1, q + 1, cap5, _, by omega, by omega, by go_num, rfl, HM3.out, V4.out⟩
        case measure => simp [intOf]; omega
    · have HE := Lib.hid (show L.take k = L from take_all (by have := HL.out; omega))
      go_wp2
      go_ret
      rw [HE.out] at HQL V
      exact ⟨D, q, f, rfl, HQL.out, V.out⟩
set_option maxHeartbeats 4000000 in
theorem rcore_any (L : List Snd) (n c : Nat) (A : Option Addr) (B : Option Addr) (m d : Nat) (w : World) (hl : L.length = n) (hn : n ≤ 1000000) (hA : CellsIn w A (sndsC L)) :
    Calls Try.prog 40 #[.agg #[.slice A n c, .slice B m d]] w (PlPost L w) := by
  have HL := Lib.hid hl
  have HA := Lib.hid hA
  clear hl hA
  go_enter Try.func40, Try.ntmps40
  go_wp2
  go_loopw [3, 4] (fun v i wr => ∃ (k q f : Nat) (D : Option Addr), k ≤ n ∧ q ≤ k ∧ i = .int .i64 k ∧ v = .slice D q f ∧ q = (cpI (L.take k)).length ∧ Hp w [nums D q f (cpI (L.take k)), cbox w.heap.size A n c B m d] wr) (fun _ i _ => n - (intOf i).toNat)
  case atStart => exact ⟨0, 0, 0, none, Nat.zero_le _, Nat.zero_le _, rfl, rfl, rfl, ((Hp.start w).cbox_new A n c B m d).nil_row _ rfl rfl rfl⟩
  case round =>
    obtain ⟨k, q, f, D, hk, hq, rfl, rfl, hql, V0⟩ := hrel
    have HQL := Lib.hid hql
    have V := Lib.hid V0
    clear hql V0
    obtain ⟨b0, b1, bg⟩ := V.out.cbox_at (i := 1) rfl
    by_cases hlt : k < n
    · obtain ⟨x, hx⟩ := idx_lt HL.out hlt
      obtain ⟨b, off, rfl, hb, c0, c1, c2⟩ := (HA.out.below V.out.below).snd hx
      have HX := Lib.hid hx
      clear hx
      by_cases h9 : x.k = 9
      · have HS := Lib.hid (cp_no HX.out h9)
        have e9 : (x.k != 9) = false := bne_no h9
        clear h9
        go_wp2
        go_roundw
        case rel => exact ⟨k + 1, q, f, D, by omega, by omega, by go_num, rfl, by rw [HS.out]; exact HQL.out, by rw [HS.out]; exact V.out⟩
        case measure => simp [intOf]; omega
      · have HS := Lib.hid (cp_yes HX.out h9)
        have e9 : (x.k != 9) = true := bne_yes h9
        clear h9
        obtain ⟨wy, hwy⟩ : ∃ z, z = (wr).alloc (.cells #[.int .i64 (k : Int)] 3) := ⟨_, rfl⟩
        have V3 := Lib.hid (show Hp w [box 3 (wr).heap.size [.int .i64 (k : Int)], nums D q f (cpI (L.take k)), cbox w.heap.size (some ⟨b, off, none⟩) n c B m d] wy by rw [hwy]; exact V.out.box_new _ _)
        have y0 := (V3.out.box_at (i := 0) (j := 0) rfl rfl).1
        obtain ⟨g5, cap5, w5, hr5, hv5, _⟩ := run_app_num V3.out (i := 1) rfl 23 (k : Int) y0 (by omega)
        have V4 := Lib.hid (show Hp w [nums (some ⟨g5, 0, none⟩) (q + 1) cap5 (cpI (L.take k) ++ [(k : Int)]), cbox w.heap.size (some ⟨b, off, none⟩) n c B m d] w5 from hv5.tail)
        rw [← HS.out] at V4
        have HM3 := Lib.hid (show q + 1 = (cpI (L.take (k + 1))).length by rw [HS.out, List.length_append, ← HQL.out]; rfl)
        have HY := Lib.hid hwy
        have HR5 := Lib.hid hr5
        clear hwy y0 hv5 hr5
        go_wp2_with (at_builtin; rw [← HY.out]; refine wpList_app_run rfl (.tmp 19) (.tmp 21) 23 rfl HR5.out rfl rfl ?_)
        go_roundw
        case rel => exact ⟨k + 1, q + 1, cap5, _, by omega, by omega, by go_num, rfl, HM3.out, V4.out⟩
        case measure => simp [intOf]; omega
    · have HE := Lib.hid (show L.take k = L from take_all (by have := HL.out; omega))
      go_wp2
      go_ret
      rw [HE.out] at HQL V
      exact ⟨D, q, f, rfl, HQL.out, V.out.pick [0] (by decide) rfl⟩
/-- What the core's places are, if there are two. -/
theorem core_two {L : List Snd} (h : (cpI L).length = 2) : ∃ (k0 k1 : Nat) (x y : Snd), cpI L = [(k0 : Int), (k1 : Int)] ∧ k0 < L.length ∧ k1 < L.length ∧ L[k0]? = some x ∧ L[k1]? = some y ∧ mlB L = (x.k == 3 && y.k == 4) ∧ cAt L 0 = k0 ∧ cAt L 1 = k1 := by
  rw [cpI_len] at h
  obtain ⟨x, y, e⟩ : ∃ x y, coS L = [x, y] := by
    match hc : coS L, h with
    | [x, y], _ => exact ⟨x, y, rfl⟩
  obtain ⟨k0, a1, a2, a3, a4⟩ := cAt_is (L := L) (j := 0) (x := x) (by rw [e]; rfl)
  obtain ⟨k1, b1, b2, b3, b4⟩ := cAt_is (L := L) (j := 1) (x := y) (by rw [e]; rfl)
  refine ⟨k0, k1, x, y, ?_, a3, b3, a4, b4, mlB_is e, a2, b2⟩
  have hl : (cpI L).length = 2 := by rw [cpI_len]; exact h
  match hc : cpI L, hl with
  | [u, v], _ =>
    rw [hc] at a1 b1
    have e1 : u = k0 := by simpa using a1
    have e2 : v = k1 := by simpa using b1
    rw [e1, e2]
set_option maxHeartbeats 4000000 in
theorem ml_any (L : List Snd) (n c : Nat) (A D : Option Addr) (q f : Nat) (w : World) (hl : L.length = n) (hn : n ≤ 1000000) (hA : CellsIn w A (sndsC L)) (hq : q = (cpI L).length) (hq1 : q ≤ 1000000) (hD : CellsIn w D (ints (cpI L))) :
    Calls Try.prog 55 #[.slice A n c, .slice D q f] w fun e w' => e = .returned (.bool (mlB L)) ∧ w = w' := by
  by_cases h2 : q = 2
  · subst h2
    obtain ⟨k0, k1, x, y, e, l0, l1, hx, hy, hm, _, _⟩ := core_two hq.symm
    rw [e] at hD
    obtain ⟨b, off, rfl, hb, d0⟩ := hD.int (j := 0) (by simp)
    obtain ⟨b2, off2, e2, _, d1⟩ := hD.int (j := 1) (by simp)
    injection e2 with e2
    injection e2 with e2 e3
    subst e2 e3
    simp only [List.getD_cons_zero, List.getD_cons_succ, Nat.add_zero] at d0 d1
    obtain ⟨bs1, os1, rfl, hbs, x0, _, _⟩ := hA.snd hx
    obtain ⟨bs2, os2, e2, _, y0, _, _⟩ := hA.snd hy
    injection e2 with e2
    injection e2 with e2 e3
    subst e2 e3
    have HM := Lib.hid hm
    have hk0 : k0 < n := by omega
    have hk1 : k1 < n := by omega
    clear hx hy hm hA hD hq e l0 l1
    by_cases h3 : x.k = 3
    · have e3 : (x.k == 3) = true := beq_yes h3
      by_cases h4 : y.k = 4
      · have e4 : (y.k == 4) = true := beq_yes h4
        have HE := Lib.hid (show mlB L = true by rw [HM.out, e3, e4]; rfl)
        clear h3 h4
        go_enter Try.func55, Try.ntmps55
        go_wp2
        go_ret
        exact ⟨ret_bool HE.out.symm, rfl⟩
      · have e4 : (y.k == 4) = false := beq_no h4
        have HE := Lib.hid (show mlB L = false by rw [HM.out, e3, e4]; rfl)
        clear h3 h4
        go_enter Try.func55, Try.ntmps55
        go_wp2
        go_ret
        exact ⟨ret_bool HE.out.symm, rfl⟩
    · have e3 : (x.k == 3) = false := beq_no h3
      have HE := Lib.hid (show mlB L = false by rw [HM.out, e3]; rfl)
      clear h3
      go_enter Try.func55, Try.ntmps55
      go_wp2
      go_ret
      exact ⟨ret_bool HE.out.symm, rfl⟩
  · have HE := Lib.hid (show mlB L = false from mlB_no (by rw [← cpI_len, ← hq]; exact h2))
    have e2 : ((q : Int) == 2) = false := beq_no (by omega)
    clear hA hD hq
    go_enter Try.func55, Try.ntmps55
    go_wp2
    go_ret
    exact ⟨ret_bool HE.out.symm, rfl⟩
end Go.Proofs.Ythcdbhancfpldaa
