/- Contracts: marks, and Valid of the program. -/
import Derived.Test.YthcdbhancfpldaaUc
import Derived.Test.YthcdbhancfpldaaShelf
namespace Go.Proofs.Ythcdbhancfpldaa
open Go.RowKit
set_option linter.unusedVariables false
set_option linter.unusedSimpArgs false
set_option maxRecDepth 100000

theorem idx_none {l : List UInt8} {c : UInt8} (h : c ∉ l) : Lib.indexByte l c = -1 := by
  induction l with
  | nil => rfl
  | cons b l ih =>
    have h1 : b ≠ c := fun e => h (by simp [e])
    have h2 := ih (fun hm => h (List.mem_cons_of_mem _ hm))
    unfold Lib.indexByte
    simp [h1, h2]
theorem idxb_any (s : ByteArray) (c : Int) (w : World) : Calls Try.prog 74 #[.string s, .int .u8 c] w fun e w' => e = .returned (.int .i64 (Lib.indexByte s.data.toList c.toNat.toUInt8)) ∧ w = w' :=
  (Try.strings_IndexByte s c w).mono fun _ _ ⟨a, b⟩ => ⟨a, b.symm⟩
theorem acc_no {n : Int} (h0 : 0 ≤ n) (h1 : n ≤ 255) (h3 : n ≠ 39) (h4 : n ≠ 94) (h5 : n ≠ 95) : Lib.indexByte (⟨#[95, 94, 39]⟩ : ByteArray).data.toList n.toNat.toUInt8 = -1 := by
  obtain ⟨m, rfl⟩ := Int.eq_ofNat_of_zero_le h0
  refine idx_none fun h => ?_
  have e : ∀ k : Nat, k < 256 → m.toUInt8 = k.toUInt8 → m = k := fun k hk e => by
    have := congrArg UInt8.toNat e
    simp at this
    omega
  have h : m.toUInt8 ∈ [(95 : Nat).toUInt8, (94 : Nat).toUInt8, (39 : Nat).toUInt8] := h
  simp only [List.mem_cons, List.not_mem_nil, or_false] at h
  rcases h with h | h | h
  · have := e 95 (by omega) h; omega
  · have := e 94 (by omega) h; omega
  · have := e 39 (by omega) h; omega
set_option maxHeartbeats 1000000 in
theorem ismark_any (n : Int) (w : World) (h0 : 0 ≤ n) (h1 : n ≤ 255) : Calls Try.prog 72 #[.int .u8 n] w fun e w' => e = .returned (.bool (mkI n)) ∧ w = w' := by
  rcases mk_cases h0 h1 with rfl | rfl | rfl | ⟨a, b⟩ | ⟨a, b⟩ | ⟨a, b⟩ | ⟨a, b, c, d⟩ | a
  · have HP := Lib.hid (show mkI 39 = true by decide)
    have HX := Lib.hid (show Lib.indexByte (⟨#[95, 94, 39]⟩ : ByteArray).data.toList (39 : Int).toNat.toUInt8 = 2 by decide)
    go_enter Try.func72, Try.ntmps72
    go_wp2_with fail
    refine (idxb_any _ _ _).mono ?_
    rintro e w' ⟨rfl, rfl⟩
    rw [HX.out]
    go_wp2_with fail
    go_ret
    exact ⟨ret_bool HP.out.symm, rfl⟩
  · have HP := Lib.hid (show mkI 94 = true by decide)
    have HX := Lib.hid (show Lib.indexByte (⟨#[95, 94, 39]⟩ : ByteArray).data.toList (94 : Int).toNat.toUInt8 = 1 by decide)
    go_enter Try.func72, Try.ntmps72
    go_wp2_with fail
    refine (idxb_any _ _ _).mono ?_
    rintro e w' ⟨rfl, rfl⟩
    rw [HX.out]
    go_wp2_with fail
    go_ret
    exact ⟨ret_bool HP.out.symm, rfl⟩
  · have HP := Lib.hid (show mkI 95 = true by decide)
    have HX := Lib.hid (show Lib.indexByte (⟨#[95, 94, 39]⟩ : ByteArray).data.toList (95 : Int).toNat.toUInt8 = 0 by decide)
    go_enter Try.func72, Try.ntmps72
    go_wp2_with fail
    refine (idxb_any _ _ _).mono ?_
    rintro e w' ⟨rfl, rfl⟩
    rw [HX.out]
    go_wp2_with fail
    go_ret
    exact ⟨ret_bool HP.out.symm, rfl⟩
  · have HP := Lib.hid (mk_yes (n := n) (.inl ⟨a, b⟩))
    go_enter Try.func72, Try.ntmps72
    go_wp2
    go_ret
    exact ⟨ret_bool HP.out.symm, rfl⟩
  · have HP := Lib.hid (mk_yes (n := n) (.inr ⟨a, b⟩))
    go_enter Try.func72, Try.ntmps72
    go_wp2
    go_ret
    exact ⟨ret_bool HP.out.symm, rfl⟩
  · have HP := Lib.hid (mk_no (n := n) (by omega) (by omega) (by omega) (by omega) (by omega))
    have HX := Lib.hid (acc_no (n := n) h0 h1 (by omega) (by omega) (by omega))
    clear b
    go_enter Try.func72, Try.ntmps72
    go_wp2_with fail
    refine (idxb_any _ _ _).mono ?_
    rintro e w' ⟨rfl, rfl⟩
    rw [HX.out]
    go_wp2_with fail
    go_ret
    exact ⟨ret_bool HP.out.symm, rfl⟩
  · have HP := Lib.hid (mk_no (n := n) (by omega) (by omega) (by omega) (by omega) (by omega))
    have HX := Lib.hid (acc_no (n := n) h0 h1 (by omega) (by omega) (by omega))
    clear c d
    go_enter Try.func72, Try.ntmps72
    go_wp2_with fail
    refine (idxb_any _ _ _).mono ?_
    rintro e w' ⟨rfl, rfl⟩
    rw [HX.out]
    go_wp2_with fail
    go_ret
    exact ⟨ret_bool (by rw [HP.out]; simp; omega), rfl⟩
  · have HP := Lib.hid (mk_no (n := n) (by omega) (by omega) (by omega) (by omega) (by omega))
    have HX := Lib.hid (acc_no (n := n) h0 h1 (by omega) (by omega) (by omega))
    go_enter Try.func72, Try.ntmps72
    go_wp2_with fail
    refine (idxb_any _ _ _).mono ?_
    rintro e w' ⟨rfl, rfl⟩
    rw [HX.out]
    go_wp2_with fail
    go_ret
    exact ⟨ret_bool (by rw [HP.out]; simp; omega), rfl⟩
set_option maxHeartbeats 1000000 in
theorem only_any (s : ByteArray) (w : World) (hs : s.size ≤ 140737488355328) : Calls Try.prog 69 #[.string s] w fun e w' => e = .returned (.bool (s.data.toList.all isMk)) ∧ w = w' := by
  go_enter Try.func69, Try.ntmps69
  go_wp2
  go_loopw [3] (fun i wr => ∃ k : Nat, k ≤ s.size ∧ i = .int .i64 k ∧ (s.data.toList.take k).all isMk = true ∧ w = wr) (fun i _ => s.size - (intOf i).toNat)
  case atStart => exact ⟨0, Nat.zero_le _, rfl, rfl, rfl⟩
  case round =>
    obtain ⟨k, hk, rfl, hall, rfl⟩ := hrel
    have HA := Lib.hid hall
    clear hall
    by_cases hlt : k < s.size
    · obtain ⟨hb0, hb1⟩ := mk_bd s k hlt
      cases hm : mkI (s[k].toNat : Int) with
      | true =>
        have HM := Lib.hid hm
        have HN := Lib.hid (all_step hlt HA.out hm)
        clear hm
        go_wp2_with fail
        refine (ismark_any _ _ hb0 hb1).mono ?_
        rintro e w' ⟨rfl, rfl⟩
        rw [HM.out]
        go_wp2_with fail
        go_roundw
        case rel => exact ⟨k + 1, by omega, by go_num, HN.out, trivial⟩
        case measure => simp [intOf]; omega
      | false =>
        have HM := Lib.hid hm
        have HN := Lib.hid (all_not hlt hm)
        clear hm
        go_wp2_with fail
        refine (ismark_any _ _ hb0 hb1).mono ?_
        rintro e w' ⟨rfl, rfl⟩
        rw [HM.out]
        go_wp2_with fail
        go_ret
        exact ⟨ret_bool HN.out.symm, rfl⟩
    · have HE := Lib.hid (show s.data.toList.all isMk = true by have := HA.out; rwa [takeAll (by omega)] at this)
      go_wp2
      go_ret
      exact ⟨ret_bool HE.out.symm, rfl⟩
set_option maxHeartbeats 2000000 in
theorem valid_any (x : Snd) (w : World) (hx : x.t.length ≤ 140737488355328) : Calls Try.prog 57 #[.agg #[.int .i64 x.k, .int .i64 x.q, .string (bs x.t)]] w fun e w' => e = .returned (.int .i64 (vS x)) ∧ Below w.heap.size w w' := by
  have hz : (bs x.t).size = x.t.length := rfl
  obtain ⟨m, hm⟩ : ∃ m, x.t.length = m := ⟨_, rfl⟩
  rw [hm] at hz hx
  obtain ⟨c0, c1, c2⟩ := box_cells w x
  by_cases a : x.k < 1
  · have HV := Lib.hid (vS_inv (x := x) (.inl a))
    clear c1 c2 hm
    go_enter Try.func57, Try.ntmps57
    go_wp2
    go_ret
    exact ⟨sym_int HV.out, bnew _ _⟩
  · by_cases b : 9 < x.k
    · have HV := Lib.hid (vS_inv (x := x) (.inr b))
      clear c1 c2 hm
      go_enter Try.func57, Try.ntmps57
      go_wp2
      go_ret
      exact ⟨sym_int HV.out, bnew _ _⟩
    · have hk : ¬ (x.k < 1 ∨ 9 < x.k) := by omega
      cases hq : qOk x.k x.q with
      | false =>
        have HV := Lib.hid (vS_range hk hq)
        have HQ := Lib.hid hq
        clear hk hq hm c1 c2
        go_enter Try.func57, Try.ntmps57
        go_wp2_with fail
        refine (hasq_any x _).mono ?_
        rintro e w1 ⟨rfl, hb1⟩
        rw [HQ.out]
        have HB := Lib.hid (btwo (bnew _ _) hb1)
        clear hb1
        go_wp2_with fail
        go_ret
        exact ⟨sym_int HV.out, HB.out⟩
      | true =>
        have HQ := Lib.hid hq
        by_cases h0 : m = 0
        · have HV := Lib.hid (vS_empty hk hq (by omega))
          obtain ⟨s1, s2⟩ := bs_empty (x := x) (by omega)
          clear hk hq hm
          go_enter Try.func57, Try.ntmps57
          go_wp2_with fail
          refine (hasq_any x _).mono ?_
          rintro e w1 ⟨rfl, hb1⟩
          rw [HQ.out]
          have HB := Lib.hid (btwo (bnew _ _) hb1)
          have d2 := (hb1.cell (p := ⟨w.heap.size, 2, none⟩) (by simp)).trans c2
          have hl : w.heap.size < w1.heap.size := by have := hb1.size; simp at this; omega
          clear hb1
          go_wp2_with fail
          go_ret
          exact ⟨sym_int HV.out, HB.out⟩
        · obtain ⟨s1, s2⟩ := bs_full (x := x) (by omega)
          by_cases h8 : 8 < m
          · have HV := Lib.hid (vS_large hk hq (by omega))
            clear hk hq hm
            go_enter Try.func57, Try.ntmps57
            go_wp2_with fail
            refine (hasq_any x _).mono ?_
            rintro e w1 ⟨rfl, hb1⟩
            rw [HQ.out]
            have HB := Lib.hid (btwo (bnew _ _) hb1)
            have d2 := (hb1.cell (p := ⟨w.heap.size, 2, none⟩) (by simp)).trans c2
            have hl : w.heap.size < w1.heap.size := by have := hb1.size; simp at this; omega
            clear hb1
            go_wp2_with fail
            go_ret
            exact ⟨sym_int HV.out, HB.out⟩
          · cases hmk : (bs x.t).data.toList.all isMk with
            | true =>
              have HV := Lib.hid (vS_ok hk hq (by omega) (by omega) hmk)
              have HM := Lib.hid hmk
              clear hk hq hm hmk
              go_enter Try.func57, Try.ntmps57
              go_wp2_with fail
              refine (hasq_any x _).mono ?_
              rintro e w1 ⟨rfl, hb1⟩
              rw [HQ.out]
              have HB := Lib.hid (btwo (bnew _ _) hb1)
              have d2 := (hb1.cell (p := ⟨w.heap.size, 2, none⟩) (by simp)).trans c2
              have hl : w.heap.size < w1.heap.size := by have := hb1.size; simp at this; omega
              clear hb1
              go_wp2_with fail
              refine (only_any _ _ (by omega)).mono ?_
              rintro e w2 ⟨rfl, rfl⟩
              rw [HM.out]
              go_wp2_with fail
              go_ret
              exact ⟨sym_int HV.out, HB.out⟩
            | false =>
              have HV := Lib.hid (vS_syn hk hq (by omega) (by omega) hmk)
              have HM := Lib.hid hmk
              clear hk hq hm hmk
              go_enter Try.func57, Try.ntmps57
              go_wp2_with fail
              refine (hasq_any x _).mono ?_
              rintro e w1 ⟨rfl, hb1⟩
              rw [HQ.out]
              have HB := Lib.hid (btwo (bnew _ _) hb1)
              have d2 := (hb1.cell (p := ⟨w.heap.size, 2, none⟩) (by simp)).trans c2
              have hl : w.heap.size < w1.heap.size := by have := hb1.size; simp at this; omega
              clear hb1
              go_wp2_with fail
              refine (only_any _ _ (by omega)).mono ?_
              rintro e w2 ⟨rfl, rfl⟩
              rw [HM.out]
              go_wp2_with fail
              go_ret
              exact ⟨sym_int HV.out, HB.out⟩
end Go.Proofs.Ythcdbhancfpldaa
