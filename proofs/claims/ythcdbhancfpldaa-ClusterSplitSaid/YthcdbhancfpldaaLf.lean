/- Contracts: slices.Concat of numbers; moved. -/
import Derived.Test.YthcdbhancfpldaaLe
import Derived.Test.YthcdbhancfpldaaVa
namespace Go.Proofs.Ythcdbhancfpldaa
open Go.RowKit
set_option linter.unusedVariables false
set_option linter.unusedSimpArgs false
set_option maxRecDepth 100000

set_option maxHeartbeats 4000000 in
theorem grow_int (n : Nat) (w : World) (hn : n ≤ 100000) : Calls Try.prog 62 #[.slice none 0 0, .int .i64 (n : Int)] w fun e w' => ∃ C d, e = .returned (.slice C 0 d) ∧ Hp w [⟨3, 1, .slice C 0 d, 0, []⟩] w' := by
  obtain ⟨i0, hi, hz0, hz1, hz2⟩ := info_parts int_info
  by_cases h0 : n = 0
  · subst h0
    go_enter Try.func62, Try.ntmps62
    go_wp2
    go_ret
    exact ⟨none, 0, rfl, (Hp.start w).nil_row _ rfl rfl rfl⟩
  · have hr := fun ty => Lib.run_append_nil_zeros (P := Try.prog) w 23 3 ty 3 i0 (.int .i64 0) .i64 .i64 Try.underlying23 Try.underlying3 hi hz0 n (by omega) (by rw [hz1]; decide) (by omega) (by rw [hz2]; omega)
    have hge := grownCap_ge w n 0 3
    have hle := grownCap_le_maxLen w n 0 3 (by unfold maxLen; omega)
    obtain ⟨G, hG⟩ : ∃ G, G = grownCap w n 0 3 := ⟨_, rfl⟩
    rw [← hG] at hr hge hle
    have hV := Lib.hid (show Hp w [⟨3, 1, .slice (some ⟨w.heap.size, 0, none⟩) 0 G, 0, []⟩] (w.drew.alloc (.cells (Builtin.zeroCells ((.int .i64 0) : Value).cells n ++ Builtin.zeroCells ((.int .i64 0) : Value).cells (G - n)) 3)) from
      ((Hp.start w).go (bdrew w)).new _ (bnew _ _) (World.ownsRow_made w.drew _ G (Nat.le_refl _) hle (by
        rw [Array.size_append, size_zeroCells, size_zeroCells, show ((.int .i64 0) : Value).cells.size = 1 from rfl, ← Nat.add_mul]
        congr 1; omega)) (fun k hk => by simp [Value.ownBlock] at hk; rw [← hk]; exact Nat.le_refl _))
    have HR := Lib.hid hr
    have hn0 : (0 : Int) < (n : Int) := by omega
    unfold maxLen at hle
    clear hr hG
    go_enter Try.func62, Try.ntmps62
    go_wp2_with (at_builtin; refine Lib.wpList_append_run _ rfl (.tmp 20) (.tmp 21) 23 3 rfl _ _ rfl rfl _ _ (HR.out _) ?_)
    go_ret
    exact ⟨_, G, rfl, hV.out⟩
set_option maxHeartbeats 8000000 in
theorem concat_int (vs : List (Option Addr × Nat × Nat)) (X : List (List Value)) (n c : Nat) (A : Option Addr) (w : World) (hl : vs.length = n) (hn : n ≤ 1000) (hs : sumV vs ≤ 100000) (hA : Rws w A 1 vs X) :
    Calls Try.prog 48 #[.slice A n c] w fun e w' => ∃ C d, e = .returned (.slice C (sumV vs) d) ∧ Hp w [⟨3, 1, .slice C (sumV vs) d, sumV vs, X.flatten⟩] w' := by
  have HL := Lib.hid hl
  have HA := Lib.hid hA
  have HXL := Lib.hid (show X.length = n by rw [← hA.len]; exact hl)
  have HSL := Lib.hid (fun k => sumV_le vs k)
  obtain ⟨S, hS⟩ : ∃ S, S = sumV vs := ⟨_, rfl⟩
  have HS := Lib.hid hS
  rw [← hS] at hs
  clear hl hA
  rw [← hS]
  clear hS
  go_enter Try.func48, Try.ntmps48
  go_wp2
  go_loopw [3, 11] (fun v i wr => ∃ k m : Nat, k ≤ n ∧ m ≤ S ∧ i = .int .i64 k ∧ v = .int .i64 m ∧ sumV (vs.take k) = m ∧ w = wr) (fun _ i _ => n - (intOf i).toNat)
  case atStart => exact ⟨0, 0, Nat.zero_le _, Nat.zero_le _, rfl, rfl, rfl, rfl⟩
  case round =>
    obtain ⟨k, m, hk, hm, rfl, rfl, hsm, rfl⟩ := hrel
    have HSM := Lib.hid hsm
    clear hsm
    by_cases hlt : k < n
    · obtain ⟨v, hv⟩ := idx_lt HL.out hlt
      obtain ⟨b, off, rfl, hb, c0⟩ := vals_at HA.out.vals hv
      obtain ⟨vA, vn, vc⟩ := v
      have hst := sumV_step hv
      have hle := HSL.out (k + 1)
      rw [hst, HSM.out, ← HS.out] at hle
      have HST := Lib.hid (show sumV (vs.take (k + 1)) = m + vn by rw [hst, HSM.out])
      have hvn : m + vn ≤ S := hle
      dsimp only at c0
      clear hv hst hle
      go_wp2
      go_roundw
      case rel => exact ⟨k + 1, m + vn, by omega, by omega, by go_num, by go_num, HST.out, trivial⟩
      case measure => simp [intOf]; omega
    · obtain rfl : m = S := by rw [HS.out, ← HSM.out, take_all (by have := HL.out; omega)]
      go_wp2_with fail
      refine (grow_int m _ (by omega)).mono ?_
      rintro e w2 ⟨C, d, rfl, hp2⟩
      have V0 := Lib.hid hp2
      clear hp2
      go_wp2_with fail
      go_loopw [6, 27] (fun v i wr => ∃ (k l d : Nat) (C : Option Addr), k ≤ n ∧ l ≤ m ∧ i = .int .i64 k ∧ v = .slice C l d ∧ sumV (vs.take k) = l ∧ Hp w [⟨3, 1, .slice C l d, l, (X.take k).flatten⟩] wr) (fun _ i _ => n - (intOf i).toNat)
      case atStart => exact ⟨0, 0, d, C, Nat.zero_le _, Nat.zero_le _, rfl, rfl, rfl, V0.out⟩
      case round =>
        clear V0
        obtain ⟨k, l, d, C, hk, hl, rfl, rfl, hsm, hV⟩ := hrel
        have HSM2 := Lib.hid hsm
        have V := Lib.hid hV
        by_cases hlt : k < n
        · obtain ⟨v, hv⟩ := idx_lt HL.out hlt
          obtain ⟨x, hx⟩ := idx_lt HXL.out hlt
          have hA2 := HA.out.below hV.below
          obtain ⟨hxl, hxc, hx1⟩ := hA2.row k v x hv hx
          obtain ⟨b, off, hAe, hb, c0⟩ := vals_at hA2.vals hv
          obtain ⟨vA, vn, vc⟩ := v
          have hst := sumV_step hv
          have hle := HSL.out (k + 1)
          rw [hst, hsm, ← HS.out] at hle
          have HST := Lib.hid (show sumV (vs.take (k + 1)) = l + vn by rw [hst, hsm])
          have hvn : l + vn ≤ m := hle
          dsimp only at c0 hxl hxc
          obtain ⟨A2, c2, w6, hr6, hv6, _⟩ := run_cat V.out (i := 0) rfl (t := 23) 23 Try.underlying23 int_info rfl (show 0 < 1 by decide) (show 8 ≤ 32 by decide) (A := C) (c := d) rfl (B := vA) (m := vn) (d := vc) x hxl hxc hx1 (show l ≤ 2000000000000 by omega) (by omega)
          dsimp only at hr6
          have V6 := Lib.hid (show Hp w [⟨3, 1, .slice A2 (l + vn) c2, l + vn, (X.take (k + 1)).flatten⟩] w6 by rw [flat_step hx]; exact hv6)
          have HR6 := Lib.hid hr6
          subst hAe
          clear hv hx hst hle hA2 hxl hxc hx1 hr6 hv6 hV hsm
          go_wp2_with (at_builtin; refine wpList_app_run rfl (.tmp 31) (.tmp 32) 23 rfl HR6.out rfl rfl ?_)
          go_roundw
          case rel => exact ⟨k + 1, l + vn, c2, A2, by omega, by omega, by go_num, rfl, HST.out, V6.out⟩
          case measure => simp [intOf]; omega
        · obtain rfl : l = m := by rw [HS.out, ← HSM2.out, take_all (by have := HL.out; omega)]
          rw [take_all (show X.length = k by have := HXL.out; omega)] at hV
          have V9 := Lib.hid hV
          clear hV hsm V
          go_wp2
          go_ret
          exact ⟨C, d, rfl, V9.out⟩
theorem upB_snoc (n : Int) (M : List Int) (a : Int) : upB n (M ++ [a]) = upB n M ++ [a + n] := by unfold upB; rw [List.map_append]; rfl
def MvPost (D : Int) (M : List Int) (w : World) (e : Ending) (w' : World) : Prop := ∃ Q d, e = .returned (.slice Q M.length d) ∧ Hp w [nums Q M.length d (upB D M)] w'
set_option maxHeartbeats 4000000 in
theorem moved_any (M : List Int) (m d : Nat) (B : Option Addr) (D : Int) (w : World) (hl : M.length = m) (hm : m ≤ 1000000) (hD : -1000000000 ≤ D ∧ D ≤ 1000000000) (hb : ∀ a ∈ M, -1000000000 ≤ a ∧ a ≤ 1000000000) (hB : CellsIn w B (ints M)) :
    Calls Try.prog 49 #[.slice B m d, .int .i64 D] w (MvPost D M w) := by
  have HL := Lib.hid hl
  have HB := Lib.hid hB
  have HBD := Lib.hid hb
  obtain ⟨hD0, hD1⟩ := hD
  clear hl hB hb
  go_enter Try.func49, Try.ntmps49
  go_wp2
  go_loopw [5, 10] (fun v i wr => ∃ (k f : Nat) (Q : Option Addr), k ≤ m ∧ i = .int .i64 k ∧ v = .slice Q k f ∧ Hp w [nums Q k f (upB D (M.take k))] wr) (fun _ i _ => m - (intOf i).toNat)
  case atStart => exact ⟨0, 0, none, Nat.zero_le _, rfl, rfl, (Hp.start w).nil_row _ rfl rfl rfl⟩
  case round =>
    obtain ⟨k, f, Q, hk, rfl, rfl, V0⟩ := hrel
    have V := Lib.hid V0
    clear V0
    by_cases hlt : k < m
    · obtain ⟨b, off, rfl, hb, c0⟩ := (HB.out.below V.out.below).int (j := k) (by have := HL.out; omega)
      obtain ⟨a, ha⟩ : ∃ a, M.getD k 0 = a := ⟨_, rfl⟩
      have HX := Lib.hid (show M[k]? = some a by rw [← ha, getD_at (by have := HL.out; omega)]; exact List.getElem?_eq_getElem (by have := HL.out; omega))
      rw [ha] at c0
      clear ha
      obtain ⟨ha0, ha1⟩ := HBD.out a (List.mem_of_getElem? HX.out)
      have HS := Lib.hid (show upB D (M.take (k + 1)) = upB D (M.take k) ++ [a + D] by rw [take_snoc HX.out, upB_snoc])
      obtain ⟨z, hz⟩ : ∃ z, a + D = z := ⟨_, rfl⟩
      have hw : IntKind.i64.wrap (a + D) = z := by rw [IntWalk.i64_in _ (by omega)]; exact hz
      rw [hz] at HS
      obtain ⟨wy, hwy⟩ : ∃ y, y = wr.alloc (.cells #[.int .i64 z] 3) := ⟨_, rfl⟩
      have V3 := Lib.hid (show Hp w [box 3 wr.heap.size [.int .i64 z], nums Q k f (upB D (M.take k))] wy by rw [hwy]; exact V.out.box_new _ _)
      have y0 := (V3.out.box_at (i := 0) (j := 0) rfl rfl).1
      obtain ⟨g5, cap5, w5, hr5, hv5, _⟩ := run_app_num V3.out (i := 1) rfl 23 z y0 (by omega)
      have V4 := Lib.hid (show Hp w [nums (some ⟨g5, 0, none⟩) (k + 1) cap5 (upB D (M.take k) ++ [z])] w5 from hv5.tail)
      rw [← HS.out] at V4
      have HY := Lib.hid hwy
      have HR5 := Lib.hid hr5
      clear hwy y0 hv5 hr5 hz
      go_wp2_with (at_builtin; rw [← HY.out]; refine wpList_app_run rfl (.tmp 14) (.tmp 18) 23 rfl HR5.out rfl rfl ?_)
      go_roundw
      case rel => exact ⟨k + 1, cap5, _, by omega, by go_num, rfl, V4.out⟩
      case measure => simp [intOf]; omega
    · have HE := Lib.hid (show M.take k = M from take_all (by have := HL.out; omega))
      obtain rfl : k = m := by omega
      go_wp2
      go_ret
      rw [HE.out] at V
      have hl := HL.out
      subst hl
      exact ⟨Q, f, rfl, V.out⟩
end Go.Proofs.Ythcdbhancfpldaa
