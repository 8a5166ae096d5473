/- Contracts: slices.Grow and slices.Concat of sounds and of lists of sounds. -/
import Derived.Test.YthcdbhancfpldaaUl
import Derived.Lib.AppendZeros
namespace Go.Proofs.Ythcdbhancfpldaa
open Go.RowKit
set_option linter.unusedVariables false
set_option linter.unusedSimpArgs false
set_option maxRecDepth 100000

theorem own_cells {W w : World} {l : List Itm} {i : Nat} {it : Itm} (h : Hp W l w) (hi : l[i]? = some it) {A : Option Addr} {c : Nat} (hv : it.v = .slice A it.n c) : CellsIn w A it.xs := h.cells hi hv
/-- What lies in several slices: their values, and the cells of each one. -/
structure Rws (w : World) (A : Option Addr) (size : Nat) (vs : List (Option Addr × Nat × Nat)) (X : List (List Value)) : Prop where
  len : vs.length = X.length
  vals : CellsIn w A (vs.map fun v => Value.slice v.1 v.2.1 v.2.2)
  row : ∀ (j : Nat) v x, vs[j]? = some v → X[j]? = some x → x.length = v.2.1 * size ∧ CellsIn w v.1 x ∧ ∀ u ∈ x, u.oneCell' = true
theorem Rws.below {w w' : World} {A : Option Addr} {size : Nat} {vs : List (Option Addr × Nat × Nat)} {X : List (List Value)} (h : Rws w A size vs X) (hb : Below w.heap.size w w') : Rws w' A size vs X :=
  ⟨h.len, h.vals.below hb, fun j v x hv hx => by obtain ⟨a, b, c⟩ := h.row j v x hv hx; exact ⟨a, b.below hb, c⟩⟩
def sumV (vs : List (Option Addr × Nat × Nat)) : Nat := (vs.map fun v => v.2.1).sum
theorem sumV_step {vs : List (Option Addr × Nat × Nat)} {k : Nat} {v : Option Addr × Nat × Nat} (h : vs[k]? = some v) : sumV (vs.take (k + 1)) = sumV (vs.take k) + v.2.1 := by
  unfold sumV; rw [take_snoc h, List.map_append, List.sum_append]; simp
theorem sumV_le (vs : List (Option Addr × Nat × Nat)) (k : Nat) : sumV (vs.take k) ≤ sumV vs := by
  have e : vs = vs.take k ++ vs.drop k := (List.take_append_drop _ _).symm
  have : sumV vs = sumV (vs.take k) + sumV (vs.drop k) := by
    conv => lhs; rw [e]
    unfold sumV; rw [List.map_append, List.sum_append]
  omega
theorem flat_step {X : List (List Value)} {k : Nat} {x : List Value} (h : X[k]? = some x) : (X.take (k + 1)).flatten = (X.take k).flatten ++ x := by
  rw [take_snoc h, List.flatten_append]; simp
theorem vals_at {vs : List (Option Addr × Nat × Nat)} {w : World} {A : Option Addr} (h : CellsIn w A (vs.map fun v => Value.slice v.1 v.2.1 v.2.2)) {k : Nat} {v : Option Addr × Nat × Nat} (hv : vs[k]? = some v) : ∃ b off, A = some ⟨b, off, none⟩ ∧ b < w.heap.size ∧ w.cell? ⟨b, off + k, none⟩ = some (.slice v.1 v.2.1 v.2.2) := by
  have hj := (List.getElem?_eq_some_iff.1 hv).1
  obtain ⟨b, off, e, hlt, hc⟩ := h (by rw [List.length_map]; omega)
  exact ⟨b, off, e, hlt, hc k _ (by rw [List.getElem?_map, hv]; rfl)⟩
set_option maxHeartbeats 4000000 in
theorem grow_snd (n : Nat) (w : World) (hn : n ≤ 100000) : Calls Try.prog 61 #[.slice none 0 0, .int .i64 (n : Int)] w fun e w' => ∃ C d, e = .returned (.slice C 0 d) ∧ Hp w [⟨51, 3, .slice C 0 d, 0, []⟩] w' := by
  obtain ⟨i0, hi, hz0, hz1, hz2⟩ := info_parts snd_info
  by_cases h0 : n = 0
  · subst h0
    go_enter Try.func61, Try.ntmps61
    go_wp2
    go_ret
    exact ⟨none, 0, rfl, (Hp.start w).nil_row _ rfl rfl rfl⟩
  · have hr := fun ty => Lib.run_append_nil_zeros (P := Try.prog) w 22 3 ty 51 i0 (.agg #[.int .i64 0, .int .i64 0, .string ⟨#[]⟩]) .i64 .i64 Try.underlying22 Try.underlying3 hi hz0 n (by omega) (by rw [hz1]; decide) (by omega) (by rw [hz2]; omega)
    have hge := grownCap_ge w n 0 51
    have hle := grownCap_le_maxLen w n 0 51 (by unfold maxLen; omega)
    obtain ⟨G, hG⟩ : ∃ G, G = grownCap w n 0 51 := ⟨_, rfl⟩
    rw [← hG] at hr hge hle
    have hV := Lib.hid (show Hp w [⟨51, 3, .slice (some ⟨w.heap.size, 0, none⟩) 0 G, 0, []⟩] (w.drew.alloc (.cells (Builtin.zeroCells ((.agg #[.int .i64 0, .int .i64 0, .string ⟨#[]⟩]) : Value).cells n ++ Builtin.zeroCells ((.agg #[.int .i64 0, .int .i64 0, .string ⟨#[]⟩]) : Value).cells (G - n)) 51)) from
      ((Hp.start w).go (bdrew w)).new _ (bnew _ _) (World.ownsRow_made w.drew _ G (Nat.le_refl _) hle (by
        rw [Array.size_append, size_zeroCells, size_zeroCells, show ((.agg #[.int .i64 0, .int .i64 0, .string ⟨#[]⟩]) : Value).cells.size = 3 from rfl, ← Nat.add_mul]
        congr 1; omega)) (fun k hk => by simp [Value.ownBlock] at hk; rw [← hk]; exact Nat.le_refl _))
    have HR := Lib.hid hr
    have hn0 : (0 : Int) < (n : Int) := by omega
    unfold maxLen at hle
    clear hr hG
    go_enter Try.func61, Try.ntmps61
    go_wp2_with (at_builtin; refine Lib.wpList_append_run _ rfl (.tmp 20) (.tmp 21) 22 3 rfl _ _ rfl rfl _ _ (HR.out _) ?_)
    go_ret
    exact ⟨_, G, rfl, hV.out⟩
set_option maxHeartbeats 8000000 in
theorem concat_snd (vs : List (Option Addr × Nat × Nat)) (X : List (List Value)) (n c : Nat) (A : Option Addr) (w : World) (hl : vs.length = n) (hn : n ≤ 1000) (hs : sumV vs ≤ 100000) (hA : Rws w A 3 vs X) :
    Calls Try.prog 47 #[.slice A n c] w fun e w' => ∃ C d, e = .returned (.slice C (sumV vs) d) ∧ Hp w [⟨51, 3, .slice C (sumV vs) d, sumV vs, X.flatten⟩] w' := by
  have HL := Lib.hid hl
  have HA := Lib.hid hA
  have HXL := Lib.hid (show X.length = n by rw [← hA.len]; exact hl)
  have HSL := Lib.hid (fun k => sumV_le vs k)
  obtain ⟨S, hS⟩ : ∃ S, S = sumV vs := ⟨_, rfl⟩
  have HS := Lib.hid hS
  rw [← hS] at hs
  clear hl hA
  rw [← hS]
  clear hS
  go_enter Try.func47, Try.ntmps47
  go_wp2
  go_loopw [3, 11] (fun v i wr => ∃ k m : Nat, k ≤ n ∧ m ≤ S ∧ i = .int .i64 k ∧ v = .int .i64 m ∧ sumV (vs.take k) = m ∧ w = wr) (fun _ i _ => n - (intOf i).toNat)
  case atStart => exact ⟨0, 0, Nat.zero_le _, Nat.zero_le _, rfl, rfl, rfl, rfl⟩
  case round =>
    obtain ⟨k, m, hk, hm, rfl, rfl, hsm, rfl⟩ := hrel
    have HSM := Lib.hid hsm
    clear hsm
    by_cases hlt : k < n
    · obtain ⟨v, hv⟩ := idx_lt HL.out hlt
      obtain ⟨b, off, rfl, hb, c0⟩ := vals_at HA.out.vals hv
      obtain ⟨vA, vn, vc⟩ := v
      have hst := sumV_step hv
      have hle := HSL.out (k + 1)
      rw [hst, HSM.out, ← HS.out] at hle
      have HST := Lib.hid (show sumV (vs.take (k + 1)) = m + vn by rw [hst, HSM.out])
      have hvn : m + vn ≤ S := hle
      dsimp only at c0
      clear hv hst hle
      go_wp2
      go_roundw
      case rel => exact ⟨k + 1, m + vn, by omega, by omega, by go_num, by go_num, HST.out, trivial⟩
      case measure => simp [intOf]; omega
    · obtain rfl : m = S := by rw [HS.out, ← HSM.out, take_all (by have := HL.out; omega)]
      go_wp2_with fail
      refine (grow_snd m _ (by omega)).mono ?_
      rintro e w2 ⟨C, d, rfl, hp2⟩
      have V0 := Lib.hid hp2
      clear hp2
      go_wp2_with fail
      go_loopw [6, 27] (fun v i wr => ∃ (k l d : Nat) (C : Option Addr), k ≤ n ∧ l ≤ m ∧ i = .int .i64 k ∧ v = .slice C l d ∧ sumV (vs.take k) = l ∧ Hp w [⟨51, 3, .slice C l d, l, (X.take k).flatten⟩] wr) (fun _ i _ => n - (intOf i).toNat)
      case atStart => exact ⟨0, 0, d, C, Nat.zero_le _, Nat.zero_le _, rfl, rfl, rfl, V0.out⟩
      case round =>
        clear V0
        obtain ⟨k, l, d, C, hk, hl, rfl, rfl, hsm, hV⟩ := hrel
        have HSM2 := Lib.hid hsm
        have V := Lib.hid hV
        by_cases hlt : k < n
        · obtain ⟨v, hv⟩ := idx_lt HL.out hlt
          obtain ⟨x, hx⟩ := idx_lt HXL.out hlt
          have hA2 := HA.out.below hV.below
          obtain ⟨hxl, hxc, hx1⟩ := hA2.row k v x hv hx
          obtain ⟨b, off, hAe, hb, c0⟩ := vals_at hA2.vals hv
          obtain ⟨vA, vn, vc⟩ := v
          have hst := sumV_step hv
          have hle := HSL.out (k + 1)
          rw [hst, hsm, ← HS.out] at hle
          have HST := Lib.hid (show sumV (vs.take (k + 1)) = l + vn by rw [hst, hsm])
          have hvn : l + vn ≤ m := hle
          dsimp only at c0 hxl hxc
          obtain ⟨A2, c2, w6, hr6, hv6, _⟩ := run_cat V.out (i := 0) rfl (t := 22) 22 Try.underlying22 snd_info rfl (show 0 < 3 by decide) (show 32 ≤ 32 by decide) (A := C) (c := d) rfl (B := vA) (m := vn) (d := vc) x hxl hxc hx1 (show l ≤ 2000000000000 by omega) (by omega)
          dsimp only at hr6
          have V6 := Lib.hid (show Hp w [⟨51, 3, .slice A2 (l + vn) c2, l + vn, (X.take (k + 1)).flatten⟩] w6 by rw [flat_step hx]; exact hv6)
          have HR6 := Lib.hid hr6
          subst hAe
          clear hv hx hst hle hA2 hxl hxc hx1 hr6 hv6 hV hsm
          go_wp2_with (at_builtin; refine wpList_app_run rfl (.tmp 31) (.tmp 32) 22 rfl HR6.out rfl rfl ?_)
          go_roundw
          case rel => exact ⟨k + 1, l + vn, c2, A2, by omega, by omega, by go_num, rfl, HST.out, V6.out⟩
          case measure => simp [intOf]; omega
        · obtain rfl : l = m := by rw [HS.out, ← HSM2.out, take_all (by have := HL.out; omega)]
          rw [take_all (show X.length = k by have := HXL.out; omega)] at hV
          have V9 := Lib.hid hV
          clear hV hsm V
          go_wp2
          go_ret
          exact ⟨C, d, rfl, V9.out⟩
end Go.Proofs.Ythcdbhancfpldaa
