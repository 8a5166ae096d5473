/- Several texts in one: Zt, Zp, Zu. -/
import Derived.Test.YtpifchlpakajjaaGreatRtaa
import Derived.Test.YtpifchlpakajjaaGreatRtab
import Derived.Test.YtpifchlpakajjaaGreatRtac
import Derived.Test.YtpifchlpakajjaaGreatRtad
import Derived.Test.YtpifchlpakajjaaGreatRtae
import Derived.Test.YtpifchlpakajjaaGreatRtaf
import Derived.Test.YtpifchlpakajjaaGreatRtag
import Derived.Test.YtpifchlpakajjaaGreatRtah
import Derived.Test.YtpifchlpakajjaaGreatRtai
import Derived.Test.YtpifchlpakajjaaGreatRtaj
import Derived.Test.YtpifchlpakajjaaGreatRtak
import Derived.Test.YtpifchlpakajjaaGreatRtal
import Derived.Test.YtpifchlpakajjaaGreatRtam
import Derived.Test.YtpifchlpakajjaaGreatRtan
import Derived.Test.YtpifchlpakajjaaGreatRtao
import Derived.Test.YtpifchlpakajjaaGreatRtap
import Derived.Test.YtpifchlpakajjaaGreatRtaq
import Derived.Test.YtpifchlpakajjaaGreatRtar
import Derived.Test.YtpifchlpakajjaaGreatRtas
import Derived.Test.YtpifchlpakajjaaGreatRtat
import Derived.Test.YtpifchlpakajjaaGreatRtau
import Derived.Test.YtpifchlpakajjaaGreatRtav
import Derived.Test.YtpifchlpakajjaaGreatRtaw
import Derived.Test.YtpifchlpakajjaaGreatRtax
import Derived.Test.YtpifchlpakajjaaGreatRtay
import Derived.Test.YtpifchlpakajjaaGreatRtaz
import Derived.Test.YtpifchlpakajjaaGreatRtba
import Derived.Test.YtpifchlpakajjaaGreatRtbb
import Derived.Test.YtpifchlpakajjaaGreatRtbc
import Derived.Test.YtpifchlpakajjaaGreatRtbd
import Derived.Test.YtpifchlpakajjaaGreatRtbe
import Derived.Test.YtpifchlpakajjaaGreatRtbf
import Derived.Test.YtpifchlpakajjaaGreatRtbg
import Derived.Test.YtpifchlpakajjaaGreatRtbh
import Derived.Test.YtpifchlpakajjaaGreatRtbi
import Derived.Test.YtpifchlpakajjaaGreatRtbj
import Derived.Test.YtpifchlpakajjaaGreatRtbk
import Derived.Test.YtpifchlpakajjaaGreatRtbl
import Derived.Test.YtpifchlpakajjaaGreatRtbm
import Derived.Test.YtpifchlpakajjaaGreatRtbn
import Derived.Test.YtpifchlpakajjaaGreatRtbo
import Derived.Test.YtpifchlpakajjaaGreatRtbp
import Derived.Test.YtpifchlpakajjaaGreatRtbq
import Derived.Test.YtpifchlpakajjaaGreatRtbr
import Derived.Test.YtpifchlpakajjaaGreatRtbs
import Derived.Test.YtpifchlpakajjaaGreatRtbt
import Derived.Test.YtpifchlpakajjaaGreatRtbu
import Derived.Test.YtpifchlpakajjaaGreatRtbv
import Derived.Test.YtpifchlpakajjaaGreatRtbw
import Derived.BigQuiet
import Derived.Deep.AppendLies
import Derived.Deep.DeepAppendRoom
import Derived.Deep.DeepFit
import Derived.Deep.QuietTactic
import Derived.Deep.RegionHeld3
import Derived.Deep.RegionLaw
import Derived.Ground.Names2Prog
import Derived.Laws.EntriesVeiled
import Derived.Laws.IdiomStrings
import Derived.Laws.StructEq
import Derived.Lib.Bytealg
import Derived.Lib.Hide
import Derived.Lib.IndexMore
import Derived.Lib.ItoaNum
import Derived.Lib.Join
import Derived.Lib.SliceRun
import Derived.Lib.Small
import Derived.Lib.Split
import Derived.Lib.Strings
import Derived.Outline
import Derived.Shelf.Slices.Clone
import Derived.Shelf.Slices.Empties2
import Derived.Shelf.Slices.Equal
import Derived.Shelf.Slices.SearchI
import Derived.Shelf.Small.Strs
import Derived.Shelf.Small.Wraps
import Derived.Shelf.Strings.Builder1
import Derived.Shelf.Strings.Builder2
import Derived.Shelf.Strings.BuilderF
import Derived.Shelf.Strings.BuilderK
import Derived.Shelf.Strings.Count
import Derived.Shelf.Strings.Cut
import Derived.Shelf.Strings.OnBuilder
import Derived.Shelf.Strings.Prefix
import Derived.Shelf.Strings.Search1
import Derived.Shelf.Strings.Split
import Derived.Test.YtpifchlpakajjaaGreatRvaa
import Derived.Test.YtpifchlpakajjaaGreatRvab
import Derived.Test.YtpifchlpakajjaaGreatProg
import Derived.Test.YtpifchlpakajjaaGreatRows
import Derived.WalkKit
import Derived.WalkLawsBesides
import Derived.WalkSpells
import Derived.Lib.AppendZeros
namespace Go.Proofs.YtpifchlpakajjaaGreat
open Go.RowKit
set_option linter.unusedVariables false
set_option linter.unusedSimpArgs false
set_option maxRecDepth 100000

structure Rws (w : World) (A : Option Addr) (size : Nat) (vs : List (Option Addr × Nat × Nat)) (X : List (List Value)) : Prop where
  len : vs.length = X.length
  vals : CellsIn w A (vs.map fun v => Value.slice v.1 v.2.1 v.2.2)
  row : ∀ (j : Nat) v x, vs[j]? = some v → X[j]? = some x → x.length = v.2.1 * size ∧ CellsIn w v.1 x ∧ ∀ u ∈ x, u.oneCell' = true
theorem Rws.below {w w' : World} {A : Option Addr} {size : Nat} {vs : List (Option Addr × Nat × Nat)} {X : List (List Value)} (h : Rws w A size vs X) (hb : Below w.heap.size w w') : Rws w' A size vs X :=
  ⟨h.len, h.vals.below hb, fun j v x hv hx => by obtain ⟨a, b, c⟩ := h.row j v x hv hx; exact ⟨a, b.below hb, c⟩⟩
def sumV (vs : List (Option Addr × Nat × Nat)) : Nat := (vs.map fun v => v.2.1).sum
theorem sumV_step {vs : List (Option Addr × Nat × Nat)} {k : Nat} {v : Option Addr × Nat × Nat} (h : vs[k]? = some v) : sumV (vs.take (k + 1)) = sumV (vs.take k) + v.2.1 := by
  unfold sumV; rw [take_snoc h, List.map_append, List.sum_append]; simp
theorem sumV_le (vs : List (Option Addr × Nat × Nat)) (k : Nat) : sumV (vs.take k) ≤ sumV vs := by
  have e : vs = vs.take k ++ vs.drop k := (List.take_append_drop _ _).symm
  have : sumV vs = sumV (vs.take k) + sumV (vs.drop k) := by
    conv => lhs; rw [e]
    unfold sumV; rw [List.map_append, List.sum_append]
  omega
theorem flat_step {X : List (List Value)} {k : Nat} {x : List Value} (h : X[k]? = some x) : (X.take (k + 1)).flatten = (X.take k).flatten ++ x := by
  rw [take_snoc h, List.flatten_append]; simp
theorem vals_at {vs : List (Option Addr × Nat × Nat)} {w : World} {A : Option Addr} (h : CellsIn w A (vs.map fun v => Value.slice v.1 v.2.1 v.2.2)) {k : Nat} {v : Option Addr × Nat × Nat} (hv : vs[k]? = some v) : ∃ b off, A = some ⟨b, off, none⟩ ∧ b < w.heap.size ∧ w.cell? ⟨b, off + k, none⟩ = some (.slice v.1 v.2.1 v.2.2) := by
  have hj := (List.getElem?_eq_some_iff.1 hv).1
  obtain ⟨b, off, e, hlt, hc⟩ := h (by rw [List.length_map]; omega)
  exact ⟨b, off, e, hlt, hc k _ (by rw [List.getElem?_map, hv]; rfl)⟩
set_option maxHeartbeats 4000000 in
theorem grow_sgn (n : Nat) (w : World) (hn : n ≤ 100000) : Calls Tryz.prog 63 #[.slice none 0 0, .int .i64 (n : Int)] w fun e w' => ∃ C d, e = .returned (.slice C 0 d) ∧ Hp w [⟨58, 4, .slice C 0 d, 0, []⟩] w' := by
  obtain ⟨i0, hi, hz0, hz1, hz2⟩ := info_parts sg_info
  by_cases h0 : n = 0
  · subst h0
    go_enter Tryz.func63, Tryz.ntmps63
    go_wp2
    go_ret
    exact ⟨none, 0, rfl, (Hp.start w).nil_row _ rfl rfl rfl⟩
  · have hr := fun ty => Lib.run_append_nil_zeros (P := Tryz.prog) w 22 3 ty 58 i0 (.agg #[.string ⟨#[]⟩, .slice none 0 0, .int .i64 0, .int .i64 0]) .i64 .i64 Tryz.underlying22 Tryz.underlying3 hi hz0 n (by omega) (by rw [hz1]; decide) (by omega) (by rw [hz2]; omega)
    have hge := grownCap_ge w n 0 58
    have hle := grownCap_le_maxLen w n 0 58 (by unfold maxLen; omega)
    obtain ⟨G, hG⟩ : ∃ G, G = grownCap w n 0 58 := ⟨_, rfl⟩
    rw [← hG] at hr hge hle
    have hV := Lib.hid (show Hp w [⟨58, 4, .slice (some ⟨w.heap.size, 0, none⟩) 0 G, 0, []⟩] (w.drew.alloc (.cells (Builtin.zeroCells ((.agg #[.string ⟨#[]⟩, .slice none 0 0, .int .i64 0, .int .i64 0]) : Value).cells n ++ Builtin.zeroCells ((.agg #[.string ⟨#[]⟩, .slice none 0 0, .int .i64 0, .int .i64 0]) : Value).cells (G - n)) 58)) from
      ((Hp.start w).go (bdrew w)).new _ (bnew _ _) (World.ownsRow_made w.drew _ G (Nat.le_refl _) hle (by
        rw [Array.size_append, size_zeroCells, size_zeroCells, show ((.agg #[.string ⟨#[]⟩, .slice none 0 0, .int .i64 0, .int .i64 0]) : Value).cells.size = 4 from rfl, ← Nat.add_mul]
        congr 1; omega)) (fun k hk => by simp [Value.ownBlock] at hk; rw [← hk]; exact Nat.le_refl _))
    have HR := Lib.hid hr
    have hn0 : (0 : Int) < (n : Int) := by omega
    unfold maxLen at hle
    clear hr hG
    go_enter Tryz.func63, Tryz.ntmps63
    go_wp2_with (at_builtin; refine Lib.wpList_append_run _ rfl (.tmp 20) (.tmp 21) 22 3 rfl _ _ rfl rfl _ _ (HR.out _) ?_)
    go_ret
    exact ⟨_, G, rfl, hV.out⟩
set_option maxHeartbeats 8000000 in
theorem concat_sgn (vs : List (Option Addr × Nat × Nat)) (X : List (List Value)) (n c : Nat) (A : Option Addr) (w : World) (hl : vs.length = n) (hn : n ≤ 1000) (hs : sumV vs ≤ 100000) (hA : Rws w A 4 vs X) :
    Calls Tryz.prog 33 #[.slice A n c] w fun e w' => ∃ C d, e = .returned (.slice C (sumV vs) d) ∧ Hp w [⟨58, 4, .slice C (sumV vs) d, sumV vs, X.flatten⟩] w' := by
  have HL := Lib.hid hl
  have HA := Lib.hid hA
  have HXL := Lib.hid (show X.length = n by rw [← hA.len]; exact hl)
  have HSL := Lib.hid (fun k => sumV_le vs k)
  obtain ⟨S, hS⟩ : ∃ S, S = sumV vs := ⟨_, rfl⟩
  have HS := Lib.hid hS
  rw [← hS] at hs
  clear hl hA
  rw [← hS]
  clear hS
  go_enter Tryz.func33, Tryz.ntmps33
  go_wp2
  go_loopw [3, 11] (fun v i wr => ∃ k m : Nat, k ≤ n ∧ m ≤ S ∧ i = .int .i64 k ∧ v = .int .i64 m ∧ sumV (vs.take k) = m ∧ w = wr) (fun _ i _ => n - (intOf i).toNat)
  case atStart => exact ⟨0, 0, Nat.zero_le _, Nat.zero_le _, rfl, rfl, rfl, rfl⟩
  case round =>
    obtain ⟨k, m, hk, hm, rfl, rfl, hsm, rfl⟩ := hrel
    have HSM := Lib.hid hsm
    clear hsm
    by_cases hlt : k < n
    · obtain ⟨v, hv⟩ := idx_lt HL.out hlt
      obtain ⟨b, off, rfl, hb, c0⟩ := vals_at HA.out.vals hv
      obtain ⟨vA, vn, vc⟩ := v
      have hst := sumV_step hv
      have hle := HSL.out (k + 1)
      rw [hst, HSM.out, ← HS.out] at hle
      have HST := Lib.hid (show sumV (vs.take (k + 1)) = m + vn by rw [hst, HSM.out])
      have hvn : m + vn ≤ S := hle
      dsimp only at c0
      clear hv hst hle
      go_wp2
      go_roundw
      case rel => exact ⟨k + 1, m + vn, by omega, by omega, by go_num, by go_num, HST.out, trivial⟩
      case measure => simp [intOf]; omega
    · obtain rfl : m = S := by rw [HS.out, ← HSM.out, take_all (by have := HL.out; omega)]
      go_wp2_with fail
      refine (grow_sgn m _ (by omega)).mono ?_
      rintro e w2 ⟨C, d, rfl, hp2⟩
      have V0 := Lib.hid hp2
      clear hp2
      go_wp2_with fail
      go_loopw [6, 27] (fun v i wr => ∃ (k l d : Nat) (C : Option Addr), k ≤ n ∧ l ≤ m ∧ i = .int .i64 k ∧ v = .slice C l d ∧ sumV (vs.take k) = l ∧ Hp w [⟨58, 4, .slice C l d, l, (X.take k).flatten⟩] wr) (fun _ i _ => n - (intOf i).toNat)
      case atStart => exact ⟨0, 0, d, C, Nat.zero_le _, Nat.zero_le _, rfl, rfl, rfl, V0.out⟩
      case round =>
        clear V0
        obtain ⟨k, l, d, C, hk, hl, rfl, rfl, hsm, hV⟩ := hrel
        have HSM2 := Lib.hid hsm
        have V := Lib.hid hV
        by_cases hlt : k < n
        · obtain ⟨v, hv⟩ := idx_lt HL.out hlt
          obtain ⟨x, hx⟩ := idx_lt HXL.out hlt
          have hA2 := HA.out.below hV.below
          obtain ⟨hxl, hxc, hx1⟩ := hA2.row k v x hv hx
          obtain ⟨b, off, hAe, hb, c0⟩ := vals_at hA2.vals hv
          obtain ⟨vA, vn, vc⟩ := v
          have hst := sumV_step hv
          have hle := HSL.out (k + 1)
          rw [hst, hsm, ← HS.out] at hle
          have HST := Lib.hid (show sumV (vs.take (k + 1)) = l + vn by rw [hst, hsm])
          have hvn : l + vn ≤ m := hle
          dsimp only at c0 hxl hxc
          obtain ⟨A2, c2, w6, hr6, hv6, _⟩ := run_cat56 V.out (i := 0) rfl (t := 22) 22 Tryz.underlying22 sg_info rfl (show 0 < 4 by decide) (show 56 ≤ 60 by decide) (A := C) (c := d) rfl (B := vA) (m := vn) (d := vc) x hxl hxc hx1 (show l ≤ 1000000000000 by omega) (by omega)
          dsimp only at hr6
          have V6 := Lib.hid (show Hp w [⟨58, 4, .slice A2 (l + vn) c2, l + vn, (X.take (k + 1)).flatten⟩] w6 by rw [flat_step hx]; exact hv6)
          have HR6 := Lib.hid hr6
          subst hAe
          clear hv hx hst hle hA2 hxl hxc hx1 hr6 hv6 hV hsm
          go_wp2_with (at_builtin; refine wpList_app_run rfl (.tmp 31) (.tmp 32) 22 rfl HR6.out rfl rfl ?_)
          go_roundw
          case rel => exact ⟨k + 1, l + vn, c2, A2, by omega, by omega, by go_num, rfl, HST.out, V6.out⟩
          case measure => simp [intOf]; omega
        · obtain rfl : l = m := by rw [HS.out, ← HSM2.out, take_all (by have := HL.out; omega)]
          rw [take_all (show X.length = k by have := HXL.out; omega)] at hV
          have V9 := Lib.hid hV
          clear hV hsm V
          go_wp2
          go_ret
          exact ⟨C, d, rfl, V9.out⟩
end Go.Proofs.YtpifchlpakajjaaGreat

namespace Go.Proofs.YtpifchlpakajjaaGreat
open Go.RowKit
set_option linter.unusedVariables false
set_option linter.unusedSimpArgs false
set_option maxRecDepth 100000

theorem srtD_top {L : List Sg} {l : List (List Nat)} (h : l.Nodup) {x : List Nat} {r : List (List Nat)} (e : srtD L l = x :: r) {y : List Nat} (hy : y ∈ l) : cD L x ≤ cD L y := by
  have h1 := srtD_ord (L := L) h
  have h2 := (srtD_mem (L := L) h y).2 hy
  rw [e] at h1 h2
  rcases List.mem_cons.1 h2 with rfl | h3
  · exact Int.le_refl _
  · exact bef_cost (List.rel_of_pairwise_cons h1 h3)
end Go.Proofs.YtpifchlpakajjaaGreat

namespace Go.Proofs.YtpifchlpakajjaaGreat
open Go.RowKit
set_option linter.unusedVariables false
set_option linter.unusedSimpArgs false
set_option maxRecDepth 100000

theorem sgsC_inv : ∀ {us : List (Option Addr × Nat)} {L : List Sg} {i : Nat} {v : Value}, us.length = L.length → (sgsC us L)[i]? = some v → ∃ j u x, us[j]? = some u ∧ L[j]? = some x ∧ ((i = j * 4 ∧ v = .string (bs x.t)) ∨ (i = j * 4 + 1 ∧ v = .slice u.1 x.s.length u.2) ∨ (i = j * 4 + 2 ∧ v = .int .i64 x.c) ∨ (i = j * 4 + 3 ∧ v = .int .i64 x.w))
  | [], [], i, v, _, h => by simp [sgsC] at h
  | [], _ :: _, _, _, h, _ => by cases h
  | _ :: _, [], _, _, h, _ => by cases h
  | u :: us, x :: L, i, v, hl, h => by
    rw [sgsC_cons] at h
    have h4 : (sgC u x).length = 4 := rfl
    by_cases hi : i < 4
    · rw [List.getElem?_append_left (by omega)] at h
      refine ⟨0, u, x, rfl, rfl, ?_⟩
      rcases (show i = 0 ∨ i = 1 ∨ i = 2 ∨ i = 3 by omega) with rfl | rfl | rfl | rfl
      · exact Or.inl ⟨rfl, (Option.some.inj h).symm⟩
      · exact Or.inr (Or.inl ⟨rfl, (Option.some.inj h).symm⟩)
      · exact Or.inr (Or.inr (Or.inl ⟨rfl, (Option.some.inj h).symm⟩))
      · exact Or.inr (Or.inr (Or.inr ⟨rfl, (Option.some.inj h).symm⟩))
    · rw [List.getElem?_append_right (by omega), h4] at h
      obtain ⟨j, u2, x2, h1, h2, h3⟩ := sgsC_inv (us := us) (L := L) (by simpa using hl) h
      refine ⟨j + 1, u2, x2, h1, h2, ?_⟩
      rcases h3 with ⟨a, b⟩ | ⟨a, b⟩ | ⟨a, b⟩ | ⟨a, b⟩
      · exact Or.inl ⟨by omega, b⟩
      · exact Or.inr (Or.inl ⟨by omega, b⟩)
      · exact Or.inr (Or.inr (Or.inl ⟨by omega, b⟩))
      · exact Or.inr (Or.inr (Or.inr ⟨by omega, b⟩))
theorem SgnIn.rows {w : World} {A : Option Addr} {L : List Sg} (h : SgnIn w A L) : ∃ us : List (Option Addr × Nat), us.length = L.length ∧ CellsIn w A (sgsC us L) ∧ ∀ (j : Nat) v x, us[j]? = some v → L[j]? = some x → CellsIn w v.1 (sndsC x.s) := by
  by_cases h0 : L.length = 0
  · obtain rfl := List.eq_nil_of_length_eq_zero h0
    exact ⟨[], rfl, fun h => by simp [sgsC] at h, fun j v x h => by simp at h⟩
  obtain ⟨b, off, e, hlt, hc⟩ := h (by omega)
  have key : ∀ k, k ≤ L.length → ∃ us : List (Option Addr × Nat), us.length = k ∧ ∀ (j : Nat) v x, us[j]? = some v → L[j]? = some x → w.cell? ⟨b, off + j * 4, none⟩ = some (.string (bs x.t)) ∧ w.cell? ⟨b, off + j * 4 + 1, none⟩ = some (.slice v.1 x.s.length v.2) ∧ w.cell? ⟨b, off + j * 4 + 2, none⟩ = some (.int .i64 x.c) ∧ w.cell? ⟨b, off + j * 4 + 3, none⟩ = some (.int .i64 x.w) ∧ CellsIn w v.1 (sndsC x.s) := by
    intro k
    induction k with
    | zero => intro _; exact ⟨[], rfl, fun j v x h => by simp at h⟩
    | succ k ih =>
      intro hk
      obtain ⟨us, hu, hr⟩ := ih (by omega)
      obtain ⟨Aj, cj, h1, h2, h3, h4, h5⟩ := hc k _ (List.getElem?_eq_getElem (show k < L.length by omega))
      refine ⟨us ++ [(Aj, cj)], by simp [hu], fun j v x hv hx => ?_⟩
      by_cases hj : j < us.length
      · rw [List.getElem?_append_left hj] at hv
        exact hr j v x hv hx
      · have hj2 := (List.getElem?_eq_some_iff.1 hv).1
        rw [List.length_append, List.length_singleton] at hj2
        have hjk : j = k := by omega
        subst hjk
        rw [List.getElem?_append_right (by omega), show j - us.length = 0 by omega] at hv
        obtain rfl := Option.some.inj hv
        rw [List.getElem?_eq_getElem (show j < L.length by omega)] at hx
        obtain rfl := Option.some.inj hx
        exact ⟨h1, h2, h3, h4, h5⟩
  obtain ⟨us, hu, hr⟩ := key L.length (Nat.le_refl _)
  refine ⟨us, hu, fun _ => ⟨b, off, e, hlt, fun i v hv => ?_⟩, fun j v x hv hx => (hr j v x hv hx).2.2.2.2⟩
  obtain ⟨j, u, x, h1, h2, h3⟩ := sgsC_inv hu hv
  obtain ⟨a1, a2, a3, a4, _⟩ := hr j u x h1 h2
  rcases h3 with ⟨rfl, rfl⟩ | ⟨rfl, rfl⟩ | ⟨rfl, rfl⟩ | ⟨rfl, rfl⟩
  · exact a1
  · rw [← Nat.add_assoc]; exact a2
  · rw [← Nat.add_assoc]; exact a3
  · rw [← Nat.add_assoc]; exact a4
theorem sgAt_app {L M : List Sg} {i : Nat} (h : i < L.length) : sgAt (L ++ M) i = sgAt L i := by
  unfold sgAt
  rw [List.getD_eq_getElem?_getD, List.getD_eq_getElem?_getD, List.getElem?_append_left h]
theorem tD_app {L M : List Sg} : ∀ {d : List Nat}, (∀ i ∈ d, i < L.length) → tD (L ++ M) d = tD L d
  | [], _ => rfl
  | i :: r, h => by rw [tD_cons, tD_cons, sgAt_app (h i List.mem_cons_self), tD_app (fun j hj => h j (List.mem_cons_of_mem _ hj))]
theorem cD_app {L M : List Sg} : ∀ {d : List Nat}, (∀ i ∈ d, i < L.length) → cD (L ++ M) d = cD L d
  | [], _ => rfl
  | i :: r, h => by rw [cD_cons, cD_cons, sgAt_app (h i List.mem_cons_self), cD_app (fun j hj => h j (List.mem_cons_of_mem _ hj))]
theorem okD_app {L M : List Sg} : ∀ {B : List Snd} {d : List Nat}, (∀ i ∈ d, i < L.length) → okD (L ++ M) B d = okD L B d
  | _, [], _ => rfl
  | B, [i], h => by show whB (sgAt (L ++ M) i).w B [] = whB (sgAt L i).w B []; rw [sgAt_app (h i List.mem_cons_self)]
  | B, i :: j :: r, h => by
    show (whB (sgAt (L ++ M) i).w B (sgAt (L ++ M) j).s && okD (L ++ M) (sgAt (L ++ M) i).s (j :: r)) = (whB (sgAt L i).w B (sgAt L j).s && okD L (sgAt L i).s (j :: r))
    rw [okD_app (fun k hk => h k (List.mem_cons_of_mem _ hk)), sgAt_app (h i List.mem_cons_self), sgAt_app (h j (List.mem_cons_of_mem _ List.mem_cons_self))]
theorem dvs_app {nm : List UInt8} {L M : List Sg} {t : List UInt8} (h : (vO nm L).2 = 0) (h2 : (vO nm (L ++ M)).2 = 0) (h0 : 0 < t.length) {d : List Nat} (hd : d ∈ dvs L t) : d ∈ dvs (L ++ M) t ∧ cD (L ++ M) d = cD L d := by
  obtain ⟨a, b, c⟩ := (dvs_mem (TxNe.ok h) h0 d).1 hd
  exact ⟨(dvs_mem (TxNe.ok h2) h0 d).2 ⟨fun i hi => by rw [List.length_append]; have := a i hi; omega, by rw [tD_app a]; exact b, by rw [okD_app a]; exact c⟩, cD_app a⟩
theorem bg_app {nm : List UInt8} {L M : List Sg} {t : List UInt8} (h2 : (vO nm (L ++ M)).2 = 0) (h : bgE nm L t = 0) : bgE nm (L ++ M) t = 0 ∨ bgE nm (L ++ M) t = 3 := by
  have hz := bgE_zero h
  have hg : gvE nm L t = 0 := by
    have h1 := h
    unfold bgE at h1
    split at h1
    · rename_i h2; exact absurd h1 h2
    · rename_i h2; exact Classical.not_not.1 h2
  have hg2 : gvE nm (L ++ M) t = 0 := by unfold gvE; rw [if_pos h2]; exact (gvE_zero hg).2
  obtain ⟨d, hd⟩ := List.exists_mem_of_length_pos hz.2.2.2.1
  have hm := (dvs_app (M := M) hz.1 h2 hz.2.1 hd).1
  unfold bgE
  rw [if_neg (by rw [hg2]; simp), if_neg (by intro e; rw [List.eq_nil_of_length_eq_zero e] at hm; cases hm)]
  split
  · exact Or.inr rfl
  · exact Or.inl rfl
theorem bs_app {nm : List UInt8} {L M : List Sg} {t : List UInt8} (h2 : (vO nm (L ++ M)).2 = 0) (h : bgE nm L t = 0) {x y : List Nat} {r s : List (List Nat)} (hx : srtD L (dvs L t) = x :: r) (hy : srtD (L ++ M) (dvs (L ++ M) t) = y :: s) : cD (L ++ M) y ≤ cD L x := by
  have hz := bgE_zero h
  have hd : x ∈ dvs L t := (srtD_mem (dvs_nodup (TxNe.ok hz.1) t) x).1 (by rw [hx]; exact List.mem_cons_self)
  obtain ⟨h3, h4⟩ := dvs_app (M := M) hz.1 h2 hz.2.1 hd
  rw [← h4]
  exact srtD_top (dvs_nodup (TxNe.ok h2) t) hy h3
end Go.Proofs.YtpifchlpakajjaaGreat
