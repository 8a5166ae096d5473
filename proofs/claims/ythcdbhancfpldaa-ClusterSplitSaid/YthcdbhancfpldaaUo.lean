/- Contracts: Same and SameLists of the reference, copies of lists of sounds. -/
import Derived.Test.YthcdbhancfpldaaUn
import Derived.Lib.SliceRun
namespace Go.Proofs.Ythcdbhancfpldaa
open Go.RowKit
set_option linter.unusedVariables false
set_option linter.unusedSimpArgs false
set_option maxRecDepth 100000

open Classical in
/-- Whether two things are equal. -/
noncomputable def eqB {α : Type} (a b : α) : Bool := decide (a = b)
open Classical in
theorem eqB_yes {α : Type} {a b : α} (h : a = b) : eqB a b = true := by unfold eqB; exact decide_eq_true h
open Classical in
theorem eqB_no {α : Type} {a b : α} (h : a ≠ b) : eqB a b = false := by unfold eqB; exact decide_eq_false h
open Classical in
theorem eqB_is {α : Type} {a b : α} : eqB a b = true ↔ a = b := by unfold eqB; exact decide_eq_true_iff
theorem take_eq {α : Type} {L M : List α} {k : Nat} {x : α} (h : L.take k = M.take k) (hx : L[k]? = some x) (hy : M[k]? = some x) : L.take (k + 1) = M.take (k + 1) := by rw [take_snoc hx, take_snoc hy, h]
theorem take_ne {α : Type} {L M : List α} {k : Nat} {x y : α} (hx : L[k]? = some x) (hy : M[k]? = some y) (h : x ≠ y) : L ≠ M := by
  intro e; subst e; rw [hx] at hy; exact h (Option.some.inj hy)
theorem len_ne {α : Type} {L M : List α} (h : L.length ≠ M.length) : L ≠ M := fun e => h (by rw [e])
set_option maxHeartbeats 8000000 in
theorem rsame_any (L M : List Snd) (n m c d : Nat) (A C : Option Addr) (w : World) (hl : L.length = n) (hm : M.length = m) (hn : n ≤ 1000000000000) (hm1 : m ≤ 1000000000000) (hA : CellsIn w A (sndsC L)) (hC : CellsIn w C (sndsC M)) :
    Calls Try.prog 22 #[.slice A n c, .slice C m d] w fun e w' => e = .returned (.bool (eqB L M)) ∧ Below w.heap.size w w' := by
  by_cases hlen : n = m
  · subst hlen
    have HL := Lib.hid hl
    have HM := Lib.hid hm
    have HA := Lib.hid hA
    have HC0 := Lib.hid hC
    clear hl hm hA hC
    go_enter Try.func22, Try.ntmps22
    go_wp2
    go_loopw [5] (fun i wr => ∃ k : Nat, k ≤ n ∧ i = .int .i64 k ∧ L.take k = M.take k ∧ Below w.heap.size w wr) (fun i _ => n - (intOf i).toNat)
    case atStart => exact ⟨0, Nat.zero_le _, rfl, rfl, Below.refl _ _⟩
    case round =>
      obtain ⟨k, hk, rfl, htk, hbr⟩ := hrel
      have HT := Lib.hid htk
      have HB := Lib.hid hbr
      clear htk
      by_cases hlt : k < n
      · obtain ⟨x, hx⟩ := idx_lt HL.out hlt
        obtain ⟨y, hy⟩ := idx_lt HM.out hlt
        obtain ⟨b1, o1, rfl, hb1, x0, x1, x2⟩ := (HA.out.below hbr).snd hx
        obtain ⟨b2, o2, rfl, hb2, y0, y1, y2⟩ := (HC0.out.below hbr).snd hy
        have HX := Lib.hid hx
        have HY := Lib.hid hy
        clear hx hy hbr
        by_cases hxy : x = y
        · have HN := Lib.hid (take_eq HT.out HX.out (by rw [hxy]; exact HY.out))
          have HC := Lib.hid (cmpS_zero.2 hxy)
          clear hxy
          go_upto_region 6 with fail
          have hKp : Keep [(⟨b1, o1 + k * 3, none⟩, .int .i64 x.k), (⟨b1, o1 + k * 3 + 1, none⟩, .int .i64 x.q), (⟨b1, o1 + k * 3 + 2, none⟩, .string (bs x.t)), (⟨b2, o2 + k * 3, none⟩, .int .i64 y.k), (⟨b2, o2 + k * 3 + 1, none⟩, .int .i64 y.q), (⟨b2, o2 + k * 3 + 2, none⟩, .string (bs y.t))] wr := List.forall_mem_cons.2 ⟨⟨x0, hb1⟩, List.forall_mem_cons.2 ⟨⟨x1, hb1⟩, List.forall_mem_cons.2 ⟨⟨x2, hb1⟩, List.forall_mem_cons.2 ⟨⟨y0, hb2⟩, List.forall_mem_cons.2 ⟨⟨y1, hb2⟩, List.forall_mem_cons.2 ⟨⟨y2, hb2⟩, fun _ h => by simp at h⟩⟩⟩⟩⟩⟩
          clear x0 x1 x2 y0 y1 y2
          refine wp_region_held_drew (S := Keep _) (by kernel_rfl) hKp.drew (fun hHeld => ?_)
          refine tk 0 ?_ rfl ?_ ?_; rotate_left; focus (intro w hSw; clear hSw; go_simp; try (with_reducible rfl))
          try simp only [Act.put, sA, sZ, sS]
          refine tk 1 ?_ rfl ?_ ?_; rotate_left; focus (intro w hSw; clear hSw; go_simp; try (with_reducible rfl))
          try simp only [Act.put, sA, sZ, sS]
          refine tk 2 ?_ rfl ?_ ?_; rotate_left; focus (intro w hSw; clear hSw; go_simp; try (with_reducible rfl))
          try simp only [Act.put, sA, sZ, sS]
          refine tk 3 ?_ rfl ?_ ?_; rotate_left
          · intro wl hSw
            have hSw : Keep _ wl := hSw
            have k0 := (hSw _ (.head _)).1
            have k1 := (hSw _ (.tail _ (.head _))).1
            have k2 := (hSw _ (.tail _ (.tail _ (.head _)))).1
            dsimp only at k0 k1 k2
            clear hSw
            go_simp
            try (with_reducible rfl)
          try simp only [Act.put, sA, sZ, sS]
          refine tk 4 ?_ rfl ?_ ?_; rotate_left; focus (intro w hSw; clear hSw; go_simp; try (with_reducible rfl))
          try simp only [Act.put, sA, sZ, sS]
          refine tk 5 ?_ rfl ?_ ?_; rotate_left; focus (intro w hSw; clear hSw; go_simp; try (with_reducible rfl))
          try simp only [Act.put, sA, sZ, sS]
          refine tk 6 ?_ rfl ?_ ?_; rotate_left; focus (intro w hSw; clear hSw; go_simp; try (with_reducible rfl))
          try simp only [Act.put, sA, sZ, sS]
          refine tk 7 ?_ rfl ?_ ?_; rotate_left
          · intro wl hSw
            have hSw : Keep _ wl := hSw
            have k0 := (hSw _ (.tail _ (.tail _ (.tail _ (.head _))))).1
            have k1 := (hSw _ (.tail _ (.tail _ (.tail _ (.tail _ (.head _)))))).1
            have k2 := (hSw _ (.tail _ (.tail _ (.tail _ (.tail _ (.tail _ (.head _))))))).1
            dsimp only at k0 k1 k2
            clear hSw
            go_simp
            try (with_reducible rfl)
          try simp only [Act.put, sA, sZ, sS]
          refine wpAnyH_ready (rs := [8]) (by kernel_rfl) (by simp) ?_
          refine AllReadyH.cons (List.getElem?_toArray.trans rfl) (fun K hK => ?_) AllReadyH.nil
          go_simp
          refine (rcompare_any x y _).mono ?_
          rintro e w1 ⟨rfl, hb1⟩
          rw [HC.out]
          have B1 := Lib.hid (btwo (btwo HB.out (bdrew _)) hb1)
          try go_wp2_with fail
          refine hK.out _ _ (hHeld.go hb1) (fun hHeld => ?_)
          clear hK K
          try simp only [Act.put, sA, sZ, sS]
          refine tk 9 ?_ rfl ?_ ?_; rotate_left; focus (intro w hSw; clear hSw; go_simp; try (with_reducible rfl))
          try simp only [Act.put, sA, sZ, sS]
          refine wpAnyH_done (by kernel_rfl) ?_ _
          go_wp2_with fail
          go_roundw
          case rel => exact ⟨k + 1, by omega, by go_num, HN.out, B1.out⟩
          case measure => simp [intOf]; omega
        · have HN := Lib.hid (eqB_no (take_ne HX.out HY.out hxy))
          obtain ⟨v, hv⟩ : ∃ v, v = cmpS x y := ⟨_, rfl⟩
          have HC := Lib.hid hv.symm
          have hv0 : (v != 0) = true := bne_yes (fun e => hxy (cmpS_zero.1 (by rw [← hv]; exact e)))
          clear hxy hv
          go_upto_region 6 with fail
          have hKp : Keep [(⟨b1, o1 + k * 3, none⟩, .int .i64 x.k), (⟨b1, o1 + k * 3 + 1, none⟩, .int .i64 x.q), (⟨b1, o1 + k * 3 + 2, none⟩, .string (bs x.t)), (⟨b2, o2 + k * 3, none⟩, .int .i64 y.k), (⟨b2, o2 + k * 3 + 1, none⟩, .int .i64 y.q), (⟨b2, o2 + k * 3 + 2, none⟩, .string (bs y.t))] wr := List.forall_mem_cons.2 ⟨⟨x0, hb1⟩, List.forall_mem_cons.2 ⟨⟨x1, hb1⟩, List.forall_mem_cons.2 ⟨⟨x2, hb1⟩, List.forall_mem_cons.2 ⟨⟨y0, hb2⟩, List.forall_mem_cons.2 ⟨⟨y1, hb2⟩, List.forall_mem_cons.2 ⟨⟨y2, hb2⟩, fun _ h => by simp at h⟩⟩⟩⟩⟩⟩
          clear x0 x1 x2 y0 y1 y2
          refine wp_region_held_drew (S := Keep _) (by kernel_rfl) hKp.drew (fun hHeld => ?_)
          refine tk 0 ?_ rfl ?_ ?_; rotate_left; focus (intro w hSw; clear hSw; go_simp; try (with_reducible rfl))
          try simp only [Act.put, sA, sZ, sS]
          refine tk 1 ?_ rfl ?_ ?_; rotate_left; focus (intro w hSw; clear hSw; go_simp; try (with_reducible rfl))
          try simp only [Act.put, sA, sZ, sS]
          refine tk 2 ?_ rfl ?_ ?_; rotate_left; focus (intro w hSw; clear hSw; go_simp; try (with_reducible rfl))
          try simp only [Act.put, sA, sZ, sS]
          refine tk 3 ?_ rfl ?_ ?_; rotate_left
          · intro wl hSw
            have hSw : Keep _ wl := hSw
            have k0 := (hSw _ (.head _)).1
            have k1 := (hSw _ (.tail _ (.head _))).1
            have k2 := (hSw _ (.tail _ (.tail _ (.head _)))).1
            dsimp only at k0 k1 k2
            clear hSw
            go_simp
            try (with_reducible rfl)
          try simp only [Act.put, sA, sZ, sS]
          refine tk 4 ?_ rfl ?_ ?_; rotate_left; focus (intro w hSw; clear hSw; go_simp; try (with_reducible rfl))
          try simp only [Act.put, sA, sZ, sS]
          refine tk 5 ?_ rfl ?_ ?_; rotate_left; focus (intro w hSw; clear hSw; go_simp; try (with_reducible rfl))
          try simp only [Act.put, sA, sZ, sS]
          refine tk 6 ?_ rfl ?_ ?_; rotate_left; focus (intro w hSw; clear hSw; go_simp; try (with_reducible rfl))
          try simp only [Act.put, sA, sZ, sS]
          refine tk 7 ?_ rfl ?_ ?_; rotate_left
          · intro wl hSw
            have hSw : Keep _ wl := hSw
            have k0 := (hSw _ (.tail _ (.tail _ (.tail _ (.head _))))).1
            have k1 := (hSw _ (.tail _ (.tail _ (.tail _ (.tail _ (.head _)))))).1
            have k2 := (hSw _ (.tail _ (.tail _ (.tail _ (.tail _ (.tail _ (.head _))))))).1
            dsimp only at k0 k1 k2
            clear hSw
            go_simp
            try (with_reducible rfl)
          try simp only [Act.put, sA, sZ, sS]
          refine wpAnyH_ready (rs := [8]) (by kernel_rfl) (by simp) ?_
          refine AllReadyH.cons (List.getElem?_toArray.trans rfl) (fun K hK => ?_) AllReadyH.nil
          go_simp
          refine (rcompare_any x y _).mono ?_
          rintro e w1 ⟨rfl, hb1⟩
          rw [HC.out]
          have B1 := Lib.hid (btwo (btwo HB.out (bdrew _)) hb1)
          try go_wp2_with fail
          refine hK.out _ _ (hHeld.go hb1) (fun hHeld => ?_)
          clear hK K
          try simp only [Act.put, sA, sZ, sS]
          refine tk 9 ?_ rfl ?_ ?_; rotate_left; focus (intro w hSw; clear hSw; go_simp; try (with_reducible rfl))
          try simp only [Act.put, sA, sZ, sS]
          refine wpAnyH_done (by kernel_rfl) ?_ _
          go_wp2_with fail
          go_ret
          exact ⟨ret_bool HN.out.symm, B1.out⟩
      · have HE := Lib.hid (show eqB L M = true from eqB_yes (by
          have := HT.out
          rwa [take_all (by have := HL.out; omega), take_all (by have := HM.out; omega)] at this))
        clear hbr
        go_wp2
        go_ret
        exact ⟨ret_bool HE.out.symm, HB.out⟩
  · have HE := Lib.hid (show eqB L M = false from eqB_no (len_ne (by omega)))
    have hne' : ((n : Int) != (m : Int)) = true := by simp; omega
    have hne : ((n : Int) == (m : Int)) = false := by simp; omega
    clear hlen hl hm hA hC
    go_enter Try.func22, Try.ntmps22
    go_wp2
    go_ret
    exact ⟨ret_bool HE.out.symm, Below.refl _ _⟩
theorem own_slice {w : World} {base n : Nat} {e : TypeId} {sz : Nat} {v : Value} {xs : List Value} (h : w.ownsRow base e sz v n xs) : ∃ A c, v = .slice A n c ∧ n ≤ c := by
  rcases h.2 with ⟨rfl, rfl⟩ | ⟨g, cap, cur, rfl, _, _, hnc, _⟩
  · exact ⟨none, 0, rfl, Nat.le_refl _⟩
  · exact ⟨_, _, rfl, hnc⟩
set_option maxHeartbeats 4000000 in
theorem clone_any (L : List Snd) (n c : Nat) (A : Option Addr) (w : World) (hl : L.length = n) (hn : n ≤ 1000000) (hA : CellsIn w A (sndsC L)) :
    Calls Try.prog 36 #[.slice A n c] w fun e w' => ∃ C d, e = .returned (.slice C n d) ∧ Hp w [snds C n d L] w' := by
  obtain ⟨i0, hi, hz0, hz1, hz2⟩ := info_parts snd_info
  have qn : ∀ (w : World) (a : Option Addr) (n c n' c' : Nat), (binOp .eql 22 (.slice a n c) (.slice none n' c')).run Try.prog w = .ok (.bool a.isNone) w := fun w a n c n' c' => Lib.run_eql_slice_nil w _ _ a n c n' c' Try.underlying22
  have HL := Lib.hid hl
  have HA := Lib.hid hA
  clear hA hl
  cases A with
  | none =>
    have hn0 : n = 0 := by
      rcases Nat.eq_zero_or_pos n with h | h
      · exact h
      · obtain ⟨b, off, e, _⟩ := HA.out (by rw [sndsC_len, HL.out]; omega)
        cases e
    subst hn0
    have HL0 := Lib.hid (show L = [] from List.eq_nil_of_length_eq_zero HL.out)
    go_enter Try.func36, Try.ntmps36
    go_wp2
    go_ret
    refine ⟨none, 0, rfl, ?_⟩
    rw [HL0.out]
    exact (Hp.start w).nil_row _ rfl rfl rfl
  | some a =>
    have HR := Lib.hid (show ∀ (i : Nat) (u : Value), (sndsC L)[i]? = some u → (w.alloc (.cells #[] 51)).cell? (a.add i) = some u from fun i u hu => by
      have h0 : 0 < (sndsC L).length := by have := (List.getElem?_eq_some_iff.1 hu).1; omega
      obtain ⟨b, off, e, hlt, hc⟩ := HA.out h0
      injection e with e
      subst e
      rw [add_at]
      exact ((bnew w _).cell (p := ⟨b, off + i, none⟩) hlt).trans (hc i u hu))
    go_enter Try.func36, Try.ntmps36
    go_wp2_with (at_builtin; refine wpList_append_own _ rfl _ _ 22 rfl w.heap.size 51 i0 _ 3 32 Try.underlying22 hi hz0 hz1 hz2 rfl (by decide) _ _ _ rfl (World.ownsRow_made w #[] 0 (Nat.le_refl _) (Nat.zero_le _) rfl) a n c (sndsC L) rfl (by rw [sndsC_len]; have := HL.out; omega) HR.out (sndsC_one L) (by unfold maxLen; omega) (by omega) (by simp) ?_)
    intro v' w1 hown hgrow hnil
    have HB := Lib.hid (((bnew w (.cells #[] 51))).grown hgrow (by simp) (by intro k hk; simp [Value.ownBlock] at hk; omega))
    have hown' : w1.ownsRow w.heap.size 51 3 v' n (sndsC L) := by simpa using hown
    obtain ⟨C, d, rfl, hd⟩ := own_slice hown'
    have HT := Lib.hid ((Hp.start w).new (snds C n d L) HB.out hown' (fun k hk => (hown'.lt k hk).1))
    clear hown hgrow hnil hown'
    go_wp2
    go_ret
    exact ⟨C, d, rfl, HT.out⟩
end Go.Proofs.Ythcdbhancfpldaa
