/- Several texts in one: Jd, Jk, Yg, Yh. -/
import Derived.Test.YtjamfcihjendiaaGreatRaas
import Derived.Test.YtjamfcihjendiaaGreatRaag
namespace Go.Proofs.YtjamfcihjendiaaGreat
open Go.RowKit
set_option linter.unusedVariables false
set_option linter.unusedSimpArgs false
set_option maxRecDepth 100000

theorem CellsIn.num {w : World} {D : Option Addr} {d : List Int} (h : CellsIn w D (ints d)) {k : Nat} {z : Int} (hk : d[k]? = some z) : ∃ b off, D = some ⟨b, off, none⟩ ∧ b < w.heap.size ∧ w.cell? ⟨b, off + k, none⟩ = some (.int .i64 z) := by
  have hkl := (List.getElem?_eq_some_iff.1 hk).1
  obtain ⟨b, off, e, hlt, hc⟩ := h (by rw [ints_len]; omega)
  exact ⟨b, off, e, hlt, hc k _ (by unfold ints; rw [List.getElem?_map, hk]; rfl)⟩
theorem rg_take {n : Nat} {d : List Int} {k : Nat} {z : Int} (h : rgI n (d.take k) = true) (hk : d[k]? = some z) (h1 : 0 ≤ z ∧ z < (n : Int)) : rgI n (d.take (k + 1)) = true := by
  rw [rgI_is] at h ⊢
  rw [take_snocA hk]
  intro i hi
  rcases List.mem_append.1 hi with hi | hi
  · exact h i hi
  · rw [List.mem_singleton.1 hi]; exact h1
theorem rg_bad {n : Nat} {d : List Int} {k : Nat} {z : Int} (hk : d[k]? = some z) (h1 : ¬ (0 ≤ z ∧ z < (n : Int))) : rgI n d = false := by
  rw [Bool.eq_false_iff]
  intro h
  exact h1 (rgI_is.1 h z (List.mem_of_getElem? hk))
end Go.Proofs.YtjamfcihjendiaaGreat

namespace Go.Proofs.YtjamfcihjendiaaGreat
open Go.RowKit
set_option linter.unusedVariables false
set_option linter.unusedSimpArgs false
set_option maxRecDepth 100000

theorem eqL_at {L M : List Int} {n k : Nat} (hL : L.length = n) (hM : M.length = n) (h : ∀ i, i < k → L.getD i 0 = M.getD i 0) (hk : n ≤ k) : L = M := by
  apply List.ext_getElem (by omega)
  intro i h1 h2
  have := h i (by omega)
  rwa [List.getD_eq_getElem?_getD, List.getD_eq_getElem?_getD, List.getElem?_eq_getElem h1, List.getElem?_eq_getElem h2] at this
set_option maxHeartbeats 4000000 in
theorem rints_any (A1 A2 : Option Addr) (n c m d : Nat) (L M : List Int) (w : World) (hL : L.length = n) (hM : M.length = m) (hn : n ≤ 17592186044416) (hm : m ≤ 17592186044416) (h1 : CellsIn w A1 (ints L)) (h2 : CellsIn w A2 (ints M)) :
    Calls Tryz.prog 27 #[.slice A1 n c, .slice A2 m d] w fun e w' => e = .returned (.bool (decide (L = M))) ∧ Below w.heap.size w w' := by
  have HL := Lib.hid hL
  have HM := Lib.hid hM
  have H1 := Lib.hid h1
  have H2 := Lib.hid h2
  clear hL hM h1 h2
  by_cases hnm : n = m
  case neg =>
    have HE := Lib.hid (show decide (L = M) = false from decide_eq_false (fun e => hnm (by rw [← HL.out, ← HM.out, e])))
    have g1 : ((n : Int) != (m : Int)) = true := bne_yes (by omega)
    have g2 : ((n : Int) == (m : Int)) = false := beq_no (by omega)
    go_enter Tryz.func27, Tryz.ntmps27
    go_wp2_with fail
    go_ret
    exact ⟨ret_bool HE.out.symm, Below.refl _ _⟩
  subst hnm
  have g1 : ((n : Int) != (n : Int)) = false := bne_no rfl
  have g2 : ((n : Int) == (n : Int)) = true := beq_yes rfl
  go_enter Tryz.func27, Tryz.ntmps27
  go_wp2_with fail
  go_loopw [5] (fun cv wr => ∃ k : Nat, cv = .int .i64 (k : Int) ∧ k ≤ n ∧ (∀ i, i < k → L.getD i 0 = M.getD i 0) ∧ Below w.heap.size w wr) (fun cv _ => n - (intOf cv).toNat)
  case atStart => exact ⟨0, rfl, Nat.zero_le _, fun i hi => absurd hi (Nat.not_lt_zero _), Below.refl _ _⟩
  case round =>
    obtain ⟨k, rfl, hkn, hr, hB⟩ := hrel
    obtain ⟨wi, rfl⟩ : ∃ wi : World, wi = wr := ⟨_, rfl⟩
    have HR := Lib.hid hr
    have HB := Lib.hid hB
    clear hr hB
    by_cases hlt : k < n
    case neg =>
      have HE := Lib.hid (show decide (L = M) = true from decide_eq_true (eqL_at HL.out HM.out HR.out (by omega)))
      go_wp2_with fail
      go_ret
      exact ⟨ret_bool HE.out.symm, HB.out⟩
    obtain ⟨b1, o1, rfl, hb1, c1⟩ := (H1.out.below HB.out).int (j := k) (by rw [HL.out]; exact hlt)
    obtain ⟨b2, o2, rfl, hb2, c2⟩ := (H2.out.below HB.out).int (j := k) (by rw [HM.out]; exact hlt)
    obtain ⟨x, hx⟩ : ∃ x, x = L.getD k 0 := ⟨_, rfl⟩
    obtain ⟨y, hy⟩ : ∃ y, y = M.getD k 0 := ⟨_, rfl⟩
    rw [← hx] at c1
    rw [← hy] at c2
    have HX := Lib.hid hx
    have HY := Lib.hid hy
    clear hx hy
    by_cases hxy : x = y
    · have e1 : (x != y) = false := bne_no hxy
      have e2 : (x == y) = true := beq_yes hxy
      have HR2 := Lib.hid (show ∀ i, i < k + 1 → L.getD i 0 = M.getD i 0 from fun i hi => by
        by_cases e : i = k
        · subst e; rw [← HX.out, ← HY.out, hxy]
        · exact HR.out i (by omega))
      clear hxy
      go_wp2_with fail
      go_quiet (fail)
      go_wp2_with fail
      go_roundw
      case rel => exact ⟨k + 1, by go_num, by omega, HR2.out, btwo HB.out (bdrewN _ _)⟩
      case measure => simp [intOf]; omega
    · have e1 : (x != y) = true := bne_yes hxy
      have e2 : (x == y) = false := beq_no hxy
      have HE := Lib.hid (show decide (L = M) = false from decide_eq_false (fun e => hxy (by rw [HX.out, HY.out, e])))
      clear hxy
      go_wp2_with fail
      go_quiet (fail)
      go_wp2_with fail
      go_ret
      exact ⟨ret_bool HE.out.symm, btwo HB.out (bdrewN _ _)⟩
theorem eqR_at {L M : List (List Int)} {n : Nat} (hL : L.length = n) (hM : M.length = n) (h : ∀ (i : Nat) r s, L[i]? = some r → M[i]? = some s → r = s) : L = M := by
  apply List.ext_getElem (by omega)
  intro i h1 h2
  exact h i _ _ (List.getElem?_eq_getElem h1) (List.getElem?_eq_getElem h2)
theorem RowsIn.row {w : World} {A : Option Addr} {R : List (List Int)} (h : RowsIn w A R) {j : Nat} {row : List Int} (hr : R[j]? = some row) :
    ∃ b off Aj cj, A = some ⟨b, off, none⟩ ∧ b < w.heap.size ∧ w.cell? ⟨b, off + j, none⟩ = some (.slice Aj row.length cj) ∧ row.length ≤ cj ∧ row.length ≤ 17592186044416 ∧ CellsIn w Aj (ints row) := by
  obtain ⟨b, off, e, hlt, hc⟩ := h (by have := (List.getElem?_eq_some_iff.1 hr).1; omega)
  obtain ⟨Aj, cj, h1, h2, h3, h4⟩ := hc j row hr
  exact ⟨b, off, Aj, cj, e, hlt, h1, h2, h3, h4⟩
set_option maxHeartbeats 4000000 in
theorem rlists_any (A1 A2 : Option Addr) (n c m d : Nat) (L M : List (List Int)) (w : World) (hL : L.length = n) (hM : M.length = m) (hn : n ≤ 1000000) (hm : m ≤ 1000000) (h1 : RowsIn w A1 L) (h2 : RowsIn w A2 M) :
    Calls Tryz.prog 10 #[.slice A1 n c, .slice A2 m d] w fun e w' => e = .returned (.bool (decide (L = M))) ∧ Below w.heap.size w w' := by
  have HL := Lib.hid hL
  have HM := Lib.hid hM
  have H1 := Lib.hid h1
  have H2 := Lib.hid h2
  clear hL hM h1 h2
  by_cases hnm : n = m
  case neg =>
    have HE := Lib.hid (show decide (L = M) = false from decide_eq_false (fun e => hnm (by rw [← HL.out, ← HM.out, e])))
    have g1 : ((n : Int) != (m : Int)) = true := bne_yes (by omega)
    have g2 : ((n : Int) == (m : Int)) = false := beq_no (by omega)
    go_enter Tryz.func10, Tryz.ntmps10
    go_wp2_with fail
    go_ret
    exact ⟨ret_bool HE.out.symm, Below.refl _ _⟩
  subst hnm
  have g1 : ((n : Int) != (n : Int)) = false := bne_no rfl
  have g2 : ((n : Int) == (n : Int)) = true := beq_yes rfl
  go_enter Tryz.func10, Tryz.ntmps10
  go_wp2_with fail
  go_loopw [5] (fun cv wr => ∃ k : Nat, cv = .int .i64 (k : Int) ∧ k ≤ n ∧ (∀ (i : Nat) r s, i < k → L[i]? = some r → M[i]? = some s → r = s) ∧ Below w.heap.size w wr) (fun cv _ => n - (intOf cv).toNat)
  case atStart => exact ⟨0, rfl, Nat.zero_le _, fun i _ _ hi => absurd hi (Nat.not_lt_zero _), Below.refl _ _⟩
  case round =>
    obtain ⟨k, rfl, hkn, hr, hB⟩ := hrel
    obtain ⟨wi, rfl⟩ : ∃ wi : World, wi = wr := ⟨_, rfl⟩
    have HR := Lib.hid hr
    have HB := Lib.hid hB
    clear hr hB
    by_cases hlt : k < n
    case neg =>
      have HE := Lib.hid (show decide (L = M) = true from decide_eq_true (eqR_at HL.out HM.out (fun i r s hr hs => HR.out i r s (by have := (List.getElem?_eq_some_iff.1 hr).1; have := HL.out; omega) hr hs)))
      go_wp2_with fail
      go_ret
      exact ⟨ret_bool HE.out.symm, HB.out⟩
    obtain ⟨r, hr⟩ : ∃ r, L[k]? = some r := ⟨_, List.getElem?_eq_getElem (by rw [HL.out]; exact hlt)⟩
    obtain ⟨s, hs⟩ : ∃ s, M[k]? = some s := ⟨_, List.getElem?_eq_getElem (by rw [HM.out]; exact hlt)⟩
    obtain ⟨b1, o1, B1, d1, rfl, hb1, c1, q1, p1, e1⟩ := RowsIn.row (w := wi) (fun h => by obtain ⟨b, o, a1, a2, a3⟩ := H1.out h; exact ⟨b, o, a1, Nat.lt_of_lt_of_le a2 HB.out.size, fun j row hj => by obtain ⟨Aj, cj, x1, x2, x3, x4⟩ := a3 j row hj; exact ⟨Aj, cj, (HB.out.cell (p := ⟨b, o + j, none⟩) a2).trans x1, x2, x3, x4.below HB.out⟩⟩) hr
    obtain ⟨b2, o2, B2, d2, rfl, hb2, c2, q2, p2, e2⟩ := RowsIn.row (w := wi) (fun h => by obtain ⟨b, o, a1, a2, a3⟩ := H2.out h; exact ⟨b, o, a1, Nat.lt_of_lt_of_le a2 HB.out.size, fun j row hj => by obtain ⟨Aj, cj, x1, x2, x3, x4⟩ := a3 j row hj; exact ⟨Aj, cj, (HB.out.cell (p := ⟨b, o + j, none⟩) a2).trans x1, x2, x3, x4.below HB.out⟩⟩) hs
    obtain ⟨rl, hrl⟩ : ∃ rl, rl = r.length := ⟨_, rfl⟩
    obtain ⟨sl, hsl⟩ : ∃ sl, sl = s.length := ⟨_, rfl⟩
    rw [← hrl] at c1 p1
    rw [← hsl] at c2 p2
    have E1 := Lib.hid e1
    have E2 := Lib.hid e2
    have HR1 := Lib.hid hr
    have HS1 := Lib.hid hs
    have HRL := Lib.hid hrl
    have HSL := Lib.hid hsl
    clear hr hs hrl hsl e1 e2 q1 q2
    go_upto_region 6 with fail
    go_cut [26] (fun bv wx => bv = .bool (!decide (r = s)) ∧ Below w.heap.size w wx)
    case first =>
      have hKp : Keep [(⟨b1, o1 + k, none⟩, .slice B1 rl d1), (⟨b2, o2 + k, none⟩, .slice B2 sl d2)] wi := List.forall_mem_cons.2 ⟨⟨c1, hb1⟩, List.forall_mem_cons.2 ⟨⟨c2, hb2⟩, fun _ h => by simp at h⟩⟩
      refine wp_region_held_drew (S := Keep _) (by kernel_rfl) hKp.drew (fun hHeld => ?_)
      refine tk 0 ?_ rfl ?_ ?_; rotate_left; focus (intro w hSw; clear hSw; go_simp; try (with_reducible rfl))
      try simp only [Act.put, sA, sZ, sS]
      refine tk 1 ?_ rfl ?_ ?_; rotate_left; focus (intro w hSw; clear hSw; go_simp; try (with_reducible rfl))
      try simp only [Act.put, sA, sZ, sS]
      refine tk 2 ?_ rfl ?_ ?_; rotate_left; focus (intro w hSw; clear hSw; go_simp; try (with_reducible rfl))
      try simp only [Act.put, sA, sZ, sS]
      refine tk 3 ?_ rfl ?_ ?_; rotate_left
      · intro wl hSw
        have hSw : Keep _ wl := hSw
        have k0 : wl.cell? ⟨b1, o1 + k, none⟩ = some (.slice B1 rl d1) := (hSw _ (.head _)).1
        clear hSw
        go_simp
        try (with_reducible rfl)
      try simp only [Act.put, sA, sZ, sS]
      refine tk 4 ?_ rfl ?_ ?_; rotate_left; focus (intro w hSw; clear hSw; go_simp; try (with_reducible rfl))
      try simp only [Act.put, sA, sZ, sS]
      refine tk 5 ?_ rfl ?_ ?_; rotate_left; focus (intro w hSw; clear hSw; go_simp; try (with_reducible rfl))
      try simp only [Act.put, sA, sZ, sS]
      refine tk 6 ?_ rfl ?_ ?_; rotate_left; focus (intro w hSw; clear hSw; go_simp; try (with_reducible rfl))
      try simp only [Act.put, sA, sZ, sS]
      refine tk 7 ?_ rfl ?_ ?_; rotate_left
      · intro wl hSw
        have hSw : Keep _ wl := hSw
        have k0 : wl.cell? ⟨b2, o2 + k, none⟩ = some (.slice B2 sl d2) := (hSw _ (.tail _ (.head _))).1
        clear hSw
        go_simp
        try (with_reducible rfl)
      try simp only [Act.put, sA, sZ, sS]
      refine wpAnyH_ready (rs := [8]) (by kernel_rfl) (by simp) ?_
      refine AllReadyH.cons (List.getElem?_toArray.trans rfl) (fun K hK => ?_) AllReadyH.nil
      go_simp
      refine (rints_any B1 B2 rl d1 sl d2 r s _ HRL.out.symm HSL.out.symm p1 p2 (E1.out.below (bdrew _)) (E2.out.below (bdrew _))).mono ?_
      rintro e w6 ⟨rfl, b6⟩
      try go_wp2_with fail
      have HB6 := Lib.hid (btwo HB.out (btwo (bdrew _) b6))
      refine hK.out _ _ (hHeld.go b6) (fun hHeld => ?_)
      clear hK K
      try simp only [Act.put, sA, sZ, sS]
      refine tk 9 ?_ rfl ?_ ?_; rotate_left; focus (intro w hSw; clear hSw; go_simp; try (with_reducible rfl))
      try simp only [Act.put, sA, sZ, sS]
      refine wpAnyH_done (by kernel_rfl) ?_ _
      clear hHeld hKp
      go_wp2_with fail
      go_meet
      exact ⟨rfl, HB6.out⟩
    case rest =>
      obtain ⟨rfl, hB2⟩ := hcut
      have HB2 := Lib.hid hB2
      clear hB2
      by_cases hrs : r = s
      · have HN := Lib.hid (show (!decide (r = s)) = false by rw [decide_eq_true hrs]; rfl)
        have HR2 := Lib.hid (show ∀ (i : Nat) r s, i < k + 1 → L[i]? = some r → M[i]? = some s → r = s from fun i r' s' hi h1 h2 => by
          by_cases e : i = k
          · subst e
            have a1 := HR1.out.symm.trans h1
            have a2 := HS1.out.symm.trans h2
            injection a1 with a1
            injection a2 with a2
            rw [← a1, ← a2]; exact hrs
          · exact HR.out i r' s' (by omega) h1 h2)
        rw [HN.out]
        clear hrs
        go_wp2_with fail
        go_roundw
        case rel => exact ⟨k + 1, by go_num, by omega, HR2.out, HB2.out⟩
        case measure => simp [intOf]; omega
      · have HN := Lib.hid (show (!decide (r = s)) = true by rw [decide_eq_false hrs]; rfl)
        have HE := Lib.hid (show decide (L = M) = false from decide_eq_false (fun e => hrs (by
          have h1 := HR1.out
          rw [e, HS1.out] at h1
          injection h1 with h1
          exact h1.symm)))
        rw [HN.out]
        clear hrs
        go_wp2_with fail
        go_ret
        exact ⟨ret_bool HE.out.symm, HB2.out⟩

end Go.Proofs.YtjamfcihjendiaaGreat

namespace Go.Proofs.YtjamfcihjendiaaGreat
open Go.RowKit
set_option linter.unusedVariables false
set_option linter.unusedSimpArgs false
set_option maxRecDepth 100000

theorem cut_at2 {β : Type} (L : List β) (k j : Nat) : (L.take k ++ L.drop (k + 1))[j]? = if j < k then L[j]? else L[j + 1]? := by
  rw [← List.eraseIdx_eq_take_drop_succ, List.getElem?_eraseIdx]
theorem Pool.cut {pool : List Itm} {vs : List (Option Addr × Nat)} {L : List Sg} (h : Pool pool vs L) (k : Nat) : Pool pool (vs.take k ++ vs.drop (k + 1)) (L.take k ++ L.drop (k + 1)) := by
  intro j v x hv hx
  rw [cut_at2] at hv hx
  by_cases hj : j < k
  · rw [if_pos hj] at hv hx; exact h j v x hv hx
  · rw [if_neg hj] at hv hx; exact h _ v x hv hx
end Go.Proofs.YtjamfcihjendiaaGreat

namespace Go.Proofs.YtjamfcihjendiaaGreat
open Go.RowKit
set_option linter.unusedVariables false
set_option linter.unusedSimpArgs false
set_option maxRecDepth 100000

theorem Hp.front {W w : World} {l r : List Itm} {x : Itm} (h : Hp W (l ++ x :: r) w) : Hp W (x :: (l ++ r)) w := by
  refine h.sub (fun i => if i = 0 then l.length else if i ≤ l.length then i - 1 else i) (fun i j e => ?_) (fun i it hi => ?_)
  · split at e <;> split at e <;> (try split at e) <;> (try split at e) <;> omega
  · cases i with
    | zero =>
      rw [if_pos rfl, List.getElem?_append_right (Nat.le_refl _), Nat.sub_self]
      simpa using hi
    | succ i =>
      rw [List.getElem?_cons_succ] at hi
      rw [if_neg (by omega)]
      by_cases hl : i + 1 ≤ l.length
      · rw [if_pos hl]
        rw [List.getElem?_append_left (by omega)] at hi
        rw [show i + 1 - 1 = i by omega, List.getElem?_append_left (by omega)]
        exact hi
      · rw [if_neg hl]
        rw [List.getElem?_append_right (by omega)] at hi
        rw [List.getElem?_append_right (by omega), show i + 1 - l.length = (i - l.length) + 1 by omega, List.getElem?_cons_succ]
        exact hi
theorem Pool.wider {pool : List Itm} {vs : List (Option Addr × Nat)} {L : List Sg} (h : Pool pool vs L) (a : Itm) : Pool (a :: pool) vs L := fun j v x hv hx => by
  obtain ⟨k, hk⟩ := h j v x hv hx
  exact ⟨k + 1, hk⟩
theorem CellsIn.left {w : World} {A : Option Addr} {xs ys : List Value} (h : CellsIn w A (xs ++ ys)) : CellsIn w A xs := by
  intro h0
  obtain ⟨b, off, e, hb, hc⟩ := h (by rw [List.length_append]; omega)
  exact ⟨b, off, e, hb, fun j u hu => hc j u (by rw [List.getElem?_append_left (List.getElem?_eq_some_iff.1 hu).1]; exact hu)⟩
theorem CellsIn.right {w : World} {b off : Nat} {xs ys : List Value} (h : CellsIn w (some ⟨b, off, none⟩) (xs ++ ys)) : CellsIn w (some ⟨b, off + xs.length, none⟩) ys := by
  intro h0
  obtain ⟨b2, off2, e, hb, hc⟩ := h (by rw [List.length_append]; omega)
  injection e with e
  injection e with e1 e2
  subst e1; subst e2
  refine ⟨b, off + xs.length, rfl, hb, fun j u hu => ?_⟩
  rw [Nat.add_assoc]
  exact hc _ u (by rw [List.getElem?_append_right (by omega), show xs.length + j - xs.length = j by omega]; exact hu)
end Go.Proofs.YtjamfcihjendiaaGreat
