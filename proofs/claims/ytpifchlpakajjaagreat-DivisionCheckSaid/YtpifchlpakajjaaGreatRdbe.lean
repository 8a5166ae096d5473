/- Several texts in one: Jk, Jl, Ja. -/
import Derived.Test.YtpifchlpakajjaaGreatRday
import Derived.Test.YtpifchlpakajjaaGreatRdax
import Derived.Test.YtpifchlpakajjaaGreatRdaz
import Derived.Test.YtpifchlpakajjaaGreatRdar
namespace Go.Proofs.YtpifchlpakajjaaGreat
open Go.RowKit
set_option linter.unusedVariables false
set_option linter.unusedSimpArgs false
set_option maxRecDepth 100000

theorem eqL_at {L M : List Int} {n k : Nat} (hL : L.length = n) (hM : M.length = n) (h : ∀ i, i < k → L.getD i 0 = M.getD i 0) (hk : n ≤ k) : L = M := by
  apply List.ext_getElem (by omega)
  intro i h1 h2
  have := h i (by omega)
  rwa [List.getD_eq_getElem?_getD, List.getD_eq_getElem?_getD, List.getElem?_eq_getElem h1, List.getElem?_eq_getElem h2] at this
set_option maxHeartbeats 4000000 in
theorem rints_any (A1 A2 : Option Addr) (n c m d : Nat) (L M : List Int) (w : World) (hL : L.length = n) (hM : M.length = m) (hn : n ≤ 17592186044416) (hm : m ≤ 17592186044416) (h1 : CellsIn w A1 (ints L)) (h2 : CellsIn w A2 (ints M)) :
    Calls Tryz.prog 46 #[.slice A1 n c, .slice A2 m d] w fun e w' => e = .returned (.bool (decide (L = M))) ∧ Below w.heap.size w w' := by
  have HL := Lib.hid hL
  have HM := Lib.hid hM
  have H1 := Lib.hid h1
  have H2 := Lib.hid h2
  clear hL hM h1 h2
  by_cases hnm : n = m
  case neg =>
    have HE := Lib.hid (show decide (L = M) = false from decide_eq_false (fun e => hnm (by rw [← HL.out, ← HM.out, e])))
    have g1 : ((n : Int) != (m : Int)) = true := bne_yes (by omega)
    have g2 : ((n : Int) == (m : Int)) = false := beq_no (by omega)
    go_enter Tryz.func46, Tryz.ntmps46
    go_wp2_with fail
    go_ret
    exact ⟨ret_bool HE.out.symm, Below.refl _ _⟩
  subst hnm
  have g1 : ((n : Int) != (n : Int)) = false := bne_no rfl
  have g2 : ((n : Int) == (n : Int)) = true := beq_yes rfl
  go_enter Tryz.func46, Tryz.ntmps46
  go_wp2_with fail
  go_loopw [5] (fun cv wr => ∃ k : Nat, cv = .int .i64 (k : Int) ∧ k ≤ n ∧ (∀ i, i < k → L.getD i 0 = M.getD i 0) ∧ Below w.heap.size w wr) (fun cv _ => n - (intOf cv).toNat)
  case atStart => exact ⟨0, rfl, Nat.zero_le _, fun i hi => absurd hi (Nat.not_lt_zero _), Below.refl _ _⟩
  case round =>
    obtain ⟨k, rfl, hkn, hr, hB⟩ := hrel
    obtain ⟨wi, rfl⟩ : ∃ wi : World, wi = wr := ⟨_, rfl⟩
    have HR := Lib.hid hr
    have HB := Lib.hid hB
    clear hr hB
    by_cases hlt : k < n
    case neg =>
      have HE := Lib.hid (show decide (L = M) = true from decide_eq_true (eqL_at HL.out HM.out HR.out (by omega)))
      go_wp2_with fail
      go_ret
      exact ⟨ret_bool HE.out.symm, HB.out⟩
    obtain ⟨b1, o1, rfl, hb1, c1⟩ := (H1.out.below HB.out).int (j := k) (by rw [HL.out]; exact hlt)
    obtain ⟨b2, o2, rfl, hb2, c2⟩ := (H2.out.below HB.out).int (j := k) (by rw [HM.out]; exact hlt)
    obtain ⟨x, hx⟩ : ∃ x, x = L.getD k 0 := ⟨_, rfl⟩
    obtain ⟨y, hy⟩ : ∃ y, y = M.getD k 0 := ⟨_, rfl⟩
    rw [← hx] at c1
    rw [← hy] at c2
    have HX := Lib.hid hx
    have HY := Lib.hid hy
    clear hx hy
    by_cases hxy : x = y
    · have e1 : (x != y) = false := bne_no hxy
      have e2 : (x == y) = true := beq_yes hxy
      have HR2 := Lib.hid (show ∀ i, i < k + 1 → L.getD i 0 = M.getD i 0 from fun i hi => by
        by_cases e : i = k
        · subst e; rw [← HX.out, ← HY.out, hxy]
        · exact HR.out i (by omega))
      clear hxy
      go_wp2_with fail
      go_quiet (fail)
      go_wp2_with fail
      go_roundw
      case rel => exact ⟨k + 1, by go_num, by omega, HR2.out, btwo HB.out (bdrewN _ _)⟩
      case measure => simp [intOf]; omega
    · have e1 : (x != y) = true := bne_yes hxy
      have e2 : (x == y) = false := beq_no hxy
      have HE := Lib.hid (show decide (L = M) = false from decide_eq_false (fun e => hxy (by rw [HX.out, HY.out, e])))
      clear hxy
      go_wp2_with fail
      go_quiet (fail)
      go_wp2_with fail
      go_ret
      exact ⟨ret_bool HE.out.symm, btwo HB.out (bdrewN _ _)⟩
theorem eqR_at {L M : List (List Int)} {n : Nat} (hL : L.length = n) (hM : M.length = n) (h : ∀ (i : Nat) r s, L[i]? = some r → M[i]? = some s → r = s) : L = M := by
  apply List.ext_getElem (by omega)
  intro i h1 h2
  exact h i _ _ (List.getElem?_eq_getElem h1) (List.getElem?_eq_getElem h2)
theorem RowsIn.row {w : World} {A : Option Addr} {R : List (List Int)} (h : RowsIn w A R) {j : Nat} {row : List Int} (hr : R[j]? = some row) :
    ∃ b off Aj cj, A = some ⟨b, off, none⟩ ∧ b < w.heap.size ∧ w.cell? ⟨b, off + j, none⟩ = some (.slice Aj row.length cj) ∧ row.length ≤ cj ∧ row.length ≤ 17592186044416 ∧ CellsIn w Aj (ints row) := by
  obtain ⟨b, off, e, hlt, hc⟩ := h (by have := (List.getElem?_eq_some_iff.1 hr).1; omega)
  obtain ⟨Aj, cj, h1, h2, h3, h4⟩ := hc j row hr
  exact ⟨b, off, Aj, cj, e, hlt, h1, h2, h3, h4⟩
set_option maxHeartbeats 4000000 in
theorem rlists_any (A1 A2 : Option Addr) (n c m d : Nat) (L M : List (List Int)) (w : World) (hL : L.length = n) (hM : M.length = m) (hn : n ≤ 1000000) (hm : m ≤ 1000000) (h1 : RowsIn w A1 L) (h2 : RowsIn w A2 M) :
    Calls Tryz.prog 15 #[.slice A1 n c, .slice A2 m d] w fun e w' => e = .returned (.bool (decide (L = M))) ∧ Below w.heap.size w w' := by
  have HL := Lib.hid hL
  have HM := Lib.hid hM
  have H1 := Lib.hid h1
  have H2 := Lib.hid h2
  clear hL hM h1 h2
  by_cases hnm : n = m
  case neg =>
    have HE := Lib.hid (show decide (L = M) = false from decide_eq_false (fun e => hnm (by rw [← HL.out, ← HM.out, e])))
    have g1 : ((n : Int) != (m : Int)) = true := bne_yes (by omega)
    have g2 : ((n : Int) == (m : Int)) = false := beq_no (by omega)
    go_enter Tryz.func15, Tryz.ntmps15
    go_wp2_with fail
    go_ret
    exact ⟨ret_bool HE.out.symm, Below.refl _ _⟩
  subst hnm
  have g1 : ((n : Int) != (n : Int)) = false := bne_no rfl
  have g2 : ((n : Int) == (n : Int)) = true := beq_yes rfl
  go_enter Tryz.func15, Tryz.ntmps15
  go_wp2_with fail
  go_loopw [5] (fun cv wr => ∃ k : Nat, cv = .int .i64 (k : Int) ∧ k ≤ n ∧ (∀ (i : Nat) r s, i < k → L[i]? = some r → M[i]? = some s → r = s) ∧ Below w.heap.size w wr) (fun cv _ => n - (intOf cv).toNat)
  case atStart => exact ⟨0, rfl, Nat.zero_le _, fun i _ _ hi => absurd hi (Nat.not_lt_zero _), Below.refl _ _⟩
  case round =>
    obtain ⟨k, rfl, hkn, hr, hB⟩ := hrel
    obtain ⟨wi, rfl⟩ : ∃ wi : World, wi = wr := ⟨_, rfl⟩
    have HR := Lib.hid hr
    have HB := Lib.hid hB
    clear hr hB
    by_cases hlt : k < n
    case neg =>
      have HE := Lib.hid (show decide (L = M) = true from decide_eq_true (eqR_at HL.out HM.out (fun i r s hr hs => HR.out i r s (by have := (List.getElem?_eq_some_iff.1 hr).1; have := HL.out; omega) hr hs)))
      go_wp2_with fail
      go_ret
      exact ⟨ret_bool HE.out.symm, HB.out⟩
    obtain ⟨r, hr⟩ : ∃ r, L[k]? = some r := ⟨_, List.getElem?_eq_getElem (by rw [HL.out]; exact hlt)⟩
    obtain ⟨s, hs⟩ : ∃ s, M[k]? = some s := ⟨_, List.getElem?_eq_getElem (by rw [HM.out]; exact hlt)⟩
    obtain ⟨b1, o1, B1, d1, rfl, hb1, c1, q1, p1, e1⟩ := RowsIn.row (w := wi) (fun h => by obtain ⟨b, o, a1, a2, a3⟩ := H1.out h; exact ⟨b, o, a1, Nat.lt_of_lt_of_le a2 HB.out.size, fun j row hj => by obtain ⟨Aj, cj, x1, x2, x3, x4⟩ := a3 j row hj; exact ⟨Aj, cj, (HB.out.cell (p := ⟨b, o + j, none⟩) a2).trans x1, x2, x3, x4.below HB.out⟩⟩) hr
    obtain ⟨b2, o2, B2, d2, rfl, hb2, c2, q2, p2, e2⟩ := RowsIn.row (w := wi) (fun h => by obtain ⟨b, o, a1, a2, a3⟩ := H2.out h; exact ⟨b, o, a1, Nat.lt_of_lt_of_le a2 HB.out.size, fun j row hj => by obtain ⟨Aj, cj, x1, x2, x3, x4⟩ := a3 j row hj; exact ⟨Aj, cj, (HB.out.cell (p := ⟨b, o + j, none⟩) a2).trans x1, x2, x3, x4.below HB.out⟩⟩) hs
    obtain ⟨rl, hrl⟩ : ∃ rl, rl = r.length := ⟨_, rfl⟩
    obtain ⟨sl, hsl⟩ : ∃ sl, sl = s.length := ⟨_, rfl⟩
    rw [← hrl] at c1 p1
    rw [← hsl] at c2 p2
    have E1 := Lib.hid e1
    have E2 := Lib.hid e2
    have HR1 := Lib.hid hr
    have HS1 := Lib.hid hs
    have HRL := Lib.hid hrl
    have HSL := Lib.hid hsl
    clear hr hs hrl hsl e1 e2 q1 q2
    go_upto_region 6 with fail
    go_cut [26] (fun bv wx => bv = .bool (!decide (r = s)) ∧ Below w.heap.size w wx)
    case first =>
      have hKp : Keep [(⟨b1, o1 + k, none⟩, .slice B1 rl d1), (⟨b2, o2 + k, none⟩, .slice B2 sl d2)] wi := List.forall_mem_cons.2 ⟨⟨c1, hb1⟩, List.forall_mem_cons.2 ⟨⟨c2, hb2⟩, fun _ h => by simp at h⟩⟩
      refine wp_region_held_drew (S := Keep _) (by kernel_rfl) hKp.drew (fun hHeld => ?_)
      refine tk 0 ?_ rfl ?_ ?_; rotate_left; focus (intro w hSw; clear hSw; go_simp; try (with_reducible rfl))
      try simp only [Act.put, sA, sZ, sS]
      refine tk 1 ?_ rfl ?_ ?_; rotate_left; focus (intro w hSw; clear hSw; go_simp; try (with_reducible rfl))
      try simp only [Act.put, sA, sZ, sS]
      refine tk 2 ?_ rfl ?_ ?_; rotate_left; focus (intro w hSw; clear hSw; go_simp; try (with_reducible rfl))
      try simp only [Act.put, sA, sZ, sS]
      refine tk 3 ?_ rfl ?_ ?_; rotate_left
      · intro wl hSw
        have hSw : Keep _ wl := hSw
        have k0 : wl.cell? ⟨b1, o1 + k, none⟩ = some (.slice B1 rl d1) := (hSw _ (.head _)).1
        clear hSw
        go_simp
        try (with_reducible rfl)
      try simp only [Act.put, sA, sZ, sS]
      refine tk 4 ?_ rfl ?_ ?_; rotate_left; focus (intro w hSw; clear hSw; go_simp; try (with_reducible rfl))
      try simp only [Act.put, sA, sZ, sS]
      refine tk 5 ?_ rfl ?_ ?_; rotate_left; focus (intro w hSw; clear hSw; go_simp; try (with_reducible rfl))
      try simp only [Act.put, sA, sZ, sS]
      refine tk 6 ?_ rfl ?_ ?_; rotate_left; focus (intro w hSw; clear hSw; go_simp; try (with_reducible rfl))
      try simp only [Act.put, sA, sZ, sS]
      refine tk 7 ?_ rfl ?_ ?_; rotate_left
      · intro wl hSw
        have hSw : Keep _ wl := hSw
        have k0 : wl.cell? ⟨b2, o2 + k, none⟩ = some (.slice B2 sl d2) := (hSw _ (.tail _ (.head _))).1
        clear hSw
        go_simp
        try (with_reducible rfl)
      try simp only [Act.put, sA, sZ, sS]
      refine wpAnyH_ready (rs := [8]) (by kernel_rfl) (by simp) ?_
      refine AllReadyH.cons (List.getElem?_toArray.trans rfl) (fun K hK => ?_) AllReadyH.nil
      go_simp
      refine (rints_any B1 B2 rl d1 sl d2 r s _ HRL.out.symm HSL.out.symm p1 p2 (E1.out.below (bdrew _)) (E2.out.below (bdrew _))).mono ?_
      rintro e w6 ⟨rfl, b6⟩
      try go_wp2_with fail
      have HB6 := Lib.hid (btwo HB.out (btwo (bdrew _) b6))
      refine hK.out _ _ (hHeld.go b6) (fun hHeld => ?_)
      clear hK K
      try simp only [Act.put, sA, sZ, sS]
      refine tk 9 ?_ rfl ?_ ?_; rotate_left; focus (intro w hSw; clear hSw; go_simp; try (with_reducible rfl))
      try simp only [Act.put, sA, sZ, sS]
      refine wpAnyH_done (by kernel_rfl) ?_ _
      clear hHeld hKp
      go_wp2_with fail
      go_meet
      exact ⟨rfl, HB6.out⟩
    case rest =>
      obtain ⟨rfl, hB2⟩ := hcut
      have HB2 := Lib.hid hB2
      clear hB2
      by_cases hrs : r = s
      · have HN := Lib.hid (show (!decide (r = s)) = false by rw [decide_eq_true hrs]; rfl)
        have HR2 := Lib.hid (show ∀ (i : Nat) r s, i < k + 1 → L[i]? = some r → M[i]? = some s → r = s from fun i r' s' hi h1 h2 => by
          by_cases e : i = k
          · subst e
            have a1 := HR1.out.symm.trans h1
            have a2 := HS1.out.symm.trans h2
            injection a1 with a1
            injection a2 with a2
            rw [← a1, ← a2]; exact hrs
          · exact HR.out i r' s' (by omega) h1 h2)
        rw [HN.out]
        clear hrs
        go_wp2_with fail
        go_roundw
        case rel => exact ⟨k + 1, by go_num, by omega, HR2.out, HB2.out⟩
        case measure => simp [intOf]; omega
      · have HN := Lib.hid (show (!decide (r = s)) = true by rw [decide_eq_false hrs]; rfl)
        have HE := Lib.hid (show decide (L = M) = false from decide_eq_false (fun e => hrs (by
          have h1 := HR1.out
          rw [e, HS1.out] at h1
          injection h1 with h1
          exact h1.symm)))
        rw [HN.out]
        clear hrs
        go_wp2_with fail
        go_ret
        exact ⟨ret_bool HE.out.symm, HB2.out⟩

theorem any_stepI {R : List (List Int)} {x r : List Int} {k : Nat} (h : (R.take k).any (fun y => decide (y = x)) = false) (hr : R[k]? = some r) : (R.take (k + 1)).any (fun y => decide (y = x)) = decide (r = x) := by
  rw [List.take_add_one, hr, List.any_append, h]; simp
theorem any_hitI {R : List (List Int)} {x r : List Int} {k : Nat} (hr : R[k]? = some r) (h : decide (r = x) = true) : R.any (fun y => decide (y = x)) = true := List.any_eq_true.2 ⟨r, List.mem_of_getElem? hr, h⟩
set_option maxHeartbeats 2000000 in
theorem rhas_any (A B : Option Addr) (n c m d : Nat) (R : List (List Int)) (x : List Int) (w : World) (hR : R.length = n) (hx : x.length = m) (hn : n ≤ 1000000) (hm : m ≤ 17592186044416) (h1 : RowsIn w A R) (h2 : CellsIn w B (ints x)) :
    Calls Tryz.prog 21 #[.slice A n c, .slice B m d] w fun e w' => e = .returned (.bool (R.any fun y => decide (y = x))) ∧ Below w.heap.size w w' := by
  have HR := Lib.hid hR
  have HX := Lib.hid hx
  have H1 := Lib.hid h1
  have H2 := Lib.hid h2
  have V0 := Lib.hid (Hp.start w)
  clear hR hx h1 h2
  go_enter Tryz.func21, Tryz.ntmps21
  go_wp2_with fail
  go_loopw [5] (fun cv wr => ∃ k : Nat, cv = .int .i64 (k : Int) ∧ k ≤ n ∧ (R.take k).any (fun y => decide (y = x)) = false ∧ Hp w [] wr) (fun cv _ => n - (intOf cv).toNat)
  case atStart => exact ⟨0, rfl, Nat.zero_le _, rfl, V0.out⟩
  case round =>
    obtain ⟨k, rfl, hkn, hr, hB⟩ := hrel
    obtain ⟨wi, rfl⟩ : ∃ wi : World, wi = wr := ⟨_, rfl⟩
    have HA := Lib.hid hr
    have V3 := Lib.hid hB
    clear hr hB V0
    by_cases hlt : k < n
    case neg =>
      have HE := Lib.hid (show (R.any fun y => decide (y = x)) = false by have := HA.out; rwa [List.take_of_length_le (by have := HR.out; omega)] at this)
      go_wp2_with fail
      go_ret
      exact ⟨ret_bool HE.out.symm, V3.out.below⟩
    obtain ⟨r, hr⟩ : ∃ r, R[k]? = some r := ⟨_, List.getElem?_eq_getElem (by have := HR.out; omega)⟩
    obtain ⟨b, off, e0, hb0, hrow⟩ := (H1.out.below V3.out.below) (by have := HR.out; omega)
    obtain ⟨Aj, cj, c1, hc1, hc2, hc3⟩ := hrow k r hr
    obtain ⟨rl, hrl⟩ : ∃ rl, rl = r.length := ⟨_, rfl⟩
    rw [← hrl] at c1 hc2
    have HRL := Lib.hid hrl
    have HC1 := Lib.hid (And.intro c1 hb0)
    have HCR := Lib.hid hc3
    have HRK := Lib.hid hr
    clear hr hrow hc3 hc1 c1 hb0 hrl
    subst e0
    obtain ⟨h0, h00⟩ := HC1.out
    go_wp2_with fail
    refine (rints_any Aj B rl cj m d r x wi HRL.out.symm HX.out hc2 hm HCR.out (H2.out.below V3.out.below)).mono ?_
    rintro e w4 ⟨rfl, hb⟩
    have V4 := Lib.hid (V3.out.go hb)
    clear hb h0 h00
    cases hq : decide (r = x) with
    | true =>
      have HE := Lib.hid (any_hitI HRK.out hq)
      clear hq
      go_wp2_with fail
      go_ret
      exact ⟨ret_bool HE.out.symm, V4.out.below⟩
    | false =>
      have HN := Lib.hid (show (R.take (k + 1)).any (fun y => decide (y = x)) = false by rw [any_stepI HA.out HRK.out, hq])
      clear hq
      go_wp2_with fail
      go_roundw
      case rel => exact ⟨k + 1, by go_num, by omega, HN.out, V4.out⟩
      case measure => simp [intOf]; omega
end Go.Proofs.YtpifchlpakajjaaGreat

namespace Go.Proofs.YtpifchlpakajjaaGreat
open Go.RowKit
set_option linter.unusedVariables false
set_option linter.unusedSimpArgs false
set_option maxRecDepth 100000

abbrev Prow := (Option Addr × Nat) × List Nat
def rvP (ps : List Prow) : List Value := ps.map fun p => Value.slice p.1.1 p.2.length p.1.2
def hdrP (A : Option Addr) (n c : Nat) (ps : List Prow) : Itm := ⟨35, 1, .slice A n c, n, rvP ps⟩
theorem rvP_len (ps : List Prow) : (rvP ps).length = ps.length := List.length_map _
theorem rvP_app (ps qs : List Prow) : rvP (ps ++ qs) = rvP ps ++ rvP qs := List.map_append
theorem rvP_one (ps : List Prow) : ∀ u ∈ rvP ps, u.oneCell' = true := fun u hu => by
  obtain ⟨p, _, rfl⟩ := List.mem_map.1 hu; rfl
theorem rvP_get {ps : List Prow} {k : Nat} {p : Prow} (h : ps[k]? = some p) : (rvP ps)[k]? = some (.slice p.1.1 p.2.length p.1.2) := by unfold rvP; rw [List.getElem?_map, h]; rfl
theorem CellsIn.at_ {w : World} {A : Option Addr} {xs : List Value} (h : CellsIn w A xs) {j : Nat} {v : Value} (hv : xs[j]? = some v) : ∃ b off, A = some ⟨b, off, none⟩ ∧ b < w.heap.size ∧ w.cell? ⟨b, off + j, none⟩ = some v := by
  obtain ⟨b, off, e, hb, hc⟩ := h (by have := (List.getElem?_eq_some_iff.1 hv).1; omega)
  exact ⟨b, off, e, hb, hc j v hv⟩
theorem run_cat_P {W w : World} {l : List Itm} {i : Nat} {A : Option Addr} {n c : Nat} {ps : List Prow} (h : Hp W l w) (hi : l[i]? = some (hdrP A n c ps)) (ty : TypeId) {B : Option Addr} {m d : Nat} (us : List Prow) (hus : us.length = m) (hc : CellsIn w B (rvP us)) (hn : n ≤ 1000000000000) (hm : m ≤ 1000000000000) :
    ∃ A2 c2 w', (Builtin.append_ #[27, 27] ty #[.slice A n c, .slice B m d]).run Tryz.prog w = .ok (.slice A2 (n + m) c2) w' ∧
      Hp W (l.set i (hdrP A2 (n + m) c2 (ps ++ us))) w' ∧ w.grownBy w' (Value.slice A n c).ownBlock := by
  have := run_cat h hi (t := 27) ty Tryz.underlying27 row_info rfl (Nat.zero_lt_one) (by decide) (A := A) (c := c) rfl (B := B) (m := m) (d := d) (rvP us) (by rw [rvP_len, hus]; exact (Nat.mul_one m).symm) hc (rvP_one us) (Nat.le_trans hn (by decide)) (Nat.le_trans hm (by decide))
  simpa [hdrP, rvP_app] using this
end Go.Proofs.YtpifchlpakajjaaGreat

namespace Go.Proofs.YtpifchlpakajjaaGreat
open Go.RowKit
set_option linter.unusedVariables false
set_option linter.unusedSimpArgs false
set_option maxRecDepth 100000


theorem ltr_take {t : List UInt8} {s : ByteArray} {k : Nat} (hs : s = bs t) (hk : k < s.size) (h : T.allLtr (t.take k) = true) (h1 : T.ltr (s[k].toNat : Int) = true) : T.allLtr (t.take (k + 1)) = true := by
  have e : t = s.data.toList := by rw [hs, bs_list]
  rw [e] at h ⊢
  rw [takeS hk]
  unfold T.allLtr at h ⊢
  rw [List.all_append, h]
  simpa using h1
theorem ltr_bad {t : List UInt8} {s : ByteArray} {k : Nat} (hs : s = bs t) (hk : k < s.size) (h1 : T.ltr (s[k].toNat : Int) = false) : T.allLtr t = false := by
  have e : t = s.data.toList := by rw [hs, bs_list]
  rw [Bool.eq_false_iff]; intro h
  rw [e] at h
  unfold T.allLtr at h
  have := List.all_eq_true.1 h s[k] (by rw [getB s k hk]; exact List.getElem_mem _)
  simp only [h1] at this
  cases this
set_option maxHeartbeats 2000000 in
theorem rword_any (t : List UInt8) (w : World) (ht : t.length ≤ 1000000) :
    Calls Tryz.prog 75 #[.string (bs t)] w fun e w' => e = .returned (.int .i64 (wdE t)) ∧ Below w.heap.size w w' := by
  obtain ⟨tl, htl⟩ : ∃ tl, tl = t.length := ⟨_, rfl⟩
  obtain ⟨s, hs⟩ : ∃ s, s = bs t := ⟨_, rfl⟩
  have hz : s.size = tl := by rw [hs, bs_size]; exact htl.symm
  have HZ := Lib.hid hz
  have HT := Lib.hid htl
  have HS := Lib.hid hs
  rw [← htl] at ht
  rw [← hs]
  by_cases h0 : tl = 0
  · obtain ⟨q1, q2⟩ := emp_l (t := t) (by omega)
    rw [← hs] at q1 q2
    have HE := Lib.hid (show wdE t = 7 by unfold wdE; rw [if_pos (by omega)])
    clear hs htl h0
    go_enter Tryz.func75, Tryz.ntmps75
    go_wp2_with fail
    go_ret
    exact ⟨sym_int HE.out, Below.refl _ _⟩
  obtain ⟨q1, q2⟩ := ful_l (t := t) (by omega)
  rw [← hs] at q1 q2
  by_cases h4 : 16 < tl
  · have HE := Lib.hid (show wdE t = 3 by unfold wdE; rw [if_neg (by omega), if_pos (by omega)])
    clear hs htl h0
    go_enter Tryz.func75, Tryz.ntmps75
    go_wp2_with fail
    go_ret
    exact ⟨sym_int HE.out, Below.refl _ _⟩
  have HW := Lib.hid (show wdE t = if t.all isLow = true then 0 else 2 by unfold wdE; rw [if_neg (by omega), if_neg (by omega)])
  have hsz : s.size ≤ 1000000 := by omega
  clear hs htl h0 hz
  go_enter Tryz.func75, Tryz.ntmps75
  have hz := HZ.out
  go_wp2_with fail
  refine (T.rfold_any s _ hsz).mono ?_
  rintro e w1 ⟨rfl, hb⟩
  have B1 := Lib.hid hb
  clear hb
  have HFO := Lib.hid (show T.foldL s.data.toList = T.foldL t by rw [HS.out, bs_list])
  have hst : s.toList = t := by rw [HS.out]; exact toL _
  cases hf : (T.foldL t == t) with
  | false =>
    have e1 : (T.foldL s.data.toList == s.toList) = false := by rw [HFO.out, hst, hf]
    have HE := Lib.hid (show wdE t = 2 by rw [HW.out, small_is, hf, Bool.and_false]; rfl)
    clear hf hst q1 q2
    go_wp2_with fail
    go_ret
    exact ⟨sym_int HE.out, B1.out⟩
  | true =>
  have e1 : (T.foldL s.data.toList == s.toList) = true := by rw [HFO.out, hst, hf]
  have HF := Lib.hid hf
  clear hf hst q1 q2
  go_wp2_with fail
  go_loopw [3] (fun i wr => ∃ k : Nat, k ≤ tl ∧ i = .int .i64 (k : Int) ∧ T.allLtr (t.take k) = true ∧ w1 = wr) (fun i _ => tl - (intOf i).toNat)
  case atStart => exact ⟨0, Nat.zero_le _, rfl, rfl, rfl⟩
  case round =>
    obtain ⟨k, hk, rfl, hall, rfl⟩ := hrel
    have HALL := Lib.hid hall
    clear hall e1
    by_cases hlt : k < tl
    · have hlt2 : k < s.size := by have := HZ.out; omega
      have hb0 : (0 : Int) ≤ (s[k].toNat : Int) := by omega
      have hb255 : (s[k].toNat : Int) ≤ 255 := by have := s[k].toNat_lt; omega
      go_wp2_with fail
      refine (T.rletter_any (s[k].toNat : Int) _ hb0 hb255).mono ?_
      rintro e w2 ⟨rfl, hw⟩
      subst hw
      cases hl : T.ltr (s[k].toNat : Int) with
      | false =>
        have HE := Lib.hid (show wdE t = 2 by rw [HW.out, small_is, ltr_bad HS.out hlt2 hl]; rfl)
        clear hl
        go_wp2_with fail
        go_ret
        exact ⟨sym_int HE.out, B1.out⟩
      | true =>
        have HN := Lib.hid (ltr_take HS.out hlt2 HALL.out hl)
        clear hl
        go_wp2_with fail
        go_roundw
        case rel => exact ⟨k + 1, by omega, by go_num, HN.out, trivial⟩
        case measure => simp [intOf]; omega
    · obtain rfl : k = tl := by omega
      have HE := Lib.hid (show wdE t = 0 by
        have := HALL.out
        rw [List.take_of_length_le (by have := HT.out; omega)] at this
        rw [HW.out, small_is, this, HF.out]; rfl)
      go_wp2_with fail
      go_ret
      exact ⟨sym_int HE.out, B1.out⟩
set_option maxHeartbeats 2000000 in
theorem rgiven_any (nm : List UInt8) (L : List Sg) (A : Option Addr) (n c : Nat) (t : List UInt8) (w : World) (hnm : nm.length ≤ 140737488355328) (hl : L.length = n) (hn : n ≤ 17592186044416) (hs : SgBd L) (hA : SgnIn w A L) (ht : t.length ≤ 1000000) :
    Calls Tryz.prog 40 #[.agg #[.string (bs nm), .slice A n c], .string (bs t)] w fun e w' => e = .returned (.int .i64 (gvE nm L t)) ∧ Below w.heap.size w w' := by
  obtain ⟨g1, hg1⟩ : ∃ z, z = w.heap.size := ⟨_, rfl⟩
  obtain ⟨W1, hW1⟩ : ∃ z, z = w.alloc (.cells #[.string (bs nm), .slice A n c] 24) := ⟨_, rfl⟩
  have V1 := Lib.hid (show Hp w [obox g1 nm A n c] W1 by rw [hW1, hg1]; exact (Hp.start w).obox_new nm A n c)
  have HW1 := Lib.hid hW1
  have HG1 := Lib.hid hg1
  have HV := Lib.hid (rovalid_any nm L A n c W1 hnm hl hn hs (hA.below V1.out.below))
  obtain ⟨z0, z1, z2⟩ := V1.out.obox_at (i := 0) rfl
  clear hW1 hg1 hA hs hl hnm
  go_enter Tryz.func40, Tryz.ntmps40
  go_upto_region 1 with fail
  rw [← HG1.out, ← HW1.out]
  go_wp2_with fail
  refine HV.out.mono ?_
  rintro e w2 ⟨rfl, hb⟩
  have V2 := Lib.hid (V1.out.go hb)
  clear hb z0 z1 z2
  by_cases hv : (vO nm L).2 = 0
  · have HE := Lib.hid (show gvE nm L t = wdE t by unfold gvE; rw [if_pos hv])
    rw [hv]
    clear hv
    go_wp2_with fail
    refine (rword_any t _ ht).mono ?_
    rintro e w3 ⟨rfl, hb⟩
    have V3 := Lib.hid (V2.out.go hb)
    clear hb
    go_wp2_with fail
    go_ret
    exact ⟨sym_int HE.out, V3.out.below⟩
  · have HE := Lib.hid (show gvE nm L t = (vO nm L).2 by unfold gvE; rw [if_neg hv])
    obtain ⟨v, hvv⟩ : ∃ v, v = (vO nm L).2 := ⟨_, rfl⟩
    rw [← hvv] at hv HE ⊢
    have e1 : (v != 0) = true := bne_yes hv
    clear hv hvv
    go_wp2_with fail
    go_ret
    exact ⟨sym_int HE.out, V2.out.below⟩
end Go.Proofs.YtpifchlpakajjaaGreat
