/- Several texts in one: Jk, Jl, Je, Jj, Jm. -/
import Derived.Test.YtpifchlpakajjaaGreatRtaw
import Derived.Test.YtpifchlpakajjaaGreatRtax
import Derived.Test.YtpifchlpakajjaaGreatRtar
import Derived.Test.YtpifchlpakajjaaGreatRtau
import Derived.Test.YtpifchlpakajjaaGreatRtaf
import Derived.Test.YtpifchlpakajjaaGreatRtag
namespace Go.Proofs.YtpifchlpakajjaaGreat
open Go.RowKit
set_option linter.unusedVariables false
set_option linter.unusedSimpArgs false
set_option maxRecDepth 100000

theorem eqL_at {L M : List Int} {n k : Nat} (hL : L.length = n) (hM : M.length = n) (h : ∀ i, i < k → L.getD i 0 = M.getD i 0) (hk : n ≤ k) : L = M := by
  apply List.ext_getElem (by omega)
  intro i h1 h2
  have := h i (by omega)
  rwa [List.getD_eq_getElem?_getD, List.getD_eq_getElem?_getD, List.getElem?_eq_getElem h1, List.getElem?_eq_getElem h2] at this
set_option maxHeartbeats 4000000 in
theorem rints_any (A1 A2 : Option Addr) (n c m d : Nat) (L M : List Int) (w : World) (hL : L.length = n) (hM : M.length = m) (hn : n ≤ 17592186044416) (hm : m ≤ 17592186044416) (h1 : CellsIn w A1 (ints L)) (h2 : CellsIn w A2 (ints M)) :
    Calls Tryz.prog 46 #[.slice A1 n c, .slice A2 m d] w fun e w' => e = .returned (.bool (decide (L = M))) ∧ Below w.heap.size w w' := by
  have HL := Lib.hid hL
  have HM := Lib.hid hM
  have H1 := Lib.hid h1
  have H2 := Lib.hid h2
  clear hL hM h1 h2
  by_cases hnm : n = m
  case neg =>
    have HE := Lib.hid (show decide (L = M) = false from decide_eq_false (fun e => hnm (by rw [← HL.out, ← HM.out, e])))
    have g1 : ((n : Int) != (m : Int)) = true := bne_yes (by omega)
    have g2 : ((n : Int) == (m : Int)) = false := beq_no (by omega)
    go_enter Tryz.func46, Tryz.ntmps46
    go_wp2_with fail
    go_ret
    exact ⟨ret_bool HE.out.symm, Below.refl _ _⟩
  subst hnm
  have g1 : ((n : Int) != (n : Int)) = false := bne_no rfl
  have g2 : ((n : Int) == (n : Int)) = true := beq_yes rfl
  go_enter Tryz.func46, Tryz.ntmps46
  go_wp2_with fail
  go_loopw [5] (fun cv wr => ∃ k : Nat, cv = .int .i64 (k : Int) ∧ k ≤ n ∧ (∀ i, i < k → L.getD i 0 = M.getD i 0) ∧ Below w.heap.size w wr) (fun cv _ => n - (intOf cv).toNat)
  case atStart => exact ⟨0, rfl, Nat.zero_le _, fun i hi => absurd hi (Nat.not_lt_zero _), Below.refl _ _⟩
  case round =>
    obtain ⟨k, rfl, hkn, hr, hB⟩ := hrel
    obtain ⟨wi, rfl⟩ : ∃ wi : World, wi = wr := ⟨_, rfl⟩
    have HR := Lib.hid hr
    have HB := Lib.hid hB
    clear hr hB
    by_cases hlt : k < n
    case neg =>
      have HE := Lib.hid (show decide (L = M) = true from decide_eq_true (eqL_at HL.out HM.out HR.out (by omega)))
      go_wp2_with fail
      go_ret
      exact ⟨ret_bool HE.out.symm, HB.out⟩
    obtain ⟨b1, o1, rfl, hb1, c1⟩ := (H1.out.below HB.out).int (j := k) (by rw [HL.out]; exact hlt)
    obtain ⟨b2, o2, rfl, hb2, c2⟩ := (H2.out.below HB.out).int (j := k) (by rw [HM.out]; exact hlt)
    obtain ⟨x, hx⟩ : ∃ x, x = L.getD k 0 := ⟨_, rfl⟩
    obtain ⟨y, hy⟩ : ∃ y, y = M.getD k 0 := ⟨_, rfl⟩
    rw [← hx] at c1
    rw [← hy] at c2
    have HX := Lib.hid hx
    have HY := Lib.hid hy
    clear hx hy
    by_cases hxy : x = y
    · have e1 : (x != y) = false := bne_no hxy
      have e2 : (x == y) = true := beq_yes hxy
      have HR2 := Lib.hid (show ∀ i, i < k + 1 → L.getD i 0 = M.getD i 0 from fun i hi => by
        by_cases e : i = k
        · subst e; rw [← HX.out, ← HY.out, hxy]
        · exact HR.out i (by omega))
      clear hxy
      go_wp2_with fail
      go_quiet (fail)
      go_wp2_with fail
      go_roundw
      case rel => exact ⟨k + 1, by go_num, by omega, HR2.out, btwo HB.out (bdrewN _ _)⟩
      case measure => simp [intOf]; omega
    · have e1 : (x != y) = true := bne_yes hxy
      have e2 : (x == y) = false := beq_no hxy
      have HE := Lib.hid (show decide (L = M) = false from decide_eq_false (fun e => hxy (by rw [HX.out, HY.out, e])))
      clear hxy
      go_wp2_with fail
      go_quiet (fail)
      go_wp2_with fail
      go_ret
      exact ⟨ret_bool HE.out.symm, btwo HB.out (bdrewN _ _)⟩
theorem eqR_at {L M : List (List Int)} {n : Nat} (hL : L.length = n) (hM : M.length = n) (h : ∀ (i : Nat) r s, L[i]? = some r → M[i]? = some s → r = s) : L = M := by
  apply List.ext_getElem (by omega)
  intro i h1 h2
  exact h i _ _ (List.getElem?_eq_getElem h1) (List.getElem?_eq_getElem h2)
theorem RowsIn.row {w : World} {A : Option Addr} {R : List (List Int)} (h : RowsIn w A R) {j : Nat} {row : List Int} (hr : R[j]? = some row) :
    ∃ b off Aj cj, A = some ⟨b, off, none⟩ ∧ b < w.heap.size ∧ w.cell? ⟨b, off + j, none⟩ = some (.slice Aj row.length cj) ∧ row.length ≤ cj ∧ row.length ≤ 17592186044416 ∧ CellsIn w Aj (ints row) := by
  obtain ⟨b, off, e, hlt, hc⟩ := h (by have := (List.getElem?_eq_some_iff.1 hr).1; omega)
  obtain ⟨Aj, cj, h1, h2, h3, h4⟩ := hc j row hr
  exact ⟨b, off, Aj, cj, e, hlt, h1, h2, h3, h4⟩
set_option maxHeartbeats 4000000 in
theorem rlists_any (A1 A2 : Option Addr) (n c m d : Nat) (L M : List (List Int)) (w : World) (hL : L.length = n) (hM : M.length = m) (hn : n ≤ 1000000) (hm : m ≤ 1000000) (h1 : RowsIn w A1 L) (h2 : RowsIn w A2 M) :
    Calls Tryz.prog 15 #[.slice A1 n c, .slice A2 m d] w fun e w' => e = .returned (.bool (decide (L = M))) ∧ Below w.heap.size w w' := by
  have HL := Lib.hid hL
  have HM := Lib.hid hM
  have H1 := Lib.hid h1
  have H2 := Lib.hid h2
  clear hL hM h1 h2
  by_cases hnm : n = m
  case neg =>
    have HE := Lib.hid (show decide (L = M) = false from decide_eq_false (fun e => hnm (by rw [← HL.out, ← HM.out, e])))
    have g1 : ((n : Int) != (m : Int)) = true := bne_yes (by omega)
    have g2 : ((n : Int) == (m : Int)) = false := beq_no (by omega)
    go_enter Tryz.func15, Tryz.ntmps15
    go_wp2_with fail
    go_ret
    exact ⟨ret_bool HE.out.symm, Below.refl _ _⟩
  subst hnm
  have g1 : ((n : Int) != (n : Int)) = false := bne_no rfl
  have g2 : ((n : Int) == (n : Int)) = true := beq_yes rfl
  go_enter Tryz.func15, Tryz.ntmps15
  go_wp2_with fail
  go_loopw [5] (fun cv wr => ∃ k : Nat, cv = .int .i64 (k : Int) ∧ k ≤ n ∧ (∀ (i : Nat) r s, i < k → L[i]? = some r → M[i]? = some s → r = s) ∧ Below w.heap.size w wr) (fun cv _ => n - (intOf cv).toNat)
  case atStart => exact ⟨0, rfl, Nat.zero_le _, fun i _ _ hi => absurd hi (Nat.not_lt_zero _), Below.refl _ _⟩
  case round =>
    obtain ⟨k, rfl, hkn, hr, hB⟩ := hrel
    obtain ⟨wi, rfl⟩ : ∃ wi : World, wi = wr := ⟨_, rfl⟩
    have HR := Lib.hid hr
    have HB := Lib.hid hB
    clear hr hB
    by_cases hlt : k < n
    case neg =>
      have HE := Lib.hid (show decide (L = M) = true from decide_eq_true (eqR_at HL.out HM.out (fun i r s hr hs => HR.out i r s (by have := (List.getElem?_eq_some_iff.1 hr).1; have := HL.out; omega) hr hs)))
      go_wp2_with fail
      go_ret
      exact ⟨ret_bool HE.out.symm, HB.out⟩
    obtain ⟨r, hr⟩ : ∃ r, L[k]? = some r := ⟨_, List.getElem?_eq_getElem (by rw [HL.out]; exact hlt)⟩
    obtain ⟨s, hs⟩ : ∃ s, M[k]? = some s := ⟨_, List.getElem?_eq_getElem (by rw [HM.out]; exact hlt)⟩
    obtain ⟨b1, o1, B1, d1, rfl, hb1, c1, q1, p1, e1⟩ := RowsIn.row (w := wi) (fun h => by obtain ⟨b, o, a1, a2, a3⟩ := H1.out h; exact ⟨b, o, a1, Nat.lt_of_lt_of_le a2 HB.out.size, fun j row hj => by obtain ⟨Aj, cj, x1, x2, x3, x4⟩ := a3 j row hj; exact ⟨Aj, cj, (HB.out.cell (p := ⟨b, o + j, none⟩) a2).trans x1, x2, x3, x4.below HB.out⟩⟩) hr
    obtain ⟨b2, o2, B2, d2, rfl, hb2, c2, q2, p2, e2⟩ := RowsIn.row (w := wi) (fun h => by obtain ⟨b, o, a1, a2, a3⟩ := H2.out h; exact ⟨b, o, a1, Nat.lt_of_lt_of_le a2 HB.out.size, fun j row hj => by obtain ⟨Aj, cj, x1, x2, x3, x4⟩ := a3 j row hj; exact ⟨Aj, cj, (HB.out.cell (p := ⟨b, o + j, none⟩) a2).trans x1, x2, x3, x4.below HB.out⟩⟩) hs
    obtain ⟨rl, hrl⟩ : ∃ rl, rl = r.length := ⟨_, rfl⟩
    obtain ⟨sl, hsl⟩ : ∃ sl, sl = s.length := ⟨_, rfl⟩
    rw [← hrl] at c1 p1
    rw [← hsl] at c2 p2
    have E1 := Lib.hid e1
    have E2 := Lib.hid e2
    have HR1 := Lib.hid hr
    have HS1 := Lib.hid hs
    have HRL := Lib.hid hrl
    have HSL := Lib.hid hsl
    clear hr hs hrl hsl e1 e2 q1 q2
    go_upto_region 6 with fail
    go_cut [26] (fun bv wx => bv = .bool (!decide (r = s)) ∧ Below w.heap.size w wx)
    case first =>
      have hKp : Keep [(⟨b1, o1 + k, none⟩, .slice B1 rl d1), (⟨b2, o2 + k, none⟩, .slice B2 sl d2)] wi := List.forall_mem_cons.2 ⟨⟨c1, hb1⟩, List.forall_mem_cons.2 ⟨⟨c2, hb2⟩, fun _ h => by simp at h⟩⟩
      refine wp_region_held_drew (S := Keep _) (by kernel_rfl) hKp.drew (fun hHeld => ?_)
      refine tk 0 ?_ rfl ?_ ?_; rotate_left; focus (intro w hSw; clear hSw; go_simp; try (with_reducible rfl))
      try simp only [Act.put, sA, sZ, sS]
      refine tk 1 ?_ rfl ?_ ?_; rotate_left; focus (intro w hSw; clear hSw; go_simp; try (with_reducible rfl))
      try simp only [Act.put, sA, sZ, sS]
      refine tk 2 ?_ rfl ?_ ?_; rotate_left; focus (intro w hSw; clear hSw; go_simp; try (with_reducible rfl))
      try simp only [Act.put, sA, sZ, sS]
      refine tk 3 ?_ rfl ?_ ?_; rotate_left
      · intro wl hSw
        have hSw : Keep _ wl := hSw
        have k0 : wl.cell? ⟨b1, o1 + k, none⟩ = some (.slice B1 rl d1) := (hSw _ (.head _)).1
        clear hSw
        go_simp
        try (with_reducible rfl)
      try simp only [Act.put, sA, sZ, sS]
      refine tk 4 ?_ rfl ?_ ?_; rotate_left; focus (intro w hSw; clear hSw; go_simp; try (with_reducible rfl))
      try simp only [Act.put, sA, sZ, sS]
      refine tk 5 ?_ rfl ?_ ?_; rotate_left; focus (intro w hSw; clear hSw; go_simp; try (with_reducible rfl))
      try simp only [Act.put, sA, sZ, sS]
      refine tk 6 ?_ rfl ?_ ?_; rotate_left; focus (intro w hSw; clear hSw; go_simp; try (with_reducible rfl))
      try simp only [Act.put, sA, sZ, sS]
      refine tk 7 ?_ rfl ?_ ?_; rotate_left
      · intro wl hSw
        have hSw : Keep _ wl := hSw
        have k0 : wl.cell? ⟨b2, o2 + k, none⟩ = some (.slice B2 sl d2) := (hSw _ (.tail _ (.head _))).1
        clear hSw
        go_simp
        try (with_reducible rfl)
      try simp only [Act.put, sA, sZ, sS]
      refine wpAnyH_ready (rs := [8]) (by kernel_rfl) (by simp) ?_
      refine AllReadyH.cons (List.getElem?_toArray.trans rfl) (fun K hK => ?_) AllReadyH.nil
      go_simp
      refine (rints_any B1 B2 rl d1 sl d2 r s _ HRL.out.symm HSL.out.symm p1 p2 (E1.out.below (bdrew _)) (E2.out.below (bdrew _))).mono ?_
      rintro e w6 ⟨rfl, b6⟩
      try go_wp2_with fail
      have HB6 := Lib.hid (btwo HB.out (btwo (bdrew _) b6))
      refine hK.out _ _ (hHeld.go b6) (fun hHeld => ?_)
      clear hK K
      try simp only [Act.put, sA, sZ, sS]
      refine tk 9 ?_ rfl ?_ ?_; rotate_left; focus (intro w hSw; clear hSw; go_simp; try (with_reducible rfl))
      try simp only [Act.put, sA, sZ, sS]
      refine wpAnyH_done (by kernel_rfl) ?_ _
      clear hHeld hKp
      go_wp2_with fail
      go_meet
      exact ⟨rfl, HB6.out⟩
    case rest =>
      obtain ⟨rfl, hB2⟩ := hcut
      have HB2 := Lib.hid hB2
      clear hB2
      by_cases hrs : r = s
      · have HN := Lib.hid (show (!decide (r = s)) = false by rw [decide_eq_true hrs]; rfl)
        have HR2 := Lib.hid (show ∀ (i : Nat) r s, i < k + 1 → L[i]? = some r → M[i]? = some s → r = s from fun i r' s' hi h1 h2 => by
          by_cases e : i = k
          · subst e
            have a1 := HR1.out.symm.trans h1
            have a2 := HS1.out.symm.trans h2
            injection a1 with a1
            injection a2 with a2
            rw [← a1, ← a2]; exact hrs
          · exact HR.out i r' s' (by omega) h1 h2)
        rw [HN.out]
        clear hrs
        go_wp2_with fail
        go_roundw
        case rel => exact ⟨k + 1, by go_num, by omega, HR2.out, HB2.out⟩
        case measure => simp [intOf]; omega
      · have HN := Lib.hid (show (!decide (r = s)) = true by rw [decide_eq_false hrs]; rfl)
        have HE := Lib.hid (show decide (L = M) = false from decide_eq_false (fun e => hrs (by
          have h1 := HR1.out
          rw [e, HS1.out] at h1
          injection h1 with h1
          exact h1.symm)))
        rw [HN.out]
        clear hrs
        go_wp2_with fail
        go_ret
        exact ⟨ret_bool HE.out.symm, HB2.out⟩

end Go.Proofs.YtpifchlpakajjaaGreat

namespace Go.Proofs.YtpifchlpakajjaaGreat
open Go.RowKit
set_option linter.unusedVariables false
set_option linter.unusedSimpArgs false
set_option maxRecDepth 100000

abbrev Prow := (Option Addr × Nat) × List Nat
def rvP (ps : List Prow) : List Value := ps.map fun p => Value.slice p.1.1 p.2.length p.1.2
def hdrP (A : Option Addr) (n c : Nat) (ps : List Prow) : Itm := ⟨35, 1, .slice A n c, n, rvP ps⟩
theorem rvP_len (ps : List Prow) : (rvP ps).length = ps.length := List.length_map _
theorem rvP_app (ps qs : List Prow) : rvP (ps ++ qs) = rvP ps ++ rvP qs := List.map_append
theorem rvP_one (ps : List Prow) : ∀ u ∈ rvP ps, u.oneCell' = true := fun u hu => by
  obtain ⟨p, _, rfl⟩ := List.mem_map.1 hu; rfl
theorem rvP_get {ps : List Prow} {k : Nat} {p : Prow} (h : ps[k]? = some p) : (rvP ps)[k]? = some (.slice p.1.1 p.2.length p.1.2) := by unfold rvP; rw [List.getElem?_map, h]; rfl
theorem CellsIn.at_ {w : World} {A : Option Addr} {xs : List Value} (h : CellsIn w A xs) {j : Nat} {v : Value} (hv : xs[j]? = some v) : ∃ b off, A = some ⟨b, off, none⟩ ∧ b < w.heap.size ∧ w.cell? ⟨b, off + j, none⟩ = some v := by
  obtain ⟨b, off, e, hb, hc⟩ := h (by have := (List.getElem?_eq_some_iff.1 hv).1; omega)
  exact ⟨b, off, e, hb, hc j v hv⟩
theorem run_cat_P {W w : World} {l : List Itm} {i : Nat} {A : Option Addr} {n c : Nat} {ps : List Prow} (h : Hp W l w) (hi : l[i]? = some (hdrP A n c ps)) (ty : TypeId) {B : Option Addr} {m d : Nat} (us : List Prow) (hus : us.length = m) (hc : CellsIn w B (rvP us)) (hn : n ≤ 1000000000000) (hm : m ≤ 1000000000000) :
    ∃ A2 c2 w', (Builtin.append_ #[27, 27] ty #[.slice A n c, .slice B m d]).run Tryz.prog w = .ok (.slice A2 (n + m) c2) w' ∧
      Hp W (l.set i (hdrP A2 (n + m) c2 (ps ++ us))) w' ∧ w.grownBy w' (Value.slice A n c).ownBlock := by
  have := run_cat h hi (t := 27) ty Tryz.underlying27 row_info rfl (Nat.zero_lt_one) (by decide) (A := A) (c := c) rfl (B := B) (m := m) (d := d) (rvP us) (by rw [rvP_len, hus]; exact (Nat.mul_one m).symm) hc (rvP_one us) (Nat.le_trans hn (by decide)) (Nat.le_trans hm (by decide))
  simpa [hdrP, rvP_app] using this
end Go.Proofs.YtpifchlpakajjaaGreat

namespace Go.Proofs.YtpifchlpakajjaaGreat
open Go.RowKit
set_option linter.unusedVariables false
set_option linter.unusedSimpArgs false
set_option maxRecDepth 100000

theorem nbS_none {L : List Sg} {d : List Nat} {i : Int} (h : i < 0 ∨ (d.length : Int) ≤ i) : nbS L d i = [] := by unfold nbS; rw [if_pos h]
theorem nbS_at {L : List Sg} {d : List Nat} {k i : Nat} {x : Sg} (hk : d[k]? = some i) (hx : L[i]? = some x) : nbS L d (k : Int) = x.s := by
  have hkl := (List.getElem?_eq_some_iff.1 hk).1
  unfold nbS
  rw [if_neg (by omega), show ((k : Int)).toNat = k by omega, List.getD_eq_getElem?_getD, hk]
  show (sgAt L i).s = x.s
  rw [sgAt_is hx]
theorem nb_le {nm : List UInt8} {L : List Sg} (h : (vO nm L).2 = 0) (d : List Nat) (i : Int) : (nbS L d i).length ≤ 1000000 := by
  unfold nbS
  split
  · simp
  · by_cases hj : d.getD i.toNat 0 < L.length
    · have := sgn_bd h hj; omega
    · unfold sgAt
      rw [List.getD_eq_getElem?_getD, List.getElem?_eq_none (by omega)]
      simp [zSg]
def chC (nm : List UInt8) (L : List Sg) (u : List UInt8) (d : List Int) : Int := if chE nm L u d = 0 then cD L (dN d) else 0
theorem chC_no {nm : List UInt8} {L : List Sg} {u : List UInt8} {d : List Int} {v : Int} (h : chE nm L u d = v) (hv : v ≠ 0) : chC nm L u d = 0 := by unfold chC; rw [if_neg (by rw [h]; exact hv)]
theorem ret_pair {a b x y : Int} (h1 : x = a) (h2 : y = b) : Ending.returned (.tuple #[.int .i64 a, .int .i64 b]) = .returned (.tuple #[.int .i64 x, .int .i64 y]) := by rw [h1, h2]
end Go.Proofs.YtpifchlpakajjaaGreat

namespace Go.Proofs.YtpifchlpakajjaaGreat
open Go.RowKit
set_option linter.unusedVariables false
set_option linter.unusedSimpArgs false
set_option maxRecDepth 100000

def RowAt (w : World) (T : Option Addr) (p n : Nat) (tab : Nat → Nat → Nat) : Prop := ∃ t o b q e, T = some ⟨t, o, none⟩ ∧ t < w.heap.size ∧ b < w.heap.size ∧ w.cell? ⟨t, o + p, none⟩ = some (.slice (some ⟨b, q, none⟩) n e) ∧ ∀ i c, i < n → c < 3 → w.cell? ⟨b, q + i * 3 + c, none⟩ = some (.int .i64 (tab i c : Nat))
theorem RowAt.below {w w' : World} {T : Option Addr} {p n : Nat} {tab : Nat → Nat → Nat} (h : RowAt w T p n tab) (hb : Below w.heap.size w w') : RowAt w' T p n tab := by
  obtain ⟨t, o, b, q, e, h1, h2, h3, h4, h5⟩ := h
  exact ⟨t, o, b, q, e, h1, Nat.lt_of_lt_of_le h2 hb.size, Nat.lt_of_lt_of_le h3 hb.size, (hb.cell (p := ⟨t, o + p, none⟩) h2).trans h4, fun i c hi hc => (hb.cell (p := ⟨b, q + i * 3 + c, none⟩) h3).trans (h5 i c hi hc)⟩
end Go.Proofs.YtpifchlpakajjaaGreat

namespace Go.Proofs.YtpifchlpakajjaaGreat
open Go.RowKit
set_option linter.unusedVariables false
set_option linter.unusedSimpArgs false
set_option maxRecDepth 100000

def rowP (ps : List Prow) : List Itm := ps.map fun p => nums p.1.1 p.2.length p.1.2 (dI p.2)
theorem rowP_snoc (ps : List Prow) (p : Prow) : rowP (ps ++ [p]) = rowP ps ++ [nums p.1.1 p.2.length p.1.2 (dI p.2)] := by unfold rowP; rw [List.map_append]; rfl
theorem rowP_get {ps : List Prow} {k : Nat} {p : Prow} (h : ps[k]? = some p) : (rowP ps)[k]? = some (nums p.1.1 p.2.length p.1.2 (dI p.2)) := by unfold rowP; rw [List.getElem?_map, h]; rfl
end Go.Proofs.YtpifchlpakajjaaGreat
