/- Contracts of the second implementation: which states lead on, where a row stands. -/
import Derived.Test.YtbfedfiemkhefaaRm
import Derived.Test.YtbfedfiemkhefaaAMS
import Derived.Test.YtbfedfiemkhefaaQu
import Derived.Test.YtbfedfiemkhefaaQy
import Derived.Test.YtbfedfiemkhefaaRB
namespace Go.Proofs.Ytbfedfiemkhefaa
open Go.RowKit
set_option linter.unusedVariables false
set_option linter.unusedSimpArgs false
set_option maxRecDepth 100000

/-- An automaton of any size lies there. -/
structure GoodL (w : World) (x : DV) (M : Au) (k : Nat) : Prop where
  dfa : DfaIn w x M
  right : M.Right k
  few : M.n ≤ 2000000
  k8 : k ≤ 8
theorem GoodL.below {w w' : World} {x : DV} {M : Au} {k : Nat} (h : GoodL w x M k) (hb : Below w.heap.size w w') : GoodL w' x M k := ⟨h.dfa.below hb, h.right, h.few, h.k8⟩
theorem GoodL.at {w : World} {x : DV} {M : Au} {k i c : Nat} (h : GoodL w x M k) (hi : i < M.n) (hc : c < k) :
    ∃ b off b2 off2 cj, x.A = some ⟨b, off, none⟩ ∧ w.cell? ⟨b, off + i, none⟩ = some (.slice (some ⟨b2, off2, none⟩) k cj) ∧ k ≤ cj ∧ b < w.heap.size ∧ w.cell? ⟨b2, off2 + c, none⟩ = some (.int .i64 (M.go i c)) ∧ b2 < w.heap.size := by
  have hql : i < M.nx.length := hi
  have hrw : M.nx[i]? = some (M.nx.getD i []) := by rw [List.getD_eq_getElem?_getD, List.getElem?_eq_getElem hql]; rfl
  have hrl := (h.right.rows i _ hrw).1
  obtain ⟨b, off, Aj, cj, hxA, hb, hcell, hl1, hl2, hrow⟩ := h.dfa.row hql
  rw [hrl] at hcell hl1 hl2
  obtain ⟨b2, off2, rfl, hb2, hc2⟩ := hrow.int (j := c) (by rw [hrl]; exact hc)
  refine ⟨b, off, b2, off2, cj, hxA, hcell, hl1, hb, ?_, hb2⟩
  rw [hc2]
  unfold Au.go
  rw [if_neg (by omega)]
  rw [Int.toNat_natCast, ← getD_def (show c < (M.nx.getD i []).length by rw [hrl]; exact hc) 0 (-1)]
theorem GoodL.acc {w : World} {x : DV} {M : Au} {k i : Nat} (h : GoodL w x M k) (hi : i < M.n) : ∃ b off, x.B = some ⟨b, off, none⟩ ∧ b < w.heap.size ∧ w.cell? ⟨b, off + i, none⟩ = some (.bool (M.ac.getD i false)) :=
  h.dfa.acc (by rw [h.right.acl]; exact hi)
/-- What Live returns. -/
def LivPost (M : Au) (k : Nat) (W : World) (e : Ending) (w' : World) : Prop :=
  ∃ A c lv, e = .returned (.slice A M.n c) ∧ LiveOk M k lv ∧ Hp W [flags A M.n c lv] w'
set_option maxHeartbeats 16000000 in
theorem rlive_any (x : DV) (M : Au) (k : Nat) (W : World) (h : GoodL W x M k) :
    Calls Try.prog 76 #[dval x M] W (LivPost M k W) := by
  have G := Lib.hid h
  have hNn : M.n = x.n := h.dfa.n
  have hm : x.n = x.m := by have h1 := h.dfa.m; have h2 := h.right.acl; have h3 : M.nx.length = x.n := h.dfa.n; omega
  have hNb : x.n ≤ 2000000 := by have := h.few; omega
  have hlt := Lib.hid h.right.lt
  have hk0 := h.right.pos
  have hk8 := h.k8
  have HR := Lib.hid h.right
  clear h
  obtain ⟨A, N, c, B, m, d⟩ := x
  dsimp only at *
  subst hm
  have HNN := Lib.hid hNn
  have HAL := Lib.hid (show M.ac.length = N from HR.out.acl.trans hNn)
  clear hNn
  obtain ⟨wz, hwz⟩ : ∃ z, z = (W.alloc (.cells #[.int .i64 M.lt, .int .i64 M.st, .slice A N c, .slice B N d] 25)) := ⟨_, rfl⟩
  have V := Lib.hid (show Hp W [box 25 W.heap.size [.int .i64 M.lt, .int .i64 M.st, .slice A N c, .slice B N d]] wz by
    have := ((Hp.start W).box_new 25 [.int .i64 M.lt, .int .i64 M.st, .slice A N c, .slice B N d])
    rw [hwz]; simpa using this)
  have HZ := Lib.hid hwz
  clear hwz
  go_enter Try.func76, Try.ntmps76
  go_upto_region 1 with fail
  rw [← HZ.out]
  clear HZ
  obtain ⟨r0_0, _, r0_9⟩ := V.out.box_at (i := 0) (j := 0) rfl rfl
  obtain ⟨r0_1, _, _⟩ := V.out.box_at (i := 0) (j := 1) rfl rfl
  obtain ⟨r0_2, _, _⟩ := V.out.box_at (i := 0) (j := 2) rfl rfl
  obtain ⟨r0_3, _, _⟩ := V.out.box_at (i := 0) (j := 3) rfl rfl
  obtain ⟨wy, hwy⟩ : ∃ z, z = wz.alloc (.cells #[] 4) := ⟨_, rfl⟩
  have VY := Lib.hid (show Hp W [flags (some ⟨wz.heap.size, 0, none⟩) 0 0 [], box 25 W.heap.size [.int .i64 M.lt, .int .i64 M.st, .slice A N c, .slice B N d]] wy by
    rw [hwy]
    have := V.out.litm 4 1 0 [] rfl (by omega)
    simpa [flags, bools] using this)
  obtain ⟨A2, c2, w2, hr2, hv2, _⟩ := run_cat_flags VY.out (i := 0) rfl 23 (m := N) (d := d) M.ac HAL.out (by rw [hwy]; exact (G.out.below (btwo V.out.below (bnew _ _))).dfa.accs) (by omega) (by omega)
  rw [Nat.zero_add] at hr2 hv2
  have V2 := Lib.hid (show Hp W [flags A2 N c2 M.ac, box 25 W.heap.size [.int .i64 M.lt, .int .i64 M.st, .slice A N c, .slice B N d]] w2 from hv2)
  have HYY := Lib.hid hwy
  have HR2 := Lib.hid hr2
  clear hwy hr2 hv2 VY V
  go_wp2_with (at_builtin; rw [← HYY.out]; refine wpList_app_run rfl (.tmp 8) (.tmp 10) 23 rfl HR2.out rfl rfl ?_)
  clear HYY HR2 r0_9 r0_0 r0_1 r0_2 r0_3
  go_loopg [4] (2 * cntF M.ac + 1) (fun gn av wr => ∃ ag lv, av = .bool ag ∧ gn = 2 * cntF lv + (if ag = true then 1 else 0) ∧ LvI M k lv ∧ (ag = false → LvC M k lv N) ∧ Hp W [flags A2 N c2 lv, box 25 W.heap.size [.int .i64 M.lt, .int .i64 M.st, .slice A N c, .slice B N d]] wr)
  case atStart => exact ⟨true, M.ac, rfl, rfl, LvI.start HR.out, fun h => (by cases h), V2.out⟩
  case round =>
    clear V2
    obtain ⟨ag, lv, rfl, hgn, hli, hlc, hV⟩ := hrel
    obtain ⟨wi, rfl⟩ : ∃ wi : World, wi = wr := ⟨_, rfl⟩
    have V := Lib.hid hV
    have HLI := Lib.hid hli
    have HGN := Lib.hid hgn
    clear hV hli hgn
    cases ag with
    | false =>
      have HP := Lib.hid (show LivPost M k W (.returned (.slice A2 N c2)) wi from ⟨A2, c2, lv, by rw [HNN.out], HLI.out.done HR.out (by rw [HNN.out]; exact hlc rfl), by rw [HNN.out]; exact V.out.pick [0] (by decide) rfl⟩)
      clear V HLI HGN hlc
      go_wp2_with fail
      go_ret
      exact HP.out
    | true =>
      clear hlc
      obtain ⟨r0, _, r9⟩ := V.out.box_at (i := 1) (j := 0) rfl rfl
      obtain ⟨r2, _, _⟩ := V.out.box_at (i := 1) (j := 2) rfl rfl
      go_wp2_with fail
      clear r0 r2 r9
      go_loopw [4, 5] (fun av iv wr => ∃ i : Nat, iv = .int .i64 (i : Int) ∧ i ≤ N ∧ ∃ ag lv', av = .bool ag ∧ LvI M k lv' ∧ (ag = false → lv' = lv ∧ LvC M k lv' i) ∧ (ag = true → cntF lv' < cntF lv) ∧ Hp W [flags A2 N c2 lv', box 25 W.heap.size [.int .i64 M.lt, .int .i64 M.st, .slice A N c, .slice B N d]] wr) (fun _ iv _ => N - (intOf iv).toNat)
      case atStart => exact ⟨0, rfl, Nat.zero_le _, false, lv, rfl, HLI.out, fun _ => ⟨rfl, fun q e h => absurd h (Nat.not_lt_zero _)⟩, fun h => (by cases h), V.out⟩
      case round =>
        clear V HLI
        obtain ⟨i, rfl, hiN, ag, lv', rfl, hli, hnc, hcn, hV⟩ := hrel
        obtain ⟨wj, rfl⟩ : ∃ wj : World, wj = wr := ⟨_, rfl⟩
        have V := Lib.hid hV
        have HLI := Lib.hid hli
        have HNC := Lib.hid hnc
        have HCN := Lib.hid hcn
        clear hV hli hnc hcn
        obtain ⟨r2, _, r9⟩ := V.out.box_at (i := 1) (j := 2) rfl rfl
        by_cases hlt' : i < N
        · go_wp2_with fail
          clear r2 r9
          obtain ⟨g2, hg2⟩ := V.out.head (i := 0) (A := A2) (c := c2) rfl rfl (show 0 < N by omega)
          subst hg2
          go_loopw [4, 6] (fun av cv wr => ∃ e : Nat, cv = .int .i64 (e : Int) ∧ e ≤ k ∧ ∃ ag lv', av = .bool ag ∧ LvI M k lv' ∧ (ag = false → lv' = lv ∧ LvC M k lv' i ∧ (lv'.getD i false = true ∨ ∀ e', e' < e → lvAt lv' (M.go i e') = false)) ∧ (ag = true → cntF lv' < cntF lv) ∧ Hp W [flags (some ⟨g2, 0, none⟩) N c2 lv', box 25 W.heap.size [.int .i64 M.lt, .int .i64 M.st, .slice A N c, .slice B N d]] wr) (fun _ cv _ => k - (intOf cv).toNat)
          case atStart => exact ⟨0, rfl, Nat.zero_le _, ag, lv', rfl, HLI.out, fun h => ⟨(HNC.out h).1, (HNC.out h).2, .inr fun e' h => absurd h (Nat.not_lt_zero _)⟩, HCN.out, V.out⟩
          case round =>
            clear V HLI HNC HCN
            obtain ⟨e, rfl, hek, ag, lv', rfl, hli, hnc, hcn, hV⟩ := hrel
            obtain ⟨wl, rfl⟩ : ∃ wl : World, wl = wr := ⟨_, rfl⟩
            have V := Lib.hid hV
            have HLI := Lib.hid hli
            have HNC := Lib.hid hnc
            have HCN := Lib.hid hcn
            clear hV hli hnc hcn
            have hlen : lv'.length = N := HLI.out.len.trans HNN.out
            obtain ⟨r0, _, r9⟩ := V.out.box_at (i := 1) (j := 0) rfl rfl
            rw [hlt.out] at r0
            by_cases hek2 : e < k
            · obtain ⟨oi, _, oi9⟩ := V.out.flag_at (i := 0) rfl (j := i) (by omega)
              obtain ⟨vo, hvo⟩ : ∃ o, o = lv'.getD i false := ⟨_, rfl⟩
              rw [← hvo] at oi
              have HVO := Lib.hid hvo
              clear hvo
              cases vo with
              | true =>
                have HC := Lib.hid (show ag = false → lv' = lv ∧ LvC M k lv' (i + 1) from fun h => ⟨(HNC.out h).1, (HNC.out h).2.1.set_none (.inl HVO.out.symm)⟩)
                go_wp2_with fail
                go_roundw
                case rel => exact ⟨i + 1, by go_num, by omega, ag, lv', rfl, HLI.out, HC.out, HCN.out, V.out⟩
                case measure => simp [intOf]; omega
              | false =>
                obtain ⟨b, off, b2, off2, cj, hxA, y1, y2, y3, y4, y5⟩ := (G.out.below V.out.below).at (i := i) (c := e) (by rw [HNN.out]; exact hlt') hek2
                dsimp only at hxA
                subst hxA
                obtain ⟨r2, _, _⟩ := V.out.box_at (i := 1) (j := 2) rfl rfl
                obtain ⟨tv, htv⟩ : ∃ z, z = M.go i e := ⟨_, rfl⟩
                rw [← htv] at y4
                have HTV := Lib.hid htv
                have htr := HR.out.go_in (q := (i : Int)) (c := e)
                rw [← htv, HNN.out] at htr
                clear htv
                have keepc : lvAt lv' tv = false → ag = false → lv' = lv ∧ LvC M k lv' i ∧ (lv'.getD i false = true ∨ ∀ e', e' < e + 1 → lvAt lv' (M.go i e') = false) := fun hl0 h => by
                  obtain ⟨a1, a2, a3⟩ := HNC.out h
                  refine ⟨a1, a2, ?_⟩
                  rcases a3 with a3 | a3
                  · exact .inl a3
                  · refine .inr fun e' he' => ?_
                    by_cases ee : e' = e
                    · subst ee; rw [← HTV.out]; exact hl0
                    · exact a3 e' (by omega)
                by_cases htn : tv < 0
                · have HC := Lib.hid (keepc (lvAt_neg htn))
                  have hge : ¬ (0 ≤ tv) := by omega
                  clear keepc htr
                  go_wp2_with fail
                  go_roundw
                  case rel => exact ⟨e + 1, by go_num, by omega, ag, lv', rfl, HLI.out, HC.out, HCN.out, V.out⟩
                  case measure => simp [intOf]; omega
                · obtain ⟨tn, rfl⟩ := Int.eq_ofNat_of_zero_le (show 0 ≤ tv by omega)
                  have htN : tn < N := by omega
                  obtain ⟨ot, _, _⟩ := V.out.flag_at (i := 0) rfl (j := tn) (by omega)
                  obtain ⟨vt, hvt⟩ : ∃ o, o = lv'.getD tn false := ⟨_, rfl⟩
                  rw [← hvt] at ot
                  have HVT := Lib.hid hvt
                  have hge : (0 : Int) ≤ (tn : Int) := by omega
                  clear hvt htr htn
                  cases vt with
                  | false =>
                    have HC := Lib.hid (keepc (show lvAt lv' (tn : Int) = false by rw [lvAt_nat]; exact HVT.out.symm))
                    clear keepc
                    go_wp2_with fail
                    go_roundw
                    case rel => exact ⟨e + 1, by go_num, by omega, ag, lv', rfl, HLI.out, HC.out, HCN.out, V.out⟩
                    case measure => simp [intOf]; omega
                  | true =>
                    have hc1 : cntF (lv'.set i true) + 1 = cntF lv' := cntF_set (by rw [List.getElem?_eq_getElem (by omega), ← getD_at (d := false) (by omega), ← HVO.out])
                    have hc2 : cntF lv' ≤ cntF lv := by
                      cases ag with
                      | true => exact Nat.le_of_lt (HCN.out rfl)
                      | false => rw [(HNC.out rfl).1]; exact Nat.le_refl _
                    have HL2 := Lib.hid (HLI.out.set HR.out (q := i) (c := e) (by rw [HNN.out]; exact hlt') hek2 (by rw [← HTV.out, lvAt_nat]; exact HVT.out.symm))
                    have V2 := Lib.hid (V.out.flag_set (i := 0) rfl i true)
                    have HCC := Lib.hid (show cntF (lv'.set i true) < cntF lv by omega)
                    clear keepc hc1 hc2
                    go_wp2_with fail
                    go_roundw
                    case rel => exact ⟨e + 1, by go_num, by omega, true, lv'.set i true, rfl, HL2.out, fun h => (by cases h), fun _ => HCC.out, V2.out⟩
                    case measure => simp [intOf]; omega
            · obtain rfl : k = e := by omega
              have HC := Lib.hid (show ag = false → lv' = lv ∧ LvC M k lv' (i + 1) from fun h => ⟨(HNC.out h).1, (HNC.out h).2.1.set_none ((HNC.out h).2.2)⟩)
              go_wp2_with fail
              go_roundw
              case rel => exact ⟨i + 1, by go_num, by omega, ag, lv', rfl, HLI.out, HC.out, HCN.out, V.out⟩
              case measure => simp [intOf]; omega
        · obtain rfl : i = N := by omega
          go_wp2_with fail
          have hgk : gk = 2 * cntF lv + 1 := by simpa using HGN.out
          cases ag with
          | true =>
            have := HCN.out rfl
            go_roundg (2 * cntF lv' + 1)
            case measure => omega
            case rel => exact ⟨true, lv', rfl, rfl, HLI.out, fun h => (by cases h), V.out⟩
          | false =>
            obtain ⟨h1, h2⟩ := HNC.out rfl
            go_roundg (2 * cntF lv')
            case measure => rw [h1]; omega
            case rel => exact ⟨false, lv', rfl, rfl, HLI.out, fun _ => h2, V.out⟩
/-- Where a row stands. -/
def ixR (R : List (List Int)) (row : List Int) : Int := if row ∈ R then (R.idxOf row : Int) else -1
theorem ixR_no {R : List (List Int)} {row : List Int} (h : ∀ (i : Nat) r, R[i]? = some r → ¬ r = row) : ixR R row = -1 := by
  unfold ixR
  rw [if_neg]
  intro hm
  obtain ⟨i, hi⟩ := List.mem_iff_getElem?.1 hm
  exact h i row hi rfl
theorem idx_le {row : List Int} : ∀ {R : List (List Int)} {j : Nat}, R[j]? = some row → R.idxOf row ≤ j
  | [], j, h => by simp at h
  | r :: R, j, h => by
    rw [List.idxOf_cons]
    by_cases e : r = row
    · rw [show (r == row) = true from beq_iff_eq.2 e]; exact Nat.zero_le _
    · rw [show (r == row) = false from beq_eq_false_iff_ne.2 e]
      cases j with
      | zero => injection h with h; exact absurd h e
      | succ j => have := idx_le (R := R) (j := j) (by simpa using h); show R.idxOf row + 1 ≤ j + 1; omega
theorem ixR_yes {R : List (List Int)} {row : List Int} {j : Nat} (h : R[j]? = some row) (hn : ∀ (i : Nat) r, i < j → R[i]? = some r → ¬ r = row) : ixR R row = (j : Int) := by
  unfold ixR
  have hm : row ∈ R := List.mem_of_getElem? h
  rw [if_pos hm]
  have h1 := idx_at hm
  congr 1
  rcases Nat.lt_trichotomy (R.idxOf row) j with e | e | e
  · exact absurd rfl (hn _ _ e h1)
  · exact e
  · have := idx_le h; omega
set_option maxHeartbeats 4000000 in
theorem rindex_any (A1 : Option Addr) (n c : Nat) (R : List (List Int)) (A2 : Option Addr) (m d : Nat) (row : List Int) (w : World) (hR : R.length = n) (hn : n ≤ 17592186044416) (h1 : RowsIn w A1 R) (hr : row.length = m) (hm : m ≤ 17592186044416) (h2 : CellsIn w A2 (ints row)) :
    Calls Try.prog 77 #[.slice A1 n c, .slice A2 m d] w fun e w' => e = .returned (.int .i64 (ixR R row)) ∧ Below w.heap.size w w' := by
  have HR := Lib.hid hR
  have H1 := Lib.hid h1
  have HM := Lib.hid hr
  have H2 := Lib.hid h2
  clear hR h1 hr h2
  go_enter Try.func77, Try.ntmps77
  go_wp2_with fail
  go_loopw [5] (fun cv wr => ∃ j : Nat, cv = .int .i64 (j : Int) ∧ j ≤ n ∧ (∀ (i : Nat) r, i < j → R[i]? = some r → ¬ r = row) ∧ Below w.heap.size w wr) (fun cv _ => n - (intOf cv).toNat)
  case atStart => exact ⟨0, rfl, Nat.zero_le _, fun i r h => absurd h (Nat.not_lt_zero _), Below.refl _ _⟩
  case round =>
    obtain ⟨j, rfl, hjn, hno, hb⟩ := hrel
    obtain ⟨wi, rfl⟩ : ∃ wi : World, wi = wr := ⟨_, rfl⟩
    have HB := Lib.hid hb
    have HN := Lib.hid hno
    clear hb hno
    by_cases hlt : j < n
    · obtain ⟨r, hr⟩ : ∃ r, R[j]? = some r := ⟨_, List.getElem?_eq_getElem (by have := HR.out; omega)⟩
      obtain ⟨b, off, e0, hbl, hcs⟩ := (H1.out.below HB.out) (by have := HR.out; omega)
      subst e0
      obtain ⟨Aj, cj, hcell, hl1, hl2, hrow⟩ := hcs j r hr
      have HX := Lib.hid hr
      have HROW := Lib.hid hrow
      obtain ⟨rl, hrl⟩ : ∃ z, r.length = z := ⟨_, rfl⟩
      rw [hrl] at hcell hl1 hl2
      have HRL := Lib.hid hrl
      clear hr hrow hcs hrl
      by_cases he : r = row
      · have HE := Lib.hid (show ixR R row = (j : Int) from ixR_yes (by rw [← he]; exact HX.out) HN.out)
        have HQ := Lib.hid (show decide (r = row) = true from decide_eq_true he)
        clear he
        go_wp2_with fail
        refine (requal_any Aj A2 rl cj m d r row wi HRL.out HM.out hl2 hm HROW.out (H2.out.below HB.out)).mono ?_
        rintro e w1 ⟨rfl, b1⟩
        rw [HQ.out]
        have HB2 := Lib.hid (btwo HB.out b1)
        clear b1
        go_wp2_with fail
        go_ret
        exact ⟨ret_int HE.out.symm, HB2.out⟩
      · have HN2 := Lib.hid (show ∀ (i : Nat) q, i < j + 1 → R[i]? = some q → ¬ q = row from fun i q hi hq e => by
          by_cases e2 : i = j
          · subst e2; rw [HX.out] at hq; injection hq with hq; exact he (hq.trans e)
          · exact HN.out i q (by omega) hq e)
        have HQ := Lib.hid (show decide (r = row) = false from decide_eq_false he)
        clear he
        go_wp2_with fail
        refine (requal_any Aj A2 rl cj m d r row wi HRL.out HM.out hl2 hm HROW.out (H2.out.below HB.out)).mono ?_
        rintro e w1 ⟨rfl, b1⟩
        rw [HQ.out]
        have HB2 := Lib.hid (btwo HB.out b1)
        clear b1
        go_wp2_with fail
        go_roundw
        case rel => exact ⟨j + 1, by go_num, by omega, HN2.out, HB2.out⟩
        case measure => simp [intOf]; omega
    · have HE := Lib.hid (show ixR R row = -1 from ixR_no fun i r hi => HN.out i r (by have := (List.getElem?_eq_some_iff.1 hi).1; have := HR.out; omega) hi)
      go_wp2_with fail
      go_ret
      exact ⟨ret_int HE.out.symm, HB.out⟩
end Go.Proofs.Ytbfedfiemkhefaa
/- Contract of the second implementation: which states accept the same words. -/
namespace Go.Proofs.Ytbfedfiemkhefaa
open Go.RowKit
set_option linter.unusedVariables false
set_option linter.unusedSimpArgs false
set_option maxRecDepth 100000

theorem Hp.front {W w : World} {l l2 : List Itm} (h : Hp W (l ++ l2) w) : Hp W l w :=
  h.sub (fun i => i) (fun i j e => e) (fun i it hi => by rw [List.getElem?_append_left (List.getElem?_eq_some_iff.1 hi).1]; exact hi)
theorem rowM_len (M : Au) (k : Nat) (L : List Int) (q : Nat) : (rowM M k L q).length = k + 1 := by simp [rowM]
theorem rowM_take {M : Au} {k : Nat} {L : List Int} {q c : Nat} (hc : c < k) : (rowM M k L q).take (c + 1 + 1) = (rowM M k L q).take (c + 1) ++ [clV L (M.go q c)] := by
  rw [List.take_add_one]
  congr 1
  unfold rowM
  rw [List.getElem?_cons_succ, List.getElem?_map, List.getElem?_range hc]
  rfl
theorem rowM_full (M : Au) (k : Nat) (L : List Int) (q : Nat) : (rowM M k L q).take (k + 1) = rowM M k L q := List.take_of_length_le (by rw [rowM_len]; exact Nat.le_refl _)
theorem Rnd.le_m {N m : Nat} {lv : List Bool} {row : Nat → List Int} {L' : List Int} {names : List (List Int)} (g : Rnd N lv row m L' names) : names.length ≤ N := by
  have hx : ∀ v, v < names.length → ∃ q : Nat, q < N ∧ names[v]? = some (row q) := fun v hv => by
    obtain ⟨q, a, _, _, d⟩ := g.used v names[v] (List.getElem?_eq_getElem hv)
    exact ⟨q, a, by rw [d]; exact List.getElem?_eq_getElem hv⟩
  refine inj_below (fun v => if hv : v < names.length then (hx v hv).choose else 0) (fun v hv => ?_) (fun a b ha hb e => ?_)
  · rw [dif_pos hv]; exact (hx v hv).choose_spec.1
  · rw [dif_pos ha, dif_pos hb] at e
    have h1 := (hx a ha).choose_spec.2
    have h2 := (hx b hb).choose_spec.2
    rw [e] at h1
    exact g.nd a b _ h1 h2
theorem Rnd.lens {N m k : Nat} {lv : List Bool} {M : Au} {L L' : List Int} {names : List (List Int)} (g : Rnd N lv (rowM M k L) m L' names) : ∀ r ∈ names, r.length = k + 1 := fun r hr => by
  obtain ⟨j, hj⟩ := List.mem_iff_getElem?.1 hr
  obtain ⟨q, _, _, _, d⟩ := g.used j r hj
  rw [← d, rowM_len]
/-- What classes returns. -/
def ClsPost (M : Au) (k : Nat) (W : World) (e : Ending) (w' : World) : Prop :=
  ∃ A c L, e = .returned (.slice A M.n c) ∧ L.length = M.n ∧ Cls M.go M.acc k (fun t => -1 ≤ t ∧ t < M.n) (fun t => clV L t - 1) ∧ Hp W [nums A M.n c L] w'
set_option maxHeartbeats 32000000 in
theorem rclasses_any (x : DV) (M : Au) (k : Nat) (W : World) (h : GoodL W x M k) :
    Calls Try.prog 60 #[dval x M] W (ClsPost M k W) := by
  have G := Lib.hid h
  have hNn : M.n = x.n := h.dfa.n
  have hm : x.n = x.m := by have h1 := h.dfa.m; have h2 := h.right.acl; have h3 : M.nx.length = x.n := h.dfa.n; omega
  have hNb : x.n ≤ 2000000 := by have := h.few; omega
  have hlt := Lib.hid h.right.lt
  have hk0 := h.right.pos
  have hk8 := h.k8
  have HR := Lib.hid h.right
  clear h
  obtain ⟨A, N, c, B, m, d⟩ := x
  dsimp only at *
  subst hm
  have HNN := Lib.hid hNn
  have HAL := Lib.hid (show M.ac.length = N from HR.out.acl.trans hNn)
  clear hNn
  obtain ⟨wz, hwz⟩ : ∃ z, z = (W.alloc (.cells #[.int .i64 M.lt, .int .i64 M.st, .slice A N c, .slice B N d] 25)) := ⟨_, rfl⟩
  have V := Lib.hid (show Hp W [box 25 W.heap.size [.int .i64 M.lt, .int .i64 M.st, .slice A N c, .slice B N d]] wz by
    have := ((Hp.start W).box_new 25 [.int .i64 M.lt, .int .i64 M.st, .slice A N c, .slice B N d])
    rw [hwz]; simpa using this)
  have HZ := Lib.hid hwz
  clear hwz
  go_enter Try.func60, Try.ntmps60
  go_upto_region 1 with fail
  rw [← HZ.out]
  clear HZ
  obtain ⟨r0_0, _, r0_9⟩ := V.out.box_at (i := 0) (j := 0) rfl rfl
  obtain ⟨r0_1, _, _⟩ := V.out.box_at (i := 0) (j := 1) rfl rfl
  obtain ⟨r0_2, _, _⟩ := V.out.box_at (i := 0) (j := 2) rfl rfl
  obtain ⟨r0_3, _, _⟩ := V.out.box_at (i := 0) (j := 3) rfl rfl
  go_wp2_with fail
  refine (rlive_any ⟨A, N, c, B, N, d⟩ M k wz (G.out.below V.out.below)).mono ?_
  rintro e w1 ⟨A1, c1, lv, rfl, hlv, hv1⟩
  rw [HNN.out] at hv1 ⊢
  have V1 := Lib.hid (show Hp W [flags A1 N c1 lv, box 25 W.heap.size [.int .i64 M.lt, .int .i64 M.st, .slice A N c, .slice B N d]] w1 from V.out.join hv1)
  have HLV := Lib.hid hlv
  clear hlv hv1 V r0_9 r0_0 r0_1 r0_2 r0_3
  have hmk := make_nums (N : Int) N rfl (by omega)
  have HMK := Lib.hid hmk
  obtain ⟨w2, hw2⟩ : ∃ z, z = w1.alloc (.cells (List.replicate N (.int .i64 0)).toArray 3) := ⟨_, rfl⟩
  obtain ⟨g0, hg0⟩ : ∃ z, z = w1.heap.size := ⟨_, rfl⟩
  have V2 := Lib.hid (show Hp W [nums (some ⟨g0, 0, none⟩) N N (List.replicate N 0), flags A1 N c1 lv, box 25 W.heap.size [.int .i64 M.lt, .int .i64 M.st, .slice A N c, .slice B N d]] w2 by rw [hw2, hg0]; exact V1.out.made_nums N (by omega))
  have HW2 := Lib.hid hw2
  have HG0 := Lib.hid hg0
  clear hw2 hg0
  obtain ⟨r1_0, _, r1_9⟩ := V1.out.box_at (i := 1) (j := 0) rfl rfl
  obtain ⟨r1_1, _, _⟩ := V1.out.box_at (i := 1) (j := 1) rfl rfl
  obtain ⟨r1_2, _, _⟩ := V1.out.box_at (i := 1) (j := 2) rfl rfl
  obtain ⟨r1_3, _, _⟩ := V1.out.box_at (i := 1) (j := 3) rfl rfl
  go_upto_region 3 with fail
  simp only [List.toArray_replicate] at HW2
  rw [← HW2.out, ← HG0.out]
  clear HW2 HG0 hmk V1 r1_9 r1_0 r1_1 r1_2 r1_3
  go_wp2_with fail
  have H0 := Lib.hid (show (List.replicate N (0 : Int)).length = N ∧ ∀ q : Nat, q < N → (List.replicate N (0 : Int)).getD q 0 = if q < 0 ∧ lv.getD q false = true then (if M.ac.getD q false = true then 2 else 1) else 0 from ⟨by simp, fun q hq => by rw [if_neg (by omega), List.getD_eq_getElem?_getD, List.getElem?_replicate, if_pos hq]; rfl⟩)
  go_loopw [5] (fun iv wr => ∃ i : Nat, iv = .int .i64 (i : Int) ∧ i ≤ N ∧ ∃ L : List Int, (L.length = N ∧ ∀ q : Nat, q < N → L.getD q 0 = if q < i ∧ lv.getD q false = true then (if M.ac.getD q false = true then 2 else 1) else 0) ∧ Hp W [nums (some ⟨g0, 0, none⟩) N N L, flags A1 N c1 lv, box 25 W.heap.size [.int .i64 M.lt, .int .i64 M.st, .slice A N c, .slice B N d]] wr) (fun iv _ => N - (intOf iv).toNat)
  case atStart => exact ⟨0, rfl, Nat.zero_le _, _, H0.out, V2.out⟩
  case round =>
    clear H0 V2
    obtain ⟨i, rfl, hiN, L, hL, hV⟩ := hrel
    obtain ⟨wi, rfl⟩ : ∃ wi : World, wi = wr := ⟨_, rfl⟩
    have V := Lib.hid hV
    have HL := Lib.hid hL
    clear hV hL
    by_cases hlt' : i < N
    · have hll : lv.length = N := HLV.out.len.trans HNN.out
      obtain ⟨gl, hgl⟩ := V.out.head (i := 1) (A := A1) (c := c1) rfl rfl (show 0 < N by omega)
      subst hgl
      obtain ⟨ol, _, ol9⟩ := V.out.flag_at (i := 1) rfl (j := i) (by omega)
      obtain ⟨s1, s2, s9⟩ := V.out.num_at (i := 0) rfl (j := i) (by rw [HL.out.1]; exact hlt')
      obtain ⟨vl, hvl⟩ : ∃ o, o = lv.getD i false := ⟨_, rfl⟩
      rw [← hvl] at ol
      have HVL := Lib.hid hvl
      clear hvl hll
      cases vl with
      | false =>
        have H1 := Lib.hid (show L.length = N ∧ ∀ q : Nat, q < N → L.getD q 0 = if q < i + 1 ∧ lv.getD q false = true then (if M.ac.getD q false = true then 2 else 1) else 0 from ⟨HL.out.1, fun q hq => by
          rw [HL.out.2 q hq]
          by_cases e : q = i
          · subst e; rw [← HVL.out]; simp
          · by_cases e2 : q < i
            · simp [e2, show q < i + 1 by omega]
            · simp [e2, show ¬ q < i + 1 by omega]⟩)
        go_wp2_with fail
        go_roundw
        case rel => exact ⟨i + 1, by go_num, by omega, L, H1.out, V.out⟩
        case measure => simp [intOf]; omega
      | true =>
        obtain ⟨b, off, hBe, hb0, hcell⟩ := (G.out.below V.out.below).acc (i := i) (by rw [HNN.out]; exact hlt')
        dsimp only at hBe
        subst hBe
        obtain ⟨va, hva⟩ : ∃ o, o = M.ac.getD i false := ⟨_, rfl⟩
        rw [← hva] at hcell
        have HVA := Lib.hid hva
        have V3 := Lib.hid (V.out.num_set (i := 0) rfl i 1)
        have gen : ∀ z : Int, z = (if va = true then 2 else 1) → (L.set i z).length = N ∧ ∀ q : Nat, q < N → (L.set i z).getD q 0 = if q < i + 1 ∧ lv.getD q false = true then (if M.ac.getD q false = true then 2 else 1) else 0 := fun z hz => ⟨by rw [List.length_set]; exact HL.out.1, fun q hq => by
          rw [getD_set (by rw [HL.out.1]; exact hlt')]
          by_cases e : q = i
          · subst e; rw [if_pos rfl, if_pos ⟨by omega, HVL.out.symm⟩, ← HVA.out]; exact hz
          · rw [if_neg e, HL.out.2 q hq]
            by_cases e2 : q < i
            · simp [e2, show q < i + 1 by omega]
            · simp [e2, show ¬ q < i + 1 by omega]⟩
        obtain ⟨r3, _, r9⟩ := V3.out.box_at (i := 2) (j := 3) rfl rfl
        have hcell := (show ((wi.setCell ⟨g0, i, none⟩ (.int .i64 1)).cell? ⟨b, off + i, none⟩ = some (.bool va)) from by
          obtain ⟨b', off', e1, e2, e3⟩ := (G.out.below V3.out.below).acc (i := i) (by rw [HNN.out]; exact hlt')
          dsimp only at e1
          injection e1 with e1
          injection e1 with e4 e5
          subst e4; subst e5
          rw [e3, HVA.out])
        clear hva
        cases va with
        | false =>
          have H1 := Lib.hid (gen 1 rfl)
          clear gen
          go_wp2_with fail
          go_roundw
          case rel => exact ⟨i + 1, by go_num, by omega, _, H1.out, V3.out⟩
          case measure => simp [intOf]; omega
        | true =>
          have H1 := Lib.hid (gen 2 rfl)
          obtain ⟨t1, t2, t9⟩ := V3.out.num_at (i := 0) rfl (j := i) (by rw [List.length_set, HL.out.1]; exact hlt')
          have V4 := Lib.hid (show Hp W [nums (some ⟨g0, 0, none⟩) N N (L.set i 2), flags (some ⟨gl, 0, none⟩) N c1 lv, box 25 W.heap.size [.int .i64 M.lt, .int .i64 M.st, .slice A N c, .slice (some ⟨b, off, none⟩) N d]] _ by
            have := V3.out.num_set (i := 0) rfl i 2
            rw [List.set_set, List.set_set] at this
            exact this)
          clear gen
          go_wp2_with fail
          go_roundw
          case rel => exact ⟨i + 1, by go_num, by omega, _, H1.out, V4.out⟩
          case measure => simp [intOf]; omega
    · obtain rfl : i = N := by omega
      have HM0 := Lib.hid (show Mre M k lv L from Mre.start HLV.out HR.out (HL.out.1.trans HNN.out.symm) (fun q hq => by
        have hq' : q < i := by rw [← HNN.out]; exact hq
        rw [HL.out.2 q hq']; simp [hq']))
      clear HL hlt' hiN
      go_wp2_with fail
      go_loopw [4, 6] (fun ov nv wr => ∃ n : Nat, nv = .int .i64 (n : Int) ∧ n ≤ i ∧ ∃ A2 c2 L, ov = .slice A2 i c2 ∧ Mre M k lv L ∧ (Cnt M lv L n ∨ n = 0) ∧ Hp W [nums A2 i c2 L, flags A1 i c1 lv, box 25 W.heap.size [.int .i64 M.lt, .int .i64 M.st, .slice A i c, .slice B i d]] wr) (fun _ nv _ => i + 1 - (intOf nv).toNat)
      case atStart => exact ⟨0, rfl, Nat.zero_le _, _, _, L, rfl, HM0.out, .inr rfl, V.out⟩
      case round =>
        clear HM0 V
        obtain ⟨n, rfl, hni, A2, c2, L, rfl, hmo, hcn, hV⟩ := hrel
        obtain ⟨wj, rfl⟩ : ∃ wj : World, wj = wr := ⟨_, rfl⟩
        have V := Lib.hid hV
        have HMO := Lib.hid hmo
        have HCN := Lib.hid hcn
        clear hV hmo hcn
        have hmk := HMK.out
        obtain ⟨w2, hw2⟩ : ∃ z, z = wj.alloc (.cells (Array.replicate i (.int .i64 0)) 3) := ⟨_, rfl⟩
        obtain ⟨gn, hgn⟩ : ∃ z, z = wj.heap.size := ⟨_, rfl⟩
        have V2 := Lib.hid (show Hp W [nums (some ⟨gn, 0, none⟩) i i (List.replicate i 0), nums A2 i c2 L, flags A1 i c1 lv, box 25 W.heap.size [.int .i64 M.lt, .int .i64 M.st, .slice A i c, .slice B i d]] w2 by rw [hw2, hgn]; exact V.out.made_numsA i (by omega))
        have HW2 := Lib.hid hw2
        have HG0 := Lib.hid hgn
        clear hw2 hgn V
        go_upto_region 12 with fail
        try simp only [List.toArray_replicate]
        rw [← HW2.out, ← HG0.out]
        clear HW2 HG0 hmk
        go_wp2_with fail
        have V0 := Lib.hid (show Hp W ([rvals none 0 0 [] [], nums (some ⟨gn, 0, none⟩) i i (List.replicate i 0), nums A2 i c2 L, flags A1 i c1 lv, box 25 W.heap.size [.int .i64 M.lt, .int .i64 M.st, .slice A i c, .slice B i d]] ++ rowsG [] []) w2 from (V2.out.nil_row (rvals none 0 0 [] []) rfl rfl rfl))
        go_loopw [8, 9] (fun sv jv wr => ∃ j : Nat, jv = .int .i64 (j : Int) ∧ j ≤ i ∧ ∃ An nn cn vs names L', sv = .slice An nn cn ∧ (names : List (List Int)).length = nn ∧ vs.length = names.length ∧ Rnd i lv (rowM M k L) j L' names ∧ Hp W ([rvals An nn cn vs names, nums (some ⟨gn, 0, none⟩) i i L', nums A2 i c2 L, flags A1 i c1 lv, box 25 W.heap.size [.int .i64 M.lt, .int .i64 M.st, .slice A i c, .slice B i d]] ++ rowsG vs names) wr) (fun _ jv _ => i - (intOf jv).toNat)
        case atStart => exact ⟨0, rfl, Nat.zero_le _, none, 0, 0, [], [], _, rfl, rfl, rfl, Rnd.start i lv _, V0.out⟩
        case round =>
          clear V0 V2
          obtain ⟨j, rfl, hji, An, nn, cn, vs, names, L', rfl, hnn, hvs, hrn, hV⟩ := hrel
          obtain ⟨wl, rfl⟩ : ∃ wl : World, wl = wr := ⟨_, rfl⟩
          have V := Lib.hid hV
          have HRN := Lib.hid hrn
          have HVS := Lib.hid hvs
          have HNM := Lib.hid hnn
          have hnb : nn ≤ i := by rw [← hnn]; exact hrn.le_m
          clear hV hrn hvs hnn
          by_cases hj : j < i
          · have hll : lv.length = i := HLV.out.len.trans HNN.out
            have hLl : L.length = i := HMO.out.len.trans HNN.out
            obtain ⟨gl, hgl⟩ := V.out.head (i := 3) (A := A1) (c := c1) rfl rfl (show 0 < i by omega)
            subst hgl
            obtain ⟨g2, hg2⟩ := V.out.head (i := 2) (A := A2) (c := c2) rfl rfl (show 0 < i by omega)
            subst hg2
            obtain ⟨ol, _, ol9⟩ := V.out.flag_at (i := 3) rfl (j := j) (by omega)
            obtain ⟨s1, _, s9⟩ := V.out.num_at (i := 2) rfl (j := j) (by omega)
            obtain ⟨vl, hvl⟩ : ∃ o, o = lv.getD j false := ⟨_, rfl⟩
            rw [← hvl] at ol
            have HVL := Lib.hid hvl
            obtain ⟨lo, hlo⟩ : ∃ o, o = L.getD j 0 := ⟨_, rfl⟩
            rw [← hlo] at s1
            have HLO := Lib.hid hlo
            clear hvl hlo
            have HLL := Lib.hid hLl
            clear hll hLl
            cases vl with
            | false =>
              have H1 := Lib.hid (HRN.out.skip HVL.out.symm)
              go_wp2_with fail
              go_roundw
              case rel => exact ⟨j + 1, by go_num, by omega, An, nn, cn, vs, names, L', rfl, HNM.out, HVS.out, H1.out, V.out⟩
              case measure => simp [intOf]; omega
            | true =>
              obtain ⟨wy, hwy⟩ : ∃ z, z = wl.alloc (.cells #[.int .i64 lo] 3) := ⟨_, rfl⟩
              obtain ⟨gr, hgr⟩ : ∃ z, z = wl.heap.size := ⟨_, rfl⟩
              have V3 := Lib.hid (show Hp W (nums (some ⟨gr, 0, none⟩) 1 1 ((rowM M k L j).take 1) :: ([rvals An nn cn vs names, nums (some ⟨gn, 0, none⟩) i i L', nums (some ⟨g2, 0, none⟩) i c2 L, flags (some ⟨gl, 0, none⟩) i c1 lv, box 25 W.heap.size [.int .i64 M.lt, .int .i64 M.st, .slice A i c, .slice B i d]] ++ rowsG vs names)) wy by
                rw [hwy, hgr, show (rowM M k L j).take 1 = [lo] by rw [HLO.out]; rfl]
                have := V.out.litm 3 1 1 [.int .i64 lo] rfl (by omega)
                simpa [nums, ints] using this)
              have HY := Lib.hid hwy
              have HGR := Lib.hid hgr
              clear hwy hgr V
              go_upto_region 18 with fail
              rw [← HY.out, ← HGR.out]
              clear HY HGR ol ol9 s1 s9
              go_wp2_with fail
              go_loopw [10, 11] (fun rv cv wr => ∃ e : Nat, cv = .int .i64 (e : Int) ∧ e ≤ k ∧ ∃ Ar cr, rv = .slice Ar (e + 1) cr ∧ Hp W (nums Ar (e + 1) cr ((rowM M k L j).take (e + 1)) :: ([rvals An nn cn vs names, nums (some ⟨gn, 0, none⟩) i i L', nums (some ⟨g2, 0, none⟩) i c2 L, flags (some ⟨gl, 0, none⟩) i c1 lv, box 25 W.heap.size [.int .i64 M.lt, .int .i64 M.st, .slice A i c, .slice B i d]] ++ rowsG vs names)) wr) (fun _ cv _ => k - (intOf cv).toNat)
              case atStart => exact ⟨0, rfl, Nat.zero_le _, _, _, rfl, V3.out⟩
              case round =>
                clear V3
                obtain ⟨e, rfl, hek, Ar, cr, rfl, hV⟩ := hrel
                obtain ⟨wm, rfl⟩ : ∃ wm : World, wm = wr := ⟨_, rfl⟩
                have V := Lib.hid hV
                clear hV
                obtain ⟨r0, _, r9⟩ := V.out.box_at (i := 5) (j := 0) rfl rfl
                rw [hlt.out] at r0
                by_cases hek2 : e < k
                · obtain ⟨b, off, b2, off2, cj, hxA, y1, y2, y3, y4, y5⟩ := (G.out.below V.out.below).at (i := j) (c := e) (by rw [HNN.out]; exact hj) hek2
                  dsimp only at hxA
                  subst hxA
                  obtain ⟨r2, _, _⟩ := V.out.box_at (i := 5) (j := 2) rfl rfl
                  obtain ⟨tv, htv⟩ : ∃ z, z = M.go j e := ⟨_, rfl⟩
                  rw [← htv] at y4
                  have HTV := Lib.hid htv
                  have htr := HR.out.go_in (q := (j : Int)) (c := e)
                  rw [← htv, HNN.out] at htr
                  clear htv
                  obtain ⟨cv, hcv⟩ : ∃ z, z = clV L (M.go j e) := ⟨_, rfl⟩
                  have HCV := Lib.hid hcv
                  clear hcv
                  obtain ⟨wy, hwy⟩ : ∃ z, z = wm.alloc (.cells #[.int .i64 cv] 3) := ⟨_, rfl⟩
                  have V3 := Lib.hid (show Hp W (box 3 wm.heap.size [.int .i64 cv] :: nums Ar (e + 1) cr ((rowM M k L j).take (e + 1)) :: ([rvals An nn cn vs names, nums (some ⟨gn, 0, none⟩) i i L', nums (some ⟨g2, 0, none⟩) i c2 L, flags (some ⟨gl, 0, none⟩) i c1 lv, box 25 W.heap.size [.int .i64 M.lt, .int .i64 M.st, .slice (some ⟨b, off, none⟩) i c, .slice B i d]] ++ rowsG vs names)) wy by rw [hwy]; exact V.out.box_new 3 [.int .i64 cv])
                  have z0 := (V3.out.box_at (i := 0) (j := 0) rfl rfl).1
                  obtain ⟨g5, cap5, w6, hr5, hv5, _⟩ := run_app_num V3.out (i := 1) rfl 26 cv z0 (by omega)
                  have H7 := Lib.hid (show Hp W (nums (some ⟨g5, 0, none⟩) (e + 1 + 1) cap5 ((rowM M k L j).take (e + 1 + 1)) :: ([rvals An nn cn vs names, nums (some ⟨gn, 0, none⟩) i i L', nums (some ⟨g2, 0, none⟩) i c2 L, flags (some ⟨gl, 0, none⟩) i c1 lv, box 25 W.heap.size [.int .i64 M.lt, .int .i64 M.st, .slice (some ⟨b, off, none⟩) i c, .slice B i d]] ++ rowsG vs names)) w6 by rw [rowM_take hek2, ← HCV.out]; exact hv5.tail)
                  have HY := Lib.hid hwy
                  have HR5 := Lib.hid hr5
                  clear hwy z0 hv5 hr5 V3
                  by_cases htn : tv < 0
                  · have hge : ¬ (0 ≤ tv) := by omega
                    obtain rfl : cv = 0 := by rw [HCV.out, ← HTV.out]; exact clV_neg htn
                    clear htr
                    go_wp2_with (at_builtin; rw [← HY.out]; refine wpList_app_run rfl (.tmp 86) (.tmp 88) 26 rfl HR5.out rfl rfl ?_)
                    go_roundw
                    case rel => exact ⟨e + 1, by go_num, by omega, _, _, rfl, H7.out⟩
                    case measure => simp [intOf]; omega
                  · obtain ⟨tn, rfl⟩ := Int.eq_ofNat_of_zero_le (show 0 ≤ tv by omega)
                    have htN : tn < i := by omega
                    obtain ⟨ot, _, ot9⟩ := V.out.num_at (i := 3) rfl (j := tn) (by rw [HLL.out]; exact htN)
                    rw [show L.getD tn 0 = cv by rw [HCV.out, ← HTV.out]; exact (clV_nat L tn).symm] at ot
                    have hge : (0 : Int) ≤ (tn : Int) := by omega
                    clear htr htn
                    go_wp2_with (at_builtin; rw [← HY.out]; refine wpList_app_run rfl (.tmp 86) (.tmp 88) 26 rfl HR5.out rfl rfl ?_)
                    go_roundw
                    case rel => exact ⟨e + 1, by go_num, by omega, _, _, rfl, H7.out⟩
                    case measure => simp [intOf]; omega
                · obtain rfl : k = e := by omega
                  have HRI := Lib.hid (rowsG_in (l := nums Ar (k + 1) cr ((rowM M k L j).take (k + 1)) :: [rvals An nn cn vs names, nums (some ⟨gn, 0, none⟩) i i L', nums (some ⟨g2, 0, none⟩) i c2 L, flags (some ⟨gl, 0, none⟩) i c1 lv, box 25 W.heap.size [.int .i64 M.lt, .int .i64 M.st, .slice A i c, .slice B i d]]) (i := 1) V.out rfl HVS.out (fun r hr => by rw [HRN.out.lens r hr]; omega))
                  have HCI := Lib.hid (V.out.cells (i := 0) (A := Ar) (c := cr) rfl rfl)
                  have V2 := Lib.hid (show Hp W (nums Ar (k + 1) cr (rowM M k L j) :: ([rvals An nn cn vs names, nums (some ⟨gn, 0, none⟩) i i L', nums (some ⟨g2, 0, none⟩) i c2 L, flags (some ⟨gl, 0, none⟩) i c1 lv, box 25 W.heap.size [.int .i64 M.lt, .int .i64 M.st, .slice A i c, .slice B i d]] ++ rowsG vs names)) wm by rw [← rowM_full M k L j]; exact V.out)
                  clear V
                  go_wp2_with fail
                  clear r0 r9
                  refine (rindex_any An nn cn names Ar (k + 1) cr (rowM M k L j) wm HNM.out (by omega) HRI.out (rowM_len M k L j) (by omega) (by have := HCI.out; change CellsIn wm Ar (ints ((rowM M k L j).take (k + 1))) at this; rw [rowM_full] at this; exact this)).mono ?_
                  rintro e w7 ⟨rfl, b7⟩
                  have V7 := Lib.hid (V2.out.go b7)
                  clear HRI HCI V2 b7
                  have hlen' : L'.length = i := HRN.out.len
                  by_cases hmem : rowM M k L j ∈ names
                  · obtain ⟨p, hp⟩ : ∃ p, p = names.idxOf (rowM M k L j) := ⟨_, rfl⟩
                    have HIX := Lib.hid (show ixR names (rowM M k L j) = (p : Int) by unfold ixR; rw [if_pos hmem, hp])
                    have H1 := Lib.hid (HRN.out.old hj HVL.out.symm (j := p) (by rw [hp]; exact idx_at hmem))
                    have hpb : p < nn := by rw [hp, ← HNM.out]; exact List.idxOf_lt_length_of_mem hmem
                    clear hp hmem
                    rw [HIX.out]
                    obtain ⟨t1, t2, t9⟩ := V7.out.num_at (i := 2) rfl (j := j) (by rw [hlen']; exact hj)
                    have V8 := (V7.out.num_set (i := 2) rfl j ((p : Int) + 1)).tail
                    go_wp2_with fail
                    go_roundw
                    case rel => exact ⟨j + 1, by go_num, by omega, An, nn, cn, vs, names, _, rfl, HNM.out, HVS.out, H1.out, V8⟩
                    case measure => simp [intOf]; omega
                  · have HIX := Lib.hid (show ixR names (rowM M k L j) = -1 by unfold ixR; rw [if_neg hmem])
                    have H1 := Lib.hid (HRN.out.new hj HVL.out.symm (fun q hq => hmem (List.mem_of_getElem? hq)))
                    clear hmem
                    rw [HIX.out]
                    obtain ⟨wy, hwy⟩ : ∃ z, z = w7.alloc (.cells #[.slice Ar (k + 1) cr] 26) := ⟨_, rfl⟩
                    have V3 := Lib.hid (show Hp W (box 26 w7.heap.size [.slice Ar (k + 1) cr] :: nums Ar (k + 1) cr (rowM M k L j) :: ([rvals An nn cn vs names, nums (some ⟨gn, 0, none⟩) i i L', nums (some ⟨g2, 0, none⟩) i c2 L, flags (some ⟨gl, 0, none⟩) i c1 lv, box 25 W.heap.size [.int .i64 M.lt, .int .i64 M.st, .slice A i c, .slice B i d]] ++ rowsG vs names)) wy by rw [hwy]; exact V7.out.box_new 26 [.slice Ar (k + 1) cr])
                    have z0 := (V3.out.box_at (i := 0) (j := 0) rfl rfl).1
                    obtain ⟨g5, cap5, w8, hr8, hv8, _⟩ := run_app_rv V3.out (i := 2) rfl HVS.out 22 Ar (k + 1) cr (rowM M k L j) (rowM_len M k L j) z0 (by omega)
                    have V8 := Lib.hid (row_doneG (l := [rvals (some ⟨g5, 0, none⟩) (nn + 1) cap5 (vs ++ [(Ar, cr)]) (names ++ [rowM M k L j]), nums (some ⟨gn, 0, none⟩) i i L', nums (some ⟨g2, 0, none⟩) i c2 L, flags (some ⟨gl, 0, none⟩) i c1 lv, box 25 W.heap.size [.int .i64 M.lt, .int .i64 M.st, .slice A i c, .slice B i d]]) (C := Ar) (d := cr) (row := rowM M k L j) HVS.out (by rw [rowM_len]; exact hv8.tail))
                    obtain ⟨t1, t2, t9⟩ := V8.out.num_at (i := 1) rfl (j := j) (by rw [hlen']; exact hj)
                    have V9 := Lib.hid (V8.out.num_set (i := 1) rfl j ((nn : Int) + 1))
                    have HY := Lib.hid hwy
                    have HR8 := Lib.hid hr8
                    have HNM2 := Lib.hid (show (names ++ [rowM M k L j]).length = nn + 1 by rw [List.length_append, HNM.out]; rfl)
                    have HVS2 := Lib.hid (show (vs ++ [(Ar, cr)]).length = (names ++ [rowM M k L j]).length by rw [List.length_append, List.length_append, HVS.out]; rfl)
                    clear hwy z0 hv8 hr8 V3
                    go_wp2_with (at_builtin; rw [← HY.out]; refine wpList_app_run rfl (.tmp 95) (.tmp 97) 22 rfl HR8.out rfl rfl ?_)
                    go_roundw
                    case rel => exact ⟨j + 1, by go_num, by omega, _, nn + 1, _, _, _, _, rfl, HNM2.out, HVS2.out, by have := H1.out; rw [HNM.out] at this; exact this, V9.out⟩
                    case measure => simp [intOf]; omega
          · obtain rfl : j = i := by omega
            have hml := HRN.out
            rw [← HNN.out] at hml
            have HCL := Lib.hid hml
            clear hml
            by_cases hen : nn = n
            · subst hen
              have HP := Lib.hid (show ClsPost M k W (.returned (.slice (some ⟨gn, 0, none⟩) j j)) wl from ⟨some ⟨gn, 0, none⟩, j, L', by rw [HNN.out], by rw [HNN.out]; exact HRN.out.len,
                HCL.out.cls HLV.out HR.out HMO.out (by rw [HNM.out]; exact HCN.out), by rw [HNN.out]; exact V.out.front.pick [1] (by decide) rfl⟩)
              clear V HCL HRN HMO HCN
              go_wp2_with fail
              go_ret
              exact HP.out
            · have HMC := Lib.hid (HCL.out.moo HLV.out HR.out HMO.out)
              have hgt : n < nn := by
                rcases HCN.out with hc | h0
                · have := (HCL.out.more HMO.out hc).1
                  have := HNM.out
                  omega
                · omega
              have hen2 : ((nn : Int) == (n : Int)) = false := beq_no (by omega)
              have V9 := Lib.hid (show Hp W [nums (some ⟨gn, 0, none⟩) j j L', flags A1 j c1 lv, box 25 W.heap.size [.int .i64 M.lt, .int .i64 M.st, .slice A j c, .slice B j d]] wl from V.out.front.pick [1, 3, 4] (by decide) rfl)
              clear V
              go_wp2_with fail
              go_roundw
              case rel => exact ⟨nn, rfl, hnb, _, _, L', rfl, HMC.out.1, .inl (by have := HMC.out.2; rw [HNM.out] at this; exact this), V9.out⟩
              case measure => simp [intOf]; omega
end Go.Proofs.Ytbfedfiemkhefaa
/- Maps whose keys are numbers: what the walk meets; rows beside such a map. Nothing here speaks of a function of the program. -/
namespace Go.Proofs.Ytbfedfiemkhefaa
open Go.RowKit Go.ChangeMaps Go.MapKept
set_option linter.unusedVariables false
set_option linter.unusedSimpArgs false
set_option maxRecDepth 100000

abbrev ikey (x : Int) : Value := .int .i64 x
theorem eq_int (a b : Int) (w : World) : (Op.equal 3 (.int .i64 a) (.int .i64 b)).run Try.prog w = .ok (decide (a = b)) w := by
  have h : (Op.equal 3 (.int .i64 a) (.int .i64 b)).run Try.prog w = .ok (a == b) w := eqIn_int 9999 a b w
  rw [h]
  by_cases e : a = b
  · rw [decide_eq_true e, beq_iff_eq.2 e]
  · rw [decide_eq_false e, beq_eq_false_iff_ne.2 e]
theorem check_ik (e : Bool) (a : Int) (w : World) : (Instr.checkKey e 10000 3 (.int .i64 a)).run Try.prog w = .ok () w := check_int e 9999 a w
theorem now_ints (p : Int) : ∀ (es : List MapEntry) (ps : List (Int × Value)) (i : Nat), es.map (fun e => (e.key, e.val)) = ps.map (fun q => (ikey q.1, q.2)) →
    Instr.findNow (TypeDesc.int IntKind.i64) (ikey p) es i = some (findP p ps i)
  | [], [], i, _ => by unfold Instr.findNow findP; rfl
  | [], _ :: _, i, h => by cases h
  | _ :: _, [], i, h => by cases h
  | e :: es, q :: ps, i, h => by
    rw [List.map_cons, List.map_cons] at h
    injection h with h1 h2
    injection h1 with h3 h4
    have ih := now_ints p es ps (i + 1) h2
    unfold Instr.findNow findP
    rw [h3, h4, ih]
    by_cases hp : p = q.1
    · simp [Instr.sameNow, hp]
    · have e : (p == q.1) = false := beq_eq_false_iff_ne.2 hp
      simp [Instr.sameNow, hp, e]
/-- The block holds a map with these entries. -/
def MapI (w : World) (b : Nat) (ps : List (Int × Value)) : Prop := ∃ (es : Array MapEntry) (clock : Nat), w.heap[b]? = some (.map es clock) ∧ es.toList.map (fun e => (e.key, e.val)) = ps.map (fun q => (ikey q.1, q.2))
theorem MapI.lt {w : World} {b : Nat} {ps : List (Int × Value)} (h : MapI w b ps) : b < w.heap.size := by
  obtain ⟨es, clock, h1, _⟩ := h
  exact (Array.getElem?_eq_some_iff.1 h1).1
theorem MapI.grown {w w' : World} {b : Nat} {ps : List (Int × Value)} {row : Option Nat} (h : MapI w b ps) (hg : w.grownBy w' row) (hr : some b ≠ row) : MapI w' b ps := by
  have hlt := h.lt
  obtain ⟨es, clock, h1, h2⟩ := h
  exact ⟨es, clock, (hg.block b hlt hr).trans h1, h2⟩
theorem find_keysI (p : Int) (w : World) {es : Array MapEntry} {ps : List (Int × Value)} (h : es.toList.map (fun e => (e.key, e.val)) = ps.map (fun q => (ikey q.1, q.2))) :
    (Instr.findKey 3 (ikey p) es.toList).run Try.prog w = .ok (findP p ps 0) w := by
  have hn := now_ints p es.toList ps 0 h
  unfold Instr.findKey
  simp [run_underlying Try.underlying3, hn]
/-- What a look-up that asks whether the key is there gives. -/
def gotT (d : Value) : Option (Nat × Value) → Value
  | some x => .tuple #[x.2, .bool true]
  | none => .tuple #[d, .bool false]
theorem look_int {T : TypeId} (hT : Try.prog.underlying T = some (.map 3 3)) (p : Int) {w : World} {b : Nat} {ps : List (Int × Value)} (h : MapI w b ps) :
    (Instr.lookup T (.map (some b)) (ikey p) true).run Try.prog w = .ok (gotT (.int .i64 0) (findP p ps 0)) w := by
  obtain ⟨es, clock, hb, he⟩ := h
  have hk := find_keysI p w he
  have hc2 : (Instr.checkKey es.isEmpty 10000 3 (ikey p)).run Try.prog w = .ok () w := check_ik es.isEmpty p w
  have hz : (zeroValue 3).run Try.prog w = .ok (.int .i64 0) w := by go_simp
  cases e : findP p ps 0 with
  | none => rw [e] at hk; simp [Instr.lookup, run_underlying hT, MapKept.run_getObj_map hb, hc2, hk, hz, Result.andThen, gotT]
  | some x => rw [e] at hk; simp [Instr.lookup, run_underlying hT, MapKept.run_getObj_map hb, hc2, hk, hz, Result.andThen, gotT]
theorem made_int (w : World) : MapI (w.alloc (.map #[] 0)) w.heap.size [] := ⟨#[], 0, by show (w.heap.push _)[w.heap.size]? = _; exact Array.getElem?_push_size, rfl⟩
theorem update_int {T e : TypeId} (hT : Try.prog.underlying T = some (.map 3 e)) (p : Int) (v : Value) {w : World} {b : Nat} {ps : List (Int × Value)} (h : MapI w b ps) (hno : findP p ps 0 = none) :
    ∃ w', (Instr.mapUpdate T (.map (some b)) (ikey p) v).run Try.prog w = .ok () w' ∧ MapI w' b (ps ++ [(p, v)]) ∧ w.grownBy w' (some b) := by
  obtain ⟨es, clock, hb, he⟩ := h
  have hk := find_keysI p w he
  rw [hno] at hk
  have hc2 : (Instr.checkKey false 10000 3 (ikey p)).run Try.prog w = .ok () w := check_ik false p w
  refine ⟨setBlock w b (.map (es.push ⟨ikey p, v, clock⟩) (clock + 1)), by simp [Instr.mapUpdate, run_underlying hT, MapKept.run_getObj_map hb, hc2, hk, MapKept.run_setObj_map _ hb, Result.andThen, setBlock], ⟨_, _, heap_setBlock_same hb _, by simp [he]⟩, ⟨rfl, rfl, rfl, by simp [setBlock], fun i _ hi => heap_setBlock_other hb _ (fun e => hi (by rw [e]))⟩⟩
/-- Rows that were made since W, and a map beside them. -/
structure HMI (W : World) (l : List Itm) (b : Nat) (ps : List (Int × Value)) (w : World) : Prop where
  hp : Hp W l w
  mp : MapI w b ps
  lo : W.heap.size ≤ b
namespace HMI
variable {W w w' : World} {l l' : List Itm} {b : Nat} {ps : List (Int × Value)} {i : Nat} {it : Itm}
theorem far (h : HMI W l b ps w) (hi : l[i]? = some it) : some b ≠ it.v.ownBlock := by
  intro e
  rcases (h.hp.own i it hi).2 with ⟨e1, _⟩ | ⟨g, cap, cur, e1, _, hg, _⟩
  · rw [e1] at e; cases e
  · rw [e1] at e
    have e2 : b = g := by simpa [Value.ownBlock] using e
    obtain ⟨es, clock, h1, _⟩ := h.mp
    rw [e2, hg] at h1
    cases h1
theorem upd (h : HMI W l b ps w) (h2 : Hp W l' w') {row : Option Nat} (hg : w.grownBy w' row) (hr : some b ≠ row) : HMI W l' b ps w' := ⟨h2, h.mp.grown hg hr, h.lo⟩
theorem go (h : HMI W l b ps w) (hb : Below w.heap.size w w') : HMI W l b ps w' := h.upd (h.hp.go hb) (grown_of hb) (by simp)
theorem below (h : HMI W l b ps w) : Below W.heap.size W w := h.hp.below
theorem with' (h : HMI W l b ps w) (h2 : Hp W l' w) : HMI W l' b ps w := ⟨h2, h.mp, h.lo⟩
theorem tail (h : HMI W (it :: l) b ps w) : HMI W l b ps w := h.with' h.hp.tail
theorem box_new (h : HMI W l b ps w) (T : TypeId) (cs : List Value) : HMI W (box T w.heap.size cs :: l) b ps (w.alloc (.cells cs.toArray T)) := h.upd (h.hp.box_new T cs) (grown_of (bnew _ _)) (by simp)
theorem made (h : Hp W l w) : HMI W l w.heap.size [] (w.alloc (.map #[] 0)) := ⟨h.go (bnew _ _), made_int w, h.below.size⟩
theorem put {T e : TypeId} (hT : Try.prog.underlying T = some (.map 3 e)) (p : Int) (v : Value) (h : HMI W l b ps w) (hno : findP p ps 0 = none) :
    ∃ w', (Instr.mapUpdate T (.map (some b)) (ikey p) v).run Try.prog w = .ok () w' ∧ HMI W l b (ps ++ [(p, v)]) w' := by
  obtain ⟨w', hr, hm, hg⟩ := update_int hT p v h.mp hno
  refine ⟨w', hr, ⟨⟨fun i it hi => (h.hp.own i it hi).kept hg ?_, h.hp.sep, h.hp.below.grown hg h.hp.below.size fun k hk => ?_⟩, hm, h.lo⟩⟩
  · have := h.far hi
    cases e : it.v.ownBlock with
    | none => exact .inl rfl
    | some k => rw [e] at this; exact .inr this.symm
  · injection hk with hk; subst hk; exact h.lo
theorem box_set {T : TypeId} {g : Nat} {cs : List Value} (h : HMI W l b ps w) (hi : l[i]? = some (box T g cs)) (j : Nat) (u : Value) : HMI W (l.set i (box T g (cs.set j u))) b ps (w.setCell ⟨g, j, none⟩ u) :=
  h.upd (row := some g) (h.hp.box_set hi j u) ⟨rfl, rfl, rfl, by simp [World.setCell], fun k hk hne => Below.heap_setCell _ _ _ _ (fun e => hne (by rw [e]))⟩ (h.far hi)
theorem app_num {A : Option Addr} {n c : Nat} {L : List Int} (h : HMI W l b ps w) (hi : l[i]? = some (nums A n c L)) (ty : TypeId) {g0 : Nat} (x : Int) (hb : w.cell? ⟨g0, 0, none⟩ = some (.int .i64 x)) (hn : n ≤ 4000000000000) :
    ∃ g cap w', (Builtin.append_ #[26, 26] ty #[.slice A n c, .slice (some ⟨g0, 0, none⟩) 1 1]).run Try.prog w = .ok (.slice (some ⟨g, 0, none⟩) (n + 1) cap) w' ∧
      HMI W (l.set i (nums (some ⟨g, 0, none⟩) (n + 1) cap (L ++ [x]))) b ps w' := by
  obtain ⟨g, cap, w', hr, hv, hg⟩ := run_app_num h.hp hi ty x hb hn
  exact ⟨g, cap, w', hr, h.upd hv hg (h.far hi)⟩
theorem app_flag {A : Option Addr} {n c : Nat} {L : List Bool} (h : HMI W l b ps w) (hi : l[i]? = some (flags A n c L)) (ty : TypeId) {g0 : Nat} (x : Bool) (hb : w.cell? ⟨g0, 0, none⟩ = some (.bool x)) (hn : n ≤ 4000000000000) :
    ∃ g cap w', (Builtin.append_ #[23, 23] ty #[.slice A n c, .slice (some ⟨g0, 0, none⟩) 1 1]).run Try.prog w = .ok (.slice (some ⟨g, 0, none⟩) (n + 1) cap) w' ∧
      HMI W (l.set i (flags (some ⟨g, 0, none⟩) (n + 1) cap (L ++ [x]))) b ps w' := by
  obtain ⟨g, cap, w', hr, hv, hg⟩ := run_app_flag h.hp hi ty x hb hn
  exact ⟨g, cap, w', hr, h.upd hv hg (h.far hi)⟩
theorem app_rv {A : Option Addr} {n c : Nat} {vs : List (Option Addr × Nat)} {rows : List (List Int)} (h : HMI W l b ps w) (hi : l[i]? = some (rvals A n c vs rows)) (hvs : vs.length = rows.length) (ty : TypeId) {g0 : Nat} (C : Option Addr) (ℓ d : Nat) (row : List Int) (hℓ : row.length = ℓ)
    (hb : w.cell? ⟨g0, 0, none⟩ = some (.slice C ℓ d)) (hn : n ≤ 4000000000000) :
    ∃ g2 cap w', (Builtin.append_ #[22, 22] ty #[.slice A n c, .slice (some ⟨g0, 0, none⟩) 1 1]).run Try.prog w = .ok (.slice (some ⟨g2, 0, none⟩) (n + 1) cap) w' ∧
      HMI W (l.set i (rvals (some ⟨g2, 0, none⟩) (n + 1) cap (vs ++ [(C, d)]) (rows ++ [row]))) b ps w' := by
  obtain ⟨g, cap, w', hr, hv, hg⟩ := run_app_rv h.hp hi hvs ty C ℓ d row hℓ hb hn
  exact ⟨g, cap, w', hr, h.upd hv hg (h.far hi)⟩
end HMI
end Go.Proofs.Ytbfedfiemkhefaa
/- Contract of the second implementation: the minimal automaton of an automaton of any size. -/
namespace Go.Proofs.Ytbfedfiemkhefaa
open Go.RowKit Go.ChangeMaps Go.MapKept
set_option linter.unusedVariables false
set_option linter.unusedSimpArgs false
set_option maxRecDepth 100000

theorem psOf_no {L : List Int} {x : Int} : ∀ {fl : List Int} (n i : Nat), (∀ (j : Nat) q, fl[j]? = some q → clV L q ≠ x) → findP x (psOf L fl n) i = none
  | [], n, i, _ => rfl
  | q :: r, n, i, h => by
    unfold psOf findP
    rw [if_neg (fun e => h 0 q rfl e.symm)]
    exact psOf_no (n + 1) (i + 1) fun j q' hj => h (j + 1) q' (by simpa using hj)
theorem psOf_yes {L : List Int} {x : Int} : ∀ {fl : List Int} {j : Nat} {q : Int} (n i : Nat), fl[j]? = some q → clV L q = x → (∀ (j' : Nat) q', j' < j → fl[j']? = some q' → clV L q' ≠ x) →
    findP x (psOf L fl n) i = some (i + j, .int .i64 ((n + j : Nat) : Int))
  | [], j, q, n, i, h, _, _ => by simp at h
  | y :: r, 0, q, n, i, h, e, _ => by
    injection h with h
    subst h
    unfold psOf findP
    rw [if_pos e.symm]; rfl
  | y :: r, j + 1, q, n, i, h, e, hn => by
    unfold psOf findP
    rw [if_neg (fun e2 => hn 0 y (by omega) rfl e2.symm)]
    rw [psOf_yes (n + 1) (i + 1) (show r[j]? = some q by simpa using h) e (fun j' q' hj hq => hn (j' + 1) q' (by omega) (by simpa using hq))]
    rw [show i + 1 + j = i + (j + 1) by omega, show n + 1 + j = n + (j + 1) by omega]
/-- An automaton that a call has made since W. -/
def OwnR (W w : World) (y : DV) (R : Au) : Prop :=
  ∃ vs : List (Option Addr × Nat), vs.length = R.nx.length ∧ (∀ r ∈ R.nx, r.length ≤ 8) ∧ y.n ≤ 2000000 ∧ y.m = y.n ∧ Hp W ([rvals y.A y.n y.c vs R.nx, flags y.B y.m y.d R.ac] ++ rowsG vs R.nx) w
theorem OwnR.dfa {W w : World} {y : DV} {R : Au} (h : OwnR W w y R) : DfaIn w y R := by
  obtain ⟨vs, hl, h8, hn, hm, hp⟩ := h
  have h0 := (hp.own 0 _ rfl).1
  have h0 : (List.zipWith (fun v (row : List Int) => Value.slice v.1 row.length v.2) vs R.nx).length = y.n * 1 := h0
  rw [List.length_zipWith] at h0
  have h1 := hp.flag_len (i := 1) rfl
  have c0 := hp.cap (i := 0) (A := y.A) (c := y.c) rfl rfl
  have c1 := hp.cap (i := 1) (A := y.B) (c := y.d) rfl rfl
  exact ⟨by omega, h1, c0.1, c1.1, by omega, by omega, rowsG_in (l := [rvals y.A y.n y.c vs R.nx, flags y.B y.m y.d R.ac]) (i := 0) hp rfl hl (fun r hr => by have := h8 r hr; omega), hp.cells (i := 1) rfl rfl⟩
theorem OwnR.n_eq {W w : World} {y : DV} {R : Au} (h : OwnR W w y R) : y.n = R.n := by
  have := h.dfa.n
  exact this.symm
/-- What the second implementation's minimal returns. -/
def RMinPost (k : Nat) (P : List Nat → Bool) (W : World) (e : Ending) (w' : World) : Prop :=
  ∃ R y, Canon k P R ∧ e = .returned (dval y R) ∧ OwnR W w' y R
theorem Hp.pickG {W w : World} {a b c d e f g : Itm} {R : List Itm} (h : Hp W ([a, b, c, d, e, f, g] ++ R) w) : Hp W ([c, d] ++ R) w :=
  h.sub (fun i => if i < 2 then i + 2 else i + 5) (fun i j e => by
    by_cases h1 : i < 2 <;> by_cases h2 : j < 2 <;> simp [h1, h2] at e <;> omega) (fun i it hi => by
    match i with
    | 0 => simpa using hi
    | 1 => simpa using hi
    | i + 2 => rw [if_neg (by omega)]; simpa using hi)
set_option maxHeartbeats 64000000 in
theorem rminimal_pre (A : Option Addr) (N c : Nat) (B : Option Addr) (d : Nat) (st : Int) (M : Au) (k : Nat) (W : World) (h : GoodL W ⟨A, N, c, B, N, d⟩ M k) (hst : st = M.st) :
    Calls Try.prog 34 #[.agg #[.int .i64 (k : Int), .int .i64 st, .slice A N c, .slice B N d]] W (RMinPost k (fun u => M.lang u) W) := by
  have G := Lib.hid h
  have HNN := Lib.hid (show M.n = N from h.dfa.n)
  have hNb : N ≤ 2000000 := by have := h.few; have := HNN.out; omega
  have hk0 := h.right.pos
  have hk8 := h.k8
  have HR := Lib.hid h.right
  have HST := Lib.hid hst
  have HLT := Lib.hid h.right.lt
  have hmk : ∀ w : World, (Instr.makeMap 87 none).run Try.prog w = .ok (.map (some w.heap.size)) (w.alloc (.map #[] 0)) := fun w => by unfold Instr.makeMap; go_simp
  have HMK := Lib.hid hmk
  clear h hst hmk
  obtain ⟨wz, hwz⟩ : ∃ z, z = ((W.alloc (.cells #[.int .i64 (k : Int), .int .i64 st, .slice A N c, .slice B N d] 25)).alloc (.cells #[.int .i64 0, .int .i64 0, .slice none 0 0, .slice none 0 0] 25)) := ⟨_, rfl⟩
  have V := Lib.hid (show Hp W [box 25 (W.heap.size + 1) [.int .i64 0, .int .i64 0, .slice none 0 0, .slice none 0 0], box 25 W.heap.size [.int .i64 (k : Int), .int .i64 st, .slice A N c, .slice B N d]] wz by
    have := (((Hp.start W).box_new 25 [.int .i64 (k : Int), .int .i64 st, .slice A N c, .slice B N d]).box_new 25 [.int .i64 0, .int .i64 0, .slice none 0 0, .slice none 0 0])
    rw [hwz]; simpa using this)
  have HZ := Lib.hid hwz
  clear hwz
  go_enter Try.func34, Try.ntmps34
  go_upto_region 1 with fail
  rw [← HZ.out]
  clear HZ
  obtain ⟨r1_0, _, r1_9⟩ := V.out.box_at (i := 1) (j := 0) rfl rfl
  obtain ⟨r1_1, _, _⟩ := V.out.box_at (i := 1) (j := 1) rfl rfl
  obtain ⟨r1_2, _, _⟩ := V.out.box_at (i := 1) (j := 2) rfl rfl
  obtain ⟨r1_3, _, _⟩ := V.out.box_at (i := 1) (j := 3) rfl rfl
  obtain ⟨w1, hw1⟩ : ∃ z, z = wz.alloc (.cells #[.int .i64 (k : Int), .int .i64 (-1), .slice none 0 0, .slice none 0 0] 25) := ⟨_, rfl⟩
  obtain ⟨g1, hg1⟩ : ∃ z, z = wz.heap.size := ⟨_, rfl⟩
  have V1 := Lib.hid (show Hp W [box 25 g1 [.int .i64 (k : Int), .int .i64 (-1), .slice none 0 0, .slice none 0 0], box 25 (W.heap.size + 1) [.int .i64 0, .int .i64 0, .slice none 0 0, .slice none 0 0], box 25 W.heap.size [.int .i64 (k : Int), .int .i64 st, .slice A N c, .slice B N d]] w1 by rw [hw1, hg1]; exact V.out.box_new 25 [.int .i64 (k : Int), .int .i64 (-1), .slice none 0 0, .slice none 0 0])
  have HW1 := Lib.hid hw1
  have HG1 := Lib.hid hg1
  clear hw1 hg1
  go_upto_region 2 with fail
  rw [← HW1.out, ← HG1.out]
  clear HW1 HG1 V r1_9 r1_0 r1_1 r1_2 r1_3
  obtain ⟨r2_0, _, r2_9⟩ := V1.out.box_at (i := 2) (j := 0) rfl rfl
  obtain ⟨r2_1, _, _⟩ := V1.out.box_at (i := 2) (j := 1) rfl rfl
  obtain ⟨r2_2, _, _⟩ := V1.out.box_at (i := 2) (j := 2) rfl rfl
  obtain ⟨r2_3, _, _⟩ := V1.out.box_at (i := 2) (j := 3) rfl rfl
  go_wp2_with fail
  refine ((show Calls Try.prog 60 #[.agg #[.int .i64 (k : Int), .int .i64 st, .slice A N c, .slice B N d]] w1 (ClsPost M k w1) by rw [← HLT.out, HST.out]; exact rclasses_any ⟨A, N, c, B, N, d⟩ M k w1 (G.out.below V1.out.below))).mono ?_
  rintro e w2 ⟨A4, c4, L, rfl, hLl, hcls, hv2⟩
  rw [HNN.out] at hLl hv2 ⊢
  have V2 := Lib.hid (show Hp W [nums A4 N c4 L, box 25 g1 [.int .i64 (k : Int), .int .i64 (-1), .slice none 0 0, .slice none 0 0], box 25 (W.heap.size + 1) [.int .i64 0, .int .i64 0, .slice none 0 0, .slice none 0 0], box 25 W.heap.size [.int .i64 (k : Int), .int .i64 st, .slice A N c, .slice B N d]] w2 from V1.out.join hv2)
  obtain ⟨cl, hcl⟩ : ∃ cl : Int → Int, cl = fun t => clV L t - 1 := ⟨_, rfl⟩
  rw [← hcl] at hcls
  have HC := Lib.hid hcls
  have HCL := Lib.hid hcl
  have HLL := Lib.hid hLl
  clear hcls hcl hLl hv2 V1 r2_9 r2_0 r2_1 r2_2 r2_3
  by_cases hs0 : st < 0
  case pos =>
    have HCAN := Lib.hid (canon_none HC.out HR.out (.inl (by rw [← HST.out]; exact hs0)))
    obtain ⟨r0, _, r90⟩ := V2.out.box_at (i := 1) (j := 0) rfl rfl
    obtain ⟨r1, _, r91⟩ := V2.out.box_at (i := 1) (j := 1) rfl rfl
    obtain ⟨r2, _, r92⟩ := V2.out.box_at (i := 1) (j := 2) rfl rfl
    obtain ⟨r3, _, r93⟩ := V2.out.box_at (i := 1) (j := 3) rfl rfl
    obtain ⟨s0, o0, s90⟩ := V2.out.box_at (i := 2) (j := 0) rfl rfl
    obtain ⟨s1, o1, s91⟩ := V2.out.box_at (i := 2) (j := 1) rfl rfl
    obtain ⟨s2, o2, s92⟩ := V2.out.box_at (i := 2) (j := 2) rfl rfl
    obtain ⟨s3, o3, s93⟩ := V2.out.box_at (i := 2) (j := 3) rfl rfl
    have VE := Lib.hid ((((V2.out.box_set (i := 2) rfl 0 (.int .i64 (k : Int))).box_set (i := 2) rfl 1 (.int .i64 (-1))).box_set (i := 2) rfl 2 (.slice none 0 0)).box_set (i := 2) rfl 3 (.slice none 0 0))
    obtain ⟨q0, _, _⟩ := VE.out.box_at (i := 2) (j := 0) rfl rfl
    obtain ⟨q1, _, _⟩ := VE.out.box_at (i := 2) (j := 1) rfl rfl
    obtain ⟨q2, _, _⟩ := VE.out.box_at (i := 2) (j := 2) rfl rfl
    obtain ⟨q3, _, _⟩ := VE.out.box_at (i := 2) (j := 3) rfl rfl
    obtain ⟨a1, _, a9⟩ := V2.out.box_at (i := 3) (j := 1) rfl rfl
    go_wp2_with fail
    refine bodyPost_ret (v := .agg #[.int .i64 (k : Int), .int .i64 (-1), .slice none 0 0, .slice none 0 0]) (by simp [results, Try.results34, go_sem, q0, q1, q2, q3]) rfl ?_
    refine ⟨⟨k, [], [], -1⟩, ⟨none, 0, 0, none, 0, 0⟩, HCAN.out, rfl, [], rfl, fun r hr => (by cases hr), Nat.zero_le _, rfl, ?_⟩
    exact ((VE.out.nil_row (flags none 0 0 []) rfl rfl rfl).nil_row (rvals none 0 0 [] []) rfl rfl rfl).pick [0, 1] (by decide) rfl
  obtain ⟨s, rfl⟩ := Int.eq_ofNat_of_zero_le (show 0 ≤ st by omega)
  have hsN : s < N := by have h1 := HR.out.st_in; rw [← HST.out, HNN.out] at h1; have h2 : ((s : Int) : Int) < N := h1.2; omega
  obtain ⟨g4, hg4⟩ := V2.out.head (i := 0) (A := A4) (c := c4) rfl rfl (show 0 < N by omega)
  subst hg4
  obtain ⟨cs, hcs⟩ : ∃ z, z = L.getD s 0 := ⟨_, rfl⟩
  have HCS := Lib.hid hcs
  obtain ⟨k1, _, k9⟩ := V2.out.num_at (i := 0) rfl (j := s) (by rw [HLL.out]; exact hsN)
  rw [← hcs] at k1
  clear hcs hs0
  have hs0 : ¬ ((s : Int) < 0) := by omega
  have clat : ∀ q : Nat, cl (q : Int) = L.getD q 0 - 1 := fun q => by rw [HCL.out]; show clV L (q : Int) - 1 = _; rw [clV_nat]
  have CLAT := Lib.hid clat
  clear clat
  by_cases hc0 : cs = 0
  case pos =>
    rw [hc0] at k1
    have HCAN := Lib.hid (canon_none HC.out HR.out (.inr (by rw [← HST.out]; show cl ((s : Nat) : Int) = -1; rw [CLAT.out, ← HCS.out, hc0]; rfl)))
    obtain ⟨r0, _, r90⟩ := V2.out.box_at (i := 1) (j := 0) rfl rfl
    obtain ⟨r1, _, r91⟩ := V2.out.box_at (i := 1) (j := 1) rfl rfl
    obtain ⟨r2, _, r92⟩ := V2.out.box_at (i := 1) (j := 2) rfl rfl
    obtain ⟨r3, _, r93⟩ := V2.out.box_at (i := 1) (j := 3) rfl rfl
    obtain ⟨s0, o0, s90⟩ := V2.out.box_at (i := 2) (j := 0) rfl rfl
    obtain ⟨s1, o1, s91⟩ := V2.out.box_at (i := 2) (j := 1) rfl rfl
    obtain ⟨s2, o2, s92⟩ := V2.out.box_at (i := 2) (j := 2) rfl rfl
    obtain ⟨s3, o3, s93⟩ := V2.out.box_at (i := 2) (j := 3) rfl rfl
    have VE := Lib.hid ((((V2.out.box_set (i := 2) rfl 0 (.int .i64 (k : Int))).box_set (i := 2) rfl 1 (.int .i64 (-1))).box_set (i := 2) rfl 2 (.slice none 0 0)).box_set (i := 2) rfl 3 (.slice none 0 0))
    obtain ⟨q0, _, _⟩ := VE.out.box_at (i := 2) (j := 0) rfl rfl
    obtain ⟨q1, _, _⟩ := VE.out.box_at (i := 2) (j := 1) rfl rfl
    obtain ⟨q2, _, _⟩ := VE.out.box_at (i := 2) (j := 2) rfl rfl
    obtain ⟨q3, _, _⟩ := VE.out.box_at (i := 2) (j := 3) rfl rfl
    obtain ⟨a1, _, a9⟩ := V2.out.box_at (i := 3) (j := 1) rfl rfl
    go_wp2_with fail
    refine bodyPost_ret (v := .agg #[.int .i64 (k : Int), .int .i64 (-1), .slice none 0 0, .slice none 0 0]) (by simp [results, Try.results34, go_sem, q0, q1, q2, q3]) rfl ?_
    refine ⟨⟨k, [], [], -1⟩, ⟨none, 0, 0, none, 0, 0⟩, HCAN.out, rfl, [], rfl, fun r hr => (by cases hr), Nat.zero_le _, rfl, ?_⟩
    exact ((VE.out.nil_row (flags none 0 0 []) rfl rfl rfl).nil_row (rvals none 0 0 [] []) rfl rfl rfl).pick [0, 1] (by decide) rfl
  have hcb : (cs == 0) = false := beq_no hc0
  obtain ⟨r0, o0, r90⟩ := V2.out.box_at (i := 1) (j := 0) rfl rfl
  obtain ⟨r1, o1, r91⟩ := V2.out.box_at (i := 1) (j := 1) rfl rfl
  obtain ⟨r2, o2, r92⟩ := V2.out.box_at (i := 1) (j := 2) rfl rfl
  obtain ⟨r3, o3, r93⟩ := V2.out.box_at (i := 1) (j := 3) rfl rfl
  obtain ⟨a1, _, a9⟩ := V2.out.box_at (i := 3) (j := 1) rfl rfl
  obtain ⟨w3, hw3⟩ : ∃ z, z = w2.setCell ⟨g1, 1, none⟩ (.int .i64 0) := ⟨_, rfl⟩
  have V3 := Lib.hid (show Hp W [nums (some ⟨g4, 0, none⟩) N c4 L, box 25 g1 [.int .i64 (k : Int), .int .i64 0, .slice none 0 0, .slice none 0 0], box 25 (W.heap.size + 1) [.int .i64 0, .int .i64 0, .slice none 0 0, .slice none 0 0], box 25 W.heap.size [.int .i64 (k : Int), .int .i64 (s : Int), .slice A N c, .slice B N d]] w3 by rw [hw3]; exact V2.out.box_set (i := 1) rfl 1 (.int .i64 0))
  have HW3 := Lib.hid hw3
  clear hw3
  go_upto_region 6 with fail
  rw [← HW3.out]
  clear HW3 V2 k1 k9 a1 a9 r0 r1 r2 r3 o0 o1 o2 o3 r90 r91 r92 r93
  obtain ⟨a1, _, a9⟩ := V3.out.box_at (i := 3) (j := 1) rfl rfl
  obtain ⟨w4, hw4⟩ : ∃ z, z = w3.alloc (.cells #[.int .i64 (s : Int)] 3) := ⟨_, rfl⟩
  obtain ⟨gf, hgf⟩ : ∃ z, z = w3.heap.size := ⟨_, rfl⟩
  have V4 := Lib.hid (show Hp W [nums (some ⟨gf, 0, none⟩) 1 1 [(s : Int)], nums (some ⟨g4, 0, none⟩) N c4 L, box 25 g1 [.int .i64 (k : Int), .int .i64 0, .slice none 0 0, .slice none 0 0], box 25 (W.heap.size + 1) [.int .i64 0, .int .i64 0, .slice none 0 0, .slice none 0 0], box 25 W.heap.size [.int .i64 (k : Int), .int .i64 (s : Int), .slice A N c, .slice B N d]] w4 by
    rw [hw4, hgf]
    have := V3.out.litm 3 1 1 [.int .i64 (s : Int)] rfl (by omega)
    simpa [nums, ints] using this)
  have HW4 := Lib.hid hw4
  have HGF := Lib.hid hgf
  clear hw4 hgf
  go_upto_region 7 with fail
  rw [← HW4.out, ← HGF.out]
  clear HW4 HGF V3 a1 a9
  have VM := Lib.hid (HMI.made V4.out)
  obtain ⟨a1, _, a9⟩ := VM.out.hp.box_at (i := 4) (j := 1) rfl rfl
  obtain ⟨k1, _, k9⟩ := VM.out.hp.num_at (i := 1) rfl (j := s) (by rw [HLL.out]; exact hsN)
  rw [← HCS.out] at k1
  obtain ⟨w5, hr5, hm5⟩ := HMI.put (T := 87) Try.underlying87 cs (.int .i64 0) VM.out rfl
  have V5 := Lib.hid hm5
  have hmk := HMK.out w4
  obtain ⟨bm, hbm⟩ : ∃ z, z = w4.heap.size := ⟨_, rfl⟩
  have HBM := Lib.hid hbm
  rw [← hbm] at V5
  go_upto_region 8 with fail
  rw [← HBM.out]
  clear VM V4 a1 a9 k1 k9 hr5 hm5 hmk hbm HBM
  go_wp2_with fail
  have H0 := Lib.hid (show MSt M k cl (s : Int) [(s : Int)] [0] [] [] 0 (0 * k) by
    rw [Nat.zero_mul]
    exact MSt.start ⟨by omega, by rw [HNN.out]; omega⟩ (by rw [CLAT.out, ← HCS.out]; omega))
  have V6 := Lib.hid (show HMI W ([nums (some ⟨gf, 0, none⟩) 1 1 [(s : Int)], box 25 g1 [.int .i64 (k : Int), .int .i64 0, .slice none 0 0, .slice none 0 0], rvals none 0 0 [] [], flags none 0 0 [], nums (some ⟨g4, 0, none⟩) N c4 L, box 25 (W.heap.size + 1) [.int .i64 0, .int .i64 0, .slice none 0 0, .slice none 0 0], box 25 W.heap.size [.int .i64 (k : Int), .int .i64 (s : Int), .slice A N c, .slice B N d]] ++ rowsG [] []) bm (psOf L [(s : Int)] 0) w5 by
    have e : psOf L [(s : Int)] 0 = [] ++ [(cs, .int .i64 0)] := by show [(clV L (s : Int), _)] = _; rw [clV_nat, ← HCS.out]; rfl
    rw [e]
    refine V5.out.with' ?_
    exact ((V5.out.hp.nil_row (flags none 0 0 []) rfl rfl rfl).nil_row (rvals none 0 0 [] []) rfl rfl rfl).pick [2, 4, 0, 1, 3, 5, 6] (by decide) rfl)
  clear V5
  go_loopw [5, 7] (fun fv iv wr => ∃ i : Nat, iv = .int .i64 (i : Int) ∧ ∃ (fl : List Int) (pa : List Nat) (RW : List (List Int)) (acs : List Bool) (Af : Option Addr) (nf cf : Nat) (An : Option Addr) (cn : Nat) (Bn : Option Addr) (dn : Nat) (vs : List (Option Addr × Nat)), fv = .slice Af nf cf ∧ fl.length = nf ∧ i ≤ nf ∧ vs.length = RW.length ∧ MSt M k cl (s : Int) fl pa RW acs i (i * k) ∧ HMI W ([nums Af nf cf fl, box 25 g1 [.int .i64 (k : Int), .int .i64 0, .slice An i cn, .slice Bn i dn], rvals An i cn vs RW, flags Bn i dn acs, nums (some ⟨g4, 0, none⟩) N c4 L, box 25 (W.heap.size + 1) [.int .i64 0, .int .i64 0, .slice none 0 0, .slice none 0 0], box 25 W.heap.size [.int .i64 (k : Int), .int .i64 (s : Int), .slice A N c, .slice B N d]] ++ rowsG vs RW) bm (psOf L fl 0) wr) (fun _ iv _ => N + 1 - (intOf iv).toNat)
  case atStart => exact ⟨0, rfl, [(s : Int)], [0], [], [], some ⟨gf, 0, none⟩, 1, 1, none, 0, none, 0, [], rfl, rfl, Nat.zero_le _, rfl, H0.out, V6.out⟩
  case round =>
    clear H0 V6
    obtain ⟨i, rfl, fl, pa, RW, acs, Af, nf, cf, An, cn, Bn, dn, vs, rfl, hfl, hin, hvs, hms, hV⟩ := hrel
    obtain ⟨wi, rfl⟩ : ∃ wi : World, wi = wr := ⟨_, rfl⟩
    have V := Lib.hid hV
    have HMS := Lib.hid hms
    have HVS := Lib.hid hvs
    have HFL := Lib.hid hfl
    have hnf : nf ≤ N := by have := hms.few; rw [HNN.out] at this; omega
    clear hV hms hvs hfl
    by_cases hlt : i < nf
    · obtain ⟨q, hq⟩ : ∃ q, fl[i]? = some q := ⟨_, List.getElem?_eq_getElem (by have := HFL.out; omega)⟩
      have hq2 := HMS.out.fin q (List.mem_of_getElem? hq)
      obtain ⟨qn, rfl⟩ := Int.eq_ofNat_of_zero_le hq2.1
      have hqN : qn < N := by have h1 := hq2.2; rw [HNN.out] at h1; have h2 : ((qn : Int) : Int) < N := h1; omega
      have HQ := Lib.hid hq
      clear hq hq2
      go_wp2_with fail
      have V1 := Lib.hid (show HMI W ([nums none 0 0 [], nums Af nf cf fl, box 25 g1 [.int .i64 (k : Int), .int .i64 0, .slice An i cn, .slice Bn i dn], rvals An i cn vs RW, flags Bn i dn acs, nums (some ⟨g4, 0, none⟩) N c4 L, box 25 (W.heap.size + 1) [.int .i64 0, .int .i64 0, .slice none 0 0, .slice none 0 0], box 25 W.heap.size [.int .i64 (k : Int), .int .i64 (s : Int), .slice A N c, .slice B N d]] ++ rowsG vs RW) bm (psOf L fl 0) wi from V.out.with' (V.out.hp.nil_row (nums none 0 0 []) rfl rfl rfl))
      clear V
      go_loopw [5, 8, 9] (fun fv rv cv wr => ∃ e : Nat, cv = .int .i64 (e : Int) ∧ e ≤ k ∧ ∃ (fl : List Int) (pa : List Nat) (Af : Option Addr) (nf cf : Nat) (row : List Int) (Ar : Option Addr) (cr : Nat), fv = .slice Af nf cf ∧ rv = .slice Ar e cr ∧ fl.length = nf ∧ i < nf ∧ MSt M k cl (s : Int) fl pa RW acs i (i * k + e) ∧ fl[i]? = some (qn : Int) ∧ RowTo cl M (fl.map cl) (qn : Int) e row ∧ HMI W ([nums Ar e cr row, nums Af nf cf fl, box 25 g1 [.int .i64 (k : Int), .int .i64 0, .slice An i cn, .slice Bn i dn], rvals An i cn vs RW, flags Bn i dn acs, nums (some ⟨g4, 0, none⟩) N c4 L, box 25 (W.heap.size + 1) [.int .i64 0, .int .i64 0, .slice none 0 0, .slice none 0 0], box 25 W.heap.size [.int .i64 (k : Int), .int .i64 (s : Int), .slice A N c, .slice B N d]] ++ rowsG vs RW) bm (psOf L fl 0) wr) (fun _ _ cv _ => k - (intOf cv).toNat)
      case atStart => exact ⟨0, rfl, Nat.zero_le _, fl, pa, Af, nf, cf, [], none, 0, rfl, rfl, HFL.out, hlt, HMS.out, HQ.out, RowTo.start, V1.out⟩
      case round =>
        clear V1 HMS HFL HQ hlt hin hnf
        obtain ⟨e, rfl, hek, fl, pa, Af, nf, cf, row, Ar, cr, rfl, rfl, hfl, hin, hms, hq, hrow, hV⟩ := hrel
        obtain ⟨wj, rfl⟩ : ∃ wj : World, wj = wr := ⟨_, rfl⟩
        have V := Lib.hid hV
        have HMS := Lib.hid hms
        have HFL := Lib.hid hfl
        have HQ := Lib.hid hq
        have HRW := Lib.hid hrow
        have hnf : nf ≤ N := by have := hms.few; rw [HNN.out] at this; omega
        clear hV hms hfl hq hrow
        obtain ⟨r0, _, r9⟩ := V.out.hp.box_at (i := 7) (j := 0) rfl rfl
        by_cases hek2 : e < k
        · obtain ⟨gf, hgf⟩ := V.out.hp.head (i := 1) (A := Af) (c := cf) rfl rfl (show 0 < nf by omega)
          subst hgf
          have hqg : fl.getD i 0 = (qn : Int) := by rw [List.getD_eq_getElem?_getD, HQ.out]; rfl
          obtain ⟨f1, _, f9⟩ := V.out.hp.num_at (i := 1) rfl (j := i) (by rw [HFL.out]; exact hin)
          rw [hqg] at f1
          obtain ⟨b, off, b2, off2, cj, hxA, y1, y2, y3, y4, y5⟩ := (G.out.below V.out.below).at (i := qn) (c := e) (by rw [HNN.out]; exact hqN) hek2
          dsimp only at hxA
          subst hxA
          obtain ⟨r2, _, _⟩ := V.out.hp.box_at (i := 7) (j := 2) rfl rfl
          obtain ⟨tv, htv⟩ : ∃ z, z = M.go qn e := ⟨_, rfl⟩
          rw [← htv] at y4
          have HTV := Lib.hid htv
          have htr := HR.out.go_in (q := (qn : Int)) (c := e)
          rw [← htv, HNN.out] at htr
          have HTR := Lib.hid htr
          clear htv hqg htr
          go_upto_region 15 with fail
          have hKp : Keep [(⟨W.heap.size, 2, none⟩, .slice (some ⟨b, off, none⟩) N c), (⟨gf, i, none⟩, .int .i64 (qn : Int)), (⟨b, off + qn, none⟩, .slice (some ⟨b2, off2, none⟩) k cj), (⟨b2, off2 + e, none⟩, .int .i64 tv)] wj := List.forall_mem_cons.2 ⟨⟨r2, r9⟩, List.forall_mem_cons.2 ⟨⟨f1, f9⟩, List.forall_mem_cons.2 ⟨⟨y1, y3⟩, List.forall_mem_cons.2 ⟨⟨y4, y5⟩, fun _ h => by simp at h⟩⟩⟩⟩
          refine wp_region_held_drew (S := Keep _) (by kernel_rfl) hKp.drew (fun hHeld => ?_)
          have Vd := Lib.hid (V.out.go (bdrew _))
          refine tk 0 ?_ rfl ?_ ?_; rotate_left; focus (intro w hSw; clear hSw; go_simp; try (with_reducible rfl))
          try simp only [Act.put, sA, sZ, sS]
          refine tk 1 ?_ rfl ?_ ?_; rotate_left
          · intro wl hSw
            have hSw : Keep _ wl := hSw
            have k0 : wl.cell? ⟨W.heap.size, 2, none⟩ = some (.slice (some ⟨b, off, none⟩) N c) := (hSw _ (.head _)).1
            clear hSw
            go_simp
            try (with_reducible rfl)
          try simp only [Act.put, sA, sZ, sS]
          refine tk 2 ?_ rfl ?_ ?_; rotate_left; focus (intro w hSw; clear hSw; go_simp; try (with_reducible rfl))
          try simp only [Act.put, sA, sZ, sS]
          refine tk 3 ?_ rfl ?_ ?_; rotate_left; focus (intro w hSw; clear hSw; go_simp; try (with_reducible rfl))
          try simp only [Act.put, sA, sZ, sS]
          refine tk 4 ?_ rfl ?_ ?_; rotate_left; focus (intro w hSw; clear hSw; go_simp; try (with_reducible rfl))
          try simp only [Act.put, sA, sZ, sS]
          refine tk 5 ?_ rfl ?_ ?_; rotate_left
          · intro wl hSw
            have hSw : Keep _ wl := hSw
            have k0 : wl.cell? ⟨gf, i, none⟩ = some (.int .i64 (qn : Int)) := (hSw _ (.tail _ (.head _))).1
            clear hSw
            go_simp
            try (with_reducible rfl)
          try simp only [Act.put, sA, sZ, sS]
          refine tk 6 ?_ rfl ?_ ?_; rotate_left; focus (intro w hSw; clear hSw; go_simp; try (with_reducible rfl))
          try simp only [Act.put, sA, sZ, sS]
          refine tk 7 ?_ rfl ?_ ?_; rotate_left
          · intro wl hSw
            have hSw : Keep _ wl := hSw
            have k0 : wl.cell? ⟨b, off + qn, none⟩ = some (.slice (some ⟨b2, off2, none⟩) k cj) := (hSw _ (.tail _ (.tail _ (.head _)))).1
            clear hSw
            go_simp
            try (with_reducible rfl)
          try simp only [Act.put, sA, sZ, sS]
          refine tk 8 ?_ rfl ?_ ?_; rotate_left; focus (intro w hSw; clear hSw; go_simp; try (with_reducible rfl))
          try simp only [Act.put, sA, sZ, sS]
          refine tk 9 ?_ rfl ?_ ?_; rotate_left; focus (intro w hSw; clear hSw; go_simp; try (with_reducible rfl))
          try simp only [Act.put, sA, sZ, sS]
          refine tk 10 ?_ rfl ?_ ?_; rotate_left
          · intro wl hSw
            have hSw : Keep _ wl := hSw
            have k0 : wl.cell? ⟨b2, off2 + e, none⟩ = some (.int .i64 tv) := (hSw _ (.tail _ (.tail _ (.tail _ (.head _))))).1
            clear hSw
            go_simp
            try (with_reducible rfl)
          try simp only [Act.put, sA, sZ, sS]
          refine tk 11 ?_ rfl ?_ ?_; rotate_left; focus (intro w hSw; clear hSw; go_simp; try (with_reducible rfl))
          try simp only [Act.put, sA, sZ, sS]
          refine wpAnyH_done (by kernel_rfl) ?_ _
          clear hHeld hKp
          obtain ⟨wd, hwd⟩ : ∃ z, z = wj.drew := ⟨_, rfl⟩
          have VD := Lib.hid (show HMI W ([nums Ar e cr row, nums (some ⟨gf, 0, none⟩) nf cf fl, box 25 g1 [.int .i64 (k : Int), .int .i64 0, .slice An i cn, .slice Bn i dn], rvals An i cn vs RW, flags Bn i dn acs, nums (some ⟨g4, 0, none⟩) N c4 L, box 25 (W.heap.size + 1) [.int .i64 0, .int .i64 0, .slice none 0 0, .slice none 0 0], box 25 W.heap.size [.int .i64 (k : Int), .int .i64 (s : Int), .slice (some ⟨b, off, none⟩) N c, .slice B N d]] ++ rowsG vs RW) bm (psOf L fl 0) wd by rw [hwd]; exact Vd.out)
          rw [← hwd]
          clear hwd V Vd r0 r9 f1 f9 r2 y1 y2 y3 y4 y5
          by_cases htn : tv < 0
          · have HNO := Lib.hid (show cl (M.go qn e) = -1 by rw [← HTV.out, HCL.out]; show clV L tv - 1 = -1; rw [clV_neg htn]; rfl)
            have HMS2 := Lib.hid (HMS.out.seen HC.out (j := i) (c := e) rfl hek2 HQ.out (.inl HNO.out))
            have HRW2 := Lib.hid (HRW.out.snoc (v := -1) (.inl ⟨HNO.out, rfl⟩))
            obtain ⟨wy, hwy⟩ : ∃ z, z = wd.alloc (.cells #[.int .i64 (-1)] 3) := ⟨_, rfl⟩
            have V3 := Lib.hid (show HMI W (box 3 wd.heap.size [.int .i64 (-1)] :: _) bm _ wy by rw [hwy]; exact VD.out.box_new 3 [.int .i64 (-1)])
            have z0 := (V3.out.hp.box_at (i := 0) (j := 0) rfl rfl).1
            obtain ⟨g7, cap7, w7, hr7, hv7⟩ := V3.out.app_num (i := 1) rfl 26 (-1) z0 (by omega)
            have V7 := Lib.hid hv7.tail
            have HY := Lib.hid hwy
            have HR7 := Lib.hid hr7
            clear hwy z0 hv7 hr7 V3
            go_wp2_with (at_builtin; rw [← HY.out]; refine wpList_app_run rfl (.tmp 73) (.tmp 74) 26 rfl HR7.out rfl rfl ?_)
            go_roundw
            case rel => exact ⟨e + 1, by go_num, by omega, fl, pa, _, nf, cf, _, _, _, rfl, rfl, HFL.out, hin, HMS2.out, HQ.out, HRW2.out, V7.out⟩
            case measure => simp [intOf]; omega
          · obtain ⟨tn, rfl⟩ := Int.eq_ofNat_of_zero_le (show 0 ≤ tv by omega)
            have htN : tn < N := by have h1 := HTR.out.2; have h2 : ((tn : Int) : Int) < N := h1; omega
            have htn2 : ¬ ((tn : Int) < 0) := by omega
            obtain ⟨ct, hct⟩ : ∃ z, z = L.getD tn 0 := ⟨_, rfl⟩
            obtain ⟨k1, _, k9⟩ := VD.out.hp.num_at (i := 5) rfl (j := tn) (by rw [HLL.out]; exact htN)
            rw [← hct] at k1
            have HCT := Lib.hid hct
            have HCG := Lib.hid (show cl (M.go qn e) = ct - 1 by rw [← HTV.out]; show cl (tn : Int) = _; rw [CLAT.out, ← hct])
            clear hct htn
            by_cases hct0 : ct = 0
            · rw [hct0] at k1
              have HNO := Lib.hid (show cl (M.go qn e) = -1 by rw [HCG.out, hct0]; rfl)
              have HMS2 := Lib.hid (HMS.out.seen HC.out (j := i) (c := e) rfl hek2 HQ.out (.inl HNO.out))
              have HRW2 := Lib.hid (HRW.out.snoc (v := -1) (.inl ⟨HNO.out, rfl⟩))
              obtain ⟨wy, hwy⟩ : ∃ z, z = wd.alloc (.cells #[.int .i64 (-1)] 3) := ⟨_, rfl⟩
              have V3 := Lib.hid (show HMI W (box 3 wd.heap.size [.int .i64 (-1)] :: _) bm _ wy by rw [hwy]; exact VD.out.box_new 3 [.int .i64 (-1)])
              have z0 := (V3.out.hp.box_at (i := 0) (j := 0) rfl rfl).1
              obtain ⟨g7, cap7, w7, hr7, hv7⟩ := V3.out.app_num (i := 1) rfl 26 (-1) z0 (by omega)
              have V7 := Lib.hid hv7.tail
              have HY := Lib.hid hwy
              have HR7 := Lib.hid hr7
              clear hwy z0 hv7 hr7 V3
              go_wp2_with (at_builtin; rw [← HY.out]; refine wpList_app_run rfl (.tmp 73) (.tmp 74) 26 rfl HR7.out rfl rfl ?_)
              go_roundw
              case rel => exact ⟨e + 1, by go_num, by omega, fl, pa, _, nf, cf, _, _, _, rfl, rfl, HFL.out, hin, HMS2.out, HQ.out, HRW2.out, V7.out⟩
              case measure => simp [intOf]; omega
            · have hctb : (ct == 0) = false := beq_no hct0
              have hlk := look_int (T := 87) Try.underlying87 ct VD.out.mp
              by_cases hin2 : ∃ j : Nat, (fl.map cl)[j]? = some (ct - 1)
              · obtain ⟨j, hj⟩ := hin2
                have hjn : j < nf := by have := (List.getElem?_eq_some_iff.1 hj).1; rw [List.length_map, HFL.out] at this; exact this
                have e1 : ∀ (j' : Nat) q', fl[j']? = some q' → (fl.map cl)[j']? = some (clV L q' - 1) := fun j' q' h => by rw [List.getElem?_map, h, HCL.out]; rfl
                obtain ⟨qj, hqj⟩ : ∃ q', fl[j]? = some q' := ⟨_, List.getElem?_eq_getElem (by have := HFL.out; omega)⟩
                have e2 : clV L qj = ct := by have := e1 j qj hqj; rw [hj] at this; injection this with this; omega
                rw [psOf_yes 0 0 hqj e2 (fun j' q' hlt h e3 => by
                  have := HMS.out.bfs.nd j' j (ct - 1) (by rw [e1 j' q' h, e3]) hj
                  omega), Nat.zero_add] at hlk
                change _ = Result.ok (Value.tuple #[.int .i64 (j : Int), .bool true]) wd at hlk
                have HMS2 := Lib.hid (HMS.out.seen HC.out (j := i) (c := e) rfl hek2 HQ.out (.inr ⟨j, by rw [HCG.out]; exact hj⟩))
                have HRW2 := Lib.hid (HRW.out.snoc (v := (j : Int)) (.inr ⟨j, rfl, by rw [HCG.out]; exact hj⟩))
                clear e1 hqj e2 hj
                obtain ⟨wy, hwy⟩ : ∃ z, z = wd.alloc (.cells #[.int .i64 (j : Int)] 3) := ⟨_, rfl⟩
                have V3 := Lib.hid (show HMI W (box 3 wd.heap.size [.int .i64 (j : Int)] :: _) bm _ wy by rw [hwy]; exact VD.out.box_new 3 [.int .i64 (j : Int)])
                have z0 := (V3.out.hp.box_at (i := 0) (j := 0) rfl rfl).1
                obtain ⟨g7, cap7, w7, hr7, hv7⟩ := V3.out.app_num (i := 1) rfl 26 (j : Int) z0 (by omega)
                have V7 := Lib.hid hv7.tail
                have HY := Lib.hid hwy
                have HR7 := Lib.hid hr7
                clear hwy z0 hv7 hr7 V3
                go_wp2_with (at_builtin; rw [← HY.out]; refine wpList_app_run rfl (.tmp 99) (.tmp 101) 26 rfl HR7.out rfl rfl ?_)
                go_roundw
                case rel => exact ⟨e + 1, by go_num, by omega, fl, pa, _, nf, cf, _, _, _, rfl, rfl, HFL.out, hin, HMS2.out, HQ.out, HRW2.out, V7.out⟩
                case measure => simp [intOf]; omega
              · have hno : ∀ (j : Nat) q', fl[j]? = some q' → clV L q' ≠ ct := fun j q' h e3 => hin2 ⟨j, by rw [List.getElem?_map, h, HCL.out]; show some (clV L q' - 1) = _; rw [e3]⟩
                have hnf2 := psOf_no (L := L) 0 0 hno
                rw [hnf2] at hlk
                change _ = Result.ok (Value.tuple #[.int .i64 0, .bool false]) wd at hlk
                have HMS1 := Lib.hid (HMS.out.new HC.out (j := i) (c := e) rfl hek2 HQ.out (by rw [HCG.out]; omega) (by rw [← HTV.out, HNN.out]; omega) (fun i' h => hin2 ⟨i', by rw [← HCG.out]; exact h⟩))
                have HMS2 := Lib.hid (show MSt M k cl (s : Int) (fl ++ [(tn : Int)]) (pa ++ [i * k + e]) RW acs i (i * k + e + 1) by have := HMS1.out; rw [← HTV.out] at this; exact this)
                have HRW2 := Lib.hid (show RowTo cl M ((fl ++ [(tn : Int)]).map cl) (qn : Int) (e + 1) (row ++ [(nf : Int)]) by
                  have e4 : (fl ++ [(tn : Int)]).map cl = fl.map cl ++ [cl (M.go qn e)] := by rw [List.map_append, ← HTV.out]; rfl
                  rw [e4]
                  refine (HRW.out.more _).snoc (.inr ⟨nf, rfl, ?_⟩)
                  have := get_last (l := fl.map cl) (x := cl (M.go qn e))
                  rw [List.length_map, HFL.out] at this
                  exact this)
                have HQ2 := Lib.hid (show (fl ++ [(tn : Int)])[i]? = some (qn : Int) from get_left HQ.out)
                have HFL2 := Lib.hid (show (fl ++ [(tn : Int)]).length = nf + 1 by rw [List.length_append, HFL.out]; rfl)
                obtain ⟨w8, hr8, hm8⟩ := VD.out.put (T := 87) Try.underlying87 ct (.int .i64 (nf : Int)) hnf2
                have V8 := Lib.hid (show HMI W _ bm (psOf L (fl ++ [(tn : Int)]) 0) w8 by
                  rw [psOf_snoc, Nat.zero_add, HFL.out, clV_nat, ← HCT.out]; exact hm8)
                clear hno hnf2 HMS1 hm8 hin2
                go_upto_region 22 with fail
                clear hlk hr8 k1 k9 VD
                obtain ⟨wx, hwx⟩ : ∃ z, z = w8.alloc (.cells #[.int .i64 (tn : Int)] 3) := ⟨_, rfl⟩
                have V9 := Lib.hid (show HMI W (box 3 w8.heap.size [.int .i64 (tn : Int)] :: _) bm _ wx by rw [hwx]; exact V8.out.box_new 3 [.int .i64 (tn : Int)])
                have z9 := (V9.out.hp.box_at (i := 0) (j := 0) rfl rfl).1
                obtain ⟨g9, cap9, w9, hr9, hv9⟩ := V9.out.app_num (i := 2) rfl 26 (tn : Int) z9 (by omega)
                have VX := Lib.hid hv9.tail
                have HYX := Lib.hid hwx
                have HR9 := Lib.hid hr9
                clear hwx z9 hv9 hr9 V9 V8
                go_upto_region 23 with (at_builtin; rw [← HYX.out]; refine wpList_app_run rfl (.tmp 95) (.tmp 97) 26 rfl HR9.out rfl rfl ?_)
                clear HYX HR9
                obtain ⟨wy, hwy⟩ : ∃ z, z = w9.alloc (.cells #[.int .i64 (nf : Int)] 3) := ⟨_, rfl⟩
                have V3 := Lib.hid (show HMI W (box 3 w9.heap.size [.int .i64 (nf : Int)] :: _) bm _ wy by rw [hwy]; exact VX.out.box_new 3 [.int .i64 (nf : Int)])
                have z0 := (V3.out.hp.box_at (i := 0) (j := 0) rfl rfl).1
                obtain ⟨g7, cap7, w7, hr7, hv7⟩ := V3.out.app_num (i := 1) rfl 26 (nf : Int) z0 (by omega)
                have V7 := Lib.hid hv7.tail
                have HY := Lib.hid hwy
                have HR7 := Lib.hid hr7
                clear hwy z0 hv7 hr7 V3
                go_wp2_with (at_builtin; rw [← HY.out]; refine wpList_app_run rfl (.tmp 99) (.tmp 101) 26 rfl HR7.out rfl rfl ?_)
                go_roundw
                case rel => exact ⟨e + 1, by go_num, by omega, _, _, _, nf + 1, _, _, _, _, rfl, rfl, HFL2.out, by omega, HMS2.out, HQ2.out, HRW2.out, V7.out⟩
                case measure => simp [intOf]; omega
        · obtain rfl : k = e := by omega
          have HMS2 := Lib.hid (HMS.out.close HQ.out HRW.out)
          have HRL := Lib.hid (show row.length = k from HRW.out.1)
          have hRWl : RW.length = i := HMS.out.rl
          have hvl : vs.length = i := by rw [HVS.out]; exact hRWl
          obtain ⟨wy, hwy⟩ : ∃ z, z = wj.alloc (.cells #[.slice Ar k cr] 26) := ⟨_, rfl⟩
          have V3 := Lib.hid (show HMI W (box 26 wj.heap.size [.slice Ar k cr] :: _) bm _ wy by rw [hwy]; exact V.out.box_new 26 [.slice Ar k cr])
          have z0 := (V3.out.hp.box_at (i := 0) (j := 0) rfl rfl).1
          obtain ⟨g5, cap5, w8, hr8, hv8⟩ := V3.out.app_rv (i := 4) rfl HVS.out 22 Ar k cr row HRL.out z0 (by omega)
          have V8 := Lib.hid hv8.tail
          obtain ⟨t2, u2, t9⟩ := V8.out.hp.box_at (i := 2) (j := 2) rfl rfl
          obtain ⟨s2, _, s9⟩ := V.out.hp.box_at (i := 2) (j := 2) rfl rfl
          have V9 := Lib.hid (V8.out.box_set (i := 2) rfl 2 (.slice (some ⟨g5, 0, none⟩) (i + 1) cap5))
          obtain ⟨wv, hwv⟩ : ∃ z, z = w8.setCell ⟨g1, 2, none⟩ (.slice (some ⟨g5, 0, none⟩) (i + 1) cap5) := ⟨_, rfl⟩
          have V10 := Lib.hid (show HMI W ([nums Af nf cf fl, box 25 g1 [.int .i64 (k : Int), .int .i64 0, .slice (some ⟨g5, 0, none⟩) (i + 1) cap5, .slice Bn i dn], rvals (some ⟨g5, 0, none⟩) (i + 1) cap5 (vs ++ [(Ar, cr)]) (RW ++ [row]), flags Bn i dn acs, nums (some ⟨g4, 0, none⟩) N c4 L, box 25 (W.heap.size + 1) [.int .i64 0, .int .i64 0, .slice none 0 0, .slice none 0 0], box 25 W.heap.size [.int .i64 (k : Int), .int .i64 (s : Int), .slice A N c, .slice B N d]] ++ rowsG (vs ++ [(Ar, cr)]) (RW ++ [row])) bm (psOf L fl 0) wv by
            rw [hwv]
            refine V9.out.with' ?_
            exact row_doneG (l := [nums Af nf cf fl, box 25 g1 [.int .i64 (k : Int), .int .i64 0, .slice (some ⟨g5, 0, none⟩) (i + 1) cap5, .slice Bn i dn], rvals (some ⟨g5, 0, none⟩) (i + 1) cap5 (vs ++ [(Ar, cr)]) (RW ++ [row]), flags Bn i dn acs, nums (some ⟨g4, 0, none⟩) N c4 L, box 25 (W.heap.size + 1) [.int .i64 0, .int .i64 0, .slice none 0 0, .slice none 0 0], box 25 W.heap.size [.int .i64 (k : Int), .int .i64 (s : Int), .slice A N c, .slice B N d]]) (C := Ar) (d := cr) (row := row) HVS.out (by rw [HRL.out]; exact V9.out.hp))
          have HY := Lib.hid hwy
          have HR8 := Lib.hid hr8
          have HWV := Lib.hid hwv
          have HVS2 := Lib.hid (show (vs ++ [(Ar, cr)]).length = (RW ++ [row]).length by rw [List.length_append, List.length_append, HVS.out]; rfl)
          clear hwy z0 hv8 hr8 V3 V8 V9 hwv
          go_upto_region 25 with (at_builtin; rw [← HY.out]; refine wpList_app_run rfl (.tmp 104) (.tmp 106) 22 rfl HR8.out rfl rfl ?_)
          rw [← HWV.out]
          clear HY HR8 HWV t2 u2 t9 s2 s9 r0 r9 V
          obtain ⟨gf, hgf⟩ := V10.out.hp.head (i := 0) (A := Af) (c := cf) rfl rfl (show 0 < nf by omega)
          subst hgf
          have hqg : fl.getD i 0 = (qn : Int) := by rw [List.getD_eq_getElem?_getD, HQ.out]; rfl
          obtain ⟨f1, _, f9⟩ := V10.out.hp.num_at (i := 0) rfl (j := i) (by rw [HFL.out]; exact hin)
          rw [hqg] at f1
          obtain ⟨b, off, hBe, hb0, hcell⟩ := (G.out.below V10.out.below).acc (i := qn) (by rw [HNN.out]; exact hqN)
          dsimp only at hBe
          subst hBe
          obtain ⟨va, hva⟩ : ∃ o, o = M.ac.getD qn false := ⟨_, rfl⟩
          rw [← hva] at hcell
          have HVA := Lib.hid (show M.acc (qn : Int) = va by rw [acc_nat, hva])
          obtain ⟨r3, _, r9⟩ := V10.out.hp.box_at (i := 6) (j := 3) rfl rfl
          obtain ⟨t3, _, t9⟩ := V10.out.hp.box_at (i := 1) (j := 3) rfl rfl
          clear hva hqg
          have hKp : Keep [(⟨W.heap.size, 3, none⟩, .slice (some ⟨b, off, none⟩) N d), (⟨gf, i, none⟩, .int .i64 (qn : Int)), (⟨b, off + qn, none⟩, .bool va)] wv := List.forall_mem_cons.2 ⟨⟨r3, r9⟩, List.forall_mem_cons.2 ⟨⟨f1, f9⟩, List.forall_mem_cons.2 ⟨⟨hcell, hb0⟩, fun _ h => by simp at h⟩⟩⟩
          refine wp_region_held_drew (S := Keep _) (by kernel_rfl) hKp.drew (fun hHeld => ?_)
          have V10d := Lib.hid (V10.out.go (bdrew _))
          refine tk 0 ?_ rfl ?_ ?_; rotate_left; focus (intro w hSw; clear hSw; go_simp; try (with_reducible rfl))
          try simp only [Act.put, sA, sZ, sS]
          refine tk 2 ?_ rfl ?_ ?_; rotate_left; focus (intro w hSw; clear hSw; go_simp; try (with_reducible rfl))
          try simp only [Act.put, sA, sZ, sS]
          refine tk 3 ?_ rfl ?_ ?_; rotate_left
          · intro wl hSw
            have hSw : Keep _ wl := hSw
            have k0 : wl.cell? ⟨W.heap.size, 3, none⟩ = some (.slice (some ⟨b, off, none⟩) N d) := (hSw _ (.head _)).1
            clear hSw
            go_simp
            try (with_reducible rfl)
          try simp only [Act.put, sA, sZ, sS]
          refine tk 4 ?_ rfl ?_ ?_; rotate_left; focus (intro w hSw; clear hSw; go_simp; try (with_reducible rfl))
          try simp only [Act.put, sA, sZ, sS]
          refine tk 5 ?_ rfl ?_ ?_; rotate_left; focus (intro w hSw; clear hSw; go_simp; try (with_reducible rfl))
          try simp only [Act.put, sA, sZ, sS]
          refine tk 6 ?_ rfl ?_ ?_; rotate_left; focus (intro w hSw; clear hSw; go_simp; try (with_reducible rfl))
          try simp only [Act.put, sA, sZ, sS]
          refine tk 7 ?_ rfl ?_ ?_; rotate_left
          · intro wl hSw
            have hSw : Keep _ wl := hSw
            have k0 : wl.cell? ⟨gf, i, none⟩ = some (.int .i64 (qn : Int)) := (hSw _ (.tail _ (.head _))).1
            clear hSw
            go_simp
            try (with_reducible rfl)
          try simp only [Act.put, sA, sZ, sS]
          refine tk 8 ?_ rfl ?_ ?_; rotate_left; focus (intro w hSw; clear hSw; go_simp; try (with_reducible rfl))
          try simp only [Act.put, sA, sZ, sS]
          refine tk 9 ?_ rfl ?_ ?_; rotate_left
          · intro wl hSw
            have hSw : Keep _ wl := hSw
            have k0 : wl.cell? ⟨b, off + qn, none⟩ = some (.bool va) := (hSw _ (.tail _ (.tail _ (.head _)))).1
            clear hSw
            go_simp
            try (with_reducible rfl)
          try simp only [Act.put, sA, sZ, sS]
          refine wpAnyH_ready (rs := [1, 10]) (by kernel_rfl) (by simp) ?_
          refine AllReadyH.cons (List.getElem?_toArray.trans rfl) (fun K hK => ?_) ?_
          · have yL := (V10d.out.hp.box_at (i := 1) (j := 3) rfl rfl).1
            go_simp
            refine hK.out _ _ (hHeld) (fun hHeld => ?_)
            clear hK K
            try simp only [Act.put, sA, sZ, sS]
            refine wpAnyH_ready (rs := [10]) (by kernel_rfl) (by simp) ?_
            refine AllReadyH.cons (List.getElem?_toArray.trans rfl) (fun K hK => ?_) AllReadyH.nil
            obtain ⟨w_1_10, hw_1_10⟩ : ∃ z, z = (wv.alloc (.cells #[.bool va] 4)).drew := ⟨_, rfl⟩
            have V_1_10 := Lib.hid (show HMI W (box 4 wv.heap.size [.bool va] :: _) bm _ w_1_10 by rw [hw_1_10]; exact V10d.out.box_new 4 [.bool va])
            have Bw_1_10 := Lib.hid (show Below wv.drew.heap.size wv.drew w_1_10 by rw [hw_1_10]; exact bnew _ _)
            go_simp
            rw [← hw_1_10]
            clear hw_1_10
            refine hK.out _ _ (hHeld.go Bw_1_10.out) (fun hHeld => ?_)
            clear hK K
            try simp only [Act.put, sA, sZ, sS]
            refine wpAnyH_ready (rs := [11]) (by kernel_rfl) (by simp) ?_
            refine AllReadyH.cons (List.getElem?_toArray.trans rfl) (fun K hK => ?_) AllReadyH.nil
            have y0 := (V_1_10.out.hp.box_at (i := 0) (j := 0) rfl rfl).1
            obtain ⟨g6, cap6, w6, hr6, hv6⟩ := V_1_10.out.app_flag (i := 4) rfl 23 va y0 (by omega)
            have V6 := Lib.hid hv6.tail
            have hq6 := HQ.out
            have KP6 := Lib.hid (show Keep [(⟨W.heap.size, 3, none⟩, .slice (some ⟨b, off, none⟩) N d), (⟨gf, i, none⟩, .int .i64 (qn : Int)), (⟨b, off + qn, none⟩, .bool va)] w6 from List.forall_mem_cons.2 ⟨(have z := V6.out.hp.box_at (i := 6) (j := 3) rfl rfl; ⟨z.1, z.2.2⟩), List.forall_mem_cons.2 ⟨(have z := V6.out.hp.num_at (i := 0) rfl (j := i) (by rw [HFL.out]; exact hin); ⟨by rw [z.1, List.getD_eq_getElem?_getD, HQ.out]; rfl, z.2.2⟩), List.forall_mem_cons.2 ⟨(by obtain ⟨b', off', e1, e2, e3⟩ := (G.out.below V6.out.below).acc (i := qn) (by rw [HNN.out]; exact hqN); dsimp only at e1; injection e1 with e1; injection e1 with e4 e5; subst e4; subst e5; exact ⟨by rw [e3, ← HVA.out, acc_nat], e2⟩), fun _ h => by simp at h⟩⟩⟩)
            refine step_app_run rfl (.tmp 110) (.tmp 119) 23 rfl hr6 rfl rfl ?_
            refine hK.out _ _ (KP6.out) (fun hHeld => ?_)
            clear hK K
            try simp only [Act.put, sA, sZ, sS]
            refine tk 12 ?_ rfl ?_ ?_; rotate_left; focus (intro w hSw; clear hSw; go_simp; try (with_reducible rfl))
            try simp only [Act.put, sA, sZ, sS]
            refine wpAnyH_ready (rs := [13]) (by kernel_rfl) (by simp) ?_
            refine AllReadyH.cons (List.getElem?_toArray.trans rfl) (fun K hK => ?_) AllReadyH.nil
            obtain ⟨x3, o3, x9⟩ := V6.out.hp.box_at (i := 1) (j := 3) rfl rfl
            have V11 := Lib.hid (V6.out.box_set (i := 1) rfl 3 (.slice (some ⟨g6, 0, none⟩) (i + 1) cap6))
            have KPE := Lib.hid (show Keep [(⟨W.heap.size, 3, none⟩, .slice (some ⟨b, off, none⟩) N d), (⟨gf, i, none⟩, .int .i64 (qn : Int)), (⟨b, off + qn, none⟩, .bool va)] (w6.setCell ⟨g1, 3, none⟩ (.slice (some ⟨g6, 0, none⟩) (i + 1) cap6)) from List.forall_mem_cons.2 ⟨(have z := V11.out.hp.box_at (i := 6) (j := 3) rfl rfl; ⟨z.1, z.2.2⟩), List.forall_mem_cons.2 ⟨(have z := V11.out.hp.num_at (i := 0) rfl (j := i) (by rw [HFL.out]; exact hin); ⟨by rw [z.1, List.getD_eq_getElem?_getD, HQ.out]; rfl, z.2.2⟩), List.forall_mem_cons.2 ⟨(by obtain ⟨b', off', e1, e2, e3⟩ := (G.out.below V11.out.below).acc (i := qn) (by rw [HNN.out]; exact hqN); dsimp only at e1; injection e1 with e1; injection e1 with e4 e5; subst e4; subst e5; exact ⟨by rw [e3, ← HVA.out, acc_nat], e2⟩), fun _ h => by simp at h⟩⟩⟩)
            go_simp
            refine hK.out _ _ (KPE.out) (fun hHeld => ?_)
            clear hK K
            try simp only [Act.put, sA, sZ, sS]
            refine wpAnyH_done (by kernel_rfl) ?_ _
            have HM3 := Lib.hid (show MSt M k cl (s : Int) fl pa (RW ++ [row]) (acs ++ [va]) (i + 1) ((i + 1) * k) by have := HMS2.out; rw [HVA.out] at this; rw [Nat.add_mul, Nat.one_mul]; exact this)
            clear hHeld
            go_wp2_with fail
            go_roundw
            case rel => exact ⟨i + 1, by go_num, fl, pa, _, _, _, nf, cf, _, _, _, _, _, rfl, HFL.out, by omega, HVS2.out, HM3.out, V11.out⟩
            case measure => simp [intOf]; omega
          refine AllReadyH.cons (List.getElem?_toArray.trans rfl) (fun K hK => ?_) ?_
          · obtain ⟨w_10, hw_10⟩ : ∃ z, z = (wv.alloc (.cells #[.bool va] 4)).drew := ⟨_, rfl⟩
            have V_10 := Lib.hid (show HMI W (box 4 wv.heap.size [.bool va] :: _) bm _ w_10 by rw [hw_10]; exact V10d.out.box_new 4 [.bool va])
            have Bw_10 := Lib.hid (show Below wv.drew.heap.size wv.drew w_10 by rw [hw_10]; exact bnew _ _)
            go_simp
            rw [← hw_10]
            clear hw_10
            refine hK.out _ _ (hHeld.go Bw_10.out) (fun hHeld => ?_)
            clear hK K
            try simp only [Act.put, sA, sZ, sS]
            refine wpAnyH_ready (rs := [1]) (by kernel_rfl) (by simp) ?_
            refine AllReadyH.cons (List.getElem?_toArray.trans rfl) (fun K hK => ?_) AllReadyH.nil
            have yL := (V_10.out.hp.box_at (i := 2) (j := 3) rfl rfl).1
            go_simp
            refine hK.out _ _ (hHeld) (fun hHeld => ?_)
            clear hK K
            try simp only [Act.put, sA, sZ, sS]
            refine wpAnyH_ready (rs := [11]) (by kernel_rfl) (by simp) ?_
            refine AllReadyH.cons (List.getElem?_toArray.trans rfl) (fun K hK => ?_) AllReadyH.nil
            have y0 := (V_10.out.hp.box_at (i := 0) (j := 0) rfl rfl).1
            obtain ⟨g6, cap6, w6, hr6, hv6⟩ := V_10.out.app_flag (i := 4) rfl 23 va y0 (by omega)
            have V6 := Lib.hid hv6.tail
            have hq6 := HQ.out
            have KP6 := Lib.hid (show Keep [(⟨W.heap.size, 3, none⟩, .slice (some ⟨b, off, none⟩) N d), (⟨gf, i, none⟩, .int .i64 (qn : Int)), (⟨b, off + qn, none⟩, .bool va)] w6 from List.forall_mem_cons.2 ⟨(have z := V6.out.hp.box_at (i := 6) (j := 3) rfl rfl; ⟨z.1, z.2.2⟩), List.forall_mem_cons.2 ⟨(have z := V6.out.hp.num_at (i := 0) rfl (j := i) (by rw [HFL.out]; exact hin); ⟨by rw [z.1, List.getD_eq_getElem?_getD, HQ.out]; rfl, z.2.2⟩), List.forall_mem_cons.2 ⟨(by obtain ⟨b', off', e1, e2, e3⟩ := (G.out.below V6.out.below).acc (i := qn) (by rw [HNN.out]; exact hqN); dsimp only at e1; injection e1 with e1; injection e1 with e4 e5; subst e4; subst e5; exact ⟨by rw [e3, ← HVA.out, acc_nat], e2⟩), fun _ h => by simp at h⟩⟩⟩)
            refine step_app_run rfl (.tmp 110) (.tmp 119) 23 rfl hr6 rfl rfl ?_
            refine hK.out _ _ (KP6.out) (fun hHeld => ?_)
            clear hK K
            try simp only [Act.put, sA, sZ, sS]
            refine tk 12 ?_ rfl ?_ ?_; rotate_left; focus (intro w hSw; clear hSw; go_simp; try (with_reducible rfl))
            try simp only [Act.put, sA, sZ, sS]
            refine wpAnyH_ready (rs := [13]) (by kernel_rfl) (by simp) ?_
            refine AllReadyH.cons (List.getElem?_toArray.trans rfl) (fun K hK => ?_) AllReadyH.nil
            obtain ⟨x3, o3, x9⟩ := V6.out.hp.box_at (i := 1) (j := 3) rfl rfl
            have V11 := Lib.hid (V6.out.box_set (i := 1) rfl 3 (.slice (some ⟨g6, 0, none⟩) (i + 1) cap6))
            have KPE := Lib.hid (show Keep [(⟨W.heap.size, 3, none⟩, .slice (some ⟨b, off, none⟩) N d), (⟨gf, i, none⟩, .int .i64 (qn : Int)), (⟨b, off + qn, none⟩, .bool va)] (w6.setCell ⟨g1, 3, none⟩ (.slice (some ⟨g6, 0, none⟩) (i + 1) cap6)) from List.forall_mem_cons.2 ⟨(have z := V11.out.hp.box_at (i := 6) (j := 3) rfl rfl; ⟨z.1, z.2.2⟩), List.forall_mem_cons.2 ⟨(have z := V11.out.hp.num_at (i := 0) rfl (j := i) (by rw [HFL.out]; exact hin); ⟨by rw [z.1, List.getD_eq_getElem?_getD, HQ.out]; rfl, z.2.2⟩), List.forall_mem_cons.2 ⟨(by obtain ⟨b', off', e1, e2, e3⟩ := (G.out.below V11.out.below).acc (i := qn) (by rw [HNN.out]; exact hqN); dsimp only at e1; injection e1 with e1; injection e1 with e4 e5; subst e4; subst e5; exact ⟨by rw [e3, ← HVA.out, acc_nat], e2⟩), fun _ h => by simp at h⟩⟩⟩)
            go_simp
            refine hK.out _ _ (KPE.out) (fun hHeld => ?_)
            clear hK K
            try simp only [Act.put, sA, sZ, sS]
            refine wpAnyH_done (by kernel_rfl) ?_ _
            have HM3 := Lib.hid (show MSt M k cl (s : Int) fl pa (RW ++ [row]) (acs ++ [va]) (i + 1) ((i + 1) * k) by have := HMS2.out; rw [HVA.out] at this; rw [Nat.add_mul, Nat.one_mul]; exact this)
            clear hHeld
            go_wp2_with fail
            go_roundw
            case rel => exact ⟨i + 1, by go_num, fl, pa, _, _, _, nf, cf, _, _, _, _, _, rfl, HFL.out, by omega, HVS2.out, HM3.out, V11.out⟩
            case measure => simp [intOf]; omega
          exact AllReadyH.nil
    · obtain rfl : i = nf := by omega
      have HCAN := Lib.hid (HMS.out.canon HC.out HR.out HFL.out.symm (by rw [HFL.out]) HST.out.symm)
      have HRL := Lib.hid HMS.out.rl
      have HRR := Lib.hid (show ∀ r ∈ RW, r.length ≤ 8 from fun r hr => by
        obtain ⟨j, hj⟩ := List.mem_iff_getElem?.1 hr
        obtain ⟨q, _, b⟩ := HMS.out.rows j r hj
        rw [b.1]; exact hk8)
      obtain ⟨r0, _, r90⟩ := V.out.hp.box_at (i := 1) (j := 0) rfl rfl
      obtain ⟨r1, _, r91⟩ := V.out.hp.box_at (i := 1) (j := 1) rfl rfl
      obtain ⟨r2, _, r92⟩ := V.out.hp.box_at (i := 1) (j := 2) rfl rfl
      obtain ⟨r3, _, r93⟩ := V.out.hp.box_at (i := 1) (j := 3) rfl rfl
      obtain ⟨s0, o0, s90⟩ := V.out.hp.box_at (i := 5) (j := 0) rfl rfl
      obtain ⟨s1, o1, s91⟩ := V.out.hp.box_at (i := 5) (j := 1) rfl rfl
      obtain ⟨s2, o2, s92⟩ := V.out.hp.box_at (i := 5) (j := 2) rfl rfl
      obtain ⟨s3, o3, s93⟩ := V.out.hp.box_at (i := 5) (j := 3) rfl rfl
      have VE := Lib.hid ((((V.out.hp.box_set (i := 5) rfl 0 (.int .i64 (k : Int))).box_set (i := 5) rfl 1 (.int .i64 0)).box_set (i := 5) rfl 2 (.slice An i cn)).box_set (i := 5) rfl 3 (.slice Bn i dn))
      obtain ⟨q0, _, _⟩ := VE.out.box_at (i := 5) (j := 0) rfl rfl
      obtain ⟨q1, _, _⟩ := VE.out.box_at (i := 5) (j := 1) rfl rfl
      obtain ⟨q2, _, _⟩ := VE.out.box_at (i := 5) (j := 2) rfl rfl
      obtain ⟨q3, _, _⟩ := VE.out.box_at (i := 5) (j := 3) rfl rfl
      go_wp2_with fail
      refine bodyPost_ret (v := .agg #[.int .i64 (k : Int), .int .i64 0, .slice An i cn, .slice Bn i dn]) (by simp [results, Try.results34, go_sem, q0, q1, q2, q3]) rfl ?_
      exact ⟨⟨k, RW, acs, 0⟩, ⟨An, i, cn, Bn, i, dn⟩, HCAN.out, rfl, vs, HVS.out, HRR.out, by show i ≤ _; omega, rfl, VE.out.pickG⟩
theorem rminimal_any (x : DV) (M : Au) (k : Nat) (W : World) (h : GoodL W x M k) : Calls Try.prog 34 #[dval x M] W (RMinPost k (fun u => M.lang u) W) := by
  have hm : x.n = x.m := by have h1 := h.dfa.m; have h2 := h.right.acl; have h3 : M.nx.length = x.n := h.dfa.n; omega
  have hlt := h.right.lt
  obtain ⟨A, N, c, B, m, d⟩ := x
  dsimp only at hm
  subst hm
  have := rminimal_pre A N c B d M.st M k W h rfl
  rw [← hlt] at this
  exact this
end Go.Proofs.Ytbfedfiemkhefaa
