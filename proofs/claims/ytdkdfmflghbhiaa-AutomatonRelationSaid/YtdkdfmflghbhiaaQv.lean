/- Contracts of the second implementation: small automata, valid ones, where words lead. -/
import Derived.Test.YtdkdfmflghbhiaaQo
import Derived.Test.YtdkdfmflghbhiaaQh
namespace Go.Proofs.Ytdkdfmflghbhiaa
open Go.RowKit
set_option linter.unusedVariables false
set_option linter.unusedSimpArgs false
set_option maxRecDepth 100000

/-- How many numbers the rows have together. -/
def totI (R : List (List Int)) : Nat := (R.map List.length).sum
theorem totI_take {R : List (List Int)} {j : Nat} {r : List Int} (h : R[j]? = some r) : totI (R.take (j + 1)) = totI (R.take j) + r.length := by
  unfold totI; rw [Au.take_succ h]; simp
def Au.fewB (M : Au) : Bool := decide (M.n ≤ 410 ∧ M.ac.length ≤ 420 ∧ totI M.nx ≤ 1700)
set_option maxHeartbeats 4000000 in
theorem few_any (x : DV) (M : Au) (w : World) (h : DfaIn w x M) :
    Calls Try.prog 19 #[dval x M] w fun e w' => e = .returned (.bool M.fewB) ∧ Below w.heap.size w w' := by
  have H := Lib.hid h
  have hn : M.nx.length = x.n := h.n
  have hm : M.ac.length = x.m := h.m
  have hcb := h.cb
  have hdb := h.db
  clear h
  by_cases c1 : 410 < x.n
  · have HE := Lib.hid (show M.fewB = false from decide_eq_false (fun e => by have : M.nx.length ≤ 410 := e.1; omega))
    clear hn hm
    obtain ⟨wz, hwz⟩ : ∃ z, z = (w.alloc (.cells #[.int .i64 M.lt, .int .i64 M.st, .slice x.A x.n x.c, .slice x.B x.m x.d] 25)) := ⟨_, rfl⟩
    have V := Lib.hid (show Hp w [box 25 w.heap.size [.int .i64 M.lt, .int .i64 M.st, .slice x.A x.n x.c, .slice x.B x.m x.d]] wz by
      have := ((Hp.start w).box_new 25 [.int .i64 M.lt, .int .i64 M.st, .slice x.A x.n x.c, .slice x.B x.m x.d])
      rw [hwz]; simpa using this)
    have HZ := Lib.hid hwz
    clear hwz
    go_enter Try.func19, Try.ntmps19
    go_upto_region 1 with fail
    rw [← HZ.out]
    clear HZ
    obtain ⟨r0_0, _, r0_9⟩ := V.out.box_at (i := 0) (j := 0) rfl rfl
    obtain ⟨r0_1, _, _⟩ := V.out.box_at (i := 0) (j := 1) rfl rfl
    obtain ⟨r0_2, _, _⟩ := V.out.box_at (i := 0) (j := 2) rfl rfl
    obtain ⟨r0_3, _, _⟩ := V.out.box_at (i := 0) (j := 3) rfl rfl
    go_wp2_with fail
    go_ret
    exact ⟨ret_bool HE.out.symm, V.out.below⟩
  by_cases c2 : 420 < x.m
  · have HE := Lib.hid (show M.fewB = false from decide_eq_false (fun e => by have := e.2.1; omega))
    clear hn hm
    obtain ⟨wz, hwz⟩ : ∃ z, z = (w.alloc (.cells #[.int .i64 M.lt, .int .i64 M.st, .slice x.A x.n x.c, .slice x.B x.m x.d] 25)) := ⟨_, rfl⟩
    have V := Lib.hid (show Hp w [box 25 w.heap.size [.int .i64 M.lt, .int .i64 M.st, .slice x.A x.n x.c, .slice x.B x.m x.d]] wz by
      have := ((Hp.start w).box_new 25 [.int .i64 M.lt, .int .i64 M.st, .slice x.A x.n x.c, .slice x.B x.m x.d])
      rw [hwz]; simpa using this)
    have HZ := Lib.hid hwz
    clear hwz
    go_enter Try.func19, Try.ntmps19
    go_upto_region 1 with fail
    rw [← HZ.out]
    clear HZ
    obtain ⟨r0_0, _, r0_9⟩ := V.out.box_at (i := 0) (j := 0) rfl rfl
    obtain ⟨r0_1, _, _⟩ := V.out.box_at (i := 0) (j := 1) rfl rfl
    obtain ⟨r0_2, _, _⟩ := V.out.box_at (i := 0) (j := 2) rfl rfl
    obtain ⟨r0_3, _, _⟩ := V.out.box_at (i := 0) (j := 3) rfl rfl
    go_wp2_with fail
    go_ret
    exact ⟨ret_bool HE.out.symm, V.out.below⟩
  have HN := Lib.hid hn
  have HM := Lib.hid hm
  clear hn hm
  obtain ⟨wz, hwz⟩ : ∃ z, z = (w.alloc (.cells #[.int .i64 M.lt, .int .i64 M.st, .slice x.A x.n x.c, .slice x.B x.m x.d] 25)) := ⟨_, rfl⟩
  have V := Lib.hid (show Hp w [box 25 w.heap.size [.int .i64 M.lt, .int .i64 M.st, .slice x.A x.n x.c, .slice x.B x.m x.d]] wz by
    have := ((Hp.start w).box_new 25 [.int .i64 M.lt, .int .i64 M.st, .slice x.A x.n x.c, .slice x.B x.m x.d])
    rw [hwz]; simpa using this)
  have HZ := Lib.hid hwz
  clear hwz
  go_enter Try.func19, Try.ntmps19
  go_upto_region 1 with fail
  rw [← HZ.out]
  clear HZ
  obtain ⟨r0_0, _, r0_9⟩ := V.out.box_at (i := 0) (j := 0) rfl rfl
  obtain ⟨r0_1, _, _⟩ := V.out.box_at (i := 0) (j := 1) rfl rfl
  obtain ⟨r0_2, _, _⟩ := V.out.box_at (i := 0) (j := 2) rfl rfl
  obtain ⟨r0_3, _, _⟩ := V.out.box_at (i := 0) (j := 3) rfl rfl
  go_wp2_with fail
  clear r0_9 r0_0 r0_1 r0_2 r0_3
  go_loopw [3, 4] (fun sv cv wr => ∃ j : Nat, cv = .int .i64 (j : Int) ∧ j ≤ x.n ∧ ∃ s : Nat, sv = .int .i64 (s : Int) ∧ s = totI (M.nx.take j) ∧ s ≤ j * 17592186044416 ∧ Hp w [box 25 w.heap.size [.int .i64 M.lt, .int .i64 M.st, .slice x.A x.n x.c, .slice x.B x.m x.d]] wr) (fun _ cv _ => x.n - (intOf cv).toNat)
  case atStart => exact ⟨0, rfl, Nat.zero_le _, 0, rfl, by simp [totI], Nat.zero_le _, V.out⟩
  case round =>
    clear V
    obtain ⟨j, rfl, hjn, s, rfl, hs, hsb, hV⟩ := hrel
    obtain ⟨wi, rfl⟩ : ∃ wi : World, wi = wr := ⟨_, rfl⟩
    have V := Lib.hid hV
    have HS := Lib.hid hs
    clear hV hs
    obtain ⟨r0_0, _, r0_9⟩ := V.out.box_at (i := 0) (j := 0) rfl rfl
    obtain ⟨r0_1, _, _⟩ := V.out.box_at (i := 0) (j := 1) rfl rfl
    obtain ⟨r0_2, _, _⟩ := V.out.box_at (i := 0) (j := 2) rfl rfl
    obtain ⟨r0_3, _, _⟩ := V.out.box_at (i := 0) (j := 3) rfl rfl
    by_cases hlt : j < x.n
    · obtain ⟨b, off, Aj, cj, hxA, hb, hcell, hl1, hl2, _⟩ := (H.out.below V.out.below).row (q := j) (by rw [HN.out]; exact hlt)
      obtain ⟨ℓ, hl⟩ : ∃ l, l = (M.nx.getD j []).length := ⟨_, rfl⟩
      rw [← hl] at hcell hl1 hl2
      have hlb : ℓ ≤ 17592186044416 := by omega
      have H3 := Lib.hid (show s + ℓ = totI (M.nx.take (j + 1)) by rw [totI_take (r := M.nx.getD j []) (by rw [List.getD_eq_getElem?_getD, List.getElem?_eq_getElem (by rw [HN.out]; exact hlt)]; rfl), ← HS.out, hl])
      have hsb2 : s + ℓ ≤ (j + 1) * 17592186044416 := by rw [Nat.add_mul]; omega
      have hsb3 : s ≤ 411 * 17592186044416 := Nat.le_trans hsb (Nat.mul_le_mul_right _ (by omega))
      have HSB := Lib.hid hsb2
      rw [hxA] at r0_2
      clear hxA hl hsb hsb2
      go_wp2_with fail
      go_roundw
      case rel => exact ⟨j + 1, by go_num, by omega, s + ℓ, by go_num, H3.out, HSB.out, V.out⟩
      case measure => simp [intOf]; omega
    · obtain rfl : j = x.n := by omega
      have hst : s = totI M.nx := by rw [HS.out, List.take_of_length_le (by rw [HN.out]; exact Nat.le_refl _)]
      have HE := Lib.hid (show M.fewB = decide ((s : Int) ≤ 1700) by
        unfold Au.fewB
        rw [← hst]
        apply decide_eq_decide.2
        have h1 : M.n = x.n := HN.out
        have h2 := HM.out
        constructor
        · intro e; have := e.2.2; omega
        · intro e; exact ⟨by omega, by omega, by omega⟩)
      clear hst hsb
      go_wp2_with fail
      go_ret
      exact ⟨ret_bool HE.out.symm, V.out.below⟩
set_option maxHeartbeats 4000000 in
theorem rstep_any (x : DV) (M : Au) (k : Nat) (q t : Int) (w : World) (h : Good w x M k) (h1 : -1 ≤ q) (h2 : q < M.n) :
    Calls Try.prog 52 #[dval x M, .int .i64 q, .int .i64 t] w fun e w' => e = .returned (.int .i64 (M.stepI q t)) ∧ Below w.heap.size w w' := by
  have H := Lib.hid h
  clear h
  by_cases c1 : q < 0
  · have HE := Lib.hid (M.stepI_neg c1 t)
    clear h1 h2
    obtain ⟨wz, hwz⟩ : ∃ z, z = (w.alloc (.cells #[.int .i64 M.lt, .int .i64 M.st, .slice x.A x.n x.c, .slice x.B x.m x.d] 25)) := ⟨_, rfl⟩
    have V := Lib.hid (show Hp w [box 25 w.heap.size [.int .i64 M.lt, .int .i64 M.st, .slice x.A x.n x.c, .slice x.B x.m x.d]] wz by
      have := ((Hp.start w).box_new 25 [.int .i64 M.lt, .int .i64 M.st, .slice x.A x.n x.c, .slice x.B x.m x.d])
      rw [hwz]; simpa using this)
    have HZ := Lib.hid hwz
    clear hwz
    go_enter Try.func52, Try.ntmps52
    go_upto_region 1 with fail
    rw [← HZ.out]
    clear HZ
    obtain ⟨r0_0, _, r0_9⟩ := V.out.box_at (i := 0) (j := 0) rfl rfl
    obtain ⟨r0_1, _, _⟩ := V.out.box_at (i := 0) (j := 1) rfl rfl
    obtain ⟨r0_2, _, _⟩ := V.out.box_at (i := 0) (j := 2) rfl rfl
    obtain ⟨r0_3, _, _⟩ := V.out.box_at (i := 0) (j := 3) rfl rfl
    go_wp2_with fail
    go_ret
    exact ⟨ret_int HE.out.symm, V.out.below⟩
  by_cases c2 : t < 0
  · have HE := Lib.hid (Au.stepI_bad (M := M) (q := q) (t := t) (by omega))
    clear h1 h2
    obtain ⟨wz, hwz⟩ : ∃ z, z = (w.alloc (.cells #[.int .i64 M.lt, .int .i64 M.st, .slice x.A x.n x.c, .slice x.B x.m x.d] 25)) := ⟨_, rfl⟩
    have V := Lib.hid (show Hp w [box 25 w.heap.size [.int .i64 M.lt, .int .i64 M.st, .slice x.A x.n x.c, .slice x.B x.m x.d]] wz by
      have := ((Hp.start w).box_new 25 [.int .i64 M.lt, .int .i64 M.st, .slice x.A x.n x.c, .slice x.B x.m x.d])
      rw [hwz]; simpa using this)
    have HZ := Lib.hid hwz
    clear hwz
    go_enter Try.func52, Try.ntmps52
    go_upto_region 1 with fail
    rw [← HZ.out]
    clear HZ
    obtain ⟨r0_0, _, r0_9⟩ := V.out.box_at (i := 0) (j := 0) rfl rfl
    obtain ⟨r0_1, _, _⟩ := V.out.box_at (i := 0) (j := 1) rfl rfl
    obtain ⟨r0_2, _, _⟩ := V.out.box_at (i := 0) (j := 2) rfl rfl
    obtain ⟨r0_3, _, _⟩ := V.out.box_at (i := 0) (j := 3) rfl rfl
    go_wp2_with fail
    go_ret
    exact ⟨ret_int HE.out.symm, V.out.below⟩
  by_cases c3 : M.lt ≤ t
  · have HE := Lib.hid (Au.stepI_bad (M := M) (q := q) (t := t) (by omega))
    clear h1 h2
    obtain ⟨wz, hwz⟩ : ∃ z, z = (w.alloc (.cells #[.int .i64 M.lt, .int .i64 M.st, .slice x.A x.n x.c, .slice x.B x.m x.d] 25)) := ⟨_, rfl⟩
    have V := Lib.hid (show Hp w [box 25 w.heap.size [.int .i64 M.lt, .int .i64 M.st, .slice x.A x.n x.c, .slice x.B x.m x.d]] wz by
      have := ((Hp.start w).box_new 25 [.int .i64 M.lt, .int .i64 M.st, .slice x.A x.n x.c, .slice x.B x.m x.d])
      rw [hwz]; simpa using this)
    have HZ := Lib.hid hwz
    clear hwz
    go_enter Try.func52, Try.ntmps52
    go_upto_region 1 with fail
    rw [← HZ.out]
    clear HZ
    obtain ⟨r0_0, _, r0_9⟩ := V.out.box_at (i := 0) (j := 0) rfl rfl
    obtain ⟨r0_1, _, _⟩ := V.out.box_at (i := 0) (j := 1) rfl rfl
    obtain ⟨r0_2, _, _⟩ := V.out.box_at (i := 0) (j := 2) rfl rfl
    obtain ⟨r0_3, _, _⟩ := V.out.box_at (i := 0) (j := 3) rfl rfl
    go_wp2_with fail
    go_ret
    exact ⟨ret_int HE.out.symm, V.out.below⟩
  obtain ⟨qn, rfl⟩ := Int.eq_ofNat_of_zero_le (show 0 ≤ q by omega)
  obtain ⟨tn, rfl⟩ := Int.eq_ofNat_of_zero_le (show 0 ≤ t by omega)
  have hlt := H.out.right.lt
  have htk : tn < k := by omega
  have htl : (tn : Int) < M.lt := by omega
  have hqn : qn < M.n := by omega
  have hql : qn < M.nx.length := hqn
  have HL := Lib.hid hlt
  have hk8 := H.out.k8
  have hrw : M.nx[qn]? = some (M.nx.getD qn []) := by rw [List.getD_eq_getElem?_getD, List.getElem?_eq_getElem hql]; rfl
  have hrl := (H.out.right.rows qn _ hrw).1
  obtain ⟨b, off, Aj, cj, hxA, hb, hcell, hl1, hl2, hrow⟩ := H.out.dfa.row hql
  rw [hrl] at hcell hl1 hl2
  obtain ⟨b2, off2, rfl, hb2, hc2⟩ := hrow.int (j := tn) (by rw [hrl]; exact htk)
  obtain ⟨v, hv⟩ : ∃ v, v = (M.nx.getD qn []).getD tn 0 := ⟨_, rfl⟩
  rw [← hv] at hc2
  have HE := Lib.hid (show v = M.stepI qn tn by
    rw [Au.stepI_ok htl, hv]
    unfold Au.go
    rw [if_neg (by omega)]
    exact getD_def (show tn < (M.nx.getD qn []).length by rw [hrl]; exact htk) _ _)
  have hxn : qn < x.n := by have := H.out.dfa.n; omega
  have hxb := H.out.dfa.cb
  clear hlt hrw hrow hrl hv h1 h2 hql hqn
  obtain ⟨xA, xn, xc, xB, xm, xd⟩ := x
  dsimp only at *
  subst hxA
  obtain ⟨wz, hwz⟩ : ∃ z, z = (w.alloc (.cells #[.int .i64 M.lt, .int .i64 M.st, .slice (some ⟨b, off, none⟩) xn xc, .slice xB xm xd] 25)) := ⟨_, rfl⟩
  have V := Lib.hid (show Hp w [box 25 w.heap.size [.int .i64 M.lt, .int .i64 M.st, .slice (some ⟨b, off, none⟩) xn xc, .slice xB xm xd]] wz by
    have := ((Hp.start w).box_new 25 [.int .i64 M.lt, .int .i64 M.st, .slice (some ⟨b, off, none⟩) xn xc, .slice xB xm xd])
    rw [hwz]; simpa using this)
  have HZ := Lib.hid hwz
  clear hwz
  have hcell := (V.out.below.cell (p := ⟨b, off + qn, none⟩) hb).trans hcell
  have hc2 := (V.out.below.cell (p := ⟨b2, off2 + tn, none⟩) hb2).trans hc2
  have hb := Nat.lt_of_lt_of_le hb V.out.below.size
  have hb2 := Nat.lt_of_lt_of_le hb2 V.out.below.size
  go_enter Try.func52, Try.ntmps52
  go_upto_region 1 with fail
  rw [← HZ.out]
  clear HZ
  obtain ⟨r0_0, _, r0_9⟩ := V.out.box_at (i := 0) (j := 0) rfl rfl
  obtain ⟨r0_1, _, _⟩ := V.out.box_at (i := 0) (j := 1) rfl rfl
  obtain ⟨r0_2, _, _⟩ := V.out.box_at (i := 0) (j := 2) rfl rfl
  obtain ⟨r0_3, _, _⟩ := V.out.box_at (i := 0) (j := 3) rfl rfl
  go_wp2_with fail
  go_ret
  exact ⟨ret_int HE.out, V.out.below⟩
/-- Where a list of numbers leads from a state. -/
def Au.fromI (M : Au) (q : Int) (L : List Int) : Int := L.foldl M.stepI q
theorem fromI_snoc {M : Au} {q : Int} {L : List Int} {j : Nat} {t : Int} (h : L[j]? = some t) : M.fromI q (L.take (j + 1)) = M.stepI (M.fromI q (L.take j)) t := by
  unfold Au.fromI; rw [Au.take_succ h, List.foldl_append]; rfl
theorem fromI_in {M : Au} {k : Nat} (h : M.Right k) {q : Int} (h1 : -1 ≤ q) (h2 : q < M.n) (L : List Int) : -1 ≤ M.fromI q L ∧ M.fromI q L < M.n := by
  unfold Au.fromI
  induction L generalizing q with
  | nil => exact ⟨h1, h2⟩
  | cons t L ih => exact ih h.stepI_in.1 h.stepI_in.2
end Go.Proofs.Ytdkdfmflghbhiaa
