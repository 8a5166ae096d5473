/- What the statements about morae and about the plain patterns answer: true, whatever the input. -/
import Derived.Test.YtlkigmlgbnlkaaaDoorPr
import Derived.Test.YtlkigmlgbnlkaaaDoorPo
namespace Go.Proofs.YtlkigmlgbnlkaaaDoor
open Go.RowKit
set_option linter.unusedVariables false

def putX (b c : UInt8) : UInt8 := if c = 120 then b else c
theorem exp_head (p : List UInt8) : (expL p).head? = some (p.map (putX 117)) := by
  induction p with
  | nil => rfl
  | cons c r ih =>
    unfold expL
    split
    · rename_i h
      rw [List.head?_append, List.head?_map, ih]; simp [putX, h]
    · rename_i h
      rw [List.head?_map, ih]; simp [putX, h]
theorem exp_last (p : List UInt8) : (expL p).getLast? = some (p.map (putX 45)) := by
  induction p with
  | nil => rfl
  | cons c r ih =>
    unfold expL
    split
    · rename_i h
      rw [List.getLast?_append, List.getLast?_map, ih]; simp [putX, h]
    · rename_i h
      rw [List.getLast?_map, ih]; simp [putX, h]
theorem put_sign {b : UInt8} (hb : isS b = true) {p : List UInt8} (h : p.all isS = true) : (p.map (putX b)).all isS = true := by
  rw [List.all_map, List.all_eq_true]
  intro c hc
  have := List.all_eq_true.1 h c hc
  simp only [Function.comp, putX]
  split
  · exact hb
  · exact this
theorem put_low (p : List UInt8) : lowV (p.map (putX 117)) = lowV p := by
  have h : (p.map (putX 117)).count 45 = p.count 45 := by
    induction p with
    | nil => rfl
    | cons c r ih =>
      rw [List.map_cons, List.count_cons, List.count_cons, ih]
      by_cases h : c = 120
      · subst h; rfl
      · simp [putX, h]
  unfold lowV; rw [h, List.length_map]
theorem put_high (p : List UInt8) : highV (p.map (putX 45)) = highV p := by
  have h : (p.map (putX 45)).count 45 + (p.map (putX 45)).count 120 = p.count 45 + p.count 120 := by
    induction p with
    | nil => rfl
    | cons c r ih =>
      rw [List.map_cons, List.count_cons, List.count_cons, List.count_cons, List.count_cons]
      by_cases h : c = 120
      · subst h; simp [putX]; omega
      · simp [putX, h]; omega
  unfold highV lowV; rw [List.length_map]; omega
theorem put_ok {b : UInt8} (hb : isS b = true) {p : List UInt8} (h : pErr p = 0) : pErr (p.map (putX b)) = 0 :=
  pErr_ok (by rw [List.length_map]; exact (pErr_zero h).1) (put_sign hb (pErr_zero h).2)
theorem exp_ok {l : List UInt8} {L : List (List UInt8)} {g : Int} (h : expandVal l = (L, g)) (hg : g = 0) : pErr l = 0 ∧ L = expL l ∧ l.count 120 ≤ 10 := by
  unfold expandVal at h
  by_cases h1 : pErr l = 0
  · rw [if_pos h1] at h
    by_cases h2 : 10 < l.count 120
    · rw [if_pos h2] at h; simp only [Prod.mk.injEq] at h; omega
    · rw [if_neg h2] at h; simp only [Prod.mk.injEq] at h; exact ⟨h1, h.1.symm, by omega⟩
  · rw [if_neg h1] at h; simp only [Prod.mk.injEq] at h; omega
theorem exp_size {l : List UInt8} {L : List (List UInt8)} {g : Int} (h : expandVal l = (L, g)) : L.length ≤ 1024 := by
  unfold expandVal at h
  split at h
  · split at h
    · simp only [Prod.mk.injEq] at h; rw [← h.1]; simp
    · simp only [Prod.mk.injEq] at h; rw [← h.1, exp_len]; exact pow_small (by omega)
  · simp only [Prod.mk.injEq] at h; rw [← h.1]; simp
theorem exp_err {l : List UInt8} {L : List (List UInt8)} {g : Int} (h : expandVal l = (L, g)) (hg : g ≠ 0) : L = [] := by
  unfold expandVal at h
  split at h
  · split at h
    · simp only [Prod.mk.injEq] at h; exact h.1.symm
    · simp only [Prod.mk.injEq] at h; omega
  · simp only [Prod.mk.injEq] at h; exact h.1.symm
/-- Expand, with its answer named. -/
def ExpPost (L : List (List UInt8)) (x : Int) (w : World) (e : Ending) (w' : World) : Prop := ∃ A c, e = .returned (.tuple #[.slice A L.length c, .int .i64 x]) ∧ w'.ownsRow w.heap.size 9 1 (.slice A L.length c) L.length (baCells L) ∧ Below w.heap.size w w'
theorem exp_post {l : List UInt8} {L : List (List UInt8)} {x : Int} {w w' : World} {e : Ending} (h : expandVal l = (L, x)) (hp : ExpandPost l w e w') : ExpPost L x w e w' := by
  obtain ⟨A, c, he, hown, hb⟩ := hp
  rw [h] at he hown
  exact ⟨A, c, he, hown, hb⟩
theorem baCells_at {L : List (List UInt8)} {i : Nat} {q : List UInt8} (h : L[i]? = some q) : (baCells L)[i]? = some (.string (toBA q)) := by simp [baCells, h]
theorem pmorae_is {p : ByteArray} {a b c : Int} (w : World) (hp : p.size ≤ maxLen) (h : moraeVal p.data.toList = (a, b, c)) : Calls Tryd.prog 34 #[.string p] w fun e w' => e = .returned (.tuple #[.int .i64 a, .int .i64 b, .int .i64 c]) ∧ w = w' := by
  refine (pmorae_any p w hp).mono fun e w' ⟨he, hb⟩ => ⟨?_, hb.symm⟩
  rw [he, h]
theorem rmorae_is {p : ByteArray} {a b c : Int} (w : World) (hp : p.size ≤ maxLen) (h : moraeVal p.data.toList = (a, b, c)) : Calls Tryd.prog 35 #[.string p] w fun e w' => e = .returned (.tuple #[.int .i64 a, .int .i64 b, .int .i64 c]) ∧ w = w' := by
  refine (rmorae_any p w hp).mono fun e w' ⟨he, hb⟩ => ⟨?_, hb.symm⟩
  rw [he, h]

set_option maxRecDepth 100000 in
set_option maxHeartbeats 8000000 in
theorem lawmorae_any (p : ByteArray) (w : World) (hp : p.size ≤ maxLen) (hm : MaxAt w) :
    Calls Tryd.prog 7 #[.string p] w fun e w' => e = .returned (.bool true) ∧ Below w.heap.size w w' := by
  have HM := Lib.hid hm
  clear hm
  by_cases hbig : 300 < p.size
  · go_enter Tryd.func7, Tryd.ntmps7
    go_wp2_with fail
    refine (awake_any _ HM.out).mono ?_
    rintro e w1 ⟨rfl, hb1⟩
    go_wp2_with fail
    refine (awake_any _ (HM.out.below hb1)).mono ?_
    rintro e w2 ⟨rfl, hb2⟩
    go_wp2_with fail
    go_ret
    exact ⟨rfl, btwo hb1 hb2⟩
  · have h300 : p.size ≤ 300 := by omega
    obtain ⟨a, ha⟩ : ∃ a, a = (moraeVal p.data.toList).1 := ⟨_, rfl⟩
    obtain ⟨b, hb⟩ : ∃ b, b = (moraeVal p.data.toList).2.1 := ⟨_, rfl⟩
    obtain ⟨x, hx⟩ : ∃ x, x = (moraeVal p.data.toList).2.2 := ⟨_, rfl⟩
    obtain ⟨L, hL⟩ : ∃ L, L = (expandVal p.data.toList).1 := ⟨_, rfl⟩
    obtain ⟨g, hg⟩ : ∃ g, g = (expandVal p.data.toList).2 := ⟨_, rfl⟩
    have HMV := Lib.hid (show moraeVal p.data.toList = (a, b, x) by rw [ha, hb, hx])
    have HEV := Lib.hid (show expandVal p.data.toList = (L, g) by rw [hL, hg])
    have hn := exp_size HEV.out
    obtain ⟨n, hn2⟩ : ∃ n, n = L.length := ⟨_, rfl⟩
    have HN := Lib.hid hn2
    rw [← hn2] at hn
    clear ha hb hx hL hg hn2 hbig
    by_cases hg0 : g = 0
    · subst hg0
      obtain ⟨h1, h2, h3⟩ := exp_ok HEV.out rfl
      have hhead : L[0]? = some (p.data.toList.map (putX 117)) := by rw [h2, ← List.head?_eq_getElem?]; exact exp_head _
      have hlast : L[n - 1]? = some (p.data.toList.map (putX 45)) := by rw [HN.out, ← List.getLast?_eq_getElem?, h2]; exact exp_last _
      have hn0 : 0 < n := by
        rw [HN.out]
        exact (List.getElem?_eq_some_iff.1 hhead).1
      obtain ⟨m, hm⟩ : ∃ m, n = m + 1 := ⟨n - 1, by omega⟩
      subst hm
      rw [show m + 1 - 1 = m from rfl] at hlast
      obtain ⟨q1, hq1⟩ : ∃ q, q = toBA (p.data.toList.map (putX 117)) := ⟨_, rfl⟩
      obtain ⟨q2, hq2⟩ : ∃ q, q = toBA (p.data.toList.map (putX 45)) := ⟨_, rfl⟩
      have hs1 : q1.size = p.size := by rw [hq1]; show (List.map _ _).toArray.size = _; simp
      have hs2 : q2.size = p.size := by rw [hq2]; show (List.map _ _).toArray.size = _; simp
      have hp2 := hp
      have C1 := Lib.hid (show moraeVal q1.data.toList = (a, highV q1.data.toList, 0) by
        rw [hq1, toBA_list, morae_ok (put_ok (by decide) h1), put_low]
        have := HMV.out
        rw [morae_ok h1] at this
        simp only [Prod.mk.injEq] at this
        rw [this.1])
      have C2 := Lib.hid (show moraeVal q2.data.toList = (lowV q2.data.toList, b, 0) by
        rw [hq2, toBA_list, morae_ok (put_ok (by decide) h1), put_high]
        have := HMV.out
        rw [morae_ok h1] at this
        simp only [Prod.mk.injEq] at this
        rw [this.2.1])
      have hx0 : x = 0 := by
        have := HMV.out
        rw [morae_ok h1] at this
        simp only [Prod.mk.injEq] at this
        exact this.2.2.symm
      subst hx0
      have HH := Lib.hid (show (baCells L)[0]? = some (.string q1) by rw [hq1]; exact baCells_at hhead)
      have HT := Lib.hid (show (baCells L)[m]? = some (.string q2) by rw [hq2]; exact baCells_at hlast)
      have hq1m : q1.size ≤ maxLen := by rw [hs1]; exact hp
      have hq2m : q2.size ≤ maxLen := by rw [hs2]; exact hp
      clear h1 h2 h3 hhead hlast hq1 hq2 hs1 hs2 hp2
      go_enter Tryd.func7, Tryd.ntmps7
      go_wp2_with fail
      refine (awake_any _ HM.out).mono ?_
      rintro e w1 ⟨rfl, hb1⟩
      have HB1 := Lib.hid hb1
      clear hb1
      go_wp2_with fail
      refine (pmorae_is _ hp HMV.out).mono ?_
      rintro e w' ⟨rfl, rfl⟩
      go_wp2_with fail
      refine (rmorae_is _ hp HMV.out).mono ?_
      rintro e w' ⟨rfl, rfl⟩
      go_wp2_with fail
      refine ((pexpand_any p _ hp).mono (fun _ _ h => exp_post HEV.out h)).mono ?_
      rintro e w2 ⟨A, c, rfl, hown, hb2⟩
      rw [← HN.out]
      rw [← HN.out] at hown
      have HB2 := Lib.hid (btwo HB1.out hb2)
      obtain ⟨gg, c', hvv, hB, hlt'⟩ := hown.form (by omega)
      injection hvv with e1 e2 e3
      subst e1; subst e3
      have hc1 : w2.cell? ⟨gg, 0, none⟩ = some (.string q1) := by rw [hown.cellAt _ (by omega)]; exact HH.out
      have hc2 : w2.cell? ⟨gg, m, none⟩ = some (.string q2) := by rw [hown.cellAt _ (by omega)]; exact HT.out
      clear hown hb2
      go_wp2_with fail
      refine (pmorae_is _ hq1m C1.out).mono ?_
      rintro e w' ⟨rfl, rfl⟩
      go_wp2_with fail
      refine (pmorae_is _ hq2m C2.out).mono ?_
      rintro e w' ⟨rfl, rfl⟩
      go_wp2_with fail
      go_ret
      exact ⟨ret_bool (by simp), HB2.out⟩
    · have e1 : (g == 0) = false := by simp [hg0]
      have e2 : (g != 0) = true := by simp [hg0]
      clear hg0
      go_enter Tryd.func7, Tryd.ntmps7
      go_wp2_with fail
      refine (awake_any _ HM.out).mono ?_
      rintro e w1 ⟨rfl, hb1⟩
      have HB1 := Lib.hid hb1
      clear hb1
      go_wp2_with fail
      refine (pmorae_is _ hp HMV.out).mono ?_
      rintro e w' ⟨rfl, rfl⟩
      go_wp2_with fail
      refine (rmorae_is _ hp HMV.out).mono ?_
      rintro e w' ⟨rfl, rfl⟩
      go_wp2_with fail
      refine ((pexpand_any p _ hp).mono (fun _ _ h => exp_post HEV.out h)).mono ?_
      rintro e w2 ⟨A, c, rfl, hown, hb2⟩
      have HB2 := Lib.hid (btwo HB1.out hb2)
      clear hown hb2
      go_wp2_with fail
      go_ret
      exact ⟨rfl, HB2.out⟩

/-! ### The plain patterns, one by one -/
theorem exp_agree {p : List UInt8} (h : p.all isS = true) : ∀ q ∈ expL p, q.all isS = true ∧ agL p q = true := by
  induction p with
  | nil => intro q hq; simp [expL] at hq; subst hq; exact ⟨rfl, rfl⟩
  | cons c r ih =>
    simp only [List.all_cons, Bool.and_eq_true] at h
    intro q hq
    unfold expL at hq
    split at hq
    · rename_i hc
      subst hc
      rw [List.mem_append, List.mem_map, List.mem_map] at hq
      rcases hq with ⟨s, hs, rfl⟩ | ⟨s, hs, rfl⟩
      · obtain ⟨i1, i2⟩ := ih h.2 s hs
        exact ⟨by rw [List.all_cons, i1]; decide, by unfold agL; rw [i2]; decide⟩
      · obtain ⟨i1, i2⟩ := ih h.2 s hs
        exact ⟨by rw [List.all_cons, i1]; decide, by unfold agL; rw [i2]; decide⟩
    · rename_i hc
      rw [List.mem_map] at hq
      obtain ⟨s, hs, rfl⟩ := hq
      obtain ⟨i1, i2⟩ := ih h.2 s hs
      exact ⟨by rw [List.all_cons, i1, h.1]; rfl, by unfold agL; rw [i2]; simp [agB]⟩
theorem pair_map {c : UInt8} {L : List (List UInt8)} (h : L.Pairwise (fun a b => cmpR a b = -1)) : (L.map (c :: ·)).Pairwise (fun a b => cmpR a b = -1) := by
  rw [List.pairwise_map]
  exact h.imp (fun {a b} hab => by unfold cmpR; rw [if_pos rfl]; exact hab)
theorem exp_sorted (p : List UInt8) : (expL p).Pairwise (fun a b => cmpR a b = -1) := by
  induction p with
  | nil => simp [expL]
  | cons c r ih =>
    unfold expL
    split
    · rw [List.pairwise_append]
      refine ⟨pair_map ih, pair_map ih, ?_⟩
      intro a ha b hb
      rw [List.mem_map] at ha hb
      obtain ⟨s, _, rfl⟩ := ha
      obtain ⟨t, _, rfl⟩ := hb
      unfold cmpR
      rw [if_neg (by decide)]
      decide
    · exact pair_map ih
theorem exp_next {p : List UInt8} {k : Nat} {a b : List UInt8} (ha : (expL p)[k]? = some a) (hb : (expL p)[k + 1]? = some b) : cmpV a b = -1 := by
  have h1 := exp_in p a (List.mem_of_getElem? ha)
  have h2 := exp_in p b (List.mem_of_getElem? hb)
  unfold cmpV
  rw [if_pos (by rw [h1, h2])]
  obtain ⟨i1, i2⟩ := List.getElem?_eq_some_iff.1 ha
  obtain ⟨j1, j2⟩ := List.getElem?_eq_some_iff.1 hb
  have := List.pairwise_iff_getElem.1 (exp_sorted p) k (k + 1) i1 j1 (by omega)
  rw [i2, j2] at this
  exact this
theorem pcompare_is {p q : ByteArray} {x : Int} (w : World) (hp : p.size ≤ maxLen) (hq : q.size ≤ maxLen) (h : cmpV p.data.toList q.data.toList = x) :
    Calls Tryd.prog 33 #[.string p, .string q] w fun e w' => e = .returned (.int .i64 x) ∧ ∃ n, w' = w.drewN n := by
  refine (pcompare_any p q w hp hq).mono fun e w' ⟨he, hb⟩ => ⟨?_, hb⟩
  rw [he, h]
set_option maxRecDepth 100000 in
set_option maxHeartbeats 8000000 in
theorem lawexpand_any (p : ByteArray) (w : World) (hp : p.size ≤ maxLen) (hm : MaxAt w) :
    Calls Tryd.prog 6 #[.string p] w fun e w' => e = .returned (.bool true) ∧ Below w.heap.size w w' := by
  have HM := Lib.hid hm
  clear hm
  by_cases hbig : 300 < p.size
  · go_enter Tryd.func6, Tryd.ntmps6
    go_wp2_with fail
    refine (awake_any _ HM.out).mono ?_
    rintro e w1 ⟨rfl, hb1⟩
    go_wp2_with fail
    refine (awake_any _ (HM.out.below hb1)).mono ?_
    rintro e w2 ⟨rfl, hb2⟩
    go_wp2_with fail
    go_ret
    exact ⟨rfl, btwo hb1 hb2⟩
  · have h300 : p.size ≤ 300 := by omega
    obtain ⟨L, hL⟩ : ∃ L, L = (expandVal p.data.toList).1 := ⟨_, rfl⟩
    obtain ⟨g, hg⟩ : ∃ g, g = (expandVal p.data.toList).2 := ⟨_, rfl⟩
    have HEV := Lib.hid (show expandVal p.data.toList = (L, g) by rw [hL, hg])
    have hn := exp_size HEV.out
    obtain ⟨n, hn2⟩ : ∃ n, n = L.length := ⟨_, rfl⟩
    have HN := Lib.hid hn2
    have HNS := Lib.hid (show n = (L.map toBA).length by rw [List.length_map]; exact hn2)
    rw [← hn2] at hn
    have HOK := Lib.hid (show 0 < n → pErr p.data.toList = 0 ∧ L = expL p.data.toList from fun h0 => by
      by_cases hg0 : g = 0
      · obtain ⟨i1, i2, _⟩ := exp_ok HEV.out hg0
        exact ⟨i1, i2⟩
      · have := exp_err HEV.out hg0
        rw [hn2, this] at h0; simp at h0)
    clear hL hg hn2 hbig
    go_enter Tryd.func6, Tryd.ntmps6
    go_wp2_with fail
    refine (awake_any _ HM.out).mono ?_
    rintro e w1 ⟨rfl, hb1⟩
    have HB1 := Lib.hid hb1
    clear hb1
    go_wp2_with fail
    refine ((pexpand_any p _ hp).mono (fun _ _ h => exp_post HEV.out h)).mono ?_
    rintro e w2 ⟨A, c, rfl, hown, hb2⟩
    rw [← HN.out]
    rw [← HN.out] at hown
    have HO := Lib.hid hown
    have HB2 := Lib.hid (btwo HB1.out hb2)
    clear hown hb2
    go_wp2_with fail
    refine ((rexpand_any p _ hp).mono (fun _ _ h => exp_post HEV.out h)).mono ?_
    rintro e w3 ⟨C, d, rfl, hown3, hb3⟩
    rw [← HN.out]
    rw [← HN.out] at hown3
    have HO3 := Lib.hid (own_below HO.out hb3)
    have HS := Lib.hid (strs_own (L := L.map toBA) (by rw [← baCells_str]; exact HO3.out) HNS.out)
    have HS3 := Lib.hid (strs_own (L := L.map toBA) (by rw [← baCells_str]; exact hown3) HNS.out)
    have HB3 := Lib.hid (btwo HB2.out hb3)
    clear hown3 hb3
    go_wp2_with fail
    refine (eqs_any (L.map toBA) (L.map toBA) n n A C c d _ HNS.out HNS.out (by omega) (by omega) HS.out HS3.out).mono ?_
    rintro e w4 ⟨rfl, q, rfl⟩
    rw [show decide (L.map toBA = L.map toBA) = true from decide_eq_true rfl]
    have HB4 := Lib.hid (below_drewN HB3.out q)
    have HO4 := Lib.hid (own_below HO3.out (below_drewN (Below.refl _ _) q))
    generalize w3.drewN q = w4 at HB4 HO4 ⊢
    by_cases hn0 : 0 < n
    · obtain ⟨hpe, hLe⟩ := HOK.out hn0
      have h60 : p.size ≤ 60 := (pErr_zero hpe).1
      obtain ⟨gg, c', hvv, hB, hlt'⟩ := HO4.out.form hn0
      injection hvv with e1 e2 e3
      subst e1; subst e3
      have HCELL := Lib.hid (show ∀ k (q : List UInt8), L[k]? = some q → w4.cell? ⟨gg, k, none⟩ = some (.string (toBA q)) from fun k q hq => by
        have hk : k < L.length := (List.getElem?_eq_some_iff.1 hq).1
        rw [HO4.out.cellAt _ (by have := HN.out; omega)]
        exact baCells_at hq)
      have HMT := Lib.hid (show ∀ q ∈ L, matchV p.data.toList (toBA q).data.toList = true ∧ (toBA q).size = p.size from fun q hq => by
        rw [hLe] at hq
        obtain ⟨i1, i2⟩ := exp_agree (pErr_zero hpe).2 q hq
        have i3 := exp_in _ q hq
        refine ⟨?_, by show q.toArray.size = _; simp [i3]⟩
        rw [toBA_list, match_is hpe (pErr_ok (by rw [i3]; exact (pErr_zero hpe).1) i1) i3.symm]
        exact i2)
      have HCM := Lib.hid (show ∀ k (a b : List UInt8), L[k]? = some a → L[k + 1]? = some b → cmpV (toBA a).data.toList (toBA b).data.toList = -1 from fun k a b ha hb => by
        rw [hLe] at ha hb
        exact exp_next ha hb)
      clear hpe hLe
      go_wp2_with fail
      go_loopw [38] (fun i wr => ∃ k : Nat, k ≤ n ∧ i = .int .i64 (k : Int) ∧ Below w4.heap.size w4 wr) (fun i _ => n - (intOf i).toNat)
      case atStart => exact ⟨0, Nat.zero_le _, rfl, Below.refl _ _⟩
      case round =>
        obtain ⟨k, hk, rfl, hbr⟩ := hrel
        have HBR := Lib.hid hbr
        by_cases hlt : k < n
        · have hkL : k < L.length := by rw [← HN.out]; exact hlt
          obtain ⟨q, hq⟩ : ∃ q, L[k]? = some q := ⟨L[k], List.getElem?_eq_getElem hkL⟩
          obtain ⟨hm1, hm2⟩ := HMT.out q (List.mem_of_getElem? hq)
          have hc := (hbr.cell (p := ⟨gg, k, none⟩) hlt').trans (HCELL.out k q hq)
          obtain ⟨qb, hqb⟩ : ∃ qb, qb = toBA q := ⟨_, rfl⟩
          rw [← hqb] at hc hm1 hm2
          have hqm : qb.size ≤ maxLen := by rw [hm2]; exact hp
          have HM1 := Lib.hid hm1
          by_cases hk0 : 0 < k
          · obtain ⟨j, hj⟩ : ∃ j, k = j + 1 := ⟨k - 1, by omega⟩
            subst hj
            obtain ⟨r, hr⟩ : ∃ r, L[j]? = some r := ⟨L[j], List.getElem?_eq_getElem (by omega)⟩
            obtain ⟨_, hr2⟩ := HMT.out r (List.mem_of_getElem? hr)
            obtain ⟨rb, hrb⟩ : ∃ rb, rb = toBA r := ⟨_, rfl⟩
            have hc2 := (HCELL.out j r hr)
            have HC2 := Lib.hid hc2
            rw [← hrb] at hr2 HC2
            have hrm : rb.size ≤ maxLen := by rw [hr2]; exact hp
            have HC := Lib.hid (show cmpV rb.data.toList qb.data.toList = -1 by rw [hrb, hqb]; exact HCM.out j r q hr hq)
            clear hq hm1 hm2 hqb hr hr2 hrb hc2 hbr hkL
            go_wp2_with fail
            refine (pmatch_is _ hp hqm HM1.out).mono ?_
            rintro e w5 ⟨rfl, hb5⟩
            have HB5 := Lib.hid (HBR.out.trans (hb5.mono HBR.out.size))
            have hc3 := (HB5.out.cell (p := ⟨gg, j, none⟩) hlt').trans HC2.out
            clear hb5
            go_wp2_with fail
            refine (pcompare_is _ hrm hqm HC.out).mono ?_
            rintro e w6 ⟨rfl, q6, rfl⟩
            go_wp2_with fail
            go_roundw
            case rel => exact ⟨j + 2, by omega, by go_num, below_drewN HB5.out _⟩
            case measure => simp [intOf]; omega
          · obtain rfl : k = 0 := by omega
            clear hq hm1 hm2 hqb hbr hkL
            go_wp2_with fail
            refine (pmatch_is _ hp hqm HM1.out).mono ?_
            rintro e w5 ⟨rfl, hb5⟩
            have HB5 := Lib.hid (HBR.out.trans (hb5.mono HBR.out.size))
            clear hb5
            go_wp2_with fail
            go_roundw
            case rel => exact ⟨1, by omega, by go_num, HB5.out⟩
            case measure => simp [intOf]; omega
        · clear hbr
          go_wp2
          go_ret
          exact ⟨rfl, btwo HB4.out HBR.out⟩
    · obtain rfl : n = 0 := by omega
      go_wp2
      refine wp_loop_rounds 1 ?_
      rw [rounds_succ]
      go_wp2
      go_ret
      exact ⟨rfl, HB4.out⟩
end Go.Proofs.YtlkigmlgbnlkaaaDoor
