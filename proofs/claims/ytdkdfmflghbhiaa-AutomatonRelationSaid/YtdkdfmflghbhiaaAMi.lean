/- Plain mathematics: places sorted by counting. Nothing here speaks of the program. -/
import Derived.Test.YtdkdfmflghbhiaaAMh
namespace Go.Proofs.Ytdkdfmflghbhiaa
set_option linter.unusedVariables false
set_option linter.unusedSimpArgs false

/-- What a place of the list of next states is sorted by. -/
def keyOf (nx : List Int) (k p : Nat) : Nat := (nx.getD p (-1)).toNat * k + p % k
def hasKey (nx : List Int) (p : Nat) : Bool := decide (nx.getD p (-1) ≠ -1)
/-- The places below m with a key. -/
def Kp (nx : List Int) (k n m : Nat) : List Nat := (List.range m).filter fun p => hasKey nx p && decide (keyOf nx k p = n)
/-- How many places have a lesser key. -/
def tot (nx : List Int) (k n : Nat) : Nat := ((List.range nx.length).filter fun p => hasKey nx p && decide (keyOf nx k p < n)).length
section
variable {nx : List Int} {k N : Nat}
theorem filt_split {a b c : Nat → Bool} (h : ∀ x, c x = (a x || b x)) (h2 : ∀ x, ¬ (a x = true ∧ b x = true)) : ∀ l : List Nat, (l.filter c).length = (l.filter a).length + (l.filter b).length
  | [] => rfl
  | x :: l => by
    have ih := filt_split h h2 l
    have e := h x
    have e2 := h2 x
    cases ha : a x <;> cases hb : b x <;> rw [ha, hb] at e <;> simp [List.filter_cons, ha, hb, e, ih] <;> first | omega | exact (e2 ⟨ha, hb⟩).elim
theorem Kp_succ (n m : Nat) : Kp nx k n (m + 1) = if hasKey nx m = true ∧ keyOf nx k m = n then Kp nx k n m ++ [m] else Kp nx k n m := by
  unfold Kp
  rw [List.range_succ, List.filter_append]
  by_cases h : hasKey nx m = true ∧ keyOf nx k m = n
  · rw [if_pos h]; simp [List.filter_cons, h.1, h.2]
  · rw [if_neg h]
    have : (hasKey nx m && decide (keyOf nx k m = n)) = false := by
      cases e : hasKey nx m with
      | false => rfl
      | true => simp; exact fun e2 => h ⟨e, e2⟩
    simp [List.filter_cons, this]
theorem Kp_zero (n : Nat) : Kp nx k n 0 = [] := rfl
theorem tot_succ (n : Nat) : tot nx k (n + 1) = tot nx k n + (Kp nx k n nx.length).length := by
  unfold tot Kp
  refine filt_split (fun x => ?_) (fun x => ?_) _
  · cases hasKey nx x with
    | false => rfl
    | true =>
      simp only [Bool.true_and]
      rw [Bool.eq_iff_iff]; simp; omega
  · rintro ⟨h1, h2⟩
    simp only [Bool.and_eq_true, decide_eq_true_eq] at h1 h2
    omega
theorem tot_zero : tot nx k 0 = 0 := by
  unfold tot
  rw [List.length_eq_zero_iff, List.filter_eq_nil_iff]
  intro x _ h
  simp at h
theorem tot_le (n : Nat) : tot nx k n ≤ nx.length := by
  unfold tot
  have := List.length_filter_le (fun p => hasKey nx p && decide (keyOf nx k p < n)) (List.range nx.length)
  rwa [List.length_range] at this
theorem tot_mono {a b : Nat} (h : a ≤ b) : tot nx k a ≤ tot nx k b := by
  induction h with
  | refl => exact Nat.le_refl _
  | step _ ih => rw [tot_succ]; omega
theorem Kp_prefix {n m M : Nat} (h : m ≤ M) : Kp nx k n m <+: Kp nx k n M := by
  induction h with
  | refl => exact List.prefix_refl _
  | step _ ih =>
    rw [Kp_succ]
    split
    · exact ih.trans (List.prefix_append _ _)
    · exact ih
theorem prefix_at {α : Type} {l L : List α} (h : l <+: L) {j : Nat} {x : α} (hj : l[j]? = some x) : L[j]? = some x := by
  obtain ⟨t, rfl⟩ := h
  rw [List.getElem?_append_left (List.getElem?_eq_some_iff.1 hj).1]; exact hj
theorem Kp_mem {n m p : Nat} : p ∈ Kp nx k n m ↔ p < m ∧ hasKey nx p = true ∧ keyOf nx k p = n := by
  unfold Kp; rw [List.mem_filter, List.mem_range]; simp
theorem Kp_nodup (n m : Nat) : (Kp nx k n m).Nodup := List.nodup_range.sublist List.filter_sublist
/-- The first list, behind the first loop. -/
structure Fst1 (nx : List Int) (k m : Nat) (L : List Int) : Prop where
  len : L.length = nx.length + 1
  z : L.getD 0 0 = 0
  at' : ∀ n, n < nx.length → L.getD (n + 1) 0 = ((Kp nx k n m).length : Int)
theorem Fst1.start : Fst1 nx k 0 (List.replicate (nx.length + 1) 0) := by
  refine ⟨by simp, ?_, fun n hn => ?_⟩
  · rw [List.getD_eq_getElem?_getD, List.getElem?_replicate, if_pos (by omega)]; rfl
  · rw [List.getD_eq_getElem?_getD, List.getElem?_replicate, if_pos (by omega)]; rfl
theorem Fst1.skip {m : Nat} {L : List Int} (h : Fst1 nx k m L) (hk : hasKey nx m = false) : Fst1 nx k (m + 1) L := by
  refine ⟨h.len, h.z, fun n hn => ?_⟩
  rw [Kp_succ, if_neg (by rw [hk]; simp)]
  exact h.at' n hn
theorem Fst1.step {m n0 : Nat} {L : List Int} (h : Fst1 nx k m L) (hk : hasKey nx m = true) (h0 : keyOf nx k m = n0) (hn0 : n0 < nx.length) : Fst1 nx k (m + 1) (L.set (n0 + 1) (L.getD (n0 + 1) 0 + 1)) := by
  refine ⟨by rw [List.length_set]; exact h.len, ?_, fun n hn => ?_⟩
  · rw [getD_set (by rw [h.len]; omega), if_neg (by omega)]; exact h.z
  · rw [getD_set (by rw [h.len]; omega), Kp_succ]
    by_cases e : n = n0
    · subst e
      rw [if_pos rfl, if_pos ⟨hk, h0⟩, h.at' n hn, List.length_append]; simp
    · rw [if_neg (by omega), if_neg (by rintro ⟨_, h1⟩; omega)]
      exact h.at' n hn
/-- The first list, in the second loop. -/
structure Fst2 (nx : List Int) (k m : Nat) (L : List Int) : Prop where
  len : L.length = nx.length + 1
  lo : ∀ n, n ≤ m → L.getD n 0 = (tot nx k n : Int)
  hi : ∀ n, m ≤ n → n < nx.length → L.getD (n + 1) 0 = ((Kp nx k n nx.length).length : Int)
theorem Fst1.two {L : List Int} (h : Fst1 nx k nx.length L) : Fst2 nx k 0 L := by
  refine ⟨h.len, fun n hn => ?_, fun n _ hn => h.at' n hn⟩
  have : n = 0 := by omega
  subst this
  rw [h.z, tot_zero]; rfl
theorem Fst2.step {m : Nat} {L : List Int} (h : Fst2 nx k m L) (hm : m < nx.length) : Fst2 nx k (m + 1) (L.set (m + 1) (L.getD (m + 1) 0 + L.getD m 0)) := by
  refine ⟨by rw [List.length_set]; exact h.len, fun n hn => ?_, fun n h1 h2 => ?_⟩
  · rw [getD_set (by rw [h.len]; omega)]
    by_cases e : n = m + 1
    · subst e
      rw [if_pos rfl, h.hi m (Nat.le_refl _) hm, h.lo m (Nat.le_refl _), tot_succ]
      simp; omega
    · rw [if_neg e]; exact h.lo n (by omega)
  · rw [getD_set (by rw [h.len]; omega), if_neg (by omega)]
    exact h.hi n (by omega) h2
/-- The places are sorted as far as m. -/
structure Srt (nx : List Int) (k m : Nat) (free from' : List Int) : Prop where
  lf : free.length = nx.length + 1
  lr : from'.length = tot nx k nx.length
  fr : ∀ n, n < nx.length → free.getD n 0 = ((tot nx k n + (Kp nx k n m).length : Nat) : Int)
  at' : ∀ n j p, n < nx.length → (Kp nx k n m)[j]? = some p → from'.getD (tot nx k n + j) 0 = ((p / k : Nat) : Int)
theorem Srt.start {L : List Int} (h : Fst2 nx k nx.length L) : Srt nx k 0 L (List.replicate (tot nx k nx.length) 0) := by
  refine ⟨h.len, by simp, fun n hn => ?_, fun n j p _ hj => by rw [Kp_zero] at hj; simp at hj⟩
  rw [h.lo n (by omega), Kp_zero]; rfl
theorem Srt.skip {m : Nat} {free from' : List Int} (h : Srt nx k m free from') (hk : hasKey nx m = false) : Srt nx k (m + 1) free from' := by
  have e : ∀ n, Kp nx k n (m + 1) = Kp nx k n m := fun n => by rw [Kp_succ, if_neg (by rw [hk]; simp)]
  refine ⟨h.lf, h.lr, fun n hn => ?_, fun n j p hn hj => ?_⟩
  · rw [e]; exact h.fr n hn
  · rw [e] at hj; exact h.at' n j p hn hj
theorem Kp_room {m n : Nat} (hm : m < nx.length) (hk : hasKey nx m = true) (h0 : keyOf nx k m = n) : tot nx k n + (Kp nx k n m).length < tot nx k (n + 1) := by
  rw [tot_succ]
  have h1 : Kp nx k n (m + 1) <+: Kp nx k n nx.length := Kp_prefix (by omega)
  have h2 := h1.length_le
  rw [Kp_succ, if_pos ⟨hk, h0⟩, List.length_append] at h2
  simp at h2
  omega
theorem Srt.step {m n0 : Nat} {free from' : List Int} (h : Srt nx k m free from') (hm : m < nx.length) (hk : hasKey nx m = true) (h0 : keyOf nx k m = n0) (hn0 : n0 < nx.length) :
    Srt nx k (m + 1) (free.set n0 (free.getD n0 0 + 1)) (from'.set (tot nx k n0 + (Kp nx k n0 m).length) ((m / k : Nat) : Int)) := by
  have room := Kp_room hm hk h0
  have hle : tot nx k (n0 + 1) ≤ tot nx k nx.length := tot_mono (by omega)
  refine ⟨by rw [List.length_set]; exact h.lf, by rw [List.length_set]; exact h.lr, fun n hn => ?_, fun n j p hn hj => ?_⟩
  · rw [getD_set (by rw [h.lf]; omega), Kp_succ]
    by_cases e : n = n0
    · subst e
      rw [if_pos rfl, if_pos ⟨hk, h0⟩, h.fr n hn, List.length_append]; simp; omega
    · rw [if_neg e, if_neg (by rintro ⟨_, h1⟩; omega)]
      exact h.fr n hn
  · rw [getD_set (by rw [h.lr]; omega)]
    rw [Kp_succ] at hj
    by_cases e : n = n0
    · subst e
      rw [if_pos ⟨hk, h0⟩] at hj
      rcases get_snoc hj with ⟨h1, h2⟩ | ⟨h1, h2⟩
      · rw [if_neg (by omega)]; exact h.at' n j p hn h2
      · rw [if_pos (by omega), h2]
    · rw [if_neg (by rintro ⟨_, h1⟩; omega)] at hj
      rw [if_neg]
      · exact h.at' n j p hn hj
      · intro e2
        have h1 : (Kp nx k n m).length ≤ (Kp nx k n nx.length).length := (Kp_prefix (Nat.le_of_lt hm)).length_le
        have h2 := (List.getElem?_eq_some_iff.1 hj).1
        have h3 := tot_succ (nx := nx) (k := k) n
        rcases Nat.lt_or_gt_of_ne e with h4 | h4
        · have := tot_mono (nx := nx) (k := k) (show n + 1 ≤ n0 by omega)
          omega
        · have := tot_mono (nx := nx) (k := k) (show n0 + 1 ≤ n by omega)
          omega
/-- What the sorting leaves. -/
structure Src (nx : List Int) (k : Nat) (first from' : List Int) : Prop where
  lf : first.length = nx.length + 1
  lr : from'.length = tot nx k nx.length
  fi : ∀ n, n ≤ nx.length → first.getD n 0 = (tot nx k n : Int)
  at' : ∀ n j p, n < nx.length → (Kp nx k n nx.length)[j]? = some p → from'.getD (tot nx k n + j) 0 = ((p / k : Nat) : Int)
theorem Srt.done {L free from' : List Int} (h : Fst2 nx k nx.length L) (g : Srt nx k nx.length free from') : Src nx k L from' := ⟨h.len, g.lr, fun n hn => h.lo n hn, g.at'⟩
/-- Right next states. -/
def NxOk (N k : Nat) (nx : List Int) : Prop := nx.length = N * k ∧ ∀ x ∈ nx, -1 ≤ x ∧ x < N
theorem NxOk.nin (h : NxOk N k nx) {q c : Nat} (hq : q < N) (hc : c < k) : -1 ≤ nxF nx k q c ∧ nxF nx k q c < N := by
  unfold nxF
  rw [getD_at (by rw [h.1]; exact pos_up hc hq)]
  exact h.2 _ (List.getElem_mem _)
theorem NxOk.key (h : NxOk N k nx) (hk : 0 < k) {p : Nat} (hp : p < nx.length) (hh : hasKey nx p = true) : ∃ t : Nat, nx.getD p (-1) = t ∧ t < N ∧ keyOf nx k p = t * k + p % k ∧ keyOf nx k p < nx.length := by
  have h1 := h.2 _ (List.getElem_mem hp)
  rw [← getD_at (d := -1) hp] at h1
  have h2 : nx.getD p (-1) ≠ -1 := of_decide_eq_true hh
  obtain ⟨t, ht⟩ := Int.eq_ofNat_of_zero_le (show 0 ≤ nx.getD p (-1) by omega)
  refine ⟨t, ht, by omega, by unfold keyOf; rw [ht]; rfl, ?_⟩
  unfold keyOf
  rw [ht, h.1]
  exact pos_up (Nat.mod_lt p hk) (by simp; omega)
/-- Those of a target and a letter. -/
theorem Kp_by (h : NxOk N k nx) (hk : 0 < k) {t c p : Nat} (hc : c < k) : p ∈ Kp nx k (t * k + c) nx.length ↔ p < nx.length ∧ p % k = c ∧ nxF nx k (p / k) c = t := by
  rw [Kp_mem]
  constructor
  · rintro ⟨h1, h2, h3⟩
    obtain ⟨t', a1, a2, a3, a4⟩ := h.key hk h1 h2
    obtain ⟨e1, e2⟩ := pos_eq (Nat.mod_lt p hk) hc (a3.symm.trans h3)
    refine ⟨h1, e2, ?_⟩
    unfold nxF
    rw [← e2, pos_mk, a1, e1]
  · rintro ⟨h1, h2, h3⟩
    have e : nx.getD p (-1) = t := by
      have := h3
      unfold nxF at this
      rw [← h2, pos_mk] at this
      exact this
    refine ⟨h1, decide_eq_true (by rw [e]; omega), ?_⟩
    unfold keyOf
    rw [e, h2]; rfl
/-- The list that 'by' returns. -/
def byL (nx : List Int) (k t c : Nat) : List Nat := (Kp nx k (t * k + c) nx.length).map (· / k)
theorem byL_mem (h : NxOk N k nx) (hk : 0 < k) {t c q : Nat} (hc : c < k) : q ∈ byL nx k t c ↔ q < N ∧ nxF nx k q c = t := by
  unfold byL
  rw [List.mem_map]
  constructor
  · rintro ⟨p, hp, rfl⟩
    obtain ⟨h1, h2, h3⟩ := (Kp_by h hk hc).1 hp
    exact ⟨(Nat.div_lt_iff_lt_mul hk).2 (by rw [← h.1]; exact h1), h3⟩
  · rintro ⟨h1, h2⟩
    obtain ⟨d1, d2⟩ := pos_div (i := q) hc
    exact ⟨q * k + c, (Kp_by h hk hc).2 ⟨by rw [h.1]; exact pos_up hc h1, d2, by rw [d1]; exact h2⟩, d1⟩
theorem byL_nodup (h : NxOk N k nx) (hk : 0 < k) {t c : Nat} (hc : c < k) : (byL nx k t c).Nodup := by
  refine nodup_of fun i j x e1 e2 => ?_
  unfold byL at e1 e2
  rw [List.getElem?_map] at e1 e2
  cases a1 : (Kp nx k (t * k + c) nx.length)[i]? with
  | none => rw [a1] at e1; cases e1
  | some p =>
    cases a2 : (Kp nx k (t * k + c) nx.length)[j]? with
    | none => rw [a2] at e2; cases e2
    | some q =>
      rw [a1] at e1; rw [a2] at e2
      injection e1 with e1; injection e2 with e2
      dsimp only at e1 e2
      have hp := (Kp_by h hk hc).1 (List.mem_of_getElem? a1)
      have hq := (Kp_by h hk hc).1 (List.mem_of_getElem? a2)
      have e : p = q := by rw [← pos_mk p k, ← pos_mk q k, hp.2.1, hq.2.1, e1, e2]
      subst e
      have hn := List.pairwise_iff_getElem.1 (Kp_nodup (nx := nx) (k := k) (t * k + c) nx.length)
      obtain ⟨x1, x2⟩ := List.getElem?_eq_some_iff.1 a1
      obtain ⟨y1, y2⟩ := List.getElem?_eq_some_iff.1 a2
      rcases Nat.lt_trichotomy i j with l | l | l
      · exact absurd (x2.trans y2.symm) (hn i j x1 y1 l)
      · exact l
      · exact absurd (y2.trans x2.symm) (hn j i y1 x1 l)
theorem byL_len (t c : Nat) : (byL nx k t c).length = tot nx k (t * k + c + 1) - tot nx k (t * k + c) := by unfold byL; rw [List.length_map, tot_succ]; omega
/-- What stands in the slice of a key. -/
theorem Src.by' {first from' : List Int} (h : Src nx k first from') {t c j : Nat} (hn : t * k + c < nx.length) (hj : j < (byL nx k t c).length) : from'.getD (tot nx k (t * k + c) + j) 0 = (((byL nx k t c).getD j 0 : Nat) : Int) := by
  unfold byL at hj ⊢
  rw [List.length_map] at hj
  rw [h.at' (t * k + c) j _ hn (List.getElem?_eq_getElem hj), List.getD_eq_getElem?_getD, List.getElem?_map, List.getElem?_eq_getElem hj]; rfl
/-- Between the places of two keys there is a key. -/
theorem tot_find {a b i : Nat} (h : a ≤ b) (h1 : tot nx k a ≤ i) (h2 : i < tot nx k b) : ∃ n, a ≤ n ∧ n < b ∧ tot nx k n ≤ i ∧ i < tot nx k (n + 1) := by
  induction h with
  | refl => omega
  | @step b hb ih =>
    by_cases c : i < tot nx k b
    · obtain ⟨n, a1, a2, a3⟩ := ih c
      exact ⟨n, a1, by omega, a3⟩
    · exact ⟨b, hb, by omega, by omega, h2⟩
/-- What stands in the slice of a target. -/
theorem Src.all {first from' : List Int} (h : Src nx k first from') (hx : NxOk N k nx) (hk : 0 < k) {t i : Nat} (ht : t < N) (h1 : tot nx k (t * k) ≤ i) (h2 : i < tot nx k ((t + 1) * k)) :
    ∃ q c : Nat, from'.getD i 0 = (q : Int) ∧ q < N ∧ c < k ∧ nxF nx k q c = t := by
  rw [Nat.add_mul, Nat.one_mul] at h2
  obtain ⟨n, a1, a2, a3, a4⟩ := tot_find (by omega) h1 h2
  have hs := tot_succ (nx := nx) (k := k) n
  have hj : i - tot nx k n < (Kp nx k n nx.length).length := by omega
  have e : n = t * k + (n - t * k) := by omega
  have hc : n - t * k < k := by omega
  have hnl : n < nx.length := by
    rw [hx.1]
    have := Nat.mul_le_mul_right k (show t + 1 ≤ N from ht)
    rw [Nat.add_mul] at this
    omega
  have hm : (Kp nx k n nx.length)[i - tot nx k n] ∈ Kp nx k (t * k + (n - t * k)) nx.length := by rw [← e]; exact List.getElem_mem hj
  obtain ⟨b1, b2, b3⟩ := (Kp_by hx hk hc).1 hm
  have := h.at' n (i - tot nx k n) _ hnl (List.getElem?_eq_getElem hj)
  rw [show tot nx k n + (i - tot nx k n) = i by omega] at this
  exact ⟨_, n - t * k, this, (Nat.div_lt_iff_lt_mul hk).2 (by rw [← hx.1]; exact b1), hc, b3⟩
theorem Src.all_has {first from' : List Int} (h : Src nx k first from') (hx : NxOk N k nx) (hk : 0 < k) {t q c : Nat} (ht : t < N) (hq : q < N) (hc : c < k) (hn : nxF nx k q c = t) :
    ∃ i, tot nx k (t * k) ≤ i ∧ i < tot nx k ((t + 1) * k) ∧ from'.getD i 0 = (q : Int) := by
  have hm := (byL_mem hx hk hc).2 ⟨hq, hn⟩
  obtain ⟨j, hj⟩ := mem_at hm
  have hjl := (List.getElem?_eq_some_iff.1 hj).1
  have hnl : t * k + c < nx.length := by rw [hx.1]; exact pos_up hc ht
  have hb := h.by' hnl hjl
  have e3 : (byL nx k t c).getD j 0 = q := by rw [List.getD_eq_getElem?_getD, hj]; rfl
  rw [e3] at hb
  rw [byL_len] at hjl
  refine ⟨tot nx k (t * k + c) + j, ?_, ?_, hb⟩
  · have := tot_mono (nx := nx) (k := k) (show t * k ≤ t * k + c by omega); omega
  · have := tot_mono (nx := nx) (k := k) (show t * k + c + 1 ≤ (t + 1) * k by rw [Nat.add_mul]; omega)
    omega
end
end Go.Proofs.Ytdkdfmflghbhiaa
