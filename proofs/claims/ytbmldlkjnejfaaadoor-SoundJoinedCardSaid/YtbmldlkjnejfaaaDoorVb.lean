/- What the walk of SoundJoined uses. -/
import Derived.Test.YtbmldlkjnejfaaaDoorVa
import Derived.Test.YtbmldlkjnejfaaaDoorUq
import Derived.Test.YtbmldlkjnejfaaaDoorUw
namespace Go.Proofs.YtbmldlkjnejfaaaDoor
open Go.RowKit
set_option linter.unusedVariables false
set_option linter.unusedSimpArgs false
set_option maxRecDepth 100000

abbrev slV (v : Option Addr × Nat) (row : List Snd) : Value := .slice v.1 row.length v.2
/-- Clusters that can be read: the values of the rows, and the rows. -/
structure CluIn (w : World) (A : Option Addr) (vs : List (Option Addr × Nat)) (R : List (List Snd)) : Prop where
  len : vs.length = R.length
  vals : CellsIn w A (List.zipWith slV vs R)
  row : ∀ (j : Nat) v row, vs[j]? = some v → R[j]? = some row → row.length ≤ v.2 ∧ CellsIn w v.1 (sndsC row)
theorem CluIn.below {w w' : World} {A : Option Addr} {vs : List (Option Addr × Nat)} {R : List (List Snd)} (h : CluIn w A vs R) (hb : Below w.heap.size w w') : CluIn w' A vs R :=
  ⟨h.len, h.vals.below hb, fun j v row hv hr => by obtain ⟨a, b⟩ := h.row j v row hv hr; exact ⟨a, b.below hb⟩⟩
theorem CluIn.of {W w : World} {A : Option Addr} {n c : Nat} {vs : List (Option Addr × Nat)} {R : List (List Snd)} (h : Hp W (srv A n c vs R :: srows vs R) w) (hv : vs.length = n) (hn : R.length = n) : CluIn w A vs R := by
  refine ⟨by omega, h.cells (i := 0) (A := A) (c := c) rfl rfl, fun j v row hj hr => ?_⟩
  have hit : (srv A n c vs R :: srows vs R)[j + 1]? = some (snds v.1 row.length v.2 row) := by rw [List.getElem?_cons_succ]; exact srows_get hj hr
  exact ⟨(h.cap hit (A := v.1) (c := v.2) rfl).1, h.cells hit rfl⟩
theorem CluIn.rows {w : World} {A : Option Addr} {vs : List (Option Addr × Nat)} {R : List (List Snd)} (h : CluIn w A vs R) (hb : ∀ r ∈ R, r.length ≤ 1000000) : SRows w A R := by
  intro h0
  obtain ⟨b, off, e, hlt, hc⟩ := h.vals (by rw [List.length_zipWith, h.len]; omega)
  refine ⟨b, off, e, hlt, fun j row hr => ?_⟩
  have hj := (List.getElem?_eq_some_iff.1 hr).1
  obtain ⟨v, hv⟩ := get_at (show j < vs.length by rw [h.len]; exact hj)
  obtain ⟨h1, h2⟩ := h.row j v row hv hr
  exact ⟨v.1, v.2, hc j _ (by rw [List.getElem?_zipWith, hv, hr]), h1, Nat.le_trans (hb row (List.mem_of_getElem? hr)) (by decide), h2⟩
/-- A cell of the rows. -/
theorem CluIn.at {w : World} {A : Option Addr} {vs : List (Option Addr × Nat)} {R : List (List Snd)} (h : CluIn w A vs R) {j : Nat} {row : List Snd} (hr : R[j]? = some row) : ∃ v b off, vs[j]? = some v ∧ A = some ⟨b, off, none⟩ ∧ b < w.heap.size ∧ w.cell? ⟨b, off + j, none⟩ = some (.slice v.1 row.length v.2) ∧ CellsIn w v.1 (sndsC row) := by
  have hj := (List.getElem?_eq_some_iff.1 hr).1
  obtain ⟨b, off, e, hlt, hc⟩ := h.vals (by rw [List.length_zipWith, h.len]; omega)
  obtain ⟨v, hv⟩ := get_at (show j < vs.length by rw [h.len]; exact hj)
  obtain ⟨_, h2⟩ := h.row j v row hv hr
  exact ⟨v, b, off, hv, e, hlt, hc j _ (by rw [List.getElem?_zipWith, hv, hr]), h2⟩
theorem slV_one (vs : List (Option Addr × Nat)) (R : List (List Snd)) : ∀ u ∈ List.zipWith slV vs R, u.oneCell' = true := by
  intro u hu
  rw [List.mem_iff_getElem?] at hu
  obtain ⟨j, hj⟩ := hu
  rw [List.getElem?_zipWith] at hj
  split at hj
  · rw [← Option.some.inj hj]; rfl
  · cases hj
theorem CellsIn.takeC {w : World} {A : Option Addr} {xs : List Value} (h : CellsIn w A xs) (k : Nat) : CellsIn w A (xs.take k) := by
  intro h0
  obtain ⟨b, off, e, hlt, hc⟩ := h (by rw [List.length_take] at h0; omega)
  refine ⟨b, off, e, hlt, fun j u hu => hc j u ?_⟩
  have hj := (List.getElem?_eq_some_iff.1 hu).1
  rw [List.length_take] at hj
  rwa [List.getElem?_take_of_lt (by omega)] at hu
theorem CellsIn.drop1 {w : World} {b off : Nat} {xs : List Value} (h : CellsIn w (some ⟨b, off, none⟩) xs) (d : Nat) (hd : xs.length ≤ d) : CellsIn w (if d = 1 then some ⟨b, off, none⟩ else some ⟨b, off + 1, none⟩) (xs.drop 1) := by
  intro h0
  rw [List.length_drop] at h0
  obtain ⟨b2, off2, e, hlt, hc⟩ := h (by omega)
  injection e with e
  injection e with e1 e2
  subst e1; subst e2
  rw [if_neg (by omega)]
  refine ⟨b, off + 1, rfl, hlt, fun j u hu => ?_⟩
  rw [List.getElem?_drop] at hu
  rw [show off + 1 + j = off + (1 + j) by omega]
  exact hc _ u hu
/-- Two lists of sounds, one behind the other. -/
theorem concat2_any (L M : List Snd) (n m c d : Nat) (A C : Option Addr) (w : World) (hn : L.length = n) (hm : M.length = m) (hb : n + m ≤ 1000) (hA : CellsIn w A (sndsC L)) (hC : CellsIn w C (sndsC M)) (g : Nat) (wb : World) (hg : g = w.heap.size) (hw : wb = w.alloc (.cells #[.slice A n c, .slice C m d] 26)) :
    Calls Tryd.prog 34 #[.slice (some ⟨g, 0, none⟩) 2 2] wb fun e w' => ∃ D f, e = .returned (.slice D (n + m) f) ∧ Hp wb [snds D (n + m) f (L ++ M)] w' := by
  have hB : Below w.heap.size w wb := by rw [hw]; exact bnew _ _
  have hS : sumV [(A, n, c), (C, m, d)] = n + m := by simp [sumV]
  have h := concat_snd [(A, n, c), (C, m, d)] [sndsC L, sndsC M] 2 2 (some ⟨g, 0, none⟩) wb rfl (by decide) (by rw [hS]; omega) ⟨rfl, by
      rw [hw, hg]
      exact ((Hp.start w).lit 26 1 2 [.slice A n c, .slice C m d] rfl (by decide)).cells (i := 0) (A := some ⟨w.heap.size, 0, none⟩) (c := 2) rfl rfl, fun j v x hv hx => by
      match j, hv, hx with
      | 0, hv, hx =>
        injection hv with hv; injection hx with hx; subst hv; subst hx
        exact ⟨by rw [sndsC_len, hn], hA.below hB, sndsC_one L⟩
      | 1, hv, hx =>
        injection hv with hv; injection hx with hx; subst hv; subst hx
        exact ⟨by rw [sndsC_len, hm], hC.below hB, sndsC_one M⟩
      | j + 2, hv, hx => simp at hv⟩
  rw [hS] at h
  refine h.mono ?_
  rintro e w' ⟨D, f, rfl, hp⟩
  refine ⟨D, f, rfl, ?_⟩
  rw [show ([sndsC L, sndsC M] : List (List Value)).flatten = sndsC (L ++ M) by rw [sndsC_cat]; simp] at hp
  exact hp
/-- Three lists of rows, one behind the other. -/
theorem concat3_any (vs us : List (Option Addr × Nat)) (R Q : List (List Snd)) (row : List Snd) (p q r c d f : Nat) (A C D E : Option Addr) (w : World) (hp : vs.length = p) (hR : R.length = p) (hq : us.length = q) (hQ : Q.length = q) (hb : p + q ≤ 1000) (hrow : row.length = r)
    (hA : CellsIn w A (List.zipWith slV vs R)) (hC : CellsIn w C (List.zipWith slV us Q)) (hD : CellsIn w D [.slice E r f]) (g : Nat) (wb : World) (hg : g = w.heap.size) (hw : wb = w.alloc (.cells #[.slice A p c, .slice D 1 1, .slice C q d] 36)) :
    Calls Tryd.prog 35 #[.slice (some ⟨g, 0, none⟩) 3 3] wb fun e w' => ∃ K h, e = .returned (.slice K (p + 1 + q) h) ∧ Below wb.heap.size wb w' ∧ CellsIn w' K (List.zipWith slV (vs ++ (E, f) :: us) (R ++ row :: Q)) := by
  have hB : Below w.heap.size w wb := by rw [hw]; exact bnew _ _
  have hS : sumV [(A, p, c), (D, 1, 1), (C, q, d)] = p + 1 + q := by simp [sumV]; omega
  have h := concat_row [(A, p, c), (D, 1, 1), (C, q, d)] [List.zipWith slV vs R, [.slice E r f], List.zipWith slV us Q] 3 3 (some ⟨g, 0, none⟩) wb rfl (by decide) (by rw [hS]; omega) ⟨rfl, by
      rw [hw, hg]
      exact ((Hp.start w).lit 36 1 3 [.slice A p c, .slice D 1 1, .slice C q d] rfl (by decide)).cells (i := 0) (A := some ⟨w.heap.size, 0, none⟩) (c := 3) rfl rfl, fun j v x hv hx => by
      match j, hv, hx with
      | 0, hv, hx =>
        injection hv with hv; injection hx with hx; subst hv; subst hx
        exact ⟨by rw [List.length_zipWith, hp, hR]; simp, hA.below hB, slV_one vs R⟩
      | 1, hv, hx =>
        injection hv with hv; injection hx with hx; subst hv; subst hx
        exact ⟨rfl, hD.below hB, fun u hu => by rw [List.mem_singleton.1 hu]; rfl⟩
      | 2, hv, hx =>
        injection hv with hv; injection hx with hx; subst hv; subst hx
        exact ⟨by rw [List.length_zipWith, hq, hQ]; simp, hC.below hB, slV_one us Q⟩
      | j + 3, hv, hx => simp at hv⟩
  rw [hS] at h
  refine h.mono ?_
  rintro e w' ⟨K, h9, rfl, hp9⟩
  refine ⟨K, h9, rfl, hp9.below, ?_⟩
  have hc := hp9.cells (i := 0) (A := K) (c := h9) rfl rfl
  have e : ([List.zipWith slV vs R, [.slice E r f], List.zipWith slV us Q] : List (List Value)).flatten = List.zipWith slV (vs ++ (E, f) :: us) (R ++ row :: Q) := by
    rw [List.zipWith_append (by omega), List.zipWith_cons_cons]
    simp [slV, hrow]
  rw [← e]
  exact hc
theorem joined_clu (L M : List Snd) {p : Nat} {u v : List Snd} (hp : (cluL L).length = p + 1) (hu : (cluL L)[p]? = some u) (hv : (cluL M)[0]? = some v) : cluL (L ++ M) = (cluL L).take p ++ (u ++ v) :: (cluL M).drop 1 := by
  have h := splL_cat nuc L M
  have e1 : cluL L = (splS nuc L).1 ++ [(splS nuc L).2] := rfl
  have e2 : cluL M = (spl nuc M).1 :: (spl nuc M).2 := splL_spl nuc M
  have hl : (splS nuc L).1.length = p := by rw [e1] at hp; simpa using hp
  rw [e1, List.getElem?_append_right (by omega), hl, Nat.sub_self] at hu
  rw [e2] at hv
  have hu2 : (splS nuc L).2 = u := by simpa using hu
  have hv2 : (spl nuc M).1 = v := by simpa using hv
  show splL nuc (L ++ M) = _
  rw [h, hu2, hv2, e1, e2, List.take_left' hl]
  rfl
theorem joined_txt {L M : List Snd} : txL (L ++ M) = if 0 < L.length ∧ 0 < M.length then txL L ++ 32 :: txL M else txL L ++ txL M := by
  cases L with
  | nil => simp [txL, jn]
  | cons x r =>
    cases M with
    | nil => simp [txL, jn]
    | cons y s => rw [if_pos (by simp), txL_cat (by simp) (by simp)]
end Go.Proofs.YtbmldlkjnejfaaaDoor
