/- Several texts in one: JC, JD. -/
import Derived.Test.YtpifchlpakajjaaGreatRtaq
namespace Go.Proofs.YtpifchlpakajjaaGreat
open Go.RowKit
set_option linter.unusedVariables false
set_option linter.unusedSimpArgs false
set_option maxRecDepth 100000

def wdE (s : List UInt8) : Int := if s.length = 0 then 7 else if 16 < s.length then 3 else if s.all isLow = true then 0 else 2
theorem wdE_zero {s : List UInt8} (h : wdE s = 0) : 0 < s.length ∧ s.length ≤ 16 ∧ s.all isLow = true := by
  unfold wdE at h
  split at h
  · cases h
  · split at h
    · cases h
    · split at h
      · exact ⟨by omega, by omega, by assumption⟩
      · cases h
def gvE (nm : List UInt8) (L : List Sg) (s : List UInt8) : Int := if (vO nm L).2 = 0 then wdE s else (vO nm L).2
theorem gvE_zero {nm : List UInt8} {L : List Sg} {s : List UInt8} (h : gvE nm L s = 0) : (vO nm L).2 = 0 ∧ wdE s = 0 := by
  unfold gvE at h
  split at h
  · exact ⟨by assumption, h⟩
  · exact absurd h (by assumption)
theorem TxNe.ok {nm : List UInt8} {L : List Sg} (h : (vO nm L).2 = 0) : TxNe L := fun x hx => (txE_zero (sgE_zero ((vO_zero h).2.2.2 x hx)).1).1
def rgI (n : Nat) (d : List Int) : Bool := d.all fun i => decide (0 ≤ i) && decide (i < (n : Int))
def dN (d : List Int) : List Nat := d.map Int.toNat
def dI (d : List Nat) : List Int := d.map Int.ofNat
theorem dI_len (d : List Nat) : (dI d).length = d.length := by simp [dI]
theorem dN_len (d : List Int) : (dN d).length = d.length := by simp [dN]
theorem dN_dI (d : List Nat) : dN (dI d) = d := by
  unfold dN dI
  rw [List.map_map]
  have : (Int.toNat ∘ Int.ofNat) = id := by funext x; rfl
  rw [this, List.map_id]
theorem rgI_is {n : Nat} {d : List Int} : rgI n d = true ↔ ∀ i ∈ d, 0 ≤ i ∧ i < (n : Int) := by
  unfold rgI
  rw [List.all_eq_true]
  constructor
  · intro h i hi; have := h i hi; simpa using this
  · intro h i hi; have := h i hi; simpa using this
theorem dI_dN {n : Nat} {d : List Int} (h : rgI n d = true) : dI (dN d) = d := by
  rw [rgI_is] at h
  unfold dI dN
  rw [List.map_map]
  have : ∀ l : List Int, (∀ i ∈ l, 0 ≤ i) → l.map (Int.ofNat ∘ Int.toNat) = l := by
    intro l
    induction l with
    | nil => intro _; rfl
    | cons a r ih =>
      intro h
      rw [List.map_cons, ih (fun i hi => h i (List.mem_cons_of_mem _ hi))]
      have := h a List.mem_cons_self
      congr 1
      show ((a.toNat : Nat) : Int) = a
      omega
  exact this d (fun i hi => (h i hi).1)
theorem rgI_dN {n : Nat} {d : List Int} (h : rgI n d = true) : ∀ i ∈ dN d, i < n := by
  rw [rgI_is] at h
  intro i hi
  obtain ⟨z, hz, rfl⟩ := List.mem_map.1 hi
  have := h z hz
  omega
def lsE (nm : List UInt8) (L : List Sg) (d : List Int) : Int := if (vO nm L).2 ≠ 0 then (vO nm L).2 else if 16 < d.length then 3 else if rgI L.length d = true then 0 else 6
theorem lsE_zero {nm : List UInt8} {L : List Sg} {d : List Int} (h : lsE nm L d = 0) : (vO nm L).2 = 0 ∧ d.length ≤ 16 ∧ rgI L.length d = true := by
  unfold lsE at h
  split at h
  · exact absurd h (by assumption)
  · split at h
    · cases h
    · split at h
      · exact ⟨by simpa using ‹¬ (vO nm L).2 ≠ 0›, by omega, by assumption⟩
      · cases h
def sndD (L : List Sg) (d : List Nat) : List Snd := d.flatMap fun i => (sgAt L i).s
def offD (L : List Sg) : Nat → List Nat → List Int
  | _, [] => []
  | a, i :: r => List.replicate (sgAt L i).s.length (a : Int) ++ offD L (a + (sgAt L i).t.length) r
theorem sndD_snoc (L : List Sg) (d : List Nat) (i : Nat) : sndD L (d ++ [i]) = sndD L d ++ (sgAt L i).s := by unfold sndD; rw [List.flatMap_append]; simp
theorem tD_snoc (L : List Sg) (d : List Nat) (i : Nat) : tD L (d ++ [i]) = tD L d ++ (sgAt L i).t := by unfold tD; rw [List.flatMap_append]; simp
theorem offD_snoc (L : List Sg) : ∀ (d : List Nat) (a i : Nat), offD L a (d ++ [i]) = offD L a d ++ List.replicate (sgAt L i).s.length ((a + (tD L d).length : Nat) : Int)
  | [], a, i => by simp [offD, tD]
  | j :: r, a, i => by
    rw [List.cons_append, offD, offD, offD_snoc L r, tD_cons, List.length_append, List.append_assoc]
    congr 3
    omega
theorem sgn_bd {nm : List UInt8} {L : List Sg} (h : (vO nm L).2 = 0) {i : Nat} (hi : i < L.length) : 0 < (sgAt L i).t.length ∧ (sgAt L i).t.length ≤ 4 ∧ 0 < (sgAt L i).s.length ∧ (sgAt L i).s.length ≤ 2 ∧ 0 ≤ (sgAt L i).c ∧ (sgAt L i).c ≤ 99 := by
  obtain ⟨a, b, _, c, _⟩ := sgE_zero ((vO_zero h).2.2.2 _ (List.mem_of_getElem? (sgAt_get hi)))
  have := txE_zero a
  exact ⟨this.1, this.2.1, b.1, b.2, c.1, c.2⟩
theorem tD_len_le {nm : List UInt8} {L : List Sg} (h : (vO nm L).2 = 0) : ∀ {d : List Nat}, (∀ i ∈ d, i < L.length) → (tD L d).length ≤ d.length * 4 ∧ d.length ≤ (tD L d).length ∧ (sndD L d).length ≤ d.length * 2
  | [], _ => by simp [tD, sndD]
  | i :: r, hd => by
    obtain ⟨h1, h2, h3⟩ := tD_len_le h (d := r) (fun j hj => hd j (List.mem_cons_of_mem _ hj))
    have hb := sgn_bd h (hd i List.mem_cons_self)
    rw [tD_cons, List.length_append, List.length_cons]
    have e : sndD L (i :: r) = (sgAt L i).s ++ sndD L r := by unfold sndD; rw [List.flatMap_cons]
    rw [e, List.length_append]
    omega
theorem cD_bd {nm : List UInt8} {L : List Sg} (h : (vO nm L).2 = 0) : ∀ {d : List Nat}, (∀ i ∈ d, i < L.length) → 0 ≤ cD L d ∧ cD L d ≤ d.length * 99
  | [], _ => by simp [cD]
  | i :: r, hd => by
    obtain ⟨h1, h2⟩ := cD_bd h (d := r) (fun j hj => hd j (List.mem_cons_of_mem _ hj))
    have hb := sgn_bd h (hd i List.mem_cons_self)
    rw [cD_cons, List.length_cons]
    omega
theorem isD_len {nm : List UInt8} {L : List Sg} (h : (vO nm L).2 = 0) {u : List UInt8} {B : List Snd} {d : List Nat} (hd : isD L u B d) : d.length ≤ u.length := by
  have := tD_len_le h hd.1
  rw [hd.2.1] at this
  exact this.2.1
def nbS (L : List Sg) (d : List Nat) (i : Int) : List Snd := if i < 0 ∨ (d.length : Int) ≤ i then [] else (sgAt L (d.getD i.toNat 0)).s
def okN (L : List Sg) (d : List Nat) (k : Nat) : Bool := whB (sgAt L (d.getD k 0)).w (nbS L d ((k : Int) - 1)) (nbS L d ((k : Int) + 1))
theorem okD_all (L : List Sg) : ∀ (p d : List Nat), (okD L (nbS L (p ++ d) ((p.length : Int) - 1)) d = true) ↔ ∀ k, p.length ≤ k → k < (p ++ d).length → okN L (p ++ d) k = true
  | p, [] => by
    simp only [okD, List.append_nil, true_iff]
    intro k h1 h2; omega
  | p, [i] => by
    have hi : (p ++ [i]).getD p.length 0 = i := by rw [List.getD_eq_getElem?_getD, List.getElem?_append_right (Nat.le_refl _), Nat.sub_self]; rfl
    have e : okN L (p ++ [i]) p.length = whB (sgAt L i).w (nbS L (p ++ [i]) ((p.length : Int) - 1)) [] := by
      unfold okN
      rw [hi]
      congr 1
      unfold nbS
      rw [if_pos (Or.inr (by rw [List.length_append, List.length_singleton]; omega))]
    rw [okD, ← e]
    constructor
    · intro h k h1 h2
      rw [List.length_append, List.length_singleton] at h2
      obtain rfl : k = p.length := by omega
      exact h
    · intro h
      exact h p.length (Nat.le_refl _) (by rw [List.length_append, List.length_singleton]; omega)
  | p, i :: j :: r => by
    have hi : (p ++ i :: j :: r).getD p.length 0 = i := by rw [List.getD_eq_getElem?_getD, List.getElem?_append_right (Nat.le_refl _), Nat.sub_self]; rfl
    have hj : (p ++ i :: j :: r).getD (p.length + 1) 0 = j := by rw [List.getD_eq_getElem?_getD, List.getElem?_append_right (by omega), show p.length + 1 - p.length = 1 by omega]; rfl
    have hlen : (p ++ i :: j :: r).length = p.length + r.length + 2 := by rw [List.length_append, List.length_cons, List.length_cons]; omega
    have e : okN L (p ++ i :: j :: r) p.length = whB (sgAt L i).w (nbS L (p ++ i :: j :: r) ((p.length : Int) - 1)) (sgAt L j).s := by
      unfold okN
      rw [hi]
      congr 1
      unfold nbS
      rw [if_neg (by rw [hlen]; omega), show ((p.length : Int) + 1).toNat = p.length + 1 by omega, hj]
    have hs : p ++ i :: j :: r = (p ++ [i]) ++ j :: r := by simp
    have ih := okD_all L (p ++ [i]) (j :: r)
    rw [← hs] at ih
    have e2 : nbS L (p ++ i :: j :: r) (((p ++ [i]).length : Int) - 1) = (sgAt L i).s := by
      unfold nbS
      rw [List.length_append, List.length_singleton, if_neg (by rw [hlen]; omega), show (((p.length + 1 : Nat) : Int) - 1).toNat = p.length by omega, hi]
    rw [e2] at ih
    rw [okD, Bool.and_eq_true, ← e, ih]
    rw [List.length_append, List.length_singleton]
    constructor
    · rintro ⟨h1, h2⟩ k hk1 hk2
      rcases Nat.lt_or_ge p.length k with h | h
      · exact h2 k (by omega) hk2
      · obtain rfl : k = p.length := by omega
        exact h1
    · intro h
      exact ⟨h p.length (Nat.le_refl _) (by rw [hlen]; omega), fun k hk1 hk2 => h k (by omega) hk2⟩
theorem okD_is (L : List Sg) (d : List Nat) : okD L [] d = true ↔ ∀ k, k < d.length → okN L d k = true := by
  have := okD_all L [] d
  rw [List.nil_append] at this
  have e : nbS L d ((([] : List Nat).length : Int) - 1) = [] := by unfold nbS; rw [if_pos (Or.inl (by simp))]
  rw [e] at this
  rw [this]
  exact ⟨fun h k hk => h k (Nat.zero_le _) hk, fun h k _ hk => h k hk⟩
def chE (nm : List UInt8) (L : List Sg) (u : List UInt8) (d : List Int) : Int := if gvE nm L u ≠ 0 then gvE nm L u else if rgI L.length d = false then 6 else if tD L (dN d) ≠ u then 1 else if okD L [] (dN d) = true then 0 else 19
theorem chE_zero {nm : List UInt8} {L : List Sg} {u : List UInt8} {d : List Int} : chE nm L u d = 0 ↔ gvE nm L u = 0 ∧ rgI L.length d = true ∧ isD L u [] (dN d) := by
  unfold chE isD
  constructor
  · intro h
    split at h
    · exact absurd h (by assumption)
    · split at h
      · cases h
      · split at h
        · cases h
        · split at h
          · rename_i h1 h2 h3 h4
            have h2 : rgI L.length d = true := by simpa using h2
            exact ⟨by simpa using h1, h2, rgI_dN h2, by simpa using h3, h4⟩
          · cases h
  · rintro ⟨h1, h2, _, h3, h4⟩
    rw [if_neg (by simp [h1]), if_neg (by simp [h2]), if_neg (by simp [h3]), if_pos h4]
theorem take_two {p t r u : List UInt8} (e : u = p ++ t ++ r) : u.take (p.length + t.length) = p ++ t := by
  rw [e, ← List.length_append, List.take_left]
def Rch (L : List Sg) (u : List UInt8) (j : Nat) : Prop := j ≤ u.length ∧ ∃ d, (∀ i ∈ d, i < L.length) ∧ tD L d = u.take j
def RMax (L : List Sg) (u : List UInt8) (m : Nat) : Prop := Rch L u m ∧ ∀ j, Rch L u j → j ≤ m
theorem RMax.uniq {L : List Sg} {u : List UInt8} {a b : Nat} (h : RMax L u a) (h2 : RMax L u b) : a = b := Nat.le_antisymm (h2.2 a h.1) (h.2 b h2.1)
theorem Rch.zero (L : List Sg) (u : List UInt8) : Rch L u 0 := ⟨Nat.zero_le _, [], (fun i h => (by cases h)), (by simp [tD])⟩
theorem Rch.step {L : List Sg} {u : List UInt8} {j i : Nat} (h : Rch L u j) (hi : i ∈ stL L (u.drop j)) : Rch L u (j + (sgAt L i).t.length) := by
  obtain ⟨h1, d, h2, h3⟩ := h
  obtain ⟨hil, hp⟩ := stL_mem.1 hi
  have hl := hp.length_le
  rw [List.length_drop] at hl
  refine ⟨by omega, d ++ [i], fun k hk => ?_, ?_⟩
  · rcases List.mem_append.1 hk with hk | hk
    · exact h2 k hk
    · rw [List.mem_singleton.1 hk]; exact hil
  · rw [tD_snoc, h3]
    obtain ⟨r, hr⟩ := hp
    have e : u = u.take j ++ (sgAt L i).t ++ r := by rw [List.append_assoc, hr, List.take_append_drop]
    have := take_two e
    rw [List.length_take, show min j u.length = j by omega] at this
    exact this.symm
theorem Rch.last {L : List Sg} (hne : TxNe L) {u : List UInt8} {j : Nat} (h : Rch L u j) (h0 : 0 < j) : ∃ k i, k < j ∧ Rch L u k ∧ i ∈ stL L (u.drop k) ∧ j = k + (sgAt L i).t.length := by
  obtain ⟨h1, d, h2, h3⟩ := h
  rcases List.eq_nil_or_concat d with rfl | ⟨e, i, rfl⟩
  · have := congrArg List.length h3
    rw [List.length_take] at this
    simp [tD] at this
    omega
  · rw [List.concat_eq_append] at h2 h3
    rw [tD_snoc] at h3
    have hil := h2 i (by simp)
    have hn := hne.at hil
    have hlen := congrArg List.length h3
    rw [List.length_append, List.length_take] at hlen
    have hk : (tD L e).length + (sgAt L i).t.length = j := by omega
    have hu : u = (tD L e ++ (sgAt L i).t) ++ u.drop j := by rw [h3, List.take_append_drop]
    have hk1 : u.take (tD L e).length = tD L e := by
      conv => lhs; rw [hu]
      rw [List.append_assoc, List.take_left]
    have hk2 : u.drop (tD L e).length = (sgAt L i).t ++ u.drop j := by
      conv => lhs; rw [hu]
      rw [List.append_assoc, List.drop_left]
    exact ⟨(tD L e).length, i, by omega, ⟨by omega, e, fun x hx => h2 x (by simp [hx]), hk1.symm⟩, stL_mem.2 ⟨hil, u.drop j, hk2.symm⟩, hk.symm⟩
end Go.Proofs.YtpifchlpakajjaaGreat

namespace Go.Proofs.YtpifchlpakajjaaGreat
open Go.RowKit
set_option linter.unusedVariables false
set_option linter.unusedSimpArgs false
set_option maxRecDepth 100000

def stK (L : List Sg) (u : List UInt8) (k : Nat) : List Nat := (List.range k).filter fun i => (sgAt L i).t.isPrefixOf u
theorem stK_all (L : List Sg) (u : List UInt8) : stK L u L.length = stL L u := rfl
theorem stK_zero (L : List Sg) (u : List UInt8) : stK L u 0 = [] := rfl
theorem stK_snoc (L : List Sg) (u : List UInt8) (k : Nat) : stK L u (k + 1) = stK L u k ++ (if (sgAt L k).t.isPrefixOf u = true then [k] else []) := by
  unfold stK
  rw [List.range_succ, List.filter_append]
  congr 1
  by_cases h : (sgAt L k).t.isPrefixOf u = true
  · rw [if_pos h]; simp [List.filter, h]
  · rw [if_neg h]; simp [List.filter, h]
theorem dI_snoc (d : List Nat) (i : Nat) : dI (d ++ [i]) = dI d ++ [(i : Int)] := by unfold dI; rw [List.map_append]; rfl
theorem dI_at {d : List Nat} {k i : Nat} (h : d[k]? = some i) : (dI d)[k]? = some ((i : Nat) : Int) := by unfold dI; rw [List.getElem?_map, h]; rfl
theorem cD_take {L : List Sg} {d : List Nat} {k i : Nat} (h : d[k]? = some i) : cD L (d.take (k + 1)) = cD L (d.take k) + (sgAt L i).c := by rw [take_snocA h, cD_snoc]
def LexI (a b : List Nat) (i : Nat) : Prop := lexB a b = lexB (a.drop i) (b.drop i)
theorem LexI.start (a b : List Nat) : LexI a b 0 := rfl
theorem LexI.step {a b : List Nat} {i x : Nat} (h : LexI a b i) (hx : a[i]? = some x) (hy : b[i]? = some x) : LexI a b (i + 1) := by
  unfold LexI at h ⊢
  rw [h, drop_at hx, drop_at hy, lexB, if_pos rfl]
theorem LexI.fin {a b : List Nat} {i : Nat} (h : LexI a b i) (hi : i = a.length ∨ i = b.length) (h1 : i ≤ a.length) (h2 : i ≤ b.length) : lexB a b = decide (a.length < b.length) := by
  rw [h]
  rcases hi with hi | hi
  · rw [List.drop_eq_nil_of_le (by omega : a.length ≤ i)]
    cases hb : b.drop i with
    | nil =>
      have := congrArg List.length hb
      rw [List.length_drop, List.length_nil] at this
      rw [decide_eq_false (by omega)]; rfl
    | cons z s =>
      have := congrArg List.length hb
      rw [List.length_drop, List.length_cons] at this
      rw [decide_eq_true (by omega)]; rfl
  · rw [List.drop_eq_nil_of_le (by omega : b.length ≤ i)]
    rw [decide_eq_false (by omega)]
    cases a.drop i <;> rfl
end Go.Proofs.YtpifchlpakajjaaGreat
