/- Several texts in one: JB, JC, JD. -/
import Derived.Test.YtjamfcihjendiaaGreatRaan
namespace Go.Proofs.YtjamfcihjendiaaGreat
open Go.RowKit
set_option linter.unusedVariables false
set_option linter.unusedSimpArgs false
set_option maxRecDepth 100000

def lexB : List Nat → List Nat → Bool
  | [], [] => false
  | [], _ :: _ => true
  | _ :: _, [] => false
  | a :: r, b :: s => if a = b then lexB r s else decide (a < b)
theorem lexB_irrefl : ∀ l : List Nat, lexB l l = false
  | [] => rfl
  | a :: r => by rw [lexB, if_pos rfl]; exact lexB_irrefl r
theorem lexB_total : ∀ {l m : List Nat}, lexB l m = false → lexB m l = false → l = m
  | [], [], _, _ => rfl
  | [], _ :: _, h, _ => by cases h
  | _ :: _, [], _, h => by cases h
  | a :: r, b :: s, h, h2 => by
    rw [lexB] at h h2
    by_cases e : a = b
    · subst e
      rw [if_pos rfl] at h h2
      rw [lexB_total h h2]
    · rw [if_neg e] at h
      rw [if_neg (Ne.symm e)] at h2
      simp at h h2
      omega
theorem lexB_trans : ∀ {l m k : List Nat}, lexB l m = true → lexB m k = true → lexB l k = true
  | [], _ :: _, [], _, h => by cases h
  | [], _ :: _, _ :: _, _, _ => rfl
  | [], [], _, h, _ => by cases h
  | _ :: _, [], _, h, _ => by cases h
  | _ :: _, _ :: _, [], _, h => by cases h
  | a :: r, b :: s, c :: t, h, h2 => by
    rw [lexB] at h h2 ⊢
    by_cases e : a = b
    · subst e
      rw [if_pos rfl] at h
      by_cases e2 : a = c
      · subst e2
        rw [if_pos rfl] at h2 ⊢
        exact lexB_trans h h2
      · rw [if_neg e2] at h2 ⊢; exact h2
    · rw [if_neg e] at h
      by_cases e2 : b = c
      · subst e2
        rw [if_neg e]; exact h
      · rw [if_neg e2] at h2
        simp at h h2
        rw [if_neg (by omega)]
        exact decide_eq_true (by omega)
def befB (L : List Sg) (a b : List Nat) : Bool := if cD L a = cD L b then lexB a b else decide (cD L a < cD L b)
theorem befB_irrefl (L : List Sg) (a : List Nat) : befB L a a = false := by unfold befB; rw [if_pos rfl]; exact lexB_irrefl a
theorem befB_total {L : List Sg} {a b : List Nat} (h : befB L a b = false) (h2 : befB L b a = false) : a = b := by
  unfold befB at h h2
  by_cases e : cD L a = cD L b
  · rw [if_pos e] at h; rw [if_pos e.symm] at h2; exact lexB_total h h2
  · rw [if_neg e] at h; rw [if_neg (Ne.symm e)] at h2; simp at h h2; omega
theorem befB_trans {L : List Sg} {a b c : List Nat} (h : befB L a b = true) (h2 : befB L b c = true) : befB L a c = true := by
  unfold befB at h h2 ⊢
  by_cases e : cD L a = cD L b
  · rw [if_pos e] at h
    by_cases e2 : cD L b = cD L c
    · rw [if_pos e2] at h2; rw [if_pos (e.trans e2)]; exact lexB_trans h h2
    · rw [if_neg e2] at h2; rw [if_neg (by rw [e]; exact e2), e]; exact h2
  · rw [if_neg e] at h
    by_cases e2 : cD L b = cD L c
    · rw [← e2, if_neg e]; exact h
    · rw [if_neg e2] at h2
      simp at h h2
      rw [if_neg (by omega)]
      exact decide_eq_true (by omega)
theorem befB_asym {L : List Sg} {a b : List Nat} (h : befB L a b = true) : befB L b a = false := by
  cases h2 : befB L b a with
  | false => rfl
  | true => have := befB_trans h h2; rw [befB_irrefl] at this; cases this
def Ord (L : List Sg) (l : List (List Nat)) : Prop := l.Pairwise fun a b => befB L a b = true
theorem Ord.uniq {L : List Sg} : ∀ {l m : List (List Nat)}, Ord L l → Ord L m → (∀ x, x ∈ l ↔ x ∈ m) → l = m
  | [], [], _, _, _ => rfl
  | [], b :: _, _, _, h => by have := (h b).2 List.mem_cons_self; cases this
  | a :: _, [], _, _, h => by have := (h a).1 List.mem_cons_self; cases this
  | a :: r, b :: s, hl, hm, h => by
    have hl' := List.pairwise_cons.1 hl
    have hm' := List.pairwise_cons.1 hm
    have e : a = b := by
      rcases List.mem_cons.1 ((h a).1 List.mem_cons_self) with e | h1
      · exact e
      · rcases List.mem_cons.1 ((h b).2 List.mem_cons_self) with e | h2
        · exact e.symm
        · have x1 := hm'.1 a h1
          have x2 := hl'.1 b h2
          rw [befB_asym x1] at x2; cases x2
    subst e
    have hr : ∀ x, x ∈ r ↔ x ∈ s := fun x => by
      constructor
      · intro hx
        rcases List.mem_cons.1 ((h x).1 (List.mem_cons_of_mem _ hx)) with e | h1
        · subst e; have := hl'.1 x hx; rw [befB_irrefl] at this; cases this
        · exact h1
      · intro hx
        rcases List.mem_cons.1 ((h x).2 (List.mem_cons_of_mem _ hx)) with e | h1
        · subst e; have := hm'.1 x hx; rw [befB_irrefl] at this; cases this
        · exact h1
    rw [Ord.uniq hl'.2 hm'.2 hr]
def insD (L : List Sg) (x : List Nat) : List (List Nat) → List (List Nat)
  | [] => [x]
  | y :: r => if befB L y x = true then y :: insD L x r else x :: y :: r
def srtD (L : List Sg) (l : List (List Nat)) : List (List Nat) := l.foldl (fun out x => insD L x out) []
theorem insD_mem (L : List Sg) (x : List Nat) : ∀ (out : List (List Nat)) (y : List Nat), y ∈ insD L x out ↔ y = x ∨ y ∈ out
  | [], y => by simp [insD]
  | z :: r, y => by
    rw [insD]
    split
    · rw [List.mem_cons, insD_mem L x r y, List.mem_cons]
      constructor
      · rintro (h | h | h)
        · exact Or.inr (Or.inl h)
        · exact Or.inl h
        · exact Or.inr (Or.inr h)
      · rintro (h | h | h)
        · exact Or.inr (Or.inl h)
        · exact Or.inl h
        · exact Or.inr (Or.inr h)
    · simp
theorem insD_len (L : List Sg) (x : List Nat) : ∀ (out : List (List Nat)), (insD L x out).length = out.length + 1
  | [] => rfl
  | z :: r => by
    rw [insD]
    split
    · rw [List.length_cons, insD_len L x r, List.length_cons]
    · rfl
theorem insD_ord {L : List Sg} {x : List Nat} : ∀ {out : List (List Nat)}, Ord L out → x ∉ out → Ord L (insD L x out)
  | [], _, _ => by simp [insD, Ord]
  | z :: r, h, hx => by
    have h' := List.pairwise_cons.1 h
    have hzx : z ≠ x := fun e => hx (e ▸ List.mem_cons_self)
    have hxr : x ∉ r := fun e => hx (List.mem_cons_of_mem _ e)
    rw [insD]
    split
    · rename_i hb
      refine List.pairwise_cons.2 ⟨fun y hy => ?_, insD_ord h'.2 hxr⟩
      rcases (insD_mem L x r y).1 hy with rfl | hy
      · exact hb
      · exact h'.1 y hy
    · rename_i hb
      have hb : befB L z x = false := by simpa using hb
      have hxz : befB L x z = true := by
        cases h2 : befB L x z with
        | true => rfl
        | false => exact absurd (befB_total hb h2) hzx
      refine List.pairwise_cons.2 ⟨fun y hy => ?_, h⟩
      rcases List.mem_cons.1 hy with rfl | hy
      · exact hxz
      · exact befB_trans hxz (h'.1 y hy)
theorem srt_go {L : List Sg} : ∀ (l out : List (List Nat)), Ord L out → l.Nodup → (∀ x ∈ l, x ∉ out) → Ord L (l.foldl (fun out x => insD L x out) out) ∧ ∀ y, y ∈ l.foldl (fun out x => insD L x out) out ↔ y ∈ l ∨ y ∈ out
  | [], out, h, _, _ => ⟨h, fun y => by simp⟩
  | x :: r, out, h, hn, hd => by
    rw [List.nodup_cons] at hn
    have ih := srt_go r (insD L x out) (insD_ord h (hd x List.mem_cons_self)) hn.2 (fun y hy hm => by
      rcases (insD_mem L x out y).1 hm with rfl | hm
      · exact hn.1 hy
      · exact hd y (List.mem_cons_of_mem _ hy) hm)
    rw [List.foldl_cons]
    refine ⟨ih.1, fun y => ?_⟩
    rw [ih.2 y, insD_mem, List.mem_cons]
    constructor
    · rintro (h | h | h)
      · exact Or.inl (Or.inr h)
      · exact Or.inl (Or.inl h)
      · exact Or.inr h
    · rintro ((h | h) | h)
      · exact Or.inr (Or.inl h)
      · exact Or.inl h
      · exact Or.inr (Or.inr h)
theorem srtD_ord {L : List Sg} {l : List (List Nat)} (h : l.Nodup) : Ord L (srtD L l) := (srt_go l [] List.Pairwise.nil h (fun _ _ h => by cases h)).1
theorem srtD_mem {L : List Sg} {l : List (List Nat)} (h : l.Nodup) (y : List Nat) : y ∈ srtD L l ↔ y ∈ l := by
  have := (srt_go (L := L) l [] List.Pairwise.nil h (fun _ _ h => by cases h)).2 y
  unfold srtD
  rw [this]; simp
theorem srt_len (L : List Sg) : ∀ (l out : List (List Nat)), (l.foldl (fun out x => insD L x out) out).length = l.length + out.length
  | [], out => by simp
  | x :: r, out => by rw [List.foldl_cons, srt_len L r, insD_len, List.length_cons]; omega
theorem srtD_len (L : List Sg) (l : List (List Nat)) : (srtD L l).length = l.length := by unfold srtD; rw [srt_len]; rfl
def mn (n : Nat) : Nat := min 201 n
theorem mn_le (n : Nat) : mn n ≤ 201 := Nat.min_le_left _ _
theorem mn_pos {n : Nat} : 0 < mn n ↔ 0 < n := by unfold mn; omega
def onTo (L : List Sg) (f i : Nat) (v : List UInt8) (B : List Snd) (ks : List Nat) : List (List Nat) := ks.flatMap fun k => if whB (sgAt L i).w B (sgAt L k).s = true then (bh L f k v (sgAt L i).s).map (i :: ·) else []
theorem onTo_snoc (L : List Sg) (f i : Nat) (v : List UInt8) (B : List Snd) (ks : List Nat) (k : Nat) : onTo L f i v B (ks ++ [k]) = onTo L f i v B ks ++ (if whB (sgAt L i).w B (sgAt L k).s = true then (bh L f k v (sgAt L i).s).map (i :: ·) else []) := by
  unfold onTo; rw [List.flatMap_append]; simp
theorem onTo_len (L : List Sg) (f i : Nat) (v : List UInt8) (B : List Snd) (ks : List Nat) (k : Nat) : (onTo L f i v B (ks ++ [k])).length = (onTo L f i v B ks).length + (if whB (sgAt L i).w B (sgAt L k).s = true then (bh L f k v (sgAt L i).s).length else 0) := by
  rw [onTo_snoc, List.length_append]
  congr 1
  split <;> simp
theorem mn_add (a b : Nat) : mn (mn a + mn b) = mn (a + b) := by unfold mn; omega
theorem mn_mn (a : Nat) : mn (mn a) = mn a := by unfold mn; omega
def ahB : Nat → List Snd
  | 0 => []
  | 1 => [⟨1, 3, [97]⟩]
  | _ => [⟨3, 0, [116]⟩]
theorem ahB_cls : ∀ c : Fin 3, clsB (ahB c.val) = c.val := by decide
theorem clsB_lt (B : List Snd) : clsB B < 3 := by unfold clsB; split <;> (try split) <;> omega
theorem cls_ah (B : List Snd) : clsB (ahB (clsB B)) = clsB B := ahB_cls ⟨clsB B, clsB_lt B⟩
def tbN (L : List Sg) (u : List UInt8) (at_ i c : Nat) : Nat := if i ∈ stL L (u.drop at_) then mn (bh L u.length i (u.drop at_) (ahB c)).length else 0
theorem tbN_is {L : List Sg} (hne : TxNe L) {u : List UInt8} {a i : Nat} (h : i ∈ stL L (u.drop a)) (B : List Snd) {f : Nat} (hf : (u.drop a).length ≤ f) : tbN L u a i (clsB B) = mn (bh L f i (u.drop a) B).length := by
  obtain ⟨h1, h2⟩ := stL_mem.1 h
  unfold tbN
  rw [if_pos h, bh_cls (cls_ah B), bh_fuel hne u.length f i _ _ (by rw [List.length_drop]; omega) hf h1 h2]
theorem tbN_le (L : List Sg) (u : List UInt8) (a i c : Nat) : tbN L u a i c ≤ 201 := by unfold tbN; split; exact mn_le _; omega
def dvK (L : List Sg) (u : List UInt8) (ks : List Nat) : List (List Nat) := ks.flatMap fun i => bh L u.length i u []
def smK (L : List Sg) (u : List UInt8) : List Nat → Nat
  | [] => 0
  | i :: r => tbN L u 0 i 0 + smK L u r
theorem smK_snoc (L : List Sg) (u : List UInt8) : ∀ (ks : List Nat) (i : Nat), smK L u (ks ++ [i]) = smK L u ks + tbN L u 0 i 0
  | [], i => by simp [smK]
  | k :: r, i => by rw [List.cons_append, smK, smK, smK_snoc L u r i]; omega
theorem smK_is {L : List Sg} (hne : TxNe L) (u : List UInt8) : ∀ (ks : List Nat), (∀ i ∈ ks, i ∈ stL L u) → mn (smK L u ks) = mn (dvK L u ks).length ∧ (smK L u ks = 0 ↔ (dvK L u ks).length = 0)
  | [], _ => by simp [smK, dvK]
  | k :: r, h => by
    obtain ⟨ih1, ih2⟩ := smK_is hne u r (fun i hi => h i (List.mem_cons_of_mem _ hi))
    have hk : tbN L u 0 k 0 = mn (bh L u.length k u []).length := by
      have := tbN_is hne (u := u) (a := 0) (i := k) (by rw [List.drop_zero]; exact h k List.mem_cons_self) [] (f := u.length) (by rw [List.drop_zero]; exact Nat.le_refl _)
      rw [List.drop_zero] at this
      exact this
    have e : (dvK L u (k :: r)).length = (bh L u.length k u []).length + (dvK L u r).length := by unfold dvK; rw [List.flatMap_cons, List.length_append]
    rw [smK, hk, e]
    unfold mn at ih1 ⊢
    constructor <;> omega
end Go.Proofs.YtjamfcihjendiaaGreat

namespace Go.Proofs.YtjamfcihjendiaaGreat
open Go.RowKit
set_option linter.unusedVariables false
set_option linter.unusedSimpArgs false
set_option maxRecDepth 100000

def wdE (s : List UInt8) : Int := if s.length = 0 then 7 else if 16 < s.length then 3 else if s.all isLow = true then 0 else 2
theorem wdE_zero {s : List UInt8} (h : wdE s = 0) : 0 < s.length ∧ s.length ≤ 16 ∧ s.all isLow = true := by
  unfold wdE at h
  split at h
  · cases h
  · split at h
    · cases h
    · split at h
      · exact ⟨by omega, by omega, by assumption⟩
      · cases h
def gvE (nm : List UInt8) (L : List Sg) (s : List UInt8) : Int := if (vO nm L).2 = 0 then wdE s else (vO nm L).2
theorem gvE_zero {nm : List UInt8} {L : List Sg} {s : List UInt8} (h : gvE nm L s = 0) : (vO nm L).2 = 0 ∧ wdE s = 0 := by
  unfold gvE at h
  split at h
  · exact ⟨by assumption, h⟩
  · exact absurd h (by assumption)
theorem TxNe.ok {nm : List UInt8} {L : List Sg} (h : (vO nm L).2 = 0) : TxNe L := fun x hx => (txE_zero (sgE_zero ((vO_zero h).2.2.2 x hx)).1).1
def rgI (n : Nat) (d : List Int) : Bool := d.all fun i => decide (0 ≤ i) && decide (i < (n : Int))
def dN (d : List Int) : List Nat := d.map Int.toNat
def dI (d : List Nat) : List Int := d.map Int.ofNat
theorem dI_len (d : List Nat) : (dI d).length = d.length := by simp [dI]
theorem dN_len (d : List Int) : (dN d).length = d.length := by simp [dN]
theorem rgI_is {n : Nat} {d : List Int} : rgI n d = true ↔ ∀ i ∈ d, 0 ≤ i ∧ i < (n : Int) := by
  unfold rgI
  rw [List.all_eq_true]
  constructor
  · intro h i hi; have := h i hi; simpa using this
  · intro h i hi; have := h i hi; simpa using this
theorem dI_dN {n : Nat} {d : List Int} (h : rgI n d = true) : dI (dN d) = d := by
  rw [rgI_is] at h
  unfold dI dN
  rw [List.map_map]
  have : ∀ l : List Int, (∀ i ∈ l, 0 ≤ i) → l.map (Int.ofNat ∘ Int.toNat) = l := by
    intro l
    induction l with
    | nil => intro _; rfl
    | cons a r ih =>
      intro h
      rw [List.map_cons, ih (fun i hi => h i (List.mem_cons_of_mem _ hi))]
      have := h a List.mem_cons_self
      congr 1
      show ((a.toNat : Nat) : Int) = a
      omega
  exact this d (fun i hi => (h i hi).1)
theorem rgI_dN {n : Nat} {d : List Int} (h : rgI n d = true) : ∀ i ∈ dN d, i < n := by
  rw [rgI_is] at h
  intro i hi
  obtain ⟨z, hz, rfl⟩ := List.mem_map.1 hi
  have := h z hz
  omega
def lsE (nm : List UInt8) (L : List Sg) (d : List Int) : Int := if (vO nm L).2 ≠ 0 then (vO nm L).2 else if 16 < d.length then 3 else if rgI L.length d = true then 0 else 6
theorem lsE_zero {nm : List UInt8} {L : List Sg} {d : List Int} (h : lsE nm L d = 0) : (vO nm L).2 = 0 ∧ d.length ≤ 16 ∧ rgI L.length d = true := by
  unfold lsE at h
  split at h
  · exact absurd h (by assumption)
  · split at h
    · cases h
    · split at h
      · exact ⟨by simpa using ‹¬ (vO nm L).2 ≠ 0›, by omega, by assumption⟩
      · cases h
def sndD (L : List Sg) (d : List Nat) : List Snd := d.flatMap fun i => (sgAt L i).s
def offD (L : List Sg) : Nat → List Nat → List Int
  | _, [] => []
  | a, i :: r => List.replicate (sgAt L i).s.length (a : Int) ++ offD L (a + (sgAt L i).t.length) r
theorem tD_snoc (L : List Sg) (d : List Nat) (i : Nat) : tD L (d ++ [i]) = tD L d ++ (sgAt L i).t := by unfold tD; rw [List.flatMap_append]; simp
theorem offD_snoc (L : List Sg) : ∀ (d : List Nat) (a i : Nat), offD L a (d ++ [i]) = offD L a d ++ List.replicate (sgAt L i).s.length ((a + (tD L d).length : Nat) : Int)
  | [], a, i => by simp [offD, tD]
  | j :: r, a, i => by
    rw [List.cons_append, offD, offD, offD_snoc L r, tD_cons, List.length_append, List.append_assoc]
    congr 3
    omega
theorem sgn_bd {nm : List UInt8} {L : List Sg} (h : (vO nm L).2 = 0) {i : Nat} (hi : i < L.length) : 0 < (sgAt L i).t.length ∧ (sgAt L i).t.length ≤ 4 ∧ 0 < (sgAt L i).s.length ∧ (sgAt L i).s.length ≤ 2 ∧ 0 ≤ (sgAt L i).c ∧ (sgAt L i).c ≤ 99 := by
  obtain ⟨a, b, _, c, _⟩ := sgE_zero ((vO_zero h).2.2.2 _ (List.mem_of_getElem? (sgAt_get hi)))
  have := txE_zero a
  exact ⟨this.1, this.2.1, b.1, b.2, c.1, c.2⟩
theorem tD_len_le {nm : List UInt8} {L : List Sg} (h : (vO nm L).2 = 0) : ∀ {d : List Nat}, (∀ i ∈ d, i < L.length) → (tD L d).length ≤ d.length * 4 ∧ d.length ≤ (tD L d).length ∧ (sndD L d).length ≤ d.length * 2
  | [], _ => by simp [tD, sndD]
  | i :: r, hd => by
    obtain ⟨h1, h2, h3⟩ := tD_len_le h (d := r) (fun j hj => hd j (List.mem_cons_of_mem _ hj))
    have hb := sgn_bd h (hd i List.mem_cons_self)
    rw [tD_cons, List.length_append, List.length_cons]
    have e : sndD L (i :: r) = (sgAt L i).s ++ sndD L r := by unfold sndD; rw [List.flatMap_cons]
    rw [e, List.length_append]
    omega
theorem cD_bd {nm : List UInt8} {L : List Sg} (h : (vO nm L).2 = 0) : ∀ {d : List Nat}, (∀ i ∈ d, i < L.length) → 0 ≤ cD L d ∧ cD L d ≤ d.length * 99
  | [], _ => by simp [cD]
  | i :: r, hd => by
    obtain ⟨h1, h2⟩ := cD_bd h (d := r) (fun j hj => hd j (List.mem_cons_of_mem _ hj))
    have hb := sgn_bd h (hd i List.mem_cons_self)
    rw [cD_cons, List.length_cons]
    omega
theorem isD_len {nm : List UInt8} {L : List Sg} (h : (vO nm L).2 = 0) {u : List UInt8} {B : List Snd} {d : List Nat} (hd : isD L u B d) : d.length ≤ u.length := by
  have := tD_len_le h hd.1
  rw [hd.2.1] at this
  exact this.2.1
theorem take_two {p t r u : List UInt8} (e : u = p ++ t ++ r) : u.take (p.length + t.length) = p ++ t := by
  rw [e, ← List.length_append, List.take_left]
def Rch (L : List Sg) (u : List UInt8) (j : Nat) : Prop := j ≤ u.length ∧ ∃ d, (∀ i ∈ d, i < L.length) ∧ tD L d = u.take j
def RMax (L : List Sg) (u : List UInt8) (m : Nat) : Prop := Rch L u m ∧ ∀ j, Rch L u j → j ≤ m
theorem RMax.uniq {L : List Sg} {u : List UInt8} {a b : Nat} (h : RMax L u a) (h2 : RMax L u b) : a = b := Nat.le_antisymm (h2.2 a h.1) (h.2 b h2.1)
theorem Rch.zero (L : List Sg) (u : List UInt8) : Rch L u 0 := ⟨Nat.zero_le _, [], (fun i h => (by cases h)), (by simp [tD])⟩
theorem Rch.step {L : List Sg} {u : List UInt8} {j i : Nat} (h : Rch L u j) (hi : i ∈ stL L (u.drop j)) : Rch L u (j + (sgAt L i).t.length) := by
  obtain ⟨h1, d, h2, h3⟩ := h
  obtain ⟨hil, hp⟩ := stL_mem.1 hi
  have hl := hp.length_le
  rw [List.length_drop] at hl
  refine ⟨by omega, d ++ [i], fun k hk => ?_, ?_⟩
  · rcases List.mem_append.1 hk with hk | hk
    · exact h2 k hk
    · rw [List.mem_singleton.1 hk]; exact hil
  · rw [tD_snoc, h3]
    obtain ⟨r, hr⟩ := hp
    have e : u = u.take j ++ (sgAt L i).t ++ r := by rw [List.append_assoc, hr, List.take_append_drop]
    have := take_two e
    rw [List.length_take, show min j u.length = j by omega] at this
    exact this.symm
theorem Rch.last {L : List Sg} (hne : TxNe L) {u : List UInt8} {j : Nat} (h : Rch L u j) (h0 : 0 < j) : ∃ k i, k < j ∧ Rch L u k ∧ i ∈ stL L (u.drop k) ∧ j = k + (sgAt L i).t.length := by
  obtain ⟨h1, d, h2, h3⟩ := h
  rcases List.eq_nil_or_concat d with rfl | ⟨e, i, rfl⟩
  · have := congrArg List.length h3
    rw [List.length_take] at this
    simp [tD] at this
    omega
  · rw [List.concat_eq_append] at h2 h3
    rw [tD_snoc] at h3
    have hil := h2 i (by simp)
    have hn := hne.at hil
    have hlen := congrArg List.length h3
    rw [List.length_append, List.length_take] at hlen
    have hk : (tD L e).length + (sgAt L i).t.length = j := by omega
    have hu : u = (tD L e ++ (sgAt L i).t) ++ u.drop j := by rw [h3, List.take_append_drop]
    have hk1 : u.take (tD L e).length = tD L e := by
      conv => lhs; rw [hu]
      rw [List.append_assoc, List.take_left]
    have hk2 : u.drop (tD L e).length = (sgAt L i).t ++ u.drop j := by
      conv => lhs; rw [hu]
      rw [List.append_assoc, List.drop_left]
    exact ⟨(tD L e).length, i, by omega, ⟨by omega, e, fun x hx => h2 x (by simp [hx]), hk1.symm⟩, stL_mem.2 ⟨hil, u.drop j, hk2.symm⟩, hk.symm⟩
end Go.Proofs.YtjamfcihjendiaaGreat

namespace Go.Proofs.YtjamfcihjendiaaGreat
open Go.RowKit
set_option linter.unusedVariables false
set_option linter.unusedSimpArgs false
set_option maxRecDepth 100000

def stK (L : List Sg) (u : List UInt8) (k : Nat) : List Nat := (List.range k).filter fun i => (sgAt L i).t.isPrefixOf u
theorem stK_all (L : List Sg) (u : List UInt8) : stK L u L.length = stL L u := rfl
theorem stK_zero (L : List Sg) (u : List UInt8) : stK L u 0 = [] := rfl
theorem stK_snoc (L : List Sg) (u : List UInt8) (k : Nat) : stK L u (k + 1) = stK L u k ++ (if (sgAt L k).t.isPrefixOf u = true then [k] else []) := by
  unfold stK
  rw [List.range_succ, List.filter_append]
  congr 1
  by_cases h : (sgAt L k).t.isPrefixOf u = true
  · rw [if_pos h]; simp [List.filter, h]
  · rw [if_neg h]; simp [List.filter, h]
theorem stK_len (L : List Sg) (u : List UInt8) (k : Nat) : (stK L u k).length ≤ k := by
  have := List.length_filter_le (fun i => (sgAt L i).t.isPrefixOf u) (List.range k)
  rw [List.length_range] at this
  exact this
theorem stL_len (L : List Sg) (u : List UInt8) : (stL L u).length ≤ L.length := stK_len L u L.length
theorem prefix_cut {t u : List UInt8} {a : Nat} (h : a + t.length ≤ u.length) : t.isPrefixOf (u.drop a) = ((u.drop a).take t.length == t) := by
  rw [Bool.eq_iff_iff, List.isPrefixOf_iff_prefix, beq_iff_eq]
  constructor
  · rintro ⟨r, hr⟩; rw [← hr, List.take_left]
  · intro e
    refine ⟨(u.drop a).drop t.length, ?_⟩
    have h1 := List.take_append_drop t.length (u.drop a)
    rw [e] at h1
    exact h1
theorem prefix_no {t u : List UInt8} {a : Nat} (h : ¬ a + t.length ≤ u.length) (ha : a ≤ u.length) : t.isPrefixOf (u.drop a) = false := by
  rw [Bool.eq_false_iff]
  intro h2
  rw [List.isPrefixOf_iff_prefix] at h2
  have := h2.length_le
  rw [List.length_drop] at this
  omega
theorem dI_snoc (d : List Nat) (i : Nat) : dI (d ++ [i]) = dI d ++ [(i : Int)] := by unfold dI; rw [List.map_append]; rfl
theorem dI_at {d : List Nat} {k i : Nat} (h : d[k]? = some i) : (dI d)[k]? = some ((i : Nat) : Int) := by unfold dI; rw [List.getElem?_map, h]; rfl
theorem cD_take {L : List Sg} {d : List Nat} {k i : Nat} (h : d[k]? = some i) : cD L (d.take (k + 1)) = cD L (d.take k) + (sgAt L i).c := by rw [take_snocA h, cD_snoc]
def LexI (a b : List Nat) (i : Nat) : Prop := lexB a b = lexB (a.drop i) (b.drop i)
theorem LexI.start (a b : List Nat) : LexI a b 0 := rfl
theorem LexI.step {a b : List Nat} {i x : Nat} (h : LexI a b i) (hx : a[i]? = some x) (hy : b[i]? = some x) : LexI a b (i + 1) := by
  unfold LexI at h ⊢
  rw [h, drop_at hx, drop_at hy, lexB, if_pos rfl]
theorem LexI.differ {a b : List Nat} {i x y : Nat} (h : LexI a b i) (hx : a[i]? = some x) (hy : b[i]? = some y) (hxy : x ≠ y) : lexB a b = decide (x < y) := by
  rw [h, drop_at hx, drop_at hy, lexB, if_neg hxy]
theorem LexI.fin {a b : List Nat} {i : Nat} (h : LexI a b i) (hi : i = a.length ∨ i = b.length) (h1 : i ≤ a.length) (h2 : i ≤ b.length) : lexB a b = decide (a.length < b.length) := by
  rw [h]
  rcases hi with hi | hi
  · rw [List.drop_eq_nil_of_le (by omega : a.length ≤ i)]
    cases hb : b.drop i with
    | nil =>
      have := congrArg List.length hb
      rw [List.length_drop, List.length_nil] at this
      rw [decide_eq_false (by omega)]; rfl
    | cons z s =>
      have := congrArg List.length hb
      rw [List.length_drop, List.length_cons] at this
      rw [decide_eq_true (by omega)]; rfl
  · rw [List.drop_eq_nil_of_le (by omega : b.length ≤ i)]
    rw [decide_eq_false (by omega)]
    cases a.drop i <;> rfl
end Go.Proofs.YtjamfcihjendiaaGreat
