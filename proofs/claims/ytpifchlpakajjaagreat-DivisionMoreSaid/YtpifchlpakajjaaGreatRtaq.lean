/- Several texts in one: JA, JB. -/
import Derived.Test.YtpifchlpakajjaaGreatRtap
import Derived.Test.YtpifchlpakajjaaGreatRtak
namespace Go.Proofs.YtpifchlpakajjaaGreat
open Go.RowKit
set_option linter.unusedVariables false
set_option linter.unusedSimpArgs false
set_option maxRecDepth 100000

def sgAt (L : List Sg) (i : Nat) : Sg := L.getD i zSg
theorem sgAt_is {L : List Sg} {i : Nat} {x : Sg} (h : L[i]? = some x) : sgAt L i = x := by unfold sgAt; rw [List.getD_eq_getElem?_getD, h]; rfl
theorem sgAt_get {L : List Sg} {i : Nat} (h : i < L.length) : L[i]? = some (sgAt L i) := by
  unfold sgAt; rw [List.getD_eq_getElem?_getD, List.getElem?_eq_getElem h]; rfl
def tD (L : List Sg) (d : List Nat) : List UInt8 := d.flatMap fun i => (sgAt L i).t
def cD (L : List Sg) : List Nat → Int
  | [] => 0
  | i :: r => (sgAt L i).c + cD L r
theorem tD_cons (L : List Sg) (i : Nat) (r : List Nat) : tD L (i :: r) = (sgAt L i).t ++ tD L r := by unfold tD; rw [List.flatMap_cons]
theorem cD_cons (L : List Sg) (i : Nat) (r : List Nat) : cD L (i :: r) = (sgAt L i).c + cD L r := rfl
theorem cD_snoc (L : List Sg) : ∀ (d : List Nat) (i : Nat), cD L (d ++ [i]) = cD L d + (sgAt L i).c
  | [], i => by simp [cD]
  | j :: r, i => by rw [List.cons_append, cD_cons, cD_cons, cD_snoc L r i]; omega
def okD (L : List Sg) : List Snd → List Nat → Bool
  | _, [] => true
  | B, [i] => whB (sgAt L i).w B []
  | B, i :: j :: r => whB (sgAt L i).w B (sgAt L j).s && okD L (sgAt L i).s (j :: r)
def isD (L : List Sg) (u : List UInt8) (B : List Snd) (d : List Nat) : Prop := (∀ i ∈ d, i < L.length) ∧ tD L d = u ∧ okD L B d = true
def stL (L : List Sg) (u : List UInt8) : List Nat := (List.range L.length).filter fun i => (sgAt L i).t.isPrefixOf u
theorem stL_mem {L : List Sg} {u : List UInt8} {i : Nat} : i ∈ stL L u ↔ i < L.length ∧ (sgAt L i).t <+: u := by
  unfold stL
  rw [List.mem_filter, List.mem_range, List.isPrefixOf_iff_prefix]
theorem stL_nodup (L : List Sg) (u : List UInt8) : (stL L u).Nodup := List.Pairwise.sublist List.filter_sublist List.nodup_range
def bh (L : List Sg) : Nat → Nat → List UInt8 → List Snd → List (List Nat)
  | 0, _, _, _ => []
  | f + 1, i, u, B =>
    let v := u.drop (sgAt L i).t.length
    if v.length = 0 then (if whB (sgAt L i).w B [] = true then [[i]] else [])
    else (stL L v).flatMap fun k => if whB (sgAt L i).w B (sgAt L k).s = true then (bh L f k v (sgAt L i).s).map (i :: ·) else []
theorem bh_end {L : List Sg} {f i : Nat} {u : List UInt8} {B : List Snd} (h : (u.drop (sgAt L i).t.length).length = 0) : bh L (f + 1) i u B = if whB (sgAt L i).w B [] = true then [[i]] else [] := by
  rw [bh, if_pos h]
theorem bh_on {L : List Sg} {f i : Nat} {u : List UInt8} {B : List Snd} (h : ¬ (u.drop (sgAt L i).t.length).length = 0) : bh L (f + 1) i u B = (stL L (u.drop (sgAt L i).t.length)).flatMap fun k => if whB (sgAt L i).w B (sgAt L k).s = true then (bh L f k (u.drop (sgAt L i).t.length) (sgAt L i).s).map (i :: ·) else [] := by
  rw [bh, if_neg h]
def TxNe (L : List Sg) : Prop := ∀ x ∈ L, 0 < x.t.length
theorem TxNe.at {L : List Sg} (h : TxNe L) {i : Nat} (hi : i < L.length) : 0 < (sgAt L i).t.length := h _ (List.mem_of_getElem? (sgAt_get hi))
theorem bh_mem {L : List Sg} (hne : TxNe L) : ∀ (f i : Nat) (u : List UInt8) (B : List Snd), u.length ≤ f → i < L.length → (sgAt L i).t <+: u → ∀ d, d ∈ bh L f i u B ↔ ∃ r, d = i :: r ∧ isD L u B d
  | 0, i, u, B, hf, hi, hp, d => by
    have := hne.at hi
    have := hp.length_le
    omega
  | f + 1, i, u, B, hf, hi, hp, d => by
    have h0 := hne.at hi
    have hle := hp.length_le
    have hu : u = (sgAt L i).t ++ u.drop (sgAt L i).t.length := by
      obtain ⟨s, hs⟩ := hp
      rw [← hs, List.drop_left]
    have hdl : (u.drop (sgAt L i).t.length).length = u.length - (sgAt L i).t.length := List.length_drop
    obtain ⟨v, hv⟩ : ∃ v, v = u.drop (sgAt L i).t.length := ⟨_, rfl⟩
    rw [← hv] at hu hdl
    by_cases hz : v.length = 0
    · rw [bh_end (by rw [← hv]; exact hz)]
      have hv0 := List.eq_nil_of_length_eq_zero hz
      constructor
      · intro h
        split at h
        · rename_i hw
          rw [List.mem_singleton] at h
          subst h
          refine ⟨[], rfl, fun j hj => by rw [List.mem_singleton.1 hj]; exact hi, ?_, hw⟩
          rw [tD_cons, hu, hv0]; rfl
        · cases h
      · rintro ⟨r, rfl, h1, h2, h3⟩
        have hr : r = [] := by
          match r with
          | [] => rfl
          | j :: r' =>
            rw [tD_cons, hu, hv0] at h2
            have h2 := List.append_cancel_left h2
            rw [tD_cons] at h2
            have hj := hne.at (h1 j (List.mem_cons_of_mem _ List.mem_cons_self))
            have := congrArg List.length h2
            rw [List.length_append, List.length_nil] at this
            omega
        subst hr
        have h3 : whB (sgAt L i).w B [] = true := h3
        rw [if_pos h3]
        exact List.mem_singleton.2 rfl
    · rw [bh_on (by rw [← hv]; exact hz), ← hv, List.mem_flatMap]
      constructor
      · rintro ⟨k, hk, h⟩
        obtain ⟨hkl, hkp⟩ := stL_mem.1 hk
        split at h
        · rename_i hw
          obtain ⟨e, he, rfl⟩ := List.mem_map.1 h
          obtain ⟨r, rfl, g1, g2, g3⟩ := (bh_mem hne f k v (sgAt L i).s (by omega) hkl hkp e).1 he
          refine ⟨k :: r, rfl, fun j hj => ?_, ?_, ?_⟩
          · rcases List.mem_cons.1 hj with rfl | hj
            · exact hi
            · exact g1 j hj
          · rw [tD_cons, g2, ← hu]
          · rw [okD, hw, g3]; rfl
        · cases h
      · rintro ⟨r, rfl, h1, h2, h3⟩
        match r, h1, h2, h3 with
        | [], h1, h2, h3 =>
          rw [tD_cons, hu] at h2
          have h2 := List.append_cancel_left h2
          have : v = [] := by rw [← h2]; rfl
          rw [this] at hz; exact absurd rfl hz
        | k :: r', h1, h2, h3 =>
          rw [tD_cons, hu] at h2
          have h2 := List.append_cancel_left h2
          rw [okD, Bool.and_eq_true] at h3
          have hkl := h1 k (List.mem_cons_of_mem _ List.mem_cons_self)
          have hkp : (sgAt L k).t <+: v := ⟨tD L r', by rw [← h2, tD_cons]⟩
          refine ⟨k, stL_mem.2 ⟨hkl, hkp⟩, ?_⟩
          rw [if_pos h3.1]
          exact List.mem_map.2 ⟨k :: r', (bh_mem hne f k v (sgAt L i).s (by omega) hkl hkp _).2 ⟨r', rfl, fun j hj => h1 j (List.mem_cons_of_mem _ hj), h2, h3.2⟩, rfl⟩
theorem bh_head {L : List Sg} (hne : TxNe L) {f i : Nat} {u : List UInt8} {B : List Snd} (hf : u.length ≤ f) (hi : i < L.length) (hp : (sgAt L i).t <+: u) {d : List Nat} (h : d ∈ bh L f i u B) : ∃ r, d = i :: r := by
  obtain ⟨r, e, _⟩ := (bh_mem hne f i u B hf hi hp d).1 h
  exact ⟨r, e⟩
theorem nodup_flat {α β : Type} {g : α → List β} : ∀ {l : List α}, l.Nodup → (∀ a ∈ l, (g a).Nodup) → (∀ a ∈ l, ∀ b ∈ l, a ≠ b → ∀ x, x ∈ g a → x ∉ g b) → (l.flatMap g).Nodup
  | [], _, _, _ => by simp
  | a :: r, hn, h1, h2 => by
    rw [List.flatMap_cons, List.nodup_append]
    rw [List.nodup_cons] at hn
    refine ⟨h1 a List.mem_cons_self, nodup_flat hn.2 (fun b hb => h1 b (List.mem_cons_of_mem _ hb)) (fun b hb c hc => h2 b (List.mem_cons_of_mem _ hb) c (List.mem_cons_of_mem _ hc)), fun x hx y hy e => ?_⟩
    subst e
    obtain ⟨b, hb, hxb⟩ := List.mem_flatMap.1 hy
    exact h2 a List.mem_cons_self b (List.mem_cons_of_mem _ hb) (fun e => hn.1 (e ▸ hb)) x hx hxb
theorem map_nodup {α β : Type} {f : α → β} (hf : ∀ a b, f a = f b → a = b) : ∀ {l : List α}, l.Nodup → (l.map f).Nodup
  | [], _ => by simp
  | a :: r, h => by
    rw [List.nodup_cons] at h
    rw [List.map_cons, List.nodup_cons]
    exact ⟨fun hm => by
      obtain ⟨b, hb, e⟩ := List.mem_map.1 hm
      exact h.1 (hf _ _ e ▸ hb), map_nodup hf h.2⟩
theorem bh_nodup {L : List Sg} (hne : TxNe L) : ∀ (f i : Nat) (u : List UInt8) (B : List Snd), u.length ≤ f → i < L.length → (sgAt L i).t <+: u → (bh L f i u B).Nodup
  | 0, _, _, _, _, _, _ => by simp [bh]
  | f + 1, i, u, B, hf, hi, hp => by
    have h0 := hne.at hi
    have hle := hp.length_le
    by_cases hz : (u.drop (sgAt L i).t.length).length = 0
    · rw [bh_end hz]; split <;> simp
    · rw [bh_on hz]
      have hl : (u.drop (sgAt L i).t.length).length ≤ f := by rw [List.length_drop]; omega
      refine nodup_flat (stL_nodup _ _) (fun k hk => ?_) (fun a ha b hb hab x hx hx2 => ?_)
      · obtain ⟨hkl, hkp⟩ := stL_mem.1 hk
        split
        · exact map_nodup (fun a b e => by injection e) (bh_nodup hne f k _ _ hl hkl hkp)
        · simp
      · obtain ⟨hal, hap⟩ := stL_mem.1 ha
        obtain ⟨hbl, hbp⟩ := stL_mem.1 hb
        split at hx
        · split at hx2
          · obtain ⟨e, he, rfl⟩ := List.mem_map.1 hx
            obtain ⟨e2, he2, h2⟩ := List.mem_map.1 hx2
            injection h2 with _ h2
            subst h2
            obtain ⟨r, rfl⟩ := bh_head hne hl hal hap he
            obtain ⟨r2, h3⟩ := bh_head hne hl hbl hbp he2
            injection h3 with h3
            exact hab h3
          · cases hx2
        · cases hx
def dvs (L : List Sg) (u : List UInt8) : List (List Nat) := (stL L u).flatMap fun i => bh L u.length i u []
theorem dvs_mem {L : List Sg} (hne : TxNe L) {u : List UInt8} (h0 : 0 < u.length) (d : List Nat) : d ∈ dvs L u ↔ isD L u [] d := by
  unfold dvs
  rw [List.mem_flatMap]
  constructor
  · rintro ⟨i, hi, h⟩
    obtain ⟨hil, hip⟩ := stL_mem.1 hi
    obtain ⟨r, _, h⟩ := (bh_mem hne u.length i u [] (Nat.le_refl _) hil hip d).1 h
    exact h
  · intro h
    match d, h with
    | [], ⟨_, h2, _⟩ => rw [← h2] at h0; exact absurd h0 (Nat.lt_irrefl 0)
    | i :: r, h =>
      have hil := h.1 i List.mem_cons_self
      have hip : (sgAt L i).t <+: u := ⟨tD L r, by rw [← h.2.1, tD_cons]⟩
      exact ⟨i, stL_mem.2 ⟨hil, hip⟩, (bh_mem hne u.length i u [] (Nat.le_refl _) hil hip _).2 ⟨r, rfl, h⟩⟩
theorem dvs_nodup {L : List Sg} (hne : TxNe L) (u : List UInt8) : (dvs L u).Nodup := by
  refine nodup_flat (stL_nodup _ _) (fun k hk => ?_) (fun a ha b hb hab x hx hx2 => ?_)
  · obtain ⟨hkl, hkp⟩ := stL_mem.1 hk
    exact bh_nodup hne _ k _ _ (Nat.le_refl _) hkl hkp
  · obtain ⟨hal, hap⟩ := stL_mem.1 ha
    obtain ⟨hbl, hbp⟩ := stL_mem.1 hb
    obtain ⟨r, rfl⟩ := bh_head hne (Nat.le_refl _) hal hap hx
    obtain ⟨r2, h3⟩ := bh_head hne (Nat.le_refl _) hbl hbp hx2
    injection h3 with h3
    exact hab h3
def clsB (B : List Snd) : Nat := if B.length = 0 then 0 else if endB B = true then 1 else 2
theorem whB_cls {w : Int} {B B' A : List Snd} (h : clsB B = clsB B') : whB w B A = whB w B' A := by
  have key : (B.length == 0) = (B'.length == 0) ∧ endB B = endB B' := by
    unfold clsB at h
    have e0 : ∀ C : List Snd, C.length = 0 → endB C = false := fun C hC => by rw [List.eq_nil_of_length_eq_zero hC]; rfl
    by_cases h1 : B.length = 0 <;> by_cases h2 : B'.length = 0
    · rw [e0 B h1, e0 B' h2, h1, h2]; exact ⟨rfl, rfl⟩
    · rw [if_pos h1, if_neg h2] at h; split at h <;> cases h
    · rw [if_neg h1, if_pos h2] at h; split at h <;> cases h
    · rw [if_neg h1, if_neg h2] at h
      refine ⟨by rw [beq_eq_false_iff_ne.2 h1, beq_eq_false_iff_ne.2 h2], ?_⟩
      cases hb : endB B <;> cases hb2 : endB B' <;> rw [hb, hb2] at h <;> simp at h ⊢
  unfold whB
  rw [key.1, key.2]
theorem bh_cls {L : List Sg} {B B' : List Snd} (h : clsB B = clsB B') : ∀ (f i : Nat) (u : List UInt8), bh L f i u B = bh L f i u B'
  | 0, _, _ => rfl
  | f + 1, i, u => by
    by_cases hz : (u.drop (sgAt L i).t.length).length = 0
    · rw [bh_end hz, bh_end hz, whB_cls h]
    · rw [bh_on hz, bh_on hz]
      congr 1
      funext k
      rw [whB_cls h]
theorem bh_fuel {L : List Sg} (hne : TxNe L) : ∀ (f g i : Nat) (u : List UInt8) (B : List Snd), u.length ≤ f → u.length ≤ g → i < L.length → (sgAt L i).t <+: u → bh L f i u B = bh L g i u B
  | 0, g, i, u, B, hf, hg, hi, hp => by have := hne.at hi; have := hp.length_le; omega
  | f + 1, 0, i, u, B, hf, hg, hi, hp => by have := hne.at hi; have := hp.length_le; omega
  | f + 1, g + 1, i, u, B, hf, hg, hi, hp => by
    have h0 := hne.at hi
    have hle := hp.length_le
    by_cases hz : (u.drop (sgAt L i).t.length).length = 0
    · rw [bh_end hz, bh_end hz]
    · rw [bh_on hz, bh_on hz]
      have hl : (u.drop (sgAt L i).t.length).length = u.length - (sgAt L i).t.length := List.length_drop
      have key : ∀ k ∈ stL L (u.drop (sgAt L i).t.length), (if whB (sgAt L i).w B (sgAt L k).s = true then (bh L f k (u.drop (sgAt L i).t.length) (sgAt L i).s).map (i :: ·) else []) = (if whB (sgAt L i).w B (sgAt L k).s = true then (bh L g k (u.drop (sgAt L i).t.length) (sgAt L i).s).map (i :: ·) else []) := fun k hk => by
        obtain ⟨hkl, hkp⟩ := stL_mem.1 hk
        rw [bh_fuel hne f g k _ _ (by omega) (by omega) hkl hkp]
      have : ∀ l : List Nat, (∀ k ∈ l, k ∈ stL L (u.drop (sgAt L i).t.length)) → l.flatMap (fun k => if whB (sgAt L i).w B (sgAt L k).s = true then (bh L f k (u.drop (sgAt L i).t.length) (sgAt L i).s).map (i :: ·) else []) = l.flatMap (fun k => if whB (sgAt L i).w B (sgAt L k).s = true then (bh L g k (u.drop (sgAt L i).t.length) (sgAt L i).s).map (i :: ·) else []) := by
        intro l
        induction l with
        | nil => intro _; rfl
        | cons k r ih =>
          intro h
          rw [List.flatMap_cons, List.flatMap_cons, key k (h k List.mem_cons_self), ih (fun j hj => h j (List.mem_cons_of_mem _ hj))]
      exact this _ (fun k hk => hk)
end Go.Proofs.YtpifchlpakajjaaGreat

namespace Go.Proofs.YtpifchlpakajjaaGreat
open Go.RowKit
set_option linter.unusedVariables false
set_option linter.unusedSimpArgs false
set_option maxRecDepth 100000

def lexB : List Nat → List Nat → Bool
  | [], [] => false
  | [], _ :: _ => true
  | _ :: _, [] => false
  | a :: r, b :: s => if a = b then lexB r s else decide (a < b)
theorem lexB_irrefl : ∀ l : List Nat, lexB l l = false
  | [] => rfl
  | a :: r => by rw [lexB, if_pos rfl]; exact lexB_irrefl r
theorem lexB_total : ∀ {l m : List Nat}, lexB l m = false → lexB m l = false → l = m
  | [], [], _, _ => rfl
  | [], _ :: _, h, _ => by cases h
  | _ :: _, [], _, h => by cases h
  | a :: r, b :: s, h, h2 => by
    rw [lexB] at h h2
    by_cases e : a = b
    · subst e
      rw [if_pos rfl] at h h2
      rw [lexB_total h h2]
    · rw [if_neg e] at h
      rw [if_neg (Ne.symm e)] at h2
      simp at h h2
      omega
theorem lexB_trans : ∀ {l m k : List Nat}, lexB l m = true → lexB m k = true → lexB l k = true
  | [], _ :: _, [], _, h => by cases h
  | [], _ :: _, _ :: _, _, _ => rfl
  | [], [], _, h, _ => by cases h
  | _ :: _, [], _, h, _ => by cases h
  | _ :: _, _ :: _, [], _, h => by cases h
  | a :: r, b :: s, c :: t, h, h2 => by
    rw [lexB] at h h2 ⊢
    by_cases e : a = b
    · subst e
      rw [if_pos rfl] at h
      by_cases e2 : a = c
      · subst e2
        rw [if_pos rfl] at h2 ⊢
        exact lexB_trans h h2
      · rw [if_neg e2] at h2 ⊢; exact h2
    · rw [if_neg e] at h
      by_cases e2 : b = c
      · subst e2
        rw [if_neg e]; exact h
      · rw [if_neg e2] at h2
        simp at h h2
        rw [if_neg (by omega)]
        exact decide_eq_true (by omega)
def befB (L : List Sg) (a b : List Nat) : Bool := if cD L a = cD L b then lexB a b else decide (cD L a < cD L b)
theorem befB_irrefl (L : List Sg) (a : List Nat) : befB L a a = false := by unfold befB; rw [if_pos rfl]; exact lexB_irrefl a
theorem befB_total {L : List Sg} {a b : List Nat} (h : befB L a b = false) (h2 : befB L b a = false) : a = b := by
  unfold befB at h h2
  by_cases e : cD L a = cD L b
  · rw [if_pos e] at h; rw [if_pos e.symm] at h2; exact lexB_total h h2
  · rw [if_neg e] at h; rw [if_neg (Ne.symm e)] at h2; simp at h h2; omega
theorem befB_trans {L : List Sg} {a b c : List Nat} (h : befB L a b = true) (h2 : befB L b c = true) : befB L a c = true := by
  unfold befB at h h2 ⊢
  by_cases e : cD L a = cD L b
  · rw [if_pos e] at h
    by_cases e2 : cD L b = cD L c
    · rw [if_pos e2] at h2; rw [if_pos (e.trans e2)]; exact lexB_trans h h2
    · rw [if_neg e2] at h2; rw [if_neg (by rw [e]; exact e2), e]; exact h2
  · rw [if_neg e] at h
    by_cases e2 : cD L b = cD L c
    · rw [← e2, if_neg e]; exact h
    · rw [if_neg e2] at h2
      simp at h h2
      rw [if_neg (by omega)]
      exact decide_eq_true (by omega)
theorem befB_asym {L : List Sg} {a b : List Nat} (h : befB L a b = true) : befB L b a = false := by
  cases h2 : befB L b a with
  | false => rfl
  | true => have := befB_trans h h2; rw [befB_irrefl] at this; cases this
def Ord (L : List Sg) (l : List (List Nat)) : Prop := l.Pairwise fun a b => befB L a b = true
theorem Ord.uniq {L : List Sg} : ∀ {l m : List (List Nat)}, Ord L l → Ord L m → (∀ x, x ∈ l ↔ x ∈ m) → l = m
  | [], [], _, _, _ => rfl
  | [], b :: _, _, _, h => by have := (h b).2 List.mem_cons_self; cases this
  | a :: _, [], _, _, h => by have := (h a).1 List.mem_cons_self; cases this
  | a :: r, b :: s, hl, hm, h => by
    have hl' := List.pairwise_cons.1 hl
    have hm' := List.pairwise_cons.1 hm
    have e : a = b := by
      rcases List.mem_cons.1 ((h a).1 List.mem_cons_self) with e | h1
      · exact e
      · rcases List.mem_cons.1 ((h b).2 List.mem_cons_self) with e | h2
        · exact e.symm
        · have x1 := hm'.1 a h1
          have x2 := hl'.1 b h2
          rw [befB_asym x1] at x2; cases x2
    subst e
    have hr : ∀ x, x ∈ r ↔ x ∈ s := fun x => by
      constructor
      · intro hx
        rcases List.mem_cons.1 ((h x).1 (List.mem_cons_of_mem _ hx)) with e | h1
        · subst e; have := hl'.1 x hx; rw [befB_irrefl] at this; cases this
        · exact h1
      · intro hx
        rcases List.mem_cons.1 ((h x).2 (List.mem_cons_of_mem _ hx)) with e | h1
        · subst e; have := hm'.1 x hx; rw [befB_irrefl] at this; cases this
        · exact h1
    rw [Ord.uniq hl'.2 hm'.2 hr]
def insD (L : List Sg) (x : List Nat) : List (List Nat) → List (List Nat)
  | [] => [x]
  | y :: r => if befB L y x = true then y :: insD L x r else x :: y :: r
def srtD (L : List Sg) (l : List (List Nat)) : List (List Nat) := l.foldl (fun out x => insD L x out) []
theorem insD_mem (L : List Sg) (x : List Nat) : ∀ (out : List (List Nat)) (y : List Nat), y ∈ insD L x out ↔ y = x ∨ y ∈ out
  | [], y => by simp [insD]
  | z :: r, y => by
    rw [insD]
    split
    · rw [List.mem_cons, insD_mem L x r y, List.mem_cons]
      constructor
      · rintro (h | h | h)
        · exact Or.inr (Or.inl h)
        · exact Or.inl h
        · exact Or.inr (Or.inr h)
      · rintro (h | h | h)
        · exact Or.inr (Or.inl h)
        · exact Or.inl h
        · exact Or.inr (Or.inr h)
    · simp
theorem insD_len (L : List Sg) (x : List Nat) : ∀ (out : List (List Nat)), (insD L x out).length = out.length + 1
  | [] => rfl
  | z :: r => by
    rw [insD]
    split
    · rw [List.length_cons, insD_len L x r, List.length_cons]
    · rfl
theorem insD_ord {L : List Sg} {x : List Nat} : ∀ {out : List (List Nat)}, Ord L out → x ∉ out → Ord L (insD L x out)
  | [], _, _ => by simp [insD, Ord]
  | z :: r, h, hx => by
    have h' := List.pairwise_cons.1 h
    have hzx : z ≠ x := fun e => hx (e ▸ List.mem_cons_self)
    have hxr : x ∉ r := fun e => hx (List.mem_cons_of_mem _ e)
    rw [insD]
    split
    · rename_i hb
      refine List.pairwise_cons.2 ⟨fun y hy => ?_, insD_ord h'.2 hxr⟩
      rcases (insD_mem L x r y).1 hy with rfl | hy
      · exact hb
      · exact h'.1 y hy
    · rename_i hb
      have hb : befB L z x = false := by simpa using hb
      have hxz : befB L x z = true := by
        cases h2 : befB L x z with
        | true => rfl
        | false => exact absurd (befB_total hb h2) hzx
      refine List.pairwise_cons.2 ⟨fun y hy => ?_, h⟩
      rcases List.mem_cons.1 hy with rfl | hy
      · exact hxz
      · exact befB_trans hxz (h'.1 y hy)
theorem srt_go {L : List Sg} : ∀ (l out : List (List Nat)), Ord L out → l.Nodup → (∀ x ∈ l, x ∉ out) → Ord L (l.foldl (fun out x => insD L x out) out) ∧ ∀ y, y ∈ l.foldl (fun out x => insD L x out) out ↔ y ∈ l ∨ y ∈ out
  | [], out, h, _, _ => ⟨h, fun y => by simp⟩
  | x :: r, out, h, hn, hd => by
    rw [List.nodup_cons] at hn
    have ih := srt_go r (insD L x out) (insD_ord h (hd x List.mem_cons_self)) hn.2 (fun y hy hm => by
      rcases (insD_mem L x out y).1 hm with rfl | hm
      · exact hn.1 hy
      · exact hd y (List.mem_cons_of_mem _ hy) hm)
    rw [List.foldl_cons]
    refine ⟨ih.1, fun y => ?_⟩
    rw [ih.2 y, insD_mem, List.mem_cons]
    constructor
    · rintro (h | h | h)
      · exact Or.inl (Or.inr h)
      · exact Or.inl (Or.inl h)
      · exact Or.inr h
    · rintro ((h | h) | h)
      · exact Or.inr (Or.inl h)
      · exact Or.inl h
      · exact Or.inr (Or.inr h)
theorem srtD_ord {L : List Sg} {l : List (List Nat)} (h : l.Nodup) : Ord L (srtD L l) := (srt_go l [] List.Pairwise.nil h (fun _ _ h => by cases h)).1
theorem srtD_mem {L : List Sg} {l : List (List Nat)} (h : l.Nodup) (y : List Nat) : y ∈ srtD L l ↔ y ∈ l := by
  have := (srt_go (L := L) l [] List.Pairwise.nil h (fun _ _ h => by cases h)).2 y
  unfold srtD
  rw [this]; simp
theorem srt_len (L : List Sg) : ∀ (l out : List (List Nat)), (l.foldl (fun out x => insD L x out) out).length = l.length + out.length
  | [], out => by simp
  | x :: r, out => by rw [List.foldl_cons, srt_len L r, insD_len, List.length_cons]; omega
theorem srtD_len (L : List Sg) (l : List (List Nat)) : (srtD L l).length = l.length := by unfold srtD; rw [srt_len]; rfl
def mn (n : Nat) : Nat := min 201 n
theorem mn_le (n : Nat) : mn n ≤ 201 := Nat.min_le_left _ _
theorem mn_pos {n : Nat} : 0 < mn n ↔ 0 < n := by unfold mn; omega
def onTo (L : List Sg) (f i : Nat) (v : List UInt8) (B : List Snd) (ks : List Nat) : List (List Nat) := ks.flatMap fun k => if whB (sgAt L i).w B (sgAt L k).s = true then (bh L f k v (sgAt L i).s).map (i :: ·) else []
theorem mn_add (a b : Nat) : mn (mn a + mn b) = mn (a + b) := by unfold mn; omega
theorem mn_mn (a : Nat) : mn (mn a) = mn a := by unfold mn; omega
end Go.Proofs.YtpifchlpakajjaaGreat
