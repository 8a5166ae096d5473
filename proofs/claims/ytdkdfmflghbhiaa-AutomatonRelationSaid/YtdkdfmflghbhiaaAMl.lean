/- Plain mathematics: the automaton of the classes, as a list of rows. Nothing here speaks of the program. -/
import Derived.Test.YtdkdfmflghbhiaaAMk
namespace Go.Proofs.Ytdkdfmflghbhiaa
set_option linter.unusedVariables false

/-- The classes in the order of their first states. -/
noncomputable def clsL (c : List Int) (m : Nat) : List Int := (firsts c m).map fun i => c.getD i (-1)
/-- The number of the class of a state, or -1. -/
noncomputable def numV (c : List Int) (m : Nat) (t : Int) : Int := if t < 0 then -1 else if c.getD t.toNat (-1) = -1 then -1 else ((clsL c m).idxOf (c.getD t.toNat (-1)) : Nat)
noncomputable def mkRow (k : Nat) (nx c : List Int) (m i : Nat) : List Int := (List.range k).map fun l => numV c m (nxF nx k i l)
noncomputable def mkR (k : Nat) (nx c : List Int) (ac : List Bool) (m : Nat) : Au := { lt := k, nx := (firsts c m).map (mkRow k nx c m), ac := (firsts c m).map (acF ac), st := if (firsts c m).length = 0 then -1 else 0 }
theorem clsL_len (c : List Int) (m : Nat) : (clsL c m).length = (firsts c m).length := List.length_map ..
theorem clsL_at {c : List Int} {m j : Nat} {C : Int} (h : (clsL c m)[j]? = some C) : ∃ i : Nat, (firsts c m)[j]? = some i ∧ C = c.getD i (-1) ∧ i < m ∧ C ≠ -1 := by
  unfold clsL at h
  rw [List.getElem?_map] at h
  cases e : (firsts c m)[j]? with
  | none => rw [e] at h; cases h
  | some i =>
    rw [e] at h
    injection h with h
    obtain ⟨h1, h2, _⟩ := firsts_mem (List.mem_of_getElem? e)
    exact ⟨i, rfl, h.symm, h1, by rw [← h]; exact h2⟩
theorem clsL_mem {c : List Int} {m i : Nat} (hi : i < m) (h : c.getD i (-1) ≠ -1) : c.getD i (-1) ∈ clsL c m := by
  obtain ⟨i0, h1, _, h3⟩ := firsts_has hi h
  exact List.mem_map.2 ⟨i0, h1, h3⟩
theorem idx_at {β : Type} [BEq β] [LawfulBEq β] {l : List β} {x : β} (h : x ∈ l) : l[l.idxOf x]? = some x := by
  have h1 := List.idxOf_lt_length_of_mem h
  rw [List.getElem?_eq_getElem h1, List.getElem_idxOf h1]
section
variable {N k : Nat} {nx : List Int} {ac lv : List Bool} {p : Pt}
theorem cl_get (ok : p.Ok N (acF lv) []) (n : Nat) : p.clI (n : Int) = p.cls.getD n (-1) := clI_nat n
theorem isQuot_mk (hs : Sys N k (nxF nx k) (acF ac) (acF lv)) (ok : p.Ok N (acF lv) []) (h : Cls (gq (nxF nx k)) (aq (acF ac)) k (fun t => -1 ≤ t ∧ t < N) p.clI) :
    IsQuot k (clF (gq (nxF nx k)) (fun t => -1 ≤ t ∧ t < N) p.clI) (clA (aq (acF ac)) (fun t => -1 ≤ t ∧ t < N) p.clI) (clsL p.cls N) (mkR k nx p.cls ac N) := by
  have hat : ∀ (j i : Nat), (firsts p.cls N)[j]? = some i → i < N := fun j i hj => (firsts_mem (List.mem_of_getElem? hj)).1
  refine ⟨rfl, by show ((firsts p.cls N).map _).length = _; rw [List.length_map, clsL_len], ?_, by show ((firsts p.cls N).map _).length = _; rw [List.length_map, clsL_len], by rw [clsL_len]; rfl, ?_, ?_⟩
  · intro i row hi
    change ((firsts p.cls N).map (mkRow k nx p.cls N))[i]? = some row at hi
    rw [List.getElem?_map] at hi
    cases e : (firsts p.cls N)[i]? with
    | none => rw [e] at hi; cases hi
    | some a => rw [e] at hi; injection hi with hi; rw [← hi]; simp [mkRow]
  · intro j C l hj hl
    obtain ⟨i, hi, rfl, hiN, hne⟩ := clsL_at hj
    have hD : (fun t : Int => -1 ≤ t ∧ t < N) (i : Int) := ⟨by omega, by omega⟩
    have hf := h.f hD hl
    rw [cl_get ok, gq_nat] at hf
    have hgo : (mkR k nx p.cls ac N).go j l = numV p.cls N (nxF nx k i l) := by
      unfold Au.go
      rw [if_neg (by omega)]
      change (((firsts p.cls N).map (mkRow k nx p.cls N)).getD j []).getD l (-1) = _
      rw [List.getD_eq_getElem?_getD (l := (firsts p.cls N).map (mkRow k nx p.cls N)), List.getElem?_map, hi]
      show (mkRow k nx p.cls N i).getD l (-1) = _
      unfold mkRow
      rw [List.getD_eq_getElem?_getD, List.getElem?_map, List.getElem?_range hl]; rfl
    rw [hf, hgo]
    obtain ⟨t1, t2⟩ := hs.nin i l hiN hl
    unfold numV
    by_cases e : nxF nx k i l < 0
    · rw [if_pos e]
      exact .inl ⟨clI_neg e, rfl⟩
    · rw [if_neg e]
      obtain ⟨n, hn⟩ := Int.eq_ofNat_of_zero_le (show 0 ≤ nxF nx k i l by omega)
      have hn' : nxF nx k i l = (n : Int) := hn
      rw [hn', cl_get ok, Int.toNat_natCast]
      by_cases e2 : p.cls.getD n (-1) = -1
      · rw [if_pos e2]; exact .inl ⟨e2, rfl⟩
      · rw [if_neg e2]
        exact .inr ⟨_, rfl, idx_at (clsL_mem (by omega) e2)⟩
  · intro j C hj
    obtain ⟨i, hi, rfl, hiN, hne⟩ := clsL_at hj
    have hD : (fun t : Int => -1 ≤ t ∧ t < N) (i : Int) := ⟨by omega, by omega⟩
    have hf := h.acc hD
    rw [cl_get ok, aq_nat] at hf
    rw [hf]
    unfold Au.acc
    rw [decide_eq_true (by omega)]
    show (true && ((firsts p.cls N).map (acF ac)).getD j false) = _
    rw [List.getD_eq_getElem?_getD, List.getElem?_map, hi]; rfl
theorem fold_app {α : Type} (f : α → Nat → α) (x : α) (u v : List Nat) : (u ++ v).foldl f x = v.foldl f (u.foldl f x) := List.foldl_append
/-- The automaton of the classes is the minimal one. -/
theorem canon_mk (hs : Sys N k (nxF nx k) (acF ac) (acF lv)) (ok : p.Ok N (acF lv) []) (hop : Hop N k (nxF nx k) (acF ac) (acF lv) p p.sp.length) (hx : NxOk N k nx) (hac : ac.length = N)
    (hb : 0 < N → ∃ pa, Bfs (gq (nxF nx k)) (fun q => q = -1) k (0 : Int) ((List.range N).map Int.ofNat) pa (N * k)) :
    Canon k (fun u => aq (acF ac) (u.foldl (gq (nxF nx k)) 0)) (mkR k nx p.cls ac N) := by
  have h := hop.cls hs ok (Nat.le_refl _)
  have hq := isQuot_mk hs ok h
  have emp : clsL p.cls N = [] → (∀ u, Let k u → aq (acF ac) (u.foldl (gq (nxF nx k)) 0) = false) → Canon k (fun u => aq (acF ac) (u.foldl (gq (nxF nx k)) 0)) (mkR k nx p.cls ac N) := by
    intro e he
    rw [e] at hq
    exact (canon_empty hs.pos hq).of_eq (fun u hu => (he u hu).symm)
  by_cases h0 : N = 0
  · refine emp ?_ ?_
    · apply List.eq_nil_of_length_eq_zero
      rw [clsL_len, h0]; rfl
    · intro u hu
      cases u with
      | nil =>
        rw [List.foldl_nil]
        show aq (acF ac) ((0 : Nat) : Int) = false
        rw [aq_nat]
        unfold acF
        rw [List.getD_eq_getElem?_getD, List.getElem?_eq_none (by omega)]; rfl
      | cons c u =>
        rw [List.foldl_cons]
        have : gq (nxF nx k) 0 c = -1 := by
          show gq (nxF nx k) ((0 : Nat) : Int) c = -1
          rw [gq_nat]
          unfold nxF
          rw [List.getD_eq_getElem?_getD, List.getElem?_eq_none (by rw [hx.1, h0]; omega)]; rfl
        rw [this, fold_neg, aq_neg (by omega)]
  · obtain ⟨pa, hbf⟩ := hb (by omega)
    have hs0 : (fun t : Int => -1 ≤ t ∧ t < N) (0 : Int) := ⟨by omega, by omega⟩
    by_cases hd : p.clI 0 = -1
    · have hdead := (h.dead 0 hs0).1 hd
      refine emp ?_ hdead
      apply List.eq_nil_of_length_eq_zero
      rw [clsL_len]
      rcases Nat.eq_zero_or_pos (firsts p.cls N).length with e | e
      · exact e
      · exfalso
        obtain ⟨m1, m2, _⟩ := firsts_mem (List.getElem_mem e)
        obtain ⟨i, hi⟩ : ∃ i, i = (firsts p.cls N)[0] := ⟨_, rfl⟩
        rw [← hi] at m1 m2
        obtain ⟨u, _, hu, hw⟩ := hbf.word hs.pos (i + 1) i (i : Int) (by omega) (rangeI_mk m1)
        apply m2
        rw [← cl_get ok]
        refine (h.dead (i : Int) ⟨by omega, by omega⟩).2 (fun v hv => ?_)
        rw [← hw, ← fold_app]
        exact hdead _ (hu.app hv)
    · have hc : p.cls = ((List.range N).map Int.ofNat).map p.clI := by
        apply List.ext_getElem?
        intro i
        rw [List.map_map, List.getElem?_map]
        by_cases hi : i < N
        · rw [List.getElem?_range hi, List.getElem?_eq_getElem (by rw [ok.lc]; exact hi)]
          show _ = some (p.clI (i : Int))
          rw [cl_get ok, getD_at (by rw [ok.lc]; exact hi)]
        · rw [List.getElem?_eq_none (by rw [ok.lc]; omega), List.getElem?_eq_none (by simp; omega)]; rfl
      have hl : ((List.range N).map Int.ofNat).length = N := by simp
      obtain ⟨pb, hbb⟩ := h.bfs hs.pos hbf (by rw [hl]; exact Nat.le_refl _) (fun j x hj => by
        obtain ⟨a, rfl⟩ := rangeI hj
        exact ⟨by omega, by omega⟩) (fun x _ hx => by rw [hx]; exact clI_neg (by omega)) hd hc
      rw [hl] at hbb
      have hcan := h.canon hs.pos hs0 hq hbb (Nat.le_refl _) (fun j C hj => by
        obtain ⟨i, _, e, hi, _⟩ := clsL_at hj
        exact ⟨(i : Int), ⟨by omega, by omega⟩, by rw [cl_get ok, e]⟩)
      exact hcan.of_eq (fun u hu => h.fold u hu 0 hs0)
/-- There are as many first states as classes. -/
theorem firsts_count (ok : p.Ok N (acF lv) []) : (firsts p.cls N).length = p.sp.length := by
  have val : ∀ i, i < N → p.cls.getD i (-1) ≠ -1 → ∃ c : Nat, p.cls.getD i (-1) = c ∧ c < p.sp.length := by
    intro i hi hne
    cases hl : acF lv i with
    | true => exact ok.cl_live hi hl
    | false => exact absurd (ok.cl_dead hi hl) hne
  have inj : ∀ (a b : Nat) (x y : Nat), (firsts p.cls N)[a]? = some x → (firsts p.cls N)[b]? = some y → p.cls.getD x (-1) = p.cls.getD y (-1) → x = y := by
    intro a b x y ha hb he
    obtain ⟨_, _, x3⟩ := firsts_mem (List.mem_of_getElem? ha)
    obtain ⟨_, _, y3⟩ := firsts_mem (List.mem_of_getElem? hb)
    rcases Nat.lt_trichotomy x y with e | e | e
    · exact absurd he (y3 x e)
    · exact e
    · exact absurd he.symm (x3 y e)
  apply Nat.le_antisymm
  · have := few_below p.sp.length ((firsts p.cls N).map fun i => (p.cls.getD i (-1)).toNat) (nodup_of fun a b x ha hb => by
      rw [List.getElem?_map] at ha hb
      cases e1 : (firsts p.cls N)[a]? with
      | none => rw [e1] at ha; cases ha
      | some u =>
        cases e2 : (firsts p.cls N)[b]? with
        | none => rw [e2] at hb; cases hb
        | some v =>
          rw [e1] at ha
          rw [e2] at hb
          injection ha with ha
          injection hb with hb
          obtain ⟨u1, u2, _⟩ := firsts_mem (List.mem_of_getElem? e1)
          obtain ⟨v1, v2, _⟩ := firsts_mem (List.mem_of_getElem? e2)
          obtain ⟨cu, hcu, _⟩ := val u u1 u2
          obtain ⟨cv, hcv, _⟩ := val v v1 v2
          dsimp only at ha hb
          have : u = v := inj a b u v e1 e2 (by rw [hcu] at ha ⊢; rw [hcv] at hb ⊢; rw [Int.toNat_natCast] at ha hb; omega)
          subst this
          exact firsts_inj e1 e2) (fun x hx => by
      obtain ⟨i, hi, rfl⟩ := List.mem_map.1 hx
      obtain ⟨u1, u2, _⟩ := firsts_mem hi
      obtain ⟨cu, hcu, hlt⟩ := val i u1 u2
      rw [hcu, Int.toNat_natCast]; exact hlt)
    rw [List.length_map] at this
    exact this
  · have hm : ∀ c : Nat, c < p.sp.length → (c : Int) ∈ clsL p.cls N := by
      intro c hc
      obtain ⟨⟨a, b⟩, hab⟩ : ∃ ab, p.sp[c]? = some ab := ⟨_, List.getElem?_eq_getElem hc⟩
      obtain ⟨h1, h2, h3⟩ := ok.o4 c a b hab
      have hq : p.ord[a]? = some p.ord[a] := List.getElem?_eq_getElem (by omega)
      have h4 := h3 a _ (Nat.le_refl _) h1 hq
      have h5 := (ok.o1 a _ hq).1
      have e : p.cls.getD p.ord[a] (-1) = (c : Int) := by rw [List.getD_eq_getElem?_getD, h4]; rfl
      rw [← e]
      exact clsL_mem h5 (by rw [e]; omega)
    have := few_below (firsts p.cls N).length ((List.range p.sp.length).map fun c => (clsL p.cls N).idxOf ((c : Nat) : Int)) (nodup_of fun a b x ha hb => by
      rw [List.getElem?_map] at ha hb
      by_cases e1 : a < p.sp.length
      · by_cases e2 : b < p.sp.length
        · rw [List.getElem?_range e1] at ha
          rw [List.getElem?_range e2] at hb
          injection ha with ha
          injection hb with hb
          have h1 := idx_at (hm a e1)
          have h2 := idx_at (hm b e2)
          dsimp only at ha hb
          rw [ha] at h1
          rw [hb, h1] at h2
          injection h2 with h2; omega
        · rw [List.getElem?_eq_none (by simp; omega)] at hb; cases hb
      · rw [List.getElem?_eq_none (by simp; omega)] at ha; cases ha) (fun x hx => by
      obtain ⟨c, hc, rfl⟩ := List.mem_map.1 hx
      have := List.idxOf_lt_length_of_mem (hm c (List.mem_range.1 hc))
      rwa [clsL_len] at this)
    rw [List.length_map, List.length_range] at this
    exact this
/-- The numbers of the classes while the first states are looked for. -/
structure NumI (c : List Int) (m s : Nat) (num : List Int) : Prop where
  len : num.length = s
  at' : ∀ C : Nat, C < s → num.getD C 0 = if (C : Int) ∈ clsL c m then ((clsL c m).idxOf (C : Int) : Int) + 1 else 0
theorem NumI.start (c : List Int) (s : Nat) : NumI c 0 s (List.replicate s 0) :=
  ⟨by simp, fun C hC => by
    rw [if_neg (by simp [clsL, firsts]), List.getD_eq_getElem?_getD, List.getElem?_replicate, if_pos hC]; rfl⟩
theorem firsts_dead {c : List Int} {m : Nat} (h : c.getD m (-1) = -1) : firsts c (m + 1) = firsts c m := by
  show (if _ then _ else _) = _
  rw [if_pos (.inl h)]
theorem firsts_old {c : List Int} {m : Nat} (h : c.getD m (-1) ∈ clsL c m) : firsts c (m + 1) = firsts c m := by
  obtain ⟨i, hi, e⟩ := List.mem_map.1 h
  show (if _ then _ else _) = _
  rw [if_pos (.inr ⟨i, (firsts_mem hi).1, e⟩)]
theorem firsts_new {c : List Int} {m : Nat} (h : c.getD m (-1) ∉ clsL c m) (h1 : c.getD m (-1) ≠ -1) : firsts c (m + 1) = firsts c m ++ [m] := by
  show (if _ then _ else _) = _
  rw [if_neg]
  rintro (e | ⟨i, hi, e⟩)
  · exact h1 e
  · apply h
    rw [← e]
    exact clsL_mem hi (by rw [e]; exact h1)
theorem NumI.same {c : List Int} {m s : Nat} {num : List Int} (h : NumI c m s num) (e : firsts c (m + 1) = firsts c m) : NumI c (m + 1) s num := by
  have : clsL c (m + 1) = clsL c m := by unfold clsL; rw [e]
  exact ⟨h.len, fun C hC => by rw [this]; exact h.at' C hC⟩
theorem NumI.new {c : List Int} {m s C0 : Nat} {num : List Int} (h : NumI c m s num) (hC0 : c.getD m (-1) = (C0 : Int)) (hs : C0 < s) (hn : c.getD m (-1) ∉ clsL c m) : NumI c (m + 1) s (num.set C0 (((firsts c m).length : Int) + 1)) := by
  have e := firsts_new hn (by rw [hC0]; omega)
  have e2 : clsL c (m + 1) = clsL c m ++ [(C0 : Int)] := by
    unfold clsL
    rw [e, List.map_append, List.map_cons, List.map_nil, hC0]
  rw [hC0] at hn
  refine ⟨by rw [List.length_set]; exact h.len, fun C hC => ?_⟩
  rw [getD_set (by rw [h.len]; exact hs), e2]
  by_cases ec : C = C0
  · subst ec
    rw [if_pos rfl, if_pos (by simp), List.idxOf_append, if_neg hn, clsL_len]
    simp
  · rw [if_neg ec, h.at' C hC]
    have ei : (C : Int) ∈ clsL c m ++ [(C0 : Int)] ↔ (C : Int) ∈ clsL c m := by
      simp
      intro e; omega
    by_cases hm : (C : Int) ∈ clsL c m
    · rw [if_pos hm, if_pos (ei.2 hm), List.idxOf_append, if_pos hm]
    · rw [if_neg hm, if_neg (fun h => hm (ei.1 h))]
end
end Go.Proofs.Ytdkdfmflghbhiaa
