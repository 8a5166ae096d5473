/- Plain mathematics: the first partition; which class is divided. Nothing here speaks of the program. -/
import Derived.Test.YtdkdfmflghbhiaaAMj
namespace Go.Proofs.Ytdkdfmflghbhiaa
set_option linter.unusedVariables false

/-- A class more: the states of a span of the order. -/
def Pt.addc (p : Pt) (a b : Nat) : Pt := { ord := p.ord, plc := p.plc, cls := Pt.setAll (Pt.part p.ord a b) p.sp.length p.cls, sp := p.sp ++ [(a, b)], mrk := p.mrk ++ [0] }
theorem addc_split (p : Pt) (c f1 f2 s1 s2 : Nat) : Pt.addc { p with sp := p.sp.set c (s1, s2), mrk := p.mrk.set c 0 } f1 f2 = p.split c f1 f2 s1 s2 := by
  unfold Pt.addc Pt.split
  simp
/-- The states below m that are live and accept as b says are in their places behind f. -/
structure Npl (N : Nat) (lv ac : List Bool) (ord plc : List Nat) (f : Nat) (b : Bool) (m : Nat) : Prop where
  lp : plc.length = N
  fl : f ≤ ord.length
  f0 : b = true → f = 0
  o1 : ∀ (i q : Nat), ord[i]? = some q → q < N ∧ acF lv q = true ∧ plc[q]? = some i
  lo : ∀ (i q : Nat), i < f → ord[i]? = some q → acF ac q = true
  hi : ∀ (i q : Nat), f ≤ i → ord[i]? = some q → acF ac q = b ∧ q < m
  al : b = false → ∀ q, q < N → acF lv q = true → acF ac q = true → ∃ i : Nat, i < f ∧ ord[i]? = some q
  ha : ∀ q, q < m → acF lv q = true → acF ac q = b → ∃ i : Nat, ord[i]? = some q
section
variable {N : Nat} {lv ac : List Bool} {ord plc : List Nat} {f m : Nat} {b : Bool}
theorem Npl.start : Npl N lv ac [] (List.replicate N 0) 0 true 0 :=
  ⟨by simp, Nat.zero_le _, fun _ => rfl, fun i q h => by simp at h, fun i q h => by omega, fun i q _ h => by simp at h, fun h => (by cases h), fun q hq => by omega⟩
theorem Npl.skip (h : Npl N lv ac ord plc f b m) (hn : ¬ (acF lv m = true ∧ acF ac m = b)) : Npl N lv ac ord plc f b (m + 1) :=
  ⟨h.lp, h.fl, h.f0, h.o1, h.lo, fun i q hi ho => ⟨(h.hi i q hi ho).1, by have := (h.hi i q hi ho).2; omega⟩, h.al, fun q hq hl ha => by
    by_cases e : q = m
    · subst e; exact absurd ⟨hl, ha⟩ hn
    · exact h.ha q (by omega) hl ha⟩
theorem Npl.put (h : Npl N lv ac ord plc f b m) (hm : m < N) (hl : acF lv m = true) (ha : acF ac m = b) : Npl N lv ac (ord ++ [m]) (plc.set m ord.length) f b (m + 1) := by
  have no : ∀ i : Nat, ord[i]? ≠ some m := by
    intro i hi
    by_cases hf : f ≤ i
    · have := (h.hi i m hf hi).2; omega
    · have h1 := h.lo i m (by omega) hi
      rw [ha] at h1
      have := h.f0 h1
      omega
  refine ⟨by rw [List.length_set]; exact h.lp, by rw [List.length_append]; have := h.fl; omega, h.f0, ?_, ?_, ?_, ?_, ?_⟩
  · intro i q hi
    rcases get_snoc hi with ⟨h1, h2⟩ | ⟨h1, h2⟩
    · obtain ⟨a1, a2, a3⟩ := h.o1 i q h2
      refine ⟨a1, a2, ?_⟩
      rw [List.getElem?_set_ne (by intro e; subst e; exact no i h2)]
      exact a3
    · subst h2
      refine ⟨hm, hl, ?_⟩
      rw [List.getElem?_set_self (by rw [h.lp]; exact hm), h1]
  · intro i q hi ho
    rcases get_snoc ho with ⟨h1, h2⟩ | ⟨h1, h2⟩
    · exact h.lo i q hi h2
    · have := h.fl; omega
  · intro i q hi ho
    rcases get_snoc ho with ⟨h1, h2⟩ | ⟨h1, h2⟩
    · obtain ⟨a1, a2⟩ := h.hi i q hi h2
      exact ⟨a1, by omega⟩
    · subst h2; exact ⟨ha, by omega⟩
  · intro hb q hq hl2 ha2
    obtain ⟨i, h1, h2⟩ := h.al hb q hq hl2 ha2
    exact ⟨i, h1, get_left h2⟩
  · intro q hq hl2 ha2
    by_cases e : q = m
    · subst e; exact ⟨ord.length, get_last⟩
    · obtain ⟨i, h2⟩ := h.ha q (by omega) hl2 ha2
      exact ⟨i, get_left h2⟩
theorem Npl.turn (h : Npl N lv ac ord plc f true N) : Npl N lv ac ord plc ord.length false 0 :=
  ⟨h.lp, Nat.le_refl _, fun e => (by cases e), h.o1, fun i q hi ho => by
    rw [h.f0 rfl] at h
    exact (h.hi i q (Nat.zero_le _) ho).1, fun i q hi ho => by have := (List.getElem?_eq_some_iff.1 ho).1; omega, fun _ q hq hl ha => by
    obtain ⟨i, hi⟩ := h.ha q hq hl ha
    exact ⟨i, (List.getElem?_eq_some_iff.1 hi).1, hi⟩, fun q hq => by omega⟩
theorem part_all (l : List Nat) : Pt.part l 0 l.length = l := by
  unfold Pt.part
  simp
/-- The partition into those that accept, and those that do not. -/
def newPt (N : Nat) (ord plc : List Nat) (f : Nat) : Pt :=
  let p0 : Pt := ⟨ord, plc, List.replicate N (-1), [], []⟩
  let p1 := if 0 < f then p0.addc 0 f else p0
  if f < ord.length then p1.addc f ord.length else p1
theorem part_nil (l : List Nat) (a : Nat) : Pt.part l a a = [] := by unfold Pt.part; simp
theorem newPt_ord : (newPt N ord plc f).ord = ord := by unfold newPt Pt.addc; dsimp only; split <;> split <;> rfl
theorem newPt_plc : (newPt N ord plc f).plc = plc := by unfold newPt Pt.addc; dsimp only; split <;> split <;> rfl
theorem newPt_sp : (newPt N ord plc f).sp = (if 0 < f then [(0, f)] else []) ++ (if f < ord.length then [(f, ord.length)] else []) := by
  unfold newPt Pt.addc; dsimp only
  by_cases h0 : 0 < f <;> by_cases h1 : f < ord.length <;> simp [h0, h1]
theorem newPt_mrk : (newPt N ord plc f).mrk = List.replicate (newPt N ord plc f).sp.length 0 := by
  unfold newPt Pt.addc; dsimp only
  by_cases h0 : 0 < f <;> by_cases h1 : f < ord.length <;> simp [h0, h1, List.replicate]
theorem newPt_cls (x : Nat) (hx : x < N) : (newPt N ord plc f).cls[x]? = some (if x ∈ Pt.part ord f ord.length then (if 0 < f then 1 else 0) else if x ∈ Pt.part ord 0 f then 0 else -1) := by
  have hr : (List.replicate N (-1 : Int))[x]? = some (-1) := by rw [List.getElem?_replicate, if_pos hx]
  have hrl : x < (List.replicate N (-1 : Int)).length := by simpa using hx
  unfold newPt Pt.addc; dsimp only
  by_cases h0 : 0 < f <;> by_cases h1 : f < ord.length
  · rw [if_pos h1, if_pos h0]
    dsimp only
    rw [Pt.setAll_at _ _ _ _ (by rw [Pt.setAll_len]; exact hrl), Pt.setAll_at _ _ _ _ hrl, hr, if_pos h0]
    split
    · simp
    · split <;> simp
  · rw [if_neg h1, if_pos h0]
    dsimp only
    rw [Pt.setAll_at _ _ _ _ hrl, hr]
    have : Pt.part ord f ord.length = [] := by unfold Pt.part; rw [List.drop_eq_nil_of_le (by omega)]; simp
    rw [this]
    by_cases hx2 : x ∈ Pt.part ord 0 f <;> simp [hx2]
  · rw [if_pos h1, if_neg h0]
    dsimp only
    rw [Pt.setAll_at _ _ _ _ hrl, hr, if_neg h0]
    have : Pt.part ord 0 f = [] := by rw [show f = 0 by omega]; exact part_nil _ _
    rw [this]
    by_cases hx2 : x ∈ Pt.part ord f ord.length <;> simp [hx2]
  · rw [if_neg h1, if_neg h0]
    dsimp only
    have e1 : Pt.part ord f ord.length = [] := by unfold Pt.part; rw [List.drop_eq_nil_of_le (by omega)]; simp
    have e2 : Pt.part ord 0 f = [] := by rw [show f = 0 by omega]; exact part_nil _ _
    rw [e1, e2, hr]
    simp
theorem newPt_clsl : (newPt N ord plc f).cls.length = N := by
  unfold newPt Pt.addc; dsimp only
  by_cases h0 : 0 < f <;> by_cases h1 : f < ord.length <;> simp [h0, h1, Pt.setAll_len]
/-- Which class a state has. -/
theorem Npl.cls (h : Npl N lv ac ord plc f false N) {i q : Nat} (hi : ord[i]? = some q) : (newPt N ord plc f).cls[q]? = some (if f ≤ i then (if 0 < f then 1 else 0) else 0) := by
  obtain ⟨h1, h2, h3⟩ := h.o1 i q hi
  have inj : ∀ j : Nat, ord[j]? = some q → j = i := by
    intro j hj
    have := (h.o1 j q hj).2.2
    rw [h3] at this; injection this with this; exact this.symm
  have hil := (List.getElem?_eq_some_iff.1 hi).1
  rw [newPt_cls q h1]
  by_cases hf : f ≤ i
  · rw [if_pos (Pt.part_mem.2 ⟨i, hf, hil, hi⟩), if_pos hf]
  · rw [if_neg (fun e => by obtain ⟨j, a, b, c⟩ := Pt.part_mem.1 e; have := inj j c; omega), if_pos (Pt.part_mem.2 ⟨i, Nat.zero_le _, by omega, hi⟩), if_neg hf]
theorem Npl.ok (h : Npl N lv ac ord plc f false N) : (newPt N ord plc f).Ok N (acF lv) [] := by
  have hfl := h.fl
  have spc : ∀ c a b : Nat, (newPt N ord plc f).sp[c]? = some (a, b) → (c = 0 ∧ 0 < f ∧ a = 0 ∧ b = f) ∨ (c = (if 0 < f then 1 else 0) ∧ f < ord.length ∧ a = f ∧ b = ord.length) := by
    intro c a b hc
    rw [newPt_sp] at hc
    by_cases h0 : 0 < f <;> by_cases h1 : f < ord.length <;> simp only [h0, h1, if_true, if_false, List.nil_append, List.append_nil] at hc
    · match c, hc with
      | 0, hc => injection hc with hc; injection hc with e1 e2; exact .inl ⟨rfl, h0, e1.symm, e2.symm⟩
      | 1, hc => injection hc with hc; injection hc with e1 e2; exact .inr ⟨(if_pos h0).symm, h1, e1.symm, e2.symm⟩
      | c + 2, hc => simp at hc
    · match c, hc with
      | 0, hc => injection hc with hc; injection hc with e1 e2; exact .inl ⟨rfl, h0, e1.symm, e2.symm⟩
      | c + 1, hc => simp at hc
    · match c, hc with
      | 0, hc => injection hc with hc; injection hc with e1 e2; exact .inr ⟨(if_neg h0).symm, h1, e1.symm, e2.symm⟩
      | c + 1, hc => simp at hc
    · simp at hc
  refine ⟨by rw [newPt_plc]; exact h.lp, newPt_clsl, by rw [newPt_mrk]; simp, ?_, ?_, ?_, ?_, ?_, ?_, ?_, List.nodup_nil⟩
  · intro i q hi
    rw [newPt_ord] at hi
    rw [newPt_plc]
    exact h.o1 i q hi
  · intro q hq hl
    rw [newPt_ord]
    cases ha : acF ac q with
    | true => obtain ⟨i, _, hi⟩ := h.al rfl q hq hl ha; exact ⟨i, hi⟩
    | false => exact h.ha q hq hl ha
  · intro q hq hl
    rw [newPt_cls q hq]
    have no : ∀ a b, q ∉ Pt.part ord a b := by
      intro a b e
      obtain ⟨j, _, _, hj⟩ := Pt.part_mem.1 e
      rw [(h.o1 j q hj).2.1] at hl; cases hl
    rw [if_neg (no _ _), if_neg (no _ _)]
  · intro c a b hc
    rw [newPt_ord]
    rcases spc c a b hc with ⟨rfl, h0, rfl, rfl⟩ | ⟨e, h1, rfl, rfl⟩
    · refine ⟨h0, hfl, fun i q _ hib hi => ?_⟩
      rw [h.cls hi, if_neg (by omega)]; rfl
    · refine ⟨h1, Nat.le_refl _, fun i q hia _ hi => ?_⟩
      rw [h.cls hi, if_pos hia, e]
      split <;> rfl
  · intro i q hi
    rw [newPt_ord] at hi
    have hil := (List.getElem?_eq_some_iff.1 hi).1
    rw [newPt_sp]
    by_cases h0 : i < f
    · refine ⟨0, 0, f, ?_, Nat.zero_le _, h0⟩
      rw [if_pos (by omega)]; rfl
    · have h1 : f < ord.length := by omega
      by_cases h2 : 0 < f
      · exact ⟨1, f, ord.length, by rw [if_pos h2, if_pos h1]; rfl, by omega, hil⟩
      · exact ⟨0, f, ord.length, by rw [if_neg h2, if_pos h1]; rfl, by omega, hil⟩
  · intro c a b m hc hm
    rw [newPt_mrk, List.getElem?_replicate] at hm
    split at hm
    · injection hm with hm
      rcases spc c a b hc with ⟨_, h0, rfl, rfl⟩ | ⟨_, h1, rfl, rfl⟩ <;> omega
    · cases hm
  · intro c
    constructor
    · intro h; simp at h
    · rintro ⟨m, hm, h0⟩
      rw [newPt_mrk, List.getElem?_replicate] at hm
      split at hm
      · injection hm with hm; omega
      · cases hm
theorem Npl.hop (h : Npl N lv ac ord plc f false N) {k : Nat} {nxt : Nat → Nat → Int} : Hop N k nxt (acF ac) (acF lv) (newPt N ord plc f) 0 := by
  have ok := h.ok
  have val : ∀ x, x < N → acF lv x = true → ∃ i : Nat, ord[i]? = some x ∧ (newPt N ord plc f).cl x = (if f ≤ i then (if 0 < f then 1 else 0) else 0) ∧ (acF ac x = true ↔ i < f) := by
    intro x hx lx
    obtain ⟨i, hi⟩ := ok.o2 x hx lx
    rw [newPt_ord] at hi
    refine ⟨i, hi, Pt.cl_of (h.cls hi), ?_⟩
    constructor
    · intro ha
      by_cases e : f ≤ i
      · rw [(h.hi i x e hi).1] at ha; cases ha
      · omega
    · intro e; exact h.lo i x e hi
  refine ⟨?_, ?_, ?_⟩
  · intro x y hx hy lx ly e
    obtain ⟨i, i1, i2, i3⟩ := val x hx lx
    obtain ⟨j, j1, j2, j3⟩ := val y hy ly
    have ea := e [] (let_nil k)
    rw [List.foldl_nil, List.foldl_nil, aq_nat, aq_nat] at ea
    rw [i2, j2]
    have hij : (i < f ↔ j < f) := by rw [← i3, ← j3, ea]
    by_cases a : i < f
    · have b := hij.1 a
      rw [if_neg (show ¬ f ≤ i by omega), if_neg (show ¬ f ≤ j by omega)]
    · have b : ¬ j < f := fun b => a (hij.2 b)
      rw [if_pos (show f ≤ i by omega), if_pos (show f ≤ j by omega)]
  · intro x y hx hy lx ly e
    obtain ⟨i, i1, i2, i3⟩ := val x hx lx
    obtain ⟨j, j1, j2, j3⟩ := val y hy ly
    rw [i2, j2] at e
    have : (i < f ↔ j < f) := by
      by_cases a : i < f <;> by_cases b : j < f
      · exact ⟨fun _ => b, fun _ => a⟩
      · rw [if_neg (show ¬ f ≤ i by omega), if_pos (show f ≤ j by omega), if_pos (show 0 < f by omega)] at e; omega
      · rw [if_pos (show f ≤ i by omega), if_neg (show ¬ f ≤ j by omega), if_pos (show 0 < f by omega)] at e; omega
      · exact ⟨fun h => absurd h a, fun h => absurd h b⟩
    rw [← i3, ← j3] at this
    cases hx : acF ac x <;> cases hy : acF ac y <;> simp [hx, hy] at this ⊢
  · intro x y c hx hy lx ly e hc h1 h2
    have cases' : ∀ t : Int, (newPt N ord plc f).clI t < ((0 : Nat) : Int) → (newPt N ord plc f).clI t = -1 := by
      intro t ht
      by_cases e : t < 0
      · exact clI_neg e
      · obtain ⟨n, rfl⟩ := Int.eq_ofNat_of_zero_le (show 0 ≤ t by omega)
        rw [show ((n : Int)) = ((n : Nat) : Int) from rfl, clI_nat] at ht ⊢
        by_cases hn : n < N
        · cases hl : acF lv n with
          | true =>
            obtain ⟨i, _, i2, _⟩ := val n hn hl
            rw [i2] at ht
            split at ht
            · split at ht <;> omega
            · omega
          | false => exact ok.cl_dead hn hl
        · unfold Pt.cl
          rw [List.getD_eq_getElem?_getD, List.getElem?_eq_none (by rw [newPt_clsl]; omega)]; rfl
    rw [cases' _ h1, cases' _ h2]
end
end Go.Proofs.Ytdkdfmflghbhiaa
