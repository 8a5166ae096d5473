/- Plain mathematics: how classes are divided by their marks, and what is left when nothing can be divided any more. Nothing here speaks of the program. -/
import Derived.Test.YtdkdfmflghbhiaaAMd
namespace Go.Proofs.Ytdkdfmflghbhiaa
set_option linter.unusedVariables false

namespace Pt
variable {N : Nat} {lv : Nat → Bool} {p : Pt} {tl : List Nat}
/-- All of l get the value v. -/
def setAll (l : List Nat) (v : Int) (c : List Int) : List Int := l.foldl (fun c q => c.set q v) c
theorem setAll_len (v : Int) : ∀ (l : List Nat) (c : List Int), (setAll l v c).length = c.length
  | [], c => rfl
  | q :: l, c => by
    show (setAll l v (c.set q v)).length = _
    rw [setAll_len v l, List.length_set]
theorem setAll_at (v : Int) : ∀ (l : List Nat) (c : List Int) (x : Nat), x < c.length → (setAll l v c)[x]? = if x ∈ l then some v else c[x]?
  | [], c, x, h => by simp [setAll]
  | q :: l, c, x, h => by
    show (setAll l v (c.set q v))[x]? = _
    rw [setAll_at v l _ x (by rw [List.length_set]; exact h)]
    by_cases e : x ∈ l
    · rw [if_pos e, if_pos (List.mem_cons_of_mem _ e)]
    · rw [if_neg e]
      by_cases e2 : x = q
      · subst e2
        rw [if_pos (List.mem_cons_self ..), set_at h, if_pos rfl]
      · rw [if_neg (by simp [e, e2]), List.getElem?_set_ne (fun f => e2 f.symm)]
theorem setAll_snoc (v : Int) (l : List Nat) (q : Nat) (c : List Int) : setAll (l ++ [q]) v c = (setAll l v c).set q v := by
  unfold setAll; rw [List.foldl_append]; rfl
/-- What stands in a span of the order. -/
def part (l : List Nat) (a b : Nat) : List Nat := (l.drop a).take (b - a)
theorem part_mem {l : List Nat} {a b x : Nat} : x ∈ part l a b ↔ ∃ i : Nat, a ≤ i ∧ i < b ∧ l[i]? = some x := by
  unfold part
  rw [List.mem_iff_getElem?]
  constructor
  · rintro ⟨i, hi⟩
    rw [List.getElem?_take] at hi
    split at hi
    · rw [List.getElem?_drop] at hi
      exact ⟨a + i, by omega, by omega, hi⟩
    · cases hi
  · rintro ⟨i, h1, h2, h3⟩
    refine ⟨i - a, ?_⟩
    rw [List.getElem?_take, if_pos (by omega), List.getElem?_drop, show a + (i - a) = i by omega]
    exact h3
theorem part_at {l : List Nat} {a b i : Nat} (h : i < b - a) : (part l a b)[i]? = l[a + i]? := by
  unfold part
  rw [List.getElem?_take, if_pos h, List.getElem?_drop]
theorem part_len {l : List Nat} {a b : Nat} (h : b ≤ l.length) : (part l a b).length = b - a := by
  unfold part
  rw [List.length_take, List.length_drop]
  omega
/-- The states of a span become a new class, c keeps the others. -/
def split (p : Pt) (c f1 f2 s1 s2 : Nat) : Pt :=
  { ord := p.ord, plc := p.plc, cls := setAll (part p.ord f1 f2) p.sp.length p.cls, sp := p.sp.set c (s1, s2) ++ [(f1, f2)], mrk := p.mrk.set c 0 ++ [0] }
/-- The marks of a class are taken away. -/
def clear (p : Pt) (c : Nat) : Pt := { p with mrk := p.mrk.set c 0 }
theorem clear_ok {c : Nat} (h : p.Ok N lv (c :: tl)) : (p.clear c).Ok N lv tl := by
  obtain ⟨m, hm, m0⟩ := (h.t1 c).1 (List.mem_cons_self ..)
  have hml := (List.getElem?_eq_some_iff.1 hm).1
  refine ⟨h.lp, h.lc, by simp [clear, h.lm], h.o1, h.o2, h.o3, h.o4, h.o5, ?_, ?_, (List.nodup_cons.1 h.t2).2⟩
  · intro c2 a b m2 hc hm2
    have hm2' : (p.mrk.set c 0)[c2]? = some m2 := hm2
    rw [set_at hml] at hm2'
    split at hm2'
    · injection hm2' with hm2'
      have := (h.o4 c2 a b hc).1
      omega
    · exact h.m1 c2 a b m2 hc hm2'
  · intro c2
    show _ ↔ ∃ m2, (p.mrk.set c 0)[c2]? = some m2 ∧ 0 < m2
    rw [set_at hml]
    by_cases e : c2 = c
    · subst e
      rw [if_pos rfl]
      refine ⟨fun f => absurd f (List.nodup_cons.1 h.t2).1, ?_⟩
      rintro ⟨m2, f1, f2⟩
      injection f1 with f1; omega
    · rw [if_neg e, ← h.t1 c2]
      simp [e]
theorem split_ok {c a b f1 f2 s1 s2 : Nat} (h : p.Ok N lv (c :: tl)) (hc : p.sp[c]? = some (a, b))
    (hf : f1 < f2) (hs : s1 < s2) (h1 : ∀ i, a ≤ i ∧ i < b ↔ (f1 ≤ i ∧ i < f2) ∨ (s1 ≤ i ∧ i < s2)) (h2 : ∀ i, ¬ ((f1 ≤ i ∧ i < f2) ∧ (s1 ≤ i ∧ i < s2))) :
    (p.split c f1 f2 s1 s2).Ok N lv tl := by
  obtain ⟨m, hm, m0⟩ := (h.t1 c).1 (List.mem_cons_self ..)
  have hml := (List.getElem?_eq_some_iff.1 hm).1
  have hcl := (List.getElem?_eq_some_iff.1 hc).1
  obtain ⟨ab, bl, hcls⟩ := h.o4 c a b hc
  have inF : ∀ i, f1 ≤ i → i < f2 → a ≤ i ∧ i < b := fun i x y => (h1 i).2 (.inl ⟨x, y⟩)
  have inS : ∀ i, s1 ≤ i → i < s2 → a ≤ i ∧ i < b := fun i x y => (h1 i).2 (.inr ⟨x, y⟩)
  have spd : ∀ j : Nat, (p.sp.set c (s1, s2) ++ [(f1, f2)])[j]? = if j = c then some (s1, s2) else if j = p.sp.length then some (f1, f2) else p.sp[j]? := by
    intro j
    by_cases e : j < p.sp.length
    · rw [List.getElem?_append_left (by rw [List.length_set]; exact e), set_at hcl]
      by_cases e2 : j = c
      · rw [if_pos e2, if_pos e2]
      · rw [if_neg e2, if_neg e2, if_neg (by omega)]
    · rw [if_neg (by omega)]
      by_cases e2 : j = p.sp.length
      · rw [if_pos e2, e2]
        have := get_last (l := p.sp.set c (s1, s2)) (x := (f1, f2))
        rw [List.length_set] at this
        exact this
      · rw [if_neg e2, List.getElem?_eq_none (by simp; omega), List.getElem?_eq_none (by omega)]
  have mrd : ∀ j : Nat, (p.mrk.set c 0 ++ [0])[j]? = if j = c then some 0 else if j = p.sp.length then some 0 else p.mrk[j]? := by
    intro j
    by_cases e : j < p.sp.length
    · rw [List.getElem?_append_left (by rw [List.length_set, h.lm]; exact e), set_at hml]
      by_cases e2 : j = c
      · rw [if_pos e2, if_pos e2]
      · rw [if_neg e2, if_neg e2, if_neg (by omega)]
    · rw [if_neg (by omega)]
      by_cases e2 : j = p.sp.length
      · rw [if_pos e2, e2]
        have := get_last (l := p.mrk.set c 0) (x := 0)
        rw [List.length_set, h.lm] at this
        exact this
      · rw [if_neg e2, List.getElem?_eq_none (by simp [h.lm]; omega), List.getElem?_eq_none (by rw [h.lm]; omega)]
  have cld : ∀ (i q : Nat), p.ord[i]? = some q → (setAll (part p.ord f1 f2) p.sp.length p.cls)[q]? = if f1 ≤ i ∧ i < f2 then some (p.sp.length : Int) else p.cls[q]? := by
    intro i q hi
    rw [setAll_at _ _ _ _ (by rw [h.lc]; exact (h.o1 i q hi).1)]
    by_cases e : f1 ≤ i ∧ i < f2
    · rw [if_pos e, if_pos (part_mem.2 ⟨i, e.1, e.2, hi⟩)]
    · rw [if_neg e, if_neg]
      intro f
      obtain ⟨j, j1, j2, j3⟩ := part_mem.1 f
      obtain rfl := h.inj hi j3
      exact e ⟨j1, j2⟩
  refine ⟨h.lp, ?_, ?_, h.o1, h.o2, ?_, ?_, ?_, ?_, ?_, (List.nodup_cons.1 h.t2).2⟩
  · show (setAll _ _ _).length = N
    rw [setAll_len]; exact h.lc
  · show (p.mrk.set c 0 ++ [0]).length = (p.sp.set c (s1, s2) ++ [(f1, f2)]).length
    simp [h.lm]
  · intro q hq hl
    show (setAll (part p.ord f1 f2) p.sp.length p.cls)[q]? = _
    rw [setAll_at _ _ _ _ (by rw [h.lc]; exact hq), if_neg]
    · exact h.o3 q hq hl
    · intro f
      obtain ⟨j, _, _, j3⟩ := part_mem.1 f
      have := (h.o1 j q j3).2.1
      rw [hl] at this; cases this
  · intro c2 a2 b2 hc2
    have hc2' : (p.sp.set c (s1, s2) ++ [(f1, f2)])[c2]? = some (a2, b2) := hc2
    rw [spd] at hc2'
    by_cases e : c2 = c
    · subst e
      rw [if_pos rfl] at hc2'
      injection hc2' with e; injection e with e1 e2; subst e1; subst e2
      have := inS (s2 - 1) (by omega) (by omega)
      refine ⟨hs, by show s2 ≤ p.ord.length; omega, ?_⟩
      intro i q i1 i2 hi
      show (setAll (part p.ord f1 f2) p.sp.length p.cls)[q]? = _
      rw [cld i q hi, if_neg (fun f => h2 i ⟨f, i1, i2⟩)]
      obtain ⟨x1, x2⟩ := inS i i1 i2
      exact hcls i q x1 x2 hi
    · rw [if_neg e] at hc2'
      by_cases e2 : c2 = p.sp.length
      · rw [if_pos e2] at hc2'
        injection hc2' with f; injection f with e3 e4; subst e3; subst e4
        have := inF (f2 - 1) (by omega) (by omega)
        refine ⟨hf, by show f2 ≤ p.ord.length; omega, ?_⟩
        intro i q i1 i2 hi
        show (setAll (part p.ord f1 f2) p.sp.length p.cls)[q]? = _
        rw [cld i q hi, if_pos ⟨i1, i2⟩, e2]
      · rw [if_neg e2] at hc2'
        obtain ⟨x1, x2, x3⟩ := h.o4 c2 a2 b2 hc2'
        refine ⟨x1, x2, ?_⟩
        intro i q i1 i2 hi
        show (setAll (part p.ord f1 f2) p.sp.length p.cls)[q]? = _
        rw [cld i q hi, if_neg]
        · exact x3 i q i1 i2 hi
        · intro f
          obtain ⟨y1, y2⟩ := inF i f.1 f.2
          exact e (h.span hc2' hc i1 i2 y1 y2)
  · intro i q hi
    obtain ⟨c2, a2, b2, x1, x2, x3⟩ := h.o5 i q hi
    show ∃ c3 a3 b3 : Nat, (p.sp.set c (s1, s2) ++ [(f1, f2)])[c3]? = some (a3, b3) ∧ a3 ≤ i ∧ i < b3
    by_cases e : c2 = c
    · subst e
      rw [hc] at x1
      injection x1 with e; injection e with e1 e2; subst e1; subst e2
      rcases (h1 i).1 ⟨x2, x3⟩ with f | f
      · exact ⟨p.sp.length, f1, f2, by rw [spd, if_neg (by omega), if_pos rfl], f.1, f.2⟩
      · exact ⟨c2, s1, s2, by rw [spd, if_pos rfl], f.1, f.2⟩
    · refine ⟨c2, a2, b2, ?_, x2, x3⟩
      rw [spd, if_neg e, if_neg]
      · exact x1
      · have := (List.getElem?_eq_some_iff.1 x1).1
        omega
  · intro c2 a2 b2 m2 hc2 hm2
    have hc2' : (p.sp.set c (s1, s2) ++ [(f1, f2)])[c2]? = some (a2, b2) := hc2
    have hm2' : (p.mrk.set c 0 ++ [0])[c2]? = some m2 := hm2
    rw [spd] at hc2'
    rw [mrd] at hm2'
    by_cases e : c2 = c
    · rw [if_pos e] at hc2' hm2'
      injection hc2' with f; injection f with e3 e4
      injection hm2' with e5
      omega
    · rw [if_neg e] at hc2' hm2'
      by_cases e2 : c2 = p.sp.length
      · rw [if_pos e2] at hc2' hm2'
        injection hc2' with f; injection f with e3 e4
        injection hm2' with e5
        omega
      · rw [if_neg e2] at hc2' hm2'
        exact h.m1 c2 a2 b2 m2 hc2' hm2'
  · intro c2
    show _ ↔ ∃ m2, (p.mrk.set c 0 ++ [0])[c2]? = some m2 ∧ 0 < m2
    rw [mrd]
    by_cases e : c2 = c
    · subst e
      rw [if_pos rfl]
      refine ⟨fun f => absurd f (List.nodup_cons.1 h.t2).1, ?_⟩
      rintro ⟨m2, g1, g2⟩
      injection g1 with g1; omega
    · rw [if_neg e]
      by_cases e2 : c2 = p.sp.length
      · rw [if_pos e2]
        constructor
        · intro f
          obtain ⟨m2, g1, _⟩ := (h.t1 c2).1 (List.mem_cons_of_mem _ f)
          have := (List.getElem?_eq_some_iff.1 g1).1
          rw [h.lm] at this; omega
        · rintro ⟨m2, g1, g2⟩
          injection g1 with g1; omega
      · rw [if_neg e2, ← h.t1 c2]
        simp [e]
/-- The class of a state as a number. -/
def cl (p : Pt) (q : Nat) : Int := p.cls.getD q (-1)
theorem cl_of {q : Nat} {v : Int} (h : p.cls[q]? = some v) : p.cl q = v := by
  unfold cl; rw [List.getD_eq_getElem?_getD, h]; rfl
theorem Ok.cl_live (h : p.Ok N lv tl) {q : Nat} (hq : q < N) (hl : lv q = true) : ∃ c : Nat, p.cl q = c ∧ c < p.sp.length := by
  obtain ⟨i, c, a, b, m, h1, h2, h3, h4, h5, h6, h7, h8, h9⟩ := h.find hq hl
  exact ⟨c, cl_of h7, (List.getElem?_eq_some_iff.1 h3).1⟩
theorem Ok.cl_dead (h : p.Ok N lv tl) {q : Nat} (hq : q < N) (hl : lv q = false) : p.cl q = -1 := cl_of (h.o3 q hq hl)
theorem Ok.cl_span (h : p.Ok N lv tl) {q i c a b : Nat} (hq : q < N) (hl : lv q = true) (hi : p.ord[i]? = some q) (hc : p.sp[c]? = some (a, b)) : p.cl q = c ↔ a ≤ i ∧ i < b := by
  obtain ⟨j, c2, a2, b2, m, h1, h2, h3, h4, h5, h6, h7, h8, h9⟩ := h.find hq hl
  obtain rfl := h.inj hi h1
  rw [cl_of h7]
  constructor
  · intro e
    have : c2 = c := by omega
    subst this
    rw [hc] at h3; injection h3 with e; injection e with e1 e2; subst e1; subst e2
    exact ⟨h5, h6⟩
  · rintro ⟨e1, e2⟩
    rw [h.span h3 hc h5 h6 e1 e2]
/-- How far a partition with marks has been divided: the classes of tl are as they were. -/
structure Dvd (N : Nat) (lv : Nat → Bool) (p0 p : Pt) (tl : List Nat) : Prop where
  ord : p.ord = p0.ord
  more : p0.sp.length ≤ p.sp.length
  keep : ∀ q, q < N → lv q = true → p.cl q = p0.cl q ∨ (p0.sp.length : Int) ≤ p.cl q
  fine : ∀ x y, x < N → y < N → lv x = true → lv y = true → p.cl x = p.cl y → p0.cl x = p0.cl y
  told : ∀ x y, x < N → y < N → lv x = true → lv y = true → p.cl x = p.cl y → (∀ c, c ∈ tl → p0.cl x ≠ (c : Nat)) → (p0.Mkd x ↔ p0.Mkd y)
  one : ∀ x y, x < N → y < N → lv x = true → lv y = true → p0.cl x = p0.cl y → (p0.Mkd x ↔ p0.Mkd y) → p.cl x = p.cl y
  left : ∀ c, c ∈ tl → p.sp[c]? = p0.sp[c]? ∧ p.mrk[c]? = p0.mrk[c]? ∧ ∀ q, q < N → lv q = true → p0.cl q = (c : Nat) → p.cl q = c
theorem dvd_start (h : p.Ok N lv tl) : Dvd N lv p p tl := by
  refine ⟨rfl, Nat.le_refl _, fun _ _ _ => .inl rfl, fun _ _ _ _ _ _ e => e, ?_, fun _ _ _ _ _ _ e _ => e, fun _ _ => ⟨rfl, rfl, fun _ _ _ e => e⟩⟩
  intro x y hx hy lx ly e hn
  have no : ∀ z, z < N → lv z = true → p.cl z = p.cl x → ¬ p.Mkd z := by
    intro z hz lz ez hm
    obtain ⟨i, c, a, b, m, h1, h2, h3, h4, h5, h6, h7, h8, h9⟩ := h.find hz lz
    have := (h.mkd_at h1 h3 h4 h5 h6).1 hm
    have hin := (h.t1 c).2 ⟨m, h4, by omega⟩
    exact hn c hin (by rw [← ez]; exact cl_of h7)
  exact ⟨fun f => absurd f (no x hx lx rfl), fun f => absurd f (no y hy ly e.symm)⟩
theorem dvd_clear {p0 : Pt} {c a b m : Nat} {tl0 : List Nat} (h0 : p0.Ok N lv tl0) (hp : p.Ok N lv (c :: tl)) (h : Dvd N lv p0 p (c :: tl)) (hc : p.sp[c]? = some (a, b)) (hm : p.mrk[c]? = some m) (hmb : a + m = b) :
    Dvd N lv p0 (p.clear c) tl := by
  obtain ⟨l1, l2, l3⟩ := h.left c (List.mem_cons_self ..)
  have all : ∀ z, z < N → lv z = true → p0.cl z = (c : Nat) → p0.Mkd z := by
    intro z hz lz ez
    obtain ⟨i, c2, a2, b2, m2, h1, h2, h3, h4, h5, h6, h7, h8, h9⟩ := h0.find hz lz
    rw [cl_of h7] at ez
    have e : c2 = c := by omega
    subst e
    rw [← l1, hc] at h3; injection h3 with e; injection e with e1 e2; subst e1; subst e2
    rw [← l2, hm] at h4; injection h4 with h4; subst h4
    exact (h0.mkd_at h1 (by rw [← l1]; exact hc) (by rw [← l2]; exact hm) h5 h6).2 (by omega)
  have hml := (List.getElem?_eq_some_iff.1 hm).1
  refine ⟨h.ord, h.more, h.keep, h.fine, ?_, h.one, ?_⟩
  · intro x y hx hy lx ly e hn
    by_cases ec : p0.cl x = (c : Nat)
    · have := all x hx lx ec
      have := all y hy ly ((h.fine x y hx hy lx ly e) ▸ ec)
      exact ⟨fun _ => by assumption, fun _ => by assumption⟩
    · refine h.told x y hx hy lx ly e ?_
      intro c2 hc2
      rcases List.mem_cons.1 hc2 with f | f
      · rw [f]; exact ec
      · exact hn c2 f
  · intro c2 hc2
    obtain ⟨k1, k2, k3⟩ := h.left c2 (List.mem_cons_of_mem _ hc2)
    have hne : c2 ≠ c := fun f => (List.nodup_cons.1 hp.t2).1 (f ▸ hc2)
    refine ⟨k1, ?_, k3⟩
    show (p.mrk.set c 0)[c2]? = _
    rw [set_at hml, if_neg hne]; exact k2
theorem dvd_split {p0 : Pt} {c a b m f1 f2 s1 s2 : Nat} {tl0 : List Nat} (h0 : p0.Ok N lv tl0) (hp : p.Ok N lv (c :: tl)) (h : Dvd N lv p0 p (c :: tl)) (hc : p.sp[c]? = some (a, b)) (hm : p.mrk[c]? = some m)
    (hcut : (f1 = a ∧ f2 = a + m ∧ s1 = a + m ∧ s2 = b) ∨ (f1 = a + m ∧ f2 = b ∧ s1 = a ∧ s2 = a + m)) (hm0 : 0 < m) (hmb : a + m < b) : Dvd N lv p0 (p.split c f1 f2 s1 s2) tl := by
  obtain ⟨l1, l2, l3⟩ := h.left c (List.mem_cons_self ..)
  have hml := (List.getElem?_eq_some_iff.1 hm).1
  have hcl := (List.getElem?_eq_some_iff.1 hc).1
  have hc0 : p0.sp[c]? = some (a, b) := by rw [← l1]; exact hc
  have hm0' : p0.mrk[c]? = some m := by rw [← l2]; exact hm
  have hcl0 := (List.getElem?_eq_some_iff.1 hc0).1
  have pd : ∀ x, x < N → lv x = true → ∃ i : Nat, p.ord[i]? = some x ∧ (p.cl x = (c : Nat) ↔ a ≤ i ∧ i < b) ∧ (p.split c f1 f2 s1 s2).cl x = if f1 ≤ i ∧ i < f2 then (p.sp.length : Int) else p.cl x := by
    intro x hx lx
    obtain ⟨i, hi⟩ := hp.o2 x hx lx
    refine ⟨i, hi, hp.cl_span hx lx hi hc, ?_⟩
    have e := setAll_at (p.sp.length : Int) (part p.ord f1 f2) p.cls x (by rw [hp.lc]; exact hx)
    unfold cl
    show (setAll (part p.ord f1 f2) p.sp.length p.cls).getD x (-1) = _
    rw [List.getD_eq_getElem?_getD, e]
    by_cases e2 : f1 ≤ i ∧ i < f2
    · rw [if_pos e2, if_pos (part_mem.2 ⟨i, e2.1, e2.2, hi⟩)]; rfl
    · rw [if_neg e2, if_neg, List.getD_eq_getElem?_getD]
      intro f
      obtain ⟨j, j1, j2, j3⟩ := part_mem.1 f
      obtain rfl := hp.inj hi j3
      exact e2 ⟨j1, j2⟩
  -- what class c held before
  have c0 : ∀ x, x < N → lv x = true → (p.cl x = (c : Nat) ↔ p0.cl x = (c : Nat)) := by
    intro x hx lx
    constructor
    · intro e
      rcases h.keep x hx lx with f | f
      · rw [← f]; exact e
      · omega
    · exact l3 x hx lx
  have mk0 : ∀ (x i : Nat), x < N → lv x = true → p.ord[i]? = some x → a ≤ i → i < b → (p0.Mkd x ↔ i < a + m) := by
    intro x i hx lx hi h1 h2
    exact h0.mkd_at (by rw [← h.ord]; exact hi) hc0 hm0' h1 h2
  have lt : ∀ x, x < N → lv x = true → p.cl x < p.sp.length := by
    intro x hx lx
    obtain ⟨c2, e1, e2⟩ := hp.cl_live hx lx
    omega
  have more := h.more
  refine ⟨h.ord, ?_, ?_, ?_, ?_, ?_, ?_⟩
  · show p0.sp.length ≤ (p.sp.set c (s1, s2) ++ [(f1, f2)]).length
    simp; omega
  · intro q hq lq
    obtain ⟨i, hi, e1, e2⟩ := pd q hq lq
    rw [e2]
    split
    · right; omega
    · exact h.keep q hq lq
  · intro x y hx hy lx ly e
    obtain ⟨i, hi, e1, e2⟩ := pd x hx lx
    obtain ⟨j, hj, g1, g2⟩ := pd y hy ly
    rw [e2, g2] at e
    have := lt x hx lx
    have := lt y hy ly
    by_cases d1 : f1 ≤ i ∧ i < f2 <;> by_cases d2 : f1 ≤ j ∧ j < f2
    · rw [(c0 x hx lx).1 (e1.2 (by omega)), (c0 y hy ly).1 (g1.2 (by omega))]
    · rw [if_pos d1, if_neg d2] at e; omega
    · rw [if_neg d1, if_pos d2] at e; omega
    · rw [if_neg d1, if_neg d2] at e; exact h.fine x y hx hy lx ly e
  · intro x y hx hy lx ly e hn
    obtain ⟨i, hi, e1, e2⟩ := pd x hx lx
    obtain ⟨j, hj, g1, g2⟩ := pd y hy ly
    rw [e2, g2] at e
    have := lt x hx lx
    have := lt y hy ly
    by_cases d1 : f1 ≤ i ∧ i < f2 <;> by_cases d2 : f1 ≤ j ∧ j < f2
    · rw [mk0 x i hx lx hi (by omega) (by omega), mk0 y j hy ly hj (by omega) (by omega)]; omega
    · rw [if_pos d1, if_neg d2] at e; omega
    · rw [if_neg d1, if_pos d2] at e; omega
    · rw [if_neg d1, if_neg d2] at e
      by_cases ec : p.cl x = (c : Nat)
      · have i1 := e1.1 ec
        have j1 := g1.1 (e ▸ ec)
        rw [mk0 x i hx lx hi i1.1 i1.2, mk0 y j hy ly hj j1.1 j1.2]; omega
      · refine h.told x y hx hy lx ly e ?_
        intro c2 hc2
        rcases List.mem_cons.1 hc2 with f | f
        · rw [f]; exact fun g => ec ((c0 x hx lx).2 g)
        · exact hn c2 f
  · intro x y hx hy lx ly e hm2
    obtain ⟨i, hi, e1, e2⟩ := pd x hx lx
    obtain ⟨j, hj, g1, g2⟩ := pd y hy ly
    have eo := h.one x y hx hy lx ly e hm2
    rw [e2, g2]
    by_cases ec : p.cl x = (c : Nat)
    · have i1 := e1.1 ec
      have j1 := g1.1 (eo ▸ ec)
      rw [mk0 x i hx lx hi i1.1 i1.2, mk0 y j hy ly hj j1.1 j1.2] at hm2
      by_cases d : f1 ≤ i ∧ i < f2
      · rw [if_pos d, if_pos (by omega)]
      · rw [if_neg d, if_neg (by omega)]; exact eo
    · have d1 : ¬ (f1 ≤ i ∧ i < f2) := fun d => ec (e1.2 (by omega))
      have d2 : ¬ (f1 ≤ j ∧ j < f2) := fun d => ec (eo ▸ g1.2 (by omega))
      rw [if_neg d1, if_neg d2]; exact eo
  · intro c2 hc2
    obtain ⟨k1, k2, k3⟩ := h.left c2 (List.mem_cons_of_mem _ hc2)
    have hne : c2 ≠ c := fun f => (List.nodup_cons.1 hp.t2).1 (f ▸ hc2)
    obtain ⟨mm, q1, q2⟩ := (hp.t1 c2).1 (List.mem_cons_of_mem _ hc2)
    have hl2 := (List.getElem?_eq_some_iff.1 q1).1
    refine ⟨?_, ?_, ?_⟩
    · show (p.sp.set c (s1, s2) ++ [(f1, f2)])[c2]? = _
      rw [List.getElem?_append_left (by rw [List.length_set, ← hp.lm]; exact hl2), set_at hcl, if_neg hne]; exact k1
    · show (p.mrk.set c 0 ++ [0])[c2]? = _
      rw [List.getElem?_append_left (by rw [List.length_set]; exact hl2), set_at hml, if_neg hne]; exact k2
    · intro q hq lq e
      obtain ⟨i, hi, e1, e2⟩ := pd q hq lq
      have e3 := k3 q hq lq e
      rw [e2, if_neg]
      · exact e3
      · intro d
        have := e1.2 (by omega)
        omega
end Pt
end Go.Proofs.Ytdkdfmflghbhiaa
