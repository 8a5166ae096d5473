/- Plain mathematics: classes of states that are divided again and again. Nothing here speaks of the program. -/
import Derived.Test.YtdkdfmflghbhiaaAMc
namespace Go.Proofs.Ytdkdfmflghbhiaa
set_option linter.unusedVariables false

/-- A partition: the states in their order, where each one stands, its class, the spans of the classes, and how many of each are marked. -/
structure Pt where
  ord : List Nat
  plc : List Nat
  cls : List Int
  sp : List (Nat × Nat)
  mrk : List Nat
/-- A right partition; the classes in tl, and no others, have marked states. -/
structure Pt.Ok (N : Nat) (lv : Nat → Bool) (p : Pt) (tl : List Nat) : Prop where
  lp : p.plc.length = N
  lc : p.cls.length = N
  lm : p.mrk.length = p.sp.length
  o1 : ∀ (i q : Nat), p.ord[i]? = some q → q < N ∧ lv q = true ∧ p.plc[q]? = some i
  o2 : ∀ q, q < N → lv q = true → ∃ i : Nat, p.ord[i]? = some q
  o3 : ∀ q, q < N → lv q = false → p.cls[q]? = some (-1)
  o4 : ∀ (c a b : Nat), p.sp[c]? = some (a, b) → a < b ∧ b ≤ p.ord.length ∧ ∀ (i q : Nat), a ≤ i → i < b → p.ord[i]? = some q → p.cls[q]? = some (c : Int)
  o5 : ∀ (i q : Nat), p.ord[i]? = some q → ∃ c a b : Nat, p.sp[c]? = some (a, b) ∧ a ≤ i ∧ i < b
  m1 : ∀ (c a b m : Nat), p.sp[c]? = some (a, b) → p.mrk[c]? = some m → a + m ≤ b
  t1 : ∀ c : Nat, c ∈ tl ↔ ∃ m, p.mrk[c]? = some m ∧ 0 < m
  t2 : tl.Nodup
/-- A marked state. -/
def Pt.Mkd (p : Pt) (q : Nat) : Prop := ∃ i c a b m : Nat, p.ord[i]? = some q ∧ p.sp[c]? = some (a, b) ∧ p.mrk[c]? = some m ∧ a ≤ i ∧ i < a + m
namespace Pt
variable {N : Nat} {lv : Nat → Bool} {p : Pt} {tl : List Nat}
theorem Ok.inj (h : p.Ok N lv tl) {i j q : Nat} (h1 : p.ord[i]? = some q) (h2 : p.ord[j]? = some q) : i = j := by
  have a := (h.o1 i q h1).2.2
  have b := (h.o1 j q h2).2.2
  rw [a] at b; injection b
theorem Ok.mkOf (h : p.Ok N lv tl) {c : Nat} {ab : Nat × Nat} (hc : p.sp[c]? = some ab) : ∃ m : Nat, p.mrk[c]? = some m :=
  ⟨_, List.getElem?_eq_getElem (by rw [h.lm]; exact (List.getElem?_eq_some_iff.1 hc).1)⟩
theorem Ok.span (h : p.Ok N lv tl) {i c a b c2 a2 b2 : Nat} (h1 : p.sp[c]? = some (a, b)) (h2 : p.sp[c2]? = some (a2, b2)) (i1 : a ≤ i) (i2 : i < b) (i3 : a2 ≤ i) (i4 : i < b2) : c = c2 := by
  obtain ⟨x1, x2, x3⟩ := h.o4 c a b h1
  obtain ⟨y1, y2, y3⟩ := h.o4 c2 a2 b2 h2
  have hi : p.ord[i]? = some (p.ord[i]'(by omega)) := List.getElem?_eq_getElem _
  have a := x3 i _ i1 i2 hi
  have b := y3 i _ i3 i4 hi
  rw [a] at b; injection b with b; omega
/-- Where a live state stands. -/
theorem Ok.find (h : p.Ok N lv tl) {q : Nat} (hq : q < N) (hl : lv q = true) :
    ∃ i c a b m : Nat, p.ord[i]? = some q ∧ p.plc[q]? = some i ∧ p.sp[c]? = some (a, b) ∧ p.mrk[c]? = some m ∧ a ≤ i ∧ i < b ∧ p.cls[q]? = some (c : Int) ∧ b ≤ p.ord.length ∧ a + m ≤ b := by
  obtain ⟨i, hi⟩ := h.o2 q hq hl
  obtain ⟨c, a, b, hc, h1, h2⟩ := h.o5 i q hi
  obtain ⟨m, hm⟩ := h.mkOf hc
  obtain ⟨x1, x2, x3⟩ := h.o4 c a b hc
  exact ⟨i, c, a, b, m, hi, (h.o1 i q hi).2.2, hc, hm, h1, h2, x3 i q h1 h2 hi, x2, h.m1 c a b m hc hm⟩
theorem Ok.mkd_at (h : p.Ok N lv tl) {q i c a b m : Nat} (hi : p.ord[i]? = some q) (hc : p.sp[c]? = some (a, b)) (hm : p.mrk[c]? = some m) (h1 : a ≤ i) (h2 : i < b) : p.Mkd q ↔ i < a + m := by
  constructor
  · rintro ⟨j, c2, a2, b2, m2, e1, e2, e3, e4, e5⟩
    obtain rfl := h.inj hi e1
    have := h.m1 c2 a2 b2 m2 e2 e3
    obtain rfl := h.span hc e2 h1 h2 e4 (by omega)
    rw [hc] at e2; injection e2 with e2; injection e2 with e2 e2'; subst e2; subst e2'
    rw [hm] at e3; injection e3 with e3; subst e3
    exact e5
  · intro h3; exact ⟨i, c, a, b, m, hi, hc, hm, h1, h3⟩
theorem set_at {β : Type} {l : List β} {i j : Nat} {x : β} (hi : i < l.length) : (l.set i x)[j]? = if j = i then some x else l[j]? := by
  rw [List.getElem?_set]
  by_cases e : j = i
  · subst e; rw [if_pos rfl, if_pos rfl, if_pos hi]
  · rw [if_neg (fun f => e f.symm), if_neg e]
/-- A state is marked. -/
def marked (p : Pt) (q i c at' m r : Nat) : Pt :=
  { ord := (p.ord.set at' q).set i r, plc := (p.plc.set r i).set q at', cls := p.cls, sp := p.sp, mrk := p.mrk.set c (m + 1) }
theorem mark_ok (h : p.Ok N lv tl) {q i c a b m r : Nat} (hi : p.ord[i]? = some q) (hc : p.sp[c]? = some (a, b)) (hm : p.mrk[c]? = some m) (h1 : a + m ≤ i) (h2 : i < b) (hr : p.ord[a + m]? = some r) :
    (p.marked q i c (a + m) m r).Ok N lv (if m = 0 then tl ++ [c] else tl) ∧ ∀ x, (p.marked q i c (a + m) m r).Mkd x ↔ p.Mkd x ∨ x = q := by
  obtain ⟨q1, q2, q3⟩ := h.o1 i q hi
  obtain ⟨r1, r2, r3⟩ := h.o1 _ r hr
  have hil := (List.getElem?_eq_some_iff.1 hi).1
  have hrl := (List.getElem?_eq_some_iff.1 hr).1
  have hml := (List.getElem?_eq_some_iff.1 hm).1
  have od : ∀ j : Nat, ((p.ord.set (a + m) q).set i r)[j]? = if j = i then some r else if j = a + m then some q else p.ord[j]? := by
    intro j
    rw [set_at (by rw [List.length_set]; exact hil), set_at hrl]
  have pd : ∀ x : Nat, ((p.plc.set r i).set q (a + m))[x]? = if x = q then some (a + m) else if x = r then some i else p.plc[x]? := by
    intro x
    rw [set_at (by rw [List.length_set, h.lp]; exact q1), set_at (by rw [h.lp]; exact r1)]
  have md : ∀ j : Nat, (p.mrk.set c (m + 1))[j]? = if j = c then some (m + 1) else p.mrk[j]? := fun j => set_at hml
  have eqr : q = r ↔ i = a + m := ⟨fun e => by subst e; exact h.inj hi hr, fun e => by subst e; rw [hi] at hr; injection hr⟩
  have ordc : ∀ (j x : Nat), ((p.ord.set (a + m) q).set i r)[j]? = some x → (j = i ∧ x = r) ∨ (j ≠ i ∧ j = a + m ∧ x = q) ∨ (j ≠ i ∧ j ≠ a + m ∧ p.ord[j]? = some x) := by
    intro j x hj
    rw [od] at hj
    split at hj
    · injection hj with hj; exact .inl ⟨by assumption, hj.symm⟩
    · split at hj
      · injection hj with hj; exact .inr (.inl ⟨by assumption, by assumption, hj.symm⟩)
      · exact .inr (.inr ⟨by assumption, by assumption, hj⟩)
  have same : ∀ (j x : Nat), ((p.ord.set (a + m) q).set i r)[j]? = some x → ∃ y, p.ord[j]? = some y := by
    intro j x hj
    rcases ordc j x hj with ⟨rfl, _⟩ | ⟨_, rfl, _⟩ | ⟨_, _, e⟩
    · exact ⟨q, hi⟩
    · exact ⟨r, hr⟩
    · exact ⟨x, e⟩
  have clq : p.cls[q]? = some (c : Int) := (h.o4 c a b hc).2.2 i q (by omega) h2 hi
  have clr : p.cls[r]? = some (c : Int) := (h.o4 c a b hc).2.2 _ r (by omega) (by omega) hr
  have len : ((p.ord.set (a + m) q).set i r).length = p.ord.length := by simp
  refine ⟨⟨by simp [marked, h.lp], h.lc, by simp [marked, h.lm], ?_, ?_, h.o3, ?_, ?_, ?_, ?_, ?_⟩, ?_⟩
  · intro j x hj
    show x < N ∧ lv x = true ∧ ((p.plc.set r i).set q (a + m))[x]? = some j
    rw [pd]
    rcases ordc j x hj with ⟨rfl, rfl⟩ | ⟨e1, rfl, rfl⟩ | ⟨e1, e2, e⟩
    · refine ⟨r1, r2, ?_⟩
      by_cases e : x = q
      · rw [if_pos e, eqr.1 e.symm]
      · rw [if_neg e, if_pos rfl]
    · exact ⟨q1, q2, by rw [if_pos rfl]⟩
    · obtain ⟨x1, x2, x3⟩ := h.o1 j x e
      refine ⟨x1, x2, ?_⟩
      rw [if_neg (fun f => e1 (h.inj e (by rw [f]; exact hi))), if_neg (fun f => e2 (h.inj e (by rw [f]; exact hr)))]
      exact x3
  · intro x hx hl
    show ∃ j : Nat, ((p.ord.set (a + m) q).set i r)[j]? = some x
    by_cases e : x = r
    · exact ⟨i, by rw [od, if_pos rfl, e]⟩
    · by_cases e2 : x = q
      · refine ⟨a + m, ?_⟩
        rw [od, if_neg (fun f => e (by rw [e2]; exact eqr.2 f.symm)), if_pos rfl, e2]
      · obtain ⟨j, hj⟩ := h.o2 x hx hl
        refine ⟨j, ?_⟩
        rw [od, if_neg (fun f => e2 (by rw [f, hi] at hj; injection hj with hj; exact hj.symm)), if_neg (fun f => e (by rw [f, hr] at hj; injection hj with hj; exact hj.symm))]
        exact hj
  · intro c2 a2 b2 hc2
    obtain ⟨x1, x2, x3⟩ := h.o4 c2 a2 b2 hc2
    refine ⟨x1, by show b2 ≤ ((p.ord.set (a + m) q).set i r).length; rw [len]; exact x2, ?_⟩
    intro j x j1 j2 hj
    show p.cls[x]? = some (c2 : Int)
    rcases ordc j x hj with ⟨rfl, rfl⟩ | ⟨e1, rfl, rfl⟩ | ⟨e1, e2, e⟩
    · obtain rfl := h.span hc hc2 (show a ≤ j by omega) h2 j1 j2
      exact clr
    · obtain rfl := h.span hc hc2 (show a ≤ a + m by omega) (by omega) j1 j2
      exact clq
    · exact x3 j x j1 j2 e
  · intro j x hj
    obtain ⟨y, hy⟩ := same j x hj
    exact h.o5 j y hy
  · intro c2 a2 b2 m2 hc2 hm2
    have hm2' : (p.mrk.set c (m + 1))[c2]? = some m2 := hm2
    rw [md] at hm2'
    split at hm2'
    · rename_i e
      subst e
      have hc2' : p.sp[c2]? = some (a2, b2) := hc2
      rw [hc] at hc2'
      injection hc2' with e; injection e with e1 e2; subst e1; subst e2
      injection hm2' with hm2'
      omega
    · exact h.m1 c2 a2 b2 m2 hc2 hm2'
  · intro c2
    show _ ↔ ∃ m2, (p.mrk.set c (m + 1))[c2]? = some m2 ∧ 0 < m2
    rw [md]
    by_cases e : c2 = c
    · subst e
      rw [if_pos rfl]
      refine ⟨fun _ => ⟨m + 1, rfl, by omega⟩, fun _ => ?_⟩
      by_cases m0 : m = 0
      · rw [if_pos m0]; simp
      · rw [if_neg m0]; exact (h.t1 c2).2 ⟨m, hm, by omega⟩
    · rw [if_neg e, ← h.t1 c2]
      split
      · simp [e]
      · exact Iff.rfl
  · show (if m = 0 then tl ++ [c] else tl).Nodup
    split
    · rename_i m0
      rw [List.nodup_append]
      refine ⟨h.t2, by simp, ?_⟩
      intro x hx y hy e
      obtain rfl := List.mem_singleton.1 hy
      subst e
      obtain ⟨m2, f1, f2⟩ := (h.t1 x).1 hx
      rw [hm] at f1; injection f1 with f1; omega
    · exact h.t2
  · intro x
    constructor
    · rintro ⟨j, c2, a2, b2, m2, e1, e2, e3, e4, e5⟩
      have e3' : (p.mrk.set c (m + 1))[c2]? = some m2 := e3
      have e2' : p.sp[c2]? = some (a2, b2) := e2
      rw [md] at e3'
      by_cases e : c2 = c
      · subst e
        rw [if_pos rfl] at e3'
        injection e3' with e3'
        rw [hc] at e2'
        injection e2' with e; injection e with f1 f2; subst f1; subst f2
        rcases ordc j x e1 with ⟨rfl, rfl⟩ | ⟨_, _, rfl⟩ | ⟨g1, g2, g⟩
        · exact .inr ((eqr.2 (by omega)).symm)
        · exact .inr rfl
        · exact .inl ⟨j, c2, a, b, m, g, hc, hm, e4, by omega⟩
      · rw [if_neg e] at e3'
        have := h.m1 c2 a2 b2 m2 e2' e3'
        rcases ordc j x e1 with ⟨rfl, rfl⟩ | ⟨_, rfl, rfl⟩ | ⟨g1, g2, g⟩
        · exact absurd (h.span e2' hc e4 (by omega) (by omega) h2) e
        · exact absurd (h.span e2' hc e4 (by omega) (by omega) (by omega)) e
        · exact .inl ⟨j, c2, a2, b2, m2, g, e2', e3', e4, e5⟩
    · rintro (⟨j, c2, a2, b2, m2, e1, e2, e3, e4, e5⟩ | rfl)
      · have hm1 := h.m1 c2 a2 b2 m2 e2 e3
        by_cases e : c2 = c
        · subst e
          rw [hc] at e2
          injection e2 with e; injection e with f1 f2; subst f1; subst f2
          rw [hm] at e3; injection e3 with e3; subst e3
          refine ⟨j, c2, a, b, m + 1, ?_, hc, ?_, e4, by omega⟩
          · show ((p.ord.set (a + m) q).set i r)[j]? = some x
            rw [od, if_neg (by omega), if_neg (by omega)]; exact e1
          · show (p.mrk.set c2 (m + 1))[c2]? = some (m + 1)
            rw [md, if_pos rfl]
        · refine ⟨j, c2, a2, b2, m2, ?_, e2, ?_, e4, e5⟩
          · show ((p.ord.set (a + m) q).set i r)[j]? = some x
            rw [od, if_neg, if_neg]
            · exact e1
            · rintro rfl; exact e (h.span e2 hc e4 (by omega) (by omega) (by omega))
            · rintro rfl; exact e (h.span e2 hc e4 (by omega) (by omega) h2)
          · show (p.mrk.set c (m + 1))[c2]? = some m2
            rw [md, if_neg e]; exact e3
      · refine ⟨a + m, c, a, b, m + 1, ?_, hc, ?_, by omega, by omega⟩
        · show ((p.ord.set (a + m) x).set i r)[a + m]? = some x
          rw [od]
          split
          · rename_i e; rw [eqr.2 e.symm]
          · rw [if_pos rfl]
        · show (p.mrk.set c (m + 1))[c]? = some (m + 1)
          rw [md, if_pos rfl]
end Pt
end Go.Proofs.Ytdkdfmflghbhiaa
