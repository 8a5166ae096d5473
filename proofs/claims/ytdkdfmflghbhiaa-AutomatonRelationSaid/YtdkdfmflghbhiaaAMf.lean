/- Plain mathematics: classes that are divided by all classes tell apart exactly what has other words. Nothing here speaks of the program. -/
import Derived.Test.YtdkdfmflghbhiaaAMe
namespace Go.Proofs.Ytdkdfmflghbhiaa
set_option linter.unusedVariables false

/-- Where a letter leads; -1 is nowhere. -/
def gq (nxt : Nat → Nat → Int) (q : Int) (c : Nat) : Int := if q < 0 then -1 else nxt q.toNat c
def aq (acc : Nat → Bool) (q : Int) : Bool := decide (0 ≤ q) && acc q.toNat
theorem gq_neg {nxt : Nat → Nat → Int} {q : Int} (h : q < 0) (c : Nat) : gq nxt q c = -1 := if_pos h
theorem gq_nat {nxt : Nat → Nat → Int} (q c : Nat) : gq nxt (q : Int) c = nxt q c := by unfold gq; rw [if_neg (by omega)]; rfl
theorem aq_neg {acc : Nat → Bool} {q : Int} (h : q < 0) : aq acc q = false := by unfold aq; rw [decide_eq_false (by omega)]; rfl
theorem aq_nat {acc : Nat → Bool} (q : Nat) : aq acc (q : Int) = acc q := by unfold aq; rw [decide_eq_true (by omega)]; rfl
theorem fold_neg {nxt : Nat → Nat → Int} : ∀ u : List Nat, u.foldl (gq nxt) (-1) = -1
  | [] => rfl
  | c :: u => by rw [List.foldl_cons, gq_neg (by omega)]; exact fold_neg u
/-- N states and k letters. -/
structure Sys (N k : Nat) (nxt : Nat → Nat → Int) (acc lv : Nat → Bool) : Prop where
  pos : 0 < k
  nin : ∀ q c, q < N → c < k → -1 ≤ nxt q c ∧ nxt q c < N
  live : ∀ q, q < N → (lv q = true ↔ ∃ u, Let k u ∧ aq acc (u.foldl (gq nxt) (q : Int)) = true)
section
variable {N k : Nat} {nxt : Nat → Nat → Int} {acc lv : Nat → Bool} {p : Pt} {tl : List Nat}
theorem Sys.go_in (h : Sys N k nxt acc lv) {q : Int} {c : Nat} (h1 : -1 ≤ q) (h2 : q < N) (hc : c < k) : -1 ≤ gq nxt q c ∧ gq nxt q c < N := by
  by_cases e : q < 0
  · rw [gq_neg e]; omega
  · obtain ⟨n, rfl⟩ := Int.eq_ofNat_of_zero_le (show 0 ≤ q by omega)
    rw [show ((n : Int)) = ((n : Nat) : Int) from rfl, gq_nat]; exact h.nin n c (by omega) hc
theorem Sys.dead (h : Sys N k nxt acc lv) {q : Nat} (hq : q < N) (hl : lv q = false) (u : List Nat) (hu : Let k u) : aq acc (u.foldl (gq nxt) (q : Int)) = false := by
  cases e : aq acc (u.foldl (gq nxt) (q : Int)) with
  | false => rfl
  | true => rw [(h.live q hq).2 ⟨u, hu, e⟩] at hl; cases hl
/-- The same words are accepted from both. -/
def Alike (k : Nat) (nxt : Nat → Nat → Int) (acc : Nat → Bool) (x y : Int) : Prop := ∀ u, Let k u → aq acc (u.foldl (gq nxt) x) = aq acc (u.foldl (gq nxt) y)
theorem Alike.step {x y : Int} {c : Nat} (h : Alike k nxt acc x y) (hc : c < k) : Alike k nxt acc (gq nxt x c) (gq nxt y c) := fun u hu => h (c :: u) (let_cons hc hu)
/-- The class of a state or of nowhere. -/
def Pt.clI (p : Pt) (t : Int) : Int := if t < 0 then -1 else p.cl t.toNat
theorem clI_neg {t : Int} (h : t < 0) : p.clI t = -1 := if_pos h
theorem clI_nat (n : Nat) : p.clI (n : Int) = p.cl n := by unfold Pt.clI; rw [if_neg (by omega)]; rfl
/-- What holds when the classes below k0 have been used. -/
structure Hop (N k : Nat) (nxt : Nat → Nat → Int) (acc lv : Nat → Bool) (p : Pt) (k0 : Nat) : Prop where
  h1 : ∀ x y : Nat, x < N → y < N → lv x = true → lv y = true → Alike k nxt acc x y → p.cl x = p.cl y
  h2 : ∀ x y : Nat, x < N → y < N → lv x = true → lv y = true → p.cl x = p.cl y → acc x = acc y
  h3 : ∀ (x y c : Nat), x < N → y < N → lv x = true → lv y = true → p.cl x = p.cl y → c < k → p.clI (nxt x c) < k0 → p.clI (nxt y c) < k0 → p.clI (nxt x c) = p.clI (nxt y c)
theorem clI_cases (h : p.Ok N lv tl) {t : Int} (h1 : -1 ≤ t) (h2 : t < N) : (p.clI t = -1 ∧ (t = -1 ∨ ∃ n : Nat, t = n ∧ n < N ∧ lv n = false)) ∨ ∃ n : Nat, t = n ∧ n < N ∧ lv n = true ∧ ∃ c : Nat, p.clI t = c ∧ c < p.sp.length := by
  by_cases e : t < 0
  · exact .inl ⟨clI_neg e, .inl (by omega)⟩
  · obtain ⟨n, rfl⟩ := Int.eq_ofNat_of_zero_le (show 0 ≤ t by omega)
    have hn : n < N := by omega
    rw [show ((n : Int)) = ((n : Nat) : Int) from rfl, clI_nat]
    cases hl : lv n with
    | true => exact .inr ⟨n, rfl, hn, hl, h.cl_live hn hl⟩
    | false => exact .inl ⟨h.cl_dead hn hl, .inr ⟨n, rfl, hn, hl⟩⟩
/-- When all classes have been used, they are those of the words. -/
theorem Hop.cls (hs : Sys N k nxt acc lv) (h : p.Ok N lv tl) {k0 : Nat} (g : Hop N k nxt acc lv p k0) (hk : p.sp.length ≤ k0) :
    Cls (gq nxt) (aq acc) k (fun t => -1 ≤ t ∧ t < N) p.clI := by
  have key : ∀ (u : List Nat), Let k u → ∀ x y : Int, -1 ≤ x → x < N → -1 ≤ y → y < N → p.clI x = p.clI y → aq acc (u.foldl (gq nxt) x) = aq acc (u.foldl (gq nxt) y) := by
    intro u
    induction u with
    | nil =>
      intro _ x y x1 x2 y1 y2 e
      rcases clI_cases h x1 x2 with ⟨a1, a2⟩ | ⟨n, rfl, n1, n2, c, n3, n4⟩ <;> rcases clI_cases h y1 y2 with ⟨b1, b2⟩ | ⟨m, rfl, m1, m2, d, m3, m4⟩
      · have z : ∀ t : Int, (t = -1 ∨ ∃ n : Nat, t = n ∧ n < N ∧ lv n = false) → aq acc t = false := by
          rintro t (rfl | ⟨n, rfl, n1, n2⟩)
          · exact aq_neg (by omega)
          · exact hs.dead n1 n2 [] (let_nil k)
        show aq acc x = aq acc y
        rw [z x a2, z y b2]
      · omega
      · omega
      · show aq acc (n : Int) = aq acc (m : Int)
        rw [aq_nat, aq_nat]
        rw [clI_nat, clI_nat] at e
        exact g.h2 n m n1 m1 n2 m2 e
    | cons c u ih =>
      intro hu x y x1 x2 y1 y2 e
      rw [List.foldl_cons, List.foldl_cons]
      obtain ⟨gx1, gx2⟩ := hs.go_in x1 x2 hu.cons.1
      obtain ⟨gy1, gy2⟩ := hs.go_in y1 y2 hu.cons.1
      rcases clI_cases h x1 x2 with ⟨a1, a2⟩ | ⟨n, rfl, n1, n2, d, n3, n4⟩ <;> rcases clI_cases h y1 y2 with ⟨b1, b2⟩ | ⟨m, rfl, m1, m2, d2, m3, m4⟩
      · have z : ∀ t : Int, (t = -1 ∨ ∃ n : Nat, t = n ∧ n < N ∧ lv n = false) → aq acc (u.foldl (gq nxt) (gq nxt t c)) = false := by
          rintro t (rfl | ⟨n, rfl, n1, n2⟩)
          · rw [gq_neg (by omega), fold_neg]; exact aq_neg (by omega)
          · exact hs.dead n1 n2 (c :: u) hu
        rw [z x a2, z y b2]
      · omega
      · omega
      · refine ih hu.cons.2 _ _ gx1 gx2 gy1 gy2 ?_
        rw [clI_nat, clI_nat] at e
        rw [gq_nat] at gx1 gx2 ⊢
        rw [gq_nat] at gy1 gy2 ⊢
        have lim : ∀ t : Int, -1 ≤ t → t < N → p.clI t < k0 := by
          intro t t1 t2
          rcases clI_cases h t1 t2 with ⟨z, _⟩ | ⟨_, _, _, _, c, z, z2⟩
          · omega
          · omega
        exact g.h3 n m c n1 m1 n2 m2 e hu.cons.1 (lim _ gx1 gx2) (lim _ gy1 gy2)
  refine ⟨?_, ?_, ?_⟩
  · rintro x ⟨x1, x2⟩
    constructor
    · intro e u hu
      have := key u hu x (-1) x1 x2 (by omega) (by omega) (e.trans (clI_neg (by omega)).symm)
      rw [this, fold_neg]; exact aq_neg (by omega)
    · intro e
      rcases clI_cases h x1 x2 with ⟨a1, _⟩ | ⟨n, rfl, n1, n2, d, n3, n4⟩
      · exact a1
      · obtain ⟨u, hu, ha⟩ := (hs.live n n1).1 n2
        rw [e u hu] at ha; cases ha
  · rintro x y ⟨x1, x2⟩ ⟨y1, y2⟩ hx hy
    constructor
    · intro e u hu; exact key u hu x y x1 x2 y1 y2 e
    · intro e
      rcases clI_cases h x1 x2 with ⟨a1, _⟩ | ⟨n, rfl, n1, n2, d, n3, n4⟩
      · exact absurd a1 hx
      · rcases clI_cases h y1 y2 with ⟨b1, _⟩ | ⟨m, rfl, m1, m2, d2, m3, m4⟩
        · exact absurd b1 hy
        · rw [clI_nat, clI_nat]; exact g.h1 n m n1 m1 n2 m2 e
  · rintro x c ⟨x1, x2⟩ hc
    exact hs.go_in x1 x2 hc
/-- What holds while class k0, which held S, is used, behind c0 letters. -/
structure Hop2 (N k : Nat) (nxt : Nat → Nat → Int) (acc lv : Nat → Bool) (p : Pt) (k0 : Nat) (S : List Nat) (c0 : Nat) : Prop where
  base : Hop N k nxt acc lv p k0
  low : k0 < p.sp.length
  sub : ∀ x, x < N → lv x = true → p.cl x = (k0 : Nat) → x ∈ S
  sup : ∀ x, x ∈ S → x < N ∧ lv x = true ∧ (k0 : Int) ≤ p.cl x
  done : ∀ (x y c : Nat), x < N → y < N → lv x = true → lv y = true → p.cl x = p.cl y → c < c0 → ((∃ t, t ∈ S ∧ nxt x c = (t : Nat)) ↔ ∃ t, t ∈ S ∧ nxt y c = (t : Nat))
  shut : ∀ x y : Nat, x ∈ S → y < N → lv y = true → Alike k nxt acc x y → y ∈ S
theorem Hop.open (h : p.Ok N lv tl) {k0 : Nat} (g : Hop N k nxt acc lv p k0) {a b : Nat} (hc : p.sp[k0]? = some (a, b)) : Hop2 N k nxt acc lv p k0 (Pt.part p.ord a b) 0 := by
  have iff : ∀ x, x < N → lv x = true → (p.cl x = (k0 : Nat) ↔ x ∈ Pt.part p.ord a b) := by
    intro x hx lx
    obtain ⟨i, hi⟩ := h.o2 x hx lx
    rw [h.cl_span hx lx hi hc, Pt.part_mem]
    constructor
    · rintro ⟨e1, e2⟩; exact ⟨i, e1, e2, hi⟩
    · rintro ⟨j, e1, e2, e3⟩
      obtain rfl := h.inj hi e3
      exact ⟨e1, e2⟩
  have ins : ∀ x, x ∈ Pt.part p.ord a b → x < N ∧ lv x = true := by
    intro x hx
    obtain ⟨j, _, _, e⟩ := Pt.part_mem.1 hx
    obtain ⟨e1, e2, _⟩ := h.o1 j x e
    exact ⟨e1, e2⟩
  refine ⟨g, (List.getElem?_eq_some_iff.1 hc).1, fun x hx lx e => (iff x hx lx).1 e, ?_, fun _ _ _ _ _ _ _ _ hc0 => by omega, ?_⟩
  · intro x hx
    obtain ⟨e1, e2⟩ := ins x hx
    exact ⟨e1, e2, by rw [(iff x e1 e2).2 hx]; omega⟩
  · intro x y hx hy ly e
    obtain ⟨e1, e2⟩ := ins x hx
    refine (iff y hy ly).1 ?_
    rw [← g.h1 x y e1 hy e2 ly e]; exact (iff x e1 e2).2 hx
/-- The states from which letter c leads into S are marked, and the classes divided. -/
theorem Hop2.step (hs : Sys N k nxt acc lv) {k0 c0 : Nat} {S : List Nat} (g : Hop2 N k nxt acc lv p k0 S c0) (hc : c0 < k) {pm p' : Pt} {tl2 tl3 : List Nat} (hp : p.Ok N lv tl) (hp' : p'.Ok N lv tl2) (hcl : pm.cls = p.cls) (hsp : pm.sp = p.sp)
    (hm : ∀ x, x < N → lv x = true → (pm.Mkd x ↔ ∃ t, t ∈ S ∧ nxt x c0 = (t : Nat))) (hd : Pt.Dvd N lv pm p' []) : Hop2 N k nxt acc lv p' k0 S (c0 + 1) := by
  have ecl : ∀ x, pm.cl x = p.cl x := fun x => by unfold Pt.cl; rw [hcl]
  have fine : ∀ x y, x < N → y < N → lv x = true → lv y = true → p'.cl x = p'.cl y → p.cl x = p.cl y := fun x y hx hy lx ly e => by
    have := hd.fine x y hx hy lx ly e
    rwa [ecl, ecl] at this
  have more : p.sp.length ≤ p'.sp.length := by have := hd.more; rwa [hsp] at this
  have low := g.low
  have keep : ∀ x, x < N → lv x = true → p'.cl x = p.cl x ∨ (p.sp.length : Int) ≤ p'.cl x := fun x hx lx => by
    have := hd.keep x hx lx
    rwa [ecl, hsp] at this
  have keepI : ∀ t : Int, -1 ≤ t → t < N → p'.clI t < k0 → p'.clI t = p.clI t := by
    intro t t1 t2 e
    by_cases e1 : t < 0
    · rw [clI_neg e1, clI_neg e1]
    · obtain ⟨n, rfl⟩ := Int.eq_ofNat_of_zero_le (show 0 ≤ t by omega)
      rw [show ((n : Int)) = ((n : Nat) : Int) from rfl, clI_nat] at e ⊢
      rw [clI_nat]
      cases hl : lv n with
      | true =>
        rcases keep n (by omega) hl with f | f
        · exact f
        · omega
      | false => rw [hp'.cl_dead (by omega) hl, hp.cl_dead (by omega) hl]
  have leads : ∀ x y : Nat, x < N → y < N → lv x = true → lv y = true → Alike k nxt acc x y → (∃ t, t ∈ S ∧ nxt x c0 = (t : Nat)) → ∃ t, t ∈ S ∧ nxt y c0 = (t : Nat) := by
    rintro x y hx hy lx ly e ⟨t, ht, ex⟩
    have e2 := e.step hc
    rw [gq_nat, gq_nat, ex] at e2
    obtain ⟨t1, t2, t3⟩ := g.sup t ht
    obtain ⟨y1, y2⟩ := hs.nin y c0 hy hc
    obtain ⟨u, hu, ha⟩ := (hs.live t t1).1 t2
    by_cases e3 : nxt y c0 < 0
    · have e4 : nxt y c0 = -1 := by omega
      rw [e2 u hu, e4, fold_neg, aq_neg (by omega)] at ha
      cases ha
    · obtain ⟨n, hn⟩ := Int.eq_ofNat_of_zero_le (show 0 ≤ nxt y c0 by omega)
      rw [hn] at e2 y2
      refine ⟨n, g.shut t n ht (by omega) ((hs.live n (by omega)).2 ⟨u, hu, ?_⟩) e2, hn⟩
      rw [← e2 u hu]; exact ha
  refine ⟨⟨?_, ?_, ?_⟩, by omega, ?_, ?_, ?_, g.shut⟩
  · intro x y hx hy lx ly e
    refine hd.one x y hx hy lx ly ?_ ?_
    · rw [ecl, ecl]; exact g.base.h1 x y hx hy lx ly e
    · rw [hm x hx lx, hm y hy ly]
      exact ⟨leads x y hx hy lx ly e, leads y x hy hx ly lx (fun u hu => (e u hu).symm)⟩
  · intro x y hx hy lx ly e
    exact g.base.h2 x y hx hy lx ly (fine x y hx hy lx ly e)
  · intro x y c hx hy lx ly e hck e1 e2
    obtain ⟨x1, x2⟩ := hs.nin x c hx hck
    obtain ⟨y1, y2⟩ := hs.nin y c hy hck
    rw [keepI _ x1 x2 e1, keepI _ y1 y2 e2]
    rw [keepI _ x1 x2 e1] at e1
    rw [keepI _ y1 y2 e2] at e2
    exact g.base.h3 x y c hx hy lx ly (fine x y hx hy lx ly e) hck e1 e2
  · intro x hx lx e
    rcases keep x hx lx with f | f
    · exact g.sub x hx lx (f ▸ e)
    · omega
  · intro x hx
    obtain ⟨e1, e2, e3⟩ := g.sup x hx
    refine ⟨e1, e2, ?_⟩
    rcases keep x e1 e2 with f | f
    · omega
    · omega
  · intro x y c hx hy lx ly e hcc
    by_cases e1 : c = c0
    · subst e1
      rw [← hm x hx lx, ← hm y hy ly]
      exact hd.told x y hx hy lx ly e (fun _ h => by simp at h)
    · exact g.done x y c hx hy lx ly (fine x y hx hy lx ly e) (by omega)
/-- Behind the last letter the class has been used. -/
theorem Hop2.close (hs : Sys N k nxt acc lv) (hp : p.Ok N lv tl) {k0 : Nat} {S : List Nat} (g : Hop2 N k nxt acc lv p k0 S k) : Hop N k nxt acc lv p (k0 + 1) := by
  refine ⟨g.base.h1, g.base.h2, ?_⟩
  intro x y c hx hy lx ly e hc e1 e2
  have hd := g.done x y c hx hy lx ly e hc
  obtain ⟨x1, x2⟩ := hs.nin x c hx hc
  obtain ⟨y1, y2⟩ := hs.nin y c hy hc
  have inS : ∀ t : Int, -1 ≤ t → t < N → p.clI t < (k0 : Nat) + 1 → (∃ n, n ∈ S ∧ t = (n : Nat)) → p.clI t = k0 := by
    rintro t _ _ et ⟨n, hn, rfl⟩
    obtain ⟨a1, a2, a3⟩ := g.sup n hn
    rw [clI_nat] at et ⊢
    omega
  have outS : ∀ t : Int, -1 ≤ t → t < N → p.clI t < (k0 : Nat) + 1 → ¬ (∃ n, n ∈ S ∧ t = (n : Nat)) → p.clI t < k0 := by
    intro t t1 t2 et hn
    rcases clI_cases hp t1 t2 with ⟨z, _⟩ | ⟨n, rfl, n1, n2, d, n3, n4⟩
    · omega
    · by_cases e3 : d = k0
      · rw [clI_nat] at n3
        exact absurd ⟨n, g.sub n n1 n2 (by rw [n3, e3]), rfl⟩ hn
      · omega
  by_cases e3 : ∃ t, t ∈ S ∧ nxt x c = (t : Nat)
  · rw [inS _ x1 x2 e1 e3, inS _ y1 y2 e2 (hd.1 e3)]
  · have e4 := outS _ x1 x2 e1 e3
    have e5 := outS _ y1 y2 e2 (fun f => e3 (hd.2 f))
    exact g.base.h3 x y c hx hy lx ly e hc e4 e5
end
theorem nodup_of {β : Type} {l : List β} (h : ∀ (i j : Nat) x, l[i]? = some x → l[j]? = some x → i = j) : l.Nodup := by
  refine List.pairwise_iff_getElem.2 ?_
  intro i j hi hj hij e
  have := h i j l[i] (List.getElem?_eq_getElem hi) (by rw [e]; exact List.getElem?_eq_getElem hj)
  omega
/-- Different numbers below a bound are not more than the bound. -/
theorem few_below : ∀ (n : Nat) (l : List Nat), l.Nodup → (∀ x ∈ l, x < n) → l.length ≤ n
  | 0, l, _, h => by
    cases l with
    | nil => exact Nat.le_refl _
    | cons a l => exact absurd (h a (List.mem_cons_self ..)) (by omega)
  | n + 1, l, hd, h => by
    have h1 := few_below n (l.filter (fun x => decide (x ≠ n))) (hd.sublist List.filter_sublist) (fun x hx => by
      have h2 := List.mem_filter.1 hx
      have h3 := h x h2.1
      have h4 := of_decide_eq_true h2.2
      omega)
    have h2 : l.length ≤ (l.filter (fun x => decide (x ≠ n))).length + 1 := by
      clear h h1
      induction l with
      | nil => simp
      | cons a l ih =>
        obtain ⟨d1, d2⟩ := List.nodup_cons.1 hd
        by_cases e : a = n
        · subst e
          have : l.filter (fun x => decide (x ≠ a)) = l := List.filter_eq_self.2 (fun x hx => decide_eq_true (fun f => d1 (f ▸ hx)))
          rw [List.filter_cons_of_neg (by simp), this]; simp
        · rw [List.filter_cons_of_pos (p := fun x => decide (x ≠ n)) (decide_eq_true e)]
          have := ih d2
          simp only [List.length_cons]; omega
    omega
theorem Pt.Ok.few {N : Nat} {lv : Nat → Bool} {p : Pt} {tl : List Nat} (h : p.Ok N lv tl) : p.sp.length ≤ p.ord.length ∧ p.ord.length ≤ N := by
  constructor
  · have hd : ((List.range p.sp.length).map fun c => (p.sp.getD c (0, 0)).1).Nodup := by
      refine nodup_of ?_
      intro i j x e1 e2
      rw [List.getElem?_map] at e1 e2
      by_cases hi : i < p.sp.length
      · by_cases hj : j < p.sp.length
        · rw [List.getElem?_range hi] at e1
          rw [List.getElem?_range hj] at e2
          injection e1 with e1
          injection e2 with e2
          have h1 : p.sp[i]? = some ((p.sp[i]).1, (p.sp[i]).2) := List.getElem?_eq_getElem hi
          have h2 : p.sp[j]? = some ((p.sp[j]).1, (p.sp[j]).2) := List.getElem?_eq_getElem hj
          dsimp only at e1 e2
          rw [getD_at hi] at e1
          rw [getD_at hj] at e2
          have a1 := (h.o4 i _ _ h1).1
          have a2 := (h.o4 j _ _ h2).1
          exact h.span (i := x) h1 h2 (by omega) (by omega) (by omega) (by omega)
        · rw [List.getElem?_eq_none (by simp; omega)] at e2; cases e2
      · rw [List.getElem?_eq_none (by simp; omega)] at e1; cases e1
    have := few_below p.ord.length _ hd (fun x hx => by
      obtain ⟨c, hc, rfl⟩ := List.mem_map.1 hx
      have hc := List.mem_range.1 hc
      have h1 : p.sp[c]? = some ((p.sp[c]).1, (p.sp[c]).2) := List.getElem?_eq_getElem hc
      have := h.o4 c _ _ h1
      rw [getD_at hc]; omega)
    simpa using this
  · refine few_below N p.ord ?_ (fun x hx => ?_)
    · exact nodup_of fun i j x e1 e2 => h.inj e1 e2
    · obtain ⟨i, hi⟩ := mem_at hx
      exact (h.o1 i x hi).1
end Go.Proofs.Ytdkdfmflghbhiaa
