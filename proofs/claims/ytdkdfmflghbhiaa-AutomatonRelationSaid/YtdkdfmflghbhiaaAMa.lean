/- Plain mathematics of searches by letters: words, their ranks, lists that are found breadth first. Nothing here speaks of the program. -/
import Derived.WalkKit
namespace Go.Proofs.Ytdkdfmflghbhiaa
set_option linter.unusedVariables false

/-! ### Words and their order -/
/-- The place of a word in the order of words over k letters. -/
def rk (k : Nat) (u : List Nat) : Nat := u.foldl (fun a c => a * k + c + 1) 0
theorem rk_nil (k : Nat) : rk k [] = 0 := rfl
theorem rk_snoc (k : Nat) (u : List Nat) (c : Nat) : rk k (u ++ [c]) = rk k u * k + c + 1 := by simp [rk, List.foldl_append]
def Let (k : Nat) (u : List Nat) : Prop := ∀ c ∈ u, c < k
theorem let_nil (k : Nat) : Let k [] := fun c h => by simp at h
theorem Let.snoc {k : Nat} {u : List Nat} {c : Nat} (h : Let k u) (hc : c < k) : Let k (u ++ [c]) := fun d hd => by
  rcases List.mem_append.1 hd with e | e
  · exact h d e
  · rw [List.mem_singleton.1 e]; exact hc
theorem Let.init {k : Nat} {u : List Nat} {c : Nat} (h : Let k (u ++ [c])) : Let k u ∧ c < k :=
  ⟨fun d hd => h d (List.mem_append_left _ hd), h c (by simp)⟩
theorem Let.cons {k : Nat} {u : List Nat} {c : Nat} (h : Let k (c :: u)) : c < k ∧ Let k u :=
  ⟨h c (by simp), fun d hd => h d (List.mem_cons_of_mem _ hd)⟩
theorem Let.app {k : Nat} {u v : List Nat} (h : Let k u) (h2 : Let k v) : Let k (u ++ v) := fun d hd => by
  rcases List.mem_append.1 hd with e | e
  · exact h d e
  · exact h2 d e
theorem snoc_cases (u : List Nat) : u = [] ∨ ∃ v c, u = v ++ [c] := by
  cases u with
  | nil => exact .inl rfl
  | cons a l => exact .inr ⟨(a :: l).dropLast, (a :: l).getLast (by simp), (List.dropLast_concat_getLast (by simp)).symm⟩
/-- Induction from the end of a word. -/
theorem snoc_rec {P : List Nat → Prop} (h0 : P []) (h1 : ∀ u c, P u → P (u ++ [c])) : ∀ u, P u := by
  have key : ∀ n u, u.length = n → P u := by
    intro n
    induction n with
    | zero => intro u hu; rw [List.eq_nil_of_length_eq_zero hu]; exact h0
    | succ n ih =>
      intro u hu
      rcases snoc_cases u with rfl | ⟨v, c, rfl⟩
      · exact h0
      · exact h1 v c (ih v (by simpa using hu))
  exact fun u => key _ u rfl
theorem pos_eq {k a b c d : Nat} (hb : b < k) (hd : d < k) (h : a * k + b = c * k + d) : a = c ∧ b = d := by
  have hk : 0 < k := by omega
  have h1 : (a * k + b) / k = a := by rw [Nat.mul_comm, Nat.mul_add_div hk, Nat.div_eq_of_lt hb, Nat.add_zero]
  have h2 : (c * k + d) / k = c := by rw [Nat.mul_comm, Nat.mul_add_div hk, Nat.div_eq_of_lt hd, Nat.add_zero]
  have e : a = c := by rw [← h1, ← h2, h]
  subst e
  exact ⟨rfl, by omega⟩
theorem rk_inj {k : Nat} : ∀ (u v : List Nat), Let k u → Let k v → rk k u = rk k v → u = v := by
  refine snoc_rec ?_ ?_
  · intro v _ hv h
    rcases snoc_cases v with rfl | ⟨v, d, rfl⟩
    · rfl
    · rw [rk_snoc, rk_nil] at h; omega
  · intro u c ih v hu hv h
    rcases snoc_cases v with rfl | ⟨v, d, rfl⟩
    · rw [rk_snoc, rk_nil] at h; omega
    · rw [rk_snoc, rk_snoc] at h
      obtain ⟨e1, e2⟩ := pos_eq hu.init.2 hv.init.2 (show rk k u * k + c = rk k v * k + d by omega)
      rw [ih v hu.init.1 hv.init.1 e1, e2]
/-- A bound of the ranks of words of a length. -/
def rkB (k : Nat) : Nat → Nat
  | 0 => 0
  | n + 1 => rkB k n * k + 1
theorem rkB_mono {k : Nat} (hk : 0 < k) (n : Nat) : rkB k n ≤ rkB k (n + 1) := by
  induction n with
  | zero => simp [rkB]
  | succ n ih => show rkB k n * k + 1 ≤ rkB k (n + 1) * k + 1; exact Nat.succ_le_succ (Nat.mul_le_mul_right k ih)
theorem rkB_le {k : Nat} (hk : 0 < k) {m n : Nat} (h : m ≤ n) : rkB k m ≤ rkB k n := by
  induction h with
  | refl => exact Nat.le_refl _
  | step _ ih => exact Nat.le_trans ih (rkB_mono hk _)
theorem rk_len {k : Nat} : ∀ u, Let k u → rkB k u.length ≤ rk k u ∧ rk k u < rkB k (u.length + 1) := by
  refine snoc_rec (fun _ => ⟨by simp [rk, rkB], by simp [rk, rkB]⟩) ?_
  intro u c ih hu
  obtain ⟨h1, h2⟩ := ih hu.init.1
  have hc := hu.init.2
  rw [rk_snoc, List.length_append, List.length_singleton]
  have e1 : rkB k (u.length + 1) = rkB k u.length * k + 1 := rfl
  have e2 : rkB k (u.length + 1 + 1) = rkB k (u.length + 1) * k + 1 := rfl
  have m1 := Nat.mul_le_mul_right k h1
  have m2 := Nat.mul_le_mul_right k (show rk k u + 1 ≤ rkB k (u.length + 1) from h2)
  rw [Nat.add_mul] at m2
  omega
theorem rk_shorter {k : Nat} {u v : List Nat} (hu : Let k u) (hv : Let k v) (h : u.length < v.length) : rk k u < rk k v := by
  have hk : 0 < k := by
    cases v with
    | nil => simp at h
    | cons c v => have := hv.cons.1; omega
  exact Nat.lt_of_lt_of_le (rk_len u hu).2 (Nat.le_trans (rkB_le hk h) (rk_len v hv).1)
/-- The first word with a property. -/
def Least (k : Nat) (P : List Nat → Prop) (u : List Nat) : Prop := Let k u ∧ P u ∧ ∀ v, Let k v → P v → rk k u ≤ rk k v
theorem Least.uniq {k : Nat} {P : List Nat → Prop} {u v : List Nat} (h : Least k P u) (h2 : Least k P v) : u = v :=
  rk_inj u v h.1 h2.1 (Nat.le_antisymm (h.2.2 v h2.1 h2.2.1) (h2.2.2 u h.1 h.2.1))
theorem Least.congr {k : Nat} {P Q : List Nat → Prop} {u : List Nat} (h : Least k P u) (e : ∀ v, Let k v → (P v ↔ Q v)) : Least k Q u :=
  ⟨h.1, (e u h.1).1 h.2.1, fun v hv hq => h.2.2 v hv ((e v hv).2 hq)⟩

/-! ### What is found breadth first -/
/-- l holds what is found from s, with the places where it was found in pa; P places were looked at. -/
structure Bfs {α : Type} (sc : α → Nat → α) (sk : α → Prop) (k : Nat) (s : α) (l : List α) (pa : List Nat) (P : Nat) : Prop where
  first : l[0]? = some s
  ns : ∀ (j : Nat) x, l[j]? = some x → ¬ sk x
  nd : ∀ (i j : Nat) x, l[i]? = some x → l[j]? = some x → i = j
  len : pa.length = l.length
  par : ∀ (j : Nat) x (p : Nat), 0 < j → l[j]? = some x → pa[j]? = some p → p / k < j ∧ p < P ∧ ∃ y, l[p / k]? = some y ∧ sc y (p % k) = x
  mono : ∀ (i j p q : Nat), 0 < i → i < j → pa[i]? = some p → pa[j]? = some q → p < q
  closed : ∀ (p : Nat) y, p < P → l[p / k]? = some y → sk (sc y (p % k)) ∨ ∃ j : Nat, l[j]? = some (sc y (p % k)) ∧ (j = 0 ∨ ∃ q : Nat, pa[j]? = some q ∧ q ≤ p)
  bound : ∀ p, p < P → p / k < l.length
section
variable {α : Type} {sc : α → Nat → α} {sk : α → Prop} {k : Nat} {s : α} {l : List α} {pa : List Nat} {P : Nat}
theorem Bfs.start (p0 : Nat) (hs : ¬ sk s) : Bfs sc sk k s [s] [p0] 0 := by
  refine ⟨rfl, ?_, ?_, rfl, ?_, ?_, ?_, ?_⟩
  · intro j x h
    match j, h with
    | 0, h => injection h with h; rw [← h]; exact hs
    | j + 1, h => simp at h
  · intro i j x h1 h2
    match i, j, h1, h2 with
    | 0, 0, _, _ => rfl
    | i + 1, _, h1, _ => simp at h1
    | _, j + 1, _, h2 => simp at h2
  · intro j x p h0 h1 _
    match j, h0, h1 with
    | j + 1, _, h1 => simp at h1
  · intro i j p q h0 h1 h2 h3
    match j, h1, h3 with
    | j + 1, _, h3 => simp at h3
  · intro p y hp; omega
  · intro p hp; omega
theorem Bfs.seen (h : Bfs sc sk k s l pa P) {y : α} (hy : l[P / k]? = some y) (ht : sk (sc y (P % k)) ∨ ∃ j : Nat, l[j]? = some (sc y (P % k))) : Bfs sc sk k s l pa (P + 1) := by
  refine ⟨h.first, h.ns, h.nd, h.len, ?_, h.mono, ?_, ?_⟩
  · intro j x p h0 h1 h2
    obtain ⟨a, b, c⟩ := h.par j x p h0 h1 h2
    exact ⟨a, by omega, c⟩
  · intro p y' hp hy'
    by_cases e : p = P
    · subst e
      rw [hy] at hy'
      injection hy' with hy'
      subst hy'
      rcases ht with ht | ⟨j, hj⟩
      · exact .inl ht
      · refine .inr ⟨j, hj, ?_⟩
        by_cases j0 : j = 0
        · exact .inl j0
        · have hjl : j < pa.length := by rw [h.len]; exact (List.getElem?_eq_some_iff.1 hj).1
          have hq : pa[j]? = some pa[j] := List.getElem?_eq_getElem hjl
          exact .inr ⟨pa[j], hq, Nat.le_of_lt (h.par j _ _ (by omega) hj hq).2.1⟩
    · exact h.closed p y' (by omega) hy'
  · intro p hp
    by_cases e : p = P
    · subst e; exact (List.getElem?_eq_some_iff.1 hy).1
    · exact h.bound p (by omega)
theorem get_snoc {β : Type} {l : List β} {x z : β} {j : Nat} (h : (l ++ [x])[j]? = some z) : (j < l.length ∧ l[j]? = some z) ∨ (j = l.length ∧ z = x) := by
  by_cases hj : j < l.length
  · rw [List.getElem?_append_left hj] at h; exact .inl ⟨hj, h⟩
  · rw [List.getElem?_append_right (by omega)] at h
    have hj2 := (List.getElem?_eq_some_iff.1 h).1
    simp at hj2
    have e : j - l.length = 0 := by omega
    rw [e] at h
    injection h with h
    exact .inr ⟨by omega, h.symm⟩
theorem get_left {β : Type} {l : List β} {x z : β} {j : Nat} (h : l[j]? = some z) : (l ++ [x])[j]? = some z := by
  rw [List.getElem?_append_left (List.getElem?_eq_some_iff.1 h).1]; exact h
theorem get_last {β : Type} {l : List β} {x : β} : (l ++ [x])[l.length]? = some x := by
  rw [List.getElem?_append_right (Nat.le_refl _), Nat.sub_self]; rfl
theorem Bfs.new (h : Bfs sc sk k s l pa P) {y : α} (hy : l[P / k]? = some y) (hs : ¬ sk (sc y (P % k))) (ht : ∀ j : Nat, l[j]? ≠ some (sc y (P % k))) :
    Bfs sc sk k s (l ++ [sc y (P % k)]) (pa ++ [P]) (P + 1) := by
  have hPl := (List.getElem?_eq_some_iff.1 hy).1
  refine ⟨get_left h.first, ?_, ?_, by simp [h.len], ?_, ?_, ?_, ?_⟩
  · intro j x hj
    rcases get_snoc hj with ⟨_, e⟩ | ⟨_, rfl⟩
    · exact h.ns j x e
    · exact hs
  · intro i j x h1 h2
    rcases get_snoc h1 with ⟨_, e⟩ | ⟨e1, e2⟩ <;> rcases get_snoc h2 with ⟨_, f⟩ | ⟨f1, f2⟩
    · exact h.nd i j x e f
    · rw [f2] at e; exact absurd e (ht i)
    · rw [e2] at f; exact absurd f (ht j)
    · omega
  · intro j x p h0 h1 h2
    rcases get_snoc h1 with ⟨e0, e⟩ | ⟨e1, e2⟩
    · rcases get_snoc h2 with ⟨_, f⟩ | ⟨f1, f2⟩
      · obtain ⟨a, b, z, hz, hz2⟩ := h.par j x p h0 e f
        exact ⟨a, by omega, z, get_left hz, hz2⟩
      · rw [h.len] at f1; omega
    · rcases get_snoc h2 with ⟨f0, f⟩ | ⟨f1, f2⟩
      · rw [h.len] at f0; omega
      · subst f2
        exact ⟨by omega, by omega, y, get_left hy, e2.symm⟩
  · intro i j p q h0 hij h1 h2
    rcases get_snoc h2 with ⟨f0, f⟩ | ⟨f1, f2⟩
    · rcases get_snoc h1 with ⟨e0, e⟩ | ⟨e1, e2⟩
      · exact h.mono i j p q h0 hij e f
      · omega
    · rcases get_snoc h1 with ⟨e0, e⟩ | ⟨e1, e2⟩
      · rw [f2]
        have hil : i < l.length := by rw [← h.len]; exact e0
        exact (h.par i l[i] p h0 (List.getElem?_eq_getElem hil) e).2.1
      · omega
  · intro p y' hp hy'
    by_cases e : p = P
    · subst e
      rw [get_left hy] at hy'
      injection hy' with hy'
      subst hy'
      refine .inr ⟨l.length, get_last, .inr ⟨p, ?_, Nat.le_refl _⟩⟩
      rw [← h.len]; exact get_last
    · rcases get_snoc hy' with ⟨_, f⟩ | ⟨f1, f2⟩
      · rcases h.closed p y' (by omega) f with c | ⟨j, c1, c2⟩
        · exact .inl c
        · refine .inr ⟨j, get_left c1, ?_⟩
          rcases c2 with c2 | ⟨q, c2, c3⟩
          · exact .inl c2
          · exact .inr ⟨q, get_left c2, c3⟩
      · have := h.bound p (by omega)
        omega
  · intro p hp
    rw [List.length_append]
    by_cases e : p = P
    · subst e; omega
    · have := h.bound p (by omega); omega
/-- The word that leads to what was found at a place. -/
inductive Wd (k : Nat) (pa : List Nat) : Nat → List Nat → Prop
  | zero : Wd k pa 0 []
  | step (j p : Nat) (u : List Nat) : 0 < j → pa[j]? = some p → Wd k pa (p / k) u → Wd k pa j (u ++ [p % k])
theorem Wd.uniq {j : Nat} {u v : List Nat} (h : Wd k pa j u) (h2 : Wd k pa j v) : u = v := by
  induction h generalizing v with
  | zero =>
    cases h2 with
    | zero => rfl
    | step j p u h0 => omega
  | step j p u h0 hp hw ih =>
    cases h2 with
    | zero => omega
    | step j q w g0 hq hv =>
      rw [hp] at hq
      injection hq with hq
      subst hq
      rw [ih hv]
theorem Bfs.word (h : Bfs sc sk k s l pa P) (hk : 0 < k) : ∀ (n j : Nat) x, j < n → l[j]? = some x → ∃ u, Wd k pa j u ∧ Let k u ∧ u.foldl sc s = x := by
  intro n
  induction n with
  | zero => intro j x hj; omega
  | succ n ih =>
    intro j x hj hx
    by_cases j0 : j = 0
    · subst j0
      rw [h.first] at hx
      injection hx with hx
      exact ⟨[], .zero, let_nil k, hx⟩
    · have hjl : j < pa.length := by rw [h.len]; exact (List.getElem?_eq_some_iff.1 hx).1
      have hq : pa[j]? = some pa[j] := List.getElem?_eq_getElem hjl
      obtain ⟨a, _, y, hy, e⟩ := h.par j x _ (by omega) hx hq
      obtain ⟨u, w1, w2, w3⟩ := ih _ y (by omega) hy
      exact ⟨u ++ [pa[j] % k], .step j _ u (by omega) hq w1, w2.snoc (Nat.mod_lt _ hk), by rw [List.foldl_append, w3]; exact e⟩
theorem Bfs.rises (h : Bfs sc sk k s l pa P) (hk : 0 < k) : ∀ (n i j : Nat) u v, j < n → i < j → j < l.length → Wd k pa i u → Wd k pa j v → rk k u < rk k v := by
  intro n
  induction n with
  | zero => intro i j u v hj; omega
  | succ n ih =>
    intro i j u v hj hij hjl hu hv
    cases hv with
    | zero => omega
    | step j q v h0 hq hv =>
      have hx : l[j]? = some l[j] := List.getElem?_eq_getElem hjl
      obtain ⟨qj, _⟩ := h.par j _ q h0 hx hq
      rw [rk_snoc]
      cases hu with
      | zero => rw [rk_nil]; omega
      | step i p u g0 hp hu =>
        have hpq := h.mono i j p q g0 hij hp hq
        rw [rk_snoc]
        have hd : p / k ≤ q / k := Nat.div_le_div_right (Nat.le_of_lt hpq)
        have c1 := Nat.mod_lt p hk
        have c2 := Nat.mod_lt q hk
        by_cases e : p / k = q / k
        · rw [e] at hu
          rw [hu.uniq hv]
          have m1 := Nat.div_add_mod p k
          have m2 := Nat.div_add_mod q k
          rw [e] at m1
          omega
        · have hlt := ih (p / k) (q / k) u v (by omega) (by omega) (by omega) hu hv
          have m := Nat.mul_le_mul_right k (show rk k u + 1 ≤ rk k v from hlt)
          rw [Nat.add_mul] at m
          omega
/-- Behind the last place each word leads to what was found, by a word that is not greater. -/
theorem Bfs.least (h : Bfs sc sk k s l pa P) (hk : 0 < k) (hP : l.length * k ≤ P) (hsk : ∀ y c, c < k → sk y → sk (sc y c)) :
    ∀ u, Let k u → ¬ sk (u.foldl sc s) → ∃ (j : Nat) (v : List Nat), l[j]? = some (u.foldl sc s) ∧ Wd k pa j v ∧ rk k v ≤ rk k u := by
  refine snoc_rec ?_ ?_
  · intro _ hs
    exact ⟨0, [], h.first, .zero, Nat.le_refl _⟩
  · intro u c ih hu hs
    rw [List.foldl_append] at hs ⊢
    simp only [List.foldl_cons, List.foldl_nil] at hs ⊢
    obtain ⟨i, v, hi, hv, hr⟩ := ih hu.init.1 (fun e => hs (hsk _ _ hu.init.2 e))
    have hc := hu.init.2
    have hil := (List.getElem?_eq_some_iff.1 hi).1
    have e1 : (i * k + c) / k = i := by rw [Nat.mul_comm, Nat.mul_add_div hk, Nat.div_eq_of_lt hc, Nat.add_zero]
    have e2 : (i * k + c) % k = c := by rw [Nat.mul_comm, Nat.mul_add_mod, Nat.mod_eq_of_lt hc]
    have hp : i * k + c < P := by
      have := Nat.mul_le_mul_right k (show i + 1 ≤ l.length from hil)
      rw [Nat.add_mul] at this
      omega
    rcases h.closed (i * k + c) _ hp (by rw [e1]; exact hi) with e | ⟨j, hj, ho⟩
    · rw [e2] at e; exact absurd e hs
    · rw [e2] at hj
      obtain ⟨w, w1, _, _⟩ := h.word hk (j + 1) j _ (by omega) hj
      refine ⟨j, w, hj, w1, ?_⟩
      rw [rk_snoc]
      cases w1 with
      | zero => rw [rk_nil]; omega
      | step j q w h0 hq hw =>
        have hqp : q ≤ i * k + c := by
          rcases ho with ho | ⟨q', hq', hle⟩
          · omega
          · rw [hq] at hq'; injection hq' with hq'; omega
        rw [rk_snoc]
        have c2 := Nat.mod_lt q hk
        have hd : q / k ≤ i := by rw [← e1]; exact Nat.div_le_div_right hqp
        by_cases e : q / k = i
        · rw [e] at hw
          rw [hw.uniq hv]
          have m := Nat.mul_le_mul_right k hr
          have m1 := Nat.div_add_mod q k
          have m2 : k * (q / k) = i * k := by rw [e, Nat.mul_comm]
          omega
        · have hlt := h.rises hk (i + 1) (q / k) i w v (by omega) (by omega) hil hw hv
          have m := Nat.mul_le_mul_right k (show rk k w + 1 ≤ rk k v from hlt)
          have m2 := Nat.mul_le_mul_right k hr
          rw [Nat.add_mul] at m
          omega
/-- The first place with what is wanted has the first word that leads to something wanted. -/
theorem Bfs.first_word (h : Bfs sc sk k s l pa P) (hk : 0 < k) (hP : l.length * k ≤ P) (hsk : ∀ y c, c < k → sk y → sk (sc y c)) {want : α → Prop} (hw : ∀ x, want x → ¬ sk x)
    {i : Nat} {x : α} {v : List Nat} (hx : l[i]? = some x) (hwx : want x) (hmin : ∀ (j : Nat) y, j < i → l[j]? = some y → ¬ want y) (hv : Wd k pa i v) : Least k (fun u => want (u.foldl sc s)) v := by
  obtain ⟨v', a1, a2, a3⟩ := h.word hk (i + 1) i x (by omega) hx
  obtain rfl := hv.uniq a1
  refine ⟨a2, by show want _; rw [a3]; exact hwx, fun u hu hwu => ?_⟩
  obtain ⟨j, w, b1, b2, b3⟩ := h.least hk hP hsk u hu (hw _ hwu)
  by_cases hij : j < i
  · exact absurd hwu (hmin j _ hij b1)
  · by_cases e : j = i
    · subst e; rw [hv.uniq b2]; exact b3
    · have := h.rises hk (j + 1) i j v w (by omega) (by omega) (List.getElem?_eq_some_iff.1 b1).1 hv b2
      omega
end
end Go.Proofs.Ytdkdfmflghbhiaa
