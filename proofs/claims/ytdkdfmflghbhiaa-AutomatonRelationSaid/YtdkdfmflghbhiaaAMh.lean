/- Plain mathematics: two automata side by side, and the table of the pairs that were found. Nothing here speaks of the program. -/
import Derived.Test.YtdkdfmflghbhiaaAMg
namespace Go.Proofs.Ytdkdfmflghbhiaa
set_option linter.unusedVariables false

/-- The pair behind a letter. -/
def sc2 (A B : Au) (p : Int × Int) (c : Nat) : Int × Int := (A.go p.1 c, B.go p.2 c)
def no2 (p : Int × Int) : Prop := p = (-1, -1)
/-- States of both, or nowhere. -/
def in2 (A B : Au) (p : Int × Int) : Prop := (-1 ≤ p.1 ∧ p.1 < A.n) ∧ (-1 ≤ p.2 ∧ p.2 < B.n)
section
variable {A B : Au} {k : Nat} {p q : Int × Int} {l : List (Int × Int)} {tab nx fd : List Int} {pa : List Nat} {P : Nat} {s : Int × Int}
theorem in2_step (hA : A.Right k) (hB : B.Right k) (p : Int × Int) (c : Nat) : in2 A B (sc2 A B p c) := ⟨hA.go_in, hB.go_in⟩
theorem in2_start (hA : A.Right k) (hB : B.Right k) : in2 A B (A.st, B.st) := ⟨hA.st_in, hB.st_in⟩
theorem sc2_no (c : Nat) (h : no2 p) : no2 (sc2 A B p c) := by
  unfold no2 at h; subst h; unfold no2 sc2; rw [A.go_neg (by decide), B.go_neg (by decide)]
theorem in2_nat (h : in2 A B p) : ∃ a b : Nat, p = ((a : Int) - 1, (b : Int) - 1) ∧ a < A.n + 1 ∧ b < B.n + 1 := by
  obtain ⟨⟨h1, h2⟩, h3, h4⟩ := h
  refine ⟨(p.1 + 1).toNat, (p.2 + 1).toNat, ?_, by omega, by omega⟩
  rw [Int.toNat_of_nonneg (by omega), Int.toNat_of_nonneg (by omega)]
  exact Prod.ext (by simp) (by simp)
/-- The place of a pair in the table. -/
def pl2 (B : Au) (p : Int × Int) : Nat := ((p.1 + 1) * ((B.n : Int) + 1) + p.2 + 1).toNat
theorem pl2_mk (a b : Nat) : pl2 B ((a : Int) - 1, (b : Int) - 1) = a * (B.n + 1) + b := by
  unfold pl2
  have e : ((a : Int) - 1 + 1) * ((B.n : Int) + 1) + ((b : Int) - 1) + 1 = ((a * (B.n + 1) + b : Nat) : Int) := by
    rw [Int.natCast_add, Int.natCast_mul, Int.natCast_add, show ((a : Int) - 1 + 1) = a by omega]; simp; omega
  simp only [e, Int.toNat_natCast]
theorem pl2_int (h : in2 A B p) : (p.1 + 1) * ((B.n : Int) + 1) + p.2 + 1 = (pl2 B p : Int) := by
  obtain ⟨a, b, rfl, h1, h2⟩ := in2_nat h
  rw [pl2_mk]
  rw [Int.natCast_add, Int.natCast_mul, Int.natCast_add, show ((a : Int) - 1 + 1) = a by omega]; simp; omega
theorem pl2_lt (h : in2 A B p) : pl2 B p < (A.n + 1) * (B.n + 1) := by
  obtain ⟨a, b, rfl, h1, h2⟩ := in2_nat h
  rw [pl2_mk]
  exact pos_up h2 h1
theorem pl2_inj (h : in2 A B p) (g : in2 A B q) (e : pl2 B p = pl2 B q) : p = q := by
  obtain ⟨a, b, rfl, h1, h2⟩ := in2_nat h
  obtain ⟨c, d, rfl, g1, g2⟩ := in2_nat g
  rw [pl2_mk, pl2_mk] at e
  obtain ⟨e1, e2⟩ := pos_eq h2 g2 e
  rw [e1, e2]
/-- The table knows the places of the pairs. -/
structure Tab2 (A B : Au) (l : List (Int × Int)) (tab : List Int) : Prop where
  len : tab.length = (A.n + 1) * (B.n + 1)
  inl : ∀ (j : Nat) p, l[j]? = some p → in2 A B p
  yes : ∀ (j : Nat) p, l[j]? = some p → tab.getD (pl2 B p) 0 = (j : Int) + 1
  no : ∀ p, in2 A B p → (∀ j : Nat, l[j]? ≠ some p) → tab.getD (pl2 B p) 0 = 0
theorem getD_set {β : Type} {l : List β} {i j : Nat} {x d : β} (hi : i < l.length) : (l.set i x).getD j d = if j = i then x else l.getD j d := by
  rw [List.getD_eq_getElem?_getD, Pt.set_at hi]
  split
  · rfl
  · rw [List.getD_eq_getElem?_getD]
theorem Tab2.start : Tab2 A B [] (List.replicate ((A.n + 1) * (B.n + 1)) 0) := by
  refine ⟨by simp, fun j p h => by simp at h, fun j p h => by simp at h, fun p hp _ => ?_⟩
  rw [List.getD_eq_getElem?_getD, List.getElem?_replicate, if_pos (pl2_lt hp)]; rfl
theorem Tab2.put (h : Tab2 A B l tab) (hp : in2 A B p) (hn : ∀ j : Nat, l[j]? ≠ some p) : Tab2 A B (l ++ [p]) (tab.set (pl2 B p) ((l.length : Int) + 1)) := by
  have hlt : pl2 B p < tab.length := by rw [h.len]; exact pl2_lt hp
  have hin : ∀ (j : Nat) x, (l ++ [p])[j]? = some x → in2 A B x := by
    intro j x hj
    rcases get_snoc hj with ⟨_, e⟩ | ⟨_, rfl⟩
    · exact h.inl j x e
    · exact hp
  refine ⟨by rw [List.length_set]; exact h.len, hin, ?_, ?_⟩
  · intro j x hj
    rw [getD_set hlt]
    rcases get_snoc hj with ⟨_, e⟩ | ⟨rfl, rfl⟩
    · rw [if_neg]
      · exact h.yes j x e
      · intro e2
        have := pl2_inj (h.inl j x e) hp e2
        rw [this] at e; exact hn j e
    · rw [if_pos rfl]
  · intro x hx hne
    rw [getD_set hlt, if_neg]
    · refine h.no x hx (fun j e => hne j (get_left e))
    · intro e2
      have := pl2_inj hx hp e2
      subst this
      exact hne l.length get_last
theorem Tab2.look (h : Tab2 A B l tab) (hp : in2 A B p) : (∃ j : Nat, l[j]? = some p ∧ tab.getD (pl2 B p) 0 = (j : Int) + 1) ∨ ((∀ j : Nat, l[j]? ≠ some p) ∧ tab.getD (pl2 B p) 0 = 0) := by
  by_cases e : ∃ j : Nat, l[j]? = some p
  · obtain ⟨j, hj⟩ := e
    exact .inl ⟨j, hj, h.yes j p hj⟩
  · have hn : ∀ j : Nat, l[j]? ≠ some p := fun j hj => e ⟨j, hj⟩
    exact .inr ⟨hn, h.no p hp hn⟩
theorem few2 (hin : ∀ (j : Nat) p, l[j]? = some p → in2 A B p) (hnd : ∀ (i j : Nat) x, l[i]? = some x → l[j]? = some x → i = j) : l.length ≤ (A.n + 1) * (B.n + 1) := by
  have := few_below ((A.n + 1) * (B.n + 1)) (l.map (pl2 B)) (nodup_of fun i j x e1 e2 => ?_) (fun x hx => ?_)
  · simpa using this
  · rw [List.getElem?_map] at e1 e2
    cases a1 : l[i]? with
    | none => rw [a1] at e1; cases e1
    | some u =>
      cases a2 : l[j]? with
      | none => rw [a2] at e2; cases e2
      | some v =>
        rw [a1] at e1; rw [a2] at e2
        injection e1 with e1; injection e2 with e2
        have := pl2_inj (hin i u a1) (hin j v a2) (e1.trans e2.symm)
        subst this
        exact hnd i j u a1 a2
  · obtain ⟨p, hp, rfl⟩ := List.mem_map.1 hx
    obtain ⟨j, hj⟩ := mem_at hp
    exact pl2_lt (hin j p hj)
/-- Where the letters lead, by place and letter. -/
def Nx2 (A B : Au) (k : Nat) (l : List (Int × Int)) (nx : List Int) : Prop :=
  ∀ (pos : Nat) y v, nx[pos]? = some v → l[pos / k]? = some y → (sc2 A B y (pos % k) = (-1, -1) ∧ v = -1) ∨ ∃ j : Nat, l[j]? = some (sc2 A B y (pos % k)) ∧ v = (j : Int)
theorem Nx2.more (h : Nx2 A B k l nx) (hb : nx.length ≤ l.length * k) (hk : 0 < k) (p : Int × Int) : Nx2 A B k (l ++ [p]) nx := by
  intro pos y v hv hy
  have hpos := (List.getElem?_eq_some_iff.1 hv).1
  rcases get_snoc hy with ⟨_, e⟩ | ⟨e, _⟩
  · rcases h pos y v hv e with h1 | ⟨j, h1, h2⟩
    · exact .inl h1
    · exact .inr ⟨j, get_left h1, h2⟩
  · have : pos / k < l.length := (Nat.div_lt_iff_lt_mul hk).2 (by omega)
    omega
theorem Nx2.snoc (h : Nx2 A B k l nx) {y : Int × Int} {v : Int} (hy : l[nx.length / k]? = some y) (hv : (sc2 A B y (nx.length % k) = (-1, -1) ∧ v = -1) ∨ ∃ j : Nat, l[j]? = some (sc2 A B y (nx.length % k)) ∧ v = (j : Int)) : Nx2 A B k l (nx ++ [v]) := by
  intro pos z u hu hz
  rcases get_snoc hu with ⟨_, e⟩ | ⟨rfl, rfl⟩
  · exact h pos z u e hz
  · rw [hy] at hz; injection hz with hz; subst hz; exact hv
/-- Where each pair was found, as the program keeps it. -/
def fdOf : List Nat → List Int
  | [] => []
  | _ :: r => (-1) :: r.map Int.ofNat
theorem fdOf_snoc {pa : List Nat} (h : pa ≠ []) (P : Nat) : fdOf (pa ++ [P]) = fdOf pa ++ [(P : Int)] := by
  cases pa with
  | nil => exact absurd rfl h
  | cons a r => simp [fdOf]
theorem fdOf_len (pa : List Nat) : (fdOf pa).length = pa.length := by cases pa <;> simp [fdOf]
theorem fdOf_zero {pa : List Nat} (h : 0 < pa.length) : (fdOf pa).getD 0 0 = -1 := by
  cases pa with
  | nil => simp at h
  | cons a r => rfl
theorem fdOf_at {pa : List Nat} {j p : Nat} (h0 : 0 < j) (h : pa[j]? = some p) : (fdOf pa).getD j 0 = (p : Int) := by
  cases pa with
  | nil => simp at h
  | cons a r =>
    cases j with
    | zero => omega
    | succ j =>
      have h' : r[j]? = some p := by simpa using h
      simp [fdOf, List.getD_eq_getElem?_getD, h']
/-- The state of the search. -/
structure Rch (A B : Au) (k : Nat) (l : List (Int × Int)) (pa : List Nat) (nx tab : List Int) : Prop where
  bfs : Bfs (sc2 A B) no2 k (A.st, B.st) l pa nx.length
  tab : Tab2 A B l tab
  nxs : Nx2 A B k l nx
  le : nx.length ≤ l.length * k
theorem Rch.start (hA : A.Right k) (hB : B.Right k) (hs : ¬ no2 (A.st, B.st)) : Rch A B k [(A.st, B.st)] [0] [] ((List.replicate ((A.n + 1) * (B.n + 1)) 0).set (pl2 B (A.st, B.st)) 1) := by
  refine ⟨Bfs.start 0 hs, ?_, fun pos y v hv => by simp at hv, Nat.zero_le _⟩
  have := (Tab2.start (A := A) (B := B)).put (in2_start hA hB) (fun j h => by simp at h)
  simpa using this
theorem Rch.seen (h : Rch A B k l pa nx tab) (hk : 0 < k) {y : Int × Int} (hy : l[nx.length / k]? = some y) {v : Int}
    (hv : (no2 (sc2 A B y (nx.length % k)) ∧ v = -1) ∨ ∃ j : Nat, l[j]? = some (sc2 A B y (nx.length % k)) ∧ v = (j : Int)) : Rch A B k l pa (nx ++ [v]) tab := by
  have hl := (List.getElem?_eq_some_iff.1 hy).1
  refine ⟨?_, h.tab, h.nxs.snoc hy hv, ?_⟩
  · rw [List.length_append, List.length_singleton]
    refine h.bfs.seen hy ?_
    rcases hv with ⟨e, _⟩ | ⟨j, e, _⟩
    · exact .inl e
    · exact .inr ⟨j, e⟩
  · rw [List.length_append, List.length_singleton]
    exact (Nat.div_lt_iff_lt_mul hk).1 hl
theorem Rch.fresh (h : Rch A B k l pa nx tab) (hA : A.Right k) (hB : B.Right k) {y : Int × Int} (hy : l[nx.length / k]? = some y) (hs : ¬ no2 (sc2 A B y (nx.length % k)))
    (hn : ∀ j : Nat, l[j]? ≠ some (sc2 A B y (nx.length % k))) :
    Rch A B k (l ++ [sc2 A B y (nx.length % k)]) (pa ++ [nx.length]) (nx ++ [(l.length : Int)]) (tab.set (pl2 B (sc2 A B y (nx.length % k))) ((l.length : Int) + 1)) := by
  have hk := hA.pos
  have hl := (List.getElem?_eq_some_iff.1 hy).1
  refine ⟨?_, h.tab.put (in2_step hA hB _ _) hn, (h.nxs.more h.le hk _).snoc (get_left hy) (.inr ⟨l.length, get_last, rfl⟩), ?_⟩
  · rw [List.length_append, List.length_singleton]
    exact h.bfs.new hy hs hn
  · rw [List.length_append, List.length_singleton, List.length_append, List.length_singleton, Nat.add_mul]
    have := (Nat.div_lt_iff_lt_mul hk).1 hl
    omega
/-- What the search leaves. -/
structure Rch2 (A B : Au) (k : Nat) (l : List (Int × Int)) (pa : List Nat) (nx : List Int) : Prop where
  bfs : no2 (A.st, B.st) ∧ l = [] ∧ pa = [] ∨ ¬ no2 (A.st, B.st) ∧ Bfs (sc2 A B) no2 k (A.st, B.st) l pa (l.length * k)
  nxs : Nx2 A B k l nx
  len : nx.length = l.length * k
  inl : ∀ (j : Nat) p, l[j]? = some p → in2 A B p
theorem Rch.done (h : Rch A B k l pa nx tab) (hs : ¬ no2 (A.st, B.st)) (e : nx.length = l.length * k) : Rch2 A B k l pa nx := ⟨.inr ⟨hs, e ▸ h.bfs⟩, h.nxs, e, h.tab.inl⟩
theorem Rch2.none (hs : no2 (A.st, B.st)) : Rch2 A B k [] [] [] := ⟨.inl ⟨hs, rfl, rfl⟩, fun pos y v hv => by simp at hv, by simp, fun j p h => by simp at h⟩
/-- The same as places. -/
def nxF (nx : List Int) (k q c : Nat) : Int := nx.getD (q * k + c) (-1)
theorem Rch2.go (h : Rch2 A B k l pa nx) {j c : Nat} {x : Int × Int} (hx : l[j]? = some x) (hc : c < k) :
    (no2 (sc2 A B x c) ∧ nxF nx k j c = -1) ∨ ∃ i : Nat, l[i]? = some (sc2 A B x c) ∧ nxF nx k j c = (i : Int) := by
  have hj := (List.getElem?_eq_some_iff.1 hx).1
  have hlt : j * k + c < nx.length := by rw [h.len]; exact pos_up hc hj
  obtain ⟨d1, d2⟩ := pos_div (i := j) hc
  have := h.nxs (j * k + c) x nx[j * k + c] (List.getElem?_eq_getElem hlt) (by rw [d1]; exact hx)
  rw [d2] at this
  unfold nxF
  rw [getD_at hlt]
  exact this
theorem Rch2.fold (h : Rch2 A B k l pa nx) : ∀ (u : List Nat), Let k u → ∀ (q : Int) (x : Int × Int), (no2 x ∧ q = -1) ∨ (∃ j : Nat, l[j]? = some x ∧ q = (j : Int)) →
    (no2 (u.foldl (sc2 A B) x) ∧ u.foldl (gq (nxF nx k)) q = -1) ∨ ∃ j : Nat, l[j]? = some (u.foldl (sc2 A B) x) ∧ u.foldl (gq (nxF nx k)) q = (j : Int)
  | [], _, q, x, h0 => h0
  | c :: u, hu, q, x, h0 => by
    rw [List.foldl_cons, List.foldl_cons]
    refine h.fold u hu.cons.2 _ _ ?_
    rcases h0 with ⟨h1, rfl⟩ | ⟨j, h1, rfl⟩
    · exact .inl ⟨sc2_no c h1, gq_neg (by decide) c⟩
    · rw [gq_nat]; exact h.go h1 hu.cons.1
theorem Rch2.bfsI (h : Rch2 A B k l pa nx) (hs : ¬ no2 (A.st, B.st)) (hk : 0 < k) : Bfs (gq (nxF nx k)) (fun q => q = -1) k (0 : Int) ((List.range l.length).map Int.ofNat) pa (l.length * k) := by
  rcases h.bfs with ⟨h1, _⟩ | ⟨_, g⟩
  · exact absurd h1 hs
  · have h0 := (List.getElem?_eq_some_iff.1 g.first).1
    have lt : ∀ {j : Nat} {x}, l[j]? = some x → j < l.length := fun hx => (List.getElem?_eq_some_iff.1 hx).1
    refine ⟨rangeI_mk h0, ?_, ?_, by simp [g.len], ?_, g.mono, ?_, fun p hp => by simpa using g.bound p hp⟩
    · intro j x hj
      obtain ⟨_, rfl⟩ := rangeI hj
      omega
    · intro i j x h1 h2
      obtain ⟨_, e1⟩ := rangeI h1
      obtain ⟨_, e2⟩ := rangeI h2
      omega
    · intro j x p hj0 hj hp
      obtain ⟨hjl, rfl⟩ := rangeI hj
      obtain ⟨a1, a2, y, a3, a4⟩ := g.par j l[j] p hj0 (List.getElem?_eq_getElem hjl) hp
      refine ⟨a1, a2, ((p / k : Nat) : Int), rangeI_mk (lt a3), ?_⟩
      rw [gq_nat]
      rcases h.go a3 (Nat.mod_lt p hk) with ⟨b1, _⟩ | ⟨i, b1, b2⟩
      · rw [a4] at b1; exact absurd b1 (g.ns j _ (List.getElem?_eq_getElem hjl))
      · rw [a4] at b1
        rw [b2, g.nd i j _ b1 (List.getElem?_eq_getElem hjl)]
    · intro p y hp hy
      obtain ⟨hyl, rfl⟩ := rangeI hy
      have hx : l[p / k]? = some l[p / k] := List.getElem?_eq_getElem hyl
      rw [gq_nat]
      rcases h.go hx (Nat.mod_lt p hk) with ⟨_, b2⟩ | ⟨i, b1, b2⟩
      · exact .inl b2
      · rw [b2]
        refine .inr ⟨i, rangeI_mk (lt b1), ?_⟩
        rcases g.closed p _ hp hx with c1 | ⟨j, c1, c2⟩
        · exact absurd c1 (g.ns i _ b1)
        · rw [g.nd i j _ b1 c1]; exact c2
/-- Words by pairs, and by places. -/
theorem Rch2.words (h : Rch2 A B k l pa nx) {f : Int × Int → Bool} (h0 : f (-1, -1) = false) {acs : List Bool} (ha : ∀ (j : Nat) x, l[j]? = some x → acs.getD j false = f x) (u : List Nat) (hu : Let k u) :
    aq (fun q => acs.getD q false) (u.foldl (gq (nxF nx k)) (if l.length = 0 then -1 else 0)) = f (u.foldl (sc2 A B) (A.st, B.st)) := by
  have key := h.fold u hu (if l.length = 0 then -1 else 0) (A.st, B.st) (by
    rcases h.bfs with ⟨h1, h2, _⟩ | ⟨_, g⟩
    · exact .inl ⟨h1, by rw [h2]; rfl⟩
    · refine .inr ⟨0, g.first, ?_⟩
      have := (List.getElem?_eq_some_iff.1 g.first).1
      rw [if_neg (by omega)]; rfl)
  rcases key with ⟨k1, k2⟩ | ⟨j, k1, k2⟩
  · rw [k2, aq_neg (by decide)]; unfold no2 at k1; rw [k1, h0]
  · rw [k2, aq_nat, ha j _ k1]
theorem fold2 (u : List Nat) (p : Int × Int) : u.foldl (sc2 A B) p = (A.run p.1 u, B.run p.2 u) := by
  induction u generalizing p with
  | nil => rfl
  | cons c u ih => rw [List.foldl_cons, ih]; rfl
end
end Go.Proofs.Ytdkdfmflghbhiaa
