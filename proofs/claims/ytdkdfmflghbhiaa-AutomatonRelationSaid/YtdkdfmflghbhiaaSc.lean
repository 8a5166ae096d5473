/- Contract of the second implementation: the relation of two automata. -/
import Derived.Test.YtdkdfmflghbhiaaSb
import Derived.Test.YtdkdfmflghbhiaaRB
import Derived.Test.YtdkdfmflghbhiaaRm
namespace Go.Proofs.Ytdkdfmflghbhiaa
open Go.RowKit
set_option linter.unusedVariables false
set_option linter.unusedSimpArgs false
set_option maxRecDepth 100000
theorem fm {α : Type} {p : α → Prop} {a : α} {l : List α} (h : p a ∧ ∀ x ∈ l, p x) : ∀ x ∈ a :: l, p x := List.forall_mem_cons.2 h

set_option maxHeartbeats 8000000 in
theorem rless_any (p1 p2 q1 q2 : Int) (w : World) :
    Calls Try.prog 30 #[.agg #[.int .i64 p1, .int .i64 p2], .agg #[.int .i64 q1, .int .i64 q2]] w fun e w' => e = .returned (.bool (ltP (p1, p2) (q1, q2))) ∧ Below w.heap.size w w' := by
  have HB := Lib.hid (btwo (bnew w (.cells #[.int .i64 p1, .int .i64 p2] 35)) (bnew _ (.cells #[.int .i64 q1, .int .i64 q2] 35)))
  by_cases h1 : p1 < q1
  · have HE := Lib.hid (show ltP (p1, p2) (q1, q2) = true from decide_eq_true (.inl h1))
    go_enter Try.func30, Try.ntmps30
    go_wp2
    go_ret
    exact ⟨ret_bool HE.out.symm, HB.out⟩
  · by_cases h2 : p1 = q1
    · by_cases h3 : p2 < q2
      · have HE := Lib.hid (show ltP (p1, p2) (q1, q2) = true from decide_eq_true (.inr ⟨h2, h3⟩))
        have e1 : (p1 == q1) = true := beq_yes h2
        subst h2
        go_enter Try.func30, Try.ntmps30
        go_wp2
        go_ret
        exact ⟨ret_bool HE.out.symm, HB.out⟩
      · have HE := Lib.hid (show ltP (p1, p2) (q1, q2) = false from decide_eq_false (fun h => by rcases h with h | h; exact h1 h; exact h3 h.2))
        subst h2
        go_enter Try.func30, Try.ntmps30
        go_wp2
        go_ret
        exact ⟨ret_bool HE.out.symm, HB.out⟩
    · have HE := Lib.hid (show ltP (p1, p2) (q1, q2) = false from decide_eq_false (fun h => by rcases h with h | h; exact h1 h; exact h2 h.1))
      have e1 : (p1 == q1) = false := beq_no h2
      go_enter Try.func30, Try.ntmps30
      go_wp2
      go_ret
      exact ⟨ret_bool HE.out.symm, HB.out⟩
/-- A pair put at its place. -/
theorem Asc.insert {xs : List (Int × Int)} {p : Int × Int} {a : Nat} (h : Asc xs) (hn : p ∉ xs) (ha : a ≤ xs.length) (hr : ∀ (t : Nat) q, a ≤ t → xs[t]? = some q → ltP p q = true) (hl : a = 0 ∨ ∃ q, xs[a - 1]? = some q ∧ ltP p q = false) : Asc (xs.take a ++ p :: xs.drop a) := by
  have hT : ∀ q, q ∈ xs.take a → ltP q p = true := by
    intro q hq
    rcases hl with rfl | ⟨z, hz, hzp⟩
    · simp at hq
    · obtain ⟨j, hj⟩ := List.mem_iff_getElem?.1 hq
      have hja : j < a := by have := (List.getElem?_eq_some_iff.1 hj).1; rw [List.length_take] at this; omega
      rw [List.getElem?_take, if_pos hja] at hj
      have hzl : ltP z p = true := ltP_tri (by rw [hzp]; exact Bool.false_ne_true) (fun e => hn (e ▸ List.mem_of_getElem? hz))
      by_cases e : j = a - 1
      · subst e; rw [hz] at hj; injection hj with hj; subst hj; exact hzl
      · obtain ⟨l1, e1⟩ := List.getElem?_eq_some_iff.1 hj
        obtain ⟨l2, e2⟩ := List.getElem?_eq_some_iff.1 hz
        have h1 : ltP q z = true := by rw [← e1, ← e2]; exact (List.pairwise_iff_getElem.1 h) j (a - 1) l1 l2 (by omega)
        rw [ltP_iff] at *
        omega
  refine List.pairwise_append.2 ⟨h.sublist (List.take_sublist a xs), List.pairwise_cons.2 ⟨fun q hq => ?_, h.sublist (List.drop_sublist a xs)⟩, fun q hq z hz => ?_⟩
  · obtain ⟨j, hj⟩ := List.mem_iff_getElem?.1 hq
    rw [List.getElem?_drop] at hj
    exact hr (a + j) q (by omega) hj
  · have hqp := hT q hq
    rcases List.mem_cons.1 hz with rfl | hz
    · exact hqp
    · obtain ⟨j, hj⟩ := List.mem_iff_getElem?.1 hz
      rw [List.getElem?_drop] at hj
      have := hr (a + j) z (by omega) hj
      rw [ltP_iff] at *
      omega
theorem mem_insert {xs : List (Int × Int)} {p q : Int × Int} {a : Nat} : q ∈ xs.take a ++ p :: xs.drop a ↔ q = p ∨ q ∈ xs := by
  conv => rhs; rw [← List.take_append_drop a xs]
  simp only [List.mem_append, List.mem_cons]
  constructor
  · rintro (h | h | h)
    · exact .inr (.inl h)
    · exact .inl h
    · exact .inr (.inr h)
  · rintro (h | h | h)
    · exact .inr (.inl h)
    · exact .inl h
    · exact .inr (.inr h)
/-- What was put in so far. -/
def RIns (l : List (Int × Int)) (i : Nat) (out : List (Int × Int)) : Prop := Asc out ∧ ∀ q, q ∈ out ↔ (∃ j : Nat, j < i ∧ l[j]? = some q) ∧ ¬ no2 q
theorem RIns.start (l : List (Int × Int)) : RIns l 0 [] := ⟨List.Pairwise.nil, fun q => ⟨fun h => by simp at h, fun h => by obtain ⟨⟨j, hj, _⟩, _⟩ := h; omega⟩⟩
theorem RIns.skip {l : List (Int × Int)} {i : Nat} {out : List (Int × Int)} {p : Int × Int} (h : RIns l i out) (hp : l[i]? = some p) (hn : no2 p) : RIns l (i + 1) out := by
  refine ⟨h.1, fun q => (h.2 q).trans ⟨fun ⟨⟨j, h1, h2⟩, h3⟩ => ⟨⟨j, by omega, h2⟩, h3⟩, fun ⟨⟨j, h1, h2⟩, h3⟩ => ⟨⟨j, ?_, h2⟩, h3⟩⟩⟩
  by_cases e : j = i
  · subst e; rw [hp] at h2; injection h2 with h2; subst h2; exact absurd hn h3
  · omega
theorem RIns.fresh {l : List (Int × Int)} {i : Nat} {out : List (Int × Int)} {p : Int × Int} (h : RIns l i out) (hd : ∀ (a b : Nat) x, l[a]? = some x → l[b]? = some x → a = b) (hp : l[i]? = some p) : p ∉ out := fun hm => by
  obtain ⟨⟨j, h1, h2⟩, _⟩ := (h.2 p).1 hm
  have := hd j i p h2 hp
  omega
theorem RIns.put {l : List (Int × Int)} {i : Nat} {out : List (Int × Int)} {p : Int × Int} {a : Nat} (h : RIns l i out) (hd : ∀ (a b : Nat) x, l[a]? = some x → l[b]? = some x → a = b) (hp : l[i]? = some p) (hn : ¬ no2 p) (ha : a ≤ out.length)
    (hr : ∀ (t : Nat) q, a ≤ t → out[t]? = some q → ltP p q = true) (hl : a = 0 ∨ ∃ q, out[a - 1]? = some q ∧ ltP p q = false) : RIns l (i + 1) (out.take a ++ p :: out.drop a) := by
  refine ⟨h.1.insert (h.fresh hd hp) ha hr hl, fun q => mem_insert.trans ?_⟩
  constructor
  · rintro (rfl | hq)
    · exact ⟨⟨i, by omega, hp⟩, hn⟩
    · obtain ⟨⟨j, h1, h2⟩, h3⟩ := (h.2 q).1 hq
      exact ⟨⟨j, by omega, h2⟩, h3⟩
  · rintro ⟨⟨j, h1, h2⟩, h3⟩
    by_cases e : j = i
    · subst e; rw [hp] at h2; injection h2 with h2; exact .inl h2.symm
    · exact .inr ((h.2 q).2 ⟨⟨j, by omega, h2⟩, h3⟩)
section
variable {A B : Au} {k : Nat} {l : List (Int × Int)} {pa : List Nat}
theorem walk_mem (h : Bfs (sc2 A B) (fun _ => False) k (A.st, B.st) l pa (l.length * k)) (hk : 0 < k) (q : Int × Int) : (∃ j : Nat, l[j]? = some q) ↔ ∃ u, Let k u ∧ (A.run A.st u, B.run B.st u) = q := by
  constructor
  · rintro ⟨j, hj⟩
    obtain ⟨u, _, hu, e⟩ := h.word hk (j + 1) j q (by omega) hj
    exact ⟨u, hu, by rw [← e]; exact (fold2 (A := A) (B := B) u (A.st, B.st)).symm⟩
  · rintro ⟨u, hu, e⟩
    obtain ⟨j, v, hj, _, _⟩ := h.least hk (Nat.le_refl _) (fun _ _ _ hy => hy) u hu (fun h => h)
    rw [fold2] at hj
    exact ⟨j, by rw [← e]; exact hj⟩
theorem walk_rel (h : Bfs (sc2 A B) (fun _ => False) k (A.st, B.st) l pa (l.length * k)) (hk : 0 < k) {out : List (Int × Int)} (ho : RIns l l.length out) : IsRel A B k out := by
  refine ⟨ho.1, fun q => (ho.2 q).trans ⟨fun ⟨⟨j, _, h2⟩, h3⟩ => ⟨h3, (walk_mem h hk q).1 ⟨j, h2⟩⟩, fun ⟨h3, h2⟩ => ?_⟩⟩
  obtain ⟨j, hj⟩ := (walk_mem h hk q).2 h2
  exact ⟨⟨j, (List.getElem?_eq_some_iff.1 hj).1, hj⟩, h3⟩
theorem walk_same (h : Bfs (sc2 A B) (fun _ => False) k (A.st, B.st) l pa (l.length * k)) (hk : 0 < k) (he : ∀ (j : Nat) p, l[j]? = some p → A.acc p.1 = B.acc p.2) : SameL A B k := fun u hu => by
  obtain ⟨j, hj⟩ := (walk_mem h hk (A.run A.st u, B.run B.st u)).2 ⟨u, hu, rfl⟩
  exact he j _ hj
theorem walk_differ (h : Bfs (sc2 A B) (fun _ => False) k (A.st, B.st) l pa (l.length * k)) (hk : 0 < k) {j : Nat} {p : Int × Int} (hp : l[j]? = some p) (he : A.acc p.1 ≠ B.acc p.2) : ¬ SameL A B k := fun g => by
  obtain ⟨u, hu, e⟩ := (walk_mem h hk p).1 ⟨j, hp⟩
  apply he
  have := g u hu
  rw [← e]
  exact this
end
theorem pair_nil {W w : World} {l : List Itm} {i n c : Nat} {L : List (Int × Int)} {T : TypeId} (h : Hp W l w) (hi : l[i]? = some (prow T none n c L)) : n = 0 ∧ c = 0 := by
  have ho := h.own i _ hi
  rcases ho.2 with ⟨e, _⟩ | ⟨g', cap, cur, e, _⟩
  · cases e; exact ⟨rfl, rfl⟩
  · cases e
theorem pcells_take (L : List (Int × Int)) (a : Nat) : pcells (L.take a) = (pcells L).take (a * 2) := by
  induction L generalizing a with
  | nil => simp [pcells]
  | cons p L ih =>
    cases a with
    | zero => simp [pcells]
    | succ a =>
      have := ih a
      unfold pcells at *
      rw [List.take_succ_cons, List.flatMap_cons, List.flatMap_cons, this, show (a + 1) * 2 = a * 2 + 1 + 1 by omega]
      rfl
theorem pcells_drop (L : List (Int × Int)) (a : Nat) : pcells (L.drop a) = (pcells L).drop (a * 2) := by
  induction L generalizing a with
  | nil => simp [pcells]
  | cons p L ih =>
    cases a with
    | zero => simp [pcells]
    | succ a =>
      have := ih a
      unfold pcells at *
      rw [List.drop_succ_cons, List.flatMap_cons, this, show (a + 1) * 2 = a * 2 + 1 + 1 by omega]
      rfl
theorem Hp.pair_cut {W w : World} {l : List Itm} {i n c a : Nat} {T : TypeId} {A : Option Addr} {L : List (Int × Int)} (h : Hp W l w) (hi : l[i]? = some (prow T A n c L)) (ha : a ≤ n) : Hp W (l.set i (prow T A a c (L.take a))) w := by
  have ho := h.own i _ hi
  have hl := h.pair_len hi
  refine h.upd hi (prow T A a c (L.take a)) ⟨rfl, rfl, rfl, Nat.le_refl _, fun k hk _ => rfl⟩ ⟨by show (pcells (L.take a)).length = a * 2; rw [pcells_len, List.length_take]; omega, ?_⟩ (fun k hk => .inl (by cases A <;> exact hk))
  rcases ho.2 with ⟨e, _⟩ | ⟨g', cap, cur, e, h1, h2, h3, h4, h5, h6⟩
  · cases e
    obtain rfl : a = 0 := by omega
    exact .inl ⟨rfl, by simp [prow, pcells]⟩
  · cases e
    refine .inr ⟨g', c, cur, rfl, h1, h2, ?_, h4, h5, ?_⟩
    · show a ≤ c
      have : n ≤ c := h3
      omega
    · show cur.toList.take (a * 2) = pcells (L.take a)
      have h6' : cur.toList.take (n * 2) = pcells L := h6
      rw [pcells_take, ← h6', List.take_take, Nat.min_eq_left (Nat.mul_le_mul_right 2 ha)]
theorem run_cat_pairs {W w : World} {l : List Itm} {i : Nat} {A : Option Addr} {n c : Nat} {L : List (Int × Int)} (h : Hp W l w) (hi : l[i]? = some (prow 35 A n c L)) (ty : TypeId) {B : Option Addr} {m d : Nat} (X : List (Int × Int)) (hX : X.length = m) (hc : CellsIn w B (pcells X)) (hn : n ≤ 2000000000000) (hm : m ≤ 2000000000000) :
    ∃ A2 c2 w', (Builtin.append_ #[28, 28] ty #[.slice A n c, .slice B m d]).run Try.prog w = .ok (.slice A2 (n + m) c2) w' ∧ Hp W (l.set i (prow 35 A2 (n + m) c2 (L ++ X))) w' ∧ w.grownBy w' (Value.slice A n c).ownBlock := by
  have := run_cat h hi (t := 28) ty Try.underlying28 pair_info rfl (show 0 < 2 by decide) (by decide) (A := A) (c := c) rfl (B := B) (m := m) (d := d) (pcells X) (by rw [pcells_len, hX]; rfl) hc (pcells_one X) hn hm
  simpa [prow, pcells] using this
/-- xs[:a], p, xs[a:], put together: two appends. -/
theorem run_insert {W w : World} {R : List Itm} {g n c a : Nat} {L : List (Int × Int)} (p : Int × Int) (h : Hp W (prow 35 (some ⟨g, 0, none⟩) n c L :: R) w) (ha : a ≤ n) (hn : n ≤ 2000000) (d : Nat) (B0 : Option Addr) (hB0 : B0 = some ⟨g, a * 2, none⟩ ∨ a = n) {w1 : World} (hw1 : w1 = w.alloc (.cells #[.int .i64 p.1, .int .i64 p.2] 35)) :
    ∃ A2 c2 w2 A3 c3 w3, (Builtin.append_ #[28, 28] 28 #[.slice (some ⟨w.heap.size, 0, none⟩) 1 1, .slice B0 (n - a) d]).run Try.prog w1 = .ok (.slice A2 (1 + (n - a)) c2) w2 ∧
      (Builtin.append_ #[28, 28] 28 #[.slice (some ⟨g, 0, none⟩) a c, .slice A2 (1 + (n - a)) c2]).run Try.prog w2 = .ok (.slice A3 (n + 1) c3) w3 ∧
      Hp W (prow 35 A2 (1 + (n - a)) c2 ([p] ++ L.drop a) :: prow 35 (some ⟨g, 0, none⟩) a c (L.take a) :: R) w2 ∧
      Hp W (prow 35 A3 (n + 1) c3 (L.take a ++ p :: L.drop a) :: R) w3 := by
  subst hw1
  have hlen := h.pair_len (i := 0) rfl
  have hcl := h.cells (i := 0) (A := some ⟨g, 0, none⟩) (c := c) rfl rfl
  have h1 := h.litm 35 2 1 [.int .i64 p.1, .int .i64 p.2] rfl (by omega)
  have h1' : Hp W (prow 35 (some ⟨w.heap.size, 0, none⟩) 1 1 [p] :: prow 35 (some ⟨g, 0, none⟩) n c L :: R) (w.alloc (.cells #[.int .i64 p.1, .int .i64 p.2] 35)) := by simpa [prow, pcells] using h1
  obtain ⟨A2, c2, w2, hr2, hv2, hg2⟩ := run_cat_pairs h1' (i := 0) rfl 28 (B := B0) (m := n - a) (d := d) (L.drop a) (by rw [List.length_drop]; omega) (by
    intro h0
    have hB1 : B0 = some ⟨g, a * 2, none⟩ := hB0.resolve_right (fun e => by rw [pcells_len, List.length_drop] at h0; omega)
    subst hB1
    rw [pcells_drop] at h0 ⊢
    have hc2 := hcl.below (bnew w (.cells #[.int .i64 p.1, .int .i64 p.2] 35))
    obtain ⟨b, off, e, hb, hc⟩ := hc2 (by rw [List.length_drop] at h0; show 0 < (pcells L).length; omega)
    cases e
    refine ⟨g, a * 2, rfl, hb, fun j u hu => ?_⟩
    rw [List.getElem?_drop] at hu
    have := hc (a * 2 + j) u hu
    rwa [Nat.zero_add] at this) (by omega) (by omega)
  have hv2' : Hp W (prow 35 A2 (1 + (n - a)) c2 ([p] ++ L.drop a) :: prow 35 (some ⟨g, 0, none⟩) n c L :: R) w2 := hv2
  have hv3 := hv2'.pair_cut (i := 1) rfl ha
  have hv3' : Hp W (prow 35 A2 (1 + (n - a)) c2 ([p] ++ L.drop a) :: prow 35 (some ⟨g, 0, none⟩) a c (L.take a) :: R) w2 := hv3
  obtain ⟨A3, c3, w3, hr3, hv4, hg3⟩ := run_cat_pairs hv3' (i := 1) rfl 28 (B := A2) (m := 1 + (n - a)) (d := c2) ([p] ++ L.drop a) (hv3'.pair_len (i := 0) rfl) (hv3'.cells (i := 0) (A := A2) (c := c2) rfl rfl) (by omega) (by omega)
  have hv5 : Hp W (prow 35 A2 (1 + (n - a)) c2 ([p] ++ L.drop a) :: prow 35 A3 (a + (1 + (n - a))) c3 (L.take a ++ ([p] ++ L.drop a)) :: R) w3 := hv4
  have hv6 := hv5.tail
  rw [show a + (1 + (n - a)) = n + 1 by omega] at hv6 hr3
  exact ⟨A2, c2, w2, A3, c3, w3, hr2, hr3, hv3', hv6⟩
theorem run_insert0 {W w : World} {R : List Itm} (p : Int × Int) (h : Hp W (prow 35 none 0 0 [] :: R) w) {w1 : World} (hw1 : w1 = w.alloc (.cells #[.int .i64 p.1, .int .i64 p.2] 35)) :
    ∃ A2 c2 w2 A3 c3 w3, (Builtin.append_ #[28, 28] 28 #[.slice (some ⟨w.heap.size, 0, none⟩) 1 1, .slice none 0 0]).run Try.prog w1 = .ok (.slice A2 1 c2) w2 ∧
      (Builtin.append_ #[28, 28] 28 #[.slice none 0 0, .slice A2 1 c2]).run Try.prog w2 = .ok (.slice A3 1 c3) w3 ∧
      Hp W (prow 35 A2 1 c2 [p] :: prow 35 none 0 0 [] :: R) w2 ∧ Hp W (prow 35 A3 1 c3 [p] :: R) w3 := by
  subst hw1
  have h1 := h.litm 35 2 1 [.int .i64 p.1, .int .i64 p.2] rfl (by omega)
  have h1' : Hp W (prow 35 (some ⟨w.heap.size, 0, none⟩) 1 1 [p] :: prow 35 none 0 0 [] :: R) (w.alloc (.cells #[.int .i64 p.1, .int .i64 p.2] 35)) := by simpa [prow, pcells] using h1
  obtain ⟨A2, c2, w2, hr2, hv2, hg2⟩ := run_cat_pairs h1' (i := 0) rfl 28 (B := none) (m := 0) (d := 0) [] rfl (fun h0 => by simp [pcells] at h0) (by omega) (by omega)
  have hv3' : Hp W (prow 35 A2 1 c2 [p] :: prow 35 none 0 0 [] :: R) w2 := hv2
  obtain ⟨A3, c3, w3, hr3, hv4, hg3⟩ := run_cat_pairs hv3' (i := 1) rfl 28 (B := A2) (m := 1) (d := c2) [p] rfl (hv3'.cells (i := 0) (A := A2) (c := c2) rfl rfl) (by omega) (by omega)
  have hv5 : Hp W (prow 35 A2 1 c2 [p] :: prow 35 A3 1 c3 [p] :: R) w3 := hv4
  exact ⟨A2, c2, w2, A3, c3, w3, hr2, hr3, hv3', hv5.tail⟩
theorem pair_some {W w : World} {l : List Itm} {i n c : Nat} {L : List (Int × Int)} {T : TypeId} {q : Addr} (h : Hp W l w) (hi : l[i]? = some (prow T (some q) n c L)) : ∃ g, q = ⟨g, 0, none⟩ ∧ n ≤ c := by
  have ho := h.own i _ hi
  rcases ho.2 with ⟨e, _⟩ | ⟨g', cap, cur, e, h1, h2, h3, h4, h5, h6⟩
  · cases e
  · cases e; exact ⟨g', rfl, h3⟩
set_option maxHeartbeats 32000000 in
theorem rrelation_any (x y : DV) (A B : Au) (W : World) (hA : DfaIn W x A) (hB : DfaIn W y B) :
    Calls Try.prog 8 #[dval x A, dval y B] W (RelPost A B W) := by
  have HA := Lib.hid hA
  have HB := Lib.hid hB
  clear hA hB
  obtain ⟨wz, hwz⟩ : ∃ z, z = ((W.alloc (.cells #[.int .i64 A.lt, .int .i64 A.st, .slice x.A x.n x.c, .slice x.B x.m x.d] 25)).alloc (.cells #[.int .i64 B.lt, .int .i64 B.st, .slice y.A y.n y.c, .slice y.B y.m y.d] 25)) := ⟨_, rfl⟩
  have V := Lib.hid (show Hp W [box 25 (W.heap.size + 1) [.int .i64 B.lt, .int .i64 B.st, .slice y.A y.n y.c, .slice y.B y.m y.d], box 25 W.heap.size [.int .i64 A.lt, .int .i64 A.st, .slice x.A x.n x.c, .slice x.B x.m x.d]] wz by
    have := (((Hp.start W).box_new 25 [.int .i64 A.lt, .int .i64 A.st, .slice x.A x.n x.c, .slice x.B x.m x.d]).box_new 25 [.int .i64 B.lt, .int .i64 B.st, .slice y.A y.n y.c, .slice y.B y.m y.d])
    rw [hwz]; simpa using this)
  have HZ := Lib.hid hwz
  clear hwz
  by_cases hp : Au.pE A B = 0
  case neg =>
    have hp1 : Au.pE A B = 1 := by rcases Au.pE_cases A B with e | e; exact absurd e hp; exact e
    have HE := Lib.hid hp1
    clear hp1 hp
    go_enter Try.func8, Try.ntmps8
    go_upto_region 1 with fail
    rw [← HZ.out]
    clear HZ
    obtain ⟨r0_0, _, r0_9⟩ := V.out.box_at (i := 0) (j := 0) rfl rfl
    obtain ⟨r0_1, _, _⟩ := V.out.box_at (i := 0) (j := 1) rfl rfl
    obtain ⟨r0_2, _, _⟩ := V.out.box_at (i := 0) (j := 2) rfl rfl
    obtain ⟨r0_3, _, _⟩ := V.out.box_at (i := 0) (j := 3) rfl rfl
    obtain ⟨r1_0, _, r1_9⟩ := V.out.box_at (i := 1) (j := 0) rfl rfl
    obtain ⟨r1_1, _, _⟩ := V.out.box_at (i := 1) (j := 1) rfl rfl
    obtain ⟨r1_2, _, _⟩ := V.out.box_at (i := 1) (j := 2) rfl rfl
    obtain ⟨r1_3, _, _⟩ := V.out.box_at (i := 1) (j := 3) rfl rfl
    go_wp2_with fail
    refine (rboth_any x y A B wz (HA.out.below V.out.below) (HB.out.below V.out.below)).mono ?_
    rintro e w1 ⟨rfl, b1⟩
    have V1 := Lib.hid (V.out.go b1)
    rw [HE.out]
    clear b1 V r0_9 r0_0 r0_1 r0_2 r0_3 r1_9 r1_0 r1_1 r1_2 r1_3
    have HP := Lib.hid (show RelPost A B W (.returned (.tuple #[.slice none 0 0, .int .i64 1])) w1 from ⟨V1.out.below, .inl ⟨HE.out, rfl⟩⟩)
    go_wp2_with fail
    go_ret2
    exact HP.out
  have HE := Lib.hid hp
  obtain ⟨k, hka, hkb⟩ := Au.pE_ok hp
  have HKA := Lib.hid hka
  have HKB := Lib.hid hkb
  have hk0 := hka.right.pos
  have hk8 := hka.k8
  clear hp hka hkb
  go_enter Try.func8, Try.ntmps8
  go_upto_region 1 with fail
  rw [← HZ.out]
  clear HZ
  obtain ⟨r0_0, _, r0_9⟩ := V.out.box_at (i := 0) (j := 0) rfl rfl
  obtain ⟨r0_1, _, _⟩ := V.out.box_at (i := 0) (j := 1) rfl rfl
  obtain ⟨r0_2, _, _⟩ := V.out.box_at (i := 0) (j := 2) rfl rfl
  obtain ⟨r0_3, _, _⟩ := V.out.box_at (i := 0) (j := 3) rfl rfl
  obtain ⟨r1_0, _, r1_9⟩ := V.out.box_at (i := 1) (j := 0) rfl rfl
  obtain ⟨r1_1, _, _⟩ := V.out.box_at (i := 1) (j := 1) rfl rfl
  obtain ⟨r1_2, _, _⟩ := V.out.box_at (i := 1) (j := 2) rfl rfl
  obtain ⟨r1_3, _, _⟩ := V.out.box_at (i := 1) (j := 3) rfl rfl
  go_wp2_with fail
  refine (rboth_any x y A B wz (HA.out.below V.out.below) (HB.out.below V.out.below)).mono ?_
  rintro e w1 ⟨rfl, b1⟩
  have V1 := Lib.hid (V.out.go b1)
  rw [HE.out]
  clear b1 V r0_9 r0_0 r0_1 r0_2 r0_3 r1_9 r1_0 r1_1 r1_2 r1_3
  obtain ⟨r0_0, _, r0_9⟩ := V1.out.box_at (i := 0) (j := 0) rfl rfl
  obtain ⟨r0_1, _, _⟩ := V1.out.box_at (i := 0) (j := 1) rfl rfl
  obtain ⟨r0_2, _, _⟩ := V1.out.box_at (i := 0) (j := 2) rfl rfl
  obtain ⟨r0_3, _, _⟩ := V1.out.box_at (i := 0) (j := 3) rfl rfl
  obtain ⟨r1_0, _, r1_9⟩ := V1.out.box_at (i := 1) (j := 0) rfl rfl
  obtain ⟨r1_1, _, _⟩ := V1.out.box_at (i := 1) (j := 1) rfl rfl
  obtain ⟨r1_2, _, _⟩ := V1.out.box_at (i := 1) (j := 2) rfl rfl
  obtain ⟨r1_3, _, _⟩ := V1.out.box_at (i := 1) (j := 3) rfl rfl
  go_wp2_with fail
  refine (walk_any x y A B k w1 (HKA.out.good (HA.out.below V1.out.below)) (HKB.out.good (HB.out.below V1.out.below))).mono ?_
  rintro e w2 ⟨l, pa, F, g, n, c, rfl, hb, hF, hI, hv2⟩
  have HB2 := Lib.hid hb
  have HF := Lib.hid hF
  have HI := Lib.hid hI
  have V2 := Lib.hid (show Hp W [frow (some ⟨g, 0, none⟩) n c F, box 25 (W.heap.size + 1) [.int .i64 B.lt, .int .i64 B.st, .slice y.A y.n y.c, .slice y.B y.m y.d], box 25 W.heap.size [.int .i64 A.lt, .int .i64 A.st, .slice x.A x.n x.c, .slice x.B x.m x.d]] w2 from V1.out.join hv2)
  have hn : l.length = n := by have h1 := hF.len; have h2 := V2.out.found_len (i := 0) rfl; omega
  have hnb : n ≤ 1002001 := by
    have h1 := few2 hI hb.nd
    have h3 := Nat.mul_le_mul (show A.n + 1 ≤ 1001 by have := HKA.out.few; omega) (show B.n + 1 ≤ 1001 by have := HKB.out.few; omega)
    omega
  clear hb hF hI hv2 V1 r0_9 r0_0 r0_1 r0_2 r0_3 r1_9 r1_0 r1_1 r1_2 r1_3
  have HN := Lib.hid hn
  clear hn
  have V3 := Lib.hid (show Hp W [prow 35 none 0 0 [], frow (some ⟨g, 0, none⟩) n c F, box 25 (W.heap.size + 1) [.int .i64 B.lt, .int .i64 B.st, .slice y.A y.n y.c, .slice y.B y.m y.d], box 25 W.heap.size [.int .i64 A.lt, .int .i64 A.st, .slice x.A x.n x.c, .slice x.B x.m x.d]] _ from V2.out.nil_row (prow 35 none 0 0 []) rfl rfl rfl)
  clear V2
  go_wp2_with fail
  have V0 := Lib.hid (show ∀ (j : Nat) p, j < 0 → l[j]? = some p → A.acc p.1 = B.acc p.2 from fun j p h => absurd h (Nat.not_lt_zero _))
  go_loopw [8, 9] (fun ov iv wr => ∃ i : Nat, iv = .int .i64 (i : Int) ∧ ∃ (G1 : Option Addr) (n1 c1 : Nat) (out : List (Int × Int)), ov = .slice G1 n1 c1 ∧ i ≤ n ∧ n1 ≤ i ∧ (∀ (j : Nat) p, j < i → l[j]? = some p → A.acc p.1 = B.acc p.2) ∧ RIns l i out ∧ Hp W [prow 35 G1 n1 c1 out, frow (some ⟨g, 0, none⟩) n c F, box 25 (W.heap.size + 1) [.int .i64 B.lt, .int .i64 B.st, .slice y.A y.n y.c, .slice y.B y.m y.d], box 25 W.heap.size [.int .i64 A.lt, .int .i64 A.st, .slice x.A x.n x.c, .slice x.B x.m x.d]] wr) (fun _ iv _ => n - (intOf iv).toNat)
  case atStart => exact ⟨0, rfl, none, 0, 0, [], rfl, Nat.zero_le _, Nat.le_refl _, V0.out, RIns.start l, V3.out⟩
  case round =>
    clear V3 V0
    obtain ⟨i, rfl, G1, n1, c1, out, rfl, hin, hn1, hno, hri, hV⟩ := hrel
    obtain ⟨wi, rfl⟩ : ∃ wi : World, wi = wr := ⟨_, rfl⟩
    have V := Lib.hid hV
    have HNO := Lib.hid hno
    have HRI := Lib.hid hri
    clear hV hno hri
    by_cases hlt : i < n
    · obtain ⟨⟨p1, p2⟩, hp⟩ : ∃ p, l[i]? = some p := ⟨_, List.getElem?_eq_getElem (by have := HN.out; omega)⟩
      obtain ⟨f, t', hfi, _, _⟩ := HF.out.at' i _ hp
      have HPI := Lib.hid hp
      have HIN := Lib.hid (show (-1 ≤ p1 ∧ p1 < A.n) ∧ -1 ≤ p2 ∧ p2 < B.n from HI.out i _ hp)
      obtain ⟨hc1, hc2, _, _, hc9⟩ := V.out.found_at (i := 1) rfl hfi
      obtain ⟨wx, hwx⟩ : ∃ z, z = wi.alloc (.cells #[.int .i64 p1, .int .i64 p2] 35) := ⟨_, rfl⟩
      have VX := Lib.hid (show Hp W [box 35 wi.heap.size [.int .i64 p1, .int .i64 p2], prow 35 G1 n1 c1 out, frow (some ⟨g, 0, none⟩) n c F, box 25 (W.heap.size + 1) [.int .i64 B.lt, .int .i64 B.st, .slice y.A y.n y.c, .slice y.B y.m y.d], box 25 W.heap.size [.int .i64 A.lt, .int .i64 A.st, .slice x.A x.n x.c, .slice x.B x.m x.d]] wx by rw [hwx]; exact V.out.box_new 35 [.int .i64 p1, .int .i64 p2])
      have HWX := Lib.hid hwx
      obtain ⟨va, hva⟩ : ∃ o, o = A.acc p1 := ⟨_, rfl⟩
      obtain ⟨vb, hvb⟩ : ∃ o, o = B.acc p2 := ⟨_, rfl⟩
      have SA := Lib.hid hva.symm
      have SB := Lib.hid hvb.symm
      clear hfi hp hwx hva hvb V
      go_upto_region 10 with fail
      rw [← HWX.out]
      clear HWX hc1 hc2 hc9
      by_cases he : va = vb
      case neg =>
        have he2 : (va == vb) = false := by cases va <;> cases vb <;> first | rfl | exact absurd rfl he
        have he3 : (va != vb) = true := by cases va <;> cases vb <;> first | rfl | exact absurd rfl he
        have HD := Lib.hid (walk_differ HB2.out hk0 HPI.out (show ¬ A.acc p1 = B.acc p2 by rw [SA.out, SB.out]; exact he))
        clear he
        have hKp : Keep [(⟨wi.heap.size, 0, none⟩, .int .i64 p1), (⟨wi.heap.size, 1, none⟩, .int .i64 p2), (⟨W.heap.size, 0, none⟩, .int .i64 A.lt), (⟨W.heap.size, 1, none⟩, .int .i64 A.st), (⟨W.heap.size, 2, none⟩, .slice x.A x.n x.c), (⟨W.heap.size, 3, none⟩, .slice x.B x.m x.d), (⟨W.heap.size + 1, 0, none⟩, .int .i64 B.lt), (⟨W.heap.size + 1, 1, none⟩, .int .i64 B.st), (⟨W.heap.size + 1, 2, none⟩, .slice y.A y.n y.c), (⟨W.heap.size + 1, 3, none⟩, .slice y.B y.m y.d)] wx := fm ⟨⟨(VX.out.box_at (i := 0) (j := 0) rfl rfl).1, (VX.out.box_at (i := 0) (j := 0) rfl rfl).2.2⟩, fm ⟨⟨(VX.out.box_at (i := 0) (j := 1) rfl rfl).1, (VX.out.box_at (i := 0) (j := 1) rfl rfl).2.2⟩, fm ⟨⟨(VX.out.box_at (i := 4) (j := 0) rfl rfl).1, (VX.out.box_at (i := 4) (j := 0) rfl rfl).2.2⟩, fm ⟨⟨(VX.out.box_at (i := 4) (j := 1) rfl rfl).1, (VX.out.box_at (i := 4) (j := 1) rfl rfl).2.2⟩, fm ⟨⟨(VX.out.box_at (i := 4) (j := 2) rfl rfl).1, (VX.out.box_at (i := 4) (j := 2) rfl rfl).2.2⟩, fm ⟨⟨(VX.out.box_at (i := 4) (j := 3) rfl rfl).1, (VX.out.box_at (i := 4) (j := 3) rfl rfl).2.2⟩, fm ⟨⟨(VX.out.box_at (i := 3) (j := 0) rfl rfl).1, (VX.out.box_at (i := 3) (j := 0) rfl rfl).2.2⟩, fm ⟨⟨(VX.out.box_at (i := 3) (j := 1) rfl rfl).1, (VX.out.box_at (i := 3) (j := 1) rfl rfl).2.2⟩, fm ⟨⟨(VX.out.box_at (i := 3) (j := 2) rfl rfl).1, (VX.out.box_at (i := 3) (j := 2) rfl rfl).2.2⟩, fm ⟨⟨(VX.out.box_at (i := 3) (j := 3) rfl rfl).1, (VX.out.box_at (i := 3) (j := 3) rfl rfl).2.2⟩, fun _ h => by simp at h⟩⟩⟩⟩⟩⟩⟩⟩⟩⟩
        refine wp_region_held_drew (S := Keep _) (by kernel_rfl) hKp.drew (fun hHeld => ?_)
        have VXd := Lib.hid (VX.out.go (bdrew _))
        refine tk 0 ?_ rfl ?_ ?_; rotate_left
        · intro wl hSw
          have hSw : Keep _ wl := hSw
          have k0 : wl.cell? ⟨W.heap.size, 0, none⟩ = some (.int .i64 A.lt) := (hSw _ (.tail _ (.tail _ (.head _)))).1
          have k1 : wl.cell? ⟨W.heap.size, 1, none⟩ = some (.int .i64 A.st) := (hSw _ (.tail _ (.tail _ (.tail _ (.head _))))).1
          have k2 : wl.cell? ⟨W.heap.size, 2, none⟩ = some (.slice x.A x.n x.c) := (hSw _ (.tail _ (.tail _ (.tail _ (.tail _ (.head _)))))).1
          have k3 : wl.cell? ⟨W.heap.size, 3, none⟩ = some (.slice x.B x.m x.d) := (hSw _ (.tail _ (.tail _ (.tail _ (.tail _ (.tail _ (.head _))))))).1
          clear hSw
          go_simp
          try (with_reducible rfl)
        try simp only [Act.put, sA, sZ, sS]
        refine tk 1 ?_ rfl ?_ ?_; rotate_left; focus (intro w hSw; clear hSw; go_simp; try (with_reducible rfl))
        try simp only [Act.put, sA, sZ, sS]
        refine tk 2 ?_ rfl ?_ ?_; rotate_left
        · intro wl hSw
          have hSw : Keep _ wl := hSw
          have k0 : wl.cell? ⟨wi.heap.size, 0, none⟩ = some (.int .i64 p1) := (hSw _ (.head _)).1
          clear hSw
          go_simp
          try (with_reducible rfl)
        try simp only [Act.put, sA, sZ, sS]
        refine tk 4 ?_ rfl ?_ ?_; rotate_left
        · intro wl hSw
          have hSw : Keep _ wl := hSw
          have k0 : wl.cell? ⟨W.heap.size + 1, 0, none⟩ = some (.int .i64 B.lt) := (hSw _ (.tail _ (.tail _ (.tail _ (.tail _ (.tail _ (.tail _ (.head _)))))))).1
          have k1 : wl.cell? ⟨W.heap.size + 1, 1, none⟩ = some (.int .i64 B.st) := (hSw _ (.tail _ (.tail _ (.tail _ (.tail _ (.tail _ (.tail _ (.tail _ (.head _))))))))).1
          have k2 : wl.cell? ⟨W.heap.size + 1, 2, none⟩ = some (.slice y.A y.n y.c) := (hSw _ (.tail _ (.tail _ (.tail _ (.tail _ (.tail _ (.tail _ (.tail _ (.tail _ (.head _)))))))))).1
          have k3 : wl.cell? ⟨W.heap.size + 1, 3, none⟩ = some (.slice y.B y.m y.d) := (hSw _ (.tail _ (.tail _ (.tail _ (.tail _ (.tail _ (.tail _ (.tail _ (.tail _ (.tail _ (.head _))))))))))).1
          clear hSw
          go_simp
          try (with_reducible rfl)
        try simp only [Act.put, sA, sZ, sS]
        refine tk 5 ?_ rfl ?_ ?_; rotate_left; focus (intro w hSw; clear hSw; go_simp; try (with_reducible rfl))
        try simp only [Act.put, sA, sZ, sS]
        refine tk 6 ?_ rfl ?_ ?_; rotate_left
        · intro wl hSw
          have hSw : Keep _ wl := hSw
          have k0 : wl.cell? ⟨wi.heap.size, 1, none⟩ = some (.int .i64 p2) := (hSw _ (.tail _ (.head _))).1
          clear hSw
          go_simp
          try (with_reducible rfl)
        try simp only [Act.put, sA, sZ, sS]
        refine wpAnyH_ready (rs := [3]) (by kernel_rfl) (by simp) ?_
        refine AllReadyH.cons (List.getElem?_toArray.trans rfl) (fun K hK => ?_) AllReadyH.nil
        go_simp
        refine (raccepting_any x A p1 _ (HA.out.below VXd.out.below) (by have := HIN.out.1.2; have := HKA.out.right.acl; unfold Au.n at *; omega) (by have := HKA.out.right.acl; have := HKA.out.few; unfold Au.n at *; omega)).mono ?_
        rintro e w_3 ⟨rfl, b_3⟩
        try go_wp2_with fail
        rw [SA.out]
        have V_3 := Lib.hid (VXd.out.go b_3)
        refine hK.out _ _ (hHeld.go b_3) (fun hHeld => ?_)
        clear hK K
        try simp only [Act.put, sA, sZ, sS]
        refine wpAnyH_ready (rs := [7]) (by kernel_rfl) (by simp) ?_
        refine AllReadyH.cons (List.getElem?_toArray.trans rfl) (fun K hK => ?_) AllReadyH.nil
        go_simp
        refine (raccepting_any y B p2 _ (HB.out.below V_3.out.below) (by have := HIN.out.2.2; have := HKB.out.right.acl; unfold Au.n at *; omega) (by have := HKB.out.right.acl; have := HKB.out.few; unfold Au.n at *; omega)).mono ?_
        rintro e w_3_7 ⟨rfl, b_3_7⟩
        try go_wp2_with fail
        rw [SB.out]
        have V_3_7 := Lib.hid (V_3.out.go b_3_7)
        refine hK.out _ _ (hHeld.go b_3_7) (fun hHeld => ?_)
        clear hK K
        try simp only [Act.put, sA, sZ, sS]
        refine tk 8 ?_ rfl ?_ ?_; rotate_left; focus (intro w hSw; clear hSw; go_simp; try (with_reducible rfl))
        try simp only [Act.put, sA, sZ, sS]
        refine wpAnyH_done (by kernel_rfl) ?_ _
        have HP := Lib.hid (show RelPost A B W (.returned (.tuple #[.slice none 0 0, .int .i64 12])) w_3_7 from ⟨V_3_7.out.below, .inr ⟨k, HKA.out, HKB.out, .inl ⟨HD.out, rfl⟩⟩⟩)
        go_wp2_with fail
        go_ret2
        exact HP.out
      have he2 : (va == vb) = true := by rw [he]; simp
      have he3 : (va != vb) = false := by rw [he]; simp
      have HE2 := Lib.hid (show ∀ (j : Nat) p, j < i + 1 → l[j]? = some p → A.acc p.1 = B.acc p.2 from fun j p hj hp => by
        by_cases e : j = i
        · subst e
          rw [HPI.out] at hp
          injection hp with hp
          rw [← hp]
          exact SA.out.trans (he.trans SB.out.symm)
        · exact HNO.out j p (by omega) hp)
      clear he HNO
      have hKp : Keep [(⟨wi.heap.size, 0, none⟩, .int .i64 p1), (⟨wi.heap.size, 1, none⟩, .int .i64 p2), (⟨W.heap.size, 0, none⟩, .int .i64 A.lt), (⟨W.heap.size, 1, none⟩, .int .i64 A.st), (⟨W.heap.size, 2, none⟩, .slice x.A x.n x.c), (⟨W.heap.size, 3, none⟩, .slice x.B x.m x.d), (⟨W.heap.size + 1, 0, none⟩, .int .i64 B.lt), (⟨W.heap.size + 1, 1, none⟩, .int .i64 B.st), (⟨W.heap.size + 1, 2, none⟩, .slice y.A y.n y.c), (⟨W.heap.size + 1, 3, none⟩, .slice y.B y.m y.d)] wx := fm ⟨⟨(VX.out.box_at (i := 0) (j := 0) rfl rfl).1, (VX.out.box_at (i := 0) (j := 0) rfl rfl).2.2⟩, fm ⟨⟨(VX.out.box_at (i := 0) (j := 1) rfl rfl).1, (VX.out.box_at (i := 0) (j := 1) rfl rfl).2.2⟩, fm ⟨⟨(VX.out.box_at (i := 4) (j := 0) rfl rfl).1, (VX.out.box_at (i := 4) (j := 0) rfl rfl).2.2⟩, fm ⟨⟨(VX.out.box_at (i := 4) (j := 1) rfl rfl).1, (VX.out.box_at (i := 4) (j := 1) rfl rfl).2.2⟩, fm ⟨⟨(VX.out.box_at (i := 4) (j := 2) rfl rfl).1, (VX.out.box_at (i := 4) (j := 2) rfl rfl).2.2⟩, fm ⟨⟨(VX.out.box_at (i := 4) (j := 3) rfl rfl).1, (VX.out.box_at (i := 4) (j := 3) rfl rfl).2.2⟩, fm ⟨⟨(VX.out.box_at (i := 3) (j := 0) rfl rfl).1, (VX.out.box_at (i := 3) (j := 0) rfl rfl).2.2⟩, fm ⟨⟨(VX.out.box_at (i := 3) (j := 1) rfl rfl).1, (VX.out.box_at (i := 3) (j := 1) rfl rfl).2.2⟩, fm ⟨⟨(VX.out.box_at (i := 3) (j := 2) rfl rfl).1, (VX.out.box_at (i := 3) (j := 2) rfl rfl).2.2⟩, fm ⟨⟨(VX.out.box_at (i := 3) (j := 3) rfl rfl).1, (VX.out.box_at (i := 3) (j := 3) rfl rfl).2.2⟩, fun _ h => by simp at h⟩⟩⟩⟩⟩⟩⟩⟩⟩⟩
      refine wp_region_held_drew (S := Keep _) (by kernel_rfl) hKp.drew (fun hHeld => ?_)
      have VXd := Lib.hid (VX.out.go (bdrew _))
      refine tk 0 ?_ rfl ?_ ?_; rotate_left
      · intro wl hSw
        have hSw : Keep _ wl := hSw
        have k0 : wl.cell? ⟨W.heap.size, 0, none⟩ = some (.int .i64 A.lt) := (hSw _ (.tail _ (.tail _ (.head _)))).1
        have k1 : wl.cell? ⟨W.heap.size, 1, none⟩ = some (.int .i64 A.st) := (hSw _ (.tail _ (.tail _ (.tail _ (.head _))))).1
        have k2 : wl.cell? ⟨W.heap.size, 2, none⟩ = some (.slice x.A x.n x.c) := (hSw _ (.tail _ (.tail _ (.tail _ (.tail _ (.head _)))))).1
        have k3 : wl.cell? ⟨W.heap.size, 3, none⟩ = some (.slice x.B x.m x.d) := (hSw _ (.tail _ (.tail _ (.tail _ (.tail _ (.tail _ (.head _))))))).1
        clear hSw
        go_simp
        try (with_reducible rfl)
      try simp only [Act.put, sA, sZ, sS]
      refine tk 1 ?_ rfl ?_ ?_; rotate_left; focus (intro w hSw; clear hSw; go_simp; try (with_reducible rfl))
      try simp only [Act.put, sA, sZ, sS]
      refine tk 2 ?_ rfl ?_ ?_; rotate_left
      · intro wl hSw
        have hSw : Keep _ wl := hSw
        have k0 : wl.cell? ⟨wi.heap.size, 0, none⟩ = some (.int .i64 p1) := (hSw _ (.head _)).1
        clear hSw
        go_simp
        try (with_reducible rfl)
      try simp only [Act.put, sA, sZ, sS]
      refine tk 4 ?_ rfl ?_ ?_; rotate_left
      · intro wl hSw
        have hSw : Keep _ wl := hSw
        have k0 : wl.cell? ⟨W.heap.size + 1, 0, none⟩ = some (.int .i64 B.lt) := (hSw _ (.tail _ (.tail _ (.tail _ (.tail _ (.tail _ (.tail _ (.head _)))))))).1
        have k1 : wl.cell? ⟨W.heap.size + 1, 1, none⟩ = some (.int .i64 B.st) := (hSw _ (.tail _ (.tail _ (.tail _ (.tail _ (.tail _ (.tail _ (.tail _ (.head _))))))))).1
        have k2 : wl.cell? ⟨W.heap.size + 1, 2, none⟩ = some (.slice y.A y.n y.c) := (hSw _ (.tail _ (.tail _ (.tail _ (.tail _ (.tail _ (.tail _ (.tail _ (.tail _ (.head _)))))))))).1
        have k3 : wl.cell? ⟨W.heap.size + 1, 3, none⟩ = some (.slice y.B y.m y.d) := (hSw _ (.tail _ (.tail _ (.tail _ (.tail _ (.tail _ (.tail _ (.tail _ (.tail _ (.tail _ (.head _))))))))))).1
        clear hSw
        go_simp
        try (with_reducible rfl)
      try simp only [Act.put, sA, sZ, sS]
      refine tk 5 ?_ rfl ?_ ?_; rotate_left; focus (intro w hSw; clear hSw; go_simp; try (with_reducible rfl))
      try simp only [Act.put, sA, sZ, sS]
      refine tk 6 ?_ rfl ?_ ?_; rotate_left
      · intro wl hSw
        have hSw : Keep _ wl := hSw
        have k0 : wl.cell? ⟨wi.heap.size, 1, none⟩ = some (.int .i64 p2) := (hSw _ (.tail _ (.head _))).1
        clear hSw
        go_simp
        try (with_reducible rfl)
      try simp only [Act.put, sA, sZ, sS]
      refine wpAnyH_ready (rs := [3]) (by kernel_rfl) (by simp) ?_
      refine AllReadyH.cons (List.getElem?_toArray.trans rfl) (fun K hK => ?_) AllReadyH.nil
      go_simp
      refine (raccepting_any x A p1 _ (HA.out.below VXd.out.below) (by have := HIN.out.1.2; have := HKA.out.right.acl; unfold Au.n at *; omega) (by have := HKA.out.right.acl; have := HKA.out.few; unfold Au.n at *; omega)).mono ?_
      rintro e w_3 ⟨rfl, b_3⟩
      try go_wp2_with fail
      rw [SA.out]
      have V_3 := Lib.hid (VXd.out.go b_3)
      refine hK.out _ _ (hHeld.go b_3) (fun hHeld => ?_)
      clear hK K
      try simp only [Act.put, sA, sZ, sS]
      refine wpAnyH_ready (rs := [7]) (by kernel_rfl) (by simp) ?_
      refine AllReadyH.cons (List.getElem?_toArray.trans rfl) (fun K hK => ?_) AllReadyH.nil
      go_simp
      refine (raccepting_any y B p2 _ (HB.out.below V_3.out.below) (by have := HIN.out.2.2; have := HKB.out.right.acl; unfold Au.n at *; omega) (by have := HKB.out.right.acl; have := HKB.out.few; unfold Au.n at *; omega)).mono ?_
      rintro e w_3_7 ⟨rfl, b_3_7⟩
      try go_wp2_with fail
      rw [SB.out]
      have V_3_7 := Lib.hid (V_3.out.go b_3_7)
      refine hK.out _ _ (hHeld.go b_3_7) (fun hHeld => ?_)
      clear hK K
      try simp only [Act.put, sA, sZ, sS]
      refine tk 8 ?_ rfl ?_ ?_; rotate_left; focus (intro w hSw; clear hSw; go_simp; try (with_reducible rfl))
      try simp only [Act.put, sA, sZ, sS]
      refine wpAnyH_done (by kernel_rfl) ?_ _
      have V4 := V_3_7
      clear hHeld hKp VX
      go_upto_region 12 with fail
      obtain ⟨cn, hcn⟩ : ∃ o, o = (decide (p1 < 0) && decide (p2 < 0)) := ⟨_, rfl⟩
      have HCN := Lib.hid hcn
      clear hcn
      go_cut [48] (fun r wy => r = .bool cn ∧ Hp W [box 35 wi.heap.size [.int .i64 p1, .int .i64 p2], prow 35 G1 n1 c1 out, frow (some ⟨g, 0, none⟩) n c F, box 25 (W.heap.size + 1) [.int .i64 B.lt, .int .i64 B.st, .slice y.A y.n y.c, .slice y.B y.m y.d], box 25 W.heap.size [.int .i64 A.lt, .int .i64 A.st, .slice x.A x.n x.c, .slice x.B x.m x.d]] wy)
      case first =>
        obtain ⟨k0, _, k9⟩ := V4.out.box_at (i := 0) (j := 0) rfl rfl
        obtain ⟨k1, _, _⟩ := V4.out.box_at (i := 0) (j := 1) rfl rfl
        by_cases h1 : p1 < 0
        · by_cases h2 : p2 < 0
          · have HV := Lib.hid (show cn = true by rw [HCN.out, decide_eq_true h1, decide_eq_true h2]; rfl)
            go_wp2_with fail
            go_meet
            exact ⟨by rw [HV.out], V4.out⟩
          · have HV := Lib.hid (show cn = false by rw [HCN.out, decide_eq_false h2]; simp)
            go_wp2_with fail
            go_meet
            exact ⟨by rw [HV.out], V4.out⟩
        · have HV := Lib.hid (show cn = false by rw [HCN.out, decide_eq_false h1]; rfl)
          go_wp2_with fail
          go_meet
          exact ⟨by rw [HV.out], V4.out⟩
      case rest =>
        obtain ⟨rfl, hv⟩ := hcut
        have V5 := Lib.hid hv
        clear hv V4
        by_cases hcv : cn = true
        · have HNO2 := Lib.hid (show no2 (p1, p2) by
            have h := HCN.out.symm.trans hcv
            rw [Bool.and_eq_true] at h
            have h1 := of_decide_eq_true h.1
            have h2 := of_decide_eq_true h.2
            have := HIN.out
            exact Prod.ext (by show p1 = -1; omega) (by show p2 = -1; omega))
          have HR2 := Lib.hid (HRI.out.skip HPI.out HNO2.out)
          subst hcv
          go_wp2_with fail
          go_roundw
          case rel => exact ⟨i + 1, by go_num, G1, n1, c1, out, rfl, by omega, by omega, HE2.out, HR2.out, V5.out.tail⟩
          case measure => simp [intOf]; omega
        · have HNO2 := Lib.hid (show ¬ no2 (p1, p2) from fun e => hcv (by
            have e1 : p1 = -1 := congrArg Prod.fst e
            have e2 : p2 = -1 := congrArg Prod.snd e
            rw [HCN.out, e1, e2]; rfl))
          have hcf : cn = false := by cases cn; rfl; exact absurd rfl hcv
          clear hcv HCN
          subst hcf
          go_wp2_with fail
          have VR := Lib.hid (show ∀ (t : Nat) q, n1 ≤ t → out[t]? = some q → ltP (p1, p2) q = true from fun t q ht hq => absurd (List.getElem?_eq_some_iff.1 hq).1 (by have := V5.out.pair_len (i := 1) rfl; omega))
          go_loopw [11] (fun av wr => ∃ a : Nat, av = .int .i64 (a : Int) ∧ a ≤ n1 ∧ (∀ (t : Nat) q, a ≤ t → out[t]? = some q → ltP (p1, p2) q = true) ∧ Hp W [box 35 wi.heap.size [.int .i64 p1, .int .i64 p2], prow 35 G1 n1 c1 out, frow (some ⟨g, 0, none⟩) n c F, box 25 (W.heap.size + 1) [.int .i64 B.lt, .int .i64 B.st, .slice y.A y.n y.c, .slice y.B y.m y.d], box 25 W.heap.size [.int .i64 A.lt, .int .i64 A.st, .slice x.A x.n x.c, .slice x.B x.m x.d]] wr) (fun av _ => (intOf av).toNat)
          case atStart => exact ⟨n1, rfl, Nat.le_refl _, VR.out, V5.out⟩
          case round =>
            clear V5 VR
            obtain ⟨a, rfl, han, hr, hV⟩ := hrel
            obtain ⟨wj, rfl⟩ : ∃ wj : World, wj = wr := ⟨_, rfl⟩
            have V := Lib.hid hV
            have HR := Lib.hid hr
            clear hV hr
            have hlen := V.out.pair_len (i := 1) rfl
            go_upto_region 14 with fail
            go_cut [61] (fun r wy => ∃ b : Bool, r = .bool b ∧ (b = true → 0 < a ∧ ∃ q, out[a - 1]? = some q ∧ ltP (p1, p2) q = true) ∧ (b = false → a = 0 ∨ ∃ q, out[a - 1]? = some q ∧ ltP (p1, p2) q = false) ∧ Hp W [box 35 wi.heap.size [.int .i64 p1, .int .i64 p2], prow 35 G1 n1 c1 out, frow (some ⟨g, 0, none⟩) n c F, box 25 (W.heap.size + 1) [.int .i64 B.lt, .int .i64 B.st, .slice y.A y.n y.c, .slice y.B y.m y.d], box 25 W.heap.size [.int .i64 A.lt, .int .i64 A.st, .slice x.A x.n x.c, .slice x.B x.m x.d]] wy)
            case first =>
              by_cases h0 : a = 0
              · subst h0
                have hKp : Keep [] wj := fun _ h => by simp at h
                refine wp_region_held_drew (S := Keep _) (by kernel_rfl) hKp.drew (fun hHeld => ?_)
                have Vd := Lib.hid (V.out.go (bdrew _))
                refine tk 0 ?_ rfl ?_ ?_; rotate_left; focus (intro w hSw; clear hSw; go_simp; try (with_reducible rfl))
                try simp only [Act.put, sA, sZ, sS]
                refine tk 1 ?_ rfl ?_ ?_; rotate_left; focus (intro w hSw; clear hSw; go_simp; try (with_reducible rfl))
                try simp only [Act.put, sA, sZ, sS]
                refine tk 2 ?_ rfl ?_ ?_; rotate_left; focus (intro w hSw; clear hSw; go_simp; try (with_reducible rfl))
                try simp only [Act.put, sA, sZ, sS]
                refine tu 3 rfl ?_
                try simp only [Act.put, sA, sZ, sS]
                refine tu 4 rfl ?_
                try simp only [Act.put, sA, sZ, sS]
                refine tu 5 rfl ?_
                try simp only [Act.put, sA, sZ, sS]
                refine tu 6 rfl ?_
                try simp only [Act.put, sA, sZ, sS]
                refine tu 7 rfl ?_
                try simp only [Act.put, sA, sZ, sS]
                refine tu 8 rfl ?_
                try simp only [Act.put, sA, sZ, sS]
                refine tu 9 rfl ?_
                try simp only [Act.put, sA, sZ, sS]
                refine tk 10 ?_ rfl ?_ ?_; rotate_left; focus (intro w hSw; clear hSw; go_simp; try (with_reducible rfl))
                try simp only [Act.put, sA, sZ, sS]
                refine wpAnyH_done (by kernel_rfl) ?_ _
                go_wp2_with fail
                go_meet
                exact ⟨false, rfl, fun h => (by cases h), fun _ => .inl (by first | trivial | rfl), Vd.out⟩
              · obtain ⟨⟨q1, q2⟩, hq⟩ : ∃ q, out[a - 1]? = some q := ⟨_, List.getElem?_eq_getElem (by omega)⟩
                obtain ⟨gg, rfl⟩ := V.out.head (i := 1) rfl rfl (show 0 < n1 by omega)
                have HQ := Lib.hid hq
                have g1 : 0 < (a : Int) := by omega
                have g1b : 0 < a := by omega
                have g2 : IntKind.i64.wrap ((a : Int) - 1) = (a : Int) - 1 := IntWalk.i64_in _ (by omega)
                have g3 : ((a : Int) - 1).toNat = a - 1 := by omega
                have g4 : 0 ≤ (a : Int) - 1 := by omega
                have g5 : (a : Int) - 1 < (n1 : Int) := by omega
                have g6 : a - 1 < n1 := by omega
                have g7 : 1 ≤ (a : Int) := by omega
                obtain ⟨vl, hvl⟩ : ∃ o, o = ltP (p1, p2) (q1, q2) := ⟨_, rfl⟩
                have SL := Lib.hid hvl.symm
                clear hq hvl
                have hKp : Keep [(⟨wi.heap.size, 0, none⟩, .int .i64 p1), (⟨wi.heap.size, 1, none⟩, .int .i64 p2), (⟨gg, (a - 1) * 2, none⟩, .int .i64 q1), (⟨gg, (a - 1) * 2 + 1, none⟩, .int .i64 q2)] wj := fm ⟨⟨(V.out.box_at (i := 0) (j := 0) rfl rfl).1, (V.out.box_at (i := 0) (j := 0) rfl rfl).2.2⟩, fm ⟨⟨(V.out.box_at (i := 0) (j := 1) rfl rfl).1, (V.out.box_at (i := 0) (j := 1) rfl rfl).2.2⟩, fm ⟨⟨(V.out.pair_at (i := 1) rfl HQ.out).1, (V.out.pair_at (i := 1) rfl HQ.out).2.2⟩, fm ⟨⟨(V.out.pair_at (i := 1) rfl HQ.out).2.1, (V.out.pair_at (i := 1) rfl HQ.out).2.2⟩, fun _ h => by simp at h⟩⟩⟩⟩
                refine wp_region_held_drew (S := Keep _) (by kernel_rfl) hKp.drew (fun hHeld => ?_)
                have Vd := Lib.hid (V.out.go (bdrew _))
                refine tk 0 ?_ rfl ?_ ?_; rotate_left; focus (intro w hSw; clear hSw; go_simp; try (with_reducible rfl))
                try simp only [Act.put, sA, sZ, sS]
                refine tk 1 ?_ rfl ?_ ?_; rotate_left; focus (intro w hSw; clear hSw; go_simp; try (with_reducible rfl))
                try simp only [Act.put, sA, sZ, sS]
                refine tk 2 ?_ rfl ?_ ?_; rotate_left; focus (intro w hSw; clear hSw; go_simp; try (with_reducible rfl))
                try simp only [Act.put, sA, sZ, sS]
                refine tk 3 ?_ rfl ?_ ?_; rotate_left
                · intro wl hSw
                  have hSw : Keep _ wl := hSw
                  have k0 : wl.cell? ⟨wi.heap.size, 0, none⟩ = some (.int .i64 p1) := (hSw _ (.head _)).1
                  have k1 : wl.cell? ⟨wi.heap.size, 1, none⟩ = some (.int .i64 p2) := (hSw _ (.tail _ (.head _))).1
                  clear hSw
                  go_simp
                  try (with_reducible rfl)
                try simp only [Act.put, sA, sZ, sS]
                refine tk 4 ?_ rfl ?_ ?_; rotate_left; focus (intro w hSw; clear hSw; go_simp; try (with_reducible rfl))
                try simp only [Act.put, sA, sZ, sS]
                refine tk 5 ?_ rfl ?_ ?_; rotate_left; focus (intro w hSw; clear hSw; go_simp; try (with_reducible rfl))
                try simp only [Act.put, sA, sZ, sS]
                refine tk 6 ?_ rfl ?_ ?_; rotate_left; focus (intro w hSw; clear hSw; go_simp; try (with_reducible rfl))
                try simp only [Act.put, sA, sZ, sS]
                refine tk 7 ?_ rfl ?_ ?_; rotate_left; focus (intro w hSw; clear hSw; go_simp; try (with_reducible rfl))
                try simp only [Act.put, sA, sZ, sS]
                refine tk 8 ?_ rfl ?_ ?_; rotate_left
                · intro wl hSw
                  have hSw : Keep _ wl := hSw
                  have k0 : wl.cell? ⟨gg, (a - 1) * 2, none⟩ = some (.int .i64 q1) := (hSw _ (.tail _ (.tail _ (.head _)))).1
                  have k1 : wl.cell? ⟨gg, (a - 1) * 2 + 1, none⟩ = some (.int .i64 q2) := (hSw _ (.tail _ (.tail _ (.tail _ (.head _))))).1
                  clear hSw
                  go_simp
                  try (with_reducible rfl)
                try simp only [Act.put, sA, sZ, sS]
                refine wpAnyH_ready (rs := [9]) (by kernel_rfl) (by simp) ?_
                refine AllReadyH.cons (List.getElem?_toArray.trans rfl) (fun K hK => ?_) AllReadyH.nil
                go_simp
                refine (rless_any p1 p2 q1 q2 _).mono ?_
                rintro e w_9 ⟨rfl, b_9⟩
                try go_wp2_with fail
                rw [SL.out]
                have V_9 := Lib.hid (Vd.out.go b_9)
                refine hK.out _ _ (hHeld.go b_9) (fun hHeld => ?_)
                clear hK K
                try simp only [Act.put, sA, sZ, sS]
                refine tk 10 ?_ rfl ?_ ?_; rotate_left; focus (intro w hSw; clear hSw; go_simp; try (with_reducible rfl))
                try simp only [Act.put, sA, sZ, sS]
                refine wpAnyH_done (by kernel_rfl) ?_ _
                go_wp2_with fail
                go_meet
                exact ⟨vl, rfl, fun h => ⟨g1b, _, HQ.out, SL.out.trans h⟩, fun h => .inr ⟨_, HQ.out, SL.out.trans h⟩, V_9.out⟩
            case rest =>
              obtain ⟨b, rfl, hb1, hb2, hv⟩ := hcut
              have V6 := Lib.hid hv
              clear hv V
              cases b
              · have HL := Lib.hid (hb2 rfl)
                have HR2 := Lib.hid (HRI.out.put HB2.out.nd HPI.out HNO2.out (show a ≤ out.length by omega) HR.out HL.out)
                clear hb1 hb2
                go_upto_region 16 with fail
                cases G1 with
                | none =>
                  obtain ⟨rfl, rfl⟩ := pair_nil V6.out (i := 1) rfl
                  obtain rfl : a = 0 := by omega
                  have hout : out = [] := List.eq_nil_of_length_eq_zero hlen
                  subst hout
                  have hKp : Keep [(⟨wi.heap.size, 0, none⟩, .int .i64 p1), (⟨wi.heap.size, 1, none⟩, .int .i64 p2)] wc := fm ⟨⟨(V6.out.box_at (i := 0) (j := 0) rfl rfl).1, (V6.out.box_at (i := 0) (j := 0) rfl rfl).2.2⟩, fm ⟨⟨(V6.out.box_at (i := 0) (j := 1) rfl rfl).1, (V6.out.box_at (i := 0) (j := 1) rfl rfl).2.2⟩, fun _ h => by simp at h⟩⟩
                  refine wp_region_held_drew (S := Keep _) (by kernel_rfl) hKp.drew (fun hHeld => ?_)
                  have V6d := Lib.hid (V6.out.go (bdrew _))
                  refine tk 0 ?_ rfl ?_ ?_; rotate_left; focus (intro w hSw; clear hSw; go_simp; try (with_reducible rfl))
                  try simp only [Act.put, sA, sZ, sS]
                  refine tk 1 ?_ rfl ?_ ?_; rotate_left; focus (intro w hSw; clear hSw; go_simp; try (with_reducible rfl))
                  try simp only [Act.put, sA, sZ, sS]
                  refine tk 2 ?_ rfl ?_ ?_; rotate_left; focus (intro w hSw; clear hSw; go_simp; try (with_reducible rfl))
                  try simp only [Act.put, sA, sZ, sS]
                  refine tk 3 ?_ rfl ?_ ?_; rotate_left
                  · intro wl hSw
                    have hSw : Keep _ wl := hSw
                    have k0 : wl.cell? ⟨wi.heap.size, 0, none⟩ = some (.int .i64 p1) := (hSw _ (.head _)).1
                    have k1 : wl.cell? ⟨wi.heap.size, 1, none⟩ = some (.int .i64 p2) := (hSw _ (.tail _ (.head _))).1
                    clear hSw
                    go_simp
                    try (with_reducible rfl)
                  try simp only [Act.put, sA, sZ, sS]
                  refine tk 5 ?_ rfl ?_ ?_; rotate_left; focus (intro w hSw; clear hSw; go_simp; try (with_reducible rfl))
                  try simp only [Act.put, sA, sZ, sS]
                  refine tk 6 ?_ rfl ?_ ?_; rotate_left; focus (intro w hSw; clear hSw; go_simp; try (with_reducible rfl))
                  try simp only [Act.put, sA, sZ, sS]
                  refine tk 7 ?_ rfl ?_ ?_; rotate_left; focus (intro w hSw; clear hSw; go_simp; try (with_reducible rfl))
                  try simp only [Act.put, sA, sZ, sS]
                  refine wpAnyH_ready (rs := [4]) (by kernel_rfl) (by simp) ?_
                  refine AllReadyH.cons (List.getElem?_toArray.trans rfl) (fun K hK => ?_) AllReadyH.nil
                  obtain ⟨w_4, hw_4⟩ : ∃ zz, zz = (wc.alloc (.cells #[.int .i64 p1, .int .i64 p2] 35)).drew := ⟨_, rfl⟩
                  obtain ⟨A2, c2, w2, A3, c3, w3, hr2, hr3, hv2, hv3⟩ := run_insert0 (p1, p2) (show Hp W [prow 35 none 0 0 [], box 35 wi.heap.size [.int .i64 p1, .int .i64 p2], frow (some ⟨g, 0, none⟩) n c F, box 25 (W.heap.size + 1) [.int .i64 B.lt, .int .i64 B.st, .slice y.A y.n y.c, .slice y.B y.m y.d], box 25 W.heap.size [.int .i64 A.lt, .int .i64 A.st, .slice x.A x.n x.c, .slice x.B x.m x.d]] wc.drew from V6d.out.pick [1, 0, 2, 3, 4] (by decide) rfl) (w1 := w_4) hw_4
                  have R2 := Lib.hid hr2
                  have R3 := Lib.hid hr3
                  have X2 := Lib.hid hv2
                  have X3 := Lib.hid hv3
                  clear hr2 hr3 hv2 hv3
                  have B_4 := Lib.hid (show Below wc.drew.heap.size wc.drew w_4 by rw [hw_4]; exact bnew _ _)
                  go_simp
                  rw [← hw_4]
                  clear hw_4
                  refine hK.out _ _ (hHeld.go B_4.out) (fun hHeld => ?_)
                  clear hK K
                  try simp only [Act.put, sA, sZ, sS]
                  refine wpAnyH_ready (rs := [8]) (by kernel_rfl) (by simp) ?_
                  refine AllReadyH.cons (List.getElem?_toArray.trans rfl) (fun K hK => ?_) AllReadyH.nil
                  have KP2 := Lib.hid (show Keep [(⟨wi.heap.size, 0, none⟩, .int .i64 p1), (⟨wi.heap.size, 1, none⟩, .int .i64 p2)] w2 from fm ⟨(have z := X2.out.box_at (i := 2) (j := 0) rfl rfl; ⟨z.1, z.2.2⟩), fm ⟨(have z := X2.out.box_at (i := 2) (j := 1) rfl rfl; ⟨z.1, z.2.2⟩), fun _ h => by simp at h⟩⟩)
                  refine step_app_run rfl (.tmp 68) (.tmp 71) 28 rfl R2.out rfl rfl ?_
                  refine hK.out _ _ (KP2.out) (fun hHeld => ?_)
                  clear hK K
                  try simp only [Act.put, sA, sZ, sS]
                  refine wpAnyH_ready (rs := [9]) (by kernel_rfl) (by simp) ?_
                  refine AllReadyH.cons (List.getElem?_toArray.trans rfl) (fun K hK => ?_) AllReadyH.nil
                  have KP3 := Lib.hid (show Keep [(⟨wi.heap.size, 0, none⟩, .int .i64 p1), (⟨wi.heap.size, 1, none⟩, .int .i64 p2)] w3 from fm ⟨(have z := X3.out.box_at (i := 1) (j := 0) rfl rfl; ⟨z.1, z.2.2⟩), fm ⟨(have z := X3.out.box_at (i := 1) (j := 1) rfl rfl; ⟨z.1, z.2.2⟩), fun _ h => by simp at h⟩⟩)
                  refine step_app_run rfl (.tmp 66) (.tmp 72) 28 rfl R3.out rfl rfl ?_
                  refine hK.out _ _ (KP3.out) (fun hHeld => ?_)
                  clear hK K
                  try simp only [Act.put, sA, sZ, sS]
                  refine tk 10 ?_ rfl ?_ ?_; rotate_left; focus (intro w hSw; clear hSw; go_simp; try (with_reducible rfl))
                  try simp only [Act.put, sA, sZ, sS]
                  refine wpAnyH_done (by kernel_rfl) ?_ _
                  clear hHeld hKp
                  go_wp2_with fail
                  go_roundw
                  case rel => exact ⟨i + 1, by go_num, A3, _, c3, _, rfl, by omega, by omega, HE2.out, HR2.out, X3.out.pick [0, 2, 3, 4] (by decide) rfl⟩
                  case measure => simp [intOf]; omega
                | some aa =>
                  obtain ⟨gg, rfl, hnc⟩ := pair_some V6.out (i := 1) rfl
                  have g1 : (a : Int) ≤ (n1 : Int) := by omega
                  have g2 : (a : Int) ≤ (c1 : Int) := by omega
                  have g3 : a ≤ c1 := by omega
                  have g4 : 0 ≤ (a : Int) := by omega
                  have g5 : (n1 : Int) ≤ (c1 : Int) := by omega
                  have hKp : Keep [(⟨wi.heap.size, 0, none⟩, .int .i64 p1), (⟨wi.heap.size, 1, none⟩, .int .i64 p2)] wc := fm ⟨⟨(V6.out.box_at (i := 0) (j := 0) rfl rfl).1, (V6.out.box_at (i := 0) (j := 0) rfl rfl).2.2⟩, fm ⟨⟨(V6.out.box_at (i := 0) (j := 1) rfl rfl).1, (V6.out.box_at (i := 0) (j := 1) rfl rfl).2.2⟩, fun _ h => by simp at h⟩⟩
                  refine wp_region_held_drew (S := Keep _) (by kernel_rfl) hKp.drew (fun hHeld => ?_)
                  have V6d := Lib.hid (V6.out.go (bdrew _))
                  refine tk 0 ?_ rfl ?_ ?_; rotate_left; focus (intro w hSw; clear hSw; go_simp; try (with_reducible rfl))
                  try simp only [Act.put, sA, sZ, sS]
                  refine tk 1 ?_ rfl ?_ ?_; rotate_left; focus (intro w hSw; clear hSw; go_simp; try (with_reducible rfl))
                  try simp only [Act.put, sA, sZ, sS]
                  refine tk 2 ?_ rfl ?_ ?_; rotate_left; focus (intro w hSw; clear hSw; go_simp; try (with_reducible rfl))
                  try simp only [Act.put, sA, sZ, sS]
                  refine tk 3 ?_ rfl ?_ ?_; rotate_left
                  · intro wl hSw
                    have hSw : Keep _ wl := hSw
                    have k0 : wl.cell? ⟨wi.heap.size, 0, none⟩ = some (.int .i64 p1) := (hSw _ (.head _)).1
                    have k1 : wl.cell? ⟨wi.heap.size, 1, none⟩ = some (.int .i64 p2) := (hSw _ (.tail _ (.head _))).1
                    clear hSw
                    go_simp
                    try (with_reducible rfl)
                  try simp only [Act.put, sA, sZ, sS]
                  refine tk 5 ?_ rfl ?_ ?_; rotate_left; focus (intro w hSw; clear hSw; go_simp; try (with_reducible rfl))
                  try simp only [Act.put, sA, sZ, sS]
                  refine tk 6 ?_ rfl ?_ ?_; rotate_left; focus (intro w hSw; clear hSw; go_simp; try (with_reducible rfl))
                  try simp only [Act.put, sA, sZ, sS]
                  refine tk 7 ?_ rfl ?_ ?_; rotate_left; focus (intro w hSw; clear hSw; go_simp; try (with_reducible rfl))
                  try simp only [Act.put, sA, sZ, sS]
                  refine wpAnyH_ready (rs := [4]) (by kernel_rfl) (by simp) ?_
                  refine AllReadyH.cons (List.getElem?_toArray.trans rfl) (fun K hK => ?_) AllReadyH.nil
                  obtain ⟨w_4, hw_4⟩ : ∃ zz, zz = (wc.alloc (.cells #[.int .i64 p1, .int .i64 p2] 35)).drew := ⟨_, rfl⟩
                  obtain ⟨A2, c2, w2, A3, c3, w3, hr2, hr3, hv2, hv3⟩ := run_insert (p1, p2) (show Hp W [prow 35 (some ⟨gg, 0, none⟩) n1 c1 out, box 35 wi.heap.size [.int .i64 p1, .int .i64 p2], frow (some ⟨g, 0, none⟩) n c F, box 25 (W.heap.size + 1) [.int .i64 B.lt, .int .i64 B.st, .slice y.A y.n y.c, .slice y.B y.m y.d], box 25 W.heap.size [.int .i64 A.lt, .int .i64 A.st, .slice x.A x.n x.c, .slice x.B x.m x.d]] wc.drew from V6d.out.pick [1, 0, 2, 3, 4] (by decide) rfl) han (by omega) (c1 - a) (if c1 = a then some ⟨gg, 0, none⟩ else some ⟨gg, a * 2, none⟩) (by by_cases e : c1 = a; exact .inr (by omega); exact .inl (if_neg e)) (w1 := w_4) hw_4
                  have R2 := Lib.hid hr2
                  have R3 := Lib.hid hr3
                  have X2 := Lib.hid hv2
                  have X3 := Lib.hid hv3
                  clear hr2 hr3 hv2 hv3
                  have B_4 := Lib.hid (show Below wc.drew.heap.size wc.drew w_4 by rw [hw_4]; exact bnew _ _)
                  go_simp
                  rw [← hw_4]
                  clear hw_4
                  refine hK.out _ _ (hHeld.go B_4.out) (fun hHeld => ?_)
                  clear hK K
                  try simp only [Act.put, sA, sZ, sS]
                  refine wpAnyH_ready (rs := [8]) (by kernel_rfl) (by simp) ?_
                  refine AllReadyH.cons (List.getElem?_toArray.trans rfl) (fun K hK => ?_) AllReadyH.nil
                  have KP2 := Lib.hid (show Keep [(⟨wi.heap.size, 0, none⟩, .int .i64 p1), (⟨wi.heap.size, 1, none⟩, .int .i64 p2)] w2 from fm ⟨(have z := X2.out.box_at (i := 2) (j := 0) rfl rfl; ⟨z.1, z.2.2⟩), fm ⟨(have z := X2.out.box_at (i := 2) (j := 1) rfl rfl; ⟨z.1, z.2.2⟩), fun _ h => by simp at h⟩⟩)
                  refine step_app_run rfl (.tmp 68) (.tmp 71) 28 rfl R2.out rfl rfl ?_
                  refine hK.out _ _ (KP2.out) (fun hHeld => ?_)
                  clear hK K
                  try simp only [Act.put, sA, sZ, sS]
                  refine wpAnyH_ready (rs := [9]) (by kernel_rfl) (by simp) ?_
                  refine AllReadyH.cons (List.getElem?_toArray.trans rfl) (fun K hK => ?_) AllReadyH.nil
                  have KP3 := Lib.hid (show Keep [(⟨wi.heap.size, 0, none⟩, .int .i64 p1), (⟨wi.heap.size, 1, none⟩, .int .i64 p2)] w3 from fm ⟨(have z := X3.out.box_at (i := 1) (j := 0) rfl rfl; ⟨z.1, z.2.2⟩), fm ⟨(have z := X3.out.box_at (i := 1) (j := 1) rfl rfl; ⟨z.1, z.2.2⟩), fun _ h => by simp at h⟩⟩)
                  refine step_app_run rfl (.tmp 66) (.tmp 72) 28 rfl R3.out rfl rfl ?_
                  refine hK.out _ _ (KP3.out) (fun hHeld => ?_)
                  clear hK K
                  try simp only [Act.put, sA, sZ, sS]
                  refine tk 10 ?_ rfl ?_ ?_; rotate_left; focus (intro w hSw; clear hSw; go_simp; try (with_reducible rfl))
                  try simp only [Act.put, sA, sZ, sS]
                  refine wpAnyH_done (by kernel_rfl) ?_ _
                  clear hHeld hKp
                  go_wp2_with fail
                  go_roundw
                  case rel => exact ⟨i + 1, by go_num, A3, _, c3, _, rfl, by omega, by omega, HE2.out, HR2.out, X3.out.pick [0, 2, 3, 4] (by decide) rfl⟩
                  case measure => simp [intOf]; omega
              · obtain ⟨g1b, q, hq, hlq⟩ := hb1 rfl
                have g1 : 0 < (a : Int) := by omega
                have g2 : IntKind.i64.wrap ((a : Int) - 1) = (a : Int) - 1 := IntWalk.i64_in _ (by omega)
                have g4 : 0 ≤ (a : Int) - 1 := by omega
                have g7 : 1 ≤ (a : Int) := by omega
                have HR2 := Lib.hid (show ∀ (t : Nat) q, a - 1 ≤ t → out[t]? = some q → ltP (p1, p2) q = true from fun t z ht hz => by
                  by_cases e : t = a - 1
                  · rw [e, hq] at hz; injection hz with hz; rw [← hz]; exact hlq
                  · exact HR.out t z (by omega) hz)
                clear hb1 hb2 hq hlq
                go_wp2_with fail
                go_roundw
                case rel => exact ⟨a - 1, by rw [show ((a - 1 : Nat) : Int) = (a : Int) - 1 by omega], by omega, HR2.out, V6.out⟩
                case measure => simp [intOf]; omega
    · obtain rfl : i = n := by omega
      have HRL := Lib.hid (show RIns l l.length out by rw [HN.out]; exact HRI.out)
      have HP := Lib.hid (show RelPost A B W (.returned (.tuple #[.slice G1 n1 c1, .int .i64 0])) wi from ⟨V.out.below, .inr ⟨k, HKA.out, HKB.out, .inr ⟨walk_same HB2.out hk0 (fun j p hj => HNO.out j p (by have := (List.getElem?_eq_some_iff.1 hj).1; have := HN.out; omega) hj), out, G1, n1, c1, rfl, walk_rel HB2.out hk0 HRL.out, V.out.pick [0] (by decide) rfl⟩⟩⟩)
      go_wp2_with fail
      go_ret2
      exact HP.out
end Go.Proofs.Ytdkdfmflghbhiaa
