/- Contracts of the second implementation: products. -/
import Derived.Test.YtbfedfiemkhefaaRA
import Derived.Test.YtbfedfiemkhefaaRx
namespace Go.Proofs.Ytbfedfiemkhefaa
open Go.RowKit Go.ChangeMaps Go.MapKept
set_option linter.unusedVariables false
set_option linter.unusedSimpArgs false
set_option maxRecDepth 100000

/-- Rows that were made since W, and a map beside them. -/
structure HMP (W : World) (l : List Itm) (b : Nat) (ps : List ((Int × Int) × Value)) (w : World) : Prop where
  hp : Hp W l w
  mp : MapIs w b ps
  lo : W.heap.size ≤ b
namespace HMP
variable {W w w' : World} {l l' : List Itm} {b : Nat} {ps : List ((Int × Int) × Value)} {i : Nat} {it : Itm}
theorem far (h : HMP W l b ps w) (hi : l[i]? = some it) : some b ≠ it.v.ownBlock := by
  intro e
  rcases (h.hp.own i it hi).2 with ⟨e1, _⟩ | ⟨g, cap, cur, e1, _, hg, _⟩
  · rw [e1] at e; cases e
  · rw [e1] at e
    have e2 : b = g := by simpa [Value.ownBlock] using e
    obtain ⟨es, clock, h1, _⟩ := h.mp
    rw [e2, hg] at h1
    cases h1
theorem upd (h : HMP W l b ps w) (h2 : Hp W l' w') {row : Option Nat} (hg : w.grownBy w' row) (hr : some b ≠ row) : HMP W l' b ps w' := ⟨h2, h.mp.grown hg hr, h.lo⟩
theorem go (h : HMP W l b ps w) (hb : Below w.heap.size w w') : HMP W l b ps w' := h.upd (h.hp.go hb) (grown_of hb) (by simp)
theorem below (h : HMP W l b ps w) : Below W.heap.size W w := h.hp.below
theorem with' (h : HMP W l b ps w) (h2 : Hp W l' w) : HMP W l' b ps w := ⟨h2, h.mp, h.lo⟩
theorem tail (h : HMP W (it :: l) b ps w) : HMP W l b ps w := h.with' h.hp.tail
theorem box_new (h : HMP W l b ps w) (T : TypeId) (cs : List Value) : HMP W (box T w.heap.size cs :: l) b ps (w.alloc (.cells cs.toArray T)) := h.upd (h.hp.box_new T cs) (grown_of (bnew _ _)) (by simp)
theorem made (h : Hp W l w) : HMP W l w.heap.size [] (w.alloc (.map #[] 0)) := ⟨h.go (bnew _ _), made_map w, h.below.size⟩
theorem put {T e : TypeId} (hT : Try.prog.underlying T = some (.map 46 e)) (p : Int × Int) (v : Value) (h : HMP W l b ps w) (hno : findP p ps 0 = none) :
    ∃ w', (Instr.mapUpdate T (.map (some b)) (pkey p) v).run Try.prog w = .ok () w' ∧ HMP W l b (ps ++ [(p, v)]) w' := by
  obtain ⟨w', hr, hm, hg⟩ := update_map hT p v h.mp hno
  refine ⟨w', hr, ⟨⟨fun i it hi => (h.hp.own i it hi).kept hg ?_, h.hp.sep, h.hp.below.grown hg h.hp.below.size fun k hk => ?_⟩, hm, h.lo⟩⟩
  · have := h.far hi
    cases e : it.v.ownBlock with
    | none => exact .inl rfl
    | some k => rw [e] at this; exact .inr this.symm
  · injection hk with hk; subst hk; exact h.lo
theorem box_set {T : TypeId} {g : Nat} {cs : List Value} (h : HMP W l b ps w) (hi : l[i]? = some (box T g cs)) (j : Nat) (u : Value) : HMP W (l.set i (box T g (cs.set j u))) b ps (w.setCell ⟨g, j, none⟩ u) :=
  h.upd (row := some g) (h.hp.box_set hi j u) ⟨rfl, rfl, rfl, by simp [World.setCell], fun k hk hne => Below.heap_setCell _ _ _ _ (fun e => hne (by rw [e]))⟩ (h.far hi)
theorem app_num {A : Option Addr} {n c : Nat} {L : List Int} (h : HMP W l b ps w) (hi : l[i]? = some (nums A n c L)) (ty : TypeId) {g0 : Nat} (x : Int) (hb : w.cell? ⟨g0, 0, none⟩ = some (.int .i64 x)) (hn : n ≤ 4000000000000) :
    ∃ g cap w', (Builtin.append_ #[26, 26] ty #[.slice A n c, .slice (some ⟨g0, 0, none⟩) 1 1]).run Try.prog w = .ok (.slice (some ⟨g, 0, none⟩) (n + 1) cap) w' ∧
      HMP W (l.set i (nums (some ⟨g, 0, none⟩) (n + 1) cap (L ++ [x]))) b ps w' := by
  obtain ⟨g, cap, w', hr, hv, hg⟩ := run_app_num h.hp hi ty x hb hn
  exact ⟨g, cap, w', hr, h.upd hv hg (h.far hi)⟩
theorem app_flag {A : Option Addr} {n c : Nat} {L : List Bool} (h : HMP W l b ps w) (hi : l[i]? = some (flags A n c L)) (ty : TypeId) {g0 : Nat} (x : Bool) (hb : w.cell? ⟨g0, 0, none⟩ = some (.bool x)) (hn : n ≤ 4000000000000) :
    ∃ g cap w', (Builtin.append_ #[23, 23] ty #[.slice A n c, .slice (some ⟨g0, 0, none⟩) 1 1]).run Try.prog w = .ok (.slice (some ⟨g, 0, none⟩) (n + 1) cap) w' ∧
      HMP W (l.set i (flags (some ⟨g, 0, none⟩) (n + 1) cap (L ++ [x]))) b ps w' := by
  obtain ⟨g, cap, w', hr, hv, hg⟩ := run_app_flag h.hp hi ty x hb hn
  exact ⟨g, cap, w', hr, h.upd hv hg (h.far hi)⟩
theorem app_rv {A : Option Addr} {n c : Nat} {vs : List (Option Addr × Nat)} {rows : List (List Int)} (h : HMP W l b ps w) (hi : l[i]? = some (rvals A n c vs rows)) (hvs : vs.length = rows.length) (ty : TypeId) {g0 : Nat} (C : Option Addr) (ℓ d : Nat) (row : List Int) (hℓ : row.length = ℓ)
    (hb : w.cell? ⟨g0, 0, none⟩ = some (.slice C ℓ d)) (hn : n ≤ 4000000000000) :
    ∃ g2 cap w', (Builtin.append_ #[22, 22] ty #[.slice A n c, .slice (some ⟨g0, 0, none⟩) 1 1]).run Try.prog w = .ok (.slice (some ⟨g2, 0, none⟩) (n + 1) cap) w' ∧
      HMP W (l.set i (rvals (some ⟨g2, 0, none⟩) (n + 1) cap (vs ++ [(C, d)]) (rows ++ [row]))) b ps w' := by
  obtain ⟨g, cap, w', hr, hv, hg⟩ := run_app_rv h.hp hi hvs ty C ℓ d row hℓ hb hn
  exact ⟨g, cap, w', hr, h.upd hv hg (h.far hi)⟩
end HMP
theorem look_pint {T : TypeId} (hT : Try.prog.underlying T = some (.map 46 3)) (p : Int × Int) {w : World} {b : Nat} {ps : List ((Int × Int) × Value)} (h : MapIs w b ps) :
    (Instr.lookup T (.map (some b)) (pkey p) false).run Try.prog w = .ok (gotV (.int .i64 0) (findP p ps 0)) w := by
  obtain ⟨es, clock, hb, he⟩ := h
  have hk := find_keys p w he
  have hc := check_pair es.isEmpty p.1 p.2 w
  have hz : (zeroValue 3).run Try.prog w = .ok (.int .i64 0) w := by go_simp
  have hc2 : (Instr.checkKey es.isEmpty 10000 46 (pkey p)).run Try.prog w = .ok () w := hc
  cases e : findP p ps 0 with
  | none => rw [e] at hk; simp [Instr.lookup, run_underlying hT, MapKept.run_getObj_map hb, hc2, hk, hz, Result.andThen, gotV]
  | some x => rw [e] at hk; simp [Instr.lookup, run_underlying hT, MapKept.run_getObj_map hb, hc2, hk, hz, Result.andThen, gotV]
/-- Pairs with their places. -/
def psP : List (Int × Int) → Nat → List ((Int × Int) × Value)
  | [], _ => []
  | q :: r, n => (q, .int .i64 (n : Int)) :: psP r (n + 1)
theorem psP_snoc {q : Int × Int} : ∀ (l : List (Int × Int)) (n : Nat), psP (l ++ [q]) n = psP l n ++ [(q, .int .i64 ((n + l.length : Nat) : Int))]
  | [], n => by simp [psP]
  | x :: r, n => by
    show _ :: psP (r ++ [q]) (n + 1) = _ :: (psP r (n + 1) ++ _)
    rw [psP_snoc r (n + 1), show n + 1 + r.length = n + (x :: r).length by simp; omega]
theorem psP_no {p : Int × Int} : ∀ {l : List (Int × Int)} (n i : Nat), (∀ (j : Nat) q, l[j]? = some q → q ≠ p) → findP p (psP l n) i = none
  | [], n, i, _ => rfl
  | q :: r, n, i, h => by
    unfold psP findP
    rw [if_neg (fun e => h 0 q rfl e.symm)]
    exact psP_no (n + 1) (i + 1) fun j q' hj => h (j + 1) q' (by simpa using hj)
theorem psP_yes {p : Int × Int} : ∀ {l : List (Int × Int)} {j : Nat} (n i : Nat), l[j]? = some p → (∀ (j' : Nat), j' < j → l[j']? ≠ some p) → findP p (psP l n) i = some (i + j, .int .i64 ((n + j : Nat) : Int))
  | [], j, n, i, h, _ => by simp at h
  | y :: r, 0, n, i, h, _ => by
    injection h with h
    subst h
    unfold psP findP
    rw [if_pos rfl]; rfl
  | y :: r, j + 1, n, i, h, hn => by
    unfold psP findP
    rw [if_neg (fun e2 => hn 0 (by omega) (by rw [e2]; rfl))]
    rw [psP_yes (n + 1) (i + 1) (show r[j]? = some p by simpa using h) (fun j' hj hq => hn (j' + 1) (by omega) (by simpa using hq))]
    rw [show i + 1 + j = i + (j + 1) by omega, show n + 1 + j = n + (j + 1) by omega]
/-- The row of a pair, up to a letter. -/
def RowP (A B : Au) (l : List (Int × Int)) (p : Int × Int) (c : Nat) (row : List Int) : Prop := row.length = c ∧ ∀ e : Nat, e < c → ∃ i : Nat, row.getD e (-1) = (i : Int) ∧ l[i]? = some (sc2 A B p e)
theorem RowP.snoc {A B : Au} {l : List (Int × Int)} {p : Int × Int} {c i : Nat} {row : List Int} (h : RowP A B l p c row) (hi : l[i]? = some (sc2 A B p c)) : RowP A B l p (c + 1) (row ++ [(i : Int)]) := by
  refine ⟨by rw [List.length_append, h.1]; rfl, fun e he => ?_⟩
  by_cases ee : e = c
  · subst ee
    exact ⟨i, by rw [← h.1, getD_last], hi⟩
  · rw [getD_snoc (by rw [h.1]; omega)]
    exact h.2 e (by omega)
/-- The automaton of the pairs, up to a pair. -/
structure PSt (A B : Au) (k : Nat) (kd : Int) (l : List (Int × Int)) (RW : List (List Int)) (acs : List Bool) (i : Nat) : Prop where
  rl : RW.length = i
  rows : ∀ (j : Nat) row, RW[j]? = some row → ∃ p, l[j]? = some p ∧ RowP A B l p k row
  al : acs.length = i
  acs : ∀ (j : Nat) b, acs[j]? = some b → ∃ p, l[j]? = some p ∧ b = combF kd (A.acc p.1) (B.acc p.2)
theorem PSt.start {A B : Au} {k : Nat} {kd : Int} {l : List (Int × Int)} : PSt A B k kd l [] [] 0 := ⟨rfl, fun j row h => by simp at h, rfl, fun j b h => by simp at h⟩
theorem PSt.close {A B : Au} {k i : Nat} {kd : Int} {l : List (Int × Int)} {RW : List (List Int)} {acs : List Bool} (h : PSt A B k kd l RW acs i) {p : Int × Int} (hp : l[i]? = some p) {row : List Int} (hr : RowP A B l p k row) {b : Bool} (hb : b = combF kd (A.acc p.1) (B.acc p.2)) : PSt A B k kd l (RW ++ [row]) (acs ++ [b]) (i + 1) := by
  refine ⟨by rw [List.length_append, h.rl]; rfl, fun j r hj => ?_, by rw [List.length_append, h.al]; rfl, fun j b' hj => ?_⟩
  · rcases get_snoc hj with ⟨_, e⟩ | ⟨e, rfl⟩
    · exact h.rows j r e
    · exact ⟨p, by rw [e, h.rl]; exact hp, hr⟩
  · rcases get_snoc hj with ⟨_, e⟩ | ⟨e, rfl⟩
    · exact h.acs j b' e
    · exact ⟨p, by rw [e, h.al]; exact hp, hb⟩
/-- The automaton of the pairs. -/
def pairA (k : Nat) (RW : List (List Int)) (acs : List Bool) : Au := ⟨k, RW, acs, 0⟩
theorem PSt.right {A B : Au} {k : Nat} {kd : Int} {l : List (Int × Int)} {RW : List (List Int)} {acs : List Bool} (h : PSt A B k kd l RW acs l.length) (hk : 0 < k) (h0 : 0 < l.length) : (pairA k RW acs).Right k := by
  have hn : (pairA k RW acs).n = l.length := h.rl
  refine ⟨rfl, hk, fun i row hr => ?_, by show acs.length = RW.length; rw [h.al, h.rl], fun h1 => by omega, fun _ => ⟨by show (0 : Int) ≤ 0; omega, by rw [hn]; show (0 : Int) < _; omega⟩⟩
  obtain ⟨p, hp, h1, h2⟩ := h.rows i row hr
  refine ⟨h1, fun x hx => ?_⟩
  obtain ⟨c, hc⟩ := List.mem_iff_getElem?.1 hx
  have hcl := (List.getElem?_eq_some_iff.1 hc).1
  obtain ⟨j, e1, e2⟩ := h2 c (by omega)
  rw [List.getD_eq_getElem?_getD, hc] at e1
  have e1 : x = (j : Int) := e1
  have := (List.getElem?_eq_some_iff.1 e2).1
  rw [hn, e1]
  omega
theorem PSt.lang {A B : Au} {k : Nat} {kd : Int} {l : List (Int × Int)} {RW : List (List Int)} {acs : List Bool} (h : PSt A B k kd l RW acs l.length) (hf : l[0]? = some (A.st, B.st)) (u : List Nat) (hu : Let k u) : (pairA k RW acs).lang u = combF kd (A.lang u) (B.lang u) := by
  have key : ∀ (u : List Nat), Let k u → ∀ (j : Nat) p, l[j]? = some p → ∃ i : Nat, (pairA k RW acs).run (j : Int) u = (i : Int) ∧ l[i]? = some (u.foldl (sc2 A B) p) := by
    intro u
    induction u with
    | nil => intro _ j p hp; exact ⟨j, rfl, hp⟩
    | cons c u ih =>
      intro hu j p hp
      have hjl := (List.getElem?_eq_some_iff.1 hp).1
      obtain ⟨row, hrw⟩ : ∃ row, RW[j]? = some row := ⟨_, List.getElem?_eq_getElem (show j < RW.length by rw [h.rl]; exact hjl)⟩
      obtain ⟨q, hq, h1, h2⟩ := h.rows j row hrw
      rw [hp] at hq
      injection hq with hq
      subst hq
      obtain ⟨i, e1, e2⟩ := h2 c hu.cons.1
      have hgo : (pairA k RW acs).go (j : Int) c = (i : Int) := by
        unfold Au.go
        rw [if_neg (by omega), Int.toNat_natCast]
        show (RW.getD j []).getD c (-1) = _
        rw [List.getD_eq_getElem?_getD (l := RW), hrw]; exact e1
      rw [Au.run_cons, hgo, List.foldl_cons]
      exact ih hu.cons.2 i _ e2
  obtain ⟨i, h1, h2⟩ := key u hu 0 _ hf
  rw [fold2] at h2
  show (pairA k RW acs).acc ((pairA k RW acs).run (((0 : Nat)) : Int) u) = _
  rw [h1, acc_nat]
  have hil := (List.getElem?_eq_some_iff.1 h2).1
  obtain ⟨av, hac⟩ : ∃ v, acs[i]? = some v := ⟨_, List.getElem?_eq_getElem (show i < acs.length by rw [h.al]; exact hil)⟩
  obtain ⟨q, hq, e⟩ := h.acs i av hac
  rw [h2] at hq
  injection hq with hq
  subst hq
  show acs.getD i false = _
  rw [List.getD_eq_getElem?_getD, hac]
  exact e
/-- What Product is to return. -/
def ProdR (A B : Au) (kd : Int) (R : Au) (er : Int) : Prop :=
  (Au.pE A B = 1 ∧ R = zA ∧ er = 1) ∨ ∃ k, A.Vld k ∧ B.Vld k ∧ ((¬ (kd = 1 ∨ kd = 2 ∨ kd = 3) ∧ R = zA ∧ er = 6) ∨ ((kd = 1 ∨ kd = 2 ∨ kd = 3) ∧ ∃ Q, Canon k (fun u => combF kd (A.lang u) (B.lang u)) Q ∧ ((Q.n ≤ 400 ∧ R = Q ∧ er = 0) ∨ (400 < Q.n ∧ R = zA ∧ er = 3))))
theorem ProdR.uniq {A B R S : Au} {kd er es : Int} (h : ProdR A B kd R er) (g : ProdR A B kd S es) : R = S ∧ er = es := by
  rcases h with ⟨h1, h2, h3⟩ | ⟨k, h1, h2, h3⟩ <;> rcases g with ⟨g1, g2, g3⟩ | ⟨k', g1, g2, g3⟩
  · exact ⟨h2.trans g2.symm, h3.trans g3.symm⟩
  · exact absurd (h1.symm.trans (Au.pE_mk g1 g2)) (by decide)
  · exact absurd (g1.symm.trans (Au.pE_mk h1 h2)) (by decide)
  · obtain rfl := vldU h1 g1
    rcases h3 with ⟨a1, a2, a3⟩ | ⟨a1, Q, a2, a3⟩ <;> rcases g3 with ⟨b1, b2, b3⟩ | ⟨b1, Q', b2, b3⟩
    · exact ⟨a2.trans b2.symm, a3.trans b3.symm⟩
    · exact absurd b1 a1
    · exact absurd a1 b1
    · obtain rfl := a2.uniq b2
      rcases a3 with ⟨c1, c2, c3⟩ | ⟨c1, c2, c3⟩ <;> rcases b3 with ⟨d1, d2, d3⟩ | ⟨d1, d2, d3⟩
      · exact ⟨c2.trans d2.symm, c3.trans d3.symm⟩
      · omega
      · omega
      · exact ⟨c2.trans d2.symm, c3.trans d3.symm⟩
def ProdV (A B : Au) (kd : Int) (w : World) (e : Ending) (w' : World) : Prop :=
  ∃ y R er, e = .returned (.tuple #[dval y R, .int .i64 er]) ∧ ProdR A B kd R er ∧ DfaIn w' y R ∧ Below w.heap.size w w'
theorem prodV_any (x y : DV) (A B : Au) (kd : Int) (W : World) (hA : DfaIn W x A) (hB : DfaIn W y B) : Calls Try.prog 26 #[dval x A, dval y B, .int .i64 kd] W (ProdV A B kd W) := by
  refine (product_any x y A B kd W hA hB).mono ?_
  rintro e w' ⟨hb, ⟨h1, rfl⟩ | ⟨k, v1, v2, ⟨h2, rfl⟩ | ⟨h2, _, R, hc, hr⟩⟩⟩
  · exact ⟨zV, zA, 1, rfl, .inl ⟨h1, rfl, rfl⟩, zA_in w', hb⟩
  · exact ⟨zV, zA, 6, rfl, .inr ⟨k, v1, v2, .inl ⟨h2, rfl, rfl⟩⟩, zA_in w', hb⟩
  · rcases hr with ⟨h4, y, rfl, hm, ho⟩ | ⟨h4, rfl⟩
    · exact ⟨y, R, 0, rfl, .inr ⟨k, v1, v2, .inr ⟨h2, R, hc, .inl ⟨h4, rfl, rfl⟩⟩⟩, ho.dfa hm, hb⟩
    · exact ⟨zV, zA, 3, rfl, .inr ⟨k, v1, v2, .inr ⟨h2, R, hc, .inr ⟨h4, rfl, rfl⟩⟩⟩, zA_in w', hb⟩
def SmallV (M : Au) (k : Nat) (w : World) (e : Ending) (w' : World) : Prop :=
  ∃ y R ok, e = .returned (.tuple #[dval y R, .bool ok]) ∧ (∃ Q, Canon k (fun u => M.lang u) Q ∧ ((ok = true ∧ Q.n ≤ 400 ∧ R = Q ∧ OwnR w w' y R) ∨ (ok = false ∧ 400 < Q.n ∧ R = zA ∧ y = zV))) ∧ Below w.heap.size w w'
set_option maxHeartbeats 8000000 in
theorem rsmallV_any (x : DV) (A : Au) (k : Nat) (W : World) (h : GoodL W x A k) : Calls Try.prog 57 #[dval x A] W (SmallV A k W) := by
  have G := Lib.hid h
  clear h
  obtain ⟨wz, hwz⟩ : ∃ z, z = ((W.alloc (.cells #[.int .i64 A.lt, .int .i64 A.st, .slice x.A x.n x.c, .slice x.B x.m x.d] 25)).alloc (.cells #[.int .i64 0, .int .i64 0, .slice none 0 0, .slice none 0 0] 25)) := ⟨_, rfl⟩
  have V := Lib.hid (show Hp W [box 25 (W.heap.size + 1) [.int .i64 0, .int .i64 0, .slice none 0 0, .slice none 0 0], box 25 W.heap.size [.int .i64 A.lt, .int .i64 A.st, .slice x.A x.n x.c, .slice x.B x.m x.d]] wz by
    have := (((Hp.start W).box_new 25 [.int .i64 A.lt, .int .i64 A.st, .slice x.A x.n x.c, .slice x.B x.m x.d]).box_new 25 [.int .i64 0, .int .i64 0, .slice none 0 0, .slice none 0 0])
    rw [hwz]; simpa using this)
  have HZ := Lib.hid hwz
  clear hwz
  go_enter Try.func57, Try.ntmps57
  go_upto_region 1 with fail
  rw [← HZ.out]
  clear HZ
  obtain ⟨r1_0, _, r1_9⟩ := V.out.box_at (i := 1) (j := 0) rfl rfl
  obtain ⟨r1_1, _, _⟩ := V.out.box_at (i := 1) (j := 1) rfl rfl
  obtain ⟨r1_2, _, _⟩ := V.out.box_at (i := 1) (j := 2) rfl rfl
  obtain ⟨r1_3, _, _⟩ := V.out.box_at (i := 1) (j := 3) rfl rfl
  go_wp2_with fail
  refine (rminimal_any x A k wz (G.out.below V.out.below)).mono ?_
  rintro e w3 ⟨R, y, hc, rfl, vs, hvs, h8, hyn, hym, hp⟩
  have HC := Lib.hid hc
  have HVS := Lib.hid hvs
  have H8 := Lib.hid h8
  have HYM := Lib.hid hym
  have HRN := Lib.hid (show y.n = R.n from OwnR.n_eq ⟨vs, hvs, h8, hyn, hym, hp⟩)
  have V3 := Lib.hid (show Hp W ([box 25 (W.heap.size + 1) [.int .i64 0, .int .i64 0, .slice none 0 0, .slice none 0 0], box 25 W.heap.size [.int .i64 A.lt, .int .i64 A.st, .slice x.A x.n x.c, .slice x.B x.m x.d], rvals y.A y.n y.c vs R.nx, flags y.B y.m y.d R.ac] ++ rowsG vs R.nx) w3 from (V.out.join hp).comm)
  clear hc hvs h8 hym hp V r1_9 r1_0 r1_1 r1_2 r1_3
  obtain ⟨w4, hw4⟩ : ∃ zz, zz = w3.alloc (.cells #[.int .i64 R.lt, .int .i64 R.st, .slice y.A y.n y.c, .slice y.B y.m y.d] 25) := ⟨_, rfl⟩
  obtain ⟨gm, hgm⟩ : ∃ zz, zz = w3.heap.size := ⟨_, rfl⟩
  have V4 := Lib.hid (show Hp W (box 25 gm [.int .i64 R.lt, .int .i64 R.st, .slice y.A y.n y.c, .slice y.B y.m y.d] :: ([box 25 (W.heap.size + 1) [.int .i64 0, .int .i64 0, .slice none 0 0, .slice none 0 0], box 25 W.heap.size [.int .i64 A.lt, .int .i64 A.st, .slice x.A x.n x.c, .slice x.B x.m x.d], rvals y.A y.n y.c vs R.nx, flags y.B y.m y.d R.ac] ++ rowsG vs R.nx)) w4 by rw [hw4, hgm]; exact V3.out.box_new 25 [.int .i64 R.lt, .int .i64 R.st, .slice y.A y.n y.c, .slice y.B y.m y.d])
  have HH := Lib.hid hw4
  have HG := Lib.hid hgm
  clear hw4 hgm
  go_upto_region 2 with fail
  rw [← HH.out, ← HG.out]
  clear HH HG V3
  obtain ⟨m0, _, m90⟩ := V4.out.box_at (i := 0) (j := 0) rfl rfl
  obtain ⟨m1, _, m91⟩ := V4.out.box_at (i := 0) (j := 1) rfl rfl
  obtain ⟨m2, _, m92⟩ := V4.out.box_at (i := 0) (j := 2) rfl rfl
  obtain ⟨m3, _, m93⟩ := V4.out.box_at (i := 0) (j := 3) rfl rfl
  by_cases h4 : y.n ≤ 400
  · have h5 : ¬ (400 < (y.n : Int)) := by omega
    obtain ⟨z0, y0, z90⟩ := V4.out.box_at (i := 1) (j := 0) rfl rfl
    obtain ⟨z1, y1, z91⟩ := V4.out.box_at (i := 1) (j := 1) rfl rfl
    obtain ⟨z2, y2, z92⟩ := V4.out.box_at (i := 1) (j := 2) rfl rfl
    obtain ⟨z3, y3, z93⟩ := V4.out.box_at (i := 1) (j := 3) rfl rfl
    have VE := Lib.hid ((((V4.out.box_set (i := 1) rfl 0 (.int .i64 R.lt)).box_set (i := 1) rfl 1 (.int .i64 R.st)).box_set (i := 1) rfl 2 (.slice y.A y.n y.c)).box_set (i := 1) rfl 3 (.slice y.B y.m y.d))
    obtain ⟨u0, _, _⟩ := VE.out.box_at (i := 1) (j := 0) rfl rfl
    obtain ⟨u1, _, _⟩ := VE.out.box_at (i := 1) (j := 1) rfl rfl
    obtain ⟨u2, _, _⟩ := VE.out.box_at (i := 1) (j := 2) rfl rfl
    obtain ⟨u3, _, _⟩ := VE.out.box_at (i := 1) (j := 3) rfl rfl
    have HP := Lib.hid (show SmallV A k W (.returned (.tuple #[.agg #[.int .i64 R.lt, .int .i64 R.st, .slice y.A y.n y.c, .slice y.B y.m y.d], .bool true])) _ from ⟨y, R, true, rfl, ⟨R, HC.out, .inl ⟨rfl, by rw [← HRN.out]; exact h4, rfl, vs, HVS.out, H8.out, hyn, HYM.out, VE.out.tail.tail.tail⟩⟩, VE.out.below⟩)
    clear V4 VE
    go_wp2_with fail
    exact bodyPost_ret (v := .tuple #[.agg #[.int .i64 R.lt, .int .i64 R.st, .slice y.A y.n y.c, .slice y.B y.m y.d], .bool true]) (by simp [results, Try.results57, go_sem, u0, u1, u2, u3]) rfl HP.out
  · have h5 : 400 < (y.n : Int) := by omega
    obtain ⟨z0, y0, z90⟩ := V4.out.box_at (i := 1) (j := 0) rfl rfl
    obtain ⟨z1, y1, z91⟩ := V4.out.box_at (i := 1) (j := 1) rfl rfl
    obtain ⟨z2, y2, z92⟩ := V4.out.box_at (i := 1) (j := 2) rfl rfl
    obtain ⟨z3, y3, z93⟩ := V4.out.box_at (i := 1) (j := 3) rfl rfl
    have VE := Lib.hid ((((V4.out.box_set (i := 1) rfl 0 (.int .i64 0)).box_set (i := 1) rfl 1 (.int .i64 0)).box_set (i := 1) rfl 2 (.slice none 0 0)).box_set (i := 1) rfl 3 (.slice none 0 0))
    obtain ⟨u0, _, _⟩ := VE.out.box_at (i := 1) (j := 0) rfl rfl
    obtain ⟨u1, _, _⟩ := VE.out.box_at (i := 1) (j := 1) rfl rfl
    obtain ⟨u2, _, _⟩ := VE.out.box_at (i := 1) (j := 2) rfl rfl
    obtain ⟨u3, _, _⟩ := VE.out.box_at (i := 1) (j := 3) rfl rfl
    have HP := Lib.hid (show SmallV A k W (.returned (.tuple #[.agg #[.int .i64 0, .int .i64 0, .slice none 0 0, .slice none 0 0], .bool false])) _ from ⟨zV, zA, false, rfl, ⟨R, HC.out, .inr ⟨rfl, by rw [← HRN.out]; omega, rfl, rfl⟩⟩, VE.out.below⟩)
    clear V4 VE
    go_wp2_with fail
    exact bodyPost_ret (v := .tuple #[.agg #[.int .i64 0, .int .i64 0, .slice none 0 0, .slice none 0 0], .bool false]) (by simp [results, Try.results57, go_sem, u0, u1, u2, u3]) rfl HP.out
theorem Hp.back8 {W w : World} {a b c d e f g h : Itm} {R1 N : List Itm} (hp : Hp W (a :: b :: c :: d :: e :: f :: g :: h :: (R1 ++ N)) w) : Hp W N w :=
  hp.tail.tail.tail.tail.tail.tail.tail.tail.sub (fun i => i + R1.length) (fun i j e => by omega) (fun i it hi => by rw [List.getElem?_append_right (by omega), Nat.add_sub_cancel]; exact hi)
set_option maxHeartbeats 64000000 in
theorem rprodV_any (x y : DV) (A B : Au) (kd : Int) (W : World) (hA : DfaIn W x A) (hB : DfaIn W y B) : Calls Try.prog 27 #[dval x A, dval y B, .int .i64 kd] W (ProdV A B kd W) := by
  have HA := Lib.hid hA
  have HB := Lib.hid hB
  have hmk : ∀ w : World, (Instr.makeMap 79 none).run Try.prog w = .ok (.map (some w.heap.size)) (w.alloc (.map #[] 0)) := fun w => by unfold Instr.makeMap; go_simp
  have HMK := Lib.hid hmk
  clear hA hB hmk
  obtain ⟨wz, hwz⟩ : ∃ z, z = (((W.alloc (.cells #[.int .i64 A.lt, .int .i64 A.st, .slice x.A x.n x.c, .slice x.B x.m x.d] 25)).alloc (.cells #[.int .i64 B.lt, .int .i64 B.st, .slice y.A y.n y.c, .slice y.B y.m y.d] 25)).alloc (.cells #[.int .i64 0, .int .i64 0, .slice none 0 0, .slice none 0 0] 25)) := ⟨_, rfl⟩
  have V := Lib.hid (show Hp W [box 25 (W.heap.size + 1 + 1) [.int .i64 0, .int .i64 0, .slice none 0 0, .slice none 0 0], box 25 (W.heap.size + 1) [.int .i64 B.lt, .int .i64 B.st, .slice y.A y.n y.c, .slice y.B y.m y.d], box 25 W.heap.size [.int .i64 A.lt, .int .i64 A.st, .slice x.A x.n x.c, .slice x.B x.m x.d]] wz by
    have := ((((Hp.start W).box_new 25 [.int .i64 A.lt, .int .i64 A.st, .slice x.A x.n x.c, .slice x.B x.m x.d]).box_new 25 [.int .i64 B.lt, .int .i64 B.st, .slice y.A y.n y.c, .slice y.B y.m y.d]).box_new 25 [.int .i64 0, .int .i64 0, .slice none 0 0, .slice none 0 0])
    rw [hwz]; simpa using this)
  have HZ := Lib.hid hwz
  clear hwz
  by_cases hp : Au.pE A B = 0
  case neg =>
    have hp1 : Au.pE A B = 1 := by rcases Au.pE_cases A B with e | e; exact absurd e hp; exact e
    have HE := Lib.hid hp1
    clear hp1 hp
    go_enter Try.func27, Try.ntmps27
    go_upto_region 1 with fail
    rw [← HZ.out]
    clear HZ
    obtain ⟨r1_0, _, r1_9⟩ := V.out.box_at (i := 1) (j := 0) rfl rfl
    obtain ⟨r1_1, _, _⟩ := V.out.box_at (i := 1) (j := 1) rfl rfl
    obtain ⟨r1_2, _, _⟩ := V.out.box_at (i := 1) (j := 2) rfl rfl
    obtain ⟨r1_3, _, _⟩ := V.out.box_at (i := 1) (j := 3) rfl rfl
    obtain ⟨r2_0, _, r2_9⟩ := V.out.box_at (i := 2) (j := 0) rfl rfl
    obtain ⟨r2_1, _, _⟩ := V.out.box_at (i := 2) (j := 1) rfl rfl
    obtain ⟨r2_2, _, _⟩ := V.out.box_at (i := 2) (j := 2) rfl rfl
    obtain ⟨r2_3, _, _⟩ := V.out.box_at (i := 2) (j := 3) rfl rfl
    go_wp2_with fail
    refine (rboth_any x y A B wz (HA.out.below V.out.below) (HB.out.below V.out.below)).mono ?_
    rintro e w1 ⟨rfl, b1⟩
    have V1 := Lib.hid (V.out.go b1)
    rw [HE.out]
    clear b1 V r1_9 r1_0 r1_1 r1_2 r1_3 r2_9 r2_0 r2_1 r2_2 r2_3
    obtain ⟨z0, y0, z90⟩ := V1.out.box_at (i := 0) (j := 0) rfl rfl
    obtain ⟨z1, y1, z91⟩ := V1.out.box_at (i := 0) (j := 1) rfl rfl
    obtain ⟨z2, y2, z92⟩ := V1.out.box_at (i := 0) (j := 2) rfl rfl
    obtain ⟨z3, y3, z93⟩ := V1.out.box_at (i := 0) (j := 3) rfl rfl
    have VE := Lib.hid ((((V1.out.box_set (i := 0) rfl 0 (.int .i64 0)).box_set (i := 0) rfl 1 (.int .i64 0)).box_set (i := 0) rfl 2 (.slice none 0 0)).box_set (i := 0) rfl 3 (.slice none 0 0))
    obtain ⟨u0, _, _⟩ := VE.out.box_at (i := 0) (j := 0) rfl rfl
    obtain ⟨u1, _, _⟩ := VE.out.box_at (i := 0) (j := 1) rfl rfl
    obtain ⟨u2, _, _⟩ := VE.out.box_at (i := 0) (j := 2) rfl rfl
    obtain ⟨u3, _, _⟩ := VE.out.box_at (i := 0) (j := 3) rfl rfl
    have HP := Lib.hid (show ProdV A B kd W (.returned (.tuple #[.agg #[.int .i64 0, .int .i64 0, .slice none 0 0, .slice none 0 0], .int .i64 1])) _ from ⟨zV, zA, 1, rfl, .inl ⟨HE.out, rfl, rfl⟩, zA_in _, VE.out.below⟩)
    clear V1 VE
    go_wp2_with fail
    exact bodyPost_ret (v := .tuple #[.agg #[.int .i64 0, .int .i64 0, .slice none 0 0, .slice none 0 0], .int .i64 1]) (by simp [results, Try.results27, go_sem, u0, u1, u2, u3]) rfl HP.out
  have HE := Lib.hid hp
  obtain ⟨k, hka, hkb⟩ := Au.pE_ok hp
  have HKA := Lib.hid hka
  have HKB := Lib.hid hkb
  have hk0 := hka.right.pos
  have hk8 := hka.k8
  have HLT := Lib.hid hka.right.lt
  have HLB := Lib.hid hkb.right.lt
  clear hp hka hkb
  go_enter Try.func27, Try.ntmps27
  go_upto_region 1 with fail
  rw [← HZ.out]
  clear HZ
  obtain ⟨r1_0, _, r1_9⟩ := V.out.box_at (i := 1) (j := 0) rfl rfl
  obtain ⟨r1_1, _, _⟩ := V.out.box_at (i := 1) (j := 1) rfl rfl
  obtain ⟨r1_2, _, _⟩ := V.out.box_at (i := 1) (j := 2) rfl rfl
  obtain ⟨r1_3, _, _⟩ := V.out.box_at (i := 1) (j := 3) rfl rfl
  obtain ⟨r2_0, _, r2_9⟩ := V.out.box_at (i := 2) (j := 0) rfl rfl
  obtain ⟨r2_1, _, _⟩ := V.out.box_at (i := 2) (j := 1) rfl rfl
  obtain ⟨r2_2, _, _⟩ := V.out.box_at (i := 2) (j := 2) rfl rfl
  obtain ⟨r2_3, _, _⟩ := V.out.box_at (i := 2) (j := 3) rfl rfl
  go_wp2_with fail
  refine (rboth_any x y A B wz (HA.out.below V.out.below) (HB.out.below V.out.below)).mono ?_
  rintro e w1 ⟨rfl, b1⟩
  have V1 := Lib.hid (V.out.go b1)
  rw [HE.out]
  clear b1 V r1_9 r1_0 r1_1 r1_2 r1_3 r2_9 r2_0 r2_1 r2_2 r2_3
  by_cases hkd : kd = 1 ∨ kd = 2 ∨ kd = 3
  case neg =>
    have HKD := Lib.hid hkd
    have hor : kd < 1 ∨ 3 < kd := by omega
    obtain ⟨z0, y0, z90⟩ := V1.out.box_at (i := 0) (j := 0) rfl rfl
    obtain ⟨z1, y1, z91⟩ := V1.out.box_at (i := 0) (j := 1) rfl rfl
    obtain ⟨z2, y2, z92⟩ := V1.out.box_at (i := 0) (j := 2) rfl rfl
    obtain ⟨z3, y3, z93⟩ := V1.out.box_at (i := 0) (j := 3) rfl rfl
    have VE := Lib.hid ((((V1.out.box_set (i := 0) rfl 0 (.int .i64 0)).box_set (i := 0) rfl 1 (.int .i64 0)).box_set (i := 0) rfl 2 (.slice none 0 0)).box_set (i := 0) rfl 3 (.slice none 0 0))
    obtain ⟨u0, _, _⟩ := VE.out.box_at (i := 0) (j := 0) rfl rfl
    obtain ⟨u1, _, _⟩ := VE.out.box_at (i := 0) (j := 1) rfl rfl
    obtain ⟨u2, _, _⟩ := VE.out.box_at (i := 0) (j := 2) rfl rfl
    obtain ⟨u3, _, _⟩ := VE.out.box_at (i := 0) (j := 3) rfl rfl
    have HP := Lib.hid (show ProdV A B kd W (.returned (.tuple #[.agg #[.int .i64 0, .int .i64 0, .slice none 0 0, .slice none 0 0], .int .i64 6])) _ from ⟨zV, zA, 6, rfl, .inr ⟨k, HKA.out, HKB.out, .inl ⟨HKD.out, rfl, rfl⟩⟩, zA_in _, VE.out.below⟩)
    clear V1 VE hkd
    rcases hor with hlo | hhi
    · go_wp2_with fail
      exact bodyPost_ret (v := .tuple #[.agg #[.int .i64 0, .int .i64 0, .slice none 0 0, .slice none 0 0], .int .i64 6]) (by simp [results, Try.results27, go_sem, u0, u1, u2, u3]) rfl HP.out
    · have hlo : ¬ kd < 1 := by omega
      go_wp2_with fail
      exact bodyPost_ret (v := .tuple #[.agg #[.int .i64 0, .int .i64 0, .slice none 0 0, .slice none 0 0], .int .i64 6]) (by simp [results, Try.results27, go_sem, u0, u1, u2, u3]) rfl HP.out
  have HKD := Lib.hid hkd
  have hlo : ¬ kd < 1 := by omega
  have hhi : ¬ 3 < kd := by omega
  clear hkd
  obtain ⟨r1_0, _, r1_9⟩ := V1.out.box_at (i := 1) (j := 0) rfl rfl
  obtain ⟨r1_1, _, _⟩ := V1.out.box_at (i := 1) (j := 1) rfl rfl
  obtain ⟨r1_2, _, _⟩ := V1.out.box_at (i := 1) (j := 2) rfl rfl
  obtain ⟨r1_3, _, _⟩ := V1.out.box_at (i := 1) (j := 3) rfl rfl
  obtain ⟨r2_0, _, r2_9⟩ := V1.out.box_at (i := 2) (j := 0) rfl rfl
  obtain ⟨r2_1, _, _⟩ := V1.out.box_at (i := 2) (j := 1) rfl rfl
  obtain ⟨r2_2, _, _⟩ := V1.out.box_at (i := 2) (j := 2) rfl rfl
  obtain ⟨r2_3, _, _⟩ := V1.out.box_at (i := 2) (j := 3) rfl rfl
  go_wp2_with fail
  refine (walk_any x y A B k w1 (HKA.out.good (HA.out.below V1.out.below)) (HKB.out.good (HB.out.below V1.out.below))).mono ?_
  rintro e w2 ⟨l, pa, F, g, n, c, rfl, hb, hF, hI, hv2⟩
  have HB2 := Lib.hid hb
  have HF := Lib.hid hF
  have HI := Lib.hid hI
  have V2 := Lib.hid (show Hp W [frow (some ⟨g, 0, none⟩) n c F, box 25 (W.heap.size + 1 + 1) [.int .i64 0, .int .i64 0, .slice none 0 0, .slice none 0 0], box 25 (W.heap.size + 1) [.int .i64 B.lt, .int .i64 B.st, .slice y.A y.n y.c, .slice y.B y.m y.d], box 25 W.heap.size [.int .i64 A.lt, .int .i64 A.st, .slice x.A x.n x.c, .slice x.B x.m x.d]] w2 from V1.out.join hv2)
  have hn : l.length = n := by have h1 := hF.len; have h2 := V2.out.found_len (i := 0) rfl; omega
  have hnb : n ≤ 1002001 := by
    have h1 := few2 hI hb.nd
    have h3 := Nat.mul_le_mul (show A.n + 1 ≤ 1001 by have := HKA.out.few; omega) (show B.n + 1 ≤ 1001 by have := HKB.out.few; omega)
    omega
  have h0l : 0 < n := by rw [← hn]; exact (List.getElem?_eq_some_iff.1 hb.first).1
  clear hb hF hI hv2 V1 r1_9 r1_0 r1_1 r1_2 r1_3 r2_9 r2_0 r2_1 r2_2 r2_3
  have HN := Lib.hid hn
  clear hn
  have hmk := HMK.out w2
  obtain ⟨wm, hwm⟩ : ∃ zz, zz = w2.alloc (.map #[] 0) := ⟨_, rfl⟩
  obtain ⟨bm, hbm⟩ : ∃ zz, zz = w2.heap.size := ⟨_, rfl⟩
  have VM := Lib.hid (show HMP W [frow (some ⟨g, 0, none⟩) n c F, box 25 (W.heap.size + 1 + 1) [.int .i64 0, .int .i64 0, .slice none 0 0, .slice none 0 0], box 25 (W.heap.size + 1) [.int .i64 B.lt, .int .i64 B.st, .slice y.A y.n y.c, .slice y.B y.m y.d], box 25 W.heap.size [.int .i64 A.lt, .int .i64 A.st, .slice x.A x.n x.c, .slice x.B x.m x.d]] bm (psP (l.take 0) 0) wm by rw [hwm, hbm]; exact HMP.made V2.out)
  have HH := Lib.hid hwm
  have HG := Lib.hid hbm
  clear hwm hbm
  go_upto_region 8 with fail
  rw [← HH.out, ← HG.out]
  clear HH HG hmk V2
  go_wp2_with fail
  go_loopw [11] (fun iv wr => ∃ i : Nat, iv = .int .i64 (i : Int) ∧ i ≤ n ∧ HMP W [frow (some ⟨g, 0, none⟩) n c F, box 25 (W.heap.size + 1 + 1) [.int .i64 0, .int .i64 0, .slice none 0 0, .slice none 0 0], box 25 (W.heap.size + 1) [.int .i64 B.lt, .int .i64 B.st, .slice y.A y.n y.c, .slice y.B y.m y.d], box 25 W.heap.size [.int .i64 A.lt, .int .i64 A.st, .slice x.A x.n x.c, .slice x.B x.m x.d]] bm (psP (l.take i) 0) wr) (fun iv _ => n - (intOf iv).toNat)
  case atStart => exact ⟨0, rfl, Nat.zero_le _, VM.out⟩
  case round =>
    clear VM
    obtain ⟨i, rfl, hin, hV⟩ := hrel
    obtain ⟨wi, rfl⟩ : ∃ wi : World, wi = wr := ⟨_, rfl⟩
    have V := Lib.hid hV
    clear hV
    by_cases hlt : i < n
    · obtain ⟨⟨p1, p2⟩, hp⟩ : ∃ p, l[i]? = some p := ⟨_, List.getElem?_eq_getElem (by have := HN.out; omega)⟩
      obtain ⟨f, t', hfi, _, _⟩ := HF.out.at' i _ hp
      obtain ⟨y1, y2, _, _, y9⟩ := V.out.hp.found_at (i := 0) rfl hfi
      have hno : findP (p1, p2) (psP (l.take i) 0) 0 = none := psP_no 0 0 fun j q hj e => by
        rw [e, List.getElem?_take] at hj
        split at hj
        · have := HB2.out.nd j i _ hj hp
          omega
        · cases hj
      obtain ⟨w5, hr5, hm5⟩ := HMP.put (T := 79) Try.underlying79 (p1, p2) (.int .i64 (i : Int)) V.out hno
      have V5 := Lib.hid (show HMP W [frow (some ⟨g, 0, none⟩) n c F, box 25 (W.heap.size + 1 + 1) [.int .i64 0, .int .i64 0, .slice none 0 0, .slice none 0 0], box 25 (W.heap.size + 1) [.int .i64 B.lt, .int .i64 B.st, .slice y.A y.n y.c, .slice y.B y.m y.d], box 25 W.heap.size [.int .i64 A.lt, .int .i64 A.st, .slice x.A x.n x.c, .slice x.B x.m x.d]] bm (psP (l.take (i + 1)) 0) w5 by
        rw [List.take_add_one, hp]
        show HMP W _ bm (psP (l.take i ++ [(p1, p2)]) 0) w5
        rw [psP_snoc, List.length_take, Nat.min_eq_left (by have := HN.out; omega), Nat.zero_add]
        exact hm5)
      clear hm5 hno hfi hp V
      go_wp2_with fail
      go_roundw
      case rel => exact ⟨i + 1, by go_num, by omega, V5.out⟩
      case measure => simp [intOf]; omega
    · obtain rfl : i = n := by omega
      have V1 := Lib.hid (show HMP W [frow (some ⟨g, 0, none⟩) i c F, box 25 (W.heap.size + 1 + 1) [.int .i64 0, .int .i64 0, .slice none 0 0, .slice none 0 0], box 25 (W.heap.size + 1) [.int .i64 B.lt, .int .i64 B.st, .slice y.A y.n y.c, .slice y.B y.m y.d], box 25 W.heap.size [.int .i64 A.lt, .int .i64 A.st, .slice x.A x.n x.c, .slice x.B x.m x.d]] bm (psP l 0) wi by have := V.out; rw [List.take_of_length_le (by have := HN.out; omega)] at this; exact this)
      clear V hlt hin
      obtain ⟨a0, _, a9⟩ := V1.out.hp.box_at (i := 3) (j := 0) rfl rfl
      rw [HLT.out] at a0
      obtain ⟨w4, hw4⟩ : ∃ zz, zz = wi.alloc (.cells #[.int .i64 (k : Int), .int .i64 0, .slice none 0 0, .slice none 0 0] 25) := ⟨_, rfl⟩
      obtain ⟨g1, hg1⟩ : ∃ zz, zz = wi.heap.size := ⟨_, rfl⟩
      have V4 := Lib.hid (show HMP W [box 25 g1 [.int .i64 (k : Int), .int .i64 0, .slice none 0 0, .slice none 0 0], frow (some ⟨g, 0, none⟩) i c F, box 25 (W.heap.size + 1 + 1) [.int .i64 0, .int .i64 0, .slice none 0 0, .slice none 0 0], box 25 (W.heap.size + 1) [.int .i64 B.lt, .int .i64 B.st, .slice y.A y.n y.c, .slice y.B y.m y.d], box 25 W.heap.size [.int .i64 A.lt, .int .i64 A.st, .slice x.A x.n x.c, .slice x.B x.m x.d]] bm (psP l 0) w4 by rw [hw4, hg1]; exact V1.out.box_new 25 [.int .i64 (k : Int), .int .i64 0, .slice none 0 0, .slice none 0 0])
      have HH := Lib.hid hw4
      have HG := Lib.hid hg1
      clear hw4 hg1
      go_upto_region 13 with fail
      rw [← HH.out, ← HG.out]
      clear HH HG V1 a0 a9
      go_wp2_with fail
      have V5 := Lib.hid (show HMP W ([box 25 g1 [.int .i64 (k : Int), .int .i64 0, .slice none 0 0, .slice none 0 0], rvals none 0 0 [] [], flags none 0 0 [], frow (some ⟨g, 0, none⟩) i c F, box 25 (W.heap.size + 1 + 1) [.int .i64 0, .int .i64 0, .slice none 0 0, .slice none 0 0], box 25 (W.heap.size + 1) [.int .i64 B.lt, .int .i64 B.st, .slice y.A y.n y.c, .slice y.B y.m y.d], box 25 W.heap.size [.int .i64 A.lt, .int .i64 A.st, .slice x.A x.n x.c, .slice x.B x.m x.d]] ++ rowsG [] []) bm (psP l 0) w4 from V4.out.with' (((V4.out.hp.nil_row (flags none 0 0 []) rfl rfl rfl).nil_row (rvals none 0 0 [] []) rfl rfl rfl).pick [2, 0, 1, 3, 4, 5, 6] (by decide) rfl))
      clear V4
      go_loopw [13] (fun iv wr => ∃ j : Nat, iv = .int .i64 (j : Int) ∧ j ≤ i ∧ ∃ (RW : List (List Int)) (acs : List Bool) (An : Option Addr) (cn : Nat) (Bn : Option Addr) (dn : Nat) (vs : List (Option Addr × Nat)), vs.length = RW.length ∧ PSt A B k kd l RW acs j ∧ HMP W ([box 25 g1 [.int .i64 (k : Int), .int .i64 0, .slice An j cn, .slice Bn j dn], rvals An j cn vs RW, flags Bn j dn acs, frow (some ⟨g, 0, none⟩) i c F, box 25 (W.heap.size + 1 + 1) [.int .i64 0, .int .i64 0, .slice none 0 0, .slice none 0 0], box 25 (W.heap.size + 1) [.int .i64 B.lt, .int .i64 B.st, .slice y.A y.n y.c, .slice y.B y.m y.d], box 25 W.heap.size [.int .i64 A.lt, .int .i64 A.st, .slice x.A x.n x.c, .slice x.B x.m x.d]] ++ rowsG vs RW) bm (psP l 0) wr) (fun iv _ => i - (intOf iv).toNat)
      case atStart => exact ⟨0, rfl, Nat.zero_le _, [], [], none, 0, none, 0, [], rfl, PSt.start, V5.out⟩
      case round =>
        clear V5
        obtain ⟨j, rfl, hjn, RW, acs, An, cn, Bn, dn, vs, hvs, hps, hV⟩ := hrel
        obtain ⟨wj, rfl⟩ : ∃ wj : World, wj = wr := ⟨_, rfl⟩
        have V := Lib.hid hV
        have HVS := Lib.hid hvs
        have HPS := Lib.hid hps
        clear hV hvs hps
        by_cases hlt : j < i
        · obtain ⟨⟨p1, p2⟩, hp⟩ : ∃ p, l[j]? = some p := ⟨_, List.getElem?_eq_getElem (by have := HN.out; omega)⟩
          obtain ⟨f, t', hfi, _, _⟩ := HF.out.at' j _ hp
          have HPJ := Lib.hid hp
          have HP1 := Lib.hid (show (-1 ≤ p1 ∧ p1 < A.n) ∧ -1 ≤ p2 ∧ p2 < B.n from HI.out j _ hp)
          obtain ⟨y1, y2, _, _, y9⟩ := V.out.hp.found_at (i := 3) rfl hfi
          clear hp
          obtain ⟨w5, hw5⟩ : ∃ zz, zz = wj.alloc (.cells #[.int .i64 p1, .int .i64 p2] 46) := ⟨_, rfl⟩
          obtain ⟨gp, hgp⟩ : ∃ zz, zz = wj.heap.size := ⟨_, rfl⟩
          have V6 := Lib.hid (show HMP W ([box 46 gp [.int .i64 p1, .int .i64 p2], box 25 g1 [.int .i64 (k : Int), .int .i64 0, .slice An j cn, .slice Bn j dn], rvals An j cn vs RW, flags Bn j dn acs, frow (some ⟨g, 0, none⟩) i c F, box 25 (W.heap.size + 1 + 1) [.int .i64 0, .int .i64 0, .slice none 0 0, .slice none 0 0], box 25 (W.heap.size + 1) [.int .i64 B.lt, .int .i64 B.st, .slice y.A y.n y.c, .slice y.B y.m y.d], box 25 W.heap.size [.int .i64 A.lt, .int .i64 A.st, .slice x.A x.n x.c, .slice x.B x.m x.d]] ++ rowsG vs RW) bm (psP l 0) w5 by rw [hw5, hgp]; exact V.out.box_new 46 [.int .i64 p1, .int .i64 p2])
          have HH := Lib.hid hw5
          have HG := Lib.hid hgp
          clear hw5 hgp
          go_upto_region 17 with fail
          rw [← HH.out, ← HG.out]
          clear HH HG V y1 y2 y9 hfi
          have V7 := Lib.hid (show HMP W ([nums none 0 0 [], box 46 gp [.int .i64 p1, .int .i64 p2], box 25 g1 [.int .i64 (k : Int), .int .i64 0, .slice An j cn, .slice Bn j dn], rvals An j cn vs RW, flags Bn j dn acs, frow (some ⟨g, 0, none⟩) i c F, box 25 (W.heap.size + 1 + 1) [.int .i64 0, .int .i64 0, .slice none 0 0, .slice none 0 0], box 25 (W.heap.size + 1) [.int .i64 B.lt, .int .i64 B.st, .slice y.A y.n y.c, .slice y.B y.m y.d], box 25 W.heap.size [.int .i64 A.lt, .int .i64 A.st, .slice x.A x.n x.c, .slice x.B x.m x.d]] ++ rowsG vs RW) bm (psP l 0) w5 from V6.out.with' (V6.out.hp.nil_row (nums none 0 0 []) rfl rfl rfl))
          clear V6
          go_wp2_with fail
          go_loopw [15, 16] (fun rv cv wr => ∃ e : Nat, cv = .int .i64 (e : Int) ∧ e ≤ k ∧ ∃ (row : List Int) (Ar : Option Addr) (cr : Nat), rv = .slice Ar e cr ∧ RowP A B l (p1, p2) e row ∧ HMP W ([nums Ar e cr row, box 46 gp [.int .i64 p1, .int .i64 p2], box 25 g1 [.int .i64 (k : Int), .int .i64 0, .slice An j cn, .slice Bn j dn], rvals An j cn vs RW, flags Bn j dn acs, frow (some ⟨g, 0, none⟩) i c F, box 25 (W.heap.size + 1 + 1) [.int .i64 0, .int .i64 0, .slice none 0 0, .slice none 0 0], box 25 (W.heap.size + 1) [.int .i64 B.lt, .int .i64 B.st, .slice y.A y.n y.c, .slice y.B y.m y.d], box 25 W.heap.size [.int .i64 A.lt, .int .i64 A.st, .slice x.A x.n x.c, .slice x.B x.m x.d]] ++ rowsG vs RW) bm (psP l 0) wr) (fun _ cv _ => k - (intOf cv).toNat)
          case atStart => exact ⟨0, rfl, Nat.zero_le _, [], none, 0, rfl, ⟨rfl, fun e h => absurd h (Nat.not_lt_zero _)⟩, V7.out⟩
          case round =>
            clear V7
            obtain ⟨e, rfl, hek, row, Ar, cr, rfl, hrow, hV⟩ := hrel
            obtain ⟨wl, rfl⟩ : ∃ wl : World, wl = wr := ⟨_, rfl⟩
            have V := Lib.hid hV
            have HRW := Lib.hid hrow
            clear hV hrow
            obtain ⟨a0, _, a9⟩ := V.out.hp.box_at (i := 8) (j := 0) rfl rfl
            rw [HLT.out] at a0
            by_cases hek2 : e < k
            · obtain ⟨z1, hz1⟩ : ∃ zz, zz = A.go p1 e := ⟨_, rfl⟩
              obtain ⟨z2, hz2⟩ : ∃ zz, zz = B.go p2 e := ⟨_, rfl⟩
              have SA := Lib.hid (show A.stepI p1 (e : Int) = z1 by rw [hz1]; exact Au.stepI_ok (by rw [HLT.out]; omega))
              have SB := Lib.hid (show B.stepI p2 (e : Int) = z2 by rw [hz2]; exact Au.stepI_ok (by rw [HLB.out]; omega))
              have HY := Lib.hid (show sc2 A B (p1, p2) e = (z1, z2) by rw [hz1, hz2]; rfl)
              clear hz1 hz2
              obtain ⟨d1, d2⟩ := pos_div (i := j) hek2
              obtain ⟨q, hq⟩ : ∃ q : Nat, l[q]? = some (z1, z2) := by
                rcases HB2.out.closed (j * k + e) (p1, p2) (pos_up hek2 (by rw [HN.out]; exact hlt)) (by rw [d1]; exact HPJ.out) with h | ⟨q, hq, _⟩
                · exact h.elim
                · rw [d2, HY.out] at hq; exact ⟨q, hq⟩
              have HQ := Lib.hid hq
              have HRW2 := Lib.hid (HRW.out.snoc (i := q) (by rw [HY.out]; exact hq))
              have HFP := Lib.hid (show gotV (.int .i64 0) (findP (z1, z2) (psP l 0) 0) = .int .i64 (q : Int) by
                rw [psP_yes 0 0 hq (fun j' hj h => by have := HB2.out.nd j' q _ h hq; omega), Nat.zero_add]; rfl)
              clear hq d1 d2
              go_upto_region 21 with fail
              have hKp : Keep [(⟨W.heap.size, 0, none⟩, .int .i64 A.lt), (⟨W.heap.size, 1, none⟩, .int .i64 A.st), (⟨W.heap.size, 2, none⟩, .slice x.A x.n x.c), (⟨W.heap.size, 3, none⟩, .slice x.B x.m x.d), (⟨W.heap.size + 1, 0, none⟩, .int .i64 B.lt), (⟨W.heap.size + 1, 1, none⟩, .int .i64 B.st), (⟨W.heap.size + 1, 2, none⟩, .slice y.A y.n y.c), (⟨W.heap.size + 1, 3, none⟩, .slice y.B y.m y.d), (⟨gp, 0, none⟩, .int .i64 p1), (⟨gp, 1, none⟩, .int .i64 p2)] wl := List.forall_mem_cons.2 ⟨⟨(V.out.hp.box_at (i := 8) (j := 0) rfl rfl).1, (V.out.hp.box_at (i := 8) (j := 0) rfl rfl).2.2⟩, List.forall_mem_cons.2 ⟨⟨(V.out.hp.box_at (i := 8) (j := 1) rfl rfl).1, (V.out.hp.box_at (i := 8) (j := 1) rfl rfl).2.2⟩, List.forall_mem_cons.2 ⟨⟨(V.out.hp.box_at (i := 8) (j := 2) rfl rfl).1, (V.out.hp.box_at (i := 8) (j := 2) rfl rfl).2.2⟩, List.forall_mem_cons.2 ⟨⟨(V.out.hp.box_at (i := 8) (j := 3) rfl rfl).1, (V.out.hp.box_at (i := 8) (j := 3) rfl rfl).2.2⟩, List.forall_mem_cons.2 ⟨⟨(V.out.hp.box_at (i := 7) (j := 0) rfl rfl).1, (V.out.hp.box_at (i := 7) (j := 0) rfl rfl).2.2⟩, List.forall_mem_cons.2 ⟨⟨(V.out.hp.box_at (i := 7) (j := 1) rfl rfl).1, (V.out.hp.box_at (i := 7) (j := 1) rfl rfl).2.2⟩, List.forall_mem_cons.2 ⟨⟨(V.out.hp.box_at (i := 7) (j := 2) rfl rfl).1, (V.out.hp.box_at (i := 7) (j := 2) rfl rfl).2.2⟩, List.forall_mem_cons.2 ⟨⟨(V.out.hp.box_at (i := 7) (j := 3) rfl rfl).1, (V.out.hp.box_at (i := 7) (j := 3) rfl rfl).2.2⟩, List.forall_mem_cons.2 ⟨⟨(V.out.hp.box_at (i := 1) (j := 0) rfl rfl).1, (V.out.hp.box_at (i := 1) (j := 0) rfl rfl).2.2⟩, List.forall_mem_cons.2 ⟨⟨(V.out.hp.box_at (i := 1) (j := 1) rfl rfl).1, (V.out.hp.box_at (i := 1) (j := 1) rfl rfl).2.2⟩, fun _ h => by simp at h⟩⟩⟩⟩⟩⟩⟩⟩⟩⟩
              refine wp_region_held_drew (S := Keep _) (by kernel_rfl) hKp.drew (fun hHeld => ?_)
              have Vd := Lib.hid (V.out.go (bdrew _))
              refine tk 0 ?_ rfl ?_ ?_; rotate_left; focus (intro w hSw; clear hSw; go_simp; try (with_reducible rfl))
              try simp only [Act.put, sA, sZ, sS]
              refine tk 1 ?_ rfl ?_ ?_; rotate_left; focus (intro w hSw; clear hSw; go_simp; try (with_reducible rfl))
              try simp only [Act.put, sA, sZ, sS]
              refine tk 2 ?_ rfl ?_ ?_; rotate_left
              · intro wl hSw
                have hSw : Keep _ wl := hSw
                have k0 : wl.cell? ⟨W.heap.size, 0, none⟩ = some (.int .i64 A.lt) := (hSw _ (.head _)).1
                have k1 : wl.cell? ⟨W.heap.size, 1, none⟩ = some (.int .i64 A.st) := (hSw _ (.tail _ (.head _))).1
                have k2 : wl.cell? ⟨W.heap.size, 2, none⟩ = some (.slice x.A x.n x.c) := (hSw _ (.tail _ (.tail _ (.head _)))).1
                have k3 : wl.cell? ⟨W.heap.size, 3, none⟩ = some (.slice x.B x.m x.d) := (hSw _ (.tail _ (.tail _ (.tail _ (.head _))))).1
                clear hSw
                go_simp
                try (with_reducible rfl)
              try simp only [Act.put, sA, sZ, sS]
              refine tk 3 ?_ rfl ?_ ?_; rotate_left; focus (intro w hSw; clear hSw; go_simp; try (with_reducible rfl))
              try simp only [Act.put, sA, sZ, sS]
              refine tk 4 ?_ rfl ?_ ?_; rotate_left
              · intro wl hSw
                have hSw : Keep _ wl := hSw
                have k0 : wl.cell? ⟨gp, 0, none⟩ = some (.int .i64 p1) := (hSw _ (.tail _ (.tail _ (.tail _ (.tail _ (.tail _ (.tail _ (.tail _ (.tail _ (.head _)))))))))).1
                clear hSw
                go_simp
                try (with_reducible rfl)
              try simp only [Act.put, sA, sZ, sS]
              refine tk 5 ?_ rfl ?_ ?_; rotate_left; focus (intro w hSw; clear hSw; go_simp; try (with_reducible rfl))
              try simp only [Act.put, sA, sZ, sS]
              refine tk 7 ?_ rfl ?_ ?_; rotate_left
              · intro wl hSw
                have hSw : Keep _ wl := hSw
                have k0 : wl.cell? ⟨W.heap.size + 1, 0, none⟩ = some (.int .i64 B.lt) := (hSw _ (.tail _ (.tail _ (.tail _ (.tail _ (.head _)))))).1
                have k1 : wl.cell? ⟨W.heap.size + 1, 1, none⟩ = some (.int .i64 B.st) := (hSw _ (.tail _ (.tail _ (.tail _ (.tail _ (.tail _ (.head _))))))).1
                have k2 : wl.cell? ⟨W.heap.size + 1, 2, none⟩ = some (.slice y.A y.n y.c) := (hSw _ (.tail _ (.tail _ (.tail _ (.tail _ (.tail _ (.tail _ (.head _)))))))).1
                have k3 : wl.cell? ⟨W.heap.size + 1, 3, none⟩ = some (.slice y.B y.m y.d) := (hSw _ (.tail _ (.tail _ (.tail _ (.tail _ (.tail _ (.tail _ (.tail _ (.head _))))))))).1
                clear hSw
                go_simp
                try (with_reducible rfl)
              try simp only [Act.put, sA, sZ, sS]
              refine tk 8 ?_ rfl ?_ ?_; rotate_left; focus (intro w hSw; clear hSw; go_simp; try (with_reducible rfl))
              try simp only [Act.put, sA, sZ, sS]
              refine tk 9 ?_ rfl ?_ ?_; rotate_left
              · intro wl hSw
                have hSw : Keep _ wl := hSw
                have k0 : wl.cell? ⟨gp, 1, none⟩ = some (.int .i64 p2) := (hSw _ (.tail _ (.tail _ (.tail _ (.tail _ (.tail _ (.tail _ (.tail _ (.tail _ (.tail _ (.head _))))))))))).1
                clear hSw
                go_simp
                try (with_reducible rfl)
              try simp only [Act.put, sA, sZ, sS]
              refine tk 10 ?_ rfl ?_ ?_; rotate_left; focus (intro w hSw; clear hSw; go_simp; try (with_reducible rfl))
              try simp only [Act.put, sA, sZ, sS]
              refine wpAnyH_ready (rs := [6]) (by kernel_rfl) (by simp) ?_
              refine AllReadyH.cons (List.getElem?_toArray.trans rfl) (fun K hK => ?_) AllReadyH.nil
              go_simp
              refine (rstep_any x A k p1 (e : Int) _ (HKA.out.good (HA.out.below Vd.out.below)) HP1.out.1.1 HP1.out.1.2).mono ?_
              rintro e w_6 ⟨rfl, b_6⟩
              try go_wp2_with fail
              rw [SA.out]
              have V_6 := Lib.hid (Vd.out.go b_6)
              refine hK.out _ _ (hHeld.go b_6) (fun hHeld => ?_)
              clear hK K
              try simp only [Act.put, sA, sZ, sS]
              refine wpAnyH_ready (rs := [11]) (by kernel_rfl) (by simp) ?_
              refine AllReadyH.cons (List.getElem?_toArray.trans rfl) (fun K hK => ?_) AllReadyH.nil
              go_simp
              refine (rstep_any y B k p2 (e : Int) _ (HKB.out.good (HB.out.below V_6.out.below)) HP1.out.2.1 HP1.out.2.2).mono ?_
              rintro e w_6_11 ⟨rfl, b_6_11⟩
              try go_wp2_with fail
              rw [SB.out]
              have V_6_11 := Lib.hid (V_6.out.go b_6_11)
              refine hK.out _ _ (hHeld.go b_6_11) (fun hHeld => ?_)
              clear hK K
              try simp only [Act.put, sA, sZ, sS]
              refine tk 12 ?_ rfl ?_ ?_; rotate_left; focus (intro w hSw; clear hSw; go_simp; try (with_reducible rfl))
              try simp only [Act.put, sA, sZ, sS]
              refine wpAnyH_ready (rs := [13]) (by kernel_rfl) (by simp) ?_
              refine AllReadyH.cons (List.getElem?_toArray.trans rfl) (fun K hK => ?_) AllReadyH.nil
              have hlk := look_pint (T := 79) Try.underlying79 (z1, z2) V_6_11.out.mp
              rw [HFP.out] at hlk
              go_simp
              try go_wp2_with fail
              clear hlk
              refine hK.out _ _ (hHeld) (fun hHeld => ?_)
              clear hK K
              try simp only [Act.put, sA, sZ, sS]
              refine wpAnyH_ready (rs := [14]) (by kernel_rfl) (by simp) ?_
              refine AllReadyH.cons (List.getElem?_toArray.trans rfl) (fun K hK => ?_) AllReadyH.nil
              obtain ⟨w_6_11_13_14, hw_6_11_13_14⟩ : ∃ zz, zz = (w_6_11.alloc (.cells #[.int .i64 (q : Int)] 3)) := ⟨_, rfl⟩
              have V_6_11_13_14 := Lib.hid (show HMP W (box 3 w_6_11.heap.size [.int .i64 (q : Int)] :: _) bm _ w_6_11_13_14 by rw [hw_6_11_13_14]; exact V_6_11.out.box_new 3 [.int .i64 (q : Int)])
              have B_6_11_13_14 := Lib.hid (show Below w_6_11.heap.size w_6_11 w_6_11_13_14 by rw [hw_6_11_13_14]; exact bnew _ _)
              go_simp
              rw [← hw_6_11_13_14]
              clear hw_6_11_13_14
              refine hK.out _ _ (hHeld.go B_6_11_13_14.out) (fun hHeld => ?_)
              clear hK K
              try simp only [Act.put, sA, sZ, sS]
              refine wpAnyH_ready (rs := [15]) (by kernel_rfl) (by simp) ?_
              refine AllReadyH.cons (List.getElem?_toArray.trans rfl) (fun K hK => ?_) AllReadyH.nil
              have y0 := (V_6_11_13_14.out.hp.box_at (i := 0) (j := 0) rfl rfl).1
              obtain ⟨g9, cap9, w9, hr9, hv9⟩ := V_6_11_13_14.out.app_num (i := 1) rfl 26 (q : Int) y0 (by omega)
              have V9 := Lib.hid hv9.tail
              have KP9 := Lib.hid (show Keep [(⟨W.heap.size, 0, none⟩, .int .i64 A.lt), (⟨W.heap.size, 1, none⟩, .int .i64 A.st), (⟨W.heap.size, 2, none⟩, .slice x.A x.n x.c), (⟨W.heap.size, 3, none⟩, .slice x.B x.m x.d), (⟨W.heap.size + 1, 0, none⟩, .int .i64 B.lt), (⟨W.heap.size + 1, 1, none⟩, .int .i64 B.st), (⟨W.heap.size + 1, 2, none⟩, .slice y.A y.n y.c), (⟨W.heap.size + 1, 3, none⟩, .slice y.B y.m y.d), (⟨gp, 0, none⟩, .int .i64 p1), (⟨gp, 1, none⟩, .int .i64 p2)] w9 from List.forall_mem_cons.2 ⟨(have z := V9.out.hp.box_at (i := 8) (j := 0) rfl rfl; ⟨z.1, z.2.2⟩), List.forall_mem_cons.2 ⟨(have z := V9.out.hp.box_at (i := 8) (j := 1) rfl rfl; ⟨z.1, z.2.2⟩), List.forall_mem_cons.2 ⟨(have z := V9.out.hp.box_at (i := 8) (j := 2) rfl rfl; ⟨z.1, z.2.2⟩), List.forall_mem_cons.2 ⟨(have z := V9.out.hp.box_at (i := 8) (j := 3) rfl rfl; ⟨z.1, z.2.2⟩), List.forall_mem_cons.2 ⟨(have z := V9.out.hp.box_at (i := 7) (j := 0) rfl rfl; ⟨z.1, z.2.2⟩), List.forall_mem_cons.2 ⟨(have z := V9.out.hp.box_at (i := 7) (j := 1) rfl rfl; ⟨z.1, z.2.2⟩), List.forall_mem_cons.2 ⟨(have z := V9.out.hp.box_at (i := 7) (j := 2) rfl rfl; ⟨z.1, z.2.2⟩), List.forall_mem_cons.2 ⟨(have z := V9.out.hp.box_at (i := 7) (j := 3) rfl rfl; ⟨z.1, z.2.2⟩), List.forall_mem_cons.2 ⟨(have z := V9.out.hp.box_at (i := 1) (j := 0) rfl rfl; ⟨z.1, z.2.2⟩), List.forall_mem_cons.2 ⟨(have z := V9.out.hp.box_at (i := 1) (j := 1) rfl rfl; ⟨z.1, z.2.2⟩), fun _ h => by simp at h⟩⟩⟩⟩⟩⟩⟩⟩⟩⟩)
              refine step_app_run rfl (.tmp 72) (.tmp 86) 26 rfl hr9 rfl rfl ?_
              refine hK.out _ _ (KP9.out) (fun hHeld => ?_)
              clear hK K
              try simp only [Act.put, sA, sZ, sS]
              refine tk 16 ?_ rfl ?_ ?_; rotate_left; focus (intro w hSw; clear hSw; go_simp; try (with_reducible rfl))
              try simp only [Act.put, sA, sZ, sS]
              refine wpAnyH_done (by kernel_rfl) ?_ _
              clear hHeld hKp a0 a9
              go_wp2_with fail
              go_roundw
              case rel => exact ⟨e + 1, by go_num, by omega, _, _, _, rfl, HRW2.out, V9.out⟩
              case measure => simp [intOf]; omega
            · obtain rfl : k = e := by omega
              obtain ⟨va, hva⟩ : ∃ o, o = A.acc p1 := ⟨_, rfl⟩
              obtain ⟨vb, hvb⟩ : ∃ o, o = B.acc p2 := ⟨_, rfl⟩
              have SA := Lib.hid hva.symm
              have SB := Lib.hid hvb.symm
              clear hva hvb
              go_upto_region 22 with fail
              go_cut [17, 18] (fun r17 r18 wy => r17 = .bool va ∧ r18 = .bool vb ∧ HMP W ([nums Ar k cr row, box 46 gp [.int .i64 p1, .int .i64 p2], box 25 g1 [.int .i64 (k : Int), .int .i64 0, .slice An j cn, .slice Bn j dn], rvals An j cn vs RW, flags Bn j dn acs, frow (some ⟨g, 0, none⟩) i c F, box 25 (W.heap.size + 1 + 1) [.int .i64 0, .int .i64 0, .slice none 0 0, .slice none 0 0], box 25 (W.heap.size + 1) [.int .i64 B.lt, .int .i64 B.st, .slice y.A y.n y.c, .slice y.B y.m y.d], box 25 W.heap.size [.int .i64 A.lt, .int .i64 A.st, .slice x.A x.n x.c, .slice x.B x.m x.d]] ++ rowsG vs RW) bm (psP l 0) wy)
              case first =>
                have hKp : Keep [(⟨W.heap.size, 0, none⟩, .int .i64 A.lt), (⟨W.heap.size, 1, none⟩, .int .i64 A.st), (⟨W.heap.size, 2, none⟩, .slice x.A x.n x.c), (⟨W.heap.size, 3, none⟩, .slice x.B x.m x.d), (⟨W.heap.size + 1, 0, none⟩, .int .i64 B.lt), (⟨W.heap.size + 1, 1, none⟩, .int .i64 B.st), (⟨W.heap.size + 1, 2, none⟩, .slice y.A y.n y.c), (⟨W.heap.size + 1, 3, none⟩, .slice y.B y.m y.d), (⟨gp, 0, none⟩, .int .i64 p1), (⟨gp, 1, none⟩, .int .i64 p2)] wl := List.forall_mem_cons.2 ⟨⟨(V.out.hp.box_at (i := 8) (j := 0) rfl rfl).1, (V.out.hp.box_at (i := 8) (j := 0) rfl rfl).2.2⟩, List.forall_mem_cons.2 ⟨⟨(V.out.hp.box_at (i := 8) (j := 1) rfl rfl).1, (V.out.hp.box_at (i := 8) (j := 1) rfl rfl).2.2⟩, List.forall_mem_cons.2 ⟨⟨(V.out.hp.box_at (i := 8) (j := 2) rfl rfl).1, (V.out.hp.box_at (i := 8) (j := 2) rfl rfl).2.2⟩, List.forall_mem_cons.2 ⟨⟨(V.out.hp.box_at (i := 8) (j := 3) rfl rfl).1, (V.out.hp.box_at (i := 8) (j := 3) rfl rfl).2.2⟩, List.forall_mem_cons.2 ⟨⟨(V.out.hp.box_at (i := 7) (j := 0) rfl rfl).1, (V.out.hp.box_at (i := 7) (j := 0) rfl rfl).2.2⟩, List.forall_mem_cons.2 ⟨⟨(V.out.hp.box_at (i := 7) (j := 1) rfl rfl).1, (V.out.hp.box_at (i := 7) (j := 1) rfl rfl).2.2⟩, List.forall_mem_cons.2 ⟨⟨(V.out.hp.box_at (i := 7) (j := 2) rfl rfl).1, (V.out.hp.box_at (i := 7) (j := 2) rfl rfl).2.2⟩, List.forall_mem_cons.2 ⟨⟨(V.out.hp.box_at (i := 7) (j := 3) rfl rfl).1, (V.out.hp.box_at (i := 7) (j := 3) rfl rfl).2.2⟩, List.forall_mem_cons.2 ⟨⟨(V.out.hp.box_at (i := 1) (j := 0) rfl rfl).1, (V.out.hp.box_at (i := 1) (j := 0) rfl rfl).2.2⟩, List.forall_mem_cons.2 ⟨⟨(V.out.hp.box_at (i := 1) (j := 1) rfl rfl).1, (V.out.hp.box_at (i := 1) (j := 1) rfl rfl).2.2⟩, fun _ h => by simp at h⟩⟩⟩⟩⟩⟩⟩⟩⟩⟩
                refine wp_region_held_drew (S := Keep _) (by kernel_rfl) hKp.drew (fun hHeld => ?_)
                have Vd := Lib.hid (V.out.go (bdrew _))
                refine tk 0 ?_ rfl ?_ ?_; rotate_left
                · intro wl hSw
                  have hSw : Keep _ wl := hSw
                  have k0 : wl.cell? ⟨W.heap.size, 0, none⟩ = some (.int .i64 A.lt) := (hSw _ (.head _)).1
                  have k1 : wl.cell? ⟨W.heap.size, 1, none⟩ = some (.int .i64 A.st) := (hSw _ (.tail _ (.head _))).1
                  have k2 : wl.cell? ⟨W.heap.size, 2, none⟩ = some (.slice x.A x.n x.c) := (hSw _ (.tail _ (.tail _ (.head _)))).1
                  have k3 : wl.cell? ⟨W.heap.size, 3, none⟩ = some (.slice x.B x.m x.d) := (hSw _ (.tail _ (.tail _ (.tail _ (.head _))))).1
                  clear hSw
                  go_simp
                  try (with_reducible rfl)
                try simp only [Act.put, sA, sZ, sS]
                refine tk 1 ?_ rfl ?_ ?_; rotate_left; focus (intro w hSw; clear hSw; go_simp; try (with_reducible rfl))
                try simp only [Act.put, sA, sZ, sS]
                refine tk 2 ?_ rfl ?_ ?_; rotate_left
                · intro wl hSw
                  have hSw : Keep _ wl := hSw
                  have k0 : wl.cell? ⟨gp, 0, none⟩ = some (.int .i64 p1) := (hSw _ (.tail _ (.tail _ (.tail _ (.tail _ (.tail _ (.tail _ (.tail _ (.tail _ (.head _)))))))))).1
                  clear hSw
                  go_simp
                  try (with_reducible rfl)
                try simp only [Act.put, sA, sZ, sS]
                refine tk 4 ?_ rfl ?_ ?_; rotate_left
                · intro wl hSw
                  have hSw : Keep _ wl := hSw
                  have k0 : wl.cell? ⟨W.heap.size + 1, 0, none⟩ = some (.int .i64 B.lt) := (hSw _ (.tail _ (.tail _ (.tail _ (.tail _ (.head _)))))).1
                  have k1 : wl.cell? ⟨W.heap.size + 1, 1, none⟩ = some (.int .i64 B.st) := (hSw _ (.tail _ (.tail _ (.tail _ (.tail _ (.tail _ (.head _))))))).1
                  have k2 : wl.cell? ⟨W.heap.size + 1, 2, none⟩ = some (.slice y.A y.n y.c) := (hSw _ (.tail _ (.tail _ (.tail _ (.tail _ (.tail _ (.tail _ (.head _)))))))).1
                  have k3 : wl.cell? ⟨W.heap.size + 1, 3, none⟩ = some (.slice y.B y.m y.d) := (hSw _ (.tail _ (.tail _ (.tail _ (.tail _ (.tail _ (.tail _ (.tail _ (.head _))))))))).1
                  clear hSw
                  go_simp
                  try (with_reducible rfl)
                try simp only [Act.put, sA, sZ, sS]
                refine tk 5 ?_ rfl ?_ ?_; rotate_left; focus (intro w hSw; clear hSw; go_simp; try (with_reducible rfl))
                try simp only [Act.put, sA, sZ, sS]
                refine tk 6 ?_ rfl ?_ ?_; rotate_left
                · intro wl hSw
                  have hSw : Keep _ wl := hSw
                  have k0 : wl.cell? ⟨gp, 1, none⟩ = some (.int .i64 p2) := (hSw _ (.tail _ (.tail _ (.tail _ (.tail _ (.tail _ (.tail _ (.tail _ (.tail _ (.tail _ (.head _))))))))))).1
                  clear hSw
                  go_simp
                  try (with_reducible rfl)
                try simp only [Act.put, sA, sZ, sS]
                refine wpAnyH_ready (rs := [3]) (by kernel_rfl) (by simp) ?_
                refine AllReadyH.cons (List.getElem?_toArray.trans rfl) (fun K hK => ?_) AllReadyH.nil
                go_simp
                refine (raccepting_any x A p1 _ (HA.out.below Vd.out.below) (by have := HP1.out.1.2; have := HKA.out.right.acl; unfold Au.n at *; omega) (by have := HKA.out.right.acl; have := HKA.out.few; unfold Au.n at *; omega)).mono ?_
                rintro e w_3 ⟨rfl, b_3⟩
                try go_wp2_with fail
                rw [SA.out]
                have V_3 := Lib.hid (Vd.out.go b_3)
                refine hK.out _ _ (hHeld.go b_3) (fun hHeld => ?_)
                clear hK K
                try simp only [Act.put, sA, sZ, sS]
                refine wpAnyH_ready (rs := [7]) (by kernel_rfl) (by simp) ?_
                refine AllReadyH.cons (List.getElem?_toArray.trans rfl) (fun K hK => ?_) AllReadyH.nil
                go_simp
                refine (raccepting_any y B p2 _ (HB.out.below V_3.out.below) (by have := HP1.out.2.2; have := HKB.out.right.acl; unfold Au.n at *; omega) (by have := HKB.out.right.acl; have := HKB.out.few; unfold Au.n at *; omega)).mono ?_
                rintro e w_3_7 ⟨rfl, b_3_7⟩
                try go_wp2_with fail
                rw [SB.out]
                have V_3_7 := Lib.hid (V_3.out.go b_3_7)
                refine hK.out _ _ (hHeld.go b_3_7) (fun hHeld => ?_)
                clear hK K
                try simp only [Act.put, sA, sZ, sS]
                refine tk 8 ?_ rfl ?_ ?_; rotate_left; focus (intro w hSw; clear hSw; go_simp; try (with_reducible rfl))
                try simp only [Act.put, sA, sZ, sS]
                refine tk 9 ?_ rfl ?_ ?_; rotate_left; focus (intro w hSw; clear hSw; go_simp; try (with_reducible rfl))
                try simp only [Act.put, sA, sZ, sS]
                refine wpAnyH_done (by kernel_rfl) ?_ _
                go_wp2_with fail
                go_meet
                exact ⟨rfl, rfl, V_3_7.out⟩
              case rest =>
                obtain ⟨rfl, rfl, hv⟩ := hcut
                have V8a := Lib.hid (show HMP W ([nums Ar k cr row, box 25 g1 [.int .i64 (k : Int), .int .i64 0, .slice An j cn, .slice Bn j dn], rvals An j cn vs RW, flags Bn j dn acs, frow (some ⟨g, 0, none⟩) i c F, box 25 (W.heap.size + 1 + 1) [.int .i64 0, .int .i64 0, .slice none 0 0, .slice none 0 0], box 25 (W.heap.size + 1) [.int .i64 B.lt, .int .i64 B.st, .slice y.A y.n y.c, .slice y.B y.m y.d], box 25 W.heap.size [.int .i64 A.lt, .int .i64 A.st, .slice x.A x.n x.c, .slice x.B x.m x.d]] ++ rowsG vs RW) bm (psP l 0) wc from hv.with' (hv.hp.sub (fun i => if i = 0 then 0 else i + 1) (fun i j e => by by_cases h1 : i = 0 <;> by_cases h2 : j = 0 <;> simp [h1, h2] at e ⊢ <;> omega) (fun i it hi => by
                  cases i with
                  | zero => simpa using hi
                  | succ i => simpa using hi)))
                clear hv V a0 a9
                have HRL := Lib.hid (show row.length = k from HRW.out.1)
                obtain ⟨wy, hwy⟩ : ∃ zz, zz = wc.alloc (.cells #[.slice Ar k cr] 26) := ⟨_, rfl⟩
                have V3 := Lib.hid (show HMP W (box 26 wc.heap.size [.slice Ar k cr] :: _) bm _ wy by rw [hwy]; exact V8a.out.box_new 26 [.slice Ar k cr])
                have z0 := (V3.out.hp.box_at (i := 0) (j := 0) rfl rfl).1
                obtain ⟨g5, cap5, w8, hr8, hv8⟩ := V3.out.app_rv (i := 3) rfl HVS.out 22 Ar k cr row HRL.out z0 (by omega)
                have V8 := Lib.hid hv8.tail
                obtain ⟨t2, u2, t9⟩ := V8.out.hp.box_at (i := 1) (j := 2) rfl rfl
                obtain ⟨s2, _, s9⟩ := V8a.out.hp.box_at (i := 1) (j := 2) rfl rfl
                have V9 := Lib.hid (V8.out.box_set (i := 1) rfl 2 (.slice (some ⟨g5, 0, none⟩) (j + 1) cap5))
                obtain ⟨wv, hwv⟩ : ∃ zz, zz = w8.setCell ⟨g1, 2, none⟩ (.slice (some ⟨g5, 0, none⟩) (j + 1) cap5) := ⟨_, rfl⟩
                have V10 := Lib.hid (show HMP W ([box 25 g1 [.int .i64 (k : Int), .int .i64 0, .slice (some ⟨g5, 0, none⟩) (j + 1) cap5, .slice Bn j dn], rvals (some ⟨g5, 0, none⟩) (j + 1) cap5 (vs ++ [(Ar, cr)]) (RW ++ [row]), flags Bn j dn acs, frow (some ⟨g, 0, none⟩) i c F, box 25 (W.heap.size + 1 + 1) [.int .i64 0, .int .i64 0, .slice none 0 0, .slice none 0 0], box 25 (W.heap.size + 1) [.int .i64 B.lt, .int .i64 B.st, .slice y.A y.n y.c, .slice y.B y.m y.d], box 25 W.heap.size [.int .i64 A.lt, .int .i64 A.st, .slice x.A x.n x.c, .slice x.B x.m x.d]] ++ rowsG (vs ++ [(Ar, cr)]) (RW ++ [row])) bm (psP l 0) wv by
                  rw [hwv]
                  refine V9.out.with' ?_
                  exact row_doneG (l := [box 25 g1 [.int .i64 (k : Int), .int .i64 0, .slice (some ⟨g5, 0, none⟩) (j + 1) cap5, .slice Bn j dn], rvals (some ⟨g5, 0, none⟩) (j + 1) cap5 (vs ++ [(Ar, cr)]) (RW ++ [row]), flags Bn j dn acs, frow (some ⟨g, 0, none⟩) i c F, box 25 (W.heap.size + 1 + 1) [.int .i64 0, .int .i64 0, .slice none 0 0, .slice none 0 0], box 25 (W.heap.size + 1) [.int .i64 B.lt, .int .i64 B.st, .slice y.A y.n y.c, .slice y.B y.m y.d], box 25 W.heap.size [.int .i64 A.lt, .int .i64 A.st, .slice x.A x.n x.c, .slice x.B x.m x.d]]) (C := Ar) (d := cr) (row := row) HVS.out (by rw [HRL.out]; exact V9.out.hp))
                have HYY := Lib.hid hwy
                have HR8 := Lib.hid hr8
                have HWV := Lib.hid hwv
                have HVS2 := Lib.hid (show (vs ++ [(Ar, cr)]).length = (RW ++ [row]).length by rw [List.length_append, List.length_append, HVS.out]; rfl)
                clear hwy z0 hv8 hr8 V3 V8 V9 hwv
                go_upto_region 24 with (at_builtin; rw [← HYY.out]; refine wpList_app_run rfl (.tmp 97) (.tmp 99) 22 rfl HR8.out rfl rfl ?_)
                rw [← HWV.out]
                clear HYY HR8 HWV t2 u2 t9 s2 s9 V8a
                obtain ⟨bv, hbv⟩ : ∃ b, b = combF kd va vb := ⟨_, rfl⟩
                have HPS2 := Lib.hid (HPS.out.close HPJ.out HRW.out (b := bv) (by rw [SA.out, SB.out]; exact hbv))
                obtain ⟨wy, hwy⟩ : ∃ zz, zz = wv.alloc (.cells #[.bool bv] 4) := ⟨_, rfl⟩
                have V3 := Lib.hid (show HMP W (box 4 wv.heap.size [.bool bv] :: _) bm _ wy by rw [hwy]; exact V10.out.box_new 4 [.bool bv])
                have z0 := (V3.out.hp.box_at (i := 0) (j := 0) rfl rfl).1
                obtain ⟨g6, cap6, w6, hr6, hv6⟩ := V3.out.app_flag (i := 3) rfl 23 bv z0 (by omega)
                have V6 := Lib.hid hv6.tail
                obtain ⟨t3, u3, t9⟩ := V6.out.hp.box_at (i := 0) (j := 3) rfl rfl
                obtain ⟨s3, _, s9⟩ := V10.out.hp.box_at (i := 0) (j := 3) rfl rfl
                have V11 := Lib.hid (V6.out.box_set (i := 0) rfl 3 (.slice (some ⟨g6, 0, none⟩) (j + 1) cap6))
                have HYY := Lib.hid hwy
                have HR6 := Lib.hid hr6
                clear hwy z0 hv6 hr6 V3 V6 V10
                clear HI HF HB2 SA SB HPJ HP1 HRW HRL HN HE HLT HLB HMK HKA HKB HA HB HPS HVS hlo hhi h0l
                rcases HKD.out with rfl | rfl | rfl <;> clear HKD <;> cases va <;> cases vb <;> (
                  first
                    | obtain rfl : bv = false := hbv.trans rfl
                    | obtain rfl : bv = true := hbv.trans rfl
                  clear hbv
                  go_wp2_with (at_builtin; rw [← HYY.out]; refine wpList_app_run rfl (.tmp 103) (.tmp 133) 23 rfl HR6.out rfl rfl ?_)
                  refine ⟨?_, ?measure⟩
                  (repeat apply Exists.intro)
                  refine ⟨?rel, rfl⟩
                  case rel => exact ⟨j + 1, by go_num, by omega, _, _, _, _, _, _, _, HVS2.out, HPS2.out, V11.out⟩
                  case measure => simp [intOf]; omega)
        · obtain rfl : j = i := by omega
          have HO := Lib.hid (show PSt A B k kd l RW acs l.length by rw [HN.out]; exact HPS.out)
          have HRL := Lib.hid HPS.out.rl
          have HRR := Lib.hid (show ∀ r ∈ RW, r.length ≤ 8 from fun r hr => by
            obtain ⟨q, hq⟩ := List.mem_iff_getElem?.1 hr
            obtain ⟨p, _, b⟩ := HPS.out.rows q r hq
            rw [b.1]; exact hk8)
          have VD := Lib.hid (show DfaIn wj ⟨An, j, cn, Bn, j, dn⟩ (pairA k RW acs) by
            have c0 := V.out.hp.cap (i := 1) (A := An) (c := cn) rfl rfl
            have c1 := V.out.hp.cap (i := 2) (A := Bn) (c := dn) rfl rfl
            exact ⟨HRL.out, HPS.out.al, c0.1, c1.1, by show j ≤ _; omega, by show j ≤ _; omega, rowsG_in (l := [_, _, _, _, _, _, _]) (i := 1) V.out.hp rfl HVS.out (fun r hr => by have := HRR.out r hr; omega), V.out.hp.cells (i := 2) rfl rfl⟩)
          have GO := Lib.hid (show GoodL wj ⟨An, j, cn, Bn, j, dn⟩ (pairA k RW acs) k from ⟨VD.out, HO.out.right hk0 (by rw [HN.out]; exact h0l), by show RW.length ≤ _; rw [HRL.out]; omega, hk8⟩)
          obtain ⟨r0, _, r90⟩ := V.out.hp.box_at (i := 0) (j := 0) rfl rfl
          obtain ⟨r1, _, r91⟩ := V.out.hp.box_at (i := 0) (j := 1) rfl rfl
          obtain ⟨r2, _, r92⟩ := V.out.hp.box_at (i := 0) (j := 2) rfl rfl
          obtain ⟨r3, _, r93⟩ := V.out.hp.box_at (i := 0) (j := 3) rfl rfl
          go_wp2_with fail
          refine (show Calls Try.prog 57 #[.agg #[.int .i64 (k : Int), .int .i64 0, .slice An j cn, .slice Bn j dn]] wj (SmallV (pairA k RW acs) k wj) from rsmallV_any ⟨An, j, cn, Bn, j, dn⟩ (pairA k RW acs) k wj GO.out).mono ?_
          rintro e w9 ⟨yr, R, ok, rfl, ⟨Q, hcan, hcase⟩, b9⟩
          have HCN := Lib.hid (show Canon k (fun u => combF kd (A.lang u) (B.lang u)) Q from hcan.of_eq fun u hu => HO.out.lang HB2.out.first u hu)
          clear hcan VD GO r0 r1 r2 r3 r90 r91 r92 r93
          rcases hcase with ⟨rfl, h4, rfl, vs2, hvs2, h82, hyn, hym, hp2⟩ | ⟨rfl, h4, rfl, rfl⟩
          · have HVS2 := Lib.hid hvs2
            have H82 := Lib.hid h82
            have HYM := Lib.hid hym
            have V9 := Lib.hid (show Hp W (([box 25 g1 [.int .i64 (k : Int), .int .i64 0, .slice An j cn, .slice Bn j dn], rvals An j cn vs RW, flags Bn j dn acs, frow (some ⟨g, 0, none⟩) j c F, box 25 (W.heap.size + 1 + 1) [.int .i64 0, .int .i64 0, .slice none 0 0, .slice none 0 0], box 25 (W.heap.size + 1) [.int .i64 B.lt, .int .i64 B.st, .slice y.A y.n y.c, .slice y.B y.m y.d], box 25 W.heap.size [.int .i64 A.lt, .int .i64 A.st, .slice x.A x.n x.c, .slice x.B x.m x.d]] ++ rowsG vs RW) ++ ([rvals yr.A yr.n yr.c vs2 R.nx, flags yr.B yr.m yr.d R.ac] ++ rowsG vs2 R.nx)) w9 from (V.out.hp.join hp2).comm)
            clear hvs2 h82 hym hp2 V b9
            obtain ⟨w10, hw10⟩ : ∃ zz, zz = w9.alloc (.cells #[.int .i64 R.lt, .int .i64 R.st, .slice yr.A yr.n yr.c, .slice yr.B yr.m yr.d] 25) := ⟨_, rfl⟩
            obtain ⟨g10, hg10⟩ : ∃ zz, zz = w9.heap.size := ⟨_, rfl⟩
            have V10 := Lib.hid (show Hp W (box 25 g10 [.int .i64 R.lt, .int .i64 R.st, .slice yr.A yr.n yr.c, .slice yr.B yr.m yr.d] :: (([box 25 g1 [.int .i64 (k : Int), .int .i64 0, .slice An j cn, .slice Bn j dn], rvals An j cn vs RW, flags Bn j dn acs, frow (some ⟨g, 0, none⟩) j c F, box 25 (W.heap.size + 1 + 1) [.int .i64 0, .int .i64 0, .slice none 0 0, .slice none 0 0], box 25 (W.heap.size + 1) [.int .i64 B.lt, .int .i64 B.st, .slice y.A y.n y.c, .slice y.B y.m y.d], box 25 W.heap.size [.int .i64 A.lt, .int .i64 A.st, .slice x.A x.n x.c, .slice x.B x.m x.d]] ++ rowsG vs RW) ++ ([rvals yr.A yr.n yr.c vs2 R.nx, flags yr.B yr.m yr.d R.ac] ++ rowsG vs2 R.nx))) w10 by rw [hw10, hg10]; exact V9.out.box_new 25 [.int .i64 R.lt, .int .i64 R.st, .slice yr.A yr.n yr.c, .slice yr.B yr.m yr.d])
            have HH := Lib.hid hw10
            have HG := Lib.hid hg10
            clear hw10 hg10
            go_upto_region 26 with fail
            rw [← HH.out, ← HG.out]
            clear HH HG V9
            obtain ⟨m0, _, m90⟩ := V10.out.box_at (i := 0) (j := 0) rfl rfl
            obtain ⟨m1, _, m91⟩ := V10.out.box_at (i := 0) (j := 1) rfl rfl
            obtain ⟨m2, _, m92⟩ := V10.out.box_at (i := 0) (j := 2) rfl rfl
            obtain ⟨m3, _, m93⟩ := V10.out.box_at (i := 0) (j := 3) rfl rfl
            obtain ⟨z0, y0, z90⟩ := V10.out.box_at (i := 5) (j := 0) rfl rfl
            obtain ⟨z1, y1, z91⟩ := V10.out.box_at (i := 5) (j := 1) rfl rfl
            obtain ⟨z2, y2, z92⟩ := V10.out.box_at (i := 5) (j := 2) rfl rfl
            obtain ⟨z3, y3, z93⟩ := V10.out.box_at (i := 5) (j := 3) rfl rfl
            have VE := Lib.hid ((((V10.out.box_set (i := 5) rfl 0 (.int .i64 R.lt)).box_set (i := 5) rfl 1 (.int .i64 R.st)).box_set (i := 5) rfl 2 (.slice yr.A yr.n yr.c)).box_set (i := 5) rfl 3 (.slice yr.B yr.m yr.d))
            obtain ⟨u0, _, _⟩ := VE.out.box_at (i := 5) (j := 0) rfl rfl
            obtain ⟨u1, _, _⟩ := VE.out.box_at (i := 5) (j := 1) rfl rfl
            obtain ⟨u2, _, _⟩ := VE.out.box_at (i := 5) (j := 2) rfl rfl
            obtain ⟨u3, _, _⟩ := VE.out.box_at (i := 5) (j := 3) rfl rfl
            have VF := Hp.back8 (R1 := rowsG vs RW) (N := ([rvals yr.A yr.n yr.c vs2 R.nx, flags yr.B yr.m yr.d R.ac] ++ rowsG vs2 R.nx)) VE.out
            have HP := Lib.hid (show ProdV A B kd W (.returned (.tuple #[.agg #[.int .i64 R.lt, .int .i64 R.st, .slice yr.A yr.n yr.c, .slice yr.B yr.m yr.d], .int .i64 0])) _ from ⟨yr, R, 0, rfl, .inr ⟨k, HKA.out, HKB.out, .inr ⟨HKD.out, R, HCN.out, .inl ⟨h4, rfl, rfl⟩⟩⟩, OwnR.dfa ⟨vs2, HVS2.out, H82.out, hyn, HYM.out, VF⟩, VE.out.below⟩)
            clear VF V10 VE
            go_wp2_with fail
            exact bodyPost_ret (v := .tuple #[.agg #[.int .i64 R.lt, .int .i64 R.st, .slice yr.A yr.n yr.c, .slice yr.B yr.m yr.d], .int .i64 0]) (by simp [results, Try.results27, go_sem, u0, u1, u2, u3]) rfl HP.out
          · have V9 := Lib.hid (V.out.hp.go b9)
            rw [show dval zV zA = Value.agg #[.int .i64 0, .int .i64 0, .slice none 0 0, .slice none 0 0] from rfl]
            clear V b9
            obtain ⟨w10, hw10⟩ : ∃ zz, zz = w9.alloc (.cells #[.int .i64 0, .int .i64 0, .slice none 0 0, .slice none 0 0] 25) := ⟨_, rfl⟩
            obtain ⟨g10, hg10⟩ : ∃ zz, zz = w9.heap.size := ⟨_, rfl⟩
            have V10 := Lib.hid (show Hp W (box 25 g10 [.int .i64 0, .int .i64 0, .slice none 0 0, .slice none 0 0] :: ([box 25 g1 [.int .i64 (k : Int), .int .i64 0, .slice An j cn, .slice Bn j dn], rvals An j cn vs RW, flags Bn j dn acs, frow (some ⟨g, 0, none⟩) j c F, box 25 (W.heap.size + 1 + 1) [.int .i64 0, .int .i64 0, .slice none 0 0, .slice none 0 0], box 25 (W.heap.size + 1) [.int .i64 B.lt, .int .i64 B.st, .slice y.A y.n y.c, .slice y.B y.m y.d], box 25 W.heap.size [.int .i64 A.lt, .int .i64 A.st, .slice x.A x.n x.c, .slice x.B x.m x.d]] ++ rowsG vs RW)) w10 by rw [hw10, hg10]; exact V9.out.box_new 25 [.int .i64 0, .int .i64 0, .slice none 0 0, .slice none 0 0])
            have HH := Lib.hid hw10
            have HG := Lib.hid hg10
            clear hw10 hg10
            go_upto_region 26 with fail
            rw [← HH.out, ← HG.out]
            clear HH HG V9
            obtain ⟨z0, y0, z90⟩ := V10.out.box_at (i := 5) (j := 0) rfl rfl
            obtain ⟨z1, y1, z91⟩ := V10.out.box_at (i := 5) (j := 1) rfl rfl
            obtain ⟨z2, y2, z92⟩ := V10.out.box_at (i := 5) (j := 2) rfl rfl
            obtain ⟨z3, y3, z93⟩ := V10.out.box_at (i := 5) (j := 3) rfl rfl
            have VE := Lib.hid ((((V10.out.box_set (i := 5) rfl 0 (.int .i64 0)).box_set (i := 5) rfl 1 (.int .i64 0)).box_set (i := 5) rfl 2 (.slice none 0 0)).box_set (i := 5) rfl 3 (.slice none 0 0))
            obtain ⟨u0, _, _⟩ := VE.out.box_at (i := 5) (j := 0) rfl rfl
            obtain ⟨u1, _, _⟩ := VE.out.box_at (i := 5) (j := 1) rfl rfl
            obtain ⟨u2, _, _⟩ := VE.out.box_at (i := 5) (j := 2) rfl rfl
            obtain ⟨u3, _, _⟩ := VE.out.box_at (i := 5) (j := 3) rfl rfl
            have HP := Lib.hid (show ProdV A B kd W (.returned (.tuple #[.agg #[.int .i64 0, .int .i64 0, .slice none 0 0, .slice none 0 0], .int .i64 3])) _ from ⟨zV, zA, 3, rfl, .inr ⟨k, HKA.out, HKB.out, .inr ⟨HKD.out, Q, HCN.out, .inr ⟨h4, rfl, rfl⟩⟩⟩, zA_in _, VE.out.below⟩)
            clear V10 VE
            go_wp2_with fail
            exact bodyPost_ret (v := .tuple #[.agg #[.int .i64 0, .int .i64 0, .slice none 0 0, .slice none 0 0], .int .i64 3]) (by simp [results, Try.results27, go_sem, u0, u1, u2, u3]) rfl HP.out
end Go.Proofs.Ytbfedfiemkhefaa
