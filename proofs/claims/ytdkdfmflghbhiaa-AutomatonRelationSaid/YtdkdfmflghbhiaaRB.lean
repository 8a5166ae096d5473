/- Maps whose keys are pairs: what the walk meets. Nothing here speaks of a function of the program. -/
import Derived.Test.YtdkdfmflghbhiaaQa
import Derived.Maps.Keyed
import Derived.Test.YtdkdfmflghbhiaaAMh
import Derived.Test.YtdkdfmflghbhiaaQw
namespace Go.Proofs.Ytdkdfmflghbhiaa
open Go.RowKit Go.ChangeMaps Go.MapKept
set_option linter.unusedVariables false
set_option linter.unusedSimpArgs false
set_option maxRecDepth 100000

abbrev pkey (p : Int × Int) : Value := .agg #[.int .i64 p.1, .int .i64 p.2]
theorem eqIn_int (n : Nat) (a b : Int) (w : World) : (Op.equalIn (n + 1) 3 (.int .i64 a) (.int .i64 b)).run Try.prog w = .ok (a == b) w := by
  unfold Op.equalIn
  go_simp
theorem eqIn_pair (n : Nat) (a b c d : Int) (w : World) : (Op.equalIn (n + 2) 35 (.agg #[.int .i64 a, .int .i64 b]) (.agg #[.int .i64 c, .int .i64 d])).run Try.prog w = .ok (decide ((a, b) = (c, d))) w := by
  have h : ∀ (x y : Int) (w : World), (Op.equalIn (n + 1) 3 (.int .i64 x) (.int .i64 y)).run Try.prog w = .ok (x == y) w := fun x y w => eqIn_int n x y w
  unfold Op.equalIn
  go_simp
  by_cases h1 : a = c <;> by_cases h2 : b = d <;> simp [h1, h2]
theorem eq_pair (a b c d : Int) (w : World) : (Op.equal 35 (.agg #[.int .i64 a, .int .i64 b]) (.agg #[.int .i64 c, .int .i64 d])).run Try.prog w = .ok (decide ((a, b) = (c, d))) w := eqIn_pair 9998 a b c d w
theorem check_int (e : Bool) (n : Nat) (a : Int) (w : World) : (Instr.checkKey e (n + 1) 3 (.int .i64 a)).run Try.prog w = .ok () w := by
  unfold Instr.checkKey
  go_simp
theorem check_pair (e : Bool) (a b : Int) (w : World) : (Instr.checkKey e 10000 35 (.agg #[.int .i64 a, .int .i64 b])).run Try.prog w = .ok () w := by
  have h : ∀ (x : Int) (w : World), (Instr.checkKey e 9999 3 (.int .i64 x)).run Try.prog w = .ok () w := fun x w => check_int e 9998 x w
  unfold Instr.checkKey
  go_simp
/-- Where a key stands. -/
def findP {κ : Type} [DecidableEq κ] (p : κ) : List (κ × Value) → Nat → Option (Nat × Value)
  | [], _ => none
  | q :: r, i => if p = q.1 then some (i, q.2) else findP p r (i + 1)
theorem find_pairs (p : Int × Int) (w : World) : ∀ (es : List MapEntry) (ps : List ((Int × Int) × Value)) (i : Nat), es.map (fun e => (e.key, e.val)) = ps.map (fun q => (pkey q.1, q.2)) →
    (Instr.findAsking 35 (pkey p) es i).run Try.prog w = .ok (findP p ps i) w
  | [], [], i, _ => by unfold Instr.findAsking findP; go_simp
  | [], _ :: _, i, h => by cases h
  | _ :: _, [], i, h => by cases h
  | e :: es, q :: ps, i, h => by
    rw [List.map_cons, List.map_cons] at h
    injection h with h1 h2
    injection h1 with h3 h4
    have ih := find_pairs p w es ps (i + 1) h2
    have he := eq_pair p.1 p.2 q.1.1 q.1.2 w
    unfold Instr.findAsking findP
    rw [h3, h4]
    rw [Sem.run_bind, he, Result.andThen_ok]
    by_cases hp : p = q.1
    · rw [if_pos hp, decide_eq_true (by rw [hp])]
      go_simp
    · rw [if_neg hp, decide_eq_false (show ¬ (p.1, p.2) = (q.1.1, q.1.2) from hp)]
      simpa using ih
/-- The block holds a map with these entries. -/
def MapIs (w : World) (b : Nat) (ps : List ((Int × Int) × Value)) : Prop := ∃ (es : Array MapEntry) (clock : Nat), w.heap[b]? = some (.map es clock) ∧ es.toList.map (fun e => (e.key, e.val)) = ps.map (fun q => (pkey q.1, q.2))
theorem MapIs.lt {w : World} {b : Nat} {ps : List ((Int × Int) × Value)} (h : MapIs w b ps) : b < w.heap.size := by
  obtain ⟨es, clock, h1, _⟩ := h
  exact (Array.getElem?_eq_some_iff.1 h1).1
theorem MapIs.grown {w w' : World} {b : Nat} {ps : List ((Int × Int) × Value)} {row : Option Nat} (h : MapIs w b ps) (hg : w.grownBy w' row) (hr : some b ≠ row) : MapIs w' b ps := by
  have hlt := h.lt
  obtain ⟨es, clock, h1, h2⟩ := h
  exact ⟨es, clock, (hg.block b hlt hr).trans h1, h2⟩
theorem MapIs.below {w w' : World} {b : Nat} {ps : List ((Int × Int) × Value)} (h : MapIs w b ps) (hb : Below w.heap.size w w') : MapIs w' b ps := h.grown (grown_of hb) (by simp)
theorem find_keys (p : Int × Int) (w : World) {es : Array MapEntry} {ps : List ((Int × Int) × Value)} (h : es.toList.map (fun e => (e.key, e.val)) = ps.map (fun q => (pkey q.1, q.2))) :
    (Instr.findKey 35 (pkey p) es.toList).run Try.prog w = .ok (findP p ps 0) w := by
  have hf := find_pairs p w es.toList ps 0 h
  unfold Instr.findKey
  generalize es.toList = l at *
  cases l with
  | nil =>
    cases ps with
    | nil => unfold Instr.findNow findP; go_simp
    | cons q r => cases h
  | cons e l => unfold Instr.findNow Instr.sameNow; go_simp
/-- What a look-up gives. -/
def gotV (d : Value) : Option (Nat × Value) → Value
  | some x => x.2
  | none => d
theorem look_bool {T : TypeId} (hT : Try.prog.underlying T = some (.map 35 4)) (p : Int × Int) {w : World} {b : Nat} {ps : List ((Int × Int) × Value)} (h : MapIs w b ps) :
    (Instr.lookup T (.map (some b)) (pkey p) false).run Try.prog w = .ok (gotV (.bool false) (findP p ps 0)) w := by
  obtain ⟨es, clock, hb, he⟩ := h
  have hk := find_keys p w he
  have hc := check_pair es.isEmpty p.1 p.2 w
  have hz : (zeroValue 4).run Try.prog w = .ok (.bool false) w := by go_simp
  have hc2 : (Instr.checkKey es.isEmpty 10000 35 (pkey p)).run Try.prog w = .ok () w := hc
  cases e : findP p ps 0 with
  | none => rw [e] at hk; simp [Instr.lookup, run_underlying hT, MapKept.run_getObj_map hb, hc2, hk, hz, Result.andThen, gotV]
  | some x => rw [e] at hk; simp [Instr.lookup, run_underlying hT, MapKept.run_getObj_map hb, hc2, hk, hz, Result.andThen, gotV]
theorem made_map (w : World) : MapIs (w.alloc (.map #[] 0)) w.heap.size [] := ⟨#[], 0, by show (w.heap.push _)[w.heap.size]? = _; exact Array.getElem?_push_size, rfl⟩
theorem update_map {T e : TypeId} (hT : Try.prog.underlying T = some (.map 35 e)) (p : Int × Int) (v : Value) {w : World} {b : Nat} {ps : List ((Int × Int) × Value)} (h : MapIs w b ps) (hno : findP p ps 0 = none) :
    ∃ w', (Instr.mapUpdate T (.map (some b)) (pkey p) v).run Try.prog w = .ok () w' ∧ MapIs w' b (ps ++ [(p, v)]) ∧ w.grownBy w' (some b) := by
  obtain ⟨es, clock, hb, he⟩ := h
  have hk := find_keys p w he
  have hc := check_pair false p.1 p.2 w
  rw [hno] at hk
  have hc2 : (Instr.checkKey false 10000 35 (pkey p)).run Try.prog w = .ok () w := hc
  refine ⟨setBlock w b (.map (es.push ⟨pkey p, v, clock⟩) (clock + 1)), by simp [Instr.mapUpdate, run_underlying hT, MapKept.run_getObj_map hb, hc2, hk, MapKept.run_setObj_map _ hb, Result.andThen, setBlock], ⟨_, _, heap_setBlock_same hb _, by simp [he]⟩, ⟨rfl, rfl, rfl, by simp [setBlock], fun i _ hi => heap_setBlock_other hb _ (fun e => hi (by rw [e]))⟩⟩
end Go.Proofs.Ytdkdfmflghbhiaa
/- Rows beside a map; the rows that the second implementation's walk writes. Nothing here speaks of a function of the program. -/
namespace Go.Proofs.Ytdkdfmflghbhiaa
open Go.RowKit Go.ChangeMaps Go.MapKept
set_option linter.unusedVariables false
set_option linter.unusedSimpArgs false
set_option maxRecDepth 100000

/-- Rows that were made since W, and a map beside them. -/
structure HM (W : World) (l : List Itm) (b : Nat) (ps : List ((Int × Int) × Value)) (w : World) : Prop where
  hp : Hp W l w
  mp : MapIs w b ps
  lo : W.heap.size ≤ b
  far : ∀ (i : Nat) it, l[i]? = some it → it.v.ownBlock ≠ some b
namespace HM
variable {W w w' : World} {l : List Itm} {b : Nat} {ps : List ((Int × Int) × Value)}
theorem go (h : HM W l b ps w) (hb : Below w.heap.size w w') : HM W l b ps w' := ⟨h.hp.go hb, h.mp.below hb, h.lo, h.far⟩
theorem below (h : HM W l b ps w) : Below W.heap.size W w := h.hp.below
theorem box_new (h : HM W l b ps w) (T : TypeId) (cs : List Value) : HM W (box T w.heap.size cs :: l) b ps (w.alloc (.cells cs.toArray T)) := by
  refine ⟨h.hp.box_new T cs, h.mp.below (bnew _ _), h.lo, fun i it hi => ?_⟩
  cases i with
  | zero =>
    injection hi with hi
    subst hi
    have := h.mp.lt
    show (Value.slice (some ⟨w.heap.size, 0, none⟩) 1 1).ownBlock ≠ some b
    simp [Value.ownBlock]
    omega
  | succ i => exact h.far i it (by simpa using hi)
theorem tail {it : Itm} (h : HM W (it :: l) b ps w) : HM W l b ps w := ⟨h.hp.tail, h.mp, h.lo, fun i x hi => h.far (i + 1) x (by simpa using hi)⟩
theorem made (h : Hp W l w) : HM W l w.heap.size [] (w.alloc (.map #[] 0)) := by
  refine ⟨h.go (bnew _ _), made_map w, h.below.size, fun i it hi e => ?_⟩
  have := (h.lt hi e).2
  omega
theorem put {T e : TypeId} (hT : Try.prog.underlying T = some (.map 35 e)) (p : Int × Int) (v : Value) (h : HM W l b ps w) (hno : findP p ps 0 = none) :
    ∃ w', (Instr.mapUpdate T (.map (some b)) (pkey p) v).run Try.prog w = .ok () w' ∧ HM W l b (ps ++ [(p, v)]) w' := by
  obtain ⟨w', hr, hm, hg⟩ := update_map hT p v h.mp hno
  refine ⟨w', hr, ⟨⟨fun i it hi => (h.hp.own i it hi).kept hg ?_, h.hp.sep, h.hp.below.grown hg h.hp.below.size fun k hk => ?_⟩, hm, h.lo, h.far⟩⟩
  · have := h.far i it hi
    cases e : it.v.ownBlock with
    | none => exact .inl rfl
    | some k => rw [e] at this; exact .inr this
  · injection hk with hk; subst hk; exact h.lo
theorem box_set0 {T : TypeId} {g : Nat} {cs : List Value} (h : HM W (box T g cs :: l) b ps w) (j : Nat) (u : Value) : HM W (box T g (cs.set j u) :: l) b ps (w.setCell ⟨g, j, none⟩ u) := by
  have hf : b ≠ g := fun e => h.far 0 _ rfl (by rw [e]; rfl)
  have hm : w.grownBy (w.setCell ⟨g, j, none⟩ u) (some g) := ⟨rfl, rfl, rfl, by simp [World.setCell], fun k hk hne => Below.heap_setCell _ _ _ _ (fun e => hne (by rw [e]))⟩
  refine ⟨h.hp.box_set (i := 0) rfl j u, h.mp.grown hm (fun e => hf (by injection e)), h.lo, fun i it hi => ?_⟩
  cases i with
  | zero => injection hi with hi; subst hi; exact fun e => h.far 0 (box T g cs) rfl e
  | succ i => exact h.far (i + 1) it hi
end HM
/-! ### Rows of four cells -/
abbrev Fnd := (Int × Int) × (Int × Int)
def fcells (F : List Fnd) : List Value := F.flatMap fun q => [.int .i64 q.1.1, .int .i64 q.1.2, .int .i64 q.2.1, .int .i64 q.2.2]
theorem fcells_len (F : List Fnd) : (fcells F).length = F.length * 4 := by
  induction F with
  | nil => rfl
  | cons p F ih => unfold fcells at *; rw [List.flatMap_cons, List.length_append, ih]; simp; omega
theorem fcells_at {F : List Fnd} {j : Nat} {q : Fnd} (h : F[j]? = some q) : (fcells F)[j * 4]? = some (.int .i64 q.1.1) ∧ (fcells F)[j * 4 + 1]? = some (.int .i64 q.1.2) ∧ (fcells F)[j * 4 + 2]? = some (.int .i64 q.2.1) ∧ (fcells F)[j * 4 + 3]? = some (.int .i64 q.2.2) := by
  induction F generalizing j with
  | nil => simp at h
  | cons x F ih =>
    unfold fcells at *
    rw [List.flatMap_cons]
    cases j with
    | zero => injection h with h; subst h; simp
    | succ j =>
      obtain ⟨h1, h2, h3, h4⟩ := ih (show F[j]? = some q by simpa using h)
      rw [show (j + 1) * 4 = j * 4 + 1 + 1 + 1 + 1 by omega]
      simp only [List.cons_append, List.nil_append, List.getElem?_cons_succ]
      exact ⟨h1, h2, h3, h4⟩
theorem fcells_snoc (F : List Fnd) (q : Fnd) : fcells (F ++ [q]) = fcells F ++ [.int .i64 q.1.1, .int .i64 q.1.2, .int .i64 q.2.1, .int .i64 q.2.2] := by
  unfold fcells; rw [List.flatMap_append]; simp
def frow (A : Option Addr) (n c : Nat) (F : List Fnd) : Itm := ⟨62, 4, .slice A n c, n, fcells F⟩
theorem found_info : (Try.prog.info? 62).map (fun i => (i.zero, i.size, i.bytes)) = some (some (.agg #[.int .i64 0, .int .i64 0, .int .i64 0, .int .i64 0]), 4, 32) := by kernel_rfl
theorem Hp.found_at {W w : World} {l : List Itm} {i g n c : Nat} {F : List Fnd} (h : Hp W l w) (hi : l[i]? = some (frow (some ⟨g, 0, none⟩) n c F)) {j : Nat} {q : Fnd} (hj : F[j]? = some q) :
    w.cell? ⟨g, j * 4, none⟩ = some (.int .i64 q.1.1) ∧ w.cell? ⟨g, j * 4 + 1, none⟩ = some (.int .i64 q.1.2) ∧ w.cell? ⟨g, j * 4 + 2, none⟩ = some (.int .i64 q.2.1) ∧ w.cell? ⟨g, j * 4 + 3, none⟩ = some (.int .i64 q.2.2) ∧ g < w.heap.size := by
  obtain ⟨h1, h2, h3, h4⟩ := fcells_at hj
  exact ⟨(h.cell hi (cap := c) rfl h1).1, (h.cell hi (cap := c) rfl h2).1, (h.cell hi (cap := c) rfl h3).1, (h.cell hi (cap := c) rfl h4).1, (h.cell hi (cap := c) rfl h1).2.2⟩
theorem Hp.found_len {W w : World} {l : List Itm} {i n c : Nat} {A : Option Addr} {F : List Fnd} (h : Hp W l w) (hi : l[i]? = some (frow A n c F)) : F.length = n := by
  have := (h.own i _ hi).1
  rw [show (frow A n c F).xs = fcells F from rfl, fcells_len] at this
  have e : (frow A n c F).n * (frow A n c F).size = n * 4 := rfl
  omega
theorem run_app_found {W w : World} {l : List Itm} {i : Nat} {A : Option Addr} {n c b : Nat} {F : List Fnd} {ps : List ((Int × Int) × Value)} (h : HM W l b ps w) (hi : l[i]? = some (frow A n c F)) (ty : TypeId) {g0 : Nat} (q : Fnd)
    (hb : ∀ (j : Nat) u, ([.int .i64 q.1.1, .int .i64 q.1.2, .int .i64 q.2.1, .int .i64 q.2.2] : List Value)[j]? = some u → w.cell? ⟨g0, j, none⟩ = some u) (hn : n ≤ 2000000) :
    ∃ g cap w', (Builtin.append_ #[59, 59] ty #[.slice A n c, .slice (some ⟨g0, 0, none⟩) 1 1]).run Try.prog w = .ok (.slice (some ⟨g, 0, none⟩) (n + 1) cap) w' ∧
      HM W (l.set i (frow (some ⟨g, 0, none⟩) (n + 1) cap (F ++ [q]))) b ps w' := by
  obtain ⟨i0, hi0, hz0, hz1, hz2⟩ := info_parts found_info
  have news1 : ∀ u ∈ ([.int .i64 q.1.1, .int .i64 q.1.2, .int .i64 q.2.1, .int .i64 q.2.2] : List Value), u.oneCell' = true := fun u hu => by
    simp only [List.mem_cons, List.not_mem_nil, or_false] at hu
    rcases hu with rfl | rfl | rfl | rfl <;> rfl
  obtain ⟨g, cap, w', hr, ho, hg, hat, _⟩ := run_append_lies (P := Try.prog) w 59 ty W.heap.size 62 i0 _ 4 32 Try.underlying59 hi0 hz0 hz1 hz2 rfl (by decide) (.slice A n c) n (fcells F) (h.hp.own i _ hi) ⟨g0, 0, none⟩ 1 1
    [.int .i64 q.1.1, .int .i64 q.1.2, .int .i64 q.2.1, .int .i64 q.2.2] rfl
    (fun j u hu => by
      have e : (⟨g0, 0, none⟩ : Addr).add j = ⟨g0, j, none⟩ := by unfold Addr.add; split <;> simp_all
      rw [e]; exact hb j u hu) news1 (by omega) (by unfold maxLen; omega) (by omega) h.hp.below.size _ rfl
  have hat2 : (Value.slice A n c).ownBlock = some g ∨ w.heap.size ≤ g := by
    rcases hat with e | e
    · exact .inl e
    · exact .inr (by omega)
  have ho2 : w'.ownsRow W.heap.size 62 4 (.slice (some ⟨g, 0, none⟩) (n + 1) cap) (n + 1) (fcells (F ++ [q])) := by rw [fcells_snoc]; exact ho
  refine ⟨g, cap, w', hr, h.hp.upd hi (frow (some ⟨g, 0, none⟩) (n + 1) cap (F ++ [q])) hg ho2 (fun k hk => ?_), h.mp.grown hg (fun e => h.far i _ hi e.symm), h.lo, fun j it hj e => ?_⟩
  · simp [frow, Value.ownBlock] at hk
    subst hk
    exact hat2
  have hil := (List.getElem?_eq_some_iff.1 hi).1
  rw [Pt.set_at hil] at hj
  split at hj
  · injection hj with hj
    subst hj
    have hgb : g = b := by
      have : (Value.slice (some ⟨g, 0, none⟩) (n + 1) cap).ownBlock = some b := e
      simpa [Value.ownBlock] using this
    rcases hat2 with e2 | e2
    · exact h.far i _ hi (by rw [← hgb]; exact e2)
    · have := h.mp.lt
      omega
  · exact h.far j it hj e
end Go.Proofs.Ytdkdfmflghbhiaa
/- Contract of the second implementation: the pairs to which words lead, with the ways to them. -/
namespace Go.Proofs.Ytdkdfmflghbhiaa
open Go.RowKit Go.ChangeMaps Go.MapKept
set_option linter.unusedVariables false
set_option linter.unusedSimpArgs false
set_option maxRecDepth 100000

theorem seen_val (p : Int × Int) : ∀ (l : List (Int × Int)) (i : Nat), gotV (.bool false) (findP p (l.map fun q => (q, Value.bool true)) i) = .bool (decide (p ∈ l))
  | [], i => by simp [findP, gotV]
  | q :: l, i => by
    rw [List.map_cons]
    unfold findP
    by_cases h : p = q
    · rw [if_pos h]; simp [h, gotV]
    · rw [if_neg h, seen_val p l (i + 1)]; simp [h]
theorem seen_no (p : Int × Int) : ∀ (l : List (Int × Int)) (i : Nat), ¬ p ∈ l → findP p (l.map fun q => (q, Value.bool true)) i = none
  | [], i, _ => by simp [findP]
  | q :: l, i, h => by
    rw [List.map_cons]
    unfold findP
    rw [if_neg (fun e => h (by rw [e]; exact List.mem_cons_self)), seen_no p l (i + 1) (fun e => h (List.mem_cons_of_mem _ e))]
/-- The rows tell the ways. -/
structure FOk (k : Nat) (l : List (Int × Int)) (pa : List Nat) (F : List Fnd) : Prop where
  len : F.length = l.length
  pl : pa.length = l.length
  at' : ∀ (j : Nat) p, l[j]? = some p → ∃ f t : Int, F[j]? = some (p, (f, t)) ∧ (j = 0 → f = -1) ∧ (0 < j → ∃ P : Nat, pa[j]? = some P ∧ f = ((P / k : Nat) : Int) ∧ t = ((P % k : Nat) : Int))
theorem FOk.new {k : Nat} {l : List (Int × Int)} {pa : List Nat} {F : List Fnd} (h : FOk k l pa F) (h0 : 0 < l.length) {i c : Nat} (hc : c < k) (p : Int × Int) : FOk k (l ++ [p]) (pa ++ [i * k + c]) (F ++ [(p, ((i : Int), (c : Int)))]) := by
  obtain ⟨e1, e2⟩ := pos_div (i := i) hc
  refine ⟨by simp [h.len], by simp [h.pl], fun j q hq => ?_⟩
  rcases get_snoc hq with ⟨hj, e⟩ | ⟨hj, rfl⟩
  · obtain ⟨f, t, a1, a2, a3⟩ := h.at' j q e
    refine ⟨f, t, get_left a1, a2, fun h1 => ?_⟩
    obtain ⟨P, b1, b2⟩ := a3 h1
    exact ⟨P, get_left b1, b2⟩
  · refine ⟨(i : Int), (c : Int), by rw [hj, ← h.len]; exact get_last, fun e => by omega, fun _ => ⟨i * k + c, by rw [hj, ← h.pl]; exact get_last, by rw [e1], by rw [e2]⟩⟩
/-- What walk returns. -/
def WalkPost (A B : Au) (k : Nat) (W : World) (e : Ending) (w' : World) : Prop :=
  ∃ l pa F g n c, e = .returned (.slice (some ⟨g, 0, none⟩) n c) ∧ Bfs (sc2 A B) (fun _ => False) k (A.st, B.st) l pa (l.length * k) ∧ FOk k l pa F ∧ (∀ (j : Nat) p, l[j]? = some p → in2 A B p) ∧ Hp W [frow (some ⟨g, 0, none⟩) n c F] w'
set_option maxHeartbeats 32000000 in
theorem walk_any (x y : DV) (A B : Au) (k : Nat) (W : World) (hA : Good W x A k) (hB : Good W y B k) :
    Calls Try.prog 28 #[dval x A, dval y B] W (WalkPost A B k W) := by
  have GA := Lib.hid hA
  have GB := Lib.hid hB
  have HLT := Lib.hid hA.right.lt
  have HLB := Lib.hid hB.right.lt
  have hk8 := hA.k8
  have hk0 := hA.right.pos
  obtain ⟨N, hN⟩ : ∃ N, N = (A.n + 1) * (B.n + 1) := ⟨_, rfl⟩
  have hNb : N ≤ 1002001 := by
    have := Nat.mul_le_mul (show A.n + 1 ≤ 1001 by have := hA.few; omega) (show B.n + 1 ≤ 1001 by have := hB.few; omega)
    omega
  have HN := Lib.hid hN
  have hmk : ∀ w : World, (Instr.makeMap 85 none).run Try.prog w = .ok (.map (some w.heap.size)) (w.alloc (.map #[] 0)) := fun w => by unfold Instr.makeMap; go_simp
  have HMK := Lib.hid hmk
  clear hA hB hN hmk
  obtain ⟨wz, hwz⟩ : ∃ z, z = ((W.alloc (.cells #[.int .i64 A.lt, .int .i64 A.st, .slice x.A x.n x.c, .slice x.B x.m x.d] 25)).alloc (.cells #[.int .i64 B.lt, .int .i64 B.st, .slice y.A y.n y.c, .slice y.B y.m y.d] 25)) := ⟨_, rfl⟩
  have V := Lib.hid (show Hp W [box 25 (W.heap.size + 1) [.int .i64 B.lt, .int .i64 B.st, .slice y.A y.n y.c, .slice y.B y.m y.d], box 25 W.heap.size [.int .i64 A.lt, .int .i64 A.st, .slice x.A x.n x.c, .slice x.B x.m x.d]] wz by
    have := (((Hp.start W).box_new 25 [.int .i64 A.lt, .int .i64 A.st, .slice x.A x.n x.c, .slice x.B x.m x.d]).box_new 25 [.int .i64 B.lt, .int .i64 B.st, .slice y.A y.n y.c, .slice y.B y.m y.d])
    rw [hwz]; simpa using this)
  have HZ := Lib.hid hwz
  clear hwz
  go_enter Try.func28, Try.ntmps28
  go_upto_region 1 with fail
  rw [← HZ.out]
  clear HZ
  obtain ⟨r0_0, _, r0_9⟩ := V.out.box_at (i := 0) (j := 0) rfl rfl
  obtain ⟨r0_1, _, _⟩ := V.out.box_at (i := 0) (j := 1) rfl rfl
  obtain ⟨r0_2, _, _⟩ := V.out.box_at (i := 0) (j := 2) rfl rfl
  obtain ⟨r0_3, _, _⟩ := V.out.box_at (i := 0) (j := 3) rfl rfl
  obtain ⟨r1_0, _, r1_9⟩ := V.out.box_at (i := 1) (j := 0) rfl rfl
  obtain ⟨r1_1, _, _⟩ := V.out.box_at (i := 1) (j := 1) rfl rfl
  obtain ⟨r1_2, _, _⟩ := V.out.box_at (i := 1) (j := 2) rfl rfl
  obtain ⟨r1_3, _, _⟩ := V.out.box_at (i := 1) (j := 3) rfl rfl
  obtain ⟨w1, hw1⟩ : ∃ z, z = wz.alloc (.cells #[.int .i64 A.st, .int .i64 B.st, .int .i64 (-1), .int .i64 0] 62) := ⟨_, rfl⟩
  have V1 := Lib.hid (show Hp W [frow (some ⟨wz.heap.size, 0, none⟩) 1 1 [((A.st, B.st), (-1, 0))], box 25 (W.heap.size + 1) [.int .i64 B.lt, .int .i64 B.st, .slice y.A y.n y.c, .slice y.B y.m y.d], box 25 W.heap.size [.int .i64 A.lt, .int .i64 A.st, .slice x.A x.n x.c, .slice x.B x.m x.d]] w1 by
    rw [hw1]
    refine V.out.new (frow (some ⟨wz.heap.size, 0, none⟩) 1 1 [((A.st, B.st), (-1, 0))]) (bnew _ _) ?_ (fun k hk => by simp [frow, Value.ownBlock] at hk; omega)
    have := World.ownsRow_lit (base := W.heap.size) (e := 62) (size := 4) wz #[.int .i64 A.st, .int .i64 B.st, .int .i64 (-1), .int .i64 0] 1 V.out.below.size (by unfold maxLen; omega) (by simp)
    simpa [frow, fcells] using this)
  have HW1 := Lib.hid hw1
  clear hw1
  go_upto_region 2 with fail
  rw [← HW1.out]
  clear HW1 V r0_9 r0_0 r0_1 r0_2 r0_3 r1_9 r1_0 r1_1 r1_2 r1_3
  have VM := Lib.hid (HM.made V1.out)
  obtain ⟨f0, f1, _, _, f9⟩ := VM.out.hp.found_at (i := 0) (j := 0) rfl rfl
  obtain ⟨w3, hr3, hm3⟩ := HM.put (T := 85) Try.underlying85 (A.st, B.st) (.bool true) VM.out rfl
  have V3 := Lib.hid hm3
  have hmk := HMK.out w1
  obtain ⟨bm, hbm⟩ : ∃ z, z = w1.heap.size := ⟨_, rfl⟩
  have HBM := Lib.hid hbm
  rw [← hbm] at V3
  go_upto_region 4 with fail
  rw [← HBM.out]
  have HIN0 := Lib.hid (in2_start GA.out.right GB.out.right)
  have V0 := Lib.hid (show ∃ l pa F g n cap, Value.slice (some ⟨wz.heap.size, 0, none⟩) 1 1 = .slice (some ⟨g, 0, none⟩) n cap ∧ 0 ≤ n ∧ (F : List Fnd).length = n ∧ Bfs (sc2 A B) (fun _ => False) k (A.st, B.st) l pa (0 * k) ∧ FOk k l pa F ∧ (∀ (j : Nat) p, l[j]? = some p → in2 A B p) ∧ HM W [frow (some ⟨g, 0, none⟩) n cap F, box 25 (W.heap.size + 1) [.int .i64 B.lt, .int .i64 B.st, .slice y.A y.n y.c, .slice y.B y.m y.d], box 25 W.heap.size [.int .i64 A.lt, .int .i64 A.st, .slice x.A x.n x.c, .slice x.B x.m x.d]] bm (l.map fun q => (q, Value.bool true)) w3 from ⟨[(A.st, B.st)], [0], [((A.st, B.st), (-1, 0))], wz.heap.size, 1, 1, rfl, Nat.zero_le _, rfl, by rw [Nat.zero_mul]; exact Bfs.start 0 (fun h => h), ⟨rfl, rfl, fun j p hj => by
      have hj0 : j = 0 := by have := (List.getElem?_eq_some_iff.1 hj).1; simp at this; omega
      subst hj0
      injection hj with hj
      subst hj
      exact ⟨-1, 0, rfl, fun _ => rfl, fun h => absurd h (by omega)⟩⟩, fun j p hj => by
      have hj0 : j = 0 := by have := (List.getElem?_eq_some_iff.1 hj).1; simp at this; omega
      subst hj0
      injection hj with hj
      subst hj
      exact HIN0.out, V3.out⟩)
  clear V1 VM V3 f0 f1 f9 hr3 hm3 hmk hbm HBM
  go_loopw [5, 7] (fun sv cv wr => ∃ i : Nat, cv = .int .i64 (i : Int) ∧ ∃ l pa F g n cap, sv = .slice (some ⟨g, 0, none⟩) n cap ∧ i ≤ n ∧ (F : List Fnd).length = n ∧ Bfs (sc2 A B) (fun _ => False) k (A.st, B.st) l pa (i * k) ∧ FOk k l pa F ∧ (∀ (j : Nat) p, l[j]? = some p → in2 A B p) ∧ HM W [frow (some ⟨g, 0, none⟩) n cap F, box 25 (W.heap.size + 1) [.int .i64 B.lt, .int .i64 B.st, .slice y.A y.n y.c, .slice y.B y.m y.d], box 25 W.heap.size [.int .i64 A.lt, .int .i64 A.st, .slice x.A x.n x.c, .slice x.B x.m x.d]] bm (l.map fun q => (q, Value.bool true)) wr) (fun _ cv _ => N - (intOf cv).toNat)
  case atStart => exact ⟨0, rfl, V0.out⟩
  case round =>
    clear V0
    obtain ⟨i, rfl, l, pa, F, g, n, cap, rfl, hin, hFn, hb, hF, hI, hV⟩ := hrel
    obtain ⟨wi, rfl⟩ : ∃ wi : World, wi = wr := ⟨_, rfl⟩
    have hnN : n ≤ N := by
      have h1 := few2 hI hb.nd
      have h2 := hF.len
      rw [← HN.out] at h1
      omega
    by_cases hlt : i < n
    · obtain ⟨⟨p1, p2⟩, hp⟩ : ∃ p, l[i]? = some p := ⟨_, List.getElem?_eq_getElem (by have := hF.len; omega)⟩
      have HP := Lib.hid (hI i _ hp)
      have HP1 := Lib.hid (show (-1 ≤ p1 ∧ p1 < A.n) ∧ -1 ≤ p2 ∧ p2 < B.n from hI i _ hp)
      have VI := Lib.hid (show i < n ∧ (F : List Fnd).length = n ∧ Bfs (sc2 A B) (fun _ => False) k (A.st, B.st) l pa (i * k + 0) ∧ FOk k l pa F ∧ (∀ (j : Nat) p, l[j]? = some p → in2 A B p) ∧ l[i]? = some (p1, p2) ∧ HM W [frow (some ⟨g, 0, none⟩) n cap F, box 25 (W.heap.size + 1) [.int .i64 B.lt, .int .i64 B.st, .slice y.A y.n y.c, .slice y.B y.m y.d], box 25 W.heap.size [.int .i64 A.lt, .int .i64 A.st, .slice x.A x.n x.c, .slice x.B x.m x.d]] bm (l.map fun q => (q, Value.bool true)) wi from ⟨hlt, hFn, by rw [Nat.add_zero]; exact hb, hF, hI, hp, hV⟩)
      clear hb hF hI hV hin hFn hp hnN
      go_wp2_with fail
      clear hlt
      go_loopw [5, 8] (fun sv cv wr => ∃ c : Nat, cv = .int .i64 (c : Int) ∧ c ≤ k ∧ ∃ l pa F g n cap, sv = .slice (some ⟨g, 0, none⟩) n cap ∧ i < n ∧ (F : List Fnd).length = n ∧ Bfs (sc2 A B) (fun _ => False) k (A.st, B.st) l pa (i * k + c) ∧ FOk k l pa F ∧ (∀ (j : Nat) p, l[j]? = some p → in2 A B p) ∧ l[i]? = some (p1, p2) ∧ HM W [frow (some ⟨g, 0, none⟩) n cap F, box 25 (W.heap.size + 1) [.int .i64 B.lt, .int .i64 B.st, .slice y.A y.n y.c, .slice y.B y.m y.d], box 25 W.heap.size [.int .i64 A.lt, .int .i64 A.st, .slice x.A x.n x.c, .slice x.B x.m x.d]] bm (l.map fun q => (q, Value.bool true)) wr) (fun _ cv _ => k - (intOf cv).toNat)
      case atStart => exact ⟨0, rfl, Nat.zero_le _, l, pa, F, g, n, cap, rfl, VI.out⟩
      case round =>
        clear VI
        obtain ⟨c, rfl, hck, l, pa, F, g, n, cap, rfl, hin, hFn, hb, hF, hI, hp, hV⟩ := hrel
        obtain ⟨wj, rfl⟩ : ∃ wj : World, wj = wr := ⟨_, rfl⟩
        have V := Lib.hid hV
        have HB := Lib.hid hb
        have HF := Lib.hid hF
        have HI := Lib.hid hI
        have HPI := Lib.hid hp
        have HFN := Lib.hid hFn
        have hnN : n ≤ N := by
          have h1 := few2 hI hb.nd
          have h2 := hF.len
          rw [← HN.out] at h1
          omega
        have hlt2 := HLT.out
        obtain ⟨a0, _, a9⟩ := V.out.hp.box_at (i := 2) (j := 0) rfl rfl
        rw [hlt2] at a0
        by_cases hclt : c < k
        · obtain ⟨f, t', hfi, _, _⟩ := hF.at' i _ hp
          have HFI := Lib.hid hfi
          obtain ⟨y1, hy1⟩ : ∃ z, z = A.go p1 c := ⟨_, rfl⟩
          obtain ⟨y2, hy2⟩ : ∃ z, z = B.go p2 c := ⟨_, rfl⟩
          have SA := Lib.hid (show A.stepI p1 (c : Int) = y1 by rw [hy1]; exact Au.stepI_ok (by rw [hlt2]; omega))
          have SB := Lib.hid (show B.stepI p2 (c : Int) = y2 by rw [hy2]; exact Au.stepI_ok (by rw [HLB.out]; omega))
          have HY := Lib.hid (show sc2 A B (p1, p2) c = (y1, y2) by rw [hy1, hy2]; rfl)
          have HIY := Lib.hid (show in2 A B (y1, y2) by rw [← HY.out]; exact in2_step GA.out.right GB.out.right (p1, p2) c)
          clear hb hF hI hV hp hfi hy1 hy2 hFn
          go_upto_region 9 with fail
          clear a0 a9 hlt2
          go_cut [9] (fun s9 wx => ∃ g9, s9 = .pointer (some ⟨g9, 0, none⟩) ∧ HM W [box 35 g9 [.int .i64 y1, .int .i64 y2], frow (some ⟨g, 0, none⟩) n cap F, box 25 (W.heap.size + 1) [.int .i64 B.lt, .int .i64 B.st, .slice y.A y.n y.c, .slice y.B y.m y.d], box 25 W.heap.size [.int .i64 A.lt, .int .i64 A.st, .slice x.A x.n x.c, .slice x.B x.m x.d]] bm (l.map fun q => (q, Value.bool true)) wx)
          case first =>
            have hKp : Keep [(⟨W.heap.size, 0, none⟩, .int .i64 A.lt), (⟨W.heap.size, 1, none⟩, .int .i64 A.st), (⟨W.heap.size, 2, none⟩, .slice x.A x.n x.c), (⟨W.heap.size, 3, none⟩, .slice x.B x.m x.d), (⟨W.heap.size + 1, 0, none⟩, .int .i64 B.lt), (⟨W.heap.size + 1, 1, none⟩, .int .i64 B.st), (⟨W.heap.size + 1, 2, none⟩, .slice y.A y.n y.c), (⟨W.heap.size + 1, 3, none⟩, .slice y.B y.m y.d), (⟨g, i * 4, none⟩, .int .i64 p1), (⟨g, i * 4 + 1, none⟩, .int .i64 p2)] wj := List.forall_mem_cons.2 ⟨⟨(V.out.hp.box_at (i := 2) (j := 0) rfl rfl).1, (V.out.hp.box_at (i := 2) (j := 0) rfl rfl).2.2⟩, List.forall_mem_cons.2 ⟨⟨(V.out.hp.box_at (i := 2) (j := 1) rfl rfl).1, (V.out.hp.box_at (i := 2) (j := 1) rfl rfl).2.2⟩, List.forall_mem_cons.2 ⟨⟨(V.out.hp.box_at (i := 2) (j := 2) rfl rfl).1, (V.out.hp.box_at (i := 2) (j := 2) rfl rfl).2.2⟩, List.forall_mem_cons.2 ⟨⟨(V.out.hp.box_at (i := 2) (j := 3) rfl rfl).1, (V.out.hp.box_at (i := 2) (j := 3) rfl rfl).2.2⟩, List.forall_mem_cons.2 ⟨⟨(V.out.hp.box_at (i := 1) (j := 0) rfl rfl).1, (V.out.hp.box_at (i := 1) (j := 0) rfl rfl).2.2⟩, List.forall_mem_cons.2 ⟨⟨(V.out.hp.box_at (i := 1) (j := 1) rfl rfl).1, (V.out.hp.box_at (i := 1) (j := 1) rfl rfl).2.2⟩, List.forall_mem_cons.2 ⟨⟨(V.out.hp.box_at (i := 1) (j := 2) rfl rfl).1, (V.out.hp.box_at (i := 1) (j := 2) rfl rfl).2.2⟩, List.forall_mem_cons.2 ⟨⟨(V.out.hp.box_at (i := 1) (j := 3) rfl rfl).1, (V.out.hp.box_at (i := 1) (j := 3) rfl rfl).2.2⟩, List.forall_mem_cons.2 ⟨⟨(V.out.hp.found_at (i := 0) rfl HFI.out).1, (V.out.hp.found_at (i := 0) rfl HFI.out).2.2.2.2⟩, List.forall_mem_cons.2 ⟨⟨(V.out.hp.found_at (i := 0) rfl HFI.out).2.1, (V.out.hp.found_at (i := 0) rfl HFI.out).2.2.2.2⟩, fun _ h => by simp at h⟩⟩⟩⟩⟩⟩⟩⟩⟩⟩
            refine wp_region_held_drew (S := Keep _) (by kernel_rfl) hKp.drew (fun hHeld => ?_)
            have Vd := Lib.hid (V.out.go (bdrew _))
            refine tk 0 ?_ rfl ?_ ?_; rotate_left
            · intro wl hSw
              have hSw : Keep _ wl := hSw
              have k0 : wl.cell? ⟨W.heap.size, 0, none⟩ = some (.int .i64 A.lt) := (hSw _ (.head _)).1
              have k1 : wl.cell? ⟨W.heap.size, 1, none⟩ = some (.int .i64 A.st) := (hSw _ (.tail _ (.head _))).1
              have k2 : wl.cell? ⟨W.heap.size, 2, none⟩ = some (.slice x.A x.n x.c) := (hSw _ (.tail _ (.tail _ (.head _)))).1
              have k3 : wl.cell? ⟨W.heap.size, 3, none⟩ = some (.slice x.B x.m x.d) := (hSw _ (.tail _ (.tail _ (.tail _ (.head _))))).1
              clear hSw
              go_simp
              try (with_reducible rfl)
            try simp only [Act.put, sA, sZ, sS]
            refine tk 1 ?_ rfl ?_ ?_; rotate_left; focus (intro w hSw; clear hSw; go_simp; try (with_reducible rfl))
            try simp only [Act.put, sA, sZ, sS]
            refine tk 2 ?_ rfl ?_ ?_; rotate_left; focus (intro w hSw; clear hSw; go_simp; try (with_reducible rfl))
            try simp only [Act.put, sA, sZ, sS]
            refine tk 3 ?_ rfl ?_ ?_; rotate_left; focus (intro w hSw; clear hSw; go_simp; try (with_reducible rfl))
            try simp only [Act.put, sA, sZ, sS]
            refine tk 4 ?_ rfl ?_ ?_; rotate_left; focus (intro w hSw; clear hSw; go_simp; try (with_reducible rfl))
            try simp only [Act.put, sA, sZ, sS]
            refine tk 5 ?_ rfl ?_ ?_; rotate_left; focus (intro w hSw; clear hSw; go_simp; try (with_reducible rfl))
            try simp only [Act.put, sA, sZ, sS]
            refine tk 6 ?_ rfl ?_ ?_; rotate_left
            · intro wl hSw
              have hSw : Keep _ wl := hSw
              have k0 : wl.cell? ⟨g, i * 4, none⟩ = some (.int .i64 p1) := (hSw _ (.tail _ (.tail _ (.tail _ (.tail _ (.tail _ (.tail _ (.tail _ (.tail _ (.head _)))))))))).1
              clear hSw
              go_simp
              try (with_reducible rfl)
            try simp only [Act.put, sA, sZ, sS]
            refine tk 7 ?_ rfl ?_ ?_; rotate_left; focus (intro w hSw; clear hSw; go_simp; try (with_reducible rfl))
            try simp only [Act.put, sA, sZ, sS]
            refine tk 9 ?_ rfl ?_ ?_; rotate_left
            · intro wl hSw
              have hSw : Keep _ wl := hSw
              have k0 : wl.cell? ⟨W.heap.size + 1, 0, none⟩ = some (.int .i64 B.lt) := (hSw _ (.tail _ (.tail _ (.tail _ (.tail _ (.head _)))))).1
              have k1 : wl.cell? ⟨W.heap.size + 1, 1, none⟩ = some (.int .i64 B.st) := (hSw _ (.tail _ (.tail _ (.tail _ (.tail _ (.tail _ (.head _))))))).1
              have k2 : wl.cell? ⟨W.heap.size + 1, 2, none⟩ = some (.slice y.A y.n y.c) := (hSw _ (.tail _ (.tail _ (.tail _ (.tail _ (.tail _ (.tail _ (.head _)))))))).1
              have k3 : wl.cell? ⟨W.heap.size + 1, 3, none⟩ = some (.slice y.B y.m y.d) := (hSw _ (.tail _ (.tail _ (.tail _ (.tail _ (.tail _ (.tail _ (.tail _ (.head _))))))))).1
              clear hSw
              go_simp
              try (with_reducible rfl)
            try simp only [Act.put, sA, sZ, sS]
            refine tk 10 ?_ rfl ?_ ?_; rotate_left; focus (intro w hSw; clear hSw; go_simp; try (with_reducible rfl))
            try simp only [Act.put, sA, sZ, sS]
            refine tk 11 ?_ rfl ?_ ?_; rotate_left; focus (intro w hSw; clear hSw; go_simp; try (with_reducible rfl))
            try simp only [Act.put, sA, sZ, sS]
            refine tk 12 ?_ rfl ?_ ?_; rotate_left; focus (intro w hSw; clear hSw; go_simp; try (with_reducible rfl))
            try simp only [Act.put, sA, sZ, sS]
            refine tk 13 ?_ rfl ?_ ?_; rotate_left; focus (intro w hSw; clear hSw; go_simp; try (with_reducible rfl))
            try simp only [Act.put, sA, sZ, sS]
            refine tk 14 ?_ rfl ?_ ?_; rotate_left; focus (intro w hSw; clear hSw; go_simp; try (with_reducible rfl))
            try simp only [Act.put, sA, sZ, sS]
            refine tk 15 ?_ rfl ?_ ?_; rotate_left
            · intro wl hSw
              have hSw : Keep _ wl := hSw
              have k0 : wl.cell? ⟨g, i * 4 + 1, none⟩ = some (.int .i64 p2) := (hSw _ (.tail _ (.tail _ (.tail _ (.tail _ (.tail _ (.tail _ (.tail _ (.tail _ (.tail _ (.head _))))))))))).1
              clear hSw
              go_simp
              try (with_reducible rfl)
            try simp only [Act.put, sA, sZ, sS]
            refine tk 16 ?_ rfl ?_ ?_; rotate_left; focus (intro w hSw; clear hSw; go_simp; try (with_reducible rfl))
            try simp only [Act.put, sA, sZ, sS]
            refine wpAnyH_ready (rs := [8, 19]) (by kernel_rfl) (by simp) ?_
            refine AllReadyH.cons (List.getElem?_toArray.trans rfl) (fun K hK => ?_) ?_
            · go_simp
              refine (rstep_any x A k p1 (c : Int) _ (GA.out.below Vd.out.below) HP1.out.1.1 HP1.out.1.2).mono ?_
              rintro e w_8 ⟨rfl, b_8⟩
              try go_wp2_with fail
              rw [SA.out]
              have V_8 := Lib.hid (Vd.out.go b_8)
              refine hK.out _ _ (hHeld.go b_8) (fun hHeld => ?_)
              clear hK K
              try simp only [Act.put, sA, sZ, sS]
              refine wpAnyH_ready (rs := [17, 19]) (by kernel_rfl) (by simp) ?_
              refine AllReadyH.cons (List.getElem?_toArray.trans rfl) (fun K hK => ?_) ?_
              · go_simp
                refine (rstep_any y B k p2 (c : Int) _ (GB.out.below V_8.out.below) HP1.out.2.1 HP1.out.2.2).mono ?_
                rintro e w_8_17 ⟨rfl, b_8_17⟩
                try go_wp2_with fail
                rw [SB.out]
                have V_8_17 := Lib.hid (V_8.out.go b_8_17)
                refine hK.out _ _ (hHeld.go b_8_17) (fun hHeld => ?_)
                clear hK K
                try simp only [Act.put, sA, sZ, sS]
                refine tk 18 ?_ rfl ?_ ?_; rotate_left; focus (intro w hSw; clear hSw; go_simp; try (with_reducible rfl))
                try simp only [Act.put, sA, sZ, sS]
                refine wpAnyH_ready (rs := [19]) (by kernel_rfl) (by simp) ?_
                refine AllReadyH.cons (List.getElem?_toArray.trans rfl) (fun K hK => ?_) AllReadyH.nil
                have bq : W.heap.size + 1 < w_8_17.heap.size := (V_8_17.out.hp.box_at (i := 1) (j := 0) rfl rfl).2.2
                have bg : g < w_8_17.heap.size := (V_8_17.out.hp.found_at (i := 0) rfl HFI.out).2.2.2.2
                obtain ⟨w_8_17_19, hw_8_17_19⟩ : ∃ z, z = (w_8_17.alloc (.cells #[.int .i64 0, .int .i64 0] 35)) := ⟨_, rfl⟩
                have V_8_17_19 := Lib.hid (show HM _ (box 35 w_8_17.heap.size [.int .i64 0, .int .i64 0] :: _) _ _ w_8_17_19 by rw [hw_8_17_19]; exact V_8_17.out.box_new 35 [.int .i64 0, .int .i64 0])
                have Bw_8_17_19 := Lib.hid (show Below w_8_17.heap.size w_8_17 w_8_17_19 by rw [hw_8_17_19]; exact bnew _ _)
                go_simp
                rw [← hw_8_17_19]
                clear hw_8_17_19
                refine hK.out _ _ (hHeld.go Bw_8_17_19.out) (fun hHeld => ?_)
                clear hK K
                try simp only [Act.put, sA, sZ, sS]
                refine wpAnyH_ready (rs := [20]) (by kernel_rfl) (by simp) ?_
                refine AllReadyH.cons (List.getElem?_toArray.trans rfl) (fun K hK => ?_) AllReadyH.nil
                obtain ⟨r0, o0, z0⟩ := V_8_17_19.out.hp.box_at (i := 0) (j := 0) rfl rfl
                obtain ⟨r1, o1, z1⟩ := V_8_17_19.out.hp.box_at (i := 0) (j := 1) rfl rfl
                have VE := Lib.hid ((V_8_17_19.out.box_set0 0 (.int .i64 y1)).box_set0 1 (.int .i64 y2))
                go_simp
                refine hK.out _ _ (((hHeld.set _ _ _ (List.forall_mem_cons.2 ⟨(by show ¬ W.heap.size = w_8_17.heap.size; omega), List.forall_mem_cons.2 ⟨(by show ¬ W.heap.size = w_8_17.heap.size; omega), List.forall_mem_cons.2 ⟨(by show ¬ W.heap.size = w_8_17.heap.size; omega), List.forall_mem_cons.2 ⟨(by show ¬ W.heap.size = w_8_17.heap.size; omega), List.forall_mem_cons.2 ⟨(by show ¬ W.heap.size + 1 = w_8_17.heap.size; omega), List.forall_mem_cons.2 ⟨(by show ¬ W.heap.size + 1 = w_8_17.heap.size; omega), List.forall_mem_cons.2 ⟨(by show ¬ W.heap.size + 1 = w_8_17.heap.size; omega), List.forall_mem_cons.2 ⟨(by show ¬ W.heap.size + 1 = w_8_17.heap.size; omega), List.forall_mem_cons.2 ⟨(by show ¬ g = w_8_17.heap.size; omega), List.forall_mem_cons.2 ⟨(by show ¬ g = w_8_17.heap.size; omega), fun _ h => by simp at h⟩⟩⟩⟩⟩⟩⟩⟩⟩⟩)).set _ _ _ (List.forall_mem_cons.2 ⟨(by show ¬ W.heap.size = w_8_17.heap.size; omega), List.forall_mem_cons.2 ⟨(by show ¬ W.heap.size = w_8_17.heap.size; omega), List.forall_mem_cons.2 ⟨(by show ¬ W.heap.size = w_8_17.heap.size; omega), List.forall_mem_cons.2 ⟨(by show ¬ W.heap.size = w_8_17.heap.size; omega), List.forall_mem_cons.2 ⟨(by show ¬ W.heap.size + 1 = w_8_17.heap.size; omega), List.forall_mem_cons.2 ⟨(by show ¬ W.heap.size + 1 = w_8_17.heap.size; omega), List.forall_mem_cons.2 ⟨(by show ¬ W.heap.size + 1 = w_8_17.heap.size; omega), List.forall_mem_cons.2 ⟨(by show ¬ W.heap.size + 1 = w_8_17.heap.size; omega), List.forall_mem_cons.2 ⟨(by show ¬ g = w_8_17.heap.size; omega), List.forall_mem_cons.2 ⟨(by show ¬ g = w_8_17.heap.size; omega), fun _ h => by simp at h⟩⟩⟩⟩⟩⟩⟩⟩⟩⟩))) (fun hHeld => ?_)
                clear hK K
                try simp only [Act.put, sA, sZ, sS]
                refine wpAnyH_done (by kernel_rfl) ?_ _
                go_wp2_with fail
                go_meet
                exact ⟨_, rfl, VE.out⟩
              refine AllReadyH.cons (List.getElem?_toArray.trans rfl) (fun K hK => ?_) ?_
              · have bq : W.heap.size + 1 < w_8.heap.size := (V_8.out.hp.box_at (i := 1) (j := 0) rfl rfl).2.2
                have bg : g < w_8.heap.size := (V_8.out.hp.found_at (i := 0) rfl HFI.out).2.2.2.2
                obtain ⟨w_8_19, hw_8_19⟩ : ∃ z, z = (w_8.alloc (.cells #[.int .i64 0, .int .i64 0] 35)) := ⟨_, rfl⟩
                have V_8_19 := Lib.hid (show HM _ (box 35 w_8.heap.size [.int .i64 0, .int .i64 0] :: _) _ _ w_8_19 by rw [hw_8_19]; exact V_8.out.box_new 35 [.int .i64 0, .int .i64 0])
                have Bw_8_19 := Lib.hid (show Below w_8.heap.size w_8 w_8_19 by rw [hw_8_19]; exact bnew _ _)
                go_simp
                rw [← hw_8_19]
                clear hw_8_19
                refine hK.out _ _ (hHeld.go Bw_8_19.out) (fun hHeld => ?_)
                clear hK K
                try simp only [Act.put, sA, sZ, sS]
                refine wpAnyH_ready (rs := [17]) (by kernel_rfl) (by simp) ?_
                refine AllReadyH.cons (List.getElem?_toArray.trans rfl) (fun K hK => ?_) AllReadyH.nil
                go_simp
                refine (rstep_any y B k p2 (c : Int) _ (GB.out.below V_8_19.out.below) HP1.out.2.1 HP1.out.2.2).mono ?_
                rintro e w_8_19_17 ⟨rfl, b_8_19_17⟩
                try go_wp2_with fail
                rw [SB.out]
                have V_8_19_17 := Lib.hid (V_8_19.out.go b_8_19_17)
                refine hK.out _ _ (hHeld.go b_8_19_17) (fun hHeld => ?_)
                clear hK K
                try simp only [Act.put, sA, sZ, sS]
                refine tk 18 ?_ rfl ?_ ?_; rotate_left; focus (intro w hSw; clear hSw; go_simp; try (with_reducible rfl))
                try simp only [Act.put, sA, sZ, sS]
                refine wpAnyH_ready (rs := [20]) (by kernel_rfl) (by simp) ?_
                refine AllReadyH.cons (List.getElem?_toArray.trans rfl) (fun K hK => ?_) AllReadyH.nil
                obtain ⟨r0, o0, z0⟩ := V_8_19_17.out.hp.box_at (i := 0) (j := 0) rfl rfl
                obtain ⟨r1, o1, z1⟩ := V_8_19_17.out.hp.box_at (i := 0) (j := 1) rfl rfl
                have VE := Lib.hid ((V_8_19_17.out.box_set0 0 (.int .i64 y1)).box_set0 1 (.int .i64 y2))
                go_simp
                refine hK.out _ _ (((hHeld.set _ _ _ (List.forall_mem_cons.2 ⟨(by show ¬ W.heap.size = w_8.heap.size; omega), List.forall_mem_cons.2 ⟨(by show ¬ W.heap.size = w_8.heap.size; omega), List.forall_mem_cons.2 ⟨(by show ¬ W.heap.size = w_8.heap.size; omega), List.forall_mem_cons.2 ⟨(by show ¬ W.heap.size = w_8.heap.size; omega), List.forall_mem_cons.2 ⟨(by show ¬ W.heap.size + 1 = w_8.heap.size; omega), List.forall_mem_cons.2 ⟨(by show ¬ W.heap.size + 1 = w_8.heap.size; omega), List.forall_mem_cons.2 ⟨(by show ¬ W.heap.size + 1 = w_8.heap.size; omega), List.forall_mem_cons.2 ⟨(by show ¬ W.heap.size + 1 = w_8.heap.size; omega), List.forall_mem_cons.2 ⟨(by show ¬ g = w_8.heap.size; omega), List.forall_mem_cons.2 ⟨(by show ¬ g = w_8.heap.size; omega), fun _ h => by simp at h⟩⟩⟩⟩⟩⟩⟩⟩⟩⟩)).set _ _ _ (List.forall_mem_cons.2 ⟨(by show ¬ W.heap.size = w_8.heap.size; omega), List.forall_mem_cons.2 ⟨(by show ¬ W.heap.size = w_8.heap.size; omega), List.forall_mem_cons.2 ⟨(by show ¬ W.heap.size = w_8.heap.size; omega), List.forall_mem_cons.2 ⟨(by show ¬ W.heap.size = w_8.heap.size; omega), List.forall_mem_cons.2 ⟨(by show ¬ W.heap.size + 1 = w_8.heap.size; omega), List.forall_mem_cons.2 ⟨(by show ¬ W.heap.size + 1 = w_8.heap.size; omega), List.forall_mem_cons.2 ⟨(by show ¬ W.heap.size + 1 = w_8.heap.size; omega), List.forall_mem_cons.2 ⟨(by show ¬ W.heap.size + 1 = w_8.heap.size; omega), List.forall_mem_cons.2 ⟨(by show ¬ g = w_8.heap.size; omega), List.forall_mem_cons.2 ⟨(by show ¬ g = w_8.heap.size; omega), fun _ h => by simp at h⟩⟩⟩⟩⟩⟩⟩⟩⟩⟩))) (fun hHeld => ?_)
                clear hK K
                try simp only [Act.put, sA, sZ, sS]
                refine wpAnyH_done (by kernel_rfl) ?_ _
                go_wp2_with fail
                go_meet
                exact ⟨_, rfl, VE.out⟩
              exact AllReadyH.nil
            refine AllReadyH.cons (List.getElem?_toArray.trans rfl) (fun K hK => ?_) ?_
            · have bq : W.heap.size + 1 < wj.heap.size := (Vd.out.hp.box_at (i := 1) (j := 0) rfl rfl).2.2
              have bg : g < wj.heap.size := (Vd.out.hp.found_at (i := 0) rfl HFI.out).2.2.2.2
              obtain ⟨w_19, hw_19⟩ : ∃ z, z = (wj.alloc (.cells #[.int .i64 0, .int .i64 0] 35)).drew := ⟨_, rfl⟩
              have V_19 := Lib.hid (show HM _ (box 35 wj.heap.size [.int .i64 0, .int .i64 0] :: _) _ _ w_19 by rw [hw_19]; exact Vd.out.box_new 35 [.int .i64 0, .int .i64 0])
              have Bw_19 := Lib.hid (show Below wj.drew.heap.size wj.drew w_19 by rw [hw_19]; exact bnew _ _)
              go_simp
              rw [← hw_19]
              clear hw_19
              refine hK.out _ _ (hHeld.go Bw_19.out) (fun hHeld => ?_)
              clear hK K
              try simp only [Act.put, sA, sZ, sS]
              refine wpAnyH_ready (rs := [8]) (by kernel_rfl) (by simp) ?_
              refine AllReadyH.cons (List.getElem?_toArray.trans rfl) (fun K hK => ?_) AllReadyH.nil
              go_simp
              refine (rstep_any x A k p1 (c : Int) _ (GA.out.below V_19.out.below) HP1.out.1.1 HP1.out.1.2).mono ?_
              rintro e w_19_8 ⟨rfl, b_19_8⟩
              try go_wp2_with fail
              rw [SA.out]
              have V_19_8 := Lib.hid (V_19.out.go b_19_8)
              refine hK.out _ _ (hHeld.go b_19_8) (fun hHeld => ?_)
              clear hK K
              try simp only [Act.put, sA, sZ, sS]
              refine wpAnyH_ready (rs := [17]) (by kernel_rfl) (by simp) ?_
              refine AllReadyH.cons (List.getElem?_toArray.trans rfl) (fun K hK => ?_) AllReadyH.nil
              go_simp
              refine (rstep_any y B k p2 (c : Int) _ (GB.out.below V_19_8.out.below) HP1.out.2.1 HP1.out.2.2).mono ?_
              rintro e w_19_8_17 ⟨rfl, b_19_8_17⟩
              try go_wp2_with fail
              rw [SB.out]
              have V_19_8_17 := Lib.hid (V_19_8.out.go b_19_8_17)
              refine hK.out _ _ (hHeld.go b_19_8_17) (fun hHeld => ?_)
              clear hK K
              try simp only [Act.put, sA, sZ, sS]
              refine tk 18 ?_ rfl ?_ ?_; rotate_left; focus (intro w hSw; clear hSw; go_simp; try (with_reducible rfl))
              try simp only [Act.put, sA, sZ, sS]
              refine wpAnyH_ready (rs := [20]) (by kernel_rfl) (by simp) ?_
              refine AllReadyH.cons (List.getElem?_toArray.trans rfl) (fun K hK => ?_) AllReadyH.nil
              obtain ⟨r0, o0, z0⟩ := V_19_8_17.out.hp.box_at (i := 0) (j := 0) rfl rfl
              obtain ⟨r1, o1, z1⟩ := V_19_8_17.out.hp.box_at (i := 0) (j := 1) rfl rfl
              have VE := Lib.hid ((V_19_8_17.out.box_set0 0 (.int .i64 y1)).box_set0 1 (.int .i64 y2))
              go_simp
              refine hK.out _ _ (((hHeld.set _ _ _ (List.forall_mem_cons.2 ⟨(by show ¬ W.heap.size = wj.heap.size; omega), List.forall_mem_cons.2 ⟨(by show ¬ W.heap.size = wj.heap.size; omega), List.forall_mem_cons.2 ⟨(by show ¬ W.heap.size = wj.heap.size; omega), List.forall_mem_cons.2 ⟨(by show ¬ W.heap.size = wj.heap.size; omega), List.forall_mem_cons.2 ⟨(by show ¬ W.heap.size + 1 = wj.heap.size; omega), List.forall_mem_cons.2 ⟨(by show ¬ W.heap.size + 1 = wj.heap.size; omega), List.forall_mem_cons.2 ⟨(by show ¬ W.heap.size + 1 = wj.heap.size; omega), List.forall_mem_cons.2 ⟨(by show ¬ W.heap.size + 1 = wj.heap.size; omega), List.forall_mem_cons.2 ⟨(by show ¬ g = wj.heap.size; omega), List.forall_mem_cons.2 ⟨(by show ¬ g = wj.heap.size; omega), fun _ h => by simp at h⟩⟩⟩⟩⟩⟩⟩⟩⟩⟩)).set _ _ _ (List.forall_mem_cons.2 ⟨(by show ¬ W.heap.size = wj.heap.size; omega), List.forall_mem_cons.2 ⟨(by show ¬ W.heap.size = wj.heap.size; omega), List.forall_mem_cons.2 ⟨(by show ¬ W.heap.size = wj.heap.size; omega), List.forall_mem_cons.2 ⟨(by show ¬ W.heap.size = wj.heap.size; omega), List.forall_mem_cons.2 ⟨(by show ¬ W.heap.size + 1 = wj.heap.size; omega), List.forall_mem_cons.2 ⟨(by show ¬ W.heap.size + 1 = wj.heap.size; omega), List.forall_mem_cons.2 ⟨(by show ¬ W.heap.size + 1 = wj.heap.size; omega), List.forall_mem_cons.2 ⟨(by show ¬ W.heap.size + 1 = wj.heap.size; omega), List.forall_mem_cons.2 ⟨(by show ¬ g = wj.heap.size; omega), List.forall_mem_cons.2 ⟨(by show ¬ g = wj.heap.size; omega), fun _ h => by simp at h⟩⟩⟩⟩⟩⟩⟩⟩⟩⟩))) (fun hHeld => ?_)
              clear hK K
              try simp only [Act.put, sA, sZ, sS]
              refine wpAnyH_done (by kernel_rfl) ?_ _
              go_wp2_with fail
              go_meet
              exact ⟨_, rfl, VE.out⟩
            exact AllReadyH.nil
          case rest =>
            obtain ⟨g9, rfl, hv⟩ := hcut
            have V9 := Lib.hid hv
            clear hv V
            obtain ⟨sb, hsb⟩ : ∃ o : Bool, o = decide ((y1, y2) ∈ l) := ⟨_, rfl⟩
            have hlk := look_bool (T := 85) Try.underlying85 (y1, y2) V9.out.mp
            rw [seen_val, ← hsb] at hlk
            have HSB := Lib.hid hsb
            obtain ⟨q0, _, q9⟩ := V9.out.hp.box_at (i := 0) (j := 0) rfl rfl
            obtain ⟨q1, _, _⟩ := V9.out.hp.box_at (i := 0) (j := 1) rfl rfl
            have hPd := pos_div (i := i) hclt
            have HPD := Lib.hid hPd
            clear hsb hPd
            cases hs : sb
            · subst hs
              have HNI := Lib.hid (show ¬ (y1, y2) ∈ l from of_decide_eq_false HSB.out.symm)
              obtain ⟨wm, hrm, hvm⟩ := V9.out.put (T := 85) Try.underlying85 (y1, y2) (.bool true) (seen_no (y1, y2) l 0 HNI.out)
              have VM := Lib.hid hvm
              clear hvm
              go_upto_region 12 with fail
              clear hlk hrm q0 q1 q9 V9
              obtain ⟨wy, hwy⟩ : ∃ z, z = wm.alloc (.cells #[.int .i64 y1, .int .i64 y2, .int .i64 (i : Int), .int .i64 (c : Int)] 62) := ⟨_, rfl⟩
              have V10 := Lib.hid (show HM W (box 62 wm.heap.size [.int .i64 y1, .int .i64 y2, .int .i64 (i : Int), .int .i64 (c : Int)] :: [box 35 g9 [.int .i64 y1, .int .i64 y2], frow (some ⟨g, 0, none⟩) n cap F, box 25 (W.heap.size + 1) [.int .i64 B.lt, .int .i64 B.st, .slice y.A y.n y.c, .slice y.B y.m y.d], box 25 W.heap.size [.int .i64 A.lt, .int .i64 A.st, .slice x.A x.n x.c, .slice x.B x.m x.d]]) bm (l.map (fun q => (q, Value.bool true)) ++ [((y1, y2), Value.bool true)]) wy by rw [hwy]; exact VM.out.box_new 62 [.int .i64 y1, .int .i64 y2, .int .i64 (i : Int), .int .i64 (c : Int)])
              obtain ⟨g4, cap4, w4, hr4, hv4⟩ := run_app_found V10.out (i := 2) rfl 59 ((y1, y2), ((i : Int), (c : Int))) (fun j u hu => (V10.out.hp.box_at (i := 0) rfl hu).1) (by omega)
              have V11 := Lib.hid hv4.tail.tail
              have HYY := Lib.hid hwy
              have HR4 := Lib.hid hr4
              obtain ⟨q0, _, q9⟩ := VM.out.hp.box_at (i := 0) (j := 0) rfl rfl
              obtain ⟨q1, _, _⟩ := VM.out.hp.box_at (i := 0) (j := 1) rfl rfl
              clear hwy hv4 hr4 V10 VM
              have HB2 := Lib.hid (show Bfs (sc2 A B) (fun _ => False) k (A.st, B.st) (l ++ [(y1, y2)]) (pa ++ [i * k + c]) (i * k + (c + 1)) by
                have h1 := HB.out.new (y := (p1, p2)) (by rw [HPD.out.1]; exact HPI.out) (fun h => h) (fun j hj => by
                  rw [HPD.out.2, HY.out] at hj
                  exact HNI.out (List.mem_of_getElem? hj))
                rw [HPD.out.2, HY.out] at h1
                exact h1)
              have HF2 := Lib.hid (HF.out.new (by have h1 := HF.out.len; have h2 := HFN.out; omega) hclt (i := i) (y1, y2))
              have HI2 := Lib.hid (show ∀ (j : Nat) p, (l ++ [(y1, y2)])[j]? = some p → in2 A B p from fun j p hj => by
                rcases get_snoc hj with ⟨_, e⟩ | ⟨_, rfl⟩
                · exact HI.out j p e
                · exact HIY.out)
              have V12 := Lib.hid (show HM W [frow (some ⟨g4, 0, none⟩) (n + 1) cap4 (F ++ [((y1, y2), ((i : Int), (c : Int)))]), box 25 (W.heap.size + 1) [.int .i64 B.lt, .int .i64 B.st, .slice y.A y.n y.c, .slice y.B y.m y.d], box 25 W.heap.size [.int .i64 A.lt, .int .i64 A.st, .slice x.A x.n x.c, .slice x.B x.m x.d]] bm ((l ++ [(y1, y2)]).map fun q => (q, Value.bool true)) w4 by rw [List.map_append]; exact V11.out)
              clear V11
              go_wp2_with (at_builtin; rw [← HYY.out]; refine wpList_app_run rfl (.tmp 60) (.tmp 65) 59 rfl HR4.out rfl rfl ?_)
              go_roundw
              case rel => exact ⟨c + 1, by go_num, by omega, _, _, _, g4, n + 1, cap4, rfl, by omega, by rw [List.length_append, HFN.out]; rfl, HB2.out, HF2.out, HI2.out, get_left HPI.out, V12.out⟩
              case measure => simp [intOf]; omega
            · subst hs
              have HJ := Lib.hid (show ∃ j : Nat, l[j]? = some (y1, y2) from List.mem_iff_getElem?.1 (of_decide_eq_true HSB.out.symm))
              have HB2 := Lib.hid (show Bfs (sc2 A B) (fun _ => False) k (A.st, B.st) l pa (i * k + (c + 1)) from HB.out.seen (y := (p1, p2)) (by rw [HPD.out.1]; exact HPI.out) (.inr (by rw [HPD.out.2, HY.out]; exact HJ.out)))
              have V10 := Lib.hid V9.out.tail
              go_wp2_with fail
              go_roundw
              case rel => exact ⟨c + 1, by go_num, by omega, l, pa, F, g, n, cap, rfl, hin, HFN.out, HB2.out, HF.out, HI.out, HPI.out, V10.out⟩
              case measure => simp [intOf]; omega
        · obtain rfl : k = c := by omega
          have HB2 := Lib.hid (show Bfs (sc2 A B) (fun _ => False) k (A.st, B.st) l pa ((i + 1) * k) by rw [Nat.add_mul, Nat.one_mul]; exact hb)
          clear hb hF hI hV hp hFn
          go_wp2_with fail
          go_roundw
          case rel => exact ⟨i + 1, by go_num, l, pa, F, g, n, cap, rfl, by omega, HFN.out, HB2.out, HF.out, HI.out, V.out⟩
          case measure => simp [intOf]; omega
    · obtain rfl : i = n := by omega
      have hll : l.length = i := by have := hF.len; omega
      have HR := Lib.hid (show Bfs (sc2 A B) (fun _ => False) k (A.st, B.st) l pa (l.length * k) ∧ FOk k l pa F ∧ (∀ (j : Nat) p, l[j]? = some p → in2 A B p) ∧ Hp W [frow (some ⟨g, 0, none⟩) i cap F] wi from ⟨by rw [hll]; exact hb, hF, hI, hV.hp.pick [0] (by decide) rfl⟩)
      clear hb hF hI hV hFn hin hll hnN
      go_wp2_with fail
      go_ret
      exact ⟨l, pa, F, g, i, cap, rfl, HR.out⟩
end Go.Proofs.Ytdkdfmflghbhiaa
