/- Maps whose keys are pairs: what the walk meets. Nothing here speaks of a function of the program. -/
import Derived.Test.YtbfedfiemkhefaaQa
import Derived.Maps.Keyed
namespace Go.Proofs.Ytbfedfiemkhefaa
open Go.RowKit Go.ChangeMaps Go.MapKept
set_option linter.unusedVariables false
set_option linter.unusedSimpArgs false
set_option maxRecDepth 100000

abbrev pkey (p : Int × Int) : Value := .agg #[.int .i64 p.1, .int .i64 p.2]
theorem eqIn_int (n : Nat) (a b : Int) (w : World) : (Op.equalIn (n + 1) 3 (.int .i64 a) (.int .i64 b)).run Try.prog w = .ok (a == b) w := by
  unfold Op.equalIn
  go_simp
theorem eqIn_pair (n : Nat) (a b c d : Int) (w : World) : (Op.equalIn (n + 2) 46 (.agg #[.int .i64 a, .int .i64 b]) (.agg #[.int .i64 c, .int .i64 d])).run Try.prog w = .ok (decide ((a, b) = (c, d))) w := by
  have h : ∀ (x y : Int) (w : World), (Op.equalIn (n + 1) 3 (.int .i64 x) (.int .i64 y)).run Try.prog w = .ok (x == y) w := fun x y w => eqIn_int n x y w
  unfold Op.equalIn
  go_simp
  by_cases h1 : a = c <;> by_cases h2 : b = d <;> simp [h1, h2]
theorem eq_pair (a b c d : Int) (w : World) : (Op.equal 46 (.agg #[.int .i64 a, .int .i64 b]) (.agg #[.int .i64 c, .int .i64 d])).run Try.prog w = .ok (decide ((a, b) = (c, d))) w := eqIn_pair 9998 a b c d w
theorem check_int (e : Bool) (n : Nat) (a : Int) (w : World) : (Instr.checkKey e (n + 1) 3 (.int .i64 a)).run Try.prog w = .ok () w := by
  unfold Instr.checkKey
  go_simp
theorem check_pair (e : Bool) (a b : Int) (w : World) : (Instr.checkKey e 10000 46 (.agg #[.int .i64 a, .int .i64 b])).run Try.prog w = .ok () w := by
  have h : ∀ (x : Int) (w : World), (Instr.checkKey e 9999 3 (.int .i64 x)).run Try.prog w = .ok () w := fun x w => check_int e 9998 x w
  unfold Instr.checkKey
  go_simp
/-- Where a key stands. -/
def findP {κ : Type} [DecidableEq κ] (p : κ) : List (κ × Value) → Nat → Option (Nat × Value)
  | [], _ => none
  | q :: r, i => if p = q.1 then some (i, q.2) else findP p r (i + 1)
theorem find_pairs (p : Int × Int) (w : World) : ∀ (es : List MapEntry) (ps : List ((Int × Int) × Value)) (i : Nat), es.map (fun e => (e.key, e.val)) = ps.map (fun q => (pkey q.1, q.2)) →
    (Instr.findAsking 46 (pkey p) es i).run Try.prog w = .ok (findP p ps i) w
  | [], [], i, _ => by unfold Instr.findAsking findP; go_simp
  | [], _ :: _, i, h => by cases h
  | _ :: _, [], i, h => by cases h
  | e :: es, q :: ps, i, h => by
    rw [List.map_cons, List.map_cons] at h
    injection h with h1 h2
    injection h1 with h3 h4
    have ih := find_pairs p w es ps (i + 1) h2
    have he := eq_pair p.1 p.2 q.1.1 q.1.2 w
    unfold Instr.findAsking findP
    rw [h3, h4]
    rw [Sem.run_bind, he, Result.andThen_ok]
    by_cases hp : p = q.1
    · rw [if_pos hp, decide_eq_true (by rw [hp])]
      go_simp
    · rw [if_neg hp, decide_eq_false (show ¬ (p.1, p.2) = (q.1.1, q.1.2) from hp)]
      simpa using ih
/-- The block holds a map with these entries. -/
def MapIs (w : World) (b : Nat) (ps : List ((Int × Int) × Value)) : Prop := ∃ (es : Array MapEntry) (clock : Nat), w.heap[b]? = some (.map es clock) ∧ es.toList.map (fun e => (e.key, e.val)) = ps.map (fun q => (pkey q.1, q.2))
theorem MapIs.lt {w : World} {b : Nat} {ps : List ((Int × Int) × Value)} (h : MapIs w b ps) : b < w.heap.size := by
  obtain ⟨es, clock, h1, _⟩ := h
  exact (Array.getElem?_eq_some_iff.1 h1).1
theorem MapIs.grown {w w' : World} {b : Nat} {ps : List ((Int × Int) × Value)} {row : Option Nat} (h : MapIs w b ps) (hg : w.grownBy w' row) (hr : some b ≠ row) : MapIs w' b ps := by
  have hlt := h.lt
  obtain ⟨es, clock, h1, h2⟩ := h
  exact ⟨es, clock, (hg.block b hlt hr).trans h1, h2⟩
theorem MapIs.below {w w' : World} {b : Nat} {ps : List ((Int × Int) × Value)} (h : MapIs w b ps) (hb : Below w.heap.size w w') : MapIs w' b ps := h.grown (grown_of hb) (by simp)
theorem find_keys (p : Int × Int) (w : World) {es : Array MapEntry} {ps : List ((Int × Int) × Value)} (h : es.toList.map (fun e => (e.key, e.val)) = ps.map (fun q => (pkey q.1, q.2))) :
    (Instr.findKey 46 (pkey p) es.toList).run Try.prog w = .ok (findP p ps 0) w := by
  have hf := find_pairs p w es.toList ps 0 h
  unfold Instr.findKey
  generalize es.toList = l at *
  cases l with
  | nil =>
    cases ps with
    | nil => unfold Instr.findNow findP; go_simp
    | cons q r => cases h
  | cons e l => unfold Instr.findNow Instr.sameNow; go_simp
/-- What a look-up gives. -/
def gotV (d : Value) : Option (Nat × Value) → Value
  | some x => x.2
  | none => d
theorem look_bool {T : TypeId} (hT : Try.prog.underlying T = some (.map 46 4)) (p : Int × Int) {w : World} {b : Nat} {ps : List ((Int × Int) × Value)} (h : MapIs w b ps) :
    (Instr.lookup T (.map (some b)) (pkey p) false).run Try.prog w = .ok (gotV (.bool false) (findP p ps 0)) w := by
  obtain ⟨es, clock, hb, he⟩ := h
  have hk := find_keys p w he
  have hc := check_pair es.isEmpty p.1 p.2 w
  have hz : (zeroValue 4).run Try.prog w = .ok (.bool false) w := by go_simp
  have hc2 : (Instr.checkKey es.isEmpty 10000 46 (pkey p)).run Try.prog w = .ok () w := hc
  cases e : findP p ps 0 with
  | none => rw [e] at hk; simp [Instr.lookup, run_underlying hT, MapKept.run_getObj_map hb, hc2, hk, hz, Result.andThen, gotV]
  | some x => rw [e] at hk; simp [Instr.lookup, run_underlying hT, MapKept.run_getObj_map hb, hc2, hk, hz, Result.andThen, gotV]
theorem made_map (w : World) : MapIs (w.alloc (.map #[] 0)) w.heap.size [] := ⟨#[], 0, by show (w.heap.push _)[w.heap.size]? = _; exact Array.getElem?_push_size, rfl⟩
theorem update_map {T e : TypeId} (hT : Try.prog.underlying T = some (.map 46 e)) (p : Int × Int) (v : Value) {w : World} {b : Nat} {ps : List ((Int × Int) × Value)} (h : MapIs w b ps) (hno : findP p ps 0 = none) :
    ∃ w', (Instr.mapUpdate T (.map (some b)) (pkey p) v).run Try.prog w = .ok () w' ∧ MapIs w' b (ps ++ [(p, v)]) ∧ w.grownBy w' (some b) := by
  obtain ⟨es, clock, hb, he⟩ := h
  have hk := find_keys p w he
  have hc := check_pair false p.1 p.2 w
  rw [hno] at hk
  have hc2 : (Instr.checkKey false 10000 46 (pkey p)).run Try.prog w = .ok () w := hc
  refine ⟨setBlock w b (.map (es.push ⟨pkey p, v, clock⟩) (clock + 1)), by simp [Instr.mapUpdate, run_underlying hT, MapKept.run_getObj_map hb, hc2, hk, MapKept.run_setObj_map _ hb, Result.andThen, setBlock], ⟨_, _, heap_setBlock_same hb _, by simp [he]⟩, ⟨rfl, rfl, rfl, by simp [setBlock], fun i _ hi => heap_setBlock_other hb _ (fun e => hi (by rw [e]))⟩⟩
end Go.Proofs.Ytbfedfiemkhefaa
