/- Plain mathematics of automata: lists of pairs that prove that two languages are equal; the chapter's example. Nothing here speaks of the program. -/
import Derived.Test.YtdkdfmflghbhiaaAMp
namespace Go.Proofs.Ytdkdfmflghbhiaa
set_option linter.unusedVariables false
/-- A pair is in the list, or nothing. -/
def inL (l : List (Int × Int)) (p : Int × Int) : Bool := l.contains p || (decide (p.1 < 0) && decide (p.2 < 0))
/-- The pairs of the list do not tell the automata apart, and letters lead to pairs of the list. -/
def pairC (A B : Au) (l : List (Int × Int)) (p : Int × Int) : Bool := (A.acc p.1 == B.acc p.2) && (List.range A.lt.toNat).all fun c => inL l (A.go p.1 c, B.go p.2 c)
def relC (A B : Au) (l : List (Int × Int)) : Bool := inL l (A.st, B.st) && l.all (pairC A B l)
theorem inL_go {A B : Au} {k : Nat} (hlt : A.lt = k) {l : List (Int × Int)} (hc : l.all (pairC A B l) = true) {p : Int × Int} (h : inL l p = true) {c : Nat} (hk : c < k) : inL l (A.go p.1 c, B.go p.2 c) = true := by
  unfold inL at h
  rcases (Bool.or_eq_true _ _).mp h with h | h
  · have := List.all_eq_true.1 hc p (by simpa using h)
    unfold pairC at this
    rw [Bool.and_eq_true] at this
    exact List.all_eq_true.1 this.2 c (List.mem_range.2 (by omega))
  · have h2 : p.1 < 0 ∧ p.2 < 0 := by simpa using h
    rw [Au.go_neg _ h2.1, Au.go_neg _ h2.2]
    unfold inL; simp
theorem inL_acc {A B : Au} {l : List (Int × Int)} (hc : l.all (pairC A B l) = true) {p : Int × Int} (h : inL l p = true) : A.acc p.1 = B.acc p.2 := by
  unfold inL at h
  rcases (Bool.or_eq_true _ _).mp h with h | h
  · have := List.all_eq_true.1 hc p (by simpa using h)
    unfold pairC at this
    rw [Bool.and_eq_true] at this
    exact by simpa using this.1
  · have h2 : p.1 < 0 ∧ p.2 < 0 := by simpa using h
    rw [Au.acc_neg _ h2.1, Au.acc_neg _ h2.2]
theorem rel_run {A B : Au} {k : Nat} (hlt : A.lt = k) {l : List (Int × Int)} (hc : l.all (pairC A B l) = true) : ∀ (u : List Nat) (p : Int × Int), Let k u → inL l p = true → A.acc (A.run p.1 u) = B.acc (B.run p.2 u)
  | [], p, _, h => inL_acc hc h
  | c :: u, p, hu, h => by
    rw [Au.run_cons, Au.run_cons]
    exact rel_run hlt hc u (A.go p.1 c, B.go p.2 c) hu.cons.2 (inL_go hlt hc h hu.cons.1)
theorem rel_sound {A B : Au} {k : Nat} (hlt : A.lt = k) {l : List (Int × Int)} (h : relC A B l = true) (u : List Nat) (hu : Let k u) : A.lang u = B.lang u := by
  unfold relC at h
  rw [Bool.and_eq_true] at h
  exact rel_run hlt h.2 u (A.st, B.st) hu h.1
/-! ### The example -/
def exA : Au := ⟨2, [[1, -1], [-1, 0]], [false, true], 0⟩
def exB : Au := ⟨2, [[1, -1], [2, 0], [-1, -1]], [false, true, false], 0⟩
def exC : Au := ⟨2, [[1, -1], [2, 0], [-1, -1]], [false, true, true], 0⟩
def exZ : Au := ⟨2, [], [], -1⟩
theorem exA_v : exA.vE = 0 := by decide
theorem exB_v : exB.vE = 0 := by decide
theorem exC_v : exC.vE = 0 := by decide
theorem ex_canon : Canon 2 (fun u => combF 1 (exB.lang u) (exB.lang u)) exA := by
  have hv : exA.Right 2 := (Au.vE_ok exA_v).right
  refine ⟨hv, fun _ => rfl, fun u hu => ?_, fun q hq => ?_, fun q r hq hr h => ?_, fun _ => ?_⟩
  · rw [rel_sound (A := exA) (B := exB) (k := 2) rfl (l := [(0, 0), (1, 1), (-1, 2)]) (by decide) u hu]
    show _ = (exB.lang u && exB.lang u)
    rw [Bool.and_self]
  · have : q < 2 := hq
    match q, this with
    | 0, _ => exact ⟨[0], by intro c hc; simp at hc; omega, by decide⟩
    | 1, _ => exact ⟨[], let_nil 2, by decide⟩
  · have h1 : q < 2 := hq
    have h2 : r < 2 := hr
    have h3 := h [] (let_nil 2)
    match q, r, h1, h2, h3 with
    | 0, 0, _, _, _ => rfl
    | 1, 1, _, _, _ => rfl
    | 0, 1, _, _, h3 => exact absurd h3 (by decide)
    | 1, 0, _, _, h3 => exact absurd h3 (by decide)
  · have b0 : Bfs exA.go (fun q => q = -1) 2 (0 : Int) [0] [0] 0 := Bfs.start 0 (by decide)
    have b1 := b0.new (y := 0) rfl (by decide) (fun j => by
      match j with
      | 0 => decide
      | j + 1 => simp)
    have b2 := b1.seen (y := 0) rfl (.inl (by decide))
    have b3 := b2.seen (y := 1) rfl (.inl (by decide))
    have b4 := b3.seen (y := 1) rfl (.inr ⟨0, by decide⟩)
    exact ⟨_, b4⟩
theorem ex_empty : Canon 2 (fun u => combF 3 (exA.lang u) (exB.lang u)) exZ := by
  have hl : ∀ u, Let 2 u → exA.lang u = exB.lang u := rel_sound (A := exA) (B := exB) (k := 2) rfl (l := [(0, 0), (1, 1), (-1, 2)]) (by decide)
  refine ⟨⟨rfl, by omega, fun i row h => by simp [exZ] at h, rfl, fun _ => rfl, fun h => absurd h (by decide)⟩, fun h => absurd h (by decide), fun u hu => ?_, fun q hq => absurd hq (by simp [exZ, Au.n]), fun q r hq => absurd hq (by simp [exZ, Au.n]), fun h => absurd h (by decide)⟩
  show exZ.lang u = (exA.lang u && !exB.lang u)
  rw [hl u hu]
  have : exZ.lang u = false := by
    unfold Au.lang
    rw [show exZ.st = -1 from rfl, Au.run_neg]; rfl
  rw [this]; cases exB.lang u <;> rfl
theorem len_one {u : List Nat} (h : u.length = 1) : ∃ c, u = [c] := by
  match u, h with
  | [c], _ => exact ⟨c, rfl⟩
theorem ex_first : Fw 2 (fun u => exA.lang u) (some [0]) := by
  refine .yes _ ⟨by intro c hc; simp at hc; omega, by decide, fun v hv hp => ?_⟩
  match v, hp with
  | [], hp => exact absurd hp (by decide)
  | c :: v, _ =>
    have h1 : ∀ (v : List Nat) (a : Nat), 1 ≤ a → 1 ≤ v.foldl (fun a c => a * 2 + c + 1) a := by
      intro v
      induction v with
      | nil => intro a h; exact h
      | cons d v ih => intro a h; exact ih _ (show 1 ≤ a * 2 + d + 1 by omega)
    show 1 ≤ v.foldl (fun a c => a * 2 + c + 1) (0 * 2 + c + 1)
    exact h1 v _ (by omega)
theorem ex_diff : Fw 2 (fun u => exA.lang u != exC.lang u) (some [0, 0]) := by
  refine .yes _ ⟨by intro c hc; simp at hc; omega, by decide, fun v hv hp => ?_⟩
  have h1 : ∀ (v : List Nat) (a : Nat), 3 ≤ a → 3 ≤ v.foldl (fun a c => a * 2 + c + 1) a := by
    intro v
    induction v with
    | nil => intro a h; exact h
    | cons d v ih => intro a h; exact ih _ (show 3 ≤ a * 2 + d + 1 by omega)
  match v, hv, hp with
  | [], _, hp => exact absurd hp (by decide)
  | [0], _, hp => exact absurd hp (by decide)
  | [1], _, hp => exact absurd hp (by decide)
  | [c + 2], hv, _ => exact absurd (hv (c + 2) (by simp)) (by omega)
  | c :: d :: v, _, _ =>
    show 3 ≤ v.foldl (fun a c => a * 2 + c + 1) ((0 * 2 + c + 1) * 2 + d + 1)
    exact h1 v _ (by omega)
theorem ex_count3 : exA.cntR 3 = (1, 0) := by decide
theorem ex_count2 : exA.cntR 2 = (0, 0) := by decide
end Go.Proofs.Ytdkdfmflghbhiaa
