/- Plain mathematics: which nodes are reached from the start; members of a list of marks. Nothing here speaks of the program. -/
import Derived.Test.YtdoobdfanalnbaaDAa
namespace Go.Proofs.Ytdoobdfanalnbaa
set_option linter.unusedVariables false
set_option linter.unusedSimpArgs false

def rcI (g : Gr) (L : List Bool) (i : Int) : List Bool := L.set (arc g.rs i).t.toNat true
def rcStep (g : Gr) (L : List Bool) (q : Nat) : List Bool := if L.getD q false = true then (outI g.rs (q : Int)).foldl (rcI g) L else L
def initR (N : Nat) : List Bool := (List.replicate N false).set 0 true
def Gr.rcK (g : Gr) (k : Nat) : List Bool := (List.range k).foldl (rcStep g) (initR g.n.toNat)
/-- Which nodes are reached. -/
def Gr.rc (g : Gr) : List Bool := g.rcK g.n.toNat
theorem rcK_succ (g : Gr) (k : Nat) : g.rcK (k + 1) = rcStep g (g.rcK k) k := by unfold Gr.rcK; rw [List.range_succ, List.foldl_append]; rfl
theorem rcI_len {g : Gr} : ∀ (is : List Int) (L : List Bool), (is.foldl (rcI g) L).length = L.length
  | [], L => rfl
  | i :: is, L => by rw [List.foldl_cons, rcI_len is]; unfold rcI; rw [List.length_set]
theorem rcStep_len (g : Gr) (L : List Bool) (q : Nat) : (rcStep g L q).length = L.length := by
  unfold rcStep; split
  · exact rcI_len _ _
  · rfl
theorem rcK_len (g : Gr) : ∀ k, (g.rcK k).length = g.n.toNat
  | 0 => by simp [Gr.rcK, initR]
  | k + 1 => by rw [rcK_succ, rcStep_len, rcK_len g k]
theorem rc_len (g : Gr) : g.rc.length = g.n.toNat := rcK_len g _
theorem rcI_take {g : Gr} {k : Nat} {i : Int} {l : List Int} {L : List Bool} (hi : l[k]? = some i) : (l.take (k + 1)).foldl (rcI g) L = ((l.take k).foldl (rcI g) L).set (arc g.rs i).t.toNat true := by
  rw [List.take_add_one, hi, List.foldl_append]; rfl
/-! ### The reference goes arc by arc -/
def rcA (q : Nat) (L : List Bool) (a : Ar) : List Bool := if a.f = (q : Int) ∧ L.getD q false = true then L.set a.t.toNat true else L
theorem getB_set {L : List Bool} {q j : Nat} {x : Bool} : (L.set q x).getD j false = if j = q ∧ q < L.length then x else L.getD j false := by
  rw [List.getD_eq_getElem?_getD, List.getD_eq_getElem?_getD, List.getElem?_set]
  by_cases e : q = j
  · subst e
    by_cases h : q < L.length
    · simp [h]
    · simp [h]
  · rw [if_neg e, if_neg (by omega)]
theorem rcA_step {rs : List Ar} {k q : Nat} {a : Ar} {L : List Bool} (ha : rs[k]? = some a) : (rs.take (k + 1)).foldl (rcA q) L = rcA q ((rs.take k).foldl (rcA q) L) a := by
  rw [List.take_add_one, ha, List.foldl_append]; rfl
theorem rcA_len (q : Nat) : ∀ (rs : List Ar) (L : List Bool), (rs.foldl (rcA q) L).length = L.length
  | [], L => rfl
  | a :: rs, L => by rw [List.foldl_cons, rcA_len q rs]; unfold rcA; split <;> simp
theorem rcA_true {q : Nat} : ∀ {rs : List Ar} {L : List Bool}, (∀ a ∈ rs, a.f < a.t) → L.getD q false = true → rs.foldl (rcA q) L = rs.foldl (fun L a => if a.f = (q : Int) then L.set a.t.toNat true else L) L
  | [], L, _, _ => rfl
  | a :: rs, L, h, hL => by
    rw [List.foldl_cons, List.foldl_cons]
    have ha := h a (by simp)
    have e : rcA q L a = if a.f = (q : Int) then L.set a.t.toNat true else L := by
      unfold rcA
      by_cases hf : a.f = (q : Int)
      · rw [if_pos ⟨hf, hL⟩, if_pos hf]
      · rw [if_neg (fun h => hf h.1), if_neg hf]
    rw [e]
    refine rcA_true (fun b hb => h b (List.mem_cons_of_mem _ hb)) ?_
    split
    · rw [getB_set, if_neg (by omega)]; exact hL
    · exact hL
theorem rcA_false {q : Nat} : ∀ {rs : List Ar} {L : List Bool}, L.getD q false = false → rs.foldl (rcA q) L = L
  | [], L, _ => rfl
  | a :: rs, L, hL => by
    rw [List.foldl_cons]
    have e : rcA q L a = L := by
      unfold rcA
      rw [if_neg (fun h => by rw [hL] at h; cases h.2)]
    rw [e]; exact rcA_false hL
theorem rcA_fold {g : Gr} (h : g.Ok) (q : Nat) (L : List Bool) : g.rs.foldl (rcA q) L = rcStep g L q := by
  unfold rcStep
  cases e : L.getD q false with
  | true =>
    rw [if_pos rfl, rcA_true (fun a ha => (h.arc a ha).2.1) e]
    exact fold_out (fun (L : List Bool) (a : Ar) => L.set a.t.toNat true) (q : Int) g.rs L
  | false => rw [if_neg (by simp), rcA_false e]
/-! ### Members -/
def memL (L : List Bool) : List Int := ((List.range L.length).filter fun i : Nat => L.getD i false).map fun i : Nat => (i : Int)
theorem memL_step {L : List Bool} {k : Nat} {x : Bool} (hx : L[k]? = some x) : memL (L.take (k + 1)) = memL (L.take k) ++ (if x = true then [(k : Int)] else []) := by
  have hk := (List.getElem?_eq_some_iff.1 hx).1
  have key : ∀ j, j ≤ L.length → memL (L.take j) = ((List.range j).filter fun i : Nat => L.getD i false).map fun i : Nat => (i : Int) := fun j hj => by
    unfold memL
    rw [List.length_take, Nat.min_eq_left hj]
    congr 1
    apply List.filter_congr
    intro i hi
    have hi := List.mem_range.1 hi
    rw [List.getD_eq_getElem?_getD, List.getD_eq_getElem?_getD, List.getElem?_take_of_lt hi]
  rw [key _ (by omega), key _ (by omega), List.range_succ, List.filter_append, List.map_append]
  congr 1
  have e : L.getD k false = x := by rw [List.getD_eq_getElem?_getD, hx]; rfl
  cases x with
  | false => rw [List.filter_cons, e]; rfl
  | true => rw [List.filter_cons, e]; rfl
theorem memL_mem {L : List Bool} {i : Int} : i ∈ memL L ↔ 0 ≤ i ∧ L.getD i.toNat false = true := by
  unfold memL
  rw [List.mem_map]
  constructor
  · rintro ⟨j, hj, rfl⟩
    rw [List.mem_filter] at hj
    exact ⟨by omega, by simpa using hj.2⟩
  · rintro ⟨h0, h1⟩
    refine ⟨i.toNat, List.mem_filter.2 ⟨List.mem_range.2 ?_, h1⟩, by omega⟩
    rcases Nat.lt_or_ge i.toNat L.length with h | h
    · exact h
    · rw [List.getD_eq_getElem?_getD, List.getElem?_eq_none h] at h1; cases h1
theorem memL_len (L : List Bool) : (memL L).length ≤ L.length := by
  unfold memL; rw [List.length_map]; exact Nat.le_trans (List.length_filter_le _ _) (by simp)
theorem memL_asc (L : List Bool) : (memL L).Pairwise (· < ·) := by
  unfold memL
  rw [List.pairwise_map]
  refine List.Pairwise.imp ?_ (List.Pairwise.filter _ List.pairwise_lt_range)
  intro a b h; omega
/-- What Cut answers. -/
def Gr.cutV (g : Gr) : List Int × Int := if ¬ g.vE = 0 then ([], g.vE) else if g.rc.getD (g.n - 1).toNat false = true then ([], 11) else (memL g.rc, 0)
end Go.Proofs.Ytdoobdfanalnbaa
