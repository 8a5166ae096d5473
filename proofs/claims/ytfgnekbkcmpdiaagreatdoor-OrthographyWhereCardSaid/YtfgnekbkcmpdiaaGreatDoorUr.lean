/- Contract: Format of the program. -/
import Derived.Test.YtfgnekbkcmpdiaaGreatDoorUo
namespace Go.Proofs.YtfgnekbkcmpdiaaGreatDoor
open Go.RowKit
set_option linter.unusedVariables false
set_option linter.unusedSimpArgs false
set_option maxRecDepth 100000

theorem str_info : (Tryz.prog.info? 9).map (fun i => (i.zero, i.size, i.bytes)) = some (some (.string ⟨#[]⟩), 1, 16) := by kernel_rfl
theorem make_strs (N : Int) (n : Nat) (h : N = (n : Int)) (hn : n ≤ 1000000) (w : World) :
    (Instr.makeSlice 65 (.int .i64 N) (.int .i64 N)).run Tryz.prog w = .ok (.slice (some ⟨w.heap.size, 0, none⟩) n n) (w.alloc (.cells (List.replicate n (Value.string ⟨#[]⟩)).toArray 9)) := by
  obtain ⟨i0, hi, hz0, hz1, hz2⟩ := info_parts str_info
  have := run_make (P := Tryz.prog) w 65 9 i0 (.string ⟨#[]⟩) Tryz.underlying65 hi hz0 .i64 .i64 N N (by omega) (Int.le_refl _) (by rw [hz2]; omega) (by omega)
  rw [this, hz1, h]
  simp only [Int.toNat_natCast]
  rw [made_cells _ _ rfl]
theorem strC_rep (n : Nat) : strC (List.replicate n []) = List.replicate n (Value.string ⟨#[]⟩) := by unfold strC; rw [List.map_replicate]; rfl
theorem Hp.made_strs {W w : World} {l : List Itm} (h : Hp W l w) (n : Nat) (hn : n ≤ 1000000) : Hp W (strs (some ⟨w.heap.size, 0, none⟩) n n (List.replicate n []) :: l) (w.alloc (.cells (List.replicate n (Value.string ⟨#[]⟩)).toArray 9)) := by
  have := h.lit 9 1 n (strC (List.replicate n [])) (by rw [strC_len]; simp) hn
  rw [strC_rep] at this
  unfold strs
  rw [strC_rep]
  exact this
theorem Hp.str_set {W w : World} {l : List Itm} {i g n c : Nat} {P : List (List UInt8)} (h : Hp W l w) (hi : l[i]? = some (strs (some ⟨g, 0, none⟩) n c P)) (k : Nat) (p : List UInt8) :
    Hp W (l.set i (strs (some ⟨g, 0, none⟩) n c (P.set k p))) (w.setCell ⟨g, k, none⟩ (.string (bs p))) := by
  have := h.store hi (g := g) (cap := c) rfl k (.string (bs p))
  simpa [strs, strC, List.map_set] using this
theorem Hp.str_at {W w : World} {l : List Itm} {i g n c : Nat} {P : List (List UInt8)} (h : Hp W l w) (hi : l[i]? = some (strs (some ⟨g, 0, none⟩) n c P)) {k : Nat} {p : List UInt8} (hp : P[k]? = some p) :
    w.cell? ⟨g, k, none⟩ = some (.string (bs p)) ∧ w.frozen? ⟨g, k, none⟩ = false ∧ g < w.heap.size := h.cell hi (cap := c) rfl (by show (strC P)[k]? = _; unfold strC; rw [List.getElem?_map, hp]; rfl)
theorem join_jn : ∀ L : List (List UInt8), Lib.join L [32] = jn 32 L
  | [] => rfl
  | [x] => Lib.join_one x [32]
  | x :: y :: r => by
    rw [jn_two, ← join_jn (y :: r)]
    simp [Lib.join, List.intercalate, List.intersperse]
def FmtPost (l : List UInt8) (er : Int) (w : World) (e : Ending) (w' : World) : Prop := e = .returned (.tuple #[.string (bs l), .int .i64 er]) ∧ Below w.heap.size w w'
theorem fmt_big {L : List Snd} (h : 200 < L.length) : fmtV L = ([], 3) := by unfold fmtV; rw [if_pos h]
theorem fmt_bad {L : List Snd} {k : Nat} {x : Snd} (h : ¬ 200 < L.length) (hx : L[k]? = some x) (h1 : ∀ y ∈ L.take k, vS y = 0) (h2 : vS x ≠ 0) : fmtV L = ([], vS x) := by
  have e := errL_at hx h1 h2
  unfold fmtV; rw [if_neg h, e, if_neg h2]
theorem val_step {L : List Snd} {k : Nat} {x : Snd} (hx : L[k]? = some x) (h1 : ∀ y ∈ L.take k, vS y = 0) (h2 : vS x = 0) : ∀ y ∈ L.take (k + 1), vS y = 0 := fun y hy => by
  rw [take_snoc hx] at hy
  rcases List.mem_append.1 hy with hy | hy
  · exact h1 y hy
  · rw [List.mem_singleton.1 hy]; exact h2
theorem set_repL {α : Type} {acc : List α} {n k : Nat} (y z : α) (ha : acc.length = k) (hk : k < n) : (acc ++ List.replicate (n - k) z).set k y = (acc ++ [y]) ++ List.replicate (n - (k + 1)) z := by
  obtain ⟨d, hd⟩ : ∃ d, n - k = d + 1 := ⟨n - k - 1, by omega⟩
  rw [hd, show n - (k + 1) = d by omega, List.replicate_succ, List.set_append_right _ _ (by omega), ha, Nat.sub_self]
  simp
theorem rep_atL {α : Type} {acc : List α} {n k : Nat} (z : α) (ha : acc.length = k) (hk : k < n) : (acc ++ List.replicate (n - k) z)[k]? = some z := by
  rw [List.getElem?_append_right (by omega), ha, Nat.sub_self, List.getElem?_replicate, if_pos (by omega)]
theorem map_take {L : List Snd} {k n : Nat} (hl : L.length = n) (hk : k ≤ n) : ((L.take k).map tx1).length = k := by rw [List.length_map, List.length_take]; omega
theorem map_step {L : List Snd} {k : Nat} {x : Snd} (hx : L[k]? = some x) : (L.take (k + 1)).map tx1 = (L.take k).map tx1 ++ [tx1 x] := by rw [take_snoc hx, List.map_append]; rfl
end Go.Proofs.YtfgnekbkcmpdiaaGreatDoor
