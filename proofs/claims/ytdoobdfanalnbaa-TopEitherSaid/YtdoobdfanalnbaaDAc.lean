/- Plain mathematics: how many ways lead on, reckoned arc by arc. Nothing here speaks of the program. -/
import Derived.Test.YtdoobdfanalnbaaDAb
namespace Go.Proofs.Ytdoobdfanalnbaa
set_option linter.unusedVariables false
set_option linter.unusedSimpArgs false

def inA (q : Nat) (L : List Int) (a : Ar) : List Int := if a.f = (q : Int) then L.set q (min (L.getD q 0 + L.getD a.t.toNat 0) capM) else L
theorem inA_fold (g : Gr) (q : Nat) (L : List Int) : g.rs.foldl (inA q) L = stepW g L q := fold_out (fun (L : List Int) (a : Ar) => L.set q (min (L.getD q 0 + L.getD a.t.toNat 0) capM)) (q : Int) g.rs L
theorem inA_step {rs : List Ar} {k q : Nat} {a : Ar} {L : List Int} (ha : rs[k]? = some a) : (rs.take (k + 1)).foldl (inA q) L = inA q ((rs.take k).foldl (inA q) L) a := by
  rw [List.take_add_one, ha, List.foldl_append]; rfl
theorem WOk.inA {N q : Nat} {L : List Int} (h : WOk N L) (a : Ar) : WOk N (inA q L a) := by
  unfold Go.Proofs.Ytdoobdfanalnbaa.inA
  split
  · refine ⟨by rw [List.length_set]; exact h.1, fun j => ?_⟩
    rw [getD_set']
    split
    · have h1 := h.2 q
      have h2 := h.2 a.t.toNat
      exact ⟨Int.le_min.2 ⟨by omega, capM_pos⟩, Int.min_le_right _ _⟩
    · exact h.2 j
  · exact h
theorem WOk.foldA {N q : Nat} : ∀ (rs : List Ar) {L : List Int}, WOk N L → WOk N (rs.foldl (Go.Proofs.Ytdoobdfanalnbaa.inA q) L)
  | [], L, h => h
  | a :: rs, L, h => WOk.foldA rs (h.inA a)
theorem waysK_one {g : Gr} (h : g.Ok) : g.waysK 1 = initW g.n.toNat := by
  have := h.n1
  rw [← waysK_zero h]
  unfold Gr.waysK
  apply List.map_congr_left
  intro q hq
  have := List.mem_range.1 hq
  by_cases e : q + 1 = g.n.toNat
  · rw [if_pos (.inr e), if_pos (.inr e)]
  · rw [if_neg (by omega), if_neg (by omega)]
theorem waysK_ok {g : Gr} (h : g.Ok) (k : Nat) : WOk g.n.toNat (g.waysK k) := by
  refine ⟨waysK_len g k, fun j => ?_⟩
  by_cases hj : j < g.n.toNat
  · rw [waysK_getD hj]
    split
    · have := wy_nonneg h (q := (j : Int)) (by omega) (by omega)
      exact this
    · exact ⟨Int.le_refl _, capM_pos⟩
  · rw [List.getD_eq_getElem?_getD, List.getElem?_eq_none (by rw [waysK_len]; omega)]
    exact ⟨Int.le_refl _, capM_pos⟩
end Go.Proofs.Ytdoobdfanalnbaa
