/- Plain mathematics: graphs turned round. Nothing here speaks of the program. -/
import Derived.Test.YtdoobdfanalnbaaDAa
namespace Go.Proofs.Ytdoobdfanalnbaa
set_option linter.unusedVariables false
set_option linter.unusedSimpArgs false

def revA (n : Int) (a : Ar) : Ar := ⟨n - 1 - a.t, n - 1 - a.f, a.c⟩
/-- What Reverse answers. -/
def Gr.rv (g : Gr) : Gr × Int := if ¬ g.vE = 0 then (⟨0, []⟩, g.vE) else (⟨g.n, g.rs.map (revA g.n)⟩, 0)
theorem rv_bad {g : Gr} (h : ¬ g.vE = 0) : g.rv = (⟨0, []⟩, g.vE) := if_pos h
theorem rv_ok {g : Gr} (h : g.vE = 0) : g.rv = (⟨g.n, g.rs.map (revA g.n)⟩, 0) := if_neg (by omega)
theorem revA_two (n : Int) (a : Ar) : revA n (revA n a) = a := by
  obtain ⟨f, t, c⟩ := a
  unfold revA
  simp only [Ar.mk.injEq, and_true]
  omega
theorem rv_good {g : Gr} (h : g.vE = 0) : g.rv.1.vE = 0 := by
  have hO := Gr.ok h
  rw [rv_ok h]
  refine Gr.Ok.vE ⟨hO.n1, hO.n2, by simpa using hO.len, fun a ha => ?_⟩
  obtain ⟨b, hb, rfl⟩ := List.mem_map.1 ha
  have := hO.arc b hb
  unfold revA
  dsimp only
  omega
theorem rv_rv {g : Gr} (h : g.vE = 0) : g.rv.1.rv = (g, 0) := by
  rw [rv_ok (rv_good h), rv_ok h]
  obtain ⟨n, rs⟩ := g
  simp only [List.map_map, Prod.mk.injEq, and_true, Gr.mk.injEq, true_and]
  rw [show (revA n ∘ revA n) = id from funext fun a => revA_two n a, List.map_id]
theorem rv_zero {g : Gr} (h : g.rv.2 = 0) : g.vE = 0 := by
  unfold Gr.rv at h
  split at h
  · rename_i h1; exact absurd h h1
  · rename_i h1; exact Classical.not_not.1 h1
theorem rv_err (g : Gr) : g.rv.2 = g.vE := by
  unfold Gr.rv
  split
  · rfl
  · rename_i h1; exact (Classical.not_not.1 h1).symm
theorem rvg_len (g : Gr) : g.rv.1.rs.length ≤ g.rs.length := by
  unfold Gr.rv
  split
  · exact Nat.zero_le _
  · simp
theorem rvK_step {g : Gr} {k : Nat} {a : Ar} (ha : g.rs[k]? = some a) : (g.rs.take (k + 1)).map (revA g.n) = (g.rs.take k).map (revA g.n) ++ [revA g.n a] := by
  rw [List.take_add_one, ha, List.map_append]; rfl
end Go.Proofs.Ytdoobdfanalnbaa
