/- The walk of DagPaths. -/
import Derived.Test.YtdoobdfanalnbaaDDd
import Derived.Test.YtdoobdfanalnbaaDCb
import Derived.Test.YtdoobdfanalnbaaDCd
namespace Go.Proofs.Ytdoobdfanalnbaa
open Go.RowKit
set_option linter.unusedVariables false
set_option linter.unusedSimpArgs false
set_option maxRecDepth 100000

theorem pth_short {g : Gr} {p : List Int} (h : p ∈ g.pth.1) : g.vE = 0 ∧ p ∈ g.pv 0 := by
  unfold Gr.pth at h
  split at h
  · cases h
  · split at h
    · cases h
    · exact ⟨Classical.not_not.1 (by assumption), h⟩
theorem pth_len (g : Gr) : g.pth.1.length ≤ 2000 := by
  unfold Gr.pth
  split
  · exact Nat.zero_le _
  · rename_i hv
    have hv := Classical.not_not.1 hv
    split
    · exact Nat.zero_le _
    · rename_i hm
      have hO := Gr.ok hv
      have h1 := hO.n1
      have h2 := wy_len hO (q := 0) (Int.le_refl 0) (by omega)
      have h3 : g.wy 0 = min (((g.pv 0).length : Nat) : Int) 4611686018427387905 := h2
      show (g.pv 0).length ≤ 2000
      omega
theorem pth_rows {g : Gr} : ∀ row ∈ g.pth.1, row.length ≤ 17592186044416 := fun row hr => by
  obtain ⟨h1, h2⟩ := pth_short hr
  have hO := Gr.ok h1
  have := pv_short hO (q := 0) (Int.le_refl 0) (by have := hO.n1; omega) h2
  omega
theorem pth_chk {g : Gr} {p : List Int} (h : p ∈ g.pth.1) : g.chk p = true := by
  obtain ⟨h1, h2⟩ := pth_short h
  have hO := Gr.ok h1
  have h3 := (pv_iff hO p 0 (Int.le_refl 0) (by have := hO.n1; omega)).1 h2
  rw [chk_at h1]
  exact decide_eq_true h3
theorem pth_cnt {g : Gr} (h : g.pth.2 = 0) : g.cnt = (((g.pth.1.length : Nat) : Int), 0) := by
  unfold Gr.pth at h ⊢
  split
  · rename_i hv; rw [if_pos hv] at h; exact absurd h hv
  · rename_i hv
    rw [if_neg hv] at h
    have hv := Classical.not_not.1 hv
    split
    · rename_i hm; rw [if_pos hm] at h; cases h
    · rename_i hm
      have hO := Gr.ok hv
      have h1 := hO.n1
      have h2 := wy_len hO (q := 0) (Int.le_refl 0) (by omega)
      have h3 : g.wy 0 = min (((g.pv 0).length : Nat) : Int) 4611686018427387905 := h2
      rw [cnt_ok hv (by omega)]
      show (g.wy 0, (0 : Int)) = ((((g.pv 0).length : Nat) : Int), 0)
      rw [h3]
      congr 1
      omega

end Go.Proofs.Ytdoobdfanalnbaa
