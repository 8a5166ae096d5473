/- Contract of slices.Equal on spans: it tells whether two lists of spans are one. -/
import Derived.Test.YtpmdfpfbnmoinaaDoorWb
import Derived.Deep.QuietTactic
import Derived.BigQuiet
import Derived.Laws.StructEq
namespace Go.Proofs.YtpmdfpfbnmoinaaDoor
open Go.RowKit
set_option linter.unusedVariables false

/-- A slice value that reads as the spans L. -/
def SpansIn (w : World) (A : Option Addr) (L : List (Nat × Nat)) : Prop :=
  0 < L.length → ∃ g, A = some ⟨g, 0, none⟩ ∧ g < w.heap.size ∧ ∀ i, i < L.length → w.cell? ⟨g, i * 2, none⟩ = some (.int .i64 ((sp L i).1 : Int)) ∧ w.cell? ⟨g, i * 2 + 1, none⟩ = some (.int .i64 ((sp L i).2 : Int))
theorem SpansAt.reads {w : World} {B : Nat} {A : Option Addr} {c : Nat} {L : List (Nat × Nat)} (h : SpansAt w B A c L) : SpansIn w A L := by
  intro h0
  have hh : w.ownsRow B 46 2 (.slice A L.length c) L.length (pairCells L) := h
  obtain ⟨g, c', hv, _, hlt⟩ := hh.form h0
  injection hv with h1 h2 h3
  subst h1; subst h3
  refine ⟨g, rfl, hlt, fun i hi => ?_⟩
  rw [hh.cellAt _ (by omega), hh.cellAt _ (by omega), Nat.mul_comm i 2]
  rw [sp_lt hi]
  exact pairCells_at L i hi
theorem SpansIn.below {w w' : World} {A : Option Addr} {L : List (Nat × Nat)} (h : SpansIn w A L) (hb : Below w.heap.size w w') : SpansIn w' A L := by
  intro h0
  obtain ⟨g, e, hlt, hc⟩ := h h0
  exact ⟨g, e, Nat.lt_of_lt_of_le hlt hb.size, fun i hi => ⟨(hb.cell (p := ⟨g, i * 2, none⟩) hlt).trans (hc i hi).1, (hb.cell (p := ⟨g, i * 2 + 1, none⟩) hlt).trans (hc i hi).2⟩⟩

theorem sp_eq {L M : List (Nat × Nat)} {k : Nat} (h1 : (((sp L k).1 : Int) == ((sp M k).1 : Int)) = true) (h2 : (((sp L k).2 : Int) == ((sp M k).2 : Int)) = true) : sp L k = sp M k := by
  simp at h1 h2; exact Prod.ext (by omega) (by omega)
theorem sp_ne1 {L M : List (Nat × Nat)} {k : Nat} (h1 : (((sp L k).1 : Int) == ((sp M k).1 : Int)) = false) (hl : k < L.length) (hm : k < M.length) : decide (L = M) = false := by
  refine decide_eq_false (fun e => ?_); subst e; simp at h1
theorem sp_ne2 {L M : List (Nat × Nat)} {k : Nat} (h1 : (((sp L k).2 : Int) == ((sp M k).2 : Int)) = false) (hl : k < L.length) (hm : k < M.length) : decide (L = M) = false := by
  refine decide_eq_false (fun e => ?_); subst e; simp at h1
theorem take_end {L M : List (Nat × Nat)} {k : Nat} (hl : L.length ≤ k) (hm : M.length ≤ k) (h : L.take k = M.take k) : decide (L = M) = true := by
  rw [List.take_of_length_le hl, List.take_of_length_le hm] at h; exact decide_eq_true h
set_option maxHeartbeats 1000000 in
theorem seq_any (L M : List (Nat × Nat)) (n m : Nat) (A C : Option Addr) (c d : Nat) (w : World) (hl : L.length = n) (hm : M.length = m) (hn : n ≤ 1000) (hm' : m ≤ 1000) (hA : SpansIn w A L) (hC : SpansIn w C M) :
    Calls Tryd.prog 22 #[.slice A n c, .slice C m d] w fun e w' => e = .returned (.bool (decide (L = M))) ∧ ∃ n, w' = w.drewN n := by
  by_cases hlen : n = m
  · subst hlen
    by_cases h0 : 0 < n
    · obtain ⟨g, rfl, hg, hcA⟩ := hA (by omega)
      obtain ⟨g', rfl, hg', hcC⟩ := hC (by omega)
      have HN := Lib.hid hl
      have HM := Lib.hid hm
      have HA := Lib.hid hcA
      have HC := Lib.hid hcC
      clear hA hC hcA hcC hl hm
      go_enter Tryd.func22, Tryd.ntmps22
      go_wp2
      go_loopw [13] (fun i wr => ∃ k : Nat, k ≤ n ∧ i = .int .i64 k ∧ L.take k = M.take k ∧ ∃ q, wr = w.drewN q) (fun i _ => n - (intOf i).toNat)
      case atStart => exact ⟨0, Nat.zero_le _, rfl, rfl, 0, rfl⟩
      case round =>
        obtain ⟨k, hk, rfl, htk, q, rfl⟩ := hrel
        have HT := Lib.hid htk
        clear htk
        by_cases hlt : k < n
        · obtain ⟨a1, a2⟩ := HA.out k (by rw [HN.out]; exact hlt)
          obtain ⟨c1, c2⟩ := HC.out k (by rw [HM.out]; exact hlt)
          by_cases hq1 : (((sp L k).1 : Int) == ((sp M k).1 : Int)) = true
          · by_cases hq2 : (((sp L k).2 : Int) == ((sp M k).2 : Int)) = true
            · go_wp2
              go_quiet (fail)
              go_wp2
              go_roundw
              case rel => exact ⟨k + 1, by omega, by go_num, take_step (by rw [HN.out]; exact hlt) (by rw [HM.out]; exact hlt) HT.out (sp_eq hq1 hq2), _, rfl⟩
              case measure => simp [intOf]; omega
            · have hq3 : (((sp L k).2 : Int) == ((sp M k).2 : Int)) = false := by simpa using hq2
              have HE := Lib.hid (sp_ne2 (L := L) (M := M) (k := k) hq3 (by rw [HN.out]; exact hlt) (by rw [HM.out]; exact hlt))
              go_wp2
              go_quiet (fail)
              go_wp2
              go_ret
              exact ⟨ret_bool HE.out.symm, _, World.drewN_drewN _ _ _⟩
          · have hq3 : (((sp L k).1 : Int) == ((sp M k).1 : Int)) = false := by simpa using hq1
            have HE := Lib.hid (sp_ne1 (L := L) (M := M) (k := k) hq3 (by rw [HN.out]; exact hlt) (by rw [HM.out]; exact hlt))
            go_wp2
            go_quiet (fail)
            go_wp2
            go_ret
            exact ⟨ret_bool HE.out.symm, _, World.drewN_drewN _ _ _⟩
        · have HE := Lib.hid (take_end (L := L) (M := M) (k := k) (by rw [HN.out]; omega) (by rw [HM.out]; omega) HT.out)
          go_wp2
          go_ret
          exact ⟨ret_bool HE.out.symm, _, rfl⟩
    · have HE := Lib.hid (take_end (L := L) (M := M) (k := 0) (by omega) (by omega) rfl)
      have hn0 : n = 0 := by omega
      subst hn0
      clear hl hm
      go_enter Tryd.func22, Tryd.ntmps22
      go_wp2
      refine wp_loop_rounds 1 ?_
      rw [rounds_succ]
      go_wp2
      go_ret
      exact ⟨ret_bool HE.out.symm, 0, rfl⟩
  · have HE := Lib.hid (show decide (L = M) = false from decide_eq_false (fun e => hlen (by rw [← hl, ← hm, e])))
    have hne : ((n : Int) == (m : Int)) = false := by simp; omega
    have hne' : ((n : Int) != (m : Int)) = true := by simp; omega
    clear hl hm hlen
    go_enter Tryd.func22, Tryd.ntmps22
    go_wp2
    go_ret
    exact ⟨ret_bool HE.out.symm, 0, rfl⟩
end Go.Proofs.YtpmdfpfbnmoinaaDoor
