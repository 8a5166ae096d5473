/- Plain mathematics: a trimmed graph is trimmed. Nothing here speaks of the program. -/
import Derived.Test.YtdoobdfanalnbaaDAh
namespace Go.Proofs.Ytdoobdfanalnbaa
set_option linter.unusedVariables false
set_option linter.unusedSimpArgs false

/-- The trimmed graph. -/
def Gr.tg (g : Gr) : Gr := ⟨(g.tn.length : Int), (g.rs.filter g.tk).map g.ta⟩
theorem tr_bad {g : Gr} (h : ¬ g.vE = 0) : g.tr = (⟨0, []⟩, [], g.vE) := if_pos h
theorem tr_none {g : Gr} (h : g.vE = 0) (hw : g.wy 0 = 0) : g.tr = (⟨0, []⟩, [], 10) := by unfold Gr.tr; rw [if_neg (by omega), if_pos hw]
theorem tr_ok {g : Gr} (h : g.vE = 0) (hw : ¬ g.wy 0 = 0) : g.tr = (g.tg, g.tn, 0) := by unfold Gr.tr; rw [if_neg (by omega), if_neg hw]; rfl
theorem rk_zero (g : Gr) : g.rk 0 = 0 := rfl
theorem kept_iff {g : Gr} (h : g.Ok) {j : Nat} (hj : j < g.n.toNat) : g.kp.getD j false = true ↔ Rea g j ∧ On g j := by
  have := kp_iff h (j := (j : Int)) (by omega) (by omega)
  rwa [Int.toNat_natCast] at this
theorem ta_mem {g : Gr} (h : g.Ok) {a : Ar} (ha : a ∈ g.rs) (h1 : Rea g a.f) (h2 : On g a.t) : g.ta a ∈ g.tg.rs := by
  have h3 := h.arc a ha
  refine List.mem_map.2 ⟨a, List.mem_filter.2 ⟨ha, ?_⟩, rfl⟩
  show (g.kp.getD a.f.toNat false && g.kp.getD a.t.toNat false) = true
  rw [Bool.and_eq_true]
  exact ⟨(kp_iff h h3.1 (by omega)).2 ⟨h1, h2.arc ha⟩, (kp_iff h (by omega) h3.2.2.1).2 ⟨h1.arc ha, h2⟩⟩
theorem rea_tg {g : Gr} (h : g.Ok) : ∀ (j : Nat), j < g.n.toNat → Rea g j → On g j → Rea g.tg (g.rk j) := by
  intro j
  induction j using Nat.strongRecOn with
  | ind j ih =>
    intro hj h1 h2
    by_cases e : j = 0
    · subst e; rw [rk_zero]; exact ⟨[], rfl⟩
    · obtain ⟨a, ha, hat, hr⟩ := h1.last (by omega)
      have h3 := h.arc a ha
      have h4 := ih a.f.toNat (by omega) (by omega) (by rwa [show ((a.f.toNat : Nat) : Int) = a.f by omega]) (by rw [show ((a.f.toNat : Nat) : Int) = a.f by omega]; exact On.arc ha (by rw [hat]; exact h2))
      have h5 := Rea.arc (ta_mem h ha hr (by rw [hat]; exact h2)) h4
      have h6 : (g.ta a).t = (g.rk j : Int) := by
        show (g.rk a.t.toNat : Int) = _
        rw [hat, Int.toNat_natCast]
      rwa [h6] at h5
theorem rk_end {g : Gr} (h : g.Ok) (hk : g.kp.getD (g.n.toNat - 1) false = true) : g.rk (g.n.toNat - 1) + 1 = g.tn.length := by
  have h1 := h.n1
  have h2 := kp_get (g := g) (j := g.n.toNat - 1) (by omega)
  have h3 := rk_step h2
  rw [List.getD_eq_getElem?_getD, h2] at hk
  have hk : (g.rc.getD (g.n.toNat - 1) false && decide (0 < g.wy ((g.n.toNat - 1 : Nat) : Int))) = true := hk
  rw [hk, if_pos rfl, show g.n.toNat - 1 + 1 = g.n.toNat by omega, rk_all] at h3
  omega
theorem on_tg {g : Gr} (h : g.Ok) : ∀ (d j : Nat), j + d + 1 = g.n.toNat → Rea g j → On g j → On g.tg (g.rk j) := by
  intro d
  induction d using Nat.strongRecOn with
  | ind d ih =>
    intro j hj h1 h2
    have hn := h.n1
    by_cases e : (j : Int) = g.n - 1
    · have hk : g.kp.getD (g.n.toNat - 1) false = true := (kept_iff h (by omega)).2 (by rw [show ((g.n.toNat - 1 : Nat) : Int) = (j : Int) by omega]; exact ⟨h1, h2⟩)
      have h3 := rk_end h hk
      rw [show g.n.toNat - 1 = j by omega] at h3
      refine ⟨[], ?_⟩
      show some (g.rk j : Int) = some ((g.tn.length : Int) - 1)
      congr 1
      omega
    · obtain ⟨a, ha, haf, ho⟩ := h2.next e
      have h3 := h.arc a ha
      have hr : Rea g a.t := Rea.arc ha (by rw [haf]; exact h1)
      have h4 := ih (g.n.toNat - 1 - a.t.toNat) (by omega) a.t.toNat (by omega) (by rwa [show ((a.t.toNat : Nat) : Int) = a.t by omega]) (by rwa [show ((a.t.toNat : Nat) : Int) = a.t by omega])
      have h5 := On.arc (ta_mem h ha (by rw [haf]; exact h1) ho) h4
      have h6 : (g.ta a).f = (g.rk j : Int) := by
        show (g.rk a.f.toNat : Int) = _
        rw [haf, Int.toNat_natCast]
      rwa [h6] at h5
theorem rk_onto {g : Gr} {m : Nat} : ∀ j, j ≤ g.n.toNat → m < g.rk j → ∃ i, i < j ∧ g.kp.getD i false = true ∧ g.rk i = m
  | 0, _, h => by rw [rk_zero] at h; omega
  | j + 1, hj, h => by
    have h1 := kp_get (g := g) (j := j) (by omega)
    have h2 := rk_step h1
    by_cases e : m < g.rk j
    · obtain ⟨i, i1, i2, i3⟩ := rk_onto j (by omega) e
      exact ⟨i, by omega, i2, i3⟩
    · refine ⟨j, by omega, ?_, ?_⟩
      · rw [List.getD_eq_getElem?_getD, h1]
        show (g.rc.getD j false && decide (0 < g.wy (j : Int))) = true
        cases hx : (g.rc.getD j false && decide (0 < g.wy (j : Int))) with
        | true => rfl
        | false => rw [hx, if_neg (by simp)] at h2; omega
      · split at h2 <;> omega
theorem tg_ok {g : Gr} (hv : g.vE = 0) (hw : ¬ g.wy 0 = 0) : g.tg.Ok := Gr.ok (tr_valid hv hw)
theorem tg_kept {g : Gr} (hv : g.vE = 0) (hw : ¬ g.wy 0 = 0) {m : Nat} (hm : m < g.tn.length) : g.tg.kp.getD m false = true := by
  have h := Gr.ok hv
  rw [← rk_all] at hm
  obtain ⟨i, i1, i2, rfl⟩ := rk_onto g.n.toNat (Nat.le_refl _) hm
  obtain ⟨h1, h2⟩ := (kept_iff h i1).1 i2
  refine (kept_iff (tg_ok hv hw) ?_).2 ⟨rea_tg h i i1 h1 h2, on_tg h (g.n.toNat - 1 - i) i (by omega) h1 h2⟩
  rw [rk_all] at hm
  show g.rk i < ((g.tn.length : Nat) : Int).toNat
  omega
theorem tg_rk {g : Gr} (hv : g.vE = 0) (hw : ¬ g.wy 0 = 0) : ∀ j, j ≤ g.tn.length → g.tg.rk j = j
  | 0, _ => rfl
  | j + 1, hj => by
    have ih := tg_rk hv hw j (by omega)
    have h0 : j < g.tg.n.toNat := by show j < ((g.tn.length : Nat) : Int).toNat; omega
    have h1 := kp_get h0
    have h2 := rk_step h1
    have h3 := tg_kept hv hw (m := j) (by omega)
    rw [List.getD_eq_getElem?_getD, h1] at h3
    have h3 : (g.tg.rc.getD j false && decide (0 < g.tg.wy (j : Int))) = true := h3
    rw [h3, if_pos rfl] at h2
    omega
/-- A trimmed graph is trimmed, and all its nodes are kept. -/
theorem tr_tr {g : Gr} (hv : g.vE = 0) (hw : ¬ g.wy 0 = 0) : ∃ ns, g.tg.tr = (g.tg, ns, 0) ∧ ns.length = g.tn.length := by
  have h := tg_ok hv hw
  have h1 := h.n1
  have hn : g.tg.n = (g.tn.length : Int) := rfl
  have k0 := tg_kept hv hw (m := 0) (by omega)
  obtain ⟨_, o0⟩ := (kept_iff h (by omega)).1 k0
  have w0 := (on_iff h (q := ((0 : Nat) : Int)) (by omega) (by omega)).2 o0
  have w0 : 0 < g.tg.wy 0 := w0
  have hl : g.tg.tn.length = g.tn.length := by
    rw [← rk_all]
    rw [show g.tg.n.toNat = g.tn.length by omega]
    exact tg_rk hv hw _ (Nat.le_refl _)
  have hf : g.tg.rs.filter g.tg.tk = g.tg.rs := List.filter_eq_self.2 fun a ha => by
    have h3 := h.arc a ha
    show (g.tg.kp.getD a.f.toNat false && g.tg.kp.getD a.t.toNat false) = true
    rw [tg_kept hv hw (by omega), tg_kept hv hw (by omega)]; rfl
  have hm : g.tg.rs.map g.tg.ta = g.tg.rs := by
    have : ∀ a ∈ g.tg.rs, g.tg.ta a = id a := fun a ha => by
      have h3 := h.arc a ha
      obtain ⟨f, t, c⟩ := a
      dsimp only at h3
      unfold Gr.ta
      dsimp only [id]
      rw [tg_rk hv hw _ (by omega), tg_rk hv hw _ (by omega)]
      congr 1 <;> omega
    rw [List.map_congr_left this, List.map_id]
  refine ⟨g.tg.tn, ?_, hl⟩
  rw [tr_ok (g := g.tg) (tr_valid hv hw) (show ¬ g.tg.wy 0 = 0 by omega)]
  have e : g.tg.tg = g.tg := by
    show (⟨(g.tg.tn.length : Int), (g.tg.rs.filter g.tg.tk).map g.tg.ta⟩ : Gr) = g.tg
    rw [hf, hm, hl]
    rfl
  rw [e]
end Go.Proofs.Ytdoobdfanalnbaa
