/- Plain mathematics: the graph of those nodes that lie on a way. Nothing here speaks of the program. -/
import Derived.Test.YtdoobdfanalnbaaDAf
import Derived.Test.YtdoobdfanalnbaaDAg
namespace Go.Proofs.Ytdoobdfanalnbaa
set_option linter.unusedVariables false
set_option linter.unusedSimpArgs false

/-- A way leads on from here to the end. -/
def On (g : Gr) (q : Int) : Prop := ∃ p, walkP g.rs q p = some (g.n - 1)
theorem arc_at {g : Gr} {a : Ar} (ha : a ∈ g.rs) : ∃ i : Int, 0 ≤ i ∧ i < (g.rs.length : Int) ∧ arc g.rs i = a := by
  obtain ⟨i, hi, e⟩ := List.mem_iff_getElem.1 ha
  refine ⟨(i : Int), by omega, by omega, ?_⟩
  have := arc_get hi
  rw [List.getElem?_eq_getElem hi, e] at this
  injection this with this
  exact this.symm
theorem on_iff {g : Gr} (h : g.Ok) {q : Int} (h0 : 0 ≤ q) (h1 : q < g.n) : 0 < g.wy q ↔ On g q := by
  have h2 := wy_len h h0 h1
  have h3 : g.wy q = min (((g.pv q).length : Nat) : Int) 4611686018427387905 := h2
  constructor
  · intro hw
    obtain ⟨p, hp⟩ := List.exists_mem_of_length_pos (show 0 < (g.pv q).length by omega)
    exact ⟨p, (pv_iff h p q h0 h1).1 hp⟩
  · rintro ⟨p, hp⟩
    have := List.length_pos_of_mem ((pv_iff h p q h0 h1).2 hp)
    omega
theorem On.arc {g : Gr} {a : Ar} (ha : a ∈ g.rs) (h : On g a.t) : On g a.f := by
  obtain ⟨i, i0, i1, rfl⟩ := arc_at ha
  obtain ⟨p, hp⟩ := h
  exact ⟨i :: p, by rw [walkP_cons, if_pos ⟨i0, i1, rfl⟩]; exact hp⟩
theorem On.next {g : Gr} {q : Int} (h : On g q) (hq : ¬ q = g.n - 1) : ∃ a ∈ g.rs, a.f = q ∧ On g a.t := by
  obtain ⟨p, hp⟩ := h
  cases p with
  | nil => unfold walkP at hp; injection hp with hp; exact absurd hp hq
  | cons i p =>
    rw [walkP_cons] at hp
    by_cases hc : 0 ≤ i ∧ i < (g.rs.length : Int) ∧ (Go.Proofs.Ytdoobdfanalnbaa.arc g.rs i).f = q
    · rw [if_pos hc] at hp
      exact ⟨_, arc_mem hc.1 hc.2.1, hc.2.2, p, hp⟩
    · rw [if_neg hc] at hp; cases hp
theorem Rea.arc {g : Gr} {a : Ar} (ha : a ∈ g.rs) (h : Rea g a.f) : Rea g a.t := by
  obtain ⟨i, i0, i1, rfl⟩ := arc_at ha
  exact h.next (outI_mem.2 ⟨i0, i1, rfl⟩)
theorem Rea.last {g : Gr} {j : Int} (h : Rea g j) (hj : ¬ j = 0) : ∃ a ∈ g.rs, a.t = j ∧ Rea g a.f := by
  obtain ⟨p, hp⟩ := h
  rcases List.eq_nil_or_concat p with rfl | ⟨u, i, rfl⟩
  · unfold walkP at hp; injection hp with hp; exact absurd hp.symm hj
  · rw [List.concat_eq_append, walkP_app] at hp
    cases hu : walkP g.rs 0 u with
    | none => rw [hu] at hp; cases hp
    | some r =>
      rw [hu] at hp
      have hp : walkP g.rs r [i] = some j := hp
      rw [walkP_cons] at hp
      by_cases hc : 0 ≤ i ∧ i < (g.rs.length : Int) ∧ (Go.Proofs.Ytdoobdfanalnbaa.arc g.rs i).f = r
      · rw [if_pos hc] at hp
        have hp : some (Go.Proofs.Ytdoobdfanalnbaa.arc g.rs i).t = some j := hp
        injection hp with hp
        exact ⟨_, arc_mem hc.1 hc.2.1, hp, u, by rw [hc.2.2]; exact hu⟩
      · rw [if_neg hc] at hp; cases hp
/-- Which nodes are kept, and their list. -/
def Gr.kp (g : Gr) : List Bool := (List.range g.n.toNat).map fun j : Nat => g.rc.getD j false && decide (0 < g.wy (j : Int))
def Gr.tn (g : Gr) : List Int := memL g.kp
theorem kp_len (g : Gr) : g.kp.length = g.n.toNat := by simp [Gr.kp]
theorem kp_get {g : Gr} {j : Nat} (hj : j < g.n.toNat) : g.kp[j]? = some (g.rc.getD j false && decide (0 < g.wy (j : Int))) := by
  unfold Gr.kp
  rw [List.getElem?_map, List.getElem?_range hj]; rfl
theorem kp_iff {g : Gr} (h : g.Ok) {j : Int} (h0 : 0 ≤ j) (h1 : j < g.n) : g.kp.getD j.toNat false = true ↔ Rea g j ∧ On g j := by
  rw [List.getD_eq_getElem?_getD, kp_get (by omega)]
  show (g.rc.getD j.toNat false && decide (0 < g.wy (j.toNat : Int))) = true ↔ _
  rw [Bool.and_eq_true, rc_iff h h0, decide_eq_true_iff, show ((j.toNat : Nat) : Int) = j by omega, on_iff h h0 h1]
/-- The new name of a node. -/
def Gr.rk (g : Gr) (j : Nat) : Nat := (memL (g.kp.take j)).length
theorem rk_step {g : Gr} {j : Nat} {x : Bool} (hx : g.kp[j]? = some x) : g.rk (j + 1) = g.rk j + if x = true then 1 else 0 := by
  unfold Gr.rk
  rw [memL_step hx, List.length_append]
  congr 1
  split <;> rfl
theorem rk_le {g : Gr} {i : Nat} : ∀ d, i + d ≤ g.n.toNat → g.rk i ≤ g.rk (i + d)
  | 0, _ => Nat.le_refl _
  | d + 1, h => by
    have h1 := rk_le (g := g) (i := i) d (by omega)
    have h2 := rk_step (kp_get (g := g) (j := i + d) (by omega))
    rw [show i + (d + 1) = i + d + 1 by omega, h2]
    omega
theorem rk_lt {g : Gr} {i j : Nat} (hi : g.kp.getD i false = true) (hij : i < j) (hj : j ≤ g.n.toNat) : g.rk i < g.rk j := by
  have h1 := rk_step (kp_get (g := g) (j := i) (by omega))
  rw [List.getD_eq_getElem?_getD, kp_get (by omega)] at hi
  have hi : (g.rc.getD i false && decide (0 < g.wy (i : Int))) = true := hi
  rw [hi, if_pos rfl] at h1
  have h2 := rk_le (g := g) (i := i + 1) (j - (i + 1)) (by omega)
  rw [show i + 1 + (j - (i + 1)) = j by omega] at h2
  omega
theorem rk_all (g : Gr) : g.rk g.n.toNat = g.tn.length := by
  unfold Gr.rk Gr.tn
  rw [List.take_of_length_le (by rw [kp_len]; exact Nat.le_refl _)]
/-- An arc with new names; whether it is kept; what Trim answers. -/
def Gr.ta (g : Gr) (a : Ar) : Ar := ⟨(g.rk a.f.toNat : Int), (g.rk a.t.toNat : Int), a.c⟩
def Gr.tk (g : Gr) (a : Ar) : Bool := g.kp.getD a.f.toNat false && g.kp.getD a.t.toNat false
def Gr.tr (g : Gr) : Gr × List Int × Int := if ¬ g.vE = 0 then (⟨0, []⟩, [], g.vE) else if g.wy 0 = 0 then (⟨0, []⟩, [], 10) else (⟨(g.tn.length : Int), (g.rs.filter g.tk).map g.ta⟩, g.tn, 0)
theorem tr_valid {g : Gr} (hv : g.vE = 0) (hw : ¬ g.wy 0 = 0) : (⟨(g.tn.length : Int), (g.rs.filter g.tk).map g.ta⟩ : Gr).vE = 0 := by
  have h := Gr.ok hv
  have h1 := h.n1
  have h2 := h.n2
  have h3 := wy_nonneg h (q := 0) (Int.le_refl 0) (by omega)
  have k0 : g.kp.getD 0 false = true := (kp_iff h (j := 0) (Int.le_refl 0) (by omega)).2 ⟨⟨[], rfl⟩, (on_iff h (Int.le_refl 0) (by omega)).1 (by omega)⟩
  have h4 := rk_lt k0 (show 0 < g.n.toNat by omega) (Nat.le_refl _)
  rw [rk_all] at h4
  have h5 : g.tn.length ≤ g.n.toNat := by
    have := memL_len g.kp
    rw [kp_len] at this
    exact this
  refine Gr.Ok.vE ⟨by show 1 ≤ (g.tn.length : Int); omega, by show (g.tn.length : Int) ≤ 2000; omega, ?_, fun a ha => ?_⟩
  · show ((g.rs.filter g.tk).map g.ta).length ≤ 6000
    rw [List.length_map]
    exact Nat.le_trans (List.length_filter_le _ _) h.len
  · obtain ⟨b, hb, rfl⟩ := List.mem_map.1 ha
    obtain ⟨hb1, hb2⟩ := List.mem_filter.1 hb
    have hb2 : (g.kp.getD b.f.toNat false && g.kp.getD b.t.toNat false) = true := hb2
    rw [Bool.and_eq_true] at hb2
    have h6 := h.arc b hb1
    have h7 := rk_lt hb2.1 (show b.f.toNat < b.t.toNat by omega) (by omega)
    have h8 := rk_lt hb2.2 (show b.t.toNat < g.n.toNat by omega) (Nat.le_refl _)
    rw [rk_all] at h8
    unfold Gr.ta
    dsimp only
    omega
end Go.Proofs.Ytdoobdfanalnbaa
