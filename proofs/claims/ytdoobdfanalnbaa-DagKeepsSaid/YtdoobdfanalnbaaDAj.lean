/- Plain mathematics: the costs of all paths of a graph, of one turned round, and of a trimmed one. Nothing here speaks of the program. -/
import Derived.Test.YtdoobdfanalnbaaDAi
namespace Go.Proofs.Ytdoobdfanalnbaa
set_option linter.unusedVariables false
set_option linter.unusedSimpArgs false

theorem pv_nodup {g : Gr} (h : g.Ok) : ∀ (d : Nat) (q : Int), 0 ≤ q → q < g.n → g.n - q ≤ d → (g.pv q).Nodup
  | 0, q, h0, h1, hd => by omega
  | d + 1, q, h0, h1, hd => by
    by_cases e : q = g.n - 1
    · subst e
      rw [pv_end h]
      exact List.nodup_cons.2 ⟨by simp, List.nodup_nil⟩
    · rw [pv_eq h h0 (by omega)]
      refine List.pairwise_flatMap.2 ⟨fun i hi => ?_, ?_⟩
      · obtain ⟨i0, i1, i2⟩ := outI_mem.1 hi
        have ha := h.arc _ (arc_mem i0 i1)
        refine List.pairwise_map.2 (List.Pairwise.imp ?_ (pv_nodup h d (arc g.rs i).t (by omega) (by omega) (by omega)))
        intro a b hab e
        injection e with _ e
        exact hab e
      · refine List.Pairwise.imp ?_ (outI_pairwise g.rs q)
        intro a b hab x hx y hy e
        obtain ⟨x', _, rfl⟩ := List.mem_map.1 hx
        obtain ⟨y', _, rfl⟩ := List.mem_map.1 hy
        injection e with e _
        omega
theorem pv_nd {g : Gr} (h : g.Ok) : (g.pv 0).Nodup := pv_nodup h g.n.toNat 0 (Int.le_refl 0) (by have := h.n1; omega) (by omega)
theorem pv_mem {g : Gr} (h : g.Ok) {p : List Int} : p ∈ g.pv 0 ↔ walkP g.rs 0 p = some (g.n - 1) := pv_iff h p 0 (Int.le_refl 0) (by have := h.n1; omega)
/-- The costs of all paths. -/
def Gr.cs (g : Gr) : List Int := (g.pv 0).map (sumP g.rs)
/-! ### Turned round -/
theorem arc_rev {n : Int} {rs : List Ar} {i : Int} (h0 : 0 ≤ i) (h1 : i < (rs.length : Int)) : arc (rs.map (revA n)) i = revA n (arc rs i) := by
  unfold arc
  rw [List.getD_eq_getElem?_getD, List.getD_eq_getElem?_getD, List.getElem?_map, List.getElem?_eq_getElem (show i.toNat < rs.length by omega)]
  rfl
theorem arc_revc {n : Int} {rs : List Ar} (i : Int) : (arc (rs.map (revA n)) i).c = (arc rs i).c := by
  unfold arc
  rw [List.getD_eq_getElem?_getD, List.getD_eq_getElem?_getD, List.getElem?_map]
  cases rs[i.toNat]? <;> rfl
theorem walk_rev {n : Int} {rs : List Ar} : ∀ (p : List Int) (q r : Int), walkP rs q p = some r ↔ walkP (rs.map (revA n)) (n - 1 - r) p.reverse = some (n - 1 - q)
  | [], q, r => by
    show some q = some r ↔ some (n - 1 - r) = some (n - 1 - q)
    rw [Option.some.injEq, Option.some.injEq]
    omega
  | i :: u, q, r => by
    rw [List.reverse_cons, walkP_app, walkP_cons]
    constructor
    · intro h
      by_cases hc : 0 ≤ i ∧ i < (rs.length : Int) ∧ (arc rs i).f = q
      · rw [if_pos hc] at h
        rw [(walk_rev u _ r).1 h]
        show walkP (rs.map (revA n)) (n - 1 - (arc rs i).t) [i] = _
        rw [walkP_cons, if_pos ⟨hc.1, by rw [List.length_map]; exact hc.2.1, by rw [arc_rev hc.1 hc.2.1]; rfl⟩, arc_rev hc.1 hc.2.1]
        show some (n - 1 - (arc rs i).f) = _
        rw [hc.2.2]
      · rw [if_neg hc] at h; cases h
    · intro h
      cases e : walkP (rs.map (revA n)) (n - 1 - r) u.reverse with
      | none => rw [e] at h; cases h
      | some s =>
        rw [e] at h
        have h : walkP (rs.map (revA n)) s [i] = some (n - 1 - q) := h
        rw [walkP_cons] at h
        by_cases hc : 0 ≤ i ∧ i < ((rs.map (revA n)).length : Int) ∧ (arc (rs.map (revA n)) i).f = s
        · rw [if_pos hc] at h
          have hl : i < (rs.length : Int) := by have := hc.2.1; rwa [List.length_map] at this
          have h2 := hc.2.2
          rw [arc_rev hc.1 hl] at h h2
          have h : some (n - 1 - (arc rs i).f) = some (n - 1 - q) := h
          have h2 : n - 1 - (arc rs i).t = s := h2
          injection h with h
          rw [if_pos ⟨hc.1, hl, by omega⟩]
          exact (walk_rev u _ r).2 (by rw [e, h2])
        · rw [if_neg hc] at h; cases h
theorem sum_rev {n : Int} {rs : List Ar} : ∀ (p : List Int), sumP (rs.map (revA n)) p.reverse = sumP rs p
  | [] => rfl
  | i :: u => by
    rw [List.reverse_cons, sumP_app, sum_rev u]
    have h1 : sumP rs (i :: u) = (arc rs i).c + sumP rs u := by simp [sumP]
    have h2 : sumP (rs.map (revA n)) [i] = (arc rs i).c := by simp [sumP, arc_revc]
    omega
theorem cs_rev {g : Gr} (hv : g.vE = 0) : (g.rv.1.cs).Perm g.cs := by
  have h := Gr.ok hv
  have hr := Gr.ok (rv_good hv)
  have e : g.rv.1 = ⟨g.n, g.rs.map (revA g.n)⟩ := by rw [rv_ok hv]
  have hp : (g.rv.1.pv 0).Perm ((g.pv 0).map List.reverse) := by
    refine (List.perm_ext_iff_of_nodup (pv_nd hr) ?_).2 fun p => ?_
    · refine List.pairwise_map.2 (List.Pairwise.imp ?_ (pv_nd h))
      intro a b hab e
      exact hab (List.reverse_inj.1 e)
    · rw [pv_mem hr, List.mem_map]
      have hw := walk_rev (n := g.n) (rs := g.rs) p.reverse 0 (g.n - 1)
      rw [List.reverse_reverse, show g.n - 1 - (g.n - 1) = 0 by omega, show g.n - 1 - 0 = g.n - 1 by omega] at hw
      rw [show g.rv.1.rs = g.rs.map (revA g.n) by rw [e], show g.rv.1.n = g.n by rw [e], ← hw]
      constructor
      · intro hp
        exact ⟨p.reverse, (pv_mem h).2 hp, List.reverse_reverse p⟩
      · rintro ⟨u, hu, rfl⟩
        rw [List.reverse_reverse]
        exact (pv_mem h).1 hu
  have h2 := hp.map (sumP g.rv.1.rs)
  rw [List.map_map] at h2
  have h3 : (g.pv 0).map (sumP g.rv.1.rs ∘ List.reverse) = g.cs := by
    unfold Gr.cs
    refine List.map_congr_left fun p _ => ?_
    show sumP g.rv.1.rs p.reverse = _
    rw [show g.rv.1.rs = g.rs.map (revA g.n) by rw [e], sum_rev]
  rw [h3] at h2
  exact h2
/-! ### Trimmed -/
/-- The new index of an arc. -/
def Gr.ix (g : Gr) (i : Nat) : Nat := ((g.rs.take i).filter g.tk).length
def Gr.ixI (g : Gr) (i : Int) : Int := (g.ix i.toNat : Int)
theorem ix_at {g : Gr} {i : Nat} {a : Ar} (ha : g.rs[i]? = some a) (hk : g.tk a = true) : g.tg.rs[g.ix i]? = some (g.ta a) := by
  have hi := (List.getElem?_eq_some_iff.1 ha).1
  have e : g.rs = g.rs.take i ++ a :: g.rs.drop (i + 1) := by
    have h1 := List.take_append_drop i g.rs
    rw [List.drop_eq_getElem_cons hi, (List.getElem?_eq_some_iff.1 ha).2] at h1
    exact h1.symm
  show ((g.rs.filter g.tk).map g.ta)[g.ix i]? = _
  rw [List.getElem?_map]
  have h2 : (g.rs.filter g.tk)[g.ix i]? = some a := by
    have h3 : g.rs.filter g.tk = (g.rs.take i).filter g.tk ++ a :: (g.rs.drop (i + 1)).filter g.tk := by
      have h4 := congrArg (List.filter g.tk) e
      rw [List.filter_append, List.filter_cons, if_pos hk] at h4
      exact h4
    rw [h3]
    unfold Gr.ix
    rw [List.getElem?_append_right (Nat.le_refl _), Nat.sub_self]; rfl
  rw [h2]; rfl
theorem ix_step {g : Gr} {i : Nat} {a : Ar} (ha : g.rs[i]? = some a) : g.ix (i + 1) = g.ix i + if g.tk a = true then 1 else 0 := by
  unfold Gr.ix
  rw [List.take_add_one, ha, List.filter_append, List.length_append]
  congr 1
  show ([a].filter g.tk).length = _
  rw [List.filter_cons]
  split <;> rfl
theorem ix_le {g : Gr} {i : Nat} : ∀ d, i + d ≤ g.rs.length → g.ix i ≤ g.ix (i + d)
  | 0, _ => Nat.le_refl _
  | d + 1, h => by
    have h1 := ix_le (g := g) (i := i) d (by omega)
    have h2 := ix_step (List.getElem?_eq_getElem (l := g.rs) (i := i + d) (by omega))
    rw [show i + (d + 1) = i + d + 1 by omega, h2]
    omega
theorem ix_lt {g : Gr} {i j : Nat} {a : Ar} (ha : g.rs[i]? = some a) (hk : g.tk a = true) (hij : i < j) (hj : j ≤ g.rs.length) : g.ix i < g.ix j := by
  have h1 := ix_step ha
  rw [if_pos hk] at h1
  have h2 := ix_le (g := g) (i := i + 1) (j - (i + 1)) (by omega)
  rw [show i + 1 + (j - (i + 1)) = j by omega] at h2
  omega
theorem ix_all (g : Gr) : g.ix g.rs.length = g.tg.rs.length := by
  unfold Gr.ix
  rw [List.take_length]
  show _ = ((g.rs.filter g.tk).map g.ta).length
  rw [List.length_map]
theorem ix_onto {g : Gr} {m : Nat} : ∀ j, j ≤ g.rs.length → m < g.ix j → ∃ i a, g.rs[i]? = some a ∧ g.tk a = true ∧ g.ix i = m
  | 0, _, h => by
    have : g.ix 0 = 0 := by simp [Gr.ix]
    omega
  | j + 1, hj, h => by
    have ha := List.getElem?_eq_getElem (l := g.rs) (i := j) (by omega)
    have h2 := ix_step ha
    by_cases e : m < g.ix j
    · exact ix_onto j (by omega) e
    · refine ⟨j, _, ha, ?_, ?_⟩
      · cases hx : g.tk g.rs[j] with
        | true => rfl
        | false => rw [hx, if_neg (by simp)] at h2; omega
      · split at h2 <;> omega
theorem tk_iff {g : Gr} (h : g.Ok) {a : Ar} (ha : a ∈ g.rs) : g.tk a = true ↔ Rea g a.f ∧ On g a.t := by
  have h3 := h.arc a ha
  show (g.kp.getD a.f.toNat false && g.kp.getD a.t.toNat false) = true ↔ _
  rw [Bool.and_eq_true, kp_iff h h3.1 (by omega), kp_iff h (by omega) h3.2.2.1]
  exact ⟨fun ⟨h1, h2⟩ => ⟨h1.1, h2.2⟩, fun ⟨h1, h2⟩ => ⟨⟨h1, h2.arc ha⟩, h1.arc ha, h2⟩⟩
theorem arc_ix {g : Gr} {i : Int} (h0 : 0 ≤ i) (h1 : i < (g.rs.length : Int)) (hk : g.tk (arc g.rs i) = true) : 0 ≤ g.ixI i ∧ g.ixI i < (g.tg.rs.length : Int) ∧ arc g.tg.rs (g.ixI i) = g.ta (arc g.rs i) := by
  have ha := arc_get (rs := g.rs) (i := i.toNat) (by omega)
  rw [show ((i.toNat : Nat) : Int) = i by omega] at ha
  have h2 := ix_at ha hk
  have h3 := (List.getElem?_eq_some_iff.1 h2).1
  refine ⟨Int.natCast_nonneg _, by unfold Gr.ixI; omega, ?_⟩
  unfold arc Gr.ixI
  rw [Int.toNat_natCast, List.getD_eq_getElem?_getD, h2]; rfl
theorem path_kept {g : Gr} (h : g.Ok) : ∀ (p : List Int) (q : Int), Rea g q → walkP g.rs q p = some (g.n - 1) → ∀ i ∈ p, 0 ≤ i ∧ i < (g.rs.length : Int) ∧ g.tk (arc g.rs i) = true
  | [], q, _, _, i, hi => by cases hi
  | j :: p, q, hq, hw, i, hi => by
    rw [walkP_cons] at hw
    by_cases hc : 0 ≤ j ∧ j < (g.rs.length : Int) ∧ (arc g.rs j).f = q
    · rw [if_pos hc] at hw
      have hm := arc_mem hc.1 hc.2.1
      rcases List.mem_cons.1 hi with rfl | hi
      · exact ⟨hc.1, hc.2.1, (tk_iff h hm).2 ⟨by rw [hc.2.2]; exact hq, p, hw⟩⟩
      · exact path_kept h p _ (Rea.arc hm (by rw [hc.2.2]; exact hq)) hw i hi
    · rw [if_neg hc] at hw; cases hw
theorem end_kept {g : Gr} (h : g.Ok) (hr : Rea g (g.n - 1)) : g.kp.getD (g.n.toNat - 1) false = true := by
  have h1 := h.n1
  have := (kp_iff h (j := g.n - 1) (by omega) (by omega)).2 ⟨hr, [], rfl⟩
  rwa [show (g.n - 1).toNat = g.n.toNat - 1 by omega] at this
theorem walk_tg {g : Gr} (h : g.Ok) : ∀ (p : List Int) (q : Int), 0 ≤ q → q < g.n → Rea g q → walkP g.rs q p = some (g.n - 1) → walkP g.tg.rs (g.rk q.toNat : Int) (p.map g.ixI) = some (g.tg.n - 1)
  | [], q, h0, h1, hr, hw => by
    have hq : some q = some (g.n - 1) := hw
    injection hq with hq
    have h2 := rk_end h (end_kept h (by rw [← hq]; exact hr))
    have hn := h.n1
    show some (g.rk q.toNat : Int) = some ((g.tn.length : Int) - 1)
    congr 1
    rw [hq, show (g.n - 1).toNat = g.n.toNat - 1 by omega]
    omega
  | i :: p, q, h0, h1, hr, hw => by
    have hk := path_kept h (i :: p) q hr hw i (List.mem_cons_self ..)
    rw [walkP_cons] at hw
    by_cases hc : 0 ≤ i ∧ i < (g.rs.length : Int) ∧ (arc g.rs i).f = q
    · rw [if_pos hc] at hw
      have hm := arc_mem hc.1 hc.2.1
      have ha := h.arc _ hm
      obtain ⟨k1, k2, k3⟩ := arc_ix hk.1 hk.2.1 hk.2.2
      rw [List.map_cons, walkP_cons, if_pos ⟨k1, k2, by rw [k3]; show (g.rk (arc g.rs i).f.toNat : Int) = _; rw [hc.2.2]⟩, k3]
      exact walk_tg h p _ (by omega) ha.2.2.1 (Rea.arc hm (by rw [hc.2.2]; exact hr)) hw
    · rw [if_neg hc] at hw; cases hw
theorem rk_inj {g : Gr} {i j : Nat} (hi : g.kp.getD i false = true) (hj : g.kp.getD j false = true) (i1 : i < g.n.toNat) (j1 : j < g.n.toNat) (e : g.rk i = g.rk j) : i = j := by
  rcases Nat.lt_trichotomy i j with h | h | h
  · have := rk_lt hi h (by omega); omega
  · exact h
  · have := rk_lt hj h (by omega); omega
theorem walk_gt {g : Gr} (h : g.Ok) : ∀ (p' : List Int) (q : Int), 0 ≤ q → q < g.n → Rea g q → On g q → walkP g.tg.rs (g.rk q.toNat : Int) p' = some (g.tg.n - 1) → ∃ p, p' = p.map g.ixI ∧ walkP g.rs q p = some (g.n - 1)
  | [], q, h0, h1, hr, ho, hw => by
    have hq : some (g.rk q.toNat : Int) = some ((g.tn.length : Int) - 1) := hw
    injection hq with hq
    have hn := h.n1
    have hre : Rea g (g.n - 1) := by
      obtain ⟨u, hu⟩ := hr
      obtain ⟨v, hv⟩ := ho
      exact ⟨u ++ v, by rw [walkP_app, hu]; exact hv⟩
    have hek := end_kept h hre
    have h2 := rk_end h hek
    have hqk := (kp_iff h h0 h1).2 ⟨hr, ho⟩
    have := rk_inj hqk hek (by omega) (by omega) (by omega)
    refine ⟨[], rfl, ?_⟩
    show some q = some (g.n - 1)
    congr 1
    omega
  | m :: p', q, h0, h1, hr, ho, hw => by
    rw [walkP_cons] at hw
    by_cases hc : 0 ≤ m ∧ m < (g.tg.rs.length : Int) ∧ (arc g.tg.rs m).f = (g.rk q.toNat : Int)
    · rw [if_pos hc] at hw
      obtain ⟨i, a, ia, ik, im⟩ := ix_onto (g := g) (m := m.toNat) g.rs.length (Nat.le_refl _) (by rw [ix_all]; omega)
      have hil := (List.getElem?_eq_some_iff.1 ia).1
      have hae : arc g.rs (i : Int) = a := by
        have := arc_get (rs := g.rs) hil
        rw [ia] at this; injection this with this; exact this.symm
      have hmi : m = g.ixI (i : Int) := by unfold Gr.ixI; rw [Int.toNat_natCast, im]; omega
      obtain ⟨k1, k2, k3⟩ := arc_ix (g := g) (i := (i : Int)) (by omega) (by omega) (by rw [hae]; exact ik)
      rw [hae] at k3
      rw [hmi, k3] at hw hc
      have hm : a ∈ g.rs := List.mem_of_getElem? ia
      have ha := h.arc a hm
      obtain ⟨r1, o1⟩ := (tk_iff h hm).1 ik
      have hf : (g.rk a.f.toNat : Int) = (g.rk q.toNat : Int) := hc.2.2
      have hfk := (kp_iff h ha.1 (by omega)).2 ⟨r1, On.arc hm o1⟩
      have hqk := (kp_iff h h0 h1).2 ⟨hr, ho⟩
      have := rk_inj hfk hqk (by omega) (by omega) (by omega)
      have haf : a.f = q := by omega
      obtain ⟨p, hp, hw2⟩ := walk_gt h p' a.t (by omega) ha.2.2.1 (Rea.arc hm r1) o1 hw
      refine ⟨(i : Int) :: p, by rw [List.map_cons, ← hp, ← hmi], ?_⟩
      rw [walkP_cons, hae, if_pos ⟨by omega, by omega, haf⟩]
      exact hw2
    · rw [if_neg hc] at hw; cases hw
theorem map_injOn {α β : Type} {f : α → β} : ∀ {l m : List α}, (∀ x ∈ l, ∀ y ∈ m, f x = f y → x = y) → l.map f = m.map f → l = m
  | [], [], _, _ => rfl
  | [], y :: m, _, e => by cases e
  | x :: l, [], _, e => by cases e
  | x :: l, y :: m, h, e => by
    rw [List.map_cons, List.map_cons] at e
    injection e with e1 e2
    rw [h x (List.mem_cons_self ..) y (List.mem_cons_self ..) e1, map_injOn (fun a ha b hb => h a (List.mem_cons_of_mem _ ha) b (List.mem_cons_of_mem _ hb)) e2]
theorem ixI_inj {g : Gr} {i j : Int} (hi : 0 ≤ i ∧ i < (g.rs.length : Int) ∧ g.tk (arc g.rs i) = true) (hj : 0 ≤ j ∧ j < (g.rs.length : Int) ∧ g.tk (arc g.rs j) = true) (e : g.ixI i = g.ixI j) : i = j := by
  have ai := arc_get (rs := g.rs) (i := i.toNat) (by omega)
  have aj := arc_get (rs := g.rs) (i := j.toNat) (by omega)
  rw [show ((i.toNat : Nat) : Int) = i by omega] at ai
  rw [show ((j.toNat : Nat) : Int) = j by omega] at aj
  have e : (g.ix i.toNat : Int) = (g.ix j.toNat : Int) := e
  rcases Nat.lt_trichotomy i.toNat j.toNat with h | h | h
  · have := ix_lt ai hi.2.2 h (by omega); omega
  · omega
  · have := ix_lt aj hj.2.2 h (by omega); omega
theorem sum_tg {g : Gr} : ∀ (p : List Int), (∀ i ∈ p, 0 ≤ i ∧ i < (g.rs.length : Int) ∧ g.tk (arc g.rs i) = true) → sumP g.tg.rs (p.map g.ixI) = sumP g.rs p
  | [], _ => rfl
  | i :: p, h => by
    have h1 := sum_tg p fun j hj => h j (List.mem_cons_of_mem _ hj)
    obtain ⟨i0, i1, i2⟩ := h i (List.mem_cons_self ..)
    obtain ⟨_, _, k3⟩ := arc_ix i0 i1 i2
    have h2 : sumP g.rs (i :: p) = (arc g.rs i).c + sumP g.rs p := by simp [sumP]
    have h3 : sumP g.tg.rs (g.ixI i :: p.map g.ixI) = (arc g.tg.rs (g.ixI i)).c + sumP g.tg.rs (p.map g.ixI) := by simp [sumP]
    rw [List.map_cons, h3, h2, h1, k3]; rfl
theorem cs_tr {g : Gr} (hv : g.vE = 0) (hw : ¬ g.wy 0 = 0) : (g.tg.cs).Perm g.cs := by
  have h := Gr.ok hv
  have ht := tg_ok hv hw
  have hn := h.n1
  have r0 : Rea g 0 := ⟨[], rfl⟩
  have o0 : On g 0 := (on_iff h (Int.le_refl 0) (by omega)).1 (by have := wy_nonneg h (q := 0) (Int.le_refl 0) (by omega); omega)
  have kept : ∀ p ∈ g.pv 0, ∀ i ∈ p, 0 ≤ i ∧ i < (g.rs.length : Int) ∧ g.tk (arc g.rs i) = true := fun p hp => path_kept h p 0 r0 ((pv_mem h).1 hp)
  have hp : (g.tg.pv 0).Perm ((g.pv 0).map (List.map g.ixI)) := by
    refine (List.perm_ext_iff_of_nodup (pv_nd ht) ?_).2 fun p => ?_
    · refine List.pairwise_map.2 (List.Pairwise.imp_of_mem ?_ (pv_nd h))
      intro a b ha hb hab e
      exact hab (map_injOn (fun x hx y hy e => ixI_inj (kept a ha x hx) (kept b hb y hy) e) e)
    · rw [pv_mem ht, List.mem_map]
      constructor
      · intro hp
        obtain ⟨u, hu, hw2⟩ := walk_gt h p 0 (Int.le_refl 0) (by omega) r0 o0 hp
        exact ⟨u, (pv_mem h).2 hw2, hu.symm⟩
      · rintro ⟨u, hu, rfl⟩
        exact walk_tg h u 0 (Int.le_refl 0) (by omega) r0 ((pv_mem h).1 hu)
  have h2 := hp.map (sumP g.tg.rs)
  rw [List.map_map] at h2
  have h3 : (g.pv 0).map (sumP g.tg.rs ∘ List.map g.ixI) = g.cs := by
    unfold Gr.cs
    exact List.map_congr_left fun p hp => sum_tg p (kept p hp)
  rw [h3] at h2
  exact h2
/-! ### Sorted costs -/
def srt (L : List Int) : List Int := L.mergeSort fun x y => decide (x ≤ y)
theorem srt_perm {L M : List Int} (h : L.Perm M) : srt L = srt M := by
  have hp : ∀ K : List Int, (srt K).Pairwise (fun a b => decide (a ≤ b) = true) := fun K => List.pairwise_mergeSort (fun a b c h1 h2 => by
    have := of_decide_eq_true h1
    have := of_decide_eq_true h2
    exact decide_eq_true (by omega)) (fun a b => by
    rw [Bool.or_eq_true, decide_eq_true_iff, decide_eq_true_iff]; omega) K
  refine List.Perm.eq_of_pairwise (fun a b _ _ h1 h2 => ?_) (hp L) (hp M) ?_
  · have := of_decide_eq_true h1
    have := of_decide_eq_true h2
    omega
  · exact (List.mergeSort_perm L _).trans (h.trans (List.mergeSort_perm M _).symm)
theorem srt_len (L : List Int) : (srt L).length = L.length := (List.mergeSort_perm L _).length_eq
/-- What the law's costs are, sorted. -/
def Gr.co (g : Gr) : List Int := srt (g.pth.1.map (sumP g.rs))
theorem pth_cs {g : Gr} (h : g.pth.2 = 0) : g.vE = 0 ∧ g.wy 0 ≤ 2000 ∧ g.pth.1 = g.pv 0 := by
  unfold Gr.pth at h ⊢
  split
  · rename_i hv; rw [if_pos hv] at h; exact absurd h hv
  · rename_i hv
    rw [if_neg hv] at h
    split
    · rename_i h2; rw [if_pos h2] at h; cases h
    · rename_i h2; exact ⟨Classical.not_not.1 hv, by omega, rfl⟩
theorem pth_of {g g2 : Gr} (h : g.pth.2 = 0) (hv : g2.vE = 0) (hp : g2.cs.Perm g.cs) : g2.co = g.co := by
  obtain ⟨h1, h2, h3⟩ := pth_cs h
  have hO := Gr.ok h1
  have hO2 := Gr.ok hv
  have e1 : (g2.pv 0).length = (g.pv 0).length := by
    have := hp.length_eq
    unfold Gr.cs at this
    rwa [List.length_map, List.length_map] at this
  have w1 := wy_len hO (q := 0) (Int.le_refl 0) (by have := hO.n1; omega)
  have w2 := wy_len hO2 (q := 0) (Int.le_refl 0) (by have := hO2.n1; omega)
  rw [e1, ← w1] at w2
  have e2 : g2.pth.1 = g2.pv 0 := by
    unfold Gr.pth
    rw [if_neg (by omega), if_neg (by omega)]
  unfold Gr.co
  rw [e2, h3]
  exact srt_perm hp
theorem co_none {g : Gr} (h : g.pth.2 = 0) (hw : g.wy 0 = 0) : g.co = [] := by
  obtain ⟨h1, h2, h3⟩ := pth_cs h
  have hO := Gr.ok h1
  have w1 := wy_len hO (q := 0) (Int.le_refl 0) (by have := hO.n1; omega)
  have hc : (4611686018427387905 : Int) = capM := rfl
  have e : g.pv 0 = [] := List.eq_nil_of_length_eq_zero (by rw [hw] at w1; have := hc; omega)
  unfold Gr.co
  rw [h3, e]
  exact List.eq_nil_of_length_eq_zero (by rw [srt_len]; rfl)
end Go.Proofs.Ytdoobdfanalnbaa
