/- Signs in memory. -/
import Derived.Test.YtfgnekbkcmpdiaaGreatDoorOA
import Derived.Test.YtfgnekbkcmpdiaaGreatDoorUb
namespace Go.Proofs.YtfgnekbkcmpdiaaGreatDoor
open Go.RowKit
set_option linter.unusedVariables false
set_option linter.unusedSimpArgs false
set_option maxRecDepth 100000

def sgC (v : Option Addr × Nat) (x : Sg) : List Value := [.string (bs x.t), .slice v.1 x.s.length v.2, .int .i64 x.c, .int .i64 x.w]
def sgsC : List (Option Addr × Nat) → List Sg → List Value
  | v :: vs, x :: L => sgC v x ++ sgsC vs L
  | _, _ => []
theorem sgsC_cons (v : Option Addr × Nat) (vs : List (Option Addr × Nat)) (x : Sg) (L : List Sg) : sgsC (v :: vs) (x :: L) = sgC v x ++ sgsC vs L := rfl
theorem sgsC_len : ∀ {vs : List (Option Addr × Nat)} {L : List Sg}, vs.length = L.length → (sgsC vs L).length = L.length * 4
  | [], [], _ => rfl
  | [], _ :: _, h => by cases h
  | _ :: _, [], h => by cases h
  | v :: vs, x :: L, h => by
    have ih := @sgsC_len vs L (by simpa using h)
    rw [sgsC_cons, List.length_append, ih, List.length_cons]
    show 4 + _ = _
    omega
theorem sgsC_snoc : ∀ {vs : List (Option Addr × Nat)} {L : List Sg} (v : Option Addr × Nat) (x : Sg), vs.length = L.length → sgsC (vs ++ [v]) (L ++ [x]) = sgsC vs L ++ sgC v x
  | [], [], v, x, _ => by simp [sgsC]
  | [], _ :: _, _, _, h => by cases h
  | _ :: _, [], _, _, h => by cases h
  | u :: vs, y :: L, v, x, h => by
    have ih := @sgsC_snoc vs L v x (by simpa using h)
    rw [List.cons_append, List.cons_append, sgsC_cons, sgsC_cons, ih, List.append_assoc]
theorem sgsC_cat : ∀ {vs us : List (Option Addr × Nat)} {L M : List Sg}, vs.length = L.length → sgsC (vs ++ us) (L ++ M) = sgsC vs L ++ sgsC us M
  | [], us, [], M, _ => by simp [sgsC]
  | [], _, _ :: _, _, h => by cases h
  | _ :: _, _, [], _, h => by cases h
  | u :: vs, us, y :: L, M, h => by
    have ih := @sgsC_cat vs us L M (by simpa using h)
    rw [List.cons_append, List.cons_append, sgsC_cons, sgsC_cons, ih, List.append_assoc]
theorem sgsC_at : ∀ {vs : List (Option Addr × Nat)} {L : List Sg} {j : Nat} {v : Option Addr × Nat} {x : Sg}, vs[j]? = some v → L[j]? = some x → (sgsC vs L)[j * 4]? = some (.string (bs x.t)) ∧ (sgsC vs L)[j * 4 + 1]? = some (.slice v.1 x.s.length v.2) ∧ (sgsC vs L)[j * 4 + 2]? = some (.int .i64 x.c) ∧ (sgsC vs L)[j * 4 + 3]? = some (.int .i64 x.w)
  | [], _, j, v, x, h, _ => by simp at h
  | _ :: _, [], j, v, x, _, h => by simp at h
  | u :: vs, y :: L, 0, v, x, h, h2 => by
    have e : u = v := by simpa using h
    have e2 : y = x := by simpa using h2
    subst e; subst e2
    exact ⟨rfl, rfl, rfl, rfl⟩
  | u :: vs, y :: L, j + 1, v, x, h, h2 => by
    have ih := @sgsC_at vs L j v x (by simpa using h) (by simpa using h2)
    have hl : (sgC u y).length = 4 := rfl
    rw [sgsC_cons]
    refine ⟨?_, ?_, ?_, ?_⟩
    · rw [List.getElem?_append_right (by omega), hl, show (j + 1) * 4 - 4 = j * 4 by omega]; exact ih.1
    · rw [List.getElem?_append_right (by omega), hl, show (j + 1) * 4 + 1 - 4 = j * 4 + 1 by omega]; exact ih.2.1
    · rw [List.getElem?_append_right (by omega), hl, show (j + 1) * 4 + 2 - 4 = j * 4 + 2 by omega]; exact ih.2.2.1
    · rw [List.getElem?_append_right (by omega), hl, show (j + 1) * 4 + 3 - 4 = j * 4 + 3 by omega]; exact ih.2.2.2
theorem sgC_one (v : Option Addr × Nat) (x : Sg) : ∀ u ∈ sgC v x, u.oneCell' = true := by
  intro u hu
  unfold sgC at hu
  simp at hu
  rcases hu with rfl | rfl | rfl | rfl <;> rfl
theorem sgsC_one : ∀ (vs : List (Option Addr × Nat)) (L : List Sg), ∀ u ∈ sgsC vs L, u.oneCell' = true
  | [], _, u, h => by simp [sgsC] at h
  | _ :: _, [], u, h => by simp [sgsC] at h
  | v :: vs, x :: L, u, h => by
    rw [sgsC_cons] at h
    rcases List.mem_append.1 h with h | h
    · exact sgC_one v x u h
    · exact sgsC_one vs L u h
/-- Signs lie there. -/
def SgnIn (w : World) (A : Option Addr) (L : List Sg) : Prop :=
  0 < L.length → ∃ b off, A = some ⟨b, off, none⟩ ∧ b < w.heap.size ∧ ∀ (j : Nat) x, L[j]? = some x →
    ∃ Aj cj, w.cell? ⟨b, off + j * 4, none⟩ = some (.string (bs x.t)) ∧ w.cell? ⟨b, off + j * 4 + 1, none⟩ = some (.slice Aj x.s.length cj) ∧ w.cell? ⟨b, off + j * 4 + 2, none⟩ = some (.int .i64 x.c) ∧ w.cell? ⟨b, off + j * 4 + 3, none⟩ = some (.int .i64 x.w) ∧ CellsIn w Aj (sndsC x.s)
theorem SgnIn.below {w w' : World} {A : Option Addr} {L : List Sg} (h : SgnIn w A L) (hb : Below w.heap.size w w') : SgnIn w' A L := by
  intro h0
  obtain ⟨b, off, e, hlt, hc⟩ := h h0
  refine ⟨b, off, e, Nat.lt_of_lt_of_le hlt hb.size, fun j x hx => ?_⟩
  obtain ⟨Aj, cj, h1, h2, h3, h4, h5⟩ := hc j x hx
  exact ⟨Aj, cj, (hb.cell (p := ⟨b, off + j * 4, none⟩) hlt).trans h1, (hb.cell (p := ⟨b, off + j * 4 + 1, none⟩) hlt).trans h2, (hb.cell (p := ⟨b, off + j * 4 + 2, none⟩) hlt).trans h3, (hb.cell (p := ⟨b, off + j * 4 + 3, none⟩) hlt).trans h4, h5.below hb⟩
theorem SgnIn.at {w : World} {A : Option Addr} {L : List Sg} (h : SgnIn w A L) {j : Nat} {x : Sg} (hx : L[j]? = some x) : ∃ b off Aj cj, A = some ⟨b, off, none⟩ ∧ b < w.heap.size ∧ w.cell? ⟨b, off + j * 4, none⟩ = some (.string (bs x.t)) ∧ w.cell? ⟨b, off + j * 4 + 1, none⟩ = some (.slice Aj x.s.length cj) ∧ w.cell? ⟨b, off + j * 4 + 2, none⟩ = some (.int .i64 x.c) ∧ w.cell? ⟨b, off + j * 4 + 3, none⟩ = some (.int .i64 x.w) ∧ CellsIn w Aj (sndsC x.s) := by
  obtain ⟨b, off, e, hlt, hc⟩ := h (by have := (List.getElem?_eq_some_iff.1 hx).1; omega)
  obtain ⟨Aj, cj, h1, h2, h3, h4, h5⟩ := hc j x hx
  exact ⟨b, off, Aj, cj, e, hlt, h1, h2, h3, h4, h5⟩
theorem SgnIn.take {w : World} {A : Option Addr} {L : List Sg} (h : SgnIn w A L) (k : Nat) : SgnIn w A (L.take k) := by
  intro h0
  obtain ⟨b, off, e, hlt, hc⟩ := h (by rw [List.length_take] at h0; omega)
  refine ⟨b, off, e, hlt, fun j x hx => hc j x ?_⟩
  have hj := (List.getElem?_eq_some_iff.1 hx).1
  rw [List.length_take] at hj
  rwa [List.getElem?_take_of_lt (by omega)] at hx
theorem sg_info : (Tryz.prog.info? 34).map (fun i => (i.zero, i.size, i.bytes)) = some (some (.agg #[.string ⟨#[]⟩, .slice none 0 0, .int .i64 0, .int .i64 0]), 4, 56) := by kernel_rfl
/-- A row of signs. -/
def sgv (A : Option Addr) (n c : Nat) (vs : List (Option Addr × Nat)) (L : List Sg) : Itm := ⟨34, 4, .slice A n c, n, sgsC vs L⟩
theorem sgs_info : (Tryz.prog.info? 23).map (fun i => (i.zero, i.size, i.bytes)) = some (some (.slice none 0 0), 1, 24) := by kernel_rfl
/-- What a box of a sign holds. -/
def sgbox (g : Nat) (v : Option Addr × Nat) (x : Sg) : Itm := box 34 g (sgC v x)
theorem Hp.sgbox_new {W w : World} {l : List Itm} (h : Hp W l w) (A : Option Addr) (c : Nat) (x : Sg) : Hp W (sgbox w.heap.size (A, c) x :: l) (w.alloc (.cells #[.string (bs x.t), .slice A x.s.length c, .int .i64 x.c, .int .i64 x.w] 34)) := h.box_new 34 (sgC (A, c) x)
theorem Hp.sgbox_at {W w : World} {l : List Itm} {i g : Nat} {v : Option Addr × Nat} {x : Sg} (h : Hp W l w) (hi : l[i]? = some (sgbox g v x)) :
    w.cell? ⟨g, 0, none⟩ = some (.string (bs x.t)) ∧ w.cell? ⟨g, 1, none⟩ = some (.slice v.1 x.s.length v.2) ∧ w.cell? ⟨g, 2, none⟩ = some (.int .i64 x.c) ∧ w.cell? ⟨g, 3, none⟩ = some (.int .i64 x.w) ∧ g < w.heap.size :=
  ⟨(h.box_at hi (j := 0) rfl).1, (h.box_at hi (j := 1) rfl).1, (h.box_at hi (j := 2) rfl).1, (h.box_at hi (j := 3) rfl).1, (h.box_at hi (j := 0) rfl).2.2⟩
/-- A box of an orthography. -/
def oC (nm : List UInt8) (A : Option Addr) (n c : Nat) : List Value := [.string (bs nm), .slice A n c]
def obox (g : Nat) (nm : List UInt8) (A : Option Addr) (n c : Nat) : Itm := box 25 g (oC nm A n c)
theorem Hp.obox_new {W w : World} {l : List Itm} (h : Hp W l w) (nm : List UInt8) (A : Option Addr) (n c : Nat) : Hp W (obox w.heap.size nm A n c :: l) (w.alloc (.cells #[.string (bs nm), .slice A n c] 25)) := h.box_new 25 (oC nm A n c)
theorem Hp.obox_at {W w : World} {l : List Itm} {i g n c : Nat} {nm : List UInt8} {A : Option Addr} (h : Hp W l w) (hi : l[i]? = some (obox g nm A n c)) :
    w.cell? ⟨g, 0, none⟩ = some (.string (bs nm)) ∧ w.cell? ⟨g, 1, none⟩ = some (.slice A n c) ∧ g < w.heap.size :=
  ⟨(h.box_at hi (j := 0) rfl).1, (h.box_at hi (j := 1) rfl).1, (h.box_at hi (j := 0) rfl).2.2⟩
/-- A row grows by what lies in a row of one element of another row: the address may begin anywhere. -/
theorem run_app56 {W w : World} {l : List Itm} {i : Nat} {it : Itm} (h : Hp W l w) (hi : l[i]? = some it) {t ty : TypeId} {z : Value} {bytes : Nat} (ht : Tryz.prog.underlying t = some (.slice it.e))
    (hinf : (Tryz.prog.info? it.e).map (fun i => (i.zero, i.size, i.bytes)) = some (some z, it.size, bytes)) (hzs : z.cells.size = it.size) (hsz : 0 < it.size) (hby : bytes ≤ 60)
    {A : Option Addr} {c : Nat} (hv : it.v = .slice A it.n c) {b : Nat} (news : List Value) (hl : news.length = it.size) (hnews : ∀ (j : Nat) u, news[j]? = some u → w.cell? ⟨b, j, none⟩ = some u) (h1 : ∀ u ∈ news, u.oneCell' = true) (hn : it.n ≤ 2000000000000) :
    ∃ g cap w', (Builtin.append_ #[t, t] ty #[.slice A it.n c, .slice (some ⟨b, 0, none⟩) 1 1]).run Tryz.prog w = .ok (.slice (some ⟨g, 0, none⟩) (it.n + 1) cap) w' ∧
      Hp W (l.set i { it with v := .slice (some ⟨g, 0, none⟩) (it.n + 1) cap, n := it.n + 1, xs := it.xs ++ news }) w' ∧ w.grownBy w' it.v.ownBlock := by
  obtain ⟨i0, hi0, hz0, hz1, hz2⟩ := info_parts hinf
  obtain ⟨g, cap, w', hr, ho, hg, hat, _⟩ := run_append_lies (P := Tryz.prog) w t ty W.heap.size it.e i0 z it.size bytes ht hi0 hz0 hz1 hz2 hzs hsz (.slice A it.n c) it.n it.xs (by rw [← hv]; exact h.own i it hi) ⟨b, 0, none⟩ 1 1 news (by rw [hl, Nat.one_mul])
    (fun j u hu => by
      have e : (⟨b, 0, none⟩ : Addr).add j = ⟨b, j, none⟩ := by unfold Addr.add; split <;> simp_all
      rw [e]; exact hnews j u hu) h1 (by omega) (by unfold maxLen; omega) (by
        have := Nat.mul_le_mul (show it.n + 1 ≤ 2000000000001 by omega) hby
        omega) h.below.size _ rfl
  refine ⟨g, cap, w', hr, ?_, by rw [hv]; exact hg⟩
  refine h.upd hi _ (by rw [hv]; exact hg) ho (fun k hk => ?_)
  simp [Value.ownBlock] at hk
  subst hk
  rcases hat with e | e
  · exact .inl (by rw [hv]; exact e)
  · exact .inr (by omega)
/-- A row grows by a sign. -/
theorem run_app_sg {W w : World} {l : List Itm} {i : Nat} {A : Option Addr} {n c : Nat} {vs : List (Option Addr × Nat)} {L : List Sg} (h : Hp W l w) (hi : l[i]? = some (sgv A n c vs L)) (hvs : vs.length = L.length) (ty : TypeId) {b : Nat} (v : Option Addr × Nat) (x : Sg)
    (hb : ∀ (j : Nat) u, (sgC v x)[j]? = some u → w.cell? ⟨b, j, none⟩ = some u) (hn : n ≤ 2000000000000) :
    ∃ g cap w', (Builtin.append_ #[23, 23] ty #[.slice A n c, .slice (some ⟨b, 0, none⟩) 1 1]).run Tryz.prog w = .ok (.slice (some ⟨g, 0, none⟩) (n + 1) cap) w' ∧
      Hp W (l.set i (sgv (some ⟨g, 0, none⟩) (n + 1) cap (vs ++ [v]) (L ++ [x]))) w' ∧ w.grownBy w' (Value.slice A n c).ownBlock := by
  have := run_app56 h hi (t := 23) (ty := ty) Tryz.underlying23 sg_info rfl (show 0 < 4 by decide) (show 56 ≤ 60 by decide) (A := A) (c := c) rfl (b := b) (sgC v x) rfl hb (sgC_one v x) hn
  simpa [sgv, sgsC_snoc _ _ hvs] using this
theorem Hp.sg_len {W w : World} {l : List Itm} {i n c : Nat} {A : Option Addr} {vs : List (Option Addr × Nat)} {L : List Sg} (h : Hp W l w) (hi : l[i]? = some (sgv A n c vs L)) (hvs : vs.length = L.length) : L.length = n := by
  have := (h.own i _ hi).1
  rw [show (sgv A n c vs L).xs = sgsC vs L from rfl, sgsC_len hvs] at this
  have e : (sgv A n c vs L).n * (sgv A n c vs L).size = n * 4 := rfl
  omega
/-- Each sign's sounds are a row of the pool. -/
def Pool (pool : List Itm) (vs : List (Option Addr × Nat)) (L : List Sg) : Prop := ∀ (j : Nat) v x, vs[j]? = some v → L[j]? = some x → ∃ k : Nat, pool[k]? = some (snds v.1 x.s.length v.2 x.s)
theorem Pool.nil (pool : List Itm) : Pool pool [] [] := fun j v x h _ => by simp at h
theorem Pool.more {pool : List Itm} {vs : List (Option Addr × Nat)} {L : List Sg} (h : Pool pool vs L) (hl : vs.length = L.length) (A : Option Addr) (c : Nat) (x : Sg) : Pool (snds A x.s.length c x.s :: pool) (vs ++ [(A, c)]) (L ++ [x]) := by
  intro j v y hv hy
  rcases get_snoc hv with ⟨h1, h2⟩ | ⟨h1, h2⟩ <;> rcases get_snoc hy with ⟨h3, h4⟩ | ⟨h3, h4⟩
  · obtain ⟨k, hk⟩ := h j v y h2 h4
    exact ⟨k + 1, hk⟩
  · omega
  · omega
  · subst h2; subst h4; exact ⟨0, rfl⟩
theorem sg_in {W w : World} {l : List Itm} {i n c d : Nat} {A : Option Addr} {vs : List (Option Addr × Nat)} {L : List Sg} (h : Hp W l w) (hi : l[i]? = some (sgv A n c vs L)) (hl : vs.length = L.length)
    (hp : ∀ (j : Nat) v x, vs[j]? = some v → L[j]? = some x → CellsIn w v.1 (sndsC x.s)) : SgnIn w A L := by
  intro h0
  have hc := h.cells hi (A := A) (c := c) rfl
  obtain ⟨b, off, e, hlt, hcell⟩ := hc (by show 0 < (sgsC vs L).length; rw [sgsC_len hl]; omega)
  refine ⟨b, off, e, hlt, fun j x hx => ?_⟩
  have hj := (List.getElem?_eq_some_iff.1 hx).1
  obtain ⟨v, hv⟩ : ∃ v, vs[j]? = some v := ⟨_, List.getElem?_eq_getElem (by omega)⟩
  obtain ⟨a1, a2, a3, a4⟩ := sgsC_at hv hx
  refine ⟨v.1, v.2, hcell _ _ a1, ?_, ?_, ?_, hp j v x hv hx⟩
  · rw [Nat.add_assoc]; exact hcell _ _ a2
  · rw [Nat.add_assoc]; exact hcell _ _ a3
  · rw [Nat.add_assoc]; exact hcell _ _ a4
theorem sg_pool {W w : World} {pool : List Itm} {n c : Nat} {A : Option Addr} {vs : List (Option Addr × Nat)} {L : List Sg} (h : Hp W (sgv A n c vs L :: pool) w) (hl : vs.length = L.length) (hp : Pool pool vs L) : SgnIn w A L :=
  sg_in (i := 0) (d := 0) h rfl hl (fun j v x hv hx => by
    obtain ⟨k, hk⟩ := hp j v x hv hx
    exact h.cells (i := k + 1) (it := snds v.1 x.s.length v.2 x.s) hk rfl)
/-- What a reading of an orthography answers. -/
def OPost (nm : List UInt8) (L : List Sg) (tail : List Value) (w : World) (e : Ending) (w' : World) : Prop :=
  ∃ A n c vs pool, e = .returned (.tuple (Value.agg #[.string (bs nm), .slice A n c] :: tail).toArray) ∧ L.length = n ∧ vs.length = L.length ∧ Pool pool vs L ∧ Hp w (sgv A n c vs L :: pool) w'
/-- The same, of an orthography alone. -/
def OnlyO (nm : List UInt8) (L : List Sg) (w : World) (e : Ending) (w' : World) : Prop :=
  ∃ A n c vs pool, e = .returned (.agg #[.string (bs nm), .slice A n c]) ∧ L.length = n ∧ vs.length = L.length ∧ Pool pool vs L ∧ Hp w (sgv A n c vs L :: pool) w'
end Go.Proofs.YtfgnekbkcmpdiaaGreatDoor
