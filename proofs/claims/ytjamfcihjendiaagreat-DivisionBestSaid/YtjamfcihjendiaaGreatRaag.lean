/- Several texts in one: Ub, Ob, Oc, Od. -/
import Derived.Test.YtjamfcihjendiaaGreatRaaf
import Derived.Test.YtjamfcihjendiaaGreatRaab
import Derived.Test.YtjamfcihjendiaaGreatRaae
namespace Go.Proofs.YtjamfcihjendiaaGreat
open Go.RowKit
set_option linter.unusedVariables false
set_option linter.unusedSimpArgs false
set_option maxRecDepth 100000

def sndC (x : Snd) : List Value := [.int .i64 x.k, .int .i64 x.q, .string (bs x.t)]
def sndsC (L : List Snd) : List Value := L.flatMap sndC
theorem sndsC_cat (L M : List Snd) : sndsC (L ++ M) = sndsC L ++ sndsC M := by unfold sndsC; rw [List.flatMap_append]
theorem sndsC_snoc (L : List Snd) (x : Snd) : sndsC (L ++ [x]) = sndsC L ++ sndC x := by rw [sndsC_cat]; simp [sndsC]
theorem sndsC_len : ∀ L : List Snd, (sndsC L).length = L.length * 3
  | [] => rfl
  | x :: r => by
    have := sndsC_len r
    unfold sndsC at *
    rw [List.flatMap_cons, List.length_append, this, List.length_cons]
    show 3 + _ = _
    omega
theorem sndsC_at : ∀ {L : List Snd} {j : Nat} {x : Snd}, L[j]? = some x → (sndsC L)[j * 3]? = some (.int .i64 x.k) ∧ (sndsC L)[j * 3 + 1]? = some (.int .i64 x.q) ∧ (sndsC L)[j * 3 + 2]? = some (.string (bs x.t))
  | [], j, x, h => by simp at h
  | y :: r, 0, x, h => by
    have e : y = x := by simpa using h
    subst e
    exact ⟨rfl, rfl, rfl⟩
  | y :: r, j + 1, x, h => by
    have ih := @sndsC_at r j x (by simpa using h)
    have e : sndsC (y :: r) = sndC y ++ sndsC r := by unfold sndsC; rw [List.flatMap_cons]
    have hl : (sndC y).length = 3 := rfl
    rw [e]
    refine ⟨?_, ?_, ?_⟩
    · rw [List.getElem?_append_right (by omega), hl, show (j + 1) * 3 - 3 = j * 3 by omega]; exact ih.1
    · rw [List.getElem?_append_right (by omega), hl, show (j + 1) * 3 + 1 - 3 = j * 3 + 1 by omega]; exact ih.2.1
    · rw [List.getElem?_append_right (by omega), hl, show (j + 1) * 3 + 2 - 3 = j * 3 + 2 by omega]; exact ih.2.2
theorem sndC_one (x : Snd) : ∀ u ∈ sndC x, u.oneCell' = true := by
  intro u hu
  unfold sndC at hu
  simp at hu
  rcases hu with rfl | rfl | rfl <;> rfl
theorem snd_info : (Tryz.prog.info? 96).map (fun i => (i.zero, i.size, i.bytes)) = some (some (.agg #[.int .i64 0, .int .i64 0, .string ⟨#[]⟩]), 3, 32) := by kernel_rfl
def snds (A : Option Addr) (n c : Nat) (L : List Snd) : Itm := ⟨96, 3, .slice A n c, n, sndsC L⟩
theorem CellsIn.snd {w : World} {A : Option Addr} {L : List Snd} (h : CellsIn w A (sndsC L)) {j : Nat} {x : Snd} (hx : L[j]? = some x) :
    ∃ b off, A = some ⟨b, off, none⟩ ∧ b < w.heap.size ∧ w.cell? ⟨b, off + j * 3, none⟩ = some (.int .i64 x.k) ∧ w.cell? ⟨b, off + j * 3 + 1, none⟩ = some (.int .i64 x.q) ∧ w.cell? ⟨b, off + j * 3 + 2, none⟩ = some (.string (bs x.t)) := by
  have hj := (List.getElem?_eq_some_iff.1 hx).1
  obtain ⟨b, off, e, hlt, hc⟩ := h (by rw [sndsC_len]; omega)
  obtain ⟨h1, h2, h3⟩ := sndsC_at hx
  exact ⟨b, off, e, hlt, hc _ _ h1, by rw [Nat.add_assoc]; exact hc _ _ h2, by rw [Nat.add_assoc]; exact hc _ _ h3⟩
theorem run_app_snd {W w : World} {l : List Itm} {i : Nat} {A : Option Addr} {n c : Nat} {L : List Snd} (h : Hp W l w) (hi : l[i]? = some (snds A n c L)) (ty : TypeId) {b : Nat} (x : Snd)
    (hb : ∀ (j : Nat) u, (sndC x)[j]? = some u → w.cell? ⟨b, j, none⟩ = some u) (hn : n ≤ 4000000000000) :
    ∃ g cap w', (Builtin.append_ #[62, 62] ty #[.slice A n c, .slice (some ⟨b, 0, none⟩) 1 1]).run Tryz.prog w = .ok (.slice (some ⟨g, 0, none⟩) (n + 1) cap) w' ∧
      Hp W (l.set i (snds (some ⟨g, 0, none⟩) (n + 1) cap (L ++ [x]))) w' ∧ w.grownBy w' (Value.slice A n c).ownBlock := by
  have := run_app h hi (t := 62) (ty := ty) Tryz.underlying62 snd_info rfl (show 0 < 3 by decide) (show 32 ≤ 32 by decide) (A := A) (c := c) rfl (b := b) (sndC x) rfl hb (sndC_one x) hn
  simpa [snds, sndsC_snoc] using this
def sbox (g : Nat) (x : Snd) : Itm := box 96 g (sndC x)
theorem Hp.sbox_new {W w : World} {l : List Itm} (h : Hp W l w) (x : Snd) : Hp W (sbox w.heap.size x :: l) (w.alloc (.cells #[.int .i64 x.k, .int .i64 x.q, .string (bs x.t)] 96)) := h.box_new 96 (sndC x)
theorem Hp.sbox_at {W w : World} {l : List Itm} {i g : Nat} {x : Snd} (h : Hp W l w) (hi : l[i]? = some (sbox g x)) :
    w.cell? ⟨g, 0, none⟩ = some (.int .i64 x.k) ∧ w.cell? ⟨g, 1, none⟩ = some (.int .i64 x.q) ∧ w.cell? ⟨g, 2, none⟩ = some (.string (bs x.t)) ∧ g < w.heap.size :=
  ⟨(h.box_at hi (j := 0) rfl).1, (h.box_at hi (j := 1) rfl).1, (h.box_at hi (j := 2) rfl).1, (h.box_at hi (j := 0) rfl).2.2⟩
theorem box_cells (w : World) (x : Snd) : (w.alloc (.cells #[.int .i64 x.k, .int .i64 x.q, .string (bs x.t)] 96)).cell? ⟨w.heap.size, 0, none⟩ = some (.int .i64 x.k) ∧ (w.alloc (.cells #[.int .i64 x.k, .int .i64 x.q, .string (bs x.t)] 96)).cell? ⟨w.heap.size, 1, none⟩ = some (.int .i64 x.q) ∧ (w.alloc (.cells #[.int .i64 x.k, .int .i64 x.q, .string (bs x.t)] 96)).cell? ⟨w.heap.size, 2, none⟩ = some (.string (bs x.t)) := by
  refine ⟨?_, ?_, ?_⟩ <;> (rw [World.cell?_alloc_mark]; rfl)
theorem take_snoc {α : Type} {L : List α} {k : Nat} {x : α} (h : L[k]? = some x) : L.take (k + 1) = L.take k ++ [x] := by
  obtain ⟨hk, e⟩ := List.getElem?_eq_some_iff.1 h
  rw [List.take_succ_eq_append_getElem hk, e]
theorem take_all {α : Type} {L : List α} {n : Nat} (h : L.length = n) : L.take n = L := List.take_of_length_le (by omega)
theorem get_at {α : Type} {L : List α} {k : Nat} (h : k < L.length) : ∃ x, L[k]? = some x := ⟨L[k], List.getElem?_eq_getElem h⟩

def SRows (w : World) (A : Option Addr) (R : List (List Snd)) : Prop :=
  0 < R.length → ∃ b off, A = some ⟨b, off, none⟩ ∧ b < w.heap.size ∧ ∀ (j : Nat) row, R[j]? = some row →
    ∃ Aj cj, w.cell? ⟨b, off + j, none⟩ = some (.slice Aj row.length cj) ∧ row.length ≤ cj ∧ row.length ≤ 17592186044416 ∧ CellsIn w Aj (sndsC row)
theorem SRows.below {w w' : World} {A : Option Addr} {R : List (List Snd)} (h : SRows w A R) (hb : Below w.heap.size w w') : SRows w' A R := by
  intro h0
  obtain ⟨b, off, e, hlt, hc⟩ := h h0
  refine ⟨b, off, e, Nat.lt_of_lt_of_le hlt hb.size, fun j row hr => ?_⟩
  obtain ⟨Aj, cj, h1, h2, h3, h4⟩ := hc j row hr
  exact ⟨Aj, cj, (hb.cell (p := ⟨b, off + j, none⟩) hlt).trans h1, h2, h3, h4.below hb⟩
end Go.Proofs.YtjamfcihjendiaaGreat

namespace Go.Proofs.YtjamfcihjendiaaGreat
open Go.RowKit
set_option linter.unusedVariables false
set_option linter.unusedSimpArgs false
set_option maxRecDepth 100000

def sgC (v : Option Addr × Nat) (x : Sg) : List Value := [.string (bs x.t), .slice v.1 x.s.length v.2, .int .i64 x.c, .int .i64 x.w]
def sgsC : List (Option Addr × Nat) → List Sg → List Value
  | v :: vs, x :: L => sgC v x ++ sgsC vs L
  | _, _ => []
theorem sgsC_cons (v : Option Addr × Nat) (vs : List (Option Addr × Nat)) (x : Sg) (L : List Sg) : sgsC (v :: vs) (x :: L) = sgC v x ++ sgsC vs L := rfl
theorem sgsC_len : ∀ {vs : List (Option Addr × Nat)} {L : List Sg}, vs.length = L.length → (sgsC vs L).length = L.length * 4
  | [], [], _ => rfl
  | [], _ :: _, h => by cases h
  | _ :: _, [], h => by cases h
  | v :: vs, x :: L, h => by
    have ih := @sgsC_len vs L (by simpa using h)
    rw [sgsC_cons, List.length_append, ih, List.length_cons]
    show 4 + _ = _
    omega
theorem sgsC_snoc : ∀ {vs : List (Option Addr × Nat)} {L : List Sg} (v : Option Addr × Nat) (x : Sg), vs.length = L.length → sgsC (vs ++ [v]) (L ++ [x]) = sgsC vs L ++ sgC v x
  | [], [], v, x, _ => by simp [sgsC]
  | [], _ :: _, _, _, h => by cases h
  | _ :: _, [], _, _, h => by cases h
  | u :: vs, y :: L, v, x, h => by
    have ih := @sgsC_snoc vs L v x (by simpa using h)
    rw [List.cons_append, List.cons_append, sgsC_cons, sgsC_cons, ih, List.append_assoc]
theorem sgsC_at : ∀ {vs : List (Option Addr × Nat)} {L : List Sg} {j : Nat} {v : Option Addr × Nat} {x : Sg}, vs[j]? = some v → L[j]? = some x → (sgsC vs L)[j * 4]? = some (.string (bs x.t)) ∧ (sgsC vs L)[j * 4 + 1]? = some (.slice v.1 x.s.length v.2) ∧ (sgsC vs L)[j * 4 + 2]? = some (.int .i64 x.c) ∧ (sgsC vs L)[j * 4 + 3]? = some (.int .i64 x.w)
  | [], _, j, v, x, h, _ => by simp at h
  | _ :: _, [], j, v, x, _, h => by simp at h
  | u :: vs, y :: L, 0, v, x, h, h2 => by
    have e : u = v := by simpa using h
    have e2 : y = x := by simpa using h2
    subst e; subst e2
    exact ⟨rfl, rfl, rfl, rfl⟩
  | u :: vs, y :: L, j + 1, v, x, h, h2 => by
    have ih := @sgsC_at vs L j v x (by simpa using h) (by simpa using h2)
    have hl : (sgC u y).length = 4 := rfl
    rw [sgsC_cons]
    refine ⟨?_, ?_, ?_, ?_⟩
    · rw [List.getElem?_append_right (by omega), hl, show (j + 1) * 4 - 4 = j * 4 by omega]; exact ih.1
    · rw [List.getElem?_append_right (by omega), hl, show (j + 1) * 4 + 1 - 4 = j * 4 + 1 by omega]; exact ih.2.1
    · rw [List.getElem?_append_right (by omega), hl, show (j + 1) * 4 + 2 - 4 = j * 4 + 2 by omega]; exact ih.2.2.1
    · rw [List.getElem?_append_right (by omega), hl, show (j + 1) * 4 + 3 - 4 = j * 4 + 3 by omega]; exact ih.2.2.2
theorem sgC_one (v : Option Addr × Nat) (x : Sg) : ∀ u ∈ sgC v x, u.oneCell' = true := by
  intro u hu
  unfold sgC at hu
  simp at hu
  rcases hu with rfl | rfl | rfl | rfl <;> rfl
def SgnIn (w : World) (A : Option Addr) (L : List Sg) : Prop :=
  0 < L.length → ∃ b off, A = some ⟨b, off, none⟩ ∧ b < w.heap.size ∧ ∀ (j : Nat) x, L[j]? = some x →
    ∃ Aj cj, w.cell? ⟨b, off + j * 4, none⟩ = some (.string (bs x.t)) ∧ w.cell? ⟨b, off + j * 4 + 1, none⟩ = some (.slice Aj x.s.length cj) ∧ w.cell? ⟨b, off + j * 4 + 2, none⟩ = some (.int .i64 x.c) ∧ w.cell? ⟨b, off + j * 4 + 3, none⟩ = some (.int .i64 x.w) ∧ CellsIn w Aj (sndsC x.s)
theorem SgnIn.below {w w' : World} {A : Option Addr} {L : List Sg} (h : SgnIn w A L) (hb : Below w.heap.size w w') : SgnIn w' A L := by
  intro h0
  obtain ⟨b, off, e, hlt, hc⟩ := h h0
  refine ⟨b, off, e, Nat.lt_of_lt_of_le hlt hb.size, fun j x hx => ?_⟩
  obtain ⟨Aj, cj, h1, h2, h3, h4, h5⟩ := hc j x hx
  exact ⟨Aj, cj, (hb.cell (p := ⟨b, off + j * 4, none⟩) hlt).trans h1, (hb.cell (p := ⟨b, off + j * 4 + 1, none⟩) hlt).trans h2, (hb.cell (p := ⟨b, off + j * 4 + 2, none⟩) hlt).trans h3, (hb.cell (p := ⟨b, off + j * 4 + 3, none⟩) hlt).trans h4, h5.below hb⟩
theorem SgnIn.at {w : World} {A : Option Addr} {L : List Sg} (h : SgnIn w A L) {j : Nat} {x : Sg} (hx : L[j]? = some x) : ∃ b off Aj cj, A = some ⟨b, off, none⟩ ∧ b < w.heap.size ∧ w.cell? ⟨b, off + j * 4, none⟩ = some (.string (bs x.t)) ∧ w.cell? ⟨b, off + j * 4 + 1, none⟩ = some (.slice Aj x.s.length cj) ∧ w.cell? ⟨b, off + j * 4 + 2, none⟩ = some (.int .i64 x.c) ∧ w.cell? ⟨b, off + j * 4 + 3, none⟩ = some (.int .i64 x.w) ∧ CellsIn w Aj (sndsC x.s) := by
  obtain ⟨b, off, e, hlt, hc⟩ := h (by have := (List.getElem?_eq_some_iff.1 hx).1; omega)
  obtain ⟨Aj, cj, h1, h2, h3, h4, h5⟩ := hc j x hx
  exact ⟨b, off, Aj, cj, e, hlt, h1, h2, h3, h4, h5⟩
theorem SgnIn.take {w : World} {A : Option Addr} {L : List Sg} (h : SgnIn w A L) (k : Nat) : SgnIn w A (L.take k) := by
  intro h0
  obtain ⟨b, off, e, hlt, hc⟩ := h (by rw [List.length_take] at h0; omega)
  refine ⟨b, off, e, hlt, fun j x hx => hc j x ?_⟩
  have hj := (List.getElem?_eq_some_iff.1 hx).1
  rw [List.length_take] at hj
  rwa [List.getElem?_take_of_lt (by omega)] at hx
theorem sg_info : (Tryz.prog.info? 64).map (fun i => (i.zero, i.size, i.bytes)) = some (some (.agg #[.string ⟨#[]⟩, .slice none 0 0, .int .i64 0, .int .i64 0]), 4, 56) := by kernel_rfl
def sgv (A : Option Addr) (n c : Nat) (vs : List (Option Addr × Nat)) (L : List Sg) : Itm := ⟨64, 4, .slice A n c, n, sgsC vs L⟩
def sgbox (g : Nat) (v : Option Addr × Nat) (x : Sg) : Itm := box 64 g (sgC v x)
theorem Hp.sgbox_new {W w : World} {l : List Itm} (h : Hp W l w) (A : Option Addr) (c : Nat) (x : Sg) : Hp W (sgbox w.heap.size (A, c) x :: l) (w.alloc (.cells #[.string (bs x.t), .slice A x.s.length c, .int .i64 x.c, .int .i64 x.w] 64)) := h.box_new 64 (sgC (A, c) x)
theorem Hp.sgbox_at {W w : World} {l : List Itm} {i g : Nat} {v : Option Addr × Nat} {x : Sg} (h : Hp W l w) (hi : l[i]? = some (sgbox g v x)) :
    w.cell? ⟨g, 0, none⟩ = some (.string (bs x.t)) ∧ w.cell? ⟨g, 1, none⟩ = some (.slice v.1 x.s.length v.2) ∧ w.cell? ⟨g, 2, none⟩ = some (.int .i64 x.c) ∧ w.cell? ⟨g, 3, none⟩ = some (.int .i64 x.w) ∧ g < w.heap.size :=
  ⟨(h.box_at hi (j := 0) rfl).1, (h.box_at hi (j := 1) rfl).1, (h.box_at hi (j := 2) rfl).1, (h.box_at hi (j := 3) rfl).1, (h.box_at hi (j := 0) rfl).2.2⟩
def oC (nm : List UInt8) (A : Option Addr) (n c : Nat) : List Value := [.string (bs nm), .slice A n c]
def obox (g : Nat) (nm : List UInt8) (A : Option Addr) (n c : Nat) : Itm := box 24 g (oC nm A n c)
theorem Hp.obox_new {W w : World} {l : List Itm} (h : Hp W l w) (nm : List UInt8) (A : Option Addr) (n c : Nat) : Hp W (obox w.heap.size nm A n c :: l) (w.alloc (.cells #[.string (bs nm), .slice A n c] 24)) := h.box_new 24 (oC nm A n c)
theorem Hp.obox_at {W w : World} {l : List Itm} {i g n c : Nat} {nm : List UInt8} {A : Option Addr} (h : Hp W l w) (hi : l[i]? = some (obox g nm A n c)) :
    w.cell? ⟨g, 0, none⟩ = some (.string (bs nm)) ∧ w.cell? ⟨g, 1, none⟩ = some (.slice A n c) ∧ g < w.heap.size :=
  ⟨(h.box_at hi (j := 0) rfl).1, (h.box_at hi (j := 1) rfl).1, (h.box_at hi (j := 0) rfl).2.2⟩
theorem run_app56 {W w : World} {l : List Itm} {i : Nat} {it : Itm} (h : Hp W l w) (hi : l[i]? = some it) {t ty : TypeId} {z : Value} {bytes : Nat} (ht : Tryz.prog.underlying t = some (.slice it.e))
    (hinf : (Tryz.prog.info? it.e).map (fun i => (i.zero, i.size, i.bytes)) = some (some z, it.size, bytes)) (hzs : z.cells.size = it.size) (hsz : 0 < it.size) (hby : bytes ≤ 60)
    {A : Option Addr} {c : Nat} (hv : it.v = .slice A it.n c) {b : Nat} (news : List Value) (hl : news.length = it.size) (hnews : ∀ (j : Nat) u, news[j]? = some u → w.cell? ⟨b, j, none⟩ = some u) (h1 : ∀ u ∈ news, u.oneCell' = true) (hn : it.n ≤ 2000000000000) :
    ∃ g cap w', (Builtin.append_ #[t, t] ty #[.slice A it.n c, .slice (some ⟨b, 0, none⟩) 1 1]).run Tryz.prog w = .ok (.slice (some ⟨g, 0, none⟩) (it.n + 1) cap) w' ∧
      Hp W (l.set i { it with v := .slice (some ⟨g, 0, none⟩) (it.n + 1) cap, n := it.n + 1, xs := it.xs ++ news }) w' ∧ w.grownBy w' it.v.ownBlock := by
  obtain ⟨i0, hi0, hz0, hz1, hz2⟩ := info_parts hinf
  obtain ⟨g, cap, w', hr, ho, hg, hat, _⟩ := run_append_lies (P := Tryz.prog) w t ty W.heap.size it.e i0 z it.size bytes ht hi0 hz0 hz1 hz2 hzs hsz (.slice A it.n c) it.n it.xs (by rw [← hv]; exact h.own i it hi) ⟨b, 0, none⟩ 1 1 news (by rw [hl, Nat.one_mul])
    (fun j u hu => by
      have e : (⟨b, 0, none⟩ : Addr).add j = ⟨b, j, none⟩ := by unfold Addr.add; split <;> simp_all
      rw [e]; exact hnews j u hu) h1 (by omega) (by unfold maxLen; omega) (by
        have := Nat.mul_le_mul (show it.n + 1 ≤ 2000000000001 by omega) hby
        omega) h.below.size _ rfl
  refine ⟨g, cap, w', hr, ?_, by rw [hv]; exact hg⟩
  refine h.upd hi _ (by rw [hv]; exact hg) ho (fun k hk => ?_)
  simp [Value.ownBlock] at hk
  subst hk
  rcases hat with e | e
  · exact .inl (by rw [hv]; exact e)
  · exact .inr (by omega)
theorem run_app_sg {W w : World} {l : List Itm} {i : Nat} {A : Option Addr} {n c : Nat} {vs : List (Option Addr × Nat)} {L : List Sg} (h : Hp W l w) (hi : l[i]? = some (sgv A n c vs L)) (hvs : vs.length = L.length) (ty : TypeId) {b : Nat} (v : Option Addr × Nat) (x : Sg)
    (hb : ∀ (j : Nat) u, (sgC v x)[j]? = some u → w.cell? ⟨b, j, none⟩ = some u) (hn : n ≤ 2000000000000) :
    ∃ g cap w', (Builtin.append_ #[22, 22] ty #[.slice A n c, .slice (some ⟨b, 0, none⟩) 1 1]).run Tryz.prog w = .ok (.slice (some ⟨g, 0, none⟩) (n + 1) cap) w' ∧
      Hp W (l.set i (sgv (some ⟨g, 0, none⟩) (n + 1) cap (vs ++ [v]) (L ++ [x]))) w' ∧ w.grownBy w' (Value.slice A n c).ownBlock := by
  have := run_app56 h hi (t := 22) (ty := ty) Tryz.underlying22 sg_info rfl (show 0 < 4 by decide) (show 56 ≤ 60 by decide) (A := A) (c := c) rfl (b := b) (sgC v x) rfl hb (sgC_one v x) hn
  simpa [sgv, sgsC_snoc _ _ hvs] using this
def Pool (pool : List Itm) (vs : List (Option Addr × Nat)) (L : List Sg) : Prop := ∀ (j : Nat) v x, vs[j]? = some v → L[j]? = some x → ∃ k : Nat, pool[k]? = some (snds v.1 x.s.length v.2 x.s)
theorem Pool.nil (pool : List Itm) : Pool pool [] [] := fun j v x h _ => by simp at h
theorem Pool.more {pool : List Itm} {vs : List (Option Addr × Nat)} {L : List Sg} (h : Pool pool vs L) (hl : vs.length = L.length) (A : Option Addr) (c : Nat) (x : Sg) : Pool (snds A x.s.length c x.s :: pool) (vs ++ [(A, c)]) (L ++ [x]) := by
  intro j v y hv hy
  rcases get_snoc hv with ⟨h1, h2⟩ | ⟨h1, h2⟩ <;> rcases get_snoc hy with ⟨h3, h4⟩ | ⟨h3, h4⟩
  · obtain ⟨k, hk⟩ := h j v y h2 h4
    exact ⟨k + 1, hk⟩
  · omega
  · omega
  · subst h2; subst h4; exact ⟨0, rfl⟩
theorem sg_in {W w : World} {l : List Itm} {i n c d : Nat} {A : Option Addr} {vs : List (Option Addr × Nat)} {L : List Sg} (h : Hp W l w) (hi : l[i]? = some (sgv A n c vs L)) (hl : vs.length = L.length)
    (hp : ∀ (j : Nat) v x, vs[j]? = some v → L[j]? = some x → CellsIn w v.1 (sndsC x.s)) : SgnIn w A L := by
  intro h0
  have hc := h.cells hi (A := A) (c := c) rfl
  obtain ⟨b, off, e, hlt, hcell⟩ := hc (by show 0 < (sgsC vs L).length; rw [sgsC_len hl]; omega)
  refine ⟨b, off, e, hlt, fun j x hx => ?_⟩
  have hj := (List.getElem?_eq_some_iff.1 hx).1
  obtain ⟨v, hv⟩ : ∃ v, vs[j]? = some v := ⟨_, List.getElem?_eq_getElem (by omega)⟩
  obtain ⟨a1, a2, a3, a4⟩ := sgsC_at hv hx
  refine ⟨v.1, v.2, hcell _ _ a1, ?_, ?_, ?_, hp j v x hv hx⟩
  · rw [Nat.add_assoc]; exact hcell _ _ a2
  · rw [Nat.add_assoc]; exact hcell _ _ a3
  · rw [Nat.add_assoc]; exact hcell _ _ a4
theorem sg_pool {W w : World} {pool : List Itm} {n c : Nat} {A : Option Addr} {vs : List (Option Addr × Nat)} {L : List Sg} (h : Hp W (sgv A n c vs L :: pool) w) (hl : vs.length = L.length) (hp : Pool pool vs L) : SgnIn w A L :=
  sg_in (i := 0) (d := 0) h rfl hl (fun j v x hv hx => by
    obtain ⟨k, hk⟩ := hp j v x hv hx
    exact h.cells (i := k + 1) (it := snds v.1 x.s.length v.2 x.s) hk rfl)
def OPost (nm : List UInt8) (L : List Sg) (tail : List Value) (w : World) (e : Ending) (w' : World) : Prop :=
  ∃ A n c vs pool, e = .returned (.tuple (Value.agg #[.string (bs nm), .slice A n c] :: tail).toArray) ∧ L.length = n ∧ vs.length = L.length ∧ Pool pool vs L ∧ Hp w (sgv A n c vs L :: pool) w'
def OnlyO (nm : List UInt8) (L : List Sg) (w : World) (e : Ending) (w' : World) : Prop :=
  ∃ A n c vs pool, e = .returned (.agg #[.string (bs nm), .slice A n c]) ∧ L.length = n ∧ vs.length = L.length ∧ Pool pool vs L ∧ Hp w (sgv A n c vs L :: pool) w'
end Go.Proofs.YtjamfcihjendiaaGreat

namespace Go.Proofs.YtjamfcihjendiaaGreat
open Go.RowKit
set_option linter.unusedVariables false
set_option linter.unusedSimpArgs false
set_option maxRecDepth 100000

theorem toL (l : List UInt8) : (bs l).toList = l := by rw [ByteArray.toList_eq]; rfl
set_option maxHeartbeats 1000000 in
theorem whereWord_any (n : Int) (w : World) : Calls Tryz.prog 104 #[.int .i64 n] w fun e w' => e = .returned (.string (bs (wW n))) ∧ w = w' := by
  by_cases h0 : n = 0
  · subst h0
    go_enter Tryz.func104, Tryz.ntmps104
    go_wp2
    go_ret
    exact ⟨rfl, rfl⟩
  · have e0 : (n == 0) = false := by simpa using h0
    by_cases h1 : n = 1
    · subst h1
      go_enter Tryz.func104, Tryz.ntmps104
      go_wp2
      go_ret
      exact ⟨rfl, rfl⟩
    · have e1 : (n == 1) = false := by simpa using h1
      by_cases h2 : n = 2
      · subst h2
        go_enter Tryz.func104, Tryz.ntmps104
        go_wp2
        go_ret
        exact ⟨rfl, rfl⟩
      · have e2 : (n == 2) = false := by simpa using h2
        by_cases h3 : n = 3
        · subst h3
          go_enter Tryz.func104, Tryz.ntmps104
          go_wp2
          go_ret
          exact ⟨rfl, rfl⟩
        · have e3 : (n == 3) = false := by simpa using h3
          by_cases h4 : n = 4
          · subst h4
            go_enter Tryz.func104, Tryz.ntmps104
            go_wp2
            go_ret
            exact ⟨rfl, rfl⟩
          · have e4 : (n == 4) = false := by simpa using h4
            have HE := Lib.hid (show wW n = [] by unfold wW; rw [if_neg h0, if_neg h1, if_neg h2, if_neg h3, if_neg h4])
            clear h0 h1 h2 h3 h4
            go_enter Tryz.func104, Tryz.ntmps104
            go_wp2
            go_ret
            exact ⟨by rw [HE.out]; rfl, rfl⟩
theorem sameL_len {L M : List Snd} (h : L.length ≠ M.length) : sameL L M = false := by
  rw [Bool.eq_false_iff]; intro hs; exact h (by rw [sameL_is.1 hs])
theorem sameL_ne {L M : List Snd} {k : Nat} {x y : Snd} (hx : L[k]? = some x) (hy : M[k]? = some y) (h : x ≠ y) : sameL L M = false := by
  rw [Bool.eq_false_iff]; intro hs
  have := sameL_is.1 hs
  subst this
  rw [hx] at hy; exact h (Option.some.inj hy)
theorem takeQ {α : Type} {L M : List α} {k : Nat} {x : α} (h : L.take k = M.take k) (hx : L[k]? = some x) (hy : M[k]? = some x) : L.take (k + 1) = M.take (k + 1) := by rw [take_snoc hx, take_snoc hy, h]
set_option maxHeartbeats 4000000 in
theorem eqsnd_any (L M : List Snd) (n m c d : Nat) (A C : Option Addr) (w : World) (hl : L.length = n) (hm : M.length = m) (hn : n ≤ 1000000) (hm1 : m ≤ 17592186044416) (hA : CellsIn w A (sndsC L)) (hC : CellsIn w C (sndsC M)) :
    Calls Tryz.prog 106 #[.slice A n c, .slice C m d] w fun e w' => e = .returned (.bool (sameL L M)) ∧ ∃ q, w' = w.drewN q := by
  by_cases hlen : n = m
  · subst hlen
    have HL := Lib.hid hl
    have HM := Lib.hid hm
    have HA := Lib.hid hA
    have HC := Lib.hid hC
    clear hl hm hA hC
    go_enter Tryz.func106, Tryz.ntmps106
    go_wp2
    go_loopw [13] (fun i wr => ∃ k : Nat, k ≤ n ∧ i = .int .i64 k ∧ L.take k = M.take k ∧ ∃ q, wr = w.drewN q) (fun i _ => n - (intOf i).toNat)
    case atStart => exact ⟨0, Nat.zero_le _, rfl, rfl, 0, rfl⟩
    case round =>
      obtain ⟨k, hk, rfl, htk, q, rfl⟩ := hrel
      have HT := Lib.hid htk
      clear htk
      by_cases hlt : k < n
      · obtain ⟨x, hx⟩ := get_at (L := L) (k := k) (by have := HL.out; omega)
        obtain ⟨y, hy⟩ := get_at (L := M) (k := k) (by have := HM.out; omega)
        obtain ⟨b1, o1, rfl, hb1, x0, x1, x2⟩ := HA.out.snd hx
        obtain ⟨b2, o2, rfl, hb2, y0, y1, y2⟩ := HC.out.snd hy
        have HX := Lib.hid hx
        have HY := Lib.hid hy
        clear hx hy
        by_cases hxy : x = y
        · subst hxy
          have HN := Lib.hid (takeQ HT.out HX.out HY.out)
          go_wp2
          try go_quiet (fail)
          try go_wp2
          go_roundw
          case rel => exact ⟨k + 1, by omega, by go_num, HN.out, _, by first | rfl | exact World.drewN_drewN _ _ _⟩
          case measure => simp [intOf]; omega
        · have HN := Lib.hid (sameL_ne HX.out HY.out hxy)
          by_cases ek : x.k = y.k
          · by_cases eq : x.q = y.q
            · have et : x.t ≠ y.t := fun e => hxy (Snd.eq ek eq e)
              have e1 : (x.k == y.k) = true := by simpa using ek
              have e2 : (x.q == y.q) = true := by simpa using eq
              have e3 : ((bs x.t).toList == (bs y.t).toList) = false := by rw [toL, toL]; simpa using et
              clear hxy ek eq et
              go_wp2
              try go_quiet (fail)
              try go_wp2
              go_ret
              exact ⟨ret_bool HN.out.symm, _, by first | rfl | exact World.drewN_drewN _ _ _⟩
            · have e1 : (x.k == y.k) = true := by simpa using ek
              have e2 : (x.q == y.q) = false := by simpa using eq
              clear hxy ek eq
              go_wp2
              try go_quiet (fail)
              try go_wp2
              go_ret
              exact ⟨ret_bool HN.out.symm, _, by first | rfl | exact World.drewN_drewN _ _ _⟩
          · have e1 : (x.k == y.k) = false := by simpa using ek
            clear hxy ek
            go_wp2
            try go_quiet (fail)
            try go_wp2
            go_ret
            exact ⟨ret_bool HN.out.symm, _, by first | rfl | exact World.drewN_drewN _ _ _⟩
      · have HE := Lib.hid (show sameL L M = true from sameL_is.2 (by
          have := HT.out
          rwa [take_all (by have := HL.out; omega), take_all (by have := HM.out; omega)] at this))
        go_wp2
        go_ret
        exact ⟨ret_bool HE.out.symm, _, rfl⟩
  · have HE := Lib.hid (show sameL L M = false from sameL_len (by omega))
    have hne' : ((n : Int) != (m : Int)) = true := by simp; omega
    have hne : ((n : Int) == (m : Int)) = false := by simp; omega
    clear hlen hl hm hA hC
    go_enter Tryz.func106, Tryz.ntmps106
    go_wp2
    go_ret
    exact ⟨ret_bool HE.out.symm, 0, rfl⟩
end Go.Proofs.YtjamfcihjendiaaGreat

namespace Go.Proofs.YtjamfcihjendiaaGreat
open Go.RowKit
set_option linter.unusedVariables false
set_option linter.unusedSimpArgs false
set_option maxRecDepth 100000

theorem likeB_t {a b : Sg} (h : a.t ≠ b.t) : likeB a b = false := by rw [Bool.eq_false_iff, ne_eq, likeB_is]; exact fun e => h e.1
theorem likeB_w {a b : Sg} (h : a.w ≠ b.w) : likeB a b = false := by rw [Bool.eq_false_iff, ne_eq, likeB_is]; exact fun e => h e.2.1
theorem likeB_s {a b : Sg} (h : a.t = b.t) (h1 : a.w = b.w) : likeB a b = sameL a.s b.s := by
  unfold likeB; rw [h, h1]; simp
set_option maxHeartbeats 4000000 in
theorem alike_any (a b : Sg) (A B : Option Addr) (c d : Nat) (w : World) (hn : a.s.length ≤ 1000000) (hn1 : b.s.length ≤ 17592186044416) (hA : CellsIn w A (sndsC a.s)) (hB : CellsIn w B (sndsC b.s)) :
    Calls Tryz.prog 92 #[.agg #[.string (bs a.t), .slice A a.s.length c, .int .i64 a.c, .int .i64 a.w], .agg #[.string (bs b.t), .slice B b.s.length d, .int .i64 b.c, .int .i64 b.w]] w fun e w' => e = .returned (.bool (likeB a b)) ∧ Below w.heap.size w w' := by
  obtain ⟨g1, hg1⟩ : ∃ z, z = w.heap.size := ⟨_, rfl⟩
  obtain ⟨W1, hW1⟩ : ∃ z, z = w.alloc (.cells #[.string (bs a.t), .slice A a.s.length c, .int .i64 a.c, .int .i64 a.w] 64) := ⟨_, rfl⟩
  have V1 := Lib.hid (show Hp w [sgbox g1 (A, c) a] W1 by rw [hW1, hg1]; exact (Hp.start w).sgbox_new A c a)
  obtain ⟨g2, hg2⟩ : ∃ z, z = W1.heap.size := ⟨_, rfl⟩
  obtain ⟨W2, hW2⟩ : ∃ z, z = W1.alloc (.cells #[.string (bs b.t), .slice B b.s.length d, .int .i64 b.c, .int .i64 b.w] 64) := ⟨_, rfl⟩
  have V2 := Lib.hid (show Hp w [sgbox g2 (B, d) b, sgbox g1 (A, c) a] W2 by rw [hW2, hg2]; exact V1.out.sgbox_new B d b)
  have HW1 := Lib.hid hW1
  have HW2 := Lib.hid hW2
  have HG1 := Lib.hid hg1
  have HG2 := Lib.hid (show g2 = g1 + 1 by rw [hg2, hW1, hg1]; simp)
  have HA := Lib.hid (hA.below V2.out.below)
  have HB := Lib.hid (hB.below V2.out.below)
  obtain ⟨x0, x1, x2, x3, x4⟩ := V2.out.sgbox_at (i := 1) rfl
  obtain ⟨y0, y1, y2, y3, y4⟩ := V2.out.sgbox_at (i := 0) rfl
  dsimp only at x1 y1
  clear hW1 hW2 hg1 hg2 V1 hA hB
  go_enter Tryz.func92, Tryz.ntmps92
  go_upto_region 1 with fail
  rw [← HG1.out, ← HW1.out, ← HG2.out, ← HW2.out]
  by_cases ht : a.t = b.t
  · by_cases hw : a.w = b.w
    · have HE := Lib.hid (likeB_s ht hw)
      have e1 : ((bs a.t).toList == (bs b.t).toList) = true := by rw [toL, toL]; simpa using ht
      have e2 : (a.w == b.w) = true := by simpa using hw
      clear ht hw
      go_wp2_with fail
      refine (eqsnd_any a.s b.s _ _ c d A B _ rfl rfl hn hn1 HA.out HB.out).mono ?_
      rintro e w3 ⟨rfl, q, rfl⟩
      go_wp2_with fail
      go_ret
      exact ⟨ret_bool HE.out.symm, btwo V2.out.below (bdrewN _ _)⟩
    · have HE := Lib.hid (likeB_w hw)
      have e1 : ((bs a.t).toList == (bs b.t).toList) = true := by rw [toL, toL]; simpa using ht
      have e2 : (a.w == b.w) = false := by simpa using hw
      clear ht hw
      go_wp2_with fail
      go_ret
      exact ⟨ret_bool HE.out.symm, V2.out.below⟩
  · have HE := Lib.hid (likeB_t ht)
    have e1 : ((bs a.t).toList == (bs b.t).toList) = false := by rw [toL, toL]; simpa using ht
    clear ht
    go_wp2_with fail
    go_ret
    exact ⟨ret_bool HE.out.symm, V2.out.below⟩
def SgAt (w : World) (g : Nat) (A : Option Addr) (c : Nat) (x : Sg) : Prop := w.cell? ⟨g, 0, none⟩ = some (.string (bs x.t)) ∧ w.cell? ⟨g, 1, none⟩ = some (.slice A x.s.length c) ∧ w.cell? ⟨g, 2, none⟩ = some (.int .i64 x.c) ∧ w.cell? ⟨g, 3, none⟩ = some (.int .i64 x.w) ∧ g < w.heap.size ∧ CellsIn w A (sndsC x.s)
theorem SgAt.below {w w' : World} {g c : Nat} {A : Option Addr} {x : Sg} (h : SgAt w g A c x) (hb : Below w.heap.size w w') : SgAt w' g A c x := by
  obtain ⟨h0, h1, h2, h3, h4, h5⟩ := h
  exact ⟨(hb.cell (p := ⟨g, 0, none⟩) h4).trans h0, (hb.cell (p := ⟨g, 1, none⟩) h4).trans h1, (hb.cell (p := ⟨g, 2, none⟩) h4).trans h2, (hb.cell (p := ⟨g, 3, none⟩) h4).trans h3, Nat.lt_of_lt_of_le h4 hb.size, h5.below hb⟩
set_option maxHeartbeats 4000000 in
theorem fclos_any (a x : Sg) (A B : Option Addr) (c d g : Nat) (w : World) (hn : a.s.length ≤ 1000000) (hn1 : x.s.length ≤ 1000000) (hA : CellsIn w A (sndsC a.s)) (hx : SgAt w g B d x) :
    Calls Tryz.prog 91 #[.agg #[.string (bs a.t), .slice A a.s.length c, .int .i64 a.c, .int .i64 a.w], .pointer (some ⟨g, 0, none⟩)] w fun e w' => e = .returned (.bool (likeB a x)) ∧ Below w.heap.size w w' := by
  obtain ⟨g1, hg1⟩ : ∃ z, z = w.heap.size := ⟨_, rfl⟩
  obtain ⟨W1, hW1⟩ : ∃ z, z = w.alloc (.cells #[.string (bs a.t), .slice A a.s.length c, .int .i64 a.c, .int .i64 a.w] 64) := ⟨_, rfl⟩
  have V1 := Lib.hid (show Hp w [sgbox g1 (A, c) a] W1 by rw [hW1, hg1]; exact (Hp.start w).sgbox_new A c a)
  obtain ⟨y0, y1, y2, y3, y4, y5⟩ := hx.below V1.out.below
  have HW1 := Lib.hid hW1
  have HG1 := Lib.hid hg1
  have HA := Lib.hid (hA.below V1.out.below)
  have HB := Lib.hid y5
  obtain ⟨x0, x1, x2, x3, x4⟩ := V1.out.sgbox_at (i := 0) rfl
  dsimp only at x1
  clear hW1 hg1 hA hx y5
  go_enter Tryz.func91, Tryz.ntmps91
  go_upto_region 1 with fail
  rw [← HG1.out, ← HW1.out]
  go_wp2_with fail
  refine (alike_any a x A B c d _ hn (by omega) HA.out HB.out).mono ?_
  rintro e w3 ⟨rfl, hb⟩
  have B3 := Lib.hid (btwo V1.out.below hb)
  clear hb
  go_wp2_with fail
  go_ret
  exact ⟨rfl, B3.out⟩
set_option maxHeartbeats 4000000 in
theorem sgidx_any (L : List Sg) (x : Sg) (g d : Nat) (B : Option Addr) (A : Option Addr) (n c : Nat) (w : World) (hl : L.length = n) (hn : n ≤ 1000000) (hs : ∀ y ∈ L, y.s.length ≤ 1000000) (hxs : x.s.length ≤ 1000000) (hA : SgnIn w A L) (hx : SgAt w g B d x) :
    Calls Tryz.prog 105 #[.slice A n c, .func (.func 91) #[] #[.pointer (some ⟨g, 0, none⟩)]] w fun e w' => Below w.heap.size w w' ∧ ((e = .returned (.int .i64 (-1)) ∧ (L.any fun e => likeB e x) = false) ∨
      ∃ i : Nat, e = .returned (.int .i64 (i : Int)) ∧ (L.any fun e => likeB e x) = true) := by
  have HL := Lib.hid hl
  have HS := Lib.hid hs
  have HA := Lib.hid hA
  have HX := Lib.hid hx
  clear hl hs hA hx
  go_enter Tryz.func105, Tryz.ntmps105
  go_wp2_with fail
  go_loopw [8] (fun cv wr => ∃ i : Nat, cv = .int .i64 (i : Int) ∧ i ≤ n ∧ (∀ (j : Nat) q, j < i → L[j]? = some q → likeB q x = false) ∧ Below w.heap.size w wr) (fun cv _ => n - (intOf cv).toNat)
  case atStart => exact ⟨0, rfl, Nat.zero_le _, fun j q h => absurd h (Nat.not_lt_zero _), Below.refl _ _⟩
  case round =>
    obtain ⟨i, rfl, hin, hr, hbl⟩ := hrel
    obtain ⟨wi, rfl⟩ : ∃ wi : World, wi = wr := ⟨_, rfl⟩
    have HR := Lib.hid hr
    have HB := Lib.hid hbl
    clear hr hbl
    by_cases hlt : i < n
    · obtain ⟨a, ha⟩ := get_at (L := L) (k := i) (by have := HL.out; omega)
      obtain ⟨b, off, Aj, cj, rfl, hb0, c0, c1, c2, c3, c4⟩ := (HA.out.below HB.out).at ha
      have HP := Lib.hid ha
      have HC := Lib.hid c4
      have HXW := Lib.hid (HX.out.below HB.out)
      have hal := HS.out a (List.mem_of_getElem? ha)
      have hi4 : i * 4 ≤ 4000000 := by omega
      clear ha c4
      go_wp2_with fail
      refine (fclos_any a x Aj B cj d g wi hal hxs HC.out HXW.out).mono ?_
      rintro e w2 ⟨rfl, b2⟩
      have HB2 := Lib.hid (btwo HB.out b2)
      clear b2 c0 c1 c2 c3
      cases hf : likeB a x with
      | true =>
        have H3 := Lib.hid (show (L.any fun e => likeB e x) = true from List.any_eq_true.2 ⟨_, List.mem_of_getElem? HP.out, hf⟩)
        clear hf
        go_wp2_with fail
        go_ret
        exact ⟨HB2.out, .inr ⟨i, rfl, H3.out⟩⟩
      | false =>
        have H3 := Lib.hid (show ∀ (j : Nat) q, j < i + 1 → L[j]? = some q → likeB q x = false from fun j q hj hq => by
          by_cases e : j = i
          · subst e
            have : some a = some q := HP.out.symm.trans hq
            injection this with this
            rw [← this]; exact hf
          · exact HR.out j q (by omega) hq)
        clear hf
        go_wp2_with fail
        go_roundw
        case rel => exact ⟨i + 1, by go_num, by omega, H3.out, HB2.out⟩
        case measure => simp [intOf]; omega
    · have H3 := Lib.hid (show (L.any fun e => likeB e x) = false from by
        rw [Bool.eq_false_iff]; intro h
        obtain ⟨q, hq, h2⟩ := List.any_eq_true.1 h
        obtain ⟨j, hj, e⟩ := List.mem_iff_getElem.1 hq
        have := HR.out j q (by have := HL.out; omega) (by rw [List.getElem?_eq_getElem hj, e])
        rw [this] at h2; cases h2)
      go_wp2_with fail
      go_ret
      exact ⟨HB.out, .inl ⟨rfl, H3.out⟩⟩
set_option maxHeartbeats 4000000 in
theorem sgcont_any (L : List Sg) (x : Sg) (g d : Nat) (B : Option Addr) (A : Option Addr) (n c : Nat) (w : World) (hl : L.length = n) (hn : n ≤ 1000000) (hs : ∀ y ∈ L, y.s.length ≤ 1000000) (hxs : x.s.length ≤ 1000000) (hA : SgnIn w A L) (hx : SgAt w g B d x) :
    Calls Tryz.prog 90 #[.slice A n c, .func (.func 91) #[] #[.pointer (some ⟨g, 0, none⟩)]] w fun e w' => e = .returned (.bool (L.any fun e => likeB e x)) ∧ Below w.heap.size w w' := by
  go_enter Tryz.func90, Tryz.ntmps90
  go_wp2_with fail
  refine (sgidx_any L x g d B A n c _ hl hn hs hxs hA hx).mono ?_
  rintro e w2 ⟨hb, ⟨rfl, h⟩ | ⟨i, rfl, h⟩⟩
  · have HE := Lib.hid h
    have HB := Lib.hid hb
    clear h hb
    go_wp2_with fail
    go_ret
    exact ⟨ret_bool HE.out.symm, HB.out⟩
  · have HE := Lib.hid h
    have HB := Lib.hid hb
    clear h hb
    go_wp2_with fail
    go_ret
    exact ⟨ret_bool HE.out.symm, HB.out⟩
end Go.Proofs.YtjamfcihjendiaaGreat
