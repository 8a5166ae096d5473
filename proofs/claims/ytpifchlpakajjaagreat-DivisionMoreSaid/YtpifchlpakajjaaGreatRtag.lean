/- Several texts in one: Ub, Ob. -/
import Derived.Test.YtpifchlpakajjaaGreatRtaf
import Derived.Test.YtpifchlpakajjaaGreatRtab
import Derived.Test.YtpifchlpakajjaaGreatRtae
namespace Go.Proofs.YtpifchlpakajjaaGreat
open Go.RowKit
set_option linter.unusedVariables false
set_option linter.unusedSimpArgs false
set_option maxRecDepth 100000

def sndC (x : Snd) : List Value := [.int .i64 x.k, .int .i64 x.q, .string (bs x.t)]
def sndsC (L : List Snd) : List Value := L.flatMap sndC
theorem sndsC_cat (L M : List Snd) : sndsC (L ++ M) = sndsC L ++ sndsC M := by unfold sndsC; rw [List.flatMap_append]
theorem sndsC_snoc (L : List Snd) (x : Snd) : sndsC (L ++ [x]) = sndsC L ++ sndC x := by rw [sndsC_cat]; simp [sndsC]
theorem sndsC_len : ∀ L : List Snd, (sndsC L).length = L.length * 3
  | [] => rfl
  | x :: r => by
    have := sndsC_len r
    unfold sndsC at *
    rw [List.flatMap_cons, List.length_append, this, List.length_cons]
    show 3 + _ = _
    omega
theorem sndsC_at : ∀ {L : List Snd} {j : Nat} {x : Snd}, L[j]? = some x → (sndsC L)[j * 3]? = some (.int .i64 x.k) ∧ (sndsC L)[j * 3 + 1]? = some (.int .i64 x.q) ∧ (sndsC L)[j * 3 + 2]? = some (.string (bs x.t))
  | [], j, x, h => by simp at h
  | y :: r, 0, x, h => by
    have e : y = x := by simpa using h
    subst e
    exact ⟨rfl, rfl, rfl⟩
  | y :: r, j + 1, x, h => by
    have ih := @sndsC_at r j x (by simpa using h)
    have e : sndsC (y :: r) = sndC y ++ sndsC r := by unfold sndsC; rw [List.flatMap_cons]
    have hl : (sndC y).length = 3 := rfl
    rw [e]
    refine ⟨?_, ?_, ?_⟩
    · rw [List.getElem?_append_right (by omega), hl, show (j + 1) * 3 - 3 = j * 3 by omega]; exact ih.1
    · rw [List.getElem?_append_right (by omega), hl, show (j + 1) * 3 + 1 - 3 = j * 3 + 1 by omega]; exact ih.2.1
    · rw [List.getElem?_append_right (by omega), hl, show (j + 1) * 3 + 2 - 3 = j * 3 + 2 by omega]; exact ih.2.2
theorem sndC_one (x : Snd) : ∀ u ∈ sndC x, u.oneCell' = true := by
  intro u hu
  unfold sndC at hu
  simp at hu
  rcases hu with rfl | rfl | rfl <;> rfl
theorem sndsC_one (L : List Snd) : ∀ u ∈ sndsC L, u.oneCell' = true := by
  intro u hu
  unfold sndsC at hu
  obtain ⟨x, _, h⟩ := List.mem_flatMap.1 hu
  exact sndC_one x u h
theorem snd_info : (Tryz.prog.info? 89).map (fun i => (i.zero, i.size, i.bytes)) = some (some (.agg #[.int .i64 0, .int .i64 0, .string ⟨#[]⟩]), 3, 32) := by kernel_rfl
def snds (A : Option Addr) (n c : Nat) (L : List Snd) : Itm := ⟨89, 3, .slice A n c, n, sndsC L⟩
theorem CellsIn.snd {w : World} {A : Option Addr} {L : List Snd} (h : CellsIn w A (sndsC L)) {j : Nat} {x : Snd} (hx : L[j]? = some x) :
    ∃ b off, A = some ⟨b, off, none⟩ ∧ b < w.heap.size ∧ w.cell? ⟨b, off + j * 3, none⟩ = some (.int .i64 x.k) ∧ w.cell? ⟨b, off + j * 3 + 1, none⟩ = some (.int .i64 x.q) ∧ w.cell? ⟨b, off + j * 3 + 2, none⟩ = some (.string (bs x.t)) := by
  have hj := (List.getElem?_eq_some_iff.1 hx).1
  obtain ⟨b, off, e, hlt, hc⟩ := h (by rw [sndsC_len]; omega)
  obtain ⟨h1, h2, h3⟩ := sndsC_at hx
  exact ⟨b, off, e, hlt, hc _ _ h1, by rw [Nat.add_assoc]; exact hc _ _ h2, by rw [Nat.add_assoc]; exact hc _ _ h3⟩
theorem run_app_snd {W w : World} {l : List Itm} {i : Nat} {A : Option Addr} {n c : Nat} {L : List Snd} (h : Hp W l w) (hi : l[i]? = some (snds A n c L)) (ty : TypeId) {b : Nat} (x : Snd)
    (hb : ∀ (j : Nat) u, (sndC x)[j]? = some u → w.cell? ⟨b, j, none⟩ = some u) (hn : n ≤ 4000000000000) :
    ∃ g cap w', (Builtin.append_ #[41, 41] ty #[.slice A n c, .slice (some ⟨b, 0, none⟩) 1 1]).run Tryz.prog w = .ok (.slice (some ⟨g, 0, none⟩) (n + 1) cap) w' ∧
      Hp W (l.set i (snds (some ⟨g, 0, none⟩) (n + 1) cap (L ++ [x]))) w' ∧ w.grownBy w' (Value.slice A n c).ownBlock := by
  have := run_app h hi (t := 41) (ty := ty) Tryz.underlying41 snd_info rfl (show 0 < 3 by decide) (show 32 ≤ 32 by decide) (A := A) (c := c) rfl (b := b) (sndC x) rfl hb (sndC_one x) hn
  simpa [snds, sndsC_snoc] using this
theorem run_cat_snds {W w : World} {l : List Itm} {i : Nat} {A : Option Addr} {n c : Nat} {L : List Snd} (h : Hp W l w) (hi : l[i]? = some (snds A n c L)) (ty : TypeId) {B : Option Addr} {m d : Nat} (X : List Snd) (hX : X.length = m) (hc : CellsIn w B (sndsC X)) (hn : n ≤ 2000000000000) (hm : m ≤ 2000000000000) :
    ∃ A2 c2 w', (Builtin.append_ #[41, 41] ty #[.slice A n c, .slice B m d]).run Tryz.prog w = .ok (.slice A2 (n + m) c2) w' ∧ Hp W (l.set i (snds A2 (n + m) c2 (L ++ X))) w' ∧ w.grownBy w' (Value.slice A n c).ownBlock := by
  have := run_cat h hi (t := 41) ty Tryz.underlying41 snd_info rfl (show 0 < 3 by decide) (show 32 ≤ 32 by decide) (A := A) (c := c) rfl (B := B) (m := m) (d := d) (sndsC X) (by rw [sndsC_len, hX]; rfl) hc (sndsC_one X) hn hm
  simpa [snds, sndsC_cat] using this
def sbox (g : Nat) (x : Snd) : Itm := box 89 g (sndC x)
theorem Hp.sbox_new {W w : World} {l : List Itm} (h : Hp W l w) (x : Snd) : Hp W (sbox w.heap.size x :: l) (w.alloc (.cells #[.int .i64 x.k, .int .i64 x.q, .string (bs x.t)] 89)) := h.box_new 89 (sndC x)
theorem Hp.sbox_at {W w : World} {l : List Itm} {i g : Nat} {x : Snd} (h : Hp W l w) (hi : l[i]? = some (sbox g x)) :
    w.cell? ⟨g, 0, none⟩ = some (.int .i64 x.k) ∧ w.cell? ⟨g, 1, none⟩ = some (.int .i64 x.q) ∧ w.cell? ⟨g, 2, none⟩ = some (.string (bs x.t)) ∧ g < w.heap.size :=
  ⟨(h.box_at hi (j := 0) rfl).1, (h.box_at hi (j := 1) rfl).1, (h.box_at hi (j := 2) rfl).1, (h.box_at hi (j := 0) rfl).2.2⟩
theorem box_cells (w : World) (x : Snd) : (w.alloc (.cells #[.int .i64 x.k, .int .i64 x.q, .string (bs x.t)] 89)).cell? ⟨w.heap.size, 0, none⟩ = some (.int .i64 x.k) ∧ (w.alloc (.cells #[.int .i64 x.k, .int .i64 x.q, .string (bs x.t)] 89)).cell? ⟨w.heap.size, 1, none⟩ = some (.int .i64 x.q) ∧ (w.alloc (.cells #[.int .i64 x.k, .int .i64 x.q, .string (bs x.t)] 89)).cell? ⟨w.heap.size, 2, none⟩ = some (.string (bs x.t)) := by
  refine ⟨?_, ?_, ?_⟩ <;> (rw [World.cell?_alloc_mark]; rfl)
theorem take_snoc {α : Type} {L : List α} {k : Nat} {x : α} (h : L[k]? = some x) : L.take (k + 1) = L.take k ++ [x] := by
  obtain ⟨hk, e⟩ := List.getElem?_eq_some_iff.1 h
  rw [List.take_succ_eq_append_getElem hk, e]
theorem take_all {α : Type} {L : List α} {n : Nat} (h : L.length = n) : L.take n = L := List.take_of_length_le (by omega)
theorem get_at {α : Type} {L : List α} {k : Nat} (h : k < L.length) : ∃ x, L[k]? = some x := ⟨L[k], List.getElem?_eq_getElem h⟩

def SRows (w : World) (A : Option Addr) (R : List (List Snd)) : Prop :=
  0 < R.length → ∃ b off, A = some ⟨b, off, none⟩ ∧ b < w.heap.size ∧ ∀ (j : Nat) row, R[j]? = some row →
    ∃ Aj cj, w.cell? ⟨b, off + j, none⟩ = some (.slice Aj row.length cj) ∧ row.length ≤ cj ∧ row.length ≤ 17592186044416 ∧ CellsIn w Aj (sndsC row)
theorem SRows.below {w w' : World} {A : Option Addr} {R : List (List Snd)} (h : SRows w A R) (hb : Below w.heap.size w w') : SRows w' A R := by
  intro h0
  obtain ⟨b, off, e, hlt, hc⟩ := h h0
  refine ⟨b, off, e, Nat.lt_of_lt_of_le hlt hb.size, fun j row hr => ?_⟩
  obtain ⟨Aj, cj, h1, h2, h3, h4⟩ := hc j row hr
  exact ⟨Aj, cj, (hb.cell (p := ⟨b, off + j, none⟩) hlt).trans h1, h2, h3, h4.below hb⟩
end Go.Proofs.YtpifchlpakajjaaGreat

namespace Go.Proofs.YtpifchlpakajjaaGreat
open Go.RowKit
set_option linter.unusedVariables false
set_option linter.unusedSimpArgs false
set_option maxRecDepth 100000

def sgC (v : Option Addr × Nat) (x : Sg) : List Value := [.string (bs x.t), .slice v.1 x.s.length v.2, .int .i64 x.c, .int .i64 x.w]
def sgsC : List (Option Addr × Nat) → List Sg → List Value
  | v :: vs, x :: L => sgC v x ++ sgsC vs L
  | _, _ => []
theorem sgsC_cons (v : Option Addr × Nat) (vs : List (Option Addr × Nat)) (x : Sg) (L : List Sg) : sgsC (v :: vs) (x :: L) = sgC v x ++ sgsC vs L := rfl
theorem sgsC_len : ∀ {vs : List (Option Addr × Nat)} {L : List Sg}, vs.length = L.length → (sgsC vs L).length = L.length * 4
  | [], [], _ => rfl
  | [], _ :: _, h => by cases h
  | _ :: _, [], h => by cases h
  | v :: vs, x :: L, h => by
    have ih := @sgsC_len vs L (by simpa using h)
    rw [sgsC_cons, List.length_append, ih, List.length_cons]
    show 4 + _ = _
    omega
theorem sgsC_snoc : ∀ {vs : List (Option Addr × Nat)} {L : List Sg} (v : Option Addr × Nat) (x : Sg), vs.length = L.length → sgsC (vs ++ [v]) (L ++ [x]) = sgsC vs L ++ sgC v x
  | [], [], v, x, _ => by simp [sgsC]
  | [], _ :: _, _, _, h => by cases h
  | _ :: _, [], _, _, h => by cases h
  | u :: vs, y :: L, v, x, h => by
    have ih := @sgsC_snoc vs L v x (by simpa using h)
    rw [List.cons_append, List.cons_append, sgsC_cons, sgsC_cons, ih, List.append_assoc]
theorem sgsC_cat : ∀ {vs us : List (Option Addr × Nat)} {L M : List Sg}, vs.length = L.length → sgsC (vs ++ us) (L ++ M) = sgsC vs L ++ sgsC us M
  | [], us, [], M, _ => by simp [sgsC]
  | [], _, _ :: _, _, h => by cases h
  | _ :: _, _, [], _, h => by cases h
  | u :: vs, us, y :: L, M, h => by
    have ih := @sgsC_cat vs us L M (by simpa using h)
    rw [List.cons_append, List.cons_append, sgsC_cons, sgsC_cons, ih, List.append_assoc]
theorem sgsC_at : ∀ {vs : List (Option Addr × Nat)} {L : List Sg} {j : Nat} {v : Option Addr × Nat} {x : Sg}, vs[j]? = some v → L[j]? = some x → (sgsC vs L)[j * 4]? = some (.string (bs x.t)) ∧ (sgsC vs L)[j * 4 + 1]? = some (.slice v.1 x.s.length v.2) ∧ (sgsC vs L)[j * 4 + 2]? = some (.int .i64 x.c) ∧ (sgsC vs L)[j * 4 + 3]? = some (.int .i64 x.w)
  | [], _, j, v, x, h, _ => by simp at h
  | _ :: _, [], j, v, x, _, h => by simp at h
  | u :: vs, y :: L, 0, v, x, h, h2 => by
    have e : u = v := by simpa using h
    have e2 : y = x := by simpa using h2
    subst e; subst e2
    exact ⟨rfl, rfl, rfl, rfl⟩
  | u :: vs, y :: L, j + 1, v, x, h, h2 => by
    have ih := @sgsC_at vs L j v x (by simpa using h) (by simpa using h2)
    have hl : (sgC u y).length = 4 := rfl
    rw [sgsC_cons]
    refine ⟨?_, ?_, ?_, ?_⟩
    · rw [List.getElem?_append_right (by omega), hl, show (j + 1) * 4 - 4 = j * 4 by omega]; exact ih.1
    · rw [List.getElem?_append_right (by omega), hl, show (j + 1) * 4 + 1 - 4 = j * 4 + 1 by omega]; exact ih.2.1
    · rw [List.getElem?_append_right (by omega), hl, show (j + 1) * 4 + 2 - 4 = j * 4 + 2 by omega]; exact ih.2.2.1
    · rw [List.getElem?_append_right (by omega), hl, show (j + 1) * 4 + 3 - 4 = j * 4 + 3 by omega]; exact ih.2.2.2
theorem sgC_one (v : Option Addr × Nat) (x : Sg) : ∀ u ∈ sgC v x, u.oneCell' = true := by
  intro u hu
  unfold sgC at hu
  simp at hu
  rcases hu with rfl | rfl | rfl | rfl <;> rfl
theorem sgsC_one : ∀ (vs : List (Option Addr × Nat)) (L : List Sg), ∀ u ∈ sgsC vs L, u.oneCell' = true
  | [], _, u, h => by simp [sgsC] at h
  | _ :: _, [], u, h => by simp [sgsC] at h
  | v :: vs, x :: L, u, h => by
    rw [sgsC_cons] at h
    rcases List.mem_append.1 h with h | h
    · exact sgC_one v x u h
    · exact sgsC_one vs L u h
def SgnIn (w : World) (A : Option Addr) (L : List Sg) : Prop :=
  0 < L.length → ∃ b off, A = some ⟨b, off, none⟩ ∧ b < w.heap.size ∧ ∀ (j : Nat) x, L[j]? = some x →
    ∃ Aj cj, w.cell? ⟨b, off + j * 4, none⟩ = some (.string (bs x.t)) ∧ w.cell? ⟨b, off + j * 4 + 1, none⟩ = some (.slice Aj x.s.length cj) ∧ w.cell? ⟨b, off + j * 4 + 2, none⟩ = some (.int .i64 x.c) ∧ w.cell? ⟨b, off + j * 4 + 3, none⟩ = some (.int .i64 x.w) ∧ CellsIn w Aj (sndsC x.s)
theorem SgnIn.below {w w' : World} {A : Option Addr} {L : List Sg} (h : SgnIn w A L) (hb : Below w.heap.size w w') : SgnIn w' A L := by
  intro h0
  obtain ⟨b, off, e, hlt, hc⟩ := h h0
  refine ⟨b, off, e, Nat.lt_of_lt_of_le hlt hb.size, fun j x hx => ?_⟩
  obtain ⟨Aj, cj, h1, h2, h3, h4, h5⟩ := hc j x hx
  exact ⟨Aj, cj, (hb.cell (p := ⟨b, off + j * 4, none⟩) hlt).trans h1, (hb.cell (p := ⟨b, off + j * 4 + 1, none⟩) hlt).trans h2, (hb.cell (p := ⟨b, off + j * 4 + 2, none⟩) hlt).trans h3, (hb.cell (p := ⟨b, off + j * 4 + 3, none⟩) hlt).trans h4, h5.below hb⟩
theorem SgnIn.at {w : World} {A : Option Addr} {L : List Sg} (h : SgnIn w A L) {j : Nat} {x : Sg} (hx : L[j]? = some x) : ∃ b off Aj cj, A = some ⟨b, off, none⟩ ∧ b < w.heap.size ∧ w.cell? ⟨b, off + j * 4, none⟩ = some (.string (bs x.t)) ∧ w.cell? ⟨b, off + j * 4 + 1, none⟩ = some (.slice Aj x.s.length cj) ∧ w.cell? ⟨b, off + j * 4 + 2, none⟩ = some (.int .i64 x.c) ∧ w.cell? ⟨b, off + j * 4 + 3, none⟩ = some (.int .i64 x.w) ∧ CellsIn w Aj (sndsC x.s) := by
  obtain ⟨b, off, e, hlt, hc⟩ := h (by have := (List.getElem?_eq_some_iff.1 hx).1; omega)
  obtain ⟨Aj, cj, h1, h2, h3, h4, h5⟩ := hc j x hx
  exact ⟨b, off, Aj, cj, e, hlt, h1, h2, h3, h4, h5⟩
theorem SgnIn.take {w : World} {A : Option Addr} {L : List Sg} (h : SgnIn w A L) (k : Nat) : SgnIn w A (L.take k) := by
  intro h0
  obtain ⟨b, off, e, hlt, hc⟩ := h (by rw [List.length_take] at h0; omega)
  refine ⟨b, off, e, hlt, fun j x hx => hc j x ?_⟩
  have hj := (List.getElem?_eq_some_iff.1 hx).1
  rw [List.length_take] at hj
  rwa [List.getElem?_take_of_lt (by omega)] at hx
theorem sg_info : (Tryz.prog.info? 58).map (fun i => (i.zero, i.size, i.bytes)) = some (some (.agg #[.string ⟨#[]⟩, .slice none 0 0, .int .i64 0, .int .i64 0]), 4, 56) := by kernel_rfl
def sgv (A : Option Addr) (n c : Nat) (vs : List (Option Addr × Nat)) (L : List Sg) : Itm := ⟨58, 4, .slice A n c, n, sgsC vs L⟩
def sgbox (g : Nat) (v : Option Addr × Nat) (x : Sg) : Itm := box 58 g (sgC v x)
theorem Hp.sgbox_new {W w : World} {l : List Itm} (h : Hp W l w) (A : Option Addr) (c : Nat) (x : Sg) : Hp W (sgbox w.heap.size (A, c) x :: l) (w.alloc (.cells #[.string (bs x.t), .slice A x.s.length c, .int .i64 x.c, .int .i64 x.w] 58)) := h.box_new 58 (sgC (A, c) x)
theorem Hp.sgbox_at {W w : World} {l : List Itm} {i g : Nat} {v : Option Addr × Nat} {x : Sg} (h : Hp W l w) (hi : l[i]? = some (sgbox g v x)) :
    w.cell? ⟨g, 0, none⟩ = some (.string (bs x.t)) ∧ w.cell? ⟨g, 1, none⟩ = some (.slice v.1 x.s.length v.2) ∧ w.cell? ⟨g, 2, none⟩ = some (.int .i64 x.c) ∧ w.cell? ⟨g, 3, none⟩ = some (.int .i64 x.w) ∧ g < w.heap.size :=
  ⟨(h.box_at hi (j := 0) rfl).1, (h.box_at hi (j := 1) rfl).1, (h.box_at hi (j := 2) rfl).1, (h.box_at hi (j := 3) rfl).1, (h.box_at hi (j := 0) rfl).2.2⟩
def oC (nm : List UInt8) (A : Option Addr) (n c : Nat) : List Value := [.string (bs nm), .slice A n c]
def obox (g : Nat) (nm : List UInt8) (A : Option Addr) (n c : Nat) : Itm := box 24 g (oC nm A n c)
theorem Hp.obox_new {W w : World} {l : List Itm} (h : Hp W l w) (nm : List UInt8) (A : Option Addr) (n c : Nat) : Hp W (obox w.heap.size nm A n c :: l) (w.alloc (.cells #[.string (bs nm), .slice A n c] 24)) := h.box_new 24 (oC nm A n c)
theorem Hp.obox_at {W w : World} {l : List Itm} {i g n c : Nat} {nm : List UInt8} {A : Option Addr} (h : Hp W l w) (hi : l[i]? = some (obox g nm A n c)) :
    w.cell? ⟨g, 0, none⟩ = some (.string (bs nm)) ∧ w.cell? ⟨g, 1, none⟩ = some (.slice A n c) ∧ g < w.heap.size :=
  ⟨(h.box_at hi (j := 0) rfl).1, (h.box_at hi (j := 1) rfl).1, (h.box_at hi (j := 0) rfl).2.2⟩
theorem run_app56 {W w : World} {l : List Itm} {i : Nat} {it : Itm} (h : Hp W l w) (hi : l[i]? = some it) {t ty : TypeId} {z : Value} {bytes : Nat} (ht : Tryz.prog.underlying t = some (.slice it.e))
    (hinf : (Tryz.prog.info? it.e).map (fun i => (i.zero, i.size, i.bytes)) = some (some z, it.size, bytes)) (hzs : z.cells.size = it.size) (hsz : 0 < it.size) (hby : bytes ≤ 60)
    {A : Option Addr} {c : Nat} (hv : it.v = .slice A it.n c) {b : Nat} (news : List Value) (hl : news.length = it.size) (hnews : ∀ (j : Nat) u, news[j]? = some u → w.cell? ⟨b, j, none⟩ = some u) (h1 : ∀ u ∈ news, u.oneCell' = true) (hn : it.n ≤ 2000000000000) :
    ∃ g cap w', (Builtin.append_ #[t, t] ty #[.slice A it.n c, .slice (some ⟨b, 0, none⟩) 1 1]).run Tryz.prog w = .ok (.slice (some ⟨g, 0, none⟩) (it.n + 1) cap) w' ∧
      Hp W (l.set i { it with v := .slice (some ⟨g, 0, none⟩) (it.n + 1) cap, n := it.n + 1, xs := it.xs ++ news }) w' ∧ w.grownBy w' it.v.ownBlock := by
  obtain ⟨i0, hi0, hz0, hz1, hz2⟩ := info_parts hinf
  obtain ⟨g, cap, w', hr, ho, hg, hat, _⟩ := run_append_lies (P := Tryz.prog) w t ty W.heap.size it.e i0 z it.size bytes ht hi0 hz0 hz1 hz2 hzs hsz (.slice A it.n c) it.n it.xs (by rw [← hv]; exact h.own i it hi) ⟨b, 0, none⟩ 1 1 news (by rw [hl, Nat.one_mul])
    (fun j u hu => by
      have e : (⟨b, 0, none⟩ : Addr).add j = ⟨b, j, none⟩ := by unfold Addr.add; split <;> simp_all
      rw [e]; exact hnews j u hu) h1 (by omega) (by unfold maxLen; omega) (by
        have := Nat.mul_le_mul (show it.n + 1 ≤ 2000000000001 by omega) hby
        omega) h.below.size _ rfl
  refine ⟨g, cap, w', hr, ?_, by rw [hv]; exact hg⟩
  refine h.upd hi _ (by rw [hv]; exact hg) ho (fun k hk => ?_)
  simp [Value.ownBlock] at hk
  subst hk
  rcases hat with e | e
  · exact .inl (by rw [hv]; exact e)
  · exact .inr (by omega)
theorem run_app_sg {W w : World} {l : List Itm} {i : Nat} {A : Option Addr} {n c : Nat} {vs : List (Option Addr × Nat)} {L : List Sg} (h : Hp W l w) (hi : l[i]? = some (sgv A n c vs L)) (hvs : vs.length = L.length) (ty : TypeId) {b : Nat} (v : Option Addr × Nat) (x : Sg)
    (hb : ∀ (j : Nat) u, (sgC v x)[j]? = some u → w.cell? ⟨b, j, none⟩ = some u) (hn : n ≤ 2000000000000) :
    ∃ g cap w', (Builtin.append_ #[22, 22] ty #[.slice A n c, .slice (some ⟨b, 0, none⟩) 1 1]).run Tryz.prog w = .ok (.slice (some ⟨g, 0, none⟩) (n + 1) cap) w' ∧
      Hp W (l.set i (sgv (some ⟨g, 0, none⟩) (n + 1) cap (vs ++ [v]) (L ++ [x]))) w' ∧ w.grownBy w' (Value.slice A n c).ownBlock := by
  have := run_app56 h hi (t := 22) (ty := ty) Tryz.underlying22 sg_info rfl (show 0 < 4 by decide) (show 56 ≤ 60 by decide) (A := A) (c := c) rfl (b := b) (sgC v x) rfl hb (sgC_one v x) hn
  simpa [sgv, sgsC_snoc _ _ hvs] using this
theorem Hp.sg_len {W w : World} {l : List Itm} {i n c : Nat} {A : Option Addr} {vs : List (Option Addr × Nat)} {L : List Sg} (h : Hp W l w) (hi : l[i]? = some (sgv A n c vs L)) (hvs : vs.length = L.length) : L.length = n := by
  have := (h.own i _ hi).1
  rw [show (sgv A n c vs L).xs = sgsC vs L from rfl, sgsC_len hvs] at this
  have e : (sgv A n c vs L).n * (sgv A n c vs L).size = n * 4 := rfl
  omega
def Pool (pool : List Itm) (vs : List (Option Addr × Nat)) (L : List Sg) : Prop := ∀ (j : Nat) v x, vs[j]? = some v → L[j]? = some x → ∃ k : Nat, pool[k]? = some (snds v.1 x.s.length v.2 x.s)
theorem Pool.nil (pool : List Itm) : Pool pool [] [] := fun j v x h _ => by simp at h
theorem Pool.more {pool : List Itm} {vs : List (Option Addr × Nat)} {L : List Sg} (h : Pool pool vs L) (hl : vs.length = L.length) (A : Option Addr) (c : Nat) (x : Sg) : Pool (snds A x.s.length c x.s :: pool) (vs ++ [(A, c)]) (L ++ [x]) := by
  intro j v y hv hy
  rcases get_snoc hv with ⟨h1, h2⟩ | ⟨h1, h2⟩ <;> rcases get_snoc hy with ⟨h3, h4⟩ | ⟨h3, h4⟩
  · obtain ⟨k, hk⟩ := h j v y h2 h4
    exact ⟨k + 1, hk⟩
  · omega
  · omega
  · subst h2; subst h4; exact ⟨0, rfl⟩
theorem sg_in {W w : World} {l : List Itm} {i n c d : Nat} {A : Option Addr} {vs : List (Option Addr × Nat)} {L : List Sg} (h : Hp W l w) (hi : l[i]? = some (sgv A n c vs L)) (hl : vs.length = L.length)
    (hp : ∀ (j : Nat) v x, vs[j]? = some v → L[j]? = some x → CellsIn w v.1 (sndsC x.s)) : SgnIn w A L := by
  intro h0
  have hc := h.cells hi (A := A) (c := c) rfl
  obtain ⟨b, off, e, hlt, hcell⟩ := hc (by show 0 < (sgsC vs L).length; rw [sgsC_len hl]; omega)
  refine ⟨b, off, e, hlt, fun j x hx => ?_⟩
  have hj := (List.getElem?_eq_some_iff.1 hx).1
  obtain ⟨v, hv⟩ : ∃ v, vs[j]? = some v := ⟨_, List.getElem?_eq_getElem (by omega)⟩
  obtain ⟨a1, a2, a3, a4⟩ := sgsC_at hv hx
  refine ⟨v.1, v.2, hcell _ _ a1, ?_, ?_, ?_, hp j v x hv hx⟩
  · rw [Nat.add_assoc]; exact hcell _ _ a2
  · rw [Nat.add_assoc]; exact hcell _ _ a3
  · rw [Nat.add_assoc]; exact hcell _ _ a4
theorem sg_pool {W w : World} {pool : List Itm} {n c : Nat} {A : Option Addr} {vs : List (Option Addr × Nat)} {L : List Sg} (h : Hp W (sgv A n c vs L :: pool) w) (hl : vs.length = L.length) (hp : Pool pool vs L) : SgnIn w A L :=
  sg_in (i := 0) (d := 0) h rfl hl (fun j v x hv hx => by
    obtain ⟨k, hk⟩ := hp j v x hv hx
    exact h.cells (i := k + 1) (it := snds v.1 x.s.length v.2 x.s) hk rfl)
def OPost (nm : List UInt8) (L : List Sg) (tail : List Value) (w : World) (e : Ending) (w' : World) : Prop :=
  ∃ A n c vs pool, e = .returned (.tuple (Value.agg #[.string (bs nm), .slice A n c] :: tail).toArray) ∧ L.length = n ∧ vs.length = L.length ∧ Pool pool vs L ∧ Hp w (sgv A n c vs L :: pool) w'
def OnlyO (nm : List UInt8) (L : List Sg) (w : World) (e : Ending) (w' : World) : Prop :=
  ∃ A n c vs pool, e = .returned (.agg #[.string (bs nm), .slice A n c]) ∧ L.length = n ∧ vs.length = L.length ∧ Pool pool vs L ∧ Hp w (sgv A n c vs L :: pool) w'
end Go.Proofs.YtpifchlpakajjaaGreat
