/- Lists of sounds in memory, lists of such lists, and lists that came in. -/
import Derived.Test.YthcdbhancfpldaaDBa
import Derived.Test.YthcdbhancfpldaaUN
namespace Go.Proofs.Ythcdbhancfpldaa
open Go.RowKit
set_option linter.unusedVariables false
set_option linter.unusedSimpArgs false
set_option maxRecDepth 100000

def sndC (x : Snd) : List Value := [.int .i64 x.k, .int .i64 x.q, .string (bs x.t)]
def sndsC (L : List Snd) : List Value := L.flatMap sndC
theorem sndsC_nil : sndsC [] = [] := rfl
theorem sndsC_cat (L M : List Snd) : sndsC (L ++ M) = sndsC L ++ sndsC M := by unfold sndsC; rw [List.flatMap_append]
theorem sndsC_snoc (L : List Snd) (x : Snd) : sndsC (L ++ [x]) = sndsC L ++ sndC x := by rw [sndsC_cat]; simp [sndsC]
theorem sndsC_len : ∀ L : List Snd, (sndsC L).length = L.length * 3
  | [] => rfl
  | x :: r => by
    have := sndsC_len r
    unfold sndsC at *
    rw [List.flatMap_cons, List.length_append, this, List.length_cons]
    show 3 + _ = _
    omega
theorem sndsC_at : ∀ {L : List Snd} {j : Nat} {x : Snd}, L[j]? = some x → (sndsC L)[j * 3]? = some (.int .i64 x.k) ∧ (sndsC L)[j * 3 + 1]? = some (.int .i64 x.q) ∧ (sndsC L)[j * 3 + 2]? = some (.string (bs x.t))
  | [], j, x, h => by simp at h
  | y :: r, 0, x, h => by
    have e : y = x := by simpa using h
    subst e
    exact ⟨rfl, rfl, rfl⟩
  | y :: r, j + 1, x, h => by
    have ih := @sndsC_at r j x (by simpa using h)
    have e : sndsC (y :: r) = sndC y ++ sndsC r := by unfold sndsC; rw [List.flatMap_cons]
    have hl : (sndC y).length = 3 := rfl
    rw [e]
    refine ⟨?_, ?_, ?_⟩
    · rw [List.getElem?_append_right (by omega), hl, show (j + 1) * 3 - 3 = j * 3 by omega]; exact ih.1
    · rw [List.getElem?_append_right (by omega), hl, show (j + 1) * 3 + 1 - 3 = j * 3 + 1 by omega]; exact ih.2.1
    · rw [List.getElem?_append_right (by omega), hl, show (j + 1) * 3 + 2 - 3 = j * 3 + 2 by omega]; exact ih.2.2
theorem sndC_one (x : Snd) : ∀ u ∈ sndC x, u.oneCell' = true := by
  intro u hu
  unfold sndC at hu
  simp at hu
  rcases hu with rfl | rfl | rfl <;> rfl
theorem sndsC_one (L : List Snd) : ∀ u ∈ sndsC L, u.oneCell' = true := by
  intro u hu
  unfold sndsC at hu
  obtain ⟨x, _, h⟩ := List.mem_flatMap.1 hu
  exact sndC_one x u h
theorem snd_info : (Try.prog.info? 51).map (fun i => (i.zero, i.size, i.bytes)) = some (some (.agg #[.int .i64 0, .int .i64 0, .string ⟨#[]⟩]), 3, 32) := by kernel_rfl
/-- A row of sounds. -/
def snds (A : Option Addr) (n c : Nat) (L : List Snd) : Itm := ⟨51, 3, .slice A n c, n, sndsC L⟩
theorem Hp.snd_len {W w : World} {l : List Itm} {i n c : Nat} {A : Option Addr} {L : List Snd} (h : Hp W l w) (hi : l[i]? = some (snds A n c L)) : L.length = n := by
  have := (h.own i _ hi).1
  rw [show (snds A n c L).xs = sndsC L from rfl, sndsC_len] at this
  have e : (snds A n c L).n * (snds A n c L).size = n * 3 := rfl
  omega
/-- The cells of one sound of a list. -/
theorem CellsIn.snd {w : World} {A : Option Addr} {L : List Snd} (h : CellsIn w A (sndsC L)) {j : Nat} {x : Snd} (hx : L[j]? = some x) :
    ∃ b off, A = some ⟨b, off, none⟩ ∧ b < w.heap.size ∧ w.cell? ⟨b, off + j * 3, none⟩ = some (.int .i64 x.k) ∧ w.cell? ⟨b, off + j * 3 + 1, none⟩ = some (.int .i64 x.q) ∧ w.cell? ⟨b, off + j * 3 + 2, none⟩ = some (.string (bs x.t)) := by
  have hj := (List.getElem?_eq_some_iff.1 hx).1
  obtain ⟨b, off, e, hlt, hc⟩ := h (by rw [sndsC_len]; omega)
  obtain ⟨h1, h2, h3⟩ := sndsC_at hx
  exact ⟨b, off, e, hlt, hc _ _ h1, by rw [Nat.add_assoc]; exact hc _ _ h2, by rw [Nat.add_assoc]; exact hc _ _ h3⟩
/-- A row grows by a sound. -/
theorem run_app_snd {W w : World} {l : List Itm} {i : Nat} {A : Option Addr} {n c : Nat} {L : List Snd} (h : Hp W l w) (hi : l[i]? = some (snds A n c L)) (ty : TypeId) {b : Nat} (x : Snd)
    (hb : ∀ (j : Nat) u, (sndC x)[j]? = some u → w.cell? ⟨b, j, none⟩ = some u) (hn : n ≤ 4000000000000) :
    ∃ g cap w', (Builtin.append_ #[22, 22] ty #[.slice A n c, .slice (some ⟨b, 0, none⟩) 1 1]).run Try.prog w = .ok (.slice (some ⟨g, 0, none⟩) (n + 1) cap) w' ∧
      Hp W (l.set i (snds (some ⟨g, 0, none⟩) (n + 1) cap (L ++ [x]))) w' ∧ w.grownBy w' (Value.slice A n c).ownBlock := by
  have := run_app h hi (t := 22) (ty := ty) Try.underlying22 snd_info rfl (show 0 < 3 by decide) (show 32 ≤ 32 by decide) (A := A) (c := c) rfl (b := b) (sndC x) rfl hb (sndC_one x) hn
  simpa [snds, sndsC_snoc] using this
/-- A row grows by the sounds of a list. -/
theorem run_cat_snds {W w : World} {l : List Itm} {i : Nat} {A : Option Addr} {n c : Nat} {L : List Snd} (h : Hp W l w) (hi : l[i]? = some (snds A n c L)) (ty : TypeId) {B : Option Addr} {m d : Nat} (X : List Snd) (hX : X.length = m) (hc : CellsIn w B (sndsC X)) (hn : n ≤ 2000000000000) (hm : m ≤ 2000000000000) :
    ∃ A2 c2 w', (Builtin.append_ #[22, 22] ty #[.slice A n c, .slice B m d]).run Try.prog w = .ok (.slice A2 (n + m) c2) w' ∧ Hp W (l.set i (snds A2 (n + m) c2 (L ++ X))) w' ∧ w.grownBy w' (Value.slice A n c).ownBlock := by
  have := run_cat h hi (t := 22) ty Try.underlying22 snd_info rfl (show 0 < 3 by decide) (show 32 ≤ 32 by decide) (A := A) (c := c) rfl (B := B) (m := m) (d := d) (sndsC X) (by rw [sndsC_len, hX]; rfl) hc (sndsC_one X) hn hm
  simpa [snds, sndsC_cat] using this
/-- A box of a sound. -/
def sbox (g : Nat) (x : Snd) : Itm := box 51 g (sndC x)
theorem Hp.sbox_new {W w : World} {l : List Itm} (h : Hp W l w) (x : Snd) : Hp W (sbox w.heap.size x :: l) (w.alloc (.cells #[.int .i64 x.k, .int .i64 x.q, .string (bs x.t)] 51)) := h.box_new 51 (sndC x)
theorem Hp.sbox_at {W w : World} {l : List Itm} {i g : Nat} {x : Snd} (h : Hp W l w) (hi : l[i]? = some (sbox g x)) :
    w.cell? ⟨g, 0, none⟩ = some (.int .i64 x.k) ∧ w.cell? ⟨g, 1, none⟩ = some (.int .i64 x.q) ∧ w.cell? ⟨g, 2, none⟩ = some (.string (bs x.t)) ∧ g < w.heap.size :=
  ⟨(h.box_at hi (j := 0) rfl).1, (h.box_at hi (j := 1) rfl).1, (h.box_at hi (j := 2) rfl).1, (h.box_at hi (j := 0) rfl).2.2⟩
/-- A fresh box of a sound, in a world of its own. -/
theorem box_cells (w : World) (x : Snd) : (w.alloc (.cells #[.int .i64 x.k, .int .i64 x.q, .string (bs x.t)] 51)).cell? ⟨w.heap.size, 0, none⟩ = some (.int .i64 x.k) ∧ (w.alloc (.cells #[.int .i64 x.k, .int .i64 x.q, .string (bs x.t)] 51)).cell? ⟨w.heap.size, 1, none⟩ = some (.int .i64 x.q) ∧ (w.alloc (.cells #[.int .i64 x.k, .int .i64 x.q, .string (bs x.t)] 51)).cell? ⟨w.heap.size, 2, none⟩ = some (.string (bs x.t)) := by
  refine ⟨?_, ?_, ?_⟩ <;> (rw [World.cell?_alloc_mark]; rfl)
/-- One element more of a list, at its place. -/
theorem take_snoc {α : Type} {L : List α} {k : Nat} {x : α} (h : L[k]? = some x) : L.take (k + 1) = L.take k ++ [x] := by
  obtain ⟨hk, e⟩ := List.getElem?_eq_some_iff.1 h
  rw [List.take_succ_eq_append_getElem hk, e]
theorem take_all {α : Type} {L : List α} {n : Nat} (h : L.length = n) : L.take n = L := List.take_of_length_le (by omega)
theorem get_at {α : Type} {L : List α} {k : Nat} (h : k < L.length) : ∃ x, L[k]? = some x := ⟨L[k], List.getElem?_eq_getElem h⟩

/-! ### Lists of lists of sounds -/
/-- The values of a list of rows. -/
def srv (A : Option Addr) (n c : Nat) (vs : List (Option Addr × Nat)) (rows : List (List Snd)) : Itm := ⟨22, 1, .slice A n c, n, List.zipWith (fun v (row : List Snd) => Value.slice v.1 row.length v.2) vs rows⟩
/-- The rows. -/
def srows (vs : List (Option Addr × Nat)) (rows : List (List Snd)) : List Itm := List.zipWith (fun v row => snds v.1 row.length v.2 row) vs rows
theorem srow_info : (Try.prog.info? 22).map (fun i => (i.zero, i.size, i.bytes)) = some (some (.slice none 0 0), 1, 24) := by kernel_rfl
/-- Rows of sounds lie there. -/
def SRows (w : World) (A : Option Addr) (R : List (List Snd)) : Prop :=
  0 < R.length → ∃ b off, A = some ⟨b, off, none⟩ ∧ b < w.heap.size ∧ ∀ (j : Nat) row, R[j]? = some row →
    ∃ Aj cj, w.cell? ⟨b, off + j, none⟩ = some (.slice Aj row.length cj) ∧ row.length ≤ cj ∧ row.length ≤ 17592186044416 ∧ CellsIn w Aj (sndsC row)
theorem SRows.below {w w' : World} {A : Option Addr} {R : List (List Snd)} (h : SRows w A R) (hb : Below w.heap.size w w') : SRows w' A R := by
  intro h0
  obtain ⟨b, off, e, hlt, hc⟩ := h h0
  refine ⟨b, off, e, Nat.lt_of_lt_of_le hlt hb.size, fun j row hr => ?_⟩
  obtain ⟨Aj, cj, h1, h2, h3, h4⟩ := hc j row hr
  exact ⟨Aj, cj, (hb.cell (p := ⟨b, off + j, none⟩) hlt).trans h1, h2, h3, h4.below hb⟩
theorem run_app_srv {W w : World} {l : List Itm} {i : Nat} {A : Option Addr} {n c : Nat} {vs : List (Option Addr × Nat)} {rows : List (List Snd)} (h : Hp W l w) (hi : l[i]? = some (srv A n c vs rows)) (hvs : vs.length = rows.length) (ty : TypeId) {b : Nat} (C : Option Addr) (ℓ d : Nat) (row : List Snd) (hℓ : row.length = ℓ)
    (hb : w.cell? ⟨b, 0, none⟩ = some (.slice C ℓ d)) (hn : n ≤ 4000000000000) :
    ∃ g2 cap w', (Builtin.append_ #[76, 76] ty #[.slice A n c, .slice (some ⟨b, 0, none⟩) 1 1]).run Try.prog w = .ok (.slice (some ⟨g2, 0, none⟩) (n + 1) cap) w' ∧
      Hp W (l.set i (srv (some ⟨g2, 0, none⟩) (n + 1) cap (vs ++ [(C, d)]) (rows ++ [row]))) w' ∧ w.grownBy w' (Value.slice A n c).ownBlock := by
  have := run_app h hi (t := 76) (ty := ty) Try.underlying76 srow_info rfl (Nat.zero_lt_one) (by decide) (A := A) (c := c) rfl (b := b) [.slice C ℓ d] rfl (fun j u hu => by
    cases j with
    | zero => injection hu with hu; subst hu; exact hb
    | succ j => simp at hu) (fun u hu => by rw [List.mem_singleton.1 hu]; rfl) hn
  subst hℓ
  have e : List.zipWith (fun v (row : List Snd) => Value.slice v.1 row.length v.2) (vs ++ [(C, d)]) (rows ++ [row]) = List.zipWith (fun v (row : List Snd) => Value.slice v.1 row.length v.2) vs rows ++ [.slice C row.length d] := by rw [List.zipWith_append hvs]; rfl
  simpa [srv, e] using this
theorem srows_snoc {vs : List (Option Addr × Nat)} {rows : List (List Snd)} (C : Option Addr) (d : Nat) (row : List Snd) (h : vs.length = rows.length) : srows (vs ++ [(C, d)]) (rows ++ [row]) = srows vs rows ++ [snds C row.length d row] := by
  unfold srows
  rw [List.zipWith_append h]; rfl
theorem srows_in {W w : World} {l : List Itm} {i n c : Nat} {vs : List (Option Addr × Nat)} {rows : List (List Snd)} {A : Option Addr} (h : Hp W (l ++ srows vs rows) w) (hi : (l ++ srows vs rows)[i]? = some (srv A n c vs rows)) (hl : vs.length = rows.length) (hb : ∀ row ∈ rows, row.length ≤ 17592186044416) : SRows w A rows := by
  intro h0
  have hc := h.cells hi (A := A) (c := c) rfl
  obtain ⟨b, off, e, hlt, hcell⟩ := hc (by show 0 < (List.zipWith _ vs rows).length; rw [List.length_zipWith]; omega)
  refine ⟨b, off, e, hlt, fun j row hr => ?_⟩
  have hj := (List.getElem?_eq_some_iff.1 hr).1
  obtain ⟨v, hv⟩ : ∃ v, vs[j]? = some v := ⟨_, List.getElem?_eq_getElem (by omega)⟩
  have hit : (l ++ srows vs rows)[l.length + j]? = some (snds v.1 row.length v.2 row) := by
    rw [List.getElem?_append_right (by omega), Nat.add_sub_cancel_left]
    unfold srows
    rw [List.getElem?_zipWith, hv, hr]
  have hcap := h.cap hit (A := v.1) (c := v.2) rfl
  refine ⟨v.1, v.2, hcell j _ ?_, hcap.1, hb row (List.mem_of_getElem? hr), h.cells hit rfl⟩
  show (List.zipWith _ vs rows)[j]? = _
  rw [List.getElem?_zipWith, hv, hr]
theorem srow_done {W w : World} {l : List Itm} {C : Option Addr} {d : Nat} {vs : List (Option Addr × Nat)} {rows : List (List Snd)} {row : List Snd} (hl : vs.length = rows.length) (h : Hp W (snds C row.length d row :: (l ++ srows vs rows)) w) : Hp W (l ++ srows (vs ++ [(C, d)]) (rows ++ [row])) w := by
  rw [srows_snoc C d row hl, ← List.append_assoc]
  exact Hp.sink (l := l ++ srows vs rows) (l2 := []) (by rw [List.append_nil]; exact h)
theorem srows_get {vs : List (Option Addr × Nat)} {rows : List (List Snd)} {q : Nat} {v : Option Addr × Nat} {row : List Snd} (hv : vs[q]? = some v) (hr : rows[q]? = some row) : (srows vs rows)[q]? = some (snds v.1 row.length v.2 row) := by
  unfold srows; rw [List.getElem?_zipWith, hv, hr]
theorem zip_set {α β γ : Type} (f : α → β → γ) (a : α) (b : β) : ∀ (q : Nat) (xs : List α) (ys : List β), (List.zipWith f xs ys).set q (f a b) = List.zipWith f (xs.set q a) (ys.set q b)
  | _, [], ys => by simp
  | _, x :: xs, [] => by cases ‹Nat› <;> simp
  | 0, x :: xs, y :: ys => by simp
  | q + 1, x :: xs, y :: ys => by simp only [List.zipWith_cons_cons, List.set_cons_succ]; rw [zip_set f a b q xs ys]
theorem srows_set (vs : List (Option Addr × Nat)) (rows : List (List Snd)) (q : Nat) (A : Option Addr) (c : Nat) (row : List Snd) : (srows vs rows).set q (snds A row.length c row) = srows (vs.set q (A, c)) (rows.set q row) := zip_set _ (A, c) row q vs rows
/-- A row grows by a sound. -/
theorem Hp.srow_app {W w : World} {pre : List Itm} {vs : List (Option Addr × Nat)} {rows : List (List Snd)} {q : Nat} {v : Option Addr × Nat} {row : List Snd} (h : Hp W (pre ++ srows vs rows) w) (hv : vs[q]? = some v) (hr : rows[q]? = some row) (ty : TypeId) {b : Nat} (x : Snd) (hb : ∀ (j : Nat) u, (sndC x)[j]? = some u → w.cell? ⟨b, j, none⟩ = some u) (hn : row.length ≤ 4000000000000) :
    ∃ g cap w', (Builtin.append_ #[22, 22] ty #[.slice v.1 row.length v.2, .slice (some ⟨b, 0, none⟩) 1 1]).run Try.prog w = .ok (.slice (some ⟨g, 0, none⟩) (row.length + 1) cap) w' ∧
      Hp W (pre ++ srows (vs.set q (some ⟨g, 0, none⟩, cap)) (rows.set q (row ++ [x]))) w' ∧ w.grownBy w' (Value.slice v.1 row.length v.2).ownBlock := by
  have hi : (pre ++ srows vs rows)[pre.length + q]? = some (snds v.1 row.length v.2 row) := by
    rw [List.getElem?_append_right (by omega), Nat.add_sub_cancel_left]; exact srows_get hv hr
  obtain ⟨g, cap, w', h1, h2, h3⟩ := run_app_snd h hi ty x hb hn
  refine ⟨g, cap, w', h1, ?_, h3⟩
  rw [List.set_append_right _ _ (by omega), Nat.add_sub_cancel_left] at h2
  have e : (row ++ [x]).length = row.length + 1 := by simp
  have := srows_set vs rows q (some ⟨g, 0, none⟩) cap (row ++ [x])
  rw [e] at this
  rwa [this] at h2
/-- The value of a row is set. -/
theorem Hp.srv_set {W w : World} {l : List Itm} {i g n c : Nat} {vs : List (Option Addr × Nat)} {rows : List (List Snd)} (h : Hp W l w) (hi : l[i]? = some (srv (some ⟨g, 0, none⟩) n c vs rows)) (q : Nat) (A : Option Addr) (d : Nat) (row : List Snd) :
    Hp W (l.set i (srv (some ⟨g, 0, none⟩) n c (vs.set q (A, d)) (rows.set q row))) (w.setCell ⟨g, q, none⟩ (.slice A row.length d)) := by
  have := h.store hi (g := g) (cap := c) rfl q (.slice A row.length d)
  have e := zip_set (fun (v : Option Addr × Nat) (row : List Snd) => Value.slice v.1 row.length v.2) (A, d) row q vs rows
  unfold srv at this ⊢
  dsimp only at this
  rw [e] at this
  exact this
theorem Hp.srv_at {W w : World} {l : List Itm} {i g n c q : Nat} {vs : List (Option Addr × Nat)} {rows : List (List Snd)} {v : Option Addr × Nat} {row : List Snd} (h : Hp W l w) (hi : l[i]? = some (srv (some ⟨g, 0, none⟩) n c vs rows)) (hv : vs[q]? = some v) (hr : rows[q]? = some row) :
    w.cell? ⟨g, q, none⟩ = some (.slice v.1 row.length v.2) ∧ w.frozen? ⟨g, q, none⟩ = false ∧ g < w.heap.size := h.cell hi (cap := c) rfl (by show (List.zipWith _ vs rows)[q]? = _; rw [List.getElem?_zipWith, hv, hr])
theorem Hp.nils {W w : World} {l : List Itm} (h : Hp W l w) : ∀ N, Hp W (l ++ List.replicate N (snds none 0 0 [])) w
  | 0 => by simpa using h
  | N + 1 => by
    rw [List.replicate_succ', ← List.append_assoc]
    exact (h.nils N).nil_end (snds none 0 0 []) rfl rfl rfl
theorem zip_rep {α β γ : Type} (f : α → β → γ) (a : α) (b : β) : ∀ N, List.zipWith f (List.replicate N a) (List.replicate N b) = List.replicate N (f a b)
  | 0 => rfl
  | N + 1 => by rw [List.replicate_succ, List.replicate_succ, List.replicate_succ, List.zipWith_cons_cons, zip_rep f a b N]
theorem make_srows (N : Int) (n : Nat) (h : N = (n : Int)) (hn : n ≤ 1000000000000) (w : World) :
    (Instr.makeSlice 76 (.int .i64 N) (.int .i64 N)).run Try.prog w = .ok (.slice (some ⟨w.heap.size, 0, none⟩) n n) (w.alloc (.cells (List.replicate n (.slice none 0 0)).toArray 22)) := by
  obtain ⟨i0, hi, hz0, hz1, hz2⟩ := info_parts srow_info
  have := run_make (P := Try.prog) w 76 22 i0 (.slice none 0 0) Try.underlying76 hi hz0 .i64 .i64 N N (by omega) (Int.le_refl _) (by rw [hz2]; omega) (by omega)
  rw [this, hz1, h]
  simp only [Int.toNat_natCast]
  rw [made_cells _ _ rfl]
theorem Hp.made_rows {W w : World} {l : List Itm} (h : Hp W l w) (n : Nat) (hn : n ≤ 1000000000000) :
    Hp W (srv (some ⟨w.heap.size, 0, none⟩) n n (List.replicate n (none, 0)) (List.replicate n []) :: l) (w.alloc (.cells (List.replicate n (.slice none 0 0)).toArray 22)) := by
  refine h.new _ (bnew _ _) ?_ (fun k hk => by simp [srv, Value.ownBlock] at hk; omega)
  have := World.ownsRow_lit (base := W.heap.size) (e := 22) (size := 1) w (List.replicate n (.slice none 0 0)).toArray n h.below.size (by unfold maxLen; omega) (by simp)
  unfold srv
  rw [zip_rep]
  simpa using this
theorem Hp.made_rowsA {W w : World} {l : List Itm} (h : Hp W l w) (n : Nat) (hn : n ≤ 1000000000000) :
    Hp W (srv (some ⟨w.heap.size, 0, none⟩) n n (List.replicate n (none, 0)) (List.replicate n []) :: l) (w.alloc (.cells (Array.replicate n (.slice none 0 0)) 22)) := by
  have := h.made_rows n hn
  simpa using this
theorem srows_nils (n : Nat) : srows (List.replicate n (none, 0)) (List.replicate n []) = List.replicate n (snds none 0 0 []) := by unfold srows; rw [zip_rep]; rfl
end Go.Proofs.Ythcdbhancfpldaa
