/- Several texts in one: Ug, Uh, Uf, Ui, Og, Oi. -/
import Derived.Test.YtpifchlpakajjaaGreatRtai
import Derived.Lib.IndexMore
import Derived.Lib.Split
import Derived.Shelf.Strings.Count
import Derived.Shelf.Strings.Split
import Derived.Shelf.Strings.Cut
import Derived.Lib.Join
import Derived.Test.YtpifchlpakajjaaGreatRtaj
namespace Go.Proofs.YtpifchlpakajjaaGreat
open Go.RowKit
set_option linter.unusedVariables false
set_option linter.unusedSimpArgs false
set_option maxRecDepth 100000

theorem kept_cells {w w' : World} {g : Nat} {a b c : Value} (h : w.cell? ⟨g, 0, none⟩ = some a ∧ w.cell? ⟨g, 1, none⟩ = some b ∧ w.cell? ⟨g, 2, none⟩ = some c) (hg : g < w.heap.size) (hb : Below w.heap.size w w') : w'.cell? ⟨g, 0, none⟩ = some a ∧ w'.cell? ⟨g, 1, none⟩ = some b ∧ w'.cell? ⟨g, 2, none⟩ = some c :=
  ⟨(hb.cell (p := ⟨g, 0, none⟩) hg).trans h.1, (hb.cell (p := ⟨g, 1, none⟩) hg).trans h.2.1, (hb.cell (p := ⟨g, 2, none⟩) hg).trans h.2.2⟩
theorem add_run (a b : ByteArray) (h : a.size + b.size ≤ 140737488355328) : ∀ w : World, (Op.stringOp .add a b).run Tryz.prog w = .ok (.string (a ++ b)) w := fun w => run_string_add_sum w _ _ (by omega)
end Go.Proofs.YtpifchlpakajjaaGreat

namespace Go.Proofs.YtpifchlpakajjaaGreat
open Go.RowKit
set_option linter.unusedVariables false
set_option linter.unusedSimpArgs false
set_option maxRecDepth 100000

def MaxAt (w : World) : Prop := ∃ m : Int, w.cell? ⟨0, 0, none⟩ = some (.int .i64 m)
theorem MaxAt.below {w w' : World} (h : MaxAt w) (hb : Below w.heap.size w w') : MaxAt w' := by
  obtain ⟨m, hm⟩ := h
  exact ⟨m, (hb.cell (p := ⟨0, 0, none⟩) (World.block_lt_of_cell? _ _ hm)).trans hm⟩
def KeptS (g : Nat) (w : World) : Prop := w.heap[g]? = some (.cells #[.int .i64 0, .int .i64 0, .string ⟨#[]⟩] 89 (0, 0))
theorem KeptS.go {g : Nat} {w w' : World} (h : KeptS g w) (hb : Below w.heap.size w w') : KeptS g w' := by
  unfold KeptS at *
  rw [hb.block _ (Array.getElem?_eq_some_iff.1 h).1]; exact h
theorem bset {w v : World} (h : Below w.heap.size w v) (i : Nat) (a : Value) : Below w.heap.size w (v.setCell ⟨w.heap.size, i, none⟩ a) := h.setCell (p := ⟨w.heap.size, i, none⟩) (Nat.le_refl _) a
theorem bset3 {w v : World} (h : Below w.heap.size w v) (a b c : Value) : Below w.heap.size w (((v.setCell ⟨w.heap.size, 0, none⟩ a).setCell ⟨w.heap.size, 1, none⟩ b).setCell ⟨w.heap.size, 2, none⟩ c) := bset (bset (bset h 0 a) 1 b) 2 c
def RdPost (l : List UInt8) (w : World) (e : Ending) (w' : World) : Prop :=
  ∃ (y : Snd) (b : Bool), e = .returned (.tuple #[.agg #[.int .i64 y.k, .int .i64 y.q, .string (bs y.t)], .bool b]) ∧ ((b = true ∧ rdV l = some y) ∨ (b = false ∧ rdV l = none)) ∧ Below w.heap.size w w'
theorem rd_no {l : List UInt8} {w w' : World} (h : rdV l = none) (hb : Below w.heap.size w w') : RdPost l w (.returned (.tuple #[.agg #[.int .i64 0, .int .i64 0, .string ⟨#[]⟩], .bool false])) w' := ⟨⟨0, 0, []⟩, false, rfl, .inr ⟨rfl, h⟩, hb⟩
theorem hd_len (l : List UInt8) : (hdS l).length ≤ l.length := by unfold hdS; exact (List.takeWhile_sublist _).length_le
theorem kOf_le (c : UInt8) : Lib.indexByte ltrs c ≤ 8 := by
  by_cases h : 1 ≤ kOf c
  · have := (ltr_kOf h).2; unfold kOf at this; omega
  · unfold kOf at h; omega
theorem empty_bs {s : ByteArray} (h : s.size = 0) : s.toList = [] ∧ s.toList.isEmpty = true := by
  have e : s.data.toList = [] := List.eq_nil_of_length_eq_zero h
  rw [ByteArray.toList_eq, e]; exact ⟨rfl, rfl⟩
theorem full_bs {s : ByteArray} (h : 0 < s.size) : s.toList.isEmpty = false := by
  rw [ByteArray.toList_eq]
  cases e : s.data.toList with
  | nil => rw [← sizeB, e] at h; cases h
  | cons c l => rfl
theorem getD_b {r : ByteArray} {l : List UInt8} (h : r.data.toList = l) {i : Nat} (hi : i < r.size) : l.getD i 0 = r[i] := by
  rw [← h, List.getD_eq_getElem?_getD, List.getElem?_eq_getElem (by rw [sizeB]; exact hi)]; rfl
end Go.Proofs.YtpifchlpakajjaaGreat

namespace Go.Proofs.YtpifchlpakajjaaGreat
open Go.RowKit
set_option linter.unusedVariables false
set_option linter.unusedSimpArgs false
set_option maxRecDepth 100000

theorem idx_lt {α : Type} {L : List α} {n k : Nat} (hl : L.length = n) (h : k < n) : ∃ x, L[k]? = some x := get_at (by omega)
theorem bt_bd (L : List Snd) (k : Nat) : btL (L.take k) ≤ k * 2 := by
  have := btL_le (L.take k)
  have h2 : (L.take k).length ≤ k := by rw [List.length_take]; omega
  have := Nat.mul_le_mul_right 2 h2
  omega
end Go.Proofs.YtpifchlpakajjaaGreat

namespace Go.Proofs.YtpifchlpakajjaaGreat
open Go.RowKit
set_option linter.unusedVariables false
set_option linter.unusedSimpArgs false
set_option maxRecDepth 100000

theorem sp_not {l : List UInt8} (h : ∀ c ∈ l, c ≠ 32) : ∀ c ∈ l, isSp c = false := fun c hc => by unfold isSp; simpa using h c hc
theorem splitL_none32 {l : List UInt8} (h : ∀ c ∈ l, c ≠ 32) : splL isSp l = [l] := splL_none (sp_not h)
theorem splitL_cut32 {x r : List UInt8} (h : ∀ c ∈ x, c ≠ 32) : splL isSp (x ++ 32 :: r) = x :: splL isSp r := splL_cut (sp_not h) rfl
def strC (P : List (List UInt8)) : List Value := P.map fun p => .string (bs p)
def strs (A : Option Addr) (n c : Nat) (P : List (List UInt8)) : Itm := ⟨9, 1, .slice A n c, n, strC P⟩
theorem strC_len (P : List (List UInt8)) : (strC P).length = P.length := by simp [strC]
theorem CellsIn.str {w : World} {A : Option Addr} {P : List (List UInt8)} (h : CellsIn w A (strC P)) {j : Nat} {p : List UInt8} (hp : P[j]? = some p) : ∃ b off, A = some ⟨b, off, none⟩ ∧ b < w.heap.size ∧ w.cell? ⟨b, off + j, none⟩ = some (.string (bs p)) := by
  have hj := (List.getElem?_eq_some_iff.1 hp).1
  obtain ⟨b, off, e, hlt, hc⟩ := h (by rw [strC_len]; omega)
  exact ⟨b, off, e, hlt, hc j _ (by unfold strC; rw [List.getElem?_map, hp]; rfl)⟩
def zS : Snd := ⟨0, 0, []⟩
def PsPost (L : List Snd) (er : Int) (w : World) (e : Ending) (w' : World) : Prop := ∃ A n c, e = .returned (.tuple #[.slice A n c, .int .i64 er]) ∧ L.length = n ∧ Hp w [snds A n c L] w'
theorem ps_none {L : List Snd} {er : Int} {w w' : World} {v : List Snd × Int} (h : v = ([], er)) (h2 : v = (L, er)) (hb : Below w.heap.size w w') : PsPost L er w (.returned (.tuple #[.slice none 0 0, .int .i64 er])) w' := by
  have e : L = [] := by rw [h] at h2; injection h2 with h2 _; exact h2.symm
  subst e
  exact ⟨none, 0, 0, rfl, rfl, ((Hp.start w).go hb).nil_row _ rfl rfl rfl⟩
theorem rd_take {P : List (List UInt8)} {acc : List Snd} {k : Nat} {p : List UInt8} {y : Snd} (h : (P.take k).map rdV = acc.map some) (hp : P[k]? = some p) (hy : rdV p = some y) : (P.take (k + 1)).map rdV = (acc ++ [y]).map some := by
  rw [take_snoc hp, List.map_append, h, List.map_append]; simp [hy]
theorem bs_self (s : ByteArray) : bs s.data.toList = s := (bs_of rfl).symm
end Go.Proofs.YtpifchlpakajjaaGreat

namespace Go.Proofs.YtpifchlpakajjaaGreat
open Go.RowKit
set_option linter.unusedVariables false
set_option linter.unusedSimpArgs false
set_option maxRecDepth 100000

theorem Hp.sgbox_all {W w : World} {l : List Itm} {i g : Nat} {v : Option Addr × Nat} {x : Sg} (h : Hp W l w) (hi : l[i]? = some (sgbox g v x)) :
    (w.cell? ⟨g, 0, none⟩ = some (.string (bs x.t)) ∧ w.cell? ⟨g, 1, none⟩ = some (.slice v.1 x.s.length v.2) ∧ w.cell? ⟨g, 2, none⟩ = some (.int .i64 x.c) ∧ w.cell? ⟨g, 3, none⟩ = some (.int .i64 x.w)) ∧ (w.frozen? ⟨g, 0, none⟩ = false ∧ w.frozen? ⟨g, 1, none⟩ = false ∧ w.frozen? ⟨g, 2, none⟩ = false ∧ w.frozen? ⟨g, 3, none⟩ = false) ∧ g < w.heap.size := by
  have a := h.box_at hi (j := 0) rfl
  have b := h.box_at hi (j := 1) rfl
  have c := h.box_at hi (j := 2) rfl
  have d := h.box_at hi (j := 3) rfl
  exact ⟨⟨a.1, b.1, c.1, d.1⟩, ⟨a.2.1, b.2.1, c.2.1, d.2.1⟩, a.2.2⟩
theorem Hp.sgbox_put {W w : World} {l : List Itm} {i g : Nat} {v : Option Addr × Nat} {x : Sg} (h : Hp W l w) (hi : l[i]? = some (sgbox g v x)) (A : Option Addr) (c : Nat) (y : Sg) :
    Hp W (l.set i (sgbox g (A, c) y)) ((((w.setCell ⟨g, 0, none⟩ (.string (bs y.t))).setCell ⟨g, 1, none⟩ (.slice A y.s.length c)).setCell ⟨g, 2, none⟩ (.int .i64 y.c)).setCell ⟨g, 3, none⟩ (.int .i64 y.w)) := by
  have hil := (List.getElem?_eq_some_iff.1 hi).1
  have h1 := Hp.box_set (T := 58) h hi 0 (.string (bs y.t))
  have h2 := Hp.box_set (T := 58) (i := i) h1 (by rw [Pt.set_at hil, if_pos rfl]) 1 (.slice A y.s.length c)
  have h3 := Hp.box_set (T := 58) (i := i) h2 (by rw [Pt.set_at (by rw [List.length_set]; exact hil), if_pos rfl]) 2 (.int .i64 y.c)
  have h4 := Hp.box_set (T := 58) (i := i) h3 (by rw [Pt.set_at (by rw [List.length_set, List.length_set]; exact hil), if_pos rfl]) 3 (.int .i64 y.w)
  simp only [List.set_set] at h4
  exact h4
def SgPost (x : Sg) (w : World) (e : Ending) (w' : World) : Prop :=
  ∃ A c, e = .returned (.tuple #[.agg #[.string (bs x.t), .slice A x.s.length c, .int .i64 x.c, .int .i64 x.w], .bool true]) ∧ Hp w [snds A x.s.length c x.s] w'
def zSg : Sg := ⟨[], [], 0, 0⟩
theorem ww_nat {w : Int} (h : 0 ≤ w ∧ w ≤ 4) : ∃ k : Nat, w = (k : Int) ∧ k ≤ 4 := ⟨w.toNat, by omega, by omega⟩
end Go.Proofs.YtpifchlpakajjaaGreat

namespace Go.Proofs.YtpifchlpakajjaaGreat
open Go.RowKit
set_option linter.unusedVariables false
set_option linter.unusedSimpArgs false
set_option maxRecDepth 100000

def latN : List UInt8 := [108, 97, 116, 105, 110]
def latL : List Sg := [
  ⟨[97], [⟨1, 3, [97]⟩], 1, 0⟩,
  ⟨[101], [⟨1, 3, [101]⟩], 1, 0⟩,
  ⟨[105], [⟨1, 3, [105]⟩], 1, 0⟩,
  ⟨[111], [⟨1, 3, [111]⟩], 1, 0⟩,
  ⟨[117], [⟨1, 3, [117]⟩], 1, 0⟩,
  ⟨[121], [⟨1, 3, [121]⟩], 1, 0⟩,
  ⟨[97, 95], [⟨1, 2, [97, 95]⟩], 1, 0⟩,
  ⟨[101, 95], [⟨1, 2, [101, 95]⟩], 1, 0⟩,
  ⟨[105, 95], [⟨1, 2, [105, 95]⟩], 1, 0⟩,
  ⟨[111, 95], [⟨1, 2, [111, 95]⟩], 1, 0⟩,
  ⟨[117, 95], [⟨1, 2, [117, 95]⟩], 1, 0⟩,
  ⟨[121, 95], [⟨1, 2, [121, 95]⟩], 1, 0⟩,
  ⟨[97, 94], [⟨1, 1, [97, 94]⟩], 1, 0⟩,
  ⟨[101, 94], [⟨1, 1, [101, 94]⟩], 1, 0⟩,
  ⟨[105, 94], [⟨1, 1, [105, 94]⟩], 1, 0⟩,
  ⟨[111, 94], [⟨1, 1, [111, 94]⟩], 1, 0⟩,
  ⟨[117, 94], [⟨1, 1, [117, 94]⟩], 1, 0⟩,
  ⟨[121, 94], [⟨1, 1, [121, 94]⟩], 1, 0⟩,
  ⟨[97, 101], [⟨2, 2, [97, 101]⟩], 1, 0⟩,
  ⟨[97, 117], [⟨2, 2, [97, 117]⟩], 1, 0⟩,
  ⟨[111, 101], [⟨2, 2, [111, 101]⟩], 1, 0⟩,
  ⟨[101, 117], [⟨2, 2, [101, 117]⟩], 3, 0⟩,
  ⟨[105], [⟨8, 0, [105]⟩], 0, 2⟩,
  ⟨[105], [⟨8, 0, [105]⟩, ⟨8, 0, [105]⟩], 0, 3⟩,
  ⟨[117], [⟨8, 0, [117]⟩], 0, 2⟩,
  ⟨[117], [⟨8, 0, [117]⟩], 0, 3⟩,
  ⟨[106], [⟨8, 0, [106]⟩], 0, 0⟩,
  ⟨[118], [⟨8, 0, [118]⟩], 0, 0⟩,
  ⟨[113, 117], [⟨3, 0, [113, 117]⟩], 0, 1⟩,
  ⟨[103, 117], [⟨3, 0, [103, 117]⟩], 2, 1⟩,
  ⟨[115, 117], [⟨6, 0, [115]⟩, ⟨8, 0, [117]⟩], 3, 1⟩,
  ⟨[98], [⟨3, 0, [98]⟩], 0, 0⟩,
  ⟨[99], [⟨3, 0, [99]⟩], 0, 0⟩,
  ⟨[100], [⟨3, 0, [100]⟩], 0, 0⟩,
  ⟨[102], [⟨3, 0, [102]⟩], 0, 0⟩,
  ⟨[103], [⟨3, 0, [103]⟩], 0, 0⟩,
  ⟨[107], [⟨3, 0, [107]⟩], 0, 0⟩,
  ⟨[112], [⟨3, 0, [112]⟩], 0, 0⟩,
  ⟨[116], [⟨3, 0, [116]⟩], 0, 0⟩,
  ⟨[108], [⟨4, 0, [108]⟩], 0, 0⟩,
  ⟨[114], [⟨4, 0, [114]⟩], 0, 0⟩,
  ⟨[109], [⟨5, 0, [109]⟩], 0, 0⟩,
  ⟨[110], [⟨5, 0, [110]⟩], 0, 0⟩,
  ⟨[115], [⟨6, 0, [115]⟩], 0, 0⟩,
  ⟨[120], [⟨7, 0, [120]⟩], 0, 0⟩,
  ⟨[122], [⟨7, 0, [122]⟩], 0, 0⟩,
  ⟨[104], [⟨9, 0, [104]⟩], 0, 0⟩]
theorem lat_ok : (vO latN latL).2 = 0 := by kernel_rfl
def grkN : List UInt8 := [103, 114, 101, 101, 107]
def grkL : List Sg := [
  ⟨[97], [⟨1, 3, [97]⟩], 1, 0⟩,
  ⟨[105], [⟨1, 3, [105]⟩], 1, 0⟩,
  ⟨[117], [⟨1, 3, [117]⟩], 1, 0⟩,
  ⟨[97, 95], [⟨1, 2, [97, 95]⟩], 1, 0⟩,
  ⟨[105, 95], [⟨1, 2, [105, 95]⟩], 1, 0⟩,
  ⟨[117, 95], [⟨1, 2, [117, 95]⟩], 1, 0⟩,
  ⟨[97, 94], [⟨1, 1, [97, 94]⟩], 1, 0⟩,
  ⟨[105, 94], [⟨1, 1, [105, 94]⟩], 1, 0⟩,
  ⟨[117, 94], [⟨1, 1, [117, 94]⟩], 1, 0⟩,
  ⟨[101], [⟨1, 1, [101]⟩], 1, 0⟩,
  ⟨[111], [⟨1, 1, [111]⟩], 1, 0⟩,
  ⟨[101, 95], [⟨1, 2, [101, 95]⟩], 1, 0⟩,
  ⟨[111, 95], [⟨1, 2, [111, 95]⟩], 1, 0⟩,
  ⟨[97, 105], [⟨2, 2, [97, 105]⟩], 1, 0⟩,
  ⟨[97, 117], [⟨2, 2, [97, 117]⟩], 1, 0⟩,
  ⟨[101, 105], [⟨2, 2, [101, 105]⟩], 1, 0⟩,
  ⟨[101, 117], [⟨2, 2, [101, 117]⟩], 1, 0⟩,
  ⟨[111, 105], [⟨2, 2, [111, 105]⟩], 1, 0⟩,
  ⟨[111, 117], [⟨2, 2, [111, 117]⟩], 1, 0⟩,
  ⟨[117, 105], [⟨2, 2, [117, 105]⟩], 1, 0⟩,
  ⟨[112, 104], [⟨3, 0, [112, 104]⟩], 0, 0⟩,
  ⟨[116, 104], [⟨3, 0, [116, 104]⟩], 0, 0⟩,
  ⟨[107, 104], [⟨3, 0, [107, 104]⟩], 0, 0⟩,
  ⟨[112], [⟨3, 0, [112]⟩], 0, 0⟩,
  ⟨[116], [⟨3, 0, [116]⟩], 0, 0⟩,
  ⟨[107], [⟨3, 0, [107]⟩], 0, 0⟩,
  ⟨[98], [⟨3, 0, [98]⟩], 0, 0⟩,
  ⟨[100], [⟨3, 0, [100]⟩], 0, 0⟩,
  ⟨[103], [⟨3, 0, [103]⟩], 0, 0⟩,
  ⟨[114, 104], [⟨4, 0, [114, 104]⟩], 0, 0⟩,
  ⟨[108], [⟨4, 0, [108]⟩], 0, 0⟩,
  ⟨[114], [⟨4, 0, [114]⟩], 0, 0⟩,
  ⟨[109], [⟨5, 0, [109]⟩], 0, 0⟩,
  ⟨[110], [⟨5, 0, [110]⟩], 0, 0⟩,
  ⟨[115], [⟨6, 0, [115]⟩], 0, 0⟩,
  ⟨[112, 115], [⟨7, 0, [112, 115]⟩], 0, 0⟩,
  ⟨[107, 115], [⟨7, 0, [107, 115]⟩], 0, 0⟩,
  ⟨[120], [⟨7, 0, [120]⟩], 0, 0⟩,
  ⟨[122], [⟨7, 0, [122]⟩], 0, 0⟩,
  ⟨[104], [⟨9, 0, [104]⟩], 0, 2⟩]
theorem grk_ok : (vO grkN grkL).2 = 0 := by kernel_rfl
theorem SgBd.ok {nm : List UInt8} {L : List Sg} (h : (vO nm L).2 = 0) : SgBd L := by
  obtain ⟨_, _, _, h4⟩ := vO_zero h
  intro x hx
  obtain ⟨a, b, c, _⟩ := sgE_zero (h4 x hx)
  have := txE_zero a
  exact ⟨by omega, by omega, fun y hy => by have := vS_zero (c y hy); omega⟩
theorem nm_bnd {nm : List UInt8} {L : List Sg} (h : (vO nm L).2 = 0) : nm.length ≤ 20 := (name_bd (vO_zero h).1).2.1
set_option maxHeartbeats 4000000 in
theorem ovalid_any (nm : List UInt8) (L : List Sg) (A : Option Addr) (n c : Nat) (w : World) (hnm : nm.length ≤ 140737488355328) (hl : L.length = n) (hn : n ≤ 17592186044416) (hnc : n ≤ c) (hs : SgBd L) (hA : SgnIn w A L) :
    Calls Tryz.prog 81 #[.agg #[.string (bs nm), .slice A n c]] w fun e w' => e = .returned (.int .i64 (vO nm L).2) ∧ Below w.heap.size w w' := by
  obtain ⟨g1, hg1⟩ : ∃ z, z = w.heap.size := ⟨_, rfl⟩
  obtain ⟨W1, hW1⟩ : ∃ z, z = w.alloc (.cells #[.string (bs nm), .slice A n c] 24) := ⟨_, rfl⟩
  have V1 := Lib.hid (show Hp w [obox g1 nm A n c] W1 by rw [hW1, hg1]; exact (Hp.start w).obox_new nm A n c)
  have HW1 := Lib.hid hW1
  have HG1 := Lib.hid hg1
  have HF := Lib.hid (fault_any nm L A n c W1 hnm hl hn hnc hs (hA.below V1.out.below))
  obtain ⟨x0, x1, x2⟩ := V1.out.obox_at (i := 0) rfl
  clear hW1 hg1 hA hs hl hnm
  go_enter Tryz.func81, Tryz.ntmps81
  go_upto_region 1 with fail
  rw [← HG1.out, ← HW1.out]
  go_wp2_with fail
  refine HF.out.mono ?_
  rintro e w2 ⟨rfl, hb⟩
  have B2 := Lib.hid (btwo V1.out.below hb)
  clear hb
  go_wp2_with fail
  go_ret
  exact ⟨rfl, B2.out⟩
end Go.Proofs.YtpifchlpakajjaaGreat
