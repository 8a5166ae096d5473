/- Several texts in one: Of, Ug, Uh, Uf, Ui, Og, Oi. -/
import Derived.Test.YtjamfcihjendiaaGreatRaah
import Derived.Lib.IndexMore
import Derived.Lib.Split
import Derived.Shelf.Strings.Count
import Derived.Shelf.Strings.Split
import Derived.Shelf.Strings.Cut
import Derived.Lib.Join
namespace Go.Proofs.YtjamfcihjendiaaGreat
open Go.RowKit
set_option linter.unusedVariables false
set_option linter.unusedSimpArgs false
set_option maxRecDepth 100000

def SgBd (L : List Sg) : Prop := ∀ x ∈ L, x.t.length ≤ 140737488355328 ∧ x.s.length ≤ 1000000 ∧ ∀ y ∈ x.s, y.t.length ≤ 140737488355328
set_option maxHeartbeats 8000000 in
theorem fault_any (nm : List UInt8) (L : List Sg) (A : Option Addr) (n c : Nat) (w : World) (hnm : nm.length ≤ 140737488355328) (hl : L.length = n) (hn : n ≤ 17592186044416) (hnc : n ≤ c) (hs : SgBd L) (hA : SgnIn w A L) :
    Calls Tryz.prog 74 #[.agg #[.string (bs nm), .slice A n c]] w fun e w' => e = .returned (.tuple #[.int .i64 (vO nm L).1, .int .i64 (vO nm L).2]) ∧ Below w.heap.size w w' := by
  obtain ⟨g1, hg1⟩ : ∃ z, z = w.heap.size := ⟨_, rfl⟩
  obtain ⟨W1, hW1⟩ : ∃ z, z = w.alloc (.cells #[.string (bs nm), .slice A n c] 24) := ⟨_, rfl⟩
  have V1 := Lib.hid (show Hp w [obox g1 nm A n c] W1 by rw [hW1, hg1]; exact (Hp.start w).obox_new nm A n c)
  have HW1 := Lib.hid hW1
  have HG1 := Lib.hid hg1
  have HA := Lib.hid hA
  have HS := Lib.hid hs
  have HL := Lib.hid hl
  have HNM := Lib.hid (show (bs nm).size ≤ maxLen by rw [bs_size]; unfold maxLen; omega)
  obtain ⟨x0, x1, x2⟩ := V1.out.obox_at (i := 0) rfl
  clear hW1 hg1 hA hs hl hnm
  go_enter Tryz.func74, Tryz.ntmps74
  go_upto_region 1 with fail
  rw [← HG1.out, ← HW1.out]
  go_wp2_with fail
  refine (K.isname_any (bs nm) _ HNM.out).mono ?_
  rintro e w2 ⟨rfl, hw⟩
  subst hw
  rw [bs_list]
  cases hname : K.nameB nm with
  | false =>
    have HE := Lib.hid (vO_name (L := L) hname)
    clear hname
    go_wp2_with fail
    go_ret2
    exact ⟨by rw [HE.out]; rfl, V1.out.below⟩
  | true =>
  by_cases h0 : n = 0
  · have HE := Lib.hid (vO_empty (L := L) hname (by have := HL.out; omega))
    have e0 : ((n : Int) == 0) = true := by simp [h0]
    clear hname h0
    go_wp2_with fail
    go_ret2
    exact ⟨by rw [HE.out]; rfl, V1.out.below⟩
  have e0 : ((n : Int) == 0) = false := by simp [h0]
  by_cases h120 : 120 < n
  · have HE := Lib.hid (vO_big (L := L) hname (by have := HL.out; omega))
    clear hname h0
    go_wp2_with fail
    go_ret2
    exact ⟨by rw [HE.out]; rfl, V1.out.below⟩
  have HV := Lib.hid (vO_is (L := L) hname (by have := HL.out; omega) (by have := HL.out; omega))
  clear hname h0
  go_wp2_with fail
  go_loopw [25] (fun i wr => ∃ k : Nat, k ≤ n ∧ i = .int .i64 (k : Int) ∧ FInv L k ∧ Hp w [obox g1 nm A n c] wr) (fun i _ => n - (intOf i).toNat)
  case atStart => exact ⟨0, Nat.zero_le _, rfl, FInv.start L, V1.out⟩
  case round =>
    obtain ⟨k, hk, rfl, hinv, hV⟩ := hrel
    obtain ⟨wi, rfl⟩ : ∃ wi : World, wi = wr := ⟨_, rfl⟩
    have HI := Lib.hid hinv
    have V2 := Lib.hid hV
    clear hinv hV x0 x1 x2 V1
    by_cases hlt : k < n
    · obtain ⟨x, hx⟩ := get_at (L := L) (k := k) (by have := HL.out; omega)
      obtain ⟨b, off, Aj, cj, hAe, hb, c0, c1, c2, c3, c4⟩ := (HA.out.below V2.out.below).at hx
      have HX := Lib.hid hx
      have HC := Lib.hid c4
      have HAE := Lib.hid hAe
      obtain ⟨hb1, hb2, hb3⟩ := HS.out x (List.mem_of_getElem? hx)
      have HB3 := Lib.hid hb3
      obtain ⟨x0, x1, x2⟩ := V2.out.obox_at (i := 0) rfl
      rw [hAe] at x1
      have hk4 : k * 4 ≤ 480 := by omega
      obtain ⟨g2, hg2⟩ : ∃ z, z = wi.heap.size := ⟨_, rfl⟩
      obtain ⟨W2, hW2⟩ : ∃ z, z = wi.alloc (.cells #[.string (bs x.t), .slice Aj x.s.length cj, .int .i64 x.c, .int .i64 x.w] 64) := ⟨_, rfl⟩
      have V3 := Lib.hid (show Hp w [sgbox g2 (Aj, cj) x, obox g1 nm A n c] W2 by rw [hW2, hg2]; exact V2.out.sgbox_new Aj cj x)
      have HW2 := Lib.hid hW2
      have HG2 := Lib.hid hg2
      subst hAe
      clear hx c4 hb3 hW2 hg2
      go_upto_region 10 with fail
      rw [← HG2.out, ← HW2.out]
      clear c0 c1 c2 c3 x0 x1 x2 hb
      obtain ⟨y0, y1, y2, y3, y4⟩ := V3.out.sgbox_at (i := 0) rfl
      dsimp only at y1
      obtain ⟨x0, x1, x2⟩ := V3.out.obox_at (i := 1) rfl
      have B23 := Lib.hid (show Below wi.heap.size wi W2 by rw [HW2.out]; exact bnew _ _)
      go_wp2_with fail
      refine (sgfault_any x Aj cj _ hb1 (by omega) HB3.out (HC.out.below B23.out)).mono ?_
      rintro e w4 ⟨rfl, hb4⟩
      have V4 := Lib.hid (V3.out.go hb4)
      have B34 := Lib.hid (btwo B23.out hb4)
      clear hb4 y0 y1 y2 y3 y4 x0 x1 x2
      obtain ⟨y0, y1, y2, y3, y4⟩ := V4.out.sgbox_at (i := 0) rfl
      dsimp only at y1
      obtain ⟨x0, x1, x2⟩ := V4.out.obox_at (i := 1) rfl
      by_cases hv : sgE x = 0
      · rw [hv]
        have HV0 := Lib.hid hv
        have hkc : k ≤ c := by omega
        clear hv
        go_wp2_with fail
        refine (sgcont_any (L.take k) x g2 cj Aj (some ⟨b, off, none⟩) k c _ (by rw [List.length_take]; have := HL.out; omega) (by omega) (fun y hy => (HS.out y (List.mem_of_mem_take hy)).2.1) hb2 ((HA.out.take k).below V4.out.below) ⟨y0, y1, y2, y3, y4, HC.out.below B34.out⟩).mono ?_
        rintro e w5 ⟨rfl, hb5⟩
        have V5 := Lib.hid (V4.out.go hb5)
        clear hb5
        cases hlike : ((L.take k).any fun e => likeB e x) with
        | true =>
          have HE := Lib.hid (HI.out.like HX.out HV0.out hlike)
          clear hlike
          go_wp2_with fail
          go_ret2
          exact ⟨by rw [HV.out, HE.out]; rfl, V5.out.below⟩
        | false =>
          have HN := Lib.hid (HI.out.step HX.out HV0.out hlike)
          clear hlike
          go_wp2_with fail
          go_roundw
          case rel => exact ⟨k + 1, by omega, by go_num, HN.out, V5.out.tail⟩
          case measure => simp [intOf]; omega
      · have HE := Lib.hid (HI.out.err HX.out hv)
        obtain ⟨v, hvv⟩ : ∃ v, v = sgE x := ⟨_, rfl⟩
        rw [← hvv] at hv HE ⊢
        have e1 : (v != 0) = true := bne_yes hv
        clear hv hvv
        go_wp2_with fail
        go_ret2
        exact ⟨by rw [HV.out, HE.out]; rfl, V4.out.below⟩
    · have HE := Lib.hid (HI.out.fin (by have := HL.out; omega))
      obtain ⟨x0, x1, x2⟩ := V2.out.obox_at (i := 0) rfl
      go_wp2_with fail
      go_ret2
      exact ⟨by rw [HV.out, HE.out]; rfl, V2.out.below⟩
end Go.Proofs.YtjamfcihjendiaaGreat

namespace Go.Proofs.YtjamfcihjendiaaGreat
open Go.RowKit
set_option linter.unusedVariables false
set_option linter.unusedSimpArgs false
set_option maxRecDepth 100000

theorem kept_cells {w w' : World} {g : Nat} {a b c : Value} (h : w.cell? ⟨g, 0, none⟩ = some a ∧ w.cell? ⟨g, 1, none⟩ = some b ∧ w.cell? ⟨g, 2, none⟩ = some c) (hg : g < w.heap.size) (hb : Below w.heap.size w w') : w'.cell? ⟨g, 0, none⟩ = some a ∧ w'.cell? ⟨g, 1, none⟩ = some b ∧ w'.cell? ⟨g, 2, none⟩ = some c :=
  ⟨(hb.cell (p := ⟨g, 0, none⟩) hg).trans h.1, (hb.cell (p := ⟨g, 1, none⟩) hg).trans h.2.1, (hb.cell (p := ⟨g, 2, none⟩) hg).trans h.2.2⟩
theorem add_run (a b : ByteArray) (h : a.size + b.size ≤ 140737488355328) : ∀ w : World, (Op.stringOp .add a b).run Tryz.prog w = .ok (.string (a ++ b)) w := fun w => run_string_add_sum w _ _ (by omega)
end Go.Proofs.YtjamfcihjendiaaGreat

namespace Go.Proofs.YtjamfcihjendiaaGreat
open Go.RowKit
set_option linter.unusedVariables false
set_option linter.unusedSimpArgs false
set_option maxRecDepth 100000

def MaxAt (w : World) : Prop := ∃ m : Int, w.cell? ⟨0, 0, none⟩ = some (.int .i64 m)
theorem MaxAt.below {w w' : World} (h : MaxAt w) (hb : Below w.heap.size w w') : MaxAt w' := by
  obtain ⟨m, hm⟩ := h
  exact ⟨m, (hb.cell (p := ⟨0, 0, none⟩) (World.block_lt_of_cell? _ _ hm)).trans hm⟩
def KeptS (g : Nat) (w : World) : Prop := w.heap[g]? = some (.cells #[.int .i64 0, .int .i64 0, .string ⟨#[]⟩] 96 (0, 0))
theorem KeptS.go {g : Nat} {w w' : World} (h : KeptS g w) (hb : Below w.heap.size w w') : KeptS g w' := by
  unfold KeptS at *
  rw [hb.block _ (Array.getElem?_eq_some_iff.1 h).1]; exact h
theorem bset {w v : World} (h : Below w.heap.size w v) (i : Nat) (a : Value) : Below w.heap.size w (v.setCell ⟨w.heap.size, i, none⟩ a) := h.setCell (p := ⟨w.heap.size, i, none⟩) (Nat.le_refl _) a
theorem bset3 {w v : World} (h : Below w.heap.size w v) (a b c : Value) : Below w.heap.size w (((v.setCell ⟨w.heap.size, 0, none⟩ a).setCell ⟨w.heap.size, 1, none⟩ b).setCell ⟨w.heap.size, 2, none⟩ c) := bset (bset (bset h 0 a) 1 b) 2 c
def RdPost (l : List UInt8) (w : World) (e : Ending) (w' : World) : Prop :=
  ∃ (y : Snd) (b : Bool), e = .returned (.tuple #[.agg #[.int .i64 y.k, .int .i64 y.q, .string (bs y.t)], .bool b]) ∧ ((b = true ∧ rdV l = some y) ∨ (b = false ∧ rdV l = none)) ∧ Below w.heap.size w w'
theorem rd_no {l : List UInt8} {w w' : World} (h : rdV l = none) (hb : Below w.heap.size w w') : RdPost l w (.returned (.tuple #[.agg #[.int .i64 0, .int .i64 0, .string ⟨#[]⟩], .bool false])) w' := ⟨⟨0, 0, []⟩, false, rfl, .inr ⟨rfl, h⟩, hb⟩
theorem hd_len (l : List UInt8) : (hdS l).length ≤ l.length := by unfold hdS; exact (List.takeWhile_sublist _).length_le
theorem kOf_le (c : UInt8) : Lib.indexByte ltrs c ≤ 8 := by
  by_cases h : 1 ≤ kOf c
  · have := (ltr_kOf h).2; unfold kOf at this; omega
  · unfold kOf at h; omega
theorem empty_bs {s : ByteArray} (h : s.size = 0) : s.toList = [] ∧ s.toList.isEmpty = true := by
  have e : s.data.toList = [] := List.eq_nil_of_length_eq_zero h
  rw [ByteArray.toList_eq, e]; exact ⟨rfl, rfl⟩
theorem full_bs {s : ByteArray} (h : 0 < s.size) : s.toList.isEmpty = false := by
  rw [ByteArray.toList_eq]
  cases e : s.data.toList with
  | nil => rw [← sizeB, e] at h; cases h
  | cons c l => rfl
theorem getD_b {r : ByteArray} {l : List UInt8} (h : r.data.toList = l) {i : Nat} (hi : i < r.size) : l.getD i 0 = r[i] := by
  rw [← h, List.getD_eq_getElem?_getD, List.getElem?_eq_getElem (by rw [sizeB]; exact hi)]; rfl
end Go.Proofs.YtjamfcihjendiaaGreat

namespace Go.Proofs.YtjamfcihjendiaaGreat
open Go.RowKit
set_option linter.unusedVariables false
set_option linter.unusedSimpArgs false
set_option maxRecDepth 100000

def fewB (L : List Snd) (N : Nat) : Bool := decide (L.length ≤ N) && L.all (fun x => decide (x.t.length ≤ 40))
theorem few_yes {L : List Snd} {N : Nat} (h : fewB L N = true) : L.length ≤ N ∧ ∀ x ∈ L, x.t.length ≤ 40 := by
  unfold fewB at h
  simpa using h
theorem few_len {L : List Snd} {N : Nat} (h : N < L.length) : fewB L N = false := by unfold fewB; rw [decide_eq_false (by omega)]; rfl
theorem few_not {L : List Snd} {N k : Nat} {x : Snd} (h : L[k]? = some x) (h1 : 40 < x.t.length) : fewB L N = false := by
  rw [Bool.eq_false_iff]; intro hf
  have := (few_yes hf).2 x (List.mem_of_getElem? h)
  omega
theorem few_all {L : List Snd} {N : Nat} (h : L.length ≤ N) (h1 : (L.take L.length).all (fun x => decide (x.t.length ≤ 40)) = true) : fewB L N = true := by
  rw [List.take_length] at h1
  unfold fewB; rw [h1, decide_eq_true h]; rfl
theorem few_step {L : List Snd} {k : Nat} {x : Snd} (h : L[k]? = some x) (h1 : (L.take k).all (fun x => decide (x.t.length ≤ 40)) = true) (h2 : x.t.length ≤ 40) : (L.take (k + 1)).all (fun x => decide (x.t.length ≤ 40)) = true := by
  rw [take_snoc h, List.all_append, h1]; simp [h2]
theorem idx_lt {α : Type} {L : List α} {n k : Nat} (hl : L.length = n) (h : k < n) : ∃ x, L[k]? = some x := get_at (by omega)
set_option maxHeartbeats 2000000 in
theorem few_any (L : List Snd) (N n c : Nat) (A : Option Addr) (w : World) (hl : L.length = n) (hn : n ≤ 17592186044416) (hN : N ≤ 1000000) (hs : ∀ x ∈ L, x.t.length ≤ 140737488355328) (hA : CellsIn w A (sndsC L)) :
    Calls Tryz.prog 34 #[.slice A n c, .int .i64 (N : Int)] w fun e w' => e = .returned (.bool (fewB L N)) ∧ w = w' := by
  have HL := Lib.hid hl
  have HA := Lib.hid hA
  have HS := Lib.hid hs
  by_cases hbig : N < n
  · have HF := Lib.hid (few_len (L := L) (N := N) (by omega))
    clear hl hA hs
    go_enter Tryz.func34, Tryz.ntmps34
    go_wp2
    go_ret
    exact ⟨ret_bool HF.out.symm, rfl⟩
  · clear hl hA hs
    go_enter Tryz.func34, Tryz.ntmps34
    go_wp2
    go_loopw [5] (fun i wr => ∃ k : Nat, k ≤ n ∧ i = .int .i64 k ∧ (L.take k).all (fun x => decide (x.t.length ≤ 40)) = true ∧ w = wr) (fun i _ => n - (intOf i).toNat)
    case atStart => exact ⟨0, Nat.zero_le _, rfl, rfl, rfl⟩
    case round =>
      obtain ⟨k, hk, rfl, hall, rfl⟩ := hrel
      have HALL := Lib.hid hall
      clear hall
      by_cases hlt : k < n
      · obtain ⟨x, hx⟩ := idx_lt HL.out hlt
        obtain ⟨b, off, rfl, hb, c0, c1, c2⟩ := HA.out.snd hx
        have HX := Lib.hid hx
        have hxs : x.t.length ≤ 140737488355328 := HS.out x (List.mem_of_getElem? hx)
        have hz : (bs x.t).size = x.t.length := rfl
        obtain ⟨y, hy⟩ : ∃ y, y = x.t.length := ⟨_, rfl⟩
        have HY := Lib.hid hy
        rw [← hy] at hxs hz
        clear hx c0 c1 hy
        by_cases h40 : 40 < y
        · have HF := Lib.hid (few_not (N := N) HX.out (by rw [← HY.out]; exact h40))
          go_wp2
          go_ret
          exact ⟨ret_bool HF.out.symm, rfl⟩
        · have HN := Lib.hid (few_step HX.out HALL.out (by rw [← HY.out]; omega))
          go_wp2
          go_roundw
          case rel => exact ⟨k + 1, by omega, by go_num, HN.out, trivial⟩
          case measure => simp [intOf]; omega
      · have HF := Lib.hid (show fewB L N = true from few_all (by have := HL.out; omega) (by have := HALL.out; rw [show k = L.length by have := HL.out; omega] at this; exact this))
        go_wp2
        go_ret
        exact ⟨ret_bool HF.out.symm, rfl⟩
theorem bt_bd (L : List Snd) (k : Nat) : btL (L.take k) ≤ k * 2 := by
  have := btL_le (L.take k)
  have h2 : (L.take k).length ≤ k := by rw [List.length_take]; omega
  have := Nat.mul_le_mul_right 2 h2
  omega
end Go.Proofs.YtjamfcihjendiaaGreat

namespace Go.Proofs.YtjamfcihjendiaaGreat
open Go.RowKit
set_option linter.unusedVariables false
set_option linter.unusedSimpArgs false
set_option maxRecDepth 100000

theorem sp_not {l : List UInt8} (h : ∀ c ∈ l, c ≠ 32) : ∀ c ∈ l, isSp c = false := fun c hc => by unfold isSp; simpa using h c hc
theorem splitL_none32 {l : List UInt8} (h : ∀ c ∈ l, c ≠ 32) : splL isSp l = [l] := splL_none (sp_not h)
theorem splitL_cut32 {x r : List UInt8} (h : ∀ c ∈ x, c ≠ 32) : splL isSp (x ++ 32 :: r) = x :: splL isSp r := splL_cut (sp_not h) rfl
def strC (P : List (List UInt8)) : List Value := P.map fun p => .string (bs p)
def strs (A : Option Addr) (n c : Nat) (P : List (List UInt8)) : Itm := ⟨9, 1, .slice A n c, n, strC P⟩
theorem strC_len (P : List (List UInt8)) : (strC P).length = P.length := by simp [strC]
theorem CellsIn.str {w : World} {A : Option Addr} {P : List (List UInt8)} (h : CellsIn w A (strC P)) {j : Nat} {p : List UInt8} (hp : P[j]? = some p) : ∃ b off, A = some ⟨b, off, none⟩ ∧ b < w.heap.size ∧ w.cell? ⟨b, off + j, none⟩ = some (.string (bs p)) := by
  have hj := (List.getElem?_eq_some_iff.1 hp).1
  obtain ⟨b, off, e, hlt, hc⟩ := h (by rw [strC_len]; omega)
  exact ⟨b, off, e, hlt, hc j _ (by unfold strC; rw [List.getElem?_map, hp]; rfl)⟩
def zS : Snd := ⟨0, 0, []⟩
def PsPost (L : List Snd) (er : Int) (w : World) (e : Ending) (w' : World) : Prop := ∃ A n c, e = .returned (.tuple #[.slice A n c, .int .i64 er]) ∧ L.length = n ∧ Hp w [snds A n c L] w'
theorem ps_none {L : List Snd} {er : Int} {w w' : World} {v : List Snd × Int} (h : v = ([], er)) (h2 : v = (L, er)) (hb : Below w.heap.size w w') : PsPost L er w (.returned (.tuple #[.slice none 0 0, .int .i64 er])) w' := by
  have e : L = [] := by rw [h] at h2; injection h2 with h2 _; exact h2.symm
  subst e
  exact ⟨none, 0, 0, rfl, rfl, ((Hp.start w).go hb).nil_row _ rfl rfl rfl⟩
theorem rd_take {P : List (List UInt8)} {acc : List Snd} {k : Nat} {p : List UInt8} {y : Snd} (h : (P.take k).map rdV = acc.map some) (hp : P[k]? = some p) (hy : rdV p = some y) : (P.take (k + 1)).map rdV = (acc ++ [y]).map some := by
  rw [take_snoc hp, List.map_append, h, List.map_append]; simp [hy]
theorem bs_self (s : ByteArray) : bs s.data.toList = s := (bs_of rfl).symm
end Go.Proofs.YtjamfcihjendiaaGreat

namespace Go.Proofs.YtjamfcihjendiaaGreat
open Go.RowKit
set_option linter.unusedVariables false
set_option linter.unusedSimpArgs false
set_option maxRecDepth 100000

theorem Hp.sgbox_all {W w : World} {l : List Itm} {i g : Nat} {v : Option Addr × Nat} {x : Sg} (h : Hp W l w) (hi : l[i]? = some (sgbox g v x)) :
    (w.cell? ⟨g, 0, none⟩ = some (.string (bs x.t)) ∧ w.cell? ⟨g, 1, none⟩ = some (.slice v.1 x.s.length v.2) ∧ w.cell? ⟨g, 2, none⟩ = some (.int .i64 x.c) ∧ w.cell? ⟨g, 3, none⟩ = some (.int .i64 x.w)) ∧ (w.frozen? ⟨g, 0, none⟩ = false ∧ w.frozen? ⟨g, 1, none⟩ = false ∧ w.frozen? ⟨g, 2, none⟩ = false ∧ w.frozen? ⟨g, 3, none⟩ = false) ∧ g < w.heap.size := by
  have a := h.box_at hi (j := 0) rfl
  have b := h.box_at hi (j := 1) rfl
  have c := h.box_at hi (j := 2) rfl
  have d := h.box_at hi (j := 3) rfl
  exact ⟨⟨a.1, b.1, c.1, d.1⟩, ⟨a.2.1, b.2.1, c.2.1, d.2.1⟩, a.2.2⟩
theorem Hp.sgbox_put {W w : World} {l : List Itm} {i g : Nat} {v : Option Addr × Nat} {x : Sg} (h : Hp W l w) (hi : l[i]? = some (sgbox g v x)) (A : Option Addr) (c : Nat) (y : Sg) :
    Hp W (l.set i (sgbox g (A, c) y)) ((((w.setCell ⟨g, 0, none⟩ (.string (bs y.t))).setCell ⟨g, 1, none⟩ (.slice A y.s.length c)).setCell ⟨g, 2, none⟩ (.int .i64 y.c)).setCell ⟨g, 3, none⟩ (.int .i64 y.w)) := by
  have hil := (List.getElem?_eq_some_iff.1 hi).1
  have h1 := Hp.box_set (T := 64) h hi 0 (.string (bs y.t))
  have h2 := Hp.box_set (T := 64) (i := i) h1 (by rw [Pt.set_at hil, if_pos rfl]) 1 (.slice A y.s.length c)
  have h3 := Hp.box_set (T := 64) (i := i) h2 (by rw [Pt.set_at (by rw [List.length_set]; exact hil), if_pos rfl]) 2 (.int .i64 y.c)
  have h4 := Hp.box_set (T := 64) (i := i) h3 (by rw [Pt.set_at (by rw [List.length_set, List.length_set]; exact hil), if_pos rfl]) 3 (.int .i64 y.w)
  simp only [List.set_set] at h4
  exact h4
def SgPost (x : Sg) (w : World) (e : Ending) (w' : World) : Prop :=
  ∃ A c, e = .returned (.tuple #[.agg #[.string (bs x.t), .slice A x.s.length c, .int .i64 x.c, .int .i64 x.w], .bool true]) ∧ Hp w [snds A x.s.length c x.s] w'
def zSg : Sg := ⟨[], [], 0, 0⟩
theorem ww_nat {w : Int} (h : 0 ≤ w ∧ w ≤ 4) : ∃ k : Nat, w = (k : Int) ∧ k ≤ 4 := ⟨w.toNat, by omega, by omega⟩
end Go.Proofs.YtjamfcihjendiaaGreat

namespace Go.Proofs.YtjamfcihjendiaaGreat
open Go.RowKit
set_option linter.unusedVariables false
set_option linter.unusedSimpArgs false
set_option maxRecDepth 100000

def latN : List UInt8 := [108, 97, 116, 105, 110]
def latL : List Sg := [
  ⟨[97], [⟨1, 3, [97]⟩], 1, 0⟩,
  ⟨[101], [⟨1, 3, [101]⟩], 1, 0⟩,
  ⟨[105], [⟨1, 3, [105]⟩], 1, 0⟩,
  ⟨[111], [⟨1, 3, [111]⟩], 1, 0⟩,
  ⟨[117], [⟨1, 3, [117]⟩], 1, 0⟩,
  ⟨[121], [⟨1, 3, [121]⟩], 1, 0⟩,
  ⟨[97, 95], [⟨1, 2, [97, 95]⟩], 1, 0⟩,
  ⟨[101, 95], [⟨1, 2, [101, 95]⟩], 1, 0⟩,
  ⟨[105, 95], [⟨1, 2, [105, 95]⟩], 1, 0⟩,
  ⟨[111, 95], [⟨1, 2, [111, 95]⟩], 1, 0⟩,
  ⟨[117, 95], [⟨1, 2, [117, 95]⟩], 1, 0⟩,
  ⟨[121, 95], [⟨1, 2, [121, 95]⟩], 1, 0⟩,
  ⟨[97, 94], [⟨1, 1, [97, 94]⟩], 1, 0⟩,
  ⟨[101, 94], [⟨1, 1, [101, 94]⟩], 1, 0⟩,
  ⟨[105, 94], [⟨1, 1, [105, 94]⟩], 1, 0⟩,
  ⟨[111, 94], [⟨1, 1, [111, 94]⟩], 1, 0⟩,
  ⟨[117, 94], [⟨1, 1, [117, 94]⟩], 1, 0⟩,
  ⟨[121, 94], [⟨1, 1, [121, 94]⟩], 1, 0⟩,
  ⟨[97, 101], [⟨2, 2, [97, 101]⟩], 1, 0⟩,
  ⟨[97, 117], [⟨2, 2, [97, 117]⟩], 1, 0⟩,
  ⟨[111, 101], [⟨2, 2, [111, 101]⟩], 1, 0⟩,
  ⟨[101, 117], [⟨2, 2, [101, 117]⟩], 3, 0⟩,
  ⟨[105], [⟨8, 0, [105]⟩], 0, 2⟩,
  ⟨[105], [⟨8, 0, [105]⟩, ⟨8, 0, [105]⟩], 0, 3⟩,
  ⟨[117], [⟨8, 0, [117]⟩], 0, 2⟩,
  ⟨[117], [⟨8, 0, [117]⟩], 0, 3⟩,
  ⟨[106], [⟨8, 0, [106]⟩], 0, 0⟩,
  ⟨[118], [⟨8, 0, [118]⟩], 0, 0⟩,
  ⟨[113, 117], [⟨3, 0, [113, 117]⟩], 0, 1⟩,
  ⟨[103, 117], [⟨3, 0, [103, 117]⟩], 2, 1⟩,
  ⟨[115, 117], [⟨6, 0, [115]⟩, ⟨8, 0, [117]⟩], 3, 1⟩,
  ⟨[98], [⟨3, 0, [98]⟩], 0, 0⟩,
  ⟨[99], [⟨3, 0, [99]⟩], 0, 0⟩,
  ⟨[100], [⟨3, 0, [100]⟩], 0, 0⟩,
  ⟨[102], [⟨3, 0, [102]⟩], 0, 0⟩,
  ⟨[103], [⟨3, 0, [103]⟩], 0, 0⟩,
  ⟨[107], [⟨3, 0, [107]⟩], 0, 0⟩,
  ⟨[112], [⟨3, 0, [112]⟩], 0, 0⟩,
  ⟨[116], [⟨3, 0, [116]⟩], 0, 0⟩,
  ⟨[108], [⟨4, 0, [108]⟩], 0, 0⟩,
  ⟨[114], [⟨4, 0, [114]⟩], 0, 0⟩,
  ⟨[109], [⟨5, 0, [109]⟩], 0, 0⟩,
  ⟨[110], [⟨5, 0, [110]⟩], 0, 0⟩,
  ⟨[115], [⟨6, 0, [115]⟩], 0, 0⟩,
  ⟨[120], [⟨7, 0, [120]⟩], 0, 0⟩,
  ⟨[122], [⟨7, 0, [122]⟩], 0, 0⟩,
  ⟨[104], [⟨9, 0, [104]⟩], 0, 0⟩]
theorem lat_ok : (vO latN latL).2 = 0 := by kernel_rfl
theorem SgBd.ok {nm : List UInt8} {L : List Sg} (h : (vO nm L).2 = 0) : SgBd L := by
  obtain ⟨_, _, _, h4⟩ := vO_zero h
  intro x hx
  obtain ⟨a, b, c, _⟩ := sgE_zero (h4 x hx)
  have := txE_zero a
  exact ⟨by omega, by omega, fun y hy => by have := vS_zero (c y hy); omega⟩
theorem nm_bnd {nm : List UInt8} {L : List Sg} (h : (vO nm L).2 = 0) : nm.length ≤ 20 := (name_bd (vO_zero h).1).2.1
set_option maxHeartbeats 4000000 in
theorem ovalid_any (nm : List UInt8) (L : List Sg) (A : Option Addr) (n c : Nat) (w : World) (hnm : nm.length ≤ 140737488355328) (hl : L.length = n) (hn : n ≤ 17592186044416) (hnc : n ≤ c) (hs : SgBd L) (hA : SgnIn w A L) :
    Calls Tryz.prog 55 #[.agg #[.string (bs nm), .slice A n c]] w fun e w' => e = .returned (.int .i64 (vO nm L).2) ∧ Below w.heap.size w w' := by
  obtain ⟨g1, hg1⟩ : ∃ z, z = w.heap.size := ⟨_, rfl⟩
  obtain ⟨W1, hW1⟩ : ∃ z, z = w.alloc (.cells #[.string (bs nm), .slice A n c] 24) := ⟨_, rfl⟩
  have V1 := Lib.hid (show Hp w [obox g1 nm A n c] W1 by rw [hW1, hg1]; exact (Hp.start w).obox_new nm A n c)
  have HW1 := Lib.hid hW1
  have HG1 := Lib.hid hg1
  have HF := Lib.hid (fault_any nm L A n c W1 hnm hl hn hnc hs (hA.below V1.out.below))
  obtain ⟨x0, x1, x2⟩ := V1.out.obox_at (i := 0) rfl
  clear hW1 hg1 hA hs hl hnm
  go_enter Tryz.func55, Tryz.ntmps55
  go_upto_region 1 with fail
  rw [← HG1.out, ← HW1.out]
  go_wp2_with fail
  refine HF.out.mono ?_
  rintro e w2 ⟨rfl, hb⟩
  have B2 := Lib.hid (btwo V1.out.below hb)
  clear hb
  go_wp2_with fail
  go_ret
  exact ⟨rfl, B2.out⟩
end Go.Proofs.YtjamfcihjendiaaGreat
