/- Contracts of addTimes and takeTimes: they change a row of digits in place. -/
import Derived.Test.YtkfkefgkepoaaaaGreatDoorNWa
import Derived.Deep.QuietTactic
import Derived.BigQuiet
namespace Go.Proofs.YtkfkefgkepoaaaaGreatDoor
open Go.RowKit
set_option linter.unusedVariables false
set_option maxRecDepth 100000

theorem quiet_left {P : Program} {f : FuncId} {args : Array Value} {w : World} {n : Nat} {v : Value}
    (h : Calls P f args (w.drewN n) fun e w' => e = .returned v ∧ w.drewN n = w') : Calls P f args (w.drewN n) fun e w'' => e = .returned v ∧ ∃ m, w'' = w.drewN m :=
  h.mono fun _ _ ⟨he, hm⟩ => ⟨he, n, hm.symm⟩
/-- As IntsIn, in a block below number g. -/
def IntsLow (w : World) (A : Option Addr) (L : List Int) (g : Nat) : Prop :=
  0 < L.length → ∃ b off, A = some ⟨b, off, none⟩ ∧ b < g ∧ ∀ j, j < L.length → w.cell? ⟨b, off + j, none⟩ = some (.int .i64 (L.getD j 0))
theorem IntsIn.low {w0 w : World} {A : Option Addr} {L : List Int} {g : Nat} (h : IntsIn w0 A L) (hb : Below w0.heap.size w0 w) (hg : w0.heap.size ≤ g) : IntsLow w A L g := by
  intro h0
  obtain ⟨b, off, e, hlt, hc⟩ := h h0
  exact ⟨b, off, e, by omega, fun j hj => (hb.cell (p := ⟨b, off + j, none⟩) hlt).trans (hc j hj)⟩
theorem IntsLow.ins {w : World} {A : Option Addr} {L : List Int} {g : Nat} (h : IntsLow w A L g) (hg : g ≤ w.heap.size) : IntsIn w A L := by
  intro h0
  obtain ⟨b, off, e, hlt, hc⟩ := h h0
  exact ⟨b, off, e, by omega, hc⟩
/-- From w to w' only the cells from lo up to hi of block b have turned. -/
structure Chg (w w' : World) (b lo hi : Nat) : Prop where
  os : w'.os = w.os
  tape : w'.tape = w.tape
  output : w'.output = w.output
  size : w'.heap.size = w.heap.size
  block : ∀ k, k ≠ b → w'.heap[k]? = w.heap[k]?
  cell : ∀ j, j < lo ∨ hi ≤ j → w'.cell? ⟨b, j, none⟩ = w.cell? ⟨b, j, none⟩
  frozen : ∀ a, w'.frozen? a = w.frozen? a
theorem Chg.refl (w : World) (b lo hi : Nat) : Chg w w b lo hi := ⟨rfl, rfl, rfl, rfl, fun _ _ => rfl, fun _ _ => rfl, fun _ => rfl⟩
theorem Chg.trans {w w1 w2 : World} {b lo hi : Nat} (h : Chg w w1 b lo hi) (k : Chg w1 w2 b lo hi) : Chg w w2 b lo hi :=
  ⟨k.os.trans h.os, k.tape.trans h.tape, k.output.trans h.output, k.size.trans h.size, fun i hi => (k.block i hi).trans (h.block i hi), fun j hj => (k.cell j hj).trans (h.cell j hj), fun a => (k.frozen a).trans (h.frozen a)⟩
theorem Chg.drewN {w w1 : World} {b lo hi : Nat} (h : Chg w w1 b lo hi) (n : Nat) : Chg w (w1.drewN n) b lo hi := ⟨h.os, h.tape, h.output, h.size, h.block, h.cell, h.frozen⟩
theorem Chg.set {w w1 : World} {b lo hi : Nat} (h : Chg w w1 b lo hi) {j : Nat} (h1 : lo ≤ j) (h2 : j < hi) (v : Value) : Chg w (w1.setCell ⟨b, j, none⟩ v) b lo hi :=
  h.trans ⟨rfl, rfl, rfl, by simp [World.setCell], fun k hk => Below.heap_setCell _ _ _ _ hk, fun i hi => World.cell?_setCell_other _ _ _ _ (by first | (simp; done) | (simp; omega)), fun a => World.frozen?_setCell _ _ _ _⟩
theorem Chg.below {w0 w w' : World} {b lo hi B : Nat} (h : Below B w0 w) (k : Chg w w' b lo hi) (hb : B ≤ b) : Below B w0 w' :=
  h.trans ⟨k.os, k.tape, k.output, by rw [k.size]; exact Nat.le_refl _, fun i hi => k.block i (by omega)⟩
theorem Chg.wide {w w1 : World} {b lo hi lo' hi' : Nat} (h : Chg w w1 b lo hi) (h1 : lo' ≤ lo) (h2 : hi ≤ hi') : Chg w w1 b lo' hi' :=
  ⟨h.os, h.tape, h.output, h.size, h.block, fun j hj => h.cell j (by omega), h.frozen⟩
theorem IntsLow.chg {w w' : World} {A : Option Addr} {L : List Int} {g b lo hi : Nat} (h : IntsLow w A L g) (k : Chg w w' b lo hi) (hb : g ≤ b) : IntsLow w' A L g := by
  intro h0
  obtain ⟨c, off, e, hlt, hc⟩ := h h0
  exact ⟨c, off, e, hlt, fun j hj => (World.cell?_of_block (a := ⟨c, off + j, none⟩) (k.block c (by omega))).trans (hc j hj)⟩
/-- The cells of block g from off on hold the integers D, and may be written. -/
def RowIs (w : World) (g off : Nat) (D : List Int) : Prop :=
  ∀ j, j < D.length → w.cell? ⟨g, off + j, none⟩ = some (.int .i64 (D.getD j 0)) ∧ w.frozen? ⟨g, off + j, none⟩ = false
theorem RowIs.drewN {w : World} {g off : Nat} {D : List Int} (h : RowIs w g off D) (n : Nat) : RowIs (w.drewN n) g off D := h
theorem RowIs.set {w : World} {g off k : Nat} {D : List Int} (h : RowIs w g off D) (hk : k < D.length) (x : Int) : RowIs (w.setCell ⟨g, off + k, none⟩ (.int .i64 x)) g off (D.set k x) := by
  intro j hj
  rw [List.length_set] at hj
  refine ⟨?_, (World.frozen?_setCell _ _ _ _).trans (h j hj).2⟩
  by_cases e : j = k
  · subst e; rw [World.cell?_setCell_same _ _ _ (h j hj).1, getD_set_same x hj]
  · rw [World.cell?_setCell_other _ _ _ _ (by first | (simp; done) | (simp; omega)), (h j hj).1, getD_set_other x e]
theorem RowIs.ints {w : World} {g off : Nat} {D : List Int} (h : RowIs w g off D) (hg : g < w.heap.size) : IntsIn w (some ⟨g, off, none⟩) D :=
  fun _ => ⟨g, off, rfl, hg, fun j hj => (h j hj).1⟩

/-- The state of addTimes behind k places with the carry c. -/
def AddSt (g off n : Nat) (A0 Lb : List Int) (t : Int) (W : World) (k : Nat) (c : Int) (wr : World) : Prop :=
  ∃ D : List Int, D.length = n ∧ (∀ j, k ≤ j → D.getD j 0 = A0.getD j 0) ∧ Dig (D.take k) ∧ val (D.take k) + c * pw k = val (A0.take k) + t * val (Lb.take k) ∧ 0 ≤ c ∧ c ≤ t ∧ RowIs wr g off D ∧ Chg W wr g off (off + n)
theorem addSt_zero {g off n : Nat} {A0 Lb : List Int} {t : Int} {W : World} (h : RowIs W g off A0) (hn : A0.length = n) (ht : 0 ≤ t) : AddSt g off n A0 Lb t W 0 0 W :=
  ⟨A0, hn, fun _ _ => rfl, by simp; exact Dig.nil, by simp [val], by omega, ht, h, Chg.refl _ _ _ _⟩
theorem addSt_step {g off n k q : Nat} {A0 Lb : List Int} {t c s : Int} {W wr : World} (h : AddSt g off n A0 Lb t W k c wr) (hk : k < n) (hs : s = c + A0.getD k 0 + t * Lb.getD k 0) (h0 : 0 ≤ s) (h1 : s < 10000 * t + 10000) :
    AddSt g off n A0 Lb t W (k + 1) (s / 10000) ((wr.setCell ⟨g, off + k, none⟩ (.int .i64 (s % 10000))).drewN q) := by
  obtain ⟨D, hn, hr, hd, hv, c0, c1, hrow, hch⟩ := h
  refine ⟨D.set k (s % 10000), by simp [hn], fun j hj => ?_, ?_, ?_, by omega, by omega, (hrow.set (by omega) _).drewN q, (hch.set (by omega) (by omega) _).drewN q⟩
  · rw [getD_set_other _ (by omega), hr j (by omega)]
  · refine dig_take_step (by simp [hn, hk]) ?_ ?_ ?_
    · rw [take_set]; exact hd
    · rw [getD_set_same _ (by omega)]; omega
    · rw [getD_set_same _ (by omega)]; omega
  · rw [val_set_take _ (by omega), val_take_succ A0 k, val_take_succ Lb k, pw_succ]
    exact add_round hv _ _ hs
/-- What addTimes leaves. -/
def AddPost (g off n : Nat) (A0 Lb : List Int) (t : Int) (W : World) (e : Ending) (w' : World) : Prop :=
  e = .returned (.tuple #[]) ∧ ∃ D : List Int, D.length = n ∧ Dig (D.take (n - 1)) ∧ val D = val A0 + t * val Lb ∧ RowIs w' g off D ∧ Chg W w' g off (off + n)
theorem add_end {g off n k : Nat} {A0 Lb : List Int} {t c x : Int} {W wr : World} (h : AddSt g off n A0 Lb t W k c wr) (hk : k + 1 = n) (hA : A0.length = n) (hL : Lb.length ≤ k) (hx : x = A0.getD k 0 + c) :
    AddPost g off n A0 Lb t W (.returned (.tuple #[])) (wr.setCell ⟨g, off + k, none⟩ (.int .i64 x)) := by
  obtain ⟨D, hn, hr, hd, hv, c0, c1, hrow, hch⟩ := h
  refine ⟨rfl, D.set k x, by simp [hn], ?_, ?_, hrow.set (by omega) _, hch.set (by omega) (by omega) _⟩
  · rw [show n - 1 = k by omega, take_set]; exact hd
  · rw [take_all_val hL] at hv
    rw [val_last (L := D.set k x) (k := k) (by simp; omega), take_set, getD_set_same x (by omega), val_last (L := A0) (k := k) (by omega), hx]
    grind

theorem digitAt_y (L : List Int) (n c k : Nat) (A : Option Addr) (w : World) (y : Int) (hy : y = L.getD k 0) (hn : L.length = n) (hn63 : n ≤ maxLen) (hk : k ≤ maxLen) (hA : IntsIn w A L) :
    Calls Tryz.prog 105 #[.slice A n c, .int .i64 k] w fun e w' => e = .returned (.int .i64 y) ∧ w = w' := hy ▸ digitAt_any L n c k A w hn hn63 hk hA
set_option maxHeartbeats 1000000 in
theorem addTimes_any (g off n last c lb cb : Nat) (A0 Lb : List Int) (Ab : Option Addr) (t : Int) (W : World) (hn : A0.length = n) (hlast : last + 1 = n) (hnc : n ≤ c) (hn63 : n ≤ 100000) (hlb : Lb.length = lb) (hlb2 : lb ≤ last)
    (ht0 : 0 ≤ t) (ht1 : t ≤ 10000) (hdA : Dig (A0.take last)) (hdB : Dig Lb) (hrow : RowIs W g off A0) (hB : IntsLow W Ab Lb g) (hg : g < W.heap.size) (hx0 : -100000 ≤ A0.getD last 0) (hx1 : A0.getD last 0 ≤ 100000) :
    Calls Tryz.prog 89 #[.slice (some ⟨g, off, none⟩) n c, .slice Ab lb cb, .int .i64 t] W (AddPost g off n A0 Lb t W) := by
  have HN := Lib.hid hn
  have HLB := Lib.hid hlb
  have HDA := Lib.hid hdA
  have HDB := Lib.hid hdB
  have HROW := Lib.hid hrow
  have HB := Lib.hid hB
  have HLAST := Lib.hid hlast
  have hl0 : (0 : Int) ≤ (n : Int) - 1 := by omega
  have el : (n : Int) - 1 = (last : Int) := by omega
  have el2 : IntKind.i64.wrap ((n : Int) - 1) = (last : Int) := by rw [IntWalk.i64_in _ (by omega)]; exact el
  have hl1 : last < n := by omega
  clear hn hlb hdA hdB hrow hB hlast el
  go_enter Tryz.func89, Tryz.ntmps89
  go_wp2
  clear el2
  go_loopw [7, 13] (fun cv i wr => ∃ (k : Nat) (x : Int), k ≤ last ∧ i = .int .i64 (k : Int) ∧ cv = .int .i64 x ∧ AddSt g off n A0 Lb t W k x wr) (fun _ i _ => last - (intOf i).toNat)
  case atStart => exact ⟨0, 0, Nat.zero_le _, rfl, rfl, addSt_zero HROW.out HN.out ht0⟩
  case round =>
    obtain ⟨k, x, hk, rfl, rfl, hst⟩ := hrel
    have HST := Lib.hid hst
    obtain ⟨D, hD, hr, hd, hv, hx2, hx3, hrw, hch⟩ := hst
    obtain ⟨hc1, hf1⟩ := hrw k (by rw [hD]; have := HLAST.out; omega)
    rw [hr k (Nat.le_refl _)] at hc1
    have HCH := Lib.hid hch
    have HBW := Lib.hid (IntsLow.ins (HB.out.chg hch (Nat.le_refl _)) (by rw [hch.size]; omega))
    obtain ⟨a, ha⟩ : ∃ a, a = A0.getD k 0 := ⟨_, rfl⟩
    rw [← ha] at hc1
    have HA := Lib.hid ha
    clear hch hrw hv hd hr hD D ha
    by_cases hlt : k < last
    · obtain ⟨ha0, ha1⟩ : 0 ≤ a ∧ a < 10000 := by
        have := HDA.out.at k
        rw [HA.out]
        simpa [List.getD_eq_getElem?_getD, hlt] using this
      obtain ⟨y, hy⟩ : ∃ y, y = Lb.getD k 0 := ⟨_, rfl⟩
      obtain ⟨hy0, hy1⟩ : 0 ≤ y ∧ y < 10000 := by rw [hy]; exact HDB.out.at k
      have HY := Lib.hid hy
      clear hy
      obtain ⟨hm0, hm1⟩ := small_mul ht0 ht1 hy0 hy1
      obtain ⟨m, hm⟩ : ∃ m, m = t * y := ⟨_, rfl⟩
      rw [← hm] at hm0 hm1
      have hm2 : m ≤ 99990000 := by omega
      obtain ⟨s, hs⟩ : ∃ s, s = x + (a + m) := ⟨_, rfl⟩
      have hs0 : 0 ≤ s := by omega
      have hs1 : s ≤ 99990000 + 20000 := by omega
      have hs2 : s < 10000 * t + 10000 := by omega
      have HS := Lib.hid hs
      have HM := Lib.hid hm
      have hc63 : (k : Int) < (n : Int) := by omega
      have e1 : IntKind.i64.wrap (t * y) = m := by rw [← hm]; exact IntWalk.i64_in _ (by omega)
      have e2 : IntKind.i64.wrap (a + m) = a + m := IntWalk.i64_in _ (by omega)
      have e3 : IntKind.i64.wrap (x + (a + m)) = s := by rw [← hs]; exact IntWalk.i64_in _ (by omega)
      have k1 : lb ≤ maxLen := by unfold maxLen; omega
      have k2 : k ≤ maxLen := by unfold maxLen; omega
      clear hs hm
      go_wp2
      go_quiet ((go_at_call 105; exact quiet_left (digitAt_y Lb lb cb k Ab _ y HY.out HLB.out k1 k2 HBW.out)))
      clear e1 e2 e3
      go_wp2
      go_roundw
      case rel => exact ⟨k + 1, _, by omega, by go_num, rfl, addSt_step HST.out (by omega) (by rw [HS.out, HM.out, HA.out, HY.out, Int.add_assoc]) hs0 hs2⟩
      case measure => simp [intOf]; omega
    · obtain rfl : k = last := by omega
      have hq : -100000 ≤ a := by rw [HA.out]; exact hx0
      have hq1 : a ≤ 100000 := by rw [HA.out]; exact hx1
      have e2 : IntKind.i64.wrap (a + x) = a + x := IntWalk.i64_in _ (by omega)
      go_wp2
      go_end0
      exact add_end HST.out HLAST.out HN.out (by rw [HLB.out]; exact hlb2) (by rw [HA.out])

/-- The state of takeTimes behind k places with the borrow c. -/
def TakeSt (g off n : Nat) (A0 Lb : List Int) (t : Int) (W : World) (k : Nat) (c : Int) (wr : World) : Prop :=
  ∃ D : List Int, D.length = n ∧ (∀ j, k ≤ j → D.getD j 0 = A0.getD j 0) ∧ Dig (D.take k) ∧ val (D.take k) - c * pw k = val (A0.take k) - t * val (Lb.take k) ∧ 0 ≤ c ∧ c ≤ t + 1 ∧ RowIs wr g off D ∧ Chg W wr g off (off + n)
theorem takeSt_zero {g off n : Nat} {A0 Lb : List Int} {t : Int} {W : World} (h : RowIs W g off A0) (hn : A0.length = n) (ht : 0 ≤ t) : TakeSt g off n A0 Lb t W 0 0 W :=
  ⟨A0, hn, fun _ _ => rfl, by simp; exact Dig.nil, by simp [val], by omega, by omega, h, Chg.refl _ _ _ _⟩
theorem takeSt_step1 {g off n k : Nat} {A0 Lb : List Int} {t c s : Int} {W wr : World} (h : TakeSt g off n A0 Lb t W k c wr) (hk : k < n) (hs : s = c + t * Lb.getD k 0) (h0 : 0 ≤ s) (h1 : s < 10000 * t + 10000)
    (hv0 : 0 ≤ A0.getD k 0 - s % 10000) (hv1 : A0.getD k 0 < 10000) :
    TakeSt g off n A0 Lb t W (k + 1) (s / 10000) (wr.setCell ⟨g, off + k, none⟩ (.int .i64 (A0.getD k 0 - s % 10000))) := by
  obtain ⟨D, hn, hr, hd, hv, c0, c1, hrow, hch⟩ := h
  refine ⟨D.set k (A0.getD k 0 - s % 10000), by simp [hn], fun j hj => ?_, ?_, ?_, by omega, by omega, hrow.set (by omega) _, hch.set (by omega) (by omega) _⟩
  · rw [getD_set_other _ (by omega), hr j (by omega)]
  · refine dig_take_step (by simp [hn, hk]) ?_ ?_ ?_
    · rw [take_set]; exact hd
    · rw [getD_set_same _ (by omega)]; omega
    · rw [getD_set_same _ (by omega)]; omega
  · rw [val_set_take _ (by omega), val_take_succ A0 k, val_take_succ Lb k, pw_succ]
    exact take_round1 hv _ _ hs
theorem takeSt_step2 {g off n k : Nat} {A0 Lb : List Int} {t c s : Int} {W wr : World} (h : TakeSt g off n A0 Lb t W k c wr) (hk : k < n) (hs : s = c + t * Lb.getD k 0) (h0 : 0 ≤ s) (h1 : s < 10000 * t + 10000)
    (hv0 : A0.getD k 0 - s % 10000 < 0) (hv1 : 0 ≤ A0.getD k 0) :
    TakeSt g off n A0 Lb t W (k + 1) (s / 10000 + 1) ((wr.setCell ⟨g, off + k, none⟩ (.int .i64 (A0.getD k 0 - s % 10000))).setCell ⟨g, off + k, none⟩ (.int .i64 (A0.getD k 0 - s % 10000 + 10000))) := by
  obtain ⟨D, hn, hr, hd, hv, c0, c1, hrow, hch⟩ := h
  have hrow2 := (hrow.set (k := k) (by omega) (A0.getD k 0 - s % 10000)).set (k := k) (by simp; omega) (A0.getD k 0 - s % 10000 + 10000)
  rw [List.set_set] at hrow2
  refine ⟨D.set k (A0.getD k 0 - s % 10000 + 10000), by simp [hn], fun j hj => ?_, ?_, ?_, by omega, by omega, hrow2, (hch.set (by omega) (by omega) _).set (by omega) (by omega) _⟩
  · rw [getD_set_other _ (by omega), hr j (by omega)]
  · refine dig_take_step (by simp [hn, hk]) ?_ ?_ ?_
    · rw [take_set]; exact hd
    · rw [getD_set_same _ (by omega)]; omega
    · rw [getD_set_same _ (by omega)]; omega
  · rw [val_set_take _ (by omega), val_take_succ A0 k, val_take_succ Lb k, pw_succ]
    exact take_round2 hv _ _ hs
/-- What takeTimes leaves. -/
def TakePost (g off n : Nat) (A0 Lb : List Int) (t : Int) (W : World) (e : Ending) (w' : World) : Prop :=
  e = .returned (.tuple #[]) ∧ ∃ D : List Int, D.length = n ∧ Dig (D.take (n - 1)) ∧ val D = val A0 - t * val Lb ∧ RowIs w' g off D ∧ Chg W w' g off (off + n) ∧ (∃ c : Int, D.getD (n - 1) 0 = A0.getD (n - 1) 0 - c ∧ 0 ≤ c ∧ c ≤ t + 1)
theorem take_end {g off n k : Nat} {A0 Lb : List Int} {t c x : Int} {W wr : World} (h : TakeSt g off n A0 Lb t W k c wr) (hk : k + 1 = n) (hA : A0.length = n) (hL : Lb.length ≤ k) (hx : x = A0.getD k 0 - c) :
    TakePost g off n A0 Lb t W (.returned (.tuple #[])) (wr.setCell ⟨g, off + k, none⟩ (.int .i64 x)) := by
  obtain ⟨D, hn, hr, hd, hv, c0, c1, hrow, hch⟩ := h
  refine ⟨rfl, D.set k x, by simp [hn], ?_, ?_, hrow.set (by omega) _, hch.set (by omega) (by omega) _, c, ?_, c0, c1⟩
  · rw [show n - 1 = k by omega, take_set]; exact hd
  · rw [take_all_val hL] at hv
    rw [val_last (L := D.set k x) (k := k) (by simp; omega), take_set, getD_set_same x (by omega), val_last (L := A0) (k := k) (by omega), hx]
    grind
  · rw [show n - 1 = k by omega, getD_set_same x (by omega), hx]

set_option maxHeartbeats 1000000 in
theorem takeTimes_any (g off n last c lb cb : Nat) (A0 Lb : List Int) (Ab : Option Addr) (t : Int) (W : World) (hn : A0.length = n) (hlast : last + 1 = n) (hnc : n ≤ c) (hn63 : n ≤ 100000) (hlb : Lb.length = lb) (hlb2 : lb ≤ last)
    (ht0 : 0 ≤ t) (ht1 : t ≤ 10000) (hdA : Dig (A0.take last)) (hdB : Dig Lb) (hrow : RowIs W g off A0) (hB : IntsLow W Ab Lb g) (hg : g < W.heap.size) (hx0 : -100000 ≤ A0.getD last 0) (hx1 : A0.getD last 0 ≤ 100000) :
    Calls Tryz.prog 103 #[.slice (some ⟨g, off, none⟩) n c, .slice Ab lb cb, .int .i64 t] W (TakePost g off n A0 Lb t W) := by
  have HN := Lib.hid hn
  have HLB := Lib.hid hlb
  have HDA := Lib.hid hdA
  have HDB := Lib.hid hdB
  have HROW := Lib.hid hrow
  have HB := Lib.hid hB
  have HLAST := Lib.hid hlast
  have hl0 : (0 : Int) ≤ (n : Int) - 1 := by omega
  have el : (n : Int) - 1 = (last : Int) := by omega
  have el2 : IntKind.i64.wrap ((n : Int) - 1) = (last : Int) := by rw [IntWalk.i64_in _ (by omega)]; exact el
  have hl1 : last < n := by omega
  clear hn hlb hdA hdB hrow hB hlast el
  go_enter Tryz.func103, Tryz.ntmps103
  go_wp2
  clear el2
  go_loopw [7, 13] (fun cv i wr => ∃ (k : Nat) (x : Int), k ≤ last ∧ i = .int .i64 (k : Int) ∧ cv = .int .i64 x ∧ TakeSt g off n A0 Lb t W k x wr) (fun _ i _ => last - (intOf i).toNat)
  case atStart => exact ⟨0, 0, Nat.zero_le _, rfl, rfl, takeSt_zero HROW.out HN.out ht0⟩
  case round =>
    obtain ⟨k, x, hk, rfl, rfl, hst⟩ := hrel
    have HST := Lib.hid hst
    obtain ⟨D, hD, hr, hd, hv, hx2, hx3, hrw, hch⟩ := hst
    obtain ⟨hc1, hf1⟩ := hrw k (by rw [hD]; have := HLAST.out; omega)
    rw [hr k (Nat.le_refl _)] at hc1
    have HBW := Lib.hid (IntsLow.ins (HB.out.chg hch (Nat.le_refl _)) (by rw [hch.size]; omega))
    obtain ⟨a, ha⟩ : ∃ a, a = A0.getD k 0 := ⟨_, rfl⟩
    rw [← ha] at hc1
    have HA := Lib.hid ha
    clear hch hrw hv hd hr hD D ha
    by_cases hlt : k < last
    · obtain ⟨ha0, ha1⟩ : 0 ≤ a ∧ a < 10000 := by
        have := HDA.out.at k
        rw [HA.out]
        simpa [List.getD_eq_getElem?_getD, hlt] using this
      obtain ⟨y, hy⟩ : ∃ y, y = Lb.getD k 0 := ⟨_, rfl⟩
      obtain ⟨hy0, hy1⟩ : 0 ≤ y ∧ y < 10000 := by rw [hy]; exact HDB.out.at k
      have HY := Lib.hid hy
      clear hy
      obtain ⟨hm0, hm1⟩ := small_mul ht0 ht1 hy0 hy1
      obtain ⟨m, hm⟩ : ∃ m, m = t * y := ⟨_, rfl⟩
      rw [← hm] at hm0 hm1
      have hm2 : m ≤ 99990000 := by omega
      obtain ⟨s, hs⟩ : ∃ s, s = x + m := ⟨_, rfl⟩
      have hs0 : 0 ≤ s := by omega
      have hs1 : s ≤ 99990000 + 20000 := by omega
      have hs2 : s < 10000 * t + 10000 := by omega
      have HS := Lib.hid hs
      have HM := Lib.hid hm
      have hc63 : (k : Int) < (n : Int) := by omega
      have e1 : IntKind.i64.wrap (t * y) = m := by rw [← hm]; exact IntWalk.i64_in _ (by omega)
      have e3 : IntKind.i64.wrap (x + m) = s := by rw [← hs]; exact IntWalk.i64_in _ (by omega)
      have k1 : lb ≤ maxLen := by unfold maxLen; omega
      have k2 : k ≤ maxLen := by unfold maxLen; omega
      have HE := Lib.hid e1
      clear hs hm
      have hr0 : 0 ≤ s % 10000 := by omega
      have hr1 : s % 10000 < 10000 := by omega
      by_cases hneg : a - s % 10000 < 0
      · go_wp2_with fail
        refine (digitAt_y Lb lb cb k Ab _ y HY.out HLB.out k1 k2 HBW.out).mono ?_
        rintro e w' ⟨rfl, rfl⟩
        go_wp2
        go_roundw
        case rel => exact ⟨k + 1, _, by omega, by go_num, rfl, by rw [HA.out]; exact takeSt_step2 HST.out (by omega) (by rw [HS.out, HM.out, HY.out]) hs0 hs2 (by rw [← HA.out]; exact hneg) (by rw [← HA.out]; exact ha0)⟩
        case measure => simp [intOf]; omega
      · go_wp2_with fail
        refine (digitAt_y Lb lb cb k Ab _ y HY.out HLB.out k1 k2 HBW.out).mono ?_
        rintro e w' ⟨rfl, rfl⟩
        go_wp2
        go_roundw
        case rel => exact ⟨k + 1, _, by omega, by go_num, rfl, by rw [HA.out]; exact takeSt_step1 HST.out (by omega) (by rw [HS.out, HM.out, HY.out]) hs0 hs2 (by rw [← HA.out]; omega) (by rw [← HA.out]; exact ha1)⟩
        case measure => simp [intOf]; omega
    · obtain rfl : k = last := by omega
      have hq : -100000 ≤ a := by rw [HA.out]; exact hx0
      have hq1 : a ≤ 100000 := by rw [HA.out]; exact hx1
      have e2 : IntKind.i64.wrap (a - x) = a - x := IntWalk.i64_in _ (by omega)
      go_wp2
      go_end0
      exact take_end HST.out HLAST.out HN.out (by rw [HLB.out]; exact hlb2) (by rw [HA.out])
end Go.Proofs.YtkfkefgkepoaaaaGreatDoor
