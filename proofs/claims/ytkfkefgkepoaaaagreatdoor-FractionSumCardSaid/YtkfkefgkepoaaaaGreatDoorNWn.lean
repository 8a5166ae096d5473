/- Contracts of Itoa and of Format of the program. -/
import Derived.Test.YtkfkefgkepoaaaaGreatDoorNWm
import Derived.Test.YtkfkefgkepoaaaaGreatDoorNMathT
import Derived.Test.YtkfkefgkepoaaaaGreatDoorShelfB
import Derived.Shelf.Strings.OnBuilder
import Derived.Laws.IdiomStrings
import Derived.Lib.AppendIntMem
namespace Go.Proofs.YtkfkefgkepoaaaaGreatDoor
open Go.RowKit
set_option linter.unusedVariables false
set_option maxRecDepth 100000

def Tab (w : World) : Prop := Lib.TabIs Tryz.prog w "internal/strconv.uint64pow10" .u64 Lib.pow10Tab
theorem Tab.below {w w' : World} (h : Tab w) (hb : Below w.heap.size w w') : Tab w' := Lib.tabBelow_of_tabIs h w' hb
theorem itoa_any (n : Int) (w : World) (h0 : 0 ≤ n) (h1 : n ≤ 100000) (ht : Tab w) :
    Calls Tryz.prog 53 #[.int .i64 n] w fun e w' => e = .returned (.string ⟨(Lib.itoa n).toArray⟩) ∧ Below w.heap.size w w' := by
  refine (Tryz.strconv_Itoa n (by omega) (by omega) w ht).mono ?_
  rintro e w' ⟨rfl, k, os, rfl⟩
  exact ⟨rfl, Lib.below_grow _ _ (Nat.le_refl _) _ _⟩
theorem itoa_pos (n : Int) (h : 0 ≤ n) : Lib.itoa n = fmt n := by
  unfold Lib.itoa fmt; rw [if_neg (by omega)]
def fmtV (L : List Int) : List UInt8 × Int := if vldB L = true then (fmt (val L), 0) else ([], 1)
def StrPost (r : List UInt8 × Int) (W : World) (e : Ending) (w' : World) : Prop :=
  e = .returned (.tuple #[.string ⟨r.1.toArray⟩, .int .i64 r.2]) ∧ Below W.heap.size W w'
theorem str_post {r : List UInt8 × Int} {l : List UInt8} {x : Int} {b : ByteArray} {W w' : World} (h : r = (l, x)) (hb : b = ⟨l.toArray⟩) (hB : Below W.heap.size W w') : StrPost r W (.returned (.tuple #[.string b, .int .i64 x])) w' := by
  subst h; subst hb; exact ⟨rfl, hB⟩
theorem fmt_zero : fmt 0 = [48] := by
  unfold fmt; rw [Lib.decDigits_one (by omega)]; rfl
/-- The state of Format with the digits from j on written. -/
def FmtSt (L : List Int) (b : Nat) (j : Nat) (w : World) : Prop :=
  ∃ l : List UInt8, isT l ∧ 0 < decV l ∧ decV l = val (L.drop j) ∧ l.length + 4 * j ≤ 4 * L.length ∧ Lib.IsBuilder 74 5 b b (Lib.byteCells l) w ∧ b < w.heap.size
theorem bcells_len (l : List UInt8) : (Lib.byteCells l).length = l.length := by simp [Lib.byteCells]
theorem own_below {w w' : World} {base z n : Nat} {t : TypeId} {v : Value} {xs : List Value} (h : w.ownsRow base t z v n xs) (hb : Below w.heap.size w w') : w'.ownsRow base t z v n xs :=
  h.kept (row := none) ⟨hb.os, hb.tape, hb.output, hb.size, fun k hk _ => hb.block k hk⟩ (by
    cases e : v.ownBlock with
    | none => exact .inl rfl
    | some k => exact .inr (by simp))
theorem builder_below {T e : TypeId} {B b : Nat} {bs : List Value} {w w' : World} (h : Lib.IsBuilder T e B b bs w) (hb : Below w.heap.size w w') (hbw : b < w.heap.size) : Lib.IsBuilder T e B b bs w' := by
  rcases h with ⟨h1, v, h2, h3, h4⟩ | ⟨h1, v, h2, h3, h4⟩
  · exact .inl ⟨h1, v, (hb.block b hbw).trans h2, own_below h3 hb, h4⟩
  · exact .inr ⟨h1, v, (hb.block b hbw).trans h2, own_below h3 hb, h4⟩
theorem itoa_len {d : Int} (h0 : 0 < d) (h1 : d < 10000) : (⟨(Lib.itoa d).toArray⟩ : ByteArray).size ≤ 4 := by
  have hp : val [d] = d := by simp [val]
  have := fmt_strip (L := [d]) (fun z hz => by simp at hz; subst hz; exact ⟨by omega, h1⟩) (by simp)
  rw [hp] at this
  rw [itoa_pos d (by omega), ← this]
  have := (strip_dec (padL [d])).2.1
  rw [padL_len] at this
  show (strip (padL [d])).toArray.size ≤ 4
  simpa using this
theorem fmt_first {L : List Int} {b j : Nat} {w : World} {d : Int} (hj : j + 1 = L.length) (hd : d = L.getD j 0) (h0 : 0 < d) (h1 : d < 10000) (hb : Lib.IsBuilder 74 5 b b ([] ++ Lib.strCells ⟨(Lib.itoa d).toArray⟩) w) (hw : b < w.heap.size) : FmtSt L b j w := by
  obtain ⟨t1, t2⟩ := isT_dec d.toNat
  have e : Lib.itoa d = fmt d := itoa_pos d (by omega)
  have hv : val (L.drop j) = d := by
    rw [drop_cons (by omega), ← hd, hj, List.drop_length]; simp [val]
  refine ⟨fmt d, t1, by rw [fmt_dec (by omega)]; exact h0, by rw [fmt_dec (by omega), hv], ?_, ?_, hw⟩
  · have hl : (fmt d).length ≤ 4 := by
      have hp : val [d] = d := by simp [val]
      have := fmt_strip (L := [d]) (fun z hz => by simp at hz; subst hz; exact ⟨by omega, h1⟩) (by simp)
      rw [hp] at this
      rw [← this]
      have := (strip_dec (padL [d])).2.1
      rw [padL_len] at this
      simpa using this
    omega
  · rw [e] at hb
    simpa [Lib.strCells_eq] using hb
theorem fmt_next {L : List Int} {b j : Nat} {w : World} {d : Int} {t : List UInt8} {y : ByteArray} (hj : j < L.length) (hd : d = L.getD j 0) (h0 : 0 ≤ d) (h1 : d < 10000) (ht : isT t) (hp : 0 < decV t) (hv : decV t = val (L.drop (j + 1))) (hl : t.length + 4 * (j + 1) ≤ 4 * L.length)
    (hy : y.data.toList = pad4 d) (hb : Lib.BuilderAt 74 5 b b (.pointer (some ⟨b, 0, none⟩)) (Lib.byteCells t ++ Lib.strCells y) w) (hw : b < w.heap.size) : FmtSt L b j w := by
  obtain ⟨p1, p2⟩ := isT_pad ht hp h0 h1
  refine ⟨t ++ pad4 d, p1, by rw [p2]; omega, by rw [p2, hv, drop_cons hj, ← hd], ?_, ?_, hw⟩
  · rw [List.length_append]; simp [pad4]; omega
  · rw [Lib.byteCells_append, ← hy, ← Lib.strCells_eq]; exact .inr hb
theorem pad_cut {d : Int} (h0 : 0 ≤ d) (h1 : d < 10000) {s : ByteArray} (hs : s = ⟨(Lib.itoa (10000 + d)).toArray⟩) : s.size = 5 ∧ (s.extract 1 s.size).data.toList = pad4 d := by
  rw [dec_pad h0 h1] at hs
  subst hs
  refine ⟨rfl, ?_⟩
  simp [pad4, ByteArray.size]
theorem fmt_done {L : List Int} {l : List UInt8} (hv : decV l = val (L.drop 0)) (ht : isT l) : l = fmt (val L) := fmt_of ht (by rw [hv, List.drop_zero])
theorem keep_box {W w1 w : World} {v : Value} {T : TypeId} (h1 : Below (W.alloc (.cells #[v] T)).heap.size (W.alloc (.cells #[v] T)) w1) (h2 : Below w1.heap.size w1 w) : w.cell? ⟨W.heap.size, 0, none⟩ = some v ∧ W.heap.size < w.heap.size ∧ Below W.heap.size W w := by
  have h3 := btwo h1 h2
  have hs := h3.size
  simp at hs h3
  refine ⟨(h3.cell (p := ⟨W.heap.size, 0, none⟩) (by simp)).trans (by simp), by omega, ((Below.refl _ _).alloc (Nat.le_refl _) _).trans (h3.mono (by omega))⟩
theorem hccR_of {L : List Int} {w w' : World} {bA oA : Nat} {j : Nat} (h : IntsIn w (some ⟨bA, oA, none⟩) L) (hb : Below w.heap.size w w') (hj : j < L.length) : w'.cell? ⟨bA, oA + j, none⟩ = some (.int .i64 (L.getD j 0)) := by
  obtain ⟨b, off, e, hlt, hc⟩ := h (by omega)
  injection e with e
  injection e with e1 e2 e3
  subst e1; subst e2
  exact (hb.cell (p := ⟨bA, oA + j, none⟩) hlt).trans (hc j hj)
set_option maxHeartbeats 2000000 in
theorem format_any (L : List Int) (n c : Nat) (A : Option Addr) (W : World) (hn : L.length = n) (hn63 : n ≤ maxLen) (hA : IntsIn W A L) (hT : Tab W) :
    Calls Tryz.prog 27 #[.agg #[.slice A n c]] W (StrPost (fmtV L) W) := by
  have HN := Lib.hid hn
  have HA := Lib.hid (hA.below ((Below.refl W.heap.size W).alloc (Nat.le_refl _) (.cells #[.slice A n c] 30)))
  have HT := Lib.hid (hT.below ((Below.refl W.heap.size W).alloc (Nat.le_refl _) (.cells #[.slice A n c] 30)))
  clear hn hA hT
  cases hv : vldB L with
  | false =>
    have HV := Lib.hid hv
    have HE := Lib.hid (show fmtV L = ([], 1) by unfold fmtV; rw [if_neg (by rw [hv]; simp)])
    clear hv
    go_enter Tryz.func27, Tryz.ntmps27
    go_wp2_with fail
    refine (valid_any L n c A _ HN.out hn63 HA.out).mono ?_
    rintro e w1 ⟨rfl, hb1⟩
    rw [HV.out]
    have HK := Lib.hid (keep_box hb1 (Below.refl _ _))
    clear hb1
    go_wp2_with fail
    go_ret2
    exact str_post HE.out rfl HK.out.2.2
  | true =>
    obtain ⟨l1, d1, e1, p1, q1⟩ := vldB_true hv
    have HV := Lib.hid hv
    have HE := Lib.hid (show fmtV L = (fmt (val L), 0) by unfold fmtV; rw [if_pos hv])
    have HD := Lib.hid d1
    have hn2 : n ≤ 200 := by rw [← HN.out]; exact l1
    by_cases h0 : n = 0
    · subst h0
      have HE2 := Lib.hid (show fmtV L = ([48], 0) by rw [HE.out, List.eq_nil_of_length_eq_zero HN.out, show val [] = 0 from rfl, fmt_zero])
      clear hv l1 d1 e1 p1 q1
      go_enter Tryz.func27, Tryz.ntmps27
      go_wp2_with fail
      refine (valid_any L 0 c A _ HN.out hn63 HA.out).mono ?_
      rintro e w1 ⟨rfl, hb1⟩
      rw [HV.out]
      obtain ⟨hc1, hs1, hbw1⟩ := keep_box hb1 (Below.refl _ _)
      have HK := Lib.hid hbw1
      clear hb1 hbw1
      go_wp2_with fail
      go_ret2
      exact str_post HE2.out rfl HK.out
    · obtain ⟨last, hlast⟩ : ∃ last, last + 1 = n := ⟨n - 1, by omega⟩
      obtain ⟨d, hd⟩ : ∃ d, d = L.getD last 0 := ⟨_, rfl⟩
      have hdig := d1.at last
      rw [← hd] at hdig
      have hd0 : d ≠ 0 := by
        intro e0
        have := vldB_false_last (L := L) (k := last) (by rw [HN.out]; exact hlast) (by rw [← hd]; exact e0)
        rw [hv] at this; cases this
      have hdp : 0 < d := by omega
      have hdq : d < 10000 := hdig.2
      have HDd := Lib.hid hd
      have HL := Lib.hid hlast
      have hln : last < n := by omega
      have hn0 : ((n : Int) == 0) = false := by simp; omega
      have ew : IntKind.i64.wrap ((n : Int) - 1) = (last : Int) := by rw [IntWalk.i64_in _ (by omega)]; omega
      clear hv l1 d1 e1 p1 q1 hd hdig hd0 h0 hlast
      go_enter Tryz.func27, Tryz.ntmps27
      go_wp2_with fail
      refine (valid_any L n c A _ HN.out hn63 HA.out).mono ?_
      rintro e w1 ⟨rfl, hb1⟩
      rw [HV.out]
      have HB1 := Lib.hid hb1
      obtain ⟨hc1, hs1, hbw1⟩ := keep_box hb1 (Below.refl _ _)
      have HA1 := Lib.hid (HA.out.below hb1)
      have HT1 := Lib.hid (HT.out.below hb1)
      obtain ⟨bA, oA, rfl, hbA, hccA⟩ := HA1.out (by rw [HN.out]; omega)
      have hcell := hccA last (by rw [HN.out]; exact hln)
      rw [← HDd.out] at hcell
      clear hb1 hbw1 hccA
      go_wp2_with fail
      refine (itoa_any d _ (by omega) (by omega) (HT1.out.below (by exact (Below.refl _ _).alloc (Nat.le_refl _) _))).mono ?_
      rintro e w2 ⟨rfl, hb2⟩
      obtain ⟨y0, hy0⟩ : ∃ y, y = (⟨(Lib.itoa d).toArray⟩ : ByteArray) := ⟨_, rfl⟩
      rw [← hy0]
      have HY0 := Lib.hid hy0
      have hyl : y0.size ≤ 4 := by rw [hy0]; exact itoa_len hdp hdq
      have HBl := Lib.hid (builder_below (Lib.fresh_isBuilder 74 5 w1) hb2 (by simp))
      have HB2 := Lib.hid (show Below w1.heap.size w1 w2 from ((Below.refl _ _).alloc (Nat.le_refl _) _).trans (hb2.mono (by simp)))
      have hsz2 : w1.heap.size < w2.heap.size := by have := hb2.size; simp at this; omega
      clear hb2 hy0
      go_wp2_with fail
      refine (Tryz.Builder_WriteString w1.heap.size w1.heap.size _ y0 _ HBl.out (by show 0 + y0.size ≤ _; omega) (by omega)).mono ?_
      rintro e w3 ⟨rfl, hbl3, hb3⟩
      have HB3 := Lib.hid (HB2.out.trans hb3)
      have HST := Lib.hid (fmt_first (L := L) (b := w1.heap.size) (j := last) (w := w3) (d := d) (by rw [HN.out]; exact HL.out) HDd.out hdp hdq (by have h := hbl3; rw [HY0.out] at h; exact .inr h) (Nat.lt_of_lt_of_le hsz2 hb3.size))
      clear hbl3 hb3 hc1 hs1 hcell hyl
      obtain ⟨hc1, hs1, hbw1⟩ := keep_box HB1.out HB3.out
      clear hbw1
      go_wp2_with fail
      go_loopw [6] (fun iv wr => ∃ (j : Nat) (a : Int), j < n ∧ a = (j : Int) - 1 ∧ iv = .int .i64 a ∧ FmtSt L w1.heap.size j wr ∧ Below w1.heap.size w1 wr) (fun iv _ => (intOf iv + 1).toNat)
      case atStart => exact ⟨last, _, hln, rfl, rfl, HST.out, HB3.out⟩
      case round =>
        clear hc1 hs1
        obtain ⟨j, a, hj, ha, rfl, ⟨l, t1, t2, t3, t4, t5, t6⟩, hb⟩ := hrel
        have HBR := Lib.hid hb
        have HT1' := Lib.hid t1
        have HT2 := Lib.hid t2
        have HT3 := Lib.hid t3
        have HT5 := Lib.hid t5
        have hl4 : l.length + 4 * j ≤ 800 := by rw [HN.out] at t4; omega
        have HT4 := Lib.hid t4
        have hbs : (Lib.byteCells l).length = l.length := bcells_len l
        have HBS := Lib.hid hbs
        obtain ⟨hc1, hs1, hbw1⟩ := keep_box HB1.out hb
        have HBW := Lib.hid hbw1
        clear t1 t2 t3 t5 hb hbs hbw1 t4
        cases j with
        | zero =>
          obtain rfl : a = -1 := by omega
          clear ha
          go_wp2_with fail
          refine (Tryz.Builder_String_any w1.heap.size w1.heap.size l _ HT5.out (by omega)).mono ?_
          rintro e w4 ⟨rfl, hb4⟩
          have HR := Lib.hid (str_post (W := W) (w' := w4) (HE.out) (show (⟨l.toArray⟩ : ByteArray) = ⟨(fmt (val L)).toArray⟩ by rw [← fmt_done HT3.out HT1'.out]) (HBW.out.trans (hb4.mono (by have := (keep_box HB1.out (Below.refl _ _)).2.1; omega))))
          clear hb4
          go_wp2_with fail
          go_ret2
          exact HR.out
        | succ i =>
          obtain rfl : a = (i : Int) := by omega
          clear ha
          have hcell := hccR_of HA1.out HBR.out (j := i) (by rw [HN.out]; omega)
          obtain ⟨d2, hd2⟩ : ∃ d, d = L.getD i 0 := ⟨_, rfl⟩
          have hdg := HD.out.at i
          rw [← hd2] at hdg hcell
          obtain ⟨hd20, hd21⟩ := hdg
          have HD2 := Lib.hid hd2
          have hin : (i : Int) < (n : Int) := by omega
          clear hd2
          go_wp2_with fail
          refine (itoa_any (10000 + d2) _ (by omega) (by omega) (HT1.out.below HBR.out)).mono ?_
          rintro e w4 ⟨rfl, hb4⟩
          obtain ⟨s, hs⟩ : ∃ y, y = (⟨(Lib.itoa (10000 + d2)).toArray⟩ : ByteArray) := ⟨_, rfl⟩
          rw [← hs]
          obtain ⟨hss, hsc⟩ := pad_cut hd20 hd21 hs
          have HSC := Lib.hid hsc
          have hs5 : s.size ≤ 5 := by omega
          have hs6 : 5 ≤ s.size := by omega
          have hes : (s.extract 1 s.size).size ≤ 4 := by rw [ByteArray.size_extract]; omega
          have HBl2 := Lib.hid (builder_below HT5.out hb4 t6)
          have HB4 := Lib.hid (HBR.out.trans (hb4.mono (by have := HBR.out.size; exact this)))
          have hsz4 : w1.heap.size < w4.heap.size := Nat.lt_of_lt_of_le t6 hb4.size
          clear hb4 hs hss hsc hc1 hs1 hcell
          obtain ⟨hc1, hs1, _⟩ := keep_box HB1.out HB4.out
          go_wp2_with fail
          refine (Tryz.Builder_WriteString w1.heap.size w1.heap.size _ (s.extract 1 s.size) _ HBl2.out (by rw [HBS.out]; omega) (by omega)).mono ?_
          rintro e w5 ⟨rfl, hbl5, hb5⟩
          have R := Lib.hid (fmt_next (L := L) (b := w1.heap.size) (j := i) (w := w5) (by rw [HN.out]; omega) HD2.out hd20 hd21 HT1'.out HT2.out HT3.out HT4.out HSC.out hbl5 (Nat.lt_of_lt_of_le hsz4 hb5.size))
          have HB5 := Lib.hid (HB4.out.trans hb5)
          clear hbl5 hb5
          go_wp2_with fail
          go_roundw
          case rel => exact ⟨i, _, by omega, rfl, rfl, R.out, HB5.out⟩
          case measure => simp [intOf]
end Go.Proofs.YtkfkefgkepoaaaaGreatDoor
