/- Several texts in one: Oo, Op, Os, Ow. -/
import Derived.Test.YtjamfcihjendiaaGreatRaap
import Derived.Deep.WholeRow
import Derived.Test.YtjamfcihjendiaaGreatRaah
import Derived.Test.YtjamfcihjendiaaGreatRaaj
namespace Go.Proofs.YtjamfcihjendiaaGreat
open Go.RowKit
set_option linter.unusedVariables false
set_option linter.unusedSimpArgs false
set_option maxRecDepth 100000

def fitB (L : List Sg) (i : Int) (B A : List Snd) : Bool := if i < 0 then false else match L[i.toNat]? with
  | none => false
  | some x => whB x.w B A
theorem fitB_neg {L : List Sg} {i : Int} {B A : List Snd} (h : i < 0) : fitB L i B A = false := by unfold fitB; rw [if_pos h]
theorem fitB_out {L : List Sg} {i : Int} {B A : List Snd} (h0 : ¬ i < 0) (h : (L.length : Int) ≤ i) : fitB L i B A = false := by
  unfold fitB; rw [if_neg h0, List.getElem?_eq_none (by omega)]
theorem fitB_at {L : List Sg} {k : Nat} {x : Sg} {B A : List Snd} (h : L[k]? = some x) : fitB L (k : Int) B A = whB x.w B A := by
  unfold fitB; rw [if_neg (by omega), show (k : Int).toNat = k by omega, h]
theorem last_at {α : Type} {l : List α} {m : Nat} (h : l.length = m + 1) : ∃ x, l[m]? = some x := ⟨l[m]'(by omega), List.getElem?_eq_getElem (by omega)⟩
theorem fits_cell (nm : List UInt8) (k : Nat) (wv : Int) (n c nb cb na ca b off : Nat) (AB AA : Option Addr) (w : World) (B A : List Snd) (hk : k < n) (hn : n ≤ 17592186044416) (hb : b < w.heap.size) (hc : w.cell? ⟨b, off + k * 4 + 3, none⟩ = some (.int .i64 wv))
    (hB : B.length = nb) (hnb : nb ≤ 1000000) (hA : A.length = na) (hna : na ≤ 1000000) (hcB : CellsIn w AB (sndsC B)) (hcA : CellsIn w AA (sndsC A)) :
    Calls Tryz.prog 60 #[.agg #[.string (bs nm), .slice (some ⟨b, off, none⟩) n c], .int .i64 (k : Int), .slice AB nb cb, .slice AA na ca] w fun e w' => e = .returned (.bool (whB wv B A)) ∧ Below w.heap.size w w' := by
  unfold whB
  by_cases ha : na = 0
  · subst ha
    rw [show begB A = false by rw [nil_of hA]; rfl]
    by_cases hb0 : nb = 0
    · subst hb0
      rw [show endB B = false by rw [nil_of hB]; rfl, show (B.length == 0) = true by rw [hB]; rfl]
      exact fits_11 nm k wv n c 0 cb 0 ca b off w AA AB hk hn hb hc
    · obtain ⟨m, rfl⟩ : ∃ m, nb = m + 1 := ⟨nb - 1, by omega⟩
      obtain ⟨y, hy⟩ := last_at hB
      obtain ⟨r, o2, rfl, hr, y0⟩ := hcB.snd hy
      rw [endB_at hB hy, show (B.length == 0) = false by rw [hB]; rfl]
      exact fits_10 nm k wv n c 0 cb 0 ca b off w y r o2 m AA hk hn hb hc hr (by omega) y0
  · obtain ⟨m, rfl⟩ : ∃ m, na = m + 1 := ⟨na - 1, by omega⟩
    obtain ⟨x, hx⟩ := get_at (L := A) (k := 0) (by omega)
    obtain ⟨p, o1, rfl, hp, x0, x1, x2⟩ := hcA.snd hx
    simp only [Nat.zero_mul, Nat.add_zero] at x0 x1 x2
    rw [begB_at hx]
    by_cases hb0 : nb = 0
    · subst hb0
      rw [show endB B = false by rw [nil_of hB]; rfl, show (B.length == 0) = true by rw [hB]; rfl]
      exact fits_01 nm k wv n c 0 cb 0 ca b off w x p o1 m AB hk hn hb hc hp (by omega) ⟨x0, x1, x2⟩
    · obtain ⟨m', rfl⟩ : ∃ m, nb = m + 1 := ⟨nb - 1, by omega⟩
      obtain ⟨y, hy⟩ := last_at hB
      obtain ⟨r, o2, rfl, hr, y0⟩ := hcB.snd hy
      rw [endB_at hB hy, show (B.length == 0) = false by rw [hB]; rfl]
      exact fits_00 nm k wv n c 0 cb 0 ca b off w x p o1 m y r o2 m' hk hn hb hc hp (by omega) ⟨x0, x1, x2⟩ hr (by omega) y0
set_option maxHeartbeats 4000000 in
theorem fits_none (nm : List UInt8) (L : List Sg) (i : Int) (n c nb cb na ca : Nat) (AO AB AA : Option Addr) (w : World) (B A : List Snd) (h : i < 0 ∨ (n : Int) ≤ i) (hl : L.length = n) :
    Calls Tryz.prog 60 #[.agg #[.string (bs nm), .slice AO n c], .int .i64 i, .slice AB nb cb, .slice AA na ca] w fun e w' => e = .returned (.bool (fitB L i B A)) ∧ Below w.heap.size w w' := by
  obtain ⟨g1, hg1⟩ : ∃ z, z = w.heap.size := ⟨_, rfl⟩
  obtain ⟨W1, hW1⟩ : ∃ z, z = w.alloc (.cells #[.string (bs nm), .slice AO n c] 24) := ⟨_, rfl⟩
  have V1 := Lib.hid (show Hp w [obox g1 nm AO n c] W1 by rw [hW1, hg1]; exact (Hp.start w).obox_new nm AO n c)
  have HW1 := Lib.hid hW1
  have HG1 := Lib.hid hg1
  obtain ⟨z0, z1, z2⟩ := V1.out.obox_at (i := 0) rfl
  by_cases h0 : i < 0
  · have HE := Lib.hid (fitB_neg (L := L) (B := B) (A := A) h0)
    clear hW1 hg1 h hl
    go_enter Tryz.func60, Tryz.ntmps60
    go_upto_region 1 with fail
    rw [← HG1.out, ← HW1.out]
    go_wp2_with fail
    go_ret
    exact ⟨ret_bool HE.out.symm, V1.out.below⟩
  · have HE := Lib.hid (fitB_out (L := L) (B := B) (A := A) h0 (by omega))
    have h1 : (n : Int) ≤ i := by omega
    clear hW1 hg1 h hl
    go_enter Tryz.func60, Tryz.ntmps60
    go_upto_region 1 with fail
    rw [← HG1.out, ← HW1.out]
    go_wp2_with fail
    go_ret
    exact ⟨ret_bool HE.out.symm, V1.out.below⟩
set_option maxHeartbeats 4000000 in
theorem rfits_none (nm : List UInt8) (L : List Sg) (i : Int) (n c nb cb na ca : Nat) (AO AB AA : Option Addr) (w : World) (B A : List Snd) (h : i < 0 ∨ (n : Int) ≤ i) (hl : L.length = n) :
    Calls Tryz.prog 48 #[.agg #[.string (bs nm), .slice AO n c], .int .i64 i, .slice AB nb cb, .slice AA na ca] w fun e w' => e = .returned (.bool (fitB L i B A)) ∧ Below w.heap.size w w' := by
  obtain ⟨g1, hg1⟩ : ∃ z, z = w.heap.size := ⟨_, rfl⟩
  obtain ⟨W1, hW1⟩ : ∃ z, z = w.alloc (.cells #[.string (bs nm), .slice AO n c] 24) := ⟨_, rfl⟩
  have V1 := Lib.hid (show Hp w [obox g1 nm AO n c] W1 by rw [hW1, hg1]; exact (Hp.start w).obox_new nm AO n c)
  have HW1 := Lib.hid hW1
  have HG1 := Lib.hid hg1
  obtain ⟨z0, z1, z2⟩ := V1.out.obox_at (i := 0) rfl
  by_cases h0 : i < 0
  · have HE := Lib.hid (fitB_neg (L := L) (B := B) (A := A) h0)
    clear hW1 hg1 h hl
    go_enter Tryz.func48, Tryz.ntmps48
    go_upto_region 1 with fail
    rw [← HG1.out, ← HW1.out]
    go_wp2_with fail
    go_ret
    exact ⟨ret_bool HE.out.symm, V1.out.below⟩
  · have HE := Lib.hid (fitB_out (L := L) (B := B) (A := A) h0 (by omega))
    have h1 : (n : Int) ≤ i := by omega
    clear hW1 hg1 h hl
    go_enter Tryz.func48, Tryz.ntmps48
    go_upto_region 1 with fail
    rw [← HG1.out, ← HW1.out]
    go_wp2_with fail
    go_ret
    exact ⟨ret_bool HE.out.symm, V1.out.below⟩
set_option maxHeartbeats 8000000 in
theorem rfits_cell (nm : List UInt8) (k : Nat) (wv : Int) (n c nb cb na ca b off : Nat) (AB AA : Option Addr) (w : World) (B A : List Snd) (hk : k < n) (hn : n ≤ 17592186044416) (hb : b < w.heap.size) (hc : w.cell? ⟨b, off + k * 4 + 3, none⟩ = some (.int .i64 wv))
    (hB : B.length = nb) (hnb : nb ≤ 1000000) (hA : A.length = na) (hna : na ≤ 1000000) (hcB : CellsIn w AB (sndsC B)) (hcA : CellsIn w AA (sndsC A)) :
    Calls Tryz.prog 48 #[.agg #[.string (bs nm), .slice (some ⟨b, off, none⟩) n c], .int .i64 (k : Int), .slice AB nb cb, .slice AA na ca] w fun e w' => e = .returned (.bool (whB wv B A)) ∧ Below w.heap.size w w' := by
  unfold whB
  obtain ⟨g1, hg1⟩ : ∃ z, z = w.heap.size := ⟨_, rfl⟩
  obtain ⟨W1, hW1⟩ : ∃ z, z = w.alloc (.cells #[.string (bs nm), .slice (some ⟨b, off, none⟩) n c] 24) := ⟨_, rfl⟩
  have V1 := Lib.hid (show Hp w [obox g1 nm (some ⟨b, off, none⟩) n c] W1 by rw [hW1, hg1]; exact (Hp.start w).obox_new nm (some ⟨b, off, none⟩) n c)
  have HW1 := Lib.hid hW1
  have HG1 := Lib.hid hg1
  have c0 := (V1.out.below.cell (p := ⟨b, off + k * 4 + 3, none⟩) hb).trans hc
  have hb1 := Nat.lt_of_lt_of_le hb V1.out.below.size
  have hk4 : k * 4 ≤ 70368744177664 := by omega
  have ek0 : ((k : Int) < 0) = False := by simp
  have ek1 : ¬ ((n : Int) ≤ (k : Int)) := by omega
  obtain ⟨z0, z1, z2⟩ := V1.out.obox_at (i := 0) rfl
  have HBL := Lib.hid (show (B.length == 0) = (((nb : Nat) : Int) == 0) by rw [hB, Bool.eq_iff_iff]; simp)
  have HBG := Lib.hid (fun w' (h : Below w.heap.size w w') => rbegins_any A AA na ca w' hA (by omega) (hcA.below h))
  have HEN := Lib.hid (fun w' (h : Below w.heap.size w w') => rends_any B AB nb cb w' hB (by omega) (hcB.below h))
  obtain ⟨bA, hbA⟩ : ∃ z, z = begB A := ⟨_, rfl⟩
  obtain ⟨bB, hbB⟩ : ∃ z, z = endB B := ⟨_, rfl⟩
  rw [← hbA] at HBG
  rw [← hbB] at HEN
  rw [← hbA, ← hbB, HBL.out]
  clear hW1 hg1 hc hb hB hA hcB hcA hbA hbB
  go_enter Tryz.func48, Tryz.ntmps48
  go_upto_region 1 with fail
  rw [← HG1.out, ← HW1.out]
  by_cases h0 : wv = 0
  · subst h0
    go_wp2_with fail
    go_ret
    exact ⟨ret_bool rfl, V1.out.below⟩
  have e0 : (wv == 0) = false := by simpa using h0
  by_cases h1 : wv = 1
  · subst h1
    go_wp2_with fail
    refine (HBG.out _ V1.out.below).mono ?_
    rintro e w2 ⟨rfl, hb⟩
    have V2 := Lib.hid (V1.out.go hb)
    clear hb
    go_wp2_with fail
    go_ret
    exact ⟨ret_bool rfl, V2.out.below⟩
  have e1 : (wv == 1) = false := by simpa using h1
  by_cases h2 : wv = 2
  · subst h2
    by_cases hn0 : nb = 0
    · subst hn0
      go_wp2_with fail
      refine (HBG.out _ V1.out.below).mono ?_
      rintro e w2 ⟨rfl, hb⟩
      have V2 := Lib.hid (V1.out.go hb)
      clear hb
      go_wp2_with fail
      go_ret
      exact ⟨ret_bool rfl, V2.out.below⟩
    · have en : ((nb : Int) == 0) = false := by simpa using hn0
      clear hn0
      go_wp2_with fail
      go_ret
      exact ⟨ret_bool rfl, V1.out.below⟩
  have e2 : (wv == 2) = false := by simpa using h2
  by_cases h3 : wv = 3
  · subst h3
    go_wp2_with fail
    refine (HEN.out _ V1.out.below).mono ?_
    rintro e w2 ⟨rfl, hb⟩
    have V2 := Lib.hid (V1.out.go hb)
    clear hb
    cases bB with
    | true =>
      go_wp2_with fail
      refine (HBG.out _ V2.out.below).mono ?_
      rintro e w3 ⟨rfl, hb⟩
      have V3 := Lib.hid (V2.out.go hb)
      clear hb
      go_wp2_with fail
      go_ret
      exact ⟨ret_bool rfl, V3.out.below⟩
    | false =>
      go_wp2_with fail
      go_ret
      exact ⟨ret_bool rfl, V2.out.below⟩
  have e3 : (wv == 3) = false := by simpa using h3
  by_cases h4 : wv = 4
  · subst h4
    go_wp2_with fail
    refine (HBG.out _ V1.out.below).mono ?_
    rintro e w2 ⟨rfl, hb⟩
    have V2 := Lib.hid (V1.out.go hb)
    clear hb
    go_wp2_with fail
    go_ret
    exact ⟨ret_bool rfl, V2.out.below⟩
  have e4 : (wv == 4) = false := by simpa using h4
  have HE := Lib.hid (fun e a b => wh_out (e := e) (a := a) (b := b) h0 h1 h2 h3 h4)
  clear h0 h1 h2 h3 h4
  go_wp2_with fail
  go_ret
  exact ⟨ret_bool (HE.out _ _ _).symm, V1.out.below⟩
theorem fits_any (nm : List UInt8) (L : List Sg) (i : Int) (n c nb cb na ca : Nat) (AO AB AA : Option Addr) (w : World) (B A : List Snd) (hl : L.length = n) (hn : n ≤ 17592186044416) (hO : SgnIn w AO L)
    (hB : B.length = nb) (hnb : nb ≤ 1000000) (hA : A.length = na) (hna : na ≤ 1000000) (hcB : CellsIn w AB (sndsC B)) (hcA : CellsIn w AA (sndsC A)) :
    Calls Tryz.prog 60 #[.agg #[.string (bs nm), .slice AO n c], .int .i64 i, .slice AB nb cb, .slice AA na ca] w fun e w' => e = .returned (.bool (fitB L i B A)) ∧ Below w.heap.size w w' := by
  by_cases h : i < 0 ∨ (n : Int) ≤ i
  · exact fits_none nm L i n c nb cb na ca AO AB AA w B A h hl
  · obtain ⟨k, rfl⟩ : ∃ k : Nat, i = (k : Int) := ⟨i.toNat, by omega⟩
    obtain ⟨x, hx⟩ := get_at (L := L) (k := k) (by omega)
    obtain ⟨b, off, Aj, cj, rfl, hb, c0, c1, c2, c3, c4⟩ := hO.at hx
    rw [fitB_at hx]
    exact fits_cell nm k x.w n c nb cb na ca b off AB AA w B A (by omega) hn hb c3 hB hnb hA hna hcB hcA
theorem rfits_any (nm : List UInt8) (L : List Sg) (i : Int) (n c nb cb na ca : Nat) (AO AB AA : Option Addr) (w : World) (B A : List Snd) (hl : L.length = n) (hn : n ≤ 17592186044416) (hO : SgnIn w AO L)
    (hB : B.length = nb) (hnb : nb ≤ 1000000) (hA : A.length = na) (hna : na ≤ 1000000) (hcB : CellsIn w AB (sndsC B)) (hcA : CellsIn w AA (sndsC A)) :
    Calls Tryz.prog 48 #[.agg #[.string (bs nm), .slice AO n c], .int .i64 i, .slice AB nb cb, .slice AA na ca] w fun e w' => e = .returned (.bool (fitB L i B A)) ∧ Below w.heap.size w w' := by
  by_cases h : i < 0 ∨ (n : Int) ≤ i
  · exact rfits_none nm L i n c nb cb na ca AO AB AA w B A h hl
  · obtain ⟨k, rfl⟩ : ∃ k : Nat, i = (k : Int) := ⟨i.toNat, by omega⟩
    obtain ⟨x, hx⟩ := get_at (L := L) (k := k) (by omega)
    obtain ⟨b, off, Aj, cj, rfl, hb, c0, c1, c2, c3, c4⟩ := hO.at hx
    rw [fitB_at hx]
    exact rfits_cell nm k x.w n c nb cb na ca b off AB AA w B A (by omega) hn hb c3 hB hnb hA hna hcB hcA
end Go.Proofs.YtjamfcihjendiaaGreat

namespace Go.Proofs.YtjamfcihjendiaaGreat
open Go.RowKit
set_option linter.unusedVariables false
set_option linter.unusedSimpArgs false
set_option maxRecDepth 100000

def useA (L : List Sg) : List UInt8 := L.flatMap (·.t)
theorem useA_snoc (L : List Sg) (x : Sg) : useA (L ++ [x]) = useA L ++ x.t := by unfold useA; rw [List.flatMap_append]; simp
end Go.Proofs.YtjamfcihjendiaaGreat

namespace Go.Proofs.YtjamfcihjendiaaGreat
open Go.RowKit
set_option linter.unusedVariables false
set_option linter.unusedSimpArgs false
set_option maxRecDepth 100000

def fewO (nm : List UInt8) (L : List Sg) : Bool := decide (nm.length ≤ 60) && (decide (L.length ≤ 130) && ((L.all fun x => fewB x.s 6) && decide ((useA L).length ≤ 1500)))
theorem fewO_yes {nm : List UInt8} {L : List Sg} (h : fewO nm L = true) : nm.length ≤ 60 ∧ L.length ≤ 130 ∧ (∀ x ∈ L, fewB x.s 6 = true) ∧ (useA L).length ≤ 1500 := by
  unfold fewO at h; simpa using h
theorem fewO_nm {nm : List UInt8} {L : List Sg} (h : 60 < nm.length) : fewO nm L = false := by unfold fewO; rw [decide_eq_false (by omega)]; rfl
theorem fewO_len {nm : List UInt8} {L : List Sg} (h : 130 < L.length) : fewO nm L = false := by unfold fewO; rw [decide_eq_false (show ¬ L.length ≤ 130 by omega)]; simp
theorem fewO_snd {nm : List UInt8} {L : List Sg} {k : Nat} {x : Sg} (h : L[k]? = some x) (h1 : fewB x.s 6 = false) : fewO nm L = false := by
  rw [Bool.eq_false_iff]; intro hf
  have := (fewO_yes hf).2.2.1 x (List.mem_of_getElem? h)
  rw [h1] at this; cases this
theorem fewO_all {nm : List UInt8} {L : List Sg} (h : nm.length ≤ 60) (h1 : L.length ≤ 130) (h2 : ∀ x ∈ L, fewB x.s 6 = true) : fewO nm L = decide ((useA L).length ≤ 1500) := by
  unfold fewO
  rw [decide_eq_true h, decide_eq_true h1, List.all_eq_true.2 h2]; rfl
theorem useA_mem {L : List Sg} {x : Sg} (h : x ∈ L) : x.t.length ≤ (useA L).length := by
  induction L with
  | nil => cases h
  | cons y r ih =>
    have e : useA (y :: r) = y.t ++ useA r := by unfold useA; rw [List.flatMap_cons]
    rw [e, List.length_append]
    rcases List.mem_cons.1 h with h | h
    · subst h; omega
    · have := ih h; omega
theorem fewO_bd {nm : List UInt8} {L : List Sg} (h : fewO nm L = true) (hlim : ∀ x ∈ L, SgLim x) : SgBd L := by
  obtain ⟨_, _, h3, h4⟩ := fewO_yes h
  intro x hx
  have a := few_yes (h3 x hx)
  have b := useA_mem hx
  exact ⟨by omega, by omega, (hlim x hx).2.2⟩
set_option maxHeartbeats 8000000 in
theorem rfewO_any (nm : List UInt8) (L : List Sg) (A : Option Addr) (n c : Nat) (w : World) (hnm : nm.length ≤ 140737488355328) (hl : L.length = n) (hn : n ≤ 17592186044416) (hlim : ∀ x ∈ L, SgLim x) (hA : SgnIn w A L) :
    Calls Tryz.prog 17 #[.agg #[.string (bs nm), .slice A n c]] w fun e w' => e = .returned (.bool (fewO nm L)) ∧ Below w.heap.size w w' := by
  obtain ⟨g1, hg1⟩ : ∃ z, z = w.heap.size := ⟨_, rfl⟩
  obtain ⟨W1, hW1⟩ : ∃ z, z = w.alloc (.cells #[.string (bs nm), .slice A n c] 24) := ⟨_, rfl⟩
  have V1 := Lib.hid (show Hp w [obox g1 nm A n c] W1 by rw [hW1, hg1]; exact (Hp.start w).obox_new nm A n c)
  have HW1 := Lib.hid hW1
  have HG1 := Lib.hid hg1
  have HL := Lib.hid hl
  have HA := Lib.hid hA
  have HLIM := Lib.hid hlim
  obtain ⟨z0, z1, z2⟩ := V1.out.obox_at (i := 0) rfl
  obtain ⟨y, hy⟩ : ∃ y, y = nm.length := ⟨_, rfl⟩
  have hz : (bs nm).size = y := by rw [bs_size]; exact hy.symm
  have HY := Lib.hid hy
  rw [← hy] at hnm
  clear hl hA hlim hW1 hg1 hy
  go_enter Tryz.func17, Tryz.ntmps17
  go_upto_region 1 with fail
  rw [← HG1.out, ← HW1.out]
  by_cases h60 : 60 < y
  · have HE := Lib.hid (fewO_nm (nm := nm) (L := L) (by have := HY.out; omega))
    go_wp2_with fail
    go_ret
    exact ⟨ret_bool HE.out.symm, V1.out.below⟩
  by_cases h130 : 130 < n
  · have HE := Lib.hid (fewO_len (nm := nm) (L := L) (by have := HL.out; omega))
    go_wp2_with fail
    go_ret
    exact ⟨ret_bool HE.out.symm, V1.out.below⟩
  go_wp2_with fail
  clear hz z0 z1 z2
  go_loopw [3, 4] (fun v i wr => ∃ k m : Nat, k ≤ n ∧ i = .int .i64 (k : Int) ∧ v = .int .i64 (m : Int) ∧ m ≤ k * 140737488355328 ∧ m = (useA (L.take k)).length ∧ (∀ x ∈ L.take k, fewB x.s 6 = true) ∧ Hp w [obox g1 nm A n c] wr) (fun _ i _ => n - (intOf i).toNat)
  case atStart => exact ⟨0, 0, Nat.zero_le _, rfl, rfl, by omega, rfl, fun x hx => by simp at hx, V1.out⟩
  case round =>
    obtain ⟨k, m, hk, rfl, rfl, hmb, hm, hall, hV⟩ := hrel
    obtain ⟨wi, rfl⟩ : ∃ wi : World, wi = wr := ⟨_, rfl⟩
    have V3 := Lib.hid hV
    have HM := Lib.hid hm
    have HALL := Lib.hid hall
    clear hV V1 hm hall
    obtain ⟨z0, z1, z2⟩ := V3.out.obox_at (i := 0) rfl
    by_cases hlt : k < n
    · obtain ⟨x, hx⟩ := get_at (L := L) (k := k) (by have := HL.out; omega)
      obtain ⟨b, off, Aj, cj, hAe, hb, c0, c1, c2, c3, c4⟩ := (HA.out.below V3.out.below).at hx
      obtain ⟨l1, l2, l3⟩ := HLIM.out x (List.mem_of_getElem? hx)
      have HX := Lib.hid hx
      have HC := Lib.hid c4
      have HL3 := Lib.hid l3
      rw [hAe] at z1
      have HAE := Lib.hid hAe
      have hk4 : k * 4 ≤ 520 := by omega
      obtain ⟨tl, htl⟩ : ∃ tl, tl = x.t.length := ⟨_, rfl⟩
      have hz : (bs x.t).size = tl := by rw [bs_size]; exact htl.symm
      rw [← htl] at l1
      have HT := Lib.hid htl
      have hsum : m + tl ≤ (k + 1) * 140737488355328 := by omega
      have hsum2 : m + tl ≤ 18436610974547968 := by omega
      subst hAe
      clear hx c4 l3 htl
      go_wp2_with fail
      refine (few_any x.s 6 _ _ Aj _ rfl l2 (by decide) HL3.out HC.out).mono ?_
      rintro e w4 ⟨rfl, hw⟩
      subst hw
      cases hf : fewB x.s 6 with
      | false =>
        have HE := Lib.hid (fewO_snd (nm := nm) HX.out hf)
        clear hf
        go_wp2_with fail
        go_ret
        exact ⟨ret_bool HE.out.symm, V3.out.below⟩
      | true =>
        have HN := Lib.hid (show m + tl = (useA (L.take (k + 1))).length by rw [take_snoc HX.out, useA_snoc, List.length_append, ← HM.out, ← HT.out])
        have HN2 := Lib.hid (show ∀ z ∈ L.take (k + 1), fewB z.s 6 = true from fun z hz => by
          rw [take_snoc HX.out] at hz
          rcases List.mem_append.1 hz with h | h
          · exact HALL.out z h
          · rw [List.mem_singleton.1 h]; exact hf)
        clear hf
        go_wp2_with fail
        go_roundw
        case rel => exact ⟨k + 1, m + tl, by omega, by go_num, by go_num, by omega, HN.out, HN2.out, V3.out⟩
        case measure => simp [intOf]; omega
    · have ht : L.take k = L := take_all (by have := HL.out; omega)
      have HE := Lib.hid (show fewO nm L = decide ((m : Int) ≤ 1500) by
        have h1 := HALL.out
        have h2 := HM.out
        rw [ht] at h1 h2
        rw [fewO_all (by have := HY.out; omega) (by have := HL.out; omega) h1, ← h2, decide_eq_decide]; omega)
      clear ht
      go_wp2_with fail
      go_ret
      exact ⟨ret_bool HE.out.symm, V3.out.below⟩
end Go.Proofs.YtjamfcihjendiaaGreat

namespace Go.Proofs.YtjamfcihjendiaaGreat
open Go.RowKit
set_option linter.unusedVariables false
set_option linter.unusedSimpArgs false
set_option maxRecDepth 100000

theorem low_take {t : List UInt8} {s : ByteArray} {k : Nat} (hs : s = bs t) (hk : k < s.size) (h : (t.take k).all isLow = true) (h1 : lowI (s[k].toNat : Int) = true) : (t.take (k + 1)).all isLow = true := by
  have e : t = s.data.toList := by rw [hs, bs_list]
  rw [e] at h ⊢
  rw [takeS hk, List.all_append, h]
  simpa [isLow] using h1
theorem low_bad {t : List UInt8} {s : ByteArray} {k : Nat} (hs : s = bs t) (hk : k < s.size) (h1 : lowI (s[k].toNat : Int) = false) : t.all isLow = false := by
  have e : t = s.data.toList := by rw [hs, bs_list]
  rw [Bool.eq_false_iff]; intro h
  rw [e] at h
  have := List.all_eq_true.1 h s[k] (by rw [getB s k hk]; exact List.getElem_mem _)
  rw [show isLow s[k] = lowI (s[k].toNat : Int) from rfl, h1] at this; cases this
set_option maxHeartbeats 2000000 in
theorem rtx_any (t : List UInt8) (w : World) (ht : t.length ≤ 140737488355328) :
    Calls Tryz.prog 85 #[.string (bs t)] w fun e w' => e = .returned (.int .i64 (txE t)) ∧ w = w' := by
  obtain ⟨tl, htl⟩ : ∃ tl, tl = t.length := ⟨_, rfl⟩
  obtain ⟨s, hs⟩ : ∃ s, s = bs t := ⟨_, rfl⟩
  have hz : s.size = tl := by rw [hs, bs_size]; exact htl.symm
  have HZ := Lib.hid hz
  have HT := Lib.hid htl
  have HS := Lib.hid hs
  rw [← htl] at ht
  rw [← hs]
  by_cases h0 : tl = 0
  · obtain ⟨q1, q2⟩ := emp_l (t := t) (by omega)
    rw [← hs] at q1 q2
    have HE := Lib.hid (txE_empty (t := t) (by omega))
    clear hs htl h0
    go_enter Tryz.func85, Tryz.ntmps85
    go_wp2_with fail
    go_ret
    exact ⟨sym_int HE.out, rfl⟩
  obtain ⟨q1, q2⟩ := ful_l (t := t) (by omega)
  rw [← hs] at q1 q2
  by_cases h4 : 4 < tl
  · have HE := Lib.hid (txE_big (t := t) (by omega))
    clear hs htl h0
    go_enter Tryz.func85, Tryz.ntmps85
    go_wp2_with fail
    go_ret
    exact ⟨sym_int HE.out, rfl⟩
  have H0 := Lib.hid h0
  clear hs htl h0 hz
  go_enter Tryz.func85, Tryz.ntmps85
  have hz := HZ.out
  go_wp2_with fail
  go_loopw [3] (fun i wr => ∃ k : Nat, k ≤ tl ∧ i = .int .i64 (k : Int) ∧ (t.take k).all isLow = true ∧ w = wr) (fun i _ => tl - (intOf i).toNat)
  case atStart => exact ⟨0, Nat.zero_le _, rfl, rfl, rfl⟩
  case round =>
    obtain ⟨k, hk, rfl, hall, rfl⟩ := hrel
    have HALL := Lib.hid hall
    clear hall
    by_cases hlt : k < tl
    · have hlt2 : k < s.size := by have := HZ.out; omega
      have hb0 : (0 : Int) ≤ (s[k].toNat : Int) := by omega
      have hb255 : (s[k].toNat : Int) ≤ 255 := by have := s[k].toNat_lt; omega
      go_wp2_with fail
      refine (T.rletter_any (s[k].toNat : Int) _ hb0 hb255).mono ?_
      rintro e w2 ⟨rfl, hw⟩
      subst hw
      cases hl : T.ltr (s[k].toNat : Int) with
      | false =>
        have HE := Lib.hid (txE_syn (t := t) (by have := HT.out; have := H0.out; omega) (by have := HT.out; omega) (low_bad HS.out hlt2 (by unfold lowI; rw [hl]; rfl)))
        clear hl
        go_wp2_with fail
        go_ret
        exact ⟨sym_int HE.out, rfl⟩
      | true =>
        by_cases h65 : 65 ≤ (s[k].toNat : Int)
        · by_cases h90 : (s[k].toNat : Int) ≤ 90
          · have HE := Lib.hid (txE_syn (t := t) (by have := HT.out; have := H0.out; omega) (by have := HT.out; omega) (low_bad HS.out hlt2 (by unfold lowI; rw [hl, decide_eq_true h65, decide_eq_true h90]; rfl)))
            clear hl
            go_wp2_with fail
            go_ret
            exact ⟨sym_int HE.out, rfl⟩
          · have HN := Lib.hid (low_take HS.out hlt2 HALL.out (by unfold lowI; rw [hl, decide_eq_false h90]; simp))
            clear hl
            go_wp2_with fail
            go_roundw
            case rel => exact ⟨k + 1, by omega, by go_num, HN.out, trivial⟩
            case measure => simp [intOf]; omega
        · have HN := Lib.hid (low_take HS.out hlt2 HALL.out (by unfold lowI; rw [hl, decide_eq_false h65]; simp))
          clear hl
          go_wp2_with fail
          go_roundw
          case rel => exact ⟨k + 1, by omega, by go_num, HN.out, trivial⟩
          case measure => simp [intOf]; omega
    · have HE := Lib.hid (txE_ok (t := t) (by have := HT.out; have := H0.out; omega) (by have := HT.out; omega) (by
        have := HALL.out
        rwa [take_all (by have := HT.out; omega)] at this))
      go_wp2_with fail
      go_ret
      exact ⟨sym_int HE.out, rfl⟩
set_option maxHeartbeats 4000000 in
theorem rsign_any (x : Sg) (A : Option Addr) (c : Nat) (w : World) (ht : x.t.length ≤ 140737488355328) (hn : x.s.length ≤ 17592186044416) (hs : ∀ y ∈ x.s, y.t.length ≤ 140737488355328) (hA : CellsIn w A (sndsC x.s)) :
    Calls Tryz.prog 72 #[.agg #[.string (bs x.t), .slice A x.s.length c, .int .i64 x.c, .int .i64 x.w]] w fun e w' => e = .returned (.int .i64 (sgE x)) ∧ Below w.heap.size w w' := by
  obtain ⟨g1, hg1⟩ : ∃ z, z = w.heap.size := ⟨_, rfl⟩
  obtain ⟨W1, hW1⟩ : ∃ z, z = w.alloc (.cells #[.string (bs x.t), .slice A x.s.length c, .int .i64 x.c, .int .i64 x.w] 64) := ⟨_, rfl⟩
  have V1 := Lib.hid (show Hp w [sgbox g1 (A, c) x] W1 by rw [hW1, hg1]; exact (Hp.start w).sgbox_new A c x)
  have HW1 := Lib.hid hW1
  have HG1 := Lib.hid hg1
  have HA := Lib.hid hA
  have HSS := Lib.hid hs
  obtain ⟨m, hm⟩ : ∃ m, m = x.s.length := ⟨_, rfl⟩
  have HM := Lib.hid hm
  rw [← hm] at hn
  obtain ⟨x0, x1, x2, x3, x4⟩ := V1.out.sgbox_at (i := 0) rfl
  dsimp only at x1
  rw [← hm] at x1
  clear hW1 hg1 hA hs hm
  go_enter Tryz.func72, Tryz.ntmps72
  go_upto_region 1 with fail
  rw [← HG1.out, ← HW1.out]
  go_wp2_with fail
  refine (rtx_any x.t _ ht).mono ?_
  rintro e w2 ⟨rfl, hw⟩
  subst hw
  by_cases htx : txE x.t = 0
  case neg =>
    have HE := Lib.hid (sgE_text htx)
    obtain ⟨v, hv⟩ : ∃ v, v = txE x.t := ⟨_, rfl⟩
    rw [← hv] at htx HE ⊢
    have e1 : (v != 0) = true := bne_yes htx
    clear htx hv
    go_wp2_with fail
    go_ret
    exact ⟨sym_int HE.out, V1.out.below⟩
  have HT0 := Lib.hid htx
  rw [htx]
  clear htx
  by_cases hm0 : m = 0
  · have HE := Lib.hid (sgE_empty HT0.out (by have := HM.out; omega))
    have e0 : ((m : Int) == 0) = true := by simp [hm0]
    clear hm0
    go_wp2_with fail
    go_ret
    exact ⟨sym_int HE.out, V1.out.below⟩
  have e0 : ((m : Int) == 0) = false := by simp [hm0]
  by_cases hm2 : 2 < m
  · have HE := Lib.hid (sgE_big HT0.out (by have := HM.out; omega))
    clear hm0
    go_wp2_with fail
    go_ret
    exact ⟨sym_int HE.out, V1.out.below⟩
  have HM0 := Lib.hid hm0
  clear hm0
  go_wp2_with fail
  clear x0 x1 x2 x3 x4
  go_loopw [4] (fun i wr => ∃ k : Nat, k ≤ m ∧ i = .int .i64 (k : Int) ∧ (∀ z ∈ x.s.take k, vS z = 0) ∧ Hp w [sgbox g1 (A, c) x] wr) (fun i _ => m - (intOf i).toNat)
  case atStart => exact ⟨0, Nat.zero_le _, rfl, fun z hz => by simp at hz, V1.out⟩
  case round =>
    obtain ⟨k, hk, rfl, hall, hV⟩ := hrel
    obtain ⟨wi, rfl⟩ : ∃ wi : World, wi = wr := ⟨_, rfl⟩
    have HALL := Lib.hid hall
    have V3 := Lib.hid hV
    clear hall hV V1
    obtain ⟨x0, x1, x2, x3, x4⟩ := V3.out.sgbox_at (i := 0) rfl
    dsimp only at x1
    rw [← HM.out] at x1
    by_cases hlt : k < m
    · obtain ⟨y, hy⟩ := get_at (L := x.s) (k := k) (by have := HM.out; omega)
      obtain ⟨b, off, rfl, hb, c0, c1, c2⟩ := (HA.out.below V3.out.below).snd hy
      have HY := Lib.hid hy
      have hyl := HSS.out y (List.mem_of_getElem? hy)
      have hk3 : k * 3 ≤ 6 := by omega
      clear hy
      go_wp2_with fail
      refine (rvalid_any y _ hyl).mono ?_
      rintro e w4 ⟨rfl, hb4⟩
      have V4 := Lib.hid (V3.out.go hb4)
      clear hb4
      by_cases hv : vS y = 0
      · have HN := Lib.hid (show ∀ z ∈ x.s.take (k + 1), vS z = 0 from fun z hz => by
          rw [take_snoc HY.out] at hz
          rcases List.mem_append.1 hz with h | h
          · exact HALL.out z h
          · rw [List.mem_singleton.1 h]; exact hv)
        rw [hv]
        clear hv
        go_wp2_with fail
        go_roundw
        case rel => exact ⟨k + 1, by omega, by go_num, HN.out, V4.out⟩
        case measure => simp [intOf]; omega
      · have HE := Lib.hid (show vS y = sgE x by
          have h1 := sg_err_at HY.out HALL.out hv
          rw [sgE_snd HT0.out (by have := HM.out; have := HM0.out; omega) (by have := HM.out; omega) (by rw [h1]; exact hv), h1])
        obtain ⟨v, hvv⟩ : ∃ v, v = vS y := ⟨_, rfl⟩
        rw [← hvv] at hv HE ⊢
        have e1 : (v != 0) = true := bne_yes hv
        clear hv hvv
        go_wp2_with fail
        go_ret
        exact ⟨sym_int HE.out.symm, V4.out.below⟩
    · have HS0 := Lib.hid (show errL x.s = 0 from errL_zero.2 (by
        have := HALL.out
        rwa [take_all (by have := HM.out; omega)] at this))
      obtain ⟨xc, hxc⟩ : ∃ z, z = x.c := ⟨_, rfl⟩
      obtain ⟨xw, hxw⟩ : ∃ z, z = x.w := ⟨_, rfl⟩
      have HXC := Lib.hid hxc
      have HXW := Lib.hid hxw
      rw [← hxc] at x2
      rw [← hxw] at x3
      clear hxc hxw
      by_cases h0 : xc < 0
      · have HE := Lib.hid (sgE_range HT0.out (by have := HM.out; have := HM0.out; omega) (by have := HM.out; omega) HS0.out ((rgE_yes (x := x)).2 (by have := HXC.out; have := HXW.out; omega)))
        go_wp2_with fail
        go_ret
        exact ⟨sym_int HE.out, V3.out.below⟩
      by_cases h1 : 99 < xc
      · have HE := Lib.hid (sgE_range HT0.out (by have := HM.out; have := HM0.out; omega) (by have := HM.out; omega) HS0.out ((rgE_yes (x := x)).2 (by have := HXC.out; have := HXW.out; omega)))
        go_wp2_with fail
        go_ret
        exact ⟨sym_int HE.out, V3.out.below⟩
      by_cases h2 : xw < 0
      · have HE := Lib.hid (sgE_range HT0.out (by have := HM.out; have := HM0.out; omega) (by have := HM.out; omega) HS0.out ((rgE_yes (x := x)).2 (by have := HXC.out; have := HXW.out; omega)))
        go_wp2_with fail
        go_ret
        exact ⟨sym_int HE.out, V3.out.below⟩
      by_cases h3 : 4 < xw
      · have HE := Lib.hid (sgE_range HT0.out (by have := HM.out; have := HM0.out; omega) (by have := HM.out; omega) HS0.out ((rgE_yes (x := x)).2 (by have := HXC.out; have := HXW.out; omega)))
        go_wp2_with fail
        go_ret
        exact ⟨sym_int HE.out, V3.out.below⟩
      have HE := Lib.hid (sgE_ok HT0.out (by have := HM.out; have := HM0.out; omega) (by have := HM.out; omega) HS0.out ((rgE_no (x := x)).2 (by have := HXC.out; have := HXW.out; omega)))
      go_wp2_with fail
      go_ret
      exact ⟨sym_int HE.out, V3.out.below⟩
end Go.Proofs.YtjamfcihjendiaaGreat
