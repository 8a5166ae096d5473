/- Contracts: Fits of both sides. -/
import Derived.Test.YtfgnekbkcmpdiaaGreatDoorOn
namespace Go.Proofs.YtfgnekbkcmpdiaaGreatDoor
open Go.RowKit
set_option linter.unusedVariables false
set_option linter.unusedSimpArgs false
set_option maxRecDepth 100000

/-- Whether the sign with an index stands between sounds. -/
def fitB (L : List Sg) (i : Int) (B A : List Snd) : Bool := if i < 0 then false else match L[i.toNat]? with
  | none => false
  | some x => whB x.w B A
theorem fitB_neg {L : List Sg} {i : Int} {B A : List Snd} (h : i < 0) : fitB L i B A = false := by unfold fitB; rw [if_pos h]
theorem fitB_out {L : List Sg} {i : Int} {B A : List Snd} (h0 : ¬ i < 0) (h : (L.length : Int) ≤ i) : fitB L i B A = false := by
  unfold fitB; rw [if_neg h0, List.getElem?_eq_none (by omega)]
theorem fitB_at {L : List Sg} {k : Nat} {x : Sg} {B A : List Snd} (h : L[k]? = some x) : fitB L (k : Int) B A = whB x.w B A := by
  unfold fitB; rw [if_neg (by omega), show (k : Int).toNat = k by omega, h]
theorem last_at {α : Type} {l : List α} {m : Nat} (h : l.length = m + 1) : ∃ x, l[m]? = some x := ⟨l[m]'(by omega), List.getElem?_eq_getElem (by omega)⟩
/-- The cell that says where a sign stands. -/
theorem fits_cell (nm : List UInt8) (k : Nat) (wv : Int) (n c nb cb na ca b off : Nat) (AB AA : Option Addr) (w : World) (B A : List Snd) (hk : k < n) (hn : n ≤ 17592186044416) (hb : b < w.heap.size) (hc : w.cell? ⟨b, off + k * 4 + 3, none⟩ = some (.int .i64 wv))
    (hB : B.length = nb) (hnb : nb ≤ 1000000) (hA : A.length = na) (hna : na ≤ 1000000) (hcB : CellsIn w AB (sndsC B)) (hcA : CellsIn w AA (sndsC A)) :
    Calls Tryz.prog 15 #[.agg #[.string (bs nm), .slice (some ⟨b, off, none⟩) n c], .int .i64 (k : Int), .slice AB nb cb, .slice AA na ca] w fun e w' => e = .returned (.bool (whB wv B A)) ∧ Below w.heap.size w w' := by
  unfold whB
  by_cases ha : na = 0
  · subst ha
    rw [show begB A = false by rw [nil_of hA]; rfl]
    by_cases hb0 : nb = 0
    · subst hb0
      rw [show endB B = false by rw [nil_of hB]; rfl, show (B.length == 0) = true by rw [hB]; rfl]
      exact fits_11 nm k wv n c 0 cb 0 ca b off w AA AB hk hn hb hc
    · obtain ⟨m, rfl⟩ : ∃ m, nb = m + 1 := ⟨nb - 1, by omega⟩
      obtain ⟨y, hy⟩ := last_at hB
      obtain ⟨r, o2, rfl, hr, y0⟩ := hcB.snd hy
      rw [endB_at hB hy, show (B.length == 0) = false by rw [hB]; rfl]
      exact fits_10 nm k wv n c 0 cb 0 ca b off w y r o2 m AA hk hn hb hc hr (by omega) y0
  · obtain ⟨m, rfl⟩ : ∃ m, na = m + 1 := ⟨na - 1, by omega⟩
    obtain ⟨x, hx⟩ := get_at (L := A) (k := 0) (by omega)
    obtain ⟨p, o1, rfl, hp, x0, x1, x2⟩ := hcA.snd hx
    simp only [Nat.zero_mul, Nat.add_zero] at x0 x1 x2
    rw [begB_at hx]
    by_cases hb0 : nb = 0
    · subst hb0
      rw [show endB B = false by rw [nil_of hB]; rfl, show (B.length == 0) = true by rw [hB]; rfl]
      exact fits_01 nm k wv n c 0 cb 0 ca b off w x p o1 m AB hk hn hb hc hp (by omega) ⟨x0, x1, x2⟩
    · obtain ⟨m', rfl⟩ : ∃ m, nb = m + 1 := ⟨nb - 1, by omega⟩
      obtain ⟨y, hy⟩ := last_at hB
      obtain ⟨r, o2, rfl, hr, y0⟩ := hcB.snd hy
      rw [endB_at hB hy, show (B.length == 0) = false by rw [hB]; rfl]
      exact fits_00 nm k wv n c 0 cb 0 ca b off w x p o1 m y r o2 m' hk hn hb hc hp (by omega) ⟨x0, x1, x2⟩ hr (by omega) y0
set_option maxHeartbeats 4000000 in
theorem fits_none (nm : List UInt8) (L : List Sg) (i : Int) (n c nb cb na ca : Nat) (AO AB AA : Option Addr) (w : World) (B A : List Snd) (h : i < 0 ∨ (n : Int) ≤ i) (hl : L.length = n) :
    Calls Tryz.prog 15 #[.agg #[.string (bs nm), .slice AO n c], .int .i64 i, .slice AB nb cb, .slice AA na ca] w fun e w' => e = .returned (.bool (fitB L i B A)) ∧ Below w.heap.size w w' := by
  obtain ⟨g1, hg1⟩ : ∃ z, z = w.heap.size := ⟨_, rfl⟩
  obtain ⟨W1, hW1⟩ : ∃ z, z = w.alloc (.cells #[.string (bs nm), .slice AO n c] 25) := ⟨_, rfl⟩
  have V1 := Lib.hid (show Hp w [obox g1 nm AO n c] W1 by rw [hW1, hg1]; exact (Hp.start w).obox_new nm AO n c)
  have HW1 := Lib.hid hW1
  have HG1 := Lib.hid hg1
  obtain ⟨z0, z1, z2⟩ := V1.out.obox_at (i := 0) rfl
  by_cases h0 : i < 0
  · have HE := Lib.hid (fitB_neg (L := L) (B := B) (A := A) h0)
    clear hW1 hg1 h hl
    go_enter Tryz.func15, Tryz.ntmps15
    go_upto_region 1 with fail
    rw [← HG1.out, ← HW1.out]
    go_wp2_with fail
    go_ret
    exact ⟨ret_bool HE.out.symm, V1.out.below⟩
  · have HE := Lib.hid (fitB_out (L := L) (B := B) (A := A) h0 (by omega))
    have h1 : (n : Int) ≤ i := by omega
    clear hW1 hg1 h hl
    go_enter Tryz.func15, Tryz.ntmps15
    go_upto_region 1 with fail
    rw [← HG1.out, ← HW1.out]
    go_wp2_with fail
    go_ret
    exact ⟨ret_bool HE.out.symm, V1.out.below⟩
theorem fits_any (nm : List UInt8) (L : List Sg) (i : Int) (n c nb cb na ca : Nat) (AO AB AA : Option Addr) (w : World) (B A : List Snd) (hl : L.length = n) (hn : n ≤ 17592186044416) (hO : SgnIn w AO L)
    (hB : B.length = nb) (hnb : nb ≤ 1000000) (hA : A.length = na) (hna : na ≤ 1000000) (hcB : CellsIn w AB (sndsC B)) (hcA : CellsIn w AA (sndsC A)) :
    Calls Tryz.prog 15 #[.agg #[.string (bs nm), .slice AO n c], .int .i64 i, .slice AB nb cb, .slice AA na ca] w fun e w' => e = .returned (.bool (fitB L i B A)) ∧ Below w.heap.size w w' := by
  by_cases h : i < 0 ∨ (n : Int) ≤ i
  · exact fits_none nm L i n c nb cb na ca AO AB AA w B A h hl
  · obtain ⟨k, rfl⟩ : ∃ k : Nat, i = (k : Int) := ⟨i.toNat, by omega⟩
    obtain ⟨x, hx⟩ := get_at (L := L) (k := k) (by omega)
    obtain ⟨b, off, Aj, cj, rfl, hb, c0, c1, c2, c3, c4⟩ := hO.at hx
    rw [fitB_at hx]
    exact fits_cell nm k x.w n c nb cb na ca b off AB AA w B A (by omega) hn hb c3 hB hnb hA hna hcB hcA
end Go.Proofs.YtfgnekbkcmpdiaaGreatDoor
