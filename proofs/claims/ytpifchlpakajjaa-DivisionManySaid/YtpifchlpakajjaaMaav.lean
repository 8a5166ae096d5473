/- Several texts in one: Oo, Za. -/
import Derived.Test.YtpifchlpakajjaaMaau
import Derived.Test.YtpifchlpakajjaaMaat
import Derived.Test.YtpifchlpakajjaaMaaj
namespace Go.Proofs.Ytpifchlpakajjaa
open Go.RowKit
set_option linter.unusedVariables false
set_option linter.unusedSimpArgs false
set_option maxRecDepth 100000

def fitB (L : List Sg) (i : Int) (B A : List Snd) : Bool := if i < 0 then false else match L[i.toNat]? with
  | none => false
  | some x => whB x.w B A
theorem fitB_neg {L : List Sg} {i : Int} {B A : List Snd} (h : i < 0) : fitB L i B A = false := by unfold fitB; rw [if_pos h]
theorem fitB_out {L : List Sg} {i : Int} {B A : List Snd} (h0 : ¬ i < 0) (h : (L.length : Int) ≤ i) : fitB L i B A = false := by
  unfold fitB; rw [if_neg h0, List.getElem?_eq_none (by omega)]
theorem fitB_at {L : List Sg} {k : Nat} {x : Sg} {B A : List Snd} (h : L[k]? = some x) : fitB L (k : Int) B A = whB x.w B A := by
  unfold fitB; rw [if_neg (by omega), show (k : Int).toNat = k by omega, h]
theorem last_at {α : Type} {l : List α} {m : Nat} (h : l.length = m + 1) : ∃ x, l[m]? = some x := ⟨l[m]'(by omega), List.getElem?_eq_getElem (by omega)⟩
theorem fits_cell (nm : List UInt8) (k : Nat) (wv : Int) (n c nb cb na ca b off : Nat) (AB AA : Option Addr) (w : World) (B A : List Snd) (hk : k < n) (hn : n ≤ 17592186044416) (hb : b < w.heap.size) (hc : w.cell? ⟨b, off + k * 4 + 3, none⟩ = some (.int .i64 wv))
    (hB : B.length = nb) (hnb : nb ≤ 1000000) (hA : A.length = na) (hna : na ≤ 1000000) (hcB : CellsIn w AB (sndsC B)) (hcA : CellsIn w AA (sndsC A)) :
    Calls Try.prog 47 #[.agg #[.string (bs nm), .slice (some ⟨b, off, none⟩) n c], .int .i64 (k : Int), .slice AB nb cb, .slice AA na ca] w fun e w' => e = .returned (.bool (whB wv B A)) ∧ Below w.heap.size w w' := by
  unfold whB
  by_cases ha : na = 0
  · subst ha
    rw [show begB A = false by rw [nil_of hA]; rfl]
    by_cases hb0 : nb = 0
    · subst hb0
      rw [show endB B = false by rw [nil_of hB]; rfl, show (B.length == 0) = true by rw [hB]; rfl]
      exact fits_11 nm k wv n c 0 cb 0 ca b off w AA AB hk hn hb hc
    · obtain ⟨m, rfl⟩ : ∃ m, nb = m + 1 := ⟨nb - 1, by omega⟩
      obtain ⟨y, hy⟩ := last_at hB
      obtain ⟨r, o2, rfl, hr, y0⟩ := hcB.snd hy
      rw [endB_at hB hy, show (B.length == 0) = false by rw [hB]; rfl]
      exact fits_10 nm k wv n c 0 cb 0 ca b off w y r o2 m AA hk hn hb hc hr (by omega) y0
  · obtain ⟨m, rfl⟩ : ∃ m, na = m + 1 := ⟨na - 1, by omega⟩
    obtain ⟨x, hx⟩ := get_at (L := A) (k := 0) (by omega)
    obtain ⟨p, o1, rfl, hp, x0, x1, x2⟩ := hcA.snd hx
    simp only [Nat.zero_mul, Nat.add_zero] at x0 x1 x2
    rw [begB_at hx]
    by_cases hb0 : nb = 0
    · subst hb0
      rw [show endB B = false by rw [nil_of hB]; rfl, show (B.length == 0) = true by rw [hB]; rfl]
      exact fits_01 nm k wv n c 0 cb 0 ca b off w x p o1 m AB hk hn hb hc hp (by omega) ⟨x0, x1, x2⟩
    · obtain ⟨m', rfl⟩ : ∃ m, nb = m + 1 := ⟨nb - 1, by omega⟩
      obtain ⟨y, hy⟩ := last_at hB
      obtain ⟨r, o2, rfl, hr, y0⟩ := hcB.snd hy
      rw [endB_at hB hy, show (B.length == 0) = false by rw [hB]; rfl]
      exact fits_00 nm k wv n c 0 cb 0 ca b off w x p o1 m y r o2 m' hk hn hb hc hp (by omega) ⟨x0, x1, x2⟩ hr (by omega) y0
set_option maxHeartbeats 4000000 in
theorem fits_none (nm : List UInt8) (L : List Sg) (i : Int) (n c nb cb na ca : Nat) (AO AB AA : Option Addr) (w : World) (B A : List Snd) (h : i < 0 ∨ (n : Int) ≤ i) (hl : L.length = n) :
    Calls Try.prog 47 #[.agg #[.string (bs nm), .slice AO n c], .int .i64 i, .slice AB nb cb, .slice AA na ca] w fun e w' => e = .returned (.bool (fitB L i B A)) ∧ Below w.heap.size w w' := by
  obtain ⟨g1, hg1⟩ : ∃ z, z = w.heap.size := ⟨_, rfl⟩
  obtain ⟨W1, hW1⟩ : ∃ z, z = w.alloc (.cells #[.string (bs nm), .slice AO n c] 30) := ⟨_, rfl⟩
  have V1 := Lib.hid (show Hp w [obox g1 nm AO n c] W1 by rw [hW1, hg1]; exact (Hp.start w).obox_new nm AO n c)
  have HW1 := Lib.hid hW1
  have HG1 := Lib.hid hg1
  obtain ⟨z0, z1, z2⟩ := V1.out.obox_at (i := 0) rfl
  by_cases h0 : i < 0
  · have HE := Lib.hid (fitB_neg (L := L) (B := B) (A := A) h0)
    clear hW1 hg1 h hl
    go_enter Try.func47, Try.ntmps47
    go_upto_region 1 with fail
    rw [← HG1.out, ← HW1.out]
    go_wp2_with fail
    go_ret
    exact ⟨ret_bool HE.out.symm, V1.out.below⟩
  · have HE := Lib.hid (fitB_out (L := L) (B := B) (A := A) h0 (by omega))
    have h1 : (n : Int) ≤ i := by omega
    clear hW1 hg1 h hl
    go_enter Try.func47, Try.ntmps47
    go_upto_region 1 with fail
    rw [← HG1.out, ← HW1.out]
    go_wp2_with fail
    go_ret
    exact ⟨ret_bool HE.out.symm, V1.out.below⟩
theorem fits_any (nm : List UInt8) (L : List Sg) (i : Int) (n c nb cb na ca : Nat) (AO AB AA : Option Addr) (w : World) (B A : List Snd) (hl : L.length = n) (hn : n ≤ 17592186044416) (hO : SgnIn w AO L)
    (hB : B.length = nb) (hnb : nb ≤ 1000000) (hA : A.length = na) (hna : na ≤ 1000000) (hcB : CellsIn w AB (sndsC B)) (hcA : CellsIn w AA (sndsC A)) :
    Calls Try.prog 47 #[.agg #[.string (bs nm), .slice AO n c], .int .i64 i, .slice AB nb cb, .slice AA na ca] w fun e w' => e = .returned (.bool (fitB L i B A)) ∧ Below w.heap.size w w' := by
  by_cases h : i < 0 ∨ (n : Int) ≤ i
  · exact fits_none nm L i n c nb cb na ca AO AB AA w B A h hl
  · obtain ⟨k, rfl⟩ : ∃ k : Nat, i = (k : Int) := ⟨i.toNat, by omega⟩
    obtain ⟨x, hx⟩ := get_at (L := L) (k := k) (by omega)
    obtain ⟨b, off, Aj, cj, rfl, hb, c0, c1, c2, c3, c4⟩ := hO.at hx
    rw [fitB_at hx]
    exact fits_cell nm k x.w n c nb cb na ca b off AB AA w B A (by omega) hn hb c3 hB hnb hA hna hcB hcA
end Go.Proofs.Ytpifchlpakajjaa

namespace Go.Proofs.Ytpifchlpakajjaa
open Go.RowKit
set_option linter.unusedVariables false
set_option linter.unusedSimpArgs false
set_option maxRecDepth 100000

def kC (b : Bool) : Nat := if b = true then 2 else 1
theorem kC_fs (L : List Sg) (i : Nat) : kC (begB (sgAt L i).s) = fsK L i := rfl
theorem kC_ls (L : List Sg) (i : Nat) : kC (endB (sgAt L i).s) = lsK L i := rfl
set_option maxHeartbeats 2000000 in
theorem kindP_any (x : Snd) (w : World) :
    Calls Try.prog 46 #[.agg #[.int .i64 x.k, .int .i64 x.q, .string (bs x.t)]] w fun e w' => e = .returned (.int .i64 (kC (nuc x) : Int)) ∧ Below w.heap.size w w' := by
  obtain ⟨g1, hg1⟩ : ∃ z, z = w.heap.size := ⟨_, rfl⟩
  obtain ⟨W1, hW1⟩ : ∃ z, z = w.alloc (.cells #[.int .i64 x.k, .int .i64 x.q, .string (bs x.t)] 24) := ⟨_, rfl⟩
  have V1 := Lib.hid (show Hp w [sbox g1 x] W1 by rw [hW1, hg1]; exact (Hp.start w).sbox_new x)
  have HW1 := Lib.hid hW1
  have HG1 := Lib.hid hg1
  obtain ⟨c0, c1, c2, c3⟩ := V1.out.sbox_at (i := 0) rfl
  clear hW1 hg1
  go_enter Try.func46, Try.ntmps46
  go_upto_region 1 with fail
  rw [← HG1.out, ← HW1.out]
  go_wp2_with fail
  refine (nucleus_any x _).mono ?_
  rintro e w2 ⟨rfl, hb⟩
  have V2 := Lib.hid (V1.out.go hb)
  clear hb c0 c1 c2 c3
  cases hx : nuc x with
  | true =>
    have HE := Lib.hid (show kC (nuc x) = 2 by rw [hx]; rfl)
    go_wp2_with fail
    go_ret
    exact ⟨by rw [HE.out]; rfl, V2.out.below⟩
  | false =>
    have HE := Lib.hid (show kC (nuc x) = 1 by rw [hx]; rfl)
    go_wp2_with fail
    go_ret
    exact ⟨by rw [HE.out]; rfl, V2.out.below⟩
set_option maxHeartbeats 2000000 in
theorem firstP_any (x : Sg) (A : Option Addr) (c : Nat) (w : World) (h0 : 0 < x.s.length) (h2 : x.s.length ≤ 1000) (hA : CellsIn w A (sndsC x.s)) :
    Calls Try.prog 31 #[.agg #[.string (bs x.t), .slice A x.s.length c, .int .i64 x.c, .int .i64 x.w]] w fun e w' => e = .returned (.int .i64 (kC (begB x.s) : Int)) ∧ Below w.heap.size w w' := by
  obtain ⟨g1, hg1⟩ : ∃ z, z = w.heap.size := ⟨_, rfl⟩
  obtain ⟨m, hm⟩ : ∃ m, x.s.length = m + 1 := ⟨x.s.length - 1, by omega⟩
  obtain ⟨y, hy⟩ := get_at (L := x.s) (k := 0) (by omega)
  have HE := Lib.hid (show begB x.s = nuc y from begB_at hy)
  obtain ⟨W1, hW1⟩ : ∃ z, z = w.alloc (.cells #[.string (bs x.t), .slice A x.s.length c, .int .i64 x.c, .int .i64 x.w] 27) := ⟨_, rfl⟩
  have V1 := Lib.hid (show Hp w [sgbox g1 (A, c) x] W1 by rw [hW1, hg1]; exact (Hp.start w).sgbox_new A c x)
  have HW1 := Lib.hid hW1
  have HG1 := Lib.hid hg1
  obtain ⟨b, off, hAe, hb, c0, c1, c2⟩ := (hA.below V1.out.below).snd hy
  have HAE := Lib.hid hAe
  try simp only [Nat.zero_mul, Nat.add_zero] at c0 c1 c2
  obtain ⟨s0, s1, s2, s3, s4⟩ := V1.out.sgbox_at (i := 0) rfl
  dsimp only at s1
  rw [hAe] at s1
  have ep : (0 : Int) < ((x.s.length : Nat) : Int) := by omega
  have hwm : IntKind.i64.wrap ((x.s.length : Int) - 1) = (m : Int) := by rw [IntWalk.i64_in _ (by omega)]; omega
  have hk3 : m * 3 ≤ 3000 := by omega
  have hml : m < x.s.length := by omega
  have HM := Lib.hid hm
  clear hW1 hg1 hA hy hm hAe h0
  go_enter Try.func31, Try.ntmps31
  go_upto_region 1 with fail
  rw [← HG1.out, ← HW1.out]
  go_wp2_with fail
  refine (kindP_any y _).mono ?_
  rintro e w2 ⟨rfl, hb⟩
  have V2 := Lib.hid (V1.out.go hb)
  clear hb c0 c1 c2 s0 s1 s2 s3 s4
  rw [← HE.out]
  go_wp2_with fail
  go_ret
  exact ⟨rfl, V2.out.below⟩
set_option maxHeartbeats 2000000 in
theorem lastP_any (x : Sg) (A : Option Addr) (c : Nat) (w : World) (h0 : 0 < x.s.length) (h2 : x.s.length ≤ 1000) (hA : CellsIn w A (sndsC x.s)) :
    Calls Try.prog 32 #[.agg #[.string (bs x.t), .slice A x.s.length c, .int .i64 x.c, .int .i64 x.w]] w fun e w' => e = .returned (.int .i64 (kC (endB x.s) : Int)) ∧ Below w.heap.size w w' := by
  obtain ⟨g1, hg1⟩ : ∃ z, z = w.heap.size := ⟨_, rfl⟩
  obtain ⟨m, hm⟩ : ∃ m, x.s.length = m + 1 := ⟨x.s.length - 1, by omega⟩
  obtain ⟨y, hy⟩ := get_at (L := x.s) (k := m) (by omega)
  have HE := Lib.hid (show endB x.s = nuc y from endB_at hm hy)
  obtain ⟨W1, hW1⟩ : ∃ z, z = w.alloc (.cells #[.string (bs x.t), .slice A x.s.length c, .int .i64 x.c, .int .i64 x.w] 27) := ⟨_, rfl⟩
  have V1 := Lib.hid (show Hp w [sgbox g1 (A, c) x] W1 by rw [hW1, hg1]; exact (Hp.start w).sgbox_new A c x)
  have HW1 := Lib.hid hW1
  have HG1 := Lib.hid hg1
  obtain ⟨b, off, hAe, hb, c0, c1, c2⟩ := (hA.below V1.out.below).snd hy
  have HAE := Lib.hid hAe
  try simp only [Nat.zero_mul, Nat.add_zero] at c0 c1 c2
  obtain ⟨s0, s1, s2, s3, s4⟩ := V1.out.sgbox_at (i := 0) rfl
  dsimp only at s1
  rw [hAe] at s1
  have ep : (0 : Int) < ((x.s.length : Nat) : Int) := by omega
  have hwm : IntKind.i64.wrap ((x.s.length : Int) - 1) = (m : Int) := by rw [IntWalk.i64_in _ (by omega)]; omega
  have hk3 : m * 3 ≤ 3000 := by omega
  have hml : m < x.s.length := by omega
  have HM := Lib.hid hm
  clear hW1 hg1 hA hy hm hAe h0
  go_enter Try.func32, Try.ntmps32
  go_upto_region 1 with fail
  rw [← HG1.out, ← HW1.out]
  go_wp2_with fail
  refine (kindP_any y _).mono ?_
  rintro e w2 ⟨rfl, hb⟩
  have V2 := Lib.hid (V1.out.go hb)
  clear hb c0 c1 c2 s0 s1 s2 s3 s4
  rw [← HE.out]
  go_wp2_with fail
  go_ret
  exact ⟨rfl, V2.out.below⟩
theorem exP_len (b : Nat) : (exP b).length ≤ 1 := by
  match b with
  | 0 => exact Nat.zero_le _
  | 1 => exact Nat.le_refl _
  | b + 2 => exact Nat.le_refl _
def ExPost (b : Nat) (w : World) (e : Ending) (w' : World) : Prop := ∃ B c, e = .returned (.slice B (exP b).length c) ∧ CellsIn w' B (sndsC (exP b)) ∧ Below w.heap.size w w'
set_option maxHeartbeats 2000000 in
theorem example_any (b : Nat) (w : World) (hb : b < 3) :
    Calls Try.prog 48 #[.int .i64 (b : Int)] w (ExPost b w) := by
  rcases (show b = 0 ∨ b = 1 ∨ b = 2 by omega) with rfl | rfl | rfl
  · go_enter Try.func48, Try.ntmps48
    go_wp2_with fail
    go_ret
    exact ⟨none, 0, rfl, CellsIn.nil _ _, Below.refl _ _⟩
  · obtain ⟨W1, hW1⟩ : ∃ z, z = w.alloc (.cells #[.int .i64 3, .int .i64 0, .string ⟨#[116]⟩] 24) := ⟨_, rfl⟩
    obtain ⟨g1, hg1⟩ : ∃ z, z = w.heap.size := ⟨_, rfl⟩
    have V1 := Lib.hid (show Hp w [snds (some ⟨g1, 0, none⟩) 1 1 (exP 1)] W1 by rw [hW1, hg1]; exact (Hp.start w).lit 24 3 1 (sndsC (exP 1)) rfl (by decide))
    have HW1 := Lib.hid hW1
    have HG1 := Lib.hid hg1
    clear hW1 hg1
    go_enter Try.func48, Try.ntmps48
    go_wp2_with fail
    go_ret
    rw [← HG1.out, ← HW1.out]
    exact ⟨some ⟨g1, 0, none⟩, 1, rfl, V1.out.cells (i := 0) rfl (A := some ⟨g1, 0, none⟩) (c := 1) rfl, V1.out.below⟩
  · obtain ⟨W1, hW1⟩ : ∃ z, z = w.alloc (.cells #[.int .i64 1, .int .i64 3, .string ⟨#[97]⟩] 24) := ⟨_, rfl⟩
    obtain ⟨g1, hg1⟩ : ∃ z, z = w.heap.size := ⟨_, rfl⟩
    have V1 := Lib.hid (show Hp w [snds (some ⟨g1, 0, none⟩) 1 1 (exP 2)] W1 by rw [hW1, hg1]; exact (Hp.start w).lit 24 3 1 (sndsC (exP 2)) rfl (by decide))
    have HW1 := Lib.hid hW1
    have HG1 := Lib.hid hg1
    clear hW1 hg1
    go_enter Try.func48, Try.ntmps48
    go_wp2_with fail
    go_ret
    rw [← HG1.out, ← HW1.out]
    exact ⟨some ⟨g1, 0, none⟩, 1, rfl, V1.out.cells (i := 0) rfl (A := some ⟨g1, 0, none⟩) (c := 1) rfl, V1.out.below⟩
theorem run_index3 (a b c : Int) (k : Nat) (hk : k < 3) (w : World) : (Instr.index 60 (.agg #[.int .i64 a, .int .i64 b, .int .i64 c]) (.int .i64 (k : Int))).run Try.prog w = .ok (.int .i64 (if k = 0 then a else if k = 1 then b else c)) w := by
  rcases (show k = 0 ∨ k = 1 ∨ k = 2 by omega) with rfl | rfl | rfl <;> simp [Instr.index, run_underlying Try.underlying60, asIntOf, part, go_sem, Try.isAgg3]
set_option maxHeartbeats 2000000 in
theorem sum_any (a b c : Nat) (w : World) (ha : a ≤ 1000) (hb : b ≤ 1000) (hc : c ≤ 1000) :
    Calls Try.prog 24 #[.agg #[.int .i64 (a : Int), .int .i64 (b : Int), .int .i64 (c : Int)]] w fun e w' => e = .returned (.int .i64 ((a + b + c : Nat) : Int)) ∧ Below w.heap.size w w' := by
  obtain ⟨g1, hg1⟩ : ∃ z, z = w.heap.size := ⟨_, rfl⟩
  obtain ⟨W1, hW1⟩ : ∃ z, z = w.alloc (.cells #[.int .i64 (a : Int), .int .i64 (b : Int), .int .i64 (c : Int)] 60) := ⟨_, rfl⟩
  have V1 := Lib.hid (show Hp w [box 60 g1 [.int .i64 (a : Int), .int .i64 (b : Int), .int .i64 (c : Int)]] W1 by rw [hW1, hg1]; exact (Hp.start w).box_new _ _)
  have HW1 := Lib.hid hW1
  have HG1 := Lib.hid hg1
  have B1 := Lib.hid V1.out.below
  have c0 := (V1.out.box_at (i := 0) (j := 0) rfl rfl).1
  have c1 := (V1.out.box_at (i := 0) (j := 1) rfl rfl).1
  have c2 := (V1.out.box_at (i := 0) (j := 2) rfl rfl).1
  have hh := (V1.out.box_at (i := 0) (j := 0) rfl rfl).2.2
  clear hW1 hg1
  go_enter Try.func24, Try.ntmps24
  go_upto_region 1 with fail
  rw [← HG1.out, ← HW1.out]
  go_wp2_with fail
  clear c0 c1 c2 hh
  go_loopw [3, 7] (fun v i wr => ∃ k : Nat, k ≤ 3 ∧ i = .int .i64 (k : Int) ∧ v = .int .i64 (((if 0 < k then a else 0) + (if 1 < k then b else 0) + (if 2 < k then c else 0) : Nat) : Int) ∧ Below w.heap.size w wr) (fun _ i _ => 3 - (intOf i).toNat)
  case atStart => exact ⟨0, by omega, rfl, rfl, B1.out⟩
  case round =>
    obtain ⟨k, hk, rfl, rfl, hB⟩ := hrel
    obtain ⟨wi, rfl⟩ : ∃ wi : World, wi = wr := ⟨_, rfl⟩
    have B2 := Lib.hid hB
    clear hB
    rcases (show k = 0 ∨ k = 1 ∨ k = 2 ∨ k = 3 by omega) with rfl | rfl | rfl | rfl
    · have h1 : IntKind.i64.wrap ((0 : Int) + (a : Int)) = (a : Int) := by rw [IntWalk.i64_in _ (by omega)]; omega
      have h2 : IntKind.i64.wrap ((a : Int)) = (a : Int) := IntWalk.i64_in _ (by omega)
      have hix : ∀ w : World, (Instr.index 60 (.agg #[.int .i64 (a : Int), .int .i64 (b : Int), .int .i64 (c : Int)]) (.int .i64 0)).run Try.prog w = .ok (.int .i64 (a : Int)) w := fun w => run_index3 a b c 0 (by decide) w
      go_wp2_with fail
      go_roundw
      case rel => exact ⟨1, by omega, rfl, by simp, B2.out⟩
      case measure => simp [intOf]
    · have h1 : IntKind.i64.wrap ((a : Int) + (b : Int)) = (a : Int) + (b : Int) := IntWalk.i64_in _ (by omega)
      have hix : ∀ w : World, (Instr.index 60 (.agg #[.int .i64 (a : Int), .int .i64 (b : Int), .int .i64 (c : Int)]) (.int .i64 1)).run Try.prog w = .ok (.int .i64 (b : Int)) w := fun w => run_index3 a b c 1 (by decide) w
      go_wp2_with fail
      go_roundw
      case rel => exact ⟨2, by omega, rfl, by simp, B2.out⟩
      case measure => simp [intOf]
    · have h1 : IntKind.i64.wrap ((a : Int) + (b : Int) + (c : Int)) = (a : Int) + (b : Int) + (c : Int) := IntWalk.i64_in _ (by omega)
      have hix : ∀ w : World, (Instr.index 60 (.agg #[.int .i64 (a : Int), .int .i64 (b : Int), .int .i64 (c : Int)]) (.int .i64 2)).run Try.prog w = .ok (.int .i64 (c : Int)) w := fun w => run_index3 a b c 2 (by decide) w
      go_wp2_with fail
      go_roundw
      case rel => exact ⟨3, by omega, rfl, by simp, B2.out⟩
      case measure => simp [intOf]
    · go_wp2_with fail
      go_ret
      exact ⟨by simp, B2.out⟩
end Go.Proofs.Ytpifchlpakajjaa
