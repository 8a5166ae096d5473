/- Several texts in one: Oo, Za, Ow. -/
import Derived.Test.YtpifchlpakajjaaGreatRtat
import Derived.Test.YtpifchlpakajjaaGreatRtas
import Derived.Test.YtpifchlpakajjaaGreatRtai
import Derived.Test.YtpifchlpakajjaaGreatRtaj
import Derived.Test.YtpifchlpakajjaaGreatRtal
namespace Go.Proofs.YtpifchlpakajjaaGreat
open Go.RowKit
set_option linter.unusedVariables false
set_option linter.unusedSimpArgs false
set_option maxRecDepth 100000

def fitB (L : List Sg) (i : Int) (B A : List Snd) : Bool := if i < 0 then false else match L[i.toNat]? with
  | none => false
  | some x => whB x.w B A
theorem fitB_neg {L : List Sg} {i : Int} {B A : List Snd} (h : i < 0) : fitB L i B A = false := by unfold fitB; rw [if_pos h]
theorem fitB_out {L : List Sg} {i : Int} {B A : List Snd} (h0 : ¬ i < 0) (h : (L.length : Int) ≤ i) : fitB L i B A = false := by
  unfold fitB; rw [if_neg h0, List.getElem?_eq_none (by omega)]
theorem fitB_at {L : List Sg} {k : Nat} {x : Sg} {B A : List Snd} (h : L[k]? = some x) : fitB L (k : Int) B A = whB x.w B A := by
  unfold fitB; rw [if_neg (by omega), show (k : Int).toNat = k by omega, h]
theorem last_at {α : Type} {l : List α} {m : Nat} (h : l.length = m + 1) : ∃ x, l[m]? = some x := ⟨l[m]'(by omega), List.getElem?_eq_getElem (by omega)⟩
theorem fits_cell (nm : List UInt8) (k : Nat) (wv : Int) (n c nb cb na ca b off : Nat) (AB AA : Option Addr) (w : World) (B A : List Snd) (hk : k < n) (hn : n ≤ 17592186044416) (hb : b < w.heap.size) (hc : w.cell? ⟨b, off + k * 4 + 3, none⟩ = some (.int .i64 wv))
    (hB : B.length = nb) (hnb : nb ≤ 1000000) (hA : A.length = na) (hna : na ≤ 1000000) (hcB : CellsIn w AB (sndsC B)) (hcA : CellsIn w AA (sndsC A)) :
    Calls Tryz.prog 84 #[.agg #[.string (bs nm), .slice (some ⟨b, off, none⟩) n c], .int .i64 (k : Int), .slice AB nb cb, .slice AA na ca] w fun e w' => e = .returned (.bool (whB wv B A)) ∧ Below w.heap.size w w' := by
  unfold whB
  by_cases ha : na = 0
  · subst ha
    rw [show begB A = false by rw [nil_of hA]; rfl]
    by_cases hb0 : nb = 0
    · subst hb0
      rw [show endB B = false by rw [nil_of hB]; rfl, show (B.length == 0) = true by rw [hB]; rfl]
      exact fits_11 nm k wv n c 0 cb 0 ca b off w AA AB hk hn hb hc
    · obtain ⟨m, rfl⟩ : ∃ m, nb = m + 1 := ⟨nb - 1, by omega⟩
      obtain ⟨y, hy⟩ := last_at hB
      obtain ⟨r, o2, rfl, hr, y0⟩ := hcB.snd hy
      rw [endB_at hB hy, show (B.length == 0) = false by rw [hB]; rfl]
      exact fits_10 nm k wv n c 0 cb 0 ca b off w y r o2 m AA hk hn hb hc hr (by omega) y0
  · obtain ⟨m, rfl⟩ : ∃ m, na = m + 1 := ⟨na - 1, by omega⟩
    obtain ⟨x, hx⟩ := get_at (L := A) (k := 0) (by omega)
    obtain ⟨p, o1, rfl, hp, x0, x1, x2⟩ := hcA.snd hx
    simp only [Nat.zero_mul, Nat.add_zero] at x0 x1 x2
    rw [begB_at hx]
    by_cases hb0 : nb = 0
    · subst hb0
      rw [show endB B = false by rw [nil_of hB]; rfl, show (B.length == 0) = true by rw [hB]; rfl]
      exact fits_01 nm k wv n c 0 cb 0 ca b off w x p o1 m AB hk hn hb hc hp (by omega) ⟨x0, x1, x2⟩
    · obtain ⟨m', rfl⟩ : ∃ m, nb = m + 1 := ⟨nb - 1, by omega⟩
      obtain ⟨y, hy⟩ := last_at hB
      obtain ⟨r, o2, rfl, hr, y0⟩ := hcB.snd hy
      rw [endB_at hB hy, show (B.length == 0) = false by rw [hB]; rfl]
      exact fits_00 nm k wv n c 0 cb 0 ca b off w x p o1 m y r o2 m' hk hn hb hc hp (by omega) ⟨x0, x1, x2⟩ hr (by omega) y0
set_option maxHeartbeats 4000000 in
theorem fits_none (nm : List UInt8) (L : List Sg) (i : Int) (n c nb cb na ca : Nat) (AO AB AA : Option Addr) (w : World) (B A : List Snd) (h : i < 0 ∨ (n : Int) ≤ i) (hl : L.length = n) :
    Calls Tryz.prog 84 #[.agg #[.string (bs nm), .slice AO n c], .int .i64 i, .slice AB nb cb, .slice AA na ca] w fun e w' => e = .returned (.bool (fitB L i B A)) ∧ Below w.heap.size w w' := by
  obtain ⟨g1, hg1⟩ : ∃ z, z = w.heap.size := ⟨_, rfl⟩
  obtain ⟨W1, hW1⟩ : ∃ z, z = w.alloc (.cells #[.string (bs nm), .slice AO n c] 24) := ⟨_, rfl⟩
  have V1 := Lib.hid (show Hp w [obox g1 nm AO n c] W1 by rw [hW1, hg1]; exact (Hp.start w).obox_new nm AO n c)
  have HW1 := Lib.hid hW1
  have HG1 := Lib.hid hg1
  obtain ⟨z0, z1, z2⟩ := V1.out.obox_at (i := 0) rfl
  by_cases h0 : i < 0
  · have HE := Lib.hid (fitB_neg (L := L) (B := B) (A := A) h0)
    clear hW1 hg1 h hl
    go_enter Tryz.func84, Tryz.ntmps84
    go_upto_region 1 with fail
    rw [← HG1.out, ← HW1.out]
    go_wp2_with fail
    go_ret
    exact ⟨ret_bool HE.out.symm, V1.out.below⟩
  · have HE := Lib.hid (fitB_out (L := L) (B := B) (A := A) h0 (by omega))
    have h1 : (n : Int) ≤ i := by omega
    clear hW1 hg1 h hl
    go_enter Tryz.func84, Tryz.ntmps84
    go_upto_region 1 with fail
    rw [← HG1.out, ← HW1.out]
    go_wp2_with fail
    go_ret
    exact ⟨ret_bool HE.out.symm, V1.out.below⟩
theorem fits_any (nm : List UInt8) (L : List Sg) (i : Int) (n c nb cb na ca : Nat) (AO AB AA : Option Addr) (w : World) (B A : List Snd) (hl : L.length = n) (hn : n ≤ 17592186044416) (hO : SgnIn w AO L)
    (hB : B.length = nb) (hnb : nb ≤ 1000000) (hA : A.length = na) (hna : na ≤ 1000000) (hcB : CellsIn w AB (sndsC B)) (hcA : CellsIn w AA (sndsC A)) :
    Calls Tryz.prog 84 #[.agg #[.string (bs nm), .slice AO n c], .int .i64 i, .slice AB nb cb, .slice AA na ca] w fun e w' => e = .returned (.bool (fitB L i B A)) ∧ Below w.heap.size w w' := by
  by_cases h : i < 0 ∨ (n : Int) ≤ i
  · exact fits_none nm L i n c nb cb na ca AO AB AA w B A h hl
  · obtain ⟨k, rfl⟩ : ∃ k : Nat, i = (k : Int) := ⟨i.toNat, by omega⟩
    obtain ⟨x, hx⟩ := get_at (L := L) (k := k) (by omega)
    obtain ⟨b, off, Aj, cj, rfl, hb, c0, c1, c2, c3, c4⟩ := hO.at hx
    rw [fitB_at hx]
    exact fits_cell nm k x.w n c nb cb na ca b off AB AA w B A (by omega) hn hb c3 hB hnb hA hna hcB hcA
end Go.Proofs.YtpifchlpakajjaaGreat

namespace Go.Proofs.YtpifchlpakajjaaGreat
open Go.RowKit
set_option linter.unusedVariables false
set_option linter.unusedSimpArgs false
set_option maxRecDepth 100000

def kC (b : Bool) : Nat := if b = true then 2 else 1
theorem kC_fs (L : List Sg) (i : Nat) : kC (begB (sgAt L i).s) = fsK L i := rfl
theorem kC_ls (L : List Sg) (i : Nat) : kC (endB (sgAt L i).s) = lsK L i := rfl
set_option maxHeartbeats 2000000 in
theorem kindP_any (x : Snd) (w : World) :
    Calls Tryz.prog 95 #[.agg #[.int .i64 x.k, .int .i64 x.q, .string (bs x.t)]] w fun e w' => e = .returned (.int .i64 (kC (nuc x) : Int)) ∧ Below w.heap.size w w' := by
  obtain ⟨g1, hg1⟩ : ∃ z, z = w.heap.size := ⟨_, rfl⟩
  obtain ⟨W1, hW1⟩ : ∃ z, z = w.alloc (.cells #[.int .i64 x.k, .int .i64 x.q, .string (bs x.t)] 89) := ⟨_, rfl⟩
  have V1 := Lib.hid (show Hp w [sbox g1 x] W1 by rw [hW1, hg1]; exact (Hp.start w).sbox_new x)
  have HW1 := Lib.hid hW1
  have HG1 := Lib.hid hg1
  obtain ⟨c0, c1, c2, c3⟩ := V1.out.sbox_at (i := 0) rfl
  clear hW1 hg1
  go_enter Tryz.func95, Tryz.ntmps95
  go_upto_region 1 with fail
  rw [← HG1.out, ← HW1.out]
  go_wp2_with fail
  refine (nucleus_any x _).mono ?_
  rintro e w2 ⟨rfl, hb⟩
  have V2 := Lib.hid (V1.out.go hb)
  clear hb c0 c1 c2 c3
  cases hx : nuc x with
  | true =>
    have HE := Lib.hid (show kC (nuc x) = 2 by rw [hx]; rfl)
    go_wp2_with fail
    go_ret
    exact ⟨by rw [HE.out]; rfl, V2.out.below⟩
  | false =>
    have HE := Lib.hid (show kC (nuc x) = 1 by rw [hx]; rfl)
    go_wp2_with fail
    go_ret
    exact ⟨by rw [HE.out]; rfl, V2.out.below⟩
set_option maxHeartbeats 2000000 in
theorem firstP_any (x : Sg) (A : Option Addr) (c : Nat) (w : World) (h0 : 0 < x.s.length) (h2 : x.s.length ≤ 1000) (hA : CellsIn w A (sndsC x.s)) :
    Calls Tryz.prog 70 #[.agg #[.string (bs x.t), .slice A x.s.length c, .int .i64 x.c, .int .i64 x.w]] w fun e w' => e = .returned (.int .i64 (kC (begB x.s) : Int)) ∧ Below w.heap.size w w' := by
  obtain ⟨g1, hg1⟩ : ∃ z, z = w.heap.size := ⟨_, rfl⟩
  obtain ⟨m, hm⟩ : ∃ m, x.s.length = m + 1 := ⟨x.s.length - 1, by omega⟩
  obtain ⟨y, hy⟩ := get_at (L := x.s) (k := 0) (by omega)
  have HE := Lib.hid (show begB x.s = nuc y from begB_at hy)
  obtain ⟨W1, hW1⟩ : ∃ z, z = w.alloc (.cells #[.string (bs x.t), .slice A x.s.length c, .int .i64 x.c, .int .i64 x.w] 58) := ⟨_, rfl⟩
  have V1 := Lib.hid (show Hp w [sgbox g1 (A, c) x] W1 by rw [hW1, hg1]; exact (Hp.start w).sgbox_new A c x)
  have HW1 := Lib.hid hW1
  have HG1 := Lib.hid hg1
  obtain ⟨b, off, hAe, hb, c0, c1, c2⟩ := (hA.below V1.out.below).snd hy
  have HAE := Lib.hid hAe
  try simp only [Nat.zero_mul, Nat.add_zero] at c0 c1 c2
  obtain ⟨s0, s1, s2, s3, s4⟩ := V1.out.sgbox_at (i := 0) rfl
  dsimp only at s1
  rw [hAe] at s1
  have ep : (0 : Int) < ((x.s.length : Nat) : Int) := by omega
  have hwm : IntKind.i64.wrap ((x.s.length : Int) - 1) = (m : Int) := by rw [IntWalk.i64_in _ (by omega)]; omega
  have hk3 : m * 3 ≤ 3000 := by omega
  have hml : m < x.s.length := by omega
  have HM := Lib.hid hm
  clear hW1 hg1 hA hy hm hAe h0
  go_enter Tryz.func70, Tryz.ntmps70
  go_upto_region 1 with fail
  rw [← HG1.out, ← HW1.out]
  go_wp2_with fail
  refine (kindP_any y _).mono ?_
  rintro e w2 ⟨rfl, hb⟩
  have V2 := Lib.hid (V1.out.go hb)
  clear hb c0 c1 c2 s0 s1 s2 s3 s4
  rw [← HE.out]
  go_wp2_with fail
  go_ret
  exact ⟨rfl, V2.out.below⟩
set_option maxHeartbeats 2000000 in
theorem lastP_any (x : Sg) (A : Option Addr) (c : Nat) (w : World) (h0 : 0 < x.s.length) (h2 : x.s.length ≤ 1000) (hA : CellsIn w A (sndsC x.s)) :
    Calls Tryz.prog 71 #[.agg #[.string (bs x.t), .slice A x.s.length c, .int .i64 x.c, .int .i64 x.w]] w fun e w' => e = .returned (.int .i64 (kC (endB x.s) : Int)) ∧ Below w.heap.size w w' := by
  obtain ⟨g1, hg1⟩ : ∃ z, z = w.heap.size := ⟨_, rfl⟩
  obtain ⟨m, hm⟩ : ∃ m, x.s.length = m + 1 := ⟨x.s.length - 1, by omega⟩
  obtain ⟨y, hy⟩ := get_at (L := x.s) (k := m) (by omega)
  have HE := Lib.hid (show endB x.s = nuc y from endB_at hm hy)
  obtain ⟨W1, hW1⟩ : ∃ z, z = w.alloc (.cells #[.string (bs x.t), .slice A x.s.length c, .int .i64 x.c, .int .i64 x.w] 58) := ⟨_, rfl⟩
  have V1 := Lib.hid (show Hp w [sgbox g1 (A, c) x] W1 by rw [hW1, hg1]; exact (Hp.start w).sgbox_new A c x)
  have HW1 := Lib.hid hW1
  have HG1 := Lib.hid hg1
  obtain ⟨b, off, hAe, hb, c0, c1, c2⟩ := (hA.below V1.out.below).snd hy
  have HAE := Lib.hid hAe
  try simp only [Nat.zero_mul, Nat.add_zero] at c0 c1 c2
  obtain ⟨s0, s1, s2, s3, s4⟩ := V1.out.sgbox_at (i := 0) rfl
  dsimp only at s1
  rw [hAe] at s1
  have ep : (0 : Int) < ((x.s.length : Nat) : Int) := by omega
  have hwm : IntKind.i64.wrap ((x.s.length : Int) - 1) = (m : Int) := by rw [IntWalk.i64_in _ (by omega)]; omega
  have hk3 : m * 3 ≤ 3000 := by omega
  have hml : m < x.s.length := by omega
  have HM := Lib.hid hm
  clear hW1 hg1 hA hy hm hAe h0
  go_enter Tryz.func71, Tryz.ntmps71
  go_upto_region 1 with fail
  rw [← HG1.out, ← HW1.out]
  go_wp2_with fail
  refine (kindP_any y _).mono ?_
  rintro e w2 ⟨rfl, hb⟩
  have V2 := Lib.hid (V1.out.go hb)
  clear hb c0 c1 c2 s0 s1 s2 s3 s4
  rw [← HE.out]
  go_wp2_with fail
  go_ret
  exact ⟨rfl, V2.out.below⟩
theorem exP_len (b : Nat) : (exP b).length ≤ 1 := by
  match b with
  | 0 => exact Nat.zero_le _
  | 1 => exact Nat.le_refl _
  | b + 2 => exact Nat.le_refl _
def ExPost (b : Nat) (w : World) (e : Ending) (w' : World) : Prop := ∃ B c, e = .returned (.slice B (exP b).length c) ∧ CellsIn w' B (sndsC (exP b)) ∧ Below w.heap.size w w'
set_option maxHeartbeats 2000000 in
theorem example_any (b : Nat) (w : World) (hb : b < 3) :
    Calls Tryz.prog 96 #[.int .i64 (b : Int)] w (ExPost b w) := by
  rcases (show b = 0 ∨ b = 1 ∨ b = 2 by omega) with rfl | rfl | rfl
  · go_enter Tryz.func96, Tryz.ntmps96
    go_wp2_with fail
    go_ret
    exact ⟨none, 0, rfl, CellsIn.nil _ _, Below.refl _ _⟩
  · obtain ⟨W1, hW1⟩ : ∃ z, z = w.alloc (.cells #[.int .i64 3, .int .i64 0, .string ⟨#[116]⟩] 89) := ⟨_, rfl⟩
    obtain ⟨g1, hg1⟩ : ∃ z, z = w.heap.size := ⟨_, rfl⟩
    have V1 := Lib.hid (show Hp w [snds (some ⟨g1, 0, none⟩) 1 1 (exP 1)] W1 by rw [hW1, hg1]; exact (Hp.start w).lit 89 3 1 (sndsC (exP 1)) rfl (by decide))
    have HW1 := Lib.hid hW1
    have HG1 := Lib.hid hg1
    clear hW1 hg1
    go_enter Tryz.func96, Tryz.ntmps96
    go_wp2_with fail
    go_ret
    rw [← HG1.out, ← HW1.out]
    exact ⟨some ⟨g1, 0, none⟩, 1, rfl, V1.out.cells (i := 0) rfl (A := some ⟨g1, 0, none⟩) (c := 1) rfl, V1.out.below⟩
  · obtain ⟨W1, hW1⟩ : ∃ z, z = w.alloc (.cells #[.int .i64 1, .int .i64 3, .string ⟨#[97]⟩] 89) := ⟨_, rfl⟩
    obtain ⟨g1, hg1⟩ : ∃ z, z = w.heap.size := ⟨_, rfl⟩
    have V1 := Lib.hid (show Hp w [snds (some ⟨g1, 0, none⟩) 1 1 (exP 2)] W1 by rw [hW1, hg1]; exact (Hp.start w).lit 89 3 1 (sndsC (exP 2)) rfl (by decide))
    have HW1 := Lib.hid hW1
    have HG1 := Lib.hid hg1
    clear hW1 hg1
    go_enter Tryz.func96, Tryz.ntmps96
    go_wp2_with fail
    go_ret
    rw [← HG1.out, ← HW1.out]
    exact ⟨some ⟨g1, 0, none⟩, 1, rfl, V1.out.cells (i := 0) rfl (A := some ⟨g1, 0, none⟩) (c := 1) rfl, V1.out.below⟩
theorem run_index3 (a b c : Int) (k : Nat) (hk : k < 3) (w : World) : (Instr.index 97 (.agg #[.int .i64 a, .int .i64 b, .int .i64 c]) (.int .i64 (k : Int))).run Tryz.prog w = .ok (.int .i64 (if k = 0 then a else if k = 1 then b else c)) w := by
  rcases (show k = 0 ∨ k = 1 ∨ k = 2 by omega) with rfl | rfl | rfl <;> simp [Instr.index, run_underlying Tryz.underlying97, asIntOf, part, go_sem, Tryz.isAgg3]
set_option maxHeartbeats 2000000 in
theorem sum_any (a b c : Nat) (w : World) (ha : a ≤ 1000) (hb : b ≤ 1000) (hc : c ≤ 1000) :
    Calls Tryz.prog 80 #[.agg #[.int .i64 (a : Int), .int .i64 (b : Int), .int .i64 (c : Int)]] w fun e w' => e = .returned (.int .i64 ((a + b + c : Nat) : Int)) ∧ Below w.heap.size w w' := by
  obtain ⟨g1, hg1⟩ : ∃ z, z = w.heap.size := ⟨_, rfl⟩
  obtain ⟨W1, hW1⟩ : ∃ z, z = w.alloc (.cells #[.int .i64 (a : Int), .int .i64 (b : Int), .int .i64 (c : Int)] 97) := ⟨_, rfl⟩
  have V1 := Lib.hid (show Hp w [box 97 g1 [.int .i64 (a : Int), .int .i64 (b : Int), .int .i64 (c : Int)]] W1 by rw [hW1, hg1]; exact (Hp.start w).box_new _ _)
  have HW1 := Lib.hid hW1
  have HG1 := Lib.hid hg1
  have B1 := Lib.hid V1.out.below
  have c0 := (V1.out.box_at (i := 0) (j := 0) rfl rfl).1
  have c1 := (V1.out.box_at (i := 0) (j := 1) rfl rfl).1
  have c2 := (V1.out.box_at (i := 0) (j := 2) rfl rfl).1
  have hh := (V1.out.box_at (i := 0) (j := 0) rfl rfl).2.2
  clear hW1 hg1
  go_enter Tryz.func80, Tryz.ntmps80
  go_upto_region 1 with fail
  rw [← HG1.out, ← HW1.out]
  go_wp2_with fail
  clear c0 c1 c2 hh
  go_loopw [3, 7] (fun v i wr => ∃ k : Nat, k ≤ 3 ∧ i = .int .i64 (k : Int) ∧ v = .int .i64 (((if 0 < k then a else 0) + (if 1 < k then b else 0) + (if 2 < k then c else 0) : Nat) : Int) ∧ Below w.heap.size w wr) (fun _ i _ => 3 - (intOf i).toNat)
  case atStart => exact ⟨0, by omega, rfl, rfl, B1.out⟩
  case round =>
    obtain ⟨k, hk, rfl, rfl, hB⟩ := hrel
    obtain ⟨wi, rfl⟩ : ∃ wi : World, wi = wr := ⟨_, rfl⟩
    have B2 := Lib.hid hB
    clear hB
    rcases (show k = 0 ∨ k = 1 ∨ k = 2 ∨ k = 3 by omega) with rfl | rfl | rfl | rfl
    · have h1 : IntKind.i64.wrap ((0 : Int) + (a : Int)) = (a : Int) := by rw [IntWalk.i64_in _ (by omega)]; omega
      have h2 : IntKind.i64.wrap ((a : Int)) = (a : Int) := IntWalk.i64_in _ (by omega)
      have hix : ∀ w : World, (Instr.index 97 (.agg #[.int .i64 (a : Int), .int .i64 (b : Int), .int .i64 (c : Int)]) (.int .i64 0)).run Tryz.prog w = .ok (.int .i64 (a : Int)) w := fun w => run_index3 a b c 0 (by decide) w
      go_wp2_with fail
      go_roundw
      case rel => exact ⟨1, by omega, rfl, by simp, B2.out⟩
      case measure => simp [intOf]
    · have h1 : IntKind.i64.wrap ((a : Int) + (b : Int)) = (a : Int) + (b : Int) := IntWalk.i64_in _ (by omega)
      have hix : ∀ w : World, (Instr.index 97 (.agg #[.int .i64 (a : Int), .int .i64 (b : Int), .int .i64 (c : Int)]) (.int .i64 1)).run Tryz.prog w = .ok (.int .i64 (b : Int)) w := fun w => run_index3 a b c 1 (by decide) w
      go_wp2_with fail
      go_roundw
      case rel => exact ⟨2, by omega, rfl, by simp, B2.out⟩
      case measure => simp [intOf]
    · have h1 : IntKind.i64.wrap ((a : Int) + (b : Int) + (c : Int)) = (a : Int) + (b : Int) + (c : Int) := IntWalk.i64_in _ (by omega)
      have hix : ∀ w : World, (Instr.index 97 (.agg #[.int .i64 (a : Int), .int .i64 (b : Int), .int .i64 (c : Int)]) (.int .i64 2)).run Tryz.prog w = .ok (.int .i64 (c : Int)) w := fun w => run_index3 a b c 2 (by decide) w
      go_wp2_with fail
      go_roundw
      case rel => exact ⟨3, by omega, rfl, by simp, B2.out⟩
      case measure => simp [intOf]
    · go_wp2_with fail
      go_ret
      exact ⟨by simp, B2.out⟩
end Go.Proofs.YtpifchlpakajjaaGreat

namespace Go.Proofs.YtpifchlpakajjaaGreat
open Go.RowKit
set_option linter.unusedVariables false
set_option linter.unusedSimpArgs false
set_option maxRecDepth 100000

theorem low_take {t : List UInt8} {s : ByteArray} {k : Nat} (hs : s = bs t) (hk : k < s.size) (h : (t.take k).all isLow = true) (h1 : lowI (s[k].toNat : Int) = true) : (t.take (k + 1)).all isLow = true := by
  have e : t = s.data.toList := by rw [hs, bs_list]
  rw [e] at h ⊢
  rw [takeS hk, List.all_append, h]
  simpa [isLow] using h1
theorem low_bad {t : List UInt8} {s : ByteArray} {k : Nat} (hs : s = bs t) (hk : k < s.size) (h1 : lowI (s[k].toNat : Int) = false) : t.all isLow = false := by
  have e : t = s.data.toList := by rw [hs, bs_list]
  rw [Bool.eq_false_iff]; intro h
  rw [e] at h
  have := List.all_eq_true.1 h s[k] (by rw [getB s k hk]; exact List.getElem_mem _)
  rw [show isLow s[k] = lowI (s[k].toNat : Int) from rfl, h1] at this; cases this
set_option maxHeartbeats 2000000 in
theorem rtx_any (t : List UInt8) (w : World) (ht : t.length ≤ 140737488355328) :
    Calls Tryz.prog 108 #[.string (bs t)] w fun e w' => e = .returned (.int .i64 (txE t)) ∧ w = w' := by
  obtain ⟨tl, htl⟩ : ∃ tl, tl = t.length := ⟨_, rfl⟩
  obtain ⟨s, hs⟩ : ∃ s, s = bs t := ⟨_, rfl⟩
  have hz : s.size = tl := by rw [hs, bs_size]; exact htl.symm
  have HZ := Lib.hid hz
  have HT := Lib.hid htl
  have HS := Lib.hid hs
  rw [← htl] at ht
  rw [← hs]
  by_cases h0 : tl = 0
  · obtain ⟨q1, q2⟩ := emp_l (t := t) (by omega)
    rw [← hs] at q1 q2
    have HE := Lib.hid (txE_empty (t := t) (by omega))
    clear hs htl h0
    go_enter Tryz.func108, Tryz.ntmps108
    go_wp2_with fail
    go_ret
    exact ⟨sym_int HE.out, rfl⟩
  obtain ⟨q1, q2⟩ := ful_l (t := t) (by omega)
  rw [← hs] at q1 q2
  by_cases h4 : 4 < tl
  · have HE := Lib.hid (txE_big (t := t) (by omega))
    clear hs htl h0
    go_enter Tryz.func108, Tryz.ntmps108
    go_wp2_with fail
    go_ret
    exact ⟨sym_int HE.out, rfl⟩
  have H0 := Lib.hid h0
  clear hs htl h0 hz
  go_enter Tryz.func108, Tryz.ntmps108
  have hz := HZ.out
  go_wp2_with fail
  go_loopw [3] (fun i wr => ∃ k : Nat, k ≤ tl ∧ i = .int .i64 (k : Int) ∧ (t.take k).all isLow = true ∧ w = wr) (fun i _ => tl - (intOf i).toNat)
  case atStart => exact ⟨0, Nat.zero_le _, rfl, rfl, rfl⟩
  case round =>
    obtain ⟨k, hk, rfl, hall, rfl⟩ := hrel
    have HALL := Lib.hid hall
    clear hall
    by_cases hlt : k < tl
    · have hlt2 : k < s.size := by have := HZ.out; omega
      have hb0 : (0 : Int) ≤ (s[k].toNat : Int) := by omega
      have hb255 : (s[k].toNat : Int) ≤ 255 := by have := s[k].toNat_lt; omega
      go_wp2_with fail
      refine (T.rletter_any (s[k].toNat : Int) _ hb0 hb255).mono ?_
      rintro e w2 ⟨rfl, hw⟩
      subst hw
      cases hl : T.ltr (s[k].toNat : Int) with
      | false =>
        have HE := Lib.hid (txE_syn (t := t) (by have := HT.out; have := H0.out; omega) (by have := HT.out; omega) (low_bad HS.out hlt2 (by unfold lowI; rw [hl]; rfl)))
        clear hl
        go_wp2_with fail
        go_ret
        exact ⟨sym_int HE.out, rfl⟩
      | true =>
        by_cases h65 : 65 ≤ (s[k].toNat : Int)
        · by_cases h90 : (s[k].toNat : Int) ≤ 90
          · have HE := Lib.hid (txE_syn (t := t) (by have := HT.out; have := H0.out; omega) (by have := HT.out; omega) (low_bad HS.out hlt2 (by unfold lowI; rw [hl, decide_eq_true h65, decide_eq_true h90]; rfl)))
            clear hl
            go_wp2_with fail
            go_ret
            exact ⟨sym_int HE.out, rfl⟩
          · have HN := Lib.hid (low_take HS.out hlt2 HALL.out (by unfold lowI; rw [hl, decide_eq_false h90]; simp))
            clear hl
            go_wp2_with fail
            go_roundw
            case rel => exact ⟨k + 1, by omega, by go_num, HN.out, trivial⟩
            case measure => simp [intOf]; omega
        · have HN := Lib.hid (low_take HS.out hlt2 HALL.out (by unfold lowI; rw [hl, decide_eq_false h65]; simp))
          clear hl
          go_wp2_with fail
          go_roundw
          case rel => exact ⟨k + 1, by omega, by go_num, HN.out, trivial⟩
          case measure => simp [intOf]; omega
    · have HE := Lib.hid (txE_ok (t := t) (by have := HT.out; have := H0.out; omega) (by have := HT.out; omega) (by
        have := HALL.out
        rwa [take_all (by have := HT.out; omega)] at this))
      go_wp2_with fail
      go_ret
      exact ⟨sym_int HE.out, rfl⟩
set_option maxHeartbeats 4000000 in
theorem rsign_any (x : Sg) (A : Option Addr) (c : Nat) (w : World) (ht : x.t.length ≤ 140737488355328) (hn : x.s.length ≤ 17592186044416) (hs : ∀ y ∈ x.s, y.t.length ≤ 140737488355328) (hA : CellsIn w A (sndsC x.s)) :
    Calls Tryz.prog 91 #[.agg #[.string (bs x.t), .slice A x.s.length c, .int .i64 x.c, .int .i64 x.w]] w fun e w' => e = .returned (.int .i64 (sgE x)) ∧ Below w.heap.size w w' := by
  obtain ⟨g1, hg1⟩ : ∃ z, z = w.heap.size := ⟨_, rfl⟩
  obtain ⟨W1, hW1⟩ : ∃ z, z = w.alloc (.cells #[.string (bs x.t), .slice A x.s.length c, .int .i64 x.c, .int .i64 x.w] 58) := ⟨_, rfl⟩
  have V1 := Lib.hid (show Hp w [sgbox g1 (A, c) x] W1 by rw [hW1, hg1]; exact (Hp.start w).sgbox_new A c x)
  have HW1 := Lib.hid hW1
  have HG1 := Lib.hid hg1
  have HA := Lib.hid hA
  have HSS := Lib.hid hs
  obtain ⟨m, hm⟩ : ∃ m, m = x.s.length := ⟨_, rfl⟩
  have HM := Lib.hid hm
  rw [← hm] at hn
  obtain ⟨x0, x1, x2, x3, x4⟩ := V1.out.sgbox_at (i := 0) rfl
  dsimp only at x1
  rw [← hm] at x1
  clear hW1 hg1 hA hs hm
  go_enter Tryz.func91, Tryz.ntmps91
  go_upto_region 1 with fail
  rw [← HG1.out, ← HW1.out]
  go_wp2_with fail
  refine (rtx_any x.t _ ht).mono ?_
  rintro e w2 ⟨rfl, hw⟩
  subst hw
  by_cases htx : txE x.t = 0
  case neg =>
    have HE := Lib.hid (sgE_text htx)
    obtain ⟨v, hv⟩ : ∃ v, v = txE x.t := ⟨_, rfl⟩
    rw [← hv] at htx HE ⊢
    have e1 : (v != 0) = true := bne_yes htx
    clear htx hv
    go_wp2_with fail
    go_ret
    exact ⟨sym_int HE.out, V1.out.below⟩
  have HT0 := Lib.hid htx
  rw [htx]
  clear htx
  by_cases hm0 : m = 0
  · have HE := Lib.hid (sgE_empty HT0.out (by have := HM.out; omega))
    have e0 : ((m : Int) == 0) = true := by simp [hm0]
    clear hm0
    go_wp2_with fail
    go_ret
    exact ⟨sym_int HE.out, V1.out.below⟩
  have e0 : ((m : Int) == 0) = false := by simp [hm0]
  by_cases hm2 : 2 < m
  · have HE := Lib.hid (sgE_big HT0.out (by have := HM.out; omega))
    clear hm0
    go_wp2_with fail
    go_ret
    exact ⟨sym_int HE.out, V1.out.below⟩
  have HM0 := Lib.hid hm0
  clear hm0
  go_wp2_with fail
  clear x0 x1 x2 x3 x4
  go_loopw [4] (fun i wr => ∃ k : Nat, k ≤ m ∧ i = .int .i64 (k : Int) ∧ (∀ z ∈ x.s.take k, vS z = 0) ∧ Hp w [sgbox g1 (A, c) x] wr) (fun i _ => m - (intOf i).toNat)
  case atStart => exact ⟨0, Nat.zero_le _, rfl, fun z hz => by simp at hz, V1.out⟩
  case round =>
    obtain ⟨k, hk, rfl, hall, hV⟩ := hrel
    obtain ⟨wi, rfl⟩ : ∃ wi : World, wi = wr := ⟨_, rfl⟩
    have HALL := Lib.hid hall
    have V3 := Lib.hid hV
    clear hall hV V1
    obtain ⟨x0, x1, x2, x3, x4⟩ := V3.out.sgbox_at (i := 0) rfl
    dsimp only at x1
    rw [← HM.out] at x1
    by_cases hlt : k < m
    · obtain ⟨y, hy⟩ := get_at (L := x.s) (k := k) (by have := HM.out; omega)
      obtain ⟨b, off, rfl, hb, c0, c1, c2⟩ := (HA.out.below V3.out.below).snd hy
      have HY := Lib.hid hy
      have hyl := HSS.out y (List.mem_of_getElem? hy)
      have hk3 : k * 3 ≤ 6 := by omega
      clear hy
      go_wp2_with fail
      refine (rvalid_any y _ hyl).mono ?_
      rintro e w4 ⟨rfl, hb4⟩
      have V4 := Lib.hid (V3.out.go hb4)
      clear hb4
      by_cases hv : vS y = 0
      · have HN := Lib.hid (show ∀ z ∈ x.s.take (k + 1), vS z = 0 from fun z hz => by
          rw [take_snoc HY.out] at hz
          rcases List.mem_append.1 hz with h | h
          · exact HALL.out z h
          · rw [List.mem_singleton.1 h]; exact hv)
        rw [hv]
        clear hv
        go_wp2_with fail
        go_roundw
        case rel => exact ⟨k + 1, by omega, by go_num, HN.out, V4.out⟩
        case measure => simp [intOf]; omega
      · have HE := Lib.hid (show vS y = sgE x by
          have h1 := sg_err_at HY.out HALL.out hv
          rw [sgE_snd HT0.out (by have := HM.out; have := HM0.out; omega) (by have := HM.out; omega) (by rw [h1]; exact hv), h1])
        obtain ⟨v, hvv⟩ : ∃ v, v = vS y := ⟨_, rfl⟩
        rw [← hvv] at hv HE ⊢
        have e1 : (v != 0) = true := bne_yes hv
        clear hv hvv
        go_wp2_with fail
        go_ret
        exact ⟨sym_int HE.out.symm, V4.out.below⟩
    · have HS0 := Lib.hid (show errL x.s = 0 from errL_zero.2 (by
        have := HALL.out
        rwa [take_all (by have := HM.out; omega)] at this))
      obtain ⟨xc, hxc⟩ : ∃ z, z = x.c := ⟨_, rfl⟩
      obtain ⟨xw, hxw⟩ : ∃ z, z = x.w := ⟨_, rfl⟩
      have HXC := Lib.hid hxc
      have HXW := Lib.hid hxw
      rw [← hxc] at x2
      rw [← hxw] at x3
      clear hxc hxw
      by_cases h0 : xc < 0
      · have HE := Lib.hid (sgE_range HT0.out (by have := HM.out; have := HM0.out; omega) (by have := HM.out; omega) HS0.out ((rgE_yes (x := x)).2 (by have := HXC.out; have := HXW.out; omega)))
        go_wp2_with fail
        go_ret
        exact ⟨sym_int HE.out, V3.out.below⟩
      by_cases h1 : 99 < xc
      · have HE := Lib.hid (sgE_range HT0.out (by have := HM.out; have := HM0.out; omega) (by have := HM.out; omega) HS0.out ((rgE_yes (x := x)).2 (by have := HXC.out; have := HXW.out; omega)))
        go_wp2_with fail
        go_ret
        exact ⟨sym_int HE.out, V3.out.below⟩
      by_cases h2 : xw < 0
      · have HE := Lib.hid (sgE_range HT0.out (by have := HM.out; have := HM0.out; omega) (by have := HM.out; omega) HS0.out ((rgE_yes (x := x)).2 (by have := HXC.out; have := HXW.out; omega)))
        go_wp2_with fail
        go_ret
        exact ⟨sym_int HE.out, V3.out.below⟩
      by_cases h3 : 4 < xw
      · have HE := Lib.hid (sgE_range HT0.out (by have := HM.out; have := HM0.out; omega) (by have := HM.out; omega) HS0.out ((rgE_yes (x := x)).2 (by have := HXC.out; have := HXW.out; omega)))
        go_wp2_with fail
        go_ret
        exact ⟨sym_int HE.out, V3.out.below⟩
      have HE := Lib.hid (sgE_ok HT0.out (by have := HM.out; have := HM0.out; omega) (by have := HM.out; omega) HS0.out ((rgE_no (x := x)).2 (by have := HXC.out; have := HXW.out; omega)))
      go_wp2_with fail
      go_ret
      exact ⟨sym_int HE.out, V3.out.below⟩
end Go.Proofs.YtpifchlpakajjaaGreat
