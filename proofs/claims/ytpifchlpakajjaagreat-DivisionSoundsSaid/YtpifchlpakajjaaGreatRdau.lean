/- Several texts in one: Za, Or. -/
import Derived.Test.YtpifchlpakajjaaGreatRdas
import Derived.Test.YtpifchlpakajjaaGreatRdat
import Derived.Test.YtpifchlpakajjaaGreatRdai
import Derived.Test.YtpifchlpakajjaaGreatRdag
import Derived.Test.YtpifchlpakajjaaGreatRdak
import Derived.Test.YtpifchlpakajjaaGreatRdap
namespace Go.Proofs.YtpifchlpakajjaaGreat
open Go.RowKit
set_option linter.unusedVariables false
set_option linter.unusedSimpArgs false
set_option maxRecDepth 100000

def kC (b : Bool) : Nat := if b = true then 2 else 1
theorem kC_fs (L : List Sg) (i : Nat) : kC (begB (sgAt L i).s) = fsK L i := rfl
theorem kC_ls (L : List Sg) (i : Nat) : kC (endB (sgAt L i).s) = lsK L i := rfl
set_option maxHeartbeats 2000000 in
theorem kindP_any (x : Snd) (w : World) :
    Calls Tryz.prog 95 #[.agg #[.int .i64 x.k, .int .i64 x.q, .string (bs x.t)]] w fun e w' => e = .returned (.int .i64 (kC (nuc x) : Int)) ∧ Below w.heap.size w w' := by
  obtain ⟨g1, hg1⟩ : ∃ z, z = w.heap.size := ⟨_, rfl⟩
  obtain ⟨W1, hW1⟩ : ∃ z, z = w.alloc (.cells #[.int .i64 x.k, .int .i64 x.q, .string (bs x.t)] 89) := ⟨_, rfl⟩
  have V1 := Lib.hid (show Hp w [sbox g1 x] W1 by rw [hW1, hg1]; exact (Hp.start w).sbox_new x)
  have HW1 := Lib.hid hW1
  have HG1 := Lib.hid hg1
  obtain ⟨c0, c1, c2, c3⟩ := V1.out.sbox_at (i := 0) rfl
  clear hW1 hg1
  go_enter Tryz.func95, Tryz.ntmps95
  go_upto_region 1 with fail
  rw [← HG1.out, ← HW1.out]
  go_wp2_with fail
  refine (nucleus_any x _).mono ?_
  rintro e w2 ⟨rfl, hb⟩
  have V2 := Lib.hid (V1.out.go hb)
  clear hb c0 c1 c2 c3
  cases hx : nuc x with
  | true =>
    have HE := Lib.hid (show kC (nuc x) = 2 by rw [hx]; rfl)
    go_wp2_with fail
    go_ret
    exact ⟨by rw [HE.out]; rfl, V2.out.below⟩
  | false =>
    have HE := Lib.hid (show kC (nuc x) = 1 by rw [hx]; rfl)
    go_wp2_with fail
    go_ret
    exact ⟨by rw [HE.out]; rfl, V2.out.below⟩
set_option maxHeartbeats 2000000 in
theorem firstP_any (x : Sg) (A : Option Addr) (c : Nat) (w : World) (h0 : 0 < x.s.length) (h2 : x.s.length ≤ 1000) (hA : CellsIn w A (sndsC x.s)) :
    Calls Tryz.prog 70 #[.agg #[.string (bs x.t), .slice A x.s.length c, .int .i64 x.c, .int .i64 x.w]] w fun e w' => e = .returned (.int .i64 (kC (begB x.s) : Int)) ∧ Below w.heap.size w w' := by
  obtain ⟨g1, hg1⟩ : ∃ z, z = w.heap.size := ⟨_, rfl⟩
  obtain ⟨m, hm⟩ : ∃ m, x.s.length = m + 1 := ⟨x.s.length - 1, by omega⟩
  obtain ⟨y, hy⟩ := get_at (L := x.s) (k := 0) (by omega)
  have HE := Lib.hid (show begB x.s = nuc y from begB_at hy)
  obtain ⟨W1, hW1⟩ : ∃ z, z = w.alloc (.cells #[.string (bs x.t), .slice A x.s.length c, .int .i64 x.c, .int .i64 x.w] 58) := ⟨_, rfl⟩
  have V1 := Lib.hid (show Hp w [sgbox g1 (A, c) x] W1 by rw [hW1, hg1]; exact (Hp.start w).sgbox_new A c x)
  have HW1 := Lib.hid hW1
  have HG1 := Lib.hid hg1
  obtain ⟨b, off, hAe, hb, c0, c1, c2⟩ := (hA.below V1.out.below).snd hy
  have HAE := Lib.hid hAe
  try simp only [Nat.zero_mul, Nat.add_zero] at c0 c1 c2
  obtain ⟨s0, s1, s2, s3, s4⟩ := V1.out.sgbox_at (i := 0) rfl
  dsimp only at s1
  rw [hAe] at s1
  have ep : (0 : Int) < ((x.s.length : Nat) : Int) := by omega
  have hwm : IntKind.i64.wrap ((x.s.length : Int) - 1) = (m : Int) := by rw [IntWalk.i64_in _ (by omega)]; omega
  have hk3 : m * 3 ≤ 3000 := by omega
  have hml : m < x.s.length := by omega
  have HM := Lib.hid hm
  clear hW1 hg1 hA hy hm hAe h0
  go_enter Tryz.func70, Tryz.ntmps70
  go_upto_region 1 with fail
  rw [← HG1.out, ← HW1.out]
  go_wp2_with fail
  refine (kindP_any y _).mono ?_
  rintro e w2 ⟨rfl, hb⟩
  have V2 := Lib.hid (V1.out.go hb)
  clear hb c0 c1 c2 s0 s1 s2 s3 s4
  rw [← HE.out]
  go_wp2_with fail
  go_ret
  exact ⟨rfl, V2.out.below⟩
set_option maxHeartbeats 2000000 in
theorem lastP_any (x : Sg) (A : Option Addr) (c : Nat) (w : World) (h0 : 0 < x.s.length) (h2 : x.s.length ≤ 1000) (hA : CellsIn w A (sndsC x.s)) :
    Calls Tryz.prog 71 #[.agg #[.string (bs x.t), .slice A x.s.length c, .int .i64 x.c, .int .i64 x.w]] w fun e w' => e = .returned (.int .i64 (kC (endB x.s) : Int)) ∧ Below w.heap.size w w' := by
  obtain ⟨g1, hg1⟩ : ∃ z, z = w.heap.size := ⟨_, rfl⟩
  obtain ⟨m, hm⟩ : ∃ m, x.s.length = m + 1 := ⟨x.s.length - 1, by omega⟩
  obtain ⟨y, hy⟩ := get_at (L := x.s) (k := m) (by omega)
  have HE := Lib.hid (show endB x.s = nuc y from endB_at hm hy)
  obtain ⟨W1, hW1⟩ : ∃ z, z = w.alloc (.cells #[.string (bs x.t), .slice A x.s.length c, .int .i64 x.c, .int .i64 x.w] 58) := ⟨_, rfl⟩
  have V1 := Lib.hid (show Hp w [sgbox g1 (A, c) x] W1 by rw [hW1, hg1]; exact (Hp.start w).sgbox_new A c x)
  have HW1 := Lib.hid hW1
  have HG1 := Lib.hid hg1
  obtain ⟨b, off, hAe, hb, c0, c1, c2⟩ := (hA.below V1.out.below).snd hy
  have HAE := Lib.hid hAe
  try simp only [Nat.zero_mul, Nat.add_zero] at c0 c1 c2
  obtain ⟨s0, s1, s2, s3, s4⟩ := V1.out.sgbox_at (i := 0) rfl
  dsimp only at s1
  rw [hAe] at s1
  have ep : (0 : Int) < ((x.s.length : Nat) : Int) := by omega
  have hwm : IntKind.i64.wrap ((x.s.length : Int) - 1) = (m : Int) := by rw [IntWalk.i64_in _ (by omega)]; omega
  have hk3 : m * 3 ≤ 3000 := by omega
  have hml : m < x.s.length := by omega
  have HM := Lib.hid hm
  clear hW1 hg1 hA hy hm hAe h0
  go_enter Tryz.func71, Tryz.ntmps71
  go_upto_region 1 with fail
  rw [← HG1.out, ← HW1.out]
  go_wp2_with fail
  refine (kindP_any y _).mono ?_
  rintro e w2 ⟨rfl, hb⟩
  have V2 := Lib.hid (V1.out.go hb)
  clear hb c0 c1 c2 s0 s1 s2 s3 s4
  rw [← HE.out]
  go_wp2_with fail
  go_ret
  exact ⟨rfl, V2.out.below⟩
theorem exP_len (b : Nat) : (exP b).length ≤ 1 := by
  match b with
  | 0 => exact Nat.zero_le _
  | 1 => exact Nat.le_refl _
  | b + 2 => exact Nat.le_refl _
def ExPost (b : Nat) (w : World) (e : Ending) (w' : World) : Prop := ∃ B c, e = .returned (.slice B (exP b).length c) ∧ CellsIn w' B (sndsC (exP b)) ∧ Below w.heap.size w w'
set_option maxHeartbeats 2000000 in
theorem example_any (b : Nat) (w : World) (hb : b < 3) :
    Calls Tryz.prog 96 #[.int .i64 (b : Int)] w (ExPost b w) := by
  rcases (show b = 0 ∨ b = 1 ∨ b = 2 by omega) with rfl | rfl | rfl
  · go_enter Tryz.func96, Tryz.ntmps96
    go_wp2_with fail
    go_ret
    exact ⟨none, 0, rfl, CellsIn.nil _ _, Below.refl _ _⟩
  · obtain ⟨W1, hW1⟩ : ∃ z, z = w.alloc (.cells #[.int .i64 3, .int .i64 0, .string ⟨#[116]⟩] 89) := ⟨_, rfl⟩
    obtain ⟨g1, hg1⟩ : ∃ z, z = w.heap.size := ⟨_, rfl⟩
    have V1 := Lib.hid (show Hp w [snds (some ⟨g1, 0, none⟩) 1 1 (exP 1)] W1 by rw [hW1, hg1]; exact (Hp.start w).lit 89 3 1 (sndsC (exP 1)) rfl (by decide))
    have HW1 := Lib.hid hW1
    have HG1 := Lib.hid hg1
    clear hW1 hg1
    go_enter Tryz.func96, Tryz.ntmps96
    go_wp2_with fail
    go_ret
    rw [← HG1.out, ← HW1.out]
    exact ⟨some ⟨g1, 0, none⟩, 1, rfl, V1.out.cells (i := 0) rfl (A := some ⟨g1, 0, none⟩) (c := 1) rfl, V1.out.below⟩
  · obtain ⟨W1, hW1⟩ : ∃ z, z = w.alloc (.cells #[.int .i64 1, .int .i64 3, .string ⟨#[97]⟩] 89) := ⟨_, rfl⟩
    obtain ⟨g1, hg1⟩ : ∃ z, z = w.heap.size := ⟨_, rfl⟩
    have V1 := Lib.hid (show Hp w [snds (some ⟨g1, 0, none⟩) 1 1 (exP 2)] W1 by rw [hW1, hg1]; exact (Hp.start w).lit 89 3 1 (sndsC (exP 2)) rfl (by decide))
    have HW1 := Lib.hid hW1
    have HG1 := Lib.hid hg1
    clear hW1 hg1
    go_enter Tryz.func96, Tryz.ntmps96
    go_wp2_with fail
    go_ret
    rw [← HG1.out, ← HW1.out]
    exact ⟨some ⟨g1, 0, none⟩, 1, rfl, V1.out.cells (i := 0) rfl (A := some ⟨g1, 0, none⟩) (c := 1) rfl, V1.out.below⟩
theorem run_index3 (a b c : Int) (k : Nat) (hk : k < 3) (w : World) : (Instr.index 97 (.agg #[.int .i64 a, .int .i64 b, .int .i64 c]) (.int .i64 (k : Int))).run Tryz.prog w = .ok (.int .i64 (if k = 0 then a else if k = 1 then b else c)) w := by
  rcases (show k = 0 ∨ k = 1 ∨ k = 2 by omega) with rfl | rfl | rfl <;> simp [Instr.index, run_underlying Tryz.underlying97, asIntOf, part, go_sem, Tryz.isAgg3]
set_option maxHeartbeats 2000000 in
theorem sum_any (a b c : Nat) (w : World) (ha : a ≤ 1000) (hb : b ≤ 1000) (hc : c ≤ 1000) :
    Calls Tryz.prog 80 #[.agg #[.int .i64 (a : Int), .int .i64 (b : Int), .int .i64 (c : Int)]] w fun e w' => e = .returned (.int .i64 ((a + b + c : Nat) : Int)) ∧ Below w.heap.size w w' := by
  obtain ⟨g1, hg1⟩ : ∃ z, z = w.heap.size := ⟨_, rfl⟩
  obtain ⟨W1, hW1⟩ : ∃ z, z = w.alloc (.cells #[.int .i64 (a : Int), .int .i64 (b : Int), .int .i64 (c : Int)] 97) := ⟨_, rfl⟩
  have V1 := Lib.hid (show Hp w [box 97 g1 [.int .i64 (a : Int), .int .i64 (b : Int), .int .i64 (c : Int)]] W1 by rw [hW1, hg1]; exact (Hp.start w).box_new _ _)
  have HW1 := Lib.hid hW1
  have HG1 := Lib.hid hg1
  have B1 := Lib.hid V1.out.below
  have c0 := (V1.out.box_at (i := 0) (j := 0) rfl rfl).1
  have c1 := (V1.out.box_at (i := 0) (j := 1) rfl rfl).1
  have c2 := (V1.out.box_at (i := 0) (j := 2) rfl rfl).1
  have hh := (V1.out.box_at (i := 0) (j := 0) rfl rfl).2.2
  clear hW1 hg1
  go_enter Tryz.func80, Tryz.ntmps80
  go_upto_region 1 with fail
  rw [← HG1.out, ← HW1.out]
  go_wp2_with fail
  clear c0 c1 c2 hh
  go_loopw [3, 7] (fun v i wr => ∃ k : Nat, k ≤ 3 ∧ i = .int .i64 (k : Int) ∧ v = .int .i64 (((if 0 < k then a else 0) + (if 1 < k then b else 0) + (if 2 < k then c else 0) : Nat) : Int) ∧ Below w.heap.size w wr) (fun _ i _ => 3 - (intOf i).toNat)
  case atStart => exact ⟨0, by omega, rfl, rfl, B1.out⟩
  case round =>
    obtain ⟨k, hk, rfl, rfl, hB⟩ := hrel
    obtain ⟨wi, rfl⟩ : ∃ wi : World, wi = wr := ⟨_, rfl⟩
    have B2 := Lib.hid hB
    clear hB
    rcases (show k = 0 ∨ k = 1 ∨ k = 2 ∨ k = 3 by omega) with rfl | rfl | rfl | rfl
    · have h1 : IntKind.i64.wrap ((0 : Int) + (a : Int)) = (a : Int) := by rw [IntWalk.i64_in _ (by omega)]; omega
      have h2 : IntKind.i64.wrap ((a : Int)) = (a : Int) := IntWalk.i64_in _ (by omega)
      have hix : ∀ w : World, (Instr.index 97 (.agg #[.int .i64 (a : Int), .int .i64 (b : Int), .int .i64 (c : Int)]) (.int .i64 0)).run Tryz.prog w = .ok (.int .i64 (a : Int)) w := fun w => run_index3 a b c 0 (by decide) w
      go_wp2_with fail
      go_roundw
      case rel => exact ⟨1, by omega, rfl, by simp, B2.out⟩
      case measure => simp [intOf]
    · have h1 : IntKind.i64.wrap ((a : Int) + (b : Int)) = (a : Int) + (b : Int) := IntWalk.i64_in _ (by omega)
      have hix : ∀ w : World, (Instr.index 97 (.agg #[.int .i64 (a : Int), .int .i64 (b : Int), .int .i64 (c : Int)]) (.int .i64 1)).run Tryz.prog w = .ok (.int .i64 (b : Int)) w := fun w => run_index3 a b c 1 (by decide) w
      go_wp2_with fail
      go_roundw
      case rel => exact ⟨2, by omega, rfl, by simp, B2.out⟩
      case measure => simp [intOf]
    · have h1 : IntKind.i64.wrap ((a : Int) + (b : Int) + (c : Int)) = (a : Int) + (b : Int) + (c : Int) := IntWalk.i64_in _ (by omega)
      have hix : ∀ w : World, (Instr.index 97 (.agg #[.int .i64 (a : Int), .int .i64 (b : Int), .int .i64 (c : Int)]) (.int .i64 2)).run Tryz.prog w = .ok (.int .i64 (c : Int)) w := fun w => run_index3 a b c 2 (by decide) w
      go_wp2_with fail
      go_roundw
      case rel => exact ⟨3, by omega, rfl, by simp, B2.out⟩
      case measure => simp [intOf]
    · go_wp2_with fail
      go_ret
      exact ⟨by simp, B2.out⟩
end Go.Proofs.YtpifchlpakajjaaGreat

namespace Go.Proofs.YtpifchlpakajjaaGreat
open Go.RowKit
set_option linter.unusedVariables false
set_option linter.unusedSimpArgs false
set_option maxRecDepth 100000
open Go.ChangeShapes Go.WideShapes Go.ChangeAt
theorem sgn_cells : Tryz.prog.cellsOf 58 = 4 := by kernel_rfl
theorem sgn_bytes : Tryz.prog.bytesOf 58 = 56 := by kernel_rfl
theorem orth_cells : Tryz.prog.cellsOf 24 = 2 := by kernel_rfl
theorem sndl_cells : Tryz.prog.cellsOf 41 = 1 := by kernel_rfl
theorem sgnl_cells : Tryz.prog.cellsOf 22 = 1 := by kernel_rfl
section
variable {H : Type} {enc : TypeId × Value → H} {W : World}
theorem open_sndsT {fuel : Nat} {v : Value} {d : DataW H} {p : List MemPlace} (hf : DataW.trod enc Tryz.prog W 0 (fun _ => true) true fuel 41 [v] = some (d, p)) (hw : ∀ m ∈ d.weights Tryz.prog 41, m ≤ reachBytes) :
    ∃ (A : Option Addr) (n c : Nat) (L : List Snd), v = .slice A n c ∧ L.length = n ∧ n ≤ c ∧ n ≤ 17592186044416 ∧ (∀ x ∈ L, x.t.length ≤ 140737488355328) ∧ CellsIn W A (sndsC L) := by
  have hcv : ∀ u, [v] = [u] → v = u := fun u hu => by injection hu
  rcases Go.Deep.open_slice Tryz.underlying41 hf with ⟨hcs, hy⟩ | ⟨a, len, cap, m, n, D, Pl, hcs, _, hl, hm, hmm, hy, hi⟩
  · exact ⟨none, 0, 0, [], hcv _ hcs, rfl, Nat.le_refl _, Nat.zero_le _, fun x hx => by simp at hx, CellsIn.nil _ _⟩
  · simp only [if_true] at hmm
    subst hmm
    simp only [Prod.mk.injEq] at hy
    obtain ⟨hd, _⟩ := hy
    rw [snd_cells] at hi
    have hr := reachBytes_lt
    have hbig : len ≤ 17592186044416 := by
      have h1 : (((List.range len).map D).length + ((List.range (m - len)).map fun j => D (len + j)).length) * Tryz.prog.bytesOf 89 ∈ d.weights Tryz.prog 41 := by
        rw [hd]; simp [DataW.weights, Tryz.underlying41]
      have h2 := hw _ h1
      rw [snd_bytes] at h2
      simp only [List.length_map, List.length_range] at h2
      omega
    have hone : ∀ i, i < len → ∃ x : Snd, (W.cell? ((a.add (i * 3)).add 0) = some (.int .i64 x.k) ∧ W.cell? ((a.add (i * 3)).add 1) = some (.int .i64 x.q) ∧ W.cell? ((a.add (i * 3)).add 2) = some (.string (bs x.t))) ∧ x.t.length ≤ 140737488355328 := by
      intro i hil
      obtain ⟨cs', hc, ht⟩ := hi i (by omega)
      obtain ⟨x, h0, h1, h2, hwx⟩ := open_sndc ht
      obtain ⟨_, hlen, hat⟩ := World.cells?_some hc
      refine ⟨x, ⟨(hat 0 (by omega)).trans h0, (hat 1 (by omega)).trans h1, (hat 2 (by omega)).trans h2⟩, ?_⟩
      have hmem : x.t.length ∈ d.weights Tryz.prog 41 := by
        rw [hd]
        simp only [DataW.weights, Tryz.underlying41, List.mem_cons, List.mem_append]
        exact Or.inr (Or.inl (weights_in (List.mem_map.2 ⟨i, List.mem_range.2 hil, rfl⟩) _ hwx))
      have := hw _ hmem
      omega
    obtain ⟨F, hF⟩ : ∃ F : Nat → Snd, ∀ i, i < len → (W.cell? ((a.add (i * 3)).add 0) = some (.int .i64 (F i).k) ∧ W.cell? ((a.add (i * 3)).add 1) = some (.int .i64 (F i).q) ∧ W.cell? ((a.add (i * 3)).add 2) = some (.string (bs (F i).t))) ∧ (F i).t.length ≤ 140737488355328 :=
      ⟨fun i => if h : i < len then Classical.choose (hone i h) else ⟨0, 0, []⟩, fun i h => by simp only [dif_pos h]; exact Classical.choose_spec (hone i h)⟩
    refine ⟨some a, len, m, (List.range len).map F, hcv _ hcs, by simp, hl, hbig, fun x hx => ?_, fun h0 => ?_⟩
    · obtain ⟨i, hi1, rfl⟩ := List.mem_map.1 hx
      exact (hF i (List.mem_range.1 hi1)).2
    · have h0' : 0 < len := by rw [sndsC_len] at h0; simp at h0; omega
      obtain ⟨b, off, spot⟩ := a
      have hc0 := (hF 0 h0').1.1
      have hspot : spot = none := by simpa [Addr.add] using World.cell?_spot hc0
      subst hspot
      have ea : ∀ i j, ((⟨b, off, none⟩ : Addr).add i).add j = ⟨b, off + i + j, none⟩ := fun i j => by unfold Addr.add; split <;> split <;> simp_all
      refine ⟨b, off, rfl, ?_, fun j u hu => ?_⟩
      · have := World.block_lt_of_cell? W _ hc0
        rw [ea] at this
        exact this
      · obtain ⟨i, x, hx, hc⟩ := snds_split hu
        obtain ⟨hil, rfl⟩ := get_range hx
        obtain ⟨⟨h1, h2, h3⟩, _⟩ := hF i hil
        rw [ea] at h1 h2 h3
        rcases hc with ⟨rfl, rfl⟩ | ⟨rfl, rfl⟩ | ⟨rfl, rfl⟩
        · exact h1
        · rw [← Nat.add_assoc]; exact h2
        · rw [← Nat.add_assoc]; exact h3
def SgLim (x : Sg) : Prop := x.t.length ≤ 140737488355328 ∧ x.s.length ≤ 17592186044416 ∧ ∀ y ∈ x.s, y.t.length ≤ 140737488355328
theorem open_sgc {fuel : Nat} {cs : List Value} {d : DataW H} {p : List MemPlace} (h : DataW.trod enc Tryz.prog W 0 (fun _ => true) true fuel 58 cs = some (d, p)) (hw : ∀ m ∈ d.weights Tryz.prog 58, m ≤ reachBytes) :
    ∃ (x : Sg) (A : Option Addr) (c : Nat), cs[0]? = some (.string (bs x.t)) ∧ cs[1]? = some (.slice A x.s.length c) ∧ cs[2]? = some (.int .i64 x.c) ∧ cs[3]? = some (.int .i64 x.w) ∧ SgLim x ∧ x.s.length ≤ c ∧ CellsIn W A (sndsC x.s) := by
  obtain ⟨y0, y1, y2, y3, n, hx, hl, h0, h1, h2, h3⟩ := Go.Joins.trod_struct4 Tryz.underlying58 h
  simp only [int_cells, str_cells, sndl_cells] at h0 h1 h2 h3
  obtain ⟨s, hs, hy0, _⟩ := DataW.trod_string Tryz.underlying9 h0
  obtain ⟨q, hq, hy2, _⟩ := DataW.trod_int Tryz.underlying3 h2
  obtain ⟨r, hr, hy3, _⟩ := DataW.trod_int Tryz.underlying3 h3
  injection hx with hd _
  have hwt : ∀ m, m ∈ y0.1.weights Tryz.prog 9 ∨ m ∈ y1.1.weights Tryz.prog 41 → m ≤ reachBytes := fun m hm => hw m (by
    rw [hd]
    simp only [DataW.weights, Tryz.underlying58, DataW.weightsEach, List.map_cons, List.map_nil, List.mem_append]
    rcases hm with hm | hm
    · exact Or.inl hm
    · exact Or.inr (Or.inl hm))
  have hlen : ((cs.drop 1).take 1).length = 1 := by rw [sgn_cells] at hl; rw [List.length_take, List.length_drop]; omega
  obtain ⟨v, hv⟩ : ∃ v, (cs.drop 1).take 1 = [v] := by
    match hh : (cs.drop 1).take 1, hlen with
    | [v], _ => exact ⟨v, rfl⟩
  rw [hv] at h1
  obtain ⟨A, m, c, L, rfl, hL, hmc, hm, hLs, hC⟩ := open_sndsT h1 (fun m hm => hwt m (Or.inr hm))
  have hrb := reachBytes_lt
  have hst : s.data.toList.length ≤ 140737488355328 := by
    have := hwt s.data.toList.length (Or.inl (by rw [hy0]; simp [DataW.weights]))
    omega
  subst hL
  refine ⟨⟨s.data.toList, L, q, r⟩, A, c, ?_, field_one hv, field_one hq, field_one hr, ⟨hst, hm, hLs⟩, hmc, hC⟩
  rw [field_one hs]; exact congrArg (fun b => some (Value.string b)) (bs_self s).symm
theorem open_sgns {fuel : Nat} {v : Value} {d : DataW H} {p : List MemPlace} (hf : DataW.trod enc Tryz.prog W 0 (fun _ => true) true fuel 22 [v] = some (d, p)) (hw : ∀ m ∈ d.weights Tryz.prog 22, m ≤ reachBytes) :
    ∃ (A : Option Addr) (n c : Nat) (L : List Sg), v = .slice A n c ∧ L.length = n ∧ n ≤ c ∧ n ≤ 17592186044416 ∧ (∀ x ∈ L, SgLim x) ∧ SgnIn W A L := by
  have hcv : ∀ u, [v] = [u] → v = u := fun u hu => by injection hu
  rcases Go.Deep.open_slice Tryz.underlying22 hf with ⟨hcs, hy⟩ | ⟨a, len, cap, m, n, D, Pl, hcs, _, hl, hm, hmm, hy, hi⟩
  · exact ⟨none, 0, 0, [], hcv _ hcs, rfl, Nat.le_refl _, Nat.zero_le _, fun x hx => by simp at hx, fun h => by simp at h⟩
  · simp only [if_true] at hmm
    subst hmm
    simp only [Prod.mk.injEq] at hy
    obtain ⟨hd, _⟩ := hy
    rw [sgn_cells] at hi
    have hr := reachBytes_lt
    have hbig : len ≤ 17592186044416 := by
      have h1 : (((List.range len).map D).length + ((List.range (m - len)).map fun j => D (len + j)).length) * Tryz.prog.bytesOf 58 ∈ d.weights Tryz.prog 22 := by
        rw [hd]; simp [DataW.weights, Tryz.underlying22]
      have h2 := hw _ h1
      rw [sgn_bytes] at h2
      simp only [List.length_map, List.length_range] at h2
      omega
    have hone : ∀ i, i < len → ∃ x : Sg, (∃ Aj cj, W.cell? ((a.add (i * 4)).add 0) = some (.string (bs x.t)) ∧ W.cell? ((a.add (i * 4)).add 1) = some (.slice Aj x.s.length cj) ∧ W.cell? ((a.add (i * 4)).add 2) = some (.int .i64 x.c) ∧ W.cell? ((a.add (i * 4)).add 3) = some (.int .i64 x.w) ∧ CellsIn W Aj (sndsC x.s)) ∧ SgLim x := by
      intro i hil
      obtain ⟨cs', hc, ht⟩ := hi i (by omega)
      have hwi : ∀ k ∈ (D i).weights Tryz.prog 58, k ≤ reachBytes := fun k hk => hw k (by
        rw [hd]
        simp only [DataW.weights, Tryz.underlying22, List.mem_cons, List.mem_append]
        exact Or.inr (Or.inl (weights_in (List.mem_map.2 ⟨i, List.mem_range.2 hil, rfl⟩) _ hk)))
      obtain ⟨x, Aj, cj, h0, h1, h2, h3, hlim, _, hC⟩ := open_sgc ht hwi
      obtain ⟨_, hlen, hat⟩ := World.cells?_some hc
      exact ⟨x, ⟨Aj, cj, (hat 0 (by omega)).trans h0, (hat 1 (by omega)).trans h1, (hat 2 (by omega)).trans h2, (hat 3 (by omega)).trans h3, hC⟩, hlim⟩
    obtain ⟨F, hF⟩ : ∃ F : Nat → Sg, ∀ i, i < len → (∃ Aj cj, W.cell? ((a.add (i * 4)).add 0) = some (.string (bs (F i).t)) ∧ W.cell? ((a.add (i * 4)).add 1) = some (.slice Aj (F i).s.length cj) ∧ W.cell? ((a.add (i * 4)).add 2) = some (.int .i64 (F i).c) ∧ W.cell? ((a.add (i * 4)).add 3) = some (.int .i64 (F i).w) ∧ CellsIn W Aj (sndsC (F i).s)) ∧ SgLim (F i) :=
      ⟨fun i => if h : i < len then Classical.choose (hone i h) else ⟨[], [], 0, 0⟩, fun i h => by simp only [dif_pos h]; exact Classical.choose_spec (hone i h)⟩
    refine ⟨some a, len, m, (List.range len).map F, hcv _ hcs, by simp, hl, hbig, fun x hx => ?_, fun h0 => ?_⟩
    · obtain ⟨i, hi1, rfl⟩ := List.mem_map.1 hx
      exact (hF i (List.mem_range.1 hi1)).2
    · have h0' : 0 < len := by simpa using h0
      obtain ⟨b, off, spot⟩ := a
      obtain ⟨Aj, cj, hc0, _⟩ := (hF 0 h0').1
      have hspot : spot = none := by simpa [Addr.add] using World.cell?_spot hc0
      subst hspot
      have ea : ∀ i j, ((⟨b, off, none⟩ : Addr).add i).add j = ⟨b, off + i + j, none⟩ := fun i j => by unfold Addr.add; split <;> split <;> simp_all
      refine ⟨b, off, rfl, ?_, fun j x hx => ?_⟩
      · have := World.block_lt_of_cell? W _ hc0
        rw [ea] at this
        exact this
      · obtain ⟨hil, rfl⟩ := get_range hx
        obtain ⟨⟨Aj, cj, h0, h1, h2, h3, h4⟩, _⟩ := hF j hil
        rw [ea] at h0 h1 h2 h3
        exact ⟨Aj, cj, h0, h1, h2, h3, h4⟩
theorem open_orth {r : Reach} {b0 : Nat} {v : Value} {d : DataW H} {p : List MemPlace} (hv : Value.okWide Tryz.prog W r b0 24 v)
    (h : DataW.Trod enc Tryz.prog W 0 (fun _ => true) true 24 v d p) (hw : ∀ m ∈ d.weights Tryz.prog 24, m ≤ reachBytes) :
    ∃ (nm : List UInt8) (A : Option Addr) (n c : Nat) (L : List Sg), v = .agg #[.string (bs nm), .slice A n c] ∧ nm.length ≤ 140737488355328 ∧ L.length = n ∧ n ≤ c ∧ n ≤ 17592186044416 ∧ (∀ x ∈ L, SgLim x) ∧ SgnIn W A L := by
  obtain ⟨cs, rfl, hsz⟩ := okWide_struct Tryz.underlying24 hv
  rw [orth_cells] at hsz
  obtain ⟨a, b, rfl⟩ : ∃ a b, cs = #[a, b] := by
    obtain ⟨l⟩ := cs
    match l, hsz with
    | [a, b], _ => exact ⟨a, b, rfl⟩
  obtain ⟨fuel, hf⟩ := h
  obtain ⟨y0, y1, k, hx, hl, h0, h1⟩ := trod_struct2 Tryz.underlying24 hf
  simp only [str_cells, sgnl_cells] at h0 h1
  obtain ⟨s, hs, hy0, _⟩ := DataW.trod_string Tryz.underlying9 h0
  injection hx with hd _
  have hwt : ∀ m, m ∈ y0.1.weights Tryz.prog 9 ∨ m ∈ y1.1.weights Tryz.prog 22 → m ≤ reachBytes := fun m hm => hw m (by
    rw [hd]
    simp only [DataW.weights, Tryz.underlying24, DataW.weightsEach, List.map_cons, List.map_nil, List.mem_append]
    rcases hm with hm | hm
    · exact Or.inl hm
    · exact Or.inr (Or.inl hm))
  have h1' : DataW.trod enc Tryz.prog W 0 (fun _ => true) true k 22 [b] = some y1 := by simpa [Value.cells] using h1
  obtain ⟨A, n, c, L, rfl, hL, hnc, hn, hlim, hC⟩ := open_sgns (d := y1.1) (p := y1.2) h1' (fun m hm => hwt m (Or.inr hm))
  have hrb := reachBytes_lt
  have hst : s.data.toList.length ≤ 140737488355328 := by
    have := hwt s.data.toList.length (Or.inl (by rw [hy0]; simp [DataW.weights]))
    omega
  have ha : a = .string s := by simpa [Value.cells] using field_one hs
  refine ⟨s.data.toList, A, n, c, L, ?_, hst, hL, hnc, hn, hlim, hC⟩
  rw [ha, bs_self]
end
end Go.Proofs.YtpifchlpakajjaaGreat
