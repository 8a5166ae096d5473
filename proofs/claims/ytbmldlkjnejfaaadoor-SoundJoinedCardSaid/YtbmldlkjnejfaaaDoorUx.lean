/- Contracts: Made and All of the reference. -/
import Derived.Test.YtbmldlkjnejfaaaDoorUv
import Derived.Test.YtbmldlkjnejfaaaDoorUl
namespace Go.Proofs.YtbmldlkjnejfaaaDoor
open Go.RowKit
set_option linter.unusedVariables false
set_option linter.unusedSimpArgs false
set_option maxRecDepth 100000

def mdL : List Snd := [⟨1, 3, [97]⟩, ⟨1, 1, [101]⟩, ⟨1, 2, [111]⟩, ⟨1, 3, [105]⟩, ⟨2, 2, [97, 101]⟩, ⟨3, 0, [116]⟩, ⟨3, 0, [98]⟩, ⟨4, 0, [114]⟩, ⟨4, 0, [108]⟩, ⟨5, 0, [109]⟩, ⟨5, 0, [110]⟩, ⟨6, 0, [115]⟩, ⟨7, 0, [120]⟩, ⟨8, 0, [118]⟩, ⟨9, 0, [104]⟩, ⟨1, 3, [117]⟩]
def mdS (b : Int) : Snd := mdL.getD (b.toNat % 16) zS
def allS (B : List Int) : List Snd := B.map mdS
theorem mdL_ok : ∀ x ∈ mdL, vS x = 0 := by decide
theorem md_at (n : Nat) : mdL[n % 16]? = some (mdS (n : Int)) := by
  have h : n % 16 < mdL.length := by show n % 16 < 16; exact Nat.mod_lt _ (by decide)
  unfold mdS
  rw [Int.toNat_natCast, List.getD_eq_getElem?_getD, List.getElem?_eq_getElem h]; rfl
theorem md_ok (b : Int) : vS (mdS b) = 0 := by
  refine mdL_ok _ ?_
  unfold mdS
  have h : b.toNat % 16 < mdL.length := by show b.toNat % 16 < 16; exact Nat.mod_lt _ (by decide)
  rw [List.getD_eq_getElem?_getD, List.getElem?_eq_getElem h]
  exact List.getElem_mem _
theorem all_ok (B : List Int) : ∀ x ∈ allS B, vS x = 0 := fun x hx => by
  obtain ⟨b, _, rfl⟩ := List.mem_map.1 hx
  exact md_ok b
theorem all_len (B : List Int) : (allS B).length = B.length := by simp [allS]
theorem alls_step {B : List Int} {k : Nat} {z : Int} (h : B[k]? = some z) : allS (B.take (k + 1)) = allS (B.take k) ++ [mdS z] := by
  unfold allS; rw [take_snoc h, List.map_append]; rfl
set_option maxHeartbeats 8000000 in
theorem made_any (n : Nat) (w : World) (hn : n ≤ 255) : Calls Tryd.prog 50 #[.int .u8 (n : Int)] w fun e w' => e = .returned (.agg #[.int .i64 (mdS (n : Int)).k, .int .i64 (mdS (n : Int)).q, .string (bs (mdS (n : Int)).t)]) ∧ Below w.heap.size w w' := by
  have V0 := Lib.hid ((Hp.start w).sbox_new zS)
  have V1 := Lib.hid (show Hp w [⟨23, 3, .slice (some ⟨w.heap.size + 1, 0, none⟩) 16 16, 16, sndsC mdL⟩, sbox w.heap.size zS] ((w.alloc (.cells #[.int .i64 0, .int .i64 0, .string ⟨#[]⟩] 23)).alloc (.cells #[.int .i64 1, .int .i64 3, .string ⟨#[97]⟩, .int .i64 1, .int .i64 1, .string ⟨#[101]⟩, .int .i64 1, .int .i64 2, .string ⟨#[111]⟩, .int .i64 1, .int .i64 3, .string ⟨#[105]⟩, .int .i64 2, .int .i64 2, .string ⟨#[97, 101]⟩, .int .i64 3, .int .i64 0, .string ⟨#[116]⟩, .int .i64 3, .int .i64 0, .string ⟨#[98]⟩, .int .i64 4, .int .i64 0, .string ⟨#[114]⟩, .int .i64 4, .int .i64 0, .string ⟨#[108]⟩, .int .i64 5, .int .i64 0, .string ⟨#[109]⟩, .int .i64 5, .int .i64 0, .string ⟨#[110]⟩, .int .i64 6, .int .i64 0, .string ⟨#[115]⟩, .int .i64 7, .int .i64 0, .string ⟨#[120]⟩, .int .i64 8, .int .i64 0, .string ⟨#[118]⟩, .int .i64 9, .int .i64 0, .string ⟨#[104]⟩, .int .i64 1, .int .i64 3, .string ⟨#[117]⟩] 23)) by
    have := V0.out.lit 23 3 16 (sndsC mdL) rfl (by decide)
    rw [show (w.alloc (.cells #[.int .i64 zS.k, .int .i64 zS.q, .string (bs zS.t)] 23)).heap.size = w.heap.size + 1 by simp] at this
    exact this)
  obtain ⟨y, hy⟩ : ∃ y, y = mdS (n : Int) := ⟨_, rfl⟩
  have hat := md_at n
  rw [← hy] at hat
  obtain ⟨b, off, hb0, hbl, c0, c1, c2⟩ := (V1.out.cells (i := 0) (A := some ⟨w.heap.size + 1, 0, none⟩) (c := 16) rfl rfl).snd hat
  injection hb0 with hb0
  injection hb0 with hb1 hb2
  subst hb1; subst hb2
  simp only [Nat.zero_add] at c0 c1 c2
  obtain ⟨k0, k1, k2, k3, k4, k5, k6⟩ := V1.out.zbox_all (i := 1) rfl
  have CC := Lib.hid (kept_cells (box_cells w y) (by simp) (bnew (w.alloc (.cells #[.int .i64 y.k, .int .i64 y.q, .string (bs y.t)] 23)) (.cells #[.int .i64 1, .int .i64 3, .string ⟨#[97]⟩, .int .i64 1, .int .i64 1, .string ⟨#[101]⟩, .int .i64 1, .int .i64 2, .string ⟨#[111]⟩, .int .i64 1, .int .i64 3, .string ⟨#[105]⟩, .int .i64 2, .int .i64 2, .string ⟨#[97, 101]⟩, .int .i64 3, .int .i64 0, .string ⟨#[116]⟩, .int .i64 3, .int .i64 0, .string ⟨#[98]⟩, .int .i64 4, .int .i64 0, .string ⟨#[114]⟩, .int .i64 4, .int .i64 0, .string ⟨#[108]⟩, .int .i64 5, .int .i64 0, .string ⟨#[109]⟩, .int .i64 5, .int .i64 0, .string ⟨#[110]⟩, .int .i64 6, .int .i64 0, .string ⟨#[115]⟩, .int .i64 7, .int .i64 0, .string ⟨#[120]⟩, .int .i64 8, .int .i64 0, .string ⟨#[118]⟩, .int .i64 9, .int .i64 0, .string ⟨#[104]⟩, .int .i64 1, .int .i64 3, .string ⟨#[117]⟩] 23)))
  rw [← hy]
  clear hy hat
  go_enter Tryd.func50, Tryd.ntmps50
  go_wp2
  obtain ⟨d0, d1, d2⟩ := CC.out
  exact bodyPost_ret (v := .agg #[.int .i64 y.k, .int .i64 y.q, .string (bs y.t)]) (by simp [results, Tryd.results50, go_sem, d0, d1, d2]) rfl ⟨rfl, btwo (bnew _ _) (bnew _ _)⟩
theorem CellsIn.byte {w : World} {A : Option Addr} {B : List Int} (h : CellsIn w A (bytesC B)) {j : Nat} {z : Int} (hz : B[j]? = some z) : ∃ b off, A = some ⟨b, off, none⟩ ∧ b < w.heap.size ∧ w.cell? ⟨b, off + j, none⟩ = some (.int .u8 z) := by
  have hj := (List.getElem?_eq_some_iff.1 hz).1
  obtain ⟨b, off, e, hlt, hc⟩ := h (by unfold bytesC; rw [List.length_map]; omega)
  exact ⟨b, off, e, hlt, hc j _ (by unfold bytesC; rw [List.getElem?_map, hz]; rfl)⟩
set_option maxHeartbeats 8000000 in
theorem all_any (B : List Int) (n c : Nat) (A : Option Addr) (w : World) (hl : B.length = n) (hn : n ≤ 1000000) (hz : ∀ z ∈ B, 0 ≤ z ∧ z ≤ 255) (hA : CellsIn w A (bytesC B)) :
    Calls Tryd.prog 33 #[.slice A n c] w fun e w' => ∃ C d, e = .returned (.slice C n d) ∧ Hp w [snds C n d (allS B)] w' := by
  have HL := Lib.hid hl
  have HA := Lib.hid hA
  have HZ := Lib.hid hz
  clear hl hA hz
  go_enter Tryd.func33, Tryd.ntmps33
  go_wp2
  go_loopw [3, 4] (fun v i wr => ∃ (k d : Nat) (C : Option Addr), k ≤ n ∧ i = .int .i64 k ∧ v = .slice C k d ∧ Hp w [snds C k d (allS (B.take k))] wr) (fun _ i _ => n - (intOf i).toNat)
  case atStart => exact ⟨0, 0, none, Nat.zero_le _, rfl, rfl, (Hp.start w).nil_row _ rfl rfl rfl⟩
  case round =>
    obtain ⟨k, d, C, hk, rfl, rfl, hV⟩ := hrel
    have V := Lib.hid hV
    by_cases hlt : k < n
    · obtain ⟨z, hz⟩ := idx_lt HL.out hlt
      obtain ⟨b, off, rfl, hb, c0⟩ := (HA.out.below hV.below).byte hz
      have hzb := HZ.out z (List.mem_of_getElem? hz)
      obtain ⟨m, rfl⟩ := Int.eq_ofNat_of_zero_le hzb.1
      have hm : m ≤ 255 := by omega
      have HS := Lib.hid (alls_step hz)
      obtain ⟨y, hy⟩ : ∃ y, y = mdS (m : Int) := ⟨_, rfl⟩
      rw [← hy] at HS
      have HY := Lib.hid hy
      clear hz hzb hV hy
      go_wp2_with fail
      refine (made_any m _ hm).mono ?_
      rintro e w2 ⟨rfl, hb2⟩
      rw [← HY.out]
      have V2 := Lib.hid (V.out.go hb2)
      clear hb2
      obtain ⟨wy, hwy⟩ : ∃ wy, wy = w2.alloc (.cells #[.int .i64 y.k, .int .i64 y.q, .string (bs y.t)] 23) := ⟨_, rfl⟩
      have V5 := Lib.hid (show Hp w [sbox w2.heap.size y, snds C k d (allS (B.take k))] wy by rw [hwy]; exact V2.out.sbox_new y)
      obtain ⟨g6, cap6, w6, hr6, hv6, _⟩ := run_app_snd V5.out (i := 1) rfl 26 (b := w2.heap.size) y (fun j u hu => (V5.out.box_at (i := 0) rfl hu).1) (by omega)
      have V6 := Lib.hid (show Hp w [snds (some ⟨g6, 0, none⟩) (k + 1) cap6 (allS (B.take (k + 1)))] w6 by rw [HS.out]; exact hv6.tail)
      have HR6 := Lib.hid hr6
      have HWY := Lib.hid hwy
      clear hwy hr6 hv6
      go_wp2_with (at_builtin; rw [← HWY.out]; refine wpList_app_run rfl (.tmp 11) (.tmp 17) 26 rfl HR6.out rfl rfl ?_)
      go_roundw
      case rel => exact ⟨k + 1, cap6, _, by omega, by go_num, rfl, V6.out⟩
      case measure => simp [intOf]; omega
    · obtain rfl : k = n := by omega
      rw [take_all HL.out] at hV
      have V9 := Lib.hid hV
      clear hV V
      go_wp2
      go_ret
      exact ⟨C, d, rfl, V9.out⟩
end Go.Proofs.YtbmldlkjnejfaaaDoor
