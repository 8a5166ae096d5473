/- Several texts in one: Zo, Zq, Zp, Yk. -/
import Derived.Test.YtpifchlpakajjaaGreatRtbt
import Derived.Test.YtpifchlpakajjaaGreatRtbp
import Derived.Test.YtpifchlpakajjaaGreatRtbo
import Derived.Test.YtpifchlpakajjaaGreatRtbl
import Derived.Deep.WholeRow
import Derived.Test.YtpifchlpakajjaaGreatRtag
import Derived.Test.YtpifchlpakajjaaGreatRtaj
import Derived.Test.YtpifchlpakajjaaGreatRtau
import Derived.Test.YtpifchlpakajjaaGreatRtap
import Derived.Test.YtpifchlpakajjaaGreatRtam
import Derived.Test.YtpifchlpakajjaaGreatRtan
import Derived.Test.YtpifchlpakajjaaGreatRtbn
import Derived.Test.YtpifchlpakajjaaGreatRtbc
namespace Go.Proofs.YtpifchlpakajjaaGreat
open Go.RowKit
set_option linter.unusedVariables false
set_option linter.unusedSimpArgs false
set_option maxRecDepth 100000

theorem offD_len (L : List Sg) : ∀ (a : Nat) (d : List Nat), (offD L a d).length = (sndD L d).length
  | _, [] => rfl
  | a, i :: r => by
    rw [offD, List.length_append, List.length_replicate, offD_len L _ r]
    unfold sndD
    rw [List.flatMap_cons, List.length_append]
theorem sdR_len (nm : List UInt8) (L : List Sg) (d : List Int) : (sdR nm L d).length ≤ 32 ∧ (ofR nm L d).length ≤ 32 := by
  unfold sdR ofR
  by_cases h : lsE nm L d = 0
  · rw [if_pos h, if_pos h, offD_len]
    obtain ⟨h1, h2, h3⟩ := lsE_zero h
    have := tD_len_le h1 (d := dN d) (fun i hi => by
      obtain ⟨z, hz, e⟩ := List.mem_map.1 hi
      have := rgI_is.1 h3 z hz
      omega)
    have hl := dN_len d
    omega
  · rw [if_neg h, if_neg h]; simp
end Go.Proofs.YtpifchlpakajjaaGreat

namespace Go.Proofs.YtpifchlpakajjaaGreat
open Go.RowKit
set_option linter.unusedVariables false
set_option linter.unusedSimpArgs false
set_option maxRecDepth 100000

set_option maxHeartbeats 2000000 in
theorem nan_any (a : Int) (w : World) : Calls Tryz.prog 89 #[.int .i64 a] w fun e w' => e = .returned (.bool false) ∧ Below w.heap.size w w' := by
  have e1 : (a != a) = false := bne_no rfl
  have e2 : (a == a) = true := beq_yes rfl
  go_enter Tryz.func89, Tryz.ntmps89
  go_wp2_with fail
  go_ret
  exact ⟨rfl, Below.refl _ _⟩
set_option maxHeartbeats 2000000 in
theorem less_no (a b : Int) (h : b ≤ a) (w : World) : Calls Tryz.prog 62 #[.int .i64 a, .int .i64 b] w fun e w' => e = .returned (.bool false) ∧ Below w.heap.size w w' := by
  have e1 : decide (a < b) = false := decide_eq_false (by omega)
  go_enter Tryz.func62, Tryz.ntmps62
  go_wp2_with fail
  refine (nan_any a w).mono ?_
  rintro e w1 ⟨rfl, hb⟩
  have B1 := Lib.hid hb
  clear hb
  go_wp2_with fail
  go_ret
  exact ⟨rfl, B1.out⟩
set_option maxHeartbeats 3000000 in
theorem sorted_any (A : Option Addr) (n c : Nat) (L : List Int) (w : World) (hL : L.length = n) (hn : n ≤ 1000000) (h1 : CellsIn w A (ints L)) (hs : ∀ k, k + 1 < n → L.getD k 0 ≤ L.getD (k + 1) 0) :
    Calls Tryz.prog 32 #[.slice A n c] w fun e w' => e = .returned (.bool true) ∧ Below w.heap.size w w' := by
  have HL := Lib.hid hL
  have H1 := Lib.hid h1
  have HS := Lib.hid hs
  clear hL h1 hs
  go_enter Tryz.func32, Tryz.ntmps32
  go_wp2_with fail
  go_loopw [3] (fun cv wr => ∃ k : Int, cv = .int .i64 k ∧ k < n ∧ -1 ≤ k ∧ Below w.heap.size w wr) (fun cv _ => (intOf cv).toNat)
  case atStart => exact ⟨(n : Int) - 1, rfl, by omega, by omega, Below.refl _ _⟩
  case round =>
    obtain ⟨z, rfl, hz, hz1, hB⟩ := hrel
    obtain ⟨wi, rfl⟩ : ∃ wi : World, wi = wr := ⟨_, rfl⟩
    have HB := Lib.hid hB
    clear hB
    by_cases hlt : 0 < z
    case neg =>
      go_wp2_with fail
      go_ret
      exact ⟨rfl, HB.out⟩
    obtain ⟨p, rfl⟩ : ∃ p : Nat, z = ((p + 1 : Nat) : Int) := ⟨z.toNat - 1, by omega⟩
    obtain ⟨b, off, rfl, hb1, c1⟩ := (H1.out.below HB.out).int (j := p + 1) (by rw [HL.out]; omega)
    obtain ⟨b', off', he, _, c2⟩ := (H1.out.below HB.out).int (j := p) (by rw [HL.out]; omega)
    injection he with he
    injection he with he1 he2 _
    subst he1
    subst he2
    have hxy := HS.out p (by omega)
    obtain ⟨x, hx⟩ : ∃ x, x = L.getD (p + 1) 0 := ⟨_, rfl⟩
    obtain ⟨y, hy⟩ : ∃ y, y = L.getD p 0 := ⟨_, rfl⟩
    rw [← hx] at c1
    rw [← hy] at c2
    rw [← hx, ← hy] at hxy
    clear hx hy
    obtain ⟨k, hk⟩ : ∃ k, k = p + 1 := ⟨_, rfl⟩
    rw [← hk] at c1 hz hz1 hlt ⊢
    have hkp : IntKind.i64.wrap (((k : Nat) : Int) - 1) = (p : Int) := by rw [IntWalk.i64_in _ (by omega)]; omega
    have hkn : k < n := by omega
    have hpn : p < n := by omega
    have HK := Lib.hid hk
    clear hk
    go_wp2_with fail
    have hKp : Keep [(⟨b, off + k, none⟩, .int .i64 x), (⟨b, off + p, none⟩, .int .i64 y)] wi := List.forall_mem_cons.2 ⟨⟨c1, hb1⟩, List.forall_mem_cons.2 ⟨⟨c2, hb1⟩, fun _ h => by simp at h⟩⟩
    refine wp_region_held_drew (S := Keep _) (by kernel_rfl) hKp.drew (fun hHeld => ?_)
    have HBD := Lib.hid (btwo HB.out (bdrew wi))
    generalize wi.drew = wd at hHeld HBD ⊢
    refine tk 0 ?_ rfl ?_ ?_; rotate_left; focus (intro w hSw; clear hSw; go_simp; try (with_reducible rfl))
    try simp only [Act.put, sA, sZ, sS]
    refine tk 1 ?_ rfl ?_ ?_; rotate_left; focus (intro w hSw; clear hSw; go_simp; try (with_reducible rfl))
    try simp only [Act.put, sA, sZ, sS]
    refine tk 2 ?_ rfl ?_ ?_; rotate_left; focus (intro w hSw; clear hSw; go_simp; try (with_reducible rfl))
    try simp only [Act.put, sA, sZ, sS]
    refine tk 3 ?_ rfl ?_ ?_; rotate_left
    · intro wl hSw
      have hSw : Keep _ wl := hSw
      have k0 := (hSw _ (.head _)).1
      have k1 := (hSw _ (.tail _ (.head _))).1
      dsimp only at k0 k1
      clear hSw
      go_simp
      try (with_reducible rfl)
    try simp only [Act.put, sA, sZ, sS]
    refine tk 4 ?_ rfl ?_ ?_; rotate_left; focus (intro w hSw; clear hSw; go_simp; try (with_reducible rfl))
    try simp only [Act.put, sA, sZ, sS]
    refine tk 5 ?_ rfl ?_ ?_; rotate_left; focus (intro w hSw; clear hSw; go_simp; try (with_reducible rfl))
    try simp only [Act.put, sA, sZ, sS]
    refine tk 6 ?_ rfl ?_ ?_; rotate_left; focus (intro w hSw; clear hSw; go_simp; try (with_reducible rfl))
    try simp only [Act.put, sA, sZ, sS]
    refine tk 7 ?_ rfl ?_ ?_; rotate_left; focus (intro w hSw; clear hSw; go_simp; try (with_reducible rfl))
    try simp only [Act.put, sA, sZ, sS]
    refine tk 8 ?_ rfl ?_ ?_; rotate_left
    · intro wl hSw
      have hSw : Keep _ wl := hSw
      have k0 := (hSw _ (.head _)).1
      have k1 := (hSw _ (.tail _ (.head _))).1
      dsimp only at k0 k1
      clear hSw
      go_simp
      try (with_reducible rfl)
    try simp only [Act.put, sA, sZ, sS]
    refine wpAnyH_ready (rs := [9]) (by kernel_rfl) (by simp) ?_
    refine AllReadyH.cons (List.getElem?_toArray.trans rfl) (fun K hK => ?_) AllReadyH.nil
    go_simp
    refine (less_no x y hxy _).mono ?_
    rintro e wq ⟨rfl, hb⟩
    try go_wp2_with fail
    refine hK.out _ _ (hHeld.go hb) (fun hHeld => ?_)
    clear hK K hHeld
    try simp only [Act.put, sA, sZ, sS]
    refine wpAnyH_done (by kernel_rfl) ?_ _
    go_wp2_with fail
    go_roundw
    case rel => exact ⟨(p : Int), by go_num, by omega, by omega, btwo HBD.out hb⟩
    case measure => have hkk := HK.out; simp [intOf]; omega
end Go.Proofs.YtpifchlpakajjaaGreat

namespace Go.Proofs.YtpifchlpakajjaaGreat
open Go.RowKit
set_option linter.unusedVariables false
set_option linter.unusedSimpArgs false
set_option maxRecDepth 100000

theorem bef_cost {L : List Sg} {a b : List Nat} (h : befB L a b = true) : cD L a ≤ cD L b := by
  unfold befB at h
  split at h
  · omega
  · have := of_decide_eq_true h; omega
end Go.Proofs.YtpifchlpakajjaaGreat

namespace Go.Proofs.YtpifchlpakajjaaGreat
open Go.RowKit
set_option linter.unusedVariables false
set_option linter.unusedSimpArgs false
set_option maxRecDepth 100000
open Go.ChangeShapes Go.WideShapes Go.ChangeAt
theorem octl_cells : Tryz.prog.cellsOf 50 = 1 := by kernel_rfl
theorem draft_cells : Tryz.prog.cellsOf 52 = 3 := by kernel_rfl
theorem open_bytesT {H : Type} {enc : TypeId × Value → H} {W : World} {fuel : Nat} {v : Value} {d : DataW H} {p : List MemPlace} (hf : DataW.trod enc Tryz.prog W 0 (fun _ => true) true fuel 50 [v] = some (d, p)) (hw : ∀ m ∈ d.weights Tryz.prog 50, m ≤ reachBytes) :
    ∃ (A : Option Addr) (n c : Nat) (B : List Int), v = .slice A n c ∧ B.length = n ∧ n ≤ 1000000000000000 ∧ (∀ z ∈ B, 0 ≤ z ∧ z ≤ 255) ∧ CellsIn W A (bytesC B) := by
  have hcv : ∀ u, [v] = [u] → v = u := fun u hu => by injection hu
  rcases open_ints Tryz.underlying50 Tryz.underlying5 byte_cells hf with ⟨hcs, hy⟩ | ⟨a, len, cap, zs, hcs, _, hl, hm, hz, hy, hcell, hwz⟩
  · exact ⟨none, 0, 0, [], hcv _ hcs, rfl, Nat.zero_le _, fun z hz => by simp at hz, CellsIn.nil _ _⟩
  · simp only [if_true] at hz
    simp only [Prod.mk.injEq] at hy
    rw [hy.1] at hw
    have hr := bytes_weights hw
    simp only [lits, List.length_map, List.length_take, List.length_drop, hz, Nat.min_eq_left hl] at hr
    have hb := reachBytes_lt
    refine ⟨some a, len, cap, zs.take len, hcv _ hcs, by rw [List.length_take]; omega, by omega, fun z hzz => ?_, fun h0 => ?_⟩
    · exact bounds_u8 (hwz _ (List.mem_of_mem_take hzz))
    · have hlen : 0 < len := by unfold bytesC at h0; rw [List.length_map, List.length_take] at h0; omega
      obtain ⟨b, off, rfl, hlt⟩ := spot_none (hcell 0 (by omega))
      refine ⟨b, off, rfl, hlt, fun j u hu => ?_⟩
      have hj := (List.getElem?_eq_some_iff.1 hu).1
      unfold bytesC at hj hu
      rw [List.length_map, List.length_take] at hj
      have hjl : j < zs.length := by omega
      have := hcell j (by omega)
      rw [add_at] at this
      rw [this]
      rw [List.getElem?_map, List.getElem?_take_of_lt (by omega), List.getElem?_eq_getElem hjl] at hu
      rw [← hu, List.getD_eq_getElem?_getD, List.getElem?_eq_getElem hjl]; rfl
theorem open_draft {H : Type} {enc : TypeId × Value → H} {W : World} {r : Reach} {b0 : Nat} {v : Value} {d : DataW H} {p : List MemPlace} (hv : Value.okWide Tryz.prog W r b0 52 v)
    (h : DataW.Trod enc Tryz.prog W 0 (fun _ => true) true 52 v d p) (hw : ∀ m ∈ d.weights Tryz.prog 52, m ≤ reachBytes) :
    ∃ (kd : Int) (A : Option Addr) (n c : Nat) (D : List Int) (B : Option Addr) (m e : Nat) (M : List Int), v = .agg #[.int .u8 kd, .slice A n c, .slice B m e] ∧ (0 ≤ kd ∧ kd ≤ 255) ∧ ((D.length = n ∧ n ≤ 1000000000000000) ∧ (∀ z ∈ D, 0 ≤ z ∧ z ≤ 255) ∧ CellsIn W A (bytesC D)) ∧ ((M.length = m ∧ m ≤ 1000000000000000) ∧ (∀ z ∈ M, 0 ≤ z ∧ z ≤ 255) ∧ CellsIn W B (bytesC M)) := by
  obtain ⟨cs, rfl, hsz⟩ := okWide_struct Tryz.underlying52 hv
  rw [draft_cells] at hsz
  obtain ⟨a, b, c, rfl⟩ : ∃ a b c, cs = #[a, b, c] := by
    obtain ⟨l⟩ := cs
    match l, hsz with
    | [a, b, c], _ => exact ⟨a, b, c, rfl⟩
  obtain ⟨fuel, hf⟩ := h
  obtain ⟨y0, y1, y2, k, hx, hl, h0, h1, h2⟩ := Go.Deep.trod_struct3 Tryz.underlying52 hf
  simp only [byte_cells, octl_cells] at h0 h1 h2
  obtain ⟨q, hq, hy0, hqb⟩ := DataW.trod_int Tryz.underlying5 h0
  injection hx with hd _
  have hwt : ∀ m, m ∈ y1.1.weights Tryz.prog 50 ∨ m ∈ y2.1.weights Tryz.prog 50 → m ≤ reachBytes := fun m hm => hw m (by
    rw [hd]
    simp only [DataW.weights, Tryz.underlying52, DataW.weightsEach, List.map_cons, List.map_nil, List.mem_append]
    rcases hm with hm | hm
    · exact Or.inr (Or.inl hm)
    · exact Or.inr (Or.inr (Or.inl hm)))
  have h1' : DataW.trod enc Tryz.prog W 0 (fun _ => true) true k 50 [b] = some y1 := by simpa [Value.cells] using h1
  have h2' : DataW.trod enc Tryz.prog W 0 (fun _ => true) true k 50 [c] = some y2 := by simpa [Value.cells] using h2
  obtain ⟨A1, n1, c1, B1, rfl, a1, a2, a3, a4⟩ := open_bytesT (d := y1.1) (p := y1.2) h1' (fun m hm => hwt m (Or.inl hm))
  obtain ⟨A2, n2, c2, B2, rfl, d1, d2, d3, d4⟩ := open_bytesT (d := y2.1) (p := y2.2) h2' (fun m hm => hwt m (Or.inr hm))
  have ha : a = .int .u8 q := by simpa [Value.cells] using field_one hq
  have hb : 0 ≤ q ∧ q ≤ 255 := bounds_u8 hqb
  exact ⟨q, A1, n1, c1, B1, A2, n2, c2, B2, by rw [ha], hb, ⟨⟨a1, a2⟩, a3, a4⟩, ⟨⟨d1, d2⟩, d3, d4⟩⟩
end Go.Proofs.YtpifchlpakajjaaGreat
