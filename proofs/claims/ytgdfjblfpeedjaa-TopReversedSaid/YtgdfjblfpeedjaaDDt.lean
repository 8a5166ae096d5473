/- Contract of the reference: a graph that numbers describe. -/
import Derived.Test.YtgdfjblfpeedjaaDCX
import Derived.Test.YtgdfjblfpeedjaaDBb
import Derived.Deep.RegionLaw
namespace Go.Proofs.Ytgdfjblfpeedjaa
open Go.RowKit
set_option linter.unusedVariables false
set_option linter.unusedSimpArgs false
set_option maxRecDepth 100000

/-- Words that lie in memory. -/
def words (L : List Nat) : List Value := L.map fun v : Nat => .int .u16 (v : Int)
theorem words_len (L : List Nat) : (words L).length = L.length := by simp [words]
theorem words_at {L : List Nat} {j : Nat} (h : j < L.length) : (words L)[j]? = some (.int .u16 (L.getD j 0 : Nat)) := by
  rw [List.getD_eq_getElem?_getD, List.getElem?_eq_getElem h]; simp [words, h]
theorem word_cells : Try.prog.cellsOf 44 = 1 := by kernel_rfl
theorem word_bytes : Try.prog.bytesOf 44 = 2 := by kernel_rfl
open Go.ChangeShapes Go.WideShapes Go.ChangeAt in
/-- A list of words that came in. -/
theorem open_words {H : Type} {enc : TypeId × Value → H} {W : World} {r : Reach} {b0 : Nat} {v : Value} {d : DataW H} {p : List MemPlace} (hv : Value.okWide Try.prog W r b0 22 v)
    (h : DataW.Trod enc Try.prog W 0 (fun _ => true) true 22 v d p) (hw : ∀ m ∈ d.weights Try.prog 22, m ≤ reachBytes) :
    ∃ (A : Option Addr) (n c : Nat) (L : List Nat), v = .slice A n c ∧ L.length = n ∧ n ≤ 70368744177664 ∧ (∀ x ∈ L, x ≤ 65535) ∧ CellsIn W A (words L) := by
  obtain ⟨fuel, hf⟩ := h
  obtain ⟨av, lv, cv, rfl⟩ := okWide_slice Try.underlying22 hv
  have hcv : ∀ u, (Value.slice av lv cv).cells.toList = [u] → Value.slice av lv cv = u := fun u hu => by
    have : [Value.slice av lv cv] = [u] := by simpa [Value.cells] using hu
    injection this
  rcases open_ints Try.underlying22 Try.underlying44 word_cells hf with ⟨hcs, hy⟩ | ⟨a, len, cap, zs, hcs, _, hl, hm, hz, hy, hcell, hwz⟩
  · exact ⟨none, 0, 0, [], hcv _ hcs, rfl, by omega, (fun x h => by cases h), CellsIn.nil _ _⟩
  · simp only [if_true] at hz
    simp only [Prod.mk.injEq] at hy
    rw [hy.1] at hw
    have hr : (len + (cap - len)) * 2 ≤ reachBytes := by
      have h1 : ((lits .u16 (zs.take len) : List (DataW H)).length + (lits .u16 (zs.drop len) : List (DataW H)).length) * Try.prog.bytesOf 44 ∈ (DataW.slice (lits .u16 (zs.take len)) (lits .u16 (zs.drop len)) : DataW H).weights Try.prog 22 := by
        simp [DataW.weights, Try.underlying22]
      have h2 := hw _ h1
      rw [word_bytes] at h2
      simp only [lits, List.length_map, List.length_take, List.length_drop, hz, Nat.min_eq_left hl] at h2
      exact h2
    have hb := reachBytes_lt
    have hlen : ((zs.take len).map Int.toNat).length = len := by rw [List.length_map, List.length_take, hz, Nat.min_eq_left hl]
    have hbd : ∀ z ∈ zs.take len, 0 ≤ z ∧ z ≤ 65535 := fun z hz => bounds_u16 (hwz _ (List.mem_of_mem_take hz))
    refine ⟨some a, len, cap, (zs.take len).map Int.toNat, hcv _ hcs, hlen, by omega, fun x hx => ?_, fun h0 => ?_⟩
    · obtain ⟨z, h1, rfl⟩ := List.mem_map.1 hx
      have := hbd z h1
      omega
    · rw [words_len, hlen] at h0
      obtain ⟨b, off, rfl, hlt⟩ := spot_none (hcell 0 (by omega))
      refine ⟨b, off, rfl, hlt, fun j u hu => ?_⟩
      have hj := (List.getElem?_eq_some_iff.1 hu).1
      rw [words_len, hlen] at hj
      have hjz : j < zs.length := by omega
      have := hcell j (by omega)
      rw [add_at] at this
      rw [this]
      have e1 : (words ((zs.take len).map Int.toNat))[j]? = some (.int .u16 zs[j]) := by
        unfold words
        rw [List.getElem?_map, List.getElem?_map, List.getElem?_take_of_lt hj, List.getElem?_eq_getElem hjz]
        have h2 := hbd zs[j] (List.mem_take_iff_getElem.2 ⟨j, by omega, rfl⟩)
        show some (Value.int .u16 ((zs[j].toNat : Nat) : Int)) = _
        rw [show ((zs[j].toNat : Nat) : Int) = zs[j] by omega]
      rw [e1] at hu
      rw [← hu, List.getD_eq_getElem?_getD, List.getElem?_eq_getElem hjz]; rfl
/-- What Made returns: a graph without an error. -/
def MadePost (w : World) (e : Ending) (w' : World) : Prop := ∃ (g : Gr) (C : Option Addr) (m d : Nat), e = .returned (gval g C m d) ∧ g.Ok ∧ g.n ≤ 12 ∧ g.rs.length = m ∧ m ≤ 40 ∧ Hp w [arow C m d g.rs] w'
set_option maxHeartbeats 64000000 in
theorem rmade_any (x : Nat) (A : Option Addr) (n c : Nat) (L : List Nat) (w : World) (hx : x ≤ 255) (hl : L.length = n) (hn : n ≤ 70368744177664) (hL : ∀ v ∈ L, v ≤ 65535) (hc : CellsIn w A (words L)) :
    Calls Try.prog 5 #[.int .u8 (x : Int), .slice A n c] w (MadePost w) := by
  have HL := Lib.hid hl
  have HLB := Lib.hid hL
  have HC := Lib.hid hc
  clear hl hL hc
  obtain ⟨N, hN⟩ : ∃ N, N = 1 + x % 12 := ⟨_, rfl⟩
  have hN1 : 1 ≤ N := by omega
  have hN12 : N ≤ 12 := by omega
  obtain ⟨r, hr⟩ : ∃ r, r = x % 12 := ⟨_, rfl⟩
  have hr12 : r < 12 := by omega
  have g1 : IntKind.i64.wrap (x : Int) = (x : Int) := IntWalk.i64_in _ (by omega)
  have g2 : (x : Int).tmod 12 = (r : Int) := by rw [hr]; exact Int.ofNat_tmod x 12 ▸ rfl
  have g3 : IntKind.i64.wrap (r : Int) = (r : Int) := IntWalk.i64_in _ (by omega)
  have g4 : IntKind.i64.wrap (1 + (r : Int)) = (N : Int) := by rw [IntWalk.i64_in _ (by omega)]; omega
  clear hN hr
  obtain ⟨rb, hrb⟩ : ∃ rb, rb = w.heap.size := ⟨_, rfl⟩
  obtain ⟨w1, hw1⟩ : ∃ z, z = w.alloc (.cells #[.int .i64 0, .slice none 0 0] 26) := ⟨_, rfl⟩
  have HW1 := Lib.hid hw1
  have V1 := Lib.hid (show Hp w [box 26 rb [.int .i64 0, .slice none 0 0]] w1 by rw [hw1, hrb]; exact (Hp.start w).box_new _ _)
  clear hw1
  go_enter Try.func5, Try.ntmps5
  go_upto_region 1 with fail
  rw [← HW1.out, ← hrb]
  clear HW1 hrb
  obtain ⟨gt, hgt⟩ : ∃ gt, gt = w1.heap.size := ⟨_, rfl⟩
  obtain ⟨w2, hw2⟩ : ∃ z, z = w1.alloc (.cells #[.int .i64 (N : Int), .slice none 0 0] 26) := ⟨_, rfl⟩
  have HW2 := Lib.hid hw2
  have V2 := Lib.hid (show Hp w [arow none 0 0 [], box 26 gt [.int .i64 (N : Int), .slice none 0 0], box 26 rb [.int .i64 0, .slice none 0 0]] w2 by rw [hw2, hgt]; exact (V1.out.box_new _ _).nil_row _ rfl rfl rfl)
  clear hw2
  go_upto_region 2 with fail
  rw [← HW2.out, ← hgt]
  clear HW2 hgt V1 g1 g2 g3 g4
  go_wp2_with fail
  go_loopw [6] (fun cv wr => ∃ (k : Nat) (R : Option Addr) (d : Nat) (rs : List Ar), cv = .int .i64 (k : Int) ∧ k ≤ n ∧ k ≤ 40 ∧ rs.length = k ∧ (∀ a ∈ rs, 0 ≤ a.f ∧ a.f < a.t ∧ a.t < (N : Int) ∧ 0 ≤ a.c ∧ a.c ≤ 1000000) ∧ Hp w [arow R k d rs, box 26 gt [.int .i64 (N : Int), .slice R k d], box 26 rb [.int .i64 0, .slice none 0 0]] wr) (fun cv _ => n - (intOf cv).toNat)
  case atStart => exact ⟨0, none, 0, [], rfl, Nat.zero_le _, Nat.zero_le _, rfl, (fun a h => by cases h), V2.out⟩
  case round =>
    clear V2
    obtain ⟨k, R, d, rs, rfl, hkn, hk40, hlen, hok, hV⟩ := hrel
    obtain ⟨wi, rfl⟩ : ∃ wi : World, wi = wr := ⟨_, rfl⟩
    have V := Lib.hid hV
    have HLEN := Lib.hid hlen
    have HOK := Lib.hid hok
    clear hV hlen hok
    obtain ⟨q0, _, q9⟩ := V.out.box_at (i := 1) (j := 0) rfl rfl
    obtain ⟨q1, _, _⟩ := V.out.box_at (i := 1) (j := 1) rfl rfl
    by_cases hlt : k < n
    case neg =>
      obtain ⟨t0, u0, v0⟩ := V.out.box_at (i := 2) (j := 0) rfl rfl
      obtain ⟨t1, u1, v1⟩ := V.out.box_at (i := 2) (j := 1) rfl rfl
      have V4 := (V.out.box_set (i := 2) rfl 0 (.int .i64 (N : Int))).box_set (i := 2) rfl 1 (.slice R k d)
      obtain ⟨p0, _, _⟩ := V4.box_at (i := 2) (j := 0) rfl rfl
      obtain ⟨p1, _, _⟩ := V4.box_at (i := 2) (j := 1) rfl rfl
      have V5 := Lib.hid (V4.front (l1 := [arow R k d rs]))
      clear V4
      go_wp2_with fail
      exact bodyPost_ret (v := .agg #[.int .i64 (N : Int), .slice R k d]) (by simp [results, Try.results5, go_sem, p0, p1]) rfl ⟨⟨(N : Int), rs⟩, R, k, d, rfl, ⟨by show 1 ≤ (N : Int); omega, by show (N : Int) ≤ 2000; omega, by have := HLEN.out; show rs.length ≤ 6000; omega, HOK.out⟩, by show (N : Int) ≤ 12; omega, HLEN.out, hk40, V5.out⟩
    by_cases hlt2 : k < 40
    case neg =>
      obtain ⟨t0, u0, v0⟩ := V.out.box_at (i := 2) (j := 0) rfl rfl
      obtain ⟨t1, u1, v1⟩ := V.out.box_at (i := 2) (j := 1) rfl rfl
      have V4 := (V.out.box_set (i := 2) rfl 0 (.int .i64 (N : Int))).box_set (i := 2) rfl 1 (.slice R k d)
      obtain ⟨p0, _, _⟩ := V4.box_at (i := 2) (j := 0) rfl rfl
      obtain ⟨p1, _, _⟩ := V4.box_at (i := 2) (j := 1) rfl rfl
      have V5 := Lib.hid (V4.front (l1 := [arow R k d rs]))
      clear V4
      go_wp2_with fail
      exact bodyPost_ret (v := .agg #[.int .i64 (N : Int), .slice R k d]) (by simp [results, Try.results5, go_sem, p0, p1]) rfl ⟨⟨(N : Int), rs⟩, R, k, d, rfl, ⟨by show 1 ≤ (N : Int); omega, by show (N : Int) ≤ 2000; omega, by have := HLEN.out; show rs.length ≤ 6000; omega, HOK.out⟩, by show (N : Int) ≤ 12; omega, HLEN.out, hk40, V5.out⟩
    by_cases hlt3 : 1 < N
    case neg =>
      obtain ⟨t0, u0, v0⟩ := V.out.box_at (i := 2) (j := 0) rfl rfl
      obtain ⟨t1, u1, v1⟩ := V.out.box_at (i := 2) (j := 1) rfl rfl
      have V4 := (V.out.box_set (i := 2) rfl 0 (.int .i64 (N : Int))).box_set (i := 2) rfl 1 (.slice R k d)
      obtain ⟨p0, _, _⟩ := V4.box_at (i := 2) (j := 0) rfl rfl
      obtain ⟨p1, _, _⟩ := V4.box_at (i := 2) (j := 1) rfl rfl
      have V5 := Lib.hid (V4.front (l1 := [arow R k d rs]))
      clear V4
      go_wp2_with fail
      exact bodyPost_ret (v := .agg #[.int .i64 (N : Int), .slice R k d]) (by simp [results, Try.results5, go_sem, p0, p1]) rfl ⟨⟨(N : Int), rs⟩, R, k, d, rfl, ⟨by show 1 ≤ (N : Int); omega, by show (N : Int) ≤ 2000; omega, by have := HLEN.out; show rs.length ≤ 6000; omega, HOK.out⟩, by show (N : Int) ≤ 12; omega, HLEN.out, hk40, V5.out⟩
    obtain ⟨b, off, rfl, hb, hcc⟩ : ∃ b off, A = some ⟨b, off, none⟩ ∧ b < wi.heap.size ∧ ∀ (j : Nat) u, (words L)[j]? = some u → wi.cell? ⟨b, off + j, none⟩ = some u := (HC.out.below V.out.below) (by rw [words_len, HL.out]; omega)
    obtain ⟨v, hv⟩ : ∃ v, v = L.getD k 0 := ⟨_, rfl⟩
    have hvc := hcc k _ (words_at (by rw [HL.out]; exact hlt))
    rw [← hv] at hvc
    have hv6 : v ≤ 65535 := by rw [hv, getD_at (by rw [HL.out]; exact hlt)]; exact HLB.out _ (List.getElem_mem _)
    clear hv hcc
    obtain ⟨M, hM⟩ : ∃ M, M = N - 1 := ⟨_, rfl⟩
    have hM0 : 0 < M := by omega
    have hM1 : M + 1 ≤ N := by omega
    have hM2 : N ≤ M + 1 := by omega
    clear hM
    obtain ⟨F, hF⟩ : ∃ F, F = v % M := ⟨_, rfl⟩
    have hFM : F < M := by rw [hF]; exact Nat.mod_lt _ hM0
    obtain ⟨q, hq⟩ : ∃ q, q = v / 144 := ⟨_, rfl⟩
    obtain ⟨C, hC⟩ : ∃ C, C = q % 12 := ⟨_, rfl⟩
    have hC12 : C < 12 := by omega
    have f1 : IntKind.i64.wrap (v : Int) = (v : Int) := IntWalk.i64_in _ (by omega)
    have f2 : IntKind.i64.wrap ((N : Int) - 1) = (M : Int) := by rw [IntWalk.i64_in _ (by omega)]; omega
    have f3 : (v : Int).tmod (M : Int) = (F : Int) := by rw [hF]; exact Int.ofNat_tmod v M ▸ rfl
    have f4 : IntKind.i64.wrap (F : Int) = (F : Int) := IntWalk.i64_in _ (by omega)
    have f5 : (v : Int).tdiv 144 = (q : Int) := by rw [hq]; exact Int.ofNat_tdiv v 144 ▸ rfl
    have f6 : IntKind.i64.wrap (q : Int) = (q : Int) := IntWalk.i64_in _ (by omega)
    have f7 : (q : Int).tmod 12 = (C : Int) := by rw [hC]; exact Int.ofNat_tmod q 12 ▸ rfl
    have f8 : IntKind.i64.wrap (C : Int) = (C : Int) := IntWalk.i64_in _ (by omega)
    have f9 : ¬ (M : Int) = 0 := by omega
    clear hC hF hq
    obtain ⟨ab, hab⟩ : ∃ ab, ab = wi.heap.size := ⟨_, rfl⟩
    obtain ⟨wy, hwy⟩ : ∃ z, z = wi.alloc (.cells #[.int .i64 (F : Int), .int .i64 0, .int .i64 (C : Int)] 40) := ⟨_, rfl⟩
    have HY := Lib.hid hwy
    have VY := Lib.hid (show Hp w [abox ab ⟨(F : Int), 0, (C : Int)⟩, arow R k d rs, box 26 gt [.int .i64 (N : Int), .slice R k d], box 26 rb [.int .i64 0, .slice none 0 0]] wy by rw [hwy, hab]; exact V.out.anew ⟨(F : Int), 0, (C : Int)⟩)
    clear hwy
    go_upto_region 7 with fail
    rw [← HY.out, ← hab]
    clear HY V q0 q1 q9 hvc hb hab f3 f4 f5 f6 f7 f8
    obtain ⟨D0, hD0⟩ : ∃ D, D = v / 12 := ⟨_, rfl⟩
    obtain ⟨D, hD⟩ : ∃ D1, D1 = D0 % 12 := ⟨_, rfl⟩
    have hD12 : D < 12 := by omega
    obtain ⟨E, hE⟩ : ∃ E, E = M - F := ⟨_, rfl⟩
    have hE0 : 0 < E := by omega
    obtain ⟨U, hU⟩ : ∃ U, U = D % E := ⟨_, rfl⟩
    have hUE : U < E := by rw [hU]; exact Nat.mod_lt _ hE0
    have h1 : IntKind.i64.wrap ((F : Int) + 1) = (F : Int) + 1 := IntWalk.i64_in _ (by omega)
    have h2 : (v : Int).tdiv 12 = (D0 : Int) := by rw [hD0]; exact Int.ofNat_tdiv v 12 ▸ rfl
    have h3 : IntKind.i64.wrap (D0 : Int) = (D0 : Int) := IntWalk.i64_in _ (by omega)
    have h4 : (D0 : Int).tmod 12 = (D : Int) := by rw [hD]; exact Int.ofNat_tmod D0 12 ▸ rfl
    have h5 : IntKind.i64.wrap (D : Int) = (D : Int) := IntWalk.i64_in _ (by omega)
    have h6 : IntKind.i64.wrap ((M : Int) - (F : Int)) = (E : Int) := by rw [IntWalk.i64_in _ (by omega)]; omega
    have h7 : (D : Int).tmod (E : Int) = (U : Int) := by rw [hU]; exact Int.ofNat_tmod D E ▸ rfl
    have h8 : IntKind.i64.wrap (U : Int) = (U : Int) := IntWalk.i64_in _ (by omega)
    have h9 : IntKind.i64.wrap ((F : Int) + 1 + (U : Int)) = (F : Int) + 1 + (U : Int) := IntWalk.i64_in _ (by omega)
    have h10 : ¬ (E : Int) = 0 := by omega
    have hT : (F : Int) + 1 + (U : Int) < (N : Int) := by omega
    clear hD0 hD hE hU
    obtain ⟨q0, _, q9⟩ := VY.out.box_at (i := 2) (j := 0) rfl rfl
    obtain ⟨s0, s1, s2, s9⟩ := VY.out.ab (i := 0) rfl
    dsimp only at s0 s1 s2
    have hKp : Keep [(⟨gt, 0, none⟩, .int .i64 (N : Int)), (⟨ab, 0, none⟩, .int .i64 (F : Int))] wy := List.forall_mem_cons.2 ⟨⟨q0, q9⟩, List.forall_mem_cons.2 ⟨⟨s0, s9⟩, fun _ h => by simp at h⟩⟩
    refine wp_region_held_drew (S := Keep _) (by kernel_rfl) hKp.drew (fun hHeld => ?_)
    have VYd := Lib.hid (VY.out.go (bdrew _))
    refine tk 0 ?_ rfl ?_ ?_; rotate_left; focus (intro w hSw; clear hSw; go_simp; try (with_reducible rfl))
    try simp only [Act.put, sA, sZ, sS]
    refine tk 1 ?_ rfl ?_ ?_; rotate_left
    · intro wl hSw
      have hSw : Keep _ wl := hSw
      have k0 : wl.cell? ⟨ab, 0, none⟩ = some (.int .i64 (F : Int)) := (hSw _ (.tail _ (.head _))).1
      clear hSw
      go_simp
      try (with_reducible rfl)
    try simp only [Act.put, sA, sZ, sS]
    refine tk 2 ?_ rfl ?_ ?_; rotate_left; focus (intro w hSw; clear hSw; go_simp; try (with_reducible rfl))
    try simp only [Act.put, sA, sZ, sS]
    refine tk 3 ?_ rfl ?_ ?_; rotate_left; focus (intro w hSw; clear hSw; go_simp; try (with_reducible rfl))
    try simp only [Act.put, sA, sZ, sS]
    refine tk 4 ?_ rfl ?_ ?_; rotate_left; focus (intro w hSw; clear hSw; go_simp; try (with_reducible rfl))
    try simp only [Act.put, sA, sZ, sS]
    refine tk 5 ?_ rfl ?_ ?_; rotate_left; focus (intro w hSw; clear hSw; go_simp; try (with_reducible rfl))
    try simp only [Act.put, sA, sZ, sS]
    refine tk 6 ?_ rfl ?_ ?_; rotate_left; focus (intro w hSw; clear hSw; go_simp; try (with_reducible rfl))
    try simp only [Act.put, sA, sZ, sS]
    refine tk 7 ?_ rfl ?_ ?_; rotate_left
    · intro wl hSw
      have hSw : Keep _ wl := hSw
      have k0 : wl.cell? ⟨gt, 0, none⟩ = some (.int .i64 (N : Int)) := (hSw _ (.head _)).1
      clear hSw
      go_simp
      try (with_reducible rfl)
    try simp only [Act.put, sA, sZ, sS]
    refine tk 8 ?_ rfl ?_ ?_; rotate_left; focus (intro w hSw; clear hSw; go_simp; try (with_reducible rfl))
    try simp only [Act.put, sA, sZ, sS]
    refine tk 9 ?_ rfl ?_ ?_; rotate_left; focus (intro w hSw; clear hSw; go_simp; try (with_reducible rfl))
    try simp only [Act.put, sA, sZ, sS]
    refine tk 10 ?_ rfl ?_ ?_; rotate_left
    · intro wl hSw
      have hSw : Keep _ wl := hSw
      have k0 : wl.cell? ⟨ab, 0, none⟩ = some (.int .i64 (F : Int)) := (hSw _ (.tail _ (.head _))).1
      clear hSw
      go_simp
      try (with_reducible rfl)
    try simp only [Act.put, sA, sZ, sS]
    refine tk 11 ?_ rfl ?_ ?_; rotate_left; focus (intro w hSw; clear hSw; go_simp; try (with_reducible rfl))
    try simp only [Act.put, sA, sZ, sS]
    refine tk 12 ?_ rfl ?_ ?_; rotate_left
    · intro w hSw; clear hSw; go_simp; rw [if_neg (show ¬ E = 0 by omega)]
    try simp only [Act.put, sA, sZ, sS]
    refine tk 13 ?_ rfl ?_ ?_; rotate_left; focus (intro w hSw; clear hSw; go_simp; try (with_reducible rfl))
    try simp only [Act.put, sA, sZ, sS]
    refine tk 14 ?_ rfl ?_ ?_; rotate_left; focus (intro w hSw; clear hSw; go_simp; try (with_reducible rfl))
    try simp only [Act.put, sA, sZ, sS]
    refine wpAnyH_ready (rs := [15]) (by kernel_rfl) (by simp) ?_
    refine AllReadyH.cons (List.getElem?_toArray.trans rfl) (fun K hK => ?_) AllReadyH.nil
    obtain ⟨t1, u1, v1⟩ := VYd.out.box_at (i := 0) (j := 1) rfl rfl
    have V6 := Lib.hid (show Hp w [abox ab ⟨(F : Int), (F : Int) + 1 + (U : Int), (C : Int)⟩, arow R k d rs, box 26 gt [.int .i64 (N : Int), .slice R k d], box 26 rb [.int .i64 0, .slice none 0 0]] _ from VYd.out.box_set (i := 0) rfl 1 (.int .i64 ((F : Int) + 1 + (U : Int))))
    go_simp
    refine hK.out _ _ (List.forall_mem_cons.2 ⟨⟨(V6.out.box_at (i := 2) (j := 0) rfl rfl).1, (V6.out.box_at (i := 2) (j := 0) rfl rfl).2.2⟩, List.forall_mem_cons.2 ⟨⟨(V6.out.box_at (i := 0) (j := 0) rfl rfl).1, (V6.out.box_at (i := 0) (j := 0) rfl rfl).2.2⟩, fun _ h => by simp at h⟩⟩) (fun hHeld => ?_)
    clear hK K
    try simp only [Act.put, sA, sZ, sS]
    refine wpAnyH_done (by kernel_rfl) ?_ _
    clear hKp hHeld q0 q9 s0 s1 s2 s9 h1 h2 h3 h4 h5 h6 h7 h8 h9 h10 f1 f2 f9
    obtain ⟨T, hTe⟩ : ∃ T, T = (F : Int) + 1 + (U : Int) := ⟨_, rfl⟩
    rw [← hTe] at V6 hT ⊢
    have hT0 : (F : Int) < T := by omega
    clear hTe
    obtain ⟨wu, hwu⟩ : ∃ wu, wu = (wy.setCell ⟨ab, 1, none⟩ (.int .i64 T)).drew := ⟨_, rfl⟩
    rw [← hwu]
    have V6 := Lib.hid (show Hp w [abox ab ⟨(F : Int), T, (C : Int)⟩, arow R k d rs, box 26 gt [.int .i64 (N : Int), .slice R k d], box 26 rb [.int .i64 0, .slice none 0 0]] wu by rw [hwu]; exact V6.out)
    clear hwu
    obtain ⟨q0, _, q9⟩ := V6.out.box_at (i := 2) (j := 0) rfl rfl
    obtain ⟨q1, _, _⟩ := V6.out.box_at (i := 2) (j := 1) rfl rfl
    obtain ⟨s0, s1, s2, s9⟩ := V6.out.ab (i := 0) rfl
    dsimp only at s0 s1 s2
    have VQ := V6.out.anew ⟨(F : Int), T, (C : Int)⟩
    obtain ⟨z0, z1, z2, z9⟩ := VQ.ab (i := 0) rfl
    obtain ⟨g5, cap5, w5, hr5, hv5, _⟩ := run_app_arc VQ (i := 2) rfl 24 ⟨(F : Int), T, (C : Int)⟩ z0 z1 z2 (by omega)
    have V8 := Lib.hid (show Hp w [arow (some ⟨g5, 0, none⟩) (k + 1) cap5 (rs ++ [⟨(F : Int), T, (C : Int)⟩]), box 26 gt [.int .i64 (N : Int), .slice R k d], box 26 rb [.int .i64 0, .slice none 0 0]] w5 from hv5.tail.tail)
    have HR5 := Lib.hid hr5
    clear hr5 hv5 VQ z0 z1 z2 z9
    obtain ⟨t1, u1, v1⟩ := V8.out.box_at (i := 1) (j := 1) rfl rfl
    have V9 := Lib.hid (V8.out.box_set (i := 1) rfl 1 (.slice (some ⟨g5, 0, none⟩) (k + 1) cap5))
    have HLEN2 := Lib.hid (show (rs ++ [(⟨(F : Int), T, (C : Int)⟩ : Ar)]).length = k + 1 by rw [List.length_append, HLEN.out]; rfl)
    have HOK2 := Lib.hid (show ∀ a ∈ rs ++ [(⟨(F : Int), T, (C : Int)⟩ : Ar)], 0 ≤ a.f ∧ a.f < a.t ∧ a.t < (N : Int) ∧ 0 ≤ a.c ∧ a.c ≤ 1000000 from fun a ha => by
      rcases List.mem_append.1 ha with h | h
      · exact HOK.out a h
      · rw [List.mem_singleton.1 h]; dsimp only; omega)
    go_wp2_with (at_builtin; refine wpList_app_run rfl (.tmp 59) (.tmp 61) 24 rfl HR5.out rfl rfl ?_)
    go_roundw
    case rel => exact ⟨k + 1, _, _, _, by go_num, by omega, by omega, HLEN2.out, HOK2.out, V9.out⟩
    case measure => simp [intOf]; omega
end Go.Proofs.Ytgdfjblfpeedjaa
