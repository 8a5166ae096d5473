/- Contract: how a sound is written. -/
import Derived.Test.YtfgnekbkcmpdiaaGreatDoorUd
namespace Go.Proofs.YtfgnekbkcmpdiaaGreatDoor
open Go.RowKit
set_option linter.unusedVariables false
set_option linter.unusedSimpArgs false
set_option maxRecDepth 100000

theorem kept_cells {w w' : World} {g : Nat} {a b c : Value} (h : w.cell? ⟨g, 0, none⟩ = some a ∧ w.cell? ⟨g, 1, none⟩ = some b ∧ w.cell? ⟨g, 2, none⟩ = some c) (hg : g < w.heap.size) (hb : Below w.heap.size w w') : w'.cell? ⟨g, 0, none⟩ = some a ∧ w'.cell? ⟨g, 1, none⟩ = some b ∧ w'.cell? ⟨g, 2, none⟩ = some c :=
  ⟨(hb.cell (p := ⟨g, 0, none⟩) hg).trans h.1, (hb.cell (p := ⟨g, 1, none⟩) hg).trans h.2.1, (hb.cell (p := ⟨g, 2, none⟩) hg).trans h.2.2⟩
theorem add_run (a b : ByteArray) (h : a.size + b.size ≤ 140737488355328) : ∀ w : World, (Op.stringOp .add a b).run Tryz.prog w = .ok (.string (a ++ b)) w := fun w => run_string_add_sum w _ _ (by omega)
set_option maxHeartbeats 4000000 in
theorem written_1 (q : Int) (t : List UInt8) (w : World) (h8 : t.length ≤ 8) (hq : 1 ≤ q ∧ q ≤ 3) : Calls Tryz.prog 100 #[.agg #[.int .i64 1, .int .i64 q, .string (bs t)]] w fun e w' => e = .returned (.string (bs (t ++ 47 :: 118 :: [(48 + q).toNat.toUInt8]))) ∧ Below w.heap.size w w' := by
  have hz : (bs t).size = t.length := rfl
  have BX := Lib.hid (box_cells w ⟨1, q, t⟩)
  have s1 := add_run (bs t) (⟨#[47]⟩ : ByteArray) (by rw [hz]; show t.length + 1 ≤ _; omega)
  obtain ⟨u, hu⟩ : ∃ u, u = (bs t ++ (⟨#[47]⟩ : ByteArray) ++ (⟨#[118, 100, 109, 108, 110, 115, 120, 103, 98]⟩ : ByteArray).extract 0 1) := ⟨_, rfl⟩
  have hul : u.data.toList = t ++ [47, 118] := by rw [hu]; simp only [cat_any, bs_list, List.append_assoc]; rw [show ((⟨#[118, 100, 109, 108, 110, 115, 120, 103, 98]⟩ : ByteArray).extract 0 1).data.toList = [118] from by decide]; rfl
  have hus : u.size ≤ 10 := by rw [← sizeB, hul]; simp; omega
  have HU := Lib.hid hu
  have HUL := Lib.hid hul
  clear hu hul
  go_enter Tryz.func100, Tryz.ntmps100
  go_wp2
  go_quiet (fail)
  rw [← HU.out]
  obtain ⟨W, hW⟩ : ∃ W, W = (w.alloc (.cells #[.int .i64 1, .int .i64 q, .string (bs t)] 31)).drewN nq := ⟨_, rfl⟩
  rw [← hW]
  have HB := Lib.hid (show Below w.heap.size w W by rw [hW]; exact btwo (bnew _ _) (bdrewN _ _))
  have hlt : w.heap.size < W.heap.size := by rw [hW]; simp
  have CC := Lib.hid (show W.cell? ⟨w.heap.size, 0, none⟩ = some (.int .i64 1) ∧ W.cell? ⟨w.heap.size, 1, none⟩ = some (.int .i64 q) ∧ W.cell? ⟨w.heap.size, 2, none⟩ = some (.string (bs t)) by rw [hW]; exact kept_cells BX.out (by simp) (bdrewN _ _))
  clear hW
  obtain ⟨d0, d1, d2⟩ := CC.out
  go_wp2_with fail
  refine (nucleus_any ⟨1, q, t⟩ _).mono ?_
  rintro e w1 ⟨rfl, hb1⟩
  rw [show nuc ⟨1, q, t⟩ = true from rfl]
  have HB1 := Lib.hid (btwo HB.out hb1)
  obtain ⟨f0, f1, f2⟩ := kept_cells CC.out hlt hb1
  clear hb1
  rcases qs hq with rfl | rfl | rfl
  · have s3 := add_run u (⟨(Lib.decDigits 1).toArray⟩ : ByteArray) (by rw [Lib.decDigits_one (i := 1) (by decide)]; show u.size + 1 ≤ _; omega)
    go_wp2_with fail
    refine (Tryz.strconv_Itoa_small 1 (by decide) _).mono ?_
    rintro e w2 ⟨rfl, hw2⟩
    obtain rfl : w1 = w2 := hw2.symm
    go_wp2_with fail
    go_ret
    refine ⟨congrArg (fun b => Ending.returned (Value.string b)) (of_list ?_), HB1.out⟩
    rw [cat_any, HUL.out, Lib.decDigits_one (i := 1) (by decide)]
    simp
  · have s3 := add_run u (⟨(Lib.decDigits 2).toArray⟩ : ByteArray) (by rw [Lib.decDigits_one (i := 2) (by decide)]; show u.size + 1 ≤ _; omega)
    go_wp2_with fail
    refine (Tryz.strconv_Itoa_small 2 (by decide) _).mono ?_
    rintro e w2 ⟨rfl, hw2⟩
    obtain rfl : w1 = w2 := hw2.symm
    go_wp2_with fail
    go_ret
    refine ⟨congrArg (fun b => Ending.returned (Value.string b)) (of_list ?_), HB1.out⟩
    rw [cat_any, HUL.out, Lib.decDigits_one (i := 2) (by decide)]
    simp
  · have s3 := add_run u (⟨(Lib.decDigits 3).toArray⟩ : ByteArray) (by rw [Lib.decDigits_one (i := 3) (by decide)]; show u.size + 1 ≤ _; omega)
    go_wp2_with fail
    refine (Tryz.strconv_Itoa_small 3 (by decide) _).mono ?_
    rintro e w2 ⟨rfl, hw2⟩
    obtain rfl : w1 = w2 := hw2.symm
    go_wp2_with fail
    go_ret
    refine ⟨congrArg (fun b => Ending.returned (Value.string b)) (of_list ?_), HB1.out⟩
    rw [cat_any, HUL.out, Lib.decDigits_one (i := 3) (by decide)]
    simp
set_option maxHeartbeats 4000000 in
theorem written_2 (q : Int) (t : List UInt8) (w : World) (h8 : t.length ≤ 8) (hq : 1 ≤ q ∧ q ≤ 3) : Calls Tryz.prog 100 #[.agg #[.int .i64 2, .int .i64 q, .string (bs t)]] w fun e w' => e = .returned (.string (bs (t ++ 47 :: 100 :: [(48 + q).toNat.toUInt8]))) ∧ Below w.heap.size w w' := by
  have hz : (bs t).size = t.length := rfl
  have BX := Lib.hid (box_cells w ⟨2, q, t⟩)
  have s1 := add_run (bs t) (⟨#[47]⟩ : ByteArray) (by rw [hz]; show t.length + 1 ≤ _; omega)
  obtain ⟨u, hu⟩ : ∃ u, u = (bs t ++ (⟨#[47]⟩ : ByteArray) ++ (⟨#[118, 100, 109, 108, 110, 115, 120, 103, 98]⟩ : ByteArray).extract 1 2) := ⟨_, rfl⟩
  have hul : u.data.toList = t ++ [47, 100] := by rw [hu]; simp only [cat_any, bs_list, List.append_assoc]; rw [show ((⟨#[118, 100, 109, 108, 110, 115, 120, 103, 98]⟩ : ByteArray).extract 1 2).data.toList = [100] from by decide]; rfl
  have hus : u.size ≤ 10 := by rw [← sizeB, hul]; simp; omega
  have HU := Lib.hid hu
  have HUL := Lib.hid hul
  clear hu hul
  go_enter Tryz.func100, Tryz.ntmps100
  go_wp2
  go_quiet (fail)
  rw [← HU.out]
  obtain ⟨W, hW⟩ : ∃ W, W = (w.alloc (.cells #[.int .i64 2, .int .i64 q, .string (bs t)] 31)).drewN nq := ⟨_, rfl⟩
  rw [← hW]
  have HB := Lib.hid (show Below w.heap.size w W by rw [hW]; exact btwo (bnew _ _) (bdrewN _ _))
  have hlt : w.heap.size < W.heap.size := by rw [hW]; simp
  have CC := Lib.hid (show W.cell? ⟨w.heap.size, 0, none⟩ = some (.int .i64 2) ∧ W.cell? ⟨w.heap.size, 1, none⟩ = some (.int .i64 q) ∧ W.cell? ⟨w.heap.size, 2, none⟩ = some (.string (bs t)) by rw [hW]; exact kept_cells BX.out (by simp) (bdrewN _ _))
  clear hW
  obtain ⟨d0, d1, d2⟩ := CC.out
  go_wp2_with fail
  refine (nucleus_any ⟨2, q, t⟩ _).mono ?_
  rintro e w1 ⟨rfl, hb1⟩
  rw [show nuc ⟨2, q, t⟩ = true from rfl]
  have HB1 := Lib.hid (btwo HB.out hb1)
  obtain ⟨f0, f1, f2⟩ := kept_cells CC.out hlt hb1
  clear hb1
  rcases qs hq with rfl | rfl | rfl
  · have s3 := add_run u (⟨(Lib.decDigits 1).toArray⟩ : ByteArray) (by rw [Lib.decDigits_one (i := 1) (by decide)]; show u.size + 1 ≤ _; omega)
    go_wp2_with fail
    refine (Tryz.strconv_Itoa_small 1 (by decide) _).mono ?_
    rintro e w2 ⟨rfl, hw2⟩
    obtain rfl : w1 = w2 := hw2.symm
    go_wp2_with fail
    go_ret
    refine ⟨congrArg (fun b => Ending.returned (Value.string b)) (of_list ?_), HB1.out⟩
    rw [cat_any, HUL.out, Lib.decDigits_one (i := 1) (by decide)]
    simp
  · have s3 := add_run u (⟨(Lib.decDigits 2).toArray⟩ : ByteArray) (by rw [Lib.decDigits_one (i := 2) (by decide)]; show u.size + 1 ≤ _; omega)
    go_wp2_with fail
    refine (Tryz.strconv_Itoa_small 2 (by decide) _).mono ?_
    rintro e w2 ⟨rfl, hw2⟩
    obtain rfl : w1 = w2 := hw2.symm
    go_wp2_with fail
    go_ret
    refine ⟨congrArg (fun b => Ending.returned (Value.string b)) (of_list ?_), HB1.out⟩
    rw [cat_any, HUL.out, Lib.decDigits_one (i := 2) (by decide)]
    simp
  · have s3 := add_run u (⟨(Lib.decDigits 3).toArray⟩ : ByteArray) (by rw [Lib.decDigits_one (i := 3) (by decide)]; show u.size + 1 ≤ _; omega)
    go_wp2_with fail
    refine (Tryz.strconv_Itoa_small 3 (by decide) _).mono ?_
    rintro e w2 ⟨rfl, hw2⟩
    obtain rfl : w1 = w2 := hw2.symm
    go_wp2_with fail
    go_ret
    refine ⟨congrArg (fun b => Ending.returned (Value.string b)) (of_list ?_), HB1.out⟩
    rw [cat_any, HUL.out, Lib.decDigits_one (i := 3) (by decide)]
    simp
set_option maxHeartbeats 4000000 in
theorem written_3 (q : Int) (t : List UInt8) (w : World) (h8 : t.length ≤ 8) : Calls Tryz.prog 100 #[.agg #[.int .i64 3, .int .i64 q, .string (bs t)]] w fun e w' => e = .returned (.string (bs (t ++ 47 :: 109 :: []))) ∧ Below w.heap.size w w' := by
  have hz : (bs t).size = t.length := rfl
  have BX := Lib.hid (box_cells w ⟨3, q, t⟩)
  have s1 := add_run (bs t) (⟨#[47]⟩ : ByteArray) (by rw [hz]; show t.length + 1 ≤ _; omega)
  obtain ⟨u, hu⟩ : ∃ u, u = (bs t ++ (⟨#[47]⟩ : ByteArray) ++ (⟨#[118, 100, 109, 108, 110, 115, 120, 103, 98]⟩ : ByteArray).extract 2 3) := ⟨_, rfl⟩
  have hul : u.data.toList = t ++ [47, 109] := by rw [hu]; simp only [cat_any, bs_list, List.append_assoc]; rw [show ((⟨#[118, 100, 109, 108, 110, 115, 120, 103, 98]⟩ : ByteArray).extract 2 3).data.toList = [109] from by decide]; rfl
  have hus : u.size ≤ 10 := by rw [← sizeB, hul]; simp; omega
  have HU := Lib.hid hu
  have HUL := Lib.hid hul
  clear hu hul
  go_enter Tryz.func100, Tryz.ntmps100
  go_wp2
  go_quiet (fail)
  rw [← HU.out]
  obtain ⟨W, hW⟩ : ∃ W, W = (w.alloc (.cells #[.int .i64 3, .int .i64 q, .string (bs t)] 31)).drewN nq := ⟨_, rfl⟩
  rw [← hW]
  have HB := Lib.hid (show Below w.heap.size w W by rw [hW]; exact btwo (bnew _ _) (bdrewN _ _))
  have hlt : w.heap.size < W.heap.size := by rw [hW]; simp
  have CC := Lib.hid (show W.cell? ⟨w.heap.size, 0, none⟩ = some (.int .i64 3) ∧ W.cell? ⟨w.heap.size, 1, none⟩ = some (.int .i64 q) ∧ W.cell? ⟨w.heap.size, 2, none⟩ = some (.string (bs t)) by rw [hW]; exact kept_cells BX.out (by simp) (bdrewN _ _))
  clear hW
  obtain ⟨d0, d1, d2⟩ := CC.out
  go_wp2_with fail
  refine (nucleus_any ⟨3, q, t⟩ _).mono ?_
  rintro e w1 ⟨rfl, hb1⟩
  rw [show nuc ⟨3, q, t⟩ = false from rfl]
  have HB1 := Lib.hid (btwo HB.out hb1)
  clear hb1
  go_wp2_with fail
  go_ret
  exact ⟨congrArg (fun b => Ending.returned (Value.string b)) (of_list HUL.out), HB1.out⟩
set_option maxHeartbeats 4000000 in
theorem written_4 (q : Int) (t : List UInt8) (w : World) (h8 : t.length ≤ 8) : Calls Tryz.prog 100 #[.agg #[.int .i64 4, .int .i64 q, .string (bs t)]] w fun e w' => e = .returned (.string (bs (t ++ 47 :: 108 :: []))) ∧ Below w.heap.size w w' := by
  have hz : (bs t).size = t.length := rfl
  have BX := Lib.hid (box_cells w ⟨4, q, t⟩)
  have s1 := add_run (bs t) (⟨#[47]⟩ : ByteArray) (by rw [hz]; show t.length + 1 ≤ _; omega)
  obtain ⟨u, hu⟩ : ∃ u, u = (bs t ++ (⟨#[47]⟩ : ByteArray) ++ (⟨#[118, 100, 109, 108, 110, 115, 120, 103, 98]⟩ : ByteArray).extract 3 4) := ⟨_, rfl⟩
  have hul : u.data.toList = t ++ [47, 108] := by rw [hu]; simp only [cat_any, bs_list, List.append_assoc]; rw [show ((⟨#[118, 100, 109, 108, 110, 115, 120, 103, 98]⟩ : ByteArray).extract 3 4).data.toList = [108] from by decide]; rfl
  have hus : u.size ≤ 10 := by rw [← sizeB, hul]; simp; omega
  have HU := Lib.hid hu
  have HUL := Lib.hid hul
  clear hu hul
  go_enter Tryz.func100, Tryz.ntmps100
  go_wp2
  go_quiet (fail)
  rw [← HU.out]
  obtain ⟨W, hW⟩ : ∃ W, W = (w.alloc (.cells #[.int .i64 4, .int .i64 q, .string (bs t)] 31)).drewN nq := ⟨_, rfl⟩
  rw [← hW]
  have HB := Lib.hid (show Below w.heap.size w W by rw [hW]; exact btwo (bnew _ _) (bdrewN _ _))
  have hlt : w.heap.size < W.heap.size := by rw [hW]; simp
  have CC := Lib.hid (show W.cell? ⟨w.heap.size, 0, none⟩ = some (.int .i64 4) ∧ W.cell? ⟨w.heap.size, 1, none⟩ = some (.int .i64 q) ∧ W.cell? ⟨w.heap.size, 2, none⟩ = some (.string (bs t)) by rw [hW]; exact kept_cells BX.out (by simp) (bdrewN _ _))
  clear hW
  obtain ⟨d0, d1, d2⟩ := CC.out
  go_wp2_with fail
  refine (nucleus_any ⟨4, q, t⟩ _).mono ?_
  rintro e w1 ⟨rfl, hb1⟩
  rw [show nuc ⟨4, q, t⟩ = false from rfl]
  have HB1 := Lib.hid (btwo HB.out hb1)
  clear hb1
  go_wp2_with fail
  go_ret
  exact ⟨congrArg (fun b => Ending.returned (Value.string b)) (of_list HUL.out), HB1.out⟩
set_option maxHeartbeats 4000000 in
theorem written_5 (q : Int) (t : List UInt8) (w : World) (h8 : t.length ≤ 8) : Calls Tryz.prog 100 #[.agg #[.int .i64 5, .int .i64 q, .string (bs t)]] w fun e w' => e = .returned (.string (bs (t ++ 47 :: 110 :: []))) ∧ Below w.heap.size w w' := by
  have hz : (bs t).size = t.length := rfl
  have BX := Lib.hid (box_cells w ⟨5, q, t⟩)
  have s1 := add_run (bs t) (⟨#[47]⟩ : ByteArray) (by rw [hz]; show t.length + 1 ≤ _; omega)
  obtain ⟨u, hu⟩ : ∃ u, u = (bs t ++ (⟨#[47]⟩ : ByteArray) ++ (⟨#[118, 100, 109, 108, 110, 115, 120, 103, 98]⟩ : ByteArray).extract 4 5) := ⟨_, rfl⟩
  have hul : u.data.toList = t ++ [47, 110] := by rw [hu]; simp only [cat_any, bs_list, List.append_assoc]; rw [show ((⟨#[118, 100, 109, 108, 110, 115, 120, 103, 98]⟩ : ByteArray).extract 4 5).data.toList = [110] from by decide]; rfl
  have hus : u.size ≤ 10 := by rw [← sizeB, hul]; simp; omega
  have HU := Lib.hid hu
  have HUL := Lib.hid hul
  clear hu hul
  go_enter Tryz.func100, Tryz.ntmps100
  go_wp2
  go_quiet (fail)
  rw [← HU.out]
  obtain ⟨W, hW⟩ : ∃ W, W = (w.alloc (.cells #[.int .i64 5, .int .i64 q, .string (bs t)] 31)).drewN nq := ⟨_, rfl⟩
  rw [← hW]
  have HB := Lib.hid (show Below w.heap.size w W by rw [hW]; exact btwo (bnew _ _) (bdrewN _ _))
  have hlt : w.heap.size < W.heap.size := by rw [hW]; simp
  have CC := Lib.hid (show W.cell? ⟨w.heap.size, 0, none⟩ = some (.int .i64 5) ∧ W.cell? ⟨w.heap.size, 1, none⟩ = some (.int .i64 q) ∧ W.cell? ⟨w.heap.size, 2, none⟩ = some (.string (bs t)) by rw [hW]; exact kept_cells BX.out (by simp) (bdrewN _ _))
  clear hW
  obtain ⟨d0, d1, d2⟩ := CC.out
  go_wp2_with fail
  refine (nucleus_any ⟨5, q, t⟩ _).mono ?_
  rintro e w1 ⟨rfl, hb1⟩
  rw [show nuc ⟨5, q, t⟩ = false from rfl]
  have HB1 := Lib.hid (btwo HB.out hb1)
  clear hb1
  go_wp2_with fail
  go_ret
  exact ⟨congrArg (fun b => Ending.returned (Value.string b)) (of_list HUL.out), HB1.out⟩
set_option maxHeartbeats 4000000 in
theorem written_6 (q : Int) (t : List UInt8) (w : World) (h8 : t.length ≤ 8) : Calls Tryz.prog 100 #[.agg #[.int .i64 6, .int .i64 q, .string (bs t)]] w fun e w' => e = .returned (.string (bs (t ++ 47 :: 115 :: []))) ∧ Below w.heap.size w w' := by
  have hz : (bs t).size = t.length := rfl
  have BX := Lib.hid (box_cells w ⟨6, q, t⟩)
  have s1 := add_run (bs t) (⟨#[47]⟩ : ByteArray) (by rw [hz]; show t.length + 1 ≤ _; omega)
  obtain ⟨u, hu⟩ : ∃ u, u = (bs t ++ (⟨#[47]⟩ : ByteArray) ++ (⟨#[118, 100, 109, 108, 110, 115, 120, 103, 98]⟩ : ByteArray).extract 5 6) := ⟨_, rfl⟩
  have hul : u.data.toList = t ++ [47, 115] := by rw [hu]; simp only [cat_any, bs_list, List.append_assoc]; rw [show ((⟨#[118, 100, 109, 108, 110, 115, 120, 103, 98]⟩ : ByteArray).extract 5 6).data.toList = [115] from by decide]; rfl
  have hus : u.size ≤ 10 := by rw [← sizeB, hul]; simp; omega
  have HU := Lib.hid hu
  have HUL := Lib.hid hul
  clear hu hul
  go_enter Tryz.func100, Tryz.ntmps100
  go_wp2
  go_quiet (fail)
  rw [← HU.out]
  obtain ⟨W, hW⟩ : ∃ W, W = (w.alloc (.cells #[.int .i64 6, .int .i64 q, .string (bs t)] 31)).drewN nq := ⟨_, rfl⟩
  rw [← hW]
  have HB := Lib.hid (show Below w.heap.size w W by rw [hW]; exact btwo (bnew _ _) (bdrewN _ _))
  have hlt : w.heap.size < W.heap.size := by rw [hW]; simp
  have CC := Lib.hid (show W.cell? ⟨w.heap.size, 0, none⟩ = some (.int .i64 6) ∧ W.cell? ⟨w.heap.size, 1, none⟩ = some (.int .i64 q) ∧ W.cell? ⟨w.heap.size, 2, none⟩ = some (.string (bs t)) by rw [hW]; exact kept_cells BX.out (by simp) (bdrewN _ _))
  clear hW
  obtain ⟨d0, d1, d2⟩ := CC.out
  go_wp2_with fail
  refine (nucleus_any ⟨6, q, t⟩ _).mono ?_
  rintro e w1 ⟨rfl, hb1⟩
  rw [show nuc ⟨6, q, t⟩ = false from rfl]
  have HB1 := Lib.hid (btwo HB.out hb1)
  clear hb1
  go_wp2_with fail
  go_ret
  exact ⟨congrArg (fun b => Ending.returned (Value.string b)) (of_list HUL.out), HB1.out⟩
set_option maxHeartbeats 4000000 in
theorem written_7 (q : Int) (t : List UInt8) (w : World) (h8 : t.length ≤ 8) : Calls Tryz.prog 100 #[.agg #[.int .i64 7, .int .i64 q, .string (bs t)]] w fun e w' => e = .returned (.string (bs (t ++ 47 :: 120 :: []))) ∧ Below w.heap.size w w' := by
  have hz : (bs t).size = t.length := rfl
  have BX := Lib.hid (box_cells w ⟨7, q, t⟩)
  have s1 := add_run (bs t) (⟨#[47]⟩ : ByteArray) (by rw [hz]; show t.length + 1 ≤ _; omega)
  obtain ⟨u, hu⟩ : ∃ u, u = (bs t ++ (⟨#[47]⟩ : ByteArray) ++ (⟨#[118, 100, 109, 108, 110, 115, 120, 103, 98]⟩ : ByteArray).extract 6 7) := ⟨_, rfl⟩
  have hul : u.data.toList = t ++ [47, 120] := by rw [hu]; simp only [cat_any, bs_list, List.append_assoc]; rw [show ((⟨#[118, 100, 109, 108, 110, 115, 120, 103, 98]⟩ : ByteArray).extract 6 7).data.toList = [120] from by decide]; rfl
  have hus : u.size ≤ 10 := by rw [← sizeB, hul]; simp; omega
  have HU := Lib.hid hu
  have HUL := Lib.hid hul
  clear hu hul
  go_enter Tryz.func100, Tryz.ntmps100
  go_wp2
  go_quiet (fail)
  rw [← HU.out]
  obtain ⟨W, hW⟩ : ∃ W, W = (w.alloc (.cells #[.int .i64 7, .int .i64 q, .string (bs t)] 31)).drewN nq := ⟨_, rfl⟩
  rw [← hW]
  have HB := Lib.hid (show Below w.heap.size w W by rw [hW]; exact btwo (bnew _ _) (bdrewN _ _))
  have hlt : w.heap.size < W.heap.size := by rw [hW]; simp
  have CC := Lib.hid (show W.cell? ⟨w.heap.size, 0, none⟩ = some (.int .i64 7) ∧ W.cell? ⟨w.heap.size, 1, none⟩ = some (.int .i64 q) ∧ W.cell? ⟨w.heap.size, 2, none⟩ = some (.string (bs t)) by rw [hW]; exact kept_cells BX.out (by simp) (bdrewN _ _))
  clear hW
  obtain ⟨d0, d1, d2⟩ := CC.out
  go_wp2_with fail
  refine (nucleus_any ⟨7, q, t⟩ _).mono ?_
  rintro e w1 ⟨rfl, hb1⟩
  rw [show nuc ⟨7, q, t⟩ = false from rfl]
  have HB1 := Lib.hid (btwo HB.out hb1)
  clear hb1
  go_wp2_with fail
  go_ret
  exact ⟨congrArg (fun b => Ending.returned (Value.string b)) (of_list HUL.out), HB1.out⟩
set_option maxHeartbeats 4000000 in
theorem written_8 (q : Int) (t : List UInt8) (w : World) (h8 : t.length ≤ 8) : Calls Tryz.prog 100 #[.agg #[.int .i64 8, .int .i64 q, .string (bs t)]] w fun e w' => e = .returned (.string (bs (t ++ 47 :: 103 :: []))) ∧ Below w.heap.size w w' := by
  have hz : (bs t).size = t.length := rfl
  have BX := Lib.hid (box_cells w ⟨8, q, t⟩)
  have s1 := add_run (bs t) (⟨#[47]⟩ : ByteArray) (by rw [hz]; show t.length + 1 ≤ _; omega)
  obtain ⟨u, hu⟩ : ∃ u, u = (bs t ++ (⟨#[47]⟩ : ByteArray) ++ (⟨#[118, 100, 109, 108, 110, 115, 120, 103, 98]⟩ : ByteArray).extract 7 8) := ⟨_, rfl⟩
  have hul : u.data.toList = t ++ [47, 103] := by rw [hu]; simp only [cat_any, bs_list, List.append_assoc]; rw [show ((⟨#[118, 100, 109, 108, 110, 115, 120, 103, 98]⟩ : ByteArray).extract 7 8).data.toList = [103] from by decide]; rfl
  have hus : u.size ≤ 10 := by rw [← sizeB, hul]; simp; omega
  have HU := Lib.hid hu
  have HUL := Lib.hid hul
  clear hu hul
  go_enter Tryz.func100, Tryz.ntmps100
  go_wp2
  go_quiet (fail)
  rw [← HU.out]
  obtain ⟨W, hW⟩ : ∃ W, W = (w.alloc (.cells #[.int .i64 8, .int .i64 q, .string (bs t)] 31)).drewN nq := ⟨_, rfl⟩
  rw [← hW]
  have HB := Lib.hid (show Below w.heap.size w W by rw [hW]; exact btwo (bnew _ _) (bdrewN _ _))
  have hlt : w.heap.size < W.heap.size := by rw [hW]; simp
  have CC := Lib.hid (show W.cell? ⟨w.heap.size, 0, none⟩ = some (.int .i64 8) ∧ W.cell? ⟨w.heap.size, 1, none⟩ = some (.int .i64 q) ∧ W.cell? ⟨w.heap.size, 2, none⟩ = some (.string (bs t)) by rw [hW]; exact kept_cells BX.out (by simp) (bdrewN _ _))
  clear hW
  obtain ⟨d0, d1, d2⟩ := CC.out
  go_wp2_with fail
  refine (nucleus_any ⟨8, q, t⟩ _).mono ?_
  rintro e w1 ⟨rfl, hb1⟩
  rw [show nuc ⟨8, q, t⟩ = false from rfl]
  have HB1 := Lib.hid (btwo HB.out hb1)
  clear hb1
  go_wp2_with fail
  go_ret
  exact ⟨congrArg (fun b => Ending.returned (Value.string b)) (of_list HUL.out), HB1.out⟩
set_option maxHeartbeats 4000000 in
theorem written_9 (q : Int) (t : List UInt8) (w : World) (h8 : t.length ≤ 8) : Calls Tryz.prog 100 #[.agg #[.int .i64 9, .int .i64 q, .string (bs t)]] w fun e w' => e = .returned (.string (bs (t ++ 47 :: 98 :: []))) ∧ Below w.heap.size w w' := by
  have hz : (bs t).size = t.length := rfl
  have BX := Lib.hid (box_cells w ⟨9, q, t⟩)
  have s1 := add_run (bs t) (⟨#[47]⟩ : ByteArray) (by rw [hz]; show t.length + 1 ≤ _; omega)
  obtain ⟨u, hu⟩ : ∃ u, u = (bs t ++ (⟨#[47]⟩ : ByteArray) ++ (⟨#[118, 100, 109, 108, 110, 115, 120, 103, 98]⟩ : ByteArray).extract 8 9) := ⟨_, rfl⟩
  have hul : u.data.toList = t ++ [47, 98] := by rw [hu]; simp only [cat_any, bs_list, List.append_assoc]; rw [show ((⟨#[118, 100, 109, 108, 110, 115, 120, 103, 98]⟩ : ByteArray).extract 8 9).data.toList = [98] from by decide]; rfl
  have hus : u.size ≤ 10 := by rw [← sizeB, hul]; simp; omega
  have HU := Lib.hid hu
  have HUL := Lib.hid hul
  clear hu hul
  go_enter Tryz.func100, Tryz.ntmps100
  go_wp2
  go_quiet (fail)
  rw [← HU.out]
  obtain ⟨W, hW⟩ : ∃ W, W = (w.alloc (.cells #[.int .i64 9, .int .i64 q, .string (bs t)] 31)).drewN nq := ⟨_, rfl⟩
  rw [← hW]
  have HB := Lib.hid (show Below w.heap.size w W by rw [hW]; exact btwo (bnew _ _) (bdrewN _ _))
  have hlt : w.heap.size < W.heap.size := by rw [hW]; simp
  have CC := Lib.hid (show W.cell? ⟨w.heap.size, 0, none⟩ = some (.int .i64 9) ∧ W.cell? ⟨w.heap.size, 1, none⟩ = some (.int .i64 q) ∧ W.cell? ⟨w.heap.size, 2, none⟩ = some (.string (bs t)) by rw [hW]; exact kept_cells BX.out (by simp) (bdrewN _ _))
  clear hW
  obtain ⟨d0, d1, d2⟩ := CC.out
  go_wp2_with fail
  refine (nucleus_any ⟨9, q, t⟩ _).mono ?_
  rintro e w1 ⟨rfl, hb1⟩
  rw [show nuc ⟨9, q, t⟩ = false from rfl]
  have HB1 := Lib.hid (btwo HB.out hb1)
  clear hb1
  go_wp2_with fail
  go_ret
  exact ⟨congrArg (fun b => Ending.returned (Value.string b)) (of_list HUL.out), HB1.out⟩
theorem written_any (x : Snd) (w : World) (hx : vS x = 0) : Calls Tryz.prog 100 #[.agg #[.int .i64 x.k, .int .i64 x.q, .string (bs x.t)]] w fun e w' => e = .returned (.string (bs (tx1 x))) ∧ Below w.heap.size w w' := by
  obtain ⟨hk, hq, h0, h8, hall⟩ := vS_zero hx
  obtain ⟨k, q, t⟩ := x
  dsimp only at hk hq h8
  rcases kinds hk with rfl | rfl | rfl | rfl | rfl | rfl | rfl | rfl | rfl
  · exact written_1 q t w h8 (qOk_nuc (x := ⟨1, q, t⟩) hq rfl)
  · exact written_2 q t w h8 (qOk_nuc (x := ⟨2, q, t⟩) hq rfl)
  · exact written_3 q t w h8
  · exact written_4 q t w h8
  · exact written_5 q t w h8
  · exact written_6 q t w h8
  · exact written_7 q t w h8
  · exact written_8 q t w h8
  · exact written_9 q t w h8
end Go.Proofs.YtfgnekbkcmpdiaaGreatDoor
