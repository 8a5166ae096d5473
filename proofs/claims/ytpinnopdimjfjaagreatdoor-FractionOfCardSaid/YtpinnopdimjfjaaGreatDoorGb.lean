/- What the statement about Of and New answers: true, whatever the input. -/
import Derived.Test.YtpinnopdimjfjaaGreatDoorFZ
import Derived.Test.YtpinnopdimjfjaaGreatDoorGa
import Derived.Laws.IdiomArrays
namespace Go.Proofs.YtpinnopdimjfjaaGreatDoor
open Go.RowKit
set_option linter.unusedVariables false
set_option maxRecDepth 100000

theorem LiveA.newP {W w : World} {lc : List (Addr × Value)} {ln : List (Value × Int)} (h : LiveA W lc ln w) (u v : Value) (T : TypeId) : LiveA W ((⟨w.heap.size, 1, none⟩, v) :: (⟨w.heap.size, 0, none⟩, u) :: lc) ln (w.alloc (.cells #[u, v] T)) := by
  have hr := heap_alloc_new w (.cells #[u, v] T)
  exact ((h.go ((Below.refl _ _).alloc (Nat.le_refl _) _)).boxed (by rw [cell_of_row _ _ 0 _ _ _ hr]; rfl) (by simp)).boxed (by rw [cell_of_row _ _ 1 _ _ _ hr]; rfl) (by simp)
theorem nats_pair {w : World} {g : Nat} {A B : Option Addr} {n c m d : Nat} (h0 : w.cell? ⟨g, 0, none⟩ = some (.slice A n c)) (h1 : w.cell? ⟨g, 1, none⟩ = some (.slice B m d)) : NatsAt w g [n, m] := fun j hj => by
  match j, hj with
  | 0, _ => exact ⟨A, c, h0⟩
  | 1, _ => exact ⟨B, d, h1⟩
set_option maxHeartbeats 8000000 in
theorem lawof_any (a b : Int) (L M : List Int) (n c m d : Nat) (A B : Option Addr) (W : World) (hn : L.length = n) (hm : M.length = m) (hnc : n ≤ c) (hmd : m ≤ d) (hc63 : c ≤ maxLen) (hd63 : d ≤ maxLen) (hA : IntsIn W A L) (hB : IntsIn W B M) (hcr : c ≤ 17592186044416) (hdr : d ≤ 17592186044416) (hT : Tab W) (hC : Cutl W) :
    Calls Tryz.prog 3 #[.int .i64 a, .int .i64 b, .agg #[.slice A n c, .slice B m d]] W fun e w' => e = .returned (.bool true) ∧ Below W.heap.size W w' := by
  have V0 := Lib.hid ((LiveA.start W).newP (.slice A n c) (.slice B m d) 25)
  have HT := Lib.hid hT
  have HC := Lib.hid hC
  have HA := Lib.hid hA
  have HB := Lib.hid hB
  have HN := Lib.hid hn
  have HM := Lib.hid hm
  clear hT hC hA hB hn hm
  have HLEN := Lib.hid (show ∀ j, ([n, m] : List Nat).getD j 0 ≤ 17592186044416 from fun j => by
    match j with
    | 0 => show n ≤ _; omega
    | 1 => show m ≤ _; omega
    | j + 2 => simp)
  cases hf : decide (([n, m] : List Nat).sum ≤ 210) with
  | false =>
    have HF := Lib.hid hf
    clear hf
    go_enter Tryz.func3, Tryz.ntmps3
    go_wp2_with fail
    refine (awake_any _ (HT.out.below V0.out.2.2) (HC.out.below V0.out.2.2)).mono ?_
    rintro e w1 ⟨rfl, b1⟩
    have V1 := Lib.hid (V0.out.go b1)
    clear b1
    have HX1 := Lib.hid (nats_pair (V1.out.box (.tail _ (.head _))).1 (V1.out.box (.head _)).1)
    obtain ⟨x1_1, y1_1⟩ := V1.out.box (.head _)
    obtain ⟨x1_0, y1_0⟩ := V1.out.box (.tail _ (.head _))
    go_wp2_with fail
    refine (Few_any [n, m] _ 2 2 210 _ rfl (by omega) HLEN.out (by omega) HX1.out).mono ?_
    rintro e w2 ⟨rfl, rfl⟩
    rw [HF.out]
    go_wp2_with fail
    refine (awake_any _ (HT.out.below V1.out.2.2) (HC.out.below V1.out.2.2)).mono ?_
    rintro e w3 ⟨rfl, b3⟩
    have V3 := Lib.hid (V1.out.go b3)
    clear b3 x1_1 y1_1 x1_0 y1_0
    go_wp2_with fail
    go_ret
    exact ⟨rfl, V3.out.2.2⟩
  | true =>
    have HF := Lib.hid hf
    clear hf
    obtain ⟨⟨so, po, qo, eo⟩, ho⟩ : ∃ r, r = ofR a b := ⟨_, rfl⟩
    obtain ⟨⟨su, pu, qu, eu⟩, hu⟩ : ∃ r, r = newR L M := ⟨_, rfl⟩
    have HO := Lib.hid (fun w => show Calls Tryz.prog 12 #[.int .i64 a, .int .i64 b] w (FrE (so, po, qo, eo) w) by rw [ho]; exact fof3_any a b w)
    have HP := Lib.hid (fun w => show Calls Tryz.prog 13 #[.int .i64 a, .int .i64 b] w (FrE (so, po, qo, eo) w) by rw [ho]; exact rof3_any a b w)
    have HU := Lib.hid (fun w (h1 : IntsIn w A L) (h2 : IntsIn w B M) => show Calls Tryz.prog 14 #[.agg #[.slice A n c], .agg #[.slice B m d]] w (FrE (su, pu, qu, eu) w) by rw [hu]; exact fnew_any L M n c m d A B w HN.out HM.out hnc hmd hc63 hd63 h1 h2)
    have HV := Lib.hid (fun w (h1 : IntsIn w A L) (h2 : IntsIn w B M) => show Calls Tryz.prog 15 #[.agg #[.slice A n c], .agg #[.slice B m d]] w (FrE (su, pu, qu, eu) w) by rw [hu]; exact rnew_any L M n c m d A B w HN.out HM.out hnc hmd hc63 hd63 h1 h2)
    clear ho hu
    go_enter Tryz.func3, Tryz.ntmps3
    go_wp2_with fail
    refine (awake_any _ (HT.out.below V0.out.2.2) (HC.out.below V0.out.2.2)).mono ?_
    rintro e w1 ⟨rfl, b1⟩
    have V1 := Lib.hid (V0.out.go b1)
    clear b1
    have HX1 := Lib.hid (nats_pair (V1.out.box (.tail _ (.head _))).1 (V1.out.box (.head _)).1)
    obtain ⟨x1_1, y1_1⟩ := V1.out.box (.head _)
    obtain ⟨x1_0, y1_0⟩ := V1.out.box (.tail _ (.head _))
    go_wp2_with fail
    refine (Few_any [n, m] _ 2 2 210 _ rfl (by omega) HLEN.out (by omega) HX1.out).mono ?_
    rintro e w2 ⟨rfl, rfl⟩
    rw [HF.out]
    go_wp2_with fail
    refine (HO.out _).mono ?_
    rintro e w3 ⟨A3, c3, k3, B3, d3, l3, rfl, n3, m3, b3⟩
    have U3 := Lib.hid (((V1.out.go b3).num m3).num n3)
    clear n3 m3 b3 x1_1 y1_1 x1_0 y1_0
    have V3 := Lib.hid (U3.out.newF (.bool so) (.slice A3 k3 c3) (.slice B3 l3 d3) 30)
    go_wp2_with fail
    refine (HP.out _).mono ?_
    rintro e w4 ⟨A4, c4, k4, B4, d4, l4, rfl, n4, m4, b4⟩
    have U4 := Lib.hid (((V3.out.go b4).num m4).num n4)
    clear n4 m4 b4
    have V4 := Lib.hid (U4.out.newF (.bool so) (.slice A4 k4 c4) (.slice B4 l4 d4) 30)
    obtain ⟨x4_x1, y4_x1⟩ := V4.out.box (.tail _ (.tail _ (.tail _ (.tail _ (.tail _ (.tail _ (.head _)))))))
    obtain ⟨x4_x0, y4_x0⟩ := V4.out.box (.tail _ (.tail _ (.tail _ (.tail _ (.tail _ (.tail _ (.tail _ (.head _))))))))
    go_wp2_with fail
    refine (HU.out _ (HA.out.below V4.out.2.2) (HB.out.below V4.out.2.2)).mono ?_
    rintro e w5 ⟨A5, c5, k5, B5, d5, l5, rfl, n5, m5, b5⟩
    have U5 := Lib.hid (((V4.out.go b5).num m5).num n5)
    clear n5 m5 b5 x4_x1 y4_x1 x4_x0 y4_x0
    have V5 := Lib.hid (U5.out.newF (.bool su) (.slice A5 k5 c5) (.slice B5 l5 d5) 30)
    obtain ⟨x5_x1, y5_x1⟩ := V5.out.box (.tail _ (.tail _ (.tail _ (.tail _ (.tail _ (.tail _ (.tail _ (.tail _ (.tail _ (.head _))))))))))
    obtain ⟨x5_x0, y5_x0⟩ := V5.out.box (.tail _ (.tail _ (.tail _ (.tail _ (.tail _ (.tail _ (.tail _ (.tail _ (.tail _ (.tail _ (.head _)))))))))))
    go_wp2_with fail
    refine (HV.out _ (HA.out.below V5.out.2.2) (HB.out.below V5.out.2.2)).mono ?_
    rintro e w6 ⟨A6, c6, k6, B6, d6, l6, rfl, n6, m6, b6⟩
    have U6 := Lib.hid (((V5.out.go b6).num m6).num n6)
    clear n6 m6 b6 x5_x1 y5_x1 x5_x0 y5_x0
    have V6 := Lib.hid (U6.out.newF (.bool su) (.slice A6 k6 c6) (.slice B6 l6 d6) 30)
    obtain ⟨x6_b2, y6_b2⟩ := V6.out.box (.tail _ (.tail _ (.tail _ (.tail _ (.tail _ (.tail _ (.head _)))))))
    obtain ⟨x6_b1, y6_b1⟩ := V6.out.box (.tail _ (.tail _ (.tail _ (.tail _ (.tail _ (.tail _ (.tail _ (.head _))))))))
    obtain ⟨x6_b0, y6_b0⟩ := V6.out.box (.tail _ (.tail _ (.tail _ (.tail _ (.tail _ (.tail _ (.tail _ (.tail _ (.head _)))))))))
    obtain ⟨x6_a2, y6_a2⟩ := V6.out.box (.tail _ (.tail _ (.tail _ (.tail _ (.tail _ (.tail _ (.tail _ (.tail _ (.tail _ (.head _))))))))))
    obtain ⟨x6_a1, y6_a1⟩ := V6.out.box (.tail _ (.tail _ (.tail _ (.tail _ (.tail _ (.tail _ (.tail _ (.tail _ (.tail _ (.tail _ (.head _)))))))))))
    obtain ⟨x6_a0, y6_a0⟩ := V6.out.box (.tail _ (.tail _ (.tail _ (.tail _ (.tail _ (.tail _ (.tail _ (.tail _ (.tail _ (.tail _ (.tail _ (.head _))))))))))))
    go_wp2_with fail
    refine (same03_t so k3 c3 l3 d3 k4 c4 l4 d4 po qo po qo A3 B3 A4 B4 _ (V6.out.at (.tail _ (.tail _ (.tail _ (.tail _ (.tail _ (.tail _ (.head _)))))))) (V6.out.at (.tail _ (.tail _ (.tail _ (.tail _ (.tail _ (.tail _ (.tail _ (.head _))))))))) (V6.out.at (.tail _ (.tail _ (.tail _ (.tail _ (.head _)))))) (V6.out.at (.tail _ (.tail _ (.tail _ (.tail _ (.tail _ (.head _))))))) rfl rfl).mono ?_
    rintro e w7 ⟨rfl, b7⟩
    have V7 := Lib.hid (V6.out.go b7)
    clear b7 x6_b2 y6_b2 x6_b1 y6_b1 x6_b0 y6_b0 x6_a2 y6_a2 x6_a1 y6_a1 x6_a0 y6_a0
    obtain ⟨x7_d2, y7_d2⟩ := V7.out.box (.head _)
    obtain ⟨x7_d1, y7_d1⟩ := V7.out.box (.tail _ (.head _))
    obtain ⟨x7_d0, y7_d0⟩ := V7.out.box (.tail _ (.tail _ (.head _)))
    obtain ⟨x7_c2, y7_c2⟩ := V7.out.box (.tail _ (.tail _ (.tail _ (.head _))))
    obtain ⟨x7_c1, y7_c1⟩ := V7.out.box (.tail _ (.tail _ (.tail _ (.tail _ (.head _)))))
    obtain ⟨x7_c0, y7_c0⟩ := V7.out.box (.tail _ (.tail _ (.tail _ (.tail _ (.tail _ (.head _))))))
    go_wp2_with fail
    refine (same03_t su k5 c5 l5 d5 k6 c6 l6 d6 pu qu pu qu A5 B5 A6 B6 _ (V7.out.at (.tail _ (.tail _ (.head _)))) (V7.out.at (.tail _ (.tail _ (.tail _ (.head _))))) (V7.out.at (.head _)) (V7.out.at (.tail _ (.head _))) rfl rfl).mono ?_
    rintro e w8 ⟨rfl, b8⟩
    have V8 := Lib.hid (V7.out.go b8)
    clear b8 x7_d2 y7_d2 x7_d1 y7_d1 x7_d0 y7_d0 x7_c2 y7_c2 x7_c1 y7_c1 x7_c0 y7_c0
    go_wp2_with fail
    go_ret
    exact ⟨rfl, V8.out.2.2⟩
theorem cellsPair : Tryz.prog.cellsOf 25 = 2 := by kernel_rfl
section
variable {H : Type} {enc : TypeId × Value → H} {P : Program} {w : World} {base : Nat} {spare : Nat → Bool} {held : Bool}
theorem trod_array2 {t e : TypeId} {fuel : Nat} {c0 c1 : Value} {x : DataW H × List MemPlace} (ht : P.underlying t = some (.array 2 e)) (hce : P.cellsOf e = 1)
    (h : DataW.trod enc P w base spare held fuel t [c0, c1] = some x) :
    ∃ y0 y1 n, x = (.agg [y0.1, y1.1], y0.2 ++ y1.2) ∧ DataW.trod enc P w base spare held n e [c0] = some y0 ∧ DataW.trod enc P w base spare held n e [c1] = some y1 := by
  cases fuel with
  | zero => simp [DataW.trod] at h
  | succ n =>
    unfold DataW.trod at h
    rw [ht] at h
    have r2 : List.range 2 = [0, 1] := rfl
    simp [r2, hce] at h
    obtain ⟨_, h⟩ := h
    cases h0 : DataW.trod enc P w base spare held n e [c0] with
    | none => simp [h0] at h
    | some y0 =>
      cases h1 : DataW.trod enc P w base spare held n e [c1] with
      | none => simp [h0, h1] at h
      | some y1 =>
        simp [h0, h1] at h
        exact ⟨y0, y1, n, h.symm, h0, h1⟩
end
/-- A pair of numbers that came in by value. -/
theorem open_pair {H : Type} {enc : TypeId × Value → H} {W : World} {r : Reach} {b0 : Nat} {v : Value} {d : DataW H} {p : List MemPlace} (hv : Value.okWide Tryz.prog W r b0 25 v)
    (h : DataW.Trod enc Tryz.prog W 0 (fun _ => true) true 25 v d p) (hw : ∀ m ∈ d.weights Tryz.prog 25, m ≤ reachBytes) :
    ∃ (A B : Option Addr) (n c m e : Nat) (L M : List Int), v = .agg #[.slice A n c, .slice B m e] ∧ L.length = n ∧ M.length = m ∧ n ≤ c ∧ m ≤ e ∧ c ≤ 17592186044416 ∧ e ≤ 17592186044416 ∧ IntsIn W A L ∧ IntsIn W B M := by
  have hv2 := hv
  simp only [Value.okWide, Tryz.underlying25] at hv2
  obtain ⟨cs, rfl, hsz, _⟩ := hv2
  rw [cellsPair] at hsz
  obtain ⟨x, y, rfl⟩ : ∃ x y, cs = #[x, y] := by
    obtain ⟨l⟩ := cs
    match l, hsz with
    | [x, y], _ => exact ⟨x, y, rfl⟩
  obtain ⟨fuel, hf⟩ := h
  have hf2 : DataW.trod enc Tryz.prog W 0 (fun _ => true) true fuel 25 [x, y] = some (d, p) := by simpa [Value.cells] using hf
  obtain ⟨y1, y2, k, hx, h1, h2⟩ := trod_array2 Tryz.underlying25 Tryz.cellsNat hf2
  obtain ⟨d1, p1⟩ := y1
  obtain ⟨d2, p2⟩ := y2
  simp only [Prod.mk.injEq] at hx
  rw [hx.1] at hw
  have hw1 : ∀ m ∈ d1.weights Tryz.prog 24, m ≤ reachBytes := fun m hm => hw m (by simp only [DataW.weights, Tryz.underlying25]; simp [DataW.weightsAll, hm])
  have hw2 : ∀ m ∈ d2.weights Tryz.prog 24, m ≤ reachBytes := fun m hm => hw m (by simp only [DataW.weights, Tryz.underlying25]; simp [DataW.weightsAll, hm])
  obtain ⟨A, n1, c1, L, rfl, a1, a2, a3, a4⟩ := nat_field h1 hw1
  obtain ⟨B, n2, c2, M, rfl, b1, b2, b3, b4⟩ := nat_field h2 hw2
  exact ⟨A, B, n1, c1, n2, c2, L, M, rfl, a1, b1, a2, b2, a3, b3, a4, b4⟩
end Go.Proofs.YtpinnopdimjfjaaGreatDoor
