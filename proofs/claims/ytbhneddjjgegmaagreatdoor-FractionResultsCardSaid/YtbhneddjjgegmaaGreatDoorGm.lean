/- What the statement about sums, differences, products and quotients answers: true, whatever the input. -/
import Derived.Test.YtbhneddjjgegmaaGreatDoorHD
import Derived.Deep.DeepCutAuto
namespace Go.Proofs.YtbhneddjjgegmaaGreatDoor
open Go.RowKit
set_option linter.unusedVariables false
set_option maxRecDepth 100000

set_option maxHeartbeats 16000000 in
theorem lawres_any (s : Bool) (L M : List Int) (n c m d : Nat) (A B : Option Addr) (s2 : Bool) (L2 M2 : List Int) (n2 c2 m2 d2 : Nat) (A2 B2 : Option Addr) (W : World) (hn : L.length = n) (hm : M.length = m) (hnc : n ≤ c) (hmd : m ≤ d) (hc63 : c ≤ maxLen) (hd63 : d ≤ maxLen) (hA : IntsIn W A L) (hB : IntsIn W B M) (hcr : c ≤ 17592186044416) (hdr : d ≤ 17592186044416) (hn2 : L2.length = n2) (hm2 : M2.length = m2) (hnc2 : n2 ≤ c2) (hmd2 : m2 ≤ d2) (hc632 : c2 ≤ maxLen) (hd632 : d2 ≤ maxLen) (hA2 : IntsIn W A2 L2) (hB2 : IntsIn W B2 M2) (hcr2 : c2 ≤ 17592186044416) (hdr2 : d2 ≤ 17592186044416) (hT : Tab W) (hC : Cutl W) :
    Calls Tryz.prog 3 #[.agg #[.bool s, .slice A n c, .slice B m d], .agg #[.bool s2, .slice A2 n2 c2, .slice B2 m2 d2]] W fun e w' => e = .returned (.bool true) ∧ Below W.heap.size W w' := by
  have VW := ((BoxF.start W).new s A n c B m d).new s2 A2 n2 c2 B2 m2 d2
  rw [show (W.alloc (.cells #[.bool s, .slice A n c, .slice B m d] 26)).heap.size = W.heap.size + 1 by simp] at VW
  have V0 := Lib.hid VW
  have HT := Lib.hid hT
  have HC := Lib.hid hC
  have HN := Lib.hid hn
  have HM := Lib.hid hm
  have HN2 := Lib.hid hn2
  have HM2 := Lib.hid hm2
  have HA := Lib.hid hA
  have HB := Lib.hid hB
  have HA2 := Lib.hid hA2
  have HB2 := Lib.hid hB2
  clear VW hT hC hn hm hn2 hm2 hA hB hA2 hB2
  have HLEN := Lib.hid (show ∀ j, (([(n, m), (n2, m2)] : List (Nat × Nat)).getD j (0, 0)).1 ≤ 17592186044416 ∧ (([(n, m), (n2, m2)] : List (Nat × Nat)).getD j (0, 0)).2 ≤ 17592186044416 from fun j => by
    match j with
    | 0 => exact ⟨by show n ≤ _; omega, by show m ≤ _; omega⟩
    | 1 => exact ⟨by show n2 ≤ _; omega, by show m2 ≤ _; omega⟩
    | j + 2 => simp)
  cases hf : fewF [(n, m), (n2, m2)] 210 with
  | false =>
    have HF := Lib.hid hf
    clear hf
    go_enter Tryz.func3, Tryz.ntmps3
    go_wp2_with fail
    refine (awake_any _ (HT.out.below V0.out.2.2) (HC.out.below V0.out.2.2)).mono ?_
    rintro e w1 ⟨rfl, b1⟩
    have V1 := Lib.hid (V0.out.go b1)
    clear b1
    obtain ⟨x0, x1, x2, x3⟩ := V1.out.box (.tail _ (.head _))
    obtain ⟨y0, y1, y2, y3⟩ := V1.out.box (.head _)
    have VL := Lib.hid (V1.out.go (one_new (o := .cells #[.bool s, .slice A n c, .slice B m d, .bool s2, .slice A2 n2 c2, .slice B2 m2 d2] 26)))
    go_wp2_with fail
    refine (few03_any [(n, m), (n2, m2)] _ 2 2 210 _ rfl (by omega) HLEN.out (by omega) (fracs_two s A B n c m d s2 A2 B2 n2 c2 m2 d2 _)).mono ?_
    rintro e w2 ⟨rfl, b2⟩
    clear x0 x1 x2 x3 y0 y1 y2 y3
    rw [HF.out]
    have V2 := Lib.hid (VL.out.go b2)
    clear b2
    go_wp2_with fail
    refine (awake_any _ (HT.out.below V2.out.2.2) (HC.out.below V2.out.2.2)).mono ?_
    rintro e w3 ⟨rfl, b3⟩
    have V3 := Lib.hid (V2.out.go b3)
    clear b3
    go_wp2_with fail
    go_ret
    exact ⟨rfl, V3.out.2.2⟩
  | true =>
    have HF := Lib.hid hf
    clear hf
    obtain ⟨⟨s10, p10, q10, e10⟩, ho10⟩ : ∃ r, r = opR sumR s s2 L M L2 M2 := ⟨_, rfl⟩
    have HG0 := Lib.hid (show GoodF (s10, p10, q10, e10) by rw [ho10]; exact op_good sum_good s s2 L M L2 M2)
    have HP0 := Lib.hid (fun w (b : Below W.heap.size W w) => show Calls Tryz.prog 11 #[.agg #[.bool s, .slice A n c, .slice B m d], .agg #[.bool s2, .slice A2 n2 c2, .slice B2 m2 d2]] w (FrE (s10, p10, q10, e10) w) by rw [ho10]; exact fadd_any s s2 L M L2 M2 n c m d n2 c2 m2 d2 A B A2 B2 w HN.out HM.out hnc hmd hc63 hd63 (HA.out.below b) (HB.out.below b) HN2.out HM2.out hnc2 hmd2 hc632 hd632 (HA2.out.below b) (HB2.out.below b))
    have HR0 := Lib.hid (fun w (b : Below W.heap.size W w) => show Calls Tryz.prog 12 #[.agg #[.bool s, .slice A n c, .slice B m d], .agg #[.bool s2, .slice A2 n2 c2, .slice B2 m2 d2]] w (FrE (s10, p10, q10, e10) w) by rw [ho10]; exact radd3_any s s2 L M L2 M2 n c m d n2 c2 m2 d2 A B A2 B2 w HN.out HM.out hnc hmd hc63 hd63 (HA.out.below b) (HB.out.below b) HN2.out HM2.out hnc2 hmd2 hc632 hd632 (HA2.out.below b) (HB2.out.below b))
    clear ho10
    obtain ⟨⟨s11, p11, q11, e11⟩, ho11⟩ : ∃ r, r = opR difR s s2 L M L2 M2 := ⟨_, rfl⟩
    have HG1 := Lib.hid (show GoodF (s11, p11, q11, e11) by rw [ho11]; exact op_good dif_good s s2 L M L2 M2)
    have HP1 := Lib.hid (fun w (b : Below W.heap.size W w) => show Calls Tryz.prog 15 #[.agg #[.bool s, .slice A n c, .slice B m d], .agg #[.bool s2, .slice A2 n2 c2, .slice B2 m2 d2]] w (FrE (s11, p11, q11, e11) w) by rw [ho11]; exact fsub_any s s2 L M L2 M2 n c m d n2 c2 m2 d2 A B A2 B2 w HN.out HM.out hnc hmd hc63 hd63 (HA.out.below b) (HB.out.below b) HN2.out HM2.out hnc2 hmd2 hc632 hd632 (HA2.out.below b) (HB2.out.below b))
    have HR1 := Lib.hid (fun w (b : Below W.heap.size W w) => show Calls Tryz.prog 16 #[.agg #[.bool s, .slice A n c, .slice B m d], .agg #[.bool s2, .slice A2 n2 c2, .slice B2 m2 d2]] w (FrE (s11, p11, q11, e11) w) by rw [ho11]; exact rsub3_any s s2 L M L2 M2 n c m d n2 c2 m2 d2 A B A2 B2 w HN.out HM.out hnc hmd hc63 hd63 (HA.out.below b) (HB.out.below b) HN2.out HM2.out hnc2 hmd2 hc632 hd632 (HA2.out.below b) (HB2.out.below b))
    clear ho11
    obtain ⟨⟨s12, p12, q12, e12⟩, ho12⟩ : ∃ r, r = opR prodR s s2 L M L2 M2 := ⟨_, rfl⟩
    have HG2 := Lib.hid (show GoodF (s12, p12, q12, e12) by rw [ho12]; exact op_good prod_good s s2 L M L2 M2)
    have HP2 := Lib.hid (fun w (b : Below W.heap.size W w) => show Calls Tryz.prog 17 #[.agg #[.bool s, .slice A n c, .slice B m d], .agg #[.bool s2, .slice A2 n2 c2, .slice B2 m2 d2]] w (FrE (s12, p12, q12, e12) w) by rw [ho12]; exact fmul_any s s2 L M L2 M2 n c m d n2 c2 m2 d2 A B A2 B2 w HN.out HM.out hnc hmd hc63 hd63 (HA.out.below b) (HB.out.below b) HN2.out HM2.out hnc2 hmd2 hc632 hd632 (HA2.out.below b) (HB2.out.below b))
    have HR2 := Lib.hid (fun w (b : Below W.heap.size W w) => show Calls Tryz.prog 18 #[.agg #[.bool s, .slice A n c, .slice B m d], .agg #[.bool s2, .slice A2 n2 c2, .slice B2 m2 d2]] w (FrE (s12, p12, q12, e12) w) by rw [ho12]; exact rmul3_any s s2 L M L2 M2 n c m d n2 c2 m2 d2 A B A2 B2 w HN.out HM.out hnc hmd hc63 hd63 (HA.out.below b) (HB.out.below b) HN2.out HM2.out hnc2 hmd2 hc632 hd632 (HA2.out.below b) (HB2.out.below b))
    clear ho12
    obtain ⟨⟨s13, p13, q13, e13⟩, ho13⟩ : ∃ r, r = opR quoR s s2 L M L2 M2 := ⟨_, rfl⟩
    have HG3 := Lib.hid (show GoodF (s13, p13, q13, e13) by rw [ho13]; exact op_good quo_good s s2 L M L2 M2)
    have HP3 := Lib.hid (fun w (b : Below W.heap.size W w) => show Calls Tryz.prog 19 #[.agg #[.bool s, .slice A n c, .slice B m d], .agg #[.bool s2, .slice A2 n2 c2, .slice B2 m2 d2]] w (FrE (s13, p13, q13, e13) w) by rw [ho13]; exact fquo_any s s2 L M L2 M2 n c m d n2 c2 m2 d2 A B A2 B2 w HN.out HM.out hnc hmd hc63 hd63 (HA.out.below b) (HB.out.below b) HN2.out HM2.out hnc2 hmd2 hc632 hd632 (HA2.out.below b) (HB2.out.below b))
    have HR3 := Lib.hid (fun w (b : Below W.heap.size W w) => show Calls Tryz.prog 20 #[.agg #[.bool s, .slice A n c, .slice B m d], .agg #[.bool s2, .slice A2 n2 c2, .slice B2 m2 d2]] w (FrE (s13, p13, q13, e13) w) by rw [ho13]; exact rquo_any s s2 L M L2 M2 n c m d n2 c2 m2 d2 A B A2 B2 w HN.out HM.out hnc hmd hc63 hd63 (HA.out.below b) (HB.out.below b) HN2.out HM2.out hnc2 hmd2 hc632 hd632 (HA2.out.below b) (HB2.out.below b))
    clear ho13
    go_enter Tryz.func3, Tryz.ntmps3
    go_wp2_with fail
    refine (awake_any _ (HT.out.below V0.out.2.2) (HC.out.below V0.out.2.2)).mono ?_
    rintro e w1 ⟨rfl, b1⟩
    have V1 := Lib.hid (V0.out.go b1)
    clear b1
    obtain ⟨x0, x1, x2, x3⟩ := V1.out.box (.tail _ (.head _))
    obtain ⟨y0, y1, y2, y3⟩ := V1.out.box (.head _)
    have VL := Lib.hid (V1.out.go (one_new (o := .cells #[.bool s, .slice A n c, .slice B m d, .bool s2, .slice A2 n2 c2, .slice B2 m2 d2] 26)))
    go_wp2_with fail
    refine (few03_any [(n, m), (n2, m2)] _ 2 2 210 _ rfl (by omega) HLEN.out (by omega) (fracs_two s A B n c m d s2 A2 B2 n2 c2 m2 d2 _)).mono ?_
    rintro e w2 ⟨rfl, b2⟩
    clear x0 x1 x2 x3 y0 y1 y2 y3
    rw [HF.out]
    have V2 := Lib.hid (VL.out.go b2)
    clear b2
    obtain ⟨x0, x1, x2, x3⟩ := V2.out.box (.tail _ (.head _))
    obtain ⟨y0, y1, y2, y3⟩ := V2.out.box (.head _)
    go_wp2_with fail
    refine (HP0.out _ V2.out.2.2).mono ?_
    rintro e w3 ⟨Ap3, cp3, kp3, Aq3, cq3, kq3, rfl, n3, m3, b3⟩
    clear x0 x1 x2 x3 y0 y1 y2 y3
    have U3 := Lib.hid (((V2.out.go b3).num m3).num n3)
    clear n3 m3 b3
    have D3 := (U3.out.lt (.head _)).2
    have V3 := Lib.hid (U3.out.new s10 Ap3 kp3 cp3 Aq3 kq3 cq3)
    obtain ⟨x0, x1, x2, x3⟩ := V3.out.box (.tail _ (.tail _ (.head _)))
    obtain ⟨y0, y1, y2, y3⟩ := V3.out.box (.tail _ (.head _))
    go_wp2_with fail
    refine (HR0.out _ V3.out.2.2).mono ?_
    rintro e w4 ⟨Ap4, cp4, kp4, Aq4, cq4, kq4, rfl, n4, m4, b4⟩
    clear x0 x1 x2 x3 y0 y1 y2 y3
    have U4 := Lib.hid (((V3.out.go b4).num m4).num n4)
    clear n4 m4 b4
    have D4 := (U4.out.lt (.head _)).2
    have V4 := Lib.hid (U4.out.new s10 Ap4 kp4 cp4 Aq4 kq4 cq4)
    obtain ⟨a0, a1, a2, a3⟩ := V4.out.box (.tail _ (.head _))
    obtain ⟨b0, b1, b2, b3⟩ := V4.out.box (.head _)
    go_upto_region 5 with fail
    go_cut [48] (fun sv wx => sv = .bool false ∧ ∃ fa fb, BoxF W [(w4.heap.size, fb), (w3.heap.size, fa), (W.heap.size + 1, ⟨s2, A2, n2, c2, B2, m2, d2⟩), (W.heap.size, ⟨s, A, n, c, B, m, d⟩)] [] wx)
    case first =>
      by_cases he : e10 = 0
      · have hb : (e10 == 0) = true := by simpa using he
        have hbn : (e10 != 0) = false := by simpa using he
        have HV := Lib.hid (good_dec HG0.out he)
        clear he
        go_wp2_with fail
        refine (same03_t s10 kp3 cp3 kq3 cq3 kp4 cp4 kq4 cq4 p10 q10 p10 q10 Ap3 Aq3 Ap4 Aq4 _ (V4.out.at (.tail _ (.tail _ (.head _)))) (V4.out.at (.tail _ (.tail _ (.tail _ (.head _))))) (V4.out.at (.head _)) (V4.out.at (.tail _ (.head _))) rfl rfl).mono ?_
        rintro e wx ⟨rfl, bx⟩
        have VX := Lib.hid (V4.out.go bx)
        clear bx a0 a1 a2 a3 b0 b1 b2 b3
        obtain ⟨a0, a1, a2, a3⟩ := VX.out.box (.tail _ (.head _))
        go_wp2_with fail
        refine (fvalid_num s10 kp3 cp3 kq3 cq3 p10 q10 Ap3 Aq3 _ (VX.out.at (.tail _ (.tail _ (.head _)))) (VX.out.at (.tail _ (.tail _ (.tail _ (.head _)))))).mono ?_
        rintro e wy ⟨rfl, by1⟩
        rw [HV.out]
        have VY := Lib.hid (VX.out.go by1)
        clear by1 a0 a1 a2 a3
        go_wp2_with fail
        go_meet
        exact ⟨rfl, ⟨s10, Ap3, kp3, cp3, Aq3, kq3, cq3⟩, ⟨s10, Ap4, kp4, cp4, Aq4, kq4, cq4⟩, VY.out.sub (fun _ h => h) (fun _ h => by simp at h)⟩
      · have hb : (e10 == 0) = false := by simpa using he
        have hbn : (e10 != 0) = true := by simpa using he
        clear he
        go_wp2_with fail
        refine (same03_t s10 kp3 cp3 kq3 cq3 kp4 cp4 kq4 cq4 p10 q10 p10 q10 Ap3 Aq3 Ap4 Aq4 _ (V4.out.at (.tail _ (.tail _ (.head _)))) (V4.out.at (.tail _ (.tail _ (.tail _ (.head _))))) (V4.out.at (.head _)) (V4.out.at (.tail _ (.head _))) rfl rfl).mono ?_
        rintro e wx ⟨rfl, bx⟩
        have VX := Lib.hid (V4.out.go bx)
        clear bx a0 a1 a2 a3 b0 b1 b2 b3
        go_wp2_with fail
        go_meet
        exact ⟨rfl, ⟨s10, Ap3, kp3, cp3, Aq3, kq3, cq3⟩, ⟨s10, Ap4, kp4, cp4, Aq4, kq4, cq4⟩, VX.out.sub (fun _ h => h) (fun _ h => by simp at h)⟩
    case rest =>
      obtain ⟨rfl, fa, fb, hV⟩ := hcut
      have V40 := Lib.hid hV
      clear hV a0 a1 a2 a3 b0 b1 b2 b3
      obtain ⟨x0, x1, x2, x3⟩ := V40.out.box (.tail _ (.tail _ (.tail _ (.head _))))
      obtain ⟨y0, y1, y2, y3⟩ := V40.out.box (.tail _ (.tail _ (.head _)))
      go_wp2_with fail
      refine (HP1.out _ V40.out.2.2).mono ?_
      rintro e w5 ⟨Ap5, cp5, kp5, Aq5, cq5, kq5, rfl, n5, m5, b5⟩
      clear x0 x1 x2 x3 y0 y1 y2 y3
      have U5 := Lib.hid (((V40.out.go b5).num m5).num n5)
      clear n5 m5 b5
      obtain ⟨z0, z1, z2, z3⟩ := U5.out.box (.tail _ (.head _))
      obtain ⟨t0, t1, t2⟩ := U5.out.open (.tail _ (.head _))
      have V5 := Lib.hid (U5.out.set (.tail _ (.head _)) ⟨s11, Ap5, kp5, cp5, Aq5, kq5, cq5⟩ [(w4.heap.size, fb), (w3.heap.size, ⟨s11, Ap5, kp5, cp5, Aq5, kq5, cq5⟩), (W.heap.size + 1, ⟨s2, A2, n2, c2, B2, m2, d2⟩), (W.heap.size, ⟨s, A, n, c, B, m, d⟩)] (List.forall_mem_cons.2 ⟨.inr ⟨(.head _), by show ¬ w4.heap.size = w3.heap.size; omega⟩, List.forall_mem_cons.2 ⟨.inl rfl, List.forall_mem_cons.2 ⟨.inr ⟨(.tail _ (.tail _ (.head _))), by show ¬ W.heap.size + 1 = w3.heap.size; omega⟩, List.forall_mem_cons.2 ⟨.inr ⟨(.tail _ (.tail _ (.tail _ (.head _)))), by show ¬ W.heap.size = w3.heap.size; omega⟩, fun _ h => by simp at h⟩⟩⟩⟩))
      obtain ⟨x0, x1, x2, x3⟩ := V5.out.box (.tail _ (.tail _ (.tail _ (.head _))))
      obtain ⟨y0, y1, y2, y3⟩ := V5.out.box (.tail _ (.tail _ (.head _)))
      go_wp2_with fail
      refine (HR1.out _ V5.out.2.2).mono ?_
      rintro e w6 ⟨Ap6, cp6, kp6, Aq6, cq6, kq6, rfl, n6, m6, b6⟩
      clear x0 x1 x2 x3 y0 y1 y2 y3 z0 z1 z2 z3 t0 t1 t2
      have U6 := Lib.hid (((V5.out.go b6).num m6).num n6)
      clear n6 m6 b6
      obtain ⟨z0, z1, z2, z3⟩ := U6.out.box (.head _)
      obtain ⟨t0, t1, t2⟩ := U6.out.open (.head _)
      have V6 := Lib.hid (U6.out.set (.head _) ⟨s11, Ap6, kp6, cp6, Aq6, kq6, cq6⟩ [(w4.heap.size, ⟨s11, Ap6, kp6, cp6, Aq6, kq6, cq6⟩), (w3.heap.size, ⟨s11, Ap5, kp5, cp5, Aq5, kq5, cq5⟩), (W.heap.size + 1, ⟨s2, A2, n2, c2, B2, m2, d2⟩), (W.heap.size, ⟨s, A, n, c, B, m, d⟩)] (List.forall_mem_cons.2 ⟨.inl rfl, List.forall_mem_cons.2 ⟨.inr ⟨(.tail _ (.head _)), by show ¬ w3.heap.size = w4.heap.size; omega⟩, List.forall_mem_cons.2 ⟨.inr ⟨(.tail _ (.tail _ (.head _))), by show ¬ W.heap.size + 1 = w4.heap.size; omega⟩, List.forall_mem_cons.2 ⟨.inr ⟨(.tail _ (.tail _ (.tail _ (.head _)))), by show ¬ W.heap.size = w4.heap.size; omega⟩, fun _ h => by simp at h⟩⟩⟩⟩))
      obtain ⟨a0, a1, a2, a3⟩ := V6.out.box (.tail _ (.head _))
      obtain ⟨b0, b1, b2, b3⟩ := V6.out.box (.head _)
      go_upto_region 9 with fail
      clear z0 z1 z2 z3 t0 t1 t2
      go_cut [78] (fun sv wx => sv = .bool false ∧ ∃ fa fb, BoxF W [(w4.heap.size, fb), (w3.heap.size, fa), (W.heap.size + 1, ⟨s2, A2, n2, c2, B2, m2, d2⟩), (W.heap.size, ⟨s, A, n, c, B, m, d⟩)] [] wx)
      case first =>
        by_cases he : e11 = 0
        · have hb : (e11 == 0) = true := by simpa using he
          have hbn : (e11 != 0) = false := by simpa using he
          have HV := Lib.hid (good_dec HG1.out he)
          clear he
          go_wp2_with fail
          refine (same03_t s11 kp5 cp5 kq5 cq5 kp6 cp6 kq6 cq6 p11 q11 p11 q11 Ap5 Aq5 Ap6 Aq6 _ (V6.out.at (.tail _ (.tail _ (.head _)))) (V6.out.at (.tail _ (.tail _ (.tail _ (.head _))))) (V6.out.at (.head _)) (V6.out.at (.tail _ (.head _))) rfl rfl).mono ?_
          rintro e wx ⟨rfl, bx⟩
          have VX := Lib.hid (V6.out.go bx)
          clear bx a0 a1 a2 a3 b0 b1 b2 b3
          obtain ⟨a0, a1, a2, a3⟩ := VX.out.box (.tail _ (.head _))
          go_wp2_with fail
          refine (fvalid_num s11 kp5 cp5 kq5 cq5 p11 q11 Ap5 Aq5 _ (VX.out.at (.tail _ (.tail _ (.head _)))) (VX.out.at (.tail _ (.tail _ (.tail _ (.head _)))))).mono ?_
          rintro e wy ⟨rfl, by1⟩
          rw [HV.out]
          have VY := Lib.hid (VX.out.go by1)
          clear by1 a0 a1 a2 a3
          go_wp2_with fail
          go_meet
          exact ⟨rfl, ⟨s11, Ap5, kp5, cp5, Aq5, kq5, cq5⟩, ⟨s11, Ap6, kp6, cp6, Aq6, kq6, cq6⟩, VY.out.sub (fun _ h => h) (fun _ h => by simp at h)⟩
        · have hb : (e11 == 0) = false := by simpa using he
          have hbn : (e11 != 0) = true := by simpa using he
          clear he
          go_wp2_with fail
          refine (same03_t s11 kp5 cp5 kq5 cq5 kp6 cp6 kq6 cq6 p11 q11 p11 q11 Ap5 Aq5 Ap6 Aq6 _ (V6.out.at (.tail _ (.tail _ (.head _)))) (V6.out.at (.tail _ (.tail _ (.tail _ (.head _))))) (V6.out.at (.head _)) (V6.out.at (.tail _ (.head _))) rfl rfl).mono ?_
          rintro e wx ⟨rfl, bx⟩
          have VX := Lib.hid (V6.out.go bx)
          clear bx a0 a1 a2 a3 b0 b1 b2 b3
          go_wp2_with fail
          go_meet
          exact ⟨rfl, ⟨s11, Ap5, kp5, cp5, Aq5, kq5, cq5⟩, ⟨s11, Ap6, kp6, cp6, Aq6, kq6, cq6⟩, VX.out.sub (fun _ h => h) (fun _ h => by simp at h)⟩
      case rest =>
        obtain ⟨rfl, fa, fb, hV⟩ := hcut
        have V60 := Lib.hid hV
        clear hV a0 a1 a2 a3 b0 b1 b2 b3
        obtain ⟨x0, x1, x2, x3⟩ := V60.out.box (.tail _ (.tail _ (.tail _ (.head _))))
        obtain ⟨y0, y1, y2, y3⟩ := V60.out.box (.tail _ (.tail _ (.head _)))
        go_wp2_with fail
        refine (HP2.out _ V60.out.2.2).mono ?_
        rintro e w7 ⟨Ap7, cp7, kp7, Aq7, cq7, kq7, rfl, n7, m7, b7⟩
        clear x0 x1 x2 x3 y0 y1 y2 y3
        have U7 := Lib.hid (((V60.out.go b7).num m7).num n7)
        clear n7 m7 b7
        obtain ⟨z0, z1, z2, z3⟩ := U7.out.box (.tail _ (.head _))
        obtain ⟨t0, t1, t2⟩ := U7.out.open (.tail _ (.head _))
        have V7 := Lib.hid (U7.out.set (.tail _ (.head _)) ⟨s12, Ap7, kp7, cp7, Aq7, kq7, cq7⟩ [(w4.heap.size, fb), (w3.heap.size, ⟨s12, Ap7, kp7, cp7, Aq7, kq7, cq7⟩), (W.heap.size + 1, ⟨s2, A2, n2, c2, B2, m2, d2⟩), (W.heap.size, ⟨s, A, n, c, B, m, d⟩)] (List.forall_mem_cons.2 ⟨.inr ⟨(.head _), by show ¬ w4.heap.size = w3.heap.size; omega⟩, List.forall_mem_cons.2 ⟨.inl rfl, List.forall_mem_cons.2 ⟨.inr ⟨(.tail _ (.tail _ (.head _))), by show ¬ W.heap.size + 1 = w3.heap.size; omega⟩, List.forall_mem_cons.2 ⟨.inr ⟨(.tail _ (.tail _ (.tail _ (.head _)))), by show ¬ W.heap.size = w3.heap.size; omega⟩, fun _ h => by simp at h⟩⟩⟩⟩))
        obtain ⟨x0, x1, x2, x3⟩ := V7.out.box (.tail _ (.tail _ (.tail _ (.head _))))
        obtain ⟨y0, y1, y2, y3⟩ := V7.out.box (.tail _ (.tail _ (.head _)))
        go_wp2_with fail
        refine (HR2.out _ V7.out.2.2).mono ?_
        rintro e w8 ⟨Ap8, cp8, kp8, Aq8, cq8, kq8, rfl, n8, m8, b8⟩
        clear x0 x1 x2 x3 y0 y1 y2 y3 z0 z1 z2 z3 t0 t1 t2
        have U8 := Lib.hid (((V7.out.go b8).num m8).num n8)
        clear n8 m8 b8
        obtain ⟨z0, z1, z2, z3⟩ := U8.out.box (.head _)
        obtain ⟨t0, t1, t2⟩ := U8.out.open (.head _)
        have V8 := Lib.hid (U8.out.set (.head _) ⟨s12, Ap8, kp8, cp8, Aq8, kq8, cq8⟩ [(w4.heap.size, ⟨s12, Ap8, kp8, cp8, Aq8, kq8, cq8⟩), (w3.heap.size, ⟨s12, Ap7, kp7, cp7, Aq7, kq7, cq7⟩), (W.heap.size + 1, ⟨s2, A2, n2, c2, B2, m2, d2⟩), (W.heap.size, ⟨s, A, n, c, B, m, d⟩)] (List.forall_mem_cons.2 ⟨.inl rfl, List.forall_mem_cons.2 ⟨.inr ⟨(.tail _ (.head _)), by show ¬ w3.heap.size = w4.heap.size; omega⟩, List.forall_mem_cons.2 ⟨.inr ⟨(.tail _ (.tail _ (.head _))), by show ¬ W.heap.size + 1 = w4.heap.size; omega⟩, List.forall_mem_cons.2 ⟨.inr ⟨(.tail _ (.tail _ (.tail _ (.head _)))), by show ¬ W.heap.size = w4.heap.size; omega⟩, fun _ h => by simp at h⟩⟩⟩⟩))
        obtain ⟨a0, a1, a2, a3⟩ := V8.out.box (.tail _ (.head _))
        obtain ⟨b0, b1, b2, b3⟩ := V8.out.box (.head _)
        go_upto_region 13 with fail
        clear z0 z1 z2 z3 t0 t1 t2
        go_cut [108] (fun sv wx => sv = .bool false ∧ ∃ fa fb, BoxF W [(w4.heap.size, fb), (w3.heap.size, fa), (W.heap.size + 1, ⟨s2, A2, n2, c2, B2, m2, d2⟩), (W.heap.size, ⟨s, A, n, c, B, m, d⟩)] [] wx)
        case first =>
          by_cases he : e12 = 0
          · have hb : (e12 == 0) = true := by simpa using he
            have hbn : (e12 != 0) = false := by simpa using he
            have HV := Lib.hid (good_dec HG2.out he)
            clear he
            go_wp2_with fail
            refine (same03_t s12 kp7 cp7 kq7 cq7 kp8 cp8 kq8 cq8 p12 q12 p12 q12 Ap7 Aq7 Ap8 Aq8 _ (V8.out.at (.tail _ (.tail _ (.head _)))) (V8.out.at (.tail _ (.tail _ (.tail _ (.head _))))) (V8.out.at (.head _)) (V8.out.at (.tail _ (.head _))) rfl rfl).mono ?_
            rintro e wx ⟨rfl, bx⟩
            have VX := Lib.hid (V8.out.go bx)
            clear bx a0 a1 a2 a3 b0 b1 b2 b3
            obtain ⟨a0, a1, a2, a3⟩ := VX.out.box (.tail _ (.head _))
            go_wp2_with fail
            refine (fvalid_num s12 kp7 cp7 kq7 cq7 p12 q12 Ap7 Aq7 _ (VX.out.at (.tail _ (.tail _ (.head _)))) (VX.out.at (.tail _ (.tail _ (.tail _ (.head _)))))).mono ?_
            rintro e wy ⟨rfl, by1⟩
            rw [HV.out]
            have VY := Lib.hid (VX.out.go by1)
            clear by1 a0 a1 a2 a3
            go_wp2_with fail
            go_meet
            exact ⟨rfl, ⟨s12, Ap7, kp7, cp7, Aq7, kq7, cq7⟩, ⟨s12, Ap8, kp8, cp8, Aq8, kq8, cq8⟩, VY.out.sub (fun _ h => h) (fun _ h => by simp at h)⟩
          · have hb : (e12 == 0) = false := by simpa using he
            have hbn : (e12 != 0) = true := by simpa using he
            clear he
            go_wp2_with fail
            refine (same03_t s12 kp7 cp7 kq7 cq7 kp8 cp8 kq8 cq8 p12 q12 p12 q12 Ap7 Aq7 Ap8 Aq8 _ (V8.out.at (.tail _ (.tail _ (.head _)))) (V8.out.at (.tail _ (.tail _ (.tail _ (.head _))))) (V8.out.at (.head _)) (V8.out.at (.tail _ (.head _))) rfl rfl).mono ?_
            rintro e wx ⟨rfl, bx⟩
            have VX := Lib.hid (V8.out.go bx)
            clear bx a0 a1 a2 a3 b0 b1 b2 b3
            go_wp2_with fail
            go_meet
            exact ⟨rfl, ⟨s12, Ap7, kp7, cp7, Aq7, kq7, cq7⟩, ⟨s12, Ap8, kp8, cp8, Aq8, kq8, cq8⟩, VX.out.sub (fun _ h => h) (fun _ h => by simp at h)⟩
        case rest =>
          obtain ⟨rfl, fa, fb, hV⟩ := hcut
          have V80 := Lib.hid hV
          clear hV a0 a1 a2 a3 b0 b1 b2 b3
          obtain ⟨x0, x1, x2, x3⟩ := V80.out.box (.tail _ (.tail _ (.tail _ (.head _))))
          obtain ⟨y0, y1, y2, y3⟩ := V80.out.box (.tail _ (.tail _ (.head _)))
          go_wp2_with fail
          refine (HP3.out _ V80.out.2.2).mono ?_
          rintro e w9 ⟨Ap9, cp9, kp9, Aq9, cq9, kq9, rfl, n9, m9, b9⟩
          clear x0 x1 x2 x3 y0 y1 y2 y3
          have U9 := Lib.hid (((V80.out.go b9).num m9).num n9)
          clear n9 m9 b9
          obtain ⟨z0, z1, z2, z3⟩ := U9.out.box (.tail _ (.head _))
          obtain ⟨t0, t1, t2⟩ := U9.out.open (.tail _ (.head _))
          have V9 := Lib.hid (U9.out.set (.tail _ (.head _)) ⟨s13, Ap9, kp9, cp9, Aq9, kq9, cq9⟩ [(w4.heap.size, fb), (w3.heap.size, ⟨s13, Ap9, kp9, cp9, Aq9, kq9, cq9⟩), (W.heap.size + 1, ⟨s2, A2, n2, c2, B2, m2, d2⟩), (W.heap.size, ⟨s, A, n, c, B, m, d⟩)] (List.forall_mem_cons.2 ⟨.inr ⟨(.head _), by show ¬ w4.heap.size = w3.heap.size; omega⟩, List.forall_mem_cons.2 ⟨.inl rfl, List.forall_mem_cons.2 ⟨.inr ⟨(.tail _ (.tail _ (.head _))), by show ¬ W.heap.size + 1 = w3.heap.size; omega⟩, List.forall_mem_cons.2 ⟨.inr ⟨(.tail _ (.tail _ (.tail _ (.head _)))), by show ¬ W.heap.size = w3.heap.size; omega⟩, fun _ h => by simp at h⟩⟩⟩⟩))
          obtain ⟨x0, x1, x2, x3⟩ := V9.out.box (.tail _ (.tail _ (.tail _ (.head _))))
          obtain ⟨y0, y1, y2, y3⟩ := V9.out.box (.tail _ (.tail _ (.head _)))
          go_wp2_with fail
          refine (HR3.out _ V9.out.2.2).mono ?_
          rintro e w10 ⟨Ap10, cp10, kp10, Aq10, cq10, kq10, rfl, n10, m10, b10⟩
          clear x0 x1 x2 x3 y0 y1 y2 y3 z0 z1 z2 z3 t0 t1 t2
          have U10 := Lib.hid (((V9.out.go b10).num m10).num n10)
          clear n10 m10 b10
          obtain ⟨z0, z1, z2, z3⟩ := U10.out.box (.head _)
          obtain ⟨t0, t1, t2⟩ := U10.out.open (.head _)
          have V10 := Lib.hid (U10.out.set (.head _) ⟨s13, Ap10, kp10, cp10, Aq10, kq10, cq10⟩ [(w4.heap.size, ⟨s13, Ap10, kp10, cp10, Aq10, kq10, cq10⟩), (w3.heap.size, ⟨s13, Ap9, kp9, cp9, Aq9, kq9, cq9⟩), (W.heap.size + 1, ⟨s2, A2, n2, c2, B2, m2, d2⟩), (W.heap.size, ⟨s, A, n, c, B, m, d⟩)] (List.forall_mem_cons.2 ⟨.inl rfl, List.forall_mem_cons.2 ⟨.inr ⟨(.tail _ (.head _)), by show ¬ w3.heap.size = w4.heap.size; omega⟩, List.forall_mem_cons.2 ⟨.inr ⟨(.tail _ (.tail _ (.head _))), by show ¬ W.heap.size + 1 = w4.heap.size; omega⟩, List.forall_mem_cons.2 ⟨.inr ⟨(.tail _ (.tail _ (.tail _ (.head _)))), by show ¬ W.heap.size = w4.heap.size; omega⟩, fun _ h => by simp at h⟩⟩⟩⟩))
          obtain ⟨a0, a1, a2, a3⟩ := V10.out.box (.tail _ (.head _))
          obtain ⟨b0, b1, b2, b3⟩ := V10.out.box (.head _)
          by_cases he : e13 = 0
          · have hb : (e13 == 0) = true := by simpa using he
            have hbn : (e13 != 0) = false := by simpa using he
            have HV := Lib.hid (good_dec HG3.out he)
            clear he
            go_wp2_with fail
            refine (same03_t s13 kp9 cp9 kq9 cq9 kp10 cp10 kq10 cq10 p13 q13 p13 q13 Ap9 Aq9 Ap10 Aq10 _ (V10.out.at (.tail _ (.tail _ (.head _)))) (V10.out.at (.tail _ (.tail _ (.tail _ (.head _))))) (V10.out.at (.head _)) (V10.out.at (.tail _ (.head _))) rfl rfl).mono ?_
            rintro e wx ⟨rfl, bx⟩
            have VX := Lib.hid (V10.out.go bx)
            clear bx a0 a1 a2 a3 b0 b1 b2 b3 z0 z1 z2 z3 t0 t1 t2
            obtain ⟨a0, a1, a2, a3⟩ := VX.out.box (.tail _ (.head _))
            go_wp2_with fail
            refine (fvalid_num s13 kp9 cp9 kq9 cq9 p13 q13 Ap9 Aq9 _ (VX.out.at (.tail _ (.tail _ (.head _)))) (VX.out.at (.tail _ (.tail _ (.tail _ (.head _)))))).mono ?_
            rintro e wy ⟨rfl, by1⟩
            rw [HV.out]
            have VY := Lib.hid (VX.out.go by1)
            clear by1 a0 a1 a2 a3
            go_wp2_with fail
            go_ret
            exact ⟨rfl, VY.out.2.2⟩
          · have hb : (e13 == 0) = false := by simpa using he
            have hbn : (e13 != 0) = true := by simpa using he
            clear he
            go_wp2_with fail
            refine (same03_t s13 kp9 cp9 kq9 cq9 kp10 cp10 kq10 cq10 p13 q13 p13 q13 Ap9 Aq9 Ap10 Aq10 _ (V10.out.at (.tail _ (.tail _ (.head _)))) (V10.out.at (.tail _ (.tail _ (.tail _ (.head _))))) (V10.out.at (.head _)) (V10.out.at (.tail _ (.head _))) rfl rfl).mono ?_
            rintro e wx ⟨rfl, bx⟩
            have VX := Lib.hid (V10.out.go bx)
            clear bx a0 a1 a2 a3 b0 b1 b2 b3 z0 z1 z2 z3 t0 t1 t2
            go_wp2_with fail
            go_ret
            exact ⟨rfl, VX.out.2.2⟩
end Go.Proofs.YtbhneddjjgegmaaGreatDoor
