/- The walk of the statement NaturalDivides. -/
import Derived.Test.YtjmndidbhickdaaDoorNGc
namespace Go.Proofs.YtjmndidbhickdaaDoor
open Go.RowKit
set_option linter.unusedVariables false
set_option maxRecDepth 100000

/-- What a region leaves that divides two copies. -/
def RegP2 (r : Int × Int × Int) (w2 : World) (s5 s6 s7 : Value) (w : World) : Prop :=
  ∃ g h A c n B d m, s5 = .pointer (some ⟨g, 0, none⟩) ∧ s6 = .pointer (some ⟨h, 0, none⟩) ∧ s7 = .int .i64 r.2.2 ∧ n = (digs r.1).length ∧ m = (digs r.2.1).length ∧ g < w.heap.size ∧ h < w.heap.size ∧ w.cell? ⟨g, 0, none⟩ = some (.slice A n c) ∧ w.cell? ⟨h, 0, none⟩ = some (.slice B m d) ∧
    IntsIn w A (digs r.1) ∧ n ≤ c ∧ c ≤ maxLen ∧ IntsIn w B (digs r.2.1) ∧ m ≤ d ∧ d ≤ maxLen ∧ Below w2.heap.size w2 w
theorem kept_new2 {w w' : World} (hb : Below ((w.alloc (.cells #[.slice none 0 0] 24)).alloc (.cells #[.slice none 0 0] 24)).heap.size ((w.alloc (.cells #[.slice none 0 0] 24)).alloc (.cells #[.slice none 0 0] 24)) w') :
    (KeptAt w.heap.size w' ∧ w'.cell? ⟨w.heap.size, 0, none⟩ = some (.slice none 0 0) ∧ w'.frozen? ⟨w.heap.size, 0, none⟩ = false ∧ w.heap.size < w'.heap.size) ∧ (KeptAt (w.heap.size + 1) w' ∧ w'.cell? ⟨w.heap.size + 1, 0, none⟩ = some (.slice none 0 0) ∧ w'.frozen? ⟨w.heap.size + 1, 0, none⟩ = false ∧ w.heap.size + 1 < w'.heap.size) := by
  have h1 := kept_new hb
  have h2 := kept_new (btwo one_new hb)
  rw [show (w.alloc (.cells #[.slice none 0 0] 24)).heap.size = w.heap.size + 1 by simp] at h1
  exact ⟨h2, h1⟩
theorem bset {w2 w : World} {g : Nat} {v : Value} (h : Below w2.heap.size w2 w) (hg : w2.heap.size ≤ g) : Below w2.heap.size w2 (w.setCell ⟨g, 0, none⟩ v) := h.setCell (p := ⟨g, 0, none⟩) hg _
theorem apart {a b : Nat} (h : a < b) : (¬ a = b) ∧ (¬ b = a) ∧ a < b := by omega
theorem apartK {a : Nat} {w : World} (h : KeptAt a w) (h2 : KeptAt (a + 1) w) : (¬ a = a + 1) ∧ (¬ a + 1 = a) ∧ a < a + 1 := by omega
theorem leK {w2 w : World} (h : Below w2.heap.size w2 w) : w2.heap.size ≤ w.heap.size ∧ w2.heap.size ≤ w.heap.size + 1 := by have := h.size; omega
theorem cell_two_new {w : World} {u v : Value} : (((w.alloc (.cells #[u] 24)).alloc (.cells #[v] 24)).cell? ⟨w.heap.size, 0, none⟩ = some u ∧ w.heap.size < ((w.alloc (.cells #[u] 24)).alloc (.cells #[v] 24)).heap.size) ∧ (((w.alloc (.cells #[u] 24)).alloc (.cells #[v] 24)).cell? ⟨w.heap.size + 1, 0, none⟩ = some v ∧ w.heap.size + 1 < ((w.alloc (.cells #[u] 24)).alloc (.cells #[v] 24)).heap.size) := by
  have h := (LiveN.start w).new2 u v 24
  exact ⟨h.box (.tail _ (.head _)), h.box (.head _)⟩
theorem div_back (x y : Int) : x / y * y + x % y = x := by
  rw [Int.mul_comm]; have := Int.emod_add_mul_ediv x y; omega
theorem zero_num {w : World} {A : Option Addr} {c : Nat} (hi : IntsIn w A []) (hm : c ≤ maxLen) : NumAt w (.slice A 0 c) 0 := ⟨Int.le_refl _, A, c, by rw [digs_zero]; rfl, by rw [digs_zero]; exact hi, by rw [digs_zero]; exact Nat.zero_le _, hm, by rw [digs_zero]; simp⟩
def ErrPost2 (x : Int) (W : World) (e : Ending) (w' : World) : Prop := ∃ A c B d, e = .returned (.tuple #[.agg #[.slice A 0 c], .agg #[.slice B 0 d], .int .i64 x]) ∧ NumAt w' (.slice A 0 c) 0 ∧ NumAt w' (.slice B 0 d) 0 ∧ Below W.heap.size W w'
theorem err_post2 {r : Int × Int × Int} {x : Int} {W w' : World} {e : Ending} (h : NatPost2 r W e w') (hr : r = (0, 0, x)) : ErrPost2 x W e w' := by
  subst hr
  obtain ⟨A, c, B, d, he, hi, hc, hm, hi2, hc2, hm2, hb⟩ := h
  dsimp only at he hi hc hi2 hc2
  rw [digs_zero] at he hi hi2
  exact ⟨A, c, B, d, he, zero_num hi hm, zero_num hi2 hm2, hb⟩
section
variable {r : Int × Int × Int} {w2 w : World} {A B : Option Addr} {c d z y : Nat}
theorem reg2_nn (hi : IntsIn w A (digs r.1)) (hc : (digs r.1).length ≤ c) (hm : c ≤ maxLen) (hj : IntsIn w B (digs r.2.1)) (hd : (digs r.2.1).length ≤ d) (hn : d ≤ maxLen) (hb : Below w2.heap.size w2 w) :
    RegP2 r w2 (.pointer (some ⟨w.heap.size, 0, none⟩)) (.pointer (some ⟨w.heap.size + 1, 0, none⟩)) (.int .i64 r.2.2) ((w.alloc (.cells #[.slice A (digs r.1).length c] 24)).alloc (.cells #[.slice B (digs r.2.1).length d] 24)) := by
  obtain ⟨⟨x1, x2⟩, x3, x4⟩ := cell_two_new (w := w) (u := .slice A (digs r.1).length c) (v := .slice B (digs r.2.1).length d)
  exact ⟨_, _, A, c, _, B, d, _, rfl, rfl, rfl, rfl, rfl, x2, x4, x1, x3, hi.below two_box, hc, hm, hj.below two_box, hd, hn, btwo hb two_box⟩
theorem reg2_nn' (hi : IntsIn w A (digs r.1)) (hc : (digs r.1).length ≤ c) (hm : c ≤ maxLen) (hj : IntsIn w B (digs r.2.1)) (hd : (digs r.2.1).length ≤ d) (hn : d ≤ maxLen) (hb : Below w2.heap.size w2 w) :
    RegP2 r w2 (.pointer (some ⟨w.heap.size + 1, 0, none⟩)) (.pointer (some ⟨w.heap.size, 0, none⟩)) (.int .i64 r.2.2) ((w.alloc (.cells #[.slice B (digs r.2.1).length d] 24)).alloc (.cells #[.slice A (digs r.1).length c] 24)) := by
  obtain ⟨⟨x1, x2⟩, x3, x4⟩ := cell_two_new (w := w) (u := .slice B (digs r.2.1).length d) (v := .slice A (digs r.1).length c)
  exact ⟨_, _, A, c, _, B, d, _, rfl, rfl, rfl, rfl, rfl, x4, x2, x3, x1, hi.below two_box, hc, hm, hj.below two_box, hd, hn, btwo hb two_box⟩
theorem set_size {w : World} {a : Addr} {v : Value} : (w.setCell a v).heap.size = w.heap.size := by simp [World.setCell]
theorem reg2_on (zk : KeptAt z w) (zs : z < w.heap.size) (zg : w2.heap.size ≤ z) (hi : IntsIn w A (digs r.1)) (hc : (digs r.1).length ≤ c) (hm : c ≤ maxLen) (hj : IntsIn w B (digs r.2.1)) (hd : (digs r.2.1).length ≤ d) (hn : d ≤ maxLen) (hb : Below w2.heap.size w2 w) :
    RegP2 r w2 (.pointer (some ⟨z, 0, none⟩)) (.pointer (some ⟨w.heap.size, 0, none⟩)) (.int .i64 r.2.2) ((w.setCell ⟨z, 0, none⟩ (.slice A (digs r.1).length c)).alloc (.cells #[.slice B (digs r.2.1).length d] 24)) := by
  have h1 : w.heap[z]? = some (.cells #[.slice none 0 0] 24 (0, 0)) := zk
  have e := (LiveN.start (w.setCell ⟨z, 0, none⟩ (.slice A (digs r.1).length c))).new (.slice B (digs r.2.1).length d) 24
  rw [set_size] at e
  obtain ⟨x1, x2⟩ := e.box (.head _)
  have hs : (w.setCell ⟨z, 0, none⟩ (.slice A (digs r.1).length c)).cell? ⟨z, 0, none⟩ = some (.slice A (digs r.1).length c) := World.cell?_setCell_same w _ _ zk.facts.1
  obtain ⟨x3, x4⟩ := cell_old hs (by rw [set_size]; exact zs) (one_new (o := .cells #[.slice B (digs r.2.1).length d] 24))
  exact ⟨_, _, A, c, _, B, d, _, rfl, rfl, rfl, rfl, rfl, x4, x2, x3, x1, (hi.store (x := .slice none 0 0) h1).below one_new, hc, hm, (hj.store (x := .slice none 0 0) h1).below one_new, hd, hn, btwo (bset hb zg) one_new⟩
theorem reg2_no (zk : KeptAt z w) (zs : z < w.heap.size) (zg : w2.heap.size ≤ z) (hi : IntsIn w A (digs r.1)) (hc : (digs r.1).length ≤ c) (hm : c ≤ maxLen) (hj : IntsIn w B (digs r.2.1)) (hd : (digs r.2.1).length ≤ d) (hn : d ≤ maxLen) (hb : Below w2.heap.size w2 w) :
    RegP2 r w2 (.pointer (some ⟨w.heap.size, 0, none⟩)) (.pointer (some ⟨z, 0, none⟩)) (.int .i64 r.2.2) ((w.setCell ⟨z, 0, none⟩ (.slice B (digs r.2.1).length d)).alloc (.cells #[.slice A (digs r.1).length c] 24)) := by
  have h1 : w.heap[z]? = some (.cells #[.slice none 0 0] 24 (0, 0)) := zk
  have e := (LiveN.start (w.setCell ⟨z, 0, none⟩ (.slice B (digs r.2.1).length d))).new (.slice A (digs r.1).length c) 24
  rw [set_size] at e
  obtain ⟨x1, x2⟩ := e.box (.head _)
  have hs : (w.setCell ⟨z, 0, none⟩ (.slice B (digs r.2.1).length d)).cell? ⟨z, 0, none⟩ = some (.slice B (digs r.2.1).length d) := World.cell?_setCell_same w _ _ zk.facts.1
  obtain ⟨x3, x4⟩ := cell_old hs (by rw [set_size]; exact zs) (one_new (o := .cells #[.slice A (digs r.1).length c] 24))
  exact ⟨_, _, A, c, _, B, d, _, rfl, rfl, rfl, rfl, rfl, x2, x4, x1, x3, (hi.store (x := .slice none 0 0) h1).below one_new, hc, hm, (hj.store (x := .slice none 0 0) h1).below one_new, hd, hn, btwo (bset hb zg) one_new⟩
theorem reg2_oo (zk : KeptAt z w) (zs : z < w.heap.size) (zg : w2.heap.size ≤ z) (yk : KeptAt y w) (ys : y < w.heap.size) (yg : w2.heap.size ≤ y) (zy : ¬ z = y) (hi : IntsIn w A (digs r.1)) (hc : (digs r.1).length ≤ c) (hm : c ≤ maxLen) (hj : IntsIn w B (digs r.2.1)) (hd : (digs r.2.1).length ≤ d) (hn : d ≤ maxLen) (hb : Below w2.heap.size w2 w) :
    RegP2 r w2 (.pointer (some ⟨z, 0, none⟩)) (.pointer (some ⟨y, 0, none⟩)) (.int .i64 r.2.2) ((w.setCell ⟨z, 0, none⟩ (.slice A (digs r.1).length c)).setCell ⟨y, 0, none⟩ (.slice B (digs r.2.1).length d)) := by
  have h1 : w.heap[z]? = some (.cells #[.slice none 0 0] 24 (0, 0)) := zk
  have h2 : w.heap[y]? = some (.cells #[.slice none 0 0] 24 (0, 0)) := yk
  have h3 : (w.setCell ⟨z, 0, none⟩ (.slice A (digs r.1).length c)).heap[y]? = some (.cells #[.slice none 0 0] 24 (0, 0)) := by
    rw [Below.heap_setCell _ _ _ _ (by simp; omega)]; exact h2
  have hs : (w.setCell ⟨z, 0, none⟩ (.slice A (digs r.1).length c)).cell? ⟨z, 0, none⟩ = some (.slice A (digs r.1).length c) := World.cell?_setCell_same w _ _ zk.facts.1
  have hy : (w.setCell ⟨z, 0, none⟩ (.slice A (digs r.1).length c)).cell? ⟨y, 0, none⟩ = some (.slice none 0 0) := row_cell h3
  refine ⟨_, _, A, c, _, B, d, _, rfl, rfl, rfl, rfl, rfl, by rw [set_size, set_size]; exact zs, by rw [set_size, set_size]; exact ys, ?_, World.cell?_setCell_same _ _ _ hy, (hi.store (x := .slice none 0 0) h1).store (x := .slice none 0 0) h3, hc, hm, (hj.store (x := .slice none 0 0) h1).store (x := .slice none 0 0) h3, hd, hn, bset (bset hb zg) yg⟩
  rw [World.cell?_setCell_other _ _ _ _ (by first | (simp; done) | (simp; omega))]; exact hs
end
set_option maxHeartbeats 1000000 in
theorem lawdiv_big (L0 : List Int) (n0 c0 : Nat) (A0 : Option Addr) (L1 : List Int) (n1 c1 : Nat) (A1 : Option Addr) (W : World) (hr0 : n0 ≤ 17592186044416) (hr1 : n1 ≤ 17592186044416) (hT : Tab W) (hbig : ¬ n0 + n1 ≤ 160) :
    Calls Tryd.prog 3 #[.agg #[.slice A0 n0 c0], .agg #[.slice A1 n1 c1]] W fun e w' => e = .returned (.bool true) ∧ Below W.heap.size W w' := by
  have HT := Lib.hid (hT.below (box2_below W (.slice A0 n0 c0) (.slice A1 n1 c1)))
  have HF := Lib.hid (few_nom (n := n0) (m := n1) (k := 160) hbig)
  have HS := Lib.hid (small2 hr0 hr1)
  have V0 := Lib.hid (liveN_start2 W (.slice A0 n0 c0) (.slice A1 n1 c1))
  clear hT hbig hr0 hr1
  go_enter Tryd.func3, Tryd.ntmps3
  go_wp2_with fail
  refine (awake_any _ HT.out).mono ?_
  rintro e w1 ⟨rfl, b1⟩
  have V1 := Lib.hid (V0.out.go b1)
  have H1 := Lib.hid b1
  clear b1
  obtain ⟨x1_0, y1_0⟩ := V1.out.box (.tail _ (.head _))
  obtain ⟨x1_1, y1_1⟩ := V1.out.box (.head _)
  go_wp2_with fail
  refine (Few_any [n0, n1] _ 2 2 160 _ rfl (by omega) HS.out (by omega) (nats2 _ _ _ _ _ _ _ _ _ (by simp))).mono ?_
  rintro e w2 ⟨rfl, rfl⟩
  rw [HF.out]
  clear x1_0 y1_0 x1_1 y1_1
  go_wp2_with fail
  refine (awake_any _ ((HT.out.below H1.out).below ((Below.refl _ _).alloc (Nat.le_refl _) _))).mono ?_
  rintro e w3 ⟨rfl, b3⟩
  have V3 := Lib.hid ((V1.out.go ((Below.refl _ _).alloc (Nat.le_refl _) _)).go b3)
  clear b3
  go_wp2_with fail
  go_ret
  exact ⟨rfl, V3.out.2.2⟩
set_option maxHeartbeats 8000000 in
theorem lawdiv_small (L0 : List Int) (n0 c0 : Nat) (A0 : Option Addr) (L1 : List Int) (n1 c1 : Nat) (A1 : Option Addr) (W : World) (hl0 : L0.length = n0) (hc0 : n0 ≤ c0) (hr0 : c0 ≤ 17592186044416) (hi0 : IntsIn W A0 L0) (hl1 : L1.length = n1) (hc1 : n1 ≤ c1) (hr1 : c1 ≤ 17592186044416) (hi1 : IntsIn W A1 L1) (hT : Tab W) (hsm : n0 + n1 ≤ 160) :
    Calls Tryd.prog 3 #[.agg #[.slice A0 n0 c0], .agg #[.slice A1 n1 c1]] W fun e w' => e = .returned (.bool true) ∧ Below W.heap.size W w' := by
  have HT := Lib.hid (hT.below (box2_below W (.slice A0 n0 c0) (.slice A1 n1 c1)))
  have HF := Lib.hid (few_yesm hsm)
  have HS := Lib.hid (small2 (n := n0) (m := n1) (by omega) (by omega))
  have HV0 := Lib.hid (((Live.start (W := W) (.slice A0 n0 c0) (.slice A1 n1 c1)).num (hi0.below (box2_below W (.slice A0 n0 c0) (.slice A1 n1 c1)))).num (hi1.below (box2_below W (.slice A0 n0 c0) (.slice A1 n1 c1))))
  have HL0 := Lib.hid hl0
  have HL1 := Lib.hid hl1
  have m0 : n0 ≤ maxLen := by unfold maxLen; omega
  have m1 : n1 ≤ maxLen := by unfold maxLen; omega
  have g0 : c0 ≤ maxLen := Nat.le_trans hr0 (by unfold maxLen; decide)
  have g1 : c1 ≤ maxLen := Nat.le_trans hr1 (by unfold maxLen; decide)
  have q0 : n0 ≤ 100000 := by omega
  have q1 : n1 ≤ 100000 := by omega
  clear hT hi0 hi1 hl0 hl1 hr0 hr1
  go_enter Tryd.func3, Tryd.ntmps3
  go_wp2_with fail
  refine (awake_any _ HT.out).mono ?_
  rintro e w1 ⟨rfl, hb1⟩
  obtain ⟨ha1, hb1', hs1, hbw1⟩ := keep2 hb1
  have HV1 := Lib.hid (HV0.out.go hb1)
  clear hb1 hbw1
  go_wp2_with fail
  refine (Few_any [n0, n1] _ 2 2 160 _ rfl (by omega) HS.out (by omega) (nats2 _ _ _ _ _ _ _ _ _ (by simp))).mono ?_
  rintro e w2 ⟨rfl, rfl⟩
  rw [HF.out]
  have HV2 := Lib.hid (HV1.out.go (one_new (o := .cells #[.slice A0 n0 c0, .slice A1 n1 c1] 24)))
  have ha2 := (HV2.out.1 _ _ (.tail _ (.head _))).1
  have hb2' := (HV2.out.1 _ _ (.head _)).1
  clear ha1 hb1' hs1
  have I0 := Lib.hid (HV2.out.2.1 A0 L0 (.tail _ (.head _)))
  have I1 := Lib.hid (HV2.out.2.1 A1 L1 (.head _))
  have H0 := Lib.hid (HV2.out.1 _ _ (.tail _ (.head _)))
  have H1 := Lib.hid (HV2.out.1 _ _ (.head _))
  obtain ⟨r, hr⟩ : ∃ r, r = two2 L0 L1 (divR (val L0) (val L1)) := ⟨_, rfl⟩
  have HR := Lib.hid hr
  clear hr
  obtain ⟨wz, hwz⟩ : ∃ wz : World, wz = w1.alloc (.cells #[.slice A0 n0 c0, .slice A1 n1 c1] 24) := ⟨_, rfl⟩
  rw [← hwz] at ha2 hb2' HV2 I0 I1 H0 H1 ⊢
  clear hwz
  go_upto_region 3 with fail
  go_cut [5, 6, 7] (fun s5 s6 s7 wx => RegP2 r wz s5 s6 s7 wx)
  case first =>
    go_region_held3 (fun w' => w'.cell? ⟨W.heap.size, 0, none⟩ = some (.slice A0 n0 c0) ∧ w'.cell? ⟨W.heap.size + 1, 0, none⟩ = some (.slice A1 n1 c1) ∧ Below wz.heap.size wz w')
      (first | (exact ⟨ha2, hb2', (Below.refl _ _).drew⟩) | (exact ⟨ha2, hb2', Below.refl _ _⟩) | (exact keepS H0.out H1.out hb5 (by assumption)) | (exact keepS H0.out H1.out hb6 (by assumption)) | (exact keepS H0.out H1.out hb7 (by assumption)) | (exact keepS H0.out H1.out one_new (by assumption)) | (exact keepT H0.out H1.out zg.1 (by assumption)) | (exact keepT H0.out H1.out zg.2 (by assumption)) | (exact keepT H0.out H1.out yg.1 (by assumption)) | (exact keepT H0.out H1.out yg.2 (by assumption)) | (exact keepB H0.out H1.out (btwo sb7 one_new)) | (exact keepB H0.out H1.out (btwo (btwo sb7 one_new) one_new)) | (exact keepB H0.out H1.out (btwo (bset sb7 zg.1) one_new)) | (exact keepB H0.out H1.out (bset (btwo sb7 one_new) zg.1)) | (exact keepB H0.out H1.out (bset sb7 zg.1)) | (exact keepB H0.out H1.out (btwo (bset sb7 zg.2) one_new)) | (exact keepB H0.out H1.out (bset (btwo sb7 one_new) zg.2)) | (exact keepB H0.out H1.out (bset sb7 zg.2)) | (exact keepB H0.out H1.out (btwo (bset sb7 yg.1) one_new)) | (exact keepB H0.out H1.out (bset (btwo sb7 one_new) yg.1)) | (exact keepB H0.out H1.out (bset sb7 yg.1)) | (exact keepB H0.out H1.out (btwo (bset sb7 yg.2) one_new)) | (exact keepB H0.out H1.out (bset (btwo sb7 one_new) yg.2)) | (exact keepB H0.out H1.out (bset sb7 yg.2)) | (exact keepB H0.out H1.out (bset (bset sb7 zg.1) yg.1)) | (exact keepB H0.out H1.out (bset (bset sb7 yg.1) zg.1)) | (exact keepB H0.out H1.out (bset (bset sb7 zg.1) yg.2)) | (exact keepB H0.out H1.out (bset (bset sb7 yg.2) zg.1)) | (exact keepB H0.out H1.out (bset (bset sb7 zg.2) yg.1)) | (exact keepB H0.out H1.out (bset (bset sb7 yg.1) zg.2)) | (exact keepB H0.out H1.out (bset (bset sb7 zg.2) yg.2)) | (exact keepB H0.out H1.out (bset (bset sb7 yg.2) zg.2)))
      (first
        | (go_at_call 12; (with_reducible refine (copied_any L0 n0 c0 A0 _ HL0.out q0 (intsS I0.out (by assumption))).mono ?_); rintro e w5 ⟨A5, c5, rfl, hi5, hl5, hm5, hb5⟩; have sb5 := belS hb5 (by assumption); (first | (have hj6 := IntsIn.below hi6 hb5) | (have hj6 := IntsIn.below (IntsIn.below hi6 one_new) hb5) | (have hj6 := IntsIn.below (IntsIn.below (IntsIn.below hi6 one_new) one_new) hb5) | skip); (first
            | (have q5 := kept_old yk ys hb5; have q6 := kept_old zk zs hb5; clear yk yc yf ys zk zc zf zs; obtain ⟨yk, yc, yf, ys⟩ := q5; obtain ⟨zk, zc, zf, zs⟩ := q6)
            | (have q6 := kept_old zk zs (btwo one_new hb5); have q5 := kept_new hb5; have yg := leK ((by exact (Below.refl wz.heap.size wz).drew : Below wz.heap.size wz _)); obtain ⟨zy1, zy2, zy3⟩ := apart zs; clear zk zc zf zs; obtain ⟨yk, yc, yf, ys⟩ := q5; obtain ⟨zk, zc, zf, zs⟩ := q6)
            | (have q6 := kept_old zk zs hb5; clear zk zc zf zs; obtain ⟨zk, zc, zf, zs⟩ := q6)
            | (have q5 := kept_new2 hb5; have zg := leK ((by exact (Below.refl wz.heap.size wz).drew : Below wz.heap.size wz _)); have yg := leK ((by exact (Below.refl wz.heap.size wz).drew : Below wz.heap.size wz _)); obtain ⟨⟨zk, zc, zf, zs⟩, yk, yc, yf, ys⟩ := q5; obtain ⟨zy1, zy2, zy3⟩ := apartK zk yk; (try dsimp only [World.drew] at zk zc zf zs zg yk yc yf ys yg))
            | (have q5 := kept_new2 (btwo (Below.refl _ _).drew hb5); have zg := leK ((by exact (Below.refl wz.heap.size wz).drew : Below wz.heap.size wz _)); have yg := leK ((by exact (Below.refl wz.heap.size wz).drew : Below wz.heap.size wz _)); obtain ⟨⟨zk, zc, zf, zs⟩, yk, yc, yf, ys⟩ := q5; obtain ⟨zy1, zy2, zy3⟩ := apartK zk yk; (try dsimp only [World.drew] at zk zc zf zs zg yk yc yf ys yg))
            | (have q5 := kept_new hb5; have zg := leK ((by exact (Below.refl wz.heap.size wz).drew : Below wz.heap.size wz _)); obtain ⟨zk, zc, zf, zs⟩ := q5; (try dsimp only [World.drew] at zk zc zf zs zg))
            | (have q5 := kept_newd hb5; have zg := leK ((by exact (Below.refl wz.heap.size wz).drew : Below wz.heap.size wz _)); obtain ⟨zk, zc, zf, zs⟩ := q5; (try dsimp only [World.drew] at zk zc zf zs zg))
            | skip))
        | (go_at_call 12; (with_reducible refine (copied_any L1 n1 c1 A1 _ HL1.out q1 (intsS I1.out (by assumption))).mono ?_); rintro e w6 ⟨A6, c6, rfl, hi6, hl6, hm6, hb6⟩; have sb6 := belS hb6 (by assumption); (first | (have hj5 := IntsIn.below hi5 hb6) | (have hj5 := IntsIn.below (IntsIn.below hi5 one_new) hb6) | (have hj5 := IntsIn.below (IntsIn.below (IntsIn.below hi5 one_new) one_new) hb6) | skip); (first
            | (have q5 := kept_old yk ys hb6; have q6 := kept_old zk zs hb6; clear yk yc yf ys zk zc zf zs; obtain ⟨yk, yc, yf, ys⟩ := q5; obtain ⟨zk, zc, zf, zs⟩ := q6)
            | (have q6 := kept_old zk zs (btwo one_new hb6); have q5 := kept_new hb6; have yg := leK (sb5); obtain ⟨zy1, zy2, zy3⟩ := apart zs; clear zk zc zf zs; obtain ⟨yk, yc, yf, ys⟩ := q5; obtain ⟨zk, zc, zf, zs⟩ := q6)
            | (have q6 := kept_old zk zs hb6; clear zk zc zf zs; obtain ⟨zk, zc, zf, zs⟩ := q6)
            | (have q5 := kept_new2 hb6; have zg := leK (sb5); have yg := leK (sb5); obtain ⟨⟨zk, zc, zf, zs⟩, yk, yc, yf, ys⟩ := q5; obtain ⟨zy1, zy2, zy3⟩ := apartK zk yk; (try dsimp only [World.drew] at zk zc zf zs zg yk yc yf ys yg))
            | (have q5 := kept_new2 (btwo (Below.refl _ _).drew hb6); have zg := leK (sb5); have yg := leK (sb5); obtain ⟨⟨zk, zc, zf, zs⟩, yk, yc, yf, ys⟩ := q5; obtain ⟨zy1, zy2, zy3⟩ := apartK zk yk; (try dsimp only [World.drew] at zk zc zf zs zg yk yc yf ys yg))
            | (have q5 := kept_new hb6; have zg := leK (sb5); obtain ⟨zk, zc, zf, zs⟩ := q5; (try dsimp only [World.drew] at zk zc zf zs zg))
            | (have q5 := kept_newd hb6; have zg := leK (sb5); obtain ⟨zk, zc, zf, zs⟩ := q5; (try dsimp only [World.drew] at zk zc zf zs zg))
            | skip))
        | (go_at_call 11
           (first
             | (with_reducible refine (div_any L0 L1 n0 c5 n1 c6 A5 A6 _ HL0.out HL1.out hl5 hl6 m0 m1 hi5 hj6).mono ?_)
             | (with_reducible refine (div_any L0 L1 n0 c5 n1 c6 A5 A6 _ HL0.out HL1.out hl5 hl6 m0 m1 hj5 hi6).mono ?_)
             | (with_reducible refine (div_any L0 L1 n0 c5 n1 c6 A5 A6 _ HL0.out HL1.out hl5 hl6 m0 m1 (IntsIn.below hi5 one_new) (IntsIn.below hj6 one_new)).mono ?_)
             | (with_reducible refine (div_any L0 L1 n0 c5 n1 c6 A5 A6 _ HL0.out HL1.out hl5 hl6 m0 m1 (IntsIn.below hj5 one_new) (IntsIn.below hi6 one_new)).mono ?_)
             | (with_reducible refine (div_any L0 L1 n0 c5 n1 c6 A5 A6 _ HL0.out HL1.out hl5 hl6 m0 m1 (IntsIn.below (IntsIn.below hi5 one_new) one_new) (IntsIn.below (IntsIn.below hj6 one_new) one_new)).mono ?_)
             | (with_reducible refine (div_any L0 L1 n0 c5 n1 c6 A5 A6 _ HL0.out HL1.out hl5 hl6 m0 m1 (IntsIn.below (IntsIn.below hj5 one_new) one_new) (IntsIn.below (IntsIn.below hi6 one_new) one_new)).mono ?_))
           rw [← HR.out]; rintro e w7 ⟨A7, c7, B7, d7, rfl, hi7, hl7, hm7, hi8, hl8, hm8, hb7⟩; have sb7 := belS hb7 (by assumption); (first
            | (have q5 := kept_old yk ys hb7; have q6 := kept_old zk zs hb7; clear yk yc yf ys zk zc zf zs; obtain ⟨yk, yc, yf, ys⟩ := q5; obtain ⟨zk, zc, zf, zs⟩ := q6)
            | (have q6 := kept_old zk zs (btwo one_new hb7); have q5 := kept_new hb7; have yg := leK (sb6); obtain ⟨zy1, zy2, zy3⟩ := apart zs; clear zk zc zf zs; obtain ⟨yk, yc, yf, ys⟩ := q5; obtain ⟨zk, zc, zf, zs⟩ := q6)
            | (have q6 := kept_old zk zs hb7; clear zk zc zf zs; obtain ⟨zk, zc, zf, zs⟩ := q6)
            | (have q5 := kept_new2 hb7; have zg := leK (sb6); have yg := leK (sb6); obtain ⟨⟨zk, zc, zf, zs⟩, yk, yc, yf, ys⟩ := q5; obtain ⟨zy1, zy2, zy3⟩ := apartK zk yk; (try dsimp only [World.drew] at zk zc zf zs zg yk yc yf ys yg))
            | (have q5 := kept_new2 (btwo (Below.refl _ _).drew hb7); have zg := leK (sb6); have yg := leK (sb6); obtain ⟨⟨zk, zc, zf, zs⟩, yk, yc, yf, ys⟩ := q5; obtain ⟨zy1, zy2, zy3⟩ := apartK zk yk; (try dsimp only [World.drew] at zk zc zf zs zg yk yc yf ys yg))
            | (have q5 := kept_new hb7; have zg := leK (sb6); obtain ⟨zk, zc, zf, zs⟩ := q5; (try dsimp only [World.drew] at zk zc zf zs zg))
            | (have q5 := kept_newd hb7; have zg := leK (sb6); obtain ⟨zk, zc, zf, zs⟩ := q5; (try dsimp only [World.drew] at zk zc zf zs zg))
            | skip)))
    all_goals (go_wp2_with fail; go_meet)
    all_goals first
      | (exact reg2_oo zk zs zg.1 yk ys yg.1 zy1 hi7 hl7 hm7 hi8 hl8 hm8 sb7)
      | (exact reg2_oo zk zs zg.1 yk ys yg.2 zy1 hi7 hl7 hm7 hi8 hl8 hm8 sb7)
      | (exact reg2_oo yk ys yg.1 zk zs zg.1 zy2 hi7 hl7 hm7 hi8 hl8 hm8 sb7)
      | (exact reg2_oo yk ys yg.2 zk zs zg.1 zy2 hi7 hl7 hm7 hi8 hl8 hm8 sb7)
      | (exact reg2_on zk zs zg.1 hi7 hl7 hm7 hi8 hl8 hm8 sb7)
      | (exact reg2_no zk zs zg.1 hi7 hl7 hm7 hi8 hl8 hm8 sb7)
      | (exact reg2_nn hi7 hl7 hm7 hi8 hl8 hm8 sb7)
      | (exact reg2_nn' hi7 hl7 hm7 hi8 hl8 hm8 sb7)
  case rest =>
    have B0 := Lib.hid (show LiveN W [(W.heap.size + 1, .slice A1 n1 c1), (W.heap.size, .slice A0 n0 c0)] [] wz from ⟨HV2.out.1, fun v x hm => by simp at hm, HV2.out.2.2⟩)
    clear ha2 hb2'
    by_cases hv : (vldB L0 = true ∧ vldB L1 = true) ∧ 0 < val L1
    · have hr : r = (val L0 / val L1, val L0 % val L1, 0) := by rw [HR.out, two2_ok _ hv.1.1 hv.1.2]; unfold divR; rw [if_neg (by omega)]
      clear HR
      have NX := Lib.hid (num_mk HL0.out hc0 g0 I0.out hv.1.1)
      have NY := Lib.hid (num_mk HL1.out hc1 g1 I1.out hv.1.2)
      have BX := (vldB_true hv.1.1).1
      have PX := (vldB_true hv.1.1).2.2.2.1
      have PY := hv.2
      have EX := (vldB_true hv.1.1).2.2.1
      obtain ⟨x, hx⟩ : ∃ x, x = val L0 := ⟨_, rfl⟩
      obtain ⟨y, hy⟩ : ∃ x, x = val L1 := ⟨_, rfl⟩
      rw [← hx] at NX PX hr EX
      rw [← hy] at NY PY hr
      rw [EX] at BX
      have HBX := Lib.hid BX
      clear hx hy hv BX EX
      subst hr
      obtain ⟨gq, gr, Aq, cq, kq, Ar, cr, kr, rfl, rfl, rfl, hn5, hm5, hg5, hh5, hcl5, hcl6, hi5, hl5, hmm5, hi6, hl6, hm6, hb5⟩ := hcut
      dsimp only at hn5 hm5 hi5 hi6 ⊢
      have HQ1 := Lib.hid (Int.ediv_nonneg PX (Int.le_of_lt PY))
      have HR1 := Lib.hid (Int.emod_nonneg x (show y ≠ 0 by omega))
      have HLT := Lib.hid (sgn_lt (a := x % y - y) (by have := Int.emod_lt_of_pos x PY; omega))
      have V3 := Lib.hid (((((((B0.out.num NX.out).num NY.out).go hb5).num (show NumAt wc (.slice Aq kq cq) (x / y) from ⟨HQ1.out, Aq, cq, by rw [hn5], hi5, by rw [← hn5]; exact hl5, hmm5, len_div PX PY HBX.out⟩)).num (show NumAt wc (.slice Ar kr cr) (x % y) from ⟨HR1.out, Ar, cr, by rw [hm5], hi6, by rw [← hm5]; exact hl6, hm6, len_rem PX PY (by have := NY.out.slice; omega)⟩)).boxed hcl5 hg5).boxed hcl6 hh5)
      clear hn5 hm5 hi5 hl5 hmm5 hi6 hl6 hm6 hb5
      obtain ⟨x3_a, y3_a⟩ := V3.out.box (.tail _ (.tail _ (.tail _ (.head _))))
      obtain ⟨x3_b, y3_b⟩ := V3.out.box (.tail _ (.tail _ (.head _)))
      go_wp2_with fail
      refine (rdiv_num n0 c0 n1 c1 _ _ A0 A1 _ (V3.out.at (.tail _ (.tail _ (.tail _ (.head _))))) (V3.out.at (.tail _ (.tail _ (.head _)))) PY).mono ?_
      rintro e w4 ⟨Au, cu, ku, Av, cv, kv, rfl, n4, m4, b4⟩
      clear x3_a y3_a x3_b y3_b
      have U4 := Lib.hid (((V3.out.go b4).num n4).num m4)
      clear n4 m4 b4
      obtain ⟨x4_q, y4_q⟩ := U4.out.box (.tail _ (.head _))
      have V4 := Lib.hid (U4.out.new2 (.slice Au ku cu) (.slice Av kv cv) 24)
      go_wp2_with fail
      refine (same_num kq cq ku cu _ _ Aq Au _ (V4.out.at (.tail _ (.tail _ (.tail _ (.head _))))) (V4.out.at (.tail _ (.head _))) rfl).mono ?_
      rintro e w5 ⟨rfl, b5⟩
      clear x4_q y4_q
      have V5 := Lib.hid (V4.out.go b5)
      clear b5
      obtain ⟨x5_r, y5_r⟩ := V5.out.box (.tail _ (.tail _ (.head _)))
      obtain ⟨x5_u, y5_u⟩ := V5.out.box (.tail _ (.head _))
      obtain ⟨x5_v, y5_v⟩ := V5.out.box (.head _)
      go_wp2_with fail
      refine (same_num kr cr kv cv _ _ Ar Av _ (V5.out.at (.tail _ (.tail _ (.head _)))) (V5.out.at (.head _)) rfl).mono ?_
      rintro e w6 ⟨rfl, b6⟩
      clear x5_r y5_r x5_u y5_u x5_v y5_v
      have V6 := Lib.hid (V5.out.go b6)
      clear b6
      obtain ⟨x6_q, y6_q⟩ := V6.out.box (.tail _ (.tail _ (.tail _ (.head _))))
      obtain ⟨x6_b, y6_b⟩ := V6.out.box (.tail _ (.tail _ (.tail _ (.tail _ (.head _)))))
      go_wp2_with fail
      refine (mul_num kq cq n1 c1 _ _ Aq A1 _ (V6.out.at (.tail _ (.tail _ (.tail _ (.head _))))) (V6.out.at (.tail _ (.tail _ (.tail _ (.tail _ (.head _)))))) (len200 (Int.ediv_mul_le x (by omega)) HBX.out)).mono ?_
      rintro e w7 ⟨Ap, cp, kp, rfl, n7, b7⟩
      clear x6_q y6_q x6_b y6_b
      have U7 := Lib.hid ((V6.out.go b7).num n7)
      clear n7 b7
      obtain ⟨x7_r, y7_r⟩ := U7.out.box (.tail _ (.tail _ (.head _)))
      have V7 := Lib.hid (U7.out.new (.slice Ap kp cp) 24)
      go_wp2_with fail
      refine (add_num kp cp kr cr _ _ Ap Ar _ (V7.out.at (.head _)) (V7.out.at (.tail _ (.tail _ (.tail _ (.head _))))) (by rw [div_back]; exact HBX.out)).mono ?_
      rintro e w8 ⟨As, cs, ks, rfl, n8, b8⟩
      clear x7_r y7_r
      have U8 := Lib.hid ((V7.out.go b8).num n8)
      clear n8 b8
      obtain ⟨x8_a, y8_a⟩ := U8.out.box (.tail _ (.tail _ (.tail _ (.tail _ (.tail _ (.tail _ (.head _)))))))
      have V8 := Lib.hid (U8.out.new (.slice As ks cs) 24)
      go_wp2_with fail
      refine (same_num ks cs n0 c0 _ _ As A0 _ (V8.out.at (.head _)) (V8.out.at (.tail _ (.tail _ (.tail _ (.tail _ (.tail _ (.tail _ (.tail _ (.head _))))))))) (div_back x y)).mono ?_
      rintro e w9 ⟨rfl, b9⟩
      clear x8_a y8_a
      have V9 := Lib.hid (V8.out.go b9)
      clear b9
      obtain ⟨x9_r, y9_r⟩ := V9.out.box (.tail _ (.tail _ (.tail _ (.tail _ (.head _)))))
      obtain ⟨x9_b, y9_b⟩ := V9.out.box (.tail _ (.tail _ (.tail _ (.tail _ (.tail _ (.tail _ (.head _)))))))
      go_wp2_with fail
      refine (cmp_num kr cr n1 c1 _ _ Ar A1 _ (V9.out.at (.tail _ (.tail _ (.tail _ (.tail _ (.head _)))))) (V9.out.at (.tail _ (.tail _ (.tail _ (.tail _ (.tail _ (.tail _ (.head _))))))))).mono ?_
      rintro e w10 ⟨rfl, b10⟩
      clear x9_r y9_r x9_b y9_b
      have V10 := Lib.hid (V9.out.go b10)
      clear b10
      rw [HLT.out]
      go_wp2_with fail
      go_ret
      exact ⟨rfl, V10.out.2.2⟩
    · obtain ⟨er, hr, her⟩ : ∃ er : Int, r = (0, 0, er) ∧ (er = 1 ∨ er = 6) := by
        rw [HR.out]
        by_cases h1 : vldB L0 = true
        · by_cases h2 : vldB L1 = true
          · rw [two2_ok _ h1 h2]; unfold divR
            have := (vldB_true h2).2.2.2.1
            rw [if_pos (by
              by_cases c : 0 < val L1
              · exact absurd ⟨⟨h1, h2⟩, c⟩ hv
              · omega)]
            exact ⟨6, rfl, .inr rfl⟩
          · exact ⟨1, two2_no2 _ (by simpa using h2), .inl rfl⟩
        · exact ⟨1, two2_no1 _ (by simpa using h1), .inl rfl⟩
      clear hv
      subst hr
      obtain ⟨gq, gr, Aq, cq, kq, Ar, cr, kr, rfl, rfl, rfl, hn5, hm5, hg5, hh5, hcl5, hcl6, hi5, hl5, hmm5, hi6, hl6, hm6, hb5⟩ := hcut
      dsimp only at hn5 hm5 hi5 hi6 ⊢
      rw [digs_zero] at hn5 hi5 hm5 hi6
      obtain rfl : kq = 0 := hn5
      obtain rfl : kr = 0 := hm5
      have V3 := Lib.hid (((((B0.out.go hb5).num (zero_num hi5 hmm5)).num (zero_num hi6 hm6)).boxed hcl5 hg5).boxed hcl6 hh5)
      have HB5 := Lib.hid hb5
      clear hi5 hl5 hmm5 hi6 hl6 hm6 hb5
      obtain ⟨x3_a, y3_a⟩ := V3.out.box (.tail _ (.tail _ (.tail _ (.head _))))
      obtain ⟨x3_b, y3_b⟩ := V3.out.box (.tail _ (.tail _ (.head _)))
      rcases her with rfl | rfl
      all_goals
        go_wp2_with fail
        refine ((rdiv_any L0 L1 n0 c0 n1 c1 A0 A1 _ HL0.out HL1.out hc0 hc1 m0 m1 (I0.out.below HB5.out) (I1.out.below HB5.out)).mono fun e w' h => err_post2 h HR.out.symm).mono ?_
        rintro e w4 ⟨Au, cu, Av, cv, rfl, n4, m4, b4⟩
        clear x3_a y3_a x3_b y3_b
        have U4 := Lib.hid (((V3.out.go b4).num n4).num m4)
        clear n4 m4 b4
        obtain ⟨x4_q, y4_q⟩ := U4.out.box (.tail _ (.head _))
        have V4 := Lib.hid (U4.out.new2 (.slice Au 0 cu) (.slice Av 0 cv) 24)
        go_wp2_with fail
        refine (same_num 0 cq 0 cu _ _ Aq Au _ (V4.out.at (.tail _ (.tail _ (.tail _ (.head _))))) (V4.out.at (.tail _ (.head _))) rfl).mono ?_
        rintro e w5 ⟨rfl, b5⟩
        clear x4_q y4_q
        have V5 := Lib.hid (V4.out.go b5)
        clear b5
        obtain ⟨x5_r, y5_r⟩ := V5.out.box (.tail _ (.tail _ (.head _)))
        obtain ⟨x5_u, y5_u⟩ := V5.out.box (.tail _ (.head _))
        obtain ⟨x5_v, y5_v⟩ := V5.out.box (.head _)
        go_wp2_with fail
        refine (same_num 0 cr 0 cv _ _ Ar Av _ (V5.out.at (.tail _ (.tail _ (.head _)))) (V5.out.at (.head _)) rfl).mono ?_
        rintro e w6 ⟨rfl, b6⟩
        clear x5_r y5_r x5_u y5_u x5_v y5_v
        have V6 := Lib.hid (V5.out.go b6)
        clear b6
        obtain ⟨x6_q, y6_q⟩ := V6.out.box (.tail _ (.tail _ (.tail _ (.head _))))
        obtain ⟨x6_u, y6_u⟩ := V6.out.box (.tail _ (.head _))
        go_wp2_with fail
        refine (same_num 0 cq 0 cu _ _ Aq Au _ (V6.out.at (.tail _ (.tail _ (.tail _ (.head _))))) (V6.out.at (.tail _ (.head _))) rfl).mono ?_
        rintro e w7 ⟨rfl, b7⟩
        clear x6_q y6_q x6_u y6_u
        have V7 := Lib.hid (V6.out.go b7)
        clear b7
        obtain ⟨x7_r, y7_r⟩ := V7.out.box (.tail _ (.tail _ (.head _)))
        obtain ⟨x7_u, y7_u⟩ := V7.out.box (.tail _ (.head _))
        obtain ⟨x7_v, y7_v⟩ := V7.out.box (.head _)
        go_wp2_with fail
        refine (same_num 0 cr 0 cv _ _ Ar Av _ (V7.out.at (.tail _ (.tail _ (.head _)))) (V7.out.at (.head _)) rfl).mono ?_
        rintro e w8 ⟨rfl, b8⟩
        clear x7_r y7_r x7_u y7_u x7_v y7_v
        have V8 := Lib.hid (V7.out.go b8)
        clear b8
        go_wp2_with fail
        go_ret
        exact ⟨rfl, V8.out.2.2⟩
theorem lawdiv_any (L0 : List Int) (n0 c0 : Nat) (A0 : Option Addr) (L1 : List Int) (n1 c1 : Nat) (A1 : Option Addr) (W : World) (hl0 : L0.length = n0) (hc0 : n0 ≤ c0) (hr0 : c0 ≤ 17592186044416) (hi0 : IntsIn W A0 L0) (hl1 : L1.length = n1) (hc1 : n1 ≤ c1) (hr1 : c1 ≤ 17592186044416) (hi1 : IntsIn W A1 L1) (hT : Tab W) :
    Calls Tryd.prog 3 #[.agg #[.slice A0 n0 c0], .agg #[.slice A1 n1 c1]] W fun e w' => e = .returned (.bool true) ∧ Below W.heap.size W w' := by
  by_cases h : n0 + n1 ≤ 160
  · exact lawdiv_small L0 n0 c0 A0 L1 n1 c1 A1 W hl0 hc0 hr0 hi0 hl1 hc1 hr1 hi1 hT h
  · exact lawdiv_big L0 n0 c0 A0 L1 n1 c1 A1 W (Nat.le_trans hc0 hr0) (Nat.le_trans hc1 hr1) hT h
end Go.Proofs.YtjmndidbhickdaaDoor
