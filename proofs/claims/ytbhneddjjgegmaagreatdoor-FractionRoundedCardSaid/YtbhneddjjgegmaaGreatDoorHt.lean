/- The decimal digits of a fraction, as the reference writes them. -/
import Derived.Test.YtbhneddjjgegmaaGreatDoorHs
import Derived.Test.YtbhneddjjgegmaaGreatDoorHE
import Derived.Deep.DeepCutAuto
import Derived.Deep.QuietTactic
import Derived.BigQuiet
import Derived.Deep.CutBlock
import Derived.IntWalk
namespace Go.Proofs.YtbhneddjjgegmaaGreatDoor
open Go.RowKit
set_option linter.unusedVariables false
set_option maxRecDepth 100000

theorem len_more {x y : Int} (h : x ≤ y) (h1 : 200 < (digs x).length) : 200 < (digs y).length := by
  by_cases c : (digs y).length ≤ 200
  · have := len200 h c; omega
  · omega
theorem ten_mono {p : Int} (hp : 0 ≤ p) {j k : Nat} (h : j ≤ k) : p * (2 * 10 ^ j) ≤ p * (2 * 10 ^ k) := by
  refine Int.mul_le_mul_of_nonneg_left ?_ hp
  have h1 : (10 : Nat) ^ j ≤ 10 ^ k := Nat.pow_le_pow_right (by omega) h
  have h2 : ((10 ^ j : Nat) : Int) ≤ ((10 ^ k : Nat) : Int) := Int.ofNat_le.2 h1
  have e1 : ((10 ^ j : Nat) : Int) = (10 : Int) ^ j := by simp
  have e2 : ((10 ^ k : Nat) : Int) = (10 : Int) ^ k := by simp
  rw [e1, e2] at h2
  omega
theorem ten_succ (p : Int) (j : Nat) : p * (2 * 10 ^ j) * 10 = p * (2 * 10 ^ (j + 1)) := by
  rw [Int.pow_succ, Int.mul_assoc, Int.mul_assoc]
/-- A box whose number is replaced, and what else lives. -/
def DBox (W : World) (g : Nat) (x : Int) (ln : List (Value × Int)) (w : World) : Prop :=
  ∃ A k c, BoxesW W 24 [(g, .slice A k c)] ((.slice A k c, x) :: ln) w
theorem dbox_new {W w : World} {A : Option Addr} {k c : Nat} {x : Int} {ln : List (Value × Int)} (h : BoxesW W 24 [] ((.slice A k c, x) :: ln) w) : DBox W w.heap.size x ln (w.alloc (.cells #[.slice A k c] 24)) :=
  ⟨A, k, c, h.new A k c⟩
theorem dbox_set {W w : World} {g : Nat} {v : Value} {A : Option Addr} {k c : Nat} {x : Int} {ln ln' : List (Value × Int)} (h : BoxesW W 24 [(g, v)] ln w) (hx : NumAt w (.slice A k c) x) (hl : ∀ y ∈ ln', y ∈ ln) : DBox W g x ln' (w.setCell ⟨g, 0, none⟩ (.slice A k c)) :=
  ⟨A, k, c, ((h.num hx).put (.head _) A k c [(g, .slice A k c)] (List.forall_mem_cons.2 ⟨.inl rfl, fun _ h => by simp at h⟩)).sub (fun _ h => h) (fun y hy => by
    rcases List.mem_cons.1 hy with rfl | e
    · exact .head _
    · exact .tail _ (hl y e))⟩
theorem DBox.go {W w w' : World} {g : Nat} {x : Int} {ln : List (Value × Int)} (h : DBox W g x ln w) (hb : Below w.heap.size w w') : DBox W g x ln w' := by
  obtain ⟨A, k, c, h⟩ := h; exact ⟨A, k, c, h.go hb⟩
theorem skip2 {α : Type} {a b : α} {l : List α} : ∀ y ∈ a :: l, y ∈ a :: b :: l := fun y hy => by
  rcases List.mem_cons.1 hy with rfl | e
  · exact .head _
  · exact .tail _ (.tail _ e)
def strLen : Value → Nat
  | .string b => b.size
  | _ => 0
theorem one_of3 {α : Type} {a b c : α} {l : List α} : ∀ y ∈ [c], y ∈ a :: b :: c :: l := fun y hy => by
  rw [List.mem_singleton.1 hy]
  exact .tail _ (.tail _ (.head _))
theorem two_of3 {α : Type} {a b c : α} {l : List α} : ∀ y ∈ [a, c], y ∈ a :: b :: c :: l := fun y hy => by
  rcases List.mem_cons.1 hy with rfl | e
  · exact .head _
  · rw [List.mem_singleton.1 e]; exact .tail _ (.tail _ (.head _))
theorem pad_step (i : Nat) (b : ByteArray) : (⟨#[48]⟩ : ByteArray) ++ (zeros i ++ b) = zeros (i + 1) ++ b := by
  apply ByteArray.ext
  apply Array.toList_inj.1
  simp [zeros, List.replicate_succ]
set_option maxHeartbeats 16000000 in
theorem rdec_num (k : Nat) (s : Bool) (n c m d : Nat) (p q : Int) (A B : Option Addr) (W : World) (hk : k ≤ 20) (hx : NumAt W (.slice A n c) p) (hy : NumAt W (.slice B m d) q) (hF : 0 < q ∧ gcdI p q = 1 ∧ (s = true → 0 < p)) (L M : List Int) (hv : vldF s L M = true) (hn : L.length = n) (hm : M.length = m) (hnc : n ≤ c) (hmd : m ≤ d) (hc63 : c ≤ maxLen) (hd63 : d ≤ maxLen) (hA : IntsIn W A L) (hB : IntsIn W B M) :
    Calls Tryz.prog 31 #[.agg #[.bool s, .slice A n c, .slice B m d], .int .i64 (k : Int)] W (DecP (decV' k s (rndR (2 * 10 ^ k) p q)) W) := by
  have p0 := hx.1
  obtain ⟨E0, hE0⟩ : ∃ E0 : World, E0 = W.alloc (.cells #[.bool s, .slice A n c, .slice B m d] 26) := ⟨_, rfl⟩
  have VW := (((LiveA.start W).num hy).num hx).newF (.bool s) (.slice A n c) (.slice B m d) 26
  rw [← hE0] at VW
  have HWE := Lib.hid VW.2.2
  have HV0 := Lib.hid (rfvalid_is s L M n c m d A B E0 hn hm hnc hmd hc63 hd63 (hA.below VW.2.2) (hB.below VW.2.2) hv)
  obtain ⟨f2, gf⟩ := VW.box (.head _)
  obtain ⟨f1, _⟩ := VW.box (.tail _ (.head _))
  obtain ⟨f0, _⟩ := VW.box (.tail _ (.tail _ (.head _)))
  have gf : W.heap.size < E0.heap.size := gf
  have HFC := Lib.hid (fun (w : World) (b : Below E0.heap.size E0 w) => show w.cell? ⟨W.heap.size, 0, none⟩ = some (.bool s) ∧ w.cell? ⟨W.heap.size, 1, none⟩ = some (.slice A n c) ∧ w.cell? ⟨W.heap.size, 2, none⟩ = some (.slice B m d) ∧ W.heap.size < w.heap.size from ⟨(b.cell (p := ⟨W.heap.size, 0, none⟩) gf).trans f0, (b.cell (p := ⟨W.heap.size, 1, none⟩) gf).trans f1, (b.cell (p := ⟨W.heap.size, 2, none⟩) gf).trans f2, Nat.lt_of_lt_of_le gf b.size⟩)
  have HB0 := Lib.hid (show BoxesW E0 24 [] [(.slice A n c, p), (.slice B m d, q)] E0 from ⟨fun _ _ h => by simp at h, VW.2.1, Below.refl _ _⟩)
  have HQ := Lib.hid hF.1
  have k0 : decide ((k : Int) < 0) = false := decide_eq_false (by omega)
  have k1 : decide ((20 : Int) < (k : Int)) = false := decide_eq_false (by omega)
  have HE0 := Lib.hid hE0
  clear VW hx hy hn hm hA hB hF hE0 hv
  obtain ⟨⟨u, eu⟩, hu⟩ : ∃ r, r = rndR (2 * 10 ^ k) p q := ⟨_, rfl⟩
  have HU := Lib.hid hu
  rw [← hu]
  clear hu
  go_enter Tryz.func31, Tryz.ntmps31
  go_upto_region 1 with fail
  rw [← HE0.out]
  clear HE0
  go_wp2_with fail
  refine HV0.out.mono ?_
  rintro e w1 ⟨rfl, b1⟩
  have V1 := Lib.hid (HB0.out.go b1)
  clear b1 f0 f1 f2
  go_wp2_with fail
  obtain ⟨f0, f1, f2, f3⟩ := HFC.out _ V1.out.2.2
  go_cut [6, 7] (fun s6 s7 wx => ∃ g : Nat, ∃ y z : Int, s6 = .pointer (some ⟨g, 0, none⟩) ∧ s7 = .int .i64 z ∧ (y, z) = lim (p * 2) ∧ DBox E0 g y [(.slice A n c, p), (.slice B m d, q)] wx)
  case first =>
    go_region_with (first | (go_at_call 58; refine (rSmall_num 2 _ (by omega) (by omega)).mono ?_; rintro e w8 ⟨Ao, co, ko, rfl, no8, b8⟩; (first | (have V8 := Lib.hid ((V1.out.go b8).num no8)) | (have V8 := Lib.hid (((V1.out.go (Below.refl _ _).drew).go b8).num no8)) | (have V8 := Lib.hid (((V1.out.new none 0 0).go b8).num no8)) | (have V8 := Lib.hid ((((V1.out.new none 0 0).go (Below.refl _ _).drew).go b8).num no8))); obtain ⟨f0, f1, f2, f3⟩ := HFC.out _ V8.out.2.2; clear b8 no8) | (go_at_call 41; refine (rmul_r n c ko co p 2 A Ao _ ?_ ?_).mono ?_; (first | exact V8.out.at (.tail _ (.head _)) | exact (V8.out.go (Below.refl _ _).drew).at (.tail _ (.head _)) | exact (V8.out.new none 0 0).at (.tail _ (.head _)) | exact ((V8.out.new none 0 0).go (Below.refl _ _).drew).at (.tail _ (.head _))); (first | exact V8.out.at (.head _) | exact (V8.out.go (Below.refl _ _).drew).at (.head _) | exact (V8.out.new none 0 0).at (.head _) | exact ((V8.out.new none 0 0).go (Below.refl _ _).drew).at (.head _)); rintro e w9 ⟨A9, c9, k9, rfl, n9, b9⟩; (first | (have V9 := Lib.hid ((V8.out.go b9).num n9)) | (have V9 := Lib.hid (((V8.out.go (Below.refl _ _).drew).go b9).num n9)) | (have V9 := Lib.hid (((V8.out.new none 0 0).go b9).num n9)) | (have V9 := Lib.hid ((((V8.out.new none 0 0).go (Below.refl _ _).drew).go b9).num n9))); (first | (obtain ⟨g0, g1, g2⟩ := V9.out.box (.head _)) | skip); clear b9 n9))
    all_goals (go_wp2_with fail; go_meet)
    all_goals exact ⟨_, (lim (p * 2)).1, (lim (p * 2)).2, rfl, rfl, rfl, by first | exact dbox_set V9.out (V9.out.at (.head _)) (fun y hy => .tail _ (.tail _ hy)) | exact (dbox_set V9.out (V9.out.at (.head _)) (fun y hy => .tail _ (.tail _ hy))).go (Below.refl _ _).drew | exact dbox_new (V9.out.sub (fun _ h => h) skip2) | exact (dbox_new (V9.out.sub (fun _ h => h) skip2)).go (Below.refl _ _).drew⟩
  case rest =>
    obtain ⟨g, y0, z0, rfl, rfl, hyz, hD⟩ := hcut
    have HD0 := Lib.hid hD
    have HYZ := Lib.hid (show (y0, z0) = lim (p * (2 * 10 ^ 0)) by rw [hyz, Int.pow_zero, Int.mul_one])
    clear hyz hD f0 f1 f2 f3 V1
    go_upto_block 0 with fail
    go_cut [7] (fun s7 wx => ∃ y z : Int, s7 = .int .i64 z ∧ (y, z) = lim (p * (2 * 10 ^ k)) ∧ DBox E0 g y [(.slice A n c, p), (.slice B m d, q)] wx)
    case first =>
      go_wp2_with fail
      go_loopw [7, 8] (fun ev iv wr => ∃ (j : Nat) (y z : Int), ev = .int .i64 z ∧ iv = .int .i64 (j : Int) ∧ j ≤ k ∧ (y, z) = lim (p * (2 * 10 ^ j)) ∧ DBox E0 g y [(.slice A n c, p), (.slice B m d, q)] wr) (fun _ iv _ => k - (intOf iv).toNat)
      case atStart => exact ⟨0, y0, z0, rfl, rfl, Nat.zero_le _, HYZ.out, HD0.out⟩
      case round =>
        obtain ⟨j, y, z, rfl, rfl, hj, hl, hD⟩ := hrel
        have HL := Lib.hid hl
        obtain ⟨An, kn, cn, hD⟩ := hD
        have VR := Lib.hid hD
        clear hl hD
        by_cases hjk : j < k
        · by_cases hz : z = 0
          · subst hz
            have ey : y = p * (2 * 10 ^ j) ∧ ¬ 200 < (digs (p * (2 * 10 ^ j))).length := by
              have h := HL.out
              unfold lim at h
              split at h
              · exact absurd (congrArg (fun r => r.2) h) (by show ¬ (0 : Int) = 3; omega)
              · rename_i hc; exact ⟨congrArg (fun r => r.1) h, hc⟩
            have HT := Lib.hid (show y * 10 = p * (2 * 10 ^ (j + 1)) by rw [ey.1, ten_succ])
            clear ey HL
            have e1 : IntKind.i64.wrap ((j : Int) + 1) = ((j + 1 : Nat) : Int) := by rw [IntWalk.i64_in _ (by omega)]; rfl
            obtain ⟨x0, x1, x2⟩ := VR.out.box (.head _)
            have hjd : decide ((j : Int) < (k : Int)) = true := decide_eq_true (by omega)
            go_upto_block 1 with fail
            go_cut [7] (fun s7 wx => ∃ y z : Int, s7 = .int .i64 z ∧ (y, z) = lim (p * (2 * 10 ^ (j + 1))) ∧ DBox E0 g y [(.slice A n c, p), (.slice B m d, q)] wx)
            case first =>
              clear e1
              go_wp2_with fail
              go_region_with (first | (go_at_call 58; refine (rSmall_num 10 _ (by omega) (by omega)).mono ?_; rintro e w8 ⟨Ao, co, ko, rfl, no8, b8⟩; (first | (have V8 := Lib.hid ((VR.out.go b8).num no8)) | (have V8 := Lib.hid (((VR.out.go (Below.refl _ _).drew).go b8).num no8)) | (have V8 := Lib.hid (((VR.out.new none 0 0).go b8).num no8)) | (have V8 := Lib.hid ((((VR.out.new none 0 0).go (Below.refl _ _).drew).go b8).num no8))); obtain ⟨x0, x1, x2⟩ := V8.out.box (.head _); clear b8 no8) | (go_at_call 41; refine (rmul_r kn cn ko co y 10 An Ao _ ?_ ?_).mono ?_; (first | exact V8.out.at (.tail _ (.head _)) | exact (V8.out.go (Below.refl _ _).drew).at (.tail _ (.head _)) | exact (V8.out.new none 0 0).at (.tail _ (.head _)) | exact ((V8.out.new none 0 0).go (Below.refl _ _).drew).at (.tail _ (.head _))); (first | exact V8.out.at (.head _) | exact (V8.out.go (Below.refl _ _).drew).at (.head _) | exact (V8.out.new none 0 0).at (.head _) | exact ((V8.out.new none 0 0).go (Below.refl _ _).drew).at (.head _)); rintro e w9 ⟨A9, c9, k9, rfl, n9, b9⟩; (first | (have V9 := Lib.hid ((V8.out.go b9).num n9)) | (have V9 := Lib.hid (((V8.out.go (Below.refl _ _).drew).go b9).num n9)) | (have V9 := Lib.hid (((V8.out.new none 0 0).go b9).num n9)) | (have V9 := Lib.hid ((((V8.out.new none 0 0).go (Below.refl _ _).drew).go b9).num n9))); (first | (obtain ⟨g0, g1, g2⟩ := V9.out.box (.head _)) | skip); clear b9 n9))
              all_goals (go_wp2_with fail; go_meet)
              all_goals exact ⟨(lim (y * 10)).1, (lim (y * 10)).2, rfl, by rw [HT.out], by first | exact dbox_set V9.out (V9.out.at (.head _)) (fun y hy => .tail _ (.tail _ (.tail _ hy))) | exact (dbox_set V9.out (V9.out.at (.head _)) (fun y hy => .tail _ (.tail _ (.tail _ hy)))).go (Below.refl _ _).drew⟩
            case rest =>
              obtain ⟨y2, z2, rfl, hl2, hD2⟩ := hcut
              have HL2 := Lib.hid hl2
              have HD2 := Lib.hid hD2
              clear hl2 hD2 x0 x1 x2
              go_wp2_with fail
              go_roundw
              case rel => exact ⟨j + 1, y2, z2, rfl, by go_num, by omega, HL2.out, HD2.out⟩
              case measure => simp [intOf]; omega
          · have hzb : (z == 0) = false := by simpa using hz
            have hjd : decide ((j : Int) < (k : Int)) = true := decide_eq_true (by omega)
            have ey : y = 0 ∧ z = 3 ∧ 200 < (digs (p * (2 * 10 ^ j))).length := by
              have h := HL.out
              unfold lim at h
              split at h
              · rename_i hc; exact ⟨congrArg (fun r => r.1) h, congrArg (fun r => r.2) h, hc⟩
              · exact absurd (congrArg (fun r => r.2) h) hz
            have HK := Lib.hid (show (y, z) = lim (p * (2 * 10 ^ k)) by
              unfold lim
              rw [if_pos (len_more (ten_mono p0 (Nat.le_of_lt hjk)) ey.2.2), ey.1, ey.2.1])
            clear hz ey HL
            go_wp2_with fail
            go_meet
            exact ⟨y, z, rfl, HK.out, An, kn, cn, VR.out⟩
        · obtain rfl : j = k := by omega
          have hjd : decide ((j : Int) < (j : Int)) = false := decide_eq_false (by omega)
          go_wp2_with fail
          go_meet
          exact ⟨y, z, rfl, HL.out, An, kn, cn, VR.out⟩
    case rest =>
      obtain ⟨y, z, rfl, hl, An, kn, cn, hD⟩ := hcut
      have HL := Lib.hid hl
      have VR := Lib.hid hD
      clear hl hD HD0 HYZ
      go_upto_if 48 with fail
      obtain ⟨x0, x1, x2⟩ := VR.out.box (.head _)
      obtain ⟨f0, f1, f2, f3⟩ := HFC.out _ VR.out.2.2
      go_cut [7] (fun s7 wx => ∃ y z : Int, s7 = .int .i64 z ∧ (y, z) = (if 200 < (digs (p * (2 * 10 ^ k))).length then (0, 3) else lim (p * (2 * 10 ^ k) + q)) ∧ DBox E0 g y [(.slice A n c, p), (.slice B m d, q)] wx)
      case first =>
        by_cases hz : z = 0
        · subst hz
          have hzb : ((0 : Int) == 0) = true := rfl
          have ey : y = p * (2 * 10 ^ k) ∧ ¬ 200 < (digs (p * (2 * 10 ^ k))).length := by
            have h := HL.out
            unfold lim at h
            split at h
            · exact absurd (congrArg (fun r => r.2) h) (by show ¬ (0 : Int) = 3; omega)
            · rename_i hc; exact ⟨congrArg (fun r => r.1) h, hc⟩
          have HT := Lib.hid (show ((lim (y + q)).1, (lim (y + q)).2) = (if 200 < (digs (p * (2 * 10 ^ k))).length then (0, 3) else lim (p * (2 * 10 ^ k) + q)) by rw [if_neg ey.2, ey.1])
          clear ey HL
          go_wp2_with fail
          refine (radd_r kn cn m d y q An B _ (VR.out.at (.head _)) (VR.out.at (.tail _ (.tail _ (.head _))))).mono ?_
          rintro e w9 ⟨A9, c9, k9, rfl, n9, b9⟩
          clear x0 x1 x2 f0 f1 f2 f3
          have V9 := Lib.hid ((VR.out.go b9).num n9)
          clear b9 n9
          obtain ⟨x0, x1, x2⟩ := V9.out.box (.head _)
          go_wp2_with fail
          go_meet
          exact ⟨_, _, rfl, HT.out, dbox_set V9.out (V9.out.at (.head _)) (fun y hy => .tail _ (.tail _ hy))⟩
        · have hzb : (z == 0) = false := by simpa using hz
          have HT := Lib.hid (show (y, z) = (if 200 < (digs (p * (2 * 10 ^ k))).length then (0, 3) else lim (p * (2 * 10 ^ k) + q)) by
            have h := HL.out
            unfold lim at h
            split at h
            · rename_i hc; rw [if_pos hc]; exact h
            · exact absurd (congrArg (fun r => r.2) h) hz)
          clear HL hz
          go_wp2_with fail
          go_meet
          exact ⟨y, z, rfl, HT.out, An, kn, cn, VR.out⟩
      case rest =>
        obtain ⟨y2, z2, rfl, hl, A2, k2, c2, hD⟩ := hcut
        have HL2 := Lib.hid hl
        have V2 := Lib.hid hD
        clear hl hD x0 x1 x2 f0 f1 f2 f3
        have HFD := Lib.hid (fun (w : World) (b : Below wc.heap.size wc w) => HFC.out w (btwo V2.out.2.2 b))
        have HN2 := Lib.hid (fun (w : World) (b : Below wc.heap.size wc w) => show w.cell? ⟨g, 0, none⟩ = some (.slice A2 k2 c2) ∧ g < w.heap.size from ⟨(b.cell (p := ⟨g, 0, none⟩) (V2.out.box (.head _)).2.2).trans (V2.out.box (.head _)).1, Nat.lt_of_lt_of_le (V2.out.box (.head _)).2.2 b.size⟩)
        have V12 := Lib.hid (show BoxesW wc 24 [] [(.slice A2 k2 c2, y2), (.slice A n c, p), (.slice B m d, q)] wc from ⟨fun _ _ h => by simp at h, V2.out.2.1, Below.refl _ _⟩)
        obtain ⟨f0, f1, f2, f3⟩ := HFD.out _ (Below.refl _ _)
        go_upto_region 12 with fail
        go_cut [9, 10] (fun s9 s10 wx => ∃ h : Nat, ∃ y z : Int, s9 = .pointer (some ⟨h, 0, none⟩) ∧ s10 = .int .i64 z ∧ (y, z) = lim (q * 2) ∧ DBox wc h y [(.slice A2 k2 c2, y2)] wx)
        case first =>
          go_region_with (first | (go_at_call 58; refine (rSmall_num 2 _ (by omega) (by omega)).mono ?_; rintro e w8 ⟨Ao, co, ko, rfl, no8, b8⟩; (first | (have V8 := Lib.hid ((V12.out.go b8).num no8)) | (have V8 := Lib.hid (((V12.out.go (Below.refl _ _).drew).go b8).num no8)) | (have V8 := Lib.hid (((V12.out.new none 0 0).go b8).num no8)) | (have V8 := Lib.hid ((((V12.out.new none 0 0).go (Below.refl _ _).drew).go b8).num no8))); obtain ⟨f0, f1, f2, f3⟩ := HFD.out _ V8.out.2.2; clear b8 no8) | (go_at_call 41; refine (rmul_r m d ko co q 2 B Ao _ ?_ ?_).mono ?_; (first | exact V8.out.at (.tail _ (.tail _ (.tail _ (.head _)))) | exact (V8.out.go (Below.refl _ _).drew).at (.tail _ (.tail _ (.tail _ (.head _)))) | exact (V8.out.new none 0 0).at (.tail _ (.tail _ (.tail _ (.head _)))) | exact ((V8.out.new none 0 0).go (Below.refl _ _).drew).at (.tail _ (.tail _ (.tail _ (.head _))))); (first | exact V8.out.at (.head _) | exact (V8.out.go (Below.refl _ _).drew).at (.head _) | exact (V8.out.new none 0 0).at (.head _) | exact ((V8.out.new none 0 0).go (Below.refl _ _).drew).at (.head _)); rintro e w9 ⟨A9, c9, k9, rfl, n9, b9⟩; (first | (have V9 := Lib.hid ((V8.out.go b9).num n9)) | (have V9 := Lib.hid (((V8.out.go (Below.refl _ _).drew).go b9).num n9)) | (have V9 := Lib.hid (((V8.out.new none 0 0).go b9).num n9)) | (have V9 := Lib.hid ((((V8.out.new none 0 0).go (Below.refl _ _).drew).go b9).num n9))); (first | (obtain ⟨g0, g1, g2⟩ := V9.out.box (.head _)) | skip); clear b9 n9))
          all_goals (go_wp2_with fail; go_meet)
          all_goals exact ⟨_, (lim (q * 2)).1, (lim (q * 2)).2, rfl, rfl, rfl, by first | exact dbox_set V9.out (V9.out.at (.head _)) one_of3 | exact (dbox_set V9.out (V9.out.at (.head _)) one_of3).go (Below.refl _ _).drew | exact dbox_new (V9.out.sub (fun _ h => h) two_of3) | exact (dbox_new (V9.out.sub (fun _ h => h) two_of3)).go (Below.refl _ _).drew⟩
        case rest =>
          obtain ⟨g9, y3, z3, rfl, rfl, hl3, Ad, kd, cd, hD3⟩ := hcut
          have HL3 := Lib.hid hl3
          have V3 := Lib.hid hD3
          clear hl3 hD3 f0 f1 f2 f3
          by_cases hz2 : z2 = 0
          · subst hz2
            have e2 : y2 = p * (2 * 10 ^ k) + q ∧ ¬ 200 < (digs (p * (2 * 10 ^ k))).length ∧ ¬ 200 < (digs (p * (2 * 10 ^ k) + q)).length := by
              have h := HL2.out
              split at h
              · exact absurd (congrArg (fun r => r.2) h) (by show ¬ (0 : Int) = 3; omega)
              · rename_i c1
                unfold lim at h
                split at h
                · exact absurd (congrArg (fun r => r.2) h) (by show ¬ (0 : Int) = 3; omega)
                · rename_i c2; exact ⟨congrArg (fun r => r.1) h, c1, c2⟩
            by_cases hz3 : z3 = 0
            · subst hz3
              have e3 : y3 = q * 2 ∧ ¬ 200 < (digs (q * 2)).length := by
                have h := HL3.out
                unfold lim at h
                split at h
                · exact absurd (congrArg (fun r => r.2) h) (by show ¬ (0 : Int) = 3; omega)
                · rename_i c2; exact ⟨congrArg (fun r => r.1) h, c2⟩
              have HUE := Lib.hid (HU.out.trans (show rndR (2 * 10 ^ k) p q = ((p * (2 * 10 ^ k) + q) / (q * 2), 0) by unfold rndR; rw [if_neg e2.2.1, if_neg e2.2.2, if_neg e3.2]))
              have HY2 := Lib.hid e2.1
              have HY3 := Lib.hid e3.1
              clear e2 e3 HL HL2 HL3
              have HU0 := Lib.hid (show u = y2 / y3 by rw [HY2.out, HY3.out]; exact congrArg (fun r => r.1) HUE.out)
              have heu : eu = 0 := congrArg (fun r => r.2) HUE.out
              subst heu
              have p3 : 0 < y3 := by rw [HY3.out]; have := HQ.out; omega
              obtain ⟨x0, x1⟩ := HN2.out _ V3.out.2.2
              obtain ⟨d0, d1, d2⟩ := V3.out.box (.head _)
              go_wp2_with fail
              refine (rdiv_num k2 c2 kd cd y2 y3 A2 Ad _ (V3.out.at (.tail _ (.head _))) (V3.out.at (.head _)) p3).mono ?_
              rintro e w5 ⟨Au, cu, ku, Ar, cr, kr, rfl, n5, m5, b5⟩
              rw [← HU0.out] at n5
              clear x0 x1 d0 d1 d2 p3
              have HB5 := Lib.hid (btwo HWE.out (btwo V2.out.2.2 (btwo V3.out.2.2 b5)))
              obtain ⟨f0, f1, f2, f3⟩ := HFD.out _ (btwo V3.out.2.2 b5)
              have VL := Lib.hid ((((((show LiveA W [] [(.slice Au ku cu, u)] w5 from ⟨fun _ _ h => by simp at h, fun v x h => by
                rw [List.mem_singleton] at h; injection h with h1 h2; subst h1; subst h2; exact n5, HB5.out⟩).boxed f0 f3).boxed f1 f3).boxed f2 f3)).new2 (.slice Au ku cu) (.slice Ar kr cr) 24)
              have gl := Lib.hid (fmtB_size (u := u) (by obtain ⟨_, _, _, _, _, _, _, h⟩ := n5; exact h))
              clear f0 f1 f2 f3 n5 m5 b5
              obtain ⟨x0, x1⟩ := VL.out.box (.tail _ (.head _))
              go_wp2_with fail
              refine (rformatB_num ku cu u Au _ (VL.out.at (.head _))).mono ?_
              rintro e w6 ⟨rfl, b6⟩
              clear x0 x1
              have VA := Lib.hid ((VL.out.go b6).tail)
              clear b6
              obtain ⟨tb, htb⟩ : ∃ x, x = fmtB u := ⟨_, rfl⟩
              obtain ⟨tx, htx⟩ : ∃ x, x = padB k tb := ⟨_, rfl⟩
              have HR := Lib.hid (show decV' k s (u, 0) = (sgnB s u (pntB k tx), 0) by unfold decV'; rw [if_pos rfl, htx, htb])
              rw [← htb] at gl ⊢
              have gb := gl.out
              clear gl htb
              go_upto_block 2 with fail
              go_cut [14] (fun sv wx => sv = .string tx ∧ wx = w6)
              case first =>
                go_wp2_with fail
                go_loop [14] (fun sv => ∃ i : Nat, (i = 0 ∨ i + tb.size ≤ k + 1) ∧ sv = .string (zeros i ++ tb)) (fun sv => k + 1 - strLen sv)
                case atStart => exact ⟨0, .inl rfl, by rw [show zeros 0 ++ tb = tb by apply ByteArray.ext; simp [zeros]]⟩
                case round =>
                  obtain ⟨i, hi, rfl⟩ := hrel
                  obtain ⟨x, hx⟩ : ∃ x, x = zeros i ++ tb := ⟨_, rfl⟩
                  have hxs : x.size = i + tb.size := by rw [hx, ByteArray.size_append, zeros_size]
                  have HX := Lib.hid hx
                  rw [← hx]
                  clear hx
                  have hx9 : x.size ≤ 900 := by
                    rcases hi with h | h <;> omega
                  by_cases hlt : x.size ≤ k
                  · have hd : decide ((x.size : Int) ≤ (k : Int)) = true := decide_eq_true (by omega)
                    have hd2 : decide (x.size ≤ k) = true := decide_eq_true hlt
                    go_wp2_with fail
                    go_round
                    case rel => exact ⟨i + 1, .inr (by omega), by rw [HX.out, pad_step]⟩
                    case measure => rw [HX.out, pad_step]; simp only [strLen, ByteArray.size_append, zeros_size]; omega
                  · have hd : decide ((x.size : Int) ≤ (k : Int)) = false := decide_eq_false (by omega)
                    have hd2 : decide (x.size ≤ k) = false := decide_eq_false hlt
                    have HXT := Lib.hid (show x = tx by
                      rw [htx, HX.out]
                      unfold padB
                      rw [show k + 1 - tb.size = i by rcases hi with h | h <;> omega])
                    go_wp2_with fail
                    go_meet
                    exact ⟨by rw [HXT.out], rfl⟩
              case rest =>
                obtain ⟨rfl, rfl⟩ := hcut
                obtain ⟨q1, q2⟩ := padB_size k tb
                rw [← htx] at q1 q2
                have gt : tx.size ≤ 900 := by omega
                clear htx
                by_cases hk0 : k = 0
                · subst hk0
                  have HY := Lib.hid (show pntB 0 tx = tx by unfold pntB; rw [if_pos rfl])
                  have HR := Lib.hid (HR.out.trans (by rw [HY.out]))
                  cases s with
                  | false =>
                    have HX := Lib.hid (show sgnB false u tx = tx by unfold sgnB; rw [if_neg (by simp)])
                    obtain ⟨x0, y0⟩ := VA.out.box (.tail _ (.tail _ (.tail _ (.head _))))
                    go_wp2_with fail
                    go_ret2
                    exact dec_ok (HR.out.trans (by rw [HX.out])) VA.out.2.2
                  | true =>
                    obtain ⟨x0, y0⟩ := VA.out.box (.tail _ (.tail _ (.tail _ (.head _))))
                    obtain ⟨x1, y1⟩ := VA.out.box (.head _)
                    by_cases hu : u = 0
                    · have HX := Lib.hid (show sgnB true u tx = tx by unfold sgnB; rw [if_neg (fun h => h.2 hu)])
                      go_wp2_with fail
                      refine (rzero_t ku cu _ Au _ (VA.out.at (.head _)) hu).mono ?_
                      rintro e w9 ⟨rfl, b9⟩
                      go_wp2_with fail
                      go_ret2
                      exact dec_ok (HR.out.trans (by rw [HX.out])) (VA.out.go b9).2.2
                    · have HX := Lib.hid (show sgnB true u tx = (⟨#[45]⟩ : ByteArray) ++ tx by unfold sgnB; rw [if_pos ⟨rfl, hu⟩])
                      go_wp2_with fail
                      refine (rzero_f ku cu _ Au _ (VA.out.at (.head _)) (by have := (VA.out.at (v := .slice Au ku cu) (x := u) (.head _)).1; omega)).mono ?_
                      rintro e w9 ⟨rfl, b9⟩
                      go_wp2_with fail
                      go_ret2
                      exact dec_ok (HR.out.trans (by rw [HX.out])) (VA.out.go b9).2.2
                · have hk1 : 0 < k := by omega
                  have hkd : decide ((0 : Int) < (k : Int)) = true := decide_eq_true (by omega)
                  obtain ⟨pt, hpt⟩ : ∃ pt : Nat, tx.size = pt + k := ⟨tx.size - k, by omega⟩
                  obtain ⟨ty, hty⟩ : ∃ x, x = pntB k tx := ⟨_, rfl⟩
                  have HY := Lib.hid (show tx.extract 0 pt ++ ⟨#[46]⟩ ++ tx.extract pt tx.size = ty by rw [hty]; unfold pntB; rw [if_neg hk0, show tx.size - k = pt by omega])
                  have gy : ty.size ≤ 1000 := by rw [← HY.out]; rw [ByteArray.size_append, ByteArray.size_append, ByteArray.size_extract, ByteArray.size_extract, Nat.min_eq_left (show pt ≤ tx.size by omega), Nat.min_self]; have : (⟨#[46]⟩ : ByteArray).size = 1 := rfl; omega
                  have HR := Lib.hid (HR.out.trans (by rw [← hty]))
                  clear hty
                  have p1 : (0 : Int) ≤ (pt : Int) := by omega
                  have p2 : (pt : Int) ≤ (tx.size : Int) := by omega
                  have p3 : (pt : Int) ≤ 900 := by omega
                  have p4 : pt ≤ 900 := by omega
                  have ept : IntKind.i64.wrap ((tx.size : Int) - (k : Int)) = (pt : Int) := by rw [IntWalk.i64_in _ (by omega)]; omega
                  have ept2 : ((tx.size : Nat) : Int) - (k : Int) = (pt : Int) := by omega
                  have HPT := Lib.hid hpt
                  clear hpt
                  go_upto_if 88 with fail
                  go_cut [14] (fun sv wx => sv = .string ty ∧ LiveA W [(⟨w5.heap.size, 0, none⟩, .slice Au ku cu), (⟨W.heap.size, 2, none⟩, .slice B m d), (⟨W.heap.size, 1, none⟩, .slice A n c), (⟨W.heap.size, 0, none⟩, .bool s)] [(.slice Au ku cu, u)] wx)
                  case first =>
                    go_wp2_with fail
                    go_quiet (fail)
                    go_wp2_with fail
                    go_meet
                    exact ⟨by rw [← HY.out], VA.out.go (bdr (Below.refl _ _) _)⟩
                  case rest =>
                    obtain ⟨rfl, hV⟩ := hcut
                    have VB := Lib.hid hV
                    clear hV ept ept2
                    cases s with
                    | false =>
                      have HX := Lib.hid (show sgnB false u ty = ty by unfold sgnB; rw [if_neg (by simp)])
                      obtain ⟨x0, y0⟩ := VB.out.box (.tail _ (.tail _ (.tail _ (.head _))))
                      go_wp2_with fail
                      go_ret2
                      exact dec_ok (HR.out.trans (by rw [HX.out])) VB.out.2.2
                    | true =>
                      obtain ⟨x0, y0⟩ := VB.out.box (.tail _ (.tail _ (.tail _ (.head _))))
                      obtain ⟨x1, y1⟩ := VB.out.box (.head _)
                      by_cases hu : u = 0
                      · have HX := Lib.hid (show sgnB true u ty = ty by unfold sgnB; rw [if_neg (fun h => h.2 hu)])
                        go_wp2_with fail
                        refine (rzero_t ku cu _ Au _ (VB.out.at (.head _)) hu).mono ?_
                        rintro e w9 ⟨rfl, b9⟩
                        go_wp2_with fail
                        go_ret2
                        exact dec_ok (HR.out.trans (by rw [HX.out])) (VB.out.go b9).2.2
                      · have HX := Lib.hid (show sgnB true u ty = (⟨#[45]⟩ : ByteArray) ++ ty by unfold sgnB; rw [if_pos ⟨rfl, hu⟩])
                        go_wp2_with fail
                        refine (rzero_f ku cu _ Au _ (VB.out.at (.head _)) (by have := (VB.out.at (v := .slice Au ku cu) (x := u) (.head _)).1; omega)).mono ?_
                        rintro e w9 ⟨rfl, b9⟩
                        go_wp2_with fail
                        go_ret2
                        exact dec_ok (HR.out.trans (by rw [HX.out])) (VB.out.go b9).2.2
            · have HR := Lib.hid (show decV' k s (u, eu) = (⟨#[]⟩, 3) by
                rw [HU.out, show rndR (2 * 10 ^ k) p q = (0, 3) by
                  have h := HL3.out
                  unfold lim at h
                  split at h
                  · rename_i c2; unfold rndR; rw [if_neg e2.2.1, if_neg e2.2.2, if_pos c2]
                  · exact absurd (congrArg (fun r => r.2) h) hz3]
                rfl)
              have hzb : (z3 == 0) = false := by simpa using hz3
              have hzn : (z3 != 0) = true := by simpa using hz3
              clear e2 hz3
              go_wp2_with fail
              go_ret2
              exact dec_ok HR.out (btwo HWE.out (btwo V2.out.2.2 V3.out.2.2))
          · have HR := Lib.hid (show decV' k s (u, eu) = (⟨#[]⟩, 3) by
              rw [HU.out, show rndR (2 * 10 ^ k) p q = (0, 3) by
                have h := HL2.out
                split at h
                · rename_i c1; unfold rndR; rw [if_pos c1]
                · rename_i c1
                  unfold lim at h
                  split at h
                  · rename_i c2; unfold rndR; rw [if_neg c1, if_pos c2]
                  · exact absurd (congrArg (fun r => r.2) h) hz2]
              rfl)
            have hzb : (z2 == 0) = false := by simpa using hz2
            have hzn : (z2 != 0) = true := by simpa using hz2
            clear hz2
            go_wp2_with fail
            go_ret2
            exact dec_ok HR.out (btwo HWE.out (btwo V2.out.2.2 V3.out.2.2))
set_option maxHeartbeats 4000000 in
theorem rdec_any (a : Int) (s : Bool) (L M : List Int) (n c m d : Nat) (A B : Option Addr) (W : World) (hn : L.length = n) (hm : M.length = m) (hnc : n ≤ c) (hmd : m ≤ d) (hc63 : c ≤ maxLen) (hd63 : d ≤ maxLen) (hA : IntsIn W A L) (hB : IntsIn W B M) :
    Calls Tryz.prog 31 #[.agg #[.bool s, .slice A n c, .slice B m d], .int .i64 a] W (DecP (decR a s L M) W) := by
  by_cases hv : vldF s L M = true
  · by_cases ha : a < 0 ∨ 20 < a
    · have HR := Lib.hid (show decR a s L M = (⟨#[]⟩, 6) by unfold decR; rw [if_pos hv, if_pos ha])
      have HC := Lib.hid (rfvalid_is s L M n c m d A B (W.alloc (.cells #[.bool s, .slice A n c, .slice B m d] 26)) hn hm hnc hmd hc63 hd63 (hA.below one_new) (hB.below one_new) hv)
      have HB1 := Lib.hid (one_new (w := W) (o := .cells #[.bool s, .slice A n c, .slice B m d] 26))
      clear hn hm hA hB hv
      by_cases h1 : a < 0
      · have g1 : decide (a < 0) = true := decide_eq_true h1
        go_enter Tryz.func31, Tryz.ntmps31
        go_wp2_with fail
        refine HC.out.mono ?_
        rintro e w1 ⟨rfl, b1⟩
        go_wp2_with fail
        go_ret2
        exact dec_ok HR.out (btwo HB1.out b1)
      · have g1 : decide (a < 0) = false := decide_eq_false h1
        have h2 : 20 < a := by omega
        have g2 : decide (20 < a) = true := decide_eq_true h2
        go_enter Tryz.func31, Tryz.ntmps31
        go_wp2_with fail
        refine HC.out.mono ?_
        rintro e w1 ⟨rfl, b1⟩
        go_wp2_with fail
        go_ret2
        exact dec_ok HR.out (btwo HB1.out b1)
    · have e : ((a.toNat : Nat) : Int) = a := Int.toNat_of_nonneg (by omega)
      obtain ⟨v1, v2, v3, v4, v5⟩ := vldF_pos hv
      have h := rdec_num a.toNat s n c m d (val L) (val M) A B W (by omega) (num_mk hn hnc hc63 hA v1) (num_mk hm hmd hd63 hB v2) ⟨v3, v4, v5⟩ L M hv hn hm hnc hmd hc63 hd63 hA hB
      rw [e] at h
      unfold decR
      rw [if_pos hv, if_neg ha]
      exact h
  · have HR := Lib.hid (show decR a s L M = (⟨#[]⟩, 1) by unfold decR; rw [if_neg hv])
    have HC := Lib.hid (rfvalid_is s L M n c m d A B (W.alloc (.cells #[.bool s, .slice A n c, .slice B m d] 26)) hn hm hnc hmd hc63 hd63 (hA.below one_new) (hB.below one_new) (b := false) (by simpa using hv))
    have HB1 := Lib.hid (one_new (w := W) (o := .cells #[.bool s, .slice A n c, .slice B m d] 26))
    clear hn hm hA hB hv
    go_enter Tryz.func31, Tryz.ntmps31
    go_wp2_with fail
    refine HC.out.mono ?_
    rintro e w1 ⟨rfl, b1⟩
    go_wp2_with fail
    go_ret2
    exact dec_ok HR.out (btwo HB1.out b1)
end Go.Proofs.YtbhneddjjgegmaaGreatDoor
