/- The decimal digits of a fraction, as the program writes them. -/
import Derived.Test.YtbhneddjjgegmaaGreatDoorHr
import Derived.Deep.DeepCutAuto
import Derived.Deep.QuietTactic
import Derived.BigQuiet
namespace Go.Proofs.YtbhneddjjgegmaaGreatDoor
open Go.RowKit
set_option linter.unusedVariables false
set_option maxRecDepth 100000

/-- Zeros in front, so that more than k digits stand there. -/
def padB (k : Nat) (b : ByteArray) : ByteArray := zeros (k + 1 - b.size) ++ b
/-- A point ahead of the last k digits. -/
def pntB (k : Nat) (b : ByteArray) : ByteArray := if k = 0 then b else b.extract 0 (b.size - k) ++ ⟨#[46]⟩ ++ b.extract (b.size - k) b.size
def sgnB (s : Bool) (u : Int) (b : ByteArray) : ByteArray := if s = true ∧ ¬ u = 0 then (⟨#[45]⟩ : ByteArray) ++ b else b
def fmtB (u : Int) : ByteArray := ⟨(fmt u).toArray⟩
/-- The answer of Decimal on a valid fraction, and a right number of digits. -/
def decV' (k : Nat) (s : Bool) (r : Int × Int) : ByteArray × Int := if r.2 = 0 then (sgnB s r.1 (pntB k (padB k (fmtB r.1))), 0) else (⟨#[]⟩, r.2)
/-- The answer of Decimal. -/
def decR (a : Int) (s : Bool) (L M : List Int) : ByteArray × Int :=
  if vldF s L M = true then (if a < 0 ∨ 20 < a then (⟨#[]⟩, 6) else decV' a.toNat s (rndR (2 * 10 ^ a.toNat) (val L) (val M))) else (⟨#[]⟩, 1)
def DecP (r : ByteArray × Int) (W : World) (e : Ending) (w' : World) : Prop := e = .returned (.tuple #[.string r.1, .int .i64 r.2]) ∧ Below W.heap.size W w'
theorem dec_ok {r : ByteArray × Int} {b : ByteArray} {x : Int} {W w' : World} (h : r = (b, x)) (hb : Below W.heap.size W w') : DecP r W (.returned (.tuple #[.string b, .int .i64 x])) w' := by subst h; exact ⟨rfl, hb⟩
theorem padB_size (k : Nat) (b : ByteArray) : k + 1 ≤ (padB k b).size ∧ (padB k b).size ≤ k + 1 + b.size := by
  unfold padB
  rw [ByteArray.size_append, zeros_size]
  omega
theorem fmtB_size {u : Int} (h : (digs u).length ≤ 200) : (fmtB u).size ≤ 800 := by
  have := fmt_len (n := u) h
  simpa [fmtB, ByteArray.size] using this
theorem formatB_num (n c : Nat) (x : Int) (A : Option Addr) (w : World) (h : NumAt w (.slice A n c) x) (hT : Tab w) : Calls Tryz.prog 60 #[.agg #[.slice A n c]] w fun e w' => e = .returned (.tuple #[.string (fmtB x), .int .i64 0]) ∧ Below w.heap.size w w' := by
  refine (format_num n c x A w h hT).mono ?_
  rintro e w' ⟨b, rfl, rfl, _, hb⟩
  exact ⟨rfl, hb⟩
theorem rformatB_num (n c : Nat) (x : Int) (A : Option Addr) (w : World) (h : NumAt w (.slice A n c) x) : Calls Tryz.prog 63 #[.agg #[.slice A n c]] w fun e w' => e = .returned (.tuple #[.string (fmtB x), .int .i64 0]) ∧ Below w.heap.size w w' := by
  refine (rformat_num n c x A w h).mono ?_
  rintro e w' ⟨b, rfl, rfl, _, hb⟩
  exact ⟨rfl, hb⟩
set_option maxHeartbeats 8000000 in
theorem fdec_num (k : Nat) (s : Bool) (n c m d : Nat) (p q : Int) (A B : Option Addr) (W : World) (hk : k ≤ 20) (hx : NumAt W (.slice A n c) p) (hy : NumAt W (.slice B m d) q) (hF : 0 < q ∧ gcdI p q = 1 ∧ (s = true → 0 < p)) (hT : Tab W) :
    Calls Tryz.prog 30 #[.agg #[.bool s, .slice A n c, .slice B m d], .int .i64 (k : Int)] W (DecP (decV' k s (rndR (2 * 10 ^ k) p q)) W) := by
  have HF := Lib.hid hF
  obtain ⟨⟨u, eu⟩, hu⟩ : ∃ r, r = rndR (2 * 10 ^ k) p q := ⟨_, rfl⟩
  have HRD := Lib.hid (fun w (hx : NumAt w (.slice A n c) p) (hy : NumAt w (.slice B m d) q) => show Calls Tryz.prog 59 #[.agg #[.bool s, .slice A n c, .slice B m d], .int .i64 (k : Int)] w (ValR (u, eu) w) by rw [hu]; exact rounded_any k s n c m d p q _ A B w hk rfl hx hy hF.1)
  rw [← hu]
  have V0 := Lib.hid ((((LiveA.start W).num hy).num hx).newF (.bool s) (.slice A n c) (.slice B m d) 26)
  have HT := Lib.hid hT
  clear hx hy hT hF hu
  have k0 : decide ((k : Int) < 0) = false := decide_eq_false (by omega)
  have k1 : decide ((20 : Int) < (k : Int)) = false := decide_eq_false (by omega)
  by_cases he : eu = 0
  · subst he
    have HR := Lib.hid (show decV' k s (u, 0) = (sgnB s u (pntB k (padB k (fmtB u))), 0) by unfold decV'; rw [if_pos rfl])
    obtain ⟨tx, htx⟩ : ∃ x, x = padB k (fmtB u) := ⟨_, rfl⟩
    rw [← htx] at HR
    obtain ⟨tb, htb⟩ : ∃ x, x = fmtB u := ⟨_, rfl⟩
    rw [← htb] at htx
    obtain ⟨z, hz⟩ : ∃ x, x = zeros (k + 1 - tb.size) := ⟨_, rfl⟩
    have HTX := Lib.hid (show z ++ tb = tx by rw [hz, htx]; rfl)
    obtain ⟨g1, g2⟩ := padB_size k tb
    rw [← htx] at g1 g2
    have gz : z.size ≤ 21 := by rw [hz, zeros_size]; omega
    have HRP := Lib.hid (fun w => show Calls Tryz.prog 61 #[.string ⟨#[48]⟩, .int .i64 ((k + 1 - tb.size : Nat) : Int)] w (fun e w' => e = .returned (.string z) ∧ w = w') by rw [hz]; exact repeat_any _ w (by omega))
    have HTB := Lib.hid htb
    clear htx hz htb
    go_enter Tryz.func30, Tryz.ntmps30
    go_wp2_with fail
    refine (fvalid_t s n c m d _ _ A B _ (V0.out.at (.head _)) (V0.out.at (.tail _ (.head _))) HF.out).mono ?_
    rintro e w1 ⟨rfl, b1⟩
    have V1 := Lib.hid (V0.out.go b1)
    clear b1
    obtain ⟨x1_f2, y1_f2⟩ := V1.out.box (.head _)
    obtain ⟨x1_f1, y1_f1⟩ := V1.out.box (.tail _ (.head _))
    obtain ⟨x1_f0, y1_f0⟩ := V1.out.box (.tail _ (.tail _ (.head _)))
    go_wp2_with fail
    refine (HRD.out _ (V1.out.at (.head _)) (V1.out.at (.tail _ (.head _)))).mono ?_
    rintro e w2 ⟨Au, cu, ku, rfl, n2, b2⟩
    clear x1_f2 y1_f2 x1_f1 y1_f1 x1_f0 y1_f0
    have U2 := Lib.hid ((V1.out.go b2).num n2)
    clear n2 b2
    have V2 := Lib.hid (U2.out.new (.slice Au ku cu) 24)
    obtain ⟨x3_u, y3_u⟩ := V2.out.box (.head _)
    have gb := Lib.hid (fmtB_size (u := u) (by obtain ⟨_, _, _, _, _, _, _, h⟩ := (V2.out.at (.head _)); exact h))
    go_wp2_with fail
    refine (formatB_num ku cu u Au _ (V2.out.at (.head _)) (HT.out.below V2.out.2.2)).mono ?_
    rintro e w3 ⟨rfl, b3⟩
    clear x3_u y3_u
    rw [← HTB.out] at gb ⊢
    have gb := gb.out
    have V3 := Lib.hid (V2.out.go b3)
    clear b3
    have mx : max (0 : Int) ((k : Int) + 1 - (tb.size : Int)) = ((k + 1 - tb.size : Nat) : Int) := by omega
    go_upto_region 9 with fail
    go_cut [8] (fun sv wx => sv = .string tx ∧ LiveA W [(⟨w2.heap.size, 0, none⟩, .slice Au ku cu), (⟨W.heap.size, 2, none⟩, .slice B m d), (⟨W.heap.size, 1, none⟩, .slice A n c), (⟨W.heap.size, 0, none⟩, .bool s)] [(.slice Au ku cu, u), (.slice A n c, p), (.slice B m d, q)] wx)
    case first =>
      go_wp2_with fail
      refine (HRP.out _).mono ?_
      rintro e w' ⟨rfl, rfl⟩
      go_wp2_with fail
      go_meet
      exact ⟨by rw [← HTX.out], V3.out⟩
    case rest =>
      obtain ⟨rfl, hV⟩ := hcut
      have VA := Lib.hid hV
      have gt : tx.size ≤ 900 := by omega
      clear hV mx gb gz
      by_cases hk0 : k = 0
      · subst hk0
        have HY := Lib.hid (show pntB 0 tx = tx by unfold pntB; rw [if_pos rfl])
        have HR := Lib.hid (HR.out.trans (by rw [HY.out]))
        cases s with
        | false =>
          have HX := Lib.hid (show sgnB false u tx = tx by unfold sgnB; rw [if_neg (by simp)])
          obtain ⟨x0, y0⟩ := VA.out.box (.tail _ (.tail _ (.tail _ (.head _))))
          go_wp2_with fail
          go_ret2
          exact dec_ok (HR.out.trans (by rw [HX.out])) VA.out.2.2
        | true =>
          obtain ⟨x0, y0⟩ := VA.out.box (.tail _ (.tail _ (.tail _ (.head _))))
          obtain ⟨x1, y1⟩ := VA.out.box (.head _)
          by_cases hu : u = 0
          · have HX := Lib.hid (show sgnB true u tx = tx by unfold sgnB; rw [if_neg (fun h => h.2 hu)])
            go_wp2_with fail
            refine (isZero_t ku cu _ Au _ (VA.out.at (.head _)) hu).mono ?_
            rintro e w9 ⟨rfl, b9⟩
            go_wp2_with fail
            go_ret2
            exact dec_ok (HR.out.trans (by rw [HX.out])) (VA.out.go b9).2.2
          · have HX := Lib.hid (show sgnB true u tx = (⟨#[45]⟩ : ByteArray) ++ tx by unfold sgnB; rw [if_pos ⟨rfl, hu⟩])
            go_wp2_with fail
            refine (isZero_f ku cu _ Au _ (VA.out.at (.head _)) (by have := (VA.out.at (v := .slice Au ku cu) (x := u) (.head _)).1; omega)).mono ?_
            rintro e w9 ⟨rfl, b9⟩
            go_wp2_with fail
            go_ret2
            exact dec_ok (HR.out.trans (by rw [HX.out])) (VA.out.go b9).2.2
      · have hk1 : 0 < k := by omega
        have hkd : decide ((0 : Int) < (k : Int)) = true := decide_eq_true (by omega)
        obtain ⟨pt, hpt⟩ : ∃ pt : Nat, tx.size = pt + k := ⟨tx.size - k, by omega⟩
        have ept : ((tx.size : Nat) : Int) - (k : Int) = (pt : Int) := by omega
        obtain ⟨ty, hty⟩ : ∃ x, x = pntB k tx := ⟨_, rfl⟩
        have HY := Lib.hid (show tx.extract 0 pt ++ ⟨#[46]⟩ ++ tx.extract pt tx.size = ty by rw [hty]; unfold pntB; rw [if_neg hk0, show tx.size - k = pt by omega])
        have gy : ty.size ≤ 1000 := by rw [← HY.out]; rw [ByteArray.size_append, ByteArray.size_append, ByteArray.size_extract, ByteArray.size_extract, Nat.min_eq_left (show pt ≤ tx.size by omega), Nat.min_self]; have : (⟨#[46]⟩ : ByteArray).size = 1 := rfl; omega
        have HR := Lib.hid (HR.out.trans (by rw [← hty]))
        clear hty
        have p1 : (0 : Int) ≤ (pt : Int) := by omega
        have p2 : (pt : Int) ≤ (tx.size : Int) := by omega
        have p3 : (pt : Int) ≤ 900 := by omega
        have p4 : pt ≤ 900 := by omega
        have HPT := Lib.hid hpt
        clear hpt
        go_upto_region 12 with fail
        go_cut [8] (fun sv wx => sv = .string ty ∧ LiveA W [(⟨w2.heap.size, 0, none⟩, .slice Au ku cu), (⟨W.heap.size, 2, none⟩, .slice B m d), (⟨W.heap.size, 1, none⟩, .slice A n c), (⟨W.heap.size, 0, none⟩, .bool s)] [(.slice Au ku cu, u), (.slice A n c, p), (.slice B m d, q)] wx)
        case first =>
          go_quiet (fail)
          go_wp2_with fail
          go_meet
          exact ⟨by rw [← HY.out], VA.out.go (bdr (Below.refl _ _) _)⟩
        case rest =>
          obtain ⟨rfl, hV⟩ := hcut
          have VB := Lib.hid hV
          clear hV
          cases s with
          | false =>
            have HX := Lib.hid (show sgnB false u ty = ty by unfold sgnB; rw [if_neg (by simp)])
            obtain ⟨x0, y0⟩ := VB.out.box (.tail _ (.tail _ (.tail _ (.head _))))
            go_wp2_with fail
            go_ret2
            exact dec_ok (HR.out.trans (by rw [HX.out])) VB.out.2.2
          | true =>
            obtain ⟨x0, y0⟩ := VB.out.box (.tail _ (.tail _ (.tail _ (.head _))))
            obtain ⟨x1, y1⟩ := VB.out.box (.head _)
            by_cases hu : u = 0
            · have HX := Lib.hid (show sgnB true u ty = ty by unfold sgnB; rw [if_neg (fun h => h.2 hu)])
              go_wp2_with fail
              refine (isZero_t ku cu _ Au _ (VB.out.at (.head _)) hu).mono ?_
              rintro e w9 ⟨rfl, b9⟩
              go_wp2_with fail
              go_ret2
              exact dec_ok (HR.out.trans (by rw [HX.out])) (VB.out.go b9).2.2
            · have HX := Lib.hid (show sgnB true u ty = (⟨#[45]⟩ : ByteArray) ++ ty by unfold sgnB; rw [if_pos ⟨rfl, hu⟩])
              go_wp2_with fail
              refine (isZero_f ku cu _ Au _ (VB.out.at (.head _)) (by have := (VB.out.at (v := .slice Au ku cu) (x := u) (.head _)).1; omega)).mono ?_
              rintro e w9 ⟨rfl, b9⟩
              go_wp2_with fail
              go_ret2
              exact dec_ok (HR.out.trans (by rw [HX.out])) (VB.out.go b9).2.2
  · have HR := Lib.hid (show decV' k s (u, eu) = (⟨#[]⟩, eu) by unfold decV'; rw [if_neg he])
    have hb : (eu == 0) = false := by simpa using he
    have hbn : (eu != 0) = true := by simpa using he
    clear he
    go_enter Tryz.func30, Tryz.ntmps30
    go_wp2_with fail
    refine (fvalid_t s n c m d _ _ A B _ (V0.out.at (.head _)) (V0.out.at (.tail _ (.head _))) HF.out).mono ?_
    rintro e w1 ⟨rfl, b1⟩
    have V1 := Lib.hid (V0.out.go b1)
    clear b1
    obtain ⟨x1_f2, y1_f2⟩ := V1.out.box (.head _)
    obtain ⟨x1_f1, y1_f1⟩ := V1.out.box (.tail _ (.head _))
    obtain ⟨x1_f0, y1_f0⟩ := V1.out.box (.tail _ (.tail _ (.head _)))
    go_wp2_with fail
    refine (HRD.out _ (V1.out.at (.head _)) (V1.out.at (.tail _ (.head _)))).mono ?_
    rintro e w2 ⟨Au, cu, ku, rfl, n2, b2⟩
    clear x1_f2 y1_f2 x1_f1 y1_f1 x1_f0 y1_f0
    have U2 := Lib.hid ((V1.out.go b2).num n2)
    clear n2 b2
    have V2 := Lib.hid (U2.out.new (.slice Au ku cu) 24)
    go_wp2_with fail
    go_ret2
    exact dec_ok HR.out V2.out.2.2
set_option maxHeartbeats 4000000 in
theorem fdec_any (a : Int) (s : Bool) (L M : List Int) (n c m d : Nat) (A B : Option Addr) (W : World) (hn : L.length = n) (hm : M.length = m) (hnc : n ≤ c) (hmd : m ≤ d) (hc63 : c ≤ maxLen) (hd63 : d ≤ maxLen) (hA : IntsIn W A L) (hB : IntsIn W B M) (hT : Tab W) :
    Calls Tryz.prog 30 #[.agg #[.bool s, .slice A n c, .slice B m d], .int .i64 a] W (DecP (decR a s L M) W) := by
  by_cases hv : vldF s L M = true
  · by_cases ha : a < 0 ∨ 20 < a
    · have HR := Lib.hid (show decR a s L M = (⟨#[]⟩, 6) by unfold decR; rw [if_pos hv, if_pos ha])
      have HC := Lib.hid (fvalid_is s L M n c m d A B (W.alloc (.cells #[.bool s, .slice A n c, .slice B m d] 26)) hn hm hnc hmd hc63 hd63 (hA.below one_new) (hB.below one_new) hv)
      have HB1 := Lib.hid (one_new (w := W) (o := .cells #[.bool s, .slice A n c, .slice B m d] 26))
      clear hn hm hA hB hT hv
      by_cases h1 : a < 0
      · have g1 : decide (a < 0) = true := decide_eq_true h1
        go_enter Tryz.func30, Tryz.ntmps30
        go_wp2_with fail
        refine HC.out.mono ?_
        rintro e w1 ⟨rfl, b1⟩
        go_wp2_with fail
        go_ret2
        exact dec_ok HR.out (btwo HB1.out b1)
      · have g1 : decide (a < 0) = false := decide_eq_false h1
        have h2 : 20 < a := by omega
        have g2 : decide (20 < a) = true := decide_eq_true h2
        go_enter Tryz.func30, Tryz.ntmps30
        go_wp2_with fail
        refine HC.out.mono ?_
        rintro e w1 ⟨rfl, b1⟩
        go_wp2_with fail
        go_ret2
        exact dec_ok HR.out (btwo HB1.out b1)
    · have e : ((a.toNat : Nat) : Int) = a := Int.toNat_of_nonneg (by omega)
      obtain ⟨v1, v2, v3, v4, v5⟩ := vldF_pos hv
      have h := fdec_num a.toNat s n c m d (val L) (val M) A B W (by omega) (num_mk hn hnc hc63 hA v1) (num_mk hm hmd hd63 hB v2) ⟨v3, v4, v5⟩ hT
      rw [e] at h
      unfold decR
      rw [if_pos hv, if_neg ha]
      exact h
  · have HR := Lib.hid (show decR a s L M = (⟨#[]⟩, 1) by unfold decR; rw [if_neg hv])
    have HC := Lib.hid (fvalid_is s L M n c m d A B (W.alloc (.cells #[.bool s, .slice A n c, .slice B m d] 26)) hn hm hnc hmd hc63 hd63 (hA.below one_new) (hB.below one_new) (b := false) (by simpa using hv))
    have HB1 := Lib.hid (one_new (w := W) (o := .cells #[.bool s, .slice A n c, .slice B m d] 26))
    clear hn hm hA hB hT hv
    go_enter Tryz.func30, Tryz.ntmps30
    go_wp2_with fail
    refine HC.out.mono ?_
    rintro e w1 ⟨rfl, b1⟩
    go_wp2_with fail
    go_ret2
    exact dec_ok HR.out (btwo HB1.out b1)
end Go.Proofs.YtbhneddjjgegmaaGreatDoor
