/- Several texts in one: Oe, Of. -/
import Derived.Test.YtpifchlpakajjaaGreatRtah
import Derived.Test.YtpifchlpakajjaaGreatRtai
namespace Go.Proofs.YtpifchlpakajjaaGreat
open Go.RowKit
set_option linter.unusedVariables false
set_option linter.unusedSimpArgs false
set_option maxRecDepth 100000

theorem emp_l {t : List UInt8} (h : t.length = 0) : ((bs t).toList == []) = true ∧ (bs t).toList.isEmpty = true := by
  have : t = [] := List.eq_nil_of_length_eq_zero h
  rw [ByteArray.toList_eq, bs_list, this]; exact ⟨rfl, rfl⟩
theorem ful_l {t : List UInt8} (h : ¬ t.length = 0) : ((bs t).toList == []) = false ∧ (bs t).toList.isEmpty = false := by
  rw [ByteArray.toList_eq, bs_list]
  cases e : t with
  | nil => rw [e] at h; exact absurd rfl h
  | cons c r => exact ⟨rfl, rfl⟩
theorem foldB_same {c : UInt8} : T.foldB c = c ↔ ¬ (65 ≤ (c.toNat : Int) ∧ (c.toNat : Int) ≤ 90) := by
  have h := T.foldB_int c
  unfold T.fb at h
  constructor
  · intro e hc
    rw [e, if_pos hc] at h; omega
  · intro hc
    rw [if_neg hc] at h
    exact UInt8.toNat_inj.1 (by omega)
theorem small_is : ∀ t : List UInt8, t.all isLow = (T.allLtr t && (T.foldL t == t))
  | [] => rfl
  | c :: r => by
    have ih := small_is r
    have e1 : T.allLtr (c :: r) = (T.ltr (c.toNat : Int) && T.allLtr r) := rfl
    have e2 : (T.foldL (c :: r) == c :: r) = ((T.foldB c == c) && (T.foldL r == r)) := rfl
    rw [List.all_cons, ih, e1, e2]
    have e3 : isLow c = (T.ltr (c.toNat : Int) && (T.foldB c == c)) := by
      unfold isLow lowI
      congr 1
      rw [Bool.eq_iff_iff, beq_iff_eq, foldB_same]; simp; omega
    rw [e3]
    cases T.ltr (c.toNat : Int) <;> cases T.allLtr r <;> cases (T.foldB c == c) <;> cases (T.foldL r == r) <;> rfl
theorem join_one {t : List UInt8} (h : ¬ t.length = 0) (h4 : t.length ≤ 4) : (T.joinVal (T.lists fun _ => bs t) 1).2 = if T.allLtr t = true then 0 else 2 := by
  have hne : t ≠ [] := fun e => h (by rw [e]; rfl)
  have e0 : T.lists (fun _ => bs t) 0 = t := rfl
  have e1 : T.jst (T.lists fun _ => bs t) 1 = T.err1 t := by rw [T.jst_step rfl, e0]
  have e2 : (T.joinF (T.lists fun _ => bs t) 1).length = t.length := by rw [T.joinF_succ_len, e0]; simp [T.joinF]
  cases hl : T.allLtr t with
  | true =>
    rw [T.joinVal_ok (by rw [e1]; exact T.err1_ok hne hl) (by rw [e2]; omega)]; rfl
  | false =>
    rw [T.joinVal_err (x := 2) (by rw [e1]; exact T.err1_bad hne hl) (by decide)]; rfl
set_option maxHeartbeats 4000000 in
theorem small_any (t : List UInt8) (w : World) (h0 : ¬ t.length = 0) (h4 : t.length ≤ 4) :
    Calls Tryz.prog 130 #[.string (bs t)] w fun e w' => e = .returned (.bool (t.all isLow)) ∧ Below w.heap.size w w' := by
  obtain ⟨g1, hg1⟩ : ∃ z, z = w.heap.size := ⟨_, rfl⟩
  obtain ⟨W1, hW1⟩ : ∃ z, z = w.alloc (.cells #[.string (bs t)] 9) := ⟨_, rfl⟩
  have HA := Lib.hid (show T.StrArg W1 (some ⟨g1, 0, none⟩) 1 (fun _ => bs t) from ⟨fun _ _ => by rw [bs_size]; omega, fun _ => ⟨g1, 0, rfl, by rw [hW1, hg1]; simp, fun i hi => by
    obtain rfl : i = 0 := by omega
    rw [hW1, hg1, World.cell?_alloc_mark]; rfl⟩⟩)
  have HL := Lib.hid (show (T.joinF (T.lists fun _ => bs t) 1).length ≤ 500 by
    rw [T.joinF_succ_len, show T.lists (fun _ => bs t) 0 = t from rfl]; simp [T.joinF]; omega)
  have HJ := Lib.hid (join_one h0 h4)
  have B1 := Lib.hid (show Below w.heap.size w W1 by rw [hW1]; exact bnew _ _)
  have HW1 := Lib.hid hW1
  have HG1 := Lib.hid hg1
  have HS := Lib.hid (small_is t)
  have HZ := Lib.hid (show (bs t).size ≤ maxLen by rw [bs_size]; unfold maxLen; omega)
  clear hW1 hg1 h0 h4
  go_enter Tryz.func130, Tryz.ntmps130
  go_wp2_with fail
  rw [← HG1.out, ← HW1.out]
  refine (T.tjoin_any 1 1 (fun _ => bs t) (some ⟨g1, 0, none⟩) _ (by decide) (by decide) HA.out HL.out).mono ?_
  rintro e w2 ⟨rfl, hb⟩
  rw [HJ.out]
  have B2 := Lib.hid (btwo B1.out hb)
  clear hb
  cases hl : T.allLtr t with
  | true =>
    have HE := Lib.hid (show t.all isLow = (T.foldL t == t) by rw [HS.out, hl]; rfl)
    clear hl
    rw [if_pos rfl]
    go_wp2_with fail
    refine (T.tfold_any (bs t) _ HZ.out).mono ?_
    rintro e w3 ⟨rfl, hb⟩
    have B3 := Lib.hid (btwo B2.out hb)
    clear hb
    cases hs : (T.foldL t == t) with
    | true =>
      have e1 : ((⟨(T.foldL t).toArray⟩ : ByteArray).toList == (bs t).toList) = true := by
        rw [show (⟨(T.foldL t).toArray⟩ : ByteArray) = bs (T.foldL t) from rfl, toL, toL]; exact hs
      have e1' : (T.foldL t == (bs t).toList) = true := by rw [toL]; exact hs
      have HF := Lib.hid hs
      clear hs
      rw [bs_list]
      go_wp2_with fail
      go_ret
      exact ⟨ret_bool (by rw [HE.out, HF.out]), B3.out⟩
    | false =>
      have e1 : ((⟨(T.foldL t).toArray⟩ : ByteArray).toList == (bs t).toList) = false := by
        rw [show (⟨(T.foldL t).toArray⟩ : ByteArray) = bs (T.foldL t) from rfl, toL, toL]; exact hs
      have e1' : (T.foldL t == (bs t).toList) = false := by rw [toL]; exact hs
      have HF := Lib.hid hs
      clear hs
      rw [bs_list]
      go_wp2_with fail
      go_ret
      exact ⟨ret_bool (by rw [HE.out, HF.out]), B3.out⟩
  | false =>
    have HE := Lib.hid (show t.all isLow = false by rw [HS.out, hl]; rfl)
    clear hl
    rw [if_neg (by decide)]
    go_wp2_with fail
    go_ret
    exact ⟨ret_bool HE.out.symm, B2.out⟩
theorem ww_emp {w : Int} (h : w < 0 ∨ 4 < w) : ((bs (wW w)).toList == []) = true ∧ (bs (wW w)).toList.isEmpty = true := emp_l (by rw [ww_out h]; rfl)
theorem ww_ful {w : Int} (h : 0 ≤ w ∧ w ≤ 4) : ((bs (wW w)).toList == []) = false ∧ (bs (wW w)).toList.isEmpty = false := ful_l (by have := (ww_not h).2.2; omega)
theorem sg_err_at {x : Sg} {k : Nat} {y : Snd} (h : x.s[k]? = some y) (h1 : ∀ z ∈ x.s.take k, vS z = 0) (h2 : vS y ≠ 0) : errL x.s = vS y := errL_at h h1 h2
set_option maxHeartbeats 8000000 in
theorem sgfault_any (x : Sg) (A : Option Addr) (c : Nat) (w : World) (ht : x.t.length ≤ 140737488355328) (hn : x.s.length ≤ 17592186044416) (hs : ∀ y ∈ x.s, y.t.length ≤ 140737488355328) (hA : CellsIn w A (sndsC x.s)) :
    Calls Tryz.prog 116 #[.agg #[.string (bs x.t), .slice A x.s.length c, .int .i64 x.c, .int .i64 x.w]] w fun e w' => e = .returned (.int .i64 (sgE x)) ∧ Below w.heap.size w w' := by
  obtain ⟨g1, hg1⟩ : ∃ z, z = w.heap.size := ⟨_, rfl⟩
  obtain ⟨W1, hW1⟩ : ∃ z, z = w.alloc (.cells #[.string (bs x.t), .slice A x.s.length c, .int .i64 x.c, .int .i64 x.w] 58) := ⟨_, rfl⟩
  have V1 := Lib.hid (show Hp w [sgbox g1 (A, c) x] W1 by rw [hW1, hg1]; exact (Hp.start w).sgbox_new A c x)
  have HW1 := Lib.hid hW1
  have HG1 := Lib.hid hg1
  have HA := Lib.hid hA
  have HSS := Lib.hid hs
  obtain ⟨m, hm⟩ : ∃ m, m = x.s.length := ⟨_, rfl⟩
  obtain ⟨tl, htl⟩ : ∃ tl, tl = x.t.length := ⟨_, rfl⟩
  have HM := Lib.hid hm
  have HTL := Lib.hid htl
  rw [← hm] at hn
  rw [← htl] at ht
  obtain ⟨x0, x1, x2, x3, x4⟩ := V1.out.sgbox_at (i := 0) rfl
  dsimp only at x1
  rw [← hm] at x1
  have hz : (bs x.t).size = tl := by rw [bs_size]; exact htl.symm
  clear hW1 hg1 hA hs htl
  go_enter Tryz.func116, Tryz.ntmps116
  go_upto_region 1 with fail
  rw [← HG1.out, ← HW1.out]
  by_cases h0 : tl = 0
  · obtain ⟨q1, q2⟩ := emp_l (t := x.t) (by have := HTL.out; omega)
    have HE := Lib.hid (show (7 : Int) = sgE x by rw [sgE_text (by rw [txE_empty (by have := HTL.out; omega)]; decide), txE_empty (by have := HTL.out; omega)])
    clear h0 hm
    go_wp2_with fail
    go_ret
    exact ⟨sym_int HE.out.symm, V1.out.below⟩
  obtain ⟨q1, q2⟩ := ful_l (t := x.t) (by have := HTL.out; omega)
  by_cases h4 : 4 < tl
  · have HE := Lib.hid (show (3 : Int) = sgE x by rw [sgE_text (by rw [txE_big (by have := HTL.out; omega)]; decide), txE_big (by have := HTL.out; omega)])
    clear h0 hm
    go_wp2_with fail
    go_ret
    exact ⟨sym_int HE.out.symm, V1.out.below⟩
  clear hm
  go_wp2_with fail
  refine (small_any x.t _ (by have := HTL.out; omega) (by have := HTL.out; omega)).mono ?_
  rintro e w2 ⟨rfl, hb⟩
  have V2 := Lib.hid (V1.out.go hb)
  obtain ⟨x0, x1, x2, x3, x4⟩ := V2.out.sgbox_at (i := 0) rfl
  dsimp only at x1
  rw [← HM.out] at x1
  clear hb q1 q2
  cases hlow : x.t.all isLow with
  | false =>
    have HE := Lib.hid (show (2 : Int) = sgE x by
      have := txE_syn (t := x.t) (by have := HTL.out; omega) (by have := HTL.out; omega) hlow
      rw [sgE_text (by rw [this]; decide), this])
    clear hlow
    go_wp2_with fail
    go_ret
    exact ⟨sym_int HE.out.symm, V2.out.below⟩
  | true =>
  have HT0 := Lib.hid (txE_ok (t := x.t) (by have := HTL.out; omega) (by have := HTL.out; omega) hlow)
  clear hlow
  by_cases hm0 : m = 0
  · have HE := Lib.hid (show (7 : Int) = sgE x from (sgE_empty HT0.out (by have := HM.out; omega)).symm)
    have e0 : ((m : Int) == 0) = true := by simp [hm0]
    clear hm0
    go_wp2_with fail
    go_ret
    exact ⟨sym_int HE.out.symm, V2.out.below⟩
  have e0 : ((m : Int) == 0) = false := by simp [hm0]
  by_cases hm2 : 2 < m
  · have HE := Lib.hid (show (3 : Int) = sgE x from (sgE_big HT0.out (by have := HM.out; omega)).symm)
    clear hm0
    go_wp2_with fail
    go_ret
    exact ⟨sym_int HE.out.symm, V2.out.below⟩
  have HM0 := Lib.hid hm0
  clear hm0 h0 h4 hz
  go_wp2_with fail
  go_loopw [33] (fun i wr => ∃ k : Nat, k ≤ m ∧ i = .int .i64 (k : Int) ∧ (∀ z ∈ x.s.take k, vS z = 0) ∧ Hp w [sgbox g1 (A, c) x] wr) (fun i _ => m - (intOf i).toNat)
  case atStart => exact ⟨0, Nat.zero_le _, rfl, fun z hz => by simp at hz, V2.out⟩
  case round =>
    obtain ⟨k, hk, rfl, hall, hV⟩ := hrel
    obtain ⟨wi, rfl⟩ : ∃ wi : World, wi = wr := ⟨_, rfl⟩
    have HALL := Lib.hid hall
    have V3 := Lib.hid hV
    clear hall hV x0 x1 x2 x3 x4
    obtain ⟨x0, x1, x2, x3, x4⟩ := V3.out.sgbox_at (i := 0) rfl
    dsimp only at x1
    rw [← HM.out] at x1
    by_cases hlt : k < m
    · obtain ⟨y, hy⟩ := get_at (L := x.s) (k := k) (by have := HM.out; omega)
      obtain ⟨b, off, rfl, hb, c0, c1, c2⟩ := (HA.out.below V3.out.below).snd hy
      have HY := Lib.hid hy
      have hyl := HSS.out y (List.mem_of_getElem? hy)
      have hk3 : k * 3 ≤ 6 := by omega
      clear hy
      go_wp2_with fail
      refine (valid_any y _ hyl).mono ?_
      rintro e w4 ⟨rfl, hb4⟩
      have V4 := Lib.hid ((V3.out.go (bnew _ _)).go hb4)
      clear hb4
      by_cases hv : vS y = 0
      · have HN := Lib.hid (show ∀ z ∈ x.s.take (k + 1), vS z = 0 from fun z hz => by
          rw [take_snoc HY.out] at hz
          rcases List.mem_append.1 hz with h | h
          · exact HALL.out z h
          · rw [List.mem_singleton.1 h]; exact hv)
        rw [hv]
        clear hv
        go_wp2_with fail
        go_roundw
        case rel => exact ⟨k + 1, by omega, by go_num, HN.out, V4.out⟩
        case measure => simp [intOf]; omega
      · have HE := Lib.hid (show vS y = sgE x by
          have h1 := sg_err_at HY.out HALL.out hv
          rw [sgE_snd HT0.out (by have := HM.out; have := HM0.out; omega) (by have := HM.out; omega) (by rw [h1]; exact hv), h1])
        obtain ⟨v, hvv⟩ : ∃ v, v = vS y := ⟨_, rfl⟩
        rw [← hvv] at hv HE ⊢
        have e1 : (v != 0) = true := bne_yes hv
        clear hv hvv
        go_wp2_with fail
        go_ret
        exact ⟨sym_int HE.out.symm, V4.out.below⟩
    · have HS0 := Lib.hid (show errL x.s = 0 from errL_zero.2 (by
        have := HALL.out
        rwa [take_all (by have := HM.out; omega)] at this))
      obtain ⟨xc, hxc⟩ : ∃ z, z = x.c := ⟨_, rfl⟩
      obtain ⟨xw, hxw⟩ : ∃ z, z = x.w := ⟨_, rfl⟩
      have HXC := Lib.hid hxc
      have HXW := Lib.hid hxw
      rw [← hxc] at x2
      rw [← hxw] at x3
      clear hxc hxw
      by_cases hc0 : xc < 0
      · have HE := Lib.hid (show (6 : Int) = sgE x from (sgE_range HT0.out (by have := HM.out; have := HM0.out; omega) (by have := HM.out; omega) HS0.out ((rgE_yes (x := x)).2 (by have := HXC.out; omega))).symm)
        go_wp2_with fail
        go_ret
        exact ⟨sym_int HE.out.symm, V3.out.below⟩
      by_cases hc9 : 99 < xc
      · have HE := Lib.hid (show (6 : Int) = sgE x from (sgE_range HT0.out (by have := HM.out; have := HM0.out; omega) (by have := HM.out; omega) HS0.out ((rgE_yes (x := x)).2 (by have := HXC.out; omega))).symm)
        go_wp2_with fail
        go_ret
        exact ⟨sym_int HE.out.symm, V3.out.below⟩
      go_wp2_with fail
      refine (whereWord_any xw _).mono ?_
      rintro e w4 ⟨rfl, hw⟩
      subst hw
      by_cases hw : xw < 0 ∨ 4 < xw
      · obtain ⟨q1, q2⟩ := ww_emp hw
        have HE := Lib.hid (show (6 : Int) = sgE x from (sgE_range HT0.out (by have := HM.out; have := HM0.out; omega) (by have := HM.out; omega) HS0.out ((rgE_yes (x := x)).2 (by have := HXW.out; omega))).symm)
        clear hw
        go_wp2_with fail
        go_ret
        exact ⟨sym_int HE.out.symm, V3.out.below⟩
      · obtain ⟨q1, q2⟩ := ww_ful (w := xw) (by omega)
        have HE := Lib.hid (show (0 : Int) = sgE x from (sgE_ok HT0.out (by have := HM.out; have := HM0.out; omega) (by have := HM.out; omega) HS0.out ((rgE_no (x := x)).2 (by have := HXW.out; have := HXC.out; omega))).symm)
        clear hw
        go_wp2_with fail
        go_ret
        exact ⟨sym_int HE.out.symm, V3.out.below⟩
end Go.Proofs.YtpifchlpakajjaaGreat

namespace Go.Proofs.YtpifchlpakajjaaGreat
open Go.RowKit
set_option linter.unusedVariables false
set_option linter.unusedSimpArgs false
set_option maxRecDepth 100000

def SgBd (L : List Sg) : Prop := ∀ x ∈ L, x.t.length ≤ 140737488355328 ∧ x.s.length ≤ 1000000 ∧ ∀ y ∈ x.s, y.t.length ≤ 140737488355328
set_option maxHeartbeats 8000000 in
theorem fault_any (nm : List UInt8) (L : List Sg) (A : Option Addr) (n c : Nat) (w : World) (hnm : nm.length ≤ 140737488355328) (hl : L.length = n) (hn : n ≤ 17592186044416) (hnc : n ≤ c) (hs : SgBd L) (hA : SgnIn w A L) :
    Calls Tryz.prog 101 #[.agg #[.string (bs nm), .slice A n c]] w fun e w' => e = .returned (.tuple #[.int .i64 (vO nm L).1, .int .i64 (vO nm L).2]) ∧ Below w.heap.size w w' := by
  obtain ⟨g1, hg1⟩ : ∃ z, z = w.heap.size := ⟨_, rfl⟩
  obtain ⟨W1, hW1⟩ : ∃ z, z = w.alloc (.cells #[.string (bs nm), .slice A n c] 24) := ⟨_, rfl⟩
  have V1 := Lib.hid (show Hp w [obox g1 nm A n c] W1 by rw [hW1, hg1]; exact (Hp.start w).obox_new nm A n c)
  have HW1 := Lib.hid hW1
  have HG1 := Lib.hid hg1
  have HA := Lib.hid hA
  have HS := Lib.hid hs
  have HL := Lib.hid hl
  have HNM := Lib.hid (show (bs nm).size ≤ maxLen by rw [bs_size]; unfold maxLen; omega)
  obtain ⟨x0, x1, x2⟩ := V1.out.obox_at (i := 0) rfl
  clear hW1 hg1 hA hs hl hnm
  go_enter Tryz.func101, Tryz.ntmps101
  go_upto_region 1 with fail
  rw [← HG1.out, ← HW1.out]
  go_wp2_with fail
  refine (K.isname_any (bs nm) _ HNM.out).mono ?_
  rintro e w2 ⟨rfl, hw⟩
  subst hw
  rw [bs_list]
  cases hname : K.nameB nm with
  | false =>
    have HE := Lib.hid (vO_name (L := L) hname)
    clear hname
    go_wp2_with fail
    go_ret2
    exact ⟨by rw [HE.out]; rfl, V1.out.below⟩
  | true =>
  by_cases h0 : n = 0
  · have HE := Lib.hid (vO_empty (L := L) hname (by have := HL.out; omega))
    have e0 : ((n : Int) == 0) = true := by simp [h0]
    clear hname h0
    go_wp2_with fail
    go_ret2
    exact ⟨by rw [HE.out]; rfl, V1.out.below⟩
  have e0 : ((n : Int) == 0) = false := by simp [h0]
  by_cases h120 : 120 < n
  · have HE := Lib.hid (vO_big (L := L) hname (by have := HL.out; omega))
    clear hname h0
    go_wp2_with fail
    go_ret2
    exact ⟨by rw [HE.out]; rfl, V1.out.below⟩
  have HV := Lib.hid (vO_is (L := L) hname (by have := HL.out; omega) (by have := HL.out; omega))
  clear hname h0
  go_wp2_with fail
  go_loopw [25] (fun i wr => ∃ k : Nat, k ≤ n ∧ i = .int .i64 (k : Int) ∧ FInv L k ∧ Hp w [obox g1 nm A n c] wr) (fun i _ => n - (intOf i).toNat)
  case atStart => exact ⟨0, Nat.zero_le _, rfl, FInv.start L, V1.out⟩
  case round =>
    obtain ⟨k, hk, rfl, hinv, hV⟩ := hrel
    obtain ⟨wi, rfl⟩ : ∃ wi : World, wi = wr := ⟨_, rfl⟩
    have HI := Lib.hid hinv
    have V2 := Lib.hid hV
    clear hinv hV x0 x1 x2 V1
    by_cases hlt : k < n
    · obtain ⟨x, hx⟩ := get_at (L := L) (k := k) (by have := HL.out; omega)
      obtain ⟨b, off, Aj, cj, hAe, hb, c0, c1, c2, c3, c4⟩ := (HA.out.below V2.out.below).at hx
      have HX := Lib.hid hx
      have HC := Lib.hid c4
      have HAE := Lib.hid hAe
      obtain ⟨hb1, hb2, hb3⟩ := HS.out x (List.mem_of_getElem? hx)
      have HB3 := Lib.hid hb3
      obtain ⟨x0, x1, x2⟩ := V2.out.obox_at (i := 0) rfl
      rw [hAe] at x1
      have hk4 : k * 4 ≤ 480 := by omega
      obtain ⟨g2, hg2⟩ : ∃ z, z = wi.heap.size := ⟨_, rfl⟩
      obtain ⟨W2, hW2⟩ : ∃ z, z = wi.alloc (.cells #[.string (bs x.t), .slice Aj x.s.length cj, .int .i64 x.c, .int .i64 x.w] 58) := ⟨_, rfl⟩
      have V3 := Lib.hid (show Hp w [sgbox g2 (Aj, cj) x, obox g1 nm A n c] W2 by rw [hW2, hg2]; exact V2.out.sgbox_new Aj cj x)
      have HW2 := Lib.hid hW2
      have HG2 := Lib.hid hg2
      subst hAe
      clear hx c4 hb3 hW2 hg2
      go_upto_region 10 with fail
      rw [← HG2.out, ← HW2.out]
      clear c0 c1 c2 c3 x0 x1 x2 hb
      obtain ⟨y0, y1, y2, y3, y4⟩ := V3.out.sgbox_at (i := 0) rfl
      dsimp only at y1
      obtain ⟨x0, x1, x2⟩ := V3.out.obox_at (i := 1) rfl
      have B23 := Lib.hid (show Below wi.heap.size wi W2 by rw [HW2.out]; exact bnew _ _)
      go_wp2_with fail
      refine (sgfault_any x Aj cj _ hb1 (by omega) HB3.out (HC.out.below B23.out)).mono ?_
      rintro e w4 ⟨rfl, hb4⟩
      have V4 := Lib.hid (V3.out.go hb4)
      have B34 := Lib.hid (btwo B23.out hb4)
      clear hb4 y0 y1 y2 y3 y4 x0 x1 x2
      obtain ⟨y0, y1, y2, y3, y4⟩ := V4.out.sgbox_at (i := 0) rfl
      dsimp only at y1
      obtain ⟨x0, x1, x2⟩ := V4.out.obox_at (i := 1) rfl
      by_cases hv : sgE x = 0
      · rw [hv]
        have HV0 := Lib.hid hv
        have hkc : k ≤ c := by omega
        clear hv
        go_wp2_with fail
        refine (sgcont_any (L.take k) x g2 cj Aj (some ⟨b, off, none⟩) k c _ (by rw [List.length_take]; have := HL.out; omega) (by omega) (fun y hy => (HS.out y (List.mem_of_mem_take hy)).2.1) hb2 ((HA.out.take k).below V4.out.below) ⟨y0, y1, y2, y3, y4, HC.out.below B34.out⟩).mono ?_
        rintro e w5 ⟨rfl, hb5⟩
        have V5 := Lib.hid (V4.out.go hb5)
        clear hb5
        cases hlike : ((L.take k).any fun e => likeB e x) with
        | true =>
          have HE := Lib.hid (HI.out.like HX.out HV0.out hlike)
          clear hlike
          go_wp2_with fail
          go_ret2
          exact ⟨by rw [HV.out, HE.out]; rfl, V5.out.below⟩
        | false =>
          have HN := Lib.hid (HI.out.step HX.out HV0.out hlike)
          clear hlike
          go_wp2_with fail
          go_roundw
          case rel => exact ⟨k + 1, by omega, by go_num, HN.out, V5.out.tail⟩
          case measure => simp [intOf]; omega
      · have HE := Lib.hid (HI.out.err HX.out hv)
        obtain ⟨v, hvv⟩ : ∃ v, v = sgE x := ⟨_, rfl⟩
        rw [← hvv] at hv HE ⊢
        have e1 : (v != 0) = true := bne_yes hv
        clear hv hvv
        go_wp2_with fail
        go_ret2
        exact ⟨by rw [HV.out, HE.out]; rfl, V4.out.below⟩
    · have HE := Lib.hid (HI.out.fin (by have := HL.out; omega))
      obtain ⟨x0, x1, x2⟩ := V2.out.obox_at (i := 0) rfl
      go_wp2_with fail
      go_ret2
      exact ⟨by rw [HV.out, HE.out]; rfl, V2.out.below⟩
end Go.Proofs.YtpifchlpakajjaaGreat
