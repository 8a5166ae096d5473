/- Several texts in one: Ow. -/
import Derived.Test.YtpifchlpakajjaaMaak
import Derived.Test.YtpifchlpakajjaaMaam
namespace Go.Proofs.Ytpifchlpakajjaa
open Go.RowKit
set_option linter.unusedVariables false
set_option linter.unusedSimpArgs false
set_option maxRecDepth 100000

theorem low_take {t : List UInt8} {s : ByteArray} {k : Nat} (hs : s = bs t) (hk : k < s.size) (h : (t.take k).all isLow = true) (h1 : lowI (s[k].toNat : Int) = true) : (t.take (k + 1)).all isLow = true := by
  have e : t = s.data.toList := by rw [hs, bs_list]
  rw [e] at h ⊢
  rw [takeS hk, List.all_append, h]
  simpa [isLow] using h1
theorem low_bad {t : List UInt8} {s : ByteArray} {k : Nat} (hs : s = bs t) (hk : k < s.size) (h1 : lowI (s[k].toNat : Int) = false) : t.all isLow = false := by
  have e : t = s.data.toList := by rw [hs, bs_list]
  rw [Bool.eq_false_iff]; intro h
  rw [e] at h
  have := List.all_eq_true.1 h s[k] (by rw [getB s k hk]; exact List.getElem_mem _)
  rw [show isLow s[k] = lowI (s[k].toNat : Int) from rfl, h1] at this; cases this
set_option maxHeartbeats 2000000 in
theorem rtx_any (t : List UInt8) (w : World) (ht : t.length ≤ 140737488355328) :
    Calls Try.prog 57 #[.string (bs t)] w fun e w' => e = .returned (.int .i64 (txE t)) ∧ w = w' := by
  obtain ⟨tl, htl⟩ : ∃ tl, tl = t.length := ⟨_, rfl⟩
  obtain ⟨s, hs⟩ : ∃ s, s = bs t := ⟨_, rfl⟩
  have hz : s.size = tl := by rw [hs, bs_size]; exact htl.symm
  have HZ := Lib.hid hz
  have HT := Lib.hid htl
  have HS := Lib.hid hs
  rw [← htl] at ht
  rw [← hs]
  by_cases h0 : tl = 0
  · obtain ⟨q1, q2⟩ := emp_l (t := t) (by omega)
    rw [← hs] at q1 q2
    have HE := Lib.hid (txE_empty (t := t) (by omega))
    clear hs htl h0
    go_enter Try.func57, Try.ntmps57
    go_wp2_with fail
    go_ret
    exact ⟨sym_int HE.out, rfl⟩
  obtain ⟨q1, q2⟩ := ful_l (t := t) (by omega)
  rw [← hs] at q1 q2
  by_cases h4 : 4 < tl
  · have HE := Lib.hid (txE_big (t := t) (by omega))
    clear hs htl h0
    go_enter Try.func57, Try.ntmps57
    go_wp2_with fail
    go_ret
    exact ⟨sym_int HE.out, rfl⟩
  have H0 := Lib.hid h0
  clear hs htl h0 hz
  go_enter Try.func57, Try.ntmps57
  have hz := HZ.out
  go_wp2_with fail
  go_loopw [3] (fun i wr => ∃ k : Nat, k ≤ tl ∧ i = .int .i64 (k : Int) ∧ (t.take k).all isLow = true ∧ w = wr) (fun i _ => tl - (intOf i).toNat)
  case atStart => exact ⟨0, Nat.zero_le _, rfl, rfl, rfl⟩
  case round =>
    obtain ⟨k, hk, rfl, hall, rfl⟩ := hrel
    have HALL := Lib.hid hall
    clear hall
    by_cases hlt : k < tl
    · have hlt2 : k < s.size := by have := HZ.out; omega
      have hb0 : (0 : Int) ≤ (s[k].toNat : Int) := by omega
      have hb255 : (s[k].toNat : Int) ≤ 255 := by have := s[k].toNat_lt; omega
      go_wp2_with fail
      refine (T.rletter_any (s[k].toNat : Int) _ hb0 hb255).mono ?_
      rintro e w2 ⟨rfl, hw⟩
      subst hw
      cases hl : T.ltr (s[k].toNat : Int) with
      | false =>
        have HE := Lib.hid (txE_syn (t := t) (by have := HT.out; have := H0.out; omega) (by have := HT.out; omega) (low_bad HS.out hlt2 (by unfold lowI; rw [hl]; rfl)))
        clear hl
        go_wp2_with fail
        go_ret
        exact ⟨sym_int HE.out, rfl⟩
      | true =>
        by_cases h65 : 65 ≤ (s[k].toNat : Int)
        · by_cases h90 : (s[k].toNat : Int) ≤ 90
          · have HE := Lib.hid (txE_syn (t := t) (by have := HT.out; have := H0.out; omega) (by have := HT.out; omega) (low_bad HS.out hlt2 (by unfold lowI; rw [hl, decide_eq_true h65, decide_eq_true h90]; rfl)))
            clear hl
            go_wp2_with fail
            go_ret
            exact ⟨sym_int HE.out, rfl⟩
          · have HN := Lib.hid (low_take HS.out hlt2 HALL.out (by unfold lowI; rw [hl, decide_eq_false h90]; simp))
            clear hl
            go_wp2_with fail
            go_roundw
            case rel => exact ⟨k + 1, by omega, by go_num, HN.out, trivial⟩
            case measure => simp [intOf]; omega
        · have HN := Lib.hid (low_take HS.out hlt2 HALL.out (by unfold lowI; rw [hl, decide_eq_false h65]; simp))
          clear hl
          go_wp2_with fail
          go_roundw
          case rel => exact ⟨k + 1, by omega, by go_num, HN.out, trivial⟩
          case measure => simp [intOf]; omega
    · have HE := Lib.hid (txE_ok (t := t) (by have := HT.out; have := H0.out; omega) (by have := HT.out; omega) (by
        have := HALL.out
        rwa [take_all (by have := HT.out; omega)] at this))
      go_wp2_with fail
      go_ret
      exact ⟨sym_int HE.out, rfl⟩
set_option maxHeartbeats 4000000 in
theorem rsign_any (x : Sg) (A : Option Addr) (c : Nat) (w : World) (ht : x.t.length ≤ 140737488355328) (hn : x.s.length ≤ 17592186044416) (hs : ∀ y ∈ x.s, y.t.length ≤ 140737488355328) (hA : CellsIn w A (sndsC x.s)) :
    Calls Try.prog 44 #[.agg #[.string (bs x.t), .slice A x.s.length c, .int .i64 x.c, .int .i64 x.w]] w fun e w' => e = .returned (.int .i64 (sgE x)) ∧ Below w.heap.size w w' := by
  obtain ⟨g1, hg1⟩ : ∃ z, z = w.heap.size := ⟨_, rfl⟩
  obtain ⟨W1, hW1⟩ : ∃ z, z = w.alloc (.cells #[.string (bs x.t), .slice A x.s.length c, .int .i64 x.c, .int .i64 x.w] 27) := ⟨_, rfl⟩
  have V1 := Lib.hid (show Hp w [sgbox g1 (A, c) x] W1 by rw [hW1, hg1]; exact (Hp.start w).sgbox_new A c x)
  have HW1 := Lib.hid hW1
  have HG1 := Lib.hid hg1
  have HA := Lib.hid hA
  have HSS := Lib.hid hs
  obtain ⟨m, hm⟩ : ∃ m, m = x.s.length := ⟨_, rfl⟩
  have HM := Lib.hid hm
  rw [← hm] at hn
  obtain ⟨x0, x1, x2, x3, x4⟩ := V1.out.sgbox_at (i := 0) rfl
  dsimp only at x1
  rw [← hm] at x1
  clear hW1 hg1 hA hs hm
  go_enter Try.func44, Try.ntmps44
  go_upto_region 1 with fail
  rw [← HG1.out, ← HW1.out]
  go_wp2_with fail
  refine (rtx_any x.t _ ht).mono ?_
  rintro e w2 ⟨rfl, hw⟩
  subst hw
  by_cases htx : txE x.t = 0
  case neg =>
    have HE := Lib.hid (sgE_text htx)
    obtain ⟨v, hv⟩ : ∃ v, v = txE x.t := ⟨_, rfl⟩
    rw [← hv] at htx HE ⊢
    have e1 : (v != 0) = true := bne_yes htx
    clear htx hv
    go_wp2_with fail
    go_ret
    exact ⟨sym_int HE.out, V1.out.below⟩
  have HT0 := Lib.hid htx
  rw [htx]
  clear htx
  by_cases hm0 : m = 0
  · have HE := Lib.hid (sgE_empty HT0.out (by have := HM.out; omega))
    have e0 : ((m : Int) == 0) = true := by simp [hm0]
    clear hm0
    go_wp2_with fail
    go_ret
    exact ⟨sym_int HE.out, V1.out.below⟩
  have e0 : ((m : Int) == 0) = false := by simp [hm0]
  by_cases hm2 : 2 < m
  · have HE := Lib.hid (sgE_big HT0.out (by have := HM.out; omega))
    clear hm0
    go_wp2_with fail
    go_ret
    exact ⟨sym_int HE.out, V1.out.below⟩
  have HM0 := Lib.hid hm0
  clear hm0
  go_wp2_with fail
  clear x0 x1 x2 x3 x4
  go_loopw [4] (fun i wr => ∃ k : Nat, k ≤ m ∧ i = .int .i64 (k : Int) ∧ (∀ z ∈ x.s.take k, vS z = 0) ∧ Hp w [sgbox g1 (A, c) x] wr) (fun i _ => m - (intOf i).toNat)
  case atStart => exact ⟨0, Nat.zero_le _, rfl, fun z hz => by simp at hz, V1.out⟩
  case round =>
    obtain ⟨k, hk, rfl, hall, hV⟩ := hrel
    obtain ⟨wi, rfl⟩ : ∃ wi : World, wi = wr := ⟨_, rfl⟩
    have HALL := Lib.hid hall
    have V3 := Lib.hid hV
    clear hall hV V1
    obtain ⟨x0, x1, x2, x3, x4⟩ := V3.out.sgbox_at (i := 0) rfl
    dsimp only at x1
    rw [← HM.out] at x1
    by_cases hlt : k < m
    · obtain ⟨y, hy⟩ := get_at (L := x.s) (k := k) (by have := HM.out; omega)
      obtain ⟨b, off, rfl, hb, c0, c1, c2⟩ := (HA.out.below V3.out.below).snd hy
      have HY := Lib.hid hy
      have hyl := HSS.out y (List.mem_of_getElem? hy)
      have hk3 : k * 3 ≤ 6 := by omega
      clear hy
      go_wp2_with fail
      refine (rvalid_any y _ hyl).mono ?_
      rintro e w4 ⟨rfl, hb4⟩
      have V4 := Lib.hid (V3.out.go hb4)
      clear hb4
      by_cases hv : vS y = 0
      · have HN := Lib.hid (show ∀ z ∈ x.s.take (k + 1), vS z = 0 from fun z hz => by
          rw [take_snoc HY.out] at hz
          rcases List.mem_append.1 hz with h | h
          · exact HALL.out z h
          · rw [List.mem_singleton.1 h]; exact hv)
        rw [hv]
        clear hv
        go_wp2_with fail
        go_roundw
        case rel => exact ⟨k + 1, by omega, by go_num, HN.out, V4.out⟩
        case measure => simp [intOf]; omega
      · have HE := Lib.hid (show vS y = sgE x by
          have h1 := sg_err_at HY.out HALL.out hv
          rw [sgE_snd HT0.out (by have := HM.out; have := HM0.out; omega) (by have := HM.out; omega) (by rw [h1]; exact hv), h1])
        obtain ⟨v, hvv⟩ : ∃ v, v = vS y := ⟨_, rfl⟩
        rw [← hvv] at hv HE ⊢
        have e1 : (v != 0) = true := bne_yes hv
        clear hv hvv
        go_wp2_with fail
        go_ret
        exact ⟨sym_int HE.out.symm, V4.out.below⟩
    · have HS0 := Lib.hid (show errL x.s = 0 from errL_zero.2 (by
        have := HALL.out
        rwa [take_all (by have := HM.out; omega)] at this))
      obtain ⟨xc, hxc⟩ : ∃ z, z = x.c := ⟨_, rfl⟩
      obtain ⟨xw, hxw⟩ : ∃ z, z = x.w := ⟨_, rfl⟩
      have HXC := Lib.hid hxc
      have HXW := Lib.hid hxw
      rw [← hxc] at x2
      rw [← hxw] at x3
      clear hxc hxw
      by_cases h0 : xc < 0
      · have HE := Lib.hid (sgE_range HT0.out (by have := HM.out; have := HM0.out; omega) (by have := HM.out; omega) HS0.out ((rgE_yes (x := x)).2 (by have := HXC.out; have := HXW.out; omega)))
        go_wp2_with fail
        go_ret
        exact ⟨sym_int HE.out, V3.out.below⟩
      by_cases h1 : 99 < xc
      · have HE := Lib.hid (sgE_range HT0.out (by have := HM.out; have := HM0.out; omega) (by have := HM.out; omega) HS0.out ((rgE_yes (x := x)).2 (by have := HXC.out; have := HXW.out; omega)))
        go_wp2_with fail
        go_ret
        exact ⟨sym_int HE.out, V3.out.below⟩
      by_cases h2 : xw < 0
      · have HE := Lib.hid (sgE_range HT0.out (by have := HM.out; have := HM0.out; omega) (by have := HM.out; omega) HS0.out ((rgE_yes (x := x)).2 (by have := HXC.out; have := HXW.out; omega)))
        go_wp2_with fail
        go_ret
        exact ⟨sym_int HE.out, V3.out.below⟩
      by_cases h3 : 4 < xw
      · have HE := Lib.hid (sgE_range HT0.out (by have := HM.out; have := HM0.out; omega) (by have := HM.out; omega) HS0.out ((rgE_yes (x := x)).2 (by have := HXC.out; have := HXW.out; omega)))
        go_wp2_with fail
        go_ret
        exact ⟨sym_int HE.out, V3.out.below⟩
      have HE := Lib.hid (sgE_ok HT0.out (by have := HM.out; have := HM0.out; omega) (by have := HM.out; omega) HS0.out ((rgE_no (x := x)).2 (by have := HXC.out; have := HXW.out; omega)))
      go_wp2_with fail
      go_ret
      exact ⟨sym_int HE.out, V3.out.below⟩
end Go.Proofs.Ytpifchlpakajjaa
