/- Contracts of the program: what is wrong with an orthography. -/
import Derived.Test.YtfgnekbkcmpdiaaGreatDoorOe
namespace Go.Proofs.YtfgnekbkcmpdiaaGreatDoor
open Go.RowKit
set_option linter.unusedVariables false
set_option linter.unusedSimpArgs false
set_option maxRecDepth 100000

/-- What a list of signs must keep to be walked. -/
def SgBd (L : List Sg) : Prop := ∀ x ∈ L, x.t.length ≤ 140737488355328 ∧ x.s.length ≤ 1000000 ∧ ∀ y ∈ x.s, y.t.length ≤ 140737488355328
theorem ret_two {a b c d : Int} (h1 : a = b) (h2 : c = d) : Ending.returned (.tuple #[.int .i64 a, .int .i64 c]) = .returned (.tuple #[.int .i64 b, .int .i64 d]) := by rw [h1, h2]
set_option maxHeartbeats 8000000 in
theorem fault_any (nm : List UInt8) (L : List Sg) (A : Option Addr) (n c : Nat) (w : World) (hnm : nm.length ≤ 140737488355328) (hl : L.length = n) (hn : n ≤ 17592186044416) (hnc : n ≤ c) (hs : SgBd L) (hA : SgnIn w A L) :
    Calls Tryz.prog 25 #[.agg #[.string (bs nm), .slice A n c]] w fun e w' => e = .returned (.tuple #[.int .i64 (vO nm L).1, .int .i64 (vO nm L).2]) ∧ Below w.heap.size w w' := by
  obtain ⟨g1, hg1⟩ : ∃ z, z = w.heap.size := ⟨_, rfl⟩
  obtain ⟨W1, hW1⟩ : ∃ z, z = w.alloc (.cells #[.string (bs nm), .slice A n c] 25) := ⟨_, rfl⟩
  have V1 := Lib.hid (show Hp w [obox g1 nm A n c] W1 by rw [hW1, hg1]; exact (Hp.start w).obox_new nm A n c)
  have HW1 := Lib.hid hW1
  have HG1 := Lib.hid hg1
  have HA := Lib.hid hA
  have HS := Lib.hid hs
  have HL := Lib.hid hl
  have HNM := Lib.hid (show (bs nm).size ≤ maxLen by rw [bs_size]; unfold maxLen; omega)
  obtain ⟨x0, x1, x2⟩ := V1.out.obox_at (i := 0) rfl
  clear hW1 hg1 hA hs hl hnm
  go_enter Tryz.func25, Tryz.ntmps25
  go_upto_region 1 with fail
  rw [← HG1.out, ← HW1.out]
  go_wp2_with fail
  refine (K.isname_any (bs nm) _ HNM.out).mono ?_
  rintro e w2 ⟨rfl, hw⟩
  subst hw
  rw [bs_list]
  cases hname : K.nameB nm with
  | false =>
    have HE := Lib.hid (vO_name (L := L) hname)
    clear hname
    go_wp2_with fail
    go_ret2
    exact ⟨by rw [HE.out]; rfl, V1.out.below⟩
  | true =>
  by_cases h0 : n = 0
  · have HE := Lib.hid (vO_empty (L := L) hname (by have := HL.out; omega))
    have e0 : ((n : Int) == 0) = true := by simp [h0]
    clear hname h0
    go_wp2_with fail
    go_ret2
    exact ⟨by rw [HE.out]; rfl, V1.out.below⟩
  have e0 : ((n : Int) == 0) = false := by simp [h0]
  by_cases h120 : 120 < n
  · have HE := Lib.hid (vO_big (L := L) hname (by have := HL.out; omega))
    clear hname h0
    go_wp2_with fail
    go_ret2
    exact ⟨by rw [HE.out]; rfl, V1.out.below⟩
  have HV := Lib.hid (vO_is (L := L) hname (by have := HL.out; omega) (by have := HL.out; omega))
  clear hname h0
  go_wp2_with fail
  go_loopw [25] (fun i wr => ∃ k : Nat, k ≤ n ∧ i = .int .i64 (k : Int) ∧ FInv L k ∧ Hp w [obox g1 nm A n c] wr) (fun i _ => n - (intOf i).toNat)
  case atStart => exact ⟨0, Nat.zero_le _, rfl, FInv.start L, V1.out⟩
  case round =>
    obtain ⟨k, hk, rfl, hinv, hV⟩ := hrel
    obtain ⟨wi, rfl⟩ : ∃ wi : World, wi = wr := ⟨_, rfl⟩
    have HI := Lib.hid hinv
    have V2 := Lib.hid hV
    clear hinv hV x0 x1 x2 V1
    by_cases hlt : k < n
    · obtain ⟨x, hx⟩ := get_at (L := L) (k := k) (by have := HL.out; omega)
      obtain ⟨b, off, Aj, cj, hAe, hb, c0, c1, c2, c3, c4⟩ := (HA.out.below V2.out.below).at hx
      have HX := Lib.hid hx
      have HC := Lib.hid c4
      have HAE := Lib.hid hAe
      obtain ⟨hb1, hb2, hb3⟩ := HS.out x (List.mem_of_getElem? hx)
      have HB3 := Lib.hid hb3
      obtain ⟨x0, x1, x2⟩ := V2.out.obox_at (i := 0) rfl
      rw [hAe] at x1
      have hk4 : k * 4 ≤ 480 := by omega
      obtain ⟨g2, hg2⟩ : ∃ z, z = wi.heap.size := ⟨_, rfl⟩
      obtain ⟨W2, hW2⟩ : ∃ z, z = wi.alloc (.cells #[.string (bs x.t), .slice Aj x.s.length cj, .int .i64 x.c, .int .i64 x.w] 34) := ⟨_, rfl⟩
      have V3 := Lib.hid (show Hp w [sgbox g2 (Aj, cj) x, obox g1 nm A n c] W2 by rw [hW2, hg2]; exact V2.out.sgbox_new Aj cj x)
      have HW2 := Lib.hid hW2
      have HG2 := Lib.hid hg2
      subst hAe
      clear hx c4 hb3 hW2 hg2
      go_upto_region 10 with fail
      rw [← HG2.out, ← HW2.out]
      clear c0 c1 c2 c3 x0 x1 x2 hb
      obtain ⟨y0, y1, y2, y3, y4⟩ := V3.out.sgbox_at (i := 0) rfl
      dsimp only at y1
      obtain ⟨x0, x1, x2⟩ := V3.out.obox_at (i := 1) rfl
      have B23 := Lib.hid (show Below wi.heap.size wi W2 by rw [HW2.out]; exact bnew _ _)
      go_wp2_with fail
      refine (sgfault_any x Aj cj _ hb1 (by omega) HB3.out (HC.out.below B23.out)).mono ?_
      rintro e w4 ⟨rfl, hb4⟩
      have V4 := Lib.hid (V3.out.go hb4)
      have B34 := Lib.hid (btwo B23.out hb4)
      clear hb4 y0 y1 y2 y3 y4 x0 x1 x2
      obtain ⟨y0, y1, y2, y3, y4⟩ := V4.out.sgbox_at (i := 0) rfl
      dsimp only at y1
      obtain ⟨x0, x1, x2⟩ := V4.out.obox_at (i := 1) rfl
      by_cases hv : sgE x = 0
      · rw [hv]
        have HV0 := Lib.hid hv
        have hkc : k ≤ c := by omega
        clear hv
        go_wp2_with fail
        refine (sgcont_any (L.take k) x g2 cj Aj (some ⟨b, off, none⟩) k c _ (by rw [List.length_take]; have := HL.out; omega) (by omega) (fun y hy => (HS.out y (List.mem_of_mem_take hy)).2.1) hb2 ((HA.out.take k).below V4.out.below) ⟨y0, y1, y2, y3, y4, HC.out.below B34.out⟩).mono ?_
        rintro e w5 ⟨rfl, hb5⟩
        have V5 := Lib.hid (V4.out.go hb5)
        clear hb5
        cases hlike : ((L.take k).any fun e => likeB e x) with
        | true =>
          have HE := Lib.hid (HI.out.like HX.out HV0.out hlike)
          clear hlike
          go_wp2_with fail
          go_ret2
          exact ⟨by rw [HV.out, HE.out]; rfl, V5.out.below⟩
        | false =>
          have HN := Lib.hid (HI.out.step HX.out HV0.out hlike)
          clear hlike
          go_wp2_with fail
          go_roundw
          case rel => exact ⟨k + 1, by omega, by go_num, HN.out, V5.out.tail⟩
          case measure => simp [intOf]; omega
      · have HE := Lib.hid (HI.out.err HX.out hv)
        obtain ⟨v, hvv⟩ : ∃ v, v = sgE x := ⟨_, rfl⟩
        rw [← hvv] at hv HE ⊢
        have e1 : (v != 0) = true := bne_yes hv
        clear hv hvv
        go_wp2_with fail
        go_ret2
        exact ⟨by rw [HV.out, HE.out]; rfl, V4.out.below⟩
    · have HE := Lib.hid (HI.out.fin (by have := HL.out; omega))
      obtain ⟨x0, x1, x2⟩ := V2.out.obox_at (i := 0) rfl
      go_wp2_with fail
      go_ret2
      exact ⟨by rw [HV.out, HE.out]; rfl, V2.out.below⟩
end Go.Proofs.YtfgnekbkcmpdiaaGreatDoor
