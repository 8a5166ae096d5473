/- Contract: Parse of the reference; what the statement SoundParse answers: true, whatever the input. -/
import Derived.Test.YtfgnekbkcmpdiaaGreatDoorUv
import Derived.Test.YtfgnekbkcmpdiaaGreatDoorUl
namespace Go.Proofs.YtfgnekbkcmpdiaaGreatDoor
open Go.RowKit
set_option linter.unusedVariables false
set_option linter.unusedSimpArgs false
set_option maxRecDepth 100000

set_option maxHeartbeats 8000000 in
theorem rparse_any (s : ByteArray) (w : World) (L : List Snd) (er : Int) (hv : prsV s.data.toList = (L, er)) (hs : s.size ≤ 140737488355328) :
    Calls Tryz.prog 28 #[.string s] w (PsPost L er w) := by
  by_cases hbig : 4000 < s.size
  · have HE := Lib.hid (prs_big (s := s.data.toList) (by rw [sizeB]; exact hbig))
    have HV := Lib.hid hv
    obtain rfl : er = 3 := by rw [HE.out] at hv; injection hv with _ h; exact h.symm
    clear hv
    go_enter Tryz.func28, Tryz.ntmps28
    go_wp2
    go_ret2
    exact ps_none HE.out HV.out (Below.refl _ _)
  · by_cases h0 : s.size = 0
    · have hl : s.data.toList = [] := List.eq_nil_of_length_eq_zero (by rw [sizeB]; exact h0)
      have HE := Lib.hid (show prsV s.data.toList = ([], 0) by rw [hl]; exact prs_nil)
      have HV := Lib.hid hv
      obtain rfl : er = 0 := by rw [HE.out] at hv; injection hv with _ h; exact h.symm
      have hx := empty_bs h0
      clear hv hl h0
      go_enter Tryz.func28, Tryz.ntmps28
      go_wp2
      go_ret2
      exact ps_none HE.out HV.out (Below.refl _ _)
    · have hx := full_bs (s := s) (by omega)
      have hne : s.data.toList ≠ [] := fun e => h0 (by rw [← sizeB, e]; rfl)
      have h4 : ¬ 4000 < s.data.toList.length := by rw [sizeB]; exact hbig
      have HNE := Lib.hid hne
      have H4 := Lib.hid h4
      obtain ⟨P, hP⟩ : ∃ P, P = splL isSp s.data.toList := ⟨_, rfl⟩
      obtain ⟨n, hn⟩ : ∃ n, n = P.length := ⟨_, rfl⟩
      have hn4 : n ≤ 4001 := by
        have h1 := splL_len isSp s.data.toList
        have h2 := List.countP_le_length (p := isSp) (l := s.data.toList)
        rw [sizeB] at h2
        rw [hn, hP, h1]; omega
      have hpl : ∀ p ∈ P, (bs p).size ≤ 4000 := fun p hp => by
        have := spl_size isSp (show p ∈ splL isSp s.data.toList by rw [← hP]; exact hp)
        rw [sizeB] at this
        rw [bs_size]; omega
      have HP := Lib.hid hP
      have HN := Lib.hid hn
      have HPL := Lib.hid hpl
      have HV := Lib.hid hv
      clear hv hn hP hpl hne h4
      go_enter Tryz.func28, Tryz.ntmps28
      go_wp2_with fail
      refine (rsplit_any s _ (by omega)).mono ?_
      rintro e w1 ⟨A, n1, c, rfl, hn1, hp1⟩
      obtain rfl : n1 = n := by rw [← hn1, HN.out, HP.out]
      rw [← HP.out] at hp1
      have V0 := Lib.hid (hp1.nil_row (snds none 0 0 []) rfl rfl rfl)
      clear hp1 hn1
      go_wp2_with fail
      go_loopw [4, 6] (fun v i wr => ∃ (k d : Nat) (B : Option Addr) (acc : List Snd), k ≤ n1 ∧ i = .int .i64 k ∧ v = .slice B k d ∧ acc.length = k ∧ (P.take k).map rdV = acc.map some ∧ Hp w [snds B k d acc, strs A n1 c P] wr) (fun _ i _ => n1 - (intOf i).toNat)
      case atStart => exact ⟨0, 0, none, [], Nat.zero_le _, rfl, rfl, rfl, rfl, V0.out⟩
      case round =>
        clear V0
        obtain ⟨k, d, B, acc, hk, rfl, rfl, hacc, hrd, hV⟩ := hrel
        have V := Lib.hid hV
        have HRD := Lib.hid hrd
        have HAC := Lib.hid hacc
        by_cases hlt : k < n1
        · obtain ⟨p, hp⟩ := idx_lt HN.out.symm hlt
          obtain ⟨b, off, rfl, hbl, c0⟩ := (hV.cells (i := 1) (A := A) (c := c) rfl rfl).str hp
          have HPP := Lib.hid hp
          have hps : (bs p).size ≤ 4000 := HPL.out p (List.mem_of_getElem? hp)
          clear hp hV hrd hacc
          go_wp2_with fail
          refine (rone_any (bs p) _ hps).mono ?_
          rintro e w3 ⟨y, bo, rfl, hcase, hb3⟩
          have V3 := Lib.hid (V.out.go hb3)
          clear hb3
          rcases hcase with ⟨rfl, hy⟩ | ⟨rfl, hy⟩
          · have HY := Lib.hid (rd_take HRD.out HPP.out (by rwa [bs_list] at hy))
            have V4 := Lib.hid (V3.out.sbox_new y)
            obtain ⟨x0, x1, x2, x3⟩ := V4.out.sbox_at (i := 0) rfl
            obtain ⟨w4, hw4⟩ : ∃ w4, w4 = w3.alloc (.cells #[.int .i64 y.k, .int .i64 y.q, .string (bs y.t)] 31) := ⟨_, rfl⟩
            have V4b := V4
            rw [← hw4] at V4b
            obtain ⟨wy, hwy⟩ : ∃ wy, wy = (w3.alloc (.cells #[.int .i64 y.k, .int .i64 y.q, .string (bs y.t)] 31)).alloc (.cells #[.int .i64 y.k, .int .i64 y.q, .string (bs y.t)] 31) := ⟨_, rfl⟩
            obtain ⟨gy, hgy⟩ : ∃ gy, gy = w3.heap.size + 1 := ⟨_, rfl⟩
            have V5 := Lib.hid (show Hp w [sbox gy y, sbox w3.heap.size y, snds B k d acc, strs (some ⟨b, off, none⟩) n1 c P] wy by
              have := V4.out.sbox_new y
              rw [show (w3.alloc (.cells #[.int .i64 y.k, .int .i64 y.q, .string (bs y.t)] 31)).heap.size = w3.heap.size + 1 by simp, ← hgy] at this
              rw [hwy]; exact this)
            obtain ⟨g6, cap6, w6, hr6, hv6, _⟩ := run_app_snd V5.out (i := 2) rfl 32 (b := gy) y (fun j u hu => (V5.out.box_at (i := 0) rfl hu).1) (by omega)
            have V6 := Lib.hid (show Hp w [snds (some ⟨g6, 0, none⟩) (k + 1) cap6 (acc ++ [y]), strs (some ⟨b, off, none⟩) n1 c P] w6 from hv6.tail.tail)
            have HR6 := Lib.hid hr6
            have HWY := Lib.hid hwy
            have HGY := Lib.hid hgy
            clear hy hw4 hwy hgy hr6 hv6
            go_wp2_with (at_builtin; rw [← HWY.out, ← HGY.out]; refine wpList_app_run rfl (.tmp 32) (.tmp 34) 32 rfl HR6.out rfl rfl ?_)
            go_roundw
            case rel => exact ⟨k + 1, cap6, _, acc ++ [y], by omega, by go_num, rfl, by rw [List.length_append, HAC.out]; rfl, HY.out, V6.out⟩
            case measure => simp [intOf]; omega
          · have HE := Lib.hid (prs_none H4.out HNE.out (by rw [← HP.out]; exact rdL_none HPP.out (by rwa [bs_list] at hy)))
            obtain rfl : er = 2 := by have := HV.out; rw [HE.out] at this; injection this with _ h; exact h.symm
            clear hy
            go_wp2_with fail
            go_ret2
            exact ps_none HE.out HV.out (btwo V3.out.below (bnew _ _))
        · obtain rfl : k = n1 := by omega
          by_cases h200 : 200 < k
          · have HE := Lib.hid (prs_many H4.out HNE.out (by rw [← HP.out, ← HN.out]; exact h200))
            obtain rfl : er = 2 := by have := HV.out; rw [HE.out] at this; injection this with _ h; exact h.symm
            have B9 := Lib.hid hV.below
            clear hV hrd hacc V
            go_wp2_with fail
            go_ret2
            exact ps_none HE.out HV.out B9.out
          · have HE := Lib.hid (show prsV s.data.toList = (acc, 0) from prs_ok H4.out HNE.out (by
              have := HRD.out
              rw [take_all HN.out.symm] at this
              rw [← HP.out]; exact this) (by rw [HAC.out]; exact h200))
            obtain ⟨rfl, rfl⟩ : acc = L ∧ er = 0 := by
              have := HV.out
              rw [HE.out] at this
              injection this with h1 h2
              exact ⟨h1, h2.symm⟩
            have V9 := Lib.hid (show Hp w [snds B k d acc] wr from hV.sub (fun i => i) (fun _ _ e => e) (fun i it hi => by
              cases i with
              | zero => exact hi
              | succ i => simp at hi))
            clear hV hrd hacc V
            go_wp2_with fail
            go_ret2
            exact ⟨_, k, d, rfl, HAC.out, V9.out⟩
theorem prs_len {s : List UInt8} {L : List Snd} {er : Int} (h : prsV s = (L, er)) : L.length ≤ 200 := by
  unfold prsV at h
  split at h
  · injection h with h _; subst h; simp
  · split at h
    · injection h with h _; subst h; simp
    · split at h
      · split at h
        · injection h with h _; subst h; simp
        · injection h with h _; subst h; omega
      · injection h with h _; subst h; simp
end Go.Proofs.YtfgnekbkcmpdiaaGreatDoor
