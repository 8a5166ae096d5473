/- Several texts in one: Ul, Uw, Oj. -/
import Derived.Test.YtpifchlpakajjaaGreatRtak
import Derived.ChangeOld
import Derived.Deep.Slices
import Derived.Deep.Strs
import Derived.ChangeSlices
import Derived.SizedLaws
import Derived.OpenShut
import Derived.SliceStrings
import Derived.ProofKit
import Derived.ShutString
import Derived.Deep.DeepHandedRow
import Derived.Shelf.Vars
import Derived.Test.YtpifchlpakajjaaGreatRtao
namespace Go.Proofs.YtpifchlpakajjaaGreat
open Go.RowKit
set_option linter.unusedVariables false
set_option linter.unusedSimpArgs false
set_option maxRecDepth 100000

open Go.ChangeShapes Go.WideShapes Go.ChangeAt
theorem byte_cells : Tryz.prog.cellsOf 5 = 1 := by kernel_rfl
theorem byte_bytes : Tryz.prog.bytesOf 5 = 1 := by kernel_rfl
theorem field_one {cs : List Value} {j : Nat} {v : Value} (h : (cs.drop j).take 1 = [v]) : cs[j]? = some v := by
  have h1 : ((cs.drop j).take 1)[0]? = some v := by rw [h]; rfl
  rw [List.getElem?_take_of_lt (by omega), List.getElem?_drop] at h1
  simpa using h1
def bytesC (B : List Int) : List Value := B.map (Value.int .u8)
theorem bytes_weights {H : Type} {el sp : List (DataW H)} (hw : ∀ m ∈ (DataW.slice el sp : DataW H).weights Tryz.prog 50, m ≤ reachBytes) : (el.length + sp.length) * 1 ≤ reachBytes := by
  have h1 : (el.length + sp.length) * Tryz.prog.bytesOf 5 ∈ (DataW.slice el sp : DataW H).weights Tryz.prog 50 := by
    simp [DataW.weights, Tryz.underlying50]
  have h2 := hw _ h1
  rwa [byte_bytes] at h2
end Go.Proofs.YtpifchlpakajjaaGreat

namespace Go.Proofs.YtpifchlpakajjaaGreat
open Go.RowKit
set_option linter.unusedVariables false
set_option linter.unusedSimpArgs false
set_option maxRecDepth 100000

set_option maxHeartbeats 8000000 in
theorem rparse_any (s : ByteArray) (w : World) (L : List Snd) (er : Int) (hv : prsV s.data.toList = (L, er)) (hs : s.size ≤ 140737488355328) :
    Calls Tryz.prog 110 #[.string s] w (PsPost L er w) := by
  by_cases hbig : 4000 < s.size
  · have HE := Lib.hid (prs_big (s := s.data.toList) (by rw [sizeB]; exact hbig))
    have HV := Lib.hid hv
    obtain rfl : er = 3 := by rw [HE.out] at hv; injection hv with _ h; exact h.symm
    clear hv
    go_enter Tryz.func110, Tryz.ntmps110
    go_wp2
    go_ret2
    exact ps_none HE.out HV.out (Below.refl _ _)
  · by_cases h0 : s.size = 0
    · have hl : s.data.toList = [] := List.eq_nil_of_length_eq_zero (by rw [sizeB]; exact h0)
      have HE := Lib.hid (show prsV s.data.toList = ([], 0) by rw [hl]; exact prs_nil)
      have HV := Lib.hid hv
      obtain rfl : er = 0 := by rw [HE.out] at hv; injection hv with _ h; exact h.symm
      have hx := empty_bs h0
      clear hv hl h0
      go_enter Tryz.func110, Tryz.ntmps110
      go_wp2
      go_ret2
      exact ps_none HE.out HV.out (Below.refl _ _)
    · have hx := full_bs (s := s) (by omega)
      have hne : s.data.toList ≠ [] := fun e => h0 (by rw [← sizeB, e]; rfl)
      have h4 : ¬ 4000 < s.data.toList.length := by rw [sizeB]; exact hbig
      have HNE := Lib.hid hne
      have H4 := Lib.hid h4
      obtain ⟨P, hP⟩ : ∃ P, P = splL isSp s.data.toList := ⟨_, rfl⟩
      obtain ⟨n, hn⟩ : ∃ n, n = P.length := ⟨_, rfl⟩
      have hn4 : n ≤ 4001 := by
        have h1 := splL_len isSp s.data.toList
        have h2 := List.countP_le_length (p := isSp) (l := s.data.toList)
        rw [sizeB] at h2
        rw [hn, hP, h1]; omega
      have hpl : ∀ p ∈ P, (bs p).size ≤ 4000 := fun p hp => by
        have := spl_size isSp (show p ∈ splL isSp s.data.toList by rw [← hP]; exact hp)
        rw [sizeB] at this
        rw [bs_size]; omega
      have HP := Lib.hid hP
      have HN := Lib.hid hn
      have HPL := Lib.hid hpl
      have HV := Lib.hid hv
      clear hv hn hP hpl hne h4
      go_enter Tryz.func110, Tryz.ntmps110
      go_wp2_with fail
      refine (rsplit_any s _ (by omega)).mono ?_
      rintro e w1 ⟨A, n1, c, rfl, hn1, hp1⟩
      obtain rfl : n1 = n := by rw [← hn1, HN.out, HP.out]
      rw [← HP.out] at hp1
      have V0 := Lib.hid (hp1.nil_row (snds none 0 0 []) rfl rfl rfl)
      clear hp1 hn1
      go_wp2_with fail
      go_loopw [4, 6] (fun v i wr => ∃ (k d : Nat) (B : Option Addr) (acc : List Snd), k ≤ n1 ∧ i = .int .i64 k ∧ v = .slice B k d ∧ acc.length = k ∧ (P.take k).map rdV = acc.map some ∧ Hp w [snds B k d acc, strs A n1 c P] wr) (fun _ i _ => n1 - (intOf i).toNat)
      case atStart => exact ⟨0, 0, none, [], Nat.zero_le _, rfl, rfl, rfl, rfl, V0.out⟩
      case round =>
        clear V0
        obtain ⟨k, d, B, acc, hk, rfl, rfl, hacc, hrd, hV⟩ := hrel
        have V := Lib.hid hV
        have HRD := Lib.hid hrd
        have HAC := Lib.hid hacc
        by_cases hlt : k < n1
        · obtain ⟨p, hp⟩ := idx_lt HN.out.symm hlt
          obtain ⟨b, off, rfl, hbl, c0⟩ := (hV.cells (i := 1) (A := A) (c := c) rfl rfl).str hp
          have HPP := Lib.hid hp
          have hps : (bs p).size ≤ 4000 := HPL.out p (List.mem_of_getElem? hp)
          clear hp hV hrd hacc
          go_wp2_with fail
          refine (rone_any (bs p) _ hps).mono ?_
          rintro e w3 ⟨y, bo, rfl, hcase, hb3⟩
          have V3 := Lib.hid (V.out.go hb3)
          clear hb3
          rcases hcase with ⟨rfl, hy⟩ | ⟨rfl, hy⟩
          · have HY := Lib.hid (rd_take HRD.out HPP.out (by rwa [bs_list] at hy))
            have V4 := Lib.hid (V3.out.sbox_new y)
            obtain ⟨x0, x1, x2, x3⟩ := V4.out.sbox_at (i := 0) rfl
            obtain ⟨w4, hw4⟩ : ∃ w4, w4 = w3.alloc (.cells #[.int .i64 y.k, .int .i64 y.q, .string (bs y.t)] 89) := ⟨_, rfl⟩
            have V4b := V4
            rw [← hw4] at V4b
            obtain ⟨wy, hwy⟩ : ∃ wy, wy = (w3.alloc (.cells #[.int .i64 y.k, .int .i64 y.q, .string (bs y.t)] 89)).alloc (.cells #[.int .i64 y.k, .int .i64 y.q, .string (bs y.t)] 89) := ⟨_, rfl⟩
            obtain ⟨gy, hgy⟩ : ∃ gy, gy = w3.heap.size + 1 := ⟨_, rfl⟩
            have V5 := Lib.hid (show Hp w [sbox gy y, sbox w3.heap.size y, snds B k d acc, strs (some ⟨b, off, none⟩) n1 c P] wy by
              have := V4.out.sbox_new y
              rw [show (w3.alloc (.cells #[.int .i64 y.k, .int .i64 y.q, .string (bs y.t)] 89)).heap.size = w3.heap.size + 1 by simp, ← hgy] at this
              rw [hwy]; exact this)
            obtain ⟨g6, cap6, w6, hr6, hv6, _⟩ := run_app_snd V5.out (i := 2) rfl 41 (b := gy) y (fun j u hu => (V5.out.box_at (i := 0) rfl hu).1) (by omega)
            have V6 := Lib.hid (show Hp w [snds (some ⟨g6, 0, none⟩) (k + 1) cap6 (acc ++ [y]), strs (some ⟨b, off, none⟩) n1 c P] w6 from hv6.tail.tail)
            have HR6 := Lib.hid hr6
            have HWY := Lib.hid hwy
            have HGY := Lib.hid hgy
            clear hy hw4 hwy hgy hr6 hv6
            go_wp2_with (at_builtin; rw [← HWY.out, ← HGY.out]; refine wpList_app_run rfl (.tmp 32) (.tmp 34) 41 rfl HR6.out rfl rfl ?_)
            go_roundw
            case rel => exact ⟨k + 1, cap6, _, acc ++ [y], by omega, by go_num, rfl, by rw [List.length_append, HAC.out]; rfl, HY.out, V6.out⟩
            case measure => simp [intOf]; omega
          · have HE := Lib.hid (prs_none H4.out HNE.out (by rw [← HP.out]; exact rdL_none HPP.out (by rwa [bs_list] at hy)))
            obtain rfl : er = 2 := by have := HV.out; rw [HE.out] at this; injection this with _ h; exact h.symm
            clear hy
            go_wp2_with fail
            go_ret2
            exact ps_none HE.out HV.out (btwo V3.out.below (bnew _ _))
        · obtain rfl : k = n1 := by omega
          by_cases h200 : 200 < k
          · have HE := Lib.hid (prs_many H4.out HNE.out (by rw [← HP.out, ← HN.out]; exact h200))
            obtain rfl : er = 2 := by have := HV.out; rw [HE.out] at this; injection this with _ h; exact h.symm
            have B9 := Lib.hid hV.below
            clear hV hrd hacc V
            go_wp2_with fail
            go_ret2
            exact ps_none HE.out HV.out B9.out
          · have HE := Lib.hid (show prsV s.data.toList = (acc, 0) from prs_ok H4.out HNE.out (by
              have := HRD.out
              rw [take_all HN.out.symm] at this
              rw [← HP.out]; exact this) (by rw [HAC.out]; exact h200))
            obtain ⟨rfl, rfl⟩ : acc = L ∧ er = 0 := by
              have := HV.out
              rw [HE.out] at this
              injection this with h1 h2
              exact ⟨h1, h2.symm⟩
            have V9 := Lib.hid (show Hp w [snds B k d acc] wr from hV.sub (fun i => i) (fun _ _ e => e) (fun i it hi => by
              cases i with
              | zero => exact hi
              | succ i => simp at hi))
            clear hV hrd hacc V
            go_wp2_with fail
            go_ret2
            exact ⟨_, k, d, rfl, HAC.out, V9.out⟩
end Go.Proofs.YtpifchlpakajjaaGreat

namespace Go.Proofs.YtpifchlpakajjaaGreat
open Go.RowKit
set_option linter.unusedVariables false
set_option linter.unusedSimpArgs false
set_option maxRecDepth 100000

def begB : List Snd → Bool
  | [] => false
  | x :: _ => nuc x
def endB (l : List Snd) : Bool := match l.getLast? with
  | none => false
  | some x => nuc x
def whV (wv : Int) (e a b : Bool) : Bool := if wv = 0 then true else if wv = 1 then a else if wv = 2 then (e && a) else if wv = 3 then (b && a) else if wv = 4 then !a else false
def whB (wv : Int) (B A : List Snd) : Bool := whV wv (B.length == 0) (begB A) (endB B)
theorem begB_at {l : List Snd} {x : Snd} (h : l[0]? = some x) : begB l = nuc x := by
  cases l with
  | nil => simp at h
  | cons y r => have e : y = x := by simpa using h
                subst e; rfl
theorem endB_at {l : List Snd} {k : Nat} {x : Snd} (hl : l.length = k + 1) (h : l[k]? = some x) : endB l = nuc x := by
  unfold endB
  rw [List.getLast?_eq_getElem?, hl, Nat.add_sub_cancel, h]
theorem nil_of {α : Type} {l : List α} (h : l.length = 0) : l = [] := List.eq_nil_of_length_eq_zero h
theorem wh_out {wv : Int} {e a b : Bool} (h0 : ¬ wv = 0) (h1 : ¬ wv = 1) (h2 : ¬ wv = 2) (h3 : ¬ wv = 3) (h4 : ¬ wv = 4) : whV wv e a b = false := by
  unfold whV; rw [if_neg h0, if_neg h1, if_neg h2, if_neg h3, if_neg h4]
end Go.Proofs.YtpifchlpakajjaaGreat
