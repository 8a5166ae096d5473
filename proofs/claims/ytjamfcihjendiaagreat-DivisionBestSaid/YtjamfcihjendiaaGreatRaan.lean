/- Several texts in one: Ul, Uw, Oj, JA. -/
import Derived.Test.YtjamfcihjendiaaGreatRaai
import Derived.ChangeOld
import Derived.Deep.Slices
import Derived.Deep.Strs
import Derived.ChangeSlices
import Derived.SizedLaws
import Derived.OpenShut
import Derived.SliceStrings
import Derived.ProofKit
import Derived.ShutString
import Derived.Deep.DeepHandedRow
import Derived.Shelf.Vars
import Derived.Test.YtjamfcihjendiaaGreatRaam
namespace Go.Proofs.YtjamfcihjendiaaGreat
open Go.RowKit
set_option linter.unusedVariables false
set_option linter.unusedSimpArgs false
set_option maxRecDepth 100000

open Go.ChangeShapes Go.WideShapes Go.ChangeAt
theorem snd_cells : Tryz.prog.cellsOf 96 = 3 := by kernel_rfl
theorem snd_bytes : Tryz.prog.bytesOf 96 = 32 := by kernel_rfl
theorem str_cells : Tryz.prog.cellsOf 9 = 1 := by kernel_rfl
theorem field_one {cs : List Value} {j : Nat} {v : Value} (h : (cs.drop j).take 1 = [v]) : cs[j]? = some v := by
  have h1 : ((cs.drop j).take 1)[0]? = some v := by rw [h]; rfl
  rw [List.getElem?_take_of_lt (by omega), List.getElem?_drop] at h1
  simpa using h1
theorem open_sndc {H : Type} {enc : TypeId × Value → H} {W : World} {fuel : Nat} {cs : List Value} {d : DataW H} {p : List MemPlace} (h : DataW.trod enc Tryz.prog W 0 (fun _ => true) true fuel 96 cs = some (d, p)) :
    ∃ x : Snd, cs[0]? = some (.int .i64 x.k) ∧ cs[1]? = some (.int .i64 x.q) ∧ cs[2]? = some (.string (bs x.t)) ∧ x.t.length ∈ d.weights Tryz.prog 96 := by
  obtain ⟨y0, y1, y2, n, hx, hl, h0, h1, h2⟩ := Go.Deep.trod_struct3 Tryz.underlying96 h
  simp only [int_cells, str_cells] at h0 h1 h2
  obtain ⟨k, hk, hy0, _⟩ := DataW.trod_int Tryz.underlying3 h0
  obtain ⟨q, hq, hy1, _⟩ := DataW.trod_int Tryz.underlying3 h1
  obtain ⟨s, hs, hy2, _⟩ := DataW.trod_string Tryz.underlying9 h2
  refine ⟨⟨k, q, s.data.toList⟩, field_one hk, field_one hq, ?_, ?_⟩
  · rw [field_one hs]; exact congrArg (fun b => some (Value.string b)) (bs_self s).symm
  · injection hx with hd _
    rw [hd, hy0, hy1, hy2]
    simp [DataW.weights, Tryz.underlying96, DataW.weightsEach]
theorem snds_split : ∀ {L : List Snd} {i : Nat} {u : Value}, (sndsC L)[i]? = some u → ∃ (j : Nat) (x : Snd), L[j]? = some x ∧ ((i = j * 3 ∧ u = .int .i64 x.k) ∨ (i = j * 3 + 1 ∧ u = .int .i64 x.q) ∨ (i = j * 3 + 2 ∧ u = .string (bs x.t)))
  | [], i, u, h => by simp [sndsC] at h
  | y :: r, 0, u, h => ⟨0, y, rfl, Or.inl ⟨rfl, by simpa [sndsC, sndC] using h.symm⟩⟩
  | y :: r, 1, u, h => ⟨0, y, rfl, Or.inr (Or.inl ⟨rfl, by simpa [sndsC, sndC] using h.symm⟩)⟩
  | y :: r, 2, u, h => ⟨0, y, rfl, Or.inr (Or.inr ⟨rfl, by simpa [sndsC, sndC] using h.symm⟩)⟩
  | y :: r, i + 3, u, h => by
    have h' : (sndsC r)[i]? = some u := by simpa [sndsC, sndC] using h
    obtain ⟨j, x, hx, hc⟩ := snds_split h'
    refine ⟨j + 1, x, by simpa using hx, ?_⟩
    rcases hc with ⟨a, b⟩ | ⟨a, b⟩ | ⟨a, b⟩
    · exact Or.inl ⟨by omega, b⟩
    · exact Or.inr (Or.inl ⟨by omega, b⟩)
    · exact Or.inr (Or.inr ⟨by omega, b⟩)
end Go.Proofs.YtjamfcihjendiaaGreat

namespace Go.Proofs.YtjamfcihjendiaaGreat
open Go.RowKit
set_option linter.unusedVariables false
set_option linter.unusedSimpArgs false
set_option maxRecDepth 100000

set_option maxHeartbeats 8000000 in
theorem rparse_any (s : ByteArray) (w : World) (L : List Snd) (er : Int) (hv : prsV s.data.toList = (L, er)) (hs : s.size ≤ 140737488355328) :
    Calls Tryz.prog 68 #[.string s] w (PsPost L er w) := by
  by_cases hbig : 4000 < s.size
  · have HE := Lib.hid (prs_big (s := s.data.toList) (by rw [sizeB]; exact hbig))
    have HV := Lib.hid hv
    obtain rfl : er = 3 := by rw [HE.out] at hv; injection hv with _ h; exact h.symm
    clear hv
    go_enter Tryz.func68, Tryz.ntmps68
    go_wp2
    go_ret2
    exact ps_none HE.out HV.out (Below.refl _ _)
  · by_cases h0 : s.size = 0
    · have hl : s.data.toList = [] := List.eq_nil_of_length_eq_zero (by rw [sizeB]; exact h0)
      have HE := Lib.hid (show prsV s.data.toList = ([], 0) by rw [hl]; exact prs_nil)
      have HV := Lib.hid hv
      obtain rfl : er = 0 := by rw [HE.out] at hv; injection hv with _ h; exact h.symm
      have hx := empty_bs h0
      clear hv hl h0
      go_enter Tryz.func68, Tryz.ntmps68
      go_wp2
      go_ret2
      exact ps_none HE.out HV.out (Below.refl _ _)
    · have hx := full_bs (s := s) (by omega)
      have hne : s.data.toList ≠ [] := fun e => h0 (by rw [← sizeB, e]; rfl)
      have h4 : ¬ 4000 < s.data.toList.length := by rw [sizeB]; exact hbig
      have HNE := Lib.hid hne
      have H4 := Lib.hid h4
      obtain ⟨P, hP⟩ : ∃ P, P = splL isSp s.data.toList := ⟨_, rfl⟩
      obtain ⟨n, hn⟩ : ∃ n, n = P.length := ⟨_, rfl⟩
      have hn4 : n ≤ 4001 := by
        have h1 := splL_len isSp s.data.toList
        have h2 := List.countP_le_length (p := isSp) (l := s.data.toList)
        rw [sizeB] at h2
        rw [hn, hP, h1]; omega
      have hpl : ∀ p ∈ P, (bs p).size ≤ 4000 := fun p hp => by
        have := spl_size isSp (show p ∈ splL isSp s.data.toList by rw [← hP]; exact hp)
        rw [sizeB] at this
        rw [bs_size]; omega
      have HP := Lib.hid hP
      have HN := Lib.hid hn
      have HPL := Lib.hid hpl
      have HV := Lib.hid hv
      clear hv hn hP hpl hne h4
      go_enter Tryz.func68, Tryz.ntmps68
      go_wp2_with fail
      refine (rsplit_any s _ (by omega)).mono ?_
      rintro e w1 ⟨A, n1, c, rfl, hn1, hp1⟩
      obtain rfl : n1 = n := by rw [← hn1, HN.out, HP.out]
      rw [← HP.out] at hp1
      have V0 := Lib.hid (hp1.nil_row (snds none 0 0 []) rfl rfl rfl)
      clear hp1 hn1
      go_wp2_with fail
      go_loopw [4, 6] (fun v i wr => ∃ (k d : Nat) (B : Option Addr) (acc : List Snd), k ≤ n1 ∧ i = .int .i64 k ∧ v = .slice B k d ∧ acc.length = k ∧ (P.take k).map rdV = acc.map some ∧ Hp w [snds B k d acc, strs A n1 c P] wr) (fun _ i _ => n1 - (intOf i).toNat)
      case atStart => exact ⟨0, 0, none, [], Nat.zero_le _, rfl, rfl, rfl, rfl, V0.out⟩
      case round =>
        clear V0
        obtain ⟨k, d, B, acc, hk, rfl, rfl, hacc, hrd, hV⟩ := hrel
        have V := Lib.hid hV
        have HRD := Lib.hid hrd
        have HAC := Lib.hid hacc
        by_cases hlt : k < n1
        · obtain ⟨p, hp⟩ := idx_lt HN.out.symm hlt
          obtain ⟨b, off, rfl, hbl, c0⟩ := (hV.cells (i := 1) (A := A) (c := c) rfl rfl).str hp
          have HPP := Lib.hid hp
          have hps : (bs p).size ≤ 4000 := HPL.out p (List.mem_of_getElem? hp)
          clear hp hV hrd hacc
          go_wp2_with fail
          refine (rone_any (bs p) _ hps).mono ?_
          rintro e w3 ⟨y, bo, rfl, hcase, hb3⟩
          have V3 := Lib.hid (V.out.go hb3)
          clear hb3
          rcases hcase with ⟨rfl, hy⟩ | ⟨rfl, hy⟩
          · have HY := Lib.hid (rd_take HRD.out HPP.out (by rwa [bs_list] at hy))
            have V4 := Lib.hid (V3.out.sbox_new y)
            obtain ⟨x0, x1, x2, x3⟩ := V4.out.sbox_at (i := 0) rfl
            obtain ⟨w4, hw4⟩ : ∃ w4, w4 = w3.alloc (.cells #[.int .i64 y.k, .int .i64 y.q, .string (bs y.t)] 96) := ⟨_, rfl⟩
            have V4b := V4
            rw [← hw4] at V4b
            obtain ⟨wy, hwy⟩ : ∃ wy, wy = (w3.alloc (.cells #[.int .i64 y.k, .int .i64 y.q, .string (bs y.t)] 96)).alloc (.cells #[.int .i64 y.k, .int .i64 y.q, .string (bs y.t)] 96) := ⟨_, rfl⟩
            obtain ⟨gy, hgy⟩ : ∃ gy, gy = w3.heap.size + 1 := ⟨_, rfl⟩
            have V5 := Lib.hid (show Hp w [sbox gy y, sbox w3.heap.size y, snds B k d acc, strs (some ⟨b, off, none⟩) n1 c P] wy by
              have := V4.out.sbox_new y
              rw [show (w3.alloc (.cells #[.int .i64 y.k, .int .i64 y.q, .string (bs y.t)] 96)).heap.size = w3.heap.size + 1 by simp, ← hgy] at this
              rw [hwy]; exact this)
            obtain ⟨g6, cap6, w6, hr6, hv6, _⟩ := run_app_snd V5.out (i := 2) rfl 62 (b := gy) y (fun j u hu => (V5.out.box_at (i := 0) rfl hu).1) (by omega)
            have V6 := Lib.hid (show Hp w [snds (some ⟨g6, 0, none⟩) (k + 1) cap6 (acc ++ [y]), strs (some ⟨b, off, none⟩) n1 c P] w6 from hv6.tail.tail)
            have HR6 := Lib.hid hr6
            have HWY := Lib.hid hwy
            have HGY := Lib.hid hgy
            clear hy hw4 hwy hgy hr6 hv6
            go_wp2_with (at_builtin; rw [← HWY.out, ← HGY.out]; refine wpList_app_run rfl (.tmp 32) (.tmp 34) 62 rfl HR6.out rfl rfl ?_)
            go_roundw
            case rel => exact ⟨k + 1, cap6, _, acc ++ [y], by omega, by go_num, rfl, by rw [List.length_append, HAC.out]; rfl, HY.out, V6.out⟩
            case measure => simp [intOf]; omega
          · have HE := Lib.hid (prs_none H4.out HNE.out (by rw [← HP.out]; exact rdL_none HPP.out (by rwa [bs_list] at hy)))
            obtain rfl : er = 2 := by have := HV.out; rw [HE.out] at this; injection this with _ h; exact h.symm
            clear hy
            go_wp2_with fail
            go_ret2
            exact ps_none HE.out HV.out (btwo V3.out.below (bnew _ _))
        · obtain rfl : k = n1 := by omega
          by_cases h200 : 200 < k
          · have HE := Lib.hid (prs_many H4.out HNE.out (by rw [← HP.out, ← HN.out]; exact h200))
            obtain rfl : er = 2 := by have := HV.out; rw [HE.out] at this; injection this with _ h; exact h.symm
            have B9 := Lib.hid hV.below
            clear hV hrd hacc V
            go_wp2_with fail
            go_ret2
            exact ps_none HE.out HV.out B9.out
          · have HE := Lib.hid (show prsV s.data.toList = (acc, 0) from prs_ok H4.out HNE.out (by
              have := HRD.out
              rw [take_all HN.out.symm] at this
              rw [← HP.out]; exact this) (by rw [HAC.out]; exact h200))
            obtain ⟨rfl, rfl⟩ : acc = L ∧ er = 0 := by
              have := HV.out
              rw [HE.out] at this
              injection this with h1 h2
              exact ⟨h1, h2.symm⟩
            have V9 := Lib.hid (show Hp w [snds B k d acc] wr from hV.sub (fun i => i) (fun _ _ e => e) (fun i it hi => by
              cases i with
              | zero => exact hi
              | succ i => simp at hi))
            clear hV hrd hacc V
            go_wp2_with fail
            go_ret2
            exact ⟨_, k, d, rfl, HAC.out, V9.out⟩
end Go.Proofs.YtjamfcihjendiaaGreat

namespace Go.Proofs.YtjamfcihjendiaaGreat
open Go.RowKit
set_option linter.unusedVariables false
set_option linter.unusedSimpArgs false
set_option maxRecDepth 100000

def begB : List Snd → Bool
  | [] => false
  | x :: _ => nuc x
def endB (l : List Snd) : Bool := match l.getLast? with
  | none => false
  | some x => nuc x
def whV (wv : Int) (e a b : Bool) : Bool := if wv = 0 then true else if wv = 1 then a else if wv = 2 then (e && a) else if wv = 3 then (b && a) else if wv = 4 then !a else false
def whB (wv : Int) (B A : List Snd) : Bool := whV wv (B.length == 0) (begB A) (endB B)
theorem begB_at {l : List Snd} {x : Snd} (h : l[0]? = some x) : begB l = nuc x := by
  cases l with
  | nil => simp at h
  | cons y r => have e : y = x := by simpa using h
                subst e; rfl
theorem endB_at {l : List Snd} {k : Nat} {x : Snd} (hl : l.length = k + 1) (h : l[k]? = some x) : endB l = nuc x := by
  unfold endB
  rw [List.getLast?_eq_getElem?, hl, Nat.add_sub_cancel, h]
theorem nil_of {α : Type} {l : List α} (h : l.length = 0) : l = [] := List.eq_nil_of_length_eq_zero h
theorem wh_out {wv : Int} {e a b : Bool} (h0 : ¬ wv = 0) (h1 : ¬ wv = 1) (h2 : ¬ wv = 2) (h3 : ¬ wv = 3) (h4 : ¬ wv = 4) : whV wv e a b = false := by
  unfold whV; rw [if_neg h0, if_neg h1, if_neg h2, if_neg h3, if_neg h4]
set_option maxHeartbeats 2000000 in
theorem rbegins_any (l : List Snd) (A : Option Addr) (n c : Nat) (w : World) (hl : l.length = n) (hn : n ≤ 1000000000000) (hA : CellsIn w A (sndsC l)) :
    Calls Tryz.prog 65 #[.slice A n c] w fun e w' => e = .returned (.bool (begB l)) ∧ Below w.heap.size w w' := by
  by_cases h0 : n = 0
  · subst h0
    have HE := Lib.hid (show begB l = false by rw [nil_of hl]; rfl)
    clear hl hA
    go_enter Tryz.func65, Tryz.ntmps65
    go_wp2_with fail
    go_ret
    exact ⟨ret_bool HE.out.symm, Below.refl _ _⟩
  · obtain ⟨m, rfl⟩ : ∃ m, n = m + 1 := ⟨n - 1, by omega⟩
    obtain ⟨x, hx⟩ := get_at (L := l) (k := 0) (by omega)
    obtain ⟨b, off, rfl, hb, c0, c1, c2⟩ := hA.snd hx
    have HE := Lib.hid (show begB l = nuc x from begB_at hx)
    have ep : (0 : Int) < ((m + 1 : Nat) : Int) := by omega
    have hw : IntKind.i64.wrap (((m + 1 : Nat) : Int) - 1) = (m : Int) := by rw [IntWalk.i64_in _ (by omega)]; omega
    have hw' : IntKind.i64.wrap ((m : Int) + 1 - 1) = (m : Int) := by rw [IntWalk.i64_in _ (by omega)]; omega
    have hk3 : m * 3 ≤ 3000000000000 := by omega
    try simp only [Nat.zero_mul, Nat.add_zero] at c0 c1 c2
    clear hl hA h0 hx
    go_enter Tryz.func65, Tryz.ntmps65
    go_wp2_with fail
    refine (rnucleus_any x _).mono ?_
    rintro e w1 ⟨rfl, hb1⟩
    have B1 := Lib.hid hb1
    clear hb1
    go_wp2_with fail
    go_ret
    exact ⟨ret_bool HE.out.symm, B1.out⟩
set_option maxHeartbeats 2000000 in
theorem rends_any (l : List Snd) (A : Option Addr) (n c : Nat) (w : World) (hl : l.length = n) (hn : n ≤ 1000000000000) (hA : CellsIn w A (sndsC l)) :
    Calls Tryz.prog 66 #[.slice A n c] w fun e w' => e = .returned (.bool (endB l)) ∧ Below w.heap.size w w' := by
  by_cases h0 : n = 0
  · subst h0
    have HE := Lib.hid (show endB l = false by rw [nil_of hl]; rfl)
    clear hl hA
    go_enter Tryz.func66, Tryz.ntmps66
    go_wp2_with fail
    go_ret
    exact ⟨ret_bool HE.out.symm, Below.refl _ _⟩
  · obtain ⟨m, rfl⟩ : ∃ m, n = m + 1 := ⟨n - 1, by omega⟩
    obtain ⟨x, hx⟩ := get_at (L := l) (k := m) (by omega)
    obtain ⟨b, off, rfl, hb, c0, c1, c2⟩ := hA.snd hx
    have HE := Lib.hid (show endB l = nuc x from endB_at hl hx)
    have ep : (0 : Int) < ((m + 1 : Nat) : Int) := by omega
    have hw : IntKind.i64.wrap (((m + 1 : Nat) : Int) - 1) = (m : Int) := by rw [IntWalk.i64_in _ (by omega)]; omega
    have hw' : IntKind.i64.wrap ((m : Int) + 1 - 1) = (m : Int) := by rw [IntWalk.i64_in _ (by omega)]; omega
    have hk3 : m * 3 ≤ 3000000000000 := by omega
    try simp only [Nat.zero_mul, Nat.add_zero] at c0 c1 c2
    clear hl hA h0 hx
    go_enter Tryz.func66, Tryz.ntmps66
    go_wp2_with fail
    refine (rnucleus_any x _).mono ?_
    rintro e w1 ⟨rfl, hb1⟩
    have B1 := Lib.hid hb1
    clear hb1
    go_wp2_with fail
    go_ret
    exact ⟨ret_bool HE.out.symm, B1.out⟩
end Go.Proofs.YtjamfcihjendiaaGreat

namespace Go.Proofs.YtjamfcihjendiaaGreat
open Go.RowKit
set_option linter.unusedVariables false
set_option linter.unusedSimpArgs false
set_option maxRecDepth 100000

def sgAt (L : List Sg) (i : Nat) : Sg := L.getD i zSg
theorem sgAt_is {L : List Sg} {i : Nat} {x : Sg} (h : L[i]? = some x) : sgAt L i = x := by unfold sgAt; rw [List.getD_eq_getElem?_getD, h]; rfl
theorem sgAt_get {L : List Sg} {i : Nat} (h : i < L.length) : L[i]? = some (sgAt L i) := by
  unfold sgAt; rw [List.getD_eq_getElem?_getD, List.getElem?_eq_getElem h]; rfl
def tD (L : List Sg) (d : List Nat) : List UInt8 := d.flatMap fun i => (sgAt L i).t
def cD (L : List Sg) : List Nat → Int
  | [] => 0
  | i :: r => (sgAt L i).c + cD L r
theorem tD_cons (L : List Sg) (i : Nat) (r : List Nat) : tD L (i :: r) = (sgAt L i).t ++ tD L r := by unfold tD; rw [List.flatMap_cons]
theorem cD_cons (L : List Sg) (i : Nat) (r : List Nat) : cD L (i :: r) = (sgAt L i).c + cD L r := rfl
theorem cD_snoc (L : List Sg) : ∀ (d : List Nat) (i : Nat), cD L (d ++ [i]) = cD L d + (sgAt L i).c
  | [], i => by simp [cD]
  | j :: r, i => by rw [List.cons_append, cD_cons, cD_cons, cD_snoc L r i]; omega
def okD (L : List Sg) : List Snd → List Nat → Bool
  | _, [] => true
  | B, [i] => whB (sgAt L i).w B []
  | B, i :: j :: r => whB (sgAt L i).w B (sgAt L j).s && okD L (sgAt L i).s (j :: r)
def isD (L : List Sg) (u : List UInt8) (B : List Snd) (d : List Nat) : Prop := (∀ i ∈ d, i < L.length) ∧ tD L d = u ∧ okD L B d = true
def stL (L : List Sg) (u : List UInt8) : List Nat := (List.range L.length).filter fun i => (sgAt L i).t.isPrefixOf u
theorem stL_mem {L : List Sg} {u : List UInt8} {i : Nat} : i ∈ stL L u ↔ i < L.length ∧ (sgAt L i).t <+: u := by
  unfold stL
  rw [List.mem_filter, List.mem_range, List.isPrefixOf_iff_prefix]
theorem stL_nodup (L : List Sg) (u : List UInt8) : (stL L u).Nodup := List.Pairwise.sublist List.filter_sublist List.nodup_range
def bh (L : List Sg) : Nat → Nat → List UInt8 → List Snd → List (List Nat)
  | 0, _, _, _ => []
  | f + 1, i, u, B =>
    let v := u.drop (sgAt L i).t.length
    if v.length = 0 then (if whB (sgAt L i).w B [] = true then [[i]] else [])
    else (stL L v).flatMap fun k => if whB (sgAt L i).w B (sgAt L k).s = true then (bh L f k v (sgAt L i).s).map (i :: ·) else []
theorem bh_end {L : List Sg} {f i : Nat} {u : List UInt8} {B : List Snd} (h : (u.drop (sgAt L i).t.length).length = 0) : bh L (f + 1) i u B = if whB (sgAt L i).w B [] = true then [[i]] else [] := by
  rw [bh, if_pos h]
theorem bh_on {L : List Sg} {f i : Nat} {u : List UInt8} {B : List Snd} (h : ¬ (u.drop (sgAt L i).t.length).length = 0) : bh L (f + 1) i u B = (stL L (u.drop (sgAt L i).t.length)).flatMap fun k => if whB (sgAt L i).w B (sgAt L k).s = true then (bh L f k (u.drop (sgAt L i).t.length) (sgAt L i).s).map (i :: ·) else [] := by
  rw [bh, if_neg h]
def TxNe (L : List Sg) : Prop := ∀ x ∈ L, 0 < x.t.length
theorem TxNe.at {L : List Sg} (h : TxNe L) {i : Nat} (hi : i < L.length) : 0 < (sgAt L i).t.length := h _ (List.mem_of_getElem? (sgAt_get hi))
theorem bh_mem {L : List Sg} (hne : TxNe L) : ∀ (f i : Nat) (u : List UInt8) (B : List Snd), u.length ≤ f → i < L.length → (sgAt L i).t <+: u → ∀ d, d ∈ bh L f i u B ↔ ∃ r, d = i :: r ∧ isD L u B d
  | 0, i, u, B, hf, hi, hp, d => by
    have := hne.at hi
    have := hp.length_le
    omega
  | f + 1, i, u, B, hf, hi, hp, d => by
    have h0 := hne.at hi
    have hle := hp.length_le
    have hu : u = (sgAt L i).t ++ u.drop (sgAt L i).t.length := by
      obtain ⟨s, hs⟩ := hp
      rw [← hs, List.drop_left]
    have hdl : (u.drop (sgAt L i).t.length).length = u.length - (sgAt L i).t.length := List.length_drop
    obtain ⟨v, hv⟩ : ∃ v, v = u.drop (sgAt L i).t.length := ⟨_, rfl⟩
    rw [← hv] at hu hdl
    by_cases hz : v.length = 0
    · rw [bh_end (by rw [← hv]; exact hz)]
      have hv0 := List.eq_nil_of_length_eq_zero hz
      constructor
      · intro h
        split at h
        · rename_i hw
          rw [List.mem_singleton] at h
          subst h
          refine ⟨[], rfl, fun j hj => by rw [List.mem_singleton.1 hj]; exact hi, ?_, hw⟩
          rw [tD_cons, hu, hv0]; rfl
        · cases h
      · rintro ⟨r, rfl, h1, h2, h3⟩
        have hr : r = [] := by
          match r with
          | [] => rfl
          | j :: r' =>
            rw [tD_cons, hu, hv0] at h2
            have h2 := List.append_cancel_left h2
            rw [tD_cons] at h2
            have hj := hne.at (h1 j (List.mem_cons_of_mem _ List.mem_cons_self))
            have := congrArg List.length h2
            rw [List.length_append, List.length_nil] at this
            omega
        subst hr
        have h3 : whB (sgAt L i).w B [] = true := h3
        rw [if_pos h3]
        exact List.mem_singleton.2 rfl
    · rw [bh_on (by rw [← hv]; exact hz), ← hv, List.mem_flatMap]
      constructor
      · rintro ⟨k, hk, h⟩
        obtain ⟨hkl, hkp⟩ := stL_mem.1 hk
        split at h
        · rename_i hw
          obtain ⟨e, he, rfl⟩ := List.mem_map.1 h
          obtain ⟨r, rfl, g1, g2, g3⟩ := (bh_mem hne f k v (sgAt L i).s (by omega) hkl hkp e).1 he
          refine ⟨k :: r, rfl, fun j hj => ?_, ?_, ?_⟩
          · rcases List.mem_cons.1 hj with rfl | hj
            · exact hi
            · exact g1 j hj
          · rw [tD_cons, g2, ← hu]
          · rw [okD, hw, g3]; rfl
        · cases h
      · rintro ⟨r, rfl, h1, h2, h3⟩
        match r, h1, h2, h3 with
        | [], h1, h2, h3 =>
          rw [tD_cons, hu] at h2
          have h2 := List.append_cancel_left h2
          have : v = [] := by rw [← h2]; rfl
          rw [this] at hz; exact absurd rfl hz
        | k :: r', h1, h2, h3 =>
          rw [tD_cons, hu] at h2
          have h2 := List.append_cancel_left h2
          rw [okD, Bool.and_eq_true] at h3
          have hkl := h1 k (List.mem_cons_of_mem _ List.mem_cons_self)
          have hkp : (sgAt L k).t <+: v := ⟨tD L r', by rw [← h2, tD_cons]⟩
          refine ⟨k, stL_mem.2 ⟨hkl, hkp⟩, ?_⟩
          rw [if_pos h3.1]
          exact List.mem_map.2 ⟨k :: r', (bh_mem hne f k v (sgAt L i).s (by omega) hkl hkp _).2 ⟨r', rfl, fun j hj => h1 j (List.mem_cons_of_mem _ hj), h2, h3.2⟩, rfl⟩
theorem bh_head {L : List Sg} (hne : TxNe L) {f i : Nat} {u : List UInt8} {B : List Snd} (hf : u.length ≤ f) (hi : i < L.length) (hp : (sgAt L i).t <+: u) {d : List Nat} (h : d ∈ bh L f i u B) : ∃ r, d = i :: r := by
  obtain ⟨r, e, _⟩ := (bh_mem hne f i u B hf hi hp d).1 h
  exact ⟨r, e⟩
theorem nodup_flat {α β : Type} {g : α → List β} : ∀ {l : List α}, l.Nodup → (∀ a ∈ l, (g a).Nodup) → (∀ a ∈ l, ∀ b ∈ l, a ≠ b → ∀ x, x ∈ g a → x ∉ g b) → (l.flatMap g).Nodup
  | [], _, _, _ => by simp
  | a :: r, hn, h1, h2 => by
    rw [List.flatMap_cons, List.nodup_append]
    rw [List.nodup_cons] at hn
    refine ⟨h1 a List.mem_cons_self, nodup_flat hn.2 (fun b hb => h1 b (List.mem_cons_of_mem _ hb)) (fun b hb c hc => h2 b (List.mem_cons_of_mem _ hb) c (List.mem_cons_of_mem _ hc)), fun x hx y hy e => ?_⟩
    subst e
    obtain ⟨b, hb, hxb⟩ := List.mem_flatMap.1 hy
    exact h2 a List.mem_cons_self b (List.mem_cons_of_mem _ hb) (fun e => hn.1 (e ▸ hb)) x hx hxb
theorem map_nodup {α β : Type} {f : α → β} (hf : ∀ a b, f a = f b → a = b) : ∀ {l : List α}, l.Nodup → (l.map f).Nodup
  | [], _ => by simp
  | a :: r, h => by
    rw [List.nodup_cons] at h
    rw [List.map_cons, List.nodup_cons]
    exact ⟨fun hm => by
      obtain ⟨b, hb, e⟩ := List.mem_map.1 hm
      exact h.1 (hf _ _ e ▸ hb), map_nodup hf h.2⟩
theorem bh_nodup {L : List Sg} (hne : TxNe L) : ∀ (f i : Nat) (u : List UInt8) (B : List Snd), u.length ≤ f → i < L.length → (sgAt L i).t <+: u → (bh L f i u B).Nodup
  | 0, _, _, _, _, _, _ => by simp [bh]
  | f + 1, i, u, B, hf, hi, hp => by
    have h0 := hne.at hi
    have hle := hp.length_le
    by_cases hz : (u.drop (sgAt L i).t.length).length = 0
    · rw [bh_end hz]; split <;> simp
    · rw [bh_on hz]
      have hl : (u.drop (sgAt L i).t.length).length ≤ f := by rw [List.length_drop]; omega
      refine nodup_flat (stL_nodup _ _) (fun k hk => ?_) (fun a ha b hb hab x hx hx2 => ?_)
      · obtain ⟨hkl, hkp⟩ := stL_mem.1 hk
        split
        · exact map_nodup (fun a b e => by injection e) (bh_nodup hne f k _ _ hl hkl hkp)
        · simp
      · obtain ⟨hal, hap⟩ := stL_mem.1 ha
        obtain ⟨hbl, hbp⟩ := stL_mem.1 hb
        split at hx
        · split at hx2
          · obtain ⟨e, he, rfl⟩ := List.mem_map.1 hx
            obtain ⟨e2, he2, h2⟩ := List.mem_map.1 hx2
            injection h2 with _ h2
            subst h2
            obtain ⟨r, rfl⟩ := bh_head hne hl hal hap he
            obtain ⟨r2, h3⟩ := bh_head hne hl hbl hbp he2
            injection h3 with h3
            exact hab h3
          · cases hx2
        · cases hx
def dvs (L : List Sg) (u : List UInt8) : List (List Nat) := (stL L u).flatMap fun i => bh L u.length i u []
theorem dvs_mem {L : List Sg} (hne : TxNe L) {u : List UInt8} (h0 : 0 < u.length) (d : List Nat) : d ∈ dvs L u ↔ isD L u [] d := by
  unfold dvs
  rw [List.mem_flatMap]
  constructor
  · rintro ⟨i, hi, h⟩
    obtain ⟨hil, hip⟩ := stL_mem.1 hi
    obtain ⟨r, _, h⟩ := (bh_mem hne u.length i u [] (Nat.le_refl _) hil hip d).1 h
    exact h
  · intro h
    match d, h with
    | [], ⟨_, h2, _⟩ => rw [← h2] at h0; exact absurd h0 (Nat.lt_irrefl 0)
    | i :: r, h =>
      have hil := h.1 i List.mem_cons_self
      have hip : (sgAt L i).t <+: u := ⟨tD L r, by rw [← h.2.1, tD_cons]⟩
      exact ⟨i, stL_mem.2 ⟨hil, hip⟩, (bh_mem hne u.length i u [] (Nat.le_refl _) hil hip _).2 ⟨r, rfl, h⟩⟩
theorem dvs_nodup {L : List Sg} (hne : TxNe L) (u : List UInt8) : (dvs L u).Nodup := by
  refine nodup_flat (stL_nodup _ _) (fun k hk => ?_) (fun a ha b hb hab x hx hx2 => ?_)
  · obtain ⟨hkl, hkp⟩ := stL_mem.1 hk
    exact bh_nodup hne _ k _ _ (Nat.le_refl _) hkl hkp
  · obtain ⟨hal, hap⟩ := stL_mem.1 ha
    obtain ⟨hbl, hbp⟩ := stL_mem.1 hb
    obtain ⟨r, rfl⟩ := bh_head hne (Nat.le_refl _) hal hap hx
    obtain ⟨r2, h3⟩ := bh_head hne (Nat.le_refl _) hbl hbp hx2
    injection h3 with h3
    exact hab h3
def clsB (B : List Snd) : Nat := if B.length = 0 then 0 else if endB B = true then 1 else 2
theorem whB_cls {w : Int} {B B' A : List Snd} (h : clsB B = clsB B') : whB w B A = whB w B' A := by
  have key : (B.length == 0) = (B'.length == 0) ∧ endB B = endB B' := by
    unfold clsB at h
    have e0 : ∀ C : List Snd, C.length = 0 → endB C = false := fun C hC => by rw [List.eq_nil_of_length_eq_zero hC]; rfl
    by_cases h1 : B.length = 0 <;> by_cases h2 : B'.length = 0
    · rw [e0 B h1, e0 B' h2, h1, h2]; exact ⟨rfl, rfl⟩
    · rw [if_pos h1, if_neg h2] at h; split at h <;> cases h
    · rw [if_neg h1, if_pos h2] at h; split at h <;> cases h
    · rw [if_neg h1, if_neg h2] at h
      refine ⟨by rw [beq_eq_false_iff_ne.2 h1, beq_eq_false_iff_ne.2 h2], ?_⟩
      cases hb : endB B <;> cases hb2 : endB B' <;> rw [hb, hb2] at h <;> simp at h ⊢
  unfold whB
  rw [key.1, key.2]
theorem bh_cls {L : List Sg} {B B' : List Snd} (h : clsB B = clsB B') : ∀ (f i : Nat) (u : List UInt8), bh L f i u B = bh L f i u B'
  | 0, _, _ => rfl
  | f + 1, i, u => by
    by_cases hz : (u.drop (sgAt L i).t.length).length = 0
    · rw [bh_end hz, bh_end hz, whB_cls h]
    · rw [bh_on hz, bh_on hz]
      congr 1
      funext k
      rw [whB_cls h]
theorem bh_fuel {L : List Sg} (hne : TxNe L) : ∀ (f g i : Nat) (u : List UInt8) (B : List Snd), u.length ≤ f → u.length ≤ g → i < L.length → (sgAt L i).t <+: u → bh L f i u B = bh L g i u B
  | 0, g, i, u, B, hf, hg, hi, hp => by have := hne.at hi; have := hp.length_le; omega
  | f + 1, 0, i, u, B, hf, hg, hi, hp => by have := hne.at hi; have := hp.length_le; omega
  | f + 1, g + 1, i, u, B, hf, hg, hi, hp => by
    have h0 := hne.at hi
    have hle := hp.length_le
    by_cases hz : (u.drop (sgAt L i).t.length).length = 0
    · rw [bh_end hz, bh_end hz]
    · rw [bh_on hz, bh_on hz]
      have hl : (u.drop (sgAt L i).t.length).length = u.length - (sgAt L i).t.length := List.length_drop
      have key : ∀ k ∈ stL L (u.drop (sgAt L i).t.length), (if whB (sgAt L i).w B (sgAt L k).s = true then (bh L f k (u.drop (sgAt L i).t.length) (sgAt L i).s).map (i :: ·) else []) = (if whB (sgAt L i).w B (sgAt L k).s = true then (bh L g k (u.drop (sgAt L i).t.length) (sgAt L i).s).map (i :: ·) else []) := fun k hk => by
        obtain ⟨hkl, hkp⟩ := stL_mem.1 hk
        rw [bh_fuel hne f g k _ _ (by omega) (by omega) hkl hkp]
      have : ∀ l : List Nat, (∀ k ∈ l, k ∈ stL L (u.drop (sgAt L i).t.length)) → l.flatMap (fun k => if whB (sgAt L i).w B (sgAt L k).s = true then (bh L f k (u.drop (sgAt L i).t.length) (sgAt L i).s).map (i :: ·) else []) = l.flatMap (fun k => if whB (sgAt L i).w B (sgAt L k).s = true then (bh L g k (u.drop (sgAt L i).t.length) (sgAt L i).s).map (i :: ·) else []) := by
        intro l
        induction l with
        | nil => intro _; rfl
        | cons k r ih =>
          intro h
          rw [List.flatMap_cons, List.flatMap_cons, key k (h k List.mem_cons_self), ih (fun j hj => h j (List.mem_cons_of_mem _ hj))]
      exact this _ (fun k hk => hk)
end Go.Proofs.YtjamfcihjendiaaGreat
