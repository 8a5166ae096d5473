/- Several texts in one: Op, Os, Jk. -/
import Derived.Test.YtpifchlpakajjaaGreatRtaa
import Derived.Test.YtpifchlpakajjaaGreatRtab
import Derived.Test.YtpifchlpakajjaaGreatRtac
import Derived.Test.YtpifchlpakajjaaGreatRtad
import Derived.Test.YtpifchlpakajjaaGreatRtae
import Derived.Test.YtpifchlpakajjaaGreatRtaf
import Derived.Test.YtpifchlpakajjaaGreatRtag
import Derived.Test.YtpifchlpakajjaaGreatRtah
import Derived.Test.YtpifchlpakajjaaGreatRtai
import Derived.Test.YtpifchlpakajjaaGreatRtaj
import Derived.Test.YtpifchlpakajjaaGreatRtak
import Derived.Test.YtpifchlpakajjaaGreatRtal
import Derived.Test.YtpifchlpakajjaaGreatRtam
import Derived.Test.YtpifchlpakajjaaGreatRtan
import Derived.Test.YtpifchlpakajjaaGreatRtao
import Derived.Test.YtpifchlpakajjaaGreatRtap
import Derived.Test.YtpifchlpakajjaaGreatRtaq
import Derived.Test.YtpifchlpakajjaaGreatRtar
import Derived.Test.YtpifchlpakajjaaGreatRtas
import Derived.Test.YtpifchlpakajjaaGreatRtat
import Derived.Test.YtpifchlpakajjaaGreatRtau
import Derived.Test.YtpifchlpakajjaaGreatRtav
import Derived.Test.YtpifchlpakajjaaGreatRtaw
import Derived.Test.YtpifchlpakajjaaGreatRtax
import Derived.Test.YtpifchlpakajjaaGreatRtay
import Derived.Test.YtpifchlpakajjaaGreatRtaz
import Derived.Test.YtpifchlpakajjaaGreatRtba
import Derived.Test.YtpifchlpakajjaaGreatRtbb
import Derived.Test.YtpifchlpakajjaaGreatRtbc
import Derived.Test.YtpifchlpakajjaaGreatRtbd
import Derived.Test.YtpifchlpakajjaaGreatRtbe
import Derived.Test.YtpifchlpakajjaaGreatRtbf
import Derived.Test.YtpifchlpakajjaaGreatRtbg
import Derived.Test.YtpifchlpakajjaaGreatRtbh
import Derived.Test.YtpifchlpakajjaaGreatRtbi
import Derived.Test.YtpifchlpakajjaaGreatRtbj
import Derived.Test.YtpifchlpakajjaaGreatRtbk
import Derived.Test.YtpifchlpakajjaaGreatRtbl
import Derived.Test.YtpifchlpakajjaaGreatRtbm
import Derived.Test.YtpifchlpakajjaaGreatRtbn
import Derived.Test.YtpifchlpakajjaaGreatRtbo
import Derived.Test.YtpifchlpakajjaaGreatRtbp
import Derived.Test.YtpifchlpakajjaaGreatRtbq
import Derived.Test.YtpifchlpakajjaaGreatRtbr
import Derived.Test.YtpifchlpakajjaaGreatRtbs
import Derived.Test.YtpifchlpakajjaaGreatRtbt
import Derived.Test.YtpifchlpakajjaaGreatRtbu
import Derived.Test.YtpifchlpakajjaaGreatRtbv
import Derived.Test.YtpifchlpakajjaaGreatRtbw
import Derived.BigQuiet
import Derived.Deep.AppendLies
import Derived.Deep.DeepFit
import Derived.Deep.QuietTactic
import Derived.Deep.RegionHeld3
import Derived.Ground.Names2Prog
import Derived.Laws.IdiomStrings
import Derived.Laws.StructEq
import Derived.Lib.Bytealg
import Derived.Lib.Hide
import Derived.Lib.IndexMore
import Derived.Lib.Join
import Derived.Lib.SliceRun
import Derived.Lib.Small
import Derived.Lib.Split
import Derived.Lib.Strings
import Derived.Outline
import Derived.Shelf.Slices.Clone
import Derived.Shelf.Slices.Empties2
import Derived.Shelf.Slices.Equal
import Derived.Shelf.Slices.SearchI
import Derived.Shelf.Small.Strs
import Derived.Shelf.Small.Wraps
import Derived.Shelf.Strings.Builder1
import Derived.Shelf.Strings.Builder2
import Derived.Shelf.Strings.BuilderF
import Derived.Shelf.Strings.BuilderK
import Derived.Shelf.Strings.Count
import Derived.Shelf.Strings.Cut
import Derived.Shelf.Strings.OnBuilder
import Derived.Shelf.Strings.Prefix
import Derived.Shelf.Strings.Search1
import Derived.Shelf.Strings.Split
import Derived.Test.YtpifchlpakajjaaGreatRvaa
import Derived.Test.YtpifchlpakajjaaGreatProg
import Derived.Test.YtpifchlpakajjaaGreatRows
import Derived.WalkKit
import Derived.WalkLawsBesides
import Derived.WalkSpells
import Derived.Deep.WholeRow
namespace Go.Proofs.YtpifchlpakajjaaGreat
open Go.RowKit
set_option linter.unusedVariables false
set_option linter.unusedSimpArgs false
set_option maxRecDepth 100000

def useA (L : List Sg) : List UInt8 := L.flatMap (·.t)
theorem useA_snoc (L : List Sg) (x : Sg) : useA (L ++ [x]) = useA L ++ x.t := by unfold useA; rw [List.flatMap_append]; simp
end Go.Proofs.YtpifchlpakajjaaGreat

namespace Go.Proofs.YtpifchlpakajjaaGreat
open Go.RowKit
set_option linter.unusedVariables false
set_option linter.unusedSimpArgs false
set_option maxRecDepth 100000

def fewO (nm : List UInt8) (L : List Sg) : Bool := decide (nm.length ≤ 60) && (decide (L.length ≤ 130) && ((L.all fun x => fewB x.s 6) && decide ((useA L).length ≤ 1500)))
theorem fewO_yes {nm : List UInt8} {L : List Sg} (h : fewO nm L = true) : nm.length ≤ 60 ∧ L.length ≤ 130 ∧ (∀ x ∈ L, fewB x.s 6 = true) ∧ (useA L).length ≤ 1500 := by
  unfold fewO at h; simpa using h
theorem fewO_nm {nm : List UInt8} {L : List Sg} (h : 60 < nm.length) : fewO nm L = false := by unfold fewO; rw [decide_eq_false (by omega)]; rfl
theorem fewO_len {nm : List UInt8} {L : List Sg} (h : 130 < L.length) : fewO nm L = false := by unfold fewO; rw [decide_eq_false (show ¬ L.length ≤ 130 by omega)]; simp
theorem fewO_snd {nm : List UInt8} {L : List Sg} {k : Nat} {x : Sg} (h : L[k]? = some x) (h1 : fewB x.s 6 = false) : fewO nm L = false := by
  rw [Bool.eq_false_iff]; intro hf
  have := (fewO_yes hf).2.2.1 x (List.mem_of_getElem? h)
  rw [h1] at this; cases this
theorem fewO_all {nm : List UInt8} {L : List Sg} (h : nm.length ≤ 60) (h1 : L.length ≤ 130) (h2 : ∀ x ∈ L, fewB x.s 6 = true) : fewO nm L = decide ((useA L).length ≤ 1500) := by
  unfold fewO
  rw [decide_eq_true h, decide_eq_true h1, List.all_eq_true.2 h2]; rfl
theorem useA_mem {L : List Sg} {x : Sg} (h : x ∈ L) : x.t.length ≤ (useA L).length := by
  induction L with
  | nil => cases h
  | cons y r ih =>
    have e : useA (y :: r) = y.t ++ useA r := by unfold useA; rw [List.flatMap_cons]
    rw [e, List.length_append]
    rcases List.mem_cons.1 h with h | h
    · subst h; omega
    · have := ih h; omega
theorem fewO_bd {nm : List UInt8} {L : List Sg} (h : fewO nm L = true) (hlim : ∀ x ∈ L, SgLim x) : SgBd L := by
  obtain ⟨_, _, h3, h4⟩ := fewO_yes h
  intro x hx
  have a := few_yes (h3 x hx)
  have b := useA_mem hx
  exact ⟨by omega, by omega, (hlim x hx).2.2⟩
set_option maxHeartbeats 8000000 in
theorem rfewO_any (nm : List UInt8) (L : List Sg) (A : Option Addr) (n c : Nat) (w : World) (hnm : nm.length ≤ 140737488355328) (hl : L.length = n) (hn : n ≤ 17592186044416) (hlim : ∀ x ∈ L, SgLim x) (hA : SgnIn w A L) :
    Calls Tryz.prog 34 #[.agg #[.string (bs nm), .slice A n c]] w fun e w' => e = .returned (.bool (fewO nm L)) ∧ Below w.heap.size w w' := by
  obtain ⟨g1, hg1⟩ : ∃ z, z = w.heap.size := ⟨_, rfl⟩
  obtain ⟨W1, hW1⟩ : ∃ z, z = w.alloc (.cells #[.string (bs nm), .slice A n c] 24) := ⟨_, rfl⟩
  have V1 := Lib.hid (show Hp w [obox g1 nm A n c] W1 by rw [hW1, hg1]; exact (Hp.start w).obox_new nm A n c)
  have HW1 := Lib.hid hW1
  have HG1 := Lib.hid hg1
  have HL := Lib.hid hl
  have HA := Lib.hid hA
  have HLIM := Lib.hid hlim
  obtain ⟨z0, z1, z2⟩ := V1.out.obox_at (i := 0) rfl
  obtain ⟨y, hy⟩ : ∃ y, y = nm.length := ⟨_, rfl⟩
  have hz : (bs nm).size = y := by rw [bs_size]; exact hy.symm
  have HY := Lib.hid hy
  rw [← hy] at hnm
  clear hl hA hlim hW1 hg1 hy
  go_enter Tryz.func34, Tryz.ntmps34
  go_upto_region 1 with fail
  rw [← HG1.out, ← HW1.out]
  by_cases h60 : 60 < y
  · have HE := Lib.hid (fewO_nm (nm := nm) (L := L) (by have := HY.out; omega))
    go_wp2_with fail
    go_ret
    exact ⟨ret_bool HE.out.symm, V1.out.below⟩
  by_cases h130 : 130 < n
  · have HE := Lib.hid (fewO_len (nm := nm) (L := L) (by have := HL.out; omega))
    go_wp2_with fail
    go_ret
    exact ⟨ret_bool HE.out.symm, V1.out.below⟩
  go_wp2_with fail
  clear hz z0 z1 z2
  go_loopw [3, 4] (fun v i wr => ∃ k m : Nat, k ≤ n ∧ i = .int .i64 (k : Int) ∧ v = .int .i64 (m : Int) ∧ m ≤ k * 140737488355328 ∧ m = (useA (L.take k)).length ∧ (∀ x ∈ L.take k, fewB x.s 6 = true) ∧ Hp w [obox g1 nm A n c] wr) (fun _ i _ => n - (intOf i).toNat)
  case atStart => exact ⟨0, 0, Nat.zero_le _, rfl, rfl, by omega, rfl, fun x hx => by simp at hx, V1.out⟩
  case round =>
    obtain ⟨k, m, hk, rfl, rfl, hmb, hm, hall, hV⟩ := hrel
    obtain ⟨wi, rfl⟩ : ∃ wi : World, wi = wr := ⟨_, rfl⟩
    have V3 := Lib.hid hV
    have HM := Lib.hid hm
    have HALL := Lib.hid hall
    clear hV V1 hm hall
    obtain ⟨z0, z1, z2⟩ := V3.out.obox_at (i := 0) rfl
    by_cases hlt : k < n
    · obtain ⟨x, hx⟩ := get_at (L := L) (k := k) (by have := HL.out; omega)
      obtain ⟨b, off, Aj, cj, hAe, hb, c0, c1, c2, c3, c4⟩ := (HA.out.below V3.out.below).at hx
      obtain ⟨l1, l2, l3⟩ := HLIM.out x (List.mem_of_getElem? hx)
      have HX := Lib.hid hx
      have HC := Lib.hid c4
      have HL3 := Lib.hid l3
      rw [hAe] at z1
      have HAE := Lib.hid hAe
      have hk4 : k * 4 ≤ 520 := by omega
      obtain ⟨tl, htl⟩ : ∃ tl, tl = x.t.length := ⟨_, rfl⟩
      have hz : (bs x.t).size = tl := by rw [bs_size]; exact htl.symm
      rw [← htl] at l1
      have HT := Lib.hid htl
      have hsum : m + tl ≤ (k + 1) * 140737488355328 := by omega
      have hsum2 : m + tl ≤ 18436610974547968 := by omega
      subst hAe
      clear hx c4 l3 htl
      go_wp2_with fail
      refine (few_any x.s 6 _ _ Aj _ rfl l2 (by decide) HL3.out HC.out).mono ?_
      rintro e w4 ⟨rfl, hw⟩
      subst hw
      cases hf : fewB x.s 6 with
      | false =>
        have HE := Lib.hid (fewO_snd (nm := nm) HX.out hf)
        clear hf
        go_wp2_with fail
        go_ret
        exact ⟨ret_bool HE.out.symm, V3.out.below⟩
      | true =>
        have HN := Lib.hid (show m + tl = (useA (L.take (k + 1))).length by rw [take_snoc HX.out, useA_snoc, List.length_append, ← HM.out, ← HT.out])
        have HN2 := Lib.hid (show ∀ z ∈ L.take (k + 1), fewB z.s 6 = true from fun z hz => by
          rw [take_snoc HX.out] at hz
          rcases List.mem_append.1 hz with h | h
          · exact HALL.out z h
          · rw [List.mem_singleton.1 h]; exact hf)
        clear hf
        go_wp2_with fail
        go_roundw
        case rel => exact ⟨k + 1, m + tl, by omega, by go_num, by go_num, by omega, HN.out, HN2.out, V3.out⟩
        case measure => simp [intOf]; omega
    · have ht : L.take k = L := take_all (by have := HL.out; omega)
      have HE := Lib.hid (show fewO nm L = decide ((m : Int) ≤ 1500) by
        have h1 := HALL.out
        have h2 := HM.out
        rw [ht] at h1 h2
        rw [fewO_all (by have := HY.out; omega) (by have := HL.out; omega) h1, ← h2, decide_eq_decide]; omega)
      clear ht
      go_wp2_with fail
      go_ret
      exact ⟨ret_bool HE.out.symm, V3.out.below⟩
end Go.Proofs.YtpifchlpakajjaaGreat

namespace Go.Proofs.YtpifchlpakajjaaGreat
open Go.RowKit
set_option linter.unusedVariables false
set_option linter.unusedSimpArgs false
set_option maxRecDepth 100000

theorem any_stepI {R : List (List Int)} {x r : List Int} {k : Nat} (h : (R.take k).any (fun y => decide (y = x)) = false) (hr : R[k]? = some r) : (R.take (k + 1)).any (fun y => decide (y = x)) = decide (r = x) := by
  rw [List.take_add_one, hr, List.any_append, h]; simp
theorem any_hitI {R : List (List Int)} {x r : List Int} {k : Nat} (hr : R[k]? = some r) (h : decide (r = x) = true) : R.any (fun y => decide (y = x)) = true := List.any_eq_true.2 ⟨r, List.mem_of_getElem? hr, h⟩
set_option maxHeartbeats 2000000 in
theorem rhas_any (A B : Option Addr) (n c m d : Nat) (R : List (List Int)) (x : List Int) (w : World) (hR : R.length = n) (hx : x.length = m) (hn : n ≤ 1000000) (hm : m ≤ 17592186044416) (h1 : RowsIn w A R) (h2 : CellsIn w B (ints x)) :
    Calls Tryz.prog 21 #[.slice A n c, .slice B m d] w fun e w' => e = .returned (.bool (R.any fun y => decide (y = x))) ∧ Below w.heap.size w w' := by
  have HR := Lib.hid hR
  have HX := Lib.hid hx
  have H1 := Lib.hid h1
  have H2 := Lib.hid h2
  have V0 := Lib.hid (Hp.start w)
  clear hR hx h1 h2
  go_enter Tryz.func21, Tryz.ntmps21
  go_wp2_with fail
  go_loopw [5] (fun cv wr => ∃ k : Nat, cv = .int .i64 (k : Int) ∧ k ≤ n ∧ (R.take k).any (fun y => decide (y = x)) = false ∧ Hp w [] wr) (fun cv _ => n - (intOf cv).toNat)
  case atStart => exact ⟨0, rfl, Nat.zero_le _, rfl, V0.out⟩
  case round =>
    obtain ⟨k, rfl, hkn, hr, hB⟩ := hrel
    obtain ⟨wi, rfl⟩ : ∃ wi : World, wi = wr := ⟨_, rfl⟩
    have HA := Lib.hid hr
    have V3 := Lib.hid hB
    clear hr hB V0
    by_cases hlt : k < n
    case neg =>
      have HE := Lib.hid (show (R.any fun y => decide (y = x)) = false by have := HA.out; rwa [List.take_of_length_le (by have := HR.out; omega)] at this)
      go_wp2_with fail
      go_ret
      exact ⟨ret_bool HE.out.symm, V3.out.below⟩
    obtain ⟨r, hr⟩ : ∃ r, R[k]? = some r := ⟨_, List.getElem?_eq_getElem (by have := HR.out; omega)⟩
    obtain ⟨b, off, e0, hb0, hrow⟩ := (H1.out.below V3.out.below) (by have := HR.out; omega)
    obtain ⟨Aj, cj, c1, hc1, hc2, hc3⟩ := hrow k r hr
    obtain ⟨rl, hrl⟩ : ∃ rl, rl = r.length := ⟨_, rfl⟩
    rw [← hrl] at c1 hc2
    have HRL := Lib.hid hrl
    have HC1 := Lib.hid (And.intro c1 hb0)
    have HCR := Lib.hid hc3
    have HRK := Lib.hid hr
    clear hr hrow hc3 hc1 c1 hb0 hrl
    subst e0
    obtain ⟨h0, h00⟩ := HC1.out
    go_wp2_with fail
    refine (rints_any Aj B rl cj m d r x wi HRL.out.symm HX.out hc2 hm HCR.out (H2.out.below V3.out.below)).mono ?_
    rintro e w4 ⟨rfl, hb⟩
    have V4 := Lib.hid (V3.out.go hb)
    clear hb h0 h00
    cases hq : decide (r = x) with
    | true =>
      have HE := Lib.hid (any_hitI HRK.out hq)
      clear hq
      go_wp2_with fail
      go_ret
      exact ⟨ret_bool HE.out.symm, V4.out.below⟩
    | false =>
      have HN := Lib.hid (show (R.take (k + 1)).any (fun y => decide (y = x)) = false by rw [any_stepI HA.out HRK.out, hq])
      clear hq
      go_wp2_with fail
      go_roundw
      case rel => exact ⟨k + 1, by go_num, by omega, HN.out, V4.out⟩
      case measure => simp [intOf]; omega
end Go.Proofs.YtpifchlpakajjaaGreat
