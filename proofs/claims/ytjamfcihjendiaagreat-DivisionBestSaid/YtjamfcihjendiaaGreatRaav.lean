/- Several texts in one: Ja, Ji, Jb. -/
import Derived.Test.YtjamfcihjendiaaGreatRaao
import Derived.Test.YtjamfcihjendiaaGreatRaas
import Derived.Test.YtjamfcihjendiaaGreatRaat
import Derived.Test.YtjamfcihjendiaaGreatRaaq
import Derived.Test.YtjamfcihjendiaaGreatRaaf
import Derived.Test.YtjamfcihjendiaaGreatRaag
namespace Go.Proofs.YtjamfcihjendiaaGreat
open Go.RowKit
set_option linter.unusedVariables false
set_option linter.unusedSimpArgs false
set_option maxRecDepth 100000


theorem ltr_take {t : List UInt8} {s : ByteArray} {k : Nat} (hs : s = bs t) (hk : k < s.size) (h : T.allLtr (t.take k) = true) (h1 : T.ltr (s[k].toNat : Int) = true) : T.allLtr (t.take (k + 1)) = true := by
  have e : t = s.data.toList := by rw [hs, bs_list]
  rw [e] at h ⊢
  rw [takeS hk]
  unfold T.allLtr at h ⊢
  rw [List.all_append, h]
  simpa using h1
theorem ltr_bad {t : List UInt8} {s : ByteArray} {k : Nat} (hs : s = bs t) (hk : k < s.size) (h1 : T.ltr (s[k].toNat : Int) = false) : T.allLtr t = false := by
  have e : t = s.data.toList := by rw [hs, bs_list]
  rw [Bool.eq_false_iff]; intro h
  rw [e] at h
  unfold T.allLtr at h
  have := List.all_eq_true.1 h s[k] (by rw [getB s k hk]; exact List.getElem_mem _)
  simp only [h1] at this
  cases this
set_option maxHeartbeats 2000000 in
theorem rword_any (t : List UInt8) (w : World) (ht : t.length ≤ 1000000) :
    Calls Tryz.prog 44 #[.string (bs t)] w fun e w' => e = .returned (.int .i64 (wdE t)) ∧ Below w.heap.size w w' := by
  obtain ⟨tl, htl⟩ : ∃ tl, tl = t.length := ⟨_, rfl⟩
  obtain ⟨s, hs⟩ : ∃ s, s = bs t := ⟨_, rfl⟩
  have hz : s.size = tl := by rw [hs, bs_size]; exact htl.symm
  have HZ := Lib.hid hz
  have HT := Lib.hid htl
  have HS := Lib.hid hs
  rw [← htl] at ht
  rw [← hs]
  by_cases h0 : tl = 0
  · obtain ⟨q1, q2⟩ := emp_l (t := t) (by omega)
    rw [← hs] at q1 q2
    have HE := Lib.hid (show wdE t = 7 by unfold wdE; rw [if_pos (by omega)])
    clear hs htl h0
    go_enter Tryz.func44, Tryz.ntmps44
    go_wp2_with fail
    go_ret
    exact ⟨sym_int HE.out, Below.refl _ _⟩
  obtain ⟨q1, q2⟩ := ful_l (t := t) (by omega)
  rw [← hs] at q1 q2
  by_cases h4 : 16 < tl
  · have HE := Lib.hid (show wdE t = 3 by unfold wdE; rw [if_neg (by omega), if_pos (by omega)])
    clear hs htl h0
    go_enter Tryz.func44, Tryz.ntmps44
    go_wp2_with fail
    go_ret
    exact ⟨sym_int HE.out, Below.refl _ _⟩
  have HW := Lib.hid (show wdE t = if t.all isLow = true then 0 else 2 by unfold wdE; rw [if_neg (by omega), if_neg (by omega)])
  have hsz : s.size ≤ 1000000 := by omega
  clear hs htl h0 hz
  go_enter Tryz.func44, Tryz.ntmps44
  have hz := HZ.out
  go_wp2_with fail
  refine (T.rfold_any s _ hsz).mono ?_
  rintro e w1 ⟨rfl, hb⟩
  have B1 := Lib.hid hb
  clear hb
  have HFO := Lib.hid (show T.foldL s.data.toList = T.foldL t by rw [HS.out, bs_list])
  have hst : s.toList = t := by rw [HS.out]; exact toL _
  cases hf : (T.foldL t == t) with
  | false =>
    have e1 : (T.foldL s.data.toList == s.toList) = false := by rw [HFO.out, hst, hf]
    have HE := Lib.hid (show wdE t = 2 by rw [HW.out, small_is, hf, Bool.and_false]; rfl)
    clear hf hst q1 q2
    go_wp2_with fail
    go_ret
    exact ⟨sym_int HE.out, B1.out⟩
  | true =>
  have e1 : (T.foldL s.data.toList == s.toList) = true := by rw [HFO.out, hst, hf]
  have HF := Lib.hid hf
  clear hf hst q1 q2
  go_wp2_with fail
  go_loopw [3] (fun i wr => ∃ k : Nat, k ≤ tl ∧ i = .int .i64 (k : Int) ∧ T.allLtr (t.take k) = true ∧ w1 = wr) (fun i _ => tl - (intOf i).toNat)
  case atStart => exact ⟨0, Nat.zero_le _, rfl, rfl, rfl⟩
  case round =>
    obtain ⟨k, hk, rfl, hall, rfl⟩ := hrel
    have HALL := Lib.hid hall
    clear hall e1
    by_cases hlt : k < tl
    · have hlt2 : k < s.size := by have := HZ.out; omega
      have hb0 : (0 : Int) ≤ (s[k].toNat : Int) := by omega
      have hb255 : (s[k].toNat : Int) ≤ 255 := by have := s[k].toNat_lt; omega
      go_wp2_with fail
      refine (T.rletter_any (s[k].toNat : Int) _ hb0 hb255).mono ?_
      rintro e w2 ⟨rfl, hw⟩
      subst hw
      cases hl : T.ltr (s[k].toNat : Int) with
      | false =>
        have HE := Lib.hid (show wdE t = 2 by rw [HW.out, small_is, ltr_bad HS.out hlt2 hl]; rfl)
        clear hl
        go_wp2_with fail
        go_ret
        exact ⟨sym_int HE.out, B1.out⟩
      | true =>
        have HN := Lib.hid (ltr_take HS.out hlt2 HALL.out hl)
        clear hl
        go_wp2_with fail
        go_roundw
        case rel => exact ⟨k + 1, by omega, by go_num, HN.out, trivial⟩
        case measure => simp [intOf]; omega
    · obtain rfl : k = tl := by omega
      have HE := Lib.hid (show wdE t = 0 by
        have := HALL.out
        rw [List.take_of_length_le (by have := HT.out; omega)] at this
        rw [HW.out, small_is, this, HF.out]; rfl)
      go_wp2_with fail
      go_ret
      exact ⟨sym_int HE.out, B1.out⟩
set_option maxHeartbeats 2000000 in
theorem rgiven_any (nm : List UInt8) (L : List Sg) (A : Option Addr) (n c : Nat) (t : List UInt8) (w : World) (hnm : nm.length ≤ 140737488355328) (hl : L.length = n) (hn : n ≤ 17592186044416) (hs : SgBd L) (hA : SgnIn w A L) (ht : t.length ≤ 1000000) :
    Calls Tryz.prog 21 #[.agg #[.string (bs nm), .slice A n c], .string (bs t)] w fun e w' => e = .returned (.int .i64 (gvE nm L t)) ∧ Below w.heap.size w w' := by
  obtain ⟨g1, hg1⟩ : ∃ z, z = w.heap.size := ⟨_, rfl⟩
  obtain ⟨W1, hW1⟩ : ∃ z, z = w.alloc (.cells #[.string (bs nm), .slice A n c] 24) := ⟨_, rfl⟩
  have V1 := Lib.hid (show Hp w [obox g1 nm A n c] W1 by rw [hW1, hg1]; exact (Hp.start w).obox_new nm A n c)
  have HW1 := Lib.hid hW1
  have HG1 := Lib.hid hg1
  have HV := Lib.hid (rovalid_any nm L A n c W1 hnm hl hn hs (hA.below V1.out.below))
  obtain ⟨z0, z1, z2⟩ := V1.out.obox_at (i := 0) rfl
  clear hW1 hg1 hA hs hl hnm
  go_enter Tryz.func21, Tryz.ntmps21
  go_upto_region 1 with fail
  rw [← HG1.out, ← HW1.out]
  go_wp2_with fail
  refine HV.out.mono ?_
  rintro e w2 ⟨rfl, hb⟩
  have V2 := Lib.hid (V1.out.go hb)
  clear hb z0 z1 z2
  by_cases hv : (vO nm L).2 = 0
  · have HE := Lib.hid (show gvE nm L t = wdE t by unfold gvE; rw [if_pos hv])
    rw [hv]
    clear hv
    go_wp2_with fail
    refine (rword_any t _ ht).mono ?_
    rintro e w3 ⟨rfl, hb⟩
    have V3 := Lib.hid (V2.out.go hb)
    clear hb
    go_wp2_with fail
    go_ret
    exact ⟨sym_int HE.out, V3.out.below⟩
  · have HE := Lib.hid (show gvE nm L t = (vO nm L).2 by unfold gvE; rw [if_neg hv])
    obtain ⟨v, hvv⟩ : ∃ v, v = (vO nm L).2 := ⟨_, rfl⟩
    rw [← hvv] at hv HE ⊢
    have e1 : (v != 0) = true := bne_yes hv
    clear hv hvv
    go_wp2_with fail
    go_ret
    exact ⟨sym_int HE.out, V2.out.below⟩
end Go.Proofs.YtjamfcihjendiaaGreat

namespace Go.Proofs.YtjamfcihjendiaaGreat
open Go.RowKit
set_option linter.unusedVariables false
set_option linter.unusedSimpArgs false
set_option maxRecDepth 100000

def AhPost (w : World) (r : Ending) (w' : World) : Prop := ∃ g, r = .returned (.slice (some ⟨g, 0, none⟩) 3 3) ∧ g < w'.heap.size ∧ (∀ c : Nat, c < 3 → ∃ B e, w'.cell? ⟨g, c, none⟩ = some (.slice B (ahB c).length e) ∧ CellsIn w' B (sndsC (ahB c))) ∧ Below w.heap.size w w'
theorem rahead_any (w : World) : Calls Tryz.prog 46 #[] w (AhPost w) := by
  obtain ⟨g1, hg1⟩ : ∃ z, z = w.heap.size := ⟨_, rfl⟩
  obtain ⟨W1, hW1⟩ : ∃ z, z = w.alloc (.cells #[.int .i64 1, .int .i64 3, .string ⟨#[97]⟩] 96) := ⟨_, rfl⟩
  have V1 := Lib.hid (show Hp w [snds (some ⟨g1, 0, none⟩) 1 1 (ahB 1)] W1 by rw [hW1, hg1]; exact (Hp.start w).lit 96 3 1 (sndsC (ahB 1)) rfl (by decide))
  obtain ⟨g2, hg2⟩ : ∃ z, z = W1.heap.size := ⟨_, rfl⟩
  obtain ⟨W2, hW2⟩ : ∃ z, z = W1.alloc (.cells #[.int .i64 3, .int .i64 0, .string ⟨#[116]⟩] 96) := ⟨_, rfl⟩
  have V2 := Lib.hid (show Hp w [snds (some ⟨g2, 0, none⟩) 1 1 (ahB 2), snds (some ⟨g1, 0, none⟩) 1 1 (ahB 1)] W2 by rw [hW2, hg2]; exact V1.out.lit 96 3 1 (sndsC (ahB 2)) rfl (by decide))
  obtain ⟨g3, hg3⟩ : ∃ z, z = W2.heap.size := ⟨_, rfl⟩
  obtain ⟨W3, hW3⟩ : ∃ z, z = W2.alloc (.cells #[.slice none 0 0, .slice (some ⟨g1, 0, none⟩) 1 1, .slice (some ⟨g2, 0, none⟩) 1 1] 62) := ⟨_, rfl⟩
  have V3 := Lib.hid (show Hp w [⟨62, 1, .slice (some ⟨g3, 0, none⟩) 3 3, 3, [.slice none 0 0, .slice (some ⟨g1, 0, none⟩) 1 1, .slice (some ⟨g2, 0, none⟩) 1 1]⟩, snds (some ⟨g2, 0, none⟩) 1 1 (ahB 2), snds (some ⟨g1, 0, none⟩) 1 1 (ahB 1)] W3 by rw [hW3, hg3]; exact V2.out.lit 62 1 3 [.slice none 0 0, .slice (some ⟨g1, 0, none⟩) 1 1, .slice (some ⟨g2, 0, none⟩) 1 1] rfl (by decide))
  have HG2 := Lib.hid (show g2 = g1 + 1 by rw [hg2, hW1, hg1]; simp)
  have HG3 := Lib.hid (show g3 = g2 + 1 by rw [hg3, hW2, hg2]; simp)
  have HP := Lib.hid (show AhPost w (.returned (.slice (some ⟨g3, 0, none⟩) 3 3)) W3 from by
    refine ⟨g3, rfl, (V3.out.cell (i := 0) rfl (g := g3) (cap := 3) rfl (j := 0) rfl).2.2, fun c hc => ?_, V3.out.below⟩
    match c, hc with
    | 0, _ => exact ⟨none, 0, (V3.out.cell (i := 0) rfl (g := g3) (cap := 3) rfl (j := 0) rfl).1, CellsIn.nil _ _⟩
    | 1, _ => exact ⟨_, 1, (V3.out.cell (i := 0) rfl (g := g3) (cap := 3) rfl (j := 1) rfl).1, V3.out.cells (i := 2) (it := snds (some ⟨g1, 0, none⟩) 1 1 (ahB 1)) rfl rfl⟩
    | 2, _ => exact ⟨_, 1, (V3.out.cell (i := 0) rfl (g := g3) (cap := 3) rfl (j := 2) rfl).1, V3.out.cells (i := 1) (it := snds (some ⟨g2, 0, none⟩) 1 1 (ahB 2)) rfl rfl⟩)
  have HW1 := Lib.hid hW1
  have HW2 := Lib.hid hW2
  have HW3 := Lib.hid hW3
  have HG1 := Lib.hid hg1
  clear hg1 hW1 hg2 hW2 hg3 hW3 V1 V2 V3
  go_enter Tryz.func46, Tryz.ntmps46
  go_wp2_with fail
  rw [← HG1.out, ← HW1.out, ← HG2.out, ← HW2.out, ← HG3.out, ← HW3.out]
  go_ret
  exact HP.out
theorem cls_last {S : List Snd} {k : Nat} {x : Snd} (hl : S.length = k + 1) (hx : S[k]? = some x) : clsB S = if nuc x = true then 1 else 2 := by
  unfold clsB
  rw [if_neg (by omega), endB_at hl hx]
set_option maxHeartbeats 2000000 in
theorem rclass_any (S : List Snd) (B : Option Addr) (n c : Nat) (w : World) (hl : S.length = n) (h0 : 0 < n) (hn : n ≤ 1000000) (hB : CellsIn w B (sndsC S)) :
    Calls Tryz.prog 47 #[.slice B n c] w fun r w' => r = .returned (.int .i64 (clsB S : Nat)) ∧ Below w.heap.size w w' := by
  obtain ⟨m, rfl⟩ : ∃ m, n = m + 1 := ⟨n - 1, by omega⟩
  obtain ⟨x, hx⟩ := get_at (L := S) (k := m) (by omega)
  have HE := Lib.hid (cls_last hl hx)
  obtain ⟨b, off, rfl, hb, c0, c1, c2⟩ := hB.snd hx
  have hm3 : m * 3 ≤ 3000000 := by omega
  have hwm : IntKind.i64.wrap (m : Int) = (m : Int) := IntWalk.i64_in _ (by omega)
  have hlt : (m : Int) < (m : Int) + 1 := by omega
  clear hl hx hB c1 c2
  go_enter Tryz.func47, Tryz.ntmps47
  by_cases h1 : x.k = 1
  · have e1 : (x.k == 1) = true := by rw [h1]; rfl
    have HC := Lib.hid (show clsB S = 1 by rw [HE.out, if_pos (by unfold nuc; rw [h1]; rfl)])
    clear h1
    go_wp2_with fail
    go_ret
    exact ⟨by rw [HC.out]; rfl, Below.refl _ _⟩
  have e1 : (x.k == 1) = false := by rw [beq_eq_false_iff_ne]; exact h1
  by_cases h2 : x.k = 2
  · have e2 : (x.k == 2) = true := by rw [h2]; rfl
    have HC := Lib.hid (show clsB S = 1 by rw [HE.out, if_pos (by unfold nuc; rw [h2]; rfl)])
    clear h1 h2
    go_wp2_with fail
    go_ret
    exact ⟨by rw [HC.out]; rfl, Below.refl _ _⟩
  have e2 : (x.k == 2) = false := by rw [beq_eq_false_iff_ne]; exact h2
  have HC := Lib.hid (show clsB S = 2 by rw [HE.out, if_neg (by unfold nuc; simp [h1, h2])])
  clear h1 h2
  go_wp2_with fail
  go_ret
  exact ⟨by rw [HC.out]; rfl, Below.refl _ _⟩
end Go.Proofs.YtjamfcihjendiaaGreat

namespace Go.Proofs.YtjamfcihjendiaaGreat
open Go.RowKit
set_option linter.unusedVariables false
set_option linter.unusedSimpArgs false
set_option maxRecDepth 100000

theorem toS (s : ByteArray) : s.toList = s.data.toList := by
  have := toL s.data.toList
  rwa [bs_self] at this
theorem ext_eq {s : ByteArray} {u t : List UInt8} {a p : Nat} (hs : s = bs u) (hp : p = a + t.length) : ((s.extract a p).toList == (bs t).toList) = ((u.drop a).take t.length == t) := by
  rw [toS, toL, ext_mid, hs, bs_list, hp, Nat.add_sub_cancel_left]
set_option maxHeartbeats 2000000 in
theorem rstands_any (nm : List UInt8) (L : List Sg) (A : Option Addr) (n c : Nat) (s : ByteArray) (u : List UInt8) (a : Nat) (w : World) (hs : s = bs u) (hu : u.length ≤ 1000000) (ha : a ≤ u.length) (hl : L.length = n) (hn : n ≤ 1000000) (ht : ∀ x ∈ L, x.t.length ≤ 1000000) (hA : SgnIn w A L) :
    Calls Tryz.prog 23 #[.agg #[.string (bs nm), .slice A n c], .string s, .int .i64 (a : Int)] w fun e w' => ∃ C m d, e = .returned (.slice C m d) ∧ (stL L (u.drop a)).length = m ∧ Hp w [nums C m d (dI (stL L (u.drop a)))] w' := by
  obtain ⟨g1, hg1⟩ : ∃ z, z = w.heap.size := ⟨_, rfl⟩
  obtain ⟨W1, hW1⟩ : ∃ z, z = w.alloc (.cells #[.string (bs nm), .slice A n c] 24) := ⟨_, rfl⟩
  have V1 := Lib.hid (show Hp w [obox g1 nm A n c] W1 by rw [hW1, hg1]; exact (Hp.start w).obox_new nm A n c)
  have HW1 := Lib.hid hW1
  have HG1 := Lib.hid hg1
  have HS := Lib.hid hs
  have HL := Lib.hid hl
  have HA := Lib.hid hA
  have HT := Lib.hid ht
  have hz : s.size = u.length := by rw [hs, bs_size]
  obtain ⟨ul, hul⟩ : ∃ ul, ul = u.length := ⟨_, rfl⟩
  have HUL := Lib.hid hul
  rw [← hul] at hz hu ha
  have V2 := Lib.hid (show Hp w [nums none 0 0 (dI (stK L (u.drop a) 0)), obox g1 nm A n c] W1 from V1.out.nil_row _ rfl rfl rfl)
  clear hW1 hg1 hs hl hA ht hul
  go_enter Tryz.func23, Tryz.ntmps23
  go_upto_region 2 with fail
  rw [← HG1.out, ← HW1.out]
  go_wp2_with fail
  go_loopw [7, 8] (fun v i wr => ∃ (k m d : Nat) (C : Option Addr), k ≤ n ∧ m ≤ k ∧ i = .int .i64 (k : Int) ∧ v = .slice C m d ∧ (stK L (u.drop a) k).length = m ∧ Hp w [nums C m d (dI (stK L (u.drop a) k)), obox g1 nm A n c] wr) (fun _ i _ => n - (intOf i).toNat)
  case atStart => exact ⟨0, 0, 0, none, Nat.zero_le _, Nat.zero_le _, rfl, rfl, rfl, V2.out⟩
  case round =>
    obtain ⟨k, m, d, C, hk, hmk, rfl, rfl, hm, hV⟩ := hrel
    obtain ⟨wi, rfl⟩ : ∃ wi : World, wi = wr := ⟨_, rfl⟩
    have V3 := Lib.hid hV
    have HM := Lib.hid hm
    clear hV hm V2 V1
    obtain ⟨o0, o1, o2⟩ := V3.out.obox_at (i := 1) rfl
    by_cases hlt : k < n
    · obtain ⟨x, hx⟩ := get_at (L := L) (k := k) (by have := HL.out; omega)
      obtain ⟨b, off, Aj, cj, hAe, hb, c0, c1, c2, c3, c4⟩ := (HA.out.below V3.out.below).at hx
      have HX := Lib.hid (sgAt_is hx)
      have hxt := HT.out x (List.mem_of_getElem? hx)
      obtain ⟨tl, htl⟩ : ∃ tl, tl = x.t.length := ⟨_, rfl⟩
      have hzt : (bs x.t).size = tl := by rw [bs_size, htl]
      have HTL := Lib.hid htl
      rw [← htl] at hxt
      rw [hAe] at o1
      have HAE := Lib.hid hAe
      subst hAe
      have hk4 : k * 4 ≤ 4000000 := by omega
      clear hx htl c4 c1 c2 c3
      go_upto_region 6 with fail
      clear hzt
      obtain ⟨p, hp⟩ : ∃ p, p = a + tl := ⟨_, rfl⟩
      have HP := Lib.hid hp
      have hwa : IntKind.i64.wrap ((a : Int) + (tl : Int)) = (p : Int) := by rw [IntWalk.i64_in _ (by omega)]; omega
      have hap : a ≤ p := by omega
      by_cases hfit : p ≤ ul
      · have e1 : decide ((p : Int) ≤ (ul : Int)) = true := decide_eq_true (by omega)
        clear hp
        have hKp : Keep [(⟨g1, 1, none⟩, .slice (some ⟨b, off, none⟩) n c), (⟨b, off + k * 4, none⟩, .string (bs x.t))] wi := List.forall_mem_cons.2 ⟨⟨(V3.out.box_at (i := 1) (j := 1) rfl rfl).1, (V3.out.box_at (i := 1) (j := 1) rfl rfl).2.2⟩, List.forall_mem_cons.2 ⟨⟨c0, hb⟩, fun _ h => by simp at h⟩⟩
        refine wp_region_held_drew (S := Keep _) (by kernel_rfl) hKp.drew (fun hHeld => ?_)
        obtain ⟨wf, hwf⟩ : ∃ z, z = wi.drew := ⟨_, rfl⟩
        have Vwf := Lib.hid (show Hp w (nums C m d (dI (stK L (u.drop a) k)) :: obox g1 nm (some ⟨b, off, none⟩) n c :: []) wf by rw [hwf]; exact V3.out.go (bdrew _))
        have Bwf := Lib.hid (show Below wi.heap.size wi wf by rw [hwf]; exact bdrew _)
        rw [← hwf] at hHeld ⊢
        clear hwf hKp
        refine tk 0 ?_ rfl ?_ ?_; rotate_left; focus (intro w hSw; clear hSw; go_simp; try (with_reducible rfl))
        try simp only [Act.put, sA, sZ, sS]
        refine tk 1 ?_ rfl ?_ ?_; rotate_left; focus (intro w hSw; clear hSw; go_simp; try (with_reducible rfl))
        try simp only [Act.put, sA, sZ, sS]
        refine tk 2 ?_ rfl ?_ ?_; rotate_left; focus (intro w hSw; clear hSw; go_simp; try (with_reducible rfl))
        try simp only [Act.put, sA, sZ, sS]
        refine tk 3 ?_ rfl ?_ ?_; rotate_left; focus (intro w hSw; clear hSw; go_simp; try (with_reducible rfl))
        try simp only [Act.put, sA, sZ, sS]
        refine tk 4 ?_ rfl ?_ ?_; rotate_left; focus (intro w hSw; clear hSw; go_simp; try (with_reducible rfl))
        try simp only [Act.put, sA, sZ, sS]
        refine tk 5 ?_ rfl ?_ ?_; rotate_left; focus (intro w hSw; clear hSw; go_simp; try (with_reducible rfl))
        try simp only [Act.put, sA, sZ, sS]
        refine tk 6 ?_ rfl ?_ ?_; rotate_left; focus (intro w hSw; clear hSw; go_simp; try (with_reducible rfl))
        try simp only [Act.put, sA, sZ, sS]
        refine tk 7 ?_ rfl ?_ ?_; rotate_left; focus (intro w hSw; clear hSw; go_simp; try (with_reducible rfl))
        try simp only [Act.put, sA, sZ, sS]
        refine tk 8 ?_ rfl ?_ ?_; rotate_left; focus (intro w hSw; clear hSw; go_simp; try (with_reducible rfl))
        try simp only [Act.put, sA, sZ, sS]
        refine tk 9 ?_ rfl ?_ ?_; rotate_left; focus (intro w hSw; clear hSw; go_simp; try (with_reducible rfl))
        try simp only [Act.put, sA, sZ, sS]
        refine tk 10 ?_ rfl ?_ ?_; rotate_left; focus (intro w hSw; clear hSw; go_simp; try (with_reducible rfl))
        try simp only [Act.put, sA, sZ, sS]
        refine tk 11 ?_ rfl ?_ ?_; rotate_left; focus (intro w hSw; clear hSw; go_simp; try (with_reducible rfl))
        try simp only [Act.put, sA, sZ, sS]
        refine tk 12 ?_ rfl ?_ ?_; rotate_left; focus (intro w hSw; clear hSw; go_simp; try (with_reducible rfl))
        try simp only [Act.put, sA, sZ, sS]
        refine tk 13 ?_ rfl ?_ ?_; rotate_left; focus (intro w hSw; clear hSw; go_simp; try (with_reducible rfl))
        try simp only [Act.put, sA, sZ, sS]
        refine tk 14 ?_ rfl ?_ ?_; rotate_left
        · intro wl hSw
          have hSw : Keep _ wl := hSw
          have k0 := (hSw _ (.head _)).1
          dsimp only at k0
          clear hSw
          go_simp
          try (with_reducible rfl)
        try simp only [Act.put, sA, sZ, sS]
        refine tk 15 ?_ rfl ?_ ?_; rotate_left; focus (intro w hSw; clear hSw; go_simp; try (with_reducible rfl))
        try simp only [Act.put, sA, sZ, sS]
        refine tk 16 ?_ rfl ?_ ?_; rotate_left; focus (intro w hSw; clear hSw; go_simp; try (with_reducible rfl))
        try simp only [Act.put, sA, sZ, sS]
        refine tk 17 ?_ rfl ?_ ?_; rotate_left; focus (intro w hSw; clear hSw; go_simp; try (with_reducible rfl))
        try simp only [Act.put, sA, sZ, sS]
        refine tk 18 ?_ rfl ?_ ?_; rotate_left
        · intro wl hSw
          have hSw : Keep _ wl := hSw
          have k0 := (hSw _ (.tail _ (.head _))).1
          dsimp only at k0
          clear hSw
          go_simp
          try (with_reducible rfl)
        try simp only [Act.put, sA, sZ, sS]
        refine tk 19 ?_ rfl ?_ ?_; rotate_left; focus (intro w hSw; clear hSw; go_simp; try (with_reducible rfl))
        try simp only [Act.put, sA, sZ, sS]
        refine tk 20 ?_ rfl ?_ ?_; rotate_left; focus (intro w hSw; clear hSw; go_simp; try (with_reducible rfl))
        try simp only [Act.put, sA, sZ, sS]
        refine wpAnyH_done (by kernel_rfl) ?_ _
        clear hHeld
        cases hb2 : ((s.extract a p).toList == (bs x.t).toList) with
        | true =>
          have HS2 := Lib.hid (show stK L (u.drop a) (k + 1) = stK L (u.drop a) k ++ [k] by
            have h3 := hb2
            rw [ext_eq HS.out (by rw [HP.out, HTL.out])] at h3
            rw [stK_snoc, HX.out, prefix_cut (by have := HUL.out; have := HTL.out; have := HP.out; omega), h3, if_pos rfl])
          obtain ⟨wy, hwy⟩ : ∃ z, z = wf.alloc (.cells #[.int .i64 (k : Int)] 3) := ⟨_, rfl⟩
          have V5 := Lib.hid (show Hp w (box 3 wf.heap.size [.int .i64 (k : Int)] :: nums C m d (dI (stK L (u.drop a) k)) :: obox g1 nm (some ⟨b, off, none⟩) n c :: []) wy by rw [hwy]; exact Vwf.out.box_new _ _)
          have q0 := (V5.out.box_at (i := 0) (j := 0) rfl rfl).1
          obtain ⟨g9, cap9, w9, hr9, hv9, _⟩ := run_app_num V5.out (i := 1) rfl 35 (k : Int) q0 (by omega)
          have V6 := Lib.hid (show Hp w [nums (some ⟨g9, 0, none⟩) (m + 1) cap9 (dI (stK L (u.drop a) k) ++ [(k : Int)]), obox g1 nm (some ⟨b, off, none⟩) n c] w9 from hv9.tail)
          rw [← dI_snoc, ← HS2.out] at V6
          have HM2 := Lib.hid (show (stK L (u.drop a) (k + 1)).length = m + 1 by rw [HS2.out, List.length_append, HM.out]; rfl)
          have HY := Lib.hid hwy
          have HR9 := Lib.hid hr9
          clear hwy q0 hv9 hr9 hb2
          go_wp2_with (at_builtin; rw [← HY.out]; refine wpList_app_run rfl (.tmp 45) (.tmp 47) 35 rfl HR9.out rfl rfl ?_)
          go_roundw
          case rel => exact ⟨k + 1, m + 1, cap9, _, by omega, by omega, by go_num, rfl, HM2.out, V6.out⟩
          case measure => simp [intOf]; omega
        | false =>
          have HS2 := Lib.hid (show stK L (u.drop a) (k + 1) = stK L (u.drop a) k by
            have h3 := hb2
            rw [ext_eq HS.out (by rw [HP.out, HTL.out])] at h3
            rw [stK_snoc, HX.out, prefix_cut (by have := HUL.out; have := HTL.out; have := HP.out; omega), h3, if_neg (by decide), List.append_nil])
          clear hb2
          go_wp2_with fail
          go_roundw
          case rel => exact ⟨k + 1, m, d, C, by omega, by omega, by go_num, rfl, by rw [HS2.out]; exact HM.out, by rw [HS2.out]; exact Vwf.out⟩
          case measure => simp [intOf]; omega
      · have e1 : decide ((p : Int) ≤ (ul : Int)) = false := decide_eq_false (by omega)
        have HS2 := Lib.hid (show stK L (u.drop a) (k + 1) = stK L (u.drop a) k by
          rw [stK_snoc, HX.out, prefix_no (by have := HUL.out; have := HTL.out; omega) (by have := HUL.out; omega), if_neg (by decide), List.append_nil])
        clear hp
        have hKp : Keep [(⟨g1, 1, none⟩, .slice (some ⟨b, off, none⟩) n c), (⟨b, off + k * 4, none⟩, .string (bs x.t))] wi := List.forall_mem_cons.2 ⟨⟨(V3.out.box_at (i := 1) (j := 1) rfl rfl).1, (V3.out.box_at (i := 1) (j := 1) rfl rfl).2.2⟩, List.forall_mem_cons.2 ⟨⟨c0, hb⟩, fun _ h => by simp at h⟩⟩
        refine wp_region_held_drew (S := Keep _) (by kernel_rfl) hKp.drew (fun hHeld => ?_)
        obtain ⟨wf, hwf⟩ : ∃ z, z = wi.drew := ⟨_, rfl⟩
        have Vwf := Lib.hid (show Hp w (nums C m d (dI (stK L (u.drop a) k)) :: obox g1 nm (some ⟨b, off, none⟩) n c :: []) wf by rw [hwf]; exact V3.out.go (bdrew _))
        have Bwf := Lib.hid (show Below wi.heap.size wi wf by rw [hwf]; exact bdrew _)
        rw [← hwf] at hHeld ⊢
        clear hwf hKp
        refine tk 0 ?_ rfl ?_ ?_; rotate_left; focus (intro w hSw; clear hSw; go_simp; try (with_reducible rfl))
        try simp only [Act.put, sA, sZ, sS]
        refine tk 1 ?_ rfl ?_ ?_; rotate_left; focus (intro w hSw; clear hSw; go_simp; try (with_reducible rfl))
        try simp only [Act.put, sA, sZ, sS]
        refine tk 2 ?_ rfl ?_ ?_; rotate_left; focus (intro w hSw; clear hSw; go_simp; try (with_reducible rfl))
        try simp only [Act.put, sA, sZ, sS]
        refine tk 3 ?_ rfl ?_ ?_; rotate_left; focus (intro w hSw; clear hSw; go_simp; try (with_reducible rfl))
        try simp only [Act.put, sA, sZ, sS]
        refine tk 4 ?_ rfl ?_ ?_; rotate_left; focus (intro w hSw; clear hSw; go_simp; try (with_reducible rfl))
        try simp only [Act.put, sA, sZ, sS]
        refine tk 5 ?_ rfl ?_ ?_; rotate_left; focus (intro w hSw; clear hSw; go_simp; try (with_reducible rfl))
        try simp only [Act.put, sA, sZ, sS]
        refine tk 6 ?_ rfl ?_ ?_; rotate_left; focus (intro w hSw; clear hSw; go_simp; try (with_reducible rfl))
        try simp only [Act.put, sA, sZ, sS]
        refine tu 7 rfl ?_
        try simp only [Act.put, sA, sZ, sS]
        refine tu 8 rfl ?_
        try simp only [Act.put, sA, sZ, sS]
        refine tu 9 rfl ?_
        try simp only [Act.put, sA, sZ, sS]
        refine tu 10 rfl ?_
        try simp only [Act.put, sA, sZ, sS]
        refine tu 11 rfl ?_
        try simp only [Act.put, sA, sZ, sS]
        refine tu 12 rfl ?_
        try simp only [Act.put, sA, sZ, sS]
        refine tu 13 rfl ?_
        try simp only [Act.put, sA, sZ, sS]
        refine tu 14 rfl ?_
        try simp only [Act.put, sA, sZ, sS]
        refine tu 15 rfl ?_
        try simp only [Act.put, sA, sZ, sS]
        refine tu 16 rfl ?_
        try simp only [Act.put, sA, sZ, sS]
        refine tu 17 rfl ?_
        try simp only [Act.put, sA, sZ, sS]
        refine tu 18 rfl ?_
        try simp only [Act.put, sA, sZ, sS]
        refine tu 19 rfl ?_
        try simp only [Act.put, sA, sZ, sS]
        refine tk 20 ?_ rfl ?_ ?_; rotate_left; focus (intro w hSw; clear hSw; go_simp; try (with_reducible rfl))
        try simp only [Act.put, sA, sZ, sS]
        refine wpAnyH_done (by kernel_rfl) ?_ _
        clear hHeld
        go_wp2_with fail
        go_roundw
        case rel => exact ⟨k + 1, m, d, C, by omega, by omega, by go_num, rfl, by rw [HS2.out]; exact HM.out, by rw [HS2.out]; exact Vwf.out⟩
        case measure => simp [intOf]; omega
    · obtain rfl : k = n := by omega
      have HE := Lib.hid (show stK L (u.drop a) k = stL L (u.drop a) by rw [← stK_all, HL.out])
      rw [HE.out] at HM V3
      go_wp2_with fail
      go_ret
      exact ⟨C, m, d, rfl, HM.out, V3.out.sub (fun i => i) (fun _ _ e => e) (fun i it hi => by
        cases i with
        | zero => exact hi
        | succ i => simp at hi)⟩
end Go.Proofs.YtjamfcihjendiaaGreat
