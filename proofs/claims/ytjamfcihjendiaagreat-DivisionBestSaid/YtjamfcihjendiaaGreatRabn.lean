/- Several texts in one: Jg, Zm, Yd, Oz. -/
import Derived.Test.YtjamfcihjendiaaGreatRaav
import Derived.Test.YtjamfcihjendiaaGreatRaat
import Derived.Test.YtjamfcihjendiaaGreatRaaq
import Derived.Test.YtjamfcihjendiaaGreatRaaz
import Derived.Test.YtjamfcihjendiaaGreatRabd
import Derived.Test.YtjamfcihjendiaaGreatRaai
import Derived.Test.YtjamfcihjendiaaGreatRaal
import Derived.Lib.ItoaNum
namespace Go.Proofs.YtjamfcihjendiaaGreat
open Go.RowKit
set_option linter.unusedVariables false
set_option linter.unusedSimpArgs false
set_option maxRecDepth 100000

def ofR (nm : List UInt8) (L : List Sg) (d : List Int) : List Int := if lsE nm L d = 0 then offD L 0 (dN d) else []
end Go.Proofs.YtjamfcihjendiaaGreat

namespace Go.Proofs.YtjamfcihjendiaaGreat
open Go.RowKit
set_option linter.unusedVariables false
set_option linter.unusedSimpArgs false
set_option maxRecDepth 100000

set_option maxHeartbeats 2000000 in
theorem offsetsD_any (nm : List UInt8) (L : List Sg) (A : Option Addr) (n c : Nat) (d : List Int) (D : Option Addr) (m e : Nat) (w : World) (hnm : nm.length ≤ 140737488355328) (hl : L.length = n) (hn : n ≤ 17592186044416) (hnc : n ≤ c) (hs : SgBd L) (hA : SgnIn w A L) (hm : d.length = m) (hmb : m ≤ 17592186044416) (hD : CellsIn w D (ints d)) :
    Calls Tryz.prog 15 #[.agg #[.string (bs nm), .slice A n c], .slice D m e] w fun r w' => ∃ C q k, r = .returned (.tuple #[.slice C q k, .int .i64 (lsE nm L d)]) ∧ (ofR nm L d).length = q ∧ Hp w [nums C q k (ofR nm L d)] w' := by
  obtain ⟨g1, hg1⟩ : ∃ z, z = w.heap.size := ⟨_, rfl⟩
  obtain ⟨W1, hW1⟩ : ∃ z, z = w.alloc (.cells #[.string (bs nm), .slice A n c] 24) := ⟨_, rfl⟩
  have V1 := Lib.hid (show Hp w [obox g1 nm A n c] W1 by rw [hW1, hg1]; exact (Hp.start w).obox_new nm A n c)
  have HW1 := Lib.hid hW1
  have HG1 := Lib.hid hg1
  have HLI := Lib.hid (lfault_any nm L A n c d D m e W1 hnm hl hn hnc hs (hA.below V1.out.below) hm hmb (hD.below V1.out.below))
  have HL := Lib.hid hl
  have HA := Lib.hid hA
  have HD := Lib.hid hD
  have HM := Lib.hid hm
  obtain ⟨z0, z1, z2⟩ := V1.out.obox_at (i := 0) rfl
  clear hW1 hg1 hl hA hD hm hs hnm
  go_enter Tryz.func15, Tryz.ntmps15
  go_upto_region 1 with fail
  rw [← HG1.out, ← HW1.out]
  go_wp2_with fail
  refine HLI.out.mono ?_
  rintro r w2 ⟨rfl, hb⟩
  have V2 := Lib.hid (V1.out.go hb)
  clear hb z0 z1 z2
  by_cases hv : lsE nm L d = 0
  case neg =>
    have HE := Lib.hid (show ofR nm L d = [] by unfold ofR; rw [if_neg hv]) 
    have _y := Lib.hid (show (if lsE nm L d = 0 then 0 else 1) = 1 by rw [if_neg hv])
    obtain ⟨v, hvv⟩ : ∃ v, v = lsE nm L d := ⟨_, rfl⟩
    rw [← hvv] at hv ⊢
    have HVV := Lib.hid hvv
    have e1 : (v != 0) = true := bne_yes hv
    clear hv hvv
    go_wp2_with fail
    go_ret2
    have V3 := Lib.hid (show Hp w [nums none 0 0 (ofR nm L d), obox g1 nm A n c] w2 by rw [HE.out]; exact V2.out.nil_row _ rfl rfl rfl)
    exact ⟨none, 0, 0, by rw [← HVV.out]; rfl, by rw [HE.out]; rfl, V3.out.only⟩
  have HLS := Lib.hid hv
  have HV := Lib.hid (lsE_zero hv).1
  have HRG := Lib.hid (lsE_zero hv).2.2
  have hm16 : m ≤ 16 := by have := (lsE_zero hv).2.1; have := HM.out; omega
  rw [hv]
  obtain ⟨dn, hdn⟩ : ∃ dn, dn = dN d := ⟨_, rfl⟩
  have HDN := Lib.hid (show ∀ i ∈ dn, i < n by rw [hdn, ← HL.out]; exact rgI_dN HRG.out)
  have HDE := Lib.hid (show CellsIn w D (ints (dI dn)) by rw [hdn, dI_dN HRG.out]; exact HD.out)
  have HDM := Lib.hid (show dn.length = m by rw [hdn, dN_len]; exact HM.out)
  have HN0 := Lib.hid hdn
  have hn120 : n ≤ 120 := by have := (vO_zero HV.out).2.2.1; have := HL.out; omega
  clear hv hdn
  have HE := Lib.hid (show ofR nm L d = offD L 0 dn by unfold ofR; rw [if_pos HLS.out, HN0.out])
  have V3 := Lib.hid (show Hp w [nums none 0 0 (offD L 0 (dn.take 0)), obox g1 nm A n c] w2 from V2.out.nil_row _ rfl rfl rfl)
  clear V2
  go_wp2_with fail
  go_loopw [7, 8, 19] (fun v a i wr => ∃ (k q h at_ : Nat) (C : Option Addr), k ≤ m ∧ i = .int .i64 (k : Int) ∧ v = .slice C q h ∧ a = .int .i64 (at_ : Int) ∧ q ≤ k * 2 ∧ at_ ≤ k * 4 ∧ (offD L 0 (dn.take k)).length = q ∧ (tD L (dn.take k)).length = at_ ∧ Hp w [nums C q h (offD L 0 (dn.take k)), obox g1 nm A n c] wr) (fun _ _ i _ => m - (intOf i).toNat)
  case atStart => exact ⟨0, 0, 0, 0, none, Nat.zero_le _, rfl, rfl, rfl, Nat.zero_le _, Nat.zero_le _, rfl, rfl, V3.out⟩
  case round =>
    obtain ⟨k, q, h, at_, C, hk, rfl, rfl, rfl, hq, hat, hql, hal, hV⟩ := hrel
    obtain ⟨wi, rfl⟩ : ∃ wi : World, wi = wr := ⟨_, rfl⟩
    have V5 := Lib.hid hV
    have HQL := Lib.hid hql
    have HAL := Lib.hid hal
    clear hV hql hal V3 V1
    obtain ⟨o0, o1, o2⟩ := V5.out.obox_at (i := 1) rfl
    by_cases hlt : k < m
    · skip
      obtain ⟨i, hi⟩ := get_at (L := dn) (k := k) (by have := HDM.out; omega)
      have hin := HDN.out i (List.mem_of_getElem? hi)
      obtain ⟨bD, oD, hDe, hbD', d0'⟩ := HDE.out.idx hi
      obtain ⟨x, hx⟩ := get_at (L := L) (k := i) (by have := HL.out; omega)
      obtain ⟨b, off, Aj, cj, hAe, hb', c0', c1', c2', c3', c4'⟩ := HA.out.at hx
      have d0 := (V5.out.below.cell (p := ⟨bD, oD + k, none⟩) hbD').trans d0'
      have c0 := (V5.out.below.cell (p := ⟨b, off + i * 4, none⟩) hb').trans c0'
      have c1 := (V5.out.below.cell (p := ⟨b, off + i * 4 + 1, none⟩) hb').trans c1'
      have hbD := Nat.lt_of_lt_of_le hbD' V5.out.below.size
      have hb := Nat.lt_of_lt_of_le hb' V5.out.below.size
      have HC4 := Lib.hid (c4'.below V5.out.below)
      have hxs : x.s.length ≤ 2 ∧ x.t.length ≤ 4 := by have := sgn_bd HV.out (i := i) (by rw [HL.out]; exact hin); rw [sgAt_is hx] at this; omega
      have HN := Lib.hid (show offD L 0 (dn.take (k + 1)) = offD L 0 (dn.take k) ++ List.replicate x.s.length (at_ : Int) by rw [take_snocA hi, offD_snoc, sgAt_is hx, Nat.zero_add, HAL.out])
      have HAN := Lib.hid (show (tD L (dn.take (k + 1))).length = at_ + x.t.length by rw [take_snocA hi, tD_snoc, List.length_append, HAL.out, sgAt_is hx])
      have HB1 := Lib.hid (And.intro hb' c1')
      have HB0 := Lib.hid (And.intro hb' c0')
      rw [hAe] at o1
      have HAE := Lib.hid hAe
      have HDD := Lib.hid hDe
      subst hAe
      subst hDe
      have hi4 : i * 4 ≤ 480 := by omega
      clear hi hx c1' c2' c3' c4' d0' c0' hb' hbD' c0
      obtain ⟨sl, hsl⟩ : ∃ z, z = x.s.length := ⟨_, rfl⟩
      obtain ⟨tl, htl⟩ : ∃ z, z = x.t.length := ⟨_, rfl⟩
      have HTL := Lib.hid htl
      rw [← hsl] at HN hxs c1 HB1
      rw [← htl] at HAN hxs
      clear hsl htl
      go_wp2_with fail
      clear d0 c1 o0 o1 o2
      go_loopw [7, 30] (fun v i wr => ∃ (j r g : Nat) (E : Option Addr), j ≤ sl ∧ i = .int .i64 (j : Int) ∧ v = .slice E r g ∧ q + j ≤ r ∧ r ≤ q + j ∧ Hp w (nums E r g (offD L 0 (dn.take k) ++ List.replicate j (at_ : Int)) :: obox g1 nm (some ⟨b, off, none⟩) n c :: []) wr) (fun _ i _ => sl - (intOf i).toNat)
      case atStart => exact ⟨0, q, h, C, Nat.zero_le _, rfl, rfl, Nat.le_refl _, Nat.le_refl _, by rw [List.replicate_zero, List.append_nil]; exact V5.out⟩
      case round =>
        obtain ⟨j, r, g, E, hj, rfl, rfl, hr1, hr2, hV⟩ := hrel
        obtain ⟨wk, rfl⟩ : ∃ wi : World, wi = wr := ⟨_, rfl⟩
        have V7 := Lib.hid hV
        clear hV V5
        by_cases hjl : j < sl
        · obtain ⟨wy, hwy⟩ : ∃ z, z = wk.alloc (.cells #[.int .i64 (at_ : Int)] 3) := ⟨_, rfl⟩
          have V8 := Lib.hid (show Hp w (box 3 wk.heap.size [.int .i64 (at_ : Int)] :: nums E r g (offD L 0 (dn.take k) ++ List.replicate j (at_ : Int)) :: obox g1 nm (some ⟨b, off, none⟩) n c :: []) wy by rw [hwy]; exact V7.out.box_new _ _)
          have q0 := (V8.out.box_at (i := 0) (j := 0) rfl rfl).1
          obtain ⟨g9, cap9, w9, hr9, hv9, _⟩ := run_app_num V8.out (i := 1) rfl 35 (at_ : Int) q0 (by omega)
          have V9 := Lib.hid (show Hp w (nums (some ⟨g9, 0, none⟩) (r + 1) cap9 (offD L 0 (dn.take k) ++ List.replicate (j + 1) (at_ : Int)) :: obox g1 nm (some ⟨b, off, none⟩) n c :: []) w9 by
            rw [List.replicate_succ', ← List.append_assoc]; exact hv9.tail)
          have HY := Lib.hid hwy
          have HR9 := Lib.hid hr9
          clear hwy q0 hv9 hr9
          go_wp2_with (at_builtin; rw [← HY.out]; refine wpList_app_run rfl (.tmp 32) (.tmp 34) 35 rfl HR9.out rfl rfl ?_)
          go_roundw
          case rel => exact ⟨j + 1, r + 1, cap9, _, by omega, by go_num, rfl, by omega, by omega, V9.out⟩
          case measure => simp [intOf]; omega
        · obtain rfl : j = sl := by omega
          have hzt : (bs x.t).size = tl := by rw [bs_size, HTL.out]
          rw [← HN.out] at V7
          have HQ2 := Lib.hid (show (offD L 0 (dn.take (k + 1))).length = r by rw [HN.out, List.length_append, HQL.out, List.length_replicate]; omega)
          have c0 := (V7.out.below.cell (p := ⟨b, off + i * 4, none⟩) HB0.out.1).trans HB0.out.2
          have hb := Nat.lt_of_lt_of_le HB0.out.1 V7.out.below.size
          obtain ⟨o0, o1, o2⟩ := V7.out.obox_at (i := 1) rfl
          go_wp2_with fail
          go_roundw
          case rel => exact ⟨k + 1, r, g, at_ + tl, E, by omega, by go_num, rfl, by go_num, by omega, by omega, HQ2.out, HAN.out, V7.out⟩
          case measure => simp [intOf]; omega
    · obtain rfl : k = m := by omega
      have HT := Lib.hid (show dn.take k = dn from List.take_of_length_le (by have := HDM.out; omega))
      rw [HT.out, ← HE.out] at HQL V5
      go_wp2_with fail
      go_ret2
      exact ⟨C, q, h, by rw [HLS.out]; rfl, HQL.out, V5.out.only⟩
end Go.Proofs.YtjamfcihjendiaaGreat

namespace Go.Proofs.YtjamfcihjendiaaGreat
open Go.RowKit
set_option linter.unusedVariables false
set_option linter.unusedSimpArgs false
set_option maxRecDepth 100000

theorem part_at {l r : List UInt8} {k : Nat} (h : l.drop k = 32 :: r) : (splS isSp (l.take k)).2 ∈ splL isSp l := by
  have e : l = l.take k ++ 32 :: r := by rw [← h, List.take_append_drop]
  have h2 := congrArg (splL isSp) e
  rw [splL_cat, spl] at h2
  rw [h2]
  simp [isSp]
theorem splS_sp {l : List UInt8} : splS isSp (l ++ [32]) = ((splS isSp l).1 ++ [(splS isSp l).2], []) := by rw [splS_snoc]; rfl
theorem splS_no {l : List UInt8} {c : UInt8} (h : isSp c = false) : splS isSp (l ++ [c]) = ((splS isSp l).1, (splS isSp l).2 ++ [c]) := by rw [splS_snoc]; unfold stepG; rw [if_neg (by simp [h])]
def WdPost (P : List (List UInt8)) (w : World) (e : Ending) (w' : World) : Prop := ∃ C q d, e = .returned (.slice C q d) ∧ P.length = q ∧ Hp w [strs C q d P] w'
def WdRel (s : ByteArray) (w : World) (v f i : Value) (wr : World) : Prop := ∃ (k fr q d : Nat) (C : Option Addr), k ≤ s.size ∧ fr ≤ k ∧ q ≤ k ∧ v = .slice C q d ∧ f = .int .i64 (fr : Int) ∧ i = .int .i64 (k : Int) ∧ (splS isSp (s.data.toList.take k)).1.length = q ∧ (s.extract fr k).data.toList = (splS isSp (s.data.toList.take k)).2 ∧ Hp w [strs C q d (splS isSp (s.data.toList.take k)).1] wr
theorem ext_more {s : ByteArray} {f k : Nat} (hf : f ≤ k) (hk : k < s.size) : (s.extract f (k + 1)).data.toList = (s.extract f k).data.toList ++ [s[k]] := by
  rw [ext_mid, ext_mid, show k + 1 - f = (k - f) + 1 by omega, List.take_add_one, List.getElem?_drop, show f + (k - f) = k by omega, List.getElem?_eq_getElem (by rw [sizeB]; exact hk)]
  rfl
theorem ext_none (s : ByteArray) (k : Nat) : (s.extract k k).data.toList = [] := by rw [ext_mid, Nat.sub_self]; rfl
set_option maxHeartbeats 4000000 in
theorem words_any (s : ByteArray) (w : World) (hs : s.size ≤ 20000) (hne : ∀ u ∈ splL isSp s.data.toList, u ≠ []) :
    Calls Tryz.prog 52 #[.string s] w (WdPost (splL isSp s.data.toList) w) := by
  have HNE := Lib.hid hne
  have V0 := Lib.hid (show Hp w [strs none 0 0 (splS isSp (s.data.toList.take 0)).1] w from (Hp.start w).nil_row _ rfl rfl rfl)
  clear hne
  go_enter Tryz.func52, Tryz.ntmps52
  go_wp2_with fail
  go_loopw [3, 4, 5] (fun v f i wr => WdRel s w v f i wr ∨ (i = .int .i64 ((s.size : Int) + 1) ∧ WdPost (splL isSp s.data.toList) w (.returned v) wr)) (fun _ _ i _ => s.size + 1 - (intOf i).toNat)
  case atStart => exact Or.inl ⟨0, 0, 0, 0, none, Nat.zero_le _, Nat.le_refl _, Nat.le_refl _, rfl, rfl, rfl, rfl, ext_none s 0, V0.out⟩
  case round =>
    clear V0
    rcases hrel with hrel | ⟨rfl, hdone⟩
    · obtain ⟨k, f, q, d, C, hk, hf, hq, rfl, rfl, rfl, hD, hu, hV⟩ := hrel
      have V := Lib.hid hV
      have HD := Lib.hid hD
      have HU := Lib.hid hu
      clear hV hD hu
      by_cases hlt : k < s.size
      · have e0 : ((k : Int) == (s.size : Int)) = false := by simp; omega
        by_cases h32 : (s[k].toNat : Int) = 32
        · have hck : s[k] = 32 := byte_is (n := 32) h32 (by decide)
          obtain ⟨x, hx⟩ : ∃ x, x = s.extract f k := ⟨_, rfl⟩
          have hxl : x.data.toList = (splS isSp (s.data.toList.take k)).2 := by rw [hx]; exact HU.out
          have hxne : x.data.toList ≠ [] := by
            rw [hxl]
            exact HNE.out _ (part_at (r := s.data.toList.drop (k + 1)) (by rw [dropS hlt, hck]))
          have hfk : f < k := by
            rcases Nat.lt_or_ge f k with h | h
            · exact h
            · obtain rfl : f = k := by omega
              exact absurd (by rw [hx]; exact ext_none s f) hxne
          have HN := Lib.hid (show splS isSp (s.data.toList.take (k + 1)) = ((splS isSp (s.data.toList.take k)).1 ++ [x.data.toList], []) by
            rw [takeS hlt, hck, splS_sp, ← hxl])
          have ef : ((k : Int) == (f : Int)) = false := by simp; omega
          have e1 : ((s[k].toNat : Int) == 32) = true := by rw [h32]; rfl
          obtain ⟨wy, hwy⟩ : ∃ z, z = wr.alloc (.cells #[.string x] 9) := ⟨_, rfl⟩
          have HW := Lib.hid (show wr.alloc (.cells #[.string (s.extract f k)] 9) = wy by rw [hwy, hx])
          have V3 := Lib.hid (show Hp w [box 9 wr.heap.size [.string x], strs C q d (splS isSp (s.data.toList.take k)).1] wy by rw [hwy]; exact V.out.box_new _ _)
          have y0 := (V3.out.box_at (i := 0) (j := 0) rfl rfl).1
          rw [show x = bs x.data.toList from (bs_self x).symm] at y0
          obtain ⟨g5, cap5, w5, hr5, hv5, _⟩ := run_app_str V3.out (i := 1) rfl 88 x.data.toList y0 (by omega)
          have V4 := Lib.hid (show Hp w [strs (some ⟨g5, 0, none⟩) (q + 1) cap5 ((splS isSp (s.data.toList.take k)).1 ++ [x.data.toList])] w5 from hv5.tail)
          have HR5 := Lib.hid hr5
          have HF := Lib.hid hfk
          have HHU := Lib.hid (show (s.extract (k + 1) (k + 1)).data.toList = (splS isSp (s.data.toList.take (k + 1))).2 by rw [HN.out, ext_none])
          have HHD := Lib.hid (show (splS isSp (s.data.toList.take (k + 1))).1.length = q + 1 by rw [HN.out, List.length_append, HD.out]; rfl)
          have HHV := Lib.hid (show Hp w [strs (some ⟨g5, 0, none⟩) (q + 1) cap5 (splS isSp (s.data.toList.take (k + 1))).1] w5 by rw [HN.out]; exact V4.out)
          clear hwy y0 hv5 hr5 hx hxl hxne h32 hck
          go_wp2_with (at_builtin; rw [HW.out]; refine wpList_app_run rfl (.tmp 25) (.tmp 30) 88 rfl HR5.out rfl rfl ?_)
          go_roundw
          case rel => exact Or.inl ⟨k + 1, k + 1, q + 1, cap5, _, by omega, Nat.le_refl _, by omega, rfl, by go_num, by go_num, HHD.out, HHU.out, HHV.out⟩
          case measure => simp [intOf]; omega
        · have hsp : isSp s[k] = false := by unfold isSp; rw [beq_eq_false_iff_ne]; exact byte_ne (n := 32) h32 (by decide)
          have HN := Lib.hid (show splS isSp (s.data.toList.take (k + 1)) = ((splS isSp (s.data.toList.take k)).1, (splS isSp (s.data.toList.take k)).2 ++ [s[k]]) by rw [takeS hlt, splS_no hsp])
          have HHU := Lib.hid (show (s.extract f (k + 1)).data.toList = (splS isSp (s.data.toList.take (k + 1))).2 by rw [HN.out, ext_more hf hlt, HU.out])
          have HHD := Lib.hid (show (splS isSp (s.data.toList.take (k + 1))).1.length = q by rw [HN.out]; exact HD.out)
          have HHV := Lib.hid (show Hp w [strs C q d (splS isSp (s.data.toList.take (k + 1))).1] wr by rw [HN.out]; exact V.out)
          have e1 : ((s[k].toNat : Int) == 32) = false := beq_no h32
          clear h32 hsp
          go_wp2_with fail
          go_roundw
          case rel => exact Or.inl ⟨k + 1, f, q, d, C, by omega, by omega, by omega, rfl, rfl, by go_num, HHD.out, HHU.out, HHV.out⟩
          case measure => simp [intOf]; omega
      · obtain rfl : k = s.size := by omega
        have e0 : ((s.size : Int) == (s.size : Int)) = true := by simp
        obtain ⟨k, hkk⟩ : ∃ k, k = s.size := ⟨_, rfl⟩
        have HKK := Lib.hid hkk
        obtain ⟨x, hx⟩ : ∃ x, x = s.extract f s.size := ⟨_, rfl⟩
        have hta : s.data.toList.take s.size = s.data.toList := takeAll (Nat.le_refl _)
        have hxl : x.data.toList = (splS isSp s.data.toList).2 := by rw [hx, HU.out, hta]
        have hxne : x.data.toList ≠ [] := by
          rw [hxl]
          exact HNE.out _ (by unfold splL; simp)
        have hfk : f < s.size := by
          rcases Nat.lt_or_ge f s.size with h | h
          · exact h
          · obtain rfl : f = s.size := by omega
            exact absurd (by rw [hx]; exact ext_none s s.size) hxne
        have ef : ((s.size : Int) == (f : Int)) = false := by simp; omega
        have HP := Lib.hid (show splL isSp s.data.toList = (splS isSp (s.data.toList.take s.size)).1 ++ [x.data.toList] by rw [hta, hxl]; rfl)
        obtain ⟨wy, hwy⟩ : ∃ z, z = wr.alloc (.cells #[.string x] 9) := ⟨_, rfl⟩
        have HW := Lib.hid (show wr.alloc (.cells #[.string (s.extract f s.size)] 9) = wy by rw [hwy, hx])
        have V3 := Lib.hid (show Hp w [box 9 wr.heap.size [.string x], strs C q d (splS isSp (s.data.toList.take s.size)).1] wy by rw [hwy]; exact V.out.box_new _ _)
        have y0 := (V3.out.box_at (i := 0) (j := 0) rfl rfl).1
        rw [show x = bs x.data.toList from (bs_self x).symm] at y0
        obtain ⟨g5, cap5, w5, hr5, hv5, _⟩ := run_app_str V3.out (i := 1) rfl 88 x.data.toList y0 (by omega)
        have V4 := Lib.hid (show Hp w [strs (some ⟨g5, 0, none⟩) (q + 1) cap5 ((splS isSp (s.data.toList.take s.size)).1 ++ [x.data.toList])] w5 from hv5.tail)
        have HR5 := Lib.hid hr5
        have HDONE := Lib.hid (show WdPost (splL isSp s.data.toList) w (.returned (.slice (some ⟨g5, 0, none⟩) (q + 1) cap5)) w5 from ⟨_, q + 1, cap5, rfl, by rw [HP.out, List.length_append, HD.out]; rfl, by rw [HP.out]; exact V4.out⟩)
        clear hwy y0 hv5 hr5 hx hxl hxne hta hkk
        go_wp2_with (at_builtin; rw [HW.out]; refine wpList_app_run rfl (.tmp 25) (.tmp 30) 88 rfl HR5.out rfl rfl ?_)
        go_roundw
        case rel => exact Or.inr ⟨by first | rfl | go_num, HDONE.out⟩
        case measure => (simp [intOf]; try omega)
    · have HD := Lib.hid hdone
      clear hdone
      go_wp2_with fail
      go_ret
      exact HD.out
end Go.Proofs.YtjamfcihjendiaaGreat

namespace Go.Proofs.YtjamfcihjendiaaGreat
open Go.RowKit
set_option linter.unusedVariables false
set_option linter.unusedSimpArgs false
set_option maxRecDepth 100000

set_option maxHeartbeats 2000000 in
theorem rwhere_any (n : Int) (w : World) (h : 0 ≤ n ∧ n ≤ 4) : Calls Tryz.prog 70 #[.int .i64 n] w fun e w' => e = .returned (.string (bs (wW n))) ∧ Below w.heap.size w w' := by
  rcases ww_cases h with rfl | rfl | rfl | rfl | rfl
  all_goals
    go_enter Tryz.func70, Tryz.ntmps70
    go_wp2_with fail
    go_ret
    exact ⟨rfl, bnew _ _⟩
end Go.Proofs.YtjamfcihjendiaaGreat
