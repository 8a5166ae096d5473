/- Several texts in one: Yd, Oz. -/
import Derived.Test.YtpifchlpakajjaaGreatRtak
import Derived.Test.YtpifchlpakajjaaGreatRtan
import Derived.Lib.ItoaNum
namespace Go.Proofs.YtpifchlpakajjaaGreat
open Go.RowKit
set_option linter.unusedVariables false
set_option linter.unusedSimpArgs false
set_option maxRecDepth 100000

theorem part_at {l r : List UInt8} {k : Nat} (h : l.drop k = 32 :: r) : (splS isSp (l.take k)).2 ∈ splL isSp l := by
  have e : l = l.take k ++ 32 :: r := by rw [← h, List.take_append_drop]
  have h2 := congrArg (splL isSp) e
  rw [splL_cat, spl] at h2
  rw [h2]
  simp [isSp]
theorem splS_sp {l : List UInt8} : splS isSp (l ++ [32]) = ((splS isSp l).1 ++ [(splS isSp l).2], []) := by rw [splS_snoc]; rfl
theorem splS_no {l : List UInt8} {c : UInt8} (h : isSp c = false) : splS isSp (l ++ [c]) = ((splS isSp l).1, (splS isSp l).2 ++ [c]) := by rw [splS_snoc]; unfold stepG; rw [if_neg (by simp [h])]
def WdPost (P : List (List UInt8)) (w : World) (e : Ending) (w' : World) : Prop := ∃ C q d, e = .returned (.slice C q d) ∧ P.length = q ∧ Hp w [strs C q d P] w'
def WdRel (s : ByteArray) (w : World) (v f i : Value) (wr : World) : Prop := ∃ (k fr q d : Nat) (C : Option Addr), k ≤ s.size ∧ fr ≤ k ∧ q ≤ k ∧ v = .slice C q d ∧ f = .int .i64 (fr : Int) ∧ i = .int .i64 (k : Int) ∧ (splS isSp (s.data.toList.take k)).1.length = q ∧ (s.extract fr k).data.toList = (splS isSp (s.data.toList.take k)).2 ∧ Hp w [strs C q d (splS isSp (s.data.toList.take k)).1] wr
theorem ext_more {s : ByteArray} {f k : Nat} (hf : f ≤ k) (hk : k < s.size) : (s.extract f (k + 1)).data.toList = (s.extract f k).data.toList ++ [s[k]] := by
  rw [ext_mid, ext_mid, show k + 1 - f = (k - f) + 1 by omega, List.take_add_one, List.getElem?_drop, show f + (k - f) = k by omega, List.getElem?_eq_getElem (by rw [sizeB]; exact hk)]
  rfl
theorem ext_none (s : ByteArray) (k : Nat) : (s.extract k k).data.toList = [] := by rw [ext_mid, Nat.sub_self]; rfl
set_option maxHeartbeats 4000000 in
theorem words_any (s : ByteArray) (w : World) (hs : s.size ≤ 20000) (hne : ∀ u ∈ splL isSp s.data.toList, u ≠ []) :
    Calls Tryz.prog 93 #[.string s] w (WdPost (splL isSp s.data.toList) w) := by
  have HNE := Lib.hid hne
  have V0 := Lib.hid (show Hp w [strs none 0 0 (splS isSp (s.data.toList.take 0)).1] w from (Hp.start w).nil_row _ rfl rfl rfl)
  clear hne
  go_enter Tryz.func93, Tryz.ntmps93
  go_wp2_with fail
  go_loopw [3, 4, 5] (fun v f i wr => WdRel s w v f i wr ∨ (i = .int .i64 ((s.size : Int) + 1) ∧ WdPost (splL isSp s.data.toList) w (.returned v) wr)) (fun _ _ i _ => s.size + 1 - (intOf i).toNat)
  case atStart => exact Or.inl ⟨0, 0, 0, 0, none, Nat.zero_le _, Nat.le_refl _, Nat.le_refl _, rfl, rfl, rfl, rfl, ext_none s 0, V0.out⟩
  case round =>
    clear V0
    rcases hrel with hrel | ⟨rfl, hdone⟩
    · obtain ⟨k, f, q, d, C, hk, hf, hq, rfl, rfl, rfl, hD, hu, hV⟩ := hrel
      have V := Lib.hid hV
      have HD := Lib.hid hD
      have HU := Lib.hid hu
      clear hV hD hu
      by_cases hlt : k < s.size
      · have e0 : ((k : Int) == (s.size : Int)) = false := by simp; omega
        by_cases h32 : (s[k].toNat : Int) = 32
        · have hck : s[k] = 32 := byte_is (n := 32) h32 (by decide)
          obtain ⟨x, hx⟩ : ∃ x, x = s.extract f k := ⟨_, rfl⟩
          have hxl : x.data.toList = (splS isSp (s.data.toList.take k)).2 := by rw [hx]; exact HU.out
          have hxne : x.data.toList ≠ [] := by
            rw [hxl]
            exact HNE.out _ (part_at (r := s.data.toList.drop (k + 1)) (by rw [dropS hlt, hck]))
          have hfk : f < k := by
            rcases Nat.lt_or_ge f k with h | h
            · exact h
            · obtain rfl : f = k := by omega
              exact absurd (by rw [hx]; exact ext_none s f) hxne
          have HN := Lib.hid (show splS isSp (s.data.toList.take (k + 1)) = ((splS isSp (s.data.toList.take k)).1 ++ [x.data.toList], []) by
            rw [takeS hlt, hck, splS_sp, ← hxl])
          have ef : ((k : Int) == (f : Int)) = false := by simp; omega
          have e1 : ((s[k].toNat : Int) == 32) = true := by rw [h32]; rfl
          obtain ⟨wy, hwy⟩ : ∃ z, z = wr.alloc (.cells #[.string x] 9) := ⟨_, rfl⟩
          have HW := Lib.hid (show wr.alloc (.cells #[.string (s.extract f k)] 9) = wy by rw [hwy, hx])
          have V3 := Lib.hid (show Hp w [box 9 wr.heap.size [.string x], strs C q d (splS isSp (s.data.toList.take k)).1] wy by rw [hwy]; exact V.out.box_new _ _)
          have y0 := (V3.out.box_at (i := 0) (j := 0) rfl rfl).1
          rw [show x = bs x.data.toList from (bs_self x).symm] at y0
          obtain ⟨g5, cap5, w5, hr5, hv5, _⟩ := run_app_str V3.out (i := 1) rfl 122 x.data.toList y0 (by omega)
          have V4 := Lib.hid (show Hp w [strs (some ⟨g5, 0, none⟩) (q + 1) cap5 ((splS isSp (s.data.toList.take k)).1 ++ [x.data.toList])] w5 from hv5.tail)
          have HR5 := Lib.hid hr5
          have HF := Lib.hid hfk
          have HHU := Lib.hid (show (s.extract (k + 1) (k + 1)).data.toList = (splS isSp (s.data.toList.take (k + 1))).2 by rw [HN.out, ext_none])
          have HHD := Lib.hid (show (splS isSp (s.data.toList.take (k + 1))).1.length = q + 1 by rw [HN.out, List.length_append, HD.out]; rfl)
          have HHV := Lib.hid (show Hp w [strs (some ⟨g5, 0, none⟩) (q + 1) cap5 (splS isSp (s.data.toList.take (k + 1))).1] w5 by rw [HN.out]; exact V4.out)
          clear hwy y0 hv5 hr5 hx hxl hxne h32 hck
          go_wp2_with (at_builtin; rw [HW.out]; refine wpList_app_run rfl (.tmp 25) (.tmp 30) 122 rfl HR5.out rfl rfl ?_)
          go_roundw
          case rel => exact Or.inl ⟨k + 1, k + 1, q + 1, cap5, _, by omega, Nat.le_refl _, by omega, rfl, by go_num, by go_num, HHD.out, HHU.out, HHV.out⟩
          case measure => simp [intOf]; omega
        · have hsp : isSp s[k] = false := by unfold isSp; rw [beq_eq_false_iff_ne]; exact byte_ne (n := 32) h32 (by decide)
          have HN := Lib.hid (show splS isSp (s.data.toList.take (k + 1)) = ((splS isSp (s.data.toList.take k)).1, (splS isSp (s.data.toList.take k)).2 ++ [s[k]]) by rw [takeS hlt, splS_no hsp])
          have HHU := Lib.hid (show (s.extract f (k + 1)).data.toList = (splS isSp (s.data.toList.take (k + 1))).2 by rw [HN.out, ext_more hf hlt, HU.out])
          have HHD := Lib.hid (show (splS isSp (s.data.toList.take (k + 1))).1.length = q by rw [HN.out]; exact HD.out)
          have HHV := Lib.hid (show Hp w [strs C q d (splS isSp (s.data.toList.take (k + 1))).1] wr by rw [HN.out]; exact V.out)
          have e1 : ((s[k].toNat : Int) == 32) = false := beq_no h32
          clear h32 hsp
          go_wp2_with fail
          go_roundw
          case rel => exact Or.inl ⟨k + 1, f, q, d, C, by omega, by omega, by omega, rfl, rfl, by go_num, HHD.out, HHU.out, HHV.out⟩
          case measure => simp [intOf]; omega
      · obtain rfl : k = s.size := by omega
        have e0 : ((s.size : Int) == (s.size : Int)) = true := by simp
        obtain ⟨k, hkk⟩ : ∃ k, k = s.size := ⟨_, rfl⟩
        have HKK := Lib.hid hkk
        obtain ⟨x, hx⟩ : ∃ x, x = s.extract f s.size := ⟨_, rfl⟩
        have hta : s.data.toList.take s.size = s.data.toList := takeAll (Nat.le_refl _)
        have hxl : x.data.toList = (splS isSp s.data.toList).2 := by rw [hx, HU.out, hta]
        have hxne : x.data.toList ≠ [] := by
          rw [hxl]
          exact HNE.out _ (by unfold splL; simp)
        have hfk : f < s.size := by
          rcases Nat.lt_or_ge f s.size with h | h
          · exact h
          · obtain rfl : f = s.size := by omega
            exact absurd (by rw [hx]; exact ext_none s s.size) hxne
        have ef : ((s.size : Int) == (f : Int)) = false := by simp; omega
        have HP := Lib.hid (show splL isSp s.data.toList = (splS isSp (s.data.toList.take s.size)).1 ++ [x.data.toList] by rw [hta, hxl]; rfl)
        obtain ⟨wy, hwy⟩ : ∃ z, z = wr.alloc (.cells #[.string x] 9) := ⟨_, rfl⟩
        have HW := Lib.hid (show wr.alloc (.cells #[.string (s.extract f s.size)] 9) = wy by rw [hwy, hx])
        have V3 := Lib.hid (show Hp w [box 9 wr.heap.size [.string x], strs C q d (splS isSp (s.data.toList.take s.size)).1] wy by rw [hwy]; exact V.out.box_new _ _)
        have y0 := (V3.out.box_at (i := 0) (j := 0) rfl rfl).1
        rw [show x = bs x.data.toList from (bs_self x).symm] at y0
        obtain ⟨g5, cap5, w5, hr5, hv5, _⟩ := run_app_str V3.out (i := 1) rfl 122 x.data.toList y0 (by omega)
        have V4 := Lib.hid (show Hp w [strs (some ⟨g5, 0, none⟩) (q + 1) cap5 ((splS isSp (s.data.toList.take s.size)).1 ++ [x.data.toList])] w5 from hv5.tail)
        have HR5 := Lib.hid hr5
        have HDONE := Lib.hid (show WdPost (splL isSp s.data.toList) w (.returned (.slice (some ⟨g5, 0, none⟩) (q + 1) cap5)) w5 from ⟨_, q + 1, cap5, rfl, by rw [HP.out, List.length_append, HD.out]; rfl, by rw [HP.out]; exact V4.out⟩)
        clear hwy y0 hv5 hr5 hx hxl hxne hta hkk
        go_wp2_with (at_builtin; rw [HW.out]; refine wpList_app_run rfl (.tmp 25) (.tmp 30) 122 rfl HR5.out rfl rfl ?_)
        go_roundw
        case rel => exact Or.inr ⟨by first | rfl | go_num, HDONE.out⟩
        case measure => (simp [intOf]; try omega)
    · have HD := Lib.hid hdone
      clear hdone
      go_wp2_with fail
      go_ret
      exact HD.out
end Go.Proofs.YtpifchlpakajjaaGreat

namespace Go.Proofs.YtpifchlpakajjaaGreat
open Go.RowKit
set_option linter.unusedVariables false
set_option linter.unusedSimpArgs false
set_option maxRecDepth 100000

set_option maxHeartbeats 2000000 in
theorem rwhere_any (n : Int) (w : World) (h : 0 ≤ n ∧ n ≤ 4) : Calls Tryz.prog 112 #[.int .i64 n] w fun e w' => e = .returned (.string (bs (wW n))) ∧ Below w.heap.size w w' := by
  rcases ww_cases h with rfl | rfl | rfl | rfl | rfl
  all_goals
    go_enter Tryz.func112, Tryz.ntmps112
    go_wp2_with fail
    go_ret
    exact ⟨rfl, bnew _ _⟩
end Go.Proofs.YtpifchlpakajjaaGreat
