/- Contract of the reference's Letters. -/
import Derived.Test.YtlkigmlgbnlkaaaDoorPf
namespace Go.Proofs.YtlkigmlgbnlkaaaDoor
open Go.RowKit
set_option linter.unusedVariables false

theorem mok_byte {s : ByteArray} {k : Nat} (hk : k < s.size) (h : mokR false s.data.toList = true) : isS s[k] = true ∨ (s[k] = 46 ∧ lastS false (s.data.toList.take k) = true) := by
  have e : s.data.toList = s.data.toList.take (k + 1) ++ s.data.toList.drop (k + 1) := (List.take_append_drop _ _).symm
  rw [e] at h
  have h2 := mokR_pre h
  rw [takeS hk, mokR_snoc] at h2
  simp at h2
  exact h2.2
theorem last_sign {s : ByteArray} {k : Nat} (hk : k ≤ s.size) (h : lastS false (s.data.toList.take k) = true) : ∃ h1 : k - 1 < s.size, 0 < k ∧ isS s[k - 1] = true ∧ s.data.toList.take k = s.data.toList.take (k - 1) ++ [s[k - 1]] := by
  cases k with
  | zero => rw [List.take_zero] at h; cases h
  | succ j =>
    have hj : j < s.size := by omega
    rw [takeS hj, lastS_snoc] at h
    exact ⟨by omega, by omega, h, takeS hj⟩
theorem intCells_set (M : List Int) (a b : Int) : (intCells (M ++ [a])).set M.length (.int .i64 b) = intCells (M ++ [b]) := by
  rw [intCells_snoc, intCells_snoc, List.set_append, if_neg (by rw [intCells_len]; omega), intCells_len, Nat.sub_self]
  rfl
theorem new_x {s : ByteArray} {k : Nat} (hk : k < s.size) (h : (120 : UInt8) ∉ s.data.toList.take k) (h1 : s[k] ≠ 120) : (120 : UInt8) ∉ s.data.toList.take (k + 1) := by
  rw [takeS hk]; simp; exact ⟨h, fun e => h1 e.symm⟩
def QRel (s : ByteArray) (w : World) (v i : Value) (wr : World) : Prop :=
  ∃ (k n : Nat), k ≤ s.size ∧ n ≤ k ∧ i = .int .i64 (k : Int) ∧ n = (letR (s.data.toList.take k)).length ∧ (120 : UInt8) ∉ s.data.toList.take k ∧ wr.ownsRow w.heap.size 3 1 v n (intCells (letR (s.data.toList.take k))) ∧ Below w.heap.size w wr
theorem qrel_more {s : ByteArray} {w wr w1 : World} {v v' : Value} {o : Obj} {k n : Nat} {x : Int} (hk : k < s.size) (hn : n ≤ k) (hL : n = (letR (s.data.toList.take k)).length)
    (hx : letR (s.data.toList.take (k + 1)) = letR (s.data.toList.take k) ++ [x]) (h120 : (120 : UInt8) ∉ s.data.toList.take (k + 1)) (hown : wr.ownsRow w.heap.size 3 1 v n (intCells (letR (s.data.toList.take k)))) (hb : Below w.heap.size w wr)
    (hown' : w1.ownsRow w.heap.size 3 1 v' (n + 1) (intCells (letR (s.data.toList.take k)) ++ [.int .i64 x])) (hg : (wr.alloc o).grownBy w1 v.ownBlock) : QRel s w v' (.int .i64 ((k : Int) + 1)) w1 :=
  ⟨k + 1, n + 1, by omega, by omega, by go_num, by rw [hx]; simp [hL], h120, by rw [hx, intCells_snoc]; exact hown', (hb.alloc hb.size o).grown hg (by have := hb.size; simp; omega) (fun j hj => (hown.lt j hj).1)⟩

set_option maxHeartbeats 4000000 in
theorem rletters_any (s : ByteArray) (w : World) (hs : s.size ≤ maxLen) :
    Calls Tryd.prog 15 #[.string s] w (LettersPost s.data.toList w) := by
  obtain ⟨i0, hi, hz0, hz1, hz2⟩ := info_parts Tryd.infoInt
  obtain ⟨x, hx⟩ : ∃ x, x = mErr s.data.toList := ⟨_, rfl⟩
  have HX := Lib.hid hx
  by_cases hx0 : x = 0
  · subst hx0
    obtain ⟨h120, hmok, h60⟩ := mErr_zero hx.symm
    have HMOK := Lib.hid hmok
    have hs120 : s.size ≤ 120 := h120
    clear hmok h60 hx
    go_enter Tryd.func15, Tryd.ntmps15
    go_wp2_with (go_at_call 19; refine (rmarked_any _ _ (by assumption)).mono ?_; rintro e w' ⟨rfl, rfl⟩; rw [← HX.out])
    go_loopw [5, 6] (fun v i wr => QRel s w v i wr) (fun _ i _ => s.size - (intOf i).toNat)
    case atStart => exact ⟨0, 0, Nat.zero_le _, Nat.le_refl _, rfl, rfl, by simp, World.ownsRow_nil _ _ _ _, Below.refl _ _⟩
    case round =>
      obtain ⟨k, n, hk, hn, rfl, hL, hnx, hown, hbr⟩ := hrel
      have HO := Lib.hid hown
      have HBR := Lib.hid hbr
      have HLn := Lib.hid hL
      have HNX := Lib.hid hnx
      have hsz1 : w.heap.size ≤ wr.heap.size := hbr.size
      clear hL hown hbr hnx
      by_cases hlt : k < s.size
      · have HBY := Lib.hid (mok_byte hlt HMOK.out)
        by_cases h117 : (s[k].toNat : Int) = 117
        · have hc := int_117.1 h117
          have HN := Lib.hid (show letR (s.data.toList.take (k + 1)) = letR (s.data.toList.take k) ++ [0] by rw [takeS hlt, letR_sign _ _ (by rw [hc]; decide), hc]; rfl)
          have HNX2 := Lib.hid (new_x hlt HNX.out (by rw [hc]; decide))
          clear hc
          go_wp2_with (at_builtin; refine wpList_append_own _ rfl _ _ 26 rfl w.heap.size 3 i0 (.int .i64 0) 1 8 Tryd.underlying26 hi hz0 hz1 hz2 rfl (by decide) _ _ _ rfl (HO.out.alloc _) ⟨wr.heap.size, 0, none⟩ 1 1 [.int .i64 0] rfl rfl (new_one _ _ _) (one_int _) (by unfold maxLen; omega) (by omega) (by simp; omega) ?_; intro v' w1 hown' hgrow _; have R := Lib.hid (qrel_more hlt hn HLn.out HN.out HNX2.out HO.out HBR.out hown' hgrow); clear hown' hgrow)
          go_roundw
          case rel => exact R.out
          case measure => simp [intOf]; omega
        · by_cases h45 : (s[k].toNat : Int) = 45
          · have hc := int_45.1 h45
            have HN := Lib.hid (show letR (s.data.toList.take (k + 1)) = letR (s.data.toList.take k) ++ [1] by rw [takeS hlt, letR_sign _ _ (by rw [hc]; decide), hc]; rfl)
            have HNX2 := Lib.hid (new_x hlt HNX.out (by rw [hc]; decide))
            clear hc
            go_wp2_with (at_builtin; refine wpList_append_own _ rfl _ _ 26 rfl w.heap.size 3 i0 (.int .i64 0) 1 8 Tryd.underlying26 hi hz0 hz1 hz2 rfl (by decide) _ _ _ rfl (HO.out.alloc _) ⟨wr.heap.size, 0, none⟩ 1 1 [.int .i64 1] rfl rfl (new_one _ _ _) (one_int _) (by unfold maxLen; omega) (by omega) (by simp; omega) ?_; intro v' w1 hown' hgrow _; have R := Lib.hid (qrel_more hlt hn HLn.out HN.out HNX2.out HO.out HBR.out hown' hgrow); clear hown' hgrow)
            go_roundw
            case rel => exact R.out
            case measure => simp [intOf]; omega
          · by_cases hx120 : (s[k].toNat : Int) = 120
            · have HE := Lib.hid (letters_open HX.out.symm (by rw [← int_120.1 hx120, getB]; exact List.getElem_mem _))
              go_wp2
              go_ret2
              exact letters_none HE.out HBR.out
            · have hns : isS s[k] = false := by unfold isS sgn; simp [h117, h45, hx120]
              have h46 : s[k] = 46 := by
                rcases HBY.out with h | h
                · rw [hns] at h; cases h
                · exact h.1
              have hla : lastS false (s.data.toList.take k) = true := by
                rcases HBY.out with h | h
                · rw [hns] at h; cases h
                · exact h.2
              have h46i : (s[k].toNat : Int) = 46 := by rw [h46]; rfl
              obtain ⟨h1, hk0, hd, ht⟩ := last_sign hk hla
              obtain ⟨M, hM⟩ : ∃ M, M = letR (s.data.toList.take (k - 1)) := ⟨_, rfl⟩
              obtain ⟨y, hy⟩ : ∃ y, y = baseB s[k - 1] := ⟨_, rfl⟩
              have hy1 : 0 ≤ y ∧ y ≤ 1 := by rw [hy]; unfold baseB; split <;> omega
              have hLk : letR (s.data.toList.take k) = M ++ [y] := by rw [ht, letR_sign _ _ hd, hM, hy]
              have HN := Lib.hid (show letR (s.data.toList.take (k + 1)) = M ++ [y + 2] by rw [takeS hlt, h46, ht, letR_point _ _ hd, hM, hy])
              have HNX2 := Lib.hid (new_x hlt HNX.out (by rw [h46]; decide))
              obtain ⟨m, hm⟩ : ∃ m, m = M.length := ⟨_, rfl⟩
              have hnm : n = m + 1 := by rw [HLn.out, hLk, hm]; simp
              have hown := HO.out
              rw [hLk] at hown
              subst hnm
              obtain ⟨g, c, hvv, hB, hlt'⟩ := hown.form (by omega)
              subst hvv
              have hcell : wr.cell? ⟨g, m, none⟩ = some (.int .i64 y) := by
                rw [hown.cellAt _ (by omega), intCells_snoc, List.getElem?_append_right (by rw [intCells_len]; omega), intCells_len, hm]; simp
              have hfz := hown.frozenAt m
              have HO2 := Lib.hid hown
              have HMM := Lib.hid hm
              clear hown hns h46 hla hd ht hM hy hLk hm h117 h45 hx120 h1
              go_wp2
              go_roundw
              case rel =>
                refine ⟨k + 1, m + 1, by omega, by omega, by go_num, by rw [HN.out, HMM.out]; simp, HNX2.out, ?_, HBR.out.setCell hB _⟩
                rw [HN.out, ← intCells_set M y (y + 2), ← HMM.out]
                simpa using (HO2.out.stored m _).1
              case measure => simp [intOf]; omega
      · obtain rfl : k = s.size := by omega
        have HT := Lib.hid (takeAll (s := s) (Nat.le_refl _))
        have HE := Lib.hid (letters_ok HX.out.symm (by rw [← HT.out]; exact HNX.out))
        have HO2 := HO.out
        rw [HT.out] at HO2
        have HO3 := Lib.hid HO2
        clear HO2
        go_wp2
        go_ret2
        exact letters_ret HE.out (by rw [HLn.out, HT.out]) HO3.out HBR.out
  · have HE := Lib.hid (letters_err hx.symm hx0)
    have hxf : (x == 0) = false := by simp [hx0]
    have hxf2 : (x != 0) = true := by simp [hx0]
    clear hx0 hx
    go_enter Tryd.func15, Tryd.ntmps15
    go_wp2_with (go_at_call 19; refine (rmarked_any _ _ (by assumption)).mono ?_; rintro e w' ⟨rfl, rfl⟩; rw [← HX.out])
    go_ret2
    exact letters_none HE.out (Below.refl _ _)
end Go.Proofs.YtlkigmlgbnlkaaaDoor
