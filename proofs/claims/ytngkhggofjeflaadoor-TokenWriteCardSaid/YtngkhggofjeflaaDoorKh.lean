/- Contract of the reference's Tokens. -/
import Derived.Test.YtngkhggofjeflaaDoorKg
namespace Go.Proofs.YtngkhggofjeflaaDoor
open Go.RowKit
set_option linter.unusedVariables false
set_option maxRecDepth 100000

/-- Behind n bytes of white space. -/
theorem trel_space {s : ByteArray} {k c : Nat} {acc : List Tok} {l0 : Int} {p : Nat} (heq : catT acc (lexR (s.data.toList.drop k) l0) = tokV s.data.toList)
    (hsp : SpOk (s.data.toList.drop k) p) (hc : feeds ((s.data.toList.drop k).take p) = c) : catT acc (lexR (s.data.toList.drop (k + p)) (l0 + (c : Int))) = tokV s.data.toList ∧ blL (s.data.toList.drop (k + p)) = 0 ∧ p + k ≤ s.size ∨ k > s.size := by
  by_cases hk : k ≤ s.size
  · left
    refine ⟨?_, ?_, ?_⟩
    · rw [← heq, hsp.2.2 l0, List.drop_drop, hc]
    · have := hsp.2.1; rwa [List.drop_drop] at this
    · have := hsp.1; rw [List.length_drop, sizeB] at this; omega
  · right; omega

set_option maxHeartbeats 8000000 in
theorem rtokens_any (s : ByteArray) (w : World) (hs : s.size ≤ maxLen) :
    Calls Tryd.prog 14 #[.string s] w (TokPost (tokV s.data.toList).1 (tokV s.data.toList).2.1 (tokV s.data.toList).2.2 w) := by
  obtain ⟨i0, hi, hz0, hz1, hz2⟩ := info_parts token_info
  unfold maxLen at hs
  by_cases hbig : 20000 < s.size
  · have HE := Lib.hid (tok_big (l := s.data.toList) (by rw [sizeB]; exact hbig))
    go_enter Tryd.func14, Tryd.ntmps14
    go_wp2
    go_ret3
    exact tok_fail HE.out (Below.refl _ _)
  · have HE := Lib.hid (tok_ok (l := s.data.toList) (by rw [sizeB]; exact hbig))
    go_enter Tryd.func14, Tryd.ntmps14
    go_wp2
    go_loopw [5, 6, 7] (fun v l a wr => TRel s w v l a wr) (fun _ _ a _ => s.size - (intOf a).toNat)
    case atStart => exact ⟨0, 0, [], 1, Nat.zero_le _, Nat.le_refl _, rfl, rfl, by omega, by omega, rfl, ⟨by rfl, Or.inl ⟨rfl, rfl⟩⟩, Below.refl _ _, by rw [List.drop_zero, catT_nil, HE.out]⟩
    case round =>
      obtain ⟨k, n, acc, l0, hk, hn, rfl, rfl, hl1, hl2, hal, hown, hbr, heq⟩ := hrel
      have HA := Lib.hid hal
      have HO := Lib.hid hown
      have HB := Lib.hid hbr
      have HEQ := Lib.hid heq
      have hsz := hbr.size
      clear hal hown hbr heq
      have hes := Lib.hid (ext_size s k (by omega))
      have hed := Lib.hid (ext_drop s k)
      obtain ⟨q, hq⟩ : ∃ q, q = s.extract k s.size := ⟨_, rfl⟩
      have HQ := Lib.hid hq
      rw [← hq] at hes hed
      have hqs : q.size + k = s.size := by have := hes.out; omega
      clear hq
      go_wp2_with fail
      rw [← HQ.out]
      refine (rspace_any _ _ (by unfold maxLen; omega)).mono ?_
      rintro e w' ⟨p, rfl, hsp, rfl⟩
      obtain ⟨c, hc⟩ : ∃ c, feeds (s.extract k (k + p)).data.toList = c := ⟨_, rfl⟩
      have HC := Lib.hid hc
      have hcf : feeds ((s.data.toList.drop k).take p) = c := by rw [← hc, ext_mid, show k + p - k = p by omega]
      have hcp : c ≤ p := by
        rw [← hcf]; unfold feeds
        have := List.count_le_length (a := (10 : UInt8)) (l := (s.data.toList.drop k).take p)
        rw [List.length_take] at this; omega
      rw [hed.out] at hsp
      rcases trel_space HEQ.out hsp hcf with ⟨heq2, hbl2, hkp⟩ | hbad
      · have HEQ2 := Lib.hid heq2
        have HBL := Lib.hid hbl2
        clear hc hcf hsp heq2 hbl2
        go_wp2_with fail
        refine (rfeeds_any _ _ (by rw [ByteArray.size_extract]; unfold maxLen; omega)).mono ?_
        rintro e w' ⟨rfl, rfl⟩
        rw [HC.out]
        by_cases hend : k + p = s.size
        · have HF := Lib.hid (show catT acc ([], 0, 0) = tokV s.data.toList by rw [← HEQ2.out, dropE (by omega), lex_nil])
          have e1 : ((k : Int) + (p : Int) == (s.size : Int)) = true := by simp; omega
          clear hend
          go_wp2_with fail
          go_ret3
          exact tok_done HF.out HA.out HO.out HB.out
        · have e1 : ((k : Int) + (p : Int) == (s.size : Int)) = false := by simp; omega
          have hes2 := Lib.hid (ext_size s (k + p) (by omega))
          have hed2 := Lib.hid (ext_drop s (k + p))
          obtain ⟨r, hr⟩ : ∃ r, r = s.extract (k + p) s.size := ⟨_, rfl⟩
          have HR0 := Lib.hid hr
          rw [← hr] at hes2 hed2
          have hrs : r.size + (k + p) = s.size := by have := hes2.out; omega
          clear hr
          obtain ⟨kk, t, m, er, hnx⟩ : ∃ kk t m er, nxV r.data.toList = (kk, t, m, er) := ⟨_, _, _, _, rfl⟩
          have HNX := Lib.hid hnx
          by_cases her : er = 0
          · subst her
            have hm0 : 0 < m := (nx_right hnx).2.2.1
            have hmq : m ≤ r.size := by have := (nx_right hnx).2.2.2; rwa [sizeB] at this
            clear hnx
            go_wp2_with fail
            rw [← HR0.out]
            refine (rnext_any _ _ (by unfold maxLen; omega) (by omega)).mono ?_
            rintro e w1 ⟨rfl, hb1⟩
            rw [HNX.out]
            have HB1 := Lib.hid (btwo HB.out (hb1.mono (Nat.le_refl _)))
            have HO1 := Lib.hid (own_go HO.out hb1)
            have hsz1 := hb1.size
            clear hb1
            obtain ⟨W, hW⟩ : ∃ W, W = ((w1.alloc (.cells #[.int .i64 kk, .string (bs t), .int .i64 (l0 + (c : Int))] 29)).alloc (.cells #[.int .i64 kk, .string (bs t), .int .i64 (l0 + (c : Int))] 29)) := ⟨_, rfl⟩
            have HWB := Lib.hid (show Below w1.heap.size w1 W by rw [hW]; exact btwo (bnew _ _) (bnew _ _))
            have HW := Lib.hid hW
            have HOW := Lib.hid (own_go HO1.out HWB.out)
            have HNEW := Lib.hid (show ∀ (j : Nat) (u : Value), (tokCells ⟨kk, t, l0 + (c : Int)⟩)[j]? = some u → W.cell? ((⟨w1.heap.size + 1, 0, none⟩ : Addr).add j) = some u from by rw [hW]; exact new_three' (by simp) _ _ _ _)
            have hWs : W.heap.size = w1.heap.size + 2 := by rw [hW]; simp
            clear hW
            go_wp2_with (at_builtin; rw [← HW.out]; refine wpList_append_lies _ rfl (.tmp 49) (.tmp 51) _ rfl w.heap.size 29 i0 _ 3 32 Tryd.underlying23 hi hz0 hz1 hz2 rfl (by omega) _ n (toksCells acc) rfl HOW.out ⟨w1.heap.size + 1, 0, none⟩ 1 1 (tokCells ⟨kk, t, l0 + (c : Int)⟩) rfl rfl HNEW.out (tok_one _) (by omega) (by unfold maxLen; omega) (by omega) (by omega) _ rfl ?_; intro gg cap w4 hown4 hgrow hat hlt4)
            have HR := Lib.hid (trel_tok HA.out HEQ2.out HBL.out (by rw [← hed2.out]; exact HNX.out) hm0 (by omega) (by omega) (by omega) (by omega) (btwo HB1.out HWB.out) (fun j hj => (HOW.out.lt j hj).1) hown4 hgrow)
            clear hown4 hgrow hat hlt4
            go_wp2_with fail
            go_roundw
            case rel => exact HR.out
            case measure => simp [intOf]; omega
          · have e2 : (er == 0) = false := by simpa using her
            have e3 : (er != 0) = true := by simpa using her
            have HF := Lib.hid (show tokV s.data.toList = ([], l0 + (c : Int), er) by
              rw [← HEQ2.out, lex_bad _ (by intro e; rw [← hed2.out] at e; have : r.data.toList.length = 0 := by rw [e]; rfl
                                            rw [sizeB] at this; omega) HBL.out (by rw [← hed2.out, HNX.out]) her]
              unfold catT; rw [if_neg her])
            clear her hnx
            go_wp2_with fail
            rw [← HR0.out]
            refine (rnext_any _ _ (by unfold maxLen; omega) (by omega)).mono ?_
            rintro e w1 ⟨rfl, hb1⟩
            rw [HNX.out]
            have HB1 := Lib.hid (btwo HB.out hb1)
            clear hb1
            go_wp2_with fail
            go_ret3
            exact tok_fail HF.out (btwo HB1.out (bnew _ _))
      · omega
end Go.Proofs.YtngkhggofjeflaaDoor
