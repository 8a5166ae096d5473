/- Contract of the reference's Parse. -/
import Derived.Test.YtielpkpalfnfgaaDoorNRf
namespace Go.Proofs.YtielpkpalfnfgaaDoor
open Go.RowKit
set_option linter.unusedVariables false
set_option maxRecDepth 100000

theorem empty_toList {s : ByteArray} (h : s.size = 0) : s.toList.isEmpty = true := by
  have : s.toList = [] := by rw [ByteArray.toList_eq]; exact List.eq_nil_of_length_eq_zero (by rw [sizeB]; exact h)
  rw [this]; rfl
theorem nonempty_toList {s : ByteArray} (h : s.size ≠ 0) : s.toList.isEmpty = false := by
  rw [ByteArray.toList_eq]
  cases e : s.data.toList with
  | nil => have := sizeB s; rw [e] at this; simp at this; omega
  | cons => rfl
/-- The number of the places from a up to k. -/
def segV (s : ByteArray) (a k : Nat) : Int := decV ((s.data.toList.take k).drop a)
theorem segV_step {s : ByteArray} {a k : Nat} (ha : a ≤ k) (h : k < s.size) : segV s a (k + 1) = segV s a k * 10 + ((s[k].toNat : Int) - 48) := by
  unfold segV
  rw [take_snocB s k h, List.drop_append_of_le_length (by rw [List.length_take, sizeB]; omega), decV_snoc]; rfl
theorem dig_at {s : ByteArray} {k : Nat} (h : allD s.data.toList) (hk : k < s.size) : 48 ≤ (s[k].toNat : Int) ∧ (s[k].toNat : Int) ≤ 57 := by
  have := h s[k] (by
    have : s[k] = s.data.toList[k]'(by rw [sizeB]; exact hk) := rfl
    rw [this]; exact List.getElem_mem _)
  have := (isd_iff _).1 this
  omega
theorem segV_zero (s : ByteArray) (a : Nat) (h : a ≤ s.size) : segV s a a = 0 := by
  unfold segV
  rw [List.drop_of_length_le (by rw [List.length_take, sizeB]; omega)]; rfl
theorem segV_bd {s : ByteArray} {a k : Nat} (ha : allD s.data.toList) (hk : k ≤ a + 4) (hs : k ≤ s.size) : 0 ≤ segV s a k ∧ segV s a k < 10000 := by
  unfold segV
  have ha2 : allD ((s.data.toList.take k).drop a) := fun c hc => ha c (List.mem_of_mem_take (List.mem_of_mem_drop hc))
  have h1 := decV_lt ha2
  have h2 := decV_nonneg ha2
  rw [List.length_drop, List.length_take, sizeB, Nat.min_eq_left hs] at h1
  have h3 : ten (k - a) ≤ 10000 := by
    have : k - a ≤ 4 := by omega
    match k - a, this with
    | 0, _ => simp [ten]
    | 1, _ => simp [ten]
    | 2, _ => simp [ten]
    | 3, _ => simp [ten]
    | 4, _ => simp [ten]
  omega
theorem seg_piece {s : ByteArray} {T a : Nat} (hT : T ≤ s.size) (ha : a ≤ T) (h : T = a + 4 ∨ (a = 0 ∧ T ≤ 4)) (hall : allD s.data.toList) : decV (s.data.toList.take T) = decV (s.data.toList.take a) * 10000 + segV s a T := by
  obtain ⟨p1, _, _, p4, _, _⟩ := par_piece hT ha h hall
  rw [p4, p1]; rfl
set_option maxHeartbeats 2000000 in
theorem rparse_any (s : ByteArray) (W : World) (hs : s.size ≤ maxLen) :
    Calls Tryd.prog 31 #[.string s] W (NatPost (parseV s.data.toList) W) := by
  have hs63 := hs
  unfold maxLen at hs63
  obtain ⟨i0, hi, hz0, hz1, hz2⟩ := info_parts Tryd.infoInt
  by_cases h0 : s.size = 0
  · have HE := Lib.hid (parse_bad (tb_empty h0))
    have hx2 := empty_toList h0
    clear h0
    go_enter Tryd.func31, Tryd.ntmps31
    go_wp2
    exact bodyPost_ret (v := .tuple #[.agg #[.slice none 0 0], .int .i64 2]) (by simp [results, Tryd.results31, go_sem]) rfl (nat_err HE.out ((Below.refl _ _).alloc (Nat.le_refl _) _))
  · have hpos : 0 < s.size := by omega
    have hx2 := nonempty_toList h0
    by_cases hz : 1 < s.size ∧ ((s[0]'hpos).toNat : Int) = 48
    · obtain ⟨h1, h48⟩ := hz
      have HE := Lib.hid (parse_bad (tb_zero (s := s) h1 (by omega)))
      have h1' : (1 : Int) < (s.size : Int) := by omega
      clear h0
      go_enter Tryd.func31, Tryd.ntmps31
      go_wp2
      exact bodyPost_ret (v := .tuple #[.agg #[.slice none 0 0], .int .i64 2]) (by simp [results, Tryd.results31, go_sem]) rfl (nat_err HE.out ((Below.refl _ _).alloc (Nat.le_refl _) _))
    · have H0 : Hid (s.size = 1 ∨ s[0].toNat ≠ 48) := by
        show s.size = 1 ∨ s[0].toNat ≠ 48
        by_cases h1 : 1 < s.size
        · exact .inr (fun e => hz ⟨h1, by omega⟩)
        · exact .inl (by omega)
      have hgo : ((1 : Int) < (s.size : Int) ∧ (((s[0]'hpos).toNat : Int) == 48) = false) ∨ (s.size : Int) ≤ 1 := by
        by_cases h1 : 1 < s.size
        · exact .inl ⟨by omega, by
            rw [Bool.eq_false_iff]
            intro e
            exact hz ⟨h1, by simpa using e⟩⟩
        · exact .inr (by omega)
      clear hz h0
      rcases hgo with ⟨hg1, hg2⟩ | hg1
      all_goals
        go_enter Tryd.func31, Tryd.ntmps31
        go_wp2
        go_loop [4] (fun i => ∃ k : Nat, k ≤ s.size ∧ i = .int .i64 (k : Int) ∧ allD (s.data.toList.take k)) (fun i => s.size - (intOf i).toNat)
        case atStart => exact ⟨0, Nat.zero_le _, rfl, fun c hc => by simp at hc⟩
        case round =>
          obtain ⟨k, hk, rfl, ha⟩ := hrel
          have HA := Lib.hid ha
          clear ha
          by_cases hlt : k < s.size
          · have hb : (s[k].toNat : Int) ≤ 255 := by have := s[k].toNat_lt; omega
            by_cases h48 : (s[k].toNat : Int) < 48
            · have HE := Lib.hid (parse_bad (tb_bad hlt (.inl (by omega))))
              go_wp2
              exact bodyPost_ret (v := .tuple #[.agg #[.slice none 0 0], .int .i64 2]) (by simp [results, Tryd.results31, go_sem]) rfl (nat_err HE.out ((Below.refl _ _).alloc (Nat.le_refl _) _))
            · by_cases h57 : (57 : Int) < (s[k].toNat : Int)
              · have HE := Lib.hid (parse_bad (tb_bad hlt (.inr (by omega))))
                go_wp2
                exact bodyPost_ret (v := .tuple #[.agg #[.slice none 0 0], .int .i64 2]) (by simp [results, Tryd.results31, go_sem]) rfl (nat_err HE.out ((Below.refl _ _).alloc (Nat.le_refl _) _))
              · have HS := Lib.hid (all_step hlt HA.out (by omega) (by omega))
                go_wp2
                go_round
                case rel => exact ⟨k + 1, by omega, by go_num, HS.out⟩
                case measure => simp [intOf]; omega
          · obtain rfl : k = s.size := by omega
            have ht := tb_ok hpos HA.out H0.out
            by_cases hbig : 800 < s.size
            · have HE := Lib.hid (parse_long ht (by rw [sizeB]; exact hbig))
              clear ht
              first
              | (exfalso; omega)
              | (go_wp2
                 exact bodyPost_ret (v := .tuple #[.agg #[.slice none 0 0], .int .i64 3]) (by simp [results, Tryd.results31, go_sem]) rfl (nat_err HE.out ((Below.refl _ _).alloc (Nat.le_refl _) _)))
            · have HE := Lib.hid (parse_ok ht (by rw [sizeB]; exact hbig))
              have HALL := Lib.hid ((isTB_iff _).1 ht).2.1
              have hs8 : s.size ≤ 800 := by omega
              clear ht hg1
              go_wp2
              go_loopw [5, 6] (fun v tv wr => ∃ t : Int, tv = .int .i64 t ∧ ParSt s W t v wr) (fun _ tv _ => (intOf tv).toNat)
              case atStart => exact ⟨_, rfl, par_start s W⟩
              case round =>
                obtain ⟨t, rfl, hst⟩ := hrel
                by_cases htp : 0 < t
                · obtain ⟨T, rfl⟩ : ∃ T : Nat, t = T := ⟨t.toNat, by omega⟩
                  obtain ⟨L, hlen, h4, hd, hv, hown, hb⟩ := hst
                  have hT0 : 0 < T := by omega
                  have hTs : T ≤ s.size := by omega
                  have hl200 : L.length ≤ 201 := by omega
                  rw [show ((T : Int)).toNat = T by omega] at hv
                  have HLEN := Lib.hid hlen
                  have HD := Lib.hid hd
                  have HVV := Lib.hid hv
                  have HO := Lib.hid hown
                  have HB := Lib.hid hb
                  have HV := Lib.hid (show ∀ k, u5.ownBlock = some k → W.heap.size + 1 ≤ k from fun k hk => (hown.lt k hk).1)
                  have hsW : W.heap.size + 1 ≤ wr.heap.size := by have := hb.size; simpa using this
                  have k63 : L.length + 1 ≤ maxLen := by unfold maxLen; omega
                  have k8 : (L.length + 1) * 8 ≤ 140737488355328 := by omega
                  clear hlen hd hv hown hb
                  obtain ⟨a, ha1, ha2, ha3⟩ : ∃ a : Nat, a ≤ T ∧ (T = a + 4 ∨ (a = 0 ∧ T ≤ 4)) ∧ ((T : Int) - 4).toNat = a := by
                    by_cases c : 4 < T
                    · exact ⟨T - 4, by omega, .inl (by omega), by omega⟩
                    · exact ⟨0, by omega, .inr ⟨rfl, by omega⟩, by omega⟩
                  have HP4 := Lib.hid (seg_piece hTs ha1 ha2 HALL.out)
                  have HA3 := Lib.hid ha3
                  have haT4 : T ≤ a + 4 := by omega
                  have hmx : max ((T : Int) - 4) 0 = (a : Int) := by omega
                  have has : a ≤ s.size := by omega
                  have e1 : IntKind.i64.wrap ((T : Int) - 4) = (T : Int) - 4 := IntWalk.i64_in _ (by omega)
                  clear ha2 ha3
                  obtain ⟨wo, rfl⟩ : ∃ wo : World, wo = wr := ⟨_, rfl⟩
                  go_wp2
                  go_loop [7, 8] (fun dv iv => ∃ k : Nat, a ≤ k ∧ k ≤ T ∧ iv = .int .i64 (k : Int) ∧ dv = .int .i64 (segV s a k)) (fun _ iv => T - (intOf iv).toNat)
                  case atStart => exact ⟨a, Nat.le_refl _, ha1, by first | rfl | go_num, by rw [segV_zero s a has]⟩
                  case round =>
                    obtain ⟨k, hk1, hk2, rfl, rfl⟩ := hrel
                    by_cases hlt : k < T
                    · have hks : k < s.size := by omega
                      have hst := segV_step hk1 hks
                      have hbd := segV_bd (s := s) (a := a) (k := k) HALL.out (by omega) (by omega)
                      have hbd2 := segV_bd (s := s) (a := a) (k := k + 1) HALL.out (by omega) (by omega)
                      have hb5 : (s[k].toNat : Int) ≤ 255 := by have := s[k].toNat_lt; omega
                      have hb6 : 48 ≤ (s[k].toNat : Int) ∧ (s[k].toNat : Int) ≤ 57 := dig_at HALL.out hks
                      obtain ⟨hb7, hb8⟩ := hb6
                      have HST := Lib.hid hst
                      clear hst
                      go_wp2
                      go_round
                      case rel => exact ⟨k + 1, by omega, by omega, by go_num, by rw [HST.out]⟩
                      case measure => simp [intOf] <;> omega
                    · obtain rfl : k = T := by omega
                      have hbd := segV_bd (s := s) (a := a) (k := k) HALL.out haT4 hTs
                      obtain ⟨x, hx⟩ : ∃ x, x = segV s a k := ⟨_, rfl⟩
                      rw [← hx] at HP4 hbd ⊢
                      obtain ⟨p5, p6⟩ := hbd
                      clear hx
                      have ksz : W.heap.size + 1 ≤ (wo.alloc (.cells #[.int .i64 x] 3)).heap.size := by simp; omega
                      go_wp2_with (at_builtin; refine wpList_append_own _ rfl _ _ 22 rfl (W.heap.size + 1) 3 i0 (.int .i64 0) 1 8 Tryd.underlying22 hi hz0 hz1 hz2 rfl (by decide) _ _ _ rfl (HO.out.alloc _) ⟨wo.heap.size, 0, none⟩ 1 1 [.int .i64 x] rfl rfl (new_int _ _ _) (one_int _) k63 k8 ksz ?_; intro v' w1 hown' hgrow _; have R := Lib.hid (par_step (s := s) HLEN.out hT0 HD.out HVV.out HB.out HP4.out p5 p6 HA3.out hown' hgrow HV.out); clear hown' hgrow)
                      exact ⟨⟨_, rfl, R.out⟩, by simp [intOf]; omega⟩
                · obtain ⟨L, A, c, rfl, hd, hi', hc, hm, hv, htr, hb⟩ := par_end hst (by omega) HALL.out hs8
                  have HI := Lib.hid hi'
                  have HTR := Lib.hid htr
                  have HB := Lib.hid hb
                  obtain ⟨n, hn⟩ : ∃ n, n = L.length := ⟨_, rfl⟩
                  rw [← hn] at hc ⊢
                  have HN := Lib.hid hn
                  obtain ⟨hc1, hf1, hs1, _, _⟩ := one1 hb
                  clear hst hd hi' hv htr hb hn
                  go_wp2_with fail
                  refine (rtrim_any L n c _ _ HN.out.symm hc hm HI.out).mono ?_
                  rintro e w' ⟨rfl, rfl⟩
                  obtain ⟨k, hk⟩ : ∃ k, k = (trimL L).length := ⟨_, rfl⟩
                  have R := Lib.hid (par_post (W := W) HE.out HTR.out HI.out (by rw [← HN.out]; exact hc) hm hk HB.out)
                  rw [← hk]
                  clear hk
                  go_wp2_with fail
                  exact bodyPost_ret (v := .tuple #[.agg #[.slice A k c], .int .i64 0]) (by simp [results, Tryd.results31, go_sem, hc1]) rfl R.out
end Go.Proofs.YtielpkpalfnfgaaDoor
