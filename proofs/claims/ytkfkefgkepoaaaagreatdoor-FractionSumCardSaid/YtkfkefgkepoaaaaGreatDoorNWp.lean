/- Contract of Parse of the program. -/
import Derived.Test.YtkfkefgkepoaaaaGreatDoorNWo
namespace Go.Proofs.YtkfkefgkepoaaaaGreatDoor
open Go.RowKit
set_option linter.unusedVariables false
set_option maxRecDepth 100000

def parseV (l : List UInt8) : Int × Int := if isTB l = true then (if 800 < l.length then (0, 3) else (decV l, 0)) else (0, 2)
theorem parse_bad {l : List UInt8} (h : isTB l = false) : parseV l = (0, 2) := by unfold parseV; rw [h]; rfl
theorem parse_long {l : List UInt8} (h : isTB l = true) (h1 : 800 < l.length) : parseV l = (0, 3) := by unfold parseV; rw [if_pos h, if_pos h1]
theorem parse_ok {l : List UInt8} (h : isTB l = true) (h1 : ¬ 800 < l.length) : parseV l = (decV l, 0) := by unfold parseV; rw [if_pos h, if_neg h1]
/-- The state of Parse with the places from t on read. -/
def ParSt (s : ByteArray) (W : World) (t : Int) (v : Value) (w : World) : Prop :=
  ∃ L : List Int, t + 4 * (L.length : Int) = s.size ∧ -4 < t ∧ Dig L ∧ decV s.data.toList = val L + pw L.length * decV (s.data.toList.take t.toNat) ∧ w.ownsRow (W.heap.size + 1) 3 1 v L.length (ints L) ∧ Below (W.heap.size + 1) (box1 W) w
theorem par_start (s : ByteArray) (W : World) : ParSt s W s.size (.slice none 0 0) (box1 W) :=
  ⟨[], by simp, by omega, Dig.nil, by simp [val, pw]; rw [List.take_of_length_le (by rw [sizeB]; omega)], World.ownsRow_nil _ _ _ _, Below.refl _ _⟩
/-- One piece of up to four places. -/
theorem par_piece {s : ByteArray} {T a : Nat} (hT : T ≤ s.size) (ha : a ≤ T) (h : T = a + 4 ∨ (a = 0 ∧ T ≤ 4)) (hall : allD s.data.toList) :
    (s.extract a T).data.toList = (s.data.toList.take T).drop a ∧ (s.extract a T).size ≤ 4 ∧ allD (s.extract a T).data.toList ∧
      decV (s.data.toList.take T) = decV (s.data.toList.take a) * 10000 + decV (s.extract a T).data.toList ∧ 0 ≤ decV (s.extract a T).data.toList ∧ decV (s.extract a T).data.toList < 10000 := by
  have e : (s.extract a T).data.toList = (s.data.toList.take T).drop a := by simp [List.drop_take]
  have hall2 : allD ((s.data.toList.take T).drop a) := fun c hc => hall c (List.mem_of_mem_take (List.mem_of_mem_drop hc))
  have hsz : (s.extract a T).size = T - a := by rw [ByteArray.size_extract]; omega
  have hlen : ((s.data.toList.take T).drop a).length = T - a := by rw [List.length_drop, List.length_take, sizeB]; omega
  have hsplit : s.data.toList.take T = s.data.toList.take a ++ (s.data.toList.take T).drop a := by
    have := (List.take_append_drop a (s.data.toList.take T)).symm
    rwa [List.take_take, Nat.min_eq_left ha] at this
  have hl := decV_lt hall2
  have hn := decV_nonneg hall2
  rw [hlen] at hl
  have h4 : ten (T - a) ≤ 10000 := by
    have : T - a ≤ 4 := by omega
    match T - a, this with
    | 0, _ => simp [ten]
    | 1, _ => simp [ten]
    | 2, _ => simp [ten]
    | 3, _ => simp [ten]
    | 4, _ => simp [ten]
  refine ⟨e, by omega, by rw [e]; exact hall2, ?_, by rw [e]; exact hn, by rw [e]; omega⟩
  rw [e]
  have := decV_append (s.data.toList.take a) ((s.data.toList.take T).drop a)
  rw [← hsplit, hlen] at this
  rw [this]
  rcases h with h | ⟨h, h'⟩
  · rw [show T - a = 4 by omega]; simp [ten]
  · subst h; simp [decV_nil]
theorem par_step {s : ByteArray} {W wr w1 : World} {T a : Nat} {v v' : Value} {L : List Int} {o : Obj} {x : Int} (hlen : (T : Int) + 4 * (L.length : Int) = s.size) (hT : 0 < T) (hd : Dig L) (hv : decV s.data.toList = val L + pw L.length * decV (s.data.toList.take T))
    (hb : Below (W.heap.size + 1) (box1 W) wr) (hp : decV (s.data.toList.take T) = decV (s.data.toList.take a) * 10000 + x) (hx0 : 0 ≤ x) (hx1 : x < 10000) (ha : ((T : Int) - 4).toNat = a)
    (hown : w1.ownsRow (W.heap.size + 1) 3 1 v' (L.length + 1) (ints L ++ [.int .i64 x])) (hg : (wr.alloc o).grownBy w1 v.ownBlock) (hvb : ∀ k, v.ownBlock = some k → W.heap.size + 1 ≤ k) : ParSt s W ((T : Int) - 4) v' w1 := by
  have hs : W.heap.size + 1 ≤ wr.heap.size := by have := hb.size; simpa using this
  refine ⟨L ++ [x], by simp; omega, by omega, hd.snoc hx0 hx1, ?_, by simpa [ints] using hown, (hb.alloc hs o).grown hg (by simp; omega) hvb⟩
  rw [ha, val_snoc, List.length_append, hv, hp]
  simp only [List.length_singleton]
  rw [pw_succ]
  grind
theorem par_end {s : ByteArray} {W wr : World} {v : Value} {t : Int} (h : ParSt s W t v wr) (ht : t ≤ 0) (hall : allD s.data.toList) (hs : s.size ≤ 800) :
    ∃ L A c, v = .slice A L.length c ∧ Dig L ∧ IntsIn wr A L ∧ L.length ≤ c ∧ c ≤ maxLen ∧ val L = decV s.data.toList ∧ trimL L = digs (decV s.data.toList) ∧ Below (W.heap.size + 1) (box1 W) wr := by
  obtain ⟨L, _, _, hd, hv, hown, hb⟩ := h
  rw [show t.toNat = 0 by omega] at hv
  simp only [List.take_zero, decV_nil, Int.mul_zero, Int.add_zero] at hv
  obtain ⟨A, c, rfl, hi, hc, hm, _⟩ := own_ints hown
  exact ⟨L, A, c, rfl, hd, hi, hc, hm, hv.symm, by rw [trimL_digs hd, ← hv], hb⟩
theorem par_post {s : ByteArray} {W w : World} {A : Option Addr} {c k : Nat} {L : List Int} (hp : parseV s.data.toList = (decV s.data.toList, 0)) (ht : trimL L = digs (decV s.data.toList)) (hi : IntsIn w A L) (hc : L.length ≤ c) (hm : c ≤ maxLen) (hk : k = (trimL L).length) (hb : Below (W.heap.size + 1) (box1 W) w) :
    NatPost (parseV s.data.toList) W (.returned (.tuple #[.agg #[.slice A k c], .int .i64 0])) (w.setCell ⟨W.heap.size, 0, none⟩ (.slice A k c)) := by
  obtain ⟨_, _, _, h6, h7⟩ := one1 hb
  rw [hp]
  have hi2 := hi.trim
  have hl := (trimL_prefix L).2
  rw [ht] at hi2 hk hl
  exact nat_store (r := (decV s.data.toList, 0)) hk hi2 (show (digs (decV s.data.toList)).length ≤ c by omega) hm h6 h7 (Nat.le_refl _)
set_option maxRecDepth 100000 in
set_option maxHeartbeats 2000000 in
theorem parse_any (s : ByteArray) (W : World) (hs : s.size ≤ maxLen) :
    Calls Tryz.prog 34 #[.string s] W (NatPost (parseV s.data.toList) W) := by
  have hs63 := hs
  unfold maxLen at hs63
  cases ht : isTB s.data.toList with
  | false =>
    have HT := Lib.hid ht
    have HE := Lib.hid (parse_bad ht)
    clear ht
    go_enter Tryz.func34, Tryz.ntmps34
    go_wp2_with (go_at_call 61; refine (isText_any s _ hs).mono ?_; rintro e w' ⟨rfl, rfl⟩; rw [HT.out])
    exact bodyPost_ret (v := .tuple #[.agg #[.slice none 0 0], .int .i64 2]) (by simp [results, Tryz.results34, go_sem]) rfl (nat_err HE.out ((Below.refl _ _).alloc (Nat.le_refl _) _))
  | true =>
    have HT := Lib.hid ht
    by_cases hbig : 800 < s.size
    · have HE := Lib.hid (parse_long ht (by rw [sizeB]; exact hbig))
      clear ht
      go_enter Tryz.func34, Tryz.ntmps34
      go_wp2_with (go_at_call 61; refine (isText_any s _ hs).mono ?_; rintro e w' ⟨rfl, rfl⟩; rw [HT.out])
      exact bodyPost_ret (v := .tuple #[.agg #[.slice none 0 0], .int .i64 3]) (by simp [results, Tryz.results34, go_sem]) rfl (nat_err HE.out ((Below.refl _ _).alloc (Nat.le_refl _) _))
    · have HE := Lib.hid (parse_ok ht (by rw [sizeB]; exact hbig))
      have HALL := Lib.hid ((isTB_iff _).1 ht).2.1
      have hs8 : s.size ≤ 800 := by omega
      obtain ⟨i0, hi, hz0, hz1, hz2⟩ := info_parts Tryz.infoInt
      clear ht
      go_enter Tryz.func34, Tryz.ntmps34
      go_wp2_with (go_at_call 61; refine (isText_any s _ hs).mono ?_; rintro e w' ⟨rfl, rfl⟩; rw [HT.out])
      go_loopw [4, 5] (fun v tv wr => ∃ t : Int, tv = .int .i64 t ∧ ParSt s W t v wr) (fun _ tv _ => (intOf tv).toNat)
      case atStart => exact ⟨_, rfl, par_start s W⟩
      case round =>
        obtain ⟨t, rfl, hst⟩ := hrel
        by_cases htp : 0 < t
        · obtain ⟨T, rfl⟩ : ∃ T : Nat, t = T := ⟨t.toNat, by omega⟩
          obtain ⟨L, hlen, h4, hd, hv, hown, hb⟩ := hst
          have hT0 : 0 < T := by omega
          have hTs : T ≤ s.size := by omega
          have hl200 : L.length ≤ 201 := by omega
          rw [show ((T : Int)).toNat = T by omega] at hv
          have HLEN := Lib.hid hlen
          have HD := Lib.hid hd
          have HVV := Lib.hid hv
          have HO := Lib.hid hown
          have HB := Lib.hid hb
          have HV := Lib.hid (show ∀ k, u4.ownBlock = some k → W.heap.size + 1 ≤ k from fun k hk => (hown.lt k hk).1)
          have hsW : W.heap.size + 1 ≤ wr.heap.size := by have := hb.size; simpa using this
          have k63 : L.length + 1 ≤ maxLen := by unfold maxLen; omega
          have k8 : (L.length + 1) * 8 ≤ 140737488355328 := by omega
          clear hlen hd hv hown hb
          obtain ⟨a, ha1, ha2, ha3⟩ : ∃ a : Nat, a ≤ T ∧ (T = a + 4 ∨ (a = 0 ∧ T ≤ 4)) ∧ ((T : Int) - 4).toNat = a := by
            by_cases c : 4 < T
            · exact ⟨T - 4, by omega, .inl (by omega), by omega⟩
            · exact ⟨0, by omega, .inr ⟨rfl, by omega⟩, by omega⟩
          obtain ⟨p1, p2, p3, p4, p5, p6⟩ := par_piece hTs ha1 ha2 HALL.out
          obtain ⟨x, hx⟩ : ∃ x, x = decV (s.extract a T).data.toList := ⟨_, rfl⟩
          rw [← hx] at p4 p5 p6
          have HX := Lib.hid hx
          have HP4 := Lib.hid p4
          have HP3 := Lib.hid p3
          have HA3 := Lib.hid ha3
          have ksz : W.heap.size + 1 ≤ (wr.alloc (.cells #[.int .i64 x] 3)).heap.size := by simp; omega
          clear p1 p3 p4 hx ha3
          by_cases hgt : 4 < T
          · have hTa : T = a + 4 := by omega
            have ha0 : 0 < a := by omega
            have haT : a ≤ T := by omega
            have e1 : IntKind.i64.wrap ((T : Int) - 4) = (a : Int) := by rw [IntWalk.i64_in _ (by omega)]; omega
            have HTA := Lib.hid (show (a : Int) = (T : Int) - 4 by omega)
            have haT2 : (a : Int) ≤ (T : Int) := by omega
            clear ha1 ha2 hTa
            go_wp2_with fail
            refine (decimal_any (s.extract a T) _ p2 HP3.out).mono ?_
            rintro e w' ⟨rfl, rfl⟩
            rw [← HX.out]
            go_wp2_with (at_builtin; refine wpList_append_own _ rfl _ _ 28 rfl (W.heap.size + 1) 3 i0 (.int .i64 0) 1 8 Tryz.underlying28 hi hz0 hz1 hz2 rfl (by decide) _ _ _ rfl (HO.out.alloc _) ⟨wr.heap.size, 0, none⟩ 1 1 [.int .i64 x] rfl rfl (new_int _ _ _) (one_int _) k63 k8 ksz ?_; intro v' w1 hown' hgrow _; have R := Lib.hid (par_step (s := s) HLEN.out hT0 HD.out HVV.out HB.out HP4.out p5 p6 HA3.out hown' hgrow HV.out); clear hown' hgrow)
            go_roundw
            case rel => exact ⟨_, rfl, by rw [HTA.out]; exact R.out⟩
            case measure => clear e1; have := HTA.out; simp [intOf]; omega
          · obtain rfl : a = 0 := by omega
            have hmx : max (0 : Int) ((T : Int) - 4) = 0 := by omega
            clear ha1 ha2
            go_wp2_with fail
            refine (decimal_any (s.extract 0 T) _ p2 HP3.out).mono ?_
            rintro e w' ⟨rfl, rfl⟩
            rw [← HX.out]
            go_wp2_with (at_builtin; refine wpList_append_own _ rfl _ _ 28 rfl (W.heap.size + 1) 3 i0 (.int .i64 0) 1 8 Tryz.underlying28 hi hz0 hz1 hz2 rfl (by decide) _ _ _ rfl (HO.out.alloc _) ⟨wr.heap.size, 0, none⟩ 1 1 [.int .i64 x] rfl rfl (new_int _ _ _) (one_int _) k63 k8 ksz ?_; intro v' w1 hown' hgrow _; have R := Lib.hid (par_step (s := s) HLEN.out hT0 HD.out HVV.out HB.out HP4.out p5 p6 HA3.out hown' hgrow HV.out); clear hown' hgrow)
            go_roundw
            case rel => exact ⟨_, rfl, R.out⟩
            case measure => simp [intOf]; omega
        · obtain ⟨L, A, c, rfl, hd, hi', hc, hm, hv, htr, hb⟩ := par_end hst (by omega) HALL.out hs8
          have HI := Lib.hid hi'
          have HTR := Lib.hid htr
          have HB := Lib.hid hb
          obtain ⟨n, hn⟩ : ∃ n, n = L.length := ⟨_, rfl⟩
          rw [← hn] at hc ⊢
          have HN := Lib.hid hn
          obtain ⟨hc1, hf1, hs1, _, _⟩ := one1 hb
          clear hst hd hi' hv htr hb hn
          go_wp2_with fail
          refine (trim_any L n c _ _ HN.out.symm hc hm HI.out).mono ?_
          rintro e w' ⟨rfl, rfl⟩
          obtain ⟨k, hk⟩ : ∃ k, k = (trimL L).length := ⟨_, rfl⟩
          have R := Lib.hid (par_post (W := W) HE.out HTR.out HI.out (by rw [← HN.out]; exact hc) hm hk HB.out)
          rw [← hk]
          clear hk
          go_wp2_with fail
          exact bodyPost_ret (v := .tuple #[.agg #[.slice A k c], .int .i64 0]) (by simp [results, Tryz.results34, go_sem, hc1]) rfl R.out
end Go.Proofs.YtkfkefgkepoaaaaGreatDoor
