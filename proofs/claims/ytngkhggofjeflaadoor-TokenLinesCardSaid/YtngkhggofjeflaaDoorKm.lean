/- Contracts: Lines of both sides, the reference's Equal on lists of strings. -/
import Derived.Test.YtngkhggofjeflaaDoorKl
import Derived.Test.YtngkhggofjeflaaDoorKMathL
namespace Go.Proofs.YtngkhggofjeflaaDoor
open Go.RowKit
set_option linter.unusedVariables false
set_option maxRecDepth 100000

/-- A slice that reads as strings. -/
def StrsIn (w : World) (A : Option Addr) (L : List (List UInt8)) : Prop :=
  0 < L.length → ∃ g off, A = some ⟨g, off, none⟩ ∧ g < w.heap.size ∧ ∀ (j : Nat) (x : List UInt8), L[j]? = some x → w.cell? ⟨g, off + j, none⟩ = some (.string (bs x))
theorem StrsIn.below {w w' : World} {A : Option Addr} {L : List (List UInt8)} (h : StrsIn w A L) (hb : Below w.heap.size w w') : StrsIn w' A L := by
  intro h0
  obtain ⟨g, off, e, hlt, hc⟩ := h h0
  exact ⟨g, off, e, Nat.lt_of_lt_of_le hlt hb.size, fun j x hx => (hb.cell (p := ⟨g, off + j, none⟩) hlt).trans (hc j x hx)⟩
theorem strs_nil (w : World) (A : Option Addr) : StrsIn w A [] := fun h => by simp at h
def strCells (L : List (List UInt8)) : List Value := L.map fun x => .string (bs x)
theorem strs_own {w : World} {base n c : Nat} {e : TypeId} {A : Option Addr} {L : List (List UInt8)} (h : w.ownsRow base e 1 (.slice A n c) n (strCells L)) (hn : n = L.length) : StrsIn w A L := by
  intro h0
  obtain ⟨g, cap, hv, hb, hlt⟩ := h.form (by omega)
  have hA : A = some ⟨g, 0, none⟩ := by injection hv
  subst hA
  refine ⟨g, 0, rfl, hlt, fun j x hx => ?_⟩
  have hc := h.cells (g := g) rfl j (.string (bs x)) (by unfold strCells; rw [List.getElem?_map, hx]; rfl)
  rw [show (⟨g, 0, none⟩ : Addr).add j = ⟨g, 0 + j, none⟩ from by unfold Addr.add; split <;> simp_all] at hc
  exact hc
def LnPost (M : List (List UInt8)) (w : World) (e : Ending) (w' : World) : Prop :=
  ∃ A n c, e = .returned (.slice A n c) ∧ n = M.length ∧ n ≤ c ∧ StrsIn w' A M ∧ Below w.heap.size w w'
def MaxAt (w : World) : Prop := ∃ m : Int, w.cell? ⟨0, 0, none⟩ = some (.int .i64 m)
theorem MaxAt.below {w w' : World} (h : MaxAt w) (hb : Below w.heap.size w w') : MaxAt w' := by
  obtain ⟨m, hm⟩ := h
  exact ⟨m, (hb.cell (p := ⟨0, 0, none⟩) (World.block_lt_of_cell? _ _ hm)).trans hm⟩
theorem empty_of {s : ByteArray} (h : s.size = 0) : s.data.toList = [] := List.eq_nil_of_length_eq_zero h
theorem ln_nil {l : List UInt8} {w : World} (h : linesV l = []) : LnPost (linesV l) w (.returned (.slice none 0 0)) w := by
  rw [h]; exact ⟨none, 0, 0, rfl, rfl, Nat.le_refl _, strs_nil _ _, Below.refl _ _⟩
theorem ln_split {d : ByteArray} {w : World} {M : List (List UInt8)} (hM : splitL d.data.toList = M) :
    LnPost M w (.returned (.slice (some ⟨w.heap.size, 0, none⟩) (Lib.countB d ⟨#[10]⟩ + 1) (Lib.countB d ⟨#[10]⟩ + 1))) (w.alloc (.cells ((Lib.splitB (⟨#[10]⟩ : ByteArray) 0 (Lib.countB d ⟨#[10]⟩) d).map Value.string).toArray 9)) := by
  have hm := splitB_map d
  have hcb : Lib.countB d ⟨#[10]⟩ + 1 = M.length := by
    rw [← hM, splitL_len]
    exact congrArg (· + 1) (Lib.count_one 10 d.data.toList)
  generalize Lib.splitB (⟨#[10]⟩ : ByteArray) 0 (Lib.countB d ⟨#[10]⟩) d = L at hm
  refine ⟨_, _, _, rfl, hcb, Nat.le_refl _, fun h0 => ⟨w.heap.size, 0, rfl, by simp, fun j x hx => ?_⟩, bnew _ _⟩
  rw [Nat.zero_add, World.cell?_alloc_mark]
  rw [← hM, ← hm, List.getElem?_map] at hx
  cases hj : L[j]? with
  | none => rw [hj] at hx; cases hx
  | some y =>
    rw [hj] at hx
    have e : y.data.toList = x := Option.some.inj hx
    simp [hj, bs_of e]

set_option maxHeartbeats 1000000 in
theorem lines_any (s : ByteArray) (w : World) (hs : s.size ≤ 2000) (hm : MaxAt w) :
    Calls Tryd.prog 29 #[.string s] w (LnPost (linesV s.data.toList) w) := by
  by_cases hs0 : s.size = 0
  · have HE := Lib.hid (show linesV s.data.toList = [] by rw [empty_of hs0]; exact lines_nil)
    have hx := (empty_list hs0).2
    clear hs0 hm
    go_enter Tryd.func29, Tryd.ntmps29
    go_wp2
    go_ret
    exact ln_nil HE.out
  · have hne : s.data.toList ≠ [] := ne_nil hs0
    have hx := full_list hs0
    obtain ⟨d, hd⟩ : ∃ d : ByteArray, d = ⟨(Lib.trimSuffix s.data.toList (⟨#[10]⟩ : ByteArray).data.toList).toArray⟩ := ⟨_, rfl⟩
    have HD := Lib.hid hd
    have hds : d.size ≤ 2000 := by
      have h1 : d.size = (Lib.trimSuffix s.data.toList (⟨#[10]⟩ : ByteArray).data.toList).length := by rw [hd]; rfl
      rw [h1]
      unfold Lib.trimSuffix
      split
      · rw [List.length_take, sizeB]; omega
      · rw [sizeB]; exact hs
    have HS := Lib.hid (show splitL d.data.toList = linesV s.data.toList by rw [hd]; exact lines_trim hne)
    obtain ⟨m, hm⟩ := hm
    have HM := Lib.hid hm
    clear hs0 hne hd hm
    go_enter Tryd.func29, Tryd.ntmps29
    go_wp2_with fail
    refine (Tryd.strings_TrimSuffix s ⟨#[10]⟩ _ (by omega)).mono ?_
    rintro e w' ⟨rfl, rfl⟩
    rw [← HD.out]
    go_wp2_with fail
    refine (Tryd.strings_Split d ⟨#[10]⟩ m _ (by omega) HM.out (by decide)).mono ?_
    rintro e w' ⟨rfl, rfl⟩
    go_wp2_with fail
    go_ret
    exact ln_split HS.out

theorem one_str (s : ByteArray) : ∀ u ∈ [Value.string s], u.oneCell' = true := by
  intro u hu; simp at hu; subst hu; rfl
theorem new_one {w : World} {g : Nat} (hg : w.heap.size = g) (t : TypeId) (x : Value) : ∀ (j : Nat) (u : Value), [x][j]? = some u → (w.alloc (.cells #[x] t)).cell? ((⟨g, 0, none⟩ : Addr).add j) = some u := by
  subst hg
  intro j u hj
  match j, hj with
  | 0, hj => simp at hj; subst hj; simp [Addr.add]
theorem str_snoc (L : List (List UInt8)) (x : List UInt8) : strCells (L ++ [x]) = strCells L ++ [.string (bs x)] := by simp [strCells]
/-- The lines that are in the list behind k bytes. -/
def LnRel (s : ByteArray) (w : World) (v f i : Value) (wr : World) : Prop :=
  ∃ (k q n : Nat) (M : List (List UInt8)), k ≤ s.size ∧ q ≤ k ∧ n ≤ k ∧ i = .int .i64 (k : Int) ∧ f = .int .i64 (q : Int) ∧ LnAt s.data.toList k q ∧ M = (splitS (s.data.toList.take k)).1 ∧ M.length = n ∧ wr.ownsRow w.heap.size 9 1 v n (strCells M) ∧ Below w.heap.size w wr
theorem lnrel_more {s : ByteArray} {w W w4 : World} {k q n : Nat} {M : List (List UInt8)} {v v' : Value} {x : ByteArray} (hk : k < s.size) (h10 : (s[k].toNat : Int) = 10) (hn : n ≤ k) (hat : LnAt s.data.toList k q) (hM : M = (splitS (s.data.toList.take k)).1) (hl : M.length = n) (hx : x = s.extract q k)
    (hW : Below w.heap.size w W) (hbase : ∀ j, v.ownBlock = some j → w.heap.size ≤ j) (hown : w4.ownsRow w.heap.size 9 1 v' (n + 1) (strCells M ++ [.string x])) (hg : W.grownBy w4 v.ownBlock) :
    LnRel s w v' (.int .i64 ((k : Int) + 1)) (.int .i64 ((k : Int) + 1)) w4 := by
  have e10 : s[k] = 10 := byte_is (n := 10) (by omega) (by decide)
  have e11 : s.data.toList[k]'(by rw [sizeB]; exact hk) = 10 := by rw [← getB s k hk]; exact e10
  have hxl : bs (splitS (s.data.toList.take k)).2 = x := by
    rw [hx]
    exact (bs_of (by rw [ext_mid, hat.2.2])).symm
  refine ⟨k + 1, k + 1, n + 1, M ++ [(splitS (s.data.toList.take k)).2], by omega, Nat.le_refl _, by omega, by go_num, by go_num, ln_new _ _ e11, ?_, by simp [hl], ?_, hW.grown hg hW.size hbase⟩
  · rw [hM, ln_more (by rw [sizeB]; exact hk) e11]
  · rw [str_snoc, hxl]; exact hown
theorem lnrel_other {s : ByteArray} {w wr : World} {k q n : Nat} {M : List (List UInt8)} {v : Value} (hk : k < s.size) (h10 : ¬ (s[k].toNat : Int) = 10) (hn : n ≤ k) (hat : LnAt s.data.toList k q) (hM : M = (splitS (s.data.toList.take k)).1) (hl : M.length = n)
    (hown : wr.ownsRow w.heap.size 9 1 v n (strCells M)) (hb : Below w.heap.size w wr) :
    LnRel s w v (.int .i64 (q : Int)) (.int .i64 ((k : Int) + 1)) wr := by
  have e11 : s.data.toList[k]'(by rw [sizeB]; exact hk) ≠ 10 := by rw [← getB s k hk]; exact byte_ne (n := 10) h10 (by decide)
  obtain ⟨h1, h2⟩ := ln_other hat (by rw [sizeB]; exact hk) e11
  exact ⟨k + 1, q, n, M, by omega, by have := h1.1; omega, by omega, by go_num, rfl, h1, by rw [hM, h2], hl, hown, hb⟩
theorem ln_done {s : ByteArray} {w wr : World} {n : Nat} {M : List (List UInt8)} {v : Value} (hM : M = linesV s.data.toList) (hl : M.length = n) (hown : wr.ownsRow w.heap.size 9 1 v n (strCells M)) (hb : Below w.heap.size w wr) : LnPost (linesV s.data.toList) w (.returned v) wr := by
  obtain ⟨A, c, rfl, hc⟩ := own_slice hown
  rw [← hM]
  exact ⟨A, n, c, rfl, hl.symm, hc, strs_own hown hl.symm, hb⟩
theorem ln_end_none {s : ByteArray} {k q : Nat} (hk : k = s.size) (hat : LnAt s.data.toList k q) (hq : q = k) : linesV s.data.toList = (splitS (s.data.toList.take k)).1 := by
  have h := (ln_empty hat).2 hq
  rw [takeAll (by omega)] at h ⊢
  unfold linesV
  rw [if_pos h, List.append_nil]
theorem ln_end_one {s : ByteArray} {k q : Nat} (hk : k = s.size) (hat : LnAt s.data.toList k q) (hq : q ≠ k) : linesV s.data.toList = (splitS (s.data.toList.take k)).1 ++ [(s.extract q k).data.toList] := by
  have h : ¬ (splitS (s.data.toList.take k)).2 = [] := fun e => hq ((ln_empty hat).1 e)
  have h2 := hat.2.2
  rw [ext_mid, ← h2]
  rw [takeAll (by omega)] at h ⊢
  unfold linesV
  rw [if_neg h]
set_option maxHeartbeats 8000000 in
theorem rlines_any (s : ByteArray) (w : World) (hs : s.size ≤ 2000) :
    Calls Tryd.prog 31 #[.string s] w (LnPost (linesV s.data.toList) w) := by
  obtain ⟨i0, hi, hz0, hz1, hz2⟩ := info_parts string_info
  go_enter Tryd.func31, Tryd.ntmps31
  go_wp2
  go_loopw [3, 4, 5] (fun v f i wr => LnRel s w v f i wr ∨ (i = .int .i64 ((s.size : Int) + 1) ∧ LnPost (linesV s.data.toList) w (.returned v) wr)) (fun _ _ i _ => s.size + 1 - (intOf i).toNat)
  case atStart => exact Or.inl ⟨0, 0, 0, [], Nat.zero_le _, Nat.le_refl _, Nat.le_refl _, rfl, rfl, ln_start _, by simp [splitS], rfl, ⟨by rfl, Or.inl ⟨rfl, rfl⟩⟩, Below.refl _ _⟩
  case round =>
    rcases hrel with hrel | ⟨rfl, hdone⟩
    · obtain ⟨k, q, n, M, hk, hq, hn, rfl, rfl, hat, hM, hl, hown, hbr⟩ := hrel
      have HAT := Lib.hid hat
      have HM := Lib.hid hM
      have HL := Lib.hid hl
      have HO := Lib.hid hown
      have HB := Lib.hid hbr
      have hsz := hbr.size
      clear hat hM hl hown hbr
      by_cases hlt : k < s.size
      · have e0 : ((k : Int) == (s.size : Int)) = false := by simp; omega
        by_cases h10 : (s[k].toNat : Int) = 10
        · obtain ⟨x, hx⟩ : ∃ x, x = s.extract q k := ⟨_, rfl⟩
          have HX := Lib.hid hx
          have H10 := Lib.hid h10
          obtain ⟨W, hW⟩ : ∃ W, W = wr.alloc (.cells #[.string x] 9) := ⟨_, rfl⟩
          have HW := Lib.hid (show wr.alloc (.cells #[.string (s.extract q k)] 9) = W by rw [hW, hx])
          have HWB := Lib.hid (show Below wr.heap.size wr W by rw [hW]; exact bnew _ _)
          have HOW := Lib.hid (own_go HO.out HWB.out)
          have HNEW := Lib.hid (show ∀ (j : Nat) (u : Value), [Value.string x][j]? = some u → W.cell? ((⟨wr.heap.size, 0, none⟩ : Addr).add j) = some u from by rw [hW]; exact new_one rfl _ _)
          have hWs : W.heap.size = wr.heap.size + 1 := by rw [hW]; simp
          clear hW hx
          go_wp2_with (at_builtin; rw [HW.out]; refine wpList_append_lies _ rfl (.tmp 31) (.tmp 36) _ rfl w.heap.size 9 i0 _ 1 16 Tryd.underlying37 hi hz0 hz1 hz2 rfl (by omega) _ n (strCells M) rfl HOW.out ⟨wr.heap.size, 0, none⟩ 1 1 [.string x] rfl rfl HNEW.out (one_str _) (by omega) (by unfold maxLen; omega) (by omega) (by omega) _ rfl ?_; intro gg cap w4 hown4 hgrow hat hlt4)
          have HR := Lib.hid (lnrel_more hlt H10.out hn HAT.out HM.out HL.out HX.out (btwo HB.out HWB.out) (fun j hj => (HOW.out.lt j hj).1) hown4 hgrow)
          clear hown4 hgrow hat hlt4
          go_wp2_with fail
          go_roundw
          case rel => exact Or.inl HR.out
          case measure => simp [intOf]; omega
        · have HR := Lib.hid (lnrel_other hlt h10 hn HAT.out HM.out HL.out HO.out HB.out)
          have e1 : ((s[k].toNat : Int) == 10) = false := by simpa using h10
          clear h10
          go_wp2_with fail
          go_roundw
          case rel => exact Or.inl HR.out
          case measure => simp [intOf]; omega
      · obtain rfl : k = s.size := by omega
        have e0 : ((s.size : Int) == (s.size : Int)) = true := by simp
        by_cases hqk : q = s.size
        · have e1 : ((q : Int) == (s.size : Int)) = true := by simp; omega
          have HE := Lib.hid (show M = linesV s.data.toList by rw [HM.out]; exact (ln_end_none rfl HAT.out hqk).symm)
          clear hqk
          go_wp2_with fail
          go_ret
          exact ln_done HE.out HL.out HO.out HB.out
        · have e1 : ((q : Int) == (s.size : Int)) = false := by simp; omega
          obtain ⟨x, hx⟩ : ∃ x, x = s.extract q s.size := ⟨_, rfl⟩
          have HE := Lib.hid (show M ++ [x.data.toList] = linesV s.data.toList by rw [HM.out, hx]; exact (ln_end_one rfl HAT.out hqk).symm)
          obtain ⟨W, hW⟩ : ∃ W, W = wr.alloc (.cells #[.string x] 9) := ⟨_, rfl⟩
          have HW := Lib.hid (show wr.alloc (.cells #[.string (s.extract q s.size)] 9) = W by rw [hW, hx])
          have HWB := Lib.hid (show Below wr.heap.size wr W by rw [hW]; exact bnew _ _)
          have HOW := Lib.hid (own_go HO.out HWB.out)
          have HNEW := Lib.hid (show ∀ (j : Nat) (u : Value), [Value.string x][j]? = some u → W.cell? ((⟨wr.heap.size, 0, none⟩ : Addr).add j) = some u from by rw [hW]; exact new_one rfl _ _)
          have hWs : W.heap.size = wr.heap.size + 1 := by rw [hW]; simp
          clear hW hx hqk
          go_wp2_with (at_builtin; rw [HW.out]; refine wpList_append_lies _ rfl (.tmp 31) (.tmp 36) _ rfl w.heap.size 9 i0 _ 1 16 Tryd.underlying37 hi hz0 hz1 hz2 rfl (by omega) _ n (strCells M) rfl HOW.out ⟨wr.heap.size, 0, none⟩ 1 1 [.string x] rfl rfl HNEW.out (one_str _) (by omega) (by unfold maxLen; omega) (by omega) (by omega) _ rfl ?_; intro gg cap w4 hown4 hgrow hat hlt4)
          have HR := Lib.hid (show LnPost (linesV s.data.toList) w (.returned (.slice (some ⟨gg, 0, none⟩) (n + 1) cap)) w4 from ln_done (n := n + 1) HE.out (by simp [HL.out]) (by rw [str_snoc, ← bs_of (o := x) rfl]; exact hown4) ((btwo HB.out HWB.out).grown hgrow (btwo HB.out HWB.out).size (fun j hj => (HOW.out.lt j hj).1)))
          clear hown4 hgrow hat hlt4
          go_wp2_with fail
          go_roundw
          case rel => exact Or.inr ⟨by first | rfl | go_num, HR.out⟩
          case measure => (simp [intOf]; try omega)
    · have HD := Lib.hid hdone
      clear hdone
      go_wp2_with fail
      go_ret
      exact HD.out

set_option maxHeartbeats 4000000 in
theorem reqs_refl (L : List (List UInt8)) (n c d : Nat) (A C : Option Addr) (w : World) (hl : n = L.length) (hn : n ≤ 1000000) (hA : StrsIn w A L) (hC : StrsIn w C L) :
    Calls Tryd.prog 30 #[.slice A n c, .slice C n d] w fun e w' => e = .returned (.bool true) ∧ ∃ q, w' = w.drewN q := by
  have HL := Lib.hid hl
  have HA := Lib.hid hA
  have HC := Lib.hid hC
  clear hl hA hC
  go_enter Tryd.func30, Tryd.ntmps30
  go_wp2
  go_loopw [5] (fun i wr => ∃ k : Nat, k ≤ n ∧ i = .int .i64 k ∧ ∃ q, wr = w.drewN q) (fun i _ => n - (intOf i).toNat)
  case atStart => exact ⟨0, Nat.zero_le _, rfl, 0, rfl⟩
  case round =>
    obtain ⟨k, hk, rfl, q, rfl⟩ := hrel
    by_cases hlt : k < n
    · have hkL : k < L.length := by have := HL.out; omega
      obtain ⟨b1, o1, rfl, hb1, hc1⟩ := HA.out (by omega)
      obtain ⟨b2, o2, rfl, hb2, hc2⟩ := HC.out (by omega)
      obtain ⟨x, hx⟩ : ∃ x, x = L[k] := ⟨_, rfl⟩
      have hx1 : L[k]? = some x := by rw [List.getElem?_eq_getElem hkL, hx]
      have xs := hc1 k x hx1
      have ys := hc2 k x hx1
      clear hx hx1 hc1 hc2 hkL
      go_wp2
      try go_quiet (fail)
      try go_wp2
      go_roundw
      case rel => exact ⟨k + 1, by omega, by go_num, _, by first | rfl | exact World.drewN_drewN _ _ _⟩
      case measure => simp [intOf]; omega
    · go_wp2
      go_ret
      exact ⟨rfl, _, by first | rfl | exact World.drewN_drewN _ _ _⟩
end Go.Proofs.YtngkhggofjeflaaDoor
