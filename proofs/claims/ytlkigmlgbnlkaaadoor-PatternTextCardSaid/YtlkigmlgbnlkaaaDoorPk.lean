/- Contract of pattern.Expand. -/
import Derived.Test.YtlkigmlgbnlkaaaDoorPg
import Derived.Test.YtlkigmlgbnlkaaaDoorPx
namespace Go.Proofs.YtlkigmlgbnlkaaaDoor
open Go.RowKit
set_option linter.unusedVariables false

theorem Tryd.infoString : (Tryd.prog.info? 9).map (fun i => (i.zero, i.size, i.bytes)) = some (some (.string ⟨#[]⟩), 1, 16) := by kernel_rfl
def baCells (L : List (List UInt8)) : List Value := L.map (fun l => Value.string (toBA l))
theorem baCells_len (L : List (List UInt8)) : (baCells L).length = L.length := by simp [baCells]
theorem baCells_app (L M : List (List UInt8)) : baCells (L ++ M) = baCells L ++ baCells M := by simp [baCells]
theorem baCells_str (L : List (List UInt8)) : baCells L = strCells (L.map toBA) := by simp [baCells, strCells]
def ExpandPost (l : List UInt8) (w : World) (e : Ending) (w' : World) : Prop :=
  ∃ A c, e = .returned (.tuple #[.slice A (expandVal l).1.length c, .int .i64 (expandVal l).2]) ∧ w'.ownsRow w.heap.size 9 1 (.slice A (expandVal l).1.length c) (expandVal l).1.length (baCells (expandVal l).1) ∧ Below w.heap.size w w'
theorem expand_ret {l : List UInt8} {w w' : World} {v : Value} {L : List (List UInt8)} {x : Int} {n : Nat} (h : expandVal l = (L, x)) (hn : n = L.length) (hown : w'.ownsRow w.heap.size 9 1 v n (baCells L)) (hb : Below w.heap.size w w') : ExpandPost l w (.returned (.tuple #[v, .int .i64 x])) w' := by
  subst hn
  obtain ⟨A, c, rfl⟩ := own_slice hown
  exact ⟨A, c, by rw [h], by rw [h]; exact hown, hb⟩
theorem expand_none {l : List UInt8} {w w' : World} {x : Int} (h : expandVal l = ([], x)) (hb : Below w.heap.size w w') : ExpandPost l w (.returned (.tuple #[.slice none 0 0, .int .i64 x])) w' :=
  expand_ret h rfl (World.ownsRow_nil _ _ _ _) hb
theorem count_one_any (s : ByteArray) (c : UInt8) (w : World) : Calls Tryd.prog 47 #[.string s, .string ⟨#[c]⟩] w fun e w' => e = .returned (.int .i64 (Lib.countByte s.data.toList c)) ∧ w = w' :=
  (Tryd.strings_Count_one s c w).mono fun _ _ ⟨a, b⟩ => ⟨a, b.symm⟩

theorem two_str (a b : ByteArray) : ∀ u ∈ [Value.string a, Value.string b], u.oneCell' = true := by
  intro u hu; simp at hu; rcases hu with rfl | rfl <;> rfl
theorem new_pair (w : World) (t : TypeId) (x y : Value) : ∀ (j : Nat) (u : Value), [x, y][j]? = some u → (w.alloc (.cells #[x, y] t)).cell? ((⟨w.heap.size, 0, none⟩ : Addr).add j) = some u := by
  intro j u hj
  match j, hj with
  | 0, hj => simp at hj; subst hj; simp [Addr.add]
  | 1, hj => simp at hj; subst hj; simp [Addr.add]
theorem own_alloc_one (w : World) (x : ByteArray) : (w.alloc (.cells #[.string x] 9)).ownsRow w.heap.size 9 1 (.slice (some ⟨w.heap.size, 0, none⟩) 1 1) 1 [.string x] :=
  ⟨rfl, .inr ⟨w.heap.size, 1, #[.string x], rfl, Nat.le_refl _, by show (w.heap.push _)[w.heap.size]? = _; simp, Nat.le_refl _, by unfold maxLen; omega, rfl, rfl⟩⟩
theorem sub1_bytes {q : ByteArray} {b : UInt8} {i : Nat} (h : sub1 b q.data.toList = q.data.toList.take i ++ [b] ++ q.data.toList.drop (i + 1)) (hi : i < q.size) :
    (q.extract 0 i ++ (⟨#[b]⟩ : ByteArray)) ++ q.extract (i + 1) q.size = toBA (sub1 b q.data.toList) := by
  refine toBA_of ?_
  rw [cat_any, cat_any, h, ByteArray.data_extract, ByteArray.data_extract, Array.toList_extract, Array.toList_extract, List.extract_eq_take_drop, List.extract_eq_take_drop]
  have e1 : (List.drop 0 q.data.toList).take (i - 0) = q.data.toList.take i := by simp
  have e2 : (List.drop (i + 1) q.data.toList).take (q.size - (i + 1)) = List.drop (i + 1) q.data.toList := List.take_of_length_le (by rw [List.length_drop, sizeB]; omega)
  rw [e1, e2]
/-- The inner loop: of the list L the first k strings are done; their 2 k successors are in a row of the round's own. -/
def IRel (L : List (List UInt8)) (w : World) (v i : Value) (wr : World) : Prop :=
  ∃ k m : Nat, k ≤ L.length ∧ m = 2 * k ∧ i = .int .i64 (k : Int) ∧ wr.ownsRow w.heap.size 9 1 v m (baCells ((L.take k).flatMap stepX)) ∧ Below w.heap.size w wr
theorem irel_more {L : List (List UInt8)} {w wr w1 : World} {v v' : Value} {o : Obj} {k m : Nat} {q : List UInt8} {a b : ByteArray} (hk : k < L.length) (hm : m = 2 * k) (hq : L[k]? = some q) (ha : a = toBA (sub1 117 q)) (hb' : b = toBA (sub1 45 q))
    (hown : wr.ownsRow w.heap.size 9 1 v m (baCells ((L.take k).flatMap stepX))) (hb : Below w.heap.size w wr)
    (hown' : w1.ownsRow w.heap.size 9 1 v' (m + 2) (baCells ((L.take k).flatMap stepX) ++ [.string a, .string b])) (hg : (wr.alloc o).drew.grownBy w1 v.ownBlock) : IRel L w v' (.int .i64 ((k : Int) + 1)) w1 := by
  subst ha; subst hb'
  refine ⟨k + 1, m + 2, by omega, by omega, by go_num, ?_, (hb.alloc hb.size o).drew.grown hg (by have := hb.size; simp; omega) (fun j hj => (hown.lt j hj).1)⟩
  have e : L.take (k + 1) = L.take k ++ [q] := by
    rw [List.take_succ_eq_append_getElem hk]
    rw [List.getElem?_eq_getElem hk] at hq
    rw [Option.some.inj hq]
  rw [e, List.flatMap_append, baCells_app]
  exact hown'
def ORel (p : List UInt8) (w : World) (v i : Value) (wr : World) : Prop :=
  ∃ j n : Nat, j ≤ p.count 120 ∧ i = .int .i64 (j : Int) ∧ n = (iterX j [p]).length ∧ wr.ownsRow w.heap.size 9 1 v n (baCells (iterX j [p])) ∧ Below w.heap.size w wr
set_option maxHeartbeats 4000000 in
theorem pexpand_any (p : ByteArray) (w : World) (hs : p.size ≤ maxLen) :
    Calls Tryd.prog 30 #[.string p] w (ExpandPost p.data.toList w) := by
  obtain ⟨i0, hi, hz0, hz1, hz2⟩ := info_parts Tryd.infoString
  obtain ⟨x, hx⟩ : ∃ x, x = pErr p.data.toList := ⟨_, rfl⟩
  have HX := Lib.hid hx
  by_cases hx0 : x = 0
  · subst hx0
    have h60 : p.size ≤ 60 := (pErr_zero hx.symm).1
    obtain ⟨op, hop⟩ : ∃ op : Nat, op = p.data.toList.count 120 := ⟨_, rfl⟩
    have HOP := Lib.hid hop
    have HCB := Lib.hid (show (Lib.countByte p.data.toList 120 : Int) = (op : Int) by rw [hop]; rfl)
    have hop60 : op ≤ 60 := by have := count_le p.data.toList 120; rw [sizeB] at this; omega
    by_cases hbig : 10 < op
    · have HE := Lib.hid (expand_big hx.symm (by rw [← hop]; exact hbig))
      clear hx hop
      go_enter Tryd.func30, Tryd.ntmps30
      go_wp2_with fail
      refine (pvalid_any _ _ (by assumption)).mono ?_
      rintro e w' ⟨rfl, rfl⟩
      rw [← HX.out]
      go_wp2_with fail
      refine (count_one_any _ 120 _).mono ?_
      rintro e w1 ⟨rfl, rfl⟩
      rw [HCB.out]
      go_wp2_with fail
      go_ret2
      exact expand_none HE.out (Below.refl _ _)
    · have HE := Lib.hid (expand_ok hx.symm (by rw [← hop]; exact hbig))
      clear hx hop
      go_enter Tryd.func30, Tryd.ntmps30
      go_wp2_with fail
      refine (pvalid_any _ _ (by assumption)).mono ?_
      rintro e w' ⟨rfl, rfl⟩
      rw [← HX.out]
      go_wp2_with fail
      refine (count_one_any _ 120 _).mono ?_
      rintro e w1 ⟨rfl, rfl⟩
      rw [HCB.out]
      go_wp2_with fail
      go_loopw [6, 23] (fun v i wr => ORel p.data.toList w v i wr) (fun _ i _ => op - (intOf i).toNat)
      case atStart => exact ⟨0, 1, Nat.zero_le _, rfl, rfl, own_alloc_one w p, (Below.refl _ _).alloc (Nat.le_refl _) _⟩
      case round =>
        obtain ⟨wo, hwo⟩ : ∃ wo, wo = wr := ⟨_, rfl⟩
        subst hwo
        obtain ⟨j, n, hj, rfl, hn, hown, hbr⟩ := hrel
        have hjop : j ≤ op := by rw [HOP.out]; exact hj
        have HJ := Lib.hid hj
        have HO := Lib.hid hown
        have HBR := Lib.hid hbr
        have HN := Lib.hid hn
        have hn1024 : n ≤ 1024 := by rw [hn, iter_len]; exact pow_small (by omega)
        have hn1 : 0 < n := by rw [hn, iter_len]; exact Nat.pow_pos (by decide)
        have hsz1 : w.heap.size ≤ wo.heap.size := hbr.size
        clear hj hbr hn
        by_cases hlt : j < op
        · obtain ⟨g, c, hvv, hB, hlt'⟩ := hown.form hn1
          subst hvv
          obtain ⟨LL, hLL⟩ : ∃ LL, LL = iterX j [p.data.toList] := ⟨_, rfl⟩
          have HLL := Lib.hid hLL
          have HIN := Lib.hid (show ∀ q ∈ LL, q.length = p.size ∧ 0 < q.count 120 from fun q hq => by
            rw [hLL] at hq
            obtain ⟨h1, h2⟩ := iter_in _ _ HJ.out q hq
            rw [← HOP.out] at h2
            exact ⟨by rw [h1, sizeB], by omega⟩)
          have HNL := Lib.hid (show n = LL.length by rw [hLL]; exact HN.out)
          have HCELL := Lib.hid (show ∀ k (q : List UInt8), LL[k]? = some q → wo.cell? ⟨g, k, none⟩ = some (.string (toBA q)) from fun k q hq => by
            have hk : k < LL.length := (List.getElem?_eq_some_iff.1 hq).1
            rw [hown.cellAt _ (by have := HNL.out; omega), ← hLL]
            simp [baCells, hq])
          clear hown hLL
          go_wp2
          go_loopw [7, 27] (fun v i wi => IRel LL wo v i wi) (fun _ i _ => n - (intOf i).toNat)
          case atStart => exact ⟨0, 0, Nat.zero_le _, rfl, rfl, World.ownsRow_nil _ _ _ _, Below.refl _ _⟩
          case round =>
            obtain ⟨k, m, hk, hm, rfl, hown2, hbr2⟩ := hrel
            have hm2 : m ≤ 2 * k := by omega
            have HM := Lib.hid hm
            have HO2 := Lib.hid hown2
            have HBR2 := Lib.hid hbr2
            have hkn : k ≤ n := by rw [HNL.out]; exact hk
            have hsz2 : wo.heap.size ≤ wr.heap.size := hbr2.size
            clear hm hown2
            by_cases hlt2 : k < n
            · have hkL : k < LL.length := by rw [← HNL.out]; exact hlt2
              obtain ⟨q, hq⟩ : ∃ q, LL[k]? = some q := ⟨LL[k], List.getElem?_eq_getElem hkL⟩
              obtain ⟨hq1, hq2⟩ := HIN.out q (List.mem_of_getElem? hq)
              have hc := (hbr2.cell (p := ⟨g, k, none⟩) hlt').trans (HCELL.out k q hq)
              obtain ⟨i, hi1, hi2, hi3⟩ := sub1_at 117 q hq2
              obtain ⟨i', hi1', hi2', hi3'⟩ := sub1_at 45 q hq2
              have hii : i' = i := by rw [hi1] at hi1'; omega
              subst hii
              obtain ⟨qb, hqb⟩ : ∃ qb, qb = toBA q := ⟨_, rfl⟩
              have hqs : qb.size = q.length := by rw [hqb]; rfl
              have hiq : i' < qb.size := by omega
              have hqp : qb.size ≤ 60 := by omega
              rw [← hqb] at hc
              have HA := Lib.hid (show (qb.extract 0 i' ++ (⟨#[117]⟩ : ByteArray)) ++ qb.extract (i' + 1) qb.size = toBA (sub1 117 q) by
                have := sub1_bytes (q := qb) (b := 117) (i := i') (by rw [hqb]; exact hi3) hiq
                rw [this, hqb]; rfl)
              have HB := Lib.hid (show (qb.extract 0 i' ++ (⟨#[45]⟩ : ByteArray)) ++ qb.extract (i' + 1) qb.size = toBA (sub1 45 q) by
                have := sub1_bytes (q := qb) (b := 45) (i := i') (by rw [hqb]; exact hi3') hiq
                rw [this, hqb]; rfl)
              have HIX := Lib.hid (show Lib.indexByte qb.data.toList (Int.toNat 120).toUInt8 = (i' : Int) by rw [hqb]; exact hi1)
              have HQ := Lib.hid hq
              have HKL := Lib.hid hkL
              have b1 : (0 : Int) ≤ (i' : Int) := by omega
              have b2 : (i' : Int) ≤ (qb.size : Int) := by omega
              have b3 : (i' : Int) + 1 ≤ (qb.size : Int) := by omega
              have b4 : IntKind.i64.wrap ((i' : Int) + 1) = (i' : Int) + 1 := IntWalk.i64_in _ (by omega)
              have b5 : ((i' : Int) + 1).toNat = i' + 1 := by omega
              have b6 : (0 : Int) ≤ (i' : Int) + 1 := by omega
              have s1 : ∀ w : World, (Op.stringOp .add (qb.extract 0 i') (⟨#[117]⟩ : ByteArray)).run Tryd.prog w = .ok (.string (qb.extract 0 i' ++ (⟨#[117]⟩ : ByteArray))) w := fun w => run_string_add_sum w _ _ (by rw [ByteArray.size_extract]; show _ + 1 ≤ _; omega)
              have s2 : ∀ w : World, (Op.stringOp .add (qb.extract 0 i' ++ (⟨#[117]⟩ : ByteArray)) (qb.extract (i' + 1) qb.size)).run Tryd.prog w = .ok (.string ((qb.extract 0 i' ++ (⟨#[117]⟩ : ByteArray)) ++ qb.extract (i' + 1) qb.size)) w := fun w => run_string_add_sum w _ _ (by rw [ByteArray.size_append, ByteArray.size_extract, ByteArray.size_extract]; show _ + 1 + _ ≤ _; omega)
              have s3 : ∀ w : World, (Op.stringOp .add (qb.extract 0 i') (⟨#[45]⟩ : ByteArray)).run Tryd.prog w = .ok (.string (qb.extract 0 i' ++ (⟨#[45]⟩ : ByteArray))) w := fun w => run_string_add_sum w _ _ (by rw [ByteArray.size_extract]; show _ + 1 ≤ _; omega)
              have s4 : ∀ w : World, (Op.stringOp .add (qb.extract 0 i' ++ (⟨#[45]⟩ : ByteArray)) (qb.extract (i' + 1) qb.size)).run Tryd.prog w = .ok (.string ((qb.extract 0 i' ++ (⟨#[45]⟩ : ByteArray)) ++ qb.extract (i' + 1) qb.size)) w := fun w => run_string_add_sum w _ _ (by rw [ByteArray.size_append, ByteArray.size_extract, ByteArray.size_extract]; show _ + 1 + _ ≤ _; omega)
              clear hq hq1 hq2 hi1 hi2 hi3 hi1' hi2' hi3' hqb hqs hbr2 hkL
              go_wp2_with fail
              refine (idxb_any _ _ _).mono ?_
              rintro e w' ⟨rfl, rfl⟩
              rw [HIX.out]
              go_wp2
              go_region_held3 (fun _ => True) (trivial)
                (first | (refine step_append_lies _ (by rfl) _ _ _ (by rfl) wo.heap.size 9 i0 _ 1 16 Tryd.underlying37 hi hz0 hz1 hz2 rfl (by omega) _ m (baCells ((LL.take k).flatMap stepX)) (by rfl) (HO2.out.alloc _) ⟨wr.heap.size, 0, none⟩ 2 2 [.string ((qb.extract 0 i' ++ (⟨#[117]⟩ : ByteArray)) ++ qb.extract (i' + 1) qb.size), .string ((qb.extract 0 i' ++ (⟨#[45]⟩ : ByteArray)) ++ qb.extract (i' + 1) qb.size)] (by rfl) (by rfl) (new_pair _ _ _ _) (two_str _ _) (by omega) (by unfold maxLen; omega) (by omega) (by simp; omega) (wr.heap.size + 1) (by simp) ?_; intro gg cap w4 hown4 hgrow hat hlt4))
              all_goals
                have R := Lib.hid (irel_more HKL.out HM.out HQ.out HA.out HB.out HO2.out HBR2.out hown4 hgrow)
                clear hown4 hgrow hat hlt4
                go_wp2
                go_roundw
                · exact R.out
                · simp [intOf]; omega
            · obtain rfl : k = n := by omega
              have R := Lib.hid (show ORel p.data.toList w u7 (.int .i64 ((j : Int) + 1)) wr from
                ⟨j + 1, m, by rw [← HOP.out]; omega, by go_num, by rw [iterX, flat_len, ← HLL.out, ← HNL.out, HM.out], by
                  rw [iterX, ← HLL.out]
                  have e : LL.take k = LL := List.take_of_length_le (by have := HNL.out; omega)
                  have h := own_base HO2.out hsz1
                  rw [e] at h
                  exact h, HBR.out.trans (HBR2.out.mono hsz1)⟩)
              clear hbr2
              go_wp2
              go_roundw
              case rel => exact R.out
              case measure => simp [intOf]; omega
        · obtain rfl : j = op := by omega
          have HF := Lib.hid (show iterX j [p.data.toList] = expL p.data.toList by rw [HOP.out]; exact iter_all _)
          clear hown
          go_wp2
          go_ret2
          exact expand_ret (n := n) HE.out (by rw [HN.out, HF.out]) (by rw [← HF.out]; exact HO.out) HBR.out
  · have HE := Lib.hid (expand_err hx.symm hx0)
    have hxf : (x == 0) = false := by simp [hx0]
    have hxf2 : (x != 0) = true := by simp [hx0]
    clear hx0 hx
    go_enter Tryd.func30, Tryd.ntmps30
    go_wp2_with fail
    refine (pvalid_any _ _ (by assumption)).mono ?_
    rintro e w' ⟨rfl, rfl⟩
    rw [← HX.out]
    go_wp2_with fail
    go_ret2
    exact expand_none HE.out (Below.refl _ _)
end Go.Proofs.YtlkigmlgbnlkaaaDoor
