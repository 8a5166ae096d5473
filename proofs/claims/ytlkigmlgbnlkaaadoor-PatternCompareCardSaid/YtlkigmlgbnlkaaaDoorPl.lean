/- Contract of the reference's Expand. -/
import Derived.Test.YtlkigmlgbnlkaaaDoorPk
namespace Go.Proofs.YtlkigmlgbnlkaaaDoor
open Go.RowKit
set_option linter.unusedVariables false

theorem keepOne {W w3 : World} {B g k : Nat} {r : Option Nat} {v : Value} (hb : W.grownBy w3 r) (hr : ∀ x, r = some x → B ≤ x) (hg : g < B) (hg2 : g < W.heap.size)
    (h : W.cell? ⟨g, k, none⟩ = some v) : w3.cell? ⟨g, k, none⟩ = some v :=
  (hb.cell_far ⟨g, k, none⟩ hg2 (fun e => by have := hr _ e.symm; simp at this; omega)).trans h
theorem keepAl {W : World} {g k : Nat} {v : Value} {o : Obj} (h : W.cell? ⟨g, k, none⟩ = some v) : (W.alloc o).cell? ⟨g, k, none⟩ = some v :=
  (World.cell?_alloc_lt W o ⟨g, k, none⟩ (World.block_lt_of_cell? _ _ h)).trans h
theorem one_str (a : ByteArray) : ∀ u ∈ [Value.string a], u.oneCell' = true := by
  intro u hu; simp at hu; subst hu; rfl
/-- The inner loop of the reference: of the list L the first k strings are done. -/
def JRel (L : List (List UInt8)) (c : UInt8) (w : World) (v i : Value) (wr : World) : Prop :=
  ∃ k m : Nat, k ≤ L.length ∧ m ≤ 2 * k ∧ m = ((L.take k).flatMap (tailX c)).length ∧ i = .int .i64 (k : Int) ∧ wr.ownsRow w.heap.size 9 1 v m (baCells ((L.take k).flatMap (tailX c))) ∧ Below w.heap.size w wr
theorem take_one {L : List (List UInt8)} {k : Nat} {q : List UInt8} (hq : L[k]? = some q) : L.take (k + 1) = L.take k ++ [q] := by
  have hk := (List.getElem?_eq_some_iff.1 hq).1
  rw [List.take_succ_eq_append_getElem hk]
  rw [List.getElem?_eq_getElem hk] at hq
  rw [Option.some.inj hq]
theorem jrel_two {L : List (List UInt8)} {w wr w1 : World} {v v' : Value} {o : Obj} {k m : Nat} {q : List UInt8} {a b : ByteArray} (hk : k < L.length) (hm2 : m ≤ 2 * k) (hm : m = ((L.take k).flatMap (tailX 120)).length) (hq : L[k]? = some q) (ha : a.data.toList = q ++ [117]) (hb' : b.data.toList = q ++ [45])
    (hown : wr.ownsRow w.heap.size 9 1 v m (baCells ((L.take k).flatMap (tailX 120)))) (hb : Below w.heap.size w wr)
    (hown' : w1.ownsRow w.heap.size 9 1 v' (m + 2) (baCells ((L.take k).flatMap (tailX 120)) ++ [.string a, .string b])) (hg : (wr.alloc o).drew.grownBy w1 v.ownBlock) : JRel L 120 w v' (.int .i64 ((k : Int) + 1)) w1 := by
  have ha' := toBA_of ha
  have hb2 := toBA_of hb'
  subst ha'; subst hb2
  have e : (L.take (k + 1)).flatMap (tailX 120) = (L.take k).flatMap (tailX 120) ++ [q ++ [117], q ++ [45]] := by
    rw [take_one hq, List.flatMap_append]; simp [tailX]
  refine ⟨k + 1, m + 2, by omega, by omega, by rw [e, List.length_append, hm]; rfl, by go_num, ?_, (hb.alloc hb.size o).drew.grown hg (by have := hb.size; simp; omega) (fun j hj => (hown.lt j hj).1)⟩
  rw [e, baCells_app]
  exact hown'
theorem jrel_one {L : List (List UInt8)} {c : UInt8} {w wr w1 : World} {v v' : Value} {o : Obj} {k m : Nat} {q : List UInt8} {a : ByteArray} (hc : c ≠ 120) (hk : k < L.length) (hm2 : m ≤ 2 * k) (hm : m = ((L.take k).flatMap (tailX c)).length) (hq : L[k]? = some q) (ha : a.data.toList = q ++ [c])
    (hown : wr.ownsRow w.heap.size 9 1 v m (baCells ((L.take k).flatMap (tailX c)))) (hb : Below w.heap.size w wr)
    (hown' : w1.ownsRow w.heap.size 9 1 v' (m + 1) (baCells ((L.take k).flatMap (tailX c)) ++ [.string a])) (hg : (wr.alloc o).drew.grownBy w1 v.ownBlock) : JRel L c w v' (.int .i64 ((k : Int) + 1)) w1 := by
  have ha' := toBA_of ha
  subst ha'
  have e : (L.take (k + 1)).flatMap (tailX c) = (L.take k).flatMap (tailX c) ++ [q ++ [c]] := by
    rw [take_one hq, List.flatMap_append]; simp [tailX, hc]
  refine ⟨k + 1, m + 1, by omega, by omega, by rw [e, List.length_append, hm]; rfl, by go_num, ?_, (hb.alloc hb.size o).drew.grown hg (by have := hb.size; simp; omega) (fun j hj => (hown.lt j hj).1)⟩
  rw [e, baCells_app]
  exact hown'
def PRel (p : ByteArray) (w : World) (v i : Value) (wr : World) : Prop :=
  ∃ j n : Nat, j ≤ p.size ∧ i = .int .i64 (j : Int) ∧ n = (expL (p.data.toList.take j)).length ∧ wr.ownsRow w.heap.size 9 1 v n (baCells (expL (p.data.toList.take j))) ∧ Below w.heap.size w wr
theorem exp_small {p : ByteArray} {j : Nat} (h : p.data.toList.count 120 ≤ 10) : 0 < (expL (p.data.toList.take j)).length ∧ (expL (p.data.toList.take j)).length ≤ 1024 := by
  rw [exp_len]
  have h1 : (p.data.toList.take j).count 120 ≤ p.data.toList.count 120 := (List.take_sublist j _).count_le 120
  exact ⟨Nat.pow_pos (by decide), pow_small (by omega)⟩

set_option maxHeartbeats 8000000 in
theorem rexpand_any (p : ByteArray) (w : World) (hs : p.size ≤ maxLen) :
    Calls Tryd.prog 31 #[.string p] w (ExpandPost p.data.toList w) := by
  obtain ⟨i0, hi, hz0, hz1, hz2⟩ := info_parts Tryd.infoString
  obtain ⟨x, hx⟩ : ∃ x, x = pErr p.data.toList := ⟨_, rfl⟩
  have HX := Lib.hid hx
  by_cases hx0 : x = 0
  · subst hx0
    have h60 : p.size ≤ 60 := (pErr_zero hx.symm).1
    clear hx
    go_enter Tryd.func31, Tryd.ntmps31
    go_wp2_with fail
    refine (rvalid_any _ _ (by assumption)).mono ?_
    rintro e w' ⟨rfl, rfl⟩
    rw [← HX.out]
    go_wp2_with fail
    go_loop [5, 6] (fun c i => ∃ k n : Nat, k ≤ p.size ∧ n ≤ k ∧ i = .int .i64 k ∧ c = .int .i64 n ∧ (p.data.toList.take k).count 120 = n) (fun _ i => p.size - (intOf i).toNat)
    case atStart => exact ⟨0, 0, Nat.zero_le _, Nat.le_refl _, rfl, rfl, rfl⟩
    case round =>
      obtain ⟨k, n, hk, hn, rfl, rfl, hc⟩ := hrel
      have HC := Lib.hid hc
      clear hc
      by_cases hlt : k < p.size
      · have HC1 := Lib.hid (count_take hlt 120)
        by_cases h120 : (p[k].toNat : Int) = 120
        · have HC2 := Lib.hid (show (p.data.toList.take (k + 1)).count 120 = n + 1 by rw [HC1.out, if_pos (int_120.1 h120), HC.out])
          go_wp2
          go_round
          case rel => exact ⟨k + 1, n + 1, by omega, by omega, by go_num, by go_num, HC2.out⟩
          case measure => simp [intOf]; omega
        · have HC2 := Lib.hid (show (p.data.toList.take (k + 1)).count 120 = n by rw [HC1.out, if_neg (fun e => h120 (int_120.2 e)), HC.out]; rfl)
          go_wp2
          go_round
          case rel => exact ⟨k + 1, n, by omega, by omega, by go_num, rfl, HC2.out⟩
          case measure => simp [intOf]; omega
      · have HCN := Lib.hid (show p.data.toList.count 120 = n by rw [← HC.out, takeAll (by omega)])
        by_cases hbig : 10 < n
        · have HE := Lib.hid (expand_big HX.out.symm (by rw [HCN.out]; exact hbig))
          go_wp2
          go_ret2
          exact expand_none HE.out (Below.refl _ _)
        · have HE := Lib.hid (expand_ok HX.out.symm (by rw [HCN.out]; exact hbig))
          have HSM := Lib.hid (show ∀ j, 0 < (expL (p.data.toList.take j)).length ∧ (expL (p.data.toList.take j)).length ≤ 1024 from fun j => exp_small (by rw [HCN.out]; omega))
          go_wp2
          go_loopw [7, 8] (fun v i wr => PRel p w v i wr) (fun _ i _ => p.size - (intOf i).toNat)
          case atStart => exact ⟨0, 1, Nat.zero_le _, rfl, rfl, own_alloc_one w ⟨#[]⟩, (Below.refl _ _).alloc (Nat.le_refl _) _⟩
          case round =>
            obtain ⟨wo, hwo⟩ : ∃ wo, wo = wr := ⟨_, rfl⟩
            subst hwo
            obtain ⟨j, n2, hj, rfl, hn2, hown, hbr⟩ := hrel
            have HO := Lib.hid hown
            have HBR := Lib.hid hbr
            have HN := Lib.hid hn2
            have hn1024 : n2 ≤ 1024 := by rw [hn2]; exact (HSM.out j).2
            have hn1 : 0 < n2 := by rw [hn2]; exact (HSM.out j).1
            have hsz1 : w.heap.size ≤ wo.heap.size := hbr.size
            clear hbr hn2
            by_cases hltj : j < p.size
            · obtain ⟨g, c, hvv, hB, hlt'⟩ := hown.form hn1
              subst hvv
              obtain ⟨LL, hLL⟩ : ∃ LL, LL = expL (p.data.toList.take j) := ⟨_, rfl⟩
              have HLL := Lib.hid hLL
              have HIN := Lib.hid (show ∀ q ∈ LL, q.length ≤ 60 from fun q hq => by
                rw [hLL] at hq
                have h1 := exp_in _ q hq
                rw [List.length_take] at h1; omega)
              have HNL := Lib.hid (show n2 = LL.length by rw [hLL]; exact HN.out)
              have HCELL := Lib.hid (show ∀ k (q : List UInt8), LL[k]? = some q → wo.cell? ⟨g, k, none⟩ = some (.string (toBA q)) from fun k q hq => by
                have hk : k < LL.length := (List.getElem?_eq_some_iff.1 hq).1
                rw [hown.cellAt _ (by have := HNL.out; omega), ← hLL]
                simp [baCells, hq])
              have HNX := Lib.hid (show expL (p.data.toList.take (j + 1)) = LL.flatMap (tailX p[j]) by rw [takeS hltj, exp_snoc, ← hLL])
              clear hown hLL
              go_wp2
              go_loopw [9, 10] (fun v i wi => JRel LL p[j] wo v i wi) (fun _ i _ => n2 - (intOf i).toNat)
              case atStart => exact ⟨0, 0, Nat.zero_le _, Nat.le_refl _, rfl, rfl, World.ownsRow_nil _ _ _ _, Below.refl _ _⟩
              case round =>
                obtain ⟨k, m, hk, hm2, hm, rfl, hown2, hbr2⟩ := hrel
                have HM := Lib.hid hm
                have HO2 := Lib.hid hown2
                have HBR2 := Lib.hid hbr2
                have HNE := Lib.hid (show ∀ x, u9.ownBlock = some x → wo.heap.size ≤ x from fun x hx => (hown2.lt x hx).1)
                have hkn : k ≤ n2 := by rw [HNL.out]; exact hk
                have hsz2 : wo.heap.size ≤ wr.heap.size := hbr2.size
                clear hm hown2
                by_cases hlt2 : k < n2
                · have hkL : k < LL.length := by rw [← HNL.out]; exact hlt2
                  obtain ⟨q, hq⟩ : ∃ q, LL[k]? = some q := ⟨LL[k], List.getElem?_eq_getElem hkL⟩
                  have hq1 := HIN.out q (List.mem_of_getElem? hq)
                  have hc := (hbr2.cell (p := ⟨g, k, none⟩) hlt').trans (HCELL.out k q hq)
                  obtain ⟨qb, hqb⟩ : ∃ qb, qb = toBA q := ⟨_, rfl⟩
                  have hqs : qb.size = q.length := by rw [hqb]; rfl
                  have hqp : qb.size ≤ 60 := by omega
                  rw [← hqb] at hc
                  have HQB := Lib.hid (show qb.data.toList = q by rw [hqb]; rfl)
                  have HQ := Lib.hid hq
                  have HKL := Lib.hid hkL
                  clear hq hq1 hqb hqs hbr2 hkL
                  by_cases h120 : (p[j].toNat : Int) = 120
                  · have hpj : p[j] = 120 := int_120.1 h120
                    rw [hpj] at HM HO2
                    have HPJ := Lib.hid hpj
                    have s1 : ∀ w : World, (Op.stringOp .add qb (⟨#[117]⟩ : ByteArray)).run Tryd.prog w = .ok (.string (qb ++ (⟨#[117]⟩ : ByteArray))) w := fun w => run_string_add_sum w _ _ (by show _ + 1 ≤ _; omega)
                    have s2 : ∀ w : World, (Op.stringOp .add qb (⟨#[45]⟩ : ByteArray)).run Tryd.prog w = .ok (.string (qb ++ (⟨#[45]⟩ : ByteArray))) w := fun w => run_string_add_sum w _ _ (by show _ + 1 ≤ _; omega)
                    have HA := Lib.hid (show (qb ++ (⟨#[117]⟩ : ByteArray)).data.toList = q ++ [117] by rw [cat_any, HQB.out])
                    have HB := Lib.hid (show (qb ++ (⟨#[45]⟩ : ByteArray)).data.toList = q ++ [45] by rw [cat_any, HQB.out])
                    clear hpj
                    go_wp2
                    go_region_held3 (fun w' => w'.cell? ⟨g, k, none⟩ = some (.string qb)) (first | exact hc | exact keepAl (by assumption) | exact keepOne hgrow HNE.out hlt' (by simp; omega) (by first | assumption | exact keepAl (by assumption) | exact keepAl hc) | go_keep)
                      (first | (refine step_append_lies _ (by rfl) _ _ _ (by rfl) wo.heap.size 9 i0 _ 1 16 Tryd.underlying37 hi hz0 hz1 hz2 rfl (by omega) _ m (baCells ((LL.take k).flatMap (tailX 120))) (by rfl) (HO2.out.alloc _) ⟨wr.heap.size, 0, none⟩ 2 2 [.string (qb ++ (⟨#[117]⟩ : ByteArray)), .string (qb ++ (⟨#[45]⟩ : ByteArray))] (by rfl) (by rfl) (new_pair _ _ _ _) (two_str _ _) (by omega) (by unfold maxLen; omega) (by omega) (by simp; omega) (wr.heap.size + 1) (by simp) ?_; intro gg cap w4 hown4 hgrow hat hlt4))
                    all_goals
                      have R := Lib.hid (show JRel LL p[j] wo _ _ w4 by rw [HPJ.out]; exact jrel_two HKL.out hm2 HM.out HQ.out HA.out HB.out HO2.out HBR2.out hown4 hgrow)
                      clear hown4 hgrow hat hlt4
                      go_wp2
                      go_roundw
                      · exact R.out
                      · simp [intOf]; omega
                  · have hpj : p[j] ≠ 120 := fun e => h120 (int_120.2 e)
                    have HPJ := Lib.hid hpj
                    have s1 : ∀ w : World, (Op.stringOp .add qb (p.extract j (j + 1))).run Tryd.prog w = .ok (.string (qb ++ p.extract j (j + 1))) w := fun w => run_string_add_sum w _ _ (by rw [ByteArray.size_extract]; omega)
                    have HA := Lib.hid (show (qb ++ p.extract j (j + 1)).data.toList = q ++ [p[j]] by rw [cat_any, one_byte hltj, HQB.out])
                    have b1 : (0 : Int) ≤ (j : Int) := by omega
                    have b3 : (j : Int) + 1 ≤ (p.size : Int) := by omega
                    have b4 : IntKind.i64.wrap ((j : Int) + 1) = (j : Int) + 1 := IntWalk.i64_in _ (by omega)
                    have b5 : ((j : Int) + 1).toNat = j + 1 := by omega
                    have b6 : (j : Int) ≤ (j : Int) + 1 := by omega
                    have b7 : (0 : Int) ≤ (j : Int) + 1 := by omega
                    have b8 : (j : Int) ≤ (p.size : Int) := by omega
                    clear hpj
                    go_wp2
                    go_region_held3 (fun w' => w'.cell? ⟨g, k, none⟩ = some (.string qb)) (first | exact hc | exact keepAl (by assumption) | exact keepOne hgrow HNE.out hlt' (by simp; omega) (by first | assumption | exact keepAl (by assumption) | exact keepAl hc) | go_keep)
                      (first | (refine step_append_lies _ (by rfl) _ _ _ (by rfl) wo.heap.size 9 i0 _ 1 16 Tryd.underlying37 hi hz0 hz1 hz2 rfl (by omega) _ m (baCells ((LL.take k).flatMap (tailX p[j]))) (by rfl) (HO2.out.alloc _) ⟨wr.heap.size, 0, none⟩ 1 1 [.string (qb ++ p.extract j (j + 1))] (by rfl) (by rfl) (new_one _ _ _) (one_str _) (by omega) (by unfold maxLen; omega) (by omega) (by simp; omega) (wr.heap.size + 1) (by simp) ?_; intro gg cap w4 hown4 hgrow hat hlt4))
                    all_goals
                      have R := Lib.hid (jrel_one HPJ.out HKL.out hm2 HM.out HQ.out HA.out HO2.out HBR2.out hown4 hgrow)
                      clear hown4 hgrow hat hlt4
                      go_wp2
                      go_roundw
                      · exact R.out
                      · simp [intOf]; omega
                · obtain rfl : k = n2 := by omega
                  have R := Lib.hid (show PRel p w u9 (.int .i64 ((j : Int) + 1)) wr from by
                    have e : LL.take k = LL := List.take_of_length_le (by have := HNL.out; omega)
                    have h := own_base HO2.out hsz1
                    rw [e] at h
                    exact ⟨j + 1, m, by omega, by go_num, by rw [HNX.out, HM.out, e], by rw [HNX.out]; exact h, HBR.out.trans (HBR2.out.mono hsz1)⟩)
                  clear hbr2
                  go_wp2
                  go_roundw
                  case rel => exact R.out
                  case measure => simp [intOf]; omega
            · obtain rfl : j = p.size := by omega
              have HT := Lib.hid (takeAll (s := p) (Nat.le_refl _))
              clear hown
              go_wp2
              go_ret2
              exact expand_ret (n := n2) HE.out (by rw [HN.out, HT.out]) (by have h := HO.out; rw [HT.out] at h; exact h) HBR.out
  · have HE := Lib.hid (expand_err hx.symm hx0)
    have hxf : (x == 0) = false := by simp [hx0]
    have hxf2 : (x != 0) = true := by simp [hx0]
    clear hx0 hx
    go_enter Tryd.func31, Tryd.ntmps31
    go_wp2_with fail
    refine (rvalid_any _ _ (by assumption)).mono ?_
    rintro e w' ⟨rfl, rfl⟩
    rw [← HX.out]
    go_wp2_with fail
    go_ret2
    exact expand_none HE.out (Below.refl _ _)
end Go.Proofs.YtlkigmlgbnlkaaaDoor
