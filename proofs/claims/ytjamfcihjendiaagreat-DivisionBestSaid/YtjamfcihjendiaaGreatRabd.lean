/- Several texts in one: Ze, Zf, JG. -/
import Derived.Test.YtjamfcihjendiaaGreatRabc
import Derived.Test.YtjamfcihjendiaaGreatRaat
import Derived.Test.YtjamfcihjendiaaGreatRaab
import Derived.Deep.DeepAppendRoom
import Derived.Test.YtjamfcihjendiaaGreatRaak
import Derived.Test.YtjamfcihjendiaaGreatRabb
namespace Go.Proofs.YtjamfcihjendiaaGreat
open Go.RowKit
set_option linter.unusedVariables false
set_option linter.unusedSimpArgs false
set_option maxRecDepth 100000

theorem Hp.only {W w : World} {l : List Itm} {a : Itm} (h : Hp W (a :: l) w) : Hp W [a] w := h.sub (fun i => i) (fun _ _ e => e) (fun i it hi => by
  cases i with
  | zero => exact hi
  | succ i => simp at hi)
theorem sx_cells (a b d : Value) : (((Tryz.zeroCells72.setIfInBounds 0 a).setIfInBounds 1 b).setIfInBounds 2 d) = (a :: b :: d :: ints (List.replicate 153 0)).toArray := by rfl
def bgE (nm : List UInt8) (L : List Sg) (u : List UInt8) : Int := if gvE nm L u ≠ 0 then gvE nm L u else if (dvs L u).length = 0 then 9 else if 200 < (dvs L u).length then 3 else 0
def BgPost (nm : List UInt8) (L : List Sg) (A : Option Addr) (n c : Nat) (u : List UInt8) (w : World) (e : Ending) (w' : World) : Prop :=
  (bgE nm L u ≠ 0 ∧ e = .returned (.tuple #[.pointer none, .int .i64 (bgE nm L u)]) ∧ Below w.heap.size w w') ∨
  (bgE nm L u = 0 ∧ ∃ g t, e = .returned (.tuple #[.pointer (some ⟨g, 0, none⟩), .int .i64 0]) ∧ TabIs t (FB L u 0) ∧ Hp w [sxb g nm A n c u t] w')
set_option maxHeartbeats 4000000 in
theorem begin_any (nm : List UInt8) (L : List Sg) (A : Option Addr) (n c : Nat) (u : List UInt8) (w : World) (hnm : nm.length ≤ 140737488355328) (hl : L.length = n) (hn : n ≤ 17592186044416) (hnc : n ≤ c) (hs : SgBd L) (hA : SgnIn w A L) (hu : u.length ≤ 1000000) :
    Calls Tryz.prog 18 #[.agg #[.string (bs nm), .slice A n c], .string (bs u)] w (BgPost nm L A n c u w) := by
  obtain ⟨g1, hg1⟩ : ∃ z, z = w.heap.size := ⟨_, rfl⟩
  obtain ⟨W1, hW1⟩ : ∃ z, z = w.alloc (.cells #[.string (bs nm), .slice A n c] 24) := ⟨_, rfl⟩
  have V1 := Lib.hid (show Hp w [obox g1 nm A n c] W1 by rw [hW1, hg1]; exact (Hp.start w).obox_new nm A n c)
  have HW1 := Lib.hid hW1
  have HG1 := Lib.hid hg1
  have HWF := Lib.hid (wfault_any nm L A n c u W1 hnm hl hn hnc hs (hA.below V1.out.below) hu)
  have HL := Lib.hid hl
  have HA := Lib.hid hA
  obtain ⟨z0, z1, z2⟩ := V1.out.obox_at (i := 0) rfl
  clear hW1 hg1 hA hs hl hnm
  go_enter Tryz.func18, Tryz.ntmps18
  go_upto_region 1 with fail
  rw [← HG1.out, ← HW1.out]
  go_wp2_with fail
  refine HWF.out.mono ?_
  rintro e w2 ⟨rfl, hb⟩
  have V2 := Lib.hid (V1.out.go hb)
  clear hb z0 z1 z2
  by_cases hgv : gvE nm L u = 0
  case neg =>
    have HE := Lib.hid (show bgE nm L u = gvE nm L u by unfold bgE; rw [if_pos hgv])
    obtain ⟨v, hvv⟩ : ∃ v, v = gvE nm L u := ⟨_, rfl⟩
    rw [← hvv] at hgv HE ⊢
    have HG := Lib.hid hgv
    have e1 : (v != 0) = true := bne_yes hgv
    clear hgv hvv
    go_wp2_with fail
    go_ret2
    exact .inl ⟨by rw [HE.out]; exact HG.out, by rw [HE.out]; rfl, V2.out.below⟩
  have HG := Lib.hid (show bgE nm L u = if (dvs L u).length = 0 then 9 else if 200 < (dvs L u).length then 3 else 0 by unfold bgE; rw [if_neg (by rw [hgv]; simp)])
  have HV := Lib.hid (gvE_zero hgv).1
  have HW := Lib.hid (wdE_zero (gvE_zero hgv).2)
  rw [hgv]
  clear hgv
  obtain ⟨z0, z1, z2⟩ := V2.out.obox_at (i := 0) rfl
  obtain ⟨g, hg⟩ : ∃ z, z = w2.heap.size := ⟨_, rfl⟩
  obtain ⟨W3, hW3⟩ : ∃ z, z = w2.alloc (.cells (((Tryz.zeroCells72.setIfInBounds 0 (.string (bs nm))).setIfInBounds 1 (.slice A n c)).setIfInBounds 2 (.string (bs u))) 72) := ⟨_, rfl⟩
  have V3 := Lib.hid (show Hp w (sxb g nm A n c u (List.replicate 153 0) :: [obox g1 nm A n c]) W3 by rw [hW3, hg, sx_cells]; exact V2.out.box_new _ _)
  have HW3 := Lib.hid hW3
  have HG3 := Lib.hid hg
  clear hW3 hg
  go_upto_region 5 with fail
  rw [← HW3.out, ← HG3.out]
  clear z0 z1 z2
  go_wp2_with fail
  refine (fill_any nm L A n c u _ g _ HV.out HL.out HA.out HW.out.1 HW.out.2.1 TabIs.zero V3.out).mono ?_
  rintro e w4 ⟨rfl, t, ht, hp⟩
  have V4 := Lib.hid hp
  have HT := Lib.hid ht
  clear ht hp
  go_wp2_with fail
  refine (countP_any nm A n c u _ g _ (sxb_is V4.out (i := 0) rfl HT.out) (fun k => FB_le _ _ _ _ _ _)).mono ?_
  rintro e w5 ⟨rfl, hb⟩
  have V5 := Lib.hid (V4.out.go hb)
  clear hb
  obtain ⟨N, hN⟩ : ∃ z, z = FB L u 0 0 0 0 + FB L u 0 0 0 1 + FB L u 0 0 0 2 := ⟨_, rfl⟩
  have HC := Lib.hid (cnN_is (L := L) (u := u) HW.out.1)
  have HN := Lib.hid (show N = cnN L u by rw [hN, FB_on (Nat.le_refl _) (Nat.zero_le _), FB_on (Nat.le_refl _) (Nat.zero_le _), FB_on (Nat.le_refl _) (Nat.zero_le _)]; rfl)
  rw [← hN]
  clear hN
  by_cases h0 : N = 0
  · have HE := Lib.hid (show bgE nm L u = 9 by rw [HG.out, if_pos (HC.out.1.1 (by rw [← HN.out]; exact h0))])
    have e1 : ((N : Int) == 0) = true := beq_yes (by omega)
    clear h0
    go_wp2_with fail
    go_ret2
    exact .inl ⟨by rw [HE.out]; decide, by rw [HE.out]; rfl, V5.out.below⟩
  have e1 : ((N : Int) == 0) = false := beq_no (by omega)
  by_cases h2 : 200 < N
  · have HE := Lib.hid (show bgE nm L u = 3 by rw [HG.out, if_neg (fun h => h0 (by rw [HN.out]; exact HC.out.1.2 h)), if_pos (HC.out.2.1.1 (by rw [← HN.out]; exact h2))])
    go_wp2_with fail
    go_ret2
    exact .inl ⟨by rw [HE.out]; decide, by rw [HE.out]; rfl, V5.out.below⟩
  · have HE := Lib.hid (show bgE nm L u = 0 by rw [HG.out, if_neg (fun h => h0 (by rw [HN.out]; exact HC.out.1.2 h)), if_neg (fun h => h2 (by rw [HN.out]; exact HC.out.2.1.2 h))])
    go_wp2_with fail
    go_ret2
    exact .inr ⟨HE.out, g, t, rfl, HT.out, V5.out.only⟩
end Go.Proofs.YtjamfcihjendiaaGreat

namespace Go.Proofs.YtjamfcihjendiaaGreat
open Go.RowKit
set_option linter.unusedVariables false
set_option linter.unusedSimpArgs false
set_option maxRecDepth 100000

def ClonePost (W : World) (l : List Itm) (n : Nat) (L : List Int) (w : World) (e : Ending) (w' : World) : Prop := ∃ C d, e = .returned (.slice C n d) ∧ Hp W (nums C n d L :: l) w' ∧ Below w.heap.size w w'
theorem clone_nums (L : List Int) (A : Option Addr) (n c : Nat) (W w : World) (l : List Itm) (h : Hp W l w) (hn : L.length = n) (hb : n ≤ 1000000000000) (hA : CellsIn w A (ints L)) :
    Calls Tryz.prog 37 #[.slice A n c] w (ClonePost W l n L w) := by
  have mk : ∀ (v' : Value) (w' : World), w'.ownsRow w.heap.size 3 1 v' n (ints L) → Below w.heap.size w w' → ∃ C d, v' = .slice C n d ∧ Hp W (nums C n d L :: l) w' := by
    intro v' w' ho hbel
    have ho' := own_base ho h.below.size
    have hv : ∃ C d, v' = .slice C n d := by
      rcases ho.2 with ⟨e, h0⟩ | ⟨g, cap, cur, e, _⟩
      · exact ⟨none, 0, by rw [e, h0]⟩
      · exact ⟨_, _, e⟩
    obtain ⟨C, d, rfl⟩ := hv
    exact ⟨C, d, rfl, h.new (nums C n d L) hbel ho' (fun k hk => (ho.lt k hk).1)⟩
  by_cases h0 : n = 0
  · subst h0
    have e0 : L = [] := List.eq_nil_of_length_eq_zero hn
    subst e0
    cases A with
    | none =>
      refine (Tryz.slices_Clone_int_nil 0 c w).mono ?_
      rintro e w' ⟨rfl, rfl⟩
      exact ⟨none, 0, rfl, h.nil_row _ rfl rfl rfl, Below.refl _ _⟩
    | some a =>
      refine (Tryz.slices_Clone_int_zero a c w).mono ?_
      rintro e w' ⟨v', rfl, ho, _, hbel⟩
      obtain ⟨C, d, rfl, hp⟩ := mk v' w' ho hbel
      exact ⟨C, d, rfl, hp, hbel⟩
  · obtain ⟨b, off, rfl, hlt, hc⟩ := hA (by rw [ints_len]; omega)
    refine (Tryz.slices_Clone_int b off n c L w (by omega) (by omega) (fun j hj => hc j _ (ints_at hj))).mono ?_
    rintro e w' ⟨v', rfl, ho, _, hbel⟩
    rw [List.take_of_length_le (by omega)] at ho
    obtain ⟨C, d, rfl, hp⟩ := mk v' w' ho hbel
    exact ⟨C, d, rfl, hp, hbel⟩
theorem Hp.cut {W w : World} {l : List Itm} {i g n c : Nat} {L : List Int} {x : Int} (h : Hp W l w) (hi : l[i]? = some (nums (some ⟨g, 0, none⟩) (n + 1) c (L ++ [x]))) : Hp W (l.set i (nums (some ⟨g, 0, none⟩) n c L)) w := by
  have ho := h.own i _ hi
  refine h.upd hi _ ⟨rfl, rfl, rfl, Nat.le_refl _, fun _ _ _ => rfl⟩ ?_ (fun k hk => .inl hk)
  have hl : L.length = n := by have := h.num_len hi; simpa using this
  refine ⟨by simp [nums, ints, hl], ?_⟩
  rcases ho.2 with ⟨e, _⟩ | ⟨g', cap, cur, e, h1, h2, h3, h4, h5, h6⟩
  · cases e
  · have e' : Value.slice (some ⟨g, 0, none⟩) (n + 1) c = .slice (some ⟨g', 0, none⟩) (n + 1) cap := e
    injection e' with e1 _ e3
    injection e1 with e1
    injection e1 with e1
    subst e1; subst e3
    refine .inr ⟨g, c, cur, rfl, h1, h2, ?_, h4, h5, ?_⟩
    · exact Nat.le_of_succ_le h3
    · have h7 : cur.toList.take ((n + 1) * 1) = ints (L ++ [x]) := h6
      show cur.toList.take (n * 1) = ints L
      have : (cur.toList.take ((n + 1) * 1)).take (n * 1) = cur.toList.take (n * 1) := by rw [List.take_take]; congr 1; omega
      rw [← this, h7]
      unfold ints
      rw [List.map_append, List.take_left' (by simp; omega)]
theorem get_midI {l r : List Itm} {x : Itm} : (l ++ x :: r)[l.length]? = some x := by rw [List.getElem?_append_right (Nat.le_refl _), Nat.sub_self]; rfl
theorem set_midI {l r : List Itm} {x y : Itm} : (l ++ x :: r).set l.length y = l ++ y :: r := by rw [List.set_append_right _ _ (Nat.le_refl _), Nat.sub_self]; rfl
theorem Hp.out1 {W w : World} {a : List Itm} {x : Itm} {c : List Itm} (h : Hp W (a ++ x :: c) w) : Hp W (a ++ c) w := by
  refine h.sub (fun i => if i < a.length then i else i + 1) (fun i j e => ?_) (fun i it hi => ?_)
  · split at e <;> split at e <;> omega
  · by_cases h1 : i < a.length
    · rw [if_pos h1]
      rw [List.getElem?_append_left h1] at hi ⊢
      exact hi
    · rw [if_neg h1]
      rw [List.getElem?_append_right (by omega)] at hi
      rw [List.getElem?_append_right (by omega), show i + 1 - a.length = (i - a.length) + 1 by omega, List.getElem?_cons_succ]
      exact hi
theorem run_app_two {W w : World} {pre l : List Itm} {A : Option Addr} {n c : Nat} {L : List Int} (h : Hp W (pre ++ nums A n c L :: l) w) (ty : TypeId) {b : Nat} (x : Int) (hb : w.cell? ⟨b, 0, none⟩ = some (.int .i64 x)) (hn : n ≤ 1000) :
    ∃ g cap w' K, (Builtin.append_ #[35, 35] ty #[.slice A n c, .slice (some ⟨b, 0, none⟩) 1 1]).run Tryz.prog w = .ok (.slice (some ⟨g, 0, none⟩) (n + 1) cap) w' ∧
      Hp W (pre ++ nums (some ⟨g, 0, none⟩) (n + 1) cap (L ++ [x]) :: (K ++ l)) w' ∧
      ∀ (pre' l' : List Itm) (w2 : World), Hp W (pre' ++ nums (some ⟨g, 0, none⟩) (n + 1) cap (L ++ [x]) :: (K ++ l')) w2 → Hp W (pre' ++ nums A n c L :: l') w2 := by
  obtain ⟨i0, hi0, hz0, hz1, hz2⟩ := info_parts int_info
  have hown : w.ownsRow W.heap.size 3 1 (.slice A n c) n (ints L) := h.own pre.length _ get_midI
  have hcell : ∀ j u, [Value.int .i64 x][j]? = some u → w.cell? ((⟨b, 0, none⟩ : Addr).add j) = some u := fun j u hu => by
    cases j with
    | zero => injection hu with hu; subst hu; exact hb
    | succ j => simp at hu
  have h1 : ∀ u ∈ [Value.int .i64 x], u.oneCell' = true := fun u hu => by rw [List.mem_singleton.1 hu]; rfl
  have hx : ints (L ++ [x]) = ints L ++ [.int .i64 x] := by unfold ints; rw [List.map_append]; rfl
  have grow : ∀ (v : Value) (w' : World), w'.ownsRow W.heap.size 3 1 v (n + 1) (ints L ++ [.int .i64 x]) → Below w.heap.size w w' → (∀ k, v.ownBlock = some k → w.heap.size ≤ k) → ∃ g cap, v = .slice (some ⟨g, 0, none⟩) (n + 1) cap ∧ Hp W (pre ++ nums (some ⟨g, 0, none⟩) (n + 1) cap (L ++ [x]) :: ([nums A n c L] ++ l)) w' := by
    intro v w' ho hbel hk
    obtain ⟨g, cap, rfl, _, _⟩ := ho.form (by omega)
    refine ⟨g, cap, rfl, ?_⟩
    have hp : Hp W (nums (some ⟨g, 0, none⟩) (n + 1) cap (L ++ [x]) :: (pre ++ nums A n c L :: l)) w' := h.new _ hbel (by show w'.ownsRow _ _ _ _ _ (ints (L ++ [x])); rw [hx]; exact ho) hk
    exact Hp.sink (l := pre) (l2 := nums A n c L :: l) hp
  have hres : ∀ g cap, (∀ (pre' l' : List Itm) (w2 : World), Hp W (pre' ++ nums (some ⟨g, 0, none⟩) (n + 1) cap (L ++ [x]) :: ([nums A n c L] ++ l')) w2 → Hp W (pre' ++ nums A n c L :: l') w2) := fun g cap pre' l' w2 h2 => Hp.out1 h2
  rcases hown.2 with ⟨e, e0⟩ | ⟨g0, cap0, cur, e, hb0, hg0, hnc, hcm, hcs, htk⟩
  · obtain ⟨g, cap, w', hr, ho, hg, hat, hlt⟩ := run_append_lies (P := Tryz.prog) w 35 ty W.heap.size 3 i0 _ 1 8 Tryz.underlying35 hi0 hz0 hz1 hz2 rfl Nat.zero_lt_one (.slice A n c) n (ints L) hown ⟨b, 0, none⟩ 1 1 [.int .i64 x] rfl hcell h1 Nat.zero_lt_one (by unfold maxLen; omega) (by omega) h.below.size _ rfl
    rw [e] at hg hat
    have hgs : g = w.heap.size := by
      rcases hat with hat | hat
      · cases hat
      · exact hat
    have hbel : Below w.heap.size w w' := (Below.refl _ _).grown hg (Nat.le_refl _) (fun k hk => by cases hk)
    obtain ⟨g2, cap2, e2, hp⟩ := grow _ w' ho hbel (fun k hk => by simp [Value.ownBlock] at hk; omega)
    rw [e2] at hr
    exact ⟨g2, cap2, w', _, hr, hp, hres g2 cap2⟩
  · injection e with e1 _ e3
    subst e1; subst e3
    by_cases hroom : n + 1 ≤ c
    · obtain ⟨w', hr, ho, hg⟩ := run_append_own_spare (P := Tryz.prog) w W.heap.size 35 ty 3 i0 1 Tryz.underlying35 hi0 hz1 g0 n c (ints L) hown ⟨b, 0, none⟩ 1 1 [.int .i64 x] rfl hcell h1 hroom
      refine ⟨g0, c, w', [], hr, ?_, fun pre' l' w2 h2 => ?_⟩
      · have := h.upd (i := pre.length) get_midI (nums (some ⟨g0, 0, none⟩) (n + 1) c (L ++ [x])) hg (by show w'.ownsRow _ _ _ _ _ (ints (L ++ [x])); rw [hx]; exact ho) (fun k hk => .inl hk)
        rw [set_midI] at this
        exact this
      · have := h2.cut (i := pre'.length) get_midI
        rw [set_midI] at this
        exact this
    · have hl : (ints L).length = n * i0.size := by rw [hown.1, hz1]
      have hr2 := run_append_grow (P := Tryz.prog) w 35 ty 3 i0 _ Tryz.underlying35 hi0 hz0 ⟨g0, 0, none⟩ n c (ints L) hl (hown.cells rfl) ⟨b, 0, none⟩ 1 1 [.int .i64 x] (by rw [hz1]; rfl) hcell (by omega) (by omega) (growslice_fits (by omega) (by rw [hz2]; omega))
      obtain ⟨g, cap, w', hr, ho, hg, hat, hlt⟩ := run_append_lies (P := Tryz.prog) w 35 ty W.heap.size 3 i0 _ 1 8 Tryz.underlying35 hi0 hz0 hz1 hz2 rfl Nat.zero_lt_one (.slice (some ⟨g0, 0, none⟩) n c) n (ints L) hown ⟨b, 0, none⟩ 1 1 [.int .i64 x] rfl hcell h1 Nat.zero_lt_one (by unfold maxLen; omega) (by omega) h.below.size _ rfl
      rw [hr2] at hr
      injection hr with hv hw
      injection hv with hv1 _ hv3
      injection hv1 with hv1
      injection hv1 with hgs
      subst hw
      obtain ⟨g2, cap2, e2, hp⟩ := grow _ _ ho (btwo (bdrew w) (bnew _ _)) (fun k hk => by simp [Value.ownBlock] at hk; omega)
      refine ⟨g2, cap2, _, _, ?_, hp, hres g2 cap2⟩
      rw [hr2, ← e2, ← hgs, ← hv3]
end Go.Proofs.YtjamfcihjendiaaGreat

namespace Go.Proofs.YtjamfcihjendiaaGreat
open Go.RowKit
set_option linter.unusedVariables false
set_option linter.unusedSimpArgs false
set_option maxRecDepth 100000

def oA (L : List Sg) (u : List UInt8) (a b : Nat) (ok : Nat → Bool) (c : Nat) : Nat := if ok c = true then rsN L u a b c else 0
def oL (L : List Sg) (u : List UInt8) (a b : Nat) (ok : Nat → Bool) : List Int := [((oA L u a b ok 0 : Nat) : Int), ((oA L u a b ok 1 : Nat) : Int), ((oA L u a b ok 2 : Nat) : Int)]
theorem oL_at (L : List Sg) (u : List UInt8) (a b : Nat) (ok : Nat → Bool) {c : Nat} (hc : c < 3) : (oL L u a b ok)[c]? = some ((oA L u a b ok c : Nat) : Int) := by
  rcases (show c = 0 ∨ c = 1 ∨ c = 2 by omega) with rfl | rfl | rfl <;> rfl
theorem oA_end {L : List Sg} {u : List UInt8} {a : Nat} (ha : (u.drop a).length = 0) (b : Nat) (ok : Nat → Bool) : (oA L u a b ok 0 = 0 ↔ ok 0 = false) := by
  unfold oA rsN wP
  rw [if_pos ha, if_pos rfl]
  cases ok 0 <;> simp [mn]
theorem exI_mono (L : List Sg) (v : List UInt8) (b : Nat) (ok : Nat → Bool) (k : Nat) : ∀ j, (exI L v b ok (stK L v k)).length ≤ (exI L v b ok (stK L v (k + j))).length
  | 0 => Nat.le_refl _
  | j + 1 => by
    refine Nat.le_trans (exI_mono L v b ok k j) ?_
    rw [show k + (j + 1) = (k + j) + 1 by omega, stK_snoc]
    unfold exI
    rw [List.flatMap_append, List.length_append]
    omega
theorem exI_le {L : List Sg} {v : List UInt8} {b : Nat} {ok : Nat → Bool} {k : Nat} (hk : k ≤ L.length) : (exI L v b ok (stK L v k)).length ≤ (exI L v b ok (stL L v)).length := by
  have := exI_mono L v b ok k (L.length - k)
  rw [show k + (L.length - k) = L.length by omega, stK_all] at this
  exact this
theorem exI_skip {L : List Sg} {v : List UInt8} {b : Nat} {ok : Nat → Bool} {k : Nat} (h : (sgAt L k).t.isPrefixOf v = false) : exI L v b ok (stK L v (k + 1)) = exI L v b ok (stK L v k) := by
  rw [stK_snoc, h]; simp
theorem exI_none {L : List Sg} {u : List UInt8} {a b : Nat} {ok : Nat → Bool} {k : Nat} (hk : k < L.length) (hv : ¬ (u.drop a).length = 0) (h : oA L u a b ok (fsK L k) = 0) : exI L (u.drop a) b ok (stK L (u.drop a) (k + 1)) = exI L (u.drop a) b ok (stK L (u.drop a) k) := by
  rw [stK_snoc]
  split
  · rename_i hp
    rw [exI_snoc]
    split
    · rename_i hok
      have hin : k ∈ stL L (u.drop a) := stL_mem.2 ⟨hk, List.isPrefixOf_iff_prefix.1 hp⟩
      unfold oA at h
      rw [if_pos hok] at h
      unfold rsN at h
      rw [wP_none hv hin (by have := mn_pos (n := wP L (u.drop a) b (fsK L k)); omega), List.append_nil]
    · rw [List.append_nil]
  · rw [List.append_nil]
theorem exI_sign {L : List Sg} (hne : TxNe L) (hs : ∀ i, i < L.length → 0 < (sgAt L i).s.length) {v : List UInt8} {b : Nat} {ok : Nat → Bool} {k : Nat} (hk : k ∈ stL L v) (hok : ok (fsK L k) = true) :
    exI L v b ok (stK L v (k + 1)) = exI L v b ok (stK L v k) ++ (exL L (v.drop (sgAt L k).t.length) (lsK L k) (fun c => whB (sgAt L k).w (exP b) (exP c))).map (k :: ·) := by
  rw [stK_snoc, if_pos (List.isPrefixOf_iff_prefix.2 (stL_mem.1 hk).2), exI_snoc, if_pos hok, exL_sign hne hs hk]
theorem map_pre {p : List Nat} {k : Nat} (l : List (List Nat)) : (l.map (k :: ·)).map (p ++ ·) = l.map ((p ++ [k]) ++ ·) := by
  rw [List.map_map]
  refine List.map_congr_left (fun r _ => ?_)
  show p ++ k :: r = (p ++ [k]) ++ r
  rw [List.append_assoc]; rfl
theorem exI_zero (L : List Sg) (v : List UInt8) (b : Nat) (ok : Nat → Bool) : exI L v b ok (stK L v 0) = [] := rfl
end Go.Proofs.YtjamfcihjendiaaGreat
