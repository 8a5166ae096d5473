/- Contract of the reference's Lines. -/
import Derived.Test.YtpmdfpfbnmoinaaDoorWu
namespace Go.Proofs.YtpmdfpfbnmoinaaDoor
open Go.RowKit
set_option linter.unusedVariables false

theorem Tryd.infoString2 : (Tryd.prog.info? 9).map (fun i => (i.zero, i.size, i.bytes)) = some (some (.string ⟨#[]⟩), 1, 16) := by kernel_rfl
def strsC (L : List (List UInt8)) : List Value := L.map (fun x => Value.string ⟨x.toArray⟩)
theorem strsC_snoc (L : List (List UInt8)) (x : List UInt8) : strsC (L ++ [x]) = strsC L ++ [.string ⟨x.toArray⟩] := by simp [strsC]
theorem one_s (s : ByteArray) : ∀ u ∈ [Value.string s], u.oneCell' = true := by
  intro u hu; simp at hu; subst hu; rfl
theorem new_s (w : World) (t : TypeId) (x : Value) : ∀ (j : Nat) (u : Value), [x][j]? = some u → (w.alloc (.cells #[x] t)).cell? ((⟨w.heap.size, 0, none⟩ : Addr).add j) = some u := by
  intro j u hj
  match j, hj with
  | 0, hj => simp at hj; subst hj; simp [Addr.add]
theorem take_snocB {s : ByteArray} {k : Nat} (h : k < s.size) : s.data.toList.take (k + 1) = s.data.toList.take k ++ [s[k]] := by
  rw [List.take_succ_eq_append_getElem (by rw [sizeB]; exact h)]; rfl
def LRel (s : ByteArray) (w : World) (v f i : Value) (wr : World) : Prop :=
  ∃ (k a : Nat) (L : List (List UInt8)), k ≤ s.size ∧ a ≤ k ∧ i = .int .i64 (k : Int) ∧ f = .int .i64 (a : Int) ∧ splitS (s.data.toList.take k) = (L, (s.data.toList.take k).drop a) ∧ L.length ≤ k ∧
    wr.ownsRow w.heap.size 9 1 v L.length (strsC L) ∧ Below w.heap.size w wr
theorem lrel_cut {s : ByteArray} {w wr w1 : World} {v v' : Value} {o : Obj} {k a : Nat} {L : List (List UInt8)} (hk : k < s.size) (ha : a ≤ k) (hc : (s[k].toNat : Int) = 10)
    (hs : splitS (s.data.toList.take k) = (L, (s.data.toList.take k).drop a)) (hl : L.length ≤ k) (hown : wr.ownsRow w.heap.size 9 1 v L.length (strsC L)) (hb : Below w.heap.size w wr)
    (hown' : w1.ownsRow w.heap.size 9 1 v' (L.length + 1) (strsC L ++ [.string (s.extract a k)])) (hgrow : (wr.alloc o).grownBy w1 v.ownBlock) :
    LRel s w v' (.int .i64 ((k : Int) + 1)) (.int .i64 ((k : Int) + 1)) w1 := by
  have hc' : s[k] = 10 := UInt8.toNat_inj.1 (by have : (10 : UInt8).toNat = 10 := rfl; omega)
  refine ⟨k + 1, k + 1, L ++ [(s.data.toList.take k).drop a], by omega, by omega, by go_num, by go_num, ?_, by simp; omega, ?_, (hb.alloc hb.size o).grown hgrow (by have := hb.size; simp; omega) (fun j hj => (hown.lt j hj).1)⟩
  · rw [take_snocB hk, splitS_snoc, hs, hc']
    unfold stepS
    rw [if_pos rfl]
    have e : List.drop (k + 1) (s.data.toList.take k ++ [10]) = [] := List.drop_eq_nil_of_le (by rw [List.length_append, List.length_take, sizeB, List.length_singleton]; omega)
    rw [e]
  · rw [strsC_snoc]
    have e : (⟨((s.data.toList.take k).drop a).toArray⟩ : ByteArray) = s.extract a k := by
      have h2 : (s.extract a k).data.toList = (s.data.toList.take k).drop a := by rw [List.drop_take]; simp
      rw [← h2]
    rw [e]
    simpa using hown'
theorem lrel_skip {s : ByteArray} {w wr : World} {v : Value} {k a : Nat} {L : List (List UInt8)} (hk : k < s.size) (ha : a ≤ k) (hc : (s[k].toNat : Int) ≠ 10)
    (hs : splitS (s.data.toList.take k) = (L, (s.data.toList.take k).drop a)) (hl : L.length ≤ k) (hown : wr.ownsRow w.heap.size 9 1 v L.length (strsC L)) (hb : Below w.heap.size w wr) :
    LRel s w v (.int .i64 (a : Int)) (.int .i64 ((k : Int) + 1)) wr := by
  have hc' : s[k] ≠ 10 := fun e => hc (by rw [e]; rfl)
  refine ⟨k + 1, a, L, by omega, by omega, by go_num, rfl, ?_, by omega, hown, hb⟩
  rw [take_snocB hk, splitS_snoc, hs]
  unfold stepS
  rw [if_neg hc', List.drop_append_of_le_length (by rw [List.length_take, sizeB]; omega)]

theorem strsC_fOf (L : List (List UInt8)) : strsC L = (List.range L.length).map (fun i => Value.string (fOf L i)) := by
  apply List.ext_getElem
  · simp [strsC]
  · intro i h1 h2
    have hi : i < L.length := by simpa [strsC] using h1
    simp [strsC, fOf, hi]
theorem strs_small {s : ByteArray} {L : List (List UInt8)} (h : (splitS s.data.toList).1 = L) (hs : s.size ≤ 3000) : ∀ i, i < L.length → (fOf L i).size ≤ 140737488355328 := by
  intro i hi
  have h1 : (fOf L i).size = (L[i]'hi).length := by unfold fOf; rw [List.getElem?_eq_getElem hi]; rfl
  have h2 := splitL_small s.data.toList L[i] (by unfold splitL; rw [h]; exact List.mem_append_left _ (List.getElem_mem hi))
  rw [sizeB] at h2
  rw [h1]; omega
theorem rerr_zero {L : List (List UInt8)} (h : rerr L = 0) : ¬ 400 < L.length ∧ ferr L = 0 := by
  unfold rerr at h
  split at h
  · cases h
  · rename_i h1; exact ⟨h1, h⟩
theorem rerr_val {l : List UInt8} {L : List (List UInt8)} {x : Int} (h : l ≠ []) (h1 : l.getLast? = some 10) (hL : (splitS l).1 = L) (hx : rerr L = x) (h0 : x ≠ 0) : linesVal l = ([], x) := by
  subst hL
  unfold rerr at hx
  split at hx
  · rename_i h2; subst hx; exact lv_big h h1 h2
  · rename_i h2; exact lv_err h h1 h2 hx h0
set_option maxHeartbeats 1000000 in
theorem rlines_any (s : ByteArray) (w : World) (hs : s.size ≤ 3000) :
    Calls Tryd.prog 8 #[.string s] w (LinesPost s.data.toList w) := by
  by_cases hs0 : s.size = 0
  · have HE := Lib.hid (lv_empty (empty_of hs0))
    have hx1 : s.toList = [] := by rw [ByteArray.toList_eq]; exact empty_of hs0
    have hx2 : s.toList.isEmpty = true := by rw [hx1]; rfl
    clear hs0 hx1
    go_enter Tryd.func8, Tryd.ntmps8
    go_wp2
    go_ret2
    exact lines_err HE.out (Below.refl _ _)
  · have hne : s.data.toList ≠ [] := nonempty_of hs0
    have hx2 : s.toList.isEmpty = false := by
      rw [ByteArray.toList_eq]
      cases e : s.data.toList with
      | nil => exact absurd e hne
      | cons => rfl
    have hp : 0 < s.size := by omega
    have hlt : s.size - 1 < s.size := by omega
    have hgl : s.data.toList.getLast? = some s[s.size - 1] := by
      rw [List.getLast?_eq_getElem?, sizeB, List.getElem?_eq_getElem (by rw [sizeB]; exact hlt)]
      rfl
    have i1 : (0 : Int) ≤ (s.size : Int) - 1 := by omega
    have i2 : (s.size : Int) - 1 < (s.size : Int) := by omega
    by_cases hlast : s.data.toList.getLast? = some 10
    · have h10 : (s[s.size - 1].toNat : Int) = 10 := by
        rw [hgl] at hlast
        rw [Option.some.inj hlast]; rfl
      have t1 : ((s[s.size - 1].toNat : Int) == 10) = true := by rw [h10]; rfl
      have t2 : ((s[s.size - 1].toNat : Int) != 10) = false := by rw [h10]; rfl
      have HNE := Lib.hid hne
      have HLA := Lib.hid hlast
      clear hne hlast hs0 h10 hgl
      obtain ⟨i0, hi, hz0, hz1, hz2⟩ := info_parts Tryd.infoString2
      go_enter Tryd.func8, Tryd.ntmps8
      go_wp2
      go_loopw [4, 5, 6] (fun v f i wr => LRel s w v f i wr) (fun _ _ i _ => s.size - (intOf i).toNat)
      case atStart => exact ⟨0, 0, [], Nat.zero_le _, Nat.le_refl _, rfl, rfl, rfl, Nat.le_refl _, World.ownsRow_nil _ _ _ _, Below.refl _ _⟩
      case round =>
        obtain ⟨k, a, L, hk, ha, rfl, rfl, hsp, hl, hown, hb⟩ := hrel
        have HSP := Lib.hid hsp
        clear hsp
        by_cases hlt2 : k < s.size
        · have hbt : (s[k].toNat : Int) ≤ 255 := by have := s[k].toNat_lt; omega
          by_cases hc : (s[k].toNat : Int) = 10
          · have u1 : ((s[k].toNat : Int) == 10) = true := by rw [hc]; rfl
            have HC := Lib.hid hc
            clear hc
            go_wp2_with (at_builtin; refine wpList_append_own _ rfl _ _ 23 rfl w.heap.size 9 i0 (.string ⟨#[]⟩) 1 16 Tryd.underlying23 hi hz0 hz1 hz2 rfl (by decide) _ _ _ rfl (hown.alloc _) ⟨wr.heap.size, 0, none⟩ 1 1 [.string (s.extract a k)] rfl rfl (new_s _ _ _) (one_s _) (by unfold maxLen; omega) (by omega) (by have := hb.size; simp; omega) ?_; intro v' w1 hown' hgrow _; have R := Lib.hid (lrel_cut hlt2 ha HC.out HSP.out hl hown hb hown' hgrow); clear hown' hgrow)
            go_roundw
            case rel => exact R.out
            case measure => simp [intOf]; omega
          · have u1 : ((s[k].toNat : Int) == 10) = false := by simpa using hc
            have R := Lib.hid (lrel_skip hlt2 ha hc HSP.out hl hown hb)
            clear hc
            go_wp2
            go_roundw
            case rel => exact R.out
            case measure => simp [intOf]; omega
        · obtain rfl : k = s.size := by omega
          have hS : splitS s.data.toList = (L, s.data.toList.drop a) := by
            have := HSP.out
            rw [List.take_of_length_le (by rw [sizeB]; exact Nat.le_refl _)] at this
            exact this
          have hL : (splitS s.data.toList).1 = L := by rw [hS]
          obtain ⟨A, c, rfl, hnc, hArg⟩ := own_strs (f := fOf L) (by rw [← strsC_fOf]; exact hown) (strs_small hL hs)
          have HARG := Lib.hid hArg
          have HB := Lib.hid hb
          have HL := Lib.hid hL
          obtain ⟨n, hn⟩ : ∃ n, n = L.length := ⟨_, rfl⟩
          have HN := Lib.hid hn
          have hn3 : n ≤ 3000 := by omega
          obtain ⟨x, hx⟩ : ∃ x, x = rerr L := ⟨_, rfl⟩
          have HX := Lib.hid hx
          rw [← hn] at hnc
          clear hS hL hArg hb hown hn hx hl hi hz0 hz1 hz2
          rw [← HN.out]
          go_wp2_with fail
          refine (rerr_any n c (fOf L) A _ (by omega) (by rw [HN.out]; exact HARG.out)).mono ?_
          rintro e w2 ⟨rfl, rfl⟩
          rw [show rerr (lsOf (fOf L) n) = x by rw [HN.out, fOf_lists, HX.out]]
          by_cases hx0 : x = 0
          · subst hx0
            have hz := rerr_zero HX.out.symm
            have HE := Lib.hid (lv_ok HNE.out HLA.out (by rw [HL.out]; exact hz.1) (by rw [HL.out]; exact hz.2))
            clear hz
            go_wp2
            go_ret2
            exact lines_fine HE.out HL.out HN.out (by rw [HN.out]; exact HARG.out) HB.out hnc
          · have HE := Lib.hid (rerr_val HNE.out HLA.out HL.out HX.out.symm hx0)
            have hxf : (x == 0) = false := by simp [hx0]
            have hxf2 : (x != 0) = true := by simp [hx0]
            clear hx0
            go_wp2
            go_ret2
            exact lines_err HE.out HB.out
    · have h10 : (s[s.size - 1].toNat : Int) ≠ 10 := by
        intro e
        refine hlast ?_
        rw [hgl, show s[s.size - 1] = 10 from UInt8.toNat_inj.1 (by have : (10 : UInt8).toNat = 10 := rfl; omega)]
      have t1 : ((s[s.size - 1].toNat : Int) == 10) = false := by simpa using h10
      have t2 : ((s[s.size - 1].toNat : Int) != 10) = true := by simpa using h10
      have HE := Lib.hid (lv_last hne hlast)
      clear hne hlast hs0 hgl h10
      go_enter Tryd.func8, Tryd.ntmps8
      go_wp2
      go_ret2
      exact lines_err HE.out (Below.refl _ _)
end Go.Proofs.YtpmdfpfbnmoinaaDoor
