/- Contract: reading one sound (the program). -/
import Derived.Test.YtfgnekbkcmpdiaaGreatDoorUg
namespace Go.Proofs.YtfgnekbkcmpdiaaGreatDoor
open Go.RowKit
set_option linter.unusedVariables false
set_option linter.unusedSimpArgs false
set_option maxRecDepth 100000

def MaxAt (w : World) : Prop := ∃ m : Int, w.cell? ⟨0, 0, none⟩ = some (.int .i64 m)
theorem MaxAt.below {w w' : World} (h : MaxAt w) (hb : Below w.heap.size w w') : MaxAt w' := by
  obtain ⟨m, hm⟩ := h
  exact ⟨m, (hb.cell (p := ⟨0, 0, none⟩) (World.block_lt_of_cell? _ _ hm)).trans hm⟩
/-- The block of a sound that a function returns, as it is at the start. -/
def KeptS (g : Nat) (w : World) : Prop := w.heap[g]? = some (.cells #[.int .i64 0, .int .i64 0, .string ⟨#[]⟩] 31 (0, 0))
theorem KeptS.facts {g : Nat} {w : World} (h : KeptS g w) : w.cell? ⟨g, 0, none⟩ = some (.int .i64 0) ∧ w.cell? ⟨g, 1, none⟩ = some (.int .i64 0) ∧ w.cell? ⟨g, 2, none⟩ = some (.string ⟨#[]⟩) ∧ w.frozen? ⟨g, 0, none⟩ = false ∧ w.frozen? ⟨g, 1, none⟩ = false ∧ w.frozen? ⟨g, 2, none⟩ = false ∧ g < w.heap.size := by
  unfold KeptS at h
  refine ⟨?_, ?_, ?_, by simp [World.frozen?, h], by simp [World.frozen?, h], by simp [World.frozen?, h], (Array.getElem?_eq_some_iff.1 h).1⟩
  · rw [cell_of_row w _ 0 _ _ _ h]; rfl
  · rw [cell_of_row w _ 1 _ _ _ h]; rfl
  · rw [cell_of_row w _ 2 _ _ _ h]; rfl
theorem KeptS.go {g : Nat} {w w' : World} (h : KeptS g w) (hb : Below w.heap.size w w') : KeptS g w' := by
  unfold KeptS at *
  rw [hb.block _ (Array.getElem?_eq_some_iff.1 h).1]; exact h
theorem keptS_new (w : World) : KeptS w.heap.size (w.alloc (.cells #[.int .i64 0, .int .i64 0, .string ⟨#[]⟩] 31)) := heap_alloc_new w _
theorem bset {w v : World} (h : Below w.heap.size w v) (i : Nat) (a : Value) : Below w.heap.size w (v.setCell ⟨w.heap.size, i, none⟩ a) := h.setCell (p := ⟨w.heap.size, i, none⟩) (Nat.le_refl _) a
theorem bset3 {w v : World} (h : Below w.heap.size w v) (a b c : Value) : Below w.heap.size w (((v.setCell ⟨w.heap.size, 0, none⟩ a).setCell ⟨w.heap.size, 1, none⟩ b).setCell ⟨w.heap.size, 2, none⟩ c) := bset (bset (bset h 0 a) 1 b) 2 c
/-- A call that reads one sound. -/
def RdPost (l : List UInt8) (w : World) (e : Ending) (w' : World) : Prop :=
  ∃ (y : Snd) (b : Bool), e = .returned (.tuple #[.agg #[.int .i64 y.k, .int .i64 y.q, .string (bs y.t)], .bool b]) ∧ ((b = true ∧ rdV l = some y) ∨ (b = false ∧ rdV l = none)) ∧ Below w.heap.size w w'
theorem rd_no {l : List UInt8} {w w' : World} (h : rdV l = none) (hb : Below w.heap.size w w') : RdPost l w (.returned (.tuple #[.agg #[.int .i64 0, .int .i64 0, .string ⟨#[]⟩], .bool false])) w' := ⟨⟨0, 0, []⟩, false, rfl, .inr ⟨rfl, h⟩, hb⟩
theorem rd_yes {l : List UInt8} {x : Snd} {w w' : World} (h : rdV l = some x) (hb : Below w.heap.size w w') : RdPost l w (.returned (.tuple #[.agg #[.int .i64 x.k, .int .i64 x.q, .string (bs x.t)], .bool true])) w' := ⟨x, true, rfl, .inl ⟨rfl, h⟩, hb⟩
theorem cut_is : ∀ l : List UInt8, (Lib.cut l [47]).1 = hdS l ∧ (Lib.cut l [47]).2.1 = tlS l := by
  intro l
  have key : ∀ l : List UInt8, (Lib.indexByte l 47 = -1 → hdS l = l ∧ tlS l = []) ∧ (∀ i : Nat, Lib.indexByte l 47 = (i : Int) → hdS l = l.take i ∧ tlS l = l.drop (i + 1)) := by
    intro l
    induction l with
    | nil => exact ⟨fun _ => ⟨rfl, rfl⟩, fun i h => by simp [Lib.indexByte] at h⟩
    | cons b r ih =>
      by_cases hb : b = 47
      · subst hb
        have e0 : Lib.indexByte (47 :: r) 47 = 0 := by simp [Lib.indexByte]
        refine ⟨fun h => (by rw [e0] at h; cases h), fun i h => ?_⟩
        rw [e0] at h
        obtain rfl : i = 0 := by omega
        exact ⟨rfl, rfl⟩
      · have hbb : (b != 47) = true := by simpa using hb
        have e1 : hdS (b :: r) = b :: hdS r := by unfold hdS; rw [List.takeWhile_cons_of_pos (p := (· != 47)) hbb]
        have e2 : tlS (b :: r) = tlS r := by unfold tlS; rw [List.dropWhile_cons_of_pos (p := (· != 47)) hbb]
        have e3 : Lib.indexByte (b :: r) 47 = if Lib.indexByte r 47 == -1 then -1 else Lib.indexByte r 47 + 1 := by
          conv => lhs; unfold Lib.indexByte
          rw [if_neg (by simpa using hb)]
        refine ⟨fun h => ?_, fun i h => ?_⟩
        · rw [e3] at h
          have hr : Lib.indexByte r 47 = -1 := by
            by_cases hr : Lib.indexByte r 47 = -1
            · exact hr
            · rw [if_neg (by simpa using hr)] at h
              have := Lib.indexByte_ge r 47
              omega
          rw [e1, e2, (ih.1 hr).1, (ih.1 hr).2]; exact ⟨rfl, rfl⟩
        · rw [e3] at h
          by_cases hr : Lib.indexByte r 47 = -1
          · rw [if_pos (by simpa using hr)] at h; omega
          · rw [if_neg (by simpa using hr)] at h
            obtain ⟨j, hj⟩ := Int.eq_ofNat_of_zero_le (show 0 ≤ Lib.indexByte r 47 by have := Lib.indexByte_ge r 47; omega)
            obtain ⟨a, c⟩ := ih.2 j hj
            obtain rfl : i = j + 1 := by omega
            rw [e1, e2, a, c]; exact ⟨rfl, rfl⟩
  have hi : Lib.index l [47] = Lib.indexByte l 47 := Lib.index_one l 47
  unfold Lib.cut
  rw [hi]
  by_cases h : 0 ≤ Lib.indexByte l 47
  · rw [if_pos h]
    obtain ⟨i, hi⟩ := Int.eq_ofNat_of_zero_le h
    obtain ⟨a, c⟩ := (key l).2 i hi
    rw [hi, a, c]
    exact ⟨rfl, rfl⟩
  · rw [if_neg h]
    obtain ⟨a, c⟩ := (key l).1 (by have := Lib.indexByte_ge l 47; omega)
    rw [a, c]; exact ⟨rfl, rfl⟩
theorem hd_len (l : List UInt8) : (hdS l).length ≤ l.length := by unfold hdS; exact (List.takeWhile_sublist _).length_le
theorem tl_len (l : List UInt8) : (tlS l).length ≤ l.length := by unfold tlS; rw [List.length_drop]; have := (List.dropWhile_sublist (l := l) (· != 47)).length_le; omega
theorem byte_back (c : UInt8) : ((c.toNat : Int)).toNat.toUInt8 = c := by simp
theorem kOf_le (c : UInt8) : Lib.indexByte ltrs c ≤ 8 := by
  by_cases h : 1 ≤ kOf c
  · have := (ltr_kOf h).2; unfold kOf at this; omega
  · unfold kOf at h; omega
theorem empty_bs {s : ByteArray} (h : s.size = 0) : s.toList = [] ∧ s.toList.isEmpty = true := by
  have e : s.data.toList = [] := List.eq_nil_of_length_eq_zero h
  rw [ByteArray.toList_eq, e]; exact ⟨rfl, rfl⟩
theorem full_bs {s : ByteArray} (h : 0 < s.size) : s.toList.isEmpty = false := by
  rw [ByteArray.toList_eq]
  cases e : s.data.toList with
  | nil => rw [← sizeB, e] at h; cases h
  | cons c l => rfl
theorem getD_b {r : ByteArray} {l : List UInt8} (h : r.data.toList = l) {i : Nat} (hi : i < r.size) : l.getD i 0 = r[i] := by
  rw [← h, List.getD_eq_getElem?_getD, List.getElem?_eq_getElem (by rw [sizeB]; exact hi)]; rfl
set_option maxHeartbeats 8000000 in
theorem read_none (p : ByteArray) (w : World) (hs : p.size ≤ 4000) (hm : MaxAt w) (h0 : tlS p.data.toList = []) :
    Calls Tryz.prog 83 #[.string p] w (RdPost p.data.toList w) := by
  obtain ⟨r, hr⟩ : ∃ r : ByteArray, r = bs (tlS p.data.toList) := ⟨_, rfl⟩
  obtain ⟨t, ht⟩ : ∃ t, t = hdS p.data.toList := ⟨_, rfl⟩
  have htl : t.length ≤ 4000 := by rw [ht]; have := hd_len p.data.toList; rw [sizeB] at this; omega
  have hrl : r.size ≤ 4000 := by rw [hr, bs_size]; have := tl_len p.data.toList; rw [sizeB] at this; omega
  have hrs : r.size = (tlS p.data.toList).length := by rw [hr]; rfl
  have HR := Lib.hid hr
  have HT := Lib.hid ht
  have CT := Lib.hid (show (⟨(Lib.cut p.data.toList (⟨#[47]⟩ : ByteArray).data.toList).1.toArray⟩ : ByteArray) = bs t by rw [ht, ← (cut_is p.data.toList).1]; rfl)
  have CR := Lib.hid (show (⟨(Lib.cut p.data.toList (⟨#[47]⟩ : ByteArray).data.toList).2.1.toArray⟩ : ByteArray) = r by rw [hr, ← (cut_is p.data.toList).2]; rfl)
  obtain ⟨m, hm⟩ := hm
  have hbn := bnew w (.cells #[.int .i64 0, .int .i64 0, .string ⟨#[]⟩] 31)
  have hm1 := (hbn.cell (p := ⟨0, 0, none⟩) (World.block_lt_of_cell? _ _ hm)).trans hm
  have K0 := Lib.hid (keptS_new w)
  have HE := Lib.hid (rd_empty h0)
  have hr0 : r.size = 0 := by rw [hrs, h0]; rfl
  have hx := empty_bs hr0
  clear hr ht hrs h0 hm hbn
  go_enter Tryz.func83, Tryz.ntmps83
  go_wp2_with fail
  refine (Tryz.strings_Cut p (⟨#[47]⟩ : ByteArray) m _ (by omega) hm1).mono ?_
  rintro e w1 ⟨rfl, n1, hw1⟩
  rw [CT.out, CR.out]
  have hbw := bdrewN (w.alloc (.cells #[.int .i64 0, .int .i64 0, .string ⟨#[]⟩] 31)) n1
  rw [← hw1] at hbw
  have B1 := Lib.hid (btwo (bnew w _) hbw)
  have K1 := Lib.hid (K0.out.go hbw)
  clear hw1 hbw hm1
  obtain ⟨k0, k1, k2, k3, k4, k5, k6⟩ := K1.out.facts
  go_wp2_with fail
  exact bodyPost_ret (v := .tuple #[.agg #[.int .i64 0, .int .i64 0, .string ⟨#[]⟩], .bool false]) (by simp [results, Tryz.results83, go_sem, k0, k1, k2]) rfl (rd_no HE.out (bset3 B1.out _ _ _))
set_option maxHeartbeats 8000000 in
theorem read_onebad (p : ByteArray) (w : World) (hs : p.size ≤ 4000) (hm : MaxAt w) (h0 : tlS p.data.toList ≠ []) (h2 : (tlS p.data.toList).length ≠ 2) (hv : vS (cand p.data.toList) ≠ 0) :
    Calls Tryz.prog 83 #[.string p] w (RdPost p.data.toList w) := by
  obtain ⟨r, hr⟩ : ∃ r : ByteArray, r = bs (tlS p.data.toList) := ⟨_, rfl⟩
  obtain ⟨t, ht⟩ : ∃ t, t = hdS p.data.toList := ⟨_, rfl⟩
  have htl : t.length ≤ 4000 := by rw [ht]; have := hd_len p.data.toList; rw [sizeB] at this; omega
  have hrl : r.size ≤ 4000 := by rw [hr, bs_size]; have := tl_len p.data.toList; rw [sizeB] at this; omega
  have hrs : r.size = (tlS p.data.toList).length := by rw [hr]; rfl
  have HR := Lib.hid hr
  have HT := Lib.hid ht
  have CT := Lib.hid (show (⟨(Lib.cut p.data.toList (⟨#[47]⟩ : ByteArray).data.toList).1.toArray⟩ : ByteArray) = bs t by rw [ht, ← (cut_is p.data.toList).1]; rfl)
  have CR := Lib.hid (show (⟨(Lib.cut p.data.toList (⟨#[47]⟩ : ByteArray).data.toList).2.1.toArray⟩ : ByteArray) = r by rw [hr, ← (cut_is p.data.toList).2]; rfl)
  obtain ⟨m, hm⟩ := hm
  have hbn := bnew w (.cells #[.int .i64 0, .int .i64 0, .string ⟨#[]⟩] 31)
  have hm1 := (hbn.cell (p := ⟨0, 0, none⟩) (World.block_lt_of_cell? _ _ hm)).trans hm
  have hpos : 0 < r.size := by
    rw [hrs]
    cases e : tlS p.data.toList with
    | nil => exact absurd e h0
    | cons c l => simp
  have hx := full_bs hpos
  have hrd : r.data.toList = tlS p.data.toList := by rw [hr, bs_list]
  obtain ⟨z, hz⟩ : ∃ z, z = Lib.indexByte ltrs r[0] := ⟨_, rfl⟩
  have hz0 : -1 ≤ z := by rw [hz]; exact Lib.indexByte_ge _ _
  have hz1 : z ≤ 8 := by rw [hz]; exact kOf_le _
  have HZ := Lib.hid (show Lib.indexByte (⟨#[118, 100, 109, 108, 110, 115, 120, 103, 98]⟩ : ByteArray).data.toList ((r[0].toNat : Int)).toNat.toUInt8 = z by rw [byte_back, hz]; rfl)
  have hcand : cand p.data.toList = ⟨z + 1, 0, t⟩ := by
    unfold cand
    rw [if_neg h2, getD_b hrd hpos, ht, hz]
    rfl
  have K0 := Lib.hid (keptS_new w)
  have HE := Lib.hid (rd_inv hv)
  obtain ⟨v, hvv⟩ : ∃ v, v = vS ⟨z + 1, 0, t⟩ := ⟨_, rfl⟩
  have hv0 : (v != 0) = true := by rw [bne_iff_ne, hvv, ← hcand]; exact hv
  have HV := Lib.hid hvv
  have HC := Lib.hid hcand
  have e2 : ((r.size : Int) == 2) = false := by rw [beq_eq_false_iff_ne]; intro e; exact h2 (by rw [← hrs]; omega)
  have hb0 : (r[0].toNat : Int) ≤ 255 := by have := r[0].toNat_lt; omega
  clear hr ht hrs h0 h2 hrd hz hcand hvv hv hm hbn
  go_enter Tryz.func83, Tryz.ntmps83
  go_wp2_with fail
  refine (Tryz.strings_Cut p (⟨#[47]⟩ : ByteArray) m _ (by omega) hm1).mono ?_
  rintro e w1 ⟨rfl, n1, hw1⟩
  rw [CT.out, CR.out]
  have hbw := bdrewN (w.alloc (.cells #[.int .i64 0, .int .i64 0, .string ⟨#[]⟩] 31)) n1
  rw [← hw1] at hbw
  have B1 := Lib.hid (btwo (bnew w _) hbw)
  have K1 := Lib.hid (K0.out.go hbw)
  clear hw1 hbw hm1
  go_wp2_with fail
  refine (idxb_any _ _ _).mono ?_
  rintro e w2 ⟨rfl, hw2⟩
  obtain rfl : w1 = w2 := hw2
  rw [HZ.out]
  obtain ⟨g, hg⟩ : ∃ g, g = w1.heap.size := ⟨_, rfl⟩
  obtain ⟨W, hW⟩ : ∃ W, W = w1.alloc (.cells #[.int .i64 (z + 1), .int .i64 0, .string (bs t)] 31) := ⟨_, rfl⟩
  have BC := Lib.hid (show W.cell? ⟨g, 0, none⟩ = some (.int .i64 (z + 1)) ∧ W.cell? ⟨g, 1, none⟩ = some (.int .i64 0) ∧ W.cell? ⟨g, 2, none⟩ = some (.string (bs t)) by rw [hW, hg]; exact box_cells w1 ⟨z + 1, 0, t⟩)
  have B2 := Lib.hid (show Below w.heap.size w W by rw [hW]; exact btwo B1.out (bnew _ _))
  have K2 := Lib.hid (show KeptS w.heap.size W by rw [hW]; exact K1.out.go (bnew _ _))
  have hgl : g < W.heap.size := by rw [hW, hg]; simp
  have HW := Lib.hid hW
  have HG := Lib.hid hg
  clear hW hg
  go_wp2_with fail
  rw [← HW.out, ← HG.out]
  refine (valid_any ⟨z + 1, 0, t⟩ _ (show t.length ≤ _ by omega)).mono ?_
  rintro e w3 ⟨rfl, hb3⟩
  rw [← HV.out]
  have B3 := Lib.hid (btwo B2.out hb3)
  have K3 := Lib.hid (K2.out.go hb3)
  have BC3 := Lib.hid (kept_cells BC.out hgl hb3)
  have hgl3 : g < w3.heap.size := Nat.lt_of_lt_of_le hgl hb3.size
  clear hb3
  obtain ⟨k0, k1, k2, k3, k4, k5, k6⟩ := K3.out.facts
  go_wp2_with fail
  exact bodyPost_ret (v := .tuple #[.agg #[.int .i64 0, .int .i64 0, .string ⟨#[]⟩], .bool false]) (by simp [results, Tryz.results83, go_sem, k0, k1, k2]) rfl (rd_no HE.out (bset3 B3.out _ _ _))
set_option maxHeartbeats 8000000 in
theorem read_onediff (p : ByteArray) (w : World) (hs : p.size ≤ 4000) (hm : MaxAt w) (h0 : tlS p.data.toList ≠ []) (h2 : (tlS p.data.toList).length ≠ 2) (hv : vS (cand p.data.toList) = 0) (hd : tx1 (cand p.data.toList) ≠ p.data.toList) :
    Calls Tryz.prog 83 #[.string p] w (RdPost p.data.toList w) := by
  obtain ⟨r, hr⟩ : ∃ r : ByteArray, r = bs (tlS p.data.toList) := ⟨_, rfl⟩
  obtain ⟨t, ht⟩ : ∃ t, t = hdS p.data.toList := ⟨_, rfl⟩
  have htl : t.length ≤ 4000 := by rw [ht]; have := hd_len p.data.toList; rw [sizeB] at this; omega
  have hrl : r.size ≤ 4000 := by rw [hr, bs_size]; have := tl_len p.data.toList; rw [sizeB] at this; omega
  have hrs : r.size = (tlS p.data.toList).length := by rw [hr]; rfl
  have HR := Lib.hid hr
  have HT := Lib.hid ht
  have CT := Lib.hid (show (⟨(Lib.cut p.data.toList (⟨#[47]⟩ : ByteArray).data.toList).1.toArray⟩ : ByteArray) = bs t by rw [ht, ← (cut_is p.data.toList).1]; rfl)
  have CR := Lib.hid (show (⟨(Lib.cut p.data.toList (⟨#[47]⟩ : ByteArray).data.toList).2.1.toArray⟩ : ByteArray) = r by rw [hr, ← (cut_is p.data.toList).2]; rfl)
  obtain ⟨m, hm⟩ := hm
  have hbn := bnew w (.cells #[.int .i64 0, .int .i64 0, .string ⟨#[]⟩] 31)
  have hm1 := (hbn.cell (p := ⟨0, 0, none⟩) (World.block_lt_of_cell? _ _ hm)).trans hm
  have hpos : 0 < r.size := by
    rw [hrs]
    cases e : tlS p.data.toList with
    | nil => exact absurd e h0
    | cons c l => simp
  have hx := full_bs hpos
  have hrd : r.data.toList = tlS p.data.toList := by rw [hr, bs_list]
  obtain ⟨z, hz⟩ : ∃ z, z = Lib.indexByte ltrs r[0] := ⟨_, rfl⟩
  have hz0 : -1 ≤ z := by rw [hz]; exact Lib.indexByte_ge _ _
  have hz1 : z ≤ 8 := by rw [hz]; exact kOf_le _
  have HZ := Lib.hid (show Lib.indexByte (⟨#[118, 100, 109, 108, 110, 115, 120, 103, 98]⟩ : ByteArray).data.toList ((r[0].toNat : Int)).toNat.toUInt8 = z by rw [byte_back, hz]; rfl)
  have hcand : cand p.data.toList = ⟨z + 1, 0, t⟩ := by
    unfold cand
    rw [if_neg h2, getD_b hrd hpos, ht, hz]
    rfl
  have K0 := Lib.hid (keptS_new w)
  have HE := Lib.hid (rd_other hd)
  obtain ⟨v, hvv⟩ : ∃ v, v = vS ⟨z + 1, 0, t⟩ := ⟨_, rfl⟩
  have hv0 : (v != 0) = false := by rw [bne_eq_false_iff_eq, hvv, ← hcand]; exact hv
  have hwv : vS ⟨z + 1, 0, t⟩ = 0 := by rw [← hcand]; exact hv
  have e9 : ((bs (tx1 ⟨z + 1, 0, t⟩)).toList != p.toList) = true := by
    rw [bne_iff_ne, ByteArray.toList_eq, ByteArray.toList_eq, bs_list, ← hcand]; exact hd
  have e8 : ((bs (tx1 ⟨z + 1, 0, t⟩)).toList == p.toList) = false := by
    rw [beq_eq_false_iff_ne, ByteArray.toList_eq, ByteArray.toList_eq, bs_list, ← hcand]; exact hd
  have HV := Lib.hid hvv
  have HWV := Lib.hid hwv
  have HC := Lib.hid hcand
  have e2 : ((r.size : Int) == 2) = false := by rw [beq_eq_false_iff_ne]; intro e; exact h2 (by rw [← hrs]; omega)
  have hb0 : (r[0].toNat : Int) ≤ 255 := by have := r[0].toNat_lt; omega
  clear hr ht hrs h0 h2 hrd hz hcand hvv hv hd hwv hm hbn
  go_enter Tryz.func83, Tryz.ntmps83
  go_wp2_with fail
  refine (Tryz.strings_Cut p (⟨#[47]⟩ : ByteArray) m _ (by omega) hm1).mono ?_
  rintro e w1 ⟨rfl, n1, hw1⟩
  rw [CT.out, CR.out]
  have hbw := bdrewN (w.alloc (.cells #[.int .i64 0, .int .i64 0, .string ⟨#[]⟩] 31)) n1
  rw [← hw1] at hbw
  have B1 := Lib.hid (btwo (bnew w _) hbw)
  have K1 := Lib.hid (K0.out.go hbw)
  clear hw1 hbw hm1
  go_wp2_with fail
  refine (idxb_any _ _ _).mono ?_
  rintro e w2 ⟨rfl, hw2⟩
  obtain rfl : w1 = w2 := hw2
  rw [HZ.out]
  obtain ⟨g, hg⟩ : ∃ g, g = w1.heap.size := ⟨_, rfl⟩
  obtain ⟨W, hW⟩ : ∃ W, W = w1.alloc (.cells #[.int .i64 (z + 1), .int .i64 0, .string (bs t)] 31) := ⟨_, rfl⟩
  have BC := Lib.hid (show W.cell? ⟨g, 0, none⟩ = some (.int .i64 (z + 1)) ∧ W.cell? ⟨g, 1, none⟩ = some (.int .i64 0) ∧ W.cell? ⟨g, 2, none⟩ = some (.string (bs t)) by rw [hW, hg]; exact box_cells w1 ⟨z + 1, 0, t⟩)
  have B2 := Lib.hid (show Below w.heap.size w W by rw [hW]; exact btwo B1.out (bnew _ _))
  have K2 := Lib.hid (show KeptS w.heap.size W by rw [hW]; exact K1.out.go (bnew _ _))
  have hgl : g < W.heap.size := by rw [hW, hg]; simp
  have HW := Lib.hid hW
  have HG := Lib.hid hg
  clear hW hg
  go_wp2_with fail
  rw [← HW.out, ← HG.out]
  refine (valid_any ⟨z + 1, 0, t⟩ _ (show t.length ≤ _ by omega)).mono ?_
  rintro e w3 ⟨rfl, hb3⟩
  rw [← HV.out]
  have B3 := Lib.hid (btwo B2.out hb3)
  have K3 := Lib.hid (K2.out.go hb3)
  have BC3 := Lib.hid (kept_cells BC.out hgl hb3)
  have hgl3 : g < w3.heap.size := Nat.lt_of_lt_of_le hgl hb3.size
  clear hb3
  obtain ⟨b0, b1, b2⟩ := BC3.out
  go_wp2_with fail
  refine (written_any ⟨z + 1, 0, t⟩ _ HWV.out).mono ?_
  rintro e w4 ⟨rfl, hb4⟩
  have B4 := Lib.hid (btwo B3.out hb4)
  obtain ⟨k0, k1, k2, k3, k4, k5, k6⟩ := (K3.out.go hb4).facts
  obtain ⟨a0, a1, a2⟩ := kept_cells BC3.out hgl3 hb4
  clear hb4
  go_wp2_with fail
  exact bodyPost_ret (v := .tuple #[.agg #[.int .i64 0, .int .i64 0, .string ⟨#[]⟩], .bool false]) (by simp [results, Tryz.results83, go_sem, k0, k1, k2]) rfl (rd_no HE.out (bset3 B4.out _ _ _))
set_option maxHeartbeats 8000000 in
theorem read_onesame (p : ByteArray) (w : World) (hs : p.size ≤ 4000) (hm : MaxAt w) (h0 : tlS p.data.toList ≠ []) (h2 : (tlS p.data.toList).length ≠ 2) (hv : vS (cand p.data.toList) = 0) (hd : tx1 (cand p.data.toList) = p.data.toList) :
    Calls Tryz.prog 83 #[.string p] w (RdPost p.data.toList w) := by
  obtain ⟨r, hr⟩ : ∃ r : ByteArray, r = bs (tlS p.data.toList) := ⟨_, rfl⟩
  obtain ⟨t, ht⟩ : ∃ t, t = hdS p.data.toList := ⟨_, rfl⟩
  have htl : t.length ≤ 4000 := by rw [ht]; have := hd_len p.data.toList; rw [sizeB] at this; omega
  have hrl : r.size ≤ 4000 := by rw [hr, bs_size]; have := tl_len p.data.toList; rw [sizeB] at this; omega
  have hrs : r.size = (tlS p.data.toList).length := by rw [hr]; rfl
  have HR := Lib.hid hr
  have HT := Lib.hid ht
  have CT := Lib.hid (show (⟨(Lib.cut p.data.toList (⟨#[47]⟩ : ByteArray).data.toList).1.toArray⟩ : ByteArray) = bs t by rw [ht, ← (cut_is p.data.toList).1]; rfl)
  have CR := Lib.hid (show (⟨(Lib.cut p.data.toList (⟨#[47]⟩ : ByteArray).data.toList).2.1.toArray⟩ : ByteArray) = r by rw [hr, ← (cut_is p.data.toList).2]; rfl)
  obtain ⟨m, hm⟩ := hm
  have hbn := bnew w (.cells #[.int .i64 0, .int .i64 0, .string ⟨#[]⟩] 31)
  have hm1 := (hbn.cell (p := ⟨0, 0, none⟩) (World.block_lt_of_cell? _ _ hm)).trans hm
  have hpos : 0 < r.size := by
    rw [hrs]
    cases e : tlS p.data.toList with
    | nil => exact absurd e h0
    | cons c l => simp
  have hx := full_bs hpos
  have hrd : r.data.toList = tlS p.data.toList := by rw [hr, bs_list]
  obtain ⟨z, hz⟩ : ∃ z, z = Lib.indexByte ltrs r[0] := ⟨_, rfl⟩
  have hz0 : -1 ≤ z := by rw [hz]; exact Lib.indexByte_ge _ _
  have hz1 : z ≤ 8 := by rw [hz]; exact kOf_le _
  have HZ := Lib.hid (show Lib.indexByte (⟨#[118, 100, 109, 108, 110, 115, 120, 103, 98]⟩ : ByteArray).data.toList ((r[0].toNat : Int)).toNat.toUInt8 = z by rw [byte_back, hz]; rfl)
  have hcand : cand p.data.toList = ⟨z + 1, 0, t⟩ := by
    unfold cand
    rw [if_neg h2, getD_b hrd hpos, ht, hz]
    rfl
  have K0 := Lib.hid (keptS_new w)
  have HE := Lib.hid (show rdV p.data.toList = some ⟨z + 1, 0, t⟩ by rw [← hcand]; exact rd_cand hv hd)
  obtain ⟨v, hvv⟩ : ∃ v, v = vS ⟨z + 1, 0, t⟩ := ⟨_, rfl⟩
  have hv0 : (v != 0) = false := by rw [bne_eq_false_iff_eq, hvv, ← hcand]; exact hv
  have hwv : vS ⟨z + 1, 0, t⟩ = 0 := by rw [← hcand]; exact hv
  have e9 : ((bs (tx1 ⟨z + 1, 0, t⟩)).toList != p.toList) = false := by
    rw [bne_eq_false_iff_eq, ByteArray.toList_eq, ByteArray.toList_eq, bs_list, ← hcand]; exact hd
  have e8 : ((bs (tx1 ⟨z + 1, 0, t⟩)).toList == p.toList) = true := by
    rw [beq_iff_eq, ByteArray.toList_eq, ByteArray.toList_eq, bs_list, ← hcand]; exact hd
  have HV := Lib.hid hvv
  have HWV := Lib.hid hwv
  have HC := Lib.hid hcand
  have e2 : ((r.size : Int) == 2) = false := by rw [beq_eq_false_iff_ne]; intro e; exact h2 (by rw [← hrs]; omega)
  have hb0 : (r[0].toNat : Int) ≤ 255 := by have := r[0].toNat_lt; omega
  clear hr ht hrs h0 h2 hrd hz hcand hvv hv hd hwv hm hbn
  go_enter Tryz.func83, Tryz.ntmps83
  go_wp2_with fail
  refine (Tryz.strings_Cut p (⟨#[47]⟩ : ByteArray) m _ (by omega) hm1).mono ?_
  rintro e w1 ⟨rfl, n1, hw1⟩
  rw [CT.out, CR.out]
  have hbw := bdrewN (w.alloc (.cells #[.int .i64 0, .int .i64 0, .string ⟨#[]⟩] 31)) n1
  rw [← hw1] at hbw
  have B1 := Lib.hid (btwo (bnew w _) hbw)
  have K1 := Lib.hid (K0.out.go hbw)
  clear hw1 hbw hm1
  go_wp2_with fail
  refine (idxb_any _ _ _).mono ?_
  rintro e w2 ⟨rfl, hw2⟩
  obtain rfl : w1 = w2 := hw2
  rw [HZ.out]
  obtain ⟨g, hg⟩ : ∃ g, g = w1.heap.size := ⟨_, rfl⟩
  obtain ⟨W, hW⟩ : ∃ W, W = w1.alloc (.cells #[.int .i64 (z + 1), .int .i64 0, .string (bs t)] 31) := ⟨_, rfl⟩
  have BC := Lib.hid (show W.cell? ⟨g, 0, none⟩ = some (.int .i64 (z + 1)) ∧ W.cell? ⟨g, 1, none⟩ = some (.int .i64 0) ∧ W.cell? ⟨g, 2, none⟩ = some (.string (bs t)) by rw [hW, hg]; exact box_cells w1 ⟨z + 1, 0, t⟩)
  have B2 := Lib.hid (show Below w.heap.size w W by rw [hW]; exact btwo B1.out (bnew _ _))
  have K2 := Lib.hid (show KeptS w.heap.size W by rw [hW]; exact K1.out.go (bnew _ _))
  have hgl : g < W.heap.size := by rw [hW, hg]; simp
  have HW := Lib.hid hW
  have HG := Lib.hid hg
  clear hW hg
  go_wp2_with fail
  rw [← HW.out, ← HG.out]
  refine (valid_any ⟨z + 1, 0, t⟩ _ (show t.length ≤ _ by omega)).mono ?_
  rintro e w3 ⟨rfl, hb3⟩
  rw [← HV.out]
  have B3 := Lib.hid (btwo B2.out hb3)
  have K3 := Lib.hid (K2.out.go hb3)
  have BC3 := Lib.hid (kept_cells BC.out hgl hb3)
  have hgl3 : g < w3.heap.size := Nat.lt_of_lt_of_le hgl hb3.size
  clear hb3
  obtain ⟨b0, b1, b2⟩ := BC3.out
  go_wp2_with fail
  refine (written_any ⟨z + 1, 0, t⟩ _ HWV.out).mono ?_
  rintro e w4 ⟨rfl, hb4⟩
  have B4 := Lib.hid (btwo B3.out hb4)
  obtain ⟨k0, k1, k2, k3, k4, k5, k6⟩ := (K3.out.go hb4).facts
  obtain ⟨a0, a1, a2⟩ := kept_cells BC3.out hgl3 hb4
  clear hb4
  go_wp2_with fail
  exact bodyPost_ret (v := .tuple #[.agg #[.int .i64 (z + 1), .int .i64 0, .string (bs t)], .bool true]) (by simp [results, Tryz.results83, go_sem, k0, k1, k2]) rfl (rd_yes HE.out (bset3 B4.out _ _ _))
set_option maxHeartbeats 8000000 in
theorem read_twobad (p : ByteArray) (w : World) (hs : p.size ≤ 4000) (hm : MaxAt w) (h0 : tlS p.data.toList ≠ []) (h2 : (tlS p.data.toList).length = 2) (hv : vS (cand p.data.toList) ≠ 0) :
    Calls Tryz.prog 83 #[.string p] w (RdPost p.data.toList w) := by
  obtain ⟨r, hr⟩ : ∃ r : ByteArray, r = bs (tlS p.data.toList) := ⟨_, rfl⟩
  obtain ⟨t, ht⟩ : ∃ t, t = hdS p.data.toList := ⟨_, rfl⟩
  have htl : t.length ≤ 4000 := by rw [ht]; have := hd_len p.data.toList; rw [sizeB] at this; omega
  have hrl : r.size ≤ 4000 := by rw [hr, bs_size]; have := tl_len p.data.toList; rw [sizeB] at this; omega
  have hrs : r.size = (tlS p.data.toList).length := by rw [hr]; rfl
  have HR := Lib.hid hr
  have HT := Lib.hid ht
  have CT := Lib.hid (show (⟨(Lib.cut p.data.toList (⟨#[47]⟩ : ByteArray).data.toList).1.toArray⟩ : ByteArray) = bs t by rw [ht, ← (cut_is p.data.toList).1]; rfl)
  have CR := Lib.hid (show (⟨(Lib.cut p.data.toList (⟨#[47]⟩ : ByteArray).data.toList).2.1.toArray⟩ : ByteArray) = r by rw [hr, ← (cut_is p.data.toList).2]; rfl)
  obtain ⟨m, hm⟩ := hm
  have hbn := bnew w (.cells #[.int .i64 0, .int .i64 0, .string ⟨#[]⟩] 31)
  have hm1 := (hbn.cell (p := ⟨0, 0, none⟩) (World.block_lt_of_cell? _ _ hm)).trans hm
  have hpos : 0 < r.size := by
    rw [hrs]
    cases e : tlS p.data.toList with
    | nil => exact absurd e h0
    | cons c l => simp
  have hx := full_bs hpos
  have hrd : r.data.toList = tlS p.data.toList := by rw [hr, bs_list]
  have h1r : 1 < r.size := by rw [hrs, h2]; decide
  obtain ⟨c, hc⟩ : ∃ c, c = r[1]'h1r := ⟨_, rfl⟩
  have HCC := Lib.hid hc
  obtain ⟨z, hz⟩ : ∃ z, z = Lib.indexByte ltrs r[0] := ⟨_, rfl⟩
  have hz0 : -1 ≤ z := by rw [hz]; exact Lib.indexByte_ge _ _
  have hz1 : z ≤ 8 := by rw [hz]; exact kOf_le _
  have HZ := Lib.hid (show Lib.indexByte (⟨#[118, 100, 109, 108, 110, 115, 120, 103, 98]⟩ : ByteArray).data.toList ((r[0].toNat : Int)).toNat.toUInt8 = z by rw [byte_back, hz]; rfl)
  have hcand : cand p.data.toList = ⟨z + 1, ((c.toNat : Int) - 48), t⟩ := by
    unfold cand
    rw [if_pos h2, getD_b hrd hpos, ht, hz]
    rw [getD_b hrd h1r, ← hc]; rfl
  have K0 := Lib.hid (keptS_new w)
  have HE := Lib.hid (rd_inv hv)
  obtain ⟨v, hvv⟩ : ∃ v, v = vS ⟨z + 1, ((c.toNat : Int) - 48), t⟩ := ⟨_, rfl⟩
  have hv0 : (v != 0) = true := by rw [bne_iff_ne, hvv, ← hcand]; exact hv
  have HV := Lib.hid hvv
  have HC := Lib.hid hcand
  have hr2 : r.size = 2 := by rw [hrs]; exact h2
  have e2 : ((r.size : Int) == 2) = true := by rw [beq_iff_eq]; omega
  have hq0 : (0 : Int) ≤ ((r[1]'h1r).toNat : Int) := by omega
  have hq1 : ((r[1]'h1r).toNat : Int) ≤ 255 := by have := (r[1]'h1r).toNat_lt; omega
  have hb0 : (r[0].toNat : Int) ≤ 255 := by have := r[0].toNat_lt; omega
  clear hr ht hrs h0 h2 hrd hz hcand hvv hc hv hm hbn
  go_enter Tryz.func83, Tryz.ntmps83
  go_wp2_with fail
  refine (Tryz.strings_Cut p (⟨#[47]⟩ : ByteArray) m _ (by omega) hm1).mono ?_
  rintro e w1 ⟨rfl, n1, hw1⟩
  rw [CT.out, CR.out]
  have hbw := bdrewN (w.alloc (.cells #[.int .i64 0, .int .i64 0, .string ⟨#[]⟩] 31)) n1
  rw [← hw1] at hbw
  have B1 := Lib.hid (btwo (bnew w _) hbw)
  have K1 := Lib.hid (K0.out.go hbw)
  clear hw1 hbw hm1
  go_wp2_with fail
  refine (idxb_any _ _ _).mono ?_
  rintro e w2 ⟨rfl, hw2⟩
  obtain rfl : w1 = w2 := hw2
  rw [HZ.out]
  obtain ⟨g, hg⟩ : ∃ g, g = w1.heap.size := ⟨_, rfl⟩
  obtain ⟨W, hW⟩ : ∃ W, W = w1.alloc (.cells #[.int .i64 (z + 1), .int .i64 ((c.toNat : Int) - 48), .string (bs t)] 31) := ⟨_, rfl⟩
  have BC := Lib.hid (show W.cell? ⟨g, 0, none⟩ = some (.int .i64 (z + 1)) ∧ W.cell? ⟨g, 1, none⟩ = some (.int .i64 ((c.toNat : Int) - 48)) ∧ W.cell? ⟨g, 2, none⟩ = some (.string (bs t)) by rw [hW, hg]; exact box_cells w1 ⟨z + 1, ((c.toNat : Int) - 48), t⟩)
  have B2 := Lib.hid (show Below w.heap.size w W by rw [hW]; exact btwo B1.out (bnew _ _))
  have K2 := Lib.hid (show KeptS w.heap.size W by rw [hW]; exact K1.out.go (bnew _ _))
  have hgl : g < W.heap.size := by rw [hW, hg]; simp
  have HW := Lib.hid hW
  have HG := Lib.hid hg
  clear hW hg
  go_wp2_with fail
  rw [← HCC.out, ← HW.out, ← HG.out]
  refine (valid_any ⟨z + 1, ((c.toNat : Int) - 48), t⟩ _ (show t.length ≤ _ by omega)).mono ?_
  rintro e w3 ⟨rfl, hb3⟩
  rw [← HV.out]
  have B3 := Lib.hid (btwo B2.out hb3)
  have K3 := Lib.hid (K2.out.go hb3)
  have BC3 := Lib.hid (kept_cells BC.out hgl hb3)
  have hgl3 : g < w3.heap.size := Nat.lt_of_lt_of_le hgl hb3.size
  clear hb3
  obtain ⟨k0, k1, k2, k3, k4, k5, k6⟩ := K3.out.facts
  go_wp2_with fail
  exact bodyPost_ret (v := .tuple #[.agg #[.int .i64 0, .int .i64 0, .string ⟨#[]⟩], .bool false]) (by simp [results, Tryz.results83, go_sem, k0, k1, k2]) rfl (rd_no HE.out (bset3 B3.out _ _ _))
set_option maxHeartbeats 8000000 in
theorem read_twodiff (p : ByteArray) (w : World) (hs : p.size ≤ 4000) (hm : MaxAt w) (h0 : tlS p.data.toList ≠ []) (h2 : (tlS p.data.toList).length = 2) (hv : vS (cand p.data.toList) = 0) (hd : tx1 (cand p.data.toList) ≠ p.data.toList) :
    Calls Tryz.prog 83 #[.string p] w (RdPost p.data.toList w) := by
  obtain ⟨r, hr⟩ : ∃ r : ByteArray, r = bs (tlS p.data.toList) := ⟨_, rfl⟩
  obtain ⟨t, ht⟩ : ∃ t, t = hdS p.data.toList := ⟨_, rfl⟩
  have htl : t.length ≤ 4000 := by rw [ht]; have := hd_len p.data.toList; rw [sizeB] at this; omega
  have hrl : r.size ≤ 4000 := by rw [hr, bs_size]; have := tl_len p.data.toList; rw [sizeB] at this; omega
  have hrs : r.size = (tlS p.data.toList).length := by rw [hr]; rfl
  have HR := Lib.hid hr
  have HT := Lib.hid ht
  have CT := Lib.hid (show (⟨(Lib.cut p.data.toList (⟨#[47]⟩ : ByteArray).data.toList).1.toArray⟩ : ByteArray) = bs t by rw [ht, ← (cut_is p.data.toList).1]; rfl)
  have CR := Lib.hid (show (⟨(Lib.cut p.data.toList (⟨#[47]⟩ : ByteArray).data.toList).2.1.toArray⟩ : ByteArray) = r by rw [hr, ← (cut_is p.data.toList).2]; rfl)
  obtain ⟨m, hm⟩ := hm
  have hbn := bnew w (.cells #[.int .i64 0, .int .i64 0, .string ⟨#[]⟩] 31)
  have hm1 := (hbn.cell (p := ⟨0, 0, none⟩) (World.block_lt_of_cell? _ _ hm)).trans hm
  have hpos : 0 < r.size := by
    rw [hrs]
    cases e : tlS p.data.toList with
    | nil => exact absurd e h0
    | cons c l => simp
  have hx := full_bs hpos
  have hrd : r.data.toList = tlS p.data.toList := by rw [hr, bs_list]
  have h1r : 1 < r.size := by rw [hrs, h2]; decide
  obtain ⟨c, hc⟩ : ∃ c, c = r[1]'h1r := ⟨_, rfl⟩
  have HCC := Lib.hid hc
  obtain ⟨z, hz⟩ : ∃ z, z = Lib.indexByte ltrs r[0] := ⟨_, rfl⟩
  have hz0 : -1 ≤ z := by rw [hz]; exact Lib.indexByte_ge _ _
  have hz1 : z ≤ 8 := by rw [hz]; exact kOf_le _
  have HZ := Lib.hid (show Lib.indexByte (⟨#[118, 100, 109, 108, 110, 115, 120, 103, 98]⟩ : ByteArray).data.toList ((r[0].toNat : Int)).toNat.toUInt8 = z by rw [byte_back, hz]; rfl)
  have hcand : cand p.data.toList = ⟨z + 1, ((c.toNat : Int) - 48), t⟩ := by
    unfold cand
    rw [if_pos h2, getD_b hrd hpos, ht, hz]
    rw [getD_b hrd h1r, ← hc]; rfl
  have K0 := Lib.hid (keptS_new w)
  have HE := Lib.hid (rd_other hd)
  obtain ⟨v, hvv⟩ : ∃ v, v = vS ⟨z + 1, ((c.toNat : Int) - 48), t⟩ := ⟨_, rfl⟩
  have hv0 : (v != 0) = false := by rw [bne_eq_false_iff_eq, hvv, ← hcand]; exact hv
  have hwv : vS ⟨z + 1, ((c.toNat : Int) - 48), t⟩ = 0 := by rw [← hcand]; exact hv
  have e9 : ((bs (tx1 ⟨z + 1, ((c.toNat : Int) - 48), t⟩)).toList != p.toList) = true := by
    rw [bne_iff_ne, ByteArray.toList_eq, ByteArray.toList_eq, bs_list, ← hcand]; exact hd
  have e8 : ((bs (tx1 ⟨z + 1, ((c.toNat : Int) - 48), t⟩)).toList == p.toList) = false := by
    rw [beq_eq_false_iff_ne, ByteArray.toList_eq, ByteArray.toList_eq, bs_list, ← hcand]; exact hd
  have HV := Lib.hid hvv
  have HWV := Lib.hid hwv
  have HC := Lib.hid hcand
  have hr2 : r.size = 2 := by rw [hrs]; exact h2
  have e2 : ((r.size : Int) == 2) = true := by rw [beq_iff_eq]; omega
  have hq0 : (0 : Int) ≤ ((r[1]'h1r).toNat : Int) := by omega
  have hq1 : ((r[1]'h1r).toNat : Int) ≤ 255 := by have := (r[1]'h1r).toNat_lt; omega
  have hb0 : (r[0].toNat : Int) ≤ 255 := by have := r[0].toNat_lt; omega
  clear hr ht hrs h0 h2 hrd hz hcand hvv hc hv hd hwv hm hbn
  go_enter Tryz.func83, Tryz.ntmps83
  go_wp2_with fail
  refine (Tryz.strings_Cut p (⟨#[47]⟩ : ByteArray) m _ (by omega) hm1).mono ?_
  rintro e w1 ⟨rfl, n1, hw1⟩
  rw [CT.out, CR.out]
  have hbw := bdrewN (w.alloc (.cells #[.int .i64 0, .int .i64 0, .string ⟨#[]⟩] 31)) n1
  rw [← hw1] at hbw
  have B1 := Lib.hid (btwo (bnew w _) hbw)
  have K1 := Lib.hid (K0.out.go hbw)
  clear hw1 hbw hm1
  go_wp2_with fail
  refine (idxb_any _ _ _).mono ?_
  rintro e w2 ⟨rfl, hw2⟩
  obtain rfl : w1 = w2 := hw2
  rw [HZ.out]
  obtain ⟨g, hg⟩ : ∃ g, g = w1.heap.size := ⟨_, rfl⟩
  obtain ⟨W, hW⟩ : ∃ W, W = w1.alloc (.cells #[.int .i64 (z + 1), .int .i64 ((c.toNat : Int) - 48), .string (bs t)] 31) := ⟨_, rfl⟩
  have BC := Lib.hid (show W.cell? ⟨g, 0, none⟩ = some (.int .i64 (z + 1)) ∧ W.cell? ⟨g, 1, none⟩ = some (.int .i64 ((c.toNat : Int) - 48)) ∧ W.cell? ⟨g, 2, none⟩ = some (.string (bs t)) by rw [hW, hg]; exact box_cells w1 ⟨z + 1, ((c.toNat : Int) - 48), t⟩)
  have B2 := Lib.hid (show Below w.heap.size w W by rw [hW]; exact btwo B1.out (bnew _ _))
  have K2 := Lib.hid (show KeptS w.heap.size W by rw [hW]; exact K1.out.go (bnew _ _))
  have hgl : g < W.heap.size := by rw [hW, hg]; simp
  have HW := Lib.hid hW
  have HG := Lib.hid hg
  clear hW hg
  go_wp2_with fail
  rw [← HCC.out, ← HW.out, ← HG.out]
  refine (valid_any ⟨z + 1, ((c.toNat : Int) - 48), t⟩ _ (show t.length ≤ _ by omega)).mono ?_
  rintro e w3 ⟨rfl, hb3⟩
  rw [← HV.out]
  have B3 := Lib.hid (btwo B2.out hb3)
  have K3 := Lib.hid (K2.out.go hb3)
  have BC3 := Lib.hid (kept_cells BC.out hgl hb3)
  have hgl3 : g < w3.heap.size := Nat.lt_of_lt_of_le hgl hb3.size
  clear hb3
  obtain ⟨b0, b1, b2⟩ := BC3.out
  go_wp2_with fail
  refine (written_any ⟨z + 1, ((c.toNat : Int) - 48), t⟩ _ HWV.out).mono ?_
  rintro e w4 ⟨rfl, hb4⟩
  have B4 := Lib.hid (btwo B3.out hb4)
  obtain ⟨k0, k1, k2, k3, k4, k5, k6⟩ := (K3.out.go hb4).facts
  obtain ⟨a0, a1, a2⟩ := kept_cells BC3.out hgl3 hb4
  clear hb4
  go_wp2_with fail
  exact bodyPost_ret (v := .tuple #[.agg #[.int .i64 0, .int .i64 0, .string ⟨#[]⟩], .bool false]) (by simp [results, Tryz.results83, go_sem, k0, k1, k2]) rfl (rd_no HE.out (bset3 B4.out _ _ _))
set_option maxHeartbeats 8000000 in
theorem read_twosame (p : ByteArray) (w : World) (hs : p.size ≤ 4000) (hm : MaxAt w) (h0 : tlS p.data.toList ≠ []) (h2 : (tlS p.data.toList).length = 2) (hv : vS (cand p.data.toList) = 0) (hd : tx1 (cand p.data.toList) = p.data.toList) :
    Calls Tryz.prog 83 #[.string p] w (RdPost p.data.toList w) := by
  obtain ⟨r, hr⟩ : ∃ r : ByteArray, r = bs (tlS p.data.toList) := ⟨_, rfl⟩
  obtain ⟨t, ht⟩ : ∃ t, t = hdS p.data.toList := ⟨_, rfl⟩
  have htl : t.length ≤ 4000 := by rw [ht]; have := hd_len p.data.toList; rw [sizeB] at this; omega
  have hrl : r.size ≤ 4000 := by rw [hr, bs_size]; have := tl_len p.data.toList; rw [sizeB] at this; omega
  have hrs : r.size = (tlS p.data.toList).length := by rw [hr]; rfl
  have HR := Lib.hid hr
  have HT := Lib.hid ht
  have CT := Lib.hid (show (⟨(Lib.cut p.data.toList (⟨#[47]⟩ : ByteArray).data.toList).1.toArray⟩ : ByteArray) = bs t by rw [ht, ← (cut_is p.data.toList).1]; rfl)
  have CR := Lib.hid (show (⟨(Lib.cut p.data.toList (⟨#[47]⟩ : ByteArray).data.toList).2.1.toArray⟩ : ByteArray) = r by rw [hr, ← (cut_is p.data.toList).2]; rfl)
  obtain ⟨m, hm⟩ := hm
  have hbn := bnew w (.cells #[.int .i64 0, .int .i64 0, .string ⟨#[]⟩] 31)
  have hm1 := (hbn.cell (p := ⟨0, 0, none⟩) (World.block_lt_of_cell? _ _ hm)).trans hm
  have hpos : 0 < r.size := by
    rw [hrs]
    cases e : tlS p.data.toList with
    | nil => exact absurd e h0
    | cons c l => simp
  have hx := full_bs hpos
  have hrd : r.data.toList = tlS p.data.toList := by rw [hr, bs_list]
  have h1r : 1 < r.size := by rw [hrs, h2]; decide
  obtain ⟨c, hc⟩ : ∃ c, c = r[1]'h1r := ⟨_, rfl⟩
  have HCC := Lib.hid hc
  obtain ⟨z, hz⟩ : ∃ z, z = Lib.indexByte ltrs r[0] := ⟨_, rfl⟩
  have hz0 : -1 ≤ z := by rw [hz]; exact Lib.indexByte_ge _ _
  have hz1 : z ≤ 8 := by rw [hz]; exact kOf_le _
  have HZ := Lib.hid (show Lib.indexByte (⟨#[118, 100, 109, 108, 110, 115, 120, 103, 98]⟩ : ByteArray).data.toList ((r[0].toNat : Int)).toNat.toUInt8 = z by rw [byte_back, hz]; rfl)
  have hcand : cand p.data.toList = ⟨z + 1, ((c.toNat : Int) - 48), t⟩ := by
    unfold cand
    rw [if_pos h2, getD_b hrd hpos, ht, hz]
    rw [getD_b hrd h1r, ← hc]; rfl
  have K0 := Lib.hid (keptS_new w)
  have HE := Lib.hid (show rdV p.data.toList = some ⟨z + 1, ((c.toNat : Int) - 48), t⟩ by rw [← hcand]; exact rd_cand hv hd)
  obtain ⟨v, hvv⟩ : ∃ v, v = vS ⟨z + 1, ((c.toNat : Int) - 48), t⟩ := ⟨_, rfl⟩
  have hv0 : (v != 0) = false := by rw [bne_eq_false_iff_eq, hvv, ← hcand]; exact hv
  have hwv : vS ⟨z + 1, ((c.toNat : Int) - 48), t⟩ = 0 := by rw [← hcand]; exact hv
  have e9 : ((bs (tx1 ⟨z + 1, ((c.toNat : Int) - 48), t⟩)).toList != p.toList) = false := by
    rw [bne_eq_false_iff_eq, ByteArray.toList_eq, ByteArray.toList_eq, bs_list, ← hcand]; exact hd
  have e8 : ((bs (tx1 ⟨z + 1, ((c.toNat : Int) - 48), t⟩)).toList == p.toList) = true := by
    rw [beq_iff_eq, ByteArray.toList_eq, ByteArray.toList_eq, bs_list, ← hcand]; exact hd
  have HV := Lib.hid hvv
  have HWV := Lib.hid hwv
  have HC := Lib.hid hcand
  have hr2 : r.size = 2 := by rw [hrs]; exact h2
  have e2 : ((r.size : Int) == 2) = true := by rw [beq_iff_eq]; omega
  have hq0 : (0 : Int) ≤ ((r[1]'h1r).toNat : Int) := by omega
  have hq1 : ((r[1]'h1r).toNat : Int) ≤ 255 := by have := (r[1]'h1r).toNat_lt; omega
  have hb0 : (r[0].toNat : Int) ≤ 255 := by have := r[0].toNat_lt; omega
  clear hr ht hrs h0 h2 hrd hz hcand hvv hc hv hd hwv hm hbn
  go_enter Tryz.func83, Tryz.ntmps83
  go_wp2_with fail
  refine (Tryz.strings_Cut p (⟨#[47]⟩ : ByteArray) m _ (by omega) hm1).mono ?_
  rintro e w1 ⟨rfl, n1, hw1⟩
  rw [CT.out, CR.out]
  have hbw := bdrewN (w.alloc (.cells #[.int .i64 0, .int .i64 0, .string ⟨#[]⟩] 31)) n1
  rw [← hw1] at hbw
  have B1 := Lib.hid (btwo (bnew w _) hbw)
  have K1 := Lib.hid (K0.out.go hbw)
  clear hw1 hbw hm1
  go_wp2_with fail
  refine (idxb_any _ _ _).mono ?_
  rintro e w2 ⟨rfl, hw2⟩
  obtain rfl : w1 = w2 := hw2
  rw [HZ.out]
  obtain ⟨g, hg⟩ : ∃ g, g = w1.heap.size := ⟨_, rfl⟩
  obtain ⟨W, hW⟩ : ∃ W, W = w1.alloc (.cells #[.int .i64 (z + 1), .int .i64 ((c.toNat : Int) - 48), .string (bs t)] 31) := ⟨_, rfl⟩
  have BC := Lib.hid (show W.cell? ⟨g, 0, none⟩ = some (.int .i64 (z + 1)) ∧ W.cell? ⟨g, 1, none⟩ = some (.int .i64 ((c.toNat : Int) - 48)) ∧ W.cell? ⟨g, 2, none⟩ = some (.string (bs t)) by rw [hW, hg]; exact box_cells w1 ⟨z + 1, ((c.toNat : Int) - 48), t⟩)
  have B2 := Lib.hid (show Below w.heap.size w W by rw [hW]; exact btwo B1.out (bnew _ _))
  have K2 := Lib.hid (show KeptS w.heap.size W by rw [hW]; exact K1.out.go (bnew _ _))
  have hgl : g < W.heap.size := by rw [hW, hg]; simp
  have HW := Lib.hid hW
  have HG := Lib.hid hg
  clear hW hg
  go_wp2_with fail
  rw [← HCC.out, ← HW.out, ← HG.out]
  refine (valid_any ⟨z + 1, ((c.toNat : Int) - 48), t⟩ _ (show t.length ≤ _ by omega)).mono ?_
  rintro e w3 ⟨rfl, hb3⟩
  rw [← HV.out]
  have B3 := Lib.hid (btwo B2.out hb3)
  have K3 := Lib.hid (K2.out.go hb3)
  have BC3 := Lib.hid (kept_cells BC.out hgl hb3)
  have hgl3 : g < w3.heap.size := Nat.lt_of_lt_of_le hgl hb3.size
  clear hb3
  obtain ⟨b0, b1, b2⟩ := BC3.out
  go_wp2_with fail
  refine (written_any ⟨z + 1, ((c.toNat : Int) - 48), t⟩ _ HWV.out).mono ?_
  rintro e w4 ⟨rfl, hb4⟩
  have B4 := Lib.hid (btwo B3.out hb4)
  obtain ⟨k0, k1, k2, k3, k4, k5, k6⟩ := (K3.out.go hb4).facts
  obtain ⟨a0, a1, a2⟩ := kept_cells BC3.out hgl3 hb4
  clear hb4
  go_wp2_with fail
  exact bodyPost_ret (v := .tuple #[.agg #[.int .i64 (z + 1), .int .i64 ((c.toNat : Int) - 48), .string (bs t)], .bool true]) (by simp [results, Tryz.results83, go_sem, k0, k1, k2]) rfl (rd_yes HE.out (bset3 B4.out _ _ _))
theorem read_any (p : ByteArray) (w : World) (hs : p.size ≤ 4000) (hm : MaxAt w) : Calls Tryz.prog 83 #[.string p] w (RdPost p.data.toList w) := by
  by_cases h0 : tlS p.data.toList = []
  · exact read_none p w hs hm h0
  · by_cases h2 : (tlS p.data.toList).length = 2
    · by_cases hv : vS (cand p.data.toList) = 0
      · by_cases hd : tx1 (cand p.data.toList) = p.data.toList
        · exact read_twosame p w hs hm h0 h2 hv hd
        · exact read_twodiff p w hs hm h0 h2 hv hd
      · exact read_twobad p w hs hm h0 h2 hv
    · by_cases hv : vS (cand p.data.toList) = 0
      · by_cases hd : tx1 (cand p.data.toList) = p.data.toList
        · exact read_onesame p w hs hm h0 h2 hv hd
        · exact read_onediff p w hs hm h0 h2 hv hd
      · exact read_onebad p w hs hm h0 h2 hv
end Go.Proofs.YtfgnekbkcmpdiaaGreatDoor
