/- Contracts of both sides: the first token. -/
import Derived.Test.YtngkhggofjeflaaDoorKd
namespace Go.Proofs.YtngkhggofjeflaaDoor
open Go.RowKit
set_option linter.unusedVariables false

def NxPost (l : List UInt8) (w : World) (e : Ending) (w' : World) : Prop :=
  e = .returned (.tuple #[.agg #[.int .i64 (nxV l).1, .string (bs (nxV l).2.1), .int .i64 0], .int .i64 ((nxV l).2.2.1 : Nat), .int .i64 (nxV l).2.2.2]) ∧ Below w.heap.size w w'
theorem nx_post {l t : List UInt8} {k er : Int} {n : Nat} {w w' : World} {b : ByteArray} {m : Int} (h : nxV l = (k, t, n, er)) (hb : b.data.toList = t) (hm : m = (n : Int)) (hB : Below w.heap.size w w') :
    NxPost l w (.returned (.tuple #[.agg #[.int .i64 k, .string b, .int .i64 0], .int .i64 m, .int .i64 er])) w' := by
  subst hm
  refine ⟨?_, hB⟩
  rw [h, ← hb]; rfl
theorem bnew (w : World) (o : Obj) : Below w.heap.size w (w.alloc o) := (Below.refl _ _).alloc (Nat.le_refl _) _
theorem bset {w v : World} (h : Below w.heap.size w v) (i : Nat) (a : Value) : Below w.heap.size w (v.setCell ⟨w.heap.size, i, none⟩ a) := h.setCell (p := ⟨w.heap.size, i, none⟩) (Nat.le_refl _) a

theorem split0 {s : ByteArray} (h : 0 < s.size) : s.data.toList = s[0] :: s.data.toList.drop 1 := by have := dropS h; rwa [List.drop_zero] at this
set_option maxHeartbeats 1000000 in
theorem fname_any (s : ByteArray) (w : World) (hs : s.size ≤ maxLen) (h0 : 0 < s.size) (h1 : smI (s[0].toNat : Int) = true) :
    Calls Tryd.prog 62 #[.string s] w (NxPost s.data.toList w) := by
  obtain ⟨n, hn⟩ : ∃ n, nmL s.data.toList = n := ⟨_, rfl⟩
  have HN := Lib.hid hn
  have hle : n ≤ s.size := by rw [← hn]; exact nmL_le _
  have hsp := split0 h0
  by_cases h20 : 20 < n
  · have HE := Lib.hid (show nxV s.data.toList = (0, [], 0, 3) by rw [hsp]; exact nx_nm_big (n := n) h1 (by rw [← hsp]; exact hn) h20)
    clear hn hsp h1
    go_enter Tryd.func62, Tryd.ntmps62
    go_wp2_with fail
    refine (nsize_any _ _ (by assumption)).mono ?_
    rintro e w' ⟨rfl, rfl⟩
    rw [HN.out]
    go_wp2_with fail
    exact bodyPost_ret (v := .tuple #[.agg #[.int .i64 0, .string ⟨#[]⟩, .int .i64 0], .int .i64 0, .int .i64 3]) (by simp [results, Tryd.results62, go_sem]) rfl (nx_post HE.out rfl rfl (bnew _ _))
  · have HE := Lib.hid (show nxV s.data.toList = (1, s.data.toList.take n, n, 0) by rw [hsp]; exact nx_nm h1 (by rw [← hsp]; exact hn) h20)
    have HT := Lib.hid (ext_take s n)
    clear hn hsp h1
    go_enter Tryd.func62, Tryd.ntmps62
    go_wp2_with fail
    refine (nsize_any _ _ (by assumption)).mono ?_
    rintro e w' ⟨rfl, rfl⟩
    rw [HN.out]
    go_wp2_with fail
    exact bodyPost_ret (v := .tuple #[.agg #[.int .i64 1, .string (s.extract 0 n), .int .i64 0], .int .i64 (n : Int), .int .i64 0]) (by simp [results, Tryd.results62, go_sem]) rfl (nx_post HE.out HT.out rfl (bnew _ _))

/-- The block of a token that a function returns, as it is at the start. -/
def KeptT (g : Nat) (w : World) : Prop := w.heap[g]? = some (.cells #[.int .i64 0, .string ⟨#[]⟩, .int .i64 0] 29 (0, 0))
theorem KeptT.facts {g : Nat} {w : World} (h : KeptT g w) : w.cell? ⟨g, 0, none⟩ = some (.int .i64 0) ∧ w.cell? ⟨g, 1, none⟩ = some (.string ⟨#[]⟩) ∧ w.cell? ⟨g, 2, none⟩ = some (.int .i64 0) ∧ w.frozen? ⟨g, 0, none⟩ = false ∧ w.frozen? ⟨g, 1, none⟩ = false ∧ w.frozen? ⟨g, 2, none⟩ = false ∧ g < w.heap.size := by
  unfold KeptT at h
  refine ⟨?_, ?_, ?_, by simp [World.frozen?, h], by simp [World.frozen?, h], by simp [World.frozen?, h], (Array.getElem?_eq_some_iff.1 h).1⟩
  · rw [cell_of_row w _ 0 _ _ _ h]; rfl
  · rw [cell_of_row w _ 1 _ _ _ h]; rfl
  · rw [cell_of_row w _ 2 _ _ _ h]; rfl
theorem KeptT.go {g : Nat} {w w' : World} (h : KeptT g w) (hb : Below w.heap.size w w') : KeptT g w' := by
  unfold KeptT at *
  rw [hb.block _ (Array.getElem?_eq_some_iff.1 h).1]; exact h
theorem keptT_new (w : World) : KeptT w.heap.size (w.alloc (.cells #[.int .i64 0, .string ⟨#[]⟩, .int .i64 0] 29)) := heap_alloc_new w _
theorem bset3 {w v : World} (h : Below w.heap.size w v) (a b c : Value) : Below w.heap.size w (((v.setCell ⟨w.heap.size, 0, none⟩ a).setCell ⟨w.heap.size, 1, none⟩ b).setCell ⟨w.heap.size, 2, none⟩ c) := bset (bset (bset h 0 a) 1 b) 2 c
theorem num_take {s : ByteArray} {n : Nat} (h0 : 0 < s.size) (hn : runL isDg s.data.toList = n) (hpos : 0 < n) (h6 : ¬ 6 < n) : (numV (s.data.toList.take n)).2 = !(decide (s[0] = 48) && decide (1 < n)) := by
  have hle : n ≤ s.size := by rw [← hn]; exact runL_le _ _
  have hl : (s.data.toList.take n).length = n := by rw [List.length_take, sizeB]; omega
  have hr : runL isDg (s.data.toList.take n) = n := by rw [runL_all (by rw [← hn]; exact runL_take _), hl]
  have hh : (s.data.toList.take n).head? = some s[0] := by
    obtain ⟨m, rfl⟩ : ∃ m, n = m + 1 := ⟨n - 1, by omega⟩
    rw [split0 h0, List.take_succ_cons]; rfl
  have hne : s.data.toList.take n ≠ [] := by intro e; rw [e] at hl; simp at hl; omega
  have hb : numB (s.data.toList.take n) = !(decide (s[0] = 48) && decide (1 < n)) := by
    unfold numB
    rw [hl, hr, hh, show (s.data.toList.take n != []) = true by simpa using hne, decide_eq_true (show n ≤ 6 by omega), Bool.eq_iff_iff]
    simp
  unfold numV
  rw [← hb]
  cases numB (s.data.toList.take n) <;> rfl

set_option maxHeartbeats 1000000 in
theorem fnum_any (s : ByteArray) (w : World) (hs : s.size ≤ maxLen) (h0 : 0 < s.size) (h1 : smI (s[0].toNat : Int) = false) (h2 : dgI (s[0].toNat : Int) = true) :
    Calls Tryd.prog 64 #[.string s] w (NxPost s.data.toList w) := by
  obtain ⟨n, hn⟩ : ∃ n, runL isDg s.data.toList = n := ⟨_, rfl⟩
  have HN := Lib.hid hn
  have hle : n ≤ s.size := by rw [← hn]; exact runL_le _ _
  have hpos : 0 < n := by rw [← hn, split0 h0, runL, if_pos (show isDg s[0] = true from h2)]; omega
  have hsp := split0 h0
  by_cases h6 : 6 < n
  · have HE := Lib.hid (show nxV s.data.toList = (0, [], 0, 3) by rw [hsp]; exact nx_dg_big (n := n) h1 h2 (by rw [← hsp]; exact hn) h6)
    clear hn hsp h1 h2
    go_enter Tryd.func64, Tryd.ntmps64
    go_wp2_with fail
    refine (dsize_any _ _ (by assumption)).mono ?_
    rintro e w' ⟨rfl, rfl⟩
    rw [HN.out]
    go_wp2_with fail
    exact bodyPost_ret (v := .tuple #[.agg #[.int .i64 0, .string ⟨#[]⟩, .int .i64 0], .int .i64 0, .int .i64 3]) (by simp [results, Tryd.results64, go_sem]) rfl (nx_post HE.out rfl rfl (bnew _ _))
  · obtain ⟨x, hx⟩ : ∃ x, x = (numV (s.extract 0 n).data.toList).1 := ⟨_, rfl⟩
    obtain ⟨b, hb⟩ : ∃ b, b = (numV (s.extract 0 n).data.toList).2 := ⟨_, rfl⟩
    have HX := Lib.hid hx
    have HB := Lib.hid hb
    have hbv : b = !(decide (s[0] = 48) && decide (1 < n)) := by rw [hb, ext_take]; exact num_take h0 hn hpos h6
    have hK := Lib.hid (keptT_new w)
    have HT := Lib.hid (ext_take s n)
    have hes : (s.extract 0 n).size ≤ maxLen := by rw [ByteArray.size_extract]; unfold maxLen; omega
    cases b with
    | false =>
      have HE := Lib.hid (show nxV s.data.toList = (0, [], 0, 2) by
        simp at hbv
        rw [hsp]; exact nx_dg_zero (n := n) h1 h2 (by rw [← hsp]; exact hn) h6 hbv.1 hbv.2)
      clear hn hsp h1 h2 hx hb hbv
      go_enter Tryd.func64, Tryd.ntmps64
      go_wp2_with fail
      refine (dsize_any _ _ (by assumption)).mono ?_
      rintro e w' ⟨rfl, rfl⟩
      rw [HN.out]
      go_wp2_with fail
      refine (number_any _ _ (by assumption)).mono ?_
      rintro e w1 ⟨rfl, hb1⟩
      rw [← HX.out, ← HB.out]
      have HB1 := Lib.hid (btwo (bnew _ _) hb1)
      obtain ⟨k0, k1, k2, k3, k4, k5, k6⟩ := (hK.out.go hb1).facts
      clear hb1
      go_wp2_with fail
      exact bodyPost_ret (v := .tuple #[.agg #[.int .i64 0, .string ⟨#[]⟩, .int .i64 0], .int .i64 0, .int .i64 2]) (by simp [results, Tryd.results64, go_sem, k0, k1, k2]) rfl (nx_post HE.out rfl rfl (bset3 HB1.out _ _ _))
    | true =>
      have HE := Lib.hid (show nxV s.data.toList = (2, s.data.toList.take n, n, 0) by
        have hbv2 : ¬ (s[0] = 48 ∧ 1 < n) := by
          rintro ⟨a, c⟩
          rw [decide_eq_true a, decide_eq_true c] at hbv
          cases hbv
        rw [hsp]; exact nx_dg h1 h2 (by rw [← hsp]; exact hn) h6 hbv2)
      clear hn hsp h1 h2 hx hb hbv
      go_enter Tryd.func64, Tryd.ntmps64
      go_wp2_with fail
      refine (dsize_any _ _ (by assumption)).mono ?_
      rintro e w' ⟨rfl, rfl⟩
      rw [HN.out]
      go_wp2_with fail
      refine (number_any _ _ (by assumption)).mono ?_
      rintro e w1 ⟨rfl, hb1⟩
      rw [← HX.out, ← HB.out]
      have HB1 := Lib.hid (btwo (bnew _ _) hb1)
      obtain ⟨k0, k1, k2, k3, k4, k5, k6⟩ := (hK.out.go hb1).facts
      clear hb1
      go_wp2_with fail
      exact bodyPost_ret (v := .tuple #[.agg #[.int .i64 2, .string (s.extract 0 n), .int .i64 0], .int .i64 (n : Int), .int .i64 0]) (by simp [results, Tryd.results64, go_sem, k0, k1, k2]) rfl (nx_post HE.out HT.out rfl (bset3 HB1.out _ _ _))

theorem pre_one (l : List UInt8) (c : UInt8) : Lib.hasPrefix l [c] = decide (l.head? = some c) := by
  unfold Lib.hasPrefix
  cases l with
  | nil => simp [List.isPrefixOf]
  | cons d r =>
    simp [List.isPrefixOf]
    by_cases h : d = c
    · subst h; simp
    · rw [decide_eq_false h]; simpa using fun e => h e.symm
set_option maxHeartbeats 1000000 in
theorem fstr_any (s : ByteArray) (w : World) (hs : s.size ≤ maxLen) (h0 : 0 < s.size) (h1 : s[0] = 34) :
    Calls Tryd.prog 65 #[.string s] w (NxPost s.data.toList w) := by
  obtain ⟨q, hq⟩ : ∃ q, q = s.extract 1 s.size := ⟨_, rfl⟩
  have HQ := Lib.hid hq
  have hqs : q.size = s.size - 1 := by rw [hq]; exact ext_size s 1 (by omega)
  have hql : q.data.toList = s.data.toList.drop 1 := by rw [hq]; exact ext_drop s 1
  obtain ⟨n, hn⟩ : ∃ n, runL isQu q.data.toList = n := ⟨_, rfl⟩
  have HN := Lib.hid hn
  have hle : n ≤ q.size := by rw [← hn]; exact runL_le _ _
  have hqm : q.size ≤ maxLen := by omega
  have hsp := split0 h0
  obtain ⟨b, hb⟩ : ∃ b, b = decide ((q.data.toList.drop n).head? = some 34) := ⟨_, rfl⟩
  have HP := Lib.hid (show Lib.hasPrefix (q.extract n q.size).data.toList (⟨#[34]⟩ : ByteArray).data.toList = b by rw [ext_drop, hb]; exact pre_one _ _)
  have HT := Lib.hid (ext_take q n)
  have HQS := Lib.hid hqs
  have hqs2 : q.size + 1 ≤ s.size := by omega
  unfold maxLen at hs
  clear hqs
  cases b with
  | false =>
    have HE := Lib.hid (show nxV s.data.toList = (0, [], 0, 2) by rw [hsp]; exact nx_qu_bad (n := n) h1 (by rw [← hql]; exact hn) (by rw [← hql]; simpa using hb))
    clear hn hsp h1 hb hq hql
    go_enter Tryd.func65, Tryd.ntmps65
    go_wp2_with fail
    rw [← HQ.out]
    refine (qsize_any _ _ (by assumption)).mono ?_
    rintro e w' ⟨rfl, rfl⟩
    rw [HN.out]
    go_wp2_with fail
    refine (Tryd.strings_HasPrefix _ _ _).mono ?_
    rintro e w' ⟨rfl, rfl⟩
    rw [HP.out]
    go_wp2_with fail
    exact bodyPost_ret (v := .tuple #[.agg #[.int .i64 0, .string ⟨#[]⟩, .int .i64 0], .int .i64 0, .int .i64 2]) (by simp [results, Tryd.results65, go_sem]) rfl (nx_post HE.out rfl rfl (bnew _ _))
  | true =>
    by_cases h60 : 60 < n
    · have HE := Lib.hid (show nxV s.data.toList = (0, [], 0, 3) by rw [hsp]; exact nx_qu_big (n := n) h1 (by rw [← hql]; exact hn) (by rw [← hql]; simpa using hb) h60)
      clear hn hsp h1 hb hq hql
      go_enter Tryd.func65, Tryd.ntmps65
      go_wp2_with fail
      rw [← HQ.out]
      refine (qsize_any _ _ (by assumption)).mono ?_
      rintro e w' ⟨rfl, rfl⟩
      rw [HN.out]
      go_wp2_with fail
      refine (Tryd.strings_HasPrefix _ _ _).mono ?_
      rintro e w' ⟨rfl, rfl⟩
      rw [HP.out]
      go_wp2_with fail
      exact bodyPost_ret (v := .tuple #[.agg #[.int .i64 0, .string ⟨#[]⟩, .int .i64 0], .int .i64 0, .int .i64 3]) (by simp [results, Tryd.results65, go_sem]) rfl (nx_post HE.out rfl rfl (bnew _ _))
    · have HE := Lib.hid (show nxV s.data.toList = (3, q.data.toList.take n, n + 2, 0) by rw [hsp, hql]; exact nx_qu h1 (by rw [← hql]; exact hn) (by rw [← hql]; simpa using hb) h60)
      clear hn hsp h1 hb hq hql
      go_enter Tryd.func65, Tryd.ntmps65
      go_wp2_with fail
      rw [← HQ.out]
      refine (qsize_any _ _ (by assumption)).mono ?_
      rintro e w' ⟨rfl, rfl⟩
      rw [HN.out]
      go_wp2_with fail
      refine (Tryd.strings_HasPrefix _ _ _).mono ?_
      rintro e w' ⟨rfl, rfl⟩
      rw [HP.out]
      go_wp2_with fail
      exact bodyPost_ret (v := .tuple #[.agg #[.int .i64 3, .string (q.extract 0 n), .int .i64 0], .int .i64 ((n : Int) + 2), .int .i64 0]) (by simp [results, Tryd.results65, go_sem]) rfl (nx_post HE.out HT.out (by omega) (bnew _ _))
end Go.Proofs.YtngkhggofjeflaaDoor
