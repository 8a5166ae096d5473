/- Contracts of the second implementation: valid automata, where words lead. -/
import Derived.Test.YtdkdfmflghbhiaaQv
import Derived.Test.YtdkdfmflghbhiaaQn
namespace Go.Proofs.Ytdkdfmflghbhiaa
open Go.RowKit
set_option linter.unusedVariables false
set_option linter.unusedSimpArgs false
set_option maxRecDepth 100000

set_option maxHeartbeats 16000000 in
theorem rvalid_any (x : DV) (M : Au) (w : World) (h : DfaIn w x M) :
    Calls Try.prog 51 #[dval x M] w fun e w' => e = .returned (.int .i64 M.vE) ∧ Below w.heap.size w w' := by
  have H := Lib.hid h
  have hn : M.n = x.n := h.n
  have hm : M.ac.length = x.m := h.m
  have hcb := h.cb
  have hdb := h.db
  clear h
  by_cases c1 : M.lt < 1
  · have HE := Lib.hid (Au.vE_head (M := M) (decide_eq_false (by omega)))
    clear hn hm
    obtain ⟨wz, hwz⟩ : ∃ z, z = (w.alloc (.cells #[.int .i64 M.lt, .int .i64 M.st, .slice x.A x.n x.c, .slice x.B x.m x.d] 25)) := ⟨_, rfl⟩
    have V := Lib.hid (show Hp w [box 25 w.heap.size [.int .i64 M.lt, .int .i64 M.st, .slice x.A x.n x.c, .slice x.B x.m x.d]] wz by
      have := ((Hp.start w).box_new 25 [.int .i64 M.lt, .int .i64 M.st, .slice x.A x.n x.c, .slice x.B x.m x.d])
      rw [hwz]; simpa using this)
    have HZ := Lib.hid hwz
    clear hwz
    go_enter Try.func51, Try.ntmps51
    go_upto_region 1 with fail
    rw [← HZ.out]
    clear HZ
    obtain ⟨r0_0, _, r0_9⟩ := V.out.box_at (i := 0) (j := 0) rfl rfl
    obtain ⟨r0_1, _, _⟩ := V.out.box_at (i := 0) (j := 1) rfl rfl
    obtain ⟨r0_2, _, _⟩ := V.out.box_at (i := 0) (j := 2) rfl rfl
    obtain ⟨r0_3, _, _⟩ := V.out.box_at (i := 0) (j := 3) rfl rfl
    go_wp2_with fail
    go_ret
    exact ⟨ret_int HE.out.symm, V.out.below⟩
  by_cases c2 : 8 < M.lt
  · have HE := Lib.hid (Au.vE_head (M := M) (decide_eq_false (by omega)))
    clear hn hm
    obtain ⟨wz, hwz⟩ : ∃ z, z = (w.alloc (.cells #[.int .i64 M.lt, .int .i64 M.st, .slice x.A x.n x.c, .slice x.B x.m x.d] 25)) := ⟨_, rfl⟩
    have V := Lib.hid (show Hp w [box 25 w.heap.size [.int .i64 M.lt, .int .i64 M.st, .slice x.A x.n x.c, .slice x.B x.m x.d]] wz by
      have := ((Hp.start w).box_new 25 [.int .i64 M.lt, .int .i64 M.st, .slice x.A x.n x.c, .slice x.B x.m x.d])
      rw [hwz]; simpa using this)
    have HZ := Lib.hid hwz
    clear hwz
    go_enter Try.func51, Try.ntmps51
    go_upto_region 1 with fail
    rw [← HZ.out]
    clear HZ
    obtain ⟨r0_0, _, r0_9⟩ := V.out.box_at (i := 0) (j := 0) rfl rfl
    obtain ⟨r0_1, _, _⟩ := V.out.box_at (i := 0) (j := 1) rfl rfl
    obtain ⟨r0_2, _, _⟩ := V.out.box_at (i := 0) (j := 2) rfl rfl
    obtain ⟨r0_3, _, _⟩ := V.out.box_at (i := 0) (j := 3) rfl rfl
    go_wp2_with fail
    go_ret
    exact ⟨ret_int HE.out.symm, V.out.below⟩
  by_cases c3 : 400 < x.n
  · have HE := Lib.hid (Au.vE_head (M := M) (decide_eq_false (by omega)))
    clear hn hm
    obtain ⟨wz, hwz⟩ : ∃ z, z = (w.alloc (.cells #[.int .i64 M.lt, .int .i64 M.st, .slice x.A x.n x.c, .slice x.B x.m x.d] 25)) := ⟨_, rfl⟩
    have V := Lib.hid (show Hp w [box 25 w.heap.size [.int .i64 M.lt, .int .i64 M.st, .slice x.A x.n x.c, .slice x.B x.m x.d]] wz by
      have := ((Hp.start w).box_new 25 [.int .i64 M.lt, .int .i64 M.st, .slice x.A x.n x.c, .slice x.B x.m x.d])
      rw [hwz]; simpa using this)
    have HZ := Lib.hid hwz
    clear hwz
    go_enter Try.func51, Try.ntmps51
    go_upto_region 1 with fail
    rw [← HZ.out]
    clear HZ
    obtain ⟨r0_0, _, r0_9⟩ := V.out.box_at (i := 0) (j := 0) rfl rfl
    obtain ⟨r0_1, _, _⟩ := V.out.box_at (i := 0) (j := 1) rfl rfl
    obtain ⟨r0_2, _, _⟩ := V.out.box_at (i := 0) (j := 2) rfl rfl
    obtain ⟨r0_3, _, _⟩ := V.out.box_at (i := 0) (j := 3) rfl rfl
    go_wp2_with fail
    go_ret
    exact ⟨ret_int HE.out.symm, V.out.below⟩
  by_cases c4 : x.m = x.n
  case neg =>
    have HE := Lib.hid (Au.vE_head (M := M) (decide_eq_false (by omega)))
    have c5 : ((x.m : Int) != (x.n : Int)) = true := bne_yes (by omega)
    have c6 : ((x.m : Int) == (x.n : Int)) = false := beq_no (by omega)
    clear hn hm
    obtain ⟨wz, hwz⟩ : ∃ z, z = (w.alloc (.cells #[.int .i64 M.lt, .int .i64 M.st, .slice x.A x.n x.c, .slice x.B x.m x.d] 25)) := ⟨_, rfl⟩
    have V := Lib.hid (show Hp w [box 25 w.heap.size [.int .i64 M.lt, .int .i64 M.st, .slice x.A x.n x.c, .slice x.B x.m x.d]] wz by
      have := ((Hp.start w).box_new 25 [.int .i64 M.lt, .int .i64 M.st, .slice x.A x.n x.c, .slice x.B x.m x.d])
      rw [hwz]; simpa using this)
    have HZ := Lib.hid hwz
    clear hwz
    go_enter Try.func51, Try.ntmps51
    go_upto_region 1 with fail
    rw [← HZ.out]
    clear HZ
    obtain ⟨r0_0, _, r0_9⟩ := V.out.box_at (i := 0) (j := 0) rfl rfl
    obtain ⟨r0_1, _, _⟩ := V.out.box_at (i := 0) (j := 1) rfl rfl
    obtain ⟨r0_2, _, _⟩ := V.out.box_at (i := 0) (j := 2) rfl rfl
    obtain ⟨r0_3, _, _⟩ := V.out.box_at (i := 0) (j := 3) rfl rfl
    go_wp2_with fail
    go_ret
    exact ⟨ret_int HE.out.symm, V.out.below⟩
  obtain ⟨A, n, c, B, m, d⟩ := x
  dsimp only at *
  subst c4
  have c5 : ((m : Int) != (m : Int)) = false := bne_no rfl
  have c6 : ((m : Int) == (m : Int)) = true := beq_yes rfl
  by_cases c7 : m = 0 ∧ ¬ M.st = -1
  · have HE := Lib.hid (Au.vE_head (M := M) (decide_eq_false (by omega)))
    obtain ⟨d1, d2⟩ := c7
    have d4 : (M.st == -1) = false := beq_no d2
    have d5 : (M.st != -1) = true := bne_yes d2
    clear hn hm d2
    subst d1
    obtain ⟨wz, hwz⟩ : ∃ z, z = (w.alloc (.cells #[.int .i64 M.lt, .int .i64 M.st, .slice A 0 c, .slice B 0 d] 25)) := ⟨_, rfl⟩
    have V := Lib.hid (show Hp w [box 25 w.heap.size [.int .i64 M.lt, .int .i64 M.st, .slice A 0 c, .slice B 0 d]] wz by
      have := ((Hp.start w).box_new 25 [.int .i64 M.lt, .int .i64 M.st, .slice A 0 c, .slice B 0 d])
      rw [hwz]; simpa using this)
    have HZ := Lib.hid hwz
    clear hwz
    go_enter Try.func51, Try.ntmps51
    go_upto_region 1 with fail
    rw [← HZ.out]
    clear HZ
    obtain ⟨r0_0, _, r0_9⟩ := V.out.box_at (i := 0) (j := 0) rfl rfl
    obtain ⟨r0_1, _, _⟩ := V.out.box_at (i := 0) (j := 1) rfl rfl
    obtain ⟨r0_2, _, _⟩ := V.out.box_at (i := 0) (j := 2) rfl rfl
    obtain ⟨r0_3, _, _⟩ := V.out.box_at (i := 0) (j := 3) rfl rfl
    go_wp2_with fail
    go_ret
    exact ⟨ret_int HE.out.symm, V.out.below⟩
  by_cases c8 : 0 < m ∧ ¬ (0 ≤ M.st ∧ M.st < (m : Int))
  · have HE := Lib.hid (Au.vE_head (M := M) (decide_eq_false (fun hh => by rcases hh.2.2.2.2 with ⟨e1, e2⟩ | ⟨e1, e2, e3⟩ <;> omega)))
    obtain ⟨d1, d2⟩ := c8
    have d3 : ((m : Int) == 0) = false := beq_no (by omega)
    have d4 : 0 < (m : Int) := by omega
    by_cases d6 : M.st < 0
    · clear hn hm d2 c7
      obtain ⟨wz, hwz⟩ : ∃ z, z = (w.alloc (.cells #[.int .i64 M.lt, .int .i64 M.st, .slice A m c, .slice B m d] 25)) := ⟨_, rfl⟩
      have V := Lib.hid (show Hp w [box 25 w.heap.size [.int .i64 M.lt, .int .i64 M.st, .slice A m c, .slice B m d]] wz by
        have := ((Hp.start w).box_new 25 [.int .i64 M.lt, .int .i64 M.st, .slice A m c, .slice B m d])
        rw [hwz]; simpa using this)
      have HZ := Lib.hid hwz
      clear hwz
      go_enter Try.func51, Try.ntmps51
      go_upto_region 1 with fail
      rw [← HZ.out]
      clear HZ
      obtain ⟨r0_0, _, r0_9⟩ := V.out.box_at (i := 0) (j := 0) rfl rfl
      obtain ⟨r0_1, _, _⟩ := V.out.box_at (i := 0) (j := 1) rfl rfl
      obtain ⟨r0_2, _, _⟩ := V.out.box_at (i := 0) (j := 2) rfl rfl
      obtain ⟨r0_3, _, _⟩ := V.out.box_at (i := 0) (j := 3) rfl rfl
      go_wp2_with fail
      go_ret
      exact ⟨ret_int HE.out.symm, V.out.below⟩
    · have d7 : (m : Int) ≤ M.st := by omega
      clear hn hm d2 c7
      obtain ⟨wz, hwz⟩ : ∃ z, z = (w.alloc (.cells #[.int .i64 M.lt, .int .i64 M.st, .slice A m c, .slice B m d] 25)) := ⟨_, rfl⟩
      have V := Lib.hid (show Hp w [box 25 w.heap.size [.int .i64 M.lt, .int .i64 M.st, .slice A m c, .slice B m d]] wz by
        have := ((Hp.start w).box_new 25 [.int .i64 M.lt, .int .i64 M.st, .slice A m c, .slice B m d])
        rw [hwz]; simpa using this)
      have HZ := Lib.hid hwz
      clear hwz
      go_enter Try.func51, Try.ntmps51
      go_upto_region 1 with fail
      rw [← HZ.out]
      clear HZ
      obtain ⟨r0_0, _, r0_9⟩ := V.out.box_at (i := 0) (j := 0) rfl rfl
      obtain ⟨r0_1, _, _⟩ := V.out.box_at (i := 0) (j := 1) rfl rfl
      obtain ⟨r0_2, _, _⟩ := V.out.box_at (i := 0) (j := 2) rfl rfl
      obtain ⟨r0_3, _, _⟩ := V.out.box_at (i := 0) (j := 3) rfl rfl
      go_wp2_with fail
      go_ret
      exact ⟨ret_int HE.out.symm, V.out.below⟩
  have HH := Lib.hid (show M.headB = true from decide_eq_true ⟨by omega, by omega, by omega, by omega, by rcases Nat.eq_zero_or_pos m with e | e; exact Or.inl ⟨by omega, by omega⟩; exact Or.inr ⟨by omega, by omega, by omega⟩⟩)
  by_cases h0 : m = 0
  · subst h0
    have d4 : (M.st == -1) = true := beq_yes (by omega)
    have d5 : (M.st != -1) = false := bne_no (by omega)
    clear c7 c8 hn hm
    obtain ⟨wz, hwz⟩ : ∃ z, z = (w.alloc (.cells #[.int .i64 M.lt, .int .i64 M.st, .slice A 0 c, .slice B 0 d] 25)) := ⟨_, rfl⟩
    have V := Lib.hid (show Hp w [box 25 w.heap.size [.int .i64 M.lt, .int .i64 M.st, .slice A 0 c, .slice B 0 d]] wz by
      have := ((Hp.start w).box_new 25 [.int .i64 M.lt, .int .i64 M.st, .slice A 0 c, .slice B 0 d])
      rw [hwz]; simpa using this)
    have HZ := Lib.hid hwz
    clear hwz
    go_enter Try.func51, Try.ntmps51
    go_upto_region 1 with fail
    rw [← HZ.out]
    clear HZ
    obtain ⟨r0_0, _, r0_9⟩ := V.out.box_at (i := 0) (j := 0) rfl rfl
    obtain ⟨r0_1, _, _⟩ := V.out.box_at (i := 0) (j := 1) rfl rfl
    obtain ⟨r0_2, _, _⟩ := V.out.box_at (i := 0) (j := 2) rfl rfl
    obtain ⟨r0_3, _, _⟩ := V.out.box_at (i := 0) (j := 3) rfl rfl
    have HE := Lib.hid (Au.vE_all HH.out (fun i row hr => by have h1 := (List.getElem?_eq_some_iff.1 hr).1; have h2 := H.out.n; dsimp only at h2; omega))
    go_wp2_with fail
    clear r0_9 r0_0 r0_1 r0_2 r0_3
    go_loopw [4] (fun cv wr => cv = .int .i64 0 ∧ Hp w [box 25 w.heap.size [.int .i64 M.lt, .int .i64 M.st, .slice A 0 c, .slice B 0 d]] wr) (fun _ _ => 0)
    case atStart => exact ⟨rfl, V.out⟩
    case round =>
      clear V
      obtain ⟨rfl, hV⟩ := hrel
      have V := Lib.hid hV
      clear hV
      go_wp2_with fail
      go_ret
      exact ⟨ret_int HE.out.symm, V.out.below⟩
  have d1 : 0 < m := by omega
  have d3 : ((m : Int) == 0) = false := beq_no (by omega)
  have d4 : 0 < (m : Int) := by omega
  have hst : 0 ≤ M.st ∧ M.st < (m : Int) := Classical.not_not.1 (fun hh => c8 ⟨d1, hh⟩)
  obtain ⟨s1, s2⟩ := hst
  have hmn : M.n = m := by omega
  have HMN := Lib.hid hmn
  clear c7 c8 hn hm hmn
  obtain ⟨wz, hwz⟩ : ∃ z, z = (w.alloc (.cells #[.int .i64 M.lt, .int .i64 M.st, .slice A m c, .slice B m d] 25)) := ⟨_, rfl⟩
  have V := Lib.hid (show Hp w [box 25 w.heap.size [.int .i64 M.lt, .int .i64 M.st, .slice A m c, .slice B m d]] wz by
    have := ((Hp.start w).box_new 25 [.int .i64 M.lt, .int .i64 M.st, .slice A m c, .slice B m d])
    rw [hwz]; simpa using this)
  have HZ := Lib.hid hwz
  clear hwz
  go_enter Try.func51, Try.ntmps51
  go_upto_region 1 with fail
  rw [← HZ.out]
  clear HZ
  obtain ⟨r0_0, _, r0_9⟩ := V.out.box_at (i := 0) (j := 0) rfl rfl
  obtain ⟨r0_1, _, _⟩ := V.out.box_at (i := 0) (j := 1) rfl rfl
  obtain ⟨r0_2, _, _⟩ := V.out.box_at (i := 0) (j := 2) rfl rfl
  obtain ⟨r0_3, _, _⟩ := V.out.box_at (i := 0) (j := 3) rfl rfl
  go_wp2_with fail
  clear r0_9 r0_0 r0_1 r0_2 r0_3
  go_loopw [4] (fun cv wr => ∃ a : Nat, cv = .int .i64 (a : Int) ∧ a ≤ m ∧ (∀ (i : Nat) row, i < a → M.nx[i]? = some row → M.rowB row = true) ∧ Hp w [box 25 w.heap.size [.int .i64 M.lt, .int .i64 M.st, .slice A m c, .slice B m d]] wr) (fun cv _ => m - (intOf cv).toNat)
  case atStart => exact ⟨0, rfl, Nat.zero_le _, fun i row h => absurd h (Nat.not_lt_zero _), V.out⟩
  case round =>
    clear V
    obtain ⟨a, rfl, ham, hr, hV⟩ := hrel
    obtain ⟨wi, rfl⟩ : ∃ wi : World, wi = wr := ⟨_, rfl⟩
    have V := Lib.hid hV
    have HR := Lib.hid hr
    clear hV hr
    obtain ⟨r0_0, _, r0_9⟩ := V.out.box_at (i := 0) (j := 0) rfl rfl
    obtain ⟨r0_1, _, _⟩ := V.out.box_at (i := 0) (j := 1) rfl rfl
    obtain ⟨r0_2, _, _⟩ := V.out.box_at (i := 0) (j := 2) rfl rfl
    obtain ⟨r0_3, _, _⟩ := V.out.box_at (i := 0) (j := 3) rfl rfl
    by_cases hlt : a < m
    · have hal : a < M.nx.length := by have : M.nx.length = m := HMN.out; omega
      obtain ⟨b, off, Aj, cj, hAe, hb0, hcell0, hl1, hl2, hrow⟩ := H.out.row hal
      dsimp only at hAe
      subst hAe
      have hcell := (V.out.below.cell (p := ⟨b, off + a, none⟩) hb0).trans hcell0
      have hb := Nat.lt_of_lt_of_le hb0 V.out.below.size
      have HCELL := Lib.hid hcell0
      have HB0 := Lib.hid hb0
      clear hcell0 hb0
      obtain ⟨row, hrw⟩ : ∃ row, row = M.nx.getD a [] := ⟨_, rfl⟩
      have HRW := Lib.hid (show M.nx[a]? = some row by rw [hrw, List.getD_eq_getElem?_getD, List.getElem?_eq_getElem hal]; rfl)
      rw [← hrw] at hcell hl1 hl2 hrow HCELL
      have HC := Lib.hid hrow
      obtain ⟨ℓ, hℓ⟩ : ∃ l, l = row.length := ⟨_, rfl⟩
      rw [← hℓ] at hcell hl1 hl2 HCELL
      have hlb : ℓ ≤ 17592186044416 := by omega
      have HLL := Lib.hid hℓ
      clear hrw hrow hal hℓ
      by_cases hrl : (ℓ : Int) = M.lt
      · have g1 : ((ℓ : Int) == M.lt) = true := beq_yes hrl
        have g2 : ((ℓ : Int) != M.lt) = false := bne_no hrl
        have hr8 : ℓ ≤ 8 := by omega
        have HL := Lib.hid hrl
        clear hrl
        go_upto_region 9 with fail
        have hKp : Keep [(⟨w.heap.size, 2, none⟩, .slice (some ⟨b, off, none⟩) m c), (⟨b, off + a, none⟩, .slice Aj ℓ cj), (⟨w.heap.size, 0, none⟩, .int .i64 M.lt)] wi := List.forall_mem_cons.2 ⟨⟨r0_2, r0_9⟩, List.forall_mem_cons.2 ⟨⟨hcell, hb⟩, List.forall_mem_cons.2 ⟨⟨r0_0, r0_9⟩, fun _ h => by simp at h⟩⟩⟩
        refine wp_region_held_drew (S := Keep _) (by kernel_rfl) hKp.drew (fun hHeld => ?_)
        have Vd := Lib.hid (V.out.go (bdrew _))
        refine tk 0 ?_ rfl ?_ ?_; rotate_left; focus (intro w hSw; clear hSw; go_simp; try (with_reducible rfl))
        try simp only [Act.put, sA, sZ, sS]
        refine tk 1 ?_ rfl ?_ ?_; rotate_left
        · intro wl hSw
          have hSw : Keep _ wl := hSw
          have k0 : wl.cell? ⟨w.heap.size, 2, none⟩ = some (.slice (some ⟨b, off, none⟩) m c) := (hSw _ (.head _)).1
          clear hSw
          go_simp
          try (with_reducible rfl)
        try simp only [Act.put, sA, sZ, sS]
        refine tk 2 ?_ rfl ?_ ?_; rotate_left; focus (intro w hSw; clear hSw; go_simp; try (with_reducible rfl))
        try simp only [Act.put, sA, sZ, sS]
        refine tk 3 ?_ rfl ?_ ?_; rotate_left; focus (intro w hSw; clear hSw; go_simp; try (with_reducible rfl))
        try simp only [Act.put, sA, sZ, sS]
        refine tk 4 ?_ rfl ?_ ?_; rotate_left
        · intro wl hSw
          have hSw : Keep _ wl := hSw
          have k0 : wl.cell? ⟨b, off + a, none⟩ = some (.slice Aj ℓ cj) := (hSw _ (.tail _ (.head _))).1
          clear hSw
          go_simp
          try (with_reducible rfl)
        try simp only [Act.put, sA, sZ, sS]
        refine tk 5 ?_ rfl ?_ ?_; rotate_left; focus (intro w hSw; clear hSw; go_simp; try (with_reducible rfl))
        try simp only [Act.put, sA, sZ, sS]
        refine tk 6 ?_ rfl ?_ ?_; rotate_left; focus (intro w hSw; clear hSw; go_simp; try (with_reducible rfl))
        try simp only [Act.put, sA, sZ, sS]
        refine tk 7 ?_ rfl ?_ ?_; rotate_left
        · intro wl hSw
          have hSw : Keep _ wl := hSw
          have k0 : wl.cell? ⟨w.heap.size, 0, none⟩ = some (.int .i64 M.lt) := (hSw _ (.tail _ (.tail _ (.head _)))).1
          clear hSw
          go_simp
          try (with_reducible rfl)
        try simp only [Act.put, sA, sZ, sS]
        refine tk 8 ?_ rfl ?_ ?_; rotate_left; focus (intro w hSw; clear hSw; go_simp; try (with_reducible rfl))
        try simp only [Act.put, sA, sZ, sS]
        refine wpAnyH_done (by kernel_rfl) ?_ _
        clear hHeld hKp
        have VD := Lib.hid (V.out.go (bdrew wi))
        clear V r0_9 r0_0 r0_1 r0_2 r0_3 hcell hb
        go_wp2_with fail
        go_loopw [5] (fun cv wr => ∃ j : Nat, cv = .int .i64 (j : Int) ∧ j ≤ ℓ ∧ (∀ (i : Nat) t, i < j → row[i]? = some t → M.toB t = true) ∧ Hp w [box 25 w.heap.size [.int .i64 M.lt, .int .i64 M.st, .slice (some ⟨b, off, none⟩) m c, .slice B m d]] wr) (fun cv _ => ℓ - (intOf cv).toNat)
        case atStart => exact ⟨0, rfl, Nat.zero_le _, fun i t h => absurd h (Nat.not_lt_zero _), VD.out⟩
        case round =>
          clear VD
          obtain ⟨j, rfl, hjL, hr, hV⟩ := hrel
          obtain ⟨wj, rfl⟩ : ∃ wj : World, wj = wr := ⟨_, rfl⟩
          have V := Lib.hid hV
          have HT := Lib.hid hr
          clear hV hr
          have hcell := (V.out.below.cell (p := ⟨b, off + a, none⟩) HB0.out).trans HCELL.out
          have hb := Nat.lt_of_lt_of_le HB0.out V.out.below.size
          obtain ⟨r0_0, _, r0_9⟩ := V.out.box_at (i := 0) (j := 0) rfl rfl
          obtain ⟨r0_1, _, _⟩ := V.out.box_at (i := 0) (j := 1) rfl rfl
          obtain ⟨r0_2, _, _⟩ := V.out.box_at (i := 0) (j := 2) rfl rfl
          obtain ⟨r0_3, _, _⟩ := V.out.box_at (i := 0) (j := 3) rfl rfl
          by_cases hjt : j < ℓ
          · obtain ⟨b2, off2, hAj, hb2, hc2⟩ := (HC.out.below V.out.below).int (j := j) (by rw [← HLL.out]; exact hjt)
            subst hAj
            have hjt2 : (j : Int) < M.lt := by have := HL.out; omega
            obtain ⟨t, ht⟩ : ∃ t, t = row.getD j 0 := ⟨_, rfl⟩
            rw [← ht] at hc2
            have HX := Lib.hid (show row[j]? = some t by rw [ht, List.getD_eq_getElem?_getD, List.getElem?_eq_getElem (by rw [← HLL.out]; exact hjt)]; rfl)
            clear ht
            by_cases ht1 : t < -1
            · have HE := Lib.hid (Au.vE_row HRW.out (Au.rowB_to HX.out (decide_eq_false (by omega))))
              go_wp2_with fail
              go_ret
              exact ⟨ret_int HE.out.symm, V.out.below⟩
            by_cases ht2 : (m : Int) ≤ t
            · have HE := Lib.hid (Au.vE_row HRW.out (Au.rowB_to HX.out (decide_eq_false (by rw [HMN.out]; omega))))
              go_wp2_with fail
              go_ret
              exact ⟨ret_int HE.out.symm, V.out.below⟩
            have H3 := Lib.hid (show ∀ (i : Nat) u, i < j + 1 → row[i]? = some u → M.toB u = true from fun i u hi hu => by
              by_cases e : i = j
              · subst e
                have : some t = some u := HX.out.symm.trans hu
                injection this with this
                subst this
                exact decide_eq_true (by rw [HMN.out]; omega)
              · exact HT.out i u (by omega) hu)
            go_wp2_with fail
            go_roundw
            case rel => exact ⟨j + 1, by go_num, by omega, H3.out, V.out⟩
            case measure => simp [intOf]; omega
          · obtain rfl : j = ℓ := by omega
            have hjt2 : ¬ (j : Int) < M.lt := by have := HL.out; omega
            have H3 := Lib.hid (show ∀ (i : Nat) row, i < a + 1 → M.nx[i]? = some row → M.rowB row = true from fun i u hi hu => by
              by_cases e : i = a
              · subst e
                have : some row = some u := HRW.out.symm.trans hu
                injection this with this
                subst this
                exact Au.rowB_all (by rw [← HLL.out]; exact HL.out) (fun c t hc => HT.out c t (by have := (List.getElem?_eq_some_iff.1 hc).1; have := HLL.out; omega) hc)
              · exact HR.out i u (by omega) hu)
            go_wp2_with fail
            go_roundw
            case rel => exact ⟨a + 1, by go_num, by omega, H3.out, V.out⟩
            case measure => simp [intOf]; omega
      · have g1 : ((ℓ : Int) == M.lt) = false := beq_no hrl
        have g2 : ((ℓ : Int) != M.lt) = true := bne_yes hrl
        have HE := Lib.hid (Au.vE_row HRW.out (Au.rowB_len (by rw [← HLL.out]; exact hrl)))
        clear hrl
        go_upto_region 9 with fail
        have hKp : Keep [(⟨w.heap.size, 2, none⟩, .slice (some ⟨b, off, none⟩) m c), (⟨b, off + a, none⟩, .slice Aj ℓ cj), (⟨w.heap.size, 0, none⟩, .int .i64 M.lt)] wi := List.forall_mem_cons.2 ⟨⟨r0_2, r0_9⟩, List.forall_mem_cons.2 ⟨⟨hcell, hb⟩, List.forall_mem_cons.2 ⟨⟨r0_0, r0_9⟩, fun _ h => by simp at h⟩⟩⟩
        refine wp_region_held_drew (S := Keep _) (by kernel_rfl) hKp.drew (fun hHeld => ?_)
        have Vd := Lib.hid (V.out.go (bdrew _))
        refine tk 0 ?_ rfl ?_ ?_; rotate_left; focus (intro w hSw; clear hSw; go_simp; try (with_reducible rfl))
        try simp only [Act.put, sA, sZ, sS]
        refine tk 1 ?_ rfl ?_ ?_; rotate_left
        · intro wl hSw
          have hSw : Keep _ wl := hSw
          have k0 : wl.cell? ⟨w.heap.size, 2, none⟩ = some (.slice (some ⟨b, off, none⟩) m c) := (hSw _ (.head _)).1
          clear hSw
          go_simp
          try (with_reducible rfl)
        try simp only [Act.put, sA, sZ, sS]
        refine tk 2 ?_ rfl ?_ ?_; rotate_left; focus (intro w hSw; clear hSw; go_simp; try (with_reducible rfl))
        try simp only [Act.put, sA, sZ, sS]
        refine tk 3 ?_ rfl ?_ ?_; rotate_left; focus (intro w hSw; clear hSw; go_simp; try (with_reducible rfl))
        try simp only [Act.put, sA, sZ, sS]
        refine tk 4 ?_ rfl ?_ ?_; rotate_left
        · intro wl hSw
          have hSw : Keep _ wl := hSw
          have k0 : wl.cell? ⟨b, off + a, none⟩ = some (.slice Aj ℓ cj) := (hSw _ (.tail _ (.head _))).1
          clear hSw
          go_simp
          try (with_reducible rfl)
        try simp only [Act.put, sA, sZ, sS]
        refine tk 5 ?_ rfl ?_ ?_; rotate_left; focus (intro w hSw; clear hSw; go_simp; try (with_reducible rfl))
        try simp only [Act.put, sA, sZ, sS]
        refine tk 6 ?_ rfl ?_ ?_; rotate_left; focus (intro w hSw; clear hSw; go_simp; try (with_reducible rfl))
        try simp only [Act.put, sA, sZ, sS]
        refine tk 7 ?_ rfl ?_ ?_; rotate_left
        · intro wl hSw
          have hSw : Keep _ wl := hSw
          have k0 : wl.cell? ⟨w.heap.size, 0, none⟩ = some (.int .i64 M.lt) := (hSw _ (.tail _ (.tail _ (.head _)))).1
          clear hSw
          go_simp
          try (with_reducible rfl)
        try simp only [Act.put, sA, sZ, sS]
        refine tk 8 ?_ rfl ?_ ?_; rotate_left; focus (intro w hSw; clear hSw; go_simp; try (with_reducible rfl))
        try simp only [Act.put, sA, sZ, sS]
        refine wpAnyH_done (by kernel_rfl) ?_ _
        clear hHeld hKp
        have VD := Lib.hid (V.out.go (bdrew wi))
        go_wp2_with fail
        go_ret
        exact ⟨ret_int HE.out.symm, VD.out.below⟩
    · obtain rfl : a = m := by omega
      have HE := Lib.hid (Au.vE_all HH.out (fun i row hr => HR.out i row (by have h1 := (List.getElem?_eq_some_iff.1 hr).1; have : M.nx.length = a := HMN.out; omega) hr))
      go_wp2_with fail
      go_ret
      exact ⟨ret_int HE.out.symm, V.out.below⟩
end Go.Proofs.Ytdkdfmflghbhiaa
