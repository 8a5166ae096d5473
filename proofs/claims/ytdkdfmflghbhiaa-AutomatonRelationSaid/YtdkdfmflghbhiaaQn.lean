/- Contracts of the program: which automata are valid, where words lead. -/
import Derived.Test.YtdkdfmflghbhiaaQb
import Derived.Test.YtdkdfmflghbhiaaAMm
namespace Go.Proofs.Ytdkdfmflghbhiaa
open Go.RowKit
set_option linter.unusedVariables false
set_option linter.unusedSimpArgs false
set_option maxRecDepth 100000

/-- How an automaton is handed over. -/
abbrev dval (x : DV) (M : Au) : Value := .agg #[.int .i64 M.lt, .int .i64 M.st, .slice x.A x.n x.c, .slice x.B x.m x.d]
set_option maxHeartbeats 16000000 in
theorem valid_any (x : DV) (M : Au) (w : World) (h : DfaIn w x M) :
    Calls Try.prog 36 #[dval x M] w fun e w' => e = .returned (.int .i64 M.vE) ∧ Below w.heap.size w w' := by
  have H := Lib.hid h
  have hn : M.n = x.n := h.n
  have hm : M.ac.length = x.m := h.m
  have hcb := h.cb
  have hdb := h.db
  clear h
  by_cases c1 : M.lt < 1
  · have HE := Lib.hid (Au.vE_head (M := M) (decide_eq_false (by omega)))
    go_enter Try.func36, Try.ntmps36
    go_wp2
    go_ret
    exact ⟨ret_int HE.out.symm, bnew _ _⟩
  by_cases c2 : 8 < M.lt
  · have HE := Lib.hid (Au.vE_head (M := M) (decide_eq_false (by omega)))
    go_enter Try.func36, Try.ntmps36
    go_wp2
    go_ret
    exact ⟨ret_int HE.out.symm, bnew _ _⟩
  by_cases c3 : 400 < x.n
  · have HE := Lib.hid (Au.vE_head (M := M) (decide_eq_false (by omega)))
    go_enter Try.func36, Try.ntmps36
    go_wp2
    go_ret
    exact ⟨ret_int HE.out.symm, bnew _ _⟩
  by_cases c4 : x.m = x.n
  case neg =>
    have HE := Lib.hid (Au.vE_head (M := M) (decide_eq_false (by omega)))
    have c5 : ((x.m : Int) != (x.n : Int)) = true := bne_yes (by omega)
    have c6 : ((x.m : Int) == (x.n : Int)) = false := beq_no (by omega)
    go_enter Try.func36, Try.ntmps36
    go_wp2
    go_ret
    exact ⟨ret_int HE.out.symm, bnew _ _⟩
  obtain ⟨A, n, c, B, m, d⟩ := x
  dsimp only at *
  subst c4
  have c5 : ((m : Int) != (m : Int)) = false := bne_no (by omega)
  have c6 : ((m : Int) == (m : Int)) = true := beq_yes (by omega)
  by_cases c7 : m = 0 ∧ ¬ M.st = -1
  · have HE := Lib.hid (Au.vE_head (M := M) (decide_eq_false (by omega)))
    obtain ⟨d1, d2⟩ := c7
    have d3 : ((m : Int) == 0) = true := beq_yes (by omega)
    have d4 : (M.st == -1) = false := beq_no d2
    have d5 : (M.st != -1) = true := bne_yes d2
    go_enter Try.func36, Try.ntmps36
    go_wp2
    go_ret
    exact ⟨ret_int HE.out.symm, bnew _ _⟩
  by_cases c8 : 0 < m ∧ ¬ (0 ≤ M.st ∧ M.st < (m : Int))
  · have HE := Lib.hid (Au.vE_head (M := M) (decide_eq_false (by omega)))
    obtain ⟨d1, d2⟩ := c8
    have d3 : ((m : Int) == 0) = false := beq_no (by omega)
    have d4 : 0 < (m : Int) := by omega
    have HS := Lib.hid (show stB m M.st = false from decide_eq_false d2)
    clear d2
    clear c7 hn hm
    go_enter Try.func36, Try.ntmps36
    go_wp2_with fail
    refine (isState_any M.lt M.st A m c B m d M.st _ hcb).mono ?_
    rintro e w1 ⟨rfl, b1⟩
    rw [HS.out]
    have HB := Lib.hid (btwo (bnew _ _) b1)
    clear b1
    go_wp2_with fail
    go_ret
    exact ⟨ret_int HE.out.symm, HB.out⟩
  have HH := Lib.hid (show M.headB = true from decide_eq_true ⟨by omega, by omega, by omega, by omega, by rcases Nat.eq_zero_or_pos m with e | e; exact Or.inl ⟨by omega, by omega⟩; exact Or.inr ⟨by omega, by omega, by omega⟩⟩)
  obtain ⟨wz, hwz⟩ : ∃ z, z = w.alloc (.cells #[.int .i64 M.lt, .int .i64 M.st, .slice A m c, .slice B m d] 25) := ⟨_, rfl⟩
  have HZ := Lib.hid hwz
  have V := Lib.hid (show Hp w [box 25 w.heap.size [.int .i64 M.lt, .int .i64 M.st, .slice A m c, .slice B m d]] wz by
    have := (Hp.start w).box_new 25 [.int .i64 M.lt, .int .i64 M.st, .slice A m c, .slice B m d]
    rw [hwz]; simpa using this)
  clear hwz
  by_cases h0 : m = 0
  · subst h0
    have d4 : (M.st == -1) = true := beq_yes (by omega)
    have d5 : (M.st != -1) = false := bne_no (by omega)
    go_enter Try.func36, Try.ntmps36
    go_wp2_with fail
    have HE := Lib.hid (Au.vE_all HH.out (fun i row hr => by have h1 := (List.getElem?_eq_some_iff.1 hr).1; have h2 := H.out.n; dsimp only at h2; omega))
    go_loopw [51] (fun cv wr => cv = .int .i64 0 ∧ Below w.heap.size w wr) (fun _ _ => 0)
    case atStart => exact ⟨rfl, bnew _ _⟩
    case round =>
      obtain ⟨rfl, hb⟩ := hrel
      have HB := Lib.hid hb
      clear hb
      go_wp2_with fail
      go_ret
      exact ⟨ret_int HE.out.symm, HB.out⟩
  have d1 : 0 < m := by omega
  have d3 : ((m : Int) == 0) = false := beq_no (by omega)
  have d4 : 0 < (m : Int) := by omega
  have hst : 0 ≤ M.st ∧ M.st < (m : Int) := Classical.not_not.1 (fun hh => c8 ⟨d1, hh⟩)
  have HS := Lib.hid (show stB m M.st = true from decide_eq_true hst)
  have hlt8 : M.lt ≤ 8 := by omega
  have hlt1 : 1 ≤ M.lt := by omega
  have hm400 : m ≤ 400 := by omega
  have hmn : M.n = m := by omega
  clear c8 hst c7 hn hm
  go_enter Try.func36, Try.ntmps36
  go_upto_region 1 with fail
  rw [← HZ.out]
  clear HZ
  obtain ⟨r0, _, r9⟩ := V.out.box_at (i := 0) (j := 0) rfl rfl
  obtain ⟨r1, _, _⟩ := V.out.box_at (i := 0) (j := 1) rfl rfl
  obtain ⟨r2, _, _⟩ := V.out.box_at (i := 0) (j := 2) rfl rfl
  obtain ⟨r3, _, _⟩ := V.out.box_at (i := 0) (j := 3) rfl rfl
  go_wp2_with fail
  refine (isState_any M.lt M.st A m c B m d M.st _ hcb).mono ?_
  rintro e w1 ⟨rfl, b1⟩
  rw [HS.out]
  have V1 := Lib.hid (V.out.go b1)
  clear b1 r0 r1 r2 r3 r9 V
  obtain ⟨r0, _, r9⟩ := V1.out.box_at (i := 0) (j := 0) rfl rfl
  obtain ⟨r1, _, _⟩ := V1.out.box_at (i := 0) (j := 1) rfl rfl
  obtain ⟨r2, _, _⟩ := V1.out.box_at (i := 0) (j := 2) rfl rfl
  obtain ⟨r3, _, _⟩ := V1.out.box_at (i := 0) (j := 3) rfl rfl
  go_wp2_with fail
  have H1 := Lib.hid (show ∀ (i : Nat) row, i < 0 → M.nx[i]? = some row → M.rowB row = true from fun i row h => absurd h (Nat.not_lt_zero _))
  clear r0 r1 r2 r3 r9
  go_loopw [51] (fun cv wr => ∃ a : Nat, cv = .int .i64 (a : Int) ∧ a ≤ m ∧ (∀ (i : Nat) row, i < a → M.nx[i]? = some row → M.rowB row = true) ∧ Hp w [box 25 w.heap.size [.int .i64 M.lt, .int .i64 M.st, .slice A m c, .slice B m d]] wr) (fun cv _ => m - (intOf cv).toNat)
  case atStart => exact ⟨0, rfl, Nat.zero_le _, H1.out, V1.out⟩
  case round =>
    clear H1 V1
    obtain ⟨a, rfl, ham, hr, hV⟩ := hrel
    obtain ⟨wi, rfl⟩ : ∃ wi : World, wi = wr := ⟨_, rfl⟩
    have V := Lib.hid hV
    have HR := Lib.hid hr
    clear hV hr
    by_cases hlt : a < m
    · have hal : a < M.nx.length := by have : M.nx.length = m := hmn; omega
      obtain ⟨b, off, Aj, cj, hAe, hb0, hcell0, hl1, hl2, hrow⟩ := H.out.row hal
      dsimp only at hAe
      subst hAe
      have hcell := (V.out.below.cell (p := ⟨b, off + a, none⟩) hb0).trans hcell0
      have hb := Nat.lt_of_lt_of_le hb0 V.out.below.size
      clear hcell0 hb0
      obtain ⟨row, hrw⟩ : ∃ row, row = M.nx.getD a [] := ⟨_, rfl⟩
      have HRW := Lib.hid (show M.nx[a]? = some row by rw [hrw, List.getD_eq_getElem?_getD, List.getElem?_eq_getElem hal]; rfl)
      rw [← hrw] at hcell hl1 hl2 hrow
      have HC := Lib.hid hrow
      obtain ⟨r0, _, r9⟩ := V.out.box_at (i := 0) (j := 0) rfl rfl
      obtain ⟨r1, _, _⟩ := V.out.box_at (i := 0) (j := 1) rfl rfl
      obtain ⟨r2, _, _⟩ := V.out.box_at (i := 0) (j := 2) rfl rfl
      obtain ⟨r3, _, _⟩ := V.out.box_at (i := 0) (j := 3) rfl rfl
      clear hrw hrow hal
      by_cases hrl : (row.length : Int) = M.lt
      · have g1 : ((row.length : Int) == M.lt) = true := beq_yes hrl
        have g2 : ((row.length : Int) != M.lt) = false := bne_no hrl
        have hr8 : row.length ≤ 8 := by omega
        have HL := Lib.hid hrl
        obtain ⟨L, hL⟩ : ∃ L, L = row.length := ⟨_, rfl⟩
        rw [← hL] at g1 g2 hr8 hcell hl1 hl2
        have HLL := Lib.hid hL
        clear hrl hL
        go_wp2_with fail
        have H2 := Lib.hid (show ∀ (i : Nat) t, i < 0 → row[i]? = some t → M.toB t = true from fun i t h => absurd h (Nat.not_lt_zero _))
        clear r0 r1 r2 r3 r9 hcell hb hl1 hl2
        go_loopw [62] (fun cv wr => ∃ j : Nat, cv = .int .i64 (j : Int) ∧ j ≤ L ∧ (∀ (i : Nat) t, i < j → row[i]? = some t → M.toB t = true) ∧ Hp w [box 25 w.heap.size [.int .i64 M.lt, .int .i64 M.st, .slice (some ⟨b, off, none⟩) m c, .slice B m d]] wr) (fun cv _ => L - (intOf cv).toNat)
        case atStart => exact ⟨0, rfl, Nat.zero_le _, H2.out, V.out⟩
        case round =>
          clear H2
          obtain ⟨j, rfl, hjL, hr, hV⟩ := hrel
          obtain ⟨wj, rfl⟩ : ∃ wj : World, wj = wr := ⟨_, rfl⟩
          have HV := Lib.hid hV
          have HT := Lib.hid hr
          clear hV hr V
          obtain ⟨r0, _, r9⟩ := HV.out.box_at (i := 0) (j := 0) rfl rfl
          obtain ⟨r1, _, _⟩ := HV.out.box_at (i := 0) (j := 1) rfl rfl
          obtain ⟨r2, _, _⟩ := HV.out.box_at (i := 0) (j := 2) rfl rfl
          obtain ⟨r3, _, _⟩ := HV.out.box_at (i := 0) (j := 3) rfl rfl
          by_cases hjt : j < L
          · obtain ⟨b2, off2, rfl, hb2, hc2⟩ := (HC.out.below HV.out.below).int (j := j) (by rw [← HLL.out]; exact hjt)
            obtain ⟨t, ht⟩ : ∃ t, t = row.getD j 0 := ⟨_, rfl⟩
            rw [← ht] at hc2
            have HX := Lib.hid (show row[j]? = some t by rw [ht, List.getD_eq_getElem?_getD, List.getElem?_eq_getElem (by rw [← HLL.out]; exact hjt)]; rfl)
            clear ht
            by_cases ht1 : t = -1
            · have g3 : (t == -1) = true := beq_yes ht1
              have g4 : (t != -1) = false := bne_no ht1
              have H3 := Lib.hid (show ∀ (i : Nat) u, i < j + 1 → row[i]? = some u → M.toB u = true from fun i u hi hu => by
                by_cases e : i = j
                · subst e
                  have : some t = some u := HX.out.symm.trans hu
                  injection this with this
                  subst this
                  exact decide_eq_true (by omega)
                · exact HT.out i u (by omega) hu)
              clear ht1
              go_wp2_with fail
              go_roundw
              case rel => exact ⟨j + 1, by go_num, by omega, H3.out, HV.out⟩
              case measure => simp [intOf]; omega
            · have g3 : (t == -1) = false := beq_no ht1
              have g4 : (t != -1) = true := bne_yes ht1
              by_cases hs : 0 ≤ t ∧ t < (m : Int)
              · have HS2 := Lib.hid (show stB m t = true from decide_eq_true hs)
                have H3 := Lib.hid (show ∀ (i : Nat) u, i < j + 1 → row[i]? = some u → M.toB u = true from fun i u hi hu => by
                  by_cases e : i = j
                  · subst e
                    have : some t = some u := HX.out.symm.trans hu
                    injection this with this
                    subst this
                    exact decide_eq_true (by rw [hmn]; omega)
                  · exact HT.out i u (by omega) hu)
                clear hs ht1
                go_wp2_with fail
                refine (isState_any M.lt M.st _ m c B m d t _ hcb).mono ?_
                rintro e w3 ⟨rfl, b3⟩
                rw [HS2.out]
                have V3 := Lib.hid (HV.out.go b3)
                clear b3
                go_wp2_with fail
                go_roundw
                case rel => exact ⟨j + 1, by go_num, by omega, H3.out, V3.out⟩
                case measure => simp [intOf]; omega
              · have HS2 := Lib.hid (show stB m t = false from decide_eq_false hs)
                have HE := Lib.hid (Au.vE_row HRW.out (Au.rowB_to HX.out (decide_eq_false (by rw [hmn]; omega))))
                clear hs ht1
                go_wp2_with fail
                refine (isState_any M.lt M.st _ m c B m d t _ hcb).mono ?_
                rintro e w3 ⟨rfl, b3⟩
                rw [HS2.out]
                have V3 := Lib.hid (HV.out.go b3)
                clear b3
                go_wp2_with fail
                go_ret
                exact ⟨ret_int HE.out.symm, V3.out.below⟩
          · obtain rfl : j = L := by omega
            have H3 := Lib.hid (show ∀ (i : Nat) row, i < a + 1 → M.nx[i]? = some row → M.rowB row = true from fun i u hi hu => by
              by_cases e : i = a
              · subst e
                have : some row = some u := HRW.out.symm.trans hu
                injection this with this
                subst this
                exact Au.rowB_all HL.out (fun c t hc => HT.out c t (by have := (List.getElem?_eq_some_iff.1 hc).1; have := HLL.out; omega) hc)
              · exact HR.out i u (by omega) hu)
            go_wp2_with fail
            go_roundw
            case rel => exact ⟨a + 1, by go_num, by omega, H3.out, HV.out⟩
            case measure => simp [intOf]; omega
      · have g1 : ((row.length : Int) == M.lt) = false := beq_no hrl
        have g2 : ((row.length : Int) != M.lt) = true := bne_yes hrl
        have HE := Lib.hid (Au.vE_row HRW.out (Au.rowB_len hrl))
        have hlb : row.length ≤ 17592186044416 := by omega
        obtain ⟨L, hL⟩ : ∃ L, L = row.length := ⟨_, rfl⟩
        rw [← hL] at g1 g2 hcell hl1 hlb
        clear hrl hL
        go_wp2_with fail
        go_ret
        exact ⟨ret_int HE.out.symm, V.out.below⟩
    · obtain rfl : a = m := by omega
      have HE := Lib.hid (Au.vE_all HH.out (fun i row hr => HR.out i row (by have h1 := (List.getElem?_eq_some_iff.1 hr).1; have : M.nx.length = a := hmn; omega) hr))
      go_wp2_with fail
      go_ret
      exact ⟨ret_int HE.out.symm, V.out.below⟩
end Go.Proofs.Ytdkdfmflghbhiaa
