/- What the statement SoundRebuilt answers: true, whatever the input. -/
import Derived.Test.YtbmldlkjnejfaaaDoorUq
import Derived.Test.YtbmldlkjnejfaaaDoorUx
namespace Go.Proofs.YtbmldlkjnejfaaaDoor
open Go.RowKit
set_option linter.unusedVariables false
set_option linter.unusedSimpArgs false
set_option maxRecDepth 100000

/-- Clusters and nuclei in turn, the first ones of both. -/
def pz : List (List Snd) → List Snd → Nat → List Snd
  | _, _, 0 => []
  | [], _, _ + 1 => []
  | c :: cs, [], n + 1 => c ++ pz cs [] n
  | c :: cs, x :: xs, n + 1 => c ++ x :: pz cs xs n
theorem pz_step : ∀ {C : List (List Snd)} {X : List Snd} {i : Nat} {c : List Snd}, C[i]? = some c → pz C X (i + 1) = pz C X i ++ (c ++ X[i]?.toList)
  | [], X, i, c, h => by simp at h
  | d :: C, [], 0, c, h => by
    have e : d = c := by simpa using h
    subst e; cases C <;> simp [pz]
  | d :: C, x :: X, 0, c, h => by
    have e : d = c := by simpa using h
    subst e; cases C <;> cases X <;> simp [pz]
  | d :: C, [], i + 1, c, h => by
    have ih := @pz_step C [] i c (by simpa using h)
    show d ++ pz C [] (i + 1) = d ++ pz C [] i ++ _
    rw [ih]; simp
  | d :: C, x :: X, i + 1, c, h => by
    have ih := @pz_step C X i c (by simpa using h)
    show d ++ x :: pz C X (i + 1) = d ++ x :: pz C X i ++ _
    rw [ih]; simp
theorem pz_all : ∀ L : List Snd, pz (cluL L) (L.filter nuc) (cluL L).length = L
  | [] => rfl
  | x :: r => by
    have ih := pz_all r
    have e : cluL r = (spl nuc r).1 :: (spl nuc r).2 := splL_spl nuc r
    have e2 : cluL (x :: r) = (spl nuc (x :: r)).1 :: (spl nuc (x :: r)).2 := splL_spl nuc (x :: r)
    cases h : nuc x with
    | true =>
      rw [show cluL (x :: r) = [] :: cluL r from spl_cons_yes r h, List.filter_cons_of_pos h, List.length_cons]
      show [] ++ x :: pz (cluL r) (r.filter nuc) (cluL r).length = _
      rw [ih]; rfl
    | false =>
      have h' : ¬ nuc x = true := by simp [h]
      rw [e2, List.filter_cons_of_neg h', spl, if_neg h', List.length_cons]
      rw [e, List.length_cons] at ih
      cases hX : r.filter nuc with
      | nil => rw [hX] at ih; show (x :: (spl nuc r).1) ++ pz (spl nuc r).2 [] _ = _; rw [List.cons_append]; exact congrArg (x :: ·) ih
      | cons y X => rw [hX] at ih; show (x :: (spl nuc r).1) ++ y :: pz (spl nuc r).2 X _ = _; rw [List.cons_append]; exact congrArg (x :: ·) ih
theorem bt_nuc {x : Snd} (h : nuc x = true) : btS x = 0 := by
  unfold nuc at h
  have : x.k = 1 ∨ x.k = 2 := by simpa using h
  exact btS_is (.inr (.inr ⟨by omega, rfl⟩))
theorem bt_clu : ∀ L : List Snd, ((cluL L).map btL).sum = btL L
  | [] => rfl
  | x :: r => by
    have ih := bt_clu r
    have e : cluL r = (spl nuc r).1 :: (spl nuc r).2 := splL_spl nuc r
    have e2 : cluL (x :: r) = (spl nuc (x :: r)).1 :: (spl nuc (x :: r)).2 := splL_spl nuc (x :: r)
    have ex : btL (x :: r) = btS x + btL r := by simp [btL]
    cases h : nuc x with
    | true =>
      rw [show cluL (x :: r) = [] :: cluL r from spl_cons_yes r h, List.map_cons, List.sum_cons, ih, ex, bt_nuc h]; rfl
    | false =>
      have h' : ¬ nuc x = true := by simp [h]
      rw [e2, spl, if_neg h', List.map_cons, List.sum_cons, ex]
      dsimp only
      rw [e, List.map_cons, List.sum_cons] at ih
      rw [← ih, show btL (x :: (spl nuc r).1) = btS x + btL (spl nuc r).1 by simp [btL]]
      omega
theorem bt_pre (C : List (List Snd)) (i : Nat) : ((C.take i).map btL).sum ≤ (C.map btL).sum := by
  have e : C = C.take i ++ C.drop i := (List.take_append_drop _ _).symm
  have : (C.map btL).sum = ((C.take i).map btL).sum + ((C.drop i).map btL).sum := by
    conv => lhs; rw [e]
    rw [List.map_append, List.sum_append]
  omega
theorem bt_more {C : List (List Snd)} {i : Nat} {c : List Snd} (h : C[i]? = some c) : ((C.take (i + 1)).map btL).sum = ((C.take i).map btL).sum + btL c := by
  rw [take_snoc h, List.map_append, List.sum_append]; simp
theorem nucF_at : ∀ {L : List Snd} {b i : Nat} {p : Int}, (nucF b L)[i]? = some p → ∃ (q : Nat) (x : Snd), p = ((b + q : Nat) : Int) ∧ L[q]? = some x ∧ nuc x = true ∧ (L.filter nuc)[i]? = some x
  | [], b, i, p, h => by simp [nucF] at h
  | x :: r, b, i, p, h => by
    rw [nucF] at h
    cases hx : nuc x with
    | true =>
      rw [if_pos hx] at h
      cases i with
      | zero =>
        refine ⟨0, x, by have : (b : Int) = p := by simpa using h
                         rw [← this]; rfl, rfl, hx, ?_⟩
        rw [List.filter_cons_of_pos hx]; rfl
      | succ i =>
        obtain ⟨q, y, h1, h2, h3, h4⟩ := @nucF_at r (b + 1) i p (by simpa using h)
        refine ⟨q + 1, y, by rw [h1]; congr 1; omega, by simpa using h2, h3, ?_⟩
        rw [List.filter_cons_of_pos hx]; simpa using h4
    | false =>
      have hx' : ¬ nuc x = true := by simp [hx]
      rw [if_neg hx'] at h
      obtain ⟨q, y, h1, h2, h3, h4⟩ := @nucF_at r (b + 1) i p h
      refine ⟨q + 1, y, by rw [h1]; congr 1; omega, by simpa using h2, h3, ?_⟩
      rw [List.filter_cons_of_neg hx']; exact h4
theorem nucI_at {L : List Snd} {i : Nat} {p : Int} (h : (nucI L)[i]? = some p) : ∃ (q : Nat) (x : Snd), p = (q : Int) ∧ L[q]? = some x ∧ nuc x = true ∧ (L.filter nuc)[i]? = some x := by
  obtain ⟨q, x, h1, h2⟩ := nucF_at h
  exact ⟨q, x, by rw [h1, Nat.zero_add], h2⟩
theorem pz_len (L : List Snd) (i : Nat) : (pz (cluL L) (L.filter nuc) i).length ≤ L.length := by
  have key : ∀ (C : List (List Snd)) (X : List Snd) (i j : Nat), (pz C X i).length ≤ (pz C X (i + j)).length := by
    intro C
    induction C with
    | nil => intro X i j; cases i <;> simp [pz]
    | cons c C ih =>
      intro X i j
      cases i with
      | zero => simp [pz]
      | succ i =>
        rw [show i + 1 + j = (i + j) + 1 by omega]
        cases X with
        | nil => have := ih [] i j; simp [pz]; exact this
        | cons x X => have := ih X i j; simp [pz]; exact this
  have hcap : ∀ (C : List (List Snd)) (X : List Snd) (i : Nat), C.length ≤ i → pz C X i = pz C X C.length := by
    intro C
    induction C with
    | nil => intro X i _; cases i <;> rfl
    | cons c C ih =>
      intro X i hi
      cases i with
      | zero => simp at hi
      | succ i =>
        rw [List.length_cons] at hi ⊢
        cases X with
        | nil => simp only [pz]; rw [ih [] i (by omega)]
        | cons x X => simp only [pz]; rw [ih X i (by omega)]
  have hall := congrArg List.length (pz_all L)
  by_cases hi : i ≤ (cluL L).length
  · have := key (cluL L) (L.filter nuc) i ((cluL L).length - i)
    rw [show i + ((cluL L).length - i) = (cluL L).length by omega] at this
    omega
  · rw [hcap _ _ i (by omega)]; omega
set_option maxHeartbeats 16000000 in
theorem lawrebuilt_any (B : List Int) (n c : Nat) (A : Option Addr) (w : World) (hl : B.length = n) (hn : n ≤ 1000000000000000) (hz : ∀ z ∈ B, 0 ≤ z ∧ z ≤ 255) (hA : CellsIn w A (bytesC B)) (hm : MaxAt w) :
    Calls Tryd.prog 9 #[.slice A n c] w fun e w' => e = .returned (.bool true) ∧ Below w.heap.size w w' := by
  have HM := Lib.hid hm
  have HL0 := Lib.hid hl
  have HA := Lib.hid hA
  have HZ := Lib.hid hz
  clear hm hl hA hz
  by_cases hbig : 100 < n
  · go_enter Tryd.func9, Tryd.ntmps9
    go_wp2_with fail
    refine (awake_any _ HM.out).mono ?_
    rintro e w1 ⟨rfl, hb1⟩
    have B1 := Lib.hid hb1
    clear hb1
    go_wp2_with fail
    refine (awake_any _ (HM.out.below B1.out)).mono ?_
    rintro e w3 ⟨rfl, hb3⟩
    go_wp2_with fail
    go_ret
    exact ⟨rfl, btwo B1.out hb3⟩
  · obtain ⟨L, hL⟩ : ∃ L, L = allS B := ⟨_, rfl⟩
    have HL := Lib.hid (show L.length = n by rw [hL, all_len]; exact HL0.out)
    have HLL := Lib.hid hL
    obtain ⟨m, hm⟩ : ∃ m, m = (nucI L).length := ⟨_, rfl⟩
    have hmb : m ≤ 100 := by rw [hm]; exact nuc_bd (by have := HL.out; omega)
    have HML := Lib.hid hm
    have HQL := Lib.hid (show (cluL L).length = m + 1 by rw [hm]; exact cluL_len L)
    have HCR := Lib.hid (show ∀ r ∈ cluL L, r.length ≤ 100 from clu_row (by have := HL.out; omega))
    have HBT := Lib.hid (show btL L ≤ 200 by have := btL_le L; have := HL.out; omega)
    clear hm hL
    go_enter Tryd.func9, Tryd.ntmps9
    go_wp2_with fail
    refine (awake_any _ HM.out).mono ?_
    rintro e w1 ⟨rfl, hb1⟩
    have B1 := Lib.hid hb1
    clear hb1
    go_wp2_with fail
    refine (all_any B n c A _ HL0.out (by omega) HZ.out (HA.out.below B1.out)).mono ?_
    rintro e w2 ⟨KL, d2, rfl, hp2⟩
    rw [← HLL.out] at hp2
    have B2 := Lib.hid (btwo B1.out hp2.below)
    have C2 := Lib.hid (hp2.cells (i := 0) (A := KL) (c := d2) rfl rfl)
    clear hp2
    go_wp2_with fail
    refine (nuclei_any L n d2 KL _ HL.out (by omega) C2.out).mono ?_
    rintro e w3 ⟨KN, m3, d3, rfl, hm3, hp3⟩
    obtain rfl : m3 = m := by rw [hm3, HML.out]
    have B3 := Lib.hid (btwo B2.out hp3.below)
    have C23 := Lib.hid (C2.out.below hp3.below)
    have N3 := Lib.hid (hp3.cells (i := 0) (A := KN) (c := d3) rfl rfl)
    clear hp3 hm3
    go_wp2_with fail
    refine (clusters_any L n d2 KL _ HL.out (by omega) C23.out).mono ?_
    rintro e w4 ⟨KC, q4, d4, vs4, rfl, hq4, hv4, hp4⟩
    obtain rfl : q4 = m3 + 1 := by rw [← hq4, HQL.out]
    have B4 := Lib.hid (btwo B3.out hp4.below)
    have CL := Lib.hid (C23.out.below hp4.below)
    have CN := Lib.hid (N3.out.below hp4.below)
    have CC := Lib.hid (clu_in hp4 hv4 hq4 (by have := HL.out; omega))
    clear hp4 hv4 hq4
    have e1 : (((m3 : Int) + 1) != ((m3 : Int) + 1)) = false := by simp
    go_wp2_with fail
    obtain ⟨w0, hw0⟩ : ∃ w0 : World, w0 = w4 := ⟨_, rfl⟩
    rw [← hw0] at B4 CL CN CC ⊢
    clear hw0
    obtain ⟨X, hX⟩ : ∃ X, X = L.filter nuc := ⟨_, rfl⟩
    have HX := Lib.hid hX
    clear hX
    go_loopw [6, 7, 32] (fun v b iv wr => ∃ (i l d m : Nat) (D : Option Addr), i ≤ m3 + 1 ∧ m ≤ 200 ∧ l ≤ 100 ∧ iv = .int .i64 i ∧ b = .int .i64 m ∧ v = .slice D l d ∧ (((cluL L).take i).map btL).sum = m ∧ (pz (cluL L) X i).length = l ∧ Hp w0 [snds D l d (pz (cluL L) X i)] wr) (fun _ _ iv _ => m3 + 1 - (intOf iv).toNat)
    case atStart => exact ⟨0, 0, 0, 0, none, Nat.zero_le _, Nat.zero_le _, Nat.zero_le _, rfl, rfl, rfl, rfl, by simp [pz], by
      rw [show pz (cluL L) X 0 = [] by cases cluL L <;> rfl]
      exact (Hp.start w0).nil_row _ rfl rfl rfl⟩
    case round =>
      obtain ⟨i, l, d, m, D, hi, hm2, hl2, rfl, rfl, rfl, hbs, hpl, hV⟩ := hrel
      have V := Lib.hid hV
      have HBS := Lib.hid hbs
      have HPL := Lib.hid hpl
      by_cases hlt : i < m3 + 1
      · obtain ⟨row, hrow⟩ := idx_lt HQL.out hlt
        obtain ⟨b, off, hKC, hb, hr⟩ := (CC.out.below hV.below) (by rw [HQL.out]; omega)
        obtain ⟨Aj, cj, c0, hjc, _, cr⟩ := hr i row hrow
        have hrl : row.length ≤ 100 := HCR.out row (List.mem_of_getElem? hrow)
        obtain ⟨rl, hrl2⟩ : ∃ rl, row.length = rl := ⟨_, rfl⟩
        rw [hrl2] at c0 hrl hjc
        have HRL := Lib.hid hrl2
        have HR := Lib.hid hrow
        have CR := Lib.hid cr
        have hstep := pz_step (X := X) hrow
        have hsum := bt_more hrow
        have hpre := bt_pre (cluL L) (i + 1)
        rw [bt_clu, hsum, hbs] at hpre
        have hmb2 : m + btL row ≤ 200 := by have := HBT.out; omega
        have hlb2 : (pz (cluL L) X (i + 1)).length ≤ 100 := by rw [HX.out]; have := pz_len L (i + 1); have := HL.out; omega
        obtain ⟨br, hbr⟩ : ∃ br, br = btL row := ⟨_, rfl⟩
        have HBR := Lib.hid hbr
        rw [← hbr] at hmb2
        have HSU := Lib.hid (show (((cluL L).take (i + 1)).map btL).sum = m + br by rw [hsum, hbs, hbr])
        have HST := Lib.hid hstep
        obtain ⟨A6, c6, w6, hr6, hv6, _⟩ := run_cat_snds V.out (i := 0) rfl 26 (B := Aj) (m := rl) (d := cj) row hrl2 cr (by omega) (by omega)
        have V6 := Lib.hid (show Hp w0 [snds A6 (l + rl) c6 (pz (cluL L) X i ++ row)] w6 from hv6)
        have HR6 := Lib.hid hr6
        subst hKC
        have HCRB := Lib.hid (show CellsIn w6 Aj (sndsC row) by
          have hr2 := (CC.out.below V6.out.below) (by rw [HQL.out]; omega)
          obtain ⟨b2, o2, e2, _, hr2⟩ := hr2
          obtain ⟨Aj2, cj2, c02, _, _, cr2⟩ := hr2 i row HR.out
          injection e2 with e2
          injection e2 with e2 e3
          subst e2; subst e3
          have hW := CC.out (by rw [HQL.out]; omega)
          obtain ⟨b3, o3, e4, hb3, hr3⟩ := hW
          obtain ⟨Aj3, cj3, c03, _, _, cr3⟩ := hr3 i row HR.out
          injection e4 with e4
          injection e4 with e4 e5
          subst e4; subst e5
          have x1 := (V.out.below.cell (p := ⟨b, off + i, none⟩) hb3).trans c03
          rw [HRL.out] at x1
          rw [c0] at x1
          injection x1 with x1
          injection x1 with x1 _ _
          rw [x1]
          exact cr3.below V6.out.below)
        clear hr6 hv6 hrow hr cr hrl2 hstep hsum hpre hbr hV hbs hpl
        go_wp2_with (at_builtin; refine wpList_app_run rfl (.tmp 37) (.tmp 38) 26 rfl HR6.out rfl rfl ?_)
        refine (beats_any row rl cj Aj _ HRL.out (by omega) HCRB.out).mono ?_
        rintro e w7 ⟨rfl, hb7⟩
        rw [← HBR.out]
        have V7 := Lib.hid (V6.out.go hb7)
        clear hb7
        by_cases him : i < m3
        · obtain ⟨p, hp⟩ := idx_lt HML.out.symm him
          obtain ⟨q, x, rfl, hx, hnx, hxi⟩ := nucI_at hp
          obtain ⟨bn, on, hKN, hbn, n0⟩ := (CN.out.below V7.out.below).int (j := i) (by rw [← HML.out]; exact him)
          rw [show (nucI L).getD i 0 = (q : Int) by rw [List.getD_eq_getElem?_getD, hp]; rfl] at n0
          obtain ⟨bl, ol, hKL, hbl, x0, x1, x2⟩ := (CL.out.below V7.out.below).snd hx
          have hqn : q < n := by have := (List.getElem?_eq_some_iff.1 hx).1; have := HL.out; omega
          have hq0 : (0 : Int) ≤ (q : Int) := by omega
          have hq1 : (q : Int) < (n : Int) := by omega
          have HNX := Lib.hid hnx
          have hpx : pz (cluL L) X (i + 1) = pz (cluL L) X i ++ row ++ [x] := by
            rw [HST.out, HX.out, hxi]; simp
          have HPX := Lib.hid hpx
          have hlx : l + rl + 1 ≤ 100 := by
            rw [hpx, List.length_append, List.length_append, HPL.out, HRL.out] at hlb2
            exact hlb2
          subst hKN
          subst hKL
          have hbn7 := hbn
          clear hp hx hnx hxi hpx hlb2
          go_wp2_with fail
          refine (nucleus_any x _).mono ?_
          rintro e w8 ⟨rfl, hb8⟩
          rw [HNX.out]
          have V8 := Lib.hid (V7.out.go hb8)
          have m0 := (hb8.cell (p := ⟨bn, on + i, none⟩) hbn).trans n0
          have y0 := (hb8.cell (p := ⟨bl, ol + q * 3, none⟩) hbl).trans x0
          have y1 := (hb8.cell (p := ⟨bl, ol + q * 3 + 1, none⟩) hbl).trans x1
          have y2 := (hb8.cell (p := ⟨bl, ol + q * 3 + 2, none⟩) hbl).trans x2
          have hbn8 : bn < w8.heap.size := Nat.lt_of_lt_of_le hbn hb8.size
          have hbl8 : bl < w8.heap.size := Nat.lt_of_lt_of_le hbl hb8.size
          clear hb8 n0 x0 x1 x2
          obtain ⟨wy, hwy⟩ : ∃ wy, wy = w8.alloc (.cells #[.int .i64 x.k, .int .i64 x.q, .string (bs x.t)] 23) := ⟨_, rfl⟩
          have V9 := Lib.hid (show Hp w0 [sbox w8.heap.size x, snds A6 (l + rl) c6 (pz (cluL L) X i ++ row)] wy by rw [hwy]; exact V8.out.sbox_new x)
          obtain ⟨g10, cap10, w10, hr10, hv10, _⟩ := run_app_snd V9.out (i := 1) rfl 26 (b := w8.heap.size) x (fun j u hu => (V9.out.box_at (i := 0) rfl hu).1) (by omega)
          have V10 := Lib.hid (show Hp w0 [snds (some ⟨g10, 0, none⟩) (l + rl + 1) cap10 (pz (cluL L) X (i + 1))] w10 by rw [HPX.out]; exact hv10.tail)
          have HR10 := Lib.hid hr10
          have HWY := Lib.hid hwy
          have HPL2 := Lib.hid (show (pz (cluL L) X (i + 1)).length = l + rl + 1 by rw [HPX.out, List.length_append, List.length_append, HPL.out, HRL.out]; rfl)
          clear hwy hr10 hv10
          go_wp2_with (at_builtin; rw [← HWY.out]; refine wpList_app_run rfl (.tmp 73) (.tmp 81) 26 rfl HR10.out rfl rfl ?_)
          go_roundw
          case rel => exact ⟨i + 1, l + rl + 1, cap10, m + br, _, by omega, by omega, by omega, by go_num, by go_num, rfl, HSU.out, HPL2.out, V10.out⟩
          case measure => simp [intOf]; omega
        · have hi3 : i = m3 := by omega
          have hxn : X[i]? = none := by
            rw [HX.out, List.getElem?_eq_none]
            rw [← List.countP_eq_length_filter, ← nucI_len, ← HML.out]; omega
          have hpx : pz (cluL L) X (i + 1) = pz (cluL L) X i ++ row := by rw [HST.out, hxn]; simp
          have HPX := Lib.hid hpx
          have hlx : l + rl ≤ 100 := by
            rw [hpx, List.length_append, HPL.out, HRL.out] at hlb2
            exact hlb2
          have V10 := Lib.hid (show Hp w0 [snds A6 (l + rl) c6 (pz (cluL L) X (i + 1))] w7 by rw [HPX.out]; exact V7.out)
          have HPL2 := Lib.hid (show (pz (cluL L) X (i + 1)).length = l + rl by rw [HPX.out, List.length_append, HPL.out, HRL.out])
          have him2 : ¬ (i : Int) < (m3 : Int) := by omega
          clear hxn hpx hlb2 hi3
          go_wp2_with fail
          go_roundw
          case rel => exact ⟨i + 1, l + rl, c6, m + br, _, by omega, by omega, by omega, by go_num, by go_num, rfl, HSU.out, HPL2.out, V10.out⟩
          case measure => simp [intOf]; omega
      · obtain rfl : i = m3 + 1 := by omega
        have hpz : pz (cluL L) X (m3 + 1) = L := by rw [HX.out, ← HQL.out]; exact pz_all L
        rw [hpz] at hpl hV
        have hbs2 : btL L = m := by rw [take_all HQL.out, bt_clu] at hbs; exact hbs
        obtain rfl : l = n := by rw [← hpl]; exact HL.out
        have HBT2 := Lib.hid hbs2
        have B9 := Lib.hid hV.below
        have C9 := Lib.hid (hV.cells (i := 0) (A := D) (c := d) rfl rfl)
        clear hpz hpl hV hbs hbs2 V HBS HPL
        go_wp2_with fail
        refine (rsame_any L L l l d d2 D KL _ HL.out HL.out (by omega) (by omega) C9.out (CL.out.below B9.out)).mono ?_
        rintro e w10 ⟨rfl, hb10⟩
        rw [eqB_yes rfl]
        have B10 := Lib.hid (btwo B9.out hb10)
        clear hb10
        go_wp2_with fail
        refine (beats_any L l d2 KL _ HL.out (by omega) (CL.out.below B10.out)).mono ?_
        rintro e w11 ⟨rfl, hb11⟩
        rw [HBT2.out]
        have B11 := Lib.hid (btwo B10.out hb11)
        clear hb11
        have e9 : ((m : Int) == (m : Int)) = true := by simp
        go_wp2_with fail
        go_ret
        exact ⟨rfl, btwo B4.out B11.out⟩
end Go.Proofs.YtbmldlkjnejfaaaDoor
