/- Contracts of the program: lists of nodes; arcs that leave a set. -/
import Derived.Test.YtdoobdfanalnbaaDDf
import Derived.Test.YtdoobdfanalnbaaDAf
import Derived.Test.YtdoobdfanalnbaaDCc
namespace Go.Proofs.Ytdoobdfanalnbaa
open Go.RowKit
set_option linter.unusedVariables false
set_option linter.unusedSimpArgs false
set_option maxRecDepth 100000

/-! ### What a check of a cut answers -/
theorem cc_bad {g : Gr} {l : List Int} (h : ¬ g.vE = 0) : g.ccV l = false := decide_eq_false fun e => h e.1
theorem cc_nl {g : Gr} {l : List Int} (h : nlB g.n l = false) : g.ccV l = false := decide_eq_false fun e => by rw [h] at e; cases e.2.1
theorem cc_start {g : Gr} {l : List Int} (h : decide ((0 : Int) ∈ l) = false) : g.ccV l = false := decide_eq_false fun e => (of_decide_eq_false h) e.2.2.1
theorem cc_end {g : Gr} {l : List Int} (h : decide ((g.n - 1) ∈ l) = true) : g.ccV l = false := decide_eq_false fun e => e.2.2.2.1 (of_decide_eq_true h)
/-- An arc that leaves the nodes marked. -/
def leaves (F : List Bool) (a : Ar) : Bool := F.getD a.f.toNat false && !F.getD a.t.toNat false
theorem nlB_pos {n : Int} {l : List Int} (h : nlB n l = true) : ∀ x ∈ l, 0 ≤ x := fun x hx => ((of_decide_eq_true h).1 x hx).1
theorem cc_all {g : Gr} {l : List Int} {N : Nat} (hv : g.vE = 0) (hN : N = g.n.toNat) (hn : nlB g.n l = true) (h0 : decide ((0 : Int) ∈ l) = true) (h1 : decide ((g.n - 1) ∈ l) = false) : g.ccV l = !(g.rs.any (leaves (marks N l))) := by
  have hO := Gr.ok hv
  have hp := nlB_pos hn
  have hb : ∀ a ∈ g.rs, leaves (marks N l) a = (decide (a.f ∈ l) && !decide (a.t ∈ l)) := fun a ha => by
    have h3 := hO.arc a ha
    unfold leaves
    rw [marks_get (by omega) hp, marks_get (by omega) hp, show ((a.f.toNat : Nat) : Int) = a.f by omega, show ((a.t.toNat : Nat) : Int) = a.t by omega]
  cases hA : g.rs.any (leaves (marks N l)) with
  | true =>
    obtain ⟨a, ha, h4⟩ := List.any_eq_true.1 hA
    rw [hb a ha] at h4
    refine decide_eq_false fun e => ?_
    have h5 := e.2.2.2.2 a ha
    by_cases h6 : a.f ∈ l
    · have h7 := h5 h6
      simp [h6, h7] at h4
    · simp [h6] at h4
  | false =>
    refine decide_eq_true ⟨hv, hn, of_decide_eq_true h0, of_decide_eq_false h1, fun a ha hf => ?_⟩
    have h4 : leaves (marks N l) a = false := by
      cases h5 : leaves (marks N l) a with
      | false => rfl
      | true => rw [List.any_eq_true.2 ⟨a, ha, h5⟩] at hA; cases hA
    rw [hb a ha] at h4
    by_cases h6 : a.t ∈ l
    · exact h6
    · simp [hf, h6] at h4
set_option maxHeartbeats 8000000 in
theorem nodelist_any (g : Gr) (A B : Option Addr) (n c m d : Nat) (L : List Int) (w : World) (hL : L.length = m) (hb : m ≤ 17592186044416) (hB : CellsIn w B (ints L)) :
    Calls Try.prog 89 #[gval g A n c, .slice B m d] w fun e w' => e = .returned (.bool (nlB g.n L)) ∧ Below w.heap.size w w' := by
  have HB := Lib.hid hB
  have HL := Lib.hid hL
  clear hB hL
  obtain ⟨wz, hwz⟩ : ∃ z, z = w.alloc (.cells #[.int .i64 g.n, .slice A n c] 24) := ⟨_, rfl⟩
  have HZ := Lib.hid hwz
  have V := Lib.hid (show Hp w [gbox w.heap.size g A n c] wz by rw [hwz]; exact (Hp.start w).gnew g A n c)
  clear hwz
  go_enter Try.func89, Try.ntmps89
  go_upto_region 1 with fail
  rw [← HZ.out]
  clear HZ
  go_wp2_with fail
  have HR1 := Lib.hid (show ∀ (i : Nat) x, i < 0 → L[i]? = some x → 0 ≤ x ∧ x < g.n from fun i x h => absurd h (Nat.not_lt_zero _))
  have HR2 := Lib.hid (show ∀ (i : Nat) x y, i + 1 < 0 → L[i]? = some x → L[i + 1]? = some y → x < y from fun i x y h => absurd h (Nat.not_lt_zero _))
  go_loopw [9] (fun cv wr => ∃ k : Nat, cv = .int .i64 (k : Int) ∧ k ≤ m ∧ (∀ (i : Nat) x, i < k → L[i]? = some x → 0 ≤ x ∧ x < g.n) ∧ (∀ (i : Nat) x y, i + 1 < k → L[i]? = some x → L[i + 1]? = some y → x < y) ∧ Hp w [gbox w.heap.size g A n c] wr) (fun cv _ => m - (intOf cv).toNat)
  case atStart => exact ⟨0, rfl, Nat.zero_le _, HR1.out, HR2.out, V.out⟩
  case round =>
    clear HR1 HR2 V
    obtain ⟨k, rfl, hkn, hr1, hr2, hV⟩ := hrel
    obtain ⟨wi, rfl⟩ : ∃ wi : World, wi = wr := ⟨_, rfl⟩
    have V := Lib.hid hV
    have HR1 := Lib.hid hr1
    have HR2 := Lib.hid hr2
    clear hV hr1 hr2
    by_cases hlt : k < m
    case neg =>
      obtain rfl : k = m := by omega
      have HE := Lib.hid (show nlB g.n L = true from nlB_ok (fun i x hx => HR1.out i x (by have := (List.getElem?_eq_some_iff.1 hx).1; have := HL.out; omega) hx) (fun i x y hx hy => HR2.out i x y (by have := (List.getElem?_eq_some_iff.1 hy).1; have := HL.out; omega) hx hy))
      go_wp2_with fail
      go_ret
      exact ⟨ret_bool HE.out.symm, V.out.below⟩
    obtain ⟨b, off, rfl, hbl, hc⟩ := (HB.out.below V.out.below).int (j := k) (by rw [HL.out]; exact hlt)
    obtain ⟨x, hx⟩ : ∃ x, x = L.getD k 0 := ⟨_, rfl⟩
    rw [← hx] at hc
    have HX := Lib.hid (show L[k]? = some x by rw [hx, List.getD_eq_getElem?_getD, List.getElem?_eq_getElem (by rw [HL.out]; exact hlt)]; rfl)
    clear hx
    obtain ⟨r0, r1, r9⟩ := V.out.gb (i := 0) rfl
    go_wp2_with fail
    refine (isNode_any g A n c x _).mono ?_
    rintro e w1 ⟨rfl, b1⟩
    have V1 := Lib.hid (V.out.go b1)
    clear b1 r0 r1 r9 hc hbl V
    by_cases e1 : 0 ≤ x ∧ x < g.n
    case neg =>
      have HN := Lib.hid (show ndB g.n x = false from decide_eq_false e1)
      have HE := Lib.hid (show nlB g.n L = false from nlB_no HX.out e1)
      rw [HN.out]
      clear e1
      go_wp2_with fail
      go_ret
      exact ⟨ret_bool HE.out.symm, V1.out.below⟩
    have HN := Lib.hid (show ndB g.n x = true from decide_eq_true e1)
    rw [HN.out]
    have HR3 := Lib.hid (show ∀ (i : Nat) y, i < k + 1 → L[i]? = some y → 0 ≤ y ∧ y < g.n from fun i y hi hy => by
      by_cases e : i = k
      · subst e
        have := HX.out.symm.trans hy
        injection this with this
        rw [← this]; exact e1
      · exact HR1.out i y (by omega) hy)
    clear e1
    by_cases hk0 : k = 0
    · have hk1 : ¬ (0 : Int) < (k : Int) := by omega
      have HR4 := Lib.hid (show ∀ (i : Nat) x y, i + 1 < k + 1 → L[i]? = some x → L[i + 1]? = some y → x < y from fun i x y hi => absurd hi (by omega))
      go_wp2_with fail
      go_roundw
      case rel => exact ⟨k + 1, by go_num, by omega, HR3.out, HR4.out, V1.out⟩
      case measure => simp [intOf]; omega
    · obtain ⟨q, hq⟩ : ∃ q, k = q + 1 := ⟨k - 1, by omega⟩
      have hk1 : (0 : Int) < (k : Int) := by omega
      have hw : IntKind.i64.wrap ((k : Int) - 1) = (q : Int) := by rw [IntWalk.i64_in _ (by omega)]; omega
      obtain ⟨b', off', he, hbl, hc⟩ := (HB.out.below V1.out.below).int (j := q) (by rw [HL.out]; omega)
      injection he with he
      injection he with he1 he2
      subst he1; subst he2
      obtain ⟨y, hy⟩ : ∃ y, y = L.getD q 0 := ⟨_, rfl⟩
      rw [← hy] at hc
      have HY := Lib.hid (show L[q]? = some y by rw [hy, List.getD_eq_getElem?_getD, List.getElem?_eq_getElem (by rw [HL.out]; omega)]; rfl)
      have HX2 := Lib.hid (show L[q + 1]? = some x by rw [← hq]; exact HX.out)
      have hqm : q < m := by omega
      clear hy
      by_cases hxy : x ≤ y
      · have HE := Lib.hid (show nlB g.n L = false from nlB_no2 HY.out HX2.out hxy)
        clear hq
        go_wp2_with fail
        go_ret
        exact ⟨ret_bool HE.out.symm, V1.out.below⟩
      · have HR4 := Lib.hid (show ∀ (i : Nat) x y, i + 1 < k + 1 → L[i]? = some x → L[i + 1]? = some y → x < y from fun i x' y' hi hx' hy' => by
          by_cases e : i = q
          · subst e
            have e2 := HY.out.symm.trans hx'
            have e3 := HX2.out.symm.trans hy'
            injection e2 with e2
            injection e3 with e3
            omega
          · exact HR2.out i x' y' (by omega) hx' hy')
        have hkm : k + 1 ≤ m := by omega
        clear hq
        go_wp2_with fail
        go_roundw
        case rel => exact ⟨k + 1, by go_num, hkm, HR3.out, HR4.out, V1.out⟩
        case measure => simp [intOf]; omega
set_option maxHeartbeats 4000000 in
theorem cclos_any (F : List Bool) (gb gm N : Nat) (a : Ar) (w : World) (h1 : w.cell? ⟨gb, 0, none⟩ = some (.slice (some ⟨gm, 0, none⟩) N N)) (h2 : CellsIn w (some ⟨gm, 0, none⟩) (bools F)) (hF : F.length = N) (hN : N ≤ 2000) (ha : 0 ≤ a.f ∧ a.f < (N : Int) ∧ 0 ≤ a.t ∧ a.t < (N : Int)) :
    Calls Try.prog 90 #[.agg #[.int .i64 a.f, .int .i64 a.t, .int .i64 a.c], .pointer (some ⟨gb, 0, none⟩)] w fun e w' => e = .returned (.bool (leaves F a)) ∧ Below w.heap.size w w' := by
  obtain ⟨f, t, q⟩ := a
  dsimp only at ha
  obtain ⟨f0, f1, t0, t1⟩ := ha
  obtain ⟨f, rfl⟩ := Int.eq_ofNat_of_zero_le f0
  obtain ⟨t, rfl⟩ := Int.eq_ofNat_of_zero_le t0
  have hf : f < N := by omega
  have ht : t < N := by omega
  obtain ⟨wz, hwz⟩ : ∃ z, z = w.alloc (.cells #[.int .i64 (f : Int), .int .i64 (t : Int), .int .i64 q] 60) := ⟨_, rfl⟩
  have HZ := Lib.hid hwz
  have V := Lib.hid (show Hp w [abox w.heap.size ⟨f, t, q⟩] wz by rw [hwz]; exact (Hp.start w).anew ⟨f, t, q⟩)
  clear hwz
  obtain ⟨b1, o1, e1, hbl, hcf⟩ := (h2.below V.out.below).bool (j := f) (by rw [hF]; exact hf)
  injection e1 with e1
  injection e1 with e1 e2
  subst e1; subst e2
  obtain ⟨b2, o2, e1, _, hct⟩ := (h2.below V.out.below).bool (j := t) (by rw [hF]; exact ht)
  injection e1 with e1
  injection e1 with e1 e2
  subst e1; subst e2
  have k1 := (V.out.below.cell (p := ⟨gb, 0, none⟩) (World.block_lt_of_cell? w _ h1)).trans h1
  have hgb := Nat.lt_of_lt_of_le (World.block_lt_of_cell? w _ h1) V.out.below.size
  obtain ⟨x, hx⟩ : ∃ x, x = F.getD f false := ⟨_, rfl⟩
  obtain ⟨y, hy⟩ : ∃ y, y = F.getD t false := ⟨_, rfl⟩
  rw [← hx] at hcf
  rw [← hy] at hct
  have HE := Lib.hid (show leaves F ⟨f, t, q⟩ = (x && !y) by rw [hx, hy]; rfl)
  obtain ⟨s0, s1, s2, s9⟩ := V.out.ab (i := 0) rfl
  dsimp only at s0 s1 s2
  clear h1 h2 hF f0 f1 t0 t1 hx hy
  go_enter Try.func90, Try.ntmps90
  go_upto_region 1 with fail
  rw [← HZ.out]
  clear HZ
  rw [Nat.zero_add] at hcf hct
  rcases x with _ | _ <;> rcases y with _ | _
  · go_wp2_with fail
    go_ret
    exact ⟨ret_bool HE.out.symm, V.out.below⟩
  · go_wp2_with fail
    go_ret
    exact ⟨ret_bool HE.out.symm, V.out.below⟩
  · go_wp2_with fail
    go_ret
    exact ⟨ret_bool HE.out.symm, V.out.below⟩
  · go_wp2_with fail
    go_ret
    exact ⟨ret_bool HE.out.symm, V.out.below⟩
set_option maxHeartbeats 4000000 in
theorem index_arcs (G : World → Prop) (hG : ∀ w w' : World, G w → Below w.heap.size w w' → G w') (f : Ar → Bool) (gb : Nat) (rs : List Ar)
    (hF : ∀ (w : World) (a : Ar), G w → a ∈ rs → Calls Try.prog 90 #[.agg #[.int .i64 a.f, .int .i64 a.t, .int .i64 a.c], .pointer (some ⟨gb, 0, none⟩)] w fun e w' => e = .returned (.bool (f a)) ∧ Below w.heap.size w w')
    (A : Option Addr) (n c : Nat) (w : World) (hn : rs.length = n) (hb : n ≤ 6000) (hc : CellsIn w A (acells rs)) (hw : G w) :
    Calls Try.prog 111 #[.slice A n c, .func (.func 90) #[] #[.pointer (some ⟨gb, 0, none⟩)]] w fun e w' => Below w.heap.size w w' ∧ ((e = .returned (.int .i64 (-1)) ∧ rs.any f = false) ∨
      ∃ i : Nat, e = .returned (.int .i64 (i : Int)) ∧ rs.any f = true) := by
  have HG := Lib.hid hG
  have HF := Lib.hid hF
  have HN := Lib.hid hn
  have HC := Lib.hid hc
  have HW := Lib.hid hw
  clear hG hF hn hc hw
  go_enter Try.func111, Try.ntmps111
  go_wp2_with fail
  go_loopw [8] (fun cv wr => ∃ i : Nat, cv = .int .i64 (i : Int) ∧ i ≤ n ∧ (∀ (j : Nat) q, j < i → rs[j]? = some q → f q = false) ∧ Below w.heap.size w wr) (fun cv _ => n - (intOf cv).toNat)
  case atStart => exact ⟨0, rfl, Nat.zero_le _, fun j q h => absurd h (Nat.not_lt_zero _), Below.refl _ _⟩
  case round =>
    obtain ⟨i, rfl, hin, hr, hbl⟩ := hrel
    obtain ⟨wi, rfl⟩ : ∃ wi : World, wi = wr := ⟨_, rfl⟩
    have HR := Lib.hid hr
    have HB := Lib.hid hbl
    clear hr hbl
    by_cases hlt : i < n
    · have hil : i < rs.length := by rw [HN.out]; exact hlt
      obtain ⟨a, ha⟩ : ∃ a, rs[i]? = some a := ⟨_, List.getElem?_eq_getElem hil⟩
      obtain ⟨e1, e2, e3⟩ := acells_at ha
      obtain ⟨b, off, rfl, hb0, hcc⟩ := (HC.out.below HB.out) (by rw [acells_len]; omega)
      have c1 := hcc _ _ e1
      have c2 := hcc _ _ e2
      have c3 := hcc _ _ e3
      have HP := Lib.hid ha
      have HM := Lib.hid (List.mem_of_getElem? ha)
      have HGW := Lib.hid (HG.out w wi HW.out HB.out)
      obtain ⟨p1, p2, p3⟩ := a
      dsimp only at c1 c2 c3
      rw [show off + (i * 3 + 1) = off + i * 3 + 1 by omega] at c2
      rw [show off + (i * 3 + 2) = off + i * 3 + 2 by omega] at c3
      have hi3 : i * 3 ≤ 18000 := by omega
      clear e1 e2 e3 hcc ha hil
      go_wp2_with fail
      refine (HF.out wi ⟨p1, p2, p3⟩ HGW.out HM.out).mono ?_
      rintro e w2 ⟨rfl, b2⟩
      have HB2 := Lib.hid (btwo HB.out b2)
      clear b2 c1 c2 c3
      cases hf : f ⟨p1, p2, p3⟩ with
      | true =>
        have H3 := Lib.hid (show rs.any f = true from List.any_eq_true.2 ⟨_, HM.out, hf⟩)
        clear hf
        go_wp2_with fail
        go_ret
        exact ⟨HB2.out, .inr ⟨i, rfl, H3.out⟩⟩
      | false =>
        have H3 := Lib.hid (show ∀ (j : Nat) q, j < i + 1 → rs[j]? = some q → f q = false from fun j q hj hq => by
          by_cases e : j = i
          · subst e
            have : some (⟨p1, p2, p3⟩ : Ar) = some q := HP.out.symm.trans hq
            injection this with this
            rw [← this]; exact hf
          · exact HR.out j q (by omega) hq)
        clear hf
        go_wp2_with fail
        go_roundw
        case rel => exact ⟨i + 1, by go_num, by omega, H3.out, HB2.out⟩
        case measure => simp [intOf]; omega
    · have H3 := Lib.hid (show rs.any f = false by
        cases h4 : rs.any f with
        | false => rfl
        | true =>
          obtain ⟨a, ha, h5⟩ := List.any_eq_true.1 h4
          obtain ⟨j, hj⟩ := List.mem_iff_getElem?.1 ha
          rw [HR.out j a (by have := (List.getElem?_eq_some_iff.1 hj).1; have := HN.out; omega) hj] at h5
          cases h5)
      go_wp2_with fail
      go_ret
      exact ⟨HB.out, .inl ⟨rfl, H3.out⟩⟩
theorem contains_arcs (G : World → Prop) (hG : ∀ w w' : World, G w → Below w.heap.size w w' → G w') (f : Ar → Bool) (gb : Nat) (rs : List Ar)
    (hF : ∀ (w : World) (a : Ar), G w → a ∈ rs → Calls Try.prog 90 #[.agg #[.int .i64 a.f, .int .i64 a.t, .int .i64 a.c], .pointer (some ⟨gb, 0, none⟩)] w fun e w' => e = .returned (.bool (f a)) ∧ Below w.heap.size w w')
    (A : Option Addr) (n c : Nat) (w : World) (hn : rs.length = n) (hb : n ≤ 6000) (hc : CellsIn w A (acells rs)) (hw : G w) :
    Calls Try.prog 91 #[.slice A n c, .func (.func 90) #[] #[.pointer (some ⟨gb, 0, none⟩)]] w fun e w' => e = .returned (.bool (rs.any f)) ∧ Below w.heap.size w w' := by
  have HI := Lib.hid (index_arcs G hG f gb rs hF A n c w hn hb hc hw)
  clear hG hF hn hb hc hw
  go_enter Try.func91, Try.ntmps91
  go_wp2_with fail
  refine HI.out.mono ?_
  rintro e w2 ⟨b2, h⟩
  have HB := Lib.hid b2
  clear b2
  rcases h with ⟨rfl, h⟩ | ⟨i, rfl, h⟩
  · have HE := Lib.hid h
    clear h HI
    go_wp2_with fail
    go_ret
    exact ⟨ret_bool HE.out.symm, HB.out⟩
  · have HE := Lib.hid h
    clear h HI
    have hi : (0 : Int) ≤ (i : Int) := by omega
    go_wp2_with fail
    go_ret
    exact ⟨ret_bool HE.out.symm, HB.out⟩
end Go.Proofs.Ytdoobdfanalnbaa
