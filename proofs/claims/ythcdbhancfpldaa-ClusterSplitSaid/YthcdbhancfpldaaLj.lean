/- Contracts: copied, Few, Explain. -/
import Derived.Test.YthcdbhancfpldaaLh
namespace Go.Proofs.Ythcdbhancfpldaa
open Go.RowKit
set_option linter.unusedVariables false
set_option linter.unusedSimpArgs false
set_option maxRecDepth 100000

def CpPost (C : Clu) (n m : Nat) (w : World) (e : Ending) (w' : World) : Prop := ∃ Q f R g, e = .returned (.agg #[.slice Q n f, .slice R m g]) ∧ CIn w' Q n R m C ∧ n ≤ f ∧ m ≤ g ∧ Below w.heap.size w w'
set_option maxHeartbeats 4000000 in
theorem copied14_any (C : Clu) (A : Option Addr) (n c : Nat) (B : Option Addr) (m d : Nat) (w : World) (hC : CIn w A n B m C) :
    Calls Try.prog 14 #[.agg #[.slice A n c, .slice B m d]] w (CpPost C n m w) := by
  have HC := Lib.hid hC
  have hn := hC.hn
  have hm := hC.hm
  obtain ⟨g0, hg0⟩ : ∃ z, z = w.heap.size := ⟨_, rfl⟩
  obtain ⟨g1, hg1⟩ : ∃ z, z = w.heap.size + 1 := ⟨_, rfl⟩
  obtain ⟨W0, hW0⟩ : ∃ z, z = (w.alloc (.cells #[.slice A n c, .slice B m d] 25)).alloc (.cells #[.slice none 0 0, .slice none 0 0] 25) := ⟨_, rfl⟩
  have V1 := Lib.hid (show Hp w (cbox g1 none 0 0 none 0 0 :: cbox g0 A n c B m d :: []) W0 by
    have := ((Hp.start w).cbox_new A n c B m d).cbox_new none 0 0 none 0 0
    rw [show (w.alloc (.cells #[.slice A n c, .slice B m d] 25)).heap.size = w.heap.size + 1 by simp, ← hg1, ← hg0] at this
    rw [hW0]; exact this)
  have HW0 := Lib.hid hW0
  have HG0 := Lib.hid hg0
  have HG1 := Lib.hid hg1
  clear hC hW0 hg0 hg1
  go_enter Try.func14, Try.ntmps14
  go_upto_region 1 with fail
  rw [← HW0.out, ← HG1.out, ← HG0.out]
  have hKp : Keep [(⟨g0, 0, none⟩, .slice A n c), (⟨g0, 1, none⟩, .slice B m d)] W0 := List.forall_mem_cons.2 ⟨⟨(V1.out.cbox_at (i := 1) rfl).1, (V1.out.cbox_at (i := 1) rfl).2.2⟩, List.forall_mem_cons.2 ⟨⟨(V1.out.cbox_at (i := 1) rfl).2.1, (V1.out.cbox_at (i := 1) rfl).2.2⟩, fun _ h => by simp at h⟩⟩
  refine wp_region_held_drew (S := Keep _) (by kernel_rfl) hKp.drew (fun hHeld => ?_)
  obtain ⟨wh, hwh⟩ : ∃ z, z = W0.drew := ⟨_, rfl⟩
  have Vwh := Lib.hid (show Hp w (cbox g1 none 0 0 none 0 0 :: cbox g0 A n c B m d :: []) wh by rw [hwh]; exact V1.out.go (bdrew _))
  have Bwh := Lib.hid (show Below W0.heap.size W0 wh by rw [hwh]; exact bdrew _)
  rw [← hwh] at hHeld ⊢
  clear hwh hKp
  refine tk 0 ?_ rfl ?_ ?_; rotate_left; focus (intro w hSw; clear hSw; go_simp; try (with_reducible rfl))
  try simp only [Act.put, sA, sZ, sS]
  refine tk 1 ?_ rfl ?_ ?_; rotate_left
  · intro wl hSw
    have hSw : Keep _ wl := hSw
    have k0 := (hSw _ (.head _)).1
    dsimp only at k0
    clear hSw
    go_simp
    try (with_reducible rfl)
  try simp only [Act.put, sA, sZ, sS]
  refine tk 3 ?_ rfl ?_ ?_; rotate_left; focus (intro w hSw; clear hSw; go_simp; try (with_reducible rfl))
  try simp only [Act.put, sA, sZ, sS]
  refine tk 4 ?_ rfl ?_ ?_; rotate_left
  · intro wl hSw
    have hSw : Keep _ wl := hSw
    have k0 := (hSw _ (.tail _ (.head _))).1
    dsimp only at k0
    clear hSw
    go_simp
    try (with_reducible rfl)
  try simp only [Act.put, sA, sZ, sS]
  refine wpAnyH_ready (rs := [2]) (by kernel_rfl) (by simp) ?_
  refine AllReadyH.cons (List.getElem?_toArray.trans rfl) (fun K hK => ?_) AllReadyH.nil
  go_simp
  refine (clone_any C.s n c A _ HC.out.ls hn (HC.out.cs.below Vwh.out.below)).mono ?_
  rintro e w_2 ⟨QS, fS, rfl, hpS⟩
  have V_2 := Lib.hid (show Hp w (snds QS n fS C.s :: cbox g1 none 0 0 none 0 0 :: cbox g0 A n c B m d :: []) w_2 from Vwh.out.join hpS)
  have hbS := hpS.below
  try go_wp2_with fail
  refine hK.out _ _ (hHeld.go hbS) (fun hHeld => ?_)
  clear hK K
  try simp only [Act.put, sA, sZ, sS]
  refine wpAnyH_ready (rs := [5]) (by kernel_rfl) (by simp) ?_
  refine AllReadyH.cons (List.getElem?_toArray.trans rfl) (fun K hK => ?_) AllReadyH.nil
  go_simp
  refine (clone_nums C.b B m d _ _ [] (Hp.start _) HC.out.lb (by omega) (HC.out.cb.below V_2.out.below)).mono ?_
  rintro e w_2_5 ⟨QN, fN, rfl, hpN, _⟩
  have V_2_5 := Lib.hid (show Hp w (nums QN m fN C.b :: snds QS n fS C.s :: cbox g1 none 0 0 none 0 0 :: cbox g0 A n c B m d :: []) w_2_5 from V_2.out.join hpN)
  have hbN := hpN.below
  try go_wp2_with fail
  refine hK.out _ _ (hHeld.go hbN) (fun hHeld => ?_)
  clear hK K
  try simp only [Act.put, sA, sZ, sS]
  refine tk 6 ?_ rfl ?_ ?_; rotate_left; focus (intro w hSw; clear hSw; go_simp; try (with_reducible rfl))
  try simp only [Act.put, sA, sZ, sS]
  refine wpAnyH_ready (rs := [7]) (by kernel_rfl) (by simp) ?_
  refine AllReadyH.cons (List.getElem?_toArray.trans rfl) (fun K hK => ?_) AllReadyH.nil
  obtain ⟨⟨s0, s1, s2⟩, s3, s4⟩ := V_2_5.out.cbox_st (i := 2) rfl
  have X2 := Lib.hid (V_2_5.out.cbox_set (i := 2) rfl QS n fS QN m fN)
  go_simp
  clear s0 s1 s2 s3 s4
  refine hK.out _ _ (List.forall_mem_cons.2 ⟨⟨(X2.out.cbox_at (i := 3) rfl).1, (X2.out.cbox_at (i := 3) rfl).2.2⟩, List.forall_mem_cons.2 ⟨⟨(X2.out.cbox_at (i := 3) rfl).2.1, (X2.out.cbox_at (i := 3) rfl).2.2⟩, fun _ h => by simp at h⟩⟩) (fun hHeld => ?_)
  clear hK K
  try simp only [Act.put, sA, sZ, sS]
  refine wpAnyH_done (by kernel_rfl) ?_ _
  clear hHeld
  obtain ⟨u0, u1, ug⟩ := X2.out.cbox_at (i := 2) rfl
  go_wp2_with fail
  refine bodyPost_ret (v := .agg #[.slice QS n fS, .slice QN m fN]) (by simp [results, Try.results14, go_sem, u0, u1]) rfl ?_
  exact ⟨QS, fS, QN, fN, rfl, ⟨HC.out.ls, HC.out.lb, HC.out.hn, HC.out.hm, HC.out.ht, X2.out.cells (i := 1) (A := QS) (c := fS) rfl rfl, X2.out.cells (i := 0) (A := QN) (c := fN) rfl rfl⟩, (X2.out.cap (i := 1) (A := QS) (c := fS) rfl rfl).1, (X2.out.cap (i := 0) (A := QN) (c := fN) rfl rfl).1, X2.out.below⟩

def fewC (C : Clu) : Bool := fewB C.s 20 && decide (C.b.length ≤ 20)
theorem fewC_in {C : Clu} {w : World} {A B : Option Addr} {n m : Nat} (h : fewC C = true) (hl : C.s.length = n) (hm : C.b.length = m) (ht : ∀ x ∈ C.s, x.t.length ≤ 140737488355328) (h1 : CellsIn w A (sndsC C.s)) (h2 : CellsIn w B (ints C.b)) : CIn w A n B m C := by
  unfold fewC at h
  rw [Bool.and_eq_true] at h
  have a := (few_yes h.1).1
  have b := of_decide_eq_true h.2
  exact ⟨hl, hm, by omega, by omega, ht, h1, h2⟩
set_option maxHeartbeats 4000000 in
theorem rfew14_any (C : Clu) (A : Option Addr) (n c : Nat) (B : Option Addr) (m d : Nat) (w : World) (hl : C.s.length = n) (hm : C.b.length = m) (hn : n ≤ 17592186044416) (hmb : m ≤ 17592186044416) (ht : ∀ x ∈ C.s, x.t.length ≤ 140737488355328) (h1 : CellsIn w A (sndsC C.s)) :
    Calls Try.prog 12 #[.agg #[.slice A n c, .slice B m d]] w fun e w' => e = .returned (.bool (fewC C)) ∧ Below w.heap.size w w' := by
  have V1 := Lib.hid ((Hp.start w).cbox_new A n c B m d)
  obtain ⟨b0, b1, bg⟩ := V1.out.cbox_at (i := 0) rfl
  have HL := Lib.hid hl
  have HM := Lib.hid hm
  have HT := Lib.hid ht
  have H1 := Lib.hid h1
  clear hl hm ht h1
  go_enter Try.func12, Try.ntmps12
  go_wp2_with fail
  refine (few_any C.s 20 n c A _ HL.out hn (by decide) HT.out (H1.out.below V1.out.below)).mono ?_
  rintro e w1 ⟨rfl, rfl⟩
  cases hf : fewB C.s 20 with
  | false =>
    have HE := Lib.hid (show fewC C = false by unfold fewC; rw [hf]; rfl)
    clear hf
    go_wp2_with fail
    go_ret
    exact ⟨ret_bool HE.out.symm, V1.out.below⟩
  | true =>
    by_cases hm20 : m ≤ 20
    · have HE := Lib.hid (show fewC C = true by unfold fewC; rw [hf, HM.out, decide_eq_true hm20]; rfl)
      clear hf
      go_wp2_with fail
      go_ret
      first | exact ⟨ret_bool HE.out.symm, V1.out.below⟩ | exact ⟨ret_bool (by rw [HE.out]; exact decide_eq_true (by omega)), V1.out.below⟩
    · have HE := Lib.hid (show fewC C = false by unfold fewC; rw [hf, HM.out, decide_eq_false hm20]; rfl)
      clear hf
      go_wp2_with fail
      go_ret
      first | exact ⟨ret_bool HE.out.symm, V1.out.below⟩ | exact ⟨ret_bool (by rw [HE.out]; exact decide_eq_false (by omega)), V1.out.below⟩
def wdC (k : Int) : List UInt8 := if k = 1 then [111, 112, 101, 110] else if k = 2 then [109, 117, 116, 101, 32, 97, 110, 100, 32, 108, 105, 113, 117, 105, 100] else if k = 3 then [110, 101, 120, 116, 32, 109, 117, 116, 101, 32, 97, 110, 100, 32, 108, 105, 113, 117, 105, 100] else if k = 4 then [99, 108, 111, 115, 101, 100] else []
theorem ret_str {a b : List UInt8} (h : a = b) : Ending.returned (.string (bs a)) = Ending.returned (.string (bs b)) := by rw [h]
theorem cexplain_any (k : Int) (w : World) : Calls Try.prog 32 #[.int .i64 k] w fun e w' => e = .returned (.string (bs (wdC k))) ∧ w = w' := by
  by_cases h1 : k = 1
  · subst h1
    go_enter Try.func32, Try.ntmps32
    go_wp2
    go_ret
    exact ⟨rfl, rfl⟩
  · skip
    by_cases h2 : k = 2
    · subst h2
      go_enter Try.func32, Try.ntmps32
      go_wp2
      go_ret
      exact ⟨rfl, rfl⟩
    · skip
      by_cases h3 : k = 3
      · subst h3
        go_enter Try.func32, Try.ntmps32
        go_wp2
        go_ret
        exact ⟨rfl, rfl⟩
      · skip
        by_cases h4 : k = 4
        · subst h4
          go_enter Try.func32, Try.ntmps32
          go_wp2
          go_ret
          exact ⟨rfl, rfl⟩
        · skip
          have HE := Lib.hid (show wdC k = [] by unfold wdC; rw [if_neg h1, if_neg h2, if_neg h3, if_neg h4])
          have e1 : (k == 1) = false := beq_no h1
          have e2 : (k == 2) = false := beq_no h2
          have e3 : (k == 3) = false := beq_no h3
          have e4 : (k == 4) = false := beq_no h4
          clear h1 h2 h3 h4
          go_enter Try.func32, Try.ntmps32
          go_wp2
          go_ret
          exact ⟨ret_str HE.out.symm, rfl⟩
theorem rexplain_any (k : Int) (w : World) : Calls Try.prog 33 #[.int .i64 k] w fun e w' => e = .returned (.string (bs (wdC k))) ∧ w = w' := by
  by_cases h1 : k = 1
  · subst h1
    go_enter Try.func33, Try.ntmps33
    go_wp2
    go_ret
    exact ⟨rfl, rfl⟩
  · skip
    by_cases h2 : k = 2
    · subst h2
      go_enter Try.func33, Try.ntmps33
      go_wp2
      go_ret
      exact ⟨rfl, rfl⟩
    · skip
      by_cases h3 : k = 3
      · subst h3
        go_enter Try.func33, Try.ntmps33
        go_wp2
        go_ret
        exact ⟨rfl, rfl⟩
      · skip
        by_cases h4 : k = 4
        · subst h4
          go_enter Try.func33, Try.ntmps33
          go_wp2
          go_ret
          exact ⟨rfl, rfl⟩
        · skip
          have HE := Lib.hid (show wdC k = [] by unfold wdC; rw [if_neg h1, if_neg h2, if_neg h3, if_neg h4])
          have e1 : (k == 1) = false := beq_no h1
          have e2 : (k == 2) = false := beq_no h2
          have e3 : (k == 3) = false := beq_no h3
          have e4 : (k == 4) = false := beq_no h4
          clear h1 h2 h3 h4
          go_enter Try.func33, Try.ntmps33
          go_wp2
          go_ret
          exact ⟨ret_str HE.out.symm, rfl⟩
end Go.Proofs.Ythcdbhancfpldaa
