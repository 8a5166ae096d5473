/- The walk of the statement NaturalSums. -/
import Derived.Test.YtiokdfgmamfodaaDoorNLive
import Derived.Deep.DeepCutAuto
namespace Go.Proofs.YtiokdfgmamfodaaDoor
open Go.RowKit
set_option linter.unusedVariables false

/-- What a region leaves that calls a function on two copies. -/
def RegP (r : Int × Int) (w2 : World) (s5 s6 : Value) (w : World) : Prop :=
  ∃ g A c n, s5 = .pointer (some ⟨g, 0, none⟩) ∧ s6 = .int .i64 r.2 ∧ n = (digs r.1).length ∧ g < w.heap.size ∧ w.cell? ⟨g, 0, none⟩ = some (.slice A n c) ∧ IntsIn w A (digs r.1) ∧ n ≤ c ∧ c ≤ maxLen ∧ Below w2.heap.size w2 w
def KeptAt (g : Nat) (w : World) : Prop := w.heap[g]? = some (.cells #[.slice none 0 0] 24 (0, 0))
theorem KeptAt.facts {g : Nat} {w : World} (h : KeptAt g w) : w.cell? ⟨g, 0, none⟩ = some (.slice none 0 0) ∧ w.frozen? ⟨g, 0, none⟩ = false := by
  unfold KeptAt at h
  refine ⟨?_, ?_⟩
  · rw [cell_of_row w _ 0 _ _ _ h]; rfl
  · simp [World.frozen?, h]
theorem kept_new {w w' : World} (hb : Below (w.alloc (.cells #[.slice none 0 0] 24)).heap.size (w.alloc (.cells #[.slice none 0 0] 24)) w') : KeptAt w.heap.size w' ∧ w'.cell? ⟨w.heap.size, 0, none⟩ = some (.slice none 0 0) ∧ w'.frozen? ⟨w.heap.size, 0, none⟩ = false ∧ w.heap.size < w'.heap.size := by
  have h : KeptAt w.heap.size w' := by
    unfold KeptAt
    rw [hb.block _ (by simp)]; exact heap_alloc_new w _
  have := hb.size
  simp at this
  exact ⟨h, h.facts.1, h.facts.2, by omega⟩
theorem kept_newd {w w' : World} (hb : Below (w.alloc (.cells #[.slice none 0 0] 24)).drew.heap.size (w.alloc (.cells #[.slice none 0 0] 24)).drew w') : KeptAt w.heap.size w' ∧ w'.cell? ⟨w.heap.size, 0, none⟩ = some (.slice none 0 0) ∧ w'.frozen? ⟨w.heap.size, 0, none⟩ = false ∧ w.heap.size < w'.heap.size :=
  kept_new (btwo (Below.refl _ _).drew hb)
theorem kept_old {w w' : World} {g : Nat} (h : KeptAt g w) (hs : g < w.heap.size) (hb : Below w.heap.size w w') : KeptAt g w' ∧ w'.cell? ⟨g, 0, none⟩ = some (.slice none 0 0) ∧ w'.frozen? ⟨g, 0, none⟩ = false ∧ g < w'.heap.size := by
  have h2 : KeptAt g w' := by
    unfold KeptAt
    rw [hb.block _ hs]; exact h
  have := hb.size
  exact ⟨h2, h2.facts.1, h2.facts.2, by omega⟩
theorem reg_old {r : Int × Int} {w2 w : World} {g n c : Nat} {A : Option Addr} (h : KeptAt g w) (hg : w2.heap.size ≤ g) (hs : g < w.heap.size) (hn : n = (digs r.1).length) (hi : IntsIn w A (digs r.1)) (hc : n ≤ c) (hm : c ≤ maxLen) (hb : Below w2.heap.size w2 w) :
    RegP r w2 (.pointer (some ⟨g, 0, none⟩)) (.int .i64 r.2) (w.setCell ⟨g, 0, none⟩ (.slice A n c)) := by
  have h1 : w.heap[g]? = some (.cells #[.slice none 0 0] 24 (0, 0)) := h
  refine ⟨g, A, c, n, rfl, rfl, hn, ?_, ?_, hi.store (x := .slice none 0 0) h1, hc, hm, hb.setCell (p := ⟨g, 0, none⟩) hg _⟩
  · simpa using hs
  · exact World.cell?_setCell_same w _ _ h.facts.1
theorem reg_new {r : Int × Int} {w2 w : World} {n c : Nat} {A : Option Addr} (hn : n = (digs r.1).length) (hi : IntsIn w A (digs r.1)) (hc : n ≤ c) (hm : c ≤ maxLen) (hb : Below w2.heap.size w2 w) :
    RegP r w2 (.pointer (some ⟨w.heap.size, 0, none⟩)) (.int .i64 r.2) (w.alloc (.cells #[.slice A n c] 24)) :=
  ⟨w.heap.size, A, c, n, rfl, rfl, hn, by simp, row_cell (heap_alloc_new w _), hi.below one_new, hc, hm, btwo hb one_new⟩
theorem keepS {w2 w w' : World} {g1 g2 : Nat} {v1 v2 : Value} (h1 : w2.cell? ⟨g1, 0, none⟩ = some v1 ∧ g1 < w2.heap.size) (h2 : w2.cell? ⟨g2, 0, none⟩ = some v2 ∧ g2 < w2.heap.size) (hb : Below w.heap.size w w')
    (h : w.cell? ⟨g1, 0, none⟩ = some v1 ∧ w.cell? ⟨g2, 0, none⟩ = some v2 ∧ Below w2.heap.size w2 w) : w'.cell? ⟨g1, 0, none⟩ = some v1 ∧ w'.cell? ⟨g2, 0, none⟩ = some v2 ∧ Below w2.heap.size w2 w' := by
  have hb2 := btwo h.2.2 hb
  exact ⟨(cell_old h1.1 h1.2 hb2).1, (cell_old h2.1 h2.2 hb2).1, hb2⟩
theorem keepT {w2 w : World} {g g1 g2 : Nat} {v v1 v2 : Value} (h1 : w2.cell? ⟨g1, 0, none⟩ = some v1 ∧ g1 < w2.heap.size) (h2 : w2.cell? ⟨g2, 0, none⟩ = some v2 ∧ g2 < w2.heap.size) (hg : w2.heap.size ≤ g)
    (h : w.cell? ⟨g1, 0, none⟩ = some v1 ∧ w.cell? ⟨g2, 0, none⟩ = some v2 ∧ Below w2.heap.size w2 w) : (w.setCell ⟨g, 0, none⟩ v).cell? ⟨g1, 0, none⟩ = some v1 ∧ (w.setCell ⟨g, 0, none⟩ v).cell? ⟨g2, 0, none⟩ = some v2 ∧ Below w2.heap.size w2 (w.setCell ⟨g, 0, none⟩ v) := by
  have hb2 : Below w2.heap.size w2 (w.setCell ⟨g, 0, none⟩ v) := h.2.2.setCell (p := ⟨g, 0, none⟩) hg _
  exact ⟨(cell_old h1.1 h1.2 hb2).1, (cell_old h2.1 h2.2 hb2).1, hb2⟩
theorem keepB {w2 w' : World} {g1 g2 : Nat} {v1 v2 : Value} (h1 : w2.cell? ⟨g1, 0, none⟩ = some v1 ∧ g1 < w2.heap.size) (h2 : w2.cell? ⟨g2, 0, none⟩ = some v2 ∧ g2 < w2.heap.size) (hb : Below w2.heap.size w2 w') : w'.cell? ⟨g1, 0, none⟩ = some v1 ∧ w'.cell? ⟨g2, 0, none⟩ = some v2 ∧ Below w2.heap.size w2 w' :=
  ⟨(cell_old h1.1 h1.2 hb).1, (cell_old h2.1 h2.2 hb).1, hb⟩
theorem belS {w2 w w' : World} {g1 g2 : Nat} {v1 v2 : Value} (hb : Below w.heap.size w w') (h : w.cell? ⟨g1, 0, none⟩ = some v1 ∧ w.cell? ⟨g2, 0, none⟩ = some v2 ∧ Below w2.heap.size w2 w) : Below w2.heap.size w2 w' := btwo h.2.2 hb
theorem leB {w2 w w' : World} (hs : w.heap.size < w'.heap.size) (h : Below w2.heap.size w2 w) : w2.heap.size ≤ w.heap.size := h.size
theorem sizeS {w2 w : World} {g1 g2 : Nat} {v1 v2 : Value} (h : w.cell? ⟨g1, 0, none⟩ = some v1 ∧ w.cell? ⟨g2, 0, none⟩ = some v2 ∧ Below w2.heap.size w2 w) : w2.heap.size ≤ w.heap.size := h.2.2.size
theorem sizeK {w2 w w' : World} {g1 g2 : Nat} {v1 v2 : Value} (hs : w.heap.size < w'.heap.size) (h : w.cell? ⟨g1, 0, none⟩ = some v1 ∧ w.cell? ⟨g2, 0, none⟩ = some v2 ∧ Below w2.heap.size w2 w) : w2.heap.size ≤ w.heap.size := h.2.2.size
theorem intsS {w2 w : World} {g1 g2 : Nat} {v1 v2 : Value} {A : Option Addr} {L : List Int} (hi : IntsIn w2 A L)
    (h : w.cell? ⟨g1, 0, none⟩ = some v1 ∧ w.cell? ⟨g2, 0, none⟩ = some v2 ∧ Below w2.heap.size w2 w) : IntsIn w A L := hi.below h.2.2
set_option maxHeartbeats 1000000 in
theorem lawsums_big (L0 : List Int) (n0 c0 : Nat) (A0 : Option Addr) (L1 : List Int) (n1 c1 : Nat) (A1 : Option Addr) (W : World) (hr0 : n0 ≤ 17592186044416) (hr1 : n1 ≤ 17592186044416) (hT : Tab W) (hbig : ¬ n0 + n1 ≤ 420) :
    Calls Tryd.prog 4 #[.agg #[.slice A0 n0 c0], .agg #[.slice A1 n1 c1]] W fun e w' => e = .returned (.bool true) ∧ Below W.heap.size W w' := by
  have HT := Lib.hid (hT.below (box2_below W (.slice A0 n0 c0) (.slice A1 n1 c1)))
  have HF := Lib.hid (few_no hbig)
  have HS := Lib.hid (small2 hr0 hr1)
  clear hT hbig hr0 hr1
  go_enter Tryd.func4, Tryd.ntmps4
  go_wp2_with fail
  refine (awake_any _ HT.out).mono ?_
  rintro e w1 ⟨rfl, hb1⟩
  obtain ⟨ha1, hb1', hs1, hbw1⟩ := keep2 hb1
  have HB1 := Lib.hid hb1
  clear hb1 hbw1
  go_wp2_with fail
  refine (few_any [n0, n1] _ 2 2 _ rfl (by omega) HS.out (nats2 _ _ _ _ _ _ _ _ _ (by simp))).mono ?_
  rintro e w2 ⟨rfl, rfl⟩
  rw [HF.out]
  go_wp2_with fail
  refine (awake_any _ ((HT.out.below HB1.out).below ((Below.refl _ _).alloc (Nat.le_refl _) _))).mono ?_
  rintro e w3 ⟨rfl, hb3⟩
  have HB3 := Lib.hid (btwo HB1.out (((Below.refl _ _).alloc (Nat.le_refl _) _).trans (hb3.mono (by simp))))
  clear hb3
  go_wp2_with fail
  go_ret
  exact ⟨rfl, (keep2 HB3.out).2.2.2⟩
set_option maxRecDepth 100000 in
set_option maxHeartbeats 2000000 in
theorem lawsums_small (L0 : List Int) (n0 c0 : Nat) (A0 : Option Addr) (L1 : List Int) (n1 c1 : Nat) (A1 : Option Addr) (W : World) (hl0 : L0.length = n0) (hc0 : n0 ≤ c0) (hi0 : IntsIn W A0 L0) (hl1 : L1.length = n1) (hc1 : n1 ≤ c1) (hi1 : IntsIn W A1 L1) (hT : Tab W) (hsm : n0 + n1 ≤ 420) :
    Calls Tryd.prog 4 #[.agg #[.slice A0 n0 c0], .agg #[.slice A1 n1 c1]] W fun e w' => e = .returned (.bool true) ∧ Below W.heap.size W w' := by
  have HT := Lib.hid (hT.below (box2_below W (.slice A0 n0 c0) (.slice A1 n1 c1)))
  have HF := Lib.hid (few_yes hsm)
  have HS := Lib.hid (small2 (n := n0) (m := n1) (by omega) (by omega))
  have HV0 := Lib.hid (((Live.start (W := W) (.slice A0 n0 c0) (.slice A1 n1 c1)).num (hi0.below (box2_below W (.slice A0 n0 c0) (.slice A1 n1 c1)))).num (hi1.below (box2_below W (.slice A0 n0 c0) (.slice A1 n1 c1))))
  have HL0 := Lib.hid hl0
  have HL1 := Lib.hid hl1
  have m0 : n0 ≤ maxLen := by unfold maxLen; omega
  have m1 : n1 ≤ maxLen := by unfold maxLen; omega
  have q0 : n0 ≤ 100000 := by omega
  have q1 : n1 ≤ 100000 := by omega
  clear hT hsm hi0 hi1 hl0 hl1
  go_enter Tryd.func4, Tryd.ntmps4
  go_wp2_with fail
  refine (awake_any _ HT.out).mono ?_
  rintro e w1 ⟨rfl, hb1⟩
  obtain ⟨ha1, hb1', hs1, hbw1⟩ := keep2 hb1
  have HV1 := Lib.hid (HV0.out.go hb1)
  clear hb1 hbw1
  go_wp2_with fail
  refine (few_any [n0, n1] _ 2 2 _ rfl (by omega) HS.out (nats2 _ _ _ _ _ _ _ _ _ (by simp))).mono ?_
  rintro e w2 ⟨rfl, rfl⟩
  rw [HF.out]
  have HV2 := Lib.hid (HV1.out.go (one_new (o := .cells #[.slice A0 n0 c0, .slice A1 n1 c1] 24)))
  have ha2 := (HV2.out.1 _ _ (.tail _ (.head _))).1
  have hb2' := (HV2.out.1 _ _ (.head _)).1
  clear ha1 hb1' hs1
  have I0 := Lib.hid (HV2.out.2.1 A0 L0 (.tail _ (.head _)))
  have I1 := Lib.hid (HV2.out.2.1 A1 L1 (.head _))
  have H0 := Lib.hid (HV2.out.1 _ _ (.tail _ (.head _)))
  have H1 := Lib.hid (HV2.out.1 _ _ (.head _))
  obtain ⟨r, hr⟩ : ∃ r, r = two L0 L1 (lim (val L0 + val L1)) := ⟨_, rfl⟩
  have HR := Lib.hid hr
  clear hr
  obtain ⟨wz, hwz⟩ : ∃ wz : World, wz = w1.alloc (.cells #[.slice A0 n0 c0, .slice A1 n1 c1] 24) := ⟨_, rfl⟩
  rw [← hwz] at ha2 hb2' HV2 I0 I1 H0 H1 ⊢
  clear hwz
  go_upto_region 3 with fail
  go_cut [5, 6] (fun s5 s6 wx => RegP r wz s5 s6 wx)
  case first =>
    go_region_held3 (fun w' => w'.cell? ⟨W.heap.size, 0, none⟩ = some (.slice A0 n0 c0) ∧ w'.cell? ⟨W.heap.size + 1, 0, none⟩ = some (.slice A1 n1 c1) ∧ Below wz.heap.size wz w')
      (first | (exact ⟨ha2, hb2', (Below.refl _ _).drew⟩) | (exact ⟨ha2, hb2', Below.refl _ _⟩) | (exact keepS H0.out H1.out hb5 (by assumption)) | (exact keepS H0.out H1.out hb6 (by assumption)) | (exact keepS H0.out H1.out hb7 (by assumption)) | (exact keepS H0.out H1.out one_new (by assumption)) | (exact keepT H0.out H1.out zg (by assumption)) | (exact keepB H0.out H1.out (btwo sb7 one_new)))
      (first
        | (go_at_call 22; (with_reducible refine (copied_any L0 n0 c0 A0 _ HL0.out q0 (intsS I0.out (by assumption))).mono ?_); rintro e w5 ⟨A5, c5, rfl, hi5, hl5, hm5, hb5⟩; have sb5 := belS hb5 (by assumption); (first | (have hj6 := IntsIn.below hi6 hb5) | (have hj6 := IntsIn.below (IntsIn.below hi6 one_new) hb5) | skip); (first | (have q5 := kept_new hb5; obtain ⟨zk, zc, zf, zs⟩ := q5; (first | (have zg := leB zs sb5) | (have zg := leB zs sb6) | (have zg := leB zs ((Below.refl wz.heap.size wz).drew))); (try dsimp only [World.drew] at zk zc zf zs zg)) | (have q5 := kept_newd hb5; obtain ⟨zk, zc, zf, zs⟩ := q5; have zg := leB zs (Below.refl wz.heap.size wz); (try dsimp only [World.drew] at zk zc zf zs zg)) | (have q5 := kept_old zk zs hb5; obtain ⟨zk, zc, zf, zs⟩ := q5; (try dsimp only [World.drew] at zk zc zf zs)) | skip))
        | (go_at_call 22; (with_reducible refine (copied_any L1 n1 c1 A1 _ HL1.out q1 (intsS I1.out (by assumption))).mono ?_); rintro e w6 ⟨A6, c6, rfl, hi6, hl6, hm6, hb6⟩; have sb6 := belS hb6 (by assumption); (first | (have hj5 := IntsIn.below hi5 hb6) | (have hj5 := IntsIn.below (IntsIn.below hi5 one_new) hb6) | skip); (first | (have q5 := kept_new hb6; obtain ⟨zk, zc, zf, zs⟩ := q5; (first | (have zg := leB zs sb5) | (have zg := leB zs sb6) | (have zg := leB zs ((Below.refl wz.heap.size wz).drew))); (try dsimp only [World.drew] at zk zc zf zs zg)) | (have q5 := kept_newd hb6; obtain ⟨zk, zc, zf, zs⟩ := q5; have zg := leB zs (Below.refl wz.heap.size wz); (try dsimp only [World.drew] at zk zc zf zs zg)) | (have q5 := kept_old zk zs hb6; obtain ⟨zk, zc, zf, zs⟩ := q5; (try dsimp only [World.drew] at zk zc zf zs)) | skip))
        | (go_at_call 21
           (first
             | (with_reducible refine (add_any L0 L1 n0 c5 n1 c6 A5 A6 _ HL0.out HL1.out hl5 hl6 m0 m1 hi5 hj6).mono ?_)
             | (with_reducible refine (add_any L0 L1 n0 c5 n1 c6 A5 A6 _ HL0.out HL1.out hl5 hl6 m0 m1 hj5 hi6).mono ?_)
             | (with_reducible refine (add_any L0 L1 n0 c5 n1 c6 A5 A6 _ HL0.out HL1.out hl5 hl6 m0 m1 (IntsIn.below hi5 one_new) (IntsIn.below hj6 one_new)).mono ?_)
             | (with_reducible refine (add_any L0 L1 n0 c5 n1 c6 A5 A6 _ HL0.out HL1.out hl5 hl6 m0 m1 (IntsIn.below hj5 one_new) (IntsIn.below hi6 one_new)).mono ?_))
           rw [← HR.out]; rintro e w7 ⟨A7, c7, rfl, hi7, hl7, hm7, hb7⟩; have sb7 := belS hb7 (by assumption);  (first | (have q5 := kept_new hb7; obtain ⟨zk, zc, zf, zs⟩ := q5; (first | (have zg := leB zs sb5) | (have zg := leB zs sb6) | (have zg := leB zs ((Below.refl wz.heap.size wz).drew))); (try dsimp only [World.drew] at zk zc zf zs zg)) | (have q5 := kept_newd hb7; obtain ⟨zk, zc, zf, zs⟩ := q5; have zg := leB zs (Below.refl wz.heap.size wz); (try dsimp only [World.drew] at zk zc zf zs zg)) | (have q5 := kept_old zk zs hb7; obtain ⟨zk, zc, zf, zs⟩ := q5; (try dsimp only [World.drew] at zk zc zf zs)) | skip)))
    all_goals (go_wp2_with fail; go_meet)
    all_goals first
      | (exact reg_old zk zg zs rfl hi7 hl7 hm7 sb7)
      | (exact reg_new rfl hi7 hl7 hm7 sb7)
  case rest =>
    obtain ⟨g5, A5, c5, n5, rfl, rfl, hn5, hg5, hcl5, hi5, hl5, hm5, hb5⟩ := hcut
    have ha3 := (cell_old H0.out.1 H0.out.2 hb5).1
    have hb3' := (cell_old H1.out.1 H1.out.2 hb5).1
    have HN5 := Lib.hid hn5
    clear ha2 hb2' hn5
    go_wp2_with fail
    refine (radd_any L0 L1 n0 c0 n1 c1 A0 A1 _ HL0.out HL1.out hc0 hc1 m0 m1 (I0.out.below hb5) (I1.out.below hb5)).mono ?_
    rw [← HR.out]
    rintro e w8 ⟨A8, c8, rfl, hi8, hl8, hm8, hb8⟩
    rw [← HN5.out] at hl8 ⊢
    go_upto_region 5 with fail
    obtain ⟨wy, hwy⟩ : ∃ wy : World, wy = w8.alloc (.cells #[.slice A8 n5 c8] 24) := ⟨_, rfl⟩
    have hby0 : Below wz.heap.size wz wy := by rw [hwy]; exact btwo (btwo hb5 hb8) one_new
    have hby1 : Below wc.heap.size wc wy := by rw [hwy]; exact btwo hb8 one_new
    have HC8 := Lib.hid (show wy.cell? ⟨w8.heap.size, 0, none⟩ = some (.slice A8 n5 c8) ∧ w8.heap.size < wy.heap.size by rw [hwy]; exact ⟨row_cell (heap_alloc_new w8 _), by simp⟩)
    have HI8 := Lib.hid (show IntsIn wy A8 (digs r.1) by rw [hwy]; exact hi8.below one_new)
    have HI5 := Lib.hid (hi5.below hby1)
    have HC5 := Lib.hid (cell_old hcl5 hg5 hby1)
    have G0 := Lib.hid (cell_old H0.out.1 H0.out.2 hby0)
    have G1 := Lib.hid (cell_old H1.out.1 H1.out.2 hby0)
    have J0 := Lib.hid (I0.out.below hby0)
    have J1 := Lib.hid (I1.out.below hby0)
    have HBY := Lib.hid (show Below W.heap.size W wy from btwo HV2.out.2.2 hby0)
    have hay := G0.out.1
    have hby := G1.out.1
    rw [← hwy]
    clear hwy hby0 hby1 hi8 hb8 hi5 hcl5 hg5 hb5 ha3 hb3' H0 H1 I0 I1 HV2
    obtain ⟨q, hq⟩ : ∃ q, q = two L0 L1 (subR (val L0) (val L1)) := ⟨_, rfl⟩
    have HQ := Lib.hid hq
    clear hq
    go_cut [9, 10] (fun s9 s10 wx => RegP q wy s9 s10 wx)
    case first =>
      go_region_held3 (fun w' => w'.cell? ⟨W.heap.size, 0, none⟩ = some (.slice A0 n0 c0) ∧ w'.cell? ⟨W.heap.size + 1, 0, none⟩ = some (.slice A1 n1 c1) ∧ Below wy.heap.size wy w')
        (first | (exact ⟨hay, hby, (Below.refl _ _).drew⟩) | (exact ⟨hay, hby, Below.refl _ _⟩) | (exact keepS G0.out G1.out hb5 (by assumption)) | (exact keepS G0.out G1.out hb6 (by assumption)) | (exact keepS G0.out G1.out hb7 (by assumption)) | (exact keepS G0.out G1.out one_new (by assumption)) | (exact keepT G0.out G1.out zg (by assumption)) | (exact keepB G0.out G1.out (btwo sb7 one_new)))
        (first
          | (go_at_call 22; (with_reducible refine (copied_any L0 n0 c0 A0 _ HL0.out q0 (intsS J0.out (by assumption))).mono ?_); rintro e w5 ⟨A5, c5, rfl, hi5, hl5, hm5, hb5⟩; have sb5 := belS hb5 (by assumption); (first | (have hj6 := IntsIn.below hi6 hb5) | (have hj6 := IntsIn.below (IntsIn.below hi6 one_new) hb5) | skip); (first | (have q5 := kept_new hb5; obtain ⟨zk, zc, zf, zs⟩ := q5; (first | (have zg := leB zs sb5) | (have zg := leB zs sb6) | (have zg := leB zs ((Below.refl wy.heap.size wy).drew))); (try dsimp only [World.drew] at zk zc zf zs zg)) | (have q5 := kept_newd hb5; obtain ⟨zk, zc, zf, zs⟩ := q5; have zg := leB zs (Below.refl wy.heap.size wy); (try dsimp only [World.drew] at zk zc zf zs zg)) | (have q5 := kept_old zk zs hb5; obtain ⟨zk, zc, zf, zs⟩ := q5; (try dsimp only [World.drew] at zk zc zf zs)) | skip))
          | (go_at_call 22; (with_reducible refine (copied_any L1 n1 c1 A1 _ HL1.out q1 (intsS J1.out (by assumption))).mono ?_); rintro e w6 ⟨A6, c6, rfl, hi6, hl6, hm6, hb6⟩; have sb6 := belS hb6 (by assumption); (first | (have hj5 := IntsIn.below hi5 hb6) | (have hj5 := IntsIn.below (IntsIn.below hi5 one_new) hb6) | skip); (first | (have q5 := kept_new hb6; obtain ⟨zk, zc, zf, zs⟩ := q5; (first | (have zg := leB zs sb5) | (have zg := leB zs sb6) | (have zg := leB zs ((Below.refl wy.heap.size wy).drew))); (try dsimp only [World.drew] at zk zc zf zs zg)) | (have q5 := kept_newd hb6; obtain ⟨zk, zc, zf, zs⟩ := q5; have zg := leB zs (Below.refl wy.heap.size wy); (try dsimp only [World.drew] at zk zc zf zs zg)) | (have q5 := kept_old zk zs hb6; obtain ⟨zk, zc, zf, zs⟩ := q5; (try dsimp only [World.drew] at zk zc zf zs)) | skip))
          | (go_at_call 24
             (first
               | (with_reducible refine (sub_any L0 L1 n0 c5 n1 c6 A5 A6 _ HL0.out HL1.out hl5 hl6 m0 m1 hi5 hj6).mono ?_)
               | (with_reducible refine (sub_any L0 L1 n0 c5 n1 c6 A5 A6 _ HL0.out HL1.out hl5 hl6 m0 m1 hj5 hi6).mono ?_)
               | (with_reducible refine (sub_any L0 L1 n0 c5 n1 c6 A5 A6 _ HL0.out HL1.out hl5 hl6 m0 m1 (IntsIn.below hi5 one_new) (IntsIn.below hj6 one_new)).mono ?_)
               | (with_reducible refine (sub_any L0 L1 n0 c5 n1 c6 A5 A6 _ HL0.out HL1.out hl5 hl6 m0 m1 (IntsIn.below hj5 one_new) (IntsIn.below hi6 one_new)).mono ?_))
             rw [← HQ.out]; rintro e w7 ⟨A7, c7, rfl, hi7, hl7, hm7, hb7⟩; have sb7 := belS hb7 (by assumption);  (first | (have q5 := kept_new hb7; obtain ⟨zk, zc, zf, zs⟩ := q5; (first | (have zg := leB zs sb5) | (have zg := leB zs sb6) | (have zg := leB zs ((Below.refl wy.heap.size wy).drew))); (try dsimp only [World.drew] at zk zc zf zs zg)) | (have q5 := kept_newd hb7; obtain ⟨zk, zc, zf, zs⟩ := q5; have zg := leB zs (Below.refl wy.heap.size wy); (try dsimp only [World.drew] at zk zc zf zs zg)) | (have q5 := kept_old zk zs hb7; obtain ⟨zk, zc, zf, zs⟩ := q5; (try dsimp only [World.drew] at zk zc zf zs)) | skip)))
      all_goals (go_wp2_with fail; go_meet)
      all_goals first
        | (exact reg_old zk zg zs rfl hi7 hl7 hm7 sb7)
        | (exact reg_new rfl hi7 hl7 hm7 sb7)
    case rest =>
      obtain ⟨g9, A9, c9, n9, rfl, rfl, hn9, hg9, hcl9, hi9, hl9, hm9, hb9⟩ := hcut
      have ha3 := (cell_old G0.out.1 G0.out.2 hb9).1
      have hb3' := (cell_old G1.out.1 G1.out.2 hb9).1
      have HN9 := Lib.hid hn9
      clear hay hby hn9
      go_wp2_with fail
      refine (rsub_any L0 L1 n0 c0 n1 c1 A0 A1 _ HL0.out HL1.out hc0 hc1 m0 m1 (J0.out.below hb9) (J1.out.below hb9)).mono ?_
      rw [← HQ.out]
      rintro e w10 ⟨A10, c10, rfl, hi10, hl10, hm10, hb10⟩
      rw [← HN9.out] at hl10 ⊢
      have B10 := btwo hb9 hb10
      have BA := one_new (w := w10) (o := .cells #[.slice A10 n9 c10] 24)
      obtain ⟨x5, y5⟩ := cell_old HC5.out.1 HC5.out.2 B10
      obtain ⟨x8, y8⟩ := cell_old HC8.out.1 HC8.out.2 B10
      have F5 := Lib.hid ((HI5.out.below B10).below BA)
      have F8 := Lib.hid ((HI8.out.below B10).below BA)
      have F9 := Lib.hid ((hi9.below hb10).below BA)
      have F10 := Lib.hid (hi10.below BA)
      have HC9 := Lib.hid (cell_old (cell_old hcl9 hg9 hb10).1 (cell_old hcl9 hg9 hb10).2 BA)
      have HBF := Lib.hid (btwo (btwo HBY.out B10) BA)
      have k5 : n5 ≤ maxLen := Nat.le_trans hl5 hm5
      have k9 : n9 ≤ maxLen := Nat.le_trans hl9 hm9
      clear B10 BA hi9 hi10 hcl9 hg9 hb9 hb10 ha3 hb3'
      go_wp2_with fail
      refine (same_true _ n5 c5 n5 c8 A5 A8 _ HN5.out.symm HN5.out.symm k5 k5 F5.out F8.out).mono ?_
      rintro e w11 ⟨rfl, hb11⟩
      obtain ⟨x9, y9⟩ := cell_old HC9.out.1 HC9.out.2 hb11
      obtain ⟨x10, y10, _⟩ := cell_new hb11
      have F9' := Lib.hid (F9.out.below hb11)
      have F10' := Lib.hid (F10.out.below hb11)
      have HBG := Lib.hid (btwo HBF.out hb11)
      clear hb11 x5 y5 x8 y8
      go_wp2_with fail
      refine (same_true _ n9 c9 n9 c10 A9 A10 _ HN9.out.symm HN9.out.symm k9 k9 F9'.out F10'.out).mono ?_
      rintro e w12 ⟨rfl, hb12⟩
      have HBH := Lib.hid (btwo HBG.out hb12)
      clear hb12
      go_wp2_with fail
      go_ret
      exact ⟨rfl, HBH.out⟩
theorem lawsums_any (L0 : List Int) (n0 c0 : Nat) (A0 : Option Addr) (L1 : List Int) (n1 c1 : Nat) (A1 : Option Addr) (W : World) (hl0 : L0.length = n0) (hc0 : n0 ≤ c0) (hr0 : c0 ≤ 17592186044416) (hi0 : IntsIn W A0 L0) (hl1 : L1.length = n1) (hc1 : n1 ≤ c1) (hr1 : c1 ≤ 17592186044416) (hi1 : IntsIn W A1 L1) (hT : Tab W) :
    Calls Tryd.prog 4 #[.agg #[.slice A0 n0 c0], .agg #[.slice A1 n1 c1]] W fun e w' => e = .returned (.bool true) ∧ Below W.heap.size W w' := by
  by_cases h : n0 + n1 ≤ 420
  · exact lawsums_small L0 n0 c0 A0 L1 n1 c1 A1 W hl0 hc0 hi0 hl1 hc1 hi1 hT h
  · exact lawsums_big L0 n0 c0 A0 L1 n1 c1 A1 W (Nat.le_trans hc0 hr0) (Nat.le_trans hc1 hr1) hT h
end Go.Proofs.YtiokdfgmamfodaaDoor
