/- Contracts of the program: the first pair that is wanted, and the word that leads to it. -/
import Derived.Test.YtdkdfmflghbhiaaQo
import Derived.Test.YtdkdfmflghbhiaaQm
import Derived.Test.YtdkdfmflghbhiaaShelf
namespace Go.Proofs.Ytdkdfmflghbhiaa
open Go.RowKit
set_option linter.unusedVariables false
set_option linter.unusedSimpArgs false
set_option maxRecDepth 100000

/-- The cells of a box. -/
def BoxAt (w : World) (g : Nat) (cs : List Value) : Prop := g < w.heap.size ∧ ∀ (j : Nat) u, cs[j]? = some u → w.cell? ⟨g, j, none⟩ = some u
theorem BoxAt.below {w w' : World} {g : Nat} {cs : List Value} (h : BoxAt w g cs) (hb : Below w.heap.size w w') : BoxAt w' g cs :=
  ⟨Nat.lt_of_lt_of_le h.1 hb.size, fun j u hu => (hb.cell (p := ⟨g, j, none⟩) h.1).trans (h.2 j u hu)⟩
theorem Hp.box_there {W w : World} {l : List Itm} {T : TypeId} {g i : Nat} {cs : List Value} (h : Hp W l w) (hi : l[i]? = some (box T g cs)) (h0 : 0 < cs.length) : BoxAt w g cs :=
  ⟨(h.box_at hi (j := 0) (u := cs[0]) (List.getElem?_eq_getElem h0)).2.2, fun j u hu => (h.box_at hi hu).1⟩
theorem BoxAt.at' {w : World} {g : Nat} {cs : List Value} (h : BoxAt w g cs) {j : Nat} {u : Value} (hu : cs[j]? = some u) : w.cell? ⟨g, j, none⟩ = some u ∧ True ∧ g < w.heap.size := ⟨h.2 j u hu, trivial, h.1⟩
theorem num_sets_list {L : List Int} {v : Int} {vs : List Int} {o : Nat} (h : o + (vs.length + 1) ≤ L.length) : (L.set o v).take (o + 1) ++ vs ++ (L.set o v).drop (o + 1 + vs.length) = L.take o ++ (v :: vs) ++ L.drop (o + (vs.length + 1)) := by
  rw [List.drop_set_of_lt (by omega), List.take_add_one, List.take_set_of_le (by omega)]
  rw [List.getElem?_set_self (by omega)]
  simp [Nat.add_assoc, Nat.add_comm 1]
theorem Hp.num_sets {W : World} {g n c i : Nat} : ∀ (vs : List Int) (o : Nat) (L : List Int) (l : List Itm) (w : World), Hp W l w → l[i]? = some (nums (some ⟨g, 0, none⟩) n c L) → o + vs.length ≤ L.length →
    Hp W (l.set i (nums (some ⟨g, 0, none⟩) n c (L.take o ++ vs ++ L.drop (o + vs.length)))) (w.setCells g o (ints vs))
  | [], o, L, l, w, h, hi, hl => by
    have hil := (List.getElem?_eq_some_iff.1 hi).1
    have e : l.set i (nums (some ⟨g, 0, none⟩) n c (L.take o ++ [] ++ L.drop (o + 0))) = l := by
      rw [List.append_nil, Nat.add_zero, List.take_append_drop]
      have := (List.getElem?_eq_some_iff.1 hi).2
      rw [← this, List.set_getElem_self]
    show Hp W (l.set i (nums (some ⟨g, 0, none⟩) n c (L.take o ++ [] ++ L.drop (o + 0)))) w
    rw [e]; exact h
  | v :: vs, o, L, l, w, h, hi, hl => by
    have hil := (List.getElem?_eq_some_iff.1 hi).1
    have hl : o + (vs.length + 1) ≤ L.length := hl
    have h1 := h.num_set hi o v
    have h2 := Hp.num_sets vs (o + 1) (L.set o v) _ _ h1 (by rw [List.getElem?_set_self hil]) (by rw [List.length_set]; omega)
    rw [List.set_set, num_sets_list hl] at h2
    exact h2
theorem Hp.num_all {W w : World} {g n c i : Nat} {L L2 : List Int} {l : List Itm} (h : Hp W l w) (hi : l[i]? = some (nums (some ⟨g, 0, none⟩) n c L)) (e : L2.length = L.length) :
    Hp W (l.set i (nums (some ⟨g, 0, none⟩) n c L2)) (w.setCells g 0 (ints L2)) := by
  have := h.num_sets L2 0 L l w hi (by omega)
  rw [List.take_zero, List.nil_append, List.drop_of_length_le (by omega), List.append_nil] at this
  exact this
set_option maxHeartbeats 2000000 in
theorem dclos_any (x y : DV) (A B : Au) (k ga gb : Nat) (p1 p2 : Int) (w : World) (hA : Good w x A k) (hB : Good w y B k) (ha : BoxAt w ga [.int .i64 A.lt, .int .i64 A.st, .slice x.A x.n x.c, .slice x.B x.m x.d]) (hb : BoxAt w gb [.int .i64 B.lt, .int .i64 B.st, .slice y.A y.n y.c, .slice y.B y.m y.d]) (hp : in2 A B (p1, p2)) :
    Calls Try.prog 42 #[.agg #[.int .i64 p1, .int .i64 p2], .pointer (some ⟨ga, 0, none⟩), .pointer (some ⟨gb, 0, none⟩)] w fun e w' => e = .returned (.bool (A.acc p1 != B.acc p2)) ∧ Below w.heap.size w w' := by
  have HA := Lib.hid hA
  have HB := Lib.hid hB
  have HP := Lib.hid hp
  obtain ⟨wz, hwz⟩ : ∃ z, z = (w.alloc (.cells #[.int .i64 p1, .int .i64 p2] 35)) := ⟨_, rfl⟩
  have V := Lib.hid (show Hp w [box 35 w.heap.size [.int .i64 p1, .int .i64 p2]] wz by
    have := ((Hp.start w).box_new 35 [.int .i64 p1, .int .i64 p2])
    rw [hwz]; simpa using this)
  have HZ := Lib.hid hwz
  clear hwz
  have HGA := Lib.hid (ha.below V.out.below)
  have HGB := Lib.hid (hb.below V.out.below)
  clear hA hB hp ha hb
  go_enter Try.func42, Try.ntmps42
  go_upto_region 1 with fail
  rw [← HZ.out]
  clear HZ
  have hKp : Keep [(⟨ga, 0, none⟩, .int .i64 A.lt), (⟨ga, 1, none⟩, .int .i64 A.st), (⟨ga, 2, none⟩, .slice x.A x.n x.c), (⟨ga, 3, none⟩, .slice x.B x.m x.d), (⟨gb, 0, none⟩, .int .i64 B.lt), (⟨gb, 1, none⟩, .int .i64 B.st), (⟨gb, 2, none⟩, .slice y.A y.n y.c), (⟨gb, 3, none⟩, .slice y.B y.m y.d), (⟨w.heap.size, 0, none⟩, .int .i64 p1), (⟨w.heap.size, 1, none⟩, .int .i64 p2)] wz := List.forall_mem_cons.2 ⟨⟨(HGA.out.at' (j := 0) rfl).1, (HGA.out.at' (j := 0) rfl).2.2⟩, List.forall_mem_cons.2 ⟨⟨(HGA.out.at' (j := 1) rfl).1, (HGA.out.at' (j := 1) rfl).2.2⟩, List.forall_mem_cons.2 ⟨⟨(HGA.out.at' (j := 2) rfl).1, (HGA.out.at' (j := 2) rfl).2.2⟩, List.forall_mem_cons.2 ⟨⟨(HGA.out.at' (j := 3) rfl).1, (HGA.out.at' (j := 3) rfl).2.2⟩, List.forall_mem_cons.2 ⟨⟨(HGB.out.at' (j := 0) rfl).1, (HGB.out.at' (j := 0) rfl).2.2⟩, List.forall_mem_cons.2 ⟨⟨(HGB.out.at' (j := 1) rfl).1, (HGB.out.at' (j := 1) rfl).2.2⟩, List.forall_mem_cons.2 ⟨⟨(HGB.out.at' (j := 2) rfl).1, (HGB.out.at' (j := 2) rfl).2.2⟩, List.forall_mem_cons.2 ⟨⟨(HGB.out.at' (j := 3) rfl).1, (HGB.out.at' (j := 3) rfl).2.2⟩, List.forall_mem_cons.2 ⟨⟨(V.out.box_at (i := 0) (j := 0) rfl rfl).1, (V.out.box_at (i := 0) (j := 0) rfl rfl).2.2⟩, List.forall_mem_cons.2 ⟨⟨(V.out.box_at (i := 0) (j := 1) rfl rfl).1, (V.out.box_at (i := 0) (j := 1) rfl rfl).2.2⟩, fun _ h => by simp at h⟩⟩⟩⟩⟩⟩⟩⟩⟩⟩
  refine wp_region_held_drew (S := Keep _) (by kernel_rfl) hKp.drew (fun hHeld => ?_)
  have Vd := Lib.hid (V.out.go (bdrew _))
  refine tk 0 ?_ rfl ?_ ?_; rotate_left
  · intro wl hSw
    have hSw : Keep _ wl := hSw
    have k0 : wl.cell? ⟨ga, 0, none⟩ = some (.int .i64 A.lt) := (hSw _ (.head _)).1
    have k1 : wl.cell? ⟨ga, 1, none⟩ = some (.int .i64 A.st) := (hSw _ (.tail _ (.head _))).1
    have k2 : wl.cell? ⟨ga, 2, none⟩ = some (.slice x.A x.n x.c) := (hSw _ (.tail _ (.tail _ (.head _)))).1
    have k3 : wl.cell? ⟨ga, 3, none⟩ = some (.slice x.B x.m x.d) := (hSw _ (.tail _ (.tail _ (.tail _ (.head _))))).1
    clear hSw
    go_simp
    try (with_reducible rfl)
  try simp only [Act.put, sA, sZ, sS]
  refine tk 1 ?_ rfl ?_ ?_; rotate_left; focus (intro w hSw; clear hSw; go_simp; try (with_reducible rfl))
  try simp only [Act.put, sA, sZ, sS]
  refine tk 2 ?_ rfl ?_ ?_; rotate_left
  · intro wl hSw
    have hSw : Keep _ wl := hSw
    have k0 : wl.cell? ⟨w.heap.size, 0, none⟩ = some (.int .i64 p1) := (hSw _ (.tail _ (.tail _ (.tail _ (.tail _ (.tail _ (.tail _ (.tail _ (.tail _ (.head _)))))))))).1
    clear hSw
    go_simp
    try (with_reducible rfl)
  try simp only [Act.put, sA, sZ, sS]
  refine tk 4 ?_ rfl ?_ ?_; rotate_left
  · intro wl hSw
    have hSw : Keep _ wl := hSw
    have k0 : wl.cell? ⟨gb, 0, none⟩ = some (.int .i64 B.lt) := (hSw _ (.tail _ (.tail _ (.tail _ (.tail _ (.head _)))))).1
    have k1 : wl.cell? ⟨gb, 1, none⟩ = some (.int .i64 B.st) := (hSw _ (.tail _ (.tail _ (.tail _ (.tail _ (.tail _ (.head _))))))).1
    have k2 : wl.cell? ⟨gb, 2, none⟩ = some (.slice y.A y.n y.c) := (hSw _ (.tail _ (.tail _ (.tail _ (.tail _ (.tail _ (.tail _ (.head _)))))))).1
    have k3 : wl.cell? ⟨gb, 3, none⟩ = some (.slice y.B y.m y.d) := (hSw _ (.tail _ (.tail _ (.tail _ (.tail _ (.tail _ (.tail _ (.tail _ (.head _))))))))).1
    clear hSw
    go_simp
    try (with_reducible rfl)
  try simp only [Act.put, sA, sZ, sS]
  refine tk 5 ?_ rfl ?_ ?_; rotate_left; focus (intro w hSw; clear hSw; go_simp; try (with_reducible rfl))
  try simp only [Act.put, sA, sZ, sS]
  refine tk 6 ?_ rfl ?_ ?_; rotate_left
  · intro wl hSw
    have hSw : Keep _ wl := hSw
    have k0 : wl.cell? ⟨w.heap.size, 1, none⟩ = some (.int .i64 p2) := (hSw _ (.tail _ (.tail _ (.tail _ (.tail _ (.tail _ (.tail _ (.tail _ (.tail _ (.tail _ (.head _))))))))))).1
    clear hSw
    go_simp
    try (with_reducible rfl)
  try simp only [Act.put, sA, sZ, sS]
  refine wpAnyH_ready (rs := [3]) (by kernel_rfl) (by simp) ?_
  refine AllReadyH.cons (List.getElem?_toArray.trans rfl) (fun K hK => ?_) AllReadyH.nil
  go_simp
  refine ((HA.out.below Vd.out.below).isAcc _ HP.out.1.1 HP.out.1.2).mono ?_
  rintro e w_3 ⟨rfl, b_3⟩
  try go_wp2_with fail
  have V_3 := Lib.hid (Vd.out.go b_3)
  refine hK.out _ _ (hHeld.go b_3) (fun hHeld => ?_)
  clear hK K
  try simp only [Act.put, sA, sZ, sS]
  refine wpAnyH_ready (rs := [7]) (by kernel_rfl) (by simp) ?_
  refine AllReadyH.cons (List.getElem?_toArray.trans rfl) (fun K hK => ?_) AllReadyH.nil
  go_simp
  refine ((HB.out.below V_3.out.below).isAcc _ HP.out.2.1 HP.out.2.2).mono ?_
  rintro e w_3_7 ⟨rfl, b_3_7⟩
  try go_wp2_with fail
  have V_3_7 := Lib.hid (V_3.out.go b_3_7)
  refine hK.out _ _ (hHeld.go b_3_7) (fun hHeld => ?_)
  clear hK K
  try simp only [Act.put, sA, sZ, sS]
  refine tk 8 ?_ rfl ?_ ?_; rotate_left; focus (intro w hSw; clear hSw; go_simp; try (with_reducible rfl))
  try simp only [Act.put, sA, sZ, sS]
  refine tk 9 ?_ rfl ?_ ?_; rotate_left; focus (intro w hSw; clear hSw; go_simp; try (with_reducible rfl))
  try simp only [Act.put, sA, sZ, sS]
  refine wpAnyH_done (by kernel_rfl) ?_ _
  go_wp2_with fail
  go_ret
  exact ⟨ret_bool (by cases A.acc p1 <;> cases B.acc p2 <;> rfl), V_3_7.out.below⟩
set_option maxHeartbeats 2000000 in
theorem sclos_any (x : DV) (A : Au) (k ga : Nat) (p1 p2 : Int) (w : World) (hA : Good w x A k) (ha : BoxAt w ga [.int .i64 A.lt, .int .i64 A.st, .slice x.A x.n x.c, .slice x.B x.m x.d]) (hp : in2 A A (p1, p2)) :
    Calls Try.prog 38 #[.agg #[.int .i64 p1, .int .i64 p2], .pointer (some ⟨ga, 0, none⟩)] w fun e w' => e = .returned (.bool (A.acc p1)) ∧ Below w.heap.size w w' := by
  have HA := Lib.hid hA
  have HP := Lib.hid hp
  obtain ⟨wz, hwz⟩ : ∃ z, z = (w.alloc (.cells #[.int .i64 p1, .int .i64 p2] 35)) := ⟨_, rfl⟩
  have V := Lib.hid (show Hp w [box 35 w.heap.size [.int .i64 p1, .int .i64 p2]] wz by
    have := ((Hp.start w).box_new 35 [.int .i64 p1, .int .i64 p2])
    rw [hwz]; simpa using this)
  have HZ := Lib.hid hwz
  clear hwz
  have HGA := Lib.hid (ha.below V.out.below)
  clear hA hp ha
  go_enter Try.func38, Try.ntmps38
  go_upto_region 1 with fail
  rw [← HZ.out]
  clear HZ
  have q0 := HGA.out.2 0 _ rfl
  have q1 := HGA.out.2 1 _ rfl
  have q2 := HGA.out.2 2 _ rfl
  have q3 := HGA.out.2 3 _ rfl
  have q9 := HGA.out.1
  obtain ⟨r0_0, _, r0_9⟩ := V.out.box_at (i := 0) (j := 0) rfl rfl
  obtain ⟨r0_1, _, _⟩ := V.out.box_at (i := 0) (j := 1) rfl rfl
  go_wp2_with fail
  refine ((HA.out.below V.out.below).isAcc _ HP.out.1.1 HP.out.1.2).mono ?_
  rintro e w1 ⟨rfl, b1⟩
  have HB := Lib.hid (btwo V.out.below b1)
  clear b1
  go_wp2_with fail
  go_ret
  exact ⟨rfl, HB.out⟩
set_option maxHeartbeats 4000000 in
theorem index_anyD (G : World → Prop) (hG : ∀ w w' : World, G w → Below w.heap.size w w' → G w') (f : Int × Int → Bool) (ga gb : Nat) (ps : List (Int × Int))
    (hF : ∀ (w : World) (p : Int × Int), G w → p ∈ ps → Calls Try.prog 42 #[.agg #[.int .i64 p.1, .int .i64 p.2], .pointer (some ⟨ga, 0, none⟩), .pointer (some ⟨gb, 0, none⟩)] w fun e w' => e = .returned (.bool (f p)) ∧ Below w.heap.size w w')
    (Ap : Option Addr) (n c : Nat) (w : World) (hn : ps.length = n) (hb : n ≤ 2000000) (hc : CellsIn w Ap (pcells ps)) (hw : G w) :
    Calls Try.prog 56 #[.slice Ap n c, .func (.func 42) #[] #[.pointer (some ⟨ga, 0, none⟩), .pointer (some ⟨gb, 0, none⟩)]] w fun e w' => Below w.heap.size w w' ∧ ((e = .returned (.int .i64 (-1)) ∧ ∀ p ∈ ps, f p = false) ∨
      ∃ (i : Nat) (p : Int × Int), e = .returned (.int .i64 (i : Int)) ∧ ps[i]? = some p ∧ f p = true ∧ ∀ (j : Nat) q, j < i → ps[j]? = some q → f q = false) := by
  have HG := Lib.hid hG
  have HF := Lib.hid hF
  have HN := Lib.hid hn
  have HC := Lib.hid hc
  have HW := Lib.hid hw
  clear hG hF hn hc hw
  go_enter Try.func56, Try.ntmps56
  go_wp2_with fail
  go_loopw [8] (fun cv wr => ∃ i : Nat, cv = .int .i64 (i : Int) ∧ i ≤ n ∧ (∀ (j : Nat) q, j < i → ps[j]? = some q → f q = false) ∧ Below w.heap.size w wr) (fun cv _ => n - (intOf cv).toNat)
  case atStart => exact ⟨0, rfl, Nat.zero_le _, fun j q h => absurd h (Nat.not_lt_zero _), Below.refl _ _⟩
  case round =>
    obtain ⟨i, rfl, hin, hr, hbl⟩ := hrel
    obtain ⟨wi, rfl⟩ : ∃ wi : World, wi = wr := ⟨_, rfl⟩
    have HR := Lib.hid hr
    have HB := Lib.hid hbl
    clear hr hbl
    by_cases hlt : i < n
    · have hil : i < ps.length := by rw [HN.out]; exact hlt
      obtain ⟨p, hp⟩ : ∃ p, ps[i]? = some p := ⟨_, List.getElem?_eq_getElem hil⟩
      obtain ⟨e1, e2⟩ := pcells_at hp
      obtain ⟨b, off, rfl, hb0, hcc⟩ := (HC.out.below HB.out) (by rw [pcells_len]; omega)
      have c1 := hcc _ _ e1
      have c2 := hcc _ _ e2
      have HP := Lib.hid hp
      have HM := Lib.hid (List.mem_of_getElem? hp)
      have HGW := Lib.hid (HG.out w wi HW.out HB.out)
      obtain ⟨p1, p2⟩ := p
      dsimp only at c1 c2
      rw [show off + (i * 2 + 1) = off + i * 2 + 1 by omega] at c2
      clear e1 e2 hcc hp hil
      go_wp2_with fail
      refine (HF.out wi (p1, p2) HGW.out HM.out).mono ?_
      rintro e w2 ⟨rfl, b2⟩
      have HB2 := Lib.hid (btwo HB.out b2)
      clear b2 c1 c2
      cases hf : f (p1, p2) with
      | true =>
        have H3 := Lib.hid (show Below w.heap.size w w2 ∧ ((Ending.returned (.int .i64 (i : Int)) = .returned (.int .i64 (-1)) ∧ ∀ p ∈ ps, f p = false) ∨
      ∃ (i2 : Nat) (p : Int × Int), Ending.returned (.int .i64 (i : Int)) = .returned (.int .i64 (i2 : Int)) ∧ ps[i2]? = some p ∧ f p = true ∧ ∀ (j : Nat) q, j < i2 → ps[j]? = some q → f q = false) from ⟨HB2.out, .inr ⟨i, _, rfl, HP.out, hf, HR.out⟩⟩)
        clear hf
        go_wp2_with fail
        go_ret
        exact H3.out
      | false =>
        have H3 := Lib.hid (show ∀ (j : Nat) q, j < i + 1 → ps[j]? = some q → f q = false from fun j q hj hq => by
          by_cases e : j = i
          · subst e
            have : some (p1, p2) = some q := HP.out.symm.trans hq
            injection this with this
            rw [← this]; exact hf
          · exact HR.out j q (by omega) hq)
        clear hf
        go_wp2_with fail
        go_roundw
        case rel => exact ⟨i + 1, by go_num, by omega, H3.out, HB2.out⟩
        case measure => simp [intOf]; omega
    · have H3 := Lib.hid (show ∀ p ∈ ps, f p = false from fun p hp => by
        obtain ⟨j, hj⟩ := List.mem_iff_getElem?.1 hp
        exact HR.out j p (by have := (List.getElem?_eq_some_iff.1 hj).1; have := HN.out; omega) hj)
      go_wp2_with fail
      go_ret
      exact ⟨HB.out, .inl ⟨rfl, H3.out⟩⟩
set_option maxHeartbeats 4000000 in
theorem index_anyS (G : World → Prop) (hG : ∀ w w' : World, G w → Below w.heap.size w w' → G w') (f : Int × Int → Bool) (ga : Nat) (ps : List (Int × Int))
    (hF : ∀ (w : World) (p : Int × Int), G w → p ∈ ps → Calls Try.prog 38 #[.agg #[.int .i64 p.1, .int .i64 p.2], .pointer (some ⟨ga, 0, none⟩)] w fun e w' => e = .returned (.bool (f p)) ∧ Below w.heap.size w w')
    (Ap : Option Addr) (n c : Nat) (w : World) (hn : ps.length = n) (hb : n ≤ 2000000) (hc : CellsIn w Ap (pcells ps)) (hw : G w) :
    Calls Try.prog 56 #[.slice Ap n c, .func (.func 38) #[] #[.pointer (some ⟨ga, 0, none⟩)]] w fun e w' => Below w.heap.size w w' ∧ ((e = .returned (.int .i64 (-1)) ∧ ∀ p ∈ ps, f p = false) ∨
      ∃ (i : Nat) (p : Int × Int), e = .returned (.int .i64 (i : Int)) ∧ ps[i]? = some p ∧ f p = true ∧ ∀ (j : Nat) q, j < i → ps[j]? = some q → f q = false) := by
  have HG := Lib.hid hG
  have HF := Lib.hid hF
  have HN := Lib.hid hn
  have HC := Lib.hid hc
  have HW := Lib.hid hw
  clear hG hF hn hc hw
  go_enter Try.func56, Try.ntmps56
  go_wp2_with fail
  go_loopw [8] (fun cv wr => ∃ i : Nat, cv = .int .i64 (i : Int) ∧ i ≤ n ∧ (∀ (j : Nat) q, j < i → ps[j]? = some q → f q = false) ∧ Below w.heap.size w wr) (fun cv _ => n - (intOf cv).toNat)
  case atStart => exact ⟨0, rfl, Nat.zero_le _, fun j q h => absurd h (Nat.not_lt_zero _), Below.refl _ _⟩
  case round =>
    obtain ⟨i, rfl, hin, hr, hbl⟩ := hrel
    obtain ⟨wi, rfl⟩ : ∃ wi : World, wi = wr := ⟨_, rfl⟩
    have HR := Lib.hid hr
    have HB := Lib.hid hbl
    clear hr hbl
    by_cases hlt : i < n
    · have hil : i < ps.length := by rw [HN.out]; exact hlt
      obtain ⟨p, hp⟩ : ∃ p, ps[i]? = some p := ⟨_, List.getElem?_eq_getElem hil⟩
      obtain ⟨e1, e2⟩ := pcells_at hp
      obtain ⟨b, off, rfl, hb0, hcc⟩ := (HC.out.below HB.out) (by rw [pcells_len]; omega)
      have c1 := hcc _ _ e1
      have c2 := hcc _ _ e2
      have HP := Lib.hid hp
      have HM := Lib.hid (List.mem_of_getElem? hp)
      have HGW := Lib.hid (HG.out w wi HW.out HB.out)
      obtain ⟨p1, p2⟩ := p
      dsimp only at c1 c2
      rw [show off + (i * 2 + 1) = off + i * 2 + 1 by omega] at c2
      clear e1 e2 hcc hp hil
      go_wp2_with fail
      refine (HF.out wi (p1, p2) HGW.out HM.out).mono ?_
      rintro e w2 ⟨rfl, b2⟩
      have HB2 := Lib.hid (btwo HB.out b2)
      clear b2 c1 c2
      cases hf : f (p1, p2) with
      | true =>
        have H3 := Lib.hid (show Below w.heap.size w w2 ∧ ((Ending.returned (.int .i64 (i : Int)) = .returned (.int .i64 (-1)) ∧ ∀ p ∈ ps, f p = false) ∨
      ∃ (i2 : Nat) (p : Int × Int), Ending.returned (.int .i64 (i : Int)) = .returned (.int .i64 (i2 : Int)) ∧ ps[i2]? = some p ∧ f p = true ∧ ∀ (j : Nat) q, j < i2 → ps[j]? = some q → f q = false) from ⟨HB2.out, .inr ⟨i, _, rfl, HP.out, hf, HR.out⟩⟩)
        clear hf
        go_wp2_with fail
        go_ret
        exact H3.out
      | false =>
        have H3 := Lib.hid (show ∀ (j : Nat) q, j < i + 1 → ps[j]? = some q → f q = false from fun j q hj hq => by
          by_cases e : j = i
          · subst e
            have : some (p1, p2) = some q := HP.out.symm.trans hq
            injection this with this
            rw [← this]; exact hf
          · exact HR.out j q (by omega) hq)
        clear hf
        go_wp2_with fail
        go_roundw
        case rel => exact ⟨i + 1, by go_num, by omega, H3.out, HB2.out⟩
        case measure => simp [intOf]; omega
    · have H3 := Lib.hid (show ∀ p ∈ ps, f p = false from fun p hp => by
        obtain ⟨j, hj⟩ := List.mem_iff_getElem?.1 hp
        exact HR.out j p (by have := (List.getElem?_eq_some_iff.1 hj).1; have := HN.out; omega) hj)
      go_wp2_with fail
      go_ret
      exact ⟨HB.out, .inl ⟨rfl, H3.out⟩⟩
end Go.Proofs.Ytdkdfmflghbhiaa
