/- What the statements about Lines and Text answer: true, whatever the input. -/
import Derived.Test.YtpmdfpfbnmoinaaDoorWw
import Derived.Test.YtpmdfpfbnmoinaaDoorWq
namespace Go.Proofs.YtpmdfpfbnmoinaaDoor
open Go.RowKit
set_option linter.unusedVariables false

def MaxAt (w : World) : Prop := ∃ m, w.cell? ⟨0, 0, none⟩ = some (.int .i64 m)
theorem MaxAt.below {w w' : World} (h : MaxAt w) (hb : Below w.heap.size w w') : MaxAt w' := by
  obtain ⟨m, hm⟩ := h
  exact ⟨m, (hb.cell (p := ⟨0, 0, none⟩) (World.block_lt_of_cell? w _ hm)).trans hm⟩
theorem StrArg.ins {w : World} {A : Option Addr} {n : Nat} {f : Nat → ByteArray} (h : StrArg w A n f) : StrsIn w A n f := h.2
theorem lines_len {l : List UInt8} (h : l.length ≤ 3000) : (linesVal l).1.length ≤ 3001 := by
  have h1 : (splitS l).1.length ≤ l.length := by
    have h2 := splitL_len l
    have h3 : (splitL l).length = (splitS l).1.length + 1 := by simp [splitL]
    have h4 := List.count_le_length (a := (10 : UInt8)) (l := l)
    omega
  unfold linesVal
  split
  · simp
  · split
    · simp
    · split
      · simp
      · split
        · simp
        · show (splitS l).1.length ≤ 3001; omega
theorem lines_sums {l : List UInt8} (h : (linesVal l).2 = 0) : lsOf (fOf (linesVal l).1) (linesVal l).1.length = (linesVal l).1 ∧ textVal (linesVal l).1 = (l, 0) ∧ sums (lists (fOf (linesVal l).1)) (linesVal l).1.length = l.length := by
  have h1 : linesVal l = ((linesVal l).1, 0) := by rw [← h]
  have h2 := lines_text h1
  refine ⟨fOf_lists _, h2, ?_⟩
  rw [← textL_sums, fOf_lists]
  have h3 : textL (linesVal l).1 = l := by
    unfold textVal at h2
    split at h2
    · injection h2 with _ h4; cases h4
    · split at h2
      · rename_i h5
        injection h2 with _ h4
        exact absurd h4 h5
      · injection h2
  rw [h3]

set_option maxHeartbeats 1000000 in
theorem lawlines_any (a0 : ByteArray) (w : World) (w0 : a0.size ≤ maxLen) (hm : MaxAt w) :
    Calls Tryd.prog 3 #[.string a0] w fun e w' => e = .returned (.bool true) ∧ Below w.heap.size w w' := by
  have HM := Lib.hid hm
  clear hm
  by_cases hbig : 3000 < a0.size
  · go_enter Tryd.func3, Tryd.ntmps3
    go_wp2_with fail
    refine (awake_any _).mono ?_
    rintro e w1 ⟨rfl, hb1⟩
    go_wp2_with fail
    refine (awake_any _).mono ?_
    rintro e w2 ⟨rfl, hb2⟩
    go_wp2_with fail
    go_ret
    exact ⟨rfl, btwo hb1 hb2⟩
  · have hlen : (linesVal a0.data.toList).1.length ≤ 3001 := lines_len (by rw [sizeB]; omega)
    obtain ⟨L, hL⟩ : ∃ L, L = (linesVal a0.data.toList).1 := ⟨_, rfl⟩
    obtain ⟨x, hx⟩ : ∃ x, x = (linesVal a0.data.toList).2 := ⟨_, rfl⟩
    obtain ⟨n, hn⟩ : ∃ n, n = L.length := ⟨_, rfl⟩
    rw [← hL, ← hn] at hlen
    have HL := Lib.hid hL
    have HX := Lib.hid hx
    have HN := Lib.hid hn
    have hs3 : a0.size ≤ 3000 := by omega
    clear hL hx hn
    have HLE := Lib.hid hlen
    go_enter Tryd.func3, Tryd.ntmps3
    go_wp2_with fail
    refine (awake_any _).mono ?_
    rintro e w1 ⟨rfl, hb1⟩
    obtain ⟨m, hm1⟩ := MaxAt.below HM.out hb1
    have HM1 := Lib.hid hm1
    have HB1 := Lib.hid hb1
    clear hb1 hm1
    go_wp2_with fail
    refine (tlines_any a0 m _ hs3 HM1.out).mono ?_
    rintro e w2 ⟨A, c, rfl, hc, hS, hb2⟩
    rw [← HL.out, ← HN.out] at hS
    rw [← HL.out, ← HN.out] at hc
    have HS := Lib.hid hS
    have HB2 := Lib.hid (btwo HB1.out hb2)
    clear hS hb2
    rw [← HL.out, ← HX.out, ← HN.out]
    go_wp2_with fail
    refine (rlines_any a0 _ hs3).mono ?_
    rintro e w3 ⟨C, d, rfl, hd, hS3, hb3⟩
    rw [← HL.out, ← HN.out] at hS3
    rw [← HL.out, ← HN.out] at hd
    have HS3 := Lib.hid hS3
    have HSA := Lib.hid (StrArg.below HS.out hb3)
    have HB3 := Lib.hid (btwo HB2.out hb3)
    clear hS3 hb3
    rw [← HL.out, ← HX.out, ← HN.out]
    go_wp2_with fail
    refine (req_any n n (fOf L) (fOf L) A C c d _ (by omega) (by omega) (StrArg.ins HSA.out) (StrArg.ins HS3.out)).mono ?_
    rintro e w4 ⟨rfl, q, rfl⟩
    have HSAQ := Lib.hid (StrArg.below HSA.out (bdr (Below.refl _ _) q))
    have HS3Q := Lib.hid (StrArg.below HS3.out (bdr (Below.refl _ _) q))
    rw [show decide ((List.range n).map (fOf L) = (List.range n).map (fOf L)) = true from decide_eq_true rfl]
    by_cases hx0 : x = 0
    · subst hx0
      have hsum := lines_sums HX.out.symm
      rw [← HL.out, ← HN.out] at hsum
      have HSUM := Lib.hid hsum
      clear hsum
      go_wp2_with fail
      refine (ttext_any n c (fOf L) A _ (by omega) HSAQ.out (by rw [HSUM.out.2.2, sizeB]; omega)).mono ?_
      rintro e w5 ⟨rfl, hb5⟩
      have hte : textVal (lsOf (fOf L) n) = (a0.data.toList, 0) := by rw [HSUM.out.1]; exact HSUM.out.2.1
      rw [show (⟨(textVal (lsOf (fOf L) n)).1.toArray⟩ : ByteArray) = a0 by rw [hte], show (textVal (lsOf (fOf L) n)).2 = 0 by rw [hte]]
      clear hte
      go_wp2_with fail
      go_ret
      exact ⟨rfl, btwo (bdr HB3.out q) hb5⟩
    · have hxf : (x == 0) = false := by simp [hx0]
      have hxf2 : (x != 0) = true := by simp [hx0]
      clear hx0
      go_wp2_with fail
      refine (req_any n n (fOf L) (fOf L) A C c d _ (by omega) (by omega) (StrArg.ins HSAQ.out) (StrArg.ins HS3Q.out)).mono ?_
      rintro e w5 ⟨rfl, q2, rfl⟩
      rw [show decide ((List.range n).map (fOf L) = (List.range n).map (fOf L)) = true from decide_eq_true rfl]
      go_wp2_with fail
      go_ret
      exact ⟨rfl, bdr HB3.out _⟩
set_option maxHeartbeats 400000 in
theorem lawtext_big (n c : Nat) (A : Option Addr) (w : World) (hbig : 420 < n) :
    Calls Tryd.prog 4 #[.slice A n c] w fun e w' => e = .returned (.bool true) ∧ Below w.heap.size w w' := by
  go_enter Tryd.func4, Tryd.ntmps4
  go_wp2_with fail
  refine (awake_any _).mono ?_
  rintro e w1 ⟨rfl, hb1⟩
  go_wp2_with fail
  refine (awake_any _).mono ?_
  rintro e w2 ⟨rfl, hb2⟩
  go_wp2_with fail
  go_ret
  exact ⟨rfl, btwo hb1 hb2⟩
theorem range_same {f g : Nat → ByteArray} {n m : Nat} (h : lsOf f n = lsOf g m) : decide ((List.range n).map f = (List.range m).map g) = true := by
  refine decide_eq_true ?_
  have e : ∀ (u : Nat → ByteArray) (k : Nat), (List.range k).map u = (lsOf u k).map (fun l => (⟨l.toArray⟩ : ByteArray)) := by
    intro u k; unfold lsOf lists; rw [List.map_map]; rfl
  rw [e, e, h]
set_option maxHeartbeats 1000000 in
theorem lawtext_any (n c : Nat) (f : Nat → ByteArray) (A : Option Addr) (w : World) (hA : StrArg w A n f) (hm : MaxAt w) :
    Calls Tryd.prog 4 #[.slice A n c] w fun e w' => e = .returned (.bool true) ∧ Below w.heap.size w w' := by
  by_cases hbig : 420 < n
  · exact lawtext_big n c A w hbig
  · have hn : n ≤ 420 := by omega
    have HM := Lib.hid hm
    have HA := Lib.hid hA
    clear hA hm
    go_enter Tryd.func4, Tryd.ntmps4
    go_wp2_with fail
    refine (awake_any _).mono ?_
    rintro e w1 ⟨rfl, hb1⟩
    have HM1 := Lib.hid (MaxAt.below HM.out hb1)
    have HA1 := Lib.hid (StrArg.below HA.out hb1)
    have HB1 := Lib.hid hb1
    clear hb1 HA HM
    go_wp2_with fail
    refine (sum_any n f A c 3000 _ (by omega) (by omega) (by omega) HA1.out).mono ?_
    rintro e w1' ⟨T, rfl, hT, rfl⟩
    have HT := Lib.hid hT
    clear hT
    by_cases hbt : 3000 < T
    · go_wp2_with fail
      refine (awake_any _).mono ?_
      rintro e w2 ⟨rfl, hb2⟩
      go_wp2_with fail
      go_ret
      exact ⟨rfl, btwo HB1.out hb2⟩
    · have hl : sums (lists f) n ≤ 3000 := by have := HT.out (by omega); omega
      have HLS := Lib.hid hl
      go_wp2_with fail
      refine (clone_any n c f A _ (by omega) HA1.out).mono ?_
      rintro e w2 ⟨A', c', rfl, hnc', hA2, hb2⟩
      have HA2 := Lib.hid (StrArg.below HA1.out hb2)
      have HM2 := Lib.hid (MaxAt.below HM1.out hb2)
      have HB2 := Lib.hid (btwo HB1.out hb2)
      have HC2 := Lib.hid hA2
      clear hb2 hA2 HA1 HB1 HM1 hl
      go_wp2_with fail
      refine (ttext_any n c' f A' _ (by omega) HC2.out (by have := HLS.out; omega)).mono ?_
      rintro e w3 ⟨rfl, hb3⟩
      have HA3 := Lib.hid (StrArg.below HA2.out hb3)
      have HM3 := Lib.hid (MaxAt.below HM2.out hb3)
      have HB3 := Lib.hid (btwo HB2.out hb3)
      clear hb3 HA2 HB2 HC2 HM2
      obtain ⟨o, ho⟩ : ∃ o : ByteArray, o = ⟨(textVal (lsOf f n)).1.toArray⟩ := ⟨_, rfl⟩
      obtain ⟨x, hx⟩ : ∃ x, x = (textVal (lsOf f n)).2 := ⟨_, rfl⟩
      have HO := Lib.hid ho
      have HX := Lib.hid hx
      clear ho hx
      rw [← HO.out, ← HX.out]
      go_wp2_with fail
      refine (rtext_any n c f A _ (by omega) HA3.out (by have := HLS.out; omega)).mono ?_
      rintro e w4 ⟨rfl, hb4⟩
      have HA4 := Lib.hid (StrArg.below HA3.out hb4)
      have HM4 := Lib.hid (MaxAt.below HM3.out hb4)
      have HB4 := Lib.hid (btwo HB3.out hb4)
      clear hb4 HA3 HB3 HM3
      rw [← HO.out, ← HX.out]
      by_cases hx0 : x = 0
      · subst hx0
        have htv : textVal (lsOf f n) = (o.data.toList, 0) := by
          have h1 : o.data.toList = (textVal (lsOf f n)).1 := by rw [HO.out]
          have h2 := HX.out
          rw [h1]
          exact Prod.ext rfl h2.symm
        have hlv := text_lines htv
        have hos : o.size ≤ 3000 := by
          have h1 : (linesVal o.data.toList).2 = 0 := by rw [hlv]
          have h2 := lines_sums h1
          have h3 : o.data.toList = textL (lsOf f n) := by
            unfold textVal at htv
            split at htv
            · injection htv with _ h4; cases h4
            · split at htv
              · rename_i h5
                injection htv with _ h4
                exact absurd h4 h5
              · injection htv with h4 _; exact h4.symm
          have h4 : o.size = o.data.toList.length := rfl
          have h5 := HLS.out
          rw [h4, h3, textL_sums]; exact h5
        obtain ⟨m, hm4⟩ := HM4.out
        have HM5 := Lib.hid hm4
        have HLV := Lib.hid hlv
        clear htv hlv hm4 HO HX HM4
        go_wp2_with fail
        refine (tlines_any o m _ hos HM5.out).mono ?_
        rintro e w5 ⟨D, d, rfl, hd, hS5, hb5⟩
        have e1 : (linesVal o.data.toList).1.length = n := by rw [HLV.out, lsOf_len]
        rw [e1, HLV.out] at hS5
        have HS5 := Lib.hid hS5
        have HA5 := Lib.hid (StrArg.below HA4.out hb5)
        have HB5 := Lib.hid (btwo HB4.out hb5)
        rw [e1, show (linesVal o.data.toList).2 = 0 by rw [HLV.out]]
        clear hS5 hb5 e1 hd
        go_wp2_with fail
        refine (req_any n n f (fOf (lsOf f n)) A D c d _ (by omega) (by omega) (StrArg.ins HA5.out) (StrArg.ins HS5.out)).mono ?_
        rintro e w6 ⟨rfl, q, rfl⟩
        rw [range_same (f := f) (g := fOf (lsOf f n)) (n := n) (m := n) (by have := fOf_lists (lsOf f n); rw [lsOf_len] at this; exact this.symm)]
        go_wp2_with fail
        go_ret
        exact ⟨rfl, bdr HB5.out q⟩
      · have hxf : (x == 0) = false := by simp [hx0]
        have hxf2 : (x != 0) = true := by simp [hx0]
        clear hx0
        go_wp2_with fail
        go_ret
        exact ⟨rfl, HB4.out⟩
end Go.Proofs.YtpmdfpfbnmoinaaDoor
