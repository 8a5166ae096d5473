/- Contracts: Valid of clusters, of the program. -/
import Derived.Test.YthcdbhancfpldaaUd
import Derived.Test.YthcdbhancfpldaaUf
import Derived.Test.YthcdbhancfpldaaLA
namespace Go.Proofs.Ythcdbhancfpldaa
open Go.RowKit
set_option linter.unusedVariables false
set_option linter.unusedSimpArgs false
set_option maxRecDepth 100000

/-- A cluster that lies there: its sounds and its breaks. -/
structure CIn (w : World) (A : Option Addr) (n : Nat) (B : Option Addr) (m : Nat) (C : Clu) : Prop where
  ls : C.s.length = n
  lb : C.b.length = m
  hn : n ≤ 1000000
  hm : m ≤ 1000000
  ht : ∀ x ∈ C.s, x.t.length ≤ 140737488355328
  cs : CellsIn w A (sndsC C.s)
  cb : CellsIn w B (ints C.b)
theorem CIn.below {w w' : World} {A B : Option Addr} {n m : Nat} {C : Clu} (h : CIn w A n B m C) (hb : Below w.heap.size w w') : CIn w' A n B m C :=
  ⟨h.ls, h.lb, h.hn, h.hm, h.ht, h.cs.below hb, h.cb.below hb⟩
/-- A box of a cluster. -/
def cbox (g : Nat) (A : Option Addr) (n c : Nat) (B : Option Addr) (m d : Nat) : Itm := box 25 g [.slice A n c, .slice B m d]
theorem Hp.cbox_new {W w : World} {l : List Itm} (h : Hp W l w) (A : Option Addr) (n c : Nat) (B : Option Addr) (m d : Nat) : Hp W (cbox w.heap.size A n c B m d :: l) (w.alloc (.cells #[.slice A n c, .slice B m d] 25)) := h.box_new 25 _
theorem Hp.cbox_at {W w : World} {l : List Itm} {i g : Nat} {A : Option Addr} {n c : Nat} {B : Option Addr} {m d : Nat} (h : Hp W l w) (hi : l[i]? = some (cbox g A n c B m d)) :
    w.cell? ⟨g, 0, none⟩ = some (.slice A n c) ∧ w.cell? ⟨g, 1, none⟩ = some (.slice B m d) ∧ g < w.heap.size :=
  ⟨(h.box_at hi (j := 0) rfl).1, (h.box_at hi (j := 1) rfl).1, (h.box_at hi (j := 0) rfl).2.2⟩
def bigB (n m : Nat) : Bool := decide (12 < n) || decide (12 < m)
theorem big_is (n m : Nat) : (decide ((12 : Int) < (n : Int)) || decide ((12 : Int) < (m : Int))) = bigB n m := by
  unfold bigB
  congr 1 <;> (apply decide_eq_decide.2; omega)
set_option maxHeartbeats 2000000 in
theorem toolarge_any (A : Option Addr) (n c : Nat) (B : Option Addr) (m d : Nat) (w : World) :
    Calls Try.prog 41 #[.agg #[.slice A n c, .slice B m d]] w fun e w' => e = .returned (.bool (bigB n m)) ∧ Below w.heap.size w w' := by
  by_cases h1 : 12 < n
  · have HE := Lib.hid (show bigB n m = true by unfold bigB; rw [decide_eq_true h1]; rfl)
    go_enter Try.func41, Try.ntmps41
    go_wp2
    go_ret
    first | exact ⟨ret_bool HE.out.symm, bnew _ _⟩ | exact ⟨ret_bool (big_is n m), bnew _ _⟩
  · by_cases h2 : 12 < m
    · have HE := Lib.hid (show bigB n m = true by unfold bigB; rw [decide_eq_true h2, Bool.or_true])
      go_enter Try.func41, Try.ntmps41
      go_wp2
      go_ret
      first | exact ⟨ret_bool HE.out.symm, bnew _ _⟩ | exact ⟨ret_bool (big_is n m), bnew _ _⟩
    · have HE := Lib.hid (show bigB n m = false by unfold bigB; rw [decide_eq_false h1, decide_eq_false h2]; rfl)
      go_enter Try.func41, Try.ntmps41
      go_wp2
      go_ret
      first | exact ⟨ret_bool HE.out.symm, bnew _ _⟩ | exact ⟨ret_bool (big_is n m), bnew _ _⟩
theorem snF_at {L : List Snd} {k : Nat} {x : Snd} (h : snF (L.take k) = 0) (hx : L[k]? = some x) : snF L = if vS x ≠ 0 then vS x else if nuc x = true then 1 else snF (L.drop (k + 1)) := by
  obtain ⟨hk, e⟩ := List.getElem?_eq_some_iff.1 hx
  rw [snF_cut h, List.drop_eq_getElem_cons hk, e]; rfl
theorem snF_next {L : List Snd} {k : Nat} {x : Snd} (h : snF (L.take k) = 0) (hx : L[k]? = some x) (h1 : vS x = 0) (h2 : nuc x = false) : snF (L.take (k + 1)) = 0 := by
  rw [take_snoc hx]
  refine snF_zero.2 fun y hy => ?_
  rcases List.mem_append.1 hy with hy | hy
  · exact snF_zero.1 h y hy
  · rw [List.mem_singleton.1 hy]; exact ⟨h1, h2⟩
set_option maxHeartbeats 4000000 in
theorem sndfault_any (L : List Snd) (n c : Nat) (A : Option Addr) (w : World) (hl : L.length = n) (hn : n ≤ 1000000) (hs : ∀ x ∈ L, x.t.length ≤ 140737488355328) (hA : CellsIn w A (sndsC L)) :
    Calls Try.prog 42 #[.slice A n c] w fun e w' => e = .returned (.int .i64 (snF L)) ∧ Below w.heap.size w w' := by
  have HL := Lib.hid hl
  have HA := Lib.hid hA
  have HS := Lib.hid hs
  clear hl hA hs
  go_enter Try.func42, Try.ntmps42
  go_wp2
  go_loopw [8] (fun i wr => ∃ k : Nat, k ≤ n ∧ i = .int .i64 k ∧ snF (L.take k) = 0 ∧ Below w.heap.size w wr) (fun i _ => n - (intOf i).toNat)
  case atStart => exact ⟨0, Nat.zero_le _, rfl, rfl, Below.refl _ _⟩
  case round =>
    obtain ⟨k, hk, rfl, hz, hbr⟩ := hrel
    have HZ := Lib.hid hz
    have HB := Lib.hid hbr
    clear hz
    by_cases hlt : k < n
    · obtain ⟨x, hx⟩ := idx_lt HL.out hlt
      obtain ⟨b, off, rfl, hb, c0, c1, c2⟩ := (HA.out.below hbr).snd hx
      have HX := Lib.hid hx
      have V1 := Lib.hid (((Hp.start w).go hbr).sbox_new x)
      clear hx hbr
      go_wp2_with fail
      refine (valid_any x _ (HS.out x (List.mem_of_getElem? HX.out))).mono ?_
      rintro e w1 ⟨rfl, hb1⟩
      have V2 := Lib.hid (V1.out.go hb1)
      clear hb1
      obtain ⟨d0, d1, d2, dg⟩ := V2.out.sbox_at (i := 0) rfl
      obtain ⟨v, hv⟩ : ∃ v, vS x = v := ⟨_, rfl⟩
      have HV := Lib.hid hv
      rw [hv]
      clear hv
      by_cases h0 : v = 0
      · subst h0
        go_wp2_with fail
        refine (nucleus_any x _).mono ?_
        rintro e w2 ⟨rfl, hb2⟩
        have V3 := Lib.hid (V2.out.go hb2)
        clear hb2 d0 d1 d2 dg
        cases hnu : nuc x with
        | true =>
          have HE := Lib.hid (show snF L = 1 by rw [snF_at HZ.out HX.out, if_neg (by simp [HV.out]), if_pos hnu])
          clear hnu
          go_wp2_with fail
          go_ret
          exact ⟨sym_int HE.out, V3.out.below⟩
        | false =>
          have HN := Lib.hid (snF_next HZ.out HX.out HV.out hnu)
          clear hnu
          go_wp2_with fail
          go_roundw
          case rel => exact ⟨k + 1, by omega, by go_num, HN.out, V3.out.below⟩
          case measure => simp [intOf]; omega
      · have HE := Lib.hid (show snF L = v by rw [snF_at HZ.out HX.out, HV.out, if_pos h0])
        have hne : (v != 0) = true := bne_yes h0
        clear h0
        go_wp2_with fail
        go_ret
        exact ⟨sym_int HE.out, V2.out.below⟩
    · have HE := Lib.hid (show snF L = 0 by have := HZ.out; rwa [take_all (by have := HL.out; omega)] at this)
      clear hbr
      go_wp2
      go_ret
      exact ⟨sym_int HE.out, HB.out⟩
def pvB (M : List Int) : Nat → Int
  | 0 => 0
  | k + 1 => M.getD k 0
theorem brF_at {N : Int} {M : List Int} {k : Nat} (hk : k < M.length) (h : brF N 0 M = brF N (pvB M k) (M.drop k)) : brF N 0 M = if M.getD k 0 < 0 ∨ N < M.getD k 0 then 6 else if M.getD k 0 < pvB M k then 18 else brF N (pvB M (k + 1)) (M.drop (k + 1)) := by
  have e : M.getD k 0 = M[k] := getD_at hk
  rw [h, List.drop_eq_getElem_cons hk, ← e]; rfl
set_option maxHeartbeats 4000000 in
theorem brkfault_any (M : List Int) (m d N : Nat) (B : Option Addr) (w : World) (hl : M.length = m) (hm : m ≤ 1000000) (hN : N ≤ 1000000) (hB : CellsIn w B (ints M)) :
    Calls Try.prog 43 #[.slice B m d, .int .i64 (N : Int)] w fun e w' => e = .returned (.int .i64 (brF N 0 M)) ∧ w = w' := by
  have HL := Lib.hid hl
  have HB := Lib.hid hB
  clear hl hB
  go_enter Try.func43, Try.ntmps43
  go_wp2
  go_loopw [9] (fun i wr => ∃ k : Nat, k ≤ m ∧ i = .int .i64 k ∧ brF N 0 M = brF N (pvB M k) (M.drop k) ∧ w = wr) (fun i _ => m - (intOf i).toNat)
  case atStart => exact ⟨0, Nat.zero_le _, rfl, rfl, rfl⟩
  case round =>
    obtain ⟨k, hk, rfl, hz, rfl⟩ := hrel
    have HZ := Lib.hid hz
    clear hz
    by_cases hlt : k < m
    · obtain ⟨b, off, rfl, hb, c0⟩ := HB.out.int (j := k) (by have := HL.out; omega)
      have HE := Lib.hid (brF_at (by have := HL.out; omega) HZ.out)
      obtain ⟨a, ha⟩ : ∃ a, M.getD k 0 = a := ⟨_, rfl⟩
      have HA := Lib.hid ha
      rw [ha] at c0
      clear ha
      by_cases h1 : a < 0
      · have HF := Lib.hid (show brF N 0 M = 6 by rw [HE.out, HA.out, if_pos (.inl h1)])
        go_wp2
        go_ret
        exact ⟨sym_int HF.out, rfl⟩
      · by_cases h2 : (N : Int) < a
        · have HF := Lib.hid (show brF N 0 M = 6 by rw [HE.out, HA.out, if_pos (.inr h2)])
          go_wp2
          go_ret
          exact ⟨sym_int HF.out, rfl⟩
        · by_cases h00 : k = 0
          · subst h00
            rw [Nat.add_zero] at c0
            have HF := Lib.hid (show brF N 0 M = brF N (pvB M (0 + 1)) (M.drop (0 + 1)) by rw [HE.out, HA.out, if_neg (by omega), if_neg (show ¬ a < pvB M 0 from h1)])
            go_wp2
            go_roundw
            case rel => exact ⟨0 + 1, by omega, by go_num, HF.out, trivial⟩
            case measure => simp [intOf]; omega
          · obtain ⟨p, hp⟩ : ∃ p, k = p + 1 := ⟨k - 1, by omega⟩
            have hk1 : (0 : Int) < (k : Int) := by omega
            have hk2 : 0 < k := by omega
            have hw : IntKind.i64.wrap ((k : Int) - 1) = (p : Int) := by rw [IntWalk.i64_in _ (by omega)]; omega
            obtain ⟨b2, off2, e2, _, c1⟩ := HB.out.int (j := p) (by have := HL.out; omega)
            injection e2 with e2
            injection e2 with e2 e3
            subst e2 e3
            obtain ⟨y, hy⟩ : ∃ y, M.getD p 0 = y := ⟨_, rfl⟩
            have HP := Lib.hid (show pvB M k = y by rw [hp]; exact hy)
            rw [hy] at c1
            have hpm : p < m := by omega
            clear hy hp h00
            by_cases h3 : a < y
            · have HF := Lib.hid (show brF N 0 M = 18 by rw [HE.out, HA.out, if_neg (by omega), if_pos (by rw [HP.out]; exact h3)])
              go_wp2
              go_ret
              exact ⟨sym_int HF.out, rfl⟩
            · have HF := Lib.hid (show brF N 0 M = brF N (pvB M (k + 1)) (M.drop (k + 1)) by rw [HE.out, HA.out, if_neg (by omega), if_neg (by rw [HP.out]; exact h3)])
              go_wp2
              go_roundw
              case rel => exact ⟨k + 1, by omega, by go_num, HF.out, trivial⟩
              case measure => simp [intOf]; omega
    · have HE := Lib.hid (show brF N 0 M = 0 by rw [HZ.out, List.drop_eq_nil_of_le (by have := HL.out; omega)]; rfl)
      go_wp2
      go_ret
      exact ⟨sym_int HE.out, rfl⟩
set_option maxHeartbeats 4000000 in
theorem cvalid_any (C : Clu) (A : Option Addr) (n c : Nat) (B : Option Addr) (m d : Nat) (w : World) (hC : CIn w A n B m C) :
    Calls Try.prog 18 #[.agg #[.slice A n c, .slice B m d]] w fun e w' => e = .returned (.int .i64 (vC C)) ∧ Below w.heap.size w w' := by
  have HC := Lib.hid hC
  have hn := hC.hn
  have hm := hC.hm
  have V1 := Lib.hid ((Hp.start w).cbox_new A n c B m d)
  obtain ⟨b0, b1, bg⟩ := V1.out.cbox_at (i := 0) rfl
  clear hC
  go_enter Try.func18, Try.ntmps18
  go_wp2_with fail
  refine (toolarge_any A n c B m d _).mono ?_
  rintro e w1 ⟨rfl, hb1⟩
  have V2 := Lib.hid (V1.out.go hb1)
  clear hb1 b0 b1 bg
  obtain ⟨b0, b1, bg⟩ := V2.out.cbox_at (i := 0) rfl
  cases hbig : bigB n m with
  | true =>
    have HE := Lib.hid (show vC C = 3 by
      unfold vC; rw [if_pos]; unfold bigB at hbig; rw [HC.out.ls, HC.out.lb]; simpa using hbig)
    clear hbig
    go_wp2_with fail
    go_ret
    exact ⟨sym_int HE.out, V2.out.below⟩
  | false =>
    have HG := Lib.hid (show vC C = if snF C.s ≠ 0 then snF C.s else brF C.s.length 0 C.b by
      unfold vC; rw [if_neg]; unfold bigB at hbig; rw [HC.out.ls, HC.out.lb]; simpa using hbig)
    clear hbig
    go_wp2_with fail
    refine (sndfault_any C.s n c A _ HC.out.ls hn HC.out.ht (HC.out.cs.below V2.out.below)).mono ?_
    rintro e w2 ⟨rfl, hb2⟩
    have V3 := Lib.hid (V2.out.go hb2)
    clear hb2 b0 b1 bg
    obtain ⟨b0, b1, bg⟩ := V3.out.cbox_at (i := 0) rfl
    obtain ⟨v, hv⟩ : ∃ v, snF C.s = v := ⟨_, rfl⟩
    have HV := Lib.hid hv
    rw [hv]
    clear hv
    by_cases h0 : v = 0
    · subst h0
      have HE := Lib.hid (show vC C = brF C.s.length 0 C.b by rw [HG.out, if_neg (by simp [HV.out])])
      go_wp2_with fail
      refine (brkfault_any C.b m d n B _ HC.out.lb hm hn (HC.out.cb.below V3.out.below)).mono ?_
      rintro e w3 ⟨rfl, rfl⟩
      go_wp2_with fail
      go_ret
      exact ⟨sym_int (show vC C = _ by rw [HE.out, HC.out.ls]), V3.out.below⟩
    · have HE := Lib.hid (show vC C = v by rw [HG.out, HV.out, if_pos h0])
      have hne : (v != 0) = true := bne_yes h0
      clear h0
      go_wp2_with fail
      go_ret
      exact ⟨sym_int HE.out, V3.out.below⟩
end Go.Proofs.Ythcdbhancfpldaa
