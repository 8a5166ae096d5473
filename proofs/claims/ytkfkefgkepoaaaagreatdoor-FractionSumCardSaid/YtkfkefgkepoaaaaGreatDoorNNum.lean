/- Contracts on valid numbers: a slice that reads as the digits of a number. -/
import Derived.Test.YtkfkefgkepoaaaaGreatDoorNRbn
import Derived.Test.YtkfkefgkepoaaaaGreatDoorNMd
import Derived.Test.YtkfkefgkepoaaaaGreatDoorNBx
namespace Go.Proofs.YtkfkefgkepoaaaaGreatDoor
open Go.RowKit
set_option linter.unusedVariables false
set_option maxRecDepth 100000

theorem len_add2 {x y : Int} {k : Nat} (hx : x < pw k) (hy : y < pw k) (hk : k ≤ 199) : (digs (x + y)).length ≤ 200 := by
  refine digs_len_le ?_
  have := pw_mono (show k + 1 ≤ 200 by omega)
  rw [pw_succ] at this
  have := pw_pos k
  omega
theorem mul_bd {x y : Int} {j k : Nat} (hx : x < pw j) (hy : y < pw k) (hy0 : 0 ≤ y) : x * y < pw (j + k) := by
  rw [pw_add]
  have h1 := Int.mul_le_mul_of_nonneg_right (show x ≤ pw j - 1 by omega) hy0
  have h2 := Int.mul_lt_mul_of_pos_left hy (pw_pos j)
  rw [Int.sub_mul] at h1
  omega
theorem len_of {x : Int} {k : Nat} (h : x < pw k) (hk : k ≤ 200) : (digs x).length ≤ 200 := Nat.le_trans (digs_len_le h) hk
theorem add_bd {x y : Int} {k : Nat} (hx : x < pw k) (hy : y < pw k) : x + y < pw (k + 1) := by rw [pw_succ]; have := pw_pos k; omega
/-- A call that returns the number z without an error. -/
def ValPost (z : Int) (W : World) (e : Ending) (w' : World) : Prop := ∃ A c k, e = .returned (.tuple #[.agg #[.slice A k c], .int .i64 0]) ∧ NumAt w' (.slice A k c) z ∧ Below W.heap.size W w'
theorem val_post {r : Int × Int} {z : Int} {W w' : World} {e : Ending} (h : NatPost r W e w') (hr : r = (z, 0)) (h0 : 0 ≤ z) (hl : (digs z).length ≤ 200) : ValPost z W e w' := by
  subst hr
  obtain ⟨A, c, he, hi, hc, hm, hb⟩ := h
  exact ⟨A, c, _, he, ⟨h0, A, c, rfl, hi, hc, hm, hl⟩, hb⟩
/-- A call that returns the number 0 and an error. -/
def ErrPost (x : Int) (W : World) (e : Ending) (w' : World) : Prop := ∃ A c, e = .returned (.tuple #[.agg #[.slice A 0 c], .int .i64 x]) ∧ NumAt w' (.slice A 0 c) 0 ∧ Below W.heap.size W w'
theorem err_post {r : Int × Int} {x : Int} {W w' : World} {e : Ending} (h : NatPost r W e w') (hr : r = (0, x)) : ErrPost x W e w' := by
  subst hr
  obtain ⟨A, c, he, hi, hc, hm, hb⟩ := h
  have e0 : (digs ((0 : Int), x).1).length = 0 := by rw [show ((0 : Int), x).1 = 0 from rfl, digs_zero]; rfl
  rw [e0] at he hc
  exact ⟨A, c, he, ⟨Int.le_refl _, A, c, by rw [digs_zero]; rfl, hi, by rw [digs_zero]; exact hc, hm, by rw [digs_zero]; simp⟩, hb⟩
def ValPost2 (y z : Int) (W : World) (e : Ending) (w' : World) : Prop := ∃ A c k B d l, e = .returned (.tuple #[.agg #[.slice A k c], .agg #[.slice B l d], .int .i64 0]) ∧ NumAt w' (.slice A k c) y ∧ NumAt w' (.slice B l d) z ∧ Below W.heap.size W w'
theorem val_post2 {r : Int × Int × Int} {y z : Int} {W w' : World} {e : Ending} (h : NatPost2 r W e w') (hr : r = (y, z, 0)) (h0 : 0 ≤ y) (h1 : 0 ≤ z) (hl : (digs y).length ≤ 200) (hl2 : (digs z).length ≤ 200) : ValPost2 y z W e w' := by
  subst hr
  obtain ⟨A, c, B, d, he, hi, hc, hm, hi2, hc2, hm2, hb⟩ := h
  exact ⟨A, c, _, B, d, _, he, ⟨h0, A, c, rfl, hi, hc, hm, hl⟩, ⟨h1, B, d, rfl, hi2, hc2, hm2, hl2⟩, hb⟩
theorem num_in {w : World} {A : Option Addr} {n c : Nat} {x : Int} (h : NumAt w (.slice A n c) x) : (digs x).length = n ∧ n ≤ c ∧ n ≤ maxLen ∧ c ≤ maxLen ∧ IntsIn w A (digs x) ∧ vldB (digs x) = true ∧ val (digs x) = x ∧ 0 ≤ x := by
  obtain ⟨h0, hn, hi, hc, hm, hl⟩ := h.slice
  exact ⟨hn.symm, hc, Nat.le_trans hc hm, hm, hi, vldB_digs (by omega), val_digs h0, h0⟩
theorem lim_ok {z : Int} (hl : (digs z).length ≤ 200) : lim z = (z, 0) := by unfold lim; rw [if_neg (by omega)]
theorem num_mk {w : World} {A : Option Addr} {n c : Nat} {L : List Int} (hl : L.length = n) (hc : n ≤ c) (hm : c ≤ maxLen) (hi : IntsIn w A L) (hv : vldB L = true) : NumAt w (.slice A n c) (val L) := by
  obtain ⟨l1, d1, e1, p1, q1⟩ := vldB_true hv
  exact ⟨p1, A, c, by rw [← e1, hl], by rw [← e1]; exact hi, by rw [← e1, hl]; exact hc, hm, by rw [← e1]; exact l1⟩
theorem len_div {x y : Int} (hx : 0 ≤ x) (hy : 0 < y) (h : (digs x).length ≤ 200) : (digs (x / y)).length ≤ 200 :=
  len200 (Int.ediv_le_self y hx) h
theorem len_rem {x y : Int} (hx : 0 ≤ x) (hy : 0 < y) (h : (digs y).length ≤ 200) : (digs (x % y)).length ≤ 200 := len200 (Int.le_of_lt (Int.emod_lt_of_pos x hy)) h
theorem gcdI_le_right {x y : Int} (hy : 0 < y) : gcdI x y ≤ y := by rw [gcdI_comm]; exact gcdI_le hy
theorem len_gcd {x y : Int} (hx : 0 ≤ x) (hy : 0 ≤ y) (h : (digs x).length ≤ 200) (h2 : (digs y).length ≤ 200) : (digs (gcdI x y)).length ≤ 200 := by
  by_cases c : 0 < x
  · exact len200 (gcdI_le c) h
  · obtain rfl : x = 0 := by omega
    rw [gcdI_zero_left hy]; exact h2
theorem add_num (n c m d : Nat) (x y : Int) (A B : Option Addr) (w : World) (h : NumAt w (.slice A n c) x) (k : NumAt w (.slice B m d) y) (hl : (digs (x + y)).length ≤ 200) :
    Calls Tryz.prog 39 #[.agg #[.slice A n c], .agg #[.slice B m d]] w (ValPost (x + y) w) := by
  obtain ⟨a1, a2, a3, a4, a5, a6, a7, a8⟩ := num_in h
  obtain ⟨b1, b2, b3, b4, b5, b6, b7, b8⟩ := num_in k
  exact (add_any (digs x) (digs y) n c m d A B w a1 b1 a2 b2 a3 b3 a5 b5).mono fun e w' h => val_post h (by rw [two_ok _ a6 b6, a7, b7]; exact lim_ok hl) (by omega) hl
theorem sub_num (n c m d : Nat) (x y : Int) (A B : Option Addr) (w : World) (h : NumAt w (.slice A n c) x) (k : NumAt w (.slice B m d) y) (hle : y ≤ x) :
    Calls Tryz.prog 69 #[.agg #[.slice A n c], .agg #[.slice B m d]] w (ValPost (x - y) w) := by
  obtain ⟨a1, a2, a3, a4, a5, a6, a7, a8⟩ := num_in h
  obtain ⟨b1, b2, b3, b4, b5, b6, b7, b8⟩ := num_in k
  exact (sub_any (digs x) (digs y) n c m d A B w a1 b1 a2 b2 a3 b3 a5 b5).mono fun e w' h => val_post h (by rw [two_ok _ a6 b6, a7, b7]; unfold subR; rw [if_neg (by omega)]) (by omega) (len200 (show x - y ≤ x by omega) (vldB_true a6).1)
theorem mul_num (n c m d : Nat) (x y : Int) (A B : Option Addr) (w : World) (h : NumAt w (.slice A n c) x) (k : NumAt w (.slice B m d) y) (hl : (digs (x * y)).length ≤ 200) :
    Calls Tryz.prog 37 #[.agg #[.slice A n c], .agg #[.slice B m d]] w (ValPost (x * y) w) := by
  obtain ⟨a1, a2, a3, a4, a5, a6, a7, a8⟩ := num_in h
  obtain ⟨b1, b2, b3, b4, b5, b6, b7, b8⟩ := num_in k
  exact (mul_any (digs x) (digs y) n c m d A B w a1 b1 a2 b2 a3 b3 a5 b5).mono fun e w' h => val_post h (by rw [two_ok _ a6 b6, a7, b7]; exact lim_ok hl) (Int.mul_nonneg a8 b8) hl
theorem gcd_num (n c m d : Nat) (x y : Int) (A B : Option Addr) (w : World) (h : NumAt w (.slice A n c) x) (k : NumAt w (.slice B m d) y) :
    Calls Tryz.prog 35 #[.agg #[.slice A n c], .agg #[.slice B m d]] w (ValPost (gcdI x y) w) := by
  obtain ⟨a1, a2, a3, a4, a5, a6, a7, a8⟩ := num_in h
  obtain ⟨b1, b2, b3, b4, b5, b6, b7, b8⟩ := num_in k
  exact (gcd_any (digs x) (digs y) n c m d A B w a1 b1 a2 b2 a3 b3 a5 b5 a4 b4).mono fun e w' h => val_post h (by rw [two_ok _ a6 b6, a7, b7]) (gcdI_nonneg _ _) (len_gcd a8 b8 (vldB_true a6).1 (vldB_true b6).1)
theorem div_num (n c m d : Nat) (x y : Int) (A B : Option Addr) (w : World) (h : NumAt w (.slice A n c) x) (k : NumAt w (.slice B m d) y) (hy : 0 < y) :
    Calls Tryz.prog 50 #[.agg #[.slice A n c], .agg #[.slice B m d]] w (ValPost2 (x / y) (x % y) w) := by
  obtain ⟨a1, a2, a3, a4, a5, a6, a7, a8⟩ := num_in h
  obtain ⟨b1, b2, b3, b4, b5, b6, b7, b8⟩ := num_in k
  exact (div_any (digs x) (digs y) n c m d A B w a1 b1 a2 b2 a3 b3 a5 b5).mono fun e w' h => val_post2 h (by rw [two2_ok _ a6 b6, a7, b7]; unfold divR; rw [if_neg (by omega)]) (Int.ediv_nonneg a8 b8) (Int.emod_nonneg _ (by omega)) (len_div a8 hy (vldB_true a6).1) (len_rem a8 hy (vldB_true b6).1)
theorem radd_num (n c m d : Nat) (x y : Int) (A B : Option Addr) (w : World) (h : NumAt w (.slice A n c) x) (k : NumAt w (.slice B m d) y) (hl : (digs (x + y)).length ≤ 200) :
    Calls Tryz.prog 46 #[.agg #[.slice A n c], .agg #[.slice B m d]] w (ValPost (x + y) w) := by
  obtain ⟨a1, a2, a3, a4, a5, a6, a7, a8⟩ := num_in h
  obtain ⟨b1, b2, b3, b4, b5, b6, b7, b8⟩ := num_in k
  exact (radd_any (digs x) (digs y) n c m d A B w a1 b1 a2 b2 a3 b3 a5 b5).mono fun e w' h => val_post h (by rw [two_ok _ a6 b6, a7, b7]; exact lim_ok hl) (by omega) hl
theorem rsub_num (n c m d : Nat) (x y : Int) (A B : Option Addr) (w : World) (h : NumAt w (.slice A n c) x) (k : NumAt w (.slice B m d) y) (hle : y ≤ x) :
    Calls Tryz.prog 49 #[.agg #[.slice A n c], .agg #[.slice B m d]] w (ValPost (x - y) w) := by
  obtain ⟨a1, a2, a3, a4, a5, a6, a7, a8⟩ := num_in h
  obtain ⟨b1, b2, b3, b4, b5, b6, b7, b8⟩ := num_in k
  exact (rsub_any (digs x) (digs y) n c m d A B w a1 b1 a2 b2 a3 b3 a5 b5).mono fun e w' h => val_post h (by rw [two_ok _ a6 b6, a7, b7]; unfold subR; rw [if_neg (by omega)]) (by omega) (len200 (show x - y ≤ x by omega) (vldB_true a6).1)
theorem rmul_num (n c m d : Nat) (x y : Int) (A B : Option Addr) (w : World) (h : NumAt w (.slice A n c) x) (k : NumAt w (.slice B m d) y) (hl : (digs (x * y)).length ≤ 200) :
    Calls Tryz.prog 45 #[.agg #[.slice A n c], .agg #[.slice B m d]] w (ValPost (x * y) w) := by
  obtain ⟨a1, a2, a3, a4, a5, a6, a7, a8⟩ := num_in h
  obtain ⟨b1, b2, b3, b4, b5, b6, b7, b8⟩ := num_in k
  exact (rmul_any (digs x) (digs y) n c m d A B w a1 b1 a2 b2 a3 b3 a5 b5).mono fun e w' h => val_post h (by rw [two_ok _ a6 b6, a7, b7]; exact lim_ok hl) (Int.mul_nonneg a8 b8) hl
theorem rgcd_num (n c m d : Nat) (x y : Int) (A B : Option Addr) (w : World) (h : NumAt w (.slice A n c) x) (k : NumAt w (.slice B m d) y) :
    Calls Tryz.prog 42 #[.agg #[.slice A n c], .agg #[.slice B m d]] w (ValPost (gcdI x y) w) := by
  obtain ⟨a1, a2, a3, a4, a5, a6, a7, a8⟩ := num_in h
  obtain ⟨b1, b2, b3, b4, b5, b6, b7, b8⟩ := num_in k
  exact (rgcd_any (digs x) (digs y) n c m d A B w a1 b1 a2 b2 a3 b3 a5 b5 a4 b4).mono fun e w' h => val_post h (by rw [two_ok _ a6 b6, a7, b7]) (gcdI_nonneg _ _) (len_gcd a8 b8 (vldB_true a6).1 (vldB_true b6).1)
theorem rdiv_num (n c m d : Nat) (x y : Int) (A B : Option Addr) (w : World) (h : NumAt w (.slice A n c) x) (k : NumAt w (.slice B m d) y) (hy : 0 < y) :
    Calls Tryz.prog 79 #[.agg #[.slice A n c], .agg #[.slice B m d]] w (ValPost2 (x / y) (x % y) w) := by
  obtain ⟨a1, a2, a3, a4, a5, a6, a7, a8⟩ := num_in h
  obtain ⟨b1, b2, b3, b4, b5, b6, b7, b8⟩ := num_in k
  exact (rdiv_any (digs x) (digs y) n c m d A B w a1 b1 a2 b2 a3 b3 a5 b5).mono fun e w' h => val_post2 h (by rw [two2_ok _ a6 b6, a7, b7]; unfold divR; rw [if_neg (by omega)]) (Int.ediv_nonneg a8 b8) (Int.emod_nonneg _ (by omega)) (len_div a8 hy (vldB_true a6).1) (len_rem a8 hy (vldB_true b6).1)
theorem cmp_num (n c m d : Nat) (x y : Int) (A B : Option Addr) (w : World) (h : NumAt w (.slice A n c) x) (k : NumAt w (.slice B m d) y) :
    Calls Tryz.prog 66 #[.agg #[.slice A n c], .agg #[.slice B m d]] w fun e w' => e = .returned (.int .i64 (sgn (x - y))) ∧ Below w.heap.size w w' := by
  obtain ⟨a1, a2, a3, a4, a5, a6, a7, a8⟩ := num_in h
  obtain ⟨b1, b2, b3, b4, b5, b6, b7, b8⟩ := num_in k
  have := cmp_any (digs x) (digs y) n c m d A B w a1 b1 a3 b3 a5 b5
  rwa [cmpL_digs a8 b8] at this
theorem rCmp_num (n c m d : Nat) (x y : Int) (A B : Option Addr) (w : World) (h : NumAt w (.slice A n c) x) (k : NumAt w (.slice B m d) y) :
    Calls Tryz.prog 48 #[.agg #[.slice A n c], .agg #[.slice B m d]] w fun e w' => e = .returned (.int .i64 (sgn (x - y))) ∧ Below w.heap.size w w' := by
  obtain ⟨a1, a2, a3, a4, a5, a6, a7, a8⟩ := num_in h
  obtain ⟨b1, b2, b3, b4, b5, b6, b7, b8⟩ := num_in k
  have := rCmp_any (digs x) (digs y) n c m d A B w a1 b1 a3 b3 a5 b5
  rwa [cmpL_digs a8 b8] at this
theorem same_num (n c m d : Nat) (x y : Int) (A B : Option Addr) (w : World) (h : NumAt w (.slice A n c) x) (k : NumAt w (.slice B m d) y) (hxy : x = y) :
    Calls Tryz.prog 23 #[.agg #[.slice A n c], .agg #[.slice B m d]] w fun e w' => e = .returned (.bool true) ∧ Below w.heap.size w w' := by
  subst hxy
  obtain ⟨a1, a2, a3, a4, a5, a6, a7, a8⟩ := num_in h
  obtain ⟨b1, b2, b3, b4, b5, b6, b7, b8⟩ := num_in k
  exact same_true (digs x) n c m d A B w a1 b1 a3 b3 a5 b5
theorem same_numB (n c m d : Nat) (x y : Int) (A B : Option Addr) (w : World) (h : NumAt w (.slice A n c) x) (k : NumAt w (.slice B m d) y) :
    Calls Tryz.prog 23 #[.agg #[.slice A n c], .agg #[.slice B m d]] w fun e w' => e = .returned (.bool (decide (x = y))) ∧ Below w.heap.size w w' := by
  obtain ⟨a1, a2, a3, a4, a5, a6, a7, a8⟩ := num_in h
  obtain ⟨b1, b2, b3, b4, b5, b6, b7, b8⟩ := num_in k
  have := same_any (digs x) (digs y) n c m d A B w a1 b1 a3 b3 a5 b5
  rwa [show decide (digs x = digs y) = decide (x = y) from decide_eq_decide.2 ⟨fun h => digs_inj a8 b8 h, fun h => by rw [h]⟩] at this
def MadeNum (z : Int) (W : World) (e : Ending) (w' : World) : Prop := ∃ A c k, e = .returned (.agg #[.slice A k c]) ∧ NumAt w' (.slice A k c) z ∧ Below W.heap.size W w'
theorem word_len (L : List Int) : (digs (val (wordD L))).length ≤ L.length := by
  have h := val_lt (wordD_dig L)
  rw [wordD_len] at h
  exact digs_len_le h
/-- What lives on between the calls of a statement: cells of structs, numbers. -/
def LiveN (W : World) (lc : List (Nat × Value)) (ln : List (Value × Int)) (w : World) : Prop :=
  (∀ g v, (g, v) ∈ lc → w.cell? ⟨g, 0, none⟩ = some v ∧ g < w.heap.size) ∧ (∀ v x, (v, x) ∈ ln → NumAt w v x) ∧ Below W.heap.size W w
theorem LiveN.go {W w w' : World} {lc : List (Nat × Value)} {ln : List (Value × Int)} (h : LiveN W lc ln w) (hb : Below w.heap.size w w') : LiveN W lc ln w' :=
  ⟨fun g v hm => cell_old (h.1 g v hm).1 (h.1 g v hm).2 hb, fun v x hm => (h.2.1 v x hm).below hb, btwo h.2.2 hb⟩
theorem LiveN.num {W w : World} {lc : List (Nat × Value)} {ln : List (Value × Int)} {v : Value} {x : Int} (h : LiveN W lc ln w) (hi : NumAt w v x) : LiveN W lc ((v, x) :: ln) w :=
  ⟨h.1, fun u y hm => by
    rcases List.mem_cons.1 hm with e | e
    · injection e with e1 e2; subst e1; subst e2; exact hi
    · exact h.2.1 u y e, h.2.2⟩
theorem LiveN.new {W w : World} {lc : List (Nat × Value)} {ln : List (Value × Int)} (h : LiveN W lc ln w) (v : Value) (T : TypeId) : LiveN W ((w.heap.size, v) :: lc) ln (w.alloc (.cells #[v] T)) := by
  have hb : Below w.heap.size w (w.alloc (.cells #[v] T)) := (Below.refl _ _).alloc (Nat.le_refl _) _
  have h' := h.go hb
  refine ⟨fun g u hm => ?_, h'.2⟩
  rcases List.mem_cons.1 hm with e | e
  · injection e with e1 e2; subst e1; subst e2; exact ⟨row_cell (heap_alloc_new w _), by simp⟩
  · exact h'.1 g u e
theorem LiveN.new2 {W w : World} {lc : List (Nat × Value)} {ln : List (Value × Int)} (h : LiveN W lc ln w) (v1 v2 : Value) (T : TypeId) : LiveN W ((w.heap.size + 1, v2) :: (w.heap.size, v1) :: lc) ln ((w.alloc (.cells #[v1] T)).alloc (.cells #[v2] T)) := by
  have := (h.new v1 T).new v2 T
  simpa using this
theorem LiveN.new3 {W w : World} {lc : List (Nat × Value)} {ln : List (Value × Int)} (h : LiveN W lc ln w) (v1 v2 v3 : Value) (T : TypeId) : LiveN W ((w.heap.size + 1 + 1, v3) :: (w.heap.size + 1, v2) :: (w.heap.size, v1) :: lc) ln (((w.alloc (.cells #[v1] T)).alloc (.cells #[v2] T)).alloc (.cells #[v3] T)) := by
  have := ((h.new v1 T).new v2 T).new v3 T
  simpa using this
theorem LiveN.boxed {W w : World} {lc : List (Nat × Value)} {ln : List (Value × Int)} {g : Nat} {v : Value} (h : LiveN W lc ln w) (hc : w.cell? ⟨g, 0, none⟩ = some v) (hg : g < w.heap.size) : LiveN W ((g, v) :: lc) ln w :=
  ⟨fun g' u hm => by
    rcases List.mem_cons.1 hm with e | e
    · injection e with e1 e2; subst e1; subst e2; exact ⟨hc, hg⟩
    · exact h.1 g' u e, h.2⟩
theorem LiveN.start (W : World) : LiveN W [] [] W := ⟨fun g v hm => by simp at hm, fun v x hm => by simp at hm, Below.refl _ _⟩
theorem LiveN.draw {W w : World} {lc : List (Nat × Value)} {ln : List (Value × Int)} (h : LiveN W lc ln w) (n : Nat) : LiveN W lc ln (w.drewN n) := h.go (bdr (Below.refl _ _) n)
theorem LiveN.box {W w : World} {lc : List (Nat × Value)} {ln : List (Value × Int)} {g : Nat} {v : Value} (h : LiveN W lc ln w) (hm : (g, v) ∈ lc) : w.cell? ⟨g, 0, none⟩ = some v ∧ g < w.heap.size := h.1 g v hm
theorem LiveN.at {W w : World} {lc : List (Nat × Value)} {ln : List (Value × Int)} {v : Value} {x : Int} (h : LiveN W lc ln w) (hm : (v, x) ∈ ln) : NumAt w v x := h.2.1 v x hm
end Go.Proofs.YtkfkefgkepoaaaaGreatDoor
