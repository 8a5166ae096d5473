/- Plain functions on two patterns: their error, what they have in common, and the least pattern above both; rows of bytes in memory. -/
import Derived.Test.YtlkigmlgbnlkaaaDoorPa
namespace Go.Proofs.YtlkigmlgbnlkaaaDoor
open Go.RowKit
set_option linter.unusedVariables false

def agB (a b : UInt8) : Bool := a == b || a == 120 || b == 120
def agI (a b : Int) : Bool := a == b || a == 120 || b == 120
def meetB (a b : UInt8) : UInt8 := if a = 120 then b else a
def meetI (a b : Int) : Int := if a = 120 then b else a
def joinB (a b : UInt8) : UInt8 := if a = b then a else 120
def joinI (a b : Int) : Int := if a = b then a else 120
def agL : List UInt8 → List UInt8 → Bool
  | a :: r, b :: s => agB a b && agL r s
  | _, _ => true
def pairErr (p q : List UInt8) : Int := if pErr p ≠ 0 then pErr p else if pErr q ≠ 0 then pErr q else if p.length ≠ q.length then 6 else 0
def meetVal (p q : List UInt8) : List UInt8 × Int := if pairErr p q ≠ 0 then ([], pairErr p q) else if agL p q then (List.zipWith meetB p q, 0) else ([], 12)
def joinVal (p q : List UInt8) : List UInt8 × Int := if pairErr p q ≠ 0 then ([], pairErr p q) else (List.zipWith joinB p q, 0)
def matchV (p q : List UInt8) : Bool := (meetVal p q).2 == 0

theorem int_eq {a b : UInt8} : ((a.toNat : Int) = (b.toNat : Int)) ↔ a = b := ⟨byte_eq, fun h => by rw [h]⟩
theorem int_120 {a : UInt8} : ((a.toNat : Int) = 120) ↔ a = 120 := ⟨fun h => byte_is (n := 120) (by omega) (by decide), fun h => by rw [h]; rfl⟩
theorem agB_int (a b : UInt8) : agB a b = agI (a.toNat : Int) (b.toNat : Int) := by
  unfold agB agI
  rw [Bool.eq_iff_iff]
  simp only [Bool.or_eq_true, beq_iff_eq, int_eq, int_120]
theorem meetB_int (a b : UInt8) : ((meetB a b).toNat : Int) = meetI (a.toNat : Int) (b.toNat : Int) := by
  unfold meetB meetI; simp only [int_120]; split <;> rfl
theorem joinB_int (a b : UInt8) : ((joinB a b).toNat : Int) = joinI (a.toNat : Int) (b.toNat : Int) := by
  unfold joinB joinI; simp only [int_eq]; split <;> rfl
theorem bt_nil (j : Nat) : bt [] j = 0 := by simp [bt]
theorem bt_zero (a : UInt8) (r : List UInt8) : bt (a :: r) 0 = (a.toNat : Int) := by simp [bt]
theorem bt_succ (a : UInt8) (r : List UInt8) (j : Nat) : bt (a :: r) (j + 1) = bt r j := by simp [bt]
theorem agL_no {p q : List UInt8} {j : Nat} (h : agI (bt p j) (bt q j) = false) (h1 : j < p.length) (h2 : j < q.length) : agL p q = false := by
  induction p generalizing q j with
  | nil => simp at h1
  | cons a r ih =>
    cases q with
    | nil => simp at h2
    | cons b s =>
      cases j with
      | zero => rw [bt_zero, bt_zero, ← agB_int] at h; simp [agL, h]
      | succ j =>
        rw [bt_succ, bt_succ] at h
        simp [agL, ih h (by simpa using h1) (by simpa using h2)]
theorem agL_yes {p q : List UInt8} (h : ∀ j, j < p.length → agI (bt p j) (bt q j) = true) (hl : p.length = q.length) : agL p q = true := by
  induction p generalizing q with
  | nil => rfl
  | cons a r ih =>
    cases q with
    | nil => simp at hl
    | cons b s =>
      have h0 := h 0 (by simp)
      rw [bt_zero, bt_zero, ← agB_int] at h0
      have h1 := ih (q := s) (fun j hj => by have := h (j + 1) (by simpa using hj); rwa [bt_succ, bt_succ] at this) (by simpa using hl)
      simp [agL, h0, h1]
theorem zip_at {F : UInt8 → UInt8 → UInt8} {p q : List UInt8} {j : Nat} (h1 : j < p.length) (h2 : j < q.length) : bt (List.zipWith F p q) j = ((F p[j] q[j]).toNat : Int) := by
  unfold bt; rw [List.getElem?_eq_getElem (by simp; omega)]; simp
theorem bt_lt {p : List UInt8} {j : Nat} (h : j < p.length) : bt p j = (p[j].toNat : Int) := by
  unfold bt; rw [List.getElem?_eq_getElem h]; rfl
theorem meet_at {p q : List UInt8} {j : Nat} (h1 : j < p.length) (h2 : j < q.length) : bt (List.zipWith meetB p q) j = meetI (bt p j) (bt q j) := by
  rw [zip_at h1 h2, meetB_int, bt_lt h1, bt_lt h2]
theorem join_at {p q : List UInt8} {j : Nat} (h1 : j < p.length) (h2 : j < q.length) : bt (List.zipWith joinB p q) j = joinI (bt p j) (bt q j) := by
  rw [zip_at h1 h2, joinB_int, bt_lt h1, bt_lt h2]
theorem pair_p {p q : List UInt8} {x : Int} (h : pErr p = x) (h0 : x ≠ 0) : pairErr p q = x := by subst h; unfold pairErr; rw [if_pos h0]
theorem pair_q {p q : List UInt8} {x : Int} (h : pErr p = 0) (h1 : pErr q = x) (h0 : x ≠ 0) : pairErr p q = x := by subst h1; unfold pairErr; rw [if_neg (by simp [h]), if_pos h0]
theorem pair_len {p q : List UInt8} (h : pErr p = 0) (h1 : pErr q = 0) (hl : p.length ≠ q.length) : pairErr p q = 6 := by unfold pairErr; rw [if_neg (by simp [h]), if_neg (by simp [h1]), if_pos hl]
theorem pair_ok {p q : List UInt8} (h : pErr p = 0) (h1 : pErr q = 0) (hl : p.length = q.length) : pairErr p q = 0 := by unfold pairErr; rw [if_neg (by simp [h]), if_neg (by simp [h1]), if_neg (by simp [hl])]
theorem pair_zero {p q : List UInt8} (h : pairErr p q = 0) : pErr p = 0 ∧ pErr q = 0 ∧ p.length = q.length := by
  unfold pairErr at h
  by_cases h1 : pErr p = 0
  · rw [if_neg (by simp [h1])] at h
    by_cases h2 : pErr q = 0
    · rw [if_neg (by simp [h2])] at h
      by_cases h3 : p.length = q.length
      · exact ⟨h1, h2, h3⟩
      · rw [if_pos h3] at h; cases h
    · rw [if_pos h2] at h; exact absurd h h2
  · rw [if_pos h1] at h; exact absurd h h1
theorem meet_err {p q : List UInt8} {x : Int} (h : pairErr p q = x) (h0 : x ≠ 0) : meetVal p q = ([], x) := by subst h; unfold meetVal; rw [if_pos h0]
theorem meet_no {p q : List UInt8} (h : pairErr p q = 0) (h1 : agL p q = false) : meetVal p q = ([], 12) := by unfold meetVal; rw [if_neg (by simp [h]), if_neg (by simp [h1])]
theorem meet_ok {p q : List UInt8} (h : pairErr p q = 0) (h1 : agL p q = true) : meetVal p q = (List.zipWith meetB p q, 0) := by unfold meetVal; rw [if_neg (by simp [h]), if_pos h1]
theorem join_err {p q : List UInt8} {x : Int} (h : pairErr p q = x) (h0 : x ≠ 0) : joinVal p q = ([], x) := by subst h; unfold joinVal; rw [if_pos h0]
theorem join_ok {p q : List UInt8} (h : pairErr p q = 0) : joinVal p q = (List.zipWith joinB p q, 0) := by unfold joinVal; rw [if_neg (by simp [h])]

/-! ### Rows of bytes -/
def ByRow (l : Nat → Int) (n B : Nat) (w wr : World) : Prop :=
  Below B w wr ∧ B < wr.heap.size ∧ (∀ j, j < n → wr.cell? ⟨B, j, none⟩ = some (.int .u8 (l j))) ∧ ∀ j, j < n → wr.frozen? ⟨B, j, none⟩ = false
theorem byrow_start (s : ByteArray) (w : World) (cap : Nat) : ByRow (bt s.data.toList) s.size w.heap.size w (w.drew.alloc (.cells (bytesRow s cap) 5 ((bytesRow s cap).size, (bytesRow s cap).size + 1))) := by
  refine ⟨(Below.drew (Below.refl _ _)).alloc (Nat.le_refl _) _, by simp, fun j hj => ?_, fun j hj => ?_⟩
  · rw [show (⟨w.heap.size, j, none⟩ : Addr) = ⟨w.drew.heap.size, j, none⟩ from rfl, World.cell?_alloc_mark, bytesRow_at _ _ _ (by simpa using hj)]
    unfold bt
    rw [List.getElem?_eq_getElem (by rw [sizeB]; exact hj)]
    simp
  · rw [show (⟨w.heap.size, j, none⟩ : Addr) = ⟨w.drew.heap.size, j, none⟩ from rfl, World.frozen?_alloc_mark]
    have : s.size ≤ (bytesRow s cap).size := by simp [bytesRow]
    simp; omega
theorem ByRow.same {l l' : Nat → Int} {n B : Nat} {w wr : World} (h : ByRow l n B w wr) (he : ∀ j, j < n → l' j = l j) : ByRow l' n B w wr :=
  ⟨h.1, h.2.1, fun j hj => by rw [h.2.2.1 j hj, he j hj], h.2.2.2⟩
theorem ByRow.set {l l' : Nat → Int} {n B k : Nat} {w wr : World} {x : Int} (h : ByRow l n B w wr) (hk : k < n) (he : ∀ j, j < n → j ≠ k → l' j = l j) (hx : l' k = x) : ByRow l' n B w (wr.setCell ⟨B, k, none⟩ (.int .u8 x)) := by
  refine ⟨h.1.setCell (Nat.le_refl _) _, by simpa using h.2.1, fun j hj => ?_, fun j hj => (World.frozen?_setCell _ _ _ _).trans (h.2.2.2 j hj)⟩
  by_cases e : j = k
  · subst e; rw [World.cell?_setCell_same _ _ _ (h.2.2.1 j hj), hx]
  · rw [World.cell?_setCell_other _ _ _ _ (by first | (simp; done) | (simp; omega)), h.2.2.1 j hj, he j hj e]
theorem ByRow.back {L : List UInt8} {n B : Nat} {w wr : World} (h : ByRow (bt L) n B w wr) (hn : n = L.length) (cap : Nat) :
    (convert 50 9 (.slice (some ⟨B, 0, none⟩) n cap)).run Tryd.prog wr = .ok (.string ⟨L.toArray⟩) wr := by
  subst hn
  refine run_convert_bytes_back (P := Tryd.prog) wr 50 9 5 ⟨B, 0, none⟩ cap L Tryd.underlying50 Tryd.underlying5 Tryd.underlying9 (fun j hj => ?_)
  have e : ((⟨B, 0, none⟩ : Addr).add j) = ⟨B, j, none⟩ := by simp [Addr.add]; omega
  rw [e, h.2.2.1 j hj, bt_lt hj]
def mix (F : Int → Int → Int) (p q : List UInt8) (k j : Nat) : Int := if j < k then F (bt p j) (bt q j) else bt p j
theorem mix_zero (F : Int → Int → Int) (p q : List UInt8) (j : Nat) : mix F p q 0 j = bt p j := by unfold mix; rw [if_neg (by omega)]
theorem mix_same (F : Int → Int → Int) (p q : List UInt8) {k j : Nat} (h : j ≠ k) : mix F p q (k + 1) j = mix F p q k j := by
  unfold mix
  by_cases e : j < k
  · rw [if_pos e, if_pos (by omega)]
  · rw [if_neg e, if_neg (by omega)]
theorem mix_at (F : Int → Int → Int) (p q : List UInt8) (k : Nat) : mix F p q k k = bt p k := by unfold mix; rw [if_neg (by omega)]
theorem mix_new (F : Int → Int → Int) (p q : List UInt8) (k : Nat) : mix F p q (k + 1) k = F (bt p k) (bt q k) := by unfold mix; rw [if_pos (by omega)]
theorem mix_end (F : Int → Int → Int) (p q : List UInt8) {k j : Nat} (h : j < k) : mix F p q k j = F (bt p j) (bt q j) := by unfold mix; rw [if_pos h]

/-! ### The small functions on two patterns -/
set_option maxHeartbeats 400000 in
theorem agree_any (n m : Int) (w : World) (h0 : 0 ≤ n) (h1 : n ≤ 255) (h2 : 0 ≤ m) (h3 : m ≤ 255) :
    Calls Tryd.prog 45 #[.int .u8 n, .int .u8 m] w fun e w' => e = .returned (.bool (agI n m)) ∧ w = w' := by
  by_cases a : n = m
  · subst a; have : agI n n = true := by simp [agI]
    rw [this]
    go_enter Tryd.func45, Tryd.ntmps45; go_wp2; go_ret; exact ⟨ret_bool (by simp), rfl⟩
  · by_cases b : n = 120
    · subst b; have : agI 120 m = true := by simp [agI]
      rw [this]
      go_enter Tryd.func45, Tryd.ntmps45; go_wp2; go_ret; exact ⟨ret_bool (by simp), rfl⟩
    · by_cases c : m = 120
      · subst c; have : agI n 120 = true := by simp [agI]
        rw [this]
        go_enter Tryd.func45, Tryd.ntmps45; go_wp2; go_ret; exact ⟨ret_bool (by simp), rfl⟩
      · have : agI n m = false := by simp [agI, a, b, c]
        rw [this]
        go_enter Tryd.func45, Tryd.ntmps45; go_wp2; go_ret; exact ⟨ret_bool (by simp [a, b, c]), rfl⟩

set_option maxHeartbeats 800000 in
theorem pairerr_any (p q : ByteArray) (w : World) (hp : p.size ≤ maxLen) (hq : q.size ≤ maxLen) :
    Calls Tryd.prog 44 #[.string p, .string q] w fun e w' => e = .returned (.int .i64 (pairErr p.data.toList q.data.toList)) ∧ w = w' := by
  rcases pErr_val p.data.toList with h0 | h0 | h0
  · rcases pErr_val q.data.toList with h1 | h1 | h1
    · have H0 := Lib.hid h0
      have H1 := Lib.hid h1
      by_cases hl : p.size = q.size
      · have HE := Lib.hid (pair_ok h0 h1 hl)
        clear h0 h1
        go_enter Tryd.func44, Tryd.ntmps44
        go_wp2_with (go_at_call 16; refine (pvalid_any _ _ (by assumption)).mono ?_; rintro e w' ⟨rfl, rfl⟩; first | rw [H0.out] | rw [H1.out])
        go_ret
        exact ⟨ret_int HE.out, rfl⟩
      · have HE := Lib.hid (pair_len h0 h1 hl)
        have hl1 : ((p.size : Int) == (q.size : Int)) = false := by simp; omega
        have hl2 : ((p.size : Int) != (q.size : Int)) = true := by simp; omega
        clear h0 h1 hl
        go_enter Tryd.func44, Tryd.ntmps44
        go_wp2_with (go_at_call 16; refine (pvalid_any _ _ (by assumption)).mono ?_; rintro e w' ⟨rfl, rfl⟩; first | rw [H0.out] | rw [H1.out])
        go_ret
        exact ⟨ret_int HE.out, rfl⟩
    all_goals
      have H0 := Lib.hid h0
      have H1 := Lib.hid h1
      have HE := Lib.hid (pair_q h0 h1 (by omega))
      clear h0 h1
      go_enter Tryd.func44, Tryd.ntmps44
      go_wp2_with (go_at_call 16; refine (pvalid_any _ _ (by assumption)).mono ?_; rintro e w' ⟨rfl, rfl⟩; first | rw [H0.out] | rw [H1.out])
      go_ret
      exact ⟨ret_int HE.out, rfl⟩
  all_goals
    have H0 := Lib.hid h0
    have HE := Lib.hid (pair_p (q := q.data.toList) h0 (by omega))
    clear h0
    go_enter Tryd.func44, Tryd.ntmps44
    go_wp2_with (go_at_call 16; refine (pvalid_any _ _ (by assumption)).mono ?_; rintro e w' ⟨rfl, rfl⟩; rw [H0.out])
    go_ret
    exact ⟨ret_int HE.out, rfl⟩

set_option maxHeartbeats 800000 in
theorem two_any (p q : ByteArray) (w : World) (hp : p.size ≤ maxLen) (hq : q.size ≤ maxLen) :
    Calls Tryd.prog 46 #[.string p, .string q] w fun e w' => e = .returned (.int .i64 (pairErr p.data.toList q.data.toList)) ∧ w = w' := by
  rcases pErr_val p.data.toList with h0 | h0 | h0
  · rcases pErr_val q.data.toList with h1 | h1 | h1
    · have H0 := Lib.hid h0
      have H1 := Lib.hid h1
      by_cases hl : p.size = q.size
      · have HE := Lib.hid (pair_ok h0 h1 hl)
        clear h0 h1
        go_enter Tryd.func46, Tryd.ntmps46
        go_wp2_with (go_at_call 17; refine (rvalid_any _ _ (by assumption)).mono ?_; rintro e w' ⟨rfl, rfl⟩; first | rw [H0.out] | rw [H1.out])
        go_ret
        exact ⟨ret_int HE.out, rfl⟩
      · have HE := Lib.hid (pair_len h0 h1 hl)
        have hl1 : ((p.size : Int) == (q.size : Int)) = false := by simp; omega
        have hl2 : ((p.size : Int) != (q.size : Int)) = true := by simp; omega
        clear h0 h1 hl
        go_enter Tryd.func46, Tryd.ntmps46
        go_wp2_with (go_at_call 17; refine (rvalid_any _ _ (by assumption)).mono ?_; rintro e w' ⟨rfl, rfl⟩; first | rw [H0.out] | rw [H1.out])
        go_ret
        exact ⟨ret_int HE.out, rfl⟩
    all_goals
      have H0 := Lib.hid h0
      have H1 := Lib.hid h1
      have HE := Lib.hid (pair_q h0 h1 (by omega))
      clear h0 h1
      go_enter Tryd.func46, Tryd.ntmps46
      go_wp2_with (go_at_call 17; refine (rvalid_any _ _ (by assumption)).mono ?_; rintro e w' ⟨rfl, rfl⟩; first | rw [H0.out] | rw [H1.out])
      go_ret
      exact ⟨ret_int HE.out, rfl⟩
  all_goals
    have H0 := Lib.hid h0
    have HE := Lib.hid (pair_p (q := q.data.toList) h0 (by omega))
    clear h0
    go_enter Tryd.func46, Tryd.ntmps46
    go_wp2_with (go_at_call 17; refine (rvalid_any _ _ (by assumption)).mono ?_; rintro e w' ⟨rfl, rfl⟩; rw [H0.out])
    go_ret
    exact ⟨ret_int HE.out, rfl⟩
end Go.Proofs.YtlkigmlgbnlkaaaDoor
