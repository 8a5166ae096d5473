/- Contracts of the program's small functions of automata: states, letters, pairs. -/
import Derived.Test.YtdkdfmflghbhiaaQa
import Derived.Test.YtdkdfmflghbhiaaAMh
import Derived.WalkSpells
import Derived.WalkLawsBesides
import Derived.IntWalk
import Derived.Outline
import Derived.BigQuiet
namespace Go.Proofs.Ytdkdfmflghbhiaa
open Go.RowKit
set_option linter.unusedVariables false
set_option maxRecDepth 100000

/-- A state. -/
def stB (n : Nat) (s : Int) : Bool := decide (0 ≤ s ∧ s < (n : Int))
set_option maxHeartbeats 400000 in
theorem isState_any (lt st : Int) (A : Option Addr) (n c : Nat) (B : Option Addr) (m d : Nat) (s : Int) (w : World) (hn : n ≤ 17592186044416) :
    Calls Try.prog 53 #[.agg #[.int .i64 lt, .int .i64 st, .slice A n c, .slice B m d], .int .i64 s] w fun e w' => e = .returned (.bool (stB n s)) ∧ Below w.heap.size w w' := by
  by_cases h0 : 0 ≤ s
  · by_cases h1 : s < (n : Int)
    · have H := Lib.hid (show stB n s = true by simp [stB, h0, h1])
      go_enter Try.func53, Try.ntmps53
      go_wp2
      go_ret
      exact ⟨ret_bool H.out.symm, bnew _ _⟩
    · have H := Lib.hid (show stB n s = false by simp [stB]; omega)
      go_enter Try.func53, Try.ntmps53
      go_wp2
      go_ret
      exact ⟨ret_bool H.out.symm, bnew _ _⟩
  · have H := Lib.hid (show stB n s = false by simp [stB]; omega)
    go_enter Try.func53, Try.ntmps53
    go_wp2
    go_ret
    exact ⟨ret_bool H.out.symm, bnew _ _⟩

theorem acc_in {M : Au} {q : Int} (h0 : ¬ q = -1) (h1 : -1 ≤ q) : ∃ n : Nat, q = n ∧ M.acc q = M.ac.getD n false := by
  obtain ⟨n, rfl⟩ := Int.eq_ofNat_of_zero_le (show 0 ≤ q by omega)
  refine ⟨n, rfl, ?_⟩
  unfold Au.acc
  simp
set_option maxHeartbeats 400000 in
theorem isAcc_any (x : DV) (M : Au) (q : Int) (w : World) (h : DfaIn w x M) (h1 : -1 ≤ q) (h2 : q < M.ac.length) (h3 : M.ac.length ≤ 1000000) :
    Calls Try.prog 22 #[.agg #[.int .i64 M.lt, .int .i64 M.st, .slice x.A x.n x.c, .slice x.B x.m x.d], .int .i64 q] w fun e w' => e = .returned (.bool (M.acc q)) ∧ Below w.heap.size w w' := by
  by_cases h0 : q = -1
  · subst h0
    have H := Lib.hid (show M.acc (-1) = false from M.acc_neg (by decide))
    go_enter Try.func22, Try.ntmps22
    go_wp2
    go_ret
    exact ⟨ret_bool H.out.symm, bnew _ _⟩
  · obtain ⟨n, rfl, hacc⟩ := acc_in (M := M) h0 h1
    obtain ⟨b, off, hB, hlt, hc⟩ := h.acc (q := n) (by omega)
    have H := Lib.hid hacc
    have hm := h.m
    have hnm : n < x.m := by omega
    have hne : ((n : Int) == -1) = false := beq_no h0
    have hne2 : ((n : Int) != -1) = true := bne_yes h0
    obtain ⟨A, xn, c, B, m, d⟩ := x
    dsimp only at *
    subst hB
    have hm2 : m ≤ 1000000 := by omega
    have hB0 := Lib.hid (bnew w (.cells #[.int .i64 M.lt, .int .i64 M.st, .slice A xn c, .slice (some ⟨b, off, none⟩) m d] 25))
    have hc2 := (hB0.out.cell (p := ⟨b, off + n, none⟩) hlt).trans hc
    clear h hm h0 hacc h2 h3
    go_enter Try.func22, Try.ntmps22
    go_wp2
    go_ret
    exact ⟨ret_bool H.out.symm, bnew _ _⟩
/-- An automaton that lies there, with right rows. -/
structure Good (w : World) (x : DV) (M : Au) (k : Nat) : Prop where
  dfa : DfaIn w x M
  right : M.Right k
  few : M.n ≤ 1000
  k8 : k ≤ 8
theorem Good.below {w w' : World} {x : DV} {M : Au} {k : Nat} (h : Good w x M k) (hb : Below w.heap.size w w') : Good w' x M k := ⟨h.dfa.below hb, h.right, h.few, h.k8⟩
theorem Good.isAcc {w : World} {x : DV} {M : Au} {k : Nat} (h : Good w x M k) (q : Int) (h1 : -1 ≤ q) (h2 : q < M.n) :
    Calls Try.prog 22 #[.agg #[.int .i64 M.lt, .int .i64 M.st, .slice x.A x.n x.c, .slice x.B x.m x.d], .int .i64 q] w fun e w' => e = .returned (.bool (M.acc q)) ∧ Below w.heap.size w w' :=
  isAcc_any x M q w h.dfa h1 (by rw [h.right.acl]; exact h2) (by rw [h.right.acl]; have := h.few; show M.n ≤ 1000000; omega)
theorem go_in' {M : Au} {q : Int} (h0 : ¬ q = -1) (h1 : -1 ≤ q) (c : Nat) : ∃ n : Nat, q = n ∧ M.go q c = (M.nx.getD n []).getD c (-1) := by
  obtain ⟨n, rfl⟩ := Int.eq_ofNat_of_zero_le (show 0 ≤ q by omega)
  refine ⟨n, rfl, ?_⟩
  unfold Au.go
  rw [if_neg (by omega)]; rfl
theorem getD_def {β : Type} {l : List β} {j : Nat} (h : j < l.length) (a b : β) : l.getD j a = l.getD j b := by rw [getD_at h, getD_at h]
set_option maxHeartbeats 800000 in
theorem Good.follow {w : World} {x : DV} {M : Au} {k : Nat} (h : Good w x M k) (q : Int) (c : Nat) (h1 : -1 ≤ q) (h2 : q < M.n) (hc : c < k) :
    Calls Try.prog 55 #[.agg #[.int .i64 M.lt, .int .i64 M.st, .slice x.A x.n x.c, .slice x.B x.m x.d], .int .i64 q, .int .i64 c] w fun e w' => e = .returned (.int .i64 (M.go q c)) ∧ Below w.heap.size w w' := by
  by_cases h0 : q = -1
  · subst h0
    have H := Lib.hid (show M.go (-1) c = -1 from M.go_neg (by decide) c)
    go_enter Try.func55, Try.ntmps55
    go_wp2
    go_ret
    exact ⟨ret_int H.out.symm, bnew _ _⟩
  · obtain ⟨n, rfl, hgo⟩ := go_in' (M := M) h0 h1 c
    have hnn : n < M.nx.length := by have : (n : Int) < (M.nx.length : Nat) := h2; omega
    obtain ⟨b, off, Aj, cj, hA, hlt, hcell, hl1, hl2, hrow⟩ := h.dfa.row hnn
    have hlen := (h.right.rows n (M.nx.getD n []) (by rw [List.getD_eq_getElem?_getD, List.getElem?_eq_getElem hnn]; rfl)).1
    rw [hlen] at hcell hl1 hl2
    obtain ⟨b2, off2, hA2, hlt2, hcell2⟩ := hrow.int (j := c) (by rw [hlen]; exact hc)
    obtain ⟨t, ht⟩ : ∃ t, t = (M.nx.getD n []).getD c 0 := ⟨_, rfl⟩
    rw [← ht] at hcell2
    have H := Lib.hid (show M.go n c = t by rw [hgo, ht]; exact getD_def (by rw [hlen]; exact hc) _ _)
    have hxn : n < x.n := by have := h.dfa.n; omega
    have hxb : x.n ≤ 17592186044416 := h.dfa.cb
    have hk := h.k8
    have hne : ((n : Int) == -1) = false := beq_no h0
    obtain ⟨A, xn, xc, B, m, d⟩ := x
    dsimp only at *
    subst hA
    subst hA2
    have hB0 := Lib.hid (bnew w (.cells #[.int .i64 M.lt, .int .i64 M.st, .slice (some ⟨b, off, none⟩) xn xc, .slice B m d] 25))
    have hc2 := (hB0.out.cell (p := ⟨b, off + n, none⟩) hlt).trans hcell
    have hc3 := (hB0.out.cell (p := ⟨b2, off2 + c, none⟩) hlt2).trans hcell2
    clear h h0 hgo h2 hnn hrow hlen ht hcell hcell2
    go_enter Try.func55, Try.ntmps55
    go_wp2
    go_ret
    exact ⟨ret_int H.out.symm, bnew _ _⟩
theorem nowhere_any (w : World) : Calls Try.prog 44 #[] w fun e w' => e = .returned (.agg #[.int .i64 (-1), .int .i64 (-1)]) ∧ Below w.heap.size w w' := by
  go_enter Try.func44, Try.ntmps44
  go_wp2
  exact bodyPost_ret (v := .agg #[.int .i64 (-1), .int .i64 (-1)]) (by simp [results, Try.results44, go_sem]) rfl ⟨rfl, bnew _ _⟩
end Go.Proofs.Ytdkdfmflghbhiaa
