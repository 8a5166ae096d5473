/- Contracts of the program: from where letters lead to a target. -/
import Derived.Test.YtdkdfmflghbhiaaQe
import Derived.Test.YtdkdfmflghbhiaaAMi
namespace Go.Proofs.Ytdkdfmflghbhiaa
open Go.RowKit
set_option linter.unusedVariables false
set_option linter.unusedSimpArgs false
set_option maxRecDepth 100000

theorem num_bounds {t k : Nat} (ht : t ≤ 2000000) (hk : k ≤ 8) : t * k ≤ 16000000 := by
  have := Nat.mul_le_mul ht hk
  omega
set_option maxHeartbeats 1000000 in
theorem number_any (k : Nat) (I J : Option Addr) (n c m d : Nat) (t l : Nat) (w : World) (ht : t ≤ 2000000) (hk : k ≤ 8) (hl : l ≤ 8) :
    Calls Try.prog 73 #[.agg #[.int .i64 (k : Int), .slice I n c, .slice J m d], .int .i64 (t : Int), .int .i64 (l : Int)] w fun e w' => e = .returned (.int .i64 ((t * k + l : Nat) : Int)) ∧ Below w.heap.size w w' := by
  have hb := num_bounds ht hk
  have b0 : ((t : Int)) * (k : Int) = ((t * k : Nat) : Int) := by simp
  have b1 : 0 ≤ (t : Int) * (k : Int) := by omega
  have b2 : (t : Int) * (k : Int) ≤ 16000000 := by omega
  have H := Lib.hid (show (t : Int) * (k : Int) + (l : Int) = ((t * k + l : Nat) : Int) by simp)
  clear b0
  go_enter Try.func73, Try.ntmps73
  go_wp2
  go_ret
  exact ⟨ret_int H.out, bnew _ _⟩
theorem number_is (q t l : Nat) (T L : Int) (k : Nat) (I J : Option Addr) (n c m d : Nat) (w : World) (hq : q = t * k + l) (hT : T = (t : Int)) (hL : L = (l : Int)) (ht : t ≤ 2000000) (hk : k ≤ 8) (hl : l ≤ 8) :
    Calls Try.prog 73 #[.agg #[.int .i64 (k : Int), .slice I n c, .slice J m d], .int .i64 T, .int .i64 L] w fun e w' => e = .returned (.int .i64 (q : Int)) ∧ Below w.heap.size w w' := by
  rw [hq, hT, hL]; exact number_any k I J n c m d t l w ht hk hl
/-- The sorted places lie there. -/
structure SrcIn (w : World) (nx : List Int) (k N : Nat) (I : Option Addr) (n c : Nat) (J : Option Addr) (m d : Nat) (first from' : List Int) : Prop where
  src : Src nx k first from'
  ok : NxOk N k nx
  k0 : 0 < k
  k8 : k ≤ 8
  few : N ≤ 1010000
  ln : first.length = n
  lm : from'.length = m
  nc : n ≤ c
  md : m ≤ d
  fi : CellsIn w I (ints first)
  fr : CellsIn w J (ints from')
theorem SrcIn.below {w w' : World} {nx : List Int} {k N : Nat} {I : Option Addr} {n c : Nat} {J : Option Addr} {m d : Nat} {first from' : List Int} (h : SrcIn w nx k N I n c J m d first from') (hb : Below w.heap.size w w') : SrcIn w' nx k N I n c J m d first from' :=
  ⟨h.src, h.ok, h.k0, h.k8, h.few, h.ln, h.lm, h.nc, h.md, h.fi.below hb, h.fr.below hb⟩
/-- A slice of numbers comes back. -/
def NumsPost (L : List Nat) (W0 W : World) (e : Ending) (w' : World) : Prop := ∃ A C, e = .returned (.slice A L.length C) ∧ CellsIn W0 A (ints (L.map Int.ofNat)) ∧ Below W.heap.size W w'
/-- A part of a list in memory. -/
def CellsAt (w : World) (A : Option Addr) (off : Nat) (xs : List Value) : Prop :=
  0 < xs.length → ∃ b o, A = some ⟨b, o + off, none⟩ ∧ b < w.heap.size ∧ ∀ (j : Nat) u, xs[j]? = some u → w.cell? ⟨b, o + off + j, none⟩ = some u
set_option maxHeartbeats 4000000 in
theorem by_any (nx : List Int) (k N : Nat) (I : Option Addr) (n c : Nat) (J : Option Addr) (m d : Nat) (first from' : List Int) (tg l : Nat) (W0 w : World) (hS0 : SrcIn W0 nx k N I n c J m d first from') (hb0 : Below W0.heap.size W0 w) (ht : tg < N) (hl : l < k) :
    Calls Try.prog 76 #[.agg #[.int .i64 (k : Int), .slice I n c, .slice J m d], .int .i64 (tg : Int), .int .i64 (l : Int)] w (NumsPost (byL nx k tg l) W0 w) := by
  have h := hS0.below hb0
  have hkey : tg * k + l < nx.length := by rw [h.ok.1]; exact pos_up hl ht
  have hsz : nx.length ≤ 8080000 := by
    have := Nat.mul_le_mul h.few h.k8
    rw [h.ok.1]; omega
  obtain ⟨q, hq⟩ : ∃ q, q = tg * k + l := ⟨_, rfl⟩
  have hlf := h.src.lf
  have hln := h.ln
  have f0 := h.src.fi q (by omega)
  have f1 := h.src.fi (q + 1) (by omega)
  obtain ⟨bi, oi, rfl, hbi, hci⟩ := h.fi (by rw [ints_len]; omega)
  have c0 := hci q _ (ints_at (by omega))
  have c1 := hci (q + 1) _ (ints_at (by omega))
  rw [f0] at c0
  rw [f1] at c1
  obtain ⟨ta, hta⟩ : ∃ x, x = tot nx k q := ⟨_, rfl⟩
  obtain ⟨tb, htb⟩ : ∃ x, x = tot nx k (q + 1) := ⟨_, rfl⟩
  have hab : ta ≤ tb := by rw [hta, htb]; exact tot_mono (by omega)
  have htm : tb ≤ m := by rw [htb, ← h.lm, h.src.lr]; exact tot_mono (by omega)
  have hms : m ≤ 8080000 := by rw [← h.lm, h.src.lr]; exact Nat.le_trans (tot_le _) hsz
  rw [← hta] at c0
  rw [← htb] at c1
  have hmd := h.md
  have HF := Lib.hid (show 0 < m → ∃ b o, J = some ⟨b, o, none⟩ ∧ b < W0.heap.size from fun h0 => by
    obtain ⟨b, o, e, hb, _⟩ := hS0.fr (by rw [ints_len, h.lm]; exact h0)
    exact ⟨b, o, e, hb⟩)
  have HL := Lib.hid (show (byL nx k tg l).length = tb - ta by rw [byL_len, ← hq, hta, htb])
  have HJ := Lib.hid (show ∀ (A : Option Addr), (ta < tb → ∃ b o, J = some ⟨b, o, none⟩ ∧ A = some ⟨b, o + ta, none⟩) → CellsIn W0 A (ints ((byL nx k tg l).map Int.ofNat)) by
    intro A hA h0
    have h1 : 0 < tb - ta := by rw [← HL.out]; simpa [ints] using h0
    obtain ⟨b, o, rfl, rfl⟩ := hA (by omega)
    obtain ⟨b', o', e, hb, hc⟩ := hS0.fr (by rw [ints_len, h.lm]; omega)
    injection e with e; injection e with e1 e2; subst e1; subst e2
    refine ⟨b, o + ta, rfl, hb, fun j u hu => ?_⟩
    have hj : j < (byL nx k tg l).length := by have := (List.getElem?_eq_some_iff.1 hu).1; simpa [ints] using this
    have e3 := h.src.by' (by rw [← hq]; omega) hj
    rw [← hq, ← hta] at e3
    have hj2 := hj
    rw [HL.out] at hj2
    have hcj := hc (ta + j) _ (ints_at (by rw [h.lm]; omega))
    rw [e3, ← Nat.add_assoc] at hcj
    rw [hcj, ← hu]
    simp [ints, hj])
  have hn : n ≤ 8080001 := by omega
  have hqn : q + 1 < n := by omega
  have ht2 : tg ≤ 2000000 := by have := h.few; omega
  have hk8 := h.k8
  have hw : IntKind.i64.wrap ((q : Int) + 1) = (q : Int) + 1 := IntWalk.i64_in _ (by omega)
  have hw2 : ((q : Int) + 1).toNat = q + 1 := by omega
  have HQ := Lib.hid hq
  clear hq f0 f1 hci hta htb hln hlf h hkey
  obtain ⟨wz, hwz⟩ : ∃ z, z = w.alloc (.cells #[.int .i64 (k : Int), .slice (some ⟨bi, oi, none⟩) n c, .slice J m d] 90) := ⟨_, rfl⟩
  have V := Lib.hid (show Hp w [box 90 w.heap.size [.int .i64 (k : Int), .slice (some ⟨bi, oi, none⟩) n c, .slice J m d]] wz by
    have := (Hp.start w).box_new 90 [.int .i64 (k : Int), .slice (some ⟨bi, oi, none⟩) n c, .slice J m d]
    rw [hwz]; simpa using this)
  have HZ := Lib.hid hwz
  obtain ⟨v0, _, v9⟩ := V.out.box_at (i := 0) (j := 0) rfl rfl
  obtain ⟨v1, _, _⟩ := V.out.box_at (i := 0) (j := 1) rfl rfl
  obtain ⟨v2, _, _⟩ := V.out.box_at (i := 0) (j := 2) rfl rfl
  clear hwz
  go_enter Try.func76, Try.ntmps76
  go_upto_region 1 with fail
  rw [← HZ.out]
  go_wp2_with fail
  refine (number_any k _ J n c m d tg l _ ht2 hk8 (by omega)).mono ?_
  rintro e w1 ⟨rfl, b1⟩
  rw [← HQ.out]
  have V1 := Lib.hid (V.out.go b1)
  have B1 := Lib.hid (btwo V.out.below b1)
  have c0 := (B1.out.cell (p := ⟨bi, oi + q, none⟩) hbi).trans c0
  have c1 := (B1.out.cell (p := ⟨bi, oi + (q + 1), none⟩) hbi).trans c1
  have hb2 := Nat.lt_of_lt_of_le hbi B1.out.size
  clear v0 v1 v2 v9 b1 V HZ
  obtain ⟨A, hA⟩ : ∃ A, A = (if d = ta then J else Option.map (fun x => x.add ta) J) := ⟨_, rfl⟩
  have htd : tb ≤ d := by omega
  have HC := Lib.hid (HJ.out A (fun hlt => by
    obtain ⟨b, o, hb, _⟩ := HF.out (by omega)
    refine ⟨b, o, hb, ?_⟩
    rw [hA, if_neg (by omega), hb]
    simp [Addr.add]))
  have HA := Lib.hid hA
  have hq1 : q < n := by omega
  have hq2 : (0 : Int) ≤ (q : Int) + 1 := by omega
  have hq3 : (q : Int) + 1 < (n : Int) := by omega
  clear hA
  go_upto_region 2 with fail
  have hKp : Keep [(⟨w.heap.size, 1, none⟩, .slice (some ⟨bi, oi, none⟩) n c), (⟨w.heap.size, 2, none⟩, .slice J m d), (⟨bi, oi + q, none⟩, .int .i64 (ta : Int)), (⟨bi, oi + (q + 1), none⟩, .int .i64 (tb : Int))] w1 := List.forall_mem_cons.2 ⟨⟨(V1.out.box_at (i := 0) (j := 1) rfl rfl).1, (V1.out.box_at (i := 0) (j := 1) rfl rfl).2.2⟩, List.forall_mem_cons.2 ⟨⟨(V1.out.box_at (i := 0) (j := 2) rfl rfl).1, (V1.out.box_at (i := 0) (j := 2) rfl rfl).2.2⟩, List.forall_mem_cons.2 ⟨⟨c0, hb2⟩, List.forall_mem_cons.2 ⟨⟨c1, hb2⟩, fun _ h => by simp at h⟩⟩⟩⟩
  refine wp_region_held_drew (S := Keep _) (by kernel_rfl) hKp.drew (fun hHeld => ?_)
  have V1d := Lib.hid (V1.out.go (bdrew _))
  refine tk 0 ?_ rfl ?_ ?_; rotate_left; focus (intro w hSw; clear hSw; go_simp; try (with_reducible rfl))
  try simp only [Act.put, sA, sZ, sS]
  refine tk 1 ?_ rfl ?_ ?_; rotate_left
  · intro wl hSw
    have hSw : Keep _ wl := hSw
    have k0 : wl.cell? ⟨w.heap.size, 2, none⟩ = some (.slice J m d) := (hSw _ (.tail _ (.head _))).1
    clear hSw
    go_simp
    try (with_reducible rfl)
  try simp only [Act.put, sA, sZ, sS]
  refine tk 2 ?_ rfl ?_ ?_; rotate_left; focus (intro w hSw; clear hSw; go_simp; try (with_reducible rfl))
  try simp only [Act.put, sA, sZ, sS]
  refine tk 3 ?_ rfl ?_ ?_; rotate_left
  · intro wl hSw
    have hSw : Keep _ wl := hSw
    have k0 : wl.cell? ⟨w.heap.size, 1, none⟩ = some (.slice (some ⟨bi, oi, none⟩) n c) := (hSw _ (.head _)).1
    clear hSw
    go_simp
    try (with_reducible rfl)
  try simp only [Act.put, sA, sZ, sS]
  refine tk 4 ?_ rfl ?_ ?_; rotate_left; focus (intro w hSw; clear hSw; go_simp; try (with_reducible rfl))
  try simp only [Act.put, sA, sZ, sS]
  refine tk 5 ?_ rfl ?_ ?_; rotate_left; focus (intro w hSw; clear hSw; go_simp; try (with_reducible rfl))
  try simp only [Act.put, sA, sZ, sS]
  refine tk 6 ?_ rfl ?_ ?_; rotate_left
  · intro wl hSw
    have hSw : Keep _ wl := hSw
    have k0 : wl.cell? ⟨bi, oi + q, none⟩ = some (.int .i64 (ta : Int)) := (hSw _ (.tail _ (.tail _ (.head _)))).1
    clear hSw
    go_simp
    try (with_reducible rfl)
  try simp only [Act.put, sA, sZ, sS]
  refine tk 7 ?_ rfl ?_ ?_; rotate_left; focus (intro w hSw; clear hSw; go_simp; try (with_reducible rfl))
  try simp only [Act.put, sA, sZ, sS]
  refine tk 8 ?_ rfl ?_ ?_; rotate_left
  · intro wl hSw
    have hSw : Keep _ wl := hSw
    have k0 : wl.cell? ⟨w.heap.size, 1, none⟩ = some (.slice (some ⟨bi, oi, none⟩) n c) := (hSw _ (.head _)).1
    clear hSw
    go_simp
    try (with_reducible rfl)
  try simp only [Act.put, sA, sZ, sS]
  refine tk 9 ?_ rfl ?_ ?_; rotate_left; focus (intro w hSw; clear hSw; go_simp; try (with_reducible rfl))
  try simp only [Act.put, sA, sZ, sS]
  refine tk 10 ?_ rfl ?_ ?_; rotate_left; focus (intro w hSw; clear hSw; go_simp; try (with_reducible rfl))
  try simp only [Act.put, sA, sZ, sS]
  refine tk 11 ?_ rfl ?_ ?_; rotate_left; focus (intro w hSw; clear hSw; go_simp; try (with_reducible rfl))
  try simp only [Act.put, sA, sZ, sS]
  refine tk 12 ?_ rfl ?_ ?_; rotate_left
  · intro wl hSw
    have hSw : Keep _ wl := hSw
    have k0 : wl.cell? ⟨bi, oi + (q + 1), none⟩ = some (.int .i64 (tb : Int)) := (hSw _ (.tail _ (.tail _ (.tail _ (.head _))))).1
    clear hSw
    go_simp
    try (with_reducible rfl)
  try simp only [Act.put, sA, sZ, sS]
  refine tk 13 ?_ rfl ?_ ?_; rotate_left
  · intro w hSw
    clear hSw
    go_simp
    rw [← HA.out]
    try (with_reducible rfl)
  try simp only [Act.put, sA, sZ, sS]
  refine tk 14 ?_ rfl ?_ ?_; rotate_left; focus (intro w hSw; clear hSw; go_simp; try (with_reducible rfl))
  try simp only [Act.put, sA, sZ, sS]
  refine wpAnyH_done (by kernel_rfl) ?_ _
  go_wp2_with fail
  go_ret
  exact ⟨A, d - ta, by rw [HL.out]; rfl, HC.out, V1d.out.below⟩
/-- From where any letter leads to a target. -/
def AllPost (nx : List Int) (k N t : Nat) (W0 W : World) (e : Ending) (w' : World) : Prop :=
  ∃ A C L, e = .returned (.slice A (L : List Int).length C) ∧ CellsIn W0 A (ints L) ∧ L.length ≤ 8080000 ∧ (∀ x ∈ L, ∃ q c : Nat, x = (q : Int) ∧ q < N ∧ c < k ∧ nxF nx k q c = (t : Int)) ∧ (∀ q c : Nat, q < N → c < k → nxF nx k q c = (t : Int) → (q : Int) ∈ L) ∧ Below W.heap.size W w'
set_option maxHeartbeats 4000000 in
theorem all_any (nx : List Int) (k N : Nat) (I : Option Addr) (n c : Nat) (J : Option Addr) (m d : Nat) (first from' : List Int) (tg : Nat) (W0 w : World) (hS0 : SrcIn W0 nx k N I n c J m d first from') (hb0 : Below W0.heap.size W0 w) (ht : tg < N) :
    Calls Try.prog 75 #[.agg #[.int .i64 (k : Int), .slice I n c, .slice J m d], .int .i64 (tg : Int)] w (AllPost nx k N tg W0 w) := by
  have h := hS0.below hb0
  have hk0 := h.k0
  have hN := h.few
  have hk8 := h.k8
  have hmul : (tg + 1) * k ≤ nx.length := by rw [h.ok.1]; exact Nat.mul_le_mul_right k ht
  have hmul0 : tg * k ≤ (tg + 1) * k := Nat.mul_le_mul_right k (by omega)
  have hsz : nx.length ≤ 8080000 := by
    have := Nat.mul_le_mul h.few h.k8
    rw [h.ok.1]; omega
  obtain ⟨q, hq⟩ : ∃ q, q = tg * k := ⟨_, rfl⟩
  obtain ⟨r, hr⟩ : ∃ q, q = (tg + 1) * k := ⟨_, rfl⟩
  have hlf := h.src.lf
  have hln := h.ln
  have f0 := h.src.fi q (by omega)
  have f1 := h.src.fi r (by omega)
  obtain ⟨bi, oi, rfl, hbi, hci⟩ := h.fi (by rw [ints_len]; omega)
  have c0 := hci q _ (ints_at (by omega))
  have c1 := hci r _ (ints_at (by omega))
  rw [f0] at c0
  rw [f1] at c1
  obtain ⟨ta, hta⟩ : ∃ x, x = tot nx k q := ⟨_, rfl⟩
  obtain ⟨tb, htb⟩ : ∃ x, x = tot nx k r := ⟨_, rfl⟩
  have hab : ta ≤ tb := by rw [hta, htb]; exact tot_mono (by omega)
  have htm : tb ≤ m := by rw [htb, ← h.lm, h.src.lr]; exact tot_mono (by omega)
  have hms : m ≤ 8080000 := by rw [← h.lm, h.src.lr]; exact Nat.le_trans (tot_le _) hsz
  rw [← hta] at c0
  rw [← htb] at c1
  have hmd := h.md
  have hlm := h.lm
  obtain ⟨L, hL⟩ : ∃ L, L = (from'.drop ta).take (tb - ta) := ⟨_, rfl⟩
  have hLl : L.length = tb - ta := by rw [hL, List.length_take, List.length_drop]; omega
  have hLa : ∀ j : Nat, j < tb - ta → L[j]? = from'[ta + j]? := by intro j hj; rw [hL, List.getElem?_take, if_pos hj, List.getElem?_drop]
  have hin : ∀ x ∈ L, ∃ q c : Nat, x = (q : Int) ∧ q < N ∧ c < k ∧ nxF nx k q c = (tg : Int) := by
    intro x hx
    obtain ⟨j, hj⟩ := mem_at hx
    have hjl := (List.getElem?_eq_some_iff.1 hj).1
    rw [hLa j (by omega)] at hj
    obtain ⟨a, b, a1, a2, a3, a4⟩ := h.src.all h.ok h.k0 ht (i := ta + j) (by rw [← hq, ← hta]; omega) (by rw [← hr, ← htb]; omega)
    rw [List.getD_eq_getElem?_getD, hj] at a1
    exact ⟨a, b, a1, a2, a3, a4⟩
  have hhas : ∀ a b : Nat, a < N → b < k → nxF nx k a b = (tg : Int) → (a : Int) ∈ L := by
    intro a b ha hb hab2
    obtain ⟨i, i1, i2, i3⟩ := h.src.all_has h.ok h.k0 ht ha hb hab2
    rw [← hq, ← hta] at i1
    rw [← hr, ← htb] at i2
    have e := hLa (i - ta) (by omega)
    rw [show ta + (i - ta) = i by omega] at e
    have hi : i < from'.length := by omega
    exact List.mem_of_getElem? (e.trans (by rw [List.getElem?_eq_getElem hi, ← getD_at (d := 0) hi, i3]))
  have HL := Lib.hid hLl
  have HIN := Lib.hid (And.intro hin hhas)
  have HF := Lib.hid (show 0 < m → ∃ b o, J = some ⟨b, o, none⟩ ∧ b < W0.heap.size from fun h0 => by
    obtain ⟨b, o, e, hb, _⟩ := hS0.fr (by rw [ints_len, h.lm]; exact h0)
    exact ⟨b, o, e, hb⟩)
  have HJ := Lib.hid (show ∀ (A : Option Addr), (ta < tb → ∃ b o, J = some ⟨b, o, none⟩ ∧ A = some ⟨b, o + ta, none⟩) → CellsIn W0 A (ints L) by
    intro A hA h0
    have h1 : 0 < tb - ta := by rw [← hLl]; simpa [ints] using h0
    obtain ⟨b, o, rfl, rfl⟩ := hA (by omega)
    obtain ⟨b', o', e, hb, hc⟩ := hS0.fr (by rw [ints_len, h.lm]; omega)
    injection e with e; injection e with e1 e2; subst e1; subst e2
    refine ⟨b, o + ta, rfl, hb, fun j u hu => ?_⟩
    have hj : j < tb - ta := by have := (List.getElem?_eq_some_iff.1 hu).1; rw [ints_len, hLl] at this; exact this
    have hu2 : (ints from')[ta + j]? = some u := by
      unfold ints at hu ⊢
      rw [List.getElem?_map] at hu ⊢
      rw [← hLa j hj]; exact hu
    rw [Nat.add_assoc]
    exact hc (ta + j) u hu2)
  have hn : n ≤ 8080001 := by omega
  have hqn : q < n := by omega
  have hrn : r < n := by omega
  have ht2 : tg + 1 ≤ 2000000 := by omega
  have hwr : IntKind.i64.wrap ((tg : Int) + 1) = (tg : Int) + 1 := IntWalk.i64_in _ (by omega)
  have htd : tb ≤ d := by omega
  have HQ := Lib.hid (show q = tg * k + 0 by omega)
  have HR := Lib.hid (show r = (tg + 1) * k + 0 by omega)
  obtain ⟨A, hA⟩ : ∃ A, A = (if d = ta then J else Option.map (fun x => x.add ta) J) := ⟨_, rfl⟩
  have HC := Lib.hid (HJ.out A (fun hlt => by
    obtain ⟨b, o, hb, _⟩ := HF.out (by omega)
    refine ⟨b, o, hb, ?_⟩
    rw [hA, if_neg (by omega), hb]
    simp [Addr.add]))
  have HA := Lib.hid hA
  have hLb : L.length ≤ 8080000 := by omega
  clear hq hr f0 f1 hci hta htb hln hlf h hA hL hLl hLa hin hhas HJ hlm hmul hmul0 hsz
  obtain ⟨wz, hwz⟩ : ∃ z, z = w.alloc (.cells #[.int .i64 (k : Int), .slice (some ⟨bi, oi, none⟩) n c, .slice J m d] 90) := ⟨_, rfl⟩
  have V := Lib.hid (show Hp w [box 90 w.heap.size [.int .i64 (k : Int), .slice (some ⟨bi, oi, none⟩) n c, .slice J m d]] wz by
    have := (Hp.start w).box_new 90 [.int .i64 (k : Int), .slice (some ⟨bi, oi, none⟩) n c, .slice J m d]
    rw [hwz]; simpa using this)
  have HZ := Lib.hid hwz
  have c0 := (V.out.below.cell (p := ⟨bi, oi + q, none⟩) hbi).trans c0
  have c1 := (V.out.below.cell (p := ⟨bi, oi + r, none⟩) hbi).trans c1
  have hb2 := Nat.lt_of_lt_of_le hbi V.out.below.size
  clear hwz
  go_enter Try.func75, Try.ntmps75
  go_upto_region 1 with fail
  rw [← HZ.out]
  have hKp : Keep [(⟨w.heap.size, 0, none⟩, .int .i64 (k : Int)), (⟨w.heap.size, 1, none⟩, .slice (some ⟨bi, oi, none⟩) n c), (⟨w.heap.size, 2, none⟩, .slice J m d), (⟨bi, oi + q, none⟩, .int .i64 (ta : Int)), (⟨bi, oi + r, none⟩, .int .i64 (tb : Int))] wz := List.forall_mem_cons.2 ⟨⟨(V.out.box_at (i := 0) (j := 0) rfl rfl).1, (V.out.box_at (i := 0) (j := 0) rfl rfl).2.2⟩, List.forall_mem_cons.2 ⟨⟨(V.out.box_at (i := 0) (j := 1) rfl rfl).1, (V.out.box_at (i := 0) (j := 1) rfl rfl).2.2⟩, List.forall_mem_cons.2 ⟨⟨(V.out.box_at (i := 0) (j := 2) rfl rfl).1, (V.out.box_at (i := 0) (j := 2) rfl rfl).2.2⟩, List.forall_mem_cons.2 ⟨⟨c0, hb2⟩, List.forall_mem_cons.2 ⟨⟨c1, hb2⟩, fun _ h => by simp at h⟩⟩⟩⟩⟩
  refine wp_region_held_drew (S := Keep _) (by kernel_rfl) hKp.drew (fun hHeld => ?_)
  have Vd := Lib.hid (V.out.go (bdrew _))
  refine tk 0 ?_ rfl ?_ ?_; rotate_left; focus (intro w hSw; clear hSw; go_simp; try (with_reducible rfl))
  try simp only [Act.put, sA, sZ, sS]
  refine tk 1 ?_ rfl ?_ ?_; rotate_left
  · intro wl hSw
    have hSw : Keep _ wl := hSw
    have k0 : wl.cell? ⟨w.heap.size, 2, none⟩ = some (.slice J m d) := (hSw _ (.tail _ (.tail _ (.head _)))).1
    clear hSw
    go_simp
    try (with_reducible rfl)
  try simp only [Act.put, sA, sZ, sS]
  refine tk 2 ?_ rfl ?_ ?_; rotate_left; focus (intro w hSw; clear hSw; go_simp; try (with_reducible rfl))
  try simp only [Act.put, sA, sZ, sS]
  refine tk 3 ?_ rfl ?_ ?_; rotate_left
  · intro wl hSw
    have hSw : Keep _ wl := hSw
    have k0 : wl.cell? ⟨w.heap.size, 1, none⟩ = some (.slice (some ⟨bi, oi, none⟩) n c) := (hSw _ (.tail _ (.head _))).1
    clear hSw
    go_simp
    try (with_reducible rfl)
  try simp only [Act.put, sA, sZ, sS]
  refine tk 4 ?_ rfl ?_ ?_; rotate_left
  · intro wl hSw
    have hSw : Keep _ wl := hSw
    have k0 : wl.cell? ⟨w.heap.size, 0, none⟩ = some (.int .i64 (k : Int)) := (hSw _ (.head _)).1
    have k1 : wl.cell? ⟨w.heap.size, 1, none⟩ = some (.slice (some ⟨bi, oi, none⟩) n c) := (hSw _ (.tail _ (.head _))).1
    have k2 : wl.cell? ⟨w.heap.size, 2, none⟩ = some (.slice J m d) := (hSw _ (.tail _ (.tail _ (.head _)))).1
    clear hSw
    go_simp
    try (with_reducible rfl)
  try simp only [Act.put, sA, sZ, sS]
  refine tk 5 ?_ rfl ?_ ?_; rotate_left; focus (intro w hSw; clear hSw; go_simp; try (with_reducible rfl))
  try simp only [Act.put, sA, sZ, sS]
  refine tk 9 ?_ rfl ?_ ?_; rotate_left; focus (intro w hSw; clear hSw; go_simp; try (with_reducible rfl))
  try simp only [Act.put, sA, sZ, sS]
  refine tk 10 ?_ rfl ?_ ?_; rotate_left
  · intro wl hSw
    have hSw : Keep _ wl := hSw
    have k0 : wl.cell? ⟨w.heap.size, 1, none⟩ = some (.slice (some ⟨bi, oi, none⟩) n c) := (hSw _ (.tail _ (.head _))).1
    clear hSw
    go_simp
    try (with_reducible rfl)
  try simp only [Act.put, sA, sZ, sS]
  refine tk 11 ?_ rfl ?_ ?_; rotate_left
  · intro wl hSw
    have hSw : Keep _ wl := hSw
    have k0 : wl.cell? ⟨w.heap.size, 0, none⟩ = some (.int .i64 (k : Int)) := (hSw _ (.head _)).1
    have k1 : wl.cell? ⟨w.heap.size, 1, none⟩ = some (.slice (some ⟨bi, oi, none⟩) n c) := (hSw _ (.tail _ (.head _))).1
    have k2 : wl.cell? ⟨w.heap.size, 2, none⟩ = some (.slice J m d) := (hSw _ (.tail _ (.tail _ (.head _)))).1
    clear hSw
    go_simp
    try (with_reducible rfl)
  try simp only [Act.put, sA, sZ, sS]
  refine tk 12 ?_ rfl ?_ ?_; rotate_left; focus (intro w hSw; clear hSw; go_simp; try (with_reducible rfl))
  try simp only [Act.put, sA, sZ, sS]
  refine tk 13 ?_ rfl ?_ ?_; rotate_left; focus (intro w hSw; clear hSw; go_simp; try (with_reducible rfl))
  try simp only [Act.put, sA, sZ, sS]
  refine wpAnyH_ready (rs := [6]) (by kernel_rfl) (by simp) ?_
  refine AllReadyH.cons (List.getElem?_toArray.trans rfl) (fun K hK => ?_) AllReadyH.nil
  go_simp
  refine (number_is q tg 0 _ _ k _ J n c m d _ HQ.out rfl rfl (by omega) hk8 (by omega)).mono ?_
  rintro e w_6 ⟨rfl, b_6⟩
  try go_wp2_with fail
  have V_6 := Lib.hid (Vd.out.go b_6)
  refine hK.out _ _ (hHeld.go b_6) (fun hHeld => ?_)
  clear hK K
  try simp only [Act.put, sA, sZ, sS]
  refine tk 7 ?_ rfl ?_ ?_; rotate_left; focus (intro w hSw; clear hSw; go_simp; try (with_reducible rfl))
  try simp only [Act.put, sA, sZ, sS]
  refine tk 8 ?_ rfl ?_ ?_; rotate_left
  · intro wl hSw
    have hSw : Keep _ wl := hSw
    have k0 : wl.cell? ⟨bi, oi + q, none⟩ = some (.int .i64 (ta : Int)) := (hSw _ (.tail _ (.tail _ (.tail _ (.head _))))).1
    clear hSw
    go_simp
    try (with_reducible rfl)
  try simp only [Act.put, sA, sZ, sS]
  refine wpAnyH_ready (rs := [14]) (by kernel_rfl) (by simp) ?_
  refine AllReadyH.cons (List.getElem?_toArray.trans rfl) (fun K hK => ?_) AllReadyH.nil
  go_simp
  refine (number_is r (tg + 1) 0 ((tg : Int) + 1) _ k _ J n c m d _ HR.out (by omega) rfl ht2 hk8 (by omega)).mono ?_
  rintro e w_6_14 ⟨rfl, b_6_14⟩
  try go_wp2_with fail
  have V_6_14 := Lib.hid (V_6.out.go b_6_14)
  refine hK.out _ _ (hHeld.go b_6_14) (fun hHeld => ?_)
  clear hK K
  try simp only [Act.put, sA, sZ, sS]
  refine tk 15 ?_ rfl ?_ ?_; rotate_left; focus (intro w hSw; clear hSw; go_simp; try (with_reducible rfl))
  try simp only [Act.put, sA, sZ, sS]
  refine tk 16 ?_ rfl ?_ ?_; rotate_left
  · intro wl hSw
    have hSw : Keep _ wl := hSw
    have k0 : wl.cell? ⟨bi, oi + r, none⟩ = some (.int .i64 (tb : Int)) := (hSw _ (.tail _ (.tail _ (.tail _ (.tail _ (.head _)))))).1
    clear hSw
    go_simp
    try (with_reducible rfl)
  try simp only [Act.put, sA, sZ, sS]
  refine tk 17 ?_ rfl ?_ ?_; rotate_left
  · intro w hSw
    clear hSw
    go_simp
    rw [← HA.out]
    try (with_reducible rfl)
  try simp only [Act.put, sA, sZ, sS]
  refine tk 18 ?_ rfl ?_ ?_; rotate_left; focus (intro w hSw; clear hSw; go_simp; try (with_reducible rfl))
  try simp only [Act.put, sA, sZ, sS]
  refine wpAnyH_done (by kernel_rfl) ?_ _
  go_wp2_with fail
  go_ret
  exact ⟨A, d - ta, L, by rw [HL.out]; rfl, HC.out, hLb, HIN.out.1, HIN.out.2, V_6_14.out.below⟩
end Go.Proofs.Ytdkdfmflghbhiaa
