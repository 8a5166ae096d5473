/- Drafts of automata: how they are opened, and what is made of them. -/
import Derived.Test.YtjobhpekclomfabQz
import Derived.Test.YtjobhpekclomfabAMr
namespace Go.Proofs.Ytjobhpekclomfab
open Go.ChangeShapes Go.WideShapes Go.ChangeAt Go.RowKit
set_option linter.unusedVariables false
set_option linter.unusedSimpArgs false
set_option maxRecDepth 100000

theorem u8_cells : Try.prog.cellsOf 5 = 1 := by kernel_rfl
theorem u8s_cells : Try.prog.cellsOf 22 = 1 := by kernel_rfl
theorem u16_cells : Try.prog.cellsOf 23 = 1 := by kernel_rfl
theorem draft_cells : Try.prog.cellsOf 25 = 3 := by kernel_rfl
theorem u8_bytes : Try.prog.bytesOf 5 = 1 := by kernel_rfl
def u8s (L : List Nat) : List Value := L.map fun (x : Nat) => Value.int .u8 (x : Int)
theorem u8s_len (L : List Nat) : (u8s L).length = L.length := by simp [u8s]
theorem u8s_at {L : List Nat} {j : Nat} (h : j < L.length) : (u8s L)[j]? = some (.int .u8 ((L.getD j 0 : Nat) : Int)) := by
  rw [List.getD_eq_getElem?_getD, List.getElem?_eq_getElem h]; simp [u8s, h]
/-- A draft lies there. -/
structure DraftIn (w : World) (l b : Int) (A : Option Addr) (n c : Nat) (L : List Nat) : Prop where
  len : L.length = n
  big : n ≤ 140737488355328
  l0 : 0 ≤ l
  l1 : l ≤ 255
  b0 : 0 ≤ b
  b1 : b ≤ 65535
  cells : CellsIn w A (u8s L)
  small : ∀ x ∈ L, x ≤ 255
theorem DraftIn.below {w w' : World} {l b : Int} {A : Option Addr} {n c : Nat} {L : List Nat} (h : DraftIn w l b A n c L) (hb : Below w.heap.size w w') : DraftIn w' l b A n c L := ⟨h.len, h.big, h.l0, h.l1, h.b0, h.b1, h.cells.below hb, h.small⟩
section
variable {H : Type} {enc : TypeId × Value → H} {W : World} {fuel : Nat}
theorem open_draft {r : Reach} {b0 : Nat} {v : Value} {d : DataW H} {p : List MemPlace} (hv : Value.okWide Try.prog W r b0 25 v)
    (h : DataW.Trod enc Try.prog W 0 (fun _ => true) true 25 v d p) (hw : ∀ m ∈ d.weights Try.prog 25, m ≤ reachBytes) :
    ∃ (l : Int) (A : Option Addr) (n c : Nat) (L : List Nat) (b : Int), v = .agg #[.int .u8 l, .slice A n c, .int .u16 b] ∧ DraftIn W l b A n c L := by
  obtain ⟨cs, rfl, hsz⟩ := okWide_struct Try.underlying25 hv
  obtain ⟨c0, c1, c2, rfl⟩ := Go.Joins.array3 (hsz.trans draft_cells)
  obtain ⟨fuel, hf⟩ := h
  obtain ⟨y0, y1, y2, n, hx, _, h0, h1, h2⟩ := Go.Deep.trod_struct3 Try.underlying25 hf
  have k0 : DataW.trod enc Try.prog W 0 (fun _ => true) true n 5 [c0] = some y0 := by simpa [Value.cells, u8_cells] using h0
  have k1 : DataW.trod enc Try.prog W 0 (fun _ => true) true n 22 [c1] = some y1 := by simpa [Value.cells, u8s_cells] using h1
  have k2 : DataW.trod enc Try.prog W 0 (fun _ => true) true n 23 [c2] = some y2 := by simpa [Value.cells, u16_cells] using h2
  obtain ⟨l, e0, _, w0⟩ := DataW.trod_int Try.underlying5 k0
  obtain ⟨b, e2, _, w2⟩ := DataW.trod_int Try.underlying23 k2
  have b0 := bounds_u8 w0
  have b2 := bounds_u16 w2
  have e0 : c0 = .int .u8 l := by simpa using e0
  have e2 : c2 = .int .u16 b := by simpa using e2
  simp only [Prod.mk.injEq] at hx
  have hw1 : ∀ m ∈ y1.1.weights Try.prog 22, m ≤ reachBytes := fun m hm => hw m (by rw [hx.1]; simp only [DataW.weights, Try.underlying25]; simp [DataW.weightsEach, hm])
  rcases open_ints Try.underlying22 Try.underlying5 u8_cells k1 with ⟨hcs, hy⟩ | ⟨a, len, cap, zs, hcs, _, hl, hm, hz, hy, hcell, hwz⟩
  · have e1 : c1 = .slice none 0 0 := by simpa using hcs
    subst e0 e1 e2
    exact ⟨l, none, 0, 0, [], b, rfl, rfl, Nat.zero_le _, b0.1, b0.2, b2.1, b2.2, CellsIn.nil _ _, fun x hx => by cases hx⟩
  · have e1 : c1 = .slice (some a) len cap := by simpa using hcs
    subst e0 e1 e2
    simp only [if_true] at hz
    have hr := reachBytes_lt
    have hbig : cap ≤ reachBytes := by
      have h1 : ((lits .u8 (zs.take len) : List (DataW H)).length + (lits .u8 (zs.drop len) : List (DataW H)).length) * Try.prog.bytesOf 5 ∈ y1.1.weights Try.prog 22 := by
        rw [hy]; simp [DataW.weights, Try.underlying22]
      have h2 := hw1 _ h1
      rw [u8_bytes] at h2
      simp only [lits, List.length_map, List.length_take, List.length_drop, hz, Nat.min_eq_left hl] at h2
      omega
    refine ⟨l, some a, len, cap, (zs.take len).map Int.toNat, b, rfl, by simp [hz, hl], by omega, b0.1, b0.2, b2.1, b2.2, fun h0 => ?_, fun x hx => ?_⟩
    · have hlen : 0 < len := by rw [u8s_len] at h0; simp at h0; omega
      obtain ⟨b', off, rfl, hlt⟩ := spot_none (hcell 0 (by omega))
      refine ⟨b', off, rfl, hlt, fun j u hu => ?_⟩
      have hj := (List.getElem?_eq_some_iff.1 hu).1
      rw [u8s_len] at hj
      have hj2 : j < len := by simp at hj; omega
      rw [u8s_at hj] at hu
      have h3 := hcell j (by omega)
      rw [add_at] at h3
      have hz0 := (bounds_u8 (hwz (zs.getD j 0) (by rw [List.getD_eq_getElem?_getD, List.getElem?_eq_getElem (show j < zs.length by omega)]; exact List.getElem_mem _))).1
      have e : (((((zs.take len).map Int.toNat).getD j 0 : Nat)) : Int) = zs.getD j 0 := by
        rw [List.getD_eq_getElem?_getD, List.getElem?_map, List.getElem?_take_of_lt hj2, List.getD_eq_getElem?_getD, List.getElem?_eq_getElem (show j < zs.length by omega)] at *
        simp at *
        omega
      rw [h3, ← hu, e]
    · obtain ⟨z, hz1, rfl⟩ := List.mem_map.1 hx
      have := bounds_u8 (hwz z (List.mem_of_mem_take hz1))
      omega
end
def stI (i : Nat) : Int := if i = 0 then -1 else 0
/-- The rows of an automaton that a call has made. -/
def XM (y : DV) (M : Au) (vs : List (Option Addr × Nat)) : List Itm := rvals y.A y.n y.c vs M.nx :: flags y.B y.m y.d M.ac :: rowsG vs M.nx
theorem xm_dfa {W w : World} {l r : List Itm} {y : DV} {M : Au} {vs : List (Option Addr × Nat)} (h : Hp W (l ++ (XM y M vs ++ r)) w) (hl : vs.length = M.nx.length) (hn : M.nx.length = y.n) (hm : M.ac.length = y.m) (hb : ∀ row ∈ M.nx, row.length ≤ 17592186044416) (hnb : y.n ≤ 1000) (hmb : y.m ≤ 1000) : DfaIn w y M := by
  have h2 : Hp W (XM y M vs) w := h.sub (fun i => l.length + i) (fun i j e => by omega) (fun i it hi => by
    have hil := (List.getElem?_eq_some_iff.1 hi).1
    show (l ++ (XM y M vs ++ r))[l.length + i]? = some it
    rw [List.getElem?_append_right (by omega), Nat.add_sub_cancel_left, List.getElem?_append_left hil]
    exact hi)
  have c0 := h2.cap (i := 0) (A := y.A) (c := y.c) rfl rfl
  have c1 := h2.cap (i := 1) (A := y.B) (c := y.d) rfl rfl
  exact ⟨hn, hm, c0.1, c1.1, by omega, by omega, rowsG_in (l := [_, _]) (i := 0) h2 rfl hl hb, h2.cells (i := 1) rfl rfl⟩
/-- What Made returns: a valid automaton with 1 to 4 letters, and up to 12 states. -/
structure IsMade (l : Int) (y : DV) (M : Au) (vs : List (Option Addr × Nat)) : Prop where
  hl : vs.length = M.nx.length
  hn : M.nx.length = y.n
  hm : M.ac.length = y.m
  vld : M.Vld (1 + l.toNat % 4)
  few : M.n ≤ 12
theorem IsMade.dfa {l : Int} {y : DV} {M : Au} {vs : List (Option Addr × Nat)} (h : IsMade l y M vs) {W w : World} {a b : List Itm} (hp : Hp W (a ++ (XM y M vs ++ b)) w) : DfaIn w y M := by
  have h1 := h.hn
  have h2 := h.hm
  have h3 := h.few
  have h4 := h.vld.right.acl
  unfold Au.n at h3
  refine xm_dfa hp h.hl h.hn h.hm (fun row hr => ?_) (by omega) (by omega)
  obtain ⟨i, hi⟩ := List.mem_iff_getElem?.1 hr
  rw [(h.vld.right.rows i row hi).1]
  omega
def MadePost (l : Int) (w : World) (e : Ending) (w' : World) : Prop := ∃ (y : DV) (M : Au) (vs : List (Option Addr × Nat)), e = .returned (dval y M) ∧ IsMade l y M vs ∧ Hp w (XM y M vs) w'
set_option maxHeartbeats 16000000 in
theorem made_any (l b : Int) (A : Option Addr) (n c : Nat) (L : List Nat) (w : World) (h : DraftIn w l b A n c L) :
    Calls Try.prog 5 #[.agg #[.int .u8 l, .slice A n c, .int .u16 b]] w (MadePost l w) := by
  have H := Lib.hid h
  have hl0 := h.l0
  have hl1 := h.l1
  have hb0 := h.b0
  have hb1 := h.b1
  have hnb := h.big
  clear h
  obtain ⟨r, hr⟩ : ∃ r : Nat, r = l.toNat % 4 := ⟨_, rfl⟩
  have hr4 : r < 4 := by omega
  have g1 : l.tmod 4 = (r : Int) := by rw [hr]; have := Int.tmod_eq_emod_of_nonneg (a := l) (b := 4) hl0; omega
  have g2 : IntKind.u8.wrap (r : Int) = (r : Int) := IntWalk.u8_in _ (by omega)
  have g3 : IntKind.i64.wrap (r : Int) = (r : Int) := IntWalk.i64_in _ (by omega)
  have g4 : IntKind.i64.wrap (1 + (r : Int)) = 1 + (r : Int) := IntWalk.i64_in _ (by omega)
  have HR := Lib.hid hr
  clear hr
  obtain ⟨wz, hwz⟩ : ∃ z, z = ((w.alloc (.cells #[.int .u8 l, .slice A n c, .int .u16 b] 25)).alloc (.cells #[.int .i64 0, .int .i64 0, .slice none 0 0, .slice none 0 0] 29)) := ⟨_, rfl⟩
  have V := Lib.hid (show Hp w [box 29 (w.heap.size + 1) [.int .i64 0, .int .i64 0, .slice none 0 0, .slice none 0 0], box 25 w.heap.size [.int .u8 l, .slice A n c, .int .u16 b]] wz by
    have := (((Hp.start w).box_new 25 [.int .u8 l, .slice A n c, .int .u16 b]).box_new 29 [.int .i64 0, .int .i64 0, .slice none 0 0, .slice none 0 0])
    rw [hwz]; simpa using this)
  have HZ := Lib.hid hwz
  clear hwz
  go_enter Try.func5, Try.ntmps5
  go_upto_region 1 with fail
  rw [← HZ.out]
  clear HZ
  obtain ⟨r0, _, r9⟩ := V.out.box_at (i := 1) (j := 0) rfl rfl
  obtain ⟨r1, _, _⟩ := V.out.box_at (i := 1) (j := 1) rfl rfl
  obtain ⟨r2, _, _⟩ := V.out.box_at (i := 1) (j := 2) rfl rfl
  obtain ⟨k, hk⟩ : ∃ k : Nat, k = 1 + r := ⟨_, rfl⟩
  obtain ⟨w2, hw2⟩ : ∃ z, z = wz.alloc (.cells #[.int .i64 (k : Int), .int .i64 (-1), .slice none 0 0, .slice none 0 0] 29) := ⟨_, rfl⟩
  have V2 := Lib.hid (show Hp w [box 29 wz.heap.size [.int .i64 (k : Int), .int .i64 (-1), .slice none 0 0, .slice none 0 0], box 29 (w.heap.size + 1) [.int .i64 0, .int .i64 0, .slice none 0 0, .slice none 0 0], box 25 w.heap.size [.int .u8 l, .slice A n c, .int .u16 b]] w2 by rw [hw2]; exact V.out.box_new 29 [.int .i64 (k : Int), .int .i64 (-1), .slice none 0 0, .slice none 0 0])
  have g4k : IntKind.i64.wrap (1 + (r : Int)) = (k : Int) := by rw [g4]; omega
  have HW2 := Lib.hid hw2
  have HK := Lib.hid hk
  have hk0 : 0 < k := by omega
  have hk4 : k ≤ 4 := by omega
  clear g4 hw2 hk V
  go_upto_region 2 with fail
  rw [← HW2.out]
  clear HW2 r0 r1 r2 r9 g1 g2 g3 g4k hr4
  obtain ⟨N0, hN0⟩ : ∃ q : Nat, q = n / k := ⟨_, rfl⟩
  obtain ⟨N, hN⟩ : ∃ q : Nat, q = min N0 12 := ⟨_, rfl⟩
  have hN12 : N ≤ 12 := by omega
  have hNk : N * k ≤ n := by
    have h1 := Nat.div_mul_le_self n k
    have h2 : N * k ≤ N0 * k := Nat.mul_le_mul_right _ (by omega)
    rw [hN0] at h2
    omega
  have e1 : (n : Int).tdiv (k : Int) = (N0 : Int) := by rw [hN0]; exact Int.ofNat_tdiv n k ▸ rfl
  have e2 : IntKind.i64.wrap (N0 : Int) = (N0 : Int) := IntWalk.i64_in _ (by have := Nat.div_le_self n k; omega)
  have e3 : min (N0 : Int) 12 = (N : Int) := by omega
  have e4 : ¬ (k : Int) = 0 := by omega
  have e5 : ¬ k = 0 := by omega
  have HNK := Lib.hid hNk
  clear hN0 hN hNk
  have V0 := Lib.hid (show ∃ An cn Bn dn, ∃ (vs : List (Option Addr × Nat)) (rows : List (List Int)) (fl : List Bool), vs.length = 0 ∧ rows.length = 0 ∧ (∀ row ∈ rows, row.length = k ∧ ∀ x ∈ row, -1 ≤ x ∧ x < (N : Int)) ∧ Hp w ([box 29 wz.heap.size [.int .i64 (k : Int), .int .i64 (stI 0), .slice An 0 cn, .slice Bn 0 dn], rvals An 0 cn vs rows, flags Bn 0 dn fl, box 29 (w.heap.size + 1) [.int .i64 0, .int .i64 0, .slice none 0 0, .slice none 0 0], box 25 w.heap.size [.int .u8 l, .slice A n c, .int .u16 b]] ++ rowsG vs rows) w2 from
    ⟨none, 0, none, 0, [], [], [], rfl, rfl, (fun row h => by cases h), ((V2.out.nil_row (flags none 0 0 []) rfl rfl rfl).nil_row (rvals none 0 0 [] []) rfl rfl rfl).pick [2, 0, 1, 3, 4] (by decide) rfl⟩)
  obtain ⟨r1, _, r9⟩ := V2.out.box_at (i := 2) (j := 1) rfl rfl
  obtain ⟨s0, _, s9⟩ := V2.out.box_at (i := 0) (j := 0) rfl rfl
  go_wp2_with fail
  clear r1 r9 s0 s9 V2 e1 e2 e3
  go_loopw [5] (fun cv wr => ∃ i : Nat, cv = .int .i64 (i : Int) ∧ i ≤ N ∧ ∃ An cn Bn dn, ∃ (vs : List (Option Addr × Nat)) (rows : List (List Int)) (fl : List Bool), vs.length = i ∧ rows.length = i ∧ (∀ row ∈ rows, row.length = k ∧ ∀ x ∈ row, -1 ≤ x ∧ x < (N : Int)) ∧ Hp w ([box 29 wz.heap.size [.int .i64 (k : Int), .int .i64 (stI i), .slice An i cn, .slice Bn i dn], rvals An i cn vs rows, flags Bn i dn fl, box 29 (w.heap.size + 1) [.int .i64 0, .int .i64 0, .slice none 0 0, .slice none 0 0], box 25 w.heap.size [.int .u8 l, .slice A n c, .int .u16 b]] ++ rowsG vs rows) wr) (fun cv _ => N - (intOf cv).toNat)
  case atStart => exact ⟨0, rfl, Nat.zero_le _, V0.out⟩
  case round =>
    clear V0
    obtain ⟨i, rfl, hiN, An, cn, Bn, dn, vs, rows, fl, hvs, hrows, hin, hV⟩ := hrel
    obtain ⟨wi, rfl⟩ : ∃ wi : World, wi = wr := ⟨_, rfl⟩
    have V := Lib.hid hV
    have HVS := Lib.hid hvs
    have HRS := Lib.hid hrows
    have HIN := Lib.hid hin
    clear hV hvs hrows hin
    by_cases hlt : i < N
    · go_upto_region 7 with fail
      have VI := Lib.hid (show ∃ Ar cr, ∃ row : List Int, Value.slice none 0 0 = .slice Ar 0 cr ∧ row.length = 0 ∧ (∀ x ∈ row, -1 ≤ x ∧ x < (N : Int)) ∧ Hp w (nums Ar 0 cr row :: ([box 29 wz.heap.size [.int .i64 (k : Int), .int .i64 (stI i), .slice An i cn, .slice Bn i dn], rvals An i cn vs rows, flags Bn i dn fl, box 29 (w.heap.size + 1) [.int .i64 0, .int .i64 0, .slice none 0 0, .slice none 0 0], box 25 w.heap.size [.int .u8 l, .slice A n c, .int .u16 b]] ++ rowsG vs rows)) wi from
        ⟨none, 0, [], rfl, rfl, (fun x h => by cases h), V.out.nil_row _ rfl rfl rfl⟩)
      clear V
      go_wp2_with fail
      go_loopw [6, 7] (fun rv cv wr => ∃ j : Nat, cv = .int .i64 (j : Int) ∧ j ≤ k ∧ ∃ Ar cr, ∃ row : List Int, rv = .slice Ar j cr ∧ row.length = j ∧ (∀ x ∈ row, -1 ≤ x ∧ x < (N : Int)) ∧ Hp w (nums Ar j cr row :: ([box 29 wz.heap.size [.int .i64 (k : Int), .int .i64 (stI i), .slice An i cn, .slice Bn i dn], rvals An i cn vs rows, flags Bn i dn fl, box 29 (w.heap.size + 1) [.int .i64 0, .int .i64 0, .slice none 0 0, .slice none 0 0], box 25 w.heap.size [.int .u8 l, .slice A n c, .int .u16 b]] ++ rowsG vs rows)) wr) (fun _ cv _ => k - (intOf cv).toNat)
      case atStart => exact ⟨0, rfl, Nat.zero_le _, VI.out⟩
      case round =>
        clear VI
        obtain ⟨j, rfl, hjk, Ar, cr, row, rfl, hrl, hrx, hV⟩ := hrel
        obtain ⟨wj, rfl⟩ : ∃ wj : World, wj = wr := ⟨_, rfl⟩
        have V := Lib.hid hV
        have HRL := Lib.hid hrl
        have HRX := Lib.hid hrx
        clear hV hrl hrx
        obtain ⟨s0, _, s9⟩ := V.out.box_at (i := 1) (j := 0) rfl rfl
        by_cases hjlt : j < k
        · obtain ⟨r1, _, r9⟩ := V.out.box_at (i := 5) (j := 1) rfl rfl
          obtain ⟨p, hp⟩ : ∃ p, p = i * k := ⟨_, rfl⟩
          obtain ⟨q, hq⟩ : ∃ q, q = p + j := ⟨_, rfl⟩
          have hqn : q < n := by
            have h1 : (i + 1) * k ≤ N * k := Nat.mul_le_mul_right _ (by omega)
            rw [Nat.add_mul, Nat.one_mul] at h1
            have := HNK.out
            omega
          have f1 : (i : Int) * (k : Int) = (p : Int) := by rw [hp]; simp
          have f2 : (p : Int) + (j : Int) = (q : Int) := by omega
          have f3 : IntKind.i64.wrap (p : Int) = (p : Int) := IntWalk.i64_in _ (by omega)
          have f4 : IntKind.i64.wrap (q : Int) = (q : Int) := IntWalk.i64_in _ (by omega)
          clear hp hq
          obtain ⟨bb, off, rfl, hbb, hcc⟩ := H.out.cells (by rw [u8s_len, H.out.len]; omega)
          have hc := (V.out.below.cell (p := ⟨bb, off + q, none⟩) hbb).trans (hcc q _ (u8s_at (by rw [H.out.len]; omega)))
          have hbb2 := Nat.lt_of_lt_of_le hbb V.out.below.size
          obtain ⟨v, hv⟩ : ∃ v, v = L.getD q 0 := ⟨_, rfl⟩
          have hv255 : v ≤ 255 := by
            have hql : q < L.length := by rw [H.out.len]; omega
            rw [hv, getD_at hql]
            exact H.out.small _ (List.getElem_mem hql)
          rw [← hv] at hc
          obtain ⟨m, hm⟩ : ∃ m, m = v % (N + 1) := ⟨_, rfl⟩
          have hmN : m < N + 1 := by rw [hm]; exact Nat.mod_lt _ (by omega)
          have f5 : IntKind.i64.wrap (v : Int) = (v : Int) := IntWalk.i64_in _ (by omega)
          have f6 : IntKind.i64.wrap ((N : Int) + 1) = (N : Int) + 1 := IntWalk.i64_in _ (by omega)
          have f7 : (v : Int).tmod ((N : Int) + 1) = (m : Int) := by rw [hm]; exact Int.ofNat_tmod v (N + 1) ▸ rfl
          have f8 : IntKind.i64.wrap (m : Int) = (m : Int) := IntWalk.i64_in _ (by omega)
          have f9 : IntKind.i64.wrap ((m : Int) - 1) = (m : Int) - 1 := IntWalk.i64_in _ (by omega)
          have f10 : ¬ (N : Int) + 1 = 0 := by omega
          clear hcc hbb hv hm
          obtain ⟨wy, hwy⟩ : ∃ z, z = wj.alloc (.cells #[.int .i64 ((m : Int) - 1)] 3) := ⟨_, rfl⟩
          have V3 := Lib.hid (show Hp w (box 3 wj.heap.size [.int .i64 ((m : Int) - 1)] :: nums Ar j cr row :: ([box 29 wz.heap.size [.int .i64 (k : Int), .int .i64 (stI i), .slice An i cn, .slice Bn i dn], rvals An i cn vs rows, flags Bn i dn fl, box 29 (w.heap.size + 1) [.int .i64 0, .int .i64 0, .slice none 0 0, .slice none 0 0], box 25 w.heap.size [.int .u8 l, .slice (some ⟨bb, off, none⟩) n c, .int .u16 b]] ++ rowsG vs rows)) wy by rw [hwy]; exact V.out.box_new 3 [.int .i64 ((m : Int) - 1)])
          have y0 := (V3.out.box_at (i := 0) (j := 0) rfl rfl).1
          obtain ⟨g4, cap4, w4, hr4, hv4, _⟩ := run_app_num V3.out (i := 1) rfl 41 ((m : Int) - 1) y0 (by omega)
          have V4 := Lib.hid hv4.tail
          have HY := Lib.hid hwy
          have HR4 := Lib.hid hr4
          have HRX2 := Lib.hid (show ∀ x ∈ row ++ [(m : Int) - 1], -1 ≤ x ∧ x < (N : Int) from fun x hx => by
            rcases List.mem_append.1 hx with h | h
            · exact HRX.out x h
            · rw [List.mem_singleton.1 h]; omega)
          clear hwy y0 hv4 hr4 V V3
          go_wp2_with (at_builtin; rw [← HY.out]; refine wpList_app_run rfl (.tmp 32) (.tmp 48) 41 rfl HR4.out rfl rfl ?_)
          go_roundw
          case rel => exact ⟨j + 1, by go_num, by omega, some ⟨g4, 0, none⟩, cap4, row ++ [(m : Int) - 1], rfl, by rw [List.length_append, HRL.out]; rfl, HRX2.out, V4.out⟩
          case measure => simp [intOf]; omega
        · obtain rfl : k = j := by omega
          have HVL := Lib.hid (show vs.length = rows.length by rw [HVS.out, HRS.out])
          obtain ⟨wy, hwy⟩ : ∃ z, z = wj.alloc (.cells #[.slice Ar k cr] 41) := ⟨_, rfl⟩
          have V3 := Lib.hid (show Hp w (box 41 wj.heap.size [.slice Ar k cr] :: nums Ar k cr row :: ([box 29 wz.heap.size [.int .i64 (k : Int), .int .i64 (stI i), .slice An i cn, .slice Bn i dn], rvals An i cn vs rows, flags Bn i dn fl, box 29 (w.heap.size + 1) [.int .i64 0, .int .i64 0, .slice none 0 0, .slice none 0 0], box 25 w.heap.size [.int .u8 l, .slice A n c, .int .u16 b]] ++ rowsG vs rows)) wy by rw [hwy]; exact V.out.box_new 41 [.slice Ar k cr])
          have y0 := (V3.out.box_at (i := 0) (j := 0) rfl rfl).1
          obtain ⟨b2, _, b9⟩ := V.out.box_at (i := 1) (j := 2) rfl rfl
          obtain ⟨g5, cap5, w5b, hr5, hv5, _⟩ := run_app_rv V3.out (i := 3) rfl HVL.out 26 Ar k cr row HRL.out y0 (by omega)
          have V4 := Lib.hid hv5.tail
          have HY := Lib.hid hwy
          have HR5 := Lib.hid hr5
          obtain ⟨o1, o2, o3⟩ := V4.out.box_at (i := 1) (j := 2) rfl rfl
          have V5 := Lib.hid (V4.out.box_set (i := 1) rfl 2 (.slice (some ⟨g5, 0, none⟩) (i + 1) cap5))
          clear hwy y0 hv5 hr5 V V3 V4
          go_upto_region 12 with (at_builtin; rw [← HY.out]; refine wpList_app_run rfl (.tmp 51) (.tmp 53) 26 rfl HR5.out rfl rfl ?_)
          obtain ⟨wm, hwm⟩ : ∃ z, z = w5b.setCell ⟨wz.heap.size, 2, none⟩ (.slice (some ⟨g5, 0, none⟩) (i + 1) cap5) := ⟨_, rfl⟩
          rw [← hwm]
          have V6 := Lib.hid (show Hp w (nums Ar k cr row :: ([box 29 wz.heap.size [.int .i64 (k : Int), .int .i64 (stI i), .slice (some ⟨g5, 0, none⟩) (i + 1) cap5, .slice Bn i dn], rvals (some ⟨g5, 0, none⟩) (i + 1) cap5 (vs ++ [(Ar, cr)]) (rows ++ [row]), flags Bn i dn fl, box 29 (w.heap.size + 1) [.int .i64 0, .int .i64 0, .slice none 0 0, .slice none 0 0], box 25 w.heap.size [.int .u8 l, .slice A n c, .int .u16 b]] ++ rowsG vs rows)) wm by rw [hwm]; exact V5.out)
          clear V5 HY HR5 o1 o2 o3 b2 b9 hwm s0 s9
          have hKp : Keep [(⟨w.heap.size, 2, none⟩, .int .u16 b)] wm := List.forall_mem_cons.2 ⟨⟨(V6.out.box_at (i := 5) (j := 2) rfl rfl).1, (V6.out.box_at (i := 5) (j := 2) rfl rfl).2.2⟩, fun _ h => by simp at h⟩
          refine wp_region_held_drew (S := Keep [(⟨w.heap.size, 2, none⟩, .int .u16 b)]) (by kernel_rfl) hKp.drew (fun hHeld => ?_)
          have V6d := Lib.hid (V6.out.go (bdrew _))
          refine wpAnyH_take (i := 0) (v := ?_) (List.getElem?_toArray.trans rfl) (by kernel_rfl) (by kernel_rfl) (by kernel_rfl) (fun _ _ _ h => h) (Or.inl ⟨by rfl, ?_⟩) (by assumption) ?_
          rotate_left
          · intro w hSw; clear hSw; go_simp; try (with_reducible rfl)
          try simp only [Act.put, List.setIfInBounds_toArray, List.set_cons_zero, List.set_cons_succ]
          refine wpAnyH_take (i := 2) (v := ?_) (List.getElem?_toArray.trans rfl) (by kernel_rfl) (by kernel_rfl) (by kernel_rfl) (fun _ _ _ h => h) (Or.inl ⟨by rfl, ?_⟩) (by assumption) ?_
          rotate_left
          · intro w hSw; clear hSw; go_simp; try (with_reducible rfl)
          try simp only [Act.put, List.setIfInBounds_toArray, List.set_cons_zero, List.set_cons_succ]
          refine wpAnyH_take (i := 3) (v := ?_) (List.getElem?_toArray.trans rfl) (by kernel_rfl) (by kernel_rfl) (by kernel_rfl) (fun _ _ _ h => h) (Or.inl ⟨by rfl, ?_⟩) (by assumption) ?_
          rotate_left
          · intro wl hSw
            have hSw : Keep [(⟨w.heap.size, 2, none⟩, .int .u16 b)] wl := hSw
            have k0 : wl.cell? ⟨w.heap.size, 2, none⟩ = some (.int .u16 b) := (hSw _ (.head _)).1
            clear hSw
            go_simp
            try (with_reducible rfl)
          try simp only [Act.put, List.setIfInBounds_toArray, List.set_cons_zero, List.set_cons_succ]
          refine wpAnyH_take (i := 4) (v := ?_) (List.getElem?_toArray.trans rfl) (by kernel_rfl) (by kernel_rfl) (by kernel_rfl) (fun _ _ _ h => h) (Or.inl ⟨by rfl, ?_⟩) (by assumption) ?_
          rotate_left
          · intro w hSw; clear hSw; go_simp; try (with_reducible rfl)
          try simp only [Act.put, List.setIfInBounds_toArray, List.set_cons_zero, List.set_cons_succ]
          refine wpAnyH_take (i := 5) (v := ?_) (List.getElem?_toArray.trans rfl) (by kernel_rfl) (by kernel_rfl) (by kernel_rfl) (fun _ _ _ h => h) (Or.inl ⟨by rfl, ?_⟩) (by assumption) ?_
          rotate_left
          · intro w hSw; clear hSw; go_simp; try (with_reducible rfl)
          try simp only [Act.put, List.setIfInBounds_toArray, List.set_cons_zero, List.set_cons_succ]
          refine wpAnyH_take (i := 6) (v := ?_) (List.getElem?_toArray.trans rfl) (by kernel_rfl) (by kernel_rfl) (by kernel_rfl) (fun _ _ _ h => h) (Or.inl ⟨by rfl, ?_⟩) (by assumption) ?_
          rotate_left
          · intro w hSw; clear hSw; go_simp; try (with_reducible rfl)
          try simp only [Act.put, List.setIfInBounds_toArray, List.set_cons_zero, List.set_cons_succ]
          refine wpAnyH_take (i := 7) (v := ?_) (List.getElem?_toArray.trans rfl) (by kernel_rfl) (by kernel_rfl) (by kernel_rfl) (fun _ _ _ h => h) (Or.inl ⟨by rfl, ?_⟩) (by assumption) ?_
          rotate_left
          · intro w hSw; clear hSw; go_simp; try (with_reducible rfl)
          try simp only [Act.put, List.setIfInBounds_toArray, List.set_cons_zero, List.set_cons_succ]
          refine wpAnyH_ready (rs := [1, 8]) (by kernel_rfl) (by simp) ?_
          refine AllReadyH.cons (List.getElem?_toArray.trans rfl) (fun K hK => ?_) ?_
          · have yL := (V6d.out.box_at (i := 1) (j := 3) rfl rfl).1
            go_simp
            refine hK.out _ _ (hHeld) (fun hHeld => ?_)
            clear hK K
            try simp only [Act.put, List.setIfInBounds_toArray, List.set_cons_zero, List.set_cons_succ]
            refine wpAnyH_ready (rs := [8]) (by kernel_rfl) (by simp) ?_
            refine AllReadyH.cons (List.getElem?_toArray.trans rfl) (fun K hK => ?_) AllReadyH.nil
            obtain ⟨w_1_8, hw_1_8⟩ : ∃ z, z = (wm.alloc (.cells #[.bool (bits BinOp.and IntKind.u16 (b / 2 ^ i) 1 == 1)] 4)).drew := ⟨_, rfl⟩
            have V_1_8 := Lib.hid (show Hp _ (box 4 wm.heap.size [.bool (bits BinOp.and IntKind.u16 (b / 2 ^ i) 1 == 1)] :: _) w_1_8 by rw [hw_1_8]; exact V6d.out.box_new 4 [.bool (bits BinOp.and IntKind.u16 (b / 2 ^ i) 1 == 1)])
            have Bw_1_8 := Lib.hid (show Below wm.drew.heap.size wm.drew w_1_8 by rw [hw_1_8]; exact bnew _ _)
            go_simp
            rw [← hw_1_8]
            clear hw_1_8
            refine hK.out _ _ (hHeld.go Bw_1_8.out) (fun hHeld => ?_)
            clear hK K
            try simp only [Act.put, List.setIfInBounds_toArray, List.set_cons_zero, List.set_cons_succ]
            refine wpAnyH_ready (rs := [9]) (by kernel_rfl) (by simp) ?_
            refine AllReadyH.cons (List.getElem?_toArray.trans rfl) (fun K hK => ?_) AllReadyH.nil
            have y0 := (V_1_8.out.box_at (i := 0) (j := 0) rfl rfl).1
            obtain ⟨g6, cap6, w6, hr6, hv6, _⟩ := run_app_flag V_1_8.out (i := 4) rfl 27 (bits BinOp.and IntKind.u16 (b / 2 ^ i) 1 == 1) y0 (by omega)
            have V7 := Lib.hid hv6.tail
            refine step_app_run rfl (.tmp 57) (.tmp 64) 27 rfl hr6 rfl rfl ?_
            refine hK.out _ _ (List.forall_mem_cons.2 ⟨⟨(V7.out.box_at (i := 5) (j := 2) rfl rfl).1, (V7.out.box_at (i := 5) (j := 2) rfl rfl).2.2⟩, fun _ h => by simp at h⟩) (fun hHeld => ?_)
            clear hK K
            try simp only [Act.put, List.setIfInBounds_toArray, List.set_cons_zero, List.set_cons_succ]
            refine wpAnyH_take (i := 10) (v := ?_) (List.getElem?_toArray.trans rfl) (by kernel_rfl) (by kernel_rfl) (by kernel_rfl) (fun _ _ _ h => h) (Or.inl ⟨by rfl, ?_⟩) (by assumption) ?_
            rotate_left
            · intro w hSw; clear hSw; go_simp; try (with_reducible rfl)
            try simp only [Act.put, List.setIfInBounds_toArray, List.set_cons_zero, List.set_cons_succ]
            refine wpAnyH_ready (rs := [11]) (by kernel_rfl) (by simp) ?_
            refine AllReadyH.cons (List.getElem?_toArray.trans rfl) (fun K hK => ?_) AllReadyH.nil
            obtain ⟨r0, o0, z0⟩ := V7.out.box_at (i := 1) (j := 3) rfl rfl
            have V8 := Lib.hid (V7.out.box_set (i := 1) rfl 3 (.slice (some ⟨g6, 0, none⟩) (i + 1) cap6))
            go_simp
            refine hK.out _ _ (List.forall_mem_cons.2 ⟨⟨(V8.out.box_at (i := 5) (j := 2) rfl rfl).1, (V8.out.box_at (i := 5) (j := 2) rfl rfl).2.2⟩, fun _ h => by simp at h⟩) (fun hHeld => ?_)
            clear hK K
            try simp only [Act.put, List.setIfInBounds_toArray, List.set_cons_zero, List.set_cons_succ]
            refine wpAnyH_done (by kernel_rfl) ?_ _
            obtain ⟨p1, p2, p3⟩ := V8.out.box_at (i := 1) (j := 1) rfl rfl
            have V9 := Lib.hid (V8.out.box_set (i := 1) rfl 1 (.int .i64 0))
            have VN := Lib.hid (show Hp w ([box 29 wz.heap.size [.int .i64 (k : Int), .int .i64 (stI (i + 1)), .slice (some ⟨g5, 0, none⟩) (i + 1) cap5, .slice (some ⟨g6, 0, none⟩) (i + 1) cap6], rvals (some ⟨g5, 0, none⟩) (i + 1) cap5 (vs ++ [(Ar, cr)]) (rows ++ [row]), flags (some ⟨g6, 0, none⟩) (i + 1) cap6 (fl ++ [bits BinOp.and IntKind.u16 (b / 2 ^ i) 1 == 1]), box 29 (w.heap.size + 1) [.int .i64 0, .int .i64 0, .slice none 0 0, .slice none 0 0], box 25 w.heap.size [.int .u8 l, .slice A n c, .int .u16 b]] ++ rowsG (vs ++ [(Ar, cr)]) (rows ++ [row])) _ from row_doneG (l := [box 29 wz.heap.size [.int .i64 (k : Int), .int .i64 (stI (i + 1)), .slice (some ⟨g5, 0, none⟩) (i + 1) cap5, .slice (some ⟨g6, 0, none⟩) (i + 1) cap6], rvals (some ⟨g5, 0, none⟩) (i + 1) cap5 (vs ++ [(Ar, cr)]) (rows ++ [row]), flags (some ⟨g6, 0, none⟩) (i + 1) cap6 (fl ++ [bits BinOp.and IntKind.u16 (b / 2 ^ i) 1 == 1]), box 29 (w.heap.size + 1) [.int .i64 0, .int .i64 0, .slice none 0 0, .slice none 0 0], box 25 w.heap.size [.int .u8 l, .slice A n c, .int .u16 b]]) HVL.out (by rw [HRL.out]; exact V9.out))
            have HIN2 := Lib.hid (show ∀ r ∈ rows ++ [row], r.length = k ∧ ∀ x ∈ r, -1 ≤ x ∧ x < (N : Int) from fun r hr => by
              rcases List.mem_append.1 hr with h | h
              · exact HIN.out r h
              · rw [List.mem_singleton.1 h]; exact ⟨HRL.out, HRX.out⟩)
            clear V6 V7 V8 V9
            go_wp2_with fail
            go_roundw
            case rel => exact ⟨i + 1, by go_num, by omega, _, _, _, _, _, _, _, by rw [List.length_append, HVS.out]; rfl, by rw [List.length_append, HRS.out]; rfl, HIN2.out, VN.out⟩
            case measure => simp [intOf]; omega
          refine AllReadyH.cons (List.getElem?_toArray.trans rfl) (fun K hK => ?_) ?_
          · obtain ⟨w_8, hw_8⟩ : ∃ z, z = (wm.alloc (.cells #[.bool (bits BinOp.and IntKind.u16 (b / 2 ^ i) 1 == 1)] 4)).drew := ⟨_, rfl⟩
            have V_8 := Lib.hid (show Hp _ (box 4 wm.heap.size [.bool (bits BinOp.and IntKind.u16 (b / 2 ^ i) 1 == 1)] :: _) w_8 by rw [hw_8]; exact V6d.out.box_new 4 [.bool (bits BinOp.and IntKind.u16 (b / 2 ^ i) 1 == 1)])
            have Bw_8 := Lib.hid (show Below wm.drew.heap.size wm.drew w_8 by rw [hw_8]; exact bnew _ _)
            go_simp
            rw [← hw_8]
            clear hw_8
            refine hK.out _ _ (hHeld.go Bw_8.out) (fun hHeld => ?_)
            clear hK K
            try simp only [Act.put, List.setIfInBounds_toArray, List.set_cons_zero, List.set_cons_succ]
            refine wpAnyH_ready (rs := [1]) (by kernel_rfl) (by simp) ?_
            refine AllReadyH.cons (List.getElem?_toArray.trans rfl) (fun K hK => ?_) AllReadyH.nil
            have yL := (V_8.out.box_at (i := 2) (j := 3) rfl rfl).1
            go_simp
            refine hK.out _ _ (hHeld) (fun hHeld => ?_)
            clear hK K
            try simp only [Act.put, List.setIfInBounds_toArray, List.set_cons_zero, List.set_cons_succ]
            refine wpAnyH_ready (rs := [9]) (by kernel_rfl) (by simp) ?_
            refine AllReadyH.cons (List.getElem?_toArray.trans rfl) (fun K hK => ?_) AllReadyH.nil
            have y0 := (V_8.out.box_at (i := 0) (j := 0) rfl rfl).1
            obtain ⟨g6, cap6, w6, hr6, hv6, _⟩ := run_app_flag V_8.out (i := 4) rfl 27 (bits BinOp.and IntKind.u16 (b / 2 ^ i) 1 == 1) y0 (by omega)
            have V7 := Lib.hid hv6.tail
            refine step_app_run rfl (.tmp 57) (.tmp 64) 27 rfl hr6 rfl rfl ?_
            refine hK.out _ _ (List.forall_mem_cons.2 ⟨⟨(V7.out.box_at (i := 5) (j := 2) rfl rfl).1, (V7.out.box_at (i := 5) (j := 2) rfl rfl).2.2⟩, fun _ h => by simp at h⟩) (fun hHeld => ?_)
            clear hK K
            try simp only [Act.put, List.setIfInBounds_toArray, List.set_cons_zero, List.set_cons_succ]
            refine wpAnyH_take (i := 10) (v := ?_) (List.getElem?_toArray.trans rfl) (by kernel_rfl) (by kernel_rfl) (by kernel_rfl) (fun _ _ _ h => h) (Or.inl ⟨by rfl, ?_⟩) (by assumption) ?_
            rotate_left
            · intro w hSw; clear hSw; go_simp; try (with_reducible rfl)
            try simp only [Act.put, List.setIfInBounds_toArray, List.set_cons_zero, List.set_cons_succ]
            refine wpAnyH_ready (rs := [11]) (by kernel_rfl) (by simp) ?_
            refine AllReadyH.cons (List.getElem?_toArray.trans rfl) (fun K hK => ?_) AllReadyH.nil
            obtain ⟨r0, o0, z0⟩ := V7.out.box_at (i := 1) (j := 3) rfl rfl
            have V8 := Lib.hid (V7.out.box_set (i := 1) rfl 3 (.slice (some ⟨g6, 0, none⟩) (i + 1) cap6))
            go_simp
            refine hK.out _ _ (List.forall_mem_cons.2 ⟨⟨(V8.out.box_at (i := 5) (j := 2) rfl rfl).1, (V8.out.box_at (i := 5) (j := 2) rfl rfl).2.2⟩, fun _ h => by simp at h⟩) (fun hHeld => ?_)
            clear hK K
            try simp only [Act.put, List.setIfInBounds_toArray, List.set_cons_zero, List.set_cons_succ]
            refine wpAnyH_done (by kernel_rfl) ?_ _
            obtain ⟨p1, p2, p3⟩ := V8.out.box_at (i := 1) (j := 1) rfl rfl
            have V9 := Lib.hid (V8.out.box_set (i := 1) rfl 1 (.int .i64 0))
            have VN := Lib.hid (show Hp w ([box 29 wz.heap.size [.int .i64 (k : Int), .int .i64 (stI (i + 1)), .slice (some ⟨g5, 0, none⟩) (i + 1) cap5, .slice (some ⟨g6, 0, none⟩) (i + 1) cap6], rvals (some ⟨g5, 0, none⟩) (i + 1) cap5 (vs ++ [(Ar, cr)]) (rows ++ [row]), flags (some ⟨g6, 0, none⟩) (i + 1) cap6 (fl ++ [bits BinOp.and IntKind.u16 (b / 2 ^ i) 1 == 1]), box 29 (w.heap.size + 1) [.int .i64 0, .int .i64 0, .slice none 0 0, .slice none 0 0], box 25 w.heap.size [.int .u8 l, .slice A n c, .int .u16 b]] ++ rowsG (vs ++ [(Ar, cr)]) (rows ++ [row])) _ from row_doneG (l := [box 29 wz.heap.size [.int .i64 (k : Int), .int .i64 (stI (i + 1)), .slice (some ⟨g5, 0, none⟩) (i + 1) cap5, .slice (some ⟨g6, 0, none⟩) (i + 1) cap6], rvals (some ⟨g5, 0, none⟩) (i + 1) cap5 (vs ++ [(Ar, cr)]) (rows ++ [row]), flags (some ⟨g6, 0, none⟩) (i + 1) cap6 (fl ++ [bits BinOp.and IntKind.u16 (b / 2 ^ i) 1 == 1]), box 29 (w.heap.size + 1) [.int .i64 0, .int .i64 0, .slice none 0 0, .slice none 0 0], box 25 w.heap.size [.int .u8 l, .slice A n c, .int .u16 b]]) HVL.out (by rw [HRL.out]; exact V9.out))
            have HIN2 := Lib.hid (show ∀ r ∈ rows ++ [row], r.length = k ∧ ∀ x ∈ r, -1 ≤ x ∧ x < (N : Int) from fun r hr => by
              rcases List.mem_append.1 hr with h | h
              · exact HIN.out r h
              · rw [List.mem_singleton.1 h]; exact ⟨HRL.out, HRX.out⟩)
            clear V6 V7 V8 V9
            go_wp2_with fail
            go_roundw
            case rel => exact ⟨i + 1, by go_num, by omega, _, _, _, _, _, _, _, by rw [List.length_append, HVS.out]; rfl, by rw [List.length_append, HRS.out]; rfl, HIN2.out, VN.out⟩
            case measure => simp [intOf]; omega
          exact AllReadyH.nil
    · obtain rfl : N = i := by omega
      obtain ⟨r0, _, r90⟩ := V.out.box_at (i := 0) (j := 0) rfl rfl
      obtain ⟨r1, _, r91⟩ := V.out.box_at (i := 0) (j := 1) rfl rfl
      obtain ⟨r2, _, r92⟩ := V.out.box_at (i := 0) (j := 2) rfl rfl
      obtain ⟨r3, _, r93⟩ := V.out.box_at (i := 0) (j := 3) rfl rfl
      obtain ⟨s0, o0, s90⟩ := V.out.box_at (i := 3) (j := 0) rfl rfl
      obtain ⟨s1, o1, s91⟩ := V.out.box_at (i := 3) (j := 1) rfl rfl
      obtain ⟨s2, o2, s92⟩ := V.out.box_at (i := 3) (j := 2) rfl rfl
      obtain ⟨s3, o3, s93⟩ := V.out.box_at (i := 3) (j := 3) rfl rfl
      have VE := Lib.hid ((((V.out.box_set (i := 3) rfl 0 (.int .i64 (k : Int))).box_set (i := 3) rfl 1 (.int .i64 (stI N))).box_set (i := 3) rfl 2 (.slice An N cn)).box_set (i := 3) rfl 3 (.slice Bn N dn))
      obtain ⟨q0, _, _⟩ := VE.out.box_at (i := 3) (j := 0) rfl rfl
      obtain ⟨q1, _, _⟩ := VE.out.box_at (i := 3) (j := 1) rfl rfl
      obtain ⟨q2, _, _⟩ := VE.out.box_at (i := 3) (j := 2) rfl rfl
      obtain ⟨q3, _, _⟩ := VE.out.box_at (i := 3) (j := 3) rfl rfl
      go_wp2_with fail
      refine bodyPost_ret (v := .agg #[.int .i64 (k : Int), .int .i64 (stI N), .slice An N cn, .slice Bn N dn]) (by simp [results, Try.results5, go_sem, q0, q1, q2, q3]) rfl ?_
      have c0 := VE.out.cap (i := 1) (A := An) (c := cn) rfl rfl
      have c1 := VE.out.cap (i := 2) (A := Bn) (c := dn) rfl rfl
      have hfl : fl.length = N := VE.out.flag_len (i := 2) rfl
      refine ⟨⟨An, N, cn, Bn, N, dn⟩, ⟨k, rows, fl, stI N⟩, vs, rfl, ⟨by show vs.length = rows.length; rw [HVS.out, HRS.out], HRS.out, hfl, ?_, by show rows.length ≤ 12; rw [HRS.out]; exact hN12⟩, Hp.pick2 (rest := [_, _]) VE.out⟩
      have hnn : (⟨k, rows, fl, stI N⟩ : Au).n = N := HRS.out
      have hkk : 1 + l.toNat % 4 = k := by have := HK.out; have := HR.out; omega
      rw [hkk]
      refine ⟨⟨rfl, hk0, fun i row hi => ⟨(HIN.out row (List.mem_of_getElem? hi)).1, fun x hx => by rw [hnn]; exact (HIN.out row (List.mem_of_getElem? hi)).2 x hx⟩, by show fl.length = rows.length; rw [hfl, HRS.out], fun h0 => ?_, fun h0 => ?_⟩, by omega, by rw [hnn]; omega⟩
      · rw [hnn] at h0; show stI N = -1; rw [h0]; rfl
      · rw [hnn] at h0 ⊢
        have : stI N = 0 := by unfold stI; rw [if_neg (by omega)]
        show 0 ≤ stI N ∧ stI N < _
        omega
end Go.Proofs.Ytjobhpekclomfab
