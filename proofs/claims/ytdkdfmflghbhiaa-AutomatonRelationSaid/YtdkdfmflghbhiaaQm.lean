/- Contract of the program: the minimal automaton of what was found. -/
import Derived.Test.YtdkdfmflghbhiaaQk
import Derived.Test.YtdkdfmflghbhiaaAMl
namespace Go.Proofs.Ytdkdfmflghbhiaa
open Go.RowKit
set_option linter.unusedVariables false
set_option linter.unusedSimpArgs false
set_option maxRecDepth 100000

theorem PtIn.join {W w w' : World} {g N : Nat} {q : Pt} {tl : List Nat} {l : List Itm} (h : PtIn w g N q tl [] w') (h2 : Hp W l w) : PtIn W g N q tl l w' := by
  obtain ⟨At, nt, ct, Ao, no, co, Ap, cp, Ac, cc, As, ns, cs, Am, nm, cm, hv⟩ := h
  exact ⟨At, nt, ct, Ao, no, co, Ap, cp, Ac, cc, As, ns, cs, Am, nm, cm, h2.join hv⟩
theorem PtIn.go {W w w' : World} {g N : Nat} {q : Pt} {tl : List Nat} {l : List Itm} (h : PtIn W g N q tl l w) (hb : Below w.heap.size w w') : PtIn W g N q tl l w' := by
  obtain ⟨At, nt, ct, Ao, no, co, Ap, cp, Ac, cc, As, ns, cs, Am, nm, cm, hv⟩ := h
  exact ⟨At, nt, ct, Ao, no, co, Ap, cp, Ac, cc, As, ns, cs, Am, nm, cm, hv.go hb⟩
theorem PtIn.below {W w : World} {g N : Nat} {q : Pt} {tl : List Nat} {l : List Itm} (h : PtIn W g N q tl l w) : Below W.heap.size W w := by
  obtain ⟨At, nt, ct, Ao, no, co, Ap, cp, Ac, cc, As, ns, cs, Am, nm, cm, hv⟩ := h
  exact hv.below
theorem row_info : (Try.prog.info? 39).map (fun i => (i.zero, i.size, i.bytes)) = some (some (.slice none 0 0), 1, 24) := by kernel_rfl
/-- The list of the rows. -/
def rlist (A : Option Addr) (n c k : Nat) (gs : List Nat) : Itm := ⟨39, 1, .slice A n c, n, gs.map fun g => .slice (some ⟨g, 0, none⟩) k k⟩
theorem run_app_row {W w : World} {l : List Itm} {i : Nat} {A : Option Addr} {n c k : Nat} {gs : List Nat} (h : Hp W l w) (hi : l[i]? = some (rlist A n c k gs)) (ty : TypeId) {b : Nat} (g : Nat) (hb : w.cell? ⟨b, 0, none⟩ = some (.slice (some ⟨g, 0, none⟩) k k)) (hn : n ≤ 4000000000000) :
    ∃ g2 cap w', (Builtin.append_ #[22, 22] ty #[.slice A n c, .slice (some ⟨b, 0, none⟩) 1 1]).run Try.prog w = .ok (.slice (some ⟨g2, 0, none⟩) (n + 1) cap) w' ∧
      Hp W (l.set i (rlist (some ⟨g2, 0, none⟩) (n + 1) cap k (gs ++ [g]))) w' ∧ w.grownBy w' (Value.slice A n c).ownBlock := by
  have := run_app h hi (t := 22) (ty := ty) Try.underlying22 row_info rfl (Nat.zero_lt_one) (by decide) (A := A) (c := c) rfl (b := b) [.slice (some ⟨g, 0, none⟩) k k] rfl (fun j u hu => by
    cases j with
    | zero => injection hu with hu; subst hu; exact hb
    | succ j => simp at hu) (fun u hu => by rw [List.mem_singleton.1 hu]; rfl) hn
  simpa [rlist] using this
theorem run_app_flag {W w : World} {l : List Itm} {i : Nat} {A : Option Addr} {n c : Nat} {L : List Bool} (h : Hp W l w) (hi : l[i]? = some (flags A n c L)) (ty : TypeId) {b : Nat} (x : Bool) (hb : w.cell? ⟨b, 0, none⟩ = some (.bool x)) (hn : n ≤ 4000000000000) :
    ∃ g cap w', (Builtin.append_ #[23, 23] ty #[.slice A n c, .slice (some ⟨b, 0, none⟩) 1 1]).run Try.prog w = .ok (.slice (some ⟨g, 0, none⟩) (n + 1) cap) w' ∧
      Hp W (l.set i (flags (some ⟨g, 0, none⟩) (n + 1) cap (L ++ [x]))) w' ∧ w.grownBy w' (Value.slice A n c).ownBlock := by
  have := run_app h hi (t := 23) (ty := ty) Try.underlying23 bool_info rfl (Nat.zero_lt_one) (by decide) (A := A) (c := c) rfl (b := b) [.bool x] rfl (fun j u hu => by
    cases j with
    | zero => injection hu with hu; subst hu; exact hb
    | succ j => simp at hu) (fun u hu => by rw [List.mem_singleton.1 hu]; rfl) hn
  simpa [flags, bools] using this
/-- Rows that were made one by one. -/
def rowIts (k : Nat) (gs : List Nat) (rows : List (List Int)) : List Itm := List.zipWith (fun g row => nums (some ⟨g, 0, none⟩) k k row) gs rows
theorem rowIts_snoc (k : Nat) (gs : List Nat) (rows : List (List Int)) (g : Nat) (row : List Int) (h : gs.length = rows.length) : rowIts k (gs ++ [g]) (rows ++ [row]) = rowIts k gs rows ++ [nums (some ⟨g, 0, none⟩) k k row] := by
  unfold rowIts
  rw [List.zipWith_append h]; rfl
theorem rows_in {W w : World} {l : List Itm} {k i n c : Nat} {gs : List Nat} {rows : List (List Int)} {A : Option Addr} (h : Hp W (l ++ rowIts k gs rows) w) (hi : (l ++ rowIts k gs rows)[i]? = some (rlist A n c k gs)) (hl : gs.length = rows.length) (hk : k ≤ 17592186044416) : RowsIn w A rows := by
  intro h0
  have hc := h.cells hi (A := A) (c := c) rfl
  obtain ⟨b, off, e, hlt, hcell⟩ := hc (by show 0 < (gs.map _).length; rw [List.length_map]; omega)
  refine ⟨b, off, e, hlt, fun j row hr => ?_⟩
  have hj := (List.getElem?_eq_some_iff.1 hr).1
  obtain ⟨g, hg⟩ : ∃ g, gs[j]? = some g := ⟨_, List.getElem?_eq_getElem (by omega)⟩
  have hit : (l ++ rowIts k gs rows)[l.length + j]? = some (nums (some ⟨g, 0, none⟩) k k row) := by
    rw [List.getElem?_append_right (by omega), Nat.add_sub_cancel_left]
    unfold rowIts
    rw [List.getElem?_zipWith, hg, hr]
  have hrl := h.num_len hit
  refine ⟨some ⟨g, 0, none⟩, k, ?_, by omega, by omega, h.cells hit rfl⟩
  rw [hrl]
  exact hcell j _ (by show (gs.map _)[j]? = _; rw [List.getElem?_map, hg]; rfl)
theorem row_done {W w : World} {l : List Itm} {k g : Nat} {gs : List Nat} {rows : List (List Int)} {row : List Int} (hl : gs.length = rows.length) (h : Hp W (nums (some ⟨g, 0, none⟩) k k row :: (l ++ rowIts k gs rows)) w) : Hp W (l ++ rowIts k (gs ++ [g]) (rows ++ [row])) w := by
  rw [rowIts_snoc k gs rows g row hl, ← List.append_assoc]
  exact Hp.sink (l := l ++ rowIts k gs rows) (l2 := []) (by rw [List.append_nil]; exact h)
theorem set_fill {L : List Int} {k l : Nat} {v z : Int} (hL : L.length = k) (hl : L[l]? = some v) : (L.take l ++ List.replicate (k - l) z).set l v = L.take (l + 1) ++ List.replicate (k - (l + 1)) z := by
  have hlt := (List.getElem?_eq_some_iff.1 hl).1
  have hlen : (L.take l).length = l := by rw [List.length_take]; omega
  rw [List.set_append_right _ _ (by omega), hlen, Nat.sub_self, show k - l = (k - (l + 1)) + 1 by omega, List.replicate_succ, List.set_cons_zero, List.take_add_one, hl, List.append_assoc]
  rfl
theorem keep_flag {W w : World} {b o N i : Nat} {ac : List Bool} {av : Bool} (h : CellsIn W (some ⟨b, o, none⟩) (bools ac)) (hb : Below W.heap.size W w) (hl : ac.length = N) (hi : i < N) (ha : av = ac.getD i false) : w.cell? ⟨b, o + i, none⟩ = some (.bool av) ∧ b < w.heap.size := by
  obtain ⟨b', o', e, h1, h2⟩ := (h.below hb).bool (j := i) (by omega)
  injection e with e; injection e with e1 e2
  subst e1; subst e2
  rw [ha]; exact ⟨h2, h1⟩
theorem Hp.pick2 {W w : World} {x0 x1 x2 : Itm} {rest R : List Itm} (h : Hp W (x0 :: x1 :: x2 :: (rest ++ R)) w) : Hp W (x1 :: x2 :: R) w := by
  refine h.sub (fun i => if i = 0 then 1 else if i = 1 then 2 else i + 1 + rest.length) (fun i j e => ?_) (fun i it hi => ?_)
  · split at e <;> split at e <;> (try split at e) <;> (try split at e) <;> omega
  · match i, hi with
    | 0, hi => exact hi
    | 1, hi => exact hi
    | i + 2, hi =>
      have e : (if i + 2 = 0 then 1 else if i + 2 = 1 then 2 else i + 2 + 1 + rest.length) = (i + rest.length) + 3 := by
        rw [if_neg (by omega), if_neg (by omega)]; omega
      show (x0 :: x1 :: x2 :: (rest ++ R))[if i + 2 = 0 then 1 else if i + 2 = 1 then 2 else i + 2 + 1 + rest.length]? = some it
      rw [e]
      show (rest ++ R)[i + rest.length]? = some it
      rw [List.getElem?_append_right (by omega), Nat.add_sub_cancel]
      exact hi
/-- An automaton that a call has made since W: its rows and its marks, each in a block of its own. -/
def OwnDfa (W w : World) (x : DV) (R : Au) : Prop :=
  ∃ (k : Nat) (gs : List Nat), gs.length = R.nx.length ∧ k ≤ 8 ∧ x.n ≤ 1000 ∧ Hp W (rlist x.A x.n x.c k gs :: flags x.B x.m x.d R.ac :: rowIts k gs R.nx) w
theorem OwnDfa.dfa {W w : World} {x : DV} {R : Au} (h : OwnDfa W w x R) (hm : x.m = x.n) : DfaIn w x R := by
  obtain ⟨k, gs, hl, hk, hn, hp⟩ := h
  have h0 := (hp.own 0 _ rfl).1
  have h0 : (gs.map fun g => Value.slice (some ⟨g, 0, none⟩) k k).length = x.n * 1 := h0
  rw [List.length_map] at h0
  have h1 := hp.flag_len (i := 1) rfl
  have c0 := hp.cap (i := 0) (A := x.A) (c := x.c) rfl rfl
  have c1 := hp.cap (i := 1) (A := x.B) (c := x.d) rfl rfl
  have c0' : x.n ≤ x.c := c0.1
  have c1' : x.m ≤ x.d := c1.1
  exact ⟨by omega, h1, c0', c1', by omega, by omega, rows_in (l := [rlist x.A x.n x.c k gs, flags x.B x.m x.d R.ac]) (i := 0) hp rfl hl (by omega), hp.cells (i := 1) rfl rfl⟩
/-- What minimal returns. -/
def MinPost (k : Nat) (P : List Nat → Bool) (W : World) (e : Ending) (w' : World) : Prop :=
  Below W.heap.size W w' ∧ ∃ R, Canon k P R ∧ ((R.n ≤ 400 ∧ ∃ x : DV, e = .returned (.tuple #[.agg #[.int .i64 R.lt, .int .i64 R.st, .slice x.A x.n x.c, .slice x.B x.m x.d], .int .i64 0]) ∧ x.m = x.n ∧ OwnDfa W w' x R) ∨
    (400 < R.n ∧ e = .returned (.tuple #[.agg #[.int .i64 0, .int .i64 0, .slice none 0 0, .slice none 0 0], .int .i64 3])))
set_option maxHeartbeats 32000000 in
theorem minimal_any (k N : Nat) (Ap : Option Addr) (np cp : Nat) (An : Option Addr) (nn cn : Nat) (Af : Option Addr) (nf cf : Nat) (nx : List Int) (A0 : Option Addr) (c0 : Nat) (ac : List Bool) (W : World) (hx : NxOk N k nx) (hk0 : 0 < k) (hk8 : k ≤ 8) (hN : N ≤ 1010000) (hnn : nx.length = nn) (hcn : nn ≤ cn) (hI : CellsIn W An (ints nx)) (hac : ac.length = N) (hA : CellsIn W A0 (bools ac))
    (hb : 0 < N → ∃ pa, Bfs (gq (nxF nx k)) (fun q => q = -1) k (0 : Int) ((List.range N).map Int.ofNat) pa (N * k)) :
    Calls Try.prog 41 #[.agg #[.int .i64 (k : Int), .slice Ap np cp, .slice An nn cn, .slice Af nf cf], .slice A0 N c0] W (MinPost k (fun u => aq (acF ac) (u.foldl (gq (nxF nx k)) 0)) W) := by
  have HX := Lib.hid hx
  have HNN := Lib.hid hnn
  have HI := Lib.hid hI
  have HAC := Lib.hid hac
  have HA := Lib.hid hA
  have HB := Lib.hid hb
  obtain ⟨w0, hw0⟩ : ∃ z, z = (W.alloc (.cells #[.int .i64 (k : Int), .slice Ap np cp, .slice An nn cn, .slice Af nf cf] 52)).alloc (.cells #[.int .i64 0, .int .i64 0, .slice none 0 0, .slice none 0 0] 25) := ⟨_, rfl⟩
  have V := Lib.hid (show Hp W [box 25 (W.heap.size + 1) [.int .i64 0, .int .i64 0, .slice none 0 0, .slice none 0 0], box 52 W.heap.size [.int .i64 (k : Int), .slice Ap np cp, .slice An nn cn, .slice Af nf cf]] w0 by
    have := ((Hp.start W).box_new 52 [.int .i64 (k : Int), .slice Ap np cp, .slice An nn cn, .slice Af nf cf]).box_new 25 [.int .i64 0, .int .i64 0, .slice none 0 0, .slice none 0 0]
    rw [hw0]; simpa using this)
  have HZ := Lib.hid hw0
  clear hw0 hx hnn hI hac hA hb
  go_enter Try.func41, Try.ntmps41
  go_upto_region 1 with fail
  rw [← HZ.out]
  clear HZ
  obtain ⟨r0, _, r9⟩ := V.out.box_at (i := 1) (j := 0) rfl rfl
  obtain ⟨r1, _, _⟩ := V.out.box_at (i := 1) (j := 1) rfl rfl
  obtain ⟨r2, _, _⟩ := V.out.box_at (i := 1) (j := 2) rfl rfl
  obtain ⟨r3, _, _⟩ := V.out.box_at (i := 1) (j := 3) rfl rfl
  go_wp2_with fail
  refine (sources_any k N Ap np cp An nn cn Af nf cf nx w0 HX.out hk0 hk8 hN HNN.out (HI.out.below V.out.below)).mono ?_
  rintro e w1 ⟨I, n, c, J, m, d, first, from', rfl, hS1, b1⟩
  have V1 := Lib.hid (V.out.go b1)
  obtain ⟨w2, hw2⟩ : ∃ z, z = w1.alloc (.cells #[.int .i64 (k : Int), .slice I n c, .slice J m d] 90) := ⟨_, rfl⟩
  have V2 := Lib.hid (show Hp W (box 90 w1.heap.size [.int .i64 (k : Int), .slice I n c, .slice J m d] :: [box 25 (W.heap.size + 1) [.int .i64 0, .int .i64 0, .slice none 0 0, .slice none 0 0], box 52 W.heap.size [.int .i64 (k : Int), .slice Ap np cp, .slice An nn cn, .slice Af nf cf]]) w2 by rw [hw2]; exact V1.out.box_new 90 [.int .i64 (k : Int), .slice I n c, .slice J m d])
  have HS2 := Lib.hid (show SrcIn w2 nx k N I n c J m d first from' by rw [hw2]; exact hS1.below (bnew _ _))
  obtain ⟨gs0, hgs0⟩ : ∃ z, z = w1.heap.size := ⟨_, rfl⟩
  rw [← hgs0] at V2
  have HW2 := Lib.hid hw2
  have HG := Lib.hid hgs0
  clear hw2 hS1 b1 V V1 r0 r1 r2 r3 r9 hgs0
  go_upto_region 2 with fail
  rw [← HW2.out, ← HG.out]
  clear HW2 HG
  obtain ⟨s0, _, s9⟩ := V2.out.box_at (i := 0) (j := 0) rfl rfl
  obtain ⟨s1, _, _⟩ := V2.out.box_at (i := 0) (j := 1) rfl rfl
  obtain ⟨s2, _, _⟩ := V2.out.box_at (i := 0) (j := 2) rfl rfl
  go_wp2_with fail
  refine (live_any nx k N I n c J m d first from' A0 c0 ac w2 HS2.out HAC.out (HA.out.below V2.out.below)).mono ?_
  rintro e w3 ⟨C, dC, lv, rfl, hv3, sys⟩
  have V3 := Lib.hid (V2.out.join hv3)
  have SYS := Lib.hid sys
  have HLL := Lib.hid (hv3.flag_len (i := 0) rfl)
  have HLC := Lib.hid (hv3.cells (i := 0) (A := C) (c := dC) rfl rfl)
  have HS3 := Lib.hid (HS2.out.below hv3.below)
  clear hv3 sys V2 HS2 s0 s1 s2 s9
  go_wp2_with fail
  refine (newPartition_any k N nx ac lv A0 c0 C dC w3 hN SYS.out HAC.out HLL.out (HA.out.below V3.out.below) HLC.out).mono ?_
  rintro e w4 ⟨g, q, rfl, hok, hhop, hp4⟩
  have HP4 := Lib.hid hp4
  have HOK := Lib.hid hok
  have HHOP := Lib.hid hhop
  have V4 := Lib.hid (V3.out.go hp4.below)
  clear hok hhop hp4
  obtain ⟨s0, _, s9⟩ := V4.out.box_at (i := 1) (j := 0) rfl rfl
  obtain ⟨s1, _, _⟩ := V4.out.box_at (i := 1) (j := 1) rfl rfl
  obtain ⟨s2, _, _⟩ := V4.out.box_at (i := 1) (j := 2) rfl rfl
  go_wp2_with fail
  refine (refine_any g N k nx ac lv q I n c J m d first from' w3 w4 [] HS3.out SYS.out HOK.out HHOP.out HP4.out).mono ?_
  rintro e w5 ⟨rfl, p, hok, hhop, hp5⟩
  have HOK := Lib.hid hok
  have HCAN := Lib.hid (canon_mk SYS.out hok hhop HX.out HAC.out HB.out)
  have HCNT := Lib.hid (firsts_count hok)
  obtain ⟨At, nt, ct, Ao, no, co, Aq, cq, Ac, cc, As, ns, cs, Am, nm, cm, hv5⟩ := hp5.join V3.out
  have hns := hv5.pair_len (i := 4) rfl
  rw [pS_len] at hns
  have V5 := Lib.hid (hv5.pick [0, 3, 9, 10] (by decide) (l' := [box 97 g [.slice Ao no co, .slice Aq N cq, .slice Ac N cc, .slice As ns cs, .slice Am nm cm, .slice At nt ct], nums Ac N cc p.cls, box 25 (W.heap.size + 1) [.int .i64 0, .int .i64 0, .slice none 0 0, .slice none 0 0], box 52 W.heap.size [.int .i64 (k : Int), .slice Ap np cp, .slice An nn cn, .slice Af nf cf]]) rfl)
  have HNS := Lib.hid hns
  have hnsb : ns ≤ 1010000 := by have := hok.few; omega
  clear hok hhop hp5 hv5 hns V3 V4 HP4 HHOP HS3 HLC HLL HB s0 s1 s2 s9
  obtain ⟨b3, _, b9⟩ := V5.out.box_at (i := 0) (j := 3) rfl rfl
  by_cases hbig : 400 < ns
  · have hbig2 : (400 : Int) < (ns : Int) := by omega
    obtain ⟨q0, o0, q9⟩ := V5.out.box_at (i := 2) (j := 0) rfl rfl
    obtain ⟨q1, o1, _⟩ := V5.out.box_at (i := 2) (j := 1) rfl rfl
    obtain ⟨q2, o2, _⟩ := V5.out.box_at (i := 2) (j := 2) rfl rfl
    obtain ⟨q3, o3, _⟩ := V5.out.box_at (i := 2) (j := 3) rfl rfl
    have VE := Lib.hid ((((V5.out.box_set (i := 2) rfl 0 (.int .i64 0)).box_set (i := 2) rfl 1 (.int .i64 0)).box_set (i := 2) rfl 2 (.slice none 0 0)).box_set (i := 2) rfl 3 (.slice none 0 0))
    obtain ⟨u0, _, _⟩ := VE.out.box_at (i := 2) (j := 0) rfl rfl
    obtain ⟨u1, _, _⟩ := VE.out.box_at (i := 2) (j := 1) rfl rfl
    obtain ⟨u2, _, _⟩ := VE.out.box_at (i := 2) (j := 2) rfl rfl
    obtain ⟨u3, _, _⟩ := VE.out.box_at (i := 2) (j := 3) rfl rfl
    have HE := Lib.hid (show MinPost k (fun u => aq (acF ac) (u.foldl (gq (nxF nx k)) 0)) W (.returned (.tuple #[.agg #[.int .i64 0, .int .i64 0, .slice none 0 0, .slice none 0 0], .int .i64 3])) _ from ⟨VE.out.below, _, HCAN.out, .inr ⟨by show 400 < ((firsts p.cls N).map _).length; rw [List.length_map, HCNT.out, HNS.out]; exact hbig, rfl⟩⟩)
    clear V5 VE
    go_wp2_with fail
    exact bodyPost_ret (v := .tuple #[.agg #[.int .i64 0, .int .i64 0, .slice none 0 0, .slice none 0 0], .int .i64 3]) (by simp [results, Try.results41, go_sem, u0, u1, u2, u3]) rfl HE.out
  · have hbig2 : ¬ (400 : Int) < (ns : Int) := by omega
    have hns4 : ns ≤ 400 := by omega
    obtain ⟨r0, _, r9⟩ := V5.out.box_at (i := 3) (j := 0) rfl rfl
    go_upto_region 6 with fail
    clear b3 b9
    obtain ⟨w6, hw6⟩ : ∃ z, z = w5.alloc (.cells #[.int .i64 (k : Int), .int .i64 (-1), .slice none 0 0, .slice none 0 0] 25) := ⟨_, rfl⟩
    have V6 := Lib.hid (show Hp W (box 25 w5.heap.size [.int .i64 (k : Int), .int .i64 (-1), .slice none 0 0, .slice none 0 0] :: [box 97 g [.slice Ao no co, .slice Aq N cq, .slice Ac N cc, .slice As ns cs, .slice Am nm cm, .slice At nt ct], nums Ac N cc p.cls, box 25 (W.heap.size + 1) [.int .i64 0, .int .i64 0, .slice none 0 0, .slice none 0 0], box 52 W.heap.size [.int .i64 (k : Int), .slice Ap np cp, .slice An nn cn, .slice Af nf cf]]) w6 by rw [hw6]; exact V5.out.box_new 25 [.int .i64 (k : Int), .int .i64 (-1), .slice none 0 0, .slice none 0 0])
    obtain ⟨gm, hgm⟩ : ∃ z, z = w5.heap.size := ⟨_, rfl⟩
    rw [← hgm] at V6
    have HW6 := Lib.hid hw6
    have HGM := Lib.hid hgm
    clear hw6 hgm V5
    go_upto_region 7 with fail
    rw [← HW6.out, ← HGM.out]
    clear HW6 HGM r0 r9
    obtain ⟨stv, hstv⟩ : ∃ x : Int, x = if ns = 0 then -1 else 0 := ⟨_, rfl⟩
    have HST := Lib.hid hstv
    obtain ⟨b3, _, b9⟩ := V6.out.box_at (i := 1) (j := 3) rfl rfl
    go_upto_if 43 with fail
    clear b3 b9 hstv
    go_cut [] (fun wx => Hp W (box 25 gm [.int .i64 (k : Int), .int .i64 stv, .slice none 0 0, .slice none 0 0] :: [box 97 g [.slice Ao no co, .slice Aq N cq, .slice Ac N cc, .slice As ns cs, .slice Am nm cm, .slice At nt ct], nums Ac N cc p.cls, box 25 (W.heap.size + 1) [.int .i64 0, .int .i64 0, .slice none 0 0, .slice none 0 0], box 52 W.heap.size [.int .i64 (k : Int), .slice Ap np cp, .slice An nn cn, .slice Af nf cf]]) wx)
    case first =>
      by_cases hz : ns = 0
      · have hst : stv = -1 := by rw [HST.out, if_pos hz]
        subst hst
        have hz2 : ¬ (0 : Int) < (ns : Int) := by omega
        have hz3 : ¬ 0 < ns := by omega
        go_wp2_with fail
        go_meet
        exact V6.out
      · have hst : stv = 0 := by rw [HST.out, if_neg hz]
        subst hst
        have hz2 : (0 : Int) < (ns : Int) := by omega
        have hz3 : 0 < ns := by omega
        obtain ⟨q1, o1, q9⟩ := V6.out.box_at (i := 0) (j := 1) rfl rfl
        have VE := Lib.hid (V6.out.box_set (i := 0) rfl 1 (.int .i64 0))
        clear V6
        go_wp2_with fail
        go_meet
        exact VE.out
    case rest =>
      obtain ⟨w7, rfl⟩ : ∃ z : World, z = wc := ⟨_, rfl⟩
      have V7 := Lib.hid hcut
      clear hcut V6
      have hmk := make_nums (ns : Int) ns rfl (by omega)
      obtain ⟨b3, _, b9⟩ := V7.out.box_at (i := 1) (j := 3) rfl rfl
      obtain ⟨w8, hw8⟩ : ∃ z, z = w7.alloc (.cells (Array.replicate ns (.int .i64 0)) 3) := ⟨_, rfl⟩
      have V8 := Lib.hid (show Hp W (nums (some ⟨w7.heap.size, 0, none⟩) ns ns (List.replicate ns 0) :: box 25 gm [.int .i64 (k : Int), .int .i64 stv, .slice none 0 0, .slice none 0 0] :: [box 97 g [.slice Ao no co, .slice Aq N cq, .slice Ac N cc, .slice As ns cs, .slice Am nm cm, .slice At nt ct], nums Ac N cc p.cls, box 25 (W.heap.size + 1) [.int .i64 0, .int .i64 0, .slice none 0 0, .slice none 0 0], box 52 W.heap.size [.int .i64 (k : Int), .slice Ap np cp, .slice An nn cn, .slice Af nf cf]]) w8 by rw [hw8]; exact V7.out.made_numsA ns (by omega))
      obtain ⟨gn, hgn⟩ : ∃ z, z = w7.heap.size := ⟨_, rfl⟩
      rw [← hgn] at V8
      have HW8 := Lib.hid hw8
      have HGN := Lib.hid hgn
      clear hw8 hgn V7
      go_upto_region 10 with fail
      rw [← HW8.out, ← HGN.out]
      clear HW8 HGN b3 b9 hmk
      obtain ⟨b2, _, b9⟩ := V8.out.box_at (i := 2) (j := 2) rfl rfl
      have H1 := Lib.hid (show ∃ num, NumI p.cls 0 ns num ∧ Hp W (nums none 0 0 (pN (firsts p.cls 0)) :: nums (some ⟨gn, 0, none⟩) ns ns num :: box 25 gm [.int .i64 (k : Int), .int .i64 stv, .slice none 0 0, .slice none 0 0] :: [box 97 g [.slice Ao no co, .slice Aq N cq, .slice Ac N cc, .slice As ns cs, .slice Am nm cm, .slice At nt ct], nums Ac N cc p.cls, box 25 (W.heap.size + 1) [.int .i64 0, .int .i64 0, .slice none 0 0, .slice none 0 0], box 52 W.heap.size [.int .i64 (k : Int), .slice Ap np cp, .slice An nn cn, .slice Af nf cf]]) w8 from ⟨_, NumI.start _ _, V8.out.nil_row _ rfl rfl rfl⟩)
      clear V8
      go_wp2_with fail
      clear b2 b9
      go_loopw [10, 56] (fun ov cv wr => ∃ i : Nat, cv = .int .i64 (i : Int) ∧ i ≤ N ∧ ∃ A1 n1 c1, ov = .slice A1 n1 c1 ∧ ∃ num, NumI p.cls i ns num ∧ Hp W (nums A1 n1 c1 (pN (firsts p.cls i)) :: nums (some ⟨gn, 0, none⟩) ns ns num :: box 25 gm [.int .i64 (k : Int), .int .i64 stv, .slice none 0 0, .slice none 0 0] :: [box 97 g [.slice Ao no co, .slice Aq N cq, .slice Ac N cc, .slice As ns cs, .slice Am nm cm, .slice At nt ct], nums Ac N cc p.cls, box 25 (W.heap.size + 1) [.int .i64 0, .int .i64 0, .slice none 0 0, .slice none 0 0], box 52 W.heap.size [.int .i64 (k : Int), .slice Ap np cp, .slice An nn cn, .slice Af nf cf]]) wr) (fun _ cv _ => N - (intOf cv).toNat)
      case atStart => exact ⟨0, rfl, Nat.zero_le _, _, _, _, rfl, H1.out⟩
      case round =>
        clear H1
        obtain ⟨i, rfl, hiN, A1, n1, c1, rfl, num, hnum, hV⟩ := hrel
        obtain ⟨wi, rfl⟩ : ∃ wi : World, wi = wr := ⟨_, rfl⟩
        have V := Lib.hid hV
        have HNUM := Lib.hid hnum
        have h1 := V.out.num_len (i := 0) rfl
        rw [pN_len] at h1
        have HL1 := Lib.hid h1
        clear hV hnum h1
        by_cases hlt : i < N
        · obtain ⟨gc, rfl⟩ := V.out.head (i := 4) (A := Ac) (c := cc) rfl rfl (show 0 < N by omega)
          obtain ⟨C, hC⟩ : ∃ C, C = p.cls.getD i (-1) := ⟨_, rfl⟩
          have hCs : p.cls[i]? = some C := by rw [hC, getD_at (by rw [HOK.out.lc]; exact hlt)]; exact List.getElem?_eq_getElem _
          obtain ⟨x0, _, x9⟩ := V.out.num_get (i := 4) rfl hCs
          have HC := Lib.hid hC
          clear hC hCs
          by_cases hne : C = -1
          · have e1 : (C != -1) = false := bne_no hne
            have HR := Lib.hid (show ∃ num, NumI p.cls (i + 1) ns num ∧ Hp W (nums A1 n1 c1 (pN (firsts p.cls (i + 1))) :: nums (some ⟨gn, 0, none⟩) ns ns num :: box 25 gm [.int .i64 (k : Int), .int .i64 stv, .slice none 0 0, .slice none 0 0] :: [box 97 g [.slice Ao no co, .slice Aq N cq, .slice (some ⟨gc, 0, none⟩) N cc, .slice As ns cs, .slice Am nm cm, .slice At nt ct], nums (some ⟨gc, 0, none⟩) N cc p.cls, box 25 (W.heap.size + 1) [.int .i64 0, .int .i64 0, .slice none 0 0, .slice none 0 0], box 52 W.heap.size [.int .i64 (k : Int), .slice Ap np cp, .slice An nn cn, .slice Af nf cf]]) wi from ⟨num, HNUM.out.same (firsts_dead (by rw [← HC.out]; exact hne)), by rw [firsts_dead (by rw [← HC.out]; exact hne)]; exact V.out⟩)
            clear V HNUM HL1 hne
            go_wp2_with fail
            go_roundw
            case rel => exact ⟨i + 1, by go_num, by omega, _, _, _, rfl, HR.out⟩
            case measure => simp [intOf]; omega
          · have e1 : (C != -1) = true := bne_yes hne
            obtain ⟨C0, hC0, hlt0⟩ : ∃ C0 : Nat, C = (C0 : Int) ∧ C0 < ns := by
              cases hl : acF lv i with
              | true =>
                obtain ⟨c, h1, h2⟩ := HOK.out.cl_live hlt hl
                exact ⟨c, by rw [HC.out]; exact h1, by rw [← HNS.out]; exact h2⟩
              | false => exact absurd (HC.out.trans (HOK.out.cl_dead hlt hl)) hne
            subst hC0
            have hnl := HNUM.out.len
            obtain ⟨x1, x2, x3⟩ := V.out.num_at (i := 1) rfl (j := C0) (by rw [hnl]; exact hlt0)
            obtain ⟨u, hu⟩ : ∃ u, u = num.getD C0 0 := ⟨_, rfl⟩
            rw [← hu] at x1
            have hat := HNUM.out.at' C0 hlt0
            rw [← hu] at hat
            have hlt2 : (C0 : Int) < (ns : Int) := by omega
            by_cases hm : (C0 : Int) ∈ clsL p.cls i
            · rw [if_pos hm] at hat
              have e2 : (u == 0) = false := beq_no (by omega)
              have hold : firsts p.cls (i + 1) = firsts p.cls i := firsts_old (by rw [← HC.out]; exact hm)
              have HR := Lib.hid (show ∃ num, NumI p.cls (i + 1) ns num ∧ Hp W (nums A1 n1 c1 (pN (firsts p.cls (i + 1))) :: nums (some ⟨gn, 0, none⟩) ns ns num :: box 25 gm [.int .i64 (k : Int), .int .i64 stv, .slice none 0 0, .slice none 0 0] :: [box 97 g [.slice Ao no co, .slice Aq N cq, .slice (some ⟨gc, 0, none⟩) N cc, .slice As ns cs, .slice Am nm cm, .slice At nt ct], nums (some ⟨gc, 0, none⟩) N cc p.cls, box 25 (W.heap.size + 1) [.int .i64 0, .int .i64 0, .slice none 0 0, .slice none 0 0], box 52 W.heap.size [.int .i64 (k : Int), .slice Ap np cp, .slice An nn cn, .slice Af nf cf]]) wi from ⟨num, HNUM.out.same hold, by rw [hold]; exact V.out⟩)
              clear V HNUM HL1 hne hat hu hm hold hnl
              go_wp2_with fail
              go_roundw
              case rel => exact ⟨i + 1, by go_num, by omega, _, _, _, rfl, HR.out⟩
              case measure => simp [intOf]; omega
            · rw [if_neg hm] at hat
              have e2 : (u == 0) = true := beq_yes hat
              have hnew : firsts p.cls (i + 1) = firsts p.cls i ++ [i] := firsts_new (by rw [← HC.out]; exact hm) (by rw [← HC.out]; exact hne)
              have HN2 := Lib.hid (HNUM.out.new HC.out.symm hlt0 (by rw [← HC.out]; exact hm))
              have hn1b : n1 ≤ 1010000 := by
                have h5 := few_below N (firsts p.cls i) (nodup_of fun a b x ha hb => firsts_inj ha hb) (fun x hx => by have := (firsts_mem hx).1; omega)
                have h6 := HL1.out
                omega
              obtain ⟨wy, hwy⟩ : ∃ z, z = wi.alloc (.cells #[.int .i64 (i : Int)] 3) := ⟨_, rfl⟩
              have V3 := Lib.hid (show Hp W (box 3 wi.heap.size [.int .i64 (i : Int)] :: nums A1 n1 c1 (pN (firsts p.cls i)) :: nums (some ⟨gn, 0, none⟩) ns ns num :: box 25 gm [.int .i64 (k : Int), .int .i64 stv, .slice none 0 0, .slice none 0 0] :: [box 97 g [.slice Ao no co, .slice Aq N cq, .slice (some ⟨gc, 0, none⟩) N cc, .slice As ns cs, .slice Am nm cm, .slice At nt ct], nums (some ⟨gc, 0, none⟩) N cc p.cls, box 25 (W.heap.size + 1) [.int .i64 0, .int .i64 0, .slice none 0 0, .slice none 0 0], box 52 W.heap.size [.int .i64 (k : Int), .slice Ap np cp, .slice An nn cn, .slice Af nf cf]]) wy by rw [hwy]; exact V.out.box_new 3 [.int .i64 (i : Int)])
              have y0 := (V3.out.box_at (i := 0) (j := 0) rfl rfl).1
              obtain ⟨g5, cap5, w5b, hr5, hv5, hg5⟩ := run_app_num V3.out (i := 1) rfl 39 (i : Int) y0 (by omega)
              have V4 := Lib.hid hv5.tail
              have HY := Lib.hid hwy
              have HR5 := Lib.hid hr5
              obtain ⟨z1, z2, z3⟩ := V4.out.num_at (i := 1) rfl (j := C0) (by rw [hnl]; exact hlt0)
              have HR := Lib.hid (show ∃ num, NumI p.cls (i + 1) ns num ∧ Hp W (nums (some ⟨g5, 0, none⟩) (n1 + 1) cap5 (pN (firsts p.cls (i + 1))) :: nums (some ⟨gn, 0, none⟩) ns ns num :: box 25 gm [.int .i64 (k : Int), .int .i64 stv, .slice none 0 0, .slice none 0 0] :: [box 97 g [.slice Ao no co, .slice Aq N cq, .slice (some ⟨gc, 0, none⟩) N cc, .slice As ns cs, .slice Am nm cm, .slice At nt ct], nums (some ⟨gc, 0, none⟩) N cc p.cls, box 25 (W.heap.size + 1) [.int .i64 0, .int .i64 0, .slice none 0 0, .slice none 0 0], box 52 W.heap.size [.int .i64 (k : Int), .slice Ap np cp, .slice An nn cn, .slice Af nf cf]]) _ from ⟨_, HN2.out, by
                have := V4.out.num_set (i := 1) rfl C0 ((n1 : Int) + 1)
                rw [hnew, pN_app, HL1.out]
                exact this⟩)
              clear hwy y0 hv5 hg5 hr5 V V3 V4 HNUM hne hat hu hm hnew hnl
              go_wp2_with (at_builtin; rw [← HY.out]; refine wpList_app_run rfl (.tmp 70) (.tmp 72) 39 rfl HR5.out rfl rfl ?_)
              go_roundw
              case rel => exact ⟨i + 1, by go_num, by omega, _, _, _, rfl, HR.out⟩
              case measure => simp [intOf]; omega
        · obtain rfl : N = i := by omega
          obtain ⟨F, hF⟩ : ∃ F, F = firsts p.cls N := ⟨_, rfl⟩
          obtain ⟨G, hG⟩ : ∃ G : Nat → List Int, G = mkRow k nx p.cls N := ⟨_, rfl⟩
          have hFl : F.length = ns := by rw [hF, HCNT.out, HNS.out]
          have hn1 : n1 = ns := by rw [← hFl, hF]; exact HL1.out.symm
          subst hn1
          have HF := Lib.hid hF
          have HGD := Lib.hid hG
          have HFL := Lib.hid hFl
          have HFN := Lib.hid (show ∀ (j x : Nat), F[j]? = some x → x < N from fun j x hj => (firsts_mem (by rw [← hF]; exact List.mem_of_getElem? hj)).1)
          have H2 := Lib.hid (show ∃ gs An2 cn2 Bn dn, gs.length = 0 ∧ Hp W ([box 25 gm [.int .i64 (k : Int), .int .i64 stv, .slice An2 0 cn2, .slice Bn 0 dn], rlist An2 0 cn2 k gs, flags Bn 0 dn ((F.take 0).map (acF ac)), nums A1 n1 c1 (pN F), nums (some ⟨gn, 0, none⟩) n1 n1 num, box 97 g [.slice Ao no co, .slice Aq N cq, .slice Ac N cc, .slice As n1 cs, .slice Am nm cm, .slice At nt ct], nums Ac N cc p.cls, box 25 (W.heap.size + 1) [.int .i64 0, .int .i64 0, .slice none 0 0, .slice none 0 0], box 52 W.heap.size [.int .i64 (k : Int), .slice Ap np cp, .slice An nn cn, .slice Af nf cf]] ++ rowIts k gs ((F.take 0).map G)) wi from ⟨[], none, 0, none, 0, rfl, by
            have h1 := (V.out.nil_row (flags none 0 0 []) rfl rfl rfl).nil_row (rlist none 0 0 k []) rfl rfl rfl
            rw [← hF] at h1
            exact h1.pick [4, 0, 1, 2, 3, 5, 6, 7, 8] (by decide) rfl⟩)
          clear V HL1 hF hG hFl hlt hiN
          go_wp2_with fail
          go_loopw [82] (fun cv wr => ∃ j : Nat, cv = .int .i64 (j : Int) ∧ j ≤ n1 ∧ ∃ gs An2 cn2 Bn dn, gs.length = j ∧ Hp W ([box 25 gm [.int .i64 (k : Int), .int .i64 stv, .slice An2 j cn2, .slice Bn j dn], rlist An2 j cn2 k gs, flags Bn j dn ((F.take j).map (acF ac)), nums A1 n1 c1 (pN F), nums (some ⟨gn, 0, none⟩) n1 n1 num, box 97 g [.slice Ao no co, .slice Aq N cq, .slice Ac N cc, .slice As n1 cs, .slice Am nm cm, .slice At nt ct], nums Ac N cc p.cls, box 25 (W.heap.size + 1) [.int .i64 0, .int .i64 0, .slice none 0 0, .slice none 0 0], box 52 W.heap.size [.int .i64 (k : Int), .slice Ap np cp, .slice An nn cn, .slice Af nf cf]] ++ rowIts k gs ((F.take j).map G)) wr) (fun cv _ => n1 - (intOf cv).toNat)
          case atStart => exact ⟨0, rfl, Nat.zero_le _, H2.out⟩
          case round =>
            clear H2
            obtain ⟨j, rfl, hjn, gs, An2, cn2, Bn, dn, hgs, hV⟩ := hrel
            obtain ⟨wj, rfl⟩ : ∃ wj : World, wj = wr := ⟨_, rfl⟩
            have V := Lib.hid hV
            have HGS := Lib.hid hgs
            clear hV hgs
            by_cases hlt : j < n1
            · obtain ⟨i0, hi0⟩ : ∃ i0, F[j]? = some i0 := ⟨_, List.getElem?_eq_getElem (by rw [HFL.out]; exact hlt)⟩
              have hi0N := HFN.out j i0 hi0
              obtain ⟨ga, rfl⟩ := V.out.head (i := 3) (A := A1) (c := c1) rfl rfl (show 0 < n1 by omega)
              obtain ⟨xm, _, xm9⟩ := V.out.num_get (i := 3) rfl (pN_at hi0)
              have HI0 := Lib.hid hi0
              obtain ⟨r0, _, r9⟩ := V.out.box_at (i := 8) (j := 0) rfl rfl
              obtain ⟨ik, hik⟩ : ∃ x, x = i0 * k := ⟨_, rfl⟩
              obtain ⟨ik2, hik2⟩ : ∃ x, x = (i0 + 1) * k := ⟨_, rfl⟩
              have hkk : ik2 = ik + k := by rw [hik, hik2, Nat.add_mul, Nat.one_mul]
              have hle : ik2 ≤ nn := by rw [hik2, ← HNN.out, HX.out.1]; exact Nat.mul_le_mul_right k hi0N
              have hnnb : nn ≤ 8080000 := by
                have := Nat.mul_le_mul hN hk8
                rw [← HNN.out, HX.out.1]; omega
              have HIK := Lib.hid hik
              have hm1 : IntKind.i64.wrap ((i0 : Int) * (k : Int)) = (ik : Int) := by rw [show (i0 : Int) * (k : Int) = (ik : Int) by rw [hik]; simp]; exact IntWalk.i64_in _ (by omega)
              have hm2 : IntKind.i64.wrap (((i0 : Int) + 1) * (k : Int)) = (ik2 : Int) := by rw [show ((i0 : Int) + 1) * (k : Int) = (ik2 : Int) by rw [hik2]; simp]; exact IntWalk.i64_in _ (by omega)
              have hm3 : IntKind.i64.wrap ((i0 : Int) + 1) = (i0 : Int) + 1 := IntWalk.i64_in _ (by omega)
              have q1 : (ik : Int) ≤ (ik2 : Int) := by omega
              have q2 : (ik2 : Int) ≤ (cn : Int) := by omega
              have q3 : ik ≤ ik2 := by omega
              have q4 : ik2 ≤ cn := by omega
              have q5 : ¬ cn = ik := by omega
              have q6 : ik2 - ik = k := by omega
              have hmk := make_nums (k : Int) k rfl (by omega)
              obtain ⟨w9, hw9⟩ : ∃ z, z = wj.alloc (.cells (Array.replicate k (.int .i64 0)) 3) := ⟨_, rfl⟩
              have V9 := Lib.hid (show Hp W (nums (some ⟨wj.heap.size, 0, none⟩) k k (List.replicate k 0) :: ([box 25 gm [.int .i64 (k : Int), .int .i64 stv, .slice An2 j cn2, .slice Bn j dn], rlist An2 j cn2 k gs, flags Bn j dn ((F.take j).map (acF ac)), nums (some ⟨ga, 0, none⟩) n1 c1 (pN F), nums (some ⟨gn, 0, none⟩) n1 n1 num, box 97 g [.slice Ao no co, .slice Aq N cq, .slice Ac N cc, .slice As n1 cs, .slice Am nm cm, .slice At nt ct], nums Ac N cc p.cls, box 25 (W.heap.size + 1) [.int .i64 0, .int .i64 0, .slice none 0 0, .slice none 0 0], box 52 W.heap.size [.int .i64 (k : Int), .slice Ap np cp, .slice An nn cn, .slice Af nf cf]] ++ rowIts k gs ((F.take j).map G))) w9 by rw [hw9]; exact V.out.made_numsA k (by omega))
              obtain ⟨gr, hgr⟩ : ∃ z, z = wj.heap.size := ⟨_, rfl⟩
              rw [← hgr] at V9
              have HW9 := Lib.hid hw9
              have HGR := Lib.hid hgr
              clear hw9 hgr V hik hik2 hi0
              go_upto_region 22 with fail
              rw [← HW9.out, ← HGR.out]
              clear HW9 HGR r0 r9 xm xm9 hmk
              obtain ⟨r0, _, r9⟩ := V9.out.box_at (i := 9) (j := 0) rfl rfl
              obtain ⟨r2, _, _⟩ := V9.out.box_at (i := 9) (j := 2) rfl rfl
              obtain ⟨A2, hA2⟩ : ∃ A2, A2 = Option.map (fun x => x.add ik) An := ⟨_, rfl⟩
              have HA2 := Lib.hid hA2
              have H3 := Lib.hid (show Hp W (nums (some ⟨gr, 0, none⟩) k k ((G i0).take 0 ++ List.replicate (k - 0) 0) :: ([box 25 gm [.int .i64 (k : Int), .int .i64 stv, .slice An2 j cn2, .slice Bn j dn], rlist An2 j cn2 k gs, flags Bn j dn ((F.take j).map (acF ac)), nums (some ⟨ga, 0, none⟩) n1 c1 (pN F), nums (some ⟨gn, 0, none⟩) n1 n1 num, box 97 g [.slice Ao no co, .slice Aq N cq, .slice Ac N cc, .slice As n1 cs, .slice Am nm cm, .slice At nt ct], nums Ac N cc p.cls, box 25 (W.heap.size + 1) [.int .i64 0, .int .i64 0, .slice none 0 0, .slice none 0 0], box 52 W.heap.size [.int .i64 (k : Int), .slice Ap np cp, .slice An nn cn, .slice Af nf cf]] ++ rowIts k gs ((F.take j).map G))) w9 by simpa using V9.out)
              have HGL := Lib.hid (show (G i0).length = k by rw [HGD.out]; simp [mkRow])
              clear hA2 V9 hkk
              go_wp2_with fail
              try rw [← HA2.out]
              clear r0 r2 r9 q1 q2 q3 q4 q6 hm1 hm2 hm3
              go_loopw [102] (fun cv wr => ∃ l : Nat, cv = .int .i64 (l : Int) ∧ l ≤ k ∧ Hp W (nums (some ⟨gr, 0, none⟩) k k ((G i0).take l ++ List.replicate (k - l) 0) :: ([box 25 gm [.int .i64 (k : Int), .int .i64 stv, .slice An2 j cn2, .slice Bn j dn], rlist An2 j cn2 k gs, flags Bn j dn ((F.take j).map (acF ac)), nums (some ⟨ga, 0, none⟩) n1 c1 (pN F), nums (some ⟨gn, 0, none⟩) n1 n1 num, box 97 g [.slice Ao no co, .slice Aq N cq, .slice Ac N cc, .slice As n1 cs, .slice Am nm cm, .slice At nt ct], nums Ac N cc p.cls, box 25 (W.heap.size + 1) [.int .i64 0, .int .i64 0, .slice none 0 0, .slice none 0 0], box 52 W.heap.size [.int .i64 (k : Int), .slice Ap np cp, .slice An nn cn, .slice Af nf cf]] ++ rowIts k gs ((F.take j).map G))) wr) (fun cv _ => k - (intOf cv).toNat)
              case atStart => exact ⟨0, rfl, Nat.zero_le _, H3.out⟩
              case round =>
                clear H3
                obtain ⟨l, rfl, hlk, hV⟩ := hrel
                obtain ⟨wl, rfl⟩ : ∃ wl : World, wl = wr := ⟨_, rfl⟩
                have V := Lib.hid hV
                clear hV
                by_cases hltl : l < k
                · have hipos : ik + l < nx.length := by
                    have h5 := pos_up (i := i0) (n := N) hltl hi0N
                    rw [HX.out.1, HIK.out]; exact h5
                  obtain ⟨tt, htt⟩ : ∃ tt, tt = nxF nx k i0 l := ⟨_, rfl⟩
                  have hnxt : nx[ik + l]? = some tt := by
                    rw [htt, List.getElem?_eq_getElem hipos]
                    unfold nxF
                    rw [← HIK.out, getD_at hipos]
                  obtain ⟨b, off, hAn, hb, hc⟩ := bad_int (HI.out.below V.out.below) hnxt
                  have hA2' : A2 = some ⟨b, off + ik, none⟩ := by rw [HA2.out, hAn]; simp [Addr.add]
                  subst hA2'
                  rw [← Nat.add_assoc] at hc
                  have HTT := Lib.hid htt
                  have hlt2 : (l : Int) < (k : Int) := by omega
                  have hrl : l < ((G i0).take l ++ List.replicate (k - l) (0 : Int)).length := by rw [List.length_append, List.length_take, List.length_replicate, HGL.out]; omega
                  obtain ⟨x0, x1, x9⟩ := V.out.num_at (i := 0) rfl hrl
                  have V1 := Lib.hid (V.out.num_set (i := 0) rfl l (-1))
                  have hrl2 : l < (((G i0).take l ++ List.replicate (k - l) (0 : Int)).set l (-1)).length := by rw [List.length_set]; exact hrl
                  obtain ⟨y0, y1, y9⟩ := V1.out.num_at (i := 0) rfl hrl2
                  obtain ⟨t1, t2⟩ := HX.out.nin hi0N hltl
                  rw [← htt] at t1 t2
                  have HGv := Lib.hid (show (G i0)[l]? = some (numV p.cls N tt) by rw [HGD.out, htt]; unfold mkRow; rw [List.getElem?_map, List.getElem?_range hltl]; rfl)
                  clear htt hnxt hAn hipos
                  by_cases ht : tt = -1
                  · have e1 : (tt != -1) = false := bne_no ht
                    have HE := Lib.hid (show ((G i0).take l ++ List.replicate (k - l) (0 : Int)).set l (-1) = (G i0).take (l + 1) ++ List.replicate (k - (l + 1)) 0 from set_fill HGL.out (by rw [HGv.out, ht]; rfl))
                    have HR := Lib.hid (show Hp W (nums (some ⟨gr, 0, none⟩) k k ((G i0).take (l + 1) ++ List.replicate (k - (l + 1)) 0) :: ([box 25 gm [.int .i64 (k : Int), .int .i64 stv, .slice An2 j cn2, .slice Bn j dn], rlist An2 j cn2 k gs, flags Bn j dn ((F.take j).map (acF ac)), nums (some ⟨ga, 0, none⟩) n1 c1 (pN F), nums (some ⟨gn, 0, none⟩) n1 n1 num, box 97 g [.slice Ao no co, .slice Aq N cq, .slice Ac N cc, .slice As n1 cs, .slice Am nm cm, .slice At nt ct], nums Ac N cc p.cls, box 25 (W.heap.size + 1) [.int .i64 0, .int .i64 0, .slice none 0 0, .slice none 0 0], box 52 W.heap.size [.int .i64 (k : Int), .slice Ap np cp, .slice An nn cn, .slice Af nf cf]] ++ rowIts k gs ((F.take j).map G))) _ from HE.out ▸ V1.out)
                    clear V V1 ht HE hrl hrl2
                    go_wp2_with fail
                    go_roundw
                    case rel => exact ⟨l + 1, by go_num, by omega, HR.out⟩
                    case measure => simp [intOf]; omega
                  · have e1 : (tt != -1) = true := bne_yes ht
                    obtain ⟨tn, rfl⟩ := Int.eq_ofNat_of_zero_le (show 0 ≤ tt by omega)
                    have htN : tn < N := by omega
                    obtain ⟨gc, rfl⟩ := V.out.head (i := 7) (A := Ac) (c := cc) rfl rfl (show 0 < N by omega)
                    obtain ⟨C, hC⟩ : ∃ C, C = p.cls.getD tn (-1) := ⟨_, rfl⟩
                    have hCs : p.cls[tn]? = some C := by rw [hC, getD_at (by rw [HOK.out.lc]; exact htN)]; exact List.getElem?_eq_getElem _
                    obtain ⟨z0, _, z9⟩ := V1.out.num_get (i := 7) rfl hCs
                    obtain ⟨v2, _, v9⟩ := V1.out.box_at (i := 6) (j := 2) rfl rfl
                    have HC := Lib.hid hC
                    have hnv : numV p.cls N (tn : Int) = if C = -1 then (-1 : Int) else (((clsL p.cls N).idxOf C : Nat) : Int) := by
                      unfold numV
                      rw [if_neg (by omega), Int.toNat_natCast, ← hC]
                    have HNV := Lib.hid hnv
                    clear hC hCs ht hnv t1 t2
                    by_cases hne : C = -1
                    · have e2 : (C != -1) = false := bne_no hne
                      have HE := Lib.hid (show ((G i0).take l ++ List.replicate (k - l) (0 : Int)).set l (-1) = (G i0).take (l + 1) ++ List.replicate (k - (l + 1)) 0 from set_fill HGL.out (by rw [HGv.out]; exact congrArg some (HNV.out.trans (if_pos hne))))
                      have HR := Lib.hid (show Hp W (nums (some ⟨gr, 0, none⟩) k k ((G i0).take (l + 1) ++ List.replicate (k - (l + 1)) 0) :: ([box 25 gm [.int .i64 (k : Int), .int .i64 stv, .slice An2 j cn2, .slice Bn j dn], rlist An2 j cn2 k gs, flags Bn j dn ((F.take j).map (acF ac)), nums (some ⟨ga, 0, none⟩) n1 c1 (pN F), nums (some ⟨gn, 0, none⟩) n1 n1 num, box 97 g [.slice Ao no co, .slice Aq N cq, .slice (some ⟨gc, 0, none⟩) N cc, .slice As n1 cs, .slice Am nm cm, .slice At nt ct], nums (some ⟨gc, 0, none⟩) N cc p.cls, box 25 (W.heap.size + 1) [.int .i64 0, .int .i64 0, .slice none 0 0, .slice none 0 0], box 52 W.heap.size [.int .i64 (k : Int), .slice Ap np cp, .slice An nn cn, .slice Af nf cf]] ++ rowIts k gs ((F.take j).map G))) _ from HE.out ▸ V1.out)
                      clear V V1 HE hne hrl hrl2
                      go_wp2_with fail
                      go_roundw
                      case rel => exact ⟨l + 1, by go_num, by omega, HR.out⟩
                      case measure => simp [intOf]; omega
                    · have e2 : (C != -1) = true := bne_yes hne
                      obtain ⟨C0, hC0, hlt0⟩ : ∃ C0 : Nat, C = (C0 : Int) ∧ C0 < n1 := by
                        cases hl : acF lv tn with
                        | true =>
                          obtain ⟨c, h1, h2⟩ := HOK.out.cl_live htN hl
                          exact ⟨c, by rw [HC.out]; exact h1, by rw [← HNS.out]; exact h2⟩
                        | false => exact absurd (HC.out.trans (HOK.out.cl_dead htN hl)) hne
                      subst hC0
                      have hmem : (C0 : Int) ∈ clsL p.cls N := by rw [HC.out]; exact clsL_mem htN (by rw [← HC.out]; exact hne)
                      obtain ⟨ix, hix⟩ : ∃ ix, ix = (clsL p.cls N).idxOf (C0 : Int) := ⟨_, rfl⟩
                      have hixl : ix < n1 := by
                        have := List.idxOf_lt_length_of_mem hmem
                        rw [clsL_len, HCNT.out, HNS.out] at this
                        rw [hix]; exact this
                      have hat := HNUM.out.at' C0 hlt0
                      rw [if_pos hmem, ← hix] at hat
                      obtain ⟨p0, _, p9⟩ := V1.out.num_at (i := 5) rfl (j := C0) (by rw [HNUM.out.len]; exact hlt0)
                      rw [hat] at p0
                      have hlt3 : (C0 : Int) < (n1 : Int) := by omega
                      have hw4 : IntKind.i64.wrap (ix : Int) = (ix : Int) := IntWalk.i64_in _ (by omega)
                      have V2 := Lib.hid (V1.out.num_set (i := 0) rfl l (ix : Int))
                      have HE := Lib.hid (show (((G i0).take l ++ List.replicate (k - l) (0 : Int)).set l (-1)).set l (ix : Int) = (G i0).take (l + 1) ++ List.replicate (k - (l + 1)) 0 by
                        rw [List.set_set]
                        exact set_fill HGL.out (by rw [HGv.out]; exact congrArg some (HNV.out.trans ((if_neg hne).trans (by rw [← hix])))))
                      have HR := Lib.hid (show Hp W (nums (some ⟨gr, 0, none⟩) k k ((G i0).take (l + 1) ++ List.replicate (k - (l + 1)) 0) :: ([box 25 gm [.int .i64 (k : Int), .int .i64 stv, .slice An2 j cn2, .slice Bn j dn], rlist An2 j cn2 k gs, flags Bn j dn ((F.take j).map (acF ac)), nums (some ⟨ga, 0, none⟩) n1 c1 (pN F), nums (some ⟨gn, 0, none⟩) n1 n1 num, box 97 g [.slice Ao no co, .slice Aq N cq, .slice (some ⟨gc, 0, none⟩) N cc, .slice As n1 cs, .slice Am nm cm, .slice At nt ct], nums (some ⟨gc, 0, none⟩) N cc p.cls, box 25 (W.heap.size + 1) [.int .i64 0, .int .i64 0, .slice none 0 0, .slice none 0 0], box 52 W.heap.size [.int .i64 (k : Int), .slice Ap np cp, .slice An nn cn, .slice Af nf cf]] ++ rowIts k gs ((F.take j).map G))) _ from HE.out ▸ V2.out)
                      clear V V1 V2 HE hne hmem hix hat hrl hrl2
                      go_wp2_with fail
                      go_roundw
                      case rel => exact ⟨l + 1, by go_num, by omega, HR.out⟩
                      case measure => simp [intOf]; omega
                · obtain rfl : k = l := by omega
                  have hfull : (G i0).take k ++ List.replicate (k - k) (0 : Int) = G i0 := by rw [Nat.sub_self, List.take_of_length_le (by rw [HGL.out]; exact Nat.le_refl _)]; simp
                  rw [hfull] at V
                  obtain ⟨wy, hwy⟩ : ∃ z, z = wl.alloc (.cells #[.slice (some ⟨gr, 0, none⟩) k k] 39) := ⟨_, rfl⟩
                  have V3 := Lib.hid (show Hp W (box 39 wl.heap.size [.slice (some ⟨gr, 0, none⟩) k k] :: nums (some ⟨gr, 0, none⟩) k k (G i0) :: ([box 25 gm [.int .i64 (k : Int), .int .i64 stv, .slice An2 j cn2, .slice Bn j dn], rlist An2 j cn2 k gs, flags Bn j dn ((F.take j).map (acF ac)), nums (some ⟨ga, 0, none⟩) n1 c1 (pN F), nums (some ⟨gn, 0, none⟩) n1 n1 num, box 97 g [.slice Ao no co, .slice Aq N cq, .slice Ac N cc, .slice As n1 cs, .slice Am nm cm, .slice At nt ct], nums Ac N cc p.cls, box 25 (W.heap.size + 1) [.int .i64 0, .int .i64 0, .slice none 0 0, .slice none 0 0], box 52 W.heap.size [.int .i64 (k : Int), .slice Ap np cp, .slice An nn cn, .slice Af nf cf]] ++ rowIts k gs ((F.take j).map G))) wy by rw [hwy]; exact V.out.box_new 39 [.slice (some ⟨gr, 0, none⟩) k k])
                  have y0 := (V3.out.box_at (i := 0) (j := 0) rfl rfl).1
                  obtain ⟨b2, _, b9⟩ := V.out.box_at (i := 1) (j := 2) rfl rfl
                  obtain ⟨g5, cap5, w5b, hr5, hv5, hg5⟩ := run_app_row V3.out (i := 3) rfl 22 gr y0 (by omega)
                  have V4 := Lib.hid hv5.tail
                  have HY := Lib.hid hwy
                  have HR5 := Lib.hid hr5
                  obtain ⟨o1, o2, o3⟩ := V4.out.box_at (i := 1) (j := 2) rfl rfl
                  have V5 := Lib.hid (V4.out.box_set (i := 1) rfl 2 (.slice (some ⟨g5, 0, none⟩) (j + 1) cap5))
                  clear hwy y0 hv5 hg5 hr5 V V3 V4 hlk hfull
                  go_upto_region 30 with (at_builtin; rw [← HY.out]; refine wpList_app_run rfl (.tmp 138) (.tmp 140) 22 rfl HR5.out rfl rfl ?_)
                  obtain ⟨wm, hwm⟩ : ∃ z, z = w5b.setCell ⟨gm, 2, none⟩ (.slice (some ⟨g5, 0, none⟩) (j + 1) cap5) := ⟨_, rfl⟩
                  rw [← hwm]
                  have V6 := Lib.hid (show Hp W (nums (some ⟨gr, 0, none⟩) k k (G i0) :: ([box 25 gm [.int .i64 (k : Int), .int .i64 stv, .slice (some ⟨g5, 0, none⟩) (j + 1) cap5, .slice Bn j dn], rlist (some ⟨g5, 0, none⟩) (j + 1) cap5 k (gs ++ [gr]), flags Bn j dn ((F.take j).map (acF ac)), nums (some ⟨ga, 0, none⟩) n1 c1 (pN F), nums (some ⟨gn, 0, none⟩) n1 n1 num, box 97 g [.slice Ao no co, .slice Aq N cq, .slice Ac N cc, .slice As n1 cs, .slice Am nm cm, .slice At nt ct], nums Ac N cc p.cls, box 25 (W.heap.size + 1) [.int .i64 0, .int .i64 0, .slice none 0 0, .slice none 0 0], box 52 W.heap.size [.int .i64 (k : Int), .slice Ap np cp, .slice An nn cn, .slice Af nf cf]] ++ rowIts k gs ((F.take j).map G))) wm by rw [hwm]; exact V5.out)
                  clear V5 HY HR5 o1 o2 o3 b2 b9 hwm
                  obtain ⟨ba, oa, rfl, hba, hca⟩ := (HA.out.below V6.out.below).bool (j := i0) (by rw [HAC.out]; exact hi0N)
                  obtain ⟨av, hav⟩ : ∃ x, x = ac.getD i0 false := ⟨_, rfl⟩
                  rw [← hav] at hca
                  have HAV := Lib.hid hav
                  have hiN3 : (i0 : Int) < (N : Int) := by omega
                  clear hav
                  have KEY := Lib.hid (show ∀ (ww : World) (g6 cap6 : Nat), Hp W (nums (some ⟨gr, 0, none⟩) k k (G i0) :: ([box 25 gm [.int .i64 (k : Int), .int .i64 stv, .slice (some ⟨g5, 0, none⟩) (j + 1) cap5, .slice (some ⟨g6, 0, none⟩) (j + 1) cap6], rlist (some ⟨g5, 0, none⟩) (j + 1) cap5 k (gs ++ [gr]), flags (some ⟨g6, 0, none⟩) (j + 1) cap6 ((F.take j).map (acF ac) ++ [av]), nums (some ⟨ga, 0, none⟩) n1 c1 (pN F), nums (some ⟨gn, 0, none⟩) n1 n1 num, box 97 g [.slice Ao no co, .slice Aq N cq, .slice Ac N cc, .slice As n1 cs, .slice Am nm cm, .slice At nt ct], nums Ac N cc p.cls, box 25 (W.heap.size + 1) [.int .i64 0, .int .i64 0, .slice none 0 0, .slice none 0 0], box 52 W.heap.size [.int .i64 (k : Int), .slice Ap np cp, .slice An nn cn, .slice Af nf cf]] ++ rowIts k gs ((F.take j).map G))) ww → ∃ gs2 An2 cn2 Bn dn, gs2.length = j + 1 ∧ Hp W ([box 25 gm [.int .i64 (k : Int), .int .i64 stv, .slice An2 (j + 1) cn2, .slice Bn (j + 1) dn], rlist An2 (j + 1) cn2 k gs2, flags Bn (j + 1) dn ((F.take (j + 1)).map (acF ac)), nums (some ⟨ga, 0, none⟩) n1 c1 (pN F), nums (some ⟨gn, 0, none⟩) n1 n1 num, box 97 g [.slice Ao no co, .slice Aq N cq, .slice Ac N cc, .slice As n1 cs, .slice Am nm cm, .slice At nt ct], nums Ac N cc p.cls, box 25 (W.heap.size + 1) [.int .i64 0, .int .i64 0, .slice none 0 0, .slice none 0 0], box 52 W.heap.size [.int .i64 (k : Int), .slice Ap np cp, .slice An nn cn, .slice Af nf cf]] ++ rowIts k gs2 ((F.take (j + 1)).map G)) ww by
                    intro ww g6 cap6 hv
                    have e1 : (F.take (j + 1)).map (acF ac) = (F.take j).map (acF ac) ++ [av] := by rw [List.take_add_one, HI0.out, HAV.out]; simp [acF]
                    have e2 : (F.take (j + 1)).map G = (F.take j).map G ++ [G i0] := by rw [List.take_add_one, HI0.out]; simp
                    have hlen : gs.length = ((F.take j).map G).length := by rw [List.length_map, List.length_take, HGS.out, HFL.out]; omega
                    rw [e1, e2]
                    exact ⟨gs ++ [gr], some ⟨g5, 0, none⟩, cap5, some ⟨g6, 0, none⟩, cap6, by rw [List.length_append, HGS.out]; rfl, row_done hlen hv⟩)
                  have hKp : Keep [(⟨ba, oa + i0, none⟩, .bool av)] wm := List.forall_mem_cons.2 ⟨⟨hca, hba⟩, fun _ h => by simp at h⟩
                  refine wp_region_held_drew (S := Keep _) (by kernel_rfl) hKp.drew (fun hHeld => ?_)
                  have V6d := Lib.hid (V6.out.go (bdrew _))
                  refine tk 0 ?_ rfl ?_ ?_; rotate_left; focus (intro w hSw; clear hSw; go_simp; try (with_reducible rfl))
                  try simp only [Act.put, sA, sZ, sS]
                  refine tk 2 ?_ rfl ?_ ?_; rotate_left; focus (intro w hSw; clear hSw; go_simp; try (with_reducible rfl))
                  try simp only [Act.put, sA, sZ, sS]
                  refine tk 3 ?_ rfl ?_ ?_; rotate_left; focus (intro w hSw; clear hSw; go_simp; try (with_reducible rfl))
                  try simp only [Act.put, sA, sZ, sS]
                  refine tk 4 ?_ rfl ?_ ?_; rotate_left; focus (intro w hSw; clear hSw; go_simp; try (with_reducible rfl))
                  try simp only [Act.put, sA, sZ, sS]
                  refine tk 5 ?_ rfl ?_ ?_; rotate_left
                  · intro wl hSw
                    have hSw : Keep _ wl := hSw
                    have k0 : wl.cell? ⟨ba, oa + i0, none⟩ = some (.bool av) := (hSw _ (.head _)).1
                    clear hSw
                    go_simp
                    try (with_reducible rfl)
                  try simp only [Act.put, sA, sZ, sS]
                  refine wpAnyH_ready (rs := [1, 6]) (by kernel_rfl) (by simp) ?_
                  refine AllReadyH.cons (List.getElem?_toArray.trans rfl) (fun K hK => ?_) ?_
                  · have yL := (V6d.out.box_at (i := 1) (j := 3) rfl rfl).1
                    go_simp
                    refine hK.out _ _ (hHeld) (fun hHeld => ?_)
                    clear hK K
                    try simp only [Act.put, sA, sZ, sS]
                    refine wpAnyH_ready (rs := [6]) (by kernel_rfl) (by simp) ?_
                    refine AllReadyH.cons (List.getElem?_toArray.trans rfl) (fun K hK => ?_) AllReadyH.nil
                    obtain ⟨w_1_6, hw_1_6⟩ : ∃ z, z = (wm.alloc (.cells #[.bool av] 4)).drew := ⟨_, rfl⟩
                    have V_1_6 := Lib.hid (show Hp _ (box 4 wm.heap.size [.bool av] :: _) w_1_6 by rw [hw_1_6]; exact V6d.out.box_new 4 [.bool av])
                    have Bw_1_6 := Lib.hid (show Below wm.drew.heap.size wm.drew w_1_6 by rw [hw_1_6]; exact bnew _ _)
                    go_simp
                    rw [← hw_1_6]
                    clear hw_1_6
                    refine hK.out _ _ (hHeld.go Bw_1_6.out) (fun hHeld => ?_)
                    clear hK K
                    try simp only [Act.put, sA, sZ, sS]
                    refine wpAnyH_ready (rs := [7]) (by kernel_rfl) (by simp) ?_
                    refine AllReadyH.cons (List.getElem?_toArray.trans rfl) (fun K hK => ?_) AllReadyH.nil
                    have y0 := (V_1_6.out.box_at (i := 0) (j := 0) rfl rfl).1
                    obtain ⟨g6, cap6, w6b, hr6, hv6, _⟩ := run_app_flag V_1_6.out (i := 4) rfl 23 av y0 (by omega)
                    have VA := Lib.hid hv6.tail
                    refine step_app_run rfl (.tmp 144) (.tmp 149) 23 rfl hr6 rfl rfl ?_
                    refine hK.out _ _ (fun x hx => by rw [List.mem_singleton.1 hx]; exact keep_flag HA.out VA.out.below HAC.out hi0N HAV.out) (fun hHeld => ?_)
                    clear hK K
                    try simp only [Act.put, sA, sZ, sS]
                    refine tk 8 ?_ rfl ?_ ?_; rotate_left; focus (intro w hSw; clear hSw; go_simp; try (with_reducible rfl))
                    try simp only [Act.put, sA, sZ, sS]
                    refine wpAnyH_ready (rs := [9]) (by kernel_rfl) (by simp) ?_
                    refine AllReadyH.cons (List.getElem?_toArray.trans rfl) (fun K hK => ?_) AllReadyH.nil
                    obtain ⟨e0, f0, h9⟩ := VA.out.box_at (i := 1) (j := 3) rfl rfl
                    have VB := Lib.hid (VA.out.box_set (i := 1) rfl 3 (.slice (some ⟨g6, 0, none⟩) (j + 1) cap6))
                    go_simp
                    refine hK.out _ _ (fun x hx => by rw [List.mem_singleton.1 hx]; exact keep_flag HA.out VB.out.below HAC.out hi0N HAV.out) (fun hHeld => ?_)
                    clear hK K
                    try simp only [Act.put, sA, sZ, sS]
                    refine wpAnyH_done (by kernel_rfl) ?_ _
                    have HR := Lib.hid (KEY.out _ _ _ VB.out)
                    clear VB HGS hHeld hKp
                    go_wp2_with fail
                    go_roundw
                    case rel => exact ⟨j + 1, by go_num, by omega, HR.out⟩
                    case measure => simp [intOf]; omega
                  refine AllReadyH.cons (List.getElem?_toArray.trans rfl) (fun K hK => ?_) ?_
                  · obtain ⟨w_6, hw_6⟩ : ∃ z, z = (wm.alloc (.cells #[.bool av] 4)).drew := ⟨_, rfl⟩
                    have V_6 := Lib.hid (show Hp _ (box 4 wm.heap.size [.bool av] :: _) w_6 by rw [hw_6]; exact V6d.out.box_new 4 [.bool av])
                    have Bw_6 := Lib.hid (show Below wm.drew.heap.size wm.drew w_6 by rw [hw_6]; exact bnew _ _)
                    go_simp
                    rw [← hw_6]
                    clear hw_6
                    refine hK.out _ _ (hHeld.go Bw_6.out) (fun hHeld => ?_)
                    clear hK K
                    try simp only [Act.put, sA, sZ, sS]
                    refine wpAnyH_ready (rs := [1]) (by kernel_rfl) (by simp) ?_
                    refine AllReadyH.cons (List.getElem?_toArray.trans rfl) (fun K hK => ?_) AllReadyH.nil
                    have yL := (V_6.out.box_at (i := 2) (j := 3) rfl rfl).1
                    go_simp
                    refine hK.out _ _ (hHeld) (fun hHeld => ?_)
                    clear hK K
                    try simp only [Act.put, sA, sZ, sS]
                    refine wpAnyH_ready (rs := [7]) (by kernel_rfl) (by simp) ?_
                    refine AllReadyH.cons (List.getElem?_toArray.trans rfl) (fun K hK => ?_) AllReadyH.nil
                    have y0 := (V_6.out.box_at (i := 0) (j := 0) rfl rfl).1
                    obtain ⟨g6, cap6, w6b, hr6, hv6, _⟩ := run_app_flag V_6.out (i := 4) rfl 23 av y0 (by omega)
                    have VA := Lib.hid hv6.tail
                    refine step_app_run rfl (.tmp 144) (.tmp 149) 23 rfl hr6 rfl rfl ?_
                    refine hK.out _ _ (fun x hx => by rw [List.mem_singleton.1 hx]; exact keep_flag HA.out VA.out.below HAC.out hi0N HAV.out) (fun hHeld => ?_)
                    clear hK K
                    try simp only [Act.put, sA, sZ, sS]
                    refine tk 8 ?_ rfl ?_ ?_; rotate_left; focus (intro w hSw; clear hSw; go_simp; try (with_reducible rfl))
                    try simp only [Act.put, sA, sZ, sS]
                    refine wpAnyH_ready (rs := [9]) (by kernel_rfl) (by simp) ?_
                    refine AllReadyH.cons (List.getElem?_toArray.trans rfl) (fun K hK => ?_) AllReadyH.nil
                    obtain ⟨e0, f0, h9⟩ := VA.out.box_at (i := 1) (j := 3) rfl rfl
                    have VB := Lib.hid (VA.out.box_set (i := 1) rfl 3 (.slice (some ⟨g6, 0, none⟩) (j + 1) cap6))
                    go_simp
                    refine hK.out _ _ (fun x hx => by rw [List.mem_singleton.1 hx]; exact keep_flag HA.out VB.out.below HAC.out hi0N HAV.out) (fun hHeld => ?_)
                    clear hK K
                    try simp only [Act.put, sA, sZ, sS]
                    refine wpAnyH_done (by kernel_rfl) ?_ _
                    have HR := Lib.hid (KEY.out _ _ _ VB.out)
                    clear VB HGS hHeld hKp
                    go_wp2_with fail
                    go_roundw
                    case rel => exact ⟨j + 1, by go_num, by omega, HR.out⟩
                    case measure => simp [intOf]; omega
                  exact AllReadyH.nil
            · obtain rfl : n1 = j := by omega
              have hall : F.take n1 = F := List.take_of_length_le (by rw [HFL.out]; exact Nat.le_refl _)
              rw [hall] at V
              obtain ⟨a0, _, a9⟩ := V.out.box_at (i := 0) (j := 0) rfl rfl
              obtain ⟨a1, _, _⟩ := V.out.box_at (i := 0) (j := 1) rfl rfl
              obtain ⟨a2, _, _⟩ := V.out.box_at (i := 0) (j := 2) rfl rfl
              obtain ⟨a3, _, _⟩ := V.out.box_at (i := 0) (j := 3) rfl rfl
              obtain ⟨q0, o0, q9⟩ := V.out.box_at (i := 7) (j := 0) rfl rfl
              obtain ⟨q1, o1, _⟩ := V.out.box_at (i := 7) (j := 1) rfl rfl
              obtain ⟨q2, o2, _⟩ := V.out.box_at (i := 7) (j := 2) rfl rfl
              obtain ⟨q3, o3, _⟩ := V.out.box_at (i := 7) (j := 3) rfl rfl
              have VE := Lib.hid ((((V.out.box_set (i := 7) rfl 0 (.int .i64 (k : Int))).box_set (i := 7) rfl 1 (.int .i64 stv)).box_set (i := 7) rfl 2 (.slice An2 n1 cn2)).box_set (i := 7) rfl 3 (.slice Bn n1 dn))
              obtain ⟨u0, _, _⟩ := VE.out.box_at (i := 7) (j := 0) rfl rfl
              obtain ⟨u1, _, _⟩ := VE.out.box_at (i := 7) (j := 1) rfl rfl
              obtain ⟨u2, _, _⟩ := VE.out.box_at (i := 7) (j := 2) rfl rfl
              obtain ⟨u3, _, _⟩ := VE.out.box_at (i := 7) (j := 3) rfl rfl
              have HDF : OwnDfa W _ ⟨An2, n1, cn2, Bn, n1, dn⟩ (mkR k nx p.cls ac N) := ⟨k, gs, by show gs.length = ((firsts p.cls N).map _).length; rw [List.length_map, HCNT.out, HNS.out, HGS.out], hk8, by show n1 ≤ _; omega, by
                  have := Hp.pick2 (x0 := box 25 gm [.int .i64 (k : Int), .int .i64 stv, .slice An2 n1 cn2, .slice Bn n1 dn]) (x1 := rlist An2 n1 cn2 k gs) (x2 := flags Bn n1 dn (F.map (acF ac))) (rest := [nums A1 n1 c1 (pN F), nums (some ⟨gn, 0, none⟩) n1 n1 num, box 97 g [.slice Ao no co, .slice Aq N cq, .slice Ac N cc, .slice As n1 cs, .slice Am nm cm, .slice At nt ct], nums Ac N cc p.cls, box 25 (W.heap.size + 1) [.int .i64 (k : Int), .int .i64 stv, .slice An2 n1 cn2, .slice Bn n1 dn], box 52 W.heap.size [.int .i64 (k : Int), .slice Ap np cp, .slice An nn cn, .slice Af nf cf]]) (R := rowIts k gs (F.map G)) VE.out
                  rw [HGD.out, HF.out] at this
                  exact this⟩
              have HE := Lib.hid (show MinPost k (fun u => aq (acF ac) (u.foldl (gq (nxF nx k)) 0)) W (.returned (.tuple #[.agg #[.int .i64 (k : Int), .int .i64 stv, .slice An2 n1 cn2, .slice Bn n1 dn], .int .i64 0])) _ from
                ⟨VE.out.below, _, HCAN.out, .inl ⟨by show ((firsts p.cls N).map _).length ≤ 400; rw [List.length_map, HCNT.out, HNS.out]; exact hns4, ⟨An2, n1, cn2, Bn, n1, dn⟩, by
                  rw [HST.out]
                  show _ = Ending.returned (.tuple #[.agg #[.int .i64 (k : Int), .int .i64 (if (firsts p.cls N).length = 0 then -1 else 0), .slice An2 n1 cn2, .slice Bn n1 dn], .int .i64 0])
                  rw [HCNT.out, HNS.out], rfl, HDF⟩⟩)
              clear V VE HDF
              go_wp2_with fail
              exact bodyPost_ret (v := .tuple #[.agg #[.int .i64 (k : Int), .int .i64 stv, .slice An2 n1 cn2, .slice Bn n1 dn], .int .i64 0]) (by simp [results, Try.results41, go_sem, u0, u1, u2, u3]) rfl HE.out
end Go.Proofs.Ytdkdfmflghbhiaa
