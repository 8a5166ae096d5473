/- Contracts of the program: what potentials prove. -/
import Derived.Test.YtdoobdfanalnbaaDDg
import Derived.Test.YtdoobdfanalnbaaDCb
import Derived.Test.YtdoobdfanalnbaaDCl
import Derived.Deep.RegionLaw
namespace Go.Proofs.Ytdoobdfanalnbaa
open Go.RowKit
set_option linter.unusedVariables false
set_option linter.unusedSimpArgs false
set_option maxRecDepth 100000

/-- Whether an arc shows that potentials prove nothing. -/
def brk (p : List Int) (a : Ar) : Bool := decide (0 ≤ p.getD a.t.toNat 0) && (decide (p.getD a.f.toNat 0 < 0) || decide (a.c + p.getD a.t.toNat 0 < p.getD a.f.toNat 0))
/-- Whether potentials prove that a path of this cost is a cheapest one. -/
def provV (g : Gr) (p : List Int) (c : Int) : Bool := decide ((∀ x ∈ p, -1 ≤ x ∧ x ≤ 1099511627776) ∧ p.getD 0 0 = c ∧ p.getD (g.n - 1).toNat 0 = 0) && !(g.rs.any (brk p))
/-- What Check answers. -/
def Gr.rck (g : Gr) (l p : List Int) : Bool := decide ((g.cst l).2 = 0 ∧ (p.length : Int) = g.n) && provV g p (g.cst l).1
theorem prov_no {g : Gr} {p : List Int} {c : Int} (h : ¬ ((∀ x ∈ p, -1 ≤ x ∧ x ≤ 1099511627776) ∧ p.getD 0 0 = c ∧ p.getD (g.n - 1).toNat 0 = 0)) : provV g p c = false := by
  unfold provV; rw [decide_eq_false h]; rfl
theorem prov_yes {g : Gr} {p : List Int} {c : Int} (h : (∀ x ∈ p, -1 ≤ x ∧ x ≤ 1099511627776) ∧ p.getD 0 0 = c ∧ p.getD (g.n - 1).toNat 0 = 0) : provV g p c = !(g.rs.any (brk p)) := by
  unfold provV; rw [decide_eq_true h]; rfl
set_option maxHeartbeats 16000000 in
theorem pclos_any (p : List Int) (gp N d : Nat) (P : Option Addr) (a : Ar) (w : World) (h1 : w.cell? ⟨gp, 0, none⟩ = some (.slice P N d)) (h2 : CellsIn w P (ints p)) (hp : p.length = N) (hN : N ≤ 2000) (ha : 0 ≤ a.f ∧ a.f < (N : Int) ∧ 0 ≤ a.t ∧ a.t < (N : Int) ∧ 0 ≤ a.c ∧ a.c ≤ 1000000) (hb : ∀ x ∈ p, -1 ≤ x ∧ x ≤ 1099511627776) :
    Calls Try.prog 107 #[.agg #[.int .i64 a.f, .int .i64 a.t, .int .i64 a.c], .pointer (some ⟨gp, 0, none⟩)] w fun e w' => e = .returned (.bool (brk p a)) ∧ Below w.heap.size w w' := by
  obtain ⟨f, t, q⟩ := a
  dsimp only at ha
  obtain ⟨f0, f1, t0, t1, q0, q1⟩ := ha
  obtain ⟨f, rfl⟩ := Int.eq_ofNat_of_zero_le f0
  obtain ⟨t, rfl⟩ := Int.eq_ofNat_of_zero_le t0
  have hf : f < N := by omega
  have ht : t < N := by omega
  obtain ⟨gz, hgz⟩ : ∃ gz, gz = w.heap.size := ⟨_, rfl⟩
  obtain ⟨wz, hwz⟩ : ∃ z, z = w.alloc (.cells #[.int .i64 (f : Int), .int .i64 (t : Int), .int .i64 q] 60) := ⟨_, rfl⟩
  have HZ := Lib.hid hwz
  have V := Lib.hid (show Hp w [abox gz ⟨f, t, q⟩] wz by rw [hwz, hgz]; exact (Hp.start w).anew ⟨f, t, q⟩)
  clear hwz
  obtain ⟨b, off, rfl, hbl, hcf⟩ := (h2.below V.out.below).int (j := f) (by rw [hp]; exact hf)
  obtain ⟨b2, o2, e1, _, hct⟩ := (h2.below V.out.below).int (j := t) (by rw [hp]; exact ht)
  injection e1 with e1
  injection e1 with e1 e2
  subst e1; subst e2
  have k1 := (V.out.below.cell (p := ⟨gp, 0, none⟩) (World.block_lt_of_cell? w _ h1)).trans h1
  have hgb := Nat.lt_of_lt_of_le (World.block_lt_of_cell? w _ h1) V.out.below.size
  obtain ⟨x, hx⟩ : ∃ x, x = p.getD f 0 := ⟨_, rfl⟩
  obtain ⟨y, hy⟩ : ∃ y, y = p.getD t 0 := ⟨_, rfl⟩
  rw [← hx] at hcf
  rw [← hy] at hct
  have hxb := hb x (by rw [hx, getD_at (by rw [hp]; exact hf)]; exact List.getElem_mem _)
  have hyb := hb y (by rw [hy, getD_at (by rw [hp]; exact ht)]; exact List.getElem_mem _)
  have HE := Lib.hid (show brk p ⟨f, t, q⟩ = (decide (0 ≤ y) && (decide (x < 0) || decide (q + y < x))) by rw [hx, hy]; rfl)
  have g1 : IntKind.i64.wrap (q + y) = q + y := IntWalk.i64_in _ (by omega)
  obtain ⟨s0, s1, s2, s9⟩ := V.out.ab (i := 0) rfl
  dsimp only at s0 s1 s2
  clear h1 h2 hp f0 f1 t0 t1 hx hy hb
  go_enter Try.func107, Try.ntmps107
  go_upto_region 1 with fail
  rw [← HZ.out, ← hgz]
  clear HZ hgz

  have hKp : Keep [(⟨gp, 0, none⟩, .slice (some ⟨b, off, none⟩) N d), (⟨gz, 0, none⟩, .int .i64 (f : Int)), (⟨gz, 1, none⟩, .int .i64 (t : Int)), (⟨b, off + f, none⟩, .int .i64 x), (⟨b, off + t, none⟩, .int .i64 y)] wz := List.forall_mem_cons.2 ⟨⟨k1, hgb⟩, List.forall_mem_cons.2 ⟨⟨s0, s9⟩, List.forall_mem_cons.2 ⟨⟨s1, s9⟩, List.forall_mem_cons.2 ⟨⟨hcf, hbl⟩, List.forall_mem_cons.2 ⟨⟨hct, hbl⟩, fun _ h => by simp at h⟩⟩⟩⟩⟩
  refine wp_region_held_drew (S := Keep _) (by kernel_rfl) hKp.drew (fun hHeld => ?_)
  have Vd := Lib.hid (V.out.go (bdrew _))
  refine tk 0 ?_ rfl ?_ ?_; rotate_left
  · intro wl hSw
    have hSw : Keep _ wl := hSw
    have k0 : wl.cell? ⟨gp, 0, none⟩ = some (.slice (some ⟨b, off, none⟩) N d) := (hSw _ (.head _)).1
    clear hSw
    go_simp
    try (with_reducible rfl)
  try simp only [Act.put, sA, sZ, sS]
  refine tk 1 ?_ rfl ?_ ?_; rotate_left; focus (intro w hSw; clear hSw; go_simp; try (with_reducible rfl))
  try simp only [Act.put, sA, sZ, sS]
  refine tk 2 ?_ rfl ?_ ?_; rotate_left
  · intro wl hSw
    have hSw : Keep _ wl := hSw
    have k0 : wl.cell? ⟨gz, 0, none⟩ = some (.int .i64 (f : Int)) := (hSw _ (.tail _ (.head _))).1
    clear hSw
    go_simp
    try (with_reducible rfl)
  try simp only [Act.put, sA, sZ, sS]
  refine tk 3 ?_ rfl ?_ ?_; rotate_left; focus (intro w hSw; clear hSw; go_simp; try (with_reducible rfl))
  try simp only [Act.put, sA, sZ, sS]
  refine tk 4 ?_ rfl ?_ ?_; rotate_left
  · intro wl hSw
    have hSw : Keep _ wl := hSw
    have k0 : wl.cell? ⟨b, off + f, none⟩ = some (.int .i64 x) := (hSw _ (.tail _ (.tail _ (.tail _ (.head _))))).1
    clear hSw
    go_simp
    try (with_reducible rfl)
  try simp only [Act.put, sA, sZ, sS]
  refine tk 5 ?_ rfl ?_ ?_; rotate_left
  · intro wl hSw
    have hSw : Keep _ wl := hSw
    have k0 : wl.cell? ⟨gp, 0, none⟩ = some (.slice (some ⟨b, off, none⟩) N d) := (hSw _ (.head _)).1
    clear hSw
    go_simp
    try (with_reducible rfl)
  try simp only [Act.put, sA, sZ, sS]
  refine tk 6 ?_ rfl ?_ ?_; rotate_left; focus (intro w hSw; clear hSw; go_simp; try (with_reducible rfl))
  try simp only [Act.put, sA, sZ, sS]
  refine tk 7 ?_ rfl ?_ ?_; rotate_left
  · intro wl hSw
    have hSw : Keep _ wl := hSw
    have k0 : wl.cell? ⟨gz, 1, none⟩ = some (.int .i64 (t : Int)) := (hSw _ (.tail _ (.tail _ (.head _)))).1
    clear hSw
    go_simp
    try (with_reducible rfl)
  try simp only [Act.put, sA, sZ, sS]
  refine tk 8 ?_ rfl ?_ ?_; rotate_left; focus (intro w hSw; clear hSw; go_simp; try (with_reducible rfl))
  try simp only [Act.put, sA, sZ, sS]
  refine tk 9 ?_ rfl ?_ ?_; rotate_left
  · intro wl hSw
    have hSw : Keep _ wl := hSw
    have k0 : wl.cell? ⟨b, off + t, none⟩ = some (.int .i64 y) := (hSw _ (.tail _ (.tail _ (.tail _ (.tail _ (.head _)))))).1
    clear hSw
    go_simp
    try (with_reducible rfl)
  try simp only [Act.put, sA, sZ, sS]
  refine tk 10 ?_ rfl ?_ ?_; rotate_left; focus (intro w hSw; clear hSw; go_simp; try (with_reducible rfl))
  try simp only [Act.put, sA, sZ, sS]
  refine tk 11 ?_ rfl ?_ ?_; rotate_left; focus (intro w hSw; clear hSw; go_simp; try (with_reducible rfl))
  try simp only [Act.put, sA, sZ, sS]
  refine wpAnyH_done (by kernel_rfl) ?_ _
  clear hKp hHeld
  obtain ⟨s0, s1, s2, s9⟩ := Vd.out.ab (i := 0) rfl
  dsimp only at s0 s1 s2
  by_cases hy : 0 ≤ y
  case neg =>
    have HF := Lib.hid (show brk p ⟨(f : Int), (t : Int), q⟩ = false by rw [HE.out, decide_eq_false hy]; rfl)
    go_wp2_with fail
    go_ret
    exact ⟨ret_bool HF.out.symm, Vd.out.below⟩
  by_cases hx : x < 0
  case pos =>
    have HF := Lib.hid (show brk p ⟨(f : Int), (t : Int), q⟩ = true by rw [HE.out, decide_eq_true hy, decide_eq_true hx]; rfl)
    go_wp2_with fail
    go_ret
    exact ⟨ret_bool HF.out.symm, Vd.out.below⟩
  by_cases hq : q + y < x
  case pos =>
    have HF := Lib.hid (show brk p ⟨(f : Int), (t : Int), q⟩ = true by rw [HE.out, decide_eq_true hy, decide_eq_true hq, Bool.or_true]; rfl)
    go_wp2_with fail
    go_ret
    exact ⟨ret_bool HF.out.symm, Vd.out.below⟩
  have HF := Lib.hid (show brk p ⟨(f : Int), (t : Int), q⟩ = false by rw [HE.out, decide_eq_true hy, decide_eq_false hx, decide_eq_false hq]; rfl)
  go_wp2_with fail
  go_ret
  exact ⟨ret_bool HF.out.symm, Vd.out.below⟩
set_option maxHeartbeats 4000000 in
theorem index_arcsP (G : World → Prop) (hG : ∀ w w' : World, G w → Below w.heap.size w w' → G w') (f : Ar → Bool) (gb : Nat) (rs : List Ar)
    (hF : ∀ (w : World) (a : Ar), G w → a ∈ rs → Calls Try.prog 107 #[.agg #[.int .i64 a.f, .int .i64 a.t, .int .i64 a.c], .pointer (some ⟨gb, 0, none⟩)] w fun e w' => e = .returned (.bool (f a)) ∧ Below w.heap.size w w')
    (A : Option Addr) (n c : Nat) (w : World) (hn : rs.length = n) (hb : n ≤ 6000) (hc : CellsIn w A (acells rs)) (hw : G w) :
    Calls Try.prog 111 #[.slice A n c, .func (.func 107) #[] #[.pointer (some ⟨gb, 0, none⟩)]] w fun e w' => Below w.heap.size w w' ∧ ((e = .returned (.int .i64 (-1)) ∧ rs.any f = false) ∨
      ∃ i : Nat, e = .returned (.int .i64 (i : Int)) ∧ rs.any f = true) := by
  have HG := Lib.hid hG
  have HF := Lib.hid hF
  have HN := Lib.hid hn
  have HC := Lib.hid hc
  have HW := Lib.hid hw
  clear hG hF hn hc hw
  go_enter Try.func111, Try.ntmps111
  go_wp2_with fail
  go_loopw [8] (fun cv wr => ∃ i : Nat, cv = .int .i64 (i : Int) ∧ i ≤ n ∧ (∀ (j : Nat) q, j < i → rs[j]? = some q → f q = false) ∧ Below w.heap.size w wr) (fun cv _ => n - (intOf cv).toNat)
  case atStart => exact ⟨0, rfl, Nat.zero_le _, fun j q h => absurd h (Nat.not_lt_zero _), Below.refl _ _⟩
  case round =>
    obtain ⟨i, rfl, hin, hr, hbl⟩ := hrel
    obtain ⟨wi, rfl⟩ : ∃ wi : World, wi = wr := ⟨_, rfl⟩
    have HR := Lib.hid hr
    have HB := Lib.hid hbl
    clear hr hbl
    by_cases hlt : i < n
    · have hil : i < rs.length := by rw [HN.out]; exact hlt
      obtain ⟨a, ha⟩ : ∃ a, rs[i]? = some a := ⟨_, List.getElem?_eq_getElem hil⟩
      obtain ⟨e1, e2, e3⟩ := acells_at ha
      obtain ⟨b, off, rfl, hb0, hcc⟩ := (HC.out.below HB.out) (by rw [acells_len]; omega)
      have c1 := hcc _ _ e1
      have c2 := hcc _ _ e2
      have c3 := hcc _ _ e3
      have HP := Lib.hid ha
      have HM := Lib.hid (List.mem_of_getElem? ha)
      have HGW := Lib.hid (HG.out w wi HW.out HB.out)
      obtain ⟨p1, p2, p3⟩ := a
      dsimp only at c1 c2 c3
      rw [show off + (i * 3 + 1) = off + i * 3 + 1 by omega] at c2
      rw [show off + (i * 3 + 2) = off + i * 3 + 2 by omega] at c3
      have hi3 : i * 3 ≤ 18000 := by omega
      clear e1 e2 e3 hcc ha hil
      go_wp2_with fail
      refine (HF.out wi ⟨p1, p2, p3⟩ HGW.out HM.out).mono ?_
      rintro e w2 ⟨rfl, b2⟩
      have HB2 := Lib.hid (btwo HB.out b2)
      clear b2 c1 c2 c3
      cases hf : f ⟨p1, p2, p3⟩ with
      | true =>
        have H3 := Lib.hid (show rs.any f = true from List.any_eq_true.2 ⟨_, HM.out, hf⟩)
        clear hf
        go_wp2_with fail
        go_ret
        exact ⟨HB2.out, .inr ⟨i, rfl, H3.out⟩⟩
      | false =>
        have H3 := Lib.hid (show ∀ (j : Nat) q, j < i + 1 → rs[j]? = some q → f q = false from fun j q hj hq => by
          by_cases e : j = i
          · subst e
            have : some (⟨p1, p2, p3⟩ : Ar) = some q := HP.out.symm.trans hq
            injection this with this
            rw [← this]; exact hf
          · exact HR.out j q (by omega) hq)
        clear hf
        go_wp2_with fail
        go_roundw
        case rel => exact ⟨i + 1, by go_num, by omega, H3.out, HB2.out⟩
        case measure => simp [intOf]; omega
    · have H3 := Lib.hid (show rs.any f = false by
        cases h4 : rs.any f with
        | false => rfl
        | true =>
          obtain ⟨a, ha, h5⟩ := List.any_eq_true.1 h4
          obtain ⟨j, hj⟩ := List.mem_iff_getElem?.1 ha
          rw [HR.out j a (by have := (List.getElem?_eq_some_iff.1 hj).1; have := HN.out; omega) hj] at h5
          cases h5)
      go_wp2_with fail
      go_ret
      exact ⟨HB.out, .inl ⟨rfl, H3.out⟩⟩
theorem contains_arcsP (G : World → Prop) (hG : ∀ w w' : World, G w → Below w.heap.size w w' → G w') (f : Ar → Bool) (gb : Nat) (rs : List Ar)
    (hF : ∀ (w : World) (a : Ar), G w → a ∈ rs → Calls Try.prog 107 #[.agg #[.int .i64 a.f, .int .i64 a.t, .int .i64 a.c], .pointer (some ⟨gb, 0, none⟩)] w fun e w' => e = .returned (.bool (f a)) ∧ Below w.heap.size w w')
    (A : Option Addr) (n c : Nat) (w : World) (hn : rs.length = n) (hb : n ≤ 6000) (hc : CellsIn w A (acells rs)) (hw : G w) :
    Calls Try.prog 91 #[.slice A n c, .func (.func 107) #[] #[.pointer (some ⟨gb, 0, none⟩)]] w fun e w' => e = .returned (.bool (rs.any f)) ∧ Below w.heap.size w w' := by
  have HI := Lib.hid (index_arcsP G hG f gb rs hF A n c w hn hb hc hw)
  clear hG hF hn hb hc hw
  go_enter Try.func91, Try.ntmps91
  go_wp2_with fail
  refine HI.out.mono ?_
  rintro e w2 ⟨b2, h⟩
  have HB := Lib.hid b2
  clear b2
  rcases h with ⟨rfl, h⟩ | ⟨i, rfl, h⟩
  · have HE := Lib.hid h
    clear h HI
    go_wp2_with fail
    go_ret
    exact ⟨ret_bool HE.out.symm, HB.out⟩
  · have HE := Lib.hid h
    clear h HI
    have hi : (0 : Int) ≤ (i : Int) := by omega
    go_wp2_with fail
    go_ret
    exact ⟨ret_bool HE.out.symm, HB.out⟩
set_option maxHeartbeats 32000000 in
theorem prove_any (g : Gr) (A P : Option Addr) (n c N d : Nat) (p : List Int) (co : Int) (w : World) (h : GrIn w A n c g) (hO : g.Ok) (hp : p.length = N) (hN : g.n = (N : Int)) (hP : CellsIn w P (ints p)) :
    Calls Try.prog 77 #[gval g A n c, .slice P N d, .int .i64 co] w fun e w' => e = .returned (.bool (provV g p co)) ∧ Below w.heap.size w w' := by
  have H := Lib.hid h
  have HO := Lib.hid hO
  have HPL := Lib.hid hp
  have HGN := Lib.hid hN
  have HP := Lib.hid hP
  have hN1 : 1 ≤ N := by have := hO.n1; omega
  have hN2 : N ≤ 2000 := by have := hO.n2; omega
  have hnl : n ≤ 6000 := by have := hO.len; have := h.len; omega
  clear h hO hp hP
  obtain ⟨gb, hgb⟩ : ∃ gb, gb = w.heap.size := ⟨_, rfl⟩
  have hgv : gval g A n c = .agg #[.int .i64 (N : Int), .slice A n c] := by unfold gval; rw [hN]
  have hgx : gbox gb g A n c = box 24 gb [.int .i64 (N : Int), .slice A n c] := by unfold gbox; rw [hN]
  rw [hgv]
  clear hgv hN
  obtain ⟨wz, hwz⟩ : ∃ z, z = (w.alloc (.cells #[.int .i64 (N : Int), .slice A n c] 24)).alloc (.cells #[.slice P N d] 27) := ⟨_, rfl⟩
  have HZ := Lib.hid hwz
  have V := Lib.hid (show Hp w [box 27 (gb + 1) [.slice P N d], box 24 gb [.int .i64 (N : Int), .slice A n c]] wz by
    have h1 := (Hp.start w).box_new 24 [.int .i64 (N : Int), .slice A n c]
    have h2 := h1.box_new 27 [.slice P N d]
    rw [show (w.alloc (.cells [.int .i64 (N : Int), .slice A n c].toArray 24)).heap.size = w.heap.size + 1 by unfold World.alloc; exact Array.size_push ..] at h2
    rw [hwz, hgb]; exact h2)
  clear hwz hgx
  obtain ⟨gp, hgp⟩ : ∃ gp, gp = gb + 1 := ⟨_, rfl⟩
  rw [← hgp] at V
  go_enter Try.func77, Try.ntmps77
  go_upto_region 1 with fail
  rw [← HZ.out, ← hgb, ← hgp]
  clear HZ hgb hgp
  obtain ⟨r0, _, r9⟩ := V.out.box_at (i := 0) (j := 0) rfl rfl
  go_wp2_with fail
  clear r0 r9
  go_loopw [12] (fun cv wr => ∃ k : Nat, cv = .int .i64 (k : Int) ∧ k ≤ N ∧ (∀ j, j < k → -1 ≤ p.getD j 0 ∧ p.getD j 0 ≤ 1099511627776) ∧ Hp w [box 27 gp [.slice P N d], box 24 gb [.int .i64 (N : Int), .slice A n c]] wr) (fun cv _ => N - (intOf cv).toNat)
  case atStart => exact ⟨0, rfl, Nat.zero_le _, fun j h => by omega, V.out⟩
  case round =>
    clear V
    obtain ⟨k, rfl, hkN, hr, hV⟩ := hrel
    obtain ⟨wi, rfl⟩ : ∃ wi : World, wi = wr := ⟨_, rfl⟩
    have V := Lib.hid hV
    have HR := Lib.hid hr
    clear hV hr
    by_cases hlt : k < N
    case pos =>
      obtain ⟨b, off, rfl, hbl, hc⟩ := (HP.out.below V.out.below).int (j := k) (by rw [HPL.out]; exact hlt)
      obtain ⟨x, hx⟩ : ∃ x, x = p.getD k 0 := ⟨_, rfl⟩
      rw [← hx] at hc
      have HX := Lib.hid hx
      have HXM := Lib.hid (show x ∈ p by rw [hx, getD_at (by rw [HPL.out]; exact hlt)]; exact List.getElem_mem _)
      clear hx
      by_cases h1 : x < -1
      case pos =>
        have HE := Lib.hid (show provV g p co = false from prov_no fun h => by have := h.1 x HXM.out; omega)
        go_wp2_with fail
        go_ret
        exact ⟨ret_bool HE.out.symm, V.out.below⟩
      by_cases h2 : 1099511627776 < x
      case pos =>
        have HE := Lib.hid (show provV g p co = false from prov_no fun h => by have := h.1 x HXM.out; omega)
        go_wp2_with fail
        go_ret
        exact ⟨ret_bool HE.out.symm, V.out.below⟩
      have HR2 := Lib.hid (show ∀ j, j < k + 1 → -1 ≤ p.getD j 0 ∧ p.getD j 0 ≤ 1099511627776 from fun j hj => by
        by_cases e : j = k
        · rw [e, ← HX.out]; omega
        · exact HR.out j (by omega))
      go_wp2_with fail
      go_roundw
      case rel => exact ⟨k + 1, by go_num, by omega, HR2.out, V.out⟩
      case measure => simp [intOf]; omega
    case neg =>
      obtain rfl : N = k := by omega
      have HALL := Lib.hid (show ∀ x ∈ p, -1 ≤ x ∧ x ≤ 1099511627776 from fun x hx => by
        obtain ⟨j, hj, e⟩ := List.mem_iff_getElem.1 hx
        have h := HR.out j (by rw [← HPL.out]; exact hj)
        rwa [getD_at hj, e] at h)
      obtain ⟨E, hE⟩ : ∃ E, E = N - 1 := ⟨_, rfl⟩
      have g1 : IntKind.i64.wrap ((N : Int) - 1) = (E : Int) := by rw [IntWalk.i64_in _ (by omega)]; omega
      have hEN : E < N := by omega
      have HEI := Lib.hid (show (g.n - 1).toNat = E by rw [HGN.out]; omega)
      clear hE
      obtain ⟨b, off, rfl, hbl, c0⟩ := (HP.out.below V.out.below).int (j := 0) (by rw [HPL.out]; omega)
      obtain ⟨b2, o2, e1, _, c1⟩ := (HP.out.below V.out.below).int (j := E) (by rw [HPL.out]; exact hEN)
      injection e1 with e1
      injection e1 with e1 e2
      subst e1; subst e2
      rw [Nat.add_zero] at c0
      obtain ⟨x, hx⟩ : ∃ x, x = p.getD 0 0 := ⟨_, rfl⟩
      obtain ⟨y, hy⟩ : ∃ y, y = p.getD E 0 := ⟨_, rfl⟩
      rw [← hx] at c0
      rw [← hy] at c1
      have HX := Lib.hid hx
      have HY := Lib.hid hy
      clear hx hy
      obtain ⟨r0, _, r9⟩ := V.out.box_at (i := 0) (j := 0) rfl rfl
      obtain ⟨q0, _, q9⟩ := V.out.box_at (i := 1) (j := 0) rfl rfl
      obtain ⟨q1, _, _⟩ := V.out.box_at (i := 1) (j := 1) rfl rfl
      by_cases hx0 : x = co
      case neg =>
        have HE := Lib.hid (show provV g p co = false from prov_no fun h => hx0 (by rw [HX.out]; exact h.2.1))
        have g2 : (x != co) = true := bne_yes hx0
        clear hx0
        go_wp2_with fail
        go_ret
        exact ⟨ret_bool HE.out.symm, V.out.below⟩
      have g2 : (x != co) = false := bne_no hx0
      have HX0 := Lib.hid hx0
      clear hx0
      by_cases hy0 : y = 0
      case neg =>
        have HE := Lib.hid (show provV g p co = false from prov_no fun h => hy0 (by rw [HY.out, ← HEI.out]; exact h.2.2))
        have g3 : (y != 0) = true := bne_yes hy0
        clear hy0
        go_wp2_with fail
        go_ret
        exact ⟨ret_bool HE.out.symm, V.out.below⟩
      have g3 : (y != 0) = false := bne_no hy0
      have HE := Lib.hid (show provV g p co = !(g.rs.any (brk p)) from prov_yes ⟨HALL.out, by rw [← HX.out]; exact HX0.out, by rw [HEI.out, ← HY.out]; exact hy0⟩)
      clear hy0
      obtain ⟨z, hz⟩ : ∃ z, z = g.rs.any (brk p) := ⟨_, rfl⟩
      rw [← hz] at HE
      have HCON := Lib.hid (show Calls Try.prog 91 #[.slice A n c, .func (.func 107) #[] #[.pointer (some ⟨gp, 0, none⟩)]] wi fun e w' => e = .returned (.bool z) ∧ Below wi.heap.size wi w' by
        rw [hz]
        refine contains_arcsP (fun W => W.cell? ⟨gp, 0, none⟩ = some (.slice (some ⟨b, off, none⟩) N d) ∧ CellsIn W (some ⟨b, off, none⟩) (ints p)) (fun w w' h hb => ⟨(hb.cell (p := ⟨gp, 0, none⟩) (World.block_lt_of_cell? w _ h.1)).trans h.1, h.2.below hb⟩) (brk p) gp g.rs (fun W a hW ha => ?_) A n c wi H.out.len hnl (H.out.below V.out.below).arcs ⟨r0, HP.out.below V.out.below⟩
        have har := HO.out.arc a ha
        have := HGN.out
        exact pclos_any p gp N d (some ⟨b, off, none⟩) a W hW.1 hW.2 HPL.out hN2 (by omega) HALL.out)
      clear hz
      go_wp2_with fail
      refine HCON.out.mono ?_
      rintro e w2 ⟨rfl, b2⟩
      have V2 := Lib.hid (V.out.go b2)
      clear b2
      go_wp2_with fail
      go_ret
      exact ⟨ret_bool HE.out.symm, V2.out.below⟩
set_option maxHeartbeats 32000000 in
theorem rtcheck_any (g : Gr) (A B P : Option Addr) (n c m d N d2 : Nat) (l p : List Int) (w : World) (h : GrIn w A n c g) (hl : l.length = m) (hm : m ≤ 17592186044416) (hB : CellsIn w B (ints l)) (hp : p.length = N) (hN : N ≤ 17592186044416) (hP : CellsIn w P (ints p)) :
    Calls Try.prog 31 #[gval g A n c, .slice B m d, .slice P N d2] w fun e w' => e = .returned (.bool (g.rck l p)) ∧ Below w.heap.size w w' := by
  have H := Lib.hid h
  have HL := Lib.hid hl
  have HB := Lib.hid hB
  have HPL := Lib.hid hp
  have HP := Lib.hid hP
  clear h hl hB hp hP
  obtain ⟨gb, hgb⟩ : ∃ gb, gb = w.heap.size := ⟨_, rfl⟩
  obtain ⟨wz, hwz⟩ : ∃ z, z = w.alloc (.cells #[.int .i64 g.n, .slice A n c] 24) := ⟨_, rfl⟩
  have HZ := Lib.hid hwz
  have V := Lib.hid (show Hp w [gbox gb g A n c] wz by rw [hwz, hgb]; exact (Hp.start w).gnew g A n c)
  clear hwz
  go_enter Try.func31, Try.ntmps31
  go_upto_region 1 with fail
  rw [← HZ.out, ← hgb]
  clear HZ hgb
  obtain ⟨r0, r1, r9⟩ := V.out.gb (i := 0) rfl
  go_wp2_with fail
  refine (cost_any g A n c B m d l _ (H.out.below V.out.below) HL.out hm (HB.out.below V.out.below)).mono ?_
  rintro e w2 ⟨rfl, b2⟩
  have V2 := Lib.hid (V.out.go b2)
  clear b2 V r0 r1 r9
  obtain ⟨x, hx⟩ : ∃ x, x = (g.cst l).1 := ⟨_, rfl⟩
  obtain ⟨y, hy⟩ : ∃ y, y = (g.cst l).2 := ⟨_, rfl⟩
  obtain ⟨gn, hgn⟩ : ∃ gn, gn = g.n := ⟨_, rfl⟩
  have HE := Lib.hid (show g.rck l p = (decide (y = 0 ∧ (N : Int) = gn) && provV g p x) by rw [hx, hy, hgn, ← HPL.out]; rfl)
  have HOK := Lib.hid (show y = 0 → g.Ok from fun h => by
    rw [hy] at h
    unfold Gr.cst at h
    split at h
    · rename_i hv; exact absurd h hv
    · rename_i hv; exact Gr.ok (Classical.not_not.1 hv))
  have HGN := Lib.hid hgn
  rw [← hx, ← hy]
  clear hx hy hgn
  obtain ⟨r0, r1, r9⟩ := V2.out.gb (i := 0) rfl
  rw [← HGN.out] at r0
  by_cases hy0 : y = 0
  case neg =>
    have g1 : (y == 0) = false := beq_no hy0
    have HF := Lib.hid (show g.rck l p = false by rw [HE.out, decide_eq_false (fun h => hy0 h.1)]; rfl)
    clear hy0
    go_wp2_with fail
    go_ret
    exact ⟨ret_bool HF.out.symm, V2.out.below⟩
  have g1 : (y == 0) = true := beq_yes hy0
  have HO := Lib.hid (HOK.out hy0)
  by_cases hn0 : (N : Int) = gn
  case neg =>
    have g2 : ((N : Int) == gn) = false := beq_no hn0
    have HF := Lib.hid (show g.rck l p = false by rw [HE.out, decide_eq_false (fun h => hn0 h.2)]; rfl)
    clear hy0 hn0
    go_wp2_with fail
    go_ret
    exact ⟨ret_bool HF.out.symm, V2.out.below⟩
  have g2 : ((N : Int) == gn) = true := beq_yes hn0
  have HF := Lib.hid (show g.rck l p = provV g p x by rw [HE.out, decide_eq_true ⟨hy0, hn0⟩]; rfl)
  have HPR := Lib.hid (show ∀ W, Below w.heap.size w W → Calls Try.prog 77 #[.agg #[.int .i64 gn, .slice A n c], .slice P N d2, .int .i64 x] W fun e w' => e = .returned (.bool (provV g p x)) ∧ Below W.heap.size W w' from fun W hW => by
    rw [HGN.out]
    exact prove_any g A P n c N d2 p x W (H.out.below hW) HO.out HPL.out (by rw [← HGN.out]; exact hn0.symm) (HP.out.below hW))
  clear hy0 hn0
  go_wp2_with fail
  refine (HPR.out _ V2.out.below).mono ?_
  rintro e w3 ⟨rfl, b3⟩
  have V3 := Lib.hid (V2.out.go b3)
  clear b3
  go_wp2_with fail
  go_ret
  exact ⟨ret_bool HF.out.symm, V3.out.below⟩
end Go.Proofs.Ytdoobdfanalnbaa
