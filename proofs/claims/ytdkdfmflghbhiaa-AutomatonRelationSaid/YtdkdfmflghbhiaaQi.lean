/- Contracts of the program: a class more, a state is marked. -/
import Derived.Test.YtdkdfmflghbhiaaQh
import Derived.Test.YtdkdfmflghbhiaaAMk
namespace Go.Proofs.Ytdkdfmflghbhiaa
open Go.RowKit
set_option linter.unusedVariables false
set_option linter.unusedSimpArgs false
set_option maxRecDepth 100000

@[reducible] def pN (l : List Nat) : List Int := l.map Int.ofNat
@[reducible] def pS (l : List (Nat × Nat)) : List (Int × Int) := l.map fun x => ((x.1 : Int), (x.2 : Int))
theorem pN_at {l : List Nat} {j x : Nat} (h : l[j]? = some x) : (pN l)[j]? = some (x : Int) := by
  show (l.map Int.ofNat)[j]? = _
  rw [List.getElem?_map, h]; rfl
theorem pS_at {l : List (Nat × Nat)} {j a b : Nat} (h : l[j]? = some (a, b)) : (pS l)[j]? = some ((a : Int), (b : Int)) := by
  show (l.map _)[j]? = _
  rw [List.getElem?_map, h]; rfl
theorem pN_len (l : List Nat) : (pN l).length = l.length := List.length_map ..
theorem pS_len (l : List (Nat × Nat)) : (pS l).length = l.length := List.length_map ..
theorem pN_app (l : List Nat) (x : Nat) : pN (l ++ [x]) = pN l ++ [(x : Int)] := ofNat_app l x
theorem pS_app (l : List (Nat × Nat)) (a b : Nat) : pS (l ++ [(a, b)]) = pS l ++ [((a : Int), (b : Int))] := by simp [pS]
theorem pN_set (l : List Nat) (j x : Nat) : pN (l.set j x) = (pN l).set j (x : Int) := by simp [pN]
theorem pS_set (l : List (Nat × Nat)) (j a b : Nat) : pS (l.set j (a, b)) = (pS l).set j ((a : Int), (b : Int)) := by simp [pS]
theorem Hp.num_get {W w : World} {l : List Itm} {g n c i : Nat} {L : List Int} (h : Hp W l w) (hi : l[i]? = some (nums (some ⟨g, 0, none⟩) n c L)) {j : Nat} {x : Int} (hj : L[j]? = some x) :
    w.cell? ⟨g, j, none⟩ = some (.int .i64 x) ∧ w.frozen? ⟨g, j, none⟩ = false ∧ g < w.heap.size := by
  have := h.num_at hi (List.getElem?_eq_some_iff.1 hj).1
  rwa [List.getD_eq_getElem?_getD, hj] at this
theorem Hp.pair_set {W w : World} {l : List Itm} {T : TypeId} {g n c i : Nat} {ps : List (Int × Int)} (h : Hp W l w) (hi : l[i]? = some (prow T (some ⟨g, 0, none⟩) n c ps)) {j : Nat} (hj : j < ps.length) (p : Int × Int) :
    Hp W (l.set i (prow T (some ⟨g, 0, none⟩) n c (ps.set j p))) ((w.setCell ⟨g, j * 2, none⟩ (.int .i64 p.1)).setCell ⟨g, j * 2 + 1, none⟩ (.int .i64 p.2)) := by
  have hil := (List.getElem?_eq_some_iff.1 hi).1
  have h1 := h.store hi (g := g) (cap := c) rfl (j * 2) (.int .i64 p.1)
  have h2 := h1.store (i := i) (by rw [List.getElem?_set_self hil]) (g := g) (cap := c) rfl (j * 2 + 1) (.int .i64 p.2)
  have e : ∀ (ps : List (Int × Int)) (j : Nat), j < ps.length → ((pcells ps).set (j * 2) (.int .i64 p.1)).set (j * 2 + 1) (.int .i64 p.2) = pcells (ps.set j p) := by
    intro ps
    induction ps with
    | nil => intro j h; simp at h
    | cons x ps ih =>
      intro j h
      cases j with
      | zero => simp [pcells]
      | succ j =>
        have := ih j (by simpa using h)
        rw [show (j + 1) * 2 = j * 2 + 1 + 1 by omega]
        simp [pcells] at this ⊢
        exact this
  rw [List.set_set] at h2
  show Hp W (l.set i ⟨T, 2, .slice (some ⟨g, 0, none⟩) n c, n, pcells (ps.set j p)⟩) _
  rw [← e ps j hj]
  exact h2
theorem span_info : (Try.prog.info? 113).map (fun i => (i.zero, i.size, i.bytes)) = some (some (.agg #[.int .i64 0, .int .i64 0]), 2, 16) := by kernel_rfl
theorem run_app_span {W w : World} {l : List Itm} {i : Nat} {A : Option Addr} {n c : Nat} {ps : List (Int × Int)} (h : Hp W l w) (hi : l[i]? = some (prow 113 A n c ps)) (ty : TypeId) {b : Nat} (p : Int × Int) (hb : w.cell? ⟨b, 0, none⟩ = some (.int .i64 p.1)) (hb2 : w.cell? ⟨b, 1, none⟩ = some (.int .i64 p.2)) (hn : n ≤ 4000000000000) :
    ∃ g cap w', (Builtin.append_ #[95, 95] ty #[.slice A n c, .slice (some ⟨b, 0, none⟩) 1 1]).run Try.prog w = .ok (.slice (some ⟨g, 0, none⟩) (n + 1) cap) w' ∧
      Hp W (l.set i (prow 113 (some ⟨g, 0, none⟩) (n + 1) cap (ps ++ [p]))) w' ∧ w.grownBy w' (Value.slice A n c).ownBlock := by
  have := run_app h hi (t := 95) (ty := ty) Try.underlying95 span_info rfl (show 0 < 2 by decide) (by decide) (A := A) (c := c) rfl (b := b) [.int .i64 p.1, .int .i64 p.2] rfl (fun j u hu => by
    match j, hu with
    | 0, hu => injection hu with hu; subst hu; exact hb
    | 1, hu => injection hu with hu; subst hu; exact hb2
    | j + 2, hu => simp at hu) (fun u hu => by
      rcases List.mem_cons.1 hu with e | e
      · rw [e]; rfl
      · rw [List.mem_singleton.1 e]; rfl) hn
  simpa [prow, pcells_snoc] using this
/-- A partition lies there. -/
def PtIn2 (W : World) (g N : Nat) (At : Option Addr) (nt ct : Nat) (p : Pt) (tl : List Nat) (rest : List Itm) (w : World) : Prop :=
  ∃ Ao no co Ap cp Ac cc As ns cs Am nm cm, Hp W (box 97 g [.slice Ao no co, .slice Ap N cp, .slice Ac N cc, .slice As ns cs, .slice Am nm cm, .slice At nt ct] :: nums Ao no co (pN p.ord) :: nums Ap N cp (pN p.plc) :: nums Ac N cc p.cls :: prow 113 As ns cs (pS p.sp) :: nums Am nm cm (pN p.mrk) :: nums At nt ct (pN tl) :: rest) w
def PtIn (W : World) (g N : Nat) (p : Pt) (tl : List Nat) (rest : List Itm) (w : World) : Prop := ∃ At nt ct, PtIn2 W g N At nt ct p tl rest w
set_option maxHeartbeats 8000000 in
theorem padd_any (g N a b : Nat) (At : Option Addr) (nt ct : Nat) (p : Pt) (tl : List Nat) (W w : World) (rest : List Itm) (hab : a < b) (hb : b ≤ p.ord.length) (hq : ∀ (i q : Nat), p.ord[i]? = some q → q < N) (hN : N ≤ 1010000) (hol : p.ord.length ≤ 1010000) (hsl : p.sp.length ≤ 1010000) (hml : p.mrk.length ≤ 1010000) (h : PtIn2 W g N At nt ct p tl rest w) :
    Calls Try.prog 74 #[.pointer (some ⟨g, 0, none⟩), .agg #[.int .i64 (a : Int), .int .i64 (b : Int)]] w fun e w' => e = .returned (.tuple #[]) ∧ PtIn2 W g N At nt ct (p.addc a b) tl rest w' := by
  obtain ⟨Ao, no, co, Ap, cp, Ac, cc, As, ns, cs, Am, nm, cm, hv⟩ := h
  obtain ⟨wz, hwz⟩ : ∃ z, z = w.alloc (.cells #[.int .i64 (a : Int), .int .i64 (b : Int)] 113) := ⟨_, rfl⟩
  have V := Lib.hid (show Hp W (box 113 w.heap.size [.int .i64 (a : Int), .int .i64 (b : Int)] :: box 97 g [.slice Ao no co, .slice Ap N cp, .slice Ac N cc, .slice As ns cs, .slice Am nm cm, .slice At nt ct] :: nums Ao no co (pN p.ord) :: nums Ap N cp (pN p.plc) :: nums Ac N cc p.cls :: prow 113 As ns cs (pS p.sp) :: nums Am nm cm (pN p.mrk) :: nums At nt ct (pN tl) :: rest) wz by rw [hwz]; exact hv.box_new 113 [.int .i64 (a : Int), .int .i64 (b : Int)])
  have HZ := Lib.hid hwz
  have h1 := V.out.num_len (i := 2) rfl
  have h2 := V.out.num_len (i := 4) rfl
  have h3 := V.out.pair_len (i := 5) rfl
  have h4 := V.out.num_len (i := 6) rfl
  rw [pN_len] at h1 h4
  rw [pS_len] at h3
  have hcap := (V.out.cap (i := 2) (c := co) rfl rfl).1
  have hco : no ≤ co := hcap
  have hb2 : b ≤ no := by omega
  have hno : no ≤ 1010000 := by omega
  have hns : ns ≤ 1010000 := by omega
  have hnm : nm ≤ 1010000 := by omega
  have HO := Lib.hid h1
  have HC := Lib.hid h2
  have HSL := Lib.hid h3
  have HQ := Lib.hid hq
  have i1 : (a : Int) ≤ (b : Int) := by omega
  have i2 : (b : Int) ≤ (co : Int) := by omega
  have i3 : a ≤ b := by omega
  have i4 : b ≤ co := by omega
  obtain ⟨A, hA⟩ : ∃ A, A = (if co = a then Ao else Option.map (fun x => x.add a) Ao) := ⟨_, rfl⟩
  have HA := Lib.hid hA
  clear hwz h1 h2 h3 h4 hcap hq hA hb hol hsl hml hv
  go_enter Try.func74, Try.ntmps74
  go_upto_region 1 with fail
  rw [← HZ.out]
  clear HZ
  have hKp : Keep [(⟨w.heap.size, 0, none⟩, .int .i64 (a : Int)), (⟨w.heap.size, 1, none⟩, .int .i64 (b : Int)), (⟨g, 0, none⟩, .slice Ao no co)] wz := List.forall_mem_cons.2 ⟨⟨(V.out.box_at (i := 0) (j := 0) rfl rfl).1, (V.out.box_at (i := 0) (j := 0) rfl rfl).2.2⟩, List.forall_mem_cons.2 ⟨⟨(V.out.box_at (i := 0) (j := 1) rfl rfl).1, (V.out.box_at (i := 0) (j := 1) rfl rfl).2.2⟩, List.forall_mem_cons.2 ⟨⟨(V.out.box_at (i := 1) (j := 0) rfl rfl).1, (V.out.box_at (i := 1) (j := 0) rfl rfl).2.2⟩, fun _ h => by simp at h⟩⟩⟩
  refine wp_region_held_drew (S := Keep _) (by kernel_rfl) hKp.drew (fun hHeld => ?_)
  have Vd := Lib.hid (V.out.go (bdrew _))
  refine tk 0 ?_ rfl ?_ ?_; rotate_left; focus (intro w hSw; clear hSw; go_simp; try (with_reducible rfl))
  try simp only [Act.put, sA, sZ, sS]
  refine tk 1 ?_ rfl ?_ ?_; rotate_left; focus (intro w hSw; clear hSw; go_simp; try (with_reducible rfl))
  try simp only [Act.put, sA, sZ, sS]
  refine tk 2 ?_ rfl ?_ ?_; rotate_left; focus (intro w hSw; clear hSw; go_simp; try (with_reducible rfl))
  try simp only [Act.put, sA, sZ, sS]
  refine tk 3 ?_ rfl ?_ ?_; rotate_left
  · intro wl hSw
    have hSw : Keep _ wl := hSw
    have k0 : wl.cell? ⟨g, 0, none⟩ = some (.slice Ao no co) := (hSw _ (.tail _ (.tail _ (.head _)))).1
    clear hSw
    go_simp
    try (with_reducible rfl)
  try simp only [Act.put, sA, sZ, sS]
  refine tk 4 ?_ rfl ?_ ?_; rotate_left; focus (intro w hSw; clear hSw; go_simp; try (with_reducible rfl))
  try simp only [Act.put, sA, sZ, sS]
  refine tk 5 ?_ rfl ?_ ?_; rotate_left
  · intro wl hSw
    have hSw : Keep _ wl := hSw
    have k0 : wl.cell? ⟨w.heap.size, 0, none⟩ = some (.int .i64 (a : Int)) := (hSw _ (.head _)).1
    clear hSw
    go_simp
    try (with_reducible rfl)
  try simp only [Act.put, sA, sZ, sS]
  refine tk 6 ?_ rfl ?_ ?_; rotate_left; focus (intro w hSw; clear hSw; go_simp; try (with_reducible rfl))
  try simp only [Act.put, sA, sZ, sS]
  refine tk 7 ?_ rfl ?_ ?_; rotate_left
  · intro wl hSw
    have hSw : Keep _ wl := hSw
    have k0 : wl.cell? ⟨w.heap.size, 1, none⟩ = some (.int .i64 (b : Int)) := (hSw _ (.tail _ (.head _))).1
    clear hSw
    go_simp
    try (with_reducible rfl)
  try simp only [Act.put, sA, sZ, sS]
  refine tk 8 ?_ rfl ?_ ?_; rotate_left
  · intro w hSw
    clear hSw
    go_simp
    rw [← HA.out]
    try (with_reducible rfl)
  try simp only [Act.put, sA, sZ, sS]
  refine tk 9 ?_ rfl ?_ ?_; rotate_left; focus (intro w hSw; clear hSw; go_simp; try (with_reducible rfl))
  try simp only [Act.put, sA, sZ, sS]
  refine tk 10 ?_ rfl ?_ ?_; rotate_left; focus (intro w hSw; clear hSw; go_simp; try (with_reducible rfl))
  try simp only [Act.put, sA, sZ, sS]
  refine wpAnyH_done (by kernel_rfl) ?_ _
  clear hHeld hKp V
  go_wp2_with fail
  obtain ⟨go, rfl⟩ := Vd.out.head (i := 2) (A := Ao) (c := co) rfl rfl (show 0 < no by omega)
  have hA2 : A = some ⟨go, a, none⟩ := by rw [HA.out, if_neg (by omega)]; simp [Addr.add]; try omega
  obtain ⟨gc, rfl⟩ := Vd.out.head (i := 4) (A := Ac) (c := cc) rfl rfl (show 0 < N by have := HQ.out 0 _ (List.getElem?_eq_getElem (show 0 < p.ord.length by rw [HO.out]; omega)); omega)
  subst hA2
  go_loopw [16] (fun cv wr => ∃ j : Nat, cv = .int .i64 (j : Int) ∧ j ≤ b - a ∧ Hp W (box 113 w.heap.size [.int .i64 (a : Int), .int .i64 (b : Int)] :: box 97 g [.slice (some ⟨go, 0, none⟩) no co, .slice Ap N cp, .slice (some ⟨gc, 0, none⟩) N cc, .slice As ns cs, .slice Am nm cm, .slice At nt ct] :: nums (some ⟨go, 0, none⟩) no co (pN p.ord) :: nums Ap N cp (pN p.plc) :: nums (some ⟨gc, 0, none⟩) N cc (Pt.setAll ((Pt.part p.ord a b).take j) p.sp.length p.cls) :: prow 113 As ns cs (pS p.sp) :: nums Am nm cm (pN p.mrk) :: nums At nt ct (pN tl) :: rest) wr) (fun cv _ => (b - a) - (intOf cv).toNat)
  case atStart => exact ⟨0, rfl, Nat.zero_le _, Vd.out⟩
  case round =>
    obtain ⟨j, rfl, hjn, hV⟩ := hrel
    obtain ⟨wi, rfl⟩ : ∃ wi : World, wi = wr := ⟨_, rfl⟩
    clear Vd
    have V := Lib.hid hV
    clear hV
    by_cases hlt : j < b - a
    · obtain ⟨q, hord⟩ : ∃ q, p.ord[a + j]? = some q := ⟨_, List.getElem?_eq_getElem (by rw [HO.out]; omega)⟩
      have hqN := HQ.out _ _ hord
      obtain ⟨x0, _, x9⟩ := V.out.num_get (i := 2) rfl (pN_at hord)
      have HORD := Lib.hid hord
      clear hord
      have hcl : q < (Pt.setAll ((Pt.part p.ord a b).take j) p.sp.length p.cls).length := by rw [Pt.setAll_len, HC.out]; exact hqN
      have hq2 : (q : Int) < (N : Int) := by omega
      have HE := Lib.hid (show (Pt.setAll ((Pt.part p.ord a b).take j) p.sp.length p.cls).set q (ns : Int) = Pt.setAll ((Pt.part p.ord a b).take (j + 1)) p.sp.length p.cls by rw [List.take_add_one, Pt.part_at hlt, HORD.out]; simp only [Option.toList]; rw [Pt.setAll_snoc, HSL.out])
      go_wp2_with fail
      have hKp : Keep [(⟨g, 2, none⟩, .slice (some ⟨gc, 0, none⟩) N cc), (⟨g, 3, none⟩, .slice As ns cs)] wi := List.forall_mem_cons.2 ⟨⟨(V.out.box_at (i := 1) (j := 2) rfl rfl).1, (V.out.box_at (i := 1) (j := 2) rfl rfl).2.2⟩, List.forall_mem_cons.2 ⟨⟨(V.out.box_at (i := 1) (j := 3) rfl rfl).1, (V.out.box_at (i := 1) (j := 3) rfl rfl).2.2⟩, fun _ h => by simp at h⟩⟩
      refine wp_region_held_drew (S := Keep _) (by kernel_rfl) hKp.drew (fun hHeld => ?_)
      have Vd := Lib.hid (V.out.go (bdrew _))
      refine tk 0 ?_ rfl ?_ ?_; rotate_left; focus (intro w hSw; clear hSw; go_simp; try (with_reducible rfl))
      try simp only [Act.put, sA, sZ, sS]
      refine tk 1 ?_ rfl ?_ ?_; rotate_left; focus (intro w hSw; clear hSw; go_simp; try (with_reducible rfl))
      try simp only [Act.put, sA, sZ, sS]
      refine tk 2 ?_ rfl ?_ ?_; rotate_left; focus (intro w hSw; clear hSw; go_simp; try (with_reducible rfl))
      try simp only [Act.put, sA, sZ, sS]
      refine tk 3 ?_ rfl ?_ ?_; rotate_left
      · intro wl hSw
        have hSw : Keep _ wl := hSw
        have k0 : wl.cell? ⟨g, 2, none⟩ = some (.slice (some ⟨gc, 0, none⟩) N cc) := (hSw _ (.head _)).1
        clear hSw
        go_simp
        try (with_reducible rfl)
      try simp only [Act.put, sA, sZ, sS]
      refine tk 4 ?_ rfl ?_ ?_; rotate_left; focus (intro w hSw; clear hSw; go_simp; try (with_reducible rfl))
      try simp only [Act.put, sA, sZ, sS]
      refine tk 5 ?_ rfl ?_ ?_; rotate_left; focus (intro w hSw; clear hSw; go_simp; try (with_reducible rfl))
      try simp only [Act.put, sA, sZ, sS]
      refine tk 6 ?_ rfl ?_ ?_; rotate_left; focus (intro w hSw; clear hSw; go_simp; try (with_reducible rfl))
      try simp only [Act.put, sA, sZ, sS]
      refine tk 7 ?_ rfl ?_ ?_; rotate_left; focus (intro w hSw; clear hSw; go_simp; try (with_reducible rfl))
      try simp only [Act.put, sA, sZ, sS]
      refine tk 8 ?_ rfl ?_ ?_; rotate_left
      · intro wl hSw
        have hSw : Keep _ wl := hSw
        have k0 : wl.cell? ⟨g, 3, none⟩ = some (.slice As ns cs) := (hSw _ (.tail _ (.head _))).1
        clear hSw
        go_simp
        try (with_reducible rfl)
      try simp only [Act.put, sA, sZ, sS]
      refine tk 9 ?_ rfl ?_ ?_; rotate_left; focus (intro w hSw; clear hSw; go_simp; try (with_reducible rfl))
      try simp only [Act.put, sA, sZ, sS]
      refine tk 10 ?_ rfl ?_ ?_; rotate_left; focus (intro w hSw; clear hSw; go_simp; try (with_reducible rfl))
      try simp only [Act.put, sA, sZ, sS]
      refine wpAnyH_ready (rs := [11]) (by kernel_rfl) (by simp) ?_
      refine AllReadyH.cons (List.getElem?_toArray.trans rfl) (fun K hK => ?_) AllReadyH.nil
      obtain ⟨r0, o0, z0⟩ := Vd.out.num_at (i := 4) rfl hcl
      have VE := Lib.hid (Vd.out.num_set (i := 4) rfl q (ns : Int))
      go_simp
      refine hK.out _ _ (List.forall_mem_cons.2 ⟨⟨(VE.out.box_at (i := 1) (j := 2) rfl rfl).1, (VE.out.box_at (i := 1) (j := 2) rfl rfl).2.2⟩, List.forall_mem_cons.2 ⟨⟨(VE.out.box_at (i := 1) (j := 3) rfl rfl).1, (VE.out.box_at (i := 1) (j := 3) rfl rfl).2.2⟩, fun _ h => by simp at h⟩⟩) (fun hHeld => ?_)
      clear hK K
      try simp only [Act.put, sA, sZ, sS]
      refine wpAnyH_done (by kernel_rfl) ?_ _
      have HV2 := Lib.hid (show Hp W (box 113 w.heap.size [.int .i64 (a : Int), .int .i64 (b : Int)] :: box 97 g [.slice (some ⟨go, 0, none⟩) no co, .slice Ap N cp, .slice (some ⟨gc, 0, none⟩) N cc, .slice As ns cs, .slice Am nm cm, .slice At nt ct] :: nums (some ⟨go, 0, none⟩) no co (pN p.ord) :: nums Ap N cp (pN p.plc) :: nums (some ⟨gc, 0, none⟩) N cc (Pt.setAll ((Pt.part p.ord a b).take (j + 1)) p.sp.length p.cls) :: prow 113 As ns cs (pS p.sp) :: nums Am nm cm (pN p.mrk) :: nums At nt ct (pN tl) :: rest) _ from HE.out ▸ VE.out)
      clear VE
      go_wp2_with fail
      go_roundw
      case rel => exact ⟨j + 1, by go_num, by omega, HV2.out⟩
      case measure => simp [intOf]; omega
    · obtain rfl : j = b - a := by omega
      rw [List.take_of_length_le (by rw [Pt.part_len (by rw [HO.out]; exact hb2)]; omega)] at V
      go_upto_region 6 with fail
      go_cut [] (fun wx => ∃ g4 cap4, Hp W (box 97 g [.slice (some ⟨go, 0, none⟩) no co, .slice Ap N cp, .slice (some ⟨gc, 0, none⟩) N cc, .slice (some ⟨g4, 0, none⟩) (ns + 1) cap4, .slice Am nm cm, .slice At nt ct] :: nums (some ⟨go, 0, none⟩) no co (pN p.ord) :: nums Ap N cp (pN p.plc) :: nums (some ⟨gc, 0, none⟩) N cc (Pt.setAll (Pt.part p.ord a b) p.sp.length p.cls) :: prow 113 (some ⟨g4, 0, none⟩) (ns + 1) cap4 (pS (p.sp ++ [(a, b)])) :: nums Am nm cm (pN p.mrk) :: nums At nt ct (pN tl) :: rest) wx)
      case first =>
        have hKp : Keep [(⟨w.heap.size, 0, none⟩, .int .i64 (a : Int)), (⟨w.heap.size, 1, none⟩, .int .i64 (b : Int))] wi := List.forall_mem_cons.2 ⟨⟨(V.out.box_at (i := 0) (j := 0) rfl rfl).1, (V.out.box_at (i := 0) (j := 0) rfl rfl).2.2⟩, List.forall_mem_cons.2 ⟨⟨(V.out.box_at (i := 0) (j := 1) rfl rfl).1, (V.out.box_at (i := 0) (j := 1) rfl rfl).2.2⟩, fun _ h => by simp at h⟩⟩
        refine wp_region_held_drew (S := Keep _) (by kernel_rfl) hKp.drew (fun hHeld => ?_)
        have Vd := Lib.hid (V.out.go (bdrew _))
        refine tk 0 ?_ rfl ?_ ?_; rotate_left; focus (intro w hSw; clear hSw; go_simp; try (with_reducible rfl))
        try simp only [Act.put, sA, sZ, sS]
        refine tk 1 ?_ rfl ?_ ?_; rotate_left; focus (intro w hSw; clear hSw; go_simp; try (with_reducible rfl))
        try simp only [Act.put, sA, sZ, sS]
        refine tk 2 ?_ rfl ?_ ?_; rotate_left; focus (intro w hSw; clear hSw; go_simp; try (with_reducible rfl))
        try simp only [Act.put, sA, sZ, sS]
        refine tk 3 ?_ rfl ?_ ?_; rotate_left; focus (intro w hSw; clear hSw; go_simp; try (with_reducible rfl))
        try simp only [Act.put, sA, sZ, sS]
        refine tk 5 ?_ rfl ?_ ?_; rotate_left
        · intro wl hSw
          have hSw : Keep _ wl := hSw
          have k0 : wl.cell? ⟨w.heap.size, 0, none⟩ = some (.int .i64 (a : Int)) := (hSw _ (.head _)).1
          have k1 : wl.cell? ⟨w.heap.size, 1, none⟩ = some (.int .i64 (b : Int)) := (hSw _ (.tail _ (.head _))).1
          clear hSw
          go_simp
          try (with_reducible rfl)
        try simp only [Act.put, sA, sZ, sS]
        refine wpAnyH_ready (rs := [4, 6]) (by kernel_rfl) (by simp) ?_
        refine AllReadyH.cons (List.getElem?_toArray.trans rfl) (fun K hK => ?_) ?_
        · have yL := (Vd.out.box_at (i := 1) (j := 3) rfl rfl).1
          go_simp
          refine hK.out _ _ (hHeld) (fun hHeld => ?_)
          clear hK K
          try simp only [Act.put, sA, sZ, sS]
          refine wpAnyH_ready (rs := [6]) (by kernel_rfl) (by simp) ?_
          refine AllReadyH.cons (List.getElem?_toArray.trans rfl) (fun K hK => ?_) AllReadyH.nil
          obtain ⟨w_4_6, hw_4_6⟩ : ∃ z, z = (wi.alloc (.cells #[.int .i64 (a : Int), .int .i64 (b : Int)] 113)).drew := ⟨_, rfl⟩
          have V_4_6 := Lib.hid (show Hp _ (box 113 wi.heap.size [.int .i64 (a : Int), .int .i64 (b : Int)] :: _) w_4_6 by rw [hw_4_6]; exact Vd.out.box_new 113 [.int .i64 (a : Int), .int .i64 (b : Int)])
          have Bw_4_6 := Lib.hid (show Below wi.drew.heap.size wi.drew w_4_6 by rw [hw_4_6]; exact bnew _ _)
          go_simp
          rw [← hw_4_6]
          clear hw_4_6
          refine hK.out _ _ (hHeld.go Bw_4_6.out) (fun hHeld => ?_)
          clear hK K
          try simp only [Act.put, sA, sZ, sS]
          refine wpAnyH_ready (rs := [7]) (by kernel_rfl) (by simp) ?_
          refine AllReadyH.cons (List.getElem?_toArray.trans rfl) (fun K hK => ?_) AllReadyH.nil
          have y0 := (V_4_6.out.box_at (i := 0) (j := 0) rfl rfl).1
          have y1 := (V_4_6.out.box_at (i := 0) (j := 1) rfl rfl).1
          obtain ⟨g4, cap4, w4, hr4, hv4, _⟩ := run_app_span V_4_6.out (i := 6) rfl 95 ((a : Int), (b : Int)) y0 y1 (by omega)
          have V4 := Lib.hid hv4.tail
          refine step_app_run rfl (.tmp 36) (.tmp 38) 95 rfl hr4 rfl rfl ?_
          refine hK.out _ _ (List.forall_mem_cons.2 ⟨⟨(V4.out.box_at (i := 0) (j := 0) rfl rfl).1, (V4.out.box_at (i := 0) (j := 0) rfl rfl).2.2⟩, List.forall_mem_cons.2 ⟨⟨(V4.out.box_at (i := 0) (j := 1) rfl rfl).1, (V4.out.box_at (i := 0) (j := 1) rfl rfl).2.2⟩, fun _ h => by simp at h⟩⟩) (fun hHeld => ?_)
          clear hK K
          try simp only [Act.put, sA, sZ, sS]
          refine tk 8 ?_ rfl ?_ ?_; rotate_left; focus (intro w hSw; clear hSw; go_simp; try (with_reducible rfl))
          try simp only [Act.put, sA, sZ, sS]
          refine tk 9 ?_ rfl ?_ ?_; rotate_left; focus (intro w hSw; clear hSw; go_simp; try (with_reducible rfl))
          try simp only [Act.put, sA, sZ, sS]
          refine wpAnyH_ready (rs := [10]) (by kernel_rfl) (by simp) ?_
          refine AllReadyH.cons (List.getElem?_toArray.trans rfl) (fun K hK => ?_) AllReadyH.nil
          obtain ⟨r0, o0, z0⟩ := V4.out.box_at (i := 1) (j := 3) rfl rfl
          have V5 := Lib.hid (V4.out.box_set (i := 1) rfl 3 (.slice (some ⟨g4, 0, none⟩) (ns + 1) cap4))
          go_simp
          refine hK.out _ _ (List.forall_mem_cons.2 ⟨⟨(V5.out.box_at (i := 0) (j := 0) rfl rfl).1, (V5.out.box_at (i := 0) (j := 0) rfl rfl).2.2⟩, List.forall_mem_cons.2 ⟨⟨(V5.out.box_at (i := 0) (j := 1) rfl rfl).1, (V5.out.box_at (i := 0) (j := 1) rfl rfl).2.2⟩, fun _ h => by simp at h⟩⟩) (fun hHeld => ?_)
          clear hK K
          try simp only [Act.put, sA, sZ, sS]
          refine wpAnyH_done (by kernel_rfl) ?_ _
          go_wp2_with fail
          go_meet
          exact ⟨g4, cap4, by have := V5.out.tail; rw [pS_app]; exact this⟩
        refine AllReadyH.cons (List.getElem?_toArray.trans rfl) (fun K hK => ?_) ?_
        · obtain ⟨w_6, hw_6⟩ : ∃ z, z = (wi.alloc (.cells #[.int .i64 (a : Int), .int .i64 (b : Int)] 113)).drew := ⟨_, rfl⟩
          have V_6 := Lib.hid (show Hp _ (box 113 wi.heap.size [.int .i64 (a : Int), .int .i64 (b : Int)] :: _) w_6 by rw [hw_6]; exact Vd.out.box_new 113 [.int .i64 (a : Int), .int .i64 (b : Int)])
          have Bw_6 := Lib.hid (show Below wi.drew.heap.size wi.drew w_6 by rw [hw_6]; exact bnew _ _)
          go_simp
          rw [← hw_6]
          clear hw_6
          refine hK.out _ _ (hHeld.go Bw_6.out) (fun hHeld => ?_)
          clear hK K
          try simp only [Act.put, sA, sZ, sS]
          refine wpAnyH_ready (rs := [4]) (by kernel_rfl) (by simp) ?_
          refine AllReadyH.cons (List.getElem?_toArray.trans rfl) (fun K hK => ?_) AllReadyH.nil
          have yL := (V_6.out.box_at (i := 2) (j := 3) rfl rfl).1
          go_simp
          refine hK.out _ _ (hHeld) (fun hHeld => ?_)
          clear hK K
          try simp only [Act.put, sA, sZ, sS]
          refine wpAnyH_ready (rs := [7]) (by kernel_rfl) (by simp) ?_
          refine AllReadyH.cons (List.getElem?_toArray.trans rfl) (fun K hK => ?_) AllReadyH.nil
          have y0 := (V_6.out.box_at (i := 0) (j := 0) rfl rfl).1
          have y1 := (V_6.out.box_at (i := 0) (j := 1) rfl rfl).1
          obtain ⟨g4, cap4, w4, hr4, hv4, _⟩ := run_app_span V_6.out (i := 6) rfl 95 ((a : Int), (b : Int)) y0 y1 (by omega)
          have V4 := Lib.hid hv4.tail
          refine step_app_run rfl (.tmp 36) (.tmp 38) 95 rfl hr4 rfl rfl ?_
          refine hK.out _ _ (List.forall_mem_cons.2 ⟨⟨(V4.out.box_at (i := 0) (j := 0) rfl rfl).1, (V4.out.box_at (i := 0) (j := 0) rfl rfl).2.2⟩, List.forall_mem_cons.2 ⟨⟨(V4.out.box_at (i := 0) (j := 1) rfl rfl).1, (V4.out.box_at (i := 0) (j := 1) rfl rfl).2.2⟩, fun _ h => by simp at h⟩⟩) (fun hHeld => ?_)
          clear hK K
          try simp only [Act.put, sA, sZ, sS]
          refine tk 8 ?_ rfl ?_ ?_; rotate_left; focus (intro w hSw; clear hSw; go_simp; try (with_reducible rfl))
          try simp only [Act.put, sA, sZ, sS]
          refine tk 9 ?_ rfl ?_ ?_; rotate_left; focus (intro w hSw; clear hSw; go_simp; try (with_reducible rfl))
          try simp only [Act.put, sA, sZ, sS]
          refine wpAnyH_ready (rs := [10]) (by kernel_rfl) (by simp) ?_
          refine AllReadyH.cons (List.getElem?_toArray.trans rfl) (fun K hK => ?_) AllReadyH.nil
          obtain ⟨r0, o0, z0⟩ := V4.out.box_at (i := 1) (j := 3) rfl rfl
          have V5 := Lib.hid (V4.out.box_set (i := 1) rfl 3 (.slice (some ⟨g4, 0, none⟩) (ns + 1) cap4))
          go_simp
          refine hK.out _ _ (List.forall_mem_cons.2 ⟨⟨(V5.out.box_at (i := 0) (j := 0) rfl rfl).1, (V5.out.box_at (i := 0) (j := 0) rfl rfl).2.2⟩, List.forall_mem_cons.2 ⟨⟨(V5.out.box_at (i := 0) (j := 1) rfl rfl).1, (V5.out.box_at (i := 0) (j := 1) rfl rfl).2.2⟩, fun _ h => by simp at h⟩⟩) (fun hHeld => ?_)
          clear hK K
          try simp only [Act.put, sA, sZ, sS]
          refine wpAnyH_done (by kernel_rfl) ?_ _
          go_wp2_with fail
          go_meet
          exact ⟨g4, cap4, by have := V5.out.tail; rw [pS_app]; exact this⟩
        exact AllReadyH.nil
      case rest =>
        obtain ⟨g4, cap4, hv⟩ := hcut
        have V6 := Lib.hid hv
        clear hv V
        obtain ⟨r0, o0, z0⟩ := V6.out.box_at (i := 0) (j := 4) rfl rfl
        obtain ⟨wy, hwy⟩ : ∃ z, z = wc.alloc (.cells #[.int .i64 0] 3) := ⟨_, rfl⟩
        have V7 := Lib.hid (show Hp W (box 3 wc.heap.size [.int .i64 0] :: box 97 g [.slice (some ⟨go, 0, none⟩) no co, .slice Ap N cp, .slice (some ⟨gc, 0, none⟩) N cc, .slice (some ⟨g4, 0, none⟩) (ns + 1) cap4, .slice Am nm cm, .slice At nt ct] :: nums (some ⟨go, 0, none⟩) no co (pN p.ord) :: nums Ap N cp (pN p.plc) :: nums (some ⟨gc, 0, none⟩) N cc (Pt.setAll (Pt.part p.ord a b) p.sp.length p.cls) :: prow 113 (some ⟨g4, 0, none⟩) (ns + 1) cap4 (pS (p.sp ++ [(a, b)])) :: nums Am nm cm (pN p.mrk) :: nums At nt ct (pN tl) :: rest) wy by rw [hwy]; exact V6.out.box_new 3 [.int .i64 0])
        have y0 := (V7.out.box_at (i := 0) (j := 0) rfl rfl).1
        obtain ⟨g5, cap5, w5, hr5, hv5, hg5⟩ := run_app_num V7.out (i := 6) rfl 39 0 y0 (by omega)
        have V8 := Lib.hid hv5.tail
        have HY := Lib.hid hwy
        have HR := Lib.hid hr5
        obtain ⟨r1, o1, z1⟩ := V8.out.box_at (i := 0) (j := 4) rfl rfl
        clear hwy y0 hv5 hg5 hr5
        go_wp2_with (at_builtin; rw [← HY.out]; refine wpList_app_run rfl (.tmp 46) (.tmp 47) 39 rfl HR.out rfl rfl ?_)
        have V9 := V8.out.box_set (i := 0) rfl 4 (.slice (some ⟨g5, 0, none⟩) (nm + 1) cap5)
        go_end0
        exact ⟨rfl, _, _, _, _, _, _, _, _, _, _, _, _, _, by have := V9; unfold Pt.addc; dsimp only; rw [show pN (p.mrk ++ [0]) = pN p.mrk ++ [0] from pN_app p.mrk 0]; exact this⟩
set_option maxHeartbeats 16000000 in
theorem mark_any (g N : Nat) (p : Pt) (tl : List Nat) (q i c a b m r : Nat) (W w : World) (rest : List Itm) (hi : p.ord[i]? = some q) (hp : p.plc[q]? = some i) (hcl : p.cls[q]? = some (c : Int)) (hc : p.sp[c]? = some (a, b)) (hm : p.mrk[c]? = some m) (hr : p.ord[a + m]? = some r) (hrN : r < N)
    (hN : N ≤ 1010000) (hol : p.ord.length ≤ 1010000) (hsl : p.sp.length ≤ 1010000) (hml : p.mrk.length ≤ 1010000) (htl : tl.length ≤ 1010000) (h : PtIn W g N p tl rest w) :
    Calls Try.prog 77 #[.pointer (some ⟨g, 0, none⟩), .int .i64 (q : Int)] w fun e w' => e = .returned (.tuple #[]) ∧ PtIn W g N (p.marked q i c (a + m) m r) (if m = 0 then tl ++ [c] else tl) rest w' := by
  obtain ⟨At, nt, ct, Ao, no, co, Ap, cp, Ac, cc, As, ns, cs, Am, nm, cm, hv⟩ := h
  have V := Lib.hid hv
  have h1 := V.out.num_len (i := 1) rfl
  have h2 := V.out.num_len (i := 2) rfl
  have h3 := V.out.num_len (i := 3) rfl
  have h4 := V.out.pair_len (i := 4) rfl
  have h5 := V.out.num_len (i := 5) rfl
  have h6 := V.out.num_len (i := 6) rfl
  rw [pN_len] at h1 h2 h5 h6
  rw [pS_len] at h4
  have j1 := (List.getElem?_eq_some_iff.1 hi).1
  have j2 := (List.getElem?_eq_some_iff.1 hp).1
  have j3 := (List.getElem?_eq_some_iff.1 hcl).1
  have j4 := (List.getElem?_eq_some_iff.1 hc).1
  have j5 := (List.getElem?_eq_some_iff.1 hm).1
  have j6 := (List.getElem?_eq_some_iff.1 hr).1
  obtain ⟨go, rfl⟩ := V.out.head (i := 1) (A := Ao) (c := co) rfl rfl (show 0 < no by omega)
  obtain ⟨gp, rfl⟩ := V.out.head (i := 2) (A := Ap) (c := cp) rfl rfl (show 0 < N by omega)
  obtain ⟨gc, rfl⟩ := V.out.head (i := 3) (A := Ac) (c := cc) rfl rfl (show 0 < N by omega)
  obtain ⟨gs, rfl⟩ := V.out.head (i := 4) (A := As) (c := cs) rfl rfl (show 0 < ns by omega)
  obtain ⟨gm, rfl⟩ := V.out.head (i := 5) (A := Am) (c := cm) rfl rfl (show 0 < nm by omega)
  obtain ⟨at', hat⟩ : ∃ x, x = a + m := ⟨_, rfl⟩
  have k1 : q < N := by omega
  have k2 : i < no := by omega
  have k3 : at' < no := by omega
  have k4 : c < ns := by omega
  have k5 : c < nm := by omega
  have K1 : (q : Int) < (N : Int) := by omega
  have K2 : (i : Int) < (no : Int) := by omega
  have K3 : (at' : Int) < (no : Int) := by omega
  have K4 : (c : Int) < (ns : Int) := by omega
  have K5 : (c : Int) < (nm : Int) := by omega
  have K6 : (r : Int) < (N : Int) := by omega
  have hno : no ≤ 1010000 := by omega
  have hns : ns ≤ 1010000 := by omega
  have hnm : nm ≤ 1010000 := by omega
  have hnt : nt ≤ 1010000 := by omega
  have hw : IntKind.i64.wrap ((a : Int) + (m : Int)) = (at' : Int) := by rw [show (a : Int) + (m : Int) = (at' : Int) by omega]; exact IntWalk.i64_in _ (by omega)
  have hw2 : IntKind.i64.wrap ((m : Int) + 1) = (m : Int) + 1 := IntWalk.i64_in _ (by omega)
  have HL1 := Lib.hid h1
  have HL2 := Lib.hid h2
  rw [← hat] at hr ⊢
  have HI := Lib.hid hi
  have HP := Lib.hid hp
  have HCL := Lib.hid hcl
  have HC := Lib.hid hc
  have HM := Lib.hid hm
  have HR := Lib.hid hr
  obtain ⟨b2, _, b9⟩ := V.out.box_at (i := 0) (j := 2) rfl rfl
  obtain ⟨b4, _, _⟩ := V.out.box_at (i := 0) (j := 4) rfl rfl
  obtain ⟨x3, _, x9⟩ := V.out.num_get (i := 3) rfl hcl
  obtain ⟨x5, _, y9⟩ := V.out.num_get (i := 5) rfl (pN_at hm)
  clear hv h1 h2 h3 h4 h5 h6 j1 j2 j3 j4 j5 j6 hat hr hi hp hcl hc hm hol hsl hml htl
  go_enter Try.func77, Try.ntmps77
  by_cases hm0 : m = 0
  · have e1 : ((m : Int) == 0) = true := beq_yes (by omega)
    have HM0 := Lib.hid hm0
    obtain ⟨wy, hwy⟩ : ∃ z, z = w.alloc (.cells #[.int .i64 (c : Int)] 3) := ⟨_, rfl⟩
    have V1 := Lib.hid (show Hp W (box 3 w.heap.size [.int .i64 (c : Int)] :: box 97 g [.slice (some ⟨go, 0, none⟩) no co, .slice (some ⟨gp, 0, none⟩) N cp, .slice (some ⟨gc, 0, none⟩) N cc, .slice (some ⟨gs, 0, none⟩) ns cs, .slice (some ⟨gm, 0, none⟩) nm cm, .slice At nt ct] :: nums (some ⟨go, 0, none⟩) no co (pN p.ord) :: nums (some ⟨gp, 0, none⟩) N cp (pN p.plc) :: nums (some ⟨gc, 0, none⟩) N cc p.cls :: prow 113 (some ⟨gs, 0, none⟩) ns cs (pS p.sp) :: nums (some ⟨gm, 0, none⟩) nm cm (pN p.mrk) :: nums At nt ct (pN tl) :: rest) wy by rw [hwy]; exact V.out.box_new 3 [.int .i64 (c : Int)])
    have y0 := (V1.out.box_at (i := 0) (j := 0) rfl rfl).1
    obtain ⟨g5, cap5, w5, hr5, hv5, hg5⟩ := run_app_num V1.out (i := 7) rfl 39 (c : Int) y0 (by omega)
    have V2 := Lib.hid hv5.tail
    have HY := Lib.hid hwy
    have HR5 := Lib.hid hr5
    obtain ⟨b5, _, _⟩ := V.out.box_at (i := 0) (j := 5) rfl rfl
    obtain ⟨r1, o1, z1⟩ := V2.out.box_at (i := 0) (j := 5) rfl rfl
    clear hwy y0 hv5 hg5 hr5 hm0 V1 V
    rw [if_pos HM0.out]
    go_upto_region 3 with (at_builtin; rw [← HY.out]; refine wpList_app_run rfl (.tmp 26) (.tmp 28) 39 rfl HR5.out rfl rfl ?_)
    obtain ⟨wq, hwq⟩ : ∃ z, z = w5.setCell ⟨g, 5, none⟩ (.slice (some ⟨g5, 0, none⟩) (nt + 1) cap5) := ⟨_, rfl⟩
    rw [← hwq]
    have VQ := Lib.hid (show Hp W (box 97 g [.slice (some ⟨go, 0, none⟩) no co, .slice (some ⟨gp, 0, none⟩) N cp, .slice (some ⟨gc, 0, none⟩) N cc, .slice (some ⟨gs, 0, none⟩) ns cs, .slice (some ⟨gm, 0, none⟩) nm cm, .slice (some ⟨g5, 0, none⟩) (nt + 1) cap5] :: nums (some ⟨go, 0, none⟩) no co (pN p.ord) :: nums (some ⟨gp, 0, none⟩) N cp (pN p.plc) :: nums (some ⟨gc, 0, none⟩) N cc p.cls :: prow 113 (some ⟨gs, 0, none⟩) ns cs (pS p.sp) :: nums (some ⟨gm, 0, none⟩) nm cm (pN p.mrk) :: nums (some ⟨g5, 0, none⟩) (nt + 1) cap5 (pN (tl ++ [c])) :: rest) wq by rw [hwq]; have := V2.out.box_set (i := 0) rfl 5 (.slice (some ⟨g5, 0, none⟩) (nt + 1) cap5); rw [pN_app]; exact this)
    clear V2 HR5 HY r1 o1 z1 b2 b4 b5 b9 x3 x5 x9 y9 hwq
    go_cut [5] (fun s5 wx => s5 = .int .i64 (at' : Int) ∧ Hp W (box 97 g [.slice (some ⟨go, 0, none⟩) no co, .slice (some ⟨gp, 0, none⟩) N cp, .slice (some ⟨gc, 0, none⟩) N cc, .slice (some ⟨gs, 0, none⟩) ns cs, .slice (some ⟨gm, 0, none⟩) nm cm, .slice (some ⟨g5, 0, none⟩) (nt + 1) cap5] :: nums (some ⟨go, 0, none⟩) no co (pN p.ord) :: nums (some ⟨gp, 0, none⟩) N cp (pN p.plc) :: nums (some ⟨gc, 0, none⟩) N cc p.cls :: prow 113 (some ⟨gs, 0, none⟩) ns cs (pS p.sp) :: nums (some ⟨gm, 0, none⟩) nm cm (pN p.mrk) :: nums (some ⟨g5, 0, none⟩) (nt + 1) cap5 (pN (tl ++ [c])) :: rest) wx)
    case first =>
      have hKp : Keep [(⟨g, 3, none⟩, .slice (some ⟨gs, 0, none⟩) ns cs), (⟨g, 4, none⟩, .slice (some ⟨gm, 0, none⟩) nm cm), (⟨gs, c * 2, none⟩, .int .i64 (a : Int)), (⟨gm, c, none⟩, .int .i64 (m : Int))] wq := List.forall_mem_cons.2 ⟨⟨(VQ.out.box_at (i := 0) (j := 3) rfl rfl).1, (VQ.out.box_at (i := 0) (j := 3) rfl rfl).2.2⟩, List.forall_mem_cons.2 ⟨⟨(VQ.out.box_at (i := 0) (j := 4) rfl rfl).1, (VQ.out.box_at (i := 0) (j := 4) rfl rfl).2.2⟩, List.forall_mem_cons.2 ⟨⟨(VQ.out.pair_at (i := 4) rfl (pS_at HC.out)).1, (VQ.out.pair_at (i := 4) rfl (pS_at HC.out)).2.2⟩, List.forall_mem_cons.2 ⟨⟨(VQ.out.num_get (i := 5) rfl (pN_at HM.out)).1, (VQ.out.num_get (i := 5) rfl (pN_at HM.out)).2.2⟩, fun _ h => by simp at h⟩⟩⟩⟩
      refine wp_region_held_drew (S := Keep _) (by kernel_rfl) hKp.drew (fun hHeld => ?_)
      have VQd := Lib.hid (VQ.out.go (bdrew _))
      refine tk 0 ?_ rfl ?_ ?_; rotate_left; focus (intro w hSw; clear hSw; go_simp; try (with_reducible rfl))
      try simp only [Act.put, sA, sZ, sS]
      refine tk 1 ?_ rfl ?_ ?_; rotate_left; focus (intro w hSw; clear hSw; go_simp; try (with_reducible rfl))
      try simp only [Act.put, sA, sZ, sS]
      refine tk 2 ?_ rfl ?_ ?_; rotate_left; focus (intro w hSw; clear hSw; go_simp; try (with_reducible rfl))
      try simp only [Act.put, sA, sZ, sS]
      refine tk 3 ?_ rfl ?_ ?_; rotate_left
      · intro wl hSw
        have hSw : Keep _ wl := hSw
        have k0 : wl.cell? ⟨g, 3, none⟩ = some (.slice (some ⟨gs, 0, none⟩) ns cs) := (hSw _ (.head _)).1
        clear hSw
        go_simp
        try (with_reducible rfl)
      try simp only [Act.put, sA, sZ, sS]
      refine tk 4 ?_ rfl ?_ ?_; rotate_left; focus (intro w hSw; clear hSw; go_simp; try (with_reducible rfl))
      try simp only [Act.put, sA, sZ, sS]
      refine tk 5 ?_ rfl ?_ ?_; rotate_left; focus (intro w hSw; clear hSw; go_simp; try (with_reducible rfl))
      try simp only [Act.put, sA, sZ, sS]
      refine tk 6 ?_ rfl ?_ ?_; rotate_left; focus (intro w hSw; clear hSw; go_simp; try (with_reducible rfl))
      try simp only [Act.put, sA, sZ, sS]
      refine tk 7 ?_ rfl ?_ ?_; rotate_left
      · intro wl hSw
        have hSw : Keep _ wl := hSw
        have k0 : wl.cell? ⟨gs, c * 2, none⟩ = some (.int .i64 (a : Int)) := (hSw _ (.tail _ (.tail _ (.head _)))).1
        clear hSw
        go_simp
        try (with_reducible rfl)
      try simp only [Act.put, sA, sZ, sS]
      refine tk 8 ?_ rfl ?_ ?_; rotate_left; focus (intro w hSw; clear hSw; go_simp; try (with_reducible rfl))
      try simp only [Act.put, sA, sZ, sS]
      refine tk 9 ?_ rfl ?_ ?_; rotate_left; focus (intro w hSw; clear hSw; go_simp; try (with_reducible rfl))
      try simp only [Act.put, sA, sZ, sS]
      refine tk 10 ?_ rfl ?_ ?_; rotate_left; focus (intro w hSw; clear hSw; go_simp; try (with_reducible rfl))
      try simp only [Act.put, sA, sZ, sS]
      refine tk 11 ?_ rfl ?_ ?_; rotate_left
      · intro wl hSw
        have hSw : Keep _ wl := hSw
        have k0 : wl.cell? ⟨g, 4, none⟩ = some (.slice (some ⟨gm, 0, none⟩) nm cm) := (hSw _ (.tail _ (.head _))).1
        clear hSw
        go_simp
        try (with_reducible rfl)
      try simp only [Act.put, sA, sZ, sS]
      refine tk 12 ?_ rfl ?_ ?_; rotate_left; focus (intro w hSw; clear hSw; go_simp; try (with_reducible rfl))
      try simp only [Act.put, sA, sZ, sS]
      refine tk 13 ?_ rfl ?_ ?_; rotate_left; focus (intro w hSw; clear hSw; go_simp; try (with_reducible rfl))
      try simp only [Act.put, sA, sZ, sS]
      refine tk 14 ?_ rfl ?_ ?_; rotate_left
      · intro wl hSw
        have hSw : Keep _ wl := hSw
        have k0 : wl.cell? ⟨gm, c, none⟩ = some (.int .i64 (m : Int)) := (hSw _ (.tail _ (.tail _ (.tail _ (.head _))))).1
        clear hSw
        go_simp
        try (with_reducible rfl)
      try simp only [Act.put, sA, sZ, sS]
      refine tk 15 ?_ rfl ?_ ?_; rotate_left; focus (intro w hSw; clear hSw; go_simp; try (with_reducible rfl))
      try simp only [Act.put, sA, sZ, sS]
      refine tk 16 ?_ rfl ?_ ?_; rotate_left; focus (intro w hSw; clear hSw; go_simp; try (with_reducible rfl))
      try simp only [Act.put, sA, sZ, sS]
      refine wpAnyH_done (by kernel_rfl) ?_ _
      go_wp2_with fail
      go_meet
      exact ⟨rfl, VQd.out⟩
    case rest =>
      obtain ⟨rfl, hv⟩ := hcut
      obtain ⟨wA, rfl⟩ : ∃ z : World, z = wc := ⟨_, rfl⟩
      have V3 := Lib.hid hv
      clear hv VQ
      obtain ⟨b0, _, b9⟩ := V3.out.box_at (i := 0) (j := 0) rfl rfl
      obtain ⟨x1, _, x9⟩ := V3.out.num_get (i := 1) rfl (pN_at HR.out)
      have f0 := (V3.out.num_at (i := 1) rfl (j := i) (by rw [pN_len, HL1.out]; exact k2)).2.1
      go_upto_region 5 with fail
      clear b0 b9 x1 x9
      go_cut [] (fun wx => Hp W (box 97 g [.slice (some ⟨go, 0, none⟩) no co, .slice (some ⟨gp, 0, none⟩) N cp, .slice (some ⟨gc, 0, none⟩) N cc, .slice (some ⟨gs, 0, none⟩) ns cs, .slice (some ⟨gm, 0, none⟩) nm cm, .slice (some ⟨g5, 0, none⟩) (nt + 1) cap5] :: nums (some ⟨go, 0, none⟩) no co (pN ((p.ord.set at' q).set i r)) :: nums (some ⟨gp, 0, none⟩) N cp (pN p.plc) :: nums (some ⟨gc, 0, none⟩) N cc p.cls :: prow 113 (some ⟨gs, 0, none⟩) ns cs (pS p.sp) :: nums (some ⟨gm, 0, none⟩) nm cm (pN p.mrk) :: nums (some ⟨g5, 0, none⟩) (nt + 1) cap5 (pN (tl ++ [c])) :: rest) wx)
      case first =>
        have hKp : Keep [(⟨g, 0, none⟩, .slice (some ⟨go, 0, none⟩) no co), (⟨g, 1, none⟩, .slice (some ⟨gp, 0, none⟩) N cp), (⟨gp, q, none⟩, .int .i64 (i : Int))] wA := List.forall_mem_cons.2 ⟨⟨(V3.out.box_at (i := 0) (j := 0) rfl rfl).1, (V3.out.box_at (i := 0) (j := 0) rfl rfl).2.2⟩, List.forall_mem_cons.2 ⟨⟨(V3.out.box_at (i := 0) (j := 1) rfl rfl).1, (V3.out.box_at (i := 0) (j := 1) rfl rfl).2.2⟩, List.forall_mem_cons.2 ⟨⟨(V3.out.num_get (i := 2) rfl (pN_at HP.out)).1, (V3.out.num_get (i := 2) rfl (pN_at HP.out)).2.2⟩, fun _ h => by simp at h⟩⟩⟩
        refine wp_region_held_drew (S := Keep _) (by kernel_rfl) hKp.drew (fun hHeld => ?_)
        have V3d := Lib.hid (V3.out.go (bdrew _))
        refine tk 0 ?_ rfl ?_ ?_; rotate_left; focus (intro w hSw; clear hSw; go_simp; try (with_reducible rfl))
        try simp only [Act.put, sA, sZ, sS]
        refine tk 1 ?_ rfl ?_ ?_; rotate_left; focus (intro w hSw; clear hSw; go_simp; try (with_reducible rfl))
        try simp only [Act.put, sA, sZ, sS]
        refine tk 2 ?_ rfl ?_ ?_; rotate_left; focus (intro w hSw; clear hSw; go_simp; try (with_reducible rfl))
        try simp only [Act.put, sA, sZ, sS]
        refine tk 3 ?_ rfl ?_ ?_; rotate_left
        · intro wl hSw
          have hSw : Keep _ wl := hSw
          have k0 : wl.cell? ⟨g, 0, none⟩ = some (.slice (some ⟨go, 0, none⟩) no co) := (hSw _ (.head _)).1
          clear hSw
          go_simp
          try (with_reducible rfl)
        try simp only [Act.put, sA, sZ, sS]
        refine tk 4 ?_ rfl ?_ ?_; rotate_left; focus (intro w hSw; clear hSw; go_simp; try (with_reducible rfl))
        try simp only [Act.put, sA, sZ, sS]
        refine tk 5 ?_ rfl ?_ ?_; rotate_left; focus (intro w hSw; clear hSw; go_simp; try (with_reducible rfl))
        try simp only [Act.put, sA, sZ, sS]
        refine tk 6 ?_ rfl ?_ ?_; rotate_left; focus (intro w hSw; clear hSw; go_simp; try (with_reducible rfl))
        try simp only [Act.put, sA, sZ, sS]
        refine tk 7 ?_ rfl ?_ ?_; rotate_left; focus (intro w hSw; clear hSw; go_simp; try (with_reducible rfl))
        try simp only [Act.put, sA, sZ, sS]
        refine tk 8 ?_ rfl ?_ ?_; rotate_left
        · intro wl hSw
          have hSw : Keep _ wl := hSw
          have k0 : wl.cell? ⟨g, 0, none⟩ = some (.slice (some ⟨go, 0, none⟩) no co) := (hSw _ (.head _)).1
          clear hSw
          go_simp
          try (with_reducible rfl)
        try simp only [Act.put, sA, sZ, sS]
        refine tk 9 ?_ rfl ?_ ?_; rotate_left; focus (intro w hSw; clear hSw; go_simp; try (with_reducible rfl))
        try simp only [Act.put, sA, sZ, sS]
        refine tk 10 ?_ rfl ?_ ?_; rotate_left; focus (intro w hSw; clear hSw; go_simp; try (with_reducible rfl))
        try simp only [Act.put, sA, sZ, sS]
        refine tk 11 ?_ rfl ?_ ?_; rotate_left; focus (intro w hSw; clear hSw; go_simp; try (with_reducible rfl))
        try simp only [Act.put, sA, sZ, sS]
        refine tk 12 ?_ rfl ?_ ?_; rotate_left
        · intro wl hSw
          have hSw : Keep _ wl := hSw
          have k0 : wl.cell? ⟨g, 1, none⟩ = some (.slice (some ⟨gp, 0, none⟩) N cp) := (hSw _ (.tail _ (.head _))).1
          clear hSw
          go_simp
          try (with_reducible rfl)
        try simp only [Act.put, sA, sZ, sS]
        refine tk 13 ?_ rfl ?_ ?_; rotate_left; focus (intro w hSw; clear hSw; go_simp; try (with_reducible rfl))
        try simp only [Act.put, sA, sZ, sS]
        refine tk 14 ?_ rfl ?_ ?_; rotate_left; focus (intro w hSw; clear hSw; go_simp; try (with_reducible rfl))
        try simp only [Act.put, sA, sZ, sS]
        refine tk 15 ?_ rfl ?_ ?_; rotate_left
        · intro wl hSw
          have hSw : Keep _ wl := hSw
          have k0 : wl.cell? ⟨gp, q, none⟩ = some (.int .i64 (i : Int)) := (hSw _ (.tail _ (.tail _ (.head _)))).1
          clear hSw
          go_simp
          try (with_reducible rfl)
        try simp only [Act.put, sA, sZ, sS]
        refine tk 16 ?_ rfl ?_ ?_; rotate_left; focus (intro w hSw; clear hSw; go_simp; try (with_reducible rfl))
        try simp only [Act.put, sA, sZ, sS]
        refine tk 17 ?_ rfl ?_ ?_; rotate_left; focus (intro w hSw; clear hSw; go_simp; try (with_reducible rfl))
        try simp only [Act.put, sA, sZ, sS]
        refine tk 18 ?_ rfl ?_ ?_; rotate_left; focus (intro w hSw; clear hSw; go_simp; try (with_reducible rfl))
        try simp only [Act.put, sA, sZ, sS]
        refine wpAnyH_ready (rs := [19]) (by kernel_rfl) (by simp) ?_
        refine AllReadyH.cons (List.getElem?_toArray.trans rfl) (fun K hK => ?_) AllReadyH.nil
        obtain ⟨r0, o0, z0⟩ := V3d.out.num_at (i := 1) rfl (j := at') (by rw [pN_len, HL1.out]; exact k3)
        have VA := Lib.hid (V3d.out.num_set (i := 1) rfl at' (q : Int))
        go_simp
        refine hK.out _ _ (List.forall_mem_cons.2 ⟨⟨(VA.out.box_at (i := 0) (j := 0) rfl rfl).1, (VA.out.box_at (i := 0) (j := 0) rfl rfl).2.2⟩, List.forall_mem_cons.2 ⟨⟨(VA.out.box_at (i := 0) (j := 1) rfl rfl).1, (VA.out.box_at (i := 0) (j := 1) rfl rfl).2.2⟩, List.forall_mem_cons.2 ⟨⟨(VA.out.num_get (i := 2) rfl (pN_at HP.out)).1, (VA.out.num_get (i := 2) rfl (pN_at HP.out)).2.2⟩, fun _ h => by simp at h⟩⟩⟩) (fun hHeld => ?_)
        clear hK K
        try simp only [Act.put, sA, sZ, sS]
        refine tk 20 ?_ rfl ?_ ?_; rotate_left; focus (intro w hSw; clear hSw; go_simp; try (with_reducible rfl))
        try simp only [Act.put, sA, sZ, sS]
        refine wpAnyH_ready (rs := [21]) (by kernel_rfl) (by simp) ?_
        refine AllReadyH.cons (List.getElem?_toArray.trans rfl) (fun K hK => ?_) AllReadyH.nil
        obtain ⟨r0, _, z0⟩ := VA.out.num_at (i := 1) rfl (j := i) (by rw [List.length_set, pN_len, HL1.out]; exact k2)
        have r1 : (wA.setCell ⟨go, at', none⟩ (.int .i64 (q : Int))).cell? ⟨go, i, none⟩ = _ := r0
        have VB := Lib.hid (VA.out.num_set (i := 1) rfl i (r : Int))
        go_simp
        refine hK.out _ _ (List.forall_mem_cons.2 ⟨⟨(VB.out.box_at (i := 0) (j := 0) rfl rfl).1, (VB.out.box_at (i := 0) (j := 0) rfl rfl).2.2⟩, List.forall_mem_cons.2 ⟨⟨(VB.out.box_at (i := 0) (j := 1) rfl rfl).1, (VB.out.box_at (i := 0) (j := 1) rfl rfl).2.2⟩, List.forall_mem_cons.2 ⟨⟨(VB.out.num_get (i := 2) rfl (pN_at HP.out)).1, (VB.out.num_get (i := 2) rfl (pN_at HP.out)).2.2⟩, fun _ h => by simp at h⟩⟩⟩) (fun hHeld => ?_)
        clear hK K
        try simp only [Act.put, sA, sZ, sS]
        refine wpAnyH_done (by kernel_rfl) ?_ _
        go_wp2_with fail
        go_meet
        have := VB.out
        rw [pN_set, pN_set]
        exact this
      case rest =>
        obtain ⟨wB, rfl⟩ : ∃ z : World, z = wc := ⟨_, rfl⟩
        have V5 := Lib.hid hcut
        clear hcut V3 f0
        have f0 := (V5.out.num_at (i := 2) rfl (j := q) (by rw [pN_len, HL2.out]; exact k1)).2.1
        go_upto_region 6 with fail
        go_cut [] (fun wx => Hp W (box 97 g [.slice (some ⟨go, 0, none⟩) no co, .slice (some ⟨gp, 0, none⟩) N cp, .slice (some ⟨gc, 0, none⟩) N cc, .slice (some ⟨gs, 0, none⟩) ns cs, .slice (some ⟨gm, 0, none⟩) nm cm, .slice (some ⟨g5, 0, none⟩) (nt + 1) cap5] :: nums (some ⟨go, 0, none⟩) no co (pN ((p.ord.set at' q).set i r)) :: nums (some ⟨gp, 0, none⟩) N cp (pN ((p.plc.set r i).set q at')) :: nums (some ⟨gc, 0, none⟩) N cc p.cls :: prow 113 (some ⟨gs, 0, none⟩) ns cs (pS p.sp) :: nums (some ⟨gm, 0, none⟩) nm cm (pN p.mrk) :: nums (some ⟨g5, 0, none⟩) (nt + 1) cap5 (pN (tl ++ [c])) :: rest) wx)
        case first =>
          have hKp : Keep [(⟨g, 1, none⟩, .slice (some ⟨gp, 0, none⟩) N cp)] wB := List.forall_mem_cons.2 ⟨⟨(V5.out.box_at (i := 0) (j := 1) rfl rfl).1, (V5.out.box_at (i := 0) (j := 1) rfl rfl).2.2⟩, fun _ h => by simp at h⟩
          refine wp_region_held_drew (S := Keep _) (by kernel_rfl) hKp.drew (fun hHeld => ?_)
          have V5d := Lib.hid (V5.out.go (bdrew _))
          refine tk 0 ?_ rfl ?_ ?_; rotate_left; focus (intro w hSw; clear hSw; go_simp; try (with_reducible rfl))
          try simp only [Act.put, sA, sZ, sS]
          refine tk 1 ?_ rfl ?_ ?_; rotate_left; focus (intro w hSw; clear hSw; go_simp; try (with_reducible rfl))
          try simp only [Act.put, sA, sZ, sS]
          refine tk 2 ?_ rfl ?_ ?_; rotate_left; focus (intro w hSw; clear hSw; go_simp; try (with_reducible rfl))
          try simp only [Act.put, sA, sZ, sS]
          refine tk 3 ?_ rfl ?_ ?_; rotate_left
          · intro wl hSw
            have hSw : Keep _ wl := hSw
            have k0 : wl.cell? ⟨g, 1, none⟩ = some (.slice (some ⟨gp, 0, none⟩) N cp) := (hSw _ (.head _)).1
            clear hSw
            go_simp
            try (with_reducible rfl)
          try simp only [Act.put, sA, sZ, sS]
          refine tk 4 ?_ rfl ?_ ?_; rotate_left; focus (intro w hSw; clear hSw; go_simp; try (with_reducible rfl))
          try simp only [Act.put, sA, sZ, sS]
          refine tk 5 ?_ rfl ?_ ?_; rotate_left; focus (intro w hSw; clear hSw; go_simp; try (with_reducible rfl))
          try simp only [Act.put, sA, sZ, sS]
          refine tk 6 ?_ rfl ?_ ?_; rotate_left; focus (intro w hSw; clear hSw; go_simp; try (with_reducible rfl))
          try simp only [Act.put, sA, sZ, sS]
          refine tk 7 ?_ rfl ?_ ?_; rotate_left; focus (intro w hSw; clear hSw; go_simp; try (with_reducible rfl))
          try simp only [Act.put, sA, sZ, sS]
          refine tk 8 ?_ rfl ?_ ?_; rotate_left
          · intro wl hSw
            have hSw : Keep _ wl := hSw
            have k0 : wl.cell? ⟨g, 1, none⟩ = some (.slice (some ⟨gp, 0, none⟩) N cp) := (hSw _ (.head _)).1
            clear hSw
            go_simp
            try (with_reducible rfl)
          try simp only [Act.put, sA, sZ, sS]
          refine tk 9 ?_ rfl ?_ ?_; rotate_left; focus (intro w hSw; clear hSw; go_simp; try (with_reducible rfl))
          try simp only [Act.put, sA, sZ, sS]
          refine tk 10 ?_ rfl ?_ ?_; rotate_left; focus (intro w hSw; clear hSw; go_simp; try (with_reducible rfl))
          try simp only [Act.put, sA, sZ, sS]
          refine tk 11 ?_ rfl ?_ ?_; rotate_left; focus (intro w hSw; clear hSw; go_simp; try (with_reducible rfl))
          try simp only [Act.put, sA, sZ, sS]
          refine tk 12 ?_ rfl ?_ ?_; rotate_left; focus (intro w hSw; clear hSw; go_simp; try (with_reducible rfl))
          try simp only [Act.put, sA, sZ, sS]
          refine tk 13 ?_ rfl ?_ ?_; rotate_left
          · intro wl hSw
            have hSw : Keep _ wl := hSw
            have k0 : wl.cell? ⟨g, 1, none⟩ = some (.slice (some ⟨gp, 0, none⟩) N cp) := (hSw _ (.head _)).1
            clear hSw
            go_simp
            try (with_reducible rfl)
          try simp only [Act.put, sA, sZ, sS]
          refine tk 14 ?_ rfl ?_ ?_; rotate_left; focus (intro w hSw; clear hSw; go_simp; try (with_reducible rfl))
          try simp only [Act.put, sA, sZ, sS]
          refine tk 15 ?_ rfl ?_ ?_; rotate_left; focus (intro w hSw; clear hSw; go_simp; try (with_reducible rfl))
          try simp only [Act.put, sA, sZ, sS]
          refine tk 17 ?_ rfl ?_ ?_; rotate_left; focus (intro w hSw; clear hSw; go_simp; try (with_reducible rfl))
          try simp only [Act.put, sA, sZ, sS]
          refine wpAnyH_ready (rs := [16]) (by kernel_rfl) (by simp) ?_
          refine AllReadyH.cons (List.getElem?_toArray.trans rfl) (fun K hK => ?_) AllReadyH.nil
          have yL := (V5d.out.num_get (i := 2) rfl (pN_at HP.out)).1
          go_simp
          refine hK.out _ _ (hHeld) (fun hHeld => ?_)
          clear hK K
          try simp only [Act.put, sA, sZ, sS]
          refine tk 18 ?_ rfl ?_ ?_; rotate_left; focus (intro w hSw; clear hSw; go_simp; try (with_reducible rfl))
          try simp only [Act.put, sA, sZ, sS]
          refine wpAnyH_ready (rs := [19]) (by kernel_rfl) (by simp) ?_
          refine AllReadyH.cons (List.getElem?_toArray.trans rfl) (fun K hK => ?_) AllReadyH.nil
          obtain ⟨r0, o0, z0⟩ := V5d.out.num_at (i := 2) rfl (j := r) (by rw [pN_len, HL2.out]; exact hrN)
          have VC := Lib.hid (V5d.out.num_set (i := 2) rfl r (i : Int))
          go_simp
          refine hK.out _ _ (List.forall_mem_cons.2 ⟨⟨(VC.out.box_at (i := 0) (j := 1) rfl rfl).1, (VC.out.box_at (i := 0) (j := 1) rfl rfl).2.2⟩, fun _ h => by simp at h⟩) (fun hHeld => ?_)
          clear hK K
          try simp only [Act.put, sA, sZ, sS]
          refine tk 20 ?_ rfl ?_ ?_; rotate_left; focus (intro w hSw; clear hSw; go_simp; try (with_reducible rfl))
          try simp only [Act.put, sA, sZ, sS]
          refine wpAnyH_ready (rs := [21]) (by kernel_rfl) (by simp) ?_
          refine AllReadyH.cons (List.getElem?_toArray.trans rfl) (fun K hK => ?_) AllReadyH.nil
          obtain ⟨r0, _, z0⟩ := VC.out.num_at (i := 2) rfl (j := q) (by rw [List.length_set, pN_len, HL2.out]; exact k1)
          have r1 : (wB.setCell ⟨gp, r, none⟩ (.int .i64 (i : Int))).cell? ⟨gp, q, none⟩ = _ := r0
          have VD := Lib.hid (VC.out.num_set (i := 2) rfl q (at' : Int))
          go_simp
          refine hK.out _ _ (List.forall_mem_cons.2 ⟨⟨(VD.out.box_at (i := 0) (j := 1) rfl rfl).1, (VD.out.box_at (i := 0) (j := 1) rfl rfl).2.2⟩, fun _ h => by simp at h⟩) (fun hHeld => ?_)
          clear hK K
          try simp only [Act.put, sA, sZ, sS]
          refine wpAnyH_done (by kernel_rfl) ?_ _
          go_wp2_with fail
          go_meet
          have := VD.out
          rw [pN_set (p.plc.set r i), pN_set p.plc]
          exact this
        case rest =>
          obtain ⟨wC, rfl⟩ : ∃ z : World, z = wc := ⟨_, rfl⟩
          have V6 := Lib.hid hcut
          clear hcut V5 f0
          obtain ⟨b4, _, b9⟩ := V6.out.box_at (i := 0) (j := 4) rfl rfl
          obtain ⟨x5, o5, y9⟩ := V6.out.num_get (i := 5) rfl (pN_at HM.out)
          have V7 := Lib.hid (V6.out.num_set (i := 5) rfl c ((m : Int) + 1))
          clear V6
          go_wp2_with fail
          go_end0
          exact ⟨rfl, _, _, _, _, _, _, _, _, _, _, _, _, _, _, _, _, by have := V7.out; unfold Pt.marked; dsimp only; rw [show pN (p.mrk.set c (m + 1)) = (pN p.mrk).set c ((m : Int) + 1) from by rw [pN_set]; rfl]; exact this⟩
  · have e1 : ((m : Int) == 0) = false := beq_no (by omega)
    rw [if_neg hm0]
    clear hm0
    go_upto_region 3 with fail
    clear b2 b4 b9 x3 x5 x9 y9
    go_cut [5] (fun s5 wx => s5 = .int .i64 (at' : Int) ∧ Hp W (box 97 g [.slice (some ⟨go, 0, none⟩) no co, .slice (some ⟨gp, 0, none⟩) N cp, .slice (some ⟨gc, 0, none⟩) N cc, .slice (some ⟨gs, 0, none⟩) ns cs, .slice (some ⟨gm, 0, none⟩) nm cm, .slice At nt ct] :: nums (some ⟨go, 0, none⟩) no co (pN p.ord) :: nums (some ⟨gp, 0, none⟩) N cp (pN p.plc) :: nums (some ⟨gc, 0, none⟩) N cc p.cls :: prow 113 (some ⟨gs, 0, none⟩) ns cs (pS p.sp) :: nums (some ⟨gm, 0, none⟩) nm cm (pN p.mrk) :: nums At nt ct (pN tl) :: rest) wx)
    case first =>
      have hKp : Keep [(⟨g, 3, none⟩, .slice (some ⟨gs, 0, none⟩) ns cs), (⟨g, 4, none⟩, .slice (some ⟨gm, 0, none⟩) nm cm), (⟨gs, c * 2, none⟩, .int .i64 (a : Int)), (⟨gm, c, none⟩, .int .i64 (m : Int))] w := List.forall_mem_cons.2 ⟨⟨(V.out.box_at (i := 0) (j := 3) rfl rfl).1, (V.out.box_at (i := 0) (j := 3) rfl rfl).2.2⟩, List.forall_mem_cons.2 ⟨⟨(V.out.box_at (i := 0) (j := 4) rfl rfl).1, (V.out.box_at (i := 0) (j := 4) rfl rfl).2.2⟩, List.forall_mem_cons.2 ⟨⟨(V.out.pair_at (i := 4) rfl (pS_at HC.out)).1, (V.out.pair_at (i := 4) rfl (pS_at HC.out)).2.2⟩, List.forall_mem_cons.2 ⟨⟨(V.out.num_get (i := 5) rfl (pN_at HM.out)).1, (V.out.num_get (i := 5) rfl (pN_at HM.out)).2.2⟩, fun _ h => by simp at h⟩⟩⟩⟩
      refine wp_region_held_drew (S := Keep _) (by kernel_rfl) hKp.drew (fun hHeld => ?_)
      have Vd := Lib.hid (V.out.go (bdrew _))
      refine tk 0 ?_ rfl ?_ ?_; rotate_left; focus (intro w hSw; clear hSw; go_simp; try (with_reducible rfl))
      try simp only [Act.put, sA, sZ, sS]
      refine tk 1 ?_ rfl ?_ ?_; rotate_left; focus (intro w hSw; clear hSw; go_simp; try (with_reducible rfl))
      try simp only [Act.put, sA, sZ, sS]
      refine tk 2 ?_ rfl ?_ ?_; rotate_left; focus (intro w hSw; clear hSw; go_simp; try (with_reducible rfl))
      try simp only [Act.put, sA, sZ, sS]
      refine tk 3 ?_ rfl ?_ ?_; rotate_left
      · intro wl hSw
        have hSw : Keep _ wl := hSw
        have k0 : wl.cell? ⟨g, 3, none⟩ = some (.slice (some ⟨gs, 0, none⟩) ns cs) := (hSw _ (.head _)).1
        clear hSw
        go_simp
        try (with_reducible rfl)
      try simp only [Act.put, sA, sZ, sS]
      refine tk 4 ?_ rfl ?_ ?_; rotate_left; focus (intro w hSw; clear hSw; go_simp; try (with_reducible rfl))
      try simp only [Act.put, sA, sZ, sS]
      refine tk 5 ?_ rfl ?_ ?_; rotate_left; focus (intro w hSw; clear hSw; go_simp; try (with_reducible rfl))
      try simp only [Act.put, sA, sZ, sS]
      refine tk 6 ?_ rfl ?_ ?_; rotate_left; focus (intro w hSw; clear hSw; go_simp; try (with_reducible rfl))
      try simp only [Act.put, sA, sZ, sS]
      refine tk 7 ?_ rfl ?_ ?_; rotate_left
      · intro wl hSw
        have hSw : Keep _ wl := hSw
        have k0 : wl.cell? ⟨gs, c * 2, none⟩ = some (.int .i64 (a : Int)) := (hSw _ (.tail _ (.tail _ (.head _)))).1
        clear hSw
        go_simp
        try (with_reducible rfl)
      try simp only [Act.put, sA, sZ, sS]
      refine tk 8 ?_ rfl ?_ ?_; rotate_left; focus (intro w hSw; clear hSw; go_simp; try (with_reducible rfl))
      try simp only [Act.put, sA, sZ, sS]
      refine tk 9 ?_ rfl ?_ ?_; rotate_left; focus (intro w hSw; clear hSw; go_simp; try (with_reducible rfl))
      try simp only [Act.put, sA, sZ, sS]
      refine tk 10 ?_ rfl ?_ ?_; rotate_left; focus (intro w hSw; clear hSw; go_simp; try (with_reducible rfl))
      try simp only [Act.put, sA, sZ, sS]
      refine tk 11 ?_ rfl ?_ ?_; rotate_left
      · intro wl hSw
        have hSw : Keep _ wl := hSw
        have k0 : wl.cell? ⟨g, 4, none⟩ = some (.slice (some ⟨gm, 0, none⟩) nm cm) := (hSw _ (.tail _ (.head _))).1
        clear hSw
        go_simp
        try (with_reducible rfl)
      try simp only [Act.put, sA, sZ, sS]
      refine tk 12 ?_ rfl ?_ ?_; rotate_left; focus (intro w hSw; clear hSw; go_simp; try (with_reducible rfl))
      try simp only [Act.put, sA, sZ, sS]
      refine tk 13 ?_ rfl ?_ ?_; rotate_left; focus (intro w hSw; clear hSw; go_simp; try (with_reducible rfl))
      try simp only [Act.put, sA, sZ, sS]
      refine tk 14 ?_ rfl ?_ ?_; rotate_left
      · intro wl hSw
        have hSw : Keep _ wl := hSw
        have k0 : wl.cell? ⟨gm, c, none⟩ = some (.int .i64 (m : Int)) := (hSw _ (.tail _ (.tail _ (.tail _ (.head _))))).1
        clear hSw
        go_simp
        try (with_reducible rfl)
      try simp only [Act.put, sA, sZ, sS]
      refine tk 15 ?_ rfl ?_ ?_; rotate_left; focus (intro w hSw; clear hSw; go_simp; try (with_reducible rfl))
      try simp only [Act.put, sA, sZ, sS]
      refine tk 16 ?_ rfl ?_ ?_; rotate_left; focus (intro w hSw; clear hSw; go_simp; try (with_reducible rfl))
      try simp only [Act.put, sA, sZ, sS]
      refine wpAnyH_done (by kernel_rfl) ?_ _
      go_wp2_with fail
      go_meet
      exact ⟨rfl, Vd.out⟩
    case rest =>
      obtain ⟨rfl, hv⟩ := hcut
      obtain ⟨wA, rfl⟩ : ∃ z : World, z = wc := ⟨_, rfl⟩
      have V3 := Lib.hid hv
      clear hv V
      obtain ⟨b0, _, b9⟩ := V3.out.box_at (i := 0) (j := 0) rfl rfl
      obtain ⟨x1, _, x9⟩ := V3.out.num_get (i := 1) rfl (pN_at HR.out)
      have f0 := (V3.out.num_at (i := 1) rfl (j := i) (by rw [pN_len, HL1.out]; exact k2)).2.1
      go_upto_region 5 with fail
      clear b0 b9 x1 x9
      go_cut [] (fun wx => Hp W (box 97 g [.slice (some ⟨go, 0, none⟩) no co, .slice (some ⟨gp, 0, none⟩) N cp, .slice (some ⟨gc, 0, none⟩) N cc, .slice (some ⟨gs, 0, none⟩) ns cs, .slice (some ⟨gm, 0, none⟩) nm cm, .slice At nt ct] :: nums (some ⟨go, 0, none⟩) no co (pN ((p.ord.set at' q).set i r)) :: nums (some ⟨gp, 0, none⟩) N cp (pN p.plc) :: nums (some ⟨gc, 0, none⟩) N cc p.cls :: prow 113 (some ⟨gs, 0, none⟩) ns cs (pS p.sp) :: nums (some ⟨gm, 0, none⟩) nm cm (pN p.mrk) :: nums At nt ct (pN tl) :: rest) wx)
      case first =>
        have hKp : Keep [(⟨g, 0, none⟩, .slice (some ⟨go, 0, none⟩) no co), (⟨g, 1, none⟩, .slice (some ⟨gp, 0, none⟩) N cp), (⟨gp, q, none⟩, .int .i64 (i : Int))] wA := List.forall_mem_cons.2 ⟨⟨(V3.out.box_at (i := 0) (j := 0) rfl rfl).1, (V3.out.box_at (i := 0) (j := 0) rfl rfl).2.2⟩, List.forall_mem_cons.2 ⟨⟨(V3.out.box_at (i := 0) (j := 1) rfl rfl).1, (V3.out.box_at (i := 0) (j := 1) rfl rfl).2.2⟩, List.forall_mem_cons.2 ⟨⟨(V3.out.num_get (i := 2) rfl (pN_at HP.out)).1, (V3.out.num_get (i := 2) rfl (pN_at HP.out)).2.2⟩, fun _ h => by simp at h⟩⟩⟩
        refine wp_region_held_drew (S := Keep _) (by kernel_rfl) hKp.drew (fun hHeld => ?_)
        have V3d := Lib.hid (V3.out.go (bdrew _))
        refine tk 0 ?_ rfl ?_ ?_; rotate_left; focus (intro w hSw; clear hSw; go_simp; try (with_reducible rfl))
        try simp only [Act.put, sA, sZ, sS]
        refine tk 1 ?_ rfl ?_ ?_; rotate_left; focus (intro w hSw; clear hSw; go_simp; try (with_reducible rfl))
        try simp only [Act.put, sA, sZ, sS]
        refine tk 2 ?_ rfl ?_ ?_; rotate_left; focus (intro w hSw; clear hSw; go_simp; try (with_reducible rfl))
        try simp only [Act.put, sA, sZ, sS]
        refine tk 3 ?_ rfl ?_ ?_; rotate_left
        · intro wl hSw
          have hSw : Keep _ wl := hSw
          have k0 : wl.cell? ⟨g, 0, none⟩ = some (.slice (some ⟨go, 0, none⟩) no co) := (hSw _ (.head _)).1
          clear hSw
          go_simp
          try (with_reducible rfl)
        try simp only [Act.put, sA, sZ, sS]
        refine tk 4 ?_ rfl ?_ ?_; rotate_left; focus (intro w hSw; clear hSw; go_simp; try (with_reducible rfl))
        try simp only [Act.put, sA, sZ, sS]
        refine tk 5 ?_ rfl ?_ ?_; rotate_left; focus (intro w hSw; clear hSw; go_simp; try (with_reducible rfl))
        try simp only [Act.put, sA, sZ, sS]
        refine tk 6 ?_ rfl ?_ ?_; rotate_left; focus (intro w hSw; clear hSw; go_simp; try (with_reducible rfl))
        try simp only [Act.put, sA, sZ, sS]
        refine tk 7 ?_ rfl ?_ ?_; rotate_left; focus (intro w hSw; clear hSw; go_simp; try (with_reducible rfl))
        try simp only [Act.put, sA, sZ, sS]
        refine tk 8 ?_ rfl ?_ ?_; rotate_left
        · intro wl hSw
          have hSw : Keep _ wl := hSw
          have k0 : wl.cell? ⟨g, 0, none⟩ = some (.slice (some ⟨go, 0, none⟩) no co) := (hSw _ (.head _)).1
          clear hSw
          go_simp
          try (with_reducible rfl)
        try simp only [Act.put, sA, sZ, sS]
        refine tk 9 ?_ rfl ?_ ?_; rotate_left; focus (intro w hSw; clear hSw; go_simp; try (with_reducible rfl))
        try simp only [Act.put, sA, sZ, sS]
        refine tk 10 ?_ rfl ?_ ?_; rotate_left; focus (intro w hSw; clear hSw; go_simp; try (with_reducible rfl))
        try simp only [Act.put, sA, sZ, sS]
        refine tk 11 ?_ rfl ?_ ?_; rotate_left; focus (intro w hSw; clear hSw; go_simp; try (with_reducible rfl))
        try simp only [Act.put, sA, sZ, sS]
        refine tk 12 ?_ rfl ?_ ?_; rotate_left
        · intro wl hSw
          have hSw : Keep _ wl := hSw
          have k0 : wl.cell? ⟨g, 1, none⟩ = some (.slice (some ⟨gp, 0, none⟩) N cp) := (hSw _ (.tail _ (.head _))).1
          clear hSw
          go_simp
          try (with_reducible rfl)
        try simp only [Act.put, sA, sZ, sS]
        refine tk 13 ?_ rfl ?_ ?_; rotate_left; focus (intro w hSw; clear hSw; go_simp; try (with_reducible rfl))
        try simp only [Act.put, sA, sZ, sS]
        refine tk 14 ?_ rfl ?_ ?_; rotate_left; focus (intro w hSw; clear hSw; go_simp; try (with_reducible rfl))
        try simp only [Act.put, sA, sZ, sS]
        refine tk 15 ?_ rfl ?_ ?_; rotate_left
        · intro wl hSw
          have hSw : Keep _ wl := hSw
          have k0 : wl.cell? ⟨gp, q, none⟩ = some (.int .i64 (i : Int)) := (hSw _ (.tail _ (.tail _ (.head _)))).1
          clear hSw
          go_simp
          try (with_reducible rfl)
        try simp only [Act.put, sA, sZ, sS]
        refine tk 16 ?_ rfl ?_ ?_; rotate_left; focus (intro w hSw; clear hSw; go_simp; try (with_reducible rfl))
        try simp only [Act.put, sA, sZ, sS]
        refine tk 17 ?_ rfl ?_ ?_; rotate_left; focus (intro w hSw; clear hSw; go_simp; try (with_reducible rfl))
        try simp only [Act.put, sA, sZ, sS]
        refine tk 18 ?_ rfl ?_ ?_; rotate_left; focus (intro w hSw; clear hSw; go_simp; try (with_reducible rfl))
        try simp only [Act.put, sA, sZ, sS]
        refine wpAnyH_ready (rs := [19]) (by kernel_rfl) (by simp) ?_
        refine AllReadyH.cons (List.getElem?_toArray.trans rfl) (fun K hK => ?_) AllReadyH.nil
        obtain ⟨r0, o0, z0⟩ := V3d.out.num_at (i := 1) rfl (j := at') (by rw [pN_len, HL1.out]; exact k3)
        have VA := Lib.hid (V3d.out.num_set (i := 1) rfl at' (q : Int))
        go_simp
        refine hK.out _ _ (List.forall_mem_cons.2 ⟨⟨(VA.out.box_at (i := 0) (j := 0) rfl rfl).1, (VA.out.box_at (i := 0) (j := 0) rfl rfl).2.2⟩, List.forall_mem_cons.2 ⟨⟨(VA.out.box_at (i := 0) (j := 1) rfl rfl).1, (VA.out.box_at (i := 0) (j := 1) rfl rfl).2.2⟩, List.forall_mem_cons.2 ⟨⟨(VA.out.num_get (i := 2) rfl (pN_at HP.out)).1, (VA.out.num_get (i := 2) rfl (pN_at HP.out)).2.2⟩, fun _ h => by simp at h⟩⟩⟩) (fun hHeld => ?_)
        clear hK K
        try simp only [Act.put, sA, sZ, sS]
        refine tk 20 ?_ rfl ?_ ?_; rotate_left; focus (intro w hSw; clear hSw; go_simp; try (with_reducible rfl))
        try simp only [Act.put, sA, sZ, sS]
        refine wpAnyH_ready (rs := [21]) (by kernel_rfl) (by simp) ?_
        refine AllReadyH.cons (List.getElem?_toArray.trans rfl) (fun K hK => ?_) AllReadyH.nil
        obtain ⟨r0, _, z0⟩ := VA.out.num_at (i := 1) rfl (j := i) (by rw [List.length_set, pN_len, HL1.out]; exact k2)
        have r1 : (wA.setCell ⟨go, at', none⟩ (.int .i64 (q : Int))).cell? ⟨go, i, none⟩ = _ := r0
        have VB := Lib.hid (VA.out.num_set (i := 1) rfl i (r : Int))
        go_simp
        refine hK.out _ _ (List.forall_mem_cons.2 ⟨⟨(VB.out.box_at (i := 0) (j := 0) rfl rfl).1, (VB.out.box_at (i := 0) (j := 0) rfl rfl).2.2⟩, List.forall_mem_cons.2 ⟨⟨(VB.out.box_at (i := 0) (j := 1) rfl rfl).1, (VB.out.box_at (i := 0) (j := 1) rfl rfl).2.2⟩, List.forall_mem_cons.2 ⟨⟨(VB.out.num_get (i := 2) rfl (pN_at HP.out)).1, (VB.out.num_get (i := 2) rfl (pN_at HP.out)).2.2⟩, fun _ h => by simp at h⟩⟩⟩) (fun hHeld => ?_)
        clear hK K
        try simp only [Act.put, sA, sZ, sS]
        refine wpAnyH_done (by kernel_rfl) ?_ _
        go_wp2_with fail
        go_meet
        have := VB.out
        rw [pN_set, pN_set]
        exact this
      case rest =>
        obtain ⟨wB, rfl⟩ : ∃ z : World, z = wc := ⟨_, rfl⟩
        have V5 := Lib.hid hcut
        clear hcut V3 f0
        have f0 := (V5.out.num_at (i := 2) rfl (j := q) (by rw [pN_len, HL2.out]; exact k1)).2.1
        go_upto_region 6 with fail
        go_cut [] (fun wx => Hp W (box 97 g [.slice (some ⟨go, 0, none⟩) no co, .slice (some ⟨gp, 0, none⟩) N cp, .slice (some ⟨gc, 0, none⟩) N cc, .slice (some ⟨gs, 0, none⟩) ns cs, .slice (some ⟨gm, 0, none⟩) nm cm, .slice At nt ct] :: nums (some ⟨go, 0, none⟩) no co (pN ((p.ord.set at' q).set i r)) :: nums (some ⟨gp, 0, none⟩) N cp (pN ((p.plc.set r i).set q at')) :: nums (some ⟨gc, 0, none⟩) N cc p.cls :: prow 113 (some ⟨gs, 0, none⟩) ns cs (pS p.sp) :: nums (some ⟨gm, 0, none⟩) nm cm (pN p.mrk) :: nums At nt ct (pN tl) :: rest) wx)
        case first =>
          have hKp : Keep [(⟨g, 1, none⟩, .slice (some ⟨gp, 0, none⟩) N cp)] wB := List.forall_mem_cons.2 ⟨⟨(V5.out.box_at (i := 0) (j := 1) rfl rfl).1, (V5.out.box_at (i := 0) (j := 1) rfl rfl).2.2⟩, fun _ h => by simp at h⟩
          refine wp_region_held_drew (S := Keep _) (by kernel_rfl) hKp.drew (fun hHeld => ?_)
          have V5d := Lib.hid (V5.out.go (bdrew _))
          refine tk 0 ?_ rfl ?_ ?_; rotate_left; focus (intro w hSw; clear hSw; go_simp; try (with_reducible rfl))
          try simp only [Act.put, sA, sZ, sS]
          refine tk 1 ?_ rfl ?_ ?_; rotate_left; focus (intro w hSw; clear hSw; go_simp; try (with_reducible rfl))
          try simp only [Act.put, sA, sZ, sS]
          refine tk 2 ?_ rfl ?_ ?_; rotate_left; focus (intro w hSw; clear hSw; go_simp; try (with_reducible rfl))
          try simp only [Act.put, sA, sZ, sS]
          refine tk 3 ?_ rfl ?_ ?_; rotate_left
          · intro wl hSw
            have hSw : Keep _ wl := hSw
            have k0 : wl.cell? ⟨g, 1, none⟩ = some (.slice (some ⟨gp, 0, none⟩) N cp) := (hSw _ (.head _)).1
            clear hSw
            go_simp
            try (with_reducible rfl)
          try simp only [Act.put, sA, sZ, sS]
          refine tk 4 ?_ rfl ?_ ?_; rotate_left; focus (intro w hSw; clear hSw; go_simp; try (with_reducible rfl))
          try simp only [Act.put, sA, sZ, sS]
          refine tk 5 ?_ rfl ?_ ?_; rotate_left; focus (intro w hSw; clear hSw; go_simp; try (with_reducible rfl))
          try simp only [Act.put, sA, sZ, sS]
          refine tk 6 ?_ rfl ?_ ?_; rotate_left; focus (intro w hSw; clear hSw; go_simp; try (with_reducible rfl))
          try simp only [Act.put, sA, sZ, sS]
          refine tk 7 ?_ rfl ?_ ?_; rotate_left; focus (intro w hSw; clear hSw; go_simp; try (with_reducible rfl))
          try simp only [Act.put, sA, sZ, sS]
          refine tk 8 ?_ rfl ?_ ?_; rotate_left
          · intro wl hSw
            have hSw : Keep _ wl := hSw
            have k0 : wl.cell? ⟨g, 1, none⟩ = some (.slice (some ⟨gp, 0, none⟩) N cp) := (hSw _ (.head _)).1
            clear hSw
            go_simp
            try (with_reducible rfl)
          try simp only [Act.put, sA, sZ, sS]
          refine tk 9 ?_ rfl ?_ ?_; rotate_left; focus (intro w hSw; clear hSw; go_simp; try (with_reducible rfl))
          try simp only [Act.put, sA, sZ, sS]
          refine tk 10 ?_ rfl ?_ ?_; rotate_left; focus (intro w hSw; clear hSw; go_simp; try (with_reducible rfl))
          try simp only [Act.put, sA, sZ, sS]
          refine tk 11 ?_ rfl ?_ ?_; rotate_left; focus (intro w hSw; clear hSw; go_simp; try (with_reducible rfl))
          try simp only [Act.put, sA, sZ, sS]
          refine tk 12 ?_ rfl ?_ ?_; rotate_left; focus (intro w hSw; clear hSw; go_simp; try (with_reducible rfl))
          try simp only [Act.put, sA, sZ, sS]
          refine tk 13 ?_ rfl ?_ ?_; rotate_left
          · intro wl hSw
            have hSw : Keep _ wl := hSw
            have k0 : wl.cell? ⟨g, 1, none⟩ = some (.slice (some ⟨gp, 0, none⟩) N cp) := (hSw _ (.head _)).1
            clear hSw
            go_simp
            try (with_reducible rfl)
          try simp only [Act.put, sA, sZ, sS]
          refine tk 14 ?_ rfl ?_ ?_; rotate_left; focus (intro w hSw; clear hSw; go_simp; try (with_reducible rfl))
          try simp only [Act.put, sA, sZ, sS]
          refine tk 15 ?_ rfl ?_ ?_; rotate_left; focus (intro w hSw; clear hSw; go_simp; try (with_reducible rfl))
          try simp only [Act.put, sA, sZ, sS]
          refine tk 17 ?_ rfl ?_ ?_; rotate_left; focus (intro w hSw; clear hSw; go_simp; try (with_reducible rfl))
          try simp only [Act.put, sA, sZ, sS]
          refine wpAnyH_ready (rs := [16]) (by kernel_rfl) (by simp) ?_
          refine AllReadyH.cons (List.getElem?_toArray.trans rfl) (fun K hK => ?_) AllReadyH.nil
          have yL := (V5d.out.num_get (i := 2) rfl (pN_at HP.out)).1
          go_simp
          refine hK.out _ _ (hHeld) (fun hHeld => ?_)
          clear hK K
          try simp only [Act.put, sA, sZ, sS]
          refine tk 18 ?_ rfl ?_ ?_; rotate_left; focus (intro w hSw; clear hSw; go_simp; try (with_reducible rfl))
          try simp only [Act.put, sA, sZ, sS]
          refine wpAnyH_ready (rs := [19]) (by kernel_rfl) (by simp) ?_
          refine AllReadyH.cons (List.getElem?_toArray.trans rfl) (fun K hK => ?_) AllReadyH.nil
          obtain ⟨r0, o0, z0⟩ := V5d.out.num_at (i := 2) rfl (j := r) (by rw [pN_len, HL2.out]; exact hrN)
          have VC := Lib.hid (V5d.out.num_set (i := 2) rfl r (i : Int))
          go_simp
          refine hK.out _ _ (List.forall_mem_cons.2 ⟨⟨(VC.out.box_at (i := 0) (j := 1) rfl rfl).1, (VC.out.box_at (i := 0) (j := 1) rfl rfl).2.2⟩, fun _ h => by simp at h⟩) (fun hHeld => ?_)
          clear hK K
          try simp only [Act.put, sA, sZ, sS]
          refine tk 20 ?_ rfl ?_ ?_; rotate_left; focus (intro w hSw; clear hSw; go_simp; try (with_reducible rfl))
          try simp only [Act.put, sA, sZ, sS]
          refine wpAnyH_ready (rs := [21]) (by kernel_rfl) (by simp) ?_
          refine AllReadyH.cons (List.getElem?_toArray.trans rfl) (fun K hK => ?_) AllReadyH.nil
          obtain ⟨r0, _, z0⟩ := VC.out.num_at (i := 2) rfl (j := q) (by rw [List.length_set, pN_len, HL2.out]; exact k1)
          have r1 : (wB.setCell ⟨gp, r, none⟩ (.int .i64 (i : Int))).cell? ⟨gp, q, none⟩ = _ := r0
          have VD := Lib.hid (VC.out.num_set (i := 2) rfl q (at' : Int))
          go_simp
          refine hK.out _ _ (List.forall_mem_cons.2 ⟨⟨(VD.out.box_at (i := 0) (j := 1) rfl rfl).1, (VD.out.box_at (i := 0) (j := 1) rfl rfl).2.2⟩, fun _ h => by simp at h⟩) (fun hHeld => ?_)
          clear hK K
          try simp only [Act.put, sA, sZ, sS]
          refine wpAnyH_done (by kernel_rfl) ?_ _
          go_wp2_with fail
          go_meet
          have := VD.out
          rw [pN_set (p.plc.set r i), pN_set p.plc]
          exact this
        case rest =>
          obtain ⟨wC, rfl⟩ : ∃ z : World, z = wc := ⟨_, rfl⟩
          have V6 := Lib.hid hcut
          clear hcut V5 f0
          obtain ⟨b4, _, b9⟩ := V6.out.box_at (i := 0) (j := 4) rfl rfl
          obtain ⟨x5, o5, y9⟩ := V6.out.num_get (i := 5) rfl (pN_at HM.out)
          have V7 := Lib.hid (V6.out.num_set (i := 5) rfl c ((m : Int) + 1))
          clear V6
          go_wp2_with fail
          go_end0
          exact ⟨rfl, _, _, _, _, _, _, _, _, _, _, _, _, _, _, _, _, by have := V7.out; unfold Pt.marked; dsimp only; rw [show pN (p.mrk.set c (m + 1)) = (pN p.mrk).set c ((m : Int) + 1) from by rw [pN_set]; rfl]; exact this⟩
end Go.Proofs.Ytdkdfmflghbhiaa
