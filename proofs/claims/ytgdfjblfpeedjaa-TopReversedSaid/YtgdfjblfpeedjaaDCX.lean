/- Several texts in one. -/
import Derived.Test.YtgdfjblfpeedjaaDCi
import Derived.Test.YtgdfjblfpeedjaaDBc
import Derived.Test.YtgdfjblfpeedjaaShelf
import Derived.Deep.RegionLaw
import Derived.Test.YtgdfjblfpeedjaaDCg
import Derived.Test.YtgdfjblfpeedjaaDAX
import Derived.Test.YtgdfjblfpeedjaaDCa
import Derived.Test.YtgdfjblfpeedjaaDBb
/- Contract of the program: a lister of paths is made. -/
namespace Go.Proofs.Ytgdfjblfpeedjaa
open Go.RowKit
set_option linter.unusedVariables false
set_option linter.unusedSimpArgs false
set_option maxRecDepth 100000

theorem Hp.apart {W w : World} {l : List Itm} {i j x y : Nat} {a b : Itm} (h : Hp W l w) (hi : l[i]? = some a) (hj : l[j]? = some b) (hij : i ≠ j) (hx : a.v.ownBlock = some x) (hy : b.v.ownBlock = some y) : ¬ x = y := fun e => by
  subst e
  exact h.sep i j a b hij hi hj x hx hy
end Go.Proofs.Ytgdfjblfpeedjaa
/- Copies and comparisons of lists of numbers, by the library's contracts. -/
namespace Go.Proofs.Ytgdfjblfpeedjaa
open Go.RowKit
set_option linter.unusedVariables false
set_option linter.unusedSimpArgs false
set_option maxRecDepth 100000

/-- A copy of a list of numbers. -/
def ClonePost (W : World) (l : List Itm) (n : Nat) (L : List Int) (w : World) (e : Ending) (w' : World) : Prop := ∃ C d, e = .returned (.slice C n d) ∧ Hp W (nums C n d L :: l) w' ∧ Below w.heap.size w w'
theorem equal_nums (A1 A2 : Option Addr) (n c m d : Nat) (L M : List Int) (w : World) (hL : L.length = n) (hM : M.length = m) (hn : n ≤ 17592186044416) (hm : m ≤ 17592186044416) (h1 : CellsIn w A1 (ints L)) (h2 : CellsIn w A2 (ints M)) :
    Calls Try.prog 11 #[.slice A1 n c, .slice A2 m d] w fun e w' => e = .returned (.bool (decide (L = M))) ∧ Below w.heap.size w w' := by
  by_cases h0 : n = 0
  · subst h0
    have e0 : L = [] := List.eq_nil_of_length_eq_zero hL
    subst e0
    refine (Try.slices_Equal_int_empty A1 A2 c m d w (by omega)).mono ?_
    rintro e w' ⟨rfl, rfl⟩
    refine ⟨ret_bool ?_, Below.refl _ _⟩
    apply decide_eq_decide.2
    rw [← hM]
    constructor
    · intro h; exact (List.eq_nil_of_length_eq_zero h).symm
    · intro h; rw [← h]; rfl
  · by_cases hnm : n = m
    · subst hnm
      obtain ⟨b1, o1, rfl, _, hc1⟩ := h1 (by rw [ints_len]; omega)
      obtain ⟨b2, o2, rfl, _, hc2⟩ := h2 (by rw [ints_len]; omega)
      refine (Try.slices_Equal_int b1 o1 n c b2 o2 n d L M w (by omega) (by omega) (by omega) (by omega) (fun j hj => hc1 j _ (ints_at hj)) (fun j hj => hc2 j _ (ints_at hj))).mono ?_
      rintro e w' ⟨rfl, q, rfl⟩
      refine ⟨ret_bool ?_, bdrewN _ _⟩
      rw [List.take_of_length_le (by omega), List.take_of_length_le (by omega)]
      by_cases e : L = M
      · rw [decide_eq_true e, beq_iff_eq]; exact e
      · rw [decide_eq_false e, beq_eq_false_iff_ne]; exact e
    · refine (Try.slices_Equal_int_lens A1 A2 n c m d w hnm).mono ?_
      rintro e w' ⟨rfl, rfl⟩
      exact ⟨ret_bool (decide_eq_false (fun e => hnm (by rw [← hL, ← hM, e]))).symm, Below.refl _ _⟩
/-- A row is cut by its last number. -/
theorem Hp.cut {W w : World} {l : List Itm} {i g n c : Nat} {L : List Int} {x : Int} (h : Hp W l w) (hi : l[i]? = some (nums (some ⟨g, 0, none⟩) (n + 1) c (L ++ [x]))) : Hp W (l.set i (nums (some ⟨g, 0, none⟩) n c L)) w := by
  have ho := h.own i _ hi
  refine h.upd hi _ ⟨rfl, rfl, rfl, Nat.le_refl _, fun _ _ _ => rfl⟩ ?_ (fun k hk => .inl hk)
  have hl : L.length = n := by have := h.num_len hi; simpa using this
  refine ⟨by simp [nums, ints, hl], ?_⟩
  rcases ho.2 with ⟨e, _⟩ | ⟨g', cap, cur, e, h1, h2, h3, h4, h5, h6⟩
  · cases e
  · have e' : Value.slice (some ⟨g, 0, none⟩) (n + 1) c = .slice (some ⟨g', 0, none⟩) (n + 1) cap := e
    injection e' with e1 _ e3
    injection e1 with e1
    injection e1 with e1
    subst e1; subst e3
    refine .inr ⟨g, c, cur, rfl, h1, h2, ?_, h4, h5, ?_⟩
    · exact Nat.le_of_succ_le h3
    · have h7 : cur.toList.take ((n + 1) * 1) = ints (L ++ [x]) := h6
      show cur.toList.take (n * 1) = ints L
      have : (cur.toList.take ((n + 1) * 1)).take (n * 1) = cur.toList.take (n * 1) := by rw [List.take_take]; congr 1; omega
      rw [← this, h7]
      unfold ints
      rw [List.map_append, List.take_left' (by simp; omega)]
end Go.Proofs.Ytgdfjblfpeedjaa
/- Contract of the program: the paths are listed. -/
namespace Go.Proofs.Ytgdfjblfpeedjaa
open Go.RowKit
set_option linter.unusedVariables false
set_option linter.unusedSimpArgs false
set_option maxRecDepth 100000

theorem pv_len_sum {g : Gr} (h : g.Ok) {q : Int} (h0 : 0 ≤ q) (h1 : q < g.n - 1) {i : Int} (hi : i ∈ outF g q) : (g.pv (arc g.rs i).t).length ≤ (g.pv q).length := by
  rw [pv_outF h h0 h1, List.length_flatMap]
  have : ∀ (l : List Int), i ∈ l → (g.pv (arc g.rs i).t).length ≤ (l.map fun i => ((g.pv (arc g.rs i).t).map (i :: ·)).length).sum := by
    intro l
    induction l with
    | nil => intro h; cases h
    | cons a l ih =>
      intro h
      rw [List.map_cons, List.sum_cons]
      rcases List.mem_cons.1 h with rfl | h
      · rw [List.length_map]; omega
      · have := ih h; omega
  exact this _ hi
/-- The paths that have been listed when k arcs of a node have been followed. -/
def partL (g : Gr) (q : Int) (k : Nat) : List (List Int) := ((outF g q).take k).flatMap fun i => (g.pv (arc g.rs i).t).map (i :: ·)
theorem partL_zero (g : Gr) (q : Int) : partL g q 0 = [] := rfl
theorem partL_step {g : Gr} {q : Int} {k : Nat} {i : Int} (hi : (outF g q)[k]? = some i) : partL g q (k + 1) = partL g q k ++ (g.pv (arc g.rs i).t).map (i :: ·) := by
  unfold partL
  rw [List.take_add_one, hi, List.flatMap_append]
  simp
theorem partL_all {g : Gr} (h : g.Ok) {q : Int} (h0 : 0 ≤ q) (h1 : q < g.n - 1) : partL g q (outF g q).length = g.pv q := by
  unfold partL; rw [List.take_length, pv_outF h h0 h1]
theorem partL_le {g : Gr} (h : g.Ok) {q : Int} (h0 : 0 ≤ q) (h1 : q < g.n - 1) (k : Nat) : (partL g q k).length ≤ (g.pv q).length := by
  rw [pv_outF h h0 h1]
  unfold partL
  conv => rhs; rw [← List.take_append_drop k (outF g q), List.flatMap_append]
  simp
theorem map_pre (pa : List Int) (i : Int) (l : List (List Int)) : (l.map (i :: ·)).map (pa ++ ·) = l.map ((pa ++ [i]) ++ ·) := by
  rw [List.map_map]
  apply List.map_congr_left
  intro x _
  simp

end Go.Proofs.Ytgdfjblfpeedjaa
/- Contract of the program: how many paths there are. -/
namespace Go.Proofs.Ytgdfjblfpeedjaa
open Go.RowKit
set_option linter.unusedVariables false
set_option linter.unusedSimpArgs false
set_option maxRecDepth 100000

theorem cnt_bad {g : Gr} (h : ¬ g.vE = 0) : g.cnt = (0, g.vE) := if_pos h
theorem cnt_much {g : Gr} (h : g.vE = 0) (h2 : 4611686018427387904 < g.wy 0) : g.cnt = (0, 3) := by unfold Gr.cnt; rw [if_neg (by omega), if_pos h2]
theorem cnt_ok {g : Gr} (h : g.vE = 0) (h2 : ¬ 4611686018427387904 < g.wy 0) : g.cnt = (g.wy 0, 0) := by unfold Gr.cnt; rw [if_neg (by omega), if_neg h2]
theorem wy_bd {g : Gr} (h : g.Ok) : 0 ≤ g.wy 0 ∧ g.wy 0 ≤ 4611686018427387905 := wy_nonneg h (Int.le_refl 0) (by have := h.n1; omega)
end Go.Proofs.Ytgdfjblfpeedjaa
/- Contract of the program: all paths. -/
namespace Go.Proofs.Ytgdfjblfpeedjaa
open Go.RowKit
set_option linter.unusedVariables false
set_option linter.unusedSimpArgs false
set_option maxRecDepth 100000

/-- Rows in front change places. -/
theorem Hp.swap {W w : World} {l1 l2 l3 : List Itm} (h : Hp W (l1 ++ l2 ++ l3) w) : Hp W (l2 ++ l1 ++ l3) w := by
  refine h.sub (fun i => if i < l2.length then i + l1.length else if i < l2.length + l1.length then i - l2.length else i) (fun i j e => ?_) (fun i it hi => ?_)
  · split at e <;> split at e <;> (try split at e) <;> (try split at e) <;> omega
  · have hl := (List.getElem?_eq_some_iff.1 hi).1
    rw [List.length_append, List.length_append] at hl
    split
    · rw [List.append_assoc, List.getElem?_append_right (by omega), Nat.add_sub_cancel, List.getElem?_append_left (by assumption)]
      rwa [List.append_assoc, List.getElem?_append_left (by assumption)] at hi
    · split
      · rw [List.append_assoc, List.getElem?_append_left (by omega)]
        rwa [List.append_assoc, List.getElem?_append_right (by omega), List.getElem?_append_left (by omega)] at hi
      · rw [List.getElem?_append_right (by rw [List.length_append]; omega)]
        rw [List.getElem?_append_right (by rw [List.length_append]; omega)] at hi
        rw [List.length_append] at hi ⊢
        rwa [Nat.add_comm l1.length]
theorem Hp.front {W w : World} {l1 l2 : List Itm} (h : Hp W (l1 ++ l2) w) : Hp W l1 w :=
  h.sub (fun i => i) (fun i j e => e) (fun i it hi => by rw [List.getElem?_append_left (List.getElem?_eq_some_iff.1 hi).1]; exact hi)
theorem Hp.back {W w : World} {l1 l2 : List Itm} (h : Hp W (l1 ++ l2) w) : Hp W l2 w := h.rot.front
/-- What Paths returns. -/
def PathsPost (g : Gr) (w : World) (e : Ending) (w' : World) : Prop := ∃ (Q : Option Addr) (qn qc : Nat) (us : List (Option Addr × Nat)), e = .returned (.tuple #[.slice Q qn qc, .int .i64 g.pth.2]) ∧ qn = g.pth.1.length ∧ us.length = qn ∧
  Hp w (rvals Q qn qc us g.pth.1 :: rowsG us g.pth.1) w'
theorem pths_none {W w : World} (h : Below W.heap.size W w) : Hp W (rvals none 0 0 [] [] :: rowsG [] []) w :=
  (Hp.start W).go h |>.nil_row (rvals none 0 0 [] []) rfl rfl rfl
theorem pth_bad {g : Gr} (h : ¬ g.vE = 0) : g.pth = ([], g.vE) := if_pos h
theorem pth_much {g : Gr} (h : g.vE = 0) (h2 : 2000 < g.wy 0) : g.pth = ([], 3) := by unfold Gr.pth; rw [if_neg (by omega), if_pos h2]
theorem pth_ok {g : Gr} (h : g.vE = 0) (h2 : ¬ 2000 < g.wy 0) : g.pth = (g.pv 0, 0) := by unfold Gr.pth; rw [if_neg (by omega), if_neg h2]
end Go.Proofs.Ytgdfjblfpeedjaa
/- Contracts of the program: what is reached; cuts. -/
namespace Go.Proofs.Ytgdfjblfpeedjaa
open Go.RowKit
set_option linter.unusedVariables false
set_option linter.unusedSimpArgs false
set_option maxRecDepth 100000

/-- A list of numbers that a call made. -/
def NumsP (W : World) (L : List Int) (e : Ending) (w' : World) : Prop := ∃ (A : Option Addr) (n c : Nat), e = .returned (.slice A n c) ∧ L.length = n ∧ Hp W [nums A n c L] w'
set_option maxHeartbeats 16000000 in
theorem members_any (A : Option Addr) (n c : Nat) (L : List Bool) (w : World) (hn : L.length = n) (hb : n ≤ 1000000) (hA : CellsIn w A (bools L)) :
    Calls Try.prog 20 #[.slice A n c] w (NumsP w (memL L)) := by
  have HN := Lib.hid hn
  have HA := Lib.hid hA
  clear hn hA
  go_enter Try.func20, Try.ntmps20
  go_wp2_with fail
  have V := Lib.hid (show Hp w [nums none 0 0 (memL (L.take 0))] w from (Hp.start w).nil_row _ rfl rfl rfl)
  have HZ := Lib.hid (show (memL (L.take 0)).length = 0 from rfl)
  go_loopw [8, 3] (fun cv sv wr => ∃ (k : Nat) (B : Option Addr) (m d : Nat), cv = .int .i64 (k : Int) ∧ sv = .slice B m d ∧ k ≤ n ∧ (memL (L.take k)).length = m ∧ Hp w [nums B m d (memL (L.take k))] wr) (fun cv _ _ => n - (intOf cv).toNat)
  case atStart => exact ⟨0, none, 0, 0, rfl, rfl, Nat.zero_le _, HZ.out, V.out⟩
  case round =>
    clear HZ V
    obtain ⟨k, B, m, d, rfl, rfl, hkn, hm, hV⟩ := hrel
    obtain ⟨wi, rfl⟩ : ∃ wi : World, wi = wr := ⟨_, rfl⟩
    have V := Lib.hid hV
    have HM := Lib.hid hm
    clear hV hm
    by_cases hlt : k < n
    case neg =>
      obtain rfl : k = n := by omega
      go_wp2_with fail
      go_ret
      have hh := V.out
      have h2 := HM.out
      rw [List.take_of_length_le (by rw [HN.out]; exact Nat.le_refl _)] at hh h2
      exact ⟨B, m, d, rfl, h2, hh⟩
    obtain ⟨b, off, rfl, hbl, hc⟩ := (HA.out.below V.out.below).bool (j := k) (by rw [HN.out]; exact hlt)
    obtain ⟨x, hx⟩ : ∃ x, x = L.getD k false := ⟨_, rfl⟩
    rw [← hx] at hc
    have HX := Lib.hid (show L[k]? = some x by rw [hx, List.getD_eq_getElem?_getD, List.getElem?_eq_getElem (by rw [HN.out]; exact hlt)]; rfl)
    have hm2 : m ≤ 1000000 := by have h1 := HM.out; have h2 := memL_len (L.take k); rw [List.length_take] at h2; have h3 := HN.out; omega
    clear hx
    cases x with
    | false =>
      have HS := Lib.hid (show memL (L.take (k + 1)) = memL (L.take k) by rw [memL_step HX.out, if_neg (by simp), List.append_nil])
      go_wp2_with fail
      go_roundw
      case rel => exact ⟨k + 1, B, m, d, by go_num, rfl, by omega, by rw [HS.out]; exact HM.out, by rw [HS.out]; exact V.out⟩
      case measure => simp [intOf]; omega
    | true =>
      have HS := Lib.hid (show memL (L.take (k + 1)) = memL (L.take k) ++ [(k : Int)] by rw [memL_step HX.out, if_pos rfl])
      obtain ⟨wy, hwy⟩ : ∃ z, z = wi.alloc (.cells #[.int .i64 (k : Int)] 3) := ⟨_, rfl⟩
      have V2 := Lib.hid (show Hp w [box 3 wi.heap.size [.int .i64 (k : Int)], nums B m d (memL (L.take k))] wy by rw [hwy]; exact V.out.box_new _ _)
      have y0 := (V2.out.box_at (i := 0) (j := 0) rfl rfl).1
      obtain ⟨g5, cap5, w5, hr5, hv5, _⟩ := run_app_num V2.out (i := 1) rfl 33 (k : Int) y0 (by omega)
      have V3 := Lib.hid (show Hp w [nums (some ⟨g5, 0, none⟩) (m + 1) cap5 (memL (L.take k) ++ [(k : Int)])] w5 from hv5.tail)
      rw [← HS.out] at V3
      have HM3 := Lib.hid (show (memL (L.take (k + 1))).length = m + 1 by rw [HS.out, List.length_append, HM.out]; rfl)
      have HY := Lib.hid hwy
      have HR5 := Lib.hid hr5
      clear hwy y0 hv5 hr5
      go_wp2_with (at_builtin; rw [← HY.out]; refine wpList_app_run rfl (.tmp 14) (.tmp 16) 33 rfl HR5.out rfl rfl ?_)
      go_roundw
      case rel => exact ⟨k + 1, some ⟨g5, 0, none⟩, m + 1, cap5, by go_num, rfl, by omega, HM3.out, V3.out⟩
      case measure => simp [intOf]; omega
/-- What reach returns. -/
def ReachPost (g : Gr) (w : World) (e : Ending) (w' : World) : Prop := ∃ gr : Nat, e = .returned (.slice (some ⟨gr, 0, none⟩) g.n.toNat g.n.toNat) ∧ Hp w [flags (some ⟨gr, 0, none⟩) g.n.toNat g.n.toNat g.rc] w'
set_option maxHeartbeats 32000000 in
theorem reach_any (g : Gr) (A : Option Addr) (n c : Nat) (w : World) (h : GrIn w A n c g) (hO : g.Ok) :
    Calls Try.prog 18 #[gval g A n c] w (ReachPost g w) := by
  have H := Lib.hid h
  have hcs := h.small
  have hcn := h.cap
  have n1 := hO.n1
  have n2 := hO.n2
  have hnl : n ≤ 6000 := by have := hO.len; have := h.len; omega
  have HO := Lib.hid hO
  have HL := Lib.hid h.len
  clear h hO
  obtain ⟨N, hN⟩ : ∃ N, N = g.n.toNat := ⟨_, rfl⟩
  have HN := Lib.hid hN
  have hgN : g.n = (N : Int) := by omega
  have hN1 : 1 ≤ N := by omega
  have hN2 : N ≤ 2000 := by omega
  have HGN := Lib.hid hgN
  have hgv : gval g A n c = .agg #[.int .i64 (N : Int), .slice A n c] := by rw [← hgN]
  have HOUT := Lib.hid (show ∀ w, GrIn w A n c g → Calls Try.prog 30 #[.agg #[.int .i64 (N : Int), .slice A n c]] w fun e w' => ∃ (go : Nat) (vs : List (Option Addr × Nat)), e = .returned (.slice (some ⟨go, 0, none⟩) N N) ∧ vs.length = N ∧ Hp w (rvals (some ⟨go, 0, none⟩) N N vs (g.rowsK n) :: rowsG vs (g.rowsK n)) w' by
    intro w hh
    have := outgoing_any g A n c w hh HO.out
    rw [hgv] at this
    refine this.mono ?_
    rintro e w' ⟨go, vs, h1, h2, h3⟩
    rw [← HN.out, HL.out] at *
    exact ⟨go, vs, h1, h2, h3⟩)
  rw [hgv]
  obtain ⟨wz, hwz⟩ : ∃ z, z = w.alloc (.cells #[.int .i64 (N : Int), .slice A n c] 26) := ⟨_, rfl⟩
  have HZ := Lib.hid hwz
  have V := Lib.hid (show Hp w [box 26 w.heap.size [.int .i64 (N : Int), .slice A n c]] wz by rw [hwz]; exact (Hp.start w).box_new _ _)
  clear hwz hN hgN n1 n2 hgv
  obtain ⟨wy, hwy⟩ : ∃ z, z = wz.alloc (.cells (Array.replicate N (.bool false)) 4) := ⟨_, rfl⟩
  have HY := Lib.hid hwy
  have VY := Lib.hid (show Hp w [flags (some ⟨wz.heap.size, 0, none⟩) N N (List.replicate N false), box 26 w.heap.size [.int .i64 (N : Int), .slice A n c]] wy by
    rw [hwy]; exact V.out.made_flagsA N (by omega))
  have hmk := fun w => make_bools (N : Int) N rfl (by omega) w
  obtain ⟨gr, hgr⟩ : ∃ gr, gr = wz.heap.size := ⟨_, rfl⟩
  have hwg : w.heap.size < gr := by have := (V.out.box_at (i := 0) (j := 0) rfl rfl).2.2; omega
  rw [← hgr] at VY
  clear hwy
  go_enter Try.func18, Try.ntmps18
  go_upto_region 1 with fail
  rw [← HZ.out]
  clear HZ
  obtain ⟨r0, _, r9⟩ := V.out.box_at (i := 0) (j := 0) rfl rfl
  go_upto_region 2 with fail
  rw [← HY.out, ← hgr]
  clear HY V hmk r0 r9 hgr
  obtain ⟨x1, x2, x3⟩ := VY.out.flag_at (i := 0) rfl (j := 0) (by simp; omega)
  have V2 := VY.out.flag_set (i := 0) rfl 0 true
  obtain ⟨w2, hw2e⟩ : ∃ z, z = wy.setCell ⟨gr, 0, none⟩ (.bool true) := ⟨_, rfl⟩
  have H2 := Lib.hid hw2e
  have V3 := Lib.hid (show Hp w [flags (some ⟨gr, 0, none⟩) N N (g.rcK 0), box 26 w.heap.size [.int .i64 (N : Int), .slice A n c]] w2 by
    rw [hw2e, show g.rcK 0 = (List.replicate N false).set 0 true by unfold Gr.rcK initR; rw [HN.out]; rfl]; exact V2)
  clear hw2e V2
  go_upto_region 3 with fail
  rw [← H2.out]
  clear H2 VY x1 x2 x3
  obtain ⟨r0, _, r9⟩ := V3.out.box_at (i := 1) (j := 0) rfl rfl
  obtain ⟨r1, _, _⟩ := V3.out.box_at (i := 1) (j := 1) rfl rfl
  go_wp2_with fail
  refine (HOUT.out _ (H.out.below V3.out.below)).mono ?_
  rintro e w3 ⟨go, vs, rfl, hvs, hp3⟩
  have HVS := Lib.hid hvs
  have V4 := Lib.hid (show Hp w ([flags (some ⟨gr, 0, none⟩) N N (g.rcK 0), box 26 w.heap.size [.int .i64 (N : Int), .slice A n c], rvals (some ⟨go, 0, none⟩) N N vs (g.rowsK n)] ++ rowsG vs (g.rowsK n)) w3 from (V3.out.join hp3).rot)
  clear hp3 hvs V3 r0 r1 r9
  go_wp2_with fail
  have HROW := Lib.hid (show ∀ j, j < N → ∃ v, vs[j]? = some v ∧ (g.rowsK n)[j]? = some (outI g.rs j) from fun j hj => by
    refine ⟨_, List.getElem?_eq_getElem (by rw [HVS.out]; exact hj), ?_⟩
    rw [rowsK_get (by rw [← HN.out]; exact hj), ← HL.out, List.take_length])
  go_loopw [16] (fun cv wr => ∃ k : Nat, cv = .int .i64 (k : Int) ∧ k ≤ N ∧ Hp w ([flags (some ⟨gr, 0, none⟩) N N (g.rcK k), box 26 w.heap.size [.int .i64 (N : Int), .slice A n c], rvals (some ⟨go, 0, none⟩) N N vs (g.rowsK n)] ++ rowsG vs (g.rowsK n)) wr) (fun cv _ => N - (intOf cv).toNat)
  case atStart => exact ⟨0, rfl, Nat.zero_le _, V4.out⟩
  case round =>
    clear V4
    obtain ⟨k, rfl, hkN, hV⟩ := hrel
    obtain ⟨wi, rfl⟩ : ∃ wi : World, wi = wr := ⟨_, rfl⟩
    have V := Lib.hid hV
    clear hV
    by_cases hlt : k < N
    case neg =>
      obtain rfl : k = N := by omega
      go_wp2_with fail
      go_ret
      refine ⟨gr, by rw [← HN.out]; rfl, ?_⟩
      unfold Gr.rc
      rw [← HN.out]
      exact V.out.front (l1 := [flags (some ⟨gr, 0, none⟩) k k (g.rcK k)])
    obtain ⟨v, hv1, hv2⟩ := HROW.out k hlt
    obtain ⟨row, hrow⟩ : ∃ row, row = outI g.rs (k : Int) := ⟨_, rfl⟩
    rw [← hrow] at hv2
    have HRW := Lib.hid hrow
    have HV1 := Lib.hid hv1
    have HV2 := Lib.hid hv2
    obtain ⟨vA, vc⟩ := v
    obtain ⟨RL, hRL⟩ : ∃ RL, RL = row.length := ⟨_, rfl⟩
    have HRL := Lib.hid hRL
    have hRL2 : RL ≤ 6000 := by rw [hRL, hrow]; exact Nat.le_trans (outI_len _ _) (by have := HO.out.len; omega)
    obtain ⟨x1, _, x3⟩ := V.out.rv_at (i := 2) rfl hv1 hv2
    dsimp only at x1
    rw [← hRL] at x1
    obtain ⟨Lk, hLk⟩ : ∃ Lk, Lk = g.rcK k := ⟨_, rfl⟩
    have HLen := Lib.hid (show Lk.length = N by rw [hLk, rcK_len, HN.out])
    rw [← hLk] at V
    obtain ⟨y1, y2, y3⟩ := V.out.flag_at (i := 0) rfl (j := k) (by rw [HLen.out]; exact hlt)
    obtain ⟨x, hx⟩ : ∃ x, x = Lk.getD k false := ⟨_, rfl⟩
    rw [← hx] at y1
    clear hv1 hv2 hrow hRL
    cases x with
    | false =>
      have HS := Lib.hid (show g.rcK (k + 1) = Lk by rw [rcK_succ, ← hLk]; unfold rcStep; rw [← hx]; rfl)
      clear hx hLk
      go_wp2_with fail
      go_roundw
      case rel => exact ⟨k + 1, by go_num, by omega, by rw [HS.out]; exact V.out⟩
      case measure => simp [intOf]; omega
    | true =>
      have HS := Lib.hid (show g.rcK (k + 1) = row.foldl (rcI g) Lk by rw [rcK_succ, ← hLk, HRW.out]; unfold rcStep; rw [← hx, if_pos rfl])
      clear hx hLk
      go_wp2_with fail
      clear x1 x3 y1 y2 y3
      go_loopw [28] (fun cv wr => ∃ i : Nat, cv = .int .i64 (i : Int) ∧ i ≤ RL ∧ Hp w ([flags (some ⟨gr, 0, none⟩) N N ((row.take i).foldl (rcI g) Lk), box 26 w.heap.size [.int .i64 (N : Int), .slice A n c], rvals (some ⟨go, 0, none⟩) N N vs (g.rowsK n)] ++ rowsG vs (g.rowsK n)) wr) (fun cv _ => RL - (intOf cv).toNat)
      case atStart => exact ⟨0, rfl, Nat.zero_le _, V.out⟩
      case round =>
        clear V
        obtain ⟨i, rfl, hin, hV⟩ := hrel
        obtain ⟨wj, rfl⟩ : ∃ wj : World, wj = wr := ⟨_, rfl⟩
        have V := Lib.hid hV
        clear hV
        by_cases hilt : i < RL
        case neg =>
          obtain rfl : i = RL := by omega
          have V5 := V.out
          rw [List.take_of_length_le (by rw [← HRL.out]; exact Nat.le_refl _), ← HS.out] at V5
          have V6 := Lib.hid V5
          clear V5
          go_wp2_with fail
          go_roundw
          case rel => exact ⟨k + 1, by go_num, by omega, V6.out⟩
          case measure => simp [intOf]; omega
        have hir : i < row.length := by rw [← HRL.out]; exact hilt
        have hci : CellsIn wj vA (ints row) := V.out.cells (i := 3 + k) (by rw [List.getElem?_append_right (by simp)]; simpa using rowsG_get HV1.out HV2.out) rfl
        obtain ⟨br, or', rfl, hbr, hcr⟩ := hci.int (j := i) hir
        obtain ⟨I', hI'⟩ : ∃ I', row[i]? = some I' := ⟨_, List.getElem?_eq_getElem hir⟩
        have hIm : I' ∈ outI g.rs (k : Int) := by rw [← HRW.out]; exact List.mem_of_getElem? hI'
        obtain ⟨i0, i1, _⟩ := outI_mem.1 hIm
        obtain ⟨I, rfl⟩ := Int.eq_ofNat_of_zero_le i0
        rw [List.getD_eq_getElem?_getD, hI'] at hcr
        obtain ⟨⟨af, at', ac⟩, b, off, ha, hae, hA, hbw, c0', c1', c2'⟩ := H.out.at (j := I) (by have := HL.out; omega)
        have har := HO.out.arc _ (List.mem_of_getElem? ha)
        dsimp only at har c1'
        have c1 := (V.out.below.cell (p := ⟨b, off + I * 3 + 1, none⟩) hbw).trans c1'
        have hb := Nat.lt_of_lt_of_le hbw V.out.below.size
        have hIn : I < n := by have := HL.out; omega
        obtain ⟨T, rfl⟩ := Int.eq_ofNat_of_zero_le (show 0 ≤ at' by omega)
        have hTN : T < N := by have := HGN.out; omega
        have HL2 := Lib.hid (show ((row.take i).foldl (rcI g) Lk).length = N by rw [rcI_len, HLen.out])
        have HNEW := Lib.hid (show ((row.take i).foldl (rcI g) Lk).set T true = (row.take (i + 1)).foldl (rcI g) Lk by rw [rcI_take hI', ← hae]; rfl)
        obtain ⟨r1, _, r9⟩ := V.out.box_at (i := 1) (j := 1) rfl rfl
        obtain ⟨z1, z2, z3⟩ := V.out.flag_at (i := 0) rfl (j := T) (by rw [HL2.out]; exact hTN)
        have V5 := V.out.flag_set (i := 0) rfl T true
        rw [HNEW.out] at V5
        have V6 := Lib.hid V5
        have hI3 : I * 3 ≤ 20000 := by omega
        subst hA
        clear hir hci hI' hIm i0 i1 ha hae har c0' c1' c2' V5
        go_wp2_with fail
        go_roundw
        case rel => exact ⟨i + 1, by go_num, by omega, V6.out⟩
        case measure => simp [intOf]; omega
/-- What Cut returns. -/
def CutPost (g : Gr) (w : World) (e : Ending) (w' : World) : Prop := ∃ (A : Option Addr) (n c : Nat), e = .returned (.tuple #[.slice A n c, .int .i64 g.cutV.2]) ∧ g.cutV.1.length = n ∧ Hp w [nums A n c g.cutV.1] w'
set_option maxHeartbeats 16000000 in
theorem cut_any (g : Gr) (A : Option Addr) (n c : Nat) (w : World) (h : GrIn w A n c g) :
    Calls Try.prog 10 #[gval g A n c] w (CutPost g w) := by
  have H := Lib.hid h
  clear h
  obtain ⟨wz, hwz⟩ : ∃ z, z = w.alloc (.cells #[.int .i64 g.n, .slice A n c] 26) := ⟨_, rfl⟩
  have HZ := Lib.hid hwz
  have V := Lib.hid (show Hp w [gbox w.heap.size g A n c] wz by rw [hwz]; exact (Hp.start w).gnew g A n c)
  clear hwz
  go_enter Try.func10, Try.ntmps10
  go_upto_region 1 with fail
  rw [← HZ.out]
  clear HZ
  obtain ⟨r0, r1, r9⟩ := V.out.gb (i := 0) rfl
  go_wp2_with fail
  refine (valid_any g A n c _ (H.out.below V.out.below)).mono ?_
  rintro e w1 ⟨rfl, b1⟩
  have V1 := Lib.hid (V.out.go b1)
  clear b1 r0 r1 r9 V
  obtain ⟨r0, r1, r9⟩ := V1.out.gb (i := 0) rfl
  by_cases hv : g.vE = 0
  case neg =>
    have HE := Lib.hid (show g.cutV = ([], g.vE) from if_pos hv)
    have HB := Lib.hid (show g.cutV.1.length = 0 by rw [HE.out]; rfl)
    have g1 : (g.vE != 0) = true := bne_yes hv
    have g2 : (g.vE == 0) = false := beq_no hv
    clear hv
    go_wp2_with fail
    exact bodyPost_ret (v := .tuple #[.slice none 0 0, .int .i64 g.vE]) (by simp [results, Try.results10, go_sem]) rfl ⟨none, 0, 0, by rw [HE.out], HB.out, by rw [HE.out]; exact ((Hp.start w).go V1.out.below).nil_row (nums none 0 0 []) rfl rfl rfl⟩
  have HV := Lib.hid hv
  have HO := Lib.hid (Gr.ok hv)
  rw [hv]
  clear hv
  go_wp2_with fail
  refine (reach_any g A n c _ (H.out.below V1.out.below) HO.out).mono ?_
  rintro e w2 ⟨gr, rfl, hp⟩
  obtain ⟨N, hN⟩ : ∃ N, N = g.n.toNat := ⟨_, rfl⟩
  rw [← hN] at hp ⊢
  have V2 := Lib.hid (V1.out.join hp)
  have n1 := HO.out.n1
  have n2 := HO.out.n2
  have hN1 : 1 ≤ N := by omega
  have hN2 : N ≤ 2000 := by omega
  have HGN := Lib.hid (show g.n = (N : Int) by omega)
  clear hp V1 r0 r1 r9
  obtain ⟨E, hE⟩ : ∃ E, E = N - 1 := ⟨_, rfl⟩
  have hEN : E < N := by omega
  have HEN := Lib.hid (show g.n - 1 = (E : Int) by omega)
  have HE2 := Lib.hid (show (g.n - 1).toNat = E by omega)
  have HL := Lib.hid (show g.rc.length = N by rw [rc_len, hN])
  clear hE hN
  obtain ⟨r0, r1, r9⟩ := V2.out.gb (i := 1) rfl
  go_wp2_with fail
  refine (end_any g A n c _ n1 n2).mono ?_
  rintro e w3 ⟨rfl, b3⟩
  rw [HEN.out]
  have V3 := Lib.hid (V2.out.go b3)
  clear b3 r0 r1 r9 V2
  obtain ⟨x1, x2, x3⟩ := V3.out.flag_at (i := 0) rfl (j := E) (by rw [HL.out]; exact hEN)
  obtain ⟨x, hx⟩ : ∃ x, x = g.rc.getD E false := ⟨_, rfl⟩
  rw [← hx] at x1
  cases x with
  | true =>
    have HE := Lib.hid (show g.cutV = ([], 11) by unfold Gr.cutV; rw [if_neg (by have := HV.out; omega), HE2.out, ← hx, if_pos rfl])
    have HB := Lib.hid (show g.cutV.1.length = 0 by rw [HE.out]; rfl)
    clear hx
    go_wp2_with fail
    exact bodyPost_ret (v := .tuple #[.slice none 0 0, .int .i64 11]) (by simp [results, Try.results10, go_sem]) rfl ⟨none, 0, 0, by rw [HE.out], HB.out, by rw [HE.out]; exact ((Hp.start w).go V3.out.below).nil_row (nums none 0 0 []) rfl rfl rfl⟩
  | false =>
    have HE := Lib.hid (show g.cutV = (memL g.rc, 0) by unfold Gr.cutV; rw [if_neg (by have := HV.out; omega), HE2.out, ← hx, if_neg (by simp)])
    clear hx
    go_wp2_with fail
    refine (members_any _ _ _ g.rc _ HL.out (by omega) (V3.out.cells (i := 0) rfl rfl)).mono ?_
    rintro e w4 ⟨B, m, d, rfl, hm, hp4⟩
    have V4 := Lib.hid ((V3.out.join hp4).front (l1 := [nums B m d (memL g.rc)]))
    have HM := Lib.hid hm
    clear hp4 hm
    go_wp2_with fail
    exact bodyPost_ret (v := .tuple #[.slice B m d, .int .i64 0]) (by simp [results, Try.results10, go_sem]) rfl ⟨B, m, d, by rw [HE.out], by rw [HE.out]; exact HM.out, by rw [HE.out]; exact V4.out⟩
end Go.Proofs.Ytgdfjblfpeedjaa
/- Contracts of the reference: equal lists. -/
namespace Go.Proofs.Ytgdfjblfpeedjaa
open Go.RowKit
set_option linter.unusedVariables false
set_option linter.unusedSimpArgs false
set_option maxRecDepth 100000

theorem eqL_at {L M : List Int} {n k : Nat} (hL : L.length = n) (hM : M.length = n) (h : ∀ i, i < k → L.getD i 0 = M.getD i 0) (hk : n ≤ k) : L = M := by
  apply List.ext_getElem (by omega)
  intro i h1 h2
  have := h i (by omega)
  rwa [List.getD_eq_getElem?_getD, List.getD_eq_getElem?_getD, List.getElem?_eq_getElem h1, List.getElem?_eq_getElem h2] at this
theorem eqR_at {L M : List (List Int)} {n : Nat} (hL : L.length = n) (hM : M.length = n) (h : ∀ (i : Nat) r s, L[i]? = some r → M[i]? = some s → r = s) : L = M := by
  apply List.ext_getElem (by omega)
  intro i h1 h2
  exact h i _ _ (List.getElem?_eq_getElem h1) (List.getElem?_eq_getElem h2)
theorem RowsIn.row {w : World} {A : Option Addr} {R : List (List Int)} (h : RowsIn w A R) {j : Nat} {row : List Int} (hr : R[j]? = some row) :
    ∃ b off Aj cj, A = some ⟨b, off, none⟩ ∧ b < w.heap.size ∧ w.cell? ⟨b, off + j, none⟩ = some (.slice Aj row.length cj) ∧ row.length ≤ cj ∧ row.length ≤ 17592186044416 ∧ CellsIn w Aj (ints row) := by
  obtain ⟨b, off, e, hlt, hc⟩ := h (by have := (List.getElem?_eq_some_iff.1 hr).1; omega)
  obtain ⟨Aj, cj, h1, h2, h3, h4⟩ := hc j row hr
  exact ⟨b, off, Aj, cj, e, hlt, h1, h2, h3, h4⟩
end Go.Proofs.Ytgdfjblfpeedjaa
/- Contracts of the program: the cost of a path, whether a list is one. -/
namespace Go.Proofs.Ytgdfjblfpeedjaa
open Go.RowKit
set_option linter.unusedVariables false
set_option linter.unusedSimpArgs false
set_option maxRecDepth 100000

theorem ret_pair {k k2 : IntKind} {a b c d : Int} (h : a = c) (h2 : b = d) : Ending.returned (.tuple #[.int k a, .int k2 b]) = .returned (.tuple #[.int k c, .int k2 d]) := by rw [h, h2]
theorem cst_bad {g : Gr} {p : List Int} (h : ¬ g.vE = 0) : g.cst p = (0, g.vE) := if_pos h
theorem cst_no {g : Gr} {p : List Int} (h : g.vE = 0) (h2 : ¬ walkP g.rs 0 p = some (g.n - 1)) : g.cst p = (0, 1) := by unfold Gr.cst; rw [if_neg (by omega), if_neg h2]
theorem cst_yes {g : Gr} {p : List Int} (h : g.vE = 0) (h2 : walkP g.rs 0 p = some (g.n - 1)) : g.cst p = (sumP g.rs p, 0) := by unfold Gr.cst; rw [if_neg (by omega), if_pos h2]
theorem cst_stop {g : Gr} {p : List Int} {k : Nat} {i q : Int} (h : g.vE = 0) (hi : p[k]? = some i) (hw : walkP g.rs 0 (p.take k) = some q) (hn : ¬ (0 ≤ i ∧ i < (g.rs.length : Int) ∧ (arc g.rs i).f = q)) : g.cst p = (0, 1) := by
  refine cst_no h ?_
  have := walkP_step hi hw
  rw [if_neg hn] at this
  rw [walkP_none this]
  intro e; cases e
theorem chk_cst (g : Gr) (p : List Int) : g.chk p = decide ((g.cst p).2 = 0) := by
  unfold Gr.chk Gr.cst
  by_cases h : g.vE = 0
  · by_cases h2 : walkP g.rs 0 p = some (g.n - 1)
    · rw [if_neg (by omega), if_pos h2]; simp [h, h2]
    · rw [if_neg (by omega), if_neg h2]; simp [h2]
  · rw [if_pos h]; simp [h]
end Go.Proofs.Ytgdfjblfpeedjaa
/- The chapter's example. -/
namespace Go.Proofs.Ytgdfjblfpeedjaa
open Go.RowKit
set_option linter.unusedVariables false
set_option linter.unusedSimpArgs false
set_option maxRecDepth 100000

/-- A row of arcs. -/
def arow (A : Option Addr) (n c : Nat) (rs : List Ar) : Itm := ⟨40, 3, .slice A n c, n, acells rs⟩
/-- The graph of the chapter, and what is left of it. -/
def exG : Gr := ⟨4, [⟨0, 1, 1⟩, ⟨0, 2, 2⟩, ⟨1, 3, 3⟩, ⟨2, 3, 4⟩, ⟨0, 3, 9⟩]⟩
def exL : Gr := ⟨4, [⟨0, 1, 1⟩, ⟨0, 2, 2⟩]⟩
theorem exG_ok : exG.vE = 0 := by decide
theorem exL_ok : exL.vE = 0 := by decide
theorem exG_pth : exG.pth = ([[0, 2], [1, 3], [4]], 0) := by decide
theorem exG_cst : exG.cst [1, 3] = (6, 0) := by decide
theorem exL_cut : exL.cutV = ([0, 1, 2], 0) := by decide
theorem arow_in {W w : World} {l : List Itm} {i b n c : Nat} {rs : List Ar} (h : Hp W l w) (hi : l[i]? = some (arow (some ⟨b, 0, none⟩) n c rs)) : CellsIn w (some ⟨b, 0, none⟩) (acells rs) := h.cells hi (A := some ⟨b, 0, none⟩) (c := c) rfl
end Go.Proofs.Ytgdfjblfpeedjaa
/- Copies of graphs; two graphs alike. -/
namespace Go.Proofs.Ytgdfjblfpeedjaa
open Go.RowKit
set_option linter.unusedVariables false
set_option linter.unusedSimpArgs false
set_option maxRecDepth 100000

theorem arc_info : (Try.prog.info? 40).map (fun i => (i.zero, i.size, i.bytes)) = some (some (.agg #[.int .i64 0, .int .i64 0, .int .i64 0]), 3, 24) := by kernel_rfl
theorem Hp.grIn {W w : World} {l : List Itm} {i n c : Nat} {A : Option Addr} {g : Gr} (h : Hp W l w) (hi : l[i]? = some (arow A n c g.rs)) (hn : g.rs.length = n) (hb : n ≤ 5864062014805) : GrIn w A n c g :=
  ⟨hn, (h.cap hi (A := A) (c := c) rfl).1, hb, h.cells hi (A := A) (c := c) rfl⟩
/-- A graph of one's own. -/
def OwnPost (g : Gr) (N : Int) (n : Nat) (w : World) (e : Ending) (w' : World) : Prop := ∃ (C : Option Addr) (d : Nat), e = .returned (.agg #[.int .i64 N, .slice C n d]) ∧ Hp w [arow C n d g.rs] w'
end Go.Proofs.Ytgdfjblfpeedjaa
/- Contracts of the reference: the error of a graph, small graphs. -/
namespace Go.Proofs.Ytgdfjblfpeedjaa
open Go.RowKit
set_option linter.unusedVariables false
set_option linter.unusedSimpArgs false
set_option maxRecDepth 100000

/-- A small graph. -/
def Gr.fewB (g : Gr) : Bool := decide (g.rs.length ≤ 120 ∧ (g.n ≤ 40 ∨ 2000 < g.n))
end Go.Proofs.Ytgdfjblfpeedjaa
/- Contract of the reference: a graph turned round. -/
namespace Go.Proofs.Ytgdfjblfpeedjaa
open Go.RowKit
set_option linter.unusedVariables false
set_option linter.unusedSimpArgs false
set_option maxRecDepth 100000

theorem run_app_arc {W w : World} {l : List Itm} {i : Nat} {A : Option Addr} {n c : Nat} {L : List Ar} (h : Hp W l w) (hi : l[i]? = some (arow A n c L)) (ty : TypeId) {b : Nat} (a : Ar) (h0 : w.cell? ⟨b, 0, none⟩ = some (.int .i64 a.f)) (h1 : w.cell? ⟨b, 1, none⟩ = some (.int .i64 a.t)) (h2 : w.cell? ⟨b, 2, none⟩ = some (.int .i64 a.c)) (hn : n ≤ 4000000000000) :
    ∃ g cap w', (Builtin.append_ #[24, 24] ty #[.slice A n c, .slice (some ⟨b, 0, none⟩) 1 1]).run Try.prog w = .ok (.slice (some ⟨g, 0, none⟩) (n + 1) cap) w' ∧ Hp W (l.set i (arow (some ⟨g, 0, none⟩) (n + 1) cap (L ++ [a]))) w' ∧ w.grownBy w' (Value.slice A n c).ownBlock := by
  have := run_app h hi (t := 24) (ty := ty) Try.underlying24 arc_info rfl (show 0 < 3 by decide) (by decide) (A := A) (c := c) rfl (b := b) [.int .i64 a.f, .int .i64 a.t, .int .i64 a.c] rfl (fun j u hu => by
    match j with
    | 0 => simp only [List.getElem?_cons_zero, Option.some.injEq] at hu; rw [← hu]; exact h0
    | 1 => simp only [List.getElem?_cons_succ, List.getElem?_cons_zero, Option.some.injEq] at hu; rw [← hu]; exact h1
    | 2 => simp only [List.getElem?_cons_succ, List.getElem?_cons_zero, Option.some.injEq] at hu; rw [← hu]; exact h2
    | j + 3 => simp at hu) (fun u hu => by simp only [List.mem_cons, List.not_mem_nil, or_false] at hu; rcases hu with rfl | rfl | rfl <;> rfl) hn
  obtain ⟨g, cap, w', hr, hp, hg⟩ := this
  refine ⟨g, cap, w', hr, ?_, hg⟩
  unfold arow
  rw [acells_snoc]
  exact hp
/-- What Reverse returns. -/
def RevPost (g : Gr) (w : World) (e : Ending) (w' : World) : Prop := ∃ (C : Option Addr) (m d : Nat), e = .returned (.tuple #[.agg #[.int .i64 g.rv.1.n, .slice C m d], .int .i64 g.rv.2]) ∧ g.rv.1.rs.length = m ∧ Hp w [arow C m d g.rv.1.rs] w'
end Go.Proofs.Ytgdfjblfpeedjaa
