/- Contracts: Alphabet of both sides. -/
import Derived.Test.YtfgnekbkcmpdiaaGreatDoorOo
import Derived.Deep.WholeRow
namespace Go.Proofs.YtfgnekbkcmpdiaaGreatDoor
open Go.RowKit
set_option linter.unusedVariables false
set_option linter.unusedSimpArgs false
set_option maxRecDepth 100000

/-! ### Which bytes occur -/
def setB (F : List Bool) (c : UInt8) : List Bool := F.set c.toNat true
def useB (l : List UInt8) : List Bool := l.foldl setB (List.replicate 256 false)
def useA (L : List Sg) : List UInt8 := L.flatMap (·.t)
def alpN (F : List Bool) (k : Nat) : List UInt8 := ((List.range k).filter (fun b => F.getD b false)).map (fun b => b.toUInt8)
theorem useB_len (l : List UInt8) : (useB l).length = 256 := by
  have key : ∀ (l : List UInt8) (F : List Bool), (l.foldl setB F).length = F.length := by
    intro l
    induction l with
    | nil => intro F; rfl
    | cons c r ih => intro F; rw [List.foldl_cons, ih]; unfold setB; rw [List.length_set]
  unfold useB; rw [key]; simp
theorem useB_snoc (l : List UInt8) (c : UInt8) : useB (l ++ [c]) = (useB l).set c.toNat true := by unfold useB; rw [List.foldl_append]; rfl
theorem useA_snoc (L : List Sg) (x : Sg) : useA (L ++ [x]) = useA L ++ x.t := by unfold useA; rw [List.flatMap_append]; simp
theorem alpN_step (F : List Bool) (k : Nat) : alpN F (k + 1) = alpN F k ++ (if F.getD k false = true then [k.toUInt8] else []) := by
  unfold alpN
  rw [List.range_succ, List.filter_append, List.map_append]
  congr 1
  by_cases h : F.getD k false = true
  · rw [List.filter_cons_of_pos (by simpa using h), if_pos h]; rfl
  · rw [List.filter_cons_of_neg (by simpa using h), if_neg h]; rfl
theorem alpN_le (F : List Bool) (k : Nat) : (alpN F k).length ≤ k := by
  unfold alpN; rw [List.length_map]
  exact Nat.le_trans (List.length_filter_le _ _) (by simp)
def bools2 (F : List Bool) : List Value := F.map Value.bool
theorem bools2_at {F : List Bool} {j : Nat} (h : j < F.length) : (bools2 F)[j]? = some (.bool (F.getD j false)) := by
  rw [List.getD_eq_getElem?_getD, List.getElem?_eq_getElem h]; simp [bools2, h]
theorem bools2_set (F : List Bool) (j : Nat) (b : Bool) : bools2 (F.set j b) = (bools2 F).set j (.bool b) := by unfold bools2; rw [List.map_set]
/-- The block of an array of 256 flags. -/
def abx (g : Nat) (F : List Bool) : Itm := box 61 g (bools2 F)
theorem zero_abx : Tryz.zeroCells61 = (bools2 (useB [])).toArray := by kernel_rfl
theorem Hp.abx_new {W w : World} {l : List Itm} (h : Hp W l w) : Hp W (abx w.heap.size (useB []) :: l) (w.alloc (.cells Tryz.zeroCells61 61)) := by
  rw [zero_abx]; exact h.box_new _ _
theorem Hp.abx_at {W w : World} {l : List Itm} {i g : Nat} {F : List Bool} (h : Hp W l w) (hi : l[i]? = some (abx g F)) {j : Nat} (hj : j < F.length) : w.cell? ⟨g, j, none⟩ = some (.bool (F.getD j false)) ∧ w.frozen? ⟨g, j, none⟩ = false ∧ g < w.heap.size := h.box_at hi (bools2_at hj)
theorem Hp.abx_set {W w : World} {l : List Itm} {i g : Nat} {F : List Bool} (h : Hp W l w) (hi : l[i]? = some (abx g F)) (j : Nat) (b : Bool) : Hp W (l.set i (abx g (F.set j b))) (w.setCell ⟨g, j, none⟩ (.bool b)) := by
  have := Hp.box_set (T := 61) (g := g) (cs := bools2 F) h hi j (.bool b)
  unfold abx; rw [bools2_set]; exact this
theorem arr_info : (Tryz.prog.info? 61).map (fun i => (i.size)) = some 256 := by kernel_rfl
theorem Hp.abx_load {W w : World} {l : List Itm} {i g : Nat} {F : List Bool} (h : Hp W l w) (hi : l[i]? = some (abx g F)) (hF : F.length = 256) : (loadVar 61 ⟨g, 0, none⟩).run Tryz.prog w = .ok (.agg (bools2 F).toArray) w := by
  have hl : (bools2 F).length = 256 := by unfold bools2; rw [List.length_map]; exact hF
  have h1 := run_loadCells_list (P := Tryz.prog) w ⟨g, 0, none⟩ (bools2 F) (fun j v hv => by
    rw [add_at, Nat.zero_add]; exact (h.box_at hi hv).1)
  have hagg : (isAgg 61).run Tryz.prog w = .ok true w := by
    unfold isAgg
    rw [Sem.run_bind, run_underlying Tryz.underlying61 w]; rfl
  cases hq : Tryz.prog.info? 61 with
  | none => have := arr_info; rw [hq] at this; cases this
  | some i0 =>
    have hs : i0.size = (bools2 F).length := by have := arr_info; rw [hq] at this; rw [hl]; simpa using this
    simp [loadVar, Sem.run_bind, hagg, sizeOf, typeInfo, hq, hs, h1]
/-! ### Rows of bytes -/
def bytC (B : List UInt8) : List Value := B.map fun c => .int .u8 (c.toNat : Int)
def byts (A : Option Addr) (n c : Nat) (B : List UInt8) : Itm := ⟨5, 1, .slice A n c, n, bytC B⟩
theorem byt_info : (Tryz.prog.info? 5).map (fun i => (i.zero, i.size, i.bytes)) = some (some (.int .u8 0), 1, 1) := by kernel_rfl
theorem run_app_byt {W w : World} {l : List Itm} {i : Nat} {A : Option Addr} {n c : Nat} {B : List UInt8} (h : Hp W l w) (hi : l[i]? = some (byts A n c B)) (ty : TypeId) {b : Nat} (x : UInt8) (hb : w.cell? ⟨b, 0, none⟩ = some (.int .u8 (x.toNat : Int))) (hn : n ≤ 4000000000000) :
    ∃ g cap w', (Builtin.append_ #[36, 36] ty #[.slice A n c, .slice (some ⟨b, 0, none⟩) 1 1]).run Tryz.prog w = .ok (.slice (some ⟨g, 0, none⟩) (n + 1) cap) w' ∧
      Hp W (l.set i (byts (some ⟨g, 0, none⟩) (n + 1) cap (B ++ [x]))) w' ∧ w.grownBy w' (Value.slice A n c).ownBlock := by
  have := run_app h hi (t := 36) (ty := ty) Tryz.underlying36 byt_info rfl (Nat.zero_lt_one) (by decide) (A := A) (c := c) rfl (b := b) [.int .u8 (x.toNat : Int)] rfl (fun j u hu => by
    cases j with
    | zero => injection hu with hu; subst hu; exact hb
    | succ j => simp at hu) (fun u hu => by rw [List.mem_singleton.1 hu]; rfl) hn
  simpa [byts, bytC] using this
/-- A row of bytes as a string. -/
theorem conv_byts {W w : World} {l : List Itm} {i : Nat} {A : Option Addr} {n c : Nat} {B : List UInt8} (h : Hp W l w) (hi : l[i]? = some (byts A n c B)) : (convert 36 9 (.slice A n c)).run Tryz.prog w = .ok (.string (bs B)) w := by
  have hl : B.length = n := by
    have := (h.own i _ hi).1
    simpa [byts, bytC] using this
  cases A with
  | none =>
    have hn : n = 0 := by
      obtain ⟨A', c', e, _, _, h4⟩ := h.form hi
      rcases Nat.eq_zero_or_pos n with h0 | h0
      · exact h0
      · obtain ⟨g, hg⟩ := h.head hi (A := none) (c := c) rfl h0
        cases hg
    subst hn
    have hB : B = [] := List.eq_nil_of_length_eq_zero hl
    subst hB
    rw [run_convert_bytes_string w 36 9 5 none 0 c Tryz.underlying36 Tryz.underlying5 Tryz.underlying9]
    rfl
  | some a =>
    obtain ⟨b, o, sp⟩ := a
    have hform := (h.own i _ hi).2
    rcases hform with ⟨e, hn⟩ | ⟨g, cap, cur, e, _⟩
    · cases e
    · injection e with e1 e2 e3
      injection e1 with e1
      rw [e1]
      have := run_convert_bytes_back (P := Tryz.prog) w 36 9 5 ⟨g, 0, none⟩ c B Tryz.underlying36 Tryz.underlying5 Tryz.underlying9 (fun j hj => by
        rw [add_at, Nat.zero_add]
        refine (h.cell hi (g := g) (cap := c) (by show Value.slice _ _ _ = _; rw [e1]; rfl) (j := j) ?_).1
        show (bytC B)[j]? = _
        unfold bytC; rw [List.getElem?_map, List.getElem?_eq_getElem hj]; rfl)
      rw [hl] at this
      exact this
theorem wp_load_run {P : Program} {o : Oper} {a : Act} {w : World} {K : Act → World → Prop} {Q : Exit → Act → World → Prop} (ty : TypeId) (x : Operand) (ho : o.op = .load ty x) {v u : Value} (hx : a.eval x = v)
    (hr : (Instr.loadAt ty v).run P w = .ok u w) (h : K (a.put o.dst u) w) : o.wp P a w K Q := by
  unfold Oper.wp execOp
  simp only [ho, hx, Sem.run_bind, Sem.run_pure, Result.andThen_ok, hr]
  exact h
theorem byte_nat {q : Nat} (h : q < 256) : ((q.toUInt8.toNat : Nat) : Int) = (q : Int) := by
  have : q.toUInt8.toNat = q := by simp; omega
  rw [this]
theorem wrap_u8 {q : Int} (h : 0 ≤ q ∧ q ≤ 255) : IntKind.u8.wrap q = q := by
  exact IntWalk.u8_in _ h
theorem run_idx_arr {F : List Bool} {q : Nat} (hF : F.length = 256) (hq : q < 256) (w : World) : (Instr.index 61 (.agg (bools2 F).toArray) (.int .i64 (q : Int))).run Tryz.prog w = .ok (.bool (F.getD q false)) w := by
  have hsz : (sizeOf 4).run Tryz.prog w = .ok 1 w := by
    obtain ⟨i0, hi, _, hz1, _⟩ := info_parts bool_info
    simp [sizeOf, typeInfo, hi, hz1]
  have hag : (isAgg 4).run Tryz.prog w = .ok false w := by
    unfold isAgg; rw [Sem.run_bind, run_underlying Tryz.underlying4 w]; rfl
  have hb : (bools2 F)[q]? = some (.bool (F.getD q false)) := bools2_at (by omega)
  have h256 : (q : Int) < 256 := by omega
  simp [Instr.index, run_underlying Tryz.underlying61, asIntOf, part, hag, hsz, hb, h256]
  intro h; omega
set_option maxHeartbeats 8000000 in
theorem alph_any (nm : List UInt8) (L : List Sg) (A : Option Addr) (n c : Nat) (w : World) (hl : L.length = n) (hn : n ≤ 1000000) (ht : ∀ x ∈ L, x.t.length ≤ 140737488355328) (hA : SgnIn w A L) :
    Calls Tryz.prog 21 #[.agg #[.string (bs nm), .slice A n c]] w fun e w' => e = .returned (.string (bs (alpN (useB (useA L)) 256))) ∧ Below w.heap.size w w' := by
  obtain ⟨g1, hg1⟩ : ∃ z, z = w.heap.size := ⟨_, rfl⟩
  obtain ⟨W1, hW1⟩ : ∃ z, z = w.alloc (.cells #[.string (bs nm), .slice A n c] 25) := ⟨_, rfl⟩
  have V1 := Lib.hid (show Hp w [obox g1 nm A n c] W1 by rw [hW1, hg1]; exact (Hp.start w).obox_new nm A n c)
  obtain ⟨g2, hg2⟩ : ∃ z, z = W1.heap.size := ⟨_, rfl⟩
  obtain ⟨W2, hW2⟩ : ∃ z, z = W1.alloc (.cells Tryz.zeroCells61 61) := ⟨_, rfl⟩
  have V2 := Lib.hid (show Hp w [abx g2 (useB (useA (L.take 0))), obox g1 nm A n c] W2 by rw [hW2, hg2]; exact V1.out.abx_new)
  have HG2 := Lib.hid (show g2 = g1 + 1 by rw [hg2, hW1, hg1]; simp)
  have HW1 := Lib.hid hW1
  have HG1 := Lib.hid hg1
  have HW2 := Lib.hid hW2
  have HL := Lib.hid hl
  have HA := Lib.hid hA
  have HTB := Lib.hid ht
  obtain ⟨z0, z1, z2⟩ := V2.out.obox_at (i := 1) rfl
  clear hl hA hW1 hg1 hW2 hg2 ht
  go_enter Tryz.func21, Tryz.ntmps21
  go_upto_region 2 with fail
  rw [← HG1.out, ← HW1.out, ← HG2.out, ← HW2.out]
  go_wp2_with fail
  go_loopw [13] (fun i wr => ∃ k : Nat, k ≤ n ∧ i = .int .i64 (k : Int) ∧ Hp w [abx g2 (useB (useA (L.take k))), obox g1 nm A n c] wr) (fun i _ => n - (intOf i).toNat)
  case atStart => exact ⟨0, Nat.zero_le _, rfl, V2.out⟩
  case round =>
    obtain ⟨k, hk, rfl, hV⟩ := hrel
    obtain ⟨wi, rfl⟩ : ∃ wi : World, wi = wr := ⟨_, rfl⟩
    have V3 := Lib.hid hV
    clear hV z0 z1 z2 V1 V2
    obtain ⟨z0, z1, z2⟩ := V3.out.obox_at (i := 1) rfl
    by_cases hlt : k < n
    · obtain ⟨x, hx⟩ := get_at (L := L) (k := k) (by have := HL.out; omega)
      obtain ⟨b, off, Aj, cj, hAe, hb, c0, c1, c2, c3, c4⟩ := (HA.out.below V3.out.below).at hx
      have HX := Lib.hid hx
      have hxt := HTB.out x (List.mem_of_getElem? hx)
      rw [hAe] at z1
      have HAE := Lib.hid hAe
      have hk4 : k * 4 ≤ 4000000 := by omega
      obtain ⟨g3, hg3⟩ : ∃ z, z = wi.heap.size := ⟨_, rfl⟩
      obtain ⟨W3, hW3⟩ : ∃ z, z = wi.alloc (.cells #[.string (bs x.t), .slice Aj x.s.length cj, .int .i64 x.c, .int .i64 x.w] 34) := ⟨_, rfl⟩
      have V4 := Lib.hid (show Hp w [sgbox g3 (Aj, cj) x, abx g2 (useB (useA (L.take k) ++ x.t.take 0)), obox g1 nm A n c] W3 by rw [hW3, hg3, List.take_zero, List.append_nil]; exact V3.out.sgbox_new Aj cj x)
      have HW3 := Lib.hid hW3
      have HG3 := Lib.hid hg3
      obtain ⟨tl, htl⟩ : ∃ tl, tl = x.t.length := ⟨_, rfl⟩
      obtain ⟨s, hs⟩ : ∃ s, s = bs x.t := ⟨_, rfl⟩
      have HS := Lib.hid hs
      have hsz : s.size = tl := by rw [hs, bs_size]; exact htl.symm
      have HTL := Lib.hid hsz
      rw [← htl] at hxt
      have HT := Lib.hid htl
      subst hAe
      clear hx c4 hW3 hg3 htl hs
      go_upto_region 5 with fail
      rw [← HG3.out, ← HW3.out]
      clear c0 c1 c2 c3 hb z0 z1 z2
      go_wp2_with fail
      go_loopw [6] (fun i wr => ∃ j : Nat, j ≤ tl ∧ i = .int .i64 (j : Int) ∧ Hp w [sgbox g3 (Aj, cj) x, abx g2 (useB (useA (L.take k) ++ x.t.take j)), obox g1 nm (some ⟨b, off, none⟩) n c] wr) (fun i _ => tl - (intOf i).toNat)
      case atStart => exact ⟨0, Nat.zero_le _, rfl, V4.out⟩
      case round =>
        obtain ⟨j, hj, rfl, hV⟩ := hrel
        obtain ⟨wj, rfl⟩ : ∃ wi : World, wi = wr := ⟨_, rfl⟩
        have V5 := Lib.hid hV
        clear hV V4
        obtain ⟨y0, y1, y2, y3, y4⟩ := V5.out.sgbox_at (i := 0) rfl
        rw [← HS.out] at y0
        by_cases hlt3 : j < tl
        · have hlt4 := hlt3
          have hz := HTL.out
          have hlt2 : j < s.size := by omega
          have hb255 : (s[j].toNat : Int) ≤ 255 := by have := s[j].toNat_lt; omega
          have hb256 : s[j].toNat < 256 := by have := s[j].toNat_lt; omega
          have HN := Lib.hid (show useA (L.take k) ++ x.t.take (j + 1) = (useA (L.take k) ++ x.t.take j) ++ [s[j]] by
            have e : x.t = s.data.toList := by rw [HS.out, bs_list]
            rw [List.append_assoc, e, takeS hlt2])
          obtain ⟨f0, f1, f2⟩ := V5.out.abx_at (i := 1) rfl (j := s[j].toNat) (by rw [useB_len]; exact hb256)
          have V6 := Lib.hid (V5.out.abx_set (i := 1) rfl s[j].toNat true)
          go_wp2_with fail
          go_roundw
          case rel => exact ⟨j + 1, by omega, by go_num, by rw [HN.out, useB_snoc]; exact V6.out⟩
          case measure => simp [intOf]; omega
        · obtain rfl : j = tl := by omega
          have HE := Lib.hid (show useA (L.take k) ++ x.t.take j = useA (L.take (k + 1)) by
            rw [take_snoc HX.out, useA_snoc, take_all HT.out.symm])
          go_wp2_with fail
          go_roundw
          case rel => exact ⟨k + 1, by omega, by go_num, by rw [← HE.out]; exact V5.out.tail⟩
          case measure => simp [intOf]; omega
    · have HE := Lib.hid (show L.take k = L from take_all (by have := HL.out; omega))
      rw [HE.out] at V3
      obtain ⟨F, hF⟩ : ∃ F, F = useB (useA L) := ⟨_, rfl⟩
      have HF := Lib.hid hF
      have HFL := Lib.hid (show F.length = 256 by rw [hF]; exact useB_len _)
      rw [← hF] at V3
      clear hF
      have hld := V3.out.abx_load (i := 0) rfl HFL.out
      have hld2 : (Instr.loadAt 61 (.pointer (some ⟨g2, 0, none⟩))).run Tryz.prog wi = .ok (.agg (bools2 F).toArray) wi := by
        simp only [Instr.loadAt, Instr.sureAddr, Sem.run_bind, Sem.run_pure, Result.andThen]; exact hld
      clear hld z0 z1 z2
      go_wp2_with fail
      rename_i hK
      refine wp_load_run 61 (.tmp 3) rfl rfl hld2 ?_
      refine hK _ _ ?_
      clear hld2 hK
      go_wp2_with fail
      have V6 := Lib.hid (show Hp w [byts none 0 0 (alpN F 0), abx g2 F, obox g1 nm A n c] wi from V3.out.nil_row _ rfl rfl rfl)
      go_loopw [7, 31] (fun v i wr => ∃ (q m d : Nat) (C : Option Addr), q ≤ 256 ∧ m ≤ q ∧ i = .int .i64 (q : Int) ∧ v = .slice C m d ∧ m = (alpN F q).length ∧ Hp w [byts C m d (alpN F q), abx g2 F, obox g1 nm A n c] wr) (fun _ i _ => 256 - (intOf i).toNat)
      case atStart => exact ⟨0, 0, 0, none, Nat.zero_le _, Nat.zero_le _, rfl, rfl, rfl, V6.out⟩
      case round =>
        obtain ⟨q, m, d, C, hq, hm, rfl, rfl, hml, hV⟩ := hrel
        obtain ⟨wq, rfl⟩ : ∃ wi : World, wi = wr := ⟨_, rfl⟩
        have V7 := Lib.hid hV
        have HML := Lib.hid hml
        clear hV hml V6 V3
        by_cases hlt5 : q < 256
        · obtain ⟨bo, hbo⟩ : ∃ bo, bo = F.getD q false := ⟨_, rfl⟩
          have hix : ∀ w, (Instr.index 61 (.agg (bools2 F).toArray) (.int .i64 (q : Int))).run Tryz.prog w = .ok (.bool bo) w := fun w => by rw [hbo]; exact run_idx_arr HFL.out hlt5 w
          have HBO := Lib.hid hbo
          have HSTEP := Lib.hid (alpN_step F q)
          have hcv : IntKind.u8.wrap (q : Int) = (q : Int) := wrap_u8 (by omega)
          clear hbo
          cases bo with
          | true =>
            have HE := Lib.hid (show alpN F (q + 1) = alpN F q ++ [q.toUInt8] by rw [HSTEP.out, ← HBO.out, if_pos rfl])
            obtain ⟨wy, hwy⟩ : ∃ z, z = wq.alloc (.cells #[.int .u8 (q : Int)] 5) := ⟨_, rfl⟩
            have V8 := Lib.hid (show Hp w (box 5 wq.heap.size [.int .u8 (q : Int)] :: byts C m d (alpN F q) :: abx g2 F :: obox g1 nm A n c :: []) wy by rw [hwy]; exact V7.out.box_new _ _)
            have y0 := (V8.out.box_at (i := 0) (j := 0) rfl rfl).1
            obtain ⟨g5, cap5, w5, hr5, hv5, _⟩ := run_app_byt V8.out (i := 1) rfl 36 q.toUInt8 (by rw [byte_nat hlt5]; exact y0) (by omega)
            have V9 := Lib.hid (show Hp w [byts (some ⟨g5, 0, none⟩) (m + 1) cap5 (alpN F q ++ [q.toUInt8]), abx g2 F, obox g1 nm A n c] w5 from hv5.tail)
            rw [← HE.out] at V9
            have HM3 := Lib.hid (show m + 1 = (alpN F (q + 1)).length by rw [HE.out, List.length_append, ← HML.out]; rfl)
            have HY := Lib.hid hwy
            have HR5 := Lib.hid hr5
            clear hwy y0 hv5 hr5
            go_wp2_with (at_builtin; rw [← HY.out]; refine wpList_app_run rfl (.tmp 36) (.tmp 39) 36 rfl HR5.out rfl rfl ?_)
            go_roundw
            case rel => exact ⟨q + 1, m + 1, cap5, _, by omega, by omega, by go_num, rfl, HM3.out, V9.out⟩
            case measure => simp [intOf]; omega
          | false =>
            have HE := Lib.hid (show alpN F (q + 1) = alpN F q by rw [HSTEP.out, ← HBO.out, if_neg (by decide), List.append_nil])
            go_wp2_with fail
            go_roundw
            case rel => exact ⟨q + 1, m, d, C, by omega, by omega, by go_num, rfl, by rw [HE.out]; exact HML.out, by rw [HE.out]; exact V7.out⟩
            case measure => simp [intOf]; omega
        · obtain rfl : q = 256 := by omega
          have hcb := conv_byts V7.out (i := 0) (A := C) (n := m) (c := d) rfl
          have HX := Lib.hid HF.out
          go_wp2_with fail
          go_ret
          exact ⟨by rw [HX.out]; rfl, V7.out.below⟩
end Go.Proofs.YtfgnekbkcmpdiaaGreatDoor
