/- Contracts of the program: which arcs belong to a way. -/
import Derived.Test.YtdoobdfanalnbaaDCg
import Derived.Test.YtdoobdfanalnbaaShelf
import Derived.Lib.OwnBridge
namespace Go.Proofs.Ytdoobdfanalnbaa
open Go.RowKit
set_option linter.unusedVariables false
set_option linter.unusedSimpArgs false
set_option maxRecDepth 100000

open Go.Shelf
theorem grown_putRow {α : Type} [Inhabited α] {enc : α → Value} {w : World} {g q : Nat} {d : Array α} : w.grownBy (Go.Sort.putRow enc (Go.Sort.ahead w q) g 0 d) (some g) :=
  ⟨rfl, rfl, rfl, by simp [Go.Sort.putRow, Go.Sort.mapBlock, Go.Sort.ahead], fun k hk hne => by
    have hne' : g ≠ k := fun e => hne (by rw [e])
    simp [Go.Sort.putRow, Go.Sort.mapBlock, Go.Sort.ahead, Array.getElem?_modify, hne']⟩
/-- A row is written anew, perhaps shorter. -/
theorem Hp.row_upd {W w w' : World} {pre : List Itm} {vs : List (Option Addr × Nat)} {rows : List (List Int)} {q b c : Nat} {row row' : List Int} (h : Hp W (pre ++ rowsG vs rows) w) (hv : vs[q]? = some (some ⟨b, 0, none⟩, c)) (hr : rows[q]? = some row)
    (hg : w.grownBy w' (some b)) (ho : w'.ownsRow W.heap.size 3 1 (.slice (some ⟨b, 0, none⟩) row'.length c) row'.length (ints row')) : Hp W (pre ++ rowsG (vs.set q (some ⟨b, 0, none⟩, c)) (rows.set q row')) w' := by
  have hi : (pre ++ rowsG vs rows)[pre.length + q]? = some (nums (some ⟨b, 0, none⟩) row.length c row) := by
    rw [List.getElem?_append_right (by omega), Nat.add_sub_cancel_left]; exact rowsG_get hv hr
  have h2 := h.upd hi (nums (some ⟨b, 0, none⟩) row'.length c row') hg ho (fun k hk => .inl hk)
  rw [List.set_append_right _ _ (by omega), Nat.add_sub_cancel_left, rowsG_set] at h2
  exact h2
/-- The closure of newLister. -/
theorem lister1_any (g : Gr) (A : Option Addr) (n c : Nat) (wb gb gw N : Nat) (i : Fin n) (W : World) (hO : g.Ok) (hN : N = g.n.toNat) (h : GrIn W A n c g) (h1 : W.cell? ⟨wb, 0, none⟩ = some (.slice (some ⟨gw, 0, none⟩) N N)) (h2 : W.cell? ⟨gb, 1, none⟩ = some (.slice A n c))
    (h3 : ∀ j, j < N → W.cell? ⟨gw, j, none⟩ = some (.int .u64 (g.wy (j : Int)))) :
    FnGives Try.prog 113 #[.pointer (some ⟨wb, 0, none⟩), .pointer (some ⟨gb, 0, none⟩)] #[.int .i64 (i.1 : Int)] (.bool (wayB g (i.1 : Int))) W := by
  show Calls Try.prog 113 #[.int .i64 (i.1 : Int), .pointer (some ⟨wb, 0, none⟩), .pointer (some ⟨gb, 0, none⟩)] W _
  obtain ⟨I, hI⟩ := i
  dsimp only
  have hcs := h.small
  have hcn := h.cap
  obtain ⟨⟨f, t, q⟩, b, off, ha, hae, hA, hb, c0, c1, c2⟩ := h.at hI
  have har := hO.arc _ (List.mem_of_getElem? ha)
  dsimp only at har c0 c1 c2
  obtain ⟨T, rfl⟩ := Int.eq_ofNat_of_zero_le (show 0 ≤ t by omega)
  have hTN : T < N := by omega
  have h3' := h3 T hTN
  obtain ⟨x, hx⟩ : ∃ x, x = g.wy (T : Int) := ⟨_, rfl⟩
  rw [← hx] at h3'
  have HW := Lib.hid (show wayB g (I : Int) = decide (x = 0) by unfold wayB; rw [← hae, hx])
  subst hA
  have hI3 : I * 3 ≤ 18000 := by have := hO.len; have := h.len; omega
  have hN2 : N ≤ 2000 := by have := hO.n2; omega
  clear h3 ha hae har hO hx h hN
  by_cases hx0 : x = 0
  · have g1 : (x == 0) = true := beq_yes hx0
    have HE := Lib.hid (show wayB g (I : Int) = true by rw [HW.out]; exact decide_eq_true hx0)
    clear hx0
    go_enter Try.func113, Try.ntmps113
    go_wp2_with fail
    go_quiet (fail)
    go_wp2_with fail
    go_ret
    exact ⟨ret_bool HE.out.symm, _, rfl⟩
  · have g1 : (x == 0) = false := beq_no hx0
    have HE := Lib.hid (show wayB g (I : Int) = false by rw [HW.out]; exact decide_eq_false hx0)
    clear hx0
    go_enter Try.func113, Try.ntmps113
    go_wp2_with fail
    go_quiet (fail)
    go_wp2_with fail
    go_ret
    exact ⟨ret_bool HE.out.symm, _, rfl⟩
theorem delete_empty (a : Option Addr) (c : Nat) (fv : Value) (w : World) :
    Calls Try.prog 112 #[.slice a 0 c, fv] w fun e w' => e = .returned (.slice a 0 c) ∧ w' = w := by
  go_enter Try.func112, Try.ntmps112
  go_wp2_with fail
  refine (Try.slices_IndexFunc_empty (α := Int) a c fv w).mono ?_
  rintro e w1 ⟨rfl, h⟩
  have h' : w = w1 := h.symm
  subst h'
  go_wp2_with fail
  go_ret
  exact ⟨rfl, rfl⟩
set_option maxHeartbeats 4000000 in
/-- The arcs of one row that belong to no way are taken out. -/
theorem delete_row (g : Gr) (A : Option Addr) (n c : Nat) (wb gb gw N : Nat) (W w : World) (pre : List Itm) (vs : List (Option Addr × Nat)) (rows : List (List Int)) (q : Nat) (v : Option Addr × Nat) (hO : g.Ok) (hN : N = g.n.toNat) (hG : GrIn w A n c g)
    (h : Hp W (pre ++ rowsG vs rows) w) (hA : ∀ b o, 0 < (acells g.rs).length → A = some ⟨b, o, none⟩ → b < W.heap.size)
    (h1 : w.cell? ⟨wb, 0, none⟩ = some (.slice (some ⟨gw, 0, none⟩) N N)) (h2 : w.cell? ⟨gb, 1, none⟩ = some (.slice A n c)) (h3 : ∀ j, j < N → w.cell? ⟨gw, j, none⟩ = some (.int .u64 (g.wy (j : Int))))
    (hne : ∀ b, v.1 = some ⟨b, 0, none⟩ → ¬ wb = b ∧ ¬ gb = b ∧ ¬ gw = b) (hv : vs[q]? = some v) (hr : rows[q]? = some (outI g.rs (q : Int))) :
    Calls Try.prog 112 #[.slice v.1 (outI g.rs (q : Int)).length v.2, .func (.func 113) #[] #[.pointer (some ⟨wb, 0, none⟩), .pointer (some ⟨gb, 0, none⟩)]] w
      fun e w' => e = .returned (.slice v.1 (outF g (q : Int)).length v.2) ∧ Hp W (pre ++ rowsG (vs.set q v) (rows.set q (outF g (q : Int)))) w' ∧ (w' = w ∨ ∃ b, v.1 = some ⟨b, 0, none⟩ ∧ w.grownBy w' (some b)) := by
  obtain ⟨row, hrow⟩ : ∃ row, row = outI g.rs (q : Int) := ⟨_, rfl⟩
  have hF : outF g (q : Int) = row.filter fun i => !wayB g i := by rw [hrow]; rfl
  rw [hF, ← hrow]
  rw [← hrow] at hr
  by_cases h0 : row = []
  · subst h0
    refine (delete_empty _ _ _ _).mono ?_
    rintro e w' ⟨rfl, rfl⟩
    refine ⟨rfl, ?_, .inl rfl⟩
    have e1 : vs.set q v = vs := by
      apply List.ext_getElem?
      intro j
      rw [List.getElem?_set]
      by_cases e : q = j
      · subst e; rw [if_pos rfl, if_pos (List.getElem?_eq_some_iff.1 hv).1, hv]
      · rw [if_neg e]
    have e2 : rows.set q ([].filter fun i => !wayB g i) = rows := by
      apply List.ext_getElem?
      intro j
      rw [List.getElem?_set]
      by_cases e : q = j
      · subst e; rw [if_pos rfl, if_pos (List.getElem?_eq_some_iff.1 hr).1, hr]; rfl
      · rw [if_neg e]
    rw [e1, e2]
    exact h
  · have hin : ∀ i ∈ row, 0 ≤ i ∧ i < (n : Int) := fun i hi => by
      rw [hrow] at hi
      obtain ⟨a1, a2, _⟩ := outI_mem.1 hi
      exact ⟨a1, by have := hG.len; omega⟩
    have hn0 : 0 < n := by
      obtain ⟨a, l, e⟩ := List.exists_cons_of_ne_nil h0
      have := hin a (by rw [e]; simp)
      omega
    obtain ⟨zs, hz⟩ := fin_list hin
    haveI : Inhabited (Fin n) := ⟨⟨0, hn0⟩⟩
    obtain ⟨enc, henc⟩ : ∃ enc : Fin n → Value, enc = fun i => .int .i64 (i.1 : Int) := ⟨_, rfl⟩
    have hrl : zs.length = row.length := by rw [hz]; simp
    have hi : (pre ++ rowsG vs rows)[pre.length + q]? = some (nums v.1 row.length v.2 row) := by
      rw [List.getElem?_append_right (by omega), Nat.add_sub_cancel_left]; exact rowsG_get hv hr
    have hxs : ints row = zs.map enc := by rw [hz, henc]; unfold ints; rw [List.map_map]; rfl
    have hown := h.own _ _ hi
    rw [show (nums v.1 row.length v.2 row).xs = zs.map enc from hxs] at hown
    obtain ⟨b, cap, e1, hb1, hb2, hc1, hc2, hl, hH⟩ := Lib.holds_of_ownsRow hown (fun e => by
      have e' : Value.slice v.1 row.length v.2 = .slice none 0 0 := e
      injection e' with _ e2 _
      exact h0 (List.eq_nil_of_length_eq_zero e2))
    obtain ⟨vA, vc⟩ := v
    have e1' : Value.slice vA row.length vc = .slice (some ⟨b, 0, none⟩) row.length cap := e1
    injection e1' with e2 _ e3
    dsimp only at *
    subst e2; subst e3
    obtain ⟨n1, n2, n3⟩ := hne b rfl
    have eg : ∀ args w, (callFunc 113 args).run Try.prog w = .ok (.enter 113 args) w := enters_of Try.func113 (by kernel_rfl) rfl
    have hlt1 := World.block_lt_of_cell? w _ h1
    have hlt2 := World.block_lt_of_cell? w _ h2
    have hcon := Try.slices_DeleteFunc enc (fun x => by rw [henc]; rfl) (fun i => wayB g (i.1 : Int)) 113 #[.pointer (some ⟨wb, 0, none⟩), .pointer (some ⟨gb, 0, none⟩)] eg ⟨0, hn0⟩ (by intro w; rw [henc]; exact Try.zeroValue3 w) b 0 vc zs.toArray w
      (fun W' x hB => by
        rw [henc]
        exact lister1_any g A n c wb gb gw N x W' hO hN (hG.below hB) ((hB.cell (p := ⟨wb, 0, none⟩) hlt1).trans h1) ((hB.cell (p := ⟨gb, 1, none⟩) hlt2).trans h2) (fun j hj => (hB.cell (p := ⟨gw, j, none⟩) (World.block_lt_of_cell? w _ (h3 j hj))).trans (h3 j hj)))
      (fun m os dk x _ => by
        have hcell : ∀ (p : Addr) (u : Value), ¬ p.block = b → w.cell? p = some u → (sortWorld enc w b 0 m dk os).cell? p = some u := fun p u hp hu => by
          unfold sortWorld
          rw [Go.Sort.cell?_grow _ _ _ (by show p.block < (Go.Sort.putRow _ _ _ _ _).heap.size; rw [Go.Sort.size_putRow]; exact World.block_lt_of_cell? w _ hu), Go.Sort.cell?_putRow_other _ _ b 0 _ _ (Or.inl hp)]
          exact hu
        rw [henc]
        rw [henc] at hcell
        refine lister1_any g A n c wb gb gw N x _ hO hN ⟨hG.len, hG.cap, hG.small, ?_⟩ (hcell _ _ n1 h1) (hcell _ _ n2 h2) (fun j hj => hcell _ _ n3 (h3 j hj))
        intro h00
        obtain ⟨b2, o2, ea, hlt, hcs⟩ := hG.arcs h00
        have hbb : ¬ b2 = b := by have := hA b2 o2 h00 ea; omega
        exact ⟨b2, o2, ea, World.block_lt_of_cell? _ _ (hcell ⟨b2, o2 + 0, none⟩ _ hbb (hcs 0 _ (List.getElem?_eq_getElem h00))), fun j u hu => hcell _ _ hbb (hcs j u hu)⟩)
      hH (by unfold maxLen at hc2; simp; omega) (by simp; omega)
    have hsz : zs.toArray.size = row.length := by simpa using hrl
    rw [hsz] at hcon
    refine hcon.mono ?_
    rintro e w' ⟨rfl, k, rfl⟩
    obtain ⟨fl, hfl⟩ : ∃ fl, fl = zs.toArray.toList.filter fun x => !wayB g (x.1 : Int) := ⟨_, rfl⟩
    rw [← hfl]
    have hflen : fl.length ≤ row.length := by rw [hfl, ← hrl]; exact Nat.le_trans (List.length_filter_le _ _) (by simp)
    have hfr : row.filter (fun i => !wayB g i) = fl.map fun i => (i.1 : Int) := by
      rw [hfl, hz, List.filter_map]; rfl
    have hfe : fl.map enc = ints (row.filter fun i => !wayB g i) := by rw [hfr, henc]; unfold ints; rw [List.map_map]; rfl
    have hlen2 : (row.filter fun i => !wayB g i).length = fl.length := by rw [hfr]; simp
    have hown2 : w.ownsRow W.heap.size 3 1 (.slice (some ⟨b, 0, none⟩) row.length vc) row.length (zs.map enc) := hown
    have ho := Lib.ownsRow_putRow (q := k) (k := fl.length) (ys := fl ++ List.replicate (row.length - fl.length) ⟨0, hn0⟩) hown2 (by simp; omega) hflen
    rw [List.take_left' rfl, hfe] at ho
    refine ⟨by rw [hlen2], ?_, .inr ⟨b, rfl, grown_putRow⟩⟩
    refine Hp.row_upd h hv hr grown_putRow ?_
    rw [hlen2]
    exact ho
end Go.Proofs.Ytdoobdfanalnbaa
