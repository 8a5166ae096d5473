/- Contracts of the reference's Same and Few of fractions. -/
import Derived.Test.YtpinnopdimjfjaaGreatDoorFc
import Derived.Test.YtpinnopdimjfjaaGreatDoorFp
import Derived.Test.YtpinnopdimjfjaaGreatDoorNFrame
import Derived.Deep.Strs
import Derived.Test.YtpinnopdimjfjaaGreatDoorFY
import Derived.Test.YtpinnopdimjfjaaGreatDoorFr
import Derived.Deep.RegionHeld3
namespace Go.Proofs.YtpinnopdimjfjaaGreatDoor
open Go.RowKit
set_option linter.unusedVariables false
set_option maxRecDepth 100000

set_option maxHeartbeats 4000000 in
theorem same03_t (s : Bool) (n c m d n2 c2 m2 d2 : Nat) (x y x2 y2 : Int) (A B A2 B2 : Option Addr) (W : World) (hx : NumAt W (.slice A n c) x) (hy : NumAt W (.slice B m d) y) (hx2 : NumAt W (.slice A2 n2 c2) x2) (hy2 : NumAt W (.slice B2 m2 d2) y2) (ex : x = x2) (ey : y = y2) :
    Calls Tryz.prog 16 #[.agg #[.bool s, .slice A n c, .slice B m d], .agg #[.bool s, .slice A2 n2 c2, .slice B2 m2 d2]] W fun e w' => e = .returned (.bool true) ∧ Below W.heap.size W w' := by
  have V0 := Lib.hid (((((((LiveA.start W).num hy2).num hx2).num hy).num hx).newF (.bool s) (.slice A n c) (.slice B m d) 30).newF (.bool s) (.slice A2 n2 c2) (.slice B2 m2 d2) 30)
  have V1 : Hid (LiveA W [(⟨W.heap.size + 1, 2, none⟩, .slice B2 m2 d2), (⟨W.heap.size + 1, 1, none⟩, .slice A2 n2 c2), (⟨W.heap.size + 1, 0, none⟩, .bool s), (⟨W.heap.size, 2, none⟩, .slice B m d), (⟨W.heap.size, 1, none⟩, .slice A n c), (⟨W.heap.size, 0, none⟩, .bool s)] [(.slice A n c, x), (.slice B m d, y), (.slice A2 n2 c2, x2), (.slice B2 m2 d2, y2)] ((W.alloc (.cells #[.bool s, .slice A n c, .slice B m d] 30)).alloc (.cells #[.bool s, .slice A2 n2 c2, .slice B2 m2 d2] 30))) := by
    have h := V0.out
    rw [show (W.alloc (.cells #[.bool s, .slice A n c, .slice B m d] 30)).heap.size = W.heap.size + 1 by simp] at h
    exact h
  clear hx hy hx2 hy2 V0
  cases s with
  | false =>
    go_enter Tryz.func16, Tryz.ntmps16
    go_wp2_with fail
    refine (same_num n c n2 c2 _ _ A A2 _ (V1.out.at (.head _)) (V1.out.at (.tail _ (.tail _ (.head _)))) ex).mono ?_
    rintro e w2 ⟨rfl, b2⟩
    have V2 := Lib.hid (V1.out.go b2)
    clear b2
    obtain ⟨x2_f2, y2_f2⟩ := V2.out.box (.tail _ (.tail _ (.tail _ (.head _))))
    obtain ⟨x2_g2, y2_g2⟩ := V2.out.box (.head _)
    go_wp2_with fail
    refine (same_num m d m2 d2 _ _ B B2 _ (V2.out.at (.tail _ (.head _))) (V2.out.at (.tail _ (.tail _ (.tail _ (.head _))))) ey).mono ?_
    rintro e w3 ⟨rfl, b3⟩
    clear x2_f2 y2_f2 x2_g2 y2_g2
    have V3 := Lib.hid (V2.out.go b3)
    clear b3
    go_wp2_with fail
    go_ret
    exact ⟨rfl, V3.out.2.2⟩
  | true =>
    go_enter Tryz.func16, Tryz.ntmps16
    go_wp2_with fail
    refine (same_num n c n2 c2 _ _ A A2 _ (V1.out.at (.head _)) (V1.out.at (.tail _ (.tail _ (.head _)))) ex).mono ?_
    rintro e w2 ⟨rfl, b2⟩
    have V2 := Lib.hid (V1.out.go b2)
    clear b2
    obtain ⟨x2_f2, y2_f2⟩ := V2.out.box (.tail _ (.tail _ (.tail _ (.head _))))
    obtain ⟨x2_g2, y2_g2⟩ := V2.out.box (.head _)
    go_wp2_with fail
    refine (same_num m d m2 d2 _ _ B B2 _ (V2.out.at (.tail _ (.head _))) (V2.out.at (.tail _ (.tail _ (.tail _ (.head _))))) ey).mono ?_
    rintro e w3 ⟨rfl, b3⟩
    clear x2_f2 y2_f2 x2_g2 y2_g2
    have V3 := Lib.hid (V2.out.go b3)
    clear b3
    go_wp2_with fail
    go_ret
    exact ⟨rfl, V3.out.2.2⟩
/-- A list of fractions, by the lengths of their lists of digits. -/
def FracsAt (w : World) (g : Nat) (ns : List (Nat × Nat)) : Prop := g < w.heap.size ∧ ∀ j, j < ns.length → ∃ s A c B d, w.cell? ⟨g, j * 3, none⟩ = some (.bool s) ∧ w.cell? ⟨g, j * 3 + 1, none⟩ = some (.slice A (ns.getD j (0, 0)).1 c) ∧ w.cell? ⟨g, j * 3 + 2, none⟩ = some (.slice B (ns.getD j (0, 0)).2 d)
theorem FracsAt.below {w w' : World} {g : Nat} {ns : List (Nat × Nat)} (h : FracsAt w g ns) (hb : Below w.heap.size w w') : FracsAt w' g ns := by
  refine ⟨Nat.lt_of_lt_of_le h.1 hb.size, fun j hj => ?_⟩
  obtain ⟨s, A, c, B, d, h1, h2, h3⟩ := h.2 j hj
  exact ⟨s, A, c, B, d, (hb.cell (p := ⟨g, _, none⟩) h.1).trans h1, (hb.cell (p := ⟨g, _, none⟩) h.1).trans h2, (hb.cell (p := ⟨g, _, none⟩) h.1).trans h3⟩
def fewF (ns : List (Nat × Nat)) (k : Nat) : Bool := ns.all fun p => decide (p.1 + p.2 ≤ k)
theorem fewF_step {ns : List (Nat × Nat)} {k j : Nat} (h : j < ns.length) (h1 : fewF (ns.take j) k = true) (h2 : (ns.getD j (0, 0)).1 + (ns.getD j (0, 0)).2 ≤ k) : fewF (ns.take (j + 1)) k = true := by
  unfold fewF at *
  rw [List.take_succ_eq_append_getElem h, List.all_append, h1]
  simp [List.getD_eq_getElem?_getD, h] at h2 ⊢
  exact h2
theorem fewF_stop {ns : List (Nat × Nat)} {k j : Nat} (h : j < ns.length) (h2 : ¬ (ns.getD j (0, 0)).1 + (ns.getD j (0, 0)).2 ≤ k) : fewF ns k = false := by
  unfold fewF
  rw [List.all_eq_false]
  refine ⟨ns[j], List.getElem_mem h, ?_⟩
  simp [List.getD_eq_getElem?_getD, h] at h2 ⊢
  omega
set_option maxHeartbeats 4000000 in
theorem few03_any (ns : List (Nat × Nat)) (g n c most : Nat) (W : World) (hn : ns.length = n) (hn4 : n ≤ 12) (hns : ∀ j, (ns.getD j (0, 0)).1 ≤ 17592186044416 ∧ (ns.getD j (0, 0)).2 ≤ 17592186044416) (hm : most ≤ 1000) (hA : FracsAt W g ns) :
    Calls Tryz.prog 17 #[.slice (some ⟨g, 0, none⟩) n c, .int .i64 most] W fun e w' => e = .returned (.bool (fewF ns most)) ∧ Below W.heap.size W w' := by
  have HN := Lib.hid hn
  have HA := Lib.hid hA
  have HNS := Lib.hid hns
  clear hn hA hns
  go_enter Tryz.func17, Tryz.ntmps17
  go_wp2
  go_loopw [5] (fun i wr => ∃ k : Nat, k ≤ n ∧ i = .int .i64 (k : Int) ∧ fewF (ns.take k) most = true ∧ Below W.heap.size W wr) (fun i _ => n - (intOf i).toNat)
  case atStart => exact ⟨0, Nat.zero_le _, rfl, by simp [fewF], Below.refl _ _⟩
  case round =>
    obtain ⟨k, hk, rfl, hf, hb⟩ := hrel
    have HF := Lib.hid hf
    have HB := Lib.hid hb
    clear hf hb
    by_cases hlt : k < n
    · obtain ⟨s, A, cA, B, cB, h0, h1, h2⟩ := (HA.out.below HB.out).2 k (by rw [HN.out]; exact hlt)
      obtain ⟨u, hu⟩ : ∃ u, u = (ns.getD k (0, 0)).1 := ⟨_, rfl⟩
      obtain ⟨v, hv⟩ : ∃ u, u = (ns.getD k (0, 0)).2 := ⟨_, rfl⟩
      have hu4 : u ≤ 17592186044416 := by rw [hu]; exact (HNS.out k).1
      have hv4 : v ≤ 17592186044416 := by rw [hv]; exact (HNS.out k).2
      rw [← hu] at h1
      rw [← hv] at h2
      have HU := Lib.hid hu
      have HVV := Lib.hid hv
      have HS2 := Lib.hid (small2 hu4 hv4)
      clear hu hv hu4 hv4
      by_cases hle : u + v ≤ most
      · have HD := Lib.hid (show decide (([u, v] : List Nat).sum ≤ most) = true from decide_eq_true (by simpa using hle))
        have HST := Lib.hid (fewF_step (by rw [HN.out]; exact hlt) HF.out (by rw [← HU.out, ← HVV.out]; exact hle))
        clear hle
        go_wp2_with fail
        go_region_with ((go_at_call 11; (refine (Few_any [u, v] _ 2 2 most _ rfl (by omega) HS2.out hm (by intro j hj; exact nats2 wr wr.heap.size u v cA cB A B _ rfl j hj)).mono ?_); rintro e w5 ⟨rfl, rfl⟩; rw [HD.out]))
        all_goals (go_wp2_with fail)
        all_goals go_roundw
        all_goals first
          | exact ⟨k + 1, by omega, by go_num, HST.out, by first | exact btwo HB.out one_new | exact btwo HB.out (btwo one_new (Below.refl _ _).drew) | exact bdr (btwo HB.out one_new) _⟩
          | (simp [intOf]; omega)
      · have HD := Lib.hid (show decide (([u, v] : List Nat).sum ≤ most) = false from decide_eq_false (by simpa using hle))
        have HST := Lib.hid (fewF_stop (by rw [HN.out]; exact hlt) (by rw [← HU.out, ← HVV.out]; exact hle))
        clear hle
        go_wp2_with fail
        go_region_with ((go_at_call 11; (refine (Few_any [u, v] _ 2 2 most _ rfl (by omega) HS2.out hm (by intro j hj; exact nats2 wr wr.heap.size u v cA cB A B _ rfl j hj)).mono ?_); rintro e w5 ⟨rfl, rfl⟩; rw [HD.out]))
        all_goals (go_wp2_with fail)
        all_goals go_ret
        all_goals exact ⟨ret_bool HST.out, by first | exact btwo HB.out one_new | exact btwo HB.out (btwo one_new (Below.refl _ _).drew) | exact bdr (btwo HB.out one_new) _⟩
    · obtain rfl : k = n := by omega
      rw [List.take_of_length_le (by rw [HN.out]; exact Nat.le_refl _)] at HF
      clear hlt
      go_wp2_with fail
      go_ret
      exact ⟨ret_bool HF.out, HB.out⟩
end Go.Proofs.YtpinnopdimjfjaaGreatDoor
/- Plain mathematics: the text of a fraction is taken apart again. -/
namespace Go.Proofs.YtpinnopdimjfjaaGreatDoor
open Go.RowKit
set_option linter.unusedVariables false
set_option maxRecDepth 100000

theorem index_split (b : List UInt8) : ∀ a : List UInt8, (47 : UInt8) ∉ a → Lib.index (a ++ 47 :: b) [47] = a.length
  | [], _ => by simp [Lib.index]
  | x :: a, h => by
    have hx : ¬ (47 : UInt8) = x := fun e => h (by rw [e]; exact List.mem_cons_self)
    have ih := index_split b a (fun hm => h (List.mem_cons_of_mem _ hm))
    rw [List.cons_append]
    unfold Lib.index
    rw [ih, if_neg (by simp [hx]), if_neg (by first | (simp; done) | (simp; omega)), List.length_cons]
    omega
theorem index_no : ∀ a : List UInt8, (47 : UInt8) ∉ a → Lib.index a [47] = -1
  | [], _ => by simp [Lib.index]
  | x :: a, h => by
    have hx : ¬ (47 : UInt8) = x := fun e => h (by rw [e]; exact List.mem_cons_self)
    have ih := index_no a (fun hm => h (List.mem_cons_of_mem _ hm))
    unfold Lib.index
    rw [ih, if_neg (by simp [hx])]
    rfl
theorem cut_split (a b : List UInt8) (h : (47 : UInt8) ∉ a) : Lib.cut (a ++ 47 :: b) [47] = (a, b, true) := by
  unfold Lib.cut
  rw [index_split b a h, if_pos (by omega)]
  simp
theorem cut_no (a : List UInt8) (h : (47 : UInt8) ∉ a) : Lib.cut a [47] = (a, [], false) := by
  unfold Lib.cut
  rw [index_no a h, if_neg (by omega)]
theorem dig_no {l : List UInt8} (h : allD l) (c : UInt8) (hc : isd c = false) : c ∉ l := fun hm => by
  have := h c hm
  rw [hc] at this; cases this
theorem pre_of (c x : UInt8) (l : List UInt8) (h : ¬ c = x) : Lib.hasPrefix (x :: l) [c] = false := by
  simp [Lib.hasPrefix, List.isPrefixOf, h]
theorem pre_yes (c : UInt8) (l : List UInt8) : Lib.hasPrefix (c :: l) [c] = true := by
  simp [Lib.hasPrefix, List.isPrefixOf]
theorem neg_ftext (s : Bool) (p q : Int) : negOf (ftext s p q) = s ∧ restOf (ftext s p q) = fmt p ++ (if q = 1 then [] else 47 :: fmt q) := by
  cases s with
  | true =>
    have e : ftext true p q = 45 :: (fmt p ++ (if q = 1 then [] else 47 :: fmt q)) := by simp [ftext]
    rw [e]
    unfold negOf restOf Lib.trimPrefix
    rw [pre_yes]
    exact ⟨rfl, by simp⟩
  | false =>
    have e : ftext false p q = fmt p ++ (if q = 1 then [] else 47 :: fmt q) := by simp [ftext]
    rw [e]
    obtain ⟨hne, hd, _⟩ := fmt_isT p
    obtain ⟨x, l, hl⟩ := List.exists_cons_of_ne_nil hne
    have hx : ¬ (45 : UInt8) = x := fun e => dig_no hd 45 (by decide) (by rw [hl, e]; exact List.mem_cons_self)
    rw [hl, List.cons_append]
    unfold negOf restOf Lib.trimPrefix
    rw [pre_of 45 x _ hx]
    exact ⟨rfl, by simp⟩
theorem parts_ftext (s : Bool) (p q : Int) : numOf (ftext s p q) = fmt p ∧ denOf (ftext s p q) = fmt q ∧ divOf (ftext s p q) = !decide (q = 1) := by
  have hn : (47 : UInt8) ∉ fmt p := dig_no (fmt_isT p).2.1 47 (by decide)
  unfold numOf denOf divOf
  rw [(neg_ftext s p q).2]
  by_cases h : q = 1
  · rw [if_pos h, List.append_nil, cut_no _ hn]
    refine ⟨rfl, ?_, by simp [h]⟩
    rw [if_neg (by simp), h]
    decide +kernel
  · rw [if_neg h, cut_split _ _ hn]
    exact ⟨rfl, by simp, by simp [h]⟩
end Go.Proofs.YtpinnopdimjfjaaGreatDoor
/- How a fraction that came in is opened: a bool and two numbers by value. -/
namespace Go.Proofs.YtpinnopdimjfjaaGreatDoor
open Go.ChangeShapes Go.WideShapes Go.ChangeAt Go.RowKit
set_option linter.unusedVariables false
set_option maxRecDepth 100000

theorem cellsFrac : Tryz.prog.cellsOf 30 = 3 := by kernel_rfl
theorem cellsBool : Tryz.prog.cellsOf 4 = 1 := by kernel_rfl
/-- A number inside a struct that came in. -/
theorem nat_field {H : Type} {enc : TypeId × Value → H} {W : World} {fuel : Nat} {x : Value} {yd : DataW H} {yp : List MemPlace}
    (hf : DataW.trod enc Tryz.prog W 0 (fun _ => true) true fuel 24 [x] = some (yd, yp)) (hw : ∀ m ∈ yd.weights Tryz.prog 24, m ≤ reachBytes) :
    ∃ (A : Option Addr) (n c : Nat) (L : List Int), x = .slice A n c ∧ L.length = n ∧ n ≤ c ∧ c ≤ 17592186044416 ∧ IntsIn W A L := by
  obtain ⟨y0, n, hx, _, h0⟩ := trod_struct1 Tryz.underlying24 hf
  obtain ⟨zd, zp⟩ := y0
  simp only [Prod.mk.injEq] at hx
  have h0' : DataW.trod enc Tryz.prog W 0 (fun _ => true) true n 22 [x] = some (zd, zp) := by
    have e : Tryz.prog.cellsOf 22 = 1 := by kernel_rfl
    simpa [e] using h0
  rcases open_ints Tryz.underlying22 Tryz.underlying3 Tryz.cellsInt h0' with ⟨hcs, hy⟩ | ⟨a, len, cap, zs, hcs, _, hl, hm, hz, hy, hcell, hwz⟩
  · simp only [List.cons.injEq, and_true] at hcs
    subst hcs
    exact ⟨none, 0, 0, [], rfl, rfl, Nat.le_refl _, Nat.zero_le _, IntsIn.nil _ _⟩
  · simp only [List.cons.injEq, and_true] at hcs
    subst hcs
    simp only [if_true] at hz
    simp only [Prod.mk.injEq] at hy
    rw [hx.1, hy.1] at hw
    have hr := nat_weights hw
    simp only [lits, List.length_map, List.length_take, List.length_drop, hz, Nat.min_eq_left hl] at hr
    have hb := reachBytes_lt
    have hlen : (zs.take len).length = len := by rw [List.length_take, hz, Nat.min_eq_left hl]
    refine ⟨some a, len, cap, zs.take len, rfl, hlen, hl, by omega, fun h0 => ?_⟩
    rw [hlen] at h0
    obtain ⟨b, off, spot⟩ := a
    have hc0 := hcell 0 (by omega)
    have hspot : spot = none := by simpa [Addr.add] using World.cell?_spot hc0
    subst hspot
    refine ⟨b, off, rfl, ?_, fun j hj => ?_⟩
    · have := World.block_lt_of_cell? W _ hc0
      simpa [Addr.add] using this
    · rw [hlen] at hj
      have := hcell j (by omega)
      rw [show (⟨b, off, none⟩ : Addr).add j = ⟨b, off + j, none⟩ from by unfold Addr.add; split <;> simp_all] at this
      rw [this, getD_take hj]
theorem bool_field {H : Type} {enc : TypeId × Value → H} {W : World} {fuel : Nat} {x : Value} {y : DataW H × List MemPlace}
    (hf : DataW.trod enc Tryz.prog W 0 (fun _ => true) true fuel 4 [x] = some y) : ∃ b : Bool, x = .bool b := by
  cases fuel with
  | zero => simp [DataW.trod] at hf
  | succ k =>
    simp only [DataW.trod, Tryz.underlying4] at hf
    split at hf
    all_goals first
      | (rename_i b hb; exact ⟨_, by simp_all⟩)
      | (simp at hf; done)
      | simp_all
/-- A fraction that came in by value. -/
theorem open_frac {H : Type} {enc : TypeId × Value → H} {W : World} {r : Reach} {b0 : Nat} {v : Value} {d : DataW H} {p : List MemPlace} (hv : Value.okWide Tryz.prog W r b0 30 v)
    (h : DataW.Trod enc Tryz.prog W 0 (fun _ => true) true 30 v d p) (hw : ∀ m ∈ d.weights Tryz.prog 30, m ≤ reachBytes) :
    ∃ (s : Bool) (A B : Option Addr) (n c m e : Nat) (L M : List Int), v = .agg #[.bool s, .slice A n c, .slice B m e] ∧ L.length = n ∧ M.length = m ∧ n ≤ c ∧ m ≤ e ∧ c ≤ 17592186044416 ∧ e ≤ 17592186044416 ∧ IntsIn W A L ∧ IntsIn W B M := by
  obtain ⟨cs, rfl, hsz⟩ := okWide_struct Tryz.underlying30 hv
  rw [cellsFrac] at hsz
  obtain ⟨x, y, z, rfl⟩ : ∃ x y z, cs = #[x, y, z] := by
    obtain ⟨l⟩ := cs
    match l, hsz with
    | [x, y, z], _ => exact ⟨x, y, z, rfl⟩
  obtain ⟨fuel, hf⟩ := h
  obtain ⟨y0, y1, y2, n, hx, _, h0, h1, h2⟩ := Go.Deep.trod_struct3 Tryz.underlying30 hf
  obtain ⟨d1, p1⟩ := y1
  obtain ⟨d2, p2⟩ := y2
  simp only [Prod.mk.injEq] at hx
  rw [hx.1] at hw
  have k0 : DataW.trod enc Tryz.prog W 0 (fun _ => true) true n 4 [x] = some y0 := by simpa [Value.cells, cellsBool] using h0
  have k1 : DataW.trod enc Tryz.prog W 0 (fun _ => true) true n 24 [y] = some (d1, p1) := by simpa [Value.cells, Tryz.cellsNat] using h1
  have k2 : DataW.trod enc Tryz.prog W 0 (fun _ => true) true n 24 [z] = some (d2, p2) := by simpa [Value.cells, Tryz.cellsNat] using h2
  obtain ⟨s, rfl⟩ := bool_field k0
  have hw1 : ∀ m ∈ d1.weights Tryz.prog 24, m ≤ reachBytes := fun m hm => hw m (by simp only [DataW.weights, Tryz.underlying30]; simp [DataW.weightsEach, hm])
  have hw2 : ∀ m ∈ d2.weights Tryz.prog 24, m ≤ reachBytes := fun m hm => hw m (by simp only [DataW.weights, Tryz.underlying30]; simp [DataW.weightsEach, hm])
  obtain ⟨A, n1, c1, L, rfl, a1, a2, a3, a4⟩ := nat_field k1 hw1
  obtain ⟨B, n2, c2, M, rfl, b1, b2, b3, b4⟩ := nat_field k2 hw2
  exact ⟨s, A, B, n1, c1, n2, c2, L, M, rfl, a1, b1, a2, b2, a3, b3, a4, b4⟩
end Go.Proofs.YtpinnopdimjfjaaGreatDoor
/- What the statement about the text of a fraction answers: true, whatever the input. -/
namespace Go.Proofs.YtpinnopdimjfjaaGreatDoor
open Go.RowKit
set_option linter.unusedVariables false
set_option maxRecDepth 100000

theorem parse_text (s : Bool) (p q : Int) (W : World) (hC : Cutl W) (hp : 0 ≤ p) (hp2 : (digs p).length ≤ 200) (hq2 : (digs q).length ≤ 200) (hv : 0 < q ∧ gcdI p q = 1 ∧ (s = true → 0 < p)) :
    Calls Tryz.prog 40 #[.string ⟨(ftext s p q).toArray⟩] W (FrOk s p q W) := by
  obtain ⟨e1, e2, e3⟩ := parts_ftext s p q
  have e4 := (neg_ftext s p q).1
  have hq : 0 ≤ q := by omega
  have l1 := fmt_len hp2
  have l2 := fmt_len hq2
  have hl : (ftext s p q).length ≤ 100000 := by
    unfold ftext
    rw [List.length_append, List.length_append]
    have i1 : (if s = true then ([45] : List UInt8) else []).length ≤ 1 := by split <;> simp
    have i2 : (if q = 1 then ([] : List UInt8) else 47 :: fmt q).length ≤ 801 := by
      split
      · simp
      · rw [List.length_cons]; omega
    omega
  have h := fparse_nums (ftext s p q) W hl hC ⟨by rw [e1]; exact ⟨(isTB_iff _).2 (fmt_isT p), by omega⟩, by rw [e2]; exact ⟨(isTB_iff _).2 (fmt_isT q), by omega⟩⟩
    (by rw [e2, e3, fmt_dec hq]; simp) (by rw [e1, e2, e4, fmt_dec hp, fmt_dec hq]; exact hv)
  rw [e1, e2, e4, fmt_dec hp, fmt_dec hq] at h
  exact h
set_option maxHeartbeats 2000000 in
theorem fformat_bad (s : Bool) (L M : List Int) (n c m d : Nat) (A B : Option Addr) (W : World) (hn : L.length = n) (hm : M.length = m) (hnc : n ≤ c) (hmd : m ≤ d) (hc63 : c ≤ maxLen) (hd63 : d ≤ maxLen) (hA : IntsIn W A L) (hB : IntsIn W B M) (hv : vldF s L M = false) :
    Calls Tryz.prog 39 #[.agg #[.bool s, .slice A n c, .slice B m d]] W fun e w' => e = .returned (.tuple #[.string ⟨#[]⟩, .int .i64 1]) ∧ Below W.heap.size W w' := by
  have B0 : Below W.heap.size W (W.alloc (.cells #[.bool s, .slice A n c, .slice B m d] 30)) := (Below.refl _ _).alloc (Nat.le_refl _) _
  have HA := Lib.hid (hA.below B0)
  have HB := Lib.hid (hB.below B0)
  have HB0 := Lib.hid B0
  have HV := Lib.hid hv
  have HN := Lib.hid hn
  have HM := Lib.hid hm
  clear hA hB B0 hv hn hm
  go_enter Tryz.func39, Tryz.ntmps39
  go_wp2_with fail
  refine (fvalid_any s L M n c m d A B _ HN.out HM.out hnc hmd hc63 hd63 HA.out HB.out).mono ?_
  rintro e w1 ⟨rfl, b1⟩
  rw [HV.out]
  go_wp2_with fail
  go_ret2
  exact ⟨rfl, btwo HB0.out b1⟩
theorem fvalid_is (s : Bool) (L M : List Int) (n c m d : Nat) (A B : Option Addr) (W : World) (hn : L.length = n) (hm : M.length = m) (hnc : n ≤ c) (hmd : m ≤ d) (hc63 : c ≤ maxLen) (hd63 : d ≤ maxLen) (hA : IntsIn W A L) (hB : IntsIn W B M) {b : Bool} (hv : vldF s L M = b) : Calls Tryz.prog 20 #[.agg #[.bool s, .slice A n c, .slice B m d]] W fun e w' => e = .returned (.bool b) ∧ Below W.heap.size W w' := by
  have := fvalid_any s L M n c m d A B W hn hm hnc hmd hc63 hd63 hA hB
  rwa [hv] at this
theorem rfvalid_is (s : Bool) (L M : List Int) (n c m d : Nat) (A B : Option Addr) (W : World) (hn : L.length = n) (hm : M.length = m) (hnc : n ≤ c) (hmd : m ≤ d) (hc63 : c ≤ maxLen) (hd63 : d ≤ maxLen) (hA : IntsIn W A L) (hB : IntsIn W B M) {b : Bool} (hv : vldF s L M = b) : Calls Tryz.prog 31 #[.agg #[.bool s, .slice A n c, .slice B m d]] W fun e w' => e = .returned (.bool b) ∧ Below W.heap.size W w' := by
  have := rfvalid_any s L M n c m d A B W hn hm hnc hmd hc63 hd63 hA hB
  rwa [hv] at this
theorem heldx_go {W w w' : World} {g : Nat} {u v x : Value} (h : Below W.heap.size W w ∧ (w.cell? ⟨g, 0, none⟩ = some u ∧ w.cell? ⟨g, 1, none⟩ = some v ∧ w.cell? ⟨g, 2, none⟩ = some x)) (hb : Below w.heap.size w w') :
    Below W.heap.size W w' ∧ (w'.cell? ⟨g, 0, none⟩ = some u ∧ w'.cell? ⟨g, 1, none⟩ = some v ∧ w'.cell? ⟨g, 2, none⟩ = some x) :=
  ⟨btwo h.1 hb, (hb.cell (p := ⟨g, 0, none⟩) (World.block_lt_of_cell? _ _ h.2.1)).trans h.2.1, (hb.cell (p := ⟨g, 1, none⟩) (World.block_lt_of_cell? _ _ h.2.2.1)).trans h.2.2.1, (hb.cell (p := ⟨g, 2, none⟩) (World.block_lt_of_cell? _ _ h.2.2.2)).trans h.2.2.2⟩
theorem heldx_i {W w : World} {g : Nat} {u v x : Value} {A : Option Addr} {L : List Int} (h : Below W.heap.size W w ∧ (w.cell? ⟨g, 0, none⟩ = some u ∧ w.cell? ⟨g, 1, none⟩ = some v ∧ w.cell? ⟨g, 2, none⟩ = some x)) (hA : IntsIn W A L) : IntsIn w A L := hA.below h.1
theorem LiveA.over {W w w' : World} {lc : List (Addr × Value)} {ln : List (Value × Int)} (h : LiveA W lc ln w) (hb : Below w.heap.size w w') : LiveA W lc ln w' := h.go hb
theorem fracs_one (s : Bool) (A B : Option Addr) (n c m d : Nat) (w : World) : FracsAt (w.alloc (.cells #[.bool s, .slice A n c, .slice B m d] 30)) w.heap.size [(n, m)] := by
  have hr := heap_alloc_new w (.cells #[.bool s, .slice A n c, .slice B m d] 30)
  refine ⟨by simp, fun j hj => ?_⟩
  obtain rfl : j = 0 := by simpa using hj
  exact ⟨s, A, c, B, d, by rw [cell_of_row _ _ 0 _ _ _ hr]; rfl, by rw [cell_of_row _ _ 1 _ _ _ hr]; rfl, by rw [cell_of_row _ _ 2 _ _ _ hr]; rfl⟩
end Go.Proofs.YtpinnopdimjfjaaGreatDoor
