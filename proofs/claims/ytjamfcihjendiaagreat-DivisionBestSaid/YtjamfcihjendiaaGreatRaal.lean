/- Several texts in one: Uo, Ur, Us, Uu. -/
import Derived.Test.YtjamfcihjendiaaGreatRaak
import Derived.Lib.SliceRun
import Derived.Test.YtjamfcihjendiaaGreatRaaj
namespace Go.Proofs.YtjamfcihjendiaaGreat
open Go.RowKit
set_option linter.unusedVariables false
set_option linter.unusedSimpArgs false
set_option maxRecDepth 100000

open Classical in
noncomputable def eqB {α : Type} (a b : α) : Bool := decide (a = b)
open Classical in
theorem eqB_yes {α : Type} {a b : α} (h : a = b) : eqB a b = true := by unfold eqB; exact decide_eq_true h
open Classical in
theorem eqB_no {α : Type} {a b : α} (h : a ≠ b) : eqB a b = false := by unfold eqB; exact decide_eq_false h
open Classical in
theorem eqB_is {α : Type} {a b : α} : eqB a b = true ↔ a = b := by unfold eqB; exact decide_eq_true_iff
theorem take_eq {α : Type} {L M : List α} {k : Nat} {x : α} (h : L.take k = M.take k) (hx : L[k]? = some x) (hy : M[k]? = some x) : L.take (k + 1) = M.take (k + 1) := by rw [take_snoc hx, take_snoc hy, h]
theorem take_ne {α : Type} {L M : List α} {k : Nat} {x y : α} (hx : L[k]? = some x) (hy : M[k]? = some y) (h : x ≠ y) : L ≠ M := by
  intro e; subst e; rw [hx] at hy; exact h (Option.some.inj hy)
theorem len_ne {α : Type} {L M : List α} (h : L.length ≠ M.length) : L ≠ M := fun e => h (by rw [e])
set_option maxHeartbeats 8000000 in
theorem rsame_any (L M : List Snd) (n m c d : Nat) (A C : Option Addr) (w : World) (hl : L.length = n) (hm : M.length = m) (hn : n ≤ 1000000000000) (hm1 : m ≤ 1000000000000) (hA : CellsIn w A (sndsC L)) (hC : CellsIn w C (sndsC M)) :
    Calls Tryz.prog 73 #[.slice A n c, .slice C m d] w fun e w' => e = .returned (.bool (eqB L M)) ∧ Below w.heap.size w w' := by
  by_cases hlen : n = m
  · subst hlen
    have HL := Lib.hid hl
    have HM := Lib.hid hm
    have HA := Lib.hid hA
    have HC0 := Lib.hid hC
    clear hl hm hA hC
    go_enter Tryz.func73, Tryz.ntmps73
    go_wp2
    go_loopw [5] (fun i wr => ∃ k : Nat, k ≤ n ∧ i = .int .i64 k ∧ L.take k = M.take k ∧ Below w.heap.size w wr) (fun i _ => n - (intOf i).toNat)
    case atStart => exact ⟨0, Nat.zero_le _, rfl, rfl, Below.refl _ _⟩
    case round =>
      obtain ⟨k, hk, rfl, htk, hbr⟩ := hrel
      have HT := Lib.hid htk
      have HB := Lib.hid hbr
      clear htk
      by_cases hlt : k < n
      · obtain ⟨x, hx⟩ := idx_lt HL.out hlt
        obtain ⟨y, hy⟩ := idx_lt HM.out hlt
        obtain ⟨b1, o1, rfl, hb1, x0, x1, x2⟩ := (HA.out.below hbr).snd hx
        obtain ⟨b2, o2, rfl, hb2, y0, y1, y2⟩ := (HC0.out.below hbr).snd hy
        have HX := Lib.hid hx
        have HY := Lib.hid hy
        clear hx hy hbr
        by_cases hxy : x = y
        · have HN := Lib.hid (take_eq HT.out HX.out (by rw [hxy]; exact HY.out))
          have HC := Lib.hid (cmpS_zero.2 hxy)
          clear hxy
          go_upto_region 6 with fail
          have hKp : Keep [(⟨b1, o1 + k * 3, none⟩, .int .i64 x.k), (⟨b1, o1 + k * 3 + 1, none⟩, .int .i64 x.q), (⟨b1, o1 + k * 3 + 2, none⟩, .string (bs x.t)), (⟨b2, o2 + k * 3, none⟩, .int .i64 y.k), (⟨b2, o2 + k * 3 + 1, none⟩, .int .i64 y.q), (⟨b2, o2 + k * 3 + 2, none⟩, .string (bs y.t))] wr := List.forall_mem_cons.2 ⟨⟨x0, hb1⟩, List.forall_mem_cons.2 ⟨⟨x1, hb1⟩, List.forall_mem_cons.2 ⟨⟨x2, hb1⟩, List.forall_mem_cons.2 ⟨⟨y0, hb2⟩, List.forall_mem_cons.2 ⟨⟨y1, hb2⟩, List.forall_mem_cons.2 ⟨⟨y2, hb2⟩, fun _ h => by simp at h⟩⟩⟩⟩⟩⟩
          clear x0 x1 x2 y0 y1 y2
          refine wp_region_held_drew (S := Keep _) (by kernel_rfl) hKp.drew (fun hHeld => ?_)
          refine tk 0 ?_ rfl ?_ ?_; rotate_left; focus (intro w hSw; clear hSw; go_simp; try (with_reducible rfl))
          try simp only [Act.put, sA, sZ, sS]
          refine tk 1 ?_ rfl ?_ ?_; rotate_left; focus (intro w hSw; clear hSw; go_simp; try (with_reducible rfl))
          try simp only [Act.put, sA, sZ, sS]
          refine tk 2 ?_ rfl ?_ ?_; rotate_left; focus (intro w hSw; clear hSw; go_simp; try (with_reducible rfl))
          try simp only [Act.put, sA, sZ, sS]
          refine tk 3 ?_ rfl ?_ ?_; rotate_left
          · intro wl hSw
            have hSw : Keep _ wl := hSw
            have k0 := (hSw _ (.head _)).1
            have k1 := (hSw _ (.tail _ (.head _))).1
            have k2 := (hSw _ (.tail _ (.tail _ (.head _)))).1
            dsimp only at k0 k1 k2
            clear hSw
            go_simp
            try (with_reducible rfl)
          try simp only [Act.put, sA, sZ, sS]
          refine tk 4 ?_ rfl ?_ ?_; rotate_left; focus (intro w hSw; clear hSw; go_simp; try (with_reducible rfl))
          try simp only [Act.put, sA, sZ, sS]
          refine tk 5 ?_ rfl ?_ ?_; rotate_left; focus (intro w hSw; clear hSw; go_simp; try (with_reducible rfl))
          try simp only [Act.put, sA, sZ, sS]
          refine tk 6 ?_ rfl ?_ ?_; rotate_left; focus (intro w hSw; clear hSw; go_simp; try (with_reducible rfl))
          try simp only [Act.put, sA, sZ, sS]
          refine tk 7 ?_ rfl ?_ ?_; rotate_left
          · intro wl hSw
            have hSw : Keep _ wl := hSw
            have k0 := (hSw _ (.tail _ (.tail _ (.tail _ (.head _))))).1
            have k1 := (hSw _ (.tail _ (.tail _ (.tail _ (.tail _ (.head _)))))).1
            have k2 := (hSw _ (.tail _ (.tail _ (.tail _ (.tail _ (.tail _ (.head _))))))).1
            dsimp only at k0 k1 k2
            clear hSw
            go_simp
            try (with_reducible rfl)
          try simp only [Act.put, sA, sZ, sS]
          refine wpAnyH_ready (rs := [8]) (by kernel_rfl) (by simp) ?_
          refine AllReadyH.cons (List.getElem?_toArray.trans rfl) (fun K hK => ?_) AllReadyH.nil
          go_simp
          refine (rcompare_any x y _).mono ?_
          rintro e w1 ⟨rfl, hb1⟩
          rw [HC.out]
          have B1 := Lib.hid (btwo (btwo HB.out (bdrew _)) hb1)
          try go_wp2_with fail
          refine hK.out _ _ (hHeld.go hb1) (fun hHeld => ?_)
          clear hK K
          try simp only [Act.put, sA, sZ, sS]
          refine tk 9 ?_ rfl ?_ ?_; rotate_left; focus (intro w hSw; clear hSw; go_simp; try (with_reducible rfl))
          try simp only [Act.put, sA, sZ, sS]
          refine wpAnyH_done (by kernel_rfl) ?_ _
          go_wp2_with fail
          go_roundw
          case rel => exact ⟨k + 1, by omega, by go_num, HN.out, B1.out⟩
          case measure => simp [intOf]; omega
        · have HN := Lib.hid (eqB_no (take_ne HX.out HY.out hxy))
          obtain ⟨v, hv⟩ : ∃ v, v = cmpS x y := ⟨_, rfl⟩
          have HC := Lib.hid hv.symm
          have hv0 : (v != 0) = true := bne_yes (fun e => hxy (cmpS_zero.1 (by rw [← hv]; exact e)))
          clear hxy hv
          go_upto_region 6 with fail
          have hKp : Keep [(⟨b1, o1 + k * 3, none⟩, .int .i64 x.k), (⟨b1, o1 + k * 3 + 1, none⟩, .int .i64 x.q), (⟨b1, o1 + k * 3 + 2, none⟩, .string (bs x.t)), (⟨b2, o2 + k * 3, none⟩, .int .i64 y.k), (⟨b2, o2 + k * 3 + 1, none⟩, .int .i64 y.q), (⟨b2, o2 + k * 3 + 2, none⟩, .string (bs y.t))] wr := List.forall_mem_cons.2 ⟨⟨x0, hb1⟩, List.forall_mem_cons.2 ⟨⟨x1, hb1⟩, List.forall_mem_cons.2 ⟨⟨x2, hb1⟩, List.forall_mem_cons.2 ⟨⟨y0, hb2⟩, List.forall_mem_cons.2 ⟨⟨y1, hb2⟩, List.forall_mem_cons.2 ⟨⟨y2, hb2⟩, fun _ h => by simp at h⟩⟩⟩⟩⟩⟩
          clear x0 x1 x2 y0 y1 y2
          refine wp_region_held_drew (S := Keep _) (by kernel_rfl) hKp.drew (fun hHeld => ?_)
          refine tk 0 ?_ rfl ?_ ?_; rotate_left; focus (intro w hSw; clear hSw; go_simp; try (with_reducible rfl))
          try simp only [Act.put, sA, sZ, sS]
          refine tk 1 ?_ rfl ?_ ?_; rotate_left; focus (intro w hSw; clear hSw; go_simp; try (with_reducible rfl))
          try simp only [Act.put, sA, sZ, sS]
          refine tk 2 ?_ rfl ?_ ?_; rotate_left; focus (intro w hSw; clear hSw; go_simp; try (with_reducible rfl))
          try simp only [Act.put, sA, sZ, sS]
          refine tk 3 ?_ rfl ?_ ?_; rotate_left
          · intro wl hSw
            have hSw : Keep _ wl := hSw
            have k0 := (hSw _ (.head _)).1
            have k1 := (hSw _ (.tail _ (.head _))).1
            have k2 := (hSw _ (.tail _ (.tail _ (.head _)))).1
            dsimp only at k0 k1 k2
            clear hSw
            go_simp
            try (with_reducible rfl)
          try simp only [Act.put, sA, sZ, sS]
          refine tk 4 ?_ rfl ?_ ?_; rotate_left; focus (intro w hSw; clear hSw; go_simp; try (with_reducible rfl))
          try simp only [Act.put, sA, sZ, sS]
          refine tk 5 ?_ rfl ?_ ?_; rotate_left; focus (intro w hSw; clear hSw; go_simp; try (with_reducible rfl))
          try simp only [Act.put, sA, sZ, sS]
          refine tk 6 ?_ rfl ?_ ?_; rotate_left; focus (intro w hSw; clear hSw; go_simp; try (with_reducible rfl))
          try simp only [Act.put, sA, sZ, sS]
          refine tk 7 ?_ rfl ?_ ?_; rotate_left
          · intro wl hSw
            have hSw : Keep _ wl := hSw
            have k0 := (hSw _ (.tail _ (.tail _ (.tail _ (.head _))))).1
            have k1 := (hSw _ (.tail _ (.tail _ (.tail _ (.tail _ (.head _)))))).1
            have k2 := (hSw _ (.tail _ (.tail _ (.tail _ (.tail _ (.tail _ (.head _))))))).1
            dsimp only at k0 k1 k2
            clear hSw
            go_simp
            try (with_reducible rfl)
          try simp only [Act.put, sA, sZ, sS]
          refine wpAnyH_ready (rs := [8]) (by kernel_rfl) (by simp) ?_
          refine AllReadyH.cons (List.getElem?_toArray.trans rfl) (fun K hK => ?_) AllReadyH.nil
          go_simp
          refine (rcompare_any x y _).mono ?_
          rintro e w1 ⟨rfl, hb1⟩
          rw [HC.out]
          have B1 := Lib.hid (btwo (btwo HB.out (bdrew _)) hb1)
          try go_wp2_with fail
          refine hK.out _ _ (hHeld.go hb1) (fun hHeld => ?_)
          clear hK K
          try simp only [Act.put, sA, sZ, sS]
          refine tk 9 ?_ rfl ?_ ?_; rotate_left; focus (intro w hSw; clear hSw; go_simp; try (with_reducible rfl))
          try simp only [Act.put, sA, sZ, sS]
          refine wpAnyH_done (by kernel_rfl) ?_ _
          go_wp2_with fail
          go_ret
          exact ⟨ret_bool HN.out.symm, B1.out⟩
      · have HE := Lib.hid (show eqB L M = true from eqB_yes (by
          have := HT.out
          rwa [take_all (by have := HL.out; omega), take_all (by have := HM.out; omega)] at this))
        clear hbr
        go_wp2
        go_ret
        exact ⟨ret_bool HE.out.symm, HB.out⟩
  · have HE := Lib.hid (show eqB L M = false from eqB_no (len_ne (by omega)))
    have hne' : ((n : Int) != (m : Int)) = true := by simp; omega
    have hne : ((n : Int) == (m : Int)) = false := by simp; omega
    clear hlen hl hm hA hC
    go_enter Tryz.func73, Tryz.ntmps73
    go_wp2
    go_ret
    exact ⟨ret_bool HE.out.symm, Below.refl _ _⟩
theorem own_slice {w : World} {base n : Nat} {e : TypeId} {sz : Nat} {v : Value} {xs : List Value} (h : w.ownsRow base e sz v n xs) : ∃ A c, v = .slice A n c ∧ n ≤ c := by
  rcases h.2 with ⟨rfl, rfl⟩ | ⟨g, cap, cur, rfl, _, _, hnc, _⟩
  · exact ⟨none, 0, rfl, Nat.le_refl _⟩
  · exact ⟨_, _, rfl, hnc⟩
end Go.Proofs.YtjamfcihjendiaaGreat

namespace Go.Proofs.YtjamfcihjendiaaGreat
open Go.RowKit
set_option linter.unusedVariables false
set_option linter.unusedSimpArgs false
set_option maxRecDepth 100000

theorem str_info : (Tryz.prog.info? 9).map (fun i => (i.zero, i.size, i.bytes)) = some (some (.string ⟨#[]⟩), 1, 16) := by kernel_rfl
theorem Hp.str_set {W w : World} {l : List Itm} {i g n c : Nat} {P : List (List UInt8)} (h : Hp W l w) (hi : l[i]? = some (strs (some ⟨g, 0, none⟩) n c P)) (k : Nat) (p : List UInt8) :
    Hp W (l.set i (strs (some ⟨g, 0, none⟩) n c (P.set k p))) (w.setCell ⟨g, k, none⟩ (.string (bs p))) := by
  have := h.store hi (g := g) (cap := c) rfl k (.string (bs p))
  simpa [strs, strC, List.map_set] using this
theorem Hp.str_at {W w : World} {l : List Itm} {i g n c : Nat} {P : List (List UInt8)} (h : Hp W l w) (hi : l[i]? = some (strs (some ⟨g, 0, none⟩) n c P)) {k : Nat} {p : List UInt8} (hp : P[k]? = some p) :
    w.cell? ⟨g, k, none⟩ = some (.string (bs p)) ∧ w.frozen? ⟨g, k, none⟩ = false ∧ g < w.heap.size := h.cell hi (cap := c) rfl (by show (strC P)[k]? = _; unfold strC; rw [List.getElem?_map, hp]; rfl)
end Go.Proofs.YtjamfcihjendiaaGreat

namespace Go.Proofs.YtjamfcihjendiaaGreat
open Go.RowKit
set_option linter.unusedVariables false
set_option linter.unusedSimpArgs false
set_option maxRecDepth 100000

theorem letters_any (w : World) : Calls Tryz.prog 96 #[] w fun e w' => e = .returned (.string (⟨#[32, 118, 100, 109, 108, 110, 115, 120, 103, 98]⟩ : ByteArray)) ∧ w = w' := by
  go_enter Tryz.func96, Tryz.ntmps96
  go_wp2
  go_ret
  exact ⟨rfl, rfl⟩
end Go.Proofs.YtjamfcihjendiaaGreat

namespace Go.Proofs.YtjamfcihjendiaaGreat
open Go.RowKit
set_option linter.unusedVariables false
set_option linter.unusedSimpArgs false
set_option maxRecDepth 100000

theorem spl_yes {α : Type} {p : α → Bool} (L : List α) {x : α} (h : p x = true) : splL p (L ++ [x]) = splL p L ++ [[]] := by
  unfold splL
  rw [splS_snoc]
  unfold stepG
  rw [if_pos h]
theorem spl_no {α : Type} {p : α → Bool} (L : List α) {x : α} {q : Nat} (h : p x = false) (hq : (splL p L).length = q + 1) : ∃ u, (splL p L)[q]? = some u ∧ u.length ≤ L.length ∧ splL p (L ++ [x]) = (splL p L).set q (u ++ [x]) := by
  have hl : (splS p L).1.length = q := by unfold splL at hq; simpa using hq
  have hm : (splS p L).2 ∈ splL p L := by unfold splL; simp
  refine ⟨(splS p L).2, ?_, spl_size p hm, ?_⟩
  · unfold splL; rw [List.getElem?_append_right (by omega), hl, Nat.sub_self]; rfl
  · unfold splL
    rw [splS_snoc]
    unfold stepG
    rw [if_neg (by simp [h]), List.set_append_right _ _ (by omega), hl, Nat.sub_self]
    rfl
theorem run_app_str {W w : World} {l : List Itm} {i : Nat} {A : Option Addr} {n c : Nat} {P : List (List UInt8)} (h : Hp W l w) (hi : l[i]? = some (strs A n c P)) (ty : TypeId) {b : Nat} (p : List UInt8)
    (hb : w.cell? ⟨b, 0, none⟩ = some (.string (bs p))) (hn : n ≤ 4000000000000) :
    ∃ g cap w', (Builtin.append_ #[88, 88] ty #[.slice A n c, .slice (some ⟨b, 0, none⟩) 1 1]).run Tryz.prog w = .ok (.slice (some ⟨g, 0, none⟩) (n + 1) cap) w' ∧
      Hp W (l.set i (strs (some ⟨g, 0, none⟩) (n + 1) cap (P ++ [p]))) w' ∧ w.grownBy w' (Value.slice A n c).ownBlock := by
  have := run_app h hi (t := 88) (ty := ty) Tryz.underlying88 str_info rfl (show 0 < 1 by decide) (show 16 ≤ 32 by decide) (A := A) (c := c) rfl (b := b) [.string (bs p)] rfl (fun j u hu => by
    cases j with
    | zero => injection hu with hu; subst hu; exact hb
    | succ j => simp at hu) (fun u hu => by rw [List.mem_singleton.1 hu]; rfl) hn
  simpa [strs, strC] using this
def SplPost (P : List (List UInt8)) (w : World) (e : Ending) (w' : World) : Prop := ∃ A n c, e = .returned (.slice A n c) ∧ P.length = n ∧ Hp w [strs A n c P] w'
set_option maxHeartbeats 8000000 in
theorem rsplit_any (s : ByteArray) (w : World) (hs : s.size ≤ 4000) :
    Calls Tryz.prog 81 #[.string s] w (SplPost (splL isSp s.data.toList) w) := by
  have V0 := Lib.hid (show Hp w [strs (some ⟨w.heap.size, 0, none⟩) 1 1 (splL isSp (s.data.toList.take 0))] (w.alloc (.cells #[.string ⟨#[]⟩] 9)) from (Hp.start w).lit 9 1 1 [.string ⟨#[]⟩] rfl (by decide))
  go_enter Tryz.func81, Tryz.ntmps81
  go_wp2
  go_loopw [3, 4] (fun v i wr => ∃ (k q d g0 : Nat), k ≤ s.size ∧ q ≤ k ∧ i = .int .i64 k ∧ v = .slice (some ⟨g0, 0, none⟩) (q + 1) d ∧ (splL isSp (s.data.toList.take k)).length = q + 1 ∧ Hp w [strs (some ⟨g0, 0, none⟩) (q + 1) d (splL isSp (s.data.toList.take k))] wr) (fun _ i _ => s.size - (intOf i).toNat)
  case atStart => exact ⟨0, 0, 1, w.heap.size, Nat.zero_le _, Nat.le_refl _, rfl, rfl, rfl, V0.out⟩
  case round =>
    clear V0
    obtain ⟨k, q, d, g0, hk, hqk, rfl, rfl, hrl, hV⟩ := hrel
    have V := Lib.hid hV
    have HRL := Lib.hid hrl
    clear hrl hV
    by_cases hlt : k < s.size
    · by_cases h32 : (s[k].toNat : Int) = 32
      · have HS := Lib.hid (show splL isSp (s.data.toList.take (k + 1)) = splL isSp (s.data.toList.take k) ++ [[]] by
          rw [takeS hlt, spl_yes _ (by unfold isSp; rw [byte_is (n := 32) h32 (by decide)]; rfl)])
        have e1 : ((s[k].toNat : Int) == 32) = true := by rw [h32]; rfl
        clear h32
        obtain ⟨wy, hwy⟩ : ∃ z, z = wr.alloc (.cells #[.string ⟨#[]⟩] 9) := ⟨_, rfl⟩
        have V3 := Lib.hid (show Hp w [box 9 wr.heap.size [.string ⟨#[]⟩], strs (some ⟨g0, 0, none⟩) (q + 1) d (splL isSp (s.data.toList.take k))] wy by rw [hwy]; exact V.out.box_new 9 [.string ⟨#[]⟩])
        have y0 := (V3.out.box_at (i := 0) (j := 0) rfl rfl).1
        obtain ⟨g5, cap5, w5, hr5, hv5, _⟩ := run_app_str V3.out (i := 1) rfl 88 [] y0 (by omega)
        have V4 := Lib.hid (show Hp w [strs (some ⟨g5, 0, none⟩) (q + 1 + 1) cap5 (splL isSp (s.data.toList.take k) ++ [[]])] w5 from hv5.tail)
        rw [← HS.out] at V4
        have HM3 := Lib.hid (show (splL isSp (s.data.toList.take (k + 1))).length = q + 1 + 1 by rw [HS.out, List.length_append, HRL.out]; rfl)
        have HY := Lib.hid hwy
        have HR5 := Lib.hid hr5
        clear hwy y0 hv5 hr5
        go_wp2_with (at_builtin; rw [← HY.out]; refine wpList_app_run rfl (.tmp 16) (.tmp 17) 88 rfl HR5.out rfl rfl ?_)
        go_roundw
        case rel => exact ⟨k + 1, q + 1, cap5, g5, by omega, by omega, by go_num, rfl, HM3.out, V4.out⟩
        case measure => simp [intOf]; omega
      · obtain ⟨u, hu, hul, hset⟩ := spl_no (p := isSp) (s.data.toList.take k) (x := s[k]) (by unfold isSp; rw [beq_eq_false_iff_ne]; exact byte_ne (n := 32) h32 (by decide)) HRL.out
        rw [← takeS hlt] at hset
        have e1 : ((s[k].toNat : Int) == 32) = false := beq_no h32
        have hul2 : (bs u).size ≤ 4000 := by rw [List.length_take] at hul; rw [bs_size]; omega
        obtain ⟨ex, hex⟩ : ∃ ex, ex = s.extract k (k + 1) := ⟨_, rfl⟩
        have hexs : ex.size = 1 := by rw [hex, ByteArray.size_extract]; omega
        have hexl : ex.data.toList = [s[k]] := by rw [hex, ext_mid, dropS hlt, show k + 1 - k = 1 by omega]; rfl
        have s1 := add_run (bs u) ex (by omega)
        have hcat : bs u ++ ex = bs (u ++ [s[k]]) := bs_of (by rw [cat_any, bs_list, hexl])
        have HST := Lib.hid hset
        have HG := Lib.hid hu
        have HCT := Lib.hid hcat
        have HEX := Lib.hid hex
        obtain ⟨x1, x2, x3⟩ := V.out.str_at (i := 0) rfl hu
        have V5 := Lib.hid (show Hp w [strs (some ⟨g0, 0, none⟩) (q + 1) d (splL isSp (s.data.toList.take (k + 1)))] (wr.drew.setCell ⟨g0, q, none⟩ (.string (bs u ++ ex))) by
          have := (V.out.go (bdrew _)).str_set (i := 0) rfl q (u ++ [s[k]])
          rw [← hcat] at this
          rw [hset]
          exact this)
        have HM3 := Lib.hid (show (splL isSp (s.data.toList.take (k + 1))).length = q + 1 by rw [hset, List.length_set, HRL.out])
        have hqlt : (q : Int) < (q : Int) + 1 := by omega
        have hq0 : (0 : Int) ≤ (q : Int) := by omega
        have hqw : IntKind.i64.wrap (q : Int) = (q : Int) := IntWalk.i64_in _ (by omega)
        have hkw : IntKind.i64.wrap ((k : Int) + 1) = (k : Int) + 1 := IntWalk.i64_in _ (by omega)
        have hkt : ((k : Int) + 1).toNat = k + 1 := by omega
        have a1 : (k : Int) ≤ (k : Int) + 1 := by omega
        have a2 : (k : Int) + 1 ≤ (s.size : Int) := by omega
        have a3 : (0 : Int) ≤ (k : Int) + 1 := by omega
        have a4 : (k : Int) ≤ (s.size : Int) := by omega
        clear hu hul hset hex hexl hcat h32
        go_upto_region 7 with fail
        refine wp_region_held_drew (S := Keep []) (by kernel_rfl) (fun _ h => by simp at h) (fun hHeld => ?_)
        refine tk 0 ?_ rfl ?_ ?_; rotate_left; focus (intro w hSw; clear hSw; go_simp; try (with_reducible rfl))
        try simp only [Act.put, sA, sZ, sS]
        refine tk 1 ?_ rfl ?_ ?_; rotate_left; focus (intro w hSw; clear hSw; go_simp; try (with_reducible rfl))
        try simp only [Act.put, sA, sZ, sS]
        refine tk 2 ?_ rfl ?_ ?_; rotate_left; focus (intro w hSw; clear hSw; go_simp; try (with_reducible rfl))
        try simp only [Act.put, sA, sZ, sS]
        refine tk 3 ?_ rfl ?_ ?_; rotate_left; focus (intro w hSw; clear hSw; go_simp; try (with_reducible rfl))
        try simp only [Act.put, sA, sZ, sS]
        refine tk 4 ?_ rfl ?_ ?_; rotate_left; focus (intro w hSw; clear hSw; go_simp; try (with_reducible rfl))
        try simp only [Act.put, sA, sZ, sS]
        refine tk 5 ?_ rfl ?_ ?_; rotate_left; focus (intro w hSw; clear hSw; go_simp; try (with_reducible rfl))
        try simp only [Act.put, sA, sZ, sS]
        refine tk 6 ?_ rfl ?_ ?_; rotate_left; focus (intro w hSw; clear hSw; go_simp; try (with_reducible rfl))
        try simp only [Act.put, sA, sZ, sS]
        refine tk 7 ?_ rfl ?_ ?_; rotate_left; focus (intro w hSw; clear hSw; go_simp; try (with_reducible rfl))
        try simp only [Act.put, sA, sZ, sS]
        refine tk 8 ?_ rfl ?_ ?_; rotate_left; focus (intro w hSw; clear hSw; go_simp; try (with_reducible rfl))
        try simp only [Act.put, sA, sZ, sS]
        refine tk 10 ?_ rfl ?_ ?_; rotate_left; focus (intro w hSw; clear hSw; go_simp; try (with_reducible rfl))
        try simp only [Act.put, sA, sZ, sS]
        refine tk 11 ?_ rfl ?_ ?_; rotate_left; focus (intro w hSw; clear hSw; go_simp; try (with_reducible rfl))
        try simp only [Act.put, sA, sZ, sS]
        refine tk 12 ?_ rfl ?_ ?_; rotate_left; focus (intro w hSw; clear hSw; go_simp; try (with_reducible rfl))
        try simp only [Act.put, sA, sZ, sS]
        refine tk 13 ?_ rfl ?_ ?_; rotate_left; focus (intro w hSw; clear hSw; go_simp; try (with_reducible rfl))
        try simp only [Act.put, sA, sZ, sS]
        refine tk 14 ?_ rfl ?_ ?_; rotate_left
        · intro w hSw; clear hSw; go_simp; try (rw [← HEX.out])
        try simp only [Act.put, sA, sZ, sS]
        refine wpAnyH_ready (rs := [9]) (by kernel_rfl) (by simp) ?_
        refine AllReadyH.cons (List.getElem?_toArray.trans rfl) (fun K hK => ?_) AllReadyH.nil
        have x1' := ((bdrew wr).cell (p := ⟨g0, q, none⟩) x3).trans x1
        go_simp
        refine hK.out _ _ hHeld (fun hHeld => ?_)
        clear hK K
        try simp only [Act.put, sA, sZ, sS]
        refine tk 15 ?_ rfl ?_ ?_; rotate_left; focus (intro w hSw; clear hSw; go_simp; try (with_reducible rfl))
        try simp only [Act.put, sA, sZ, sS]
        refine tk 16 ?_ rfl ?_ ?_; rotate_left; focus (intro w hSw; clear hSw; go_simp; try (with_reducible rfl))
        try simp only [Act.put, sA, sZ, sS]
        refine wpAnyH_ready (rs := [17]) (by kernel_rfl) (by simp) ?_
        refine AllReadyH.cons (List.getElem?_toArray.trans rfl) (fun K hK => ?_) AllReadyH.nil
        have x2' : wr.drew.frozen? ⟨g0, q, none⟩ = false := x2
        have x3' : g0 < wr.drew.heap.size := x3
        go_simp
        refine hK.out _ _ (fun _ h => by simp at h) (fun hHeld => ?_)
        clear hK K
        try simp only [Act.put, sA, sZ, sS]
        refine wpAnyH_done (by kernel_rfl) ?_ _
        go_wp2_with fail
        go_roundw
        case rel => exact ⟨k + 1, q, d, g0, by omega, by omega, by go_num, rfl, HM3.out, V5.out⟩
        case measure => simp [intOf]; omega
    · have HE := Lib.hid (show s.data.toList.take k = s.data.toList from takeAll (by omega))
      go_wp2
      go_ret
      rw [HE.out] at HRL V
      exact ⟨_, q + 1, d, rfl, HRL.out, V.out⟩
end Go.Proofs.YtjamfcihjendiaaGreat
