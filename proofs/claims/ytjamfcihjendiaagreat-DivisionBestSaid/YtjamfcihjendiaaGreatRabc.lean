/- Several texts in one: Zd. -/
import Derived.Test.YtjamfcihjendiaaGreatRaba
import Derived.Test.YtjamfcihjendiaaGreatRabb
import Derived.Test.YtjamfcihjendiaaGreatRaav
import Derived.Test.YtjamfcihjendiaaGreatRaab
namespace Go.Proofs.YtjamfcihjendiaaGreat
open Go.RowKit
set_option linter.unusedVariables false
set_option linter.unusedSimpArgs false
set_option maxRecDepth 100000

def sxC (nm : List UInt8) (A : Option Addr) (n c : Nat) (u : List UInt8) (t : List Int) : List Value := .string (bs nm) :: .slice A n c :: .string (bs u) :: ints t
def sxb (g : Nat) (nm : List UInt8) (A : Option Addr) (n c : Nat) (u : List UInt8) (t : List Int) : Itm := box 72 g (sxC nm A n c u t)
section
variable {W w : World} {l : List Itm} {i g n c : Nat} {nm u : List UInt8} {A : Option Addr} {t : List Int} {F : Nat → Nat → Nat → Nat}
theorem sxb_at (h : Hp W l w) (hi : l[i]? = some (sxb g nm A n c u t)) : w.cell? ⟨g, 0, none⟩ = some (.string (bs nm)) ∧ w.cell? ⟨g, 1, none⟩ = some (.slice A n c) ∧ w.cell? ⟨g, 2, none⟩ = some (.string (bs u)) ∧ g < w.heap.size :=
  ⟨(h.box_at (j := 0) hi rfl).1, (h.box_at (j := 1) hi rfl).1, (h.box_at (j := 2) hi rfl).1, (h.box_at (j := 0) hi rfl).2.2⟩
theorem sxb_num (h : Hp W l w) (hi : l[i]? = some (sxb g nm A n c u t)) (ht : TabIs t F) {a b k p : Nat} (ha : a ≤ 16) (hb : b < 3) (hk : k < 3) (hp : p = 3 + a * 9 + b * 3 + k) : w.cell? ⟨g, p, none⟩ = some (.int .i64 (F a b k : Nat)) ∧ w.frozen? ⟨g, p, none⟩ = false ∧ g < w.heap.size := by
  have := h.box_at (j := 3 + (a * 9 + b * 3 + k)) (u := .int .i64 (F a b k : Nat)) hi (by
    show (sxC nm A n c u t)[3 + (a * 9 + b * 3 + k)]? = _
    unfold sxC
    rw [show 3 + (a * 9 + b * 3 + k) = (a * 9 + b * 3 + k) + 1 + 1 + 1 by omega, List.getElem?_cons_succ, List.getElem?_cons_succ, List.getElem?_cons_succ]
    unfold ints
    rw [List.getElem?_map, ht.2 a b k ha hb hk]; rfl)
  rw [show 3 + (a * 9 + b * 3 + k) = p by omega] at this
  exact this
theorem sxb_put (h : Hp W l w) (hi : l[i]? = some (sxb g nm A n c u t)) {q p : Nat} (hp : p = 3 + q) (x : Int) : Hp W (l.set i (sxb g nm A n c u (t.set q x))) (w.setCell ⟨g, p, none⟩ (.int .i64 x)) := by
  have := h.box_set hi p (.int .i64 x)
  have e : (sxC nm A n c u t).set p (.int .i64 x) = sxC nm A n c u (t.set q x) := by
    subst hp
    unfold sxC ints
    rw [show 3 + q = q + 1 + 1 + 1 by omega, List.set_cons_succ, List.set_cons_succ, List.set_cons_succ, List.map_set]
  rw [e] at this
  exact this
theorem sxb_is (h : Hp W l w) (hi : l[i]? = some (sxb g nm A n c u t)) (ht : TabIs t F) : SrAt w g nm A n c u F :=
  ⟨(sxb_at h hi).2.2.2, (sxb_at h hi).1, (sxb_at h hi).2.1, (sxb_at h hi).2.2.1, fun a b k x y z => (sxb_num h hi ht x y z rfl).1⟩
end
theorem has_at {s : ByteArray} {u t : List UInt8} {a : Nat} (hs : s = bs u) : Lib.hasPrefix (s.extract a s.size).data.toList (bs t).data.toList = t.isPrefixOf (u.drop a) := by
  have e : (s.extract a s.size).data.toList = u.drop a := by
    rw [ext_mid, hs, bs_list, bs_size]
    rw [List.take_of_length_le (by rw [List.length_drop]; omega)]
  rw [e, bs_list]
  rfl
set_option maxHeartbeats 8000000 in
theorem fill_any {W : World} {l : List Itm} (nm : List UInt8) (L : List Sg) (A : Option Addr) (n c : Nat) (u : List UInt8) (t0 : List Int) (g : Nat) (w : World) (hv : (vO nm L).2 = 0) (hl : L.length = n) (hA : SgnIn W A L) (hu0 : 0 < u.length) (hu : u.length ≤ 16) (ht : TabIs t0 (fun _ _ _ => 0)) (h : Hp W (sxb g nm A n c u t0 :: l) w) :
    Calls Tryz.prog 35 #[.pointer (some ⟨g, 0, none⟩)] w fun e w' => e = .returned (.tuple #[]) ∧ ∃ t, TabIs t (FB L u 0) ∧ Hp W (sxb g nm A n c u t :: l) w' := by
  have HV := Lib.hid hv
  have HL := Lib.hid hl
  have HA := Lib.hid hA
  have HNE := Lib.hid (TxNe.ok hv)
  have hn120 : n ≤ 120 := by have := (vO_zero hv).2.2.1; omega
  obtain ⟨ul, hul⟩ : ∃ ul, ul = u.length := ⟨_, rfl⟩
  have HUL := Lib.hid hul
  have hsz : (bs u).size = ul := by rw [bs_size, hul]
  rw [← hul] at hu hu0
  have V0 := Lib.hid h
  have HT0 := Lib.hid (ht.congr (fun a b k _ _ _ => FZ_zero u a b k))
  have HSS := Lib.hid (show ∀ i, i < n → 0 < (sgAt L i).s.length from fun i hi => by have := sgn_bd hv (i := i) (by omega); omega)
  clear hv hl hA h ht hul
  go_enter Tryz.func35, Tryz.ntmps35
  go_wp2_with fail
  go_loopw [8] (fun iv wr => ∃ (b : Nat) (t : List Int), b ≤ 3 ∧ iv = .int .i64 (b : Int) ∧ TabIs t (FZ u b) ∧ Hp W (sxb g nm A n c u t :: l) wr) (fun iv _ => 3 - (intOf iv).toNat)
  case atStart => exact ⟨0, t0, by omega, rfl, HT0.out, V0.out⟩
  case round =>
    obtain ⟨b, t, hb, rfl, ht, hV⟩ := hrel
    obtain ⟨wi, rfl⟩ : ∃ wi : World, wi = wr := ⟨_, rfl⟩
    have V1 := Lib.hid hV
    have HT := Lib.hid ht
    clear hV ht V0 HT0
    by_cases hlt : b < 3
    · have hb3 : (b : Int) < 3 := by omega
      have hu17 : (ul : Int) < 17 := by omega
      have HN := Lib.hid (show TabIs (t.set (ul * 9 + b * 3 + 0) ((1 : Nat) : Int)) (FZ u (b + 1)) from (HT.out.put (a := ul) (b := b) (k := 0) hu hlt (by decide) 1).congr (fun a b' k _ _ _ => by rw [HUL.out]; exact FZ_put u b a b' k))
      go_upto_region 3 with fail
      have hKp : Keep [(⟨g, 2, none⟩, .string (bs u))] wi := List.forall_mem_cons.2 ⟨⟨(sxb_at V1.out (i := 0) rfl).2.2.1, (sxb_at V1.out (i := 0) rfl).2.2.2⟩, fun _ h => by simp at h⟩
      refine wp_region_held_drew (S := Keep _) (by kernel_rfl) hKp.drew (fun hHeld => ?_)
      obtain ⟨wf, hwf⟩ : ∃ z, z = wi.drew := ⟨_, rfl⟩
      have Vwf := Lib.hid (show Hp W (sxb g nm A n c u t :: l) wf by rw [hwf]; exact V1.out.go (bdrew _))
      have Bwf := Lib.hid (show Below wi.heap.size wi wf by rw [hwf]; exact bdrew _)
      rw [← hwf] at hHeld ⊢
      clear hwf hKp
      refine tk 0 ?_ rfl ?_ ?_; rotate_left; focus (intro w hSw; clear hSw; go_simp; try (with_reducible rfl))
      try simp only [Act.put, sA, sZ, sS]
      refine tk 1 ?_ rfl ?_ ?_; rotate_left; focus (intro w hSw; clear hSw; go_simp; try (with_reducible rfl))
      try simp only [Act.put, sA, sZ, sS]
      refine tk 2 ?_ rfl ?_ ?_; rotate_left; focus (intro w hSw; clear hSw; go_simp; try (with_reducible rfl))
      try simp only [Act.put, sA, sZ, sS]
      refine tk 3 ?_ rfl ?_ ?_; rotate_left; focus (intro w hSw; clear hSw; go_simp; try (with_reducible rfl))
      try simp only [Act.put, sA, sZ, sS]
      refine tk 4 ?_ rfl ?_ ?_; rotate_left
      · intro wl hSw
        have hSw : Keep _ wl := hSw
        have k0 := (hSw _ (.head _)).1
        dsimp only at k0
        clear hSw
        go_simp
        try (with_reducible rfl)
      try simp only [Act.put, sA, sZ, sS]
      refine tk 5 ?_ rfl ?_ ?_; rotate_left; focus (intro w hSw; clear hSw; go_simp; try (with_reducible rfl))
      try simp only [Act.put, sA, sZ, sS]
      refine tk 6 ?_ rfl ?_ ?_; rotate_left; focus (intro w hSw; clear hSw; go_simp; try (with_reducible rfl))
      try simp only [Act.put, sA, sZ, sS]
      refine tk 7 ?_ rfl ?_ ?_; rotate_left; focus (intro w hSw; clear hSw; go_simp; try (with_reducible rfl))
      try simp only [Act.put, sA, sZ, sS]
      refine tk 8 ?_ rfl ?_ ?_; rotate_left; focus (intro w hSw; clear hSw; go_simp; try (with_reducible rfl))
      try simp only [Act.put, sA, sZ, sS]
      refine tk 9 ?_ rfl ?_ ?_; rotate_left; focus (intro w hSw; clear hSw; go_simp; try (with_reducible rfl))
      try simp only [Act.put, sA, sZ, sS]
      refine tk 10 ?_ rfl ?_ ?_; rotate_left; focus (intro w hSw; clear hSw; go_simp; try (with_reducible rfl))
      try simp only [Act.put, sA, sZ, sS]
      refine tk 11 ?_ rfl ?_ ?_; rotate_left; focus (intro w hSw; clear hSw; go_simp; try (with_reducible rfl))
      try simp only [Act.put, sA, sZ, sS]
      refine wpAnyH_ready (rs := [12]) (by kernel_rfl) (by simp) ?_
      refine AllReadyH.cons (List.getElem?_toArray.trans rfl) (fun K hK => ?_) AllReadyH.nil
      obtain ⟨yk, fk, gk⟩ := sxb_num Vwf.out (i := 0) rfl HT.out hu hlt (by decide : 0 < 3) (show 3 + ul * 9 + b * 3 = 3 + ul * 9 + b * 3 + 0 from rfl)
      have V_12 := Lib.hid (show Hp W (sxb g nm A n c u (t.set (ul * 9 + b * 3 + 0) ((1 : Nat) : Int)) :: l) _ from sxb_put Vwf.out (i := 0) rfl (show 3 + ul * 9 + b * 3 = 3 + (ul * 9 + b * 3 + 0) by omega) ((1 : Nat) : Int))
      go_simp
      clear yk fk gk
      refine hK.out _ _ (List.forall_mem_cons.2 ⟨⟨(sxb_at V_12.out (i := 0) rfl).2.2.1, (sxb_at V_12.out (i := 0) rfl).2.2.2⟩, fun _ h => by simp at h⟩) (fun hHeld => ?_)
      clear hK K
      try simp only [Act.put, sA, sZ, sS]
      refine wpAnyH_done (by kernel_rfl) ?_ _
      clear hHeld
      go_wp2_with fail
      go_roundw
      case rel => exact ⟨b + 1, _, by omega, by go_num, HN.out, V_12.out⟩
      case measure => simp [intOf]; omega
    have HT2 := Lib.hid (show TabIs t (FB L u ul) from HT.out.congr (fun a b' k _ hb _ => by rw [show b = 3 by omega, HUL.out]; exact FZ_all L u a b' k hb))
    clear HT
    have hw0 : IntKind.i64.wrap ((ul : Int) - 1) = (ul : Int) - 1 := IntWalk.i64_in _ (by omega)
    obtain ⟨q0, q1, q2, q3⟩ := sxb_at V1.out (i := 0) rfl
    go_wp2_with fail
    clear q0 q1 q2 q3
    go_loopw [3] (fun iv wr => ∃ (p : Nat) (t : List Int), p ≤ ul ∧ iv = .int .i64 ((p : Int) - 1) ∧ TabIs t (FB L u p) ∧ Hp W (sxb g nm A n c u t :: l) wr) (fun iv _ => (intOf iv + 1).toNat)
    case atStart => exact ⟨ul, t, Nat.le_refl _, rfl, HT2.out, V1.out⟩
    case round =>
      clear V1 HT2 hw0
      obtain ⟨p1, t, hp, rfl, ht, hV⟩ := hrel
      obtain ⟨wi, rfl⟩ : ∃ wi : World, wi = wr := ⟨_, rfl⟩
      have V1 := Lib.hid hV
      have HT := Lib.hid ht
      clear hV ht
      by_cases hp0 : p1 = 0
      · subst hp0
        go_wp2_with fail
        exact bodyPost_end (results_none rfl _ _ _) rfl ⟨rfl, t, HT.out, V1.out⟩
      obtain ⟨p, rfl⟩ : ∃ p, p1 = p + 1 := ⟨p1 - 1, by omega⟩
      have hpp : ((p + 1 : Nat) : Int) - 1 = (p : Int) := by omega
      rw [hpp]
      have HT2 := Lib.hid (show TabIs t (FA L u p (fun _ => stK L (u.drop p) 0)) from HT.out.congr (fun a b k _ _ _ => FA_start L u p a b k))
      have hpu : p < ul := by omega
      clear HT hp0 hpp
      obtain ⟨q0, q1, q2, q3⟩ := sxb_at V1.out (i := 0) rfl
      go_wp2_with fail
      clear q0 q1 q2 q3
      go_loopw [40] (fun iv wr => ∃ (k : Nat) (t : List Int), k ≤ n ∧ iv = .int .i64 (k : Int) ∧ TabIs t (FA L u p (fun _ => stK L (u.drop p) k)) ∧ Hp W (sxb g nm A n c u t :: l) wr) (fun iv _ => n - (intOf iv).toNat)
      case atStart => exact ⟨0, t, Nat.zero_le _, rfl, HT2.out, V1.out⟩
      case round =>
        clear V1 HT2
        obtain ⟨k, t, hk, rfl, ht, hV⟩ := hrel
        obtain ⟨wj, rfl⟩ : ∃ wi : World, wi = wr := ⟨_, rfl⟩
        have V1 := Lib.hid hV
        have HT := Lib.hid ht
        clear hV ht
        by_cases hkn : k < n
        case neg =>
          have HT2 := Lib.hid (show TabIs t (FB L u p) from HT.out.congr (fun a b q _ _ _ => by rw [show k = L.length by have := HL.out; omega]; exact FA_end (by rw [← HUL.out]; exact hpu) a b q))
          go_wp2_with fail
          exact ⟨⟨p, t, by omega, rfl, HT2.out, V1.out⟩, by simp [intOf]⟩
        case pos =>
          obtain ⟨x, hx⟩ := get_at (L := L) (k := k) (by have := HL.out; omega)
          obtain ⟨b0, off, Aj, cj, hAe, hb0', c0', c1', c2', c3', c4'⟩ := HA.out.at hx
          have HAE := Lib.hid hAe
          have HX := Lib.hid (sgAt_is hx)
          have HCX := Lib.hid (fun (w' : World) (hb : Below W.heap.size W w') => c4'.below hb)
          have hb0 := Nat.lt_of_lt_of_le hb0' V1.out.below.size
          have c0 := (V1.out.below.cell (p := ⟨b0, off + k * 4, none⟩) hb0').trans c0'
          have c1 := (V1.out.below.cell (p := ⟨b0, off + k * 4 + 1, none⟩) hb0').trans c1'
          have c2 := (V1.out.below.cell (p := ⟨b0, off + k * 4 + 2, none⟩) hb0').trans c2'
          have c3 := (V1.out.below.cell (p := ⟨b0, off + k * 4 + 3, none⟩) hb0').trans c3'
          have hxs : 0 < x.s.length ∧ x.s.length ≤ 2 := by have := sgn_bd HV.out (i := k) (by have := HL.out; omega); rw [sgAt_is hx] at this; omega
          have hxt : 0 < x.t.length := by have := sgn_bd HV.out (i := k) (by have := HL.out; omega); rw [sgAt_is hx] at this; omega
          have hk4 : k * 4 ≤ 480 := by omega
          subst hAe
          obtain ⟨g5, hg5⟩ : ∃ z, z = wj.heap.size := ⟨_, rfl⟩
          obtain ⟨W2, hW2⟩ : ∃ z, z = wj.alloc (.cells #[.string (bs x.t), .slice Aj x.s.length cj, .int .i64 x.c, .int .i64 x.w] 64) := ⟨_, rfl⟩
          have V2 := Lib.hid (show Hp W (sgbox g5 (Aj, cj) x :: sxb g nm (some ⟨b0, off, none⟩) n c u t :: l) W2 by rw [hW2, hg5]; exact V1.out.sgbox_new Aj cj x)
          have HW2 := Lib.hid hW2
          have HG5 := Lib.hid hg5
          clear hW2 hg5 hb0' c0' c1' c2' c3' c4' hx
          go_upto_region 11 with fail
          rw [← HG5.out, ← HW2.out]
          clear hb0 c0 c1 c2 c3 V1
          have hpi0 : (0 : Int) ≤ (p : Int) := by omega
          have hpi1 : (p : Int) ≤ (ul : Int) := by omega
          have hpi2 : (ul : Int) ≤ (ul : Int) := by omega
          cases hpf : x.t.isPrefixOf (u.drop p) with
          | false =>
            have HP := Lib.hid (show Lib.hasPrefix ((bs u).extract p ul).data.toList (bs x.t).data.toList = false by have h := has_at (a := p) (t := x.t) (rfl : bs u = bs u); rw [hsz] at h; rw [h]; exact hpf)
            have HS := Lib.hid (show stK L (u.drop p) (k + 1) = stK L (u.drop p) k by rw [stK_snoc, HX.out, hpf]; simp)
            clear hpf
            have hKp : Keep [(⟨g, 2, none⟩, .string (bs u)), (⟨g5, 0, none⟩, .string (bs x.t))] W2 := List.forall_mem_cons.2 ⟨⟨(sxb_at V2.out (i := 1) rfl).2.2.1, (sxb_at V2.out (i := 1) rfl).2.2.2⟩, List.forall_mem_cons.2 ⟨⟨(V2.out.box_at (i := 0) (j := 0) rfl rfl).1, (V2.out.box_at (i := 0) (j := 0) rfl rfl).2.2⟩, fun _ h => by simp at h⟩⟩
            refine wp_region_held_drew (S := Keep _) (by kernel_rfl) hKp.drew (fun hHeld => ?_)
            obtain ⟨wf, hwf⟩ : ∃ z, z = W2.drew := ⟨_, rfl⟩
            have Vwf := Lib.hid (show Hp W (sgbox g5 (Aj, cj) x :: sxb g nm (some ⟨b0, off, none⟩) n c u t :: l) wf by rw [hwf]; exact V2.out.go (bdrew _))
            have Bwf := Lib.hid (show Below W2.heap.size W2 wf by rw [hwf]; exact bdrew _)
            rw [← hwf] at hHeld ⊢
            clear hwf hKp
            refine tk 0 ?_ rfl ?_ ?_; rotate_left; focus (intro w hSw; clear hSw; go_simp; try (with_reducible rfl))
            try simp only [Act.put, sA, sZ, sS]
            refine tk 1 ?_ rfl ?_ ?_; rotate_left; focus (intro w hSw; clear hSw; go_simp; try (with_reducible rfl))
            try simp only [Act.put, sA, sZ, sS]
            refine tk 2 ?_ rfl ?_ ?_; rotate_left; focus (intro w hSw; clear hSw; go_simp; try (with_reducible rfl))
            try simp only [Act.put, sA, sZ, sS]
            refine tk 3 ?_ rfl ?_ ?_; rotate_left
            · intro wl hSw
              have hSw : Keep _ wl := hSw
              have k0 := (hSw _ (.head _)).1
              dsimp only at k0
              clear hSw
              go_simp
              try (with_reducible rfl)
            try simp only [Act.put, sA, sZ, sS]
            refine tk 4 ?_ rfl ?_ ?_; rotate_left; focus (intro w hSw; clear hSw; go_simp; try (with_reducible rfl))
            try simp only [Act.put, sA, sZ, sS]
            refine tk 5 ?_ rfl ?_ ?_; rotate_left; focus (intro w hSw; clear hSw; go_simp; try (with_reducible rfl))
            try simp only [Act.put, sA, sZ, sS]
            refine tk 6 ?_ rfl ?_ ?_; rotate_left; focus (intro w hSw; clear hSw; go_simp; try (with_reducible rfl))
            try simp only [Act.put, sA, sZ, sS]
            refine tk 7 ?_ rfl ?_ ?_; rotate_left
            · intro wl hSw
              have hSw : Keep _ wl := hSw
              have k0 := (hSw _ (.tail _ (.head _))).1
              dsimp only at k0
              clear hSw
              go_simp
              try (with_reducible rfl)
            try simp only [Act.put, sA, sZ, sS]
            refine wpAnyH_ready (rs := [8]) (by kernel_rfl) (by simp) ?_
            refine AllReadyH.cons (List.getElem?_toArray.trans rfl) (fun K hK => ?_) AllReadyH.nil
            go_simp
            refine (Tryz.strings_HasPrefix _ _ _).mono ?_
            rintro r w9 ⟨rfl, hw9⟩
            rw [HP.out]
            subst hw9
            try go_wp2_with fail
            refine hK.out _ _ (hHeld) (fun hHeld => ?_)
            clear hK K
            try simp only [Act.put, sA, sZ, sS]
            refine tk 9 ?_ rfl ?_ ?_; rotate_left; focus (intro w hSw; clear hSw; go_simp; try (with_reducible rfl))
            try simp only [Act.put, sA, sZ, sS]
            refine wpAnyH_done (by kernel_rfl) ?_ _
            clear hHeld
            have VE := Lib.hid (show Hp W (sxb g nm (some ⟨b0, off, none⟩) n c u t :: l) _ from Vwf.out.tail)
            go_wp2_with fail
            go_roundw
            case rel => exact ⟨k + 1, t, by omega, by go_num, by rw [HS.out]; exact HT.out, VE.out⟩
            case measure => simp [intOf]; omega
          | true =>
            have HP := Lib.hid (show Lib.hasPrefix ((bs u).extract p ul).data.toList (bs x.t).data.toList = true by have h := has_at (a := p) (t := x.t) (rfl : bs u = bs u); rw [hsz] at h; rw [h]; exact hpf)
            have HS := Lib.hid (show stK L (u.drop p) (k + 1) = stK L (u.drop p) k ++ [k] by rw [stK_snoc, HX.out, hpf]; simp)
            have HST := Lib.hid (show k ∈ stL L (u.drop p) from stL_mem.2 ⟨by have := HL.out; omega, by rw [HX.out]; exact List.isPrefixOf_iff_prefix.1 hpf⟩)
            have htl : p + x.t.length ≤ ul := by
              have := (List.isPrefixOf_iff_prefix.1 hpf).length_le
              rw [List.length_drop, ← HUL.out] at this
              omega
            clear hpf
            have hKp : Keep [(⟨g, 2, none⟩, .string (bs u)), (⟨g5, 0, none⟩, .string (bs x.t))] W2 := List.forall_mem_cons.2 ⟨⟨(sxb_at V2.out (i := 1) rfl).2.2.1, (sxb_at V2.out (i := 1) rfl).2.2.2⟩, List.forall_mem_cons.2 ⟨⟨(V2.out.box_at (i := 0) (j := 0) rfl rfl).1, (V2.out.box_at (i := 0) (j := 0) rfl rfl).2.2⟩, fun _ h => by simp at h⟩⟩
            refine wp_region_held_drew (S := Keep _) (by kernel_rfl) hKp.drew (fun hHeld => ?_)
            obtain ⟨wf, hwf⟩ : ∃ z, z = W2.drew := ⟨_, rfl⟩
            have Vwf := Lib.hid (show Hp W (sgbox g5 (Aj, cj) x :: sxb g nm (some ⟨b0, off, none⟩) n c u t :: l) wf by rw [hwf]; exact V2.out.go (bdrew _))
            have Bwf := Lib.hid (show Below W2.heap.size W2 wf by rw [hwf]; exact bdrew _)
            rw [← hwf] at hHeld ⊢
            clear hwf hKp
            refine tk 0 ?_ rfl ?_ ?_; rotate_left; focus (intro w hSw; clear hSw; go_simp; try (with_reducible rfl))
            try simp only [Act.put, sA, sZ, sS]
            refine tk 1 ?_ rfl ?_ ?_; rotate_left; focus (intro w hSw; clear hSw; go_simp; try (with_reducible rfl))
            try simp only [Act.put, sA, sZ, sS]
            refine tk 2 ?_ rfl ?_ ?_; rotate_left; focus (intro w hSw; clear hSw; go_simp; try (with_reducible rfl))
            try simp only [Act.put, sA, sZ, sS]
            refine tk 3 ?_ rfl ?_ ?_; rotate_left
            · intro wl hSw
              have hSw : Keep _ wl := hSw
              have k0 := (hSw _ (.head _)).1
              dsimp only at k0
              clear hSw
              go_simp
              try (with_reducible rfl)
            try simp only [Act.put, sA, sZ, sS]
            refine tk 4 ?_ rfl ?_ ?_; rotate_left; focus (intro w hSw; clear hSw; go_simp; try (with_reducible rfl))
            try simp only [Act.put, sA, sZ, sS]
            refine tk 5 ?_ rfl ?_ ?_; rotate_left; focus (intro w hSw; clear hSw; go_simp; try (with_reducible rfl))
            try simp only [Act.put, sA, sZ, sS]
            refine tk 6 ?_ rfl ?_ ?_; rotate_left; focus (intro w hSw; clear hSw; go_simp; try (with_reducible rfl))
            try simp only [Act.put, sA, sZ, sS]
            refine tk 7 ?_ rfl ?_ ?_; rotate_left
            · intro wl hSw
              have hSw : Keep _ wl := hSw
              have k0 := (hSw _ (.tail _ (.head _))).1
              dsimp only at k0
              clear hSw
              go_simp
              try (with_reducible rfl)
            try simp only [Act.put, sA, sZ, sS]
            refine wpAnyH_ready (rs := [8]) (by kernel_rfl) (by simp) ?_
            refine AllReadyH.cons (List.getElem?_toArray.trans rfl) (fun K hK => ?_) AllReadyH.nil
            go_simp
            refine (Tryz.strings_HasPrefix _ _ _).mono ?_
            rintro r w9 ⟨rfl, hw9⟩
            rw [HP.out]
            subst hw9
            try go_wp2_with fail
            refine hK.out _ _ (hHeld) (fun hHeld => ?_)
            clear hK K
            try simp only [Act.put, sA, sZ, sS]
            refine tk 9 ?_ rfl ?_ ?_; rotate_left; focus (intro w hSw; clear hSw; go_simp; try (with_reducible rfl))
            try simp only [Act.put, sA, sZ, sS]
            refine wpAnyH_done (by kernel_rfl) ?_ _
            clear hHeld
            obtain ⟨wq, hwq⟩ : ∃ z : World, z = w9 := ⟨_, rfl⟩
            have V3 := Lib.hid (show Hp W (sgbox g5 (Aj, cj) x :: sxb g nm (some ⟨b0, off, none⟩) n c u t :: l) wq by rw [hwq]; exact Vwf.out)
            have HT3 := Lib.hid (show TabIs t (FA L u p (PK L (u.drop p) k 0)) from HT.out.congr (fun a b q _ _ _ => FA_congr a q (PK_zero L (u.drop p) k b).symm))
            rw [← hwq]
            clear hwq HT
            go_wp2_with fail
            go_loopw [55] (fun iv wr => ∃ (b : Nat) (t : List Int), b ≤ 3 ∧ iv = .int .i64 (b : Int) ∧ TabIs t (FA L u p (PK L (u.drop p) k b)) ∧ Hp W (sgbox g5 (Aj, cj) x :: sxb g nm (some ⟨b0, off, none⟩) n c u t :: l) wr) (fun iv _ => 3 - (intOf iv).toNat)
            case atStart => exact ⟨0, t, by omega, rfl, HT3.out, V3.out⟩
            case round =>
              clear V3 HT3 V2
              obtain ⟨b, t, hb, rfl, ht, hV⟩ := hrel
              obtain ⟨wo, rfl⟩ : ∃ wi : World, wi = wr := ⟨_, rfl⟩
              have V3 := Lib.hid hV
              have HT := Lib.hid ht
              clear hV ht
              by_cases hb3 : b < 3
              case neg =>
                have HT2 := Lib.hid (show TabIs t (FA L u p (fun _ => stK L (u.drop p) (k + 1))) from HT.out.congr (fun a b' q _ hb _ => FA_congr a q (by rw [show b = 3 by omega]; exact PK_all L (u.drop p) k hb)))
                go_wp2_with fail
                go_roundw
                case rel => exact ⟨k + 1, t, by omega, by go_num, HT2.out, V3.out.tail⟩
                case measure => simp [intOf]; omega
              case pos =>
                obtain ⟨fs, hfs⟩ : ∃ z, z = fsK L k := ⟨_, rfl⟩
                have hfs3 : fs < 3 := by rw [hfs]; exact fsK_lt L k
                have HKF := Lib.hid (show kC (begB x.s) = fs by rw [hfs, ← kC_fs, HX.out])
                have HFS := Lib.hid hfs
                have hbI : (b : Int) < 3 := by omega
                have hpI : (p : Int) < 17 := by omega
                have hfsI : (fs : Int) < 3 := by omega
                have hp9 : p * 9 ≤ 144 := by omega
                clear hfs
                go_upto_region 15 with fail
                go_cut [7] (fun q wx => q = .pointer (some ⟨g, 3 + p * 9 + b * 3 + fs, none⟩) ∧ Hp W (sgbox g5 (Aj, cj) x :: sxb g nm (some ⟨b0, off, none⟩) n c u t :: l) wx)
                case first =>
                  have hKp : Keep [(⟨g5, 0, none⟩, .string (bs x.t)), (⟨g5, 1, none⟩, .slice Aj x.s.length cj), (⟨g5, 2, none⟩, .int .i64 x.c), (⟨g5, 3, none⟩, .int .i64 x.w)] wo := List.forall_mem_cons.2 ⟨⟨(V3.out.box_at (i := 0) (j := 0) rfl rfl).1, (V3.out.box_at (i := 0) (j := 0) rfl rfl).2.2⟩, List.forall_mem_cons.2 ⟨⟨(V3.out.box_at (i := 0) (j := 1) rfl rfl).1, (V3.out.box_at (i := 0) (j := 1) rfl rfl).2.2⟩, List.forall_mem_cons.2 ⟨⟨(V3.out.box_at (i := 0) (j := 2) rfl rfl).1, (V3.out.box_at (i := 0) (j := 2) rfl rfl).2.2⟩, List.forall_mem_cons.2 ⟨⟨(V3.out.box_at (i := 0) (j := 3) rfl rfl).1, (V3.out.box_at (i := 0) (j := 3) rfl rfl).2.2⟩, fun _ h => by simp at h⟩⟩⟩⟩
                  refine wp_region_held_drew (S := Keep _) (by kernel_rfl) hKp.drew (fun hHeld => ?_)
                  obtain ⟨wf, hwf⟩ : ∃ z, z = wo.drew := ⟨_, rfl⟩
                  have Vwf := Lib.hid (show Hp W (sgbox g5 (Aj, cj) x :: sxb g nm (some ⟨b0, off, none⟩) n c u t :: l) wf by rw [hwf]; exact V3.out.go (bdrew _))
                  have Bwf := Lib.hid (show Below wo.heap.size wo wf by rw [hwf]; exact bdrew _)
                  rw [← hwf] at hHeld ⊢
                  clear hwf hKp
                  refine tk 0 ?_ rfl ?_ ?_; rotate_left; focus (intro w hSw; clear hSw; go_simp; try (with_reducible rfl))
                  try simp only [Act.put, sA, sZ, sS]
                  refine tk 1 ?_ rfl ?_ ?_; rotate_left; focus (intro w hSw; clear hSw; go_simp; try (with_reducible rfl))
                  try simp only [Act.put, sA, sZ, sS]
                  refine tk 2 ?_ rfl ?_ ?_; rotate_left; focus (intro w hSw; clear hSw; go_simp; try (with_reducible rfl))
                  try simp only [Act.put, sA, sZ, sS]
                  refine tk 3 ?_ rfl ?_ ?_; rotate_left
                  · intro wl hSw
                    have hSw : Keep _ wl := hSw
                    have k0 := (hSw _ (.head _)).1
                    have k1 := (hSw _ (.tail _ (.head _))).1
                    have k2 := (hSw _ (.tail _ (.tail _ (.head _)))).1
                    have k3 := (hSw _ (.tail _ (.tail _ (.tail _ (.head _))))).1
                    dsimp only at k0 k1 k2 k3
                    clear hSw
                    go_simp
                    try (with_reducible rfl)
                  try simp only [Act.put, sA, sZ, sS]
                  refine tk 5 ?_ rfl ?_ ?_; rotate_left; focus (intro w hSw; clear hSw; go_simp; try (with_reducible rfl))
                  try simp only [Act.put, sA, sZ, sS]
                  refine tk 6 ?_ rfl ?_ ?_; rotate_left; focus (intro w hSw; clear hSw; go_simp; try (with_reducible rfl))
                  try simp only [Act.put, sA, sZ, sS]
                  refine tk 7 ?_ rfl ?_ ?_; rotate_left; focus (intro w hSw; clear hSw; go_simp; try (with_reducible rfl))
                  try simp only [Act.put, sA, sZ, sS]
                  refine tk 8 ?_ rfl ?_ ?_; rotate_left; focus (intro w hSw; clear hSw; go_simp; try (with_reducible rfl))
                  try simp only [Act.put, sA, sZ, sS]
                  refine wpAnyH_ready (rs := [4]) (by kernel_rfl) (by simp) ?_
                  refine AllReadyH.cons (List.getElem?_toArray.trans rfl) (fun K hK => ?_) AllReadyH.nil
                  go_simp
                  refine (firstP_any x Aj cj _ hxs.1 (by omega) (HCX.out _ Vwf.out.below)).mono ?_
                  rintro r w_4 ⟨rfl, hb⟩
                  rw [HKF.out]
                  have V_4 := Lib.hid (Vwf.out.go hb)
                  have B_4 := Lib.hid hb
                  clear hb
                  try go_wp2_with fail
                  refine hK.out _ _ (hHeld.go B_4.out) (fun hHeld => ?_)
                  clear hK K
                  try simp only [Act.put, sA, sZ, sS]
                  refine tk 9 ?_ rfl ?_ ?_; rotate_left; focus (intro w hSw; clear hSw; go_simp; try (with_reducible rfl))
                  try simp only [Act.put, sA, sZ, sS]
                  refine tk 10 ?_ rfl ?_ ?_; rotate_left; focus (intro w hSw; clear hSw; go_simp; try (with_reducible rfl))
                  try simp only [Act.put, sA, sZ, sS]
                  refine wpAnyH_done (by kernel_rfl) ?_ _
                  clear hHeld
                  go_wp2_with fail
                  go_meet
                  exact ⟨rfl, V_4.out⟩
                case rest =>
                obtain ⟨rfl, hV⟩ := hcut
                obtain ⟨wh, rfl⟩ : ∃ z : World, z = wc := ⟨_, rfl⟩
                have V4 := Lib.hid hV
                clear hV V3
                obtain ⟨v0, hv0⟩ : ∃ z, z = FA L u p (PK L (u.drop p) k b) p b fs := ⟨_, rfl⟩
                obtain ⟨nx, hnx⟩ : ∃ z, z = p + x.t.length := ⟨_, rfl⟩
                obtain ⟨o0, ho0⟩ : ∃ z, z = opF L (FA L u p (PK L (u.drop p) k b)) k nx b 0 := ⟨_, rfl⟩
                obtain ⟨o1, ho1⟩ : ∃ z, z = opF L (FA L u p (PK L (u.drop p) k b)) k nx b 1 := ⟨_, rfl⟩
                obtain ⟨o2, ho2⟩ : ∃ z, z = opF L (FA L u p (PK L (u.drop p) k b)) k nx b 2 := ⟨_, rfl⟩
                have hol : ∀ q, opF L (FA L u p (PK L (u.drop p) k b)) k nx b q ≤ 201 := fun q => by unfold opF; split; exact FA_le _ _ _ _ _ _ _; omega
                have ho0b := hol 0
                have ho1b := hol 1
                have ho2b := hol 2
                rw [← ho0] at ho0b
                rw [← ho1] at ho1b
                rw [← ho2] at ho2b
                have hv0b : v0 ≤ 201 := by rw [hv0]; exact FA_le _ _ _ _ _ _ _
                have HOP := Lib.hid (show ∀ q, opF L (FA L u p (PK L (u.drop p) k b)) k nx b q = opN L (u.drop p) k b q from fun q => by
                  unfold opF opN
                  rw [List.drop_drop, HX.out, ← hnx, FA_on (by omega) (by rw [← HUL.out]; omega)]
                  rfl)
                have HBP := Lib.hid (fun (w' : World) (t' : Hp W (sgbox g5 (Aj, cj) x :: sxb g nm (some ⟨b0, off, none⟩) n c u t :: l) w') => behindP_any nm L (some ⟨b0, off, none⟩) n c u (FA L u p (PK L (u.drop p) k b)) g k p nx b w' HV.out HL.out (HA.out.below t'.below) (sxb_is t' (i := 1) rfl HT.out) hkn (by rw [hnx, HX.out]) (by omega) (fun q => FA_le _ _ _ _ _ _ _) hb3)
                have HS3 := Lib.hid (show mn (o0 + o1 + o2) = mn (bh L (u.drop p).length k (u.drop p) (exP b)).length by
                  rw [ho0, ho1, ho2, HOP.out, HOP.out, HOP.out]
                  exact opS_is HNE.out (fun i hi => HSS.out i (by rw [← HL.out]; exact hi)) HST.out b (Nat.le_refl _))
                obtain ⟨nv, hnv⟩ : ∃ z, z = mn (wL L (u.drop p) b fs (stK L (u.drop p) k) + (bh L (u.drop p).length k (u.drop p) (exP b)).length) := ⟨_, rfl⟩
                have HV0 := Lib.hid (show v0 = mn (wL L (u.drop p) b fs (stK L (u.drop p) k)) by rw [hv0, FA_at, PK_self])
                have hmin : min ((v0 : Int) + ((o0 + o1 + o2 : Nat) : Int)) (201 : Int) = (nv : Int) := by
                  rw [hnv]; exact min_step _ HS3.out (by rw [← HV0.out]; omega)
                have hmin2 : min (201 : Int) ((v0 : Int) + ((o0 + o1 + o2 : Nat) : Int)) = (nv : Int) := by rw [Int.min_comm]; exact hmin
                have hmin3 : min ((v0 : Int) + ((o0 : Int) + (o1 : Int) + (o2 : Int))) (201 : Int) = (nv : Int) := by
                  have h := hmin
                  rw [show ((o0 + o1 + o2 : Nat) : Int) = (o0 : Int) + (o1 : Int) + (o2 : Int) by omega] at h
                  exact h
                have hws : IntKind.i64.wrap ((v0 : Int) + ((o0 + o1 + o2 : Nat) : Int)) = (v0 : Int) + ((o0 + o1 + o2 : Nat) : Int) := IntWalk.i64_in _ (by omega)
                have HN := Lib.hid (show TabIs (t.set (p * 9 + b * 3 + fs) (nv : Int)) (FA L u p (PK L (u.drop p) k (b + 1))) from (HT.out.put (a := p) (b := b) (k := fs) (by omega) hb3 hfs3 nv).congr (fun a b' q _ _ _ => by
                  rw [HFS.out]
                  exact FA_put (PK_here b HS.out) (fun b'' h => PK_other L (u.drop p) k b b'' h) (by rw [hnv, PK_self, HFS.out]) a b' q))
                have HO0 := Lib.hid ho0
                have HO1 := Lib.hid ho1
                have HO2 := Lib.hid ho2
                have HV9 := Lib.hid hv0
                clear hol ho0 ho1 ho2 hv0 hnx hnv
                go_upto_region 16 with fail
                have HC0 := Lib.hid (fun (w' : World) (h' : Hp W (sgbox g5 (Aj, cj) x :: sxb g nm (some ⟨b0, off, none⟩) n c u t :: l) w') => (show w'.cell? ⟨g, 3 + p * 9 + b * 3 + fs, none⟩ = some (.int .i64 (v0 : Int)) ∧ g < w'.heap.size by rw [HV9.out]; exact ⟨(sxb_num h' (i := 1) rfl HT.out (by omega) hb3 hfs3 rfl).1, (sxb_num h' (i := 1) rfl HT.out (by omega) hb3 hfs3 rfl).2.2⟩))
                have hKp : Keep [] wh := fun _ h => by simp at h
                refine wp_region_held_drew (S := Keep _) (by kernel_rfl) hKp.drew (fun hHeld => ?_)
                obtain ⟨wf, hwf⟩ : ∃ z, z = wh.drew := ⟨_, rfl⟩
                have Vwf := Lib.hid (show Hp W (sgbox g5 (Aj, cj) x :: sxb g nm (some ⟨b0, off, none⟩) n c u t :: l) wf by rw [hwf]; exact V4.out.go (bdrew _))
                have Bwf := Lib.hid (show Below wh.heap.size wh wf by rw [hwf]; exact bdrew _)
                rw [← hwf] at hHeld ⊢
                clear hwf hKp
                refine tk 0 ?_ rfl ?_ ?_; rotate_left; focus (intro w hSw; clear hSw; go_simp; try (with_reducible rfl))
                try simp only [Act.put, sA, sZ, sS]
                refine tk 1 ?_ rfl ?_ ?_; rotate_left; focus (intro w hSw; clear hSw; go_simp; try (with_reducible rfl))
                try simp only [Act.put, sA, sZ, sS]
                refine tk 2 ?_ rfl ?_ ?_; rotate_left; focus (intro w hSw; clear hSw; go_simp; try (with_reducible rfl))
                try simp only [Act.put, sA, sZ, sS]
                refine tk 4 ?_ rfl ?_ ?_; rotate_left; focus (intro w hSw; clear hSw; go_simp; try (with_reducible rfl))
                try simp only [Act.put, sA, sZ, sS]
                refine tk 5 ?_ rfl ?_ ?_; rotate_left; focus (intro w hSw; clear hSw; go_simp; try (with_reducible rfl))
                try simp only [Act.put, sA, sZ, sS]
                refine tk 6 ?_ rfl ?_ ?_; rotate_left; focus (intro w hSw; clear hSw; go_simp; try (with_reducible rfl))
                try simp only [Act.put, sA, sZ, sS]
                refine tk 7 ?_ rfl ?_ ?_; rotate_left; focus (intro w hSw; clear hSw; go_simp; try (with_reducible rfl))
                try simp only [Act.put, sA, sZ, sS]
                refine wpAnyH_ready (rs := [3, 8]) (by kernel_rfl) (by simp) ?_
                refine AllReadyH.cons (List.getElem?_toArray.trans rfl) (fun K hK => ?_) ?_
                · have yL := (HC0.out _ Vwf.out).1
                  go_simp
                  clear yL
                  refine hK.out _ _ (hHeld) (fun hHeld => ?_)
                  clear hK K
                  try simp only [Act.put, sA, sZ, sS]
                  refine wpAnyH_ready (rs := [8]) (by kernel_rfl) (by simp) ?_
                  refine AllReadyH.cons (List.getElem?_toArray.trans rfl) (fun K hK => ?_) AllReadyH.nil
                  go_simp
                  refine (HBP.out _ Vwf.out).mono ?_
                  rintro r w_3_8 ⟨rfl, hb⟩
                  rw [← HO0.out, ← HO1.out, ← HO2.out]
                  have V_3_8 := Lib.hid (Vwf.out.go hb)
                  have B_3_8 := Lib.hid hb
                  clear hb
                  try go_wp2_with fail
                  refine hK.out _ _ (hHeld.go B_3_8.out) (fun hHeld => ?_)
                  clear hK K
                  try simp only [Act.put, sA, sZ, sS]
                  refine wpAnyH_ready (rs := [9]) (by kernel_rfl) (by simp) ?_
                  refine AllReadyH.cons (List.getElem?_toArray.trans rfl) (fun K hK => ?_) AllReadyH.nil
                  go_simp
                  refine (sum_any o0 o1 o2 _ (by omega) (by omega) (by omega)).mono ?_
                  rintro r w_3_8_9 ⟨rfl, hb⟩
                  have V_3_8_9 := Lib.hid (V_3_8.out.go hb)
                  have B_3_8_9 := Lib.hid hb
                  clear hb
                  try go_wp2_with fail
                  refine hK.out _ _ (hHeld.go B_3_8_9.out) (fun hHeld => ?_)
                  clear hK K
                  try simp only [Act.put, sA, sZ, sS]
                  refine tk 10 ?_ rfl ?_ ?_; rotate_left; focus (intro w hSw; clear hSw; go_simp; try (with_reducible rfl))
                  try simp only [Act.put, sA, sZ, sS]
                  refine tk 11 ?_ rfl ?_ ?_; rotate_left; focus (intro w hSw; clear hSw; go_simp; try (with_reducible rfl))
                  try simp only [Act.put, sA, sZ, sS]
                  refine tk 12 ?_ rfl ?_ ?_; rotate_left; focus (intro w hSw; clear hSw; go_simp; try (with_reducible rfl))
                  try simp only [Act.put, sA, sZ, sS]
                  refine wpAnyH_ready (rs := [13]) (by kernel_rfl) (by simp) ?_
                  refine AllReadyH.cons (List.getElem?_toArray.trans rfl) (fun K hK => ?_) AllReadyH.nil
                  obtain ⟨yk, fk, gk⟩ := sxb_num V_3_8_9.out (i := 1) rfl HT.out (by omega) hb3 hfs3 (rfl : 3 + p * 9 + b * 3 + fs = 3 + p * 9 + b * 3 + fs)
                  have V_3_8_9_13 := Lib.hid (show Hp W (sgbox g5 (Aj, cj) x :: sxb g nm (some ⟨b0, off, none⟩) n c u (t.set (p * 9 + b * 3 + fs) (nv : Int)) :: l) (w_3_8_9.setCell ⟨g, 3 + p * 9 + b * 3 + fs, none⟩ (.int .i64 (min ((v0 : Int) + ((o0 : Int) + (o1 : Int) + (o2 : Int))) 201))) by rw [hmin3]; exact sxb_put V_3_8_9.out (i := 1) rfl (show 3 + p * 9 + b * 3 + fs = 3 + (p * 9 + b * 3 + fs) by omega) (nv : Int))
                  go_simp
                  clear yk fk gk
                  refine hK.out _ _ ((fun _ h => by simp at h)) (fun hHeld => ?_)
                  clear hK K
                  try simp only [Act.put, sA, sZ, sS]
                  refine wpAnyH_done (by kernel_rfl) ?_ _
                  clear hHeld
                  go_wp2_with fail
                  go_roundw
                  case rel => exact ⟨b + 1, _, by omega, by go_num, HN.out, V_3_8_9_13.out⟩
                  case measure => simp [intOf]; omega
                refine AllReadyH.cons (List.getElem?_toArray.trans rfl) (fun K hK => ?_) ?_
                · go_simp
                  refine (HBP.out _ Vwf.out).mono ?_
                  rintro r w_8 ⟨rfl, hb⟩
                  rw [← HO0.out, ← HO1.out, ← HO2.out]
                  have V_8 := Lib.hid (Vwf.out.go hb)
                  have B_8 := Lib.hid hb
                  clear hb
                  try go_wp2_with fail
                  refine hK.out _ _ (hHeld.go B_8.out) (fun hHeld => ?_)
                  clear hK K
                  try simp only [Act.put, sA, sZ, sS]
                  refine wpAnyH_ready (rs := [3, 9]) (by kernel_rfl) (by simp) ?_
                  refine AllReadyH.cons (List.getElem?_toArray.trans rfl) (fun K hK => ?_) ?_
                  · have yL := (HC0.out _ V_8.out).1
                    go_simp
                    clear yL
                    refine hK.out _ _ (hHeld) (fun hHeld => ?_)
                    clear hK K
                    try simp only [Act.put, sA, sZ, sS]
                    refine wpAnyH_ready (rs := [9]) (by kernel_rfl) (by simp) ?_
                    refine AllReadyH.cons (List.getElem?_toArray.trans rfl) (fun K hK => ?_) AllReadyH.nil
                    go_simp
                    refine (sum_any o0 o1 o2 _ (by omega) (by omega) (by omega)).mono ?_
                    rintro r w_8_3_9 ⟨rfl, hb⟩
                    have V_8_3_9 := Lib.hid (V_8.out.go hb)
                    have B_8_3_9 := Lib.hid hb
                    clear hb
                    try go_wp2_with fail
                    refine hK.out _ _ (hHeld.go B_8_3_9.out) (fun hHeld => ?_)
                    clear hK K
                    try simp only [Act.put, sA, sZ, sS]
                    refine tk 10 ?_ rfl ?_ ?_; rotate_left; focus (intro w hSw; clear hSw; go_simp; try (with_reducible rfl))
                    try simp only [Act.put, sA, sZ, sS]
                    refine tk 11 ?_ rfl ?_ ?_; rotate_left; focus (intro w hSw; clear hSw; go_simp; try (with_reducible rfl))
                    try simp only [Act.put, sA, sZ, sS]
                    refine tk 12 ?_ rfl ?_ ?_; rotate_left; focus (intro w hSw; clear hSw; go_simp; try (with_reducible rfl))
                    try simp only [Act.put, sA, sZ, sS]
                    refine wpAnyH_ready (rs := [13]) (by kernel_rfl) (by simp) ?_
                    refine AllReadyH.cons (List.getElem?_toArray.trans rfl) (fun K hK => ?_) AllReadyH.nil
                    obtain ⟨yk, fk, gk⟩ := sxb_num V_8_3_9.out (i := 1) rfl HT.out (by omega) hb3 hfs3 (rfl : 3 + p * 9 + b * 3 + fs = 3 + p * 9 + b * 3 + fs)
                    have V_8_3_9_13 := Lib.hid (show Hp W (sgbox g5 (Aj, cj) x :: sxb g nm (some ⟨b0, off, none⟩) n c u (t.set (p * 9 + b * 3 + fs) (nv : Int)) :: l) (w_8_3_9.setCell ⟨g, 3 + p * 9 + b * 3 + fs, none⟩ (.int .i64 (min ((v0 : Int) + ((o0 : Int) + (o1 : Int) + (o2 : Int))) 201))) by rw [hmin3]; exact sxb_put V_8_3_9.out (i := 1) rfl (show 3 + p * 9 + b * 3 + fs = 3 + (p * 9 + b * 3 + fs) by omega) (nv : Int))
                    go_simp
                    clear yk fk gk
                    refine hK.out _ _ ((fun _ h => by simp at h)) (fun hHeld => ?_)
                    clear hK K
                    try simp only [Act.put, sA, sZ, sS]
                    refine wpAnyH_done (by kernel_rfl) ?_ _
                    clear hHeld
                    go_wp2_with fail
                    go_roundw
                    case rel => exact ⟨b + 1, _, by omega, by go_num, HN.out, V_8_3_9_13.out⟩
                    case measure => simp [intOf]; omega
                  refine AllReadyH.cons (List.getElem?_toArray.trans rfl) (fun K hK => ?_) ?_
                  · go_simp
                    refine (sum_any o0 o1 o2 _ (by omega) (by omega) (by omega)).mono ?_
                    rintro r w_8_9 ⟨rfl, hb⟩
                    have V_8_9 := Lib.hid (V_8.out.go hb)
                    have B_8_9 := Lib.hid hb
                    clear hb
                    try go_wp2_with fail
                    refine hK.out _ _ (hHeld.go B_8_9.out) (fun hHeld => ?_)
                    clear hK K
                    try simp only [Act.put, sA, sZ, sS]
                    refine wpAnyH_ready (rs := [3]) (by kernel_rfl) (by simp) ?_
                    refine AllReadyH.cons (List.getElem?_toArray.trans rfl) (fun K hK => ?_) AllReadyH.nil
                    have yL := (HC0.out _ V_8_9.out).1
                    go_simp
                    clear yL
                    refine hK.out _ _ (hHeld) (fun hHeld => ?_)
                    clear hK K
                    try simp only [Act.put, sA, sZ, sS]
                    refine tk 10 ?_ rfl ?_ ?_; rotate_left; focus (intro w hSw; clear hSw; go_simp; try (with_reducible rfl))
                    try simp only [Act.put, sA, sZ, sS]
                    refine tk 11 ?_ rfl ?_ ?_; rotate_left; focus (intro w hSw; clear hSw; go_simp; try (with_reducible rfl))
                    try simp only [Act.put, sA, sZ, sS]
                    refine tk 12 ?_ rfl ?_ ?_; rotate_left; focus (intro w hSw; clear hSw; go_simp; try (with_reducible rfl))
                    try simp only [Act.put, sA, sZ, sS]
                    refine wpAnyH_ready (rs := [13]) (by kernel_rfl) (by simp) ?_
                    refine AllReadyH.cons (List.getElem?_toArray.trans rfl) (fun K hK => ?_) AllReadyH.nil
                    obtain ⟨yk, fk, gk⟩ := sxb_num V_8_9.out (i := 1) rfl HT.out (by omega) hb3 hfs3 (rfl : 3 + p * 9 + b * 3 + fs = 3 + p * 9 + b * 3 + fs)
                    have V_8_9_3_13 := Lib.hid (show Hp W (sgbox g5 (Aj, cj) x :: sxb g nm (some ⟨b0, off, none⟩) n c u (t.set (p * 9 + b * 3 + fs) (nv : Int)) :: l) (w_8_9.setCell ⟨g, 3 + p * 9 + b * 3 + fs, none⟩ (.int .i64 (min ((v0 : Int) + ((o0 : Int) + (o1 : Int) + (o2 : Int))) 201))) by rw [hmin3]; exact sxb_put V_8_9.out (i := 1) rfl (show 3 + p * 9 + b * 3 + fs = 3 + (p * 9 + b * 3 + fs) by omega) (nv : Int))
                    go_simp
                    clear yk fk gk
                    refine hK.out _ _ ((fun _ h => by simp at h)) (fun hHeld => ?_)
                    clear hK K
                    try simp only [Act.put, sA, sZ, sS]
                    refine wpAnyH_done (by kernel_rfl) ?_ _
                    clear hHeld
                    go_wp2_with fail
                    go_roundw
                    case rel => exact ⟨b + 1, _, by omega, by go_num, HN.out, V_8_9_3_13.out⟩
                    case measure => simp [intOf]; omega
                  exact AllReadyH.nil
                exact AllReadyH.nil
end Go.Proofs.YtjamfcihjendiaaGreat
