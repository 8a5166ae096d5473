/- Contract of the program: a spread is added to another one. -/
import Derived.Test.YtgdfjblfpeedjaaDEu
import Derived.Test.YtgdfjblfpeedjaaDEn
import Derived.Test.YtgdfjblfpeedjaaDEr
import Derived.Test.YtgdfjblfpeedjaaDEs
namespace Go.Proofs.Ytgdfjblfpeedjaa
open Go.RowKit
set_option linter.unusedVariables false
set_option linter.unusedSimpArgs false
set_option maxRecDepth 100000

theorem spr_len {g N q : Nat} {lo : List Int} {vs : List (Option Addr × Nat)} {U : List (List Int)} {row row2 : List Int} (hr : U[q]? = some row) (hl : row2.length = row.length) : spr g N lo vs (U.set q row2) = spr g N lo vs U := by
  unfold spr; rw [spP_len hr hl]
/-- A number of a row is set. -/
theorem Hp.urow_store {W w : World} {pre : List Itm} {vs : List (Option Addr × Nat)} {U : List (List Int)} {q g cap : Nat} {row : List Int} (h : Hp W (pre ++ urows vs U) w) (hv : vs[q]? = some (some ⟨g, 0, none⟩, cap)) (hr : U[q]? = some row) (j : Nat) (x : Int) :
    Hp W (pre ++ urows vs (U.set q (row.set j x))) (w.setCell ⟨g, j, none⟩ (.int .u64 x)) := by
  have h1 := h.unum_set (row_in hv hr) j x
  rw [List.set_append_right _ _ (by omega), Nat.add_sub_cancel_left] at h1
  have h2 := urows_set vs U q (some ⟨g, 0, none⟩) cap (row.set j x)
  rw [List.length_set, set_same hv] at h2
  rwa [h2] at h1
/-- What is no cells stays when a row grows. -/
theorem Hp.keeps {W w w' : World} {l : List Itm} {i : Nat} {it : Itm} (h : Hp W l w) (hi : l[i]? = some it) (hg : w.grownBy w' it.v.ownBlock) : KeepsOthers w w' := KeepsOthers.of_grownBy hg fun j o e ho => by
  rcases (h.own i it hi).2 with ⟨e1, _⟩ | ⟨b, cap, cur, e1, _, hb, _⟩
  · rw [e1] at e; cases e
  · rw [e1] at e
    have e3 : b = j := by simpa [Value.ownBlock] using e
    subst e3
    rw [hb] at ho
    injection ho with ho
    rw [← ho]; rfl
/-- A row grows by zeros. -/
theorem Hp.urow_zeros {W w : World} {pre : List Itm} {vs : List (Option Addr × Nat)} {U : List (List Int)} {q : Nat} {v : Option Addr × Nat} {row : List Int} (h : Hp W (pre ++ urows vs U) w) (hv : vs[q]? = some v) (hr : U[q]? = some row) (ty : TypeId) (k : Nat) (h0 : 0 < k) (hn : row.length + k ≤ 1000000) :
    ∃ g cap w', (Builtin.append_ #[54, 3] ty #[.slice v.1 row.length v.2, .int .i64 k]).run Try.prog w = .ok (.slice (some ⟨g, 0, none⟩) (row.length + k) cap) w' ∧
      Hp W (pre ++ urows (vs.set q (some ⟨g, 0, none⟩, cap)) (U.set q (row ++ List.replicate k 0))) w' ∧ KeepsOthers w w' := by
  obtain ⟨g, cap, w', h1, h2, h3⟩ := run_zeros h (row_in hv hr) ty k h0 hn
  refine ⟨g, cap, w', h1, ?_, h.keeps (row_in hv hr) h3⟩
  rw [List.set_append_right _ _ (by omega), Nat.add_sub_cancel_left] at h2
  have e := urows_set vs U q (some ⟨g, 0, none⟩) cap (row ++ List.replicate k 0)
  rw [show (row ++ List.replicate k (0 : Int)).length = row.length + k by simp] at e
  rwa [e] at h2
theorem sp_len {lo m : Int} {U : List Int} (h : Sp lo U m) (hm : m ≤ 60000) : U.length ≤ 60001 := by
  by_cases e : U = []
  · rw [e]; decide
  · have := h.low e; omega
set_option maxHeartbeats 16000000 in
theorem add_any (gs N f t : Nat) (pre : List Itm) (lo : List Int) (vs : List (Option Addr × Nat)) (U : List (List Int)) (lf lt c m : Int) (vf vt : Option Addr × Nat) (Uf Ut : List Int) (W w : World)
    (h : Hp W ((spr gs N lo vs U :: pre) ++ urows vs U) w)
    (hlf : lo[f]? = some lf) (hlt : lo[t]? = some lt) (hvf : vs[f]? = some vf) (hvt : vs[t]? = some vt) (hUf : U[f]? = some Uf) (hUt : U[t]? = some Ut) (hne : f ≠ t) (hf : f ≤ 2000)
    (hsf : Sp lf Uf m) (hst : Sp lt Ut m) (hc0 : 0 ≤ c) (hc1 : c ≤ 1000000) (hm0 : 0 ≤ m) (hm1 : m ≤ 60000) (l0 : -1 ≤ lf) (l1 : lf ≤ 10000000000) (l2 : -1 ≤ lt) (l3 : lt ≤ 10000000000) (hlo : Ut ≠ [] → 0 ≤ lf ∧ lf ≤ c + lt) :
    Calls Try.prog 24 #[.pointer (some ⟨gs, f * 2, none⟩), .agg #[.int .i64 lt, .slice vt.1 Ut.length vt.2], .int .i64 c, .int .i64 m] w fun e w' => e = .returned (.tuple #[]) ∧ KeepsOthers w w' ∧
      ∃ v', Hp W ((spr gs N lo (vs.set f v') (U.set f (addU lf Uf lt Ut c m)) :: pre) ++ urows (vs.set f v') (U.set f (addU lf Uf lt Ut c m))) w' := by
  obtain ⟨Lf, hLf⟩ : ∃ L, L = Uf.length := ⟨_, rfl⟩
  obtain ⟨Lt, hLt⟩ : ∃ L, L = Ut.length := ⟨_, rfl⟩
  have hLf1 : Lf ≤ 60001 := by rw [hLf]; exact sp_len hsf hm1
  have hLt1 : Lt ≤ 60001 := by rw [hLt]; exact sp_len hst hm1
  have HLf := Lib.hid hLf
  have HLt := Lib.hid hLt
  have HA := Lib.hid hlf
  have HB := Lib.hid hlt
  have HC := Lib.hid hvf
  have HD := Lib.hid hvt
  have HE := Lib.hid hUf
  have HF := Lib.hid hUt
  have HSF := Lib.hid hsf
  have HST := Lib.hid hst
  have HLO := Lib.hid hlo
  rw [← hLt]
  obtain ⟨nn, hnn⟩ : ∃ nn, nn = addN lt Ut c m := ⟨_, rfl⟩
  have HNN := Lib.hid hnn
  have gmin : min (Lt : Int) (m - c - lt + 1) = nn := by rw [hnn, hLt]; rfl
  have hnn1 : nn ≤ 60001 := by omega
  obtain ⟨vtA, vtc⟩ := vt
  obtain ⟨gb, hgb⟩ : ∃ g, g = w.heap.size := ⟨_, rfl⟩
  obtain ⟨wz, hwz⟩ : ∃ z, z = w.alloc (.cells #[.int .i64 lt, .slice vtA Lt vtc] 60) := ⟨_, rfl⟩
  have HZ := Lib.hid hwz
  have V := Lib.hid (show Hp W ((box 60 gb [.int .i64 lt, .slice vtA Lt vtc] :: spr gs N lo vs U :: pre) ++ urows vs U) wz by rw [hwz, hgb]; exact h.box_new 60 [.int .i64 lt, .slice vtA Lt vtc])
  have KO := Lib.hid (show KeepsOthers w wz by rw [hwz]; exact KeepsOthers.alloc _ _)
  obtain ⟨x0, _, b0⟩ := V.out.box_at (i := 0) (j := 0) rfl rfl
  obtain ⟨x1, _, _⟩ := V.out.box_at (i := 0) (j := 1) rfl rfl
  obtain ⟨y0, y1, _, y2, y3⟩ := V.out.spr_at (i := 1) rfl HA.out HC.out HE.out
  rw [← HLf.out] at y1
  obtain ⟨sh, hsh⟩ : ∃ sh, sh = c + lt - lf := ⟨_, rfl⟩
  have g1 : IntKind.i64.wrap (c + lt) = c + lt := IntWalk.i64_in _ (by omega)
  have g2 : IntKind.i64.wrap (c + lt - lf) = sh := by rw [hsh]; exact IntWalk.i64_in _ (by omega)
  have g3 : IntKind.i64.wrap (m - c) = m - c := IntWalk.i64_in _ (by omega)
  have g4 : IntKind.i64.wrap (m - c - lt) = m - c - lt := IntWalk.i64_in _ (by omega)
  have g5 : IntKind.i64.wrap (m - c - lt + 1) = m - c - lt + 1 := IntWalk.i64_in _ (by omega)
  have hf2 : f * 2 ≤ 4000 := by omega
  have HSH := Lib.hid hsh
  clear h hlf hlt hvf hvt hUf hUt hsf hst hlo hLf hLt hwz hsh hnn
  go_enter Try.func24, Try.ntmps24
  go_upto_region 1 with fail
  rw [← HZ.out, ← hgb]
  clear HZ hgb
  have hKp : Keep [(⟨gb, 0, none⟩, .int .i64 lt), (⟨gs, f * 2, none⟩, .int .i64 lf)] wz := List.forall_mem_cons.2 ⟨⟨x0, b0⟩, List.forall_mem_cons.2 ⟨⟨y0, y3⟩, fun _ h => by simp at h⟩⟩
  refine wp_region_held_drew (S := Keep _) (by kernel_rfl) hKp.drew (fun hHeld => ?_)
  refine tk 0 ?_ rfl ?_ ?_; rotate_left; focus (intro w hSw; clear hSw; go_simp; try (with_reducible rfl))
  try simp only [Act.put, sA, sZ, sS]
  refine tk 1 ?_ rfl ?_ ?_; rotate_left; focus (intro w hSw; clear hSw; go_simp; try (with_reducible rfl))
  try simp only [Act.put, sA, sZ, sS]
  refine tk 2 ?_ rfl ?_ ?_; rotate_left
  · intro wl hSw
    have hSw : Keep _ wl := hSw
    have k0 := (hSw _ (.head _)).1
    dsimp only at k0
    clear hSw
    go_simp
    try (with_reducible rfl)
  try simp only [Act.put, sA, sZ, sS]
  refine tk 3 ?_ rfl ?_ ?_; rotate_left; focus (intro w hSw; clear hSw; go_simp; try (with_reducible rfl))
  try simp only [Act.put, sA, sZ, sS]
  refine tk 4 ?_ rfl ?_ ?_; rotate_left; focus (intro w hSw; clear hSw; go_simp; try (with_reducible rfl))
  try simp only [Act.put, sA, sZ, sS]
  refine tk 5 ?_ rfl ?_ ?_; rotate_left; focus (intro w hSw; clear hSw; go_simp; try (with_reducible rfl))
  try simp only [Act.put, sA, sZ, sS]
  refine tk 6 ?_ rfl ?_ ?_; rotate_left; focus (intro w hSw; clear hSw; go_simp; try (with_reducible rfl))
  try simp only [Act.put, sA, sZ, sS]
  refine tk 7 ?_ rfl ?_ ?_; rotate_left
  · intro wl hSw
    have hSw : Keep _ wl := hSw
    have k0 := (hSw _ (.tail _ (.head _))).1
    dsimp only at k0
    clear hSw
    go_simp
    try (with_reducible rfl)
  try simp only [Act.put, sA, sZ, sS]
  refine tk 8 ?_ rfl ?_ ?_; rotate_left; focus (intro w hSw; clear hSw; go_simp; try (with_reducible rfl))
  try simp only [Act.put, sA, sZ, sS]
  refine tk 9 ?_ rfl ?_ ?_; rotate_left; focus (intro w hSw; clear hSw; go_simp; try (with_reducible rfl))
  try simp only [Act.put, sA, sZ, sS]
  refine wpAnyH_done (by kernel_rfl) ?_ _
  clear hHeld hKp
  have V0 := Lib.hid (V.out.go (bdrew wz))
  obtain ⟨wa, hwa⟩ : ∃ z, z = wz.drew := ⟨_, rfl⟩
  rw [← hwa] at V0 ⊢
  have KO0 := Lib.hid (show KeepsOthers w wa by rw [hwa]; exact KO.out.trans (KeepsOthers.drew _))
  clear hwa V x0 x1 y0 y1 y2 y3 b0
  obtain ⟨x0, _, b0⟩ := V0.out.box_at (i := 0) (j := 0) rfl rfl
  obtain ⟨x1, _, _⟩ := V0.out.box_at (i := 0) (j := 1) rfl rfl
  obtain ⟨y0, y1, _, y2, y3⟩ := V0.out.spr_at (i := 1) rfl HA.out HC.out HE.out
  rw [← HLf.out] at y1
  by_cases hn : nn ≤ 0
  · go_wp2_with fail
    refine bodyPost_ret (results_none rfl _ _ _) rfl ⟨rfl, KO0.out, vf, ?_⟩
    have e : addU lf Uf lt Ut c m = Uf := by unfold addU; rw [← HNN.out, if_pos hn]
    rw [e, set_same HC.out, set_same HE.out]
    exact V0.out.tail
  · obtain ⟨K, rfl⟩ := Int.eq_ofNat_of_zero_le (show 0 ≤ nn by omega)
    have hK0 : 0 < K := by omega
    have hKL : K ≤ Lt := by omega
    have hl := HLO.out (ne_nil (by rw [← HLt.out]; omega))
    obtain ⟨s, hs⟩ := Int.eq_ofNat_of_zero_le (show 0 ≤ sh by have := HSH.out; omega)
    subst hs
    have hs1 : s ≤ 60001 := by have := HSH.out; omega
    have HAU := Lib.hid (show addU lf Uf lt Ut c m = addK (Uf ++ List.replicate (s + K - Lf) 0) s Ut K by
      unfold addU
      rw [← HNN.out, if_neg hn, ← HSH.out, HLf.out, Int.toNat_natCast, Int.toNat_natCast])
    have hcapt := (V0.out.cap (row_in (pre := box 60 gb [.int .i64 lt, .slice vtA Lt vtc] :: spr gs N lo vs U :: pre) HD.out HF.out) (A := vtA) (c := vtc) rfl).1
    obtain ⟨bt, hbt⟩ := V0.out.head (row_in (pre := box 60 gb [.int .i64 lt, .slice vtA Lt vtc] :: spr gs N lo vs U :: pre) HD.out HF.out) (A := vtA) (c := vtc) rfl (by show 0 < Ut.length; rw [← HLt.out]; omega)
    have hcapt : Lt ≤ vtc := by rw [HLt.out]; exact hcapt
    subst hbt
    have g6 : IntKind.i64.wrap ((s : Int) + (K : Int)) = (s : Int) + (K : Int) := IntWalk.i64_in _ (by omega)
    obtain ⟨dd, hdd⟩ : ∃ dd : Int, dd = (s : Int) + (K : Int) - (Lf : Int) := ⟨_, rfl⟩
    have g7 : IntKind.i64.wrap ((s : Int) + (K : Int) - (Lf : Int)) = dd := by rw [hdd]; exact IntWalk.i64_in _ (by omega)
    have HDD := Lib.hid hdd
    have hdd1 : dd ≤ 120002 := by omega
    clear hdd
    by_cases hd : 0 < dd
    · obtain ⟨D, rfl⟩ := Int.eq_ofNat_of_zero_le (show 0 ≤ dd by omega)
      have hD0 : 0 < D := by omega
      have HD2 := Lib.hid (show s + K - Lf = D by have := HDD.out; omega)
      have hLD : Lf + D ≤ s + K ∧ s + K ≤ Lf + D := by have := HDD.out; omega
      obtain ⟨g2, cap, w2, hr, hv2, ko2⟩ := V0.out.urow_zeros (pre := box 60 gb [.int .i64 lt, .slice (some ⟨bt, 0, none⟩) Lt vtc] :: spr gs N lo vs U :: pre) HC.out HE.out 54 D hD0 (by rw [← HLf.out]; omega)
      rw [← HLf.out] at hr
      have HRR := Lib.hid hr
      have V2 := Lib.hid hv2
      have KO2 := Lib.hid (KO0.out.trans ko2)
      clear hr hv2 ko2
      obtain ⟨_, u1, _, u2, u3⟩ := V2.out.spr_at (i := 1) rfl HA.out HC.out HE.out
      rw [← HLf.out] at u1
      obtain ⟨w3, hw3⟩ : ∃ z, z = w2.setCell ⟨gs, f * 2 + 1, none⟩ (.slice (some ⟨g2, 0, none⟩) (Lf + D) cap) := ⟨_, rfl⟩
      have HW3 := Lib.hid hw3
      have V3 := Lib.hid (show Hp W ((box 60 gb [.int .i64 lt, .slice (some ⟨bt, 0, none⟩) Lt vtc] :: spr gs N lo (vs.set f (some ⟨g2, 0, none⟩, cap)) (U.set f (addK (Uf ++ List.replicate D 0) s Ut 0)) :: pre) ++ urows (vs.set f (some ⟨g2, 0, none⟩, cap)) (U.set f (addK (Uf ++ List.replicate D 0) s Ut 0))) w3 by
        have h := V2.out.spr_set (i := 1) rfl HA.out HC.out HE.out (some ⟨g2, 0, none⟩, cap) (Uf ++ List.replicate D 0)
        rw [show (Uf ++ List.replicate D (0 : Int)).length = Lf + D by rw [List.length_append, List.length_replicate, ← HLf.out]] at h
        rw [hw3]; exact h)
      have KO3 := Lib.hid (show KeepsOthers w w3 by rw [hw3]; exact KO2.out.trans (KeepsOthers.setCell _ _ _))
      clear hw3
      go_upto_region 6 with fail
      go_upto_region 7 with (at_builtin; refine Lib.wpList_append_run _ rfl (.tmp 50) (.tmp 51) 54 3 rfl _ _ rfl rfl _ _ HRR.out ?_)
      rw [← HW3.out]
      clear HW3 HRR V2 u1 u2 u3 x0 x1 y0 y1 y2 y3 b0 V0
      obtain ⟨L1, hL1⟩ : ∃ L, L = (Uf ++ List.replicate D 0).length := ⟨_, rfl⟩
      have hL1s : s + K ≤ L1 := by rw [hL1]; rw [List.length_append, List.length_replicate, ← HLf.out]; omega
      have hL1m : L1 ≤ 240000 := by rw [hL1]; rw [List.length_append, List.length_replicate, ← HLf.out]; omega
      have HL1 := Lib.hid hL1
      clear hL1
      have HF1 := Lib.hid (show (U.set f (Uf ++ List.replicate D 0))[t]? = some Ut by rw [List.getElem?_set, if_neg hne]; exact HF.out)
      have HD1 := Lib.hid (show (vs.set f (some ⟨g2, 0, none⟩, cap))[t]? = some (some ⟨bt, 0, none⟩, vtc) by rw [List.getElem?_set, if_neg hne]; exact HD.out)
      have HC1 := Lib.hid (show (vs.set f (some ⟨g2, 0, none⟩, cap))[f]? = some (some ⟨g2, 0, none⟩, cap) by rw [List.getElem?_set, if_pos rfl, if_pos (List.getElem?_eq_some_iff.1 HC.out).1])
      obtain ⟨x1, _, _⟩ := V3.out.box_at (i := 0) (j := 1) rfl rfl
      go_wp2_with fail
      clear x1
      go_loopw [60] (fun cv wr => ∃ k : Nat, cv = .int .i64 (k : Int) ∧ k ≤ K ∧ Hp W ((box 60 gb [.int .i64 lt, .slice (some ⟨bt, 0, none⟩) Lt vtc] :: spr gs N lo (vs.set f (some ⟨g2, 0, none⟩, cap)) (U.set f (addK (Uf ++ List.replicate D 0) s Ut k)) :: pre) ++ urows (vs.set f (some ⟨g2, 0, none⟩, cap)) (U.set f (addK (Uf ++ List.replicate D 0) s Ut k))) wr ∧ KeepsOthers w wr) (fun cv _ => K - (intOf cv).toNat)
      case atStart => exact ⟨0, rfl, Nat.zero_le _, V3.out, KO3.out⟩
      case round =>
        clear V3
        obtain ⟨k, rfl, hkK, hV, hko⟩ := hrel
        have KOk := Lib.hid hko
        clear hko
        obtain ⟨wi, rfl⟩ : ∃ wi : World, wi = wr := ⟨_, rfl⟩
        have V := Lib.hid hV
        clear hV
        by_cases hlt : k < K
        case neg =>
          obtain rfl : k = K := by omega
          go_wp2_with fail
          refine bodyPost_end (results_none rfl _ _ _) rfl ⟨rfl, KOk.out, (some ⟨g2, 0, none⟩, cap), ?_⟩
          rw [HAU.out, HD2.out]
          exact V.out.tail
        have HR := Lib.hid (show (U.set f (addK (Uf ++ List.replicate D 0) s Ut k))[f]? = some (addK (Uf ++ List.replicate D 0) s Ut k) by rw [List.getElem?_set, if_pos rfl, if_pos (List.getElem?_eq_some_iff.1 HE.out).1])
        have HFk := Lib.hid (show (U.set f (addK (Uf ++ List.replicate D 0) s Ut k))[t]? = some Ut by rw [List.getElem?_set, if_neg hne]; exact HF.out)
        have HRL := Lib.hid (show (addK (Uf ++ List.replicate D 0) s Ut k).length = L1 by rw [addK_len]; exact HL1.out.symm)
        obtain ⟨z0, _, z9⟩ := V.out.unum_at (row_in (pre := box 60 gb [.int .i64 lt, .slice (some ⟨bt, 0, none⟩) Lt vtc] :: spr gs N lo (vs.set f (some ⟨g2, 0, none⟩, cap)) (U.set f (addK (Uf ++ List.replicate D 0) s Ut k)) :: pre) HD1.out HFk.out) (j := k) (by rw [← HLt.out]; omega)
        obtain ⟨_, y1, _, y2, y3⟩ := V.out.spr_at (i := 1) rfl HA.out HC1.out HR.out
        rw [HRL.out] at y1
        obtain ⟨r0, r1, r2⟩ := V.out.unum_at (row_in (pre := box 60 gb [.int .i64 lt, .slice (some ⟨bt, 0, none⟩) Lt vtc] :: spr gs N lo (vs.set f (some ⟨g2, 0, none⟩, cap)) (U.set f (addK (Uf ++ List.replicate D 0) s Ut k)) :: pre) HC1.out HR.out) (j := s + k) (by rw [HRL.out]; omega)
        obtain ⟨y, hy⟩ : ∃ y, y = Ut.getD k 0 := ⟨_, rfl⟩
        obtain ⟨x, hx⟩ : ∃ x, x = (addK (Uf ++ List.replicate D 0) s Ut k).getD (s + k) 0 := ⟨_, rfl⟩
        rw [← hy] at z0
        rw [← hx] at r0
        have hyb := HST.out.vals k
        rw [← hy] at hyb
        have hxb : 0 ≤ x ∧ x ≤ bigC := by
          have h1 := addK_get (Uf ++ List.replicate D 0) s Ut k (s + k) (by rw [← HL1.out]; omega)
          rw [if_neg (by omega), getD_zeros] at h1
          rw [hx, h1]
          exact HSF.out.vals _
        unfold bigC at hyb hxb
        obtain ⟨z, hz⟩ : ∃ z, z = min (x + y) 4611686018427387905 := ⟨_, rfl⟩
        have gz : min (x + y) 4611686018427387905 = z := hz.symm
        have g8 : IntKind.u64.wrap (x + y) = x + y := IntWalk.u64_in _ (by omega)
        have g9 : IntKind.i64.wrap ((s : Int) + (k : Int)) = ((s + k : Nat) : Int) := by rw [IntWalk.i64_in _ (by omega)]; omega
        have HN := Lib.hid (show addK (Uf ++ List.replicate D 0) s Ut (k + 1) = (addK (Uf ++ List.replicate D 0) s Ut k).set (s + k) z by rw [addK_step, hz, hx, hy]; rfl)
        obtain ⟨j, hj⟩ : ∃ j, j = s + k := ⟨_, rfl⟩
        rw [← hj] at r0 r1 g9 HN
        have hjL : j < L1 := by omega
        have hji : (j : Int) < (L1 : Int) := by omega
        clear hy hx hz hj
        have hsep : ¬ gs = g2 := fun e => V.out.sep 1 _ _ _ (by simp only [List.length_cons]; omega) rfl (row_in (pre := box 60 gb [.int .i64 lt, .slice (some ⟨bt, 0, none⟩) Lt vtc] :: spr gs N lo (vs.set f (some ⟨g2, 0, none⟩, cap)) (U.set f (addK (Uf ++ List.replicate D 0) s Ut k)) :: pre) HC1.out HR.out) g2 (by rw [← e]; rfl) rfl
        have hSe : Keep [(⟨gs, f * 2 + 1, none⟩, .slice (some ⟨g2, 0, none⟩) L1 cap)] wi := List.forall_mem_cons.2 ⟨⟨y1, y3⟩, fun _ h => by simp at h⟩
        go_upto_region 10 with fail
        refine wp_region_held_drew (S := Keep [(⟨gs, f * 2 + 1, none⟩, .slice (some ⟨g2, 0, none⟩) L1 cap)]) (by kernel_rfl) hSe.drew (fun hHeld => ?_)
        refine tk 0 ?_ rfl ?_ ?_; rotate_left; focus (intro w hSw; clear hSw; go_simp; try (with_reducible rfl))
        try simp only [Act.put, sA, sZ, sS]
        refine tk 1 ?_ rfl ?_ ?_; rotate_left; focus (intro w hSw; clear hSw; go_simp; try (with_reducible rfl))
        try simp only [Act.put, sA, sZ, sS]
        refine tk 2 ?_ rfl ?_ ?_; rotate_left; focus (intro w hSw; clear hSw; go_simp; try (with_reducible rfl))
        try simp only [Act.put, sA, sZ, sS]
        refine tk 3 ?_ rfl ?_ ?_; rotate_left
        · intro wl hSw
          have hSw : Keep _ wl := hSw
          have k0 := (hSw _ (.head _)).1
          dsimp only at k0
          clear hSw
          go_simp
          try (with_reducible rfl)
        try simp only [Act.put, sA, sZ, sS]
        refine tk 4 ?_ rfl ?_ ?_; rotate_left; focus (intro w hSw; clear hSw; go_simp; try (with_reducible rfl))
        try simp only [Act.put, sA, sZ, sS]
        refine tk 5 ?_ rfl ?_ ?_; rotate_left; focus (intro w hSw; clear hSw; go_simp; try (with_reducible rfl))
        try simp only [Act.put, sA, sZ, sS]
        refine tk 6 ?_ rfl ?_ ?_; rotate_left; focus (intro w hSw; clear hSw; go_simp; try (with_reducible rfl))
        try simp only [Act.put, sA, sZ, sS]
        refine tk 7 ?_ rfl ?_ ?_; rotate_left; focus (intro w hSw; clear hSw; go_simp; try (with_reducible rfl))
        try simp only [Act.put, sA, sZ, sS]
        refine tk 8 ?_ rfl ?_ ?_; rotate_left; focus (intro w hSw; clear hSw; go_simp; try (with_reducible rfl))
        try simp only [Act.put, sA, sZ, sS]
        refine tk 9 ?_ rfl ?_ ?_; rotate_left; focus (intro w hSw; clear hSw; go_simp; try (with_reducible rfl))
        try simp only [Act.put, sA, sZ, sS]
        refine tk 10 ?_ rfl ?_ ?_; rotate_left
        · intro wl hSw
          have hSw : Keep _ wl := hSw
          have k0 := (hSw _ (.head _)).1
          dsimp only at k0
          clear hSw
          go_simp
          try (with_reducible rfl)
        try simp only [Act.put, sA, sZ, sS]
        refine tk 11 ?_ rfl ?_ ?_; rotate_left; focus (intro w hSw; clear hSw; go_simp; try (with_reducible rfl))
        try simp only [Act.put, sA, sZ, sS]
        refine tk 12 ?_ rfl ?_ ?_; rotate_left; focus (intro w hSw; clear hSw; go_simp; try (with_reducible rfl))
        try simp only [Act.put, sA, sZ, sS]
        refine tk 13 ?_ rfl ?_ ?_; rotate_left; focus (intro w hSw; clear hSw; go_simp; try (with_reducible rfl))
        try simp only [Act.put, sA, sZ, sS]
        refine tk 14 ?_ rfl ?_ ?_; rotate_left; focus (intro w hSw; clear hSw; go_simp; try (with_reducible rfl))
        try simp only [Act.put, sA, sZ, sS]
        refine tk 16 ?_ rfl ?_ ?_; rotate_left; focus (intro w hSw; clear hSw; go_simp; try (with_reducible rfl))
        try simp only [Act.put, sA, sZ, sS]
        refine wpAnyH_ready (rs := [15]) (by kernel_rfl) (by simp) ?_
        refine AllReadyH.cons (List.getElem?_toArray.trans rfl) (fun K hK => ?_) AllReadyH.nil
        have r0' := ((bdrew wi).cell (p := ⟨g2, j, none⟩) r2).trans r0
        go_simp
        refine hK.out _ _ hHeld (fun hHeld => ?_)
        clear hK K
        try simp only [Act.put, sA, sZ, sS]
        refine tk 17 ?_ rfl ?_ ?_; rotate_left; focus (intro w hSw; clear hSw; go_simp; try (with_reducible rfl))
        try simp only [Act.put, sA, sZ, sS]
        refine tk 18 ?_ rfl ?_ ?_; rotate_left; focus (intro w hSw; clear hSw; go_simp; try (with_reducible rfl))
        try simp only [Act.put, sA, sZ, sS]
        refine tk 19 ?_ rfl ?_ ?_; rotate_left; focus (intro w hSw; clear hSw; go_simp; try (with_reducible rfl))
        try simp only [Act.put, sA, sZ, sS]
        refine wpAnyH_ready (rs := [20]) (by kernel_rfl) (by simp) ?_
        refine AllReadyH.cons (List.getElem?_toArray.trans rfl) (fun K hK => ?_) AllReadyH.nil
        have r0' := ((bdrew wi).cell (p := ⟨g2, j, none⟩) r2).trans r0
        have r1' : wi.drew.frozen? ⟨g2, j, none⟩ = false := r1
        have r2' : g2 < wi.drew.heap.size := r2
        go_simp
        refine hK.out _ _ (hHeld.set _ _ _ (List.forall_mem_cons.2 ⟨hsep, fun _ h => by simp at h⟩)) (fun hHeld => ?_)
        clear hK K
        try simp only [Act.put, sA, sZ, sS]
        refine wpAnyH_done (by kernel_rfl) ?_ _
        have V5 := Lib.hid (show Hp W ((box 60 gb [.int .i64 lt, .slice (some ⟨bt, 0, none⟩) Lt vtc] :: spr gs N lo (vs.set f (some ⟨g2, 0, none⟩, cap)) (U.set f (addK (Uf ++ List.replicate D 0) s Ut (k + 1))) :: pre) ++ urows (vs.set f (some ⟨g2, 0, none⟩, cap)) (U.set f (addK (Uf ++ List.replicate D 0) s Ut (k + 1)))) (wi.drew.setCell ⟨g2, j, none⟩ (.int .u64 z)) by
          have h := (V.out.go (bdrew wi)).urow_store HC1.out HR.out j z
          rw [List.set_set, ← HN.out] at h
          have e : spr gs N lo (vs.set f (some ⟨g2, 0, none⟩, cap)) (U.set f (addK (Uf ++ List.replicate D 0) s Ut (k + 1))) = spr gs N lo (vs.set f (some ⟨g2, 0, none⟩, cap)) (U.set f (addK (Uf ++ List.replicate D 0) s Ut k)) := by
            have h2 := spr_len (g := gs) (N := N) (lo := lo) (vs := vs.set f (some ⟨g2, 0, none⟩, cap)) (row2 := addK (Uf ++ List.replicate D 0) s Ut (k + 1)) HR.out (by rw [addK_len, addK_len])
            rwa [List.set_set] at h2
          rw [e]; exact h)
        clear hHeld hSe r0 r1 r2 y1 y2 y3 z0 z9 V
        go_wp2_with fail
        go_roundw
        case rel => exact ⟨k + 1, by go_num, by omega, V5.out, KOk.out.trans ((KeepsOthers.drew _).trans (KeepsOthers.setCell _ _ _))⟩
        case measure => simp [intOf]; omega
    · have hLf2 : s + K ≤ Lf := by have := HDD.out; omega
      have HUE := Lib.hid (show Uf ++ List.replicate (s + K - Lf) 0 = Uf by rw [show s + K - Lf = 0 by omega, List.replicate_zero, List.append_nil])
      obtain ⟨vfA, cap⟩ := vf
      obtain ⟨g2, hg2⟩ := V0.out.head (row_in (pre := box 60 gb [.int .i64 lt, .slice (some ⟨bt, 0, none⟩) Lt vtc] :: spr gs N lo vs U :: pre) HC.out HE.out) (A := vfA) (c := cap) rfl (by show 0 < Uf.length; rw [← HLf.out]; omega)
      subst hg2
      have V3 := Lib.hid (show Hp W ((box 60 gb [.int .i64 lt, .slice (some ⟨bt, 0, none⟩) Lt vtc] :: spr gs N lo (vs.set f (some ⟨g2, 0, none⟩, cap)) (U.set f (addK Uf s Ut 0)) :: pre) ++ urows (vs.set f (some ⟨g2, 0, none⟩, cap)) (U.set f (addK Uf s Ut 0))) wa by
        rw [set_same HC.out, show addK Uf s Ut 0 = Uf from rfl, set_same HE.out]
        exact V0.out)
      have KO3 := Lib.hid KO0.out
      go_upto_region 7 with fail
      clear x0 x1 y0 y1 y2 y3 b0 V0
      obtain ⟨L1, hL1⟩ : ∃ L, L = (Uf).length := ⟨_, rfl⟩
      have hL1s : s + K ≤ L1 := by rw [hL1]; rw [← HLf.out]; omega
      have hL1m : L1 ≤ 240000 := by rw [hL1]; rw [← HLf.out]; omega
      have HL1 := Lib.hid hL1
      clear hL1
      have HF1 := Lib.hid (show (U.set f (Uf))[t]? = some Ut by rw [List.getElem?_set, if_neg hne]; exact HF.out)
      have HD1 := Lib.hid (show (vs.set f (some ⟨g2, 0, none⟩, cap))[t]? = some (some ⟨bt, 0, none⟩, vtc) by rw [List.getElem?_set, if_neg hne]; exact HD.out)
      have HC1 := Lib.hid (show (vs.set f (some ⟨g2, 0, none⟩, cap))[f]? = some (some ⟨g2, 0, none⟩, cap) by rw [List.getElem?_set, if_pos rfl, if_pos (List.getElem?_eq_some_iff.1 HC.out).1])
      obtain ⟨x1, _, _⟩ := V3.out.box_at (i := 0) (j := 1) rfl rfl
      go_wp2_with fail
      clear x1
      go_loopw [60] (fun cv wr => ∃ k : Nat, cv = .int .i64 (k : Int) ∧ k ≤ K ∧ Hp W ((box 60 gb [.int .i64 lt, .slice (some ⟨bt, 0, none⟩) Lt vtc] :: spr gs N lo (vs.set f (some ⟨g2, 0, none⟩, cap)) (U.set f (addK (Uf) s Ut k)) :: pre) ++ urows (vs.set f (some ⟨g2, 0, none⟩, cap)) (U.set f (addK (Uf) s Ut k))) wr ∧ KeepsOthers w wr) (fun cv _ => K - (intOf cv).toNat)
      case atStart => exact ⟨0, rfl, Nat.zero_le _, V3.out, KO3.out⟩
      case round =>
        clear V3
        obtain ⟨k, rfl, hkK, hV, hko⟩ := hrel
        have KOk := Lib.hid hko
        clear hko
        obtain ⟨wi, rfl⟩ : ∃ wi : World, wi = wr := ⟨_, rfl⟩
        have V := Lib.hid hV
        clear hV
        by_cases hlt : k < K
        case neg =>
          obtain rfl : k = K := by omega
          go_wp2_with fail
          refine bodyPost_end (results_none rfl _ _ _) rfl ⟨rfl, KOk.out, (some ⟨g2, 0, none⟩, cap), ?_⟩
          rw [HAU.out, HUE.out]
          exact V.out.tail
        have HR := Lib.hid (show (U.set f (addK (Uf) s Ut k))[f]? = some (addK (Uf) s Ut k) by rw [List.getElem?_set, if_pos rfl, if_pos (List.getElem?_eq_some_iff.1 HE.out).1])
        have HFk := Lib.hid (show (U.set f (addK (Uf) s Ut k))[t]? = some Ut by rw [List.getElem?_set, if_neg hne]; exact HF.out)
        have HRL := Lib.hid (show (addK (Uf) s Ut k).length = L1 by rw [addK_len]; exact HL1.out.symm)
        obtain ⟨z0, _, z9⟩ := V.out.unum_at (row_in (pre := box 60 gb [.int .i64 lt, .slice (some ⟨bt, 0, none⟩) Lt vtc] :: spr gs N lo (vs.set f (some ⟨g2, 0, none⟩, cap)) (U.set f (addK (Uf) s Ut k)) :: pre) HD1.out HFk.out) (j := k) (by rw [← HLt.out]; omega)
        obtain ⟨_, y1, _, y2, y3⟩ := V.out.spr_at (i := 1) rfl HA.out HC1.out HR.out
        rw [HRL.out] at y1
        obtain ⟨r0, r1, r2⟩ := V.out.unum_at (row_in (pre := box 60 gb [.int .i64 lt, .slice (some ⟨bt, 0, none⟩) Lt vtc] :: spr gs N lo (vs.set f (some ⟨g2, 0, none⟩, cap)) (U.set f (addK (Uf) s Ut k)) :: pre) HC1.out HR.out) (j := s + k) (by rw [HRL.out]; omega)
        obtain ⟨y, hy⟩ : ∃ y, y = Ut.getD k 0 := ⟨_, rfl⟩
        obtain ⟨x, hx⟩ : ∃ x, x = (addK (Uf) s Ut k).getD (s + k) 0 := ⟨_, rfl⟩
        rw [← hy] at z0
        rw [← hx] at r0
        have hyb := HST.out.vals k
        rw [← hy] at hyb
        have hxb : 0 ≤ x ∧ x ≤ bigC := by
          have h1 := addK_get (Uf) s Ut k (s + k) (by rw [← HL1.out]; omega)
          rw [if_neg (by omega)] at h1
          rw [hx, h1]
          exact HSF.out.vals _
        unfold bigC at hyb hxb
        obtain ⟨z, hz⟩ : ∃ z, z = min (x + y) 4611686018427387905 := ⟨_, rfl⟩
        have gz : min (x + y) 4611686018427387905 = z := hz.symm
        have g8 : IntKind.u64.wrap (x + y) = x + y := IntWalk.u64_in _ (by omega)
        have g9 : IntKind.i64.wrap ((s : Int) + (k : Int)) = ((s + k : Nat) : Int) := by rw [IntWalk.i64_in _ (by omega)]; omega
        have HN := Lib.hid (show addK (Uf) s Ut (k + 1) = (addK (Uf) s Ut k).set (s + k) z by rw [addK_step, hz, hx, hy]; rfl)
        obtain ⟨j, hj⟩ : ∃ j, j = s + k := ⟨_, rfl⟩
        rw [← hj] at r0 r1 g9 HN
        have hjL : j < L1 := by omega
        have hji : (j : Int) < (L1 : Int) := by omega
        clear hy hx hz hj
        have hsep : ¬ gs = g2 := fun e => V.out.sep 1 _ _ _ (by simp only [List.length_cons]; omega) rfl (row_in (pre := box 60 gb [.int .i64 lt, .slice (some ⟨bt, 0, none⟩) Lt vtc] :: spr gs N lo (vs.set f (some ⟨g2, 0, none⟩, cap)) (U.set f (addK (Uf) s Ut k)) :: pre) HC1.out HR.out) g2 (by rw [← e]; rfl) rfl
        have hSe : Keep [(⟨gs, f * 2 + 1, none⟩, .slice (some ⟨g2, 0, none⟩) L1 cap)] wi := List.forall_mem_cons.2 ⟨⟨y1, y3⟩, fun _ h => by simp at h⟩
        go_upto_region 10 with fail
        refine wp_region_held_drew (S := Keep [(⟨gs, f * 2 + 1, none⟩, .slice (some ⟨g2, 0, none⟩) L1 cap)]) (by kernel_rfl) hSe.drew (fun hHeld => ?_)
        refine tk 0 ?_ rfl ?_ ?_; rotate_left; focus (intro w hSw; clear hSw; go_simp; try (with_reducible rfl))
        try simp only [Act.put, sA, sZ, sS]
        refine tk 1 ?_ rfl ?_ ?_; rotate_left; focus (intro w hSw; clear hSw; go_simp; try (with_reducible rfl))
        try simp only [Act.put, sA, sZ, sS]
        refine tk 2 ?_ rfl ?_ ?_; rotate_left; focus (intro w hSw; clear hSw; go_simp; try (with_reducible rfl))
        try simp only [Act.put, sA, sZ, sS]
        refine tk 3 ?_ rfl ?_ ?_; rotate_left
        · intro wl hSw
          have hSw : Keep _ wl := hSw
          have k0 := (hSw _ (.head _)).1
          dsimp only at k0
          clear hSw
          go_simp
          try (with_reducible rfl)
        try simp only [Act.put, sA, sZ, sS]
        refine tk 4 ?_ rfl ?_ ?_; rotate_left; focus (intro w hSw; clear hSw; go_simp; try (with_reducible rfl))
        try simp only [Act.put, sA, sZ, sS]
        refine tk 5 ?_ rfl ?_ ?_; rotate_left; focus (intro w hSw; clear hSw; go_simp; try (with_reducible rfl))
        try simp only [Act.put, sA, sZ, sS]
        refine tk 6 ?_ rfl ?_ ?_; rotate_left; focus (intro w hSw; clear hSw; go_simp; try (with_reducible rfl))
        try simp only [Act.put, sA, sZ, sS]
        refine tk 7 ?_ rfl ?_ ?_; rotate_left; focus (intro w hSw; clear hSw; go_simp; try (with_reducible rfl))
        try simp only [Act.put, sA, sZ, sS]
        refine tk 8 ?_ rfl ?_ ?_; rotate_left; focus (intro w hSw; clear hSw; go_simp; try (with_reducible rfl))
        try simp only [Act.put, sA, sZ, sS]
        refine tk 9 ?_ rfl ?_ ?_; rotate_left; focus (intro w hSw; clear hSw; go_simp; try (with_reducible rfl))
        try simp only [Act.put, sA, sZ, sS]
        refine tk 10 ?_ rfl ?_ ?_; rotate_left
        · intro wl hSw
          have hSw : Keep _ wl := hSw
          have k0 := (hSw _ (.head _)).1
          dsimp only at k0
          clear hSw
          go_simp
          try (with_reducible rfl)
        try simp only [Act.put, sA, sZ, sS]
        refine tk 11 ?_ rfl ?_ ?_; rotate_left; focus (intro w hSw; clear hSw; go_simp; try (with_reducible rfl))
        try simp only [Act.put, sA, sZ, sS]
        refine tk 12 ?_ rfl ?_ ?_; rotate_left; focus (intro w hSw; clear hSw; go_simp; try (with_reducible rfl))
        try simp only [Act.put, sA, sZ, sS]
        refine tk 13 ?_ rfl ?_ ?_; rotate_left; focus (intro w hSw; clear hSw; go_simp; try (with_reducible rfl))
        try simp only [Act.put, sA, sZ, sS]
        refine tk 14 ?_ rfl ?_ ?_; rotate_left; focus (intro w hSw; clear hSw; go_simp; try (with_reducible rfl))
        try simp only [Act.put, sA, sZ, sS]
        refine tk 16 ?_ rfl ?_ ?_; rotate_left; focus (intro w hSw; clear hSw; go_simp; try (with_reducible rfl))
        try simp only [Act.put, sA, sZ, sS]
        refine wpAnyH_ready (rs := [15]) (by kernel_rfl) (by simp) ?_
        refine AllReadyH.cons (List.getElem?_toArray.trans rfl) (fun K hK => ?_) AllReadyH.nil
        have r0' := ((bdrew wi).cell (p := ⟨g2, j, none⟩) r2).trans r0
        go_simp
        refine hK.out _ _ hHeld (fun hHeld => ?_)
        clear hK K
        try simp only [Act.put, sA, sZ, sS]
        refine tk 17 ?_ rfl ?_ ?_; rotate_left; focus (intro w hSw; clear hSw; go_simp; try (with_reducible rfl))
        try simp only [Act.put, sA, sZ, sS]
        refine tk 18 ?_ rfl ?_ ?_; rotate_left; focus (intro w hSw; clear hSw; go_simp; try (with_reducible rfl))
        try simp only [Act.put, sA, sZ, sS]
        refine tk 19 ?_ rfl ?_ ?_; rotate_left; focus (intro w hSw; clear hSw; go_simp; try (with_reducible rfl))
        try simp only [Act.put, sA, sZ, sS]
        refine wpAnyH_ready (rs := [20]) (by kernel_rfl) (by simp) ?_
        refine AllReadyH.cons (List.getElem?_toArray.trans rfl) (fun K hK => ?_) AllReadyH.nil
        have r0' := ((bdrew wi).cell (p := ⟨g2, j, none⟩) r2).trans r0
        have r1' : wi.drew.frozen? ⟨g2, j, none⟩ = false := r1
        have r2' : g2 < wi.drew.heap.size := r2
        go_simp
        refine hK.out _ _ (hHeld.set _ _ _ (List.forall_mem_cons.2 ⟨hsep, fun _ h => by simp at h⟩)) (fun hHeld => ?_)
        clear hK K
        try simp only [Act.put, sA, sZ, sS]
        refine wpAnyH_done (by kernel_rfl) ?_ _
        have V5 := Lib.hid (show Hp W ((box 60 gb [.int .i64 lt, .slice (some ⟨bt, 0, none⟩) Lt vtc] :: spr gs N lo (vs.set f (some ⟨g2, 0, none⟩, cap)) (U.set f (addK (Uf) s Ut (k + 1))) :: pre) ++ urows (vs.set f (some ⟨g2, 0, none⟩, cap)) (U.set f (addK (Uf) s Ut (k + 1)))) (wi.drew.setCell ⟨g2, j, none⟩ (.int .u64 z)) by
          have h := (V.out.go (bdrew wi)).urow_store HC1.out HR.out j z
          rw [List.set_set, ← HN.out] at h
          have e : spr gs N lo (vs.set f (some ⟨g2, 0, none⟩, cap)) (U.set f (addK (Uf) s Ut (k + 1))) = spr gs N lo (vs.set f (some ⟨g2, 0, none⟩, cap)) (U.set f (addK (Uf) s Ut k)) := by
            have h2 := spr_len (g := gs) (N := N) (lo := lo) (vs := vs.set f (some ⟨g2, 0, none⟩, cap)) (row2 := addK (Uf) s Ut (k + 1)) HR.out (by rw [addK_len, addK_len])
            rwa [List.set_set] at h2
          rw [e]; exact h)
        clear hHeld hSe r0 r1 r2 y1 y2 y3 z0 z9 V
        go_wp2_with fail
        go_roundw
        case rel => exact ⟨k + 1, by go_num, by omega, V5.out, KOk.out.trans ((KeepsOthers.drew _).trans (KeepsOthers.setCell _ _ _))⟩
        case measure => simp [intOf]; omega
end Go.Proofs.Ytgdfjblfpeedjaa
