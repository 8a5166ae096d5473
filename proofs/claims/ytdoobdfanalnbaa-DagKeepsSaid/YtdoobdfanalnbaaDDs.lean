/- Contract of the law: the costs of all paths, sorted. -/
import Derived.Test.YtdoobdfanalnbaaDAj
import Derived.Test.YtdoobdfanalnbaaDDd
import Derived.Test.YtdoobdfanalnbaaDDe
import Derived.Test.YtdoobdfanalnbaaDCd
import Derived.Test.YtdoobdfanalnbaaDCn
import Derived.Test.YtdoobdfanalnbaaDCo
import Derived.Test.YtdoobdfanalnbaaDBd
import Derived.Test.YtdoobdfanalnbaaShelf
import Derived.Sort.OwnSortedInts
import Derived.Shelf.Slices.In.SortNone
namespace Go.Proofs.Ytdoobdfanalnbaa
open Go.RowKit
set_option linter.unusedVariables false
set_option linter.unusedSimpArgs false
set_option maxRecDepth 100000

theorem sort_nums {W w : World} {l : List Itm} {i : Nat} {A : Option Addr} {n c : Nat} {L : List Int} (h : Hp W l w) (hi : l[i]? = some (nums A n c L)) (hn : n ≤ 1000000000000) :
    Calls Try.prog 69 #[.slice A n c] w fun e w' => e = .returned (.tuple #[]) ∧ Hp W (l.set i (nums A n c (srt L))) w' := by
  have hL := h.num_len hi
  have ho := h.own i _ hi
  rcases ho.2 with ⟨e, hn0⟩ | ⟨g, cap, cur, e, hg, hb, h1, h2, h3, h4⟩
  · have hn0 : n = 0 := hn0
    have e : Value.slice A n c = .slice none 0 0 := e
    injection e with e1 e2 e3
    subst hn0 e1 e3
    have hLn : L = [] := List.eq_nil_of_length_eq_zero hL
    subst hLn
    refine (Any.slices_Sort_int_none Try.lays189 none 0 w).mono ?_
    rintro e w' ⟨rfl, rfl⟩
    refine ⟨rfl, ?_⟩
    rw [show srt [] = [] from List.eq_nil_of_length_eq_zero (by rw [srt_len]; rfl)]
    rw [show l.set i (nums none 0 0 []) = l from by
      apply List.ext_getElem?
      intro j
      rw [List.getElem?_set]
      split
      · rename_i e; subst e
        rw [if_pos (List.getElem?_eq_some_iff.1 hi).1, hi]
      · rfl]
    exact h
  · have e : Value.slice A n c = .slice (some ⟨g, 0, none⟩) n cap := e
    injection e with e1 e2 e3
    subst e1 e3
    have hb : w.heap[g]? = some (.cells cur 3 (0, 0)) := hb
    have h1 : n ≤ c := h1
    have h3 : cur.size = c * 1 := h3
    have h4 : cur.toList.take (n * 1) = ints L := h4
    have hgl : g < w.heap.size := (Array.getElem?_eq_some_iff.1 hb).1
    have := Try.slices_Sort_int g 0 c L w (holds_of_blockI hb (by rw [hL]; rw [Nat.mul_one] at h4; exact h4)) hgl (by omega)
    rw [hL] at this
    refine this.mono ?_
    rintro e w' ⟨rfl, q, os, rfl⟩
    refine ⟨rfl, ?_⟩
    have hls : (srt L).length = L.length := srt_len L
    refine h.upd hi (nums (some ⟨g, 0, none⟩) n c (srt L)) (by show w.grownBy _ (some g); exact grownBy_sortedI _) ?_ (fun k hk => .inl hk)
    have := ownsRow_sortedI (n := q) (os := os) (ss := L) (ts := srt L) hls hg hb (by rw [hL]; exact h1) h2 h3
    rw [hL] at this
    exact this
theorem pth_some {g : Gr} {k : Nat} {r : List Int} (h : g.pth.1[k]? = some r) : g.Ok ∧ walkP g.rs 0 r = some (g.n - 1) := by
  unfold Gr.pth at h
  split at h
  · simp at h
  · rename_i hv
    have hO := Gr.ok (Classical.not_not.1 hv)
    split at h
    · simp at h
    · exact ⟨hO, (pv_mem hO).1 (List.mem_of_getElem? h)⟩
set_option maxHeartbeats 32000000 in
theorem costs_any (g : Gr) (A : Option Addr) (n c : Nat) (w : World) (h : GrIn w A n c g) :
    Calls Try.prog 25 #[gval g A n c] w (NumsP w g.co) := by
  have H := Lib.hid h
  clear h
  obtain ⟨wz, hwz⟩ : ∃ z, z = w.alloc (.cells #[.int .i64 g.n, .slice A n c] 24) := ⟨_, rfl⟩
  have HZ := Lib.hid hwz
  obtain ⟨gb, hgb⟩ : ∃ gb, gb = w.heap.size := ⟨_, rfl⟩
  have V := Lib.hid (show Hp w [gbox gb g A n c] wz by rw [hwz, hgb]; exact (Hp.start w).gnew g A n c)
  clear hwz
  go_enter Try.func25, Try.ntmps25
  go_upto_region 1 with fail
  rw [← HZ.out, ← hgb]
  clear HZ hgb
  obtain ⟨r0, r1, r9⟩ := V.out.gb (i := 0) rfl
  go_wp2_with fail
  refine (rpaths_any g A n c _ (H.out.below V.out.below)).mono ?_
  rintro e w3 ⟨Q, qn, qc, us, rfl, hqn, hus, hp3⟩
  have R3 := Lib.hid (show RowsIn w3 Q g.pth.1 from rowsG_in (l := [rvals Q qn qc us g.pth.1]) (i := 0) hp3 rfl (by rw [hus, hqn]) pth_rows)
  have V3 := Lib.hid (V.out.go hp3.below)
  have HQN := Lib.hid hqn
  have hqb : qn ≤ 2000 := by rw [hqn]; exact pth_len g
  clear hp3 hqn hus r0 r1 r9 V
  obtain ⟨pl, hpl⟩ : ∃ pl, pl = g.pth.1 := ⟨_, rfl⟩
  rw [← hpl] at R3 HQN
  have HPL := Lib.hid hpl
  clear hpl
  go_wp2_with fail
  go_loopw [15, 5] (fun cv sv wr => ∃ (k : Nat) (B : Option Addr) (d : Nat), cv = .int .i64 (k : Int) ∧ sv = .slice B k d ∧ k ≤ qn ∧ Hp w3 [nums B k d ((pl.take k).map (sumP g.rs))] wr) (fun cv _ _ => qn - (intOf cv).toNat)
  case atStart => exact ⟨0, none, 0, rfl, rfl, Nat.zero_le _, (Hp.start w3).nil_row _ rfl rfl rfl⟩
  case round =>
    obtain ⟨k, B, d, rfl, rfl, hkn, hV⟩ := hrel
    obtain ⟨wi, rfl⟩ : ∃ wi : World, wi = wr := ⟨_, rfl⟩
    have V := Lib.hid hV
    clear hV
    by_cases hlt : k < qn
    case neg =>
      obtain rfl : qn = k := by omega
      have V4 := Lib.hid (show Hp w3 [nums B qn d (pl.map (sumP g.rs))] wi by have := V.out; rwa [List.take_of_length_le (by rw [← HQN.out]; exact Nat.le_refl _)] at this)
      go_wp2_with fail
      refine (sort_nums V4.out (i := 0) rfl (by omega)).mono ?_
      rintro e w5 ⟨rfl, hp5⟩
      have V5 := Lib.hid (show Hp w [nums B qn d g.co] w5 by
        have h1 := (V3.out.join hp5).front (l1 := [nums B qn d (srt (pl.map (sumP g.rs)))])
        rw [HPL.out] at h1
        exact h1)
      clear hp5 V4
      go_wp2_with fail
      go_ret
      exact ⟨B, qn, d, rfl, V5.out.num_len (i := 0) rfl, V5.out⟩
    obtain ⟨row, hrow⟩ : ∃ row, pl[k]? = some row := ⟨_, List.getElem?_eq_getElem (by rw [← HQN.out]; exact hlt)⟩
    have HROW := Lib.hid hrow
    obtain ⟨HO0, hw0⟩ := pth_some (g := g) (by rw [← HPL.out]; exact hrow)
    have HO := Lib.hid HO0
    have HW0 := Lib.hid hw0
    obtain ⟨bq, oq, Bp, dp, hQ, hbq, hc, _, hlen, hci⟩ := (R3.out.below V.out.below).row hrow
    subst hQ
    obtain ⟨rl, hrl⟩ : ∃ rl, rl = row.length := ⟨_, rfl⟩
    rw [← hrl] at hc hlen
    have HRL := Lib.hid hrl.symm
    have HCI := Lib.hid hci
    clear hrow HO0 hw0 hrl hci
    have V6 := Lib.hid (V3.out.go V.out.below)
    obtain ⟨r0, r1, r9⟩ := V6.out.gb (i := 0) rfl
    go_wp2_with fail
    refine (rsum_any g A n c Bp rl dp row _ (H.out.below V6.out.below) HRL.out (by omega) HCI.out HO.out ⟨_, HW0.out⟩).mono ?_
    rintro e w4 ⟨rfl, b4⟩
    have V4 := Lib.hid (V.out.go b4)
    obtain ⟨s, hs⟩ : ∃ s, s = sumP g.rs row := ⟨_, rfl⟩
    rw [← hs]
    have HST := Lib.hid (show (pl.take (k + 1)).map (sumP g.rs) = (pl.take k).map (sumP g.rs) ++ [s] by rw [List.take_add_one, HROW.out, List.map_append, hs]; rfl)
    clear b4 V6 V r0 r1 r9 hc hbq hs
    obtain ⟨wy, hwy⟩ : ∃ z, z = w4.alloc (.cells #[.int .i64 s] 3) := ⟨_, rfl⟩
    have V5 := Lib.hid (show Hp w3 [box 3 w4.heap.size [.int .i64 s], nums B k d ((pl.take k).map (sumP g.rs))] wy by rw [hwy]; exact V4.out.box_new _ _)
    have y0 := (V5.out.box_at (i := 0) (j := 0) rfl rfl).1
    obtain ⟨g5, cap5, w5, hr5, hv5, _⟩ := run_app_num V5.out (i := 1) rfl 27 s y0 (by omega)
    have V7 := Lib.hid (show Hp w3 [nums (some ⟨g5, 0, none⟩) (k + 1) cap5 ((pl.take (k + 1)).map (sumP g.rs))] w5 by rw [HST.out]; exact hv5.tail)
    have HY := Lib.hid hwy
    have HR5 := Lib.hid hr5
    clear hwy y0 hv5 hr5 V5
    go_wp2_with (at_builtin; rw [← HY.out]; refine wpList_app_run rfl (.tmp 19) (.tmp 23) 27 rfl HR5.out rfl rfl ?_)
    go_roundw
    case rel => exact ⟨k + 1, some ⟨g5, 0, none⟩, cap5, by go_num, rfl, by omega, V7.out⟩
    case measure => simp [intOf]; omega
end Go.Proofs.Ytdoobdfanalnbaa
