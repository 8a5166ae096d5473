/- Contract of the program: which states lead to one that accepts. -/
import Derived.Test.YtdkdfmflghbhiaaQg
import Derived.Test.YtdkdfmflghbhiaaAMj
import Derived.Lib.SliceRun
import Derived.WalkSmall
import Derived.Deep.LoopGhost
namespace Go.Proofs.Ytdkdfmflghbhiaa
open Go.RowKit
set_option linter.unusedVariables false
set_option linter.unusedSimpArgs false
set_option maxRecDepth 100000

theorem bools_one (L : List Bool) : ∀ u ∈ bools L, u.oneCell' = true := by
  intro u hu
  obtain ⟨x, _, rfl⟩ := List.mem_map.1 hu
  rfl
set_option maxHeartbeats 4000000 in
theorem clone_flags (L : List Bool) (A : Option Addr) (n c : Nat) (W w : World) (l : List Itm) (h : Hp W l w) (hn : L.length = n) (hb : n ≤ 1000000000) (hA : CellsIn w A (bools L)) :
    Calls Try.prog 25 #[.slice A n c] w fun e w' => ∃ C d, e = .returned (.slice C n d) ∧ Hp W (flags C n d L :: l) w' ∧ Below w.heap.size w w' := by
  obtain ⟨i0, hi, hz0, hz1, hz2⟩ := info_parts bool_info
  have qn : ∀ (w : World) (a : Option Addr) (n c n' c' : Nat), (binOp .eql 23 (.slice a n c) (.slice none n' c')).run Try.prog w = .ok (.bool a.isNone) w := fun w a n c n' c' => Lib.run_eql_slice_nil w _ _ a n c n' c' Try.underlying23
  have HL := Lib.hid hn
  have HA := Lib.hid hA
  have HH := Lib.hid h
  clear hA hn h
  cases A with
  | none =>
    have hn0 : n = 0 := by
      rcases Nat.eq_zero_or_pos n with h | h
      · exact h
      · obtain ⟨b, off, e, _⟩ := HA.out (by have := HL.out; rw [bools_len]; omega)
        cases e
    subst hn0
    have hL0 : L = [] := List.eq_nil_of_length_eq_zero HL.out
    go_enter Try.func25, Try.ntmps25
    go_wp2
    go_ret
    exact ⟨none, 0, rfl, by rw [hL0]; exact HH.out.nil_row _ rfl rfl rfl, Below.refl _ _⟩
  | some a =>
    have HR := Lib.hid (show ∀ (i : Nat) (u : Value), (bools L)[i]? = some u → (w.alloc (.cells #[] 4)).cell? (a.add i) = some u from fun i u hu => by
      have h0 : 0 < (bools L).length := by have := (List.getElem?_eq_some_iff.1 hu).1; omega
      obtain ⟨b, off, e, hlt, hc⟩ := HA.out h0
      injection e with e
      subst e
      rw [show (⟨b, off, none⟩ : Addr).add i = ⟨b, off + i, none⟩ from by unfold Addr.add; split <;> simp_all]
      rw [(bnew w (.cells #[] 4)).cell (p := ⟨b, off + i, none⟩) hlt]
      exact hc i u hu)
    go_enter Try.func25, Try.ntmps25
    go_wp2_with (at_builtin; refine wpList_append_own _ rfl _ _ 23 rfl w.heap.size 4 i0 _ 1 1 Try.underlying23 hi hz0 hz1 hz2 rfl (by decide) _ _ _ rfl (World.ownsRow_made w #[] 0 (Nat.le_refl _) (Nat.zero_le _) rfl) a n c (bools L) rfl (by rw [bools_len]; have := HL.out; omega) HR.out (bools_one L) (by unfold maxLen; omega) (by omega) (by simp) ?_)
    intro v' w1 hown hgrow hnil
    have HB := Lib.hid (((bnew w (.cells #[] 4))).grown hgrow (by simp) (by intro k hk; simp [Value.ownBlock] at hk; omega))
    have hown' : w1.ownsRow w.heap.size 4 1 v' n (bools L) := by simpa using hown
    have hv : ∃ C d, v' = .slice C n d := by
      rcases hown'.2 with ⟨e, h0⟩ | ⟨g, cap, cur, e, _⟩
      · exact ⟨none, 0, by rw [e, h0]⟩
      · exact ⟨_, _, e⟩
    obtain ⟨C, d, rfl⟩ := hv
    have HT := Lib.hid (show Hp W (flags C n d L :: l) w1 from HH.out.new (flags C n d L) HB.out (own_base hown' HH.out.below.size) (fun k hk => (hown'.lt k hk).1))
    clear hown hgrow hnil hown'
    go_wp2
    go_ret
    exact ⟨C, d, rfl, HT.out, HB.out⟩
theorem Hp.num_pop {W w : World} {l : List Itm} {i g n c : Nat} {L : List Int} {x : Int} (h : Hp W l w) (hi : l[i]? = some (nums (some ⟨g, 0, none⟩) (n + 1) c (L ++ [x]))) : Hp W (l.set i (nums (some ⟨g, 0, none⟩) n c L)) w := by
  have ho := h.own i _ hi
  have hl := h.num_len hi
  rw [List.length_append] at hl
  refine h.upd hi (nums (some ⟨g, 0, none⟩) n c L) ⟨rfl, rfl, rfl, Nat.le_refl _, fun k hk _ => rfl⟩ ?_ (fun k hk => .inl hk)
  refine ownsRow_pop (last := [.int .i64 x]) (by rw [show (nums (some ⟨g, 0, none⟩) n c L).xs = ints L from rfl, ints_len]; simp at hl; show L.length = n * 1; omega) ?_
  simpa [nums, ints] using ho
theorem ofNat_app (l : List Nat) (x : Nat) : (l ++ [x]).map Int.ofNat = l.map Int.ofNat ++ [(x : Int)] := by simp
theorem bad_int {A : Option Addr} {L : List Int} {w : World} (h : CellsIn w A (ints L)) {j : Nat} {x : Int} (hj : L[j]? = some x) : ∃ b off, A = some ⟨b, off, none⟩ ∧ b < w.heap.size ∧ w.cell? ⟨b, off + j, none⟩ = some (.int .i64 x) := by
  obtain ⟨b, off, e, h1, h2⟩ := h.int (List.getElem?_eq_some_iff.1 hj).1
  rw [List.getD_eq_getElem?_getD, hj] at h2
  exact ⟨b, off, e, h1, h2⟩
/-- The states from which some word leads to one that accepts. -/
def LivePost (nx : List Int) (k N : Nat) (ac : List Bool) (W : World) (e : Ending) (w' : World) : Prop :=
  ∃ C d lv, e = .returned (.slice C N d) ∧ Hp W [flags C N d lv] w' ∧ Sys N k (nxF nx k) (acF ac) (acF lv)
set_option maxHeartbeats 16000000 in
theorem live_any (nx : List Int) (k N : Nat) (I : Option Addr) (n c : Nat) (J : Option Addr) (m d : Nat) (first from' : List Int) (A0 : Option Addr) (c0 : Nat) (ac : List Bool) (W : World) (hS : SrcIn W nx k N I n c J m d first from') (hac : ac.length = N) (hA : CellsIn W A0 (bools ac)) :
    Calls Try.prog 60 #[.agg #[.int .i64 (k : Int), .slice I n c, .slice J m d], .slice A0 N c0] W (LivePost nx k N ac W) := by
  have hN := hS.few
  have HS := Lib.hid hS
  have HAC := Lib.hid hac
  have HA := Lib.hid hA
  obtain ⟨wz, hwz⟩ : ∃ z, z = W.alloc (.cells #[.int .i64 (k : Int), .slice I n c, .slice J m d] 90) := ⟨_, rfl⟩
  have V := Lib.hid (show Hp W [box 90 W.heap.size [.int .i64 (k : Int), .slice I n c, .slice J m d]] wz by
    have := (Hp.start W).box_new 90 [.int .i64 (k : Int), .slice I n c, .slice J m d]
    rw [hwz]; simpa using this)
  have HZ := Lib.hid hwz
  clear hwz hS hac hA
  go_enter Try.func60, Try.ntmps60
  go_upto_region 1 with fail
  rw [← HZ.out]
  go_wp2_with fail
  refine (clone_flags ac A0 N c0 W _ _ V.out HAC.out (by omega) (HA.out.below V.out.below)).mono ?_
  rintro e w2 ⟨C, d2, rfl, hv2, _⟩
  have V2 := Lib.hid hv2
  clear hv2 V HZ
  go_wp2_with fail
  have H1 := Lib.hid (show Hp W [nums none 0 0 ((accL ac 0).map Int.ofNat), flags C N d2 ac, box 90 W.heap.size [.int .i64 (k : Int), .slice I n c, .slice J m d]] w2 from V2.out.nil_row (nums none 0 0 []) rfl rfl rfl)
  clear V2
  go_loopw [6, 16] (fun ov cv wr => ∃ a : Nat, cv = .int .i64 (a : Int) ∧ a ≤ N ∧ ∃ A1 n1 c1, ov = .slice A1 n1 c1 ∧ Hp W [nums A1 n1 c1 ((accL ac a).map Int.ofNat), flags C N d2 ac, box 90 W.heap.size [.int .i64 (k : Int), .slice I n c, .slice J m d]] wr) (fun _ cv _ => N - (intOf cv).toNat)
  case atStart => exact ⟨0, rfl, Nat.zero_le _, none, 0, 0, rfl, H1.out⟩
  case round =>
    clear H1
    obtain ⟨a, rfl, haN, A1, n1, c1, rfl, hV⟩ := hrel
    obtain ⟨wi, rfl⟩ : ∃ wi : World, wi = wr := ⟨_, rfl⟩
    have V := Lib.hid hV
    clear hV
    by_cases hlt : a < N
    · obtain ⟨b, off, rfl, hb, hc⟩ := (HA.out.below V.out.below).bool (j := a) (by rw [HAC.out]; exact hlt)
      have hn1 : n1 ≤ 1010000 := by
        have h1 := V.out.num_len (i := 0) rfl
        have h2 := accL_le ac a
        rw [List.length_map] at h1
        omega
      cases hav : ac.getD a false with
      | false =>
        rw [hav] at hc
        have H2 := Lib.hid (show Hp W [nums A1 n1 c1 ((accL ac (a + 1)).map Int.ofNat), flags C N d2 ac, box 90 W.heap.size [.int .i64 (k : Int), .slice I n c, .slice J m d]] wi by rw [accL_succ, if_neg (by unfold acF; rw [hav]; simp)]; exact V.out)
        clear hav V
        go_wp2_with fail
        go_roundw
        case rel => exact ⟨a + 1, by go_num, by omega, _, _, _, rfl, H2.out⟩
        case measure => simp [intOf]; omega
      | true =>
        rw [hav] at hc
        obtain ⟨wy, hwy⟩ : ∃ z, z = wi.alloc (.cells #[.int .i64 (a : Int)] 3) := ⟨_, rfl⟩
        have V3 := Lib.hid (show Hp W (box 3 wi.heap.size [.int .i64 (a : Int)] :: [nums A1 n1 c1 ((accL ac a).map Int.ofNat), flags C N d2 ac, box 90 W.heap.size [.int .i64 (k : Int), .slice I n c, .slice J m d]]) wy by rw [hwy]; exact V.out.box_new 3 [.int .i64 (a : Int)])
        have y0 := (V3.out.box_at (i := 0) (j := 0) rfl rfl).1
        obtain ⟨g5, cap5, w5, hr5, hv5, hg5⟩ := run_app_num V3.out (i := 1) rfl 39 (a : Int) y0 (by omega)
        have H2 := Lib.hid (show Hp W [nums (some ⟨g5, 0, none⟩) (n1 + 1) cap5 ((accL ac (a + 1)).map Int.ofNat), flags C N d2 ac, box 90 W.heap.size [.int .i64 (k : Int), .slice I n c, .slice J m d]] w5 by rw [accL_succ, if_pos (by unfold acF; exact hav), ofNat_app]; exact hv5.tail)
        have HY := Lib.hid hwy
        have HR := Lib.hid hr5
        clear hwy y0 hv5 hg5 hr5 hav V V3
        go_wp2_with (at_builtin; rw [← HY.out]; refine wpList_app_run rfl (.tmp 22) (.tmp 24) 39 rfl HR.out rfl rfl ?_)
        go_roundw
        case rel => exact ⟨a + 1, by go_num, by omega, _, _, _, rfl, H2.out⟩
        case measure => simp [intOf]; omega
    · obtain rfl : a = N := by omega
      have H2 := Lib.hid (show ∃ lv op, LvS a k nx ac lv op ∧ cntF lv + op.length = cntF ac + (accL ac a).length ∧ cntF ac + (accL ac a).length ≤ 2020000 ∧ Hp W [nums A1 n1 c1 (op.map Int.ofNat), flags C a d2 lv, box 90 W.heap.size [.int .i64 (k : Int), .slice I n c, .slice J m d]] wi from
        ⟨ac, accL ac a, LvS.start HAC.out (fun q => by have := accL_all (ac := ac) q; rw [HAC.out] at this; exact this), rfl, by have h1 := cntF_le ac; have h2 := accL_le ac a; have h3 := HAC.out; omega, V.out⟩)
      clear V hlt haN
      go_wp2_with fail
      go_loopg [6] (cntF ac + (accL ac a).length) (fun gn ov wr => ∃ A1 n1 c1, ov = .slice A1 n1 c1 ∧ ∃ lv op, LvS a k nx ac lv op ∧ cntF lv + op.length = gn ∧ gn ≤ 2020000 ∧ Hp W [nums A1 n1 c1 (op.map Int.ofNat), flags C a d2 lv, box 90 W.heap.size [.int .i64 (k : Int), .slice I n c, .slice J m d]] wr)
      case atStart => exact ⟨_, _, _, rfl, H2.out⟩
      case round =>
        clear H2
        obtain ⟨A1, n1, c1, rfl, lv, op, hL, hM, hgb, hV⟩ := hrel
        obtain ⟨wj, rfl⟩ : ∃ wj : World, wj = wr := ⟨_, rfl⟩
        have V := Lib.hid hV
        have HL := Lib.hid hL
        have HM := Lib.hid hM
        clear hV hL hM
        have hnl := V.out.num_len (i := 0) rfl
        rw [List.length_map] at hnl
        rcases snoc_cases op with rfl | ⟨op', tg, rfl⟩
        · have hn0 : n1 = 0 := hnl.symm
          subst hn0
          have HP := Lib.hid (show LivePost nx k a ac W (.returned (.slice C a d2)) wj from ⟨C, d2, lv, rfl, V.out.pick [1] (by decide) rfl, HL.out.done HS.out.ok HS.out.k0⟩)
          clear V HL HM hnl
          go_wp2_with fail
          go_ret
          exact HP.out
        · obtain ⟨p, hpl⟩ : ∃ p, p = op'.length := ⟨_, rfl⟩
          obtain rfl : n1 = p + 1 := by rw [hpl]; simpa using hnl.symm
          obtain ⟨g1, rfl⟩ := V.out.head (i := 0) (A := A1) (c := c1) rfl rfl (Nat.succ_pos _)
          have htl : acF lv tg = true := HL.out.ops tg (by simp)
          have htN : tg < a := by rw [← HL.out.len]; exact acF_lt htl
          obtain ⟨gc, rfl⟩ := V.out.head (i := 1) (A := C) (c := d2) rfl rfl (show 0 < a by omega)
          have hgk : cntF lv + p + 1 = gk := by
            have := HM.out
            rw [List.length_append] at this
            simp at this
            omega
          have x0 := V.out.num_at (i := 0) rfl (j := p) (by rw [List.length_map]; omega)
          rw [show ((op' ++ [tg]).map Int.ofNat).getD p 0 = (tg : Int) by rw [hpl, List.getD_eq_getElem?_getD]; simp] at x0
          obtain ⟨y0, _, y9⟩ := x0
          have hcap := (V.out.cap (i := 0) (c := c1) rfl rfl).1
          have hcap2 : (p : Int) ≤ (c1 : Int) := by have : p + 1 ≤ c1 := hcap; omega
          have hs1 : IntKind.i64.wrap (p : Int) = (p : Int) := IntWalk.i64_in _ (by omega)
          have V3 := Lib.hid (show Hp W [nums (some ⟨g1, 0, none⟩) p c1 (op'.map Int.ofNat), flags (some ⟨gc, 0, none⟩) a d2 lv, box 90 W.heap.size [.int .i64 (k : Int), .slice I n c, .slice J m d]] wj from by have := V.out; rw [ofNat_app] at this; exact this.num_pop (i := 0) rfl)
          obtain ⟨r0, _, r9⟩ := V.out.box_at (i := 2) (j := 0) rfl rfl
          obtain ⟨r1, _, _⟩ := V.out.box_at (i := 2) (j := 1) rfl rfl
          obtain ⟨r2, _, _⟩ := V.out.box_at (i := 2) (j := 2) rfl rfl
          have HG := Lib.hid hgk
          have HPL := Lib.hid hpl
          clear hgk hpl hcap hnl V HM htl
          go_wp2_with fail
          refine (all_any nx k a I n c J m d first from' tg W _ HS.out V3.out.below htN).mono ?_
          rintro e w5 ⟨A2, C2, L, rfl, hcL, hLb, hin, hhas, b5⟩
          have V5 := Lib.hid (V3.out.go b5)
          have HCL := Lib.hid hcL
          have HIN := Lib.hid hin
          have HHAS := Lib.hid hhas
          have H5 := Lib.hid (show ∃ lv2 op2, LvM a k nx ac lv2 op2 tg L 0 ∧ cntF lv2 + op2.length + 1 = gk ∧ Hp W [nums (some ⟨g1, 0, none⟩) p c1 (op2.map Int.ofNat), flags (some ⟨gc, 0, none⟩) a d2 lv2, box 90 W.heap.size [.int .i64 (k : Int), .slice I n c, .slice J m d]] w5 from ⟨lv, op', HL.out.open, by have := HG.out; have := HPL.out; omega, V5.out⟩)
          clear hcL hin hhas b5 V3 V5 HL HG HPL r0 r1 r2 r9 y0 y9
          go_wp2_with fail
          go_loopw [6, 45] (fun ov cv wr => ∃ i : Nat, cv = .int .i64 (i : Int) ∧ i ≤ L.length ∧ ∃ A1 n1 c1, ov = .slice A1 n1 c1 ∧ ∃ lv op, LvM a k nx ac lv op tg L i ∧ cntF lv + op.length + 1 = gk ∧ Hp W [nums A1 n1 c1 (op.map Int.ofNat), flags (some ⟨gc, 0, none⟩) a d2 lv, box 90 W.heap.size [.int .i64 (k : Int), .slice I n c, .slice J m d]] wr) (fun _ cv _ => L.length - (intOf cv).toNat)
          case atStart => exact ⟨0, rfl, Nat.zero_le _, _, _, _, rfl, H5.out⟩
          case round =>
            clear H5
            obtain ⟨i, rfl, hiL, A1, n1, c1, rfl, lv, op, hL, hM, hV⟩ := hrel
            obtain ⟨wl, rfl⟩ : ∃ wl : World, wl = wr := ⟨_, rfl⟩
            have V := Lib.hid hV
            have HL := Lib.hid hL
            have HM := Lib.hid hM
            have hnl := V.out.num_len (i := 0) rfl
            rw [List.length_map] at hnl
            have hn1b : n1 ≤ 2020000 := by omega
            clear hV hL hM hnl
            by_cases hlt : i < L.length
            · obtain ⟨q, cc, hq, hqN, hcc, hnq⟩ := HIN.out _ (List.getElem_mem hlt)
              have hLi : L[i]? = some (q : Int) := by rw [List.getElem?_eq_getElem hlt, hq]
              obtain ⟨b, off, rfl, hb, hc⟩ := bad_int (HCL.out.below V.out.below) hLi
              have hql : q < lv.length := by rw [HL.out.len]; exact hqN
              obtain ⟨x1, x2, x9⟩ := V.out.flag_at (i := 1) rfl (j := q) hql
              have HQ := Lib.hid hLi
              have HNQ := Lib.hid hnq
              have hqa : (q : Int) < (a : Int) := by omega
              clear hq hLi hnq
              cases hqv : lv.getD q false with
              | true =>
                rw [hqv] at x1
                have H6 := Lib.hid (HL.out.skip HQ.out (show acF lv q = true from hqv))
                clear hqv HL
                go_wp2_with fail
                go_roundw
                case rel => exact ⟨i + 1, by go_num, by omega, _, _, _, rfl, lv, op, H6.out, HM.out, V.out⟩
                case measure => simp [intOf]; omega
              | false =>
                rw [hqv] at x1
                have H6 := Lib.hid (HL.out.push HQ.out hqN hcc HNQ.out)
                have HM6 := Lib.hid (show cntF (lv.set q true) + (op ++ [q]).length + 1 = gk by
                  have h1 := cntF_set (lv := lv) (q := q) (by rw [List.getElem?_eq_getElem hql, ← getD_at (d := false) hql, hqv])
                  have h2 := HM.out
                  rw [List.length_append]
                  simp
                  omega)
                have hsz : (wl.setCell ⟨gc, q, none⟩ (.bool true)).heap.size = wl.heap.size := by simp [World.setCell]
                obtain ⟨wy, hwy⟩ : ∃ z, z = (wl.setCell ⟨gc, q, none⟩ (.bool true)).alloc (.cells #[.int .i64 (q : Int)] 3) := ⟨_, rfl⟩
                have V3 := Lib.hid (show Hp W (box 3 wl.heap.size [.int .i64 (q : Int)] :: [nums A1 n1 c1 (op.map Int.ofNat), flags (some ⟨gc, 0, none⟩) a d2 (lv.set q true), box 90 W.heap.size [.int .i64 (k : Int), .slice I n c, .slice J m d]]) wy by rw [hwy]; have := (V.out.flag_set (i := 1) rfl q true).box_new 3 [.int .i64 (q : Int)]; rw [hsz] at this; exact this)
                have z0 := (V3.out.box_at (i := 0) (j := 0) rfl rfl).1
                obtain ⟨g5, cap5, w6, hr5, hv5, hg5⟩ := run_app_num V3.out (i := 1) rfl 39 (q : Int) z0 (by omega)
                have H7 := Lib.hid (show Hp W [nums (some ⟨g5, 0, none⟩) (n1 + 1) cap5 ((op ++ [q]).map Int.ofNat), flags (some ⟨gc, 0, none⟩) a d2 (lv.set q true), box 90 W.heap.size [.int .i64 (k : Int), .slice I n c, .slice J m d]] w6 by rw [ofNat_app]; exact hv5.tail)
                have HY := Lib.hid hwy
                have HR := Lib.hid hr5
                clear hwy z0 hv5 hg5 hr5 hqv V V3 hsz HL HM
                go_wp2_with (at_builtin; rw [← HY.out]; refine wpList_app_run rfl (.tmp 57) (.tmp 59) 39 rfl HR.out rfl rfl ?_)
                go_roundw
                case rel => exact ⟨i + 1, by go_num, by omega, _, _, _, rfl, _, _, H6.out, HM6.out, H7.out⟩
                case measure => simp [intOf]; omega
            · have H6 := Lib.hid (HL.out.close (by omega) HHAS.out)
              clear HL
              go_wp2_with fail
              have HM2 := HM.out
              go_roundg (gk - 1)
              case measure => omega
              case rel => exact ⟨_, _, _, rfl, lv, op, H6.out, by omega, by omega, V.out⟩
end Go.Proofs.Ytdkdfmflghbhiaa
