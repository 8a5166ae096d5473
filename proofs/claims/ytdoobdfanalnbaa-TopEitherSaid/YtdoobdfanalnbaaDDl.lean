/- Copies of graphs; two graphs alike. -/
import Derived.Test.YtdoobdfanalnbaaDCp
namespace Go.Proofs.Ytdoobdfanalnbaa
open Go.RowKit
set_option linter.unusedVariables false
set_option linter.unusedSimpArgs false
set_option maxRecDepth 100000

theorem arc_info : (Try.prog.info? 60).map (fun i => (i.zero, i.size, i.bytes)) = some (some (.agg #[.int .i64 0, .int .i64 0, .int .i64 0]), 3, 24) := by kernel_rfl
set_option maxHeartbeats 4000000 in
theorem clone_arcs (L : List Ar) (A : Option Addr) (n c : Nat) (W w : World) (l : List Itm) (h : Hp W l w) (hn : L.length = n) (hb : n ≤ 1000000000) (hA : CellsIn w A (acells L)) :
    Calls Try.prog 74 #[.slice A n c] w fun e w' => ∃ C d, e = .returned (.slice C n d) ∧ Hp W (arow C n d L :: l) w' ∧ Below w.heap.size w w' := by
  obtain ⟨i0, hi, hz0, hz1, hz2⟩ := info_parts arc_info
  have qn : ∀ (w : World) (a : Option Addr) (n c n' c' : Nat), (binOp .eql 22 (.slice a n c) (.slice none n' c')).run Try.prog w = .ok (.bool a.isNone) w := fun w a n c n' c' => Lib.run_eql_slice_nil w _ _ a n c n' c' Try.underlying22
  have HL := Lib.hid hn
  have HA := Lib.hid hA
  have HH := Lib.hid h
  clear hA hn h
  cases A with
  | none =>
    have hn0 : n = 0 := by
      rcases Nat.eq_zero_or_pos n with h | h
      · exact h
      · obtain ⟨b, off, e, _⟩ := HA.out (by have := HL.out; rw [acells_len]; omega)
        cases e
    subst hn0
    have hL0 : L = [] := List.eq_nil_of_length_eq_zero HL.out
    go_enter Try.func74, Try.ntmps74
    go_wp2
    go_ret
    exact ⟨none, 0, rfl, by rw [hL0]; exact HH.out.nil_row _ rfl rfl rfl, Below.refl _ _⟩
  | some a =>
    have HR := Lib.hid (show ∀ (i : Nat) (u : Value), (acells L)[i]? = some u → (w.alloc (.cells #[] 60)).cell? (a.add i) = some u from fun i u hu => by
      have h0 : 0 < (acells L).length := by have := (List.getElem?_eq_some_iff.1 hu).1; omega
      obtain ⟨b, off, e, hlt, hc⟩ := HA.out h0
      injection e with e
      subst e
      rw [show (⟨b, off, none⟩ : Addr).add i = ⟨b, off + i, none⟩ from by unfold Addr.add; split <;> simp_all]
      rw [(bnew w (.cells #[] 60)).cell (p := ⟨b, off + i, none⟩) hlt]
      exact hc i u hu)
    go_enter Try.func74, Try.ntmps74
    go_wp2_with (at_builtin; refine wpList_append_own _ rfl _ _ 22 rfl w.heap.size 60 i0 _ 3 24 Try.underlying22 hi hz0 hz1 hz2 rfl (by decide) _ _ _ rfl (World.ownsRow_made w #[] 0 (Nat.le_refl _) (Nat.zero_le _) rfl) a n c (acells L) rfl (by rw [acells_len]; have := HL.out; omega) HR.out (acells_one L) (by unfold maxLen; omega) (by omega) (by simp) ?_)
    intro v' w1 hown hgrow hnil
    have HB := Lib.hid (((bnew w (.cells #[] 60))).grown hgrow (by simp) (by intro k hk; simp [Value.ownBlock] at hk; omega))
    have hown' : w1.ownsRow w.heap.size 60 3 v' n (acells L) := by simpa using hown
    have hv : ∃ C d, v' = .slice C n d := by
      rcases hown'.2 with ⟨e, h0⟩ | ⟨g, cap, cur, e, _⟩
      · exact ⟨none, 0, by rw [e, h0]⟩
      · exact ⟨_, _, e⟩
    obtain ⟨C, d, rfl⟩ := hv
    have HT := Lib.hid (show Hp W (arow C n d L :: l) w1 from HH.out.new (arow C n d L) HB.out (own_base hown' HH.out.below.size) (fun k hk => (hown'.lt k hk).1))
    clear hown hgrow hnil hown'
    go_wp2
    go_ret
    exact ⟨C, d, rfl, HT.out, HB.out⟩
theorem Hp.grIn {W w : World} {l : List Itm} {i n c : Nat} {A : Option Addr} {g : Gr} (h : Hp W l w) (hi : l[i]? = some (arow A n c g.rs)) (hn : g.rs.length = n) (hb : n ≤ 5864062014805) : GrIn w A n c g :=
  ⟨hn, (h.cap hi (A := A) (c := c) rfl).1, hb, h.cells hi (A := A) (c := c) rfl⟩
/-- A graph of one's own. -/
def OwnPost (g : Gr) (N : Int) (n : Nat) (w : World) (e : Ending) (w' : World) : Prop := ∃ (C : Option Addr) (d : Nat), e = .returned (.agg #[.int .i64 N, .slice C n d]) ∧ Hp w [arow C n d g.rs] w'
set_option maxHeartbeats 16000000 in
theorem same_any (g g2 : Gr) (A A2 : Option Addr) (n c n2 c2 : Nat) (w : World) (h : GrIn w A n c g) (h2 : GrIn w A2 n2 c2 g2) (hb : n ≤ 6000) (hb2 : n2 ≤ 6000) :
    Calls Try.prog 19 #[gval g A n c, gval g2 A2 n2 c2] w fun e w' => ∃ b : Bool, e = .returned (.bool b) ∧ (b = true ↔ g = g2) ∧ Below w.heap.size w w' := by
  have H := Lib.hid h
  have H2 := Lib.hid h2
  clear h h2
  obtain ⟨wz, hwz⟩ : ∃ z, z = (w.alloc (.cells #[.int .i64 g.n, .slice A n c] 24)).alloc (.cells #[.int .i64 g2.n, .slice A2 n2 c2] 24) := ⟨_, rfl⟩
  have HZ := Lib.hid hwz
  have V := Lib.hid (show Hp w [gbox (w.heap.size + 1) g2 A2 n2 c2, gbox w.heap.size g A n c] wz by
    have h2 := ((Hp.start w).gnew g A n c).gnew g2 A2 n2 c2
    rw [show (w.alloc (.cells #[.int .i64 g.n, .slice A n c] 24)).heap.size = w.heap.size + 1 by unfold World.alloc; exact Array.size_push ..] at h2
    rw [hwz]; exact h2)
  clear hwz
  go_enter Try.func19, Try.ntmps19
  go_upto_region 1 with fail
  rw [← HZ.out]
  clear HZ
  obtain ⟨gb, hgb⟩ : ∃ gb, gb = w.heap.size := ⟨_, rfl⟩
  rw [← hgb] at V ⊢
  clear hgb
  obtain ⟨r0, r1, r9⟩ := V.out.gb (i := 1) rfl
  obtain ⟨s0, s1, s9⟩ := V.out.gb (i := 0) rfl
  by_cases e1 : g.n = g2.n
  case neg =>
    have HE := Lib.hid (show ¬ g = g2 from fun h => e1 (by rw [h]))
    have g1 : (g.n != g2.n) = true := bne_yes e1
    clear e1
    go_wp2_with fail
    go_ret
    exact ⟨false, rfl, ⟨(nomatch ·), fun h => absurd h HE.out⟩, V.out.below⟩
  have g1 : (g.n != g2.n) = false := bne_no e1
  by_cases e2 : n = n2
  case neg =>
    have HE := Lib.hid (show ¬ g = g2 from fun h => e2 (by rw [← H.out.len, ← H2.out.len, h]))
    have g2 : ((n : Int) != (n2 : Int)) = true := bne_yes (by omega)
    clear e1 e2
    go_wp2_with fail
    go_ret
    exact ⟨false, rfl, ⟨(nomatch ·), fun h => absurd h HE.out⟩, V.out.below⟩
  subst e2
  have e3 : ((n : Int) != (n : Int)) = false := bne_no rfl
  have HN := Lib.hid e1
  clear e1
  go_wp2_with fail
  clear r0 r1 r9 s0 s1 s9 g1 e3
  go_loopw [5] (fun cv wr => ∃ k : Nat, cv = .int .i64 (k : Int) ∧ k ≤ n ∧ (∀ i, i < k → g.rs[i]? = g2.rs[i]?) ∧ Hp w [gbox (gb + 1) g2 A2 n c2, gbox gb g A n c] wr) (fun cv _ => n - (intOf cv).toNat)
  case atStart => exact ⟨0, rfl, Nat.zero_le _, fun i h => absurd h (Nat.not_lt_zero _), V.out⟩
  case round =>
    clear V
    obtain ⟨k, rfl, hkn, hr, hV⟩ := hrel
    obtain ⟨wi, rfl⟩ : ∃ wi : World, wi = wr := ⟨_, rfl⟩
    have V := Lib.hid hV
    have HR := Lib.hid hr
    clear hV hr
    obtain ⟨r0, r1, r9⟩ := V.out.gb (i := 1) rfl
    obtain ⟨s0, s1, s9⟩ := V.out.gb (i := 0) rfl
    by_cases hlt : k < n
    case neg =>
      obtain rfl : k = n := by omega
      have HE := Lib.hid (show g = g2 from (by
        have h1 : g.rs = g2.rs := List.ext_getElem? fun i => by
          by_cases hi : i < k
          · exact HR.out i hi
          · rw [List.getElem?_eq_none (by rw [H.out.len]; omega), List.getElem?_eq_none (by rw [H2.out.len]; omega)]
        have h2 := HN.out
        cases g; cases g2
        simp only at h1 h2
        rw [h1, h2]))
      go_wp2_with fail
      go_ret
      exact ⟨true, rfl, ⟨fun _ => HE.out, fun _ => rfl⟩, V.out.below⟩
    obtain ⟨⟨f, t, q⟩, b, off, ha, _, rfl, hbw, a0, a1, a2⟩ := (H.out.below V.out.below).at hlt
    obtain ⟨⟨f', t', q'⟩, b', off', ha', _, rfl, hbw', c0, c1, c2'⟩ := (H2.out.below V.out.below).at hlt
    dsimp only at a0 a1 a2 c0 c1 c2'
    have hk3 : k * 3 ≤ 20000 := by omega
    have HA := Lib.hid ha
    have HA' := Lib.hid ha'
    clear ha ha'
    by_cases e1 : f = f'
    case neg =>
      have HE := Lib.hid (show ¬ g = g2 from fun h => by
        have h1 := HA.out
        rw [h] at h1
        have h2 := h1.symm.trans HA'.out
        injection h2 with h2
        injection h2 with h2 h3 h4
        exact e1 h2)
      have g1 : (f == f') = false := beq_no e1
      clear e1
      go_wp2_with fail
      go_quiet (fail)
      go_wp2_with fail
      go_ret
      exact ⟨false, rfl, ⟨(nomatch ·), fun h => absurd h HE.out⟩, (V.out.go (bdrewN _ _)).below⟩
    subst e1
    by_cases e2 : t = t'
    case neg =>
      have g0 : (f == f) = true := beq_yes rfl
      have HE := Lib.hid (show ¬ g = g2 from fun h => by
        have h1 := HA.out
        rw [h] at h1
        have h2 := h1.symm.trans HA'.out
        injection h2 with h2
        injection h2 with h2 h3 h4
        exact e2 h3)
      have g1 : (t == t') = false := beq_no e2
      clear e2
      go_wp2_with fail
      go_quiet (fail)
      go_wp2_with fail
      go_ret
      exact ⟨false, rfl, ⟨(nomatch ·), fun h => absurd h HE.out⟩, (V.out.go (bdrewN _ _)).below⟩
    subst e2
    by_cases e3 : q = q'
    case neg =>
      have g0 : (f == f) = true := beq_yes rfl
      have g3 : (t == t) = true := beq_yes rfl
      have HE := Lib.hid (show ¬ g = g2 from fun h => by
        have h1 := HA.out
        rw [h] at h1
        have h2 := h1.symm.trans HA'.out
        injection h2 with h2
        injection h2 with h2 h3 h4
        exact e3 h4)
      have g1 : (q == q') = false := beq_no e3
      clear e3
      go_wp2_with fail
      go_quiet (fail)
      go_wp2_with fail
      go_ret
      exact ⟨false, rfl, ⟨(nomatch ·), fun h => absurd h HE.out⟩, (V.out.go (bdrewN _ _)).below⟩
    subst e3
    have g0 : (f == f) = true := beq_yes rfl
    have g1 : (t == t) = true := beq_yes rfl
    have g3 : (q == q) = true := beq_yes rfl
    have H3 := Lib.hid (show ∀ i, i < k + 1 → g.rs[i]? = g2.rs[i]? from fun i hi => by
      by_cases e : i = k
      · rw [e, HA.out, HA'.out]
      · exact HR.out i (by omega))
    go_wp2_with fail
    go_quiet (fail)
    go_wp2_with fail
    go_roundw
    case rel => exact ⟨k + 1, by go_num, by omega, H3.out, V.out.go (bdrewN _ _)⟩
    case measure => simp [intOf]; omega
end Go.Proofs.Ytdoobdfanalnbaa
