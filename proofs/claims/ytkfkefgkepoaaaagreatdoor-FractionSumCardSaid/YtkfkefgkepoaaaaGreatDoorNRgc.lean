/- Contracts of the reference's half and even, and of its steps on numbers. -/
import Derived.Test.YtkfkefgkepoaaaaGreatDoorNRdw
namespace Go.Proofs.YtkfkefgkepoaaaaGreatDoor
open Go.RowKit
set_option linter.unusedVariables false
set_option maxRecDepth 100000

/-- What a call leaves that returns the digits of n. -/
def NumPost (n : Int) (W : World) (e : Ending) (w' : World) : Prop := ∃ A c, e = .returned (.slice A (digs n).length c) ∧ NumAt w' (.slice A (digs n).length c) n ∧ Below W.heap.size W w'
theorem num_of_gives {n : Int} {W w' : World} {e : Ending} (h : Gives n W e w') (h0 : 0 ≤ n) (hl : (digs n).length ≤ 200) : NumPost n W e w' := by
  obtain ⟨A, c, he, hi, hc, hm, hb⟩ := h
  exact ⟨A, c, he, ⟨h0, A, c, rfl, hi, hc, hm, hl⟩, hb⟩
theorem NumAt.slice {w : World} {A : Option Addr} {n c : Nat} {x : Int} (h : NumAt w (.slice A n c) x) : 0 ≤ x ∧ n = (digs x).length ∧ IntsIn w A (digs x) ∧ n ≤ c ∧ c ≤ maxLen ∧ n ≤ 200 := by
  obtain ⟨h0, A', c', e, hi, hc, hm, hl⟩ := h
  injection e with e1 e2 e3
  subst e1; subst e3
  exact ⟨h0, e2, hi, by omega, hm, by omega⟩
theorem len200 {a b : Int} (h : a ≤ b) (hb : (digs b).length ≤ 200) : (digs a).length ≤ 200 := Nat.le_trans (digs_len_mono h) hb

def HalfSt (g na : Nat) (La : List Int) (W : World) (j : Nat) (c : Int) (wr : World) : Prop :=
  ∃ D : List Int, D.length = na ∧ Dig D ∧ val (D.drop j) = val (La.drop j) / 2 ∧ c = val (La.drop j) % 2 ∧ RowIs wr g 0 D ∧ Below g W wr ∧ g < wr.heap.size
theorem half_round {g na i : Nat} {D La : List Int} {c n : Int} {W wr : World} (hD : D.length = na) (hdD : Dig D) (hv : val (D.drop (i + 1)) = val (La.drop (i + 1)) / 2) (hc : c = val (La.drop (i + 1)) % 2) (hi : i < na) (hla : La.length = na)
    (hdl : Dig La) (hn : n = c * 10000 + La.getD i 0) (hrow : RowIs wr g 0 D) (hbw : Below g W wr) (hgw : g < wr.heap.size) : HalfSt g na La W i (n % 2) (wr.setCell ⟨g, i, none⟩ (.int .i64 (n / 2))) := by
  obtain ⟨m1, m2⟩ := half_more (T := val (La.drop (i + 1))) hc hn
  rw [← drop_cons (by omega)] at m1 m2
  have b := hdl.at i
  have c1 : 0 ≤ c ∧ c ≤ 1 := by rw [hc]; omega
  refine ⟨D.set i (n / 2), by simp [hD], ?_, ?_, m2.symm, hrow.set0 (by omega) _, hbw.setCell (p := ⟨g, i, none⟩) (Nat.le_refl _) _, by simpa [World.setCell] using hgw⟩
  · intro z hz
    rcases List.mem_or_eq_of_mem_set hz with h | rfl
    · exact hdD z h
    · omega
  · rw [drop_set _ (by omega), val_cons, hv, m1]
theorem half_zero (g na : Nat) (La : List Int) (W : World) (hla : La.length = na) (hg : W.heap.size = g) : HalfSt g na La W na 0 (W.alloc (.cells (ints (List.replicate na 0)).toArray 3)) := by
  subst hg
  have e : La.drop na = [] := by rw [← hla]; exact List.drop_length
  refine ⟨List.replicate na 0, by simp, Dig.zeros na, ?_, ?_, row_of_cells (heap_alloc_new W _), (Below.refl _ _).alloc (Nat.le_refl _) _, by simp⟩
  · rw [e, List.drop_replicate, val_zeros]; simp [val]
  · rw [e]; simp [val]
theorem half_end {g na : Nat} {D : List Int} {x : Int} {W wr : World} (hD : D.length = na) (hdD : Dig D) (hv : val D = x / 2) (hrow : RowIs wr g 0 D) (hb : Below g W wr) (hg : g < wr.heap.size) (hW : W.heap.size = g) (hna : na ≤ 10000) :
    Gives (x / 2) W (.returned (.slice (some ⟨g, 0, none⟩) (trimL D).length na)) wr := by
  have i1 := (hrow.ints hg).trim
  have t := trimL_digs hdD
  have l1 := (trimL_prefix D).2
  rw [hv] at t
  rw [t] at i1 l1 ⊢
  exact ⟨_, _, rfl, i1, by omega, by unfold maxLen; omega, by subst hW; exact hb⟩
set_option maxHeartbeats 2000000 in
theorem rhalf_any (na ca : Nat) (x : Int) (Aa : Option Addr) (W : World) (ha : na = (digs x).length) (hna : na ≤ 10000) (hx : 0 ≤ x) (hA : IntsIn W Aa (digs x)) :
    Calls Tryz.prog 72 #[.slice Aa na ca] W (Gives (x / 2) W) := by
  obtain ⟨La, hLa⟩ : ∃ L, L = digs x := ⟨_, rfl⟩
  have hdla : Dig La := by rw [hLa]; exact dig_digs x
  have hvx : val La = x := by rw [hLa]; exact val_digs hx
  rw [← hLa] at ha hA
  have HA := Lib.hid hA
  have HLA := Lib.hid ha.symm
  have HDA := Lib.hid hdla
  have HVX := Lib.hid hvx
  have HZ := Lib.hid (half_zero W.heap.size na La W ha.symm rfl)
  have hmk := make_eq (na : Int) na rfl (by omega)
  clear hA ha hdla hvx hLa
  go_enter Tryz.func72, Tryz.ntmps72
  go_wp2
  go_loopw [4, 5] (fun cv iv wr => ∃ (j : Nat) (a x : Int), j ≤ na ∧ a = (j : Int) - 1 ∧ iv = .int .i64 a ∧ cv = .int .i64 x ∧ HalfSt W.heap.size na La W j x wr) (fun _ iv _ => (intOf iv + 1).toNat)
  case atStart => exact ⟨na, _, _, Nat.le_refl _, rfl, rfl, rfl, HZ.out⟩
  case round =>
    obtain ⟨j, a, c, hj, ha, rfl, rfl, D, hD, hdD, hv, hc, hrow, hbw, hg⟩ := hrel
    cases j with
    | zero =>
      obtain rfl : a = -1 := by omega
      rw [List.drop_zero, List.drop_zero, HVX.out] at hv
      have G := Lib.hid (half_end hD hdD hv hrow hbw hg rfl hna)
      have HDD := Lib.hid hD
      have HI := Lib.hid (hrow.ints hg)
      clear ha hD hdD hv hrow hbw hc
      go_wp2_with fail
      refine (rtrim_any D na na _ _ HDD.out (Nat.le_refl _) (by unfold maxLen; omega) HI.out).mono ?_
      rintro e w4 ⟨rfl, rfl⟩
      go_wp2_with fail
      go_ret
      exact G.out
    | succ i =>
      obtain rfl : a = (i : Int) := by omega
      clear ha
      have hi : i < na := by omega
      obtain ⟨b, off, rfl, hbb, hcc⟩ := (HA.out.below hbw) (by rw [HLA.out]; omega)
      have hcell := hcc i (by rw [HLA.out]; exact hi)
      obtain ⟨x1, hx1⟩ : ∃ x1, x1 = La.getD i 0 := ⟨_, rfl⟩
      obtain ⟨hx10, hx11⟩ : 0 ≤ x1 ∧ x1 < 10000 := by rw [hx1]; exact HDA.out.at i
      rw [← hx1] at hcell
      obtain ⟨hcl, hfz⟩ := hrow i (by rw [hD]; exact hi)
      rw [Nat.zero_add] at hcl hfz
      obtain ⟨d0, hd0⟩ : ∃ d, d = D.getD i 0 := ⟨_, rfl⟩
      rw [← hd0] at hcl
      have c0 : 0 ≤ c := by omega
      have c1 : c ≤ 1 := by omega
      have F := Lib.hid (half_round hD hdD hv hc hi HLA.out HDA.out (n := c * 10000 + x1) (by rw [hx1]) hrow hbw hg)
      clear hcc hx1 hd0 hD hdD hv hc hrow hbw
      go_wp2_with fail
      go_roundw
      case rel => exact ⟨i, _, _, by omega, rfl, rfl, rfl, F.out⟩
      case measure => simp [intOf]
theorem even_eq {x d : Int} (h : d = x % 10000) : (d % 2 == 0) = decide (x % 2 = 0) := by
  rw [Bool.eq_iff_iff]; simp; omega
set_option maxHeartbeats 400000 in
theorem reven_any (v : Value) (x : Int) (w : World) (h : NumAt w v x) :
    Calls Tryz.prog 71 #[v] w fun e w' => e = .returned (.bool (decide (x % 2 = 0))) ∧ w = w' := by
  obtain ⟨h0, A, c, rfl, hi, hc, hm, hl⟩ := h
  by_cases hx : 0 < x
  · have hd := digs_pos hx
    obtain ⟨n, hn⟩ : ∃ n, n = (digs x).length := ⟨_, rfl⟩
    have hn0 : 0 < n := by rw [hn, hd]; simp
    rw [← hn] at hc hl ⊢
    obtain ⟨b, off, rfl, hbb, hcc⟩ := hi (by omega)
    have hcell := hcc 0 (by omega)
    obtain ⟨d, hdd⟩ : ∃ d, d = x % 10000 := ⟨_, rfl⟩
    have e : (digs x).getD 0 0 = d := by rw [hd, hdd]; rfl
    rw [e, Nat.add_zero] at hcell
    have hd0 : 0 ≤ d := by omega
    have E := Lib.hid (even_eq hdd)
    clear hi hcc hd hn hdd e
    have hnz : ((n : Int) == 0) = false := by simp; omega
    go_enter Tryz.func71, Tryz.ntmps71
    go_wp2
    go_ret
    exact ⟨ret_bool E.out.symm, rfl⟩
  · obtain rfl : x = 0 := by omega
    clear hi
    rw [digs_zero, List.length_nil] at hc ⊢
    go_enter Tryz.func71, Tryz.ntmps71
    go_wp2
    go_ret
    exact ⟨ret_bool (by simp), rfl⟩
theorem rhalf_num (n c : Nat) (x : Int) (A : Option Addr) (w : World) (h : NumAt w (.slice A n c) x) : Calls Tryz.prog 72 #[.slice A n c] w (NumPost (x / 2) w) := by
  obtain ⟨h0, hn, hi, hc, hm, hl⟩ := h.slice
  refine (rhalf_any n c x A w hn (by omega) h0 hi).mono fun e w' hg => num_of_gives hg (by omega) (len200 (b := x) (by omega) (by omega))
theorem rless_num (n c m d : Nat) (x y : Int) (A B : Option Addr) (w : World) (h : NumAt w (.slice A n c) x) (k : NumAt w (.slice B m d) y) (hle : y ≤ x) : Calls Tryz.prog 74 #[.slice A n c, .slice B m d] w (NumPost (x - y) w) := by
  obtain ⟨h0, hn, hi, hc, hm, hl⟩ := h.slice
  obtain ⟨k0, kn, ki, kc, km, kl⟩ := k.slice
  refine (rless2_any n c m d x y A B w hn kn (by omega) k0 hle hi ki).mono fun e w' hg => num_of_gives hg (by omega) (len200 (b := x) (by omega) (by omega))
theorem rcmp_num (n c m d : Nat) (x y : Int) (A B : Option Addr) (w : World) (h : NumAt w (.slice A n c) x) (k : NumAt w (.slice B m d) y) : Calls Tryz.prog 73 #[.slice A n c, .slice B m d] w fun e w' => e = .returned (.int .i64 (sgn (x - y))) ∧ ∃ q, w' = w.drewN q := by
  obtain ⟨h0, hn, hi, hc, hm, hl⟩ := h.slice
  obtain ⟨k0, kn, ki, kc, km, kl⟩ := k.slice
  exact rcmp2_any x y n c m d A B w hn kn h0 k0 (by unfold maxLen; omega) (by unfold maxLen; omega) hi ki
theorem rsum_num (n c m d : Nat) (x y : Int) (A B : Option Addr) (w : World) (h : NumAt w (.slice A n c) x) (k : NumAt w (.slice B m d) y) (hl2 : (digs (x + y)).length ≤ 200) : Calls Tryz.prog 75 #[.slice A n c, .slice B m d] w (NumPost (x + y) w) := by
  obtain ⟨h0, hn, hi, hc, hm, hl⟩ := h.slice
  obtain ⟨k0, kn, ki, kc, km, kl⟩ := k.slice
  have := rsum_any n c m d (digs x) (digs y) A B w hn.symm kn.symm (by omega) (by omega) (dig_digs x) (dig_digs y) hi ki
  rw [val_digs h0, val_digs k0] at this
  exact this.mono fun e w' hg => num_of_gives hg (by omega) hl2
end Go.Proofs.YtkfkefgkepoaaaaGreatDoor
