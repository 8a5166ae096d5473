/- Contracts of the reference's sum and less. -/
import Derived.Test.YtkfkefgkepoaaaaGreatDoorNBx
namespace Go.Proofs.YtkfkefgkepoaaaaGreatDoor
open Go.RowKit
set_option linter.unusedVariables false
set_option maxRecDepth 100000

theorem digit_y (L : List Int) (n c k : Nat) (A : Option Addr) (w : World) (y : Int) (hy : y = L.getD k 0) (hn : L.length = n) (hn63 : n ≤ maxLen) (hk : k ≤ maxLen) (hA : IntsIn w A L) :
    Calls Tryz.prog 92 #[.slice A n c, .int .i64 k] w fun e w' => e = .returned (.int .i64 y) ∧ w = w' := hy ▸ digit_any L n c k A w hn hn63 hk hA
/-- A list that the call itself appends to, and that reads as L; nothing older has turned. -/
def Own (W : World) (v : Value) (n : Nat) (L : List Int) (w : World) : Prop := L.length = n ∧ w.ownsRow W.heap.size 3 1 v n (ints L) ∧ Below W.heap.size W w
theorem Own.nil (W : World) : Own W (.slice none 0 0) 0 [] W := ⟨rfl, World.ownsRow_nil _ _ _ _, Below.refl _ _⟩
theorem Own.step {W w w1 : World} {v v' : Value} {n : Nat} {L : List Int} {x : Int} {o : Obj} (h : Own W v n L w) (ho : w1.ownsRow W.heap.size 3 1 v' (n + 1) (ints L ++ [.int .i64 x])) (hg : (w.alloc o).grownBy w1 v.ownBlock) : Own W v' (n + 1) (L ++ [x]) w1 := by
  obtain ⟨h1, h2, h3⟩ := h
  refine ⟨by simp [h1], by simpa [ints] using ho, ?_⟩
  have hs := h3.size
  exact (h3.alloc hs o).grown hg (by simp; omega) (fun k hk => (h2.lt k hk).1)
theorem Own.draw {W w : World} {v : Value} {n : Nat} {L : List Int} (h : Own W v n L w) (q : Nat) : Own W v n L (w.drewN q) := ⟨h.1, h.2.1, bdr h.2.2 q⟩
theorem gives_own {W w : World} {A : Option Addr} {c n : Nat} {L : List Int} {x : Int} (h : Own W (.slice A n c) n L w) (hd : Dig L) (hv : val L = x) : Gives x W (.returned (.slice A (trimL L).length c)) w := by
  obtain ⟨h1, h2, h3⟩ := h
  obtain ⟨A', c', e, hi, hc, hm, _⟩ := own_ints h2
  injection e with e1 e2 e3
  subst e1; subst e3
  have t := trimL_digs hd
  rw [hv] at t
  have hl := (trimL_prefix L).2
  have ht := hi.trim
  rw [t] at hl ht ⊢
  exact ⟨_, _, rfl, ht, by omega, hm, h3⟩
def SumSt (La Lb : List Int) (W : World) (k : Nat) (x : Int) (v : Value) (w : World) : Prop :=
  ∃ L : List Int, Own W v k L w ∧ Dig L ∧ val L + x * pw k = val (La.take k) + val (Lb.take k) ∧ 0 ≤ x ∧ x ≤ 1
theorem sum_go {La Lb L : List Int} {W w w1 : World} {k : Nat} {x s : Int} {v v' : Value} {o : Obj} (h : Own W v k L w) (hd : Dig L) (hv : val L + x * pw k = val (La.take k) + val (Lb.take k)) (hs : s = La.getD k 0 + Lb.getD k 0 + x) (h0 : 0 ≤ s) (h1 : s < 20000)
    (ho : w1.ownsRow W.heap.size 3 1 v' (k + 1) (ints L ++ [.int .i64 (s % 10000)])) (hg : (w.alloc o).grownBy w1 v.ownBlock) : SumSt La Lb W (k + 1) (s / 10000) v' w1 := by
  refine ⟨L ++ [s % 10000], h.step ho hg, hd.snoc (by omega) (by omega), ?_, by omega, by omega⟩
  rw [val_snoc, h.1, val_take_succ La, val_take_succ Lb, pw_succ]
  have := add_round (c := x) (p := pw k) (s := s) (w := val L) (x := val (La.take k)) (y := val (Lb.take k)) (t := 1) (by rw [Int.one_mul]; exact hv) (La.getD k 0) (Lb.getD k 0) (by omega)
  rw [Int.one_mul] at this
  omega
set_option maxHeartbeats 1000000 in
theorem rsum_any (na ca nb cb : Nat) (La Lb : List Int) (Aa Ab : Option Addr) (W : World) (ha : La.length = na) (hb : Lb.length = nb) (hna : na ≤ 10000) (hnb : nb ≤ 10000) (hda : Dig La) (hdb : Dig Lb)
    (hA : IntsIn W Aa La) (hB : IntsIn W Ab Lb) :
    Calls Tryz.prog 75 #[.slice Aa na ca, .slice Ab nb cb] W (Gives (val La + val Lb) W) := by
  have HA := Lib.hid hA
  have HB := Lib.hid hB
  have HLA := Lib.hid ha
  have HLB := Lib.hid hb
  have HDA := Lib.hid hda
  have HDB := Lib.hid hdb
  have ma : na ≤ maxLen := by unfold maxLen; omega
  have mb : nb ≤ maxLen := by unfold maxLen; omega
  obtain ⟨M, hMa, hMb, hMM⟩ : ∃ M, na ≤ M ∧ nb ≤ M ∧ M ≤ 10000 := ⟨max na nb, by omega, by omega, by omega⟩
  clear hA hB ha hb hda hdb
  obtain ⟨i0, hi, hz0, hz1, hz2⟩ := info_parts Tryz.infoInt
  go_enter Tryz.func75, Tryz.ntmps75
  go_wp2
  go_loopw [5, 6, 7] (fun v c i wr => ∃ (k : Nat) (x : Int), k ≤ M ∧ i = .int .i64 (k : Int) ∧ c = .int .i64 x ∧ SumSt La Lb W k x v wr) (fun _ _ i _ => M - (intOf i).toNat)
  case atStart => exact ⟨0, 0, Nat.zero_le _, rfl, rfl, [], Own.nil W, Dig.nil, by simp [val], by omega, by omega⟩
  case round =>
    obtain ⟨k, x, hk, rfl, rfl, L, hown, hd, hv, hx0, hx1⟩ := hrel
    have HO := Lib.hid hown
    have HD := Lib.hid hd
    have HV := Lib.hid hv
    have hsz : W.heap.size ≤ wr.heap.size := hown.2.2.size
    have kk : k ≤ maxLen := by unfold maxLen; omega
    have k63 : k + 1 ≤ maxLen := by unfold maxLen; omega
    have k8 : (k + 1) * 8 ≤ 140737488355328 := by omega
    clear hown hd hv
    by_cases hlt : k < na ∨ k < nb
    · obtain ⟨y, hy⟩ : ∃ y, y = La.getD k 0 := ⟨_, rfl⟩
      obtain ⟨z, hz⟩ : ∃ y, y = Lb.getD k 0 := ⟨_, rfl⟩
      obtain ⟨hy0, hy1⟩ : 0 ≤ y ∧ y < 10000 := by rw [hy]; exact HDA.out.at k
      obtain ⟨hz0', hz1'⟩ : 0 ≤ z ∧ z < 10000 := by rw [hz]; exact HDB.out.at k
      obtain ⟨s, hs⟩ : ∃ s, s = y + z + x := ⟨_, rfl⟩
      have hs0 : 0 ≤ s := by omega
      have hs1 : s < 20000 := by omega
      have HS := Lib.hid (show s = La.getD k 0 + Lb.getD k 0 + x by rw [hs, hy, hz])
      have HY := Lib.hid hy
      have HZ := Lib.hid hz
      have e1 : IntKind.i64.wrap (y + z) = y + z := IntWalk.i64_in _ (by omega)
      have e2 : IntKind.i64.wrap (y + z + x) = s := by rw [← hs]; exact IntWalk.i64_in _ (by omega)
      have ksz : W.heap.size ≤ (wr.alloc (.cells #[.int .i64 (s % 10000)] 3)).heap.size := by simp; omega
      have hkM : k < M := by omega
      clear hy hz hs
      by_cases hla : k < na
      all_goals
        try have hlb' : k < nb := by omega
        go_wp2_with fail
        refine (digit_y La na ca k Aa _ y HY.out HLA.out ma kk (HA.out.below HO.out.2.2)).mono ?_
        rintro e w' ⟨rfl, rfl⟩
        go_wp2_with fail
        refine (digit_y Lb nb cb k Ab _ z HZ.out HLB.out mb kk (HB.out.below HO.out.2.2)).mono ?_
        rintro e w' ⟨rfl, rfl⟩
        go_wp2_with (at_builtin; refine wpList_append_own _ rfl _ _ 28 rfl W.heap.size 3 i0 (.int .i64 0) 1 8 Tryz.underlying28 hi hz0 hz1 hz2 rfl (by decide) _ _ _ rfl (HO.out.2.1.alloc _) ⟨wr.heap.size, 0, none⟩ 1 1 [.int .i64 (s % 10000)] rfl rfl (new_int _ _ _) (one_int _) k63 k8 ksz ?_; intro v' w1 hown' hgrow _; have R := Lib.hid (sum_go HO.out HD.out HV.out HS.out hs0 hs1 hown' hgrow); clear hown' hgrow)
        go_roundw
        case rel => exact ⟨k + 1, _, by omega, by go_num, rfl, R.out⟩
        case measure => simp [intOf]; omega
    · have hna' : decide (k < na) = false := by simp; omega
      have hnb' : decide (k < nb) = false := by simp; omega
      have ksz : W.heap.size ≤ (wr.alloc (.cells #[.int .i64 x] 3)).heap.size := by simp; omega
      have HF := Lib.hid (show val (La.take k) + val (Lb.take k) = val La + val Lb by rw [take_all_val (by rw [HLA.out]; omega), take_all_val (by rw [HLB.out]; omega)])
      clear hlt
      go_wp2_with (first | (go_at_call 91; fail) | (at_builtin; refine wpList_append_own _ rfl _ _ 28 rfl W.heap.size 3 i0 (.int .i64 0) 1 8 Tryz.underlying28 hi hz0 hz1 hz2 rfl (by decide) _ _ _ rfl (HO.out.2.1.alloc _) ⟨wr.heap.size, 0, none⟩ 1 1 [.int .i64 x] rfl rfl (new_int _ _ _) (one_int _) k63 k8 ksz ?_; intro v' w1 hown' hgrow _; have R := Lib.hid (HO.out.step hown' hgrow); clear hown' hgrow; obtain ⟨A1, c1, rfl, hi1, hc1, hm1, hl1⟩ := own_ints R.out.2.1; have HI1 := Lib.hid hi1; have HL1 := Lib.hid hl1; clear hi1 hl1))
      refine (rtrim_any (L ++ [x]) (k + 1) c1 A1 _ HL1.out hc1 hm1 HI1.out).mono ?_
      rintro e w' ⟨rfl, rfl⟩
      have G := Lib.hid (gives_own (x := val La + val Lb) R.out (HD.out.snoc hx0 (by omega)) (by rw [val_snoc, HO.out.1, Int.mul_comm, HV.out, HF.out]))
      obtain ⟨m, hm⟩ : ∃ m, m = (trimL (L ++ [x])).length := ⟨_, rfl⟩
      rw [← hm] at G
      rw [← hm]
      clear hm
      go_wp2_with fail
      go_ret
      exact G.out

def LessSt (La Lb : List Int) (W : World) (k : Nat) (x : Int) (v : Value) (w : World) : Prop :=
  ∃ L : List Int, Own W v k L w ∧ Dig L ∧ val L - x * pw k = val (La.take k) - val (Lb.take k) ∧ 0 ≤ x ∧ x ≤ 1
theorem less_go {La Lb L : List Int} {W w w1 : World} {k : Nat} {x s r b : Int} {v v' : Value} {o : Obj} (h : Own W v k L w) (hd : Dig L) (hv : val L - x * pw k = val (La.take k) - val (Lb.take k)) (hs : s = La.getD k 0 - Lb.getD k 0 - x)
    (hr : (0 ≤ s ∧ r = s ∧ b = 0) ∨ (s < 0 ∧ r = s + 10000 ∧ b = 1)) (hr0 : 0 ≤ r) (hr1 : r < 10000)
    (ho : w1.ownsRow W.heap.size 3 1 v' (k + 1) (ints L ++ [.int .i64 r])) (hg : (w.alloc o).grownBy w1 v.ownBlock) : LessSt La Lb W (k + 1) b v' w1 := by
  have hb01 : 0 ≤ b ∧ b ≤ 1 := by rcases hr with ⟨_, _, rfl⟩ | ⟨_, _, rfl⟩ <;> omega
  refine ⟨L ++ [r], h.step ho hg, hd.snoc hr0 hr1, ?_, hb01.1, hb01.2⟩
  rw [val_snoc, h.1, val_take_succ La, val_take_succ Lb, pw_succ]
  generalize La.getD k 0 = y at *
  generalize Lb.getD k 0 = z at *
  have e : r - 10000 * b = y - z - x := by rcases hr with ⟨_, rfl, rfl⟩ | ⟨_, rfl, rfl⟩ <;> omega
  grind
theorem less_end {La Lb L : List Int} {W w : World} {n c : Nat} {A : Option Addr} {x : Int} (h : Own W (.slice A n c) n L w) (hd : Dig L) (hv : val L - x * pw n = val (La.take n) - val (Lb.take n)) (hx0 : 0 ≤ x) (ha : La.length = n) (hb : Lb.length ≤ n) (hle : val Lb ≤ val La) :
    Gives (val La - val Lb) W (.returned (.slice A (trimL L).length c)) w := by
  rw [take_all_val (by omega), take_all_val hb] at hv
  have h1 := val_lt hd
  rw [h.1] at h1
  refine gives_own h hd ?_
  by_cases c0 : x = 0
  · subst c0; omega
  · have := Int.mul_le_mul_of_nonneg_right (show 1 ≤ x by omega) (Int.le_of_lt (pw_pos n))
    omega
theorem quiet_leftD {P : Program} {f : FuncId} {args : Array Value} {w : World} {n : Nat} {v : Value} (h : ∀ w, Calls P f args (w : World) fun e w' => e = .returned v ∧ w = w') : Calls P f args (w.drewN n) fun e w'' => e = .returned v ∧ ∃ m, w'' = w.drewN m := quiet_left (h _)
set_option maxHeartbeats 1000000 in
theorem rless_any (na ca nb cb : Nat) (La Lb : List Int) (Aa Ab : Option Addr) (W : World) (ha : La.length = na) (hb : Lb.length = nb) (hna : na ≤ 10000) (hnb : nb ≤ na) (hda : Dig La) (hdb : Dig Lb)
    (hle : val Lb ≤ val La) (hA : IntsIn W Aa La) (hB : IntsIn W Ab Lb) :
    Calls Tryz.prog 74 #[.slice Aa na ca, .slice Ab nb cb] W (Gives (val La - val Lb) W) := by
  have HA := Lib.hid hA
  have HB := Lib.hid hB
  have HLA := Lib.hid ha
  have HLB := Lib.hid hb
  have HDA := Lib.hid hda
  have HDB := Lib.hid hdb
  have HLE := Lib.hid hle
  have ma : na ≤ maxLen := by unfold maxLen; omega
  have mb : nb ≤ maxLen := by unfold maxLen; omega
  clear hA hB ha hb hda hdb hle
  obtain ⟨i0, hi, hz0, hz1, hz2⟩ := info_parts Tryz.infoInt
  go_enter Tryz.func74, Tryz.ntmps74
  go_wp2
  go_loopw [5, 6, 7] (fun v c i wr => ∃ (k : Nat) (x : Int), k ≤ na ∧ i = .int .i64 (k : Int) ∧ c = .int .i64 x ∧ LessSt La Lb W k x v wr) (fun _ _ i _ => na - (intOf i).toNat)
  case atStart => exact ⟨0, 0, Nat.zero_le _, rfl, rfl, [], Own.nil W, Dig.nil, by simp [val], by omega, by omega⟩
  case round =>
    obtain ⟨k, x, hk, rfl, rfl, L, hown, hd, hv, hx0, hx1⟩ := hrel
    have HO := Lib.hid hown
    have HD := Lib.hid hd
    have HV := Lib.hid hv
    have hsz : W.heap.size ≤ wr.heap.size := hown.2.2.size
    have kk : k ≤ maxLen := by unfold maxLen; omega
    have k63 : k + 1 ≤ maxLen := by unfold maxLen; omega
    have k8 : (k + 1) * 8 ≤ 140737488355328 := by omega
    clear hown hd hv
    by_cases hlt : k < na
    · obtain ⟨b, off, rfl, hbb, hcc⟩ := (HA.out.below HO.out.2.2) (by rw [HLA.out]; omega)
      have hcell := hcc k (by rw [HLA.out]; exact hlt)
      obtain ⟨y, hy⟩ : ∃ y, y = La.getD k 0 := ⟨_, rfl⟩
      obtain ⟨z, hz⟩ : ∃ y, y = Lb.getD k 0 := ⟨_, rfl⟩
      obtain ⟨hy0, hy1⟩ : 0 ≤ y ∧ y < 10000 := by rw [hy]; exact HDA.out.at k
      obtain ⟨hz0', hz1'⟩ : 0 ≤ z ∧ z < 10000 := by rw [hz]; exact HDB.out.at k
      rw [← hy] at hcell
      obtain ⟨s, hs⟩ : ∃ s, s = y - z - x := ⟨_, rfl⟩
      have hs0 : -10001 < s := by omega
      have hs1 : s < 10000 := by omega
      have HS := Lib.hid (show s = La.getD k 0 - Lb.getD k 0 - x by rw [hs, hy, hz])
      have HY := Lib.hid hy
      have HZ := Lib.hid hz
      have HBW := Lib.hid (HB.out.below HO.out.2.2)
      have hkn : (k : Int) < (na : Int) := by omega
      have e1 : IntKind.i64.wrap (y - z) = y - z := IntWalk.i64_in _ (by omega)
      have e2 : IntKind.i64.wrap (y - z - x) = s := by rw [← hs]; exact IntWalk.i64_in _ (by omega)
      have hs2 : s < 0 → s + 10000 ≥ 0 := by omega
      clear hcc hy hz
      by_cases hneg : s < 0
      · have r0 : 0 ≤ s + 10000 := by omega
        have r1 : s + 10000 < 10000 := by omega
        clear hs hs2
        go_wp2
        go_quiet ((go_at_call 92; exact quiet_left (digit_y Lb nb cb k Ab _ z HZ.out HLB.out mb kk HBW.out)))
        clear e1 e2
        have HOq := Lib.hid (HO.out.draw nq)
        generalize wr.drewN nq = wq at HOq ⊢
        have hszq : W.heap.size ≤ wq.heap.size := HOq.out.2.2.size
        have ksz : W.heap.size ≤ (wq.alloc (.cells #[.int .i64 (s + 10000)] 3)).heap.size := by simp; omega
        go_wp2_with (at_builtin; refine wpList_append_own _ rfl _ _ 28 rfl W.heap.size 3 i0 (.int .i64 0) 1 8 Tryz.underlying28 hi hz0 hz1 hz2 rfl (by decide) _ _ _ rfl (HOq.out.2.1.alloc _) ⟨wq.heap.size, 0, none⟩ 1 1 [.int .i64 (s + 10000)] rfl rfl (new_int _ _ _) (one_int _) k63 k8 ksz ?_; intro v' w1 hown' hgrow _; have R := Lib.hid (less_go HOq.out HD.out HV.out HS.out (b := 1) (.inr ⟨hneg, rfl, rfl⟩) r0 r1 hown' hgrow); clear hown' hgrow)
        go_roundw
        case rel => exact ⟨k + 1, _, by omega, by go_num, rfl, R.out⟩
        case measure => simp [intOf]; omega
      · have r0 : 0 ≤ s := by omega
        clear hs hs2
        go_wp2
        go_quiet ((go_at_call 92; exact quiet_left (digit_y Lb nb cb k Ab _ z HZ.out HLB.out mb kk HBW.out)))
        clear e1 e2
        have HOq := Lib.hid (HO.out.draw nq)
        generalize wr.drewN nq = wq at HOq ⊢
        have hszq : W.heap.size ≤ wq.heap.size := HOq.out.2.2.size
        have ksz : W.heap.size ≤ (wq.alloc (.cells #[.int .i64 s] 3)).heap.size := by simp; omega
        go_wp2_with (at_builtin; refine wpList_append_own _ rfl _ _ 28 rfl W.heap.size 3 i0 (.int .i64 0) 1 8 Tryz.underlying28 hi hz0 hz1 hz2 rfl (by decide) _ _ _ rfl (HOq.out.2.1.alloc _) ⟨wq.heap.size, 0, none⟩ 1 1 [.int .i64 s] rfl rfl (new_int _ _ _) (one_int _) k63 k8 ksz ?_; intro v' w1 hown' hgrow _; have R := Lib.hid (less_go HOq.out HD.out HV.out HS.out (b := 0) (.inl ⟨r0, rfl, rfl⟩) r0 hs1 hown' hgrow); clear hown' hgrow)
        go_roundw
        case rel => exact ⟨k + 1, _, by omega, by go_num, rfl, R.out⟩
        case measure => simp [intOf]; omega
    · obtain rfl : k = na := by omega
      obtain ⟨A1, c1, rfl, hi1, hc1, hm1, hl1⟩ := own_ints HO.out.2.1
      have G := Lib.hid (less_end HO.out HD.out HV.out hx0 HLA.out (by rw [HLB.out]; exact hnb) HLE.out)
      have HI1 := Lib.hid hi1
      have HL1 := Lib.hid hl1
      clear hi1 hl1
      go_wp2_with fail
      refine (rtrim_any L k c1 A1 _ HL1.out hc1 hm1 HI1.out).mono ?_
      rintro e w' ⟨rfl, rfl⟩
      obtain ⟨m, hm⟩ : ∃ m, m = (trimL L).length := ⟨_, rfl⟩
      rw [← hm] at G
      rw [← hm]
      clear hm
      go_wp2_with fail
      go_ret
      exact G.out
end Go.Proofs.YtkfkefgkepoaaaaGreatDoor
