/- Contract of the reference's Made. -/
import Derived.Test.YtjmndidbhickdaaDoorNWu
namespace Go.Proofs.YtjmndidbhickdaaDoor
open Go.RowKit
set_option linter.unusedVariables false
set_option maxRecDepth 100000

/-- A slice of uint16 that reads as L. -/
def WordsIn (w : World) (A : Option Addr) (L : List Int) : Prop :=
  0 < L.length → ∃ b off, A = some ⟨b, off, none⟩ ∧ b < w.heap.size ∧ ∀ j, j < L.length → w.cell? ⟨b, off + j, none⟩ = some (.int .u16 (L.getD j 0))
theorem WordsIn.below {w w' : World} {A : Option Addr} {L : List Int} (h : WordsIn w A L) (hb : Below w.heap.size w w') : WordsIn w' A L := by
  intro h0
  obtain ⟨b, off, e, hlt, hc⟩ := h h0
  exact ⟨b, off, e, by have := hb.size; omega, fun j hj => (World.cell?_of_block (a := ⟨b, off + j, none⟩) (hb.block b hlt)).trans (hc j hj)⟩
/-- The digits that a list of words describes. -/
def wordD (L : List Int) : List Int := L.map (· % 10000)
theorem wordD_dig (L : List Int) : Dig (wordD L) := by
  intro x hx
  simp [wordD] at hx
  obtain ⟨y, _, rfl⟩ := hx
  omega
theorem wordD_step {L : List Int} {k : Nat} (h : k < L.length) : wordD (L.take (k + 1)) = wordD (L.take k) ++ [L.getD k 0 % 10000] := by
  unfold wordD
  rw [List.take_succ_eq_append_getElem h, getD_lt h, List.map_append]; rfl
theorem wordD_len (L : List Int) : (wordD L).length = L.length := by simp [wordD]
def MadePost (L : List Int) (W : World) (e : Ending) (w' : World) : Prop :=
  ∃ A c, e = .returned (.agg #[.slice A (digs (val (wordD L))).length c]) ∧ IntsIn w' A (digs (val (wordD L))) ∧ (digs (val (wordD L))).length ≤ c ∧ c ≤ maxLen ∧ Below W.heap.size W w'
def MadeSt (L : List Int) (W : World) (k : Nat) (v : Value) (w : World) : Prop :=
  w.ownsRow (W.heap.size + 1) 3 1 v k (ints (wordD (L.take k))) ∧ Below (W.heap.size + 1) (box1 W) w
theorem made_step {L : List Int} {W w w1 : World} {k : Nat} {v v' : Value} {o : Obj} (h : MadeSt L W k v w) (hk : k < L.length) (ho : w1.ownsRow (W.heap.size + 1) 3 1 v' (k + 1) (ints (wordD (L.take k)) ++ [.int .i64 (L.getD k 0 % 10000)])) (hg : (w.alloc o).grownBy w1 v.ownBlock) : MadeSt L W (k + 1) v' w1 := by
  obtain ⟨h1, h2⟩ := h
  have hs : W.heap.size + 1 ≤ w.heap.size := by have := h2.size; simpa using this
  refine ⟨?_, (h2.alloc hs o).grown hg (by simp; omega) (fun j hj => (h1.lt j hj).1)⟩
  rw [wordD_step hk]
  simpa [ints] using ho
theorem made_post {L : List Int} {W w : World} {A : Option Addr} {k c : Nat} (hk : k = (trimL (wordD L)).length) (hi : IntsIn w A (wordD L)) (hc : (wordD L).length ≤ c) (hm : c ≤ maxLen) (hb : Below (W.heap.size + 1) (box1 W) w) :
    MadePost L W (.returned (.agg #[.slice A k c])) (w.setCell ⟨W.heap.size, 0, none⟩ (.slice A k c)) := by
  obtain ⟨_, _, _, h6, h7⟩ := one1 hb
  have hi2 := hi.trim
  have hl := (trimL_prefix (wordD L)).2
  rw [trimL_digs (wordD_dig L)] at hi2 hk hl
  subst hk
  exact ⟨A, c, rfl, hi2.store (x := .slice none 0 0) h7, by omega, hm, h6.setCell (p := ⟨W.heap.size, 0, none⟩) (Nat.le_refl _) _⟩
set_option maxHeartbeats 1000000 in
theorem made_any (L : List Int) (n c : Nat) (A : Option Addr) (W : World) (hn : L.length = n) (hn60 : n ≤ 60) (hA : WordsIn W A L) (h0 : ∀ j, 0 ≤ L.getD j 0) (h1 : ∀ j, L.getD j 0 ≤ 65535) :
    Calls Tryd.prog 18 #[.slice A n c] W (MadePost L W) := by
  have HN := Lib.hid hn
  have HA := Lib.hid (hA.below (w' := box1 W) ((Below.refl _ _).alloc (Nat.le_refl _) _))
  have H0 := Lib.hid h0
  have H1 := Lib.hid h1
  clear hn hA h0 h1
  obtain ⟨i0, hi, hz0, hz1, hz2⟩ := info_parts Tryd.infoInt
  go_enter Tryd.func18, Tryd.ntmps18
  go_wp2
  go_loopw [3, 4] (fun v iv wr => ∃ k : Nat, k ≤ n ∧ iv = .int .i64 (k : Int) ∧ MadeSt L W k v wr) (fun _ iv _ => n - (intOf iv).toNat)
  case atStart => exact ⟨0, Nat.zero_le _, rfl, World.ownsRow_nil _ _ _ _, Below.refl _ _⟩
  case round =>
    obtain ⟨k, hk, rfl, hst⟩ := hrel
    have HST := Lib.hid hst
    have hsW : W.heap.size + 1 ≤ wr.heap.size := by have := hst.2.size; simpa using this
    have k63 : k + 1 ≤ maxLen := by unfold maxLen; omega
    have k8 : (k + 1) * 8 ≤ 140737488355328 := by omega
    by_cases hlt : k < n
    · have hbx : Below (box1 W).heap.size (box1 W) wr := by have := hst.2; simpa [box1] using this
      obtain ⟨b, off, rfl, hbb, hcc⟩ := (HA.out.below hbx) (by rw [HN.out]; omega)
      have hcell := hcc k (by rw [HN.out]; exact hlt)
      obtain ⟨x, hx⟩ : ∃ x, x = L.getD k 0 := ⟨_, rfl⟩
      have hx0 : 0 ≤ x := by rw [hx]; exact H0.out k
      have hx1 : x ≤ 65535 := by rw [hx]; exact H1.out k
      rw [← hx] at hcell
      have HX := Lib.hid hx
      have hkn : (k : Int) < (n : Int) := by omega
      have hk200 : (k : Int) < 200 := by omega
      have e1 : IntKind.i64.wrap x = x := IntWalk.i64_in _ (by omega)
      have ksz : W.heap.size + 1 ≤ (wr.alloc (.cells #[.int .i64 (x % 10000)] 3)).heap.size := by simp; omega
      clear hst hbx hcc hx
      go_wp2_with (at_builtin; refine wpList_append_own _ rfl _ _ 22 rfl (W.heap.size + 1) 3 i0 (.int .i64 0) 1 8 Tryd.underlying22 hi hz0 hz1 hz2 rfl (by decide) _ _ _ rfl (HST.out.1.alloc _) ⟨wr.heap.size, 0, none⟩ 1 1 [.int .i64 (x % 10000)] rfl rfl (new_int _ _ _) (one_int _) k63 k8 ksz ?_; intro v' w1 hown' hgrow _; have R := Lib.hid (made_step HST.out (by rw [HN.out]; exact hlt) (by rw [← HX.out]; exact hown') hgrow); clear hown' hgrow)
      go_roundw
      case rel => exact ⟨k + 1, by omega, by go_num, R.out⟩
      case measure => simp [intOf]; omega
    · obtain rfl : k = n := by omega
      obtain ⟨ho, hb⟩ := hst
      rw [List.take_of_length_le (by rw [HN.out]; exact Nat.le_refl _)] at ho
      obtain ⟨A1, c1, rfl, hi1, hc1, hm1, _⟩ := own_ints ho
      have HI := Lib.hid hi1
      have HB := Lib.hid hb
      obtain ⟨hcc1, hf1, hs1, _, _⟩ := one1 hb
      clear ho hb hi1
      go_wp2_with fail
      refine (rtrim_any (wordD L) k c1 _ _ (by rw [wordD_len]; exact HN.out) hc1 hm1 HI.out).mono ?_
      rintro e w' ⟨rfl, rfl⟩
      obtain ⟨q, hq⟩ : ∃ q, q = (trimL (wordD L)).length := ⟨_, rfl⟩
      have R := Lib.hid (made_post (W := W) hq HI.out (by rw [wordD_len, HN.out]; exact hc1) hm1 HB.out)
      rw [← hq]
      clear hq
      go_wp2_with fail
      exact bodyPost_ret (v := .agg #[.slice A1 q c1]) (by simp [results, Tryd.results18, go_sem, hcc1]) rfl R.out
end Go.Proofs.YtjmndidbhickdaaDoor
