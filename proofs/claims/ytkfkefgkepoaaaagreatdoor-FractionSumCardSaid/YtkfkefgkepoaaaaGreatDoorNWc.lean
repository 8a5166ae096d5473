/- Contracts of sum, difference and product of lists of digits. -/
import Derived.Test.YtkfkefgkepoaaaaGreatDoorNWb
import Derived.Laws.CopyOwn
import Derived.Laws.MakeOwn
namespace Go.Proofs.YtkfkefgkepoaaaaGreatDoor
open Go.RowKit
set_option linter.unusedVariables false
set_option maxRecDepth 100000

theorem Tryz.infoInt : (Tryz.prog.info? 3).map (fun i => (i.zero, i.size, i.bytes)) = some (some (.int .i64 0), 1, 8) := by kernel_rfl
/-- A call that returns the digits of n, in memory of its own. -/
def Gives (n : Int) (W : World) (e : Ending) (w' : World) : Prop :=
  ∃ A c, e = .returned (.slice A (digs n).length c) ∧ IntsIn w' A (digs n) ∧ (digs n).length ≤ c ∧ c ≤ maxLen ∧ Below W.heap.size W w'
def ints (L : List Int) : List Value := L.map (Value.int .i64)
theorem ints_len (L : List Int) : (ints L).length = L.length := by simp [ints]
theorem ints_one (L : List Int) : ∀ v ∈ ints L, v.oneCell' = true := by
  intro v hv; simp [ints] at hv; obtain ⟨x, _, rfl⟩ := hv; rfl
theorem row_of_cells {w : World} {g : Nat} {D : List Int} {t : TypeId} (h : w.heap[g]? = some (.cells (ints D).toArray t (0, 0))) : RowIs w g 0 D := by
  intro j hj
  refine ⟨?_, ?_⟩
  · rw [Nat.zero_add, cell_of_row w g j _ t (0, 0) h]
    simp [ints, List.getD_eq_getElem?_getD, hj]
  · simp [World.frozen?, h]
theorem made_ints (n : Nat) : madeCells (Value.int .i64 0).cells (n * 1) = (ints (List.replicate n 0)).toArray := by
  apply Array.ext
  · simp [size_madeCells, ints]
  · intro i h1 h2
    simp [madeCells, Value.cells, ints, Nat.mod_one]
theorem ints_splice (D L : List Int) (h : L.length ≤ D.length) : splice (ints D) 0 (ints L) = ints (L ++ D.drop L.length) := by
  simp [splice, ints]
theorem make_eq (N : Int) (n : Nat) (h : N = (n : Int)) (hn : n ≤ 100000) (w : World) :
    (Instr.makeSlice 28 (.int .i64 N) (.int .i64 N)).run Tryz.prog w = .ok (.slice (some ⟨w.heap.size, 0, none⟩) n n) (w.alloc (.cells (ints (List.replicate n 0)).toArray 3)) := by
  obtain ⟨i0, hi, hz0, hz1, hz2⟩ := info_parts Tryz.infoInt
  have := run_make (P := Tryz.prog) w 28 3 i0 (.int .i64 0) Tryz.underlying28 hi hz0 .i64 .i64 N N (by omega) (Int.le_refl _) (by rw [hz2]; omega) (by omega)
  rw [this, hz1, h, ← made_ints]
  simp
/-- The cells that a copy lays into a row of zeros. -/
def laid (L : List Int) (n : Nat) : List Int := L ++ (List.replicate n 0).drop L.length
theorem laid_len {L : List Int} {n : Nat} (h : L.length ≤ n) : (laid L n).length = n := by simp [laid]; omega
theorem laid_val (L : List Int) (n : Nat) : val (laid L n) = val L := by
  unfold laid; rw [val_append, List.drop_replicate, val_zeros]; simp
theorem laid_dig {L : List Int} (h : Dig L) (n : Nat) : Dig (laid L n) := by
  unfold laid; rw [List.drop_replicate]; exact Dig.append.2 ⟨h, Dig.zeros _⟩
theorem laid_row {w : World} {g n : Nat} {L : List Int} {t : TypeId} (hn : L.length ≤ n) (h : w.heap[g]? = some (.cells (splice (ints (List.replicate n 0)) 0 (ints L)).toArray t (0, 0))) : RowIs w g 0 (laid L n) := by
  rw [ints_splice _ _ (by simpa using hn)] at h
  exact row_of_cells h
theorem ints_src {w : World} {A : Option Addr} {L : List Int} (h : IntsIn w A L) : 0 < (ints L).length → ∃ ad, A = some ad ∧ ∀ j v, (ints L)[j]? = some v → w.cell? (ad.add j) = some v := by
  intro h0
  rw [ints_len] at h0
  obtain ⟨b, off, rfl, hb, hc⟩ := h h0
  refine ⟨_, rfl, fun j v hj => ?_⟩
  have hj' : j < L.length := by have := (List.getElem?_eq_some_iff.1 hj).1; rwa [ints_len] at this
  rw [show (⟨b, off, none⟩ : Addr).add j = ⟨b, off + j, none⟩ from by unfold Addr.add; split <;> simp_all, hc j hj']
  rw [← hj]
  simp [ints, List.getD_eq_getElem?_getD, hj']
theorem gives_trim {n : Int} {W w1 w2 : World} {D : List Int} {g c : Nat} (hD : Dig D) (hv : val D = n) (hrow : RowIs w1 g 0 D) (hg : g < w1.heap.size) (hc : D.length ≤ c) (hc2 : c ≤ 100000) (hb : Below W.heap.size W w1) :
    Gives n W (.returned (.slice (some ⟨g, 0, none⟩) (trimL D).length c)) w1 := by
  have h1 := trimL_digs hD
  have h2 := (trimL_prefix D).2
  have h3 := (hrow.ints hg).trim
  rw [hv] at h1
  rw [h1] at h2 h3 ⊢
  exact ⟨_, _, rfl, h3, by omega, by unfold maxLen; omega, hb⟩
theorem szInt : (Tryz.prog.info? 3).map (·.size) = some 1 := by kernel_rfl
theorem copy_to (W : World) (M n c : Nat) (A : Option Addr) (L : List Int) (hn : L.length = n) (hnM : n ≤ M) (hA : IntsIn W A L) :
    ∃ w2, (Builtin.copy_ #[28, 28] 3 #[.slice (some ⟨W.heap.size, 0, none⟩) M M, .slice A n c]).run Tryz.prog (W.alloc (.cells (ints (List.replicate M 0)).toArray 3)) = .ok (.int .i64 n) w2 ∧
      RowIs w2 W.heap.size 0 (laid L M) ∧ Below W.heap.size W w2 ∧ W.heap.size < w2.heap.size := by
  have hb : Below W.heap.size W (W.alloc (.cells (ints (List.replicate M 0)).toArray 3)) := (Below.refl _ _).alloc (Nat.le_refl _) _
  have hg : (W.alloc (.cells (ints (List.replicate M 0)).toArray 3)).heap[W.heap.size]? = some (.cells (ints (List.replicate M 0)).toArray 3 (0, 0)) := heap_alloc_new W _
  by_cases h0 : n = 0
  · subst h0
    have hL : L = [] := List.eq_nil_of_length_eq_zero hn
    subst hL
    refine ⟨_, run_copy_none (P := Tryz.prog) _ 28 28 3 3 _ _ _ _ _ _ Tryz.underlying28 szInt (by simp), ?_, hb, by simp⟩
    have := row_of_cells hg
    simpa [laid] using this
  · obtain ⟨ad, rfl, hsrc⟩ := ints_src (hA.below hb) (by rw [ints_len]; omega)
    have hr := run_copy_row (P := Tryz.prog) (W.alloc (.cells (ints (List.replicate M 0)).toArray 3)) 28 28 3 3 W.heap.size 0 M M ad n c _ 3 (ints L) Tryz.underlying28 szInt hg (by rw [ints_len, hn]; exact (Nat.min_eq_left hnM).symm) hsrc (by simp [ints]; omega) (ints_one L)
    have e : ((ints (List.replicate M 0)).toArray.toList.take 0 ++ ints L ++ (ints (List.replicate M 0)).toArray.toList.drop (0 + (ints L).length)) = ints (laid L M) := by simp [laid, ints]
    rw [e] at hr
    refine ⟨_, hr.trans (by rw [ints_len, hn]; rfl), ?_, below_setRow hb (Nat.le_refl _) _, by simp [World.setRow]⟩
    exact row_of_cells (setRow_heap _ W.heap.size _ (ints (laid L M)).toArray 3 (0, 0) hg)
theorem copy_to' (W : World) (g M n c : Nat) (A : Option Addr) (L : List Int) (hgs : W.heap.size = g) (hn : L.length = n) (hnM : n ≤ M) (hA : IntsIn W A L) :
    ∃ w2, (Builtin.copy_ #[28, 28] 3 #[.slice (some ⟨g, 0, none⟩) M M, .slice A n c]).run Tryz.prog (W.alloc (.cells (ints (List.replicate M 0)).toArray 3)) = .ok (.int .i64 n) w2 ∧
      RowIs w2 g 0 (laid L M) ∧ Below g W w2 ∧ g < w2.heap.size := by subst hgs; exact copy_to W M n c A L hn hnM hA
theorem laid_top {L : List Int} {M : Nat} (hd : Dig L) : -100000 ≤ (laid L M).getD (M - 1) 0 ∧ (laid L M).getD (M - 1) 0 ≤ 100000 := by
  have := (laid_dig hd M).at (M - 1); omega
set_option maxHeartbeats 1000000 in
theorem sum_any (na ca nb cb : Nat) (La Lb : List Int) (Aa Ab : Option Addr) (W : World) (ha : La.length = na) (hb : Lb.length = nb) (hna : na ≤ 10000) (hnb : nb ≤ 10000) (hda : Dig La) (hdb : Dig Lb)
    (hA : IntsIn W Aa La) (hB : IntsIn W Ab Lb) :
    Calls Tryz.prog 70 #[.slice Aa na ca, .slice Ab nb cb] W (Gives (val La + val Lb) W) := by
  have HA := Lib.hid hA
  have HB := Lib.hid hB
  have HLA := Lib.hid ha
  have HLB := Lib.hid hb
  have HDA := Lib.hid hda
  have HDB := Lib.hid hdb
  clear hA hB ha hb hda hdb
  obtain ⟨m, hm1, hm2, hm3⟩ : ∃ m, na ≤ m ∧ nb ≤ m ∧ (m = na ∨ m = nb) := by
    by_cases h : na ≤ nb
    · exact ⟨nb, h, Nat.le_refl _, .inr rfl⟩
    · exact ⟨na, Nat.le_refl _, by omega, .inl rfl⟩
  obtain ⟨M, hM⟩ : ∃ M, M = m + 1 := ⟨_, rfl⟩
  have hMn : M ≤ 10001 := by omega
  have hmM : m < M := by omega
  have HM := Lib.hid hM.symm
  have hmk := make_eq (M : Int) M rfl (by omega)
  have HRES : Hid (∀ (w2 w3 : World) (D : List Int), W.heap.size < w2.heap.size → Below W.heap.size W w2 → D.length = M → Dig (D.take (M - 1)) → val D = val (laid La M) + 1 * val Lb → RowIs w3 W.heap.size 0 D → Chg w2 w3 W.heap.size 0 (0 + M) →
      Gives (val La + val Lb) W (.returned (.slice (some ⟨W.heap.size, 0, none⟩) (trimL D).length M)) w3) := by
    intro w2 w3 D hs hb hl hd hv hr hc
    rw [laid_val, Int.one_mul] at hv
    have hp := pw_mono (show na ≤ m from hm1)
    have hp2 := pw_mono (show nb ≤ m from hm2)
    have v1 := val_lt HDA.out
    have v2 := val_lt HDB.out
    have v3 := val_nonneg HDA.out
    have v4 := val_nonneg HDB.out
    rw [HLA.out] at v1
    rw [HLB.out] at v2
    exact gives_trim (w2 := w3) (dig_of_top (k := m) (by omega) (by rw [show M - 1 = m by omega] at hd; exact hd) (by omega) (by have := pw_pos m; omega)) hv hr (by rw [hc.size]; exact hs) (by omega) (by omega) (hc.below hb (Nat.le_refl _))
  by_cases hlt : na < nb
  all_goals
    try have e1 : IntKind.i64.wrap ((nb : Int) + 1) = (M : Int) := by (rw [IntWalk.i64_in _ (by omega)]; omega)
    try have e2 : IntKind.i64.wrap ((na : Int) + 1) = (M : Int) := by (rw [IntWalk.i64_in _ (by omega)]; omega)
    clear hM hm3
    obtain ⟨w2, hcp, hrow, hbel, hsz⟩ := copy_to W M na ca Aa La HLA.out (by omega) HA.out
    have HROW := Lib.hid hrow
    have HBEL := Lib.hid hbel
    obtain ⟨ht0, ht1⟩ := laid_top (L := La) (M := M) HDA.out
    rw [show M - 1 = m by have := HM.out; omega] at ht0 ht1
    clear hrow hbel
    go_enter Tryz.func70, Tryz.ntmps70
    go_wp2_with fail
    refine (addTimes_any W.heap.size 0 M m M nb cb (laid La M) Lb Ab 1 w2 (laid_len (by rw [HLA.out]; omega)) HM.out (Nat.le_refl _) (by omega) HLB.out hm2 (by omega) (by omega) ((laid_dig HDA.out M).take _) HDB.out HROW.out (HB.out.low HBEL.out (Nat.le_refl _)) hsz ht0 ht1).mono ?_
    rintro e w3 ⟨rfl, D, hD, hdig, hval, hrw, hch⟩
    have R := Lib.hid (HRES.out w2 w3 D hsz HBEL.out hD hdig hval hrw hch)
    have HD := Lib.hid hD
    have HI := Lib.hid (hrw.ints (by rw [hch.size]; exact hsz))
    clear hdig hval hrw hch hD
    go_wp2_with fail
    refine (trim_any D M M _ _ HD.out (Nat.le_refl _) (by unfold maxLen; omega) HI.out).mono ?_
    rintro e w4 ⟨rfl, rfl⟩
    go_wp2_with fail
    go_ret
    exact R.out
end Go.Proofs.YtkfkefgkepoaaaaGreatDoor
