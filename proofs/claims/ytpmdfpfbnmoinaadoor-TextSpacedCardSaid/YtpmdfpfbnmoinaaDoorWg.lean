/- Contract of text.Word. -/
import Derived.Test.YtpmdfpfbnmoinaaDoorWe
import Derived.Deep.RegionHeld3
import Derived.Deep.DeepFit
namespace Go.Proofs.YtpmdfpfbnmoinaaDoor
open Go.RowKit
set_option linter.unusedVariables false

theorem wst_in (F : Nat → Bool) (k : Nat) : ∀ p ∈ (wst F k).1, p.1 < p.2 ∧ p.2 + 1 ≤ k := by
  induction k with
  | zero => intro p hp; simp [wst] at hp
  | succ k ih =>
    intro p hp
    unfold wst at hp
    split at hp
    · have := ih p hp; omega
    · split at hp
      · rename_i hlt
        simp only [List.mem_append, List.mem_singleton] at hp
        rcases hp with hp | rfl
        · have := ih p hp; omega
        · exact ⟨hlt, Nat.le_refl _⟩
      · have := ih p hp; omega
theorem sp_mem {L : List (Nat × Nat)} {j : Nat} (h : j < L.length) : sp L j ∈ L := by rw [sp_lt h]; exact List.getElem_mem h
theorem span_in {s : ByteArray} {j : Nat} (h : j < (spansOf s.data.toList).length) : (sp (spansOf s.data.toList) j).1 < (sp (spansOf s.data.toList) j).2 ∧ (sp (spansOf s.data.toList) j).2 ≤ s.size := by
  have hm := sp_mem h
  unfold spansOf at hm ⊢
  split at hm
  · rename_i hv
    rw [if_pos hv]
    have := wst_in (fAt s.data.toList) (s.data.toList.length + 1) _ hm
    rw [sizeB] at this
    refine ⟨this.1, ?_⟩
    have h2 := this.2
    rw [sizeB]
    omega
  · simp at hm
theorem tfold_cut (s : ByteArray) (a b : Nat) (w : World) (h : s.size ≤ 120) :
    Calls Tryd.prog 37 #[.string (s.extract a b)] w fun e w' => e = .returned (.string ⟨(foldL (s.extract a b).data.toList).toArray⟩) ∧ Below w.heap.size w w' :=
  tfold_any _ _ (by rw [ByteArray.size_extract]; unfold maxLen; omega)
def cutL (l : List UInt8) (a b : Nat) : List UInt8 := List.take (b - a) (List.drop a l)
def wordL (l : List UInt8) (j : Nat) : List UInt8 := foldL (cutL l (sp (spansOf l) j).1 (sp (spansOf l) j).2)
def wordB (s : ByteArray) (j : Nat) : ByteArray := ⟨(wordL s.data.toList j).toArray⟩
def wordVal (s : ByteArray) (i : Int) : ByteArray × Int :=
  if vErr s.data.toList ≠ 0 then (⟨#[]⟩, vErr s.data.toList) else if i < 0 ∨ ((spansOf s.data.toList).length : Int) ≤ i then (⟨#[]⟩, 6) else (wordB s i.toNat, 0)
def WordPost (s : ByteArray) (i : Int) (w : World) (e : Ending) (w' : World) : Prop :=
  e = .returned (.tuple #[.string (wordVal s i).1, .int .i64 (wordVal s i).2]) ∧ Below w.heap.size w w'
theorem word_post {s : ByteArray} {i : Int} {w w' : World} {x : ByteArray} {n : Int} (h : wordVal s i = (x, n)) (hb : Below w.heap.size w w') : WordPost s i w (.returned (.tuple #[.string x, .int .i64 n])) w' := ⟨by rw [h], hb⟩
theorem wordVal_err {s : ByteArray} {i : Int} {x : Int} (h : vErr s.data.toList = x) (hx : x ≠ 0) : wordVal s i = (⟨#[]⟩, x) := by subst h; unfold wordVal; rw [if_pos hx]
theorem wordVal_out {s : ByteArray} {i : Int} (h : vErr s.data.toList = 0) (hx : i < 0 ∨ ((spansOf s.data.toList).length : Int) ≤ i) : wordVal s i = (⟨#[]⟩, 6) := by unfold wordVal; rw [if_neg (by simp [h]), if_pos hx]
theorem wordVal_in {s : ByteArray} {j : Nat} (h : vErr s.data.toList = 0) (hx : j < (spansOf s.data.toList).length) : wordVal s (j : Int) = (wordB s j, 0) := by
  unfold wordVal; rw [if_neg (by simp [h]), if_neg (by omega), Int.toNat_natCast]

set_option maxHeartbeats 1000000 in
theorem tword_any (s : ByteArray) (i : Int) (w : World) (hs : s.size ≤ maxLen) :
    Calls Tryd.prog 21 #[.string s, .int .i64 i] w (WordPost s i w) := by
  rcases vErr_val s.data.toList with h0 | h0 | h0
  · have h120 : s.size ≤ 120 := by have := vErr_small h0; rw [sizeB] at this; exact this
    have H0 := Lib.hid h0
    clear h0
    by_cases h1 : i < 0
    · have HW := Lib.hid (wordVal_out (i := i) H0.out (.inl h1))
      go_enter Tryd.func21, Tryd.ntmps21
      go_wp2_with (go_at_call 20; refine (twords_any _ _ hs).mono ?_; rintro e w1 ⟨A, c, rfl, hsp, hb⟩; rw [H0.out])
      go_ret2
      exact word_post HW.out hb
    · by_cases h2 : ((spansOf s.data.toList).length : Int) ≤ i
      · have HW := Lib.hid (wordVal_out (i := i) H0.out (.inr h2))
        go_enter Tryd.func21, Tryd.ntmps21
        go_wp2_with (go_at_call 20; refine (twords_any _ _ hs).mono ?_; rintro e w1 ⟨A, c, rfl, hsp, hb⟩; rw [H0.out])
        go_ret2
        exact word_post HW.out hb
      · obtain ⟨j, rfl⟩ := Int.eq_ofNat_of_zero_le (show 0 ≤ i by omega)
        have hj : j < (spansOf s.data.toList).length := by omega
        have HW := Lib.hid (wordVal_in (j := j) H0.out hj)
        obtain ⟨hin1, hin2⟩ := span_in hj
        go_enter Tryd.func21, Tryd.ntmps21
        go_wp2_with (go_at_call 20; refine (twords_any _ _ hs).mono ?_; rintro e w1 ⟨A, c, rfl, hsp, hb⟩; rw [H0.out])
        obtain ⟨g, rfl, hg, hcc⟩ := SpansAt.reads hsp (by omega)
        obtain ⟨c1, c2⟩ := hcc j hj
        obtain ⟨a, ha⟩ : ∃ a, a = (sp (spansOf s.data.toList) j).1 := ⟨_, rfl⟩
        obtain ⟨b, hbb⟩ : ∃ b, b = (sp (spansOf s.data.toList) j).2 := ⟨_, rfl⟩
        rw [← ha] at c1 hin1
        rw [← hbb] at c2 hin1 hin2
        have i1 : (0 : Int) ≤ (a : Int) := by omega
        have i2 : (a : Int) ≤ (b : Int) := by omega
        have i3 : (b : Int) ≤ (s.size : Int) := by omega
        have HS := Lib.hid hsp
        have HB := Lib.hid hb
        have HA := Lib.hid ha
        have HBB := Lib.hid hbb
        clear hsp hcc hb ha hbb
        go_region_held3 (fun w' => w'.cell? ⟨g, j * 2, none⟩ = some (.int .i64 (a : Int)) ∧ w'.cell? ⟨g, j * 2 + 1, none⟩ = some (.int .i64 (b : Int))) (first | go_keep | (have q1 := hb2.cell (p := ⟨g, j * 2, none⟩) hg; have q2 := hb2.cell (p := ⟨g, j * 2 + 1, none⟩) hg; rw [q1, q2]; exact ⟨c1, c2⟩))
          (first | (go_at_call 37; refine (tfold_cut _ _ _ _ h120).mono ?_; rintro e w2 ⟨rfl, hb2⟩))
        go_wp2
        go_ret2
        exact word_post (by rw [HW.out]; unfold wordB wordL cutL; rw [← HA.out, ← HBB.out]) (HB.out.drew.trans (hb2.mono HB.out.size))
  all_goals
    have HW := Lib.hid (wordVal_err (i := i) h0 (by omega))
    have H0 := Lib.hid h0
    clear h0
    go_enter Tryd.func21, Tryd.ntmps21
    go_wp2_with (go_at_call 20; refine (twords_any _ _ hs).mono ?_; rintro e w1 ⟨A, c, rfl, hsp, hb⟩; rw [H0.out])
    go_ret2
    exact word_post HW.out hb
end Go.Proofs.YtpmdfpfbnmoinaaDoor
