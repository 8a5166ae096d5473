/- Contract of the program: the arcs in the order of the nodes from which they lead. -/
import Derived.Test.YtgdfjblfpeedjaaDEf
import Derived.Test.YtgdfjblfpeedjaaDCX
import Derived.Deep.RegionLaw
namespace Go.Proofs.Ytgdfjblfpeedjaa
open Go.RowKit
set_option linter.unusedVariables false
set_option linter.unusedSimpArgs false
set_option maxRecDepth 100000

/-- The indices of the arcs, in their order. -/
def idL (n : Nat) : List Int := (List.range n).map fun i : Nat => (i : Int)
theorem idL_len (n : Nat) : (idL n).length = n := by simp [idL]
theorem idL_asc (n : Nat) : (idL n).Pairwise (· < ·) := by
  unfold idL
  rw [List.pairwise_map]
  refine List.Pairwise.imp ?_ List.pairwise_lt_range
  intro a b h; omega
theorem idL_mem {n : Nat} {x : Int} : x ∈ idL n ↔ 0 ≤ x ∧ x < (n : Int) := by
  unfold idL
  rw [List.mem_map]
  constructor
  · rintro ⟨i, hi, rfl⟩
    have := List.mem_range.1 hi
    omega
  · intro h
    exact ⟨x.toNat, List.mem_range.2 (by omega), by omega⟩
def idK (n k : Nat) : List Int := (List.range n).map fun i : Nat => if i < k then (i : Int) else 0
theorem idK_len (n k : Nat) : (idK n k).length = n := by simp [idK]
theorem idK_zero (n : Nat) : idK n 0 = List.replicate n 0 := by
  apply List.ext_getElem (by simp [idK])
  intro i h1 h2
  simp [idK]
theorem idK_all (n : Nat) : idK n n = idL n := by
  apply List.ext_getElem (by simp [idK, idL])
  intro i h1 h2
  have : i < n := by simpa [idK] using h1
  simp [idK, idL, this]
theorem idK_step {n k : Nat} (h : k < n) : (idK n k).set k (k : Int) = idK n (k + 1) := by
  apply List.ext_getElem (by simp [idK])
  intro i h1 h2
  have hi : i < n := by simpa [idK] using h2
  rw [List.getElem_set]
  simp only [idK, List.getElem_map, List.getElem_range]
  by_cases e : k = i
  · subst e; rw [if_pos rfl, if_pos (by omega)]
  · rw [if_neg e]
    by_cases h3 : i < k
    · rw [if_pos h3, if_pos (by omega)]
    · rw [if_neg h3, if_neg (by omega)]
/-- The indices in the order of the nodes from which the arcs lead. -/
def IsOrd (g : Gr) (Z : List Int) : Prop := Z.Perm (idL g.rs.length) ∧ Z.Pairwise (RL (kf g))
def ByFromPost (g : Gr) (n : Nat) (w : World) (e : Ending) (w' : World) : Prop := ∃ (gd : Nat) (Z : List Int), e = .returned (.slice (some ⟨gd, 0, none⟩) n n) ∧ IsOrd g Z ∧ Hp w [nums (some ⟨gd, 0, none⟩) n n Z] w'
set_option maxHeartbeats 32000000 in
theorem byFrom_any (g : Gr) (A : Option Addr) (n c : Nat) (w : World) (h : GrIn w A n c g) (hn : n ≤ 6000) :
    Calls Try.prog 15 #[gval g A n c] w (ByFromPost g n w) := by
  have H := Lib.hid h
  clear h
  obtain ⟨gb, hgb⟩ : ∃ gb, gb = w.heap.size := ⟨_, rfl⟩
  obtain ⟨wz, hwz⟩ : ∃ z, z = w.alloc (.cells #[.int .i64 g.n, .slice A n c] 26) := ⟨_, rfl⟩
  have HZ := Lib.hid hwz
  have V := Lib.hid (show Hp w [gbox gb g A n c] wz by rw [hwz, hgb]; exact (Hp.start w).gnew g A n c)
  clear hwz
  go_enter Try.func15, Try.ntmps15
  go_upto_region 1 with fail
  rw [← HZ.out, ← hgb]
  clear HZ hgb
  have hmk := fun w => make_nums (n : Int) n rfl (by omega) w
  obtain ⟨wm, hwm⟩ : ∃ z, z = wz.alloc (.cells (Array.replicate n (.int .i64 0)) 3) := ⟨_, rfl⟩
  have HWM := Lib.hid hwm
  obtain ⟨gd, hgd⟩ : ∃ gd, gd = wz.heap.size := ⟨_, rfl⟩
  have VM := Lib.hid (show Hp w [nums (some ⟨gd, 0, none⟩) n n (idK n 0), gbox gb g A n c] wm by rw [hwm, hgd, idK_zero]; exact V.out.made_numsA n (by omega))
  clear hwm
  obtain ⟨r0, r1, r9⟩ := V.out.gb (i := 0) rfl
  go_upto_region 2 with fail
  rw [← HWM.out, ← hgd]
  clear HWM hgd V hmk r0 r1 r9
  go_wp2_with fail
  go_loopw [11] (fun cv wr => ∃ k : Nat, cv = .int .i64 (k : Int) ∧ k ≤ n ∧ Hp w [nums (some ⟨gd, 0, none⟩) n n (idK n k), gbox gb g A n c] wr) (fun cv _ => n - (intOf cv).toNat)
  case atStart => exact ⟨0, rfl, Nat.zero_le _, VM.out⟩
  case round =>
    clear VM
    obtain ⟨k, rfl, hkn, hV⟩ := hrel
    obtain ⟨wi, rfl⟩ : ∃ wi : World, wi = wr := ⟨_, rfl⟩
    have V := Lib.hid hV
    clear hV
    by_cases hlt : k < n
    case neg =>
      obtain rfl : n = k := by omega
      have V2 := Lib.hid (show Hp w (nums (some ⟨gd, 0, none⟩) n n (idL n) :: [gbox gb g A n c]) wi by have h := V.out; rw [idK_all] at h; exact h)
      have HC := Lib.hid (show CmpOk (kf g) n gb gd n n w [gbox gb g A n c] from fun w' L hp i k hi hk => by
        obtain ⟨q0, q1, q9⟩ := hp.gb (i := 1) rfl
        exact cmpF_any g A n c gb w' q0 q1 q9 (H.out.below hp.below) (by omega) i k hi hk)
      clear V
      go_wp2_with fail
      refine (stableF_any (kf g) n gb gd n n HC.out (by omega) (idL n) wi (idL_len n) (idL_asc n) (fun x hx => idL_mem.1 hx) V2.out).mono ?_
      rintro e w3 ⟨rfl, Z, h1, h2, h3⟩
      have V3 := Lib.hid h3
      have HZ := Lib.hid (show IsOrd g Z from ⟨by rw [H.out.len]; exact h1, h2⟩)
      clear h1 h2 h3
      go_wp2_with fail
      exact bodyPost_ret (v := .slice (some ⟨gd, 0, none⟩) n n) (by simp [results, Try.results15, go_sem]) rfl ⟨gd, Z, rfl, HZ.out, V3.out.front (l1 := [nums (some ⟨gd, 0, none⟩) n n Z])⟩
    obtain ⟨z1, z2, z3⟩ := V.out.num_at (i := 0) rfl (j := k) (by rw [idK_len]; exact hlt)
    have VS := Lib.hid (show Hp w [nums (some ⟨gd, 0, none⟩) n n (idK n (k + 1)), gbox gb g A n c] _ by rw [← idK_step hlt]; exact V.out.num_set (i := 0) rfl k (k : Int))
    go_wp2_with fail
    go_roundw
    case rel => exact ⟨k + 1, by go_num, by omega, VS.out⟩
    case measure => simp [intOf]; omega
end Go.Proofs.Ytgdfjblfpeedjaa
