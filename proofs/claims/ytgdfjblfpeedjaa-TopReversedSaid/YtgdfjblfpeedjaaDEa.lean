/- Contract of the program: how arcs are compared. -/
import Derived.Test.YtgdfjblfpeedjaaDAX
import Derived.Test.YtgdfjblfpeedjaaDBb
import Derived.Test.YtgdfjblfpeedjaaDCX
import Derived.Test.YtgdfjblfpeedjaaShelf
import Derived.Deep.RegionLaw
namespace Go.Proofs.Ytgdfjblfpeedjaa
open Go.RowKit
set_option linter.unusedVariables false
set_option linter.unusedSimpArgs false
set_option maxRecDepth 100000

/-- The key of an arc's index: the node from which the arc leads. -/
def kf (g : Gr) (i : Int) : Int := (arc g.rs i).f
theorem cmpI_lt (x y : Int) : Lib.compareInt x y < 0 ↔ x < y := by
  unfold Lib.compareInt
  split
  · omega
  · split <;> omega
set_option maxHeartbeats 16000000 in
theorem cmpF_any (g : Gr) (A : Option Addr) (n c gb : Nat) (w : World) (r0 : w.cell? ⟨gb, 0, none⟩ = some (.int .i64 g.n)) (r1 : w.cell? ⟨gb, 1, none⟩ = some (.slice A n c)) (r9 : gb < w.heap.size) (h : GrIn w A n c g) (hn : n ≤ 1000000) (i k : Nat) (hi : i < n) (hk : k < n) :
    Calls Try.prog 27 #[.int .i64 (i : Int), .int .i64 (k : Int), .pointer (some ⟨gb, 0, none⟩)] w fun e w' => ∃ z, e = .returned (.int .i64 z) ∧ (z < 0 ↔ kf g i < kf g k) ∧ Below w.heap.size w w' := by
  obtain ⟨a, b, off, ha, hae, hA, hb, c0, c1, c2⟩ := h.at hi
  obtain ⟨a', b', off', ha', hae', hA', hb', c0', c1', c2'⟩ := h.at hk
  rw [hA] at hA'
  injection hA' with hA'
  injection hA' with e1 e2 _
  subst e1 e2
  subst hA
  obtain ⟨x, hx⟩ : ∃ x, x = kf g i := ⟨_, rfl⟩
  obtain ⟨y, hy⟩ : ∃ y, y = kf g k := ⟨_, rfl⟩
  have e3 : a.f = x := by rw [hx, hae]; rfl
  have e4 : a'.f = y := by rw [hy, hae']; rfl
  rw [e3] at c0
  rw [e4] at c0'
  have HX := Lib.hid hx
  have HY := Lib.hid hy
  have hi3 : i * 3 ≤ 3000000 := by omega
  have hk3 : k * 3 ≤ 3000000 := by omega
  clear h ha hae ha' hae' hb' c1 c2 c1' c2' e3 e4 hx hy
  have B0 := Lib.hid (Below.refl w.heap.size w)
  go_enter Try.func27, Try.ntmps27
  go_upto_region 1 with fail

  have hKp : Keep [(⟨gb, 1, none⟩, .slice (some ⟨b, off, none⟩) n c), (⟨b, off + i * 3, none⟩, .int .i64 x), (⟨b, off + k * 3, none⟩, .int .i64 y)] w := List.forall_mem_cons.2 ⟨⟨r1, r9⟩, List.forall_mem_cons.2 ⟨⟨c0, hb⟩, List.forall_mem_cons.2 ⟨⟨c0', hb⟩, fun _ h => by simp at h⟩⟩⟩
  refine wp_region_held_drew (S := Keep _) (by kernel_rfl) hKp.drew (fun hHeld => ?_)
  refine tk 0 ?_ rfl ?_ ?_; rotate_left; focus (intro w hSw; clear hSw; go_simp; try (with_reducible rfl))
  try simp only [Act.put, sA, sZ, sS]
  refine tk 1 ?_ rfl ?_ ?_; rotate_left
  · intro wl hSw
    have hSw : Keep _ wl := hSw
    have k0 : wl.cell? ⟨gb, 1, none⟩ = some (.slice (some ⟨b, off, none⟩) n c) := (hSw _ (.head _)).1
    clear hSw
    go_simp
    try (with_reducible rfl)
  try simp only [Act.put, sA, sZ, sS]
  refine tk 2 ?_ rfl ?_ ?_; rotate_left; focus (intro w hSw; clear hSw; go_simp; try (with_reducible rfl))
  try simp only [Act.put, sA, sZ, sS]
  refine tk 3 ?_ rfl ?_ ?_; rotate_left; focus (intro w hSw; clear hSw; go_simp; try (with_reducible rfl))
  try simp only [Act.put, sA, sZ, sS]
  refine tk 4 ?_ rfl ?_ ?_; rotate_left; focus (intro w hSw; clear hSw; go_simp; try (with_reducible rfl))
  try simp only [Act.put, sA, sZ, sS]
  refine tk 5 ?_ rfl ?_ ?_; rotate_left
  · intro wl hSw
    have hSw : Keep _ wl := hSw
    have k0 : wl.cell? ⟨b, off + i * 3, none⟩ = some (.int .i64 x) := (hSw _ (.tail _ (.head _))).1
    clear hSw
    go_simp
    try (with_reducible rfl)
  try simp only [Act.put, sA, sZ, sS]
  refine tk 6 ?_ rfl ?_ ?_; rotate_left; focus (intro w hSw; clear hSw; go_simp; try (with_reducible rfl))
  try simp only [Act.put, sA, sZ, sS]
  refine tk 7 ?_ rfl ?_ ?_; rotate_left
  · intro wl hSw
    have hSw : Keep _ wl := hSw
    have k0 : wl.cell? ⟨gb, 1, none⟩ = some (.slice (some ⟨b, off, none⟩) n c) := (hSw _ (.head _)).1
    clear hSw
    go_simp
    try (with_reducible rfl)
  try simp only [Act.put, sA, sZ, sS]
  refine tk 8 ?_ rfl ?_ ?_; rotate_left; focus (intro w hSw; clear hSw; go_simp; try (with_reducible rfl))
  try simp only [Act.put, sA, sZ, sS]
  refine tk 9 ?_ rfl ?_ ?_; rotate_left; focus (intro w hSw; clear hSw; go_simp; try (with_reducible rfl))
  try simp only [Act.put, sA, sZ, sS]
  refine tk 10 ?_ rfl ?_ ?_; rotate_left; focus (intro w hSw; clear hSw; go_simp; try (with_reducible rfl))
  try simp only [Act.put, sA, sZ, sS]
  refine tk 11 ?_ rfl ?_ ?_; rotate_left
  · intro wl hSw
    have hSw : Keep _ wl := hSw
    have k0 : wl.cell? ⟨b, off + k * 3, none⟩ = some (.int .i64 y) := (hSw _ (.tail _ (.tail _ (.head _)))).1
    clear hSw
    go_simp
    try (with_reducible rfl)
  try simp only [Act.put, sA, sZ, sS]
  refine wpAnyH_ready (rs := [12]) (by kernel_rfl) (by simp) ?_
  refine AllReadyH.cons (List.getElem?_toArray.trans rfl) (fun K hK => ?_) AllReadyH.nil
  go_simp
  refine (Try.cmp_Compare_int x y _).mono ?_
  rintro e w2 ⟨rfl, hw2⟩
  have B2 := Lib.hid (show Below w.heap.size w w2 by rw [hw2]; exact bdrew _)
  have b2 : Below w.drew.heap.size w.drew w2 := by rw [hw2]; exact Below.refl _ _
  clear hw2
  refine hK.out _ _ (hHeld.go b2) (fun hHeld => ?_)
  clear hK K
  try simp only [Act.put, sA, sZ, sS]
  refine tk 13 ?_ rfl ?_ ?_; rotate_left; focus (intro w hSw; clear hSw; go_simp; try (with_reducible rfl))
  try simp only [Act.put, sA, sZ, sS]
  refine wpAnyH_done (by kernel_rfl) ?_ _
  clear hKp hHeld
  go_wp2_with fail
  exact bodyPost_ret (v := .int .i64 (Lib.compareInt x y)) (by simp [results, Try.results27, go_sem]) rfl ⟨Lib.compareInt x y, rfl, by rw [← HX.out, ← HY.out]; exact cmpI_lt x y, B2.out⟩
end Go.Proofs.Ytgdfjblfpeedjaa
