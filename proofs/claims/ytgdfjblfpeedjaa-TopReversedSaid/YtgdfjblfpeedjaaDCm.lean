/- Contract of the reference: how many ways lead on. -/
import Derived.Test.YtgdfjblfpeedjaaDCX
import Derived.Test.YtgdfjblfpeedjaaDAX
import Derived.Deep.RegionLaw
namespace Go.Proofs.Ytgdfjblfpeedjaa
open Go.RowKit
set_option linter.unusedVariables false
set_option linter.unusedSimpArgs false
set_option maxRecDepth 100000

/-- A row of int64. -/
def lnums (A : Option Addr) (n c : Nat) (L : List Int) : Itm := ⟨2, 1, .slice A n c, n, ints L⟩
theorem lint_info : (Try.prog.info? 2).map (fun i => (i.zero, i.size, i.bytes)) = some (some (.int .i64 0), 1, 8) := by kernel_rfl
theorem Hp.lnum_set {W w : World} {l : List Itm} {i g n c : Nat} {L : List Int} (h : Hp W l w) (hi : l[i]? = some (lnums (some ⟨g, 0, none⟩) n c L)) (j : Nat) (x : Int) :
    Hp W (l.set i (lnums (some ⟨g, 0, none⟩) n c (L.set j x))) (w.setCell ⟨g, j, none⟩ (.int .i64 x)) := by
  have := h.store hi (g := g) (cap := c) rfl j (.int .i64 x)
  simpa [lnums, ints] using this
theorem Hp.lnum_at {W w : World} {l : List Itm} {i g n c : Nat} {L : List Int} (h : Hp W l w) (hi : l[i]? = some (lnums (some ⟨g, 0, none⟩) n c L)) {j : Nat} (hj : j < L.length) :
    w.cell? ⟨g, j, none⟩ = some (.int .i64 (L.getD j 0)) ∧ w.frozen? ⟨g, j, none⟩ = false ∧ g < w.heap.size := h.cell hi (cap := c) rfl (ints_at hj)
theorem Hp.made_lnumsA {W w : World} {l : List Itm} (h : Hp W l w) (n : Nat) (hn : n ≤ 1000000000000) : Hp W (lnums (some ⟨w.heap.size, 0, none⟩) n n (List.replicate n 0) :: l) (w.alloc (.cells (Array.replicate n (.int .i64 0)) 2)) := by
  refine h.new _ (bnew _ _) ?_ (fun k hk => by simp [lnums, Value.ownBlock] at hk; omega)
  have := World.ownsRow_lit (base := W.heap.size) (e := 2) (size := 1) w (List.replicate n (.int .i64 0)).toArray n h.below.size (by unfold maxLen; omega) (by simp)
  simpa [lnums, ints] using this
/-- What the reference's ways returns. -/
def RWaysPost (g : Gr) (w : World) (e : Ending) (w' : World) : Prop := ∃ gw : Nat, e = .returned (.slice (some ⟨gw, 0, none⟩) g.n.toNat g.n.toNat) ∧ Hp w [lnums (some ⟨gw, 0, none⟩) g.n.toNat g.n.toNat g.waysL] w'
end Go.Proofs.Ytgdfjblfpeedjaa
