/- What the statement on Valid answers: true, whatever the input. -/
import Derived.Test.YtfgnekbkcmpdiaaGreatDoorOs
import Derived.Test.YtfgnekbkcmpdiaaGreatDoorOq
import Derived.Test.YtfgnekbkcmpdiaaGreatDoorOx
namespace Go.Proofs.YtfgnekbkcmpdiaaGreatDoor
open Go.RowKit
set_option linter.unusedVariables false
set_option linter.unusedSimpArgs false
set_option maxRecDepth 100000

set_option maxHeartbeats 2000000 in
theorem rovalid_any (nm : List UInt8) (L : List Sg) (A : Option Addr) (n c : Nat) (w : World) (hnm : nm.length ≤ 140737488355328) (hl : L.length = n) (hn : n ≤ 17592186044416) (hs : SgBd L) (hA : SgnIn w A L) :
    Calls Tryz.prog 19 #[.agg #[.string (bs nm), .slice A n c]] w fun e w' => e = .returned (.int .i64 (vO nm L).2) ∧ Below w.heap.size w w' := by
  obtain ⟨g1, hg1⟩ : ∃ z, z = w.heap.size := ⟨_, rfl⟩
  obtain ⟨W1, hW1⟩ : ∃ z, z = w.alloc (.cells #[.string (bs nm), .slice A n c] 25) := ⟨_, rfl⟩
  have V1 := Lib.hid (show Hp w [obox g1 nm A n c] W1 by rw [hW1, hg1]; exact (Hp.start w).obox_new nm A n c)
  have HW1 := Lib.hid hW1
  have HG1 := Lib.hid hg1
  have HF := Lib.hid (rfirst_any nm L A n c W1 hnm hl hn hs (hA.below V1.out.below))
  obtain ⟨x0, x1, x2⟩ := V1.out.obox_at (i := 0) rfl
  clear hW1 hg1 hA hs hl hnm
  go_enter Tryz.func19, Tryz.ntmps19
  go_upto_region 1 with fail
  rw [← HG1.out, ← HW1.out]
  go_wp2_with fail
  refine HF.out.mono ?_
  rintro e w2 ⟨rfl, hb⟩
  have B2 := Lib.hid (btwo V1.out.below hb)
  clear hb
  go_wp2_with fail
  go_ret
  exact ⟨rfl, B2.out⟩
end Go.Proofs.YtfgnekbkcmpdiaaGreatDoor
