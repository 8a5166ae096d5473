/- What the statement about Decimal answers: true, whatever the input. -/
import Derived.Test.YtbhneddjjgegmaaGreatDoorHt
namespace Go.Proofs.YtbhneddjjgegmaaGreatDoor
open Go.RowKit
set_option linter.unusedVariables false
set_option maxRecDepth 100000

set_option maxHeartbeats 4000000 in
theorem lawdec_any (s : Bool) (L M : List Int) (n c m d : Nat) (A B : Option Addr) (a : Int) (W : World) (hn : L.length = n) (hm : M.length = m) (hnc : n ≤ c) (hmd : m ≤ d) (hc63 : c ≤ maxLen) (hd63 : d ≤ maxLen) (hA : IntsIn W A L) (hB : IntsIn W B M) (hcr : c ≤ 17592186044416) (hdr : d ≤ 17592186044416) (hT : Tab W) (hC : Cutl W) :
    Calls Tryz.prog 7 #[.agg #[.bool s, .slice A n c, .slice B m d], .int .i64 a] W fun e w' => e = .returned (.bool true) ∧ Below W.heap.size W w' := by
  have V0 := Lib.hid ((BoxF.start W).new s A n c B m d)
  have HT := Lib.hid hT
  have HC := Lib.hid hC
  have HN := Lib.hid hn
  have HM := Lib.hid hm
  have HA := Lib.hid hA
  have HB := Lib.hid hB
  clear hT hC hn hm hA hB
  have HLEN := Lib.hid (show ∀ j, (([(n, m)] : List (Nat × Nat)).getD j (0, 0)).1 ≤ 17592186044416 ∧ (([(n, m)] : List (Nat × Nat)).getD j (0, 0)).2 ≤ 17592186044416 from fun j => by
    cases j with
    | zero => exact ⟨by show n ≤ _; omega, by show m ≤ _; omega⟩
    | succ j => simp)
  cases hf : fewF [(n, m)] 210 with
  | false =>
    have HF := Lib.hid hf
    clear hf
    go_enter Tryz.func7, Tryz.ntmps7
    go_wp2_with fail
    refine (awake_any _ (HT.out.below V0.out.2.2) (HC.out.below V0.out.2.2)).mono ?_
    rintro e w1 ⟨rfl, b1⟩
    have V1 := Lib.hid (V0.out.go b1)
    clear b1
    obtain ⟨x0, x1, x2, x3⟩ := V1.out.box (.head _)
    have VL := Lib.hid (V1.out.go (one_new (o := .cells #[.bool s, .slice A n c, .slice B m d] 26)))
    go_wp2_with fail
    refine (few03_any [(n, m)] _ 1 1 210 _ rfl (by omega) HLEN.out (by omega) (fracs_one s A B n c m d _)).mono ?_
    rintro e w2 ⟨rfl, b2⟩
    clear x0 x1 x2 x3
    rw [HF.out]
    have V2 := Lib.hid (VL.out.go b2)
    clear b2
    go_wp2_with fail
    refine (awake_any _ (HT.out.below V2.out.2.2) (HC.out.below V2.out.2.2)).mono ?_
    rintro e w3 ⟨rfl, b3⟩
    have V3 := Lib.hid (V2.out.go b3)
    clear b3
    go_wp2_with fail
    go_ret
    exact ⟨rfl, V3.out.2.2⟩
  | true =>
    have HF := Lib.hid hf
    clear hf
    obtain ⟨⟨tx, ex⟩, hr⟩ : ∃ r, r = decR a s L M := ⟨_, rfl⟩
    have HP := Lib.hid (fun w (b : Below W.heap.size W w) => show Calls Tryz.prog 30 #[.agg #[.bool s, .slice A n c, .slice B m d], .int .i64 a] w (DecP (tx, ex) w) by rw [hr]; exact fdec_any a s L M n c m d A B w HN.out HM.out hnc hmd hc63 hd63 (HA.out.below b) (HB.out.below b) (HT.out.below b))
    have HR := Lib.hid (fun w (b : Below W.heap.size W w) => show Calls Tryz.prog 31 #[.agg #[.bool s, .slice A n c, .slice B m d], .int .i64 a] w (DecP (tx, ex) w) by rw [hr]; exact rdec_any a s L M n c m d A B w HN.out HM.out hnc hmd hc63 hd63 (HA.out.below b) (HB.out.below b))
    clear hr
    go_enter Tryz.func7, Tryz.ntmps7
    go_wp2_with fail
    refine (awake_any _ (HT.out.below V0.out.2.2) (HC.out.below V0.out.2.2)).mono ?_
    rintro e w1 ⟨rfl, b1⟩
    have V1 := Lib.hid (V0.out.go b1)
    clear b1
    obtain ⟨x0, x1, x2, x3⟩ := V1.out.box (.head _)
    have VL := Lib.hid (V1.out.go (one_new (o := .cells #[.bool s, .slice A n c, .slice B m d] 26)))
    go_wp2_with fail
    refine (few03_any [(n, m)] _ 1 1 210 _ rfl (by omega) HLEN.out (by omega) (fracs_one s A B n c m d _)).mono ?_
    rintro e w2 ⟨rfl, b2⟩
    clear x0 x1 x2 x3
    rw [HF.out]
    have V2 := Lib.hid (VL.out.go b2)
    clear b2
    obtain ⟨x0, x1, x2, x3⟩ := V2.out.box (.head _)
    go_wp2_with fail
    refine (HP.out _ V2.out.2.2).mono ?_
    rintro e w3 ⟨rfl, b3⟩
    clear x0 x1 x2 x3
    have V3 := Lib.hid (V2.out.go b3)
    clear b3
    obtain ⟨x0, x1, x2, x3⟩ := V3.out.box (.head _)
    go_wp2_with fail
    refine (HR.out _ V3.out.2.2).mono ?_
    rintro e w4 ⟨rfl, b4⟩
    clear x0 x1 x2 x3
    have V4 := Lib.hid (V3.out.go b4)
    clear b4
    go_wp2_with fail
    go_ret
    exact ⟨rfl, V4.out.2.2⟩
end Go.Proofs.YtbhneddjjgegmaaGreatDoor
