/- Contract of the reference's Text. -/
import Derived.Test.YtlkigmlgbnlkaaaDoorPg
namespace Go.Proofs.YtlkigmlgbnlkaaaDoor
open Go.RowKit
set_option linter.unusedVariables false

set_option maxHeartbeats 4000000 in
theorem rtext_any (L : List Int) (n c : Nat) (A : Option Addr) (w : World) (hl : n = L.length) (hn : n ≤ 1000000) (hA : IntsIn w A L) :
    Calls Tryd.prog 23 #[.slice A n c] w (TextPost L w) := by
  have HL := Lib.hid hl
  by_cases hbig : 60 < n
  · have HE := Lib.hid (text_big (L := L) (by rw [← hl]; exact hbig))
    clear hA hl
    go_enter Tryd.func23, Tryd.ntmps23
    go_wp2
    go_ret2
    exact text_post HE.out rfl (Below.refl _ _)
  · have HB60 := Lib.hid (show ¬ 60 < L.length by rw [← hl]; exact hbig)
    by_cases h0 : 0 < n
    · obtain ⟨b, off, rfl, hlt0, hcc⟩ := hA (by omega)
      have HC := Lib.hid hcc
      clear hA hl hcc
      go_enter Tryd.func23, Tryd.ntmps23
      go_wp2
      go_loopw [4, 5] (fun v i wr => ∃ (k : Nat) (o : ByteArray), k ≤ n ∧ i = .int .i64 k ∧ v = .string o ∧ o.data.toList = textL (L.take k) ∧ (L.take k).all isLet = true ∧ Below w.heap.size w wr) (fun _ i _ => n - (intOf i).toNat)
      case atStart => exact ⟨0, ⟨#[]⟩, Nat.zero_le _, rfl, rfl, rfl, rfl, Below.refl _ _⟩
      case round =>
        obtain ⟨k, o, hk, rfl, rfl, ho, hal, hb⟩ := hrel
        have HO := Lib.hid ho
        have HAL := Lib.hid hal
        have HBB := Lib.hid hb
        have hos : o.size ≤ 120 := by
          have h1 : o.size = o.data.toList.length := rfl
          have h2 := textL_take_len L k
          rw [h1, ho]; omega
        clear hal ho
        by_cases hlt : k < n
        · have hkL : k < L.length := by have := HL.out; omega
          have HKL := Lib.hid hkL
          have hc := (hb.cell (p := ⟨b, off + k, none⟩) hlt0).trans (HC.out k hkL)
          have hsz := hb.size
          have HST := Lib.hid (textL_take hkL)
          have hbw : b < wr.heap.size := Nat.lt_of_lt_of_le hlt0 hsz
          obtain ⟨y, hy⟩ : ∃ y, y = L.getD k 0 := ⟨_, rfl⟩
          have HY := Lib.hid hy
          rw [← hy] at hc
          clear hy hb hkL
          cases hil : isLet y with
          | false =>
            have HE := Lib.hid (text_bad' HB60.out HKL.out (by rw [← HY.out]; exact hil))
            rcases notLet hil with hy2 | hy2
            · clear hil
              go_wp2
              go_ret2
              exact text_post HE.out rfl HBB.out
            · have hy3 : ¬ y < 0 := by omega
              clear hil
              go_wp2
              go_ret2
              exact text_post HE.out rfl HBB.out
          | true =>
            have HAL2 := Lib.hid (all_take HKL.out HAL.out (by rw [← HY.out]; exact hil))
            have HST2 := Lib.hid (show textL (L.take (k + 1)) = textL (L.take k) ++ pieceL y by rw [HST.out, ← HY.out])
            rcases isLet_cases hil with rfl | rfl | rfl | rfl
            · clear hil
              have s1 : ∀ w : World, (Op.stringOp .add o (⟨#[117]⟩ : ByteArray)).run Tryd.prog w = .ok (.string (o ++ (⟨#[117]⟩ : ByteArray))) w := fun w => run_string_add_sum w _ _ (by show _ + 1 ≤ _; omega)
              have HN := Lib.hid (show (o ++ (⟨#[117]⟩ : ByteArray)).data.toList = textL (L.take (k + 1)) by rw [cat_any, HST2.out, HO.out]; rfl)
              go_wp2
              go_roundw
              case rel => exact ⟨k + 1, _, by omega, by go_num, rfl, HN.out, HAL2.out, HBB.out.alloc hsz _⟩
              case measure => simp [intOf]; omega
            · clear hil
              have s1 : ∀ w : World, (Op.stringOp .add o (⟨#[45]⟩ : ByteArray)).run Tryd.prog w = .ok (.string (o ++ (⟨#[45]⟩ : ByteArray))) w := fun w => run_string_add_sum w _ _ (by show _ + 1 ≤ _; omega)
              have HN := Lib.hid (show (o ++ (⟨#[45]⟩ : ByteArray)).data.toList = textL (L.take (k + 1)) by rw [cat_any, HST2.out, HO.out]; rfl)
              go_wp2
              go_roundw
              case rel => exact ⟨k + 1, _, by omega, by go_num, rfl, HN.out, HAL2.out, HBB.out.alloc hsz _⟩
              case measure => simp [intOf]; omega
            · clear hil
              have s1 : ∀ w : World, (Op.stringOp .add o (⟨#[117, 46]⟩ : ByteArray)).run Tryd.prog w = .ok (.string (o ++ (⟨#[117, 46]⟩ : ByteArray))) w := fun w => run_string_add_sum w _ _ (by show _ + 2 ≤ _; omega)
              have HN := Lib.hid (show (o ++ (⟨#[117, 46]⟩ : ByteArray)).data.toList = textL (L.take (k + 1)) by rw [cat_any, HST2.out, HO.out]; rfl)
              go_wp2
              go_roundw
              case rel => exact ⟨k + 1, _, by omega, by go_num, rfl, HN.out, HAL2.out, HBB.out.alloc hsz _⟩
              case measure => simp [intOf]; omega
            · clear hil
              have s1 : ∀ w : World, (Op.stringOp .add o (⟨#[45, 46]⟩ : ByteArray)).run Tryd.prog w = .ok (.string (o ++ (⟨#[45, 46]⟩ : ByteArray))) w := fun w => run_string_add_sum w _ _ (by show _ + 2 ≤ _; omega)
              have HN := Lib.hid (show (o ++ (⟨#[45, 46]⟩ : ByteArray)).data.toList = textL (L.take (k + 1)) by rw [cat_any, HST2.out, HO.out]; rfl)
              go_wp2
              go_roundw
              case rel => exact ⟨k + 1, _, by omega, by go_num, rfl, HN.out, HAL2.out, HBB.out.alloc hsz _⟩
              case measure => simp [intOf]; omega
        · obtain rfl : k = n := by omega
          have HT := Lib.hid (show L.take k = L from List.take_of_length_le (by have := HL.out; omega))
          have HE := Lib.hid (text_ok HB60.out (by rw [← HT.out]; exact HAL.out))
          clear hb
          go_wp2
          go_ret2
          exact text_post HE.out (of_list (by rw [HO.out, HT.out])) HBB.out
    · obtain rfl : n = 0 := by omega
      have hL0 : L = [] := List.eq_nil_of_length_eq_zero hl.symm
      have HE := Lib.hid (show textVal L = ([], 0) by rw [hL0]; rfl)
      clear hl hA hL0
      go_enter Tryd.func23, Tryd.ntmps23
      go_wp2
      refine wp_loop_rounds 1 ?_
      rw [rounds_succ]
      go_wp2
      go_ret2
      exact text_post HE.out rfl (Below.refl _ _)
end Go.Proofs.YtlkigmlgbnlkaaaDoor
