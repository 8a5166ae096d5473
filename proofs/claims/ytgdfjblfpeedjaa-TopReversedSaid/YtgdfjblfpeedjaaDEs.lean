/- Contract of the program: how many ways a spread holds. -/
import Derived.Test.YtgdfjblfpeedjaaDEr
import Derived.Test.YtgdfjblfpeedjaaDCg
namespace Go.Proofs.Ytgdfjblfpeedjaa
open Go.RowKit
set_option linter.unusedVariables false
set_option linter.unusedSimpArgs false
set_option maxRecDepth 100000

theorem CellsIn.uint {w : World} {A : Option Addr} {L : List Int} (h : CellsIn w A (uints L)) {j : Nat} (hj : j < L.length) : ∃ b off, A = some ⟨b, off, none⟩ ∧ b < w.heap.size ∧ w.cell? ⟨b, off + j, none⟩ = some (.int .u64 (L.getD j 0)) := by
  obtain ⟨b, off, e, hlt, hc⟩ := h (by rw [uints_len]; omega)
  exact ⟨b, off, e, hlt, hc j _ (uints_at hj)⟩
/-- A sum that does not grow beyond what counts as too large. -/
def capS (U : List Int) : Int := U.foldl (fun n x => min (n + x) 4611686018427387905) 0
theorem capS_snoc (U : List Int) (x : Int) : capS (U ++ [x]) = min (capS U + x) 4611686018427387905 := by unfold capS; rw [List.foldl_append]; rfl
def UOk (U : List Int) : Prop := ∀ x ∈ U, 0 ≤ x ∧ x ≤ 4611686018427387905
theorem capS_ok (U : List Int) (h : UOk U) : ∀ k, 0 ≤ capS (U.take k) ∧ capS (U.take k) ≤ 4611686018427387905 := by
  intro k
  induction k with
  | zero => exact ⟨Int.le_refl _, by show (0 : Int) ≤ 4611686018427387905; decide⟩
  | succ k ih =>
    by_cases hk : k < U.length
    · have e : U.take (k + 1) = U.take k ++ [U[k]] := by rw [List.take_add_one, List.getElem?_eq_getElem hk]; rfl
      have := h _ (List.getElem_mem hk)
      rw [e, capS_snoc]
      omega
    · rw [List.take_of_length_le (by omega)]
      rwa [List.take_of_length_le (by omega)] at ih
set_option maxHeartbeats 16000000 in
theorem sum_any (gs so m d : Nat) (D : Option Addr) (U : List Int) (w : World) (h1 : w.cell? ⟨gs, so + 1, none⟩ = some (.slice D m d)) (hm : U.length = m) (hmb : m ≤ 1000000) (hU : UOk U) (hD : CellsIn w D (uints U)) :
    Calls Try.prog 25 #[.pointer (some ⟨gs, so, none⟩)] w fun e w' => e = .returned (.int .u64 (capS U)) ∧ w' = w := by
  have HM := Lib.hid hm
  have HU := Lib.hid hU
  have HD := Lib.hid hD
  have hgs := World.block_lt_of_cell? w _ h1
  clear hm hU hD
  go_enter Try.func25, Try.ntmps25
  go_wp2_with fail
  clear h1
  have HS0 := Lib.hid (show (0 : Int) = capS (U.take 0) from rfl)
  go_loopw [11, 3] (fun cv nv wr => ∃ (k : Nat) (s : Int), cv = .int .i64 (k : Int) ∧ nv = .int .u64 s ∧ k ≤ m ∧ s = capS (U.take k) ∧ wr = w) (fun cv _ _ => m - (intOf cv).toNat)
  case atStart => exact ⟨0, 0, rfl, rfl, Nat.zero_le _, HS0.out, rfl⟩
  case round =>
    clear HS0
    obtain ⟨k, s, rfl, rfl, hkm, hs, rfl⟩ := hrel
    have HS := Lib.hid hs
    have hsb := capS_ok U HU.out k
    rw [← hs] at hsb
    clear hs
    by_cases hlt : k < m
    case neg =>
      obtain rfl : k = m := by omega
      go_wp2_with fail
      go_ret
      have := HS.out
      rw [List.take_of_length_le (by rw [HM.out]; exact Nat.le_refl _)] at this
      exact ⟨by rw [this]; rfl, rfl⟩
    obtain ⟨b, off, rfl, hbl, hcu⟩ := HD.out.uint (j := k) (by rw [HM.out]; exact hlt)
    obtain ⟨x, hx⟩ : ∃ x, x = U.getD k 0 := ⟨_, rfl⟩
    rw [← hx] at hcu
    have hxm : U[k]? = some x := by rw [hx, List.getD_eq_getElem?_getD, List.getElem?_eq_getElem (by rw [HM.out]; exact hlt)]; rfl
    have hxb := HU.out x (List.mem_of_getElem? hxm)
    have HN := Lib.hid (show min (s + x) 4611686018427387905 = capS (U.take (k + 1)) by
      rw [List.take_add_one, hxm, HS.out]; exact (capS_snoc _ _).symm)
    have g2 : IntKind.u64.wrap (s + x) = s + x := IntWalk.u64_in _ (by omega)
    clear hx hxm
    go_wp2_with fail
    go_roundw
    case rel => exact ⟨k + 1, _, by go_num, rfl, by omega, HN.out, trivial⟩
    case measure => simp [intOf]; omega

end Go.Proofs.Ytgdfjblfpeedjaa
