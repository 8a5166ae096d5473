/- Contracts of slices.IndexFunc and slices.ContainsFunc at the reference's letters, and what the statement about punctuation answers. -/
import Derived.Test.YtpmdfpfbnmoinaaDoorMathS
import Derived.Test.YtpmdfpfbnmoinaaDoorWr
import Derived.Test.YtpmdfpfbnmoinaaDoorWx
namespace Go.Proofs.YtpmdfpfbnmoinaaDoor
open Go.RowKit
set_option linter.unusedVariables false

def hasL (l : List UInt8) : Bool := l.any fun c => ltr (c.toNat : Int)
theorem hasL_no {l : List UInt8} (h : hasL l = false) : noL l := by
  unfold hasL at h
  rw [List.any_eq_false] at h
  exact fun c hc => by simpa using h c hc
theorem bt_hit {l : List UInt8} {k : Nat} (hk : k < l.length) (h : ltr (bt l k) = true) : hasL l = true := by
  unfold hasL
  rw [List.any_eq_true]
  refine ⟨l[k], List.getElem_mem hk, ?_⟩
  unfold bt at h
  rw [List.getElem?_eq_getElem hk] at h
  exact h
theorem bt_miss {l : List UInt8} (h : ∀ j, j < l.length → ltr (bt l j) = false) : hasL l = false := by
  unfold hasL
  rw [List.any_eq_false]
  intro c hc
  obtain ⟨j, hj, rfl⟩ := List.mem_iff_getElem.1 hc
  have := h j hj
  unfold bt at this
  rw [List.getElem?_eq_getElem hj] at this
  simpa using this
def IdxPost (l : List UInt8) (w : World) (e : Ending) (w' : World) : Prop := ∃ r : Int, e = .returned (.int .i64 r) ∧ -1 ≤ r ∧ decide (0 ≤ r) = hasL l ∧ w = w'
set_option maxHeartbeats 1000000 in
theorem idxf_any (l : List UInt8) (n g c : Nat) (w : World) (hl : l.length = n) (hn : n ≤ 1000) (hc : ∀ j, j < n → w.cell? ⟨g, j, none⟩ = some (.int .u8 (bt l j))) :
    Calls Tryd.prog 31 #[.slice (some ⟨g, 0, none⟩) n c, .func (.func 16) #[] #[]] w (IdxPost l w) := by
  have HC := Lib.hid hc
  have HLN := Lib.hid hl
  clear hc hl
  go_enter Tryd.func31, Tryd.ntmps31
  go_wp2
  go_loop [8] (fun i => ∃ k : Nat, k ≤ n ∧ i = .int .i64 k ∧ ∀ j, j < k → ltr (bt l j) = false) (fun i => n - (intOf i).toNat)
  case atStart => exact ⟨0, Nat.zero_le _, rfl, fun j hj => by omega⟩
  case round =>
    obtain ⟨k, hk, rfl, hall⟩ := hrel
    have HALL := Lib.hid hall
    clear hall
    by_cases hlt : k < n
    · have c1 := HC.out k hlt
      obtain ⟨b0, b1⟩ := bt_bd l k
      obtain ⟨x, hx⟩ : ∃ x, x = bt l k := ⟨_, rfl⟩
      rw [← hx] at c1 b0 b1
      have HX := Lib.hid hx
      clear hx
      cases hi : ltr x with
      | true =>
        have HI := Lib.hid hi
        have HE := Lib.hid (bt_hit (l := l) (k := k) (by rw [HLN.out]; exact hlt) (by rw [← HX.out]; exact hi))
        clear hi
        go_wp2_with (go_at_call 16; refine (rletter_any _ _ (by omega) (by omega)).mono ?_; rintro e w' ⟨rfl, rfl⟩; rw [HI.out])
        go_ret
        exact ⟨k, rfl, by omega, by rw [HE.out]; simp, rfl⟩
      | false =>
        have HI := Lib.hid hi
        clear hi
        go_wp2_with (go_at_call 16; refine (rletter_any _ _ (by omega) (by omega)).mono ?_; rintro e w' ⟨rfl, rfl⟩; rw [HI.out])
        go_round
        case rel => exact ⟨k + 1, by omega, by go_num, fun j hj => by
          by_cases e : j = k
          · subst e; rw [← HX.out]; exact HI.out
          · exact HALL.out j (by omega)⟩
        case measure => simp [intOf]; omega
    · have HE := Lib.hid (bt_miss (l := l) (fun j hj => HALL.out j (by rw [HLN.out] at hj; omega)))
      go_wp2
      go_ret
      exact ⟨-1, rfl, by omega, by rw [HE.out]; rfl, rfl⟩
set_option maxHeartbeats 1000000 in
theorem cont_any (l : List UInt8) (n g c : Nat) (w : World) (hl : l.length = n) (hn : n ≤ 1000) (hc : ∀ j, j < n → w.cell? ⟨g, j, none⟩ = some (.int .u8 (bt l j))) :
    Calls Tryd.prog 15 #[.slice (some ⟨g, 0, none⟩) n c, .func (.func 16) #[] #[]] w fun e w' => e = .returned (.bool (hasL l)) ∧ w = w' := by
  have HC := Lib.hid hc
  clear hc
  go_enter Tryd.func15, Tryd.ntmps15
  go_wp2_with fail
  refine (idxf_any l n g c _ hl hn HC.out).mono ?_
  rintro e w' ⟨r, rfl, hr, hd, rfl⟩
  have HD := Lib.hid hd
  clear hd
  go_wp2_with fail
  go_ret
  exact ⟨ret_bool HD.out, rfl⟩
end Go.Proofs.YtpmdfpfbnmoinaaDoor
