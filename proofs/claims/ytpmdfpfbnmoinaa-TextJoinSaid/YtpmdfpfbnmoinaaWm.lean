/- Contract of text.Join. -/
import Derived.Test.YtpmdfpfbnmoinaaWl
import Derived.Shelf.Strings.OnBuilder
namespace Go.Proofs.Ytpmdfpfbnmoinaa
open Go.RowKit
set_option linter.unusedVariables false

def JoinPost (g : Nat → List UInt8) (n : Nat) (w : World) (e : Ending) (w' : World) : Prop :=
  e = .returned (.tuple #[.string ⟨(joinVal g n).1.toArray⟩, .int .i64 (joinVal g n).2]) ∧ Below w.heap.size w w'
theorem join_post {g : Nat → List UInt8} {n : Nat} {w w' : World} {x : List UInt8} {i : Int} {b : ByteArray} (h : joinVal g n = (x, i)) (hx : b = ⟨x.toArray⟩) (hb : Below w.heap.size w w') : JoinPost g n w (.returned (.tuple #[.string b, .int .i64 i])) w' := by
  subst hx; exact ⟨by rw [h], hb⟩
theorem joinVal_err {g : Nat → List UInt8} {n : Nat} {x : Int} (h : jst g n = x) (h0 : x ≠ 0) : joinVal g n = ([], x) := by subst h; unfold joinVal; rw [if_pos h0]
theorem joinVal_big {g : Nat → List UInt8} {n : Nat} (h : jst g n = 0) (h1 : 120 < (joinF g n).length) : joinVal g n = ([], 3) := by unfold joinVal; rw [if_neg (by simp [h]), if_pos h1]
theorem joinVal_ok {g : Nat → List UInt8} {n : Nat} (h : jst g n = 0) (h1 : ¬ 120 < (joinF g n).length) : joinVal g n = (joinF g n, 0) := by unfold joinVal; rw [if_neg (by simp [h]), if_neg h1]
theorem jn_any (n c b off : Nat) (f : Nat → ByteArray) (w : World) (hlt : b < w.heap.size) (hn : n ≤ 60) (hc : n ≤ c) (hcc : ∀ i, i < n → w.cell? ⟨b, off + i, none⟩ = some (.string (f i))) (hl : (joinF (lists f) n).length ≤ 500) :
    Calls Try.prog 30 #[.slice (some ⟨b, off, none⟩) n c, .string ⟨#[32]⟩] w fun e w' => e = .returned (.string ⟨(joinF (lists f) n).toArray⟩) ∧ Below w.heap.size w w' := by
  have e1 : ((List.range n).map f).length = n := by simp
  have e2 : Lib.join (((List.range n).map f).map (·.data.toList)) (⟨#[32]⟩ : ByteArray).data.toList = joinF (lists f) n := by
    rw [← lib_join, List.map_map]; rfl
  have := Try.strings_Join b off c ((List.range n).map f) ⟨#[32]⟩ w (fun j x hj => by
    have hj' : j < n := by have := (List.getElem?_eq_some_iff.1 hj).1; simpa using this
    rw [hcc j hj']
    simpa [hj'] using hj) hlt (by rw [e1]; omega) (by rw [e1]; exact hc) (by rw [e2]; omega)
  rw [e1, e2] at this
  exact this

theorem empty_of {x : ByteArray} (h : x.size = 0) : x.data.toList = [] := by
  have : x.data.toList.length = 0 := h
  exact List.eq_nil_of_length_eq_zero this
theorem nonempty_of {x : ByteArray} (h : x.size ≠ 0) : x.data.toList ≠ [] := by
  intro e
  have : x.data.toList.length = 0 := by rw [e]; rfl
  exact h this
set_option maxHeartbeats 1000000 in
theorem tjoin_any (n c : Nat) (f : Nat → ByteArray) (A : Option Addr) (w : World) (hn : n ≤ 60) (hnc : n ≤ c) (hA : StrArg w A n f) (hl : (joinF (lists f) n).length ≤ 500) :
    Calls Try.prog 20 #[.slice A n c] w (JoinPost (lists f) n w) := by
  by_cases h0 : 0 < n
  · obtain ⟨b, off, rfl, hlt0, hcc⟩ := hA.2 h0
    have HC := Lib.hid hcc
    have HA := Lib.hid hA.1
    clear hA hcc
    go_enter Try.func20, Try.ntmps20
    go_wp2
    go_loopw [4, 9] (fun t i wr => ∃ k T : Nat, k ≤ n ∧ i = .int .i64 k ∧ t = .int .i64 T ∧ T = (joinF (lists f) k).length ∧ T ≤ 500 ∧ jst (lists f) k = 0 ∧ wr = w) (fun _ i _ => n - (intOf i).toNat)
    case atStart => exact ⟨0, 0, Nat.zero_le _, rfl, rfl, rfl, by omega, rfl, rfl⟩
    case round =>
      obtain ⟨k, T, hk, rfl, rfl, hT, hTb, hj, rfl⟩ := hrel
      have HT := Lib.hid hT
      have HJ := Lib.hid hj
      clear hT hj
      by_cases hlt : k < n
      · have hc := HC.out k hlt
        have hz := HA.out k hlt
        have hzm : (f k).size ≤ maxLen := by unfold maxLen; omega
        obtain ⟨x, hx⟩ : ∃ x, x = f k := ⟨_, rfl⟩
        rw [← hx] at hc hz hzm
        have HX := Lib.hid hx
        clear hx
        by_cases hx0 : x.size = 0
        · have HE := Lib.hid (joinVal_err (jst_stop hlt HJ.out (err1_empty (show lists f k = [] by unfold lists; rw [← HX.out]; exact empty_of hx0)) (by omega)) (by omega))
          have hx1 : x.toList = [] := by rw [ByteArray.toList_eq]; exact empty_of hx0
          have hx2 : x.toList.isEmpty = true := by rw [hx1]; rfl
          clear hx0 hx1
          go_wp2
          go_ret2
          exact join_post HE.out rfl (Below.refl _ _)
        · have hx2 : x.toList.isEmpty = false := by
            rw [ByteArray.toList_eq]
            cases e : x.data.toList with
            | nil => exact absurd e (nonempty_of hx0)
            | cons => rfl
          have HX0 := Lib.hid (nonempty_of hx0)
          clear hx0
          cases hal : allLtr x.data.toList with
          | false =>
            have HE := Lib.hid (joinVal_err (jst_stop hlt HJ.out (err1_bad (show lists f k ≠ [] by unfold lists; rw [← HX.out]; exact HX0.out) (by unfold lists; rw [← HX.out]; exact hal)) (by omega)) (by omega))
            have HAL := Lib.hid hal
            clear hal
            go_wp2_with (go_at_call 29; refine (only_any _ _ hzm).mono ?_; rintro e w' ⟨rfl, rfl⟩; rw [HAL.out])
            go_ret2
            exact join_post HE.out rfl (Below.refl _ _)
          | true =>
            have HJ2 := Lib.hid (show jst (lists f) (k + 1) = 0 by rw [jst_step HJ.out]; exact err1_ok (by unfold lists; rw [← HX.out]; exact HX0.out) (by unfold lists; rw [← HX.out]; exact hal))
            have HAL := Lib.hid hal
            have hlen := joinF_succ_len (lists f) k
            rw [← HT.out, show (lists f k).length = x.size by unfold lists; rw [← HX.out]; rfl] at hlen
            have hmono := joinF_mono (lists f) (show k + 1 ≤ n from hlt)
            clear hal
            by_cases hk0 : 0 < k
            · rw [if_pos hk0] at hlen
              have HLEN := Lib.hid hlen
              have hb5 : T + 1 + x.size ≤ 500 := by omega
              clear hlen hmono
              go_wp2_with (go_at_call 29; refine (only_any _ _ hzm).mono ?_; rintro e w' ⟨rfl, rfl⟩; rw [HAL.out])
              go_roundw
              case rel => exact ⟨k + 1, T + 1 + x.size, by omega, by go_num, by go_num, HLEN.out.symm, hb5, HJ2.out, by trivial⟩
              case measure => simp [intOf]; omega
            · rw [if_neg hk0] at hlen
              have HLEN := Lib.hid hlen
              have hb5 : T + x.size ≤ 500 := by omega
              clear hlen hmono
              go_wp2_with (go_at_call 29; refine (only_any _ _ hzm).mono ?_; rintro e w' ⟨rfl, rfl⟩; rw [HAL.out])
              go_roundw
              case rel => exact ⟨k + 1, T + x.size, by omega, by go_num, by go_num, by have := HLEN.out; omega, hb5, HJ2.out, by trivial⟩
              case measure => simp [intOf]; omega
      · obtain rfl : k = n := by omega
        by_cases hbig : 120 < T
        · have HE := Lib.hid (joinVal_big HJ.out (by rw [← HT.out]; exact hbig))
          go_wp2
          go_ret2
          exact join_post HE.out rfl (Below.refl _ _)
        · have HE := Lib.hid (joinVal_ok HJ.out (by rw [← HT.out]; exact hbig))
          go_wp2_with fail
          refine (jn_any k c b off f _ hlt0 hn hnc HC.out hl).mono ?_
          rintro e w2 ⟨rfl, hb2⟩
          go_wp2_with fail
          go_ret2
          exact join_post HE.out rfl hb2
  · obtain rfl : n = 0 := by omega
    go_enter Try.func20, Try.ntmps20
    go_wp2
    refine wp_loop_rounds 1 ?_
    rw [rounds_succ]
    go_wp2_with fail
    refine (Try.strings_Join_none A c _ _).mono ?_
    rintro e w' ⟨rfl, rfl⟩
    go_wp2_with fail
    go_ret2
    exact join_post (x := []) (i := 0) rfl rfl (Below.refl _ _)
end Go.Proofs.Ytpmdfpfbnmoinaa
