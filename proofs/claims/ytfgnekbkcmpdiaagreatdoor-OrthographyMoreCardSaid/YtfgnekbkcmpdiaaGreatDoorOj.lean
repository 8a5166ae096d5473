/- Contracts: Find of both sides; how a list of sounds begins and ends. -/
import Derived.Test.YtfgnekbkcmpdiaaGreatDoorOi
import Derived.Test.YtfgnekbkcmpdiaaGreatDoorUw
namespace Go.Proofs.YtfgnekbkcmpdiaaGreatDoor
open Go.RowKit
set_option linter.unusedVariables false
set_option linter.unusedSimpArgs false
set_option maxRecDepth 100000

/-- The indices of the signs with a text. -/
def fndF (t : List UInt8) : Nat → List Sg → List Int
  | _, [] => []
  | i, x :: r => if (x.t == t) = true then (i : Int) :: fndF t (i + 1) r else fndF t (i + 1) r
def fndI (t : List UInt8) (L : List Sg) : List Int := fndF t 0 L
theorem fndF_cat (t : List UInt8) : ∀ (a b : List Sg) (i : Nat), fndF t i (a ++ b) = fndF t i a ++ fndF t (i + a.length) b
  | [], b, i => by simp [fndF]
  | x :: r, b, i => by
    have ih := fndF_cat t r b (i + 1)
    rw [List.cons_append, fndF, fndF, ih, List.length_cons, show i + 1 + r.length = i + (r.length + 1) by omega]
    split <;> simp
theorem fndI_snoc (t : List UInt8) (a : List Sg) (x : Sg) : fndI t (a ++ [x]) = fndI t a ++ (if (x.t == t) = true then [(a.length : Int)] else []) := by
  unfold fndI; rw [fndF_cat]; simp [fndF]
theorem fndF_le (t : List UInt8) : ∀ (L : List Sg) (i : Nat), (fndF t i L).length ≤ L.length
  | [], _ => Nat.le_refl _
  | x :: r, i => by
    have := fndF_le t r (i + 1)
    rw [fndF]; split <;> simp only [List.length_cons] <;> omega
theorem fndI_le (t : List UInt8) (L : List Sg) : (fndI t L).length ≤ L.length := fndF_le t L 0
set_option maxHeartbeats 4000000 in
theorem find_any (nm : List UInt8) (L : List Sg) (t : List UInt8) (A : Option Addr) (n c : Nat) (w : World) (hl : L.length = n) (hn : n ≤ 1000000000000) (hA : SgnIn w A L) :
    Calls Tryz.prog 17 #[.agg #[.string (bs nm), .slice A n c], .string (bs t)] w fun e w' => ∃ C m d, e = .returned (.slice C m d) ∧ m = (fndI t L).length ∧ Hp w [nums C m d (fndI t L)] w' := by
  obtain ⟨g1, hg1⟩ : ∃ z, z = w.heap.size := ⟨_, rfl⟩
  obtain ⟨W1, hW1⟩ : ∃ z, z = w.alloc (.cells #[.string (bs nm), .slice A n c] 25) := ⟨_, rfl⟩
  have V0 := Lib.hid (show Hp w [nums none 0 0 (fndI t (L.take 0)), obox g1 nm A n c] W1 by rw [hW1, hg1]; exact ((Hp.start w).obox_new nm A n c).nil_row _ rfl rfl rfl)
  have HW1 := Lib.hid hW1
  have HG1 := Lib.hid hg1
  have HL := Lib.hid hl
  have HA := Lib.hid hA
  obtain ⟨z0, z1, z2⟩ := V0.out.obox_at (i := 1) rfl
  clear hl hA hW1 hg1
  go_enter Tryz.func17, Tryz.ntmps17
  go_upto_region 2 with fail
  rw [← HG1.out, ← HW1.out]
  go_wp2_with fail
  go_loopw [5, 11] (fun v i wr => ∃ (k m d : Nat) (C : Option Addr), k ≤ n ∧ m ≤ k ∧ i = .int .i64 k ∧ v = .slice C m d ∧ m = (fndI t (L.take k)).length ∧ Hp w [nums C m d (fndI t (L.take k)), obox g1 nm A n c] wr) (fun _ i _ => n - (intOf i).toNat)
  case atStart => exact ⟨0, 0, 0, none, Nat.zero_le _, Nat.zero_le _, rfl, rfl, rfl, V0.out⟩
  case round =>
    clear V0 z0 z1 z2
    obtain ⟨k, m, d, C, hk, hm, rfl, rfl, hml, V00⟩ := hrel
    have HML := Lib.hid hml
    have V := Lib.hid V00
    clear hml V00
    obtain ⟨z0, z1, z2⟩ := V.out.obox_at (i := 1) rfl
    by_cases hlt : k < n
    · obtain ⟨x, hx⟩ := get_at (L := L) (k := k) (by have := HL.out; omega)
      obtain ⟨b, off, Aj, cj, hAe, hb, c0, c1, c2, c3, c4⟩ := (HA.out.below V.out.below).at hx
      have HX := Lib.hid hx
      rw [hAe] at z1
      have HAE := Lib.hid hAe
      subst hAe
      clear hx c4
      obtain ⟨g2, hg2⟩ : ∃ z, z = wr.heap.size := ⟨_, rfl⟩
      obtain ⟨W2, hW2⟩ : ∃ z, z = wr.alloc (.cells #[.string (bs x.t), .slice Aj x.s.length cj, .int .i64 x.c, .int .i64 x.w] 34) := ⟨_, rfl⟩
      have V2 := Lib.hid (show Hp w [nums C m d (fndI t (L.take k)), obox g1 nm (some ⟨b, off, none⟩) n c] W2 by rw [hW2]; exact V.out.go (bnew _ _))
      have VS := Lib.hid (show Hp w [sgbox g2 (Aj, cj) x, nums C m d (fndI t (L.take k)), obox g1 nm (some ⟨b, off, none⟩) n c] W2 by rw [hW2, hg2]; exact V.out.sgbox_new Aj cj x)
      have HW2 := Lib.hid hW2
      have HG2 := Lib.hid hg2
      have hk4 : k * 4 ≤ 4000000000000 := by omega
      clear hW2 hg2
      go_upto_region 5 with fail
      rw [← HG2.out, ← HW2.out]
      clear c0 c1 c2 c3 hb
      obtain ⟨y0, y1, y2, y3, y4⟩ := VS.out.sgbox_at (i := 0) rfl
      cases hnu : (x.t == t) with
      | true =>
        have e1 : ((bs x.t).toList == (bs t).toList) = true := by rw [toL, toL]; exact hnu
        have HS := Lib.hid (show fndI t (L.take (k + 1)) = fndI t (L.take k) ++ [(k : Int)] by
          rw [take_snoc HX.out, fndI_snoc, if_pos hnu, List.length_take, show min k L.length = k by have := HL.out; omega])
        clear hnu
        obtain ⟨wy, hwy⟩ : ∃ z, z = W2.alloc (.cells #[.int .i64 (k : Int)] 3) := ⟨_, rfl⟩
        have V3 := Lib.hid (show Hp w (box 3 W2.heap.size [.int .i64 (k : Int)] :: nums C m d (fndI t (L.take k)) :: obox g1 nm (some ⟨b, off, none⟩) n c :: []) wy by rw [hwy]; exact V2.out.box_new _ _)
        have y0 := (V3.out.box_at (i := 0) (j := 0) rfl rfl).1
        obtain ⟨g5, cap5, w5, hr5, hv5, _⟩ := run_app_num V3.out (i := 1) rfl 47 (k : Int) y0 (by omega)
        have V4 := Lib.hid (show Hp w [nums (some ⟨g5, 0, none⟩) (m + 1) cap5 (fndI t (L.take k) ++ [(k : Int)]), obox g1 nm (some ⟨b, off, none⟩) n c] w5 from hv5.tail)
        rw [← HS.out] at V4
        have HM3 := Lib.hid (show m + 1 = (fndI t (L.take (k + 1))).length by rw [HS.out, List.length_append, ← HML.out]; rfl)
        have HY := Lib.hid hwy
        have HR5 := Lib.hid hr5
        clear hwy y0 hv5 hr5
        go_wp2_with (at_builtin; rw [← HY.out]; refine wpList_app_run rfl (.tmp 20) (.tmp 22) 47 rfl HR5.out rfl rfl ?_)
        go_roundw
        case rel => exact ⟨k + 1, m + 1, cap5, _, by omega, by omega, by go_num, rfl, HM3.out, V4.out⟩
        case measure => simp [intOf]; omega
      | false =>
        have e1 : ((bs x.t).toList == (bs t).toList) = false := by rw [toL, toL]; exact hnu
        have HS := Lib.hid (show fndI t (L.take (k + 1)) = fndI t (L.take k) by
          rw [take_snoc HX.out, fndI_snoc, if_neg (by simp [hnu]), List.append_nil])
        clear hnu
        go_wp2_with fail
        go_roundw
        case rel => exact ⟨k + 1, m, d, C, by omega, by omega, by go_num, rfl, by rw [HS.out]; exact HML.out, by rw [HS.out]; exact V2.out⟩
        case measure => simp [intOf]; omega
    · have HE := Lib.hid (show L.take k = L from take_all (by have := HL.out; omega))
      go_wp2
      go_ret
      rw [HE.out] at HML V
      exact ⟨C, m, d, rfl, HML.out, V.out.sub (fun i => i) (fun _ _ e => e) (fun i it hi => by
        cases i with
        | zero => exact hi
        | succ i => simp at hi)⟩
def begB : List Snd → Bool
  | [] => false
  | x :: _ => nuc x
def endB (l : List Snd) : Bool := match l.getLast? with
  | none => false
  | some x => nuc x
def whV (wv : Int) (e a b : Bool) : Bool := if wv = 0 then true else if wv = 1 then a else if wv = 2 then (e && a) else if wv = 3 then (b && a) else if wv = 4 then !a else false
def whB (wv : Int) (B A : List Snd) : Bool := whV wv (B.length == 0) (begB A) (endB B)
theorem begB_at {l : List Snd} {x : Snd} (h : l[0]? = some x) : begB l = nuc x := by
  cases l with
  | nil => simp at h
  | cons y r => have e : y = x := by simpa using h
                subst e; rfl
theorem endB_at {l : List Snd} {k : Nat} {x : Snd} (hl : l.length = k + 1) (h : l[k]? = some x) : endB l = nuc x := by
  unfold endB
  rw [List.getLast?_eq_getElem?, hl, Nat.add_sub_cancel, h]
theorem nil_of {α : Type} {l : List α} (h : l.length = 0) : l = [] := List.eq_nil_of_length_eq_zero h
theorem wh_out {wv : Int} {e a b : Bool} (h0 : ¬ wv = 0) (h1 : ¬ wv = 1) (h2 : ¬ wv = 2) (h3 : ¬ wv = 3) (h4 : ¬ wv = 4) : whV wv e a b = false := by
  unfold whV; rw [if_neg h0, if_neg h1, if_neg h2, if_neg h3, if_neg h4]
end Go.Proofs.YtfgnekbkcmpdiaaGreatDoor
