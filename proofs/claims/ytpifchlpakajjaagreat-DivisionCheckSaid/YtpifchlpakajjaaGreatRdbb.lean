/- Several texts in one: JF, Jb. -/
import Derived.Test.YtpifchlpakajjaaGreatRdas
import Derived.Test.YtpifchlpakajjaaGreatRdar
import Derived.Test.YtpifchlpakajjaaGreatRdax
import Derived.Test.YtpifchlpakajjaaGreatRdaf
import Derived.Test.YtpifchlpakajjaaGreatRdag
namespace Go.Proofs.YtpifchlpakajjaaGreat
open Go.RowKit
set_option linter.unusedVariables false
set_option linter.unusedSimpArgs false
set_option maxRecDepth 100000

def TabIs (t : List Int) (F : Nat → Nat → Nat → Nat) : Prop := t.length = 153 ∧ ∀ a b k, a ≤ 16 → b < 3 → k < 3 → t[a * 9 + b * 3 + k]? = some ((F a b k : Nat) : Int)
theorem TabIs.congr {t : List Int} {F G : Nat → Nat → Nat → Nat} (h : TabIs t F) (e : ∀ a b k, a ≤ 16 → b < 3 → k < 3 → F a b k = G a b k) : TabIs t G :=
  ⟨h.1, fun a b k x y z => by rw [h.2 a b k x y z, e a b k x y z]⟩
def upF (F : Nat → Nat → Nat → Nat) (a0 b0 k0 x : Nat) : Nat → Nat → Nat → Nat := fun a b k => if a = a0 ∧ b = b0 ∧ k = k0 then x else F a b k
theorem TabIs.put {t : List Int} {F : Nat → Nat → Nat → Nat} (h : TabIs t F) {a b k : Nat} (ha : a ≤ 16) (hb : b < 3) (hk : k < 3) (x : Nat) : TabIs (t.set (a * 9 + b * 3 + k) (x : Int)) (upF F a b k x) := by
  refine ⟨by rw [List.length_set]; exact h.1, fun a' b' k' x' y z => ?_⟩
  unfold upF
  by_cases e : a' = a ∧ b' = b ∧ k' = k
  · obtain ⟨rfl, rfl, rfl⟩ := e
    rw [if_pos ⟨rfl, rfl, rfl⟩, List.getElem?_set_self (by rw [h.1]; omega)]
  · rw [if_neg e, List.getElem?_set_ne (by omega)]
    exact h.2 a' b' k' x' y z
theorem TabIs.zero : TabIs (List.replicate 153 0) (fun _ _ _ => 0) := ⟨by simp, fun a b k x y z => by rw [List.getElem?_replicate, if_pos (by omega)]; rfl⟩
def FZ (u : List UInt8) (b0 : Nat) (a b k : Nat) : Nat := if a = u.length ∧ b < b0 ∧ k = 0 then 1 else 0
def FB (L : List Sg) (u : List UInt8) (p a b k : Nat) : Nat := if p ≤ a then (if a ≤ u.length then rsN L u a b k else 0) else 0
def FA (L : List Sg) (u : List UInt8) (p : Nat) (P : Nat → List Nat) (a b k : Nat) : Nat := if p < a then (if a ≤ u.length then rsN L u a b k else 0) else if a = p then mn (wL L (u.drop p) b k (P b)) else 0
theorem FZ_zero (u : List UInt8) (a b k : Nat) : (fun _ _ _ => 0 : Nat → Nat → Nat → Nat) a b k = FZ u 0 a b k := by unfold FZ; rw [if_neg (by omega)]
theorem FZ_put (u : List UInt8) (b0 a b k : Nat) : upF (FZ u b0) u.length b0 0 1 a b k = FZ u (b0 + 1) a b k := by
  unfold upF FZ
  by_cases h : a = u.length ∧ b = b0 ∧ k = 0
  · rw [if_pos h, if_pos ⟨h.1, by omega, h.2.2⟩]
  · rw [if_neg h]
    by_cases h2 : a = u.length ∧ b < b0 ∧ k = 0
    · rw [if_pos h2, if_pos ⟨h2.1, by omega, h2.2.2⟩]
    · rw [if_neg h2, if_neg (fun h3 => by
        by_cases e : b = b0
        · exact h ⟨h3.1, e, h3.2.2⟩
        · exact h2 ⟨h3.1, by omega, h3.2.2⟩)]
theorem FZ_all (L : List Sg) (u : List UInt8) (a b k : Nat) (hb : b < 3) : FZ u 3 a b k = FB L u u.length a b k := by
  unfold FZ FB
  by_cases h : a = u.length
  · subst h
    rw [if_pos (Nat.le_refl _), if_pos (Nat.le_refl _)]
    unfold rsN wP
    rw [List.drop_length, if_pos (show ([] : List UInt8).length = 0 from rfl)]
    by_cases hk : k = 0
    · rw [if_pos ⟨rfl, hb, hk⟩, if_pos hk]; rfl
    · rw [if_neg (fun h => hk h.2.2), if_neg hk]; rfl
  · rw [if_neg (fun h2 => h h2.1)]
    split
    · rw [if_neg (by omega)]
    · rfl
theorem FA_start (L : List Sg) (u : List UInt8) (p a b k : Nat) : FB L u (p + 1) a b k = FA L u p (fun _ => stK L (u.drop p) 0) a b k := by
  unfold FB FA
  by_cases h : p < a
  · rw [if_pos h, if_pos (show p + 1 ≤ a from h)]
  · rw [if_neg h, if_neg (show ¬ p + 1 ≤ a from h), stK_zero]
    split
    · unfold wL; rfl
    · rfl
theorem FA_end {L : List Sg} {u : List UInt8} {p : Nat} (hp : p < u.length) (a b k : Nat) : FA L u p (fun _ => stK L (u.drop p) L.length) a b k = FB L u p a b k := by
  unfold FB FA
  by_cases h : p < a
  · rw [if_pos h, if_pos (show p ≤ a by omega)]
  · rw [if_neg h]
    by_cases e : a = p
    · subst e
      rw [if_pos rfl, if_pos (Nat.le_refl _), if_pos (show a ≤ u.length by omega), stK_all]
      unfold rsN wP
      rw [if_neg (show ¬ (u.drop a).length = 0 by rw [List.length_drop]; omega)]
    · rw [if_neg e, if_neg (show ¬ p ≤ a by omega)]
theorem FA_congr {L : List Sg} {u : List UInt8} {p : Nat} {P Q : Nat → List Nat} (a : Nat) {b : Nat} (k : Nat) (h : P b = Q b) : FA L u p P a b k = FA L u p Q a b k := by unfold FA; rw [h]
theorem FA_put {L : List Sg} {u : List UInt8} {p : Nat} {P Q : Nat → List Nat} {b0 i x : Nat} (hQ : Q b0 = P b0 ++ [i]) (hQ2 : ∀ b, b ≠ b0 → Q b = P b) (hx : x = mn (wL L (u.drop p) b0 (fsK L i) (P b0) + (bh L (u.drop p).length i (u.drop p) (exP b0)).length)) (a b k : Nat) :
    upF (FA L u p P) p b0 (fsK L i) x a b k = FA L u p Q a b k := by
  unfold upF
  by_cases h : a = p ∧ b = b0 ∧ k = fsK L i
  · obtain ⟨rfl, rfl, rfl⟩ := h
    rw [if_pos ⟨rfl, rfl, rfl⟩, hx]
    unfold FA
    rw [if_neg (Nat.lt_irrefl _), if_pos rfl, hQ, wL_snoc, if_pos rfl]
  · rw [if_neg h]
    unfold FA
    by_cases h1 : p < a
    · rw [if_pos h1, if_pos h1]
    · rw [if_neg h1, if_neg h1]
      by_cases e : a = p
      · rw [if_pos e, if_pos e]
        by_cases e2 : b = b0
        · subst e2
          rw [hQ, wL_snoc, if_neg (fun e3 => h ⟨e, rfl, e3.symm⟩), Nat.add_zero]
        · rw [hQ2 b e2]
      · rw [if_neg e, if_neg e]
theorem FA_at (L : List Sg) (u : List UInt8) (p : Nat) (P : Nat → List Nat) (b k : Nat) : FA L u p P p b k = mn (wL L (u.drop p) b k (P b)) := by unfold FA; rw [if_neg (Nat.lt_irrefl _), if_pos rfl]
theorem FA_on {L : List Sg} {u : List UInt8} {p : Nat} {P : Nat → List Nat} {a : Nat} (h : p < a) (h2 : a ≤ u.length) (b k : Nat) : FA L u p P a b k = rsN L u a b k := by unfold FA; rw [if_pos h, if_pos h2]
theorem FB_on {L : List Sg} {u : List UInt8} {p a : Nat} (h : p ≤ a) (h2 : a ≤ u.length) (b k : Nat) : FB L u p a b k = rsN L u a b k := by unfold FB; rw [if_pos h, if_pos h2]
theorem FA_le (L : List Sg) (u : List UInt8) (p : Nat) (P : Nat → List Nat) (a b k : Nat) : FA L u p P a b k ≤ 201 := by
  unfold FA
  split
  · split
    · exact rsN_le _ _ _ _ _
    · omega
  · split
    · exact mn_le _
    · omega
theorem FB_le (L : List Sg) (u : List UInt8) (p a b k : Nat) : FB L u p a b k ≤ 201 := by
  unfold FB
  split
  · split
    · exact rsN_le _ _ _ _ _
    · omega
  · omega
def PK (L : List Sg) (v : List UInt8) (k b : Nat) : Nat → List Nat := fun b' => if b' < b then stK L v (k + 1) else stK L v k
theorem PK_zero (L : List Sg) (v : List UInt8) (k b' : Nat) : PK L v k 0 b' = stK L v k := by unfold PK; rw [if_neg (Nat.not_lt_zero _)]
theorem PK_all (L : List Sg) (v : List UInt8) (k : Nat) {b' : Nat} (h : b' < 3) : PK L v k 3 b' = stK L v (k + 1) := by unfold PK; rw [if_pos h]
theorem PK_here {L : List Sg} {v : List UInt8} {k : Nat} (b : Nat) (h : stK L v (k + 1) = stK L v k ++ [k]) : PK L v k (b + 1) b = PK L v k b b ++ [k] := by unfold PK; rw [if_pos (Nat.lt_succ_self _), if_neg (Nat.lt_irrefl _), h]
theorem PK_other (L : List Sg) (v : List UInt8) (k b b' : Nat) (h : b' ≠ b) : PK L v k (b + 1) b' = PK L v k b b' := by
  unfold PK
  by_cases h1 : b' < b
  · rw [if_pos h1, if_pos (by omega : b' < b + 1)]
  · rw [if_neg h1, if_neg (by omega : ¬ b' < b + 1)]
theorem PK_self (L : List Sg) (v : List UInt8) (k b : Nat) : PK L v k b b = stK L v k := by unfold PK; rw [if_neg (Nat.lt_irrefl _)]
end Go.Proofs.YtpifchlpakajjaaGreat

namespace Go.Proofs.YtpifchlpakajjaaGreat
open Go.RowKit
set_option linter.unusedVariables false
set_option linter.unusedSimpArgs false
set_option maxRecDepth 100000

theorem toS (s : ByteArray) : s.toList = s.data.toList := by
  have := toL s.data.toList
  rwa [bs_self] at this
theorem ext_eq {s : ByteArray} {u t : List UInt8} {a p : Nat} (hs : s = bs u) (hp : p = a + t.length) : ((s.extract a p).toList == (bs t).toList) = ((u.drop a).take t.length == t) := by
  rw [toS, toL, ext_mid, hs, bs_list, hp, Nat.add_sub_cancel_left]
set_option maxHeartbeats 2000000 in
theorem rstands_any (nm : List UInt8) (L : List Sg) (A : Option Addr) (n c : Nat) (s : ByteArray) (u : List UInt8) (a : Nat) (w : World) (hs : s = bs u) (hu : u.length ≤ 1000000) (ha : a ≤ u.length) (hl : L.length = n) (hn : n ≤ 1000000) (ht : ∀ x ∈ L, x.t.length ≤ 1000000) (hA : SgnIn w A L) :
    Calls Tryz.prog 42 #[.agg #[.string (bs nm), .slice A n c], .string s, .int .i64 (a : Int)] w fun e w' => ∃ C m d, e = .returned (.slice C m d) ∧ (stL L (u.drop a)).length = m ∧ Hp w [nums C m d (dI (stL L (u.drop a)))] w' := by
  obtain ⟨g1, hg1⟩ : ∃ z, z = w.heap.size := ⟨_, rfl⟩
  obtain ⟨W1, hW1⟩ : ∃ z, z = w.alloc (.cells #[.string (bs nm), .slice A n c] 24) := ⟨_, rfl⟩
  have V1 := Lib.hid (show Hp w [obox g1 nm A n c] W1 by rw [hW1, hg1]; exact (Hp.start w).obox_new nm A n c)
  have HW1 := Lib.hid hW1
  have HG1 := Lib.hid hg1
  have HS := Lib.hid hs
  have HL := Lib.hid hl
  have HA := Lib.hid hA
  have HT := Lib.hid ht
  have hz : s.size = u.length := by rw [hs, bs_size]
  obtain ⟨ul, hul⟩ : ∃ ul, ul = u.length := ⟨_, rfl⟩
  have HUL := Lib.hid hul
  rw [← hul] at hz hu ha
  have V2 := Lib.hid (show Hp w [nums none 0 0 (dI (stK L (u.drop a) 0)), obox g1 nm A n c] W1 from V1.out.nil_row _ rfl rfl rfl)
  clear hW1 hg1 hs hl hA ht hul
  go_enter Tryz.func42, Tryz.ntmps42
  go_upto_region 2 with fail
  rw [← HG1.out, ← HW1.out]
  go_wp2_with fail
  go_loopw [7, 8] (fun v i wr => ∃ (k m d : Nat) (C : Option Addr), k ≤ n ∧ m ≤ k ∧ i = .int .i64 (k : Int) ∧ v = .slice C m d ∧ (stK L (u.drop a) k).length = m ∧ Hp w [nums C m d (dI (stK L (u.drop a) k)), obox g1 nm A n c] wr) (fun _ i _ => n - (intOf i).toNat)
  case atStart => exact ⟨0, 0, 0, none, Nat.zero_le _, Nat.zero_le _, rfl, rfl, rfl, V2.out⟩
  case round =>
    obtain ⟨k, m, d, C, hk, hmk, rfl, rfl, hm, hV⟩ := hrel
    obtain ⟨wi, rfl⟩ : ∃ wi : World, wi = wr := ⟨_, rfl⟩
    have V3 := Lib.hid hV
    have HM := Lib.hid hm
    clear hV hm V2 V1
    obtain ⟨o0, o1, o2⟩ := V3.out.obox_at (i := 1) rfl
    by_cases hlt : k < n
    · obtain ⟨x, hx⟩ := get_at (L := L) (k := k) (by have := HL.out; omega)
      obtain ⟨b, off, Aj, cj, hAe, hb, c0, c1, c2, c3, c4⟩ := (HA.out.below V3.out.below).at hx
      have HX := Lib.hid (sgAt_is hx)
      have hxt := HT.out x (List.mem_of_getElem? hx)
      obtain ⟨tl, htl⟩ : ∃ tl, tl = x.t.length := ⟨_, rfl⟩
      have hzt : (bs x.t).size = tl := by rw [bs_size, htl]
      have HTL := Lib.hid htl
      rw [← htl] at hxt
      rw [hAe] at o1
      have HAE := Lib.hid hAe
      subst hAe
      have hk4 : k * 4 ≤ 4000000 := by omega
      clear hx htl c4 c1 c2 c3
      go_upto_region 6 with fail
      clear hzt
      obtain ⟨p, hp⟩ : ∃ p, p = a + tl := ⟨_, rfl⟩
      have HP := Lib.hid hp
      have hwa : IntKind.i64.wrap ((a : Int) + (tl : Int)) = (p : Int) := by rw [IntWalk.i64_in _ (by omega)]; omega
      have hap : a ≤ p := by omega
      by_cases hfit : p ≤ ul
      · have e1 : decide ((p : Int) ≤ (ul : Int)) = true := decide_eq_true (by omega)
        clear hp
        have hKp : Keep [(⟨g1, 1, none⟩, .slice (some ⟨b, off, none⟩) n c), (⟨b, off + k * 4, none⟩, .string (bs x.t))] wi := List.forall_mem_cons.2 ⟨⟨(V3.out.box_at (i := 1) (j := 1) rfl rfl).1, (V3.out.box_at (i := 1) (j := 1) rfl rfl).2.2⟩, List.forall_mem_cons.2 ⟨⟨c0, hb⟩, fun _ h => by simp at h⟩⟩
        refine wp_region_held_drew (S := Keep _) (by kernel_rfl) hKp.drew (fun hHeld => ?_)
        obtain ⟨wf, hwf⟩ : ∃ z, z = wi.drew := ⟨_, rfl⟩
        have Vwf := Lib.hid (show Hp w (nums C m d (dI (stK L (u.drop a) k)) :: obox g1 nm (some ⟨b, off, none⟩) n c :: []) wf by rw [hwf]; exact V3.out.go (bdrew _))
        have Bwf := Lib.hid (show Below wi.heap.size wi wf by rw [hwf]; exact bdrew _)
        rw [← hwf] at hHeld ⊢
        clear hwf hKp
        refine tk 0 ?_ rfl ?_ ?_; rotate_left; focus (intro w hSw; clear hSw; go_simp; try (with_reducible rfl))
        try simp only [Act.put, sA, sZ, sS]
        refine tk 1 ?_ rfl ?_ ?_; rotate_left; focus (intro w hSw; clear hSw; go_simp; try (with_reducible rfl))
        try simp only [Act.put, sA, sZ, sS]
        refine tk 2 ?_ rfl ?_ ?_; rotate_left; focus (intro w hSw; clear hSw; go_simp; try (with_reducible rfl))
        try simp only [Act.put, sA, sZ, sS]
        refine tk 3 ?_ rfl ?_ ?_; rotate_left; focus (intro w hSw; clear hSw; go_simp; try (with_reducible rfl))
        try simp only [Act.put, sA, sZ, sS]
        refine tk 4 ?_ rfl ?_ ?_; rotate_left; focus (intro w hSw; clear hSw; go_simp; try (with_reducible rfl))
        try simp only [Act.put, sA, sZ, sS]
        refine tk 5 ?_ rfl ?_ ?_; rotate_left; focus (intro w hSw; clear hSw; go_simp; try (with_reducible rfl))
        try simp only [Act.put, sA, sZ, sS]
        refine tk 6 ?_ rfl ?_ ?_; rotate_left; focus (intro w hSw; clear hSw; go_simp; try (with_reducible rfl))
        try simp only [Act.put, sA, sZ, sS]
        refine tk 7 ?_ rfl ?_ ?_; rotate_left; focus (intro w hSw; clear hSw; go_simp; try (with_reducible rfl))
        try simp only [Act.put, sA, sZ, sS]
        refine tk 8 ?_ rfl ?_ ?_; rotate_left; focus (intro w hSw; clear hSw; go_simp; try (with_reducible rfl))
        try simp only [Act.put, sA, sZ, sS]
        refine tk 9 ?_ rfl ?_ ?_; rotate_left; focus (intro w hSw; clear hSw; go_simp; try (with_reducible rfl))
        try simp only [Act.put, sA, sZ, sS]
        refine tk 10 ?_ rfl ?_ ?_; rotate_left; focus (intro w hSw; clear hSw; go_simp; try (with_reducible rfl))
        try simp only [Act.put, sA, sZ, sS]
        refine tk 11 ?_ rfl ?_ ?_; rotate_left; focus (intro w hSw; clear hSw; go_simp; try (with_reducible rfl))
        try simp only [Act.put, sA, sZ, sS]
        refine tk 12 ?_ rfl ?_ ?_; rotate_left; focus (intro w hSw; clear hSw; go_simp; try (with_reducible rfl))
        try simp only [Act.put, sA, sZ, sS]
        refine tk 13 ?_ rfl ?_ ?_; rotate_left; focus (intro w hSw; clear hSw; go_simp; try (with_reducible rfl))
        try simp only [Act.put, sA, sZ, sS]
        refine tk 14 ?_ rfl ?_ ?_; rotate_left
        · intro wl hSw
          have hSw : Keep _ wl := hSw
          have k0 := (hSw _ (.head _)).1
          dsimp only at k0
          clear hSw
          go_simp
          try (with_reducible rfl)
        try simp only [Act.put, sA, sZ, sS]
        refine tk 15 ?_ rfl ?_ ?_; rotate_left; focus (intro w hSw; clear hSw; go_simp; try (with_reducible rfl))
        try simp only [Act.put, sA, sZ, sS]
        refine tk 16 ?_ rfl ?_ ?_; rotate_left; focus (intro w hSw; clear hSw; go_simp; try (with_reducible rfl))
        try simp only [Act.put, sA, sZ, sS]
        refine tk 17 ?_ rfl ?_ ?_; rotate_left; focus (intro w hSw; clear hSw; go_simp; try (with_reducible rfl))
        try simp only [Act.put, sA, sZ, sS]
        refine tk 18 ?_ rfl ?_ ?_; rotate_left
        · intro wl hSw
          have hSw : Keep _ wl := hSw
          have k0 := (hSw _ (.tail _ (.head _))).1
          dsimp only at k0
          clear hSw
          go_simp
          try (with_reducible rfl)
        try simp only [Act.put, sA, sZ, sS]
        refine tk 19 ?_ rfl ?_ ?_; rotate_left; focus (intro w hSw; clear hSw; go_simp; try (with_reducible rfl))
        try simp only [Act.put, sA, sZ, sS]
        refine tk 20 ?_ rfl ?_ ?_; rotate_left; focus (intro w hSw; clear hSw; go_simp; try (with_reducible rfl))
        try simp only [Act.put, sA, sZ, sS]
        refine wpAnyH_done (by kernel_rfl) ?_ _
        clear hHeld
        cases hb2 : ((s.extract a p).toList == (bs x.t).toList) with
        | true =>
          have HS2 := Lib.hid (show stK L (u.drop a) (k + 1) = stK L (u.drop a) k ++ [k] by
            have h3 := hb2
            rw [ext_eq HS.out (by rw [HP.out, HTL.out])] at h3
            rw [stK_snoc, HX.out, prefix_cut (by have := HUL.out; have := HTL.out; have := HP.out; omega), h3, if_pos rfl])
          obtain ⟨wy, hwy⟩ : ∃ z, z = wf.alloc (.cells #[.int .i64 (k : Int)] 3) := ⟨_, rfl⟩
          have V5 := Lib.hid (show Hp w (box 3 wf.heap.size [.int .i64 (k : Int)] :: nums C m d (dI (stK L (u.drop a) k)) :: obox g1 nm (some ⟨b, off, none⟩) n c :: []) wy by rw [hwy]; exact Vwf.out.box_new _ _)
          have q0 := (V5.out.box_at (i := 0) (j := 0) rfl rfl).1
          obtain ⟨g9, cap9, w9, hr9, hv9, _⟩ := run_app_num V5.out (i := 1) rfl 35 (k : Int) q0 (by omega)
          have V6 := Lib.hid (show Hp w [nums (some ⟨g9, 0, none⟩) (m + 1) cap9 (dI (stK L (u.drop a) k) ++ [(k : Int)]), obox g1 nm (some ⟨b, off, none⟩) n c] w9 from hv9.tail)
          rw [← dI_snoc, ← HS2.out] at V6
          have HM2 := Lib.hid (show (stK L (u.drop a) (k + 1)).length = m + 1 by rw [HS2.out, List.length_append, HM.out]; rfl)
          have HY := Lib.hid hwy
          have HR9 := Lib.hid hr9
          clear hwy q0 hv9 hr9 hb2
          go_wp2_with (at_builtin; rw [← HY.out]; refine wpList_app_run rfl (.tmp 45) (.tmp 47) 35 rfl HR9.out rfl rfl ?_)
          go_roundw
          case rel => exact ⟨k + 1, m + 1, cap9, _, by omega, by omega, by go_num, rfl, HM2.out, V6.out⟩
          case measure => simp [intOf]; omega
        | false =>
          have HS2 := Lib.hid (show stK L (u.drop a) (k + 1) = stK L (u.drop a) k by
            have h3 := hb2
            rw [ext_eq HS.out (by rw [HP.out, HTL.out])] at h3
            rw [stK_snoc, HX.out, prefix_cut (by have := HUL.out; have := HTL.out; have := HP.out; omega), h3, if_neg (by decide), List.append_nil])
          clear hb2
          go_wp2_with fail
          go_roundw
          case rel => exact ⟨k + 1, m, d, C, by omega, by omega, by go_num, rfl, by rw [HS2.out]; exact HM.out, by rw [HS2.out]; exact Vwf.out⟩
          case measure => simp [intOf]; omega
      · have e1 : decide ((p : Int) ≤ (ul : Int)) = false := decide_eq_false (by omega)
        have HS2 := Lib.hid (show stK L (u.drop a) (k + 1) = stK L (u.drop a) k by
          rw [stK_snoc, HX.out, prefix_no (by have := HUL.out; have := HTL.out; omega) (by have := HUL.out; omega), if_neg (by decide), List.append_nil])
        clear hp
        have hKp : Keep [(⟨g1, 1, none⟩, .slice (some ⟨b, off, none⟩) n c), (⟨b, off + k * 4, none⟩, .string (bs x.t))] wi := List.forall_mem_cons.2 ⟨⟨(V3.out.box_at (i := 1) (j := 1) rfl rfl).1, (V3.out.box_at (i := 1) (j := 1) rfl rfl).2.2⟩, List.forall_mem_cons.2 ⟨⟨c0, hb⟩, fun _ h => by simp at h⟩⟩
        refine wp_region_held_drew (S := Keep _) (by kernel_rfl) hKp.drew (fun hHeld => ?_)
        obtain ⟨wf, hwf⟩ : ∃ z, z = wi.drew := ⟨_, rfl⟩
        have Vwf := Lib.hid (show Hp w (nums C m d (dI (stK L (u.drop a) k)) :: obox g1 nm (some ⟨b, off, none⟩) n c :: []) wf by rw [hwf]; exact V3.out.go (bdrew _))
        have Bwf := Lib.hid (show Below wi.heap.size wi wf by rw [hwf]; exact bdrew _)
        rw [← hwf] at hHeld ⊢
        clear hwf hKp
        refine tk 0 ?_ rfl ?_ ?_; rotate_left; focus (intro w hSw; clear hSw; go_simp; try (with_reducible rfl))
        try simp only [Act.put, sA, sZ, sS]
        refine tk 1 ?_ rfl ?_ ?_; rotate_left; focus (intro w hSw; clear hSw; go_simp; try (with_reducible rfl))
        try simp only [Act.put, sA, sZ, sS]
        refine tk 2 ?_ rfl ?_ ?_; rotate_left; focus (intro w hSw; clear hSw; go_simp; try (with_reducible rfl))
        try simp only [Act.put, sA, sZ, sS]
        refine tk 3 ?_ rfl ?_ ?_; rotate_left; focus (intro w hSw; clear hSw; go_simp; try (with_reducible rfl))
        try simp only [Act.put, sA, sZ, sS]
        refine tk 4 ?_ rfl ?_ ?_; rotate_left; focus (intro w hSw; clear hSw; go_simp; try (with_reducible rfl))
        try simp only [Act.put, sA, sZ, sS]
        refine tk 5 ?_ rfl ?_ ?_; rotate_left; focus (intro w hSw; clear hSw; go_simp; try (with_reducible rfl))
        try simp only [Act.put, sA, sZ, sS]
        refine tk 6 ?_ rfl ?_ ?_; rotate_left; focus (intro w hSw; clear hSw; go_simp; try (with_reducible rfl))
        try simp only [Act.put, sA, sZ, sS]
        refine tu 7 rfl ?_
        try simp only [Act.put, sA, sZ, sS]
        refine tu 8 rfl ?_
        try simp only [Act.put, sA, sZ, sS]
        refine tu 9 rfl ?_
        try simp only [Act.put, sA, sZ, sS]
        refine tu 10 rfl ?_
        try simp only [Act.put, sA, sZ, sS]
        refine tu 11 rfl ?_
        try simp only [Act.put, sA, sZ, sS]
        refine tu 12 rfl ?_
        try simp only [Act.put, sA, sZ, sS]
        refine tu 13 rfl ?_
        try simp only [Act.put, sA, sZ, sS]
        refine tu 14 rfl ?_
        try simp only [Act.put, sA, sZ, sS]
        refine tu 15 rfl ?_
        try simp only [Act.put, sA, sZ, sS]
        refine tu 16 rfl ?_
        try simp only [Act.put, sA, sZ, sS]
        refine tu 17 rfl ?_
        try simp only [Act.put, sA, sZ, sS]
        refine tu 18 rfl ?_
        try simp only [Act.put, sA, sZ, sS]
        refine tu 19 rfl ?_
        try simp only [Act.put, sA, sZ, sS]
        refine tk 20 ?_ rfl ?_ ?_; rotate_left; focus (intro w hSw; clear hSw; go_simp; try (with_reducible rfl))
        try simp only [Act.put, sA, sZ, sS]
        refine wpAnyH_done (by kernel_rfl) ?_ _
        clear hHeld
        go_wp2_with fail
        go_roundw
        case rel => exact ⟨k + 1, m, d, C, by omega, by omega, by go_num, rfl, by rw [HS2.out]; exact HM.out, by rw [HS2.out]; exact Vwf.out⟩
        case measure => simp [intOf]; omega
    · obtain rfl : k = n := by omega
      have HE := Lib.hid (show stK L (u.drop a) k = stL L (u.drop a) by rw [← stK_all, HL.out])
      rw [HE.out] at HM V3
      go_wp2_with fail
      go_ret
      exact ⟨C, m, d, rfl, HM.out, V3.out.sub (fun i => i) (fun _ _ e => e) (fun i it hi => by
        cases i with
        | zero => exact hi
        | succ i => simp at hi)⟩
end Go.Proofs.YtpifchlpakajjaaGreat
