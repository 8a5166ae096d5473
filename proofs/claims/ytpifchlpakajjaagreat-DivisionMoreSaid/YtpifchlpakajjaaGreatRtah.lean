/- Several texts in one: Oc, Od. -/
import Derived.Test.YtpifchlpakajjaaGreatRtag
namespace Go.Proofs.YtpifchlpakajjaaGreat
open Go.RowKit
set_option linter.unusedVariables false
set_option linter.unusedSimpArgs false
set_option maxRecDepth 100000

theorem toL (l : List UInt8) : (bs l).toList = l := by rw [ByteArray.toList_eq]; rfl
set_option maxHeartbeats 1000000 in
theorem whereWord_any (n : Int) (w : World) : Calls Tryz.prog 132 #[.int .i64 n] w fun e w' => e = .returned (.string (bs (wW n))) ∧ w = w' := by
  by_cases h0 : n = 0
  · subst h0
    go_enter Tryz.func132, Tryz.ntmps132
    go_wp2
    go_ret
    exact ⟨rfl, rfl⟩
  · have e0 : (n == 0) = false := by simpa using h0
    by_cases h1 : n = 1
    · subst h1
      go_enter Tryz.func132, Tryz.ntmps132
      go_wp2
      go_ret
      exact ⟨rfl, rfl⟩
    · have e1 : (n == 1) = false := by simpa using h1
      by_cases h2 : n = 2
      · subst h2
        go_enter Tryz.func132, Tryz.ntmps132
        go_wp2
        go_ret
        exact ⟨rfl, rfl⟩
      · have e2 : (n == 2) = false := by simpa using h2
        by_cases h3 : n = 3
        · subst h3
          go_enter Tryz.func132, Tryz.ntmps132
          go_wp2
          go_ret
          exact ⟨rfl, rfl⟩
        · have e3 : (n == 3) = false := by simpa using h3
          by_cases h4 : n = 4
          · subst h4
            go_enter Tryz.func132, Tryz.ntmps132
            go_wp2
            go_ret
            exact ⟨rfl, rfl⟩
          · have e4 : (n == 4) = false := by simpa using h4
            have HE := Lib.hid (show wW n = [] by unfold wW; rw [if_neg h0, if_neg h1, if_neg h2, if_neg h3, if_neg h4])
            clear h0 h1 h2 h3 h4
            go_enter Tryz.func132, Tryz.ntmps132
            go_wp2
            go_ret
            exact ⟨by rw [HE.out]; rfl, rfl⟩
theorem sameL_len {L M : List Snd} (h : L.length ≠ M.length) : sameL L M = false := by
  rw [Bool.eq_false_iff]; intro hs; exact h (by rw [sameL_is.1 hs])
theorem sameL_ne {L M : List Snd} {k : Nat} {x y : Snd} (hx : L[k]? = some x) (hy : M[k]? = some y) (h : x ≠ y) : sameL L M = false := by
  rw [Bool.eq_false_iff]; intro hs
  have := sameL_is.1 hs
  subst this
  rw [hx] at hy; exact h (Option.some.inj hy)
theorem takeQ {α : Type} {L M : List α} {k : Nat} {x : α} (h : L.take k = M.take k) (hx : L[k]? = some x) (hy : M[k]? = some x) : L.take (k + 1) = M.take (k + 1) := by rw [take_snoc hx, take_snoc hy, h]
set_option maxHeartbeats 4000000 in
theorem eqsnd_any (L M : List Snd) (n m c d : Nat) (A C : Option Addr) (w : World) (hl : L.length = n) (hm : M.length = m) (hn : n ≤ 1000000) (hm1 : m ≤ 17592186044416) (hA : CellsIn w A (sndsC L)) (hC : CellsIn w C (sndsC M)) :
    Calls Tryz.prog 134 #[.slice A n c, .slice C m d] w fun e w' => e = .returned (.bool (sameL L M)) ∧ ∃ q, w' = w.drewN q := by
  by_cases hlen : n = m
  · subst hlen
    have HL := Lib.hid hl
    have HM := Lib.hid hm
    have HA := Lib.hid hA
    have HC := Lib.hid hC
    clear hl hm hA hC
    go_enter Tryz.func134, Tryz.ntmps134
    go_wp2
    go_loopw [13] (fun i wr => ∃ k : Nat, k ≤ n ∧ i = .int .i64 k ∧ L.take k = M.take k ∧ ∃ q, wr = w.drewN q) (fun i _ => n - (intOf i).toNat)
    case atStart => exact ⟨0, Nat.zero_le _, rfl, rfl, 0, rfl⟩
    case round =>
      obtain ⟨k, hk, rfl, htk, q, rfl⟩ := hrel
      have HT := Lib.hid htk
      clear htk
      by_cases hlt : k < n
      · obtain ⟨x, hx⟩ := get_at (L := L) (k := k) (by have := HL.out; omega)
        obtain ⟨y, hy⟩ := get_at (L := M) (k := k) (by have := HM.out; omega)
        obtain ⟨b1, o1, rfl, hb1, x0, x1, x2⟩ := HA.out.snd hx
        obtain ⟨b2, o2, rfl, hb2, y0, y1, y2⟩ := HC.out.snd hy
        have HX := Lib.hid hx
        have HY := Lib.hid hy
        clear hx hy
        by_cases hxy : x = y
        · subst hxy
          have HN := Lib.hid (takeQ HT.out HX.out HY.out)
          go_wp2
          try go_quiet (fail)
          try go_wp2
          go_roundw
          case rel => exact ⟨k + 1, by omega, by go_num, HN.out, _, by first | rfl | exact World.drewN_drewN _ _ _⟩
          case measure => simp [intOf]; omega
        · have HN := Lib.hid (sameL_ne HX.out HY.out hxy)
          by_cases ek : x.k = y.k
          · by_cases eq : x.q = y.q
            · have et : x.t ≠ y.t := fun e => hxy (Snd.eq ek eq e)
              have e1 : (x.k == y.k) = true := by simpa using ek
              have e2 : (x.q == y.q) = true := by simpa using eq
              have e3 : ((bs x.t).toList == (bs y.t).toList) = false := by rw [toL, toL]; simpa using et
              clear hxy ek eq et
              go_wp2
              try go_quiet (fail)
              try go_wp2
              go_ret
              exact ⟨ret_bool HN.out.symm, _, by first | rfl | exact World.drewN_drewN _ _ _⟩
            · have e1 : (x.k == y.k) = true := by simpa using ek
              have e2 : (x.q == y.q) = false := by simpa using eq
              clear hxy ek eq
              go_wp2
              try go_quiet (fail)
              try go_wp2
              go_ret
              exact ⟨ret_bool HN.out.symm, _, by first | rfl | exact World.drewN_drewN _ _ _⟩
          · have e1 : (x.k == y.k) = false := by simpa using ek
            clear hxy ek
            go_wp2
            try go_quiet (fail)
            try go_wp2
            go_ret
            exact ⟨ret_bool HN.out.symm, _, by first | rfl | exact World.drewN_drewN _ _ _⟩
      · have HE := Lib.hid (show sameL L M = true from sameL_is.2 (by
          have := HT.out
          rwa [take_all (by have := HL.out; omega), take_all (by have := HM.out; omega)] at this))
        go_wp2
        go_ret
        exact ⟨ret_bool HE.out.symm, _, rfl⟩
  · have HE := Lib.hid (show sameL L M = false from sameL_len (by omega))
    have hne' : ((n : Int) != (m : Int)) = true := by simp; omega
    have hne : ((n : Int) == (m : Int)) = false := by simp; omega
    clear hlen hl hm hA hC
    go_enter Tryz.func134, Tryz.ntmps134
    go_wp2
    go_ret
    exact ⟨ret_bool HE.out.symm, 0, rfl⟩
end Go.Proofs.YtpifchlpakajjaaGreat

namespace Go.Proofs.YtpifchlpakajjaaGreat
open Go.RowKit
set_option linter.unusedVariables false
set_option linter.unusedSimpArgs false
set_option maxRecDepth 100000

theorem likeB_t {a b : Sg} (h : a.t ≠ b.t) : likeB a b = false := by rw [Bool.eq_false_iff, ne_eq, likeB_is]; exact fun e => h e.1
theorem likeB_w {a b : Sg} (h : a.w ≠ b.w) : likeB a b = false := by rw [Bool.eq_false_iff, ne_eq, likeB_is]; exact fun e => h e.2.1
theorem likeB_s {a b : Sg} (h : a.t = b.t) (h1 : a.w = b.w) : likeB a b = sameL a.s b.s := by
  unfold likeB; rw [h, h1]; simp
set_option maxHeartbeats 4000000 in
theorem alike_any (a b : Sg) (A B : Option Addr) (c d : Nat) (w : World) (hn : a.s.length ≤ 1000000) (hn1 : b.s.length ≤ 17592186044416) (hA : CellsIn w A (sndsC a.s)) (hB : CellsIn w B (sndsC b.s)) :
    Calls Tryz.prog 119 #[.agg #[.string (bs a.t), .slice A a.s.length c, .int .i64 a.c, .int .i64 a.w], .agg #[.string (bs b.t), .slice B b.s.length d, .int .i64 b.c, .int .i64 b.w]] w fun e w' => e = .returned (.bool (likeB a b)) ∧ Below w.heap.size w w' := by
  obtain ⟨g1, hg1⟩ : ∃ z, z = w.heap.size := ⟨_, rfl⟩
  obtain ⟨W1, hW1⟩ : ∃ z, z = w.alloc (.cells #[.string (bs a.t), .slice A a.s.length c, .int .i64 a.c, .int .i64 a.w] 58) := ⟨_, rfl⟩
  have V1 := Lib.hid (show Hp w [sgbox g1 (A, c) a] W1 by rw [hW1, hg1]; exact (Hp.start w).sgbox_new A c a)
  obtain ⟨g2, hg2⟩ : ∃ z, z = W1.heap.size := ⟨_, rfl⟩
  obtain ⟨W2, hW2⟩ : ∃ z, z = W1.alloc (.cells #[.string (bs b.t), .slice B b.s.length d, .int .i64 b.c, .int .i64 b.w] 58) := ⟨_, rfl⟩
  have V2 := Lib.hid (show Hp w [sgbox g2 (B, d) b, sgbox g1 (A, c) a] W2 by rw [hW2, hg2]; exact V1.out.sgbox_new B d b)
  have HW1 := Lib.hid hW1
  have HW2 := Lib.hid hW2
  have HG1 := Lib.hid hg1
  have HG2 := Lib.hid (show g2 = g1 + 1 by rw [hg2, hW1, hg1]; simp)
  have HA := Lib.hid (hA.below V2.out.below)
  have HB := Lib.hid (hB.below V2.out.below)
  obtain ⟨x0, x1, x2, x3, x4⟩ := V2.out.sgbox_at (i := 1) rfl
  obtain ⟨y0, y1, y2, y3, y4⟩ := V2.out.sgbox_at (i := 0) rfl
  dsimp only at x1 y1
  clear hW1 hW2 hg1 hg2 V1 hA hB
  go_enter Tryz.func119, Tryz.ntmps119
  go_upto_region 1 with fail
  rw [← HG1.out, ← HW1.out, ← HG2.out, ← HW2.out]
  by_cases ht : a.t = b.t
  · by_cases hw : a.w = b.w
    · have HE := Lib.hid (likeB_s ht hw)
      have e1 : ((bs a.t).toList == (bs b.t).toList) = true := by rw [toL, toL]; simpa using ht
      have e2 : (a.w == b.w) = true := by simpa using hw
      clear ht hw
      go_wp2_with fail
      refine (eqsnd_any a.s b.s _ _ c d A B _ rfl rfl hn hn1 HA.out HB.out).mono ?_
      rintro e w3 ⟨rfl, q, rfl⟩
      go_wp2_with fail
      go_ret
      exact ⟨ret_bool HE.out.symm, btwo V2.out.below (bdrewN _ _)⟩
    · have HE := Lib.hid (likeB_w hw)
      have e1 : ((bs a.t).toList == (bs b.t).toList) = true := by rw [toL, toL]; simpa using ht
      have e2 : (a.w == b.w) = false := by simpa using hw
      clear ht hw
      go_wp2_with fail
      go_ret
      exact ⟨ret_bool HE.out.symm, V2.out.below⟩
  · have HE := Lib.hid (likeB_t ht)
    have e1 : ((bs a.t).toList == (bs b.t).toList) = false := by rw [toL, toL]; simpa using ht
    clear ht
    go_wp2_with fail
    go_ret
    exact ⟨ret_bool HE.out.symm, V2.out.below⟩
def SgAt (w : World) (g : Nat) (A : Option Addr) (c : Nat) (x : Sg) : Prop := w.cell? ⟨g, 0, none⟩ = some (.string (bs x.t)) ∧ w.cell? ⟨g, 1, none⟩ = some (.slice A x.s.length c) ∧ w.cell? ⟨g, 2, none⟩ = some (.int .i64 x.c) ∧ w.cell? ⟨g, 3, none⟩ = some (.int .i64 x.w) ∧ g < w.heap.size ∧ CellsIn w A (sndsC x.s)
theorem SgAt.below {w w' : World} {g c : Nat} {A : Option Addr} {x : Sg} (h : SgAt w g A c x) (hb : Below w.heap.size w w') : SgAt w' g A c x := by
  obtain ⟨h0, h1, h2, h3, h4, h5⟩ := h
  exact ⟨(hb.cell (p := ⟨g, 0, none⟩) h4).trans h0, (hb.cell (p := ⟨g, 1, none⟩) h4).trans h1, (hb.cell (p := ⟨g, 2, none⟩) h4).trans h2, (hb.cell (p := ⟨g, 3, none⟩) h4).trans h3, Nat.lt_of_lt_of_le h4 hb.size, h5.below hb⟩
set_option maxHeartbeats 4000000 in
theorem fclos_any (a x : Sg) (A B : Option Addr) (c d g : Nat) (w : World) (hn : a.s.length ≤ 1000000) (hn1 : x.s.length ≤ 1000000) (hA : CellsIn w A (sndsC a.s)) (hx : SgAt w g B d x) :
    Calls Tryz.prog 118 #[.agg #[.string (bs a.t), .slice A a.s.length c, .int .i64 a.c, .int .i64 a.w], .pointer (some ⟨g, 0, none⟩)] w fun e w' => e = .returned (.bool (likeB a x)) ∧ Below w.heap.size w w' := by
  obtain ⟨g1, hg1⟩ : ∃ z, z = w.heap.size := ⟨_, rfl⟩
  obtain ⟨W1, hW1⟩ : ∃ z, z = w.alloc (.cells #[.string (bs a.t), .slice A a.s.length c, .int .i64 a.c, .int .i64 a.w] 58) := ⟨_, rfl⟩
  have V1 := Lib.hid (show Hp w [sgbox g1 (A, c) a] W1 by rw [hW1, hg1]; exact (Hp.start w).sgbox_new A c a)
  obtain ⟨y0, y1, y2, y3, y4, y5⟩ := hx.below V1.out.below
  have HW1 := Lib.hid hW1
  have HG1 := Lib.hid hg1
  have HA := Lib.hid (hA.below V1.out.below)
  have HB := Lib.hid y5
  obtain ⟨x0, x1, x2, x3, x4⟩ := V1.out.sgbox_at (i := 0) rfl
  dsimp only at x1
  clear hW1 hg1 hA hx y5
  go_enter Tryz.func118, Tryz.ntmps118
  go_upto_region 1 with fail
  rw [← HG1.out, ← HW1.out]
  go_wp2_with fail
  refine (alike_any a x A B c d _ hn (by omega) HA.out HB.out).mono ?_
  rintro e w3 ⟨rfl, hb⟩
  have B3 := Lib.hid (btwo V1.out.below hb)
  clear hb
  go_wp2_with fail
  go_ret
  exact ⟨rfl, B3.out⟩
set_option maxHeartbeats 4000000 in
theorem sgidx_any (L : List Sg) (x : Sg) (g d : Nat) (B : Option Addr) (A : Option Addr) (n c : Nat) (w : World) (hl : L.length = n) (hn : n ≤ 1000000) (hs : ∀ y ∈ L, y.s.length ≤ 1000000) (hxs : x.s.length ≤ 1000000) (hA : SgnIn w A L) (hx : SgAt w g B d x) :
    Calls Tryz.prog 133 #[.slice A n c, .func (.func 118) #[] #[.pointer (some ⟨g, 0, none⟩)]] w fun e w' => Below w.heap.size w w' ∧ ((e = .returned (.int .i64 (-1)) ∧ (L.any fun e => likeB e x) = false) ∨
      ∃ i : Nat, e = .returned (.int .i64 (i : Int)) ∧ (L.any fun e => likeB e x) = true) := by
  have HL := Lib.hid hl
  have HS := Lib.hid hs
  have HA := Lib.hid hA
  have HX := Lib.hid hx
  clear hl hs hA hx
  go_enter Tryz.func133, Tryz.ntmps133
  go_wp2_with fail
  go_loopw [8] (fun cv wr => ∃ i : Nat, cv = .int .i64 (i : Int) ∧ i ≤ n ∧ (∀ (j : Nat) q, j < i → L[j]? = some q → likeB q x = false) ∧ Below w.heap.size w wr) (fun cv _ => n - (intOf cv).toNat)
  case atStart => exact ⟨0, rfl, Nat.zero_le _, fun j q h => absurd h (Nat.not_lt_zero _), Below.refl _ _⟩
  case round =>
    obtain ⟨i, rfl, hin, hr, hbl⟩ := hrel
    obtain ⟨wi, rfl⟩ : ∃ wi : World, wi = wr := ⟨_, rfl⟩
    have HR := Lib.hid hr
    have HB := Lib.hid hbl
    clear hr hbl
    by_cases hlt : i < n
    · obtain ⟨a, ha⟩ := get_at (L := L) (k := i) (by have := HL.out; omega)
      obtain ⟨b, off, Aj, cj, rfl, hb0, c0, c1, c2, c3, c4⟩ := (HA.out.below HB.out).at ha
      have HP := Lib.hid ha
      have HC := Lib.hid c4
      have HXW := Lib.hid (HX.out.below HB.out)
      have hal := HS.out a (List.mem_of_getElem? ha)
      have hi4 : i * 4 ≤ 4000000 := by omega
      clear ha c4
      go_wp2_with fail
      refine (fclos_any a x Aj B cj d g wi hal hxs HC.out HXW.out).mono ?_
      rintro e w2 ⟨rfl, b2⟩
      have HB2 := Lib.hid (btwo HB.out b2)
      clear b2 c0 c1 c2 c3
      cases hf : likeB a x with
      | true =>
        have H3 := Lib.hid (show (L.any fun e => likeB e x) = true from List.any_eq_true.2 ⟨_, List.mem_of_getElem? HP.out, hf⟩)
        clear hf
        go_wp2_with fail
        go_ret
        exact ⟨HB2.out, .inr ⟨i, rfl, H3.out⟩⟩
      | false =>
        have H3 := Lib.hid (show ∀ (j : Nat) q, j < i + 1 → L[j]? = some q → likeB q x = false from fun j q hj hq => by
          by_cases e : j = i
          · subst e
            have : some a = some q := HP.out.symm.trans hq
            injection this with this
            rw [← this]; exact hf
          · exact HR.out j q (by omega) hq)
        clear hf
        go_wp2_with fail
        go_roundw
        case rel => exact ⟨i + 1, by go_num, by omega, H3.out, HB2.out⟩
        case measure => simp [intOf]; omega
    · have H3 := Lib.hid (show (L.any fun e => likeB e x) = false from by
        rw [Bool.eq_false_iff]; intro h
        obtain ⟨q, hq, h2⟩ := List.any_eq_true.1 h
        obtain ⟨j, hj, e⟩ := List.mem_iff_getElem.1 hq
        have := HR.out j q (by have := HL.out; omega) (by rw [List.getElem?_eq_getElem hj, e])
        rw [this] at h2; cases h2)
      go_wp2_with fail
      go_ret
      exact ⟨HB.out, .inl ⟨rfl, H3.out⟩⟩
set_option maxHeartbeats 4000000 in
theorem sgcont_any (L : List Sg) (x : Sg) (g d : Nat) (B : Option Addr) (A : Option Addr) (n c : Nat) (w : World) (hl : L.length = n) (hn : n ≤ 1000000) (hs : ∀ y ∈ L, y.s.length ≤ 1000000) (hxs : x.s.length ≤ 1000000) (hA : SgnIn w A L) (hx : SgAt w g B d x) :
    Calls Tryz.prog 117 #[.slice A n c, .func (.func 118) #[] #[.pointer (some ⟨g, 0, none⟩)]] w fun e w' => e = .returned (.bool (L.any fun e => likeB e x)) ∧ Below w.heap.size w w' := by
  go_enter Tryz.func117, Tryz.ntmps117
  go_wp2_with fail
  refine (sgidx_any L x g d B A n c _ hl hn hs hxs hA hx).mono ?_
  rintro e w2 ⟨hb, ⟨rfl, h⟩ | ⟨i, rfl, h⟩⟩
  · have HE := Lib.hid h
    have HB := Lib.hid hb
    clear h hb
    go_wp2_with fail
    go_ret
    exact ⟨ret_bool HE.out.symm, HB.out⟩
  · have HE := Lib.hid h
    have HB := Lib.hid hb
    clear h hb
    go_wp2_with fail
    go_ret
    exact ⟨ret_bool HE.out.symm, HB.out⟩
end Go.Proofs.YtpifchlpakajjaaGreat
