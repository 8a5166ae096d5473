/- Contract of the chapter's examples: awake. -/
import Derived.Test.YtngkhggofjeflaaDoorKn
namespace Go.Proofs.YtngkhggofjeflaaDoor
open Go.RowKit
set_option linter.unusedVariables false
set_option maxRecDepth 100000

def lexF : Nat → List UInt8 → Int → List Tok × Int × Int
  | 0, _, _ => ([], 0, 0)
  | _ + 1, [], _ => ([], 0, 0)
  | f + 1, c :: r, ln =>
    if blL (c :: r) = 0 then
      if (nxV (c :: r)).2.2.2 = 0 then consT ⟨(nxV (c :: r)).1, (nxV (c :: r)).2.1, ln⟩ (lexF f (r.drop ((nxV (c :: r)).2.2.1 - 1)) ln)
      else ([], ln, (nxV (c :: r)).2.2.2)
    else lexF f (r.drop (blL (c :: r) - 1)) (ln + (feeds ((c :: r).take (blL (c :: r))) : Int))
theorem lexF_is : ∀ (f : Nat) (l : List UInt8) (ln : Int), l.length ≤ f → lexF f l ln = lexR l ln
  | 0, [], ln, _ => by rw [lex_nil]; rfl
  | 0, c :: r, ln, h => by simp at h
  | f + 1, [], ln, _ => by rw [lex_nil]; rfl
  | f + 1, c :: r, ln, h => by
    have h1 := lexF_is f (r.drop ((nxV (c :: r)).2.2.1 - 1)) ln (by rw [List.length_drop]; simp at h; omega)
    have h2 := lexF_is f (r.drop (blL (c :: r) - 1)) (ln + (feeds ((c :: r).take (blL (c :: r))) : Int)) (by rw [List.length_drop]; simp at h; omega)
    rw [lexR, lexF, h1, h2]
theorem tok_run {l : List UInt8} {f : Nat} {x : List Tok × Int × Int} (h : l.length ≤ f) (h2 : l.length ≤ 20000) (hx : lexF f l 1 = x) : tokV l = x := by
  rw [tok_ok (by omega), ← lexF_is f l 1 h, hx]
theorem aw_l : tokV (⟨#[102, 111, 111, 116, 32, 100, 32, 61, 32, 45, 32, 117, 32, 117, 59, 32, 35, 32, 100, 97, 99, 116, 121, 108]⟩ : ByteArray).data.toList = ([⟨1, [102, 111, 111, 116], 1⟩, ⟨1, [100], 1⟩, ⟨4, [61], 1⟩, ⟨4, [45], 1⟩, ⟨1, [117], 1⟩, ⟨1, [117], 1⟩, ⟨4, [59], 1⟩], 0, 0) := tok_run (f := 24) (by decide) (by decide) (by rfl)
theorem aw_m : tokV (⟨#[97, 45, 98, 32, 45, 32, 99]⟩ : ByteArray).data.toList = ([⟨1, [97, 45, 98], 1⟩, ⟨4, [45], 1⟩, ⟨1, [99], 1⟩], 0, 0) := tok_run (f := 7) (by decide) (by decide) (by rfl)
theorem aw_n : tokV (⟨#[97, 45]⟩ : ByteArray).data.toList = ([⟨1, [97], 1⟩, ⟨4, [45], 1⟩], 0, 0) := tok_run (f := 2) (by decide) (by decide) (by rfl)
theorem aw_z : tokV (⟨#[48, 48, 55]⟩ : ByteArray).data.toList = ([], 1, 2) := tok_run (f := 3) (by decide) (by decide) (by rfl)
theorem aw_b : tokV (⟨#[49, 48, 48, 48, 48, 48, 48]⟩ : ByteArray).data.toList = ([], 1, 3) := tok_run (f := 7) (by decide) (by decide) (by rfl)

/-- Tokens, with its answer named. -/
theorem tokens_is {s : ByteArray} {L : List Tok} {ln er : Int} (h : tokV s.data.toList = (L, ln, er)) (w : World) (hs : s.size ≤ maxLen) :
    Calls Tryd.prog 13 #[.string s] w (TokPost L ln er w) := by
  have := tokens_any s w hs
  rw [h] at this; exact this
theorem rtokens_is {s : ByteArray} {L : List Tok} {ln er : Int} (h : tokV s.data.toList = (L, ln, er)) (w : World) (hs : s.size ≤ maxLen) :
    Calls Tryd.prog 14 #[.string s] w (TokPost L ln er w) := by
  have := rtokens_any s w hs
  rw [h] at this; exact this
theorem small_ba {s : ByteArray} (h : s.size ≤ 1000000) : s.size ≤ maxLen := by unfold maxLen; omega

set_option maxHeartbeats 4000000 in
theorem awake_any (w : World) :
    Calls Tryd.prog 12 #[] w fun e w' => e = .returned (.bool true) ∧ Below w.heap.size w w' := by
  go_enter Tryd.func12, Tryd.ntmps12
  go_wp2_with fail
  refine (tokens_is aw_l _ (by decide)).mono ?_
  rintro e w1 ⟨A1, n1, c1, rfl, hn1, hc1, ht1, hb1⟩
  obtain rfl : n1 = 7 := hn1
  have HT1 := Lib.hid ht1
  have HB1 := Lib.hid hb1
  clear ht1 hb1
  go_wp2_with fail
  refine (tokens_is aw_m _ (by decide)).mono ?_
  rintro e w2 ⟨A2, n2, c2, rfl, hn2, hc2, ht2, hb2⟩
  obtain rfl : n2 = 3 := hn2
  have HT2 := Lib.hid ht2
  have HT1b := Lib.hid (HT1.out.below hb2)
  have HB2 := Lib.hid (btwo HB1.out hb2)
  clear ht2 hb2
  go_wp2_with fail
  refine (tokens_is aw_n _ (by decide)).mono ?_
  rintro e w3 ⟨A3, n3, c3, rfl, hn3, hc3, ht3, hb3⟩
  obtain rfl : n3 = 2 := hn3
  have HT3 := Lib.hid ht3
  have HT1c := Lib.hid (HT1b.out.below hb3)
  have HT2c := Lib.hid (HT2.out.below hb3)
  have HB3 := Lib.hid (btwo HB2.out hb3)
  clear ht3 hb3
  go_wp2_with fail
  refine (tokens_is aw_z _ (by decide)).mono ?_
  rintro e w4 ⟨A4, n4, c4, rfl, hn4, hc4, ht4, hb4⟩
  obtain rfl : n4 = 0 := hn4
  have HT1d := Lib.hid (HT1c.out.below hb4)
  have HT2d := Lib.hid (HT2c.out.below hb4)
  have HT3d := Lib.hid (HT3.out.below hb4)
  have HB4 := Lib.hid (btwo HB3.out hb4)
  clear ht4 hb4
  go_wp2_with fail
  refine (tokens_is aw_b _ (by decide)).mono ?_
  rintro e w5 ⟨A5, n5, c5, rfl, hn5, hc5, ht5, hb5⟩
  obtain rfl : n5 = 0 := hn5
  obtain ⟨b1, o1, rfl, hl1, hr1⟩ := HT1d.out.below hb5 (by decide)
  obtain ⟨b2, o2, rfl, hl2, hr2⟩ := HT2d.out.below hb5 (by decide)
  obtain ⟨b3, o3, rfl, hl3, hr3⟩ := HT3d.out.below hb5 (by decide)
  have HB5 := Lib.hid (btwo HB4.out hb5)
  obtain ⟨x1, x2, x3⟩ := hr1 6 _ rfl
  obtain ⟨y1, y2, y3⟩ := hr2 0 _ rfl
  obtain ⟨z1, z2, z3⟩ := hr3 0 _ rfl
  simp only [Nat.zero_mul, Nat.add_zero] at y1 y2 y3 z1 z2 z3
  clear ht5 hb5 hr1 hr2 hr3 y1 y3 z1 z3
  have e1 : ((bs [59]).toList == [59]) = true := by rw [toList_bs]; rfl
  have e2 : ((bs [97, 45, 98]).toList == [97, 45, 98]) = true := by rw [toList_bs]; rfl
  have e3 : ((bs [97]).toList == [97]) = true := by rw [toList_bs]; rfl
  go_wp2_with fail
  go_ret
  exact ⟨rfl, HB5.out⟩
end Go.Proofs.YtngkhggofjeflaaDoor
