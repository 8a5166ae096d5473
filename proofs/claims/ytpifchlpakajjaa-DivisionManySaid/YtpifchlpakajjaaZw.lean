/- What the statement on many divisions answers: the walk. -/
import Derived.Test.YtpifchlpakajjaaMaZs
namespace Go.Proofs.Ytpifchlpakajjaa
open Go.RowKit
set_option linter.unusedVariables false
set_option linter.unusedSimpArgs false
set_option maxRecDepth 100000

set_option maxHeartbeats 3000000 in
theorem lawdivisionmany_any (a b : Int) (w : World) (ha : 0 ≤ a) (ha2 : a ≤ 255) (hb : 0 ≤ b) (hb2 : b ≤ 255) :
    Calls Try.prog 3 #[.int .u8 a, .int .u8 b] w fun e w' => e = .returned (.bool true) ∧ Below w.heap.size w w' := by
  obtain ⟨x, rfl⟩ : ∃ x : Nat, a = (x : Int) := ⟨a.toNat, by omega⟩
  obtain ⟨r, hr⟩ : ∃ r, r = x % 16 := ⟨_, rfl⟩
  have g2 : (x : Int).tmod 16 = (r : Int) := by rw [hr]; exact Int.ofNat_tmod x 16 ▸ rfl
  have hr15 : r ≤ 15 := by omega
  clear hr
  obtain ⟨n, hn⟩ : ∃ n, n = r + 1 := ⟨_, rfl⟩
  have g3 : (1 : Int) + (r : Int) = (n : Int) := by omega
  have hn1 : 1 ≤ n := by omega
  have hn16 : n ≤ 16 := by omega
  clear hn
  go_enter Try.func3, Try.ntmps3
  go_upto_region 2 with fail
  go_wp2_with fail
  refine (awake13_any _).mono ?_
  rintro e wa ⟨rfl, hB⟩
  have B1 := Lib.hid hB
  clear hB
  by_cases c1 : b ≤ 99
  case neg =>
    have c1' : 99 < b := by omega
    go_wp2_with fail
    refine (awake13_any _).mono ?_
    rintro e wb ⟨rfl, hB⟩
    have B2 := Lib.hid (btwo B1.out hB)
    clear hB
    go_wp2_with fail
    go_ret
    exact ⟨rfl, B2.out⟩
  obtain ⟨g, hg⟩ : ∃ z, z = wa.heap.size := ⟨_, rfl⟩
  obtain ⟨w2, hw2⟩ : ∃ z, z = (((((wa.alloc (.cells #[.int .i64 1, .int .i64 3, .string ⟨#[97]⟩] 24)).alloc (.cells #[.string ⟨#[97]⟩, .slice (some ⟨wa.heap.size, 0, none⟩) 1 1, .int .i64 0, .int .i64 0] 27)).alloc (.cells #[.int .i64 3, .int .i64 0, .string ⟨#[97]⟩] 24)).alloc (.cells #[.string ⟨#[97]⟩, .slice (some ⟨wa.heap.size + 1 + 1, 0, none⟩) 1 1, .int .i64 b, .int .i64 0] 27)).alloc (.cells #[.string ⟨#[97]⟩, .slice (some ⟨wa.heap.size, 0, none⟩) 1 1, .int .i64 0, .int .i64 0, .string ⟨#[97]⟩, .slice (some ⟨wa.heap.size + 1 + 1, 0, none⟩) 1 1, .int .i64 b, .int .i64 0] 27)).alloc (.cells #[.string ⟨#[111]⟩, .slice (some ⟨wa.heap.size + 1 + 1 + 1 + 1, 0, none⟩) 2 2] 30) := ⟨_, rfl⟩
  have hp : Hp wa [obox (g + 1 + 1 + 1 + 1 + 1) [111] (some ⟨g + 1 + 1 + 1 + 1, 0, none⟩) 2 2, sgv (some ⟨g + 1 + 1 + 1 + 1, 0, none⟩) 2 2 [(some ⟨g, 0, none⟩, 1), (some ⟨g + 1 + 1, 0, none⟩, 1)] (manL b), box 27 (g + 1 + 1 + 1) [.string ⟨#[97]⟩, .slice (some ⟨g + 1 + 1, 0, none⟩) 1 1, .int .i64 b, .int .i64 0], snds (some ⟨g + 1 + 1, 0, none⟩) 1 1 [⟨3, 0, [97]⟩], box 27 (g + 1) [.string ⟨#[97]⟩, .slice (some ⟨g, 0, none⟩) 1 1, .int .i64 0, .int .i64 0], snds (some ⟨g, 0, none⟩) 1 1 [⟨1, 3, [97]⟩]] w2 := by
    have h1 := (Hp.start wa).lit 24 3 1 [.int .i64 1, .int .i64 3, .string ⟨#[97]⟩] rfl (by decide)
    have h2 := h1.box_new 27 [.string ⟨#[97]⟩, .slice (some ⟨wa.heap.size, 0, none⟩) 1 1, .int .i64 0, .int .i64 0]
    have h3 := h2.lit 24 3 1 [.int .i64 3, .int .i64 0, .string ⟨#[97]⟩] rfl (by decide)
    have h4 := h3.box_new 27 [.string ⟨#[97]⟩, .slice (some ⟨wa.heap.size + 1 + 1, 0, none⟩) 1 1, .int .i64 b, .int .i64 0]
    have h5 := h4.lit 27 4 2 [.string ⟨#[97]⟩, .slice (some ⟨wa.heap.size, 0, none⟩) 1 1, .int .i64 0, .int .i64 0, .string ⟨#[97]⟩, .slice (some ⟨wa.heap.size + 1 + 1, 0, none⟩) 1 1, .int .i64 b, .int .i64 0] rfl (by decide)
    have h6 := h5.obox_new [111] (some ⟨wa.heap.size + 1 + 1 + 1 + 1, 0, none⟩) 2 2
    simp only [World.size_alloc] at h6
    rw [hw2, hg]
    exact h6
  have HA := Lib.hid (sg_in (i := 1) (d := 0) hp rfl rfl (fun j v x hv hx => by
    match j, hv, hx with
    | 0, hv, hx =>
      obtain rfl := Option.some.inj hv
      obtain rfl := Option.some.inj hx
      exact hp.cells (i := 5) (it := snds (some ⟨g, 0, none⟩) 1 1 [⟨1, 3, [97]⟩]) rfl (A := some ⟨g, 0, none⟩) (c := 1) rfl
    | 1, hv, hx =>
      obtain rfl := Option.some.inj hv
      obtain rfl := Option.some.inj hx
      exact hp.cells (i := 3) (it := snds (some ⟨g + 1 + 1, 0, none⟩) 1 1 [⟨3, 0, [97]⟩]) rfl (A := some ⟨g + 1 + 1, 0, none⟩) (c := 1) rfl
    | j + 2, hv, hx => simp at hv))
  obtain ⟨z0, z1, z2⟩ := hp.obox_at (i := 0) rfl
  have V2 := Lib.hid hp
  have HW2 := Lib.hid hw2
  have HG := Lib.hid hg
  have hstr : ∀ k : Fin 17, (({ data := #[97, 97, 97, 97, 97, 97, 97, 97, 97, 97, 97, 97, 97, 97, 97, 97] } : ByteArray).extract 0 k.val) = bs (manU k.val) := by decide +kernel
  have HSTR := Lib.hid (hstr ⟨n, by omega⟩)
  have HV := Lib.hid (man_v b ⟨hb, c1⟩)
  clear hp hw2 hg hstr
  obtain ⟨L, hL⟩ : ∃ L, L = manL b := ⟨_, rfl⟩
  obtain ⟨U, hU⟩ : ∃ U, U = manU n := ⟨_, rfl⟩
  have HSB := Lib.hid (show SgBd L by rw [hL]; exact SgBd.ok HV.out)
  have HLEN := Lib.hid (show L.length = 2 by rw [hL]; rfl)
  have HUL := Lib.hid (show U.length = n by rw [hU]; exact List.length_replicate)
  have HSM := Lib.hid (show n ≤ 7 → bgE [111] L U = 0 ∧ cnT [111] L U = 2 ^ n from fun h => by rw [hL, hU]; exact man_small b ⟨hb, c1⟩ n hn1 h)
  have HBG := Lib.hid (show 8 ≤ n → bgE [111] L U = 3 ∧ cnT [111] L U = 0 from fun h => by rw [hL, hU]; exact man_big b ⟨hb, c1⟩ n h hn16)
  have HBS := Lib.hid (show ∀ x r, srtD L (dvs L U) = x :: r → cD L x = 0 ∧ x.length = n ∧ x[0]? = some 0 from fun x r e => by rw [hL, hU] at e; rw [hL]; exact man_best b ⟨hb, c1⟩ n hn1 hn16 e)
  rw [← hL] at HA
  rw [← hU] at HSTR
  clear hL hU HV
  go_upto_region 8 with fail
  rw [HSTR.out, ← HW2.out, ← HG.out]
  go_wp2_with fail
  refine (countD_any [111] L (some ⟨g + 1 + 1 + 1 + 1, 0, none⟩) 2 2 U w2 (by decide) HLEN.out (by decide) (by decide) HSB.out HA.out (by rw [HUL.out]; omega)).mono ?_
  rintro e w3 ⟨rfl, hB⟩
  have V3 := Lib.hid (V2.out.go hB)
  have HA3 := Lib.hid (HA.out.below hB)
  clear hB z0 z1 z2
  by_cases c7 : 7 < n
  · obtain ⟨h1, h2⟩ := HBG.out (by omega)
    rw [h1, h2]
    clear h1 h2
    go_wp2_with fail
    go_ret
    exact ⟨rfl, btwo B1.out V3.out.below⟩
  obtain ⟨h1, h2⟩ := HSM.out (by omega)
  have H0 := Lib.hid h1
  rw [h1, h2]
  obtain ⟨K, hK⟩ : ∃ K : Nat, K = 2 ^ n := ⟨_, rfl⟩
  have HK := Lib.hid hK
  rw [← hK]
  clear h1 h2 hK
  obtain ⟨z0, z1, z2⟩ := V3.out.obox_at (i := 0) rfl
  go_wp2_with fail
  refine (bestD_any [111] L (some ⟨g + 1 + 1 + 1 + 1, 0, none⟩) 2 2 U w3 (by decide) HLEN.out (by decide) (by decide) HSB.out HA3.out (by rw [HUL.out]; omega)).mono ?_
  rintro e w4 (⟨hne, _⟩ | ⟨_, C, d, x, rr, rfl, hx, hp4⟩)
  · exact absurd H0.out hne
  obtain ⟨f1, f2, f3⟩ := HBS.out x rr hx
  have V4 := Lib.hid (V3.out.go hp4.below)
  obtain ⟨b4, o4, rfl, hb4, c4⟩ := (hp4.cells (i := 0) (it := nums C x.length d (dI x)) rfl (A := C) (c := d) rfl).int (j := 0) (by rw [dI_len, f2]; omega)
  rw [show (dI x).getD 0 0 = 0 by rw [List.getD_eq_getElem?_getD, dI_at f3]; rfl, Nat.add_zero] at c4
  rw [f1, f2]
  clear f1 f2 f3 hx hp4 z0 z1 z2
  rcases (show n = 1 ∨ n = 2 ∨ n = 3 ∨ n = 4 ∨ n = 5 ∨ n = 6 ∨ n = 7 by omega) with rfl | rfl | rfl | rfl | rfl | rfl | rfl
  all_goals
    have hK := HK.out
    simp only [Nat.reducePow] at hK
    subst hK
    go_wp2_with fail
    go_ret
    exact ⟨rfl, btwo B1.out V4.out.below⟩
end Go.Proofs.Ytpifchlpakajjaa
