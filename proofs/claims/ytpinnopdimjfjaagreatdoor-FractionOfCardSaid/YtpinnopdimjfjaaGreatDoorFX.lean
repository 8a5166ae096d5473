/- The example of the chapter: what Decimal rounds. -/
import Derived.Test.YtpinnopdimjfjaaGreatDoorFd
import Derived.Test.YtpinnopdimjfjaaGreatDoorFe
import Derived.Test.YtpinnopdimjfjaaGreatDoorFc
import Derived.Test.YtpinnopdimjfjaaGreatDoorNWp
namespace Go.Proofs.YtpinnopdimjfjaaGreatDoor
open Go.RowKit
set_option linter.unusedVariables false
set_option maxRecDepth 100000

theorem zeros3 : zeros 3 = ⟨#[48, 48, 48]⟩ := by decide +kernel
theorem zeros1 : zeros 1 = ⟨#[48]⟩ := by decide +kernel
theorem rep3 (W : World) : Calls Tryz.prog 66 #[.string ⟨#[48]⟩, .int .i64 3] W fun e w' => e = .returned (.string ⟨#[48, 48, 48]⟩) ∧ W = w' := by
  have := repeat_any 3 W (by omega)
  rwa [zeros3] at this
theorem rep1 (W : World) : Calls Tryz.prog 66 #[.string ⟨#[48]⟩, .int .i64 1] W fun e w' => e = .returned (.string ⟨#[48]⟩) ∧ W = w' := by
  have := repeat_any 1 W (by omega)
  rwa [zeros1] at this
theorem lenN {x : Int} (h : x < 100000000) : (digs x).length ≤ 200 := Nat.le_trans (digs_len_le (n := x) (k := 2) (by simp [pw]; omega)) (by omega)
theorem par2000 (W : World) (b : ByteArray) (hb : b = ⟨#[50, 48, 48, 48]⟩) : Calls Tryz.prog 71 #[.string b] W (ValPost 2000 W) := by
  subst hb
  have hv : parseV (⟨#[50, 48, 48, 48]⟩ : ByteArray).data.toList = (2000, 0) := by decide +kernel
  exact (parse_any _ W (by decide)).mono fun e w' h => val_post h hv (by omega) (lenN (by omega))
/-- A list with one cell less. -/
theorem LiveA.tail {W w : World} {p : Addr × Value} {lc : List (Addr × Value)} {ln : List (Value × Int)} (h : LiveA W (p :: lc) ln w) : LiveA W lc ln w := ⟨fun a v hm => h.1 a v (List.mem_cons_of_mem _ hm), h.2⟩
/-- A number's box is stored into again. -/
theorem LiveA.set {W w : World} {lc : List (Addr × Value)} {ln : List (Value × Int)} {g : Nat} {T : TypeId} {A : Option Addr} {n c : Nat} (u : Value) (h : LiveA W lc ln w) (hg : w.heap[g]? = some (.cells #[.slice A n c] T (0, 0))) (hW : W.heap.size ≤ g) (hl : ∀ p ∈ lc, ¬ p.1.block = g) :
    LiveA W ((⟨g, 0, none⟩, u) :: lc) ln (w.setCell ⟨g, 0, none⟩ u) := by
  have hc : w.cell? ⟨g, 0, none⟩ = some (.slice A n c) := by rw [cell_of_row w _ 0 _ _ _ hg]; rfl
  have hs : (w.setCell ⟨g, 0, none⟩ u).heap.size = w.heap.size := by simp [World.setCell]
  have hgs : g < w.heap.size := (Array.getElem?_eq_some_iff.1 hg).1
  refine ⟨fun a v hm => ?_, fun v x hm => ?_, h.2.2.setCell (p := ⟨g, 0, none⟩) hW _⟩
  · rcases List.mem_cons.1 hm with e | e
    · injection e with e1 e2; subst e1; subst e2
      exact ⟨World.cell?_setCell_same w _ _ hc, by rw [hs]; exact hgs⟩
    · have hb := hl _ e
      have ap : a ≠ ⟨g, 0, none⟩ := fun e => hb (by rw [e])
      exact ⟨(World.cell?_setCell_other _ _ _ _ (by first | exact ap | exact ap.symm)).trans (h.1 a v e).1, by rw [hs]; exact (h.1 a v e).2⟩
  · obtain ⟨h0, A', c', e, hi, h1, h2, h3⟩ := h.2.1 v x hm
    exact ⟨h0, A', c', e, hi.store (x := .slice none 0 0) hg, h1, h2, h3⟩
theorem set_cells {w : World} {g : Nat} (hg : KeptAt g w) (v : Value) (o1 o2 : Obj) : (((w.setCell ⟨g, 0, none⟩ v).alloc o1).alloc o2).cell? ⟨g, 0, none⟩ = some v := by
  have hgs : g < w.heap.size := (Array.getElem?_eq_some_iff.1 hg).1
  exact ((two_box (W := w.setCell ⟨g, 0, none⟩ v) (o1 := o1) (o2 := o2)).cell (p := ⟨g, 0, none⟩) (by simpa [World.setCell] using hgs)).trans (World.cell?_setCell_same w _ _ hg.facts.1)
theorem val_store2 {W w : World} {g : Nat} {x y : Int} {A : Option Addr} {k c : Nat} {o1 o2 : Obj} (hg : KeptAt g w) (hW : W.heap.size ≤ g) (hx : NumAt w (.slice A k c) x) (hb : Below W.heap.size W w) (hxy : x = y) :
    ValPost y W (.returned (.tuple #[.agg #[.slice A k c], .int .i64 0])) (((w.setCell ⟨g, 0, none⟩ (.slice A k c)).alloc o1).alloc o2) := by
  subst hxy
  have h1 : w.heap[g]? = some (.cells #[.slice none 0 0] 24 (0, 0)) := hg
  obtain ⟨h0, A', c', e, hi, a1, a2, a3⟩ := hx
  exact ⟨A, c, k, rfl, ⟨h0, A', c', e, (hi.store (x := .slice none 0 0) h1).below two_box, a1, a2, a3⟩, btwo (hb.setCell (p := ⟨g, 0, none⟩) hW _) two_box⟩
set_option maxHeartbeats 4000000 in
theorem rounded_ex (n c m d : Nat) (A B : Option Addr) (W : World) (hx : NumAt W (.slice A n c) 2) (hy : NumAt W (.slice B m d) 3) :
    Calls Tryz.prog 64 #[.agg #[.bool true, .slice A n c, .slice B m d], .int .i64 3] W (ValPost 667 W) := by
  obtain ⟨E, hE⟩ : ∃ E : World, E = (W.alloc (.cells #[.bool true, .slice A n c, .slice B m d] 30)).alloc (.cells #[.slice none 0 0] 24) := ⟨_, rfl⟩
  have BE : Below W.heap.size W E := by rw [hE]; exact two_box
  have KE : KeptAt (W.heap.size + 1) E := by
    have : KeptAt (W.alloc (.cells #[.bool true, .slice A n c, .slice B m d] 30)).heap.size ((W.alloc (.cells #[.bool true, .slice A n c, .slice B m d] 30)).alloc (.cells #[.slice none 0 0] 24)) := heap_alloc_new _ _
    rw [← hE] at this
    simpa using this
  have VW := (((LiveA.start W).num hy).num hx).newF (.bool true) (.slice A n c) (.slice B m d) 30
  have V0 := Lib.hid (show LiveA E [(⟨W.heap.size, 2, none⟩, .slice B m d), (⟨W.heap.size, 1, none⟩, .slice A n c), (⟨W.heap.size, 0, none⟩, .bool true)] [(.slice A n c, 2), (.slice B m d, 3)] E by
    have h := VW.go (one_new (o := .cells #[.slice none 0 0] 24))
    rw [← hE] at h
    exact ⟨h.1, h.2.1, Below.refl _ _⟩)
  have HKE := Lib.hid KE
  have HES := Lib.hid (show E.heap.size = W.heap.size + 1 + 1 by rw [hE]; simp)
  have HBE := Lib.hid BE
  clear VW KE BE hx hy
  subst hE
  go_enter Tryz.func64, Tryz.ntmps64
  go_wp2_with fail
  refine (rep3 _).mono ?_
  rintro e w' ⟨rfl, rfl⟩
  go_wp2_with fail
  refine (par2000 _ _ (by decide +kernel)).mono ?_
  rintro e w1 ⟨At, ct, kt, rfl, n1, b1⟩
  have U1 := Lib.hid ((V0.out.go b1).num n1)
  clear n1 b1
  have V1 := Lib.hid (U1.out.new (.slice At kt ct) 24)
  go_wp2_with fail
  refine (of_num 2 _ (by omega) (by omega)).mono ?_
  rintro e w2 ⟨Aw, cw, kw, rfl, n2, b2⟩
  have U2 := Lib.hid ((V1.out.go b2).num n2)
  clear n2 b2
  obtain ⟨x2_f1, y2_f1⟩ := U2.out.box (.tail _ (.tail _ (.head _)))
  obtain ⟨x2_t, y2_t⟩ := U2.out.box (.head _)
  have V2 := Lib.hid (U2.out.new (.slice Aw kw cw) 24)
  go_wp2_with fail
  refine (mul_num n c kt ct _ _ A At _ (V2.out.at (.tail _ (.tail _ (.head _)))) (V2.out.at (.tail _ (.head _))) (lenN (by omega))).mono ?_
  rintro e w3 ⟨An, cn, kn, rfl, n3, b3⟩
  clear x2_f1 y2_f1 x2_t y2_t
  have U3 := Lib.hid ((V2.out.go b3).num n3)
  clear n3 b3
  obtain ⟨x3_f2, y3_f2⟩ := U3.out.box (.tail _ (.tail _ (.head _)))
  obtain ⟨x3_f1, y3_f1⟩ := U3.out.box (.tail _ (.tail _ (.tail _ (.head _))))
  obtain ⟨x3_w, y3_w⟩ := U3.out.box (.head _)
  have V3 := Lib.hid (U3.out.new (.slice An kn cn) 24)
  have HN3 := Lib.hid (heap_alloc_new w3 (.cells #[.slice An kn cn] 24))
  go_wp2_with fail
  refine (add_num kn cn m d _ _ An B _ (V3.out.at (.head _)) (V3.out.at (.tail _ (.tail _ (.tail _ (.tail _ (.head _)))))) (lenN (by omega))).mono ?_
  rintro e w4 ⟨Az, cz, kz, rfl, n4, b4⟩
  clear x3_f2 y3_f2 x3_f1 y3_f1 x3_w y3_w
  have HN4 := Lib.hid (show w4.heap[w3.heap.size]? = some (.cells #[.slice An kn cn] 24 (0, 0)) by rw [b4.block _ (by simp)]; exact HN3.out)
  have U4 := Lib.hid ((V3.out.go b4).num n4)
  clear n4 b4
  obtain ⟨x4_f2, y4_f2⟩ := U4.out.box (.tail _ (.tail _ (.tail _ (.head _))))
  obtain ⟨x4_f1, y4_f1⟩ := U4.out.box (.tail _ (.tail _ (.tail _ (.tail _ (.head _)))))
  obtain ⟨x4_w, y4_w⟩ := U4.out.box (.tail _ (.head _))
  obtain ⟨x4_t, y4_t⟩ := U4.out.box (.tail _ (.tail _ (.head _)))
  have z0 := row_cell HN4.out
  have z1 : w4.frozen? ⟨w3.heap.size, 0, none⟩ = false := by simp [World.frozen?, HN4.out]
  have z2 : w3.heap.size < w4.heap.size := (Array.getElem?_eq_some_iff.1 HN4.out).1
  obtain ⟨x3_w, y3_w⟩ := U3.out.box (.head _)
  obtain ⟨x3_t, y3_t⟩ := U3.out.box (.tail _ (.head _))
  obtain ⟨x3_f, y3_f⟩ := U3.out.box (.tail _ (.tail _ (.head _)))
  clear x3_w x3_f x3_t
  dsimp only at y3_w y3_t y3_f
  have HES3 := Lib.hid U3.out.2.2.size
  have V4 := Lib.hid (LiveA.set (.slice Az kz cz) U4.out.tail HN4.out HES3.out (by intro p hp; simp only [List.mem_cons, List.not_mem_nil, or_false] at hp; rcases hp with rfl | rfl | rfl | rfl | rfl <;> (simp only; omega)))
  go_wp2_with fail
  refine (mul_num m d kw cw _ _ B Aw _ (V4.out.at (.tail _ (.tail _ (.tail _ (.tail _ (.tail _ (.head _))))))) (V4.out.at (.tail _ (.tail _ (.head _)))) (lenN (by omega))).mono ?_
  rintro e w5 ⟨Ad, cd, kd, rfl, n5, b5⟩
  clear x4_f2 y4_f2 x4_f1 y4_f1 x4_w y4_w x4_t y4_t
  have U5 := Lib.hid ((V4.out.go b5).num n5)
  clear n5 b5
  obtain ⟨x5_n, y5_n⟩ := U5.out.box (.head _)
  have V5 := Lib.hid (U5.out.new (.slice Ad kd cd) 24)
  go_wp2_with fail
  refine (div_num kz cz kd cd _ _ Az Ad _ (V5.out.at (.tail _ (.head _))) (V5.out.at (.head _)) (by omega)).mono ?_
  rintro e w6 ⟨Au, cu, ku, Ar, cr, kr, rfl, n6, m6, b6⟩
  clear x5_n y5_n
  have U6 := Lib.hid (((V5.out.go b6).num n6).num m6)
  clear n6 m6 b6
  have V6 := Lib.hid (U6.out.new2 (.slice Au ku cu) (.slice Ar kr cr) 24)
  obtain ⟨q5, q6, q7, q8⟩ := kept_old HKE.out (by simp) U6.out.2.2
  have q9 : W.heap.size < w6.heap.size := by omega
  have HQ5 := Lib.hid q5
  have HB := Lib.hid (btwo HBE.out U6.out.2.2)
  have NU := Lib.hid (U6.out.at (.tail _ (.head _)))
  have EC := Lib.hid (set_cells q5 (.slice Au ku cu) (.cells #[.slice Au ku cu] 24) (.cells #[.slice Ar kr cr] 24))
  clear q5
  go_wp2_with fail
  refine bodyPost_ret (v := .tuple #[.agg #[.slice Au ku cu], .int .i64 0]) ?_ rfl ?_
  · simp [results, Tryz.results64, go_sem, EC.out]
  · exact val_store2 HQ5.out (by omega) NU.out HB.out (by decide)
end Go.Proofs.YtpinnopdimjfjaaGreatDoor
/- The example of the chapter: Decimal. -/
namespace Go.Proofs.YtpinnopdimjfjaaGreatDoor
open Go.RowKit
set_option linter.unusedVariables false
set_option maxRecDepth 100000

theorem fmt667 : (⟨(fmt 667).toArray⟩ : ByteArray) = ⟨#[54, 54, 55]⟩ := by decide +kernel
theorem gcd23 : gcdI 2 3 = 1 := by decide
theorem form667 (n c : Nat) (A : Option Addr) (w : World) (h : NumAt w (.slice A n c) 667) (hT : Tab w) : Calls Tryz.prog 65 #[.agg #[.slice A n c]] w fun e w' => e = .returned (.tuple #[.string ⟨#[54, 54, 55]⟩, .int .i64 0]) ∧ Below w.heap.size w w' := by
  refine (format_num n c 667 A w h hT).mono ?_
  rintro e w' ⟨b, he, hb, _, hbel⟩
  rw [hb, fmt667] at he
  exact ⟨he, hbel⟩
set_option maxHeartbeats 4000000 in
theorem decimal_ex (n c m d : Nat) (A B : Option Addr) (W : World) (hx : NumAt W (.slice A n c) 2) (hy : NumAt W (.slice B m d) 3) (hT : Tab W) :
    Calls Tryz.prog 36 #[.agg #[.bool true, .slice A n c, .slice B m d], .int .i64 3] W (StrIs [45, 48, 46, 54, 54, 55] W) := by
  have V0 := Lib.hid ((((LiveA.start W).num hy).num hx).newF (.bool true) (.slice A n c) (.slice B m d) 30)
  have HT := Lib.hid hT
  clear hx hy hT
  go_enter Tryz.func36, Tryz.ntmps36
  go_wp2_with fail
  refine (fvalid_t true n c m d _ _ A B _ (V0.out.at (.head _)) (V0.out.at (.tail _ (.head _))) ⟨by omega, gcd23, fun _ => by omega⟩).mono ?_
  rintro e w1 ⟨rfl, b1⟩
  have V1 := Lib.hid (V0.out.go b1)
  clear b1
  obtain ⟨x1_f2, y1_f2⟩ := V1.out.box (.head _)
  obtain ⟨x1_f1, y1_f1⟩ := V1.out.box (.tail _ (.head _))
  obtain ⟨x1_f0, y1_f0⟩ := V1.out.box (.tail _ (.tail _ (.head _)))
  go_wp2_with fail
  refine (rounded_ex n c m d A B _ (V1.out.at (.head _)) (V1.out.at (.tail _ (.head _)))).mono ?_
  rintro e w2 ⟨Au, cu, ku, rfl, n2, b2⟩
  clear x1_f2 y1_f2 x1_f1 y1_f1 x1_f0 y1_f0
  have U2 := Lib.hid ((V1.out.go b2).num n2)
  clear n2 b2
  have V2 := Lib.hid (U2.out.new (.slice Au ku cu) 24)
  go_wp2_with fail
  refine (form667 ku cu Au _ (V2.out.at (.head _)) (HT.out.below V2.out.2.2)).mono ?_
  rintro e w3 ⟨rfl, b3⟩
  have V3 := Lib.hid (V2.out.go b3)
  clear b3
  obtain ⟨x3_f0, y3_f0⟩ := V3.out.box (.tail _ (.tail _ (.tail _ (.head _))))
  obtain ⟨x3_u, y3_u⟩ := V3.out.box (.head _)
  go_wp2_with fail
  refine (rep1 _).mono ?_
  rintro e w' ⟨rfl, rfl⟩
  go_wp2_with fail
  go_quiet (fail)
  have VQ := Lib.hid (V3.out.go (bdr (Below.refl _ _) nq))
  go_wp2_with fail
  refine (isZero_f ku cu _ Au _ (VQ.out.at (.head _)) (by omega)).mono ?_
  rintro e w4 ⟨rfl, b4⟩
  clear x3_f0 y3_f0 x3_u y3_u
  have V4 := Lib.hid (VQ.out.go b4)
  clear b4
  have e : (⟨#[45]⟩ ++ ((⟨#[48]⟩ ++ ⟨#[54, 54, 55]⟩ : ByteArray).extract 0 1 ++ ⟨#[46]⟩ ++ (⟨#[48]⟩ ++ ⟨#[54, 54, 55]⟩ : ByteArray).extract 1 4) : ByteArray) = ⟨([45, 48, 46, 54, 54, 55] : List UInt8).toArray⟩ := by decide +kernel
  have HE := Lib.hid e
  clear e
  go_wp2_with fail
  go_ret2
  exact ⟨congrArg (fun b => Ending.returned (.tuple #[.string b, .int .i64 0])) HE.out, V4.out.2.2⟩
end Go.Proofs.YtpinnopdimjfjaaGreatDoor
