/- How the program rounds a fraction to a number of digits, in general. -/
import Derived.Test.YtbhneddjjgegmaaGreatDoorHD
namespace Go.Proofs.YtbhneddjjgegmaaGreatDoor
open Go.RowKit
set_option linter.unusedVariables false
set_option maxRecDepth 100000

theorem zeros_size (k : Nat) : (zeros k).size = k := by simp [zeros, ByteArray.size]
theorem par_two (k : Nat) (b : ByteArray) (hk : k ≤ 20) (hb : b = (⟨#[50]⟩ : ByteArray) ++ zeros k) (W : World) : Calls Tryz.prog 68 #[.string b] W (ValPost (2 * 10 ^ k) W) := by
  subst hb
  have key : ∀ j : Fin 21, parseV ((⟨#[50]⟩ ++ zeros j.1 : ByteArray)).data.toList = (2 * 10 ^ j.1, 0) ∧ ((⟨#[50]⟩ ++ zeros j.1 : ByteArray)).size ≤ 21 ∧ (0 : Int) ≤ 2 * 10 ^ j.1 ∧ (2 * 10 ^ j.1 : Int) < 1000000000000000000000000 := by decide +kernel
  obtain ⟨h1, h2, h3, h4⟩ := key ⟨k, by omega⟩
  have h2 : ((⟨#[50]⟩ ++ zeros k : ByteArray)).size ≤ 21 := h2
  have hl : (digs (2 * 10 ^ k)).length ≤ 200 := Nat.le_trans (digs_len_le (n := 2 * 10 ^ k) (k := 6) (by simp [pw]; exact h4)) (by omega)
  exact (parse_any _ W (by unfold maxLen; omega)).mono fun e w' h => val_post h h1 h3 hl
/-- The answer of rounded, with T for twice the power of ten. -/
def rndR (T p q : Int) : Int × Int := if 200 < (digs (p * T)).length then (0, 3) else if 200 < (digs (p * T + q)).length then (0, 3) else if 200 < (digs (q * 2)).length then (0, 3) else ((p * T + q) / (q * 2), 0)
set_option maxHeartbeats 8000000 in
theorem rounded_any (k : Nat) (s : Bool) (n c m d : Nat) (p q T : Int) (A B : Option Addr) (W : World) (hk : k ≤ 20) (hT : T = 2 * 10 ^ k) (hx : NumAt W (.slice A n c) p) (hy : NumAt W (.slice B m d) q) (hq : 0 < q) :
    Calls Tryz.prog 59 #[.agg #[.bool s, .slice A n c, .slice B m d], .int .i64 (k : Int)] W (ValR (rndR T p q) W) := by
  obtain ⟨E, hE⟩ : ∃ E : World, E = (W.alloc (.cells #[.bool s, .slice A n c, .slice B m d] 26)).alloc (.cells #[.slice none 0 0] 24) := ⟨_, rfl⟩
  have BE : Below W.heap.size W E := by rw [hE]; exact two_box
  have KE : KeptAt (W.heap.size + 1) E := by
    have : KeptAt (W.alloc (.cells #[.bool s, .slice A n c, .slice B m d] 26)).heap.size ((W.alloc (.cells #[.bool s, .slice A n c, .slice B m d] 26)).alloc (.cells #[.slice none 0 0] 24)) := heap_alloc_new _ _
    rw [← hE] at this
    simpa using this
  have VW := (((LiveA.start W).num hy).num hx).newF (.bool s) (.slice A n c) (.slice B m d) 26
  have V0 := Lib.hid (show LiveA E [(⟨W.heap.size, 2, none⟩, .slice B m d), (⟨W.heap.size, 1, none⟩, .slice A n c), (⟨W.heap.size, 0, none⟩, .bool s)] [(.slice A n c, p), (.slice B m d, q)] E by
    have h := VW.go (one_new (o := .cells #[.slice none 0 0] 24))
    rw [← hE] at h
    exact ⟨h.1, h.2.1, Below.refl _ _⟩)
  have HKE := Lib.hid KE
  have HES := Lib.hid (show E.heap.size = W.heap.size + 1 + 1 by rw [hE]; simp)
  have HBE := Lib.hid BE
  have HQ := Lib.hid hq
  obtain ⟨z, hz⟩ : ∃ z, z = zeros k := ⟨_, rfl⟩
  have hzs : z.size ≤ 20 := by rw [hz, zeros_size]; exact hk
  have HPT := Lib.hid (fun w => show Calls Tryz.prog 68 #[.string ((⟨#[50]⟩ : ByteArray) ++ z)] w (ValPost T w) by rw [hT, hz]; exact par_two k _ hk rfl w)
  have HRP := Lib.hid (fun w => show Calls Tryz.prog 61 #[.string ⟨#[48]⟩, .int .i64 (k : Int)] w (fun e w' => e = .returned (.string z) ∧ w = w') by rw [hz]; exact repeat_any k w (by omega))
  clear hz
  clear VW KE BE hx hy hq hT
  subst hE
  by_cases h1 : 200 < (digs (p * T)).length
  · have HR := Lib.hid (show rndR T p q = (0, 3) by unfold rndR; rw [if_pos h1])
    have H1 := Lib.hid h1
    clear h1
    go_enter Tryz.func59, Tryz.ntmps59
    go_wp2_with fail
    refine (HRP.out _).mono ?_
    rintro e w' ⟨rfl, rfl⟩
    go_wp2_with fail
    refine (HPT.out _).mono ?_
    rintro e w1 ⟨AT, cT, kT, rfl, n1, b1⟩
    have U1 := Lib.hid ((V0.out.go b1).num n1)
    clear n1 b1
    have V1 := Lib.hid (U1.out.new (.slice AT kT cT) 24)
    go_wp2_with fail
    refine (of_num 2 _ (by omega) (by omega)).mono ?_
    rintro e w2 ⟨Atwo, ctwo, ktwo, rfl, n2, b2⟩
    have U2 := Lib.hid ((V1.out.go b2).num n2)
    clear n2 b2
    obtain ⟨x2_f1, y2_f1⟩ := U2.out.box (.tail _ (.tail _ (.head _)))
    obtain ⟨x2_T, y2_T⟩ := U2.out.box (.head _)
    have V2 := Lib.hid (U2.out.new (.slice Atwo ktwo ctwo) 24)
    go_wp2_with fail
    refine (mul_over n c kT cT _ _ A AT _ (V2.out.at (.tail _ (.tail _ (.head _)))) (V2.out.at (.tail _ (.head _))) H1.out).mono ?_
    rintro e w3 ⟨An, cn, rfl, n3, b3⟩
    clear x2_f1 y2_f1 x2_T y2_T
    have U3 := Lib.hid ((V2.out.go b3).num n3)
    clear n3 b3
    have V3 := Lib.hid (U3.out.new (.slice An 0 cn) 24)
    have HB9 := Lib.hid (btwo HBE.out V3.out.2.2)
    obtain ⟨q1, q2, q3, q4⟩ := kept_old HKE.out (by rw [HES.out]; omega) V3.out.2.2
    have HQ1 := Lib.hid q1
    clear q1
    go_wp2_with fail
    refine bodyPost_ret (v := .tuple #[.agg #[.slice none 0 0], .int .i64 3]) ?_ rfl ?_
    · simp [results, Tryz.results59, go_sem, q2]
    · rw [HR.out]; exact ⟨none, 0, 0, rfl, num_nil _, HB9.out.setCell (p := ⟨W.heap.size + 1, 0, none⟩) (by show W.heap.size ≤ W.heap.size + 1; omega) _⟩
  by_cases h2 : 200 < (digs (p * T + q)).length
  · have HR := Lib.hid (show rndR T p q = (0, 3) by unfold rndR; rw [if_neg h1, if_pos h2])
    have H1 := Lib.hid (show (digs (p * T)).length ≤ 200 by omega)
    have H2 := Lib.hid h2
    clear h1 h2
    go_enter Tryz.func59, Tryz.ntmps59
    go_wp2_with fail
    refine (HRP.out _).mono ?_
    rintro e w' ⟨rfl, rfl⟩
    go_wp2_with fail
    refine (HPT.out _).mono ?_
    rintro e w1 ⟨AT, cT, kT, rfl, n1, b1⟩
    have U1 := Lib.hid ((V0.out.go b1).num n1)
    clear n1 b1
    have V1 := Lib.hid (U1.out.new (.slice AT kT cT) 24)
    go_wp2_with fail
    refine (of_num 2 _ (by omega) (by omega)).mono ?_
    rintro e w2 ⟨Atwo, ctwo, ktwo, rfl, n2, b2⟩
    have U2 := Lib.hid ((V1.out.go b2).num n2)
    clear n2 b2
    obtain ⟨x2_f1, y2_f1⟩ := U2.out.box (.tail _ (.tail _ (.head _)))
    obtain ⟨x2_T, y2_T⟩ := U2.out.box (.head _)
    have V2 := Lib.hid (U2.out.new (.slice Atwo ktwo ctwo) 24)
    go_wp2_with fail
    refine (mul_num n c kT cT _ _ A AT _ (V2.out.at (.tail _ (.tail _ (.head _)))) (V2.out.at (.tail _ (.head _))) H1.out).mono ?_
    rintro e w3 ⟨An, cn, kn, rfl, n3, b3⟩
    clear x2_f1 y2_f1 x2_T y2_T
    have U3 := Lib.hid ((V2.out.go b3).num n3)
    clear n3 b3
    have V3 := Lib.hid (U3.out.new (.slice An kn cn) 24)
    have HN3 := Lib.hid (heap_alloc_new w3 (.cells #[.slice An kn cn] 24))
    obtain ⟨x3_n, y3_n⟩ := V3.out.box (.head _)
    obtain ⟨x3_f2, y3_f2⟩ := V3.out.box (.tail _ (.tail _ (.tail _ (.head _))))
    go_wp2_with fail
    refine (add_over kn cn m d _ _ An B _ (V3.out.at (.head _)) (V3.out.at (.tail _ (.tail _ (.tail _ (.tail _ (.head _)))))) H2.out).mono ?_
    rintro e w4 ⟨Az, cz, rfl, n4, b4⟩
    clear x3_n y3_n x3_f2 y3_f2
    have HN4 := Lib.hid (show w4.heap[w3.heap.size]? = some (.cells #[.slice An kn cn] 24 (0, 0)) by rw [b4.block _ (by simp)]; exact HN3.out)
    have U4 := Lib.hid ((V3.out.go b4).num n4)
    clear n4 b4
    have HES3 := Lib.hid U3.out.2.2.size
    have l0 := (U3.out.box (.head _)).2
    have l1 := (U3.out.box (.tail _ (.head _))).2
    have l2 := (U3.out.box (.tail _ (.tail _ (.head _)))).2
    have l3 := (U3.out.box (.tail _ (.tail _ (.tail _ (.head _))))).2
    have l4 := (U3.out.box (.tail _ (.tail _ (.tail _ (.tail _ (.head _)))))).2
    dsimp only at l0 l1 l2 l3 l4
    have V4 := Lib.hid (LiveA.set (.slice Az 0 cz) U4.out.tail HN4.out HES3.out (by intro p hp; simp only [List.mem_cons, List.not_mem_nil, or_false] at hp; rcases hp with rfl | rfl | rfl | rfl | rfl <;> (simp only; omega)))
    have z0 := row_cell HN4.out
    have z1 : w4.frozen? ⟨w3.heap.size, 0, none⟩ = false := by simp [World.frozen?, HN4.out]
    have z2 : w3.heap.size < w4.heap.size := lt_of_block HN4.out
    obtain ⟨x4_z, y4_z⟩ := V4.out.box (.head _)
    obtain ⟨x4_two, y4_two⟩ := V4.out.box (.tail _ (.head _))
    obtain ⟨x4_T, y4_T⟩ := V4.out.box (.tail _ (.tail _ (.head _)))
    obtain ⟨x4_f2, y4_f2⟩ := V4.out.box (.tail _ (.tail _ (.tail _ (.head _))))
    obtain ⟨x4_f1, y4_f1⟩ := V4.out.box (.tail _ (.tail _ (.tail _ (.tail _ (.head _)))))
    obtain ⟨x4_f0, y4_f0⟩ := V4.out.box (.tail _ (.tail _ (.tail _ (.tail _ (.tail _ (.head _))))))
    have HKS := Lib.hid (show KeptAt (W.heap.size + 1) (w4.setCell ⟨w3.heap.size, 0, none⟩ (.slice Az 0 cz)) from row_far (kept_old HKE.out (by rw [HES.out]; omega) U4.out.2.2).1 (by have := (kept_old HKE.out (by rw [HES.out]; omega) U3.out.2.2).2.2.2; omega))
    have HB9 := Lib.hid (btwo HBE.out V4.out.2.2)
    obtain ⟨q2, q3⟩ := HKS.out.facts
    go_wp2_with fail
    refine bodyPost_ret (v := .tuple #[.agg #[.slice none 0 0], .int .i64 3]) ?_ rfl ?_
    · simp [results, Tryz.results59, go_sem, q2]
    · rw [HR.out]; exact ⟨none, 0, 0, rfl, num_nil _, HB9.out.setCell (p := ⟨W.heap.size + 1, 0, none⟩) (by show W.heap.size ≤ W.heap.size + 1; omega) _⟩
  by_cases h3 : 200 < (digs (q * 2)).length
  · have HR := Lib.hid (show rndR T p q = (0, 3) by unfold rndR; rw [if_neg h1, if_neg h2, if_pos h3])
    have H1 := Lib.hid (show (digs (p * T)).length ≤ 200 by omega)
    have H2 := Lib.hid (show (digs (p * T + q)).length ≤ 200 by omega)
    have H3 := Lib.hid h3
    clear h1 h2 h3
    go_enter Tryz.func59, Tryz.ntmps59
    go_wp2_with fail
    refine (HRP.out _).mono ?_
    rintro e w' ⟨rfl, rfl⟩
    go_wp2_with fail
    refine (HPT.out _).mono ?_
    rintro e w1 ⟨AT, cT, kT, rfl, n1, b1⟩
    have U1 := Lib.hid ((V0.out.go b1).num n1)
    clear n1 b1
    have V1 := Lib.hid (U1.out.new (.slice AT kT cT) 24)
    go_wp2_with fail
    refine (of_num 2 _ (by omega) (by omega)).mono ?_
    rintro e w2 ⟨Atwo, ctwo, ktwo, rfl, n2, b2⟩
    have U2 := Lib.hid ((V1.out.go b2).num n2)
    clear n2 b2
    obtain ⟨x2_f1, y2_f1⟩ := U2.out.box (.tail _ (.tail _ (.head _)))
    obtain ⟨x2_T, y2_T⟩ := U2.out.box (.head _)
    have V2 := Lib.hid (U2.out.new (.slice Atwo ktwo ctwo) 24)
    go_wp2_with fail
    refine (mul_num n c kT cT _ _ A AT _ (V2.out.at (.tail _ (.tail _ (.head _)))) (V2.out.at (.tail _ (.head _))) H1.out).mono ?_
    rintro e w3 ⟨An, cn, kn, rfl, n3, b3⟩
    clear x2_f1 y2_f1 x2_T y2_T
    have U3 := Lib.hid ((V2.out.go b3).num n3)
    clear n3 b3
    have V3 := Lib.hid (U3.out.new (.slice An kn cn) 24)
    have HN3 := Lib.hid (heap_alloc_new w3 (.cells #[.slice An kn cn] 24))
    obtain ⟨x3_n, y3_n⟩ := V3.out.box (.head _)
    obtain ⟨x3_f2, y3_f2⟩ := V3.out.box (.tail _ (.tail _ (.tail _ (.head _))))
    go_wp2_with fail
    refine (add_num kn cn m d _ _ An B _ (V3.out.at (.head _)) (V3.out.at (.tail _ (.tail _ (.tail _ (.tail _ (.head _)))))) H2.out).mono ?_
    rintro e w4 ⟨Az, cz, kz, rfl, n4, b4⟩
    clear x3_n y3_n x3_f2 y3_f2
    have HN4 := Lib.hid (show w4.heap[w3.heap.size]? = some (.cells #[.slice An kn cn] 24 (0, 0)) by rw [b4.block _ (by simp)]; exact HN3.out)
    have U4 := Lib.hid ((V3.out.go b4).num n4)
    clear n4 b4
    have HES3 := Lib.hid U3.out.2.2.size
    have l0 := (U3.out.box (.head _)).2
    have l1 := (U3.out.box (.tail _ (.head _))).2
    have l2 := (U3.out.box (.tail _ (.tail _ (.head _)))).2
    have l3 := (U3.out.box (.tail _ (.tail _ (.tail _ (.head _))))).2
    have l4 := (U3.out.box (.tail _ (.tail _ (.tail _ (.tail _ (.head _)))))).2
    dsimp only at l0 l1 l2 l3 l4
    have V4 := Lib.hid (LiveA.set (.slice Az kz cz) U4.out.tail HN4.out HES3.out (by intro p hp; simp only [List.mem_cons, List.not_mem_nil, or_false] at hp; rcases hp with rfl | rfl | rfl | rfl | rfl <;> (simp only; omega)))
    have z0 := row_cell HN4.out
    have z1 : w4.frozen? ⟨w3.heap.size, 0, none⟩ = false := by simp [World.frozen?, HN4.out]
    have z2 : w3.heap.size < w4.heap.size := lt_of_block HN4.out
    obtain ⟨x4_z, y4_z⟩ := V4.out.box (.head _)
    obtain ⟨x4_two, y4_two⟩ := V4.out.box (.tail _ (.head _))
    obtain ⟨x4_T, y4_T⟩ := V4.out.box (.tail _ (.tail _ (.head _)))
    obtain ⟨x4_f2, y4_f2⟩ := V4.out.box (.tail _ (.tail _ (.tail _ (.head _))))
    obtain ⟨x4_f1, y4_f1⟩ := V4.out.box (.tail _ (.tail _ (.tail _ (.tail _ (.head _)))))
    obtain ⟨x4_f0, y4_f0⟩ := V4.out.box (.tail _ (.tail _ (.tail _ (.tail _ (.tail _ (.head _))))))
    have HKS := Lib.hid (show KeptAt (W.heap.size + 1) (w4.setCell ⟨w3.heap.size, 0, none⟩ (.slice Az kz cz)) from row_far (kept_old HKE.out (by rw [HES.out]; omega) U4.out.2.2).1 (by have := (kept_old HKE.out (by rw [HES.out]; omega) U3.out.2.2).2.2.2; omega))
    go_wp2_with fail
    refine (mul_over m d ktwo ctwo _ _ B Atwo _ (V4.out.at (.tail _ (.tail _ (.tail _ (.tail _ (.tail _ (.head _))))))) (V4.out.at (.tail _ (.tail _ (.head _)))) H3.out).mono ?_
    rintro e w5 ⟨Ao, co, rfl, n5, b5⟩
    clear x4_z y4_z x4_two y4_two x4_T y4_T x4_f2 y4_f2 x4_f1 y4_f1 x4_f0 y4_f0
    clear z0 z1 z2
    have HKS := Lib.hid (kept_old HKS.out (lt_of_block HKS.out) b5).1
    have U5 := Lib.hid ((V4.out.go b5).num n5)
    clear n5 b5
    obtain ⟨x5_z, y5_z⟩ := U5.out.box (.head _)
    have HKS := Lib.hid (kept_old HKS.out (lt_of_block HKS.out) (one_new (o := .cells #[.slice Ao 0 co] 24))).1
    have V5 := Lib.hid (U5.out.new (.slice Ao 0 co) 24)
    have HB9 := Lib.hid (btwo HBE.out V5.out.2.2)
    obtain ⟨q2, q3⟩ := HKS.out.facts
    go_wp2_with fail
    refine bodyPost_ret (v := .tuple #[.agg #[.slice none 0 0], .int .i64 3]) ?_ rfl ?_
    · simp [results, Tryz.results59, go_sem, q2]
    · rw [HR.out]; exact ⟨none, 0, 0, rfl, num_nil _, HB9.out.setCell (p := ⟨W.heap.size + 1, 0, none⟩) (by show W.heap.size ≤ W.heap.size + 1; omega) _⟩
  have HR := Lib.hid (show rndR T p q = ((p * T + q) / (q * 2), 0) by unfold rndR; rw [if_neg h1, if_neg h2, if_neg h3])
  have H1 := Lib.hid (show (digs (p * T)).length ≤ 200 by omega)
  have H2 := Lib.hid (show (digs (p * T + q)).length ≤ 200 by omega)
  have H3 := Lib.hid (show (digs (q * 2)).length ≤ 200 by omega)
  clear h1 h2 h3
  go_enter Tryz.func59, Tryz.ntmps59
  go_wp2_with fail
  refine (HRP.out _).mono ?_
  rintro e w' ⟨rfl, rfl⟩
  go_wp2_with fail
  refine (HPT.out _).mono ?_
  rintro e w1 ⟨AT, cT, kT, rfl, n1, b1⟩
  have U1 := Lib.hid ((V0.out.go b1).num n1)
  clear n1 b1
  have V1 := Lib.hid (U1.out.new (.slice AT kT cT) 24)
  go_wp2_with fail
  refine (of_num 2 _ (by omega) (by omega)).mono ?_
  rintro e w2 ⟨Atwo, ctwo, ktwo, rfl, n2, b2⟩
  have U2 := Lib.hid ((V1.out.go b2).num n2)
  clear n2 b2
  obtain ⟨x2_f1, y2_f1⟩ := U2.out.box (.tail _ (.tail _ (.head _)))
  obtain ⟨x2_T, y2_T⟩ := U2.out.box (.head _)
  have V2 := Lib.hid (U2.out.new (.slice Atwo ktwo ctwo) 24)
  go_wp2_with fail
  refine (mul_num n c kT cT _ _ A AT _ (V2.out.at (.tail _ (.tail _ (.head _)))) (V2.out.at (.tail _ (.head _))) H1.out).mono ?_
  rintro e w3 ⟨An, cn, kn, rfl, n3, b3⟩
  clear x2_f1 y2_f1 x2_T y2_T
  have U3 := Lib.hid ((V2.out.go b3).num n3)
  clear n3 b3
  have V3 := Lib.hid (U3.out.new (.slice An kn cn) 24)
  have HN3 := Lib.hid (heap_alloc_new w3 (.cells #[.slice An kn cn] 24))
  obtain ⟨x3_n, y3_n⟩ := V3.out.box (.head _)
  obtain ⟨x3_f2, y3_f2⟩ := V3.out.box (.tail _ (.tail _ (.tail _ (.head _))))
  go_wp2_with fail
  refine (add_num kn cn m d _ _ An B _ (V3.out.at (.head _)) (V3.out.at (.tail _ (.tail _ (.tail _ (.tail _ (.head _)))))) H2.out).mono ?_
  rintro e w4 ⟨Az, cz, kz, rfl, n4, b4⟩
  clear x3_n y3_n x3_f2 y3_f2
  have HN4 := Lib.hid (show w4.heap[w3.heap.size]? = some (.cells #[.slice An kn cn] 24 (0, 0)) by rw [b4.block _ (by simp)]; exact HN3.out)
  have U4 := Lib.hid ((V3.out.go b4).num n4)
  clear n4 b4
  have HES3 := Lib.hid U3.out.2.2.size
  have l0 := (U3.out.box (.head _)).2
  have l1 := (U3.out.box (.tail _ (.head _))).2
  have l2 := (U3.out.box (.tail _ (.tail _ (.head _)))).2
  have l3 := (U3.out.box (.tail _ (.tail _ (.tail _ (.head _))))).2
  have l4 := (U3.out.box (.tail _ (.tail _ (.tail _ (.tail _ (.head _)))))).2
  dsimp only at l0 l1 l2 l3 l4
  have V4 := Lib.hid (LiveA.set (.slice Az kz cz) U4.out.tail HN4.out HES3.out (by intro p hp; simp only [List.mem_cons, List.not_mem_nil, or_false] at hp; rcases hp with rfl | rfl | rfl | rfl | rfl <;> (simp only; omega)))
  have z0 := row_cell HN4.out
  have z1 : w4.frozen? ⟨w3.heap.size, 0, none⟩ = false := by simp [World.frozen?, HN4.out]
  have z2 : w3.heap.size < w4.heap.size := lt_of_block HN4.out
  obtain ⟨x4_z, y4_z⟩ := V4.out.box (.head _)
  obtain ⟨x4_two, y4_two⟩ := V4.out.box (.tail _ (.head _))
  obtain ⟨x4_T, y4_T⟩ := V4.out.box (.tail _ (.tail _ (.head _)))
  obtain ⟨x4_f2, y4_f2⟩ := V4.out.box (.tail _ (.tail _ (.tail _ (.head _))))
  obtain ⟨x4_f1, y4_f1⟩ := V4.out.box (.tail _ (.tail _ (.tail _ (.tail _ (.head _)))))
  obtain ⟨x4_f0, y4_f0⟩ := V4.out.box (.tail _ (.tail _ (.tail _ (.tail _ (.tail _ (.head _))))))
  have HKS := Lib.hid (show KeptAt (W.heap.size + 1) (w4.setCell ⟨w3.heap.size, 0, none⟩ (.slice Az kz cz)) from row_far (kept_old HKE.out (by rw [HES.out]; omega) U4.out.2.2).1 (by have := (kept_old HKE.out (by rw [HES.out]; omega) U3.out.2.2).2.2.2; omega))
  go_wp2_with fail
  refine (mul_num m d ktwo ctwo _ _ B Atwo _ (V4.out.at (.tail _ (.tail _ (.tail _ (.tail _ (.tail _ (.head _))))))) (V4.out.at (.tail _ (.tail _ (.head _)))) H3.out).mono ?_
  rintro e w5 ⟨Ao, co, ko, rfl, n5, b5⟩
  clear x4_z y4_z x4_two y4_two x4_T y4_T x4_f2 y4_f2 x4_f1 y4_f1 x4_f0 y4_f0
  clear z0 z1 z2
  have HKS := Lib.hid (kept_old HKS.out (lt_of_block HKS.out) b5).1
  have U5 := Lib.hid ((V4.out.go b5).num n5)
  clear n5 b5
  obtain ⟨x5_z, y5_z⟩ := U5.out.box (.head _)
  have HKS := Lib.hid (kept_old HKS.out (lt_of_block HKS.out) (one_new (o := .cells #[.slice Ao ko co] 24))).1
  have V5 := Lib.hid (U5.out.new (.slice Ao ko co) 24)
  go_wp2_with fail
  refine (div_num kz cz ko co _ _ Az Ao _ (V5.out.at (.tail _ (.head _))) (V5.out.at (.head _)) (by have := HQ.out; omega)).mono ?_
  rintro e w6 ⟨Au, cu, ku, Ar, cr, kr, rfl, n6, m6, b6⟩
  clear x5_z y5_z
  have HKS := Lib.hid (kept_old HKS.out (lt_of_block HKS.out) b6).1
  have U6 := Lib.hid (((V5.out.go b6).num n6).num m6)
  clear n6 m6 b6
  obtain ⟨q6, q7⟩ := HKS.out.facts
  have q8 : W.heap.size + 1 < w6.heap.size := lt_of_block HKS.out
  have q9 : W.heap.size < w6.heap.size := by omega
  have HB := Lib.hid (btwo HBE.out U6.out.2.2)
  have NU := Lib.hid (U6.out.at (.tail _ (.head _)))
  have EC := Lib.hid (set_cells HKS.out (.slice Au ku cu) (.cells #[.slice Au ku cu] 24) (.cells #[.slice Ar kr cr] 24))
  go_wp2_with fail
  refine bodyPost_ret (v := .tuple #[.agg #[.slice Au ku cu], .int .i64 0]) ?_ rfl ?_
  · simp [results, Tryz.results59, go_sem, EC.out]
  · rw [HR.out]; obtain ⟨A5, c5, k5, e5, n5, b5⟩ := val_store2 (o1 := .cells #[.slice Au ku cu] 24) (o2 := .cells #[.slice Ar kr cr] 24) HKS.out (show W.heap.size ≤ W.heap.size + 1 by omega) NU.out HB.out rfl; exact ⟨A5, c5, k5, e5, n5, b5⟩
end Go.Proofs.YtbhneddjjgegmaaGreatDoor
