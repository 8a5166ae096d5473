/- Boxes of fractions that may be stored to, and numbers that live. -/
import Derived.Test.YtkfkefgkepoaaaaGreatDoorHC
import Derived.Test.YtkfkefgkepoaaaaGreatDoorHA
import Derived.Test.YtkfkefgkepoaaaaGreatDoorHB
import Derived.Deep.RegionHeld3
namespace Go.Proofs.YtkfkefgkepoaaaaGreatDoor
open Go.RowKit
set_option linter.unusedVariables false
set_option maxRecDepth 100000

/-- What a box of a fraction holds. -/
structure FB where
  s : Bool
  A : Option Addr
  n : Nat
  c : Nat
  B : Option Addr
  m : Nat
  d : Nat
def FB.row (f : FB) : Obj := .cells #[.bool f.s, .slice f.A f.n f.c, .slice f.B f.m f.d] 32 (0, 0)
theorem row_set0 {w : World} {g : Nat} {a b c u : Value} {T : TypeId} (h : w.heap[g]? = some (.cells #[a, b, c] T (0, 0))) : (w.setCell ⟨g, 0, none⟩ u).heap[g]? = some (.cells #[u, b, c] T (0, 0)) := by
  have hlt := lt_of_block h
  have h' : w.heap[g] = .cells #[a, b, c] T (0, 0) := by simpa [Array.getElem?_eq_getElem hlt] using h
  show (w.heap.modify g _)[g]? = _
  rw [Array.getElem?_eq_getElem (by simpa using hlt), Array.getElem_modify_self, h']
  rfl
theorem row_set1 {w : World} {g : Nat} {a b c u : Value} {T : TypeId} (h : w.heap[g]? = some (.cells #[a, b, c] T (0, 0))) : (w.setCell ⟨g, 1, none⟩ u).heap[g]? = some (.cells #[a, u, c] T (0, 0)) := by
  have hlt := lt_of_block h
  have h' : w.heap[g] = .cells #[a, b, c] T (0, 0) := by simpa [Array.getElem?_eq_getElem hlt] using h
  show (w.heap.modify g _)[g]? = _
  rw [Array.getElem?_eq_getElem (by simpa using hlt), Array.getElem_modify_self, h']
  rfl
theorem row_set2 {w : World} {g : Nat} {a b c u : Value} {T : TypeId} (h : w.heap[g]? = some (.cells #[a, b, c] T (0, 0))) : (w.setCell ⟨g, 2, none⟩ u).heap[g]? = some (.cells #[a, b, u] T (0, 0)) := by
  have hlt := lt_of_block h
  have h' : w.heap[g] = .cells #[a, b, c] T (0, 0) := by simpa [Array.getElem?_eq_getElem hlt] using h
  show (w.heap.modify g _)[g]? = _
  rw [Array.getElem?_eq_getElem (by simpa using hlt), Array.getElem_modify_self, h']
  rfl
theorem row_far {w : World} {g b o : Nat} {u : Value} {x : Obj} (h : w.heap[b]? = some x) (hne : ¬ b = g) : (w.setCell ⟨g, o, none⟩ u).heap[b]? = some x := by
  rw [Below.heap_setCell _ _ _ _ (by show ¬ b = g; exact hne)]; exact h
theorem IntsIn.setF {w : World} {A : Option Addr} {L : List Int} {g i : Nat} {f : FB} {u : Value} (h : IntsIn w A L) (hg : w.heap[g]? = some f.row) : IntsIn (w.setCell ⟨g, i, none⟩ u) A L := by
  intro h0
  obtain ⟨b, off, rfl, hlt, hc⟩ := h h0
  have hb : ¬ b = g := by
    rintro rfl
    have h1 := hc 0 h0
    rw [cell_of_row w _ _ _ _ _ hg] at h1
    match off, h1 with
    | 0, h1 => simp at h1
    | 1, h1 => simp at h1
    | 2, h1 => simp at h1
    | k + 3, h1 => simp at h1
  refine ⟨b, off, rfl, by simpa [World.setCell] using hlt, fun j hj => ?_⟩
  have ap : (⟨b, off + j, none⟩ : Addr) ≠ ⟨g, i, none⟩ := fun e => by injection e with e1; exact hb e1
  rw [World.cell?_setCell_other _ _ _ _ (by first | exact ap | exact ap.symm)]
  exact hc j hj
theorem NumAt.setF {w : World} {y : Value} {n : Int} {g i : Nat} {f : FB} {u : Value} (h : NumAt w y n) (hg : w.heap[g]? = some f.row) : NumAt (w.setCell ⟨g, i, none⟩ u) y n := by
  obtain ⟨h0, A, c, e, hi, h1, h2, h3⟩ := h
  exact ⟨h0, A, c, e, hi.setF hg, h1, h2, h3⟩
/-- What lives on: boxes of fractions, numbers. -/
def BoxF (W : World) (lb : List (Nat × FB)) (ln : List (Value × Int)) (w : World) : Prop :=
  (∀ g f, (g, f) ∈ lb → W.heap.size ≤ g ∧ w.heap[g]? = some f.row) ∧ (∀ v x, (v, x) ∈ ln → NumAt w v x) ∧ Below W.heap.size W w
section
variable {W w w' : World} {lb lb' : List (Nat × FB)} {ln ln' : List (Value × Int)} {g : Nat} {f k : FB}
theorem BoxF.start (W : World) : BoxF W [] [] W := ⟨fun _ _ h => by simp at h, fun _ _ h => by simp at h, Below.refl _ _⟩
theorem BoxF.go (h : BoxF W lb ln w) (hb : Below w.heap.size w w') : BoxF W lb ln w' :=
  ⟨fun g f hm => ⟨(h.1 g f hm).1, (hb.block _ (lt_of_block (h.1 g f hm).2)).trans (h.1 g f hm).2⟩, fun v x hm => (h.2.1 v x hm).below hb, btwo h.2.2 hb⟩
theorem BoxF.num {u : Value} {y : Int} (h : BoxF W lb ln w) (hi : NumAt w u y) : BoxF W lb ((u, y) :: ln) w :=
  ⟨h.1, fun v x hm => by
    rcases List.mem_cons.1 hm with e | e
    · injection e with e1 e2; subst e1; subst e2; exact hi
    · exact h.2.1 v x e, h.2.2⟩
theorem BoxF.at {u : Value} {y : Int} (h : BoxF W lb ln w) (hm : (u, y) ∈ ln) : NumAt w u y := h.2.1 u y hm
theorem BoxF.sub (h : BoxF W lb ln w) (h1 : ∀ x ∈ lb', x ∈ lb) (h2 : ∀ x ∈ ln', x ∈ ln) : BoxF W lb' ln' w :=
  ⟨fun g f hm => h.1 g f (h1 _ hm), fun v x hm => h.2.1 v x (h2 _ hm), h.2.2⟩
theorem BoxF.lt (h : BoxF W lb ln w) (hm : (g, f) ∈ lb) : W.heap.size ≤ g ∧ g < w.heap.size := ⟨(h.1 g f hm).1, lt_of_block (h.1 g f hm).2⟩
theorem BoxF.box (h : BoxF W lb ln w) (hm : (g, f) ∈ lb) : w.cell? ⟨g, 0, none⟩ = some (.bool f.s) ∧ w.cell? ⟨g, 1, none⟩ = some (.slice f.A f.n f.c) ∧ w.cell? ⟨g, 2, none⟩ = some (.slice f.B f.m f.d) ∧ g < w.heap.size := by
  have hr := (h.1 g f hm).2
  exact ⟨by rw [cell_of_row w _ 0 _ _ _ hr]; rfl, by rw [cell_of_row w _ 1 _ _ _ hr]; rfl, by rw [cell_of_row w _ 2 _ _ _ hr]; rfl, lt_of_block hr⟩
theorem BoxF.open (h : BoxF W lb ln w) (hm : (g, f) ∈ lb) : w.frozen? ⟨g, 0, none⟩ = false ∧ w.frozen? ⟨g, 1, none⟩ = false ∧ w.frozen? ⟨g, 2, none⟩ = false := by
  have hr := (h.1 g f hm).2
  exact ⟨by simp [World.frozen?, hr, FB.row], by simp [World.frozen?, hr, FB.row], by simp [World.frozen?, hr, FB.row]⟩
theorem BoxF.new (h : BoxF W lb ln w) (s : Bool) (A : Option Addr) (n c : Nat) (B : Option Addr) (m d : Nat) :
    BoxF W ((w.heap.size, ⟨s, A, n, c, B, m, d⟩) :: lb) ln (w.alloc (.cells #[.bool s, .slice A n c, .slice B m d] 32)) := by
  have h2 := h.go (w' := w.alloc (.cells #[.bool s, .slice A n c, .slice B m d] 32)) ((Below.refl _ _).alloc (Nat.le_refl _) _)
  refine ⟨fun g f hm => ?_, h2.2⟩
  rcases List.mem_cons.1 hm with e | e
  · injection e with e1 e2; subst e1; subst e2
    exact ⟨h.2.2.size, heap_alloc_new w _⟩
  · exact h2.1 g f e
theorem BoxF.set0 (h : BoxF W lb ln w) (hm : (g, f) ∈ lb) (s : Bool) (lb' : List (Nat × FB)) (h' : ∀ x ∈ lb', x = (g, { f with s := s }) ∨ (x ∈ lb ∧ ¬ x.1 = g)) :
    BoxF W lb' ln (w.setCell ⟨g, 0, none⟩ (.bool s)) := by
  obtain ⟨hW, hr⟩ := h.1 g f hm
  refine ⟨fun b k hk => ?_, fun v x hv => (h.2.1 v x hv).setF hr, h.2.2.setCell (p := ⟨g, 0, none⟩) hW _⟩
  rcases h' _ hk with e | ⟨e, hne⟩
  · injection e with e1 e2; subst e1; subst e2
    exact ⟨hW, row_set0 hr⟩
  · exact ⟨(h.1 b k e).1, row_far (h.1 b k e).2 hne⟩
theorem BoxF.set (h : BoxF W lb ln w) (hm : (g, f) ∈ lb) (k : FB) (lb' : List (Nat × FB)) (h' : ∀ x ∈ lb', x = (g, k) ∨ (x ∈ lb ∧ ¬ x.1 = g)) :
    BoxF W lb' ln (((w.setCell ⟨g, 0, none⟩ (.bool k.s)).setCell ⟨g, 1, none⟩ (.slice k.A k.n k.c)).setCell ⟨g, 2, none⟩ (.slice k.B k.m k.d)) := by
  obtain ⟨hW, hr⟩ := h.1 g f hm
  have h1 : (w.setCell ⟨g, 0, none⟩ (.bool k.s)).heap[g]? = some (FB.row ⟨k.s, f.A, f.n, f.c, f.B, f.m, f.d⟩) := row_set0 hr
  have h2 : ((w.setCell ⟨g, 0, none⟩ (.bool k.s)).setCell ⟨g, 1, none⟩ (.slice k.A k.n k.c)).heap[g]? = some (FB.row ⟨k.s, k.A, k.n, k.c, f.B, f.m, f.d⟩) := row_set1 h1
  refine ⟨fun b x hx => ?_, fun v x hv => (((h.2.1 v x hv).setF hr).setF h1).setF h2, ((h.2.2.setCell (p := ⟨g, 0, none⟩) hW _).setCell (p := ⟨g, 1, none⟩) hW _).setCell (p := ⟨g, 2, none⟩) hW _⟩
  rcases h' _ hx with e | ⟨e, hne⟩
  · injection e with e1 e2; subst e1; subst e2
    exact ⟨hW, row_set2 h2⟩
  · exact ⟨(h.1 b x e).1, row_far (row_far (row_far (h.1 b x e).2 hne) hne) hne⟩
end
end Go.Proofs.YtkfkefgkepoaaaaGreatDoor
/- Contracts of the program's opposite, Add and Sub of fractions. -/
namespace Go.Proofs.YtkfkefgkepoaaaaGreatDoor
open Go.RowKit
set_option linter.unusedVariables false
set_option maxRecDepth 100000

/-- A fraction that is handed back: another sign, the same numbers. -/
def OppPost (s : Bool) (u v : Value) (W : World) (e : Ending) (w' : World) : Prop := e = .returned (.agg #[.bool s, u, v]) ∧ Below W.heap.size W w'
theorem opp_store {s : Bool} {u v : Value} {W w : World} {g : Nat} (hW : W.heap.size ≤ g) (hb : Below W.heap.size W w) :
    OppPost s u v W (.returned (.agg #[.bool s, u, v])) (((w.setCell ⟨g, 0, none⟩ (.bool s)).setCell ⟨g, 1, none⟩ u).setCell ⟨g, 2, none⟩ v) :=
  ⟨rfl, ((hb.setCell (p := ⟨g, 0, none⟩) hW _).setCell (p := ⟨g, 1, none⟩) hW _).setCell (p := ⟨g, 2, none⟩) hW _⟩
theorem OppPost.draw {s : Bool} {u v : Value} {W w : World} {e : Ending} (h : OppPost s u v W e w) : OppPost s u v W e w.drew := ⟨h.1, h.2.drew⟩
theorem cell_keep {w w' : World} {a : Addr} {v : Value} (h : w.cell? a = some v) (hg : a.block < w.heap.size) (hb : Below w.heap.size w w') : w'.cell? a = some v ∧ a.block < w'.heap.size :=
  ⟨(hb.cell (p := a) hg).trans h, Nat.lt_of_lt_of_le hg hb.size⟩
end Go.Proofs.YtkfkefgkepoaaaaGreatDoor
/- Contract of the program's Add of fractions. -/
namespace Go.Proofs.YtkfkefgkepoaaaaGreatDoor
open Go.RowKit
set_option linter.unusedVariables false
set_option maxRecDepth 100000

set_option maxHeartbeats 4000000 in
theorem fadd_any (s s2 : Bool) (L M L2 M2 : List Int) (n c m d n2 c2 m2 d2 : Nat) (A B A2 B2 : Option Addr) (W : World) (hn : L.length = n) (hm : M.length = m) (hnc : n ≤ c) (hmd : m ≤ d) (hc63 : c ≤ maxLen) (hd63 : d ≤ maxLen) (hA : IntsIn W A L) (hB : IntsIn W B M) (hn2 : L2.length = n2) (hm2 : M2.length = m2) (hnc2 : n2 ≤ c2) (hmd2 : m2 ≤ d2) (hc632 : c2 ≤ maxLen) (hd632 : d2 ≤ maxLen) (hA2 : IntsIn W A2 L2) (hB2 : IntsIn W B2 M2) :
    Calls Tryz.prog 11 #[.agg #[.bool s, .slice A n c, .slice B m d], .agg #[.bool s2, .slice A2 n2 c2, .slice B2 m2 d2]] W (FrE (opR sumR s s2 L M L2 M2) W) := by
  obtain ⟨E, hE⟩ : ∃ E : World, E = ((W.alloc (.cells #[.bool s, .slice A n c, .slice B m d] 32)).alloc (.cells #[.bool s2, .slice A2 n2 c2, .slice B2 m2 d2] 32)).alloc (.cells #[.bool false, .slice none 0 0, .slice none 0 0] 32) := ⟨_, rfl⟩
  have BE : Below W.heap.size W E := by rw [hE]; exact btwo two_box one_new
  have KE : KeptF (W.heap.size + 1 + 1) E := by
    have := keptF_new ((W.alloc (.cells #[.bool s, .slice A n c, .slice B m d] 32)).alloc (.cells #[.bool s2, .slice A2 n2 c2, .slice B2 m2 d2] 32))
    rw [← hE] at this
    simpa using this
  have VW := ((LiveA.start W).newF (.bool s) (.slice A n c) (.slice B m d) 32).newF (.bool s2) (.slice A2 n2 c2) (.slice B2 m2 d2) 32
  rw [show (W.alloc (.cells #[.bool s, .slice A n c, .slice B m d] 32)).heap.size = W.heap.size + 1 by simp] at VW
  have V0 := Lib.hid (show LiveA E [(⟨W.heap.size + 1, 2, none⟩, .slice B2 m2 d2), (⟨W.heap.size + 1, 1, none⟩, .slice A2 n2 c2), (⟨W.heap.size + 1, 0, none⟩, .bool s2), (⟨W.heap.size, 2, none⟩, .slice B m d), (⟨W.heap.size, 1, none⟩, .slice A n c), (⟨W.heap.size, 0, none⟩, .bool s)] [] E by
    have h := VW.go (one_new (o := .cells #[.bool false, .slice none 0 0, .slice none 0 0] 32))
    rw [← hE] at h
    exact ⟨h.1, h.2.1, Below.refl _ _⟩)
  have HKE := Lib.hid KE
  have HBE := Lib.hid BE
  have HA := Lib.hid (hA.below BE)
  have HB := Lib.hid (hB.below BE)
  have HA2 := Lib.hid (hA2.below BE)
  have HB2 := Lib.hid (hB2.below BE)
  have HN := Lib.hid hn
  have HM := Lib.hid hm
  have HN2 := Lib.hid hn2
  have HM2 := Lib.hid hm2
  have HNL := Lib.hid (fun (w : World) (h : IntsIn w A L) (v : vldB L = true) => num_mk hn hnc hc63 h v)
  have HNM := Lib.hid (fun (w : World) (h : IntsIn w B M) (v : vldB M = true) => num_mk hm hmd hd63 h v)
  have HNL2 := Lib.hid (fun (w : World) (h : IntsIn w A2 L2) (v : vldB L2 = true) => num_mk hn2 hnc2 hc632 h v)
  have HNM2 := Lib.hid (fun (w : World) (h : IntsIn w B2 M2) (v : vldB M2 = true) => num_mk hm2 hmd2 hd632 h v)
  clear VW KE BE hA hB hA2 hB2 hn hm hn2 hm2
  subst hE
  by_cases h1 : vldF s L M = true
  · by_cases h2 : vldF s2 L2 M2 = true
    · have HR := Lib.hid (opR_ok (f := sumR) h1 h2)
      have Q1 := Lib.hid (vldF_pos h1)
      have Q2 := Lib.hid (vldF_pos h2)
      have H1 := Lib.hid h1
      have H2 := Lib.hid h2
      clear h1 h2
      go_enter Tryz.func11, Tryz.ntmps11
      obtain ⟨x0_f2, y0_f2⟩ := V0.out.box (.tail _ (.tail _ (.tail _ (.head _))))
      obtain ⟨x0_f1, y0_f1⟩ := V0.out.box (.tail _ (.tail _ (.tail _ (.tail _ (.head _)))))
      obtain ⟨x0_f0, y0_f0⟩ := V0.out.box (.tail _ (.tail _ (.tail _ (.tail _ (.tail _ (.head _))))))
      go_wp2_with fail
      refine (fvalid_any s L M n c m d A B _ HN.out HM.out hnc hmd hc63 hd63 (HA.out.below V0.out.2.2) (HB.out.below V0.out.2.2)).mono ?_
      rintro e w1 ⟨rfl, b1⟩
      clear x0_f2 y0_f2 x0_f1 y0_f1 x0_f0 y0_f0
      have V1 := Lib.hid (V0.out.go b1)
      clear b1
      rw [H1.out]
      obtain ⟨x1_g2, y1_g2⟩ := V1.out.box (.head _)
      obtain ⟨x1_g1, y1_g1⟩ := V1.out.box (.tail _ (.head _))
      obtain ⟨x1_g0, y1_g0⟩ := V1.out.box (.tail _ (.tail _ (.head _)))
      go_wp2_with fail
      refine (fvalid_any s2 L2 M2 n2 c2 m2 d2 A2 B2 _ HN2.out HM2.out hnc2 hmd2 hc632 hd632 (HA2.out.below V1.out.2.2) (HB2.out.below V1.out.2.2)).mono ?_
      rintro e w2 ⟨rfl, b2⟩
      clear x1_g2 y1_g2 x1_g1 y1_g1 x1_g0 y1_g0
      have V2 := Lib.hid (V1.out.go b2)
      clear b2
      rw [H2.out]
      obtain ⟨x2_g2, y2_g2⟩ := V2.out.box (.head _)
      obtain ⟨x2_g1, y2_g1⟩ := V2.out.box (.tail _ (.head _))
      obtain ⟨x2_g0, y2_g0⟩ := V2.out.box (.tail _ (.tail _ (.head _)))
      obtain ⟨x2_f2, y2_f2⟩ := V2.out.box (.tail _ (.tail _ (.tail _ (.head _))))
      obtain ⟨x2_f1, y2_f1⟩ := V2.out.box (.tail _ (.tail _ (.tail _ (.tail _ (.head _)))))
      obtain ⟨x2_f0, y2_f0⟩ := V2.out.box (.tail _ (.tail _ (.tail _ (.tail _ (.tail _ (.head _))))))
      have HB8 := Lib.hid (btwo HBE.out V2.out.2.2)
      obtain ⟨⟨so, po, qo, eo⟩, ho⟩ : ∃ r, r = sumR s s2 (val L) (val M) (val L2) (val M2) := ⟨_, rfl⟩
      have HO := Lib.hid ho
      have HP := Lib.hid (sum3_any s s2 n c m d n2 c2 m2 d2 (val L) (val M) (val L2) (val M2) A B A2 B2 _ (HNL.out _ (HA.out.below V2.out.2.2) Q1.out.1) (HNM.out _ (HB.out.below V2.out.2.2) Q1.out.2.1) (HNL2.out _ (HA2.out.below V2.out.2.2) Q2.out.1) (HNM2.out _ (HB2.out.below V2.out.2.2) Q2.out.2.1) Q1.out.2.2.1 Q2.out.2.2.1)
      rw [← ho] at HP
      clear ho
      go_wp2_with fail
      refine HP.out.mono ?_
      rintro e w8 ⟨Ay, cy, ky, Az, cz, kz, rfl, n8, m8, b8⟩
      clear x2_g2 y2_g2 x2_g1 y2_g1 x2_g0 y2_g0 x2_f2 y2_f2 x2_f1 y2_f1 x2_f0 y2_f0
      have HB9 := Lib.hid (btwo HB8.out b8)
      have N8 := Lib.hid n8
      have M8 := Lib.hid m8
      have K8 := Lib.hid ((HKE.out.go V2.out.2.2).go b8)
      clear n8 m8 b8
      obtain ⟨k0, k1, k2, k3, k4, k5, k6⟩ := K8.out.facts
      go_wp2_with fail
      refine bodyPost_ret (v := .tuple #[.agg #[.bool so, .slice Ay ky cy, .slice Az kz cz], .int .i64 eo]) ?_ rfl ?_
      · simp [results, Tryz.results11, go_sem, k0, k1, k2]
      · rw [HR.out, ← HO.out]; exact fr_e (r := (so, po, qo, eo)) K8.out (by omega) N8.out M8.out HB9.out
    · have HR := Lib.hid (opR_no (f := sumR) (fun h : vldF s L M = true ∧ vldF s2 L2 M2 = true => h2 h.2))
      have H1 := Lib.hid h1
      have H2 := Lib.hid (show vldF s2 L2 M2 = false by simpa using h2)
      clear h1 h2
      go_enter Tryz.func11, Tryz.ntmps11
      obtain ⟨x0_f2, y0_f2⟩ := V0.out.box (.tail _ (.tail _ (.tail _ (.head _))))
      obtain ⟨x0_f1, y0_f1⟩ := V0.out.box (.tail _ (.tail _ (.tail _ (.tail _ (.head _)))))
      obtain ⟨x0_f0, y0_f0⟩ := V0.out.box (.tail _ (.tail _ (.tail _ (.tail _ (.tail _ (.head _))))))
      go_wp2_with fail
      refine (fvalid_any s L M n c m d A B _ HN.out HM.out hnc hmd hc63 hd63 (HA.out.below V0.out.2.2) (HB.out.below V0.out.2.2)).mono ?_
      rintro e w1 ⟨rfl, b1⟩
      clear x0_f2 y0_f2 x0_f1 y0_f1 x0_f0 y0_f0
      have V1 := Lib.hid (V0.out.go b1)
      clear b1
      rw [H1.out]
      obtain ⟨x1_g2, y1_g2⟩ := V1.out.box (.head _)
      obtain ⟨x1_g1, y1_g1⟩ := V1.out.box (.tail _ (.head _))
      obtain ⟨x1_g0, y1_g0⟩ := V1.out.box (.tail _ (.tail _ (.head _)))
      go_wp2_with fail
      refine (fvalid_any s2 L2 M2 n2 c2 m2 d2 A2 B2 _ HN2.out HM2.out hnc2 hmd2 hc632 hd632 (HA2.out.below V1.out.2.2) (HB2.out.below V1.out.2.2)).mono ?_
      rintro e w2 ⟨rfl, b2⟩
      clear x1_g2 y1_g2 x1_g1 y1_g1 x1_g0 y1_g0
      have V2 := Lib.hid (V1.out.go b2)
      clear b2
      rw [H2.out]
      have HK9 := Lib.hid (HKE.out.go V2.out.2.2)
      have HB9 := Lib.hid (btwo HBE.out V2.out.2.2)
      obtain ⟨j0, j1, j2, j3, j4, j5, j6⟩ := HK9.out.facts
      go_wp2_with fail
      refine bodyPost_ret (v := .tuple #[.agg #[.bool false, .slice none 0 0, .slice none 0 0], .int .i64 1]) ?_ rfl ?_
      · simp [results, Tryz.results11, go_sem, j0, j1, j2]
      · rw [HR.out]; exact (fr_err (g := W.heap.size + 1 + 1) (by omega) HB9.out).any
  · have HR := Lib.hid (opR_no (f := sumR) (fun h : vldF s L M = true ∧ vldF s2 L2 M2 = true => h1 h.1))
    have H1 := Lib.hid (show vldF s L M = false by simpa using h1)
    clear h1
    go_enter Tryz.func11, Tryz.ntmps11
    obtain ⟨x0_f2, y0_f2⟩ := V0.out.box (.tail _ (.tail _ (.tail _ (.head _))))
    obtain ⟨x0_f1, y0_f1⟩ := V0.out.box (.tail _ (.tail _ (.tail _ (.tail _ (.head _)))))
    obtain ⟨x0_f0, y0_f0⟩ := V0.out.box (.tail _ (.tail _ (.tail _ (.tail _ (.tail _ (.head _))))))
    go_wp2_with fail
    refine (fvalid_any s L M n c m d A B _ HN.out HM.out hnc hmd hc63 hd63 (HA.out.below V0.out.2.2) (HB.out.below V0.out.2.2)).mono ?_
    rintro e w1 ⟨rfl, b1⟩
    clear x0_f2 y0_f2 x0_f1 y0_f1 x0_f0 y0_f0
    have V1 := Lib.hid (V0.out.go b1)
    clear b1
    rw [H1.out]
    have HK9 := Lib.hid (HKE.out.go V1.out.2.2)
    have HB9 := Lib.hid (btwo HBE.out V1.out.2.2)
    obtain ⟨j0, j1, j2, j3, j4, j5, j6⟩ := HK9.out.facts
    go_wp2_with fail
    refine bodyPost_ret (v := .tuple #[.agg #[.bool false, .slice none 0 0, .slice none 0 0], .int .i64 1]) ?_ rfl ?_
    · simp [results, Tryz.results11, go_sem, j0, j1, j2]
    · rw [HR.out]; exact (fr_err (g := W.heap.size + 1 + 1) (by omega) HB9.out).any
end Go.Proofs.YtkfkefgkepoaaaaGreatDoor
/- Contract of the reference's Add of fractions. -/
namespace Go.Proofs.YtkfkefgkepoaaaaGreatDoor
open Go.RowKit
set_option linter.unusedVariables false
set_option maxRecDepth 100000

set_option maxHeartbeats 4000000 in
theorem radd3_any (s s2 : Bool) (L M L2 M2 : List Int) (n c m d n2 c2 m2 d2 : Nat) (A B A2 B2 : Option Addr) (W : World) (hn : L.length = n) (hm : M.length = m) (hnc : n ≤ c) (hmd : m ≤ d) (hc63 : c ≤ maxLen) (hd63 : d ≤ maxLen) (hA : IntsIn W A L) (hB : IntsIn W B M) (hn2 : L2.length = n2) (hm2 : M2.length = m2) (hnc2 : n2 ≤ c2) (hmd2 : m2 ≤ d2) (hc632 : c2 ≤ maxLen) (hd632 : d2 ≤ maxLen) (hA2 : IntsIn W A2 L2) (hB2 : IntsIn W B2 M2) :
    Calls Tryz.prog 22 #[.agg #[.bool s, .slice A n c, .slice B m d], .agg #[.bool s2, .slice A2 n2 c2, .slice B2 m2 d2]] W (FrE (opR sumR s s2 L M L2 M2) W) := by
  obtain ⟨E, hE⟩ : ∃ E : World, E = ((W.alloc (.cells #[.bool s, .slice A n c, .slice B m d] 32)).alloc (.cells #[.bool s2, .slice A2 n2 c2, .slice B2 m2 d2] 32)).alloc (.cells #[.bool false, .slice none 0 0, .slice none 0 0] 32) := ⟨_, rfl⟩
  have BE : Below W.heap.size W E := by rw [hE]; exact btwo two_box one_new
  have KE : KeptF (W.heap.size + 1 + 1) E := by
    have := keptF_new ((W.alloc (.cells #[.bool s, .slice A n c, .slice B m d] 32)).alloc (.cells #[.bool s2, .slice A2 n2 c2, .slice B2 m2 d2] 32))
    rw [← hE] at this
    simpa using this
  have VW := ((LiveA.start W).newF (.bool s) (.slice A n c) (.slice B m d) 32).newF (.bool s2) (.slice A2 n2 c2) (.slice B2 m2 d2) 32
  rw [show (W.alloc (.cells #[.bool s, .slice A n c, .slice B m d] 32)).heap.size = W.heap.size + 1 by simp] at VW
  have V0 := Lib.hid (show LiveA E [(⟨W.heap.size + 1, 2, none⟩, .slice B2 m2 d2), (⟨W.heap.size + 1, 1, none⟩, .slice A2 n2 c2), (⟨W.heap.size + 1, 0, none⟩, .bool s2), (⟨W.heap.size, 2, none⟩, .slice B m d), (⟨W.heap.size, 1, none⟩, .slice A n c), (⟨W.heap.size, 0, none⟩, .bool s)] [] E by
    have h := VW.go (one_new (o := .cells #[.bool false, .slice none 0 0, .slice none 0 0] 32))
    rw [← hE] at h
    exact ⟨h.1, h.2.1, Below.refl _ _⟩)
  have HKE := Lib.hid KE
  have HBE := Lib.hid BE
  have HA := Lib.hid (hA.below BE)
  have HB := Lib.hid (hB.below BE)
  have HA2 := Lib.hid (hA2.below BE)
  have HB2 := Lib.hid (hB2.below BE)
  have HN := Lib.hid hn
  have HM := Lib.hid hm
  have HN2 := Lib.hid hn2
  have HM2 := Lib.hid hm2
  have HNL := Lib.hid (fun (w : World) (h : IntsIn w A L) (v : vldB L = true) => num_mk hn hnc hc63 h v)
  have HNM := Lib.hid (fun (w : World) (h : IntsIn w B M) (v : vldB M = true) => num_mk hm hmd hd63 h v)
  have HNL2 := Lib.hid (fun (w : World) (h : IntsIn w A2 L2) (v : vldB L2 = true) => num_mk hn2 hnc2 hc632 h v)
  have HNM2 := Lib.hid (fun (w : World) (h : IntsIn w B2 M2) (v : vldB M2 = true) => num_mk hm2 hmd2 hd632 h v)
  clear VW KE BE hA hB hA2 hB2 hn hm hn2 hm2
  subst hE
  by_cases h1 : vldF s L M = true
  · by_cases h2 : vldF s2 L2 M2 = true
    · have HR := Lib.hid (opR_ok (f := sumR) h1 h2)
      have Q1 := Lib.hid (vldF_pos h1)
      have Q2 := Lib.hid (vldF_pos h2)
      have H1 := Lib.hid h1
      have H2 := Lib.hid h2
      clear h1 h2
      go_enter Tryz.func22, Tryz.ntmps22
      obtain ⟨x0_f2, y0_f2⟩ := V0.out.box (.tail _ (.tail _ (.tail _ (.head _))))
      obtain ⟨x0_f1, y0_f1⟩ := V0.out.box (.tail _ (.tail _ (.tail _ (.tail _ (.head _)))))
      obtain ⟨x0_f0, y0_f0⟩ := V0.out.box (.tail _ (.tail _ (.tail _ (.tail _ (.tail _ (.head _))))))
      go_wp2_with fail
      refine (rfvalid_any s L M n c m d A B _ HN.out HM.out hnc hmd hc63 hd63 (HA.out.below V0.out.2.2) (HB.out.below V0.out.2.2)).mono ?_
      rintro e w1 ⟨rfl, b1⟩
      clear x0_f2 y0_f2 x0_f1 y0_f1 x0_f0 y0_f0
      have V1 := Lib.hid (V0.out.go b1)
      clear b1
      rw [H1.out]
      obtain ⟨x1_g2, y1_g2⟩ := V1.out.box (.head _)
      obtain ⟨x1_g1, y1_g1⟩ := V1.out.box (.tail _ (.head _))
      obtain ⟨x1_g0, y1_g0⟩ := V1.out.box (.tail _ (.tail _ (.head _)))
      go_wp2_with fail
      refine (rfvalid_any s2 L2 M2 n2 c2 m2 d2 A2 B2 _ HN2.out HM2.out hnc2 hmd2 hc632 hd632 (HA2.out.below V1.out.2.2) (HB2.out.below V1.out.2.2)).mono ?_
      rintro e w2 ⟨rfl, b2⟩
      clear x1_g2 y1_g2 x1_g1 y1_g1 x1_g0 y1_g0
      have V2 := Lib.hid (V1.out.go b2)
      clear b2
      rw [H2.out]
      obtain ⟨x2_g2, y2_g2⟩ := V2.out.box (.head _)
      obtain ⟨x2_g1, y2_g1⟩ := V2.out.box (.tail _ (.head _))
      obtain ⟨x2_f2, y2_f2⟩ := V2.out.box (.tail _ (.tail _ (.tail _ (.head _))))
      obtain ⟨x2_f1, y2_f1⟩ := V2.out.box (.tail _ (.tail _ (.tail _ (.tail _ (.head _)))))
      have HP := Lib.hid (rprods_any n c m2 d2 n2 c2 m d (val L) (val M2) (val L2) (val M) A B2 A2 B _ (HNL.out _ (HA.out.below V2.out.2.2) Q1.out.1) (HNM2.out _ (HB2.out.below V2.out.2.2) Q2.out.2.1) (HNL2.out _ (HA2.out.below V2.out.2.2) Q2.out.1) (HNM.out _ (HB.out.below V2.out.2.2) Q1.out.2.1))
      go_wp2_with fail
      have HS0 : ∀ (P : Prop), P → P := fun _ h => h
      by_cases hov : 200 < (digs (val L * val M2)).length ∨ 200 < (digs (val L2 * val M)).length
      · have HX := Lib.hid (show sumR s s2 (val L) (val M) (val L2) (val M2) = (false, 0, 0, 3) by unfold sumR; rw [if_pos (hov.elim .inl (fun h => .inr (.inl h)))])
        obtain ⟨⟨x9, y9, e9⟩, h9⟩ : ∃ r, r = prR (val L) (val M2) (val L2) (val M) := ⟨_, rfl⟩
        have hp := HP.out
        rw [← h9] at hp
        have e3 := prR_bad hov
        rw [← h9] at e3
        dsimp only at e3
        subst e3
        clear h9 hov HP HS0
        refine hp.mono ?_
        rintro e w3 ⟨Aa, ca, ka, Ab, cb, kb, rfl, n3, m3, b3⟩
        clear hp
        clear x2_g2 y2_g2 x2_g1 y2_g1 x2_f2 y2_f2 x2_f1 y2_f1
        have U3 := Lib.hid (((V2.out.go b3).num m3).num n3)
        clear n3 m3 b3
        have V3 := Lib.hid (U3.out.new2 (.slice Aa ka ca) (.slice Ab kb cb) 30)
        have HR := Lib.hid (HR.out.trans HX.out)
        have HK9 := Lib.hid (HKE.out.go V3.out.2.2)
        have HB9 := Lib.hid (btwo HBE.out V3.out.2.2)
        obtain ⟨j0, j1, j2, j3, j4, j5, j6⟩ := HK9.out.facts
        go_wp2_with fail
        refine bodyPost_ret (v := .tuple #[.agg #[.bool false, .slice none 0 0, .slice none 0 0], .int .i64 3]) ?_ rfl ?_
        · simp [results, Tryz.results22, go_sem, j0, j1, j2]
        · rw [HR.out]; exact (fr_err (g := W.heap.size + 1 + 1) (by omega) HB9.out).any
      · by_cases h3 : 200 < (digs (val M * val M2)).length
        · have HX := Lib.hid (show sumR s s2 (val L) (val M) (val L2) (val M2) = (false, 0, 0, 3) by unfold sumR; rw [if_pos (.inr (.inr h3))])
          have H3 := Lib.hid h3
          clear h3
          have hp := HP.out
          rw [prR_good hov] at hp
          clear HP HS0 hov
          refine hp.mono ?_
          rintro e w3 ⟨Aa, ca, ka, Ab, cb, kb, rfl, n3, m3, b3⟩
          clear hp
          clear x2_g2 y2_g2 x2_g1 y2_g1 x2_f2 y2_f2 x2_f1 y2_f1
          have U3 := Lib.hid (((V2.out.go b3).num m3).num n3)
          clear n3 m3 b3
          have V3 := Lib.hid (U3.out.new2 (.slice Aa ka ca) (.slice Ab kb cb) 30)
          have HR := Lib.hid (HR.out.trans HX.out)
          obtain ⟨x3_f2, y3_f2⟩ := V3.out.box (.tail _ (.tail _ (.tail _ (.tail _ (.tail _ (.head _))))))
          obtain ⟨x3_g2, y3_g2⟩ := V3.out.box (.tail _ (.tail _ (.head _)))
          go_wp2_with fail
          refine (rmul_over m d m2 d2 _ _ B B2 _ (HNM.out _ (HB.out.below V3.out.2.2) Q1.out.2.1) (HNM2.out _ (HB2.out.below V3.out.2.2) Q2.out.2.1) H3.out).mono ?_
          rintro e w4 ⟨Ao, co, rfl, n4, b4⟩
          clear x3_f2 y3_f2 x3_g2 y3_g2
          have U4 := Lib.hid ((V3.out.go b4).num n4)
          clear n4 b4
          have V4 := Lib.hid (U4.out.new (.slice Ao 0 co) 30)
          have HK9 := Lib.hid (HKE.out.go V4.out.2.2)
          have HB9 := Lib.hid (btwo HBE.out V4.out.2.2)
          obtain ⟨j0, j1, j2, j3, j4, j5, j6⟩ := HK9.out.facts
          go_wp2_with fail
          refine bodyPost_ret (v := .tuple #[.agg #[.bool false, .slice none 0 0, .slice none 0 0], .int .i64 3]) ?_ rfl ?_
          · simp [results, Tryz.results22, go_sem, j0, j1, j2]
          · rw [HR.out]; exact (fr_err (g := W.heap.size + 1 + 1) (by omega) HB9.out).any
        · have HS := Lib.hid (show sumR s s2 (val L) (val M) (val L2) (val M2) = (if (s != s2) = true then low (if val L * val M2 < val L2 * val M then !s else s) (if val L * val M2 < val L2 * val M then val L2 * val M - val L * val M2 else val L * val M2 - val L2 * val M) (val M * val M2) else if 200 < (digs (val L * val M2 + val L2 * val M)).length then (false, 0, 0, 3) else low s (val L * val M2 + val L2 * val M) (val M * val M2)) by unfold sumR; rw [if_neg (fun h => h.elim (fun h => hov (.inl h)) (fun h => h.elim (fun h => hov (.inr h)) h3))])
          have H3 := Lib.hid (show (digs (val M * val M2)).length ≤ 200 by omega)
          have HQT := Lib.hid (Int.mul_pos Q1.out.2.2.1 Q2.out.2.2.1)
          clear h3
          by_cases hne : (s != s2) = true
          · have HS := Lib.hid (HS.out.trans (if_pos hne))
            have hs2 : s2 = !s := by revert hne; cases s <;> cases s2 <;> simp
            have hnb : (s == s2) = false := by revert hne; cases s <;> cases s2 <;> simp
            have HS2 := Lib.hid hs2
            clear hne hs2
            by_cases hlt : val L * val M2 < val L2 * val M
            · have HX := Lib.hid (show sumR s s2 (val L) (val M) (val L2) (val M2) = low s2 (val L2 * val M - val L * val M2) (val M * val M2) by rw [HS.out, if_pos hlt, if_pos hlt, HS2.out])
              have dl : decide (0 ≤ sgn (val L * val M2 - val L2 * val M)) = false := decide_eq_false (by have := (sgn_lt (a := val L * val M2 - val L2 * val M) (by omega)); omega)
              have HG := Lib.hid (show 0 < gcdI (val L2 * val M - val L * val M2) (val M * val M2) by rw [gcdI_comm]; exact gcdI_pos HQT.out)
              have HLT := Lib.hid hlt
              clear hlt
              have hp := HP.out
              rw [prR_good hov] at hp
              clear HP HS0 hov
              refine hp.mono ?_
              rintro e w3 ⟨Aa, ca, ka, Ab, cb, kb, rfl, n3, m3, b3⟩
              clear hp
              clear x2_g2 y2_g2 x2_g1 y2_g1 x2_f2 y2_f2 x2_f1 y2_f1
              have U3 := Lib.hid (((V2.out.go b3).num m3).num n3)
              clear n3 m3 b3
              have V3 := Lib.hid (U3.out.new2 (.slice Aa ka ca) (.slice Ab kb cb) 30)
              have HR := Lib.hid (HR.out.trans HX.out)
              obtain ⟨x3_f2, y3_f2⟩ := V3.out.box (.tail _ (.tail _ (.tail _ (.tail _ (.tail _ (.head _))))))
              obtain ⟨x3_g2, y3_g2⟩ := V3.out.box (.tail _ (.tail _ (.head _)))
              go_wp2_with fail
              refine (rmul_num m d m2 d2 _ _ B B2 _ (HNM.out _ (HB.out.below V3.out.2.2) Q1.out.2.1) (HNM2.out _ (HB2.out.below V3.out.2.2) Q2.out.2.1) H3.out).mono ?_
              rintro e w4 ⟨Ao, co, ko, rfl, n4, b4⟩
              clear x3_f2 y3_f2 x3_g2 y3_g2
              have U4 := Lib.hid ((V3.out.go b4).num n4)
              clear n4 b4
              have V4 := Lib.hid (U4.out.new (.slice Ao ko co) 30)
              obtain ⟨x4_f0, y4_f0⟩ := V4.out.box (.tail _ (.tail _ (.tail _ (.tail _ (.tail _ (.tail _ (.tail _ (.tail _ (.head _)))))))))
              obtain ⟨x4_g0, y4_g0⟩ := V4.out.box (.tail _ (.tail _ (.tail _ (.tail _ (.tail _ (.head _))))))
              obtain ⟨x4_a, y4_a⟩ := V4.out.box (.tail _ (.tail _ (.head _)))
              obtain ⟨x4_b, y4_b⟩ := V4.out.box (.tail _ (.head _))
              go_wp2_with fail
              refine (rCmp_num ka ca kb cb _ _ Aa Ab _ (V4.out.at (.tail _ (.head _))) (V4.out.at (.tail _ (.tail _ (.head _))))).mono ?_
              rintro e w5 ⟨rfl, b5⟩
              clear x4_f0 y4_f0 x4_g0 y4_g0 x4_a y4_a x4_b y4_b
              have V5 := Lib.hid (V4.out.go b5)
              clear b5
              obtain ⟨x5_f0, y5_f0⟩ := V5.out.box (.tail _ (.tail _ (.tail _ (.tail _ (.tail _ (.tail _ (.tail _ (.tail _ (.head _)))))))))
              obtain ⟨x5_g0, y5_g0⟩ := V5.out.box (.tail _ (.tail _ (.tail _ (.tail _ (.tail _ (.head _))))))
              obtain ⟨x5_a, y5_a⟩ := V5.out.box (.tail _ (.tail _ (.head _)))
              obtain ⟨x5_b, y5_b⟩ := V5.out.box (.tail _ (.head _))
              obtain ⟨x5_o, y5_o⟩ := V5.out.box (.head _)
              go_wp2_with fail
              refine (rsub_num kb cb ka ca _ _ Ab Aa _ (V5.out.at (.tail _ (.tail _ (.head _)))) (V5.out.at (.tail _ (.head _))) (Int.le_of_lt HLT.out)).mono ?_
              rintro e w6 ⟨Au, cu, ku, rfl, n6, b6⟩
              clear x5_f0 y5_f0 x5_g0 y5_g0 x5_a y5_a x5_b y5_b x5_o y5_o
              have U6 := Lib.hid ((V5.out.go b6).num n6)
              clear n6 b6
              have V6 := Lib.hid (U6.out.new (.slice Au ku cu) 30)
              obtain ⟨x6_g0, y6_g0⟩ := V6.out.box (.tail _ (.tail _ (.tail _ (.tail _ (.tail _ (.tail _ (.head _)))))))
              obtain ⟨x6_u, y6_u⟩ := V6.out.box (.head _)
              obtain ⟨x6_o, y6_o⟩ := V6.out.box (.tail _ (.head _))
              have HB8 := Lib.hid (btwo HBE.out V6.out.2.2)
              go_wp2_with fail
              refine (rlowest_num s2 ku cu ko co _ _ Au Ao _ (V6.out.at (.head _)) (V6.out.at (.tail _ (.head _))) HG.out).mono ?_
              rintro e w8 ⟨Ay, cy, ky, Az, cz, kz, rfl, n8, m8, b8⟩
              clear x6_g0 y6_g0 x6_u y6_u x6_o y6_o
              have HB9 := Lib.hid (btwo HB8.out b8)
              have N8 := Lib.hid n8
              have M8 := Lib.hid m8
              have K8 := Lib.hid ((HKE.out.go V6.out.2.2).go b8)
              clear n8 m8 b8
              obtain ⟨k0, k1, k2, k3, k4, k5, k6⟩ := K8.out.facts
              go_wp2_with fail
              refine bodyPost_ret (v := .tuple #[.agg #[.bool (s2 && !decide ((val L2 * val M - val L * val M2) / gcdI (val L2 * val M - val L * val M2) (val M * val M2) = 0)), .slice Ay ky cy, .slice Az kz cz], .int .i64 0]) ?_ rfl ?_
              · simp [results, Tryz.results22, go_sem, k0, k1, k2]
              · rw [HR.out]; exact (fr_ok K8.out (by omega) N8.out M8.out HB9.out).any
            · have HX := Lib.hid (show sumR s s2 (val L) (val M) (val L2) (val M2) = low s (val L * val M2 - val L2 * val M) (val M * val M2) by rw [HS.out, if_neg hlt, if_neg hlt])
              have dl : decide (0 ≤ sgn (val L * val M2 - val L2 * val M)) = true := decide_eq_true (by have := sgn_le (a := -(val L * val M2 - val L2 * val M)) (by omega); rw [sgn_neg] at this; omega)
              have HG := Lib.hid (show 0 < gcdI (val L * val M2 - val L2 * val M) (val M * val M2) by rw [gcdI_comm]; exact gcdI_pos HQT.out)
              have HLT := Lib.hid (show val L2 * val M ≤ val L * val M2 by omega)
              clear hlt
              have hp := HP.out
              rw [prR_good hov] at hp
              clear HP HS0 hov
              refine hp.mono ?_
              rintro e w3 ⟨Aa, ca, ka, Ab, cb, kb, rfl, n3, m3, b3⟩
              clear hp
              clear x2_g2 y2_g2 x2_g1 y2_g1 x2_f2 y2_f2 x2_f1 y2_f1
              have U3 := Lib.hid (((V2.out.go b3).num m3).num n3)
              clear n3 m3 b3
              have V3 := Lib.hid (U3.out.new2 (.slice Aa ka ca) (.slice Ab kb cb) 30)
              have HR := Lib.hid (HR.out.trans HX.out)
              obtain ⟨x3_f2, y3_f2⟩ := V3.out.box (.tail _ (.tail _ (.tail _ (.tail _ (.tail _ (.head _))))))
              obtain ⟨x3_g2, y3_g2⟩ := V3.out.box (.tail _ (.tail _ (.head _)))
              go_wp2_with fail
              refine (rmul_num m d m2 d2 _ _ B B2 _ (HNM.out _ (HB.out.below V3.out.2.2) Q1.out.2.1) (HNM2.out _ (HB2.out.below V3.out.2.2) Q2.out.2.1) H3.out).mono ?_
              rintro e w4 ⟨Ao, co, ko, rfl, n4, b4⟩
              clear x3_f2 y3_f2 x3_g2 y3_g2
              have U4 := Lib.hid ((V3.out.go b4).num n4)
              clear n4 b4
              have V4 := Lib.hid (U4.out.new (.slice Ao ko co) 30)
              obtain ⟨x4_f0, y4_f0⟩ := V4.out.box (.tail _ (.tail _ (.tail _ (.tail _ (.tail _ (.tail _ (.tail _ (.tail _ (.head _)))))))))
              obtain ⟨x4_g0, y4_g0⟩ := V4.out.box (.tail _ (.tail _ (.tail _ (.tail _ (.tail _ (.head _))))))
              obtain ⟨x4_a, y4_a⟩ := V4.out.box (.tail _ (.tail _ (.head _)))
              obtain ⟨x4_b, y4_b⟩ := V4.out.box (.tail _ (.head _))
              go_wp2_with fail
              refine (rCmp_num ka ca kb cb _ _ Aa Ab _ (V4.out.at (.tail _ (.head _))) (V4.out.at (.tail _ (.tail _ (.head _))))).mono ?_
              rintro e w5 ⟨rfl, b5⟩
              clear x4_f0 y4_f0 x4_g0 y4_g0 x4_a y4_a x4_b y4_b
              have V5 := Lib.hid (V4.out.go b5)
              clear b5
              obtain ⟨x5_f0, y5_f0⟩ := V5.out.box (.tail _ (.tail _ (.tail _ (.tail _ (.tail _ (.tail _ (.tail _ (.tail _ (.head _)))))))))
              obtain ⟨x5_g0, y5_g0⟩ := V5.out.box (.tail _ (.tail _ (.tail _ (.tail _ (.tail _ (.head _))))))
              obtain ⟨x5_a, y5_a⟩ := V5.out.box (.tail _ (.tail _ (.head _)))
              obtain ⟨x5_b, y5_b⟩ := V5.out.box (.tail _ (.head _))
              obtain ⟨x5_o, y5_o⟩ := V5.out.box (.head _)
              go_wp2_with fail
              refine (rsub_num ka ca kb cb _ _ Aa Ab _ (V5.out.at (.tail _ (.head _))) (V5.out.at (.tail _ (.tail _ (.head _)))) HLT.out).mono ?_
              rintro e w6 ⟨Au, cu, ku, rfl, n6, b6⟩
              clear x5_f0 y5_f0 x5_g0 y5_g0 x5_a y5_a x5_b y5_b x5_o y5_o
              have U6 := Lib.hid ((V5.out.go b6).num n6)
              clear n6 b6
              have V6 := Lib.hid (U6.out.new (.slice Au ku cu) 30)
              obtain ⟨x6_f0, y6_f0⟩ := V6.out.box (.tail _ (.tail _ (.tail _ (.tail _ (.tail _ (.tail _ (.tail _ (.tail _ (.tail _ (.head _))))))))))
              obtain ⟨x6_u, y6_u⟩ := V6.out.box (.head _)
              obtain ⟨x6_o, y6_o⟩ := V6.out.box (.tail _ (.head _))
              have HB8 := Lib.hid (btwo HBE.out V6.out.2.2)
              go_wp2_with fail
              refine (rlowest_num s ku cu ko co _ _ Au Ao _ (V6.out.at (.head _)) (V6.out.at (.tail _ (.head _))) HG.out).mono ?_
              rintro e w8 ⟨Ay, cy, ky, Az, cz, kz, rfl, n8, m8, b8⟩
              clear x6_f0 y6_f0 x6_u y6_u x6_o y6_o
              have HB9 := Lib.hid (btwo HB8.out b8)
              have N8 := Lib.hid n8
              have M8 := Lib.hid m8
              have K8 := Lib.hid ((HKE.out.go V6.out.2.2).go b8)
              clear n8 m8 b8
              obtain ⟨k0, k1, k2, k3, k4, k5, k6⟩ := K8.out.facts
              go_wp2_with fail
              refine bodyPost_ret (v := .tuple #[.agg #[.bool (s && !decide ((val L * val M2 - val L2 * val M) / gcdI (val L * val M2 - val L2 * val M) (val M * val M2) = 0)), .slice Ay ky cy, .slice Az kz cz], .int .i64 0]) ?_ rfl ?_
              · simp [results, Tryz.results22, go_sem, k0, k1, k2]
              · rw [HR.out]; exact (fr_ok K8.out (by omega) N8.out M8.out HB9.out).any
          · have HS := Lib.hid (HS.out.trans (if_neg hne))
            have hnb : (s == s2) = true := by revert hne; cases s <;> cases s2 <;> simp
            clear hne
            by_cases h4 : 200 < (digs (val L * val M2 + val L2 * val M)).length
            · have HX := Lib.hid (show sumR s s2 (val L) (val M) (val L2) (val M2) = (false, 0, 0, 3) by rw [HS.out, if_pos h4])
              have H4 := Lib.hid h4
              clear h4
              have hp := HP.out
              rw [prR_good hov] at hp
              clear HP HS0 hov
              refine hp.mono ?_
              rintro e w3 ⟨Aa, ca, ka, Ab, cb, kb, rfl, n3, m3, b3⟩
              clear hp
              clear x2_g2 y2_g2 x2_g1 y2_g1 x2_f2 y2_f2 x2_f1 y2_f1
              have U3 := Lib.hid (((V2.out.go b3).num m3).num n3)
              clear n3 m3 b3
              have V3 := Lib.hid (U3.out.new2 (.slice Aa ka ca) (.slice Ab kb cb) 30)
              have HR := Lib.hid (HR.out.trans HX.out)
              obtain ⟨x3_f2, y3_f2⟩ := V3.out.box (.tail _ (.tail _ (.tail _ (.tail _ (.tail _ (.head _))))))
              obtain ⟨x3_g2, y3_g2⟩ := V3.out.box (.tail _ (.tail _ (.head _)))
              go_wp2_with fail
              refine (rmul_num m d m2 d2 _ _ B B2 _ (HNM.out _ (HB.out.below V3.out.2.2) Q1.out.2.1) (HNM2.out _ (HB2.out.below V3.out.2.2) Q2.out.2.1) H3.out).mono ?_
              rintro e w4 ⟨Ao, co, ko, rfl, n4, b4⟩
              clear x3_f2 y3_f2 x3_g2 y3_g2
              have U4 := Lib.hid ((V3.out.go b4).num n4)
              clear n4 b4
              have V4 := Lib.hid (U4.out.new (.slice Ao ko co) 30)
              obtain ⟨x4_f0, y4_f0⟩ := V4.out.box (.tail _ (.tail _ (.tail _ (.tail _ (.tail _ (.tail _ (.tail _ (.tail _ (.head _)))))))))
              obtain ⟨x4_g0, y4_g0⟩ := V4.out.box (.tail _ (.tail _ (.tail _ (.tail _ (.tail _ (.head _))))))
              obtain ⟨x4_a, y4_a⟩ := V4.out.box (.tail _ (.tail _ (.head _)))
              obtain ⟨x4_b, y4_b⟩ := V4.out.box (.tail _ (.head _))
              go_wp2_with fail
              refine (radd_over ka ca kb cb _ _ Aa Ab _ (V4.out.at (.tail _ (.head _))) (V4.out.at (.tail _ (.tail _ (.head _)))) H4.out).mono ?_
              rintro e w5 ⟨Au, cu, rfl, n5, b5⟩
              clear x4_f0 y4_f0 x4_g0 y4_g0 x4_a y4_a x4_b y4_b
              have U5 := Lib.hid ((V4.out.go b5).num n5)
              clear n5 b5
              have V5 := Lib.hid (U5.out.new (.slice Au 0 cu) 30)
              have HK9 := Lib.hid (HKE.out.go V5.out.2.2)
              have HB9 := Lib.hid (btwo HBE.out V5.out.2.2)
              obtain ⟨j0, j1, j2, j3, j4, j5, j6⟩ := HK9.out.facts
              go_wp2_with fail
              refine bodyPost_ret (v := .tuple #[.agg #[.bool false, .slice none 0 0, .slice none 0 0], .int .i64 3]) ?_ rfl ?_
              · simp [results, Tryz.results22, go_sem, j0, j1, j2]
              · rw [HR.out]; exact (fr_err (g := W.heap.size + 1 + 1) (by omega) HB9.out).any
            · have HX := Lib.hid (show sumR s s2 (val L) (val M) (val L2) (val M2) = low s (val L * val M2 + val L2 * val M) (val M * val M2) by rw [HS.out, if_neg h4])
              have H4 := Lib.hid (show (digs (val L * val M2 + val L2 * val M)).length ≤ 200 by omega)
              have HG := Lib.hid (show 0 < gcdI (val L * val M2 + val L2 * val M) (val M * val M2) by rw [gcdI_comm]; exact gcdI_pos HQT.out)
              clear h4
              have hp := HP.out
              rw [prR_good hov] at hp
              clear HP HS0 hov
              refine hp.mono ?_
              rintro e w3 ⟨Aa, ca, ka, Ab, cb, kb, rfl, n3, m3, b3⟩
              clear hp
              clear x2_g2 y2_g2 x2_g1 y2_g1 x2_f2 y2_f2 x2_f1 y2_f1
              have U3 := Lib.hid (((V2.out.go b3).num m3).num n3)
              clear n3 m3 b3
              have V3 := Lib.hid (U3.out.new2 (.slice Aa ka ca) (.slice Ab kb cb) 30)
              have HR := Lib.hid (HR.out.trans HX.out)
              obtain ⟨x3_f2, y3_f2⟩ := V3.out.box (.tail _ (.tail _ (.tail _ (.tail _ (.tail _ (.head _))))))
              obtain ⟨x3_g2, y3_g2⟩ := V3.out.box (.tail _ (.tail _ (.head _)))
              go_wp2_with fail
              refine (rmul_num m d m2 d2 _ _ B B2 _ (HNM.out _ (HB.out.below V3.out.2.2) Q1.out.2.1) (HNM2.out _ (HB2.out.below V3.out.2.2) Q2.out.2.1) H3.out).mono ?_
              rintro e w4 ⟨Ao, co, ko, rfl, n4, b4⟩
              clear x3_f2 y3_f2 x3_g2 y3_g2
              have U4 := Lib.hid ((V3.out.go b4).num n4)
              clear n4 b4
              have V4 := Lib.hid (U4.out.new (.slice Ao ko co) 30)
              obtain ⟨x4_f0, y4_f0⟩ := V4.out.box (.tail _ (.tail _ (.tail _ (.tail _ (.tail _ (.tail _ (.tail _ (.tail _ (.head _)))))))))
              obtain ⟨x4_g0, y4_g0⟩ := V4.out.box (.tail _ (.tail _ (.tail _ (.tail _ (.tail _ (.head _))))))
              obtain ⟨x4_a, y4_a⟩ := V4.out.box (.tail _ (.tail _ (.head _)))
              obtain ⟨x4_b, y4_b⟩ := V4.out.box (.tail _ (.head _))
              go_wp2_with fail
              refine (radd_num ka ca kb cb _ _ Aa Ab _ (V4.out.at (.tail _ (.head _))) (V4.out.at (.tail _ (.tail _ (.head _)))) H4.out).mono ?_
              rintro e w5 ⟨Au, cu, ku, rfl, n5, b5⟩
              clear x4_f0 y4_f0 x4_g0 y4_g0 x4_a y4_a x4_b y4_b
              have U5 := Lib.hid ((V4.out.go b5).num n5)
              clear n5 b5
              have V5 := Lib.hid (U5.out.new (.slice Au ku cu) 30)
              obtain ⟨x5_f0, y5_f0⟩ := V5.out.box (.tail _ (.tail _ (.tail _ (.tail _ (.tail _ (.tail _ (.tail _ (.tail _ (.tail _ (.head _))))))))))
              obtain ⟨x5_u, y5_u⟩ := V5.out.box (.head _)
              obtain ⟨x5_o, y5_o⟩ := V5.out.box (.tail _ (.head _))
              have HB8 := Lib.hid (btwo HBE.out V5.out.2.2)
              go_wp2_with fail
              refine (rlowest_num s ku cu ko co _ _ Au Ao _ (V5.out.at (.head _)) (V5.out.at (.tail _ (.head _))) HG.out).mono ?_
              rintro e w8 ⟨Ay, cy, ky, Az, cz, kz, rfl, n8, m8, b8⟩
              clear x5_f0 y5_f0 x5_u y5_u x5_o y5_o
              have HB9 := Lib.hid (btwo HB8.out b8)
              have N8 := Lib.hid n8
              have M8 := Lib.hid m8
              have K8 := Lib.hid ((HKE.out.go V5.out.2.2).go b8)
              clear n8 m8 b8
              obtain ⟨k0, k1, k2, k3, k4, k5, k6⟩ := K8.out.facts
              go_wp2_with fail
              refine bodyPost_ret (v := .tuple #[.agg #[.bool (s && !decide ((val L * val M2 + val L2 * val M) / gcdI (val L * val M2 + val L2 * val M) (val M * val M2) = 0)), .slice Ay ky cy, .slice Az kz cz], .int .i64 0]) ?_ rfl ?_
              · simp [results, Tryz.results22, go_sem, k0, k1, k2]
              · rw [HR.out]; exact (fr_ok K8.out (by omega) N8.out M8.out HB9.out).any
    · have HR := Lib.hid (opR_no (f := sumR) (fun h : vldF s L M = true ∧ vldF s2 L2 M2 = true => h2 h.2))
      have H1 := Lib.hid h1
      have H2 := Lib.hid (show vldF s2 L2 M2 = false by simpa using h2)
      clear h1 h2
      go_enter Tryz.func22, Tryz.ntmps22
      obtain ⟨x0_f2, y0_f2⟩ := V0.out.box (.tail _ (.tail _ (.tail _ (.head _))))
      obtain ⟨x0_f1, y0_f1⟩ := V0.out.box (.tail _ (.tail _ (.tail _ (.tail _ (.head _)))))
      obtain ⟨x0_f0, y0_f0⟩ := V0.out.box (.tail _ (.tail _ (.tail _ (.tail _ (.tail _ (.head _))))))
      go_wp2_with fail
      refine (rfvalid_any s L M n c m d A B _ HN.out HM.out hnc hmd hc63 hd63 (HA.out.below V0.out.2.2) (HB.out.below V0.out.2.2)).mono ?_
      rintro e w1 ⟨rfl, b1⟩
      clear x0_f2 y0_f2 x0_f1 y0_f1 x0_f0 y0_f0
      have V1 := Lib.hid (V0.out.go b1)
      clear b1
      rw [H1.out]
      obtain ⟨x1_g2, y1_g2⟩ := V1.out.box (.head _)
      obtain ⟨x1_g1, y1_g1⟩ := V1.out.box (.tail _ (.head _))
      obtain ⟨x1_g0, y1_g0⟩ := V1.out.box (.tail _ (.tail _ (.head _)))
      go_wp2_with fail
      refine (rfvalid_any s2 L2 M2 n2 c2 m2 d2 A2 B2 _ HN2.out HM2.out hnc2 hmd2 hc632 hd632 (HA2.out.below V1.out.2.2) (HB2.out.below V1.out.2.2)).mono ?_
      rintro e w2 ⟨rfl, b2⟩
      clear x1_g2 y1_g2 x1_g1 y1_g1 x1_g0 y1_g0
      have V2 := Lib.hid (V1.out.go b2)
      clear b2
      rw [H2.out]
      have HK9 := Lib.hid (HKE.out.go V2.out.2.2)
      have HB9 := Lib.hid (btwo HBE.out V2.out.2.2)
      obtain ⟨j0, j1, j2, j3, j4, j5, j6⟩ := HK9.out.facts
      go_wp2_with fail
      refine bodyPost_ret (v := .tuple #[.agg #[.bool false, .slice none 0 0, .slice none 0 0], .int .i64 1]) ?_ rfl ?_
      · simp [results, Tryz.results22, go_sem, j0, j1, j2]
      · rw [HR.out]; exact (fr_err (g := W.heap.size + 1 + 1) (by omega) HB9.out).any
  · have HR := Lib.hid (opR_no (f := sumR) (fun h : vldF s L M = true ∧ vldF s2 L2 M2 = true => h1 h.1))
    have H1 := Lib.hid (show vldF s L M = false by simpa using h1)
    clear h1
    go_enter Tryz.func22, Tryz.ntmps22
    obtain ⟨x0_f2, y0_f2⟩ := V0.out.box (.tail _ (.tail _ (.tail _ (.head _))))
    obtain ⟨x0_f1, y0_f1⟩ := V0.out.box (.tail _ (.tail _ (.tail _ (.tail _ (.head _)))))
    obtain ⟨x0_f0, y0_f0⟩ := V0.out.box (.tail _ (.tail _ (.tail _ (.tail _ (.tail _ (.head _))))))
    go_wp2_with fail
    refine (rfvalid_any s L M n c m d A B _ HN.out HM.out hnc hmd hc63 hd63 (HA.out.below V0.out.2.2) (HB.out.below V0.out.2.2)).mono ?_
    rintro e w1 ⟨rfl, b1⟩
    clear x0_f2 y0_f2 x0_f1 y0_f1 x0_f0 y0_f0
    have V1 := Lib.hid (V0.out.go b1)
    clear b1
    rw [H1.out]
    have HK9 := Lib.hid (HKE.out.go V1.out.2.2)
    have HB9 := Lib.hid (btwo HBE.out V1.out.2.2)
    obtain ⟨j0, j1, j2, j3, j4, j5, j6⟩ := HK9.out.facts
    go_wp2_with fail
    refine bodyPost_ret (v := .tuple #[.agg #[.bool false, .slice none 0 0, .slice none 0 0], .int .i64 1]) ?_ rfl ?_
    · simp [results, Tryz.results22, go_sem, j0, j1, j2]
    · rw [HR.out]; exact (fr_err (g := W.heap.size + 1 + 1) (by omega) HB9.out).any
end Go.Proofs.YtkfkefgkepoaaaaGreatDoor
/- Which answers of operations on fractions are valid fractions: all without an error. -/
namespace Go.Proofs.YtkfkefgkepoaaaaGreatDoor
open Go.RowKit
set_option linter.unusedVariables false
set_option maxRecDepth 100000

/-- The answer of Sub. -/
def difR (s s2 : Bool) (p q r t : Int) : Bool × Int × Int × Int := sumR s (!s2 && !decide (r = 0)) p q r t
/-- Without an error the answer is a valid fraction. -/
def GoodF (r : Bool × Int × Int × Int) : Prop := r.2.2.2 = 0 → 0 ≤ r.2.1 ∧ 0 < r.2.2.1 ∧ gcdI r.2.1 r.2.2.1 = 1 ∧ (r.1 = true → 0 < r.2.1)
theorem err_good {x : Int} (h : ¬ x = 0) : GoodF (false, 0, 0, x) := fun e => absurd e h
theorem low_good {s : Bool} {n d : Int} (hn : 0 ≤ n) (hd : 0 < d) : GoodF (low s n d) := fun _ => by
  have h1 : 0 ≤ n / gcdI n d := Int.ediv_nonneg hn (gcdI_nonneg _ _)
  refine ⟨h1, low_pos hn hd, gcdI_low hn hd, fun h => ?_⟩
  have h2 : (s && !decide (n / gcdI n d = 0)) = true := h
  have h3 : ¬ n / gcdI n d = 0 := by
    intro e
    rw [decide_eq_true e] at h2
    simp at h2
  show 0 < n / gcdI n d
  omega
/-- An operation whose answers on valid fractions are valid. -/
def GoodOp (f : Bool → Bool → Int → Int → Int → Int → Bool × Int × Int × Int) : Prop := ∀ s s2 p q r t, 0 ≤ p → 0 < q → 0 ≤ r → 0 < t → GoodF (f s s2 p q r t)
theorem sum_good : GoodOp sumR := fun s s2 p q r t hp hq hr ht => by
  have h1 : 0 < q * t := Int.mul_pos hq ht
  have h2 : 0 ≤ p * t := Int.mul_nonneg hp (Int.le_of_lt ht)
  have h3 : 0 ≤ r * q := Int.mul_nonneg hr (Int.le_of_lt hq)
  unfold sumR
  split
  · exact err_good (by omega)
  · split
    · refine low_good ?_ h1
      split <;> omega
    · split
      · exact err_good (by omega)
      · exact low_good (by omega) h1
theorem dif_good : GoodOp difR := fun s s2 p q r t hp hq hr ht => sum_good s _ p q r t hp hq hr ht
theorem prod_good : GoodOp prodR := fun s s2 p q r t hp hq hr ht => by
  unfold prodR
  split
  · exact err_good (by omega)
  · exact low_good (Int.mul_nonneg hp hr) (Int.mul_pos hq ht)
theorem quo_good : GoodOp quoR := fun s s2 p q r t hp hq hr ht => by
  unfold quoR
  split
  · exact err_good (by omega)
  · exact prod_good s s2 p q t r hp hq (Int.le_of_lt ht) (by omega)
theorem op_good {f : Bool → Bool → Int → Int → Int → Int → Bool × Int × Int × Int} (h : GoodOp f) (s s2 : Bool) (L M L2 M2 : List Int) : GoodF (opR f s s2 L M L2 M2) := by
  unfold opR
  split
  · rename_i hv
    obtain ⟨a1, a2, a3, a4, a5⟩ := vldF_pos hv.1
    obtain ⟨b1, b2, b3, b4, b5⟩ := vldF_pos hv.2
    exact h _ _ _ _ _ _ (vldB_true a1).2.2.2.1 a3 (vldB_true b1).2.2.2.1 b3
  · exact err_good (by omega)
theorem good_dec {s : Bool} {p q e : Int} (h : GoodF (s, p, q, e)) (he : e = 0) : decide (0 < q ∧ gcdI p q = 1 ∧ (s = true → 0 < p)) = true :=
  decide_eq_true (h he).2
theorem fracs_two (s : Bool) (A B : Option Addr) (n c m d : Nat) (s2 : Bool) (A2 B2 : Option Addr) (n2 c2 m2 d2 : Nat) (w : World) :
    FracsAt (w.alloc (.cells #[.bool s, .slice A n c, .slice B m d, .bool s2, .slice A2 n2 c2, .slice B2 m2 d2] 32)) w.heap.size [(n, m), (n2, m2)] := by
  have hr := heap_alloc_new w (.cells #[.bool s, .slice A n c, .slice B m d, .bool s2, .slice A2 n2 c2, .slice B2 m2 d2] 32)
  refine ⟨by simp, fun j hj => ?_⟩
  match j, hj with
  | 0, _ => exact ⟨s, A, c, B, d, by rw [cell_of_row _ _ 0 _ _ _ hr]; rfl, by rw [cell_of_row _ _ 1 _ _ _ hr]; rfl, by rw [cell_of_row _ _ 2 _ _ _ hr]; rfl⟩
  | 1, _ => exact ⟨s2, A2, c2, B2, d2, by rw [cell_of_row _ _ 3 _ _ _ hr]; rfl, by rw [cell_of_row _ _ 4 _ _ _ hr]; rfl, by rw [cell_of_row _ _ 5 _ _ _ hr]; rfl⟩
  | j + 2, hj => exact absurd hj (by show ¬ j + 2 < 2; omega)
end Go.Proofs.YtkfkefgkepoaaaaGreatDoor
/- Contract of the program's Sub of fractions. -/
namespace Go.Proofs.YtkfkefgkepoaaaaGreatDoor
open Go.RowKit
set_option linter.unusedVariables false
set_option maxRecDepth 100000

theorem FrE.draw {r : Bool × Int × Int × Int} {W w : World} {e : Ending} (h : FrE r W e w) : FrE r W e w.drew := by
  obtain ⟨A, c, k, B, d, l, he, hx, hy, hb⟩ := h
  exact ⟨A, c, k, B, d, l, he, hx.below ((Below.refl _ _).drew), hy.below ((Below.refl _ _).drew), hb.drew⟩
end Go.Proofs.YtkfkefgkepoaaaaGreatDoor
/- Contracts of the reference's opposite and Sub of fractions. -/
namespace Go.Proofs.YtkfkefgkepoaaaaGreatDoor
open Go.RowKit
set_option linter.unusedVariables false
set_option maxRecDepth 100000

theorem vldF_opp {s : Bool} {L M : List Int} (h : vldF s L M = true) : vldF (!s && !decide (val L = 0)) L M = true := by
  obtain ⟨a1, a2, a3, a4, a5⟩ := vldF_pos h
  refine decide_eq_true ⟨⟨a1, a2⟩, a3, a4, fun e => ?_⟩
  have h0 : ¬ val L = 0 := by
    intro e0
    rw [decide_eq_true e0] at e
    simp at e
  have := (vldB_true a1).2.2.2.1
  omega
end Go.Proofs.YtkfkefgkepoaaaaGreatDoor
