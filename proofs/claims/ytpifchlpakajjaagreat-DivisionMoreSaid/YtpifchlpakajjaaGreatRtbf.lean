/- Several texts in one: Sb, Sa. -/
import Derived.WalkKit
import Derived.Test.YtpifchlpakajjaaGreatRtaf
namespace Go.Proofs.YtpifchlpakajjaaGreat.St
set_option linter.unusedVariables false
set_option linter.unusedSimpArgs false

def RL (key : Int → Int) (x y : Int) : Prop := key x < key y ∨ (key x = key y ∧ x < y)
theorem RL.le {key : Int → Int} {x y : Int} (h : RL key x y) : key x ≤ key y := by rcases h with h | h <;> omega
theorem RL.trans {key : Int → Int} {x y z : Int} (h : RL key x y) (h2 : RL key y z) : RL key x z := by
  rcases h with h | h <;> rcases h2 with h2 | h2
  · exact .inl (by omega)
  · exact .inl (by omega)
  · exact .inl (by omega)
  · exact .inr (by omega)
theorem RL.of {key : Int → Int} {x y : Int} (h : x < y) (h2 : ¬ key y < key x) : RL key x y := by
  by_cases e : key x = key y
  · exact .inr ⟨e, h⟩
  · exact .inl (by omega)
theorem pw_get {key : Int → Int} {X : List Int} (h : X.Pairwise (RL key)) {i j : Nat} (hij : i < j) (hj : j < X.length) : RL key (X.getD i 0) (X.getD j 0) := by
  have := List.pairwise_iff_getElem.1 h i j (by omega) hj hij
  rwa [List.getD_eq_getElem?_getD, List.getD_eq_getElem?_getD, List.getElem?_eq_getElem (by omega), List.getElem?_eq_getElem hj]
theorem pw_le {key : Int → Int} {X : List Int} (h : X.Pairwise (RL key)) {i j : Nat} (hij : i ≤ j) (hj : j < X.length) : key (X.getD i 0) ≤ key (X.getD j 0) := by
  by_cases e : i = j
  · subst e; omega
  · exact (pw_get h (by omega) hj).le
theorem getD_mem {X : List Int} {i : Nat} (h : i < X.length) : X.getD i 0 ∈ X := by
  rw [List.getD_eq_getElem?_getD, List.getElem?_eq_getElem h]; exact List.getElem_mem h
theorem in_take {X : List Int} {k : Nat} {x : Int} (h : x ∈ X.take k) : ∃ i, i < k ∧ i < X.length ∧ X.getD i 0 = x := by
  obtain ⟨i, hi, e⟩ := List.mem_iff_getElem.1 h
  rw [List.length_take] at hi
  refine ⟨i, by omega, by omega, ?_⟩
  rw [List.getD_eq_getElem?_getD, List.getElem?_eq_getElem (by omega), ← e, List.getElem_take]; rfl
theorem in_drop {X : List Int} {k : Nat} {x : Int} (h : x ∈ X.drop k) : ∃ i, k ≤ i ∧ i < X.length ∧ X.getD i 0 = x := by
  obtain ⟨i, hi, e⟩ := List.mem_iff_getElem.1 h
  rw [List.length_drop] at hi
  refine ⟨k + i, by omega, by omega, ?_⟩
  rw [List.getD_eq_getElem?_getD, List.getElem?_eq_getElem (by omega), ← e, List.getElem_drop]; rfl
def Mrg (key : Int → Int) (X Y Z : List Int) : Prop := Z.Perm (X ++ Y) ∧ Z.Pairwise (RL key)
theorem Mrg.len {key : Int → Int} {X Y Z : List Int} (h : Mrg key X Y Z) : Z.length = X.length + Y.length := by
  rw [h.1.length_eq, List.length_append]
theorem mrg_right {key : Int → Int} {Y : List Int} (h : Y.Pairwise (RL key)) : Mrg key [] Y Y := ⟨List.Perm.refl _, h⟩
theorem mrg_left {key : Int → Int} {X : List Int} (h : X.Pairwise (RL key)) : Mrg key X [] X := ⟨by rw [List.append_nil], h⟩
theorem mrg_one {key : Int → Int} {x : Int} {Y : List Int} {k : Nat} (hY : Y.Pairwise (RL key)) (hx : ∀ y ∈ Y, x < y) (hk : k ≤ Y.length) (h1 : ∀ i, i < k → key (Y.getD i 0) < key x) (h2 : ∀ i, k ≤ i → i < Y.length → ¬ key (Y.getD i 0) < key x) :
    Mrg key [x] Y (Y.take k ++ x :: Y.drop k) := by
  constructor
  · refine List.perm_middle.trans ?_
    rw [List.take_append_drop]
    exact List.Perm.refl (x :: Y)
  · rw [← List.take_append_drop k Y] at hY
    obtain ⟨p1, p2, p3⟩ := List.pairwise_append.1 hY
    refine List.pairwise_append.2 ⟨p1, List.pairwise_cons.2 ⟨fun y hy => ?_, p2⟩, fun a ha b hb => ?_⟩
    · obtain ⟨i, i1, i2, rfl⟩ := in_drop hy
      exact RL.of (hx _ (getD_mem i2)) (h2 i i1 i2)
    · rcases List.mem_cons.1 hb with rfl | hb
      · obtain ⟨i, i1, i2, rfl⟩ := in_take ha
        exact .inl (h1 i i1)
      · exact p3 a ha b hb
theorem mrg_last {key : Int → Int} {y : Int} {X : List Int} {k : Nat} (hX : X.Pairwise (RL key)) (hy : ∀ x ∈ X, x < y) (hk : k ≤ X.length) (h1 : ∀ i, i < k → ¬ key y < key (X.getD i 0)) (h2 : ∀ i, k ≤ i → i < X.length → key y < key (X.getD i 0)) :
    Mrg key X [y] (X.take k ++ y :: X.drop k) := by
  constructor
  · refine List.perm_middle.trans ?_
    rw [List.take_append_drop]
    exact (List.perm_append_comm (l₁ := [y]) (l₂ := X))
  · rw [← List.take_append_drop k X] at hX
    obtain ⟨p1, p2, p3⟩ := List.pairwise_append.1 hX
    refine List.pairwise_append.2 ⟨p1, List.pairwise_cons.2 ⟨fun x hx => ?_, p2⟩, fun a ha b hb => ?_⟩
    · obtain ⟨i, i1, i2, rfl⟩ := in_drop hx
      exact .inl (h2 i i1 i2)
    · rcases List.mem_cons.1 hb with rfl | hb
      · obtain ⟨i, i1, i2, rfl⟩ := in_take ha
        exact RL.of (hy _ (getD_mem i2)) (h1 i i1)
      · exact p3 a ha b hb
theorem mrg_two {key : Int → Int} {X Y Z1 Z2 : List Int} {s t : Nat} (hX : X.Pairwise (RL key)) (hY : Y.Pairwise (RL key)) (hlt : ∀ x ∈ X, ∀ y ∈ Y, x < y) (hs : s ≤ X.length) (ht : t ≤ Y.length)
    (hA : 0 < s → t < Y.length → ¬ key (Y.getD t 0) < key (X.getD (s - 1) 0)) (hB : 0 < t → s < X.length → key (Y.getD (t - 1) 0) < key (X.getD s 0))
    (h1 : Mrg key (X.take s) (Y.take t) Z1) (h2 : Mrg key (X.drop s) (Y.drop t) Z2) : Mrg key X Y (Z1 ++ Z2) := by
  have aX : ∀ a ∈ X.take s, ∀ b ∈ X.drop s, RL key a b := by
    rw [← List.take_append_drop s X] at hX
    exact (List.pairwise_append.1 hX).2.2
  have aY : ∀ a ∈ Y.take t, ∀ b ∈ Y.drop t, RL key a b := by
    rw [← List.take_append_drop t Y] at hY
    exact (List.pairwise_append.1 hY).2.2
  have aA : ∀ a ∈ X.take s, ∀ b ∈ Y.drop t, RL key a b := fun a ha b hb => by
    have hab := hlt a (List.mem_of_mem_take ha) b (List.mem_of_mem_drop hb)
    obtain ⟨i, i1, i2, rfl⟩ := in_take ha
    obtain ⟨j, j1, j2, rfl⟩ := in_drop hb
    have k1 := hA (by omega) (by omega)
    have k2 := pw_le hX (show i ≤ s - 1 by omega) (by omega)
    have k3 := pw_le hY (show t ≤ j from j1) j2
    exact RL.of hab (by omega)
  have aB : ∀ a ∈ Y.take t, ∀ b ∈ X.drop s, RL key a b := fun a ha b hb => by
    obtain ⟨i, i1, i2, rfl⟩ := in_take ha
    obtain ⟨j, j1, j2, rfl⟩ := in_drop hb
    have k1 := hB (by omega) (by omega)
    have k2 := pw_le hY (show i ≤ t - 1 by omega) (by omega)
    have k3 := pw_le hX (show s ≤ j from j1) j2
    exact .inl (by omega)
  constructor
  · refine (h1.1.append h2.1).trans ?_
    have e1 : (X.take s ++ Y.take t ++ (X.drop s ++ Y.drop t)).Perm (X.take s ++ X.drop s ++ (Y.take t ++ Y.drop t)) := by
      rw [List.append_assoc, List.append_assoc]
      refine List.Perm.append_left _ ?_
      rw [← List.append_assoc, ← List.append_assoc]
      exact List.Perm.append_right _ List.perm_append_comm
    rw [List.take_append_drop, List.take_append_drop] at e1
    exact e1
  · refine List.pairwise_append.2 ⟨h1.2, h2.2, fun a ha b hb => ?_⟩
    rcases List.mem_append.1 (h1.1.mem_iff.1 ha) with h | h <;> rcases List.mem_append.1 (h2.1.mem_iff.1 hb) with h' | h'
    · exact aX a h b h'
    · exact aA a h b h'
    · exact aB a h b h'
    · exact aY a h b h'
def swp (L : List Int) (i j : Nat) : List Int := (L.set i (L.getD j 0)).set j (L.getD i 0)
theorem set_mid {P T : List Int} (x y : Int) : (P ++ x :: T).set P.length y = P ++ y :: T := by
  rw [List.set_append_right _ _ (Nat.le_refl _), Nat.sub_self]; rfl
theorem get_mid {P T : List Int} (x : Int) : (P ++ x :: T).getD P.length 0 = x := by
  rw [List.getD_eq_getElem?_getD, List.getElem?_append_right (Nat.le_refl _), Nat.sub_self]; rfl
theorem swp_mid {P M T : List Int} (x y : Int) : swp (P ++ x :: (M ++ y :: T)) P.length (P.length + 1 + M.length) = P ++ y :: (M ++ x :: T) := by
  have e : ∀ z, P ++ z :: (M ++ y :: T) = (P ++ z :: M) ++ y :: T := fun z => by rw [List.append_assoc]; rfl
  have l : ∀ z, (P ++ z :: M).length = P.length + 1 + M.length := fun z => by rw [List.length_append, List.length_cons]; omega
  have g1 : (P ++ x :: (M ++ y :: T)).getD (P.length + 1 + M.length) 0 = y := by rw [e, ← l x, get_mid]
  unfold swp
  rw [g1, get_mid, set_mid, e, ← l y, set_mid, List.append_assoc]; rfl
theorem swp_next {P T : List Int} (x y : Int) : swp (P ++ x :: y :: T) P.length (P.length + 1) = P ++ y :: x :: T := swp_mid (M := []) x y
theorem swp_comm {L : List Int} {i j : Nat} : swp L i j = swp L j i := by
  unfold swp
  by_cases e : i = j
  · subst e; rfl
  · rw [List.set_comm _ _ e]
theorem swp_back {P T : List Int} (x y : Int) : swp (P ++ x :: y :: T) (P.length + 1) P.length = P ++ y :: x :: T := by rw [swp_comm]; exact swp_next x y
def swR (P X M Y T : List Int) (k : Nat) : List Int := P ++ (Y.take k ++ X.drop k) ++ M ++ (X.take k ++ Y.drop k) ++ T
theorem swR_zero (P X M Y T : List Int) : swR P X M Y T 0 = P ++ X ++ M ++ Y ++ T := by unfold swR; simp
theorem swR_all {P X M Y T : List Int} {k : Nat} (hx : X.length = k) (hy : Y.length = k) : swR P X M Y T k = P ++ Y ++ M ++ X ++ T := by
  unfold swR
  rw [List.take_of_length_le (by omega), List.take_of_length_le (by omega), List.drop_of_length_le (by omega), List.drop_of_length_le (by omega), List.append_nil, List.append_nil]
theorem take_cons_drop {X : List Int} {k : Nat} (h : k < X.length) : X.drop k = X.getD k 0 :: X.drop (k + 1) := by
  rw [List.drop_eq_getElem_cons h, List.getD_eq_getElem?_getD, List.getElem?_eq_getElem h]; rfl
theorem take_snoc {X : List Int} {k : Nat} (h : k < X.length) : X.take (k + 1) = X.take k ++ [X.getD k 0] := by
  rw [List.take_add_one, List.getElem?_eq_getElem h, List.getD_eq_getElem?_getD, List.getElem?_eq_getElem h]; rfl
theorem swR_step {P X M Y T : List Int} {k n : Nat} (hx : X.length = n) (hy : Y.length = n) (hk : k < n) :
    swp (swR P X M Y T k) (P.length + k) (P.length + n + M.length + k) = swR P X M Y T (k + 1) := by
  have e1 : swR P X M Y T k = (P ++ Y.take k) ++ X.getD k 0 :: ((X.drop (k + 1) ++ M ++ X.take k) ++ Y.getD k 0 :: (Y.drop (k + 1) ++ T)) := by
    unfold swR
    rw [take_cons_drop (X := X) (by omega), take_cons_drop (X := Y) (by omega)]
    simp only [List.append_assoc, List.cons_append]
  have e2 : swR P X M Y T (k + 1) = (P ++ Y.take k) ++ Y.getD k 0 :: ((X.drop (k + 1) ++ M ++ X.take k) ++ X.getD k 0 :: (Y.drop (k + 1) ++ T)) := by
    unfold swR
    rw [take_snoc (X := X) (by omega), take_snoc (X := Y) (by omega)]
    simp only [List.append_assoc, List.cons_append, List.nil_append]
  have l1 : (P ++ Y.take k).length = P.length + k := by rw [List.length_append, List.length_take]; omega
  have l2 : (P ++ Y.take k).length + 1 + (X.drop (k + 1) ++ M ++ X.take k).length = P.length + n + M.length + k := by
    rw [l1]; simp only [List.length_append, List.length_drop, List.length_take]; omega
  have h := swp_mid (P := P ++ Y.take k) (M := X.drop (k + 1) ++ M ++ X.take k) (T := Y.drop (k + 1) ++ T) (X.getD k 0) (Y.getD k 0)
  rw [l2, l1] at h
  rw [e1, e2]
  exact h
theorem swR_len {P X M Y T : List Int} {k n : Nat} (hx : X.length = n) (hy : Y.length = n) (hk : k ≤ n) : (swR P X M Y T k).length = P.length + n + M.length + n + T.length := by
  unfold swR
  simp only [List.length_append, List.length_drop, List.length_take]
  omega
def mvR (P : List Int) (x : Int) (Y : List Int) (k : Nat) : List Int := P ++ Y.take k ++ x :: Y.drop k
theorem mvR_step {P Y : List Int} {x : Int} {k : Nat} (hk : k < Y.length) : swp (mvR P x Y k) (P.length + k) (P.length + k + 1) = mvR P x Y (k + 1) := by
  have l1 : (P ++ Y.take k).length = P.length + k := by rw [List.length_append, List.length_take]; omega
  unfold mvR
  rw [take_cons_drop hk, ← l1, swp_next, take_snoc hk]
  simp only [List.append_assoc, List.cons_append, List.nil_append]
theorem mvR_back {P Y : List Int} {x : Int} {k : Nat} (hk : k < Y.length) : swp (mvR P x Y (k + 1)) (P.length + k + 1) (P.length + k) = mvR P x Y k := by
  have l1 : (P ++ Y.take k).length = P.length + k := by rw [List.length_append, List.length_take]; omega
  unfold mvR
  rw [take_snoc hk, take_cons_drop hk, ← l1]
  rw [show P ++ (Y.take k ++ [Y.getD k 0]) ++ x :: Y.drop (k + 1) = (P ++ Y.take k) ++ Y.getD k 0 :: x :: Y.drop (k + 1) by simp only [List.append_assoc, List.cons_append, List.nil_append]]
  rw [swp_back]
theorem mvR_len {P Y : List Int} {x : Int} {k : Nat} : (mvR P x Y k).length = P.length + Y.length + 1 := by
  unfold mvR
  simp only [List.length_append, List.length_take, List.length_cons, List.length_drop]
  omega
theorem mvR_all (P Y T : List Int) (x : Int) : mvR P x (Y ++ T) Y.length = P ++ Y ++ x :: T := by
  unfold mvR
  rw [List.take_left, List.drop_left]
theorem mvR_zero (P Y : List Int) (x : Int) : mvR P x Y 0 = P ++ x :: Y := by unfold mvR; simp
end Go.Proofs.YtpifchlpakajjaaGreat.St
namespace Go.Proofs.YtpifchlpakajjaaGreat.St

def PInv (key : Int → Int) (bs : Nat) (P0 P : List Int) : Prop := P.length = P0.length ∧ ∀ k, ((P.drop (k * bs)).take bs).Pairwise (RL key) ∧ ((P.drop (k * bs)).take bs).Perm ((P0.drop (k * bs)).take bs)
theorem PInv.nil (key : Int → Int) (bs : Nat) : PInv key bs [] [] := ⟨rfl, fun k => by simp⟩
theorem PInv.snoc {key : Int → Int} {bs k : Nat} {P0 P X Z : List Int} (h : PInv key bs P0 P) (hl : P.length = k * bs) (hz : Z.Perm X) (hs : Z.Pairwise (RL key)) (hx : X.length ≤ bs) : PInv key bs (P0 ++ X) (P ++ Z) := by
  have hzl := hz.length_eq
  have h0 : P0.length = k * bs := by rw [← h.1, hl]
  refine ⟨by rw [List.length_append, List.length_append, h.1, hzl], fun j => ?_⟩
  rcases Nat.lt_trichotomy j k with hj | hj | hj
  · have e : j * bs + bs ≤ k * bs := by
      have := Nat.mul_le_mul_right bs (show j + 1 ≤ k from hj)
      rwa [Nat.succ_mul] at this
    have g : ∀ (A B : List Int), A.length = k * bs → ((A ++ B).drop (j * bs)).take bs = (A.drop (j * bs)).take bs := fun A B hA => by
      rw [List.drop_append_of_le_length (by omega), List.take_append_of_le_length (by rw [List.length_drop]; omega)]
    rw [g P Z hl, g P0 X h0]
    exact h.2 j
  · subst hj
    have g : ∀ (A B : List Int), A.length = j * bs → B.length ≤ bs → ((A ++ B).drop (j * bs)).take bs = B := fun A B hA hB => by
      rw [← hA, List.drop_left, List.take_of_length_le hB]
    rw [g P Z hl (by omega), g P0 X h0 hx]
    exact ⟨hs, hz⟩
  · have e : k * bs + bs ≤ j * bs := by
      have := Nat.mul_le_mul_right bs (show k + 1 ≤ j from hj)
      rwa [Nat.succ_mul] at this
    rw [List.drop_of_length_le (by rw [List.length_append]; omega), List.drop_of_length_le (by rw [List.length_append]; omega)]
    simp
theorem PInv.block {key : Int → Int} {bs : Nat} {P0 P : List Int} (h : PInv key bs P0 P) : (P.take bs).Pairwise (RL key) ∧ (P.take bs).Perm (P0.take bs) := by
  have := h.2 0
  rwa [Nat.zero_mul, List.drop_zero, List.drop_zero] at this
theorem PInv.tail {key : Int → Int} {bs : Nat} {P0 P : List Int} (h : PInv key bs P0 P) : PInv key bs (P0.drop bs) (P.drop bs) := by
  refine ⟨by rw [List.length_drop, List.length_drop, h.1], fun k => ?_⟩
  rw [List.drop_drop, List.drop_drop, show bs + k * bs = (k + 1) * bs by rw [Nat.succ_mul]; omega]
  exact h.2 (k + 1)
theorem PInv.all {key : Int → Int} {bs : Nat} {P0 P : List Int} (h : PInv key bs P0 P) (hb : P.length ≤ bs) : P.Pairwise (RL key) ∧ P.Perm P0 := by
  have := h.block
  rwa [List.take_of_length_le hb, List.take_of_length_le (by rw [← h.1]; exact hb)] at this
theorem PInv.two {key : Int → Int} {bs : Nat} {P0 P X Y : List Int} (h : PInv key bs P0 P) (ha : P0.Pairwise (· < ·)) (hX : X = P.take bs) (hY : Y = (P.drop bs).take bs) :
    X.Pairwise (RL key) ∧ Y.Pairwise (RL key) ∧ (∀ x ∈ X, ∀ y ∈ Y, x < y) ∧ (X ++ Y).Perm (P0.take (bs + bs)) := by
  have h1 := h.block
  have h2 := h.tail.block
  subst hX hY
  refine ⟨h1.1, h2.1, fun x hx y hy => ?_, ?_⟩
  · have x1 := h1.2.mem_iff.1 hx
    have y1 := List.mem_of_mem_take (h2.2.mem_iff.1 hy)
    rw [← List.take_append_drop bs P0] at ha
    exact (List.pairwise_append.1 ha).2.2 x x1 y y1
  · have e : P0.take (bs + bs) = P0.take bs ++ (P0.drop bs).take bs := List.take_add
    rw [e]
    exact h1.2.append h2.2
end Go.Proofs.YtpifchlpakajjaaGreat.St

namespace Go.Proofs.YtpifchlpakajjaaGreat
open Go.RowKit
set_option linter.unusedVariables false
set_option linter.unusedSimpArgs false
set_option maxRecDepth 100000

def vals (va : Int → Option Addr) (vn vc : Int → Nat) (A : Option Addr) (n c : Nat) (L : List Int) : Itm := ⟨35, 1, .slice A n c, n, L.map fun x => .slice (va x) (vn x) (vc x)⟩
section
variable {W w : World} {l : List Itm} {g n c i : Nat} {A : Option Addr} {L : List Int} {va : Int → Option Addr} {vn vc : Int → Nat}
theorem Hp.val_len (h : Hp W l w) (hi : l[i]? = some (vals va vn vc A n c L)) : L.length = n := by
  have := (h.own i _ hi).1
  simpa [vals] using this
theorem Hp.val_set (h : Hp W l w) (hi : l[i]? = some (vals va vn vc (some ⟨g, 0, none⟩) n c L)) (j : Nat) (x : Int) :
    Hp W (l.set i (vals va vn vc (some ⟨g, 0, none⟩) n c (L.set j x))) (w.setCell ⟨g, j, none⟩ (.slice (va x) (vn x) (vc x))) := by
  have := h.store hi (g := g) (cap := c) rfl j (.slice (va x) (vn x) (vc x))
  simpa [vals] using this
theorem Hp.val_get (h : Hp W l w) (hi : l[i]? = some (vals va vn vc (some ⟨g, 0, none⟩) n c L)) {j : Nat} {x : Int} (hj : L[j]? = some x) :
    w.cell? ⟨g, j, none⟩ = some (.slice (va x) (vn x) (vc x)) ∧ w.frozen? ⟨g, j, none⟩ = false ∧ g < w.heap.size := h.cell hi (cap := c) rfl (by show (L.map _)[j]? = _; rw [List.getElem?_map, hj]; rfl)
theorem Hp.val_at (h : Hp W l w) (hi : l[i]? = some (vals va vn vc (some ⟨g, 0, none⟩) n c L)) {j : Nat} (hj : j < L.length) :
    w.cell? ⟨g, j, none⟩ = some (.slice (va (L.getD j 0)) (vn (L.getD j 0)) (vc (L.getD j 0))) ∧ w.frozen? ⟨g, j, none⟩ = false ∧ g < w.heap.size := h.val_get hi (by rw [List.getD_eq_getElem?_getD, List.getElem?_eq_getElem hj]; rfl)
end
end Go.Proofs.YtpifchlpakajjaaGreat
