/- Several texts in one: Yg, Yh. -/
import Derived.Test.YtpifchlpakajjaaGreatRtag
namespace Go.Proofs.YtpifchlpakajjaaGreat
open Go.RowKit
set_option linter.unusedVariables false
set_option linter.unusedSimpArgs false
set_option maxRecDepth 100000

theorem any_sub {p p' : List Sg} {f : Sg → Bool} (h : p'.Sublist p) (hf : p.any f = false) : p'.any f = false := by
  rw [List.any_eq_false] at hf ⊢
  exact fun x hx => hf x (h.subset hx)
theorem flt_cons {p r : List Sg} {x : Sg} : (fltG p (x :: r)).2 = 0 ↔ sgE x = 0 ∧ (p.any fun e => likeB e x) = false ∧ (fltG (p ++ [x]) r).2 = 0 := by
  rw [fltG]
  by_cases h0 : sgE x = 0
  · rw [if_neg (by simp [h0])]
    by_cases h1 : (p.any fun e => likeB e x) = true
    · rw [if_pos h1]
      exact ⟨fun h => (by cases h), fun ⟨_, h, _⟩ => (by rw [h1] at h; cases h)⟩
    · rw [if_neg h1]
      exact ⟨fun h => ⟨h0, by simpa using h1, h⟩, fun ⟨_, _, h⟩ => h⟩
  · rw [if_pos h0]
    exact ⟨fun h => absurd h h0, fun ⟨h, _⟩ => absurd h h0⟩
theorem flt_sub {r r' : List Sg} (hs : r'.Sublist r) : ∀ {p p' : List Sg}, p'.Sublist p → (fltG p r).2 = 0 → (fltG p' r').2 = 0 := by
  induction hs with
  | slnil => intro p p' _ _; rfl
  | cons a _ ih =>
    intro p p' hp h
    exact ih (hp.trans (List.sublist_append_left p [a])) (flt_cons.1 h).2.2
  | cons_cons a _ ih =>
    intro p p' hp h
    obtain ⟨h0, h1, h2⟩ := flt_cons.1 h
    exact flt_cons.2 ⟨h0, any_sub hp h1, ih (hp.append (List.Sublist.refl [a])) h2⟩
theorem vO_flt {nm : List UInt8} {L : List Sg} (h : (vO nm L).2 = 0) : (fltG [] L).2 = 0 := by
  obtain ⟨h1, h2, h3, _⟩ := vO_zero h
  rwa [vO_is h1 (by omega) (by omega)] at h
theorem vO_sub {nm : List UInt8} {L L' : List Sg} (h : (vO nm L).2 = 0) (hs : L'.Sublist L) (h0 : 0 < L'.length) : (vO nm L').2 = 0 := by
  obtain ⟨h1, h2, h3, _⟩ := vO_zero h
  have := hs.length_le
  rw [vO_is h1 (by omega) (by omega)]
  exact flt_sub hs (List.Sublist.refl _) (vO_flt h)
theorem cut_sub {β : Type} (L : List β) (k : Nat) : (L.take k ++ L.drop (k + 1)).Sublist L := by
  rw [← List.eraseIdx_eq_take_drop_succ]; exact List.eraseIdx_sublist L k
theorem cut_len {β : Type} {L : List β} {k : Nat} (h : k < L.length) : (L.take k ++ L.drop (k + 1)).length = L.length - 1 := by
  rw [List.length_append, List.length_take, List.length_drop]; omega
theorem cut_at2 {β : Type} (L : List β) (k j : Nat) : (L.take k ++ L.drop (k + 1))[j]? = if j < k then L[j]? else L[j + 1]? := by
  rw [← List.eraseIdx_eq_take_drop_succ, List.getElem?_eraseIdx]
theorem Pool.cut {pool : List Itm} {vs : List (Option Addr × Nat)} {L : List Sg} (h : Pool pool vs L) (k : Nat) : Pool pool (vs.take k ++ vs.drop (k + 1)) (L.take k ++ L.drop (k + 1)) := by
  intro j v x hv hx
  rw [cut_at2] at hv hx
  by_cases hj : j < k
  · rw [if_pos hj] at hv hx; exact h j v x hv hx
  · rw [if_neg hj] at hv hx; exact h _ v x hv hx
theorem Pool.again {pool : List Itm} {vs : List (Option Addr × Nat)} {L : List Sg} (h : Pool pool vs L) (hl : vs.length = L.length) {q : Nat} {v : Option Addr × Nat} {x y : Sg} (hv : vs[q]? = some v) (hx : L[q]? = some x) (hy : y.s = x.s) : Pool pool (vs ++ [v]) (L ++ [y]) := by
  intro j u z hu hz
  rcases get_snoc hu with ⟨h1, h2⟩ | ⟨h1, h2⟩ <;> rcases get_snoc hz with ⟨h3, h4⟩ | ⟨h3, h4⟩
  · exact h j u z h2 h4
  · omega
  · omega
  · subst h2; subst h4; rw [hy]; exact h q u x hv hx
end Go.Proofs.YtpifchlpakajjaaGreat

namespace Go.Proofs.YtpifchlpakajjaaGreat
open Go.RowKit
set_option linter.unusedVariables false
set_option linter.unusedSimpArgs false
set_option maxRecDepth 100000

theorem Hp.front {W w : World} {l r : List Itm} {x : Itm} (h : Hp W (l ++ x :: r) w) : Hp W (x :: (l ++ r)) w := by
  refine h.sub (fun i => if i = 0 then l.length else if i ≤ l.length then i - 1 else i) (fun i j e => ?_) (fun i it hi => ?_)
  · split at e <;> split at e <;> (try split at e) <;> (try split at e) <;> omega
  · cases i with
    | zero =>
      rw [if_pos rfl, List.getElem?_append_right (Nat.le_refl _), Nat.sub_self]
      simpa using hi
    | succ i =>
      rw [List.getElem?_cons_succ] at hi
      rw [if_neg (by omega)]
      by_cases hl : i + 1 ≤ l.length
      · rw [if_pos hl]
        rw [List.getElem?_append_left (by omega)] at hi
        rw [show i + 1 - 1 = i by omega, List.getElem?_append_left (by omega)]
        exact hi
      · rw [if_neg hl]
        rw [List.getElem?_append_right (by omega)] at hi
        rw [List.getElem?_append_right (by omega), show i + 1 - l.length = (i - l.length) + 1 by omega, List.getElem?_cons_succ]
        exact hi
theorem Pool.wider {pool : List Itm} {vs : List (Option Addr × Nat)} {L : List Sg} (h : Pool pool vs L) (a : Itm) : Pool (a :: pool) vs L := fun j v x hv hx => by
  obtain ⟨k, hk⟩ := h j v x hv hx
  exact ⟨k + 1, hk⟩
theorem Pool.app {pool : List Itm} {vs : List (Option Addr × Nat)} {L : List Sg} (h : Pool pool vs L) (r : List Itm) : Pool (pool ++ r) vs L := fun j v x hv hx => by
  obtain ⟨k, hk⟩ := h j v x hv hx
  exact ⟨k, by rw [List.getElem?_append_left (List.getElem?_eq_some_iff.1 hk).1]; exact hk⟩
theorem run_cat56 {W w : World} {l : List Itm} {i : Nat} {it : Itm} (h : Hp W l w) (hi : l[i]? = some it) {t : TypeId} (ty : TypeId) {z : Value} {bytes : Nat} (ht : Tryz.prog.underlying t = some (.slice it.e))
    (hinf : (Tryz.prog.info? it.e).map (fun i => (i.zero, i.size, i.bytes)) = some (some z, it.size, bytes)) (hzs : z.cells.size = it.size) (hsz : 0 < it.size) (hby : bytes ≤ 60)
    {A : Option Addr} {c : Nat} (hv : it.v = .slice A it.n c) {B : Option Addr} {m d : Nat} (news : List Value) (hl : news.length = m * it.size) (hc : CellsIn w B news) (h1 : ∀ u ∈ news, u.oneCell' = true) (hn : it.n ≤ 1000000000000) (hm : m ≤ 1000000000000) :
    ∃ A2 c2 w', (Builtin.append_ #[t, t] ty #[.slice A it.n c, .slice B m d]).run Tryz.prog w = .ok (.slice A2 (it.n + m) c2) w' ∧
      Hp W (l.set i { it with v := .slice A2 (it.n + m) c2, n := it.n + m, xs := it.xs ++ news }) w' ∧ w.grownBy w' it.v.ownBlock := by
  obtain ⟨i0, hi0, hz0, hz1, hz2⟩ := info_parts hinf
  have hown := h.own i it hi
  by_cases h0 : m = 0
  · subst h0
    have hnews : news = [] := List.eq_nil_of_length_eq_zero (by rw [hl, Nat.zero_mul])
    subst hnews
    cases B with
    | some ad =>
      obtain ⟨v', w', hr, ho, hg, _, hat⟩ := run_append_own_at (P := Tryz.prog) w W.heap.size t ty it.e i0 z it.size bytes ht hi0 hz0 hz1 hz2 hzs hsz (.slice A it.n c) it.n it.xs (by rw [← hv]; exact hown) ad 0 d [] (by simp)
        (fun j u hu => by simp at hu) (fun u hu => by cases hu) (by unfold maxLen; omega) (by
          have := Nat.mul_le_mul (show it.n + 0 ≤ 2000000000000 by omega) hby
          omega) h.below.size
      obtain ⟨A2, c2, rfl⟩ : ∃ A2 c2, v' = .slice A2 (it.n + 0) c2 := by
        rcases ho.2 with ⟨e, e2⟩ | ⟨g, cap, cur, e, _⟩
        · exact ⟨none, 0, by rw [e2]; exact e⟩
        · exact ⟨_, cap, e⟩
      refine ⟨A2, c2, w', hr, ?_, by rw [hv]; exact hg⟩
      refine h.upd hi _ (by rw [hv]; exact hg) ho (fun k hk => ?_)
      rcases hat with e | e
      · exact .inl (by rw [hv, ← e]; exact hk)
      · refine .inr ?_
        have hk2 : (Value.slice A2 (it.n + 0) c2).ownBlock = some k := hk
        rw [e] at hk2
        injection hk2 with hk2
        omega
    | none =>
    have hr : (Builtin.append_ #[t, t] ty #[.slice A it.n c, .slice none 0 d]).run Tryz.prog w = .ok (.slice A it.n c) w := by
      rw [hv] at hown
      rcases hown.2 with ⟨e, e2⟩ | ⟨g, cap, cur, e, _, _, hnc, _⟩
      · rw [e2] at e ⊢
        injection e with e1 e3 e4
        subst e1; subst e4
        simp [Builtin.append_, run_underlying ht, sizeOf, typeInfo, hi0, Builtin.lenOf, Builtin.firstCells]
      · injection e with e1 e3 e4
        subst e1; subst e4
        simp [Builtin.append_, run_underlying ht, sizeOf, typeInfo, hi0, Builtin.lenOf, Builtin.firstCells, hnc, storeCells]
    refine ⟨A, c, w, hr, ?_, ⟨rfl, rfl, rfl, Nat.le_refl _, fun _ _ _ => rfl⟩⟩
    have := h.upd (w' := w) hi { it with v := .slice A (it.n + 0) c, n := it.n + 0, xs := it.xs ++ [] } ⟨rfl, rfl, rfl, Nat.le_refl _, fun _ _ _ => rfl⟩ (by rw [List.append_nil, Nat.add_zero, ← hv]; exact hown) (fun k hk => .inl (by rw [hv]; exact hk))
    exact this
  · have hpos : 0 < news.length := by rw [hl]; exact Nat.mul_pos (by omega) hsz
    obtain ⟨b, off, rfl, hlt, hcell⟩ := hc hpos
    obtain ⟨g, cap, w', hr, ho, hg, hat, _⟩ := run_append_lies (P := Tryz.prog) w t ty W.heap.size it.e i0 z it.size bytes ht hi0 hz0 hz1 hz2 hzs hsz (.slice A it.n c) it.n it.xs (by rw [← hv]; exact hown) ⟨b, off, none⟩ m d news hl
      (fun j u hu => by
        have e : (⟨b, off, none⟩ : Addr).add j = ⟨b, off + j, none⟩ := by unfold Addr.add; split <;> simp_all
        rw [e]; exact hcell j u hu) h1 (by omega) (by unfold maxLen; omega) (by
          have := Nat.mul_le_mul (show it.n + m ≤ 2000000000000 by omega) hby
          omega) h.below.size _ rfl
    refine ⟨_, cap, w', hr, ?_, by rw [hv]; exact hg⟩
    refine h.upd hi _ (by rw [hv]; exact hg) ho (fun k hk => ?_)
    simp [Value.ownBlock] at hk
    subst hk
    rcases hat with e | e
    · exact .inl (by rw [hv]; exact e)
    · exact .inr (by omega)
theorem run_cat_sgs {W w : World} {l : List Itm} {i : Nat} {A : Option Addr} {n c : Nat} {vs : List (Option Addr × Nat)} {L : List Sg} (h : Hp W l w) (hi : l[i]? = some (sgv A n c vs L)) (hvs : vs.length = L.length) (ty : TypeId) {B : Option Addr} {m d : Nat} (us : List (Option Addr × Nat)) (M : List Sg) (hus : us.length = M.length) (hM : M.length = m)
    (hc : CellsIn w B (sgsC us M)) (hn : n ≤ 1000000000000) (hm : m ≤ 1000000000000) :
    ∃ A2 c2 w', (Builtin.append_ #[22, 22] ty #[.slice A n c, .slice B m d]).run Tryz.prog w = .ok (.slice A2 (n + m) c2) w' ∧
      Hp W (l.set i (sgv A2 (n + m) c2 (vs ++ us) (L ++ M))) w' ∧ w.grownBy w' (Value.slice A n c).ownBlock := by
  have := run_cat56 h hi (t := 22) ty Tryz.underlying22 sg_info rfl (show 0 < 4 by decide) (show 56 ≤ 60 by decide) (A := A) (c := c) rfl (B := B) (m := m) (d := d) (sgsC us M) (by rw [sgsC_len hus, hM]; rfl) hc (sgsC_one us M) hn hm
  simpa [sgv, sgsC_cat (us := us) (M := M) hvs] using this
theorem CellsIn.left {w : World} {A : Option Addr} {xs ys : List Value} (h : CellsIn w A (xs ++ ys)) : CellsIn w A xs := by
  intro h0
  obtain ⟨b, off, e, hb, hc⟩ := h (by rw [List.length_append]; omega)
  exact ⟨b, off, e, hb, fun j u hu => hc j u (by rw [List.getElem?_append_left (List.getElem?_eq_some_iff.1 hu).1]; exact hu)⟩
theorem CellsIn.right {w : World} {b off : Nat} {xs ys : List Value} (h : CellsIn w (some ⟨b, off, none⟩) (xs ++ ys)) : CellsIn w (some ⟨b, off + xs.length, none⟩) ys := by
  intro h0
  obtain ⟨b2, off2, e, hb, hc⟩ := h (by rw [List.length_append]; omega)
  injection e with e
  injection e with e1 e2
  subst e1; subst e2
  refine ⟨b, off + xs.length, rfl, hb, fun j u hu => ?_⟩
  rw [Nat.add_assoc]
  exact hc _ u (by rw [List.getElem?_append_right (by omega), show xs.length + j - xs.length = j by omega]; exact hu)
theorem sgsC_take {vs : List (Option Addr × Nat)} {L : List Sg} (h : vs.length = L.length) (k : Nat) : sgsC vs L = sgsC (vs.take k) (L.take k) ++ sgsC (vs.drop k) (L.drop k) := by
  rw [← sgsC_cat (by rw [List.length_take, List.length_take, h]), List.take_append_drop, List.take_append_drop]
theorem run_drop {W w w1 : World} {R D O : Itm} {pool : List Itm} {A : Option Addr} {n c k : Nat} {vs : List (Option Addr × Nat)} {L : List Sg} (h : Hp W (R :: D :: O :: sgv A n c vs L :: pool) w) (hvs : vs.length = L.length) (hk : k < n) (hn : n ≤ 1000) (ty : TypeId) (hw1 : w1 = w.alloc (.cells #[] 58)) (b : Nat) (hA : A = some ⟨b, 0, none⟩) (B : Option Addr) (hB : B = if c = k + 1 then some ⟨b, 0, none⟩ else some ⟨b, 0 + (k + 1) * 4, none⟩) :
    ∃ A2 c2 w2 A3 c3 w3, (Builtin.append_ #[22, 22] ty #[.slice (some ⟨w.heap.size, 0, none⟩) 0 0, .slice A k c]).run Tryz.prog w1 = .ok (.slice A2 k c2) w2 ∧
      (Builtin.append_ #[22, 22] ty #[.slice A2 k c2, .slice B (n - (k + 1)) (c - (k + 1))]).run Tryz.prog w2 = .ok (.slice A3 (n - 1) c3) w3 ∧
      Hp W (sgv A2 k c2 (vs.take k) (L.take k) :: R :: D :: O :: sgv A n c vs L :: pool) w2 ∧
      Hp W (sgv A3 (n - 1) c3 (vs.take k ++ vs.drop (k + 1)) (L.take k ++ L.drop (k + 1)) :: R :: D :: O :: sgv A n c vs L :: pool) w3 := by
  have hL := h.sg_len (i := 3) rfl hvs
  have hcap : n ≤ c := (h.cap (i := 3) (it := sgv A n c vs L) rfl (A := A) (c := c) rfl).1
  have h1 : Hp W (sgv (some ⟨w.heap.size, 0, none⟩) 0 0 [] [] :: R :: D :: O :: sgv A n c vs L :: pool) w1 := by
    rw [hw1]; exact h.lit 58 4 0 [] rfl (by decide)
  have c1 := h1.cells (i := 4) (it := sgv A n c vs L) rfl (A := A) (c := c) rfl
  have c1 : CellsIn w1 A (sgsC vs L) := c1
  have ht : (vs.take k).length = (L.take k).length := by rw [List.length_take, List.length_take, hvs]
  have hd : (vs.drop (k + 1)).length = (L.drop (k + 1)).length := by rw [List.length_drop, List.length_drop, hvs]
  have c2 : CellsIn w1 A (sgsC (vs.take k) (L.take k)) := by rw [sgsC_take hvs k] at c1; exact c1.left
  obtain ⟨A2, cap2, w2, hr2, hv2, _⟩ := run_cat_sgs h1 (i := 0) rfl rfl ty (B := A) (m := k) (d := c) (vs.take k) (L.take k) ht (by rw [List.length_take]; omega) c2 (by omega) (by omega)
  rw [Nat.zero_add] at hr2 hv2
  have hv2 : Hp W (sgv A2 k cap2 (vs.take k) (L.take k) :: R :: D :: O :: sgv A n c vs L :: pool) w2 := hv2
  have c3 := hv2.cells (i := 4) (it := sgv A n c vs L) rfl (A := A) (c := c) rfl
  have c3 : CellsIn w2 A (sgsC vs L) := c3
  have c4 : CellsIn w2 B (sgsC (vs.drop (k + 1)) (L.drop (k + 1))) := by
    by_cases hc : c = k + 1
    · intro h0
      rw [sgsC_len hd, List.length_drop] at h0
      omega
    · rw [if_neg hc] at hB
      subst hB; subst hA
      rw [sgsC_take hvs (k + 1)] at c3
      have := c3.right
      rw [sgsC_len (by rw [List.length_take, List.length_take, hvs]), List.length_take, show min (k + 1) L.length = k + 1 by omega] at this
      exact this
  obtain ⟨A3, cap3, w3, hr3, hv3, _⟩ := run_cat_sgs hv2 (i := 0) rfl ht ty (B := B) (m := n - (k + 1)) (d := c - (k + 1)) (vs.drop (k + 1)) (L.drop (k + 1)) hd (by rw [List.length_drop]; omega) c4 (by omega) (by omega)
  rw [show k + (n - (k + 1)) = n - 1 by omega] at hr3 hv3
  exact ⟨A2, cap2, w2, A3, cap3, w3, hr2, hr3, hv2, hv3⟩
end Go.Proofs.YtpifchlpakajjaaGreat
