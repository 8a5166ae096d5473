/- Several texts in one: Zs. -/
import Derived.Test.YtpifchlpakajjaaMabs
namespace Go.Proofs.Ytpifchlpakajjaa
open Go.RowKit
set_option linter.unusedVariables false
set_option linter.unusedSimpArgs false
set_option maxRecDepth 100000

def manL (c : Int) : List Sg := [⟨[97], [⟨1, 3, [97]⟩], 0, 0⟩, ⟨[97], [⟨3, 0, [97]⟩], c, 0⟩]
def manU (n : Nat) : List UInt8 := List.replicate n 97
theorem man_v (c : Int) (h : 0 ≤ c ∧ c ≤ 99) : (vO [111] (manL c)).2 = 0 := by
  have h1 : ∀ c : Fin 100, (vO [111] (manL c.val)).2 = 0 := by decide
  have := h1 ⟨c.toNat, by omega⟩
  rwa [show (((⟨c.toNat, by omega⟩ : Fin 100).val : Nat) : Int) = c by show ((c.toNat : Nat) : Int) = c; omega] at this
theorem man_w (n : Nat) (h : 1 ≤ n) (h2 : n ≤ 16) : wdE (manU n) = 0 := by
  have h1 : ∀ n : Fin 16, wdE (manU (n.val + 1)) = 0 := by decide
  have := h1 ⟨n - 1, by omega⟩
  rwa [show n - 1 + 1 = n by omega] at this
theorem man_st (c : Int) (m : Nat) : stL (manL c) (manU (m + 1)) = [0, 1] := by
  unfold stL manL manU
  rw [List.replicate_succ]
  rfl
theorem man_bh (c : Int) : ∀ (m f i : Nat) (B : List Snd), i < 2 → m < f → (bh (manL c) f i (manU (m + 1)) B).length = 2 ^ m := by
  intro m
  induction m with
  | zero =>
    intro f i B hi hf
    obtain ⟨g, rfl⟩ : ∃ g, f = g + 1 := ⟨f - 1, by omega⟩
    rcases (show i = 0 ∨ i = 1 by omega) with rfl | rfl
    · rfl
    · rfl
  | succ m ih =>
    intro f i B hi hf
    obtain ⟨g, rfl⟩ : ∃ g, f = g + 1 := ⟨f - 1, by omega⟩
    have hd : (manU (m + 1 + 1)).drop (sgAt (manL c) i).t.length = manU (m + 1) := by
      rcases (show i = 0 ∨ i = 1 by omega) with rfl | rfl <;> rfl
    have hw : ∀ k, whB (sgAt (manL c) i).w B (sgAt (manL c) k).s = true := by
      intro k
      rcases (show i = 0 ∨ i = 1 by omega) with rfl | rfl <;> rfl
    rw [bh_on (by rw [hd]; simp [manU]), hd, man_st, List.flatMap_cons, List.flatMap_cons, List.flatMap_nil, if_pos (hw 0), if_pos (hw 1)]
    rw [List.length_append, List.length_append, List.length_map, List.length_map, ih g 0 _ (by omega) (by omega), ih g 1 _ (by omega) (by omega), Nat.pow_succ]
    simp
    omega
theorem man_len (c : Int) (n : Nat) (h : 1 ≤ n) : (dvs (manL c) (manU n)).length = 2 ^ n := by
  obtain ⟨m, rfl⟩ : ∃ m, n = m + 1 := ⟨n - 1, by omega⟩
  have hl : (manU (m + 1)).length = m + 1 := List.length_replicate
  unfold dvs
  rw [man_st, hl, List.flatMap_cons, List.flatMap_cons, List.flatMap_nil, List.length_append, List.length_append, man_bh c m _ _ _ (by omega) (by omega), man_bh c m _ _ _ (by omega) (by omega), Nat.pow_succ]
  simp
  omega
theorem man_g (c : Int) (hc : 0 ≤ c ∧ c ≤ 99) (n : Nat) (h : 1 ≤ n) (h2 : n ≤ 16) : gvE [111] (manL c) (manU n) = 0 := by unfold gvE; rw [if_pos (man_v c hc), man_w n h h2]
theorem man_small (c : Int) (hc : 0 ≤ c ∧ c ≤ 99) (n : Nat) (h : 1 ≤ n) (h2 : n ≤ 7) : bgE [111] (manL c) (manU n) = 0 ∧ cnT [111] (manL c) (manU n) = 2 ^ n := by
  have hb : bgE [111] (manL c) (manU n) = 0 := by
    unfold bgE
    rw [if_neg (by rw [man_g c hc n h (by omega)]; simp), man_len c n h, if_neg (by have := Nat.pow_pos (n := n) (show 0 < 2 by omega); omega), if_neg ?_]
    have : (2 : Nat) ^ n ≤ 2 ^ 7 := Nat.pow_le_pow_right (by omega) h2
    omega
  refine ⟨hb, ?_⟩
  unfold cnT
  rw [if_pos hb, man_len c n h]
theorem man_big (c : Int) (hc : 0 ≤ c ∧ c ≤ 99) (n : Nat) (h : 8 ≤ n) (h2 : n ≤ 16) : bgE [111] (manL c) (manU n) = 3 ∧ cnT [111] (manL c) (manU n) = 0 := by
  have hb : bgE [111] (manL c) (manU n) = 3 := by
    have : (2 : Nat) ^ 8 ≤ 2 ^ n := Nat.pow_le_pow_right (by omega) h
    unfold bgE
    rw [if_neg (by rw [man_g c hc n (by omega) h2]; simp), man_len c n (by omega), if_neg (by omega), if_pos (by omega)]
  refine ⟨hb, ?_⟩
  unfold cnT
  rw [if_neg (by rw [hb]; decide)]
theorem man_cD (c : Int) : ∀ d : List Nat, (∀ i ∈ d, i < 2) → cD (manL c) d = c * (d.countP (· == 1) : Nat)
  | [], _ => by simp [cD]
  | i :: r, h => by
    rw [cD_cons, man_cD c r (fun j hj => h j (List.mem_cons_of_mem _ hj)), List.countP_cons]
    rcases (show i = 0 ∨ i = 1 by have := h i List.mem_cons_self; omega) with rfl | rfl
    · show (0 : Int) + _ = _
      simp
    · show c + _ = _
      simp
      rw [Int.mul_add, Int.mul_one]
      omega
theorem man_tD (c : Int) : ∀ d : List Nat, (∀ i ∈ d, i < 2) → tD (manL c) d = manU d.length
  | [], _ => rfl
  | i :: r, h => by
    rw [tD_cons, man_tD c r (fun j hj => h j (List.mem_cons_of_mem _ hj))]
    rcases (show i = 0 ∨ i = 1 by have := h i List.mem_cons_self; omega) with rfl | rfl <;> rfl
theorem man_zero (c : Int) : ∀ (n : Nat) (B : List Snd), okD (manL c) B (List.replicate n 0) = true := by
  intro n
  induction n with
  | zero => intro B; rfl
  | succ m ih =>
    intro B
    cases m with
    | zero => rfl
    | succ k =>
      have := ih (sgAt (manL c) 0).s
      show (whB (sgAt (manL c) 0).w B (sgAt (manL c) 0).s && okD (manL c) (sgAt (manL c) 0).s (List.replicate (k + 1) 0)) = true
      rw [this]
      rfl
theorem man_best (c : Int) (hc : 0 ≤ c ∧ c ≤ 99) (n : Nat) (h : 1 ≤ n) (h2 : n ≤ 16) {x : List Nat} {r : List (List Nat)} (e : srtD (manL c) (dvs (manL c) (manU n)) = x :: r) : cD (manL c) x = 0 ∧ x.length = n ∧ x[0]? = some 0 := by
  have hne := TxNe.ok (man_v c hc)
  have hl : (manU n).length = n := List.length_replicate
  have hu : 0 < (manU n).length := by rw [hl]; omega
  have hnd := dvs_nodup hne (manU n)
  have hx := (dvs_mem hne hu x).1 ((srtD_mem hnd x).1 (by rw [e]; exact List.mem_cons_self))
  have hxl : x.length = n := by
    have h3 := man_tD c x hx.1
    rw [hx.2.1] at h3
    have := congrArg List.length h3
    rw [hl] at this
    rw [this]
    exact List.length_replicate.symm
  have hz2 : ∀ i ∈ List.replicate n 0, i < (manL c).length := fun i hi => by rw [List.eq_of_mem_replicate hi]; exact Nat.zero_lt_succ _
  have hz : List.replicate n 0 ∈ srtD (manL c) (dvs (manL c) (manU n)) := (srtD_mem hnd _).2 ((dvs_mem hne hu _).2 ⟨hz2, by rw [man_tD c _ hz2, List.length_replicate], man_zero c n []⟩)
  have hzc : cD (manL c) (List.replicate n 0) = 0 := by
    rw [man_cD c _ hz2]
    have : (List.replicate n 0).countP (· == 1) = 0 := List.countP_eq_zero.2 (fun a ha => by rw [List.eq_of_mem_replicate ha]; decide)
    rw [this]; simp
  have hxc := man_cD c x hx.1
  have hord := srtD_ord (L := manL c) hnd
  rw [e] at hz hord
  obtain ⟨a, s, rfl⟩ : ∃ a s, x = a :: s := by
    cases x with
    | nil => simp at hxl; omega
    | cons a s => exact ⟨a, s, rfl⟩
  obtain ⟨m, rfl⟩ : ∃ m, n = m + 1 := ⟨n - 1, by omega⟩
  have hpos : 0 ≤ cD (manL c) (a :: s) := by rw [hxc]; exact Int.mul_nonneg hc.1 (Int.natCast_nonneg _)
  rcases List.mem_cons.1 hz with h3 | h3
  · rw [← h3]
    exact ⟨hzc, List.length_replicate, rfl⟩
  · have hb := List.rel_of_pairwise_cons hord h3
    unfold befB at hb
    split at hb
    · rename_i h4
      rw [hzc] at h4
      refine ⟨h4, hxl, ?_⟩
      rw [List.replicate_succ] at hb
      have h5 : a = 0 := by
        rw [lexB] at hb
        split at hb
        · assumption
        · exact absurd (of_decide_eq_true hb) (Nat.not_lt_zero _)
      rw [h5]; rfl
    · have := of_decide_eq_true hb
      rw [hzc] at this
      omega
theorem keep_tokens : True := by
  -- countD_any bestD_any awake13_any obox obox_at obox_new SgBd sg_pool SgnIn sgv snds pool Pool Hp.lit Hp.go Hp.start bnew bdrew btwo Below.trans BsPost cells nums ints below drew Keep bs_size bs_self ret_bool beq_no bne_no beq_yes bne_yes dI CellsIn CellsIn.below CellsIn.at_ int sgC sgsC sndsC sgs nil more cons at sgn box box_new box_at Hp.box_new Hp.join Hp.front Hp.tail Hp.cap
  trivial
end Go.Proofs.Ytpifchlpakajjaa
