/- Several texts in one: JE, Za. -/
import Derived.Test.YtjamfcihjendiaaGreatRaao
import Derived.Test.YtjamfcihjendiaaGreatRaaq
import Derived.Test.YtjamfcihjendiaaGreatRaah
namespace Go.Proofs.YtjamfcihjendiaaGreat
open Go.RowKit
set_option linter.unusedVariables false
set_option linter.unusedSimpArgs false
set_option maxRecDepth 100000

def exP : Nat → List Snd
  | 0 => []
  | 1 => [⟨3, 0, [116]⟩]
  | _ => [⟨1, 3, [97]⟩]
def fsK (L : List Sg) (i : Nat) : Nat := if begB (sgAt L i).s = true then 2 else 1
def lsK (L : List Sg) (i : Nat) : Nat := if endB (sgAt L i).s = true then 2 else 1
theorem fsK_lt (L : List Sg) (i : Nat) : fsK L i < 3 := by unfold fsK; split <;> omega
theorem lsK_lt (L : List Sg) (i : Nat) : lsK L i < 3 := by unfold lsK; split <;> omega
theorem fsK_pos (L : List Sg) (i : Nat) : fsK L i = 1 ∨ fsK L i = 2 := by unfold fsK; split <;> omega
theorem exP_beg : begB (exP 0) = false ∧ begB (exP 1) = false ∧ begB (exP 2) = true := by decide
theorem whB_fs (L : List Sg) (i : Nat) (w : Int) (B : List Snd) : whB w B (exP (fsK L i)) = whB w B (sgAt L i).s := by
  unfold whB fsK
  by_cases h : begB (sgAt L i).s = true
  · rw [if_pos h, exP_beg.2.2, h]
  · rw [if_neg h, exP_beg.2.1]
    rw [Bool.not_eq_true] at h
    rw [h]
theorem clsB_ls (L : List Sg) (i : Nat) (h0 : 0 < (sgAt L i).s.length) : clsB (exP (lsK L i)) = clsB (sgAt L i).s := by
  unfold lsK clsB
  rw [if_neg (by omega : ¬ (sgAt L i).s.length = 0)]
  by_cases h : endB (sgAt L i).s = true
  · rw [if_pos h, if_pos h]; decide
  · rw [if_neg h, if_neg h]; decide
def wL (L : List Sg) (v : List UInt8) (b c : Nat) : List Nat → Nat
  | [] => 0
  | i :: r => (if fsK L i = c then (bh L v.length i v (exP b)).length else 0) + wL L v b c r
theorem wL_snoc (L : List Sg) (v : List UInt8) (b c : Nat) : ∀ (ks : List Nat) (i : Nat), wL L v b c (ks ++ [i]) = wL L v b c ks + (if fsK L i = c then (bh L v.length i v (exP b)).length else 0)
  | [], i => by simp [wL]
  | k :: r, i => by rw [List.cons_append, wL, wL, wL_snoc L v b c r i]; omega
theorem wL_zero (L : List Sg) (v : List UInt8) (b : Nat) : ∀ ks : List Nat, wL L v b 0 ks = 0
  | [] => rfl
  | k :: r => by rw [wL, wL_zero L v b r, if_neg (by rcases fsK_pos L k with h | h <;> omega)]
def wP (L : List Sg) (v : List UInt8) (b c : Nat) : Nat := if v.length = 0 then (if c = 0 then 1 else 0) else wL L v b c (stL L v)
def rsN (L : List Sg) (u : List UInt8) (at_ b c : Nat) : Nat := mn (wP L (u.drop at_) b c)
theorem rsN_le (L : List Sg) (u : List UInt8) (a b c : Nat) : rsN L u a b c ≤ 201 := mn_le _
def opN (L : List Sg) (v : List UInt8) (i b c : Nat) : Nat := if whB (sgAt L i).w (exP b) (exP c) = true then mn (wP L (v.drop (sgAt L i).t.length) (lsK L i) c) else 0
def opS (L : List Sg) (v : List UInt8) (i b : Nat) : Nat := opN L v i b 0 + opN L v i b 1 + opN L v i b 2
theorem onTo_cls {L : List Sg} {f i : Nat} {v : List UInt8} {B : List Snd} (b c0 c1 c2 : Nat) (h0 : c1 = if whB (sgAt L i).w B (exP 1) = true then 1 else 0) (h2 : c2 = if whB (sgAt L i).w B (exP 2) = true then 1 else 0)
    (hl : ∀ k, (bh L f k v (sgAt L i).s).length = (bh L v.length k v (exP (lsK L i))).length ∨ k ∉ stL L v) :
    ∀ ks : List Nat, (∀ k ∈ ks, k ∈ stL L v) → (onTo L f i v B ks).length = c1 * wL L v (lsK L i) 1 ks + c2 * wL L v (lsK L i) 2 ks
  | [], _ => by simp [onTo, wL]
  | k :: r, h => by
    have ih := onTo_cls b c0 c1 c2 h0 h2 hl r (fun j hj => h j (List.mem_cons_of_mem _ hj))
    have e : (onTo L f i v B (k :: r)).length = (if whB (sgAt L i).w B (sgAt L k).s = true then (bh L f k v (sgAt L i).s).length else 0) + (onTo L f i v B r).length := by
      unfold onTo
      rw [List.flatMap_cons, List.length_append]
      congr 1
      split <;> simp
    have hk := (hl k).resolve_right (fun h' => h' (h k List.mem_cons_self))
    rw [e, ih, wL, wL, ← whB_fs, hk]
    rcases fsK_pos L k with hf | hf
    · rw [hf, if_pos rfl, if_neg (by decide : ¬ (1 : Nat) = 2), h0]
      by_cases hw : whB (sgAt L i).w B (exP 1) = true
      · rw [if_pos hw, if_pos hw]; simp only [Nat.one_mul, Nat.zero_add]; omega
      · rw [if_neg hw, if_neg hw]; simp only [Nat.zero_mul, Nat.zero_add]
    · rw [hf, if_pos rfl, if_neg (by decide : ¬ (2 : Nat) = 1), h2]
      by_cases hw : whB (sgAt L i).w B (exP 2) = true
      · rw [if_pos hw, if_pos hw]; simp only [Nat.one_mul, Nat.zero_add]; omega
      · rw [if_neg hw, if_neg hw]; simp only [Nat.zero_mul, Nat.zero_add]
theorem opS_is {L : List Sg} (hne : TxNe L) (hs : ∀ i, i < L.length → 0 < (sgAt L i).s.length) {v : List UInt8} {i : Nat} (hi : i ∈ stL L v) (b : Nat) {f : Nat} (hf : v.length ≤ f) :
    mn (opS L v i b) = mn (bh L f i v (exP b)).length := by
  obtain ⟨h1, h2⟩ := stL_mem.1 hi
  have h0 := hne.at h1
  have hle := h2.length_le
  obtain ⟨g, rfl⟩ : ∃ g, f = g + 1 := ⟨f - 1, by omega⟩
  by_cases hz : (v.drop (sgAt L i).t.length).length = 0
  · rw [bh_end hz]
    have e : ∀ c, wP L (v.drop (sgAt L i).t.length) (lsK L i) c = if c = 0 then 1 else 0 := fun c => by unfold wP; rw [if_pos hz]
    unfold opS opN
    rw [e, e, e]
    have : exP 0 = [] := rfl
    rw [this]
    split <;> simp [mn]
  · rw [bh_on hz]
    have hd : (v.drop (sgAt L i).t.length).length = v.length - (sgAt L i).t.length := List.length_drop
    have hl : ∀ k, (bh L g k (v.drop (sgAt L i).t.length) (sgAt L i).s).length = (bh L (v.drop (sgAt L i).t.length).length k (v.drop (sgAt L i).t.length) (exP (lsK L i))).length ∨ k ∉ stL L (v.drop (sgAt L i).t.length) := fun k => by
      by_cases hk : k ∈ stL L (v.drop (sgAt L i).t.length)
      · refine Or.inl ?_
        rw [bh_cls (clsB_ls L i (hs i h1)), bh_fuel hne g _ k _ _ (by omega) (Nat.le_refl _) (stL_mem.1 hk).1 (stL_mem.1 hk).2]
      · exact Or.inr hk
    have key := onTo_cls (L := L) (f := g) (i := i) (v := v.drop (sgAt L i).t.length) (B := exP b) 0 0 _ _ rfl rfl hl _ (fun k hk => hk)
    unfold onTo at key
    rw [key]
    have e : ∀ c, wP L (v.drop (sgAt L i).t.length) (lsK L i) c = wL L (v.drop (sgAt L i).t.length) (lsK L i) c (stL L (v.drop (sgAt L i).t.length)) := fun c => by unfold wP; rw [if_neg hz]
    unfold opS opN
    rw [e, e, e, wL_zero]
    generalize wL L (v.drop (sgAt L i).t.length) (lsK L i) 1 (stL L (v.drop (sgAt L i).t.length)) = x
    generalize wL L (v.drop (sgAt L i).t.length) (lsK L i) 2 (stL L (v.drop (sgAt L i).t.length)) = y
    have z0 : (if whB (sgAt L i).w (exP b) (exP 0) = true then mn 0 else 0) = 0 := by split <;> rfl
    rw [z0]
    split <;> split <;> simp only [Nat.one_mul, Nat.zero_mul, Nat.zero_add, Nat.add_zero] <;> first | rfl | exact mn_mn _ | exact mn_add _ _
theorem mn_step {a s t : Nat} (h : mn s = mn t) : min (mn a + s) 201 = mn (a + t) := by unfold mn at *; omega
theorem min_step {a s t : Nat} (x : Int) (h : mn s = mn t) (hx : x = ((mn a + s : Nat) : Int)) : min x (201 : Int) = ((mn (a + t) : Nat) : Int) := by
  rw [hx, ← mn_step h]; omega
def cnN (L : List Sg) (u : List UInt8) : Nat := rsN L u 0 0 0 + rsN L u 0 0 1 + rsN L u 0 0 2
theorem dvs_len_go (L : List Sg) (u : List UInt8) : ∀ ks : List Nat, (ks.flatMap fun i => bh L u.length i u []).length = wL L u 0 1 ks + wL L u 0 2 ks
  | [] => rfl
  | k :: r => by
    rw [List.flatMap_cons, List.length_append, dvs_len_go L u r, wL, wL]
    have : exP 0 = [] := rfl
    rw [this]
    rcases fsK_pos L k with hf | hf
    · rw [hf, if_pos rfl, if_neg (by decide)]; omega
    · rw [hf, if_pos rfl, if_neg (by decide)]; omega
theorem cnN_is {L : List Sg} {u : List UInt8} (h0 : 0 < u.length) : (cnN L u = 0 ↔ (dvs L u).length = 0) ∧ (200 < cnN L u ↔ 200 < (dvs L u).length) ∧ ((dvs L u).length ≤ 200 → cnN L u = (dvs L u).length) := by
  have e : (dvs L u).length = wL L u 0 1 (stL L u) + wL L u 0 2 (stL L u) := dvs_len_go L u _
  have f : ∀ c, wP L (u.drop 0) 0 c = wL L u 0 c (stL L u) := fun c => by rw [List.drop_zero]; unfold wP; rw [if_neg (by omega)]
  unfold cnN rsN
  rw [f, f, f, e, wL_zero]
  unfold mn
  refine ⟨?_, ?_, ?_⟩ <;> omega
def exL (L : List Sg) (v : List UInt8) (b : Nat) (ok : Nat → Bool) : List (List Nat) := if v.length = 0 then (if ok 0 = true then [[]] else []) else (stL L v).flatMap fun i => if ok (fsK L i) = true then bh L v.length i v (exP b) else []
def exI (L : List Sg) (v : List UInt8) (b : Nat) (ok : Nat → Bool) (ks : List Nat) : List (List Nat) := ks.flatMap fun i => if ok (fsK L i) = true then bh L v.length i v (exP b) else []
theorem exI_snoc (L : List Sg) (v : List UInt8) (b : Nat) (ok : Nat → Bool) (ks : List Nat) (i : Nat) : exI L v b ok (ks ++ [i]) = exI L v b ok ks ++ (if ok (fsK L i) = true then bh L v.length i v (exP b) else []) := by unfold exI; rw [List.flatMap_append]; simp
theorem exL_end {L : List Sg} {v : List UInt8} {b : Nat} {ok : Nat → Bool} (h : v.length = 0) : exL L v b ok = if ok 0 = true then [[]] else [] := by unfold exL; rw [if_pos h]
theorem exL_on {L : List Sg} {v : List UInt8} {b : Nat} {ok : Nat → Bool} (h : ¬ v.length = 0) : exL L v b ok = exI L v b ok (stL L v) := by unfold exL exI; rw [if_neg h]
theorem flat_congr {α β : Type} {f g : α → List β} : ∀ {l : List α}, (∀ a ∈ l, f a = g a) → l.flatMap f = l.flatMap g
  | [], _ => rfl
  | a :: r, h => by rw [List.flatMap_cons, List.flatMap_cons, h a List.mem_cons_self, flat_congr (fun b hb => h b (List.mem_cons_of_mem _ hb))]
theorem map_flat {α β γ : Type} (f : α → List β) (g : β → γ) : ∀ l : List α, (l.flatMap f).map g = l.flatMap fun a => (f a).map g
  | [] => rfl
  | a :: r => by rw [List.flatMap_cons, List.map_append, map_flat f g r, List.flatMap_cons]
theorem exL_sign {L : List Sg} (hne : TxNe L) (hs : ∀ i, i < L.length → 0 < (sgAt L i).s.length) {v : List UInt8} {i : Nat} (hi : i ∈ stL L v) (b : Nat) :
    (exL L (v.drop (sgAt L i).t.length) (lsK L i) (fun c => whB (sgAt L i).w (exP b) (exP c))).map (i :: ·) = bh L v.length i v (exP b) := by
  obtain ⟨h1, h2⟩ := stL_mem.1 hi
  have h0 := hne.at h1
  have hle := h2.length_le
  have hd : (v.drop (sgAt L i).t.length).length = v.length - (sgAt L i).t.length := List.length_drop
  obtain ⟨g, hg⟩ : ∃ g, v.length = g + 1 := ⟨v.length - 1, by omega⟩
  rw [hg]
  by_cases hz : (v.drop (sgAt L i).t.length).length = 0
  · rw [bh_end hz, exL_end hz]
    have : exP 0 = [] := rfl
    rw [this]
    split <;> rfl
  · rw [bh_on hz, exL_on hz]
    unfold exI
    rw [map_flat]
    refine flat_congr (fun k hk => ?_)
    show List.map (i :: ·) (if whB (sgAt L i).w (exP b) (exP (fsK L k)) = true then _ else _) = _
    rw [whB_fs]
    split
    · rw [bh_cls (clsB_ls L i (hs i h1)), bh_fuel hne _ g k _ _ (Nat.le_refl _) (by omega) (stL_mem.1 hk).1 (stL_mem.1 hk).2]
    · rfl
theorem exL_top {L : List Sg} {u : List UInt8} (h0 : 0 < u.length) : exL L u 0 (fun _ => true) = dvs L u := by
  rw [exL_on (by omega)]
  unfold exI dvs
  exact flat_congr (fun i _ => by rw [if_pos rfl]; rfl)
theorem wP_none {L : List Sg} {v : List UInt8} (hv : ¬ v.length = 0) {b i : Nat} (hi : i ∈ stL L v) (h : wP L v b (fsK L i) = 0) : bh L v.length i v (exP b) = [] := by
  unfold wP at h
  rw [if_neg hv] at h
  have : ∀ ks : List Nat, i ∈ ks → wL L v b (fsK L i) ks = 0 → (bh L v.length i v (exP b)).length = 0 := by
    intro ks
    induction ks with
    | nil => intro h; cases h
    | cons k r ih =>
      intro h h2
      rw [wL] at h2
      rcases List.mem_cons.1 h with rfl | h
      · rw [if_pos rfl] at h2; omega
      · exact ih h (by omega)
  exact List.eq_nil_of_length_eq_zero (this _ hi h)
theorem stL_asc (L : List Sg) (u : List UInt8) : (stL L u).Pairwise (· < ·) := List.Pairwise.sublist List.filter_sublist List.pairwise_lt_range
theorem asc_flat {g : Nat → List (List Nat)} : ∀ {l : List Nat}, l.Pairwise (· < ·) → (∀ a ∈ l, (g a).Pairwise (fun x y => lexB x y = true)) → (∀ a ∈ l, ∀ x ∈ g a, ∃ r, x = a :: r) → (l.flatMap g).Pairwise (fun x y => lexB x y = true)
  | [], _, _, _ => by simp
  | a :: r, h, h1, h2 => by
    rw [List.flatMap_cons]
    have h' := List.pairwise_cons.1 h
    refine List.pairwise_append.2 ⟨h1 a List.mem_cons_self, asc_flat h'.2 (fun b hb => h1 b (List.mem_cons_of_mem _ hb)) (fun b hb => h2 b (List.mem_cons_of_mem _ hb)), fun x hx y hy => ?_⟩
    obtain ⟨b, hb, hyb⟩ := List.mem_flatMap.1 hy
    obtain ⟨p, rfl⟩ := h2 a List.mem_cons_self x hx
    obtain ⟨q, rfl⟩ := h2 b (List.mem_cons_of_mem _ hb) y hyb
    have := h'.1 b hb
    rw [lexB, if_neg (by omega)]
    exact decide_eq_true this
theorem asc_map (i : Nat) : ∀ {l : List (List Nat)}, l.Pairwise (fun x y => lexB x y = true) → (l.map (i :: ·)).Pairwise (fun x y => lexB x y = true)
  | [], _ => by simp
  | a :: r, h => by
    have h' := List.pairwise_cons.1 h
    rw [List.map_cons]
    refine List.pairwise_cons.2 ⟨fun y hy => ?_, asc_map i h'.2⟩
    obtain ⟨b, hb, rfl⟩ := List.mem_map.1 hy
    rw [lexB, if_pos rfl]
    exact h'.1 b hb
theorem bh_asc {L : List Sg} (hne : TxNe L) : ∀ (f i : Nat) (u : List UInt8) (B : List Snd), u.length ≤ f → i < L.length → (sgAt L i).t <+: u → (bh L f i u B).Pairwise (fun x y => lexB x y = true)
  | 0, _, _, _, _, _, _ => by simp [bh]
  | f + 1, i, u, B, hf, hi, hp => by
    have h0 := hne.at hi
    have hle := hp.length_le
    by_cases hz : (u.drop (sgAt L i).t.length).length = 0
    · rw [bh_end hz]; split <;> simp
    · have e : ((stL L (u.drop (sgAt L i).t.length)).flatMap fun k => if whB (sgAt L i).w B (sgAt L k).s = true then (bh L f k (u.drop (sgAt L i).t.length) (sgAt L i).s).map (i :: ·) else []) = ((stL L (u.drop (sgAt L i).t.length)).flatMap fun k => if whB (sgAt L i).w B (sgAt L k).s = true then bh L f k (u.drop (sgAt L i).t.length) (sgAt L i).s else []).map (i :: ·) := by
        rw [map_flat]
        refine flat_congr (fun k hk => ?_)
        split <;> rfl
      rw [bh_on hz, e]
      have hl : (u.drop (sgAt L i).t.length).length ≤ f := by rw [List.length_drop]; omega
      refine asc_map i (asc_flat (stL_asc _ _) (fun k hk => ?_) (fun k hk x hx => ?_))
      · split
        · exact bh_asc hne f k _ _ hl (stL_mem.1 hk).1 (stL_mem.1 hk).2
        · exact List.Pairwise.nil
      · split at hx
        · exact bh_head hne hl (stL_mem.1 hk).1 (stL_mem.1 hk).2 hx
        · cases hx
theorem dvs_asc {L : List Sg} (hne : TxNe L) (u : List UInt8) : (dvs L u).Pairwise (fun x y => lexB x y = true) := by
  unfold dvs
  exact asc_flat (stL_asc _ _) (fun k hk => bh_asc hne _ k _ _ (Nat.le_refl _) (stL_mem.1 hk).1 (stL_mem.1 hk).2) (fun k hk x hx => bh_head hne (Nat.le_refl _) (stL_mem.1 hk).1 (stL_mem.1 hk).2 hx)
end Go.Proofs.YtjamfcihjendiaaGreat

namespace Go.Proofs.YtjamfcihjendiaaGreat
open Go.RowKit
set_option linter.unusedVariables false
set_option linter.unusedSimpArgs false
set_option maxRecDepth 100000

def kC (b : Bool) : Nat := if b = true then 2 else 1
theorem kC_fs (L : List Sg) (i : Nat) : kC (begB (sgAt L i).s) = fsK L i := rfl
theorem kC_ls (L : List Sg) (i : Nat) : kC (endB (sgAt L i).s) = lsK L i := rfl
set_option maxHeartbeats 2000000 in
theorem kindP_any (x : Snd) (w : World) :
    Calls Tryz.prog 59 #[.agg #[.int .i64 x.k, .int .i64 x.q, .string (bs x.t)]] w fun e w' => e = .returned (.int .i64 (kC (nuc x) : Int)) ∧ Below w.heap.size w w' := by
  obtain ⟨g1, hg1⟩ : ∃ z, z = w.heap.size := ⟨_, rfl⟩
  obtain ⟨W1, hW1⟩ : ∃ z, z = w.alloc (.cells #[.int .i64 x.k, .int .i64 x.q, .string (bs x.t)] 96) := ⟨_, rfl⟩
  have V1 := Lib.hid (show Hp w [sbox g1 x] W1 by rw [hW1, hg1]; exact (Hp.start w).sbox_new x)
  have HW1 := Lib.hid hW1
  have HG1 := Lib.hid hg1
  obtain ⟨c0, c1, c2, c3⟩ := V1.out.sbox_at (i := 0) rfl
  clear hW1 hg1
  go_enter Tryz.func59, Tryz.ntmps59
  go_upto_region 1 with fail
  rw [← HG1.out, ← HW1.out]
  go_wp2_with fail
  refine (nucleus_any x _).mono ?_
  rintro e w2 ⟨rfl, hb⟩
  have V2 := Lib.hid (V1.out.go hb)
  clear hb c0 c1 c2 c3
  cases hx : nuc x with
  | true =>
    have HE := Lib.hid (show kC (nuc x) = 2 by rw [hx]; rfl)
    go_wp2_with fail
    go_ret
    exact ⟨by rw [HE.out]; rfl, V2.out.below⟩
  | false =>
    have HE := Lib.hid (show kC (nuc x) = 1 by rw [hx]; rfl)
    go_wp2_with fail
    go_ret
    exact ⟨by rw [HE.out]; rfl, V2.out.below⟩
set_option maxHeartbeats 2000000 in
theorem firstP_any (x : Sg) (A : Option Addr) (c : Nat) (w : World) (h0 : 0 < x.s.length) (h2 : x.s.length ≤ 1000) (hA : CellsIn w A (sndsC x.s)) :
    Calls Tryz.prog 38 #[.agg #[.string (bs x.t), .slice A x.s.length c, .int .i64 x.c, .int .i64 x.w]] w fun e w' => e = .returned (.int .i64 (kC (begB x.s) : Int)) ∧ Below w.heap.size w w' := by
  obtain ⟨g1, hg1⟩ : ∃ z, z = w.heap.size := ⟨_, rfl⟩
  obtain ⟨m, hm⟩ : ∃ m, x.s.length = m + 1 := ⟨x.s.length - 1, by omega⟩
  obtain ⟨y, hy⟩ := get_at (L := x.s) (k := 0) (by omega)
  have HE := Lib.hid (show begB x.s = nuc y from begB_at hy)
  obtain ⟨W1, hW1⟩ : ∃ z, z = w.alloc (.cells #[.string (bs x.t), .slice A x.s.length c, .int .i64 x.c, .int .i64 x.w] 64) := ⟨_, rfl⟩
  have V1 := Lib.hid (show Hp w [sgbox g1 (A, c) x] W1 by rw [hW1, hg1]; exact (Hp.start w).sgbox_new A c x)
  have HW1 := Lib.hid hW1
  have HG1 := Lib.hid hg1
  obtain ⟨b, off, hAe, hb, c0, c1, c2⟩ := (hA.below V1.out.below).snd hy
  have HAE := Lib.hid hAe
  try simp only [Nat.zero_mul, Nat.add_zero] at c0 c1 c2
  obtain ⟨s0, s1, s2, s3, s4⟩ := V1.out.sgbox_at (i := 0) rfl
  dsimp only at s1
  rw [hAe] at s1
  have ep : (0 : Int) < ((x.s.length : Nat) : Int) := by omega
  have hwm : IntKind.i64.wrap ((x.s.length : Int) - 1) = (m : Int) := by rw [IntWalk.i64_in _ (by omega)]; omega
  have hk3 : m * 3 ≤ 3000 := by omega
  have hml : m < x.s.length := by omega
  have HM := Lib.hid hm
  clear hW1 hg1 hA hy hm hAe h0
  go_enter Tryz.func38, Tryz.ntmps38
  go_upto_region 1 with fail
  rw [← HG1.out, ← HW1.out]
  go_wp2_with fail
  refine (kindP_any y _).mono ?_
  rintro e w2 ⟨rfl, hb⟩
  have V2 := Lib.hid (V1.out.go hb)
  clear hb c0 c1 c2 s0 s1 s2 s3 s4
  rw [← HE.out]
  go_wp2_with fail
  go_ret
  exact ⟨rfl, V2.out.below⟩
set_option maxHeartbeats 2000000 in
theorem lastP_any (x : Sg) (A : Option Addr) (c : Nat) (w : World) (h0 : 0 < x.s.length) (h2 : x.s.length ≤ 1000) (hA : CellsIn w A (sndsC x.s)) :
    Calls Tryz.prog 39 #[.agg #[.string (bs x.t), .slice A x.s.length c, .int .i64 x.c, .int .i64 x.w]] w fun e w' => e = .returned (.int .i64 (kC (endB x.s) : Int)) ∧ Below w.heap.size w w' := by
  obtain ⟨g1, hg1⟩ : ∃ z, z = w.heap.size := ⟨_, rfl⟩
  obtain ⟨m, hm⟩ : ∃ m, x.s.length = m + 1 := ⟨x.s.length - 1, by omega⟩
  obtain ⟨y, hy⟩ := get_at (L := x.s) (k := m) (by omega)
  have HE := Lib.hid (show endB x.s = nuc y from endB_at hm hy)
  obtain ⟨W1, hW1⟩ : ∃ z, z = w.alloc (.cells #[.string (bs x.t), .slice A x.s.length c, .int .i64 x.c, .int .i64 x.w] 64) := ⟨_, rfl⟩
  have V1 := Lib.hid (show Hp w [sgbox g1 (A, c) x] W1 by rw [hW1, hg1]; exact (Hp.start w).sgbox_new A c x)
  have HW1 := Lib.hid hW1
  have HG1 := Lib.hid hg1
  obtain ⟨b, off, hAe, hb, c0, c1, c2⟩ := (hA.below V1.out.below).snd hy
  have HAE := Lib.hid hAe
  try simp only [Nat.zero_mul, Nat.add_zero] at c0 c1 c2
  obtain ⟨s0, s1, s2, s3, s4⟩ := V1.out.sgbox_at (i := 0) rfl
  dsimp only at s1
  rw [hAe] at s1
  have ep : (0 : Int) < ((x.s.length : Nat) : Int) := by omega
  have hwm : IntKind.i64.wrap ((x.s.length : Int) - 1) = (m : Int) := by rw [IntWalk.i64_in _ (by omega)]; omega
  have hk3 : m * 3 ≤ 3000 := by omega
  have hml : m < x.s.length := by omega
  have HM := Lib.hid hm
  clear hW1 hg1 hA hy hm hAe h0
  go_enter Tryz.func39, Tryz.ntmps39
  go_upto_region 1 with fail
  rw [← HG1.out, ← HW1.out]
  go_wp2_with fail
  refine (kindP_any y _).mono ?_
  rintro e w2 ⟨rfl, hb⟩
  have V2 := Lib.hid (V1.out.go hb)
  clear hb c0 c1 c2 s0 s1 s2 s3 s4
  rw [← HE.out]
  go_wp2_with fail
  go_ret
  exact ⟨rfl, V2.out.below⟩
theorem exP_len (b : Nat) : (exP b).length ≤ 1 := by
  match b with
  | 0 => exact Nat.zero_le _
  | 1 => exact Nat.le_refl _
  | b + 2 => exact Nat.le_refl _
def ExPost (b : Nat) (w : World) (e : Ending) (w' : World) : Prop := ∃ B c, e = .returned (.slice B (exP b).length c) ∧ CellsIn w' B (sndsC (exP b)) ∧ Below w.heap.size w w'
set_option maxHeartbeats 2000000 in
theorem example_any (b : Nat) (w : World) (hb : b < 3) :
    Calls Tryz.prog 61 #[.int .i64 (b : Int)] w (ExPost b w) := by
  rcases (show b = 0 ∨ b = 1 ∨ b = 2 by omega) with rfl | rfl | rfl
  · go_enter Tryz.func61, Tryz.ntmps61
    go_wp2_with fail
    go_ret
    exact ⟨none, 0, rfl, CellsIn.nil _ _, Below.refl _ _⟩
  · obtain ⟨W1, hW1⟩ : ∃ z, z = w.alloc (.cells #[.int .i64 3, .int .i64 0, .string ⟨#[116]⟩] 96) := ⟨_, rfl⟩
    obtain ⟨g1, hg1⟩ : ∃ z, z = w.heap.size := ⟨_, rfl⟩
    have V1 := Lib.hid (show Hp w [snds (some ⟨g1, 0, none⟩) 1 1 (exP 1)] W1 by rw [hW1, hg1]; exact (Hp.start w).lit 96 3 1 (sndsC (exP 1)) rfl (by decide))
    have HW1 := Lib.hid hW1
    have HG1 := Lib.hid hg1
    clear hW1 hg1
    go_enter Tryz.func61, Tryz.ntmps61
    go_wp2_with fail
    go_ret
    rw [← HG1.out, ← HW1.out]
    exact ⟨some ⟨g1, 0, none⟩, 1, rfl, V1.out.cells (i := 0) rfl (A := some ⟨g1, 0, none⟩) (c := 1) rfl, V1.out.below⟩
  · obtain ⟨W1, hW1⟩ : ∃ z, z = w.alloc (.cells #[.int .i64 1, .int .i64 3, .string ⟨#[97]⟩] 96) := ⟨_, rfl⟩
    obtain ⟨g1, hg1⟩ : ∃ z, z = w.heap.size := ⟨_, rfl⟩
    have V1 := Lib.hid (show Hp w [snds (some ⟨g1, 0, none⟩) 1 1 (exP 2)] W1 by rw [hW1, hg1]; exact (Hp.start w).lit 96 3 1 (sndsC (exP 2)) rfl (by decide))
    have HW1 := Lib.hid hW1
    have HG1 := Lib.hid hg1
    clear hW1 hg1
    go_enter Tryz.func61, Tryz.ntmps61
    go_wp2_with fail
    go_ret
    rw [← HG1.out, ← HW1.out]
    exact ⟨some ⟨g1, 0, none⟩, 1, rfl, V1.out.cells (i := 0) rfl (A := some ⟨g1, 0, none⟩) (c := 1) rfl, V1.out.below⟩
theorem run_index3 (a b c : Int) (k : Nat) (hk : k < 3) (w : World) : (Instr.index 68 (.agg #[.int .i64 a, .int .i64 b, .int .i64 c]) (.int .i64 (k : Int))).run Tryz.prog w = .ok (.int .i64 (if k = 0 then a else if k = 1 then b else c)) w := by
  rcases (show k = 0 ∨ k = 1 ∨ k = 2 by omega) with rfl | rfl | rfl <;> simp [Instr.index, run_underlying Tryz.underlying68, asIntOf, part, go_sem, Tryz.isAgg3]
set_option maxHeartbeats 2000000 in
theorem sum_any (a b c : Nat) (w : World) (ha : a ≤ 1000) (hb : b ≤ 1000) (hc : c ≤ 1000) :
    Calls Tryz.prog 50 #[.agg #[.int .i64 (a : Int), .int .i64 (b : Int), .int .i64 (c : Int)]] w fun e w' => e = .returned (.int .i64 ((a + b + c : Nat) : Int)) ∧ Below w.heap.size w w' := by
  obtain ⟨g1, hg1⟩ : ∃ z, z = w.heap.size := ⟨_, rfl⟩
  obtain ⟨W1, hW1⟩ : ∃ z, z = w.alloc (.cells #[.int .i64 (a : Int), .int .i64 (b : Int), .int .i64 (c : Int)] 68) := ⟨_, rfl⟩
  have V1 := Lib.hid (show Hp w [box 68 g1 [.int .i64 (a : Int), .int .i64 (b : Int), .int .i64 (c : Int)]] W1 by rw [hW1, hg1]; exact (Hp.start w).box_new _ _)
  have HW1 := Lib.hid hW1
  have HG1 := Lib.hid hg1
  have B1 := Lib.hid V1.out.below
  have c0 := (V1.out.box_at (i := 0) (j := 0) rfl rfl).1
  have c1 := (V1.out.box_at (i := 0) (j := 1) rfl rfl).1
  have c2 := (V1.out.box_at (i := 0) (j := 2) rfl rfl).1
  have hh := (V1.out.box_at (i := 0) (j := 0) rfl rfl).2.2
  clear hW1 hg1
  go_enter Tryz.func50, Tryz.ntmps50
  go_upto_region 1 with fail
  rw [← HG1.out, ← HW1.out]
  go_wp2_with fail
  clear c0 c1 c2 hh
  go_loopw [3, 7] (fun v i wr => ∃ k : Nat, k ≤ 3 ∧ i = .int .i64 (k : Int) ∧ v = .int .i64 (((if 0 < k then a else 0) + (if 1 < k then b else 0) + (if 2 < k then c else 0) : Nat) : Int) ∧ Below w.heap.size w wr) (fun _ i _ => 3 - (intOf i).toNat)
  case atStart => exact ⟨0, by omega, rfl, rfl, B1.out⟩
  case round =>
    obtain ⟨k, hk, rfl, rfl, hB⟩ := hrel
    obtain ⟨wi, rfl⟩ : ∃ wi : World, wi = wr := ⟨_, rfl⟩
    have B2 := Lib.hid hB
    clear hB
    rcases (show k = 0 ∨ k = 1 ∨ k = 2 ∨ k = 3 by omega) with rfl | rfl | rfl | rfl
    · have h1 : IntKind.i64.wrap ((0 : Int) + (a : Int)) = (a : Int) := by rw [IntWalk.i64_in _ (by omega)]; omega
      have h2 : IntKind.i64.wrap ((a : Int)) = (a : Int) := IntWalk.i64_in _ (by omega)
      have hix : ∀ w : World, (Instr.index 68 (.agg #[.int .i64 (a : Int), .int .i64 (b : Int), .int .i64 (c : Int)]) (.int .i64 0)).run Tryz.prog w = .ok (.int .i64 (a : Int)) w := fun w => run_index3 a b c 0 (by decide) w
      go_wp2_with fail
      go_roundw
      case rel => exact ⟨1, by omega, rfl, by simp, B2.out⟩
      case measure => simp [intOf]
    · have h1 : IntKind.i64.wrap ((a : Int) + (b : Int)) = (a : Int) + (b : Int) := IntWalk.i64_in _ (by omega)
      have hix : ∀ w : World, (Instr.index 68 (.agg #[.int .i64 (a : Int), .int .i64 (b : Int), .int .i64 (c : Int)]) (.int .i64 1)).run Tryz.prog w = .ok (.int .i64 (b : Int)) w := fun w => run_index3 a b c 1 (by decide) w
      go_wp2_with fail
      go_roundw
      case rel => exact ⟨2, by omega, rfl, by simp, B2.out⟩
      case measure => simp [intOf]
    · have h1 : IntKind.i64.wrap ((a : Int) + (b : Int) + (c : Int)) = (a : Int) + (b : Int) + (c : Int) := IntWalk.i64_in _ (by omega)
      have hix : ∀ w : World, (Instr.index 68 (.agg #[.int .i64 (a : Int), .int .i64 (b : Int), .int .i64 (c : Int)]) (.int .i64 2)).run Tryz.prog w = .ok (.int .i64 (c : Int)) w := fun w => run_index3 a b c 2 (by decide) w
      go_wp2_with fail
      go_roundw
      case rel => exact ⟨3, by omega, rfl, by simp, B2.out⟩
      case measure => simp [intOf]
    · go_wp2_with fail
      go_ret
      exact ⟨by simp, B2.out⟩
end Go.Proofs.YtjamfcihjendiaaGreat
