/- Contract: Parse of the program. -/
import Derived.Test.YtfgnekbkcmpdiaaGreatDoorUh
import Derived.Test.YtfgnekbkcmpdiaaGreatDoorUf
namespace Go.Proofs.YtfgnekbkcmpdiaaGreatDoor
open Go.RowKit
set_option linter.unusedVariables false
set_option linter.unusedSimpArgs false
set_option maxRecDepth 100000

theorem sp_not {l : List UInt8} (h : ∀ c ∈ l, c ≠ 32) : ∀ c ∈ l, isSp c = false := fun c hc => by unfold isSp; simpa using h c hc
theorem splitL_none32 {l : List UInt8} (h : ∀ c ∈ l, c ≠ 32) : splL isSp l = [l] := splL_none (sp_not h)
theorem splitL_cut32 {x r : List UInt8} (h : ∀ c ∈ x, c ≠ 32) : splL isSp (x ++ 32 :: r) = x :: splL isSp r := splL_cut (sp_not h) rfl
theorem splitK_S : ∀ (k : Nat) (l : List UInt8), l.count 32 ≤ k → Lib.splitK [32] 0 k l = splL isSp l := by
  intro k
  induction k with
  | zero =>
    intro l h
    have h0 : l.count 32 = 0 := by omega
    rw [Lib.splitK, splitL_none32 (fun c hc e => by subst e; exact absurd (List.count_eq_zero.1 h0) (by simp [hc]))]
  | succ k ih =>
    intro l h
    rw [Lib.splitK, Lib.index_one]
    by_cases e : Lib.indexByte l 32 = -1
    · rw [if_pos (by rw [e]; rfl)]
      rw [splitL_none32 (fun c hc e2 => by
        subst e2
        obtain ⟨j, hj⟩ := List.getElem?_of_mem hc
        exact Lib.indexByte_none e j hj)]
    · obtain ⟨i, hi⟩ := Int.eq_ofNat_of_zero_le (show 0 ≤ Lib.indexByte l 32 by have := Lib.indexByte_ge l 32; omega)
      obtain ⟨h1, h2⟩ := Lib.indexByte_some (o := i) hi
      have hlt : i < l.length := (List.getElem?_eq_some_iff.1 h1).1
      have hd : l = l.take i ++ 32 :: l.drop (i + 1) := by
        have h3 : l[i] = 32 := by
          have := List.getElem?_eq_getElem hlt
          rw [h1] at this; exact (Option.some.inj this).symm
        have h4 := List.drop_eq_getElem_cons hlt
        rw [h3] at h4
        rw [← h4, List.take_append_drop]
      have hn : ∀ c ∈ l.take i, c ≠ 32 := by
        intro c hc e2
        subst e2
        obtain ⟨j, hj⟩ := List.getElem?_of_mem hc
        have hji : j < i := by
          have := (List.getElem?_eq_some_iff.1 hj).1
          rw [List.length_take] at this; omega
        rw [List.getElem?_take_of_lt hji] at hj
        exact h2 j hji hj
      have hc : (l.drop (i + 1)).count 32 ≤ k := by
        have h5 : l.count 32 = (l.take i ++ 32 :: l.drop (i + 1)).count 32 := by rw [← hd]
        rw [List.count_append, List.count_cons_self] at h5
        omega
      have hne : ¬ (Lib.indexByte l 32 == -1) = true := by simp; omega
      rw [if_neg hne]
      have e3 : (Lib.indexByte l 32).toNat = i := by omega
      rw [e3]
      rw [show i + [(32 : UInt8)].length = i + 1 from rfl, ih _ hc, Nat.add_zero]
      conv => rhs; rw [hd]
      rw [splitL_cut32 hn]
theorem splitB_sp (d : ByteArray) : (Lib.splitB (⟨#[32]⟩ : ByteArray) 0 (Lib.countB d ⟨#[32]⟩) d).map (·.data.toList) = splL isSp d.data.toList := by
  rw [Lib.splitB_data]
  have h : Lib.countB d ⟨#[32]⟩ = d.data.toList.count 32 := Lib.count_one 32 d.data.toList
  rw [h]
  exact splitK_S _ _ (Nat.le_refl _)



def strC (P : List (List UInt8)) : List Value := P.map fun p => .string (bs p)
/-- A row of strings. -/
def strs (A : Option Addr) (n c : Nat) (P : List (List UInt8)) : Itm := ⟨9, 1, .slice A n c, n, strC P⟩
theorem strC_len (P : List (List UInt8)) : (strC P).length = P.length := by simp [strC]
theorem CellsIn.str {w : World} {A : Option Addr} {P : List (List UInt8)} (h : CellsIn w A (strC P)) {j : Nat} {p : List UInt8} (hp : P[j]? = some p) : ∃ b off, A = some ⟨b, off, none⟩ ∧ b < w.heap.size ∧ w.cell? ⟨b, off + j, none⟩ = some (.string (bs p)) := by
  have hj := (List.getElem?_eq_some_iff.1 hp).1
  obtain ⟨b, off, e, hlt, hc⟩ := h (by rw [strC_len]; omega)
  exact ⟨b, off, e, hlt, hc j _ (by unfold strC; rw [List.getElem?_map, hp]; rfl)⟩
theorem split_cells (s : ByteArray) : (Lib.splitB (⟨#[32]⟩ : ByteArray) 0 (Lib.countB s ⟨#[32]⟩) s).map Value.string = strC (splL isSp s.data.toList) := by
  have h := splitB_sp s
  generalize Lib.splitB (⟨#[32]⟩ : ByteArray) 0 (Lib.countB s ⟨#[32]⟩) s = B at h
  rw [← h]
  unfold strC
  rw [List.map_map]
  refine List.map_congr_left fun b _ => ?_
  rfl
theorem split_count (s : ByteArray) : Lib.countB s ⟨#[32]⟩ + 1 = (splL isSp s.data.toList).length := by
  have h := congrArg List.length (split_cells s)
  rw [splL_len]
  have e : Lib.countB s ⟨#[32]⟩ = s.data.toList.count 32 := Lib.count_one 32 s.data.toList
  rw [e, List.count_eq_countP]; rfl
def zS : Snd := ⟨0, 0, []⟩
theorem sndsC_rep (n : Nat) : madeCells (Value.agg #[.int .i64 0, .int .i64 0, .string ⟨#[]⟩]).cells (n * 3) = (sndsC (List.replicate n zS)).toArray := by
  apply Array.ext
  · rw [size_madeCells]; simp [sndsC_len]
  · intro i h1 h2
    rw [size_madeCells] at h1
    have hj : i / 3 < n := by omega
    have hz : (List.replicate n zS)[i / 3]? = some zS := by rw [List.getElem?_replicate, if_pos hj]
    obtain ⟨a, b, c⟩ := sndsC_at hz
    have e : i = i / 3 * 3 + i % 3 := by omega
    have hm : i % 3 < 3 := Nat.mod_lt _ (by decide)
    have hgoal : (madeCells (Value.agg #[.int .i64 0, .int .i64 0, .string ⟨#[]⟩]).cells (n * 3))[i]? = (sndsC (List.replicate n zS))[i]? := by
      have hL : (madeCells (Value.agg #[.int .i64 0, .int .i64 0, .string ⟨#[]⟩]).cells (n * 3))[i]? = [Value.int .i64 0, Value.int .i64 0, Value.string ⟨#[]⟩][i % 3]? := by
        rw [Array.getElem?_eq_getElem (by rw [size_madeCells]; exact h1)]
        simp [madeCells, Value.cells]
        have : i % 3 = 0 ∨ i % 3 = 1 ∨ i % 3 = 2 := by omega
        rcases this with h | h | h <;> simp [h]
      rw [hL]
      have : i % 3 = 0 ∨ i % 3 = 1 ∨ i % 3 = 2 := by omega
      rcases this with h | h | h
      · rw [h, show i = i / 3 * 3 by omega, a]; rfl
      · rw [h, show i = i / 3 * 3 + 1 by omega, b]; rfl
      · rw [h, show i = i / 3 * 3 + 2 by omega, c]; rfl
    rw [Array.getElem?_eq_getElem (by rw [size_madeCells]; exact h1), List.getElem?_eq_getElem (by simpa using h2)] at hgoal
    simpa using hgoal
theorem make_snds (N : Int) (n : Nat) (h : N = (n : Int)) (hn : n ≤ 1000000) (w : World) :
    (Instr.makeSlice 32 (.int .i64 N) (.int .i64 N)).run Tryz.prog w = .ok (.slice (some ⟨w.heap.size, 0, none⟩) n n) (w.alloc (.cells (sndsC (List.replicate n zS)).toArray 31)) := by
  obtain ⟨i0, hi, hz0, hz1, hz2⟩ := info_parts snd_info
  have := run_make (P := Tryz.prog) w 32 31 i0 (.agg #[.int .i64 0, .int .i64 0, .string ⟨#[]⟩]) Tryz.underlying32 hi hz0 .i64 .i64 N N (by omega) (Int.le_refl _) (by rw [hz2]; omega) (by omega)
  rw [this, hz1, h, ← sndsC_rep]
  simp
theorem Hp.made_snds {W w : World} {l : List Itm} (h : Hp W l w) (n : Nat) (hn : n ≤ 1000000) : Hp W (snds (some ⟨w.heap.size, 0, none⟩) n n (List.replicate n zS) :: l) (w.alloc (.cells (sndsC (List.replicate n zS)).toArray 31)) :=
  h.lit 31 3 n (sndsC (List.replicate n zS)) (by rw [sndsC_len]; simp) hn
theorem snd_set : ∀ (M : List Snd) (k : Nat) (x : Snd), sndsC (M.set k x) = (((sndsC M).set (k * 3) (.int .i64 x.k)).set (k * 3 + 1) (.int .i64 x.q)).set (k * 3 + 2) (.string (bs x.t))
  | [], k, x => by simp [sndsC]
  | y :: r, 0, x => by simp [sndsC, sndC]
  | y :: r, k + 1, x => by
    have ih := snd_set r k x
    have e : ∀ (z : Snd) (s : List Snd), sndsC (z :: s) = .int .i64 z.k :: .int .i64 z.q :: .string (bs z.t) :: sndsC s := fun z s => by simp [sndsC, sndC]
    rw [List.set_cons_succ, e, e, ih, show (k + 1) * 3 = k * 3 + 1 + 1 + 1 by omega]
    simp only [List.set_cons_succ]
/-- A sound of a row is stored to. -/
theorem Hp.snd_set {W w : World} {l : List Itm} {i g n c : Nat} {M : List Snd} (h : Hp W l w) (hi : l[i]? = some (snds (some ⟨g, 0, none⟩) n c M)) (k : Nat) (x : Snd) :
    Hp W (l.set i (snds (some ⟨g, 0, none⟩) n c (M.set k x))) (((w.setCell ⟨g, k * 3, none⟩ (.int .i64 x.k)).setCell ⟨g, k * 3 + 1, none⟩ (.int .i64 x.q)).setCell ⟨g, k * 3 + 2, none⟩ (.string (bs x.t))) := by
  have hil := (List.getElem?_eq_some_iff.1 hi).1
  have h1 := h.store hi (g := g) (cap := c) rfl (k * 3) (.int .i64 x.k)
  have h2 := h1.store (i := i) (by rw [Pt.set_at hil, if_pos rfl]) (g := g) (cap := c) rfl (k * 3 + 1) (.int .i64 x.q)
  have h3 := h2.store (i := i) (by rw [Pt.set_at (by rw [List.length_set]; exact hil), if_pos rfl]) (g := g) (cap := c) rfl (k * 3 + 2) (.string (bs x.t))
  simp only [List.set_set] at h3
  have e := Go.Proofs.YtfgnekbkcmpdiaaGreatDoor.snd_set M k x
  unfold snds at h3 ⊢
  rw [e]
  exact h3
theorem Hp.snd_at {W w : World} {l : List Itm} {i g n c : Nat} {M : List Snd} (h : Hp W l w) (hi : l[i]? = some (snds (some ⟨g, 0, none⟩) n c M)) {k : Nat} {x : Snd} (hx : M[k]? = some x) :
    w.cell? ⟨g, k * 3, none⟩ = some (.int .i64 x.k) ∧ w.cell? ⟨g, k * 3 + 1, none⟩ = some (.int .i64 x.q) ∧ w.cell? ⟨g, k * 3 + 2, none⟩ = some (.string (bs x.t)) ∧ w.frozen? ⟨g, k * 3, none⟩ = false ∧ w.frozen? ⟨g, k * 3 + 1, none⟩ = false ∧ w.frozen? ⟨g, k * 3 + 2, none⟩ = false ∧ g < w.heap.size := by
  obtain ⟨a, b, c'⟩ := sndsC_at hx
  have ha := h.cell hi (cap := c) rfl a
  have hb := h.cell hi (cap := c) rfl b
  have hc := h.cell hi (cap := c) rfl c'
  exact ⟨ha.1, hb.1, hc.1, ha.2.1, hb.2.1, hc.2.1, ha.2.2⟩
/-- A call that returns a list of sounds and an error. -/
def PsPost (L : List Snd) (er : Int) (w : World) (e : Ending) (w' : World) : Prop := ∃ A n c, e = .returned (.tuple #[.slice A n c, .int .i64 er]) ∧ L.length = n ∧ Hp w [snds A n c L] w'
theorem ps_none {L : List Snd} {er : Int} {w w' : World} {v : List Snd × Int} (h : v = ([], er)) (h2 : v = (L, er)) (hb : Below w.heap.size w w') : PsPost L er w (.returned (.tuple #[.slice none 0 0, .int .i64 er])) w' := by
  have e : L = [] := by rw [h] at h2; injection h2 with h2 _; exact h2.symm
  subst e
  exact ⟨none, 0, 0, rfl, rfl, ((Hp.start w).go hb).nil_row _ rfl rfl rfl⟩
theorem rd_take {P : List (List UInt8)} {acc : List Snd} {k : Nat} {p : List UInt8} {y : Snd} (h : (P.take k).map rdV = acc.map some) (hp : P[k]? = some p) (hy : rdV p = some y) : (P.take (k + 1)).map rdV = (acc ++ [y]).map some := by
  rw [take_snoc hp, List.map_append, h, List.map_append]; simp [hy]
theorem set_rep {acc : List Snd} {n k : Nat} (y z : Snd) (ha : acc.length = k) (hk : k < n) : (acc ++ List.replicate (n - k) z).set k y = (acc ++ [y]) ++ List.replicate (n - (k + 1)) z := by
  obtain ⟨d, hd⟩ : ∃ d, n - k = d + 1 := ⟨n - k - 1, by omega⟩
  rw [hd, show n - (k + 1) = d by omega, List.replicate_succ, List.set_append_right _ _ (by omega), ha, Nat.sub_self]
  simp
theorem rep_at {acc : List Snd} {n k : Nat} (z : Snd) (ha : acc.length = k) (hk : k < n) : (acc ++ List.replicate (n - k) z)[k]? = some z := by
  rw [List.getElem?_append_right (by omega), ha, Nat.sub_self, List.getElem?_replicate, if_pos (by omega)]
theorem bs_self (s : ByteArray) : bs s.data.toList = s := (bs_of rfl).symm
set_option maxHeartbeats 8000000 in
theorem parse_any (s : ByteArray) (w : World) (L : List Snd) (er : Int) (hv : prsV s.data.toList = (L, er)) (hs : s.size ≤ 140737488355328) (hm : MaxAt w) :
    Calls Tryz.prog 64 #[.string s] w (PsPost L er w) := by
  by_cases hbig : 4000 < s.size
  · have HE := Lib.hid (prs_big (s := s.data.toList) (by rw [sizeB]; exact hbig))
    have HV := Lib.hid hv
    obtain rfl : er = 3 := by rw [HE.out] at hv; injection hv with _ h; exact h.symm
    clear hv hm
    go_enter Tryz.func64, Tryz.ntmps64
    go_wp2
    go_ret2
    exact ps_none HE.out HV.out (Below.refl _ _)
  · by_cases h0 : s.size = 0
    · have hl : s.data.toList = [] := List.eq_nil_of_length_eq_zero (by rw [sizeB]; exact h0)
      have HE := Lib.hid (show prsV s.data.toList = ([], 0) by rw [hl]; exact prs_nil)
      have HV := Lib.hid hv
      obtain rfl : er = 0 := by rw [HE.out] at hv; injection hv with _ h; exact h.symm
      have hx := empty_bs h0
      clear hv hm hl h0
      go_enter Tryz.func64, Tryz.ntmps64
      go_wp2
      go_ret2
      exact ps_none HE.out HV.out (Below.refl _ _)
    · have hx := full_bs (s := s) (by omega)
      have hne : s.data.toList ≠ [] := fun e => h0 (by rw [← sizeB, e]; rfl)
      have h4 : ¬ 4000 < s.data.toList.length := by rw [sizeB]; exact hbig
      obtain ⟨P, hP⟩ : ∃ P, P = splL isSp s.data.toList := ⟨_, rfl⟩
      obtain ⟨n, hn⟩ : ∃ n, n = P.length := ⟨_, rfl⟩
      have hnc : Lib.countB s ⟨#[32]⟩ + 1 = n := by rw [hn, hP]; exact split_count s
      have hcl : (Lib.splitB (⟨#[32]⟩ : ByteArray) 0 (Lib.countB s ⟨#[32]⟩) s).map Value.string = strC P := by rw [hP]; exact split_cells s
      have hn4 : n ≤ 4001 := by
        have h1 := splL_len isSp s.data.toList
        have h2 := List.countP_le_length (p := isSp) (l := s.data.toList)
        rw [sizeB] at h2
        rw [hn, hP, h1]; omega
      have hpl : ∀ p ∈ P, (bs p).size ≤ 4000 := fun p hp => by
        have := spl_size isSp (show p ∈ splL isSp s.data.toList by rw [← hP]; exact hp)
        rw [sizeB] at this
        rw [bs_size]; omega
      have HM := Lib.hid hm
      obtain ⟨m, hm2⟩ := hm
      have V0 := Lib.hid (show Hp w [strs (some ⟨w.heap.size, 0, none⟩) n n P] (w.alloc (.cells (strC P).toArray 9)) from (Hp.start w).lit 9 1 n (strC P) (by rw [strC_len, hn, Nat.mul_one]) (by omega))
      have HNC := Lib.hid hnc
      have HCL := Lib.hid hcl
      have HP := Lib.hid hP
      have HN := Lib.hid hn
      have HPL := Lib.hid hpl
      have HV := Lib.hid hv
      by_cases h200 : 200 < n
      · have HE := Lib.hid (prs_many h4 hne (by rw [← hP, ← hn]; exact h200))
        obtain rfl : er = 2 := by rw [HE.out] at hv; injection hv with _ h; exact h.symm
        clear hv hn hP hnc hcl hpl hne h4
        go_enter Tryz.func64, Tryz.ntmps64
        go_wp2_with fail
        refine (Tryz.strings_Split s ⟨#[32]⟩ m _ (by omega) hm2 (by decide)).mono ?_
        rintro e w1 ⟨rfl, rfl⟩
        rw [HNC.out, HCL.out]
        go_wp2_with fail
        go_ret2
        exact ps_none HE.out HV.out V0.out.below
      · have hmk := make_snds (n : Int) n rfl (by omega)
        clear hv hn hP hnc hcl hpl
        go_enter Tryz.func64, Tryz.ntmps64
        go_wp2_with fail
        refine (Tryz.strings_Split s ⟨#[32]⟩ m _ (by omega) hm2 (by decide)).mono ?_
        rintro e w1 ⟨rfl, rfl⟩
        rw [HNC.out, HCL.out]
        obtain ⟨gs, hgs⟩ : ∃ gs, gs = w.heap.size := ⟨_, rfl⟩
        obtain ⟨W1, hW1⟩ : ∃ W1, W1 = w.alloc (.cells (strC P).toArray 9) := ⟨_, rfl⟩
        have HW1 := Lib.hid hW1
        have HGS := Lib.hid hgs
        have V1 := Lib.hid (show Hp w [strs (some ⟨gs, 0, none⟩) n n P] W1 by rw [hW1, hgs]; exact V0.out)
        rw [← HW1.out, ← HGS.out]
        obtain ⟨g, hg⟩ : ∃ g, g = W1.heap.size := ⟨_, rfl⟩
        have HG := Lib.hid hg
        have V2 := Lib.hid (show Hp w [snds (some ⟨g, 0, none⟩) n n (List.replicate n zS), strs (some ⟨gs, 0, none⟩) n n P] (W1.alloc (.cells (sndsC (List.replicate n zS)).toArray 31)) by rw [hg]; exact V1.out.made_snds n (by omega))
        clear hgs hW1 hg
        go_wp2_with fail
        rw [← HG.out]
        go_loopw [25] (fun i wr => ∃ (k : Nat) (acc : List Snd), k ≤ n ∧ i = .int .i64 k ∧ acc.length = k ∧ (P.take k).map rdV = acc.map some ∧ Hp w [snds (some ⟨g, 0, none⟩) n n (acc ++ List.replicate (n - k) zS), strs (some ⟨gs, 0, none⟩) n n P] wr) (fun i _ => n - (intOf i).toNat)
        case atStart => exact ⟨0, [], Nat.zero_le _, rfl, rfl, rfl, V2.out⟩
        case round =>
          clear V2 V1 V0 hmk hm2
          obtain ⟨k, acc, hk, rfl, hacc, hrd, hV⟩ := hrel
          have V := Lib.hid hV
          have HRD := Lib.hid hrd
          have HAC := Lib.hid hacc
          by_cases hlt : k < n
          · obtain ⟨p, hp⟩ := idx_lt HN.out.symm hlt
            obtain ⟨b, off, hb0, hbl, c0⟩ := (hV.cells (i := 1) (A := some ⟨gs, 0, none⟩) (c := n) rfl rfl).str hp
            injection hb0 with hb0
            injection hb0 with hb1 hb2
            subst hb1; subst hb2
            simp only [Nat.zero_add] at c0
            have HPP := Lib.hid hp
            have hps : (bs p).size ≤ 4000 := HPL.out p (List.mem_of_getElem? hp)
            have hma := HM.out.below hV.below
            clear hp hV hrd hacc
            go_wp2_with fail
            refine (read_any (bs p) _ hps hma).mono ?_
            rintro e w3 ⟨y, bo, rfl, hcase, hb3⟩
            have V3 := Lib.hid (V.out.go hb3)
            clear hb3 hma
            rcases hcase with ⟨rfl, hy⟩ | ⟨rfl, hy⟩
            · have HY := Lib.hid (rd_take HRD.out HPP.out (by rwa [bs_list] at hy))
              have V4 := Lib.hid (V3.out.sbox_new y)
              obtain ⟨x0, x1, x2, x3⟩ := V4.out.sbox_at (i := 0) rfl
              obtain ⟨f0, f1, f2, f3, f4, f5, f6⟩ := V4.out.snd_at (i := 1) rfl (rep_at zS HAC.out hlt)
              have V5 := Lib.hid (show Hp w [sbox w3.heap.size y, snds (some ⟨g, 0, none⟩) n n ((acc ++ [y]) ++ List.replicate (n - (k + 1)) zS), strs (some ⟨gs, 0, none⟩) n n P] _ by
                have := V4.out.snd_set (i := 1) rfl k y
                rw [set_rep y zS HAC.out hlt] at this
                exact this)
              clear hy
              go_wp2_with fail
              go_roundw
              case rel => exact ⟨k + 1, acc ++ [y], by omega, by go_num, by rw [List.length_append, HAC.out]; rfl, HY.out, V5.out.tail⟩
              case measure => simp [intOf]; omega
            · have HE := Lib.hid (prs_none h4 hne (by rw [← HP.out]; exact rdL_none HPP.out (by rwa [bs_list] at hy)))
              obtain rfl : er = 2 := by have := HV.out; rw [HE.out] at this; injection this with _ h; exact h.symm
              clear hy
              go_wp2_with fail
              go_ret2
              exact ps_none HE.out HV.out (btwo V3.out.below (bnew _ _))
          · obtain rfl : k = n := by omega
            have HE := Lib.hid (show prsV s.data.toList = (acc, 0) from prs_ok h4 hne (by
              have := HRD.out
              rw [take_all HN.out.symm] at this
              rw [← HP.out]; exact this) (by rw [HAC.out]; exact h200))
            obtain ⟨rfl, rfl⟩ : acc = L ∧ er = 0 := by
              have := HV.out
              rw [HE.out] at this
              injection this with h1 h2
              exact ⟨h1, h2.symm⟩
            rw [Nat.sub_self, List.replicate_zero, List.append_nil] at hV
            have V9 := Lib.hid (show Hp w [snds (some ⟨g, 0, none⟩) k k acc] wr from hV.sub (fun i => i) (fun _ _ e => e) (fun i it hi => by
              cases i with
              | zero => exact hi
              | succ i => simp at hi))
            clear hV hrd hacc V
            go_wp2_with fail
            go_ret2
            exact ⟨_, k, k, rfl, HAC.out, V9.out⟩
end Go.Proofs.YtfgnekbkcmpdiaaGreatDoor
