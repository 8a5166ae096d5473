/- Contract: Format of the program. -/
import Derived.Test.YtghjglcckpdbcaaGreatDoorUo
namespace Go.Proofs.YtghjglcckpdbcaaGreatDoor
open Go.RowKit
set_option linter.unusedVariables false
set_option linter.unusedSimpArgs false
set_option maxRecDepth 100000

theorem str_info : (Tryz.prog.info? 9).map (fun i => (i.zero, i.size, i.bytes)) = some (some (.string ⟨#[]⟩), 1, 16) := by kernel_rfl
theorem make_strs (N : Int) (n : Nat) (h : N = (n : Int)) (hn : n ≤ 1000000) (w : World) :
    (Instr.makeSlice 68 (.int .i64 N) (.int .i64 N)).run Tryz.prog w = .ok (.slice (some ⟨w.heap.size, 0, none⟩) n n) (w.alloc (.cells (List.replicate n (Value.string ⟨#[]⟩)).toArray 9)) := by
  obtain ⟨i0, hi, hz0, hz1, hz2⟩ := info_parts str_info
  have := run_make (P := Tryz.prog) w 68 9 i0 (.string ⟨#[]⟩) Tryz.underlying68 hi hz0 .i64 .i64 N N (by omega) (Int.le_refl _) (by rw [hz2]; omega) (by omega)
  rw [this, hz1, h]
  simp only [Int.toNat_natCast]
  rw [made_cells _ _ rfl]
theorem strC_rep (n : Nat) : strC (List.replicate n []) = List.replicate n (Value.string ⟨#[]⟩) := by unfold strC; rw [List.map_replicate]; rfl
theorem Hp.made_strs {W w : World} {l : List Itm} (h : Hp W l w) (n : Nat) (hn : n ≤ 1000000) : Hp W (strs (some ⟨w.heap.size, 0, none⟩) n n (List.replicate n []) :: l) (w.alloc (.cells (List.replicate n (Value.string ⟨#[]⟩)).toArray 9)) := by
  have := h.lit 9 1 n (strC (List.replicate n [])) (by rw [strC_len]; simp) hn
  rw [strC_rep] at this
  unfold strs
  rw [strC_rep]
  exact this
theorem Hp.str_set {W w : World} {l : List Itm} {i g n c : Nat} {P : List (List UInt8)} (h : Hp W l w) (hi : l[i]? = some (strs (some ⟨g, 0, none⟩) n c P)) (k : Nat) (p : List UInt8) :
    Hp W (l.set i (strs (some ⟨g, 0, none⟩) n c (P.set k p))) (w.setCell ⟨g, k, none⟩ (.string (bs p))) := by
  have := h.store hi (g := g) (cap := c) rfl k (.string (bs p))
  simpa [strs, strC, List.map_set] using this
theorem Hp.str_at {W w : World} {l : List Itm} {i g n c : Nat} {P : List (List UInt8)} (h : Hp W l w) (hi : l[i]? = some (strs (some ⟨g, 0, none⟩) n c P)) {k : Nat} {p : List UInt8} (hp : P[k]? = some p) :
    w.cell? ⟨g, k, none⟩ = some (.string (bs p)) ∧ w.frozen? ⟨g, k, none⟩ = false ∧ g < w.heap.size := h.cell hi (cap := c) rfl (by show (strC P)[k]? = _; unfold strC; rw [List.getElem?_map, hp]; rfl)
theorem join_jn : ∀ L : List (List UInt8), Lib.join L [32] = jn 32 L
  | [] => rfl
  | [x] => Lib.join_one x [32]
  | x :: y :: r => by
    rw [jn_two, ← join_jn (y :: r)]
    simp [Lib.join, List.intercalate, List.intersperse]
def FmtPost (l : List UInt8) (er : Int) (w : World) (e : Ending) (w' : World) : Prop := e = .returned (.tuple #[.string (bs l), .int .i64 er]) ∧ Below w.heap.size w w'
theorem fmt_big {L : List Snd} (h : 200 < L.length) : fmtV L = ([], 3) := by unfold fmtV; rw [if_pos h]
theorem fmt_bad {L : List Snd} {k : Nat} {x : Snd} (h : ¬ 200 < L.length) (hx : L[k]? = some x) (h1 : ∀ y ∈ L.take k, vS y = 0) (h2 : vS x ≠ 0) : fmtV L = ([], vS x) := by
  have e := errL_at hx h1 h2
  unfold fmtV; rw [if_neg h, e, if_neg h2]
theorem val_step {L : List Snd} {k : Nat} {x : Snd} (hx : L[k]? = some x) (h1 : ∀ y ∈ L.take k, vS y = 0) (h2 : vS x = 0) : ∀ y ∈ L.take (k + 1), vS y = 0 := fun y hy => by
  rw [take_snoc hx] at hy
  rcases List.mem_append.1 hy with hy | hy
  · exact h1 y hy
  · rw [List.mem_singleton.1 hy]; exact h2
theorem set_repL {α : Type} {acc : List α} {n k : Nat} (y z : α) (ha : acc.length = k) (hk : k < n) : (acc ++ List.replicate (n - k) z).set k y = (acc ++ [y]) ++ List.replicate (n - (k + 1)) z := by
  obtain ⟨d, hd⟩ : ∃ d, n - k = d + 1 := ⟨n - k - 1, by omega⟩
  rw [hd, show n - (k + 1) = d by omega, List.replicate_succ, List.set_append_right _ _ (by omega), ha, Nat.sub_self]
  simp
theorem rep_atL {α : Type} {acc : List α} {n k : Nat} (z : α) (ha : acc.length = k) (hk : k < n) : (acc ++ List.replicate (n - k) z)[k]? = some z := by
  rw [List.getElem?_append_right (by omega), ha, Nat.sub_self, List.getElem?_replicate, if_pos (by omega)]
theorem map_take {L : List Snd} {k n : Nat} (hl : L.length = n) (hk : k ≤ n) : ((L.take k).map tx1).length = k := by rw [List.length_map, List.length_take]; omega
theorem map_step {L : List Snd} {k : Nat} {x : Snd} (hx : L[k]? = some x) : (L.take (k + 1)).map tx1 = (L.take k).map tx1 ++ [tx1 x] := by rw [take_snoc hx, List.map_append]; rfl
set_option maxHeartbeats 8000000 in
theorem format_any (L : List Snd) (l : List UInt8) (er : Int) (hv : fmtV L = (l, er)) (n c : Nat) (A : Option Addr) (w : World) (hl : L.length = n) (hn : n ≤ 1000000) (hs : ∀ x ∈ L, x.t.length ≤ 140737488355328) (hA : CellsIn w A (sndsC L)) :
    Calls Tryz.prog 38 #[.slice A n c] w (FmtPost l er w) := by
  have HL := Lib.hid hl
  have HA := Lib.hid hA
  have HS := Lib.hid hs
  by_cases h200 : 200 < n
  · have HE := Lib.hid (fmt_big (L := L) (by omega))
    obtain ⟨rfl, rfl⟩ : [] = l ∧ 3 = er := by rw [HE.out] at hv; injection hv with a b; exact ⟨a, b⟩
    clear hl hA hs hv
    go_enter Tryz.func38, Tryz.ntmps38
    go_wp2
    go_ret2
    exact ⟨rfl, Below.refl _ _⟩
  · have HNB := Lib.hid (show ¬ 200 < L.length by omega)
    have HV := Lib.hid hv
    have hmk := make_strs (n : Int) n rfl (by omega)
    obtain ⟨g, hg⟩ : ∃ g, g = w.heap.size := ⟨_, rfl⟩
    have HG := Lib.hid hg
    have V0 := Lib.hid (show Hp w [strs (some ⟨g, 0, none⟩) n n ((L.take 0).map tx1 ++ List.replicate (n - 0) [])] (w.alloc (.cells (List.replicate n (Value.string ⟨#[]⟩)).toArray 9)) by rw [hg]; exact (Hp.start w).made_strs n (by omega))
    clear hl hA hs hv hg
    go_enter Tryz.func38, Tryz.ntmps38
    go_wp2
    rw [← HG.out]
    go_loopw [16] (fun i wr => ∃ k : Nat, k ≤ n ∧ i = .int .i64 k ∧ (∀ y ∈ L.take k, vS y = 0) ∧ Hp w [strs (some ⟨g, 0, none⟩) n n ((L.take k).map tx1 ++ List.replicate (n - k) [])] wr) (fun i _ => n - (intOf i).toNat)
    case atStart => exact ⟨0, Nat.zero_le _, rfl, fun y hy => by simp at hy, V0.out⟩
    case round =>
      clear V0 hmk
      obtain ⟨k, hk, rfl, hall, hV⟩ := hrel
      have V := Lib.hid hV
      have HALL := Lib.hid hall
      clear hall
      by_cases hlt : k < n
      · obtain ⟨x, hx⟩ := idx_lt HL.out hlt
        obtain ⟨b, off, rfl, hb, c0, c1, c2⟩ := (HA.out.below hV.below).snd hx
        have HX := Lib.hid hx
        have HXS := Lib.hid (HS.out x (List.mem_of_getElem? hx))
        have V1 := Lib.hid (V.out.sbox_new x)
        obtain ⟨d0, d1, d2⟩ := box_cells wr x
        obtain ⟨v, hvv⟩ : ∃ v, v = vS x := ⟨_, rfl⟩
        have HVX := Lib.hid hvv
        clear hV hx
        by_cases hv0 : v = 0
        · have hxv : vS x = 0 := by rw [← hvv]; exact hv0
          have HN := Lib.hid (val_step HX.out HALL.out hxv)
          have HXV := Lib.hid hxv
          have HMT := Lib.hid (map_take HL.out hk)
          have HMS := Lib.hid (map_step HX.out)
          clear hvv hxv
          subst hv0
          go_wp2_with fail
          refine (valid_any x _ HXS.out).mono ?_
          rintro e w2 ⟨rfl, hb2⟩
          rw [← HVX.out]
          have V2 := Lib.hid (V1.out.go hb2)
          obtain ⟨e0, e1, e2, e3⟩ := V2.out.sbox_at (i := 0) rfl
          clear hb2
          go_wp2_with fail
          refine (written_any x _ HXV.out).mono ?_
          rintro e w3 ⟨rfl, hb3⟩
          have V3 := Lib.hid (V2.out.go hb3)
          obtain ⟨q0, q1, q2⟩ := V3.out.str_at (i := 1) rfl (rep_atL [] HMT.out hlt)
          have V4 := Lib.hid (show Hp w [sbox wr.heap.size x, strs (some ⟨g, 0, none⟩) n n ((L.take (k + 1)).map tx1 ++ List.replicate (n - (k + 1)) [])] (w3.setCell ⟨g, k, none⟩ (.string (bs (tx1 x)))) by
            have := V3.out.str_set (i := 1) rfl k (tx1 x)
            rw [set_repL (tx1 x) [] HMT.out hlt, ← HMS.out] at this
            exact this)
          clear hb3
          go_wp2_with fail
          go_roundw
          case rel => exact ⟨k + 1, by omega, by go_num, HN.out, V4.out.tail⟩
          case measure => simp [intOf]; omega
        · have hE := fmt_bad HNB.out HX.out HALL.out (by rw [← hvv]; exact hv0)
          obtain ⟨rfl, rfl⟩ : [] = l ∧ vS x = er := by have := HV.out; rw [hE] at this; injection this with a b; exact ⟨a, b⟩
          have e0 : (v != 0) = true := bne_yes hv0
          clear hvv hE hv0
          go_wp2_with fail
          refine (valid_any x _ HXS.out).mono ?_
          rintro e w2 ⟨rfl, hb2⟩
          rw [← HVX.out]
          have V2 := Lib.hid (V1.out.go hb2)
          clear hb2
          go_wp2_with fail
          go_ret2
          exact ⟨by rw [← HVX.out]; rfl, V2.out.below⟩
      · obtain rfl : k = n := by omega
        have hE : fmtV L = (txL L, 0) := fmt_ok (by have := HNB.out; omega) (by have := HALL.out; rwa [take_all HL.out] at this)
        obtain ⟨rfl, rfl⟩ : txL L = l ∧ 0 = er := by have := HV.out; rw [hE] at this; injection this with a b; exact ⟨a, b⟩
        have HTX := Lib.hid (txL_len (L := L) (by have := HALL.out; rwa [take_all HL.out] at this))
        rw [Nat.sub_self, List.replicate_zero, List.append_nil, take_all HL.out] at hV
        have V9 := Lib.hid hV
        clear hE hV V
        by_cases hn0 : 0 < k
        · go_wp2_with fail
          have hcj : ∀ (j : Nat) (y : ByteArray), ((L.map tx1).map bs)[j]? = some y → wr.cell? ⟨g, 0 + j, none⟩ = some (.string y) := fun j y hj => by
            rw [List.getElem?_map] at hj
            cases hp : (L.map tx1)[j]? with
            | none => rw [hp] at hj; cases hj
            | some p =>
              rw [hp] at hj
              rw [Nat.zero_add, ← Option.some.inj hj]
              exact (V9.out.str_at (i := 0) rfl hp).1
          have hlen : ((L.map tx1).map bs).length = k := by rw [List.length_map, List.length_map]; exact HL.out
          have hjb : Lib.join (((L.map tx1).map bs).map (·.data.toList)) (⟨#[32]⟩ : ByteArray).data.toList = txL L := by
            rw [List.map_map]
            rw [show (fun x : ByteArray => x.data.toList) ∘ bs = id from rfl, List.map_id]
            exact join_jn _
          have hgl : g < wr.heap.size := (V9.out.lt (i := 0) rfl (k := g) rfl).2
          have hjn := Tryz.strings_Join g 0 k ((L.map tx1).map bs) (⟨#[32]⟩ : ByteArray) wr hcj hgl (by omega) (by omega) (by rw [hjb]; have := HTX.out; have := HL.out; omega)
          rw [hlen, hjb] at hjn
          refine hjn.mono ?_
          rintro e w3 ⟨rfl, hb3⟩
          have B3 := Lib.hid (btwo V9.out.below hb3)
          clear hb3 hjn hcj hlen hjb
          go_wp2_with fail
          go_ret2
          exact ⟨rfl, B3.out⟩
        · obtain rfl : k = 0 := by omega
          have HE0 := Lib.hid (show txL L = [] by rw [List.eq_nil_of_length_eq_zero HL.out]; rfl)
          go_wp2_with fail
          refine (Tryz.strings_Join_none _ _ _ _).mono ?_
          rintro e w3 ⟨rfl, rfl⟩
          go_wp2_with fail
          go_ret2
          exact ⟨by rw [HE0.out]; rfl, V9.out.below⟩
end Go.Proofs.YtghjglcckpdbcaaGreatDoor
