/- Contract of the program's Write. -/
import Derived.Test.YtngkhggofjeflaaDoorKk
namespace Go.Proofs.YtngkhggofjeflaaDoor
open Go.RowKit
set_option linter.unusedVariables false
set_option maxRecDepth 100000

/-- A box that holds a token. -/
def BoxT (g : Nat) (x : Tok) (w : World) : Prop := w.heap[g]? = some (.cells #[.int .i64 x.k, .string (bs x.t), .int .i64 x.l] 29 (0, 0))
theorem BoxT.facts {g : Nat} {x : Tok} {w : World} (h : BoxT g x w) : w.cell? ⟨g, 0, none⟩ = some (.int .i64 x.k) ∧ w.cell? ⟨g, 1, none⟩ = some (.string (bs x.t)) ∧ w.cell? ⟨g, 2, none⟩ = some (.int .i64 x.l) ∧ g < w.heap.size := by
  unfold BoxT at h
  refine ⟨?_, ?_, ?_, (Array.getElem?_eq_some_iff.1 h).1⟩
  · rw [cell_of_row w _ 0 _ _ _ h]; rfl
  · rw [cell_of_row w _ 1 _ _ _ h]; rfl
  · rw [cell_of_row w _ 2 _ _ _ h]; rfl
theorem BoxT.go {g : Nat} {x : Tok} {w w' : World} (h : BoxT g x w) (hb : Below w.heap.size w w') : BoxT g x w' := by
  unfold BoxT at *
  rw [hb.block _ (Array.getElem?_eq_some_iff.1 h).1]; exact h
def fW (L : List Tok) (k j : Nat) : ByteArray := if j < k then bs (L[j]?.elim [] wrK) else ⟨#[]⟩
theorem fW_zero (L : List Tok) : fW L 0 = fun _ => ⟨#[]⟩ := by funext j; unfold fW; rw [if_neg (by omega)]
theorem fW_same (L : List Tok) {k j : Nat} (h : j ≠ k) : fW L (k + 1) j = fW L k j := by
  unfold fW
  by_cases e : j < k
  · rw [if_pos e, if_pos (by omega)]
  · rw [if_neg e, if_neg (by omega)]
theorem fW_new {L : List Tok} {k : Nat} {x : Tok} (h : L[k]? = some x) : fW L (k + 1) k = bs (wrK x) := by
  unfold fW; rw [if_pos (by omega), h]; rfl
theorem fW_list (L : List Tok) {n : Nat} (h : n = L.length) : ∀ (j : Nat) (y : ByteArray), (L.map (fun x => bs (wrK x)))[j]? = some y → j < n ∧ fW L n j = y := by
  intro j y hj
  obtain ⟨h1, h2⟩ := List.getElem?_eq_some_iff.1 hj
  have hl : j < L.length := by simpa using h1
  refine ⟨by omega, ?_⟩
  unfold fW
  rw [if_pos (by omega), List.getElem?_eq_getElem hl, ← h2]; simp
theorem join_bs (L : List Tok) : Lib.join ((L.map (fun x => bs (wrK x))).map (·.data.toList)) (⟨#[32]⟩ : ByteArray).data.toList = joinW L := by
  unfold joinW
  rw [List.map_map]; rfl
theorem strings_join2 (bk o n c : Nat) (xs : List ByteArray) (sep : ByteArray) (w : World) (hcells : ∀ (j : Nat) x, xs[j]? = some x → w.cell? ⟨bk, o + j, none⟩ = some (.string x)) (hbk : bk < w.heap.size) (hn : xs.length = n) (hN : n ≤ 140737488355328) (hcap : n ≤ c) (hlen : (Lib.join (xs.map (·.data.toList)) sep.data.toList).length ≤ 140737488355328) :
    Calls Tryd.prog 40 #[.slice (some ⟨bk, o, none⟩) n c, .string sep] w fun e w' => e = .returned (.string ⟨(Lib.join (xs.map (·.data.toList)) sep.data.toList).toArray⟩) ∧ Below w.heap.size w w' := by
  subst hn
  exact Tryd.strings_Join bk o c xs sep w hcells hbk hN hcap hlen
theorem boxT_new (x : Tok) (w : World) : BoxT w.heap.size x (w.alloc (.cells #[.int .i64 x.k, .string (bs x.t), .int .i64 x.l] 29)) := heap_alloc_new w _

set_option maxHeartbeats 16000000 in
theorem write_any (L : List Tok) (n c : Nat) (A : Option Addr) (w : World) (hl : n = L.length) (hn : n ≤ 1000000) (hsz : ∀ x ∈ L, x.t.length ≤ 1000000) (hA : ToksIn w A L) :
    Calls Tryd.prog 17 #[.slice A n c] w (TwPost L w) := by
  have HL := Lib.hid hl
  have HA := Lib.hid hA
  have HS := Lib.hid hsz
  clear hl hA hsz
  go_enter Tryd.func17, Tryd.ntmps17
  go_wp2
  go_loopw [4, 12] (fun v i wr => ∃ k m : Nat, k ≤ n ∧ m ≤ 63 * k ∧ i = .int .i64 k ∧ v = .int .i64 m ∧ (L.take k).all tokR = true ∧ (joinW (L.take k)).length = m ∧ Below w.heap.size w wr) (fun _ i _ => n - (intOf i).toNat)
  case atStart => exact ⟨0, 0, Nat.zero_le _, Nat.zero_le _, rfl, rfl, rfl, rfl, Below.refl _ _⟩
  case round =>
    obtain ⟨k, m, hk, hm, rfl, rfl, hall, hjl, hbr⟩ := hrel
    have HALL := Lib.hid hall
    have HJ := Lib.hid hjl
    have HB := Lib.hid hbr
    have hszr := hbr.size
    clear hall hjl
    by_cases hlt : k < n
    · have hkL : k < L.length := by have := HL.out; omega
      obtain ⟨b1, o1, rfl, hb1, hc1⟩ := HA.out (by omega)
      obtain ⟨x, hx⟩ : ∃ x, x = L[k] := ⟨_, rfl⟩
      have hx1 : L[k]? = some x := by rw [List.getElem?_eq_getElem hkL, hx]
      obtain ⟨xk, xt, xl⟩ := tok_load (hc1 k x hx1) hbr hb1
      have hxs : (bs x.t).size ≤ 1000000 := by have := HS.out x (by rw [hx]; exact List.getElem_mem _); rw [bs_size]; exact this
      have hb1r : b1 < wr.heap.size := by omega
      have HX := Lib.hid hx1
      clear hx hx1 hc1 hkL hbr
      cases hr : tokR x with
      | true =>
        have HR := Lib.hid (show rightT x.k (bs x.t).data.toList = true from hr)
        have HN := Lib.hid (all_snoc HX.out HALL.out hr)
        obtain ⟨q, hq⟩ : ∃ q, bs (wrT x.k (bs x.t).data.toList) = q := ⟨_, rfl⟩
        have hq62 : q.size ≤ 62 := by rw [← hq]; exact (wr_size hr).1
        have HQ := Lib.hid hq
        have HYW := Lib.hid (show (wrK x).length = q.size by rw [← hq]; rfl)
        clear hr hq
        have KB := Lib.hid (boxT_new x wr)
        go_wp2_with fail
        refine (istok_any x.k x.l (bs x.t) _ (by unfold maxLen; omega)).mono ?_
        rintro e w1 ⟨rfl, hb2⟩
        rw [HR.out]
        have HB2 := Lib.hid (btwo (btwo HB.out (bnew _ _)) hb2)
        have KB2 := Lib.hid (KB.out.go hb2)
        obtain ⟨k0, k1, k2, k3⟩ := KB2.out.facts
        clear hb2
        by_cases hk0 : k = 0
        · subst hk0
          have HJ2 := Lib.hid (show (joinW (L.take 1)).length = m + q.size by
            have h0 : m = 0 := by rw [← HJ.out, List.take_zero]; rfl
            rw [joinW_first HX.out, HYW.out, h0, Nat.zero_add])
          go_wp2_with fail
          refine (written_any x.k x.l (bs x.t) _ hxs).mono ?_
          rintro e w2 ⟨rfl, hb3⟩
          have HB3 := Lib.hid (btwo HB2.out hb3)
          rw [HQ.out]
          clear hb3 k0 k1 k2 k3
          go_wp2_with fail
          go_roundw
          case rel => exact ⟨1, m + q.size, by omega, by omega, rfl, by go_num, HN.out, HJ2.out, HB3.out⟩
          case measure => simp [intOf]; omega
        · have HJ2 := Lib.hid (show (joinW (L.take (k + 1))).length = m + 1 + q.size by
            rw [joinW_take HX.out (by omega), List.length_append, List.length_cons, HYW.out, HJ.out]; omega)
          have hk1 : 0 < k := by omega
          go_wp2_with fail
          refine (written_any x.k x.l (bs x.t) _ hxs).mono ?_
          rintro e w2 ⟨rfl, hb3⟩
          have HB3 := Lib.hid (btwo HB2.out hb3)
          rw [HQ.out]
          clear hb3 k0 k1 k2 k3
          go_wp2_with fail
          go_roundw
          case rel => exact ⟨k + 1, m + 1 + q.size, by omega, by omega, by go_num, by go_num, HN.out, HJ2.out, HB3.out⟩
          case measure => simp [intOf]; omega
      | false =>
        have HR := Lib.hid (show rightT x.k (bs x.t).data.toList = false from hr)
        have HE := Lib.hid (write_bad (all_bad HX.out hr))
        clear hr
        go_wp2_with fail
        refine (istok_any x.k x.l (bs x.t) _ (by unfold maxLen; omega)).mono ?_
        rintro e w1 ⟨rfl, hb2⟩
        rw [HR.out]
        have HB2 := Lib.hid (btwo (btwo HB.out (bnew _ _)) hb2)
        clear hb2
        go_wp2_with fail
        go_ret2
        exact tw_post HE.out rfl HB2.out
    · have HALL2 := Lib.hid (show L.all tokR = true by
        have := HALL.out
        rwa [List.take_of_length_le (by have := HL.out; omega)] at this)
      have HJ2 := Lib.hid (show (joinW L).length = m by
        have := HJ.out
        rwa [List.take_of_length_le (by have := HL.out; omega)] at this)
      clear hbr
      by_cases hbig : 20000 < m
      · have HE := Lib.hid (write_big (L := L) HALL2.out (by rw [HJ2.out]; exact hbig))
        go_wp2
        go_ret2
        exact tw_post HE.out rfl HB.out
      · have HE := Lib.hid (write_ok (L := L) HALL2.out (by rw [HJ2.out]; exact hbig))
        have hmk := make_str (n : Int) n rfl hn
        obtain ⟨g, hg⟩ : ∃ g, g = wr.heap.size := ⟨_, rfl⟩
        have HG := Lib.hid hg
        have hgl : w.heap.size ≤ g := by omega
        have HR0 := Lib.hid (show StRow (fW L 0) n g w (wr.alloc (.cells (List.replicate n (Value.string ⟨#[]⟩)).toArray 9)) by
          have h0 := strow_new n wr
          rw [← hg] at h0
          rw [fW_zero]
          exact ⟨btwo HB.out h0.1, hgl, h0.2.2⟩)
        clear hg
        go_wp2
        rw [← HG.out]
        go_loopw [37] (fun i wr => ∃ k : Nat, k ≤ n ∧ i = .int .i64 k ∧ StRow (fW L k) n g w wr) (fun i _ => n - (intOf i).toNat)
        case atStart => exact ⟨0, Nat.zero_le _, rfl, HR0.out⟩
        case round =>
          clear HR0 HB hszr HALL hk hlt hmk
          obtain ⟨k, hk, rfl, hrow⟩ := hrel
          have HROW := Lib.hid hrow
          have hszr := hrow.1.size
          have hgr := hrow.2.2.1
          by_cases hlt : k < n
          · have hkL : k < L.length := by have := HL.out; omega
            obtain ⟨b1, o1, rfl, hb1, hc1⟩ := HA.out (by omega)
            obtain ⟨x, hx⟩ : ∃ x, x = L[k] := ⟨_, rfl⟩
            have hx1 : L[k]? = some x := by rw [List.getElem?_eq_getElem hkL, hx]
            obtain ⟨xk, xt, xl⟩ := tok_load (hc1 k x hx1) hrow.1 hb1
            have hxs : (bs x.t).size ≤ 1000000 := by have := HS.out x (by rw [hx]; exact List.getElem_mem _); rw [bs_size]; exact this
            have hb1r : b1 < wr.heap.size := by omega
            have HX := Lib.hid hx1
            have KB := Lib.hid (boxT_new x wr)
            clear hx hx1 hc1 hkL hrow
            go_wp2_with fail
            refine (written_any x.k x.l (bs x.t) _ hxs).mono ?_
            rintro e w2 ⟨rfl, hb3⟩
            have HR2 := Lib.hid ((HROW.out.go (bnew _ _)).go hb3)
            have hc := HR2.out.2.2.2.1 k hlt
            have hf := HR2.out.2.2.2.2 k hlt
            have hgw := HR2.out.2.2.1
            have HR3 := Lib.hid (HR2.out.set (f' := fW L (k + 1)) hlt (fun j hj => fW_same L hj) (fW_new HX.out))
            clear hb3
            go_wp2_with fail
            go_roundw
            case rel => exact ⟨k + 1, by omega, by go_num, HR3.out⟩
            case measure => simp [intOf]; omega
          · obtain rfl : k = n := by omega
            have hB := hrow.1
            clear hrow
            by_cases hn0 : 0 < k
            · go_wp2_with fail
              have hcj : ∀ (j : Nat) (y : ByteArray), (L.map (fun x => bs (wrK x)))[j]? = some y → wr.cell? ⟨g, 0 + j, none⟩ = some (.string y) := fun j y hj => by
                obtain ⟨h1, h2⟩ := fW_list L HL.out j y hj
                rw [Nat.zero_add, HROW.out.2.2.2.1 j h1, h2]
              have hlen : (L.map (fun x => bs (wrK x))).length = k := by rw [List.length_map]; exact HL.out.symm
              have hjn := strings_join2 g 0 k k (L.map (fun x => bs (wrK x))) (⟨#[32]⟩ : ByteArray) wr hcj hgr hlen (by omega) (Nat.le_refl _) (by rw [join_bs, HJ2.out]; omega)
              refine hjn.mono ?_
              rintro e w3 ⟨rfl, hb3⟩
              rw [join_bs]
              have HB3 := Lib.hid (btwo hB hb3)
              clear hb3 hjn hcj hlen hB
              go_wp2_with fail
              go_ret2
              exact tw_post HE.out rfl HB3.out
            · obtain rfl : k = 0 := by omega
              have HE0 := Lib.hid (show joinW L = [] by rw [List.eq_nil_of_length_eq_zero HL.out.symm]; rfl)
              go_wp2_with fail
              refine (Tryd.strings_Join_none _ _ _ _).mono ?_
              rintro e w3 ⟨rfl, rfl⟩
              go_wp2_with fail
              go_ret2
              exact tw_post HE.out (by rw [HE0.out]; rfl) hB
end Go.Proofs.YtngkhggofjeflaaDoor
