/- What the statement about white space between tokens answers: true, whatever the text and the choices. -/
import Derived.Test.YtngkhggofjeflaaDoorKs
namespace Go.Proofs.YtngkhggofjeflaaDoor
open Go.RowKit
set_option linter.unusedVariables false
set_option maxRecDepth 100000

/-- A slice that reads as bytes. -/
def BytesIn (w : World) (A : Option Addr) (m : Nat) (ch : Nat → Int) : Prop :=
  (∀ j, 0 ≤ ch j ∧ ch j ≤ 255) ∧ (0 < m → ∃ b off, A = some ⟨b, off, none⟩ ∧ b < w.heap.size ∧ ∀ j, j < m → w.cell? ⟨b, off + j, none⟩ = some (.int .u8 (ch j)))
theorem BytesIn.below {w w' : World} {A : Option Addr} {m : Nat} {ch : Nat → Int} (h : BytesIn w A m ch) (hb : Below w.heap.size w w') : BytesIn w' A m ch := by
  refine ⟨h.1, fun h0 => ?_⟩
  obtain ⟨b, off, e, hlt, hc⟩ := h.2 h0
  exact ⟨b, off, e, Nat.lt_of_lt_of_le hlt hb.size, fun j hj => (hb.cell (p := ⟨b, off + j, none⟩) hlt).trans (hc j hj)⟩
def fCh (ch : Nat → Int) (m i : Nat) : Nat := (ch (i % m) % 4).toNat
theorem fCh_lt (ch : Nat → Int) (m i : Nat) : fCh ch m i < 4 := by unfold fCh; omega
def lnCells (f : Nat → Nat) (k : Nat) : List Value := (List.range k).map fun i => .int .i64 (lnN f (i + 1))
theorem lnCells_succ (f : Nat → Nat) (k : Nat) : lnCells f (k + 1) = lnCells f k ++ [.int .i64 (lnN f (k + 1))] := by simp [lnCells, List.range_succ]
theorem lnCells_len (f : Nat → Nat) (k : Nat) : (lnCells f k).length = k := by simp [lnCells]
theorem int_info : (Tryd.prog.info? 3).map (fun i => (i.zero, i.size, i.bytes)) = some (some (.int .i64 0), 1, 8) := by kernel_rfl
theorem one_num (x : Int) : ∀ u ∈ [Value.int .i64 x], u.oneCell' = true := by
  intro u hu; simp at hu; subst hu; rfl
theorem write_one {x : Tok} (h : tokR x = true) : writeV [x] = (wrK x, 0) := by
  have h1 : ([x] : List Tok).all tokR = true := by simp [h]
  have h2 := (wr_size (show rightT x.k x.t = true from h)).1
  have h3 : (joinW [x]).length ≤ 62 := by rw [joinW_one]; exact h2
  rw [write_ok h1 (by omega), joinW_one]
theorem toksIn_new {w : World} {g : Nat} (hg : w.heap.size = g) (x : Tok) : ToksIn (w.alloc (.cells #[.int .i64 x.k, .string (bs x.t), .int .i64 x.l] 29)) (some ⟨g, 0, none⟩) [x] := by
  intro _
  subst hg
  refine ⟨w.heap.size, 0, rfl, by simp, fun j y hj => ?_⟩
  match j, hj with
  | 0, hj =>
    simp at hj; subst hj
    refine ⟨?_, ?_, ?_⟩ <;> simp [World.cell?_alloc_mark]
/-- What the loop has made of the first k tokens. -/
def SpRel (L : List Tok) (f : Nat → Nat) (w : World) (k : Nat) (v1 v2 v3 : Value) (wr : World) : Prop :=
  ∃ (o : ByteArray) (l0 : Int), v1 = .string o ∧ o.data.toList = spN f L k ∧ v2 = .int .i64 l0 ∧ l0 = lnN f k ∧ wr.ownsRow w.heap.size 3 1 v3 k (lnCells f k) ∧ Below w.heap.size w wr

theorem sp_next {L : List Tok} {f : Nat → Nat} {k v : Nat} {x : Tok} (hx : L[k]? = some x) (hf : f k = v) {o b q : ByteArray} (ho : o.data.toList = spN f L k) (hb : b = bs (btw v)) (hq : q = bs (wrK x)) : (o ++ (b ++ q)).data.toList = spN f L (k + 1) := by
  rw [cat_any, cat_any, ho, hb, hq, bs_list, bs_list, spN, hf, hx]; rfl
theorem ln_next {f : Nat → Nat} {k v : Nat} (hf : f k = v) {l0 : Int} (hl : l0 = lnN f k) {c : Nat} (hc : feeds (btw v) = c) : l0 + (c : Int) = lnN f (k + 1) := by
  rw [lnN, hf, hc, hl]
theorem sp_size {L : List Tok} (hL : L.all tokR = true) {f : Nat → Nat} {o : ByteArray} {k : Nat} (hk : k ≤ L.length) (h : o.data.toList = spN f L k) : o.size ≤ 76 * k := by
  have := spN_len f L hL k hk
  rw [← h, sizeB] at this; exact this
theorem box_ne {wr : World} {base n sz g : Nat} {e : TypeId} {v : Value} {xs : List Value} (h : wr.ownsRow base e sz v n xs) : some wr.heap.size ≠ v.ownBlock := by
  intro e2
  have := (h.lt wr.heap.size e2.symm).2
  omega
theorem box_after {wr w3 W w4 : World} {x : Tok} {base n sz : Nat} {e : TypeId} {v : Value} {xs : List Value} (hg : W.grownBy w4 v.ownBlock) (ho : wr.ownsRow base e sz v n xs) (hb : Below w3.heap.size w3 W) (hx : BoxT wr.heap.size x w3) :
    w4.cell? ⟨wr.heap.size, 0, none⟩ = some (.int .i64 x.k) ∧ w4.cell? ⟨wr.heap.size, 1, none⟩ = some (.string (bs x.t)) ∧ w4.cell? ⟨wr.heap.size, 2, none⟩ = some (.int .i64 x.l) ∧ w3.heap.size ≤ w4.heap.size ∧ wr.heap.size < w4.heap.size := by
  obtain ⟨h0, h1, h2, h3⟩ := hx.facts
  have hW := hb.size
  have hne : some wr.heap.size ≠ v.ownBlock := by
    intro e2
    have := (ho.lt wr.heap.size e2.symm).2
    omega
  have hlt : wr.heap.size < W.heap.size := by omega
  have h4 := hg.size
  refine ⟨?_, ?_, ?_, by omega, by omega⟩
  · exact (hg.cell_far ⟨wr.heap.size, 0, none⟩ hlt hne).trans ((hb.cell (p := ⟨wr.heap.size, 0, none⟩) h3).trans h0)
  · exact (hg.cell_far ⟨wr.heap.size, 1, none⟩ hlt hne).trans ((hb.cell (p := ⟨wr.heap.size, 1, none⟩) h3).trans h1)
  · exact (hg.cell_far ⟨wr.heap.size, 2, none⟩ hlt hne).trans ((hb.cell (p := ⟨wr.heap.size, 2, none⟩) h3).trans h2)
/-- A row of the call's own that reads as line numbers. -/
def LnsIn (f : Nat → Nat) (k : Nat) (v : Value) (w : World) : Prop :=
  0 < k → ∃ g cap, v = .slice (some ⟨g, 0, none⟩) k cap ∧ g < w.heap.size ∧ ∀ j, j < k → w.cell? ⟨g, j, none⟩ = some (.int .i64 (lnN f (j + 1)))
theorem LnsIn.below {f : Nat → Nat} {k : Nat} {v : Value} {w w' : World} (h : LnsIn f k v w) (hb : Below w.heap.size w w') : LnsIn f k v w' := by
  intro h0
  obtain ⟨g, cap, e, hlt, hc⟩ := h h0
  exact ⟨g, cap, e, Nat.lt_of_lt_of_le hlt hb.size, fun j hj => (hb.cell (p := ⟨g, j, none⟩) hlt).trans (hc j hj)⟩
theorem own_ints {f : Nat → Nat} {k base : Nat} {e : TypeId} {v : Value} {w : World} (h : w.ownsRow base e 1 v k (lnCells f k)) : LnsIn f k v w := by
  intro h0
  obtain ⟨g, cap, rfl, hb, hlt⟩ := h.form h0
  refine ⟨g, cap, rfl, hlt, fun j hj => ?_⟩
  have := h.cellAt j (by omega)
  rw [this]
  unfold lnCells
  simp [hj]
theorem same_tk (f : Nat → Nat) (L : List Tok) : sameL L (tkN f L L.length) = true := by
  refine sameL_is.2 ⟨(tkN_len f L _ (Nat.le_refl _)).symm, fun j x y hx hy => ?_⟩
  obtain ⟨hj, e⟩ := List.getElem?_eq_some_iff.1 hx
  have := tkN_at f L _ (Nat.le_refl _) j hj hj
  rw [this] at hy
  rw [← Option.some.inj hy, ← e]
  exact sameT_is.2 ⟨rfl, rfl⟩
theorem cnt1_any (s : ByteArray) (c : UInt8) (w : World) : Calls Tryd.prog 22 #[.string s, .string ⟨#[c]⟩] w fun e w' => e = .returned (.int .i64 (Lib.countByte s.data.toList c)) ∧ w = w' :=
  (Tryd.strings_Count_one s c w).mono fun _ _ ⟨a, b⟩ => ⟨a, b.symm⟩
theorem box_far {w w' : World} {r : Option Nat} {g i : Nat} {u : Value} (hg : w.grownBy w' r) (hlt : g < w.heap.size) (hne : some g ≠ r) (h : w.cell? ⟨g, i, none⟩ = some u) : w'.cell? ⟨g, i, none⟩ = some u :=
  (hg.cell_far ⟨g, i, none⟩ hlt hne).trans h
theorem bt_lit : (bs (btw 0) = ⟨#[32]⟩) ∧ (bs (btw 1) = ⟨#[10]⟩) ∧ (bs (btw 2) = ⟨#[9, 35, 32, 97, 32, 34, 99, 111, 109, 109, 101, 110, 116, 10]⟩) ∧ (bs (btw 3) = ⟨#[32, 13, 10, 10, 32]⟩) := ⟨rfl, rfl, rfl, rfl⟩

set_option maxHeartbeats 16000000 in
theorem lawspaced_any (s : ByteArray) (m cc : Nat) (ch : Nat → Int) (B : Option Addr) (w : World) (hs : s.size ≤ maxLen) (hm : m ≤ 1000000000000000) (hB : BytesIn w B m ch) :
    Calls Tryd.prog 6 #[.string s, .slice B m cc] w fun e w' => e = .returned (.bool true) ∧ Below w.heap.size w w' := by
  by_cases hbig : 2000 < s.size
  · clear hB
    go_enter Tryd.func6, Tryd.ntmps6
    go_wp2_with fail
    refine (awake_any _).mono ?_
    rintro e w1 ⟨rfl, hb1⟩
    go_wp2_with fail
    refine (awake_any _).mono ?_
    rintro e w2 ⟨rfl, hb2⟩
    go_wp2_with fail
    go_ret
    exact ⟨rfl, btwo hb1 hb2⟩
  · by_cases hm0 : m = 0
    · clear hB
      subst hm0
      go_enter Tryd.func6, Tryd.ntmps6
      go_wp2_with fail
      refine (awake_any _).mono ?_
      rintro e w1 ⟨rfl, hb1⟩
      go_wp2_with fail
      refine (awake_any _).mono ?_
      rintro e w2 ⟨rfl, hb2⟩
      go_wp2_with fail
      go_ret
      exact ⟨rfl, btwo hb1 hb2⟩
    · by_cases hm2 : 200 < m
      · clear hB
        have em : ((m : Int) == 0) = false := by simp; omega
        go_enter Tryd.func6, Tryd.ntmps6
        go_wp2_with fail
        refine (awake_any _).mono ?_
        rintro e w1 ⟨rfl, hb1⟩
        go_wp2_with fail
        refine (awake_any _).mono ?_
        rintro e w2 ⟨rfl, hb2⟩
        go_wp2_with fail
        go_ret
        exact ⟨rfl, btwo hb1 hb2⟩
      · have em : ((m : Int) == 0) = false := by simp; omega
        have HBY := Lib.hid hB
        obtain ⟨L, ln, er, hv⟩ : ∃ L ln er, tokV s.data.toList = (L, ln, er) := ⟨_, _, _, rfl⟩
        have HV := Lib.hid hv
        have hL := tok_lenS hv
        obtain ⟨n, hn⟩ : ∃ n, n = L.length := ⟨_, rfl⟩
        have HN := Lib.hid hn
        have hn2 : n ≤ 2000 := by omega
        clear hB
        by_cases her : er = 0
        · subst her
          have HALL := Lib.hid (again_write hv (by omega)).2.1
          obtain ⟨i0, hi, hz0, hz1, hz2⟩ := info_parts int_info
          obtain ⟨f, hf⟩ : ∃ f, f = fCh ch m := ⟨_, rfl⟩
          have HF := Lib.hid hf
          clear hv hL hn hf
          go_enter Tryd.func6, Tryd.ntmps6
          go_wp2_with fail
          refine (awake_any _).mono ?_
          rintro e w1 ⟨rfl, hb1⟩
          have HB1 := Lib.hid hb1
          clear hb1
          go_wp2_with fail
          refine (rtokens_is HV.out _ hs).mono ?_
          rintro e w2 ⟨A1, n1, c1, rfl, hn1, hc1, ht1, hb2⟩
          obtain rfl : n1 = n := by rw [hn1, HN.out]
          have HT1 := Lib.hid ht1
          have HB2 := Lib.hid (btwo HB1.out hb2)
          have HBY2 := Lib.hid ((HBY.out.below HB1.out).below hb2)
          clear ht1 hb2 hn1
          go_wp2
          go_loopw [8, 9, 10, 49] (fun v1 v2 v3 i wr => ∃ k : Nat, k ≤ n1 ∧ i = .int .i64 k ∧ SpRel L f w2 k v1 v2 v3 wr) (fun _ _ _ i _ => n1 - (intOf i).toNat)
          case atStart => exact ⟨0, Nat.zero_le _, rfl, ⟨#[]⟩, 1, rfl, rfl, rfl, rfl, ⟨by rfl, Or.inl ⟨rfl, rfl⟩⟩, Below.refl _ _⟩
          case round =>
            obtain ⟨k, hk, rfl, o, l0, rfl, ho, rfl, hl0, hown, hbr⟩ := hrel
            have HO := Lib.hid ho
            have HL0 := Lib.hid hl0
            have HOWN := Lib.hid hown
            have HBR := Lib.hid hbr
            have hszr := hbr.size
            have hos := sp_size HALL.out (by have := HN.out; omega) ho
            have hln := lnN_le f k
            rw [← hl0] at hln
            obtain ⟨hln0, hln1⟩ := hln
            clear ho hl0 hown
            by_cases hlt : k < n1
            · have hkL : k < L.length := by have := HN.out; omega
              obtain ⟨b1, o1, rfl, hb1, hc1⟩ := HT1.out (by omega)
              obtain ⟨b2, o2, rfl, hb2, hc2⟩ := HBY2.out.2 (by omega)
              obtain ⟨x, hx⟩ : ∃ x, L[k]? = some x := ⟨_, List.getElem?_eq_getElem hkL⟩
              obtain ⟨xk, xt, xl⟩ := tok_load (hc1 k x hx) hbr hb1
              have hxr : tokR x = true := List.all_eq_true.1 HALL.out x (List.mem_of_getElem? hx)
              have HXR := Lib.hid hxr
              obtain ⟨q, hq⟩ : ∃ q, q = bs (wrK x) := ⟨_, rfl⟩
              have HQ := Lib.hid hq
              have hqs : q.size ≤ 62 := by rw [hq]; exact (wr_size hxr).1
              have hxts : x.t.length ≤ 60 := (wr_size hxr).2
              have HX := Lib.hid hx
              obtain ⟨r, hr⟩ : ∃ r, r = k % m := ⟨_, rfl⟩
              have HR := Lib.hid hr
              have hrm : r < m := by rw [hr]; exact Nat.mod_lt _ (by omega)
              have hrc : ((k : Int) % (m : Int)) = (r : Int) := by rw [hr]; rfl
              obtain ⟨y, hy⟩ : ∃ y, y = ch r := ⟨_, rfl⟩
              have HYR := Lib.hid hy
              have hy01 := HBY2.out.1 r
              have yc := (hbr.cell (p := ⟨b2, o2 + r, none⟩) hb2).trans (hc2 r hrm)
              rw [← hy] at hy01 yc
              obtain ⟨hy0, hy1⟩ := hy01
              have hb1r : b1 < wr.heap.size := by omega
              have hb2r : b2 < wr.heap.size := by omega
              have hv4s : y % 4 = 0 ∨ y % 4 = 1 ∨ y % 4 = 2 ∨ y % 4 = 3 := by omega
              clear hx hc1 hc2 hkL hbr hxr hq hr hy
              rcases hv4s with hv4 | hv4 | hv4 | hv4
              · have HFK := Lib.hid (show f k = 0 by rw [HF.out]; unfold fCh; rw [← HR.out, ← HYR.out, hv4]; rfl)
                obtain ⟨bt, hbt⟩ : ∃ bt : ByteArray, bt = ⟨#[32]⟩ := ⟨_, rfl⟩
                have HBT := Lib.hid hbt
                have HBTS := Lib.hid (show bt = bs (btw 0) from hbt)
                have hbts : bt.size ≤ 14 := by rw [hbt]; decide
                obtain ⟨c, hc⟩ : ∃ c : Nat, c = 0 := ⟨_, rfl⟩
                have HC := Lib.hid (show Lib.countByte (⟨#[32]⟩ : ByteArray).data.toList 10 = c by rw [hc]; rfl)
                have hc2 : c ≤ 2 := by omega
                have HL2 := Lib.hid (ln_next (f := f) (k := k) HFK.out HL0.out (c := c) (by rw [hc]; rfl))
                have HN1 := Lib.hid (sp_next (L := L) (f := f) (k := k) HX.out HFK.out HO.out HBTS.out HQ.out)
                obtain ⟨w3, hw3⟩ : ∃ w3, w3 = (wr.alloc (.cells #[.int .i64 x.k, .string (bs x.t), .int .i64 x.l] 29)).alloc (.cells #[.string ⟨#[32]⟩, .string ⟨#[10]⟩, .string ⟨#[9, 35, 32, 97, 32, 34, 99, 111, 109, 109, 101, 110, 116, 10]⟩, .string ⟨#[32, 13, 10, 10, 32]⟩] 9) := ⟨_, rfl⟩
                have H3 := Lib.hid hw3
                have HB3 := Lib.hid (show Below wr.heap.size wr w3 by rw [hw3]; exact btwo (bnew _ _) (bnew _ _))
                have HBX := Lib.hid (show BoxT wr.heap.size x w3 by rw [hw3]; exact (boxT_new x wr).go (bnew _ _))
                have HOW3 := Lib.hid (own_go HOWN.out HB3.out)
                have hsz3 := HB3.out.size
                have hbx3 := HBX.out.facts.2.2.2
                obtain ⟨W, hW⟩ : ∃ W, W = w3.alloc (.cells #[.int .i64 (l0 + (c : Int))] 3) := ⟨_, rfl⟩
                have HW := Lib.hid hW
                have HWB := Lib.hid (show Below w3.heap.size w3 W by rw [hW]; exact bnew _ _)
                have HOW := Lib.hid (own_go HOW3.out HWB.out)
                have HNEW := Lib.hid (show ∀ (j : Nat) (u : Value), [Value.int .i64 (l0 + (c : Int))][j]? = some u → W.cell? ((⟨w3.heap.size, 0, none⟩ : Addr).add j) = some u from by rw [hW]; exact new_one rfl _ _)
                have hWs : W.heap.size = w3.heap.size + 1 := by rw [hW]; simp
                clear hbt hw3 hW hc
                go_wp2_with fail
                rw [← H3.out]
                refine (cnt1_any _ 10 _).mono ?_
                rintro e w' ⟨rfl, rfl⟩
                rw [HC.out, ← HBT.out]
                go_wp2_with (at_builtin; rw [← HW.out]; refine wpList_append_lies _ rfl (.tmp 69) (.tmp 71) _ rfl w2.heap.size 3 i0 _ 1 8 Tryd.underlying36 hi hz0 hz1 hz2 rfl (by omega) _ k (lnCells f k) rfl HOW.out ⟨w3.heap.size, 0, none⟩ 1 1 [.int .i64 (l0 + (c : Int))] rfl rfl HNEW.out (one_num _) (by omega) (by unfold maxLen; omega) (by omega) (by omega) _ rfl ?_; intro gg cap w4 hown4 hgrow hat hlt4; have HG4 := Lib.hid hgrow; have HOWN4 := Lib.hid hown4; obtain ⟨k0, k1, k2, k3, k4⟩ := box_after hgrow HOWN.out HWB.out HBX.out; clear hown4 hgrow hat)
                have HB4 := Lib.hid (show Below w2.heap.size w2 w4 from (btwo (btwo HBR.out HB3.out) HWB.out).grown HG4.out (btwo (btwo HBR.out HB3.out) HWB.out).size (fun j hj => (HOW.out.lt j hj).1))
                refine (rwrite_is (write_one HXR.out) 1 1 _ _ rfl (by omega) (fun z hz => by rw [List.mem_singleton.1 hz]; omega) (toksIn_new rfl x)).mono ?_
                rintro e w5 ⟨rfl, hb5⟩
                rw [← HQ.out]
                have HO5 := Lib.hid (own_go (own_go HOWN4.out (bnew _ _)) hb5)
                have HB5 := Lib.hid (btwo (btwo HB4.out (bnew _ _)) hb5)
                clear hb5 k0 k1 k2
                have s1 : ∀ w : World, (Op.stringOp .add bt q).run Tryd.prog w = .ok (.string (bt ++ q)) w := fun w => run_string_add_sum w _ _ (by omega)
                have s2 : ∀ w : World, (Op.stringOp .add o (bt ++ q)).run Tryd.prog w = .ok (.string (o ++ (bt ++ q))) w := fun w => run_string_add_sum w _ _ (by rw [ByteArray.size_append]; omega)
                go_wp2_with fail
                go_roundw
                case rel => exact ⟨k + 1, by omega, by go_num, o ++ (bt ++ q), l0 + (c : Int), rfl, HN1.out, rfl, HL2.out, by rw [lnCells_succ, ← HL2.out]; exact HO5.out, HB5.out⟩
                case measure => simp [intOf]; omega
              · have HFK := Lib.hid (show f k = 1 by rw [HF.out]; unfold fCh; rw [← HR.out, ← HYR.out, hv4]; rfl)
                obtain ⟨bt, hbt⟩ : ∃ bt : ByteArray, bt = ⟨#[10]⟩ := ⟨_, rfl⟩
                have HBT := Lib.hid hbt
                have HBTS := Lib.hid (show bt = bs (btw 1) from hbt)
                have hbts : bt.size ≤ 14 := by rw [hbt]; decide
                obtain ⟨c, hc⟩ : ∃ c : Nat, c = 1 := ⟨_, rfl⟩
                have HC := Lib.hid (show Lib.countByte (⟨#[10]⟩ : ByteArray).data.toList 10 = c by rw [hc]; rfl)
                have hc2 : c ≤ 2 := by omega
                have HL2 := Lib.hid (ln_next (f := f) (k := k) HFK.out HL0.out (c := c) (by rw [hc]; rfl))
                have HN1 := Lib.hid (sp_next (L := L) (f := f) (k := k) HX.out HFK.out HO.out HBTS.out HQ.out)
                obtain ⟨w3, hw3⟩ : ∃ w3, w3 = (wr.alloc (.cells #[.int .i64 x.k, .string (bs x.t), .int .i64 x.l] 29)).alloc (.cells #[.string ⟨#[32]⟩, .string ⟨#[10]⟩, .string ⟨#[9, 35, 32, 97, 32, 34, 99, 111, 109, 109, 101, 110, 116, 10]⟩, .string ⟨#[32, 13, 10, 10, 32]⟩] 9) := ⟨_, rfl⟩
                have H3 := Lib.hid hw3
                have HB3 := Lib.hid (show Below wr.heap.size wr w3 by rw [hw3]; exact btwo (bnew _ _) (bnew _ _))
                have HBX := Lib.hid (show BoxT wr.heap.size x w3 by rw [hw3]; exact (boxT_new x wr).go (bnew _ _))
                have HOW3 := Lib.hid (own_go HOWN.out HB3.out)
                have hsz3 := HB3.out.size
                have hbx3 := HBX.out.facts.2.2.2
                obtain ⟨W, hW⟩ : ∃ W, W = w3.alloc (.cells #[.int .i64 (l0 + (c : Int))] 3) := ⟨_, rfl⟩
                have HW := Lib.hid hW
                have HWB := Lib.hid (show Below w3.heap.size w3 W by rw [hW]; exact bnew _ _)
                have HOW := Lib.hid (own_go HOW3.out HWB.out)
                have HNEW := Lib.hid (show ∀ (j : Nat) (u : Value), [Value.int .i64 (l0 + (c : Int))][j]? = some u → W.cell? ((⟨w3.heap.size, 0, none⟩ : Addr).add j) = some u from by rw [hW]; exact new_one rfl _ _)
                have hWs : W.heap.size = w3.heap.size + 1 := by rw [hW]; simp
                clear hbt hw3 hW hc
                go_wp2_with fail
                rw [← H3.out]
                refine (cnt1_any _ 10 _).mono ?_
                rintro e w' ⟨rfl, rfl⟩
                rw [HC.out, ← HBT.out]
                go_wp2_with (at_builtin; rw [← HW.out]; refine wpList_append_lies _ rfl (.tmp 69) (.tmp 71) _ rfl w2.heap.size 3 i0 _ 1 8 Tryd.underlying36 hi hz0 hz1 hz2 rfl (by omega) _ k (lnCells f k) rfl HOW.out ⟨w3.heap.size, 0, none⟩ 1 1 [.int .i64 (l0 + (c : Int))] rfl rfl HNEW.out (one_num _) (by omega) (by unfold maxLen; omega) (by omega) (by omega) _ rfl ?_; intro gg cap w4 hown4 hgrow hat hlt4; have HG4 := Lib.hid hgrow; have HOWN4 := Lib.hid hown4; obtain ⟨k0, k1, k2, k3, k4⟩ := box_after hgrow HOWN.out HWB.out HBX.out; clear hown4 hgrow hat)
                have HB4 := Lib.hid (show Below w2.heap.size w2 w4 from (btwo (btwo HBR.out HB3.out) HWB.out).grown HG4.out (btwo (btwo HBR.out HB3.out) HWB.out).size (fun j hj => (HOW.out.lt j hj).1))
                refine (rwrite_is (write_one HXR.out) 1 1 _ _ rfl (by omega) (fun z hz => by rw [List.mem_singleton.1 hz]; omega) (toksIn_new rfl x)).mono ?_
                rintro e w5 ⟨rfl, hb5⟩
                rw [← HQ.out]
                have HO5 := Lib.hid (own_go (own_go HOWN4.out (bnew _ _)) hb5)
                have HB5 := Lib.hid (btwo (btwo HB4.out (bnew _ _)) hb5)
                clear hb5 k0 k1 k2
                have s1 : ∀ w : World, (Op.stringOp .add bt q).run Tryd.prog w = .ok (.string (bt ++ q)) w := fun w => run_string_add_sum w _ _ (by omega)
                have s2 : ∀ w : World, (Op.stringOp .add o (bt ++ q)).run Tryd.prog w = .ok (.string (o ++ (bt ++ q))) w := fun w => run_string_add_sum w _ _ (by rw [ByteArray.size_append]; omega)
                go_wp2_with fail
                go_roundw
                case rel => exact ⟨k + 1, by omega, by go_num, o ++ (bt ++ q), l0 + (c : Int), rfl, HN1.out, rfl, HL2.out, by rw [lnCells_succ, ← HL2.out]; exact HO5.out, HB5.out⟩
                case measure => simp [intOf]; omega
              · have HFK := Lib.hid (show f k = 2 by rw [HF.out]; unfold fCh; rw [← HR.out, ← HYR.out, hv4]; rfl)
                obtain ⟨bt, hbt⟩ : ∃ bt : ByteArray, bt = ⟨#[9, 35, 32, 97, 32, 34, 99, 111, 109, 109, 101, 110, 116, 10]⟩ := ⟨_, rfl⟩
                have HBT := Lib.hid hbt
                have HBTS := Lib.hid (show bt = bs (btw 2) from hbt)
                have hbts : bt.size ≤ 14 := by rw [hbt]; decide
                obtain ⟨c, hc⟩ : ∃ c : Nat, c = 1 := ⟨_, rfl⟩
                have HC := Lib.hid (show Lib.countByte (⟨#[9, 35, 32, 97, 32, 34, 99, 111, 109, 109, 101, 110, 116, 10]⟩ : ByteArray).data.toList 10 = c by rw [hc]; rfl)
                have hc2 : c ≤ 2 := by omega
                have HL2 := Lib.hid (ln_next (f := f) (k := k) HFK.out HL0.out (c := c) (by rw [hc]; rfl))
                have HN1 := Lib.hid (sp_next (L := L) (f := f) (k := k) HX.out HFK.out HO.out HBTS.out HQ.out)
                obtain ⟨w3, hw3⟩ : ∃ w3, w3 = (wr.alloc (.cells #[.int .i64 x.k, .string (bs x.t), .int .i64 x.l] 29)).alloc (.cells #[.string ⟨#[32]⟩, .string ⟨#[10]⟩, .string ⟨#[9, 35, 32, 97, 32, 34, 99, 111, 109, 109, 101, 110, 116, 10]⟩, .string ⟨#[32, 13, 10, 10, 32]⟩] 9) := ⟨_, rfl⟩
                have H3 := Lib.hid hw3
                have HB3 := Lib.hid (show Below wr.heap.size wr w3 by rw [hw3]; exact btwo (bnew _ _) (bnew _ _))
                have HBX := Lib.hid (show BoxT wr.heap.size x w3 by rw [hw3]; exact (boxT_new x wr).go (bnew _ _))
                have HOW3 := Lib.hid (own_go HOWN.out HB3.out)
                have hsz3 := HB3.out.size
                have hbx3 := HBX.out.facts.2.2.2
                obtain ⟨W, hW⟩ : ∃ W, W = w3.alloc (.cells #[.int .i64 (l0 + (c : Int))] 3) := ⟨_, rfl⟩
                have HW := Lib.hid hW
                have HWB := Lib.hid (show Below w3.heap.size w3 W by rw [hW]; exact bnew _ _)
                have HOW := Lib.hid (own_go HOW3.out HWB.out)
                have HNEW := Lib.hid (show ∀ (j : Nat) (u : Value), [Value.int .i64 (l0 + (c : Int))][j]? = some u → W.cell? ((⟨w3.heap.size, 0, none⟩ : Addr).add j) = some u from by rw [hW]; exact new_one rfl _ _)
                have hWs : W.heap.size = w3.heap.size + 1 := by rw [hW]; simp
                clear hbt hw3 hW hc
                go_wp2_with fail
                rw [← H3.out]
                refine (cnt1_any _ 10 _).mono ?_
                rintro e w' ⟨rfl, rfl⟩
                rw [HC.out, ← HBT.out]
                go_wp2_with (at_builtin; rw [← HW.out]; refine wpList_append_lies _ rfl (.tmp 69) (.tmp 71) _ rfl w2.heap.size 3 i0 _ 1 8 Tryd.underlying36 hi hz0 hz1 hz2 rfl (by omega) _ k (lnCells f k) rfl HOW.out ⟨w3.heap.size, 0, none⟩ 1 1 [.int .i64 (l0 + (c : Int))] rfl rfl HNEW.out (one_num _) (by omega) (by unfold maxLen; omega) (by omega) (by omega) _ rfl ?_; intro gg cap w4 hown4 hgrow hat hlt4; have HG4 := Lib.hid hgrow; have HOWN4 := Lib.hid hown4; obtain ⟨k0, k1, k2, k3, k4⟩ := box_after hgrow HOWN.out HWB.out HBX.out; clear hown4 hgrow hat)
                have HB4 := Lib.hid (show Below w2.heap.size w2 w4 from (btwo (btwo HBR.out HB3.out) HWB.out).grown HG4.out (btwo (btwo HBR.out HB3.out) HWB.out).size (fun j hj => (HOW.out.lt j hj).1))
                refine (rwrite_is (write_one HXR.out) 1 1 _ _ rfl (by omega) (fun z hz => by rw [List.mem_singleton.1 hz]; omega) (toksIn_new rfl x)).mono ?_
                rintro e w5 ⟨rfl, hb5⟩
                rw [← HQ.out]
                have HO5 := Lib.hid (own_go (own_go HOWN4.out (bnew _ _)) hb5)
                have HB5 := Lib.hid (btwo (btwo HB4.out (bnew _ _)) hb5)
                clear hb5 k0 k1 k2
                have s1 : ∀ w : World, (Op.stringOp .add bt q).run Tryd.prog w = .ok (.string (bt ++ q)) w := fun w => run_string_add_sum w _ _ (by omega)
                have s2 : ∀ w : World, (Op.stringOp .add o (bt ++ q)).run Tryd.prog w = .ok (.string (o ++ (bt ++ q))) w := fun w => run_string_add_sum w _ _ (by rw [ByteArray.size_append]; omega)
                go_wp2_with fail
                go_roundw
                case rel => exact ⟨k + 1, by omega, by go_num, o ++ (bt ++ q), l0 + (c : Int), rfl, HN1.out, rfl, HL2.out, by rw [lnCells_succ, ← HL2.out]; exact HO5.out, HB5.out⟩
                case measure => simp [intOf]; omega
              · have HFK := Lib.hid (show f k = 3 by rw [HF.out]; unfold fCh; rw [← HR.out, ← HYR.out, hv4]; rfl)
                obtain ⟨bt, hbt⟩ : ∃ bt : ByteArray, bt = ⟨#[32, 13, 10, 10, 32]⟩ := ⟨_, rfl⟩
                have HBT := Lib.hid hbt
                have HBTS := Lib.hid (show bt = bs (btw 3) from hbt)
                have hbts : bt.size ≤ 14 := by rw [hbt]; decide
                obtain ⟨c, hc⟩ : ∃ c : Nat, c = 2 := ⟨_, rfl⟩
                have HC := Lib.hid (show Lib.countByte (⟨#[32, 13, 10, 10, 32]⟩ : ByteArray).data.toList 10 = c by rw [hc]; rfl)
                have hc2 : c ≤ 2 := by omega
                have HL2 := Lib.hid (ln_next (f := f) (k := k) HFK.out HL0.out (c := c) (by rw [hc]; rfl))
                have HN1 := Lib.hid (sp_next (L := L) (f := f) (k := k) HX.out HFK.out HO.out HBTS.out HQ.out)
                obtain ⟨w3, hw3⟩ : ∃ w3, w3 = (wr.alloc (.cells #[.int .i64 x.k, .string (bs x.t), .int .i64 x.l] 29)).alloc (.cells #[.string ⟨#[32]⟩, .string ⟨#[10]⟩, .string ⟨#[9, 35, 32, 97, 32, 34, 99, 111, 109, 109, 101, 110, 116, 10]⟩, .string ⟨#[32, 13, 10, 10, 32]⟩] 9) := ⟨_, rfl⟩
                have H3 := Lib.hid hw3
                have HB3 := Lib.hid (show Below wr.heap.size wr w3 by rw [hw3]; exact btwo (bnew _ _) (bnew _ _))
                have HBX := Lib.hid (show BoxT wr.heap.size x w3 by rw [hw3]; exact (boxT_new x wr).go (bnew _ _))
                have HOW3 := Lib.hid (own_go HOWN.out HB3.out)
                have hsz3 := HB3.out.size
                have hbx3 := HBX.out.facts.2.2.2
                obtain ⟨W, hW⟩ : ∃ W, W = w3.alloc (.cells #[.int .i64 (l0 + (c : Int))] 3) := ⟨_, rfl⟩
                have HW := Lib.hid hW
                have HWB := Lib.hid (show Below w3.heap.size w3 W by rw [hW]; exact bnew _ _)
                have HOW := Lib.hid (own_go HOW3.out HWB.out)
                have HNEW := Lib.hid (show ∀ (j : Nat) (u : Value), [Value.int .i64 (l0 + (c : Int))][j]? = some u → W.cell? ((⟨w3.heap.size, 0, none⟩ : Addr).add j) = some u from by rw [hW]; exact new_one rfl _ _)
                have hWs : W.heap.size = w3.heap.size + 1 := by rw [hW]; simp
                clear hbt hw3 hW hc
                go_wp2_with fail
                rw [← H3.out]
                refine (cnt1_any _ 10 _).mono ?_
                rintro e w' ⟨rfl, rfl⟩
                rw [HC.out, ← HBT.out]
                go_wp2_with (at_builtin; rw [← HW.out]; refine wpList_append_lies _ rfl (.tmp 69) (.tmp 71) _ rfl w2.heap.size 3 i0 _ 1 8 Tryd.underlying36 hi hz0 hz1 hz2 rfl (by omega) _ k (lnCells f k) rfl HOW.out ⟨w3.heap.size, 0, none⟩ 1 1 [.int .i64 (l0 + (c : Int))] rfl rfl HNEW.out (one_num _) (by omega) (by unfold maxLen; omega) (by omega) (by omega) _ rfl ?_; intro gg cap w4 hown4 hgrow hat hlt4; have HG4 := Lib.hid hgrow; have HOWN4 := Lib.hid hown4; obtain ⟨k0, k1, k2, k3, k4⟩ := box_after hgrow HOWN.out HWB.out HBX.out; clear hown4 hgrow hat)
                have HB4 := Lib.hid (show Below w2.heap.size w2 w4 from (btwo (btwo HBR.out HB3.out) HWB.out).grown HG4.out (btwo (btwo HBR.out HB3.out) HWB.out).size (fun j hj => (HOW.out.lt j hj).1))
                refine (rwrite_is (write_one HXR.out) 1 1 _ _ rfl (by omega) (fun z hz => by rw [List.mem_singleton.1 hz]; omega) (toksIn_new rfl x)).mono ?_
                rintro e w5 ⟨rfl, hb5⟩
                rw [← HQ.out]
                have HO5 := Lib.hid (own_go (own_go HOWN4.out (bnew _ _)) hb5)
                have HB5 := Lib.hid (btwo (btwo HB4.out (bnew _ _)) hb5)
                clear hb5 k0 k1 k2
                have s1 : ∀ w : World, (Op.stringOp .add bt q).run Tryd.prog w = .ok (.string (bt ++ q)) w := fun w => run_string_add_sum w _ _ (by omega)
                have s2 : ∀ w : World, (Op.stringOp .add o (bt ++ q)).run Tryd.prog w = .ok (.string (o ++ (bt ++ q))) w := fun w => run_string_add_sum w _ _ (by rw [ByteArray.size_append]; omega)
                go_wp2_with fail
                go_roundw
                case rel => exact ⟨k + 1, by omega, by go_num, o ++ (bt ++ q), l0 + (c : Int), rfl, HN1.out, rfl, HL2.out, by rw [lnCells_succ, ← HL2.out]; exact HO5.out, HB5.out⟩
                case measure => simp [intOf]; omega
            · obtain rfl : k = n1 := by omega
              have HLN := Lib.hid (show o.data.toList = spN f L L.length by rw [HO.out, HN.out])
              have HALR := Lib.hid (own_ints HOWN.out)
              have HT1r := Lib.hid (HT1.out.below hbr)
              have HBw := Lib.hid (btwo HB2.out hbr)
              clear hbr
              by_cases hbo : 20000 < o.size
              · have HVO := Lib.hid (tok_big (l := o.data.toList) (by rw [sizeB]; exact hbo))
                go_wp2_with fail
                refine (tokens_is HVO.out _ (by unfold maxLen; omega)).mono ?_
                rintro e w6 ⟨A6, n6, c6, rfl, hn6, hc6, ht6, hb6⟩
                have HB6 := Lib.hid (btwo HBw.out hb6)
                clear ht6 hb6
                go_wp2_with fail
                go_ret
                exact ⟨rfl, HB6.out⟩
              · have HVO := Lib.hid (show tokV o.data.toList = (tkN f L L.length, 0, 0) by rw [tok_ok (by rw [sizeB]; exact hbo), HLN.out]; exact sp_lex f HALL.out)
                have HN6 := Lib.hid (show k = (tkN f L L.length).length by rw [tkN_len f L _ (Nat.le_refl _)]; exact HN.out)
                have HSM := Lib.hid (same_tk f L)
                go_wp2_with fail
                refine (tokens_is HVO.out _ (by unfold maxLen; omega)).mono ?_
                rintro e w6 ⟨A6, n6, c6, rfl, hn6, hc6, ht6, hb6⟩
                obtain rfl : n6 = k := by rw [hn6, ← HN6.out]
                have HT6 := Lib.hid ht6
                have HT16 := Lib.hid (HT1r.out.below hb6)
                have HAL6 := Lib.hid (HALR.out.below hb6)
                have HB6 := Lib.hid (btwo HBw.out hb6)
                clear ht6 hb6 hn6
                go_wp2_with fail
                refine (rsame_any L (tkN f L L.length) n6 n6 c1 c6 A1 A6 _ HN.out HN6.out (by omega) (by omega) HT16.out HT6.out).mono ?_
                rintro e w7 ⟨rfl, hq⟩
                rw [HSM.out]
                have HT7 := Lib.hid (HT6.out.below (below_of_drewN hq))
                have HAL7 := Lib.hid (HAL6.out.below (below_of_drewN hq))
                have HB7 := Lib.hid (btwo HB6.out (below_of_drewN hq))
                clear hq
                go_wp2
                go_loopw [108] (fun i wr => ∃ j : Nat, j ≤ n6 ∧ i = .int .i64 j ∧ Below w7.heap.size w7 wr) (fun i _ => n6 - (intOf i).toNat)
                case atStart => exact ⟨0, Nat.zero_le _, rfl, Below.refl _ _⟩
                case round =>
                  obtain ⟨j, hj, rfl, hbr⟩ := hrel
                  have HBJ := Lib.hid hbr
                  have hszj := hbr.size
                  by_cases hjl : j < n6
                  · have hjL : j < L.length := by have := HN.out; omega
                    obtain ⟨b3, o3, rfl, hb3, hc3⟩ := HT7.out (by have := HN6.out; omega)
                    obtain ⟨g, cap, rfl, hgl, hgc⟩ := HAL7.out (by omega)
                    have hy := tkN_at f L _ (Nat.le_refl _) j hjL hjL
                    obtain ⟨xk, xt, xl⟩ := tok_load (hc3 j _ hy) hbr hb3
                    have hgj := (hbr.cell (p := ⟨g, j, none⟩) hgl).trans (hgc j hjl)
                    obtain ⟨z, hz⟩ : ∃ z : Int, z = lnN f (j + 1) := ⟨_, rfl⟩
                    obtain ⟨y, hyy⟩ : ∃ y, y = setL (lnN f (j + 1)) L[j] := ⟨_, rfl⟩
                    have hyl : y.l = z := by rw [hyy, hz]; rfl
                    rw [← hyy] at xk xt xl
                    rw [hyl] at xl
                    rw [← hz] at hgj
                    have hb3r : b3 < wr.heap.size := by omega
                    have hgr : g < wr.heap.size := by omega
                    clear hy hc3 hgc hz hyy hyl hbr hjL
                    go_wp2
                    try go_quiet (fail)
                    try go_wp2
                    go_roundw
                    case rel => exact ⟨j + 1, by omega, by go_num, by first | exact btwo HBJ.out (bnew _ _) | exact below_drewN (btwo HBJ.out (bnew _ _)) _⟩
                    case measure => simp [intOf]; omega
                  · have HBF := Lib.hid (btwo HB7.out hbr)
                    clear hbr
                    go_wp2_with fail
                    go_ret
                    exact ⟨rfl, HBF.out⟩
        · have e1 : (er == 0) = false := by simpa using her
          have e2 : (er != 0) = true := by simpa using her
          clear hv hL hn her
          go_enter Tryd.func6, Tryd.ntmps6
          go_wp2_with fail
          refine (awake_any _).mono ?_
          rintro e w1 ⟨rfl, hb1⟩
          have HB1 := Lib.hid hb1
          clear hb1
          go_wp2_with fail
          refine (rtokens_is HV.out _ hs).mono ?_
          rintro e w2 ⟨A1, n1, c1, rfl, hn1, hc1, ht1, hb2⟩
          have HB2 := Lib.hid (btwo HB1.out hb2)
          clear ht1 hb2
          go_wp2_with fail
          go_ret
          exact ⟨rfl, HB2.out⟩
end Go.Proofs.YtngkhggofjeflaaDoor
