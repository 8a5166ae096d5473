/-
  join puts any words together (up to 60 words of together 500 bytes), or returns the specified error, and words finds them again: for every list of strings the statement's function answers true and leaves its argument as it was. No condition.
-/
import Derived.Test.YtpmdfpfbnmoinaaWo
import Derived.ProofKit
import Derived.OpenShut
import Derived.ShutString
import Derived.ChangeOld
import Derived.Below
import Derived.SizedLaws
import Derived.SliceStrings
namespace Go.Proofs.Ytpmdfpfbnmoinaa.textJoinProof
open Go.ChangeShapes Go.WideShapes Go.ChangeAt Go.RowKit
open Go.ChangeMaps (open_string shut_string)
set_option linter.unusedVariables false

theorem own : ownKnob Try.prog.godebug = none := by kernel_rfl
theorem laidOut : laidOutB Try.prog = true := by kernel_rfl
theorem join_zero {g : Nat → List UInt8} {n : Nat} (h : (joinVal g n).2 = 0) : joinVal g n = (joinF g n, 0) ∧ jst g n = 0 ∧ (joinF g n).length ≤ 120 := by
  unfold joinVal at h ⊢
  split at h
  · exact absurd h (by assumption)
  · rename_i h1
    split at h
    · cases h
    · rename_i h2
      rw [if_neg h1, if_neg h2]
      exact ⟨rfl, by simpa using h1, by omega⟩

set_option maxHeartbeats 400000 in
theorem big_len (n c : Nat) (A : Option Addr) (w : World) (hbig : 60 < n) :
    Calls Try.prog 7 #[.slice A n c] w fun e w' => e = .returned (.bool true) ∧ Below w.heap.size w w' := by
  go_enter Try.func7, Try.ntmps7
  go_wp2_with fail
  refine (awake_any _).mono ?_
  rintro e w1 ⟨rfl, hb1⟩
  go_wp2_with fail
  refine (awake_any _).mono ?_
  rintro e w2 ⟨rfl, hb2⟩
  go_wp2_with fail
  go_ret
  exact ⟨rfl, btwo hb1 hb2⟩
theorem byte_in {o x : ByteArray} {a b : Nat} (h : List.take (b - a) (List.drop a o.data.toList) = x.data.toList) : o.extract a b = x := by
  obtain ⟨⟨y⟩⟩ := x
  have : (o.extract a b).data.toList = y := by simpa using h
  exact of_list this
set_option maxHeartbeats 4000000 in
theorem walk (n c : Nat) (f : Nat → ByteArray) (A : Option Addr) (w : World) (hnc : n ≤ c) (hA : StrArg w A n f) :
    Calls Try.prog 7 #[.slice A n c] w fun e w' => e = .returned (.bool true) ∧ Below w.heap.size w w' := by
  by_cases hbig : 60 < n
  · exact big_len n c A w hbig
  · have hn : n ≤ 60 := by omega
    have HA := Lib.hid hA
    clear hA
    go_enter Try.func7, Try.ntmps7
    go_wp2_with fail
    refine (awake_any _).mono ?_
    rintro e w1 ⟨rfl, hb1⟩
    have HA1 := Lib.hid (StrArg.below HA.out hb1)
    have HB1 := Lib.hid hb1
    clear hb1 HA
    go_wp2_with fail
    refine (sum_any n f A c _ hn HA1.out).mono ?_
    rintro e w1' ⟨T, rfl, hT, rfl⟩
    have HT := Lib.hid hT
    clear hT
    by_cases hbt : 500 < T
    · go_wp2_with fail
      refine (awake_any _).mono ?_
      rintro e w2 ⟨rfl, hb2⟩
      go_wp2_with fail
      go_ret
      exact ⟨rfl, btwo HB1.out hb2⟩
    · have hl : (joinF (lists f) n).length ≤ 500 := by have := joinF_len (lists f) n; rw [← HT.out (by omega)] at this; omega
      go_wp2_with fail
      refine (clone_any n c f A _ (by omega) HA1.out).mono ?_
      rintro e w2 ⟨A', c', rfl, hnc', hA2, hb2⟩
      have HA2 := Lib.hid (StrArg.below HA1.out hb2)
      have HB2 := Lib.hid (btwo HB1.out hb2)
      have HC2 := Lib.hid hA2
      clear hb2 hA2 HA1 HB1
      go_wp2_with fail
      refine (tjoin_any n c' f A' _ hn hnc' HC2.out hl).mono ?_
      rintro e w3 ⟨rfl, hb3⟩
      have HA3 := Lib.hid (StrArg.below HA2.out hb3)
      have HB3 := Lib.hid (btwo HB2.out hb3)
      clear hb3 HA2 HB2 HC2
      obtain ⟨o, ho⟩ : ∃ o : ByteArray, o = ⟨(joinVal (lists f) n).1.toArray⟩ := ⟨_, rfl⟩
      obtain ⟨x, hx⟩ : ∃ x, x = (joinVal (lists f) n).2 := ⟨_, rfl⟩
      have HO := Lib.hid ho
      have HX := Lib.hid hx
      clear ho hx
      rw [← HO.out, ← HX.out]
      go_wp2_with fail
      refine (rjoin_any n c f A _ hn hnc HA3.out hl).mono ?_
      rintro e w4 ⟨rfl, hb4⟩
      have HA4 := Lib.hid (StrArg.below HA3.out hb4)
      have HB4 := Lib.hid (btwo HB3.out hb4)
      clear hb4 HA3 HB3
      rw [← HO.out, ← HX.out]
      by_cases hx0 : x = 0
      · subst hx0
        have hval : joinVal (lists f) n = (joinF (lists f) n, 0) ∧ jst (lists f) n = 0 ∧ (joinF (lists f) n).length ≤ 120 := join_zero HX.out.symm
        obtain ⟨v1, v2, v3⟩ := hval
        have ho : o.data.toList = joinF (lists f) n := by rw [HO.out, v1]
        obtain ⟨s1, s2⟩ := spans_joined (lists f) n (jst_ok v2) v3
        rw [← ho] at s1 s2 v3
        have hos : o.size ≤ 120 := v3
        have HOL := Lib.hid ho
        have HS1 := Lib.hid s1
        have HS2 := Lib.hid s2
        have HS3 := Lib.hid (show (spansOf o.data.toList).length = n by rw [s2, spansJ_len])
        clear v1 v2 v3 ho s1 s2 HO HX
        go_wp2_with fail
        refine (twords_any o _ (by unfold maxLen; omega)).mono ?_
        rintro e w5 ⟨D, d, rfl, hsp, hb5⟩
        rw [HS1.out, HS3.out]
        have HA5 := Lib.hid (StrArg.below HA4.out hb5)
        have HB5 := Lib.hid (btwo HB4.out hb5)
        have HD5 := Lib.hid (SpansAt.reads hsp)
        clear hb5 hsp HA4 HB4
        go_wp2_with fail
        go_loopw [71] (fun i wr => ∃ k : Nat, k ≤ n ∧ i = .int .i64 (k : Int) ∧ Below w5.heap.size w5 wr) (fun i _ => n - (intOf i).toNat)
        case atStart => exact ⟨0, Nat.zero_le _, rfl, Below.refl _ _⟩
        case round =>
          obtain ⟨k, hk, rfl, hat⟩ := hrel
          have HAT := Lib.hid hat
          by_cases hlt : k < n
          · obtain ⟨g, rfl, hg, hcc⟩ := (SpansIn.below HD5.out hat) (by rw [HS3.out]; omega)
            obtain ⟨c1, c2⟩ := hcc k (by rw [HS3.out]; exact hlt)
            obtain ⟨p1, p2⟩ := span_in (s := o) (j := k) (by rw [HS3.out]; exact hlt)
            obtain ⟨b0, off, rfl, hg0, hca⟩ := (StrArg.below HA5.out hat).2 (by omega)
            have c5 := hca k hlt
            obtain ⟨a, ha⟩ : ∃ a, a = (sp (spansOf o.data.toList) k).1 := ⟨_, rfl⟩
            obtain ⟨b, hbb⟩ : ∃ b, b = (sp (spansOf o.data.toList) k).2 := ⟨_, rfl⟩
            have hw : List.take (b - a) (List.drop a o.data.toList) = (f k).data.toList := by
              rw [ha, hbb, HS2.out, spansJ_at _ hlt, HOL.out]; exact cut_word (lists f) hlt
            rw [← ha] at c1 p1
            rw [← hbb] at c2 p1 p2
            obtain ⟨y, hy⟩ : ∃ y, y = f k := ⟨_, rfl⟩
            rw [← hy] at c5 hw
            have t0 : decide ((a : Int) < 0) = false := by simp
            have t1 : decide (o.size < b) = false := by simp; omega
            have t2 : decide (b < a) = false := by simp; omega
            have i1 : (0 : Int) ≤ (a : Int) := by omega
            have i2 : (a : Int) ≤ (b : Int) := by omega
            have i3 : (b : Int) ≤ (o.size : Int) := by omega
            have j1 : (0 : Int) ≤ (k : Int) := by omega
            have j2 : (k : Int) < (n : Int) := by omega
            have HW := Lib.hid hw
            clear hcc hca ha hbb hw hy hat
            have t3 : ((o.extract a b).toList == y.toList) = true := by rw [byte_in HW.out]; simp
            go_wp2
            go_quiet (fail)
            go_wp2
            go_roundw
            case rel => exact ⟨k + 1, by omega, by go_num, bdr (btwo HAT.out ((Below.refl _ _).alloc (Nat.le_refl _) _)) _⟩
            case measure => simp [intOf]; omega
          · clear hat
            go_wp2
            go_ret
            exact ⟨rfl, btwo HB5.out HAT.out⟩
      · have hxf : (x == 0) = false := by simp [hx0]
        have hxf2 : (x != 0) = true := by simp [hx0]
        clear hx0
        go_wp2_with fail
        go_ret
        exact ⟨rfl, HB4.out⟩

theorem weights_in {H : Type} {P : Program} {e : TypeId} : ∀ {l : List (DataW H)} {d : DataW H}, d ∈ l → ∀ n ∈ d.weights P e, n ∈ DataW.weightsAll P e l
  | [], d, hd, n, hn => by cases hd
  | x :: r, d, hd, n, hn => by
    simp only [DataW.weightsAll, List.mem_append]
    rcases List.mem_cons.1 hd with rfl | h
    · exact Or.inl hn
    · exact Or.inr (weights_in h n hn)
theorem sized_elem {H : Type} {P : Program} {ts : List TypeId} {ds : List (DataW H)} (h : (DataW.weightsEach P ts ds).all (· ≤ reachBytes) = true) {j : Nat} {t e : TypeId} {elems spare : List (DataW H)} {l : List UInt8}
    (ht : ts[j]? = some t) (hd : ds[j]? = some (.slice elems spare)) (hu : P.underlying t = some (.slice e)) (hx : DataW.lit (.string l) ∈ elems) : l.length ≤ reachBytes := by
  refine of_decide_eq_true (List.all_eq_true.1 h _ (DataW.weights_mem_each ht hd _ ?_))
  simp only [DataW.weights, hu, List.mem_cons, List.mem_append]
  exact Or.inr (Or.inl (weights_in hx _ (by simp [DataW.weights])))
theorem Try.cellsS : Try.prog.cellsOf 9 = 1 := by kernel_rfl
theorem open_list {H : Type} {enc : TypeId × Value → H} {W : World} {a0 : Option Addr} {len cap fuel : Nat} {d : DataW H} {p : List MemPlace} {ts : List TypeId}
    (hf : DataW.trod enc Try.prog W 0 (fun _ => true) true fuel 36 (Value.slice a0 len cap).cells.toList = some (d, p)) (hlt : ∀ x ∈ p, x.block < W.heap.size)
    (hsz : (DataW.weightsEach Try.prog (36 :: ts) [d]).all (· ≤ reachBytes) = true) : ∃ f, len ≤ cap ∧ StrArg W a0 len f := by
  rcases open_strings Try.underlying36 Try.underlying9 Try.cellsS hf with ⟨hcs, _⟩ | ⟨x, l, c, ss, hcs, _, hl, hm, hz, hx, hcell, hws⟩
  · simp [Value.cells] at hcs
    obtain ⟨rfl, rfl, rfl⟩ := hcs
    exact ⟨fun _ => ⟨#[]⟩, Nat.le_refl _, fun i hi => by omega, fun h => by omega⟩
  · simp [Value.cells] at hcs
    obtain ⟨rfl, rfl, rfl⟩ := hcs
    simp only [if_true] at hz
    simp only [Prod.mk.injEq] at hx
    obtain ⟨hd, hp⟩ := hx
    refine ⟨fun i => ss.getD i ByteArray.empty, hl, fun i hi => ?_, fun h0 => ?_⟩
    · have hi' : i < ss.length := by omega
      have hmem : DataW.lit (H := H) (.string (ss.getD i ByteArray.empty).data.toList) ∈ strs (H := H) (ss.take len) := by
        unfold strs
        refine List.mem_map.2 ⟨ss.getD i ByteArray.empty, ?_, rfl⟩
        have h1 : ss.getD i ByteArray.empty = ss[i] := by simp [hi']
        rw [h1]
        exact List.mem_iff_getElem.2 ⟨i, by rw [List.length_take]; omega, by simp⟩
      have := sized_elem hsz (j := 0) (t := 36) (e := 9) rfl (by rw [hd]; rfl) Try.underlying36 hmem
      have h2 : (ss.getD i ByteArray.empty).size = (ss.getD i ByteArray.empty).data.toList.length := rfl
      rw [h2]
      have h3 := reachBytes_lt
      omega
    · obtain ⟨b, off, spot⟩ := x
      have hspot : spot = none := by simpa [Addr.add] using World.cell?_spot (hcell 0 (by omega))
      subst hspot
      refine ⟨b, off, rfl, ?_, fun i hi => ?_⟩
      · rw [hp] at hlt
        exact hlt (.cell b off) (MemPlace.mem_row.2 ⟨0, by omega, by simp⟩)
      · have := hcell i (by omega)
        rw [show (⟨b, off, none⟩ : Addr).add i = ⟨b, off + i, none⟩ from by unfold Addr.add; split <;> simp_all] at this
        exact this

set_option maxRecDepth 100000 in
theorem lifted (os : Os) (started : os.Started) (H : Type) (enc : TypeId × Value → H) :
    ReturnsInHanded {} Try.checked os 7 .any (Rows.textJoinSpec.pre6 enc Try.prog Try.f7 Rows.textJoinRow.domain false) (Rows.textJoinSpec.post enc Try.prog Try.f7 false true false false) := by
  refine returnsInHanded_of_change_sized (C := Try.checked) own started (by kernel_rfl) Try.func7
    (ChangeSpec.witness6 (enc := enc) (C := Try.checked) false ⟨#[], #[.slice none 0 0], []⟩ 8 (by kernel_rfl) (by kernel_rfl) (by kernel_rfl) (by kernel_rfl)) ?_
  intro W base args ds gs before hval0 hW hcnd hsz0 _
  have hsz : (DataW.weightsEach Try.prog (Try.f7.params.toList ++ Rows.textJoinSpec.plain.varTypes Try.prog) (ds ++ gs)).all (· ≤ reachBytes) = true := hsz0
  clear hsz0
  have hval : ∀ (j : Nat) t v, Try.f7.params[j]? = some t → args[j]? = some v → Value.okWide Try.prog W .any base t v := hval0
  have hW' := hW
  obtain ⟨p, q, hA0, hV, rfl, hfz, hnd⟩ := hW
  have hA : DataW.TrodAll enc Try.prog W 0 (fun _ => true) true Try.f7.params.toList args.toList ds p := hA0
  rw [Try.params7] at hA hval hsz
  obtain ⟨v0, vs0, d0, ds0, p0, q0, hargs, rfl, rfl, h0, r0⟩ := trodAll_cons hA
  obtain ⟨rfl, rfl, rfl⟩ := trodAll_nil r0
  obtain rfl : args = #[v0] := by cases args; simp_all
  obtain ⟨rfl, rfl⟩ := trodVars_none hV
  obtain ⟨a0, len0, cap0, rfl⟩ := okWide_slice Try.underlying36 (hval 0 36 v0 rfl rfl)
  have k0 := h0
  have lt0 : ∀ x ∈ p0, x.block < W.heap.size := by obtain ⟨m, hm⟩ := k0; exact DataW.trod_lt m _ _ _ hm
  obtain ⟨f, hlc, hS⟩ : ∃ f, len0 ≤ cap0 ∧ StrArg W a0 len0 f := by
    obtain ⟨fuel, hf⟩ := h0
    exact open_list hf lt0 hsz
  clear hA0 hval0
  refine (walk len0 cap0 f a0 W hlc hS).mono fun e W' ⟨he, bel⟩ => ?_
  subst he
  exact ⟨_, rfl, _, _, _, [], _, [], hW', trodAll_mk1 (shut_bool Try.underlying4 _), (trodAll_cons_mk (Below.trod laidOut (by kernel_rfl) (of_decide_eq_true (by kernel_rfl)) k0 bel lt0) trodAll_mk0), rfl, bel.frame _, fun h => by cases h⟩

theorem over : Rows.textJoinRow.holds Try.pinned (OpenSpec.ofChange Rows.textJoinSpec) :=
  OpenClaim.holds_of_wide 7 Try.f7 rfl rfl rfl rfl rfl rfl rfl ⟨rfl, rfl, rfl, rfl, rfl⟩ rfl rfl rfl rfl rfl (by kernel_rfl) Try.func7 (by kernel_rfl)
    (of_decide_eq_true (by kernel_rfl)) (by unfold Func.isWrapper; rw [if_neg (of_decide_eq_false (by kernel_rfl))]; exact ⟨rfl, rfl⟩)
    (fun os started H enc _ => lifted os started H enc)

theorem proved : Rows.TextJoinSaid := over
#print axioms proved

end Go.Proofs.Ytpmdfpfbnmoinaa.textJoinProof
