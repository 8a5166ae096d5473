/-
  words returns the spans of the words of any line of up to 500 bytes, ascending and apart, or the specified error: for every string the statement's function answers true and leaves its argument as it was. No condition.
-/
import Derived.Test.YtpmdfpfbnmoinaaWi
import Derived.ProofKit
import Derived.OpenShut
import Derived.ShutString
import Derived.ChangeOld
import Derived.Below
namespace Go.Proofs.Ytpmdfpfbnmoinaa.textWordsProof
open Go.ChangeShapes Go.WideShapes Go.ChangeAt Go.RowKit
open Go.ChangeMaps (open_string shut_string)
set_option linter.unusedVariables false

theorem own : ownKnob Try.prog.godebug = none := by kernel_rfl

theorem wst_asc (F : Nat → Bool) (k : Nat) : (wst F k).1.Pairwise (fun p q => p.2 < q.1) ∧ ∀ p ∈ (wst F k).1, p.2 < (wst F k).2 := by
  induction k with
  | zero => exact ⟨List.Pairwise.nil, fun p hp => by simp [wst] at hp⟩
  | succ k ih =>
    unfold wst
    split
    · exact ih
    · split
      · rename_i hlt
        refine ⟨List.pairwise_append.2 ⟨ih.1, by simp, fun p hp q hq => ?_⟩, fun p hp => ?_⟩
        · simp only [List.mem_singleton] at hq
          subst hq
          exact ih.2 p hp
        · simp only [List.mem_append, List.mem_singleton] at hp
          rcases hp with hp | rfl
          · have := ih.2 p hp; have := (wst_le F k).1; simp only; omega
          · simp
      · exact ⟨ih.1, fun p hp => by have := ih.2 p hp; have := (wst_le F k).1; simp only; omega⟩
theorem spans_asc {l : List UInt8} {i : Nat} (h : i + 1 < (spansOf l).length) : (sp (spansOf l) i).2 < (sp (spansOf l) (i + 1)).1 := by
  rw [sp_lt (by omega), sp_lt h]
  have hp : (spansOf l).Pairwise (fun p q => p.2 < q.1) := by
    unfold spansOf; split
    · exact (wst_asc _ _).1
    · exact List.Pairwise.nil
  exact List.pairwise_iff_getElem.1 hp i (i + 1) (by omega) h (by omega)
theorem spans_le (s : ByteArray) (h : s.size ≤ 500) : (spansOf s.data.toList).length ≤ 1000 := by
  unfold spansOf; split
  · have := (wst_le (fAt s.data.toList) (s.data.toList.length + 1)).2; rw [sizeB] at this ⊢; omega
  · simp
set_option maxHeartbeats 400000 in
theorem walk_big (a0 : ByteArray) (w : World) (w0 : a0.size ≤ maxLen) (hbig : 500 < a0.size) :
    Calls Try.prog 4 #[.string a0] w fun e w' => e = .returned (.bool true) ∧ Below w.heap.size w w' := by
  go_enter Try.func4, Try.ntmps4
  go_wp2_with fail
  refine (awake_any _).mono ?_
  rintro e w1 ⟨rfl, hb1⟩
  go_wp2_with fail
  refine (awake_any _).mono ?_
  rintro e w2 ⟨rfl, hb2⟩
  go_wp2_with fail
  go_ret
  exact ⟨rfl, btwo hb1 hb2⟩

def At (B : World) (wr : World) : Prop := Below B.heap.size B wr
set_option maxHeartbeats 400000 in
theorem walk (a0 : ByteArray) (w : World) (w0 : a0.size ≤ maxLen) :
    Calls Try.prog 4 #[.string a0] w fun e w' => e = .returned (.bool true) ∧ Below w.heap.size w w' := by
  by_cases hbig : 500 < a0.size
  · exact walk_big a0 w w0 hbig
  · obtain ⟨L, hL⟩ : ∃ L, L = spansOf a0.data.toList := ⟨_, rfl⟩
    obtain ⟨x, hx⟩ : ∃ x, x = vErr a0.data.toList := ⟨_, rfl⟩
    obtain ⟨n, hn⟩ : ∃ n, n = L.length := ⟨_, rfl⟩
    have hn3 : n ≤ 1000 := by
      rw [hn, hL]; exact spans_le a0 (by omega)
    have HL := Lib.hid hL
    have HX := Lib.hid hx
    have HN := Lib.hid hn
    clear hL hx hn
    go_enter Try.func4, Try.ntmps4
    go_wp2_with fail
    refine (awake_any _).mono ?_
    rintro e w1 ⟨rfl, hb1⟩
    have HB1 := Lib.hid hb1
    clear hb1
    go_wp2_with fail
    refine (twords_any a0 _ w0).mono ?_
    rintro e w2 ⟨A, c, rfl, hsA, hb2⟩
    rw [← HL.out] at hsA
    have HA := Lib.hid (SpansAt.reads hsA)
    have HB2 := Lib.hid hb2
    clear hb2 hsA
    rw [← HL.out, ← HX.out, ← HN.out]
    go_wp2_with fail
    refine (rwords_any a0 _ w0).mono ?_
    rintro e w3 ⟨C, d, rfl, hsC, hb3⟩
    rw [← HL.out] at hsC
    have HC := Lib.hid (SpansAt.reads hsC)
    have HA3 := Lib.hid (SpansIn.below HA.out hb3)
    have HB3 := Lib.hid hb3
    clear hb3 hsC
    rw [← HL.out, ← HX.out, ← HN.out]
    go_wp2_with fail
    refine (seq_any L L n n A C c d _ HN.out.symm HN.out.symm hn3 hn3 HA3.out HC.out).mono ?_
    rintro e w4 ⟨rfl, q, rfl⟩
    rw [show decide (L = L) = true from decide_eq_true rfl]
    have HB4 := Lib.hid (btwo (btwo HB1.out HB2.out) HB3.out)
    clear HB1 HB2 HB3 HC HA
    go_wp2_with fail
    go_loopw [38] (fun i wr => ∃ k : Nat, k ≤ n ∧ i = .int .i64 (k : Int) ∧ At w3 wr) (fun i _ => n - (intOf i).toNat)
    case atStart => exact ⟨0, Nat.zero_le _, rfl, bdr (Below.refl _ _) _⟩
    case round =>
      obtain ⟨k, hk, rfl, hat⟩ := hrel
      by_cases hlt : k < n
      · obtain ⟨g, rfl, hg, hcc⟩ := (SpansIn.below HA3.out hat) (by rw [← HN.out]; omega)
        obtain ⟨c1, c2⟩ := hcc k (by rw [← HN.out]; exact hlt)
        have hin := span_in (s := a0) (j := k) (by rw [← HL.out, ← HN.out]; exact hlt)
        rw [← HL.out] at hin
        obtain ⟨p1, p2⟩ := hin
        obtain ⟨a, ha⟩ : ∃ a, a = (sp L k).1 := ⟨_, rfl⟩
        obtain ⟨b, hbb⟩ : ∃ b, b = (sp L k).2 := ⟨_, rfl⟩
        rw [← ha] at c1 p1
        rw [← hbb] at c2 p1 p2
        by_cases hk0 : 0 < k
        · obtain ⟨_, c4⟩ := hcc (k - 1) (by rw [← HN.out]; omega)
          have hasc := spans_asc (l := a0.data.toList) (i := k - 1) (by rw [← HL.out, ← HN.out]; omega)
          rw [← HL.out, show k - 1 + 1 = k from by omega, ← ha] at hasc
          obtain ⟨b', hb'⟩ : ∃ b, b = (sp L (k - 1)).2 := ⟨_, rfl⟩
          rw [← hb'] at c4 hasc
          have HAT := Lib.hid hat
          have t1 : decide (b ≤ a) = false := by simp; omega
          have t2 : decide (a ≤ b') = false := by simp; omega
          have t5 : decide (0 < k) = true := by simp; omega
          have t3 : (0 : Int) ≤ (k : Int) - 1 := by omega
          have t4 : (k : Int) - 1 < (n : Int) := by omega
          clear hcc ha hbb hb' hat
          go_wp2
          have e1 : IntKind.i64.wrap ((k : Int) - 1) = (k : Int) - 1 := IntWalk.i64_in _ (by omega)
          have e2 : ((k : Int) - 1).toNat = k - 1 := by omega
          go_quiet (fail)
          clear e1 e2
          go_wp2
          go_roundw
          case rel => exact ⟨k + 1, by omega, by go_num, bdr (btwo HAT.out ((Below.refl _ _).alloc (Nat.le_refl _) _)) _⟩
          case measure => simp [intOf]; omega
        · have HAT := Lib.hid hat
          have t1 : decide (b ≤ a) = false := by simp; omega
          have t2 : decide (0 < k) = false := by simp; omega
          clear hcc ha hbb hat
          go_wp2
          go_quiet (fail)
          go_wp2
          go_roundw
          case rel => exact ⟨k + 1, by omega, by go_num, bdr (btwo HAT.out ((Below.refl _ _).alloc (Nat.le_refl _) _)) _⟩
          case measure => simp [intOf]; omega
      · go_wp2
        go_ret
        exact ⟨rfl, btwo HB4.out hat⟩


set_option maxRecDepth 100000 in
theorem lifted (os : Os) (started : os.Started) (H : Type) (enc : TypeId × Value → H) :
    ReturnsInHanded {} Try.checked os 4 .any (Rows.textWordsSpec.pre6 enc Try.prog Try.f4 Rows.textWordsRow.domain false) (Rows.textWordsSpec.post enc Try.prog Try.f4 false true false false) := by
  refine returnsInHanded_of_change (C := Try.checked) own started (by kernel_rfl) Try.func4
    (ChangeSpec.witness6 (enc := enc) (C := Try.checked) false ⟨#[], #[.string ⟨#[]⟩], []⟩ 8 (by kernel_rfl) (by kernel_rfl) (by kernel_rfl) (by kernel_rfl)) ?_
  intro W base args ds gs before hval0 hW hcnd _
  have hval : ∀ (j : Nat) t v, Try.f4.params[j]? = some t → args[j]? = some v → Value.okWide Try.prog W .any base t v := hval0
  have hW' := hW
  obtain ⟨p, q, hA0, hV, rfl, hfz, hnd⟩ := hW
  have hA : DataW.TrodAll enc Try.prog W 0 (fun _ => true) true Try.f4.params.toList args.toList ds p := hA0
  rw [Try.params4] at hA hval
  obtain ⟨v0, vs0, d0, ds0, p0, q0, hargs, rfl, rfl, h0, r0⟩ := trodAll_cons hA
  obtain ⟨rfl, rfl, rfl⟩ := trodAll_nil r0
  obtain rfl : args = #[v0] := by cases args; simp_all
  obtain ⟨rfl, rfl⟩ := trodVars_none hV
  obtain ⟨a0, rfl, rfl, rfl, w0⟩ := open_string Try.underlying9 (hval 0 9 v0 rfl rfl) h0
  clear hA0 hval0
  refine (walk a0 W w0).mono fun e W' ⟨he, bel⟩ => ?_
  subst he
  exact ⟨_, rfl, _, _, _, [], [], [], hW', trodAll_mk1 (shut_bool Try.underlying4 _), (trodAll_cons_mk (shut_string Try.underlying9 w0) trodAll_mk0), rfl, bel.frame _, fun h => by cases h⟩

theorem over : Rows.textWordsRow.holds Try.pinned (OpenSpec.ofChange Rows.textWordsSpec) :=
  OpenClaim.holds_of_wide 4 Try.f4 rfl rfl rfl rfl rfl rfl rfl ⟨rfl, rfl, rfl, rfl, rfl⟩ rfl rfl rfl rfl rfl (by kernel_rfl) Try.func4 (by kernel_rfl)
    (of_decide_eq_true (by kernel_rfl)) (by unfold Func.isWrapper; rw [if_neg (of_decide_eq_false (by kernel_rfl))]; exact ⟨rfl, rfl⟩)
    (fun os started H enc _ => lifted os started H enc)

theorem proved : Rows.TextWordsSaid := over
#print axioms proved
end Go.Proofs.Ytpmdfpfbnmoinaa.textWordsProof
