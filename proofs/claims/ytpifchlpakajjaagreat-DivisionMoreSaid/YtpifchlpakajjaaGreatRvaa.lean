/- Several texts in one: OK, DBa, Uf, Ul, Or. -/
import Derived.Test.YtpifchlpakajjaaGreatRtaa
import Derived.Test.YtpifchlpakajjaaGreatRtab
import Derived.Test.YtpifchlpakajjaaGreatRtac
import Derived.Test.YtpifchlpakajjaaGreatRtad
import Derived.Test.YtpifchlpakajjaaGreatRtae
import Derived.Test.YtpifchlpakajjaaGreatRtaf
import Derived.Test.YtpifchlpakajjaaGreatRtag
import Derived.Test.YtpifchlpakajjaaGreatRtah
import Derived.Test.YtpifchlpakajjaaGreatRtai
import Derived.Test.YtpifchlpakajjaaGreatRtaj
import Derived.Test.YtpifchlpakajjaaGreatRtak
import Derived.Test.YtpifchlpakajjaaGreatRtal
import Derived.Test.YtpifchlpakajjaaGreatRtam
import Derived.Test.YtpifchlpakajjaaGreatRtan
import Derived.Test.YtpifchlpakajjaaGreatRtao
import Derived.Test.YtpifchlpakajjaaGreatRtap
import Derived.Test.YtpifchlpakajjaaGreatRtaq
import Derived.Test.YtpifchlpakajjaaGreatRtar
import Derived.Test.YtpifchlpakajjaaGreatRtas
import Derived.Test.YtpifchlpakajjaaGreatRtat
import Derived.Test.YtpifchlpakajjaaGreatRtau
import Derived.Test.YtpifchlpakajjaaGreatRtav
import Derived.Test.YtpifchlpakajjaaGreatRtaw
import Derived.Test.YtpifchlpakajjaaGreatRtax
import Derived.Test.YtpifchlpakajjaaGreatRtay
import Derived.Test.YtpifchlpakajjaaGreatRtaz
import Derived.Test.YtpifchlpakajjaaGreatRtba
import Derived.Test.YtpifchlpakajjaaGreatRtbb
import Derived.Test.YtpifchlpakajjaaGreatRtbc
import Derived.Test.YtpifchlpakajjaaGreatRtbd
import Derived.Test.YtpifchlpakajjaaGreatRtbe
import Derived.Test.YtpifchlpakajjaaGreatRtbf
import Derived.Test.YtpifchlpakajjaaGreatRtbg
import Derived.Test.YtpifchlpakajjaaGreatRtbh
import Derived.Test.YtpifchlpakajjaaGreatRtbi
import Derived.Test.YtpifchlpakajjaaGreatRtbj
import Derived.Test.YtpifchlpakajjaaGreatRtbk
import Derived.Test.YtpifchlpakajjaaGreatRtbl
import Derived.Test.YtpifchlpakajjaaGreatRtbm
import Derived.Test.YtpifchlpakajjaaGreatRtbn
import Derived.Test.YtpifchlpakajjaaGreatRtbo
import Derived.Test.YtpifchlpakajjaaGreatRtbp
import Derived.Test.YtpifchlpakajjaaGreatRtbq
import Derived.Test.YtpifchlpakajjaaGreatRtbr
import Derived.Test.YtpifchlpakajjaaGreatRtbs
import Derived.Test.YtpifchlpakajjaaGreatRtbt
import Derived.Test.YtpifchlpakajjaaGreatRtbu
import Derived.Test.YtpifchlpakajjaaGreatRtbv
import Derived.Test.YtpifchlpakajjaaGreatRtbw
import Derived.WalkKit
import Derived.Shelf.Small.Strs
import Derived.Lib.Bytealg
import Derived.Lib.Atoi
import Derived.Lib.Join
import Derived.Lib.Strings
import Derived.Test.YtpifchlpakajjaaGreatRows
import Derived.Ground.Names2Prog
import Derived.Shelf.Slices.Clone
import Derived.Shelf.Slices.Empties2
import Derived.Shelf.Slices.Equal
import Derived.Shelf.Slices.SearchI
import Derived.Shelf.Small.Wraps
import Derived.Shelf.Strings.Builder1
import Derived.Shelf.Strings.Builder2
import Derived.Shelf.Strings.BuilderF
import Derived.Shelf.Strings.BuilderK
import Derived.Shelf.Strings.OnBuilder
import Derived.Shelf.Strings.Prefix
import Derived.Shelf.Strings.Search1
import Derived.Test.YtpifchlpakajjaaGreatProg
import Derived.WalkSpells
import Derived.WalkLawsBesides
import Derived.IntWalk
import Derived.Lib.Hide
import Derived.Outline
import Derived.Below
import Derived.Lib.AtoiErrMem
import Derived.Deep.QuietTactic
import Derived.BigQuiet
import Derived.Deep.RegionLaw
import Derived.Deep.AppendLies
import Derived.OwnWalk
import Derived.Lib.SplitLaws
import Derived.Laws.OwnMore
import Derived.Laws.NewBlocks
import Derived.Deep.RegionHeld3
import Derived.Deep.DeepCutAuto
import Derived.Deep.CutBlock
import Derived.ChangeOld
import Derived.Deep.Slices
import Derived.Deep.Strs
import Derived.ChangeSlices
import Derived.SizedLaws
import Derived.OpenShut
import Derived.SliceStrings
import Derived.ProofKit
import Derived.ShutString
import Derived.Deep.DeepHandedRow
import Derived.Lib.SmallJoins
import Derived.BigRegion
import Derived.Lib.Small
import Derived.Lib.IndexMore
import Derived.Lib.Split
import Derived.Shelf.Strings.Count
import Derived.Shelf.Strings.Cut
import Derived.Shelf.Strings.Split
import Derived.Shelf.Vars
import Derived.Deep.DeepFit
import Derived.Laws.IdiomStrings
import Derived.Laws.StructEq
namespace Go.Proofs.YtpifchlpakajjaaGreat.K
set_option linter.unusedVariables false

end Go.Proofs.YtpifchlpakajjaaGreat.K
namespace Go.Proofs.YtpifchlpakajjaaGreat.K
set_option linter.unusedVariables false

end Go.Proofs.YtpifchlpakajjaaGreat.K
namespace Go.Proofs.YtpifchlpakajjaaGreat.K
open Go.RowKit
set_option linter.unusedVariables false

end Go.Proofs.YtpifchlpakajjaaGreat.K
namespace Go.Proofs.YtpifchlpakajjaaGreat.K
open Go.RowKit
set_option linter.unusedVariables false

end Go.Proofs.YtpifchlpakajjaaGreat.K
namespace Go.Proofs.YtpifchlpakajjaaGreat.K
open Go.RowKit
set_option linter.unusedVariables false

end Go.Proofs.YtpifchlpakajjaaGreat.K
namespace Go.Proofs.YtpifchlpakajjaaGreat.K
open Go.RowKit
set_option linter.unusedVariables false

end Go.Proofs.YtpifchlpakajjaaGreat.K
namespace Go.Proofs.YtpifchlpakajjaaGreat.K
open Go.RowKit
set_option linter.unusedVariables false

end Go.Proofs.YtpifchlpakajjaaGreat.K
namespace Go.Proofs.YtpifchlpakajjaaGreat.K
open Go.RowKit
set_option linter.unusedVariables false

end Go.Proofs.YtpifchlpakajjaaGreat.K
namespace Go.Proofs.YtpifchlpakajjaaGreat.K
open Go.RowKit
set_option linter.unusedVariables false
set_option maxRecDepth 100000

end Go.Proofs.YtpifchlpakajjaaGreat.K
namespace Go.Proofs.YtpifchlpakajjaaGreat.K
open Go.RowKit
set_option linter.unusedVariables false
set_option maxRecDepth 100000

end Go.Proofs.YtpifchlpakajjaaGreat.K
namespace Go.Proofs.YtpifchlpakajjaaGreat.K
open Go.RowKit
set_option linter.unusedVariables false
set_option maxRecDepth 100000

end Go.Proofs.YtpifchlpakajjaaGreat.K
namespace Go.Proofs.YtpifchlpakajjaaGreat.K
open Go.RowKit
set_option linter.unusedVariables false
set_option maxRecDepth 100000

def sumT (L : List Tok) : Nat := (L.map (fun x => x.t.length)).sum
def fewB (L : List Tok) : Bool := decide (L.length ≤ 400) && decide (sumT L ≤ 3000)
theorem few_yes {L : List Tok} (h : fewB L = true) : L.length ≤ 400 ∧ sumT L ≤ 3000 := by
  unfold fewB at h; simpa using h
end Go.Proofs.YtpifchlpakajjaaGreat.K
namespace Go.Proofs.YtpifchlpakajjaaGreat.K
open Go.RowKit
set_option linter.unusedVariables false
set_option maxRecDepth 100000

end Go.Proofs.YtpifchlpakajjaaGreat.K
namespace Go.Proofs.YtpifchlpakajjaaGreat.K
open Go.RowKit
set_option linter.unusedVariables false
set_option maxRecDepth 100000

end Go.Proofs.YtpifchlpakajjaaGreat.K
namespace Go.Proofs.YtpifchlpakajjaaGreat.K
set_option linter.unusedVariables false

end Go.Proofs.YtpifchlpakajjaaGreat.K
namespace Go.Proofs.YtpifchlpakajjaaGreat.K
open Go.RowKit
set_option linter.unusedVariables false
set_option maxRecDepth 100000

end Go.Proofs.YtpifchlpakajjaaGreat.K

namespace Go.Proofs.YtpifchlpakajjaaGreat
open Go.RowKit
set_option linter.unusedVariables false
set_option linter.unusedSimpArgs false
set_option maxRecDepth 100000

namespace Hp
variable {W w w' : World} {l : List Itm} {it : Itm} {i : Nat}
end Hp
section
variable {W w : World} {l : List Itm} {g n c i : Nat} {A : Option Addr} {L : List Int} {F : List Bool} {ps : List (Int × Int)} {T : TypeId}
end
theorem weights_in {H : Type} {P : Program} {e : TypeId} : ∀ {l : List (DataW H)} {d : DataW H}, d ∈ l → ∀ n ∈ d.weights P e, n ∈ DataW.weightsAll P e l
  | [], d, hd, n, hn => by cases hd
  | x :: r, d, hd, n, hn => by
    simp only [DataW.weightsAll, List.mem_append]
    rcases List.mem_cons.1 hd with rfl | h
    · exact Or.inl hn
    · exact Or.inr (weights_in h n hn)
theorem int_cells : Tryz.prog.cellsOf 3 = 1 := by kernel_rfl
theorem get_range {β : Type} {f : Nat → β} {n j : Nat} {x : β} (h : ((List.range n).map f)[j]? = some x) : j < n ∧ x = f j := by
  have hj : j < n := by have := (List.getElem?_eq_some_iff.1 h).1; simpa using this
  rw [List.getElem?_map, List.getElem?_range hj] at h
  exact ⟨hj, (Option.some.inj h).symm⟩
open Go.ChangeShapes Go.WideShapes Go.ChangeAt
section
variable {H : Type} {enc : TypeId × Value → H} {W : World} {fuel : Nat}
end
end Go.Proofs.YtpifchlpakajjaaGreat

namespace Go.Proofs.YtpifchlpakajjaaGreat
open Go.RowKit
set_option linter.unusedVariables false
set_option linter.unusedSimpArgs false
set_option maxRecDepth 100000

def fewB (L : List Snd) (N : Nat) : Bool := decide (L.length ≤ N) && L.all (fun x => decide (x.t.length ≤ 40))
theorem few_yes {L : List Snd} {N : Nat} (h : fewB L N = true) : L.length ≤ N ∧ ∀ x ∈ L, x.t.length ≤ 40 := by
  unfold fewB at h
  simpa using h
theorem few_len {L : List Snd} {N : Nat} (h : N < L.length) : fewB L N = false := by unfold fewB; rw [decide_eq_false (by omega)]; rfl
theorem few_not {L : List Snd} {N k : Nat} {x : Snd} (h : L[k]? = some x) (h1 : 40 < x.t.length) : fewB L N = false := by
  rw [Bool.eq_false_iff]; intro hf
  have := (few_yes hf).2 x (List.mem_of_getElem? h)
  omega
theorem few_all {L : List Snd} {N : Nat} (h : L.length ≤ N) (h1 : (L.take L.length).all (fun x => decide (x.t.length ≤ 40)) = true) : fewB L N = true := by
  rw [List.take_length] at h1
  unfold fewB; rw [h1, decide_eq_true h]; rfl
theorem few_step {L : List Snd} {k : Nat} {x : Snd} (h : L[k]? = some x) (h1 : (L.take k).all (fun x => decide (x.t.length ≤ 40)) = true) (h2 : x.t.length ≤ 40) : (L.take (k + 1)).all (fun x => decide (x.t.length ≤ 40)) = true := by
  rw [take_snoc h, List.all_append, h1]; simp [h2]
set_option maxHeartbeats 2000000 in
theorem few_any (L : List Snd) (N n c : Nat) (A : Option Addr) (w : World) (hl : L.length = n) (hn : n ≤ 17592186044416) (hN : N ≤ 1000000) (hs : ∀ x ∈ L, x.t.length ≤ 140737488355328) (hA : CellsIn w A (sndsC L)) :
    Calls Tryz.prog 64 #[.slice A n c, .int .i64 (N : Int)] w fun e w' => e = .returned (.bool (fewB L N)) ∧ w = w' := by
  have HL := Lib.hid hl
  have HA := Lib.hid hA
  have HS := Lib.hid hs
  by_cases hbig : N < n
  · have HF := Lib.hid (few_len (L := L) (N := N) (by omega))
    clear hl hA hs
    go_enter Tryz.func64, Tryz.ntmps64
    go_wp2
    go_ret
    exact ⟨ret_bool HF.out.symm, rfl⟩
  · clear hl hA hs
    go_enter Tryz.func64, Tryz.ntmps64
    go_wp2
    go_loopw [5] (fun i wr => ∃ k : Nat, k ≤ n ∧ i = .int .i64 k ∧ (L.take k).all (fun x => decide (x.t.length ≤ 40)) = true ∧ w = wr) (fun i _ => n - (intOf i).toNat)
    case atStart => exact ⟨0, Nat.zero_le _, rfl, rfl, rfl⟩
    case round =>
      obtain ⟨k, hk, rfl, hall, rfl⟩ := hrel
      have HALL := Lib.hid hall
      clear hall
      by_cases hlt : k < n
      · obtain ⟨x, hx⟩ := idx_lt HL.out hlt
        obtain ⟨b, off, rfl, hb, c0, c1, c2⟩ := HA.out.snd hx
        have HX := Lib.hid hx
        have hxs : x.t.length ≤ 140737488355328 := HS.out x (List.mem_of_getElem? hx)
        have hz : (bs x.t).size = x.t.length := rfl
        obtain ⟨y, hy⟩ : ∃ y, y = x.t.length := ⟨_, rfl⟩
        have HY := Lib.hid hy
        rw [← hy] at hxs hz
        clear hx c0 c1 hy
        by_cases h40 : 40 < y
        · have HF := Lib.hid (few_not (N := N) HX.out (by rw [← HY.out]; exact h40))
          go_wp2
          go_ret
          exact ⟨ret_bool HF.out.symm, rfl⟩
        · have HN := Lib.hid (few_step HX.out HALL.out (by rw [← HY.out]; omega))
          go_wp2
          go_roundw
          case rel => exact ⟨k + 1, by omega, by go_num, HN.out, trivial⟩
          case measure => simp [intOf]; omega
      · have HF := Lib.hid (show fewB L N = true from few_all (by have := HL.out; omega) (by have := HALL.out; rw [show k = L.length by have := HL.out; omega] at this; exact this))
        go_wp2
        go_ret
        exact ⟨ret_bool HF.out.symm, rfl⟩
end Go.Proofs.YtpifchlpakajjaaGreat

namespace Go.Proofs.YtpifchlpakajjaaGreat
open Go.RowKit
set_option linter.unusedVariables false
set_option linter.unusedSimpArgs false
set_option maxRecDepth 100000

open Go.ChangeShapes Go.WideShapes Go.ChangeAt
theorem snd_cells : Tryz.prog.cellsOf 89 = 3 := by kernel_rfl
theorem snd_bytes : Tryz.prog.bytesOf 89 = 32 := by kernel_rfl
theorem str_cells : Tryz.prog.cellsOf 9 = 1 := by kernel_rfl
theorem open_sndc {H : Type} {enc : TypeId × Value → H} {W : World} {fuel : Nat} {cs : List Value} {d : DataW H} {p : List MemPlace} (h : DataW.trod enc Tryz.prog W 0 (fun _ => true) true fuel 89 cs = some (d, p)) :
    ∃ x : Snd, cs[0]? = some (.int .i64 x.k) ∧ cs[1]? = some (.int .i64 x.q) ∧ cs[2]? = some (.string (bs x.t)) ∧ x.t.length ∈ d.weights Tryz.prog 89 := by
  obtain ⟨y0, y1, y2, n, hx, hl, h0, h1, h2⟩ := Go.Deep.trod_struct3 Tryz.underlying89 h
  simp only [int_cells, str_cells] at h0 h1 h2
  obtain ⟨k, hk, hy0, _⟩ := DataW.trod_int Tryz.underlying3 h0
  obtain ⟨q, hq, hy1, _⟩ := DataW.trod_int Tryz.underlying3 h1
  obtain ⟨s, hs, hy2, _⟩ := DataW.trod_string Tryz.underlying9 h2
  refine ⟨⟨k, q, s.data.toList⟩, field_one hk, field_one hq, ?_, ?_⟩
  · rw [field_one hs]; exact congrArg (fun b => some (Value.string b)) (bs_self s).symm
  · injection hx with hd _
    rw [hd, hy0, hy1, hy2]
    simp [DataW.weights, Tryz.underlying89, DataW.weightsEach]
theorem snds_split : ∀ {L : List Snd} {i : Nat} {u : Value}, (sndsC L)[i]? = some u → ∃ (j : Nat) (x : Snd), L[j]? = some x ∧ ((i = j * 3 ∧ u = .int .i64 x.k) ∨ (i = j * 3 + 1 ∧ u = .int .i64 x.q) ∨ (i = j * 3 + 2 ∧ u = .string (bs x.t)))
  | [], i, u, h => by simp [sndsC] at h
  | y :: r, 0, u, h => ⟨0, y, rfl, Or.inl ⟨rfl, by simpa [sndsC, sndC] using h.symm⟩⟩
  | y :: r, 1, u, h => ⟨0, y, rfl, Or.inr (Or.inl ⟨rfl, by simpa [sndsC, sndC] using h.symm⟩)⟩
  | y :: r, 2, u, h => ⟨0, y, rfl, Or.inr (Or.inr ⟨rfl, by simpa [sndsC, sndC] using h.symm⟩)⟩
  | y :: r, i + 3, u, h => by
    have h' : (sndsC r)[i]? = some u := by simpa [sndsC, sndC] using h
    obtain ⟨j, x, hx, hc⟩ := snds_split h'
    refine ⟨j + 1, x, by simpa using hx, ?_⟩
    rcases hc with ⟨a, b⟩ | ⟨a, b⟩ | ⟨a, b⟩
    · exact Or.inl ⟨by omega, b⟩
    · exact Or.inr (Or.inl ⟨by omega, b⟩)
    · exact Or.inr (Or.inr ⟨by omega, b⟩)
end Go.Proofs.YtpifchlpakajjaaGreat

namespace Go.Proofs.YtpifchlpakajjaaGreat
open Go.RowKit
set_option linter.unusedVariables false
set_option linter.unusedSimpArgs false
set_option maxRecDepth 100000
open Go.ChangeShapes Go.WideShapes Go.ChangeAt
theorem sgn_cells : Tryz.prog.cellsOf 58 = 4 := by kernel_rfl
theorem sgn_bytes : Tryz.prog.bytesOf 58 = 56 := by kernel_rfl
theorem sndl_cells : Tryz.prog.cellsOf 41 = 1 := by kernel_rfl
section
variable {H : Type} {enc : TypeId × Value → H} {W : World}
theorem open_sndsT {fuel : Nat} {v : Value} {d : DataW H} {p : List MemPlace} (hf : DataW.trod enc Tryz.prog W 0 (fun _ => true) true fuel 41 [v] = some (d, p)) (hw : ∀ m ∈ d.weights Tryz.prog 41, m ≤ reachBytes) :
    ∃ (A : Option Addr) (n c : Nat) (L : List Snd), v = .slice A n c ∧ L.length = n ∧ n ≤ c ∧ n ≤ 17592186044416 ∧ (∀ x ∈ L, x.t.length ≤ 140737488355328) ∧ CellsIn W A (sndsC L) := by
  have hcv : ∀ u, [v] = [u] → v = u := fun u hu => by injection hu
  rcases Go.Deep.open_slice Tryz.underlying41 hf with ⟨hcs, hy⟩ | ⟨a, len, cap, m, n, D, Pl, hcs, _, hl, hm, hmm, hy, hi⟩
  · exact ⟨none, 0, 0, [], hcv _ hcs, rfl, Nat.le_refl _, Nat.zero_le _, fun x hx => by simp at hx, CellsIn.nil _ _⟩
  · simp only [if_true] at hmm
    subst hmm
    simp only [Prod.mk.injEq] at hy
    obtain ⟨hd, _⟩ := hy
    rw [snd_cells] at hi
    have hr := reachBytes_lt
    have hbig : len ≤ 17592186044416 := by
      have h1 : (((List.range len).map D).length + ((List.range (m - len)).map fun j => D (len + j)).length) * Tryz.prog.bytesOf 89 ∈ d.weights Tryz.prog 41 := by
        rw [hd]; simp [DataW.weights, Tryz.underlying41]
      have h2 := hw _ h1
      rw [snd_bytes] at h2
      simp only [List.length_map, List.length_range] at h2
      omega
    have hone : ∀ i, i < len → ∃ x : Snd, (W.cell? ((a.add (i * 3)).add 0) = some (.int .i64 x.k) ∧ W.cell? ((a.add (i * 3)).add 1) = some (.int .i64 x.q) ∧ W.cell? ((a.add (i * 3)).add 2) = some (.string (bs x.t))) ∧ x.t.length ≤ 140737488355328 := by
      intro i hil
      obtain ⟨cs', hc, ht⟩ := hi i (by omega)
      obtain ⟨x, h0, h1, h2, hwx⟩ := open_sndc ht
      obtain ⟨_, hlen, hat⟩ := World.cells?_some hc
      refine ⟨x, ⟨(hat 0 (by omega)).trans h0, (hat 1 (by omega)).trans h1, (hat 2 (by omega)).trans h2⟩, ?_⟩
      have hmem : x.t.length ∈ d.weights Tryz.prog 41 := by
        rw [hd]
        simp only [DataW.weights, Tryz.underlying41, List.mem_cons, List.mem_append]
        exact Or.inr (Or.inl (weights_in (List.mem_map.2 ⟨i, List.mem_range.2 hil, rfl⟩) _ hwx))
      have := hw _ hmem
      omega
    obtain ⟨F, hF⟩ : ∃ F : Nat → Snd, ∀ i, i < len → (W.cell? ((a.add (i * 3)).add 0) = some (.int .i64 (F i).k) ∧ W.cell? ((a.add (i * 3)).add 1) = some (.int .i64 (F i).q) ∧ W.cell? ((a.add (i * 3)).add 2) = some (.string (bs (F i).t))) ∧ (F i).t.length ≤ 140737488355328 :=
      ⟨fun i => if h : i < len then Classical.choose (hone i h) else ⟨0, 0, []⟩, fun i h => by simp only [dif_pos h]; exact Classical.choose_spec (hone i h)⟩
    refine ⟨some a, len, m, (List.range len).map F, hcv _ hcs, by simp, hl, hbig, fun x hx => ?_, fun h0 => ?_⟩
    · obtain ⟨i, hi1, rfl⟩ := List.mem_map.1 hx
      exact (hF i (List.mem_range.1 hi1)).2
    · have h0' : 0 < len := by rw [sndsC_len] at h0; simp at h0; omega
      obtain ⟨b, off, spot⟩ := a
      have hc0 := (hF 0 h0').1.1
      have hspot : spot = none := by simpa [Addr.add] using World.cell?_spot hc0
      subst hspot
      have ea : ∀ i j, ((⟨b, off, none⟩ : Addr).add i).add j = ⟨b, off + i + j, none⟩ := fun i j => by unfold Addr.add; split <;> split <;> simp_all
      refine ⟨b, off, rfl, ?_, fun j u hu => ?_⟩
      · have := World.block_lt_of_cell? W _ hc0
        rw [ea] at this
        exact this
      · obtain ⟨i, x, hx, hc⟩ := snds_split hu
        obtain ⟨hil, rfl⟩ := get_range hx
        obtain ⟨⟨h1, h2, h3⟩, _⟩ := hF i hil
        rw [ea] at h1 h2 h3
        rcases hc with ⟨rfl, rfl⟩ | ⟨rfl, rfl⟩ | ⟨rfl, rfl⟩
        · exact h1
        · rw [← Nat.add_assoc]; exact h2
        · rw [← Nat.add_assoc]; exact h3
def SgLim (x : Sg) : Prop := x.t.length ≤ 140737488355328 ∧ x.s.length ≤ 17592186044416 ∧ ∀ y ∈ x.s, y.t.length ≤ 140737488355328
theorem open_sgc {fuel : Nat} {cs : List Value} {d : DataW H} {p : List MemPlace} (h : DataW.trod enc Tryz.prog W 0 (fun _ => true) true fuel 58 cs = some (d, p)) (hw : ∀ m ∈ d.weights Tryz.prog 58, m ≤ reachBytes) :
    ∃ (x : Sg) (A : Option Addr) (c : Nat), cs[0]? = some (.string (bs x.t)) ∧ cs[1]? = some (.slice A x.s.length c) ∧ cs[2]? = some (.int .i64 x.c) ∧ cs[3]? = some (.int .i64 x.w) ∧ SgLim x ∧ x.s.length ≤ c ∧ CellsIn W A (sndsC x.s) := by
  obtain ⟨y0, y1, y2, y3, n, hx, hl, h0, h1, h2, h3⟩ := Go.Joins.trod_struct4 Tryz.underlying58 h
  simp only [int_cells, str_cells, sndl_cells] at h0 h1 h2 h3
  obtain ⟨s, hs, hy0, _⟩ := DataW.trod_string Tryz.underlying9 h0
  obtain ⟨q, hq, hy2, _⟩ := DataW.trod_int Tryz.underlying3 h2
  obtain ⟨r, hr, hy3, _⟩ := DataW.trod_int Tryz.underlying3 h3
  injection hx with hd _
  have hwt : ∀ m, m ∈ y0.1.weights Tryz.prog 9 ∨ m ∈ y1.1.weights Tryz.prog 41 → m ≤ reachBytes := fun m hm => hw m (by
    rw [hd]
    simp only [DataW.weights, Tryz.underlying58, DataW.weightsEach, List.map_cons, List.map_nil, List.mem_append]
    rcases hm with hm | hm
    · exact Or.inl hm
    · exact Or.inr (Or.inl hm))
  have hlen : ((cs.drop 1).take 1).length = 1 := by rw [sgn_cells] at hl; rw [List.length_take, List.length_drop]; omega
  obtain ⟨v, hv⟩ : ∃ v, (cs.drop 1).take 1 = [v] := by
    match hh : (cs.drop 1).take 1, hlen with
    | [v], _ => exact ⟨v, rfl⟩
  rw [hv] at h1
  obtain ⟨A, m, c, L, rfl, hL, hmc, hm, hLs, hC⟩ := open_sndsT h1 (fun m hm => hwt m (Or.inr hm))
  have hrb := reachBytes_lt
  have hst : s.data.toList.length ≤ 140737488355328 := by
    have := hwt s.data.toList.length (Or.inl (by rw [hy0]; simp [DataW.weights]))
    omega
  subst hL
  refine ⟨⟨s.data.toList, L, q, r⟩, A, c, ?_, field_one hv, field_one hq, field_one hr, ⟨hst, hm, hLs⟩, hmc, hC⟩
  rw [field_one hs]; exact congrArg (fun b => some (Value.string b)) (bs_self s).symm
theorem open_sgns {fuel : Nat} {v : Value} {d : DataW H} {p : List MemPlace} (hf : DataW.trod enc Tryz.prog W 0 (fun _ => true) true fuel 22 [v] = some (d, p)) (hw : ∀ m ∈ d.weights Tryz.prog 22, m ≤ reachBytes) :
    ∃ (A : Option Addr) (n c : Nat) (L : List Sg), v = .slice A n c ∧ L.length = n ∧ n ≤ c ∧ n ≤ 17592186044416 ∧ (∀ x ∈ L, SgLim x) ∧ SgnIn W A L := by
  have hcv : ∀ u, [v] = [u] → v = u := fun u hu => by injection hu
  rcases Go.Deep.open_slice Tryz.underlying22 hf with ⟨hcs, hy⟩ | ⟨a, len, cap, m, n, D, Pl, hcs, _, hl, hm, hmm, hy, hi⟩
  · exact ⟨none, 0, 0, [], hcv _ hcs, rfl, Nat.le_refl _, Nat.zero_le _, fun x hx => by simp at hx, fun h => by simp at h⟩
  · simp only [if_true] at hmm
    subst hmm
    simp only [Prod.mk.injEq] at hy
    obtain ⟨hd, _⟩ := hy
    rw [sgn_cells] at hi
    have hr := reachBytes_lt
    have hbig : len ≤ 17592186044416 := by
      have h1 : (((List.range len).map D).length + ((List.range (m - len)).map fun j => D (len + j)).length) * Tryz.prog.bytesOf 58 ∈ d.weights Tryz.prog 22 := by
        rw [hd]; simp [DataW.weights, Tryz.underlying22]
      have h2 := hw _ h1
      rw [sgn_bytes] at h2
      simp only [List.length_map, List.length_range] at h2
      omega
    have hone : ∀ i, i < len → ∃ x : Sg, (∃ Aj cj, W.cell? ((a.add (i * 4)).add 0) = some (.string (bs x.t)) ∧ W.cell? ((a.add (i * 4)).add 1) = some (.slice Aj x.s.length cj) ∧ W.cell? ((a.add (i * 4)).add 2) = some (.int .i64 x.c) ∧ W.cell? ((a.add (i * 4)).add 3) = some (.int .i64 x.w) ∧ CellsIn W Aj (sndsC x.s)) ∧ SgLim x := by
      intro i hil
      obtain ⟨cs', hc, ht⟩ := hi i (by omega)
      have hwi : ∀ k ∈ (D i).weights Tryz.prog 58, k ≤ reachBytes := fun k hk => hw k (by
        rw [hd]
        simp only [DataW.weights, Tryz.underlying22, List.mem_cons, List.mem_append]
        exact Or.inr (Or.inl (weights_in (List.mem_map.2 ⟨i, List.mem_range.2 hil, rfl⟩) _ hk)))
      obtain ⟨x, Aj, cj, h0, h1, h2, h3, hlim, _, hC⟩ := open_sgc ht hwi
      obtain ⟨_, hlen, hat⟩ := World.cells?_some hc
      exact ⟨x, ⟨Aj, cj, (hat 0 (by omega)).trans h0, (hat 1 (by omega)).trans h1, (hat 2 (by omega)).trans h2, (hat 3 (by omega)).trans h3, hC⟩, hlim⟩
    obtain ⟨F, hF⟩ : ∃ F : Nat → Sg, ∀ i, i < len → (∃ Aj cj, W.cell? ((a.add (i * 4)).add 0) = some (.string (bs (F i).t)) ∧ W.cell? ((a.add (i * 4)).add 1) = some (.slice Aj (F i).s.length cj) ∧ W.cell? ((a.add (i * 4)).add 2) = some (.int .i64 (F i).c) ∧ W.cell? ((a.add (i * 4)).add 3) = some (.int .i64 (F i).w) ∧ CellsIn W Aj (sndsC (F i).s)) ∧ SgLim (F i) :=
      ⟨fun i => if h : i < len then Classical.choose (hone i h) else ⟨[], [], 0, 0⟩, fun i h => by simp only [dif_pos h]; exact Classical.choose_spec (hone i h)⟩
    refine ⟨some a, len, m, (List.range len).map F, hcv _ hcs, by simp, hl, hbig, fun x hx => ?_, fun h0 => ?_⟩
    · obtain ⟨i, hi1, rfl⟩ := List.mem_map.1 hx
      exact (hF i (List.mem_range.1 hi1)).2
    · have h0' : 0 < len := by simpa using h0
      obtain ⟨b, off, spot⟩ := a
      obtain ⟨Aj, cj, hc0, _⟩ := (hF 0 h0').1
      have hspot : spot = none := by simpa [Addr.add] using World.cell?_spot hc0
      subst hspot
      have ea : ∀ i j, ((⟨b, off, none⟩ : Addr).add i).add j = ⟨b, off + i + j, none⟩ := fun i j => by unfold Addr.add; split <;> split <;> simp_all
      refine ⟨b, off, rfl, ?_, fun j x hx => ?_⟩
      · have := World.block_lt_of_cell? W _ hc0
        rw [ea] at this
        exact this
      · obtain ⟨hil, rfl⟩ := get_range hx
        obtain ⟨⟨Aj, cj, h0, h1, h2, h3, h4⟩, _⟩ := hF j hil
        rw [ea] at h0 h1 h2 h3
        exact ⟨Aj, cj, h0, h1, h2, h3, h4⟩
end
end Go.Proofs.YtpifchlpakajjaaGreat
