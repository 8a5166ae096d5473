/- Contract of the reference: a graph turned round. -/
import Derived.Test.YtdoobdfanalnbaaDDl
import Derived.Test.YtdoobdfanalnbaaDAg
import Derived.Test.YtdoobdfanalnbaaDCc
import Derived.Test.YtdoobdfanalnbaaDCl
namespace Go.Proofs.Ytdoobdfanalnbaa
open Go.RowKit
set_option linter.unusedVariables false
set_option linter.unusedSimpArgs false
set_option maxRecDepth 100000

theorem run_app_arc {W w : World} {l : List Itm} {i : Nat} {A : Option Addr} {n c : Nat} {L : List Ar} (h : Hp W l w) (hi : l[i]? = some (arow A n c L)) (ty : TypeId) {b : Nat} (a : Ar) (h0 : w.cell? ⟨b, 0, none⟩ = some (.int .i64 a.f)) (h1 : w.cell? ⟨b, 1, none⟩ = some (.int .i64 a.t)) (h2 : w.cell? ⟨b, 2, none⟩ = some (.int .i64 a.c)) (hn : n ≤ 4000000000000) :
    ∃ g cap w', (Builtin.append_ #[22, 22] ty #[.slice A n c, .slice (some ⟨b, 0, none⟩) 1 1]).run Try.prog w = .ok (.slice (some ⟨g, 0, none⟩) (n + 1) cap) w' ∧ Hp W (l.set i (arow (some ⟨g, 0, none⟩) (n + 1) cap (L ++ [a]))) w' ∧ w.grownBy w' (Value.slice A n c).ownBlock := by
  have := run_app h hi (t := 22) (ty := ty) Try.underlying22 arc_info rfl (show 0 < 3 by decide) (by decide) (A := A) (c := c) rfl (b := b) [.int .i64 a.f, .int .i64 a.t, .int .i64 a.c] rfl (fun j u hu => by
    match j with
    | 0 => simp only [List.getElem?_cons_zero, Option.some.injEq] at hu; rw [← hu]; exact h0
    | 1 => simp only [List.getElem?_cons_succ, List.getElem?_cons_zero, Option.some.injEq] at hu; rw [← hu]; exact h1
    | 2 => simp only [List.getElem?_cons_succ, List.getElem?_cons_zero, Option.some.injEq] at hu; rw [← hu]; exact h2
    | j + 3 => simp at hu) (fun u hu => by simp only [List.mem_cons, List.not_mem_nil, or_false] at hu; rcases hu with rfl | rfl | rfl <;> rfl) hn
  obtain ⟨g, cap, w', hr, hp, hg⟩ := this
  refine ⟨g, cap, w', hr, ?_, hg⟩
  unfold arow
  rw [acells_snoc]
  exact hp
/-- What Reverse returns. -/
def RevPost (g : Gr) (w : World) (e : Ending) (w' : World) : Prop := ∃ (C : Option Addr) (m d : Nat), e = .returned (.tuple #[.agg #[.int .i64 g.rv.1.n, .slice C m d], .int .i64 g.rv.2]) ∧ g.rv.1.rs.length = m ∧ Hp w [arow C m d g.rv.1.rs] w'
end Go.Proofs.Ytdoobdfanalnbaa
