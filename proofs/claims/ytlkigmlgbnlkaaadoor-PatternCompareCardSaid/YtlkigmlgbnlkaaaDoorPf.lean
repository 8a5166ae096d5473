/- Contracts of Letters of both sides. -/
import Derived.Test.YtlkigmlgbnlkaaaDoorPe
import Derived.Deep.RegionHeld3
namespace Go.Proofs.YtlkigmlgbnlkaaaDoor
open Go.RowKit
set_option linter.unusedVariables false

theorem Tryd.infoInt : (Tryd.prog.info? 3).map (fun i => (i.zero, i.size, i.bytes)) = some (some (.int .i64 0), 1, 8) := by kernel_rfl
def intCells (L : List Int) : List Value := L.map (Value.int .i64)
theorem intCells_len (L : List Int) : (intCells L).length = L.length := by simp [intCells]
theorem intCells_snoc (L : List Int) (x : Int) : intCells (L ++ [x]) = intCells L ++ [.int .i64 x] := by simp [intCells]
theorem own_slice {w : World} {B : Nat} {t : TypeId} {z : Nat} {v : Value} {n : Nat} {xs : List Value} (h : w.ownsRow B t z v n xs) : ∃ A c, v = .slice A n c := by
  rcases h.2 with ⟨rfl, rfl⟩ | ⟨g, c, cur, rfl, _⟩
  · exact ⟨_, _, rfl⟩
  · exact ⟨_, _, rfl⟩
theorem own_below {w w' : World} {base z n : Nat} {t : TypeId} {v : Value} {xs : List Value} (h : w.ownsRow base t z v n xs) (hb : Below w.heap.size w w') : w'.ownsRow base t z v n xs :=
  h.kept (row := none) ⟨hb.os, hb.tape, hb.output, hb.size, fun k hk _ => hb.block k hk⟩ (by
    cases e : v.ownBlock with
    | none => exact .inl rfl
    | some k => exact .inr (by simp))
theorem own_base {w : World} {base base' z n : Nat} {t : TypeId} {v : Value} {xs : List Value} (h : w.ownsRow base t z v n xs) (hb : base' ≤ base) : w.ownsRow base' t z v n xs := by
  refine ⟨h.1, ?_⟩
  rcases h.2 with h' | ⟨g, cap, cur, h1, h2, h3⟩
  · exact .inl h'
  · exact .inr ⟨g, cap, cur, h1, Nat.le_trans hb h2, h3⟩
theorem btwo {w w1 w2 : World} (h : Below w.heap.size w w1) (h2 : Below w1.heap.size w1 w2) : Below w.heap.size w w2 := h.trans (h2.mono h.size)
theorem new_one (w : World) (t : TypeId) (x : Value) : ∀ (j : Nat) (u : Value), [x][j]? = some u → (w.alloc (.cells #[x] t)).cell? ((⟨w.heap.size, 0, none⟩ : Addr).add j) = some u := by
  intro j u hj
  match j, hj with
  | 0, hj => simp at hj; subst hj; simp [Addr.add]
theorem one_int (x : Int) : ∀ u ∈ [Value.int .i64 x], u.oneCell' = true := by
  intro u hu; simp at hu; subst hu; rfl
theorem grown_below {B : Nat} {w wr w1 : World} {o : Obj} {r : Option Nat} (hb : Below B w wr) (h3 : (wr.alloc o).grownBy w1 r) (hB : B ≤ wr.heap.size) (h4 : ∀ x, r = some x → B ≤ x) : Below B w w1 :=
  (hb.alloc hB o).grown h3 (by simp; omega) h4

def lettI (n : Int) (b : Bool) : Int := (if n = 45 then 1 else 0) + (if b then 2 else 0)
set_option maxHeartbeats 400000 in
theorem letter_any (n : Int) (b : Bool) (w : World) (hn : n = 117 ∨ n = 45) :
    Calls Tryd.prog 40 #[.int .u8 n, .bool b] w fun e w' => e = .returned (.int .i64 (lettI n b)) ∧ w = w' := by
  rcases hn with rfl | rfl <;> cases b
  all_goals
    go_enter Tryd.func40, Tryd.ntmps40
    go_wp2
    go_ret
    exact ⟨rfl, rfl⟩

theorem letter_val {n x : Int} {b : Bool} {w : World} (h : lettI n b = x) (hn : n = 117 ∨ n = 45) :
    Calls Tryd.prog 40 #[.int .u8 n, .bool b] w fun e w' => e = .returned (.int .i64 x) ∧ w = w' :=
  (letter_any n b w hn).mono fun _ _ ⟨a, c⟩ => ⟨by rw [a, h], c⟩
theorem letR_drop {s : ByteArray} {k : Nat} (hk : k < s.size) (h : isS s[k] = true) : letR (s.data.toList.drop k) = (baseB s[k] + if (s.data.toList.drop (k + 1)).head? = some 46 then 2 else 0) :: letR (s.data.toList.drop (k + 1)) := by
  rw [dropS hk, letR, if_pos h]; simp
theorem letR_skip {s : ByteArray} {k : Nat} (hk : k < s.size) (h : isS s[k] = false) : letR (s.data.toList.drop k) = letR (s.data.toList.drop (k + 1)) := by
  rw [dropS hk, letR, if_neg (by simp [h])]
theorem head_in {s : ByteArray} {k : Nat} (hk : k < s.size) : (s.data.toList.drop k).head? = some s[k] := by rw [dropS hk]; rfl
theorem head_out {s : ByteArray} {k : Nat} (hk : s.size ≤ k) : (s.data.toList.drop k).head? = none := by rw [List.drop_eq_nil_of_le (by rw [sizeB]; exact hk)]; rfl
theorem base_int {c : UInt8} (h : isS c = true) (hx : c ≠ 120) : ((c.toNat : Int) = 117 ∨ (c.toNat : Int) = 45) ∧ ∀ b, lettI (c.toNat : Int) b = baseB c + if b = true then 2 else 0 := by
  rcases sign_cases h with rfl | rfl | rfl
  · exact ⟨.inl rfl, fun b => rfl⟩
  · exact ⟨.inr rfl, fun b => rfl⟩
  · exact absurd rfl hx
def LRel (s : ByteArray) (w : World) (v i : Value) (wr : World) : Prop :=
  ∃ (k n : Nat) (L : List Int), k ≤ s.size ∧ n ≤ k ∧ i = .int .i64 (k : Int) ∧ n = L.length ∧ L ++ letR (s.data.toList.drop k) = letR s.data.toList ∧ wr.ownsRow w.heap.size 3 1 v n (intCells L) ∧ Below w.heap.size w wr
theorem lrel_more {s : ByteArray} {w wr w1 : World} {v v' : Value} {o : Obj} {k n : Nat} {L : List Int} {x : Int} (hk : k < s.size) (hn : n ≤ k) (hL : n = L.length) (h : L ++ letR (s.data.toList.drop k) = letR s.data.toList)
    (hx : letR (s.data.toList.drop k) = x :: letR (s.data.toList.drop (k + 1))) (hown : wr.ownsRow w.heap.size 3 1 v n (intCells L)) (hb : Below w.heap.size w wr)
    (hown' : w1.ownsRow w.heap.size 3 1 v' (n + 1) (intCells L ++ [.int .i64 x])) (hg : (wr.alloc o).drew.grownBy w1 v.ownBlock) : LRel s w v' (.int .i64 ((k : Int) + 1)) w1 :=
  ⟨k + 1, n + 1, L ++ [x], by omega, by omega, by go_num, by simp [hL], by rw [← h, hx]; simp, by rw [intCells_snoc]; exact hown', (hb.alloc hb.size o).drew.grown hg (by have := hb.size; simp; omega) (fun j hj => (hown.lt j hj).1)⟩
def LettersPost (l : List UInt8) (w : World) (e : Ending) (w' : World) : Prop :=
  ∃ A c, e = .returned (.tuple #[.slice A (lettersVal l).1.length c, .int .i64 (lettersVal l).2]) ∧ w'.ownsRow w.heap.size 3 1 (.slice A (lettersVal l).1.length c) (lettersVal l).1.length (intCells (lettersVal l).1) ∧ Below w.heap.size w w'
theorem letters_ret {l : List UInt8} {w w' : World} {v : Value} {L : List Int} {x : Int} {n : Nat} (h : lettersVal l = (L, x)) (hn : n = L.length) (hown : w'.ownsRow w.heap.size 3 1 v n (intCells L)) (hb : Below w.heap.size w w') : LettersPost l w (.returned (.tuple #[v, .int .i64 x])) w' := by
  subst hn
  obtain ⟨A, c, rfl⟩ := own_slice hown
  exact ⟨A, c, by rw [h], by rw [h]; exact hown, hb⟩
theorem letters_none {l : List UInt8} {w w' : World} {x : Int} (h : lettersVal l = ([], x)) (hb : Below w.heap.size w w') : LettersPost l w (.returned (.tuple #[.slice none 0 0, .int .i64 x])) w' :=
  letters_ret h rfl (World.ownsRow_nil _ _ _ _) hb

theorem idxb_any (s : ByteArray) (c : Int) (w : World) : Calls Tryd.prog 38 #[.string s, .int .u8 c] w fun e w' => e = .returned (.int .i64 (Lib.indexByte s.data.toList c.toNat.toUInt8)) ∧ w = w' :=
  (Tryd.strings_IndexByte s c w).mono fun _ _ ⟨a, b⟩ => ⟨a, b.symm⟩
theorem idx_none {l : List UInt8} {c : UInt8} (h : c ∉ l) : Lib.indexByte l c = -1 := by
  induction l with
  | nil => rfl
  | cons b l ih =>
    have h1 : b ≠ c := fun e => h (by simp [e])
    have h2 := ih (fun hm => h (List.mem_cons_of_mem _ hm))
    unfold Lib.indexByte
    simp [h1, h2]
theorem idx_some {l : List UInt8} {c : UInt8} (h : c ∈ l) : 0 ≤ Lib.indexByte l c := by
  induction l with
  | nil => cases h
  | cons b l ih =>
    unfold Lib.indexByte
    by_cases h1 : b = c
    · simp [h1]
    · have h2 := ih (by rcases List.mem_cons.1 h with e | e; exact absurd e.symm h1; exact e)
      rw [if_neg (by simpa using h1), if_neg (by simp; omega)]; omega
end Go.Proofs.YtlkigmlgbnlkaaaDoor
