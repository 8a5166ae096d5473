/- Contract of the reference's Format. -/
import Derived.Test.YtkfkefgkepoaaaaGreatDoorNBx
import Derived.Laws.IdiomStrings
namespace Go.Proofs.YtkfkefgkepoaaaaGreatDoor
open Go.RowKit
set_option linter.unusedVariables false
set_option maxRecDepth 100000

def lowD (d : Int) : Nat → Int
  | 0 => d
  | k + 1 => lowD d k / 10
/-- The last k decimal digits. -/
def pads (d : Int) : Nat → List UInt8
  | 0 => []
  | k + 1 => chr (lowD d k % 10) :: pads d k
theorem pads4 {d : Int} (h0 : 0 ≤ d) (h1 : d < 10000) : pads d 4 = pad4 d := by
  simp only [pads, lowD, pad4]
  rw [show d / 10 / 10 / 10 % 10 = d / 1000 by omega, show d / 10 / 10 % 10 = d / 100 % 10 by omega]
theorem lowD_bd {d : Int} (h0 : 0 ≤ d) (h1 : d < 10000) (k : Nat) : 0 ≤ lowD d k ∧ lowD d k < 10000 := by
  induction k with
  | zero => exact ⟨h0, h1⟩
  | succ k ih => unfold lowD; omega
theorem pads_len (d : Int) (k : Nat) : (pads d k).length = k := by
  induction k with
  | zero => rfl
  | succ k ih => unfold pads; simp [ih]
theorem conv_one (w : World) (g : Nat) (c : UInt8) (x : Int) (hg : w.heap.size = g) (hx : x = (c.toNat : Int)) :
    (convert 72 9 (.slice (some ⟨g, 0, none⟩) 1 1)).run Tryz.prog (w.alloc (.cells #[.int .u8 x] 5)) = .ok (.string ⟨#[c]⟩) (w.alloc (.cells #[.int .u8 x] 5)) := by
  subst hg; subst hx
  exact run_convert_bytes_back (P := Tryz.prog) (w.alloc (.cells #[.int .u8 (c.toNat : Int)] 5)) 72 9 5 ⟨w.heap.size, 0, none⟩ 1 [c] Tryz.underlying72 Tryz.underlying5 Tryz.underlying9 (by
    intro j hj
    obtain rfl : j = 0 := by simpa using hj
    simp [Addr.add])
theorem strip_go {l : List UInt8} (h : 1 < l.length) (h0 : l.head? = some 48) : strip (l.drop 1) = strip l := by
  match l, h with
  | c :: d :: l, _ =>
    have : c = 48 := by simpa using h0
    subst this
    rw [strip.eq_3, if_pos rfl]; rfl
theorem strip_stop {l : List UInt8} (h : ¬ 1 < l.length ∨ l.head? ≠ some 48) : strip l = l := by
  match l with
  | [] => rfl
  | [c] => rfl
  | c :: d :: l =>
    rw [strip.eq_3, if_neg]
    intro e
    subst e
    rcases h with h | h
    · simp at h
    · exact h rfl
theorem padL_snoc {L : List Int} {k : Nat} (h : k < L.length) : padL (L.take (k + 1)) = pad4 (L.getD k 0) ++ padL (L.take k) := by
  have hp : ∀ l : List Int, ∀ d, padL (l ++ [d]) = pad4 d ++ padL l := by
    intro l
    induction l with
    | nil => intro d; simp [padL]
    | cons x l ih => intro d; rw [List.cons_append]; simp only [padL]; rw [ih]; simp
  rw [List.take_succ_eq_append_getElem h, hp, getD_lt h]
theorem head_at {s : ByteArray} (h : 0 < s.size) : s.data.toList.head? = some (s[0]'h) := by
  rw [List.head?_eq_getElem?, List.getElem?_eq_getElem (by rw [sizeB]; exact h)]; rfl
theorem head48 {s : ByteArray} (h : 0 < s.size) (h0 : ((s[0]'h).toNat : Int) = 48) : s.data.toList.head? = some 48 := by
  rw [head_at h]; exact congrArg some (UInt8.toNat_inj.1 (by show _ = 48; omega))
theorem head48n {s : ByteArray} (h : 0 < s.size) (h0 : ¬ ((s[0]'h).toNat : Int) = 48) : s.data.toList.head? ≠ some 48 := by
  rw [head_at h]; intro e; apply h0
  have := Option.some.inj e
  rw [this]; rfl
theorem ext1 (s : ByteArray) : (s.extract 1 s.size).data.toList = s.data.toList.drop 1 := by
  have : (s.extract 1 s.size).data.toList = (s.data.toList.take s.size).drop 1 := by simp [List.drop_take]
  rw [this, List.take_of_length_le (by rw [sizeB]; exact Nat.le_refl _)]
/-- The loop that strikes zeros, and what follows. -/
def StripSt (L : List Int) (s : ByteArray) : Prop := strip s.data.toList = strip (padL L)
theorem of_bytes {o : ByteArray} {l : List UInt8} (h : o.data.toList = l) : o = ⟨l.toArray⟩ := by subst h; rfl
theorem fmt_fin {L : List Int} {s : ByteArray} (h : StripSt L s) (hs : strip s.data.toList = s.data.toList) (hd : Dig L) (hv : fmtV L = (fmt (val L), 0)) (h0 : s.size ≠ 0) : s = ⟨(fmt (val L)).toArray⟩ := by
  unfold StripSt at h
  rw [hs] at h
  have hL : L ≠ [] := by
    intro e; subst e
    rw [show strip (padL []) = [] from rfl] at h
    apply h0; rw [← sizeB, h]; rfl
  rw [fmt_strip hd hL] at h
  exact of_bytes h
theorem fmt_fin0 {L : List Int} {s : ByteArray} (h : StripSt L s) (h0 : s.size = 0) (hd : Dig L) : val L = 0 := by
  unfold StripSt at h
  have e : s.data.toList = [] := List.eq_nil_of_length_eq_zero (by rw [sizeB]; exact h0)
  rw [e] at h
  have : padL L = [] := by
    by_cases c : padL L = []
    · exact c
    · exact absurd h.symm ((strip_dec (padL L)).2.2.1 c)
  rw [← padL_dec hd, this]; rfl
end Go.Proofs.YtkfkefgkepoaaaaGreatDoor
