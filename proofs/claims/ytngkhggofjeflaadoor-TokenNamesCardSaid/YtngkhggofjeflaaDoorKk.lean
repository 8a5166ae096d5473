/- Contracts of Write, both sides. -/
import Derived.Test.YtngkhggofjeflaaDoorKj
namespace Go.Proofs.YtngkhggofjeflaaDoor
open Go.RowKit
set_option linter.unusedVariables false
set_option maxRecDepth 100000

theorem joinW_nil : joinW [] = [] := rfl
theorem joinW_snoc : ∀ (L : List Tok) (x : Tok), L ≠ [] → joinW (L ++ [x]) = joinW L ++ 32 :: wrK x
  | [], _, h => absurd rfl h
  | [a], x, _ => by rw [List.singleton_append, joinW_two, joinW_one, joinW_one]
  | a :: b :: r, x, _ => by
    have ih := joinW_snoc (b :: r) x (by simp)
    rw [List.cons_append, List.cons_append, joinW_two, joinW_two, ← List.cons_append, ih]; simp
theorem take_snoc {L : List Tok} {k : Nat} {x : Tok} (h : L[k]? = some x) : L.take (k + 1) = L.take k ++ [x] := by
  obtain ⟨hk, e⟩ := List.getElem?_eq_some_iff.1 h
  rw [List.take_succ_eq_append_getElem hk, e]
theorem joinW_take {L : List Tok} {k : Nat} {x : Tok} (h : L[k]? = some x) (h0 : 0 < k) : joinW (L.take (k + 1)) = joinW (L.take k) ++ 32 :: wrK x := by
  rw [take_snoc h, joinW_snoc]
  intro e
  obtain ⟨hk, _⟩ := List.getElem?_eq_some_iff.1 h
  have := congrArg List.length e
  rw [List.length_take] at this
  have h2 : min k L.length = 0 := this
  omega
theorem joinW_first {L : List Tok} {x : Tok} (h : L[0]? = some x) : joinW (L.take 1) = wrK x := by
  rw [take_snoc h]; exact joinW_one x
theorem all_snoc {L : List Tok} {k : Nat} {x : Tok} (h : L[k]? = some x) (h1 : (L.take k).all tokR = true) (h2 : tokR x = true) : (L.take (k + 1)).all tokR = true := by
  rw [take_snoc h, List.all_append, h1]; simp [h2]
theorem all_bad {L : List Tok} {k : Nat} {x : Tok} (h : L[k]? = some x) (h2 : tokR x = false) : L.all tokR = false := by
  rw [Bool.eq_false_iff]
  intro ha
  have := List.all_eq_true.1 ha x (List.mem_of_getElem? h)
  rw [h2] at this; cases this
theorem joinW_mono {L : List Tok} (k : Nat) : (joinW (L.take k)).length ≤ (joinW L).length := by
  have hs : ∀ k, k < L.length → (joinW (L.take k)).length ≤ (joinW (L.take (k + 1))).length := by
    intro k hk
    have hx : L[k]? = some L[k] := List.getElem?_eq_getElem hk
    by_cases h0 : 0 < k
    · rw [joinW_take hx h0]; simp
    · obtain rfl : k = 0 := by omega
      rw [List.take_zero, joinW_nil]; simp
  have ht : ∀ d k, k + d = L.length → (joinW (L.take k)).length ≤ (joinW L).length := by
    intro d
    induction d with
    | zero => intro k hk; rw [List.take_of_length_le (by omega)]; exact Nat.le_refl _
    | succ d ih => intro k hk; exact Nat.le_trans (hs k (by omega)) (ih (k + 1) (by omega))
  by_cases hk : k ≤ L.length
  · exact ht (L.length - k) k (by omega)
  · rw [List.take_of_length_le (by omega)]; exact Nat.le_refl _
def TwPost (L : List Tok) (w : World) (e : Ending) (w' : World) : Prop :=
  e = .returned (.tuple #[.string (bs (writeV L).1), .int .i64 (writeV L).2]) ∧ Below w.heap.size w w'
theorem tw_post {L : List Tok} {l : List UInt8} {x : Int} {b : ByteArray} {w w' : World} (h : writeV L = (l, x)) (hb : b = bs l) (hB : Below w.heap.size w w') : TwPost L w (.returned (.tuple #[.string b, .int .i64 x])) w' := by
  subst hb; exact ⟨by rw [h], hB⟩
/-- A row of strings of the call's own. -/
def StRow (f : Nat → ByteArray) (n g : Nat) (w wr : World) : Prop :=
  Below w.heap.size w wr ∧ w.heap.size ≤ g ∧ g < wr.heap.size ∧ (∀ j, j < n → wr.cell? ⟨g, j, none⟩ = some (.string (f j))) ∧ ∀ j, j < n → wr.frozen? ⟨g, j, none⟩ = false
theorem StRow.go {f : Nat → ByteArray} {n g : Nat} {w wr w1 : World} (h : StRow f n g w wr) (hb : Below wr.heap.size wr w1) : StRow f n g w w1 :=
  ⟨btwo h.1 (hb.mono (Nat.le_refl _)), h.2.1, Nat.lt_of_lt_of_le h.2.2.1 hb.size, fun j hj => (hb.cell (p := ⟨g, j, none⟩) h.2.2.1).trans (h.2.2.2.1 j hj), fun j hj => (hb.frozen (p := ⟨g, j, none⟩) h.2.2.1).trans (h.2.2.2.2 j hj)⟩
theorem StRow.set {f f' : Nat → ByteArray} {n g k : Nat} {w wr : World} {x : ByteArray} (h : StRow f n g w wr) (hk : k < n) (he : ∀ j, j ≠ k → f' j = f j) (hx : f' k = x) : StRow f' n g w (wr.setCell ⟨g, k, none⟩ (.string x)) := by
  refine ⟨h.1.setCell (p := ⟨g, k, none⟩) h.2.1 _, h.2.1, by simpa using h.2.2.1, fun j hj => ?_, fun j hj => (World.frozen?_setCell _ _ _ _).trans (h.2.2.2.2 j hj)⟩
  by_cases e : j = k
  · subst e; rw [World.cell?_setCell_same _ _ _ (h.2.2.2.1 j hj), hx]
  · rw [World.cell?_setCell_other _ _ _ _ (by first | (simp; done) | (simp; omega)), h.2.2.2.1 j hj, he j e]
theorem string_info : (Tryd.prog.info? 9).map (fun i => (i.zero, i.size, i.bytes)) = some (some (.string ⟨#[]⟩), 1, 16) := by kernel_rfl
theorem made_strs (n : Nat) : madeCells (Value.string ⟨#[]⟩).cells (n * 1) = (List.replicate n (Value.string ⟨#[]⟩)).toArray := by
  apply Array.ext
  · simp [size_madeCells]
  · intro i h1 h2
    simp [madeCells, Value.cells, Nat.mod_one]
theorem make_str (N : Int) (n : Nat) (h : N = (n : Int)) (hn : n ≤ 1000000) (w : World) :
    (Instr.makeSlice 37 (.int .i64 N) (.int .i64 N)).run Tryd.prog w = .ok (.slice (some ⟨w.heap.size, 0, none⟩) n n) (w.alloc (.cells (List.replicate n (Value.string ⟨#[]⟩)).toArray 9)) := by
  obtain ⟨i0, hi, hz0, hz1, hz2⟩ := info_parts string_info
  have := run_make (P := Tryd.prog) w 37 9 i0 (.string ⟨#[]⟩) Tryd.underlying37 hi hz0 .i64 .i64 N N (by omega) (Int.le_refl _) (by rw [hz2]; omega) (by omega)
  rw [this, hz1, h, ← made_strs]
  simp
theorem strow_new (n : Nat) (w : World) : StRow (fun _ => ⟨#[]⟩) n w.heap.size w (w.alloc (.cells (List.replicate n (Value.string ⟨#[]⟩)).toArray 9)) := by
  refine ⟨bnew _ _, Nat.le_refl _, by simp, fun j hj => ?_, fun j hj => ?_⟩
  · rw [World.cell?_alloc_mark]; simp [hj]
  · rw [World.frozen?_alloc_mark]; simp

theorem tok_load {w : World} {b off k : Nat} {x : Tok} (h : w.cell? ⟨b, off + k * 3, none⟩ = some (.int .i64 x.k) ∧ w.cell? ⟨b, off + k * 3 + 1, none⟩ = some (.string (bs x.t)) ∧ w.cell? ⟨b, off + k * 3 + 2, none⟩ = some (.int .i64 x.l)) {w' : World} (hb : Below w.heap.size w w') (hlt : b < w.heap.size) :
    w'.cell? ⟨b, off + k * 3, none⟩ = some (.int .i64 x.k) ∧ w'.cell? ⟨b, off + k * 3 + 1, none⟩ = some (.string (bs x.t)) ∧ w'.cell? ⟨b, off + k * 3 + 2, none⟩ = some (.int .i64 x.l) :=
  ⟨(hb.cell (p := ⟨b, _, none⟩) hlt).trans h.1, (hb.cell (p := ⟨b, _, none⟩) hlt).trans h.2.1, (hb.cell (p := ⟨b, _, none⟩) hlt).trans h.2.2⟩
set_option maxHeartbeats 8000000 in
theorem rwrite_any (L : List Tok) (n c : Nat) (A : Option Addr) (w : World) (hl : n = L.length) (hn : n ≤ 1000000) (hsz : ∀ x ∈ L, x.t.length ≤ 1000000) (hA : ToksIn w A L) :
    Calls Tryd.prog 19 #[.slice A n c] w (TwPost L w) := by
  have HL := Lib.hid hl
  have HA := Lib.hid hA
  have HS := Lib.hid hsz
  clear hl hA hsz
  go_enter Tryd.func19, Tryd.ntmps19
  go_wp2
  go_loopw [4] (fun i wr => ∃ k : Nat, k ≤ n ∧ i = .int .i64 k ∧ (L.take k).all tokR = true ∧ Below w.heap.size w wr) (fun i _ => n - (intOf i).toNat)
  case atStart => exact ⟨0, Nat.zero_le _, rfl, rfl, Below.refl _ _⟩
  case round =>
    obtain ⟨k, hk, rfl, hall, hbr⟩ := hrel
    have HALL := Lib.hid hall
    have HB := Lib.hid hbr
    have hszr := hbr.size
    clear hall
    by_cases hlt : k < n
    · have hkL : k < L.length := by have := HL.out; omega
      obtain ⟨b1, o1, rfl, hb1, hc1⟩ := HA.out (by omega)
      obtain ⟨x, hx⟩ : ∃ x, x = L[k] := ⟨_, rfl⟩
      have hx1 : L[k]? = some x := by rw [List.getElem?_eq_getElem hkL, hx]
      obtain ⟨xk, xt, xl⟩ := tok_load (hc1 k x hx1) hbr hb1
      have hxs : (bs x.t).size ≤ maxLen := by have := HS.out x (by rw [hx]; exact List.getElem_mem _); rw [bs_size]; unfold maxLen; omega
      have hb1r : b1 < wr.heap.size := by omega
      have HX := Lib.hid hx1
      clear hx hx1 hc1 hkL hbr
      cases hr : tokR x with
      | true =>
        have HR := Lib.hid (show rightT x.k (bs x.t).data.toList = true from hr)
        have HN := Lib.hid (all_snoc HX.out HALL.out hr)
        clear hr
        go_wp2_with fail
        refine (rright_any x.k x.l (bs x.t) _ hxs).mono ?_
        rintro e w1 ⟨rfl, hb2⟩
        rw [HR.out]
        have HB2 := Lib.hid (btwo HB.out hb2)
        clear hb2
        go_wp2_with fail
        go_roundw
        case rel => exact ⟨k + 1, by omega, by go_num, HN.out, HB2.out⟩
        case measure => simp [intOf]; omega
      | false =>
        have HR := Lib.hid (show rightT x.k (bs x.t).data.toList = false from hr)
        have HE := Lib.hid (write_bad (all_bad HX.out hr))
        clear hr
        go_wp2_with fail
        refine (rright_any x.k x.l (bs x.t) _ hxs).mono ?_
        rintro e w1 ⟨rfl, hb2⟩
        rw [HR.out]
        have HB2 := Lib.hid (btwo HB.out hb2)
        clear hb2
        go_wp2_with fail
        go_ret2
        exact tw_post HE.out rfl HB2.out
    · have HALL2 := Lib.hid (show L.all tokR = true by
        have := HALL.out
        rwa [List.take_of_length_le (by have := HL.out; omega)] at this)
      clear hbr
      go_wp2
      go_loopw [5, 6] (fun v i wr => ∃ (k : Nat) (o : ByteArray), k ≤ n ∧ o.size ≤ 20063 ∧ i = .int .i64 k ∧ v = .string o ∧ o.data.toList = joinW (L.take k) ∧ Below w.heap.size w wr) (fun _ i _ => n - (intOf i).toNat)
      case atStart => exact ⟨0, ⟨#[]⟩, Nat.zero_le _, by decide, rfl, rfl, rfl, HB.out⟩
      case round =>
        clear HB hszr HALL hk hlt
        obtain ⟨k, o, hk, hos, rfl, rfl, ho, hbr⟩ := hrel
        have HO := Lib.hid ho
        have HB := Lib.hid hbr
        have hszr := hbr.size
        have hol : o.size = (joinW (L.take k)).length := by rw [← ho, sizeB]
        have hmono := joinW_mono (L := L) k
        clear ho
        by_cases hlt : k < n
        · by_cases h20 : 20000 < o.size
          · have HE := Lib.hid (write_big (L := L) HALL2.out (by omega))
            clear hbr hol hmono
            go_wp2
            go_ret2
            exact tw_post HE.out rfl HB.out
          · have hkL : k < L.length := by have := HL.out; omega
            obtain ⟨b1, o1, rfl, hb1, hc1⟩ := HA.out (by omega)
            obtain ⟨x, hx⟩ : ∃ x, x = L[k] := ⟨_, rfl⟩
            have hx1 : L[k]? = some x := by rw [List.getElem?_eq_getElem hkL, hx]
            obtain ⟨xk, xt, xl⟩ := tok_load (hc1 k x hx1) hbr hb1
            have hxw := wr_size (show rightT x.k x.t = true from List.all_eq_true.1 HALL2.out x (by rw [hx]; exact List.getElem_mem _))
            have hxt : x.t.length ≤ 60 := hxw.2
            have hb1r : b1 < wr.heap.size := by omega
            have HX := Lib.hid hx1
            clear hx hx1 hc1 hkL hbr xl hxw hol hmono
            by_cases hk0 : k = 0
            · subst hk0
              simp only [Nat.zero_mul, Nat.add_zero] at xk xt
              by_cases h3 : x.k = 3
              · have HK := Lib.hid h3
                have e3 : (x.k == 3) = true := by simp [h3]
                clear h3
                have s1 : ∀ w : World, (Op.stringOp .add o (⟨#[34]⟩ : ByteArray)).run Tryd.prog w = .ok (.string (o ++ (⟨#[34]⟩ : ByteArray))) w := fun w => run_string_add_sum w _ _ (by (try simp only [ByteArray.size_append, bs_size]); (try simp only [show (⟨#[34]⟩ : ByteArray).size = 1 from rfl]); omega)
                have s2 : ∀ w : World, (Op.stringOp .add (o ++ (⟨#[34]⟩ : ByteArray)) (bs x.t)).run Tryd.prog w = .ok (.string ((o ++ (⟨#[34]⟩ : ByteArray)) ++ bs x.t)) w := fun w => run_string_add_sum w _ _ (by (try simp only [ByteArray.size_append, bs_size]); (try simp only [show (⟨#[34]⟩ : ByteArray).size = 1 from rfl]); omega)
                have s3 : ∀ w : World, (Op.stringOp .add ((o ++ (⟨#[34]⟩ : ByteArray)) ++ bs x.t) (⟨#[34]⟩ : ByteArray)).run Tryd.prog w = .ok (.string (((o ++ (⟨#[34]⟩ : ByteArray)) ++ bs x.t) ++ (⟨#[34]⟩ : ByteArray))) w := fun w => run_string_add_sum w _ _ (by (try simp only [ByteArray.size_append, bs_size]); (try simp only [show (⟨#[34]⟩ : ByteArray).size = 1 from rfl]); omega)
                have HN := Lib.hid (show (((o ++ (⟨#[34]⟩ : ByteArray)) ++ bs x.t) ++ (⟨#[34]⟩ : ByteArray)).data.toList = joinW (L.take 1) by
                  have ho0 : o.data.toList = [] := by rw [HO.out]; rfl
                  rw [joinW_first HX.out]
                  unfold wrK wrT
                  rw [if_pos HK.out]
                  simp only [cat_any, bs_list, ho0, List.nil_append]; try rfl
                  try simp)
                have hsz2 : (((o ++ (⟨#[34]⟩ : ByteArray)) ++ bs x.t) ++ (⟨#[34]⟩ : ByteArray)).size ≤ 20063 := by (try simp only [ByteArray.size_append, bs_size]); (try simp only [show (⟨#[34]⟩ : ByteArray).size = 1 from rfl]); omega
                go_wp2
                try go_quiet (fail)
                try go_wp2
                go_roundw
                case rel => exact ⟨1, _, by omega, hsz2, by go_num, rfl, HN.out, by first | exact HB.out | exact below_drewN HB.out _⟩
                case measure => simp [intOf]; omega
              · have HK := Lib.hid h3
                have e3 : (x.k == 3) = false := by simpa using h3
                clear h3
                have s1 : ∀ w : World, (Op.stringOp .add o (bs x.t)).run Tryd.prog w = .ok (.string (o ++ bs x.t)) w := fun w => run_string_add_sum w _ _ (by (try simp only [bs_size]); omega)
                have HN := Lib.hid (show (o ++ bs x.t).data.toList = joinW (L.take 1) by
                  have ho0 : o.data.toList = [] := by rw [HO.out]; rfl
                  rw [joinW_first HX.out]
                  unfold wrK wrT
                  rw [if_neg HK.out]
                  simp only [cat_any, bs_list, ho0, List.nil_append]; try rfl
                  try simp)
                have hsz2 : (o ++ bs x.t).size ≤ 20063 := by (try simp only [ByteArray.size_append, bs_size]); (try simp only [show (⟨#[34]⟩ : ByteArray).size = 1 from rfl]); omega
                go_wp2
                try go_quiet (fail)
                try go_wp2
                go_roundw
                case rel => exact ⟨1, _, by omega, hsz2, by go_num, rfl, HN.out, by first | exact HB.out | exact below_drewN HB.out _⟩
                case measure => simp [intOf]; omega
            · have hk1 : 0 < k := by omega
              by_cases h3 : x.k = 3
              · have HK := Lib.hid h3
                have e3 : (x.k == 3) = true := by simp [h3]
                clear h3
                have s0 : ∀ w : World, (Op.stringOp .add o (⟨#[32]⟩ : ByteArray)).run Tryd.prog w = .ok (.string (o ++ (⟨#[32]⟩ : ByteArray))) w := fun w => run_string_add_sum w _ _ (by show o.size + 1 ≤ _; omega)
                have s1 : ∀ w : World, (Op.stringOp .add (o ++ (⟨#[32]⟩ : ByteArray)) (⟨#[34]⟩ : ByteArray)).run Tryd.prog w = .ok (.string ((o ++ (⟨#[32]⟩ : ByteArray)) ++ (⟨#[34]⟩ : ByteArray))) w := fun w => run_string_add_sum w _ _ (by (try simp only [ByteArray.size_append]); (try simp only [show (⟨#[32]⟩ : ByteArray).size = 1 from rfl, show (⟨#[34]⟩ : ByteArray).size = 1 from rfl]); omega)
                have s2 : ∀ w : World, (Op.stringOp .add ((o ++ (⟨#[32]⟩ : ByteArray)) ++ (⟨#[34]⟩ : ByteArray)) (bs x.t)).run Tryd.prog w = .ok (.string (((o ++ (⟨#[32]⟩ : ByteArray)) ++ (⟨#[34]⟩ : ByteArray)) ++ bs x.t)) w := fun w => run_string_add_sum w _ _ (by (try simp only [ByteArray.size_append, bs_size]); (try simp only [show (⟨#[32]⟩ : ByteArray).size = 1 from rfl, show (⟨#[34]⟩ : ByteArray).size = 1 from rfl]); omega)
                have s3 : ∀ w : World, (Op.stringOp .add (((o ++ (⟨#[32]⟩ : ByteArray)) ++ (⟨#[34]⟩ : ByteArray)) ++ bs x.t) (⟨#[34]⟩ : ByteArray)).run Tryd.prog w = .ok (.string ((((o ++ (⟨#[32]⟩ : ByteArray)) ++ (⟨#[34]⟩ : ByteArray)) ++ bs x.t) ++ (⟨#[34]⟩ : ByteArray))) w := fun w => run_string_add_sum w _ _ (by (try simp only [ByteArray.size_append, bs_size]); (try simp only [show (⟨#[32]⟩ : ByteArray).size = 1 from rfl, show (⟨#[34]⟩ : ByteArray).size = 1 from rfl]); omega)
                have HN := Lib.hid (show ((((o ++ (⟨#[32]⟩ : ByteArray)) ++ (⟨#[34]⟩ : ByteArray)) ++ bs x.t) ++ (⟨#[34]⟩ : ByteArray)).data.toList = joinW (L.take (k + 1)) by
                  rw [joinW_take HX.out (by omega), ← HO.out]
                  unfold wrK wrT
                  rw [if_pos HK.out]
                  simp only [cat_any, bs_list]; try rfl
                  try simp)
                have hsz2 : ((((o ++ (⟨#[32]⟩ : ByteArray)) ++ (⟨#[34]⟩ : ByteArray)) ++ bs x.t) ++ (⟨#[34]⟩ : ByteArray)).size ≤ 20063 := by (try simp only [ByteArray.size_append, bs_size]); (try simp only [show (⟨#[32]⟩ : ByteArray).size = 1 from rfl, show (⟨#[34]⟩ : ByteArray).size = 1 from rfl]); omega
                go_wp2
                try go_quiet (fail)
                try go_wp2
                go_roundw
                case rel => exact ⟨k + 1, _, by omega, hsz2, by go_num, rfl, HN.out, by first | exact HB.out | exact below_drewN HB.out _⟩
                case measure => simp [intOf]; omega
              · have HK := Lib.hid h3
                have e3 : (x.k == 3) = false := by simpa using h3
                clear h3
                have s0 : ∀ w : World, (Op.stringOp .add o (⟨#[32]⟩ : ByteArray)).run Tryd.prog w = .ok (.string (o ++ (⟨#[32]⟩ : ByteArray))) w := fun w => run_string_add_sum w _ _ (by show o.size + 1 ≤ _; omega)
                have s1 : ∀ w : World, (Op.stringOp .add (o ++ (⟨#[32]⟩ : ByteArray)) (bs x.t)).run Tryd.prog w = .ok (.string ((o ++ (⟨#[32]⟩ : ByteArray)) ++ bs x.t)) w := fun w => run_string_add_sum w _ _ (by (try simp only [ByteArray.size_append, bs_size]); (try simp only [show (⟨#[32]⟩ : ByteArray).size = 1 from rfl]); omega)
                have HN := Lib.hid (show ((o ++ (⟨#[32]⟩ : ByteArray)) ++ bs x.t).data.toList = joinW (L.take (k + 1)) by
                  rw [joinW_take HX.out (by omega), ← HO.out]
                  unfold wrK wrT
                  rw [if_neg HK.out]
                  simp only [cat_any, bs_list]; try rfl
                  try simp)
                have hsz2 : ((o ++ (⟨#[32]⟩ : ByteArray)) ++ bs x.t).size ≤ 20063 := by (try simp only [ByteArray.size_append, bs_size]); (try simp only [show (⟨#[32]⟩ : ByteArray).size = 1 from rfl]); omega
                go_wp2
                try go_quiet (fail)
                try go_wp2
                go_roundw
                case rel => exact ⟨k + 1, _, by omega, hsz2, by go_num, rfl, HN.out, by first | exact HB.out | exact below_drewN HB.out _⟩
                case measure => simp [intOf]; omega
        · have HT := Lib.hid (show L.take k = L from List.take_of_length_le (by have := HL.out; omega))
          by_cases h20 : 20000 < o.size
          · have HE := Lib.hid (write_big (L := L) HALL2.out (by omega))
            clear hbr hol hmono
            go_wp2
            go_ret2
            exact tw_post HE.out rfl HB.out
          · have HE := Lib.hid (write_ok (L := L) HALL2.out (by rw [hol, HT.out] at h20; exact h20))
            clear hbr hol hmono
            go_wp2
            go_ret2
            exact tw_post HE.out (bs_of (by rw [HO.out, HT.out])) HB.out
end Go.Proofs.YtngkhggofjeflaaDoor
