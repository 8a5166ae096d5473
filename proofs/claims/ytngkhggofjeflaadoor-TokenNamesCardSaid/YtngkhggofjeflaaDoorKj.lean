/- Contracts on lists of tokens: Same of both sides, slices.Equal, the reference's Few. -/
import Derived.Test.YtngkhggofjeflaaDoorKi
namespace Go.Proofs.YtngkhggofjeflaaDoor
open Go.RowKit
set_option linter.unusedVariables false
set_option maxRecDepth 100000

def sameT (x y : Tok) : Bool := x.k == y.k && x.t == y.t
def sameL : List Tok → List Tok → Bool
  | [], [] => true
  | x :: r, y :: s => sameT x y && sameL r s
  | _, _ => false
theorem sameT_is {x y : Tok} : sameT x y = true ↔ x.k = y.k ∧ x.t = y.t := by unfold sameT; simp
theorem sameL_is : ∀ {a b : List Tok}, sameL a b = true ↔ a.length = b.length ∧ ∀ (j : Nat) (x y : Tok), a[j]? = some x → b[j]? = some y → sameT x y = true
  | [], [] => by simp [sameL]
  | [], y :: s => by simp [sameL]
  | x :: r, [] => by simp [sameL]
  | x :: r, y :: s => by
    have ih := @sameL_is r s
    simp only [sameL, Bool.and_eq_true, ih, List.length_cons]
    constructor
    · rintro ⟨h1, h2, h3⟩
      refine ⟨by omega, fun j u v hu hv => ?_⟩
      cases j with
      | zero => simp at hu hv; subst hu; subst hv; exact h1
      | succ j => exact h3 j u v (by simpa using hu) (by simpa using hv)
    · rintro ⟨h1, h2⟩
      exact ⟨h2 0 x y rfl rfl, by omega, fun j u v hu hv => h2 (j + 1) u v (by simpa using hu) (by simpa using hv)⟩
theorem sameL_no {a b : List Tok} {k : Nat} {x y : Tok} (hx : a[k]? = some x) (hy : b[k]? = some y) (h : sameT x y = false) : sameL a b = false := by
  rw [Bool.eq_false_iff]
  intro hs
  have := (sameL_is.1 hs).2 k x y hx hy
  rw [h] at this; cases this
theorem sameL_len {a b : List Tok} (h : a.length ≠ b.length) : sameL a b = false := by
  rw [Bool.eq_false_iff]
  intro hs
  exact h (sameL_is.1 hs).1
theorem sameL_refl (a : List Tok) : sameL a a = true :=
  sameL_is.2 ⟨rfl, fun j x y hx hy => by rw [hx] at hy; rw [Option.some.inj hy]; exact sameT_is.2 ⟨rfl, rfl⟩⟩
theorem sameL_symm (a b : List Tok) : sameL a b = sameL b a := by
  rw [Bool.eq_iff_iff, sameL_is, sameL_is]
  constructor
  · rintro ⟨h1, h2⟩
    refine ⟨h1.symm, fun j x y hx hy => ?_⟩
    have := sameT_is.1 (h2 j y x hy hx)
    exact sameT_is.2 ⟨this.1.symm, this.2.symm⟩
  · rintro ⟨h1, h2⟩
    refine ⟨h1.symm, fun j x y hx hy => ?_⟩
    have := sameT_is.1 (h2 j y x hy hx)
    exact sameT_is.2 ⟨this.1.symm, this.2.symm⟩
theorem sameL_trans {a b c : List Tok} (h1 : sameL a b = true) (h2 : sameL b c = true) : sameL a c = true := by
  obtain ⟨l1, e1⟩ := sameL_is.1 h1
  obtain ⟨l2, e2⟩ := sameL_is.1 h2
  refine sameL_is.2 ⟨l1.trans l2, fun j x z hx hz => ?_⟩
  have hj : j < b.length := by
    have := (List.getElem?_eq_some_iff.1 hx).1
    omega
  have hy : b[j]? = some b[j] := List.getElem?_eq_getElem hj
  have p := sameT_is.1 (e1 j x _ hx hy)
  have q := sameT_is.1 (e2 j _ z hy hz)
  exact sameT_is.2 ⟨p.1.trans q.1, p.2.trans q.2⟩
theorem sameL_set (ln : Int) : ∀ L : List Tok, sameL L (L.map (setL ln)) = true
  | [] => rfl
  | x :: r => by
    rw [List.map_cons, sameL, sameL_set ln r, Bool.and_true]
    exact sameT_is.2 ⟨rfl, rfl⟩
theorem toList_bs (l : List UInt8) : (bs l).toList = l := by rw [ByteArray.toList_eq]; rfl

set_option maxHeartbeats 4000000 in
theorem rsame_any (L M : List Tok) (n m c d : Nat) (A C : Option Addr) (w : World) (hl : n = L.length) (hm : m = M.length) (hn : n ≤ 1000000) (hm1 : m ≤ 1000000) (hA : ToksIn w A L) (hC : ToksIn w C M) :
    Calls Tryd.prog 20 #[.slice A n c, .slice C m d] w fun e w' => e = .returned (.bool (sameL L M)) ∧ ∃ q, w' = w.drewN q := by
  by_cases hlen : n = m
  · subst hlen
    have HL := Lib.hid hl
    have HM := Lib.hid hm
    have HA := Lib.hid hA
    have HC := Lib.hid hC
    clear hl hm hA hC
    go_enter Tryd.func20, Tryd.ntmps20
    go_wp2
    go_loopw [5] (fun i wr => ∃ k : Nat, k ≤ n ∧ i = .int .i64 k ∧ (∀ (j : Nat) (x y : Tok), j < k → L[j]? = some x → M[j]? = some y → sameT x y = true) ∧ ∃ q, wr = w.drewN q) (fun i _ => n - (intOf i).toNat)
    case atStart => exact ⟨0, Nat.zero_le _, rfl, fun j _ _ hj => by omega, 0, rfl⟩
    case round =>
      obtain ⟨k, hk, rfl, htk, q, rfl⟩ := hrel
      have HT := Lib.hid htk
      clear htk
      by_cases hlt : k < n
      · have hkL : k < L.length := by have := HL.out; omega
        have hkM : k < M.length := by have := HM.out; omega
        obtain ⟨b1, o1, rfl, hb1, hc1⟩ := HA.out (by omega)
        obtain ⟨b2, o2, rfl, hb2, hc2⟩ := HC.out (by omega)
        obtain ⟨x, hx⟩ : ∃ x, x = L[k] := ⟨_, rfl⟩
        obtain ⟨y, hy⟩ : ∃ y, y = M[k] := ⟨_, rfl⟩
        have hx1 : L[k]? = some x := by rw [List.getElem?_eq_getElem hkL, hx]
        have hy1 : M[k]? = some y := by rw [List.getElem?_eq_getElem hkM, hy]
        obtain ⟨xk, xt, xl⟩ := hc1 k x hx1
        obtain ⟨yk, yt, yl⟩ := hc2 k y hy1
        have HX := Lib.hid hx1
        have HY := Lib.hid hy1
        clear hx hy hx1 hy1 hc1 hc2 xl yl hkL hkM
        by_cases ek : x.k = y.k
        · by_cases et : x.t = y.t
          · have HN := Lib.hid (show ∀ (j : Nat) (u v : Tok), j < k + 1 → L[j]? = some u → M[j]? = some v → sameT u v = true from fun j u v hj hu hv => by
              by_cases e : j = k
              · subst e
                rw [HX.out] at hu
                rw [HY.out] at hv
                rw [← Option.some.inj hu, ← Option.some.inj hv]
                exact sameT_is.2 ⟨ek, et⟩
              · exact HT.out j u v (by omega) hu hv)
            have e1 : (x.k != y.k) = false := by simp [ek]
            have e1' : (x.k == y.k) = true := by simp [ek]
            have e2 : ((bs x.t).toList == (bs y.t).toList) = true := by simp [et]
            have e2' : ((bs x.t).toList != (bs y.t).toList) = false := by simp [et]
            clear ek et
            go_wp2
            try go_quiet (fail)
            try go_wp2
            go_roundw
            case rel => exact ⟨k + 1, by omega, by go_num, HN.out, _, by first | rfl | exact World.drewN_drewN _ _ _⟩
            case measure => simp [intOf]; omega
          · have HE := Lib.hid (sameL_no HX.out HY.out (by rw [Bool.eq_false_iff]; intro h; exact et (sameT_is.1 h).2))
            have e1 : (x.k != y.k) = false := by simp [ek]
            have e1' : (x.k == y.k) = true := by simp [ek]
            have e2 : ((bs x.t).toList == (bs y.t).toList) = false := by rw [toList_bs, toList_bs]; simpa using et
            have e2' : ((bs x.t).toList != (bs y.t).toList) = true := by rw [toList_bs, toList_bs]; simpa using et
            clear ek et
            go_wp2
            try go_quiet (fail)
            try go_wp2
            go_ret
            exact ⟨ret_bool (by rw [HE.out]), _, by first | rfl | exact World.drewN_drewN _ _ _⟩
        · have HE := Lib.hid (sameL_no HX.out HY.out (by rw [Bool.eq_false_iff]; intro h; exact ek (sameT_is.1 h).1))
          have e1 : (x.k != y.k) = true := by simpa using ek
          have e1' : (x.k == y.k) = false := by simpa using ek
          clear ek
          go_wp2
          try go_quiet (fail)
          try go_wp2
          go_ret
          exact ⟨ret_bool (by rw [HE.out]), _, by first | rfl | exact World.drewN_drewN _ _ _⟩
      · have HE := Lib.hid (show sameL L M = true from sameL_is.2 ⟨by have := HL.out; have := HM.out; omega, fun j u v hu hv => HT.out j u v (by have := (List.getElem?_eq_some_iff.1 hu).1; have := HL.out; omega) hu hv⟩)
        go_wp2
        go_ret
        exact ⟨ret_bool (by rw [HE.out]), _, by first | rfl | exact World.drewN_drewN _ _ _⟩
  · have HE := Lib.hid (show sameL L M = false from sameL_len (by omega))
    have hne : ((n : Int) == (m : Int)) = false := by simp; omega
    have hne' : ((n : Int) != (m : Int)) = true := by simp; omega
    clear hlen hl hm hA hC
    go_enter Tryd.func20, Tryd.ntmps20
    go_wp2
    go_ret
    exact ⟨ret_bool (by rw [HE.out]), 0, rfl⟩

set_option maxHeartbeats 4000000 in
theorem same_any (L M : List Tok) (n m c d : Nat) (A C : Option Addr) (w : World) (hl : n = L.length) (hm : m = M.length) (hn : n ≤ 1000000) (hm1 : m ≤ 1000000) (hA : ToksIn w A L) (hC : ToksIn w C M) :
    Calls Tryd.prog 21 #[.slice A n c, .slice C m d] w fun e w' => e = .returned (.bool (sameL L M)) ∧ ∃ q, w' = w.drewN q := by
  by_cases hlen : n = m
  · subst hlen
    have HL := Lib.hid hl
    have HM := Lib.hid hm
    have HA := Lib.hid hA
    have HC := Lib.hid hC
    clear hl hm hA hC
    go_enter Tryd.func21, Tryd.ntmps21
    go_wp2
    go_loopw [13] (fun i wr => ∃ k : Nat, k ≤ n ∧ i = .int .i64 k ∧ (∀ (j : Nat) (x y : Tok), j < k → L[j]? = some x → M[j]? = some y → sameT x y = true) ∧ ∃ q, wr = w.drewN q) (fun i _ => n - (intOf i).toNat)
    case atStart => exact ⟨0, Nat.zero_le _, rfl, fun j _ _ hj => by omega, 0, rfl⟩
    case round =>
      obtain ⟨k, hk, rfl, htk, q, rfl⟩ := hrel
      have HT := Lib.hid htk
      clear htk
      by_cases hlt : k < n
      · have hkL : k < L.length := by have := HL.out; omega
        have hkM : k < M.length := by have := HM.out; omega
        obtain ⟨b1, o1, rfl, hb1, hc1⟩ := HA.out (by omega)
        obtain ⟨b2, o2, rfl, hb2, hc2⟩ := HC.out (by omega)
        obtain ⟨x, hx⟩ : ∃ x, x = L[k] := ⟨_, rfl⟩
        obtain ⟨y, hy⟩ : ∃ y, y = M[k] := ⟨_, rfl⟩
        have hx1 : L[k]? = some x := by rw [List.getElem?_eq_getElem hkL, hx]
        have hy1 : M[k]? = some y := by rw [List.getElem?_eq_getElem hkM, hy]
        obtain ⟨xk, xt, xl⟩ := hc1 k x hx1
        obtain ⟨yk, yt, yl⟩ := hc2 k y hy1
        have HX := Lib.hid hx1
        have HY := Lib.hid hy1
        clear hx hy hx1 hy1 hc1 hc2 xl yl hkL hkM
        by_cases ek : x.k = y.k
        · by_cases et : x.t = y.t
          · have HN := Lib.hid (show ∀ (j : Nat) (u v : Tok), j < k + 1 → L[j]? = some u → M[j]? = some v → sameT u v = true from fun j u v hj hu hv => by
              by_cases e : j = k
              · subst e
                rw [HX.out] at hu
                rw [HY.out] at hv
                rw [← Option.some.inj hu, ← Option.some.inj hv]
                exact sameT_is.2 ⟨ek, et⟩
              · exact HT.out j u v (by omega) hu hv)
            have e1 : (x.k != y.k) = false := by simp [ek]
            have e1' : (x.k == y.k) = true := by simp [ek]
            have e2 : ((bs x.t).toList == (bs y.t).toList) = true := by simp [et]
            have e2' : ((bs x.t).toList != (bs y.t).toList) = false := by simp [et]
            clear ek et
            go_wp2
            try go_quiet (fail)
            try go_wp2
            go_roundw
            case rel => exact ⟨k + 1, by omega, by go_num, HN.out, _, by first | rfl | exact World.drewN_drewN _ _ _⟩
            case measure => simp [intOf]; omega
          · have HE := Lib.hid (sameL_no HX.out HY.out (by rw [Bool.eq_false_iff]; intro h; exact et (sameT_is.1 h).2))
            have e1 : (x.k != y.k) = false := by simp [ek]
            have e1' : (x.k == y.k) = true := by simp [ek]
            have e2 : ((bs x.t).toList == (bs y.t).toList) = false := by rw [toList_bs, toList_bs]; simpa using et
            have e2' : ((bs x.t).toList != (bs y.t).toList) = true := by rw [toList_bs, toList_bs]; simpa using et
            clear ek et
            go_wp2
            try go_quiet (fail)
            try go_wp2
            go_ret
            exact ⟨ret_bool (by rw [HE.out]), _, by first | rfl | exact World.drewN_drewN _ _ _⟩
        · have HE := Lib.hid (sameL_no HX.out HY.out (by rw [Bool.eq_false_iff]; intro h; exact ek (sameT_is.1 h).1))
          have e1 : (x.k != y.k) = true := by simpa using ek
          have e1' : (x.k == y.k) = false := by simpa using ek
          clear ek
          go_wp2
          try go_quiet (fail)
          try go_wp2
          go_ret
          exact ⟨ret_bool (by rw [HE.out]), _, by first | rfl | exact World.drewN_drewN _ _ _⟩
      · have HE := Lib.hid (show sameL L M = true from sameL_is.2 ⟨by have := HL.out; have := HM.out; omega, fun j u v hu hv => HT.out j u v (by have := (List.getElem?_eq_some_iff.1 hu).1; have := HL.out; omega) hu hv⟩)
        go_wp2
        go_ret
        exact ⟨ret_bool (by rw [HE.out]), _, by first | rfl | exact World.drewN_drewN _ _ _⟩
  · have HE := Lib.hid (show sameL L M = false from sameL_len (by omega))
    have hne : ((n : Int) == (m : Int)) = false := by simp; omega
    have hne' : ((n : Int) != (m : Int)) = true := by simp; omega
    clear hlen hl hm hA hC
    go_enter Tryd.func21, Tryd.ntmps21
    go_wp2
    go_ret
    exact ⟨ret_bool (by rw [HE.out]), 0, rfl⟩

set_option maxHeartbeats 4000000 in
theorem eqt_refl (L : List Tok) (n c d : Nat) (A C : Option Addr) (w : World) (hl : n = L.length) (hn : n ≤ 1000000) (hA : ToksIn w A L) (hC : ToksIn w C L) :
    Calls Tryd.prog 15 #[.slice A n c, .slice C n d] w fun e w' => e = .returned (.bool true) ∧ ∃ q, w' = w.drewN q := by
  have HL := Lib.hid hl
  have HA := Lib.hid hA
  have HC := Lib.hid hC
  clear hl hA hC
  go_enter Tryd.func15, Tryd.ntmps15
  go_wp2
  go_loopw [13] (fun i wr => ∃ k : Nat, k ≤ n ∧ i = .int .i64 k ∧ ∃ q, wr = w.drewN q) (fun i _ => n - (intOf i).toNat)
  case atStart => exact ⟨0, Nat.zero_le _, rfl, 0, rfl⟩
  case round =>
    obtain ⟨k, hk, rfl, q, rfl⟩ := hrel
    by_cases hlt : k < n
    · have hkL : k < L.length := by have := HL.out; omega
      obtain ⟨b1, o1, rfl, hb1, hc1⟩ := HA.out (by omega)
      obtain ⟨b2, o2, rfl, hb2, hc2⟩ := HC.out (by omega)
      obtain ⟨x, hx⟩ : ∃ x, x = L[k] := ⟨_, rfl⟩
      have hx1 : L[k]? = some x := by rw [List.getElem?_eq_getElem hkL, hx]
      obtain ⟨xk, xt, xl⟩ := hc1 k x hx1
      obtain ⟨yk, yt, yl⟩ := hc2 k x hx1
      clear hx hx1 hc1 hc2 hkL
      go_wp2
      try go_quiet (fail)
      try go_wp2
      go_roundw
      case rel => exact ⟨k + 1, by omega, by go_num, _, by first | rfl | exact World.drewN_drewN _ _ _⟩
      case measure => simp [intOf]; omega
    · go_wp2
      go_ret
      exact ⟨rfl, _, by first | rfl | exact World.drewN_drewN _ _ _⟩

def sumT (L : List Tok) : Nat := (L.map (fun x => x.t.length)).sum
def fewB (L : List Tok) : Bool := decide (L.length ≤ 400) && decide (sumT L ≤ 3000)
theorem sum_take {L : List Tok} {k : Nat} {x : Tok} (h : L[k]? = some x) : sumT (L.take (k + 1)) = sumT (L.take k) + x.t.length := by
  obtain ⟨hk, e⟩ := List.getElem?_eq_some_iff.1 h
  unfold sumT
  rw [List.take_succ_eq_append_getElem hk, e]; simp
theorem sum_le (L : List Tok) (k : Nat) : sumT (L.take k) ≤ sumT L := by
  have e : L = L.take k ++ L.drop k := (List.take_append_drop _ _).symm
  have : sumT L = sumT (L.take k) + sumT (L.drop k) := by
    conv => lhs; rw [e]
    unfold sumT; rw [List.map_append, List.sum_append]
  omega
theorem sum_mem {L : List Tok} {x : Tok} (h : x ∈ L) : x.t.length ≤ sumT L := by
  obtain ⟨k, hk, e⟩ := List.mem_iff_getElem.1 h
  have h1 : L[k]? = some x := by rw [List.getElem?_eq_getElem hk, e]
  have h2 := sum_take h1
  have h3 := sum_le L (k + 1)
  omega
theorem few_yes {L : List Tok} (h : fewB L = true) : L.length ≤ 400 ∧ sumT L ≤ 3000 := by
  unfold fewB at h; simpa using h
set_option maxHeartbeats 4000000 in
theorem few_any (L : List Tok) (n c : Nat) (A : Option Addr) (w : World) (hl : n = L.length) (hn : n ≤ 17592186044416) (hsz : ∀ x ∈ L, x.t.length ≤ 140737488355328) (hA : ToksIn w A L) :
    Calls Tryd.prog 16 #[.slice A n c] w fun e w' => e = .returned (.bool (fewB L)) ∧ ∃ q, w' = w.drewN q := by
  have HL := Lib.hid hl
  have HA := Lib.hid hA
  have HS := Lib.hid hsz
  clear hl hA hsz
  go_enter Tryd.func16, Tryd.ntmps16
  go_wp2
  go_loopw [3, 4] (fun v i wr => ∃ k m : Nat, k ≤ n ∧ m ≤ 140737488358328 ∧ i = .int .i64 k ∧ v = .int .i64 m ∧ sumT (L.take k) = m ∧ ∃ q, wr = w.drewN q) (fun _ i _ => n - (intOf i).toNat)
  case atStart => exact ⟨0, 0, Nat.zero_le _, Nat.zero_le _, rfl, rfl, rfl, 0, rfl⟩
  case round =>
    obtain ⟨k, m, hk, hm, rfl, rfl, hsum, q, rfl⟩ := hrel
    have HM := Lib.hid hsum
    by_cases hm3 : m ≤ 3000
    · by_cases hlt : k < n
      · have hkL : k < L.length := by have := HL.out; omega
        obtain ⟨b1, o1, rfl, hb1, hc1⟩ := HA.out (by omega)
        obtain ⟨x, hx⟩ : ∃ x, x = L[k] := ⟨_, rfl⟩
        have hx1 : L[k]? = some x := by rw [List.getElem?_eq_getElem hkL, hx]
        obtain ⟨xk, xt, xl⟩ := hc1 k x hx1
        have hxs : x.t.length ≤ 140737488355328 := HS.out x (by rw [hx]; exact List.getElem_mem _)
        have HN := Lib.hid (show sumT (L.take (k + 1)) = m + x.t.length by rw [sum_take hx1, HM.out])
        have hsx : (bs x.t).size = x.t.length := rfl
        obtain ⟨y, hy⟩ : ∃ y, y = x.t.length := ⟨_, rfl⟩
        rw [← hy] at hxs hsx HN
        clear hx hx1 hc1 hkL xk xl hsum hy
        go_wp2
        try go_quiet (fail)
        try go_wp2
        go_roundw
        case rel => exact ⟨k + 1, m + y, by omega, by omega, by go_num, by go_num, HN.out, _, by first | rfl | exact World.drewN_drewN _ _ _⟩
        case measure => simp [intOf]; omega
      · have HF := Lib.hid (show fewB L = decide (n ≤ 400) by
          have e1 : L.take k = L := List.take_of_length_le (by have := HL.out; omega)
          rw [e1] at hsum
          unfold fewB
          rw [hsum, ← HL.out, decide_eq_true hm3, Bool.and_true])
        clear hsum
        by_cases h4 : n ≤ 400
        · go_wp2
          go_ret
          exact ⟨ret_bool (by rw [HF.out]; simp; omega), _, by first | rfl | exact World.drewN_drewN _ _ _⟩
        · go_wp2
          go_ret
          exact ⟨ret_bool (by rw [HF.out]; simp; omega), _, by first | rfl | exact World.drewN_drewN _ _ _⟩
    · have HF := Lib.hid (show fewB L = false by
        have h1 := sum_le L k
        unfold fewB
        rw [decide_eq_false (show ¬ sumT L ≤ 3000 by omega), Bool.and_false])
      clear hsum
      have hm3' : 3000 < m := by omega
      by_cases h4 : n ≤ 400
      · by_cases hlt : k < n
        all_goals
          go_wp2
          go_ret
          exact ⟨ret_bool (by rw [HF.out]; try (simp; omega)), _, by first | rfl | exact World.drewN_drewN _ _ _⟩
      · by_cases hlt : k < n
        all_goals
          go_wp2
          go_ret
          exact ⟨ret_bool (by rw [HF.out]; try (simp; omega)), _, by first | rfl | exact World.drewN_drewN _ _ _⟩
end Go.Proofs.YtngkhggofjeflaaDoor
