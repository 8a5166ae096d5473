/- Contract of the reference's Format. -/
import Derived.Test.YtbhneddjjgegmaaGreatDoorNBx
import Derived.Laws.IdiomStrings
namespace Go.Proofs.YtbhneddjjgegmaaGreatDoor
open Go.RowKit
set_option linter.unusedVariables false
set_option maxRecDepth 100000

def lowD (d : Int) : Nat → Int
  | 0 => d
  | k + 1 => lowD d k / 10
/-- The last k decimal digits. -/
def pads (d : Int) : Nat → List UInt8
  | 0 => []
  | k + 1 => chr (lowD d k % 10) :: pads d k
theorem pads4 {d : Int} (h0 : 0 ≤ d) (h1 : d < 10000) : pads d 4 = pad4 d := by
  simp only [pads, lowD, pad4]
  rw [show d / 10 / 10 / 10 % 10 = d / 1000 by omega, show d / 10 / 10 % 10 = d / 100 % 10 by omega]
theorem lowD_bd {d : Int} (h0 : 0 ≤ d) (h1 : d < 10000) (k : Nat) : 0 ≤ lowD d k ∧ lowD d k < 10000 := by
  induction k with
  | zero => exact ⟨h0, h1⟩
  | succ k ih => unfold lowD; omega
theorem pads_len (d : Int) (k : Nat) : (pads d k).length = k := by
  induction k with
  | zero => rfl
  | succ k ih => unfold pads; simp [ih]
theorem conv_one (w : World) (g : Nat) (c : UInt8) (x : Int) (hg : w.heap.size = g) (hx : x = (c.toNat : Int)) :
    (convert 50 9 (.slice (some ⟨g, 0, none⟩) 1 1)).run Tryz.prog (w.alloc (.cells #[.int .u8 x] 5)) = .ok (.string ⟨#[c]⟩) (w.alloc (.cells #[.int .u8 x] 5)) := by
  subst hg; subst hx
  exact run_convert_bytes_back (P := Tryz.prog) (w.alloc (.cells #[.int .u8 (c.toNat : Int)] 5)) 50 9 5 ⟨w.heap.size, 0, none⟩ 1 [c] Tryz.underlying50 Tryz.underlying5 Tryz.underlying9 (by
    intro j hj
    obtain rfl : j = 0 := by simpa using hj
    simp [Addr.add])
theorem strip_go {l : List UInt8} (h : 1 < l.length) (h0 : l.head? = some 48) : strip (l.drop 1) = strip l := by
  match l, h with
  | c :: d :: l, _ =>
    have : c = 48 := by simpa using h0
    subst this
    rw [strip.eq_3, if_pos rfl]; rfl
theorem strip_stop {l : List UInt8} (h : ¬ 1 < l.length ∨ l.head? ≠ some 48) : strip l = l := by
  match l with
  | [] => rfl
  | [c] => rfl
  | c :: d :: l =>
    rw [strip.eq_3, if_neg]
    intro e
    subst e
    rcases h with h | h
    · simp at h
    · exact h rfl
theorem padL_snoc {L : List Int} {k : Nat} (h : k < L.length) : padL (L.take (k + 1)) = pad4 (L.getD k 0) ++ padL (L.take k) := by
  have hp : ∀ l : List Int, ∀ d, padL (l ++ [d]) = pad4 d ++ padL l := by
    intro l
    induction l with
    | nil => intro d; simp [padL]
    | cons x l ih => intro d; rw [List.cons_append]; simp only [padL]; rw [ih]; simp
  rw [List.take_succ_eq_append_getElem h, hp, getD_lt h]
theorem head_at {s : ByteArray} (h : 0 < s.size) : s.data.toList.head? = some (s[0]'h) := by
  rw [List.head?_eq_getElem?, List.getElem?_eq_getElem (by rw [sizeB]; exact h)]; rfl
theorem head48 {s : ByteArray} (h : 0 < s.size) (h0 : ((s[0]'h).toNat : Int) = 48) : s.data.toList.head? = some 48 := by
  rw [head_at h]; exact congrArg some (UInt8.toNat_inj.1 (by show _ = 48; omega))
theorem head48n {s : ByteArray} (h : 0 < s.size) (h0 : ¬ ((s[0]'h).toNat : Int) = 48) : s.data.toList.head? ≠ some 48 := by
  rw [head_at h]; intro e; apply h0
  have := Option.some.inj e
  rw [this]; rfl
theorem ext1 (s : ByteArray) : (s.extract 1 s.size).data.toList = s.data.toList.drop 1 := by
  have : (s.extract 1 s.size).data.toList = (s.data.toList.take s.size).drop 1 := by simp [List.drop_take]
  rw [this, List.take_of_length_le (by rw [sizeB]; exact Nat.le_refl _)]
/-- The loop that strikes zeros, and what follows. -/
def StripSt (L : List Int) (s : ByteArray) : Prop := strip s.data.toList = strip (padL L)
theorem of_bytes {o : ByteArray} {l : List UInt8} (h : o.data.toList = l) : o = ⟨l.toArray⟩ := by subst h; rfl
theorem fmt_fin {L : List Int} {s : ByteArray} (h : StripSt L s) (hs : strip s.data.toList = s.data.toList) (hd : Dig L) (hv : fmtV L = (fmt (val L), 0)) (h0 : s.size ≠ 0) : s = ⟨(fmt (val L)).toArray⟩ := by
  unfold StripSt at h
  rw [hs] at h
  have hL : L ≠ [] := by
    intro e; subst e
    rw [show strip (padL []) = [] from rfl] at h
    apply h0; rw [← sizeB, h]; rfl
  rw [fmt_strip hd hL] at h
  exact of_bytes h
theorem fmt_fin0 {L : List Int} {s : ByteArray} (h : StripSt L s) (h0 : s.size = 0) (hd : Dig L) : val L = 0 := by
  unfold StripSt at h
  have e : s.data.toList = [] := List.eq_nil_of_length_eq_zero (by rw [sizeB]; exact h0)
  rw [e] at h
  have : padL L = [] := by
    by_cases c : padL L = []
    · exact c
    · exact absurd h.symm ((strip_dec (padL L)).2.2.1 c)
  rw [← padL_dec hd, this]; rfl
set_option maxHeartbeats 2000000 in
theorem rformat_any (L : List Int) (n c : Nat) (A : Option Addr) (W : World) (hn : L.length = n) (hn63 : n ≤ maxLen) (hA : IntsIn W A L) :
    Calls Tryz.prog 63 #[.agg #[.slice A n c]] W (StrPost (fmtV L) W) := by
  have HN := Lib.hid hn
  have HA := Lib.hid (hA.below ((Below.refl W.heap.size W).alloc (Nat.le_refl _) (.cells #[.slice A n c] 24)))
  clear hn hA
  cases hv : vldB L with
  | false =>
    have HV := Lib.hid hv
    have HE := Lib.hid (show fmtV L = ([], 1) by unfold fmtV; rw [if_neg (by rw [hv]; simp)])
    clear hv
    go_enter Tryz.func63, Tryz.ntmps63
    go_wp2_with fail
    refine (rvalid_any L n c A _ HN.out hn63 HA.out).mono ?_
    rintro e w1 ⟨rfl, hb1⟩
    rw [HV.out]
    have HK := Lib.hid (keep_box hb1 (Below.refl _ _))
    clear hb1
    go_wp2_with fail
    go_ret2
    exact str_post HE.out rfl HK.out.2.2
  | true =>
    obtain ⟨l1, d1, e1, p1, q1⟩ := vldB_true hv
    have HV := Lib.hid hv
    have HE := Lib.hid (show fmtV L = (fmt (val L), 0) by unfold fmtV; rw [if_pos hv])
    have HD := Lib.hid d1
    have hn2 : n ≤ 200 := by rw [← HN.out]; exact l1
    clear hv l1 d1 e1 p1 q1
    go_enter Tryz.func63, Tryz.ntmps63
    go_wp2_with fail
    refine (rvalid_any L n c A _ HN.out hn63 HA.out).mono ?_
    rintro e w1 ⟨rfl, hb1⟩
    rw [HV.out]
    have HB1 := Lib.hid hb1
    have HA1 := Lib.hid (HA.out.below hb1)
    clear hb1
    go_wp2_with fail
    go_loopw [4, 5] (fun o i wr => ∃ (k : Nat) (s : ByteArray), k ≤ n ∧ i = .int .i64 (k : Int) ∧ o = .string s ∧ s.data.toList = padL (L.take k) ∧ Below w1.heap.size w1 wr) (fun _ i _ => n - (intOf i).toNat)
    case atStart => exact ⟨0, ⟨#[]⟩, Nat.zero_le _, rfl, rfl, rfl, Below.refl _ _⟩
    case round =>
      obtain ⟨k, s, hk, rfl, rfl, hs, hb⟩ := hrel
      have HS := Lib.hid hs
      have HB := Lib.hid hb
      obtain ⟨hc1, hs1, _⟩ := keep_box HB1.out hb
      have hss : s.size = 4 * k := by rw [← sizeB, hs, padL_len, List.length_take, HN.out]; omega
      have hsz : s.size ≤ 800 := by omega
      clear hs
      by_cases hlt : k < n
      · obtain ⟨b, off, rfl, hbb, hcc⟩ := (HA1.out.below hb) (by rw [HN.out]; omega)
        have hcell := hcc k (by rw [HN.out]; exact hlt)
        obtain ⟨d, hd⟩ : ∃ d, d = L.getD k 0 := ⟨_, rfl⟩
        obtain ⟨hd0, hd1⟩ : 0 ≤ d ∧ d < 10000 := by rw [hd]; exact HD.out.at k
        rw [← hd] at hcell
        have HDd := Lib.hid hd
        have hkn : (k : Int) < (n : Int) := by omega
        clear hcc hd hb hss
        obtain ⟨wo, rfl⟩ : ∃ wo : World, wo = wr := ⟨_, rfl⟩
        go_wp2_with fail
        go_loopw [4, 6, 7] (fun o dv kv wi => ∃ (j : Nat) (t : ByteArray) (x : Int), j ≤ 4 ∧ kv = .int .i64 (j : Int) ∧ dv = .int .i64 x ∧ x = lowD d j ∧ o = .string t ∧ t.data.toList = pads d j ++ padL (L.take k) ∧ Below w1.heap.size w1 wi) (fun _ _ kv _ => 4 - (intOf kv).toNat)
        case atStart => exact ⟨0, s, d, by omega, rfl, rfl, rfl, rfl, by rw [HS.out]; rfl, HB.out⟩
        case round =>
          obtain ⟨j, t, x, hj, rfl, rfl, hx, rfl, ht, hb2⟩ := hrel
          have hxb := lowD_bd hd0 hd1 j
          rw [← hx] at hxb
          obtain ⟨hx0, hx1⟩ := hxb
          have hts : t.size ≤ 810 := by
            rw [← sizeB, ht, List.length_append, pads_len, ← HS.out, sizeB]; omega
          have HX := Lib.hid hx
          have HT := Lib.hid ht
          have HB2 := Lib.hid hb2
          by_cases hj4 : j < 4
          · have hm0 : 0 ≤ x % 10 := by omega
            have hm1 : x % 10 ≤ 9 := by omega
            have hcn := chr_nat hm0 hm1
            obtain ⟨ch, hch⟩ : ∃ ch, ch = chr (x % 10) := ⟨_, rfl⟩
            rw [← hch] at hcn
            have hcv := fun w => conv_one w w.heap.size ch (48 + x % 10) rfl hcn.symm
            have hadd : ∀ w : World, (Op.stringOp .add (⟨#[ch]⟩ : ByteArray) t).run Tryz.prog w = .ok (.string ((⟨#[ch]⟩ : ByteArray) ++ t)) w := fun w => run_string_add_sum w _ t (by show 1 + t.size ≤ _; omega)
            have HN2 := Lib.hid (show ((⟨#[ch]⟩ : ByteArray) ++ t).data.toList = pads d (j + 1) ++ padL (L.take k) by
              unfold pads; rw [← HX.out, ← hch]; simp [HT.out])
            have HX2 := Lib.hid (show x / 10 = lowD d (j + 1) by unfold lowD; rw [← HX.out])
            have HB3 := Lib.hid (HB2.out.alloc hb2.size (.cells #[.int .u8 (48 + x % 10)] 5))
            clear hx ht hb2 hch hcn
            go_wp2
            go_roundw
            case rel => exact ⟨j + 1, _, _, by omega, by go_num, rfl, HX2.out, rfl, HN2.out, HB3.out⟩
            case measure => simp [intOf]; omega
          · obtain rfl : j = 4 := by omega
            have HF := Lib.hid (show t.data.toList = padL (L.take (k + 1)) by rw [HT.out, padL_snoc (by rw [HN.out]; exact hlt), ← HDd.out, pads4 hd0 hd1])
            clear hx ht hb2
            go_wp2
            go_roundw
            case rel => exact ⟨k + 1, t, by omega, by go_num, rfl, HF.out, HB2.out⟩
            case measure => simp [intOf]; omega
      · obtain rfl : k = n := by omega
        have HST := Lib.hid (show StripSt L s by unfold StripSt; rw [HS.out, List.take_of_length_le (by rw [HN.out]; omega)])
        clear hb hss
        go_wp2
        go_loop [4] (fun o => ∃ t : ByteArray, o = .string t ∧ t.size ≤ 800 ∧ StripSt L t) (fun o => match o with | .string t => t.size | _ => 0)
        case atStart => exact ⟨s, rfl, hsz, HST.out⟩
        case round =>
          obtain ⟨t, rfl, ht8, hst⟩ := hrel
          have HSt := Lib.hid hst
          clear hst
          by_cases h1 : 1 < t.size
          · have h0 : 0 < t.size := by omega
            have hx2 : t.toList.isEmpty = false := by
              rw [ByteArray.toList_eq]
              cases e : t.data.toList with
              | nil => have := sizeB t; rw [e] at this; simp at this; omega
              | cons => rfl
            by_cases h48 : ((t[0]'h0).toNat : Int) = 48
            · have HN3 := Lib.hid (show StripSt L (t.extract 1 t.size) by
                have := HSt.out
                unfold StripSt at this ⊢
                rw [ext1, strip_go (by rw [sizeB]; exact h1) (head48 h0 h48), this])
              have hes : (t.extract 1 t.size).size = t.size - 1 := by rw [ByteArray.size_extract]; omega
              have hes1 : (t.extract 1 t.size).size ≤ 800 := by omega
              have hes2 : (t.extract 1 t.size).size < t.size := by omega
              clear hes
              go_wp2
              go_round
              case rel => exact ⟨_, rfl, hes1, HN3.out⟩
              case measure => exact hes2
            · have HFIN := Lib.hid (fmt_fin HSt.out (strip_stop (.inr (head48n h0 h48))) HD.out HE.out (by omega))
              go_wp2
              go_ret2
              exact str_post HE.out HFIN.out (keep_box HB1.out HB.out).2.2
          · have hdec : decide (1 < t.size) = false := by simp; omega
            have hstop := strip_stop (l := t.data.toList) (.inl (by rw [sizeB]; exact h1))
            by_cases h0 : t.size = 0
            · have hx1 : t.toList = [] := by rw [ByteArray.toList_eq]; exact List.eq_nil_of_length_eq_zero (by rw [sizeB]; exact h0)
              have hx2 : t.toList.isEmpty = true := by rw [hx1]; rfl
              have HZ := Lib.hid (show fmtV L = ([48], 0) by rw [HE.out, fmt_fin0 HSt.out h0 HD.out, fmt_zero])
              clear hstop hx1 h0
              go_wp2
              go_ret2
              exact str_post HZ.out rfl (keep_box HB1.out HB.out).2.2
            · have hx2 : t.toList.isEmpty = false := by
                rw [ByteArray.toList_eq]
                cases e : t.data.toList with
                | nil => have := sizeB t; rw [e] at this; simp at this; omega
                | cons => rfl
              have HFIN := Lib.hid (fmt_fin HSt.out hstop HD.out HE.out h0)
              clear hstop
              go_wp2
              go_ret2
              exact str_post HE.out HFIN.out (keep_box HB1.out HB.out).2.2
end Go.Proofs.YtbhneddjjgegmaaGreatDoor
