/- Several texts in one: Uv. -/
import Derived.Test.YtjamfcihjendiaaGreatRaal
namespace Go.Proofs.YtjamfcihjendiaaGreat
open Go.RowKit
set_option linter.unusedVariables false
set_option linter.unusedSimpArgs false
set_option maxRecDepth 100000

theorem lt_at {j : Nat} (h1 : 1 ≤ j) (h9 : j < 10) : (((⟨#[32, 118, 100, 109, 108, 110, 115, 120, 103, 98]⟩ : ByteArray)[j]'h9).toNat : Int) = ((ltrK (j : Int)).toNat : Int) := by
  have : j = 1 ∨ j = 2 ∨ j = 3 ∨ j = 4 ∨ j = 5 ∨ j = 6 ∨ j = 7 ∨ j = 8 ∨ j = 9 := by omega
  rcases this with rfl | rfl | rfl | rfl | rfl | rfl | rfl | rfl | rfl <;> rfl
theorem ltr_is {j : Nat} {c : UInt8} (h1 : 1 ≤ j) (h9 : j < 10) : ltrK (j : Int) = c ↔ kOf c = (j : Int) := by
  constructor
  · intro h; rw [← h]; exact kOf_ltr (by omega)
  · intro h; rw [← h]; exact (ltr_kOf (by omega)).1
def kUp (c : UInt8) (j : Nat) : Int := if kOf c < (j : Int) then kOf c else 0
theorem kUp_one (c : UInt8) : kUp c 1 = 0 := by
  have := kOf_ge c
  unfold kUp; split <;> omega
theorem kUp_end (c : UInt8) : kUp c 10 = kOf c := by
  have h := kOf_le c
  unfold kUp; rw [if_pos (by unfold kOf; omega)]
theorem kUp_hit {c : UInt8} {j : Nat} (h : kOf c = (j : Int)) : kUp c (j + 1) = (j : Int) := by unfold kUp; rw [if_pos (by omega), h]
theorem kUp_miss {c : UInt8} {j : Nat} (h : kOf c ≠ (j : Int)) : kUp c (j + 1) = kUp c j := by
  unfold kUp
  by_cases h1 : kOf c < (j : Int)
  · rw [if_pos h1, if_pos (by omega)]
  · rw [if_neg h1, if_neg (by omega)]
theorem hd_at {s : ByteArray} {k : Nat} (hk : k < s.size) (h : ∀ c ∈ s.data.toList.take k, c ≠ 47) (h1 : s[k] = 47) : hdS s.data.toList = s.data.toList.take k ∧ tlS s.data.toList = s.data.toList.drop (k + 1) := by
  have e : s.data.toList = s.data.toList.take k ++ 47 :: s.data.toList.drop (k + 1) := by
    rw [← h1, ← dropS hk, List.take_append_drop]
  have := hd_cat (a := s.data.toList.take k) (s.data.toList.drop (k + 1)) h
  rwa [← e] at this
theorem hd_none {s : ByteArray} (h : ∀ c ∈ s.data.toList, c ≠ 47) : tlS s.data.toList = [] := by
  have key : ∀ l : List UInt8, (∀ c ∈ l, c ≠ 47) → tlS l = [] := by
    intro l
    induction l with
    | nil => intro _; rfl
    | cons c r ih =>
      intro h
      have hc : (c != 47) = true := by simpa using h c List.mem_cons_self
      unfold tlS at ih ⊢
      rw [List.dropWhile_cons_of_pos (p := (· != 47)) hc]
      exact ih (fun d hd => h d (List.mem_cons_of_mem _ hd))
  exact key _ h
theorem not_step {s : ByteArray} {k : Nat} (hk : k < s.size) (h : ∀ c ∈ s.data.toList.take k, c ≠ 47) (h1 : s[k] ≠ 47) : ∀ c ∈ s.data.toList.take (k + 1), c ≠ 47 := by
  intro c hc
  rw [takeS hk] at hc
  rcases List.mem_append.1 hc with hc | hc
  · exact h c hc
  · rw [List.mem_singleton.1 hc]; exact h1
theorem Hp.sbox_set {W w : World} {l : List Itm} {i g : Nat} {x : Snd} (h : Hp W l w) (hi : l[i]? = some (sbox g x)) (j : Nat) (u : Value) (y : Snd) (hy : (sndC x).set j u = sndC y) : Hp W (l.set i (sbox g y)) (w.setCell ⟨g, j, none⟩ u) := by
  have := h.box_set hi j u
  rw [hy] at this
  exact this
theorem Hp.sbox_all {W w : World} {l : List Itm} {i g : Nat} {x : Snd} (h : Hp W l w) (hi : l[i]? = some (sbox g x)) :
    w.cell? ⟨g, 0, none⟩ = some (.int .i64 x.k) ∧ w.cell? ⟨g, 1, none⟩ = some (.int .i64 x.q) ∧ w.cell? ⟨g, 2, none⟩ = some (.string (bs x.t)) ∧ w.frozen? ⟨g, 0, none⟩ = false ∧ w.frozen? ⟨g, 1, none⟩ = false ∧ w.frozen? ⟨g, 2, none⟩ = false ∧ g < w.heap.size :=
  ⟨(h.box_at hi (j := 0) rfl).1, (h.box_at hi (j := 1) rfl).1, (h.box_at hi (j := 2) rfl).1, (h.box_at hi (j := 0) rfl).2.1, (h.box_at hi (j := 1) rfl).2.1, (h.box_at hi (j := 2) rfl).2.1, (h.box_at hi (j := 0) rfl).2.2⟩
theorem Hp.zbox_all {W w : World} {l : List Itm} {i g : Nat} (h : Hp W l w) (hi : l[i]? = some (sbox g zS)) :
    w.cell? ⟨g, 0, none⟩ = some (.int .i64 0) ∧ w.cell? ⟨g, 1, none⟩ = some (.int .i64 0) ∧ w.cell? ⟨g, 2, none⟩ = some (.string ⟨#[]⟩) ∧ w.frozen? ⟨g, 0, none⟩ = false ∧ w.frozen? ⟨g, 1, none⟩ = false ∧ w.frozen? ⟨g, 2, none⟩ = false ∧ g < w.heap.size := h.sbox_all hi
set_option maxHeartbeats 16000000 in
theorem rone_any (s : ByteArray) (w : World) (hs : s.size ≤ 4000) :
    Calls Tryz.prog 82 #[.string s] w (RdPost s.data.toList w) := by
  have V0 := Lib.hid (show Hp w [sbox w.heap.size zS] (w.alloc (.cells #[.int .i64 0, .int .i64 0, .string ⟨#[]⟩] 96)) from (Hp.start w).sbox_new zS)
  go_enter Tryz.func82, Tryz.ntmps82
  go_wp2
  go_loopw [4] (fun i wr => ∃ k : Nat, k ≤ s.size ∧ i = .int .i64 k ∧ (∀ c ∈ s.data.toList.take k, c ≠ 47) ∧ w.alloc (.cells #[.int .i64 0, .int .i64 0, .string ⟨#[]⟩] 96) = wr) (fun i _ => s.size - (intOf i).toNat)
  case atStart => exact ⟨0, Nat.zero_le _, rfl, fun c hc => by simp at hc, rfl⟩
  case round =>
    obtain ⟨k, hk, rfl, hall, rfl⟩ := hrel
    have HALL := Lib.hid hall
    clear hall
    by_cases hlt : k < s.size
    · by_cases h47 : (s[k].toNat : Int) = 47
      · have hb47 : s[k] = 47 := byte_is (n := 47) h47 (by decide)
        obtain ⟨hhd, htl⟩ := hd_at hlt HALL.out hb47
        have e1 : ((s[k].toNat : Int) != 47) = false := by rw [h47]; rfl
        obtain ⟨r, hr⟩ : ∃ r, r = s.extract (k + 1) s.size := ⟨_, rfl⟩
        have hrl : r.data.toList = tlS s.data.toList := by rw [hr, ext_drop, htl]
        have hrs : r.size ≤ 4000 := by rw [hr, ByteArray.size_extract]; omega
        obtain ⟨T, hT⟩ : ∃ T, T = hdS s.data.toList := ⟨_, rfl⟩
        have HT := Lib.hid (show s.extract 0 k = bs T by rw [hT]; exact bs_of (by rw [ext_take, hhd]))
        have HTT := Lib.hid hT
        have HR := Lib.hid hr
        have HRL := Lib.hid hrl
        clear h47 hb47 hhd htl hr hT
        by_cases hr0 : r.size = 0
        · have HE := Lib.hid (rd_empty (p := s.data.toList) (by rw [← hrl]; exact List.eq_nil_of_length_eq_zero (by rw [sizeB]; exact hr0)))
          obtain ⟨hx1, hx2⟩ := empty_bs hr0
          rw [HR.out] at hx1 hx2
          clear hr0 hrl
          obtain ⟨k0, k1, k2, k3, k4, k5, k6⟩ := V0.out.zbox_all (i := 0) rfl
          have B0 := Lib.hid V0.out.below
          go_wp2_with fail
          exact bodyPost_ret (v := .tuple #[.agg #[.int .i64 0, .int .i64 0, .string ⟨#[]⟩], .bool false]) (by simp [results, Tryz.results82, go_sem, k0, k1, k2]) rfl (rd_no HE.out B0.out)
        · have hx := full_bs (s := r) (by omega)
          rw [HR.out] at hx
          have hrp : 0 < r.size := by omega
          obtain ⟨c, hc⟩ : ∃ c, c = r[0]'hrp := ⟨_, rfl⟩
          have HC := Lib.hid hc
          have hg0 : (tlS s.data.toList).getD 0 0 = c := by rw [← hrl, hc]; exact getD_b rfl hrp
          have HG0 := Lib.hid hg0
          have hln : (tlS s.data.toList).length = r.size := by rw [← hrl]; rfl
          have HLN := Lib.hid hln
          obtain ⟨g0, hg⟩ : ∃ g0, g0 = w.heap.size := ⟨_, rfl⟩
          obtain ⟨gb, hgb⟩ : ∃ gb, gb = w.heap.size + 1 := ⟨_, rfl⟩
          have V1 := Lib.hid (show Hp w [sbox gb ⟨kUp c 1, 0, T⟩, sbox g0 zS] ((w.alloc (.cells #[.int .i64 0, .int .i64 0, .string ⟨#[]⟩] 96)).alloc (.cells #[.int .i64 0, .int .i64 0, .string (bs T)] 96)) by
            rw [hgb, hg, kUp_one]
            have := V0.out.sbox_new ⟨0, 0, T⟩
            rw [show (w.alloc (.cells #[.int .i64 0, .int .i64 0, .string ⟨#[]⟩] 96)).heap.size = w.heap.size + 1 by simp] at this
            exact this)
          have HGG := Lib.hid hg
          have HGB := Lib.hid hgb
          clear hr0 hrl hc hg0 hln hg hgb
          go_wp2_with fail
          try rw [← HR.out]
          try rw [HT.out]
          rw [← HGB.out, ← HGG.out]
          go_loopw [7] (fun jv wr => ∃ j : Nat, 1 ≤ j ∧ j ≤ 10 ∧ jv = .int .i64 j ∧ Hp w [sbox gb ⟨kUp c j, 0, T⟩, sbox g0 zS] wr) (fun jv _ => 10 - (intOf jv).toNat)
          case atStart => exact ⟨1, Nat.le_refl _, by decide, rfl, V1.out⟩
          case round =>
            clear V1 V0
            obtain ⟨j, hj1, hj10, rfl, hV⟩ := hrel
            have V := Lib.hid hV
            by_cases hjl : j < 10
            · have hltj := lt_at hj1 hjl
              by_cases hkj : kOf c = (j : Int)
              · have e5 : ((((⟨#[32, 118, 100, 109, 108, 110, 115, 120, 103, 98]⟩ : ByteArray)[j]'hjl).toNat : Int) == ((r[0]'hrp).toNat : Int)) = true := by rw [hltj, (ltr_is hj1 hjl).2 hkj, HC.out]; simp
                have HKU := Lib.hid (kUp_hit hkj)
                clear hltj hkj hV
                go_wp2_with fail
                refine (letters_any _).mono ?_
                rintro e w2 ⟨rfl, rfl⟩
                go_upto_region 13 with fail
                refine wp_region_held_drew (S := Keep []) (by kernel_rfl) (fun _ h => by simp at h) (fun hHeld => ?_)
                refine tk 1 ?_ rfl ?_ ?_; rotate_left; focus (intro w hSw; clear hSw; go_simp; try (with_reducible rfl))
                try simp only [Act.put, sA, sZ, sS]
                refine tk 3 ?_ rfl ?_ ?_; rotate_left; focus (intro w hSw; clear hSw; go_simp; try (with_reducible rfl))
                try simp only [Act.put, sA, sZ, sS]
                refine tk 4 ?_ rfl ?_ ?_; rotate_left; focus (intro w hSw; clear hSw; go_simp; try (with_reducible rfl))
                try simp only [Act.put, sA, sZ, sS]
                refine wpAnyH_ready (rs := [0]) (by kernel_rfl) (by simp) ?_
                refine AllReadyH.cons (List.getElem?_toArray.trans rfl) (fun K hK => ?_) AllReadyH.nil
                go_simp
                refine (letters_any _).mono ?_
                rintro e w3 ⟨rfl, hw3⟩
                have hb3 : Below wr.drew.heap.size wr.drew w3 := by rw [← hw3]; exact Below.refl _ _
                have V3 := Lib.hid ((V.out.go (bdrew _)).go hb3)
                clear hw3
                try go_wp2_with fail
                refine hK.out _ _ (hHeld.go hb3) (fun hHeld => ?_)
                clear hK K
                try simp only [Act.put, sA, sZ, sS]
                refine tk 2 ?_ rfl ?_ ?_; rotate_left; focus (intro w hSw; clear hSw; go_simp; try (with_reducible rfl))
                try simp only [Act.put, sA, sZ, sS]
                refine tk 5 ?_ rfl ?_ ?_; rotate_left; focus (intro w hSw; clear hSw; go_simp; try (with_reducible rfl))
                try simp only [Act.put, sA, sZ, sS]
                refine wpAnyH_done (by kernel_rfl) ?_ _
                have V4 := Lib.hid (V3.out.sbox_set (i := 0) rfl 0 (.int .i64 (j : Int)) ⟨(j : Int), 0, T⟩ rfl)
                obtain ⟨q0, q1, q2, q3, q4, q5, q6⟩ := V3.out.sbox_all (i := 0) rfl
                clear hb3 hHeld
                go_wp2_with fail
                go_roundw
                case rel => exact ⟨j + 1, by omega, by omega, by go_num, by rw [HKU.out]; exact V4.out⟩
                case measure => simp [intOf]; omega
              · have e5 : ((((⟨#[32, 118, 100, 109, 108, 110, 115, 120, 103, 98]⟩ : ByteArray)[j]'hjl).toNat : Int) == ((r[0]'hrp).toNat : Int)) = false := by
                  rw [hltj]
                  refine beq_no fun e => hkj ((ltr_is hj1 hjl).1 ?_)
                  rw [HC.out]; exact byte_eq e
                have HKU := Lib.hid (kUp_miss hkj)
                clear hltj hkj hV
                go_wp2_with fail
                refine (letters_any _).mono ?_
                rintro e w2 ⟨rfl, rfl⟩
                go_upto_region 13 with fail
                refine wp_region_held_drew (S := Keep []) (by kernel_rfl) (fun _ h => by simp at h) (fun hHeld => ?_)
                refine tk 1 ?_ rfl ?_ ?_; rotate_left; focus (intro w hSw; clear hSw; go_simp; try (with_reducible rfl))
                try simp only [Act.put, sA, sZ, sS]
                refine tk 3 ?_ rfl ?_ ?_; rotate_left; focus (intro w hSw; clear hSw; go_simp; try (with_reducible rfl))
                try simp only [Act.put, sA, sZ, sS]
                refine tk 4 ?_ rfl ?_ ?_; rotate_left; focus (intro w hSw; clear hSw; go_simp; try (with_reducible rfl))
                try simp only [Act.put, sA, sZ, sS]
                refine wpAnyH_ready (rs := [0]) (by kernel_rfl) (by simp) ?_
                refine AllReadyH.cons (List.getElem?_toArray.trans rfl) (fun K hK => ?_) AllReadyH.nil
                go_simp
                refine (letters_any _).mono ?_
                rintro e w3 ⟨rfl, hw3⟩
                have hb3 : Below wr.drew.heap.size wr.drew w3 := by rw [← hw3]; exact Below.refl _ _
                have V3 := Lib.hid ((V.out.go (bdrew _)).go hb3)
                clear hw3
                try go_wp2_with fail
                refine hK.out _ _ (hHeld.go hb3) (fun hHeld => ?_)
                clear hK K
                try simp only [Act.put, sA, sZ, sS]
                refine tk 2 ?_ rfl ?_ ?_; rotate_left; focus (intro w hSw; clear hSw; go_simp; try (with_reducible rfl))
                try simp only [Act.put, sA, sZ, sS]
                refine tk 5 ?_ rfl ?_ ?_; rotate_left; focus (intro w hSw; clear hSw; go_simp; try (with_reducible rfl))
                try simp only [Act.put, sA, sZ, sS]
                refine wpAnyH_done (by kernel_rfl) ?_ _
                clear hb3 hHeld
                go_wp2_with fail
                go_roundw
                case rel => exact ⟨j + 1, by omega, by omega, by go_num, by rw [HKU.out]; exact V3.out⟩
                case measure => simp [intOf]; omega
            · obtain rfl : j = 10 := by omega
              rw [kUp_end] at hV
              have V := Lib.hid hV
              have HTL := Lib.hid (show T.length ≤ 140737488355328 by rw [HTT.out]; have := hd_len s.data.toList; rw [sizeB] at this; omega)
              obtain ⟨r1, hr1⟩ : ∃ r1, r1 = r.extract 1 r.size := ⟨_, rfl⟩
              have hr1s : r1.size = r.size - 1 := by rw [hr1]; exact ext_size r 1 (by omega)
              have hr1l : r1.data.toList = (tlS s.data.toList).drop 1 := by rw [hr1, ext_drop, HRL.out]
              have HR1 := Lib.hid hr1
              have HTLL := Lib.hid (show (tlS s.data.toList).length = r1.size + 1 by rw [HLN.out]; omega)
              have hgd1 : ∀ h : 0 < r1.size, (tlS s.data.toList).getD 1 0 = r1[0]'h := fun h => by
                rw [← getD_b (l := (tlS s.data.toList).drop 1) hr1l h, List.getD_eq_getElem?_getD, List.getD_eq_getElem?_getD, List.getElem?_drop]
              have HGD1 := Lib.hid hgd1
              have hge1 : (1 : Int) ≤ (r.size : Int) := by omega
              clear hr1 hr1l hgd1 hV hr1s
              cases hnu : nuc ⟨kOf c, 0, T⟩ with
              | false =>
                have HN := Lib.hid hnu
                have hnk : (kOf c == 1 || kOf c == 2) = false := hnu
                have HHQ := Lib.hid (show hasQ s.data.toList = false by unfold hasQ; rw [HG0.out, hnk]; rfl)
                clear hnu hnk
                by_cases h10 : r1.size = 0
                · have HOP := Lib.hid (one_p (p := s.data.toList) (x := ⟨kOf c, 0, T⟩) (by rw [HG0.out]) HTT.out rfl (by rw [HTLL.out, h10]))
                  obtain ⟨z1, z2⟩ := empty_bs h10
                  clear h10
                  obtain ⟨v, hvv⟩ : ∃ v, v = vS ⟨kOf c, 0, T⟩ := ⟨_, rfl⟩
                  have HVX := Lib.hid hvv
                  by_cases hv0 : v = 0
                  · have HE := Lib.hid (HOP.out.1 (by rw [← hvv]; exact hv0))
                    have ev : (v == 0) = true := by rw [hv0]; rfl
                    clear hvv hv0
                    go_wp2_with fail
                    refine (letters_any _).mono ?_
                    rintro e w2 ⟨rfl, rfl⟩
                    obtain ⟨x0, x1, x2, _, _, _, x6⟩ := V.out.sbox_all (i := 0) rfl
                    dsimp only at x0 x1 x2
                    go_wp2_with fail
                    try rw [← HR1.out]
                    refine (rnucleus_any ⟨kOf c, 0, T⟩ _).mono ?_
                    rintro e w5 ⟨rfl, hb5⟩
                    rw [HN.out]
                    have V5 := Lib.hid (V.out.go hb5)
                    clear hb5 x0 x1 x2 x6
                    go_upto_region 19 with fail
                    obtain ⟨x0, x1, x2, _, _, _, x6⟩ := V5.out.sbox_all (i := 0) rfl
                    have hKp : Keep [(⟨gb, 0, none⟩, .int .i64 (kOf c)), (⟨gb, 1, none⟩, .int .i64 0), (⟨gb, 2, none⟩, .string (bs T))] w5 := List.forall_mem_cons.2 ⟨⟨x0, x6⟩, List.forall_mem_cons.2 ⟨⟨x1, x6⟩, List.forall_mem_cons.2 ⟨⟨x2, x6⟩, fun _ h => by simp at h⟩⟩⟩
                    clear x0 x1 x2 x6
                    refine wp_region_held_drew (S := Keep _) (by kernel_rfl) hKp.drew (fun hHeld => ?_)
                    have V7 := Lib.hid (V5.out.go (bdrew _))
                    obtain ⟨wd, hwd⟩ : ∃ wd, wd = w5.drew := ⟨_, rfl⟩
                    rw [← hwd] at V7 hHeld ⊢
                    clear hwd
                    refine tk 0 ?_ rfl ?_ ?_; rotate_left
                    · intro wl hSw
                      have hSw : Keep _ wl := hSw
                      have k0 := (hSw _ (.head _)).1
                      have k1 := (hSw _ (.tail _ (.head _))).1
                      have k2 := (hSw _ (.tail _ (.tail _ (.head _)))).1
                      dsimp only at k0 k1 k2
                      clear hSw
                      go_simp
                      try (with_reducible rfl)
                    try simp only [Act.put, sA, sZ, sS]
                    refine tk 1 ?_ rfl ?_ ?_; rotate_left; focus (intro w hSw; clear hSw; go_simp; try (with_reducible rfl))
                    try simp only [Act.put, sA, sZ, sS]
                    refine tk 2 ?_ rfl ?_ ?_; rotate_left; focus (intro w hSw; clear hSw; go_simp; try (with_reducible rfl))
                    try simp only [Act.put, sA, sZ, sS]
                    refine tk 3 ?_ rfl ?_ ?_; rotate_left; focus (intro w hSw; clear hSw; go_simp; try (with_reducible rfl))
                    try simp only [Act.put, sA, sZ, sS]
                    refine tk 4 ?_ rfl ?_ ?_; rotate_left
                    · intro wl hSw
                      have hSw : Keep _ wl := hSw
                      have k0 := (hSw _ (.head _)).1
                      have k1 := (hSw _ (.tail _ (.head _))).1
                      have k2 := (hSw _ (.tail _ (.tail _ (.head _)))).1
                      dsimp only at k0 k1 k2
                      clear hSw
                      go_simp
                      try (with_reducible rfl)
                    try simp only [Act.put, sA, sZ, sS]
                    refine wpAnyH_ready (rs := [5]) (by kernel_rfl) (by simp) ?_
                    refine AllReadyH.cons (List.getElem?_toArray.trans rfl) (fun K hK => ?_) AllReadyH.nil
                    go_simp
                    refine (rvalid_any ⟨kOf c, 0, T⟩ _ HTL.out).mono ?_
                    rintro e w8 ⟨rfl, hb8⟩
                    rw [← HVX.out]
                    have V8 := Lib.hid (V7.out.go hb8)
                    try go_wp2_with fail
                    refine hK.out _ _ (hHeld.go hb8) (fun hHeld => ?_)
                    clear hK K
                    try simp only [Act.put, sA, sZ, sS]
                    refine tk 6 ?_ rfl ?_ ?_; rotate_left; focus (intro w hSw; clear hSw; go_simp; try (with_reducible rfl))
                    try simp only [Act.put, sA, sZ, sS]
                    refine tk 7 ?_ rfl ?_ ?_; rotate_left; focus (intro w hSw; clear hSw; go_simp; try (with_reducible rfl))
                    try simp only [Act.put, sA, sZ, sS]
                    refine wpAnyH_ready (rs := [8]) (by kernel_rfl) (by simp) ?_
                    refine AllReadyH.cons (List.getElem?_toArray.trans rfl) (fun K hK => ?_) AllReadyH.nil
                    obtain ⟨k0, k1, k2, k3, k4, k5, k6⟩ := V8.out.zbox_all (i := 1) rfl
                    have hne : ¬ gb = g0 := by rw [HGB.out, HGG.out]; omega
                    go_simp
                    have hHeld2 := ((hHeld.set g0 0 (.int .i64 (kOf c)) (List.forall_mem_cons.2 ⟨hne, List.forall_mem_cons.2 ⟨hne, List.forall_mem_cons.2 ⟨hne, fun _ h => by simp at h⟩⟩⟩)).set g0 1 (.int .i64 0) (List.forall_mem_cons.2 ⟨hne, List.forall_mem_cons.2 ⟨hne, List.forall_mem_cons.2 ⟨hne, fun _ h => by simp at h⟩⟩⟩)).set g0 2 (.string (bs T)) (List.forall_mem_cons.2 ⟨hne, List.forall_mem_cons.2 ⟨hne, List.forall_mem_cons.2 ⟨hne, fun _ h => by simp at h⟩⟩⟩)
                    refine hK.out _ _ hHeld2 (fun hHeld => ?_)
                    clear hK K
                    try simp only [Act.put, sA, sZ, sS]
                    refine tk 9 ?_ rfl ?_ ?_; rotate_left; focus (intro w hSw; clear hSw; go_simp; try (with_reducible rfl))
                    try simp only [Act.put, sA, sZ, sS]
                    refine wpAnyH_done (by kernel_rfl) ?_ _
                    go_wp2_with fail
                    exact bodyPost_ret (v := .tuple #[.agg #[.int .i64 (kOf c), .int .i64 0, .string (bs T)], .bool true]) (by simp [results, Tryz.results82, go_sem, k0, k1, k2]) rfl ⟨⟨kOf c, 0, T⟩, true, rfl, .inl ⟨rfl, HE.out⟩, by have hB := V8.out.below; rw [HGG.out]; exact bset3 hB _ _ _⟩
                  · have HE := Lib.hid (HOP.out.2 (by rw [← hvv]; exact hv0))
                    have ev : (v == 0) = false := beq_no hv0
                    clear hvv hv0
                    go_wp2_with fail
                    refine (letters_any _).mono ?_
                    rintro e w2 ⟨rfl, rfl⟩
                    obtain ⟨x0, x1, x2, _, _, _, x6⟩ := V.out.sbox_all (i := 0) rfl
                    dsimp only at x0 x1 x2
                    go_wp2_with fail
                    try rw [← HR1.out]
                    refine (rnucleus_any ⟨kOf c, 0, T⟩ _).mono ?_
                    rintro e w5 ⟨rfl, hb5⟩
                    rw [HN.out]
                    have V5 := Lib.hid (V.out.go hb5)
                    clear hb5 x0 x1 x2 x6
                    go_upto_region 19 with fail
                    obtain ⟨x0, x1, x2, _, _, _, x6⟩ := V5.out.sbox_all (i := 0) rfl
                    have hKp : Keep [(⟨gb, 0, none⟩, .int .i64 (kOf c)), (⟨gb, 1, none⟩, .int .i64 0), (⟨gb, 2, none⟩, .string (bs T))] w5 := List.forall_mem_cons.2 ⟨⟨x0, x6⟩, List.forall_mem_cons.2 ⟨⟨x1, x6⟩, List.forall_mem_cons.2 ⟨⟨x2, x6⟩, fun _ h => by simp at h⟩⟩⟩
                    clear x0 x1 x2 x6
                    refine wp_region_held_drew (S := Keep _) (by kernel_rfl) hKp.drew (fun hHeld => ?_)
                    have V7 := Lib.hid (V5.out.go (bdrew _))
                    obtain ⟨wd, hwd⟩ : ∃ wd, wd = w5.drew := ⟨_, rfl⟩
                    rw [← hwd] at V7 hHeld ⊢
                    clear hwd
                    refine tk 0 ?_ rfl ?_ ?_; rotate_left
                    · intro wl hSw
                      have hSw : Keep _ wl := hSw
                      have k0 := (hSw _ (.head _)).1
                      have k1 := (hSw _ (.tail _ (.head _))).1
                      have k2 := (hSw _ (.tail _ (.tail _ (.head _)))).1
                      dsimp only at k0 k1 k2
                      clear hSw
                      go_simp
                      try (with_reducible rfl)
                    try simp only [Act.put, sA, sZ, sS]
                    refine tk 1 ?_ rfl ?_ ?_; rotate_left; focus (intro w hSw; clear hSw; go_simp; try (with_reducible rfl))
                    try simp only [Act.put, sA, sZ, sS]
                    refine tk 2 ?_ rfl ?_ ?_; rotate_left; focus (intro w hSw; clear hSw; go_simp; try (with_reducible rfl))
                    try simp only [Act.put, sA, sZ, sS]
                    refine tk 3 ?_ rfl ?_ ?_; rotate_left; focus (intro w hSw; clear hSw; go_simp; try (with_reducible rfl))
                    try simp only [Act.put, sA, sZ, sS]
                    refine tk 4 ?_ rfl ?_ ?_; rotate_left
                    · intro wl hSw
                      have hSw : Keep _ wl := hSw
                      have k0 := (hSw _ (.head _)).1
                      have k1 := (hSw _ (.tail _ (.head _))).1
                      have k2 := (hSw _ (.tail _ (.tail _ (.head _)))).1
                      dsimp only at k0 k1 k2
                      clear hSw
                      go_simp
                      try (with_reducible rfl)
                    try simp only [Act.put, sA, sZ, sS]
                    refine wpAnyH_ready (rs := [5]) (by kernel_rfl) (by simp) ?_
                    refine AllReadyH.cons (List.getElem?_toArray.trans rfl) (fun K hK => ?_) AllReadyH.nil
                    go_simp
                    refine (rvalid_any ⟨kOf c, 0, T⟩ _ HTL.out).mono ?_
                    rintro e w8 ⟨rfl, hb8⟩
                    rw [← HVX.out]
                    have V8 := Lib.hid (V7.out.go hb8)
                    try go_wp2_with fail
                    refine hK.out _ _ (hHeld.go hb8) (fun hHeld => ?_)
                    clear hK K
                    try simp only [Act.put, sA, sZ, sS]
                    refine tk 6 ?_ rfl ?_ ?_; rotate_left; focus (intro w hSw; clear hSw; go_simp; try (with_reducible rfl))
                    try simp only [Act.put, sA, sZ, sS]
                    refine tk 7 ?_ rfl ?_ ?_; rotate_left; focus (intro w hSw; clear hSw; go_simp; try (with_reducible rfl))
                    try simp only [Act.put, sA, sZ, sS]
                    refine wpAnyH_ready (rs := [8]) (by kernel_rfl) (by simp) ?_
                    refine AllReadyH.cons (List.getElem?_toArray.trans rfl) (fun K hK => ?_) AllReadyH.nil
                    obtain ⟨k0, k1, k2, k3, k4, k5, k6⟩ := V8.out.zbox_all (i := 1) rfl
                    have hne : ¬ gb = g0 := by rw [HGB.out, HGG.out]; omega
                    go_simp
                    have hHeld2 := ((hHeld.set g0 0 (.int .i64 (kOf c)) (List.forall_mem_cons.2 ⟨hne, List.forall_mem_cons.2 ⟨hne, List.forall_mem_cons.2 ⟨hne, fun _ h => by simp at h⟩⟩⟩)).set g0 1 (.int .i64 0) (List.forall_mem_cons.2 ⟨hne, List.forall_mem_cons.2 ⟨hne, List.forall_mem_cons.2 ⟨hne, fun _ h => by simp at h⟩⟩⟩)).set g0 2 (.string (bs T)) (List.forall_mem_cons.2 ⟨hne, List.forall_mem_cons.2 ⟨hne, List.forall_mem_cons.2 ⟨hne, fun _ h => by simp at h⟩⟩⟩)
                    refine hK.out _ _ hHeld2 (fun hHeld => ?_)
                    clear hK K
                    try simp only [Act.put, sA, sZ, sS]
                    refine tk 9 ?_ rfl ?_ ?_; rotate_left; focus (intro w hSw; clear hSw; go_simp; try (with_reducible rfl))
                    try simp only [Act.put, sA, sZ, sS]
                    refine wpAnyH_done (by kernel_rfl) ?_ _
                    go_wp2_with fail
                    exact bodyPost_ret (v := .tuple #[.agg #[.int .i64 (kOf c), .int .i64 0, .string (bs T)], .bool false]) (by simp [results, Tryz.results82, go_sem, k0, k1, k2]) rfl ⟨⟨kOf c, 0, T⟩, false, rfl, .inr ⟨rfl, HE.out⟩, by have hB := V8.out.below; rw [HGG.out]; exact bset3 hB _ _ _⟩
                · have HE := Lib.hid (one_no HHQ.out (by rw [HTLL.out]; omega))
                  have z2 := full_bs (s := r1) (by omega)
                  clear h10
                  go_wp2_with fail
                  refine (letters_any _).mono ?_
                  rintro e w2 ⟨rfl, rfl⟩
                  obtain ⟨x0, x1, x2, _, _, _, x6⟩ := V.out.sbox_all (i := 0) rfl
                  dsimp only at x0 x1 x2
                  go_wp2_with fail
                  try rw [← HR1.out]
                  refine (rnucleus_any ⟨kOf c, 0, T⟩ _).mono ?_
                  rintro e w5 ⟨rfl, hb5⟩
                  rw [HN.out]
                  have V5 := Lib.hid (V.out.go hb5)
                  clear hb5 x0 x1 x2 x6
                  go_upto_region 19 with fail
                  obtain ⟨x0, x1, x2, _, _, _, x6⟩ := V5.out.sbox_all (i := 0) rfl
                  have hKp : Keep [(⟨gb, 0, none⟩, .int .i64 (kOf c)), (⟨gb, 1, none⟩, .int .i64 0), (⟨gb, 2, none⟩, .string (bs T))] w5 := List.forall_mem_cons.2 ⟨⟨x0, x6⟩, List.forall_mem_cons.2 ⟨⟨x1, x6⟩, List.forall_mem_cons.2 ⟨⟨x2, x6⟩, fun _ h => by simp at h⟩⟩⟩
                  clear x0 x1 x2 x6
                  refine wp_region_held_drew (S := Keep _) (by kernel_rfl) hKp.drew (fun hHeld => ?_)
                  have V7 := Lib.hid (V5.out.go (bdrew _))
                  obtain ⟨wd, hwd⟩ : ∃ wd, wd = w5.drew := ⟨_, rfl⟩
                  rw [← hwd] at V7 hHeld ⊢
                  clear hwd
                  refine tk 0 ?_ rfl ?_ ?_; rotate_left
                  · intro wl hSw
                    have hSw : Keep _ wl := hSw
                    have k0 := (hSw _ (.head _)).1
                    have k1 := (hSw _ (.tail _ (.head _))).1
                    have k2 := (hSw _ (.tail _ (.tail _ (.head _)))).1
                    dsimp only at k0 k1 k2
                    clear hSw
                    go_simp
                    try (with_reducible rfl)
                  try simp only [Act.put, sA, sZ, sS]
                  refine tk 1 ?_ rfl ?_ ?_; rotate_left; focus (intro w hSw; clear hSw; go_simp; try (with_reducible rfl))
                  try simp only [Act.put, sA, sZ, sS]
                  refine tk 2 ?_ rfl ?_ ?_; rotate_left; focus (intro w hSw; clear hSw; go_simp; try (with_reducible rfl))
                  try simp only [Act.put, sA, sZ, sS]
                  refine tk 3 ?_ rfl ?_ ?_; rotate_left; focus (intro w hSw; clear hSw; go_simp; try (with_reducible rfl))
                  try simp only [Act.put, sA, sZ, sS]
                  refine tu 4 rfl ?_
                  try simp only [Act.put, sA, sZ, sS]
                  refine tu 5 rfl ?_
                  try simp only [Act.put, sA, sZ, sS]
                  refine tu 6 rfl ?_
                  try simp only [Act.put, sA, sZ, sS]
                  refine tk 7 ?_ rfl ?_ ?_; rotate_left; focus (intro w hSw; clear hSw; go_simp; try (with_reducible rfl))
                  try simp only [Act.put, sA, sZ, sS]
                  have V8 := V7
                  refine wpAnyH_ready (rs := [8]) (by kernel_rfl) (by simp) ?_
                  refine AllReadyH.cons (List.getElem?_toArray.trans rfl) (fun K hK => ?_) AllReadyH.nil
                  obtain ⟨k0, k1, k2, k3, k4, k5, k6⟩ := V8.out.zbox_all (i := 1) rfl
                  have hne : ¬ gb = g0 := by rw [HGB.out, HGG.out]; omega
                  go_simp
                  have hHeld2 := ((hHeld.set g0 0 (.int .i64 (kOf c)) (List.forall_mem_cons.2 ⟨hne, List.forall_mem_cons.2 ⟨hne, List.forall_mem_cons.2 ⟨hne, fun _ h => by simp at h⟩⟩⟩)).set g0 1 (.int .i64 0) (List.forall_mem_cons.2 ⟨hne, List.forall_mem_cons.2 ⟨hne, List.forall_mem_cons.2 ⟨hne, fun _ h => by simp at h⟩⟩⟩)).set g0 2 (.string (bs T)) (List.forall_mem_cons.2 ⟨hne, List.forall_mem_cons.2 ⟨hne, List.forall_mem_cons.2 ⟨hne, fun _ h => by simp at h⟩⟩⟩)
                  refine hK.out _ _ hHeld2 (fun hHeld => ?_)
                  clear hK K
                  try simp only [Act.put, sA, sZ, sS]
                  refine tk 9 ?_ rfl ?_ ?_; rotate_left; focus (intro w hSw; clear hSw; go_simp; try (with_reducible rfl))
                  try simp only [Act.put, sA, sZ, sS]
                  refine wpAnyH_done (by kernel_rfl) ?_ _
                  go_wp2_with fail
                  exact bodyPost_ret (v := .tuple #[.agg #[.int .i64 (kOf c), .int .i64 0, .string (bs T)], .bool false]) (by simp [results, Tryz.results82, go_sem, k0, k1, k2]) rfl ⟨⟨kOf c, 0, T⟩, false, rfl, .inr ⟨rfl, HE.out⟩, by have hB := V8.out.below; rw [HGG.out]; exact bset3 hB _ _ _⟩
              | true =>
                have HN := Lib.hid hnu
                have HNK := Lib.hid (show (kOf c == 1 || kOf c == 2) = true from hnu)
                clear hnu
                by_cases h11 : r1.size = 1
                · have hp1 : 0 < r1.size := by omega
                  have z2 := full_bs (s := r1) hp1
                  have z5 : ((r1.size : Int) == 1) = true := by rw [h11]; rfl
                  have hd0 : (0 : Int) ≤ ((r1[0]'hp1).toNat : Int) := by omega
                  have hd1 : ((r1[0]'hp1).toNat : Int) ≤ 255 := by have := (r1[0]'hp1).toNat_lt; omega
                  have HL2 := Lib.hid (show (tlS s.data.toList).length = 2 by rw [HTLL.out, h11])
                  by_cases h49 : (49 : Int) ≤ ((r1[0]'hp1).toNat : Int)
                  · by_cases h51 : ((r1[0]'hp1).toNat : Int) ≤ 51
                    · have HHQ := Lib.hid (show hasQ s.data.toList = true by
                        unfold hasQ
                        rw [HG0.out, HNK.out, HL2.out, HGD1.out hp1, decide_eq_true h49, decide_eq_true h51]; rfl)
                      have HOP := Lib.hid (one_q (p := s.data.toList) (x := ⟨kOf c, ((r1[0]'hp1).toNat : Int) - 48, T⟩) (by rw [HG0.out]) HTT.out (by rw [HGD1.out hp1]) HHQ.out)
                      clear h11 z2
                      obtain ⟨v, hvv⟩ : ∃ v, v = vS ⟨kOf c, (((r1[0]'hp1).toNat : Int) - 48), T⟩ := ⟨_, rfl⟩
                      have HVX := Lib.hid hvv
                      by_cases hv0 : v = 0
                      · have HE := Lib.hid (HOP.out.1 (by rw [← hvv]; exact hv0))
                        have ev : (v == 0) = true := by rw [hv0]; rfl
                        clear hvv hv0
                        go_wp2_with fail
                        refine (letters_any _).mono ?_
                        rintro e w2 ⟨rfl, rfl⟩
                        obtain ⟨x0, x1, x2, _, _, _, x6⟩ := V.out.sbox_all (i := 0) rfl
                        dsimp only at x0 x1 x2
                        go_wp2_with fail
                        try rw [← HR1.out]
                        refine (rnucleus_any ⟨kOf c, 0, T⟩ _).mono ?_
                        rintro e w5 ⟨rfl, hb5⟩
                        rw [HN.out]
                        have V5 := Lib.hid (V.out.go hb5)
                        clear hb5 x0 x1 x2 x6
                        obtain ⟨q0, q1, q2, q3, q4, q5, q6⟩ := V5.out.sbox_all (i := 0) rfl
                        have V6 := Lib.hid (V5.out.sbox_set (i := 0) rfl 1 (.int .i64 (((r1[0]'hp1).toNat : Int) - 48)) ⟨kOf c, ((r1[0]'hp1).toNat : Int) - 48, T⟩ rfl)
                        obtain ⟨w6, hw6⟩ : ∃ w6, w6 = w5.setCell ⟨gb, 1, none⟩ (.int .i64 (((r1[0]'hp1).toNat : Int) - 48)) := ⟨_, rfl⟩
                        rw [← hw6] at V6
                        have HW6 := Lib.hid hw6
                        clear hw6
                        go_upto_region 19 with fail
                        rw [← HW6.out]
                        clear q0 q1 q2 q3 q4 q5 q6
                        obtain ⟨x0, x1, x2, _, _, _, x6⟩ := V6.out.sbox_all (i := 0) rfl
                        have hKp : Keep [(⟨gb, 0, none⟩, .int .i64 (kOf c)), (⟨gb, 1, none⟩, .int .i64 (((r1[0]'hp1).toNat : Int) - 48)), (⟨gb, 2, none⟩, .string (bs T))] w6 := List.forall_mem_cons.2 ⟨⟨x0, x6⟩, List.forall_mem_cons.2 ⟨⟨x1, x6⟩, List.forall_mem_cons.2 ⟨⟨x2, x6⟩, fun _ h => by simp at h⟩⟩⟩
                        clear x0 x1 x2 x6
                        refine wp_region_held_drew (S := Keep _) (by kernel_rfl) hKp.drew (fun hHeld => ?_)
                        have V7 := Lib.hid (V6.out.go (bdrew _))
                        obtain ⟨wd, hwd⟩ : ∃ wd, wd = w6.drew := ⟨_, rfl⟩
                        rw [← hwd] at V7 hHeld ⊢
                        clear hwd
                        refine tk 0 ?_ rfl ?_ ?_; rotate_left
                        · intro wl hSw
                          have hSw : Keep _ wl := hSw
                          have k0 := (hSw _ (.head _)).1
                          have k1 := (hSw _ (.tail _ (.head _))).1
                          have k2 := (hSw _ (.tail _ (.tail _ (.head _)))).1
                          dsimp only at k0 k1 k2
                          clear hSw
                          go_simp
                          try (with_reducible rfl)
                        try simp only [Act.put, sA, sZ, sS]
                        refine tk 1 ?_ rfl ?_ ?_; rotate_left; focus (intro w hSw; clear hSw; go_simp; try (with_reducible rfl))
                        try simp only [Act.put, sA, sZ, sS]
                        refine tk 2 ?_ rfl ?_ ?_; rotate_left; focus (intro w hSw; clear hSw; go_simp; try (with_reducible rfl))
                        try simp only [Act.put, sA, sZ, sS]
                        refine tk 3 ?_ rfl ?_ ?_; rotate_left; focus (intro w hSw; clear hSw; go_simp; try (with_reducible rfl))
                        try simp only [Act.put, sA, sZ, sS]
                        refine tk 4 ?_ rfl ?_ ?_; rotate_left
                        · intro wl hSw
                          have hSw : Keep _ wl := hSw
                          have k0 := (hSw _ (.head _)).1
                          have k1 := (hSw _ (.tail _ (.head _))).1
                          have k2 := (hSw _ (.tail _ (.tail _ (.head _)))).1
                          dsimp only at k0 k1 k2
                          clear hSw
                          go_simp
                          try (with_reducible rfl)
                        try simp only [Act.put, sA, sZ, sS]
                        refine wpAnyH_ready (rs := [5]) (by kernel_rfl) (by simp) ?_
                        refine AllReadyH.cons (List.getElem?_toArray.trans rfl) (fun K hK => ?_) AllReadyH.nil
                        go_simp
                        refine (rvalid_any ⟨kOf c, (((r1[0]'hp1).toNat : Int) - 48), T⟩ _ HTL.out).mono ?_
                        rintro e w8 ⟨rfl, hb8⟩
                        rw [← HVX.out]
                        have V8 := Lib.hid (V7.out.go hb8)
                        try go_wp2_with fail
                        refine hK.out _ _ (hHeld.go hb8) (fun hHeld => ?_)
                        clear hK K
                        try simp only [Act.put, sA, sZ, sS]
                        refine tk 6 ?_ rfl ?_ ?_; rotate_left; focus (intro w hSw; clear hSw; go_simp; try (with_reducible rfl))
                        try simp only [Act.put, sA, sZ, sS]
                        refine tk 7 ?_ rfl ?_ ?_; rotate_left; focus (intro w hSw; clear hSw; go_simp; try (with_reducible rfl))
                        try simp only [Act.put, sA, sZ, sS]
                        refine wpAnyH_ready (rs := [8]) (by kernel_rfl) (by simp) ?_
                        refine AllReadyH.cons (List.getElem?_toArray.trans rfl) (fun K hK => ?_) AllReadyH.nil
                        obtain ⟨k0, k1, k2, k3, k4, k5, k6⟩ := V8.out.zbox_all (i := 1) rfl
                        have hne : ¬ gb = g0 := by rw [HGB.out, HGG.out]; omega
                        go_simp
                        have hHeld2 := ((hHeld.set g0 0 (.int .i64 (kOf c)) (List.forall_mem_cons.2 ⟨hne, List.forall_mem_cons.2 ⟨hne, List.forall_mem_cons.2 ⟨hne, fun _ h => by simp at h⟩⟩⟩)).set g0 1 (.int .i64 (((r1[0]'hp1).toNat : Int) - 48)) (List.forall_mem_cons.2 ⟨hne, List.forall_mem_cons.2 ⟨hne, List.forall_mem_cons.2 ⟨hne, fun _ h => by simp at h⟩⟩⟩)).set g0 2 (.string (bs T)) (List.forall_mem_cons.2 ⟨hne, List.forall_mem_cons.2 ⟨hne, List.forall_mem_cons.2 ⟨hne, fun _ h => by simp at h⟩⟩⟩)
                        refine hK.out _ _ hHeld2 (fun hHeld => ?_)
                        clear hK K
                        try simp only [Act.put, sA, sZ, sS]
                        refine tk 9 ?_ rfl ?_ ?_; rotate_left; focus (intro w hSw; clear hSw; go_simp; try (with_reducible rfl))
                        try simp only [Act.put, sA, sZ, sS]
                        refine wpAnyH_done (by kernel_rfl) ?_ _
                        go_wp2_with fail
                        exact bodyPost_ret (v := .tuple #[.agg #[.int .i64 (kOf c), .int .i64 (((r1[0]'hp1).toNat : Int) - 48), .string (bs T)], .bool true]) (by simp [results, Tryz.results82, go_sem, k0, k1, k2]) rfl ⟨⟨kOf c, (((r1[0]'hp1).toNat : Int) - 48), T⟩, true, rfl, .inl ⟨rfl, HE.out⟩, by have hB := V8.out.below; rw [HGG.out]; exact bset3 hB _ _ _⟩
                      · have HE := Lib.hid (HOP.out.2 (by rw [← hvv]; exact hv0))
                        have ev : (v == 0) = false := beq_no hv0
                        clear hvv hv0
                        go_wp2_with fail
                        refine (letters_any _).mono ?_
                        rintro e w2 ⟨rfl, rfl⟩
                        obtain ⟨x0, x1, x2, _, _, _, x6⟩ := V.out.sbox_all (i := 0) rfl
                        dsimp only at x0 x1 x2
                        go_wp2_with fail
                        try rw [← HR1.out]
                        refine (rnucleus_any ⟨kOf c, 0, T⟩ _).mono ?_
                        rintro e w5 ⟨rfl, hb5⟩
                        rw [HN.out]
                        have V5 := Lib.hid (V.out.go hb5)
                        clear hb5 x0 x1 x2 x6
                        obtain ⟨q0, q1, q2, q3, q4, q5, q6⟩ := V5.out.sbox_all (i := 0) rfl
                        have V6 := Lib.hid (V5.out.sbox_set (i := 0) rfl 1 (.int .i64 (((r1[0]'hp1).toNat : Int) - 48)) ⟨kOf c, ((r1[0]'hp1).toNat : Int) - 48, T⟩ rfl)
                        obtain ⟨w6, hw6⟩ : ∃ w6, w6 = w5.setCell ⟨gb, 1, none⟩ (.int .i64 (((r1[0]'hp1).toNat : Int) - 48)) := ⟨_, rfl⟩
                        rw [← hw6] at V6
                        have HW6 := Lib.hid hw6
                        clear hw6
                        go_upto_region 19 with fail
                        rw [← HW6.out]
                        clear q0 q1 q2 q3 q4 q5 q6
                        obtain ⟨x0, x1, x2, _, _, _, x6⟩ := V6.out.sbox_all (i := 0) rfl
                        have hKp : Keep [(⟨gb, 0, none⟩, .int .i64 (kOf c)), (⟨gb, 1, none⟩, .int .i64 (((r1[0]'hp1).toNat : Int) - 48)), (⟨gb, 2, none⟩, .string (bs T))] w6 := List.forall_mem_cons.2 ⟨⟨x0, x6⟩, List.forall_mem_cons.2 ⟨⟨x1, x6⟩, List.forall_mem_cons.2 ⟨⟨x2, x6⟩, fun _ h => by simp at h⟩⟩⟩
                        clear x0 x1 x2 x6
                        refine wp_region_held_drew (S := Keep _) (by kernel_rfl) hKp.drew (fun hHeld => ?_)
                        have V7 := Lib.hid (V6.out.go (bdrew _))
                        obtain ⟨wd, hwd⟩ : ∃ wd, wd = w6.drew := ⟨_, rfl⟩
                        rw [← hwd] at V7 hHeld ⊢
                        clear hwd
                        refine tk 0 ?_ rfl ?_ ?_; rotate_left
                        · intro wl hSw
                          have hSw : Keep _ wl := hSw
                          have k0 := (hSw _ (.head _)).1
                          have k1 := (hSw _ (.tail _ (.head _))).1
                          have k2 := (hSw _ (.tail _ (.tail _ (.head _)))).1
                          dsimp only at k0 k1 k2
                          clear hSw
                          go_simp
                          try (with_reducible rfl)
                        try simp only [Act.put, sA, sZ, sS]
                        refine tk 1 ?_ rfl ?_ ?_; rotate_left; focus (intro w hSw; clear hSw; go_simp; try (with_reducible rfl))
                        try simp only [Act.put, sA, sZ, sS]
                        refine tk 2 ?_ rfl ?_ ?_; rotate_left; focus (intro w hSw; clear hSw; go_simp; try (with_reducible rfl))
                        try simp only [Act.put, sA, sZ, sS]
                        refine tk 3 ?_ rfl ?_ ?_; rotate_left; focus (intro w hSw; clear hSw; go_simp; try (with_reducible rfl))
                        try simp only [Act.put, sA, sZ, sS]
                        refine tk 4 ?_ rfl ?_ ?_; rotate_left
                        · intro wl hSw
                          have hSw : Keep _ wl := hSw
                          have k0 := (hSw _ (.head _)).1
                          have k1 := (hSw _ (.tail _ (.head _))).1
                          have k2 := (hSw _ (.tail _ (.tail _ (.head _)))).1
                          dsimp only at k0 k1 k2
                          clear hSw
                          go_simp
                          try (with_reducible rfl)
                        try simp only [Act.put, sA, sZ, sS]
                        refine wpAnyH_ready (rs := [5]) (by kernel_rfl) (by simp) ?_
                        refine AllReadyH.cons (List.getElem?_toArray.trans rfl) (fun K hK => ?_) AllReadyH.nil
                        go_simp
                        refine (rvalid_any ⟨kOf c, (((r1[0]'hp1).toNat : Int) - 48), T⟩ _ HTL.out).mono ?_
                        rintro e w8 ⟨rfl, hb8⟩
                        rw [← HVX.out]
                        have V8 := Lib.hid (V7.out.go hb8)
                        try go_wp2_with fail
                        refine hK.out _ _ (hHeld.go hb8) (fun hHeld => ?_)
                        clear hK K
                        try simp only [Act.put, sA, sZ, sS]
                        refine tk 6 ?_ rfl ?_ ?_; rotate_left; focus (intro w hSw; clear hSw; go_simp; try (with_reducible rfl))
                        try simp only [Act.put, sA, sZ, sS]
                        refine tk 7 ?_ rfl ?_ ?_; rotate_left; focus (intro w hSw; clear hSw; go_simp; try (with_reducible rfl))
                        try simp only [Act.put, sA, sZ, sS]
                        refine wpAnyH_ready (rs := [8]) (by kernel_rfl) (by simp) ?_
                        refine AllReadyH.cons (List.getElem?_toArray.trans rfl) (fun K hK => ?_) AllReadyH.nil
                        obtain ⟨k0, k1, k2, k3, k4, k5, k6⟩ := V8.out.zbox_all (i := 1) rfl
                        have hne : ¬ gb = g0 := by rw [HGB.out, HGG.out]; omega
                        go_simp
                        have hHeld2 := ((hHeld.set g0 0 (.int .i64 (kOf c)) (List.forall_mem_cons.2 ⟨hne, List.forall_mem_cons.2 ⟨hne, List.forall_mem_cons.2 ⟨hne, fun _ h => by simp at h⟩⟩⟩)).set g0 1 (.int .i64 (((r1[0]'hp1).toNat : Int) - 48)) (List.forall_mem_cons.2 ⟨hne, List.forall_mem_cons.2 ⟨hne, List.forall_mem_cons.2 ⟨hne, fun _ h => by simp at h⟩⟩⟩)).set g0 2 (.string (bs T)) (List.forall_mem_cons.2 ⟨hne, List.forall_mem_cons.2 ⟨hne, List.forall_mem_cons.2 ⟨hne, fun _ h => by simp at h⟩⟩⟩)
                        refine hK.out _ _ hHeld2 (fun hHeld => ?_)
                        clear hK K
                        try simp only [Act.put, sA, sZ, sS]
                        refine tk 9 ?_ rfl ?_ ?_; rotate_left; focus (intro w hSw; clear hSw; go_simp; try (with_reducible rfl))
                        try simp only [Act.put, sA, sZ, sS]
                        refine wpAnyH_done (by kernel_rfl) ?_ _
                        go_wp2_with fail
                        exact bodyPost_ret (v := .tuple #[.agg #[.int .i64 (kOf c), .int .i64 (((r1[0]'hp1).toNat : Int) - 48), .string (bs T)], .bool false]) (by simp [results, Tryz.results82, go_sem, k0, k1, k2]) rfl ⟨⟨kOf c, (((r1[0]'hp1).toNat : Int) - 48), T⟩, false, rfl, .inr ⟨rfl, HE.out⟩, by have hB := V8.out.below; rw [HGG.out]; exact bset3 hB _ _ _⟩
                    · have HE := Lib.hid (one_no (p := s.data.toList) (by
                        unfold hasQ
                        rw [HGD1.out hp1, decide_eq_false h51]; simp) (by rw [HL2.out]; decide))
                      have h51' : (51 : Int) < ((r1[0]'hp1).toNat : Int) := by omega
                      clear h11 h51
                      go_wp2_with fail
                      refine (letters_any _).mono ?_
                      rintro e w2 ⟨rfl, rfl⟩
                      obtain ⟨x0, x1, x2, _, _, _, x6⟩ := V.out.sbox_all (i := 0) rfl
                      dsimp only at x0 x1 x2
                      go_wp2_with fail
                      try rw [← HR1.out]
                      refine (rnucleus_any ⟨kOf c, 0, T⟩ _).mono ?_
                      rintro e w5 ⟨rfl, hb5⟩
                      rw [HN.out]
                      have V5 := Lib.hid (V.out.go hb5)
                      clear hb5 x0 x1 x2 x6
                      go_upto_region 19 with fail
                      obtain ⟨x0, x1, x2, _, _, _, x6⟩ := V5.out.sbox_all (i := 0) rfl
                      have hKp : Keep [(⟨gb, 0, none⟩, .int .i64 (kOf c)), (⟨gb, 1, none⟩, .int .i64 0), (⟨gb, 2, none⟩, .string (bs T))] w5 := List.forall_mem_cons.2 ⟨⟨x0, x6⟩, List.forall_mem_cons.2 ⟨⟨x1, x6⟩, List.forall_mem_cons.2 ⟨⟨x2, x6⟩, fun _ h => by simp at h⟩⟩⟩
                      clear x0 x1 x2 x6
                      refine wp_region_held_drew (S := Keep _) (by kernel_rfl) hKp.drew (fun hHeld => ?_)
                      have V7 := Lib.hid (V5.out.go (bdrew _))
                      obtain ⟨wd, hwd⟩ : ∃ wd, wd = w5.drew := ⟨_, rfl⟩
                      rw [← hwd] at V7 hHeld ⊢
                      clear hwd
                      refine tk 0 ?_ rfl ?_ ?_; rotate_left
                      · intro wl hSw
                        have hSw : Keep _ wl := hSw
                        have k0 := (hSw _ (.head _)).1
                        have k1 := (hSw _ (.tail _ (.head _))).1
                        have k2 := (hSw _ (.tail _ (.tail _ (.head _)))).1
                        dsimp only at k0 k1 k2
                        clear hSw
                        go_simp
                        try (with_reducible rfl)
                      try simp only [Act.put, sA, sZ, sS]
                      refine tk 1 ?_ rfl ?_ ?_; rotate_left; focus (intro w hSw; clear hSw; go_simp; try (with_reducible rfl))
                      try simp only [Act.put, sA, sZ, sS]
                      refine tk 2 ?_ rfl ?_ ?_; rotate_left; focus (intro w hSw; clear hSw; go_simp; try (with_reducible rfl))
                      try simp only [Act.put, sA, sZ, sS]
                      refine tk 3 ?_ rfl ?_ ?_; rotate_left; focus (intro w hSw; clear hSw; go_simp; try (with_reducible rfl))
                      try simp only [Act.put, sA, sZ, sS]
                      refine tu 4 rfl ?_
                      try simp only [Act.put, sA, sZ, sS]
                      refine tu 5 rfl ?_
                      try simp only [Act.put, sA, sZ, sS]
                      refine tu 6 rfl ?_
                      try simp only [Act.put, sA, sZ, sS]
                      refine tk 7 ?_ rfl ?_ ?_; rotate_left; focus (intro w hSw; clear hSw; go_simp; try (with_reducible rfl))
                      try simp only [Act.put, sA, sZ, sS]
                      have V8 := V7
                      refine wpAnyH_ready (rs := [8]) (by kernel_rfl) (by simp) ?_
                      refine AllReadyH.cons (List.getElem?_toArray.trans rfl) (fun K hK => ?_) AllReadyH.nil
                      obtain ⟨k0, k1, k2, k3, k4, k5, k6⟩ := V8.out.zbox_all (i := 1) rfl
                      have hne : ¬ gb = g0 := by rw [HGB.out, HGG.out]; omega
                      go_simp
                      have hHeld2 := ((hHeld.set g0 0 (.int .i64 (kOf c)) (List.forall_mem_cons.2 ⟨hne, List.forall_mem_cons.2 ⟨hne, List.forall_mem_cons.2 ⟨hne, fun _ h => by simp at h⟩⟩⟩)).set g0 1 (.int .i64 0) (List.forall_mem_cons.2 ⟨hne, List.forall_mem_cons.2 ⟨hne, List.forall_mem_cons.2 ⟨hne, fun _ h => by simp at h⟩⟩⟩)).set g0 2 (.string (bs T)) (List.forall_mem_cons.2 ⟨hne, List.forall_mem_cons.2 ⟨hne, List.forall_mem_cons.2 ⟨hne, fun _ h => by simp at h⟩⟩⟩)
                      refine hK.out _ _ hHeld2 (fun hHeld => ?_)
                      clear hK K
                      try simp only [Act.put, sA, sZ, sS]
                      refine tk 9 ?_ rfl ?_ ?_; rotate_left; focus (intro w hSw; clear hSw; go_simp; try (with_reducible rfl))
                      try simp only [Act.put, sA, sZ, sS]
                      refine wpAnyH_done (by kernel_rfl) ?_ _
                      go_wp2_with fail
                      exact bodyPost_ret (v := .tuple #[.agg #[.int .i64 (kOf c), .int .i64 0, .string (bs T)], .bool false]) (by simp [results, Tryz.results82, go_sem, k0, k1, k2]) rfl ⟨⟨kOf c, 0, T⟩, false, rfl, .inr ⟨rfl, HE.out⟩, by have hB := V8.out.below; rw [HGG.out]; exact bset3 hB _ _ _⟩
                  · have HE := Lib.hid (one_no (p := s.data.toList) (by
                        unfold hasQ
                        rw [HGD1.out hp1, decide_eq_false h49]; simp) (by rw [HL2.out]; decide))
                    have h49' : ((r1[0]'hp1).toNat : Int) < 49 := by omega
                    clear h11 h49
                    go_wp2_with fail
                    refine (letters_any _).mono ?_
                    rintro e w2 ⟨rfl, rfl⟩
                    obtain ⟨x0, x1, x2, _, _, _, x6⟩ := V.out.sbox_all (i := 0) rfl
                    dsimp only at x0 x1 x2
                    go_wp2_with fail
                    try rw [← HR1.out]
                    refine (rnucleus_any ⟨kOf c, 0, T⟩ _).mono ?_
                    rintro e w5 ⟨rfl, hb5⟩
                    rw [HN.out]
                    have V5 := Lib.hid (V.out.go hb5)
                    clear hb5 x0 x1 x2 x6
                    go_upto_region 19 with fail
                    obtain ⟨x0, x1, x2, _, _, _, x6⟩ := V5.out.sbox_all (i := 0) rfl
                    have hKp : Keep [(⟨gb, 0, none⟩, .int .i64 (kOf c)), (⟨gb, 1, none⟩, .int .i64 0), (⟨gb, 2, none⟩, .string (bs T))] w5 := List.forall_mem_cons.2 ⟨⟨x0, x6⟩, List.forall_mem_cons.2 ⟨⟨x1, x6⟩, List.forall_mem_cons.2 ⟨⟨x2, x6⟩, fun _ h => by simp at h⟩⟩⟩
                    clear x0 x1 x2 x6
                    refine wp_region_held_drew (S := Keep _) (by kernel_rfl) hKp.drew (fun hHeld => ?_)
                    have V7 := Lib.hid (V5.out.go (bdrew _))
                    obtain ⟨wd, hwd⟩ : ∃ wd, wd = w5.drew := ⟨_, rfl⟩
                    rw [← hwd] at V7 hHeld ⊢
                    clear hwd
                    refine tk 0 ?_ rfl ?_ ?_; rotate_left
                    · intro wl hSw
                      have hSw : Keep _ wl := hSw
                      have k0 := (hSw _ (.head _)).1
                      have k1 := (hSw _ (.tail _ (.head _))).1
                      have k2 := (hSw _ (.tail _ (.tail _ (.head _)))).1
                      dsimp only at k0 k1 k2
                      clear hSw
                      go_simp
                      try (with_reducible rfl)
                    try simp only [Act.put, sA, sZ, sS]
                    refine tk 1 ?_ rfl ?_ ?_; rotate_left; focus (intro w hSw; clear hSw; go_simp; try (with_reducible rfl))
                    try simp only [Act.put, sA, sZ, sS]
                    refine tk 2 ?_ rfl ?_ ?_; rotate_left; focus (intro w hSw; clear hSw; go_simp; try (with_reducible rfl))
                    try simp only [Act.put, sA, sZ, sS]
                    refine tk 3 ?_ rfl ?_ ?_; rotate_left; focus (intro w hSw; clear hSw; go_simp; try (with_reducible rfl))
                    try simp only [Act.put, sA, sZ, sS]
                    refine tu 4 rfl ?_
                    try simp only [Act.put, sA, sZ, sS]
                    refine tu 5 rfl ?_
                    try simp only [Act.put, sA, sZ, sS]
                    refine tu 6 rfl ?_
                    try simp only [Act.put, sA, sZ, sS]
                    refine tk 7 ?_ rfl ?_ ?_; rotate_left; focus (intro w hSw; clear hSw; go_simp; try (with_reducible rfl))
                    try simp only [Act.put, sA, sZ, sS]
                    have V8 := V7
                    refine wpAnyH_ready (rs := [8]) (by kernel_rfl) (by simp) ?_
                    refine AllReadyH.cons (List.getElem?_toArray.trans rfl) (fun K hK => ?_) AllReadyH.nil
                    obtain ⟨k0, k1, k2, k3, k4, k5, k6⟩ := V8.out.zbox_all (i := 1) rfl
                    have hne : ¬ gb = g0 := by rw [HGB.out, HGG.out]; omega
                    go_simp
                    have hHeld2 := ((hHeld.set g0 0 (.int .i64 (kOf c)) (List.forall_mem_cons.2 ⟨hne, List.forall_mem_cons.2 ⟨hne, List.forall_mem_cons.2 ⟨hne, fun _ h => by simp at h⟩⟩⟩)).set g0 1 (.int .i64 0) (List.forall_mem_cons.2 ⟨hne, List.forall_mem_cons.2 ⟨hne, List.forall_mem_cons.2 ⟨hne, fun _ h => by simp at h⟩⟩⟩)).set g0 2 (.string (bs T)) (List.forall_mem_cons.2 ⟨hne, List.forall_mem_cons.2 ⟨hne, List.forall_mem_cons.2 ⟨hne, fun _ h => by simp at h⟩⟩⟩)
                    refine hK.out _ _ hHeld2 (fun hHeld => ?_)
                    clear hK K
                    try simp only [Act.put, sA, sZ, sS]
                    refine tk 9 ?_ rfl ?_ ?_; rotate_left; focus (intro w hSw; clear hSw; go_simp; try (with_reducible rfl))
                    try simp only [Act.put, sA, sZ, sS]
                    refine wpAnyH_done (by kernel_rfl) ?_ _
                    go_wp2_with fail
                    exact bodyPost_ret (v := .tuple #[.agg #[.int .i64 (kOf c), .int .i64 0, .string (bs T)], .bool false]) (by simp [results, Tryz.results82, go_sem, k0, k1, k2]) rfl ⟨⟨kOf c, 0, T⟩, false, rfl, .inr ⟨rfl, HE.out⟩, by have hB := V8.out.below; rw [HGG.out]; exact bset3 hB _ _ _⟩
                · have z5 : ((r1.size : Int) == 1) = false := beq_no (by omega)
                  have HHQ := Lib.hid (show hasQ s.data.toList = false by
                    unfold hasQ
                    rw [HTLL.out, show (r1.size + 1 == 2) = false from by rw [beq_eq_false_iff_ne]; omega]; simp)
                  by_cases h10 : r1.size = 0
                  · have HOP := Lib.hid (one_p (p := s.data.toList) (x := ⟨kOf c, 0, T⟩) (by rw [HG0.out]) HTT.out rfl (by rw [HTLL.out, h10]))
                    obtain ⟨z1, z2⟩ := empty_bs h10
                    clear h10 h11
                    obtain ⟨v, hvv⟩ : ∃ v, v = vS ⟨kOf c, 0, T⟩ := ⟨_, rfl⟩
                    have HVX := Lib.hid hvv
                    by_cases hv0 : v = 0
                    · have HE := Lib.hid (HOP.out.1 (by rw [← hvv]; exact hv0))
                      have ev : (v == 0) = true := by rw [hv0]; rfl
                      clear hvv hv0
                      go_wp2_with fail
                      refine (letters_any _).mono ?_
                      rintro e w2 ⟨rfl, rfl⟩
                      obtain ⟨x0, x1, x2, _, _, _, x6⟩ := V.out.sbox_all (i := 0) rfl
                      dsimp only at x0 x1 x2
                      go_wp2_with fail
                      try rw [← HR1.out]
                      refine (rnucleus_any ⟨kOf c, 0, T⟩ _).mono ?_
                      rintro e w5 ⟨rfl, hb5⟩
                      rw [HN.out]
                      have V5 := Lib.hid (V.out.go hb5)
                      clear hb5 x0 x1 x2 x6
                      go_upto_region 19 with fail
                      obtain ⟨x0, x1, x2, _, _, _, x6⟩ := V5.out.sbox_all (i := 0) rfl
                      have hKp : Keep [(⟨gb, 0, none⟩, .int .i64 (kOf c)), (⟨gb, 1, none⟩, .int .i64 0), (⟨gb, 2, none⟩, .string (bs T))] w5 := List.forall_mem_cons.2 ⟨⟨x0, x6⟩, List.forall_mem_cons.2 ⟨⟨x1, x6⟩, List.forall_mem_cons.2 ⟨⟨x2, x6⟩, fun _ h => by simp at h⟩⟩⟩
                      clear x0 x1 x2 x6
                      refine wp_region_held_drew (S := Keep _) (by kernel_rfl) hKp.drew (fun hHeld => ?_)
                      have V7 := Lib.hid (V5.out.go (bdrew _))
                      obtain ⟨wd, hwd⟩ : ∃ wd, wd = w5.drew := ⟨_, rfl⟩
                      rw [← hwd] at V7 hHeld ⊢
                      clear hwd
                      refine tk 0 ?_ rfl ?_ ?_; rotate_left
                      · intro wl hSw
                        have hSw : Keep _ wl := hSw
                        have k0 := (hSw _ (.head _)).1
                        have k1 := (hSw _ (.tail _ (.head _))).1
                        have k2 := (hSw _ (.tail _ (.tail _ (.head _)))).1
                        dsimp only at k0 k1 k2
                        clear hSw
                        go_simp
                        try (with_reducible rfl)
                      try simp only [Act.put, sA, sZ, sS]
                      refine tk 1 ?_ rfl ?_ ?_; rotate_left; focus (intro w hSw; clear hSw; go_simp; try (with_reducible rfl))
                      try simp only [Act.put, sA, sZ, sS]
                      refine tk 2 ?_ rfl ?_ ?_; rotate_left; focus (intro w hSw; clear hSw; go_simp; try (with_reducible rfl))
                      try simp only [Act.put, sA, sZ, sS]
                      refine tk 3 ?_ rfl ?_ ?_; rotate_left; focus (intro w hSw; clear hSw; go_simp; try (with_reducible rfl))
                      try simp only [Act.put, sA, sZ, sS]
                      refine tk 4 ?_ rfl ?_ ?_; rotate_left
                      · intro wl hSw
                        have hSw : Keep _ wl := hSw
                        have k0 := (hSw _ (.head _)).1
                        have k1 := (hSw _ (.tail _ (.head _))).1
                        have k2 := (hSw _ (.tail _ (.tail _ (.head _)))).1
                        dsimp only at k0 k1 k2
                        clear hSw
                        go_simp
                        try (with_reducible rfl)
                      try simp only [Act.put, sA, sZ, sS]
                      refine wpAnyH_ready (rs := [5]) (by kernel_rfl) (by simp) ?_
                      refine AllReadyH.cons (List.getElem?_toArray.trans rfl) (fun K hK => ?_) AllReadyH.nil
                      go_simp
                      refine (rvalid_any ⟨kOf c, 0, T⟩ _ HTL.out).mono ?_
                      rintro e w8 ⟨rfl, hb8⟩
                      rw [← HVX.out]
                      have V8 := Lib.hid (V7.out.go hb8)
                      try go_wp2_with fail
                      refine hK.out _ _ (hHeld.go hb8) (fun hHeld => ?_)
                      clear hK K
                      try simp only [Act.put, sA, sZ, sS]
                      refine tk 6 ?_ rfl ?_ ?_; rotate_left; focus (intro w hSw; clear hSw; go_simp; try (with_reducible rfl))
                      try simp only [Act.put, sA, sZ, sS]
                      refine tk 7 ?_ rfl ?_ ?_; rotate_left; focus (intro w hSw; clear hSw; go_simp; try (with_reducible rfl))
                      try simp only [Act.put, sA, sZ, sS]
                      refine wpAnyH_ready (rs := [8]) (by kernel_rfl) (by simp) ?_
                      refine AllReadyH.cons (List.getElem?_toArray.trans rfl) (fun K hK => ?_) AllReadyH.nil
                      obtain ⟨k0, k1, k2, k3, k4, k5, k6⟩ := V8.out.zbox_all (i := 1) rfl
                      have hne : ¬ gb = g0 := by rw [HGB.out, HGG.out]; omega
                      go_simp
                      have hHeld2 := ((hHeld.set g0 0 (.int .i64 (kOf c)) (List.forall_mem_cons.2 ⟨hne, List.forall_mem_cons.2 ⟨hne, List.forall_mem_cons.2 ⟨hne, fun _ h => by simp at h⟩⟩⟩)).set g0 1 (.int .i64 0) (List.forall_mem_cons.2 ⟨hne, List.forall_mem_cons.2 ⟨hne, List.forall_mem_cons.2 ⟨hne, fun _ h => by simp at h⟩⟩⟩)).set g0 2 (.string (bs T)) (List.forall_mem_cons.2 ⟨hne, List.forall_mem_cons.2 ⟨hne, List.forall_mem_cons.2 ⟨hne, fun _ h => by simp at h⟩⟩⟩)
                      refine hK.out _ _ hHeld2 (fun hHeld => ?_)
                      clear hK K
                      try simp only [Act.put, sA, sZ, sS]
                      refine tk 9 ?_ rfl ?_ ?_; rotate_left; focus (intro w hSw; clear hSw; go_simp; try (with_reducible rfl))
                      try simp only [Act.put, sA, sZ, sS]
                      refine wpAnyH_done (by kernel_rfl) ?_ _
                      go_wp2_with fail
                      exact bodyPost_ret (v := .tuple #[.agg #[.int .i64 (kOf c), .int .i64 0, .string (bs T)], .bool true]) (by simp [results, Tryz.results82, go_sem, k0, k1, k2]) rfl ⟨⟨kOf c, 0, T⟩, true, rfl, .inl ⟨rfl, HE.out⟩, by have hB := V8.out.below; rw [HGG.out]; exact bset3 hB _ _ _⟩
                    · have HE := Lib.hid (HOP.out.2 (by rw [← hvv]; exact hv0))
                      have ev : (v == 0) = false := beq_no hv0
                      clear hvv hv0
                      go_wp2_with fail
                      refine (letters_any _).mono ?_
                      rintro e w2 ⟨rfl, rfl⟩
                      obtain ⟨x0, x1, x2, _, _, _, x6⟩ := V.out.sbox_all (i := 0) rfl
                      dsimp only at x0 x1 x2
                      go_wp2_with fail
                      try rw [← HR1.out]
                      refine (rnucleus_any ⟨kOf c, 0, T⟩ _).mono ?_
                      rintro e w5 ⟨rfl, hb5⟩
                      rw [HN.out]
                      have V5 := Lib.hid (V.out.go hb5)
                      clear hb5 x0 x1 x2 x6
                      go_upto_region 19 with fail
                      obtain ⟨x0, x1, x2, _, _, _, x6⟩ := V5.out.sbox_all (i := 0) rfl
                      have hKp : Keep [(⟨gb, 0, none⟩, .int .i64 (kOf c)), (⟨gb, 1, none⟩, .int .i64 0), (⟨gb, 2, none⟩, .string (bs T))] w5 := List.forall_mem_cons.2 ⟨⟨x0, x6⟩, List.forall_mem_cons.2 ⟨⟨x1, x6⟩, List.forall_mem_cons.2 ⟨⟨x2, x6⟩, fun _ h => by simp at h⟩⟩⟩
                      clear x0 x1 x2 x6
                      refine wp_region_held_drew (S := Keep _) (by kernel_rfl) hKp.drew (fun hHeld => ?_)
                      have V7 := Lib.hid (V5.out.go (bdrew _))
                      obtain ⟨wd, hwd⟩ : ∃ wd, wd = w5.drew := ⟨_, rfl⟩
                      rw [← hwd] at V7 hHeld ⊢
                      clear hwd
                      refine tk 0 ?_ rfl ?_ ?_; rotate_left
                      · intro wl hSw
                        have hSw : Keep _ wl := hSw
                        have k0 := (hSw _ (.head _)).1
                        have k1 := (hSw _ (.tail _ (.head _))).1
                        have k2 := (hSw _ (.tail _ (.tail _ (.head _)))).1
                        dsimp only at k0 k1 k2
                        clear hSw
                        go_simp
                        try (with_reducible rfl)
                      try simp only [Act.put, sA, sZ, sS]
                      refine tk 1 ?_ rfl ?_ ?_; rotate_left; focus (intro w hSw; clear hSw; go_simp; try (with_reducible rfl))
                      try simp only [Act.put, sA, sZ, sS]
                      refine tk 2 ?_ rfl ?_ ?_; rotate_left; focus (intro w hSw; clear hSw; go_simp; try (with_reducible rfl))
                      try simp only [Act.put, sA, sZ, sS]
                      refine tk 3 ?_ rfl ?_ ?_; rotate_left; focus (intro w hSw; clear hSw; go_simp; try (with_reducible rfl))
                      try simp only [Act.put, sA, sZ, sS]
                      refine tk 4 ?_ rfl ?_ ?_; rotate_left
                      · intro wl hSw
                        have hSw : Keep _ wl := hSw
                        have k0 := (hSw _ (.head _)).1
                        have k1 := (hSw _ (.tail _ (.head _))).1
                        have k2 := (hSw _ (.tail _ (.tail _ (.head _)))).1
                        dsimp only at k0 k1 k2
                        clear hSw
                        go_simp
                        try (with_reducible rfl)
                      try simp only [Act.put, sA, sZ, sS]
                      refine wpAnyH_ready (rs := [5]) (by kernel_rfl) (by simp) ?_
                      refine AllReadyH.cons (List.getElem?_toArray.trans rfl) (fun K hK => ?_) AllReadyH.nil
                      go_simp
                      refine (rvalid_any ⟨kOf c, 0, T⟩ _ HTL.out).mono ?_
                      rintro e w8 ⟨rfl, hb8⟩
                      rw [← HVX.out]
                      have V8 := Lib.hid (V7.out.go hb8)
                      try go_wp2_with fail
                      refine hK.out _ _ (hHeld.go hb8) (fun hHeld => ?_)
                      clear hK K
                      try simp only [Act.put, sA, sZ, sS]
                      refine tk 6 ?_ rfl ?_ ?_; rotate_left; focus (intro w hSw; clear hSw; go_simp; try (with_reducible rfl))
                      try simp only [Act.put, sA, sZ, sS]
                      refine tk 7 ?_ rfl ?_ ?_; rotate_left; focus (intro w hSw; clear hSw; go_simp; try (with_reducible rfl))
                      try simp only [Act.put, sA, sZ, sS]
                      refine wpAnyH_ready (rs := [8]) (by kernel_rfl) (by simp) ?_
                      refine AllReadyH.cons (List.getElem?_toArray.trans rfl) (fun K hK => ?_) AllReadyH.nil
                      obtain ⟨k0, k1, k2, k3, k4, k5, k6⟩ := V8.out.zbox_all (i := 1) rfl
                      have hne : ¬ gb = g0 := by rw [HGB.out, HGG.out]; omega
                      go_simp
                      have hHeld2 := ((hHeld.set g0 0 (.int .i64 (kOf c)) (List.forall_mem_cons.2 ⟨hne, List.forall_mem_cons.2 ⟨hne, List.forall_mem_cons.2 ⟨hne, fun _ h => by simp at h⟩⟩⟩)).set g0 1 (.int .i64 0) (List.forall_mem_cons.2 ⟨hne, List.forall_mem_cons.2 ⟨hne, List.forall_mem_cons.2 ⟨hne, fun _ h => by simp at h⟩⟩⟩)).set g0 2 (.string (bs T)) (List.forall_mem_cons.2 ⟨hne, List.forall_mem_cons.2 ⟨hne, List.forall_mem_cons.2 ⟨hne, fun _ h => by simp at h⟩⟩⟩)
                      refine hK.out _ _ hHeld2 (fun hHeld => ?_)
                      clear hK K
                      try simp only [Act.put, sA, sZ, sS]
                      refine tk 9 ?_ rfl ?_ ?_; rotate_left; focus (intro w hSw; clear hSw; go_simp; try (with_reducible rfl))
                      try simp only [Act.put, sA, sZ, sS]
                      refine wpAnyH_done (by kernel_rfl) ?_ _
                      go_wp2_with fail
                      exact bodyPost_ret (v := .tuple #[.agg #[.int .i64 (kOf c), .int .i64 0, .string (bs T)], .bool false]) (by simp [results, Tryz.results82, go_sem, k0, k1, k2]) rfl ⟨⟨kOf c, 0, T⟩, false, rfl, .inr ⟨rfl, HE.out⟩, by have hB := V8.out.below; rw [HGG.out]; exact bset3 hB _ _ _⟩
                  · have HE := Lib.hid (one_no HHQ.out (by rw [HTLL.out]; omega))
                    have z2 := full_bs (s := r1) (by omega)
                    clear h10 h11
                    go_wp2_with fail
                    refine (letters_any _).mono ?_
                    rintro e w2 ⟨rfl, rfl⟩
                    obtain ⟨x0, x1, x2, _, _, _, x6⟩ := V.out.sbox_all (i := 0) rfl
                    dsimp only at x0 x1 x2
                    go_wp2_with fail
                    try rw [← HR1.out]
                    refine (rnucleus_any ⟨kOf c, 0, T⟩ _).mono ?_
                    rintro e w5 ⟨rfl, hb5⟩
                    rw [HN.out]
                    have V5 := Lib.hid (V.out.go hb5)
                    clear hb5 x0 x1 x2 x6
                    go_upto_region 19 with fail
                    obtain ⟨x0, x1, x2, _, _, _, x6⟩ := V5.out.sbox_all (i := 0) rfl
                    have hKp : Keep [(⟨gb, 0, none⟩, .int .i64 (kOf c)), (⟨gb, 1, none⟩, .int .i64 0), (⟨gb, 2, none⟩, .string (bs T))] w5 := List.forall_mem_cons.2 ⟨⟨x0, x6⟩, List.forall_mem_cons.2 ⟨⟨x1, x6⟩, List.forall_mem_cons.2 ⟨⟨x2, x6⟩, fun _ h => by simp at h⟩⟩⟩
                    clear x0 x1 x2 x6
                    refine wp_region_held_drew (S := Keep _) (by kernel_rfl) hKp.drew (fun hHeld => ?_)
                    have V7 := Lib.hid (V5.out.go (bdrew _))
                    obtain ⟨wd, hwd⟩ : ∃ wd, wd = w5.drew := ⟨_, rfl⟩
                    rw [← hwd] at V7 hHeld ⊢
                    clear hwd
                    refine tk 0 ?_ rfl ?_ ?_; rotate_left
                    · intro wl hSw
                      have hSw : Keep _ wl := hSw
                      have k0 := (hSw _ (.head _)).1
                      have k1 := (hSw _ (.tail _ (.head _))).1
                      have k2 := (hSw _ (.tail _ (.tail _ (.head _)))).1
                      dsimp only at k0 k1 k2
                      clear hSw
                      go_simp
                      try (with_reducible rfl)
                    try simp only [Act.put, sA, sZ, sS]
                    refine tk 1 ?_ rfl ?_ ?_; rotate_left; focus (intro w hSw; clear hSw; go_simp; try (with_reducible rfl))
                    try simp only [Act.put, sA, sZ, sS]
                    refine tk 2 ?_ rfl ?_ ?_; rotate_left; focus (intro w hSw; clear hSw; go_simp; try (with_reducible rfl))
                    try simp only [Act.put, sA, sZ, sS]
                    refine tk 3 ?_ rfl ?_ ?_; rotate_left; focus (intro w hSw; clear hSw; go_simp; try (with_reducible rfl))
                    try simp only [Act.put, sA, sZ, sS]
                    refine tu 4 rfl ?_
                    try simp only [Act.put, sA, sZ, sS]
                    refine tu 5 rfl ?_
                    try simp only [Act.put, sA, sZ, sS]
                    refine tu 6 rfl ?_
                    try simp only [Act.put, sA, sZ, sS]
                    refine tk 7 ?_ rfl ?_ ?_; rotate_left; focus (intro w hSw; clear hSw; go_simp; try (with_reducible rfl))
                    try simp only [Act.put, sA, sZ, sS]
                    have V8 := V7
                    refine wpAnyH_ready (rs := [8]) (by kernel_rfl) (by simp) ?_
                    refine AllReadyH.cons (List.getElem?_toArray.trans rfl) (fun K hK => ?_) AllReadyH.nil
                    obtain ⟨k0, k1, k2, k3, k4, k5, k6⟩ := V8.out.zbox_all (i := 1) rfl
                    have hne : ¬ gb = g0 := by rw [HGB.out, HGG.out]; omega
                    go_simp
                    have hHeld2 := ((hHeld.set g0 0 (.int .i64 (kOf c)) (List.forall_mem_cons.2 ⟨hne, List.forall_mem_cons.2 ⟨hne, List.forall_mem_cons.2 ⟨hne, fun _ h => by simp at h⟩⟩⟩)).set g0 1 (.int .i64 0) (List.forall_mem_cons.2 ⟨hne, List.forall_mem_cons.2 ⟨hne, List.forall_mem_cons.2 ⟨hne, fun _ h => by simp at h⟩⟩⟩)).set g0 2 (.string (bs T)) (List.forall_mem_cons.2 ⟨hne, List.forall_mem_cons.2 ⟨hne, List.forall_mem_cons.2 ⟨hne, fun _ h => by simp at h⟩⟩⟩)
                    refine hK.out _ _ hHeld2 (fun hHeld => ?_)
                    clear hK K
                    try simp only [Act.put, sA, sZ, sS]
                    refine tk 9 ?_ rfl ?_ ?_; rotate_left; focus (intro w hSw; clear hSw; go_simp; try (with_reducible rfl))
                    try simp only [Act.put, sA, sZ, sS]
                    refine wpAnyH_done (by kernel_rfl) ?_ _
                    go_wp2_with fail
                    exact bodyPost_ret (v := .tuple #[.agg #[.int .i64 (kOf c), .int .i64 0, .string (bs T)], .bool false]) (by simp [results, Tryz.results82, go_sem, k0, k1, k2]) rfl ⟨⟨kOf c, 0, T⟩, false, rfl, .inr ⟨rfl, HE.out⟩, by have hB := V8.out.below; rw [HGG.out]; exact bset3 hB _ _ _⟩
      · have HN := Lib.hid (not_step hlt HALL.out (byte_ne (n := 47) h47 (by decide)))
        have e1 : ((s[k].toNat : Int) != 47) = true := bne_yes h47
        clear h47
        go_wp2_with fail
        go_roundw
        case rel => exact ⟨k + 1, by omega, by go_num, HN.out, trivial⟩
        case measure => simp [intOf]; omega
    · have HE := Lib.hid (rd_empty (hd_none (s := s) (by have := HALL.out; rwa [takeAll (by omega)] at this)))
      obtain ⟨k0, k1, k2, k3, k4, k5, k6⟩ := V0.out.zbox_all (i := 0) rfl
      have B0 := Lib.hid V0.out.below
      go_wp2_with fail
      exact bodyPost_ret (v := .tuple #[.agg #[.int .i64 0, .int .i64 0, .string ⟨#[]⟩], .bool false]) (by simp [results, Tryz.results82, go_sem, k0, k1, k2]) rfl (rd_no HE.out B0.out)
end Go.Proofs.YtjamfcihjendiaaGreat
