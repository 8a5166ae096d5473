/- Several texts in one: Jl. -/
import Derived.Test.YtjamfcihjendiaaGreatRaat
import Derived.Test.YtjamfcihjendiaaGreatRaas
namespace Go.Proofs.YtjamfcihjendiaaGreat
open Go.RowKit
set_option linter.unusedVariables false
set_option linter.unusedSimpArgs false
set_option maxRecDepth 100000

abbrev Prow := (Option Addr × Nat) × List Nat
def rvP (ps : List Prow) : List Value := ps.map fun p => Value.slice p.1.1 p.2.length p.1.2
def hdrP (A : Option Addr) (n c : Nat) (ps : List Prow) : Itm := ⟨35, 1, .slice A n c, n, rvP ps⟩
theorem rvP_len (ps : List Prow) : (rvP ps).length = ps.length := List.length_map _
theorem rvP_app (ps qs : List Prow) : rvP (ps ++ qs) = rvP ps ++ rvP qs := List.map_append
theorem rvP_one (ps : List Prow) : ∀ u ∈ rvP ps, u.oneCell' = true := fun u hu => by
  obtain ⟨p, _, rfl⟩ := List.mem_map.1 hu; rfl
theorem rvP_cut (ps : List Prow) (j : Nat) : rvP ps = rvP (ps.take j) ++ rvP (ps.drop j) := by rw [← rvP_app, List.take_append_drop]
theorem rvP_get {ps : List Prow} {k : Nat} {p : Prow} (h : ps[k]? = some p) : (rvP ps)[k]? = some (.slice p.1.1 p.2.length p.1.2) := by unfold rvP; rw [List.getElem?_map, h]; rfl
theorem CellsIn.at_ {w : World} {A : Option Addr} {xs : List Value} (h : CellsIn w A xs) {j : Nat} {v : Value} (hv : xs[j]? = some v) : ∃ b off, A = some ⟨b, off, none⟩ ∧ b < w.heap.size ∧ w.cell? ⟨b, off + j, none⟩ = some v := by
  obtain ⟨b, off, e, hb, hc⟩ := h (by have := (List.getElem?_eq_some_iff.1 hv).1; omega)
  exact ⟨b, off, e, hb, hc j v hv⟩
theorem CellsIn.left1 {w : World} {A : Option Addr} {xs ys : List Value} (h : CellsIn w A (xs ++ ys)) : CellsIn w A xs := by
  intro h0
  obtain ⟨b, off, e, hb, hc⟩ := h (by rw [List.length_append]; omega)
  exact ⟨b, off, e, hb, fun j v hv => hc j v (by rw [List.getElem?_append_left (List.getElem?_eq_some_iff.1 hv).1]; exact hv)⟩
theorem CellsIn.right1 {w : World} {b off : Nat} {xs ys : List Value} (h : CellsIn w (some ⟨b, off, none⟩) (xs ++ ys)) : CellsIn w (some ⟨b, off + xs.length, none⟩) ys := by
  intro h0
  obtain ⟨b2, off2, e, hb, hc⟩ := h (by rw [List.length_append]; omega)
  injection e with e
  injection e with e1 e2
  subst e1; subst e2
  refine ⟨_, _, rfl, hb, fun j v hv => ?_⟩
  have := hc (xs.length + j) v (by rw [List.getElem?_append_right (by omega), Nat.add_sub_cancel_left]; exact hv)
  rwa [← Nat.add_assoc] at this
theorem run_cat_P {W w : World} {l : List Itm} {i : Nat} {A : Option Addr} {n c : Nat} {ps : List Prow} (h : Hp W l w) (hi : l[i]? = some (hdrP A n c ps)) (ty : TypeId) {B : Option Addr} {m d : Nat} (us : List Prow) (hus : us.length = m) (hc : CellsIn w B (rvP us)) (hn : n ≤ 1000000000000) (hm : m ≤ 1000000000000) :
    ∃ A2 c2 w', (Builtin.append_ #[27, 27] ty #[.slice A n c, .slice B m d]).run Tryz.prog w = .ok (.slice A2 (n + m) c2) w' ∧
      Hp W (l.set i (hdrP A2 (n + m) c2 (ps ++ us))) w' ∧ w.grownBy w' (Value.slice A n c).ownBlock := by
  have := run_cat h hi (t := 27) ty Tryz.underlying27 row_info rfl (Nat.zero_lt_one) (by decide) (A := A) (c := c) rfl (B := B) (m := m) (d := d) (rvP us) (by rw [rvP_len, hus]; exact (Nat.mul_one m).symm) hc (rvP_one us) (Nat.le_trans hn (by decide)) (Nat.le_trans hm (by decide))
  simpa [hdrP, rvP_app] using this
def insP (L : List Sg) (p : Prow) : List Prow → List Prow
  | [] => [p]
  | y :: r => if befB L y.2 p.2 = true then y :: insP L p r else p :: y :: r
theorem insP_snd (L : List Sg) (p : Prow) : ∀ out : List Prow, (insP L p out).map (·.2) = insD L p.2 (out.map (·.2))
  | [] => rfl
  | y :: r => by
    rw [insP, List.map_cons, insD]
    split
    · rw [List.map_cons, insP_snd L p r]
    · rfl
theorem insP_mem {L : List Sg} {p x : Prow} : ∀ {out : List Prow}, x ∈ insP L p out → x = p ∨ x ∈ out
  | [], h => .inl (List.mem_singleton.1 h)
  | y :: r, h => by
    rw [insP] at h
    split at h
    · rcases List.mem_cons.1 h with h | h
      · exact .inr (by rw [h]; exact List.mem_cons_self)
      · rcases insP_mem h with h | h
        · exact .inl h
        · exact .inr (List.mem_cons_of_mem _ h)
    · rcases List.mem_cons.1 h with h | h
      · exact .inl h
      · exact .inr h
theorem insP_cut {L : List Sg} {p : Prow} : ∀ {out : List Prow} {k : Nat}, k ≤ out.length → (∀ (j : Nat) y, j < k → out[j]? = some y → befB L y.2 p.2 = true) → (∀ y, out[k]? = some y → befB L y.2 p.2 = false) → insP L p out = out.take k ++ p :: out.drop k
  | [], k, hk, _, _ => by simp [insP]
  | z :: r, 0, _, _, h2 => by
    rw [insP, if_neg (by rw [h2 z rfl]; decide)]; rfl
  | z :: r, k + 1, hk, h1, h2 => by
    rw [insP, if_pos (h1 0 z (by omega) rfl), insP_cut (k := k) (by simpa using hk) (fun j y hj hy => h1 (j + 1) y (by omega) (by simpa using hy)) (fun y hy => h2 y (by simpa using hy))]
    rfl
def srtP (L : List Sg) (ps : List Prow) : List Prow := ps.foldl (fun out p => insP L p out) []
theorem srtP_snoc (L : List Sg) (ps : List Prow) (p : Prow) : srtP L (ps ++ [p]) = insP L p (srtP L ps) := by unfold srtP; rw [List.foldl_append]; rfl
theorem srtP_go (L : List Sg) : ∀ (ps out : List Prow), (ps.foldl (fun out p => insP L p out) out).map (·.2) = (ps.map (·.2)).foldl (fun out x => insD L x out) (out.map (·.2))
  | [], out => rfl
  | p :: r, out => by rw [List.foldl_cons, srtP_go L r, insP_snd]; rfl
theorem srtP_snd (L : List Sg) (ps : List Prow) : (srtP L ps).map (·.2) = srtD L (ps.map (·.2)) := srtP_go L ps []
theorem srtP_len (L : List Sg) (ps : List Prow) : (srtP L ps).length = ps.length := by
  have := congrArg List.length (srtP_snd L ps)
  rwa [List.length_map, srtD_len, List.length_map] at this
theorem srtP_memg {L : List Sg} {x : Prow} : ∀ {ps out : List Prow}, x ∈ ps.foldl (fun out p => insP L p out) out → x ∈ ps ∨ x ∈ out
  | [], out, h => .inr h
  | p :: r, out, h => by
    rcases srtP_memg (ps := r) h with h | h
    · exact .inl (List.mem_cons_of_mem _ h)
    · rcases insP_mem h with h | h
      · exact .inl (by rw [h]; exact List.mem_cons_self)
      · exact .inr h
theorem srtP_mem {L : List Sg} {x : Prow} {ps : List Prow} (h : x ∈ srtP L ps) : x ∈ ps := (srtP_memg h).resolve_right (by simp)
set_option maxHeartbeats 3000000 in
theorem rsorted_any (nm : List UInt8) (L : List Sg) (A : Option Addr) (n c0 : Nat) (R : Option Addr) (m d : Nat) (ps : List Prow) (w : World) (hv : (vO nm L).2 = 0) (hl : L.length = n) (hA : SgnIn w A L) (hm : ps.length = m) (hmb : m ≤ 100000) (hR : CellsIn w R (rvP ps)) (hP : ∀ p ∈ ps, p.2.length ≤ 1000 ∧ (∀ i ∈ p.2, i < n) ∧ CellsIn w p.1.1 (ints (dI p.2))) :
    Calls Tryz.prog 25 #[.agg #[.string (bs nm), .slice A n c0], .slice R m d] w fun r w' => ∃ Q e, r = .returned (.slice Q m e) ∧ Hp w [hdrP Q m e (srtP L ps)] w' := by
  obtain ⟨g1, hg1⟩ : ∃ z, z = w.heap.size := ⟨_, rfl⟩
  obtain ⟨W1, hW1⟩ : ∃ z, z = w.alloc (.cells #[.string (bs nm), .slice A n c0] 24) := ⟨_, rfl⟩
  have V1 := Lib.hid (show Hp w [obox g1 nm A n c0] W1 by rw [hW1, hg1]; exact (Hp.start w).obox_new nm A n c0)
  have HW1 := Lib.hid hW1
  have HG1 := Lib.hid hg1
  have HV := Lib.hid hv
  have HL := Lib.hid hl
  have HA := Lib.hid hA
  have HM := Lib.hid hm
  have HR := Lib.hid hR
  have HP := Lib.hid hP
  have V2 := Lib.hid (show Hp w [hdrP none 0 0 (srtP L (ps.take 0)), obox g1 nm A n c0] W1 from V1.out.nil_row _ rfl rfl rfl)
  clear hW1 hg1 hv hl hA hm hR hP
  go_enter Tryz.func25, Tryz.ntmps25
  go_upto_region 1 with fail
  rw [← HG1.out, ← HW1.out]
  go_wp2_with fail
  go_loopw [5, 6] (fun v i wr => ∃ (k e : Nat) (Q : Option Addr), k ≤ m ∧ i = .int .i64 (k : Int) ∧ v = .slice Q k e ∧ (k = 0 → Q = none ∧ e = 0) ∧ Hp w (hdrP Q k e (srtP L (ps.take k)) :: obox g1 nm A n c0 :: []) wr) (fun _ i _ => m - (intOf i).toNat)
  case atStart => exact ⟨0, 0, none, Nat.zero_le _, rfl, rfl, fun _ => ⟨rfl, rfl⟩, V2.out⟩
  case round =>
    obtain ⟨k, e, Q, hk, rfl, rfl, hno, hV⟩ := hrel
    have HNO := Lib.hid hno
    clear hno
    obtain ⟨wi, rfl⟩ : ∃ wi : World, wi = wr := ⟨_, rfl⟩
    have V3 := Lib.hid hV
    clear hV V2 V1
    by_cases hlt : k < m
    · obtain ⟨⟨⟨C, d1⟩, x⟩, hp⟩ := get_at (L := ps) (k := k) (by have := HM.out; omega)
      obtain ⟨hxl, hxn, hxc⟩ := HP.out _ (List.mem_of_getElem? hp)
      have HSN := Lib.hid (show srtP L (ps.take (k + 1)) = insP L ((C, d1), x) (srtP L (ps.take k)) by rw [take_snocA hp, srtP_snoc])
      have HSM := Lib.hid (show ∀ y ∈ srtP L (ps.take k), y.2.length ≤ 1000 ∧ (∀ i ∈ y.2, i < n) ∧ CellsIn w y.1.1 (ints (dI y.2)) from fun y hy => HP.out y (List.mem_of_mem_take (srtP_mem hy)))
      have hsl : (srtP L (ps.take k)).length = k := by rw [srtP_len, List.length_take]; have := HM.out; omega
      obtain ⟨sk, hsk⟩ : ∃ sk, sk = srtP L (ps.take k) := ⟨_, rfl⟩
      rw [← hsk] at HSN HSM V3 hsl
      have HLN := Lib.hid hsl
      have HXN := Lib.hid hxn
      have HXC := Lib.hid hxc
      obtain ⟨bR, oR, hRe, hbR, r0⟩ := HR.out.at_ (rvP_get hp)
      have HR0 := Lib.hid (And.intro hbR r0)
      have HRE := Lib.hid hRe
      subst hRe
      have hxl2 : x.length ≤ 1000 := hxl
      have hcap : k ≤ e := (V3.out.cap (i := 0) (it := hdrP Q k e sk) rfl (A := Q) (c := e) rfl).1
      clear hp hxn hxc hsl hsk hbR r0 hxl
      go_wp2_with fail
      go_loopw [7] (fun v wr => ∃ j : Nat, j ≤ k ∧ v = .int .i64 (j : Int) ∧ (∀ (q : Nat) y, q < j → sk[q]? = some y → befB L y.2 x = true) ∧ Hp w (hdrP Q k e sk :: obox g1 nm A n c0 :: []) wr) (fun v _ => k - (intOf v).toNat)
      case atStart => exact ⟨0, Nat.zero_le _, rfl, fun q y hq => absurd hq (Nat.not_lt_zero _), V3.out⟩
      case round =>
        obtain ⟨j, hj, rfl, hbf, hV⟩ := hrel
        obtain ⟨wj, rfl⟩ : ∃ wj : World, wj = wr := ⟨_, rfl⟩
        have V4 := Lib.hid hV
        have HBF := Lib.hid hbf
        clear hV hbf V3
        by_cases hjk : j < k
        · obtain ⟨⟨⟨C2, d2⟩, y⟩, hy⟩ := get_at (L := sk) (k := j) (by have := HLN.out; omega)
          obtain ⟨bQ, oQ, hQe, hbQ, q0⟩ := (V4.out.cells (i := 0) (it := hdrP Q k e sk) rfl (A := Q) (c := e) rfl).at_ (rvP_get hy)
          obtain ⟨hyl, hyn, hyc⟩ := HSM.out _ (List.mem_of_getElem? hy)
          have hyl2 : y.length ≤ 1000 := hyl
          have HYN := Lib.hid hyn
          have HYC := Lib.hid hyc
          have HQ0 := Lib.hid (And.intro hbQ q0)
          have HYK := Lib.hid hy
          have e1 : decide ((j : Int) < (k : Int)) = true := decide_eq_true (by omega)
          have hcapj : j < e := by omega
          obtain ⟨z0, z1, z2⟩ := V4.out.obox_at (i := 1) rfl
          subst hQe
          clear hy hyl hyn hyc hbQ q0
          go_upto_region 6 with fail
          cases hb : befB L y x with
          | true =>
            have HB := Lib.hid (show ∀ (q : Nat) y', q < j + 1 → sk[q]? = some y' → befB L y'.2 x = true from fun q y' hq hy' => by
              by_cases h : q < j
              · exact HBF.out q y' h hy'
              · obtain rfl : q = j := by omega
                rw [HYK.out] at hy'
                injection hy' with hy'
                subst hy'
                exact hb)
            have HBB := Lib.hid hb
            clear hb
            have hKp : Keep [(⟨g1, 0, none⟩, .string (bs nm)), (⟨g1, 1, none⟩, .slice A n c0), (⟨bQ, oQ + j, none⟩, .slice C2 y.length d2), (⟨bR, oR + k, none⟩, .slice C x.length d1)] wj := List.forall_mem_cons.2 ⟨⟨(V4.out.box_at (i := 1) (j := 0) rfl rfl).1, (V4.out.box_at (i := 1) (j := 0) rfl rfl).2.2⟩, List.forall_mem_cons.2 ⟨⟨(V4.out.box_at (i := 1) (j := 1) rfl rfl).1, (V4.out.box_at (i := 1) (j := 1) rfl rfl).2.2⟩, List.forall_mem_cons.2 ⟨⟨HQ0.out.2, HQ0.out.1⟩, List.forall_mem_cons.2 ⟨⟨(V4.out.below.cell (p := ⟨bR, oR + k, none⟩) HR0.out.1).trans HR0.out.2, Nat.lt_of_lt_of_le HR0.out.1 V4.out.below.size⟩, fun _ h => by simp at h⟩⟩⟩⟩
            refine wp_region_held_drew (S := Keep _) (by kernel_rfl) hKp.drew (fun hHeld => ?_)
            obtain ⟨wf, hwf⟩ : ∃ z, z = wj.drew := ⟨_, rfl⟩
            have Vwf := Lib.hid (show Hp w (hdrP (some ⟨bQ, oQ, none⟩) k e sk :: obox g1 nm A n c0 :: []) wf by rw [hwf]; exact V4.out.go (bdrew _))
            have Bwf := Lib.hid (show Below wj.heap.size wj wf by rw [hwf]; exact bdrew _)
            rw [← hwf] at hHeld ⊢
            clear hwf hKp
            refine tk 0 ?_ rfl ?_ ?_; rotate_left; focus (intro w hSw; clear hSw; go_simp; try (with_reducible rfl))
            try simp only [Act.put, sA, sZ, sS]
            refine tk 1 ?_ rfl ?_ ?_; rotate_left; focus (intro w hSw; clear hSw; go_simp; try (with_reducible rfl))
            try simp only [Act.put, sA, sZ, sS]
            refine tk 2 ?_ rfl ?_ ?_; rotate_left; focus (intro w hSw; clear hSw; go_simp; try (with_reducible rfl))
            try simp only [Act.put, sA, sZ, sS]
            refine tk 3 ?_ rfl ?_ ?_; rotate_left; focus (intro w hSw; clear hSw; go_simp; try (with_reducible rfl))
            try simp only [Act.put, sA, sZ, sS]
            refine tk 4 ?_ rfl ?_ ?_; rotate_left; focus (intro w hSw; clear hSw; go_simp; try (with_reducible rfl))
            try simp only [Act.put, sA, sZ, sS]
            refine tk 5 ?_ rfl ?_ ?_; rotate_left
            · intro wl hSw
              have hSw : Keep _ wl := hSw
              have k0 := (hSw _ (.head _)).1
              have k1 := (hSw _ (.tail _ (.head _))).1
              dsimp only at k0 k1
              clear hSw
              go_simp
              try (with_reducible rfl)
            try simp only [Act.put, sA, sZ, sS]
            refine tk 6 ?_ rfl ?_ ?_; rotate_left; focus (intro w hSw; clear hSw; go_simp; try (with_reducible rfl))
            try simp only [Act.put, sA, sZ, sS]
            refine tk 7 ?_ rfl ?_ ?_; rotate_left; focus (intro w hSw; clear hSw; go_simp; try (with_reducible rfl))
            try simp only [Act.put, sA, sZ, sS]
            refine tk 8 ?_ rfl ?_ ?_; rotate_left; focus (intro w hSw; clear hSw; go_simp; try (with_reducible rfl))
            try simp only [Act.put, sA, sZ, sS]
            refine tk 9 ?_ rfl ?_ ?_; rotate_left
            · intro wl hSw
              have hSw : Keep _ wl := hSw
              have k0 := (hSw _ (.tail _ (.tail _ (.head _)))).1
              dsimp only at k0
              clear hSw
              go_simp
              try (with_reducible rfl)
            try simp only [Act.put, sA, sZ, sS]
            refine tk 10 ?_ rfl ?_ ?_; rotate_left; focus (intro w hSw; clear hSw; go_simp; try (with_reducible rfl))
            try simp only [Act.put, sA, sZ, sS]
            refine tk 11 ?_ rfl ?_ ?_; rotate_left; focus (intro w hSw; clear hSw; go_simp; try (with_reducible rfl))
            try simp only [Act.put, sA, sZ, sS]
            refine tk 12 ?_ rfl ?_ ?_; rotate_left; focus (intro w hSw; clear hSw; go_simp; try (with_reducible rfl))
            try simp only [Act.put, sA, sZ, sS]
            refine tk 13 ?_ rfl ?_ ?_; rotate_left
            · intro wl hSw
              have hSw : Keep _ wl := hSw
              have k0 := (hSw _ (.tail _ (.tail _ (.tail _ (.head _))))).1
              dsimp only at k0
              clear hSw
              go_simp
              try (with_reducible rfl)
            try simp only [Act.put, sA, sZ, sS]
            refine wpAnyH_ready (rs := [14]) (by kernel_rfl) (by simp) ?_
            refine AllReadyH.cons (List.getElem?_toArray.trans rfl) (fun K hK => ?_) AllReadyH.nil
            go_simp
            refine (rbefore13_any nm L A n c0 y x C2 C y.length d2 x.length d1 _ HV.out HL.out (HA.out.below Vwf.out.below) HYN.out HXN.out rfl rfl (by omega) (by omega) (HYC.out.below Vwf.out.below) (HXC.out.below Vwf.out.below)).mono ?_
            rintro r w_14 ⟨rfl, hb⟩
            rw [HBB.out]
            have V_14 := Lib.hid (Vwf.out.go hb)
            have B_14 := Lib.hid hb
            clear hb
            try go_wp2_with fail
            refine hK.out _ _ (hHeld.go B_14.out) (fun hHeld => ?_)
            clear hK K
            try simp only [Act.put, sA, sZ, sS]
            refine tk 15 ?_ rfl ?_ ?_; rotate_left; focus (intro w hSw; clear hSw; go_simp; try (with_reducible rfl))
            try simp only [Act.put, sA, sZ, sS]
            refine wpAnyH_done (by kernel_rfl) ?_ _
            clear hHeld
            go_wp2_with fail
            go_roundw
            case rel => exact ⟨j + 1, by omega, by go_num, HB.out, V_14.out⟩
            case measure => simp [intOf]; omega
          | false =>
            have HCUT := Lib.hid (show insP L ((C, d1), x) sk = sk.take j ++ ((C, d1), x) :: sk.drop j from insP_cut (by have := HLN.out; omega) HBF.out (fun y' hy' => by
              rw [HYK.out] at hy'
              injection hy' with hy'
              subst hy'
              exact hb))
            have HBB := Lib.hid hb
            clear hb
            have hKp : Keep [(⟨g1, 0, none⟩, .string (bs nm)), (⟨g1, 1, none⟩, .slice A n c0), (⟨bQ, oQ + j, none⟩, .slice C2 y.length d2), (⟨bR, oR + k, none⟩, .slice C x.length d1)] wj := List.forall_mem_cons.2 ⟨⟨(V4.out.box_at (i := 1) (j := 0) rfl rfl).1, (V4.out.box_at (i := 1) (j := 0) rfl rfl).2.2⟩, List.forall_mem_cons.2 ⟨⟨(V4.out.box_at (i := 1) (j := 1) rfl rfl).1, (V4.out.box_at (i := 1) (j := 1) rfl rfl).2.2⟩, List.forall_mem_cons.2 ⟨⟨HQ0.out.2, HQ0.out.1⟩, List.forall_mem_cons.2 ⟨⟨(V4.out.below.cell (p := ⟨bR, oR + k, none⟩) HR0.out.1).trans HR0.out.2, Nat.lt_of_lt_of_le HR0.out.1 V4.out.below.size⟩, fun _ h => by simp at h⟩⟩⟩⟩
            refine wp_region_held_drew (S := Keep _) (by kernel_rfl) hKp.drew (fun hHeld => ?_)
            obtain ⟨wf, hwf⟩ : ∃ z, z = wj.drew := ⟨_, rfl⟩
            have Vwf := Lib.hid (show Hp w (hdrP (some ⟨bQ, oQ, none⟩) k e sk :: obox g1 nm A n c0 :: []) wf by rw [hwf]; exact V4.out.go (bdrew _))
            have Bwf := Lib.hid (show Below wj.heap.size wj wf by rw [hwf]; exact bdrew _)
            rw [← hwf] at hHeld ⊢
            clear hwf hKp
            refine tk 0 ?_ rfl ?_ ?_; rotate_left; focus (intro w hSw; clear hSw; go_simp; try (with_reducible rfl))
            try simp only [Act.put, sA, sZ, sS]
            refine tk 1 ?_ rfl ?_ ?_; rotate_left; focus (intro w hSw; clear hSw; go_simp; try (with_reducible rfl))
            try simp only [Act.put, sA, sZ, sS]
            refine tk 2 ?_ rfl ?_ ?_; rotate_left; focus (intro w hSw; clear hSw; go_simp; try (with_reducible rfl))
            try simp only [Act.put, sA, sZ, sS]
            refine tk 3 ?_ rfl ?_ ?_; rotate_left; focus (intro w hSw; clear hSw; go_simp; try (with_reducible rfl))
            try simp only [Act.put, sA, sZ, sS]
            refine tk 4 ?_ rfl ?_ ?_; rotate_left; focus (intro w hSw; clear hSw; go_simp; try (with_reducible rfl))
            try simp only [Act.put, sA, sZ, sS]
            refine tk 5 ?_ rfl ?_ ?_; rotate_left
            · intro wl hSw
              have hSw : Keep _ wl := hSw
              have k0 := (hSw _ (.head _)).1
              have k1 := (hSw _ (.tail _ (.head _))).1
              dsimp only at k0 k1
              clear hSw
              go_simp
              try (with_reducible rfl)
            try simp only [Act.put, sA, sZ, sS]
            refine tk 6 ?_ rfl ?_ ?_; rotate_left; focus (intro w hSw; clear hSw; go_simp; try (with_reducible rfl))
            try simp only [Act.put, sA, sZ, sS]
            refine tk 7 ?_ rfl ?_ ?_; rotate_left; focus (intro w hSw; clear hSw; go_simp; try (with_reducible rfl))
            try simp only [Act.put, sA, sZ, sS]
            refine tk 8 ?_ rfl ?_ ?_; rotate_left; focus (intro w hSw; clear hSw; go_simp; try (with_reducible rfl))
            try simp only [Act.put, sA, sZ, sS]
            refine tk 9 ?_ rfl ?_ ?_; rotate_left
            · intro wl hSw
              have hSw : Keep _ wl := hSw
              have k0 := (hSw _ (.tail _ (.tail _ (.head _)))).1
              dsimp only at k0
              clear hSw
              go_simp
              try (with_reducible rfl)
            try simp only [Act.put, sA, sZ, sS]
            refine tk 10 ?_ rfl ?_ ?_; rotate_left; focus (intro w hSw; clear hSw; go_simp; try (with_reducible rfl))
            try simp only [Act.put, sA, sZ, sS]
            refine tk 11 ?_ rfl ?_ ?_; rotate_left; focus (intro w hSw; clear hSw; go_simp; try (with_reducible rfl))
            try simp only [Act.put, sA, sZ, sS]
            refine tk 12 ?_ rfl ?_ ?_; rotate_left; focus (intro w hSw; clear hSw; go_simp; try (with_reducible rfl))
            try simp only [Act.put, sA, sZ, sS]
            refine tk 13 ?_ rfl ?_ ?_; rotate_left
            · intro wl hSw
              have hSw : Keep _ wl := hSw
              have k0 := (hSw _ (.tail _ (.tail _ (.tail _ (.head _))))).1
              dsimp only at k0
              clear hSw
              go_simp
              try (with_reducible rfl)
            try simp only [Act.put, sA, sZ, sS]
            refine wpAnyH_ready (rs := [14]) (by kernel_rfl) (by simp) ?_
            refine AllReadyH.cons (List.getElem?_toArray.trans rfl) (fun K hK => ?_) AllReadyH.nil
            go_simp
            refine (rbefore13_any nm L A n c0 y x C2 C y.length d2 x.length d1 _ HV.out HL.out (HA.out.below Vwf.out.below) HYN.out HXN.out rfl rfl (by omega) (by omega) (HYC.out.below Vwf.out.below) (HXC.out.below Vwf.out.below)).mono ?_
            rintro r w_14 ⟨rfl, hb⟩
            rw [HBB.out]
            have V_14 := Lib.hid (Vwf.out.go hb)
            have B_14 := Lib.hid hb
            clear hb
            try go_wp2_with fail
            refine hK.out _ _ (hHeld.go B_14.out) (fun hHeld => ?_)
            clear hK K
            try simp only [Act.put, sA, sZ, sS]
            refine tk 15 ?_ rfl ?_ ?_; rotate_left; focus (intro w hSw; clear hSw; go_simp; try (with_reducible rfl))
            try simp only [Act.put, sA, sZ, sS]
            refine wpAnyH_done (by kernel_rfl) ?_ _
            clear hHeld z0 z1 z2
            obtain ⟨BB, hBB⟩ : ∃ BB : Option Addr, (if e = j then some (⟨bQ, oQ, none⟩ : Addr) else some ⟨bQ, oQ + j, none⟩) = BB := ⟨_, rfl⟩
            have HCR := Lib.hid (fun (wq : World) (hq : CellsIn wq (some ⟨bQ, oQ, none⟩) (rvP sk)) => (show CellsIn wq BB (rvP (sk.drop j)) by
              rw [← hBB]
              by_cases he : e = j
              · intro h0
                rw [rvP_len, List.length_drop] at h0
                have := HLN.out; omega
              · rw [if_neg he]
                rw [rvP_cut sk j] at hq
                have := hq.right1
                rwa [rvP_len, List.length_take, show min j sk.length = j by have := HLN.out; omega] at this))
            have hje : j ≤ e := by omega
            go_upto_region 8 with fail
            have hKp : Keep [(⟨bR, oR + k, none⟩, .slice C x.length d1)] w_14 := List.forall_mem_cons.2 ⟨⟨(V_14.out.below.cell (p := ⟨bR, oR + k, none⟩) HR0.out.1).trans HR0.out.2, Nat.lt_of_lt_of_le HR0.out.1 V_14.out.below.size⟩, fun _ h => by simp at h⟩
            refine wp_region_held_drew (S := Keep _) (by kernel_rfl) hKp.drew (fun hHeld => ?_)
            obtain ⟨wg, hwg⟩ : ∃ z, z = w_14.drew := ⟨_, rfl⟩
            have Vwg := Lib.hid (show Hp w (hdrP (some ⟨bQ, oQ, none⟩) k e sk :: obox g1 nm A n c0 :: []) wg by rw [hwg]; exact V_14.out.go (bdrew _))
            have Bwg := Lib.hid (show Below w_14.heap.size w_14 wg by rw [hwg]; exact bdrew _)
            rw [← hwg] at hHeld ⊢
            clear hwg hKp
            refine tk 1 ?_ rfl ?_ ?_; rotate_left; focus (intro w hSw; clear hSw; go_simp; try (with_reducible rfl))
            try simp only [Act.put, sA, sZ, sS]
            refine tk 2 ?_ rfl ?_ ?_; rotate_left; focus (intro w hSw; clear hSw; go_simp; try (with_reducible rfl))
            try simp only [Act.put, sA, sZ, sS]
            refine tk 3 ?_ rfl ?_ ?_; rotate_left; focus (intro w hSw; clear hSw; go_simp; try (with_reducible rfl))
            try simp only [Act.put, sA, sZ, sS]
            refine tk 5 ?_ rfl ?_ ?_; rotate_left; focus (intro w hSw; clear hSw; go_simp; try (with_reducible rfl))
            try simp only [Act.put, sA, sZ, sS]
            refine tk 6 ?_ rfl ?_ ?_; rotate_left; focus (intro w hSw; clear hSw; go_simp; try (with_reducible rfl))
            try simp only [Act.put, sA, sZ, sS]
            refine tk 7 ?_ rfl ?_ ?_; rotate_left; focus (intro w hSw; clear hSw; go_simp; try (with_reducible rfl))
            try simp only [Act.put, sA, sZ, sS]
            refine tk 8 ?_ rfl ?_ ?_; rotate_left
            · intro wl hSw
              have hSw : Keep _ wl := hSw
              have k0 := (hSw _ (.head _)).1
              dsimp only at k0
              clear hSw
              go_simp
              try (with_reducible rfl)
            try simp only [Act.put, sA, sZ, sS]
            refine tk 11 ?_ rfl ?_ ?_; rotate_left; focus (intro w hSw; clear hSw; go_simp; try (with_reducible rfl))
            try simp only [Act.put, sA, sZ, sS]
            refine tk 12 ?_ rfl ?_ ?_; rotate_left; focus (intro w hSw; clear hSw; go_simp; try (with_reducible rfl))
            try simp only [Act.put, sA, sZ, sS]
            refine tk 13 ?_ rfl ?_ ?_; rotate_left; focus (intro w hSw; clear hSw; go_simp; try (with_reducible rfl))
            try simp only [Act.put, sA, sZ, sS]
            refine wpAnyH_ready (rs := [0, 9]) (by kernel_rfl) (by simp) ?_
            refine AllReadyH.cons (List.getElem?_toArray.trans rfl) (fun K hK => ?_) ?_
            · obtain ⟨w_0, hw_0⟩ : ∃ z, z = wg.alloc (.cells #[] 35) := ⟨_, rfl⟩
              obtain ⟨g_0, hg_0⟩ : ∃ z, z = wg.heap.size := ⟨_, rfl⟩
              have V_0 := Lib.hid (show Hp w (hdrP (some ⟨g_0, 0, none⟩) 0 0 [] :: hdrP (some ⟨bQ, oQ, none⟩) k e sk :: obox g1 nm A n c0 :: []) w_0 by rw [hw_0, hg_0]; exact Vwg.out.lit 35 1 0 (rvP []) rfl (by decide))
              have B_0 := Lib.hid (show Below wg.heap.size wg w_0 by rw [hw_0]; exact bnew _ _)
              have HW_0 := Lib.hid hw_0
              have HG_0 := Lib.hid hg_0
              clear hw_0 hg_0
              go_simp
              try rw [← HW_0.out]
              try rw [← HG_0.out]
              refine hK.out _ _ (List.forall_mem_cons.2 ⟨⟨(V_0.out.below.cell (p := ⟨bR, oR + k, none⟩) HR0.out.1).trans HR0.out.2, Nat.lt_of_lt_of_le HR0.out.1 V_0.out.below.size⟩, fun _ h => by simp at h⟩) (fun hHeld => ?_)
              clear hK K
              try simp only [Act.put, sA, sZ, sS]
              refine wpAnyH_ready (rs := [4, 9]) (by kernel_rfl) (by simp) ?_
              refine AllReadyH.cons (List.getElem?_toArray.trans rfl) (fun K hK => ?_) ?_
              · obtain ⟨A_0_4, c_0_4, w_0_4, hr_0_4, hv_0_4, _⟩ := run_cat_P V_0.out (i := 0) rfl 27 (B := (some ⟨bQ, oQ, none⟩)) (m := j) (d := e) (sk.take j) (by rw [List.length_take]; have := HLN.out; omega) (by have q := (show CellsIn w_0 (some ⟨bQ, oQ, none⟩) (rvP sk) from V_0.out.cells (i := 1) (it := hdrP (some ⟨bQ, oQ, none⟩) k e sk) rfl (A := (some ⟨bQ, oQ, none⟩)) (c := e) rfl); rw [rvP_cut sk j] at q; exact q.left1) (by omega) (by omega)
                rw [Nat.zero_add] at hr_0_4 hv_0_4
                have R_0_4 := Lib.hid hr_0_4
                have V_0_4 := Lib.hid (show Hp w (hdrP A_0_4 (j) c_0_4 (sk.take j) :: hdrP (some ⟨bQ, oQ, none⟩) k e sk :: obox g1 nm A n c0 :: []) w_0_4 from hv_0_4)
                clear hr_0_4 hv_0_4
                refine step_app_run rfl (.tmp 32) (.tmp 35) 27 rfl R_0_4.out rfl rfl ?_
                refine hK.out _ _ (List.forall_mem_cons.2 ⟨⟨(V_0_4.out.below.cell (p := ⟨bR, oR + k, none⟩) HR0.out.1).trans HR0.out.2, Nat.lt_of_lt_of_le HR0.out.1 V_0_4.out.below.size⟩, fun _ h => by simp at h⟩) (fun hHeld => ?_)
                clear hK K
                try simp only [Act.put, sA, sZ, sS]
                refine wpAnyH_ready (rs := [9]) (by kernel_rfl) (by simp) ?_
                refine AllReadyH.cons (List.getElem?_toArray.trans rfl) (fun K hK => ?_) AllReadyH.nil
                obtain ⟨w_0_4_9, hw_0_4_9⟩ : ∃ z, z = w_0_4.alloc (.cells #[.slice C x.length d1] 35) := ⟨_, rfl⟩
                obtain ⟨g_0_4_9, hg_0_4_9⟩ : ∃ z, z = w_0_4.heap.size := ⟨_, rfl⟩
                have V_0_4_9 := Lib.hid (show Hp w (hdrP (some ⟨g_0_4_9, 0, none⟩) 1 1 [((C, d1), x)] :: hdrP A_0_4 (j) c_0_4 (sk.take j) :: hdrP (some ⟨bQ, oQ, none⟩) k e sk :: obox g1 nm A n c0 :: []) w_0_4_9 by rw [hw_0_4_9, hg_0_4_9]; exact V_0_4.out.lit 35 1 1 (rvP [((C, d1), x)]) rfl (by decide))
                have B_0_4_9 := Lib.hid (show Below w_0_4.heap.size w_0_4 w_0_4_9 by rw [hw_0_4_9]; exact bnew _ _)
                have HW_0_4_9 := Lib.hid hw_0_4_9
                have HG_0_4_9 := Lib.hid hg_0_4_9
                clear hw_0_4_9 hg_0_4_9
                go_simp
                try rw [← HW_0_4_9.out]
                try rw [← HG_0_4_9.out]
                refine hK.out _ _ (List.forall_mem_cons.2 ⟨⟨(V_0_4_9.out.below.cell (p := ⟨bR, oR + k, none⟩) HR0.out.1).trans HR0.out.2, Nat.lt_of_lt_of_le HR0.out.1 V_0_4_9.out.below.size⟩, fun _ h => by simp at h⟩) (fun hHeld => ?_)
                clear hK K
                try simp only [Act.put, sA, sZ, sS]
                refine wpAnyH_ready (rs := [10]) (by kernel_rfl) (by simp) ?_
                refine AllReadyH.cons (List.getElem?_toArray.trans rfl) (fun K hK => ?_) AllReadyH.nil
                obtain ⟨A_0_4_9_10, c_0_4_9_10, w_0_4_9_10, hr_0_4_9_10, hv_0_4_9_10, _⟩ := run_cat_P V_0_4_9.out (i := 1) rfl 27 (B := (some ⟨g_0_4_9, 0, none⟩)) (m := 1) (d := 1) ([((C, d1), x)]) (rfl) (V_0_4_9.out.cells (i := 0) (it := hdrP (some ⟨g_0_4_9, 0, none⟩) 1 1 [((C, d1), x)]) rfl (A := (some ⟨g_0_4_9, 0, none⟩)) (c := 1) rfl) (by omega) (by omega)
                have R_0_4_9_10 := Lib.hid hr_0_4_9_10
                have V_0_4_9_10 := Lib.hid (show Hp w (hdrP (some ⟨g_0_4_9, 0, none⟩) 1 1 [((C, d1), x)] :: hdrP A_0_4_9_10 (j + 1) c_0_4_9_10 (sk.take j ++ [((C, d1), x)]) :: hdrP (some ⟨bQ, oQ, none⟩) k e sk :: obox g1 nm A n c0 :: []) w_0_4_9_10 from hv_0_4_9_10)
                clear hr_0_4_9_10 hv_0_4_9_10
                refine step_app_run rfl (.tmp 36) (.tmp 41) 27 rfl R_0_4_9_10.out rfl rfl ?_
                refine hK.out _ _ (List.forall_mem_cons.2 ⟨⟨(V_0_4_9_10.out.below.cell (p := ⟨bR, oR + k, none⟩) HR0.out.1).trans HR0.out.2, Nat.lt_of_lt_of_le HR0.out.1 V_0_4_9_10.out.below.size⟩, fun _ h => by simp at h⟩) (fun hHeld => ?_)
                clear hK K
                try simp only [Act.put, sA, sZ, sS]
                refine wpAnyH_ready (rs := [14]) (by kernel_rfl) (by simp) ?_
                refine AllReadyH.cons (List.getElem?_toArray.trans rfl) (fun K hK => ?_) AllReadyH.nil
                obtain ⟨A_0_4_9_10_14, c_0_4_9_10_14, w_0_4_9_10_14, hr_0_4_9_10_14, hv_0_4_9_10_14, _⟩ := run_cat_P V_0_4_9_10.out (i := 1) rfl 27 (B := BB) (m := (k - j)) (d := (e - j)) (sk.drop j) (by rw [List.length_drop]; have := HLN.out; omega) (HCR.out w_0_4_9_10 ((show CellsIn w_0_4_9_10 (some ⟨bQ, oQ, none⟩) (rvP sk) from V_0_4_9_10.out.cells (i := 2) (it := hdrP (some ⟨bQ, oQ, none⟩) k e sk) rfl (A := (some ⟨bQ, oQ, none⟩)) (c := e) rfl))) (by omega) (by omega)
                rw [show j + 1 + (k - j) = k + 1 by omega] at hr_0_4_9_10_14 hv_0_4_9_10_14
                have R_0_4_9_10_14 := Lib.hid hr_0_4_9_10_14
                have V_0_4_9_10_14 := Lib.hid (show Hp w (hdrP (some ⟨g_0_4_9, 0, none⟩) 1 1 [((C, d1), x)] :: hdrP A_0_4_9_10_14 (k + 1) c_0_4_9_10_14 (sk.take j ++ [((C, d1), x)] ++ sk.drop j) :: hdrP (some ⟨bQ, oQ, none⟩) k e sk :: obox g1 nm A n c0 :: []) w_0_4_9_10_14 from hv_0_4_9_10_14)
                clear hr_0_4_9_10_14 hv_0_4_9_10_14
                refine step_app_run rfl (.tmp 42) (.tmp 45) 27 rfl R_0_4_9_10_14.out rfl rfl ?_
                refine hK.out _ _ (List.forall_mem_cons.2 ⟨⟨(V_0_4_9_10_14.out.below.cell (p := ⟨bR, oR + k, none⟩) HR0.out.1).trans HR0.out.2, Nat.lt_of_lt_of_le HR0.out.1 V_0_4_9_10_14.out.below.size⟩, fun _ h => by simp at h⟩) (fun hHeld => ?_)
                clear hK K
                try simp only [Act.put, sA, sZ, sS]
                refine tk 15 ?_ rfl ?_ ?_; rotate_left; focus (intro w hSw; clear hSw; go_simp; try (with_reducible rfl))
                try simp only [Act.put, sA, sZ, sS]
                refine wpAnyH_done (by kernel_rfl) ?_ _
                have VZ := Lib.hid (show Hp w (hdrP (some ⟨g_0_4_9, 0, none⟩) 1 1 [((C, d1), x)] :: hdrP (some ⟨bQ, oQ, none⟩) k e sk :: hdrP A_0_4_9_10_14 (k + 1) c_0_4_9_10_14 (sk.take j ++ [((C, d1), x)] ++ sk.drop j) :: obox g1 nm A n c0 :: []) w_0_4_9_10_14 from (Hp.front (l := [_, _, _]) ((Hp.front (l := [_, _, _]) ((Hp.front (l := [_, _]) ((Hp.front (l := [_, _, _]) (V_0_4_9_10_14.out)))))))))
                have VY := Lib.hid (show Hp w (hdrP A_0_4_9_10_14 (k + 1) c_0_4_9_10_14 (srtP L (ps.take (k + 1))) :: obox g1 nm A n c0 :: []) _ by rw [HSN.out, HCUT.out, show sk.take j ++ ((C, d1), x) :: sk.drop j = sk.take j ++ [((C, d1), x)] ++ sk.drop j by rw [List.append_assoc]; rfl]; exact VZ.out.tail.tail)
                clear hHeld
                go_wp2_with fail
                go_roundw
                case rel => exact ⟨k + 1, _, _, by omega, by go_num, rfl, fun h => absurd h (Nat.succ_ne_zero _), VY.out⟩
                case measure => simp [intOf]; omega
              refine AllReadyH.cons (List.getElem?_toArray.trans rfl) (fun K hK => ?_) ?_
              · obtain ⟨w_0_9, hw_0_9⟩ : ∃ z, z = w_0.alloc (.cells #[.slice C x.length d1] 35) := ⟨_, rfl⟩
                obtain ⟨g_0_9, hg_0_9⟩ : ∃ z, z = w_0.heap.size := ⟨_, rfl⟩
                have V_0_9 := Lib.hid (show Hp w (hdrP (some ⟨g_0_9, 0, none⟩) 1 1 [((C, d1), x)] :: hdrP (some ⟨g_0, 0, none⟩) 0 0 [] :: hdrP (some ⟨bQ, oQ, none⟩) k e sk :: obox g1 nm A n c0 :: []) w_0_9 by rw [hw_0_9, hg_0_9]; exact V_0.out.lit 35 1 1 (rvP [((C, d1), x)]) rfl (by decide))
                have B_0_9 := Lib.hid (show Below w_0.heap.size w_0 w_0_9 by rw [hw_0_9]; exact bnew _ _)
                have HW_0_9 := Lib.hid hw_0_9
                have HG_0_9 := Lib.hid hg_0_9
                clear hw_0_9 hg_0_9
                go_simp
                try rw [← HW_0_9.out]
                try rw [← HG_0_9.out]
                refine hK.out _ _ (List.forall_mem_cons.2 ⟨⟨(V_0_9.out.below.cell (p := ⟨bR, oR + k, none⟩) HR0.out.1).trans HR0.out.2, Nat.lt_of_lt_of_le HR0.out.1 V_0_9.out.below.size⟩, fun _ h => by simp at h⟩) (fun hHeld => ?_)
                clear hK K
                try simp only [Act.put, sA, sZ, sS]
                refine wpAnyH_ready (rs := [4]) (by kernel_rfl) (by simp) ?_
                refine AllReadyH.cons (List.getElem?_toArray.trans rfl) (fun K hK => ?_) AllReadyH.nil
                obtain ⟨A_0_9_4, c_0_9_4, w_0_9_4, hr_0_9_4, hv_0_9_4, _⟩ := run_cat_P V_0_9.out (i := 1) rfl 27 (B := (some ⟨bQ, oQ, none⟩)) (m := j) (d := e) (sk.take j) (by rw [List.length_take]; have := HLN.out; omega) (by have q := (show CellsIn w_0_9 (some ⟨bQ, oQ, none⟩) (rvP sk) from V_0_9.out.cells (i := 2) (it := hdrP (some ⟨bQ, oQ, none⟩) k e sk) rfl (A := (some ⟨bQ, oQ, none⟩)) (c := e) rfl); rw [rvP_cut sk j] at q; exact q.left1) (by omega) (by omega)
                rw [Nat.zero_add] at hr_0_9_4 hv_0_9_4
                have R_0_9_4 := Lib.hid hr_0_9_4
                have V_0_9_4 := Lib.hid (show Hp w (hdrP (some ⟨g_0_9, 0, none⟩) 1 1 [((C, d1), x)] :: hdrP A_0_9_4 (j) c_0_9_4 (sk.take j) :: hdrP (some ⟨bQ, oQ, none⟩) k e sk :: obox g1 nm A n c0 :: []) w_0_9_4 from hv_0_9_4)
                clear hr_0_9_4 hv_0_9_4
                refine step_app_run rfl (.tmp 32) (.tmp 35) 27 rfl R_0_9_4.out rfl rfl ?_
                refine hK.out _ _ (List.forall_mem_cons.2 ⟨⟨(V_0_9_4.out.below.cell (p := ⟨bR, oR + k, none⟩) HR0.out.1).trans HR0.out.2, Nat.lt_of_lt_of_le HR0.out.1 V_0_9_4.out.below.size⟩, fun _ h => by simp at h⟩) (fun hHeld => ?_)
                clear hK K
                try simp only [Act.put, sA, sZ, sS]
                refine wpAnyH_ready (rs := [10]) (by kernel_rfl) (by simp) ?_
                refine AllReadyH.cons (List.getElem?_toArray.trans rfl) (fun K hK => ?_) AllReadyH.nil
                obtain ⟨A_0_9_4_10, c_0_9_4_10, w_0_9_4_10, hr_0_9_4_10, hv_0_9_4_10, _⟩ := run_cat_P V_0_9_4.out (i := 1) rfl 27 (B := (some ⟨g_0_9, 0, none⟩)) (m := 1) (d := 1) ([((C, d1), x)]) (rfl) (V_0_9_4.out.cells (i := 0) (it := hdrP (some ⟨g_0_9, 0, none⟩) 1 1 [((C, d1), x)]) rfl (A := (some ⟨g_0_9, 0, none⟩)) (c := 1) rfl) (by omega) (by omega)
                have R_0_9_4_10 := Lib.hid hr_0_9_4_10
                have V_0_9_4_10 := Lib.hid (show Hp w (hdrP (some ⟨g_0_9, 0, none⟩) 1 1 [((C, d1), x)] :: hdrP A_0_9_4_10 (j + 1) c_0_9_4_10 (sk.take j ++ [((C, d1), x)]) :: hdrP (some ⟨bQ, oQ, none⟩) k e sk :: obox g1 nm A n c0 :: []) w_0_9_4_10 from hv_0_9_4_10)
                clear hr_0_9_4_10 hv_0_9_4_10
                refine step_app_run rfl (.tmp 36) (.tmp 41) 27 rfl R_0_9_4_10.out rfl rfl ?_
                refine hK.out _ _ (List.forall_mem_cons.2 ⟨⟨(V_0_9_4_10.out.below.cell (p := ⟨bR, oR + k, none⟩) HR0.out.1).trans HR0.out.2, Nat.lt_of_lt_of_le HR0.out.1 V_0_9_4_10.out.below.size⟩, fun _ h => by simp at h⟩) (fun hHeld => ?_)
                clear hK K
                try simp only [Act.put, sA, sZ, sS]
                refine wpAnyH_ready (rs := [14]) (by kernel_rfl) (by simp) ?_
                refine AllReadyH.cons (List.getElem?_toArray.trans rfl) (fun K hK => ?_) AllReadyH.nil
                obtain ⟨A_0_9_4_10_14, c_0_9_4_10_14, w_0_9_4_10_14, hr_0_9_4_10_14, hv_0_9_4_10_14, _⟩ := run_cat_P V_0_9_4_10.out (i := 1) rfl 27 (B := BB) (m := (k - j)) (d := (e - j)) (sk.drop j) (by rw [List.length_drop]; have := HLN.out; omega) (HCR.out w_0_9_4_10 ((show CellsIn w_0_9_4_10 (some ⟨bQ, oQ, none⟩) (rvP sk) from V_0_9_4_10.out.cells (i := 2) (it := hdrP (some ⟨bQ, oQ, none⟩) k e sk) rfl (A := (some ⟨bQ, oQ, none⟩)) (c := e) rfl))) (by omega) (by omega)
                rw [show j + 1 + (k - j) = k + 1 by omega] at hr_0_9_4_10_14 hv_0_9_4_10_14
                have R_0_9_4_10_14 := Lib.hid hr_0_9_4_10_14
                have V_0_9_4_10_14 := Lib.hid (show Hp w (hdrP (some ⟨g_0_9, 0, none⟩) 1 1 [((C, d1), x)] :: hdrP A_0_9_4_10_14 (k + 1) c_0_9_4_10_14 (sk.take j ++ [((C, d1), x)] ++ sk.drop j) :: hdrP (some ⟨bQ, oQ, none⟩) k e sk :: obox g1 nm A n c0 :: []) w_0_9_4_10_14 from hv_0_9_4_10_14)
                clear hr_0_9_4_10_14 hv_0_9_4_10_14
                refine step_app_run rfl (.tmp 42) (.tmp 45) 27 rfl R_0_9_4_10_14.out rfl rfl ?_
                refine hK.out _ _ (List.forall_mem_cons.2 ⟨⟨(V_0_9_4_10_14.out.below.cell (p := ⟨bR, oR + k, none⟩) HR0.out.1).trans HR0.out.2, Nat.lt_of_lt_of_le HR0.out.1 V_0_9_4_10_14.out.below.size⟩, fun _ h => by simp at h⟩) (fun hHeld => ?_)
                clear hK K
                try simp only [Act.put, sA, sZ, sS]
                refine tk 15 ?_ rfl ?_ ?_; rotate_left; focus (intro w hSw; clear hSw; go_simp; try (with_reducible rfl))
                try simp only [Act.put, sA, sZ, sS]
                refine wpAnyH_done (by kernel_rfl) ?_ _
                have VZ := Lib.hid (show Hp w (hdrP (some ⟨g_0_9, 0, none⟩) 1 1 [((C, d1), x)] :: hdrP (some ⟨bQ, oQ, none⟩) k e sk :: hdrP A_0_9_4_10_14 (k + 1) c_0_9_4_10_14 (sk.take j ++ [((C, d1), x)] ++ sk.drop j) :: obox g1 nm A n c0 :: []) w_0_9_4_10_14 from (Hp.front (l := [_, _, _]) ((Hp.front (l := [_, _, _]) ((Hp.front (l := [_, _]) ((Hp.front (l := [_, _, _]) (V_0_9_4_10_14.out)))))))))
                have VY := Lib.hid (show Hp w (hdrP A_0_9_4_10_14 (k + 1) c_0_9_4_10_14 (srtP L (ps.take (k + 1))) :: obox g1 nm A n c0 :: []) _ by rw [HSN.out, HCUT.out, show sk.take j ++ ((C, d1), x) :: sk.drop j = sk.take j ++ [((C, d1), x)] ++ sk.drop j by rw [List.append_assoc]; rfl]; exact VZ.out.tail.tail)
                clear hHeld
                go_wp2_with fail
                go_roundw
                case rel => exact ⟨k + 1, _, _, by omega, by go_num, rfl, fun h => absurd h (Nat.succ_ne_zero _), VY.out⟩
                case measure => simp [intOf]; omega
              exact AllReadyH.nil
            refine AllReadyH.cons (List.getElem?_toArray.trans rfl) (fun K hK => ?_) ?_
            · obtain ⟨w_9, hw_9⟩ : ∃ z, z = wg.alloc (.cells #[.slice C x.length d1] 35) := ⟨_, rfl⟩
              obtain ⟨g_9, hg_9⟩ : ∃ z, z = wg.heap.size := ⟨_, rfl⟩
              have V_9 := Lib.hid (show Hp w (hdrP (some ⟨g_9, 0, none⟩) 1 1 [((C, d1), x)] :: hdrP (some ⟨bQ, oQ, none⟩) k e sk :: obox g1 nm A n c0 :: []) w_9 by rw [hw_9, hg_9]; exact Vwg.out.lit 35 1 1 (rvP [((C, d1), x)]) rfl (by decide))
              have B_9 := Lib.hid (show Below wg.heap.size wg w_9 by rw [hw_9]; exact bnew _ _)
              have HW_9 := Lib.hid hw_9
              have HG_9 := Lib.hid hg_9
              clear hw_9 hg_9
              go_simp
              try rw [← HW_9.out]
              try rw [← HG_9.out]
              refine hK.out _ _ (List.forall_mem_cons.2 ⟨⟨(V_9.out.below.cell (p := ⟨bR, oR + k, none⟩) HR0.out.1).trans HR0.out.2, Nat.lt_of_lt_of_le HR0.out.1 V_9.out.below.size⟩, fun _ h => by simp at h⟩) (fun hHeld => ?_)
              clear hK K
              try simp only [Act.put, sA, sZ, sS]
              refine wpAnyH_ready (rs := [0]) (by kernel_rfl) (by simp) ?_
              refine AllReadyH.cons (List.getElem?_toArray.trans rfl) (fun K hK => ?_) AllReadyH.nil
              obtain ⟨w_9_0, hw_9_0⟩ : ∃ z, z = w_9.alloc (.cells #[] 35) := ⟨_, rfl⟩
              obtain ⟨g_9_0, hg_9_0⟩ : ∃ z, z = w_9.heap.size := ⟨_, rfl⟩
              have V_9_0 := Lib.hid (show Hp w (hdrP (some ⟨g_9_0, 0, none⟩) 0 0 [] :: hdrP (some ⟨g_9, 0, none⟩) 1 1 [((C, d1), x)] :: hdrP (some ⟨bQ, oQ, none⟩) k e sk :: obox g1 nm A n c0 :: []) w_9_0 by rw [hw_9_0, hg_9_0]; exact V_9.out.lit 35 1 0 (rvP []) rfl (by decide))
              have B_9_0 := Lib.hid (show Below w_9.heap.size w_9 w_9_0 by rw [hw_9_0]; exact bnew _ _)
              have HW_9_0 := Lib.hid hw_9_0
              have HG_9_0 := Lib.hid hg_9_0
              clear hw_9_0 hg_9_0
              go_simp
              try rw [← HW_9_0.out]
              try rw [← HG_9_0.out]
              refine hK.out _ _ (List.forall_mem_cons.2 ⟨⟨(V_9_0.out.below.cell (p := ⟨bR, oR + k, none⟩) HR0.out.1).trans HR0.out.2, Nat.lt_of_lt_of_le HR0.out.1 V_9_0.out.below.size⟩, fun _ h => by simp at h⟩) (fun hHeld => ?_)
              clear hK K
              try simp only [Act.put, sA, sZ, sS]
              refine wpAnyH_ready (rs := [4]) (by kernel_rfl) (by simp) ?_
              refine AllReadyH.cons (List.getElem?_toArray.trans rfl) (fun K hK => ?_) AllReadyH.nil
              obtain ⟨A_9_0_4, c_9_0_4, w_9_0_4, hr_9_0_4, hv_9_0_4, _⟩ := run_cat_P V_9_0.out (i := 0) rfl 27 (B := (some ⟨bQ, oQ, none⟩)) (m := j) (d := e) (sk.take j) (by rw [List.length_take]; have := HLN.out; omega) (by have q := (show CellsIn w_9_0 (some ⟨bQ, oQ, none⟩) (rvP sk) from V_9_0.out.cells (i := 2) (it := hdrP (some ⟨bQ, oQ, none⟩) k e sk) rfl (A := (some ⟨bQ, oQ, none⟩)) (c := e) rfl); rw [rvP_cut sk j] at q; exact q.left1) (by omega) (by omega)
              rw [Nat.zero_add] at hr_9_0_4 hv_9_0_4
              have R_9_0_4 := Lib.hid hr_9_0_4
              have V_9_0_4 := Lib.hid (show Hp w (hdrP A_9_0_4 (j) c_9_0_4 (sk.take j) :: hdrP (some ⟨g_9, 0, none⟩) 1 1 [((C, d1), x)] :: hdrP (some ⟨bQ, oQ, none⟩) k e sk :: obox g1 nm A n c0 :: []) w_9_0_4 from hv_9_0_4)
              clear hr_9_0_4 hv_9_0_4
              refine step_app_run rfl (.tmp 32) (.tmp 35) 27 rfl R_9_0_4.out rfl rfl ?_
              refine hK.out _ _ (List.forall_mem_cons.2 ⟨⟨(V_9_0_4.out.below.cell (p := ⟨bR, oR + k, none⟩) HR0.out.1).trans HR0.out.2, Nat.lt_of_lt_of_le HR0.out.1 V_9_0_4.out.below.size⟩, fun _ h => by simp at h⟩) (fun hHeld => ?_)
              clear hK K
              try simp only [Act.put, sA, sZ, sS]
              refine wpAnyH_ready (rs := [10]) (by kernel_rfl) (by simp) ?_
              refine AllReadyH.cons (List.getElem?_toArray.trans rfl) (fun K hK => ?_) AllReadyH.nil
              obtain ⟨A_9_0_4_10, c_9_0_4_10, w_9_0_4_10, hr_9_0_4_10, hv_9_0_4_10, _⟩ := run_cat_P V_9_0_4.out (i := 0) rfl 27 (B := (some ⟨g_9, 0, none⟩)) (m := 1) (d := 1) ([((C, d1), x)]) (rfl) (V_9_0_4.out.cells (i := 1) (it := hdrP (some ⟨g_9, 0, none⟩) 1 1 [((C, d1), x)]) rfl (A := (some ⟨g_9, 0, none⟩)) (c := 1) rfl) (by omega) (by omega)
              have R_9_0_4_10 := Lib.hid hr_9_0_4_10
              have V_9_0_4_10 := Lib.hid (show Hp w (hdrP A_9_0_4_10 (j + 1) c_9_0_4_10 (sk.take j ++ [((C, d1), x)]) :: hdrP (some ⟨g_9, 0, none⟩) 1 1 [((C, d1), x)] :: hdrP (some ⟨bQ, oQ, none⟩) k e sk :: obox g1 nm A n c0 :: []) w_9_0_4_10 from hv_9_0_4_10)
              clear hr_9_0_4_10 hv_9_0_4_10
              refine step_app_run rfl (.tmp 36) (.tmp 41) 27 rfl R_9_0_4_10.out rfl rfl ?_
              refine hK.out _ _ (List.forall_mem_cons.2 ⟨⟨(V_9_0_4_10.out.below.cell (p := ⟨bR, oR + k, none⟩) HR0.out.1).trans HR0.out.2, Nat.lt_of_lt_of_le HR0.out.1 V_9_0_4_10.out.below.size⟩, fun _ h => by simp at h⟩) (fun hHeld => ?_)
              clear hK K
              try simp only [Act.put, sA, sZ, sS]
              refine wpAnyH_ready (rs := [14]) (by kernel_rfl) (by simp) ?_
              refine AllReadyH.cons (List.getElem?_toArray.trans rfl) (fun K hK => ?_) AllReadyH.nil
              obtain ⟨A_9_0_4_10_14, c_9_0_4_10_14, w_9_0_4_10_14, hr_9_0_4_10_14, hv_9_0_4_10_14, _⟩ := run_cat_P V_9_0_4_10.out (i := 0) rfl 27 (B := BB) (m := (k - j)) (d := (e - j)) (sk.drop j) (by rw [List.length_drop]; have := HLN.out; omega) (HCR.out w_9_0_4_10 ((show CellsIn w_9_0_4_10 (some ⟨bQ, oQ, none⟩) (rvP sk) from V_9_0_4_10.out.cells (i := 2) (it := hdrP (some ⟨bQ, oQ, none⟩) k e sk) rfl (A := (some ⟨bQ, oQ, none⟩)) (c := e) rfl))) (by omega) (by omega)
              rw [show j + 1 + (k - j) = k + 1 by omega] at hr_9_0_4_10_14 hv_9_0_4_10_14
              have R_9_0_4_10_14 := Lib.hid hr_9_0_4_10_14
              have V_9_0_4_10_14 := Lib.hid (show Hp w (hdrP A_9_0_4_10_14 (k + 1) c_9_0_4_10_14 (sk.take j ++ [((C, d1), x)] ++ sk.drop j) :: hdrP (some ⟨g_9, 0, none⟩) 1 1 [((C, d1), x)] :: hdrP (some ⟨bQ, oQ, none⟩) k e sk :: obox g1 nm A n c0 :: []) w_9_0_4_10_14 from hv_9_0_4_10_14)
              clear hr_9_0_4_10_14 hv_9_0_4_10_14
              refine step_app_run rfl (.tmp 42) (.tmp 45) 27 rfl R_9_0_4_10_14.out rfl rfl ?_
              refine hK.out _ _ (List.forall_mem_cons.2 ⟨⟨(V_9_0_4_10_14.out.below.cell (p := ⟨bR, oR + k, none⟩) HR0.out.1).trans HR0.out.2, Nat.lt_of_lt_of_le HR0.out.1 V_9_0_4_10_14.out.below.size⟩, fun _ h => by simp at h⟩) (fun hHeld => ?_)
              clear hK K
              try simp only [Act.put, sA, sZ, sS]
              refine tk 15 ?_ rfl ?_ ?_; rotate_left; focus (intro w hSw; clear hSw; go_simp; try (with_reducible rfl))
              try simp only [Act.put, sA, sZ, sS]
              refine wpAnyH_done (by kernel_rfl) ?_ _
              have VZ := Lib.hid (show Hp w (hdrP (some ⟨g_9, 0, none⟩) 1 1 [((C, d1), x)] :: hdrP (some ⟨bQ, oQ, none⟩) k e sk :: hdrP A_9_0_4_10_14 (k + 1) c_9_0_4_10_14 (sk.take j ++ [((C, d1), x)] ++ sk.drop j) :: obox g1 nm A n c0 :: []) w_9_0_4_10_14 from (Hp.front (l := [_, _, _]) ((Hp.front (l := [_, _, _]) ((Hp.front (l := [_]) ((Hp.front (l := [_, _, _]) (V_9_0_4_10_14.out)))))))))
              have VY := Lib.hid (show Hp w (hdrP A_9_0_4_10_14 (k + 1) c_9_0_4_10_14 (srtP L (ps.take (k + 1))) :: obox g1 nm A n c0 :: []) _ by rw [HSN.out, HCUT.out, show sk.take j ++ ((C, d1), x) :: sk.drop j = sk.take j ++ [((C, d1), x)] ++ sk.drop j by rw [List.append_assoc]; rfl]; exact VZ.out.tail.tail)
              clear hHeld
              go_wp2_with fail
              go_roundw
              case rel => exact ⟨k + 1, _, _, by omega, by go_num, rfl, fun h => absurd h (Nat.succ_ne_zero _), VY.out⟩
              case measure => simp [intOf]; omega
            exact AllReadyH.nil
        · obtain rfl : j = k := by omega
          have HCUT := Lib.hid (show insP L ((C, d1), x) sk = sk.take j ++ ((C, d1), x) :: sk.drop j from insP_cut (by have := HLN.out; omega) HBF.out (fun y' hy' => by
            rw [List.getElem?_eq_none (by have := HLN.out; omega)] at hy'; cases hy'))
          have e1 : decide ((j : Int) < (j : Int)) = false := decide_eq_false (by omega)
          clear hjk
          by_cases hj0 : j = 0
          · subst hj0
            have hsk0 : sk = [] := List.eq_nil_of_length_eq_zero HLN.out
            subst hsk0
            obtain ⟨rfl, rfl⟩ := HNO.out rfl
            have HR1 := Lib.hid (show bR < w.heap.size ∧ w.cell? ⟨bR, oR, none⟩ = some (.slice C x.length d1) from HR0.out)
            go_upto_region 6 with fail
            have hKp : Keep [] wj := fun _ h => by simp at h
            refine wp_region_held_drew (S := Keep _) (by kernel_rfl) hKp.drew (fun hHeld => ?_)
            obtain ⟨wf, hwf⟩ : ∃ z, z = wj.drew := ⟨_, rfl⟩
            have Vwf := Lib.hid (show Hp w (hdrP none 0 0 [] :: obox g1 nm A n c0 :: []) wf by rw [hwf]; exact V4.out.go (bdrew _))
            have Bwf := Lib.hid (show Below wj.heap.size wj wf by rw [hwf]; exact bdrew _)
            rw [← hwf] at hHeld ⊢
            clear hwf hKp
            refine tk 0 ?_ rfl ?_ ?_; rotate_left; focus (intro w hSw; clear hSw; go_simp; try (with_reducible rfl))
            try simp only [Act.put, sA, sZ, sS]
            refine tk 1 ?_ rfl ?_ ?_; rotate_left; focus (intro w hSw; clear hSw; go_simp; try (with_reducible rfl))
            try simp only [Act.put, sA, sZ, sS]
            refine tk 2 ?_ rfl ?_ ?_; rotate_left; focus (intro w hSw; clear hSw; go_simp; try (with_reducible rfl))
            try simp only [Act.put, sA, sZ, sS]
            refine tk 3 ?_ rfl ?_ ?_; rotate_left; focus (intro w hSw; clear hSw; go_simp; try (with_reducible rfl))
            try simp only [Act.put, sA, sZ, sS]
            refine tk 4 ?_ rfl ?_ ?_; rotate_left; focus (intro w hSw; clear hSw; go_simp; try (with_reducible rfl))
            try simp only [Act.put, sA, sZ, sS]
            refine tu 5 rfl ?_
            try simp only [Act.put, sA, sZ, sS]
            refine tu 6 rfl ?_
            try simp only [Act.put, sA, sZ, sS]
            refine tu 7 rfl ?_
            try simp only [Act.put, sA, sZ, sS]
            refine tu 8 rfl ?_
            try simp only [Act.put, sA, sZ, sS]
            refine tu 9 rfl ?_
            try simp only [Act.put, sA, sZ, sS]
            refine tu 10 rfl ?_
            try simp only [Act.put, sA, sZ, sS]
            refine tu 11 rfl ?_
            try simp only [Act.put, sA, sZ, sS]
            refine tu 12 rfl ?_
            try simp only [Act.put, sA, sZ, sS]
            refine tu 13 rfl ?_
            try simp only [Act.put, sA, sZ, sS]
            refine tu 14 rfl ?_
            try simp only [Act.put, sA, sZ, sS]
            refine tk 15 ?_ rfl ?_ ?_; rotate_left; focus (intro w hSw; clear hSw; go_simp; try (with_reducible rfl))
            try simp only [Act.put, sA, sZ, sS]
            refine wpAnyH_done (by kernel_rfl) ?_ _
            clear hHeld
            go_upto_region 8 with fail
            have hKp : Keep [(⟨bR, oR, none⟩, .slice C x.length d1)] wf := List.forall_mem_cons.2 ⟨⟨(Vwf.out.below.cell (p := ⟨bR, oR, none⟩) HR1.out.1).trans HR1.out.2, Nat.lt_of_lt_of_le HR1.out.1 Vwf.out.below.size⟩, fun _ h => by simp at h⟩
            refine wp_region_held_drew (S := Keep _) (by kernel_rfl) hKp.drew (fun hHeld => ?_)
            obtain ⟨wh, hwh⟩ : ∃ z, z = wf.drew := ⟨_, rfl⟩
            have Vwh := Lib.hid (show Hp w (hdrP none 0 0 [] :: obox g1 nm A n c0 :: []) wh by rw [hwh]; exact Vwf.out.go (bdrew _))
            have Bwh := Lib.hid (show Below wf.heap.size wf wh by rw [hwh]; exact bdrew _)
            rw [← hwh] at hHeld ⊢
            clear hwh hKp
            refine tk 1 ?_ rfl ?_ ?_; rotate_left; focus (intro w hSw; clear hSw; go_simp; try (with_reducible rfl))
            try simp only [Act.put, sA, sZ, sS]
            refine tk 2 ?_ rfl ?_ ?_; rotate_left; focus (intro w hSw; clear hSw; go_simp; try (with_reducible rfl))
            try simp only [Act.put, sA, sZ, sS]
            refine tk 3 ?_ rfl ?_ ?_; rotate_left; focus (intro w hSw; clear hSw; go_simp; try (with_reducible rfl))
            try simp only [Act.put, sA, sZ, sS]
            refine tk 5 ?_ rfl ?_ ?_; rotate_left; focus (intro w hSw; clear hSw; go_simp; try (with_reducible rfl))
            try simp only [Act.put, sA, sZ, sS]
            refine tk 6 ?_ rfl ?_ ?_; rotate_left; focus (intro w hSw; clear hSw; go_simp; try (with_reducible rfl))
            try simp only [Act.put, sA, sZ, sS]
            refine tk 7 ?_ rfl ?_ ?_; rotate_left; focus (intro w hSw; clear hSw; go_simp; try (with_reducible rfl))
            try simp only [Act.put, sA, sZ, sS]
            refine tk 8 ?_ rfl ?_ ?_; rotate_left
            · intro wl hSw
              have hSw : Keep _ wl := hSw
              have k0 := (hSw _ (.head _)).1
              dsimp only at k0
              clear hSw
              go_simp
              try (with_reducible rfl)
            try simp only [Act.put, sA, sZ, sS]
            refine tk 11 ?_ rfl ?_ ?_; rotate_left; focus (intro w hSw; clear hSw; go_simp; try (with_reducible rfl))
            try simp only [Act.put, sA, sZ, sS]
            refine tk 12 ?_ rfl ?_ ?_; rotate_left; focus (intro w hSw; clear hSw; go_simp; try (with_reducible rfl))
            try simp only [Act.put, sA, sZ, sS]
            refine tk 13 ?_ rfl ?_ ?_; rotate_left; focus (intro w hSw; clear hSw; go_simp; try (with_reducible rfl))
            try simp only [Act.put, sA, sZ, sS]
            refine wpAnyH_ready (rs := [0, 9]) (by kernel_rfl) (by simp) ?_
            refine AllReadyH.cons (List.getElem?_toArray.trans rfl) (fun K hK => ?_) ?_
            · obtain ⟨w_0, hw_0⟩ : ∃ z, z = wh.alloc (.cells #[] 35) := ⟨_, rfl⟩
              obtain ⟨g_0, hg_0⟩ : ∃ z, z = wh.heap.size := ⟨_, rfl⟩
              have V_0 := Lib.hid (show Hp w (hdrP (some ⟨g_0, 0, none⟩) 0 0 [] :: hdrP none 0 0 [] :: obox g1 nm A n c0 :: []) w_0 by rw [hw_0, hg_0]; exact Vwh.out.lit 35 1 0 (rvP []) rfl (by decide))
              have B_0 := Lib.hid (show Below wh.heap.size wh w_0 by rw [hw_0]; exact bnew _ _)
              have HW_0 := Lib.hid hw_0
              have HG_0 := Lib.hid hg_0
              clear hw_0 hg_0
              go_simp
              try rw [← HW_0.out]
              try rw [← HG_0.out]
              refine hK.out _ _ (List.forall_mem_cons.2 ⟨⟨(V_0.out.below.cell (p := ⟨bR, oR, none⟩) HR1.out.1).trans HR1.out.2, Nat.lt_of_lt_of_le HR1.out.1 V_0.out.below.size⟩, fun _ h => by simp at h⟩) (fun hHeld => ?_)
              clear hK K
              try simp only [Act.put, sA, sZ, sS]
              refine wpAnyH_ready (rs := [4, 9]) (by kernel_rfl) (by simp) ?_
              refine AllReadyH.cons (List.getElem?_toArray.trans rfl) (fun K hK => ?_) ?_
              · obtain ⟨A_0_4, c_0_4, w_0_4, hr_0_4, hv_0_4, _⟩ := run_cat_P V_0.out (i := 0) rfl 27 (B := none) (m := 0) (d := 0) ([]) (rfl) (show CellsIn _ none [] from CellsIn.nil _ _) (by omega) (by omega)
                rw [Nat.zero_add] at hr_0_4 hv_0_4
                have R_0_4 := Lib.hid hr_0_4
                have V_0_4 := Lib.hid (show Hp w (hdrP A_0_4 (0) c_0_4 ([]) :: hdrP none 0 0 [] :: obox g1 nm A n c0 :: []) w_0_4 from hv_0_4)
                clear hr_0_4 hv_0_4
                refine step_app_run rfl (.tmp 32) (.tmp 35) 27 rfl R_0_4.out rfl rfl ?_
                refine hK.out _ _ (List.forall_mem_cons.2 ⟨⟨(V_0_4.out.below.cell (p := ⟨bR, oR, none⟩) HR1.out.1).trans HR1.out.2, Nat.lt_of_lt_of_le HR1.out.1 V_0_4.out.below.size⟩, fun _ h => by simp at h⟩) (fun hHeld => ?_)
                clear hK K
                try simp only [Act.put, sA, sZ, sS]
                refine wpAnyH_ready (rs := [9]) (by kernel_rfl) (by simp) ?_
                refine AllReadyH.cons (List.getElem?_toArray.trans rfl) (fun K hK => ?_) AllReadyH.nil
                obtain ⟨w_0_4_9, hw_0_4_9⟩ : ∃ z, z = w_0_4.alloc (.cells #[.slice C x.length d1] 35) := ⟨_, rfl⟩
                obtain ⟨g_0_4_9, hg_0_4_9⟩ : ∃ z, z = w_0_4.heap.size := ⟨_, rfl⟩
                have V_0_4_9 := Lib.hid (show Hp w (hdrP (some ⟨g_0_4_9, 0, none⟩) 1 1 [((C, d1), x)] :: hdrP A_0_4 (0) c_0_4 ([]) :: hdrP none 0 0 [] :: obox g1 nm A n c0 :: []) w_0_4_9 by rw [hw_0_4_9, hg_0_4_9]; exact V_0_4.out.lit 35 1 1 (rvP [((C, d1), x)]) rfl (by decide))
                have B_0_4_9 := Lib.hid (show Below w_0_4.heap.size w_0_4 w_0_4_9 by rw [hw_0_4_9]; exact bnew _ _)
                have HW_0_4_9 := Lib.hid hw_0_4_9
                have HG_0_4_9 := Lib.hid hg_0_4_9
                clear hw_0_4_9 hg_0_4_9
                go_simp
                try rw [← HW_0_4_9.out]
                try rw [← HG_0_4_9.out]
                refine hK.out _ _ (List.forall_mem_cons.2 ⟨⟨(V_0_4_9.out.below.cell (p := ⟨bR, oR, none⟩) HR1.out.1).trans HR1.out.2, Nat.lt_of_lt_of_le HR1.out.1 V_0_4_9.out.below.size⟩, fun _ h => by simp at h⟩) (fun hHeld => ?_)
                clear hK K
                try simp only [Act.put, sA, sZ, sS]
                refine wpAnyH_ready (rs := [10]) (by kernel_rfl) (by simp) ?_
                refine AllReadyH.cons (List.getElem?_toArray.trans rfl) (fun K hK => ?_) AllReadyH.nil
                obtain ⟨A_0_4_9_10, c_0_4_9_10, w_0_4_9_10, hr_0_4_9_10, hv_0_4_9_10, _⟩ := run_cat_P V_0_4_9.out (i := 1) rfl 27 (B := (some ⟨g_0_4_9, 0, none⟩)) (m := 1) (d := 1) ([((C, d1), x)]) (rfl) (V_0_4_9.out.cells (i := 0) (it := hdrP (some ⟨g_0_4_9, 0, none⟩) 1 1 [((C, d1), x)]) rfl (A := (some ⟨g_0_4_9, 0, none⟩)) (c := 1) rfl) (by omega) (by omega)
                rw [Nat.zero_add] at hr_0_4_9_10 hv_0_4_9_10
                have R_0_4_9_10 := Lib.hid hr_0_4_9_10
                have V_0_4_9_10 := Lib.hid (show Hp w (hdrP (some ⟨g_0_4_9, 0, none⟩) 1 1 [((C, d1), x)] :: hdrP A_0_4_9_10 (1) c_0_4_9_10 ([((C, d1), x)]) :: hdrP none 0 0 [] :: obox g1 nm A n c0 :: []) w_0_4_9_10 from hv_0_4_9_10)
                clear hr_0_4_9_10 hv_0_4_9_10
                refine step_app_run rfl (.tmp 36) (.tmp 41) 27 rfl R_0_4_9_10.out rfl rfl ?_
                refine hK.out _ _ (List.forall_mem_cons.2 ⟨⟨(V_0_4_9_10.out.below.cell (p := ⟨bR, oR, none⟩) HR1.out.1).trans HR1.out.2, Nat.lt_of_lt_of_le HR1.out.1 V_0_4_9_10.out.below.size⟩, fun _ h => by simp at h⟩) (fun hHeld => ?_)
                clear hK K
                try simp only [Act.put, sA, sZ, sS]
                refine wpAnyH_ready (rs := [14]) (by kernel_rfl) (by simp) ?_
                refine AllReadyH.cons (List.getElem?_toArray.trans rfl) (fun K hK => ?_) AllReadyH.nil
                obtain ⟨A_0_4_9_10_14, c_0_4_9_10_14, w_0_4_9_10_14, hr_0_4_9_10_14, hv_0_4_9_10_14, _⟩ := run_cat_P V_0_4_9_10.out (i := 1) rfl 27 (B := none) (m := 0) (d := 0) ([]) (rfl) (show CellsIn _ none [] from CellsIn.nil _ _) (by omega) (by omega)
                rw [Nat.add_zero] at hr_0_4_9_10_14 hv_0_4_9_10_14
                have R_0_4_9_10_14 := Lib.hid hr_0_4_9_10_14
                have V_0_4_9_10_14 := Lib.hid (show Hp w (hdrP (some ⟨g_0_4_9, 0, none⟩) 1 1 [((C, d1), x)] :: hdrP A_0_4_9_10_14 (1) c_0_4_9_10_14 ([((C, d1), x)]) :: hdrP none 0 0 [] :: obox g1 nm A n c0 :: []) w_0_4_9_10_14 from hv_0_4_9_10_14)
                clear hr_0_4_9_10_14 hv_0_4_9_10_14
                refine step_app_run rfl (.tmp 42) (.tmp 45) 27 rfl R_0_4_9_10_14.out rfl rfl ?_
                refine hK.out _ _ (List.forall_mem_cons.2 ⟨⟨(V_0_4_9_10_14.out.below.cell (p := ⟨bR, oR, none⟩) HR1.out.1).trans HR1.out.2, Nat.lt_of_lt_of_le HR1.out.1 V_0_4_9_10_14.out.below.size⟩, fun _ h => by simp at h⟩) (fun hHeld => ?_)
                clear hK K
                try simp only [Act.put, sA, sZ, sS]
                refine tk 15 ?_ rfl ?_ ?_; rotate_left; focus (intro w hSw; clear hSw; go_simp; try (with_reducible rfl))
                try simp only [Act.put, sA, sZ, sS]
                refine wpAnyH_done (by kernel_rfl) ?_ _
                have VZ := Lib.hid (show Hp w (hdrP (some ⟨g_0_4_9, 0, none⟩) 1 1 [((C, d1), x)] :: hdrP none 0 0 [] :: hdrP A_0_4_9_10_14 (1) c_0_4_9_10_14 ([((C, d1), x)]) :: obox g1 nm A n c0 :: []) w_0_4_9_10_14 from (Hp.front (l := [_, _, _]) ((Hp.front (l := [_, _, _]) ((Hp.front (l := [_, _]) ((Hp.front (l := [_, _, _]) (V_0_4_9_10_14.out)))))))))
                have VY := Lib.hid (show Hp w (hdrP A_0_4_9_10_14 (1) c_0_4_9_10_14 (srtP L (ps.take (0 + 1))) :: obox g1 nm A n c0 :: []) _ by rw [HSN.out]; exact VZ.out.tail.tail)
                clear hHeld
                go_wp2_with fail
                go_roundw
                case rel => exact ⟨0 + 1, _, _, by omega, by go_num, rfl, fun h => absurd h (Nat.succ_ne_zero _), VY.out⟩
                case measure => simp [intOf]; omega
              refine AllReadyH.cons (List.getElem?_toArray.trans rfl) (fun K hK => ?_) ?_
              · obtain ⟨w_0_9, hw_0_9⟩ : ∃ z, z = w_0.alloc (.cells #[.slice C x.length d1] 35) := ⟨_, rfl⟩
                obtain ⟨g_0_9, hg_0_9⟩ : ∃ z, z = w_0.heap.size := ⟨_, rfl⟩
                have V_0_9 := Lib.hid (show Hp w (hdrP (some ⟨g_0_9, 0, none⟩) 1 1 [((C, d1), x)] :: hdrP (some ⟨g_0, 0, none⟩) 0 0 [] :: hdrP none 0 0 [] :: obox g1 nm A n c0 :: []) w_0_9 by rw [hw_0_9, hg_0_9]; exact V_0.out.lit 35 1 1 (rvP [((C, d1), x)]) rfl (by decide))
                have B_0_9 := Lib.hid (show Below w_0.heap.size w_0 w_0_9 by rw [hw_0_9]; exact bnew _ _)
                have HW_0_9 := Lib.hid hw_0_9
                have HG_0_9 := Lib.hid hg_0_9
                clear hw_0_9 hg_0_9
                go_simp
                try rw [← HW_0_9.out]
                try rw [← HG_0_9.out]
                refine hK.out _ _ (List.forall_mem_cons.2 ⟨⟨(V_0_9.out.below.cell (p := ⟨bR, oR, none⟩) HR1.out.1).trans HR1.out.2, Nat.lt_of_lt_of_le HR1.out.1 V_0_9.out.below.size⟩, fun _ h => by simp at h⟩) (fun hHeld => ?_)
                clear hK K
                try simp only [Act.put, sA, sZ, sS]
                refine wpAnyH_ready (rs := [4]) (by kernel_rfl) (by simp) ?_
                refine AllReadyH.cons (List.getElem?_toArray.trans rfl) (fun K hK => ?_) AllReadyH.nil
                obtain ⟨A_0_9_4, c_0_9_4, w_0_9_4, hr_0_9_4, hv_0_9_4, _⟩ := run_cat_P V_0_9.out (i := 1) rfl 27 (B := none) (m := 0) (d := 0) ([]) (rfl) (show CellsIn _ none [] from CellsIn.nil _ _) (by omega) (by omega)
                rw [Nat.zero_add] at hr_0_9_4 hv_0_9_4
                have R_0_9_4 := Lib.hid hr_0_9_4
                have V_0_9_4 := Lib.hid (show Hp w (hdrP (some ⟨g_0_9, 0, none⟩) 1 1 [((C, d1), x)] :: hdrP A_0_9_4 (0) c_0_9_4 ([]) :: hdrP none 0 0 [] :: obox g1 nm A n c0 :: []) w_0_9_4 from hv_0_9_4)
                clear hr_0_9_4 hv_0_9_4
                refine step_app_run rfl (.tmp 32) (.tmp 35) 27 rfl R_0_9_4.out rfl rfl ?_
                refine hK.out _ _ (List.forall_mem_cons.2 ⟨⟨(V_0_9_4.out.below.cell (p := ⟨bR, oR, none⟩) HR1.out.1).trans HR1.out.2, Nat.lt_of_lt_of_le HR1.out.1 V_0_9_4.out.below.size⟩, fun _ h => by simp at h⟩) (fun hHeld => ?_)
                clear hK K
                try simp only [Act.put, sA, sZ, sS]
                refine wpAnyH_ready (rs := [10]) (by kernel_rfl) (by simp) ?_
                refine AllReadyH.cons (List.getElem?_toArray.trans rfl) (fun K hK => ?_) AllReadyH.nil
                obtain ⟨A_0_9_4_10, c_0_9_4_10, w_0_9_4_10, hr_0_9_4_10, hv_0_9_4_10, _⟩ := run_cat_P V_0_9_4.out (i := 1) rfl 27 (B := (some ⟨g_0_9, 0, none⟩)) (m := 1) (d := 1) ([((C, d1), x)]) (rfl) (V_0_9_4.out.cells (i := 0) (it := hdrP (some ⟨g_0_9, 0, none⟩) 1 1 [((C, d1), x)]) rfl (A := (some ⟨g_0_9, 0, none⟩)) (c := 1) rfl) (by omega) (by omega)
                rw [Nat.zero_add] at hr_0_9_4_10 hv_0_9_4_10
                have R_0_9_4_10 := Lib.hid hr_0_9_4_10
                have V_0_9_4_10 := Lib.hid (show Hp w (hdrP (some ⟨g_0_9, 0, none⟩) 1 1 [((C, d1), x)] :: hdrP A_0_9_4_10 (1) c_0_9_4_10 ([((C, d1), x)]) :: hdrP none 0 0 [] :: obox g1 nm A n c0 :: []) w_0_9_4_10 from hv_0_9_4_10)
                clear hr_0_9_4_10 hv_0_9_4_10
                refine step_app_run rfl (.tmp 36) (.tmp 41) 27 rfl R_0_9_4_10.out rfl rfl ?_
                refine hK.out _ _ (List.forall_mem_cons.2 ⟨⟨(V_0_9_4_10.out.below.cell (p := ⟨bR, oR, none⟩) HR1.out.1).trans HR1.out.2, Nat.lt_of_lt_of_le HR1.out.1 V_0_9_4_10.out.below.size⟩, fun _ h => by simp at h⟩) (fun hHeld => ?_)
                clear hK K
                try simp only [Act.put, sA, sZ, sS]
                refine wpAnyH_ready (rs := [14]) (by kernel_rfl) (by simp) ?_
                refine AllReadyH.cons (List.getElem?_toArray.trans rfl) (fun K hK => ?_) AllReadyH.nil
                obtain ⟨A_0_9_4_10_14, c_0_9_4_10_14, w_0_9_4_10_14, hr_0_9_4_10_14, hv_0_9_4_10_14, _⟩ := run_cat_P V_0_9_4_10.out (i := 1) rfl 27 (B := none) (m := 0) (d := 0) ([]) (rfl) (show CellsIn _ none [] from CellsIn.nil _ _) (by omega) (by omega)
                rw [Nat.add_zero] at hr_0_9_4_10_14 hv_0_9_4_10_14
                have R_0_9_4_10_14 := Lib.hid hr_0_9_4_10_14
                have V_0_9_4_10_14 := Lib.hid (show Hp w (hdrP (some ⟨g_0_9, 0, none⟩) 1 1 [((C, d1), x)] :: hdrP A_0_9_4_10_14 (1) c_0_9_4_10_14 ([((C, d1), x)]) :: hdrP none 0 0 [] :: obox g1 nm A n c0 :: []) w_0_9_4_10_14 from hv_0_9_4_10_14)
                clear hr_0_9_4_10_14 hv_0_9_4_10_14
                refine step_app_run rfl (.tmp 42) (.tmp 45) 27 rfl R_0_9_4_10_14.out rfl rfl ?_
                refine hK.out _ _ (List.forall_mem_cons.2 ⟨⟨(V_0_9_4_10_14.out.below.cell (p := ⟨bR, oR, none⟩) HR1.out.1).trans HR1.out.2, Nat.lt_of_lt_of_le HR1.out.1 V_0_9_4_10_14.out.below.size⟩, fun _ h => by simp at h⟩) (fun hHeld => ?_)
                clear hK K
                try simp only [Act.put, sA, sZ, sS]
                refine tk 15 ?_ rfl ?_ ?_; rotate_left; focus (intro w hSw; clear hSw; go_simp; try (with_reducible rfl))
                try simp only [Act.put, sA, sZ, sS]
                refine wpAnyH_done (by kernel_rfl) ?_ _
                have VZ := Lib.hid (show Hp w (hdrP (some ⟨g_0_9, 0, none⟩) 1 1 [((C, d1), x)] :: hdrP none 0 0 [] :: hdrP A_0_9_4_10_14 (1) c_0_9_4_10_14 ([((C, d1), x)]) :: obox g1 nm A n c0 :: []) w_0_9_4_10_14 from (Hp.front (l := [_, _, _]) ((Hp.front (l := [_, _, _]) ((Hp.front (l := [_, _]) ((Hp.front (l := [_, _, _]) (V_0_9_4_10_14.out)))))))))
                have VY := Lib.hid (show Hp w (hdrP A_0_9_4_10_14 (1) c_0_9_4_10_14 (srtP L (ps.take (0 + 1))) :: obox g1 nm A n c0 :: []) _ by rw [HSN.out]; exact VZ.out.tail.tail)
                clear hHeld
                go_wp2_with fail
                go_roundw
                case rel => exact ⟨0 + 1, _, _, by omega, by go_num, rfl, fun h => absurd h (Nat.succ_ne_zero _), VY.out⟩
                case measure => simp [intOf]; omega
              exact AllReadyH.nil
            refine AllReadyH.cons (List.getElem?_toArray.trans rfl) (fun K hK => ?_) ?_
            · obtain ⟨w_9, hw_9⟩ : ∃ z, z = wh.alloc (.cells #[.slice C x.length d1] 35) := ⟨_, rfl⟩
              obtain ⟨g_9, hg_9⟩ : ∃ z, z = wh.heap.size := ⟨_, rfl⟩
              have V_9 := Lib.hid (show Hp w (hdrP (some ⟨g_9, 0, none⟩) 1 1 [((C, d1), x)] :: hdrP none 0 0 [] :: obox g1 nm A n c0 :: []) w_9 by rw [hw_9, hg_9]; exact Vwh.out.lit 35 1 1 (rvP [((C, d1), x)]) rfl (by decide))
              have B_9 := Lib.hid (show Below wh.heap.size wh w_9 by rw [hw_9]; exact bnew _ _)
              have HW_9 := Lib.hid hw_9
              have HG_9 := Lib.hid hg_9
              clear hw_9 hg_9
              go_simp
              try rw [← HW_9.out]
              try rw [← HG_9.out]
              refine hK.out _ _ (List.forall_mem_cons.2 ⟨⟨(V_9.out.below.cell (p := ⟨bR, oR, none⟩) HR1.out.1).trans HR1.out.2, Nat.lt_of_lt_of_le HR1.out.1 V_9.out.below.size⟩, fun _ h => by simp at h⟩) (fun hHeld => ?_)
              clear hK K
              try simp only [Act.put, sA, sZ, sS]
              refine wpAnyH_ready (rs := [0]) (by kernel_rfl) (by simp) ?_
              refine AllReadyH.cons (List.getElem?_toArray.trans rfl) (fun K hK => ?_) AllReadyH.nil
              obtain ⟨w_9_0, hw_9_0⟩ : ∃ z, z = w_9.alloc (.cells #[] 35) := ⟨_, rfl⟩
              obtain ⟨g_9_0, hg_9_0⟩ : ∃ z, z = w_9.heap.size := ⟨_, rfl⟩
              have V_9_0 := Lib.hid (show Hp w (hdrP (some ⟨g_9_0, 0, none⟩) 0 0 [] :: hdrP (some ⟨g_9, 0, none⟩) 1 1 [((C, d1), x)] :: hdrP none 0 0 [] :: obox g1 nm A n c0 :: []) w_9_0 by rw [hw_9_0, hg_9_0]; exact V_9.out.lit 35 1 0 (rvP []) rfl (by decide))
              have B_9_0 := Lib.hid (show Below w_9.heap.size w_9 w_9_0 by rw [hw_9_0]; exact bnew _ _)
              have HW_9_0 := Lib.hid hw_9_0
              have HG_9_0 := Lib.hid hg_9_0
              clear hw_9_0 hg_9_0
              go_simp
              try rw [← HW_9_0.out]
              try rw [← HG_9_0.out]
              refine hK.out _ _ (List.forall_mem_cons.2 ⟨⟨(V_9_0.out.below.cell (p := ⟨bR, oR, none⟩) HR1.out.1).trans HR1.out.2, Nat.lt_of_lt_of_le HR1.out.1 V_9_0.out.below.size⟩, fun _ h => by simp at h⟩) (fun hHeld => ?_)
              clear hK K
              try simp only [Act.put, sA, sZ, sS]
              refine wpAnyH_ready (rs := [4]) (by kernel_rfl) (by simp) ?_
              refine AllReadyH.cons (List.getElem?_toArray.trans rfl) (fun K hK => ?_) AllReadyH.nil
              obtain ⟨A_9_0_4, c_9_0_4, w_9_0_4, hr_9_0_4, hv_9_0_4, _⟩ := run_cat_P V_9_0.out (i := 0) rfl 27 (B := none) (m := 0) (d := 0) ([]) (rfl) (show CellsIn _ none [] from CellsIn.nil _ _) (by omega) (by omega)
              rw [Nat.zero_add] at hr_9_0_4 hv_9_0_4
              have R_9_0_4 := Lib.hid hr_9_0_4
              have V_9_0_4 := Lib.hid (show Hp w (hdrP A_9_0_4 (0) c_9_0_4 ([]) :: hdrP (some ⟨g_9, 0, none⟩) 1 1 [((C, d1), x)] :: hdrP none 0 0 [] :: obox g1 nm A n c0 :: []) w_9_0_4 from hv_9_0_4)
              clear hr_9_0_4 hv_9_0_4
              refine step_app_run rfl (.tmp 32) (.tmp 35) 27 rfl R_9_0_4.out rfl rfl ?_
              refine hK.out _ _ (List.forall_mem_cons.2 ⟨⟨(V_9_0_4.out.below.cell (p := ⟨bR, oR, none⟩) HR1.out.1).trans HR1.out.2, Nat.lt_of_lt_of_le HR1.out.1 V_9_0_4.out.below.size⟩, fun _ h => by simp at h⟩) (fun hHeld => ?_)
              clear hK K
              try simp only [Act.put, sA, sZ, sS]
              refine wpAnyH_ready (rs := [10]) (by kernel_rfl) (by simp) ?_
              refine AllReadyH.cons (List.getElem?_toArray.trans rfl) (fun K hK => ?_) AllReadyH.nil
              obtain ⟨A_9_0_4_10, c_9_0_4_10, w_9_0_4_10, hr_9_0_4_10, hv_9_0_4_10, _⟩ := run_cat_P V_9_0_4.out (i := 0) rfl 27 (B := (some ⟨g_9, 0, none⟩)) (m := 1) (d := 1) ([((C, d1), x)]) (rfl) (V_9_0_4.out.cells (i := 1) (it := hdrP (some ⟨g_9, 0, none⟩) 1 1 [((C, d1), x)]) rfl (A := (some ⟨g_9, 0, none⟩)) (c := 1) rfl) (by omega) (by omega)
              rw [Nat.zero_add] at hr_9_0_4_10 hv_9_0_4_10
              have R_9_0_4_10 := Lib.hid hr_9_0_4_10
              have V_9_0_4_10 := Lib.hid (show Hp w (hdrP A_9_0_4_10 (1) c_9_0_4_10 ([((C, d1), x)]) :: hdrP (some ⟨g_9, 0, none⟩) 1 1 [((C, d1), x)] :: hdrP none 0 0 [] :: obox g1 nm A n c0 :: []) w_9_0_4_10 from hv_9_0_4_10)
              clear hr_9_0_4_10 hv_9_0_4_10
              refine step_app_run rfl (.tmp 36) (.tmp 41) 27 rfl R_9_0_4_10.out rfl rfl ?_
              refine hK.out _ _ (List.forall_mem_cons.2 ⟨⟨(V_9_0_4_10.out.below.cell (p := ⟨bR, oR, none⟩) HR1.out.1).trans HR1.out.2, Nat.lt_of_lt_of_le HR1.out.1 V_9_0_4_10.out.below.size⟩, fun _ h => by simp at h⟩) (fun hHeld => ?_)
              clear hK K
              try simp only [Act.put, sA, sZ, sS]
              refine wpAnyH_ready (rs := [14]) (by kernel_rfl) (by simp) ?_
              refine AllReadyH.cons (List.getElem?_toArray.trans rfl) (fun K hK => ?_) AllReadyH.nil
              obtain ⟨A_9_0_4_10_14, c_9_0_4_10_14, w_9_0_4_10_14, hr_9_0_4_10_14, hv_9_0_4_10_14, _⟩ := run_cat_P V_9_0_4_10.out (i := 0) rfl 27 (B := none) (m := 0) (d := 0) ([]) (rfl) (show CellsIn _ none [] from CellsIn.nil _ _) (by omega) (by omega)
              rw [Nat.add_zero] at hr_9_0_4_10_14 hv_9_0_4_10_14
              have R_9_0_4_10_14 := Lib.hid hr_9_0_4_10_14
              have V_9_0_4_10_14 := Lib.hid (show Hp w (hdrP A_9_0_4_10_14 (1) c_9_0_4_10_14 ([((C, d1), x)]) :: hdrP (some ⟨g_9, 0, none⟩) 1 1 [((C, d1), x)] :: hdrP none 0 0 [] :: obox g1 nm A n c0 :: []) w_9_0_4_10_14 from hv_9_0_4_10_14)
              clear hr_9_0_4_10_14 hv_9_0_4_10_14
              refine step_app_run rfl (.tmp 42) (.tmp 45) 27 rfl R_9_0_4_10_14.out rfl rfl ?_
              refine hK.out _ _ (List.forall_mem_cons.2 ⟨⟨(V_9_0_4_10_14.out.below.cell (p := ⟨bR, oR, none⟩) HR1.out.1).trans HR1.out.2, Nat.lt_of_lt_of_le HR1.out.1 V_9_0_4_10_14.out.below.size⟩, fun _ h => by simp at h⟩) (fun hHeld => ?_)
              clear hK K
              try simp only [Act.put, sA, sZ, sS]
              refine tk 15 ?_ rfl ?_ ?_; rotate_left; focus (intro w hSw; clear hSw; go_simp; try (with_reducible rfl))
              try simp only [Act.put, sA, sZ, sS]
              refine wpAnyH_done (by kernel_rfl) ?_ _
              have VZ := Lib.hid (show Hp w (hdrP (some ⟨g_9, 0, none⟩) 1 1 [((C, d1), x)] :: hdrP none 0 0 [] :: hdrP A_9_0_4_10_14 (1) c_9_0_4_10_14 ([((C, d1), x)]) :: obox g1 nm A n c0 :: []) w_9_0_4_10_14 from (Hp.front (l := [_, _, _]) ((Hp.front (l := [_, _, _]) ((Hp.front (l := [_]) ((Hp.front (l := [_, _, _]) (V_9_0_4_10_14.out)))))))))
              have VY := Lib.hid (show Hp w (hdrP A_9_0_4_10_14 (1) c_9_0_4_10_14 (srtP L (ps.take (0 + 1))) :: obox g1 nm A n c0 :: []) _ by rw [HSN.out]; exact VZ.out.tail.tail)
              clear hHeld
              go_wp2_with fail
              go_roundw
              case rel => exact ⟨0 + 1, _, _, by omega, by go_num, rfl, fun h => absurd h (Nat.succ_ne_zero _), VY.out⟩
              case measure => simp [intOf]; omega
            exact AllReadyH.nil
          · obtain ⟨y, hy⟩ := get_at (L := sk) (k := 0) (by have := HLN.out; omega)
            obtain ⟨bQ, oQ, hQe, hbQ, q0⟩ := (V4.out.cells (i := 0) (it := hdrP Q j e sk) rfl (A := Q) (c := e) rfl).at_ (rvP_get hy)
            clear hy q0 hj0
            subst hQe
            go_upto_region 6 with fail
            have hKp : Keep [] wj := fun _ h => by simp at h
            refine wp_region_held_drew (S := Keep _) (by kernel_rfl) hKp.drew (fun hHeld => ?_)
            obtain ⟨wf, hwf⟩ : ∃ z, z = wj.drew := ⟨_, rfl⟩
            have Vwf := Lib.hid (show Hp w (hdrP (some ⟨bQ, oQ, none⟩) j e sk :: obox g1 nm A n c0 :: []) wf by rw [hwf]; exact V4.out.go (bdrew _))
            have Bwf := Lib.hid (show Below wj.heap.size wj wf by rw [hwf]; exact bdrew _)
            rw [← hwf] at hHeld ⊢
            clear hwf hKp
            refine tk 0 ?_ rfl ?_ ?_; rotate_left; focus (intro w hSw; clear hSw; go_simp; try (with_reducible rfl))
            try simp only [Act.put, sA, sZ, sS]
            refine tk 1 ?_ rfl ?_ ?_; rotate_left; focus (intro w hSw; clear hSw; go_simp; try (with_reducible rfl))
            try simp only [Act.put, sA, sZ, sS]
            refine tk 2 ?_ rfl ?_ ?_; rotate_left; focus (intro w hSw; clear hSw; go_simp; try (with_reducible rfl))
            try simp only [Act.put, sA, sZ, sS]
            refine tk 3 ?_ rfl ?_ ?_; rotate_left; focus (intro w hSw; clear hSw; go_simp; try (with_reducible rfl))
            try simp only [Act.put, sA, sZ, sS]
            refine tk 4 ?_ rfl ?_ ?_; rotate_left; focus (intro w hSw; clear hSw; go_simp; try (with_reducible rfl))
            try simp only [Act.put, sA, sZ, sS]
            refine tu 5 rfl ?_
            try simp only [Act.put, sA, sZ, sS]
            refine tu 6 rfl ?_
            try simp only [Act.put, sA, sZ, sS]
            refine tu 7 rfl ?_
            try simp only [Act.put, sA, sZ, sS]
            refine tu 8 rfl ?_
            try simp only [Act.put, sA, sZ, sS]
            refine tu 9 rfl ?_
            try simp only [Act.put, sA, sZ, sS]
            refine tu 10 rfl ?_
            try simp only [Act.put, sA, sZ, sS]
            refine tu 11 rfl ?_
            try simp only [Act.put, sA, sZ, sS]
            refine tu 12 rfl ?_
            try simp only [Act.put, sA, sZ, sS]
            refine tu 13 rfl ?_
            try simp only [Act.put, sA, sZ, sS]
            refine tu 14 rfl ?_
            try simp only [Act.put, sA, sZ, sS]
            refine tk 15 ?_ rfl ?_ ?_; rotate_left; focus (intro w hSw; clear hSw; go_simp; try (with_reducible rfl))
            try simp only [Act.put, sA, sZ, sS]
            refine wpAnyH_done (by kernel_rfl) ?_ _
            clear hHeld
            obtain ⟨BB, hBB⟩ : ∃ BB : Option Addr, (if e = j then some (⟨bQ, oQ, none⟩ : Addr) else some ⟨bQ, oQ + j, none⟩) = BB := ⟨_, rfl⟩
            have HCR := Lib.hid (fun (wq : World) (hq : CellsIn wq (some ⟨bQ, oQ, none⟩) (rvP sk)) => (show CellsIn wq BB (rvP (sk.drop j)) by
              rw [← hBB]
              by_cases he : e = j
              · intro h0
                rw [rvP_len, List.length_drop] at h0
                have := HLN.out; omega
              · rw [if_neg he]
                rw [rvP_cut sk j] at hq
                have := hq.right1
                rwa [rvP_len, List.length_take, show min j sk.length = j by have := HLN.out; omega] at this))
            have hje : j ≤ e := by omega
            go_upto_region 8 with fail
            have hKp : Keep [(⟨bR, oR + j, none⟩, .slice C x.length d1)] wf := List.forall_mem_cons.2 ⟨⟨(Vwf.out.below.cell (p := ⟨bR, oR + j, none⟩) HR0.out.1).trans HR0.out.2, Nat.lt_of_lt_of_le HR0.out.1 Vwf.out.below.size⟩, fun _ h => by simp at h⟩
            refine wp_region_held_drew (S := Keep _) (by kernel_rfl) hKp.drew (fun hHeld => ?_)
            obtain ⟨wg, hwg⟩ : ∃ z, z = wf.drew := ⟨_, rfl⟩
            have Vwg := Lib.hid (show Hp w (hdrP (some ⟨bQ, oQ, none⟩) j e sk :: obox g1 nm A n c0 :: []) wg by rw [hwg]; exact Vwf.out.go (bdrew _))
            have Bwg := Lib.hid (show Below wf.heap.size wf wg by rw [hwg]; exact bdrew _)
            rw [← hwg] at hHeld ⊢
            clear hwg hKp
            refine tk 1 ?_ rfl ?_ ?_; rotate_left; focus (intro w hSw; clear hSw; go_simp; try (with_reducible rfl))
            try simp only [Act.put, sA, sZ, sS]
            refine tk 2 ?_ rfl ?_ ?_; rotate_left; focus (intro w hSw; clear hSw; go_simp; try (with_reducible rfl))
            try simp only [Act.put, sA, sZ, sS]
            refine tk 3 ?_ rfl ?_ ?_; rotate_left; focus (intro w hSw; clear hSw; go_simp; try (with_reducible rfl))
            try simp only [Act.put, sA, sZ, sS]
            refine tk 5 ?_ rfl ?_ ?_; rotate_left; focus (intro w hSw; clear hSw; go_simp; try (with_reducible rfl))
            try simp only [Act.put, sA, sZ, sS]
            refine tk 6 ?_ rfl ?_ ?_; rotate_left; focus (intro w hSw; clear hSw; go_simp; try (with_reducible rfl))
            try simp only [Act.put, sA, sZ, sS]
            refine tk 7 ?_ rfl ?_ ?_; rotate_left; focus (intro w hSw; clear hSw; go_simp; try (with_reducible rfl))
            try simp only [Act.put, sA, sZ, sS]
            refine tk 8 ?_ rfl ?_ ?_; rotate_left
            · intro wl hSw
              have hSw : Keep _ wl := hSw
              have k0 := (hSw _ (.head _)).1
              dsimp only at k0
              clear hSw
              go_simp
              try (with_reducible rfl)
            try simp only [Act.put, sA, sZ, sS]
            refine tk 11 ?_ rfl ?_ ?_; rotate_left; focus (intro w hSw; clear hSw; go_simp; try (with_reducible rfl))
            try simp only [Act.put, sA, sZ, sS]
            refine tk 12 ?_ rfl ?_ ?_; rotate_left; focus (intro w hSw; clear hSw; go_simp; try (with_reducible rfl))
            try simp only [Act.put, sA, sZ, sS]
            refine tk 13 ?_ rfl ?_ ?_; rotate_left; focus (intro w hSw; clear hSw; go_simp; try (with_reducible rfl))
            try simp only [Act.put, sA, sZ, sS]
            refine wpAnyH_ready (rs := [0, 9]) (by kernel_rfl) (by simp) ?_
            refine AllReadyH.cons (List.getElem?_toArray.trans rfl) (fun K hK => ?_) ?_
            · obtain ⟨w_0, hw_0⟩ : ∃ z, z = wg.alloc (.cells #[] 35) := ⟨_, rfl⟩
              obtain ⟨g_0, hg_0⟩ : ∃ z, z = wg.heap.size := ⟨_, rfl⟩
              have V_0 := Lib.hid (show Hp w (hdrP (some ⟨g_0, 0, none⟩) 0 0 [] :: hdrP (some ⟨bQ, oQ, none⟩) j e sk :: obox g1 nm A n c0 :: []) w_0 by rw [hw_0, hg_0]; exact Vwg.out.lit 35 1 0 (rvP []) rfl (by decide))
              have B_0 := Lib.hid (show Below wg.heap.size wg w_0 by rw [hw_0]; exact bnew _ _)
              have HW_0 := Lib.hid hw_0
              have HG_0 := Lib.hid hg_0
              clear hw_0 hg_0
              go_simp
              try rw [← HW_0.out]
              try rw [← HG_0.out]
              refine hK.out _ _ (List.forall_mem_cons.2 ⟨⟨(V_0.out.below.cell (p := ⟨bR, oR + j, none⟩) HR0.out.1).trans HR0.out.2, Nat.lt_of_lt_of_le HR0.out.1 V_0.out.below.size⟩, fun _ h => by simp at h⟩) (fun hHeld => ?_)
              clear hK K
              try simp only [Act.put, sA, sZ, sS]
              refine wpAnyH_ready (rs := [4, 9]) (by kernel_rfl) (by simp) ?_
              refine AllReadyH.cons (List.getElem?_toArray.trans rfl) (fun K hK => ?_) ?_
              · obtain ⟨A_0_4, c_0_4, w_0_4, hr_0_4, hv_0_4, _⟩ := run_cat_P V_0.out (i := 0) rfl 27 (B := (some ⟨bQ, oQ, none⟩)) (m := j) (d := e) (sk.take j) (by rw [List.length_take]; have := HLN.out; omega) (by have q := (show CellsIn w_0 (some ⟨bQ, oQ, none⟩) (rvP sk) from V_0.out.cells (i := 1) (it := hdrP (some ⟨bQ, oQ, none⟩) j e sk) rfl (A := (some ⟨bQ, oQ, none⟩)) (c := e) rfl); rw [rvP_cut sk j] at q; exact q.left1) (by omega) (by omega)
                rw [Nat.zero_add] at hr_0_4 hv_0_4
                have R_0_4 := Lib.hid hr_0_4
                have V_0_4 := Lib.hid (show Hp w (hdrP A_0_4 (j) c_0_4 (sk.take j) :: hdrP (some ⟨bQ, oQ, none⟩) j e sk :: obox g1 nm A n c0 :: []) w_0_4 from hv_0_4)
                clear hr_0_4 hv_0_4
                refine step_app_run rfl (.tmp 32) (.tmp 35) 27 rfl R_0_4.out rfl rfl ?_
                refine hK.out _ _ (List.forall_mem_cons.2 ⟨⟨(V_0_4.out.below.cell (p := ⟨bR, oR + j, none⟩) HR0.out.1).trans HR0.out.2, Nat.lt_of_lt_of_le HR0.out.1 V_0_4.out.below.size⟩, fun _ h => by simp at h⟩) (fun hHeld => ?_)
                clear hK K
                try simp only [Act.put, sA, sZ, sS]
                refine wpAnyH_ready (rs := [9]) (by kernel_rfl) (by simp) ?_
                refine AllReadyH.cons (List.getElem?_toArray.trans rfl) (fun K hK => ?_) AllReadyH.nil
                obtain ⟨w_0_4_9, hw_0_4_9⟩ : ∃ z, z = w_0_4.alloc (.cells #[.slice C x.length d1] 35) := ⟨_, rfl⟩
                obtain ⟨g_0_4_9, hg_0_4_9⟩ : ∃ z, z = w_0_4.heap.size := ⟨_, rfl⟩
                have V_0_4_9 := Lib.hid (show Hp w (hdrP (some ⟨g_0_4_9, 0, none⟩) 1 1 [((C, d1), x)] :: hdrP A_0_4 (j) c_0_4 (sk.take j) :: hdrP (some ⟨bQ, oQ, none⟩) j e sk :: obox g1 nm A n c0 :: []) w_0_4_9 by rw [hw_0_4_9, hg_0_4_9]; exact V_0_4.out.lit 35 1 1 (rvP [((C, d1), x)]) rfl (by decide))
                have B_0_4_9 := Lib.hid (show Below w_0_4.heap.size w_0_4 w_0_4_9 by rw [hw_0_4_9]; exact bnew _ _)
                have HW_0_4_9 := Lib.hid hw_0_4_9
                have HG_0_4_9 := Lib.hid hg_0_4_9
                clear hw_0_4_9 hg_0_4_9
                go_simp
                try rw [← HW_0_4_9.out]
                try rw [← HG_0_4_9.out]
                refine hK.out _ _ (List.forall_mem_cons.2 ⟨⟨(V_0_4_9.out.below.cell (p := ⟨bR, oR + j, none⟩) HR0.out.1).trans HR0.out.2, Nat.lt_of_lt_of_le HR0.out.1 V_0_4_9.out.below.size⟩, fun _ h => by simp at h⟩) (fun hHeld => ?_)
                clear hK K
                try simp only [Act.put, sA, sZ, sS]
                refine wpAnyH_ready (rs := [10]) (by kernel_rfl) (by simp) ?_
                refine AllReadyH.cons (List.getElem?_toArray.trans rfl) (fun K hK => ?_) AllReadyH.nil
                obtain ⟨A_0_4_9_10, c_0_4_9_10, w_0_4_9_10, hr_0_4_9_10, hv_0_4_9_10, _⟩ := run_cat_P V_0_4_9.out (i := 1) rfl 27 (B := (some ⟨g_0_4_9, 0, none⟩)) (m := 1) (d := 1) ([((C, d1), x)]) (rfl) (V_0_4_9.out.cells (i := 0) (it := hdrP (some ⟨g_0_4_9, 0, none⟩) 1 1 [((C, d1), x)]) rfl (A := (some ⟨g_0_4_9, 0, none⟩)) (c := 1) rfl) (by omega) (by omega)
                have R_0_4_9_10 := Lib.hid hr_0_4_9_10
                have V_0_4_9_10 := Lib.hid (show Hp w (hdrP (some ⟨g_0_4_9, 0, none⟩) 1 1 [((C, d1), x)] :: hdrP A_0_4_9_10 (j + 1) c_0_4_9_10 (sk.take j ++ [((C, d1), x)]) :: hdrP (some ⟨bQ, oQ, none⟩) j e sk :: obox g1 nm A n c0 :: []) w_0_4_9_10 from hv_0_4_9_10)
                clear hr_0_4_9_10 hv_0_4_9_10
                refine step_app_run rfl (.tmp 36) (.tmp 41) 27 rfl R_0_4_9_10.out rfl rfl ?_
                refine hK.out _ _ (List.forall_mem_cons.2 ⟨⟨(V_0_4_9_10.out.below.cell (p := ⟨bR, oR + j, none⟩) HR0.out.1).trans HR0.out.2, Nat.lt_of_lt_of_le HR0.out.1 V_0_4_9_10.out.below.size⟩, fun _ h => by simp at h⟩) (fun hHeld => ?_)
                clear hK K
                try simp only [Act.put, sA, sZ, sS]
                refine wpAnyH_ready (rs := [14]) (by kernel_rfl) (by simp) ?_
                refine AllReadyH.cons (List.getElem?_toArray.trans rfl) (fun K hK => ?_) AllReadyH.nil
                obtain ⟨A_0_4_9_10_14, c_0_4_9_10_14, w_0_4_9_10_14, hr_0_4_9_10_14, hv_0_4_9_10_14, _⟩ := run_cat_P V_0_4_9_10.out (i := 1) rfl 27 (B := BB) (m := 0) (d := (e - j)) (sk.drop j) (by rw [List.length_drop]; have := HLN.out; omega) (HCR.out w_0_4_9_10 ((show CellsIn w_0_4_9_10 (some ⟨bQ, oQ, none⟩) (rvP sk) from V_0_4_9_10.out.cells (i := 2) (it := hdrP (some ⟨bQ, oQ, none⟩) j e sk) rfl (A := (some ⟨bQ, oQ, none⟩)) (c := e) rfl))) (by omega) (by omega)
                rw [Nat.add_zero] at hr_0_4_9_10_14 hv_0_4_9_10_14
                have R_0_4_9_10_14 := Lib.hid hr_0_4_9_10_14
                have V_0_4_9_10_14 := Lib.hid (show Hp w (hdrP (some ⟨g_0_4_9, 0, none⟩) 1 1 [((C, d1), x)] :: hdrP A_0_4_9_10_14 (j + 1) c_0_4_9_10_14 (sk.take j ++ [((C, d1), x)] ++ sk.drop j) :: hdrP (some ⟨bQ, oQ, none⟩) j e sk :: obox g1 nm A n c0 :: []) w_0_4_9_10_14 from hv_0_4_9_10_14)
                clear hr_0_4_9_10_14 hv_0_4_9_10_14
                refine step_app_run rfl (.tmp 42) (.tmp 45) 27 rfl R_0_4_9_10_14.out rfl rfl ?_
                refine hK.out _ _ (List.forall_mem_cons.2 ⟨⟨(V_0_4_9_10_14.out.below.cell (p := ⟨bR, oR + j, none⟩) HR0.out.1).trans HR0.out.2, Nat.lt_of_lt_of_le HR0.out.1 V_0_4_9_10_14.out.below.size⟩, fun _ h => by simp at h⟩) (fun hHeld => ?_)
                clear hK K
                try simp only [Act.put, sA, sZ, sS]
                refine tk 15 ?_ rfl ?_ ?_; rotate_left; focus (intro w hSw; clear hSw; go_simp; try (with_reducible rfl))
                try simp only [Act.put, sA, sZ, sS]
                refine wpAnyH_done (by kernel_rfl) ?_ _
                have VZ := Lib.hid (show Hp w (hdrP (some ⟨g_0_4_9, 0, none⟩) 1 1 [((C, d1), x)] :: hdrP (some ⟨bQ, oQ, none⟩) j e sk :: hdrP A_0_4_9_10_14 (j + 1) c_0_4_9_10_14 (sk.take j ++ [((C, d1), x)] ++ sk.drop j) :: obox g1 nm A n c0 :: []) w_0_4_9_10_14 from (Hp.front (l := [_, _, _]) ((Hp.front (l := [_, _, _]) ((Hp.front (l := [_, _]) ((Hp.front (l := [_, _, _]) (V_0_4_9_10_14.out)))))))))
                have VY := Lib.hid (show Hp w (hdrP A_0_4_9_10_14 (j + 1) c_0_4_9_10_14 (srtP L (ps.take (j + 1))) :: obox g1 nm A n c0 :: []) _ by rw [HSN.out, HCUT.out, show sk.take j ++ ((C, d1), x) :: sk.drop j = sk.take j ++ [((C, d1), x)] ++ sk.drop j by rw [List.append_assoc]; rfl]; exact VZ.out.tail.tail)
                clear hHeld
                go_wp2_with fail
                go_roundw
                case rel => exact ⟨j + 1, _, _, by omega, by go_num, rfl, fun h => absurd h (Nat.succ_ne_zero _), VY.out⟩
                case measure => simp [intOf]; omega
              refine AllReadyH.cons (List.getElem?_toArray.trans rfl) (fun K hK => ?_) ?_
              · obtain ⟨w_0_9, hw_0_9⟩ : ∃ z, z = w_0.alloc (.cells #[.slice C x.length d1] 35) := ⟨_, rfl⟩
                obtain ⟨g_0_9, hg_0_9⟩ : ∃ z, z = w_0.heap.size := ⟨_, rfl⟩
                have V_0_9 := Lib.hid (show Hp w (hdrP (some ⟨g_0_9, 0, none⟩) 1 1 [((C, d1), x)] :: hdrP (some ⟨g_0, 0, none⟩) 0 0 [] :: hdrP (some ⟨bQ, oQ, none⟩) j e sk :: obox g1 nm A n c0 :: []) w_0_9 by rw [hw_0_9, hg_0_9]; exact V_0.out.lit 35 1 1 (rvP [((C, d1), x)]) rfl (by decide))
                have B_0_9 := Lib.hid (show Below w_0.heap.size w_0 w_0_9 by rw [hw_0_9]; exact bnew _ _)
                have HW_0_9 := Lib.hid hw_0_9
                have HG_0_9 := Lib.hid hg_0_9
                clear hw_0_9 hg_0_9
                go_simp
                try rw [← HW_0_9.out]
                try rw [← HG_0_9.out]
                refine hK.out _ _ (List.forall_mem_cons.2 ⟨⟨(V_0_9.out.below.cell (p := ⟨bR, oR + j, none⟩) HR0.out.1).trans HR0.out.2, Nat.lt_of_lt_of_le HR0.out.1 V_0_9.out.below.size⟩, fun _ h => by simp at h⟩) (fun hHeld => ?_)
                clear hK K
                try simp only [Act.put, sA, sZ, sS]
                refine wpAnyH_ready (rs := [4]) (by kernel_rfl) (by simp) ?_
                refine AllReadyH.cons (List.getElem?_toArray.trans rfl) (fun K hK => ?_) AllReadyH.nil
                obtain ⟨A_0_9_4, c_0_9_4, w_0_9_4, hr_0_9_4, hv_0_9_4, _⟩ := run_cat_P V_0_9.out (i := 1) rfl 27 (B := (some ⟨bQ, oQ, none⟩)) (m := j) (d := e) (sk.take j) (by rw [List.length_take]; have := HLN.out; omega) (by have q := (show CellsIn w_0_9 (some ⟨bQ, oQ, none⟩) (rvP sk) from V_0_9.out.cells (i := 2) (it := hdrP (some ⟨bQ, oQ, none⟩) j e sk) rfl (A := (some ⟨bQ, oQ, none⟩)) (c := e) rfl); rw [rvP_cut sk j] at q; exact q.left1) (by omega) (by omega)
                rw [Nat.zero_add] at hr_0_9_4 hv_0_9_4
                have R_0_9_4 := Lib.hid hr_0_9_4
                have V_0_9_4 := Lib.hid (show Hp w (hdrP (some ⟨g_0_9, 0, none⟩) 1 1 [((C, d1), x)] :: hdrP A_0_9_4 (j) c_0_9_4 (sk.take j) :: hdrP (some ⟨bQ, oQ, none⟩) j e sk :: obox g1 nm A n c0 :: []) w_0_9_4 from hv_0_9_4)
                clear hr_0_9_4 hv_0_9_4
                refine step_app_run rfl (.tmp 32) (.tmp 35) 27 rfl R_0_9_4.out rfl rfl ?_
                refine hK.out _ _ (List.forall_mem_cons.2 ⟨⟨(V_0_9_4.out.below.cell (p := ⟨bR, oR + j, none⟩) HR0.out.1).trans HR0.out.2, Nat.lt_of_lt_of_le HR0.out.1 V_0_9_4.out.below.size⟩, fun _ h => by simp at h⟩) (fun hHeld => ?_)
                clear hK K
                try simp only [Act.put, sA, sZ, sS]
                refine wpAnyH_ready (rs := [10]) (by kernel_rfl) (by simp) ?_
                refine AllReadyH.cons (List.getElem?_toArray.trans rfl) (fun K hK => ?_) AllReadyH.nil
                obtain ⟨A_0_9_4_10, c_0_9_4_10, w_0_9_4_10, hr_0_9_4_10, hv_0_9_4_10, _⟩ := run_cat_P V_0_9_4.out (i := 1) rfl 27 (B := (some ⟨g_0_9, 0, none⟩)) (m := 1) (d := 1) ([((C, d1), x)]) (rfl) (V_0_9_4.out.cells (i := 0) (it := hdrP (some ⟨g_0_9, 0, none⟩) 1 1 [((C, d1), x)]) rfl (A := (some ⟨g_0_9, 0, none⟩)) (c := 1) rfl) (by omega) (by omega)
                have R_0_9_4_10 := Lib.hid hr_0_9_4_10
                have V_0_9_4_10 := Lib.hid (show Hp w (hdrP (some ⟨g_0_9, 0, none⟩) 1 1 [((C, d1), x)] :: hdrP A_0_9_4_10 (j + 1) c_0_9_4_10 (sk.take j ++ [((C, d1), x)]) :: hdrP (some ⟨bQ, oQ, none⟩) j e sk :: obox g1 nm A n c0 :: []) w_0_9_4_10 from hv_0_9_4_10)
                clear hr_0_9_4_10 hv_0_9_4_10
                refine step_app_run rfl (.tmp 36) (.tmp 41) 27 rfl R_0_9_4_10.out rfl rfl ?_
                refine hK.out _ _ (List.forall_mem_cons.2 ⟨⟨(V_0_9_4_10.out.below.cell (p := ⟨bR, oR + j, none⟩) HR0.out.1).trans HR0.out.2, Nat.lt_of_lt_of_le HR0.out.1 V_0_9_4_10.out.below.size⟩, fun _ h => by simp at h⟩) (fun hHeld => ?_)
                clear hK K
                try simp only [Act.put, sA, sZ, sS]
                refine wpAnyH_ready (rs := [14]) (by kernel_rfl) (by simp) ?_
                refine AllReadyH.cons (List.getElem?_toArray.trans rfl) (fun K hK => ?_) AllReadyH.nil
                obtain ⟨A_0_9_4_10_14, c_0_9_4_10_14, w_0_9_4_10_14, hr_0_9_4_10_14, hv_0_9_4_10_14, _⟩ := run_cat_P V_0_9_4_10.out (i := 1) rfl 27 (B := BB) (m := 0) (d := (e - j)) (sk.drop j) (by rw [List.length_drop]; have := HLN.out; omega) (HCR.out w_0_9_4_10 ((show CellsIn w_0_9_4_10 (some ⟨bQ, oQ, none⟩) (rvP sk) from V_0_9_4_10.out.cells (i := 2) (it := hdrP (some ⟨bQ, oQ, none⟩) j e sk) rfl (A := (some ⟨bQ, oQ, none⟩)) (c := e) rfl))) (by omega) (by omega)
                rw [Nat.add_zero] at hr_0_9_4_10_14 hv_0_9_4_10_14
                have R_0_9_4_10_14 := Lib.hid hr_0_9_4_10_14
                have V_0_9_4_10_14 := Lib.hid (show Hp w (hdrP (some ⟨g_0_9, 0, none⟩) 1 1 [((C, d1), x)] :: hdrP A_0_9_4_10_14 (j + 1) c_0_9_4_10_14 (sk.take j ++ [((C, d1), x)] ++ sk.drop j) :: hdrP (some ⟨bQ, oQ, none⟩) j e sk :: obox g1 nm A n c0 :: []) w_0_9_4_10_14 from hv_0_9_4_10_14)
                clear hr_0_9_4_10_14 hv_0_9_4_10_14
                refine step_app_run rfl (.tmp 42) (.tmp 45) 27 rfl R_0_9_4_10_14.out rfl rfl ?_
                refine hK.out _ _ (List.forall_mem_cons.2 ⟨⟨(V_0_9_4_10_14.out.below.cell (p := ⟨bR, oR + j, none⟩) HR0.out.1).trans HR0.out.2, Nat.lt_of_lt_of_le HR0.out.1 V_0_9_4_10_14.out.below.size⟩, fun _ h => by simp at h⟩) (fun hHeld => ?_)
                clear hK K
                try simp only [Act.put, sA, sZ, sS]
                refine tk 15 ?_ rfl ?_ ?_; rotate_left; focus (intro w hSw; clear hSw; go_simp; try (with_reducible rfl))
                try simp only [Act.put, sA, sZ, sS]
                refine wpAnyH_done (by kernel_rfl) ?_ _
                have VZ := Lib.hid (show Hp w (hdrP (some ⟨g_0_9, 0, none⟩) 1 1 [((C, d1), x)] :: hdrP (some ⟨bQ, oQ, none⟩) j e sk :: hdrP A_0_9_4_10_14 (j + 1) c_0_9_4_10_14 (sk.take j ++ [((C, d1), x)] ++ sk.drop j) :: obox g1 nm A n c0 :: []) w_0_9_4_10_14 from (Hp.front (l := [_, _, _]) ((Hp.front (l := [_, _, _]) ((Hp.front (l := [_, _]) ((Hp.front (l := [_, _, _]) (V_0_9_4_10_14.out)))))))))
                have VY := Lib.hid (show Hp w (hdrP A_0_9_4_10_14 (j + 1) c_0_9_4_10_14 (srtP L (ps.take (j + 1))) :: obox g1 nm A n c0 :: []) _ by rw [HSN.out, HCUT.out, show sk.take j ++ ((C, d1), x) :: sk.drop j = sk.take j ++ [((C, d1), x)] ++ sk.drop j by rw [List.append_assoc]; rfl]; exact VZ.out.tail.tail)
                clear hHeld
                go_wp2_with fail
                go_roundw
                case rel => exact ⟨j + 1, _, _, by omega, by go_num, rfl, fun h => absurd h (Nat.succ_ne_zero _), VY.out⟩
                case measure => simp [intOf]; omega
              exact AllReadyH.nil
            refine AllReadyH.cons (List.getElem?_toArray.trans rfl) (fun K hK => ?_) ?_
            · obtain ⟨w_9, hw_9⟩ : ∃ z, z = wg.alloc (.cells #[.slice C x.length d1] 35) := ⟨_, rfl⟩
              obtain ⟨g_9, hg_9⟩ : ∃ z, z = wg.heap.size := ⟨_, rfl⟩
              have V_9 := Lib.hid (show Hp w (hdrP (some ⟨g_9, 0, none⟩) 1 1 [((C, d1), x)] :: hdrP (some ⟨bQ, oQ, none⟩) j e sk :: obox g1 nm A n c0 :: []) w_9 by rw [hw_9, hg_9]; exact Vwg.out.lit 35 1 1 (rvP [((C, d1), x)]) rfl (by decide))
              have B_9 := Lib.hid (show Below wg.heap.size wg w_9 by rw [hw_9]; exact bnew _ _)
              have HW_9 := Lib.hid hw_9
              have HG_9 := Lib.hid hg_9
              clear hw_9 hg_9
              go_simp
              try rw [← HW_9.out]
              try rw [← HG_9.out]
              refine hK.out _ _ (List.forall_mem_cons.2 ⟨⟨(V_9.out.below.cell (p := ⟨bR, oR + j, none⟩) HR0.out.1).trans HR0.out.2, Nat.lt_of_lt_of_le HR0.out.1 V_9.out.below.size⟩, fun _ h => by simp at h⟩) (fun hHeld => ?_)
              clear hK K
              try simp only [Act.put, sA, sZ, sS]
              refine wpAnyH_ready (rs := [0]) (by kernel_rfl) (by simp) ?_
              refine AllReadyH.cons (List.getElem?_toArray.trans rfl) (fun K hK => ?_) AllReadyH.nil
              obtain ⟨w_9_0, hw_9_0⟩ : ∃ z, z = w_9.alloc (.cells #[] 35) := ⟨_, rfl⟩
              obtain ⟨g_9_0, hg_9_0⟩ : ∃ z, z = w_9.heap.size := ⟨_, rfl⟩
              have V_9_0 := Lib.hid (show Hp w (hdrP (some ⟨g_9_0, 0, none⟩) 0 0 [] :: hdrP (some ⟨g_9, 0, none⟩) 1 1 [((C, d1), x)] :: hdrP (some ⟨bQ, oQ, none⟩) j e sk :: obox g1 nm A n c0 :: []) w_9_0 by rw [hw_9_0, hg_9_0]; exact V_9.out.lit 35 1 0 (rvP []) rfl (by decide))
              have B_9_0 := Lib.hid (show Below w_9.heap.size w_9 w_9_0 by rw [hw_9_0]; exact bnew _ _)
              have HW_9_0 := Lib.hid hw_9_0
              have HG_9_0 := Lib.hid hg_9_0
              clear hw_9_0 hg_9_0
              go_simp
              try rw [← HW_9_0.out]
              try rw [← HG_9_0.out]
              refine hK.out _ _ (List.forall_mem_cons.2 ⟨⟨(V_9_0.out.below.cell (p := ⟨bR, oR + j, none⟩) HR0.out.1).trans HR0.out.2, Nat.lt_of_lt_of_le HR0.out.1 V_9_0.out.below.size⟩, fun _ h => by simp at h⟩) (fun hHeld => ?_)
              clear hK K
              try simp only [Act.put, sA, sZ, sS]
              refine wpAnyH_ready (rs := [4]) (by kernel_rfl) (by simp) ?_
              refine AllReadyH.cons (List.getElem?_toArray.trans rfl) (fun K hK => ?_) AllReadyH.nil
              obtain ⟨A_9_0_4, c_9_0_4, w_9_0_4, hr_9_0_4, hv_9_0_4, _⟩ := run_cat_P V_9_0.out (i := 0) rfl 27 (B := (some ⟨bQ, oQ, none⟩)) (m := j) (d := e) (sk.take j) (by rw [List.length_take]; have := HLN.out; omega) (by have q := (show CellsIn w_9_0 (some ⟨bQ, oQ, none⟩) (rvP sk) from V_9_0.out.cells (i := 2) (it := hdrP (some ⟨bQ, oQ, none⟩) j e sk) rfl (A := (some ⟨bQ, oQ, none⟩)) (c := e) rfl); rw [rvP_cut sk j] at q; exact q.left1) (by omega) (by omega)
              rw [Nat.zero_add] at hr_9_0_4 hv_9_0_4
              have R_9_0_4 := Lib.hid hr_9_0_4
              have V_9_0_4 := Lib.hid (show Hp w (hdrP A_9_0_4 (j) c_9_0_4 (sk.take j) :: hdrP (some ⟨g_9, 0, none⟩) 1 1 [((C, d1), x)] :: hdrP (some ⟨bQ, oQ, none⟩) j e sk :: obox g1 nm A n c0 :: []) w_9_0_4 from hv_9_0_4)
              clear hr_9_0_4 hv_9_0_4
              refine step_app_run rfl (.tmp 32) (.tmp 35) 27 rfl R_9_0_4.out rfl rfl ?_
              refine hK.out _ _ (List.forall_mem_cons.2 ⟨⟨(V_9_0_4.out.below.cell (p := ⟨bR, oR + j, none⟩) HR0.out.1).trans HR0.out.2, Nat.lt_of_lt_of_le HR0.out.1 V_9_0_4.out.below.size⟩, fun _ h => by simp at h⟩) (fun hHeld => ?_)
              clear hK K
              try simp only [Act.put, sA, sZ, sS]
              refine wpAnyH_ready (rs := [10]) (by kernel_rfl) (by simp) ?_
              refine AllReadyH.cons (List.getElem?_toArray.trans rfl) (fun K hK => ?_) AllReadyH.nil
              obtain ⟨A_9_0_4_10, c_9_0_4_10, w_9_0_4_10, hr_9_0_4_10, hv_9_0_4_10, _⟩ := run_cat_P V_9_0_4.out (i := 0) rfl 27 (B := (some ⟨g_9, 0, none⟩)) (m := 1) (d := 1) ([((C, d1), x)]) (rfl) (V_9_0_4.out.cells (i := 1) (it := hdrP (some ⟨g_9, 0, none⟩) 1 1 [((C, d1), x)]) rfl (A := (some ⟨g_9, 0, none⟩)) (c := 1) rfl) (by omega) (by omega)
              have R_9_0_4_10 := Lib.hid hr_9_0_4_10
              have V_9_0_4_10 := Lib.hid (show Hp w (hdrP A_9_0_4_10 (j + 1) c_9_0_4_10 (sk.take j ++ [((C, d1), x)]) :: hdrP (some ⟨g_9, 0, none⟩) 1 1 [((C, d1), x)] :: hdrP (some ⟨bQ, oQ, none⟩) j e sk :: obox g1 nm A n c0 :: []) w_9_0_4_10 from hv_9_0_4_10)
              clear hr_9_0_4_10 hv_9_0_4_10
              refine step_app_run rfl (.tmp 36) (.tmp 41) 27 rfl R_9_0_4_10.out rfl rfl ?_
              refine hK.out _ _ (List.forall_mem_cons.2 ⟨⟨(V_9_0_4_10.out.below.cell (p := ⟨bR, oR + j, none⟩) HR0.out.1).trans HR0.out.2, Nat.lt_of_lt_of_le HR0.out.1 V_9_0_4_10.out.below.size⟩, fun _ h => by simp at h⟩) (fun hHeld => ?_)
              clear hK K
              try simp only [Act.put, sA, sZ, sS]
              refine wpAnyH_ready (rs := [14]) (by kernel_rfl) (by simp) ?_
              refine AllReadyH.cons (List.getElem?_toArray.trans rfl) (fun K hK => ?_) AllReadyH.nil
              obtain ⟨A_9_0_4_10_14, c_9_0_4_10_14, w_9_0_4_10_14, hr_9_0_4_10_14, hv_9_0_4_10_14, _⟩ := run_cat_P V_9_0_4_10.out (i := 0) rfl 27 (B := BB) (m := 0) (d := (e - j)) (sk.drop j) (by rw [List.length_drop]; have := HLN.out; omega) (HCR.out w_9_0_4_10 ((show CellsIn w_9_0_4_10 (some ⟨bQ, oQ, none⟩) (rvP sk) from V_9_0_4_10.out.cells (i := 2) (it := hdrP (some ⟨bQ, oQ, none⟩) j e sk) rfl (A := (some ⟨bQ, oQ, none⟩)) (c := e) rfl))) (by omega) (by omega)
              rw [Nat.add_zero] at hr_9_0_4_10_14 hv_9_0_4_10_14
              have R_9_0_4_10_14 := Lib.hid hr_9_0_4_10_14
              have V_9_0_4_10_14 := Lib.hid (show Hp w (hdrP A_9_0_4_10_14 (j + 1) c_9_0_4_10_14 (sk.take j ++ [((C, d1), x)] ++ sk.drop j) :: hdrP (some ⟨g_9, 0, none⟩) 1 1 [((C, d1), x)] :: hdrP (some ⟨bQ, oQ, none⟩) j e sk :: obox g1 nm A n c0 :: []) w_9_0_4_10_14 from hv_9_0_4_10_14)
              clear hr_9_0_4_10_14 hv_9_0_4_10_14
              refine step_app_run rfl (.tmp 42) (.tmp 45) 27 rfl R_9_0_4_10_14.out rfl rfl ?_
              refine hK.out _ _ (List.forall_mem_cons.2 ⟨⟨(V_9_0_4_10_14.out.below.cell (p := ⟨bR, oR + j, none⟩) HR0.out.1).trans HR0.out.2, Nat.lt_of_lt_of_le HR0.out.1 V_9_0_4_10_14.out.below.size⟩, fun _ h => by simp at h⟩) (fun hHeld => ?_)
              clear hK K
              try simp only [Act.put, sA, sZ, sS]
              refine tk 15 ?_ rfl ?_ ?_; rotate_left; focus (intro w hSw; clear hSw; go_simp; try (with_reducible rfl))
              try simp only [Act.put, sA, sZ, sS]
              refine wpAnyH_done (by kernel_rfl) ?_ _
              have VZ := Lib.hid (show Hp w (hdrP (some ⟨g_9, 0, none⟩) 1 1 [((C, d1), x)] :: hdrP (some ⟨bQ, oQ, none⟩) j e sk :: hdrP A_9_0_4_10_14 (j + 1) c_9_0_4_10_14 (sk.take j ++ [((C, d1), x)] ++ sk.drop j) :: obox g1 nm A n c0 :: []) w_9_0_4_10_14 from (Hp.front (l := [_, _, _]) ((Hp.front (l := [_, _, _]) ((Hp.front (l := [_]) ((Hp.front (l := [_, _, _]) (V_9_0_4_10_14.out)))))))))
              have VY := Lib.hid (show Hp w (hdrP A_9_0_4_10_14 (j + 1) c_9_0_4_10_14 (srtP L (ps.take (j + 1))) :: obox g1 nm A n c0 :: []) _ by rw [HSN.out, HCUT.out, show sk.take j ++ ((C, d1), x) :: sk.drop j = sk.take j ++ [((C, d1), x)] ++ sk.drop j by rw [List.append_assoc]; rfl]; exact VZ.out.tail.tail)
              clear hHeld
              go_wp2_with fail
              go_roundw
              case rel => exact ⟨j + 1, _, _, by omega, by go_num, rfl, fun h => absurd h (Nat.succ_ne_zero _), VY.out⟩
              case measure => simp [intOf]; omega
            exact AllReadyH.nil
    · obtain rfl : k = m := by omega
      have HE := Lib.hid (show srtP L (ps.take k) = srtP L ps by rw [List.take_of_length_le (by have := HM.out; omega)])
      go_wp2_with fail
      go_ret
      exact ⟨Q, e, rfl, by rw [← HE.out]; exact Hp.tail (Hp.sink (l := [_]) (l2 := []) V3.out)⟩
end Go.Proofs.YtjamfcihjendiaaGreat
