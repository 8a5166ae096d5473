/- What the statement about rounded numbers answers: true, whatever the input. -/
import Derived.Test.YtbhneddjjgegmaaGreatDoorHv
import Derived.Test.YtbhneddjjgegmaaGreatDoorHH
import Derived.Lib.ConvBytes
namespace Go.Proofs.YtbhneddjjgegmaaGreatDoor
open Go.RowKit
set_option linter.unusedVariables false
set_option maxRecDepth 100000

theorem of_small2 {a b : Int} (ha : -32768 ≤ a) (ha2 : a ≤ 32767) (hb : 1 ≤ b) (hb2 : b ≤ 256) : ∃ s p q, ofR a b = (s, p, q, 0) ∧ Fr s p q ∧ (p ≤ 32768 ∧ q ≤ 256) := by
  have e : ofR a b = low (decide (a < 0) != decide (b < 0)) (max a (-a)) (max b (-b)) := by
    unfold ofR low
    rw [if_neg (by omega), if_neg (by omega)]
  refine ⟨_, _, _, e, (low_good (s := decide (a < 0) != decide (b < 0)) (n := max a (-a)) (d := max b (-b)) (by omega) (by omega)).fr rfl, ?_, ?_⟩
  · exact Int.le_trans (Int.ediv_le_self _ (by omega)) (by omega)
  · exact Int.le_trans (Int.ediv_le_self _ (by omega)) (by omega)
/-- What Made returns. -/
def MdR (a : Int) (W : World) (e : Ending) (w' : World) : Prop :=
  ∃ s p q A c k B d l, e = .returned (.agg #[.bool s, .slice A k c, .slice B l d]) ∧ NumAt w' (.slice A k c) p ∧ NumAt w' (.slice B l d) q ∧ Fr s p q ∧ (p ≤ 32768 ∧ q ≤ 256) ∧ Below W.heap.size W w'
set_option maxHeartbeats 4000000 in
theorem rmade2_any (a b : Int) (W : World) (ha : -32768 ≤ a) (ha2 : a ≤ 32767) (hb : 0 ≤ b) (hb2 : b ≤ 255) : Calls Tryz.prog 21 #[.int .i16 a, .int .u8 b] W (MdR a W) := by
  obtain ⟨s', p', q', he, hz, hv⟩ := of_small2 (a := a) (b := 1 + b) (by omega) (by omega) (by omega) (by omega)
  have HP := Lib.hid (fun w => show Calls Tryz.prog 34 #[.int .i64 a, .int .i64 (1 + b)] w (FrE (s', p', q', 0) w) by rw [← he]; exact rof3_any a (1 + b) w)
  have HZ := Lib.hid hz
  have HV := Lib.hid hv
  have V0 := Lib.hid ((BoxF.start W).new false none 0 0 none 0 0)
  clear he hz hv
  go_enter Tryz.func21, Tryz.ntmps21
  go_wp2_with fail
  refine (HP.out _).mono ?_
  rintro e w1 ⟨Ay, cy, ky, Az, cz, kz, rfl, n1, m1, e1⟩
  have U1 := Lib.hid (((V0.out.go e1).num m1).num n1)
  clear n1 m1 e1
  have V1 := Lib.hid (U1.out.new s' Ay ky cy Az kz cz)
  have D1 := (U1.out.lt (.head _)).2
  obtain ⟨wx, hwx⟩ : ∃ x, x = w1.alloc (.cells #[.bool s', .slice Ay ky cy, .slice Az kz cz] 26) := ⟨_, rfl⟩
  rw [← hwx] at V1
  have V2 := Lib.hid (V1.out.set (.tail _ (.head _)) ⟨s', Ay, ky, cy, Az, kz, cz⟩ [(W.heap.size, ⟨s', Ay, ky, cy, Az, kz, cz⟩)] (List.forall_mem_cons.2 ⟨.inl rfl, fun _ h => by simp at h⟩))
  obtain ⟨a0, a1, a2, a3⟩ := V1.out.box (.head _)
  obtain ⟨b0, b1, b2, b3⟩ := V1.out.box (.tail _ (.head _))
  obtain ⟨o0, o1, o2⟩ := V1.out.open (.tail _ (.head _))
  obtain ⟨c0, c1, c2x, c3⟩ := V2.out.box (.head _)
  have HW := Lib.hid hwx
  clear hwx
  go_upto_region 2 with fail
  rw [← HW.out]
  go_wp2_with fail
  refine bodyPost_ret (v := .agg #[.bool s', .slice Ay ky cy, .slice Az kz cz]) ?_ rfl ?_
  · simp [results, Tryz.results21, go_sem, c0, c1, c2x]
  · exact ⟨s', p', q', Ay, cy, ky, Az, cz, kz, rfl, V2.out.at (.head _), V2.out.at (.tail _ (.head _)), HZ.out, HV.out, V2.out.2.2⟩
theorem text_size {k : Nat} {s : Bool} {u : Int} (hk : k ≤ 12) (hl : (digs u).length ≤ 200) : (sgnB s u (pntB k (padB k (fmtB u)))).size ≤ 1000 := by
  have h1 := fmtB_size hl
  obtain ⟨h2, h3⟩ := padB_size k (fmtB u)
  generalize padB k (fmtB u) = b at *
  have h4 : (pntB k b).size ≤ 900 := by
    unfold pntB
    split
    · omega
    · rw [ByteArray.size_append, ByteArray.size_append, ByteArray.size_extract, ByteArray.size_extract, Nat.min_eq_left (show b.size - k ≤ b.size by omega), Nat.min_self]
      have : (⟨#[46]⟩ : ByteArray).size = 1 := rfl
      omega
  unfold sgnB
  split
  · rw [ByteArray.size_append]
    have : (⟨#[45]⟩ : ByteArray).size = 1 := rfl
    omega
  · omega
theorem u_len {u : Int} (h : u ≤ 100000000000000000) : (digs u).length ≤ 200 := by
  have hp : (1000000000000000000 : Int) < pw 6 := by simp [pw]
  exact len_of (k := 6) (by omega) (by omega)
theorem bytes_below (w : World) (e : TypeId) (s : ByteArray) : Below w.heap.size w (Lib.bytesWorld w e s) := ⟨rfl, rfl, rfl, by rw [Lib.bytesWorld_size]; omega, fun k hk => Lib.bytesWorld_at_old w e s k hk⟩
theorem pow_in {k : Nat} (hk : k ≤ 12) : (1 : Int) ≤ 10 ^ k ∧ (10 : Int) ^ k ≤ 1000000000000 := by
  have h1 : (10 : Nat) ^ k ≤ 10 ^ 12 := Nat.pow_le_pow_right (by omega) hk
  have h2 : ((10 ^ k : Nat) : Int) ≤ ((10 ^ 12 : Nat) : Int) := Int.ofNat_le.2 h1
  have e1 : ((10 ^ k : Nat) : Int) = (10 : Int) ^ k := by simp
  rw [e1] at h2
  have e2 : ((10 ^ 12 : Nat) : Int) = 1000000000000 := by decide
  have hp : (0 : Int) < 10 ^ k := Int.pow_pos (by omega)
  omega
/-- What rounded answers on a small fraction. -/
theorem rnd_small {k : Nat} {p q : Int} (hk : k ≤ 12) (hp : 0 ≤ p) (hp2 : p ≤ 32768) (hq : 0 < q) (hq2 : q ≤ 256) : ∃ u, rndR (2 * 10 ^ k) p q = (u, 0) ∧ u = (p * (2 * 10 ^ k) + q) / (q * 2) ∧ 0 ≤ u ∧ u ≤ 100000000000000000 := by
  obtain ⟨t1, t2⟩ := pow_in hk
  generalize (10 : Int) ^ k = T at *
  have b0 : 0 ≤ p * (2 * T) := Int.mul_nonneg hp (by omega)
  have b1 : p * (2 * T) ≤ 32768 * 2000000000000 := Int.le_trans (Int.mul_le_mul_of_nonneg_right hp2 (by omega)) (Int.mul_le_mul_of_nonneg_left (by omega) (by omega))
  have hpw : (1000000000000000000 : Int) < pw 6 := by simp [pw]
  have l1 : (digs (p * (2 * T))).length ≤ 200 := len_of (k := 6) (by omega) (by omega)
  have l2 : (digs (p * (2 * T) + q)).length ≤ 200 := len_of (k := 6) (by omega) (by omega)
  have l3 : (digs (q * 2)).length ≤ 200 := len_of (k := 6) (by omega) (by omega)
  refine ⟨_, by unfold rndR; rw [if_neg (by omega), if_neg (by omega), if_neg (by omega)], rfl, Int.ediv_nonneg (by omega) (by omega), ?_⟩
  exact Int.le_trans (Int.ediv_le_self _ (by omega)) (by omega)
/-- The difference from a rounded number is at most half a unit. -/
theorem near_cmp {s neg sd : Bool} {p q u T u' t' pd qd : Int} (h : Fr s p q) (hy : Fr neg u' t') (hT : 0 < T) (hu : u = (p * (2 * T) + q) / (q * 2)) (hu0 : 0 ≤ u) (e1 : u' = u / gcdI u T) (e2 : t' = T / gcdI u T) (hn : u' = 0 ∨ neg = s)
    (hd : difR s neg p q u' t' = (sd, pd, qd, 0)) (hl : Fr sd pd qd) : cmpV false false pd qd 1 (2 * T) ≤ 0 := by
  obtain ⟨g1, g2⟩ := gcdI_split hu0 hT
  rw [← e1] at g1
  rw [← e2] at g2
  generalize gcdI u T = g at *
  obtain ⟨n1, n2⟩ := near (t := T) h.d hu
  have hv := dif_val h.n h.d hy.n hy.d (s := s) (s2 := neg) (by rw [hd])
  rw [hd] at hv
  unfold VF Val at hv
  rw [Rat.neg_divInt, Rat.divInt_add_divInt _ _ (by have := h.d; omega) (by have := hy.d; omega)] at hv
  have hqt : 0 < q * t' := Int.mul_pos h.d hy.d
  have hc := (Rat.divInt_eq_divInt_iff (by have := hl.d; show qd ≠ 0; omega) (by omega)).1 hv
  have hc : sv sd pd * (q * t') = (sv s p * t' + -sv neg u' * q) * qd := hc
  -- N is the difference of the products, but for its sign
  obtain ⟨Nn, hN⟩ : ∃ x, x = p * t' - u' * q := ⟨_, rfl⟩
  have hN2 : p * T - u * q = Nn * g := by
    rw [hN, ← g1, ← g2, Int.sub_mul, ← Int.mul_assoc, Int.mul_assoc u' g q, Int.mul_assoc u' q g, Int.mul_comm g q]
  have hpos : 0 ≤ pd * (q * t') := Int.mul_nonneg hl.n (Int.le_of_lt hqt)
  have habs : pd * (q * t') = Nn * qd ∨ pd * (q * t') = -(Nn * qd) := by
    have e3 : sv s p * t' + -sv neg u' * q = Nn ∨ sv s p * t' + -sv neg u' * q = -Nn := by
      have e4 : sv neg u' = sv s u' := by
        rcases hn with h0 | h0
        · rw [h0]; cases neg <;> cases s <;> rfl
        · rw [h0]
      rw [e4, hN]
      cases s
      · left
        show p * t' + -u' * q = p * t' - u' * q
        rw [Int.neg_mul]; omega
      · right
        show -p * t' + - -u' * q = -(p * t' - u' * q)
        rw [Int.neg_mul, Int.neg_neg]; omega
    rcases e3 with e3 | e3
    · rw [e3] at hc
      cases sd
      · exact .inl hc
      · have hc : -pd * (q * t') = Nn * qd := hc
        rw [Int.neg_mul] at hc
        right; omega
    · rw [e3, Int.neg_mul] at hc
      cases sd
      · exact .inr hc
      · have hc : -pd * (q * t') = -(Nn * qd) := hc
        rw [Int.neg_mul] at hc
        left; omega
  rw [hN2] at n1 n2
  have hg : 0 < g := by
    rcases Int.lt_trichotomy g 0 with c | c | c
    · have := Int.mul_neg_of_pos_of_neg hy.d c; omega
    · rw [c, Int.mul_zero] at g2; omega
    · exact c
  have key : pd * (2 * T) * (q * t') ≤ qd * (q * t') := by
    have hqd := hl.d
    have e5 : pd * (2 * T) * (q * t') = pd * (q * t') * (2 * T) := by rw [Int.mul_assoc, Int.mul_comm (2 * T), ← Int.mul_assoc]
    have e6 : ∀ x : Int, x * qd * (2 * T) = 2 * (x * g) * (t' * qd) := fun x => by
      rw [← g2]; simp only [Int.mul_assoc, Int.mul_comm, Int.mul_left_comm]
    have hq2 : 0 ≤ t' * qd := Int.mul_nonneg (Int.le_of_lt hy.d) (Int.le_of_lt hqd)
    have e7 : qd * (q * t') = q * (t' * qd) := by simp only [Int.mul_comm, Int.mul_left_comm]
    rw [e5, e7]
    rcases habs with c | c
    · rw [c, e6]
      exact Int.mul_le_mul_of_nonneg_right n2 hq2
    · rw [c, ← Int.neg_mul, e6]
      refine Int.mul_le_mul_of_nonneg_right ?_ hq2
      rw [Int.neg_mul]; omega
  have fin : pd * (2 * T) ≤ qd := Int.le_of_mul_le_mul_right key hqt
  unfold cmpV
  rw [if_neg (by simp), if_neg (by simp)]
  exact sgn_le (by omega)
theorem rnew_num (n c m d : Nat) (x y : Int) (A B : Option Addr) (W : World) (hx : NumAt W (.slice A n c) x) (hy : NumAt W (.slice B m d) y) (h0 : 0 < y) :
    Calls Tryz.prog 33 #[.agg #[.slice A n c], .agg #[.slice B m d]] W (FrE (low false x y) W) := by
  obtain ⟨a1, a2, a3, a4, a5, a6, a7, a8⟩ := num_in hx
  obtain ⟨b1, b2, b3, b4, b5, b6, b7, b8⟩ := num_in hy
  have h := rnew_any (digs x) (digs y) n c m d A B W a1 b1 a2 b2 a4 b4 a5 b5
  have e : newR (digs x) (digs y) = low false x y := by
    unfold newR low
    rw [if_neg (fun h => h ⟨a6, b6⟩), if_neg (by rw [b7]; omega), a7, b7]
    rfl
  rwa [e] at h
set_option maxHeartbeats 16000000 in
theorem lawrnd_any (a b k : Int) (W : World) (ha : -32768 ≤ a) (ha2 : a ≤ 32767) (hb : 0 ≤ b) (hb2 : b ≤ 255) (hk0 : 0 ≤ k) (hk1 : k ≤ 255) (hT : Tab W) (hC : Cutl W) :
    Calls Tryz.prog 8 #[.agg #[.int .i16 a, .int .u8 b], .int .u8 k] W fun e w' => e = .returned (.bool true) ∧ Below W.heap.size W w' := by
  obtain ⟨kk, rfl⟩ := Int.eq_ofNat_of_zero_le hk0
  obtain ⟨W0, hW0⟩ : ∃ x, x = W.alloc (.cells #[.int .i16 a, .int .u8 b] 37) := ⟨_, rfl⟩
  have hr : W0.heap[W.heap.size]? = some (.cells #[.int .i16 a, .int .u8 b] 37 (0, 0)) := by rw [hW0]; exact heap_alloc_new W _
  have B0 := Lib.hid (show Below W.heap.size W W0 by rw [hW0]; exact one_new)
  have HC0 := Lib.hid (show W0.cell? ⟨W.heap.size, 0, none⟩ = some (.int .i16 a) ∧ W0.cell? ⟨W.heap.size, 1, none⟩ = some (.int .u8 b) ∧ W.heap.size < W0.heap.size from ⟨by rw [cell_of_row _ _ 0 _ _ _ hr]; rfl, by rw [cell_of_row _ _ 1 _ _ _ hr]; rfl, lt_of_block hr⟩)
  have HT := Lib.hid hT
  have HC := Lib.hid hC
  have HW0 := Lib.hid hW0
  clear hT hC hr hW0
  by_cases h12 : 12 < kk
  · have g12 : decide ((12 : Int) < (kk : Int)) = true := decide_eq_true (by omega)
    go_enter Tryz.func8, Tryz.ntmps8
    go_upto_region 1 with fail
    rw [← HW0.out]
    go_wp2_with fail
    refine (awake_any _ (HT.out.below B0.out) (HC.out.below B0.out)).mono ?_
    rintro e w1 ⟨rfl, b1⟩
    have B1 := Lib.hid (btwo B0.out b1)
    clear b1
    go_wp2_with fail
    refine (awake_any _ (HT.out.below B1.out) (HC.out.below B1.out)).mono ?_
    rintro e w2 ⟨rfl, b2⟩
    go_wp2_with fail
    go_ret
    exact ⟨rfl, btwo B1.out b2⟩
  · have g12 : decide ((12 : Int) < (kk : Int)) = false := decide_eq_false (by omega)
    have hk12 : kk ≤ 12 := by omega
    go_enter Tryz.func8, Tryz.ntmps8
    go_upto_region 1 with fail
    rw [← HW0.out]
    clear HW0
    go_wp2_with fail
    refine (awake_any _ (HT.out.below B0.out) (HC.out.below B0.out)).mono ?_
    rintro e w1 ⟨rfl, b1⟩
    have B1 := Lib.hid (btwo B0.out b1)
    obtain ⟨c0, c1, c2⟩ := HC0.out
    have c0 := (b1.cell (p := ⟨W.heap.size, 0, none⟩) c2).trans c0
    have c1 := (b1.cell (p := ⟨W.heap.size, 1, none⟩) c2).trans c1
    clear b1 c2
    go_wp2_with fail
    refine (rmade2_any a b _ ha ha2 hb hb2).mono ?_
    rintro e w2 ⟨s, p, q, Ax, cx, kx, Bx, dx, lx, rfl, n2, m2, hF, hpq, b2⟩
    clear c0 c1 HC0
    have HF := Lib.hid hF
    have HPQ := Lib.hid hpq
    have U2 := Lib.hid (((((BoxF.start W).go B1.out).go b2).num m2).num n2)
    have V2 := Lib.hid (U2.out.new s Ax kx cx Bx lx dx)
    have DX := (U2.out.2.2).size
    obtain ⟨u, hu, hu1, hu2, hu3⟩ := rnd_small hk12 hF.n hpq.1 hF.d hpq.2
    clear hF hpq n2 m2 b2
    obtain ⟨T, hTT⟩ : ∃ T : Int, T = 10 ^ kk := ⟨_, rfl⟩
    obtain ⟨t1, t2⟩ := pow_in hk12
    have HR0 := Lib.hid (text_run kk s u hk12 hu2 hu3)
    have HH0 := Lib.hid (text_head kk s u)
    obtain ⟨tx, htx⟩ : ∃ x, x = sgnB s u (pntB kk (padB kk (fmtB u))) := ⟨_, rfl⟩
    have HD := Lib.hid (show decV' kk s (rndR (2 * 10 ^ kk) p q) = (tx, 0) by rw [hu, htx]; unfold decV'; rw [if_pos rfl])
    rw [← htx, ← hTT] at HR0
    rw [← htx] at HH0
    have hsz2 : tx.size ≤ 1000 := by rw [htx]; exact text_size hk12 (u_len hu3)
    have HRUN := Lib.hid HR0.out
    obtain ⟨c9, l9, hcl, hc9⟩ := HH0.out
    rw [← hTT] at t1 t2 hu1
    have HU1 := Lib.hid hu1
    clear HR0 HH0 hu hu1 htx hTT
    have hB : tx.data.toList.length = tx.size := by rw [Array.length_toList]; rfl
    have hsz : 0 < tx.size := by rw [← hB, hcl]; simp
    obtain ⟨neg, hneg⟩ : ∃ x : Bool, x = (s && !decide (u = 0)) := ⟨_, rfl⟩
    have h0 : tx.data.toList.getD 0 0 = c9 := by rw [hcl]; rfl
    have hi0 : ((tx[0].toNat : Nat) : Int) = (c9.toNat : Int) := by
      have : tx.data.toList.getD 0 0 = tx[0] := by rw [List.getD_eq_getElem?_getD, List.getElem?_eq_getElem (by rw [hB]; exact hsz)]; rfl
      rw [← this, h0]
    have g45 : (((tx[0].toNat : Nat) : Int) == 45) = neg := by
      rw [hi0, hneg, Bool.eq_iff_iff]
      simp only [beq_iff_eq, Bool.and_eq_true, Bool.not_eq_true', decide_eq_false_iff_not]
      rw [← hc9]
      constructor
      · intro e; exact UInt8.toNat_inj.1 (by show c9.toNat = 45; omega)
      · rintro rfl; rfl
    have ge1 : (!tx.toList.isEmpty) = true := by rw [Lib.toList_data, hcl]; rfl
    have ge2 : ¬ tx.toList = [] := by rw [Lib.toList_data, hcl]; simp
    have HNEG := Lib.hid hneg
    have HBL := Lib.hid hB
    clear hcl hc9 h0 hi0 hneg hB
    have HDC := Lib.hid (fun w (hx : NumAt w (.slice Ax kx cx) p) (hy : NumAt w (.slice Bx lx dx) q) (hT : Tab w) => show Calls Tryz.prog 30 #[.agg #[.bool s, .slice Ax kx cx, .slice Bx lx dx], .int .i64 (kk : Int)] w (DecP (tx, 0) w) by rw [← HD.out]; exact fdec_num kk s kx cx lx dx p q Ax Bx w (by omega) hx hy ⟨HF.out.d, HF.out.g, HF.out.z⟩ hT)
    obtain ⟨x0, x1, x2, x3⟩ := V2.out.box (.head _)
    go_wp2_with fail
    refine (HDC.out _ (V2.out.at (.head _)) (V2.out.at (.tail _ (.head _))) (HT.out.below V2.out.2.2)).mono ?_
    rintro e w3 ⟨rfl, b3⟩
    clear x0 x1 x2 x3 HDC HD
    have V3 := Lib.hid (V2.out.go b3)
    clear b3
    have kc := fun (w : World) => Lib.run_convert_string_bytes (P := Tryz.prog) w 9 50 5 tx Tryz.underlying9 Tryz.underlying50 Tryz.underlying5
    go_wp2_with fail
    clear kc g45 ge1 ge2
    obtain ⟨w4, hw4⟩ : ∃ x, x = Lib.bytesWorld w3 5 tx := ⟨_, rfl⟩
    have HCELL := Lib.hid (fun j (hj : j < tx.size) => show w4.cell? ⟨w3.heap.size, j, none⟩ = some (.int .u8 ((tx.data.toList.getD j 0).toNat : Int)) by rw [hw4]; exact Lib.bytesWorld_cell w3 5 tx j hj)
    have V4 := Lib.hid (V3.out.go (show Below w3.heap.size w3 w4 by rw [hw4]; exact bytes_below w3 _ tx))
    rw [← hw4]
    clear hw4
    have hszm : (tx.size : Int) ≤ 9223372036854775807 := by omega
    go_loop [9, 10, 11, 55] (fun nv dv bv iv => ∃ (i : Nat) (x y : Int) (bh : Bool), nv = .int .i64 x ∧ dv = .int .i64 y ∧ bv = .bool bh ∧ iv = .int .i64 (i : Int) ∧ i ≤ tx.size ∧ 0 ≤ x ∧ x ≤ 100000000000000000 ∧ 0 ≤ y ∧ y ≤ 10000000000000 ∧ Hid (runB i (tx.data.toList.drop i) (x, y, bh) = some (u, T, decide (0 < kk)))) (fun _ _ _ iv => tx.size - (intOf iv).toNat)
    case atStart => exact ⟨0, 0, 1, false, rfl, rfl, rfl, rfl, Nat.zero_le _, by omega, by omega, by omega, by omega, HRUN⟩
    case round =>
      obtain ⟨i, x, y, bh, rfl, rfl, rfl, rfl, hi, gx0, gx1, gy0, gy1, HR⟩ := hrel
      by_cases hlt : i < tx.size
      · obtain ⟨c, hc⟩ : ∃ c, c = tx.data.toList.getD i 0 := ⟨_, rfl⟩
        have hcell := HCELL.out i hlt
        rw [← hc] at hcell
        have hdr : tx.data.toList.drop i = c :: tx.data.toList.drop (i + 1) := by
          rw [List.drop_eq_getElem_cons (by rw [HBL.out]; exact hlt), hc, List.getD_eq_getElem?_getD, List.getElem?_eq_getElem (by rw [HBL.out]; exact hlt)]
          rfl
        have hrun := HR.out
        rw [hdr, runB_cons] at hrun
        obtain ⟨v, hv⟩ : ∃ v : Int, v = (c.toNat : Int) := ⟨_, rfl⟩
        have hv0 : 0 ≤ v := by omega
        have hv1 : v ≤ 255 := by have := c.toNat_lt; omega
        rw [← hv] at hcell
        have hd : decide ((i : Int) < (tx.size : Int)) = true := decide_eq_true (by omega)
        have HV := Lib.hid hv
        clear hc hdr HR
        by_cases hdig : isd c = true
        · have hdg := of_decide_eq_true hdig
          have v1 : decide ((48 : Int) ≤ v) = true := decide_eq_true (by omega)
          have v2 : decide (v ≤ (57 : Int)) = true := decide_eq_true (by omega)
          have v3 : 48 ≤ v := by omega
          have v4 : v ≤ 57 := by omega
          have hdc : dch c = v - 48 := by unfold dch; omega
          unfold rstep at hrun
          rw [if_pos hdig, hdc] at hrun
          by_cases hok : x * 10 + (v - 48) ≤ 100000000000000000 ∧ (if bh = true then y * 10 else y) ≤ 10000000000000
          · rw [if_pos hok, Option.bind_some] at hrun
            have HRN := Lib.hid hrun
            obtain ⟨ok1, ok2⟩ := hok
            clear hrun hdc hdig hdg hv
            cases bh with
            | true =>
              have ok2 : y * 10 ≤ 10000000000000 := ok2
              have vb : decide ((100000000000000000 : Int) < 10 * x + v - 48) = false := decide_eq_false (by omega)
              go_wp2_with fail
              go_round
              case rel => exact ⟨i + 1, x * 10 + (v - 48), y * 10, true, by rw [show 10 * x + v - 48 = x * 10 + (v - 48) by omega], rfl, rfl, by go_num, by omega, by omega, by omega, by omega, by omega, HRN⟩
              case measure => simp [intOf]; omega
            | false =>
              have vb : decide ((100000000000000000 : Int) < 10 * x + v - 48) = false := decide_eq_false (by omega)
              go_wp2_with fail
              go_round
              case rel => exact ⟨i + 1, x * 10 + (v - 48), y, false, by rw [show 10 * x + v - 48 = x * 10 + (v - 48) by omega], rfl, rfl, by go_num, by omega, by omega, by omega, by omega, by omega, HRN⟩
              case measure => simp [intOf]; omega
          · rw [if_neg hok] at hrun
            exact absurd hrun (by simp)
        · unfold rstep at hrun
          rw [if_neg hdig] at hrun
          have hnd : ¬ (48 ≤ v ∧ v ≤ 57) := fun h => hdig (decide_eq_true (by omega))
          by_cases hpt : c = 46 ∧ bh = false
          · rw [if_pos hpt, if_pos (by omega), Option.bind_some] at hrun
            have HRN := Lib.hid hrun
            obtain ⟨rfl, rfl⟩ := hpt
            have hv46 : v = 46 := by rw [hv]; rfl
            subst hv46
            have vb : decide ((100000000000000000 : Int) < x) = false := decide_eq_false (by omega)
            clear hrun hdig hnd hv
            go_wp2_with fail
            go_round
            case rel => exact ⟨i + 1, x, y, true, rfl, rfl, rfl, by go_num, by omega, by omega, by omega, by omega, by omega, HRN⟩
            case measure => simp [intOf]; omega
          · rw [if_neg hpt] at hrun
            by_cases hmi : c = 45 ∧ i = 0
            · rw [if_pos hmi, if_pos (by omega), Option.bind_some] at hrun
              have HRN := Lib.hid hrun
              obtain ⟨rfl, rfl⟩ := hmi
              have hv45 : v = 45 := by rw [hv]; rfl
              subst hv45
              have vb : decide ((100000000000000000 : Int) < x) = false := decide_eq_false (by omega)
              clear hrun hdig hnd hv hpt
              go_wp2_with fail
              go_round
              case rel => exact ⟨1, x, y, bh, rfl, rfl, rfl, by go_num, by omega, by omega, by omega, by omega, by omega, HRN⟩
              case measure => simp [intOf]; omega
            · rw [if_neg hmi] at hrun
              exact absurd hrun (by simp)
      · obtain rfl : i = tx.size := by omega
        have hd : decide ((tx.size : Int) < (tx.size : Int)) = false := decide_eq_false (by omega)
        have hfin := HR.out
        rw [List.drop_of_length_le (by rw [HBL.out]; omega)] at hfin
        have hfin : some (x, y, bh) = some (u, T, decide (0 < kk)) := hfin
        injection hfin with hfin
        have e1 : u = x := (congrArg (fun r => r.1) hfin).symm
        have e2 : T = y := (congrArg (fun r => r.2.1) hfin).symm
        subst e1
        subst e2
        clear hfin HR hi HCELL HRUN HBL
        obtain ⟨⟨sy, u', t', ey⟩, hlow⟩ : ∃ r, r = low false u T := ⟨_, rfl⟩
        have e1 : u' = u / gcdI u T := congrArg (fun r => r.2.1) hlow
        have e2 : t' = T / gcdI u T := congrArg (fun r => r.2.2.1) hlow
        have e3 : ey = 0 := congrArg (fun r => r.2.2.2) hlow
        subst e3
        have hy0 : Fr sy u' t' := (show GoodF (sy, u', t', 0) by rw [hlow]; exact low_good gx0 (by omega)).fr rfl
        have hg := (gcdI_split (n := u) (d := T) gx0 (by omega)).1
        rw [← e1] at hg
        have hy : Fr neg u' t' := ⟨hy0.n, hy0.d, hy0.g, fun e => by
          have hn := HNEG.out
          rw [e] at hn
          have h1 : ¬ u = 0 := by
            intro h0
            rw [decide_eq_true h0] at hn
            simp at hn
          have h2 := hy0.n
          have h3 : ¬ u' = 0 := by intro h0; rw [h0, Int.zero_mul] at hg; omega
          omega⟩
        have hn9 : u' = 0 ∨ neg = s := by
          by_cases h0 : u = 0
          · left; rw [e1, h0, Int.zero_ediv]
          · right; rw [HNEG.out, decide_eq_false h0]; simp
        have hpw2 : (1000000 : Int) < pw 2 := by simp [pw]
        have hpw6 : (1000000000000000000 : Int) < pw 6 := by simp [pw]
        have bx := HF.out
        have z1 : Sz 6 neg u' t' := ⟨hy, by have := Int.ediv_le_self (gcdI u T) gx0; omega, by have := Int.ediv_le_self (gcdI u T) (show 0 ≤ T by omega); omega⟩
        obtain ⟨sd, pd, qd, hdif, zd, _⟩ := dif_small (N := 2) (M := 6) (⟨HF.out, by have := HPQ.out.1; omega, by have := HPQ.out.2; omega⟩ : Sz 2 s p q) z1 (by omega)
        have hnear := near_cmp HF.out hy (by omega) HU1.out gx0 e1 e2 hn9 hdif zd.1
        have hfd : Fr false pd qd := ⟨zd.1.n, zd.1.d, zd.1.g, by simp⟩
        have hhalf : ofR 1 (2 * T) = (false, 1, 2 * T, 0) := by
          unfold ofR
          rw [if_neg (by omega), if_neg (by omega)]
          have m1 : max (1 : Int) (-1) = 1 := by omega
          have m2 : max (2 * T) (-(2 * T)) = 2 * T := by omega
          have g1 : gcdI 1 (2 * T) = 1 := by unfold gcdI; simp
          rw [m1, m2, g1, Int.ediv_one, Int.ediv_one, decide_eq_false (show ¬ (1 : Int) < 0 by omega), decide_eq_false (show ¬ 2 * T < 0 by omega)]
          rfl
        have hfh : Fr false 1 (2 * T) := ⟨by omega, by omega, by unfold gcdI; simp, by simp⟩
        have HNW := Lib.hid (fun n c m d A B w hx hy => show Calls Tryz.prog 33 #[.agg #[.slice A n c], .agg #[.slice B m d]] w (FrE (sy, u', t', 0) w) by rw [hlow]; exact rnew_num n c m d u T A B w hx hy (by omega))
        have HSB := Lib.hid (fun n2 c2 m2 d2 A2 B2 w hp hq hr ht => show Calls Tryz.prog 15 #[.agg #[.bool s, .slice Ax kx cx, .slice Bx lx dx], .agg #[.bool neg, .slice A2 n2 c2, .slice B2 m2 d2]] w (FrE (sd, pd, qd, 0) w) by rw [← hdif]; exact fsub_num s neg kx cx lx dx n2 c2 m2 d2 p q u' t' Ax Bx A2 B2 w hp hq hr ht HF.out hy)
        have HHF := Lib.hid (fun w => show Calls Tryz.prog 34 #[.int .i64 1, .int .i64 (2 * T)] w (FrE (false, 1, 2 * T, 0) w) by rw [← hhalf]; exact rof3_any 1 (2 * T) w)
        obtain ⟨cv, hcv⟩ : ∃ x, x = cmpV false false pd qd 1 (2 * T) := ⟨_, rfl⟩
        have HCM := Lib.hid (fun n c m d n2 c2 m2 d2 A B A2 B2 w hp hq hr ht => show Calls Tryz.prog 23 #[.agg #[.bool false, .slice A n c, .slice B m d], .agg #[.bool false, .slice A2 n2 c2, .slice B2 m2 d2]] w (fun e w' => e = .returned (.int .i64 cv) ∧ Below w.heap.size w w') by rw [hcv]; exact fcmp_num false false n c m d n2 c2 m2 d2 pd qd 1 (2 * T) A B A2 B2 w hp hq hr ht hfd hfh)
        have gcv : decide (cv ≤ 0) = true := decide_eq_true (by rw [hcv]; exact hnear)
        have mx1 : max (-u) u = u := by omega
        have mx2 : max u (-u) = u := by omega
        have mx3 : max (-u) (- -u) = u := by omega
        have HUP := Lib.hid (show neg = true → 0 < u by
          intro e
          have hn := HNEG.out
          rw [e] at hn
          by_cases h0 : u = 0
          · rw [decide_eq_true h0] at hn; simp at hn
          · omega)
        clear hlow e1 e2 hy0 hg hy hn9 hpw2 hpw6 bx z1 hdif zd hnear hfd hhalf hfh hcv HNEG
        cases neg with
        | true =>
          have up := HUP.out rfl
          have gl : decide (-u < 0) = true := decide_eq_true (by omega)
          go_wp2_with fail
          refine (rof_num u _ gx0 (by omega)).mono ?_
          rintro e w5 ⟨An, cn, kn, rfl, n5, b5⟩
          have V5 := Lib.hid (((V4.out.go b5).num n5).go (one_new (o := .cells #[.slice An kn cn] 24)))
          clear n5 b5
          go_wp2_with fail
          refine (rof_num T _ (by omega) (by omega)).mono ?_
          rintro e w6 ⟨Ad, cd, kd, rfl, n6, b6⟩
          obtain ⟨cn0, cn1, _⟩ := cell_new b6
          have V6 := Lib.hid (((V5.out.go b6).num n6).go (one_new (o := .cells #[.slice Ad kd cd] 24)))
          clear n6 b6
          go_wp2_with fail
          refine (HNW.out kn cn kd cd An Ad _ (V6.out.at (.tail _ (.head _))) (V6.out.at (.head _))).mono ?_
          rintro e w7 ⟨Ay, cy, ky, Bz, dz, lz, rfl, n7, m7, b7⟩
          clear cn0 cn1
          have U7 := Lib.hid (((V6.out.go b7).num m7).num n7)
          clear n7 m7 b7
          have V7 := Lib.hid (U7.out.new sy Ay ky cy Bz lz dz)
          have D7 := (U7.out.lt (.head _)).2
          obtain ⟨wy, hwy⟩ : ∃ x, x = w7.alloc (.cells #[.bool sy, .slice Ay ky cy, .slice Bz lz dz] 26) := ⟨_, rfl⟩
          rw [← hwy] at V7
          have V8 := Lib.hid (V7.out.set0 (.head _) true [(w7.heap.size, ⟨true, Ay, ky, cy, Bz, lz, dz⟩), (w2.heap.size, ⟨s, Ax, kx, cx, Bx, lx, dx⟩)] (List.forall_mem_cons.2 ⟨.inl rfl, List.forall_mem_cons.2 ⟨.inr ⟨(.tail _ (.head _)), by show ¬ w2.heap.size = w7.heap.size; omega⟩, fun _ h => by simp at h⟩⟩))
          obtain ⟨y0, y1, y2, y3⟩ := V7.out.box (.head _)
          obtain ⟨q0, q1, q2⟩ := V7.out.open (.head _)
          obtain ⟨z0, z1, z2, z3⟩ := V8.out.box (.head _)
          obtain ⟨x0, x1, x2, x3⟩ := V8.out.box (.tail _ (.head _))
          have HWY := Lib.hid hwy
          clear hwy
          go_upto_region 29 with fail
          rw [← HWY.out]
          clear HWY
          go_wp2_with fail
          refine (HSB.out ky cy lz dz Ay Bz _ (V8.out.at (.tail _ (.tail _ (.tail _ (.tail _ (.head _)))))) (V8.out.at (.tail _ (.tail _ (.tail _ (.tail _ (.tail _ (.head _))))))) (V8.out.at (.head _)) (V8.out.at (.tail _ (.head _)))).mono ?_
          rintro e w9 ⟨Af, cf, kf, Bg, dg, lg, rfl, n9, m9, b9⟩
          clear y0 y1 y2 y3 q0 q1 q2 z0 z1 z2 z3 x0 x1 x2 x3
          have U9 := Lib.hid (((V8.out.go b9).num m9).num n9)
          clear n9 m9 b9
          have V9 := Lib.hid (U9.out.new sd Af kf cf Bg lg dg)
          obtain ⟨wf, hwf⟩ : ∃ x, x = w9.alloc (.cells #[.bool sd, .slice Af kf cf, .slice Bg lg dg] 26) := ⟨_, rfl⟩
          rw [← hwf] at V9
          have V10 := Lib.hid (V9.out.set0 (.head _) false [(w9.heap.size, ⟨false, Af, kf, cf, Bg, lg, dg⟩)] (List.forall_mem_cons.2 ⟨.inl rfl, fun _ h => by simp at h⟩))
          obtain ⟨y0, y1, y2, y3⟩ := V9.out.box (.head _)
          obtain ⟨q0, q1, q2⟩ := V9.out.open (.head _)
          have HWF := Lib.hid hwf
          clear hwf
          go_upto_region 31 with fail
          rw [← HWF.out]
          clear HWF
          go_wp2_with fail
          refine (HHF.out _).mono ?_
          rintro e w10 ⟨Ah, ch, kh, Bi, di, li, rfl, n10, m10, b10⟩
          clear y0 y1 y2 y3 q0 q1 q2
          have U10 := Lib.hid (((V10.out.go b10).num m10).num n10)
          clear n10 m10 b10
          have V11 := Lib.hid (U10.out.new false Ah kh ch Bi li di)
          obtain ⟨y0, y1, y2, y3⟩ := U10.out.box (.head _)
          go_wp2_with fail
          refine (HCM.out kf cf lg dg kh ch li di Af Bg Ah Bi _ (V11.out.at (.tail _ (.tail _ (.head _)))) (V11.out.at (.tail _ (.tail _ (.tail _ (.head _))))) (V11.out.at (.head _)) (V11.out.at (.tail _ (.head _)))).mono ?_
          rintro e w11 ⟨rfl, b11⟩
          go_wp2_with fail
          go_ret
          exact ⟨rfl, (V11.out.go b11).2.2⟩
        | false =>
          have gl : decide (u < 0) = false := decide_eq_false (by omega)
          go_wp2_with fail
          refine (rof_num u _ gx0 (by omega)).mono ?_
          rintro e w5 ⟨An, cn, kn, rfl, n5, b5⟩
          have V5 := Lib.hid (((V4.out.go b5).num n5).go (one_new (o := .cells #[.slice An kn cn] 24)))
          clear n5 b5
          go_wp2_with fail
          refine (rof_num T _ (by omega) (by omega)).mono ?_
          rintro e w6 ⟨Ad, cd, kd, rfl, n6, b6⟩
          obtain ⟨cn0, cn1, _⟩ := cell_new b6
          have V6 := Lib.hid (((V5.out.go b6).num n6).go (one_new (o := .cells #[.slice Ad kd cd] 24)))
          clear n6 b6
          go_wp2_with fail
          refine (HNW.out kn cn kd cd An Ad _ (V6.out.at (.tail _ (.head _))) (V6.out.at (.head _))).mono ?_
          rintro e w7 ⟨Ay, cy, ky, Bz, dz, lz, rfl, n7, m7, b7⟩
          clear cn0 cn1
          have U7 := Lib.hid (((V6.out.go b7).num m7).num n7)
          clear n7 m7 b7
          have V7 := Lib.hid (U7.out.new sy Ay ky cy Bz lz dz)
          have D7 := (U7.out.lt (.head _)).2
          obtain ⟨wy, hwy⟩ : ∃ x, x = w7.alloc (.cells #[.bool sy, .slice Ay ky cy, .slice Bz lz dz] 26) := ⟨_, rfl⟩
          rw [← hwy] at V7
          have V8 := Lib.hid (V7.out.set0 (.head _) false [(w7.heap.size, ⟨false, Ay, ky, cy, Bz, lz, dz⟩), (w2.heap.size, ⟨s, Ax, kx, cx, Bx, lx, dx⟩)] (List.forall_mem_cons.2 ⟨.inl rfl, List.forall_mem_cons.2 ⟨.inr ⟨(.tail _ (.head _)), by show ¬ w2.heap.size = w7.heap.size; omega⟩, fun _ h => by simp at h⟩⟩))
          obtain ⟨y0, y1, y2, y3⟩ := V7.out.box (.head _)
          obtain ⟨q0, q1, q2⟩ := V7.out.open (.head _)
          obtain ⟨z0, z1, z2, z3⟩ := V8.out.box (.head _)
          obtain ⟨x0, x1, x2, x3⟩ := V8.out.box (.tail _ (.head _))
          have HWY := Lib.hid hwy
          clear hwy
          go_upto_region 29 with fail
          rw [← HWY.out]
          clear HWY
          go_wp2_with fail
          refine (HSB.out ky cy lz dz Ay Bz _ (V8.out.at (.tail _ (.tail _ (.tail _ (.tail _ (.head _)))))) (V8.out.at (.tail _ (.tail _ (.tail _ (.tail _ (.tail _ (.head _))))))) (V8.out.at (.head _)) (V8.out.at (.tail _ (.head _)))).mono ?_
          rintro e w9 ⟨Af, cf, kf, Bg, dg, lg, rfl, n9, m9, b9⟩
          clear y0 y1 y2 y3 q0 q1 q2 z0 z1 z2 z3 x0 x1 x2 x3
          have U9 := Lib.hid (((V8.out.go b9).num m9).num n9)
          clear n9 m9 b9
          have V9 := Lib.hid (U9.out.new sd Af kf cf Bg lg dg)
          obtain ⟨wf, hwf⟩ : ∃ x, x = w9.alloc (.cells #[.bool sd, .slice Af kf cf, .slice Bg lg dg] 26) := ⟨_, rfl⟩
          rw [← hwf] at V9
          have V10 := Lib.hid (V9.out.set0 (.head _) false [(w9.heap.size, ⟨false, Af, kf, cf, Bg, lg, dg⟩)] (List.forall_mem_cons.2 ⟨.inl rfl, fun _ h => by simp at h⟩))
          obtain ⟨y0, y1, y2, y3⟩ := V9.out.box (.head _)
          obtain ⟨q0, q1, q2⟩ := V9.out.open (.head _)
          have HWF := Lib.hid hwf
          clear hwf
          go_upto_region 31 with fail
          rw [← HWF.out]
          clear HWF
          go_wp2_with fail
          refine (HHF.out _).mono ?_
          rintro e w10 ⟨Ah, ch, kh, Bi, di, li, rfl, n10, m10, b10⟩
          clear y0 y1 y2 y3 q0 q1 q2
          have U10 := Lib.hid (((V10.out.go b10).num m10).num n10)
          clear n10 m10 b10
          have V11 := Lib.hid (U10.out.new false Ah kh ch Bi li di)
          obtain ⟨y0, y1, y2, y3⟩ := U10.out.box (.head _)
          go_wp2_with fail
          refine (HCM.out kf cf lg dg kh ch li di Af Bg Ah Bi _ (V11.out.at (.tail _ (.tail _ (.head _)))) (V11.out.at (.tail _ (.tail _ (.tail _ (.head _))))) (V11.out.at (.head _)) (V11.out.at (.tail _ (.head _)))).mono ?_
          rintro e w11 ⟨rfl, b11⟩
          go_wp2_with fail
          go_ret
          exact ⟨rfl, (V11.out.go b11).2.2⟩
end Go.Proofs.YtbhneddjjgegmaaGreatDoor
