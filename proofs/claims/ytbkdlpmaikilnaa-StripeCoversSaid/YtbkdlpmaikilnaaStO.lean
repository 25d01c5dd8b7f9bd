/- Contracts of package stripe: Objects, Room. -/
import Derived.Test.YtbkdlpmaikilnaaStB
namespace Go.Proofs.Ytbkdlpmaikilnaa
open Go.RowKit

set_option maxHeartbeats 1000000 in
theorem Objects_let (U C O n S s1 r1 x1 u1 p1 m1 t1 : Int) (w : World) (hv : ([n].all far && decide (Lay U C O)) = true) (hn : n ≤ 512) (hS : O * C = S) (hS0 : 1 ≤ S) (hS1 : S ≤ 512) (hU : 1 ≤ U) (hU64 : U ≤ 64) (hr0 : 0 ≤ r1) (hrS : r1 ≤ 512)
    (hs1 : IntKind.i64.wrap (n.tdiv S) = s1) (hr1 : n.tmod S = r1) (hx1 : r1 + U - 1 = x1) (hu1 : x1 / U = u1) (hp1 : s1 * C = p1) (hp0 : 0 ≤ p1) (hp2 : p1 ≤ 4096) (hu0 : 0 ≤ u1) (hu2 : u1 ≤ 512) (hC0 : 1 ≤ C) (hC8 : C ≤ 8) (hm1 : min u1 C = m1) (ht1 : p1 + m1 = t1) :
    Calls Try.prog 19 #[.agg #[.int .i64 U, .int .i64 C, .int .i64 O], .int .i64 n] w fun e w' => e = .returned (.int .i64 t1) ∧ Below w.heap.size w w' := by
  have Hv := Lib.hid hv
  have HS := Lib.hid hS
  have HS0 := Lib.hid (show 0 ≤ S by omega)
  have hUn : U ≠ 0 := by omega
  have hSn : S ≠ 0 := by omega
  clear hv hS
  go_enter Try.func19, Try.ntmps19
  go_wp2_with fail
  refine (valid_any U C O _ 1 1 [n] _ _ (lit1 _ _ _ _ (by simp)) (by simp) (by omega)).mono ?_
  rintro e w1 ⟨rfl, hb1⟩
  rw [Hv.out]
  have HL := Lib.hid (((LayAt.box w U C O 23).more (.cells #[.int .i64 n] 3)).to hb1)
  have Hb1 := Lib.hid (bel2 hb1)
  have HB := Lib.hid (Nat.le_refl w.heap.size)
  clear hb1
  go_wp2_with fail
  go_region_held3 (fun w' => w'.cell? ⟨w.heap.size, 0, none⟩ = some (.int .i64 U) ∧ w'.cell? ⟨w.heap.size, 1, none⟩ = some (.int .i64 C) ∧ w'.cell? ⟨w.heap.size, 2, none⟩ = some (.int .i64 O) ∧ Hid (Below w.heap.size w w')) (first | exact keepL (by assumption) HB (by assumption) | exact startL HL Hb1 | exact startD HL Hb1) (first
    | (go_at_call 25; refine (set_any U C O S _ HS.out HS0.out hS1).mono ?_; rintro e w1 ⟨rfl, hb1⟩))
  obtain ⟨HL2, Hb2⟩ : Hid (LayAt w.heap.size U C O w1) ∧ Hid (Below w.heap.size w w1) := bothL (by assumption)
  clear HL Hb1
  have c0 := HL2.out.c0
  have c1 := HL2.out.c1
  go_wp2_with fail
  all_goals
    go_ret
    exact ⟨ret_int (by omega), Hb2.out⟩

theorem Objects_ok (u c m n : Nat) (w : World) (h : LN u c m) (hn : n ≤ 512) :
    Calls Try.prog 19 #[.agg #[.int .i64 u, .int .i64 c, .int .i64 ((u * m : Nat) : Int)], .int .i64 n] w fun e w' => e = .returned (.int .i64 (objs u c m n)) ∧ Below w.heap.size w w' := by
  have hS := h.S512
  have hu := h.u64
  have hc := h.c8
  have hu1 := h.u1
  have b1 : n / (u * m * c) ≤ n := Nat.div_le_self _ _
  have b2 : n % (u * m * c) < u * m * c := Nat.mod_lt _ h.S1
  have b3 : n / (u * m * c) * c ≤ 512 * 8 := Nat.mul_le_mul (by omega) hc
  have b4 : (n % (u * m * c) + u - 1) / u ≤ n % (u * m * c) + u - 1 := Nat.div_le_self _ _
  have b5 : (n % (u * m * c) + u - 1) / u ≤ 512 := by
    refine Nat.le_trans (Nat.div_le_div_right (c := u) (show _ ≤ 512 * u by have := Nat.mul_le_mul_left 512 hu1; have : n % (u * m * c) + u ≤ 512 * u + 1 - 1 + 0 ∨ u = 0 ∨ True := .inr (.inr trivial); omega)) ?_
    rw [Nat.mul_div_cancel _ hu1]
    exact Nat.le_refl _
  have hv : ([(n : Int)].all far && decide (Lay (u : Int) (c : Int) ((u * m : Nat) : Int))) = true := by
    rw [decide_eq_true h.lay]; simp [far]; omega
  unfold objs
  obtain ⟨z, hz⟩ : ∃ z, z = (n % (u * m * c) + u - 1) / u := ⟨_, rfl⟩
  rw [← hz] at b4 b5 ⊢
  refine Objects_let (u : Int) (c : Int) ((u * m : Nat) : Int) (n : Int) ((u * m * c : Nat) : Int) ((n / (u * m * c) : Nat) : Int) ((n % (u * m * c) : Nat) : Int) ((n % (u * m * c) + u - 1 : Nat) : Int) (z : Int) ((n / (u * m * c) * c : Nat) : Int) ((min z c : Nat) : Int) _ w
    hv (by omega) (by norm_cast) (by have := h.S1; omega) (by omega) (by omega) (by omega) (by omega) (by omega) ?_ ?_ (by omega) (by rw [hz]; norm_cast) (by norm_cast) (by omega) (by omega) (by omega) (by omega) (by have := h.c1; omega) (by omega) (by omega) (by omega)
  · rw [tdivN]; exact wrapN (by omega)
  · rw [tmodN]

set_option maxHeartbeats 1000000 in
theorem Objects_no (U C O n : Int) (w : World) (h : ¬ (Lay U C O ∧ 0 ≤ n ∧ n ≤ 512)) :
    Calls Try.prog 19 #[.agg #[.int .i64 U, .int .i64 C, .int .i64 O], .int .i64 n] w fun e w' => e = .returned (.int .i64 0) ∧ Below w.heap.size w w' := by
  by_cases hv : ([n].all far && decide (Lay U C O)) = true
  · have hn : 512 < n := by
      simp [far] at hv
      exact Int.not_le.1 fun q => h ⟨hv.2, hv.1.1, q⟩
    have Hv := Lib.hid hv
    clear h hv
    go_enter Try.func19, Try.ntmps19
    go_wp2_with fail
    refine (valid_any U C O _ 1 1 [n] _ _ (lit1 _ _ _ _ (by simp)) (by simp) (by omega)).mono ?_
    rintro e w1 ⟨rfl, hb1⟩
    rw [Hv.out]
    have Hb1 := Lib.hid (bel2 hb1)
    clear hb1
    go_wp2_with fail
    go_ret
    exact ⟨rfl, Hb1.out⟩
  · have Hv := Lib.hid (Bool.eq_false_iff.2 hv)
    clear h hv
    go_enter Try.func19, Try.ntmps19
    go_wp2_with fail
    refine (valid_any U C O _ 1 1 [n] _ _ (lit1 _ _ _ _ (by simp)) (by simp) (by omega)).mono ?_
    rintro e w1 ⟨rfl, hb1⟩
    rw [Hv.out]
    have Hb1 := Lib.hid (bel2 hb1)
    clear hb1
    go_wp2_with fail
    go_ret
    exact ⟨rfl, Hb1.out⟩

set_option maxHeartbeats 1000000 in
theorem Room_no (U C O ob n : Int) (w : World) (h : ¬ (Lay U C O ∧ 0 ≤ ob ∧ ob ≤ 1099511627776 ∧ 0 ≤ n ∧ n ≤ 512)) :
    Calls Try.prog 21 #[.agg #[.int .i64 U, .int .i64 C, .int .i64 O], .int .i64 ob, .int .i64 n] w fun e w' => e = .returned (.int .i64 0) ∧ Below w.heap.size w w' := by
  by_cases hv : ([ob, n].all far && decide (Lay U C O)) = true
  · have hn : 512 < n := by
      simp [far] at hv
      exact Int.not_le.1 fun q => h ⟨hv.2, hv.1.1.1, hv.1.1.2, hv.1.2.1, q⟩
    have Hv := Lib.hid hv
    clear h hv
    go_enter Try.func21, Try.ntmps21
    go_wp2_with fail
    refine (valid_any U C O _ 2 2 [ob, n] _ _ (lit2 _ _ _ _ _ (by simp)) (by simp) (by omega)).mono ?_
    rintro e w1 ⟨rfl, hb1⟩
    rw [Hv.out]
    have Hb1 := Lib.hid (bel2 hb1)
    clear hb1
    go_wp2_with fail
    go_ret
    exact ⟨rfl, Hb1.out⟩
  · have Hv := Lib.hid (Bool.eq_false_iff.2 hv)
    clear h hv
    go_enter Try.func21, Try.ntmps21
    go_wp2_with fail
    refine (valid_any U C O _ 2 2 [ob, n] _ _ (lit2 _ _ _ _ _ (by simp)) (by simp) (by omega)).mono ?_
    rintro e w1 ⟨rfl, hb1⟩
    rw [Hv.out]
    have Hb1 := Lib.hid (bel2 hb1)
    clear hb1
    go_wp2_with fail
    go_ret
    exact ⟨rfl, Hb1.out⟩

set_option maxHeartbeats 1000000 in
theorem Room_let (U C O ob n S R q qs d i1 rw rs cl cu e ru m2 t : Int) (w : World) (hv : ([ob, n].all far && decide (Lay U C O)) = true) (hn : n ≤ 512) (hS : O * C = S) (hS0 : 1 ≤ S) (hS1 : S ≤ 512) (hR : U * C = R) (hR0 : 1 ≤ R) (hR1 : R ≤ 512) (hU : 1 ≤ U) (hU64 : U ≤ 64) (hC : 1 ≤ C)
    (hq : IntKind.i64.wrap (ob.tdiv C) = q) (hqs : IntKind.i64.wrap (q * S) = qs) (hd : IntKind.i64.wrap (n - qs) = d) (hi1 : min (max d 0) S = i1) (hrw : IntKind.i64.wrap (i1.tdiv R) = rw) (hrs : i1.tmod R = rs) (hcl : ob.tmod C = cl) (hcu : IntKind.i64.wrap (cl * U) = cu) (he : IntKind.i64.wrap (rs - cu) = e)
    (hru : rw * U = ru) (hru0 : 0 ≤ ru) (hru1 : ru ≤ 32768) (hm2 : min (max e 0) U = m2) (ht : ru + m2 = t) :
    Calls Try.prog 21 #[.agg #[.int .i64 U, .int .i64 C, .int .i64 O], .int .i64 ob, .int .i64 n] w fun e w' => e = .returned (.int .i64 t) ∧ Below w.heap.size w w' := by
  have Hv := Lib.hid hv
  have HS := Lib.hid hS
  have HS0 := Lib.hid (show 0 ≤ S by omega)
  have HR := Lib.hid hR
  have HR0 := Lib.hid (show 0 ≤ R by omega)
  have Hi1 := Lib.hid hi1
  have hUn : U ≠ 0 := by omega
  have hCn : C ≠ 0 := by omega
  have hRn : R ≠ 0 := by omega
  clear hv hS hR hi1
  go_enter Try.func21, Try.ntmps21
  go_wp2_with fail
  refine (valid_any U C O _ 2 2 [ob, n] _ _ (lit2 _ _ _ _ _ (by simp)) (by simp) (by omega)).mono ?_
  rintro e w1 ⟨rfl, hb1⟩
  rw [Hv.out]
  have HL := Lib.hid (((LayAt.box w U C O 23).more (.cells #[.int .i64 ob, .int .i64 n] 3)).to hb1)
  have Hb1 := Lib.hid (bel2 hb1)
  have HB := Lib.hid (Nat.le_refl w.heap.size)
  clear hb1
  go_wp2_with fail
  go_region_held3 (fun w' => w'.cell? ⟨w.heap.size, 0, none⟩ = some (.int .i64 U) ∧ w'.cell? ⟨w.heap.size, 1, none⟩ = some (.int .i64 C) ∧ w'.cell? ⟨w.heap.size, 2, none⟩ = some (.int .i64 O) ∧ Hid (Below w.heap.size w w')) (first | exact keepL (by assumption) HB (by assumption) | exact startL HL Hb1 | exact startD HL Hb1) (first
    | (go_at_call 25; refine (set_any U C O S _ HS.out HS0.out hS1).mono ?_; rintro e w1 ⟨rfl, hb1⟩))
  obtain ⟨HL2, Hb2⟩ : Hid (LayAt w.heap.size U C O w1) ∧ Hid (Below w.heap.size w w1) := bothL (by assumption)
  clear HL Hb1
  go_upto_region 4 with fail
  go_cut [7] (fun s7 wx => s7 = .int .i64 i1 ∧ Hid (LayAt w.heap.size U C O wx) ∧ Hid (Below w.heap.size w wx))
  case first =>
    have c0 := HL2.out.c0
    have c1 := HL2.out.c1
    have c2 := HL2.out.c2
    go_wp2_with (go_at_call 25; refine (set_any U C O S _ HS.out HS0.out hS1).mono ?_; rintro e w3 ⟨rfl, hb3⟩)
    all_goals
      have hii := Hi1.out
      go_meet
      exact ⟨by congr 1; omega, Lib.hid (HL2.out.to hb3), Lib.hid (Hb2.out.trans (hb3.mono Hb2.out.size))⟩
  case rest =>
    obtain ⟨rfl, HL3, Hb3⟩ := hcut
    clear HL2 Hb2
    go_wp2_with fail
    go_region_held3 (fun w' => w'.cell? ⟨w.heap.size, 0, none⟩ = some (.int .i64 U) ∧ w'.cell? ⟨w.heap.size, 1, none⟩ = some (.int .i64 C) ∧ w'.cell? ⟨w.heap.size, 2, none⟩ = some (.int .i64 O) ∧ Hid (Below w.heap.size w w')) (first | exact keepL (by assumption) HB (by assumption) | exact startL HL3 Hb3 | exact startD HL3 Hb3) (first
      | (go_at_call 29; refine (row_any U C O R _ HR.out HR0.out hR1).mono ?_; rintro e w4 ⟨rfl, hb4⟩))
    obtain ⟨HL4, Hb4⟩ : Hid (LayAt w.heap.size U C O w4) ∧ Hid (Below w.heap.size w w4) := bothL (by assumption)
    clear HL3 Hb3
    go_wp2_with fail
    go_region_held3 (fun w' => w'.cell? ⟨w.heap.size, 0, none⟩ = some (.int .i64 U) ∧ w'.cell? ⟨w.heap.size, 1, none⟩ = some (.int .i64 C) ∧ w'.cell? ⟨w.heap.size, 2, none⟩ = some (.int .i64 O) ∧ Hid (Below w.heap.size w w')) (first | exact keepL (by assumption) HB (by assumption) | exact startL HL4 Hb4 | exact startD HL4 Hb4) (fail)
    have c0 := HL4.out.c0
    have c1 := HL4.out.c1
    have Hb5 := Lib.hid Hb4.out.drew
    go_wp2_with fail
    all_goals
      go_ret
      exact ⟨ret_int (by omega), Hb5.out⟩

theorem Room_ok (u c m ob n : Nat) (w : World) (h : LN u c m) (hob : ob ≤ 1099511627776) (hn : n ≤ 512) :
    Calls Try.prog 21 #[.agg #[.int .i64 u, .int .i64 c, .int .i64 ((u * m : Nat) : Int)], .int .i64 ob, .int .i64 n] w fun e w' => e = .returned (.int .i64 (room u c m ob n)) ∧ Below w.heap.size w w' := by
  have hS := h.S512
  have hS1 := h.S1
  have hu := h.u64
  have hu1 := h.u1
  have hc := h.c8
  have hc1 := h.c1
  have hR := h.R512
  have hR1 := h.R1
  have b3 : ob / c ≤ ob := Nat.div_le_self _ _
  have b4 : ob / c * (u * m * c) ≤ ob * 512 := Nat.mul_le_mul b3 hS
  have b5 : ob % c < c := Nat.mod_lt _ h.c1
  have b6 : ob % c * u ≤ 8 * 64 := Nat.mul_le_mul (by omega) hu
  have hv : ([(ob : Int), (n : Int)].all far && decide (Lay (u : Int) (c : Int) ((u * m : Nat) : Int))) = true := by
    rw [decide_eq_true h.lay]; simp [far]; omega
  unfold room
  obtain ⟨i, hi⟩ : ∃ i, i = min (n - ob / c * (u * m * c)) (u * m * c) := ⟨_, rfl⟩
  rw [← hi]
  have hi5 : i ≤ 512 := by omega
  have b7 : i / (u * c) ≤ i := Nat.div_le_self _ _
  have b8 : i / (u * c) * u ≤ 512 * 64 := Nat.mul_le_mul (by omega) hu
  have b9 : i % (u * c) < u * c := Nat.mod_lt _ hR1
  generalize hqs : ob / c * (u * m * c) = qs at hi b4
  generalize hcu : ob % c * u = cu at b6
  generalize hS2 : u * m * c = S at hi hS hS1
  generalize hR2 : u * c = R at b7 b8 b9 hR hR1
  generalize hrw : i / R = rw at b7 b8
  generalize hrs : i % R = rs at b9
  generalize hru : rw * u = ru at b8
  refine Room_let (u : Int) (c : Int) ((u * m : Nat) : Int) (ob : Int) (n : Int) (S : Int) (R : Int) ((ob / c : Nat) : Int) (qs : Int) ((n : Int) - qs) (i : Int) (rw : Int) (rs : Int) ((ob % c : Nat) : Int) (cu : Int) ((rs : Int) - cu) (ru : Int) ((min (rs - cu) u : Nat) : Int) _ w
    hv (by omega) (by rw [← hS2]; norm_cast) (by omega) (by omega) (by rw [← hR2]; norm_cast) (by omega) (by omega) (by omega) (by omega) (by omega) ?_ ?_ ?_ (by omega) ?_ ?_ ?_ ?_ ?_ (by rw [← hru]; norm_cast) (by omega) (by omega) (by omega) (by omega)
  · rw [tdivN]; exact wrapN (by omega)
  · rw [← hqs, ← hS2, ← Int.natCast_mul]; exact wrapN (by rw [hS2] at hqs ⊢; omega)
  · exact IntWalk.i64_in _ (by omega)
  · rw [tdivN, hrw]; exact wrapN (by omega)
  · rw [tmodN, hrs]
  · rw [tmodN]
  · rw [← hcu, ← Int.natCast_mul]; exact wrapN (by omega)
  · exact IntWalk.i64_in _ (by omega)
end Go.Proofs.Ytbkdlpmaikilnaa
