/- Contracts of the document's May, place, Place, Back. -/
import Derived.Test.YtbkdlpmaikilnaaStB
namespace Go.Proofs.Ytbkdlpmaikilnaa
open Go.RowKit

set_option maxHeartbeats 1000000 in
theorem May_any (U C O : Int) (w : World) :
    Calls Try.prog 10 #[.agg #[.int .i64 U, .int .i64 C, .int .i64 O]] w fun e w' => e = .returned (.bool (decide (Lay U C O))) ∧ Below w.heap.size w w' := by
  by_cases h1 : 1 ≤ U
  · by_cases h2 : 1 ≤ C
    · by_cases h3 : C ≤ 8
      · by_cases h4 : U ≤ O
        · by_cases h5 : O ≤ 64
          · by_cases h6 : O % U = 0
            · rw [decide_eq_true (show Lay U C O from ⟨h1, h2, h3, h4, h5, h6⟩)]
              go_enter Try.func10, Try.ntmps10
              go_wp2
              go_ret
              exact ⟨rfl, (Below.refl _ _).alloc (Nat.le_refl _) _⟩
            · rw [decide_eq_false (show ¬ Lay U C O from fun q => h6 q.2.2.2.2.2)]
              go_enter Try.func10, Try.ntmps10
              go_wp2
              go_ret
              exact ⟨by simp [*], (Below.refl _ _).alloc (Nat.le_refl _) _⟩
          · rw [decide_eq_false (show ¬ Lay U C O from fun q => h5 q.2.2.2.2.1)]
            go_enter Try.func10, Try.ntmps10
            go_wp2
            go_ret
            exact ⟨rfl, (Below.refl _ _).alloc (Nat.le_refl _) _⟩
        · rw [decide_eq_false (show ¬ Lay U C O from fun q => h4 q.2.2.2.1)]
          go_enter Try.func10, Try.ntmps10
          go_wp2
          go_ret
          exact ⟨rfl, (Below.refl _ _).alloc (Nat.le_refl _) _⟩
      · rw [decide_eq_false (show ¬ Lay U C O from fun q => h3 q.2.2.1)]
        go_enter Try.func10, Try.ntmps10
        go_wp2
        go_ret
        exact ⟨rfl, (Below.refl _ _).alloc (Nat.le_refl _) _⟩
    · rw [decide_eq_false (show ¬ Lay U C O from fun q => h2 q.2.1)]
      go_enter Try.func10, Try.ntmps10
      go_wp2
      go_ret
      exact ⟨rfl, (Below.refl _ _).alloc (Nat.le_refl _) _⟩
  · rw [decide_eq_false (show ¬ Lay U C O from fun q => h1 q.1)]
    go_enter Try.func10, Try.ntmps10
    go_wp2
    go_ret
    exact ⟨rfl, (Below.refl _ _).alloc (Nat.le_refl _) _⟩

set_option maxHeartbeats 1000000 in
theorem rplace_let (U C O off q1 q2 M r1 s1 o1 o2 o3 k1 k2 k3 k4 : Int) (w : World) (hU : U ≠ 0) (hC : C ≠ 0) (hM : M ≠ 0)
    (hq1 : wrap64 (off.tdiv U) = q1) (hq2 : wrap64 (O.tdiv U) = q2) (hM2 : IntKind.i64.wrap (q2 * C) = M) (hr1 : q1.tmod M = r1) (hs1 : IntKind.i64.wrap (q1.tdiv M) = s1) (ho1 : IntKind.i64.wrap (s1 * C) = o1) (ho2 : r1.tmod C = o2) (ho3 : IntKind.i64.wrap (o1 + o2) = o3)
    (hk1 : IntKind.i64.wrap (r1.tdiv C) = k1) (hk2 : IntKind.i64.wrap (k1 * U) = k2) (hk3 : off.tmod U = k3) (hk4 : IntKind.i64.wrap (k2 + k3) = k4) :
    Calls Try.prog 28 #[.agg #[.int .i64 U, .int .i64 C, .int .i64 O], .int .i64 off] w fun e w' => e = .returned (.tuple #[.int .i64 o3, .int .i64 k4]) ∧ Below w.heap.size w w' := by
  go_enter Try.func28, Try.ntmps28
  go_wp2_with fail
  have HL := Lib.hid (LayAt.box w U C O 23)
  have Hb0 := Lib.hid ((Below.refl w.heap.size w).alloc (Nat.le_refl _) (.cells #[.int .i64 U, .int .i64 C, .int .i64 O] 23))
  have HB := Lib.hid (Nat.le_refl w.heap.size)
  generalize w.alloc (.cells #[.int .i64 U, .int .i64 C, .int .i64 O] 23) = w0 at HL Hb0 ⊢
  go_region_held3 (fun w' => w'.cell? ⟨w.heap.size, 0, none⟩ = some (.int .i64 U) ∧ w'.cell? ⟨w.heap.size, 1, none⟩ = some (.int .i64 C) ∧ w'.cell? ⟨w.heap.size, 2, none⟩ = some (.int .i64 O) ∧ Hid (Below w.heap.size w w')) (first | exact keepL (by assumption) HB (by assumption) | exact startL HL Hb0 | exact startD HL Hb0) (fail)
  go_wp2_with fail
  exact bodyPost_ret (v := .tuple #[.int .i64 o3, .int .i64 k4]) (by simp [results, Try.results28, go_sem]) rfl ⟨rfl, Hb0.out.drew⟩

theorem LN.m64 {u c m : Nat} (h : LN u c m) : m ≤ 64 := Nat.le_trans (Nat.le_mul_of_pos_left m h.u1) h.um
theorem LN.M1 {u c m : Nat} (h : LN u c m) : 1 ≤ m * c := Nat.mul_pos h.m1 h.c1
theorem LN.M512 {u c m : Nat} (h : LN u c m) : m * c ≤ 512 := Nat.mul_le_mul h.m64 h.c8
theorem LN.each {u c m : Nat} (h : LN u c m) : u * m / u = m := Nat.mul_div_cancel_left m h.u1

theorem rplace_any (u c m off : Nat) (w : World) (h : LN u c m) (hoff : off ≤ 576460752303423488) :
    Calls Try.prog 28 #[.agg #[.int .i64 u, .int .i64 c, .int .i64 ((u * m : Nat) : Int)], .int .i64 off] w fun e w' => e = .returned (.tuple #[.int .i64 (pO u c m off), .int .i64 (pK u c m off)]) ∧ Below w.heap.size w w' := by
  have hu := h.u64
  have hc := h.c8
  have hm := h.m64
  have hM := h.M512
  have b1 : off / u ≤ off := Nat.div_le_self _ _
  have b2 : off / u / (m * c) ≤ off / u := Nat.div_le_self _ _
  have b3 : off / u % (m * c) < m * c := Nat.mod_lt _ h.M1
  have b4 : off / u / (m * c) * c ≤ off * 8 := Nat.mul_le_mul (by omega) hc
  have b5 : off / u % (m * c) % c < c := Nat.mod_lt _ h.c1
  have b6 : off / u % (m * c) / c ≤ off / u % (m * c) := Nat.div_le_self _ _
  have b7 : off / u % (m * c) / c * u ≤ 512 * 64 := Nat.mul_le_mul (by omega) hu
  have b8 : off % u < u := Nat.mod_lt _ h.u1
  unfold pO pK
  refine rplace_let (u : Int) (c : Int) ((u * m : Nat) : Int) (off : Int) ((off / u : Nat) : Int) (m : Int) ((m * c : Nat) : Int) ((off / u % (m * c) : Nat) : Int) ((off / u / (m * c) : Nat) : Int) ((off / u / (m * c) * c : Nat) : Int) ((off / u % (m * c) % c : Nat) : Int) _
    ((off / u % (m * c) / c : Nat) : Int) ((off / u % (m * c) / c * u : Nat) : Int) ((off % u : Nat) : Int) _ w (by have := h.u1; omega) (by have := h.c1; omega) (by have := h.M1; omega) ?_ ?_ ?_ ?_ ?_ ?_ ?_ ?_ ?_ ?_ ?_ ?_
  · rw [tdivN]; exact wrap64N (by omega)
  · rw [tdivN, h.each]; exact wrap64N (by omega)
  · rw [← Int.natCast_mul]; exact wrapN (by omega)
  · rw [tmodN]
  · rw [tdivN]; exact wrapN (by omega)
  · rw [← Int.natCast_mul]; exact wrapN (by omega)
  · rw [tmodN]
  · rw [← Int.natCast_add]; exact wrapN (by omega)
  · rw [tdivN]; exact wrapN (by omega)
  · rw [← Int.natCast_mul]; exact wrapN (by omega)
  · rw [tmodN]
  · rw [← Int.natCast_add]; exact wrapN (by omega)

set_option maxHeartbeats 1000000 in
theorem RPlace_let (U C O off q1 q2 M r1 s1 o1 o2 o3 k1 k2 k3 k4 : Int) (w : World) (hL : Lay U C O) (h0 : 0 ≤ off) (hf : off ≤ 1099511627776) (hU : U ≠ 0) (hC : C ≠ 0) (hM : M ≠ 0)
    (hq1 : wrap64 (off.tdiv U) = q1) (hq2 : wrap64 (O.tdiv U) = q2) (hM1 : wrap64 (q2 * C) = M) (hr1 : q1.tmod M = r1) (hs1 : wrap64 (q1.tdiv M) = s1) (ho1 : IntKind.i64.wrap (s1 * C) = o1) (ho2 : r1.tmod C = o2) (ho3 : IntKind.i64.wrap (o1 + o2) = o3)
    (hk1 : IntKind.i64.wrap (r1.tdiv C) = k1) (hk2 : IntKind.i64.wrap (k1 * U) = k2) (hk3 : off.tmod U = k3) (hk4 : IntKind.i64.wrap (k2 + k3) = k4) :
    Calls Try.prog 12 #[.agg #[.int .i64 U, .int .i64 C, .int .i64 O], .int .i64 off] w fun e w' => e = .returned (.tuple #[.int .i64 o3, .int .i64 k4]) ∧ Below w.heap.size w w' := by
  have Hd := Lib.hid (decide_eq_true hL)
  clear hL
  go_enter Try.func12, Try.ntmps12
  go_wp2_with fail
  refine (May_any U C O _).mono ?_
  rintro e w1 ⟨rfl, hb1⟩
  rw [Hd.out]
  have HL := Lib.hid ((LayAt.box w U C O 23).to hb1)
  have c0 := HL.out.c0
  have c1 := HL.out.c1
  have c2 := HL.out.c2
  have Hb1 := Lib.hid (bel1 hb1)
  have HB := Lib.hid (Nat.le_refl w.heap.size)
  clear hb1
  go_wp2_with fail
  go_region_held3 (fun w' => w'.cell? ⟨w.heap.size, 0, none⟩ = some (.int .i64 U) ∧ w'.cell? ⟨w.heap.size, 1, none⟩ = some (.int .i64 C) ∧ w'.cell? ⟨w.heap.size, 2, none⟩ = some (.int .i64 O) ∧ Hid (Below w.heap.size w w')) (first | exact keepL (by assumption) HB (by assumption) | exact startL HL Hb1 | exact startD HL Hb1) (fail)
  go_wp2_with fail
  exact bodyPost_ret (v := .tuple #[.int .i64 o3, .int .i64 k4]) (by simp [results, Try.results12, go_sem]) rfl ⟨rfl, Hb1.out.drew⟩

theorem RPlace_ok (u c m off : Nat) (w : World) (h : LN u c m) (hoff : off ≤ 1099511627776) :
    Calls Try.prog 12 #[.agg #[.int .i64 u, .int .i64 c, .int .i64 ((u * m : Nat) : Int)], .int .i64 off] w fun e w' => e = .returned (.tuple #[.int .i64 (pO u c m off), .int .i64 (pK u c m off)]) ∧ Below w.heap.size w w' := by
  have hu := h.u64
  have hc := h.c8
  have hm := h.m64
  have hM := h.M512
  have b1 : off / u ≤ off := Nat.div_le_self _ _
  have b2 : off / u / (m * c) ≤ off / u := Nat.div_le_self _ _
  have b3 : off / u % (m * c) < m * c := Nat.mod_lt _ h.M1
  have b4 : off / u / (m * c) * c ≤ off * 8 := Nat.mul_le_mul (by omega) hc
  have b5 : off / u % (m * c) % c < c := Nat.mod_lt _ h.c1
  have b6 : off / u % (m * c) / c ≤ off / u % (m * c) := Nat.div_le_self _ _
  have b7 : off / u % (m * c) / c * u ≤ 512 * 64 := Nat.mul_le_mul (by omega) hu
  have b8 : off % u < u := Nat.mod_lt _ h.u1
  unfold pO pK
  refine RPlace_let (u : Int) (c : Int) ((u * m : Nat) : Int) (off : Int) ((off / u : Nat) : Int) (m : Int) ((m * c : Nat) : Int) ((off / u % (m * c) : Nat) : Int) ((off / u / (m * c) : Nat) : Int) ((off / u / (m * c) * c : Nat) : Int) ((off / u % (m * c) % c : Nat) : Int) _
    ((off / u % (m * c) / c : Nat) : Int) ((off / u % (m * c) / c * u : Nat) : Int) ((off % u : Nat) : Int) _ w h.lay (by omega) (by omega) (by have := h.u1; omega) (by have := h.c1; omega) (by have := h.M1; omega) ?_ ?_ ?_ ?_ ?_ ?_ ?_ ?_ ?_ ?_ ?_ ?_
  · rw [tdivN]; exact wrap64N (by omega)
  · rw [tdivN, h.each]; exact wrap64N (by omega)
  · rw [← Int.natCast_mul]; exact wrap64N (by omega)
  · rw [tmodN]
  · rw [tdivN]; exact wrap64N (by omega)
  · rw [← Int.natCast_mul]; exact wrapN (by omega)
  · rw [tmodN]
  · rw [← Int.natCast_add]; exact wrapN (by omega)
  · rw [tdivN]; exact wrapN (by omega)
  · rw [← Int.natCast_mul]; exact wrapN (by omega)
  · rw [tmodN]
  · rw [← Int.natCast_add]; exact wrapN (by omega)

set_option maxHeartbeats 1000000 in
theorem RPlace_no (U C O off : Int) (w : World) (h : ¬ (Lay U C O ∧ 0 ≤ off ∧ off ≤ 1099511627776)) :
    Calls Try.prog 12 #[.agg #[.int .i64 U, .int .i64 C, .int .i64 O], .int .i64 off] w fun e w' => e = .returned (.tuple #[.int .i64 (-1), .int .i64 (-1)]) ∧ Below w.heap.size w w' := by
  by_cases hL : Lay U C O
  · have Hd := Lib.hid (decide_eq_true hL)
    by_cases h0 : 0 ≤ off
    · have h1 : 1099511627776 < off := Int.not_le.1 fun q => h ⟨hL, h0, q⟩
      clear hL h
      go_enter Try.func12, Try.ntmps12
      go_wp2_with fail
      refine (May_any U C O _).mono ?_
      rintro e w1 ⟨rfl, hb1⟩
      rw [Hd.out]
      have Hb1 := Lib.hid (bel1 hb1)
      clear hb1
      go_wp2_with fail
      exact bodyPost_ret (v := .tuple #[.int .i64 (-1), .int .i64 (-1)]) (by simp [results, Try.results12, go_sem]) rfl ⟨rfl, Hb1.out⟩
    · clear hL h
      go_enter Try.func12, Try.ntmps12
      go_wp2_with fail
      refine (May_any U C O _).mono ?_
      rintro e w1 ⟨rfl, hb1⟩
      rw [Hd.out]
      have Hb1 := Lib.hid (bel1 hb1)
      clear hb1
      go_wp2_with fail
      exact bodyPost_ret (v := .tuple #[.int .i64 (-1), .int .i64 (-1)]) (by simp [results, Try.results12, go_sem]) rfl ⟨rfl, Hb1.out⟩
  · have Hd := Lib.hid (decide_eq_false hL)
    clear hL h
    go_enter Try.func12, Try.ntmps12
    go_wp2_with fail
    refine (May_any U C O _).mono ?_
    rintro e w1 ⟨rfl, hb1⟩
    rw [Hd.out]
    have Hb1 := Lib.hid (bel1 hb1)
    clear hb1
    go_wp2_with fail
    exact bodyPost_ret (v := .tuple #[.int .i64 (-1), .int .i64 (-1)]) (by simp [results, Try.results12, go_sem]) rfl ⟨rfl, Hb1.out⟩

end Go.Proofs.Ytbkdlpmaikilnaa
