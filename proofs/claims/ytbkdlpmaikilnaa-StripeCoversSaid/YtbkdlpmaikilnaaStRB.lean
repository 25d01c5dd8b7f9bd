/- Contracts of the document's Back. -/
import Derived.Test.YtbkdlpmaikilnaaStR
namespace Go.Proofs.Ytbkdlpmaikilnaa
open Go.RowKit

theorem LayAt.drewR {b : Nat} {U C O : Int} {w : World} (h : LayAt b U C O w) : LayAt b U C O w.drew := ⟨h.c0, h.c1, h.c2⟩

set_option maxHeartbeats 1000000 in
theorem RBack_let (U C O ob off q1 q2 a1 a2 a3 a4 a5 a6 a7 a8 a9 b1 : Int) (w : World) (hL : Lay U C O) (h0 : 0 ≤ ob) (hf : ob ≤ 1099511627776) (h2 : 0 ≤ off) (h3 : off < O) (hU : U ≠ 0) (hC : C ≠ 0)
    (hq1 : wrap64 (ob.tdiv C) = q1) (hq2 : wrap64 (O.tdiv U) = q2) (ha1 : IntKind.i64.wrap (q1 * q2) = a1) (ha2 : IntKind.i64.wrap (a1 * C) = a2) (ha3 : IntKind.i64.wrap (off.tdiv U) = a3) (ha4 : IntKind.i64.wrap (a3 * C) = a4) (ha5 : IntKind.i64.wrap (a2 + a4) = a5) (ha6 : ob.tmod C = a6) (ha7 : IntKind.i64.wrap (a5 + a6) = a7)
    (ha8 : IntKind.i64.wrap (a7 * U) = a8) (ha9 : off.tmod U = a9) (hb1 : IntKind.i64.wrap (a8 + a9) = b1) :
    Calls Try.prog 15 #[.agg #[.int .i64 U, .int .i64 C, .int .i64 O], .int .i64 ob, .int .i64 off] w fun e w' => e = .returned (.int .i64 b1) ∧ Below w.heap.size w w' := by
  have Hd := Lib.hid (decide_eq_true hL)
  clear hL
  go_enter Try.func15, Try.ntmps15
  go_wp2_with fail
  refine (May_any U C O _).mono ?_
  rintro e w1 ⟨rfl, hbw⟩
  rw [Hd.out]
  have HL := Lib.hid ((LayAt.box w U C O 23).to hbw)
  have c0 := HL.out.c0
  have c1 := HL.out.c1
  have c2 := HL.out.c2
  have Hb1 := Lib.hid (bel1 hbw)
  have HB := Lib.hid (Nat.le_refl w.heap.size)
  clear hbw
  go_wp2_with fail
  go_region_held3 (fun w' => w'.cell? ⟨w.heap.size, 0, none⟩ = some (.int .i64 U) ∧ w'.cell? ⟨w.heap.size, 1, none⟩ = some (.int .i64 C) ∧ w'.cell? ⟨w.heap.size, 2, none⟩ = some (.int .i64 O) ∧ Hid (Below w.heap.size w w')) (first | exact keepL (by assumption) HB (by assumption) | exact startL HL Hb1 | exact startD HL Hb1) (fail)
  go_wp2_with fail
  have HL2 := Lib.hid HL.out.drewR
  have Hb2 := Lib.hid Hb1.out.drew
  go_region_held3 (fun w' => w'.cell? ⟨w.heap.size, 0, none⟩ = some (.int .i64 U) ∧ w'.cell? ⟨w.heap.size, 1, none⟩ = some (.int .i64 C) ∧ w'.cell? ⟨w.heap.size, 2, none⟩ = some (.int .i64 O) ∧ Hid (Below w.heap.size w w')) (first | exact keepL (by assumption) HB (by assumption) | exact startL HL2 Hb2 | exact startD HL2 Hb2) (fail)
  go_wp2_with fail
  go_ret
  exact ⟨rfl, Hb2.out.drew⟩

theorem RBack_ok (u c m ob off : Nat) (w : World) (h : LN u c m) (hob : ob ≤ 1099511627776) (hoff : off < u * m) :
    Calls Try.prog 15 #[.agg #[.int .i64 u, .int .i64 c, .int .i64 ((u * m : Nat) : Int)], .int .i64 ob, .int .i64 off] w fun e w' => e = .returned (.int .i64 (bk u c m ob off)) ∧ Below w.heap.size w w' := by
  have hu := h.u64
  have hum := h.um
  have hc8 := h.c8
  have hm := h.m64
  have b1 : off / u ≤ off := Nat.div_le_self _ _
  have b2 : ob % c < c := Nat.mod_lt _ h.c1
  have b3 : ob / c ≤ ob := Nat.div_le_self _ _
  have b4 : ob / c * m ≤ ob * 64 := Nat.mul_le_mul b3 hm
  have b4a : ob / c * m * c ≤ ob * 64 * 8 := Nat.mul_le_mul b4 hc8
  have b5 : off / u * c ≤ 64 * 8 := Nat.mul_le_mul (by omega) h.c8
  have b6 : (ob / c * m * c + off / u * c + ob % c) * u ≤ (ob * 512 + 520) * 64 := Nat.mul_le_mul (by omega) hu
  have b7 : off % u < u := Nat.mod_lt _ h.u1
  unfold bk
  refine RBack_let (u : Int) (c : Int) ((u * m : Nat) : Int) (ob : Int) (off : Int) ((ob / c : Nat) : Int) (m : Int) ((ob / c * m : Nat) : Int) ((ob / c * m * c : Nat) : Int) ((off / u : Nat) : Int) ((off / u * c : Nat) : Int) ((ob / c * m * c + off / u * c : Nat) : Int) ((ob % c : Nat) : Int) ((ob / c * m * c + off / u * c + ob % c : Nat) : Int)
    (((ob / c * m * c + off / u * c + ob % c) * u : Nat) : Int) ((off % u : Nat) : Int) _ w h.lay (by omega) (by omega) (by omega) (by omega) (by have := h.u1; omega) (by have := h.c1; omega) ?_ ?_ ?_ ?_ ?_ ?_ ?_ ?_ ?_ ?_ ?_ ?_
  · rw [tdivN]; exact wrap64N (by omega)
  · rw [tdivN, h.each]; exact wrap64N (by omega)
  · rw [← Int.natCast_mul]; exact wrapN (by omega)
  · rw [← Int.natCast_mul]; exact wrapN (by omega)
  · rw [tdivN]; exact wrapN (by omega)
  · rw [← Int.natCast_mul]; exact wrapN (by omega)
  · rw [← Int.natCast_add]; exact wrapN (by omega)
  · rw [tmodN]
  · rw [← Int.natCast_add]; exact wrapN (by omega)
  · rw [← Int.natCast_mul]; exact wrapN (Nat.le_trans b6 (by omega))
  · rw [tmodN]
  · rw [← Int.natCast_add]; exact wrapN (by omega)

set_option maxHeartbeats 1000000 in
theorem RBack_no (U C O ob off : Int) (w : World) (h : ¬ (Lay U C O ∧ 0 ≤ ob ∧ ob ≤ 1099511627776 ∧ 0 ≤ off ∧ off < O)) :
    Calls Try.prog 15 #[.agg #[.int .i64 U, .int .i64 C, .int .i64 O], .int .i64 ob, .int .i64 off] w fun e w' => e = .returned (.int .i64 (-1)) ∧ Below w.heap.size w w' := by
  by_cases hL : Lay U C O
  · have Hd := Lib.hid (decide_eq_true hL)
    by_cases h0 : 0 ≤ ob
    · by_cases h1 : ob ≤ 1099511627776
      · by_cases h2 : 0 ≤ off
        · have h3 : O ≤ off := Int.not_lt.1 fun q => h ⟨hL, h0, h1, h2, q⟩
          clear hL h
          go_enter Try.func15, Try.ntmps15
          go_wp2_with fail
          refine (May_any U C O _).mono ?_
          rintro e w1 ⟨rfl, hb1⟩
          rw [Hd.out]
          have c2 := ((LayAt.box w U C O 23).to hb1).c2
          have Hb1 := Lib.hid (bel1 hb1)
          clear hb1
          go_wp2_with fail
          go_ret
          exact ⟨rfl, Hb1.out⟩
        · clear hL h
          go_enter Try.func15, Try.ntmps15
          go_wp2_with fail
          refine (May_any U C O _).mono ?_
          rintro e w1 ⟨rfl, hb1⟩
          rw [Hd.out]
          have Hb1 := Lib.hid (bel1 hb1)
          clear hb1
          go_wp2_with fail
          go_ret
          exact ⟨rfl, Hb1.out⟩
      · clear hL h
        go_enter Try.func15, Try.ntmps15
        go_wp2_with fail
        refine (May_any U C O _).mono ?_
        rintro e w1 ⟨rfl, hb1⟩
        rw [Hd.out]
        have Hb1 := Lib.hid (bel1 hb1)
        clear hb1
        go_wp2_with fail
        go_ret
        exact ⟨rfl, Hb1.out⟩
    · clear hL h
      go_enter Try.func15, Try.ntmps15
      go_wp2_with fail
      refine (May_any U C O _).mono ?_
      rintro e w1 ⟨rfl, hb1⟩
      rw [Hd.out]
      have Hb1 := Lib.hid (bel1 hb1)
      clear hb1
      go_wp2_with fail
      go_ret
      exact ⟨rfl, Hb1.out⟩
  · have Hd := Lib.hid (decide_eq_false hL)
    clear hL h
    go_enter Try.func15, Try.ntmps15
    go_wp2_with fail
    refine (May_any U C O _).mono ?_
    rintro e w1 ⟨rfl, hb1⟩
    rw [Hd.out]
    have Hb1 := Lib.hid (bel1 hb1)
    clear hb1
    go_wp2_with fail
    go_ret
    exact ⟨rfl, Hb1.out⟩
end Go.Proofs.Ytbkdlpmaikilnaa
