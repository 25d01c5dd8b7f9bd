/- The walk of StripePlaces. -/
import Derived.Test.YtbkdlpmaikilnaaStLaw
namespace Go.Proofs.Ytbkdlpmaikilnaa
open Go.ChangeShapes Go.WideShapes Go.ChangeAt Go.RowKit

set_option maxHeartbeats 1000000 in
theorem StripePlaces_core (U C O a1 a2 : Int) (W : World) (_i0 : I64 U) (_i1 : I64 C) (_i2 : I64 O) (_j1 : I64 a1) (_j2 : I64 a2) :
    Calls Try.prog 3 #[lay U C O, .int .i64 a1, .int .i64 a2] W (Yes W) := by
  obtain ⟨o, k, hp1, hp2⟩ := Place_all U C O a1
  obtain ⟨bf, hbf⟩ : ∃ bf : Int → Int, ∀ z, Gives 14 #[lay U C O, .int .i64 a2, .int .i64 z] (.int .i64 (bf z)) ∧ Gives 15 #[lay U C O, .int .i64 a2, .int .i64 z] (.int .i64 (bf z)) :=
    ⟨fun z => (Back_all U C O a2 z).choose, fun z => (Back_all U C O a2 z).choose_spec⟩
  have H1 := Lib.hid hp1
  have H2 := Lib.hid hp2
  have H3 := Lib.hid (fun z => (hbf z).1)
  have H4 := Lib.hid (fun z => (hbf z).2)
  have H5 := Lib.hid (fun w => Check_any U C O w)
  have H6 := Lib.hid (fun w => May_any U C O w)
  clear hp1 hp2 hbf
  by_cases hL : Lay U C O
  · have HD := Lib.hid (decide_eq_true hL)
    have HC := Lib.hid (show chk U C O = 0 from if_pos hL)
    clear hL
    go_enter Try.func3, Try.ntmps3
    go_wp2_with fail
    refine (awake_any _).mono ?_
    rintro e w1 ⟨rfl, hb1⟩
    have HL := Lib.hid ((LayAt.box W U C O 23).to hb1)
    have Hb1 := Lib.hid (bel1 hb1)
    have HB := Lib.hid (Nat.le_refl W.heap.size)
    clear hb1
    have c0 := HL.out.c0
    have c1 := HL.out.c1
    have c2 := HL.out.c2
    go_wp2_with fail
    refine (H6.out _).mono ?_
    rintro e w2 ⟨rfl, hb2⟩
    rw [HD.out]
    have HL := Lib.hid (HL.out.to hb2)
    have Hb1 := Lib.hid (Hb1.out.trans (hb2.mono Hb1.out.size))
    clear hb2 c0 c1 c2
    have c0 := HL.out.c0
    have c1 := HL.out.c1
    have c2 := HL.out.c2
    go_wp2_with fail
    refine (H1.out _).mono ?_
    rintro e w3 ⟨rfl, hb3⟩
    have HL := Lib.hid (HL.out.to hb3)
    have Hb1 := Lib.hid (Hb1.out.trans (hb3.mono Hb1.out.size))
    clear hb3 c0 c1 c2
    have c0 := HL.out.c0
    have c1 := HL.out.c1
    have c2 := HL.out.c2
    go_wp2_with fail
    refine (H2.out _).mono ?_
    rintro e w4 ⟨rfl, hb4⟩
    have HL := Lib.hid (HL.out.to hb4)
    have Hb1 := Lib.hid (Hb1.out.trans (hb4.mono Hb1.out.size))
    clear hb4 c0 c1 c2
    go_wp2_with fail
    trace_state
    go_region_held3 (fun w' => w'.cell? ⟨W.heap.size, 0, none⟩ = some (.int .i64 U) ∧ w'.cell? ⟨W.heap.size, 1, none⟩ = some (.int .i64 C) ∧ w'.cell? ⟨W.heap.size, 2, none⟩ = some (.int .i64 O) ∧ Hid (Below W.heap.size W w')) (first | exact keepL (by assumption) HB (by assumption) | exact startL HL Hb1 | exact startD HL Hb1) (first
      | (go_at_call 13; refine (H5.out _).mono ?_; rintro e w5 ⟨rfl, hb5⟩; rw [HC.out])
      | (go_at_call 14; refine (H3.out _ _).mono ?_; rintro e w6 ⟨rfl, hb6⟩)
      | (go_at_call 15; refine (H4.out _ _).mono ?_; rintro e w7 ⟨rfl, hb7⟩))
    obtain ⟨HL2, Hb2⟩ : Hid (LayAt W.heap.size U C O w7) ∧ Hid (Below W.heap.size W w7) := bothL (by assumption)
    go_wp2_with fail
    go_ret
    exact ⟨rfl, Hb2.out⟩
  · have HD := Lib.hid (decide_eq_false hL)
    have HC := Lib.hid (show chk U C O = 1 from if_neg hL)
    clear hL
    go_enter Try.func3, Try.ntmps3
    go_wp2_with fail
    refine (awake_any _).mono ?_
    rintro e w1 ⟨rfl, hb1⟩
    have HL := Lib.hid ((LayAt.box W U C O 23).to hb1)
    have Hb1 := Lib.hid (bel1 hb1)
    have HB := Lib.hid (Nat.le_refl W.heap.size)
    clear hb1
    have c0 := HL.out.c0
    have c1 := HL.out.c1
    have c2 := HL.out.c2
    go_wp2_with fail
    refine (H6.out _).mono ?_
    rintro e w2 ⟨rfl, hb2⟩
    rw [HD.out]
    have HL := Lib.hid (HL.out.to hb2)
    have Hb1 := Lib.hid (Hb1.out.trans (hb2.mono Hb1.out.size))
    clear hb2 c0 c1 c2
    have c0 := HL.out.c0
    have c1 := HL.out.c1
    have c2 := HL.out.c2
    go_wp2_with fail
    refine (H1.out _).mono ?_
    rintro e w3 ⟨rfl, hb3⟩
    have HL := Lib.hid (HL.out.to hb3)
    have Hb1 := Lib.hid (Hb1.out.trans (hb3.mono Hb1.out.size))
    clear hb3 c0 c1 c2
    have c0 := HL.out.c0
    have c1 := HL.out.c1
    have c2 := HL.out.c2
    go_wp2_with fail
    refine (H2.out _).mono ?_
    rintro e w4 ⟨rfl, hb4⟩
    have HL := Lib.hid (HL.out.to hb4)
    have Hb1 := Lib.hid (Hb1.out.trans (hb4.mono Hb1.out.size))
    clear hb4 c0 c1 c2
    go_wp2_with fail
    trace_state
    go_region_held3 (fun w' => w'.cell? ⟨W.heap.size, 0, none⟩ = some (.int .i64 U) ∧ w'.cell? ⟨W.heap.size, 1, none⟩ = some (.int .i64 C) ∧ w'.cell? ⟨W.heap.size, 2, none⟩ = some (.int .i64 O) ∧ Hid (Below W.heap.size W w')) (first | exact keepL (by assumption) HB (by assumption) | exact startL HL Hb1 | exact startD HL Hb1) (first
      | (go_at_call 13; refine (H5.out _).mono ?_; rintro e w5 ⟨rfl, hb5⟩; rw [HC.out])
      | (go_at_call 14; refine (H3.out _ _).mono ?_; rintro e w6 ⟨rfl, hb6⟩)
      | (go_at_call 15; refine (H4.out _ _).mono ?_; rintro e w7 ⟨rfl, hb7⟩))
    obtain ⟨HL2, Hb2⟩ : Hid (LayAt W.heap.size U C O w7) ∧ Hid (Below W.heap.size W w7) := bothL (by assumption)
    go_wp2_with fail
    go_ret
    exact ⟨rfl, Hb2.out⟩

theorem StripePlaces_walk {H : Type} {enc : TypeId × Value → H} (W : World) (base : Nat) {v0 v1 v2 : Value} {d0 : DataW H} {p0 : List MemPlace} {d1 : DataW H} {p1 : List MemPlace} {d2 : DataW H} {p2 : List MemPlace}
    (k0 : Value.okWide Try.prog W .any base 23 v0) (h0 : DataW.Trod enc Try.prog W 0 (fun _ => true) true 23 v0 d0 p0) (k1 : Value.okWide Try.prog W .any base 3 v1) (h1 : DataW.Trod enc Try.prog W 0 (fun _ => true) true 3 v1 d1 p1) (k2 : Value.okWide Try.prog W .any base 3 v2) (h2 : DataW.Trod enc Try.prog W 0 (fun _ => true) true 3 v2 d2 p2) :
    Calls Try.prog 3 #[v0, v1, v2] W (Yes W) := by
  obtain ⟨U, C, O, rfl, i0, i1, i2⟩ := ar_layout k0 h0
  obtain ⟨a1, rfl, j1⟩ := ar_int Try.underlying3 k1 h1
  obtain ⟨a2, rfl, j2⟩ := ar_int Try.underlying3 k2 h2
  exact StripePlaces_core U C O a1 a2 W i0 i1 i2 j1 j2
end Go.Proofs.Ytbkdlpmaikilnaa
