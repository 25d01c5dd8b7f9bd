/- The walk of StripePieces. -/
import Derived.Test.YtbkdlpmaikilnaaStLaw
namespace Go.Proofs.Ytbkdlpmaikilnaa
open Go.ChangeShapes Go.WideShapes Go.ChangeAt Go.RowKit

set_option maxHeartbeats 1000000 in
theorem StripePieces_core (U C O a1 a2 : Int) (W : World) (_i0 : I64 U) (_i1 : I64 C) (_i2 : I64 O) (_j1 : I64 a1) (_j2 : I64 a2) :
    Calls Try.prog 4 #[lay U C O, .int .i64 a1, .int .i64 a2] W (Yes W) := by
  obtain ⟨ps, hp1, hp2⟩ := Pieces_all U C O a1 a2
  have H1 := Lib.hid hp1
  have H2 := Lib.hid hp2
  clear hp1 hp2
  go_enter Try.func4, Try.ntmps4
  go_wp2_with fail
  refine (awake_any _).mono ?_
  rintro e w1 ⟨rfl, hb1⟩
  have HL := Lib.hid ((LayAt.box W U C O 23).to hb1)
  have Hb1 := Lib.hid (bel1 hb1)
  have HB := Lib.hid (Nat.le_refl W.heap.size)
  clear hb1
  go_wp2_with fail
  go_region_held3 (fun w' => w'.cell? ⟨W.heap.size, 0, none⟩ = some (.int .i64 U) ∧ w'.cell? ⟨W.heap.size, 1, none⟩ = some (.int .i64 C) ∧ w'.cell? ⟨W.heap.size, 2, none⟩ = some (.int .i64 O) ∧ Hid (Below W.heap.size W w')) (first | exact keepL (by assumption) HB (by assumption) | exact startL HL Hb1 | exact startD HL Hb1) (first
    | (go_at_call 17; refine (H1.out _).mono ?_; rintro e w2 ⟨A1, n1, c1, rfl, hr1, hn1, hb2⟩)
    | (go_at_call 18; refine (H2.out _).mono ?_; rintro e w3 ⟨A2, n2, c2, rfl, hr2, hn2, hb3⟩)
    | (go_at_call 16; obtain rfl : n1 = n2 := hr1.1.trans hr2.1.symm; refine (Same_any A1 A2 n1 c1 c2 ps _ (hr1.to hb3) hr2 hn1).mono ?_; rintro e w4 ⟨rfl, hb4⟩))
  obtain ⟨HL2, Hb2⟩ : Hid (LayAt W.heap.size U C O w4) ∧ Hid (Below W.heap.size W w4) := bothL (by assumption)
  go_wp2_with fail
  go_ret
  exact ⟨rfl, Hb2.out⟩

theorem StripePieces_walk {H : Type} {enc : TypeId × Value → H} (W : World) (base : Nat) {v0 v1 v2 : Value} {d0 : DataW H} {p0 : List MemPlace} {d1 : DataW H} {p1 : List MemPlace} {d2 : DataW H} {p2 : List MemPlace}
    (k0 : Value.okWide Try.prog W .any base 23 v0) (h0 : DataW.Trod enc Try.prog W 0 (fun _ => true) true 23 v0 d0 p0) (k1 : Value.okWide Try.prog W .any base 3 v1) (h1 : DataW.Trod enc Try.prog W 0 (fun _ => true) true 3 v1 d1 p1) (k2 : Value.okWide Try.prog W .any base 3 v2) (h2 : DataW.Trod enc Try.prog W 0 (fun _ => true) true 3 v2 d2 p2) :
    Calls Try.prog 4 #[v0, v1, v2] W (Yes W) := by
  obtain ⟨U, C, O, rfl, i0, i1, i2⟩ := ar_layout k0 h0
  obtain ⟨a1, rfl, j1⟩ := ar_int Try.underlying3 k1 h1
  obtain ⟨a2, rfl, j2⟩ := ar_int Try.underlying3 k2 h2
  exact StripePieces_core U C O a1 a2 W i0 i1 i2 j1 j2
end Go.Proofs.Ytbkdlpmaikilnaa
