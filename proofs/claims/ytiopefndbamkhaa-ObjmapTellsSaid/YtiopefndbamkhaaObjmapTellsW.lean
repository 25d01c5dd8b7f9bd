/- The walk of ObjmapTells. -/
import Derived.Test.YtiopefndbamkhaaObAw
namespace Go.Proofs.Ytiopefndbamkhaa
open Go.ChangeShapes Go.WideShapes Go.ChangeAt Go.RowKit

set_option maxHeartbeats 2000000 in
theorem ObjmapTells_core (A : Option Addr) (n c : Nat) (m : List Int) (i s : Int) (W : World) (hr : RdI W W.heap.size A n m) (hn : n ≤ 9223372036854775807) :
    Calls Try.prog 3 #[.slice A n c, .int .i64 i, .int .i64 s] W (Yes W) := by
  have R := Lib.hid hr
  clear hr
  go_enter Try.func3, Try.ntmps3
  go_wp2_with fail
  refine (awake5 _).mono ?_
  rintro e w1 ⟨rfl, hb1⟩
  have B := Lib.hid hb1
  clear hb1
  by_cases h20 : n ≤ 2000
  · have M : Hid (AtI w1 A n m) := ⟨(R.out.below B.out).more B.out.size, by omega⟩
    have h21 : (n : Int) ≤ 2000 := by omega
    go_wp2_with fail
    refine (lCheck c M).mono ?_
    generalize hv : decide (IsRow m) = v
    have Hv := Lib.hid hv
    clear hv
    rintro e w2 ⟨rfl, hb⟩
    replace M := AtI.keep M hb
    replace B := belO B hb
    clear hb
    go_wp2_with fail
    refine (lMay c M).mono ?_
    rw [Hv.out]
    rintro e w3 ⟨rfl, hb⟩
    replace M := AtI.keep M hb
    replace B := belO B hb
    clear hb
    go_wp2_with fail
    refine (lGet c i M).mono ?_
    rintro e w4 ⟨rfl, hb⟩
    replace M := AtI.keep M hb
    replace B := belO B hb
    clear hb
    go_wp2_with fail
    refine (lRGet c i M).mono ?_
    rintro e w5 ⟨rfl, hb⟩
    replace M := AtI.keep M hb
    replace B := belO B hb
    clear hb
    go_wp2_with fail
    refine (lSet c i s M).mono ?_
    rintro e w6 ⟨A1, n1, c1, rfl, S, hb, _⟩
    replace M := AtI.keep M hb
    replace B := belO B hb
    clear hb
    go_wp2_with fail
    refine (lRSet c i s M).mono ?_
    rintro e w7 ⟨A2, n2, c2, rfl, S2, hb, _⟩
    replace S := AtI.keep S hb
    replace B := belO B hb
    clear hb
    go_wp2_with fail
    refine (lYes5 c1 c2 S S2 rfl).mono ?_
    rintro e w8 ⟨rfl, hb⟩
    replace B := belO B hb
    clear hb
    go_wp2_with fail
    go_ret
    exact ⟨rfl, B.out⟩
  · have h21 : 2000 < (n : Int) := by omega
    go_wp2_with fail
    go_ret
    exact ⟨rfl, B.out⟩

theorem ObjmapTells_walk {H : Type} {enc : TypeId × Value → H} (W : World) (base : Nat) {v0 v1 v2 : Value} {d0 : DataW H} {p0 : List MemPlace} {d1 : DataW H} {p1 : List MemPlace} {d2 : DataW H} {p2 : List MemPlace}
    (k0 : Value.okWide Try.prog W .any base 22 v0) (h0 : DataW.Trod enc Try.prog W 0 (fun _ => true) true 22 v0 d0 p0) (k1 : Value.okWide Try.prog W .any base 3 v1) (h1 : DataW.Trod enc Try.prog W 0 (fun _ => true) true 3 v1 d1 p1) (k2 : Value.okWide Try.prog W .any base 3 v2) (h2 : DataW.Trod enc Try.prog W 0 (fun _ => true) true 3 v2 d2 p2) :
    Calls Try.prog 3 #[v0, v1, v2] W (Yes W) := by
  obtain ⟨A0, n0, c0, l0, rfl, hr0, hn0⟩ := ar_map k0 h0
  obtain ⟨i, rfl, _⟩ := ar_int Try.underlying3 k1 h1
  obtain ⟨s, rfl, _⟩ := ar_int Try.underlying3 k2 h2
  exact ObjmapTells_core A0 n0 c0 l0 i s W hr0 hn0
end Go.Proofs.Ytiopefndbamkhaa
