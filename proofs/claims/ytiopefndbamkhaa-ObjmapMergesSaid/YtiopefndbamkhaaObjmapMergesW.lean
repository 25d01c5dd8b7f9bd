/- The walk of ObjmapMerges. -/
import Derived.Test.YtiopefndbamkhaaObAw
namespace Go.Proofs.Ytiopefndbamkhaa
open Go.ChangeShapes Go.WideShapes Go.ChangeAt Go.RowKit

set_option maxHeartbeats 2000000 in
theorem ObjmapMerges_core (Aa : Option Addr) (na ca : Nat) (a : List Int) (Ab : Option Addr) (nb cb : Nat) (b : List Int) (W : World) (hra : RdI W W.heap.size Aa na a) (hrb : RdI W W.heap.size Ab nb b) (hna : na ≤ 9223372036854775807) (hnb : nb ≤ 9223372036854775807) :
    Calls Try.prog 4 #[.slice Aa na ca, .slice Ab nb cb] W (Yes W) := by
  have Ra := Lib.hid hra
  have Rb := Lib.hid hrb
  clear hra hrb
  go_enter Try.func4, Try.ntmps4
  go_wp2_with fail
  refine (awake5 _).mono ?_
  rintro e w1 ⟨rfl, hb1⟩
  have B := Lib.hid hb1
  clear hb1
  by_cases h20 : na ≤ 2000
  · have h21 : (na : Int) ≤ 2000 := by omega
    by_cases h22 : nb ≤ 2000
    · have h23 : (nb : Int) ≤ 2000 := by omega
      have a0 : Hid (AtI w1 Aa na a) := ⟨(Ra.out.below B.out).more B.out.size, by omega⟩
      have b0 : Hid (AtI w1 Ab nb b) := ⟨(Rb.out.below B.out).more B.out.size, by omega⟩
      go_wp2_with fail
      refine (lFresh ca a0).mono ?_
      rintro e w2 ⟨A1, n1, c1, rfl, S, hb, _⟩
      replace a0 := AtI.keep a0 hb
      replace b0 := AtI.keep b0 hb
      replace B := belO B hb
      clear hb
      go_wp2_with fail
      refine (lRFresh ca a0).mono ?_
      rintro e w3 ⟨A2, n2, c2, rfl, S2, hb, _⟩
      replace a0 := AtI.keep a0 hb
      replace b0 := AtI.keep b0 hb
      replace S := AtI.keep S hb
      replace B := belO B hb
      clear hb
      go_wp2_with fail
      refine (lYes5 c1 c2 S S2 rfl).mono ?_
      rintro e w4 ⟨rfl, hb⟩
      replace a0 := AtI.keep a0 hb
      replace b0 := AtI.keep b0 hb
      replace B := belO B hb
      clear hb S S2
      go_wp2_with fail
      refine (lMerge ca cb a0 b0).mono ?_
      rintro e w5 ⟨A3, n3, c3, rfl, S, hb, _⟩
      replace a0 := AtI.keep a0 hb
      replace b0 := AtI.keep b0 hb
      replace B := belO B hb
      clear hb
      go_wp2_with fail
      refine (lRMerge ca cb a0 b0).mono ?_
      rintro e w6 ⟨A4, n4, c4, rfl, S2, hb, _⟩
      replace S := AtI.keep S hb
      replace B := belO B hb
      clear hb
      go_wp2_with fail
      refine (lYes5 c3 c4 S S2 rfl).mono ?_
      rintro e w7 ⟨rfl, hb⟩
      replace B := belO B hb
      clear hb
      go_wp2_with fail
      go_ret
      exact ⟨rfl, B.out⟩
    · have h23 : 2000 < (nb : Int) := by omega
      go_wp2_with fail
      go_ret
      exact ⟨rfl, B.out⟩
  · have h21 : 2000 < (na : Int) := by omega
    go_wp2_with fail
    go_ret
    exact ⟨rfl, B.out⟩

theorem ObjmapMerges_walk {H : Type} {enc : TypeId × Value → H} (W : World) (base : Nat) {v0 v1 : Value} {d0 : DataW H} {p0 : List MemPlace} {d1 : DataW H} {p1 : List MemPlace}
    (k0 : Value.okWide Try.prog W .any base 22 v0) (h0 : DataW.Trod enc Try.prog W 0 (fun _ => true) true 22 v0 d0 p0) (k1 : Value.okWide Try.prog W .any base 22 v1) (h1 : DataW.Trod enc Try.prog W 0 (fun _ => true) true 22 v1 d1 p1) :
    Calls Try.prog 4 #[v0, v1] W (Yes W) := by
  obtain ⟨A0, n0, c0, l0, rfl, hr0, hn0⟩ := ar_map k0 h0
  obtain ⟨A1, n1, c1, l1, rfl, hr1, hn1⟩ := ar_map k1 h1
  exact ObjmapMerges_core A0 n0 c0 l0 A1 n1 c1 l1 W hr0 hr1 hn0 hn1
end Go.Proofs.Ytiopefndbamkhaa
