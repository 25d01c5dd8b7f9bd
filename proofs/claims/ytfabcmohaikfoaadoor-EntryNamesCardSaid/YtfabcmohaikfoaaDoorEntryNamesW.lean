/- The walk of EntryNames. -/
import Derived.Test.YtfabcmohaikfoaaDoorEnLaw
import Derived.Test.YtfabcmohaikfoaaDoorEnM
namespace Go.Proofs.YtfabcmohaikfoaaDoor
open Go.ChangeShapes Go.WideShapes Go.ChangeAt Go.RowKit

set_option maxRecDepth 10000 in
set_option maxHeartbeats 2000000 in
theorem EntryNames_core (n m : Int) (W : World) (ht : T7 W) : Calls Tryd.prog 5 #[.int .i64 n, .int .i64 m] W (Yes W) := by
  have Ht := Lib.hid ht
  clear ht
  have HA := Lib.hid (awake7 W Ht.out)
  have HN := Lib.hid (fun w1 (h : T7 w1) => Name7 n w1 h)
  have HM := Lib.hid (fun w1 (h : T7 w1) => Name7 m w1 h)
  have HRN := Lib.hid (fun w1 => RName7 n w1)
  have HRM := Lib.hid (fun w1 => RName7 m w1)
  have hl1 := nameL_len n
  have hl2 := nameL_len m
  have Hless := Lib.hid (fun h0 h1 h2 => name_less (n := n) (m := m) h0 h1 h2)
  obtain ⟨L1, hL1⟩ : ∃ L, L = nameL n := ⟨_, rfl⟩
  obtain ⟨L2, hL2⟩ : ∃ L, L = nameL m := ⟨_, rfl⟩
  rw [← hL1] at HN HRN hl1 Hless
  rw [← hL2] at HM HRM hl2 Hless
  clear hL1 hL2
  go_enter Tryd.func5, Tryd.ntmps5
  go_wp2_with fail
  refine HA.out.mono ?_
  rintro e w1 ⟨rfl, HB⟩
  go_wp2_with fail
  refine (HN.out w1 (Ht.out.to HB.out)).mono ?_
  rintro e w2 ⟨rfl, hb⟩
  replace HB := bel7 HB hb
  clear hb
  go_wp2_with fail
  refine (HM.out w2 (Ht.out.to HB.out)).mono ?_
  rintro e w3 ⟨rfl, hb⟩
  replace HB := bel7 HB hb
  clear hb
  go_wp2_with fail
  refine (HRN.out w3).mono ?_
  rintro e w4 ⟨rfl, hb⟩
  replace HB := bel7 HB hb
  clear hb
  go_wp2_with fail
  refine (HRM.out w4).mono ?_
  rintro e w5 ⟨rfl, hb⟩
  replace HB := bel7 HB hb
  clear hb
  by_cases h0 : n < 0
  · go_wp2_with fail
    go_ret
    exact ⟨by first | rfl | simp, HB.out⟩
  · by_cases h1 : m ≤ n
    · go_wp2_with fail
      go_ret
      exact ⟨by first | rfl | simp, HB.out⟩
    · by_cases h2 : 999999999 < m
      · go_wp2_with fail
        go_ret
        exact ⟨by first | rfl | simp, HB.out⟩
      · have hb := Hless.out (by omega) (by omega) (by omega)
        go_wp2_with fail
        go_ret
        exact ⟨by first | rfl | simp, HB.out⟩

set_option maxRecDepth 10000 in
theorem EntryNames_walk {H : Type} {enc : TypeId × Value → H} (W : World) (base : Nat) {v0 v1 : Value} {d0 : DataW H} {p0 : List MemPlace} {d1 : DataW H} {p1 : List MemPlace}
    (k0 : Value.okWide Tryd.prog W .any base 3 v0) (h0 : DataW.Trod enc Tryd.prog W 0 (fun _ => true) true 3 v0 d0 p0) (k1 : Value.okWide Tryd.prog W .any base 3 v1) (h1 : DataW.Trod enc Tryd.prog W 0 (fun _ => true) true 3 v1 d1 p1) (ht : T7 W) :
    Calls Tryd.prog 5 #[v0, v1] W (Yes W) := by
  obtain ⟨n, rfl, _⟩ := ar_int Tryd.underlying3 k0 h0
  obtain ⟨m, rfl, _⟩ := ar_int Tryd.underlying3 k1 h1
  exact EntryNames_core n m W ht
end Go.Proofs.YtfabcmohaikfoaaDoor
