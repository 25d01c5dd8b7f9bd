/- The walk of FrameWholes. -/
import Derived.Test.YthidmajlmehopaaDoorFrLaw
namespace Go.Proofs.YthidmajlmehopaaDoor
open Go.ChangeShapes Go.WideShapes Go.ChangeAt Go.RowKit

set_option maxHeartbeats 1000000 in
theorem FrameWholes_core (A : Option Addr) (n c : Nat) (l : List UInt8) (W : World) (hr : Rd W W.heap.size A n l) (hA : A = none → c = 0) (hc : n ≤ c) (hm : c ≤ 9223372036854775807) (ht : Tb W) :
    Calls Tryd.prog 5 #[.slice A n c] W (Yes W) := by
  have Hr := Lib.hid hr
  have HA := Lib.hid hA
  have Ht := Lib.hid ht
  have Hs := Lib.hid ht.size
  clear hr ht hA
  by_cases hn : n ≤ 20000
  · go_enter Tryd.func5, Tryd.ntmps5
    go_wp2_with (go_at_call 9; refine (awake_any W Ht.out).mono ?_; rintro e w1 ⟨rfl, hb1⟩; have Hb1 := Lib.hid hb1; clear hb1)
    refine (Whole_any A n c l _ ((Hr.out.below Hb1.out).more Hb1.out.size) (by omega) hc hm (Ht.out.below Hb1.out Hs.out)).mono ?_
    rintro e w2 ⟨v2, m2, rfl, hown2, hb2⟩
    obtain ⟨A2, c2, rfl, hc2, hm2⟩ := ownsRow_form hown2
    have Hr2 := Lib.hid (RdI.own hown2)
    have Hb2 := Lib.hid (Hb1.out.trans (hb2.mono Hb1.out.size))
    have hm2b : m2 ≤ 9223372036854775807 := by simp only [maxLen] at hm2; omega
    clear hown2 hb2 hc2 hm2
    go_wp2_with fail
    refine (RefWhole_any A n c l _ ((Hr.out.below Hb2.out).more Hb2.out.size) HA.out (by omega) hc hm).mono ?_
    rintro e w3 ⟨v3, m3, rfl, hown3, hb3⟩
    obtain ⟨A3, c3, rfl, hc3, hm3⟩ := ownsRow_form hown3
    have Hr3 := Lib.hid (RdI.own hown3)
    have Hr2' := Lib.hid (Hr2.out.below hb3)
    have Hb3 := Lib.hid (Hb2.out.trans (hb3.mono Hb2.out.size))
    have hm3b : m3 ≤ 9223372036854775807 := by simp only [maxLen] at hm3; omega
    clear hown3 hb3 hc3 hm3
    go_wp2_with fail
    refine (Ints_any A2 A3 m2 c2 m3 c3 _ _ _ _ _ Hr2'.out Hr3.out hm2b hm3b).mono ?_
    rintro e w4 ⟨rfl, q, rfl⟩
    rw [decide_eq_true rfl]
    go_wp2_with fail
    go_ret
    exact ⟨rfl, belowDrewN Hb3.out q⟩
  · go_enter Tryd.func5, Tryd.ntmps5
    go_wp2_with (go_at_call 9; refine (awake_any W Ht.out).mono ?_; rintro e w1 ⟨rfl, hb1⟩; have Hb1 := Lib.hid hb1; clear hb1)
    go_ret
    exact ⟨rfl, Hb1.out⟩

theorem FrameWholes_walk {H : Type} {enc : TypeId × Value → H} (W : World) (base : Nat) {v0 : Value} {d0 : DataW H} {p0 : List MemPlace}
    (k0 : Value.okWide Tryd.prog W .any base 22 v0) (h0 : DataW.Trod enc Tryd.prog W 0 (fun _ => true) true 22 v0 d0 p0) (ht : Tb W) :
    Calls Tryd.prog 5 #[v0] W (Yes W) := by
  obtain ⟨A, n, c, l, rfl, hr, hA, hc, hm⟩ := ar_bytes' k0 h0
  exact FrameWholes_core A n c l W hr hA hc hm ht
end Go.Proofs.YthidmajlmehopaaDoor
