/- The walk of FrameSums. -/
import Derived.Test.YthidmajlmehopaaDoorFrLaw
namespace Go.Proofs.YthidmajlmehopaaDoor
open Go.ChangeShapes Go.WideShapes Go.ChangeAt Go.RowKit

set_option maxHeartbeats 1000000 in
theorem FrameSums_core (k : Int) (A : Option Addr) (n c : Nat) (l : List UInt8) (W : World) (hr : Rd W W.heap.size A n l) (ht : Tb W) :
    Calls Tryd.prog 3 #[.int .i64 k, .slice A n c] W (Yes W) := by
  have Hr := Lib.hid hr
  have Ht := Lib.hid ht
  have Hs := Lib.hid ht.size
  clear hr ht
  by_cases hn : n ≤ 9000
  · by_cases hk : k < 0 ∨ 255 < k
    · have Hk := Lib.hid hk
      clear hk
      go_enter Tryd.func3, Tryd.ntmps3
      go_wp2_with (go_at_call 9; refine (awake_any W Ht.out).mono ?_; rintro e w1 ⟨rfl, hb1⟩; have Hb1 := Lib.hid hb1; clear hb1)
      refine (Make_arg k A n c _ Hk.out).mono ?_
      rintro e w' ⟨rfl, rfl⟩
      go_wp2_with fail
      refine (RefMake_arg k A n c _ Hk.out).mono ?_
      rintro e w' ⟨rfl, rfl⟩
      have hcv := str_any (c := 0) (Rd.nil (w := w1) (B := 0) (A := none))
      go_wp2_with fail
      refine (Sum_any A n c l _ _ (Hr.out.below Hb1.out) (Ht.out.below Hb1.out Hs.out) (by omega)).mono ?_
      rintro e w' ⟨rfl, rfl⟩
      go_wp2_with fail
      refine (RefSum_any A n c l _ _ (Hr.out.below Hb1.out) (by omega)).mono ?_
      rintro e w' ⟨rfl, rfl⟩
      go_wp2_with fail
      go_ret
      exact ⟨rfl, Hb1.out⟩
    · by_cases hn2 : 8192 < n
      · have Hk := Lib.hid (show 0 ≤ k ∧ k ≤ 255 by omega)
        clear hk
        go_enter Tryd.func3, Tryd.ntmps3
        go_wp2_with (go_at_call 9; refine (awake_any W Ht.out).mono ?_; rintro e w1 ⟨rfl, hb1⟩; have Hb1 := Lib.hid hb1; clear hb1)
        refine (Make_lim k A n c _ Hk.out hn2).mono ?_
        rintro e w' ⟨rfl, rfl⟩
        go_wp2_with fail
        refine (RefMake_lim k A n c _ Hk.out hn2).mono ?_
        rintro e w' ⟨rfl, rfl⟩
        have hcv := str_any (c := 0) (Rd.nil (w := w1) (B := 0) (A := none))
        go_wp2_with fail
        refine (Sum_any A n c l _ _ (Hr.out.below Hb1.out) (Ht.out.below Hb1.out Hs.out) (by omega)).mono ?_
        rintro e w' ⟨rfl, rfl⟩
        go_wp2_with fail
        refine (RefSum_any A n c l _ _ (Hr.out.below Hb1.out) (by omega)).mono ?_
        rintro e w' ⟨rfl, rfl⟩
        go_wp2_with fail
        go_ret
        exact ⟨rfl, Hb1.out⟩
      · obtain ⟨j, rfl⟩ := Int.eq_ofNat_of_zero_le (show 0 ≤ k by omega)
        have hj : j ≤ 255 := by omega
        clear hk
        go_enter Tryd.func3, Tryd.ntmps3
        go_wp2_with (go_at_call 9; refine (awake_any W Ht.out).mono ?_; rintro e w1 ⟨rfl, hb1⟩; have Hb1 := Lib.hid hb1; clear hb1)
        refine (Make_ok j A n c l _ hj (by omega) ((Hr.out.below Hb1.out).more Hb1.out.size) (Ht.out.below Hb1.out Hs.out)).mono ?_
        rintro e w2 ⟨A2, c2, rfl, _, _, hown2, hb2⟩
        have Hr2 := Lib.hid (Rd.own hown2)
        have Hb2 := Lib.hid (Hb1.out.trans (hb2.mono Hb1.out.size))
        clear hown2 hb2
        go_wp2_with fail
        refine (RefMake_ok j A n c l _ hj (by omega) ((Hr.out.below Hb2.out).more Hb2.out.size)).mono ?_
        rintro e w3 ⟨A3, c3, rfl, _, _, hown3, hb3⟩
        have hcv3 := str_any (c := c3) (Rd.own hown3)
        have hcv2 := str_any (c := c2) (Hr2.out.below hb3)
        have Hb3 := Lib.hid (Hb2.out.trans (hb3.mono Hb2.out.size))
        clear hown3 hb3
        go_wp2_with fail
        refine (Sum_any A n c l _ _ (Hr.out.below Hb3.out) (Ht.out.below Hb3.out Hs.out) (by omega)).mono ?_
        rintro e w' ⟨rfl, rfl⟩
        go_wp2_with fail
        refine (RefSum_any A n c l _ _ (Hr.out.below Hb3.out) (by omega)).mono ?_
        rintro e w' ⟨rfl, rfl⟩
        go_wp2_with fail
        go_ret
        exact ⟨rfl, Hb3.out⟩
  · go_enter Tryd.func3, Tryd.ntmps3
    go_wp2_with (go_at_call 9; refine (awake_any W Ht.out).mono ?_; rintro e w1 ⟨rfl, hb1⟩; have Hb1 := Lib.hid hb1; clear hb1)
    go_ret
    exact ⟨rfl, Hb1.out⟩

theorem FrameSums_walk {H : Type} {enc : TypeId × Value → H} (W : World) (base : Nat) {v0 v1 : Value} {d0 : DataW H} {p0 : List MemPlace} {d1 : DataW H} {p1 : List MemPlace}
    (k0 : Value.okWide Tryd.prog W .any base 3 v0) (h0 : DataW.Trod enc Tryd.prog W 0 (fun _ => true) true 3 v0 d0 p0) (k1 : Value.okWide Tryd.prog W .any base 22 v1) (h1 : DataW.Trod enc Tryd.prog W 0 (fun _ => true) true 22 v1 d1 p1) (ht : Tb W) :
    Calls Tryd.prog 3 #[v0, v1] W (Yes W) := by
  obtain ⟨z, rfl, _⟩ := ar_int Tryd.underlying3 k0 h0
  obtain ⟨A, n, c, l, rfl, hr, _, _, _⟩ := ar_bytes' k1 h1
  exact FrameSums_core z A n c l W hr ht
end Go.Proofs.YthidmajlmehopaaDoor
