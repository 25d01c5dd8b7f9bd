/- The walk of WireOrder. -/
import Derived.Test.YtblkmphbmmbecaaWireM
import Derived.Test.YtblkmphbmmbecaaWireP
import Derived.Test.YtblkmphbmmbecaaLaw
namespace Go.Proofs.Ytblkmphbmmbecaa
open Go.ChangeShapes Go.WideShapes Go.ChangeAt Go.RowKit

theorem WireOrder_core (width n m : Int) (W : World) (hn : I64 n) (hm : I64 m) (_hwd : I64 width) : Calls Try.prog 7 #[.int .i64 width, .int .i64 n, .int .i64 m] W (Yes W) := by
  by_cases h1 : 1 ≤ width
  · by_cases h2 : width ≤ 7
    · by_cases h3 : 0 ≤ n
      · by_cases h4 : n < m
        · go_enter Try.func7, Try.ntmps7
          go_wp2_with (go_at_call 9; refine (awake_any _).mono ?_; rintro e w1 ⟨rfl, hb1⟩)
          refine (Num_nil width n _ hn).mono ?_
          rintro e w2 ⟨A2, c2, rfl, hrd2, hb2⟩
          have hcv2 := str_any (c := c2) hrd2
          have hb12 := hb1.trans (hb2.mono hb1.size)
          clear hrd2 hb2
          go_wp2_with fail
          refine (Num_nil width m _ hm).mono ?_
          rintro e w3 ⟨A3, c3, rfl, hrd3, hb3⟩
          have hcv3 := str_any (c := c3) hrd3
          have hb13 := hb12.trans (hb3.mono hb12.size)
          clear hrd3 hb3
          go_wp2_with fail
          have hX : (numB width n).length = fitW width := numB_length _ _
          have hY : (numB width m).length = fitW width := numB_length _ _
          have hO := order_enc (fitW width) (fitW_bd width) n m h3 h4
          rw [show encB (fitW width) (clampN (fitW width) n) = numB width n from rfl, show encB (fitW width) (clampN (fitW width) m) = numB width m from rfl] at hO
          have hfw : ((fitW width : Nat) : Int) = width := by unfold fitW; omega
          have Hb := Lib.hid hb13
          clear hcv2 hcv3 hb12 hb1 hb13
          generalize numB width n = X at *
          generalize numB width m = Y at *
          generalize fitW width = f at *
          have HX := Lib.hid hX
          have HY := Lib.hid hY
          have HO := Lib.hid hO
          have Hfw := Lib.hid hfw
          have hf : f ≤ 7 := by omega
          clear hX hY hO hfw
          go_loopw [10, 11] (fun u i wr => wr = w3 ∧ ∃ j : Nat, j ≤ X.length ∧ i = .int .i64 j ∧ u = .bool ((X.take j).all (· == 255))) (fun _ i _ => X.length - (intOf i).toNat)
          case atStart => exact ⟨rfl, 0, Nat.zero_le _, rfl, rfl⟩
          case round =>
            obtain ⟨rfl, j, hj, rfl, rfl⟩ := hrel
            by_cases hlt : j < X.length
            · have hXl : X.length ≤ 7 := by have := HX.out; omega
              have Hall := Lib.hid (all_succ X j hlt)
              go_wp2_with fail
              all_goals
                go_roundw
                case rel =>
                  refine ⟨by first | rfl | trivial, j + 1, by omega, by go_num, ?_⟩
                  first
                    | (rw [Hall.out]; done)
                    | (have hno : ((X.take j).all fun x => x == 255) = false := Bool.eq_false_iff.2 fun h => (by assumption : ¬ ∀ x, x ∈ List.take j X → x = 255) (by simpa using h)
                       rw [Hall.out, hno, Bool.false_and])
                case measure => simp [intOf]; omega
            · obtain rfl : j = X.length := by omega
              rw [List.take_length]
              rcases HO.out with hlt2 | ⟨hge, hall, heq⟩
              · have HX2 := HX.out
                have HY2 := HY.out
                have Hf2 := Hfw.out
                go_wp2_with fail
                go_ret
                exact ⟨rfl, Hb.out⟩
              · have HX2 := HX.out
                have HY2 := HY.out
                have Hf2 := Hfw.out
                subst heq
                go_wp2_with fail
                go_ret
                exact ⟨rfl, Hb.out⟩
        · go_enter Try.func7, Try.ntmps7
          go_wp2_with (go_at_call 9; refine (awake_any _).mono ?_; rintro e w1 ⟨rfl, hb1⟩)
          go_ret
          exact ⟨rfl, hb1⟩
      · go_enter Try.func7, Try.ntmps7
        go_wp2_with (go_at_call 9; refine (awake_any _).mono ?_; rintro e w1 ⟨rfl, hb1⟩)
        go_ret
        exact ⟨rfl, hb1⟩
    · go_enter Try.func7, Try.ntmps7
      go_wp2_with (go_at_call 9; refine (awake_any _).mono ?_; rintro e w1 ⟨rfl, hb1⟩)
      go_ret
      exact ⟨rfl, hb1⟩
  · go_enter Try.func7, Try.ntmps7
    go_wp2_with (go_at_call 9; refine (awake_any _).mono ?_; rintro e w1 ⟨rfl, hb1⟩)
    go_ret
    exact ⟨rfl, hb1⟩

theorem WireOrder_walk {H : Type} {enc : TypeId × Value → H} (W : World) (base : Nat) {v0 v1 v2 : Value} {d0 : DataW H} {p0 : List MemPlace} {d1 : DataW H} {p1 : List MemPlace} {d2 : DataW H} {p2 : List MemPlace}
    (k0 : Value.okWide Try.prog W .any base 3 v0) (h0 : DataW.Trod enc Try.prog W 0 (fun _ => true) true 3 v0 d0 p0) (k1 : Value.okWide Try.prog W .any base 3 v1) (h1 : DataW.Trod enc Try.prog W 0 (fun _ => true) true 3 v1 d1 p1) (k2 : Value.okWide Try.prog W .any base 3 v2) (h2 : DataW.Trod enc Try.prog W 0 (fun _ => true) true 3 v2 d2 p2) :
    Calls Try.prog 7 #[v0, v1, v2] W (Yes W) := by
  obtain ⟨a0, rfl, _, _, w0⟩ := open_int Try.underlying3 k0 h0
  obtain ⟨a1, rfl, _, _, w1⟩ := open_int Try.underlying3 k1 h1
  obtain ⟨a2, rfl, _, _, w2⟩ := open_int Try.underlying3 k2 h2
  exact WireOrder_core a0 a1 a2 W (I64.of w1) (I64.of w2) (I64.of w0)
end Go.Proofs.Ytblkmphbmmbecaa
