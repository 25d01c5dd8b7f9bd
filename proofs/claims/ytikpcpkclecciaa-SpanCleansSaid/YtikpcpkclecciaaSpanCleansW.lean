/- The walk of SpanCleans. -/
import Derived.Test.YtikpcpkclecciaaSpAw
namespace Go.Proofs.Ytikpcpkclecciaa
open Go.ChangeShapes Go.WideShapes Go.ChangeAt Go.RowKit

set_option maxHeartbeats 1000000 in
theorem SpanCleans_core (A : Option Addr) (n c : Nat) (l : List Sp) (x : Int) (W : World) (hr : RdS W W.heap.size A n l) (hn : n ≤ 9223372036854775807) :
    Calls Try.prog 3 #[.slice A n c, .int .i64 x] W (Yes W) := by
  have R0 := Lib.hid hr
  have hl := Lib.hid hr.1
  clear hr
  go_enter Try.func3, Try.ntmps3
  go_wp2_with fail
  refine (awake4 _).mono ?_
  rintro e w1 ⟨rfl, hb1⟩
  have B1 := Lib.hid hb1
  clear hb1
  go_wp2_with fail
  refine (few_any A none n 0 c 0 _ hn (by omega)).mono ?_
  rintro e w2 ⟨rfl, rfl⟩
  by_cases h40 : n ≤ 40
  · rw [show (decide (n ≤ 40) && decide (0 ≤ 40)) = true by simp [h40]]
    have hk := Lib.hid (show (refS l [] 1).length ≤ 200 by have := refS_len l [] 1; have := hl.out; simp only [List.length_nil] at *; omega)
    have C1 : Hid (At w1 A n l) := ⟨(R0.out.below B1.out).more B1.out.size, by omega⟩
    clear R0 hl
    go_wp2_with fail
    refine (lClean c C1 hk.out).mono ?_
    rintro e w3 ⟨A2, n2, c2, rfl, D1, hb, _⟩
    have B2 := belG B1 hb
    have C2 := At.keep C1 hb
    clear B1 C1 hb
    go_wp2_with fail
    refine (lRClean c C2 hk.out).mono ?_
    rintro e w4 ⟨A3, n3, c3, rfl, E1, hb, _⟩
    have B3 := belG B2 hb
    have C3 := At.keep C2 hb
    have D2 := At.keep D1 hb
    clear B2 C2 D1 hb
    go_wp2_with fail
    refine (lYes c2 c3 D2 E1 rfl).mono ?_
    rintro e w5 ⟨rfl, hb⟩
    have B4 := belG B3 hb
    have C4 := At.keep C3 hb
    clear B3 C3 D2 E1 hb
    go_wp2_with fail
    refine (lMany c C4).mono ?_
    generalize hS : sumS (refS l [] 1) = S
    have HS := Lib.hid hS
    clear hS
    rintro e w6 ⟨rfl, hb⟩
    have B5 := belG B4 hb
    have C5 := At.keep C4 hb
    clear B4 C4 hb
    go_wp2_with fail
    refine (lRMany c C5).mono ?_
    rw [HS.out]
    rintro e w7 ⟨rfl, hb⟩
    have B6 := belG B5 hb
    have C6 := At.keep C5 hb
    clear B5 C5 hb
    go_wp2_with fail
    refine (lHas c x C6).mono ?_
    generalize hT : hasB l x = T
    have HT := Lib.hid hT
    clear hT
    rintro e w8 ⟨rfl, hb⟩
    have B7 := belG B6 hb
    have C7 := At.keep C6 hb
    clear B6 C6 hb
    go_wp2_with fail
    refine (lRHas c x C7).mono ?_
    rw [HT.out]
    rintro e w9 ⟨rfl, hb⟩
    have B8 := belG B7 hb
    clear B7 C7 hb
    go_wp2_with fail
    go_ret
    exact ⟨rfl, B8.out⟩
  · rw [show (decide (n ≤ 40) && decide (0 ≤ 40)) = false by simp [h40]]
    go_wp2_with fail
    go_ret
    exact ⟨rfl, B1.out⟩

theorem SpanCleans_walk {H : Type} {enc : TypeId × Value → H} (W : World) (base : Nat) {v0 v1 : Value} {d0 : DataW H} {p0 : List MemPlace} {d1 : DataW H} {p1 : List MemPlace}
    (k0 : Value.okWide Try.prog W .any base 22 v0) (h0 : DataW.Trod enc Try.prog W 0 (fun _ => true) true 22 v0 d0 p0) (k1 : Value.okWide Try.prog W .any base 3 v1) (h1 : DataW.Trod enc Try.prog W 0 (fun _ => true) true 3 v1 d1 p1) :
    Calls Try.prog 3 #[v0, v1] W (Yes W) := by
  obtain ⟨A, n, c, l, rfl, hr, hn⟩ := ar_spans k0 h0
  obtain ⟨x, rfl, _⟩ := ar_int Try.underlying3 k1 h1
  exact SpanCleans_core A n c l x W hr hn
end Go.Proofs.Ytikpcpkclecciaa
