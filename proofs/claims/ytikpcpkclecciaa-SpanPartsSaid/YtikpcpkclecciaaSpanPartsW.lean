/- The walk of SpanParts. -/
import Derived.Test.YtikpcpkclecciaaSpAw
namespace Go.Proofs.Ytikpcpkclecciaa
open Go.ChangeShapes Go.WideShapes Go.ChangeAt Go.RowKit

set_option maxHeartbeats 2000000 in
theorem SpanParts_core (Aa : Option Addr) (na ca : Nat) (Ab : Option Addr) (nb cb : Nat) (a b : List Sp) (W : World) (hra : RdS W W.heap.size Aa na a) (hrb : RdS W W.heap.size Ab nb b) (hna : na ≤ 9223372036854775807) (hnb : nb ≤ 9223372036854775807) :
    Calls Try.prog 6 #[.slice Aa na ca, .slice Ab nb cb] W (Yes W) := by
  have Ra := Lib.hid hra
  have Rb := Lib.hid hrb
  have Ha := Lib.hid hra.1
  have Hb := Lib.hid hrb.1
  clear hra hrb
  go_enter Try.func6, Try.ntmps6
  go_wp2_with fail
  refine (awake4 _).mono ?_
  rintro e w1 ⟨rfl, hb1⟩
  have B := Lib.hid hb1
  clear hb1
  go_wp2_with fail
  refine (few_any Aa Ab na nb ca cb _ hna hnb).mono ?_
  rintro e w2 ⟨rfl, rfl⟩
  by_cases h40 : na ≤ 40 ∧ nb ≤ 40
  · obtain ⟨h41, h42⟩ := h40
    rw [show (decide (na ≤ 40) && decide (nb ≤ 40)) = true by simp [h41, h42]]
    have a0 : Hid (At w1 Aa na a) := ⟨(Ra.out.below B.out).more B.out.size, by omega⟩
    have b0 : Hid (At w1 Ab nb b) := ⟨(Rb.out.below B.out).more B.out.size, by omega⟩
    have Hl := Lib.hid (show ∀ what, (refS a b what).length ≤ 160 ∧ (refS a [] what).length ≤ 160 ∧ (refS b [] what).length ≤ 160 ∧ (refS b a what).length ≤ 160 by
      intro what
      have q1 := refS_len a b what
      have q2 := refS_len a [] what
      have q3 := refS_len b [] what
      have q4 := refS_len b a what
      have e1 := Ha.out
      have e2 := Hb.out
      simp only [List.length_nil] at *
      omega)
    clear Ra Rb Ha Hb h41 h42
    go_wp2_with fail
    refine (lMeet ca cb a0 b0 (Nat.le_trans (Hl.out 2).1 (by decide))).mono ?_
    rintro e w3 ⟨Am, nm, cm, rfl, m, hb, Nm⟩
    replace B := belG B hb
    replace a0 := At.keep a0 hb
    replace b0 := At.keep b0 hb
    clear hb
    go_wp2_with fail
    refine (lLess ca cb a0 b0 (Nat.le_trans (Hl.out 3).1 (by decide))).mono ?_
    rintro e w4 ⟨Al, nl, cl, rfl, l, hb, Nl⟩
    replace B := belG B hb
    replace a0 := At.keep a0 hb
    replace b0 := At.keep b0 hb
    replace m := At.keep m hb
    clear hb
    go_wp2_with fail
    refine (lJoin cm cl m l (by rw [parts1]; exact (Nat.le_trans (Hl.out 1).2.1 (by decide)))).mono ?_
    rw [parts1]
    rintro e w5 ⟨Aj, nj, cj, rfl, j, hb, Nj⟩
    replace B := belG B hb
    replace a0 := At.keep a0 hb
    replace b0 := At.keep b0 hb
    replace m := At.keep m hb
    replace l := At.keep l hb
    clear hb
    go_wp2_with fail
    refine (lClean ca a0 (Nat.le_trans (Hl.out 1).2.1 (by decide))).mono ?_
    rintro e w6 ⟨Ak, nk, ck, rfl, k, hb, Nk⟩
    replace B := belG B hb
    replace a0 := At.keep a0 hb
    replace b0 := At.keep b0 hb
    replace m := At.keep m hb
    replace l := At.keep l hb
    replace j := At.keep j hb
    clear hb
    go_wp2_with fail
    refine (lYes cj ck j k rfl).mono ?_
    rintro e w7 ⟨rfl, hb⟩
    replace B := belG B hb
    replace a0 := At.keep a0 hb
    replace b0 := At.keep b0 hb
    replace m := At.keep m hb
    replace l := At.keep l hb
    clear hb j k
    go_wp2_with fail
    refine (lMeet cm cl m l (by rw [parts2]; decide)).mono ?_
    rw [parts2]
    rintro e w8 ⟨Az, nz, cz, rfl, z, hb, Nz⟩
    replace B := belG B hb
    replace a0 := At.keep a0 hb
    replace b0 := At.keep b0 hb
    replace m := At.keep m hb
    replace l := At.keep l hb
    clear hb
    obtain rfl : nz = 0 := Nz.out
    clear Nz z
    go_wp2_with fail
    have hp := Lib.hid (parts3 a b)
    have q1 := CanF.sum (refS_can (refS a b 2) [] 1)
    have q2 := CanF.sum (refS_can (refS a b 3) [] 1)
    have q3 := Lib.hid (sum_le (refS a b 2) [] 1)
    have q4 := Lib.hid (sum_le (refS a b 3) [] 1)
    have q5 := q1.1
    have q6 := q2.1
    clear q1 q2
    generalize hS1 : sumS (refS (refS a b 2) [] 1) = S1 at hp q3 q5
    generalize hS2 : sumS (refS (refS a b 3) [] 1) = S2 at hp q4 q6
    have q7 := q3.out
    have q8 := q4.out
    clear q3 q4
    have HS1 := Lib.hid hS1
    have HS2 := Lib.hid hS2
    clear hS1 hS2
    refine (lMany cm m).mono ?_
    rw [HS1.out]
    rintro e w9 ⟨rfl, hb⟩
    replace B := belG B hb
    replace a0 := At.keep a0 hb
    replace b0 := At.keep b0 hb
    replace m := At.keep m hb
    replace l := At.keep l hb
    clear hb
    go_wp2_with fail
    refine (lMany cl l).mono ?_
    rw [HS2.out]
    rintro e w10 ⟨rfl, hb⟩
    replace B := belG B hb
    replace a0 := At.keep a0 hb
    replace b0 := At.keep b0 hb
    replace m := At.keep m hb
    replace l := At.keep l hb
    clear hb
    go_wp2_with fail
    refine (lMany ca a0).mono ?_
    rw [← hp.out]
    rintro e w11 ⟨rfl, hb⟩
    replace B := belG B hb
    replace a0 := At.keep a0 hb
    replace b0 := At.keep b0 hb
    replace m := At.keep m hb
    replace l := At.keep l hb
    clear hb
    go_wp2_with fail
    refine (lWithin cm cb m b0).mono ?_
    rw [decide_eq_true (parts4 a b)]
    rintro e w12 ⟨rfl, hb⟩
    replace B := belG B hb
    replace a0 := At.keep a0 hb
    replace l := At.keep l hb
    clear hb m b0
    go_wp2_with fail
    refine (lWithin cl ca l a0).mono ?_
    rw [decide_eq_true (parts5 a b)]
    rintro e w13 ⟨rfl, hb⟩
    replace B := belG B hb
    clear hb l a0
    go_wp2_with fail
    go_ret
    exact ⟨rfl, B.out⟩
  · rw [show (decide (na ≤ 40) && decide (nb ≤ 40)) = false by simp; omega]
    go_wp2_with fail
    go_ret
    exact ⟨rfl, B.out⟩

theorem SpanParts_walk {H : Type} {enc : TypeId × Value → H} (W : World) (base : Nat) {v0 v1 : Value} {d0 : DataW H} {p0 : List MemPlace} {d1 : DataW H} {p1 : List MemPlace}
    (k0 : Value.okWide Try.prog W .any base 22 v0) (h0 : DataW.Trod enc Try.prog W 0 (fun _ => true) true 22 v0 d0 p0) (k1 : Value.okWide Try.prog W .any base 22 v1) (h1 : DataW.Trod enc Try.prog W 0 (fun _ => true) true 22 v1 d1 p1) :
    Calls Try.prog 6 #[v0, v1] W (Yes W) := by
  obtain ⟨A0, n0, c0, l0, rfl, hr0, hn0⟩ := ar_spans k0 h0
  obtain ⟨A1, n1, c1, l1, rfl, hr1, hn1⟩ := ar_spans k1 h1
  exact SpanParts_core A0 n0 c0 A1 n1 c1 l0 l1 W hr0 hr1 hn0 hn1
end Go.Proofs.Ytikpcpkclecciaa
