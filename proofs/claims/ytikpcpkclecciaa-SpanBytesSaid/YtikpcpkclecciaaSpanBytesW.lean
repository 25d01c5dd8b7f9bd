/- The walk of SpanBytes. -/
import Derived.Test.YtikpcpkclecciaaSpC
namespace Go.Proofs.Ytikpcpkclecciaa
open Go.ChangeShapes Go.WideShapes Go.ChangeAt Go.RowKit

set_option maxHeartbeats 8000000 in
theorem SpanBytes_core (Aa : Option Addr) (na ca : Nat) (Ab : Option Addr) (nb cb : Nat) (a b : List Sp) (x : Int) (W : World) (hra : RdS W W.heap.size Aa na a) (hrb : RdS W W.heap.size Ab nb b) (hna : na ≤ 9223372036854775807) (hnb : nb ≤ 9223372036854775807) :
    Calls Try.prog 5 #[.slice Aa na ca, .slice Ab nb cb, .int .i64 x] W (Yes W) := by
  have Ra := Lib.hid hra
  have Rb := Lib.hid hrb
  have Ha := Lib.hid hra.1
  have Hb := Lib.hid hrb.1
  clear hra hrb
  go_enter Try.func5, Try.ntmps5
  go_wp2_with fail
  refine (awake4 _).mono ?_
  rintro e w1 ⟨rfl, hb1⟩
  have B := Lib.hid hb1
  clear hb1
  go_wp2_with fail
  refine (few_any Aa Ab na nb ca cb _ hna hnb).mono ?_
  rintro e w2 ⟨rfl, rfl⟩
  by_cases h40 : na ≤ 40 ∧ nb ≤ 40
  · obtain ⟨h41, h42⟩ := h40
    rw [show (decide (na ≤ 40) && decide (nb ≤ 40)) = true by simp [h41, h42]]
    have a0 : Hid (At w1 Aa na a) := ⟨(Ra.out.below B.out).more B.out.size, by omega⟩
    have b0 : Hid (At w1 Ab nb b) := ⟨(Rb.out.below B.out).more B.out.size, by omega⟩
    have Hl := Lib.hid (show ∀ what, (refS a b what).length ≤ 160 ∧ (refS a [] what).length ≤ 160 ∧ (refS b [] what).length ≤ 160 ∧ (refS b a what).length ≤ 160 by
      intro what
      have q1 := refS_len a b what
      have q2 := refS_len a [] what
      have q3 := refS_len b [] what
      have q4 := refS_len b a what
      have e1 := Ha.out
      have e2 := Hb.out
      simp only [List.length_nil] at *
      omega)
    clear Ra Rb Ha Hb h41 h42
    go_wp2_with fail
    refine (lJoin ca cb a0 b0 (Nat.le_trans (Hl.out 1).1 (by decide))).mono ?_
    rintro e w3 ⟨Aj, nj, cj, rfl, j, hb, Nj⟩
    replace B := belG B hb
    replace a0 := At.keep a0 hb
    replace b0 := At.keep b0 hb
    clear hb
    go_wp2_with fail
    refine (lMeet ca cb a0 b0 (Nat.le_trans (Hl.out 2).1 (by decide))).mono ?_
    rintro e w4 ⟨Am, nm, cm, rfl, m, hb, Nm⟩
    replace B := belG B hb
    replace a0 := At.keep a0 hb
    replace b0 := At.keep b0 hb
    replace j := At.keep j hb
    clear hb
    go_wp2_with fail
    refine (lLess ca cb a0 b0 (Nat.le_trans (Hl.out 3).1 (by decide))).mono ?_
    rintro e w5 ⟨Al, nl, cl, rfl, l, hb, Nl⟩
    replace B := belG B hb
    replace a0 := At.keep a0 hb
    replace b0 := At.keep b0 hb
    replace j := At.keep j hb
    replace m := At.keep m hb
    clear hb
    go_wp2_with fail
    rcases hX0 : hasB a x with _ | _ <;> rcases hY0 : hasB b x with _ | _
    · have hj := Lib.hid (show hasB (refS a b 1) x = false by rw [refS_has, hX0, hY0]; rfl)
      have hm := Lib.hid (show hasB (refS a b 2) x = false by rw [refS_has, hX0, hY0]; rfl)
      have hl := Lib.hid (show hasB (refS a b 3) x = false by rw [refS_has, hX0, hY0]; rfl)
      have hX := Lib.hid hX0
      have hY := Lib.hid hY0
      clear hX0 hY0
      refine (lHas ca x a0).mono ?_
      rw [hX.out]
      rintro e w6 ⟨rfl, hb⟩
      replace B := belG B hb
      replace a0 := At.keep a0 hb
      replace b0 := At.keep b0 hb
      replace j := At.keep j hb
      replace m := At.keep m hb
      replace l := At.keep l hb
      clear hb
      go_wp2_with fail
      refine (lHas cb x b0).mono ?_
      rw [hY.out]
      rintro e w7 ⟨rfl, hb⟩
      replace B := belG B hb
      replace a0 := At.keep a0 hb
      replace j := At.keep j hb
      replace m := At.keep m hb
      replace l := At.keep l hb
      clear hb b0
      go_wp2_with fail
      refine (lHas cj x j).mono ?_
      rw [hj.out]
      rintro e w8 ⟨rfl, hb⟩
      replace B := belG B hb
      replace a0 := At.keep a0 hb
      replace j := At.keep j hb
      replace m := At.keep m hb
      replace l := At.keep l hb
      clear hb
      go_wp2_with fail
      refine (lHas cm x m).mono ?_
      rw [hm.out]
      rintro e w9 ⟨rfl, hb⟩
      replace B := belG B hb
      replace a0 := At.keep a0 hb
      replace j := At.keep j hb
      replace m := At.keep m hb
      replace l := At.keep l hb
      clear hb
      go_wp2_with fail
      refine (lHas cl x l).mono ?_
      rw [hl.out]
      rintro e w10 ⟨rfl, hb⟩
      replace B := belG B hb
      replace a0 := At.keep a0 hb
      replace j := At.keep j hb
      replace m := At.keep m hb
      replace l := At.keep l hb
      clear hb
      go_wp2_with fail
      refine (lTidy cj j (refS_can a b 1)).mono ?_
      rintro e w11 ⟨rfl, hb⟩
      replace B := belG B hb
      replace a0 := At.keep a0 hb
      replace m := At.keep m hb
      replace l := At.keep l hb
      clear hb j
      go_wp2_with fail
      refine (lTidy cm m (refS_can a b 2)).mono ?_
      rintro e w12 ⟨rfl, hb⟩
      replace B := belG B hb
      replace a0 := At.keep a0 hb
      replace l := At.keep l hb
      clear hb m
      go_wp2_with fail
      refine (lTidy cl l (refS_can a b 3)).mono ?_
      rintro e w13 ⟨rfl, hb⟩
      replace B := belG B hb
      replace a0 := At.keep a0 hb
      clear hb l
      go_wp2_with fail
      refine (lClean ca a0 (Nat.le_trans (Hl.out 1).2.1 (by decide))).mono ?_
      rintro e w14 ⟨Ak, nk, ck, rfl, k, hb, Nk⟩
      replace B := belG B hb
      clear hb a0
      go_wp2_with fail
      refine (lTidy ck k (refS_can a [] 1)).mono ?_
      rintro e w15 ⟨rfl, hb⟩
      replace B := belG B hb
      clear hb k
      go_wp2_with fail
      go_ret
      exact ⟨rfl, B.out⟩
    · have hj := Lib.hid (show hasB (refS a b 1) x = true by rw [refS_has, hX0, hY0]; rfl)
      have hm := Lib.hid (show hasB (refS a b 2) x = false by rw [refS_has, hX0, hY0]; rfl)
      have hl := Lib.hid (show hasB (refS a b 3) x = false by rw [refS_has, hX0, hY0]; rfl)
      have hX := Lib.hid hX0
      have hY := Lib.hid hY0
      clear hX0 hY0
      refine (lHas ca x a0).mono ?_
      rw [hX.out]
      rintro e w6 ⟨rfl, hb⟩
      replace B := belG B hb
      replace a0 := At.keep a0 hb
      replace b0 := At.keep b0 hb
      replace j := At.keep j hb
      replace m := At.keep m hb
      replace l := At.keep l hb
      clear hb
      go_wp2_with fail
      refine (lHas cb x b0).mono ?_
      rw [hY.out]
      rintro e w7 ⟨rfl, hb⟩
      replace B := belG B hb
      replace a0 := At.keep a0 hb
      replace j := At.keep j hb
      replace m := At.keep m hb
      replace l := At.keep l hb
      clear hb b0
      go_wp2_with fail
      refine (lHas cj x j).mono ?_
      rw [hj.out]
      rintro e w8 ⟨rfl, hb⟩
      replace B := belG B hb
      replace a0 := At.keep a0 hb
      replace j := At.keep j hb
      replace m := At.keep m hb
      replace l := At.keep l hb
      clear hb
      go_wp2_with fail
      refine (lHas cm x m).mono ?_
      rw [hm.out]
      rintro e w9 ⟨rfl, hb⟩
      replace B := belG B hb
      replace a0 := At.keep a0 hb
      replace j := At.keep j hb
      replace m := At.keep m hb
      replace l := At.keep l hb
      clear hb
      go_wp2_with fail
      refine (lHas cl x l).mono ?_
      rw [hl.out]
      rintro e w10 ⟨rfl, hb⟩
      replace B := belG B hb
      replace a0 := At.keep a0 hb
      replace j := At.keep j hb
      replace m := At.keep m hb
      replace l := At.keep l hb
      clear hb
      go_wp2_with fail
      refine (lTidy cj j (refS_can a b 1)).mono ?_
      rintro e w11 ⟨rfl, hb⟩
      replace B := belG B hb
      replace a0 := At.keep a0 hb
      replace m := At.keep m hb
      replace l := At.keep l hb
      clear hb j
      go_wp2_with fail
      refine (lTidy cm m (refS_can a b 2)).mono ?_
      rintro e w12 ⟨rfl, hb⟩
      replace B := belG B hb
      replace a0 := At.keep a0 hb
      replace l := At.keep l hb
      clear hb m
      go_wp2_with fail
      refine (lTidy cl l (refS_can a b 3)).mono ?_
      rintro e w13 ⟨rfl, hb⟩
      replace B := belG B hb
      replace a0 := At.keep a0 hb
      clear hb l
      go_wp2_with fail
      refine (lClean ca a0 (Nat.le_trans (Hl.out 1).2.1 (by decide))).mono ?_
      rintro e w14 ⟨Ak, nk, ck, rfl, k, hb, Nk⟩
      replace B := belG B hb
      clear hb a0
      go_wp2_with fail
      refine (lTidy ck k (refS_can a [] 1)).mono ?_
      rintro e w15 ⟨rfl, hb⟩
      replace B := belG B hb
      clear hb k
      go_wp2_with fail
      go_ret
      exact ⟨rfl, B.out⟩
    · have hj := Lib.hid (show hasB (refS a b 1) x = true by rw [refS_has, hX0, hY0]; rfl)
      have hm := Lib.hid (show hasB (refS a b 2) x = false by rw [refS_has, hX0, hY0]; rfl)
      have hl := Lib.hid (show hasB (refS a b 3) x = true by rw [refS_has, hX0, hY0]; rfl)
      have hX := Lib.hid hX0
      have hY := Lib.hid hY0
      clear hX0 hY0
      refine (lHas ca x a0).mono ?_
      rw [hX.out]
      rintro e w6 ⟨rfl, hb⟩
      replace B := belG B hb
      replace a0 := At.keep a0 hb
      replace b0 := At.keep b0 hb
      replace j := At.keep j hb
      replace m := At.keep m hb
      replace l := At.keep l hb
      clear hb
      go_wp2_with fail
      refine (lHas cb x b0).mono ?_
      rw [hY.out]
      rintro e w7 ⟨rfl, hb⟩
      replace B := belG B hb
      replace a0 := At.keep a0 hb
      replace j := At.keep j hb
      replace m := At.keep m hb
      replace l := At.keep l hb
      clear hb b0
      go_wp2_with fail
      refine (lHas cj x j).mono ?_
      rw [hj.out]
      rintro e w8 ⟨rfl, hb⟩
      replace B := belG B hb
      replace a0 := At.keep a0 hb
      replace j := At.keep j hb
      replace m := At.keep m hb
      replace l := At.keep l hb
      clear hb
      go_wp2_with fail
      refine (lHas cm x m).mono ?_
      rw [hm.out]
      rintro e w9 ⟨rfl, hb⟩
      replace B := belG B hb
      replace a0 := At.keep a0 hb
      replace j := At.keep j hb
      replace m := At.keep m hb
      replace l := At.keep l hb
      clear hb
      go_wp2_with fail
      refine (lHas cl x l).mono ?_
      rw [hl.out]
      rintro e w10 ⟨rfl, hb⟩
      replace B := belG B hb
      replace a0 := At.keep a0 hb
      replace j := At.keep j hb
      replace m := At.keep m hb
      replace l := At.keep l hb
      clear hb
      go_wp2_with fail
      refine (lTidy cj j (refS_can a b 1)).mono ?_
      rintro e w11 ⟨rfl, hb⟩
      replace B := belG B hb
      replace a0 := At.keep a0 hb
      replace m := At.keep m hb
      replace l := At.keep l hb
      clear hb j
      go_wp2_with fail
      refine (lTidy cm m (refS_can a b 2)).mono ?_
      rintro e w12 ⟨rfl, hb⟩
      replace B := belG B hb
      replace a0 := At.keep a0 hb
      replace l := At.keep l hb
      clear hb m
      go_wp2_with fail
      refine (lTidy cl l (refS_can a b 3)).mono ?_
      rintro e w13 ⟨rfl, hb⟩
      replace B := belG B hb
      replace a0 := At.keep a0 hb
      clear hb l
      go_wp2_with fail
      refine (lClean ca a0 (Nat.le_trans (Hl.out 1).2.1 (by decide))).mono ?_
      rintro e w14 ⟨Ak, nk, ck, rfl, k, hb, Nk⟩
      replace B := belG B hb
      clear hb a0
      go_wp2_with fail
      refine (lTidy ck k (refS_can a [] 1)).mono ?_
      rintro e w15 ⟨rfl, hb⟩
      replace B := belG B hb
      clear hb k
      go_wp2_with fail
      go_ret
      exact ⟨rfl, B.out⟩
    · have hj := Lib.hid (show hasB (refS a b 1) x = true by rw [refS_has, hX0, hY0]; rfl)
      have hm := Lib.hid (show hasB (refS a b 2) x = true by rw [refS_has, hX0, hY0]; rfl)
      have hl := Lib.hid (show hasB (refS a b 3) x = false by rw [refS_has, hX0, hY0]; rfl)
      have hX := Lib.hid hX0
      have hY := Lib.hid hY0
      clear hX0 hY0
      refine (lHas ca x a0).mono ?_
      rw [hX.out]
      rintro e w6 ⟨rfl, hb⟩
      replace B := belG B hb
      replace a0 := At.keep a0 hb
      replace b0 := At.keep b0 hb
      replace j := At.keep j hb
      replace m := At.keep m hb
      replace l := At.keep l hb
      clear hb
      go_wp2_with fail
      refine (lHas cb x b0).mono ?_
      rw [hY.out]
      rintro e w7 ⟨rfl, hb⟩
      replace B := belG B hb
      replace a0 := At.keep a0 hb
      replace j := At.keep j hb
      replace m := At.keep m hb
      replace l := At.keep l hb
      clear hb b0
      go_wp2_with fail
      refine (lHas cj x j).mono ?_
      rw [hj.out]
      rintro e w8 ⟨rfl, hb⟩
      replace B := belG B hb
      replace a0 := At.keep a0 hb
      replace j := At.keep j hb
      replace m := At.keep m hb
      replace l := At.keep l hb
      clear hb
      go_wp2_with fail
      refine (lHas cm x m).mono ?_
      rw [hm.out]
      rintro e w9 ⟨rfl, hb⟩
      replace B := belG B hb
      replace a0 := At.keep a0 hb
      replace j := At.keep j hb
      replace m := At.keep m hb
      replace l := At.keep l hb
      clear hb
      go_wp2_with fail
      refine (lHas cl x l).mono ?_
      rw [hl.out]
      rintro e w10 ⟨rfl, hb⟩
      replace B := belG B hb
      replace a0 := At.keep a0 hb
      replace j := At.keep j hb
      replace m := At.keep m hb
      replace l := At.keep l hb
      clear hb
      go_wp2_with fail
      refine (lTidy cj j (refS_can a b 1)).mono ?_
      rintro e w11 ⟨rfl, hb⟩
      replace B := belG B hb
      replace a0 := At.keep a0 hb
      replace m := At.keep m hb
      replace l := At.keep l hb
      clear hb j
      go_wp2_with fail
      refine (lTidy cm m (refS_can a b 2)).mono ?_
      rintro e w12 ⟨rfl, hb⟩
      replace B := belG B hb
      replace a0 := At.keep a0 hb
      replace l := At.keep l hb
      clear hb m
      go_wp2_with fail
      refine (lTidy cl l (refS_can a b 3)).mono ?_
      rintro e w13 ⟨rfl, hb⟩
      replace B := belG B hb
      replace a0 := At.keep a0 hb
      clear hb l
      go_wp2_with fail
      refine (lClean ca a0 (Nat.le_trans (Hl.out 1).2.1 (by decide))).mono ?_
      rintro e w14 ⟨Ak, nk, ck, rfl, k, hb, Nk⟩
      replace B := belG B hb
      clear hb a0
      go_wp2_with fail
      refine (lTidy ck k (refS_can a [] 1)).mono ?_
      rintro e w15 ⟨rfl, hb⟩
      replace B := belG B hb
      clear hb k
      go_wp2_with fail
      go_ret
      exact ⟨rfl, B.out⟩
  · rw [show (decide (na ≤ 40) && decide (nb ≤ 40)) = false by simp; omega]
    go_wp2_with fail
    go_ret
    exact ⟨rfl, B.out⟩

theorem SpanBytes_walk {H : Type} {enc : TypeId × Value → H} (W : World) (base : Nat) {v0 v1 v2 : Value} {d0 : DataW H} {p0 : List MemPlace} {d1 : DataW H} {p1 : List MemPlace} {d2 : DataW H} {p2 : List MemPlace}
    (k0 : Value.okWide Try.prog W .any base 22 v0) (h0 : DataW.Trod enc Try.prog W 0 (fun _ => true) true 22 v0 d0 p0) (k1 : Value.okWide Try.prog W .any base 22 v1) (h1 : DataW.Trod enc Try.prog W 0 (fun _ => true) true 22 v1 d1 p1) (k2 : Value.okWide Try.prog W .any base 3 v2) (h2 : DataW.Trod enc Try.prog W 0 (fun _ => true) true 3 v2 d2 p2) :
    Calls Try.prog 5 #[v0, v1, v2] W (Yes W) := by
  obtain ⟨A0, n0, c0, l0, rfl, hr0, hn0⟩ := ar_spans k0 h0
  obtain ⟨A1, n1, c1, l1, rfl, hr1, hn1⟩ := ar_spans k1 h1
  obtain ⟨x, rfl, _⟩ := ar_int Try.underlying3 k2 h2
  exact SpanBytes_core A0 n0 c0 A1 n1 c1 l0 l1 x W hr0 hr1 hn0 hn1
end Go.Proofs.Ytikpcpkclecciaa
