/- The walk of SpanPairs. -/
import Derived.Test.YtikpcpkclecciaaSpAw
namespace Go.Proofs.Ytikpcpkclecciaa
open Go.ChangeShapes Go.WideShapes Go.ChangeAt Go.RowKit

set_option maxHeartbeats 2000000 in
theorem SpanPairs_core (Aa : Option Addr) (na ca : Nat) (Ab : Option Addr) (nb cb : Nat) (a b : List Sp) (W : World) (hra : RdS W W.heap.size Aa na a) (hrb : RdS W W.heap.size Ab nb b) (hna : na ≤ 9223372036854775807) (hnb : nb ≤ 9223372036854775807) :
    Calls Try.prog 4 #[.slice Aa na ca, .slice Ab nb cb] W (Yes W) := by
  have Ra := Lib.hid hra
  have Rb := Lib.hid hrb
  have Ha := Lib.hid hra.1
  have Hb := Lib.hid hrb.1
  clear hra hrb
  go_enter Try.func4, Try.ntmps4
  go_wp2_with fail
  refine (awake4 _).mono ?_
  rintro e w1 ⟨rfl, hb1⟩
  have B := Lib.hid hb1
  clear hb1
  go_wp2_with fail
  refine (few_any Aa Ab na nb ca cb _ hna hnb).mono ?_
  rintro e w2 ⟨rfl, rfl⟩
  by_cases h40 : na ≤ 40 ∧ nb ≤ 40
  · obtain ⟨h41, h42⟩ := h40
    rw [show (decide (na ≤ 40) && decide (nb ≤ 40)) = true by simp [h41, h42]]
    have a0 : Hid (At w1 Aa na a) := ⟨(Ra.out.below B.out).more B.out.size, by omega⟩
    have b0 : Hid (At w1 Ab nb b) := ⟨(Rb.out.below B.out).more B.out.size, by omega⟩
    have Hl := Lib.hid (show ∀ what, (refS a b what).length ≤ 160 ∧ (refS a [] what).length ≤ 160 ∧ (refS b [] what).length ≤ 160 ∧ (refS b a what).length ≤ 160 by
      intro what
      have q1 := refS_len a b what
      have q2 := refS_len a [] what
      have q3 := refS_len b [] what
      have q4 := refS_len b a what
      have e1 := Ha.out
      have e2 := Hb.out
      simp only [List.length_nil] at *
      omega)
    clear Ra Rb Ha Hb h41 h42
    go_wp2_with fail
    refine (lOf ca cb 3 a0 b0 (.inr (.inr rfl)) (Nat.le_trans (Hl.out 3).1 (by decide))).mono ?_
    rintro e w3 ⟨As, ns, cs, rfl, s, hb, Ns⟩
    replace B := belG B hb
    replace a0 := At.keep a0 hb
    replace b0 := At.keep b0 hb
    clear hb
    go_wp2_with fail
    refine (lJoin ca cb a0 b0 (Nat.le_trans (Hl.out 1).1 (by decide))).mono ?_
    rintro e w4 ⟨Aj, nj, cj, rfl, j, hb, Nj⟩
    replace B := belG B hb
    replace a0 := At.keep a0 hb
    replace b0 := At.keep b0 hb
    replace s := At.keep s hb
    clear hb
    go_wp2_with fail
    refine (lOf ca cb 1 a0 b0 (.inl rfl) (Nat.le_trans (Hl.out 1).1 (by decide))).mono ?_
    rintro e w5 ⟨Ak, nk, ck, rfl, k, hb, Nk⟩
    replace B := belG B hb
    replace a0 := At.keep a0 hb
    replace b0 := At.keep b0 hb
    replace s := At.keep s hb
    replace j := At.keep j hb
    clear hb
    go_wp2_with fail
    refine (lYes cj ck j k rfl).mono ?_
    rintro e w6 ⟨rfl, hb⟩
    replace B := belG B hb
    replace a0 := At.keep a0 hb
    replace b0 := At.keep b0 hb
    replace s := At.keep s hb
    clear hb j k
    go_wp2_with fail
    refine (lMeet ca cb a0 b0 (Nat.le_trans (Hl.out 2).1 (by decide))).mono ?_
    rintro e w7 ⟨Am, nm, cm, rfl, m, hb, Nm⟩
    replace B := belG B hb
    replace a0 := At.keep a0 hb
    replace b0 := At.keep b0 hb
    replace s := At.keep s hb
    clear hb
    go_wp2_with fail
    refine (lOf ca cb 2 a0 b0 (.inr (.inl rfl)) (Nat.le_trans (Hl.out 2).1 (by decide))).mono ?_
    rintro e w8 ⟨Ao, no, co, rfl, o, hb, No⟩
    replace B := belG B hb
    replace a0 := At.keep a0 hb
    replace b0 := At.keep b0 hb
    replace s := At.keep s hb
    replace m := At.keep m hb
    clear hb
    go_wp2_with fail
    refine (lYes cm co m o rfl).mono ?_
    rintro e w9 ⟨rfl, hb⟩
    replace B := belG B hb
    replace a0 := At.keep a0 hb
    replace b0 := At.keep b0 hb
    replace s := At.keep s hb
    clear hb m o
    go_wp2_with fail
    refine (lLess ca cb a0 b0 (Nat.le_trans (Hl.out 3).1 (by decide))).mono ?_
    rintro e w10 ⟨Al, nl, cl, rfl, l, hb, Nl⟩
    replace B := belG B hb
    replace a0 := At.keep a0 hb
    replace b0 := At.keep b0 hb
    replace s := At.keep s hb
    clear hb
    go_wp2_with fail
    refine (lYes cl cs l s rfl).mono ?_
    rintro e w11 ⟨rfl, hb⟩
    replace B := belG B hb
    replace a0 := At.keep a0 hb
    replace b0 := At.keep b0 hb
    clear hb l s
    go_wp2_with fail
    have hq := Lib.hid (show decide (refS a b 3 = []) = decide (ns = 0) by rw [Ns.out]; simp)
    refine (lWithin ca cb a0 b0).mono ?_
    rw [hq.out]
    rintro e w12 ⟨rfl, hb⟩
    replace B := belG B hb
    clear hb a0 b0
    clear hq Ns Nl Nj Nk Nm No
    rcases Decidable.em (ns = 0) with rfl | h0
    · rw [show decide ((0 : Nat) = 0) = true from rfl]
      go_wp2_with fail
      go_ret
      exact ⟨rfl, B.out⟩
    · rw [show decide (ns = 0) = false from decide_eq_false h0]
      go_wp2_with fail
      go_ret
      exact ⟨by simp [h0], B.out⟩
  · rw [show (decide (na ≤ 40) && decide (nb ≤ 40)) = false by simp; omega]
    go_wp2_with fail
    go_ret
    exact ⟨rfl, B.out⟩

theorem SpanPairs_walk {H : Type} {enc : TypeId × Value → H} (W : World) (base : Nat) {v0 v1 : Value} {d0 : DataW H} {p0 : List MemPlace} {d1 : DataW H} {p1 : List MemPlace}
    (k0 : Value.okWide Try.prog W .any base 22 v0) (h0 : DataW.Trod enc Try.prog W 0 (fun _ => true) true 22 v0 d0 p0) (k1 : Value.okWide Try.prog W .any base 22 v1) (h1 : DataW.Trod enc Try.prog W 0 (fun _ => true) true 22 v1 d1 p1) :
    Calls Try.prog 4 #[v0, v1] W (Yes W) := by
  obtain ⟨A0, n0, c0, l0, rfl, hr0, hn0⟩ := ar_spans k0 h0
  obtain ⟨A1, n1, c1, l1, rfl, hr1, hn1⟩ := ar_spans k1 h1
  exact SpanPairs_core A0 n0 c0 A1 n1 c1 l0 l1 W hr0 hr1 hn0 hn1
end Go.Proofs.Ytikpcpkclecciaa
