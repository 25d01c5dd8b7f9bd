/- The walk of SpanTurned. -/
import Derived.Test.YtikpcpkclecciaaSpAw
namespace Go.Proofs.Ytikpcpkclecciaa
open Go.ChangeShapes Go.WideShapes Go.ChangeAt Go.RowKit

set_option maxRecDepth 10000 in
set_option maxHeartbeats 4000000 in
theorem SpanTurned_core (Aa : Option Addr) (na ca : Nat) (Ab : Option Addr) (nb cb : Nat) (a b : List Sp) (W : World) (hra : RdS W W.heap.size Aa na a) (hrb : RdS W W.heap.size Ab nb b) (hna : na ≤ 9223372036854775807) (hnb : nb ≤ 9223372036854775807) :
    Calls Try.prog 7 #[.slice Aa na ca, .slice Ab nb cb] W (Yes W) := by
  obtain ⟨i, hi, hz0, hz1, hz2⟩ := info_parts Try.infoS
  have Ra := Lib.hid hra
  have Rb := Lib.hid hrb
  have Ha := Lib.hid hra.1
  have Hb := Lib.hid hrb.1
  clear hra hrb
  go_enter Try.func7, Try.ntmps7
  go_wp2_with fail
  refine (awake4 _).mono ?_
  rintro e w1 ⟨rfl, hb1⟩
  have B := Lib.hid hb1
  clear hb1
  go_wp2_with fail
  refine (few_any Aa Ab na nb ca cb _ hna hnb).mono ?_
  rintro e w2 ⟨rfl, rfl⟩
  by_cases h40 : na ≤ 40 ∧ nb ≤ 40
  · obtain ⟨h41, h42⟩ := h40
    rw [show (decide (na ≤ 40) && decide (nb ≤ 40)) = true by simp [h41, h42]]
    have a0 : Hid (At w1 Aa na a) := ⟨(Ra.out.below B.out).more B.out.size, by omega⟩
    have b0 : Hid (At w1 Ab nb b) := ⟨(Rb.out.below B.out).more B.out.size, by omega⟩
    have Hl := Lib.hid (show ∀ what, (refS a b what).length ≤ 160 ∧ (refS a [] what).length ≤ 160 ∧ (refS b [] what).length ≤ 160 ∧ (refS b a what).length ≤ 160 by
      intro what
      have q1 := refS_len a b what
      have q2 := refS_len a [] what
      have q3 := refS_len b [] what
      have q4 := refS_len b a what
      have e1 := Ha.out
      have e2 := Hb.out
      simp only [List.length_nil] at *
      omega)
    clear Ra Rb Ha Hb h41 h42
    go_wp2_with fail
    have Hna := Lib.hid a0.out.1.1
    have hna2 := a0.out.2
    go_loopw [7, 8] (fun v k wr => ∃ (j : Nat) (z : Int), j ≤ na ∧ Hid (z + 1 = j) ∧ k = .int .i64 z ∧ Hid (wr.ownsRow w1.heap.size 33 2 v (na - j) (flatS (a.drop j).reverse)) ∧ Hid (Below w1.heap.size w1 wr)) (fun _ k _ => (intOf k + 1).toNat)
    case atStart =>
      refine ⟨na, _, Nat.le_refl _, Lib.hid (by omega), rfl, ?_, Lib.hid (Below.refl _ _)⟩
      rw [List.drop_eq_nil_of_le (by rw [Hna.out]; exact Nat.le_refl _), Nat.sub_self]
      exact Lib.hid (World.ownsRow_nil _ _ _ _)
    case round =>
      obtain ⟨j, z, hj, Hz, rfl, Hown, Hbr⟩ := hrel
      rcases j with _ | k
      · obtain rfl : z = -1 := by have := Hz.out; omega
        have hT := Hown.out
        rw [Nat.sub_zero, List.drop_zero] at hT
        obtain ⟨A7, c7, rfl, _, _⟩ := ownF hT
        have t0 : Hid (At wr A7 na a.reverse) := ⟨RdS.own hT (by rw [List.length_reverse]; exact Hna.out), by omega⟩
        replace B := belG B Hbr
        replace a0 := At.keep a0 Hbr
        replace b0 := At.keep b0 Hbr
        clear hT Hown Hbr Hz hj
        go_wp2_with fail
        refine (lClean ca a0 (Nat.le_trans (Hl.out 1).2.1 (by decide))).mono ?_
        rintro e w3 ⟨Ac, nc, cc, rfl, c, hb, Nc⟩
        replace B := belG B hb
        replace a0 := At.keep a0 hb
        replace b0 := At.keep b0 hb
        replace t0 := At.keep t0 hb
        clear hb
        go_wp2_with fail
        refine (lClean c7 t0 (by rw [turn1]; exact (Nat.le_trans (Hl.out 1).2.1 (by decide)))).mono ?_
        rw [turn1]
        rintro e w4 ⟨Ay, ny, cy, rfl, y, hb, Ny⟩
        replace B := belG B hb
        replace a0 := At.keep a0 hb
        replace b0 := At.keep b0 hb
        replace t0 := At.keep t0 hb
        replace c := At.keep c hb
        clear hb
        go_wp2_with fail
        refine (lYes cy cc y c rfl).mono ?_
        rintro e w5 ⟨rfl, hb⟩
        replace B := belG B hb
        replace a0 := At.keep a0 hb
        replace b0 := At.keep b0 hb
        replace t0 := At.keep t0 hb
        replace c := At.keep c hb
        clear hb y
        go_wp2_with fail
        refine (lClean cc c (by rw [turn2]; exact (Nat.le_trans (Hl.out 1).2.1 (by decide)))).mono ?_
        rw [turn2]
        rintro e w6 ⟨Au, nu, cu, rfl, u, hb, Nu⟩
        replace B := belG B hb
        replace a0 := At.keep a0 hb
        replace b0 := At.keep b0 hb
        replace t0 := At.keep t0 hb
        replace c := At.keep c hb
        clear hb
        go_wp2_with fail
        refine (lYes cu cc u c rfl).mono ?_
        rintro e w7 ⟨rfl, hb⟩
        replace B := belG B hb
        replace a0 := At.keep a0 hb
        replace b0 := At.keep b0 hb
        replace t0 := At.keep t0 hb
        replace c := At.keep c hb
        clear hb u
        go_wp2_with fail
        refine (lJoin ca cb a0 b0 (Nat.le_trans (Hl.out 1).1 (by decide))).mono ?_
        rintro e w8 ⟨Aj, nj, cj, rfl, j, hb, Nj⟩
        replace B := belG B hb
        replace a0 := At.keep a0 hb
        replace b0 := At.keep b0 hb
        replace t0 := At.keep t0 hb
        replace c := At.keep c hb
        clear hb
        go_wp2_with fail
        refine (lJoin cb ca b0 a0 (Nat.le_trans (Hl.out 1).2.2.2 (by decide))).mono ?_
        rintro e w9 ⟨Ak, nk, ck, rfl, k, hb, Nk⟩
        replace B := belG B hb
        replace a0 := At.keep a0 hb
        replace b0 := At.keep b0 hb
        replace t0 := At.keep t0 hb
        replace c := At.keep c hb
        replace j := At.keep j hb
        clear hb
        go_wp2_with fail
        refine (lYes cj ck j k (turn3 a b)).mono ?_
        rintro e w10 ⟨rfl, hb⟩
        replace B := belG B hb
        replace a0 := At.keep a0 hb
        replace b0 := At.keep b0 hb
        replace t0 := At.keep t0 hb
        replace c := At.keep c hb
        clear hb j k
        go_wp2_with fail
        refine (lMeet ca cb a0 b0 (Nat.le_trans (Hl.out 2).1 (by decide))).mono ?_
        rintro e w11 ⟨Am, nm, cm, rfl, m, hb, Nm⟩
        replace B := belG B hb
        replace a0 := At.keep a0 hb
        replace b0 := At.keep b0 hb
        replace t0 := At.keep t0 hb
        replace c := At.keep c hb
        clear hb
        go_wp2_with fail
        refine (lMeet cb ca b0 a0 (Nat.le_trans (Hl.out 2).2.2.2 (by decide))).mono ?_
        rintro e w12 ⟨An, nn, cn, rfl, n, hb, Nn⟩
        replace B := belG B hb
        replace a0 := At.keep a0 hb
        replace b0 := At.keep b0 hb
        replace t0 := At.keep t0 hb
        replace c := At.keep c hb
        replace m := At.keep m hb
        clear hb
        go_wp2_with fail
        refine (lYes cm cn m n (turn4 a b)).mono ?_
        rintro e w13 ⟨rfl, hb⟩
        replace B := belG B hb
        replace a0 := At.keep a0 hb
        replace t0 := At.keep t0 hb
        replace c := At.keep c hb
        clear hb m n b0
        go_wp2_with fail
        refine (lJoin ca c7 a0 t0 (by rw [turn5]; exact (Nat.le_trans (Hl.out 1).2.1 (by decide)))).mono ?_
        rw [turn5]
        rintro e w14 ⟨Ao, no, co, rfl, o, hb, No⟩
        replace B := belG B hb
        replace a0 := At.keep a0 hb
        replace t0 := At.keep t0 hb
        replace c := At.keep c hb
        clear hb
        go_wp2_with fail
        refine (lYes co cc o c rfl).mono ?_
        rintro e w15 ⟨rfl, hb⟩
        replace B := belG B hb
        replace a0 := At.keep a0 hb
        replace t0 := At.keep t0 hb
        clear hb o c
        go_wp2_with fail
        refine (lLess ca c7 a0 t0 (by rw [turn6]; decide)).mono ?_
        rw [turn6]
        rintro e w16 ⟨Az, nz, cz, rfl, z, hb, Nz⟩
        replace B := belG B hb
        clear hb a0 t0
        obtain rfl : nz = 0 := Nz.out
        clear Nz z
        go_wp2_with fail
        go_ret
        exact ⟨rfl, B.out⟩
      · obtain rfl : z = (k : Int) := by have := Hz.out; omega
        have hkl : k < a.length := by rw [← Hna.out]; omega
        obtain ⟨g, o, rfl, hg, hcl⟩ := (a0.out.1.below Hbr.out).2 (by omega)
        obtain ⟨x0, x1⟩ := hcl k hkl
        have Hd := Lib.hid (show flatS (a.drop k).reverse = flatS (a.drop (k + 1)).reverse ++ spC a[k] by rw [List.drop_eq_getElem_cons hkl, List.reverse_cons, flatS_snoc])
        generalize a[k] = p at x0 x1 Hd
        obtain ⟨P, Q⟩ := p
        obtain ⟨m, hm⟩ : ∃ m, m = na - (k + 1) := ⟨_, rfl⟩
        rw [← hm] at Hown
        have hml : m ≤ 200 := by omega
        have Hm := Lib.hid (show na - k = m + 1 by omega)
        have hk0 : (0 : Int) ≤ (k : Int) := by omega
        have hk1 : (k : Int) < (na : Int) := by omega
        simp only at x0 x1
        clear hm hcl hkl Hz
        obtain ⟨A7, c7, rfl, _, _⟩ := ownF Hown.out
        have hws := Hbr.out.size
        go_wp2_with (at_builtin; refine wpList_append_own _ rfl (.tmp 25) (.tmp 30) 22 rfl w1.heap.size 33 i (.agg #[.int .i64 0, .int .i64 0]) 2 16 Try.underlying22 hi hz0 hz1 hz2 rfl (by decide) _ _ _ rfl (Hown.out.alloc _) ⟨wr.heap.size, 0, none⟩ 1 1 [.int .i64 P, .int .i64 Q] rfl rfl (two_at _ P Q _ _ rfl) (two_one P Q) (by simp only [maxLen]; omega) (by omega) (by simp; omega) ?_; intro v2 w2 hown2 hg2 _; obtain ⟨A2, c2, rfl, _, _⟩ := ownF hown2; have Hb2 := Lib.hid ((Hbr.out.alloc hws _).grown hg2 (by simp; omega) (fun q hq => (Hown.out.lt q hq).1)); have Hown2 := Lib.hid hown2; clear hown2 hg2)
        go_roundw
        case rel =>
          refine ⟨k, _, by omega, Lib.hid (by omega), rfl, ?_, Hb2⟩
          rw [Hm.out, Hd.out]
          exact Hown2
        case measure => first | (simp [intOf]; done) | (simp [intOf]; omega)
  · rw [show (decide (na ≤ 40) && decide (nb ≤ 40)) = false by simp; omega]
    go_wp2_with fail
    go_ret
    exact ⟨rfl, B.out⟩

theorem SpanTurned_walk {H : Type} {enc : TypeId × Value → H} (W : World) (base : Nat) {v0 v1 : Value} {d0 : DataW H} {p0 : List MemPlace} {d1 : DataW H} {p1 : List MemPlace}
    (k0 : Value.okWide Try.prog W .any base 22 v0) (h0 : DataW.Trod enc Try.prog W 0 (fun _ => true) true 22 v0 d0 p0) (k1 : Value.okWide Try.prog W .any base 22 v1) (h1 : DataW.Trod enc Try.prog W 0 (fun _ => true) true 22 v1 d1 p1) :
    Calls Try.prog 7 #[v0, v1] W (Yes W) := by
  obtain ⟨A0, n0, c0, l0, rfl, hr0, hn0⟩ := ar_spans k0 h0
  obtain ⟨A1, n1, c1, l1, rfl, hr1, hn1⟩ := ar_spans k1 h1
  exact SpanTurned_core A0 n0 c0 A1 n1 c1 l0 l1 W hr0 hr1 hn0 hn1
end Go.Proofs.Ytikpcpkclecciaa
