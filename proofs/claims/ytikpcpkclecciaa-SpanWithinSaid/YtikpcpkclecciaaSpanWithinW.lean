/- The walk of SpanWithin. -/
import Derived.Test.YtikpcpkclecciaaSpAw
namespace Go.Proofs.Ytikpcpkclecciaa
open Go.ChangeShapes Go.WideShapes Go.ChangeAt Go.RowKit

set_option maxHeartbeats 20000000 in
theorem SpanWithin_core (Aa : Option Addr) (na ca : Nat) (Ab : Option Addr) (nb cb : Nat) (Ac : Option Addr) (nc cc : Nat) (a b c : List Sp) (W : World) (hra : RdS W W.heap.size Aa na a) (hrb : RdS W W.heap.size Ab nb b) (hrc : RdS W W.heap.size Ac nc c) (hna : na ≤ 9223372036854775807) (hnb : nb ≤ 9223372036854775807) (hnc : nc ≤ 9223372036854775807) :
    Calls Try.prog 8 #[.slice Aa na ca, .slice Ab nb cb, .slice Ac nc cc] W (Yes W) := by
  have Ra := Lib.hid hra
  have Rb := Lib.hid hrb
  have Ha := Lib.hid hra.1
  have Hb := Lib.hid hrb.1
  have Rc := Lib.hid hrc
  clear hra hrb hrc
  go_enter Try.func8, Try.ntmps8
  go_wp2_with fail
  refine (awake4 _).mono ?_
  rintro e w1 ⟨rfl, hb1⟩
  have B := Lib.hid hb1
  clear hb1
  go_wp2_with fail
  refine (few_any Aa Ab na nb ca cb _ hna hnb).mono ?_
  rintro e w2 ⟨rfl, rfl⟩
  by_cases h40 : na ≤ 40 ∧ nb ≤ 40
  · obtain ⟨h41, h42⟩ := h40
    rw [show (decide (na ≤ 40) && decide (nb ≤ 40)) = true by simp [h41, h42]]
    have a0 : Hid (At w1 Aa na a) := ⟨(Ra.out.below B.out).more B.out.size, by omega⟩
    have b0 : Hid (At w1 Ab nb b) := ⟨(Rb.out.below B.out).more B.out.size, by omega⟩
    have Hl := Lib.hid (show ∀ what, (refS a b what).length ≤ 160 ∧ (refS a [] what).length ≤ 160 ∧ (refS b [] what).length ≤ 160 ∧ (refS b a what).length ≤ 160 by
      intro what
      have q1 := refS_len a b what
      have q2 := refS_len a [] what
      have q3 := refS_len b [] what
      have q4 := refS_len b a what
      have e1 := Ha.out
      have e2 := Hb.out
      simp only [List.length_nil] at *
      omega)
    clear Ra Rb Ha Hb h41 h42
    by_cases h43 : nc ≤ 40
    · skip
      have c0 : Hid (At w1 Ac nc c) := ⟨(Rc.out.below B.out).more B.out.size, by omega⟩
      replace Hl := Lib.hid (Hl.out 1)
      clear Rc
      obtain ⟨X, hX⟩ : ∃ X, X = decide (refS a b 3 = []) := ⟨_, rfl⟩
      obtain ⟨Y, hY⟩ : ∃ Y, Y = decide (refS b c 3 = []) := ⟨_, rfl⟩
      obtain ⟨Z, hZ⟩ : ∃ Z, Z = decide (refS a c 3 = []) := ⟨_, rfl⟩
      obtain ⟨V, hV⟩ : ∃ V, V = decide (refS b a 3 = []) := ⟨_, rfl⟩
      have hz := Lib.hid (show X = true → Y = true → Z = true by subst hX hY hZ; simp only [decide_eq_true_eq]; exact with1)
      have hs := Lib.hid (show decide (refS a [] 1 = refS b [] 1) = (X && V) by subst hX hV; exact with5 a b)
      generalize hS0 : sumS (refS a [] 1) = S
      have hq := Lib.hid (show decide (refS a [] 3 = []) = decide (S = 0) by subst hS0; exact decide_eq_decide.2 (with4 a))
      have HS := Lib.hid hS0
      clear hS0
      replace hX := Lib.hid hX
      replace hY := Lib.hid hY
      replace hZ := Lib.hid hZ
      replace hV := Lib.hid hV
      go_wp2_with fail
      clear h43
      cases X <;> cases Y <;> cases Z <;> (try cases V)
      · replace hs := Lib.hid (hs.out.trans (show (false && false) = false from rfl))
        refine (lWithin ca cb a0 b0).mono ?_
        rw [← hX.out]
        rintro e w3 ⟨rfl, hb⟩
        replace B := belG B hb
        replace a0 := At.keep a0 hb
        replace b0 := At.keep b0 hb
        replace c0 := At.keep c0 hb
        clear hb
        go_wp2_with fail
        refine (lWithin cb cc b0 c0).mono ?_
        rw [← hY.out]
        rintro e w4 ⟨rfl, hb⟩
        replace B := belG B hb
        replace a0 := At.keep a0 hb
        replace b0 := At.keep b0 hb
        replace c0 := At.keep c0 hb
        clear hb
        go_wp2_with fail
        refine (lWithin ca cc a0 c0).mono ?_
        rw [← hZ.out]
        rintro e w5 ⟨rfl, hb⟩
        replace B := belG B hb
        replace a0 := At.keep a0 hb
        replace b0 := At.keep b0 hb
        clear hb c0
        go_wp2_with fail
        refine (lClean ca a0 (Nat.le_trans Hl.out.2.1 (by decide))).mono ?_
        rintro e w6 ⟨Ap, np, cp, rfl, p, hb, Np⟩
        replace B := belG B hb
        replace a0 := At.keep a0 hb
        replace b0 := At.keep b0 hb
        clear hb
        go_wp2_with fail
        refine (lClean cb b0 (Nat.le_trans Hl.out.2.2.1 (by decide))).mono ?_
        rintro e w7 ⟨Aq, nq, cq, rfl, q, hb, Nq⟩
        replace B := belG B hb
        replace a0 := At.keep a0 hb
        replace b0 := At.keep b0 hb
        replace p := At.keep p hb
        clear hb
        go_wp2_with fail
        refine (lSame cp cq p q).mono ?_
        rw [hs.out]
        rintro e w8 ⟨rfl, hb⟩
        replace B := belG B hb
        replace a0 := At.keep a0 hb
        replace b0 := At.keep b0 hb
        clear hb p q
        go_wp2_with fail
        refine (lWithin 0 ca (At.of (RdS.nil _ _ none) (by decide)) a0).mono ?_
        rw [decide_eq_true (with3 a)]
        rintro e w9 ⟨rfl, hb⟩
        replace B := belG B hb
        replace a0 := At.keep a0 hb
        replace b0 := At.keep b0 hb
        clear hb
        go_wp2_with fail
        rcases Decidable.em (S = 0) with rfl | hS
        · refine (lWithin ca 0 a0 (At.of (RdS.nil _ _ none) (by decide))).mono ?_
          rw [hq.out, show decide ((0 : Int) = 0) = true from rfl]
          rintro e w10 ⟨rfl, hb⟩
          replace B := belG B hb
          replace a0 := At.keep a0 hb
          replace b0 := At.keep b0 hb
          clear hb
          go_wp2_with fail
          refine (lMany ca a0).mono ?_
          rw [HS.out]
          rintro e w11 ⟨rfl, hb⟩
          replace B := belG B hb
          replace b0 := At.keep b0 hb
          clear hb a0
          go_wp2_with fail
          go_ret
          exact ⟨rfl, B.out⟩
        · refine (lWithin ca 0 a0 (At.of (RdS.nil _ _ none) (by decide))).mono ?_
          rw [hq.out, show decide (S = 0) = false from decide_eq_false hS]
          rintro e w10 ⟨rfl, hb⟩
          replace B := belG B hb
          replace a0 := At.keep a0 hb
          replace b0 := At.keep b0 hb
          clear hb
          go_wp2_with fail
          refine (lMany ca a0).mono ?_
          rw [HS.out]
          rintro e w11 ⟨rfl, hb⟩
          replace B := belG B hb
          replace b0 := At.keep b0 hb
          clear hb a0
          go_wp2_with fail
          go_ret
          exact ⟨by simp [hS], B.out⟩
      · replace hs := Lib.hid (hs.out.trans (show (false && true) = false from rfl))
        refine (lWithin ca cb a0 b0).mono ?_
        rw [← hX.out]
        rintro e w3 ⟨rfl, hb⟩
        replace B := belG B hb
        replace a0 := At.keep a0 hb
        replace b0 := At.keep b0 hb
        replace c0 := At.keep c0 hb
        clear hb
        go_wp2_with fail
        refine (lWithin cb cc b0 c0).mono ?_
        rw [← hY.out]
        rintro e w4 ⟨rfl, hb⟩
        replace B := belG B hb
        replace a0 := At.keep a0 hb
        replace b0 := At.keep b0 hb
        replace c0 := At.keep c0 hb
        clear hb
        go_wp2_with fail
        refine (lWithin ca cc a0 c0).mono ?_
        rw [← hZ.out]
        rintro e w5 ⟨rfl, hb⟩
        replace B := belG B hb
        replace a0 := At.keep a0 hb
        replace b0 := At.keep b0 hb
        clear hb c0
        go_wp2_with fail
        refine (lClean ca a0 (Nat.le_trans Hl.out.2.1 (by decide))).mono ?_
        rintro e w6 ⟨Ap, np, cp, rfl, p, hb, Np⟩
        replace B := belG B hb
        replace a0 := At.keep a0 hb
        replace b0 := At.keep b0 hb
        clear hb
        go_wp2_with fail
        refine (lClean cb b0 (Nat.le_trans Hl.out.2.2.1 (by decide))).mono ?_
        rintro e w7 ⟨Aq, nq, cq, rfl, q, hb, Nq⟩
        replace B := belG B hb
        replace a0 := At.keep a0 hb
        replace b0 := At.keep b0 hb
        replace p := At.keep p hb
        clear hb
        go_wp2_with fail
        refine (lSame cp cq p q).mono ?_
        rw [hs.out]
        rintro e w8 ⟨rfl, hb⟩
        replace B := belG B hb
        replace a0 := At.keep a0 hb
        replace b0 := At.keep b0 hb
        clear hb p q
        go_wp2_with fail
        refine (lWithin 0 ca (At.of (RdS.nil _ _ none) (by decide)) a0).mono ?_
        rw [decide_eq_true (with3 a)]
        rintro e w9 ⟨rfl, hb⟩
        replace B := belG B hb
        replace a0 := At.keep a0 hb
        replace b0 := At.keep b0 hb
        clear hb
        go_wp2_with fail
        rcases Decidable.em (S = 0) with rfl | hS
        · refine (lWithin ca 0 a0 (At.of (RdS.nil _ _ none) (by decide))).mono ?_
          rw [hq.out, show decide ((0 : Int) = 0) = true from rfl]
          rintro e w10 ⟨rfl, hb⟩
          replace B := belG B hb
          replace a0 := At.keep a0 hb
          replace b0 := At.keep b0 hb
          clear hb
          go_wp2_with fail
          refine (lMany ca a0).mono ?_
          rw [HS.out]
          rintro e w11 ⟨rfl, hb⟩
          replace B := belG B hb
          replace b0 := At.keep b0 hb
          clear hb a0
          go_wp2_with fail
          go_ret
          exact ⟨rfl, B.out⟩
        · refine (lWithin ca 0 a0 (At.of (RdS.nil _ _ none) (by decide))).mono ?_
          rw [hq.out, show decide (S = 0) = false from decide_eq_false hS]
          rintro e w10 ⟨rfl, hb⟩
          replace B := belG B hb
          replace a0 := At.keep a0 hb
          replace b0 := At.keep b0 hb
          clear hb
          go_wp2_with fail
          refine (lMany ca a0).mono ?_
          rw [HS.out]
          rintro e w11 ⟨rfl, hb⟩
          replace B := belG B hb
          replace b0 := At.keep b0 hb
          clear hb a0
          go_wp2_with fail
          go_ret
          exact ⟨by simp [hS], B.out⟩
      · replace hs := Lib.hid (hs.out.trans (show (false && false) = false from rfl))
        refine (lWithin ca cb a0 b0).mono ?_
        rw [← hX.out]
        rintro e w3 ⟨rfl, hb⟩
        replace B := belG B hb
        replace a0 := At.keep a0 hb
        replace b0 := At.keep b0 hb
        replace c0 := At.keep c0 hb
        clear hb
        go_wp2_with fail
        refine (lWithin cb cc b0 c0).mono ?_
        rw [← hY.out]
        rintro e w4 ⟨rfl, hb⟩
        replace B := belG B hb
        replace a0 := At.keep a0 hb
        replace b0 := At.keep b0 hb
        replace c0 := At.keep c0 hb
        clear hb
        go_wp2_with fail
        refine (lWithin ca cc a0 c0).mono ?_
        rw [← hZ.out]
        rintro e w5 ⟨rfl, hb⟩
        replace B := belG B hb
        replace a0 := At.keep a0 hb
        replace b0 := At.keep b0 hb
        clear hb c0
        go_wp2_with fail
        refine (lClean ca a0 (Nat.le_trans Hl.out.2.1 (by decide))).mono ?_
        rintro e w6 ⟨Ap, np, cp, rfl, p, hb, Np⟩
        replace B := belG B hb
        replace a0 := At.keep a0 hb
        replace b0 := At.keep b0 hb
        clear hb
        go_wp2_with fail
        refine (lClean cb b0 (Nat.le_trans Hl.out.2.2.1 (by decide))).mono ?_
        rintro e w7 ⟨Aq, nq, cq, rfl, q, hb, Nq⟩
        replace B := belG B hb
        replace a0 := At.keep a0 hb
        replace b0 := At.keep b0 hb
        replace p := At.keep p hb
        clear hb
        go_wp2_with fail
        refine (lSame cp cq p q).mono ?_
        rw [hs.out]
        rintro e w8 ⟨rfl, hb⟩
        replace B := belG B hb
        replace a0 := At.keep a0 hb
        replace b0 := At.keep b0 hb
        clear hb p q
        go_wp2_with fail
        refine (lWithin 0 ca (At.of (RdS.nil _ _ none) (by decide)) a0).mono ?_
        rw [decide_eq_true (with3 a)]
        rintro e w9 ⟨rfl, hb⟩
        replace B := belG B hb
        replace a0 := At.keep a0 hb
        replace b0 := At.keep b0 hb
        clear hb
        go_wp2_with fail
        rcases Decidable.em (S = 0) with rfl | hS
        · refine (lWithin ca 0 a0 (At.of (RdS.nil _ _ none) (by decide))).mono ?_
          rw [hq.out, show decide ((0 : Int) = 0) = true from rfl]
          rintro e w10 ⟨rfl, hb⟩
          replace B := belG B hb
          replace a0 := At.keep a0 hb
          replace b0 := At.keep b0 hb
          clear hb
          go_wp2_with fail
          refine (lMany ca a0).mono ?_
          rw [HS.out]
          rintro e w11 ⟨rfl, hb⟩
          replace B := belG B hb
          replace b0 := At.keep b0 hb
          clear hb a0
          go_wp2_with fail
          go_ret
          exact ⟨rfl, B.out⟩
        · refine (lWithin ca 0 a0 (At.of (RdS.nil _ _ none) (by decide))).mono ?_
          rw [hq.out, show decide (S = 0) = false from decide_eq_false hS]
          rintro e w10 ⟨rfl, hb⟩
          replace B := belG B hb
          replace a0 := At.keep a0 hb
          replace b0 := At.keep b0 hb
          clear hb
          go_wp2_with fail
          refine (lMany ca a0).mono ?_
          rw [HS.out]
          rintro e w11 ⟨rfl, hb⟩
          replace B := belG B hb
          replace b0 := At.keep b0 hb
          clear hb a0
          go_wp2_with fail
          go_ret
          exact ⟨by simp [hS], B.out⟩
      · replace hs := Lib.hid (hs.out.trans (show (false && true) = false from rfl))
        refine (lWithin ca cb a0 b0).mono ?_
        rw [← hX.out]
        rintro e w3 ⟨rfl, hb⟩
        replace B := belG B hb
        replace a0 := At.keep a0 hb
        replace b0 := At.keep b0 hb
        replace c0 := At.keep c0 hb
        clear hb
        go_wp2_with fail
        refine (lWithin cb cc b0 c0).mono ?_
        rw [← hY.out]
        rintro e w4 ⟨rfl, hb⟩
        replace B := belG B hb
        replace a0 := At.keep a0 hb
        replace b0 := At.keep b0 hb
        replace c0 := At.keep c0 hb
        clear hb
        go_wp2_with fail
        refine (lWithin ca cc a0 c0).mono ?_
        rw [← hZ.out]
        rintro e w5 ⟨rfl, hb⟩
        replace B := belG B hb
        replace a0 := At.keep a0 hb
        replace b0 := At.keep b0 hb
        clear hb c0
        go_wp2_with fail
        refine (lClean ca a0 (Nat.le_trans Hl.out.2.1 (by decide))).mono ?_
        rintro e w6 ⟨Ap, np, cp, rfl, p, hb, Np⟩
        replace B := belG B hb
        replace a0 := At.keep a0 hb
        replace b0 := At.keep b0 hb
        clear hb
        go_wp2_with fail
        refine (lClean cb b0 (Nat.le_trans Hl.out.2.2.1 (by decide))).mono ?_
        rintro e w7 ⟨Aq, nq, cq, rfl, q, hb, Nq⟩
        replace B := belG B hb
        replace a0 := At.keep a0 hb
        replace b0 := At.keep b0 hb
        replace p := At.keep p hb
        clear hb
        go_wp2_with fail
        refine (lSame cp cq p q).mono ?_
        rw [hs.out]
        rintro e w8 ⟨rfl, hb⟩
        replace B := belG B hb
        replace a0 := At.keep a0 hb
        replace b0 := At.keep b0 hb
        clear hb p q
        go_wp2_with fail
        refine (lWithin 0 ca (At.of (RdS.nil _ _ none) (by decide)) a0).mono ?_
        rw [decide_eq_true (with3 a)]
        rintro e w9 ⟨rfl, hb⟩
        replace B := belG B hb
        replace a0 := At.keep a0 hb
        replace b0 := At.keep b0 hb
        clear hb
        go_wp2_with fail
        rcases Decidable.em (S = 0) with rfl | hS
        · refine (lWithin ca 0 a0 (At.of (RdS.nil _ _ none) (by decide))).mono ?_
          rw [hq.out, show decide ((0 : Int) = 0) = true from rfl]
          rintro e w10 ⟨rfl, hb⟩
          replace B := belG B hb
          replace a0 := At.keep a0 hb
          replace b0 := At.keep b0 hb
          clear hb
          go_wp2_with fail
          refine (lMany ca a0).mono ?_
          rw [HS.out]
          rintro e w11 ⟨rfl, hb⟩
          replace B := belG B hb
          replace b0 := At.keep b0 hb
          clear hb a0
          go_wp2_with fail
          go_ret
          exact ⟨rfl, B.out⟩
        · refine (lWithin ca 0 a0 (At.of (RdS.nil _ _ none) (by decide))).mono ?_
          rw [hq.out, show decide (S = 0) = false from decide_eq_false hS]
          rintro e w10 ⟨rfl, hb⟩
          replace B := belG B hb
          replace a0 := At.keep a0 hb
          replace b0 := At.keep b0 hb
          clear hb
          go_wp2_with fail
          refine (lMany ca a0).mono ?_
          rw [HS.out]
          rintro e w11 ⟨rfl, hb⟩
          replace B := belG B hb
          replace b0 := At.keep b0 hb
          clear hb a0
          go_wp2_with fail
          go_ret
          exact ⟨by simp [hS], B.out⟩
      · replace hs := Lib.hid (hs.out.trans (show (false && false) = false from rfl))
        refine (lWithin ca cb a0 b0).mono ?_
        rw [← hX.out]
        rintro e w3 ⟨rfl, hb⟩
        replace B := belG B hb
        replace a0 := At.keep a0 hb
        replace b0 := At.keep b0 hb
        replace c0 := At.keep c0 hb
        clear hb
        go_wp2_with fail
        refine (lWithin cb cc b0 c0).mono ?_
        rw [← hY.out]
        rintro e w4 ⟨rfl, hb⟩
        replace B := belG B hb
        replace a0 := At.keep a0 hb
        replace b0 := At.keep b0 hb
        replace c0 := At.keep c0 hb
        clear hb
        go_wp2_with fail
        refine (lWithin ca cc a0 c0).mono ?_
        rw [← hZ.out]
        rintro e w5 ⟨rfl, hb⟩
        replace B := belG B hb
        replace a0 := At.keep a0 hb
        replace b0 := At.keep b0 hb
        clear hb c0
        go_wp2_with fail
        refine (lClean ca a0 (Nat.le_trans Hl.out.2.1 (by decide))).mono ?_
        rintro e w6 ⟨Ap, np, cp, rfl, p, hb, Np⟩
        replace B := belG B hb
        replace a0 := At.keep a0 hb
        replace b0 := At.keep b0 hb
        clear hb
        go_wp2_with fail
        refine (lClean cb b0 (Nat.le_trans Hl.out.2.2.1 (by decide))).mono ?_
        rintro e w7 ⟨Aq, nq, cq, rfl, q, hb, Nq⟩
        replace B := belG B hb
        replace a0 := At.keep a0 hb
        replace b0 := At.keep b0 hb
        replace p := At.keep p hb
        clear hb
        go_wp2_with fail
        refine (lSame cp cq p q).mono ?_
        rw [hs.out]
        rintro e w8 ⟨rfl, hb⟩
        replace B := belG B hb
        replace a0 := At.keep a0 hb
        replace b0 := At.keep b0 hb
        clear hb p q
        go_wp2_with fail
        refine (lWithin 0 ca (At.of (RdS.nil _ _ none) (by decide)) a0).mono ?_
        rw [decide_eq_true (with3 a)]
        rintro e w9 ⟨rfl, hb⟩
        replace B := belG B hb
        replace a0 := At.keep a0 hb
        replace b0 := At.keep b0 hb
        clear hb
        go_wp2_with fail
        rcases Decidable.em (S = 0) with rfl | hS
        · refine (lWithin ca 0 a0 (At.of (RdS.nil _ _ none) (by decide))).mono ?_
          rw [hq.out, show decide ((0 : Int) = 0) = true from rfl]
          rintro e w10 ⟨rfl, hb⟩
          replace B := belG B hb
          replace a0 := At.keep a0 hb
          replace b0 := At.keep b0 hb
          clear hb
          go_wp2_with fail
          refine (lMany ca a0).mono ?_
          rw [HS.out]
          rintro e w11 ⟨rfl, hb⟩
          replace B := belG B hb
          replace b0 := At.keep b0 hb
          clear hb a0
          go_wp2_with fail
          go_ret
          exact ⟨rfl, B.out⟩
        · refine (lWithin ca 0 a0 (At.of (RdS.nil _ _ none) (by decide))).mono ?_
          rw [hq.out, show decide (S = 0) = false from decide_eq_false hS]
          rintro e w10 ⟨rfl, hb⟩
          replace B := belG B hb
          replace a0 := At.keep a0 hb
          replace b0 := At.keep b0 hb
          clear hb
          go_wp2_with fail
          refine (lMany ca a0).mono ?_
          rw [HS.out]
          rintro e w11 ⟨rfl, hb⟩
          replace B := belG B hb
          replace b0 := At.keep b0 hb
          clear hb a0
          go_wp2_with fail
          go_ret
          exact ⟨by simp [hS], B.out⟩
      · replace hs := Lib.hid (hs.out.trans (show (false && true) = false from rfl))
        refine (lWithin ca cb a0 b0).mono ?_
        rw [← hX.out]
        rintro e w3 ⟨rfl, hb⟩
        replace B := belG B hb
        replace a0 := At.keep a0 hb
        replace b0 := At.keep b0 hb
        replace c0 := At.keep c0 hb
        clear hb
        go_wp2_with fail
        refine (lWithin cb cc b0 c0).mono ?_
        rw [← hY.out]
        rintro e w4 ⟨rfl, hb⟩
        replace B := belG B hb
        replace a0 := At.keep a0 hb
        replace b0 := At.keep b0 hb
        replace c0 := At.keep c0 hb
        clear hb
        go_wp2_with fail
        refine (lWithin ca cc a0 c0).mono ?_
        rw [← hZ.out]
        rintro e w5 ⟨rfl, hb⟩
        replace B := belG B hb
        replace a0 := At.keep a0 hb
        replace b0 := At.keep b0 hb
        clear hb c0
        go_wp2_with fail
        refine (lClean ca a0 (Nat.le_trans Hl.out.2.1 (by decide))).mono ?_
        rintro e w6 ⟨Ap, np, cp, rfl, p, hb, Np⟩
        replace B := belG B hb
        replace a0 := At.keep a0 hb
        replace b0 := At.keep b0 hb
        clear hb
        go_wp2_with fail
        refine (lClean cb b0 (Nat.le_trans Hl.out.2.2.1 (by decide))).mono ?_
        rintro e w7 ⟨Aq, nq, cq, rfl, q, hb, Nq⟩
        replace B := belG B hb
        replace a0 := At.keep a0 hb
        replace b0 := At.keep b0 hb
        replace p := At.keep p hb
        clear hb
        go_wp2_with fail
        refine (lSame cp cq p q).mono ?_
        rw [hs.out]
        rintro e w8 ⟨rfl, hb⟩
        replace B := belG B hb
        replace a0 := At.keep a0 hb
        replace b0 := At.keep b0 hb
        clear hb p q
        go_wp2_with fail
        refine (lWithin 0 ca (At.of (RdS.nil _ _ none) (by decide)) a0).mono ?_
        rw [decide_eq_true (with3 a)]
        rintro e w9 ⟨rfl, hb⟩
        replace B := belG B hb
        replace a0 := At.keep a0 hb
        replace b0 := At.keep b0 hb
        clear hb
        go_wp2_with fail
        rcases Decidable.em (S = 0) with rfl | hS
        · refine (lWithin ca 0 a0 (At.of (RdS.nil _ _ none) (by decide))).mono ?_
          rw [hq.out, show decide ((0 : Int) = 0) = true from rfl]
          rintro e w10 ⟨rfl, hb⟩
          replace B := belG B hb
          replace a0 := At.keep a0 hb
          replace b0 := At.keep b0 hb
          clear hb
          go_wp2_with fail
          refine (lMany ca a0).mono ?_
          rw [HS.out]
          rintro e w11 ⟨rfl, hb⟩
          replace B := belG B hb
          replace b0 := At.keep b0 hb
          clear hb a0
          go_wp2_with fail
          go_ret
          exact ⟨rfl, B.out⟩
        · refine (lWithin ca 0 a0 (At.of (RdS.nil _ _ none) (by decide))).mono ?_
          rw [hq.out, show decide (S = 0) = false from decide_eq_false hS]
          rintro e w10 ⟨rfl, hb⟩
          replace B := belG B hb
          replace a0 := At.keep a0 hb
          replace b0 := At.keep b0 hb
          clear hb
          go_wp2_with fail
          refine (lMany ca a0).mono ?_
          rw [HS.out]
          rintro e w11 ⟨rfl, hb⟩
          replace B := belG B hb
          replace b0 := At.keep b0 hb
          clear hb a0
          go_wp2_with fail
          go_ret
          exact ⟨by simp [hS], B.out⟩
      · replace hs := Lib.hid (hs.out.trans (show (false && false) = false from rfl))
        refine (lWithin ca cb a0 b0).mono ?_
        rw [← hX.out]
        rintro e w3 ⟨rfl, hb⟩
        replace B := belG B hb
        replace a0 := At.keep a0 hb
        replace b0 := At.keep b0 hb
        replace c0 := At.keep c0 hb
        clear hb
        go_wp2_with fail
        refine (lWithin cb cc b0 c0).mono ?_
        rw [← hY.out]
        rintro e w4 ⟨rfl, hb⟩
        replace B := belG B hb
        replace a0 := At.keep a0 hb
        replace b0 := At.keep b0 hb
        replace c0 := At.keep c0 hb
        clear hb
        go_wp2_with fail
        refine (lWithin ca cc a0 c0).mono ?_
        rw [← hZ.out]
        rintro e w5 ⟨rfl, hb⟩
        replace B := belG B hb
        replace a0 := At.keep a0 hb
        replace b0 := At.keep b0 hb
        clear hb c0
        go_wp2_with fail
        refine (lClean ca a0 (Nat.le_trans Hl.out.2.1 (by decide))).mono ?_
        rintro e w6 ⟨Ap, np, cp, rfl, p, hb, Np⟩
        replace B := belG B hb
        replace a0 := At.keep a0 hb
        replace b0 := At.keep b0 hb
        clear hb
        go_wp2_with fail
        refine (lClean cb b0 (Nat.le_trans Hl.out.2.2.1 (by decide))).mono ?_
        rintro e w7 ⟨Aq, nq, cq, rfl, q, hb, Nq⟩
        replace B := belG B hb
        replace a0 := At.keep a0 hb
        replace b0 := At.keep b0 hb
        replace p := At.keep p hb
        clear hb
        go_wp2_with fail
        refine (lSame cp cq p q).mono ?_
        rw [hs.out]
        rintro e w8 ⟨rfl, hb⟩
        replace B := belG B hb
        replace a0 := At.keep a0 hb
        replace b0 := At.keep b0 hb
        clear hb p q
        go_wp2_with fail
        refine (lWithin 0 ca (At.of (RdS.nil _ _ none) (by decide)) a0).mono ?_
        rw [decide_eq_true (with3 a)]
        rintro e w9 ⟨rfl, hb⟩
        replace B := belG B hb
        replace a0 := At.keep a0 hb
        replace b0 := At.keep b0 hb
        clear hb
        go_wp2_with fail
        rcases Decidable.em (S = 0) with rfl | hS
        · refine (lWithin ca 0 a0 (At.of (RdS.nil _ _ none) (by decide))).mono ?_
          rw [hq.out, show decide ((0 : Int) = 0) = true from rfl]
          rintro e w10 ⟨rfl, hb⟩
          replace B := belG B hb
          replace a0 := At.keep a0 hb
          replace b0 := At.keep b0 hb
          clear hb
          go_wp2_with fail
          refine (lMany ca a0).mono ?_
          rw [HS.out]
          rintro e w11 ⟨rfl, hb⟩
          replace B := belG B hb
          replace b0 := At.keep b0 hb
          clear hb a0
          go_wp2_with fail
          go_ret
          exact ⟨rfl, B.out⟩
        · refine (lWithin ca 0 a0 (At.of (RdS.nil _ _ none) (by decide))).mono ?_
          rw [hq.out, show decide (S = 0) = false from decide_eq_false hS]
          rintro e w10 ⟨rfl, hb⟩
          replace B := belG B hb
          replace a0 := At.keep a0 hb
          replace b0 := At.keep b0 hb
          clear hb
          go_wp2_with fail
          refine (lMany ca a0).mono ?_
          rw [HS.out]
          rintro e w11 ⟨rfl, hb⟩
          replace B := belG B hb
          replace b0 := At.keep b0 hb
          clear hb a0
          go_wp2_with fail
          go_ret
          exact ⟨by simp [hS], B.out⟩
      · replace hs := Lib.hid (hs.out.trans (show (false && true) = false from rfl))
        refine (lWithin ca cb a0 b0).mono ?_
        rw [← hX.out]
        rintro e w3 ⟨rfl, hb⟩
        replace B := belG B hb
        replace a0 := At.keep a0 hb
        replace b0 := At.keep b0 hb
        replace c0 := At.keep c0 hb
        clear hb
        go_wp2_with fail
        refine (lWithin cb cc b0 c0).mono ?_
        rw [← hY.out]
        rintro e w4 ⟨rfl, hb⟩
        replace B := belG B hb
        replace a0 := At.keep a0 hb
        replace b0 := At.keep b0 hb
        replace c0 := At.keep c0 hb
        clear hb
        go_wp2_with fail
        refine (lWithin ca cc a0 c0).mono ?_
        rw [← hZ.out]
        rintro e w5 ⟨rfl, hb⟩
        replace B := belG B hb
        replace a0 := At.keep a0 hb
        replace b0 := At.keep b0 hb
        clear hb c0
        go_wp2_with fail
        refine (lClean ca a0 (Nat.le_trans Hl.out.2.1 (by decide))).mono ?_
        rintro e w6 ⟨Ap, np, cp, rfl, p, hb, Np⟩
        replace B := belG B hb
        replace a0 := At.keep a0 hb
        replace b0 := At.keep b0 hb
        clear hb
        go_wp2_with fail
        refine (lClean cb b0 (Nat.le_trans Hl.out.2.2.1 (by decide))).mono ?_
        rintro e w7 ⟨Aq, nq, cq, rfl, q, hb, Nq⟩
        replace B := belG B hb
        replace a0 := At.keep a0 hb
        replace b0 := At.keep b0 hb
        replace p := At.keep p hb
        clear hb
        go_wp2_with fail
        refine (lSame cp cq p q).mono ?_
        rw [hs.out]
        rintro e w8 ⟨rfl, hb⟩
        replace B := belG B hb
        replace a0 := At.keep a0 hb
        replace b0 := At.keep b0 hb
        clear hb p q
        go_wp2_with fail
        refine (lWithin 0 ca (At.of (RdS.nil _ _ none) (by decide)) a0).mono ?_
        rw [decide_eq_true (with3 a)]
        rintro e w9 ⟨rfl, hb⟩
        replace B := belG B hb
        replace a0 := At.keep a0 hb
        replace b0 := At.keep b0 hb
        clear hb
        go_wp2_with fail
        rcases Decidable.em (S = 0) with rfl | hS
        · refine (lWithin ca 0 a0 (At.of (RdS.nil _ _ none) (by decide))).mono ?_
          rw [hq.out, show decide ((0 : Int) = 0) = true from rfl]
          rintro e w10 ⟨rfl, hb⟩
          replace B := belG B hb
          replace a0 := At.keep a0 hb
          replace b0 := At.keep b0 hb
          clear hb
          go_wp2_with fail
          refine (lMany ca a0).mono ?_
          rw [HS.out]
          rintro e w11 ⟨rfl, hb⟩
          replace B := belG B hb
          replace b0 := At.keep b0 hb
          clear hb a0
          go_wp2_with fail
          go_ret
          exact ⟨rfl, B.out⟩
        · refine (lWithin ca 0 a0 (At.of (RdS.nil _ _ none) (by decide))).mono ?_
          rw [hq.out, show decide (S = 0) = false from decide_eq_false hS]
          rintro e w10 ⟨rfl, hb⟩
          replace B := belG B hb
          replace a0 := At.keep a0 hb
          replace b0 := At.keep b0 hb
          clear hb
          go_wp2_with fail
          refine (lMany ca a0).mono ?_
          rw [HS.out]
          rintro e w11 ⟨rfl, hb⟩
          replace B := belG B hb
          replace b0 := At.keep b0 hb
          clear hb a0
          go_wp2_with fail
          go_ret
          exact ⟨by simp [hS], B.out⟩
      · replace hs := Lib.hid (hs.out.trans (show (true && false) = false from rfl))
        refine (lWithin ca cb a0 b0).mono ?_
        rw [← hX.out]
        rintro e w3 ⟨rfl, hb⟩
        replace B := belG B hb
        replace a0 := At.keep a0 hb
        replace b0 := At.keep b0 hb
        replace c0 := At.keep c0 hb
        clear hb
        go_wp2_with fail
        refine (lWithin cb cc b0 c0).mono ?_
        rw [← hY.out]
        rintro e w4 ⟨rfl, hb⟩
        replace B := belG B hb
        replace a0 := At.keep a0 hb
        replace b0 := At.keep b0 hb
        replace c0 := At.keep c0 hb
        clear hb
        go_wp2_with fail
        refine (lWithin ca cc a0 c0).mono ?_
        rw [← hZ.out]
        rintro e w5 ⟨rfl, hb⟩
        replace B := belG B hb
        replace a0 := At.keep a0 hb
        replace b0 := At.keep b0 hb
        clear hb c0
        go_wp2_with fail
        refine (lWithin cb ca b0 a0).mono ?_
        rw [← hV.out]
        rintro e w6 ⟨rfl, hb⟩
        replace B := belG B hb
        replace a0 := At.keep a0 hb
        replace b0 := At.keep b0 hb
        clear hb
        go_wp2_with fail
        refine (lClean ca a0 (Nat.le_trans Hl.out.2.1 (by decide))).mono ?_
        rintro e w7 ⟨Ap, np, cp, rfl, p, hb, Np⟩
        replace B := belG B hb
        replace a0 := At.keep a0 hb
        replace b0 := At.keep b0 hb
        clear hb
        go_wp2_with fail
        refine (lClean cb b0 (Nat.le_trans Hl.out.2.2.1 (by decide))).mono ?_
        rintro e w8 ⟨Aq, nq, cq, rfl, q, hb, Nq⟩
        replace B := belG B hb
        replace a0 := At.keep a0 hb
        replace b0 := At.keep b0 hb
        replace p := At.keep p hb
        clear hb
        go_wp2_with fail
        refine (lSame cp cq p q).mono ?_
        rw [hs.out]
        rintro e w9 ⟨rfl, hb⟩
        replace B := belG B hb
        replace a0 := At.keep a0 hb
        replace b0 := At.keep b0 hb
        clear hb p q
        go_wp2_with fail
        refine (lWithin 0 ca (At.of (RdS.nil _ _ none) (by decide)) a0).mono ?_
        rw [decide_eq_true (with3 a)]
        rintro e w10 ⟨rfl, hb⟩
        replace B := belG B hb
        replace a0 := At.keep a0 hb
        replace b0 := At.keep b0 hb
        clear hb
        go_wp2_with fail
        rcases Decidable.em (S = 0) with rfl | hS
        · refine (lWithin ca 0 a0 (At.of (RdS.nil _ _ none) (by decide))).mono ?_
          rw [hq.out, show decide ((0 : Int) = 0) = true from rfl]
          rintro e w11 ⟨rfl, hb⟩
          replace B := belG B hb
          replace a0 := At.keep a0 hb
          replace b0 := At.keep b0 hb
          clear hb
          go_wp2_with fail
          refine (lMany ca a0).mono ?_
          rw [HS.out]
          rintro e w12 ⟨rfl, hb⟩
          replace B := belG B hb
          replace b0 := At.keep b0 hb
          clear hb a0
          go_wp2_with fail
          go_ret
          exact ⟨rfl, B.out⟩
        · refine (lWithin ca 0 a0 (At.of (RdS.nil _ _ none) (by decide))).mono ?_
          rw [hq.out, show decide (S = 0) = false from decide_eq_false hS]
          rintro e w11 ⟨rfl, hb⟩
          replace B := belG B hb
          replace a0 := At.keep a0 hb
          replace b0 := At.keep b0 hb
          clear hb
          go_wp2_with fail
          refine (lMany ca a0).mono ?_
          rw [HS.out]
          rintro e w12 ⟨rfl, hb⟩
          replace B := belG B hb
          replace b0 := At.keep b0 hb
          clear hb a0
          go_wp2_with fail
          go_ret
          exact ⟨by simp [hS], B.out⟩
      · replace hs := Lib.hid (hs.out.trans (show (true && true) = true from rfl))
        refine (lWithin ca cb a0 b0).mono ?_
        rw [← hX.out]
        rintro e w3 ⟨rfl, hb⟩
        replace B := belG B hb
        replace a0 := At.keep a0 hb
        replace b0 := At.keep b0 hb
        replace c0 := At.keep c0 hb
        clear hb
        go_wp2_with fail
        refine (lWithin cb cc b0 c0).mono ?_
        rw [← hY.out]
        rintro e w4 ⟨rfl, hb⟩
        replace B := belG B hb
        replace a0 := At.keep a0 hb
        replace b0 := At.keep b0 hb
        replace c0 := At.keep c0 hb
        clear hb
        go_wp2_with fail
        refine (lWithin ca cc a0 c0).mono ?_
        rw [← hZ.out]
        rintro e w5 ⟨rfl, hb⟩
        replace B := belG B hb
        replace a0 := At.keep a0 hb
        replace b0 := At.keep b0 hb
        clear hb c0
        go_wp2_with fail
        refine (lWithin cb ca b0 a0).mono ?_
        rw [← hV.out]
        rintro e w6 ⟨rfl, hb⟩
        replace B := belG B hb
        replace a0 := At.keep a0 hb
        replace b0 := At.keep b0 hb
        clear hb
        go_wp2_with fail
        refine (lClean ca a0 (Nat.le_trans Hl.out.2.1 (by decide))).mono ?_
        rintro e w7 ⟨Ap, np, cp, rfl, p, hb, Np⟩
        replace B := belG B hb
        replace a0 := At.keep a0 hb
        replace b0 := At.keep b0 hb
        clear hb
        go_wp2_with fail
        refine (lClean cb b0 (Nat.le_trans Hl.out.2.2.1 (by decide))).mono ?_
        rintro e w8 ⟨Aq, nq, cq, rfl, q, hb, Nq⟩
        replace B := belG B hb
        replace a0 := At.keep a0 hb
        replace b0 := At.keep b0 hb
        replace p := At.keep p hb
        clear hb
        go_wp2_with fail
        refine (lSame cp cq p q).mono ?_
        rw [hs.out]
        rintro e w9 ⟨rfl, hb⟩
        replace B := belG B hb
        replace a0 := At.keep a0 hb
        replace b0 := At.keep b0 hb
        clear hb p q
        go_wp2_with fail
        refine (lWithin 0 ca (At.of (RdS.nil _ _ none) (by decide)) a0).mono ?_
        rw [decide_eq_true (with3 a)]
        rintro e w10 ⟨rfl, hb⟩
        replace B := belG B hb
        replace a0 := At.keep a0 hb
        replace b0 := At.keep b0 hb
        clear hb
        go_wp2_with fail
        rcases Decidable.em (S = 0) with rfl | hS
        · refine (lWithin ca 0 a0 (At.of (RdS.nil _ _ none) (by decide))).mono ?_
          rw [hq.out, show decide ((0 : Int) = 0) = true from rfl]
          rintro e w11 ⟨rfl, hb⟩
          replace B := belG B hb
          replace a0 := At.keep a0 hb
          replace b0 := At.keep b0 hb
          clear hb
          go_wp2_with fail
          refine (lMany ca a0).mono ?_
          rw [HS.out]
          rintro e w12 ⟨rfl, hb⟩
          replace B := belG B hb
          replace b0 := At.keep b0 hb
          clear hb a0
          go_wp2_with fail
          go_ret
          exact ⟨rfl, B.out⟩
        · refine (lWithin ca 0 a0 (At.of (RdS.nil _ _ none) (by decide))).mono ?_
          rw [hq.out, show decide (S = 0) = false from decide_eq_false hS]
          rintro e w11 ⟨rfl, hb⟩
          replace B := belG B hb
          replace a0 := At.keep a0 hb
          replace b0 := At.keep b0 hb
          clear hb
          go_wp2_with fail
          refine (lMany ca a0).mono ?_
          rw [HS.out]
          rintro e w12 ⟨rfl, hb⟩
          replace B := belG B hb
          replace b0 := At.keep b0 hb
          clear hb a0
          go_wp2_with fail
          go_ret
          exact ⟨by simp [hS], B.out⟩
      · replace hs := Lib.hid (hs.out.trans (show (true && false) = false from rfl))
        refine (lWithin ca cb a0 b0).mono ?_
        rw [← hX.out]
        rintro e w3 ⟨rfl, hb⟩
        replace B := belG B hb
        replace a0 := At.keep a0 hb
        replace b0 := At.keep b0 hb
        replace c0 := At.keep c0 hb
        clear hb
        go_wp2_with fail
        refine (lWithin cb cc b0 c0).mono ?_
        rw [← hY.out]
        rintro e w4 ⟨rfl, hb⟩
        replace B := belG B hb
        replace a0 := At.keep a0 hb
        replace b0 := At.keep b0 hb
        replace c0 := At.keep c0 hb
        clear hb
        go_wp2_with fail
        refine (lWithin ca cc a0 c0).mono ?_
        rw [← hZ.out]
        rintro e w5 ⟨rfl, hb⟩
        replace B := belG B hb
        replace a0 := At.keep a0 hb
        replace b0 := At.keep b0 hb
        clear hb c0
        go_wp2_with fail
        refine (lWithin cb ca b0 a0).mono ?_
        rw [← hV.out]
        rintro e w6 ⟨rfl, hb⟩
        replace B := belG B hb
        replace a0 := At.keep a0 hb
        replace b0 := At.keep b0 hb
        clear hb
        go_wp2_with fail
        refine (lClean ca a0 (Nat.le_trans Hl.out.2.1 (by decide))).mono ?_
        rintro e w7 ⟨Ap, np, cp, rfl, p, hb, Np⟩
        replace B := belG B hb
        replace a0 := At.keep a0 hb
        replace b0 := At.keep b0 hb
        clear hb
        go_wp2_with fail
        refine (lClean cb b0 (Nat.le_trans Hl.out.2.2.1 (by decide))).mono ?_
        rintro e w8 ⟨Aq, nq, cq, rfl, q, hb, Nq⟩
        replace B := belG B hb
        replace a0 := At.keep a0 hb
        replace b0 := At.keep b0 hb
        replace p := At.keep p hb
        clear hb
        go_wp2_with fail
        refine (lSame cp cq p q).mono ?_
        rw [hs.out]
        rintro e w9 ⟨rfl, hb⟩
        replace B := belG B hb
        replace a0 := At.keep a0 hb
        replace b0 := At.keep b0 hb
        clear hb p q
        go_wp2_with fail
        refine (lWithin 0 ca (At.of (RdS.nil _ _ none) (by decide)) a0).mono ?_
        rw [decide_eq_true (with3 a)]
        rintro e w10 ⟨rfl, hb⟩
        replace B := belG B hb
        replace a0 := At.keep a0 hb
        replace b0 := At.keep b0 hb
        clear hb
        go_wp2_with fail
        rcases Decidable.em (S = 0) with rfl | hS
        · refine (lWithin ca 0 a0 (At.of (RdS.nil _ _ none) (by decide))).mono ?_
          rw [hq.out, show decide ((0 : Int) = 0) = true from rfl]
          rintro e w11 ⟨rfl, hb⟩
          replace B := belG B hb
          replace a0 := At.keep a0 hb
          replace b0 := At.keep b0 hb
          clear hb
          go_wp2_with fail
          refine (lMany ca a0).mono ?_
          rw [HS.out]
          rintro e w12 ⟨rfl, hb⟩
          replace B := belG B hb
          replace b0 := At.keep b0 hb
          clear hb a0
          go_wp2_with fail
          go_ret
          exact ⟨rfl, B.out⟩
        · refine (lWithin ca 0 a0 (At.of (RdS.nil _ _ none) (by decide))).mono ?_
          rw [hq.out, show decide (S = 0) = false from decide_eq_false hS]
          rintro e w11 ⟨rfl, hb⟩
          replace B := belG B hb
          replace a0 := At.keep a0 hb
          replace b0 := At.keep b0 hb
          clear hb
          go_wp2_with fail
          refine (lMany ca a0).mono ?_
          rw [HS.out]
          rintro e w12 ⟨rfl, hb⟩
          replace B := belG B hb
          replace b0 := At.keep b0 hb
          clear hb a0
          go_wp2_with fail
          go_ret
          exact ⟨by simp [hS], B.out⟩
      · replace hs := Lib.hid (hs.out.trans (show (true && true) = true from rfl))
        refine (lWithin ca cb a0 b0).mono ?_
        rw [← hX.out]
        rintro e w3 ⟨rfl, hb⟩
        replace B := belG B hb
        replace a0 := At.keep a0 hb
        replace b0 := At.keep b0 hb
        replace c0 := At.keep c0 hb
        clear hb
        go_wp2_with fail
        refine (lWithin cb cc b0 c0).mono ?_
        rw [← hY.out]
        rintro e w4 ⟨rfl, hb⟩
        replace B := belG B hb
        replace a0 := At.keep a0 hb
        replace b0 := At.keep b0 hb
        replace c0 := At.keep c0 hb
        clear hb
        go_wp2_with fail
        refine (lWithin ca cc a0 c0).mono ?_
        rw [← hZ.out]
        rintro e w5 ⟨rfl, hb⟩
        replace B := belG B hb
        replace a0 := At.keep a0 hb
        replace b0 := At.keep b0 hb
        clear hb c0
        go_wp2_with fail
        refine (lWithin cb ca b0 a0).mono ?_
        rw [← hV.out]
        rintro e w6 ⟨rfl, hb⟩
        replace B := belG B hb
        replace a0 := At.keep a0 hb
        replace b0 := At.keep b0 hb
        clear hb
        go_wp2_with fail
        refine (lClean ca a0 (Nat.le_trans Hl.out.2.1 (by decide))).mono ?_
        rintro e w7 ⟨Ap, np, cp, rfl, p, hb, Np⟩
        replace B := belG B hb
        replace a0 := At.keep a0 hb
        replace b0 := At.keep b0 hb
        clear hb
        go_wp2_with fail
        refine (lClean cb b0 (Nat.le_trans Hl.out.2.2.1 (by decide))).mono ?_
        rintro e w8 ⟨Aq, nq, cq, rfl, q, hb, Nq⟩
        replace B := belG B hb
        replace a0 := At.keep a0 hb
        replace b0 := At.keep b0 hb
        replace p := At.keep p hb
        clear hb
        go_wp2_with fail
        refine (lSame cp cq p q).mono ?_
        rw [hs.out]
        rintro e w9 ⟨rfl, hb⟩
        replace B := belG B hb
        replace a0 := At.keep a0 hb
        replace b0 := At.keep b0 hb
        clear hb p q
        go_wp2_with fail
        refine (lWithin 0 ca (At.of (RdS.nil _ _ none) (by decide)) a0).mono ?_
        rw [decide_eq_true (with3 a)]
        rintro e w10 ⟨rfl, hb⟩
        replace B := belG B hb
        replace a0 := At.keep a0 hb
        replace b0 := At.keep b0 hb
        clear hb
        go_wp2_with fail
        rcases Decidable.em (S = 0) with rfl | hS
        · refine (lWithin ca 0 a0 (At.of (RdS.nil _ _ none) (by decide))).mono ?_
          rw [hq.out, show decide ((0 : Int) = 0) = true from rfl]
          rintro e w11 ⟨rfl, hb⟩
          replace B := belG B hb
          replace a0 := At.keep a0 hb
          replace b0 := At.keep b0 hb
          clear hb
          go_wp2_with fail
          refine (lMany ca a0).mono ?_
          rw [HS.out]
          rintro e w12 ⟨rfl, hb⟩
          replace B := belG B hb
          replace b0 := At.keep b0 hb
          clear hb a0
          go_wp2_with fail
          go_ret
          exact ⟨rfl, B.out⟩
        · refine (lWithin ca 0 a0 (At.of (RdS.nil _ _ none) (by decide))).mono ?_
          rw [hq.out, show decide (S = 0) = false from decide_eq_false hS]
          rintro e w11 ⟨rfl, hb⟩
          replace B := belG B hb
          replace a0 := At.keep a0 hb
          replace b0 := At.keep b0 hb
          clear hb
          go_wp2_with fail
          refine (lMany ca a0).mono ?_
          rw [HS.out]
          rintro e w12 ⟨rfl, hb⟩
          replace B := belG B hb
          replace b0 := At.keep b0 hb
          clear hb a0
          go_wp2_with fail
          go_ret
          exact ⟨by simp [hS], B.out⟩
      · exact absurd (hz.out rfl rfl) (by decide)
      · exact absurd (hz.out rfl rfl) (by decide)
      · replace hs := Lib.hid (hs.out.trans (show (true && false) = false from rfl))
        refine (lWithin ca cb a0 b0).mono ?_
        rw [← hX.out]
        rintro e w3 ⟨rfl, hb⟩
        replace B := belG B hb
        replace a0 := At.keep a0 hb
        replace b0 := At.keep b0 hb
        replace c0 := At.keep c0 hb
        clear hb
        go_wp2_with fail
        refine (lWithin cb cc b0 c0).mono ?_
        rw [← hY.out]
        rintro e w4 ⟨rfl, hb⟩
        replace B := belG B hb
        replace a0 := At.keep a0 hb
        replace b0 := At.keep b0 hb
        replace c0 := At.keep c0 hb
        clear hb
        go_wp2_with fail
        refine (lWithin ca cc a0 c0).mono ?_
        rw [← hZ.out]
        rintro e w5 ⟨rfl, hb⟩
        replace B := belG B hb
        replace a0 := At.keep a0 hb
        replace b0 := At.keep b0 hb
        clear hb c0
        go_wp2_with fail
        refine (lWithin cb ca b0 a0).mono ?_
        rw [← hV.out]
        rintro e w6 ⟨rfl, hb⟩
        replace B := belG B hb
        replace a0 := At.keep a0 hb
        replace b0 := At.keep b0 hb
        clear hb
        go_wp2_with fail
        refine (lClean ca a0 (Nat.le_trans Hl.out.2.1 (by decide))).mono ?_
        rintro e w7 ⟨Ap, np, cp, rfl, p, hb, Np⟩
        replace B := belG B hb
        replace a0 := At.keep a0 hb
        replace b0 := At.keep b0 hb
        clear hb
        go_wp2_with fail
        refine (lClean cb b0 (Nat.le_trans Hl.out.2.2.1 (by decide))).mono ?_
        rintro e w8 ⟨Aq, nq, cq, rfl, q, hb, Nq⟩
        replace B := belG B hb
        replace a0 := At.keep a0 hb
        replace b0 := At.keep b0 hb
        replace p := At.keep p hb
        clear hb
        go_wp2_with fail
        refine (lSame cp cq p q).mono ?_
        rw [hs.out]
        rintro e w9 ⟨rfl, hb⟩
        replace B := belG B hb
        replace a0 := At.keep a0 hb
        replace b0 := At.keep b0 hb
        clear hb p q
        go_wp2_with fail
        refine (lWithin 0 ca (At.of (RdS.nil _ _ none) (by decide)) a0).mono ?_
        rw [decide_eq_true (with3 a)]
        rintro e w10 ⟨rfl, hb⟩
        replace B := belG B hb
        replace a0 := At.keep a0 hb
        replace b0 := At.keep b0 hb
        clear hb
        go_wp2_with fail
        rcases Decidable.em (S = 0) with rfl | hS
        · refine (lWithin ca 0 a0 (At.of (RdS.nil _ _ none) (by decide))).mono ?_
          rw [hq.out, show decide ((0 : Int) = 0) = true from rfl]
          rintro e w11 ⟨rfl, hb⟩
          replace B := belG B hb
          replace a0 := At.keep a0 hb
          replace b0 := At.keep b0 hb
          clear hb
          go_wp2_with fail
          refine (lMany ca a0).mono ?_
          rw [HS.out]
          rintro e w12 ⟨rfl, hb⟩
          replace B := belG B hb
          replace b0 := At.keep b0 hb
          clear hb a0
          go_wp2_with fail
          go_ret
          exact ⟨rfl, B.out⟩
        · refine (lWithin ca 0 a0 (At.of (RdS.nil _ _ none) (by decide))).mono ?_
          rw [hq.out, show decide (S = 0) = false from decide_eq_false hS]
          rintro e w11 ⟨rfl, hb⟩
          replace B := belG B hb
          replace a0 := At.keep a0 hb
          replace b0 := At.keep b0 hb
          clear hb
          go_wp2_with fail
          refine (lMany ca a0).mono ?_
          rw [HS.out]
          rintro e w12 ⟨rfl, hb⟩
          replace B := belG B hb
          replace b0 := At.keep b0 hb
          clear hb a0
          go_wp2_with fail
          go_ret
          exact ⟨by simp [hS], B.out⟩
      · replace hs := Lib.hid (hs.out.trans (show (true && true) = true from rfl))
        refine (lWithin ca cb a0 b0).mono ?_
        rw [← hX.out]
        rintro e w3 ⟨rfl, hb⟩
        replace B := belG B hb
        replace a0 := At.keep a0 hb
        replace b0 := At.keep b0 hb
        replace c0 := At.keep c0 hb
        clear hb
        go_wp2_with fail
        refine (lWithin cb cc b0 c0).mono ?_
        rw [← hY.out]
        rintro e w4 ⟨rfl, hb⟩
        replace B := belG B hb
        replace a0 := At.keep a0 hb
        replace b0 := At.keep b0 hb
        replace c0 := At.keep c0 hb
        clear hb
        go_wp2_with fail
        refine (lWithin ca cc a0 c0).mono ?_
        rw [← hZ.out]
        rintro e w5 ⟨rfl, hb⟩
        replace B := belG B hb
        replace a0 := At.keep a0 hb
        replace b0 := At.keep b0 hb
        clear hb c0
        go_wp2_with fail
        refine (lWithin cb ca b0 a0).mono ?_
        rw [← hV.out]
        rintro e w6 ⟨rfl, hb⟩
        replace B := belG B hb
        replace a0 := At.keep a0 hb
        replace b0 := At.keep b0 hb
        clear hb
        go_wp2_with fail
        refine (lClean ca a0 (Nat.le_trans Hl.out.2.1 (by decide))).mono ?_
        rintro e w7 ⟨Ap, np, cp, rfl, p, hb, Np⟩
        replace B := belG B hb
        replace a0 := At.keep a0 hb
        replace b0 := At.keep b0 hb
        clear hb
        go_wp2_with fail
        refine (lClean cb b0 (Nat.le_trans Hl.out.2.2.1 (by decide))).mono ?_
        rintro e w8 ⟨Aq, nq, cq, rfl, q, hb, Nq⟩
        replace B := belG B hb
        replace a0 := At.keep a0 hb
        replace b0 := At.keep b0 hb
        replace p := At.keep p hb
        clear hb
        go_wp2_with fail
        refine (lSame cp cq p q).mono ?_
        rw [hs.out]
        rintro e w9 ⟨rfl, hb⟩
        replace B := belG B hb
        replace a0 := At.keep a0 hb
        replace b0 := At.keep b0 hb
        clear hb p q
        go_wp2_with fail
        refine (lWithin 0 ca (At.of (RdS.nil _ _ none) (by decide)) a0).mono ?_
        rw [decide_eq_true (with3 a)]
        rintro e w10 ⟨rfl, hb⟩
        replace B := belG B hb
        replace a0 := At.keep a0 hb
        replace b0 := At.keep b0 hb
        clear hb
        go_wp2_with fail
        rcases Decidable.em (S = 0) with rfl | hS
        · refine (lWithin ca 0 a0 (At.of (RdS.nil _ _ none) (by decide))).mono ?_
          rw [hq.out, show decide ((0 : Int) = 0) = true from rfl]
          rintro e w11 ⟨rfl, hb⟩
          replace B := belG B hb
          replace a0 := At.keep a0 hb
          replace b0 := At.keep b0 hb
          clear hb
          go_wp2_with fail
          refine (lMany ca a0).mono ?_
          rw [HS.out]
          rintro e w12 ⟨rfl, hb⟩
          replace B := belG B hb
          replace b0 := At.keep b0 hb
          clear hb a0
          go_wp2_with fail
          go_ret
          exact ⟨rfl, B.out⟩
        · refine (lWithin ca 0 a0 (At.of (RdS.nil _ _ none) (by decide))).mono ?_
          rw [hq.out, show decide (S = 0) = false from decide_eq_false hS]
          rintro e w11 ⟨rfl, hb⟩
          replace B := belG B hb
          replace a0 := At.keep a0 hb
          replace b0 := At.keep b0 hb
          clear hb
          go_wp2_with fail
          refine (lMany ca a0).mono ?_
          rw [HS.out]
          rintro e w12 ⟨rfl, hb⟩
          replace B := belG B hb
          replace b0 := At.keep b0 hb
          clear hb a0
          go_wp2_with fail
          go_ret
          exact ⟨by simp [hS], B.out⟩
    · go_wp2_with fail
      go_ret
      exact ⟨rfl, B.out⟩
  · rw [show (decide (na ≤ 40) && decide (nb ≤ 40)) = false by simp; omega]
    go_wp2_with fail
    go_ret
    exact ⟨rfl, B.out⟩

theorem SpanWithin_walk {H : Type} {enc : TypeId × Value → H} (W : World) (base : Nat) {v0 v1 v2 : Value} {d0 : DataW H} {p0 : List MemPlace} {d1 : DataW H} {p1 : List MemPlace} {d2 : DataW H} {p2 : List MemPlace}
    (k0 : Value.okWide Try.prog W .any base 22 v0) (h0 : DataW.Trod enc Try.prog W 0 (fun _ => true) true 22 v0 d0 p0) (k1 : Value.okWide Try.prog W .any base 22 v1) (h1 : DataW.Trod enc Try.prog W 0 (fun _ => true) true 22 v1 d1 p1) (k2 : Value.okWide Try.prog W .any base 22 v2) (h2 : DataW.Trod enc Try.prog W 0 (fun _ => true) true 22 v2 d2 p2) :
    Calls Try.prog 8 #[v0, v1, v2] W (Yes W) := by
  obtain ⟨A0, n0, c0, l0, rfl, hr0, hn0⟩ := ar_spans k0 h0
  obtain ⟨A1, n1, c1, l1, rfl, hr1, hn1⟩ := ar_spans k1 h1
  obtain ⟨A2, n2, c2, l2, rfl, hr2, hn2⟩ := ar_spans k2 h2
  exact SpanWithin_core A0 n0 c0 A1 n1 c1 A2 n2 c2 l0 l1 l2 W hr0 hr1 hr2 hn0 hn1 hn2
end Go.Proofs.Ytikpcpkclecciaa
