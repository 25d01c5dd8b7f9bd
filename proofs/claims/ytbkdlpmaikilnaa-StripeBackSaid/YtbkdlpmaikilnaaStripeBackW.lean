/- The walk of StripeBack. -/
import Derived.Test.YtbkdlpmaikilnaaStLaw
namespace Go.Proofs.Ytbkdlpmaikilnaa
open Go.ChangeShapes Go.WideShapes Go.ChangeAt Go.RowKit

theorem and16 (x : Nat) (h : x < 9223372036854775808) : bits .and .i64 (x : Int) 65535 = ((x % 65536 : Nat) : Int) := by
  have e : ∀ n : Nat, n < 9223372036854775808 → (BitVec.ofInt 64 (n : Int)).toNat = n := fun n hn => by
    rw [BitVec.ofInt_natCast, BitVec.toNat_ofNat]; exact Nat.mod_eq_of_lt (by omega)
  have h2 : x &&& 65535 = x % 65536 := Nat.and_two_pow_sub_one_eq_mod x 16
  show IntKind.i64.wrap ((BitVec.ofInt 64 (x : Int) &&& BitVec.ofInt 64 ((65535 : Nat) : Int)).toNat : Int) = _
  rw [BitVec.toNat_and, e _ h, e _ (by omega), IntKind.wrap_i64, h2]
  omega
theorem bk_le {u c m : Nat} (h : LN u c m) (ob k : Nat) (hk : k < u * m) : bk u c m ob k ≤ (ob + 1) * 512 := by
  obtain ⟨s, row, col, x, hx, hc, hr, rfl, rfl⟩ := dig_place h ob k hk
  rw [bk_dig hx hc, dig_T]
  have h1 := dig_r (u := u) hx hc hr
  have h2 := h.S512
  have h3 : s * (u * m * c) ≤ s * 512 := Nat.mul_le_mul_left _ h2
  have h4 : s ≤ s * c := Nat.le_mul_of_pos_right s h.c1
  omega

set_option maxHeartbeats 1000000 in
theorem StripeBack_core (U C O a1 a2 : Int) (W : World) (_i0 : I64 U) (_i1 : I64 C) (_i2 : I64 O) (_j1 : I64 a1) (_j2 : I64 a2) :
    Calls Try.prog 6 #[lay U C O, .int .i64 a1, .int .i64 a2] W (Yes W) := by
  have H5 := Lib.hid (fun w => Check_any U C O w)
  by_cases hL : Lay U C O
  · have HC := Lib.hid (show chk U C O = 0 from if_pos hL)
    by_cases h0 : 0 ≤ a1
    · by_cases h1 : a1 ≤ 1000000000
      · by_cases h2 : 0 ≤ a2
        · by_cases h3 : a2 < O
          · obtain ⟨u, c, m, rfl, rfl, rfl, hN⟩ := hL.num
            obtain ⟨off, rfl⟩ := Int.eq_ofNat_of_zero_le h0
            obtain ⟨at_, rfl⟩ := Int.eq_ofNat_of_zero_le h2
            have hz := and16 off (by omega)
            have hzl : off % 65536 < 65536 := Nat.mod_lt _ (by omega)
            obtain ⟨z, hze⟩ : ∃ z, z = off % 65536 := ⟨_, rfl⟩
            rw [← hze] at hz hzl
            have hp := p_bk hN z at_ (by omega)
            have hpl := bk_le hN z at_ (by omega)
            obtain ⟨T, hT⟩ : ∃ T, T = bk u c m z at_ := ⟨_, rfl⟩
            rw [← hT] at hp hpl
            have g1 : Gives 11 #[lay u c (u * m : Nat), .int .i64 off] (.tuple #[.int .i64 (pO u c m off), .int .i64 (pK u c m off)]) := fun w => Place_ok u c m off w hN (by omega)
            have hk := pK_lt hN off
            have ho := pO_le hN off
            have g2 : Gives 14 #[lay u c (u * m : Nat), .int .i64 (pO u c m off), .int .i64 (pK u c m off)] (.int .i64 off) := fun w => by
              have h := Back_ok u c m (pO u c m off) (pK u c m off) w hN (by omega) hk
              rw [bk_p hN] at h
              exact h
            have g3 : Gives 14 #[lay u c (u * m : Nat), .int .i64 z, .int .i64 at_] (.int .i64 T) := fun w => by
              have h := Back_ok u c m z at_ w hN (by omega) (by omega)
              rw [← hT] at h
              exact h
            have g4 : Gives 11 #[lay u c (u * m : Nat), .int .i64 T] (.tuple #[.int .i64 z, .int .i64 at_]) := fun w => by
              have h := Place_ok u c m T w hN (by omega)
              rw [hp.1, hp.2] at h
              exact h
            have G1 := Lib.hid g1
            have G2 := Lib.hid g2
            have G3 := Lib.hid g3
            have G4 := Lib.hid g4
            have hkO : ((pK u c m off : Nat) : Int) < ((u * m : Nat) : Int) := by omega
            clear g1 g2 g3 g4 hp hT hze hN hL hk ho hpl h0 h2
            generalize pO u c m off = o at G1 G2
            generalize pK u c m off = k at G1 G2 hkO
            generalize ((u * m : Nat) : Int) = O at *
            generalize (u : Int) = U at *
            generalize (c : Int) = C at *
            go_enter Try.func6, Try.ntmps6
            go_wp2_with fail
            refine (awake_any _).mono ?_
            rintro e w1 ⟨rfl, hb1⟩
            have HL := Lib.hid ((LayAt.box W U C O 23).to hb1)
            have Hb1 := Lib.hid (bel1 hb1)
            have HB := Lib.hid (Nat.le_refl W.heap.size)
            clear hb1
            have c0 := HL.out.c0
            have c1 := HL.out.c1
            have c2 := HL.out.c2
            go_wp2_with fail
            refine (H5.out _).mono ?_
            rintro e w2 ⟨rfl, hb2⟩
            rw [HC.out]
            have HL := Lib.hid (HL.out.to hb2)
            have Hb1 := Lib.hid (Hb1.out.trans (hb2.mono Hb1.out.size))
            clear hb2 c0 c1 c2
            have c0 := HL.out.c0
            have c1 := HL.out.c1
            have c2 := HL.out.c2
            go_wp2_with fail
            refine (G1.out _).mono ?_
            rintro e w3 ⟨rfl, hb3⟩
            have HL := Lib.hid (HL.out.to hb3)
            have Hb1 := Lib.hid (Hb1.out.trans (hb3.mono Hb1.out.size))
            clear hb3 c0 c1 c2
            have c0 := HL.out.c0
            have c1 := HL.out.c1
            have c2 := HL.out.c2
            go_wp2_with fail
            refine (G2.out _).mono ?_
            rintro e w4 ⟨rfl, hb4⟩
            have HL := Lib.hid (HL.out.to hb4)
            have Hb1 := Lib.hid (Hb1.out.trans (hb4.mono Hb1.out.size))
            clear hb4 c0 c1 c2
            have c0 := HL.out.c0
            have c1 := HL.out.c1
            have c2 := HL.out.c2
            go_wp2_with fail
            refine (G3.out _).mono ?_
            rintro e w5 ⟨rfl, hb5⟩
            have HL := Lib.hid (HL.out.to hb5)
            have Hb1 := Lib.hid (Hb1.out.trans (hb5.mono Hb1.out.size))
            clear hb5 c0 c1 c2
            have c0 := HL.out.c0
            have c1 := HL.out.c1
            have c2 := HL.out.c2
            go_wp2_with fail
            refine (G4.out _).mono ?_
            rintro e w6 ⟨rfl, hb6⟩
            have HL := Lib.hid (HL.out.to hb6)
            have Hb1 := Lib.hid (Hb1.out.trans (hb6.mono Hb1.out.size))
            clear hb6 c0 c1 c2
            have c0 := HL.out.c0
            have c1 := HL.out.c1
            have c2 := HL.out.c2
            go_wp2_with fail
            go_ret
            exact ⟨rfl, Hb1.out⟩
          · clear hL
            go_enter Try.func6, Try.ntmps6
            go_wp2_with fail
            refine (awake_any _).mono ?_
            rintro e w1 ⟨rfl, hb1⟩
            have HL := Lib.hid ((LayAt.box W U C O 23).to hb1)
            have Hb1 := Lib.hid (bel1 hb1)
            have HB := Lib.hid (Nat.le_refl W.heap.size)
            clear hb1
            have c0 := HL.out.c0
            have c1 := HL.out.c1
            have c2 := HL.out.c2
            go_wp2_with fail
            refine (H5.out _).mono ?_
            rintro e w2 ⟨rfl, hb2⟩
            rw [HC.out]
            have HL := Lib.hid (HL.out.to hb2)
            have Hb1 := Lib.hid (Hb1.out.trans (hb2.mono Hb1.out.size))
            clear hb2 c0 c1 c2
            have c0 := HL.out.c0
            have c1 := HL.out.c1
            have c2 := HL.out.c2
            go_wp2_with fail
            go_ret
            exact ⟨rfl, Hb1.out⟩
        · clear hL
          go_enter Try.func6, Try.ntmps6
          go_wp2_with fail
          refine (awake_any _).mono ?_
          rintro e w1 ⟨rfl, hb1⟩
          have HL := Lib.hid ((LayAt.box W U C O 23).to hb1)
          have Hb1 := Lib.hid (bel1 hb1)
          have HB := Lib.hid (Nat.le_refl W.heap.size)
          clear hb1
          have c0 := HL.out.c0
          have c1 := HL.out.c1
          have c2 := HL.out.c2
          go_wp2_with fail
          refine (H5.out _).mono ?_
          rintro e w2 ⟨rfl, hb2⟩
          rw [HC.out]
          have HL := Lib.hid (HL.out.to hb2)
          have Hb1 := Lib.hid (Hb1.out.trans (hb2.mono Hb1.out.size))
          clear hb2 c0 c1 c2
          have c0 := HL.out.c0
          have c1 := HL.out.c1
          have c2 := HL.out.c2
          go_wp2_with fail
          go_ret
          exact ⟨rfl, Hb1.out⟩
      · clear hL
        go_enter Try.func6, Try.ntmps6
        go_wp2_with fail
        refine (awake_any _).mono ?_
        rintro e w1 ⟨rfl, hb1⟩
        have HL := Lib.hid ((LayAt.box W U C O 23).to hb1)
        have Hb1 := Lib.hid (bel1 hb1)
        have HB := Lib.hid (Nat.le_refl W.heap.size)
        clear hb1
        have c0 := HL.out.c0
        have c1 := HL.out.c1
        have c2 := HL.out.c2
        go_wp2_with fail
        refine (H5.out _).mono ?_
        rintro e w2 ⟨rfl, hb2⟩
        rw [HC.out]
        have HL := Lib.hid (HL.out.to hb2)
        have Hb1 := Lib.hid (Hb1.out.trans (hb2.mono Hb1.out.size))
        clear hb2 c0 c1 c2
        have c0 := HL.out.c0
        have c1 := HL.out.c1
        have c2 := HL.out.c2
        go_wp2_with fail
        go_ret
        exact ⟨rfl, Hb1.out⟩
    · clear hL
      go_enter Try.func6, Try.ntmps6
      go_wp2_with fail
      refine (awake_any _).mono ?_
      rintro e w1 ⟨rfl, hb1⟩
      have HL := Lib.hid ((LayAt.box W U C O 23).to hb1)
      have Hb1 := Lib.hid (bel1 hb1)
      have HB := Lib.hid (Nat.le_refl W.heap.size)
      clear hb1
      have c0 := HL.out.c0
      have c1 := HL.out.c1
      have c2 := HL.out.c2
      go_wp2_with fail
      refine (H5.out _).mono ?_
      rintro e w2 ⟨rfl, hb2⟩
      rw [HC.out]
      have HL := Lib.hid (HL.out.to hb2)
      have Hb1 := Lib.hid (Hb1.out.trans (hb2.mono Hb1.out.size))
      clear hb2 c0 c1 c2
      have c0 := HL.out.c0
      have c1 := HL.out.c1
      have c2 := HL.out.c2
      go_wp2_with fail
      go_ret
      exact ⟨rfl, Hb1.out⟩
  · have HC := Lib.hid (show chk U C O = 1 from if_neg hL)
    clear hL
    go_enter Try.func6, Try.ntmps6
    go_wp2_with fail
    refine (awake_any _).mono ?_
    rintro e w1 ⟨rfl, hb1⟩
    have HL := Lib.hid ((LayAt.box W U C O 23).to hb1)
    have Hb1 := Lib.hid (bel1 hb1)
    have HB := Lib.hid (Nat.le_refl W.heap.size)
    clear hb1
    have c0 := HL.out.c0
    have c1 := HL.out.c1
    have c2 := HL.out.c2
    go_wp2_with fail
    refine (H5.out _).mono ?_
    rintro e w2 ⟨rfl, hb2⟩
    rw [HC.out]
    have HL := Lib.hid (HL.out.to hb2)
    have Hb1 := Lib.hid (Hb1.out.trans (hb2.mono Hb1.out.size))
    clear hb2 c0 c1 c2
    have c0 := HL.out.c0
    have c1 := HL.out.c1
    have c2 := HL.out.c2
    go_wp2_with fail
    go_ret
    exact ⟨rfl, Hb1.out⟩

theorem StripeBack_walk {H : Type} {enc : TypeId × Value → H} (W : World) (base : Nat) {v0 v1 v2 : Value} {d0 : DataW H} {p0 : List MemPlace} {d1 : DataW H} {p1 : List MemPlace} {d2 : DataW H} {p2 : List MemPlace}
    (k0 : Value.okWide Try.prog W .any base 23 v0) (h0 : DataW.Trod enc Try.prog W 0 (fun _ => true) true 23 v0 d0 p0) (k1 : Value.okWide Try.prog W .any base 3 v1) (h1 : DataW.Trod enc Try.prog W 0 (fun _ => true) true 3 v1 d1 p1) (k2 : Value.okWide Try.prog W .any base 3 v2) (h2 : DataW.Trod enc Try.prog W 0 (fun _ => true) true 3 v2 d2 p2) :
    Calls Try.prog 6 #[v0, v1, v2] W (Yes W) := by
  obtain ⟨U, C, O, rfl, i0, i1, i2⟩ := ar_layout k0 h0
  obtain ⟨a1, rfl, j1⟩ := ar_int Try.underlying3 k1 h1
  obtain ⟨a2, rfl, j2⟩ := ar_int Try.underlying3 k2 h2
  exact StripeBack_core U C O a1 a2 W i0 i1 i2 j1 j2
end Go.Proofs.Ytbkdlpmaikilnaa
