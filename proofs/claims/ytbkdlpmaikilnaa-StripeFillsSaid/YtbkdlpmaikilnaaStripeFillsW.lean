/- The walk of StripeFills. -/
import Derived.Test.YtbkdlpmaikilnaaStLaw
namespace Go.Proofs.Ytbkdlpmaikilnaa
open Go.ChangeShapes Go.WideShapes Go.ChangeAt Go.RowKit

theorem objs_le {u c m : Nat} (h : LN u c m) : ∀ n, objs u c m n ≤ n
  | 0 => by rw [objs_zero h]; omega
  | n + 1 => by
    have h1 := objs_le h n
    have h2 := pO_le h n
    rw [objs_succ h]
    omega
theorem sumR_le {u c m : Nat} (h : LN u c m) : ∀ n i, sumR u c m n i ≤ n
  | 0, i => by rw [sumR_zero]; omega
  | n + 1, i => by
    have h1 := sumR_le h n i
    rw [sumR_succ h]
    split <;> omega

set_option maxHeartbeats 1000000 in
theorem StripeFills_core (U C O a1 : Int) (W : World) (_i0 : I64 U) (_i1 : I64 C) (_i2 : I64 O) (_j1 : I64 a1) :
    Calls Try.prog 8 #[lay U C O, .int .i64 a1] W (Yes W) := by
  have H5 := Lib.hid (fun w => Check_any U C O w)
  by_cases hL : Lay U C O
  · have HC := Lib.hid (show chk U C O = 0 from if_pos hL)
    by_cases h0 : 0 ≤ a1
    · by_cases h1 : a1 ≤ 512
      · obtain ⟨u, c, m, rfl, rfl, rfl, hN⟩ := hL.num
        obtain ⟨n, rfl⟩ := Int.eq_ofNat_of_zero_le h0
        have hn : n ≤ 512 := by omega
        have g1 : Gives 19 #[lay u c (u * m : Nat), .int .i64 n] (.int .i64 (objs u c m n)) := fun w => Objects_ok u c m n w hN hn
        have hNl := objs_le hN n
        have g2 : ∀ i : Nat, i ≤ 512 → Gives 21 #[lay u c (u * m : Nat), .int .i64 i, .int .i64 n] (.int .i64 (room u c m i n)) := fun i hi w => Room_ok u c m i n w hN (by omega) hn
        have g3 : ∀ i k : Nat, i ≤ 512 → k < u * m → Gives 14 #[lay u c (u * m : Nat), .int .i64 i, .int .i64 k] (.int .i64 (bk u c m i k)) := fun i k hi hk w => Back_ok u c m i k w hN (by omega) hk
        have hz : room u c m (objs u c m n) n = 0 := room_none hN _ n (Nat.le_refl _)
        have hlast := room_last hN n
        have hsum := sumR_objs hN n
        have hsle := fun i => sumR_le hN n i
        have hle := fun i => room_le hN i n
        have hlt := fun i k => room_lt hN i k n
        have hge := fun i => room_ge hN i n
        have hum := hN.um
        have hum1 := hN.um1
        obtain ⟨N, hNe⟩ : ∃ N, N = objs u c m n := ⟨_, rfl⟩
        rw [← hNe] at g1 hNl hz hlast hsum
        have G1 := Lib.hid g1
        have G2 := Lib.hid g2
        have G3 := Lib.hid g3
        have Hz := Lib.hid hz
        have Hlast := Lib.hid hlast
        have Hsum := Lib.hid hsum
        have Hsle := Lib.hid hsle
        have Hle := Lib.hid hle
        have Hlt := Lib.hid hlt
        have Hge := Lib.hid hge
        clear g1 g2 g3 hz hlast hsum hsle hle hlt hge hNe hN hL h0
        generalize hOm : u * m = om at *
        generalize hOe : (om : Int) = O at *
        have HOe := Lib.hid hOe
        clear hOe
        generalize (u : Int) = U at *
        generalize (c : Int) = C at *
        go_enter Try.func8, Try.ntmps8
        go_wp2_with fail
        refine (awake_any _).mono ?_
        rintro e w1 ⟨rfl, hb1⟩
        have HL := Lib.hid ((LayAt.box W U C O 23).to hb1)
        have Hb1 := Lib.hid (bel1 hb1)
        have HB := Lib.hid (Nat.le_refl W.heap.size)
        clear hb1
        have c0 := HL.out.c0
        have c1 := HL.out.c1
        have c2 := HL.out.c2
        go_wp2_with fail
        refine (H5.out _).mono ?_
        rintro e w2 ⟨rfl, hb2⟩
        rw [HC.out]
        have HL := Lib.hid (HL.out.to hb2)
        have Hb1 := Lib.hid (Hb1.out.trans (hb2.mono Hb1.out.size))
        clear hb2 c0 c1 c2
        have c0 := HL.out.c0
        have c1 := HL.out.c1
        have c2 := HL.out.c2
        go_wp2_with fail
        refine (G1.out _).mono ?_
        rintro e w3 ⟨rfl, hb3⟩
        have HL := Lib.hid (HL.out.to hb3)
        have Hb1 := Lib.hid (Hb1.out.trans (hb3.mono Hb1.out.size))
        clear hb3 c0 c1 c2
        have c0 := HL.out.c0
        have c1 := HL.out.c1
        have c2 := HL.out.c2
        clear c0 c1 c2
        go_wp2_with fail
        go_loopw [7, 8] (fun s i wr => ∃ j : Nat, j ≤ N ∧ i = .int .i64 j ∧ s = .int .i64 (sumR u c m n j) ∧ Hid (LayAt W.heap.size U C O wr) ∧ Hid (Below W.heap.size W wr)) (fun _ i _ => N - (intOf i).toNat)
        case atStart => exact ⟨0, Nat.zero_le _, rfl, rfl, HL, Hb1⟩
        case round =>
          obtain ⟨j, hj, rfl, rfl, HLr, Hbr⟩ := hrel
          clear HL Hb1
          have HL := HLr
          have Hb1 := Hbr
          clear HLr Hbr
          have c0 := HL.out.c0
          have c1 := HL.out.c1
          have c2 := HL.out.c2
          by_cases hjN : j < N
          · obtain ⟨R, hR⟩ : ∃ R, R = room u c m j n := ⟨_, rfl⟩
            have H2 := Lib.hid (G2.out j (by omega))
            rw [← hR] at H2
            have hRO : R ≤ om := by rw [hR]; exact Hle.out j
            have hS1 : sumR u c m n (j + 1) = sumR u c m n j + R := by rw [hR]; rfl
            have hSl := Hsle.out (j + 1)
            obtain ⟨s, hs⟩ : ∃ s, s = sumR u c m n j := ⟨_, rfl⟩
            rw [← hs] at hS1 ⊢
            have hs512 : s + R ≤ 512 := by omega
            have HS1 := Lib.hid hS1
            have hl1 : ∀ k, k < R → bk u c m j k < n := fun k hk => Hlt.out j k (by rw [← hR]; exact hk)
            have hg1 : R < om → n ≤ bk u c m j R := fun h => by
              have h2 := Hge.out j (by rw [← hR]; exact h)
              rw [← hR] at h2
              exact h2
            have hO := HOe.out
            clear hR hS1 hSl hs
            rcases Nat.eq_zero_or_pos R with h0 | h0
            · subst h0
              have hB := hg1 (by omega)
              have h3 := G3.out j 0 (by omega) (by omega)
              generalize bk u c m j 0 = B at hB h3
              have H3 : Hid (Gives 14 #[lay U C O, .int .i64 j, .int .i64 0] (.int .i64 B)) := h3
              have hOp : 0 < O := by omega
              clear h3 hO hl1 hg1 hRO
              go_wp2_with fail
              refine (H2.out _).mono ?_
              rintro e w4 ⟨rfl, hb4⟩
              have HL := Lib.hid (HL.out.to hb4)
              have Hb1 := Lib.hid (Hb1.out.trans (hb4.mono Hb1.out.size))
              clear hb4 c0 c1 c2
              have c0 := HL.out.c0
              have c1 := HL.out.c1
              have c2 := HL.out.c2
              go_wp2_with fail
              refine (H3.out _).mono ?_
              rintro e w5 ⟨rfl, hb5⟩
              have HL := Lib.hid (HL.out.to hb5)
              have Hb1 := Lib.hid (Hb1.out.trans (hb5.mono Hb1.out.size))
              clear hb5 c0 c1 c2
              have c0 := HL.out.c0
              have c1 := HL.out.c1
              have c2 := HL.out.c2
              go_wp2_with fail
              go_roundw
              case rel => exact ⟨j + 1, by omega, by go_num, by rw [HS1.out]; go_num, HL, Hb1⟩
              case measure => simp [intOf]; omega
            · have hB1 := hl1 (R - 1) (by omega)
              have h3 := G3.out j (R - 1) (by omega) (by omega)
              generalize bk u c m j (R - 1) = B1 at hB1 h3
              rw [show ((R - 1 : Nat) : Int) = (R : Int) - 1 by omega] at h3
              have H3 := Lib.hid h3
              by_cases h5 : R < om
              · have hB := hg1 h5
                have h4 := G3.out j R (by omega) (by omega)
                generalize bk u c m j R = B at hB h4
                have H4 := Lib.hid h4
                have hRO1 : (R : Int) < O := by omega
                clear h3 h4 hO hl1 hg1 hRO h5
                go_wp2_with fail
                refine (H2.out _).mono ?_
                rintro e w4 ⟨rfl, hb4⟩
                have HL := Lib.hid (HL.out.to hb4)
                have Hb1 := Lib.hid (Hb1.out.trans (hb4.mono Hb1.out.size))
                clear hb4 c0 c1 c2
                have c0 := HL.out.c0
                have c1 := HL.out.c1
                have c2 := HL.out.c2
                go_wp2_with fail
                refine (H3.out _).mono ?_
                rintro e w5 ⟨rfl, hb5⟩
                have HL := Lib.hid (HL.out.to hb5)
                have Hb1 := Lib.hid (Hb1.out.trans (hb5.mono Hb1.out.size))
                clear hb5 c0 c1 c2
                have c0 := HL.out.c0
                have c1 := HL.out.c1
                have c2 := HL.out.c2
                go_wp2_with fail
                refine (H4.out _).mono ?_
                rintro e w6 ⟨rfl, hb6⟩
                have HL := Lib.hid (HL.out.to hb6)
                have Hb1 := Lib.hid (Hb1.out.trans (hb6.mono Hb1.out.size))
                clear hb6 c0 c1 c2
                have c0 := HL.out.c0
                have c1 := HL.out.c1
                have c2 := HL.out.c2
                go_wp2_with fail
                go_roundw
                case rel => exact ⟨j + 1, by omega, by go_num, by rw [HS1.out]; go_num, HL, Hb1⟩
                case measure => simp [intOf]; omega
              · have hRO1 : (R : Int) = O := by omega
                have HE := Lib.hid hRO1
                have hRO2 : (R : Int) ≤ O := by omega
                have hRO3 : O ≤ (R : Int) := by omega
                clear h3 hO hl1 hg1 hRO h5 hRO1
                go_wp2_with fail
                refine (H2.out _).mono ?_
                rintro e w4 ⟨rfl, hb4⟩
                have HL := Lib.hid (HL.out.to hb4)
                have Hb1 := Lib.hid (Hb1.out.trans (hb4.mono Hb1.out.size))
                clear hb4 c0 c1 c2
                have c0 := HL.out.c0
                have c1 := HL.out.c1
                have c2 := HL.out.c2
                go_wp2_with fail
                refine (H3.out _).mono ?_
                rintro e w5 ⟨rfl, hb5⟩
                have HL := Lib.hid (HL.out.to hb5)
                have Hb1 := Lib.hid (Hb1.out.trans (hb5.mono Hb1.out.size))
                clear hb5 c0 c1 c2
                have c0 := HL.out.c0
                have c1 := HL.out.c1
                have c2 := HL.out.c2
                go_wp2_with fail
                go_roundw
                case rel => exact ⟨j + 1, by omega, by go_num, by rw [HS1.out]; go_num, HL, Hb1⟩
                case measure => simp [intOf]; omega
          · obtain rfl : j = N := by omega
            rw [Hsum.out]
            have h2 := G2.out j (by omega)
            rw [Hz.out] at h2
            have H2 : Hid (Gives 21 #[lay U C O, .int .i64 j, .int .i64 n] (.int .i64 0)) := h2
            clear h2
            rcases Nat.eq_zero_or_pos j with h0 | h0
            · subst h0
              go_wp2_with fail
              refine (H2.out _).mono ?_
              rintro e w4 ⟨rfl, hb4⟩
              have HL := Lib.hid (HL.out.to hb4)
              have Hb1 := Lib.hid (Hb1.out.trans (hb4.mono Hb1.out.size))
              clear hb4 c0 c1 c2
              have c0 := HL.out.c0
              have c1 := HL.out.c1
              have c2 := HL.out.c2
              go_wp2_with fail
              go_ret
              exact ⟨rfl, Hb1.out⟩
            · have hR := Hlast.out (by omega)
              have h3 := G2.out (j - 1) (by omega)
              generalize room u c m (j - 1) n = R at hR h3
              rw [show ((j - 1 : Nat) : Int) = (j : Int) - 1 by omega] at h3
              have H3 := Lib.hid h3
              clear h3
              go_wp2_with fail
              refine (H2.out _).mono ?_
              rintro e w4 ⟨rfl, hb4⟩
              have HL := Lib.hid (HL.out.to hb4)
              have Hb1 := Lib.hid (Hb1.out.trans (hb4.mono Hb1.out.size))
              clear hb4 c0 c1 c2
              have c0 := HL.out.c0
              have c1 := HL.out.c1
              have c2 := HL.out.c2
              go_wp2_with fail
              refine (H3.out _).mono ?_
              rintro e w5 ⟨rfl, hb5⟩
              have HL := Lib.hid (HL.out.to hb5)
              have Hb1 := Lib.hid (Hb1.out.trans (hb5.mono Hb1.out.size))
              clear hb5 c0 c1 c2
              have c0 := HL.out.c0
              have c1 := HL.out.c1
              have c2 := HL.out.c2
              go_wp2_with fail
              go_ret
              exact ⟨rfl, Hb1.out⟩
      · clear hL
        have Z1 : Hid (Gives 19 #[lay U C O, .int .i64 (-1)] (.int .i64 0)) := fun w => Objects_no U C O (-1) w (by omega)
        have Z2 : Hid (Gives 21 #[lay U C O, .int .i64 0, .int .i64 (-1)] (.int .i64 0)) := fun w => Room_no U C O 0 (-1) w (by omega)
        go_enter Try.func8, Try.ntmps8
        go_wp2_with fail
        refine (awake_any _).mono ?_
        rintro e w1 ⟨rfl, hb1⟩
        have HL := Lib.hid ((LayAt.box W U C O 23).to hb1)
        have Hb1 := Lib.hid (bel1 hb1)
        have HB := Lib.hid (Nat.le_refl W.heap.size)
        clear hb1
        have c0 := HL.out.c0
        have c1 := HL.out.c1
        have c2 := HL.out.c2
        go_wp2_with fail
        refine (H5.out _).mono ?_
        rintro e w2 ⟨rfl, hb2⟩
        rw [HC.out]
        have HL := Lib.hid (HL.out.to hb2)
        have Hb1 := Lib.hid (Hb1.out.trans (hb2.mono Hb1.out.size))
        clear hb2 c0 c1 c2
        have c0 := HL.out.c0
        have c1 := HL.out.c1
        have c2 := HL.out.c2
        go_wp2_with fail
        refine (Z1.out _).mono ?_
        rintro e w3 ⟨rfl, hb3⟩
        have HL := Lib.hid (HL.out.to hb3)
        have Hb1 := Lib.hid (Hb1.out.trans (hb3.mono Hb1.out.size))
        clear hb3 c0 c1 c2
        have c0 := HL.out.c0
        have c1 := HL.out.c1
        have c2 := HL.out.c2
        go_wp2_with fail
        refine (Z2.out _).mono ?_
        rintro e w4 ⟨rfl, hb4⟩
        have HL := Lib.hid (HL.out.to hb4)
        have Hb1 := Lib.hid (Hb1.out.trans (hb4.mono Hb1.out.size))
        clear hb4 c0 c1 c2
        have c0 := HL.out.c0
        have c1 := HL.out.c1
        have c2 := HL.out.c2
        go_wp2_with fail
        go_ret
        exact ⟨rfl, Hb1.out⟩
    · clear hL
      have Z1 : Hid (Gives 19 #[lay U C O, .int .i64 (-1)] (.int .i64 0)) := fun w => Objects_no U C O (-1) w (by omega)
      have Z2 : Hid (Gives 21 #[lay U C O, .int .i64 0, .int .i64 (-1)] (.int .i64 0)) := fun w => Room_no U C O 0 (-1) w (by omega)
      go_enter Try.func8, Try.ntmps8
      go_wp2_with fail
      refine (awake_any _).mono ?_
      rintro e w1 ⟨rfl, hb1⟩
      have HL := Lib.hid ((LayAt.box W U C O 23).to hb1)
      have Hb1 := Lib.hid (bel1 hb1)
      have HB := Lib.hid (Nat.le_refl W.heap.size)
      clear hb1
      have c0 := HL.out.c0
      have c1 := HL.out.c1
      have c2 := HL.out.c2
      go_wp2_with fail
      refine (H5.out _).mono ?_
      rintro e w2 ⟨rfl, hb2⟩
      rw [HC.out]
      have HL := Lib.hid (HL.out.to hb2)
      have Hb1 := Lib.hid (Hb1.out.trans (hb2.mono Hb1.out.size))
      clear hb2 c0 c1 c2
      have c0 := HL.out.c0
      have c1 := HL.out.c1
      have c2 := HL.out.c2
      go_wp2_with fail
      refine (Z1.out _).mono ?_
      rintro e w3 ⟨rfl, hb3⟩
      have HL := Lib.hid (HL.out.to hb3)
      have Hb1 := Lib.hid (Hb1.out.trans (hb3.mono Hb1.out.size))
      clear hb3 c0 c1 c2
      have c0 := HL.out.c0
      have c1 := HL.out.c1
      have c2 := HL.out.c2
      go_wp2_with fail
      refine (Z2.out _).mono ?_
      rintro e w4 ⟨rfl, hb4⟩
      have HL := Lib.hid (HL.out.to hb4)
      have Hb1 := Lib.hid (Hb1.out.trans (hb4.mono Hb1.out.size))
      clear hb4 c0 c1 c2
      have c0 := HL.out.c0
      have c1 := HL.out.c1
      have c2 := HL.out.c2
      go_wp2_with fail
      go_ret
      exact ⟨rfl, Hb1.out⟩
  · have HC := Lib.hid (show chk U C O = 1 from if_neg hL)
    clear hL
    have Z1 : Hid (Gives 19 #[lay U C O, .int .i64 (-1)] (.int .i64 0)) := fun w => Objects_no U C O (-1) w (by omega)
    have Z2 : Hid (Gives 21 #[lay U C O, .int .i64 0, .int .i64 (-1)] (.int .i64 0)) := fun w => Room_no U C O 0 (-1) w (by omega)
    go_enter Try.func8, Try.ntmps8
    go_wp2_with fail
    refine (awake_any _).mono ?_
    rintro e w1 ⟨rfl, hb1⟩
    have HL := Lib.hid ((LayAt.box W U C O 23).to hb1)
    have Hb1 := Lib.hid (bel1 hb1)
    have HB := Lib.hid (Nat.le_refl W.heap.size)
    clear hb1
    have c0 := HL.out.c0
    have c1 := HL.out.c1
    have c2 := HL.out.c2
    go_wp2_with fail
    refine (H5.out _).mono ?_
    rintro e w2 ⟨rfl, hb2⟩
    rw [HC.out]
    have HL := Lib.hid (HL.out.to hb2)
    have Hb1 := Lib.hid (Hb1.out.trans (hb2.mono Hb1.out.size))
    clear hb2 c0 c1 c2
    have c0 := HL.out.c0
    have c1 := HL.out.c1
    have c2 := HL.out.c2
    go_wp2_with fail
    refine (Z1.out _).mono ?_
    rintro e w3 ⟨rfl, hb3⟩
    have HL := Lib.hid (HL.out.to hb3)
    have Hb1 := Lib.hid (Hb1.out.trans (hb3.mono Hb1.out.size))
    clear hb3 c0 c1 c2
    have c0 := HL.out.c0
    have c1 := HL.out.c1
    have c2 := HL.out.c2
    go_wp2_with fail
    refine (Z2.out _).mono ?_
    rintro e w4 ⟨rfl, hb4⟩
    have HL := Lib.hid (HL.out.to hb4)
    have Hb1 := Lib.hid (Hb1.out.trans (hb4.mono Hb1.out.size))
    clear hb4 c0 c1 c2
    have c0 := HL.out.c0
    have c1 := HL.out.c1
    have c2 := HL.out.c2
    go_wp2_with fail
    go_ret
    exact ⟨rfl, Hb1.out⟩

theorem StripeFills_walk {H : Type} {enc : TypeId × Value → H} (W : World) (base : Nat) {v0 v1 : Value} {d0 : DataW H} {p0 : List MemPlace} {d1 : DataW H} {p1 : List MemPlace}
    (k0 : Value.okWide Try.prog W .any base 23 v0) (h0 : DataW.Trod enc Try.prog W 0 (fun _ => true) true 23 v0 d0 p0) (k1 : Value.okWide Try.prog W .any base 3 v1) (h1 : DataW.Trod enc Try.prog W 0 (fun _ => true) true 3 v1 d1 p1) :
    Calls Try.prog 8 #[v0, v1] W (Yes W) := by
  obtain ⟨U, C, O, rfl, i0, i1, i2⟩ := ar_layout k0 h0
  obtain ⟨a1, rfl, j1⟩ := ar_int Try.underlying3 k1 h1
  exact StripeFills_core U C O a1 W i0 i1 i2 j1
end Go.Proofs.Ytbkdlpmaikilnaa
