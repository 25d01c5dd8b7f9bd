/- The walk of ObjmapThrough. -/
import Derived.Test.YtiopefndbamkhaaObAw
import Derived.Test.YtiopefndbamkhaaObX
namespace Go.Proofs.Ytiopefndbamkhaa
open Go.ChangeShapes Go.WideShapes Go.ChangeAt Go.RowKit

set_option maxRecDepth 10000 in
set_option maxHeartbeats 8000000 in
theorem ObjmapThrough_core (Aa : Option Addr) (na ca : Nat) (a : List Int) (Ab : Option Addr) (nb cb : Nat) (b : List Int) (Ac : Option Addr) (nc cc : Nat) (c : List Int) (W : World) (hra : RdI W W.heap.size Aa na a) (hrb : RdI W W.heap.size Ab nb b) (hrc : RdI W W.heap.size Ac nc c)
    (hna : na ≤ 9223372036854775807) (hnb : nb ≤ 9223372036854775807) (hnc : nc ≤ 9223372036854775807) :
    Calls Try.prog 8 #[.slice Aa na ca, .slice Ab nb cb, .slice Ac nc cc] W (Yes W) := by
  have Ra := Lib.hid hra
  have Rb := Lib.hid hrb
  have Rc := Lib.hid hrc
  clear hra hrb hrc
  go_enter Try.func8, Try.ntmps8
  go_wp2_with fail
  refine (awake5 _).mono ?_
  rintro e w1 ⟨rfl, hb1⟩
  have B := Lib.hid hb1
  clear hb1
  by_cases hs : na ≤ 2000 ∧ nb ≤ 2000 ∧ nc ≤ 2000
  · obtain ⟨q1, q2, q3⟩ := hs
    have h1 : (na : Int) ≤ 2000 := by omega
    have h2 : (nb : Int) ≤ 2000 := by omega
    have h3 : (nc : Int) ≤ 2000 := by omega
    have a0 : Hid (AtI w1 Aa na a) := ⟨(Ra.out.below B.out).more B.out.size, by omega⟩
    have b0 : Hid (AtI w1 Ab nb b) := ⟨(Rb.out.below B.out).more B.out.size, by omega⟩
    have c0 : Hid (AtI w1 Ac nc c) := ⟨(Rc.out.below B.out).more B.out.size, by omega⟩
    clear q1 q2 q3
    go_wp2_with fail
    have L := litL1 w1 Ab nb cb b 22 w1.heap.size rfl b0
    replace a0 := AtI.keep a0 (alB w1 (.cells #[.slice Ab nb cb] 22))
    replace b0 := AtI.keep b0 (alB w1 (.cells #[.slice Ab nb cb] 22))
    replace c0 := AtI.keep c0 (alB w1 (.cells #[.slice Ab nb cb] 22))
    replace B := belO B (alB w1 (.cells #[.slice Ab nb cb] 22))
    refine (lChanged ca 1 a0 L).mono ?_
    rintro e w2 ⟨A1, n1, c1, rfl, O1, hb, _⟩
    replace a0 := AtI.keep a0 hb
    replace b0 := AtI.keep b0 hb
    replace c0 := AtI.keep c0 hb
    replace B := belO B hb
    clear hb L
    go_wp2_with fail
    have L := litL1 w2 Ac nc cc c 22 w2.heap.size rfl c0
    replace a0 := AtI.keep a0 (alB w2 (.cells #[.slice Ac nc cc] 22))
    replace b0 := AtI.keep b0 (alB w2 (.cells #[.slice Ac nc cc] 22))
    replace c0 := AtI.keep c0 (alB w2 (.cells #[.slice Ac nc cc] 22))
    replace O1 := AtI.keep O1 (alB w2 (.cells #[.slice Ac nc cc] 22))
    replace B := belO B (alB w2 (.cells #[.slice Ac nc cc] 22))
    refine (lChanged cb 1 b0 L).mono ?_
    rintro e w3 ⟨A2, n2, c2, rfl, O2, hb, _⟩
    replace a0 := AtI.keep a0 hb
    replace b0 := AtI.keep b0 hb
    replace c0 := AtI.keep c0 hb
    replace O1 := AtI.keep O1 hb
    replace B := belO B hb
    clear hb L
    go_wp2_with fail
    have L := litL2 w3 Ab Ac nb nc cb cc b c 22 w3.heap.size rfl b0 c0
    replace a0 := AtI.keep a0 (alB w3 (.cells #[.slice Ab nb cb, .slice Ac nc cc] 22))
    replace b0 := AtI.keep b0 (alB w3 (.cells #[.slice Ab nb cb, .slice Ac nc cc] 22))
    replace c0 := AtI.keep c0 (alB w3 (.cells #[.slice Ab nb cb, .slice Ac nc cc] 22))
    replace O1 := AtI.keep O1 (alB w3 (.cells #[.slice Ab nb cb, .slice Ac nc cc] 22))
    replace O2 := AtI.keep O2 (alB w3 (.cells #[.slice Ab nb cb, .slice Ac nc cc] 22))
    replace B := belO B (alB w3 (.cells #[.slice Ab nb cb, .slice Ac nc cc] 22))
    refine (lChanged ca 2 a0 L).mono ?_
    rintro e w4 ⟨A3, n3, c3, rfl, O3, hb, _⟩
    replace a0 := AtI.keep a0 hb
    replace b0 := AtI.keep b0 hb
    replace c0 := AtI.keep c0 hb
    replace O1 := AtI.keep O1 hb
    replace O2 := AtI.keep O2 hb
    replace B := belO B hb
    clear hb L
    go_wp2_with fail
    refine (lMerge cb cc b0 c0).mono ?_
    rintro e w5 ⟨Am, nm, cm, rfl, M, hb, _⟩
    replace a0 := AtI.keep a0 hb
    replace b0 := AtI.keep b0 hb
    replace c0 := AtI.keep c0 hb
    replace O1 := AtI.keep O1 hb
    replace O2 := AtI.keep O2 hb
    replace O3 := AtI.keep O3 hb
    replace B := belO B hb
    clear hb
    go_wp2_with fail
    have L := litL1 w5 Am nm cm (mergeO b c) 22 w5.heap.size rfl M
    replace a0 := AtI.keep a0 (alB w5 (.cells #[.slice Am nm cm] 22))
    replace b0 := AtI.keep b0 (alB w5 (.cells #[.slice Am nm cm] 22))
    replace c0 := AtI.keep c0 (alB w5 (.cells #[.slice Am nm cm] 22))
    replace O1 := AtI.keep O1 (alB w5 (.cells #[.slice Am nm cm] 22))
    replace O2 := AtI.keep O2 (alB w5 (.cells #[.slice Am nm cm] 22))
    replace O3 := AtI.keep O3 (alB w5 (.cells #[.slice Am nm cm] 22))
    replace M := AtI.keep M (alB w5 (.cells #[.slice Am nm cm] 22))
    replace B := belO B (alB w5 (.cells #[.slice Am nm cm] 22))
    refine (lChanged ca 1 a0 L).mono ?_
    rintro e w6 ⟨A4, n4, c4, rfl, O4, hb, _⟩
    replace a0 := AtI.keep a0 hb
    replace b0 := AtI.keep b0 hb
    replace c0 := AtI.keep c0 hb
    replace O1 := AtI.keep O1 hb
    replace O2 := AtI.keep O2 hb
    replace O3 := AtI.keep O3 hb
    replace M := AtI.keep M hb
    replace B := belO B hb
    clear hb L M
    go_wp2_with fail
    go_loopw [12] (fun i wr => ∃ j : Nat, j ≤ 512 ∧ i = .int .i64 j ∧ Hid (Below w6.heap.size w6 wr)) (fun i _ => 512 - (intOf i).toNat)
    case atStart => exact ⟨0, Nat.zero_le _, rfl, Below.refl _ _⟩
    case round =>
      obtain ⟨j, hj, rfl, hb⟩ := hrel
      replace a0 := AtI.keep a0 hb
      replace b0 := AtI.keep b0 hb
      replace c0 := AtI.keep c0 hb
      replace O1 := AtI.keep O1 hb
      replace O2 := AtI.keep O2 hb
      replace O3 := AtI.keep O3 hb
      replace O4 := AtI.keep O4 hb
      have B2 := belO B hb
      have j0 : (0 : Int) ≤ (j : Int) := by omega
      by_cases hg : j < 512
      · have j1 : (j : Int) < 512 := by omega
        have HJ := Lib.hid hg
        obtain ⟨t1, t2, t3⟩ := through (gN_st a j) (gN_st b j) (gN_st c j)
        have I1 := fun w (h : Hid (AtI w A1 n1 (changedO a [b]))) => in_any A1 n1 c1 (changedO a [b]) j w h
        have I2 := fun w (h : Hid (AtI w A2 n2 (changedO b [c]))) => in_any A2 n2 c2 (changedO b [c]) j w h
        have I3 := fun w (h : Hid (AtI w A3 n3 (changedO a [b, c]))) => in_any A3 n3 c3 (changedO a [b, c]) j w h
        have I4 := fun w (h : Hid (AtI w A4 n4 (changedO a [mergeO b c]))) => in_any A4 n4 c4 (changedO a [mergeO b c]) j w h
        have Ga := fun w (h : Hid (AtI w Aa na a)) => lGet ca j h
        have Gb := fun w (h : Hid (AtI w Ab nb b)) => lGet cb j h
        have Gc := fun w (h : Hid (AtI w Ac nc c)) => lGet cc j h
        rw [changed_mem a [b] j hg, ch1, dif_st] at I1
        rw [changed_mem b [c] j hg, ch1, dif_st] at I2
        rw [changed_mem a [b, c] j hg, ch2, dif_st, dif_st, ← t1] at I3
        rw [changed_mem a [mergeO b c] j hg, ch1, dif_st, gN_mergeO] at I4
        rw [getO_nat] at Ga Gb Gc
        generalize difS (gN a j) (if gN c j = 2 ∧ gN b j = 1 then 1 else gN c j) = le at I4 t2 t3
        generalize difS (gN a j) (gN b j) = d1 at I1 I3 t2 t3
        generalize difS (gN b j) (gN c j) = d2 at I2 I3 t2 t3
        generalize gN a j = x at Ga t3
        generalize gN b j = y at Gb t3
        generalize gN c j = z at Gc t3
        clear t1 hg
        have T2 := Lib.hid t2
        have T3 := Lib.hid t3
        clear t2 t3
        go_upto_region 13 with fail
        go_cut [13] (fun s13 wx => s13 = .bool (d1 || d2) ∧ wx = wr)
        case first =>
          cases d1
          · go_wp2_with fail
            refine (I1 _ O1).mono ?_
            rintro e8 w8 ⟨rfl, rfl⟩
            go_wp2_with fail
            refine (I2 _ O2).mono ?_
            rintro e9 w9 ⟨rfl, rfl⟩
            go_wp2_with fail
            go_meet
            exact ⟨rfl, rfl⟩
          · go_wp2_with fail
            refine (I1 _ O1).mono ?_
            rintro e8 w8 ⟨rfl, rfl⟩
            go_wp2_with fail
            go_meet
            exact ⟨rfl, rfl⟩
        case rest =>
          obtain ⟨rfl, rfl⟩ := hcut
          generalize (d1 || d2) = X at I3 T2 T3
          clear I1 I2 O1 O2
          go_wp2_with fail
          refine (I3 _ O3).mono ?_
          rintro e8 w8 ⟨rfl, rfl⟩
          clear I3 O3
          go_upto_region 16 with fail
          go_cut [74] (fun s74 wx => s74 = .bool false ∧ wx = wc)
          case first =>
            cases le
            · go_wp2_with fail
              refine (I4 _ O4).mono ?_
              rintro e9 w9 ⟨rfl, rfl⟩
              go_wp2_with fail
              go_meet
              exact ⟨rfl, rfl⟩
            · obtain rfl : X = true := T2.out rfl
              go_wp2_with fail
              refine (I4 _ O4).mono ?_
              rintro e9 w9 ⟨rfl, rfl⟩
              go_wp2_with fail
              go_meet
              exact ⟨rfl, rfl⟩
          case rest =>
            obtain ⟨rfl, rfl⟩ := hcut
            go_upto_region 18 with fail
            obtain ⟨G, hG⟩ : ∃ G, G = (decide (x = 0) && decide (z = 0)) := ⟨_, rfl⟩
            obtain ⟨V, hV⟩ : ∃ V, V = (!decide (x = 0) && decide (y = 0) && decide (z = 2)) := ⟨_, rfl⟩
            rw [← hG, ← hV] at T3
            have HG := Lib.hid hG
            have HV := Lib.hid hV
            clear hG hV
            obtain ⟨wd, hwd⟩ : ∃ wd, wd = wc := ⟨_, rfl⟩
            subst hwd
            go_cut [14] (fun s14 wx => s14 = .bool G ∧ Hid (Below wd.heap.size wd wx))
            case first =>
              by_cases hx : x = 0
              · subst hx
                go_wp2_with fail
                refine (Ga _ a0).mono ?_
                rintro e9 w9 ⟨rfl, hb9⟩
                replace c0 := AtI.keep c0 hb9
                go_wp2_with fail
                refine (Gc _ c0).mono ?_
                rintro e10 w10 ⟨rfl, hb10⟩
                have hb11 := belO hb9 hb10
                clear hb9 hb10
                go_wp2_with fail
                go_meet
                exact ⟨by rw [HG.out]; by_cases hz : z = 0 <;> simp [hz], hb11⟩
              · have hxb : (x == 0) = false := by simpa using hx
                go_wp2_with fail
                refine (Ga _ a0).mono ?_
                rintro e9 w9 ⟨rfl, hb9⟩
                go_wp2_with fail
                go_meet
                exact ⟨by rw [HG.out]; simp [hx], hb9⟩
            case rest =>
              obtain ⟨rfl, hbc⟩ := hcut
              replace a0 := AtI.keep a0 hbc
              replace b0 := AtI.keep b0 hbc
              replace c0 := AtI.keep c0 hbc
              replace O4 := AtI.keep O4 hbc
              replace hb := belO hb hbc
              clear B2 hbc
              go_upto_region 19 with fail
              obtain ⟨we, hwe⟩ : ∃ we, we = wc := ⟨_, rfl⟩
              subst hwe
              go_cut [15] (fun s15 wx => s15 = .bool V ∧ Hid (Below we.heap.size we wx))
              case first =>
                by_cases hx : x = 0
                · subst hx
                  go_wp2_with fail
                  refine (Ga _ a0).mono ?_
                  rintro e9 w9 ⟨rfl, hb9⟩
                  go_wp2_with fail
                  go_meet
                  exact ⟨by rw [HV.out]; simp, hb9⟩
                · have hxb : (x == 0) = false := by simpa using hx
                  by_cases hy : y = 0
                  · subst hy
                    go_wp2_with fail
                    refine (Ga _ a0).mono ?_
                    rintro e9 w9 ⟨rfl, hb9⟩
                    replace b0 := AtI.keep b0 hb9
                    replace c0 := AtI.keep c0 hb9
                    go_wp2_with fail
                    refine (Gb _ b0).mono ?_
                    rintro e10 w10 ⟨rfl, hb10⟩
                    replace c0 := AtI.keep c0 hb10
                    replace hb9 := belO hb9 hb10
                    clear hb10
                    go_wp2_with fail
                    refine (Gc _ c0).mono ?_
                    rintro e11 w11 ⟨rfl, hb11⟩
                    replace hb9 := belO hb9 hb11
                    clear hb11
                    go_wp2_with fail
                    go_meet
                    exact ⟨by rw [HV.out]; by_cases hz : z = 2 <;> simp [hz, hx], hb9⟩
                  · have hyb : (y == 0) = false := by simpa using hy
                    go_wp2_with fail
                    refine (Ga _ a0).mono ?_
                    rintro e9 w9 ⟨rfl, hb9⟩
                    replace b0 := AtI.keep b0 hb9
                    go_wp2_with fail
                    refine (Gb _ b0).mono ?_
                    rintro e10 w10 ⟨rfl, hb10⟩
                    replace hb9 := belO hb9 hb10
                    clear hb10
                    go_wp2_with fail
                    go_meet
                    exact ⟨by rw [HV.out]; simp [hx, hy], hb9⟩
              case rest =>
                obtain ⟨rfl, hbc⟩ := hcut
                replace O4 := AtI.keep O4 hbc
                replace hb := belO hb hbc
                clear hbc a0 b0 c0 Ga Gb Gc HG HV
                cases X
                · clear T3
                  go_wp2_with fail
                  go_roundw
                  case rel => exact ⟨j + 1, HJ.out, by go_num, hb⟩
                  case measure => have := HJ.out; simp [intOf]; omega
                · cases le
                  · cases G
                    · obtain rfl : V = true := T3.out rfl rfl rfl
                      go_wp2_with fail
                      refine (I4 _ O4).mono ?_
                      rintro e9 w9 ⟨rfl, rfl⟩
                      go_wp2_with fail
                      go_roundw
                      case rel => exact ⟨j + 1, HJ.out, by go_num, hb⟩
                      case measure => have := HJ.out; simp [intOf]; omega
                    · go_wp2_with fail
                      refine (I4 _ O4).mono ?_
                      rintro e9 w9 ⟨rfl, rfl⟩
                      go_wp2_with fail
                      go_roundw
                      case rel => exact ⟨j + 1, HJ.out, by go_num, hb⟩
                      case measure => have := HJ.out; simp [intOf]; omega
                  · go_wp2_with fail
                    refine (I4 _ O4).mono ?_
                    rintro e9 w9 ⟨rfl, rfl⟩
                    go_wp2_with fail
                    go_roundw
                    case rel => exact ⟨j + 1, HJ.out, by go_num, hb⟩
                    case measure => have := HJ.out; simp [intOf]; omega
      · have j1 : ¬ (j : Int) < 512 := by omega
        go_wp2_with fail
        go_ret
        exact ⟨rfl, B2.out⟩
  · have Hs := Lib.hid hs
    clear hs
    go_upto_region 4 with fail
    go_cut [31] (fun s31 wx => s31 = .bool true ∧ wx = w1)
    case first =>
      by_cases h1 : 2000 < (na : Int)
      · go_wp2_with fail
        go_meet
        exact ⟨rfl, rfl⟩
      · by_cases h2 : 2000 < (nb : Int)
        · go_wp2_with fail
          go_meet
          exact ⟨rfl, rfl⟩
        · have h3 : 2000 < (nc : Int) := by have := Hs.out; omega
          go_wp2_with fail
          go_meet
          exact ⟨rfl, rfl⟩
    case rest =>
      obtain ⟨rfl, rfl⟩ := hcut
      go_wp2_with fail
      go_ret
      exact ⟨rfl, B.out⟩

theorem ObjmapThrough_walk {H : Type} {enc : TypeId × Value → H} (W : World) (base : Nat) {v0 v1 v2 : Value} {d0 : DataW H} {p0 : List MemPlace} {d1 : DataW H} {p1 : List MemPlace} {d2 : DataW H} {p2 : List MemPlace}
    (k0 : Value.okWide Try.prog W .any base 22 v0) (h0 : DataW.Trod enc Try.prog W 0 (fun _ => true) true 22 v0 d0 p0) (k1 : Value.okWide Try.prog W .any base 22 v1) (h1 : DataW.Trod enc Try.prog W 0 (fun _ => true) true 22 v1 d1 p1) (k2 : Value.okWide Try.prog W .any base 22 v2) (h2 : DataW.Trod enc Try.prog W 0 (fun _ => true) true 22 v2 d2 p2) :
    Calls Try.prog 8 #[v0, v1, v2] W (Yes W) := by
  obtain ⟨A0, n0, c0, l0, rfl, hr0, hn0⟩ := ar_map k0 h0
  obtain ⟨A1, n1, c1, l1, rfl, hr1, hn1⟩ := ar_map k1 h1
  obtain ⟨A2, n2, c2, l2, rfl, hr2, hn2⟩ := ar_map k2 h2
  exact ObjmapThrough_core A0 n0 c0 l0 A1 n1 c1 l1 A2 n2 c2 l2 W hr0 hr1 hr2 hn0 hn1 hn2
end Go.Proofs.Ytiopefndbamkhaa
