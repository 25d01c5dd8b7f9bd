/- The walk of ObjmapFresh. -/
import Derived.Test.YtiopefndbamkhaaObAw
import Derived.Test.YtiopefndbamkhaaObX
namespace Go.Proofs.Ytiopefndbamkhaa
open Go.ChangeShapes Go.WideShapes Go.ChangeAt Go.RowKit

set_option maxRecDepth 10000 in
set_option maxHeartbeats 4000000 in
theorem ObjmapFresh_core (A : Option Addr) (n c : Nat) (m : List Int) (i : Int) (W : World) (hr : RdI W W.heap.size A n m) (hn : n ≤ 9223372036854775807) :
    Calls Try.prog 9 #[.slice A n c, .int .i64 i] W (Yes W) := by
  have R := Lib.hid hr
  clear hr
  obtain ⟨K, hK, hKlt⟩ := and_low i
  have HK := Lib.hid hKlt
  clear hKlt
  go_enter Try.func9, Try.ntmps9
  go_wp2_with fail
  refine (awake5 _).mono ?_
  rintro e w1 ⟨rfl, hb1⟩
  have B := Lib.hid hb1
  clear hb1
  by_cases h20 : n ≤ 2000
  · have h21 : (n : Int) ≤ 2000 := by omega
    have M : Hid (AtI w1 A n m) := ⟨(R.out.below B.out).more B.out.size, by omega⟩
    go_wp2_with fail
    refine (lFresh c M).mono ?_
    rintro e w2 ⟨Af, nf, cf, rfl, F, hb, _⟩
    replace M := AtI.keep M hb
    replace B := belO B hb
    clear hb
    go_wp2_with fail
    go_loopw [7] (fun i wr => ∃ j : Nat, j ≤ 512 ∧ i = .int .i64 j ∧ Hid (Below w2.heap.size w2 wr)) (fun i _ => 512 - (intOf i).toNat)
    case atStart => exact ⟨0, Nat.zero_le _, rfl, Below.refl _ _⟩
    case round =>
      obtain ⟨j, hj, rfl, hb⟩ := hrel
      have M2 := AtI.keep M hb
      have F2 := AtI.keep F hb
      have j0 : (0 : Int) ≤ (j : Int) := by omega
      by_cases hg : j < 512
      · have j1 : (j : Int) < 512 := by omega
        have HJ := Lib.hid hg
        have Hg1 := Lib.hid (show getO (freshO m) j = if gN m j = 1 then 2 else gN m j by rw [getO_nat, gN_freshO])
        have Hg2 := Lib.hid (getO_nat m j)
        have Hst := Lib.hid (gN_st m j)
        generalize gN m j = x at Hg1 Hg2 Hst
        clear hg
        rcases Hst.out with rfl | rfl | rfl
        · have Hg3 := Lib.hid (show getO (freshO m) j = 0 from Hg1.out)
          go_wp2_with fail
          refine (lGet cf j F2).mono ?_
          rw [Hg3.out]
          rintro e w3 ⟨rfl, hb3⟩
          replace M2 := AtI.keep M2 hb3
          replace hb := belO hb hb3
          clear hb3
          go_wp2_with fail
          refine (lGet c j M2).mono ?_
          rw [Hg2.out]
          rintro e w4 ⟨rfl, hb4⟩
          replace hb := belO hb hb4
          clear hb4
          go_wp2_with fail
          go_roundw
          case rel => exact ⟨j + 1, HJ.out, by go_num, hb⟩
          case measure => have := HJ.out; simp [intOf]; omega
        · have Hg3 := Lib.hid (show getO (freshO m) j = 2 from Hg1.out)
          go_wp2_with fail
          refine (lGet cf j F2).mono ?_
          rw [Hg3.out]
          rintro e w3 ⟨rfl, hb3⟩
          replace M2 := AtI.keep M2 hb3
          replace hb := belO hb hb3
          clear hb3
          go_wp2_with fail
          refine (lGet c j M2).mono ?_
          rw [Hg2.out]
          rintro e w4 ⟨rfl, hb4⟩
          replace hb := belO hb hb4
          clear hb4
          go_wp2_with fail
          go_roundw
          case rel => exact ⟨j + 1, HJ.out, by go_num, hb⟩
          case measure => have := HJ.out; simp [intOf]; omega
        · have Hg3 := Lib.hid (show getO (freshO m) j = 2 from Hg1.out)
          go_wp2_with fail
          refine (lGet cf j F2).mono ?_
          rw [Hg3.out]
          rintro e w3 ⟨rfl, hb3⟩
          replace M2 := AtI.keep M2 hb3
          replace hb := belO hb hb3
          clear hb3
          go_wp2_with fail
          refine (lGet c j M2).mono ?_
          rw [Hg2.out]
          rintro e w4 ⟨rfl, hb4⟩
          replace hb := belO hb hb4
          clear hb4
          go_wp2_with fail
          go_roundw
          case rel => exact ⟨j + 1, HJ.out, by go_num, hb⟩
          case measure => have := HJ.out; simp [intOf]; omega
      · have j1 : ¬ (j : Int) < 512 := by omega
        replace B := belO B hb
        clear hg hb M2 M F
        have F := F2
        clear F2
        have E1 := Lib.hid (fresh_set m K HK.out)
        have E2 := Lib.hid (set_get (freshO m) K 1 HK.out (by omega) (by omega))
        have E3 := Lib.hid (set_get (setO (freshO m) K 1) K 0 HK.out (by omega) (by omega))
        have E4 := Lib.hid (fresh_self m)
        go_wp2_with fail
        refine (lSet cf (K : Int) 1 F).mono ?_
        rintro e w5 ⟨As, ns, cs, rfl, S, hb, _⟩
        replace F := AtI.keep F hb
        replace B := belO B hb
        clear hb
        go_wp2_with fail
        have L := litL1 w5 As ns cs (setO (freshO m) K 1) 22 w5.heap.size rfl S
        replace F := AtI.keep F (alB w5 (.cells #[.slice As ns cs] 22))
        replace S := AtI.keep S (alB w5 (.cells #[.slice As ns cs] 22))
        replace B := belO B (alB w5 (.cells #[.slice As ns cs] 22))
        refine (lChanged cf 1 F L).mono ?_
        rw [E1.out]
        rintro e w6 ⟨Ac, nc, cc, rfl, C, hb, _⟩
        replace F := AtI.keep F hb
        replace S := AtI.keep S hb
        replace B := belO B hb
        clear hb L
        go_wp2_with fail
        refine (lSet cs (K : Int) 0 S).mono ?_
        rintro e w7 ⟨An, nn, cn, rfl, N, hb, _⟩
        replace F := AtI.keep F hb
        replace S := AtI.keep S hb
        replace C := AtI.keep C hb
        replace B := belO B hb
        clear hb
        go_wp2_with fail
        have L := litI w7 [(K : Int)] #[.int .i64 (K : Int)] 3 w7.heap.size 1 rfl rfl rfl (by simp)
        replace F := AtI.keep F (alB w7 (.cells #[.int .i64 (K : Int)] 3))
        replace S := AtI.keep S (alB w7 (.cells #[.int .i64 (K : Int)] 3))
        replace C := AtI.keep C (alB w7 (.cells #[.int .i64 (K : Int)] 3))
        replace N := AtI.keep N (alB w7 (.cells #[.int .i64 (K : Int)] 3))
        replace B := belO B (alB w7 (.cells #[.int .i64 (K : Int)] 3))
        refine (lYes5 cc 1 C L rfl).mono ?_
        rintro e w8 ⟨rfl, hb⟩
        replace F := AtI.keep F hb
        replace S := AtI.keep S hb
        replace N := AtI.keep N hb
        replace B := belO B hb
        clear hb L C
        go_wp2_with fail
        refine (lGet cs (K : Int) S).mono ?_
        rw [E2.out]
        rintro e w9 ⟨rfl, hb⟩
        replace F := AtI.keep F hb
        replace N := AtI.keep N hb
        replace B := belO B hb
        clear hb S
        go_wp2_with fail
        refine (lGet cn (K : Int) N).mono ?_
        rw [E3.out]
        rintro e w10 ⟨rfl, hb⟩
        replace F := AtI.keep F hb
        replace B := belO B hb
        clear hb N
        go_wp2_with fail
        have L := litL1 w10 Af nf cf (freshO m) 22 w10.heap.size rfl F
        replace F := AtI.keep F (alB w10 (.cells #[.slice Af nf cf] 22))
        replace B := belO B (alB w10 (.cells #[.slice Af nf cf] 22))
        refine (lChanged cf 1 F L).mono ?_
        rw [E4.out]
        rintro e w11 ⟨Az, nz, cz, rfl, Z, hb, Nz⟩
        replace B := belO B hb
        obtain rfl : nz = 0 := Nz.out
        clear hb L Z Nz
        go_wp2_with fail
        go_ret
        exact ⟨rfl, B.out⟩
  · have h21 : 2000 < (n : Int) := by omega
    go_wp2_with fail
    go_ret
    exact ⟨rfl, B.out⟩

theorem ObjmapFresh_walk {H : Type} {enc : TypeId × Value → H} (W : World) (base : Nat) {v0 v1 : Value} {d0 : DataW H} {p0 : List MemPlace} {d1 : DataW H} {p1 : List MemPlace}
    (k0 : Value.okWide Try.prog W .any base 22 v0) (h0 : DataW.Trod enc Try.prog W 0 (fun _ => true) true 22 v0 d0 p0) (k1 : Value.okWide Try.prog W .any base 3 v1) (h1 : DataW.Trod enc Try.prog W 0 (fun _ => true) true 3 v1 d1 p1) :
    Calls Try.prog 9 #[v0, v1] W (Yes W) := by
  obtain ⟨A0, n0, c0, l0, rfl, hr0, hn0⟩ := ar_map k0 h0
  obtain ⟨i, rfl, _⟩ := ar_int Try.underlying3 k1 h1
  exact ObjmapFresh_core A0 n0 c0 l0 i W hr0 hn0
end Go.Proofs.Ytiopefndbamkhaa
