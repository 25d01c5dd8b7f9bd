/- The walk of ObjmapChanges. -/
import Derived.Test.YtiopefndbamkhaaObAw
namespace Go.Proofs.Ytiopefndbamkhaa
open Go.ChangeShapes Go.WideShapes Go.ChangeAt Go.RowKit

set_option maxHeartbeats 2000000 in
theorem ObjmapChanges_core (Aa : Option Addr) (na ca : Nat) (a : List Int) (Ab : Option Addr) (nb cb : Nat) (ll : List (List Int)) (W : World) (hra : RdI W W.heap.size Aa na a) (hrb : RdII W W.heap.size Ab nb ll) (hna : na ≤ 9223372036854775807) (hnb : nb ≤ 9223372036854775807) :
    Calls Try.prog 5 #[.slice Aa na ca, .slice Ab nb cb] W (Yes W) := by
  have Ra := Lib.hid hra
  have Rb := Lib.hid hrb
  clear hra hrb
  go_enter Try.func5, Try.ntmps5
  go_wp2_with fail
  refine (awake5 _).mono ?_
  rintro e w1 ⟨rfl, hb1⟩
  have B := Lib.hid hb1
  clear hb1
  by_cases h20 : na ≤ 2000
  · have h21 : (na : Int) ≤ 2000 := by omega
    by_cases h22 : nb ≤ 10
    · have h23 : (nb : Int) ≤ 10 := by omega
      have a0 : Hid (AtI w1 Aa na a) := ⟨(Ra.out.below B.out).more B.out.size, by omega⟩
      have b0 : Hid (RdII w1 w1.heap.size Ab nb ll) := (Rb.out.below B.out).more B.out.size
      go_wp2_with fail
      go_loopw [6] (fun i wr => wr = w1 ∧ ∃ j : Nat, j ≤ nb ∧ i = .int .i64 j ∧ Hid (∀ l ∈ ll.take j, l.length ≤ 2000)) (fun i _ => nb - (intOf i).toNat)
      case atStart => exact ⟨rfl, 0, Nat.zero_le _, rfl, fun l h => by simp at h⟩
      case round =>
        obtain ⟨rfl, j, hj, rfl, Hj⟩ := hrel
        by_cases hjn : j < nb
        · have hjl : j < ll.length := by rw [b0.out.1]; exact hjn
          obtain ⟨ad, Aj, cj, rfl, _, hc, hrr, hlb⟩ := b0.out.2 j hjl
          clear hrr
          have Hst := Lib.hid (List.take_succ_eq_append_getElem hjl)
          obtain ⟨L, hL⟩ : ∃ L, L = (ll[j]).length := ⟨_, rfl⟩
          rw [← hL] at hc hlb
          have HL := Lib.hid hL
          have hj0 : (0 : Int) ≤ (j : Int) := by omega
          have hj1 : (j : Int) < (nb : Int) := by omega
          by_cases hL2 : L ≤ 2000
          · have hL3 : (L : Int) ≤ 2000 := by omega
            have Hj2 : Hid (∀ l ∈ ll.take (j + 1), l.length ≤ 2000) := fun l hm => by
              rw [Hst.out] at hm
              rcases List.mem_append.1 hm with h | h
              · exact Hj.out l h
              · simp at h; rw [h, ← HL.out]; exact hL2
            clear hL Hst
            go_wp2_with fail
            go_roundw
            case rel => exact ⟨by first | rfl | trivial, j + 1, by omega, by go_num, Hj2⟩
            case measure => simp [intOf]; omega
          · have hL3 : 2000 < (L : Int) := by omega
            clear hL Hst
            go_wp2_with fail
            go_ret
            exact ⟨rfl, B.out⟩
        · obtain rfl : j = nb := by omega
          have b1 : Hid (AtL wr Ab j ll) := ⟨b0.out, h22, fun l hm => by
            have h := Hj.out l (by rw [List.take_of_length_le (by rw [b0.out.1]; exact Nat.le_refl _)]; exact hm)
            omega⟩
          clear b0 Hj
          go_wp2_with fail
          refine (lChanged ca cb a0 b1).mono ?_
          rintro e w2 ⟨A1, n1, c1, rfl, S, hb, _⟩
          replace a0 := AtI.keep a0 hb
          replace b1 := AtL.keep b1 hb
          replace B := belO B hb
          clear hb
          go_wp2_with fail
          refine (lRChanged ca cb a0 b1).mono ?_
          rintro e w3 ⟨A2, n2, c2, rfl, S2, hb, _⟩
          replace S := AtI.keep S hb
          replace B := belO B hb
          clear hb
          go_wp2_with fail
          refine (lYes5 c1 c2 S S2 rfl).mono ?_
          rintro e w4 ⟨rfl, hb⟩
          replace B := belO B hb
          clear hb
          go_wp2_with fail
          go_ret
          exact ⟨rfl, B.out⟩
    · have h23 : 10 < (nb : Int) := by omega
      go_wp2_with fail
      go_ret
      exact ⟨rfl, B.out⟩
  · have h21 : 2000 < (na : Int) := by omega
    go_wp2_with fail
    go_ret
    exact ⟨rfl, B.out⟩

theorem ObjmapChanges_walk {H : Type} {enc : TypeId × Value → H} (W : World) (base : Nat) {v0 v1 : Value} {d0 : DataW H} {p0 : List MemPlace} {d1 : DataW H} {p1 : List MemPlace}
    (k0 : Value.okWide Try.prog W .any base 22 v0) (h0 : DataW.Trod enc Try.prog W 0 (fun _ => true) true 22 v0 d0 p0) (k1 : Value.okWide Try.prog W .any base 31 v1) (h1 : DataW.Trod enc Try.prog W 0 (fun _ => true) true 31 v1 d1 p1) :
    Calls Try.prog 5 #[v0, v1] W (Yes W) := by
  obtain ⟨A0, n0, c0, l0, rfl, hr0, hn0⟩ := ar_map k0 h0
  obtain ⟨A1, n1, c1, l1, rfl, hr1, hn1⟩ := ar_maps k1 h1
  exact ObjmapChanges_core A0 n0 c0 l0 A1 n1 c1 l1 W hr0 hr1 hn0 hn1
end Go.Proofs.Ytiopefndbamkhaa
