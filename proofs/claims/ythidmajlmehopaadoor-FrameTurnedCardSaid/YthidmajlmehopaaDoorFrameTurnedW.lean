/- The walk of FrameTurned. -/
import Derived.Test.YthidmajlmehopaaDoorFrLaw
import Derived.Test.YthidmajlmehopaaDoorFrX
namespace Go.Proofs.YthidmajlmehopaaDoor
open Go.ChangeShapes Go.WideShapes Go.ChangeAt Go.RowKit

theorem and_rem (cut : Int) (L : Nat) (hL : 0 < L) : ∃ k : Nat, (bits .and .i64 cut 65535).tmod (L : Int) = (k : Int) ∧ k < L := by
  have h1 : 0 ≤ bits .and .i64 cut 65535 := by
    show 0 ≤ IntKind.i64.wrap ((BitVec.ofInt 64 cut &&& BitVec.ofInt 64 65535).toNat : Int)
    rw [IntKind.wrap_i64, BitVec.toNat_and]
    have h2 : (BitVec.ofInt 64 65535).toNat = 65535 := by decide
    rw [h2]
    have h3 : (BitVec.ofInt 64 cut).toNat &&& 65535 ≤ 65535 := Nat.and_le_right
    omega
  have h4 := Int.emod_nonneg (bits .and .i64 cut 65535) (show (L : Int) ≠ 0 by omega)
  have h5 := Int.emod_lt_of_pos (bits .and .i64 cut 65535) (show (0 : Int) < (L : Int) by omega)
  rw [Int.tmod_eq_emod_of_nonneg h1]
  exact ⟨((bits .and .i64 cut 65535) % (L : Int)).toNat, by omega, by omega⟩

set_option maxHeartbeats 1000000 in
theorem FrameTurned_core (A : Option Addr) (n c : Nat) (l : List UInt8) (at_ : Int) (b : Nat) (W : World) (hr : Rd W W.heap.size A n l) (ht : Tb W) (hn : n ≤ 2000) (hb : b < 256) :
    Calls Tryd.prog 7 #[.slice A n c, .int .i64 at_, .int .u8 b] W (Yes W) := by
  have hl := hr.1
  have Hr := Lib.hid hr
  have Ht := Lib.hid ht
  have Hs := Lib.hid ht.size
  obtain ⟨L, hL⟩ : ∃ L, L = n + 12 := ⟨_, rfl⟩
  have hL12 : 12 ≤ L := by omega
  have hLb : L ≤ 2012 := by omega
  obtain ⟨k, hk, hkL⟩ := and_rem at_ L (by omega)
  have HL := Lib.hid hL
  have HF : Hid ((mkF 7 l).length = L) := by rw [mkF_length, hl]; exact hL.symm
  have Hl := Lib.hid hl
  clear hr ht hL hl
  go_enter Tryd.func7, Tryd.ntmps7
  go_wp2_with (go_at_call 9; refine (awake_any W Ht.out).mono ?_; rintro e w1 ⟨rfl, hb1⟩; have Hb1 := Lib.hid hb1; clear hb1)
  refine (MakeL 7 7 A n c L l _ rfl (by decide) HL.out (by omega) ((Hr.out.below Hb1.out).more Hb1.out.size) (Ht.out.below Hb1.out Hs.out)).mono ?_
  rintro e w2 ⟨g, cf, rfl, hcf, hmf, hown2, hg, hb2⟩
  have Hown2 := Lib.hid hown2
  have Hb2 := Lib.hid (Hb1.out.trans (hb2.mono Hb1.out.size))
  have Hg := Lib.hid (Nat.le_trans Hb1.out.size hg)
  have hmf2 : cf ≤ 9223372036854775807 := by simpa [maxLen] using hmf
  clear hown2 hb2 hg hmf
  go_wp2_with fail
  have hcut : nxE ((mkF 7 l).take k) = 10 := nx_cut 7 l (by rw [Hl.out]; omega) k (by rw [Hl.out, ← HL.out]; exact hkL)
  refine (Next_no _ k cf ((mkF 7 l).take k) _ ((Rd.own Hown2.out).take (Nat.le_of_lt hkL)) (by omega) (by omega) hmf2 (Ht.out.below Hb2.out Hs.out) (by rw [hcut]; decide)).mono ?_
  intro e w3 h3
  rw [hcut] at h3
  obtain ⟨rfl, hb3⟩ := h3
  have Hown3 := Lib.hid (ownsRow_below Hown2.out hb3)
  have Hb3 := Lib.hid (Hb2.out.trans (hb3.mono Hb2.out.size))
  clear hb3 hcut
  obtain ⟨x, hx⟩ : ∃ x, x = (mkF 7 l)[k]'(by rw [HF.out]; exact hkL) := ⟨_, rfl⟩
  have hcell : w3.cell? ⟨g, k, none⟩ = some (.int .u8 (x.toNat : Int)) := by
    rw [Hown3.out.cellAt k (by omega), List.getElem?_map, List.getElem?_eq_getElem (by rw [HF.out]; exact hkL), ← hx]; rfl
  have hfr := Hown3.out.frozenAt k
  have Hx := Lib.hid hx
  have hxl := x.toNat_lt
  clear hx
  obtain ⟨y, hy, hyx⟩ := turn_bit x b
  have Hy := Lib.hid hy
  have hnx := nx_turn 7 l (by rw [Hl.out]; omega) k (by rw [HF.out]; exact hkL) y (by rw [← Hx.out]; exact hyx)
  have hst := (Hown3.out.stored k (.int .u8 (y.toNat : Int))).1
  have hset : ((mkF 7 l).map bv).set k (.int .u8 (y.toNat : Int)) = ((mkF 7 l).set k y).map bv := by rw [List.map_set]; rfl
  rw [hset] at hst
  have Hst := Lib.hid hst
  have Hb4 := Lib.hid (Hb3.out.setCell (p := ⟨g, k, none⟩) Hg.out (.int .u8 (y.toNat : Int)))
  have Ht4 := Lib.hid (Ht.out.below Hb4.out Hs.out)
  clear hy hyx hst hset
  by_cases hk0 : k = 0
  · have Hnx := Lib.hid (hnx.trans (if_pos hk0))
    have hkb : ((k : Int) == 0) = true := by rw [hk0]; rfl
    clear hnx hk0
    go_wp2_with fail
    rw [Hy.out]
    refine (Next_no (some ⟨g, 0, none⟩) L cf ((mkF 7 l).set k y) _ (Rd.own Hst.out) (by omega) hcf hmf2 (by exact Ht4.out) (by rw [Hnx.out]; decide)).mono ?_
    intro e w5 h5
    rw [Hnx.out] at h5
    obtain ⟨rfl, hb5⟩ := h5
    have Hb5 := Lib.hid (Hb4.out.trans (hb5.mono Hb4.out.size))
    clear hb5
    go_wp2_with fail
    go_ret
    exact ⟨rfl, Hb5.out⟩
  · have Hnx := Lib.hid (hnx.trans (if_neg hk0))
    have hkb : ((k : Int) == 0) = false := by simpa using hk0
    clear hnx hk0
    go_wp2_with fail
    rw [Hy.out]
    refine (Next_no (some ⟨g, 0, none⟩) L cf ((mkF 7 l).set k y) _ (Rd.own Hst.out) (by omega) hcf hmf2 (by exact Ht4.out) (by rw [Hnx.out]; decide)).mono ?_
    intro e w5 h5
    rw [Hnx.out] at h5
    obtain ⟨rfl, hb5⟩ := h5
    have Hb5 := Lib.hid (Hb4.out.trans (hb5.mono Hb4.out.size))
    clear hb5
    go_wp2_with fail
    go_ret
    exact ⟨rfl, Hb5.out⟩

set_option maxHeartbeats 1000000 in
theorem FrameTurned_big (A : Option Addr) (n c : Nat) (at_ : Int) (b : Nat) (W : World) (ht : Tb W) (hn : 2000 < n) :
    Calls Tryd.prog 7 #[.slice A n c, .int .i64 at_, .int .u8 b] W (Yes W) := by
  have Ht := Lib.hid ht
  clear ht
  go_enter Tryd.func7, Tryd.ntmps7
  go_wp2_with (go_at_call 9; refine (awake_any W Ht.out).mono ?_; rintro e w1 ⟨rfl, hb1⟩; have Hb1 := Lib.hid hb1; clear hb1)
  go_ret
  exact ⟨rfl, Hb1.out⟩

theorem FrameTurned_walk {H : Type} {enc : TypeId × Value → H} (W : World) (base : Nat) {v0 v1 v2 : Value} {d0 : DataW H} {p0 : List MemPlace} {d1 : DataW H} {p1 : List MemPlace} {d2 : DataW H} {p2 : List MemPlace}
    (k0 : Value.okWide Tryd.prog W .any base 22 v0) (h0 : DataW.Trod enc Tryd.prog W 0 (fun _ => true) true 22 v0 d0 p0) (k1 : Value.okWide Tryd.prog W .any base 3 v1) (h1 : DataW.Trod enc Tryd.prog W 0 (fun _ => true) true 3 v1 d1 p1) (k2 : Value.okWide Tryd.prog W .any base 5 v2) (h2 : DataW.Trod enc Tryd.prog W 0 (fun _ => true) true 5 v2 d2 p2) (ht : Tb W) :
    Calls Tryd.prog 7 #[v0, v1, v2] W (Yes W) := by
  obtain ⟨A, n, c, l, rfl, hr, _, _, _⟩ := ar_bytes' k0 h0
  obtain ⟨z, rfl, _⟩ := ar_int Tryd.underlying3 k1 h1
  obtain ⟨b, rfl, _, _, hw⟩ := open_int Tryd.underlying5 k2 h2
  have hb : 0 ≤ b ∧ b ≤ 255 := by simpa [Lit.wf, IntKind.min, IntKind.max, IntKind.signed, IntKind.bits] using hw
  obtain ⟨b, rfl⟩ := Int.eq_ofNat_of_zero_le hb.1
  by_cases hn : n ≤ 2000
  · exact FrameTurned_core A n c l z b W hr ht hn (by omega)
  · exact FrameTurned_big A n c z b W ht (by omega)
end Go.Proofs.YthidmajlmehopaaDoor
