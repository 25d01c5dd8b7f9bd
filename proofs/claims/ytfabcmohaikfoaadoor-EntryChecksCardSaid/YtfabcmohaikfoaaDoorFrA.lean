/- Contracts of package frame: the checksum. -/
import Derived.Test.YtfabcmohaikfoaaDoorWireB
import Derived.Test.YtfabcmohaikfoaaDoorFrP
namespace Go.Proofs.YtfabcmohaikfoaaDoor
open Go.RowKit

set_option maxRecDepth 10000 in
/-- the table of half bytes lies in the package's variable -/
def Tb (w : World) : Prop := ∀ i, i < 16 → w.cell? ⟨1, i, none⟩ = some (.int .u32 ((halvesL.getD i 0 : Nat) : Int))
set_option maxRecDepth 10000 in
theorem Tb.below {w w' : World} {B : Nat} (h : Tb w) (hb : Below B w w') (hB : 1 < B) : Tb w' := fun i hi => (hb.cell hB).trans (h i hi)
set_option maxRecDepth 10000 in
theorem Tb.size {w : World} (h : Tb w) : 1 < w.heap.size := World.block_lt_of_cell? w _ (h 0 (by decide))

theorem u32n (n : Nat) (h : n < 4294967296) : (BitVec.ofInt 32 (n : Int)).toNat = n := by
  rw [BitVec.ofInt_natCast, BitVec.toNat_ofNat]; exact Nat.mod_eq_of_lt (by omega)
theorem xor32 (a b : Nat) (ha : a < 4294967296) (hb : b < 4294967296) : bits .xor .u32 (a : Int) (b : Int) = ((a ^^^ b : Nat) : Int) := by
  show IntKind.u32.wrap ((BitVec.ofInt 32 (a : Int) ^^^ BitVec.ofInt 32 (b : Int)).toNat : Int) = _
  rw [BitVec.toNat_xor, u32n _ ha, u32n _ hb]
  have h : a ^^^ b < 4294967296 := Nat.xor_lt_two_pow (n := 32) ha hb
  simp [IntKind.wrap, IntKind.signed, IntKind.bits]; omega
theorem and32_15 (a : Nat) (ha : a < 4294967296) : bits .and .u32 (a : Int) 15 = ((a % 16 : Nat) : Int) := by
  show IntKind.u32.wrap ((BitVec.ofInt 32 (a : Int) &&& BitVec.ofInt 32 15).toNat : Int) = _
  rw [BitVec.toNat_and, u32n _ ha, show (BitVec.ofInt 32 15).toNat = 2 ^ 4 - 1 from rfl, Nat.and_two_pow_sub_one_eq_mod]
  simp [IntKind.wrap, IntKind.signed, IntKind.bits]; omega
theorem xor32h (x z : Nat) (hx : x < 4294967296) (hz : z < 4294967296) : bits .xor .u32 ((x : Int) / 16) (z : Int) = ((x / 16 ^^^ z : Nat) : Int) := by
  rw [← xor32 (x / 16) z (by omega) hz]; rfl
theorem xor32h2 (y : Nat) (hy : y < 4294967296) (ho : y % 2 = 1) : bits .xor .u32 ((y : Int) / 2) 2197175160 = ((stp y : Nat) : Int) := by
  have e : stp y = (y / 2) ^^^ 2197175160 := by unfold stp; rw [if_pos ho]
  rw [e, ← xor32 (y / 2) 2197175160 (by omega) (by decide)]; rfl
theorem not32 (r : Nat) (h : r < 4294967296) : bits .xor .u32 4294967295 (r : Int) = ((4294967295 ^^^ r : Nat) : Int) := xor32 4294967295 r (by decide) h
theorem halves_lt : ∀ i, halvesL.getD i 0 < 4294967296 := fun i => by
  by_cases h : i < 16
  · exact (show ∀ i : Fin 16, halvesL.getD i.val 0 < 4294967296 by decide) ⟨i, h⟩
  · rw [List.getD_eq_getElem?_getD, List.getElem?_eq_none (by simp only [halvesL, List.length_cons, List.length_nil]; omega)]; decide

set_option maxRecDepth 10000 in
set_option maxHeartbeats 400000 in
theorem Sum_any (A : Option Addr) (n c : Nat) (l : List UInt8) (B : Nat) (w : World) (hr : Rd w B A n l) (ht : Tb w) (hn : n ≤ 9223372036854775807) :
    Calls Tryd.prog 66 #[.slice A n c] w fun e w' => e = .returned (.int .u32 (crc l)) ∧ w = w' := by
  have Ht := Lib.hid ht
  clear ht
  go_enter Tryd.func66, Tryd.ntmps66
  go_wp2
  go_loop [3, 5, 8] (fun s _ i => ∃ j : Nat, j ≤ n ∧ i = .int .i64 j ∧ s = .int .u32 (regC (l.take j))) (fun _ _ i => n - (intOf i).toNat)
  case atStart => exact ⟨0, Nat.zero_le _, rfl, rfl⟩
  case round =>
    obtain ⟨j, hj, rfl, rfl⟩ := hrel
    by_cases hlt : j < n
    · obtain ⟨ad, rfl, _, hc⟩ := hr.cellAt hlt
      have hl := hr.1
      have hd := regC_take_succ l j (by omega)
      have hrl := regC_lt (l.take j)
      obtain ⟨r, hre⟩ : ∃ r, r = regC (l.take j) := ⟨_, rfl⟩
      obtain ⟨b, hbe⟩ : ∃ b, b = l[j]'(by omega) := ⟨_, rfl⟩
      rw [← hre] at hrl hd ⊢
      rw [← hbe] at hd
      rw [byS_halves] at hd
      have hb1 : b.toNat < 4294967296 := by have := b.toNat_lt; omega
      have hc' : w.cell? (ad.add j) = some (.int .u8 (b.toNat : Int)) := by rw [hc, hbe]; rfl
      have hx0 := xor32 r b.toNat hrl hb1
      have hx0l := xor_byte_lt hrl b
      obtain ⟨x, hx⟩ : ∃ x, x = r ^^^ b.toNat := ⟨_, rfl⟩
      rw [← hx] at hd hx0 hx0l
      have ha0 := and32_15 x hx0l
      have hg0 := Ht.out (x % 16) (by omega)
      have hz0l := halves_lt (x % 16)
      obtain ⟨z, hz⟩ : ∃ z, z = halvesL.getD (x % 16) 0 := ⟨_, rfl⟩
      rw [← hz] at hd hg0 hz0l
      have hx1 := xor32h x z hx0l hz0l
      have hx1l : x / 16 ^^^ z < 4294967296 := Nat.xor_lt_two_pow (n := 32) (by omega) hz0l
      obtain ⟨y, hy⟩ : ∃ y, y = x / 16 ^^^ z := ⟨_, rfl⟩
      rw [← hy] at hd hx1 hx1l
      have ha1 := and32_15 y hx1l
      have hg1 := Ht.out (y % 16) (by omega)
      have hz1l := halves_lt (y % 16)
      obtain ⟨u, hu⟩ : ∃ u, u = halvesL.getD (y % 16) 0 := ⟨_, rfl⟩
      simp only [← hu] at hd hg1 hz1l
      have hx2 := xor32h y u hx1l hz1l
      have Hd := Lib.hid hd
      have hbb := b.toNat_lt
      clear hd hc hre hbe hl hr hx hz hy hu
      go_wp2_with fail
      go_round
      case rel => exact ⟨j + 1, by omega, by go_num, by rw [Hd.out]⟩
      case measure => simp [intOf]; omega
    · go_wp2
      all_goals
        go_ret
        have hrl := regC_lt (l.take j)
        refine ⟨?_, rfl⟩
        show Ending.returned (.int .u32 (bits .xor .u32 4294967295 (regC (l.take j) : Int))) = _
        rw [not32 _ hrl, List.take_of_length_le (by rw [hr.1]; omega)]; rfl

set_option maxRecDepth 10000 in
set_option maxHeartbeats 400000 in
theorem RefSum_any (A : Option Addr) (n c : Nat) (l : List UInt8) (B : Nat) (w : World) (hr : Rd w B A n l) (hn : n ≤ 9223372036854775807) :
    Calls Tryd.prog 64 #[.slice A n c] w fun e w' => e = .returned (.int .u32 (crc l)) ∧ w = w' := by
  go_enter Tryd.func64, Tryd.ntmps64
  go_wp2
  go_loop [3, 4] (fun s i => ∃ j : Nat, j ≤ n ∧ i = .int .i64 j ∧ s = .int .u32 (regC (l.take j))) (fun _ i => n - (intOf i).toNat)
  case atStart => exact ⟨0, Nat.zero_le _, rfl, rfl⟩
  case round =>
    obtain ⟨j, hj, rfl, rfl⟩ := hrel
    by_cases hlt : j < n
    · obtain ⟨ad, rfl, _, hc⟩ := hr.cellAt hlt
      have hl := hr.1
      have hd := regC_take_succ l j (by omega)
      have hrl := regC_lt (l.take j)
      obtain ⟨r, hre⟩ : ∃ r, r = regC (l.take j) := ⟨_, rfl⟩
      obtain ⟨b, hbe⟩ : ∃ b, b = l[j]'(by omega) := ⟨_, rfl⟩
      rw [← hre] at hrl hd ⊢
      rw [← hbe] at hd
      have hb1 : b.toNat < 4294967296 := by have := b.toNat_lt; omega
      have hc' : w.cell? (ad.add j) = some (.int .u8 (b.toNat : Int)) := by rw [hc, hbe]; rfl
      have hx0 := xor32 r b.toNat hrl hb1
      have hx0l := xor_byte_lt hrl b
      unfold byS at hd
      obtain ⟨x, hx⟩ : ∃ x, x = r ^^^ b.toNat := ⟨_, rfl⟩
      rw [← hx] at hd hx0 hx0l
      have Hd := Lib.hid hd
      have hbb := b.toNat_lt
      clear hd hc hre hbe hl hr hx
      go_wp2_with fail
      go_loop [3, 5] (fun s i => ∃ k : Nat, k ≤ 8 ∧ i = .int .i64 k ∧ ∃ y : Nat, y < 4294967296 ∧ s = .int .u32 y ∧ Hid (stpN (8 - k) y = stpN 8 x)) (fun _ i => 8 - (intOf i).toNat)
      case atStart => exact ⟨0, Nat.zero_le _, rfl, x, hx0l, rfl, rfl⟩
      case round =>
        obtain ⟨k, hk, rfl, y, hy, rfl, Hy⟩ := hrel
        by_cases hk8 : k < 8
        · have hs : stpN (8 - k) y = stpN (8 - (k + 1)) (stp y) := by rw [show 8 - k = (8 - (k + 1)) + 1 by omega]; rfl
          have Hs := Lib.hid hs
          have hyl := stp_lt hy
          clear hs hx0
          by_cases hodd : y % 2 = 1
          · have hq := xor32h2 y hy hodd
            have ho : ((y : Int) % 2 == 1) = true := by simp; omega
            clear hodd
            go_wp2_with fail
            go_round
            case rel => exact ⟨k + 1, by omega, by go_num, stp y, hyl, rfl, Hs.out.symm.trans Hy.out⟩
            case measure => simp [intOf]; omega
          · have hsy : y / 2 = stp y := by unfold stp; rw [if_neg hodd]
            have ho : ((y : Int) % 2 == 1) = false := by simp; omega
            have Hsy := Lib.hid hsy
            clear hodd hsy
            go_wp2_with fail
            go_round
            case rel => exact ⟨k + 1, by omega, by go_num, stp y, hyl, by rw [← Hsy.out]; rfl, Hs.out.symm.trans Hy.out⟩
            case measure => simp [intOf]; omega
        · obtain rfl : k = 8 := by omega
          have hx2 : y = stpN 8 x := Hy.out
          have Hx2 := Lib.hid hx2
          clear hx2
          go_wp2_with fail
          go_round
          case rel => exact ⟨j + 1, by omega, by go_num, by rw [Hd.out, Hx2.out]⟩
          case measure => simp [intOf]; omega
    · go_wp2
      all_goals
        go_ret
        have hrl := regC_lt (l.take j)
        refine ⟨?_, rfl⟩
        show Ending.returned (.int .u32 (bits .xor .u32 4294967295 (regC (l.take j) : Int))) = _
        rw [not32 _ hrl, List.take_of_length_le (by rw [hr.1]; omega)]; rfl
end Go.Proofs.YtfabcmohaikfoaaDoor
