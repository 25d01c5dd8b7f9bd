/- What EntryTurned and EntryOwn want beside the laws' words. -/
import Derived.Test.YtfabcmohaikfoaaDoorEnX
namespace Go.Proofs.YtfabcmohaikfoaaDoor
open Go.RowKit

theorem xor_turn7 (x : UInt8) (s : Nat) (hs : s < 256) (h0 : s ≠ 0) : ∃ y : UInt8, bits .xor .u8 (x.toNat : Int) (s : Int) = (y.toNat : Int) ∧ y ≠ x := by
  have e : ∀ n : Nat, n < 256 → (BitVec.ofInt 8 (n : Int)).toNat = n := fun n hn => by
    rw [BitVec.ofInt_natCast, BitVec.toNat_ofNat]; exact Nat.mod_eq_of_lt (by omega)
  have hx := x.toNat_lt
  have hl : x.toNat ^^^ s < 256 := Nat.xor_lt_two_pow (n := 8) hx hs
  have hy : (UInt8.ofNat (x.toNat ^^^ s)).toNat = x.toNat ^^^ s := by
    rw [UInt8.toNat_ofNat']; exact Nat.mod_eq_of_lt hl
  refine ⟨UInt8.ofNat (x.toNat ^^^ s), ?_, fun h => ?_⟩
  · rw [hy]
    show IntKind.u8.wrap ((BitVec.ofInt 8 (x.toNat : Int) ^^^ BitVec.ofInt 8 (s : Int)).toNat : Int) = _
    rw [BitVec.toNat_xor, e _ hx, e _ hs, IntKind.wrap_u8]
    omega
  · have h1 : x.toNat ^^^ s = x.toNat := by rw [← hy, h]
    have h2 := congrArg (x.toNat ^^^ ·) h1
    simp only [← Nat.xor_assoc, Nat.xor_self, Nat.zero_xor] at h2
    exact h0 h2
theorem turn_bit7 (x : UInt8) (b : Nat) : ∃ y : UInt8, bits .xor .u8 (x.toNat : Int) ((2 : Int) ^ (b % 8) % 256) = (y.toNat : Int) ∧ y ≠ x := by
  have h8 : b % 8 < 8 := Nat.mod_lt _ (by decide)
  have h2 : (2 : Nat) ^ (b % 8) < 256 := Nat.lt_of_le_of_lt (Nat.pow_le_pow_right (by decide) (show b % 8 ≤ 7 by omega)) (by decide)
  have h3 : 0 < (2 : Nat) ^ (b % 8) := Nat.pow_pos (by decide)
  have e : ((2 : Int) ^ (b % 8) % 256) = ((2 ^ (b % 8) : Nat) : Int) := by
    rw [show ((2 : Int) ^ (b % 8)) = ((2 ^ (b % 8) : Nat) : Int) by simp]; omega
  rw [e]
  exact xor_turn7 x _ h2 (by omega)

theorem and_rem7 (cut : Int) (L : Nat) (hL : 0 < L) : ∃ k : Nat, (bits .and .i64 cut 65535).tmod (L : Int) = (k : Int) ∧ k < L := by
  have h1 : 0 ≤ bits .and .i64 cut 65535 := by
    show 0 ≤ IntKind.i64.wrap ((BitVec.ofInt 64 cut &&& BitVec.ofInt 64 65535).toNat : Int)
    rw [IntKind.wrap_i64, BitVec.toNat_and]
    have h2 : (BitVec.ofInt 64 65535).toNat = 65535 := by decide
    rw [h2]
    have h3 : (BitVec.ofInt 64 cut).toNat &&& 65535 ≤ 65535 := Nat.and_le_right
    omega
  have h4 := Int.emod_nonneg (bits .and .i64 cut 65535) (show (L : Int) ≠ 0 by omega)
  have h5 := Int.emod_lt_of_pos (bits .and .i64 cut 65535) (show (0 : Int) < (L : Int) by omega)
  rw [Int.tmod_eq_emod_of_nonneg h1]
  exact ⟨((bits .and .i64 cut 65535) % (L : Int)).toNat, by omega, by omega⟩

set_option maxRecDepth 10000 in
/-- Unpack of bytes that are no entry -/
theorem xUnpackNo {n c : Nat} {A : Option Addr} {b : List UInt8} {E : Int} {w : World} (hE : unE7 b = E) (h0 : E ≠ 0) (hr : Rd w w.heap.size A n b) (hn : n ≤ 100000) (hc : n ≤ c) (hm : c ≤ 9223372036854775807) (ht : T7 w) :
    Calls Tryd.prog 15 #[.slice A n c] w fun r w' => ∃ A c, r = .returned (.tuple #[eV 0 0 0 0 0 0 A 0 c, .int .i64 E]) ∧ Hid (Rd w' w'.heap.size A 0 []) ∧ c ≤ 9223372036854775807 ∧ Hid (Below w.heap.size w w') :=
  (xUnpack hr hn hc hm ht).mono fun r w' q => by
    obtain ⟨A, c, h1, h2, h3, h4, h5⟩ := q
    rw [un_no (by rw [hE]; exact h0), hE] at h1
    rw [un_no (by rw [hE]; exact h0)] at h2
    exact ⟨A, c, h1, h2, h4, h5⟩
theorem own_g7 {w : World} {B n c : Nat} {e : TypeId} {A : Option Addr} {xs : List Value} (h : w.ownsRow B e 1 (.slice A n c) n xs) (h0 : 0 < n) : ∃ g, A = some ⟨g, 0, none⟩ ∧ B ≤ g ∧ g < w.heap.size := by
  rcases h.2 with ⟨_, h⟩ | ⟨g, cap, cur, h1, h2, h3, _⟩
  · omega
  · cases h1
    exact ⟨g, rfl, h2, lt_of_block h3⟩
theorem own_ne7 {w : World} {B n c g : Nat} {e t : TypeId} {xs : List Value} {R : Nat} {cs : Array Value} (h : w.ownsRow B e 1 (.slice (some ⟨g, 0, none⟩) n c) n xs) (hR : w.heap[R]? = some (.cells cs t (0, 0))) (hne : e ≠ t) : R ≠ g := fun q => by
  subst q
  rcases h.2 with ⟨h, _⟩ | ⟨g, cap, cur, h1, h2, h3, _⟩
  · cases h
  · cases h1
    rw [hR] at h3
    injection h3 with h3
    injection h3 with _ h3
    exact hne h3.symm
end Go.Proofs.YtfabcmohaikfoaaDoor
