/- Words for the laws of layer 2: a bit turned, a frame's length by a letter, great slices that are made. -/
import Derived.Test.YthidmajlmehopaaDoorFrLaw
namespace Go.Proofs.YthidmajlmehopaaDoor
open Go.RowKit

theorem xor_turn (x : UInt8) (s : Nat) (hs : s < 256) (h0 : s ≠ 0) : ∃ y : UInt8, bits .xor .u8 (x.toNat : Int) (s : Int) = (y.toNat : Int) ∧ y ≠ x := by
  have e : ∀ n : Nat, n < 256 → (BitVec.ofInt 8 (n : Int)).toNat = n := fun n hn => by
    rw [BitVec.ofInt_natCast, BitVec.toNat_ofNat]; exact Nat.mod_eq_of_lt (by omega)
  have hx := x.toNat_lt
  have hl : x.toNat ^^^ s < 256 := Nat.xor_lt_two_pow (n := 8) hx hs
  have hy : (UInt8.ofNat (x.toNat ^^^ s)).toNat = x.toNat ^^^ s := by
    rw [UInt8.toNat_ofNat']; exact Nat.mod_eq_of_lt hl
  refine ⟨UInt8.ofNat (x.toNat ^^^ s), ?_, fun h => ?_⟩
  · rw [hy]
    show IntKind.u8.wrap ((BitVec.ofInt 8 (x.toNat : Int) ^^^ BitVec.ofInt 8 (s : Int)).toNat : Int) = _
    rw [BitVec.toNat_xor, e _ hx, e _ hs, IntKind.wrap_u8]
    omega
  · have h1 : x.toNat ^^^ s = x.toNat := by rw [← hy, h]
    have h2 := congrArg (x.toNat ^^^ ·) h1
    simp only [← Nat.xor_assoc, Nat.xor_self, Nat.zero_xor] at h2
    exact h0 h2
theorem turn_bit (x : UInt8) (b : Nat) : ∃ y : UInt8, bits .xor .u8 (x.toNat : Int) ((2 : Int) ^ (b % 8) % 256) = (y.toNat : Int) ∧ y ≠ x := by
  have h8 : b % 8 < 8 := Nat.mod_lt _ (by decide)
  have h2 : (2 : Nat) ^ (b % 8) < 256 := Nat.lt_of_le_of_lt (Nat.pow_le_pow_right (by decide) (show b % 8 ≤ 7 by omega)) (by decide)
  have h3 : 0 < (2 : Nat) ^ (b % 8) := Nat.pow_pos (by decide)
  have e : ((2 : Int) ^ (b % 8) % 256) = ((2 ^ (b % 8) : Nat) : Int) := by
    rw [show ((2 : Int) ^ (b % 8)) = ((2 ^ (b % 8) : Nat) : Int) by simp]; omega
  rw [e]
  exact xor_turn x _ h2 (by omega)

/-- Make, its length by a letter -/
theorem MakeL (x : Int) (k : Nat) (A : Option Addr) (n c L : Nat) (l : List UInt8) (w : World) (hx : x = (k : Int)) (hk : k ≤ 255) (hL : L = n + 12) (hn : n ≤ 8192) (hr : Rd w w.heap.size A n l) (ht : Tb w) :
    Calls Tryd.prog 10 #[.int .i64 x, .slice A n c] w fun e w' => ∃ g cf, e = .returned (.tuple #[.slice (some ⟨g, 0, none⟩) L cf, .int .i64 0]) ∧ L ≤ cf ∧ cf ≤ maxLen ∧ w'.ownsRow w.heap.size 5 1 (.slice (some ⟨g, 0, none⟩) L cf) L ((mkF k l).map bv) ∧ w.heap.size ≤ g ∧ Below w.heap.size w w' := by
  subst hx
  exact (Make_ok k A n c l w hk hn hr ht).mono fun e w' h => by
    rw [← hL] at h
    obtain ⟨Af, cf, h1, h2, h3, h4, h5⟩ := h
    rcases h4.2 with ⟨hv, h0⟩ | ⟨g, cap, cur, hv, hg, _⟩
    · omega
    · injection hv with hv1 _ _
      subst hv1
      exact ⟨g, cf, h1, h2, h3, h4, hg, h5⟩

/-- a slice that was just made -/
theorem Rd_made (w : World) (N : Nat) : Rd (w.alloc (.cells (madeCells #[.int .u8 0] N) 5)) (w.heap.size + 1) (some ⟨w.heap.size, 0, none⟩) N (List.replicate N 0) := by
  refine ⟨List.length_replicate, fun _ => ⟨_, rfl, Nat.lt_succ_self _, fun j hj => ?_⟩⟩
  rw [List.length_replicate] at hj
  have hadd : (⟨w.heap.size, 0, none⟩ : Addr).add j = ⟨w.heap.size, j, none⟩ := by unfold Addr.add; split <;> simp_all
  rw [hadd, cell_of_row _ w.heap.size j (madeCells #[.int .u8 0] N) _ (0, 0) (heap_alloc_new w _), ← Array.getElem?_toList, toList_madeCells_one, List.getElem?_replicate, if_pos hj, List.getElem_replicate]
  rfl
theorem big_ok (w : World) (ht : Tb w) : Calls Tryd.prog 10 #[.int .i64 1, .slice (some ⟨w.heap.size, 0, none⟩) 8192 8192] (w.alloc (.cells (madeCells #[.int .u8 0] 8192) 5)) fun e w' =>
    ∃ A c, e = .returned (.tuple #[.slice A 8204 c, .int .i64 0]) ∧ Below w.heap.size w w' :=
  (Make_ok 1 _ 8192 8192 _ _ (by decide) (by omega) ((Rd_made w 8192).more (by simp)) (ht.below ((Below.refl _ _).alloc (Nat.le_refl _) _) ht.size)).mono fun e w' h => by
    obtain ⟨A, c, h1, _, _, _, h5⟩ := h
    exact ⟨A, c, h1, ((Below.refl _ _).alloc (Nat.le_refl _) _).trans (h5.mono (by simp))⟩
theorem big_lim (w : World) : Calls Tryd.prog 10 #[.int .i64 1, .slice (some ⟨w.heap.size, 0, none⟩) 8193 8193] (w.alloc (.cells (madeCells #[.int .u8 0] 8193) 5)) fun e w' =>
    e = .returned (.tuple #[.slice none 0 0, .int .i64 2]) ∧ Below w.heap.size w w' :=
  (Make_lim 1 _ 8193 8193 _ (by omega) (by omega)).mono fun e w' h => ⟨h.1, by rw [← h.2]; exact (Below.refl _ _).alloc (Nat.le_refl _) _⟩
theorem mk8192 (w : World) : (Instr.makeSlice 22 (.int .i64 8192) (.int .i64 8192)).run Tryd.prog w = .ok (.slice (some ⟨w.heap.size, 0, none⟩) 8192 8192) (w.alloc (.cells (madeCells #[.int .u8 0] 8192) 5)) := by
  obtain ⟨i, hi, hz0, hz1, hz2⟩ := info_parts Tryd.infoB
  exact run_mk (P := Tryd.prog) Tryd.underlying22 hi hz0 hz1 (by omega) 8192 8192 8192 rfl (by omega) (by omega) w
theorem mk8193 (w : World) : (Instr.makeSlice 22 (.int .i64 8193) (.int .i64 8193)).run Tryd.prog w = .ok (.slice (some ⟨w.heap.size, 0, none⟩) 8193 8193) (w.alloc (.cells (madeCells #[.int .u8 0] 8193) 5)) := by
  obtain ⟨i, hi, hz0, hz1, hz2⟩ := info_parts Tryd.infoB
  exact run_mk (P := Tryd.prog) Tryd.underlying22 hi hz0 hz1 (by omega) 8193 8193 8193 rfl (by omega) (by omega) w
end Go.Proofs.YthidmajlmehopaaDoor
