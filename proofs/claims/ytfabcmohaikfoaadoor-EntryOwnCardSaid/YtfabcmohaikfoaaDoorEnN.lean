/- Plain theory of an entry's name: nine digits behind an 'e'; greater numbers have later names. -/
import Derived.Test.YtfabcmohaikfoaaDoorWireP
import Derived.Lib.ItoaNum
import Derived.Lib.ItoaMem
namespace Go.Proofs.YtfabcmohaikfoaaDoor

/-- the last k digits of n -/
def digL (k n : Nat) : List UInt8 := (List.range k).map fun t => UInt8.ofNat (48 + n / 10 ^ (k - 1 - t) % 10)
theorem digL_len (k n : Nat) : (digL k n).length = k := by simp [digL]
theorem digL_succ (k n : Nat) : digL (k + 1) n = UInt8.ofNat (48 + n / 10 ^ k % 10) :: digL k n := by
  unfold digL
  rw [List.range_succ_eq_map, List.map_cons, List.map_map]
  congr 1
  apply List.map_congr_left
  intro i hi
  have : i < k := by simpa using hi
  show UInt8.ofNat (48 + n / 10 ^ (k + 1 - 1 - (i + 1)) % 10) = _
  congr 5
  omega
/-- the number that a name tells -/
def numN (x : Int) : Nat := (min (max x 0) 999999999).toNat
theorem numN_le (x : Int) : numN x ≤ 999999999 := by unfold numN; omega
/-- a name's letters -/
def nameL (x : Int) : List UInt8 := 101 :: digL 9 (numN x)
theorem nameL_len (x : Int) : (nameL x).length = 10 := by unfold nameL; rw [List.length_cons, digL_len]

theorem itoa_pad (n : Nat) (h : n ≤ 999999999) : Lib.itoa ((1000000000 + n : Nat) : Int) = 49 :: digL 9 n := by
  rw [Lib.itoa_nonneg, Lib.decDigits_eq, Lib.nDigits_unique 9 (1000000000 + n) (by omega) (by omega)]
  have e : ((List.range 10).map fun t => Lib.dg (1000000000 + n) (10 - 1 - t)) = digL 10 (1000000000 + n) := by
    unfold digL
    apply List.map_congr_left
    intro t _
    rfl
  show ((List.range 10).map fun t => Lib.dg (1000000000 + n) (10 - 1 - t)) = _
  rw [e, digL_succ]
  have e1 : (1000000000 + n) / 10 ^ 9 % 10 = 1 := by omega
  rw [e1]
  congr 1
  unfold digL
  apply List.map_congr_left
  intro t ht
  have ht : t < 9 := by simpa using ht
  have key : ∀ j, j < 9 → (1000000000 + n) / 10 ^ j % 10 = n / 10 ^ j % 10 := by
    intro j hj
    obtain rfl | rfl | rfl | rfl | rfl | rfl | rfl | rfl | rfl : j = 0 ∨ j = 1 ∨ j = 2 ∨ j = 3 ∨ j = 4 ∨ j = 5 ∨ j = 6 ∨ j = 7 ∨ j = 8 := by omega
    all_goals simp only [Nat.reducePow]; omega
  rw [key _ (by omega)]

theorem less_dig : ∀ (k a b : Nat), Op.bytesLess (digL k a) (digL k b) = decide (a % 10 ^ k < b % 10 ^ k)
  | 0, a, b => by simp [digL, Op.bytesLess, Nat.mod_one]
  | k + 1, a, b => by
    rw [digL_succ, digL_succ]
    show (decide (UInt8.ofNat (48 + a / 10 ^ k % 10) < UInt8.ofNat (48 + b / 10 ^ k % 10)) || (UInt8.ofNat (48 + a / 10 ^ k % 10) == UInt8.ofNat (48 + b / 10 ^ k % 10) && Op.bytesLess (digL k a) (digL k b))) = _
    rw [less_dig k a b]
    have e : ∀ x : Nat, x % 10 ^ (k + 1) = (x / 10 ^ k % 10) * 10 ^ k + x % 10 ^ k := fun x => by
      rw [Nat.pow_succ, Nat.mod_mul, Nat.mul_comm, Nat.add_comm]
    have ha : a % 10 ^ k < 10 ^ k := Nat.mod_lt _ (Nat.pow_pos (by decide))
    have hb : b % 10 ^ k < 10 ^ k := Nat.mod_lt _ (Nat.pow_pos (by decide))
    rw [e a, e b]
    have h1 : (UInt8.ofNat (48 + a / 10 ^ k % 10) < UInt8.ofNat (48 + b / 10 ^ k % 10)) ↔ a / 10 ^ k % 10 < b / 10 ^ k % 10 := by
      rw [UInt8.lt_iff_toNat_lt, UInt8.toNat_ofNat', UInt8.toNat_ofNat']; omega
    have h2 : (UInt8.ofNat (48 + a / 10 ^ k % 10) == UInt8.ofNat (48 + b / 10 ^ k % 10)) = true ↔ a / 10 ^ k % 10 = b / 10 ^ k % 10 := by
      rw [beq_iff_eq, ← UInt8.toNat_inj, UInt8.toNat_ofNat', UInt8.toNat_ofNat']; omega
    rw [Bool.eq_iff_iff]
    simp only [Bool.or_eq_true, Bool.and_eq_true, decide_eq_true_eq, h1, h2]
    clear h1 h2 e
    generalize a / 10 ^ k % 10 = x at *
    generalize b / 10 ^ k % 10 = y at *
    generalize a % 10 ^ k = A at *
    generalize b % 10 ^ k = B at *
    generalize 10 ^ k = K at *
    constructor
    · rintro (h | ⟨rfl, h⟩)
      · have := Nat.mul_le_mul_right K h
        rw [Nat.succ_mul] at this
        omega
      · omega
    · intro h
      rcases Nat.lt_trichotomy x y with h1 | h1 | h1
      · exact .inl h1
      · subst h1; exact .inr ⟨rfl, by omega⟩
      · have := Nat.mul_le_mul_right K h1
        rw [Nat.succ_mul] at this
        omega
theorem name_less {n m : Int} (h0 : 0 ≤ n) (h1 : n < m) (h2 : m ≤ 999999999) : Op.bytesLess (nameL n) (nameL m) = true := by
  have e : Op.bytesLess (nameL n) (nameL m) = Op.bytesLess (digL 9 (numN n)) (digL 9 (numN m)) := by
    unfold nameL
    show (decide ((101 : UInt8) < 101) || ((101 : UInt8) == 101 && _)) = _
    simp
  rw [e, less_dig]
  unfold numN
  simp only [Nat.reducePow, decide_eq_true_eq]
  omega
end Go.Proofs.YtfabcmohaikfoaaDoor
