/- Plain consequences for the laws of layer 5: what changed goes through; behind a snapshot nothing is Dirty. No program. -/
import Derived.Test.YtiopefndbamkhaaObP
namespace Go.Proofs.Ytiopefndbamkhaa

theorem ch1 (a b : List Int) (k : Nat) : chB a [b] k = dif a b k := by simp [chB]
theorem ch2 (a b c : List Int) (k : Nat) : chB a [b, c] k = (dif a b k || dif a c k) := by simp [chB]
/-- what differs, by states -/
def difS (x y : Int) : Bool := decide (y = 1) || (decide (y = 0) != decide (x = 0))
theorem dif_st (a b : List Int) (k : Nat) : dif a b k = difS (gN a k) (gN b k) := rfl
theorem through {x y z : Int} (hx : St x) (hy : St y) (hz : St z) :
    (difS x y || difS y z) = (difS x y || difS x z) ∧ (difS x (if z = 2 ∧ y = 1 then 1 else z) = true → (difS x y || difS y z) = true) ∧
    ((difS x y || difS y z) = true → difS x (if z = 2 ∧ y = 1 then 1 else z) = false → (decide (x = 0) && decide (z = 0)) = false → (!decide (x = 0) && decide (y = 0) && decide (z = 2)) = true) := by
  rcases hx with rfl | rfl | rfl <;> rcases hy with rfl | rfl | rfl <;> rcases hz with rfl | rfl | rfl <;> decide
theorem fresh_no {x : Int} (hx : St x) : (if x = 1 then 2 else x) ≠ 1 ∧ ((if x = 1 then 2 else x) = 0 ↔ x = 0) := by
  rcases hx with rfl | rfl | rfl <;> decide
/-- behind a snapshot nothing differs from itself -/
theorem fresh_self (m : List Int) : changedO (freshO m) [freshO m] = [] := by
  unfold changedO changedN
  rw [List.map_eq_nil_iff, List.filter_eq_nil_iff]
  intro k _
  rw [ch1, dif_st, gN_freshO]
  have := (fresh_no (gN_st m k)).1
  simp [difS, this]
theorem filter_one (n k : Nat) (hk : k < n) : ∀ {p : Nat → Bool}, (∀ j, p j = decide (j = k)) → (List.range n).filter p = [k] := by
  intro p hp
  obtain ⟨d, rfl⟩ : ∃ d, n = k + 1 + d := ⟨n - (k + 1), by omega⟩
  have h1 : (List.range k).filter p = [] := by
    rw [List.filter_eq_nil_iff]
    intro j hj
    rw [hp]
    have := List.mem_range.1 hj
    simp; omega
  rw [List.range_add, List.filter_append, List.range_succ, List.filter_append, h1]
  have h2 : ((List.range d).map fun x => k + 1 + x).filter p = [] := by
    rw [List.filter_eq_nil_iff]
    intro j hj
    obtain ⟨x, _, rfl⟩ := List.mem_map.1 hj
    rw [hp]
    simp; omega
  rw [h2]
  simp [hp]
theorem fresh_set (m : List Int) (k : Nat) (hk : k < 512) : changedO (freshO m) [setO (freshO m) k 1] = [(k : Int)] := by
  have hok : OkS (k : Int) 1 := ⟨by omega, by omega, by omega, by omega⟩
  unfold changedO changedN
  rw [filter_one 512 k hk]
  · rfl
  · intro j
    rw [ch1, dif_st, gN_setO hok, gN_freshO]
    have h := (fresh_no (gN_st m j)).1
    generalize (if gN m j = 1 then 2 else gN m j) = y at h ⊢
    by_cases e : j = k
    · subst e; simp [difS]
    · rw [if_neg (show ¬ (j : Int) = (k : Int) by omega)]
      simp [difS, h, e]
theorem set_get (m : List Int) (k : Nat) (s : Int) (hk : k < 512) (h0 : 0 ≤ s) (h2 : s ≤ 2) : getO (setO m k s) k = s := by
  rw [getO_nat, gN_setO ⟨by omega, by omega, h0, h2⟩, if_pos rfl]
theorem and_low (i : Int) : ∃ k : Nat, bits .and .i64 i 511 = (k : Int) ∧ k < 512 := by
  have h1 : 0 ≤ bits .and .i64 i 511 ∧ bits .and .i64 i 511 ≤ 511 := by
    show 0 ≤ IntKind.i64.wrap ((BitVec.ofInt 64 i &&& BitVec.ofInt 64 511).toNat : Int) ∧ IntKind.i64.wrap ((BitVec.ofInt 64 i &&& BitVec.ofInt 64 511).toNat : Int) ≤ 511
    rw [IntKind.wrap_i64, BitVec.toNat_and]
    have h2 : (BitVec.ofInt 64 511).toNat = 511 := by decide
    rw [h2]
    have h3 : (BitVec.ofInt 64 i).toNat &&& 511 ≤ 511 := Nat.and_le_right
    omega
  exact ⟨(bits .and .i64 i 511).toNat, by omega, by omega⟩
end Go.Proofs.Ytiopefndbamkhaa
