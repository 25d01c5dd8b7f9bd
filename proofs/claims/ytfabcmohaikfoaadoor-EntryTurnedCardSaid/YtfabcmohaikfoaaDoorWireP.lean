/- Plain facts on the encodings of numbers: order, and the greatest number. -/
import Derived.Test.YtfabcmohaikfoaaDoorBytes
namespace Go.Proofs.YtfabcmohaikfoaaDoor

theorem encB_succ (w m : Nat) : encB (w + 1) m = UInt8.ofNat (m / 256 ^ w) :: encB w m := by
  unfold encB
  rw [List.range_succ_eq_map, List.map_cons, List.map_map]
  congr 1
  apply List.map_congr_left
  intro i hi
  have : i < w := by simpa using hi
  show UInt8.ofNat (m / 256 ^ (w + 1 - 1 - (i + 1))) = _
  congr 3
  omega

theorem bytesLess_encB : ∀ (w a b : Nat), Op.bytesLess (encB w a) (encB w b) = decide (a % 256 ^ w < b % 256 ^ w)
  | 0, a, b => by simp [encB, Op.bytesLess, Nat.mod_one]
  | w + 1, a, b => by
    rw [encB_succ, encB_succ]
    show (decide (UInt8.ofNat (a / 256 ^ w) < UInt8.ofNat (b / 256 ^ w)) || (UInt8.ofNat (a / 256 ^ w) == UInt8.ofNat (b / 256 ^ w) && Op.bytesLess (encB w a) (encB w b))) = _
    rw [bytesLess_encB w a b]
    have e : ∀ x : Nat, x % 256 ^ (w + 1) = (x / 256 ^ w % 256) * 256 ^ w + x % 256 ^ w := fun x => by
      rw [Nat.pow_succ, Nat.mod_mul, Nat.mul_comm, Nat.add_comm]
    have ha : a % 256 ^ w < 256 ^ w := Nat.mod_lt _ (Nat.pow_pos (by decide))
    have hb : b % 256 ^ w < 256 ^ w := Nat.mod_lt _ (Nat.pow_pos (by decide))
    rw [e a, e b]
    have h1 : (UInt8.ofNat (a / 256 ^ w) < UInt8.ofNat (b / 256 ^ w)) ↔ a / 256 ^ w % 256 < b / 256 ^ w % 256 := by
      rw [UInt8.lt_iff_toNat_lt]; simp
    have h2 : (UInt8.ofNat (a / 256 ^ w) == UInt8.ofNat (b / 256 ^ w)) = true ↔ a / 256 ^ w % 256 = b / 256 ^ w % 256 := by
      rw [beq_iff_eq, ← UInt8.toNat_inj]; simp
    rw [Bool.eq_iff_iff]
    simp only [Bool.or_eq_true, Bool.and_eq_true, decide_eq_true_eq, h1, h2]
    clear h1 h2 e
    generalize a / 256 ^ w % 256 = x at *
    generalize b / 256 ^ w % 256 = y at *
    generalize a % 256 ^ w = A at *
    generalize b % 256 ^ w = B at *
    generalize 256 ^ w = K at *
    constructor
    · rintro (h | ⟨rfl, h⟩)
      · have := Nat.mul_le_mul_right K (show x + 1 ≤ y from h)
        rw [Nat.add_mul, Nat.one_mul] at this
        omega
      · omega
    · intro h
      rcases Nat.lt_trichotomy x y with h3 | h3 | h3
      · exact .inl h3
      · subst h3; exact .inr ⟨rfl, by omega⟩
      · have := Nat.mul_le_mul_right K (show y + 1 ≤ x from h3)
        rw [Nat.add_mul, Nat.one_mul] at this
        omega

theorem encB_max (w : Nat) (h : 1 ≤ w ∧ w ≤ 7) : (encB w (256 ^ w - 1)).all (· == 255) = true := by
  obtain rfl | rfl | rfl | rfl | rfl | rfl | rfl : w = 1 ∨ w = 2 ∨ w = 3 ∨ w = 4 ∨ w = 5 ∨ w = 6 ∨ w = 7 := by omega
  all_goals decide

theorem clampN_lt (w : Nat) (x : Int) : clampN w x < 256 ^ w := by
  have hp : 0 < 256 ^ w := Nat.pow_pos (by decide)
  have he : ((256 : Int) ^ w) = ((256 ^ w : Nat) : Int) := by simp
  unfold clampN
  rw [he]
  omega

/-- of one width, a greater number has bytes that come later, or both have the greatest -/
theorem order_enc (w : Nat) (hw : 1 ≤ w ∧ w ≤ 7) (n m : Int) (_hn : 0 ≤ n) (hnm : n < m) :
    Op.bytesLess (encB w (clampN w n)) (encB w (clampN w m)) = true ∨
    (Op.bytesLess (encB w (clampN w n)) (encB w (clampN w m)) = false ∧ (encB w (clampN w n)).all (· == 255) = true ∧ encB w (clampN w n) = encB w (clampN w m)) := by
  have h1 := clampN_lt w n
  have h2 := clampN_lt w m
  rw [bytesLess_encB, Nat.mod_eq_of_lt h1, Nat.mod_eq_of_lt h2]
  have hp : 0 < 256 ^ w := Nat.pow_pos (by decide)
  have he : ((256 : Int) ^ w) = ((256 ^ w : Nat) : Int) := by simp
  by_cases h : clampN w n < clampN w m
  · exact .inl (by simpa using h)
  · right
    have e1 : clampN w n = 256 ^ w - 1 := by
      unfold clampN at h ⊢
      rw [he] at h ⊢
      omega
    have e2 : clampN w m = 256 ^ w - 1 := by
      unfold clampN at h ⊢
      rw [he] at h ⊢
      omega
    exact ⟨by simpa using h, by rw [e1]; exact encB_max w hw, by rw [e1, e2]⟩

theorem decB_foldl (l : List UInt8) : ∀ a : Nat, l.foldl (fun a b => a * 256 + b.toNat) a = a * 256 ^ l.length + decB l := by
  induction l with
  | nil => intro a; simp [decB]
  | cons b l ih =>
    intro a
    have h0 := ih (0 * 256 + b.toNat)
    have h1 : decB (b :: l) = (0 * 256 + b.toNat) * 256 ^ l.length + decB l := h0
    rw [List.foldl_cons, ih, h1, List.length_cons, Nat.pow_succ, Nat.add_mul, Nat.zero_mul, Nat.zero_add, Nat.mul_assoc, Nat.mul_comm 256, Nat.add_assoc]
theorem decB_cons (b : UInt8) (l : List UInt8) : decB (b :: l) = b.toNat * 256 ^ l.length + decB l := by
  have := decB_foldl l b.toNat
  rw [← this]
  show l.foldl (fun a b => a * 256 + b.toNat) (0 * 256 + b.toNat) = _
  rw [Nat.zero_mul, Nat.zero_add]
theorem decB_encB : ∀ (w m : Nat), decB (encB w m) = m % 256 ^ w
  | 0, m => by simp [encB, decB, Nat.mod_one]
  | w + 1, m => by
    rw [encB_succ, decB_cons, encB_length, decB_encB w m, Nat.pow_succ, Nat.mod_mul]
    have e : (UInt8.ofNat (m / 256 ^ w)).toNat = m / 256 ^ w % 256 := by simp
    rw [e, Nat.mul_comm, Nat.add_comm]
end Go.Proofs.YtfabcmohaikfoaaDoor
