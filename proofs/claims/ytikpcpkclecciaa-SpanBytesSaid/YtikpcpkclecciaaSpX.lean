/- Plain consequences for the laws of layer 4: lengths, order, counts, what lies within. No program. -/
import Derived.Test.YtikpcpkclecciaaSpM
namespace Go.Proofs.Ytikpcpkclecciaa

theorem refS_len (a b : List Sp) (what : Int) : (refS a b what).length ≤ 2 * (a.length + b.length) := by
  have h := ofS_len a b what (endsOf (endsOf [] a) b) ((endsOf (endsOf [] a) b).length - 1)
  have h1 := endsOf_len b (endsOf [] a)
  have h2 := endsOf_len a []
  unfold refS
  simp only [List.length_nil] at h2
  omega
theorem refS_has (a b : List Sp) (what : Int) (n : Int) : hasB (refS a b what) n = opS what (hasB a n) (hasB b n) := (refS_ok a b what).2 n
theorem refS_can (a b : List Sp) (what : Int) : Canon (refS a b what) := (refS_ok a b what).1
theorem has_rev (l : List Sp) (n : Int) : hasB l.reverse n = hasB l n := by unfold hasB; rw [List.any_reverse]
theorem ref_eq {a b c d : List Sp} {u v : Int} (h : ∀ n, opS u (hasB a n) (hasB b n) = opS v (hasB c n) (hasB d n)) : refS a b u = refS c d v :=
  ref_unique (refS_can a b u) fun n => by rw [refS_has, h]
theorem ref_self {a b c : List Sp} {u : Int} (hc : Canon c) (h : ∀ n, opS u (hasB a n) (hasB b n) = hasB c n) : refS a b u = c :=
  (ref_unique hc fun n => (h n).symm).symm
theorem op1 (x y : Bool) : opS 1 x y = (x || y) := by simp [opS]
theorem op2 (x y : Bool) : opS 2 x y = (x && y) := by simp [opS]
theorem op3 (x y : Bool) : opS 3 x y = (x && !y) := by simp [opS]
theorem canon_nil : Canon [] := trivial
/-- nothing of a lies outside b -/
theorem less_nil {a b : List Sp} : refS a b 3 = [] ↔ ∀ n, hasB a n = true → hasB b n = true := by
  constructor
  · intro h n ha
    have h1 := refS_has a b 3 n
    rw [h, hasB_nil, op3, ha] at h1
    simpa using h1
  · intro h
    refine ref_self canon_nil fun n => ?_
    rw [op3, hasB_nil]
    cases q : hasB a n
    · rfl
    · rw [h n q]; rfl
theorem clean_eq {a b : List Sp} : refS a [] 1 = refS b [] 1 ↔ ∀ n, hasB a n = hasB b n := by
  constructor
  · intro h n
    have h1 := refS_has a [] 1 n
    rw [h, refS_has, op1, op1, hasB_nil, Bool.or_false, Bool.or_false] at h1
    exact h1.symm
  · intro h
    exact ref_eq fun n => by rw [h]

/- Counts. -/
def cnt (f : Int → Bool) : Nat → Int
  | 0 => 0
  | n + 1 => cnt f n + (if f n then 1 else 0)
theorem cnt_ext {f g : Int → Bool} (h : ∀ n, f n = g n) : ∀ N, cnt f N = cnt g N
  | 0 => rfl
  | N + 1 => by unfold cnt; rw [cnt_ext h N, h]
theorem cnt_or {f g : Int → Bool} (h : ∀ n, (f n && g n) = false) : ∀ N, cnt (fun n => f n || g n) N = cnt f N + cnt g N
  | 0 => rfl
  | N + 1 => by
    have h1 := h N
    unfold cnt
    rw [cnt_or h N]
    cases q : f N <;> cases r : g N <;> simp [q, r] at h1 ⊢ <;> omega
theorem cnt_no {f : Int → Bool} (h : ∀ n, f n = false) : ∀ N, cnt f N = 0
  | 0 => rfl
  | N + 1 => by unfold cnt; rw [cnt_no h N, h]; rfl
theorem cnt_zero (f : Int → Bool) : cnt f 0 = 0 := rfl
theorem cnt_succ (f : Int → Bool) (N : Nat) : cnt f (N + 1) = cnt f N + (if f N then 1 else 0) := rfl
theorem cnt_one {f t F : Int} (hF : F = farS) (h0 : 0 ≤ f) (h1 : f < t) (_h2 : t ≤ F) (N : Nat) : (N : Int) ≤ F → cnt (hasB [(f, t)]) N = min t N - min f N := by
  induction N with
  | zero => intro _; rw [cnt_zero]; omega
  | succ N ih =>
    intro hN
    have ih := ih (by omega)
    rw [cnt_succ, ih, hasB_one (by omega) (by omega)]
    by_cases q : f ≤ N <;> by_cases r : (N : Int) < t <;> simp [q, r] <;> omega
theorem cnt_can {N : Nat} (hN : (N : Int) = farS) : ∀ {b : Int} {l : List Sp}, -1 ≤ b → CanF b l → cnt (hasB l) N = sumS l
  | _, [], _, _ => by rw [cnt_no hasB_nil]; rfl
  | b, s :: r, hb, h => by
    obtain ⟨f, t⟩ := s
    obtain ⟨q1, q2, q3, q4⟩ := h
    simp only at q1 q2 q3 q4
    have hd : ∀ n, (hasB [(f, t)] n && hasB r n) = false := fun n => by
      by_cases z : 0 ≤ n ∧ n < farS
      · rw [hasB_one z.1 z.2]
        by_cases y : n < t
        · rw [q4.above n (by omega)]; simp
        · simp [y]
      · rw [hasB_out z]; rfl
    rw [cnt_ext (hasB_cons (f, t) r), cnt_or hd, cnt_can hN (by omega) q4, sumS_cons, cnt_one rfl (by omega) q2 q3 N (by omega)]
    simp only
    omega
theorem sum_cnt {N : Nat} (hN : (N : Int) = farS) (a b : List Sp) (what : Int) : sumS (refS a b what) = cnt (fun n => opS what (hasB a n) (hasB b n)) N := by
  rw [← cnt_can hN (Int.le_refl _) (refS_can a b what)]
  exact cnt_ext (refS_has a b what) _
theorem can_zero {l : List Sp} : ∀ {b : Int}, CanF b l → sumS l = 0 → l = [] := by
  intro b h h0
  cases l with
  | nil => rfl
  | cons s r =>
    have h1 := CanF.sum h.2.2.2
    rw [sumS_cons] at h0
    have := h.2.1
    omega

theorem sum_le (a b : List Sp) (what : Int) : sumS (refS a b what) ≤ 1099511627777 := by
  have h := canon_sum (refS_can a b what) (refS a b what).length
  rw [List.take_length] at h
  exact h.2
/- SpanParts -/
theorem parts1 (a b : List Sp) : refS (refS a b 2) (refS a b 3) 1 = refS a [] 1 := ref_eq fun n => by
  simp only [refS_has, op1, op2, op3, hasB_nil]; cases hasB a n <;> cases hasB b n <;> rfl
theorem parts2 (a b : List Sp) : refS (refS a b 2) (refS a b 3) 2 = [] := ref_self canon_nil fun n => by
  simp only [refS_has, op2, op3, hasB_nil]; cases hasB a n <;> cases hasB b n <;> rfl
theorem parts3 (a b : List Sp) : sumS (refS (refS a b 2) [] 1) + sumS (refS (refS a b 3) [] 1) = sumS (refS a [] 1) := by
  obtain ⟨N, hN⟩ : ∃ N : Nat, (N : Int) = farS := ⟨farS.toNat, by decide⟩
  rw [sum_cnt hN, sum_cnt hN, sum_cnt hN, ← cnt_or]
  · exact cnt_ext (fun n => by simp only [refS_has, op1, op2, op3, hasB_nil]; cases hasB a n <;> cases hasB b n <;> rfl) _
  · intro n; simp only [refS_has, op1, op2, op3, hasB_nil]; cases hasB a n <;> cases hasB b n <;> rfl
theorem parts4 (a b : List Sp) : refS (refS a b 2) b 3 = [] := less_nil.2 fun n h => by
  rw [refS_has, op2] at h; simp at h; exact h.2
theorem parts5 (a b : List Sp) : refS (refS a b 3) a 3 = [] := less_nil.2 fun n h => by
  rw [refS_has, op3] at h; simp at h; exact h.1
/- SpanTurned -/
theorem turn1 (a : List Sp) : refS a.reverse [] 1 = refS a [] 1 := ref_eq fun n => by rw [has_rev]
theorem turn2 (a : List Sp) : refS (refS a [] 1) [] 1 = refS a [] 1 := ref_eq fun n => by simp only [refS_has, op1, hasB_nil, Bool.or_false]
theorem turn3 (a b : List Sp) : refS a b 1 = refS b a 1 := ref_eq fun n => by simp only [op1]; exact Bool.or_comm _ _
theorem turn4 (a b : List Sp) : refS a b 2 = refS b a 2 := ref_eq fun n => by simp only [op2]; exact Bool.and_comm _ _
theorem turn5 (a : List Sp) : refS a a.reverse 1 = refS a [] 1 := ref_eq fun n => by simp only [op1, has_rev, hasB_nil]; cases hasB a n <;> rfl
theorem turn6 (a : List Sp) : refS a a.reverse 3 = [] := less_nil.2 fun n h => by rw [has_rev]; exact h
/- SpanWithin -/
theorem with1 {a b c : List Sp} (h : refS a b 3 = []) (h1 : refS b c 3 = []) : refS a c 3 = [] := less_nil.2 fun n q => less_nil.1 h1 n (less_nil.1 h n q)
theorem with2 (a b : List Sp) : (refS a b 3 = [] ∧ refS b a 3 = []) ↔ refS a [] 1 = refS b [] 1 := by
  rw [less_nil, less_nil, clean_eq]
  constructor
  · rintro ⟨h1, h2⟩ n
    have := h1 n
    have := h2 n
    cases p : hasB a n <;> cases q : hasB b n <;> simp_all
  · intro h
    exact ⟨fun n q => by rw [← h]; exact q, fun n q => by rw [h]; exact q⟩
theorem with5 (a b : List Sp) : decide (refS a [] 1 = refS b [] 1) = (decide (refS a b 3 = []) && decide (refS b a 3 = [])) := by
  rw [← Bool.decide_and]
  exact decide_eq_decide.2 (with2 a b).symm
theorem with3 (a : List Sp) : refS [] a 3 = [] := less_nil.2 fun n q => by rw [hasB_nil] at q; exact absurd q (by decide)
theorem with4 (a : List Sp) : refS a [] 3 = [] ↔ sumS (refS a [] 1) = 0 := by
  rw [less_nil]
  constructor
  · intro h
    have : refS a [] 1 = [] := ref_self canon_nil fun n => by
      rw [op1, hasB_nil, Bool.or_false]
      cases q : hasB a n
      · rfl
      · have := h n q; rw [hasB_nil] at this; exact absurd this (by decide)
    rw [this]; rfl
  · intro h n q
    have h1 := can_zero (refS_can a [] 1) h
    have h2 := refS_has a [] 1 n
    rw [h1, hasB_nil, op1, q] at h2
    exact absurd h2 (by decide)
end Go.Proofs.Ytikpcpkclecciaa
