/- Objects, plain: what may be stays so behind any op. -/
import Derived.Test.YtmigapjkicddiaaDoorMq

namespace Go.Proofs.YtmigapjkicddiaaDoor
open Go.RowKit

theorem end_err (r : Oj × Bool × Bool × Int) (h : ¬ (endO r).2.2.2 = 0) : (endO r).1 = oj0 ∧ (endO r).2.1 = false ∧ (endO r).2.2.1 = false := by
  unfold endO at h ⊢
  split
  · next he => rw [if_pos he] at h; exact absurd rfl h
  · exact ⟨rfl, rfl, rfl⟩
theorem end_ok (r : Oj × Bool × Bool × Int) (h : (endO r).2.2.2 = 0) : ((endO r).2.1 = true ∨ (endO r).1 = oj0) ∧ (endO r).2.2.1 = r.2.2.1 := by
  unfold endO at h ⊢
  split
  · obtain ⟨a, b, c, e⟩ := r
    cases b
    · exact ⟨.inr rfl, rfl⟩
    · exact ⟨.inl rfl, rfl⟩
  · next he => rw [if_neg he] at h; exact absurd h he
theorem step_says (o : Oj) (t : Bool) (p : Opr) (h : 4 < p.k) : (stepO o t p).2.2.1 = true := by
  unfold stepO
  rw [if_neg (by omega)]
  split
  · cases dataO o.data p <;> rfl
  · repeat' (first | rfl | split)
/-- what is refused tells nothing -/
theorem do_err (o : Oj) (t : Bool) (p : Opr) (h : ¬ (doO o t p).2.2.2 = 0) : (doO o t p).1 = oj0 ∧ (doO o t p).2.1 = false ∧ (doO o t p).2.2.1 = false := by
  by_cases hh : mayO o = true ∧ 1 ≤ p.k ∧ p.k ≤ 14
  · unfold doO at h ⊢
    rw [if_pos hh] at h ⊢
    exact end_err _ h
  · unfold doO
    rw [if_neg hh]
    exact ⟨rfl, rfl, rfl⟩
/-- an op that is done: its kind, and what is told where the object is gone -/
theorem do_ok (o : Oj) (t : Bool) (p : Opr) (h : (doO o t p).2.2.2 = 0) : 1 ≤ p.k ∧ ((doO o t p).2.1 = true ∨ (doO o t p).1 = oj0) ∧ (4 < p.k → (doO o t p).2.2.1 = true) := by
  by_cases hh : mayO o = true ∧ 1 ≤ p.k ∧ p.k ≤ 14
  · unfold doO at h ⊢
    rw [if_pos hh] at h ⊢
    have h1 := end_ok _ h
    exact ⟨hh.2.1, h1.1, fun hk => h1.2.trans (step_says _ t p hk)⟩
  · unfold doO at h
    rw [if_neg hh] at h
    exact absurd h (by decide)
set_option maxRecDepth 10000 in
/-- block b holds an object that reads -/
def HoldO (w : World) (b : Nat) (o : Oj) : Prop := ∃ A n c K m k, w.heap[b]? = some (.cells #[.slice A n c, .slice K m k, .int .i64 o.seq] 25 (0, 0)) ∧ Rd w w.heap.size A n o.data ∧ RdK w w.heap.size K m o.keys
theorem HoldO.to {w w' : World} {b : Nat} {o : Oj} (h : HoldO w b o) (hb : Below w.heap.size w w') : HoldO w' b o := by
  obtain ⟨A, n, c, K, m, k, h1, h2, h3⟩ := h
  exact ⟨A, n, c, K, m, k, blk8 h1 hb, (h2.below hb).more hb.size, (h3.below hb).more hb.size⟩
theorem al8 (w : World) (o : Obj) : Hid (Below w.heap.size w (w.alloc o)) := (Below.refl _ _).alloc (Nat.le_refl _) _
/-- what Clone tells, its value written out -/
def CloneX (w : World) (o : Oj) (e : Ending) (w' : World) : Prop :=
  ∃ Ad nd cd Ak nk ck s, e = .returned (oV Ad nd cd Ak nk ck s) ∧ Hid (s = o.seq) ∧ Hid (Rd w' w'.heap.size Ad nd o.data) ∧ Hid (RdK w' w'.heap.size Ak nk o.keys) ∧ Hid (Below w.heap.size w w')
theorem CloneP.x {w w' : World} {o : Oj} {nd nk : Nat} {e : Ending} (h : CloneP w o nd nk e w') : CloneX w o e w' := by
  obtain ⟨Ad, cd, Ak, ck, vs, M, rfl, h1, hb⟩ := h
  obtain ⟨Ad', nd', cd', Ak', nk', ck', h2, h3, _, h4⟩ := h1.out.obj
  exact ⟨Ad, nd, cd, Ak, nk, ck, o.seq, rfl, rfl, by cases h2; exact h3, by cases h2; exact h4, hb⟩
end Go.Proofs.YtmigapjkicddiaaDoor
