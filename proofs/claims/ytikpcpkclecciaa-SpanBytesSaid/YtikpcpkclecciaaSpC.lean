/- The laws' own clean: true of canonical lists. -/
import Derived.Test.YtikpcpkclecciaaSpAw
import Derived.BigQuiet
namespace Go.Proofs.Ytikpcpkclecciaa
open Go.RowKit

theorem canon_step : ∀ {b : Int} {l : List Sp}, CanF b l → ∀ i (h : i + 1 < l.length), l[i].2 < l[i + 1].1
  | _, s :: r, h, 0, hi => by
    cases r with
    | nil => simp at hi
    | cons t r => exact h.2.2.2.1
  | _, s :: r, h, i + 1, hi => by
    have := canon_step h.2.2.2 i (by simpa using hi)
    simpa using this

set_option maxRecDepth 10000 in
set_option maxHeartbeats 2000000 in
theorem lTidy {w : World} {A : Option Addr} {n : Nat} {l : List Sp} (c : Nat) (h : Hid (At w A n l)) (hc : Canon l) : GivesV 23 #[.slice A n c] w (.bool true) := by
  have Hc := Lib.hid hc
  have hn := h.out.2
  clear hc
  show Calls Try.prog 23 #[.slice A n c] w _
  go_enter Try.func23, Try.ntmps23
  go_wp2_with fail
  go_loopw [3] (fun i wr => ∃ j : Nat, j ≤ n ∧ i = .int .i64 j ∧ Hid (∃ q, wr = w.drewN q)) (fun i _ => n - (intOf i).toNat)
  case atStart => exact ⟨0, Nat.zero_le _, rfl, ⟨0, rfl⟩⟩
  case round =>
    obtain ⟨j, hj, rfl, Hq⟩ := hrel
    by_cases hjn : j < n
    · have hjl : j < l.length := by rw [← h.out.1.1]; exact hjn
      have HR : Hid (RdS wr w.heap.size A n l) := by obtain ⟨q, rfl⟩ := Hq.out; exact h.out.1.drewN q
      obtain ⟨g, o, rfl, _, hcl⟩ := HR.out.2 (by omega)
      obtain ⟨x0, x1⟩ := hcl j hjl
      obtain ⟨b0, b1, b2⟩ := canon_bd (Int.le_refl _) Hc.out j hjl
      rcases j with _ | k
      · generalize l[0] = p at x0 x1 b0 b1 b2
        obtain ⟨P, Q⟩ := p
        simp only at x0 x1 b0 b1 b2
        have d1 : decide (P < 0) = false := decide_eq_false (by omega)
        have d2 : decide (1099511627776 < Q) = false := decide_eq_false (by omega)
        have d3 : decide (Q ≤ P) = false := decide_eq_false (by omega)
        simp only [Nat.zero_mul, Nat.add_zero] at x0 x1
        clear hcl hjl b0 b1 b2 HR
        go_wp2_with fail
        go_quiet (fail)
        go_wp2_with fail
        go_roundw
        case rel =>
          obtain ⟨q, rfl⟩ := Hq.out
          exact ⟨1, by omega, by go_num, ⟨q + nq, (drewN_add _ _ _).symm⟩⟩
        case measure => simp [intOf]; omega
      · obtain ⟨y0, y1⟩ := hcl k (by omega)
        clear y0
        have hst := canon_step Hc.out k hjl
        generalize l[k + 1] = p at x0 x1 b0 b1 b2 hst
        generalize l[k] = r at y1 hst
        obtain ⟨P, Q⟩ := p
        obtain ⟨_, R⟩ := r
        simp only at x0 x1 y1 b0 b1 b2 hst
        have d1 : decide (P < 0) = false := decide_eq_false (by omega)
        have d2 : decide (1099511627776 < Q) = false := decide_eq_false (by omega)
        have d3 : decide (Q ≤ P) = false := decide_eq_false (by omega)
        have d4 : decide ((0 : Int) < ((k + 1 : Nat) : Int)) = true := decide_eq_true (by omega)
        have d5 : decide (P ≤ R) = false := decide_eq_false (by omega)
        clear hcl hjl b0 b1 b2 HR hst
        go_wp2_with fail
        go_quiet (fail)
        go_wp2_with fail
        go_roundw
        case rel =>
          obtain ⟨q, rfl⟩ := Hq.out
          exact ⟨k + 2, by omega, by go_num, ⟨q + nq, (drewN_add _ _ _).symm⟩⟩
        case measure => simp [intOf]; omega
    · go_wp2_with fail
      go_ret
      obtain ⟨q, rfl⟩ := Hq.out
      exact ⟨rfl, Lib.hid ⟨rfl, rfl, rfl, Nat.le_refl _, fun _ _ => rfl⟩⟩
end Go.Proofs.Ytikpcpkclecciaa
