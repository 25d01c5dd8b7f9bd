/- Contracts of the document's Clean, Many, Same (spans), and of the laws' own few, clean. -/
import Derived.Test.YtaobdebeglenaaaSpO
namespace Go.Proofs.Ytaobdebeglenaaa
open Go.RowKit

/-- how many bytes the spans of a canonical list have -/
def sumS (ps : List Sp) : Int := (ps.map fun s => s.2 - s.1).sum
theorem sumS_cons (s : Sp) (r : List Sp) : sumS (s :: r) = (s.2 - s.1) + sumS r := by simp [sumS]
theorem sumS_snoc (r : List Sp) (s : Sp) : sumS (r ++ [s]) = sumS r + (s.2 - s.1) := by simp [sumS]
theorem CanF.sum : ∀ {b : Int} {l : List Sp}, CanF b l → 0 ≤ sumS l ∧ sumS l ≤ endF b l - b ∧ (l ≠ [] → endF b l ≤ farS)
  | b, [], _ => by simp [sumS, endF]
  | b, s :: r, h => by
    obtain ⟨h1, h2, h3, h4⟩ := h
    obtain ⟨i1, i2, i3⟩ := h4.sum
    rw [sumS_cons]
    refine ⟨by omega, by show _ ≤ endF s.2 r - b; omega, fun _ => ?_⟩
    show endF s.2 r ≤ farS
    cases r with
    | nil => exact h3
    | cons x y => exact i3 (by simp)
theorem CanF.take : ∀ {b : Int} {l : List Sp} (j : Nat), CanF b l → CanF b (l.take j)
  | _, _, 0, _ => by simp [CanF]
  | _, [], _ + 1, _ => trivial
  | _, _ :: _, j + 1, h => ⟨h.1, h.2.1, h.2.2.1, h.2.2.2.take j⟩
theorem canon_sum {l : List Sp} (h : Canon l) (j : Nat) : 0 ≤ sumS (l.take j) ∧ sumS (l.take j) ≤ 1099511627777 := by
  obtain ⟨h1, h2, h3⟩ := (h.take j).sum
  refine ⟨h1, ?_⟩
  by_cases q : l.take j = []
  · rw [q]; simp [sumS]
  · have := h3 q
    have : endF (-1) (l.take j) ≤ 1099511627776 := this
    omega
theorem canon_bd : ∀ {b : Int} {l : List Sp}, -1 ≤ b → CanF b l → ∀ i (h : i < l.length), 0 ≤ l[i].1 ∧ l[i].1 < l[i].2 ∧ l[i].2 ≤ 1099511627776
  | b, s :: r, hb, h, 0, _ => ⟨by have := h.1; show 0 ≤ s.1; omega, h.2.1, h.2.2.1⟩
  | b, s :: r, hb, h, i + 1, hi => canon_bd (by have := h.1; have := h.2.1; omega) h.2.2.2 i (by simpa using hi)

/-- what a call tells: spans that can be read, in new memory -/
def GivesS (f : Nat) (xs : Array Value) (w : World) (ps : List Sp) : Prop :=
  Calls Try.prog f xs w fun e w' => ∃ A n c, e = .returned (.slice A n c) ∧ RdS w' w'.heap.size A n ps ∧ n ≤ 9223372036854775807 ∧ Below w.heap.size w w'
theorem drewN_add (w : World) (a b : Nat) : w.drewN (a + b) = (w.drewN a).drewN b := by
  simp [World.drewN, Nat.add_assoc]

end Go.Proofs.Ytaobdebeglenaaa
