/- Contracts of package wire: Reader.Nums. -/
import Derived.Test.YtfabcmohaikfoaaDoorWireG
namespace Go.Proofs.YtfabcmohaikfoaaDoor
open Go.RowKit

/-- the numbers that lie one behind the other in bytes, f bytes each -/
def chunks (f D : Nat) (b : List UInt8) : List Int := (List.range D).map fun i => (decB ((b.drop (i * f)).take f) : Int)
theorem chunks_length (f D : Nat) (b : List UInt8) : (chunks f D b).length = D := by simp [chunks]
theorem chunks_succ (f D : Nat) (b : List UInt8) : chunks f (D + 1) b = chunks f D b ++ [(decB ((b.drop (D * f)).take f) : Int)] := by simp [chunks, List.range_succ]

/-- what Nums of a reader gives: the numbers, what is left, the error -/
def rdNums (l : List UInt8) (e width most : Int) : List Int × List UInt8 × Int :=
  if e ≠ 0 then ([], l, e) else if cntE l 1 (fitW width) most ≠ 0 then ([], l, cntE l 1 (fitW width) most)
  else (chunks (fitW width) (decB (l.take 1)) (l.drop 1), l.drop (1 + decB (l.take 1) * fitW width), 0)

/-- a slice of ints in new memory, beside a reader -/
def OutIW (w : World) (g : Nat) (l : List Int) (e : Ending) (w' : World) : Prop :=
  ∃ A c, e = .returned (.slice A l.length c) ∧ l.length ≤ c ∧ c ≤ maxLen ∧ RdI w' w'.heap.size A l.length l ∧ w.grownBy w' (some g)
theorem OutIW.nil {w w' : World} {g : Nat} (h : w.grownBy w' (some g)) : OutIW w g [] (.returned (.slice none 0 0)) w' := ⟨none, 0, rfl, Nat.le_refl _, by simp [maxLen], RdI.nil, h⟩

set_option maxRecDepth 10000 in
theorem Tryd.infoIW : (Tryd.prog.info? 3).map (fun i => (i.zero, i.size, i.bytes)) = some (some (.int .i64 0), 1, 8) := by kernel_rfl

end Go.Proofs.YtfabcmohaikfoaaDoor
