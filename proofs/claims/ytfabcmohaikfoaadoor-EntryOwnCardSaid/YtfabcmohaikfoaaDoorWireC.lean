/- Contract of package wire: Nums (a list of numbers is encoded). -/
import Derived.Test.YtfabcmohaikfoaaDoorWireB
namespace Go.Proofs.YtfabcmohaikfoaaDoor
open Go.RowKit

/-- an int of Go's -/
def I64 (z : Int) : Prop := -9223372036854775808 ≤ z ∧ z ≤ 9223372036854775807

/-- the bytes that Nums appends -/
def numsB (width : Int) (zs : List Int) : List UInt8 := encB 1 (min zs.length 255) ++ (zs.take 255).flatMap (numB width)

theorem flat_take_succ (width : Int) (ys : List Int) (j : Nat) (h : j < ys.length) : (ys.take (j + 1)).flatMap (numB width) = (ys.take j).flatMap (numB width) ++ numB width ys[j] := by
  rw [List.take_succ_eq_append_getElem h, List.flatMap_append]; simp

end Go.Proofs.YtfabcmohaikfoaaDoor
