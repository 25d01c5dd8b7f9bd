/- Contracts of the leaves of package wire: fitWidth, largest, extend, putNum, number. Contracts of package wire: number, Num, Blob, Nums (the writers). Contract of package wire: Nums (a list of numbers is encoded). -/
import Derived.Test.YtmigapjkicddiaaDoorRows
import Derived.Test.YtmigapjkicddiaaDoorMa
import Derived.WalkLawsBesides
import Derived.Deep.DeepCutAuto

namespace Go.Proofs.YtmigapjkicddiaaDoor
open Go.RowKit

set_option maxRecDepth 10000 in
theorem Tryd.infoB : (Tryd.prog.info? 5).map (fun i => (i.zero, i.size, i.bytes)) = some (some (.int .u8 0), 1, 1) := by kernel_rfl
set_option maxRecDepth 10000 in
theorem Tryd.sizeB : (Tryd.prog.info? 5).map (·.size) = some 1 := by kernel_rfl

end Go.Proofs.YtmigapjkicddiaaDoor

namespace Go.Proofs.YtmigapjkicddiaaDoor
open Go.RowKit

set_option maxRecDepth 10000 in
/-- the call returns a slice of new memory that reads as l; of what was there nothing has changed -/
def Out (w : World) (l : List UInt8) (e : Ending) (w' : World) : Prop :=
  ∃ A c, e = .returned (.slice A l.length c) ∧ l.length ≤ c ∧ c ≤ maxLen ∧ w'.ownsRow w.heap.size 5 1 (.slice A l.length c) l.length (l.map bv) ∧ Below w.heap.size w w'
set_option maxRecDepth 10000 in
theorem Out.mk {w : World} {l : List UInt8} {v : Value} {w' : World} {n : Nat} (h : w'.ownsRow w.heap.size 5 1 v n (l.map bv)) (hb : Below w.heap.size w w') : Out w l (.returned v) w' := by
  have hn : n = l.length := by have := h.1; simp at this; omega
  subst hn
  obtain ⟨A, c, rfl, h1, h2⟩ := ownsRow_form h
  exact ⟨A, c, rfl, h1, h2, h, hb⟩

/-- the bytes that Num appends -/
def numB (width x : Int) : List UInt8 := encB (fitW width) (clampN (fitW width) x)
theorem numB_length (width x : Int) : (numB width x).length = fitW width := encB_length _ _

/-- the bytes that Blob appends -/
def blobB (x : List UInt8) : List UInt8 := encB 2 (min x.length 65535) ++ x.take 65535

end Go.Proofs.YtmigapjkicddiaaDoor

namespace Go.Proofs.YtmigapjkicddiaaDoor
open Go.RowKit

/-- an int of Go's -/
def I64 (z : Int) : Prop := -9223372036854775808 ≤ z ∧ z ≤ 9223372036854775807

/-- the bytes that Nums appends -/
def numsB (width : Int) (zs : List Int) : List UInt8 := encB 1 (min zs.length 255) ++ (zs.take 255).flatMap (numB width)

theorem flat_take_succ (width : Int) (ys : List Int) (j : Nat) (h : j < ys.length) : (ys.take (j + 1)).flatMap (numB width) = (ys.take j).flatMap (numB width) ++ numB width ys[j] := by
  rw [List.take_succ_eq_append_getElem h, List.flatMap_append]; simp

end Go.Proofs.YtmigapjkicddiaaDoor
