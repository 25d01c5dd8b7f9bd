/- Contracts of package wire: number, Num, Blob, Nums (the writers). -/
import Derived.Test.YtiopefndbamkhaaWireA
namespace Go.Proofs.Ytiopefndbamkhaa
open Go.RowKit

/-- the call returns a slice of new memory that reads as l; of what was there nothing has changed -/
def Out (w : World) (l : List UInt8) (e : Ending) (w' : World) : Prop :=
  ∃ A c, e = .returned (.slice A l.length c) ∧ l.length ≤ c ∧ c ≤ maxLen ∧ w'.ownsRow w.heap.size 5 1 (.slice A l.length c) l.length (l.map bv) ∧ Below w.heap.size w w'
theorem Out.mk {w : World} {l : List UInt8} {v : Value} {w' : World} {n : Nat} (h : w'.ownsRow w.heap.size 5 1 v n (l.map bv)) (hb : Below w.heap.size w w') : Out w l (.returned v) w' := by
  have hn : n = l.length := by have := h.1; simp at this; omega
  subst hn
  obtain ⟨A, c, rfl, h1, h2⟩ := ownsRow_form h
  exact ⟨A, c, rfl, h1, h2, h, hb⟩

/-- the bytes that Num appends -/
def numB (width x : Int) : List UInt8 := encB (fitW width) (clampN (fitW width) x)
theorem numB_length (width x : Int) : (numB width x).length = fitW width := encB_length _ _

/-- the bytes that Blob appends -/
def blobB (x : List UInt8) : List UInt8 := encB 2 (min x.length 65535) ++ x.take 65535

end Go.Proofs.Ytiopefndbamkhaa
