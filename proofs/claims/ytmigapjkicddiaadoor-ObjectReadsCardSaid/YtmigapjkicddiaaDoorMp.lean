/- The frame of a proof of a law of layer 8: the listed variable holds the handle of the type error when the call begins; a witness. Layer 8: contracts in one form for the laws: what is called with a law's objects. -/
import Derived.Test.YtmigapjkicddiaaDoorMu
import Derived.Test.YtmigapjkicddiaaDoorMt
import Derived.LaidMore
import Derived.LaidHandle
import Derived.Stop.LaidErr
import Derived.MakeChecks
import Derived.Test.YtmigapjkicddiaaDoorMj
import Derived.Test.YtmigapjkicddiaaDoorMf
import Derived.Test.YtmigapjkicddiaaDoorMg
import Derived.Deep.RegionHeld3
import Derived.Test.YtmigapjkicddiaaDoorMw

namespace Go.Proofs.YtmigapjkicddiaaDoor
open Go.ChangeShapes Go.WideShapes Go.ChangeAt Go.RowKit Go.Joins

/-- what the rows list -/
abbrev theLaid : List (String × DataW Unit) := [("errors.errorType", Rows.laid_errors_errorType)]
set_option maxRecDepth 10000 in
theorem gEt : Tryd.prog.globalNamed "errors.errorType" = some 0 := by kernel_rfl
set_option maxRecDepth 10000 in
theorem rtEt : (Tryd.prog.cutTypes.find? (·.1 == "internal/reflectlite.rtype")).map (·.2) = some 101 := by kernel_rfl
set_option maxRecDepth 10000 in
theorem oneEt : ((List.range Tryd.prog.types.size).filter fun t => Tryd.prog.rowNamed t [101, 114, 114, 111, 114]) = [60] := by kernel_rfl
set_option maxRecDepth 10000 in
/-- from the row's condition to the walk's fact -/
theorem Et.of_laid {W : World} (h : laidMetH Tryd.prog theLaid W) : Et W := by
  have h' : laidMet Tryd.prog [] W ∧ handlesMet Tryd.prog theLaid W := h
  obtain ⟨name, u, ty, e1, e2, e3, e4, e5⟩ := h'.2 _ (List.mem_singleton.2 rfl)
  have en : name = [101, 114, 114, 111, 114] := (Option.some.inj e1).symm
  subst en
  obtain rfl := Option.some.inj (rtEt.symm.trans e2)
  have hm : ty ∈ (List.range Tryd.prog.types.size).filter fun t => Tryd.prog.rowNamed t [101, 114, 114, 111, 114] := List.mem_filter.2 ⟨List.mem_range.2 e3, e4⟩
  rw [oneEt] at hm
  obtain rfl := List.mem_singleton.1 hm
  have hh : typeHandle Tryd.prog 60 = .pointer (some ⟨1, 60, none⟩) := by kernel_rfl
  rw [hh] at e5
  show W.cell? _ = _
  simpa using World.var?_cell gEt e5 0
set_option maxRecDepth 10000 in
/-- The door's own heap meets the condition. -/
theorem door_met (os : Os) (args : Array Value) : laidMetH Tryd.prog theLaid ((World.doorLaid Tryd.prog 400 os).forCall (fun _ _ => 0) ⟨#[], args, []⟩).memory :=
  laidMetH_of_parts ⟨[], rfl, List.nodup_nil, fun _ _ h => by cases h⟩ (by kernel_rfl)
end Go.Proofs.YtmigapjkicddiaaDoor

namespace Go.Proofs.YtmigapjkicddiaaDoor
open Go.RowKit

/-- bytes are told -/
def StrP (w : World) (l : List UInt8) (e : Ending) (w' : World) : Prop := ∃ A n c, e = .returned (.slice A n c) ∧ Hid (Rd w' w'.heap.size A n l) ∧ Hid (Below w.heap.size w w')
theorem TellB.str {w w' : World} {l : List UInt8} {e : Ending} (h : TellB w l e w') : StrP w l e w' := by
  obtain ⟨v, rfl, ⟨A, n, c, rfl, h1, _⟩, hb⟩ := h
  exact ⟨A, n, c, rfl, h1, hb⟩
theorem AtP.str {w w' : World} {B : Nat} {l : List UInt8} {e : Ending} (h : AtP w B l e w') (hB : B ≤ w.heap.size) : StrP w l e w' := by
  obtain ⟨v, rfl, ⟨A, n, c, rfl, h1, _⟩, hb⟩ := h
  exact ⟨A, n, c, rfl, (h1.below (hb.mono hB)).more (Nat.le_trans hB hb.size), hb⟩
/-- bytes and a flag are told -/
def OptP (w : World) (o : Option (List UInt8)) (e : Ending) (w' : World) : Prop := ∃ A n c, e = .returned (.tuple #[.slice A n c, .bool o.isSome]) ∧ Hid (Rd w' w'.heap.size A n (o.getD [])) ∧ Hid (Below w.heap.size w w')
theorem GetQ.opt {w w' : World} {o : Option (List UInt8)} {e : Ending} (h : GetQ w o e w') : OptP w o e w' := by
  obtain ⟨v, rfl, ⟨A, n, c, rfl, h1, _⟩, hb⟩ := h
  exact ⟨A, n, c, rfl, h1, hb⟩
theorem GetP.opt {w w' : World} {B : Nat} {o : Option (List UInt8)} {e : Ending} (h : GetP w B o e w') (hB : B ≤ w.heap.size) : OptP w o e w' := by
  obtain ⟨v, rfl, ⟨A, n, c, rfl, h1, _⟩, hb⟩ := h
  exact ⟨A, n, c, rfl, (h1.below (hb.mono hB)).more (Nat.le_trans hB hb.size), hb⟩
/-- what few says -/
theorem few_len {d : List UInt8} {ks : List Ky} {s : Int} (h : fewO ⟨d, ks, s⟩ = true) : d.length ≤ 200 ∧ ks.length ≤ 200 ∧ ∀ k ∈ ks, k.val.length ≤ 3000 ∧ k.name.length ≤ 100 := by
  unfold fewO at h
  simp only [Bool.and_eq_true, decide_eq_true_eq, List.all_eq_true] at h
  exact ⟨h.1, h.2.1, h.2.2⟩
theorem tmod_128 (z : Int) : -128 < z.tmod 128 ∧ z.tmod 128 < 128 := by
  have h1 := Int.tmod_lt_of_pos z (show (0 : Int) < 128 by decide)
  have h2 := Int.tmod_lt_of_pos (-z) (show (0 : Int) < 128 by decide)
  rw [Int.neg_tmod] at h2
  omega

end Go.Proofs.YtmigapjkicddiaaDoor
