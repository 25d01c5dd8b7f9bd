/- The frame of a proof of a law of layer 7: the listed tables lie in memory when the call begins; a witness; how an entry is opened; the examples. -/
import Derived.Test.YtfabcmohaikfoaaDoorEnJ
import Derived.Test.YtfabcmohaikfoaaDoorEnK
import Derived.LaidMore
import Derived.Lib.LaidTab
import Derived.LaidHandle
import Derived.Stop.LaidErr
import Derived.MakeChecks
namespace Go.Proofs.YtfabcmohaikfoaaDoor
open Go.ChangeShapes Go.WideShapes Go.ChangeAt Go.RowKit Go.Joins

/-- what the rows list -/
abbrev theLaid : List (String × DataW Unit) := [("math/bits.deBruijn32tab", Rows.laid_math_bits_deBruijn32tab), ("math/bits.deBruijn64tab", Rows.laid_math_bits_deBruijn64tab), ("internal/strconv.uint64pow10", Rows.laid_internal_strconv_uint64pow10), ("terrazzo/frame.halves", Rows.laid_terrazzo_frame_halves), ("terrazzo/entry.named", Rows.laid_terrazzo_entry_named)]
set_option maxRecDepth 10000 in
theorem gHalves : Tryd.prog.globalNamed "terrazzo/frame.halves" = some 1 := by kernel_rfl
set_option maxRecDepth 10000 in
theorem tHalves : (Tryd.prog.globals[1]?).map (·.type) = some 77 := by kernel_rfl
set_option maxRecDepth 10000 in
theorem gNamed : Tryd.prog.globalNamed "terrazzo/entry.named" = some 0 := by kernel_rfl
set_option maxRecDepth 10000 in
theorem tNamed : (Tryd.prog.globals[0]?).map (·.type) = some 58 := by kernel_rfl
set_option maxRecDepth 10000 in
theorem gPow : Tryd.prog.globalNamed "internal/strconv.uint64pow10" = some 2 := by kernel_rfl
set_option maxRecDepth 10000 in
theorem tPow : (Tryd.prog.globals[2]?).map (·.type) = some 85 := by kernel_rfl
theorem laid_halves : (Rows.laid_terrazzo_frame_halves : DataW Unit) = Lib.tabData .u32 (halvesL.map fun n : Nat => (n : Int)) := by kernel_rfl
theorem laid_named : (Rows.laid_terrazzo_entry_named : DataW Unit) = Lib.tabData .u8 (namedL.map fun n : Nat => (n : Int)) := by kernel_rfl
theorem laid_pow : (Rows.laid_internal_strconv_uint64pow10 : DataW Unit) = Lib.tabData .u64 Lib.pow10Tab := by kernel_rfl

set_option maxRecDepth 10000 in
/-- from the row's condition to the walk's fact -/
theorem T7.of_laid {W : World} (h : laidMetH Tryd.prog theLaid W) : T7 W := by
  rw [MakeChecks.laidMetH_plain _ _ _ (by kernel_rfl)] at h
  have h3 := h.tail.tail
  have h4 := h3.tail
  have h5 := h4.tail
  rw [laid_pow] at h3
  rw [laid_halves] at h4
  rw [laid_named] at h5
  have hP := Lib.tabIs_of_head gPow tPow Tryd.underlying85 Tryd.underlying79 (by kernel_rfl) (by kernel_rfl) h3
  have hT := Lib.tabIs_of_head gHalves tHalves Tryd.underlying77 Tryd.underlying72 (by kernel_rfl) (by kernel_rfl) h4
  have hN := Lib.tabIs_of_head gNamed tNamed Tryd.underlying58 Tryd.underlying5 (by kernel_rfl) (by kernel_rfl) h5
  have key : ∀ (l : List Nat) (i : Nat), i < l.length → (l.map fun n : Nat => (n : Int)).getD i 0 = ((l.getD i 0 : Nat) : Int) := fun l i hi => by
    rw [List.getD_eq_getElem?_getD, List.getD_eq_getElem?_getD, List.getElem?_map, List.getElem?_eq_getElem hi]
    rfl
  refine ⟨fun i hi => ?_, fun i hi => ?_, hP⟩
  · have hc := hT.cell gHalves i (by simpa [halvesL] using hi)
    rw [key halvesL i (by simpa [halvesL] using hi)] at hc
    exact hc
  · have hc := hN.cell gNamed i (by simpa [namedL] using hi)
    rw [key namedL i (by simpa [namedL] using hi)] at hc
    exact hc

set_option maxRecDepth 10000 in
/-- The door's own heap meets the condition. -/
theorem door_met (os : Os) (args : Array Value) : laidMetH Tryd.prog theLaid ((World.doorLaid Tryd.prog 800 os).forCall (fun _ _ => 0) ⟨#[], args, []⟩).memory :=
  laidMetH_of_parts3 (fuel := 8) (laidMet_of_run' 8 (by kernel_rfl) (by kernel_rfl)) (by kernel_rfl) (by kernel_rfl)

section
variable {H : Type} {enc : TypeId × Value → H} {w : World} {base : Nat} {spare : Nat → Bool} {held : Bool}
set_option maxRecDepth 10000 in
theorem ar_entry {b0 : Nat} {r : Reach} {v : Value} {d : DataW H} {ps : List MemPlace} (k : Value.okWide Tryd.prog w r b0 24 v) (h : DataW.Trod enc Tryd.prog w base spare held 24 v d ps) :
    ∃ S O K F L P A n c l, v = eV S O K F L P A n c ∧ Rd w w.heap.size A n l ∧ n ≤ c ∧ c ≤ 9223372036854775807 := by
  obtain ⟨cs, rfl, hsz⟩ := okWide_struct Tryd.underlying24 k
  obtain ⟨fuel, h⟩ := h
  have hC : Tryd.prog.cellsOf 24 = 7 := by kernel_rfl
  rw [hC] at hsz
  obtain ⟨l⟩ := cs
  match l, hsz with
  | [v0, v1, v2, v3, v4, v5, v6], _ =>
    obtain ⟨ys, n', _, _, hcl, hyl, hf⟩ := DataW.trod_struct Tryd.underlying24 h
    match ys, hyl with
    | [y0, y1, y2, y3, y4, y5, y6], _ =>
      obtain ⟨z0, e0, _⟩ := op_int Tryd.underlying3 (show DataW.trod enc Tryd.prog w base spare held n' 3 [v0] = some y0 from hf 0 _ rfl)
      obtain ⟨z1, e1, _⟩ := op_int Tryd.underlying3 (show DataW.trod enc Tryd.prog w base spare held n' 3 [v1] = some y1 from hf 1 _ rfl)
      obtain ⟨z2, e2, _⟩ := op_int Tryd.underlying3 (show DataW.trod enc Tryd.prog w base spare held n' 3 [v2] = some y2 from hf 2 _ rfl)
      obtain ⟨z3, e3, _⟩ := op_int Tryd.underlying3 (show DataW.trod enc Tryd.prog w base spare held n' 3 [v3] = some y3 from hf 3 _ rfl)
      obtain ⟨z4, e4, _⟩ := op_int Tryd.underlying3 (show DataW.trod enc Tryd.prog w base spare held n' 3 [v4] = some y4 from hf 4 _ rfl)
      obtain ⟨z5, e5, _⟩ := op_int Tryd.underlying3 (show DataW.trod enc Tryd.prog w base spare held n' 3 [v5] = some y5 from hf 5 _ rfl)
      obtain ⟨A, n, c, l, e6, k1, k2, k3⟩ := op_bytes Tryd.underlying22 Tryd.underlying5 (by kernel_rfl) (show DataW.trod enc Tryd.prog w base spare held n' 22 [v6] = some y6 from hf 6 _ rfl)
      cases e0; cases e1; cases e2; cases e3; cases e4; cases e5; cases e6
      exact ⟨z0, z1, z2, z3, z4, z5, A, n, c, l, rfl, k1, k2, k3⟩
end
end Go.Proofs.YtfabcmohaikfoaaDoor
