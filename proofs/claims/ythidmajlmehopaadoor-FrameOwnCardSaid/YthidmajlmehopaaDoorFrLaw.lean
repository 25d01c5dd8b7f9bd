/- The frame of a proof of a law of layer 2: the listed table lies in memory when the call begins; a witness. -/
import Derived.Test.YthidmajlmehopaaDoorLaw
import Derived.Test.YthidmajlmehopaaDoorFrH
import Derived.LaidMore
import Derived.Lib.LaidTab
import Derived.LaidHandle
import Derived.MakeChecks
namespace Go.Proofs.YthidmajlmehopaaDoor
open Go.ChangeShapes Go.WideShapes Go.ChangeAt Go.RowKit Go.Joins

/-- what the rows list -/
abbrev theLaid : List (String × DataW Unit) := [("terrazzo/frame.halves", Rows.laid_terrazzo_frame_halves)]
theorem gHalves : Tryd.prog.globalNamed "terrazzo/frame.halves" = some 0 := by kernel_rfl
theorem tHalves : (Tryd.prog.globals[0]?).map (·.type) = some 47 := by kernel_rfl
theorem laid_tab : (Rows.laid_terrazzo_frame_halves : DataW Unit) = Lib.tabData .u32 (halvesL.map fun n : Nat => (n : Int)) := by kernel_rfl

/-- from the row's condition to the walk's fact -/
theorem Tb.of_laid {W : World} (h : laidMetH Tryd.prog theLaid W) : Tb W := by
  rw [MakeChecks.laidMetH_plain _ _ _ (by kernel_rfl)] at h
  have h2 : laidMet Tryd.prog (("terrazzo/frame.halves", Lib.tabData .u32 (halvesL.map fun n : Nat => (n : Int))) :: []) W := by
    rw [← laid_tab]; exact h
  have hT := Lib.tabIs_of_head gHalves tHalves Tryd.underlying47 Tryd.underlying27 (by kernel_rfl) (by kernel_rfl) h2
  intro i hi
  have hl : i < (halvesL.map fun n : Nat => (n : Int)).length := by simpa [halvesL] using hi
  have hc := hT.cell gHalves i hl
  have e : (halvesL.map fun n : Nat => (n : Int)).getD i 0 = ((halvesL.getD i 0 : Nat) : Int) := by
    have h3 : i < halvesL.length := by simpa using hl
    rw [List.getD_eq_getElem?_getD, List.getD_eq_getElem?_getD, List.getElem?_map, List.getElem?_eq_getElem h3]
    rfl
  rw [e] at hc
  exact hc

/-- The door's own heap meets the condition. -/
theorem door_met (os : Os) (args : Array Value) : laidMetH Tryd.prog theLaid ((World.doorLaid Tryd.prog 400 os).forCall (fun _ _ => 0) ⟨#[], args, []⟩).memory :=
  laidMetH_of_parts3 (fuel := 8) (laidMet_of_run' 8 (by kernel_rfl) (by kernel_rfl)) (by kernel_rfl) (by kernel_rfl)

theorem ar_bytes' {H : Type} {enc : TypeId × Value → H} {w : World} {spare : Nat → Bool} {held : Bool} {base b0 : Nat} {r : Reach} {v : Value} {d : DataW H} {ps : List MemPlace}
    (k : Value.okWide Tryd.prog w r b0 22 v) (h : DataW.Trod enc Tryd.prog w base spare held 22 v d ps) :
    ∃ A n c l, v = .slice A n c ∧ Rd w w.heap.size A n l ∧ (A = none → c = 0) ∧ n ≤ c ∧ c ≤ 9223372036854775807 := by
  obtain ⟨a, n, c, rfl⟩ := okWide_slice Tryd.underlying22 k
  obtain ⟨fuel, hf⟩ := h
  obtain ⟨A, n', c', l, hcs, h1, h2, h3⟩ := op_bytes Tryd.underlying22 Tryd.underlying5 (by kernel_rfl) hf
  simp [Value.cells] at hcs
  obtain ⟨rfl, rfl, rfl⟩ := hcs
  refine ⟨_, _, _, l, rfl, h1, ?_, h2, h3⟩
  rintro rfl
  rcases open_ints Tryd.underlying22 Tryd.underlying5 (by kernel_rfl) hf with ⟨hcs, _⟩ | ⟨a, len, cap, zs, hcs, _⟩
  · simp [Value.cells] at hcs; exact hcs.2
  · simp [Value.cells] at hcs
end Go.Proofs.YthidmajlmehopaaDoor
