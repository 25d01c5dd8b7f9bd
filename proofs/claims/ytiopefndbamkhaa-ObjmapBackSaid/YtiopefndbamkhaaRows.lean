/-
  No cell of these rows narrows 'for every input' (looked for: loops, veiled, ifaces, maps, wideKeys, modest, calm, conditions, laid).
  DERIVED. THE GIVEN ROWS OF THIS SEAT. 7 by the template 'for every input the law returns true; each argument reads behind the call as it read before'; 0 by the template 'total and deterministic' (their statements: YtiopefndbamkhaaTotals.lean).
  GIVEN WITH THE SEED: the statements are not yours to turn. If you find one false, say at which input.
  Laid BY PROGRAM, IN A SANDBOX (cutbox-rows.mjs): the forced cells as the released guide's own fill.sh prints them over the translation 7f315047a0b82816… (all of the seat's roots in one cut). By AI agents, Wed Nov 11 2026. No macro, syntax, notation, axiom, sorry.
-/
import Derived.Test.YtiopefndbamkhaaChecked
import GoSem.Claim
import GoSem.ClaimJoined
import GoSem.ClaimMapViews
import Derived.JoinedTies
import Derived.KernelRfl
namespace Go.Proofs.Ytiopefndbamkhaa
/- THE CELL 'sum', in the pinned program and in every row, IS THE sha256 OF THE DUMP (.gsa) THAT YtiopefndbamkhaaProg.lean LOADS. Nothing in Lean hashes anything: it is a label: what it is worth is what the hold of that sum in a sandbox is worth. -/
noncomputable def Try.pinned : Pinned := { name := "ytiopefndbamkhaa", sum := "7f315047a0b82816a73780c14ffdf43b31fe6cb4250b4efec454119a286feb4f", checked := Try.checked }
namespace Rows
def none {H : Type} : Left H := { results := [], args := [] }

/-- 'terrazzolaw05.ObjmapTells': WHATEVER THE INPUT: true; the input reads as it did. -/
def objmapTellsSpec : ChangeSpec := { name := "objmapTells", fn := fun _ => fun
  | [d1, d2, d3] => { results := [.lit (.bool true)], args := [d1, d2, d3] }
  | _ => none }
def objmapTellsRow : OpenClaim := { program := "ytiopefndbamkhaa", sum := "7f315047a0b82816a73780c14ffdf43b31fe6cb4250b4efec454119a286feb4f", func := "terrazzo/terrazzolaw05.ObjmapTells", spec := "objmapTells", unfollowed := true, recurses := true, apart := false }
def ObjmapTellsSaid : Prop := objmapTellsRow.holds Try.pinned (OpenSpec.ofChange objmapTellsSpec)

/-- ITS FALSE NEIGHBOUR: 'it returns false'. Refute it at one input. -/
def objmapTellsWrong : ChangeSpec := { name := "objmapTells", fn := fun _ => fun
  | [d1, d2, d3] => { results := [.lit (.bool false)], args := [d1, d2, d3] }
  | _ => none }
def ObjmapTellsWrongFalsely : Prop := objmapTellsRow.holds Try.pinned (OpenSpec.ofChange objmapTellsWrong)

/-- 'terrazzolaw05.ObjmapMerges': WHATEVER THE INPUT: true; the input reads as it did. -/
def objmapMergesSpec : ChangeSpec := { name := "objmapMerges", fn := fun _ => fun
  | [d1, d2] => { results := [.lit (.bool true)], args := [d1, d2] }
  | _ => none }
def objmapMergesRow : OpenClaim := { program := "ytiopefndbamkhaa", sum := "7f315047a0b82816a73780c14ffdf43b31fe6cb4250b4efec454119a286feb4f", func := "terrazzo/terrazzolaw05.ObjmapMerges", spec := "objmapMerges", unfollowed := true, recurses := true, apart := false }
def ObjmapMergesSaid : Prop := objmapMergesRow.holds Try.pinned (OpenSpec.ofChange objmapMergesSpec)

/-- ITS FALSE NEIGHBOUR: 'it returns false'. Refute it at one input. -/
def objmapMergesWrong : ChangeSpec := { name := "objmapMerges", fn := fun _ => fun
  | [d1, d2] => { results := [.lit (.bool false)], args := [d1, d2] }
  | _ => none }
def ObjmapMergesWrongFalsely : Prop := objmapMergesRow.holds Try.pinned (OpenSpec.ofChange objmapMergesWrong)

/-- 'terrazzolaw05.ObjmapChanges': WHATEVER THE INPUT: true; the input reads as it did. -/
def objmapChangesSpec : ChangeSpec := { name := "objmapChanges", fn := fun _ => fun
  | [d1, d2] => { results := [.lit (.bool true)], args := [d1, d2] }
  | _ => none }
def objmapChangesRow : OpenClaim := { program := "ytiopefndbamkhaa", sum := "7f315047a0b82816a73780c14ffdf43b31fe6cb4250b4efec454119a286feb4f", func := "terrazzo/terrazzolaw05.ObjmapChanges", spec := "objmapChanges", unfollowed := true, recurses := true, apart := false }
def ObjmapChangesSaid : Prop := objmapChangesRow.holds Try.pinned (OpenSpec.ofChange objmapChangesSpec)

/-- ITS FALSE NEIGHBOUR: 'it returns false'. Refute it at one input. -/
def objmapChangesWrong : ChangeSpec := { name := "objmapChanges", fn := fun _ => fun
  | [d1, d2] => { results := [.lit (.bool false)], args := [d1, d2] }
  | _ => none }
def ObjmapChangesWrongFalsely : Prop := objmapChangesRow.holds Try.pinned (OpenSpec.ofChange objmapChangesWrong)

/-- 'terrazzolaw05.ObjmapPacks': WHATEVER THE INPUT: true; the input reads as it did. -/
def objmapPacksSpec : ChangeSpec := { name := "objmapPacks", fn := fun _ => fun
  | [d1, d2] => { results := [.lit (.bool true)], args := [d1, d2] }
  | _ => none }
def objmapPacksRow : OpenClaim := { program := "ytiopefndbamkhaa", sum := "7f315047a0b82816a73780c14ffdf43b31fe6cb4250b4efec454119a286feb4f", func := "terrazzo/terrazzolaw05.ObjmapPacks", spec := "objmapPacks", unfollowed := true, recurses := true, apart := false }
def ObjmapPacksSaid : Prop := objmapPacksRow.holds Try.pinned (OpenSpec.ofChange objmapPacksSpec)

/-- ITS FALSE NEIGHBOUR: 'it returns false'. Refute it at one input. -/
def objmapPacksWrong : ChangeSpec := { name := "objmapPacks", fn := fun _ => fun
  | [d1, d2] => { results := [.lit (.bool false)], args := [d1, d2] }
  | _ => none }
def ObjmapPacksWrongFalsely : Prop := objmapPacksRow.holds Try.pinned (OpenSpec.ofChange objmapPacksWrong)

/-- 'terrazzolaw05.ObjmapBack': WHATEVER THE INPUT: true; the input reads as it did. -/
def objmapBackSpec : ChangeSpec := { name := "objmapBack", fn := fun _ => fun
  | [d1, d2] => { results := [.lit (.bool true)], args := [d1, d2] }
  | _ => none }
def objmapBackRow : OpenClaim := { program := "ytiopefndbamkhaa", sum := "7f315047a0b82816a73780c14ffdf43b31fe6cb4250b4efec454119a286feb4f", func := "terrazzo/terrazzolaw05.ObjmapBack", spec := "objmapBack", unfollowed := true, recurses := true, apart := false }
def ObjmapBackSaid : Prop := objmapBackRow.holds Try.pinned (OpenSpec.ofChange objmapBackSpec)

/-- ITS FALSE NEIGHBOUR: 'it returns false'. Refute it at one input. -/
def objmapBackWrong : ChangeSpec := { name := "objmapBack", fn := fun _ => fun
  | [d1, d2] => { results := [.lit (.bool false)], args := [d1, d2] }
  | _ => none }
def ObjmapBackWrongFalsely : Prop := objmapBackRow.holds Try.pinned (OpenSpec.ofChange objmapBackWrong)

/-- 'terrazzolaw05.ObjmapThrough': WHATEVER THE INPUT: true; the input reads as it did. -/
def objmapThroughSpec : ChangeSpec := { name := "objmapThrough", fn := fun _ => fun
  | [d1, d2, d3] => { results := [.lit (.bool true)], args := [d1, d2, d3] }
  | _ => none }
def objmapThroughRow : OpenClaim := { program := "ytiopefndbamkhaa", sum := "7f315047a0b82816a73780c14ffdf43b31fe6cb4250b4efec454119a286feb4f", func := "terrazzo/terrazzolaw05.ObjmapThrough", spec := "objmapThrough", unfollowed := true, recurses := true, apart := false }
def ObjmapThroughSaid : Prop := objmapThroughRow.holds Try.pinned (OpenSpec.ofChange objmapThroughSpec)

/-- ITS FALSE NEIGHBOUR: 'it returns false'. Refute it at one input. -/
def objmapThroughWrong : ChangeSpec := { name := "objmapThrough", fn := fun _ => fun
  | [d1, d2, d3] => { results := [.lit (.bool false)], args := [d1, d2, d3] }
  | _ => none }
def ObjmapThroughWrongFalsely : Prop := objmapThroughRow.holds Try.pinned (OpenSpec.ofChange objmapThroughWrong)

/-- 'terrazzolaw05.ObjmapFresh': WHATEVER THE INPUT: true; the input reads as it did. -/
def objmapFreshSpec : ChangeSpec := { name := "objmapFresh", fn := fun _ => fun
  | [d1, d2] => { results := [.lit (.bool true)], args := [d1, d2] }
  | _ => none }
def objmapFreshRow : OpenClaim := { program := "ytiopefndbamkhaa", sum := "7f315047a0b82816a73780c14ffdf43b31fe6cb4250b4efec454119a286feb4f", func := "terrazzo/terrazzolaw05.ObjmapFresh", spec := "objmapFresh", unfollowed := true, recurses := true, apart := false }
def ObjmapFreshSaid : Prop := objmapFreshRow.holds Try.pinned (OpenSpec.ofChange objmapFreshSpec)

/-- ITS FALSE NEIGHBOUR: 'it returns false'. Refute it at one input. -/
def objmapFreshWrong : ChangeSpec := { name := "objmapFresh", fn := fun _ => fun
  | [d1, d2] => { results := [.lit (.bool false)], args := [d1, d2] }
  | _ => none }
def ObjmapFreshWrongFalsely : Prop := objmapFreshRow.holds Try.pinned (OpenSpec.ofChange objmapFreshWrong)

/- THE SECOND FORM. 'bulk': how many values and letters a reading holds, each counted each time it is reached (what is shared counts as often as it is met; a slice's spare places count too). A statement '..UptoSaid' is the law's where the arguments, and the package variables that the reading takes, are together of bulk at most 1048576: NARROWER than '..Said'. Prove '..Said' where nothing that the law and all that it calls make is longer than what came in: it says more and counts as full. Else prove '..UptoSaid'. A law counts once. -/
mutual
def uptoBulk {H : Type} : DataW H → Nat
  | .lit (.string bytes) => bytes.length + 1
  | .lit _ => 1
  | .nil => 1
  | .ptr d => uptoBulk d + 1
  | .slice elems spare => uptoBulkAll elems + uptoBulkAll spare + 1
  | .agg parts => uptoBulkAll parts + 1
  | .iface _ d => uptoBulk d + 1
  | .map entries => uptoBulkEntries entries + 1
  | .held _ => 1
def uptoBulkAll {H : Type} : List (DataW H) → Nat
  | [] => 0
  | d :: r => uptoBulk d + uptoBulkAll r
def uptoBulkEntries {H : Type} : List (Lit × DataW H) → Nat
  | [] => 0
  | x :: r => uptoBulkEntry x + uptoBulkEntries r
def uptoBulkEntry {H : Type} : Lit × DataW H → Nat
  | (.string bytes, d) => bytes.length + uptoBulk d + 1
  | (_, d) => uptoBulk d + 1
 end
def uptoSmall : (H : Type) → List (DataW H) → Bool := fun _ ds => decide (uptoBulkAll ds ≤ 1048576)
def OpenSpec.upto (s : _root_.Go.ChangeSpec) : _root_.Go.OpenSpec := { _root_.Go.OpenSpec.ofChange s with cond := some uptoSmall }

/-- 'terrazzolaw05.ObjmapTells', WHERE WHAT IT READS IS OF BULK AT MOST 1048576: true; the input reads as it did. -/
def objmapTellsUptoRow : OpenClaim := { program := "ytiopefndbamkhaa", sum := "7f315047a0b82816a73780c14ffdf43b31fe6cb4250b4efec454119a286feb4f", func := "terrazzo/terrazzolaw05.ObjmapTells", spec := "objmapTells", unfollowed := true, recurses := true, apart := false, narrowed := true }
def ObjmapTellsUptoSaid : Prop := objmapTellsUptoRow.holds Try.pinned (OpenSpec.upto objmapTellsSpec)

/-- 'terrazzolaw05.ObjmapMerges', WHERE WHAT IT READS IS OF BULK AT MOST 1048576: true; the input reads as it did. -/
def objmapMergesUptoRow : OpenClaim := { program := "ytiopefndbamkhaa", sum := "7f315047a0b82816a73780c14ffdf43b31fe6cb4250b4efec454119a286feb4f", func := "terrazzo/terrazzolaw05.ObjmapMerges", spec := "objmapMerges", unfollowed := true, recurses := true, apart := false, narrowed := true }
def ObjmapMergesUptoSaid : Prop := objmapMergesUptoRow.holds Try.pinned (OpenSpec.upto objmapMergesSpec)

/-- 'terrazzolaw05.ObjmapChanges', WHERE WHAT IT READS IS OF BULK AT MOST 1048576: true; the input reads as it did. -/
def objmapChangesUptoRow : OpenClaim := { program := "ytiopefndbamkhaa", sum := "7f315047a0b82816a73780c14ffdf43b31fe6cb4250b4efec454119a286feb4f", func := "terrazzo/terrazzolaw05.ObjmapChanges", spec := "objmapChanges", unfollowed := true, recurses := true, apart := false, narrowed := true }
def ObjmapChangesUptoSaid : Prop := objmapChangesUptoRow.holds Try.pinned (OpenSpec.upto objmapChangesSpec)

/-- 'terrazzolaw05.ObjmapPacks', WHERE WHAT IT READS IS OF BULK AT MOST 1048576: true; the input reads as it did. -/
def objmapPacksUptoRow : OpenClaim := { program := "ytiopefndbamkhaa", sum := "7f315047a0b82816a73780c14ffdf43b31fe6cb4250b4efec454119a286feb4f", func := "terrazzo/terrazzolaw05.ObjmapPacks", spec := "objmapPacks", unfollowed := true, recurses := true, apart := false, narrowed := true }
def ObjmapPacksUptoSaid : Prop := objmapPacksUptoRow.holds Try.pinned (OpenSpec.upto objmapPacksSpec)

/-- 'terrazzolaw05.ObjmapBack', WHERE WHAT IT READS IS OF BULK AT MOST 1048576: true; the input reads as it did. -/
def objmapBackUptoRow : OpenClaim := { program := "ytiopefndbamkhaa", sum := "7f315047a0b82816a73780c14ffdf43b31fe6cb4250b4efec454119a286feb4f", func := "terrazzo/terrazzolaw05.ObjmapBack", spec := "objmapBack", unfollowed := true, recurses := true, apart := false, narrowed := true }
def ObjmapBackUptoSaid : Prop := objmapBackUptoRow.holds Try.pinned (OpenSpec.upto objmapBackSpec)

/-- 'terrazzolaw05.ObjmapThrough', WHERE WHAT IT READS IS OF BULK AT MOST 1048576: true; the input reads as it did. -/
def objmapThroughUptoRow : OpenClaim := { program := "ytiopefndbamkhaa", sum := "7f315047a0b82816a73780c14ffdf43b31fe6cb4250b4efec454119a286feb4f", func := "terrazzo/terrazzolaw05.ObjmapThrough", spec := "objmapThrough", unfollowed := true, recurses := true, apart := false, narrowed := true }
def ObjmapThroughUptoSaid : Prop := objmapThroughUptoRow.holds Try.pinned (OpenSpec.upto objmapThroughSpec)

/-- 'terrazzolaw05.ObjmapFresh', WHERE WHAT IT READS IS OF BULK AT MOST 1048576: true; the input reads as it did. -/
def objmapFreshUptoRow : OpenClaim := { program := "ytiopefndbamkhaa", sum := "7f315047a0b82816a73780c14ffdf43b31fe6cb4250b4efec454119a286feb4f", func := "terrazzo/terrazzolaw05.ObjmapFresh", spec := "objmapFresh", unfollowed := true, recurses := true, apart := false, narrowed := true }
def ObjmapFreshUptoSaid : Prop := objmapFreshUptoRow.holds Try.pinned (OpenSpec.upto objmapFreshSpec)

end Rows
end Go.Proofs.Ytiopefndbamkhaa
