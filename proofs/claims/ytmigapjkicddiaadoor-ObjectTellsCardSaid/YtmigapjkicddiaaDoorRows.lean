/-
  NARROWER THAN 'FOR EVERY INPUT', by the rows' own cells (each row's printed sentence says how): ObjectTells: laid · ObjectSame: laid · ObjectDoes: laid · ObjectStays: laid · ObjectReads: laid · ObjectClones: laid.
  DERIVED. THE GIVEN ROWS OF THIS SEAT. 6 by the template 'for every input the law returns true; each argument reads behind the call as it read before'; 0 by the template 'total and deterministic' (their statements: YtmigapjkicddiaaDoorTotals.lean).
  GIVEN WITH THE SEED: the statements are not yours to turn. If you find one false, say at which input.
  Laid BY PROGRAM, IN A SANDBOX (cutbox-rows.mjs): the forced cells as the released guide's own fill.sh prints them over the translation 5f327b8a946f2599… (all of the seat's roots in one cut). By AI agents, Wed Nov 11 2026. No macro, syntax, notation, axiom, sorry.
-/
import Derived.Test.YtmigapjkicddiaaDoorChecked
import GoSem.Claim
import GoSem.ClaimJoined
import GoSem.ClaimMapViews
import Derived.JoinedTies
import Derived.KernelRfl
namespace Go.Proofs.YtmigapjkicddiaaDoor
/- THE CELL 'sum', in the pinned program and in every row, IS THE sha256 OF THE DUMP (.gsa) THAT YtmigapjkicddiaaDoorProg.lean LOADS. Nothing in Lean hashes anything: it is a label: what it is worth is what the hold of that sum in a sandbox is worth. -/
noncomputable def Tryd.pinned : Pinned := { name := "ytmigapjkicddiaadoor", sum := "5f327b8a946f25993364c555374c51d06e548c96fdfabbd23fbd49f1877b6ce4", checked := Tryd.checked }
namespace Rows
def none {H : Type} : Left H := { results := [], args := [] }

/- WHAT THE LISTED PACKAGE-LEVEL VARIABLES READ AS WHEN THE CALL BEGINS. Each datum BY PROGRAM (the guide's laid-datum.mjs) off the statement by which the dump's own 'gosem.cut.vars' lays the variable. In a bare row this is a premise. The card (YtmigapjkicddiaaDoorCards.lean) ties it to the program's text. -/
def laid_errors_errorType {H : Type} : DataW H := .iface "internal/reflectlite.rtype" (.agg [.ptr (.lit (.string [101, 114, 114, 111, 114]))])

/-- 'terrazzolaw08.ObjectTells': WHATEVER THE INPUT: true; the input reads as it did. -/
def objectTellsSpec : ChangeSpec := { name := "objectTells", fn := fun _ => fun
  | [d1, d2, d3] => { results := [.lit (.bool true)], args := [d1, d2, d3] }
  | _ => none }
def objectTellsRow : OpenClaim := { program := "ytmigapjkicddiaadoor", sum := "5f327b8a946f25993364c555374c51d06e548c96fdfabbd23fbd49f1877b6ce4", func := "terrazzo/terrazzolaw08.ObjectTells", spec := "objectTells", inPlace := ["slices.overlaps[terrazzo/api.Key]", "internal/reflectlite.ValueOf", "(internal/reflectlite.Value).Type", "(internal/reflectlite.Value).IsNil", "internal/reflectlite.TypeOf", "(internal/reflectlite.Value).Elem", "(internal/reflectlite.Value).Set"], unfollowed := true, recurses := true, named := ["errors.errorType"], apart := false, laid := [("errors.errorType", laid_errors_errorType)] }
def ObjectTellsSaid : Prop := objectTellsRow.holds Tryd.pinned (OpenSpec.ofChange objectTellsSpec)

/-- ITS FALSE NEIGHBOUR: 'it returns false'. Refute it at one input. -/
def objectTellsWrong : ChangeSpec := { name := "objectTells", fn := fun _ => fun
  | [d1, d2, d3] => { results := [.lit (.bool false)], args := [d1, d2, d3] }
  | _ => none }
def ObjectTellsWrongFalsely : Prop := objectTellsRow.holds Tryd.pinned (OpenSpec.ofChange objectTellsWrong)

/-- 'terrazzolaw08.ObjectSame': WHATEVER THE INPUT: true; the input reads as it did. -/
def objectSameSpec : ChangeSpec := { name := "objectSame", fn := fun _ => fun
  | [d1, d2] => { results := [.lit (.bool true)], args := [d1, d2] }
  | _ => none }
def objectSameRow : OpenClaim := { program := "ytmigapjkicddiaadoor", sum := "5f327b8a946f25993364c555374c51d06e548c96fdfabbd23fbd49f1877b6ce4", func := "terrazzo/terrazzolaw08.ObjectSame", spec := "objectSame", inPlace := ["slices.overlaps[terrazzo/api.Key]", "internal/reflectlite.ValueOf", "(internal/reflectlite.Value).Type", "(internal/reflectlite.Value).IsNil", "internal/reflectlite.TypeOf", "(internal/reflectlite.Value).Elem", "(internal/reflectlite.Value).Set"], unfollowed := true, recurses := true, named := ["errors.errorType"], apart := false, laid := [("errors.errorType", laid_errors_errorType)] }
def ObjectSameSaid : Prop := objectSameRow.holds Tryd.pinned (OpenSpec.ofChange objectSameSpec)

/-- ITS FALSE NEIGHBOUR: 'it returns false'. Refute it at one input. -/
def objectSameWrong : ChangeSpec := { name := "objectSame", fn := fun _ => fun
  | [d1, d2] => { results := [.lit (.bool false)], args := [d1, d2] }
  | _ => none }
def ObjectSameWrongFalsely : Prop := objectSameRow.holds Tryd.pinned (OpenSpec.ofChange objectSameWrong)

/-- 'terrazzolaw08.ObjectDoes': WHATEVER THE INPUT: true; the input reads as it did. -/
def objectDoesSpec : ChangeSpec := { name := "objectDoes", fn := fun _ => fun
  | [d1, d2, d3] => { results := [.lit (.bool true)], args := [d1, d2, d3] }
  | _ => none }
def objectDoesRow : OpenClaim := { program := "ytmigapjkicddiaadoor", sum := "5f327b8a946f25993364c555374c51d06e548c96fdfabbd23fbd49f1877b6ce4", func := "terrazzo/terrazzolaw08.ObjectDoes", spec := "objectDoes", inPlace := ["slices.overlaps[terrazzo/api.Key]", "internal/reflectlite.ValueOf", "(internal/reflectlite.Value).Type", "(internal/reflectlite.Value).IsNil", "internal/reflectlite.TypeOf", "(internal/reflectlite.Value).Elem", "(internal/reflectlite.Value).Set"], unfollowed := true, recurses := true, named := ["errors.errorType"], apart := false, laid := [("errors.errorType", laid_errors_errorType)] }
def ObjectDoesSaid : Prop := objectDoesRow.holds Tryd.pinned (OpenSpec.ofChange objectDoesSpec)

/-- ITS FALSE NEIGHBOUR: 'it returns false'. Refute it at one input. -/
def objectDoesWrong : ChangeSpec := { name := "objectDoes", fn := fun _ => fun
  | [d1, d2, d3] => { results := [.lit (.bool false)], args := [d1, d2, d3] }
  | _ => none }
def ObjectDoesWrongFalsely : Prop := objectDoesRow.holds Tryd.pinned (OpenSpec.ofChange objectDoesWrong)

/-- 'terrazzolaw08.ObjectStays': WHATEVER THE INPUT: true; the input reads as it did. -/
def objectStaysSpec : ChangeSpec := { name := "objectStays", fn := fun _ => fun
  | [d1, d2] => { results := [.lit (.bool true)], args := [d1, d2] }
  | _ => none }
def objectStaysRow : OpenClaim := { program := "ytmigapjkicddiaadoor", sum := "5f327b8a946f25993364c555374c51d06e548c96fdfabbd23fbd49f1877b6ce4", func := "terrazzo/terrazzolaw08.ObjectStays", spec := "objectStays", inPlace := ["slices.overlaps[terrazzo/api.Key]", "internal/reflectlite.ValueOf", "(internal/reflectlite.Value).Type", "(internal/reflectlite.Value).IsNil", "internal/reflectlite.TypeOf", "(internal/reflectlite.Value).Elem", "(internal/reflectlite.Value).Set"], unfollowed := true, recurses := true, named := ["errors.errorType"], apart := false, laid := [("errors.errorType", laid_errors_errorType)] }
def ObjectStaysSaid : Prop := objectStaysRow.holds Tryd.pinned (OpenSpec.ofChange objectStaysSpec)

/-- ITS FALSE NEIGHBOUR: 'it returns false'. Refute it at one input. -/
def objectStaysWrong : ChangeSpec := { name := "objectStays", fn := fun _ => fun
  | [d1, d2] => { results := [.lit (.bool false)], args := [d1, d2] }
  | _ => none }
def ObjectStaysWrongFalsely : Prop := objectStaysRow.holds Tryd.pinned (OpenSpec.ofChange objectStaysWrong)

/-- 'terrazzolaw08.ObjectReads': WHATEVER THE INPUT: true; the input reads as it did. -/
def objectReadsSpec : ChangeSpec := { name := "objectReads", fn := fun _ => fun
  | [d1, d2, d3] => { results := [.lit (.bool true)], args := [d1, d2, d3] }
  | _ => none }
def objectReadsRow : OpenClaim := { program := "ytmigapjkicddiaadoor", sum := "5f327b8a946f25993364c555374c51d06e548c96fdfabbd23fbd49f1877b6ce4", func := "terrazzo/terrazzolaw08.ObjectReads", spec := "objectReads", inPlace := ["slices.overlaps[terrazzo/api.Key]", "internal/reflectlite.ValueOf", "(internal/reflectlite.Value).Type", "(internal/reflectlite.Value).IsNil", "internal/reflectlite.TypeOf", "(internal/reflectlite.Value).Elem", "(internal/reflectlite.Value).Set"], unfollowed := true, recurses := true, named := ["errors.errorType"], apart := false, laid := [("errors.errorType", laid_errors_errorType)] }
def ObjectReadsSaid : Prop := objectReadsRow.holds Tryd.pinned (OpenSpec.ofChange objectReadsSpec)

/-- ITS FALSE NEIGHBOUR: 'it returns false'. Refute it at one input. -/
def objectReadsWrong : ChangeSpec := { name := "objectReads", fn := fun _ => fun
  | [d1, d2, d3] => { results := [.lit (.bool false)], args := [d1, d2, d3] }
  | _ => none }
def ObjectReadsWrongFalsely : Prop := objectReadsRow.holds Tryd.pinned (OpenSpec.ofChange objectReadsWrong)

/-- 'terrazzolaw08.ObjectClones': WHATEVER THE INPUT: true; the input reads as it did. -/
def objectClonesSpec : ChangeSpec := { name := "objectClones", fn := fun _ => fun
  | [d1, d2, d3] => { results := [.lit (.bool true)], args := [d1, d2, d3] }
  | _ => none }
def objectClonesRow : OpenClaim := { program := "ytmigapjkicddiaadoor", sum := "5f327b8a946f25993364c555374c51d06e548c96fdfabbd23fbd49f1877b6ce4", func := "terrazzo/terrazzolaw08.ObjectClones", spec := "objectClones", inPlace := ["slices.overlaps[terrazzo/api.Key]", "internal/reflectlite.ValueOf", "(internal/reflectlite.Value).Type", "(internal/reflectlite.Value).IsNil", "internal/reflectlite.TypeOf", "(internal/reflectlite.Value).Elem", "(internal/reflectlite.Value).Set"], unfollowed := true, recurses := true, named := ["errors.errorType"], apart := false, laid := [("errors.errorType", laid_errors_errorType)] }
def ObjectClonesSaid : Prop := objectClonesRow.holds Tryd.pinned (OpenSpec.ofChange objectClonesSpec)

/-- ITS FALSE NEIGHBOUR: 'it returns false'. Refute it at one input. -/
def objectClonesWrong : ChangeSpec := { name := "objectClones", fn := fun _ => fun
  | [d1, d2, d3] => { results := [.lit (.bool false)], args := [d1, d2, d3] }
  | _ => none }
def ObjectClonesWrongFalsely : Prop := objectClonesRow.holds Tryd.pinned (OpenSpec.ofChange objectClonesWrong)

/- THE SECOND FORM. 'bulk': how many values and letters a reading holds, each counted each time it is reached (what is shared counts as often as it is met; a slice's spare places count too). A statement '..UptoSaid' is the law's where the arguments, and the package variables that the reading takes, are together of bulk at most 1048576: NARROWER than '..Said'. Prove '..Said' where nothing that the law and all that it calls make is longer than what came in: it says more and counts as full. Else prove '..UptoSaid'. A law counts once. -/
mutual
def uptoBulk {H : Type} : DataW H → Nat
  | .lit (.string bytes) => bytes.length + 1
  | .lit _ => 1
  | .nil => 1
  | .ptr d => uptoBulk d + 1
  | .slice elems spare => uptoBulkAll elems + uptoBulkAll spare + 1
  | .agg parts => uptoBulkAll parts + 1
  | .iface _ d => uptoBulk d + 1
  | .map entries => uptoBulkEntries entries + 1
  | .held _ => 1
def uptoBulkAll {H : Type} : List (DataW H) → Nat
  | [] => 0
  | d :: r => uptoBulk d + uptoBulkAll r
def uptoBulkEntries {H : Type} : List (Lit × DataW H) → Nat
  | [] => 0
  | x :: r => uptoBulkEntry x + uptoBulkEntries r
def uptoBulkEntry {H : Type} : Lit × DataW H → Nat
  | (.string bytes, d) => bytes.length + uptoBulk d + 1
  | (_, d) => uptoBulk d + 1
 end
def uptoSmall : (H : Type) → List (DataW H) → Bool := fun _ ds => decide (uptoBulkAll ds ≤ 1048576)
def OpenSpec.upto (s : _root_.Go.ChangeSpec) : _root_.Go.OpenSpec := { _root_.Go.OpenSpec.ofChange s with cond := some uptoSmall }

/-- 'terrazzolaw08.ObjectTells', WHERE WHAT IT READS IS OF BULK AT MOST 1048576: true; the input reads as it did. -/
def objectTellsUptoRow : OpenClaim := { program := "ytmigapjkicddiaadoor", sum := "5f327b8a946f25993364c555374c51d06e548c96fdfabbd23fbd49f1877b6ce4", func := "terrazzo/terrazzolaw08.ObjectTells", spec := "objectTells", inPlace := ["slices.overlaps[terrazzo/api.Key]", "internal/reflectlite.ValueOf", "(internal/reflectlite.Value).Type", "(internal/reflectlite.Value).IsNil", "internal/reflectlite.TypeOf", "(internal/reflectlite.Value).Elem", "(internal/reflectlite.Value).Set"], unfollowed := true, recurses := true, named := ["errors.errorType"], apart := false, laid := [("errors.errorType", laid_errors_errorType)], narrowed := true }
def ObjectTellsUptoSaid : Prop := objectTellsUptoRow.holds Tryd.pinned (OpenSpec.upto objectTellsSpec)

/-- 'terrazzolaw08.ObjectSame', WHERE WHAT IT READS IS OF BULK AT MOST 1048576: true; the input reads as it did. -/
def objectSameUptoRow : OpenClaim := { program := "ytmigapjkicddiaadoor", sum := "5f327b8a946f25993364c555374c51d06e548c96fdfabbd23fbd49f1877b6ce4", func := "terrazzo/terrazzolaw08.ObjectSame", spec := "objectSame", inPlace := ["slices.overlaps[terrazzo/api.Key]", "internal/reflectlite.ValueOf", "(internal/reflectlite.Value).Type", "(internal/reflectlite.Value).IsNil", "internal/reflectlite.TypeOf", "(internal/reflectlite.Value).Elem", "(internal/reflectlite.Value).Set"], unfollowed := true, recurses := true, named := ["errors.errorType"], apart := false, laid := [("errors.errorType", laid_errors_errorType)], narrowed := true }
def ObjectSameUptoSaid : Prop := objectSameUptoRow.holds Tryd.pinned (OpenSpec.upto objectSameSpec)

/-- 'terrazzolaw08.ObjectDoes', WHERE WHAT IT READS IS OF BULK AT MOST 1048576: true; the input reads as it did. -/
def objectDoesUptoRow : OpenClaim := { program := "ytmigapjkicddiaadoor", sum := "5f327b8a946f25993364c555374c51d06e548c96fdfabbd23fbd49f1877b6ce4", func := "terrazzo/terrazzolaw08.ObjectDoes", spec := "objectDoes", inPlace := ["slices.overlaps[terrazzo/api.Key]", "internal/reflectlite.ValueOf", "(internal/reflectlite.Value).Type", "(internal/reflectlite.Value).IsNil", "internal/reflectlite.TypeOf", "(internal/reflectlite.Value).Elem", "(internal/reflectlite.Value).Set"], unfollowed := true, recurses := true, named := ["errors.errorType"], apart := false, laid := [("errors.errorType", laid_errors_errorType)], narrowed := true }
def ObjectDoesUptoSaid : Prop := objectDoesUptoRow.holds Tryd.pinned (OpenSpec.upto objectDoesSpec)

/-- 'terrazzolaw08.ObjectStays', WHERE WHAT IT READS IS OF BULK AT MOST 1048576: true; the input reads as it did. -/
def objectStaysUptoRow : OpenClaim := { program := "ytmigapjkicddiaadoor", sum := "5f327b8a946f25993364c555374c51d06e548c96fdfabbd23fbd49f1877b6ce4", func := "terrazzo/terrazzolaw08.ObjectStays", spec := "objectStays", inPlace := ["slices.overlaps[terrazzo/api.Key]", "internal/reflectlite.ValueOf", "(internal/reflectlite.Value).Type", "(internal/reflectlite.Value).IsNil", "internal/reflectlite.TypeOf", "(internal/reflectlite.Value).Elem", "(internal/reflectlite.Value).Set"], unfollowed := true, recurses := true, named := ["errors.errorType"], apart := false, laid := [("errors.errorType", laid_errors_errorType)], narrowed := true }
def ObjectStaysUptoSaid : Prop := objectStaysUptoRow.holds Tryd.pinned (OpenSpec.upto objectStaysSpec)

/-- 'terrazzolaw08.ObjectReads', WHERE WHAT IT READS IS OF BULK AT MOST 1048576: true; the input reads as it did. -/
def objectReadsUptoRow : OpenClaim := { program := "ytmigapjkicddiaadoor", sum := "5f327b8a946f25993364c555374c51d06e548c96fdfabbd23fbd49f1877b6ce4", func := "terrazzo/terrazzolaw08.ObjectReads", spec := "objectReads", inPlace := ["slices.overlaps[terrazzo/api.Key]", "internal/reflectlite.ValueOf", "(internal/reflectlite.Value).Type", "(internal/reflectlite.Value).IsNil", "internal/reflectlite.TypeOf", "(internal/reflectlite.Value).Elem", "(internal/reflectlite.Value).Set"], unfollowed := true, recurses := true, named := ["errors.errorType"], apart := false, laid := [("errors.errorType", laid_errors_errorType)], narrowed := true }
def ObjectReadsUptoSaid : Prop := objectReadsUptoRow.holds Tryd.pinned (OpenSpec.upto objectReadsSpec)

/-- 'terrazzolaw08.ObjectClones', WHERE WHAT IT READS IS OF BULK AT MOST 1048576: true; the input reads as it did. -/
def objectClonesUptoRow : OpenClaim := { program := "ytmigapjkicddiaadoor", sum := "5f327b8a946f25993364c555374c51d06e548c96fdfabbd23fbd49f1877b6ce4", func := "terrazzo/terrazzolaw08.ObjectClones", spec := "objectClones", inPlace := ["slices.overlaps[terrazzo/api.Key]", "internal/reflectlite.ValueOf", "(internal/reflectlite.Value).Type", "(internal/reflectlite.Value).IsNil", "internal/reflectlite.TypeOf", "(internal/reflectlite.Value).Elem", "(internal/reflectlite.Value).Set"], unfollowed := true, recurses := true, named := ["errors.errorType"], apart := false, laid := [("errors.errorType", laid_errors_errorType)], narrowed := true }
def ObjectClonesUptoSaid : Prop := objectClonesUptoRow.holds Tryd.pinned (OpenSpec.upto objectClonesSpec)

end Rows
end Go.Proofs.YtmigapjkicddiaaDoor
