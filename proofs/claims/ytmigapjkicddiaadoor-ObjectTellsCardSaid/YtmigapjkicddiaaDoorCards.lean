/-
  DERIVED. GIVEN WITH THE SEED: THE CARDS: each row of YtmigapjkicddiaaDoorRows.lean that lists a variable, with what it lists TIED to the program's text (the seventh form; the later family's looks); each row that meets fmt, with fmt's text TOLD by the authors' own Lean function (tested against real Go, not proved from fmt's source: count such statements apart). THE CARD IS WHAT COUNTS. Prove the row's statement (the work); the ties are given (YtmigapjkicddiaaDoorTie.lean); close each card by the builder's one call (the guide's Derived/Test/ToyasCard.lean, 'card_holds'). Laid BY PROGRAM, IN A SANDBOX (cutbox-door.mjs). By AI agents, Wed Nov 11 2026. No macro, syntax, notation, axiom, sorry.
-/
import Derived.Test.YtmigapjkicddiaaDoorRows
import GoSem.ClaimSeven
namespace Go.Proofs.YtmigapjkicddiaaDoor
namespace Rows

/-- THE TIED CARD OF 'terrazzolaw08.ObjectTells'. -/
def objectTellsCard : Claim7 := { stood := { row := objectTellsRow, standIns := [], harness := (true, "82f50f9119af0a84cee324c4791e9be534a62bc4f3e5da1288fa3aff40d56d8a"), looks := true }, kinds := [], alts := [], laidByText := true, laidKinds := [.handle], laidTests := true, laidLooks := .later }
def ObjectTellsCardSaid : Prop := Claim7.holds Tryd.pinned (.plain (OpenSpec.ofChange objectTellsSpec)) objectTellsCard

/-- THE TIED CARD OF 'terrazzolaw08.ObjectSame'. -/
def objectSameCard : Claim7 := { stood := { row := objectSameRow, standIns := [], harness := (true, "82f50f9119af0a84cee324c4791e9be534a62bc4f3e5da1288fa3aff40d56d8a"), looks := true }, kinds := [], alts := [], laidByText := true, laidKinds := [.handle], laidTests := true, laidLooks := .later }
def ObjectSameCardSaid : Prop := Claim7.holds Tryd.pinned (.plain (OpenSpec.ofChange objectSameSpec)) objectSameCard

/-- THE TIED CARD OF 'terrazzolaw08.ObjectDoes'. -/
def objectDoesCard : Claim7 := { stood := { row := objectDoesRow, standIns := [], harness := (true, "82f50f9119af0a84cee324c4791e9be534a62bc4f3e5da1288fa3aff40d56d8a"), looks := true }, kinds := [], alts := [], laidByText := true, laidKinds := [.handle], laidTests := true, laidLooks := .later }
def ObjectDoesCardSaid : Prop := Claim7.holds Tryd.pinned (.plain (OpenSpec.ofChange objectDoesSpec)) objectDoesCard

/-- THE TIED CARD OF 'terrazzolaw08.ObjectStays'. -/
def objectStaysCard : Claim7 := { stood := { row := objectStaysRow, standIns := [], harness := (true, "82f50f9119af0a84cee324c4791e9be534a62bc4f3e5da1288fa3aff40d56d8a"), looks := true }, kinds := [], alts := [], laidByText := true, laidKinds := [.handle], laidTests := true, laidLooks := .later }
def ObjectStaysCardSaid : Prop := Claim7.holds Tryd.pinned (.plain (OpenSpec.ofChange objectStaysSpec)) objectStaysCard

/-- THE TIED CARD OF 'terrazzolaw08.ObjectReads'. -/
def objectReadsCard : Claim7 := { stood := { row := objectReadsRow, standIns := [], harness := (true, "82f50f9119af0a84cee324c4791e9be534a62bc4f3e5da1288fa3aff40d56d8a"), looks := true }, kinds := [], alts := [], laidByText := true, laidKinds := [.handle], laidTests := true, laidLooks := .later }
def ObjectReadsCardSaid : Prop := Claim7.holds Tryd.pinned (.plain (OpenSpec.ofChange objectReadsSpec)) objectReadsCard

/-- THE TIED CARD OF 'terrazzolaw08.ObjectClones'. -/
def objectClonesCard : Claim7 := { stood := { row := objectClonesRow, standIns := [], harness := (true, "82f50f9119af0a84cee324c4791e9be534a62bc4f3e5da1288fa3aff40d56d8a"), looks := true }, kinds := [], alts := [], laidByText := true, laidKinds := [.handle], laidTests := true, laidLooks := .later }
def ObjectClonesCardSaid : Prop := Claim7.holds Tryd.pinned (.plain (OpenSpec.ofChange objectClonesSpec)) objectClonesCard

/-- THE SECOND FORM's CARD OF 'terrazzolaw08.ObjectTells'. -/
def objectTellsUptoCard : Claim7 := { stood := { row := objectTellsUptoRow, standIns := [], harness := (true, "82f50f9119af0a84cee324c4791e9be534a62bc4f3e5da1288fa3aff40d56d8a"), looks := true }, kinds := [], alts := [], laidByText := true, laidKinds := [.handle], laidTests := true, laidLooks := .later }
def ObjectTellsUptoCardSaid : Prop := Claim7.holds Tryd.pinned (.plain (OpenSpec.upto objectTellsSpec)) objectTellsUptoCard

/-- THE SECOND FORM's CARD OF 'terrazzolaw08.ObjectSame'. -/
def objectSameUptoCard : Claim7 := { stood := { row := objectSameUptoRow, standIns := [], harness := (true, "82f50f9119af0a84cee324c4791e9be534a62bc4f3e5da1288fa3aff40d56d8a"), looks := true }, kinds := [], alts := [], laidByText := true, laidKinds := [.handle], laidTests := true, laidLooks := .later }
def ObjectSameUptoCardSaid : Prop := Claim7.holds Tryd.pinned (.plain (OpenSpec.upto objectSameSpec)) objectSameUptoCard

/-- THE SECOND FORM's CARD OF 'terrazzolaw08.ObjectDoes'. -/
def objectDoesUptoCard : Claim7 := { stood := { row := objectDoesUptoRow, standIns := [], harness := (true, "82f50f9119af0a84cee324c4791e9be534a62bc4f3e5da1288fa3aff40d56d8a"), looks := true }, kinds := [], alts := [], laidByText := true, laidKinds := [.handle], laidTests := true, laidLooks := .later }
def ObjectDoesUptoCardSaid : Prop := Claim7.holds Tryd.pinned (.plain (OpenSpec.upto objectDoesSpec)) objectDoesUptoCard

/-- THE SECOND FORM's CARD OF 'terrazzolaw08.ObjectStays'. -/
def objectStaysUptoCard : Claim7 := { stood := { row := objectStaysUptoRow, standIns := [], harness := (true, "82f50f9119af0a84cee324c4791e9be534a62bc4f3e5da1288fa3aff40d56d8a"), looks := true }, kinds := [], alts := [], laidByText := true, laidKinds := [.handle], laidTests := true, laidLooks := .later }
def ObjectStaysUptoCardSaid : Prop := Claim7.holds Tryd.pinned (.plain (OpenSpec.upto objectStaysSpec)) objectStaysUptoCard

/-- THE SECOND FORM's CARD OF 'terrazzolaw08.ObjectReads'. -/
def objectReadsUptoCard : Claim7 := { stood := { row := objectReadsUptoRow, standIns := [], harness := (true, "82f50f9119af0a84cee324c4791e9be534a62bc4f3e5da1288fa3aff40d56d8a"), looks := true }, kinds := [], alts := [], laidByText := true, laidKinds := [.handle], laidTests := true, laidLooks := .later }
def ObjectReadsUptoCardSaid : Prop := Claim7.holds Tryd.pinned (.plain (OpenSpec.upto objectReadsSpec)) objectReadsUptoCard

/-- THE SECOND FORM's CARD OF 'terrazzolaw08.ObjectClones'. -/
def objectClonesUptoCard : Claim7 := { stood := { row := objectClonesUptoRow, standIns := [], harness := (true, "82f50f9119af0a84cee324c4791e9be534a62bc4f3e5da1288fa3aff40d56d8a"), looks := true }, kinds := [], alts := [], laidByText := true, laidKinds := [.handle], laidTests := true, laidLooks := .later }
def ObjectClonesUptoCardSaid : Prop := Claim7.holds Tryd.pinned (.plain (OpenSpec.upto objectClonesSpec)) objectClonesUptoCard
end Rows
end Go.Proofs.YtmigapjkicddiaaDoor
