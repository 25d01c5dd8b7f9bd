/-
  No cell of these rows narrows 'for every input' (looked for: loops, veiled, ifaces, maps, wideKeys, modest, calm, conditions, laid).
  DERIVED. THE GIVEN ROWS OF THIS SEAT. 6 by the template 'for every input the law returns true; each argument reads behind the call as it read before'; 0 by the template 'total and deterministic' (their statements: YtbkdlpmaikilnaaTotals.lean).
  GIVEN WITH THE SEED: the statements are not yours to turn. If you find one false, say at which input.
  Laid BY PROGRAM, IN A SANDBOX (cutbox-rows.mjs): the forced cells as the released guide's own fill.sh prints them over the translation 48cb8e6d69e95c05… (all of the seat's roots in one cut). By AI agents, Wed Nov 11 2026. No macro, syntax, notation, axiom, sorry.
-/
import Derived.Test.YtbkdlpmaikilnaaChecked
import GoSem.Claim
import GoSem.ClaimJoined
import GoSem.ClaimMapViews
import Derived.JoinedTies
import Derived.KernelRfl
namespace Go.Proofs.Ytbkdlpmaikilnaa
/- THE CELL 'sum', in the pinned program and in every row, IS THE sha256 OF THE DUMP (.gsa) THAT YtbkdlpmaikilnaaProg.lean LOADS. Nothing in Lean hashes anything: it is a label: what it is worth is what the hold of that sum in a sandbox is worth. -/
noncomputable def Try.pinned : Pinned := { name := "ytbkdlpmaikilnaa", sum := "48cb8e6d69e95c0570a80604db2e99356d09ac7eee40e6187eb8a494a1f4abcb", checked := Try.checked }
namespace Rows
def none {H : Type} : Left H := { results := [], args := [] }

/-- 'terrazzolaw03.StripePlaces': WHATEVER THE INPUT: true; the input reads as it did. -/
def stripePlacesSpec : ChangeSpec := { name := "stripePlaces", fn := fun _ => fun
  | [d1, d2, d3] => { results := [.lit (.bool true)], args := [d1, d2, d3] }
  | _ => none }
def stripePlacesRow : OpenClaim := { program := "ytbkdlpmaikilnaa", sum := "48cb8e6d69e95c0570a80604db2e99356d09ac7eee40e6187eb8a494a1f4abcb", func := "terrazzo/terrazzolaw03.StripePlaces", spec := "stripePlaces", unfollowed := true, recurses := true, apart := false }
def StripePlacesSaid : Prop := stripePlacesRow.holds Try.pinned (OpenSpec.ofChange stripePlacesSpec)

/-- ITS FALSE NEIGHBOUR: 'it returns false'. Refute it at one input. -/
def stripePlacesWrong : ChangeSpec := { name := "stripePlaces", fn := fun _ => fun
  | [d1, d2, d3] => { results := [.lit (.bool false)], args := [d1, d2, d3] }
  | _ => none }
def StripePlacesWrongFalsely : Prop := stripePlacesRow.holds Try.pinned (OpenSpec.ofChange stripePlacesWrong)

/-- 'terrazzolaw03.StripePieces': WHATEVER THE INPUT: true; the input reads as it did. -/
def stripePiecesSpec : ChangeSpec := { name := "stripePieces", fn := fun _ => fun
  | [d1, d2, d3] => { results := [.lit (.bool true)], args := [d1, d2, d3] }
  | _ => none }
def stripePiecesRow : OpenClaim := { program := "ytbkdlpmaikilnaa", sum := "48cb8e6d69e95c0570a80604db2e99356d09ac7eee40e6187eb8a494a1f4abcb", func := "terrazzo/terrazzolaw03.StripePieces", spec := "stripePieces", unfollowed := true, recurses := true, apart := false }
def StripePiecesSaid : Prop := stripePiecesRow.holds Try.pinned (OpenSpec.ofChange stripePiecesSpec)

/-- ITS FALSE NEIGHBOUR: 'it returns false'. Refute it at one input. -/
def stripePiecesWrong : ChangeSpec := { name := "stripePieces", fn := fun _ => fun
  | [d1, d2, d3] => { results := [.lit (.bool false)], args := [d1, d2, d3] }
  | _ => none }
def StripePiecesWrongFalsely : Prop := stripePiecesRow.holds Try.pinned (OpenSpec.ofChange stripePiecesWrong)

/-- 'terrazzolaw03.StripeRooms': WHATEVER THE INPUT: true; the input reads as it did. -/
def stripeRoomsSpec : ChangeSpec := { name := "stripeRooms", fn := fun _ => fun
  | [d1, d2, d3] => { results := [.lit (.bool true)], args := [d1, d2, d3] }
  | _ => none }
def stripeRoomsRow : OpenClaim := { program := "ytbkdlpmaikilnaa", sum := "48cb8e6d69e95c0570a80604db2e99356d09ac7eee40e6187eb8a494a1f4abcb", func := "terrazzo/terrazzolaw03.StripeRooms", spec := "stripeRooms", unfollowed := true, recurses := true, apart := false }
def StripeRoomsSaid : Prop := stripeRoomsRow.holds Try.pinned (OpenSpec.ofChange stripeRoomsSpec)

/-- ITS FALSE NEIGHBOUR: 'it returns false'. Refute it at one input. -/
def stripeRoomsWrong : ChangeSpec := { name := "stripeRooms", fn := fun _ => fun
  | [d1, d2, d3] => { results := [.lit (.bool false)], args := [d1, d2, d3] }
  | _ => none }
def StripeRoomsWrongFalsely : Prop := stripeRoomsRow.holds Try.pinned (OpenSpec.ofChange stripeRoomsWrong)

/-- 'terrazzolaw03.StripeBack': WHATEVER THE INPUT: true; the input reads as it did. -/
def stripeBackSpec : ChangeSpec := { name := "stripeBack", fn := fun _ => fun
  | [d1, d2, d3] => { results := [.lit (.bool true)], args := [d1, d2, d3] }
  | _ => none }
def stripeBackRow : OpenClaim := { program := "ytbkdlpmaikilnaa", sum := "48cb8e6d69e95c0570a80604db2e99356d09ac7eee40e6187eb8a494a1f4abcb", func := "terrazzo/terrazzolaw03.StripeBack", spec := "stripeBack", unfollowed := true, recurses := true, apart := false }
def StripeBackSaid : Prop := stripeBackRow.holds Try.pinned (OpenSpec.ofChange stripeBackSpec)

/-- ITS FALSE NEIGHBOUR: 'it returns false'. Refute it at one input. -/
def stripeBackWrong : ChangeSpec := { name := "stripeBack", fn := fun _ => fun
  | [d1, d2, d3] => { results := [.lit (.bool false)], args := [d1, d2, d3] }
  | _ => none }
def StripeBackWrongFalsely : Prop := stripeBackRow.holds Try.pinned (OpenSpec.ofChange stripeBackWrong)

/-- 'terrazzolaw03.StripeCovers': WHATEVER THE INPUT: true; the input reads as it did. -/
def stripeCoversSpec : ChangeSpec := { name := "stripeCovers", fn := fun _ => fun
  | [d1, d2, d3] => { results := [.lit (.bool true)], args := [d1, d2, d3] }
  | _ => none }
def stripeCoversRow : OpenClaim := { program := "ytbkdlpmaikilnaa", sum := "48cb8e6d69e95c0570a80604db2e99356d09ac7eee40e6187eb8a494a1f4abcb", func := "terrazzo/terrazzolaw03.StripeCovers", spec := "stripeCovers", unfollowed := true, recurses := true, apart := false }
def StripeCoversSaid : Prop := stripeCoversRow.holds Try.pinned (OpenSpec.ofChange stripeCoversSpec)

/-- ITS FALSE NEIGHBOUR: 'it returns false'. Refute it at one input. -/
def stripeCoversWrong : ChangeSpec := { name := "stripeCovers", fn := fun _ => fun
  | [d1, d2, d3] => { results := [.lit (.bool false)], args := [d1, d2, d3] }
  | _ => none }
def StripeCoversWrongFalsely : Prop := stripeCoversRow.holds Try.pinned (OpenSpec.ofChange stripeCoversWrong)

/-- 'terrazzolaw03.StripeFills': WHATEVER THE INPUT: true; the input reads as it did. -/
def stripeFillsSpec : ChangeSpec := { name := "stripeFills", fn := fun _ => fun
  | [d1, d2] => { results := [.lit (.bool true)], args := [d1, d2] }
  | _ => none }
def stripeFillsRow : OpenClaim := { program := "ytbkdlpmaikilnaa", sum := "48cb8e6d69e95c0570a80604db2e99356d09ac7eee40e6187eb8a494a1f4abcb", func := "terrazzo/terrazzolaw03.StripeFills", spec := "stripeFills", unfollowed := true, recurses := true, apart := false }
def StripeFillsSaid : Prop := stripeFillsRow.holds Try.pinned (OpenSpec.ofChange stripeFillsSpec)

/-- ITS FALSE NEIGHBOUR: 'it returns false'. Refute it at one input. -/
def stripeFillsWrong : ChangeSpec := { name := "stripeFills", fn := fun _ => fun
  | [d1, d2] => { results := [.lit (.bool false)], args := [d1, d2] }
  | _ => none }
def StripeFillsWrongFalsely : Prop := stripeFillsRow.holds Try.pinned (OpenSpec.ofChange stripeFillsWrong)

/- THE SECOND FORM. 'bulk': how many values and letters a reading holds, each counted each time it is reached (what is shared counts as often as it is met; a slice's spare places count too). A statement '..UptoSaid' is the law's where the arguments, and the package variables that the reading takes, are together of bulk at most 1048576: NARROWER than '..Said'. Prove '..Said' where nothing that the law and all that it calls make is longer than what came in: it says more and counts as full. Else prove '..UptoSaid'. A law counts once. -/
mutual
def uptoBulk {H : Type} : DataW H → Nat
  | .lit (.string bytes) => bytes.length + 1
  | .lit _ => 1
  | .nil => 1
  | .ptr d => uptoBulk d + 1
  | .slice elems spare => uptoBulkAll elems + uptoBulkAll spare + 1
  | .agg parts => uptoBulkAll parts + 1
  | .iface _ d => uptoBulk d + 1
  | .map entries => uptoBulkEntries entries + 1
  | .held _ => 1
def uptoBulkAll {H : Type} : List (DataW H) → Nat
  | [] => 0
  | d :: r => uptoBulk d + uptoBulkAll r
def uptoBulkEntries {H : Type} : List (Lit × DataW H) → Nat
  | [] => 0
  | x :: r => uptoBulkEntry x + uptoBulkEntries r
def uptoBulkEntry {H : Type} : Lit × DataW H → Nat
  | (.string bytes, d) => bytes.length + uptoBulk d + 1
  | (_, d) => uptoBulk d + 1
 end
def uptoSmall : (H : Type) → List (DataW H) → Bool := fun _ ds => decide (uptoBulkAll ds ≤ 1048576)
def OpenSpec.upto (s : _root_.Go.ChangeSpec) : _root_.Go.OpenSpec := { _root_.Go.OpenSpec.ofChange s with cond := some uptoSmall }

/-- 'terrazzolaw03.StripePlaces', WHERE WHAT IT READS IS OF BULK AT MOST 1048576: true; the input reads as it did. -/
def stripePlacesUptoRow : OpenClaim := { program := "ytbkdlpmaikilnaa", sum := "48cb8e6d69e95c0570a80604db2e99356d09ac7eee40e6187eb8a494a1f4abcb", func := "terrazzo/terrazzolaw03.StripePlaces", spec := "stripePlaces", unfollowed := true, recurses := true, apart := false, narrowed := true }
def StripePlacesUptoSaid : Prop := stripePlacesUptoRow.holds Try.pinned (OpenSpec.upto stripePlacesSpec)

/-- 'terrazzolaw03.StripePieces', WHERE WHAT IT READS IS OF BULK AT MOST 1048576: true; the input reads as it did. -/
def stripePiecesUptoRow : OpenClaim := { program := "ytbkdlpmaikilnaa", sum := "48cb8e6d69e95c0570a80604db2e99356d09ac7eee40e6187eb8a494a1f4abcb", func := "terrazzo/terrazzolaw03.StripePieces", spec := "stripePieces", unfollowed := true, recurses := true, apart := false, narrowed := true }
def StripePiecesUptoSaid : Prop := stripePiecesUptoRow.holds Try.pinned (OpenSpec.upto stripePiecesSpec)

/-- 'terrazzolaw03.StripeRooms', WHERE WHAT IT READS IS OF BULK AT MOST 1048576: true; the input reads as it did. -/
def stripeRoomsUptoRow : OpenClaim := { program := "ytbkdlpmaikilnaa", sum := "48cb8e6d69e95c0570a80604db2e99356d09ac7eee40e6187eb8a494a1f4abcb", func := "terrazzo/terrazzolaw03.StripeRooms", spec := "stripeRooms", unfollowed := true, recurses := true, apart := false, narrowed := true }
def StripeRoomsUptoSaid : Prop := stripeRoomsUptoRow.holds Try.pinned (OpenSpec.upto stripeRoomsSpec)

/-- 'terrazzolaw03.StripeBack', WHERE WHAT IT READS IS OF BULK AT MOST 1048576: true; the input reads as it did. -/
def stripeBackUptoRow : OpenClaim := { program := "ytbkdlpmaikilnaa", sum := "48cb8e6d69e95c0570a80604db2e99356d09ac7eee40e6187eb8a494a1f4abcb", func := "terrazzo/terrazzolaw03.StripeBack", spec := "stripeBack", unfollowed := true, recurses := true, apart := false, narrowed := true }
def StripeBackUptoSaid : Prop := stripeBackUptoRow.holds Try.pinned (OpenSpec.upto stripeBackSpec)

/-- 'terrazzolaw03.StripeCovers', WHERE WHAT IT READS IS OF BULK AT MOST 1048576: true; the input reads as it did. -/
def stripeCoversUptoRow : OpenClaim := { program := "ytbkdlpmaikilnaa", sum := "48cb8e6d69e95c0570a80604db2e99356d09ac7eee40e6187eb8a494a1f4abcb", func := "terrazzo/terrazzolaw03.StripeCovers", spec := "stripeCovers", unfollowed := true, recurses := true, apart := false, narrowed := true }
def StripeCoversUptoSaid : Prop := stripeCoversUptoRow.holds Try.pinned (OpenSpec.upto stripeCoversSpec)

/-- 'terrazzolaw03.StripeFills', WHERE WHAT IT READS IS OF BULK AT MOST 1048576: true; the input reads as it did. -/
def stripeFillsUptoRow : OpenClaim := { program := "ytbkdlpmaikilnaa", sum := "48cb8e6d69e95c0570a80604db2e99356d09ac7eee40e6187eb8a494a1f4abcb", func := "terrazzo/terrazzolaw03.StripeFills", spec := "stripeFills", unfollowed := true, recurses := true, apart := false, narrowed := true }
def StripeFillsUptoSaid : Prop := stripeFillsUptoRow.holds Try.pinned (OpenSpec.upto stripeFillsSpec)

end Rows
end Go.Proofs.Ytbkdlpmaikilnaa
