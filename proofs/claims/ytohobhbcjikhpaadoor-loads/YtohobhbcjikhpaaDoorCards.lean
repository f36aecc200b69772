/-
  DERIVED. GIVEN WITH THE SEED: THE CARDS: each row of YtohobhbcjikhpaaDoorRows.lean that lists a variable, with what it lists TIED to the program's text (the seventh form; the later family's looks); each row that meets fmt, with fmt's text TOLD by the authors' own Lean function (tested against real Go, not proved from fmt's source: count such statements apart). THE CARD IS WHAT COUNTS. Prove the row's statement (the work); the ties are given (YtohobhbcjikhpaaDoorTie.lean); close each card by the builder's one call (the guide's Derived/Test/ToyasCard.lean, 'card_holds'). Laid BY PROGRAM, IN A SANDBOX (cutbox-door.mjs). By AI agents, Wed Nov 11 2026. No macro, syntax, notation, axiom, sorry.
-/
import Derived.Test.YtohobhbcjikhpaaDoorRows
import GoSem.ClaimSeven
namespace Go.Proofs.YtohobhbcjikhpaaDoor
namespace Rows

/-- THE TIED CARD OF 'turnstilelaw.Loads'. -/
def loadsCard : Claim7 := { stood := { row := loadsRow, standIns := [], harness := (true, "d1119d2fd5fae90b4fc1c09c0e2cb03357583f281befc42dc813c35e99996004"), looks := false }, kinds := [], alts := [], laidByText := true, laidKinds := [.data], laidTests := true, laidLooks := .later }
def LoadsCardSaid : Prop := Claim7.holds Tryd.pinned (.plain (OpenSpec.ofChange loadsSpec)) loadsCard

/-- THE SECOND FORM's CARD OF 'turnstilelaw.Loads'. -/
def loadsUptoCard : Claim7 := { stood := { row := loadsUptoRow, standIns := [], harness := (true, "d1119d2fd5fae90b4fc1c09c0e2cb03357583f281befc42dc813c35e99996004"), looks := false }, kinds := [], alts := [], laidByText := true, laidKinds := [.data], laidTests := true, laidLooks := .later }
def LoadsUptoCardSaid : Prop := Claim7.holds Tryd.pinned (.plain (OpenSpec.upto loadsSpec)) loadsUptoCard
end Rows
end Go.Proofs.YtohobhbcjikhpaaDoor
