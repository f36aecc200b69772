/-
  DERIVED. GIVEN WITH THE SEED: THE CARDS: each row of YtnjiinbhbjpfkaaGreatDoorRows.lean that lists a variable, with what it lists TIED to the program's text (the seventh form; the later family's looks); each row that meets fmt, with fmt's text TOLD by the authors' own Lean function (tested against real Go, not proved from fmt's source: count such statements apart). THE CARD IS WHAT COUNTS. Prove the row's statement (the work); the ties are given (YtnjiinbhbjpfkaaGreatDoorTie.lean); close each card by the builder's one call (the guide's Derived/Test/ToyasCard.lean, 'card_holds'). Laid BY PROGRAM, IN A SANDBOX (cutbox-door.mjs). By AI agents, Wed Nov 11 2026. No macro, syntax, notation, axiom, sorry.
-/
import Derived.Test.YtnjiinbhbjpfkaaGreatDoorRows
import GoSem.ClaimSeven
namespace Go.Proofs.YtnjiinbhbjpfkaaGreatDoor
namespace Rows

/-- THE TIED CARD OF 'turnstilelaw.Loads'. -/
def loadsCard : Claim7 := { stood := { row := loadsRow, standIns := [], harness := (true, "68d3c1ee21b023dca15675d4a594f4f5375f50a1a133c32d5c1ed3366fb40161"), looks := false }, kinds := [], alts := [], laidByText := true, laidKinds := [.data], laidTests := true, laidLooks := .later }
def LoadsCardSaid : Prop := Claim7.holds Tryz.pinned (.plain (OpenSpec.ofChange loadsSpec)) loadsCard

/-- THE TIED CARD OF 'turnstilelaw.Steps'. -/
def stepsCard : Claim7 := { stood := { row := stepsRow, standIns := [], harness := (true, "68d3c1ee21b023dca15675d4a594f4f5375f50a1a133c32d5c1ed3366fb40161"), looks := false }, kinds := [], alts := [], laidByText := true, laidKinds := [.data], laidTests := true, laidLooks := .later }
def StepsCardSaid : Prop := Claim7.holds Tryz.pinned (.plain (OpenSpec.ofChange stepsSpec)) stepsCard

/-- THE TIED CARD OF 'turnstilekeep.Garbage'. -/
def garbageCard : Claim7 := { stood := { row := garbageRow, standIns := [], harness := (true, "68d3c1ee21b023dca15675d4a594f4f5375f50a1a133c32d5c1ed3366fb40161"), looks := false }, kinds := [], alts := [], laidByText := true, laidKinds := [.data], laidTests := true, laidLooks := .later }
def GarbageCardSaid : Prop := Claim7.holds Tryz.pinned (.plain (OpenSpec.ofChange garbageSpec)) garbageCard

/-- THE TIED CARD OF 'turnstilekeep.Chain'. -/
def chainCard : Claim7 := { stood := { row := chainRow, standIns := [], harness := (true, "68d3c1ee21b023dca15675d4a594f4f5375f50a1a133c32d5c1ed3366fb40161"), looks := false }, kinds := [], alts := [], laidByText := true, laidKinds := [.data], laidTests := true, laidLooks := .later }
def ChainCardSaid : Prop := Claim7.holds Tryz.pinned (.plain (OpenSpec.ofChange chainSpec)) chainCard

/-- THE TIED CARD OF 'turnstilekeep.Whole'. -/
def wholeCard : Claim7 := { stood := { row := wholeRow, standIns := [], harness := (true, "68d3c1ee21b023dca15675d4a594f4f5375f50a1a133c32d5c1ed3366fb40161"), looks := false }, kinds := [], alts := [], laidByText := true, laidKinds := [.data], laidTests := true, laidLooks := .later }
def WholeCardSaid : Prop := Claim7.holds Tryz.pinned (.plain (OpenSpec.ofChange wholeSpec)) wholeCard

/-- THE TIED CARD OF 'turnstilelaw.Turns'. -/
def turnsCard : Claim7 := { stood := { row := turnsRow, standIns := [], harness := (true, "68d3c1ee21b023dca15675d4a594f4f5375f50a1a133c32d5c1ed3366fb40161"), looks := false }, kinds := [], alts := [], laidByText := true, laidKinds := [.data], laidTests := true, laidLooks := .later }
def TurnsCardSaid : Prop := Claim7.holds Tryz.pinned (.plain (OpenSpec.ofChange turnsSpec)) turnsCard

/-- THE TIED CARD OF 'turnstilekeep.Fair'. -/
def fairCard : Claim7 := { stood := { row := fairRow, standIns := [], harness := (true, "68d3c1ee21b023dca15675d4a594f4f5375f50a1a133c32d5c1ed3366fb40161"), looks := false }, kinds := [], alts := [], laidByText := true, laidKinds := [.data], laidTests := true, laidLooks := .later }
def FairCardSaid : Prop := Claim7.holds Tryz.pinned (.plain (OpenSpec.ofChange fairSpec)) fairCard

/-- THE TIED CARD OF 'turnstilekeep.Asleep'. -/
def asleepCard : Claim7 := { stood := { row := asleepRow, standIns := [], harness := (true, "68d3c1ee21b023dca15675d4a594f4f5375f50a1a133c32d5c1ed3366fb40161"), looks := false }, kinds := [], alts := [], laidByText := true, laidKinds := [.data], laidTests := true, laidLooks := .later }
def AsleepCardSaid : Prop := Claim7.holds Tryz.pinned (.plain (OpenSpec.ofChange asleepSpec)) asleepCard

/-- THE TIED CARD OF 'turnstilelaw.All'. -/
def allCard : Claim7 := { stood := { row := allRow, standIns := [], harness := (true, "68d3c1ee21b023dca15675d4a594f4f5375f50a1a133c32d5c1ed3366fb40161"), looks := false }, kinds := [], alts := [], laidByText := true, laidKinds := [.data], laidTests := true, laidLooks := .later }
def AllCardSaid : Prop := Claim7.holds Tryz.pinned (.plain (OpenSpec.ofChange allSpec)) allCard

/-- THE TIED CARD OF 'turnstilekeep.Freed'. -/
def freedCard : Claim7 := { stood := { row := freedRow, standIns := [], harness := (true, "68d3c1ee21b023dca15675d4a594f4f5375f50a1a133c32d5c1ed3366fb40161"), looks := false }, kinds := [], alts := [], laidByText := true, laidKinds := [.data], laidTests := true, laidLooks := .later }
def FreedCardSaid : Prop := Claim7.holds Tryz.pinned (.plain (OpenSpec.ofChange freedSpec)) freedCard

/-- THE TIED CARD OF 'turnstilekeep.Forced'. -/
def forcedCard : Claim7 := { stood := { row := forcedRow, standIns := [], harness := (true, "68d3c1ee21b023dca15675d4a594f4f5375f50a1a133c32d5c1ed3366fb40161"), looks := false }, kinds := [], alts := [], laidByText := true, laidKinds := [.data], laidTests := true, laidLooks := .later }
def ForcedCardSaid : Prop := Claim7.holds Tryz.pinned (.plain (OpenSpec.ofChange forcedSpec)) forcedCard

/-- THE SECOND FORM's CARD OF 'turnstilelaw.Loads'. -/
def loadsUptoCard : Claim7 := { stood := { row := loadsUptoRow, standIns := [], harness := (true, "68d3c1ee21b023dca15675d4a594f4f5375f50a1a133c32d5c1ed3366fb40161"), looks := false }, kinds := [], alts := [], laidByText := true, laidKinds := [.data], laidTests := true, laidLooks := .later }
def LoadsUptoCardSaid : Prop := Claim7.holds Tryz.pinned (.plain (OpenSpec.upto loadsSpec)) loadsUptoCard

/-- THE SECOND FORM's CARD OF 'turnstilelaw.Steps'. -/
def stepsUptoCard : Claim7 := { stood := { row := stepsUptoRow, standIns := [], harness := (true, "68d3c1ee21b023dca15675d4a594f4f5375f50a1a133c32d5c1ed3366fb40161"), looks := false }, kinds := [], alts := [], laidByText := true, laidKinds := [.data], laidTests := true, laidLooks := .later }
def StepsUptoCardSaid : Prop := Claim7.holds Tryz.pinned (.plain (OpenSpec.upto stepsSpec)) stepsUptoCard

/-- THE SECOND FORM's CARD OF 'turnstilekeep.Garbage'. -/
def garbageUptoCard : Claim7 := { stood := { row := garbageUptoRow, standIns := [], harness := (true, "68d3c1ee21b023dca15675d4a594f4f5375f50a1a133c32d5c1ed3366fb40161"), looks := false }, kinds := [], alts := [], laidByText := true, laidKinds := [.data], laidTests := true, laidLooks := .later }
def GarbageUptoCardSaid : Prop := Claim7.holds Tryz.pinned (.plain (OpenSpec.upto garbageSpec)) garbageUptoCard

/-- THE SECOND FORM's CARD OF 'turnstilekeep.Chain'. -/
def chainUptoCard : Claim7 := { stood := { row := chainUptoRow, standIns := [], harness := (true, "68d3c1ee21b023dca15675d4a594f4f5375f50a1a133c32d5c1ed3366fb40161"), looks := false }, kinds := [], alts := [], laidByText := true, laidKinds := [.data], laidTests := true, laidLooks := .later }
def ChainUptoCardSaid : Prop := Claim7.holds Tryz.pinned (.plain (OpenSpec.upto chainSpec)) chainUptoCard

/-- THE SECOND FORM's CARD OF 'turnstilekeep.Whole'. -/
def wholeUptoCard : Claim7 := { stood := { row := wholeUptoRow, standIns := [], harness := (true, "68d3c1ee21b023dca15675d4a594f4f5375f50a1a133c32d5c1ed3366fb40161"), looks := false }, kinds := [], alts := [], laidByText := true, laidKinds := [.data], laidTests := true, laidLooks := .later }
def WholeUptoCardSaid : Prop := Claim7.holds Tryz.pinned (.plain (OpenSpec.upto wholeSpec)) wholeUptoCard

/-- THE SECOND FORM's CARD OF 'turnstilelaw.Turns'. -/
def turnsUptoCard : Claim7 := { stood := { row := turnsUptoRow, standIns := [], harness := (true, "68d3c1ee21b023dca15675d4a594f4f5375f50a1a133c32d5c1ed3366fb40161"), looks := false }, kinds := [], alts := [], laidByText := true, laidKinds := [.data], laidTests := true, laidLooks := .later }
def TurnsUptoCardSaid : Prop := Claim7.holds Tryz.pinned (.plain (OpenSpec.upto turnsSpec)) turnsUptoCard

/-- THE SECOND FORM's CARD OF 'turnstilekeep.Fair'. -/
def fairUptoCard : Claim7 := { stood := { row := fairUptoRow, standIns := [], harness := (true, "68d3c1ee21b023dca15675d4a594f4f5375f50a1a133c32d5c1ed3366fb40161"), looks := false }, kinds := [], alts := [], laidByText := true, laidKinds := [.data], laidTests := true, laidLooks := .later }
def FairUptoCardSaid : Prop := Claim7.holds Tryz.pinned (.plain (OpenSpec.upto fairSpec)) fairUptoCard

/-- THE SECOND FORM's CARD OF 'turnstilekeep.Asleep'. -/
def asleepUptoCard : Claim7 := { stood := { row := asleepUptoRow, standIns := [], harness := (true, "68d3c1ee21b023dca15675d4a594f4f5375f50a1a133c32d5c1ed3366fb40161"), looks := false }, kinds := [], alts := [], laidByText := true, laidKinds := [.data], laidTests := true, laidLooks := .later }
def AsleepUptoCardSaid : Prop := Claim7.holds Tryz.pinned (.plain (OpenSpec.upto asleepSpec)) asleepUptoCard

/-- THE SECOND FORM's CARD OF 'turnstilelaw.All'. -/
def allUptoCard : Claim7 := { stood := { row := allUptoRow, standIns := [], harness := (true, "68d3c1ee21b023dca15675d4a594f4f5375f50a1a133c32d5c1ed3366fb40161"), looks := false }, kinds := [], alts := [], laidByText := true, laidKinds := [.data], laidTests := true, laidLooks := .later }
def AllUptoCardSaid : Prop := Claim7.holds Tryz.pinned (.plain (OpenSpec.upto allSpec)) allUptoCard

/-- THE SECOND FORM's CARD OF 'turnstilekeep.Freed'. -/
def freedUptoCard : Claim7 := { stood := { row := freedUptoRow, standIns := [], harness := (true, "68d3c1ee21b023dca15675d4a594f4f5375f50a1a133c32d5c1ed3366fb40161"), looks := false }, kinds := [], alts := [], laidByText := true, laidKinds := [.data], laidTests := true, laidLooks := .later }
def FreedUptoCardSaid : Prop := Claim7.holds Tryz.pinned (.plain (OpenSpec.upto freedSpec)) freedUptoCard

/-- THE SECOND FORM's CARD OF 'turnstilekeep.Forced'. -/
def forcedUptoCard : Claim7 := { stood := { row := forcedUptoRow, standIns := [], harness := (true, "68d3c1ee21b023dca15675d4a594f4f5375f50a1a133c32d5c1ed3366fb40161"), looks := false }, kinds := [], alts := [], laidByText := true, laidKinds := [.data], laidTests := true, laidLooks := .later }
def ForcedUptoCardSaid : Prop := Claim7.holds Tryz.pinned (.plain (OpenSpec.upto forcedSpec)) forcedUptoCard
end Rows
end Go.Proofs.YtnjiinbhbjpfkaaGreatDoor
