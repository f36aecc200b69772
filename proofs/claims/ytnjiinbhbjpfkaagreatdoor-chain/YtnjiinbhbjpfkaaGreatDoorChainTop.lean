/-
  Chain: for every input a program that keeps all its cells makes just as many as there are, and the machine is spent then. No condition but the card's own: the table of operands' letters holds what the program's text lays.
-/
import Derived.Test.YtnjiinbhbjpfkaaGreatDoorLawsA
import Derived.Test.YtnjiinbhbjpfkaaGreatDoorPartO
namespace Go.Proofs.YtnjiinbhbjpfkaaGreatDoor
theorem chain_card : Rows.ChainCardSaid := chain_card_of iface
end Go.Proofs.YtnjiinbhbjpfkaaGreatDoor
