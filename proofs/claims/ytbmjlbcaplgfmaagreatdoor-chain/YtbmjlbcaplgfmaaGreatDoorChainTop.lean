/-
  Chain: for every input a program that keeps all its cells makes just as many as there are, and the machine is spent then. No condition but the card's own: the table of operands' letters holds what the program's text lays.
-/
import Derived.Test.YtbmjlbcaplgfmaaGreatDoorLawsA
import Derived.Test.YtbmjlbcaplgfmaaGreatDoorPartK
namespace Go.Proofs.YtbmjlbcaplgfmaaGreatDoor
theorem chain_card : Rows.ChainCardSaid := chain_card_of iface
end Go.Proofs.YtbmjlbcaplgfmaaGreatDoor
