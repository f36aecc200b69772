/-
  The document's 'kinds' gives the letters of an instruction, for every number of one.
-/
import Derived.Test.YtohobhbcjikhpaaDoorNext
namespace Go.Proofs.YtohobhbcjikhpaaDoor
open Go.RowKit

/-- The letters' texts. -/
def KL : List Value := [.string { data := #[114, 107, 107] }, .string { data := #[114, 114, 45] }, .string { data := #[114, 114, 114] }, .string { data := #[114, 114, 114] }, .string { data := #[114, 114, 114] }, .string { data := #[114, 114, 114] }, .string { data := #[114, 114, 114] }, .string { data := #[45, 116, 116] }, .string { data := #[114, 116, 116] }, .string { data := #[114, 115, 45] }, .string { data := #[114, 114, 114] }, .string { data := #[114, 114, 114] }, .string { data := #[114, 102, 114] }, .string { data := #[114, 114, 114] }, .string { data := #[114, 45, 45] }, .string { data := #[114, 114, 114] }, .string { data := #[45, 45, 45] }, .string { data := #[114, 45, 45] }, .string { data := #[114, 114, 45] }, .string { data := #[114, 45, 45] }, .string { data := #[114, 45, 45] }, .string { data := #[114, 114, 45] }, .string { data := #[114, 45, 45] }]
theorem KL_map : KL = (List.range 23).map (fun i => Value.string (M.KS i)) := by rfl
theorem KL_at (op : Nat) (h : op < KL.length) : KL[op] = .string (M.KS op) := by
  have h2 : KL[op]? = some (.string (M.KS op)) := by
    have h3 : op < 23 := h
    rw [KL_map]; simp [h3]
  exact (List.getElem_eq_iff h).2 h2

set_option maxHeartbeats 400000 in
theorem kinds_any (op : Nat) (w : World) (h : op < 23) :
    Calls Tryd.prog 60 #[.int .i64 op] w fun e w' => e = .returned (.string (M.KS op)) ∧ Below w.heap.size w w' := by
  go_enter Tryd.func60, Tryd.ntmps60
  go_wp2_with fail
  go_ret
  exact ⟨congrArg Ending.returned (KL_at op h), (Below.refl _ _).alloc (Nat.le_refl _) _⟩
end Go.Proofs.YtohobhbcjikhpaaDoor
