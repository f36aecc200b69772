/-
  For every input of bulk at most 1048576 the law Fair returns true, and its arguments read as they did. The package-level table of the operands' letters is taken as its initialiser lays it.
-/
import Derived.Test.YtnjiinbhbjpfkaaGreatDoorGateZB
namespace Go.Proofs.YtnjiinbhbjpfkaaGreatDoor
open Go.ChangeShapes Go.WideShapes Go.ChangeAt Go.WideMaps Go.WideElems Go.RowKit Go.Joins
theorem fair_reads (os : Os) {H : Type} (enc : TypeId × Value → H) : ∃ x places, DataW.whole enc Tryz.prog ((World.doorLaid Tryz.prog 400 os).forCall (fun _ _ => 0) ⟨#[], #[.string { data := #[] }, .agg #[.int .i64 0, .int .i64 0, .int .i64 0, .int .i64 0], .slice none 0 0], []⟩).memory Tryz.f9.params.toList Rows.fairSpec.vars false #[Value.string { data := #[] }, .agg #[.int .i64 0, .int .i64 0, .int .i64 0, .int .i64 0], .slice none 0 0].toList 8 = some (x, [], places) ∧ x = [.lit (.string []), .agg [.lit (.int .i64 0), .lit (.int .i64 0), .lit (.int .i64 0), .lit (.int .i64 0)], .nil] :=
  ⟨_, [], by kernel_rfl, rfl⟩
set_option maxRecDepth 100000 in
theorem fair_lifted (os : Os) (started : os.Started) (H : Type) (enc : TypeId × Value → H) (Fi : Stop.Interp) :
    ReturnsInHanded {} Tryz.checked os 9 .any ((Rows.OpenSpec.upto Rows.fairSpec).preRow enc Tryz.prog Tryz.f9 Rows.fairUptoRow.domain false Rows.fairUptoRow.laid) (((Rows.OpenSpec.upto Rows.fairSpec).at Fi).post enc Tryz.prog Tryz.f9 false true false false) := by
  obtain ⟨x, places, hx, rfl⟩ := fair_reads os enc
  refine returnsInHanded_of_row (C := Tryz.checked) (s := Rows.OpenSpec.upto Rows.fairSpec) own started (by kernel_rfl) Tryz.func9
    (witness_row_at (enc := enc) (C := Tryz.checked) false (World.doorLaid Tryz.prog 400 os) #[.string { data := #[] }, .agg #[.int .i64 0, .int .i64 0, .int .i64 0, .int .i64 0], .slice none 0 0] rfl (by kernel_rfl) (by kernel_rfl) (by kernel_rfl)
      (OpenSpec.preRow_of_cond 8 hx (by kernel_rfl) (fun k hk => by cases hk; kernel_rfl) (by kernel_rfl) (fair_met os _))) ?_
  intro W base args ds gs before hval hW _ hcond _ hL _ _
  exact fair_contract H enc W base args ds gs before hval hW (hcond _ rfl) hL
theorem fair_said : Rows.FairUptoSaid :=
  OpenClaim.holds_of_cond 9 Tryz.f9 rfl rfl rfl rfl rfl rfl rfl ⟨rfl, rfl, rfl, rfl, rfl⟩ rfl rfl rfl rfl rfl (by kernel_rfl) Tryz.func9 (by kernel_rfl)
    (of_decide_eq_true (by kernel_rfl)) (by unfold Func.isWrapper; first | (rw [if_pos (by decide +kernel)]; kernel_rfl) | (rw [if_neg (by decide +kernel)]; exact ⟨rfl, rfl⟩))
    (fun os started H enc _ Fi => by rw [OpenClaim.pre_eq_preRow]; exact fair_lifted os started H enc Fi)
theorem fair_plain (f : FuncId) (fn : Func) (hf : Tryz.pinned.checked.prog.funcNamed Rows.fairUptoRow.func = some f) (hfn : Tryz.pinned.checked.prog.funcs[f]? = some fn) :
    false = Tryz.pinned.checked.prog.looks [] ∧ ∀ (j : Nat) t, fn.params[j]? = some t → Tryz.pinned.checked.prog.wantsStandIn t = false := by
  obtain rfl : f = 9 := Option.some.inj ((show Tryz.prog.funcNamed Rows.fairUptoRow.func = some 9 by kernel_rfl).symm.trans hf) |>.symm
  obtain rfl : fn = Tryz.f9 := (Option.some.inj (Tryz.func9.symm.trans hfn)).symm
  refine ⟨by kernel_rfl, fun j t ht => ?_⟩
  rw [Tryz.params9] at ht
  have hm : t ∈ [9, 23, 53] := by simpa using Array.mem_of_getElem? ht
  have hall : ([9, 23, 53].all fun u => !Tryz.prog.wantsStandIn u) = true := by kernel_rfl
  exact (show Tryz.prog.wantsStandIn t = false by simpa using List.all_eq_true.1 hall t hm)
theorem fair_card : Rows.FairUptoCardSaid :=
  Claim7.holds_tied_plain_at .later [] _ _ _ _ fair_said (fun _ h => by cases h) (by kernel_rfl) (fun _ h => by cases h) fairUpto_row_tie rfl ⟨rfl, rfl⟩ (by kernel_rfl) rfl fair_plain (by kernel_rfl)
end Go.Proofs.YtnjiinbhbjpfkaaGreatDoor
