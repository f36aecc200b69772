/- For every input of bulk at most 1048576 the law Steps returns true, and its arguments read as they did; the table of the operands letters is taken as its initialiser lays it. -/
import Derived.Test.YtnjiinbhbjpfkaaGreatDoorKp
set_option maxRecDepth 100000
set_option maxHeartbeats 0
set_option linter.all false
namespace Go.Proofs.YtnjiinbhbjpfkaaGreatDoor
open Go.RowKit Go.Proofs.Tryz
section
open Go.ChangeShapes Go.WideShapes Go.ChangeAt Go.WideMaps Go.WideElems Go.Joins
theorem wK(os:Os){H:Type}(enc:TypeId×Value->H):∃x places,DataW.whole enc prog ((World.doorLaid prog 400 os).forCall (λ_ _=>0) ⟨#[],#[.string { data:=#[] },.agg #[.int .i64 0,.int .i64 0,.int .i64 0,.int .i64 0],.string { data:=#[] },.agg #[.int .i64 0,.int .i64 0,.int .i64 0,.int .i64 0],.slice none 0 0],[]⟩).memory f4.params.toList Rows.stepsSpec.vars false #[Value.string { data:=#[] },.agg #[.int .i64 0,.int .i64 0,.int .i64 0,.int .i64 0],.string { data:=#[] },.agg #[.int .i64 0,.int .i64 0,.int .i64 0,.int .i64 0],.slice none 0 0].toList 8=some (x,[],places)/\x=[.lit (.string []),.agg [.lit (.int .i64 0),.lit (.int .i64 0),.lit (.int .i64 0),.lit (.int .i64 0)],.lit (.string []),.agg [.lit (.int .i64 0),.lit (.int .i64 0),.lit (.int .i64 0),.lit (.int .i64 0)],.nil]:=
 ⟨_,[],by kernel_rfl,rfl⟩
theorem uS(os:Os)(started:os.Started)(H:Type)(enc:TypeId×Value->H)(Fi:Stop.Interp): ReturnsInHanded {} Tryz.checked os 4 .any ((Rows.OpenSpec.upto Rows.stepsSpec).preRow enc prog f4 Rows.stepsUptoRow.domain false Rows.stepsUptoRow.laid) (((Rows.OpenSpec.upto Rows.stepsSpec).at Fi).post enc prog f4 false true false false):=by
 obtain⟨x,places,hx,rfl⟩:=wK os enc;refine returnsInHanded_of_row (C:=Tryz.checked) (s:=Rows.OpenSpec.upto Rows.stepsSpec) own started (by kernel_rfl) func4
  (witness_row_at (enc:=enc) (C:=Tryz.checked) false (World.doorLaid prog 400 os) #[.string { data:=#[] },.agg #[.int .i64 0,.int .i64 0,.int .i64 0,.int .i64 0],.string { data:=#[] },.agg #[.int .i64 0,.int .i64 0,.int .i64 0,.int .i64 0],.slice none 0 0] rfl (by kernel_rfl) (by kernel_rfl) (by kernel_rfl)
   (OpenSpec.preRow_of_cond 8 hx (by kernel_rfl) (λk hk=>by cases hk;kernel_rfl) (by kernel_rfl) (AM os _))) ?_
 intro W base args ds gs before hval hW _ hcond _ hL _ _;exact sr H enc W base args ds gs before hval hW (hcond _ rfl) hL
theorem yn:Rows.StepsUptoSaid:=
 OpenClaim.holds_of_cond 4 f4 rfl rfl rfl rfl rfl rfl rfl ⟨rfl,rfl,rfl,rfl,rfl⟩ rfl rfl rfl rfl rfl (by kernel_rfl) func4 (by kernel_rfl)
  (dO (by kernel_rfl)) (by unfold Func.isWrapper;first|(rw[aj (by decide +kernel)];kernel_rfl)|(rw[aa (by decide +kernel)];exact⟨rfl,rfl⟩))
  (λos started H enc _ Fi=>by rw[OpenClaim.pre_eq_preRow];exact uS os started H enc Fi)
theorem wL(f:FuncId)(fn:Func)(hf:Tryz.pinned.checked.prog.funcNamed Rows.stepsUptoRow.func=some f)(hfn:Tryz.pinned.checked.prog.funcs[f]? = some fn): false=Tryz.pinned.checked.prog.looks []/\∀(j:Nat) t,fn.params[j]? = some t->Tryz.pinned.checked.prog.wantsStandIn t=false:=by
 obtain rfl:f=4:=g8 ((show prog.funcNamed Rows.stepsUptoRow.func=some 4 by kernel_rfl).symm.trans hf) |>.symm;obtain rfl:fn=f4:=(g8 (func4.symm.trans hfn)).symm;refine⟨by kernel_rfl,λj t ht=>?_⟩;rw[params4]at ht;have hm:t∈[9,23,9,23,29]:=by simpa using Array.mem_of_getElem? ht
 have hall:([9,23,9,23,29].all λu=>!prog.wantsStandIn u)=true:=by kernel_rfl
 exact(show prog.wantsStandIn t=false by simpa using List.all_eq_true.1 hall t hm)
theorem steps_card:Rows.StepsUptoCardSaid:=
 Claim7.holds_tied_plain_at .later [] _ _ _ _ yn (λ_ h=>by cases h) (by kernel_rfl) (λ_ h=>by cases h) stepsUpto_row_tie rfl ⟨rfl,rfl⟩ (by kernel_rfl) rfl wL (by kernel_rfl)
