/- For every input of bulk at most 1048576 the law Turns returns true, and its arguments read as they did; the table of the operands letters is taken as its initialiser lays it. -/
import Derived.Test.YtnjiinbhbjpfkaaGreatDoorTz
set_option maxRecDepth 100000
set_option maxHeartbeats 0
set_option linter.all false
namespace Go.Proofs.YtnjiinbhbjpfkaaGreatDoor
open Go.RowKit Go.Proofs.Tryz
section
open Go.ChangeShapes Go.WideShapes Go.ChangeAt Go.WideMaps Go.WideElems Go.Joins
theorem xU(os:Os){H:Type}(enc:TypeId×Value->H):∃x e,DataW.whole enc prog ((World.doorLaid prog 400 os).forCall (λ_ _=>0) ⟨#[],#[.string { data:=#[] },.agg #[.int .i64 0,.int .i64 0,.int .i64 0,.int .i64 0],.string { data:=#[] },.agg #[.int .i64 0,.int .i64 0,.int .i64 0,.int .i64 0],.slice none 0 0],[]⟩).memory f8.params.toList Rows.turnsSpec.vars false #[Value.string { data:=#[] },.agg #[.int .i64 0,.int .i64 0,.int .i64 0,.int .i64 0],.string { data:=#[] },.agg #[.int .i64 0,.int .i64 0,.int .i64 0,.int .i64 0],.slice none 0 0].toList 8=some (x,[],e)/\x=[.lit (.string []),.agg [.lit (.int .i64 0),.lit (.int .i64 0),.lit (.int .i64 0),.lit (.int .i64 0)],.lit (.string []),.agg [.lit (.int .i64 0),.lit (.int .i64 0),.lit (.int .i64 0),.lit (.int .i64 0)],.nil]:=
 ⟨_,[],eX,rfl⟩
theorem wH(os:Os)(e:os.Started)(H:Type)(enc:TypeId×Value->H)(Fi:Stop.Interp): ReturnsInHanded {} Tryz.checked os 8 .any ((Rows.OpenSpec.upto Rows.turnsSpec).preRow enc prog f8 Rows.turnsUptoRow.domain false Rows.turnsUptoRow.laid) (((Rows.OpenSpec.upto Rows.turnsSpec).at Fi).post enc prog f8 false true false false):=by
 obtain⟨x,J,hx,rfl⟩:=xU os enc;refine returnsInHanded_of_row (C:=Tryz.checked) (s:=Rows.OpenSpec.upto Rows.turnsSpec) own e eX func8
  (witness_row_at (enc:=enc) (C:=Tryz.checked) false (World.doorLaid prog 400 os) #[.string { data:=#[] },.agg #[aj 0,aj 0,aj 0,aj 0],.string { data:=#[] },.agg #[aj 0,aj 0,aj 0,aj 0],.slice none 0 0] rfl eX eX eX
   (OpenSpec.preRow_of_cond 8 hx eX (λk Y=>by cases Y;kernel_rfl) eX (BN os _))) ?_
 intro W G u ds gs i y hW _ o _ Z _ _;exact tZ H enc W G u ds gs i y hW (o _ rfl) Z
theorem zK:Rows.TurnsUptoSaid:=
 OpenClaim.holds_of_cond 8 f8 rfl rfl rfl rfl rfl rfl rfl ⟨rfl,rfl,rfl,rfl,rfl⟩ rfl rfl rfl rfl rfl eX func8 eX
  (eO eX) (by unfold Func.isWrapper;first|(rw[bf (by decide +kernel)];kernel_rfl)|(rw[au (by decide +kernel)];exact⟨rfl,rfl⟩))
  (λo e H i _ u=>by rw[OpenClaim.pre_eq_preRow];exact wH o e H i u)
theorem xV(f:FuncId)(fn:Func)(o:Tryz.pinned.checked.prog.funcNamed Rows.turnsUptoRow.func=some f)(i:Tryz.pinned.checked.prog.funcs[f]? = some fn): false=Tryz.pinned.checked.prog.looks []/\∀(j:Nat) t,fn.params[j]? = some t->Tryz.pinned.checked.prog.wantsStandIn t=false:=by
 obtain rfl:f=8:=ki ((show prog.funcNamed Rows.turnsUptoRow.func=some 8 by kernel_rfl).symm.trans o) |>.symm;obtain rfl:fn=f8:=(ki (func8.symm.trans i)).symm;refine⟨eX,λj t ht=>?_⟩;rw[params8]at ht
 have e:([9,23,9,23,29].all λu=>!prog.wantsStandIn u)=true:=eX;exact(show prog.wantsStandIn t=false by simpa using List.all_eq_true.1 e t (by simpa using Array.mem_of_getElem? ht))
theorem turns_card:Rows.TurnsUptoCardSaid:=
 Claim7.holds_tied_plain_at .later [] _ _ _ _ zK (λ_ h=>by cases h) eX (λ_ h=>by cases h) turnsUpto_row_tie rfl ⟨rfl,rfl⟩ eX rfl xV eX
