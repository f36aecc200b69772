import Derived.Test.YtnjiinbhbjpfkaaGreatDoorCards
import Derived.Test.YtnjiinbhbjpfkaaGreatDoorTie
import Derived.Test.YtnjiinbhbjpfkaaGreatDoorKF
import Derived.ProofKit
import Derived.LaidMore
import Derived.OpenShut
import Derived.Stop.Joined
import Derived.Lib.SmallJoins
import Derived.Carry
import Derived.ChangeSlices
set_option maxRecDepth 100000
set_option maxHeartbeats 0
set_option linter.all false
namespace Go.Proofs.YtnjiinbhbjpfkaaGreatDoor
open Go.RowKit Go.Proofs.Tryz
section
open Go.ChangeShapes Go.WideShapes Go.ChangeAt Go.WideMaps Go.WideElems Go.Joins
theorem Ko{c:Int}(h:(Lit.int .i64 c).wf=true):-9223372036854775808<=c/\c<=9223372036854775807:=by
 have e:IntKind.i64.min<=c/\c<=IntKind.i64.max:=by simpa[Lit.wf] using h
 exact⟨e.1,e.2⟩
theorem own:ownKnob prog.godebug=none:=by kernel_rfl
theorem Lm:prog.globalNamed (Rows.chainRow.named.headD "")=some 0:=by kernel_rfl
theorem Kr:(prog.globals[0]?).map (·.type)=some 283:=by kernel_rfl
theorem Ic:prog.cellsOf 9=1:=by kernel_rfl
theorem EW:(Rows.laid_turnstile_code_operandKinds:DataW Unit)=.agg ((List.range 23).map λi=>.lit (.string (M.KS i).data.toList)):=by rfl
theorem wI{W:World}(h:laidMetH prog Rows.chainRow.laid W):mB W:=by
 rw[MakeChecks.laidMetH_plain _ _ _ (by kernel_rfl)]at h;obtain⟨ps,⟨g0,t0,a3,f0,p0,q0,u,a1,J,Y,_,_⟩,_,_⟩:=h;obtain rfl:0=g0:=g8 (Lm.symm.trans u);obtain rfl:283=t0:=g8 (Kr.symm.trans a1);obtain⟨Z,m1,rfl,G,a2,a4,a0⟩:=DataW.trod_array underlying283 Y;simp only[Prod.mk.injEq]at G;have y:∀e,e<23->W.cell? ⟨0,e,none⟩=some (.string (M.KS e)):=by
  intro e ho;have h1:=a0 e ho;have o:Z[e]? = some (Z[e]'(by omega)):=bn (by omega);rw[o,Ic]at h1;obtain⟨S,e1,e2,_⟩:=DataW.trod_string underlying9 h1;have hS:S=M.KS e:=by
   have e3:=EW.symm.trans G.1;simp only[DataW.agg.injEq]at e3;have H:=congrArg (λl=>l[e]?) e3;simp only[eo,fW ho,o,Option.map_some,Option.some.injEq]at H;rw[e2]at H;simp only[DataW.lit.injEq,Lit.string.injEq]at H;have e5:=Array.toList_inj.1 H
   cases S;cases hk:M.KS e
   rw[hk]at e5;exact congrArg ByteArray.mk e5.symm
  rw[World.var?_cell u J e,<-hS];rw[Nat.mul_one]at e1;have e6:=congrArg (λl=>l[0]?) e1;simpa[dh,List.getElem?_drop] using e6
 refine⟨?_,y⟩;have:=y 0 (by omega);exact av W ⟨0,0,none⟩ this
theorem Tryz.laidOut:laidOutB prog=true:=by kernel_rfl
