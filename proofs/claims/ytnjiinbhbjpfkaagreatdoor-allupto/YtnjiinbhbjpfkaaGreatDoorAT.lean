import Derived.Test.YtnjiinbhbjpfkaaGreatDoorCards
import Derived.Test.YtnjiinbhbjpfkaaGreatDoorTie
import Derived.Test.YtnjiinbhbjpfkaaGreatDoorAO
import Derived.LaidMore
import Derived.OpenShut
import Derived.Stop.Joined
import Derived.Lib.SmallJoins
import Derived.Carry
import Derived.ChangeSlices
set_option maxRecDepth 100000
set_option maxHeartbeats 0
set_option linter.all false
namespace Go.Proofs.YtnjiinbhbjpfkaaGreatDoor
open Go.RowKit Go.Proofs.Tryz
section
open Go.ChangeShapes Go.WideShapes Go.ChangeAt Go.WideMaps Go.WideElems Go.Joins
def N0{c:Int}(h:(Lit.int .i64 c).wf=true):-9223372036854775808<=c/\c<=9223372036854775807:=by
 have e:IntKind.i64.min<=c/\c<=IntKind.i64.max:=by simpa[Lit.wf] using h
 exact⟨e.1,e.2⟩
def own:ownKnob prog.godebug=none:=by kernel_rfl
def OF:prog.globalNamed (Rows.chainRow.named.headD "")=some 0:=by kernel_rfl
def N3:(prog.globals[0]?).map (·.type)=some 283:=by kernel_rfl
def Lx:prog.cellsOf 9=1:=by kernel_rfl
def Iu:(Rows.laid_turnstile_code_operandKinds:DataW Unit)=.agg ((List.range 23).map λi=>.lit<|.string (M.KS i).data.toList):=by rfl
def yI{W:aa}(h:laidMetH prog Rows.chainRow.laid W):pf W:=by
 rw[MakeChecks.laidMetH_plain _ _ _ eW]at h;obtain⟨ps,⟨g0,t0,a3,f0,p0,q0,u,a1,J,Y,_,_⟩,_,_⟩:=h;obtain rfl:0=g0:=kH<|OF.symm.trans u;obtain rfl:283=t0:=kH<|N3.symm.trans a1;obtain⟨Z,m1,rfl,G,a2,a4,a0⟩:=DataW.trod_array underlying283 Y;simp only[Prod.mk.injEq]at G;have y:∀e,e<23->W.cell? (az 0 e)=some (.string<|M.KS e):=by
  intro e ho;have h1:=a0 e ho;have o:Z[e]?=some (Z[e]'(by omega)):=bw af;rw[o,Lx]at h1;let⟨S,e1,e2,_⟩:=DataW.trod_string underlying9 h1;have hS:S=M.KS e:=by
   have e3:=Iu.symm.trans G.1;simp only[DataW.agg.injEq]at e3;have H:=congrArg (λl=>l[e]?) e3;simp only[fB,iZ ho,o,Option.map_some,Option.some.injEq]at H;rw[e2]at H;simp only[DataW.lit.injEq,Lit.string.injEq]at H;have e5:=Array.toList_inj.1 H
   cases S;cases hk:M.KS e
   rw[hk]at e5;exact congrArg ByteArray.mk e5.symm
  rw[World.var?_cell u J e,<-hS];rw[Nat.mul_one]at e1;have e6:=congrArg (λl=>l[0]?) e1;simpa[dP,List.getElem?_drop] using e6
 refine⟨?_,y⟩;have:=y 0 af;exact an W (az 0 0) this
def Tryz.laidOut:laidOutB prog=true:=by kernel_rfl
