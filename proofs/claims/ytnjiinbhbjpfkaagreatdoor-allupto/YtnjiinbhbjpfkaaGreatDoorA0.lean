/- For every input of bulk at most 1048576 the law All returns true, and its arguments read as they did; the table of the operands letters is taken as its initialiser lays it. -/
import Derived.Test.YtnjiinbhbjpfkaaGreatDoorAx
set_option maxRecDepth 100000
set_option maxHeartbeats 0
set_option linter.all false
namespace Go.Proofs.YtnjiinbhbjpfkaaGreatDoor
open Go.RowKit Go.Proofs.Tryz
section
open Go.ChangeShapes Go.WideShapes Go.ChangeAt Go.WideMaps Go.WideElems Go.Joins
open Go.ChangeMaps (open_string shut_string)
def Ja{W:aa}(h:laidMetH prog Rows.allUptoRow.laid W):pf W:=yI h
def Jb(os:Os)(args:Array Value):laidMetH prog Rows.allUptoRow.laid ((World.doorLaid prog 400 os).forCall (λ_ _=>0) ⟨#[],args,[]⟩).memory:=
 laidMetH_of_parts3 (fuel:=8) (laidMet_of_run' 8 eW eW) eW eW
def yn(H:Type)(enc:TypeId×Value->H)(W:aa)(a4:Nat)(args:Array Value)(ds gs:List (DataW H))(o:List MemPlace)(i:∀(j:Nat) t v,f11.params[j]?=some t->args[j]?=some v->Value.okWide prog W .any a4 t v)(hW:DataW.Whole enc prog f11.params.toList Rows.allSpec.vars false W args.toList ds gs o)(hk:Rows.uptoSmall H (ds++gs)=true)(hL:laidMetH prog Rows.allUptoRow.laid W):Calls prog 11 args W λe Z=>∃v,e=.returned v/\Rows.allSpec.post enc prog f11 false true false false W args v Z:=by
 have y:=hW;obtain⟨p,q,a3,hV,rfl,aR,aQ⟩:=hW;have hA:=a3;rw[params11]at hA i;obtain⟨v0,v1,v2,v3,v4,d0,d1,d2,d3,d4,p0,p1,p2,p3,p4,rfl,rfl,rfl,h0,h1,h2,h3,h4⟩:=Cr hA;obtain⟨rfl,rfl⟩:=trodVars_none hV;obtain⟨s,rfl,rfl,rfl,hs⟩:=open_string underlying9 (i 0 9 v0 rfl rfl) h0;obtain⟨u0,u1,u2,u3,y0,y1,y2,y3,m,rfl,rfl,rfl,a6,aL,aG,a7⟩:=open_agg4 underlying23 eW Tryz.ym (i 1 23 v1 rfl rfl) h1;obtain⟨c0,e0,rfl,aD⟩:=DataW.trod_int underlying3 a6;obtain⟨c1,e1,rfl,aO⟩:=DataW.trod_int underlying3 aL;obtain⟨J,e2,rfl,aA⟩:=DataW.trod_int underlying3 aG;obtain⟨Y,e3,rfl,a9⟩:=DataW.trod_int underlying3 a7;simp at e0 e1 e2 e3;subst e0 e1 e2 e3;obtain⟨t,rfl,rfl,rfl,ht⟩:=open_string underlying9 (i 2 9 v2 rfl rfl) h2;obtain⟨u4,u5,u6,u7,y4,y5,y6,y7,m',rfl,rfl,rfl,aF,aM,aN,aC⟩:=open_agg4 underlying23 eW Tryz.ym (i 3 23 v3 rfl rfl) h3;obtain⟨b0,e0,rfl,aI⟩:=DataW.trod_int underlying3 aF;obtain⟨b1,e1,rfl,a8⟩:=DataW.trod_int underlying3 aM;obtain⟨b2,e2,rfl,aH⟩:=DataW.trod_int underlying3 aN;obtain⟨b3,e3,rfl,a5⟩:=DataW.trod_int underlying3 aC;simp at e0 e1 e2 e3;subst e0 e1 e2 e3;obtain⟨a0,len,cap,rfl⟩:=okWide_slice underlying29<|i 4 29 v4 rfl rfl;have aJ:=h4;obtain⟨aP,hf⟩:=h4;simp only[gY,List.nil_append]at y hk;have aK:=eQ hk;simp only[Rows.uptoBulkAll,Rows.uptoBulk]at aK
 have u:∀(Z:aa),Below (fp W) W Z->DataW.Trod enc prog Z 0 (λb=>decide (b<W.heap.size)) true 29 (.slice a0 len cap) d4 p4:=
  λZ hn=>Below.trod Tryz.laidOut eW (eQ eW) aJ hn<|λx hx=>by simpa using y.lt x<|by simp[hx]
 let⟨a2,kd,hh,tk,ia,iB,ic,il,aB⟩:=Cq hf (by show Rows.uptoBulk d4<=_;omega);have es:s.data.toList.length=s.size:=eG
 have et:t.data.toList.length=t.size:=eG
 refine(F.OX s t c0 c1 J Y b0 b1 b2 b3 a0 len cap kd hh tk ia iB ic il W pY af pY af (Ja hL) a2 aB<|λs c0 c1 J Y w h1 h2 h3 h4=>Fq s c0 c1 J Y w h1 h2 h3 h4).mono λe Z ⟨he,hB⟩=>?_;subst he;have a1:=yH (spare:=λb=>decide (b<W.heap.size)) (shut_string underlying9 hs) (shut_agg4 (v0:=.int .i64 c0) (v1:=.int .i64 c1) (v2:=.int .i64 J) (v3:=.int .i64 Y) (y0:=(.lit<|.int .i64 c0,[])) (y1:=(.lit<|.int .i64 c1,[])) (y2:=(.lit<|.int .i64 J,[])) (y3:=(.lit<|.int .i64 Y,[])) underlying23 eW Tryz.ym ⟨1,by simp[DataW.trod,underlying3,aD]⟩ ⟨1,by simp[DataW.trod,underlying3,aO]⟩ ⟨1,by simp[DataW.trod,underlying3,aA]⟩ ⟨1,by simp[DataW.trod,underlying3,a9]⟩) (shut_string underlying9 ht) (shut_agg4 (v0:=.int .i64 b0) (v1:=.int .i64 b1) (v2:=.int .i64 b2) (v3:=.int .i64 b3) (y0:=(.lit<|.int .i64 b0,[])) (y1:=(.lit<|.int .i64 b1,[])) (y2:=(.lit<|.int .i64 b2,[])) (y3:=(.lit<|.int .i64 b3,[])) underlying23 eW Tryz.ym ⟨1,by simp[DataW.trod,underlying3,aI]⟩ ⟨1,by simp[DataW.trod,underlying3,a8]⟩ ⟨1,by simp[DataW.trod,underlying3,aH]⟩ ⟨1,by simp[DataW.trod,underlying3,a5]⟩)<|u _ hB;refine⟨_,rfl,[.lit<|.string s.data.toList,.agg [.lit<|.int .i64 c0,.lit<|.int .i64 c1,.lit<|.int .i64 J,.lit<|.int .i64 Y],.lit<|.string t.data.toList,.agg [.lit<|.int .i64 b0,.lit<|.int .i64 b1,.lit<|.int .i64 b2,.lit<|.int .i64 b3],d4],[],_,[],_,[],y,?_,a1,rfl,hB.frame _,λh=>by cases h⟩;exact trodAll_mk1<|shut_bool underlying4 _
def DM(os:Os){H:Type}(enc:TypeId×Value->H):∃x e,DataW.whole enc prog ((World.doorLaid prog 400 os).forCall (λ_ _=>0) ⟨#[],#[.string {data:=#[]},.agg #[.int .i64 0,.int .i64 0,.int .i64 0,.int .i64 0],.string {data:=#[]},.agg #[.int .i64 0,.int .i64 0,.int .i64 0,.int .i64 0],.slice none 0 0],[]⟩).memory f11.params.toList Rows.allSpec.vars false #[Value.string {data:=#[]},.agg #[.int .i64 0,.int .i64 0,.int .i64 0,.int .i64 0],.string {data:=#[]},.agg #[.int .i64 0,.int .i64 0,.int .i64 0,.int .i64 0],.slice none 0 0].toList 8=some (x,[],e)/\x=[.lit<|.string [],.agg [.lit<|.int .i64 0,.lit<|.int .i64 0,.lit<|.int .i64 0,.lit<|.int .i64 0],.lit<|.string [],.agg [.lit<|.int .i64 0,.lit<|.int .i64 0,.lit<|.int .i64 0,.lit<|.int .i64 0],.nil]:=
 ⟨_,[],eW,rfl⟩
def A2(os:Os)(e:os.Started)(H:Type)(enc:TypeId×Value->H)(Fi:Stop.Interp):ReturnsInHanded {} Tryz.checked os 11 .any ((Rows.OpenSpec.upto Rows.allSpec).preRow enc prog f11 Rows.allUptoRow.domain false Rows.allUptoRow.laid) (((Rows.OpenSpec.upto Rows.allSpec).at Fi).post enc prog f11 false true false false):=by
 obtain⟨x,Y,Z,rfl⟩:=DM os enc;refine returnsInHanded_of_row (C:=Tryz.checked) (s:=Rows.OpenSpec.upto Rows.allSpec) own e eW func11
  (witness_row_at (enc:=enc) (C:=Tryz.checked) false (World.doorLaid prog 400 os) #[.string {data:=#[]},.agg #[ah 0,ah 0,ah 0,ah 0],.string {data:=#[]},.agg #[ah 0,ah 0,ah 0,ah 0],.slice none 0 0] rfl eW eW eW
   (OpenSpec.preRow_of_cond 11 Z eW (λk hk=>by cases hk;kernel_rfl) eW<|Jb os _)) ?_
 intro W y u ds gs i J hW _ o _ hL _ _;exact yn H enc W y u ds gs i J hW (o _ rfl) hL
def GD:Rows.AllUptoSaid:=
 OpenClaim.holds_of_cond 11 f11 rfl rfl rfl rfl rfl rfl rfl ⟨rfl,rfl,rfl,rfl,rfl⟩ rfl rfl rfl rfl rfl eW func11 eW
  (eQ eW) (by unfold Func.isWrapper;first|(rw[bf<|by decide +kernel];kernel_rfl)|(rw[av<|by decide +kernel];exact⟨rfl,rfl⟩))
  (λo e H i _ u=>by rw[OpenClaim.pre_eq_preRow];exact A2 o e H i u)
def DN(f:FuncId)(fn:Func)(y:Tryz.pinned.checked.prog.funcNamed Rows.allUptoRow.func=some f)(i:Tryz.pinned.checked.prog.funcs[f]?=some fn):false=Tryz.pinned.checked.prog.looks []/\∀(j:Nat) t,fn.params[j]?=some t->Tryz.pinned.checked.prog.wantsStandIn t=false:=by
 obtain rfl:f=11:=kH ((show prog.funcNamed Rows.allUptoRow.func=some 11 by kernel_rfl).symm.trans y) |>.symm;obtain rfl:fn=f11:=(kH<|func11.symm.trans i).symm;refine⟨eW,λj t ht=>?_⟩;rw[params11]at ht
 have e:([9,23,9,23,29].all λu=>!prog.wantsStandIn u)=true:=eW
 exact(show prog.wantsStandIn t=false by simpa using List.all_eq_true.1 e t<|by simpa using Array.mem_of_getElem? ht)
theorem all_card:Rows.AllUptoCardSaid:=
 Claim7.holds_tied_plain_at .later [] _ _ _ _ GD (λ_ h=>by cases h) eW (λ_ h=>by cases h) allUpto_row_tie rfl ⟨rfl,rfl⟩ eW rfl DN eW
