import Derived.Test.YtnjiinbhbjpfkaaGreatDoorAT
import Derived.Test.YtnjiinbhbjpfkaaGreatDoorAw
import Derived.Deep.DeepHandedRow
import Derived.Deep.SlicePairs
set_option maxRecDepth 100000
set_option maxHeartbeats 0
set_option linter.all false
namespace Go.Proofs.YtnjiinbhbjpfkaaGreatDoor
open Go.RowKit Go.Proofs.Tryz
section
open Go.ChangeShapes Go.WideShapes Go.ChangeAt Go.WideMaps Go.WideElems Go.Joins
open Go.ChangeMaps (open_string shut_string)
variable {H:Type}{W w:aa}{e:Nat}{i:Bool}{spare:Nat->Bool}{t0 t1 t2 t3 t4:TypeId}
theorem Gs(d:DataW H):1<=Rows.uptoBulk d:=by
 cases d with
 |lit l=>cases l<;>simp[Rows.uptoBulk]
 |_=>simp[Rows.uptoBulk]
theorem Gt{d:DataW H}{l:List (DataW H)}(h:d∈l):Rows.uptoBulk d<=Rows.uptoBulkAll l:=by
 induction l with
 |nil=>cases h
 |cons x r e=>
  grind[Rows.uptoBulkAll]
theorem Ab(l:List (DataW H)):l.length<=Rows.uptoBulkAll l:=by
 induction l with
 |nil=>grind
 |cons x r e=>grind[Gs,Rows.uptoBulkAll,List.length_cons]
def Tryz.Gq:prog.cellsOf 169=2:=by kernel_rfl
theorem Ig{enc:TypeId×Value->H}{sp:Nat->Bool}{J:Bool}{n:Nat}{v:Value}{x:DataW H×List MemPlace}(h:DataW.trod enc prog W 0 sp J n 56 [v]=some x)(hb:Rows.uptoBulk x.1<=1048576):∃q:Option Addr×Nat×Nat×List (Int×Nat),v=.slice q.1 q.2.1 q.2.2.1/\q.2.1=q.2.2.2.length/\q.2.1<=1000000000/\(∀y,y∈q.2.2.2->y.2<256)/\(q.1=none->q.2.2.2=[])/\∀b,q.1=some b->q.2.2.2≠[]->b.block<W.heap.size/\∀j y,q.2.2.2[j]?=some y->W.cell? (b.add<|j*2)=some (ah y.1)/\W.cell? (b.add<|j*2+1)=some (dz y.2):=by
 rcases Go.Deep.open_slice_pairs Tryz.underlying56 underlying169 Tryz.Gq rfl rfl eW eW h with⟨h1,_⟩|⟨a,len,cap,m,n',V0,V1,D0,D1,P0,P1,h1,_,hl,hm,a2,hx,hi⟩
 .have e:v=.slice none 0 0:=iE h1
  exact⟨(none,0,0,[]),e,rfl,di _,λy hy=>(by cases hy),λ_=>rfl,λb G=>(by cases G)⟩
 have e:v=.slice (some a) len cap:=iE h1
 have a4:len<=m:=by rw[a2];split<;>omega
 have each:∀j,j<len->∃y:Int×Nat,y.2<256/\W.cell? (a.add<|j*2)=some (ah y.1)/\W.cell? (a.add<|j*2+1)=some (dz y.2):=λj o=>by
  let⟨k1,k2,k3,k4⟩:=hi j af;let⟨z,e0,_,_⟩:=DataW.trod_int underlying3 k3;let⟨b,e1,_,wb⟩:=DataW.trod_int underlying5 k4;simp at e0 e1;have hw:0<=b/\b<=255:=by
   have h':IntKind.u8.min<=b/\b<=IntKind.u8.max:=by simpa[Lit.wf] using wb
   exact h'
  refine⟨(z,b.toNat),af,ey,?_⟩;grind
 let⟨Y,hY⟩:=Go.Deep.choose_lt each;have a3:len<=1048576:=by
  rw[hx]at hb;simp only[Rows.uptoBulk]at hb;have:=Ab<|(List.range len).map λi=>(DataW.agg [D0 i,D1 i]:DataW H);rw[eD,List.length_range]at this;omega
 refine⟨(some a,len,cap,(List.range len).map Y),e,eG,by show len<=_;omega,λy hy=>?_,λh=>(by cases h),λb G a1=>?_⟩
 .obtain⟨j,o,rfl⟩:=eX.1 hy;exact(hY j<|fY.1 o).1
 have eb:a=b:=by injection G
 subst eb;have a0:∀j y,((List.range len).map Y)[j]?=some y->j<len/\Y j=y:=λj y o=>by
  rw[fB]at o;by_cases u:j<len
  .rw[iZ u]at o;exact⟨u,iE o⟩
  rw[dO fV]at o
  cases o
 refine⟨?_,λj y o=>?_⟩
 .have Z:0<len:=by
   rcases Nat.eq_zero_or_pos len with Z|Z
   .exact dr (by show(List.range len).map Y=[];rw[Z];rfl) a1
   exact Z
  have:=an W _<|(hY 0 Z).2.1;rw[F.jN]at this;exact this
 obtain⟨u,rfl⟩:=a0 j y o;exact(hY j u).2
def Tryz.I0:prog.cellsOf 76=4:=by kernel_rfl
def Tryz.Cb:prog.cellsOf 3=1:=by kernel_rfl
def Tryz.I1:prog.cellsOf 2=1:=by kernel_rfl
def Tryz.Gp:prog.cellsOf 56=1:=by kernel_rfl
theorem MM{α:Type}:∀{l:List α},l.length=4->∃a b c d,l=[a,b,c,d]
 | [a,b,c,d],_=>⟨a,b,c,d,rfl⟩
def Au{enc:TypeId×Value->H}{sp:Nat->Bool}{o:Bool}{n:Nat}{a:Addr}{i:Nat}{cs:List Value}{x:DataW H×List MemPlace}(h1:W.cells? 0 (a.add<|i*4) 4=some cs)(h:DataW.trod enc prog W 0 sp o n 76 cs=some x)(hb:Rows.uptoBulk x.1<=1048576):∃q:(Int×Int×Int)×(Option Addr×Nat×Nat×List (Int×Nat)),W.cell? (a.add<|i*4)=some (ah q.1.1)/\W.cell? (a.add<|i*4+1)=some (ah q.1.2.1)/\W.cell? (a.add<|i*4+2)=some (ah q.1.2.2)/\W.cell? (a.add<|i*4+3)=some (.slice q.2.1 q.2.2.1 q.2.2.2.1)/\(-9223372036854775808<=q.1.2.2/\q.1.2.2<=9223372036854775807)/\F.D2 W q.2.1 q.2.2.1 q.2.2.2.2:=by
 obtain⟨_,u,e⟩:=World.cells?_some h1;obtain⟨y0,y1,y2,y3,k,hx,_,g0,g1,g2,g3⟩:=trod_struct4 underlying76 h;obtain⟨v0,v1,v2,v3,rfl⟩:=MM u
 obtain⟨z0,e0,_,_⟩:=DataW.trod_int underlying3 (by simpa[Tryz.Cb] using g0);obtain⟨z1,e1,_,_⟩:=DataW.trod_int underlying3 (by simpa[Tryz.Cb] using g1);obtain⟨z2,e2,_,w2⟩:=DataW.trod_int underlying2 (by simpa[Tryz.I1] using g2);simp at e0 e1 e2;subst e0 e1 e2;rw[hx]at hb;simp only[Rows.uptoBulk,Rows.uptoBulkAll]at hb;obtain⟨q,hq,G,y,Z,J,Y⟩:=Ig (by simpa[Tryz.Gp] using g3) af;have c0:=e 0 af;have c1:=e 1 af;have c2:=e 2 af;have c3:=e 3 af;rw[Go.Deep.add_add]at c0 c1 c2 c3;refine⟨((z0,z1,z2),q),iE c0,iE c1,iE c2,?_,N0 w2,G,y,Z,J,Y⟩;rw[<-hq];simpa using c3
def Cq{enc:TypeId×Value->H}{sp:Nat->Bool}{y:Bool}{fuel:Nat}{a0:Option Addr}{len cap:Nat}{x:DataW H×List MemPlace}(h:DataW.trod enc prog W 0 sp y fuel 29 [.slice a0 len cap]=some x)(hb:Rows.uptoBulk x.1<=1048576):len<=1048576/\∃kd hh tk ia iB ic il,F.JH W a0 len kd hh tk ia iB ic il:=by
 rcases Go.Deep.open_slice underlying29 h with⟨u,_⟩|⟨a,a1,a2,m,n',D,Pl,u,_,hl,hm,Y,hx,hi⟩
 .simp at u;obtain⟨rfl,rfl,rfl⟩:=u;exact⟨af,λ_=>0,λ_=>0,λ_=>0,λ_=>none,λ_=>0,λ_=>0,λ_=>[],⟨λ_=>rfl,λa e=>(by cases e),λi hi=>dr hi<|Nat.not_lt_zero i,λi hi=>dr hi<|Nat.not_lt_zero i⟩⟩
 simp at u;obtain⟨rfl,rfl,rfl⟩:=u;have a4:len<=m:=by rw[Y];split<;>omega
 rw[hx]at hb;simp only[Rows.uptoBulk]at hb;have Z:=Ab<|(List.range len).map D;rw[eD,List.length_range]at Z;have each:∀i,i<len->∃q:(Int×Int×Int)×(Option Addr×Nat×Nat×List (Int×Nat)),W.cell? (a.add<|i*4)=some (ah q.1.1)/\W.cell? (a.add<|i*4+1)=some (ah q.1.2.1)/\W.cell? (a.add<|i*4+2)=some (ah q.1.2.2)/\W.cell? (a.add<|i*4+3)=some (.slice q.2.1 q.2.2.1 q.2.2.2.1)/\(-9223372036854775808<=q.1.2.2/\q.1.2.2<=9223372036854775807)/\F.D2 W q.2.1 q.2.2.1 q.2.2.2.2:=λi o=>by
  let⟨cs,k1,k2⟩:=hi i af;rw[Tryz.I0]at k1;have J:Rows.uptoBulk (D i)<=1048576:=by
   have a3:=Gt (l:=(List.range len).map D)<|eX.2 ⟨i,fY.2 o,rfl⟩;omega
  exact Au k1 k2 J
 let⟨Q,hQ⟩:=Go.Deep.choose_lt each;refine⟨af,λi=>(Q i).1.1,λi=>(Q i).1.2.1,λi=>(Q i).1.2.2,λi=>(Q i).2.1,λi=>(Q i).2.2.1,λi=>(Q i).2.2.2.1,λi=>(Q i).2.2.2.2,⟨λe=>(by cases e),λb G i o=>?_,λi o=>(hQ i o).2.2.2.2.2,λi o=>(hQ i o).2.2.2.2.1⟩⟩;have eb:a=b:=by injection G
 subst eb;let⟨k1,k2,k3,k4,_,_⟩:=hQ i o;refine⟨?_,k1,k2,k3,k4⟩;have:=an W _ k1;rw[F.jN]at this;omega
theorem Cr{enc:TypeId×Value->H}{P:Program}{args:Array Value}{ds:List (DataW H)}{ps:List MemPlace}(h:DataW.TrodAll enc P w e spare i [t0,t1,t2,t3,t4] args.toList ds ps):∃W G o v3 y d0 Z d2 Y d4 u p1 J p3 p4,args=#[W,G,o,v3,y]/\ds=[d0,Z,d2,Y,d4]/\ps=u++(p1++(J++(p3++p4)))/\DataW.Trod enc P w e spare i t0 W d0 u/\DataW.Trod enc P w e spare i t1 G Z p1/\DataW.Trod enc P w e spare i t2 o d2 J/\DataW.Trod enc P w e spare i t3 v3 Y p3/\DataW.Trod enc P w e spare i t4 y d4 p4:=by
 obtain⟨W,r0,d0,e0,u,q0,a0,rfl,rfl,h0,k0⟩:=trodAll_cons h;obtain⟨G,r1,Z,e1,p1,q1,rfl,rfl,rfl,h1,k1⟩:=trodAll_cons k0;obtain⟨o,r2,d2,e2,J,q2,rfl,rfl,rfl,h2,k2⟩:=trodAll_cons k1;obtain⟨v3,r3,Y,e3,p3,q3,rfl,rfl,rfl,h3,k3⟩:=trodAll_cons k2;obtain⟨y,r4,d4,e4,p4,q4,rfl,rfl,rfl,h4,k4⟩:=trodAll_cons k3;obtain⟨rfl,rfl,rfl⟩:=trodAll_nil k4;exact⟨W,G,o,v3,y,d0,Z,d2,Y,d4,u,p1,J,p3,p4,ey,rfl,eG,h0,h1,h2,h3,h4⟩
def yH{enc:TypeId×Value->H}{P:Program}{v0 v1 v2 v3 v4:Value}{d0 Y d2 W Z:DataW H}{J G o y u:List MemPlace}(h0:DataW.Trod enc P w e spare i t0 v0 d0 J)(h1:DataW.Trod enc P w e spare i t1 v1 Y G)(h2:DataW.Trod enc P w e spare i t2 v2 d2 o)(h3:DataW.Trod enc P w e spare i t3 v3 W y)(h4:DataW.Trod enc P w e spare i t4 v4 Z u):DataW.TrodAll enc P w e spare i [t0,t1,t2,t3,t4] [v0,v1,v2,v3,v4] [d0,Y,d2,W,Z] (J++(G++(o++(y++u)))):=⟨J,G++(o++(y++u)),h0,trodAll_mk4 h1 h2 h3 h4,rfl⟩
def Tryz.ym:prog.cellsOf 23=4:=by kernel_rfl
