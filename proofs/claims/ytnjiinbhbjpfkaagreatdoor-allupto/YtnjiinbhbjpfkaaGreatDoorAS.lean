import Derived.Test.YtnjiinbhbjpfkaaGreatDoorAO
import Derived.Test.YtnjiinbhbjpfkaaGreatDoorAG
import Derived.Test.YtnjiinbhbjpfkaaGreatDoorAH
set_option maxRecDepth 100000
set_option maxHeartbeats 0
set_option linter.all false
namespace Go.Proofs.YtnjiinbhbjpfkaaGreatDoor
open Go.RowKit Go.Proofs.Tryz
namespace F
variable {ad:Option Addr}{cap eb pb sb:Nat}{vb:Vs}{w:aa}
theorem oE{kd:B.Kd}{c:B.Cy}(h:kd.cy=some c):An kd vb=P0 vb.cb:=by grind[An]
theorem oF{kd:B.Kd}(h:kd.cy=none):An kd vb=.pointer none:=by grind[An]
def sD(sb pb n:Nat)(kd:B.Kd)(vb:Vs)(k:Nat):Prop:=k=sb\/k=pb\/Own n kd vb k
def qB(n:Nat)(kd:B.Kd)(vb:Vs)(kd':B.Kd)(vb':Vs)(sz:Nat):Prop:=∀k,Own n kd' vb' k->Own n kd vb k\/sz<=k
theorem qB.refl(n:Nat)(kd:B.Kd)(vb:Vs)(sz:Nat):qB n kd vb kd vb sz:=λ_ h=>ag h
def NU(w wr:aa)(eb sb pb n:Nat)(kd:B.Kd)(vb:Vs)(s:B.St)(nr:Nat)(kd':B.Kd):Prop:=
 ∃vb',kG wr sb pb eb n kd' vb' s.2.2/\B.jP kd' nr n s/\dN (sD sb pb n kd vb) w wr/\qB n kd vb kd' vb' w.heap.size/\vb'.f=vb.f
theorem kG.kV{n:Nat}{kd:B.Kd}{M:Nat->List B.V}(h:kG w sb pb eb n kd vb M):sb≠pb/\∀k,Own n kd vb k->k≠sb/\k≠pb:=by
 let⟨G,i,_⟩:=id h.p.p;refine⟨eI h.b i eo,λk u=>?_⟩;let⟨y,T,o,e⟩:=h.ty k u;refine⟨eI o h.b ?_,eI o i ?_⟩
 .grind
 grind
theorem yJ{n:Nat}{kd:B.Kd}{M:Nat->List B.V}{c:B.Cy}{x:Value}{cc:Nat}(y:w.heap[sb]?=some (.cells #[dD pb n n,.func (.func 59) #[P0 eb] #[],x,ah<|wrap64 ((kd.un+1:Nat):Int),ah<|wrap64 (kd.fo:Int),ah<|wrap64 (cc:Int)] 207 (0,0)))(hx:((B.unit M kd.on c).2.nx=n/\x=.pointer none/\cc=kd.cc+1)\/((B.unit M kd.on c).2.nx≠n/\x=P0 vb.cb/\cc=kd.cc))(u:pt w pb n (B.unit M kd.on c).1 vb.f M)(G:nA w vb.cb vb.rd sb n ad cap (B.unit M kd.on c).2):kG w sb pb eb n (B.mD M n kd c) {vb with ad:=ad,cap:=cap} M:=by
 rcases hx with⟨e,rfl,rfl⟩|⟨e,rfl,rfl⟩
 .have o:B.mD M n kd c=⟨(B.unit M kd.on c).1,none,kd.un+1,kd.fo,kd.cc+1⟩:=by unfold B.mD;rw[bf e]
  rw[o];exact⟨y,u,λc i=>by cases i⟩
 have o:B.mD M n kd c=⟨(B.unit M kd.on c).1,some (B.unit M kd.on c).2,kd.un+1,kd.fo,kd.cc⟩:=by unfold B.mD;rw[av e]
 rw[o];refine⟨y,u,λH i=>?_⟩;grind
theorem E5{n k:Nat}{kd:B.Kd}{M:Nat->List B.V}{c:B.Cy}{sz:Nat}(G:kd.cy=some c)(y:yr vb.ad ad sz)(i:Own n (B.mD M n kd c) {vb with ad:=ad,cap:=cap} k):Own n kd vb k\/sz<=k:=by
 have o:∀p,(B.mD M n kd c).on p=true->kd.on p=true:=λp u=>by
  have e:(B.mD M n kd c).on=(B.unit M kd.on c).1:=by unfold B.mD;split<;>rfl
  rw[e]at u;exact B.nG u
 rcases i with⟨p,a,b,d,e⟩|⟨_,i⟩
 .exact ag<|ag ⟨p,a,b,o p d,e⟩
 exact(y.Ls i).imp (λh=>ak ⟨ey,h⟩) id
theorem D5(Q:Nat->Prop)(eb sb pb n nr u:Nat)(kd:B.Kd)(vb:Vs)(s:B.St)(w:aa)(hR:DS w Q eb sb pb n nr kd vb s)(hu:u<=50):Calls prog 69 #[P0 sb,.int .i64 u] w λe w'=>e=.returned (.tuple #[])/\NU w w' eb sb pb n kd vb s nr (B.work s.2.1 nr s.2.2 n u kd):=by
 have KR:=bj hR;obtain⟨c1,c2,_⟩:=hR.hs.cells;have c0:=hR.hs.c0;have ls:=ch hR.hs.b;have hn:=hR.n2;clear hR;rcases hcy:kd.cy with _|aY
 all_goals
  first
  |rw[oF hcy]at c2
   have a6:=bj hcy;clear hcy;go_in;go_wp2_with fail
   refine(vO Q eb sb pb n nr s.2.1 w c0 c1 KR.hv (λk G=>(KR.hq k G).1) hn KR.roots).mono ?_;rintro e w1 ⟨cb,rd,ad,cap,rfl,J,aB,aH⟩;have a2:=(J.block sb ls).trans KR.hs.b;have x2:w1.cell? ⟨sb,2,none⟩=some (.pointer none):=by rw[oF a6]at a2;simp[World.cell?,a2]
   have y2:w1.frozen? ⟨sb,2,none⟩=false:=pk a2
   have aS:Hid (NU w (w1.setCell ⟨sb,2,none⟩<|P0 cb) eb sb pb n kd vb s nr {kd with cy:=some (B.begun s.2.1 nr)}):=by
    have hS:=KR.hs;have aI:=hS.kV;have aW:∀k,pr cb rd ad k->k≠sb:=λk G=>by grind
    refine⟨{vb with cb:=cb,rd:=rd,ad:=ad,cap:=cap},⟨?_,?_,?_⟩,B.vp KR.hh KR.n1,?_,?_,rfl⟩
    .simp[World.setCell,dp,a2,An]
    .exact(hS.p.block (J.block pb hS.p.p.lt)<|λp a b d=>J.block _ (hS.p.s p a b d).lt).block (ab _ _ _ _<|λe=>aI.1 e.symm)<|λp a b d=>ab _ _ _ _ (aI.2 _<|ag ⟨p,a,b,d,rfl⟩).1
    .grind[B.begun,Below.heap_setCell,nA.block]
    .exact bq ⟨J.os,J.tape,J.output,J.size,λk G _=>J.block k G⟩ (ag<|ag rfl) _
    intro k G;rcases G with⟨p,a,b,d,e⟩|⟨_,G⟩
    .exact ag<|ag ⟨p,a,b,d,e⟩
    exact ak<|aB k G
   have HU:Hid (B.eL s.2.2 n u {kd with cy:=some (B.begun s.2.1 nr)}=B.work s.2.1 nr s.2.2 n u kd):=by
    show _=_;unfold B.work;rw[a6.out]
   clear J aB aH a2;clear c0 c1 c2;go_wp2_with fail
  |rw[oE hcy]at c2
   have a6:=bj hcy;clear hcy;have aS:Hid (NU w w eb sb pb n kd vb s nr kd):=⟨vb,KR.hs,KR.hh,dx _ _,qB.refl _ _ _ _,rfl⟩;have HU:Hid (B.eL s.2.2 n u kd=B.work s.2.1 nr s.2.2 n u kd):=by
    show _=_;unfold B.work;rw[a6.out]
   go_in;go_wp2_with fail
   clear c0 c1 c2
 all_goals
  go_loopw[4] (λi wr=>∃j:Nat,j<=u/\i=.int .i64 j/\Hid (∃kd',NU w wr eb sb pb n kd vb s nr kd'/\B.eL s.2.2 n (u-j) kd'=B.work s.2.1 nr s.2.2 n u kd)) (λi _=>u-(intOf i).toNat)
  case atStart=>exact⟨0,af,rfl,_,aS,HU⟩
  case round=>
   obtain⟨j,hj,rfl,hX⟩:=hrel;obtain⟨kd',⟨o,hS,hH,hO,hG,a3⟩,hU⟩:=hX;obtain⟨_,d2,_,_,_,_,_,_,_⟩:=hS.cells;have lw:=ch hS.b;have HS:=bj hS;have HQ:=bj<|bh hH<|bh hO<|bh hG<|bh hU a3;clear hS hH hO hG hU a3;by_cases b3:j<u
   .have a9:(j:Int)<u:=af
    cases hcy':kd'.cy with
    |none=>
     rw[oF hcy']at d2;have y:=bj hcy';clear hcy';go_wp2_with fail
     go_end0;obtain⟨hH,hO,hG,hU,a3⟩:=HQ;rw[B.qL y]at hU;exact⟨rfl,by rw[<-hU];exact⟨o,HS,hH,hO,hG,a3⟩⟩
    |some c=>
     rw[oE hcy']at d2;have y:=bj hcy';clear hcy';obtain⟨hx,T,hT,a8⟩:=HQ.1.h3 c y;have aZ:=bj a8;have aL:=bj<|wG o.cb o.rd sb pb n o.ad o.cap c kd'.on o.f s.2.2 T wr (HS.c c y) HS.p HS.c0 (λh=>(HS.kV.2 sb<|ak ⟨kh y.out,h⟩).1 rfl) a8 a8.sum hx hn;have b1:=bj hx;clear a8 hT hx;go_wp2_with fail
     refine aL.mono ?_;rintro e w5 ⟨rfl,u1,u2,a0,Y,u3,u4⟩;have W:w5.heap[sb]?=_:=(u2.same lw (λh=>by
      rcases h with h|h
      .exact HS.kV.1 h
      exact(HS.kV.2 sb<|ak ⟨kh y.out,h⟩).1 rfl)).trans HS.b
     rw[oE y]at W;generalize aF:wrap64 (kd'.un:Int)=yu at W;generalize aE:wrap64 (kd'.cc:Int)=yc at W;have x2:w5.cell? ⟨sb,2,none⟩=some (P0 o.cb):=fj W
     have x3:w5.cell? ⟨sb,3,none⟩=some (.int .i64 yu):=fj W
     have y3:w5.frozen? ⟨sb,3,none⟩=false:=pk W
     have l5:=ch W;have aU:=bj W;have a7:=bj<|bh aF aE;have a5:=bj<|bh u1<|bh u2<|bh u3 u4;clear u1 u2 u3 u4 W aF aE d2 aL;go_wp2_with fail
     have aG:(w5.setCell ⟨sb,3,none⟩<|.int .i64<|wrap64<|yu+1).heap[sb]?=some (.cells #[.slice (some ⟨pb,0,none⟩) n n,.func (.func 59) #[P0 eb] #[],P0 o.cb,.int .i64<|wrap64<|yu+1,.int .i64<|wrap64 (kd'.fo:Int),.int .i64 yc] 207 (0,0)):=by
      have:=aU.out;simp[World.setCell,dp,this]
     have aC:∀k,pr o.cb o.rd a0 k->k≠sb:=λk G e=>by
      rcases a5.2.2.1.Ls G with h|h
      .exact(HS.kV.2 k<|ak ⟨kh y.out,h⟩).1 e
      omega
     have aJ:pt (w5.setCell ⟨sb,3,none⟩<|.int .i64<|wrap64<|yu+1) pb n (B.unit s.2.2 kd'.on c).1 o.f s.2.2:=a5.1.block (ab _ _ _ _<|λe=>HS.kV.1 e.symm)<|λp a b d=>ab _ _ _ _ (HS.kV.2 _<|ag ⟨p,a,b,B.nG d,rfl⟩).1;have aQ:nA (w5.setCell ⟨sb,3,none⟩<|.int .i64<|wrap64<|yu+1) o.cb o.rd sb n a0 Y (B.unit s.2.2 kd'.on c).2:=a5.2.2.2.block<|λk G=>ab _ _ _ _<|aC k G;have aT:=bj aC;have aM:=bj aJ;have aA:=bj aQ;have aV:=bj aG
     have aN:Hid (dN (sD sb pb n kd vb) w<|w5.setCell ⟨sb,3,none⟩<|.int .i64<|wrap64<|yu+1):=by
      refine bq (HQ.2.1.trans a5.2.1<|λk G hl=>?_) (ag<|ag rfl) _;rcases G with h|h
      .exact ak<|ag h
      exact ak<|ak<|(HQ.2.2.1 k<|ak ⟨kh y.out,h⟩).resolve_right af
     clear aG aC aJ aQ x2 x3 y3;generalize aX:w5.setCell ⟨sb,3,none⟩ (.int .i64<|wrap64<|yu+1)=w6 at*;clear aX;refine(vH o.cb o.rd sb n a0 Y _ w6 aA).mono ?_;rintro e w7 ⟨rfl,aD⟩;have a1:=bj aD;have Z:=da aD aV je;have aO:=bj Z;have aR:Hid (qB n kd vb (B.mD s.2.2 n kd' c) {o with ad:=a0,cap:=Y} w.heap.size):=λk G=>by
      rcases E5 y a5.2.2.1 G with h|h
      .exact HQ.2.2.1 k h
      have:=HQ.2.1.size;exact ak af
     have aP:Hid (B.eL s.2.2 n (u-(j+1)) (B.mD s.2.2 n kd' c)=B.work s.2.1 nr s.2.2 n u kd):=by
      have:=HQ.2.2.2.1;rw[show u-j=(u-(j+1))+1 by omega,B.uE y]at this;exact this
     clear aD;by_cases H:(B.unit s.2.2 kd'.on c).2.nx=n
     .have hd:decide ((B.unit s.2.2 kd'.on c).2.nx=n)=true:=iE H
      rw[hd];have a4:=bj H;have z2:w7.cell? ⟨sb,2,none⟩=some (P0 o.cb):=fj Z
      have z5:w7.cell? ⟨sb,5,none⟩=some (.int .i64 yc):=fj Z
      have q2:w7.frozen? ⟨sb,2,none⟩=false:=pk Z
      have q5:w7.frozen? ⟨sb,5,none⟩=false:=pk Z
      have l7:=ch Z;clear hd H Z;go_wp2_with fail
      go_roundw
      case rel=>
       refine⟨j+1,af,iI,_,⟨{o with ad:=a0,cap:=Y},yJ (cc:=kd'.cc+1) (x:=.pointer none) ?_ (ag ⟨a4,rfl,rfl⟩) ?_ ?_,B.tj HQ.1 y,?_,aR,HQ.2.2.2.2⟩,aP⟩
       .have:=aO.out;rw[<-a7.1,<-a7.2]at*;simp[World.setCell,dp,this,sG]
       .exact((aM.kept a1).block (ab _ _ _ _<|λe=>HS.kV.1 e.symm)<|λp a b d=>ab _ _ _ _ (HS.kV.2 _<|ag ⟨p,a,b,B.nG d,rfl⟩).1).block (ab _ _ _ _<|λe=>HS.kV.1 e.symm)<|λp a b d=>ab _ _ _ _ (HS.kV.2 _<|ag ⟨p,a,b,B.nG d,rfl⟩).1
       .exact((aA.kept a1).block<|λk G=>ab _ _ _ _<|aT k G).block<|λk G=>ab _ _ _ _<|aT k G
       exact bq (bq (aN.jj a1) (ag<|ag rfl) _) (ag<|ag rfl) _
      case measure=>simp[intOf];omega
     have hd:decide ((B.unit s.2.2 kd'.on c).2.nx=n)=false:=iE H
     rw[hd];have a4:=bj H;clear hd H Z;go_wp2_with fail
     go_roundw
     case rel=>
      refine⟨j+1,af,iI,_,⟨{o with ad:=a0,cap:=Y},yJ (cc:=kd'.cc) (x:=P0 o.cb) ?_ (ak ⟨a4,rfl,rfl⟩) (aM.kept a1)<|aA.kept a1,B.tj HQ.1 y,aN.jj a1,aR,HQ.2.2.2.2⟩,aP⟩;rw[aO.out,<-a7.1,<-a7.2,sG]
     case measure=>simp[intOf];omega
   have a9:¬((j:Int)<u):=af
   have HJ:Hid (u-j=0):=by show _=_;omega
   go_wp2_with fail
   go_end0;obtain⟨hH,hO,hG,hU,a3⟩:=HQ;rw[HJ.out]at hU;exact⟨rfl,by rw[<-hU];exact⟨o,HS,hH,hO,hG,a3⟩⟩
structure jq where
 f:Nat
 nx:Nat
 R:Nat->B.V
 bk:Nat×Nat×Nat×Nat
structure qY where
 fr:List jq
 run:Bool
 wh:Option (Nat×Nat)
 lf:Option (Nat×Nat×Nat×Nat)
 iT:Int
structure Pl where
 nt:Nat
 T:Nat->qY
 q:Nat->Nat->List Nat
 lv:List Nat
 out:List B.V
 kp:List B.V
 ev:List uz
 fA:Nat->List Nat
 sp:Bool
 clk:Int
 kd:B.Kd
 M:Nat->List B.V
 ck:Nat->Nat
structure eM where
 tb:Nat->Nat
 ro:Nat->Nat->Option Addr×Nat
 fb:Nat->Nat->Nat
 rb:Nat->Nat->Nat
 xe:Nat->Nat
 xt:Nat->Nat
 sx:Nat->Nat
 vf:Nat->Nat
 cb:Nat
 rd:Nat
 ad:Option Addr
 cap:Nat
structure dH where
 eb:Nat
 sb:Nat
 pb:Nat
 n:Nat
 nf:Nat
 gb:Nat
 cb:Nat->Nat
 len:Nat->Nat
 rg:Nat->Nat
 ins:Nat->Nat->Nat×Nat×Nat×Nat
 qn:Nat
 wk:Nat
 mt:Nat
 ac:Nat
 E0:Nat->Value
 fx:Nat->Prop
 fc:Nat->Option Obj
structure Ob where
 bs:Nat->Prop
 ok:aa->Prop
 fr:∀w w':aa,ok w->(∀k,bs k->w'.heap[k]?=w.heap[k]?)->ok w'
 lt:∀(w:aa) (k:Nat),ok w->bs k->k<w.heap.size
variable {g g':eM}{p:dH}{s s':Pl}{w w' w0:aa}
def Ob.nil:Ob:=⟨λ_=>False,λ_=>True,λ_ _ h _=>h,λ_ _ _ h=>h.elim⟩
def Ob.full(b:Nat)(T:TypeId)(N:Nat)(E:Nat->Value):Ob:=⟨λk=>k=b,λw=>Full w b T N N E,λ_ _ h hk=>h.block<|hk b rfl,λ_ _ h e=>by rw[e];exact h.lt⟩
def Ob.one(b:Nat)(o:Obj):Ob:=⟨λk=>k=b,λw=>w.heap[b]?=some o,λ_ _ h hk=>(hk b rfl).trans h,λ_ _ h e=>by rw[e];exact ch h⟩
def Ob.row(T:TypeId)(sz:Nat)(ad:Option Addr)(n c:Nat)(xs:List Value):Ob:=⟨λk=>fk ad=some k,λw=>w.ownsRow 0 T sz (.slice ad n c) n xs,λ_ _ h hk=>dS h<|λk e=>hk k (by rw[<-dJ ad n c];exact e),λ_ k h e=>(dR h k (by rw[dJ];exact e)).2.1⟩
def kG.slt{sb pb eb n:Nat}{kd:B.Kd}{vb:Vs}{M:Nat->List B.V}(h:kG w sb pb eb n kd vb M)(k:Nat)(e:sD sb pb n kd vb k):k<w.heap.size:=by
 rcases e with rfl|rfl|e
 .exact ch h.b
 .exact h.p.p.lt
 exact h.lt k e
def Ob.str(sb pb eb n:Nat)(kd:B.Kd)(vb:Vs)(M:Nat->List B.V):Ob:=⟨sD sb pb n kd vb,λw=>kG w sb pb eb n kd vb M,λ_ _ h hk=>h.block (hk sb<|ag rfl) (hk pb<|ak<|ag rfl)<|λk h=>hk k<|ak<|ak h,λ_ k h e=>h.slt k e⟩
theorem Ll(F:Nat->Prop)(C:Nat->Option Obj)(w w':aa)(h:∀k,F k->k<w.heap.size/\w.heap[k]?=C k)(u:∀k,F k->w'.heap[k]?=w.heap[k]?)(k:Nat)(i:F k):k<w'.heap.size/\w'.heap[k]?=C k:=by
 grind
def Ob.fix(F:Nat->Prop)(C:Nat->Option Obj):Ob:=⟨F,λw=>∀k,F k->k<w.heap.size/\w.heap[k]?=C k,Ll F C,λ_ k h e=>(h k e).1⟩
def eS(s:Pl)(x y:Nat):Nat:=
 if x=6 then s.lv.length else if x=7 then s.out.length else if x=8 then s.kp.length else if x=9 then s.ev.length else if x=10 then(s.fA y).length else if x=12 then(s.T y).fr.length else(s.q x y).length
def gC(s:Pl)(g:eM)(x y:Nat):List Value:=
 if x=6 then(s.lv.map g.tb).map P0 else if x=7 then ij s.out else if x=8 then ij s.kp else if x=9 then nB s.ev else if x=10 then iR (s.fA y) else if x=12 then((List.range (s.T y).fr.length).map<|g.fb y).map P0 else((s.q x y).map g.tb).map P0
def Br(x:Nat):TypeId:=if x=7 then 149 else if x=8 then 149 else if x=9 then 48 else if x=10 then 5 else if x=12 then 184 else 155
def Bs(x:Nat):Nat:=if x=7 then 2 else if x=8 then 2 else if x=9 then 3 else 1
def sl(s:Pl)(g:eM)(x y:Nat):Value:=.slice (g.ro x y).1 (eS s x y) (g.ro x y).2
def mr(j:Nat):Nat×Nat:=if j=29 then(6,0) else if j=30 then(7,0) else if j=31 then(8,0) else if j=32 then(2,0) else if j=33 then(3,0) else if j=43 then(9,0) else if j%2=0 then(10,(j-34)/2) else(4,(j-34)/2)
def iQ(p:dH)(s:Pl)(g:eM)(j:Nat):Value:=
 if j<28 then p.E0 j else if j=28 then .int .i64 s.clk else if j=42 then .bool s.sp else sl s g (mr j).1 (mr j).2
def qp(p:dH)(g:eM)(x y:Nat):Nat:=if x=5 then g.tb y else p.eb
def sk(x y:Nat):Nat:=if x=5 then 6 else if x=2 then 32 else if x=3 then 33 else 35+2*y
def xp(p:dH)(g:eM)(h:Option (Nat×Nat)):Value:=match h with
 |none=>.pointer none
 |some (x,y)=>Pt (qp p g x y) (sk x y)
def zD(g:eM)(t:Nat)(h:Option (Nat×Nat×Nat×Nat)):Value:=match h with
 |none=>.nilFunc
 |some _=>Fv 207 #[P0<|g.sx t]
def gH(p:dH)(s:Pl)(g:eM)(t j:Nat):Value:=
 if j=0 then .int .i64 (t:Int) else if j=1 then sl s g 12 t else if j=2 then .bool (s.T t).run else if j=3 then xp p g (s.T t).wh else if j=4 then zD g t (s.T t).lf else if j=5 then .int .i64 (s.T t).iT else sl s g 5 t
def yx(p:dH)(g:eM)(t i:Nat)(bk:Nat×Nat×Nat×Nat):Value:=if i=0 then Fv 120 #[P0<|g.xe t,P0<|g.xt t] else .func (.func 149) #[ee bk.1 bk.2.1 bk.2.2.1 bk.2.2.2 (g.fb t<|i-1) (g.tb t) p.eb] #[]
def oD:jq:=⟨0,0,λ_=>(0,0),(0,0,0,0)⟩
def du(s:Pl)(t i:Nat):jq:=(s.T t).fr.getD i oD
def Am(p:dH)(g:eM)(t i:Nat)(f:jq):Obj:=jG (p.cb f.f) (p.len f.f) f.nx (g.rb t i) (p.rg f.f)<|yx p g t i f.bk
def xz(p:dH)(s:Pl)(g:eM)(t:Nat):Obj:=match (s.T t).lf with
 |none=>.cells #[] 0 (0,0)
 |some k=>jF k.1 k.2.1 k.2.2.1 k.2.2.2 (g.fb t<|(s.T t).fr.length-1) (g.tb t) p.eb
def kI(s:Pl)(g:eM):Vs:=⟨⟨g.vf,s.ck⟩,g.cb,g.rd,g.ad,g.cap⟩
def ig(s:Pl)(x y z:Nat):Bool:=
 if x<=1\/x=2\/x=3\/(6<=x/\x<=9)\/x=18 then decide (y=0/\z=0)
 else if x=4\/x=10 then decide (y<4/\z=0)
 else if x=5\/x=11\/x=12\/x=15\/x=16 then decide (1<=y/\y<=s.nt/\z=0)
 else if x=17 then decide (1<=y/\y<=s.nt/\z=0)&&(s.T y).lf.isSome
 else if x=13\/x=14 then decide (1<=y/\y<=s.nt/\z<(s.T y).fr.length)
 else false
def Jr(p:dH)(s:Pl)(g:eM)(x y z:Nat):Ob:=
 if x=0 then .full p.eb 144 44 (iQ p s g)
 else if x=1 then .str p.sb p.pb p.eb p.n s.kd (kI s g) s.M
 else if x=11 then .full (g.tb y) 160 7 (gH p s g y)
 else if x=13 then .one (g.fb y z) (Am p g y z<|du s y z)
 else if x=14 then .full (g.rb y z) 149 (p.rg (du s y z).f*2) (eR (du s y z).R)
 else if x=15 then .one (g.xe y) (.cells #[P0 p.eb] 95 (0,0))
 else if x=16 then .one (g.xt y) (.cells #[P0<|g.tb y] 155 (0,0))
 else if x=17 then .one (g.sx y) (xz p s g y)
 else if x=18 then .fix p.fx p.fc
 else .row (Br x) (Bs x) (g.ro x y).1 (eS s x y) (g.ro x y).2 (gC s g x y)
def ob(p:dH)(s:Pl)(g:eM)(x y z:Nat):Ob:=if ig s x y z=true then Jr p s g x y z else .nil
structure dZ(p:dH) (s:Pl) (g:eM) (w:aa):Prop where
 o:∀x y z,(ob p s g x y z).ok w
 i:∀x y z x' y' z' k,(ob p s g x y z).bs k->(ob p s g x' y' z').bs k->x=x'/\y=y'/\z=z'
def eJ(p:dH)(s:Pl)(g:eM)(k:Nat):Prop:=∃x y z,(ob p s g x y z).bs k
def ft(s:Pl)(t:Nat):Prop:=1<=t/\t<=s.nt
structure Tr(p:dH) (s:Pl) (g:eM) (w:aa) (s':Pl) (g':eM) (w':aa):Prop where
 r:dZ p s' g' w'
 o:dN (eJ p s g) w w'
 m:∀k,eJ p s' g' k->eJ p s g k\/w.heap.size<=k
 n:s.nt<=s'.nt
 t:∀u,ft s u->g'.tb u=g.tb u
theorem dZ.lt{p:dH}{s:Pl}{g:eM}{w:aa}(h:dZ p s g w){k:Nat}(e:eJ p s g k):k<w.heap.size:=by
 obtain⟨x,y,z,e⟩:=e;exact(ob p s g x y z).lt w k (h.o x y z) e
def dZ.only(h:dZ p s g w){S:Nat->Prop}(u:dN S w w')(hS:∀k,eJ p s g k->¬S k):dZ p s g w':=
 ⟨λx y z=>(ob p s g x y z).fr w w' (h.o x y z)<|λk e=>u.same (h.lt ⟨x,y,z,e⟩)<|hS k ⟨x,y,z,e⟩,h.i⟩
def dZ.kept(h:dZ p s g w)(e:w.grownBy w' none):dZ p s g w':=h.only (S:=λ_=>False) (eA e)<|λ_ _ h=>h
theorem Tr.refl(h:dZ p s g w):Tr p s g w s g w:=⟨h,dx _ _,λ_ h=>ag h,bm _,λ_ _=>rfl⟩
theorem Tr.trans{p:dH}{s s' i:Pl}{g g' g'':eM}{w w' w'':aa}(h:Tr p s g w s' g' w')(e:Tr p s' g' w' i g'' w''):Tr p s g w i g'' w'':=
 ⟨e.r,h.o.trans e.o<|λk y J=>(h.m k y).resolve_right af,λk y=>by
  rcases e.m k y with H|H
  .exact h.m k H
  have:=h.o.size;omega,dQ h.n e.n,λu G=>(e.t u ⟨G.1,dQ G.2 h.n⟩).trans<|h.t u G⟩
theorem Tr.kept{p:dH}{s s':Pl}{g g':eM}{w w' w'':aa}(h:Tr p s g w s' g' w')(e:w'.grownBy w'' none):Tr p s g w s' g' w'':=⟨h.r.kept e,h.o.jj e,h.m,h.n,h.t⟩
theorem Tr.ahead(e:w0.grownBy w none)(h:Tr p s g w s' g' w'):Tr p s g w0 s' g' w':=
 ⟨h.r,(eA e).trans h.o<|λ_ h _=>h,λk i=>(h.m k i).imp id (λh=>by have:=e.size;omega),h.n,h.t⟩
theorem Tr.other(h:Tr p s g w s' g' w'){k:Nat}{o:Obj}(e:w.heap[k]?=some o)(hn:¬eJ p s g k):w'.heap[k]?=some o/\¬eJ p s' g' k:=
 ⟨h.o.block e hn,λi=>(h.m k i).elim hn<|λu=>by grind⟩
theorem Tr.to{s0:Pl}{g0:eM}(C:Nat->Nat->Nat->Prop)(own:Nat->Nat×Nat×Nat)(H:Tr p s0 g0 w0 s g w)(hO:dN (λk=>∃x y z,C x y z/\(ob p s g x y z).bs k) w w')(h1:∀x y z,¬C x y z->ob p s' g' x y z=ob p s g x y z)(h2:∀x y z,C x y z->(ob p s' g' x y z).ok w')(h3:∀x y z k,C x y z->(ob p s' g' x y z).bs k->(ob p s g x y z).bs k\/(¬eJ p s g k/\w0.heap.size<=k/\own k=(x,y,z)))(hn:s.nt<=s'.nt:=by first|exact bm _|omega)(Y:∀u,ft s u->g'.tb u=g.tb u:=by intros;rfl):Tr p s0 g0 w0 s' g' w':=by
 have h:=H.r;have G:=λx y z k e=>by
  by_cases J:C x y z
  .exact h3 x y z k J e
  rw[h1 x y z J]at e;exact ag e
 refine⟨⟨λx y z=>?_,λx y z x' y' z' k e W=>?_⟩,H.o.trans hO<|λk e hl=>?_,λk e=>?_,dQ H.n hn,λu Z=>(Y u ⟨Z.1,dQ Z.2 H.n⟩).trans<|H.t u Z⟩
 .by_cases J:C x y z
  .grind
  rw[h1 x y z J];refine(ob p s g x y z).fr w w' (h.o x y z)<|λk e=>hO.same (h.lt ⟨x,y,z,e⟩) ?_;grind[F.dZ.i]
 .rcases G _ _ _ k e with a|⟨a,_,b⟩
  .rcases G _ _ _ k W with c|⟨c,_⟩
   .grind[F.dZ.i]
   exact dr ⟨_,_,_,a⟩ c
  rcases G _ _ _ k W with c|⟨c,_,d⟩
  .exact dr ⟨_,_,_,c⟩ a
  grind
 .obtain⟨x,y,z,_,Y⟩:=e;exact(H.m k ⟨x,y,z,Y⟩).resolve_right af
 obtain⟨x,y,z,e⟩:=e;rcases G x y z k e with h|h
 .exact H.m k ⟨x,y,z,h⟩
 omega
theorem dZ.to{p:dH}{s s':Pl}{g g':eM}{w w':aa}(C:Nat->Nat->Nat->Prop)(own:Nat->Nat×Nat×Nat)(h:dZ p s g w)(o:dN (λk=>∃x y z,C x y z/\(ob p s g x y z).bs k) w w')(i:∀x y z,¬C x y z->ob p s' g' x y z=ob p s g x y z)(W:∀x y z,C x y z->(ob p s' g' x y z).ok w')(J:∀x y z k,C x y z->(ob p s' g' x y z).bs k->(ob p s g x y z).bs k\/(w.heap.size<=k/\own k=(x,y,z)))(hn:s.nt<=s'.nt:=by first|exact bm _|omega)(H:∀u,ft s u->g'.tb u=g.tb u:=by intros;rfl):Tr p s g w s' g' w':=
 Tr.to C own (Tr.refl h) o i W (λx y z k Y e=>(J x y z k Y e).imp id<|λG=>⟨λZ=>by have:=h.lt Z;omega,G⟩) hn H
end F
namespace F
variable {g:eM}{p:dH}{s:Pl}{t x y:Nat}
def fi(x:Nat):Prop:=2<=x/\x<=12/\x≠11
theorem iM(hx:x=5\/x=11\/x=12\/x=15\/x=16)(ht:ft s t):ig s x t 0=true:=by
 unfold ig;rw[eK,eK,bf hx];simp[ht.1,ht.2]
theorem ji(hx:x<=1\/x=2\/x=3\/(6<=x/\x<=9)\/x=18):ig s x 0 0=true:=by
 unfold ig;grind
theorem D8{k:Nat}(hx:x=4\/x=10)(e:k<4):ig s x k 0=true:=by
 unfold ig;grind
theorem pz{i:Nat}(hx:x=13\/x=14)(ht:ft s t)(hi:i<(s.T t).fr.length):ig s x t i=true:=by
 unfold ig;rw[eK,eK,eK,eK,bf hx];simp[ht.1,ht.2,hi]
def D9(ht:ft s t)(e:(s.T t).lf.isSome=true):ig s 17 t 0=true:=by
 unfold ig;rw[eK,eK,eK,bf rfl];simp[ht.1,ht.2,e]
def iq{z:Nat}(h:ig s x y z=true):ob p s g x y z=Jr p s g x y z:=bf h
theorem wg{z:Nat}(h:¬ig s x y z=true):ob p s g x y z=.nil:=av h
theorem im{z:Nat}(hx:fi x):Jr p s g x y z=.row (Br x) (Bs x) (g.ro x y).1 (eS s x y) (g.ro x y).2 (gC s g x y):=by
 obtain⟨o,i,e⟩:=hx;unfold Jr;grind
section
variable {p:dH}{s:Pl}{g:eM}{w:aa} (h:dZ p s g w)
include h
theorem dZ.E:Full w p.eb 144 44 44 (iQ p s g):=h.o 0 0 0
theorem dZ.S:kG w p.sb p.pb p.eb p.n s.kd (kI s g) s.M:=h.o 1 0 0
theorem dZ.X:∀k,p.fx k->k<w.heap.size/\w.heap[k]?=p.fc k:=h.o 18 0 0
theorem dZ.row{x y:Nat}(hx:fi x)(e:ig s x y 0=true):w.ownsRow 0 (Br x) (Bs x) (sl s g x y) (eS s x y) (gC s g x y):=by
 have:=h.o x y 0;rw[iq e,im hx]at this;exact this
theorem dZ.tk{t:Nat}(ht:ft s t):Full w (g.tb t) 160 7 7 (gH p s g t):=by
 have:=h.o 11 t 0;rw[iq<|iM af ht]at this;exact this
theorem dZ.fr{t i:Nat}(ht:ft s t)(hi:i<(s.T t).fr.length):w.heap[g.fb t i]?=some (Am p g t i<|du s t i):=by
 have:=h.o 13 t i;rw[iq<|pz af ht hi]at this;exact this
theorem dZ.rg{t i:Nat}(ht:ft s t)(hi:i<(s.T t).fr.length):Full w (g.rb t i) 149 (p.rg (du s t i).f*2) (p.rg (du s t i).f*2) (eR (du s t i).R):=by
 have:=h.o 14 t i;rw[iq<|pz af ht hi]at this;exact this
theorem dZ.xe{t:Nat}(ht:ft s t):w.heap[g.xe t]?=some (.cells #[P0 p.eb] 95 (0,0)):=by
 have:=h.o 15 t 0;rw[iq<|iM af ht]at this;exact this
theorem dZ.xt{t:Nat}(ht:ft s t):w.heap[g.xt t]?=some (.cells #[P0<|g.tb t] 155 (0,0)):=by
 have:=h.o 16 t 0;rw[iq<|iM af ht]at this;exact this
theorem dZ.sx{t:Nat}(ht:ft s t){k:Nat×Nat×Nat×Nat}(i:(s.T t).lf=some k):w.heap[g.sx t]?=some (jF k.1 k.2.1 k.2.2.1 k.2.2.2 (g.fb t<|(s.T t).fr.length-1) (g.tb t) p.eb):=by
 have:=h.o 17 t 0;rw[iq<|D9 ht ey]at this;have e:w.heap[g.sx t]?=some (xz p s g t):=this;grind[xz]
theorem dZ.ne{x y z x' y' z' k o:Nat}(u:(ob p s g x y z).bs k)(e:(ob p s g x' y' z').bs o)(hn:¬(x=x'/\y=y'/\z=z')):k≠o:=by
 grind[F.dZ.i]
theorem dZ.mT{t u:Nat}(ht:ft s t)(e:ft s u)(he:g.tb t=g.tb u):t=u:=by
 have a:(ob p s g 11 t 0).bs (g.tb t):=by rw[iq<|iM af ht];exact rfl
 have b:(ob p s g 11 u 0).bs (g.tb t):=by rw[iq<|iM af e];exact he
 grind[F.dZ.i]
end
variable {g g':eM}{p:dH}{s s':Pl}{x y:Nat}
theorem lL(p:dH)(g:eM){t:Nat}(ht:ft s t)(k:Nat):(ob p s g 11 t 0).bs k=(k=g.tb t):=by rw[iq<|iM af ht];rfl
theorem gW(p:dH)(g:eM)(hx:fi x)(e:ig s x y 0=true)(k:Nat):(ob p s g x y 0).bs k=(fk (g.ro x y).1=some k):=by rw[iq e,im hx];rfl
theorem sI{z:Nat}(h:ig s x y z=true):x<=18:=by
 rcases Nat.lt_or_ge 18 x with e|e
 .have i:ig s x y z=false:=by
   unfold ig;rw[eK,eK,eK,eK,eK]
  grind
 exact e
theorem mx{z:Nat}(h:ig s x y z=true)(hx:x<=1\/x=2\/x=3\/(6<=x/\x<=9)\/x=18):y=0/\z=0:=by
 unfold ig at h;grind
theorem kJ{z:Nat}(h:ig s x y z=true)(hx:x=5\/x=11\/x=12\/x=15\/x=16):ft s y/\z=0:=by
 unfold ig at h;rw[eK,eK,bf hx]at h;have:=eQ h;exact⟨⟨this.1,this.2.1⟩,this.2.2⟩
theorem Aq{z:Nat}(h:ig s x y z=true)(hx:x=4\/x=10):y<4/\z=0:=by
 unfold ig at h;grind
def mI{z:Nat}(h:ig s 17 y z=true):ft s y/\z=0/\(s.T y).lf.isSome=true:=by
 unfold ig at h;rw[eK,eK,eK,bf rfl,Bool.and_eq_true]at h;have:=eQ h.1;exact⟨⟨this.1,this.2.1⟩,this.2.2,h.2⟩
def nP{z:Nat}(h:ig s x y z=true)(hx:x=13\/x=14):ft s y/\z<(s.T y).fr.length:=by
 unfold ig at h;rw[eK,eK,eK,eK,bf hx]at h;have:=eQ h;exact⟨⟨this.1,this.2.1⟩,this.2.2⟩
theorem sJ{z:Nat}(h:ig s x y z=true)(hx:fi x):z=0:=by
 obtain⟨o,i,e⟩:=hx;by_cases a:x=4\/x=10
 .exact(Aq h a).2
 by_cases b:x=5\/x=12
 .exact(kJ h af).2
 grind[mx]
theorem nQ{z:Nat}(hn:s'.nt=s.nt)(i:(s'.T y).fr.length=(s.T y).fr.length)(o:x=17->z=0->(s'.T y).lf.isSome=(s.T y).lf.isSome):ig s' x y z=ig s x y z:=by
 grind[ig]
theorem lK{z:Nat}(o:ig s' x y z=ig s x y z)(i:ig s x y z=true->Jr p s' g' x y z=Jr p s g x y z):ob p s' g' x y z=ob p s g x y z:=by
 unfold ob;grind
theorem mY{z:Nat}(Z:ig s x y z=true)(h0:x=0->iQ p s' g'=iQ p s g)(Y:x=1->s'.kd=s.kd/\kI s' g'=kI s g/\s'.M=s.M)(u:x=11->g'.tb y=g.tb y/\gH p s' g' y=gH p s g y)(i:x=13->g'.fb y z=g.fb y z/\Am p g' y z (du s' y z)=Am p g y z (du s y z))(J:x=14->g'.rb y z=g.rb y z/\du s' y z=du s y z)(G:x=15->g'.xe y=g.xe y)(H:x=16->g'.xt y=g.xt y/\g'.tb y=g.tb y)(o:x=17->g'.sx y=g.sx y/\xz p s' g' y=xz p s g y)(W:fi x->g'.ro x y=g.ro x y/\eS s' x y=eS s x y/\gC s' g' x y=gC s g x y):Jr p s' g' x y z=Jr p s g x y z:=by
 have a0:=sI Z;by_cases e:fi x
 .grind[im]
 have hc:x=0\/x=1\/x=11\/x=13\/x=14\/x=15\/x=16\/x=17\/x=18:=by unfold fi at e;omega
 repeat' rcases hc with rfl|hc
 .show Ob.full p.eb 144 44 (iQ p s' g')=Ob.full p.eb 144 44 (iQ p s g);grind
 .let⟨a,b,c⟩:=Y rfl;show Ob.str p.sb p.pb p.eb p.n s'.kd (kI s' g') s'.M=Ob.str p.sb p.pb p.eb p.n s.kd (kI s g) s.M;grind
 .let⟨a,b⟩:=u rfl;show Ob.full (g'.tb y) 160 7 (gH p s' g' y)=Ob.full (g.tb y) 160 7 (gH p s g y);rw[a,b]
 .let⟨a,b⟩:=i rfl;show Ob.one (g'.fb y z) (Am p g' y z<|du s' y z)=Ob.one (g.fb y z) (Am p g y z<|du s y z);rw[a,b]
 .let⟨a,b⟩:=J rfl;show Ob.full (g'.rb y z) 149 (p.rg (du s' y z).f*2) (eR (du s' y z).R)=Ob.full (g.rb y z) 149 (p.rg (du s y z).f*2) (eR (du s y z).R);rw[a,b]
 .show Ob.one (g'.xe y) _=Ob.one (g.xe y) _;grind
 .let⟨a,b⟩:=H rfl;show Ob.one (g'.xt y) (.cells #[P0<|g'.tb y] 155 (0,0))=Ob.one (g.xt y) (.cells #[P0<|g.tb y] 155 (0,0));rw[a,b]
 .let⟨a,b⟩:=o rfl;show Ob.one (g'.sx y) (xz p s' g' y)=Ob.one (g.sx y) (xz p s g y);rw[a,b]
 rfl
def ON(v:Nat×Nat):Nat:=if v.1=6 then 29 else if v.1=7 then 30 else if v.1=8 then 31 else if v.1=2 then 32 else if v.1=3 then 33 else if v.1=9 then 43 else if v.1=10 then 34+2*v.2 else 35+2*v.2
theorem Lr(j:Nat)(i:j<44)(e:29<=j)(o:j≠42):ON (mr j)=j:=by
 unfold mr;split
 .subst j;rfl
 split
 .subst j;rfl
 split
 .subst j;rfl
 split
 .subst j;rfl
 split
 .subst j;rfl
 split
 .subst j;rfl
 split
 .show 34+2*((j-34)/2)=j;omega
 show 35+2*((j-34)/2)=j;omega
theorem vG(j:Nat)(y:j<44)(e:Nat)(u:e<44)(o:29<=j)(i:j≠42)(H:29<=e)(G:e≠42)(h:mr j=mr e):j=e:=by
 grind[Lr]
theorem vF(j:Nat):fi (mr j).1/\(mr j).1≠5/\(mr j).1≠12/\((mr j).1=4\/(mr j).1=10\/(mr j).2=0):=by
 unfold mr fi;grind
theorem zX{j0:Nat}(J:mr j0=(x,y))(i:29<=j0/\j0<44/\j0≠42)(Z:∀a b,¬(a=x/\b=y)->fi a->a≠5->a≠12->(a=4\/a=10\/b=0)->sl s' g' a b=sl s g a b)(Y:s'.clk=s.clk)(hp:s'.sp=s.sp)(j:Nat)(W:j<44):eE (iQ p s g) j0 (sl s' g' x y) j=iQ p s' g' j:=by
 by_cases e:j=j0
 .subst e;rw[gU];unfold iQ;grind
 rw[eP _ _ _ _ e];unfold iQ;by_cases G:j<28
 .grind
 rw[av G,av G];by_cases u:j=28
 .grind
 rw[av u,av u];by_cases o:j=42
 .grind
 rw[av o,av o];grind[vF,vG,Prod.ext]
theorem kO(i:∀a b,fi a->a≠5->a≠12->(a=4\/a=10\/b=0)->sl s' g' a b=sl s g a b)(e:s'.clk=s.clk)(o:s'.sp=s.sp):iQ p s' g'=iQ p s g:=by
 funext j
 grind[vF,iQ]
def fQ(s:Pl)(x y:Nat):Prop:=(x=2/\y=0)\/(x=3/\y=0)\/(x=4/\y<4)\/(x=5/\ft s y)
def AM(x:Nat):TypeId:=if x=5 then 160 else 144
def DX(x:Nat):Nat:=if x=5 then 7 else 44
def Fs(p:dH)(s:Pl)(g:eM)(x y:Nat):Nat->Value:=if x=5 then gH p s g y else iQ p s g
theorem oS(h:fQ s x y):2<=x/\x<=5:=by
 rcases h with⟨rfl,rfl⟩|⟨rfl,rfl⟩|⟨rfl,h⟩|⟨rfl,h⟩<;>omega
theorem nV(h:fQ s x y)(e:x=5):ft s y:=by
 rcases h with⟨rfl,rfl⟩|⟨rfl,rfl⟩|⟨rfl,h⟩|⟨rfl,h⟩
 .cases e
 .cases e
 .cases e
 exact h
theorem zC(h:fQ s x y):fi x:=by grind[oS,fi]
theorem xT(h:fQ s x y):ig s x y 0=true:=by
 rcases h with⟨rfl,rfl⟩|⟨rfl,rfl⟩|⟨rfl,h⟩|⟨rfl,h⟩
 .grind[ji]
 .grind[ji]
 .grind[D8]
 grind[iM]
def sj(h:fQ s x y):Br x=155/\Bs x=1:=by
 unfold Br Bs;rcases h with⟨rfl,rfl⟩|⟨rfl,rfl⟩|⟨rfl,h⟩|⟨rfl,h⟩<;>exact⟨rfl,rfl⟩
theorem ow(s':Pl)(h:fQ s x y):eS s' x y=(s'.q x y).length:=by
 unfold eS;have:=oS h;grind
theorem pL(s':Pl)(g:eM)(h:fQ s x y):gC s' g x y=((s'.q x y).map g.tb).map P0:=by
 unfold gC;have:=oS h;grind
def vi(h:fQ s x y)(e:x≠5):mr (sk x y)=(x,y)/\29<=sk x y/\sk x y<44/\sk x y≠42:=by
 rcases h with⟨rfl,rfl⟩|⟨rfl,rfl⟩|⟨rfl,h⟩|⟨rfl,h⟩
 .decide
 .decide
 .have:y=0\/y=1\/y=2\/y=3:=by omega
  rcases this with rfl|rfl|rfl|rfl<;>decide
 omega
theorem dZ.ln{w:aa}(h:dZ p s g w)(i:fQ s x y)(hn:(s.q x y).length<=1000000000):Ln w (qp p g x y) (sk x y) (AM x) (DX x) (Fs p s g x y) (g.ro x y).1 (s.q x y).length (g.ro x y).2 ((s.q x y).map g.tb):=by
 have o:=h.row (zC i)<|xT i;unfold sl at o;rw[(sj i).1,(sj i).2,ow s i,pL s g i]at o;unfold qp AM DX Fs;by_cases e:x=5
 .rw[bf e,bf e,bf e,bf e];subst e;refine⟨h.tk<|nV i rfl,by show 6<7;decide,?_,o,hn⟩;show sl s g 5 y=_;grind[sl,ow]
 rw[av e,av e,av e,av e];let⟨a,b,c,d⟩:=vi i e;refine⟨h.E,af,?_,o,hn⟩;unfold iQ;rw[eK,eK,eK,a];grind[sl,ow]
end F
namespace F
variable {g:eM}{i j0 t u x y:Nat}{l:List Nat}{p:dH}{r:Option Addr×Nat}{s s':Pl}{v:qY}{w w':aa}
def Pl.dy(s:Pl)(t:Nat)(v:qY):Pl:={s with T:=λi=>if i=t then v else s.T i}
def Pl.fI(s:Pl)(x y:Nat)(l:List Nat):Pl:={s with q:=λa b=>if a=x/\b=y then l else s.q a b}
def eM.at(g:eM)(x y:Nat)(r:Option Addr×Nat):eM:={g with ro:=λa b=>if a=x/\b=y then r else g.ro a b}
theorem dk(s:Pl)(t:Nat)(v:qY):(s.dy t v).T t=v:=bf rfl
theorem dU(s:Pl)(v:qY)(h:u≠t):(s.dy t v).T u=s.T u:=av h
theorem gM(s:Pl)(x y:Nat)(l:List Nat):(s.fI x y l).q x y=l:=bf ⟨rfl,rfl⟩
theorem gf(s:Pl){a b:Nat}(l:List Nat)(h:¬(a=x/\b=y)):(s.fI x y l).q a b=s.q a b:=av h
def tR(g:eM)(x y:Nat)(r:Option Addr×Nat):(g.at x y r).ro x y=r:=bf ⟨rfl,rfl⟩
theorem ma(g:eM){a b:Nat}(r:Option Addr×Nat)(h:¬(a=x/\b=y)):(g.at x y r).ro a b=g.ro a b:=av h
theorem ky(G:s'.lv=s.lv)(o:s'.out=s.out)(i:s'.kp=s.kp)(e:s'.ev=s.ev)(J:s'.fA=s.fA)(H:(s'.T y).fr.length=(s.T y).fr.length)(u:s'.q x y=s.q x y):eS s' x y=eS s x y:=by
 grind[eS]
theorem rH{g':eM}(ht:g'.tb=g.tb)(e:g'.fb=g.fb)(H:s'.lv=s.lv)(u:s'.out=s.out)(o:s'.kp=s.kp)(i:s'.ev=s.ev)(W:s'.fA=s.fA)(J:(s'.T y).fr.length=(s.T y).fr.length)(G:s'.q x y=s.q x y):gC s' g' x y=gC s g x y:=by
 grind[gC]
theorem dZ.line(h:dZ p s g w)(G:fQ s x y)(ht:ft s t)(a8:v.fr=(s.T t).fr)(a6:v.lf=none\/v.lf=(s.T t).lf)(a7:¬(x=5/\y=t))(hH:Full w' (qp p g x y) (AM x) (DX x) (DX x) (eE (Fs p s g x y) (sk x y)<|.slice r.1 l.length r.2))(hR:w'.ownsRow 0 155 1 (.slice r.1 l.length r.2) l.length ((l.map g.tb).map P0))(hT:Full w' (g.tb t) 160 7 7 (gH p ((s.fI x y l).dy t v) (g.at x y r) t))(hO:dN (λk=>k=qp p g x y\/k=g.tb t\/fk (g.ro x y).1=some k) w w')(hB:∀k,fk r.1=some k->fk (g.ro x y).1=some k\/w.heap.size<=k):Tr p s g w ((s.fI x y l).dy t v) (g.at x y r) w':=by
 have i:∀u,(((s.fI x y l).dy t v).T u).fr=(s.T u).fr:=λu=>by
  by_cases e:u=t
  .grind[dk]
  rw[dU _ _ e];rfl
 have a3:∀a b,¬(a=x/\b=y)->((s.fI x y l).dy t v).q a b=s.q a b:=λa b e=>gf s l e;have Z:∀a b,¬(a=x/\b=y)->sl ((s.fI x y l).dy t v) (g.at x y r) a b=sl s g a b:=λa b e=>by
  unfold sl;rw[ma g r e,ky (s:=s) (s':=(s.fI x y l).dy t v) rfl rfl rfl rfl rfl (by rw[i]) (a3 a b e)]
 have a1:=zC G;have a5:=xT G;have a0:sl ((s.fI x y l).dy t v) (g.at x y r) x y=.slice r.1 l.length r.2:=by
  unfold sl;rw[tR,ow _ G];show Value.slice r.1 ((s.fI x y l).q x y).length r.2=_;rw[gM]
 refine h.to (λa b c=>(a=x/\b=y/\c=0)\/(a=11/\b=t/\c=0)\/(x=5/\a=11/\b=y/\c=0)\/(x≠5/\a=0/\b=0/\c=0)\/(a=17/\b=t/\c=0/\v.lf=none)) (λ_=>(x,y,0)) (hO.mono<|λk J _=>?_) (λa b c hC=>?_) (λa b c hC=>?_)<|λa b c k hC J=>?_
 .rcases J with rfl|rfl|J
  .unfold qp;by_cases o:x=5
   .rw[bf o];grind[lL,nV]
   rw[av o];exact⟨0,0,0,ak<|ak<|ak<|ag ⟨o,rfl,rfl,rfl⟩,rfl⟩
  .grind[lL]
  grind[gW]
 .have a2:a=17->c=0->(((s.fI x y l).dy t v).T b).lf=(s.T b).lf:=λW Y=>by
   by_cases e:b=t
   .grind[dk,absurd]
   rw[dU _ _ e];rfl
  refine lK (nQ rfl (by rw[i]) (λW Y=>by grind))<|λhV=>mY hV ?_ (λ_=>⟨rfl,rfl,rfl⟩) ?_ ?_ ?_ (λ_=>rfl) (λ_=>⟨rfl,rfl⟩) ?_ ?_
  .intro W;let⟨eb,Y⟩:=mx hV af;have o:=Classical.byContradiction λo=>hC<|ak<|ak<|ak<|ag ⟨o,W,eb,Y⟩;exact kO (λa' b' _ e _ _=>Z a' b'<|λhh=>e<|hh.1.trans o) rfl rfl
  .intro W;let⟨hb,Y⟩:=kJ hV af;have e1:b≠t:=λe=>hC<|ak<|ag ⟨W,e,Y⟩;refine⟨rfl,?_⟩;funext j
   unfold gH;rw[Z 12 b (λe=>by have:=oS G;omega),Z 5 b<|λe=>hC<|ak<|ak<|ag ⟨e.1.symm,W,e.2,Y⟩,dU _ _ e1];rfl
  .intro W;refine⟨rfl,?_⟩;unfold du;rw[i];rfl
  .intro W;refine⟨rfl,?_⟩;grind[du]
  .intro W;subst W;let⟨hb,Y,_⟩:=mI hV;refine⟨rfl,?_⟩;unfold xz;rw[a2 rfl Y,i];rfl
  intro hx;have Y:=sJ hV hx;have e:¬(a=x/\b=y):=λe=>hC<|ag ⟨e.1,e.2,Y⟩;exact⟨ma g r e,ky (s:=s) (s':=(s.fI x y l).dy t v) rfl rfl rfl rfl rfl (by rw[i]) (a3 a b e),rH (s:=s) (s':=(s.fI x y l).dy t v) rfl rfl rfl rfl rfl rfl rfl (by rw[i]) (a3 a b e)⟩
 .rcases hC with⟨rfl,rfl,rfl⟩|⟨rfl,rfl,rfl⟩|⟨o,rfl,rfl,rfl⟩|⟨o,rfl,rfl,rfl⟩|⟨rfl,rfl,rfl,hn⟩
  .have H:=xT (s:=(s.fI a b l).dy t v) G;rw[iq H,im a1];show w'.ownsRow 0 (Br a) (Bs a) (sl ((s.fI a b l).dy t v) (g.at a b r) a b) (eS ((s.fI a b l).dy t v) a b) (gC ((s.fI a b l).dy t v) (g.at a b r) a b);rw[a0,(sj G).1,(sj G).2,ow _ G,pL _ _ G];show w'.ownsRow 0 155 1 _ ((s.fI a b l).q a b).length ((((s.fI a b l).q a b).map g.tb).map P0);rw[gM];exact hR
  .have H:ig ((s.fI x y l).dy b v) 11 b 0=true:=iM af ht;rw[iq H];exact hT
  .have hb:=nV G o;have H:ig ((s.fI x b l).dy t v) 11 b 0=true:=iM af hb;rw[iq H];have e1:b≠t:=λe=>a7 ⟨o,e⟩;have a4:Full w' (g.tb b) 160 7 7 (eE (gH p s g b) 6<|.slice r.1 l.length r.2):=by
    have:=hH;unfold qp AM DX Fs sk at this;simp only[bf o]at this;exact this
   refine a4.congr<|λj hj=>?_;by_cases ej:j=6
   .subst ej;rw[gU,<-a0,o];rfl
   rw[eP _ _ _ _ ej];unfold gH;rw[Z 12 b (λe=>by omega),dU _ _ e1];by_cases j0:j=0
   .simp only[bf j0]
   by_cases j1:j=1
   .simp only[av j0,bf j1]
   by_cases j2:j=2
   .simp only[av j0,av j1,bf j2];rfl
   by_cases j3:j=3
   .simp only[av j0,av j1,av j2,bf j3];rfl
   by_cases j4:j=4
   .simp only[av j0,av j1,av j2,av j3,bf j4];rfl
   by_cases j5:j=5
   .simp only[av j0,av j1,av j2,av j3,av j4,bf j5];rfl
   omega
  .have a4:Full w' p.eb 144 44 44 (eE (iQ p s g) (sk x y)<|.slice r.1 l.length r.2):=by
    have:=hH;unfold qp AM DX Fs at this;simp only[av o]at this;exact this
   refine Full.congr a4<|λj hj=>?_;rw[<-a0];exact zX (vi G o).1 (vi G o).2 (λa b e _ _ _ _=>Z a b e) rfl rfl j hj
  rw[wg (λhV=>by
   have:=(mI hV).2.2;rw[dk,hn]at this
   cases this)]
  exact trivial
 rcases hC with⟨rfl,rfl,rfl⟩|⟨rfl,rfl,rfl⟩|⟨o,rfl,rfl,rfl⟩|⟨o,rfl,rfl,rfl⟩|⟨rfl,rfl,rfl,hn⟩
 .have H:=xT (s:=(s.fI a b l).dy t v) G;rw[gW p _ a1 H,tR]at J;rw[gW p g a1 a5];exact(hB k J).imp id<|λh=>⟨h,rfl⟩
 .rw[lL p _ (show ft ((s.fI x y l).dy b v) b from ht)]at J;rw[lL p g ht];exact ag J
 .have hb:=nV G o;rw[lL p _ (show ft ((s.fI x b l).dy t v) b from hb)]at J;rw[lL p g hb];exact ag J
 .exact ag J
 rw[wg (λhV=>by
  have:=(mI hV).2.2;rw[dk,hn]at this
  cases this)]at J
 exact J.elim
theorem dZ.B6{x2 y2:Nat}(h:dZ p s g w)(hx:6<=x/\x<=10)(hv:ig s x y 0=true)(a5:6<=x2/\x2<=10)(G:ig s x2 y2 0=true)(hj:mr j0=(x,y)/\29<=j0/\j0<44/\j0≠42)(e1:s'.nt=s.nt)(e2:s'.T=s.T)(e4:s'.kd=s.kd)(e5:s'.M=s.M)(e6:s'.ck=s.ck)(e7:s'.clk=s.clk)(e8:s'.sp=s.sp)(Z:∀a b,fi a->(a=4\/a=5\/a=10\/a=12\/b=0)->¬(a=x/\b=y)->eS s' a b=eS s a b/\(¬(a=x2/\b=y2)->gC s' g a b=gC s g a b))(hH:Full w' p.eb 144 44 44 (eE (iQ p s g) j0<|.slice r.1 (eS s' x y) r.2))(hR:w'.ownsRow 0 (Br x) (Bs x) (.slice r.1 (eS s' x y) r.2) (eS s' x y) (gC s' g x y))(a3:¬(x2=x/\y2=y)->w'.ownsRow 0 (Br x2) (Bs x2) (sl s g x2 y2) (eS s x2 y2) (gC s' g x2 y2))(hO:dN (λk=>k=p.eb\/fk (g.ro x y).1=some k\/fk (g.ro x2 y2).1=some k) w w')(hB:∀k,fk r.1=some k->fk (g.ro x y).1=some k\/w.heap.size<=k):Tr p s g w s' (g.at x y r) w':=by
 have Y:fi x:=by unfold fi;omega
 have i:fi x2:=by unfold fi;omega
 have W:∀a b,fi a->(a=4\/a=5\/a=10\/a=12\/b=0)->¬(a=x/\b=y)->sl s' (g.at x y r) a b=sl s g a b:=λa b J hb e=>by
  grind[sl,ma]
 have a2:∀a b,ig s a b 0=true->fi a->a=4\/a=5\/a=10\/a=12\/b=0:=λa b hV J=>by
  grind[mx,fi]
 have a0:sl s' (g.at x y r) x y=.slice r.1 (eS s' x y) r.2:=by unfold sl;rw[tR]
 have H:∀a b c,ig s' a b c=ig s a b c:=λa b c=>nQ e1 (by rw[e2]) (λ_ _=>by rw[e2]);have a1:∀a b,gC s' (g.at x y r) a b=gC s' g a b:=λ_ _=>rfl;refine h.to (λa b c=>(a=x/\b=y/\c=0)\/(a=0/\b=0/\c=0)\/(a=x2/\b=y2/\c=0)) (λ_=>(x,y,0)) (hO.mono<|λk u _=>?_) (λa b c o=>?_) (λa b c o=>?_)<|λa b c k o u=>?_
 .rcases u with rfl|u|u
  .exact⟨0,0,0,ak<|ag ⟨rfl,rfl,rfl⟩,rfl⟩
  .grind[gW]
  grind[gW]
 .refine lK (H a b c)<|λhV=>mY hV ?_ (λ_=>⟨e4,?_,e5⟩) ?_ ?_ ?_ (λ_=>rfl) (λ_=>⟨rfl,rfl⟩) ?_ ?_
  .grind[absurd,mx]
  .unfold kI;rw[e6];rfl
  .intro ea;refine⟨rfl,?_⟩;funext j
   unfold gH;rw[W 12 b (by grind[fi]) af (λe=>by omega),W 5 b (by grind[fi]) af (λe=>by omega),e2];rfl
  .intro ea;refine⟨rfl,?_⟩;unfold du;rw[e2];rfl
  .intro ea;refine⟨rfl,?_⟩;grind[du]
  .intro ea;refine⟨rfl,?_⟩;unfold xz;rw[e2];rfl
  intro J;have ec:=sJ hV J;subst ec;have e:¬(a=x/\b=y):=λe=>o<|ag ⟨e.1,e.2,rfl⟩;have hb:=a2 a b hV J;refine⟨ma g r e,(Z a b J hb e).1,?_⟩;rw[a1];exact(Z a b J hb e).2<|λe=>o<|ak<|ak ⟨e.1,e.2,rfl⟩
 .by_cases e0:a=x/\b=y/\c=0
  .obtain⟨rfl,rfl,rfl⟩:=e0;rw[iq<|eZ H hv,im Y];show w'.ownsRow 0 (Br a) (Bs a) (sl s' (g.at a b r) a b) (eS s' a b) (gC s' (g.at a b r) a b);rw[a0,a1];exact hR
  rcases o with o|⟨rfl,rfl,rfl⟩|⟨rfl,rfl,rfl⟩
  .exact dr o e0
  .refine Full.congr hH<|λj a4=>?_;rw[<-a0];exact zX hj.1 hj.2 (λa' b' e J _ _ hb=>W a' b' J af e) e7 e8 j a4
  have e:¬(a=x/\b=y):=λe=>e0 ⟨e.1,e.2,rfl⟩;rw[iq<|eZ H G,im i];show w'.ownsRow 0 (Br a) (Bs a) (sl s' (g.at x y r) a b) (eS s' a b) (gC s' (g.at x y r) a b);have hb:=a2 a b G i;rw[W a b i hb e,(Z a b i hb e).1,a1];exact a3 e
 by_cases e0:a=x/\b=y/\c=0
 .obtain⟨rfl,rfl,rfl⟩:=e0;rw[gW p _ Y<|eZ H hv,tR]at u;rw[gW p g Y hv];exact(hB k u).imp id<|λh=>⟨h,rfl⟩
 rcases o with o|⟨rfl,rfl,rfl⟩|⟨rfl,rfl,rfl⟩
 .exact dr o e0
 .exact ag u
 have e:¬(a=x/\b=y):=λe=>e0 ⟨e.1,e.2,rfl⟩;rw[gW p _ i<|eZ H G,ma g r e]at u;rw[gW p g i G];exact ag u
def dZ.vE(h:dZ p s g w)(hx:6<=x/\x<=10)(o:ig s x y 0=true)(H:mr j0=(x,y)/\29<=j0/\j0<44/\j0≠42)(e1:s'.nt=s.nt)(J:s'.T=s.T)(e4:s'.kd=s.kd)(e5:s'.M=s.M)(e6:s'.ck=s.ck)(e7:s'.clk=s.clk)(u:s'.sp=s.sp)(i:∀a b,fi a->(a=4\/a=5\/a=10\/a=12\/b=0)->¬(a=x/\b=y)->eS s' a b=eS s a b/\gC s' g a b=gC s g a b)(Y:Full w' p.eb 144 44 44 (eE (iQ p s g) j0<|.slice r.1 (eS s' x y) r.2))(hR:w'.ownsRow 0 (Br x) (Bs x) (.slice r.1 (eS s' x y) r.2) (eS s' x y) (gC s' g x y))(Z:dN (λk=>k=p.eb\/fk (g.ro x y).1=some k) w w')(W:∀k,fk r.1=some k->fk (g.ro x y).1=some k\/w.heap.size<=k):Tr p s g w s' (g.at x y r) w':=
 h.B6 hx o hx o H e1 J e4 e5 e6 e7 u (λa b c d e=>⟨(i a b c d e).1,λ_=>(i a b c d e).2⟩) Y hR (λe=>dr ⟨rfl,rfl⟩ e) (Z.mono<|λ_ G _=>G.imp id ag) W
theorem dZ.zY(h:dZ p s g w)(e1:s'.nt=s.nt)(e:s'.T=s.T)(Z:s'.kd=s.kd)(Y:s'.M=s.M)(e6:s'.ck=s.ck)(i:∀a b,eS s' a b=eS s a b/\gC s' g a b=gC s g a b)(J:Full w' p.eb 144 44 44 (iQ p s' g))(W:dN (λk=>k=p.eb) w w'):Tr p s g w s' g w':=by
 have o:∀a b,sl s' g a b=sl s g a b:=λa b=>by
  grind[sl]
 refine h.to (λa b c=>a=0/\b=0/\c=0) (λ_=>(0,0,0)) (W.mono<|λk G _=>⟨0,0,0,⟨rfl,rfl,rfl⟩,G⟩) (λa b c u=>?_) (λa b c u=>?_)<|λa b c k u G=>?_
 .refine lK (nQ e1 (by rw[e])<|λ_ _=>by rw[e])<|λH=>mY H ?_ (λ_=>⟨Z,?_,Y⟩) ?_ ?_ ?_ (λ_=>rfl) (λ_=>⟨rfl,rfl⟩) ?_<|λ_=>⟨rfl,i a b⟩
  .grind[absurd,mx]
  .grind[kI]
  .intro y;refine⟨rfl,?_⟩;funext j
   grind[gH]
  .grind[du]
  .grind[du]
  grind[xz]
 .obtain⟨rfl,rfl,rfl⟩:=u;exact J
 obtain⟨rfl,rfl,rfl⟩:=u;exact ag G
theorem dZ.flag(h:dZ p s g w)(ht:ft s t)(Y:v.fr=(s.T t).fr)(Z:v.lf=(s.T t).lf)(hT:Full w' (g.tb t) 160 7 7 (gH p (s.dy t v) g t))(hO:dN (λk=>k=g.tb t) w w'):Tr p s g w (s.dy t v) g w':=by
 have i:∀u,((s.dy t v).T u).fr=(s.T u).fr:=λu=>by
  grind[dk,dU]
 have o:∀u,((s.dy t v).T u).lf=(s.T u).lf:=λu=>by
  grind[dk,dU]
 have G:∀a b,eS (s.dy t v) a b=eS s a b:=λa b=>ky rfl rfl rfl rfl rfl (by rw[i]) rfl;have y:∀a b,sl (s.dy t v) g a b=sl s g a b:=λa b=>by
  unfold sl;rw[G]
 refine h.to (λa b c=>a=11/\b=t/\c=0) (λ_=>(0,0,0)) (hO.mono<|λk J _=>⟨11,t,0,⟨rfl,rfl,rfl⟩,by grind[lL]⟩) (λa b c H=>?_) (λa b c H=>?_)<|λa b c k H J=>?_
 .refine lK (nQ rfl (by rw[i]) (λ_ _=>by rw[o]))<|λhV=>mY hV (λ_=>kO (λa b _ _ _ _=>y a b) rfl rfl) (λ_=>⟨rfl,rfl,rfl⟩) ?_ ?_ ?_ (λ_=>rfl) (λ_=>⟨rfl,rfl⟩) ?_<|λ_=>⟨rfl,G a b,rH rfl rfl rfl rfl rfl rfl rfl (by rw[i]) rfl⟩
  .intro W;refine⟨rfl,?_⟩;funext j
   grind[gH,dU,kJ]
  .grind[du]
  .grind[du]
  grind[xz]
 .obtain⟨rfl,rfl,rfl⟩:=H;rw[iq (show ig (s.dy b v) 11 b 0=true from iM af ht)];exact hT
 obtain⟨rfl,rfl,rfl⟩:=H;rw[lL p g (show ft (s.dy b v) b from ht)]at J;grind[lL]
def Pl.dM(s:Pl)(t i:Nat)(f:jq):Pl:=s.dy t {s.T t with fr:=(s.T t).fr.set i f}
theorem mJ(s:Pl)(f:jq)(hi:i<(s.T t).fr.length):du (s.dM t i f) t i=f:=by
 unfold du Pl.dM;rw[dk,cw,List.getElem?_set,bf rfl,bf hi];rfl
theorem mi(s:Pl){j:Nat}(f:jq)(h:¬(u=t/\j=i)):du (s.dM t i f) u j=du s u j:=by
 unfold du Pl.dM;by_cases e:u=t
 .subst e;rw[dk,cw,List.getElem?_set,av<|λe=>h ⟨rfl,e.symm⟩,cw]
 grind[dU]
theorem dZ.OG{f:jq}(h:dZ p s g w)(ht:ft s t)(hi:i<(s.T t).fr.length)(hF:w'.heap[g.fb t i]?=some (Am p g t i f))(hR:Full w' (g.rb t i) 149 (p.rg f.f*2) (p.rg f.f*2) (eR f.R))(hO:dN (λk=>k=g.fb t i\/k=g.rb t i) w w'):Tr p s g w (s.dM t i f) g w':=by
 have o:∀u,((s.dM t i f).T u).fr.length=(s.T u).fr.length:=λu=>by
  grind[Pl.dM,dk,List.length_set,dU]
 have y:∀u,((s.dM t i f).T u).lf=(s.T u).lf:=λu=>by
  grind[Pl.dM,dk,dU]
 have Z:∀a b,eS (s.dM t i f) a b=eS s a b:=λa b=>ky rfl rfl rfl rfl rfl (o b) rfl;have J:∀a b,sl (s.dM t i f) g a b=sl s g a b:=λa b=>by
  unfold sl;rw[Z]
 have hv:∀a b c,ig (s.dM t i f) a b c=ig s a b c:=λa b c=>nQ rfl (o b) (λ_ _=>by rw[y]);refine h.to (λa b c=>(a=13\/a=14)/\b=t/\c=i) (λ_=>(0,0,0)) (hO.mono<|λk G _=>?_) (λa b c W=>?_) (λa b c W=>?_)<|λa b c k W G=>?_
 .rcases G with G|G
  .refine⟨13,t,i,⟨ag rfl,rfl,rfl⟩,?_⟩;rw[iq<|pz af ht hi];exact G
  refine⟨14,t,i,⟨ak rfl,rfl,rfl⟩,?_⟩;rw[iq<|pz af ht hi];exact G
 .refine lK (hv a b c)<|λhV=>mY hV (λ_=>kO (λa b _ _ _ _=>J a b) rfl rfl) (λ_=>⟨rfl,rfl,rfl⟩) ?_ ?_ ?_ (λ_=>rfl) (λ_=>⟨rfl,rfl⟩) ?_<|λ_=>⟨rfl,Z a b,rH rfl rfl rfl rfl rfl rfl rfl (o b) rfl⟩
  .intro Y;refine⟨rfl,?_⟩;funext j
   grind[gH,Pl.dM,dk,dU]
  .grind[mi]
  .grind[mi]
  grind[xz]
 .obtain⟨H,rfl,rfl⟩:=W;rcases H with rfl|rfl
  .rw[iq<|by grind[pz]];show w'.heap[g.fb b c]?=some (Am p g b c<|du (s.dM b c f) b c);grind[mJ]
  rw[iq<|by grind[pz]];show Full w' (g.rb b c) 149 (p.rg (du (s.dM b c f) b c).f*2) (p.rg (du (s.dM b c f) b c).f*2) (eR (du (s.dM b c f) b c).R);grind[mJ]
 obtain⟨H,rfl,rfl⟩:=W;refine ag ?_;have hV:=pz H ht hi;rw[iq ey]at G;rw[iq hV];rcases H with rfl|rfl
 .exact G
 exact G
theorem dZ.NR{vb:Vs}(h:dZ p s g w)(e1:s'.nt=s.nt)(e:s'.T=s.T)(e3:s'.q=s.q)(e7:s'.clk=s.clk)(e8:s'.sp=s.sp)(f1:s'.lv=s.lv)(Y:s'.out=s.out)(f3:s'.kp=s.kp)(Z:s'.ev=s.ev)(f5:s'.fA=s.fA)(f6:s'.ck=vb.f.k)(hS:kG w' p.sb p.pb p.eb p.n s'.kd vb s'.M)(hO:dN (sD p.sb p.pb p.n s.kd<|kI s g) w w')(hG:qB p.n s.kd (kI s g) s'.kd vb w.heap.size):Tr p s g w s' {g with vf:=vb.f.b,cb:=vb.cb,rd:=vb.rd,ad:=vb.ad,cap:=vb.cap} w':=by
 have H:∀a b,eS s' a b=eS s a b:=λa b=>ky f1 Y f3 Z f5 (by rw[e]) (by rw[e3]);have o:kI s' {g with vf:=vb.f.b,cb:=vb.cb,rd:=vb.rd,ad:=vb.ad,cap:=vb.cap}=vb:=by unfold kI;rw[f6]
 have i:∀a b,sl s' {g with vf:=vb.f.b,cb:=vb.cb,rd:=vb.rd,ad:=vb.ad,cap:=vb.cap} a b=sl s g a b:=λa b=>by
  unfold sl;rw[H]
 refine h.to (λa b c=>a=1/\b=0/\c=0) (λ_=>(1,0,0)) (hO.mono<|λk W _=>⟨1,0,0,⟨rfl,rfl,rfl⟩,W⟩) (λa b c y=>?_) (λa b c y=>?_)<|λa b c k y W=>?_
 .refine lK (nQ e1 (by rw[e])<|λ_ _=>by rw[e])<|λhV=>mY hV (λ_=>kO (λa b _ _ _ _=>i a b) e7 e8) ?_ ?_ ?_ ?_ (λ_=>rfl) (λ_=>⟨rfl,rfl⟩) ?_<|λ_=>⟨rfl,H a b,rH rfl rfl f1 Y f3 Z f5 (by rw[e]) (by rw[e3])⟩
  .grind[absurd,mx]
  .intro G;refine⟨rfl,?_⟩;funext j
   unfold gH;rw[i,i,e];rfl
  .intro G;refine⟨rfl,?_⟩;unfold du;rw[e];rfl
  .grind[du]
  grind[xz]
 .obtain⟨rfl,rfl,rfl⟩:=y;show kG w' p.sb p.pb p.eb p.n s'.kd (kI s' {g with vf:=vb.f.b,cb:=vb.cb,rd:=vb.rd,ad:=vb.ad,cap:=vb.cap}) s'.M;grind
 obtain⟨rfl,rfl,rfl⟩:=y;have J:sD p.sb p.pb p.n s'.kd (kI s' {g with vf:=vb.f.b,cb:=vb.cb,rd:=vb.rd,ad:=vb.ad,cap:=vb.cap}) k:=W;rw[o]at J;rcases J with u|u|u
 .exact ag<|ag u
 .exact ag<|ak<|ag u
 exact(hG k u).imp (λh=>ak<|ak h)<|λh=>⟨h,rfl⟩
theorem gR:∀(n:Nat) (l:List Nat),l.Nodup->(∀t,t∈l->1<=t/\t<=n)->l.length<=n
 |0,[],_,_=>bm _
 |0,a :: l,_,h=>by have:=h a eG;omega
 | n+1,l,hd,h=>by
  have e:=gR n (l.erase<|n+1) (hd.erase _) (λt ht=>by
   grind)
  grind
theorem tm{f:Nat->Nat}{a:Nat}:∀(l:List Nat),(∀b,b∈l->f b=f a->b=a)->(l.map f).erase (f a)=(l.erase a).map f
 | [],_=>rfl
 | b :: l,h=>by
  rw[List.map_cons,List.erase_cons,List.erase_cons];by_cases e:b=a
  .grind
  have y:(b == a)=false:=iE e
  have o:(f b == f a)=false:=by
   rw[dY];exact λi=>e<|h b eG i
  rw[y,o];simp[tm l (λc u=>h c<|by simp[u])]
structure LW(s:Pl):Prop where
 a:∀t,ft s t->∀x y,(s.T t).wh=some (x,y)->fQ s x y/\t∈s.q x y/\¬(x=5/\y=t)
 b:∀x y,fQ s x y->∀t,t∈s.q x y->ft s t/\(s.T t).wh=some (x,y)
 c:∀x y,fQ s x y->(s.q x y).Nodup
 d:s.nt<=500000000
def LW.len(h:LW s)(e:fQ s x y):(s.q x y).length<=500000000:=dQ (gR s.nt _ (h.c x y e)<|λt ht=>(h.b x y e t ht).1) h.d
def qY.off(v:qY):qY:={v with wh:=none,lf:=none}
def qY.to(v:qY)(x y:Nat):qY:={v with run:=false,wh:=some (x,y)}
def Pl.dA(s:Pl)(t:Nat):Pl:=match (s.T t).wh with
 |none=>s
 |some (x,y)=>(s.fI x y<|(s.q x y).erase t).dy t (s.T t).off
theorem Cg(g:eM)(x y:Nat):g.at x y (g.ro x y)=g:=by
 unfold eM.at;have:(λa b=>if a=x/\b=y then g.ro x y else g.ro a b)=g.ro:=by
  funext a b
  by_cases e:a=x/\b=y
  .grind
  rw[av e]
 rw[this]
def sM(hl:fQ s x y)(o:v.fr=(s.T t).fr)(u:¬(x=5/\y=t))(P:Nat->Value)(h0:P 0=gH p s g t 0)(H:P 1=gH p s g t 1)(h2:P 2=.bool v.run)(h3:P 3=xp p g v.wh)(Y:P 4=zD g t v.lf)(W:P 5=ah v.iT)(J:P 6=gH p s g t 6)(j:Nat)(hj:j<7):P j=gH p ((s.fI x y l).dy t v) (g.at x y r) t j:=by
 have Z:=oS hl;have i:∀a,¬(a=x/\t=y)->sl ((s.fI x y l).dy t v) (g.at x y r) a t=sl s g a t:=λa e=>by
  unfold sl;rw[ma g r e,ky (s:=s) (s':=(s.fI x y l).dy t v) rfl rfl rfl rfl rfl (by rw[dk,o]) (gf s l e)]
 have G:=pS 6 j af
 repeat' rcases G with rfl|G
 .exact h0
 .rw[H];exact(i 12<|λe=>by omega).symm
 .rw[h2];show _=Value.bool _;rw[dk]
 .rw[h3];show _=xp p (g.at x y r) _;rw[dk];rfl
 .rw[Y];show _=zD (g.at x y r) t _;rw[dk];rfl
 .rw[W];show _=Value.int .i64 _;rw[dk]
 rw[J];exact(i 5<|λe=>u ⟨e.1.symm,e.2.symm⟩).symm
theorem rq(h:dZ p s g w)(hW:LW s)(ht:ft s t):eN 133 #[P0<|g.tb t] w λw'=>Tr p s g w (s.dA t) g w':=by
 have hT:=h.tk ht;unfold Pl.dA
 cases hwh:(s.T t).wh with
 |none=>
  refine(xB (g.tb t) w ?_).mono ?_
  .rw[hT.cell 3 af];show some (xp p g (s.T t).wh)=_;rw[hwh];rfl
  grind[Tr.refl]
 |some xy=>
  obtain⟨x,y⟩:=xy;let⟨G,hm,H⟩:=hW.a t ht x y hwh;have a8:=hW.len G;have i:=h.ln G af;have Z:(s.q x y).length≠0:=by
   intro e;rw[dh]at e;rw[e]at hm;cases hm
  let⟨gb,cap,a3⟩:=ef i.row Z;injection a3 with W _ Y;have a9:=i;rw[W,Y]at i
  have nb:qp p g x y≠g.tb t:=by
   unfold qp;by_cases h5:x=5
   .rw[bf h5];exact λe=>H ⟨h5,h.mT (nV G h5) ht e⟩
   rw[av h5];exact h.E.ne hT eo
  have a4:gH p s g t 3=Pt (qp p g x y) (sk x y):=by
   show xp p g (s.T t).wh=_;rw[hwh];rfl
  refine(Es (qp p g x y) (sk x y) gb cap (s.q x y).length (g.tb t) (DX x) (AM x) (Fs p s g x y) (gH p s g t) ((s.q x y).map g.tb) w i hT a4 (List.mem_map_of_mem hm) (λz hz=>?_) nb (eU i.row i.hE (by grind[AM,decide]) gb rfl)<|eU i.row hT eo gb rfl).mono ?_
  .obtain⟨u,hu,rfl⟩:=eX.1 hz;exact(h.tk (hW.b x y G u hu).1).Ac
  rintro e w' ⟨rfl,a1,a5,a7⟩;have a2:=List.length_erase_of_mem hm;have o:g.ro x y=(some<|az gb 0,cap):=gh W Y;have a0:=h.line (l:=(s.q x y).erase t) (v:=(s.T t).off) (r:=g.ro x y) G ht rfl (ag rfl) H (w':=w') ?_ ?_ ?_ ?_ (λk hk=>ag hk)
  .grind[Cg]
  .grind[Ln.hE]
  .rw[a2,o];have:=a1.row;rw[tm _<|λb hb e=>h.mT (hW.b x y G b hb).1 ht e]at this;omega
  .refine a5.congr (λj hj=>sM (v:=(s.T t).off) G rfl H _ ?_ ?_ ?_ ?_ ?_ ?_ ?_ j hj)<;>rfl
  refine a7.mono<|λk hk _=>?_;rcases hk with J|J|J
  .omega
  .omega
  refine ak<|ak ?_;rw[o,J];rfl
def Pl.dX(s:Pl)(x y t:Nat):Pl:=((s.dA t).fI x y<|(s.dA t).q x y++[t]).dy t<|((s.dA t).T t).to x y
theorem kE(s:Pl)(t u:Nat):((s.dA t).T u).fr=(s.T u).fr:=by
 unfold Pl.dA;split
 .rfl
 by_cases e:u=t
 .subst e;rw[dk];rfl
 rw[dU _ _ e];rfl
def gl(s:Pl)(t:Nat):(s.dA t).nt=s.nt:=by unfold Pl.dA;split<;>rfl
theorem sZ(s:Pl)(h:(s.T t).wh≠some (x,y)):(s.dA t).q x y=s.q x y:=by
 unfold Pl.dA;split
 .rfl
 rename_i a b e;exact gf s _<|λi=>h ey
theorem eB(h:s'.nt=s.nt):ft s' t↔ft s t:=by grind[ft]
theorem gJ(h:s'.nt=s.nt):fQ s' x y↔fQ s x y:=by grind[fQ,eB]
theorem wS(h:dZ p s g w)(hW:LW s)(hl:fQ s x y)(ht:ft s t)(G:¬(x=5/\y=t))(a1:(s.T t).wh≠some (x,y)):eN 110 #[Pt (qp p g x y)<|sk x y,P0<|g.tb t] w λw'=>∃r,Tr p s g w (s.dX x y t) (g.at x y r) w':=by
 have a5:=hW.len hl;have J:=h.ln hl af;have hT:=h.tk ht
 have nb:qp p g x y≠g.tb t:=by
  unfold qp;by_cases h5:x=5
  .rw[bf h5];exact λe=>G ⟨h5,h.mT (nV hl h5) ht e⟩
  rw[av h5];exact h.E.ne hT eo
 have hc:w.cell? (az (qp p g x y)<|sk x y)=some (.slice (g.ro x y).1 (s.q x y).length (g.ro x y).2):=by
  rw[J.hE.cell _ J.ho,J.e]
 have hn1:=gl s t;have u:=(gJ hn1).2 hl;have a0:=(eB hn1).2 ht;have i:=sZ s a1;refine(MT (qp p g x y) (sk x y) (g.ro x y).2 (s.q x y).length (g.tb t) (DX x) (AM x) (g.ro x y).1 (Fs p (s.dA t) g x y) (gH p (s.dA t) g t) ((s.q x y).map g.tb) (λw1=>Tr p s g w (s.dA t) g w1) w nb (λk o=>⟨eU J.row J.hE (by grind[AM,decide]) k o,eU J.row hT eo k o⟩) af hc ?_).mono ?_
 .refine dq (rq h hW ht) λw1 H=>?_;grind[F.dZ.ln,F.Tr.r,F.dZ.tk]
 rintro e w' ⟨rfl,w1,H,gb,c',Z,a2,a4,Y⟩;refine⟨rfl,(some<|az gb 0,c'),H.trans<|H.r.line u a0 rfl (ak rfl) G ?_ ?_ ?_ ?_ ?_⟩
 .rw[i,db];exact Z.hE
 .rw[i,db];have:=Z.row;simp_all
 .refine a2.congr (λj hj=>sM (v:=((s.dA t).T t).to x y) u rfl G _ ?_ ?_ ?_ ?_ ?_ ?_ ?_ j hj)<;>rfl
 .grind[dJ,dN.mono]
 intro k o;have e:gb=k:=by injection o
 grind[dJ]
theorem kC(s:Pl)(t:Nat):eS s 12 t=(s.T t).fr.length:=rfl
theorem nI(s:Pl)(g:eM)(t:Nat):gC s g 12 t=((List.range (s.T t).fr.length).map<|g.fb t).map P0:=rfl
def qY.mR(v:qY)(l:List jq):qY:={v with fr:=l}
def Pl.push(s:Pl)(t:Nat)(f:jq):Pl:=s.dy t<|(s.T t).mR<|(s.T t).fr++[f]
def eM.push(g:eM)(t m fb rb:Nat)(r:Option Addr×Nat):eM:={g.at 12 t r with fb:=λa b=>if a=t/\b=m then fb else g.fb a b,rb:=λa b=>if a=t/\b=m then rb else g.rb a b}
def qk(g:eM)(t m fb rb:Nat)(r:Option Addr×Nat):(g.push t m fb rb r).fb t m=fb/\(g.push t m fb rb r).rb t m=rb:=⟨bf ⟨rfl,rfl⟩,bf ⟨rfl,rfl⟩⟩
def rK(g:eM){m fb rb:Nat}{a b:Nat}(h:¬(a=t/\b=m)):(g.push t m fb rb r).fb a b=g.fb a b/\(g.push t m fb rb r).rb a b=g.rb a b:=⟨av h,av h⟩
theorem xL(s:Pl)(t:Nat)(f:jq):du (s.push t f) t (s.T t).fr.length=f:=by
 unfold du Pl.push;rw[dk];show((s.T t).fr++[f]).getD _ _=f;simp
theorem pI(s:Pl)(f:jq)(h:u=t->i<(s.T t).fr.length):du (s.push t f) u i=du s u i:=by
 unfold du Pl.push;by_cases e:u=t
 .subst e;rw[dk];show((s.T u).fr++[f]).getD _ _=_;grind
 grind[dU]
theorem dZ.push{p:dH}{s:Pl}{g:eM}{w w':aa}{t fb rb:Nat}{f:jq}{r:Option Addr×Nat}(h:dZ p s g w)(ht:ft s t)(aC:(s.T t).lf=none)(hT:Full w' (g.tb t) 160 7 7 (eE (gH p s g t) 1<|.slice r.1 ((s.T t).fr.length+1) r.2))(hK:w'.ownsRow 0 184 1 (.slice r.1 ((s.T t).fr.length+1) r.2) ((s.T t).fr.length+1) (((List.range (s.T t).fr.length).map<|g.fb t).map P0++[P0 fb]))(hF:w'.heap[fb]?=some (jG (p.cb f.f) (p.len f.f) f.nx rb (p.rg f.f)<|yx p g t (s.T t).fr.length f.bk))(hR:Full w' rb 149 (p.rg f.f*2) (p.rg f.f*2) (eR f.R))(hO:dN (λk=>k=g.tb t\/fk (g.ro 12 t).1=some k) w w')(n1:w.heap.size<=fb)(n2:w.heap.size<=rb)(hB:∀k,fk r.1=some k->fk (g.ro 12 t).1=some k\/w.heap.size<=k):Tr p s g w (s.push t f) (g.push t (s.T t).fr.length fb rb r) w':=by
 generalize hm:(s.T t).fr.length=m at*;have y:∀u,u≠t->(s.push t f).T u=s.T u:=λu e=>dU _ _ e;have J:(s.push t f).T t=(s.T t).mR ((s.T t).fr++[f]):=dk _ _ _;have Y:((s.push t f).T t).fr.length=m+1:=by rw[J];show((s.T t).fr++[f]).length=_;rw[db,hm];rfl
 have a8:∀a b,¬(a=12/\b=t)->(g.push t m fb rb r).ro a b=g.ro a b:=λa b e=>ma g r e;have a3:(g.push t m fb rb r).ro 12 t=r:=tR g 12 t r;have a9:∀a b,¬(a=12/\b=t)->eS (s.push t f) a b=eS s a b:=λa b e=>by
  by_cases eb:b=t
  .have o:a≠12:=λo=>e ⟨o,eb⟩;unfold eS;simp only[av o];rfl
  exact ky rfl rfl rfl rfl rfl ey rfl
 have H:∀a b,¬(a=t/\b=m)->(g.push t m fb rb r).fb a b=g.fb a b:=λa b e=>(rK g e).1;have aB:∀a b,¬(a=12/\b=t)->gC (s.push t f) (g.push t m fb rb r) a b=gC s g a b:=λa b e=>by
  by_cases o:a=12
  .subst o;have eb:b≠t:=λeb=>e ⟨rfl,eb⟩;rw[nI,nI,y b eb];simp_all
  unfold gC;simp only[av o];rfl
 have a0:∀a b,¬(a=12/\b=t)->sl (s.push t f) (g.push t m fb rb r) a b=sl s g a b:=λa b e=>by
  unfold sl;rw[a8 a b e,a9 a b e]
 have a1:sl (s.push t f) (g.push t m fb rb r) 12 t=.slice r.1 (m+1) r.2:=by
  unfold sl;rw[a3,kC,Y]
 have a2:∀k,fk r.1=some k->k≠fb/\k≠rb:=λk G=>by
  let⟨_,_,cu,h1⟩:=dR hK k<|eZ dJ G;refine⟨eI h1 hF eo,?_⟩;obtain⟨aD,h2,_⟩:=hR;exact eI h1 h2 eo
 have a6:rb≠fb:=by
  obtain⟨aD,h2,_⟩:=hR;exact eI h2 hF eo
 have aA:∀a b c,¬((a=13\/a=14)/\b=t/\c=m)->ig (s.push t f) a b c=ig s a b c:=λa b c e=>by
  by_cases eb:b=t
  .by_cases o:a=13\/a=14
   .have ec:c≠m:=λec=>e ⟨o,eb,ec⟩;unfold ig;rw[eK,eK,eK,eK,bf o,eK,eK,eK,eK,bf o];have e1:((s.push t f).T b).fr.length=m+1:=eZ eb Y
    have e2:(s.T b).fr.length=m:=eZ eb hm
    rw[e1,e2];have a4:(s.push t f).nt=s.nt:=rfl;rw[a4];by_cases hc:c<m
    .have:c<m+1:=by omega
     simp[hc,this]
    have:¬c<m+1:=by omega
    simp[hc,this]
   unfold ig;have a4:(s.push t f).nt=s.nt:=rfl;rw[a4,av o];by_cases aE:a=17
   .have:((s.push t f).T b).lf=(s.T b).lf:=by rw[eb,J];rfl
    rw[this,av o]
   simp only[av aE,av o]
  exact nQ rfl (by rw[y b eb]) (λ_ _=>by rw[y b eb])
 refine h.to (λa b c=>(a=11/\b=t/\c=0)\/(a=12/\b=t/\c=0)\/((a=13\/a=14)/\b=t/\c=m)) (λk=>if k=fb then(13,t,m) else if k=rb then(14,t,m) else(12,t,0)) (hO.mono<|λk G _=>?_) (λa b c hC=>?_) (λa b c hC=>?_)<|λa b c k hC G=>?_
 .rcases G with G|G
  .exact⟨11,t,0,ag ⟨rfl,rfl,rfl⟩,by rw[lL p g ht];exact G⟩
  exact⟨12,t,0,ak<|ag ⟨rfl,rfl,rfl⟩,by rw[gW p g (by unfold fi;omega)<|iM af ht];exact G⟩
 .refine lK (aA a b c<|λe=>hC<|ak<|ak e)<|λhV=>mY hV (λ_=>kO (λa b _ _ e _=>a0 a b<|λhh=>e hh.1) rfl rfl) (λ_=>⟨rfl,rfl,rfl⟩) ?_ ?_ ?_ (λ_=>rfl) (λ_=>⟨rfl,rfl⟩) ?_ ?_
  .intro o;have eb:b≠t:=λe=>hC<|ag ⟨o,e,(kJ hV af).2⟩;refine⟨rfl,?_⟩;funext j
   unfold gH;rw[a0 12 b<|λe=>eb e.2,a0 5 b (λe=>by omega),y b eb];rfl
  .intro o;subst o;let⟨hb,hc⟩:=nP hV af;have e0:¬(b=t/\c=m):=λe=>hC<|ak<|ak ⟨ag rfl,e.1,e.2⟩;refine⟨H b c e0,?_⟩;rw[pI s f (λe=>by subst e;exact hc)];unfold Am yx;have e1:(g.push t m fb rb r).rb b c=g.rb b c:=(rK g e0).2;have e2:=H b (c-1) (λe=>by
    have h1:(s.T b).fr.length=m:=eZ e.1 hm
    omega)
   rw[e1,e2];rfl
  .intro o;subst o;let⟨hb,hc⟩:=nP hV af;have e0:¬(b=t/\c=m):=λe=>hC<|ak<|ak ⟨ak rfl,e.1,e.2⟩;exact⟨(rK g e0).2,pI s f (λe=>by subst e;exact hc)⟩
  .intro o;subst o;have hl:=(mI hV).2.2;have eb:b≠t:=λe=>by rw[e,aC]at hl;cases hl
   refine⟨rfl,?_⟩;unfold xz;rw[y b eb,H b _<|λe=>eb e.1];rfl
  intro ha;have e:¬(a=12/\b=t):=λe=>hC<|ak<|ag ⟨e.1,e.2,sJ hV ha⟩;exact⟨a8 a b e,a9 a b e,aB a b e⟩
 .rcases hC with⟨rfl,rfl,rfl⟩|⟨rfl,rfl,rfl⟩|⟨W,rfl,rfl⟩
  .rw[iq (show ig (s.push b f) 11 b 0=true from iM af ht)];refine Full.congr hT<|λj hj=>?_;have hc:=pS 6 j af
   repeat' rcases hc with rfl|hc
   .rfl
   .exact a1.symm
   .show Value.bool (s.T b).run=Value.bool ((s.push b f).T b).run;rw[J];rfl
   .show xp p g (s.T b).wh=xp p (g.push b m fb rb r) ((s.push b f).T b).wh;rw[J];rfl
   .show zD g b (s.T b).lf=zD (g.push b m fb rb r) b ((s.push b f).T b).lf;rw[J];rfl
   .show Value.int .i64 (s.T b).iT=Value.int .i64 ((s.push b f).T b).iT;rw[J];rfl
   exact(a0 5 b<|λe=>by omega).symm
  .rw[iq (show ig (s.push b f) 12 b 0=true from iM af ht),im (by unfold fi;omega)];show w'.ownsRow 0 184 1 (sl (s.push b f) (g.push b m fb rb r) 12 b) (eS (s.push b f) 12 b) (gC (s.push b f) (g.push b m fb rb r) 12 b);rw[a1,kC,nI,Y,gr,gX,gX];have e1:(List.range m).map ((g.push b m fb rb r).fb b)=(List.range m).map (g.fb b):=List.map_congr_left<|λi hi=>H b i (λe=>by have:=fY.1 hi;omega);have e2:([m].map<|(g.push b m fb rb r).fb b).map P0=[P0 fb]:=by show[P0 ((g.push b m fb rb r).fb b m)]=_;rw[(qk g b m fb rb r).1]
   rw[e1,e2];exact hK
  have a5:ig (s.push b f) a b c=true:=pz W ht<|lD Y;rw[iq a5];have a7:du (s.push b f) b c=f:=by rw[<-hm];exact xL s b f
  rcases W with rfl|rfl
  .show w'.heap[(g.push b c fb rb r).fb b c]?=some (Am p (g.push b c fb rb r) b c<|du (s.push b f) b c);rw[a7,(qk g b c fb rb r).1];unfold Am;rw[(qk g b c fb rb r).2];have:yx p (g.push b c fb rb r) b c f.bk=yx p g b c f.bk:=by
    unfold yx;by_cases h0:c=0
    .rw[bf h0,bf h0];rfl
    rw[av h0,av h0,H b (c-1)<|λe=>by omega];rfl
   rw[this];exact hF
  show Full w' ((g.push b c fb rb r).rb b c) 149 (p.rg (du (s.push b f) b c).f*2) (p.rg (du (s.push b f) b c).f*2) (eR (du (s.push b f) b c).R);rw[a7,(qk g b c fb rb r).2];exact hR
 rcases hC with⟨rfl,rfl,rfl⟩|⟨rfl,rfl,rfl⟩|⟨W,rfl,rfl⟩
 .rw[lL p _ (show ft (s.push b f) b from ht)]at G;rw[lL p g ht];exact ag G
 .rw[gW p _ (by unfold fi;omega) (show ig (s.push b f) 12 b 0=true from iM af ht),a3]at G;rw[gW p g (by unfold fi;omega)<|iM af ht];refine(hB k G).imp id<|λh=>⟨h,?_⟩;rw[av (a2 k G).1,av (a2 k G).2]
 have a5:ig (s.push b f) a b c=true:=pz W ht<|lD Y;rw[iq a5]at G;rcases W with rfl|rfl
 .have Z:k=(g.push b c fb rb r).fb b c:=G;rw[(qk g b c fb rb r).1]at Z;subst Z;exact ak ⟨n1,bf rfl⟩
 have Z:k=(g.push b c fb rb r).rb b c:=G;rw[(qk g b c fb rb r).2]at Z;subst Z;exact ak ⟨n2,by rw[av a6,bf rfl]⟩
