import Derived.Test.YtnjiinbhbjpfkaaGreatDoorStpE
set_option maxRecDepth 100000
set_option maxHeartbeats 0
set_option linter.all false
namespace Go.Proofs.YtnjiinbhbjpfkaaGreatDoor
open Go.RowKit Go.Proofs.Tryz
namespace F
theorem mu{kd:B.Kd}{vb:Vs}{c:B.Cy}(h:kd.cy=some c):yg kd vb=P0 vb.cb:=by unfold yg;rw[h];rfl
theorem mx{kd:B.Kd}{vb:Vs}(h:kd.cy=none):yg kd vb=.pointer none:=by unfold yg;rw[h];rfl
def pP(sb pb n:Nat)(kd:B.Kd)(vb:Vs)(k:Nat):Prop:=k=sb\/k=pb\/Own n kd vb k
def ox(n:Nat)(kd:B.Kd)(vb:Vs)(kd':B.Kd)(vb':Vs)(sz:Nat):Prop:=∀k,Own n kd' vb' k->Own n kd vb k\/sz<=k
theorem ox.refl(n:Nat)(kd:B.Kd)(vb:Vs)(sz:Nat):ox n kd vb kd vb sz:=λ_ h=>ag h
def Kj(w wr:World)(eb sb pb n:Nat)(kd:B.Kd)(vb:Vs)(s:B.St)(nr:Nat)(kd':B.Kd):Prop:=
 ∃vb',jm wr sb pb eb n kd' vb' s.2.2/\B.iZ kd' nr n s/\dy (pP sb pb n kd vb) w wr/\ox n kd vb kd' vb' w.heap.size/\vb'.f=vb.f
theorem jm.ju{w:World}{sb pb eb n:Nat}{kd:B.Kd}{vb:Vs}{M:Nat->List B.V}(h:jm w sb pb eb n kd vb M):sb≠pb/\∀k,Own n kd vb k->k≠sb/\k≠pb:=by
 obtain⟨G,i,_⟩:=id h.p.p;refine⟨dW h.b i (by decide),λk u=>?_⟩;obtain⟨y,T,o,e⟩:=h.ty k u;refine⟨dW o h.b ?_,dW o i ?_⟩
 .rcases e with rfl|rfl|rfl|rfl<;>decide
 rcases e with rfl|rfl|rfl|rfl<;>decide
theorem wJ{w:World}{sb pb eb n:Nat}{kd:B.Kd}{vb:Vs}{M:Nat->List B.V}{c:B.Cy}{ad:Option Addr}{cap:Nat}{x:Value}{cc:Nat}(y:w.heap[sb]? = some (.cells #[.slice (some ⟨pb,0,none⟩) n n,.func (.func 59) #[P0 eb] #[],x,.int .i64 (wrap64 ((kd.un+1:Nat):Int)),.int .i64 (wrap64 (kd.fo:Int)),.int .i64 (wrap64 (cc:Int))] 207 (0,0)))(hx:((B.unit M kd.on c).2.nx=n/\x=.pointer none/\cc=kd.cc+1)\/((B.unit M kd.on c).2.nx≠n/\x=P0 vb.cb/\cc=kd.cc))(u:ow w pb n (B.unit M kd.on c).1 vb.f M)(G:kY w vb.cb vb.rd sb n ad cap (B.unit M kd.on c).2): jm w sb pb eb n (B.ki M n kd c) { vb with ad:=ad,cap:=cap } M:=by
 rcases hx with⟨e,rfl,rfl⟩|⟨e,rfl,rfl⟩
 .have o:B.ki M n kd c=⟨(B.unit M kd.on c).1,none,kd.un+1,kd.fo,kd.cc+1⟩:=by unfold B.ki;rw[aj e]
  rw[o];exact⟨y,u,λc i=>by cases i⟩
 have o:B.ki M n kd c=⟨(B.unit M kd.on c).1,some (B.unit M kd.on c).2,kd.un+1,kd.fo,kd.cc⟩:=by unfold B.ki;rw[aa e]
 rw[o];refine⟨y,u,λH i=>?_⟩;have e:(B.unit M kd.on c).2=H:=by injection i
 subst e;exact G
theorem CN{n k:Nat}{kd:B.Kd}{vb:Vs}{M:Nat->List B.V}{c:B.Cy}{ad:Option Addr}{cap sz:Nat}(G:kd.cy=some c)(y:vY vb.ad ad sz)(i:Own n (B.ki M n kd c) { vb with ad:=ad,cap:=cap } k):Own n kd vb k\/sz<=k:=by
 have o:∀p,(B.ki M n kd c).on p=true->kd.on p=true:=λp u=>by
  have e:(B.ki M n kd c).on=(B.unit M kd.on c).1:=by unfold B.ki;split<;>rfl
  rw[e]at u;exact B.mK u
 rcases i with⟨p,a,b,d,e⟩|⟨_,i⟩
 .exact ag (ag ⟨p,a,b,o p d,e⟩)
 exact(y.Hz i).imp (λh=>ab ⟨by rw[G];rfl,h⟩) id
theorem BP(Q:Nat->Prop)(eb sb pb n nr u:Nat)(kd:B.Kd)(vb:Vs)(s:B.St)(w:World)(hR:BG w Q eb sb pb n nr kd vb s)(hu:u<=50): Calls prog 69 #[P0 sb,.int .i64 u] w λe w'=>e=.returned (.tuple #[])/\Kj w w' eb sb pb n kd vb s nr (B.work s.2.1 nr s.2.2 n u kd):=by
 have KR:=az hR;obtain⟨c1,c2,_⟩:=hR.hs.cells;have c0:=hR.hs.c0;have ls:=bz hR.hs.b;have hn:=hR.n2;clear hR;rcases hcy:kd.cy with _|aY
 all_goals
  first
  |rw[mx hcy]at c2
   have a6:=az hcy;clear hcy;go_in;go_wp2_with fail
   refine(tJ Q eb sb pb n nr s.2.1 w c0 c1 KR.hv (λk G=>(KR.hq k G).1) hn KR.roots).mono ?_;rintro e w1 ⟨cb,rd,ad,cap,rfl,J,aB,aH⟩;have a2:=(J.block sb ls).trans KR.hs.b;have x2:w1.cell? ⟨sb,2,none⟩=some (.pointer none):=by rw[mx a6]at a2;simp[World.cell?,a2]
   have y2:w1.frozen? ⟨sb,2,none⟩=false:=by simp[World.frozen?,a2]
   have aS:Hid (Kj w (w1.setCell ⟨sb,2,none⟩ (P0 cb)) eb sb pb n kd vb s nr { kd with cy:=some (B.begun s.2.1 nr) }):=by
    have hS:=KR.hs;have aI:=hS.ju;have aW:∀k,nh cb rd ad k->k≠sb:=λk G=>by have:=aB k G;omega
    refine⟨{ vb with cb:=cb,rd:=rd,ad:=ad,cap:=cap },⟨?_,?_,?_⟩,B.ti KR.hh KR.n1,?_,?_,rfl⟩
    .simp[World.setCell,cn,a2,yg]
    .exact(hS.p.block (J.block pb hS.p.p.lt) (λp a b d=>J.block _ (hS.p.s p a b d).lt)).block (af _ _ _ _ (λe=>aI.1 e.symm)) (λp a b d=>af _ _ _ _ (aI.2 _ (ag ⟨p,a,b,d,rfl⟩)).1)
    .intro c hc;have e:B.begun s.2.1 nr=c:=by injection hc
     subst e;exact aH.block (λk G=>af _ _ _ _ (aW k G))
    .exact bm ⟨J.os,J.tape,J.output,J.size,λk G _=>J.block k G⟩ (ag (ag rfl)) _
    intro k G;rcases G with⟨p,a,b,d,e⟩|⟨_,G⟩
    .exact ag (ag ⟨p,a,b,d,e⟩)
    exact ab (aB k G)
   have HU:Hid (B.fI s.2.2 n u { kd with cy:=some (B.begun s.2.1 nr) }=B.work s.2.1 nr s.2.2 n u kd):=by
    show _=_;unfold B.work;rw[a6.out]
   clear J aB aH a2;clear c0 c1 c2;go_wp2_with fail
  |rw[mu hcy]at c2
   have a6:=az hcy;clear hcy;have aS:Hid (Kj w w eb sb pb n kd vb s nr kd):=⟨vb,KR.hs,KR.hh,dk _ _,ox.refl _ _ _ _,rfl⟩;have HU:Hid (B.fI s.2.2 n u kd=B.work s.2.1 nr s.2.2 n u kd):=by
    show _=_;unfold B.work;rw[a6.out]
   go_in;go_wp2_with fail
   clear c0 c1 c2
 all_goals
  go_loopw [4] (λi wr=>∃j:Nat,j<=u/\i=.int .i64 j/\Hid (∃kd',Kj w wr eb sb pb n kd vb s nr kd'/\B.fI s.2.2 n (u-j) kd'=B.work s.2.1 nr s.2.2 n u kd)) (λi _=>u-(intOf i).toNat)
  case atStart=>exact⟨0,by omega,rfl,_,aS,HU⟩
  case round=>
   obtain⟨j,hj,rfl,hX⟩:=hrel;obtain⟨kd',⟨o,hS,hH,hO,hG,a3⟩,hU⟩:=hX;obtain⟨_,d2,_,_,_,_,_,_,_⟩:=hS.cells;have lw:=bz hS.b;have HS:=az hS;have HQ:=az (ay hH (ay hO (ay hG (ay hU a3))));clear hS hH hO hG hU a3;by_cases b3:j<u
   .have a9:(j:Int)<u:=by omega
    cases hcy':kd'.cy with
    |none=>
     rw[mx hcy']at d2;have y:=az hcy';clear hcy';go_wp2_with fail
     go_end0;obtain⟨hH,hO,hG,hU,a3⟩:=HQ;rw[B.sj y]at hU;exact⟨rfl,by rw[<-hU];exact⟨o,HS,hH,hO,hG,a3⟩⟩
    |some c=>
     rw[mu hcy']at d2;have y:=az hcy';clear hcy';obtain⟨hx,T,hT,a8⟩:=HQ.1.h3 c y;have aZ:=az a8;have aL:=az (uj o.cb o.rd sb pb n o.ad o.cap c kd'.on o.f s.2.2 T wr (HS.c c y) HS.p HS.c0 (λh=>(HS.ju.2 sb (ab ⟨by rw[y.out];rfl,h⟩)).1 rfl) a8 a8.sum hx hn);have b1:=az hx;clear a8 hT hx;go_wp2_with fail
     refine aL.mono ?_;rintro e w5 ⟨rfl,u1,u2,a0,Y,u3,u4⟩;have W:w5.heap[sb]? = _:=(u2.same lw (λh=>by
      rcases h with h|h
      .exact HS.ju.1 h
      exact(HS.ju.2 sb (ab ⟨by rw[y.out];rfl,h⟩)).1 rfl)).trans HS.b
     rw[mu y]at W;generalize aF:wrap64 (kd'.un:Int)=yu at W;generalize aE:wrap64 (kd'.cc:Int)=yc at W;have x2:w5.cell? ⟨sb,2,none⟩=some (P0 o.cb):=by simp[World.cell?,W]
     have x3:w5.cell? ⟨sb,3,none⟩=some (.int .i64 yu):=by simp[World.cell?,W]
     have y3:w5.frozen? ⟨sb,3,none⟩=false:=by simp[World.frozen?,W]
     have l5:=bz W;have aU:=az W;have a7:=az (ay aF aE);have a5:=az (ay u1 (ay u2 (ay u3 u4)));clear u1 u2 u3 u4 W aF aE d2 aL;go_wp2_with fail
     have aG:(w5.setCell ⟨sb,3,none⟩ (.int .i64 (wrap64 (yu+1)))).heap[sb]? = some (.cells #[.slice (some ⟨pb,0,none⟩) n n,.func (.func 59) #[P0 eb] #[],P0 o.cb,.int .i64 (wrap64 (yu+1)),.int .i64 (wrap64 (kd'.fo:Int)),.int .i64 yc] 207 (0,0)):=by
      have:=aU.out;simp[World.setCell,cn,this]
     have aC:∀k,nh o.cb o.rd a0 k->k≠sb:=λk G e=>by
      rcases a5.2.2.1.Hz G with h|h
      .exact(HS.ju.2 k (ab ⟨by rw[y.out];rfl,h⟩)).1 e
      omega
     have aJ:ow (w5.setCell ⟨sb,3,none⟩ (.int .i64 (wrap64 (yu+1)))) pb n (B.unit s.2.2 kd'.on c).1 o.f s.2.2:=a5.1.block (af _ _ _ _ (λe=>HS.ju.1 e.symm)) (λp a b d=>af _ _ _ _ (HS.ju.2 _ (ag ⟨p,a,b,B.mK d,rfl⟩)).1);have aQ:kY (w5.setCell ⟨sb,3,none⟩ (.int .i64 (wrap64 (yu+1)))) o.cb o.rd sb n a0 Y (B.unit s.2.2 kd'.on c).2:=a5.2.2.2.block (λk G=>af _ _ _ _ (aC k G));have aT:=az aC;have aM:=az aJ;have aA:=az aQ;have aV:=az aG
     have aN:Hid (dy (pP sb pb n kd vb) w (w5.setCell ⟨sb,3,none⟩ (.int .i64 (wrap64 (yu+1))))):=by
      refine bm (HQ.2.1.trans a5.2.1 (λk G hl=>?_)) (ag (ag rfl)) _;rcases G with h|h
      .exact ab (ag h)
      exact ab (ab ((HQ.2.2.1 k (ab ⟨by rw[y.out];rfl,h⟩)).resolve_right (by omega)))
     clear aG aC aJ aQ x2 x3 y3;generalize aX:w5.setCell ⟨sb,3,none⟩ (.int .i64 (wrap64 (yu+1)))=w6 at *;clear aX;refine(tF o.cb o.rd sb n a0 Y _ w6 aA).mono ?_;rintro e w7 ⟨rfl,aD⟩;have a1:=az aD;have Z:=cm aD aV (by intro e;cases e);have aO:=az Z;have aR:Hid (ox n kd vb (B.ki s.2.2 n kd' c) { o with ad:=a0,cap:=Y } w.heap.size):=λk G=>by
      rcases CN y a5.2.2.1 G with h|h
      .exact HQ.2.2.1 k h
      have:=HQ.2.1.size;exact ab (by omega)
     have aP:Hid (B.fI s.2.2 n (u-(j+1)) (B.ki s.2.2 n kd' c)=B.work s.2.1 nr s.2.2 n u kd):=by
      have:=HQ.2.2.2.1;rw[show u-j=(u-(j+1))+1 by omega,B.sh y]at this;exact this
     clear aD;by_cases H:(B.unit s.2.2 kd'.on c).2.nx=n
     .have hd:decide ((B.unit s.2.2 kd'.on c).2.nx=n)=true:=by simpa using H
      rw[hd];have a4:=az H;have z2:w7.cell? ⟨sb,2,none⟩=some (P0 o.cb):=by simp[World.cell?,Z]
      have z5:w7.cell? ⟨sb,5,none⟩=some (.int .i64 yc):=by simp[World.cell?,Z]
      have q2:w7.frozen? ⟨sb,2,none⟩=false:=by simp[World.frozen?,Z]
      have q5:w7.frozen? ⟨sb,5,none⟩=false:=by simp[World.frozen?,Z]
      have l7:=bz Z;clear hd H Z;go_wp2_with fail
      go_roundw
      case rel=>
       refine⟨j+1,by omega,by go_num,_,⟨{ o with ad:=a0,cap:=Y },wJ (cc:=kd'.cc+1) (x:=.pointer none) ?_ (ag ⟨a4,rfl,rfl⟩) ?_ ?_,B.qo HQ.1 y,?_,aR,HQ.2.2.2.2⟩,aP⟩
       .have:=aO.out;rw[<-a7.1,<-a7.2]at *;simp[World.setCell,cn,this,pT]
       .exact((aM.kept a1).block (af _ _ _ _ (λe=>HS.ju.1 e.symm)) (λp a b d=>af _ _ _ _ (HS.ju.2 _ (ag ⟨p,a,b,B.mK d,rfl⟩)).1)).block (af _ _ _ _ (λe=>HS.ju.1 e.symm)) (λp a b d=>af _ _ _ _ (HS.ju.2 _ (ag ⟨p,a,b,B.mK d,rfl⟩)).1)
       .exact((aA.kept a1).block (λk G=>af _ _ _ _ (aT k G))).block (λk G=>af _ _ _ _ (aT k G))
       exact bm (bm (aN.gR a1) (ag (ag rfl)) _) (ag (ag rfl)) _
      case measure=>simp[intOf];omega
     have hd:decide ((B.unit s.2.2 kd'.on c).2.nx=n)=false:=by simpa using H
     rw[hd];have a4:=az H;clear hd H Z;go_wp2_with fail
     go_roundw
     case rel=>
      refine⟨j+1,by omega,by go_num,_,⟨{ o with ad:=a0,cap:=Y },wJ (cc:=kd'.cc) (x:=P0 o.cb) ?_ (ab ⟨a4,rfl,rfl⟩) (aM.kept a1) (aA.kept a1),B.qo HQ.1 y,aN.gR a1,aR,HQ.2.2.2.2⟩,aP⟩;rw[aO.out,<-a7.1,<-a7.2,pT]
     case measure=>simp[intOf];omega
   have a9:¬((j:Int)<u):=by omega
   have HJ:Hid (u-j=0):=by show _=_;omega
   go_wp2_with fail
   go_end0;obtain⟨hH,hO,hG,hU,a3⟩:=HQ;rw[HJ.out]at hU;exact⟨rfl,by rw[<-hU];exact⟨o,HS,hH,hO,hG,a3⟩⟩
structure gY where
 f:Nat
 nx:Nat
 R:Nat->B.V
 bk:Nat×Nat×Nat×Nat
structure oT where
 fr:List gY
 run:Bool
 wh:Option (Nat×Nat)
 lf:Option (Nat×Nat×Nat×Nat)
 iL:Int
structure Pl where
 nt:Nat
 T:Nat->oT
 q:Nat->Nat->List Nat
 lv:List Nat
 out:List B.V
 kp:List B.V
 ev:List se
 jo:Nat->List Nat
 sp:Bool
 eY:Int
 kd:B.Kd
 M:Nat->List B.V
 ck:Nat->Nat
structure eE where
 tb:Nat->Nat
 ro:Nat->Nat->Option Addr×Nat
 fb:Nat->Nat->Nat
 rb:Nat->Nat->Nat
 xe:Nat->Nat
 xt:Nat->Nat
 sx:Nat->Nat
 vf:Nat->Nat
 cb:Nat
 rd:Nat
 ad:Option Addr
 cap:Nat
structure dz where
 eb:Nat
 sb:Nat
 pb:Nat
 n:Nat
 nf:Nat
 gb:Nat
 cb:Nat->Nat
 len:Nat->Nat
 rg:Nat->Nat
 ins:Nat->Nat->Nat×Nat×Nat×Nat
 qn:Nat
 wk:Nat
 mt:Nat
 ac:Nat
 E0:Nat->Value
 fx:Nat->Prop
 fc:Nat->Option Obj
structure Ob where
 bs:Nat->Prop
 ok:World->Prop
 fr:∀w w':World,ok w->(∀k,bs k->w'.heap[k]? = w.heap[k]?)->ok w'
 lt:∀(w:World) (k:Nat),ok w->bs k->k<w.heap.size
def Ob.nil:Ob:=⟨λ_=>False,λ_=>True,λ_ _ h _=>h,λ_ _ _ h=>h.elim⟩
def Ob.full(b:Nat)(T:TypeId)(N:Nat)(E:Nat->Value):Ob:=⟨λk=>k=b,λw=>Full w b T N N E,λ_ _ h hk=>h.block (hk b rfl),λ_ _ h e=>by rw[e];exact h.lt⟩
def Ob.one(b:Nat)(o:Obj):Ob:=⟨λk=>k=b,λw=>w.heap[b]? = some o,λ_ _ h hk=>(hk b rfl).trans h,λ_ _ h e=>by rw[e];exact bz h⟩
def Ob.row(T:TypeId)(sz:Nat)(ad:Option Addr)(n c:Nat)(xs:List Value):Ob:=⟨λk=>eO ad=some k,λw=>w.ownsRow 0 T sz (.slice ad n c) n xs,λ_ _ h hk=>dD h (λk e=>hk k (by rw[<-dr ad n c];exact e)),λ_ k h e=>(dA h k (by rw[dr];exact e)).2.1⟩
theorem jm.slt{w:World}{sb pb eb n:Nat}{kd:B.Kd}{vb:Vs}{M:Nat->List B.V}(h:jm w sb pb eb n kd vb M)(k:Nat)(e:pP sb pb n kd vb k):k<w.heap.size:=by
 rcases e with rfl|rfl|e
 .exact bz h.b
 .exact h.p.p.lt
 exact h.lt k e
def Ob.str(sb pb eb n:Nat)(kd:B.Kd)(vb:Vs)(M:Nat->List B.V):Ob:=⟨pP sb pb n kd vb,λw=>jm w sb pb eb n kd vb M,λ_ _ h hk=>h.block (hk sb (ag rfl)) (hk pb (ab (ag rfl))) (λk h=>hk k (ab (ab h))),λ_ k h e=>h.slt k e⟩
theorem Ht(F:Nat->Prop)(C:Nat->Option Obj)(w w':World)(h:∀k,F k->k<w.heap.size/\w.heap[k]? = C k)(u:∀k,F k->w'.heap[k]? = w.heap[k]?)(k:Nat)(i:F k):k<w'.heap.size/\w'.heap[k]? = C k:=by
 have e:=u k i;refine⟨?_,e.trans (h k i).2⟩;rcases Nat.lt_or_ge k w'.heap.size with o|o
 .exact o
 rw[Array.getElem?_eq_none o]at e;have:=Array.getElem?_eq_getElem (h k i).1;rw[this]at e
 cases e
def Ob.fix(F:Nat->Prop)(C:Nat->Option Obj):Ob:=⟨F,λw=>∀k,F k->k<w.heap.size/\w.heap[k]? = C k,Ht F C,λ_ k h e=>(h k e).1⟩
def eH(s:Pl)(x y:Nat):Nat:=
 if x=6 then s.lv.length else if x=7 then s.out.length else if x=8 then s.kp.length else if x=9 then s.ev.length else if x=10 then(s.jo y).length else if x=12 then(s.T y).fr.length else(s.q x y).length
def fU(s:Pl)(g:eE)(x y:Nat):List Value:=
 if x=6 then(s.lv.map g.tb).map P0 else if x=7 then fT s.out else if x=8 then fT s.kp else if x=9 then kE s.ev else if x=10 then Ie (s.jo y) else if x=12 then((List.range (s.T y).fr.length).map (g.fb y)).map P0 else((s.q x y).map g.tb).map P0
def zA(x:Nat):TypeId:=if x=7 then 149 else if x=8 then 149 else if x=9 then 48 else if x=10 then 5 else if x=12 then 184 else 155
def zB(x:Nat):Nat:=if x=7 then 2 else if x=8 then 2 else if x=9 then 3 else 1
def sl(s:Pl)(g:eE)(x y:Nat):Value:=.slice (g.ro x y).1 (eH s x y) (g.ro x y).2
def kN(j:Nat):Nat×Nat:=if j=29 then(6,0) else if j=30 then(7,0) else if j=31 then(8,0) else if j=32 then(2,0) else if j=33 then(3,0) else if j=43 then(9,0) else if j % 2=0 then(10,(j-34) / 2) else(4,(j-34) / 2)
def iJ(p:dz)(s:Pl)(g:eE)(j:Nat):Value:=
 if j<28 then p.E0 j else if j=28 then .int .i64 s.eY else if j=42 then .bool s.sp else sl s g (kN j).1 (kN j).2
def tP(p:dz)(g:eE)(x y:Nat):Nat:=if x=5 then g.tb y else p.eb
def wg(x y:Nat):Nat:=if x=5 then 6 else if x=2 then 32 else if x=3 then 33 else 35+2*y
def x8(p:dz)(g:eE)(h:Option (Nat×Nat)):Value:=match h with
 | none=>.pointer none
 | some (x,y)=>Pt (tP p g x y) (wg x y)
def Ba(g:eE)(t:Nat)(h:Option (Nat×Nat×Nat×Nat)):Value:=match h with
 | none=>.nilFunc
 | some _=>Fv 207 #[P0 (g.sx t)]
def gE(p:dz)(s:Pl)(g:eE)(t j:Nat):Value:=
 if j=0 then .int .i64 (t:Int) else if j=1 then sl s g 12 t else if j=2 then .bool (s.T t).run else if j=3 then x8 p g (s.T t).wh else if j=4 then Ba g t (s.T t).lf else if j=5 then .int .i64 (s.T t).iL else sl s g 5 t
def wj(p:dz)(g:eE)(t i:Nat)(bk:Nat×Nat×Nat×Nat):Value:=if i=0 then Fv 120 #[P0 (g.xe t),P0 (g.xt t)] else .func (.func 149) #[dZ bk.1 bk.2.1 bk.2.2.1 bk.2.2.2 (g.fb t (i-1)) (g.tb t) p.eb] #[]
def mr:gY:=⟨0,0,λ_=>(0,0),(0,0,0,0)⟩
def de(s:Pl)(t i:Nat):gY:=(s.T t).fr.getD i mr
def yf(p:dz)(g:eE)(t i:Nat)(f:gY):Obj:=ij (p.cb f.f) (p.len f.f) f.nx (g.rb t i) (p.rg f.f) (wj p g t i f.bk)
def ye(p:dz)(s:Pl)(g:eE)(t:Nat):Obj:=match (s.T t).lf with
 | none=>.cells #[] 0 (0,0)
 | some k=>lZ k.1 k.2.1 k.2.2.1 k.2.2.2 (g.fb t ((s.T t).fr.length-1)) (g.tb t) p.eb
def jn(s:Pl)(g:eE):Vs:=⟨⟨g.vf,s.ck⟩,g.cb,g.rd,g.ad,g.cap⟩
def gu(s:Pl)(x y z:Nat):Bool:=
 if x<=1\/x=2\/x=3\/(6<=x/\x<=9)\/x=18 then decide (y=0/\z=0)
 else if x=4\/x=10 then decide (y<4/\z=0)
 else if x=5\/x=11\/x=12\/x=15\/x=16 then decide (1<=y/\y<=s.nt/\z=0)
 else if x=17 then decide (1<=y/\y<=s.nt/\z=0) && (s.T y).lf.isSome
 else if x=13\/x=14 then decide (1<=y/\y<=s.nt/\z<(s.T y).fr.length)
 else false
def FX(p:dz)(s:Pl)(g:eE)(x y z:Nat):Ob:=
 if x=0 then .full p.eb 144 44 (iJ p s g)
 else if x=1 then .str p.sb p.pb p.eb p.n s.kd (jn s g) s.M
 else if x=11 then .full (g.tb y) 160 7 (gE p s g y)
 else if x=13 then .one (g.fb y z) (yf p g y z (de s y z))
 else if x=14 then .full (g.rb y z) 149 (p.rg (de s y z).f*2) (eC (de s y z).R)
 else if x=15 then .one (g.xe y) (.cells #[P0 p.eb] 95 (0,0))
 else if x=16 then .one (g.xt y) (.cells #[P0 (g.tb y)] 155 (0,0))
 else if x=17 then .one (g.sx y) (ye p s g y)
 else if x=18 then .fix p.fx p.fc
 else .row (zA x) (zB x) (g.ro x y).1 (eH s x y) (g.ro x y).2 (fU s g x y)
def ob(p:dz)(s:Pl)(g:eE)(x y z:Nat):Ob:=if gu s x y z=true then FX p s g x y z else .nil
structure dQ(p:dz) (s:Pl) (g:eE) (w:World):Prop where
 o:∀x y z,(ob p s g x y z).ok w
 i:∀x y z x' y' z' k,(ob p s g x y z).bs k->(ob p s g x' y' z').bs k->x=x'/\y=y'/\z=z'
def ey(p:dz)(s:Pl)(g:eE)(k:Nat):Prop:=∃x y z,(ob p s g x y z).bs k
def fe(s:Pl)(t:Nat):Prop:=1<=t/\t<=s.nt
structure Tr(p:dz) (s:Pl) (g:eE) (w:World) (s':Pl) (g':eE) (w':World):Prop where
 r:dQ p s' g' w'
 o:dy (ey p s g) w w'
 m:∀k,ey p s' g' k->ey p s g k\/w.heap.size<=k
 n:s.nt<=s'.nt
 t:∀u,fe s u->g'.tb u=g.tb u
theorem dQ.lt{p:dz}{s:Pl}{g:eE}{w:World}(h:dQ p s g w){k:Nat}(e:ey p s g k):k<w.heap.size:=by
 obtain⟨x,y,z,e⟩:=e;exact(ob p s g x y z).lt w k (h.o x y z) e
theorem dQ.only{p:dz}{s:Pl}{g:eE}{w w':World}(h:dQ p s g w){S:Nat->Prop}(u:dy S w w')(hS:∀k,ey p s g k->¬S k):dQ p s g w':=
 ⟨λx y z=>(ob p s g x y z).fr w w' (h.o x y z) (λk e=>u.same (h.lt ⟨x,y,z,e⟩) (hS k ⟨x,y,z,e⟩)),h.i⟩
theorem dQ.kept{p:dz}{s:Pl}{g:eE}{w w':World}(h:dQ p s g w)(e:w.grownBy w' none):dQ p s g w':=h.only (S:=λ_=>False) (dU e) (λ_ _ h=>h)
theorem Tr.refl{p:dz}{s:Pl}{g:eE}{w:World}(h:dQ p s g w):Tr p s g w s g w:=⟨h,dk _ _,λ_ h=>ag h,bj _,λ_ _=>rfl⟩
theorem Tr.trans{p:dz}{s s' i:Pl}{g g' g'':eE}{w w' w'':World}(h:Tr p s g w s' g' w')(e:Tr p s' g' w' i g'' w''):Tr p s g w i g'' w'':=
 ⟨e.r,h.o.trans e.o (λk y J=>(h.m k y).resolve_right (by omega)),λk y=>by
  rcases e.m k y with H|H
  .exact h.m k H
  have:=h.o.size;exact ab (by omega),dH h.n e.n,λu G=>(e.t u ⟨G.1,dH G.2 h.n⟩).trans (h.t u G)⟩
theorem Tr.kept{p:dz}{s s':Pl}{g g':eE}{w w' w'':World}(h:Tr p s g w s' g' w')(e:w'.grownBy w'' none):Tr p s g w s' g' w'':=⟨h.r.kept e,h.o.gR e,h.m,h.n,h.t⟩
theorem Tr.ahead{p:dz}{s s':Pl}{g g':eE}{w0 w w':World}(e:w0.grownBy w none)(h:Tr p s g w s' g' w'):Tr p s g w0 s' g' w':=
 ⟨h.r,(dU e).trans h.o (λ_ h _=>h),λk i=>(h.m k i).imp id (λh=>by have:=e.size;omega),h.n,h.t⟩
theorem Tr.other{p:dz}{s s':Pl}{g g':eE}{w w':World}(h:Tr p s g w s' g' w'){k:Nat}{o:Obj}(e:w.heap[k]? = some o)(hn:¬ey p s g k):w'.heap[k]? = some o/\¬ey p s' g' k:=
 ⟨h.o.block e hn,λi=>(h.m k i).elim hn (λu=>by have:=bz e;omega)⟩
theorem Tr.to{p:dz}{s0 s s':Pl}{g0 g g':eE}{w0 w w':World}(C:Nat->Nat->Nat->Prop)(own:Nat->Nat×Nat×Nat)(H:Tr p s0 g0 w0 s g w)(hO:dy (λk=>∃x y z,C x y z/\(ob p s g x y z).bs k) w w')(h1:∀x y z,¬C x y z->ob p s' g' x y z=ob p s g x y z)(h2:∀x y z,C x y z->(ob p s' g' x y z).ok w')(h3:∀x y z k,C x y z->(ob p s' g' x y z).bs k->(ob p s g x y z).bs k\/(¬ey p s g k/\w0.heap.size<=k/\own k=(x,y,z)))(hn:s.nt<=s'.nt:=by first|exact bj _|omega)(Y:∀u,fe s u->g'.tb u=g.tb u:=by intros;rfl):Tr p s0 g0 w0 s' g' w':=by
 have h:=H.r;have G:=λx y z k e=>by
  by_cases J:C x y z
  .exact h3 x y z k J e
  rw[h1 x y z J]at e;exact ag e
 refine⟨⟨λx y z=>?_,λx y z x' y' z' k e W=>?_⟩,H.o.trans hO (λk e hl=>?_),λk e=>?_,dH H.n hn,λu Z=>(Y u ⟨Z.1,dH Z.2 H.n⟩).trans (H.t u Z)⟩
 .by_cases J:C x y z
  .exact h2 x y z J
  rw[h1 x y z J];refine(ob p s g x y z).fr w w' (h.o x y z) (λk e=>hO.same (h.lt ⟨x,y,z,e⟩) ?_);rintro⟨a,b,c,hc,Y⟩;obtain⟨rfl,rfl,rfl⟩:=h.i _ _ _ _ _ _ k e Y;exact J hc
 .rcases G _ _ _ k e with a|⟨a,_,b⟩
  .rcases G _ _ _ k W with c|⟨c,_⟩
   .exact h.i _ _ _ _ _ _ k a c
   exact ch ⟨_,_,_,a⟩ c
  rcases G _ _ _ k W with c|⟨c,_,d⟩
  .exact ch ⟨_,_,_,c⟩ a
  rw[b]at d;injection d with d1 d2;injection d2 with d2 d3;exact⟨d1,d2,d3⟩
 .obtain⟨x,y,z,_,Y⟩:=e;exact(H.m k ⟨x,y,z,Y⟩).resolve_right (by omega)
 obtain⟨x,y,z,e⟩:=e;rcases G x y z k e with h|h
 .exact H.m k ⟨x,y,z,h⟩
 exact ab h.2.1
theorem dQ.to{p:dz}{s s':Pl}{g g':eE}{w w':World}(C:Nat->Nat->Nat->Prop)(own:Nat->Nat×Nat×Nat)(h:dQ p s g w)(o:dy (λk=>∃x y z,C x y z/\(ob p s g x y z).bs k) w w')(i:∀x y z,¬C x y z->ob p s' g' x y z=ob p s g x y z)(W:∀x y z,C x y z->(ob p s' g' x y z).ok w')(J:∀x y z k,C x y z->(ob p s' g' x y z).bs k->(ob p s g x y z).bs k\/(w.heap.size<=k/\own k=(x,y,z)))(hn:s.nt<=s'.nt:=by first|exact bj _|omega)(H:∀u,fe s u->g'.tb u=g.tb u:=by intros;rfl):Tr p s g w s' g' w':=
 Tr.to C own (Tr.refl h) o i W (λx y z k Y e=>(J x y z k Y e).imp id (λG=>⟨λZ=>by have:=h.lt Z;omega,G⟩)) hn H
end F
namespace D
open F
abbrev yi:=Nat×Nat×Nat×Nat
structure Dp where
 n:Nat
 qn:Nat
 wk:Nat
 mt:Nat
 nf:Nat
 gb:Nat
 gc:Nat
 cb:Nat->Nat
 cc:Nat->Nat
 len:Nat->Nat
 rg:Nat->Nat
 ins:Nat->Nat->yi
structure Dt where
 fr:List gY
 how:Nat
 into:Int
 what:Nat
 km:Int
 ji:Nat
 out:B.V
structure Dc where
 all:Nat
 bg:Bool
 mW:Int
 sure:Nat
 lO:Nat
 fI:Int
 wi:Int
 fu:Bool
structure Dm where
 nt:Nat
 T:Nat->Dt
 q:List Nat
 jo:Nat->List Nat
 nc:Nat
 M:Nat->List B.V
 ck:Nat->Nat
 ji:Nat
 sp:Bool
 ev:List se
 eY:Int
 G:Dc
structure Dg where
 mb:Nat
 ro:Nat->Nat->Option Addr×Nat
 rb:Nat->Nat->Nat
 sb:Nat->Nat
abbrev iK(x:Int):Value:=.int .i64 x
def qz(m:Dm)(x y:Nat):Nat:=if x=1 then m.nt else if x=2 then m.q.length else if x=3 then m.nc else if x=4 then m.ev.length else if x=5 then(m.T y).fr.length else(m.jo y).length
def iR(m:Dm)(g:Dg)(x y:Nat):Value:=.slice (g.ro x y).1 (qz m x y) (g.ro x y).2
def mE(p:Dp)(m:Dm)(g:Dg)(j:Nat):Value:=
 if j=0 then .slice (some ⟨p.gb,0,none⟩) p.nf p.gc else if j=1 then iK p.n else if j=2 then iK p.qn else if j=3 then iK p.wk else if j=4 then iK p.mt else if j=5 then iK m.eY
 else if j=6 then iR m g 1 0 else if j=7 then iR m g 2 0 else if j<12 then iR m g 10 (j-8) else if j=12 then iR m g 3 0
 else if j=13 then iK m.ji else if j=14 then .bool m.sp else if j=15 then iR m g 4 0 else if j=16 then iK m.G.all else if j=17 then .bool m.G.bg else if j=18 then iK m.G.mW else if j=19 then iK m.G.sure else if j=20 then iK m.G.lO else if j=21 then iK m.G.fI else if j=22 then iK m.G.wi else .bool m.G.fu
def tC(x:Dt)(fv:Value)(k:Nat):Value:=
 if k=0 then fv else if k=1 then iK x.how else if k=2 then iK x.into else if k=3 then iK x.what else if k=4 then iK x.km else if k=5 then iK x.ji else if k=6 then iK x.out.1 else iK x.out.2
def tE(m:Dm)(g:Dg)(j:Nat):Value:=tC (m.T (j / 8+1)) (iR m g 5 (j / 8+1)) (j % 8)
def fj(m:Dm)(t i:Nat):gY:=(m.T t).fr.getD i mr
def fC(p:Dp)(f:gY)(rb:Nat)(k:Nat):Value:=
 if k=0 then iK f.f else if k=1 then .slice (some ⟨rb,0,none⟩) (p.rg f.f) (p.rg f.f) else if k=2 then iK f.nx else iK f.bk.2.1
def fE(p:Dp)(m:Dm)(g:Dg)(t j:Nat):Value:=fC p (fj m t (j / 4)) (g.rb t (j / 4)) (j % 4)
def cE(m:Dm)(g:Dg)(j:Nat):Value:=
 if j % 2=0 then .slice (some ⟨g.sb (j / 2+1),0,none⟩) (m.M (j / 2+1)).length (m.M (j / 2+1)).length else iK ((m.ck (j / 2+1):Int)-1)
def kT(l:List B.V):Nat->B.V:=λi=>l.getD i (0,0)
def rowP(n:Nat)(P:Nat->Value):List Value:=(List.range n).map P
def iI(l:List Nat):List Value:=l.map (λ(x:Nat)=>iK (x:Int))
def Ob.q(e:TypeId)(ad:Option Addr)(n c:Nat)(xs:List Value):Ob:=⟨λk=>eO ad=some k,λw=>fM w e (.slice ad n c) xs,λ_ _ h hk=>h.block (λk e=>hk k (by rw[<-dr ad n c];exact e)),λ_ k h e=>h.lt k (by rw[dr];exact e)⟩
def JC(p:Dp)(j:Nat):Value:=if j % 2=0 then iK (p.rg (j / 2)) else .slice (some ⟨p.cb (j / 2),0,none⟩) (p.len (j / 2)) (p.cc (j / 2))
def Ec(p:Dp)(f j:Nat):Value:=iK (if j % 4=0 then(p.ins f (j / 4)).1 else if j % 4=1 then(p.ins f (j / 4)).2.1 else if j % 4=2 then(p.ins f (j / 4)).2.2.1 else(p.ins f (j / 4)).2.2.2:Nat)
def vd(p:Dp)(m:Dm)(x y z:Nat):Bool:=
 if x<=4\/x=8 then decide (y=0/\z=0) else if x=5 then decide (1<=y/\y<=m.nt/\z=0) else if x=6 then decide (1<=y/\y<=m.nt/\z<(m.T y).fr.length)
 else if x=7 then decide (1<=y/\y<=m.nc/\z=0) else if x=9 then decide (y<p.nf/\z=0) else decide (x=10/\y<4/\z=0)
def Me(x:Nat):TypeId:=if x=1 then 167 else if x=3 then 233 else if x=4 then 48 else 163
def Mf(x:Nat):Nat:=if x=1 then 8 else if x=3 then 2 else if x=4 then 3 else 4
def rC(p:Dp)(m:Dm)(g:Dg)(x y:Nat):List Value:=if x=1 then rowP (m.nt*8) (tE m g) else if x=3 then rowP (m.nc*2) (cE m g) else if x=4 then kE m.ev else rowP ((m.T y).fr.length*4) (fE p m g y)
def qC(m:Dm)(x y:Nat):List Value:=if x=2 then iI m.q else Ie (m.jo y)
def ok(p:Dp)(m:Dm)(g:Dg)(x y z:Nat):Ob:=
 if x=0 then .full g.mb 112 24 (mE p m g)
 else if x=6 then .full (g.rb y z) 115 (p.rg (fj m y z).f*2) (eC (fj m y z).R)
 else if x=7 then .full (g.sb y) 115 ((m.M y).length*2) (eC (kT (m.M y)))
 else if x=8 then .row 89 2 (some ⟨p.gb,0,none⟩) p.nf p.gc (rowP (p.nf*2) (JC p))
 else if x=9 then .row 90 4 (some ⟨p.cb y,0,none⟩) (p.len y) (p.cc y) (rowP (p.len y*4) (Ec p y))
 else if x=2\/x=10 then Ob.q (if x=2 then 3 else 5) (g.ro x y).1 (qz m x y) (g.ro x y).2 (qC m x y)
 else .row (Me x) (Mf x) (g.ro x y).1 (qz m x y) (g.ro x y).2 (rC p m g x y)
def ob(p:Dp)(m:Dm)(g:Dg)(x y z:Nat):Ob:=if vd p m x y z=true then ok p m g x y z else .nil
structure dQ(p:Dp) (m:Dm) (g:Dg) (w:World):Prop where
 o:∀x y z,(ob p m g x y z).ok w
 i:∀x y z x' y' z' k,(ob p m g x y z).bs k->(ob p m g x' y' z').bs k->x=x'/\y=y'/\z=z'
def ey(p:Dp)(m:Dm)(g:Dg)(k:Nat):Prop:=∃x y z,(ob p m g x y z).bs k
structure Tr(p:Dp) (m:Dm) (g:Dg) (w:World) (m':Dm) (g':Dg) (w':World):Prop where
 r:dQ p m' g' w'
 o:dy (ey p m g) w w'
 m:∀k,ey p m' g' k->ey p m g k\/w.heap.size<=k
 b:g'.mb=g.mb
variable {p : Dp} {m m' m'' : Dm} {g g' g'' : Dg} {w w' w'' : World}
theorem dQ.lt(h:dQ p m g w){k:Nat}(e:ey p m g k):k<w.heap.size:=by
 obtain⟨x,y,z,e⟩:=e;exact(ob p m g x y z).lt w k (h.o x y z) e
theorem dQ.only(h:dQ p m g w){S:Nat->Prop}(u:dy S w w')(hS:∀k,ey p m g k->¬S k):dQ p m g w':=
 ⟨λx y z=>(ob p m g x y z).fr w w' (h.o x y z) (λk e=>u.same (h.lt ⟨x,y,z,e⟩) (hS k ⟨x,y,z,e⟩)),h.i⟩
theorem dQ.kept(h:dQ p m g w)(e:w.grownBy w' none):dQ p m g w':=h.only (S:=λ_=>False) (dU e) (λ_ _ h=>h)
theorem Tr.refl(h:dQ p m g w):Tr p m g w m g w:=⟨h,dk _ _,λ_ h=>ag h,rfl⟩
theorem Tr.trans(h:Tr p m g w m' g' w')(e:Tr p m' g' w' m'' g'' w''):Tr p m g w m'' g'' w'':=
 ⟨e.r,h.o.trans e.o (λk i y=>(h.m k i).resolve_right (by omega)),λk i=>by
  rcases e.m k i with u|u
  .exact h.m k u
  have:=h.o.size;exact ab (by omega),e.b.trans h.b⟩
theorem Tr.kept(h:Tr p m g w m' g' w')(e:w'.grownBy w'' none):Tr p m g w m' g' w'':=⟨h.r.kept e,h.o.gR e,h.m,h.b⟩
theorem Tr.ahead{w0:World}(e:w0.grownBy w none)(h:Tr p m g w m' g' w'):Tr p m g w0 m' g' w':=
 ⟨h.r,(dU e).trans h.o (λ_ h _=>h),λk i=>(h.m k i).imp id (λh=>by have:=e.size;omega),h.b⟩
theorem Tr.to{m0:Dm}{Z:Dg}{w0:World}(C:Nat->Nat->Nat->Prop)(own:Nat->Nat×Nat×Nat)(W:Tr p m0 Z w0 m g w)(hO:dy (λk=>∃x y z,C x y z/\(ob p m g x y z).bs k) w w')(h1:∀x y z,¬C x y z->ob p m' g' x y z=ob p m g x y z)(h2:∀x y z,C x y z->(ob p m' g' x y z).ok w')(h3:∀x y z k,C x y z->(ob p m' g' x y z).bs k->(ob p m g x y z).bs k\/(¬ey p m g k/\w0.heap.size<=k/\own k=(x,y,z)))(J:g'.mb=g.mb:=by rfl):Tr p m0 Z w0 m' g' w':=by
 have h:=W.r;have u:=λx y z k e=>by
  by_cases G:C x y z
  .exact h3 x y z k G e
  rw[h1 x y z G]at e;exact ag e
 refine⟨⟨λx y z=>?_,λx y z x' y' z' k e H=>?_⟩,W.o.trans hO (λk e hl=>?_),λk e=>?_,J.trans W.b⟩
 .by_cases G:C x y z
  .exact h2 x y z G
  rw[h1 x y z G];refine(ob p m g x y z).fr w w' (h.o x y z) (λk e=>hO.same (h.lt ⟨x,y,z,e⟩) ?_);rintro⟨a,b,c,hc,J⟩;obtain⟨rfl,rfl,rfl⟩:=h.i _ _ _ _ _ _ k e J;exact G hc
 .rcases u _ _ _ k e with a|⟨a,_,b⟩
  .rcases u _ _ _ k H with c|⟨c,_⟩
   .exact h.i _ _ _ _ _ _ k a c
   exact ch ⟨_,_,_,a⟩ c
  rcases u _ _ _ k H with c|⟨c,_,d⟩
  .exact ch ⟨_,_,_,c⟩ a
  rw[b]at d;injection d with d1 Y;injection Y with Y d3;exact⟨d1,Y,d3⟩
 .obtain⟨x,y,z,_,J⟩:=e;exact(W.m k ⟨x,y,z,J⟩).resolve_right (by omega)
 obtain⟨x,y,z,e⟩:=e;rcases u x y z k e with h|h
 .exact W.m k ⟨x,y,z,h⟩
 exact ab h.2.1
theorem dQ.to(C:Nat->Nat->Nat->Prop)(own:Nat->Nat×Nat×Nat)(h:dQ p m g w)(W:dy (λk=>∃x y z,C x y z/\(ob p m g x y z).bs k) w w')(G:∀x y z,¬C x y z->ob p m' g' x y z=ob p m g x y z)(u:∀x y z,C x y z->(ob p m' g' x y z).ok w')(o:∀x y z k,C x y z->(ob p m' g' x y z).bs k->(ob p m g x y z).bs k\/(w.heap.size<=k/\own k=(x,y,z)))(i:g'.mb=g.mb:=by rfl):Tr p m g w m' g' w':=
 Tr.to C own (Tr.refl h) W G u (λx y z k H e=>(o x y z k H e).imp id (λY=>⟨λJ=>by have:=h.lt J;omega,Y⟩)) i
def Ey(x:Nat):Prop:=x=1\/x=3\/x=4\/x=5
theorem ok_eq{x y z:Nat}(e0:x=0->g'.mb=g.mb/\mE p m' g'=mE p m g:=by intro e;exact⟨rfl,rfl⟩)(er:Ey x->g'.ro x y=g.ro x y/\qz m' x y=qz m x y/\rC p m' g' x y=rC p m g x y:=by intro e;exact⟨rfl,rfl,rfl⟩)(eq:x=2\/x=10->g'.ro x y=g.ro x y/\qz m' x y=qz m x y/\qC m' x y=qC m x y:=by intro e;rcases e with rfl|rfl<;>exact⟨rfl,rfl,rfl⟩)(e6:x=6->g'.rb y z=g.rb y z/\(fj m' y z).f=(fj m y z).f/\(fj m' y z).R=(fj m y z).R:=by intro e;exact⟨rfl,rfl,rfl⟩)(e7:x=7->g'.sb y=g.sb y/\m'.M y=m.M y:=by intro e;exact⟨rfl,rfl⟩)(hx:x<=10):ok p m' g' x y z=ok p m g x y z:=by
 unfold ok;by_cases G:x=0
 .rw[aj G,aj G,(e0 G).1,(e0 G).2]
 rw[aa G,aa G];by_cases o:x=6
 .rw[aj o,aj o,(e6 o).1,(e6 o).2.1,(e6 o).2.2]
 rw[aa o,aa o];by_cases u:x=7
 .rw[aj u,aj u,(e7 u).1,(e7 u).2]
 rw[aa u,aa u];by_cases J:x=8
 .rw[aj J,aj J]
 rw[aa J,aa J];by_cases H:x=9
 .rw[aj H,aj H]
 rw[aa H,aa H];by_cases i:x=2\/x=10
 .rw[aj i,aj i,(eq i).1,(eq i).2.1,(eq i).2.2]
 have W:Ey x:=by unfold Ey;omega
 rw[aa i,aa i,(er W).1,(er W).2.1,(er W).2.2]
theorem fP{x y z:Nat}(h:vd p m x y z=true):ob p m g x y z=ok p m g x y z:=by unfold ob;rw[aj h]
theorem zP{x y z:Nat}(h:¬vd p m x y z=true):ob p m g x y z=.nil:=by unfold ob;rw[aa h]
theorem kG{x y z:Nat}(h:vd p m x y z=true):x<=10:=by
 unfold vd at h;by_cases e:x<=10
 .exact e
 rw[aa (by omega),aa (by omega),aa (by omega),aa (by omega),aa (by omega)]at h;have:=dO h;omega
theorem jT{x y z:Nat}(i:vd p m' x y z=vd p m x y z)(e:vd p m x y z=true->ok p m' g' x y z=ok p m g x y z):ob p m' g' x y z=ob p m g x y z:=by
 unfold ob;rw[i];by_cases h:vd p m x y z=true
 .rw[aj h,aj h,e h]
 rw[aa h,aa h]
theorem BR(o:m'.nt=m.nt)(i:∀t,(m'.T t).fr.length=(m.T t).fr.length)(e:m'.nc=m.nc)(x y z:Nat):vd p m' x y z=vd p m x y z:=by unfold vd;rw[o,i,e]
theorem m6{x:Nat}(h:x<=4\/x=8):vd p m x 0 0=true:=by unfold vd;rw[aj h];rfl
theorem jC{x y z:Nat}(e:vd p m x y z=true)(h:x<=4\/x=8):y=0/\z=0:=by
 unfold vd at e;rw[aj h]at e;exact dO e
theorem pX{t:Nat}(i:1<=t)(e:t<=m.nt):vd p m 5 t 0=true:=by unfold vd;rw[aa (by omega),aj rfl];simp[i,e]
theorem uh{y z:Nat}(e:vd p m 5 y z=true):1<=y/\y<=m.nt/\z=0:=by
 unfold vd at e;rw[aa (by omega),aj rfl]at e;exact dO e
theorem Az{t i:Nat}(u:1<=t)(e:t<=m.nt)(o:i<(m.T t).fr.length):vd p m 6 t i=true:=by unfold vd;rw[aa (by omega),aa (by omega),aj rfl];simp[u,e,o]
theorem wv{y z:Nat}(e:vd p m 6 y z=true):1<=y/\y<=m.nt/\z<(m.T y).fr.length:=by
 unfold vd at e;rw[aa (by omega),aa (by omega),aj rfl]at e;exact dO e
theorem Gw{c:Nat}(i:1<=c)(e:c<=m.nc):vd p m 7 c 0=true:=by unfold vd;rw[aa (by omega),aa (by omega),aa (by omega),aj rfl];simp[i,e]
theorem zl{y z:Nat}(e:vd p m 7 y z=true):1<=y/\y<=m.nc/\z=0:=by
 unfold vd at e;rw[aa (by omega),aa (by omega),aa (by omega),aj rfl]at e;exact dO e
theorem IJ{f:Nat}(e:f<p.nf):vd p m 9 f 0=true:=by unfold vd;rw[aa (by omega),aa (by omega),aa (by omega),aa (by omega),aj rfl];simp[e]
end D
section
def FL(w w':World)(ao:Option Addr)(n cap m:Nat)(v':Value):Prop:=(v'=.slice ao (n+m) cap/\w.grownBy w' (Value.slice ao n cap).ownBlock)\/∃g c,v'=.slice (some ⟨g,0,none⟩) (n+m) c/\w.heap.size<=g/\w.grownBy w' none
theorem tU{P:Program}(w:World)(t ty e:TypeId)(i:TypeInfo)(z:Value)(size bytes:Nat)(ht:P.underlying t=some (.slice e))(hi:P.info? e=some i)(hz:i.zero=some z)(y:i.size=size)(a3:i.bytes=bytes)(a1:z.cells.size=size)(a4:0<size)(ao:Option Addr)(n cap:Nat)(xs:List Value)(a0:w.ownsRow 0 e size (.slice ao n cap) n xs)(ad:Addr)(m c:Nat)(o:List Value)(hl:o.length=m*size)(H:∀j u,o[j]? = some u->w.cell? (ad.add j)=some u)(h1:∀u∈o,u.oneCell'=true)(a2:n+m<=maxLen)(G:(n+m)*bytes<=140737488355328)(hm:0<m): ∃J w',(Builtin.append_ #[t,t] ty #[.slice ao n cap,.slice (some ad) m c]).run P w=.ok J w'/\w'.ownsRow 0 e size J (n+m) (xs++o)/\FL w w' ao n cap m J:=by
 have Z:∀(J:Value) (w':World),w'.ownsRow w.heap.size e size J (n+m) (xs++o)->∃g c,J=.slice (some ⟨g,0,none⟩) (n+m) c/\w.heap.size<=g:=λJ w' h=>by
  obtain⟨g,c',rfl⟩:=dM h (by omega);exact⟨g,c',rfl,(dA h g rfl).1⟩
 rcases id a0 with⟨a7,⟨hv,h0⟩|⟨g,c',a8,hv,_,h2,h3,h4,h5,h6⟩⟩
 .injection hv with e1 e2 e3;subst e1 e2 e3;obtain rfl:xs=[]:=List.eq_nil_of_length_eq_zero (by simpa using a7);obtain⟨J,w',W,r1,r2,_⟩:=run_append_own (P:=P) w w.heap.size t ty e i z size bytes ht hi hz y a3 a1 a4 (.slice none 0 0) 0 [] (dJ w _ e size) ad m c o hl H h1 a2 G (bj _);obtain⟨g,c',rfl,hg⟩:=Z J w' r1;exact⟨_,w',W,gw r1 (dc _),ab ⟨g,c',rfl,hg,r2⟩⟩
 injection hv with e1 e2 e3;subst e1 e3;by_cases Y:n+m<=cap
 .obtain⟨J,w',hr,r1,r2,_⟩:=run_append_own (P:=P) w 0 t ty e i z size bytes ht hi hz y a3 a1 a4 _ n xs a0 ad m c o hl H h1 a2 G (dc _);refine⟨J,w',hr,r1,ag ⟨?_,r2⟩⟩;subst y;have a6:=run_append_room (P:=P) w t ty e i ht hi g n cap a8 h2 ad m c o hl H h1 Y (by rw[hl,h5,<-Nat.add_mul];exact Nat.mul_le_mul_right _ Y);rw[hr]at a6;injection a6
 have a9:∀j u,xs[j]? = some u->w.cell? ((⟨g,0,none⟩:Addr).add j)=some u:=λj u hu=>by
  have hj:j<n*size:=by
   have:=(bu.1 hu).1;omega
  rw[<-h6,dh,aj hj]at hu;have a5:w.cell? ⟨g,j,none⟩=some u:=by
   simp only[World.cell?,h2];simpa using hu
  cases j with
  | zero=>simpa[Addr.add] using a5
  | succ j=>simpa[Addr.add] using a5
 obtain⟨J,w',W,r1,r2⟩:=run_append_arg_grows (P:=P) w t ty e i z size bytes ht hi hz y a3 a1 a4 ⟨g,0,none⟩ n cap xs a7 a9 ad m c o hl H (by omega) a2 G;obtain⟨g',c',rfl,hg⟩:=Z J w' r1;exact⟨_,w',W,gw r1 (dc _),ab ⟨g',c',rfl,hg,r2⟩⟩
theorem lV{P:Program}{w:World}{ops:Array Oper}{rest:List Oper}{o:Oper}{a:Act}{Q:Exit->Act->World->Prop}(a1:o.guard=none)(s x:Operand)(t:TypeId)(ho:o.op=.call { callee:=.builtin .append,args:=#[s,x],argTypes:=#[t,t] })(e:TypeId)(i:TypeInfo)(z:Value)(size bytes:Nat)(ht:P.underlying t=some (.slice e))(hi:P.info? e=some i)(hz:i.zero=some z)(H:i.size=size)(a0:i.bytes=bytes)(a2:z.cells.size=size)(a4:0<size)(Z:Option Addr)(n cap:Nat)(xs:List Value)(hs:a.eval s=.slice Z n cap)(W:w.ownsRow 0 e size (.slice Z n cap) n xs)(ad:Addr)(m c:Nat)(y:List Value)(hx:a.eval x=.slice (some ad) m c)(hl:y.length=m*size)(J:∀j u,y[j]? = some u->w.cell? (ad.add j)=some u)(h1:∀u∈y,u.oneCell'=true)(a3:n+m<=maxLen)(G:(n+m)*bytes<=140737488355328)(hm:0<m)(h:∀Y w',w'.ownsRow 0 e size Y (n+m) (xs++y)->FL w w' Z n cap m Y->wpList P ops Q rest (a.put o.dst Y) w'):wpList P ops Q (o :: rest) a w:=by
 refine wpList_plain a1 λK hK=>?_;obtain⟨Y,w',hr,h2,h3⟩:=tU (P:=P) w t o.type e i z size bytes ht hi hz H a0 a2 a4 Z n cap xs W ad m c y hl J h1 a3 G hm;unfold Oper.wp execOp;simp only[ho,resolve,invoke,builtin,Sem.run_bind,Sem.run_pure,Result.andThen_ok,List.map_toArray,List.map_cons,List.map_nil,hs,hx,hr];exact hK _ _ (h Y w' h2 h3)
theorem wU{P:Program}(w:World)(dT sT ty u:TypeId)(g y J:Nat)(sp:Option Addr)(e Y sz:Nat)(o:Array Value)(t:TypeId)(G:List Value)(hu:P.underlying dT=some (.slice u))(hs:(P.info? u).map (·.size)=some sz)(hg:w.heap[g]? = some (.cells o t (0,0)))(a1:e<=y)(hn:G.length=e*sz)(H:sp=none->G=[])(Z:∀a,sp=some a->∀j v,G[j]? = some v->w.cell? (a.add j)=some v)(a0:G.length<=o.size)(h1:∀v∈G,v.oneCell'=true): (Builtin.copy_ #[dT,sT] ty #[.slice (some ⟨g,0,none⟩) y J,.slice sp e Y]).run P w=.ok (goInt e) (w.setRow g (G++o.toList.drop G.length).toArray):=by
 have W:=run_storeCells_at P g 0 t G 0 o w hg (by simpa using a0) h1;have hm:Nat.min e y=e:=Nat.min_eq_left a1
 cases hq:P.info? u with
 | none=>simp[hq]at hs
 | some i=>
  cases sp with
  | none=>
   have hc:=H rfl;subst hc;simp[Builtin.copy_,run_underlying hu,Builtin.lenOf,Builtin.firstCells,sizeOf,typeInfo,hq,hm,storeCells];exact(setRow_self w g o t (0,0) hg).symm
  | some a=>
   have hl:=run_loadCells_list (P:=P) w a G (Z a rfl);rw[hn]at hl;simp at W;simp[Builtin.copy_,run_underlying hu,Builtin.lenOf,Builtin.firstCells,sizeOf,typeInfo,hq,(by simpa[hq] using hs),hm,hl,W]
theorem sf{P:Program}{w:World}{ops:Array Oper}{rest:List Oper}{o:Oper}{a:Act}{Q:Exit->Act->World->Prop}(a1:o.guard=none)(d s:Operand)(dT sT:TypeId)(ho:o.op=.call { callee:=.builtin .copy,args:=#[d,s],argTypes:=#[dT,sT] })(i:TypeId)(sz:Nat)(hu:P.underlying dT=some (.slice i))(a2:(P.info? i).map (·.size)=some sz)(g u G e J:Nat)(sp:Option Addr)(hd:a.eval d=.slice (some ⟨g,0,none⟩) u G)(hs:a.eval s=.slice sp e J)(y:Array Value)(t:TypeId)(hg:w.heap[g]? = some (.cells y t (0,0)))(H:List Value)(a3:e<=u)(hn:H.length=e*sz)(W:sp=none->H=[])(Z:∀a,sp=some a->∀j v,H[j]? = some v->w.cell? (a.add j)=some v)(a0:H.length<=y.size)(h1:∀v∈H,v.oneCell'=true)(h:wpList P ops Q rest (a.put o.dst (goInt e)) (w.setRow g (H++y.toList.drop H.length).toArray)):wpList P ops Q (o :: rest) a w:=by
 refine wpList_plain a1 λK hK=>?_;unfold Oper.wp;simp[execOp,ho,resolve,invoke,builtin,hd,hs,wU (P:=P) w dT sT o.type i g u G sp e J sz y t H hu a2 hg a3 hn W Z a0 h1,Result.andThen];exact hK _ _ h
namespace F
abbrev Sl:=Option Addr×Nat×Nat
def oL(x:Sl):Value:=.slice x.1 x.2.1 x.2.2
def mG(N:Int)(j:Nat):Value:=.int .i64 (if j % 3=0 then N else 0)
def qE(N:Int)(_:Nat):Value:=.int .i64 N
def Rd(w:World)(T:TypeId)(sz:Nat)(P:Nat->Value)(x:Sl):Prop:=w.ownsRow 0 T sz (oL x) x.2.1 (D.rowP (x.2.1*sz) P)
theorem Rd.fr{w w':World}{T:TypeId}{sz:Nat}{P:Nat->Value}{x:Sl}(h:Rd w T sz P x)(i:∀k,eO x.1=some k->w'.heap[k]? = w.heap[k]?):Rd w' T sz P x:=dD h (λk e=>i k (by rw[<-dr x.1 x.2.1 x.2.2];exact e))
theorem Rd.lt{w:World}{T:TypeId}{sz:Nat}{P:Nat->Value}{x:Sl}(h:Rd w T sz P x){k:Nat}(i:eO x.1=some k):k<w.heap.size/\∃e,w.heap[k]? = some (.cells e T (0,0)):=(dA h k (by unfold oL;rw[dr];exact i)).2
def gQ(E:List (Sl×Int)):List Value:=E.flatMap (λx=>[oL x.1,.int .i64 x.2])
def wm(n:Nat)(a b:Value)(j:Nat):Value:=if j=0 then .int .i64 (n:Int) else if j=1 then a else if j=2 then b else .int .i64 0
end F
end
namespace D
open F
theorem lh(n:Nat)(P:Nat->Value)(j:Nat):(rowP n P)[j]? = if j<n then some (P j) else none:=by
 unfold rowP;by_cases h:j<n
 .rw[aj h,eo,fW h];rfl
 rw[aa h,cw (by simp;omega)]
theorem zD{n:Nat}{P:Nat->Value}{xs:List Value}(i:xs.length=n)(h:∀j,j<n->xs[j]? = some (P j)):xs=rowP n P:=by
 apply List.ext_getElem?
 intro j;rw[lh];by_cases e:j<n
 .rw[aj e,h j e]
 rw[aa e,cw (by omega)]
theorem iD{n:Nat}{P Q:Nat->Value}(h:∀j,j<n->P j=Q j):rowP n P=rowP n Q:=List.map_congr_left (λj e=>h j (eJ.1 e))
theorem sA{n k:Nat}{P Q:Nat->Value}{ys:List Value}(h:∀j,j<n->Q j=P j)(o:ys.length=k)(i:∀j,j<k->ys[j]? = some (Q (n+j))):rowP n P++ys=rowP (n+k) Q:=by
 have hn:(rowP n P).length=n:=by unfold rowP;simp
 refine zD (by rw[bo,hn,o]) (λj u=>?_);by_cases e:j<n
 .rw[du (by omega),lh,aj e,h j e]
 rw[dX (by omega),hn,i (j-n) (by omega)];congr 2;omega
theorem sU{w:World}{i n c sz g:Nat}{e:TypeId}{P:Nat->Value}(h:w.ownsRow i e sz (.slice (some ⟨g,0,none⟩) n c) n (rowP (n*sz) P)):n<=c/\c<=maxLen/\Full w g e (c*sz) (n*sz) P:=by
 rcases h with⟨_,⟨h,_⟩|⟨g',c',o,G,_,Z,Y,W,J,H⟩⟩
 .cases h
 cases G;refine⟨Y,W,o,Z,J,λj u=>?_⟩;have y:=lh (n*sz) P j;rw[aj u,<-H,dh,aj u]at y;simpa using y
theorem mn{w:World}{n c sz g:Nat}{e:TypeId}{P:Nat->Value}(hn:n<=c)(u:c<=maxLen)(h:Full w g e (c*sz) (n*sz) P):w.ownsRow 0 e sz (.slice (some ⟨g,0,none⟩) n c) n (rowP (n*sz) P):=by
 obtain⟨i,H,y,G⟩:=h;refine⟨by unfold rowP;simp,ab ⟨g,c,i,rfl,dc _,H,hn,u,y,?_⟩⟩;refine zD ?_ (λj o=>?_)
 .rw[List.length_take];have:n*sz<=c*sz:=Nat.mul_le_mul_right _ hn;simp;omega
 rw[dh,aj o];simpa using G j o
theorem sR{w:World}{n c sz:Nat}{e:TypeId}{ad:Option Addr}{P:Nat->Value}(h:w.ownsRow 0 e sz (.slice ad n c) n (rowP (n*sz) P))(hn:n≠0):∃b,ad=some ⟨b,0,none⟩/\n<=c/\c<=maxLen/\Full w b e (c*sz) (n*sz) P:=by
 obtain⟨b,o,e⟩:=dM h hn;injection e with i _ _;subst i;exact⟨b,rfl,sU h⟩
theorem Full.down{w:World}{g n m k:Nat}{T:TypeId}{P:Nat->Value}(h:Full w g T n m P)(y:k<=m):Full w g T n k P:=by
 obtain⟨e,u,o,i⟩:=h;exact⟨e,u,o,λj G=>i j (by omega)⟩
variable {p : Dp} {m m' : Dm} {g g' : Dg} {w w' : World}
theorem dQ.at'(h:dQ p m g w){x y z:Nat}(e:vd p m x y z=true):(ok p m g x y z).ok w:=by
 have:=h.o x y z;rw[fP e]at this;exact this
abbrev mF(m:Dm)(t:Nat):Prop:=1<=t/\t<=m.nt
section
variable (h : dQ p m g w)
include h
theorem dQ.M:Full w g.mb 112 24 24 (mE p m g):=h.at' (x:=0) (y:=0) (z:=0) rfl
theorem dQ.Tw:w.ownsRow 0 167 8 (iR m g 1 0) m.nt (rowP (m.nt*8) (tE m g)):=h.at' (x:=1) (y:=0) (z:=0) rfl
theorem dQ.T(hn:m.nt≠0):∃b,(g.ro 1 0).1=some ⟨b,0,none⟩/\m.nt<=(g.ro 1 0).2/\(g.ro 1 0).2<=maxLen/\Full w b 167 ((g.ro 1 0).2*8) (m.nt*8) (tE m g):=sR h.Tw hn
theorem dQ.Q:fM w 3 (iR m g 2 0) (iI m.q):=h.at' (x:=2) (y:=0) (z:=0) rfl
theorem dQ.E:w.ownsRow 0 48 3 (iR m g 4 0) m.ev.length (kE m.ev):=h.at' (x:=4) (y:=0) (z:=0) rfl
theorem dQ.Cw:w.ownsRow 0 233 2 (iR m g 3 0) m.nc (rowP (m.nc*2) (cE m g)):=h.at' (x:=3) (y:=0) (z:=0) rfl
theorem dQ.C(hn:m.nc≠0):∃b,(g.ro 3 0).1=some ⟨b,0,none⟩/\m.nc<=(g.ro 3 0).2/\(g.ro 3 0).2<=maxLen/\Full w b 233 ((g.ro 3 0).2*2) (m.nc*2) (cE m g):=sR h.Cw hn
theorem dQ.Fw{t:Nat}(ht:mF m t):w.ownsRow 0 163 4 (iR m g 5 t) (m.T t).fr.length (rowP ((m.T t).fr.length*4) (fE p m g t)):=h.at' (pX ht.1 ht.2)
theorem dQ.F{t:Nat}(ht:mF m t)(hn:(m.T t).fr.length≠0):∃b,(g.ro 5 t).1=some ⟨b,0,none⟩/\(m.T t).fr.length<=(g.ro 5 t).2/\(g.ro 5 t).2<=maxLen/\Full w b 163 ((g.ro 5 t).2*4) ((m.T t).fr.length*4) (fE p m g t):=sR (h.Fw ht) hn
theorem dQ.R{t i:Nat}(ht:mF m t)(hi:i<(m.T t).fr.length):Full w (g.rb t i) 115 (p.rg (fj m t i).f*2) (p.rg (fj m t i).f*2) (eC (fj m t i).R):=h.at' (Az ht.1 ht.2 hi)
theorem dQ.S{c:Nat}(i:1<=c)(e:c<=m.nc):Full w (g.sb c) 115 ((m.M c).length*2) ((m.M c).length*2) (eC (kT (m.M c))):=h.at' (Gw i e)
theorem dQ.P:p.nf<=p.gc/\p.gc<=maxLen/\Full w p.gb 89 (p.gc*2) (p.nf*2) (JC p):=sU (h.at' (x:=8) (y:=0) (z:=0) rfl)
theorem dQ.K{f:Nat}(e:f<p.nf):p.len f<=p.cc f/\p.cc f<=maxLen/\Full w (p.cb f) 90 (p.cc f*4) (p.len f*4) (Ec p f):=sU (h.at' (IJ e))
theorem dQ.ne{x y z x' y' z' k G:Nat}(J:vd p m x y z=true)(o:vd p m x' y' z'=true)(H:(ok p m g x y z).bs k)(u:(ok p m g x' y' z').bs G)(hn:x≠x'\/y≠y'\/z≠z'):k≠G:=λe=>by
 subst e;obtain⟨Z,Y,W⟩:=h.i x y z x' y' z' k (by rw[fP J];exact H) (by rw[fP o];exact u);omega
theorem dQ.mc(j:Nat)(e:j<24){v:Value}(i:mE p m g j=v):w.cell? ⟨g.mb,j,none⟩=some v/\w.frozen? ⟨g.mb,j,none⟩=false:=by
 rw[<-i];exact h.M.cells j e
end
theorem pc(m:Dm)(g:Dg){t k j:Nat}(ht:1<=t)(e:k<8)(i:j=(t-1)*8+k):tE m g j=tC (m.T t) (iR m g 5 t) k:=by
 unfold tE;rw[show j / 8+1=t by omega,show j % 8=k by omega]
theorem tA(p:Dp)(m:Dm)(g:Dg)(t:Nat){i k:Nat}(e:k<4):fE p m g t (i*4+k)=fC p (fj m t i) (g.rb t i) k:=by
 unfold fE;rw[show(i*4+k) / 4=i by omega,show(i*4+k) % 4=k by omega]
structure Tc(w:World) (tb t:Nat) (x:Dt) (fv:Value):Prop where
 c:∀k,k<8->w.cell? ⟨tb,(t-1)*8+k,none⟩=some (tC x fv k)/\w.frozen? ⟨tb,(t-1)*8+k,none⟩=false
theorem dQ.tc(h:dQ p m g w){t:Nat}(ht:mF m t):∃tb,g.ro 1 0=(some ⟨tb,0,none⟩,(g.ro 1 0).2)/\Full w tb 167 ((g.ro 1 0).2*8) (m.nt*8) (tE m g)/\Tc w tb t (m.T t) (iR m g 5 t):=by
 obtain⟨b,o,y,u,e⟩:=h.T (by omega);refine⟨b,fV o rfl,e,⟨λk i=>?_⟩⟩;have:=e.cells ((t-1)*8+k) (by omega);rw[pc m g ht.1 i rfl]at this;exact this
end D
end Go.Proofs.YtnjiinbhbjpfkaaGreatDoor
