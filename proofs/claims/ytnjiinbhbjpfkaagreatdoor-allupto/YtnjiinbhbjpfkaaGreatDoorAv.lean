import Derived.Test.YtnjiinbhbjpfkaaGreatDoorAu
import Derived.Test.YtnjiinbhbjpfkaaGreatDoorAs
import Derived.Test.YtnjiinbhbjpfkaaGreatDoorAc
import Derived.Test.YtnjiinbhbjpfkaaGreatDoorAi
set_option maxRecDepth 100000
set_option maxHeartbeats 0
set_option linter.all false
namespace Go.Proofs.YtnjiinbhbjpfkaaGreatDoor
open Go.RowKit Go.Proofs.Tryz
namespace D
open F
variable {p:dH}{d:Dp}{K:Nat}{s s':Pl}{m m':Dm}{g g':Dg}{w w':aa}{ρ:Nat->Nat}
def dZ.OT{p:Dp}(h:dZ p m g w):Tr p m g w m.nC (g.at 4 0 (none,0)) (w.setCell (az g.mb 15)<|.slice none 0 0):=by
 refine h.CN 4 0 (pn af) af (λ_ _ _=>rfl) (bq (S:=λk=>k=g.mb\/(ok p m g 4 0 0).bs k) (a:=az g.mb 15) (dx _ _) (ag<|ag rfl) _) (λx y z H Y W=>ok_eq (e0:=λe=>dr e Y) (er:=λZ=>?_) (eq:=λe=>by rcases e with rfl|rfl<;>exact⟨sr g _ af,rfl,rfl⟩) (hx:=mB H)) ((h.M.eE 15 _).congr (λi hi=>?_)) ?_<|λk J=>?_
 .have u:¬(x=4/\y=0):=λe=>W ⟨e.1,e.2,(lI H af).2⟩;have o:x≠4:=λe=>u ⟨e,(lI H af).1⟩;refine⟨sr g _ u,?_,?_⟩
  .unfold sS;rw[av o,av o];rfl
  rw[Bw _ _ _ _ eo];unfold rC;rw[av o,av o];rfl
 .unfold eE;by_cases e:i=15
  .subst e;rw[bf rfl];show _=Value.slice ((g.at 4 0 (none,0)).ro 4 0).1 0 ((g.at 4 0 (none,0)).ro 4 0).2;rw[xh]
  rw[av e,BK p m.nC g _ 15 af i e];unfold mE;rw[av e,av e];rfl
 .show World.ownsRow _ 0 48 3 (.slice ((g.at 4 0 (none,0)).ro 4 0).1 0 ((g.at 4 0 (none,0)).ro 4 0).2) 0 (nB []);rw[xh];exact eg _ _ _ _
 have G:fk ((g.at 4 0 (none,0)).ro 4 0).1=some k:=J;rw[xh]at G
 cases G
def dZ.Kc{p:Dp}(h:dZ p m g w)(c:Int):Tr p m g w (m.gw c) g (w.setCell (az g.mb 5)<|ah c):=h.yN 5 _ ⟨rfl,rfl,rfl,rfl,rfl,rfl,rfl,rfl⟩ (λi hi=>by
 have e:=pS 23 i af
 (repeat' rcases e with rfl|e)<;>rfl)
def Lt{c:Dc}{n N a b:Nat}(h:GA c n)(y:c.fu=false->c.bg=false->N<=n):GA (c.pT a b N) n:=by
 obtain⟨o,u,i⟩:=h;unfold Dc.pT
 cases hf:c.fu with
 |true=>rw[bf rfl];exact⟨o,u,i⟩
 |false=>
  rw[av eo];have e:GA ((c.oJ a N).wv b) n:=by
   unfold Dc.wv Dc.oJ
   cases e:c.bg with
   |true=>rw[bf rfl];exact⟨o,u,i⟩
   |false=>rw[av eo];exact⟨o,y hf e,i⟩
  unfold Dc.fin;split
  .exact⟨e.1,e.2.1,e.2.1⟩
  exact e
section
variable (p d K m g w ρ)
def LM(fin:Pl)(ys:List (Int×Nat))(w1:aa):Prop:=∃s1 m1 g1,Tr d m g w m1 g1 w1/\eF p K s1 m1 ρ/\Ok p s1/\Ng s1/\s1.nt≠0/\s1.fg ys=fin/\∀x,x∈ys->x.2<256
def O9(fin:Pl)(n:Nat)(w1:aa):Prop:=∃s1 m1 g1,(s1.q 3 0).length=n/\Tr d m g w m1 g1 w1/\eF p K s1 m1 ρ/\Ok p s1/\Ng s1/\s1.nt≠0/\s1.iC (s1.q 3 0)=fin
def L5(fin:Pl)(n B:Nat)(w1:aa):Prop:=∃s1 m1 g1,(s1.q 3 0).length=n/\Tr d m g w m1 g1 w1/\eF p K s1 m1 ρ/\Ok p s1/\Ng s1/\s1.nt≠0/\s1.iC (s1.q 3 0)=fin/\((B=0/\fin=s1)\/(B≠0/\∃l,s1.q 3 0=B :: l/\(s1.T B).iT<=s1.clk))
def Ck(s3:Pl)(w1:aa):Prop:=∃m1 g1 ρ1,Tr d m g w m1 g1 w1/\eF p (K+p.qn) s3 m1 ρ1
def NF(s3:Pl)(v:Value)(w1:aa):Prop:=∃m1 g1 ρ1,Tr d m g w m1 g1 w1/\eF p (K+p.qn) s3 m1 ρ1/\(v=js m1 g1 4 0\/(v=.slice none 0 0/\m1.ev=[]))
end
variable {fin s3:Pl}{n B:Nat}{w1 w2:aa}{ys:List (Int × Nat)}{x:Int × Nat}
theorem Pv(hP:PD p d)(h:LM p d K m g w ρ fin (x :: ys) w1):eN 142 #[P0 g.mb,.agg #[ah x.1,dz x.2]] w1 λw'=>LM p d K m g w ρ fin ys w':=by
 obtain⟨s1,m1,g1,u,a2,J,a4,W,Y,H⟩:=h;have o:=H x eG;have hI:=Lg (z:=x.1) (y:=x.2) hP u.r a2 J o W;rw[u.b]at hI;refine dq hI ?_;rintro w' ⟨m',g',Z,h2⟩;have G:Ok p (s1.recv x)/\Qu s1 (s1.recv x):=by
  have:=oj [x] (s:=s1) (λy i=>by grind) J;exact this
 exact⟨rfl,s1.recv x,m',g',u.trans Z,h2,G.1,Ng.fg [x] (λy i=>by grind) a4,eZ G.2.nt W,Y,λy i=>H y<|by simp[i]⟩
theorem No(h:O9 p d K m g w ρ fin n w1):Calls prog 143 #[P0 g.mb] w1 λe w'=>∃B:Nat,e=.returned (ah B)/\L5 p d K m g w ρ fin n B w':=by
 obtain⟨s1,m1,g1,a0,i,o,y,W,H,u⟩:=h;have G:=OP i.r<|eZ o.nt H;rw[i.b]at G;refine G.mono ?_;rintro e w' ⟨B,rfl,_,J,Z⟩;refine⟨B,rfl,s1,m1,g1,a0,i.kept Z,o,y,W,H,u,?_⟩;rcases o.due y J with⟨e,Y⟩|⟨e,l,hl,ht⟩
 .refine ag ⟨e,?_⟩;rw[<-u]
  cases hq:s1.q 3 0 with
  |nil=>rfl
  |cons a l=>
   show(if(s1.T a).iT<=s1.clk then _ else s1)=s1;grind
 grind
theorem FH{t:Nat}{l:List Nat}(u:Ok p s)(i:s.q 3 0=t :: l):(s.dX 2 0 t).q 3 0=l:=by
 show((s.dA t).fI 2 0<|(s.dA t).q 2 0++[t]).q 3 0=l;rw[gf _ _ af,gP<|(u.lw.b 3 0 (ak<|ag ⟨rfl,rfl⟩) t ey).2];show(s.fI 3 0<|(s.q 3 0).erase t).q 3 0=l;grind[gM]
theorem MD{b:Nat}(h:L5 p d K m g w ρ fin n (b+1) w1):∃tb nt cap v,w1.cell? ⟨g.mb,6,none⟩=some (.slice (some ⟨tb,0,none⟩) nt cap)/\b<nt/\nt<1000000000/\w1.cell? ⟨tb,b*8+2,none⟩=some v/\w1.frozen? ⟨tb,b*8+2,none⟩=false/\g.mb≠tb/\eN 144 #[P0 g.mb,ah<|(b:Int)+1,.agg #[ah 0,ah 0]] (w1.setCell ⟨tb,b*8+2,none⟩<|ah<|-1) λw'=>∃k,k+1=n/\O9 p d K m g w ρ fin k w':=by
 obtain⟨s1,m1,g1,a0,u,J,o,a4,a5,a6,a7⟩:=h;obtain⟨_,l,W,ht⟩:b+1≠0/\∃l,s1.q 3 0=(b+1) :: l/\(s1.T<|b+1).iT<=s1.clk:=a7.resolve_left (λe=>by omega);have G:fQ s1 3 0:=ak<|ag ⟨rfl,rfl⟩;have hm:b+1∈s1.q 3 0:=by rw[W];simp
 have y:=o.ql 3 0 G _ hm;let⟨Y,a9⟩:=o.lw.b 3 0 G _ hm;have i:=(iP J<|b+1).2 Y;let⟨tb,e1,hT,tc⟩:=u.r.tc i;have c6:w1.cell? ⟨g.mb,6,none⟩=some (.slice (some ⟨tb,0,none⟩) m1.nt (g1.ro 1 0).2):=by
  rw[show some (⟨tb,0,none⟩:Addr)=(g1.ro 1 0).1 by rw[e1],<-u.b];exact(u.r.mc 6 af rfl).1
 let⟨t2,z2⟩:=tc.c 2 af;rw[dF]at t2 z2;have Z:=u.r.tG (t:=b+1) i e1 2 af (ah<|-1) (x':={m1.T (b+1) with into:=-1}) rfl (λj hj=>by
  have hc:j=0\/j=1\/j=2\/j=3\/j=4\/j=5\/j=6\/j=7:=af
  (repeat' rcases hc with rfl|hc)<;>rfl)
 rw[dF]at Z;have hR:=AB (t:=b+1) (0,0) Z.r i (J.small o).1 (J.small o).2 (λe=>by
  grind[gn])
 rw[u.b,show(((b+1:Nat)):Int)=(b:Int)+1 by omega]at hR
 refine⟨tb,m1.nt,(g1.ro 1 0).2,_,c6,af,(J.small o).1,t2,z2,(by rw[<-u.b];exact u.r.M.ne hT eo),hR.mono ?_⟩;rintro e w' ⟨rfl,g',h3⟩
 have H:=FH o W;refine⟨rfl,l.length,ey,s1.dX 2 0<|b+1,_,g',by rw[H],(u.trans Z).trans h3,J.Of o y ey rfl (0,0),o.dX y,a4.join 2 0 _,by grind[iO],?_⟩;rw[H,<-a6,W];show _=if(s1.T<|b+1).iT<=s1.clk then(s1.dX 2 0<|b+1).iC l else s1
 grind
theorem Oe{t:Nat}{r:List Nat}(hP:PD p d)(hG:∀f,f<p.nf->2<=p.rg f/\p.rg f<=8)(hPI:PI p)(hK:K+p.qn<900000000)(h:L5 p d K m g w ρ fin n 0 w1)(hn:fin.nt+p.qn<=500000000)(he:fin.ev=[])(aH:p.qn<=50)(W:fin.q 2 0=t :: r)(hf:iH p fin s3):∃b off cap,w1.cell? (az g.mb 7)=some (.slice (some<|az b off) (r.length+1) cap)/\w1.frozen? (az g.mb 7)=false/\r.length+1<=cap/\r.length<1000000000/\b≠g.mb/\w1.cell? (az b off)=some (ah t)/\eN 145 #[P0 g.mb,ah t] (w1.setCell (az g.mb 7) (.slice (some (az b (if cap=1 then off else off+1))) r.length<|cap-1)) λw'=>Ck p d K m g w s3 w':=by
 obtain⟨s1,m1,g1,a0,y,a2,J,a4,a5,a6,a7⟩:=h;have a8:fin=s1:=by
  rcases a7 with e|e
  .grind
  exact dr rfl e.1
 subst a8;have u:m1.q=t :: r:=by rw[a2.q,W]
 have hQ:=y.r.Q;have aF:ke m1.q=jz (t:Int) :: ke r:=kh u
 rw[aF]at hQ;let⟨b,off,e1,e2,e3,e4,e5,e6⟩:=gj.tail hQ;rw[jM]at e2 e3 e6;have i:=y.b;have aD:(ok d m1 g1 2 0 0).bs b:=by
  show fk (g1.ro 2 0).1=some b;rw[e1];rfl
 have H:b≠g.mb:=by rw[<-i];exact y.r.ne (x':=0) (y':=0) (z':=0) (pn af) rfl aD rfl af
 have c7:=y.r.mc 7 af (v:=.slice (g1.ro 2 0).1 m1.q.length (g1.ro 2 0).2) rfl;rw[i,e1,u]at c7;have hS:=Tr.fI y (l:=r) (r:=(some (az b (if(g1.ro 2 0).2=1 then off else off+1)),(g1.ro 2 0).2-1)) (w':=iA w1 g1.mb 7 (.slice (some (az b (if(g1.ro 2 0).2=1 then off else off+1))) r.length<|(g1.ro 2 0).2-1)) (bq (S:=λk=>k=g1.mb\/fk (g1.ro 2 0).1=some k) (a:=az g1.mb 7) (dx _ _) (ag<|ag rfl) _) (y.r.M.eE 7 _) (e6.block (λj hj=>ab _ _ _ _ (by
   grind[Value.ownBlock]))) (λj hj=>ag (by
   rw[e1];exact hj))
 have o:=J.ql 2 0 (ag ⟨rfl,rfl⟩) t ey;have aE:Ok p (fin.start t):=J.start o
 let⟨o1,_,_,o4,_⟩:=gI fin t;have Y:(fin.start t).nt=fin.nt:=gl fin t;have aA:(fin.start t).ev=[]:=by show(fin.dA t).ev=[];rw[o4];exact he
 unfold iH at hf;rw[W]at hf;obtain⟨s2,r1,r2⟩:=hf;have hD:=Od hP hG hPI hK (eZ Y hn) (by rw[aA];show 0+p.qn<=100000;omega) hS.r (a2.start J o W) (⟨aE,by show t∈(fin.dA t).lv;rw[o1];exact o,by unfold Pl.start;rw[dk]⟩) (a4.start t) r1;rw[show(g1.at 2 0 (some (az b (if(g1.ro 2 0).2=1 then off else off+1)),(g1.ro 2 0).2-1)).mb=g.mb from i,i]at hD;refine⟨b,off,(g1.ro 2 0).2,c7.1,c7.2,e3,?_,H,e5,hD.mono ?_⟩
 .have:=(a2.small J).2;rw[u]at this;have h9:r.length+1<=1000000000:=this;omega
 rintro e w' ⟨rfl,m',g',ρ',h1,h2⟩;rw[i]at hS;exact⟨rfl,m',g',ρ',hS.trans h1,eZ r2 h2⟩
theorem Ck.of(h:L5 p d K m g w ρ fin n 0 w1):Ck p d K m g w fin w1:=by
 obtain⟨s1,m1,g1,W,u,y,J,Y,H,G,o⟩:=h;have i:fin=s1:=by
  rcases o with e|e
  .grind
  exact dr rfl e.1
 rw[i];exact⟨m1,g1,ρ,u,y.mono af⟩
theorem Lu(hP:PD p d)(hG:∀f,f<p.nf->2<=p.rg f/\p.rg f<=8)(hK:K+p.qn<900000000)(i:1<=d.n/\d.n<=1000000)(h:Ck p d K m g w s3 w1)(J:Ok p s3)(hn:s3.nt≠0):eN 146 #[P0 g.mb] w1 λw'=>Ck p d K m g w (s3.jh p) w':=by
 obtain⟨m1,g1,ρ1,H,o⟩:=h;have W:=o.jW J hP hG hK hn;have Y:=Gi H.r W i.2;rw[H.b]at Y;refine dq Y ?_;rintro w' ⟨N,Z,h1⟩;have hw:=o.U.1.work (wk:=p.wk) (N:=N) J.hl (by rw[<-hP.n];omega) (by rw[<-hP.n];omega)<|λu y=>o.count J hP<|Z u y;rw[<-hP.n,<-hP.wk]at hw;refine⟨rfl,_,g1,ρ1,H.trans h1,{o with A:=Lt o.A<|λu y=>(Z u y).le W,U:=⟨by rw[<-hP.n,Pl.jh,<-hP.n,<-hP.wk];exact hw,λe=>?_⟩}⟩;have:=o.U.2 e;show(m1.G.pT d.n d.wk N).fu=true;unfold Dc.pT;grind
theorem Ck.Oa(h:Ck p d K m g w s3 w1)(i:s3.sp=true):Ck p d K m g w (s3.jh p) w1:=by
 obtain⟨m1,g1,ρ1,o,e⟩:=h;exact⟨m1,g1,ρ1,o,e.vU _<|e.U.1.Jh (e.U.2<|eZ e.sp i) _⟩
theorem Ck.sp(h:Ck p d K m g w s3 w1):w1.cell? (az g.mb 14)=some (.bool s3.sp):=by
 obtain⟨m1,g1,ρ1,e,i⟩:=h;have:=(e.r.mc 14 af rfl).1;rw[e.b]at this;rw[<-i.sp];exact this
theorem Ck.out(h:Ck p d K m g w s3 w1):∃v,w1.cell? (az g.mb 15)=some v/\NF p d K m g w s3 v w1:=by
 obtain⟨m1,g1,ρ1,e,i⟩:=h;have:=(e.r.mc 15 af rfl).1;rw[e.b]at this;exact⟨_,this,m1,g1,ρ1,e,i,ag rfl⟩
end D
namespace D
open F
variable {p:dH}{d:Dp}{K:Nat}{s s':Pl}{m m':Dm}{g g':Dg}{w w':aa}{ρ:Nat->Nat}
theorem nu(a:Addr)(m n:Nat):(a.add m).add n=a.add (m+n):=by
 grind[Addr.add,Nat.add_assoc]
theorem Ad(a:Addr)(m:Nat):(a.add m).block=a.block:=by grind[Addr.add]
def O5(w:aa)(ad:Option Addr)(n:Nat)(l:List (Int×Nat))(F:Nat->Prop):Prop:=
 n=l.length/\n<=1000000000/\(∀x,x∈l->x.2<256)/\(ad=none->l=[])/\∀a,ad=some a->l≠[]->a.block<w.heap.size/\¬F a.block/\∀j x,l[j]?=some x->w.cell? (a.add<|j*2)=some (.int .i64 x.1)/\w.cell? (a.add<|j*2+1)=some (.int .u8 (x.2:Int))
theorem LM.cell{fin:Pl}{ys l:List (Int×Nat)}{J:Nat}{a:Addr}{w1:aa}(h:LM p d K m g w ρ fin ys w1)(hI:O5 w (some a) J l (eJ d m g)){j:Nat}{x:Int×Nat}(i:l[j]?=some x):w1.cell? (a.add<|j*2)=some (ah x.1)/\w1.cell? (a.add<|j*2+1)=some (dz x.2):=by
 obtain⟨_,_,_,_,W⟩:=hI;obtain⟨s1,m1,g1,Y,_⟩:=h
 let⟨H,G,y⟩:=W a rfl (λe=>by grind);have e:=Y.o.same H G;grind[World.cell?_of_block,Ad]
theorem MG{fin:Pl}{n:Nat}{w1:aa}(h:L5 p d K m g w ρ fin n 0 w1):∃ad cap,w1.cell? (az g.mb 7)=some (.slice ad (fin.q 2 0).length cap):=by
 obtain⟨s1,m1,g1,Y,o,y,H,J,W,G,u⟩:=h;have i:fin=s1:=by
  rcases u with e|e
  .grind
  exact dr rfl e.1
 rw[i,<-y.q,<-o.b];exact⟨_,_,(o.r.mc 7 af (v:=.slice (g1.ro 2 0).1 m1.q.length (g1.ro 2 0).2) rfl).1⟩
theorem Me{ticks:Int}{l:List (Int×Nat)}{ad:Option Addr}{n0 c0:Nat}(hP:PD p d)(hG:∀f,f<p.nf->2<=p.rg f/\p.rg f<=8)(hPI:PI p)(hK:K+p.qn<900000000)(bD:1<=d.n/\d.n<=1000000)(h:dZ d m g w)(hS:eF p K s m.nC ρ)(hO:Ok p s)(hN:Ng s)(aI:s.ev=[])(aC:s.nt≠0)(hn:s.nt+p.qn<=500000000)(bP:p.qn<=50)(bJ:-9223372036854775808<=ticks)(bE:ticks<=9223372036854775807)(hI:O5 w ad n0 l (eJ d m g))(hr:jX p s ticks l s'):Calls prog 75 #[P0 g.mb,ah ticks,.slice ad n0 c0] w λe w'=>∃v,e=.returned v/\NF p d K m g w s' v w':=by
 have T0:=h.OT;have aB:=B.yp (t:=ticks) hO.c0 hO.c1;have hC:Ok p (s.gw<|B.iL s.clk ticks):=hO.gw aB.1 aB.2;let⟨aD,Y⟩:=oj l hI.2.2.1 hC;let⟨aN,aK⟩:=py _ aD rfl;have aR:Ng ((s.gw<|B.iL s.clk ticks).fg l):=Ng.fg l hI.2.2.1 hN.same;let⟨aH,c8⟩:=h.mc 15 af (v:=js m g 4 0) rfl;let⟨aG,_⟩:=h.mc 14 af (v:=.bool m.sp) rfl;have aA:m.sp=s.sp:=hS.sp;rw[aA]at aG;have cQ:=h.M.lt;have cN:=hI.2.1;have bF:Hid (dC 77 #[P0 g.mb] (w.setCell (az g.mb 15)<|.slice none 0 0) (ah (s.lv.length:Int)) λw'=>(w.setCell (az g.mb 15)<|.slice none 0 0).grownBy w' none):=by
  have h1:=Ft T0.r (by show m.nt≠0;have W:m.nt=s.nt:=hS.nt;rw[W];exact aC);rw[show(g.at 4 0 (none,0)).mb=g.mb from rfl]at h1;refine h1.mono ?_;rintro e w' ⟨N,rfl,_,c9,hg⟩;rw[hS.live hO c9];exact⟨rfl,hg⟩
 have b8:=bj T0;have HI:=bj hI;have HR:=bj hr;have HX:=bj<|bh hP<|bh hG<|bh hPI<|bh hK<|bh bD<|bh hS<|bh hC<|bh hN<|bh aI<|bh aC<|bh hn bP;have HY:=bj<|bh aD<|bh Y<|bh aN<|bh aK aR;have bO:m.clk=s.clk:=hS.ck;have b6:Hid (∀w0:aa,dC 141 #[ah s.clk,ah ticks] w0 (ah<|B.iL s.clk ticks) λw'=>w'=w0):=λw0=>FC s.clk ticks hO.c0 hO.c1 bJ bE;have bT:=bj bO;clear T0 aB hC aD Y aN aK aR h hS hO hN aI aC hn bP bJ bE hI hr hP hG hPI bD bO aA;generalize bG:g.mb=mb at*;have y:=bj bG;clear bG;go_in;go_upto_region 2 with fail
 go_cut[7] (λq wx=>∃ov:Bool,q=.bool ov/\Hid ((ov=true↔(s.sp=true\/s.lv=[]))/\(w.setCell (az mb 15)<|.slice none 0 0).grownBy wx none))
 case first=>
  cases aA:s.sp with
  |true=>
   have aV:=bj aA;rw[aA]at aG;go_wp2_with fail
   go_meet
   case rel=>exact⟨true,rfl,⟨λ_=>ag aV.out,λ_=>rfl⟩,aw _ _⟩
  |false=>
   have aV:=bj aA;rw[aA]at aG;go_wp2_with fail
   refine dq bF λw2 hg=>?_;have bM:=bj hg;clear hg;by_cases aO:s.lv=[]
   .go_wp2_with fail
    go_meet
    case rel=>exact⟨true,rfl,⟨λ_=>ak aO,λ_=>rfl⟩,bM.out⟩
   have bX:((s.lv.length:Int) == 0)=false:=by
    rw[dY];exact λe=>aO<|dh.1 af
   go_wp2_with fail
   go_meet
   case rel=>exact⟨false,rfl,⟨λe=>(by cases e),λe=>e.elim (λe=>by rw[aV.out]at e;cases e)<|λe=>dr e aO⟩,bM.out⟩
 case rest=>
  obtain⟨ov,rfl,b0⟩:=hcut;have aQ:=bj<|b8.out.kept b0.out.2;have aU:=bj b0.out.1;have bI:(g.at 4 0 (none,0)).mb=mb:=y.out;have c5:wc.cell? (az mb 5)=some (ah s.clk)/\wc.frozen? (az mb 5)=false:=by
   have W:=aQ.out.r.mc 5 af (v:=ah m.clk) rfl;rw[bI,bT.out]at W;exact W
  obtain⟨c5,z5⟩:=c5;have bS:Hid (Tr d m g w (m.nC.gw<|B.iL s.clk ticks) (g.at 4 0 (none,0))<|wc.setCell (az mb 5)<|ah<|B.iL s.clk ticks):=by
   have W:=aQ.out.trans<|aQ.out.r.Kc<|B.iL s.clk ticks;rw[bI]at W;exact W
  have l5:mb<wc.heap.size:=an wc _ c5;have aS:=bj<|b6.out wc;clear aG aH c8 bF b0 b8 aQ b6;go_wp2_with fail
  refine dq aS ?_;rintro w2 rfl;clear aS;generalize aB:B.iL s.clk ticks=iL at*;have bK:=bj aB;clear aB;go_wp2_with fail
  have b5:Hid (LM p d K m g w ρ ((s.gw iL).fg l) l<|w2.setCell (az mb 5)<|ah iL):=by
   let⟨_,_,_,_,_,hS,hC,hN,aI,aC,_,_⟩:=HX.out;exact⟨s.gw iL,_,_,bS.out,hS.gw iL,hC,hN.same,aC,rfl,HI.out.2.2.1⟩
  clear c5 z5;generalize w2.setCell (az mb 5) (ah iL)=w3 at*;go_loopw[8] (λi wr=>∃j:Nat,i=ah j/\j<=n0/\Hid (LM p d K m g w ρ ((s.gw iL).fg l) (l.drop j) wr)) (λi _=>n0-(intOf i).toNat)
  case atStart=>exact⟨0,rfl,af,by show LM p d K m g w ρ _ (l.drop 0) _;rw[List.drop_zero];exact b5.out⟩
  case round=>
   obtain⟨j,rfl,hj,rI⟩:=hrel;by_cases cK:j<n0
   .obtain⟨x,hx⟩:∃x,l[j]?=some x:=⟨_,bw<|gD HI.out.1⟩;obtain⟨a,rfl⟩:∃a,ad=some a:=by
     cases ad with
     |none=>rw[HI.out.2.2.2.1 rfl]at hx;simp at hx
     |some a=>exact⟨a,rfl⟩
    let⟨bB,c1⟩:=rI.out.cell HI.out hx;let⟨b9,bN⟩:=cf.1 hx;have bC:l.drop j=x :: l.drop (j+1):=by rw[<-bN];exact List.drop_eq_getElem_cons b9
    rw[bC]at rI;have b4:(j:Int)<(n0:Int):=af
    have aP:=bj<|Pv HX.out.1 rI.out;rw[y.out]at aP;obtain⟨z,b⟩:=x;simp only at bB c1 aP;rw[<-nu]at c1;have cB:wr.cell? (az ((a.add<|j*2).block)<|(a.add<|j*2).off+1)=some (dz (b:Int)):=c1;clear c1 hx bN bC b9 rI;go_wp2_with fail
    refine dq aP λw4 bH=>?_;have bV:=bj bH;clear bH aP bB cB;go_wp2_with fail
    go_roundw
    case rel=>exact⟨j+1,iI,af,bV⟩
    case measure=>simp[intOf];omega
   obtain rfl:j=n0:=by omega
   have b4:¬((j:Int)<(j:Int)):=af
   have aX:Hid (∃m1 g1,Tr d m g w m1 g1 wr/\eF p K ((s.gw iL).fg l) m1 ρ):=by
    let⟨s1,m1,g1,a1,a2,a3,a4,a5,a6,a7⟩:=rI.out;rw[List.drop_of_length_le<|gD HI.out.1]at a6;have bZ:s1=(s.gw iL).fg l:=a6;rw[<-bZ];exact⟨m1,g1,a1,a2⟩
   clear rI b5 bS
   cases ov with
   |true=>
    go_wp2_with fail
    go_ret;let⟨m1,g1,a1,a2⟩:=aX.out;have bW:=aU.out.1 (by first|exact rfl|trivial);let⟨aD,Y,_,_,_⟩:=HY.out;have hr:=HR.out;unfold jX at hr;rw[bK.out,av (λe=>by
     rcases bW with W|W
     .have h8:=e.2;rw[Y.sp]at h8;have h7:s.sp=false:=h8;rw[W]at h7;cases h7
     exact e.1<|eZ Y.lv W)]at hr
    let⟨_,_,_,_,_,_,_,_,aI,_,_,_⟩:=HX.out;refine⟨_,rfl,m1,g1,ρ,a1,?_,ak ⟨rfl,?_⟩⟩
    .rw[hr];exact a2.mono af
    rw[a2.ev,Y.ev];exact aI
   |false=>
    have bY:Hid (∃s2,iH p (((s.gw iL).fg l).iC<|((s.gw iL).fg l).q 3 0) s2/\s'=s2.jh p):=by
     have hr:=HR.out;unfold jX at hr;let⟨aD,Y,_,_,_⟩:=HY.out;have hA:((s.gw iL).fg l).lv≠[]:=λe=>by
      have W:=aU.out.2<|ak (by rw[Y.lv]at e;exact e)
      cases W
     have hB:((s.gw iL).fg l).sp=false:=by
      cases aA:((s.gw iL).fg l).sp with
      |false=>rfl
      |true=>
       have W:=aU.out.2<|ag (by rw[Y.sp]at aA;exact aA)
       cases W
     rw[bK.out,bf ⟨hA,hB⟩]at hr;exact hr
    have bQ:Hid (O9 p d K m g w ρ (((s.gw iL).fg l).iC<|((s.gw iL).fg l).q 3 0) (((s.gw iL).fg l).q 3 0).length wr):=by
     let⟨m1,g1,a1,a2⟩:=aX.out;let⟨aD,Y,_,_,aR⟩:=HY.out;let⟨_,_,_,_,_,_,_,_,_,aC,_,_⟩:=HX.out;exact⟨_,m1,g1,rfl,a1,a2,aD,aR,eZ Y.nt aC,rfl⟩
    have b1:=bj<|No bQ.out;rw[y.out]at b1;have aW:Hid (Ok p (((s.gw iL).fg l).iC<|((s.gw iL).fg l).q 3 0)/\(((s.gw iL).fg l).iC<|((s.gw iL).fg l).q 3 0).nt=s.nt/\(((s.gw iL).fg l).iC<|((s.gw iL).fg l).q 3 0).ev=[]):=by
     let⟨aD,Y,aN,aK,_⟩:=HY.out;let⟨_,_,_,_,_,_,_,_,aI,_,_,_⟩:=HX.out;exact⟨aN,aK.nt.trans Y.nt,by rw[aK.ev,Y.ev];exact aI⟩
    generalize b7:((s.gw iL).fg l).iC (((s.gw iL).fg l).q 3 0)=fin at*;generalize (((s.gw iL).fg l).q 3 0).length=nq at*;clear b7 bQ aX HY HR HI;go_wp2_with fail
    refine b1.out.mono ?_;rintro e w4 ⟨B0,rfl,bR⟩;have c2:=bj bR;clear bR b1;go_wp2_with fail
    go_loopg [9] nq (λn b wr=>∃B:Nat,b=ah B/\Hid (L5 p d K m g w ρ fin n B wr))
    case atStart=>exact⟨B0,rfl,c2⟩
    case round=>
     obtain⟨B,rfl,rW⟩:=hrel
     cases B with
     |succ b=>
      let⟨tb,nt,cap,v2,c6,cI,cP,t2,z2,cD,hC⟩:=MD rW.out;rw[y.out]at c6 cD hC;have HC:=bj hC;have cF:(0:Int)<(b:Int)+1:=af
      have q5:=fm (n:=b) af;have q6:IntKind.i64.wrap (b:Int)=(b:Int):=jA
      have q7:(0:Int)<=(b:Int):=af
      have q8:(b:Int)<(nt:Int):=af
      clear hC rW;go_wp2_with fail
      refine dq HC ?_;rintro w5 ⟨k,hk,hD⟩;have aY:=bj<|No hD;rw[y.out]at aY;have bU:=bj hk;clear hD hk HC c6 t2 z2;go_wp2_with fail
      refine aY.out.mono ?_;rintro e w6 ⟨B',rfl,bA⟩;have cA:=bj bA;clear bA aY;go_wp2_with fail
      go_roundg k
      case rel=>exact⟨B',rfl,cA⟩
      case measure=>have:=bU.out;omega
     |zero=>
      have J:Hid (∃s2,iH p fin s2/\s'=s2.jh p/\Ok p s2/\s2.nt≠0):=by
       let⟨s2,f1,f2⟩:=bY.out;let⟨c3,aT,cL⟩:=aW.out;let⟨_,_,hPI,_,_,_,_,_,_,aC,hn,_⟩:=HX.out;let⟨k1,k2,k3⟩:=vB hPI c3 (eZ aT hn) f1;refine⟨s2,f1,f2,k1,?_⟩
       cases hq:fin.q 2 0 with
       |nil=>rw[k2 hq,aT];exact aC
       |cons t r=>
        let⟨s0,g0,_,_,g3,_⟩:=k3 t r hq;have W:=g0.nt.1;rw[g3,aT]at W;omega
      let⟨s2,bL,aL⟩:=J.out;have b2:=bj bL;clear J bL;have J:=bj aL;clear aL;let⟨cH,qc,c7⟩:=MG rW.out;rw[y.out]at c7
      cases hq:fin.q 2 0 with
      |nil=>
       have a0:Hid (Ck p d K m g w s2 wr):=by
        have W:=b2.out;unfold iH at W;rw[hq]at W;have h8:s2=fin:=W;rw[h8];exact Ck.of rW.out
       rw[hq]at c7;simp only[List.length_nil]at c7;clear rW;have Z:Hid (∃x,wr.cell? (az mb 14)=some (.bool x)/\Hid (s2.sp=x)):=by
        have W:=a0.out.sp;rw[y.out]at W;exact⟨_,W,rfl⟩
       let⟨aJ,aG,aF⟩:=Z.out;clear Z
       cases aJ with
       |true=>
        have u:=bj (a0.out.Oa aF.out).out;rw[y.out]at u;let⟨a9,aH,o⟩:=u.out;have H:=bj o;clear u o;go_wp2_with fail
        go_ret;refine⟨a9,rfl,?_⟩;rw[J.out.1];exact H.out
       |false=>
        have a8:=bj<|Lu HX.out.1 HX.out.2.1 HX.out.2.2.2.1 HX.out.2.2.2.2.1 a0.out J.out.2.1 J.out.2.2;rw[y.out]at a8;go_wp2_with fail
        refine dq a8 λw9 aE=>?_;have u:=bj aE.out;rw[y.out]at u;let⟨a9,aH,o⟩:=u.out;have H:=bj o;clear u o a8 aE;go_wp2_with fail
        go_ret;refine⟨a9,rfl,?_⟩;rw[J.out.1];exact H.out
      |cons t r=>
       have aZ:=bj<|Oe HX.out.1 HX.out.2.1 HX.out.2.2.1 HX.out.2.2.2.1 rW.out (eZ aW.out.2.1 HX.out.2.2.2.2.2.2.2.2.2.2.1) aW.out.2.2 HX.out.2.2.2.2.2.2.2.2.2.2.2 hq b2.out;rw[y.out]at aZ;clear c7 rW;let⟨b,off,cap,c7,z7,cG,cJ,cR,cb,hC⟩:=aZ.out;have HC:=bj hC;generalize c4:r.length=rn at*;clear hC aZ c4;have r1:(0:Int)<(rn:Int)+1:=af
       by_cases b3:cap=1
       .subst b3;have cC:rn=0:=af
        subst cC;rw[bf rfl]at HC;go_wp2_with fail
        refine dq HC λw7 aM=>?_;have a0:=bj aM;clear aM HC c7 z7 cb;have Z:Hid (∃x,w7.cell? (az mb 14)=some (.bool x)/\Hid (s2.sp=x)):=by
         have W:=a0.out.sp;rw[y.out]at W;exact⟨_,W,rfl⟩
        let⟨aJ,aG,aF⟩:=Z.out;clear Z
        cases aJ with
        |true=>
         have u:=bj (a0.out.Oa aF.out).out;rw[y.out]at u;let⟨a9,aH,o⟩:=u.out;have H:=bj o;clear u o;go_wp2_with fail
         go_ret;refine⟨a9,rfl,?_⟩;rw[J.out.1];exact H.out
        |false=>
         have a8:=bj<|Lu HX.out.1 HX.out.2.1 HX.out.2.2.2.1 HX.out.2.2.2.2.1 a0.out J.out.2.1 J.out.2.2;rw[y.out]at a8;go_wp2_with fail
         refine dq a8 λw9 aE=>?_;have u:=bj aE.out;rw[y.out]at u;let⟨a9,aH,o⟩:=u.out;have H:=bj o;clear u o a8 aE;go_wp2_with fail
         go_ret;refine⟨a9,rfl,?_⟩;rw[J.out.1];exact H.out
       rw[av b3]at HC;go_wp2_with fail
       refine dq HC λw7 aM=>?_;have a0:=bj aM;clear aM HC c7 z7 cb;have Z:Hid (∃x,w7.cell? (az mb 14)=some (.bool x)/\Hid (s2.sp=x)):=by
        have W:=a0.out.sp;rw[y.out]at W;exact⟨_,W,rfl⟩
       let⟨aJ,aG,aF⟩:=Z.out;clear Z
       cases aJ with
       |true=>
        have u:=bj (a0.out.Oa aF.out).out;rw[y.out]at u;let⟨a9,aH,o⟩:=u.out;have H:=bj o;clear u o;go_wp2_with fail
        go_ret;refine⟨a9,rfl,?_⟩;rw[J.out.1];exact H.out
       |false=>
        have a8:=bj<|Lu HX.out.1 HX.out.2.1 HX.out.2.2.2.1 HX.out.2.2.2.2.1 a0.out J.out.2.1 J.out.2.2;rw[y.out]at a8;go_wp2_with fail
        refine dq a8 λw9 aE=>?_;have u:=bj aE.out;rw[y.out]at u;let⟨a9,aH,o⟩:=u.out;have H:=bj o;clear u o a8 aE;go_wp2_with fail
        go_ret;refine⟨a9,rfl,?_⟩;rw[J.out.1];exact H.out
end D
namespace F
structure jH(w0:aa) (O:Nat->Ob) (w:aa):Prop where
 b:Below w0.heap.size w0 w
 ok:∀i,(O i).ok w
 dj:∀i j k,(O i).bs k->(O j).bs k->i=j
 lo:∀i k,(O i).bs k->w0.heap.size<=k
section
variable {w0 w w':aa}{O O':Nat->Ob}
theorem jH.lt(h:jH w0 O w){i k:Nat}(e:(O i).bs k):k<w.heap.size:=(O i).lt w k (h.ok i) e
theorem dN.LB{N:Nat}{S:Nat->Prop}{w w1 w2:aa}(e:Below N w w1)(i:dN S w1 w2)(hS:∀k,S k->N<=k)(u:N<=w.heap.size):Below N w w2:=
 ⟨i.1.trans e.os,i.2.1.trans e.tape,i.2.2.1.trans e.output,dQ e.size i.size,λk o=>(i.same (gD e.size)<|λh=>by grind).trans<|e.block k o⟩
theorem jH.to{S C:Nat->Prop}(h:jH w0 O w)(Z:dN S w w')(hS:∀k,S k->∃j,C j/\(O j).bs k)(W:∀i,¬C i->O' i=O i)(h2:∀i,C i->(O' i).ok w')(h3:∀i k,C i->(O' i).bs k->(∃j,C j/\(O j).bs k)\/w.heap.size<=k)(h4:∀i j k,C i->C j->(O' i).bs k->(O' j).bs k->i=j):jH w0 O' w':=by
 have hw:=h.b.size;have J:∀i j k,C i->¬C j->(O' i).bs k->(O j).bs k->False:=λi j k hi u o Y=>by
  rcases h3 i k hi o with⟨a,ha,G⟩|G
  .have:=h.dj a j k G Y;grind
  have:=h.lt Y;omega
 refine⟨dN.LB h.b Z (λk o=>?_)<|bm _,λi=>?_,λi j k hi u=>?_,λi k o=>?_⟩
 .let⟨j,_,G⟩:=hS k o;exact h.lo j k G
 .by_cases H:C i
  .grind
  rw[W i H];refine(O i).fr w w' (h.ok i)<|λk o=>Z.same (h.lt o)<|λhs=>?_;let⟨j,u,G⟩:=hS k hs;have:=h.dj j i k G o;grind
 .by_cases y:C i
  .grind
  rw[W i y]at hi;by_cases e:C j
  .grind
  rw[W j e]at u;exact h.dj i j k hi u
 by_cases H:C i
 .rcases h3 i k H o with⟨a,_,G⟩|G
  .exact h.lo a k G
  omega
 rw[W i H]at o;exact h.lo i k o
def jH.kept(h:jH w0 O w)(e:w.grownBy w' none):jH w0 O w':=
 h.to (S:=λ_=>False) (C:=λ_=>False) (eA e) (λ_ h=>h.elim) (λ_ _=>rfl) (λ_ h=>h.elim) (λ_ _ h=>h.elim) (λ_ _ _ h=>h.elim)
def jH.perm(h:jH w0 O w)(f:Nat->Nat)(o:∀i j,f i=f j->i=j):jH w0 (λi=>O<|f i) w:=
 ⟨h.b,λi=>h.ok<|f i,λi j k hi u=>o i j<|h.dj _ _ k hi u,λ_ k e=>h.lo _ k e⟩
theorem jH.eq(h:jH w0 O w)(e:∀i,O' i=O i):jH w0 O' w:=by
 have:=gz e;grind
def gi(O:Nat->Ob)(i:Nat)(X:Ob):Nat->Ob:=λj=>if j=i then X else O j
theorem kx(O:Nat->Ob)(i:Nat)(X:Ob):gi O i X i=X:=bf rfl
theorem iN(O:Nat->Ob){i j:Nat}(X:Ob)(h:j≠i):gi O i X j=O j:=av h
theorem jH.CG(h:jH w0 O w)(i:Nat){X:Ob}(J:dN (O i).bs w w')(hX:X.ok w')(H:∀k,X.bs k->(O i).bs k\/w.heap.size<=k):jH w0 (gi O i X) w':=by
 refine h.to (S:=(O i).bs) (C:=λj=>j=i) J (λk u=>⟨i,rfl,u⟩) (λj o=>iN O X o) (λj o=>?_) (λj k o u=>?_)<|λa b k y G _ _=>y.trans G.symm
 .grind[kx]
 grind[kx]
theorem jH.split(h:jH w0 O w)(i j:Nat)(Z:i≠j){X Y:Ob}(hO:dN (O i).bs w w')(hX:X.ok w')(hY:Y.ok w')(h3:∀k,X.bs k->(O i).bs k\/w.heap.size<=k)(W:∀k,Y.bs k->(O i).bs k\/w.heap.size<=k)(h4:∀k,X.bs k->Y.bs k->False):jH w0 (gi (gi O i X) j Y) w':=by
 have G:gi (gi O i X) j Y i=X:=by rw[iN _ _ Z,kx]
 have J:gi (gi O i X) j Y j=Y:=kx _ _ _;refine h.to (S:=(O i).bs) (C:=λa=>a=i\/a=j) hO (λk u=>⟨i,ag rfl,u⟩) (λa o=>?_) (λa o=>?_) (λa k o u=>?_)<|λa b k o hb H y=>?_
 .grind[iN]
 .grind
 .grind
 grind
def jH.new(h:jH w0 O w)(j:Nat){Y:Ob}(o:w.grownBy w' none)(u:Y.ok w')(i:∀k,Y.bs k->w.heap.size<=k):jH w0 (gi O j Y) w':=
 h.CG j (eA o) u (λk e=>ak<|i k e)
def jH.drop(h:jH w0 O w)(j:Nat):jH w0 (gi O j .nil) w:=h.CG j (dx _ _) trivial (λ_ e=>e.elim)
end
def AJ{p:dH}{s:Pl}{g:eM}{mb:Nat}{w w':aa}(h:rf p s g mb w)(e:∀k,eJ p s g k\/k=mb->w'.heap[k]?=w.heap[k]?):rf p s g mb w':=by
 let⟨x,y⟩:=h.bx;exact⟨⟨λa b c=>(ob p s g a b c).fr w w' (h.r.o a b c)<|λk u=>e k<|ag ⟨a,b,c,u⟩,h.r.i⟩,h.ok,h.ev,⟨x,(e mb<|ak rfl).trans y⟩,h.nm⟩
def Ob.BF(p:dH)(s:Pl)(g:eM)(mb:Nat):Ob:=⟨λk=>eJ p s g k\/k=mb,λw=>rf p s g mb w,λ_ _ h hk=>AJ h hk,λw k h hk=>by
 rcases hk with hk|rfl
 .exact h.r.lt hk
 .exact h.cells.2.2.2⟩
def Ob.doc(d:D.Dp)(m:D.Dm)(g:D.Dg):Ob:=⟨λk=>D.eJ d m g k,λw=>D.dZ d m g w,λw w' h hk=>⟨λa b c=>(D.ob d m g a b c).fr w w' (h.o a b c)<|λk hb=>hk k ⟨a,b,c,hb⟩,h.i⟩,λ_ _ h hk=>h.lt hk⟩
def Ob.Ac(b:Nat)(T:TypeId)(n:Nat):Ob:=⟨λk=>k=b,λw=>jQ w b T n,λw w' h hk=>by
 obtain⟨cur,h1,h2⟩:=h
 exact⟨cur,(hk b rfl).trans h1,h2⟩,λ_ _ h e=>by rw[e];exact h.lt⟩
def Ob.lists(T:TypeId)(sz:Nat)(P:Int->Nat->Value)(E:List (Sl×Int)):Ob:=⟨λk=>∃x,x∈E/\fk x.1.1=some k,λw=>∀x,x∈E->Rd w T sz (P x.2) x.1,λ_ _ h hk x hx=>(h x hx).fr<|λk e=>hk k ⟨x,hx,e⟩,λ_ _ h hk=>by
 obtain⟨x,hx,e⟩:=hk
 exact((h x hx).lt e).1⟩
structure pU where
 p:dH
 s:Pl
 g:eM
 mb:Nat
 d:D.Dp
 m:D.Dm
 h:D.Dg
 pb:Nat
structure pU.Good(x:pU) (I:Nat):Prop where
 pg:ND x.p
 pd:D.PD x.p x.d
 rg:∀f,f<x.p.nf->2<=x.p.rg f/\x.p.rg f<=8
 dn:1<=x.d.n/\x.d.n<=1000000
 ng:Ng x.s
 J9:∃ρ,D.eF x.p (1+50*I) x.s x.m.nC ρ
 n0:x.s.nt≠0
 n1:x.s.nt<=1+50*I
 ub:x.s.kd.un<=50*I/\x.s.kd.cc<=50*I
def oA:Option pU->Ob
 |none=>.nil
 |some x=>.BF x.p x.s x.g x.mb
def oB:Option pU->Ob
 |none=>.nil
 |some x=>.doc x.d x.m x.h
def oP:Option pU->Ob
 |none=>.nil
 |some x=>.one x.pb (.cells #[P0 x.mb,P0 x.h.mb] 74 (0,0))
def vr:Option pU->Nat->Prop
 |none,_=>True
 |some x,I=>x.Good I
def pV:Option pU->Value
 |none=>.pointer none
 |some x=>P0 x.pb
structure St where
 x:Option pU
 y:Option pU
 ob:Nat
 mo:Nat
 bk:Nat
 n:Nat
 ra:Option Addr×Nat
 E:List (Sl×Int)
 rb:Option Addr×Nat
 J:List (Sl×Int)
variable {i:Nat}{t:St}
def St.O(t:St)(i:Nat):Ob:=
 if i=0 then oA t.x else if i=1 then oB t.x else if i=2 then oP t.x else if i=3 then oA t.y else if i=4 then oB t.y else if i=5 then oP t.y
 else if i=6 then .Ac t.ob 169 (t.mo*2) else if i=7 then .full t.bk 81 3 (yz t.n (.slice t.ra.1 t.E.length t.ra.2)<|.slice t.rb.1 t.J.length t.rb.2)
 else if i=8 then .row 119 2 t.ra.1 t.E.length t.ra.2 (jg t.E) else if i=9 then .row 121 2 t.rb.1 t.J.length t.rb.2 (jg t.J)
 else if i=10 then .lists 48 3 oI t.E else if i=11 then .lists 3 1 tL t.J else .nil
theorem St.LX(t:St)(h:12<=i):t.O i=.nil:=by
 unfold St.O;rw[eK,eK,eK,eK,eK,eK,eK,eK,eK,eK,eK,eK]
theorem St.ext{O:Nat->Ob}(h:∀i,i<14->t.O i=O i)(o:∀i,14<=i->O i=.nil)(i:Nat):t.O i=O i:=by
 grind[F.St.LX]
def AL(h:i<14):i=0\/i=1\/i=2\/i=3\/i=4\/i=5\/i=6\/i=7\/i=8\/i=9\/i=10\/i=11\/i=12\/i=13:=by omega
abbrev St.jH(w0:aa)(t:St)(w:aa):Prop:=F.jH w0 t.O w
def swp(i:Nat):Nat:=if i<3 then i+3 else if i<6 then i-3 else i
theorem G8(i j:Nat)(h:swp i=swp j):i=j:=by
 grind[swp]
def St.swap(t:St):St:={t with x:=t.y,y:=t.x}
theorem St.JY(t:St)(i:Nat):t.swap.O i=t.O (swp i):=by
 by_cases h:i<14
 .rcases AL h with rfl|rfl|rfl|rfl|rfl|rfl|rfl|rfl|rfl|rfl|rfl|rfl|rfl|rfl<;>rfl
 have e:swp i=i:=by unfold swp;rw[eK,eK]
 grind[St.LX]
def St.jH.swap{w0 w:aa}(h:t.jH w0 w):t.swap.jH w0 w:=(h.perm swp G8).eq<|λi=>t.JY i
end F
section
def D.eF.OU{p:F.dH}{K:Nat}{s:F.Pl}{m:D.Dm}{ρ:Nat->Nat}(h:D.eF p K s m ρ):D.eF p K s.nC m.nC ρ:=
 ⟨h.nt,h.q,h.yw,h.sp,rfl,h.ck,h.T,h.O,h.C,h.I,h.Kp,h.L,h.N,h.A,h.lm,h.B,h.U⟩
namespace F
theorem pU.Good.next{x:pU}{I:Nat}(hG:x.Good I)(e:Ok x.p x.s)(i:x.s.ev=[]){ticks:Int}{l:List (Int×Nat)}{s':Pl}(ht:jX x.p x.s ticks l s')(o:∀y,y∈l->y.2<256)(hI:I<=2000000){m':D.Dm}{ρ':Nat->Nat}(hS:D.eF x.p (1+50*I+x.p.qn) s' m' ρ')(g':eM)(J:D.Dg):({x with s:=s'.nC,g:=g',m:=m',h:=J}:pU).Good (I+1):=by
 have Y:=hG.pg.q;have hn:=hG.n1;have H:=B.yp (t:=ticks) e.c0 e.c1;have u:=qe hG.pg.pi hG.pg.pw.n1 e i af o ht;refine⟨hG.pg,hG.pd,hG.rg,hG.dn,(hG.ng.G6 hG.pg.pi e H.1 H.2 o af ht).same,⟨ρ',(hS.mono af).OU⟩,?_,?_,?_⟩
 .have:=u.n1;have:=hG.n0;show s'.nt≠0;omega
 .have:=u.n2;show s'.nt<=_;omega
 have:=xv ht;have:=hG.ub;have:=hG.pg.k;show s'.kd.un<=_/\s'.kd.cc<=_;omega
def D2(w0:aa)(ad:Option Addr)(n:Nat)(l:List (Int×Nat)):Prop:=
 n=l.length/\n<=1000000000/\(∀x,x∈l->x.2<256)/\(ad=none->l=[])/\∀a,ad=some a->l≠[]->a.block<w0.heap.size/\∀j x,l[j]?=some x->w0.cell? (a.add<|j*2)=some (.int .i64 x.1)/\w0.cell? (a.add<|j*2+1)=some (.int .u8 (x.2:Int))
def oC(il:List (Int×Nat))(j:Nat):Value:=if j%2=0 then .int .i64 (il.getD (j/2) (77,0)).1 else .int .u8 ((il.getD (j/2) (77,0)).2:Int)
def Ij(il:List (Int×Nat))(i:Nat):oC il (i*2)=ah (il.getD i (77,0)).1:=by simp[oC,mL]
theorem Ii(il:List (Int×Nat))(i:Nat):oC il (i*2+1)=dz ((il.getD i (77,0)).2:Int):=by unfold oC;grind
section
variable {w0 w w':aa}{O:Nat->Ob}
theorem jH.at(h:jH w0 O w)(i:Nat){X:Ob}(e:O i=X):X.ok w:=e▸h.ok i
def jH.not(h:jH w0 O w){i j k:Nat}{X Y:Ob}(y:O i=X)(G:O j=Y)(o:i≠j)(u:X.bs k):¬Y.bs k:=λe=>o<|h.dj i j k (y▸u)<|G▸e
theorem D2.cell{ad:Option Addr}{n:Nat}{l:List (Int×Nat)}(hI:D2 w0 ad n l)(y:Below w0.heap.size w0 w){a:Addr}(H:ad=some a){j:Nat}{x:Int×Nat}(i:l[j]?=some x):a.block<w0.heap.size/\w.cell? (a.add<|j*2)=some (ah x.1)/\w.cell? (a.add<|j*2+1)=some (dz x.2):=by
 let⟨u,G⟩:=hI.2.2.2.2 a H (λe=>by grind);let⟨c0,c1⟩:=G j x i;exact⟨u,(bd (a:=a.add<|j*2) (by rw[jN];exact y.block _ u)).trans c0,(bd (a:=a.add<|j*2+1) (by rw[jN];exact y.block _ u)).trans c1⟩
theorem D2.Pu{ad:Option Addr}{n:Nat}{l:List (Int×Nat)}(hI:D2 w0 ad n l)(o:Below w0.heap.size w0 w){S:Nat->Prop}(hS:∀k,S k->w0.heap.size<=k):D.O5 w ad n l S:=by
 refine⟨hI.1,hI.2.1,hI.2.2.1,hI.2.2.2.1,λa i e=>?_⟩;have y:=(hI.2.2.2.2 a i e).1;exact⟨dm y o.size,λG=>by grind,λj x u=>(hI.cell o i u).2⟩
theorem EN{ob mo n:Nat}{il:List (Int×Nat)}{S:Nat->Prop}(i:Full w ob 169 (mo*2) (mo*2) (oC il))(hn:n=il.length)(W:n<=mo)(o:n<=1000000000)(Z:∀x,x∈il->x.2<256)(hS:¬S ob):NX w (some<|az ob 0) n il S:=by
 refine⟨hn,o,Z,(λe=>by cases e),λa Y a0=>?_⟩;have e:((az ob 0):Addr)=a:=by injection Y
 subst e;refine⟨i.lt,hS,λj x u=>?_⟩;have a1:=(cf.1 u).1;have G:il.getD j (77,0)=x:=by rw[cw,u];rfl
 have J:=i.cell (j*2) af;have y:=i.cell (j*2+1) af;rw[Ij,G]at J;rw[Ii,G]at y;have H:∀k,((az ob 0):Addr).add k=(az ob k):=λk=>by grind[Addr.add]
 grind
theorem CO{ob mo:Nat}{e:Array Value}{il:List (Int×Nat)}(o:w.heap[ob]?=some (.cells e 169 (0,0)))(y:e.size=mo*2)(H:il.length<=mo):Full (w.setRow ob (D.rowP (il.length*2) (oC il)++e.toList.drop (D.rowP (il.length*2)<|oC il).length).toArray) ob 169 (mo*2) (il.length*2) (oC il):=by
 refine⟨_,setRow_heap w ob e _ 169 (0,0) o,?_,λj i=>?_⟩
 .grind[mW]
 grind[List.getElem?_append_left,mW,nH,oC]
theorem zp(g:Nat)(i:Array Value):dN (λk=>k=g) w (w.setRow g i):=⟨rfl,rfl,rfl,by simp_all,λk _ hn=>setRow_other w g k i<|λe=>hn e⟩
theorem jH.Ee{p:dH}{s s':Pl}{g g':eM}{mb H:Nat}{G:Option Addr}(h:jH w0 O w)(e0:O 0=.BF p s g mb)(i:Ak p s g mb w s'.nC g' w')(W:w'.ownsRow 0 48 3 (.slice G s'.ev.length H) s'.ev.length (nB s'.ev))(y:∀k,fk G=some k->¬eJ p s'.nC g' k/\k≠mb/\k<w'.heap.size/\(eJ p s g k\/w.heap.size<=k)):jH w0 (gi (gi O 0<|.BF p s'.nC g' mb) 12<|.row 48 3 G s'.ev.length H<|nB s'.ev) w':=by
 have J:∀k,(O 0).bs k↔(eJ p s g k\/k=mb):=λk=>by rw[e0];exact Iff.rfl
 refine h.split 0 12 eo ?_ i.m W (λk e=>?_) (λk e=>?_)<|λk e u=>?_
 .have:(O 0).bs=λk=>eJ p s g k\/k=mb:=by rw[e0];rfl
  rw[this];exact i.o
 .rw[J];rcases e with e|e
  .grind[F.Ak.n]
  omega
 .rw[J];exact(y k e).2.2.2.imp ag id
 rcases e with e|e
 .exact(y k u).1 e
 exact(y k u).2.1 e
def jH.Mf{d:D.Dp}{m m':D.Dm}{g g':D.Dg}(h:jH w0 O w)(e:O 1=.doc d m g)(ht:D.Tr d m g w m' g' w'):jH w0 (gi O 1<|.doc d m' g') w':=by
 refine h.CG 1 ?_ ht.r<|λk i=>?_
 .have:(O 1).bs=D.eJ d m g:=by rw[e];rfl
  rw[this];exact ht.o
 rw[e];exact ht.m k i
theorem jH.take{T' T:TypeId}{sz f r l bk m0 ce a3 ln lc:Nat}{P:Int->Nat->Value}{Ev a6:Nat->Value}{ae a0 la:Option Addr}{xs:List Value}{N:Int}{Q:List Sl}{x:Sl}{E:List (Sl×Int)}(hr:r≠7/\r≠12/\r≠l)(hl:l≠7/\l≠12)(h:jH w0 O w)(e7:O 7=.full bk 81 3 Ev)(er:O r=.row T' 2 ae m0 ce (jg E))(el:O l=.lists T sz P E)(aE:O 12=.row T sz la ln lc xs)(hm:m0=E.length)(aF:(81:TypeId)≠T')(aG:T≠T')(aH:(81:TypeId)≠T)(ht:uf w T' T sz f (P N) bk a6 (jg E) m0 ae (la,ln,lc) N Q x a0 a3 w'):jH w0 (gi (gi (gi (gi O 7<|.full bk 81 3<|eE a6 f<|.slice a0 (E++Q.map (λy=>(y,N))).length a3) r<|.row T' 2 a0 (E++Q.map (λy=>(y,N))).length a3<|jg<|E++Q.map (λy=>(y,N))) l<|.lists T sz P<|E++Q.map (λy=>(y,N))) 12 .nil) w':=by
 have aC:(E++Q.map (λy=>(y,N))).length=m0+Q.length:=by rw[db,eD,hm]
 have a8:jg (E++Q.map (λy=>(y,N)))=jg E++jg (Q.map<|λy=>(y,N)):=by unfold jg;rw[List.flatMap_append]
 have b7:∀k,(O 7).bs k↔k=bk:=λk=>by rw[e7];exact Iff.rfl
 have br:∀k,(O r).bs k↔fk ae=some k:=λk=>by rw[er];exact Iff.rfl
 have a7:∀k,(O 12).bs k↔fk la=some k:=λk=>by rw[aE];exact Iff.rfl
 rw[aC,a8];have a1:=λy W=>(h.at l el) y W;have hS:∀y,y∈E->∀k,fk y.1.1=some k->¬(k=bk\/fk ae=some k\/fk la=some k):=λy W k u hs=>by
  have hb:(O l).bs k:=by rw[el];exact⟨y,W,u⟩
  rcases hs with hs|hs|hs
  .exact hl.1<|h.dj l 7 k hb<|(b7 k).2 hs
  .exact hr.2.2<|h.dj r l k ((br k).2 hs) hb
  exact hl.2<|h.dj l 12 k hb<|(a7 k).2 hs
 have i12:∀X Y Z:Ob,gi (gi (gi (gi O 7 X) r Y) l Z) 12 .nil 12=.nil:=λX Y Z=>kx _ _ _;have il:∀X Y Z:Ob,gi (gi (gi (gi O 7 X) r Y) l Z) 12 .nil l=Z:=λX Y Z=>by grind[iN,kx]
 have ir:∀X Y Z:Ob,gi (gi (gi (gi O 7 X) r Y) l Z) 12 .nil r=Y:=λX Y Z=>by grind[iN,kx]
 have i7:∀X Y Z:Ob,gi (gi (gi (gi O 7 X) r Y) l Z) 12 .nil 7=X:=λX Y Z=>by grind[iN,decide,kx]
 have a9:∀k H,k=bk->w'.heap[k]?=ny H T->False:=λk H e J=>by
  let⟨c2,a2,_⟩:=ht.f;grind
 have aA:∀k H,fk a0=some k->w'.heap[k]?=ny H T->False:=λk H e J=>by
  let⟨_,_,c2,a2⟩:=dR ht.r k (by grind[dJ]);grind
 have aB:∀k,k=bk->fk a0=some k->False:=λk e e'=>by
  let⟨_,_,c2,a2⟩:=dR ht.r k (by grind[dJ]);let⟨c3,aD,_⟩:=ht.f;grind
 have a5:∀y,y∈E++Q.map (λz=>(z,N))->Rd w' T sz (P y.2) y.1:=λy W=>by
  rcases ed.1 W with W|W
  .exact(a1 y W).fr<|λk u=>ht.o.same ((a1 y W).lt u).1<|hS y W k u
  grind[F.uf.q]
 refine h.to (S:=λk=>k=bk\/fk ae=some k\/fk la=some k) (C:=λi=>i=7\/i=r\/i=l\/i=12) ht.o (λk u=>?_) (λi hi=>?_) (λi hi=>?_) (λi k hi u=>?_)<|λi j k hi hj u G=>?_
 .grind
 .grind[iN]
 .rcases hi with rfl|rfl|rfl|rfl
  .rw[i7];exact ht.f
  .rw[ir];exact ht.r
  .rw[il];exact a5
  rw[i12];trivial
 .rcases hi with rfl|rfl|rfl|rfl
  .rw[i7]at u;exact ag ⟨7,ag rfl,(b7 k).2 u⟩
  .rw[ir]at u;exact(ht.a k u).imp (λe=>⟨i,ak<|ag rfl,(br k).2 e⟩) id
  .rw[il]at u;obtain⟨y,W,u⟩:=u;rcases ed.1 W with W|W
   .exact ag ⟨i,ak<|ak<|ag rfl,by rw[el];exact⟨y,W,u⟩⟩
   obtain⟨z,hz,rfl⟩:=eX.1 W;exact((ht.q z hz).2.2 k u).imp (λe=>⟨12,ak<|ak<|ak rfl,(a7 k).2 e⟩) id
  rw[i12]at u;exact u.elim
 have a4:(gi (gi (gi (gi O 7<|.full bk 81 3<|eE a6 f<|.slice a0 (m0+Q.length) a3) r<|.row T' 2 a0 (m0+Q.length) a3<|jg E++jg (Q.map<|λy=>(y,N))) l<|.lists T sz P<|E++Q.map (λy=>(y,N))) 12 .nil l).bs k->∃H,w'.heap[k]?=ny H T:=λhh=>by
  rw[il]at hh;obtain⟨y,W,hh⟩:=hh;exact((a5 y W).lt hh).2
 rcases hi with rfl|rfl|rfl|rfl<;>rcases hj with rfl|rfl|rfl|rfl
 .rfl
 .rw[i7]at u;rw[ir]at G;exact(aB k u G).elim
 .let⟨H,J⟩:=a4 G;rw[i7]at u;exact(a9 k H u J).elim
 .rw[i12]at G;exact G.elim
 .rw[ir]at u;rw[i7]at G;exact(aB k G u).elim
 .rfl
 .let⟨H,J⟩:=a4 G;rw[ir]at u;exact(aA k H u J).elim
 .rw[i12]at G;exact G.elim
 .let⟨H,J⟩:=a4 u;rw[i7]at G;exact(a9 k H G J).elim
 .let⟨H,J⟩:=a4 u;rw[ir]at G;exact(aA k H G J).elim
 .rfl
 .rw[i12]at G;exact G.elim
 .rw[i12]at u;exact u.elim
 .rw[i12]at u;exact u.elim
 .rw[i12]at u;exact u.elim
 rfl
end
end F
end
namespace F
variable {I bk i mb:Nat}{g:eM}{l:List uz}{p:dH}{s:Pl}{w w' w0:aa}{x y:Value}
def Tryz.underlying56:prog.underlying 56=some (.slice 169):=by kernel_rfl
def Tryz.Hh:(prog.info? 169).map (·.size)=some 2:=by kernel_rfl
def gQ{b:Nat}{T:TypeId}(h:w.heap[b]?=some (.cells #[x,y] T (0,0))):w.cell? (az b 0)=some x/\w.cell? (az b 1)=some y/\b<w.heap.size:=⟨fj h,fj h,ch h⟩
def jc{b:Nat}{z u:Value}{T:TypeId}(h:w.heap[b]?=some (.cells #[x,y,z,u] T (0,0))):w.cell? (az b 0)=some x/\w.cell? (az b 1)=some y/\w.cell? (az b 2)=some z/\w.cell? (az b 3)=some u/\b<w.heap.size:=⟨fj h,fj h,fj h,fj h,ch h⟩
def I4(sb:Nat)(kind hh ticks:Int)(ia:Option Addr)(iB ic:Nat):Ob:=.one sb<|.cells #[.int .i64 kind,.int .i64 hh,.int .i64 ticks,.slice ia iB ic] 76 (0,0)
theorem Ec(n:Nat)(a b c:Value):eE (eE (yz n a b) 0<|ah<|(n:Int)+1) 1 c=yz (n+1) c b:=by
 funext j
 unfold eE yz;grind
def tS(O:Nat->Ob)(x:pU)(I ob mo bk n:Nat)(E:List (Sl×Int))(itv:Value)(w0 w':aa):Prop:=∃(x':pU) (ra:Option Addr×Nat) (Q:List (Sl×Int)),x'.mb=x.mb/\x'.pb=x.pb/\x'.h.mb=x.h.mb/\(x'.Good (I+1)/\x'.d=x.d/\x.s.kd.un<=x'.s.kd.un/\x'.s.kd.un<=x.s.kd.un+x.d.wk)/\Q.length=4/\(∀y,y∈Q->y.1.2.1<=1000) /\
 jH w0 (gi (gi (gi (gi (gi O 0<|.BF x'.p x'.s x'.g x'.mb) 1<|.doc x'.d x'.m x'.h) 7<|.full bk 81 3<|yz (n+1) (.slice ra.1 (E++Q).length ra.2) itv) 8<|.row 119 2 ra.1 (E++Q).length ra.2<|jg<|E++Q) 10<|.lists 48 3 oI<|E++Q) w'
theorem IS(l:List uz):(nB l).length=l.length*3:=by
 induction l with
 |nil=>rfl
 |cons a l e=>
  have:nB (a :: l)=[ah a.1,ah a.2.1,ah a.2.2]++nB l:=by unfold nB;simp
  grind
theorem Lo:∀{k:Nat} {e:uz},l[k]?=some e->(nB l)[k*3]?=some (ah e.1)/\(nB l)[k*3+1]?=some (ah e.2.1)/\(nB l)[k*3+2]?=some (ah e.2.2):=by
 induction l with
 |nil=>grind
 |cons a l i=>
  intro k e h;have o:nB (a :: l)=ah a.1 :: ah a.2.1 :: ah a.2.2 :: nB l:=by unfold nB;simp
  rw[o]
  cases k with
  |zero=>
   grind
  |succ k=>
   grind
theorem B4{a:Option Addr}{n c:Nat}{e:uz}(h:w.ownsRow 0 48 3 (.slice a n c) n (nB l))(he:l[i]?=some e):∃b,a=some (az b 0)/\b<w.heap.size/\w.cell? (az b<|i*3)=some (ah e.1)/\w.cell? (az b<|i*3+1)=some (ah e.2.1)/\w.cell? (az b<|i*3+2)=some (ah e.2.2):=by
 have y:=(cf.1 he).1;have hn:n≠0:=λo=>by
  have:=h.1;grind[IS]
 let⟨b,Z,H⟩:=ef h hn;injection H with J _ G;subst J G;let⟨o,Y,u⟩:=Lo he;exact⟨b,rfl,(dR h b rfl).2.1,mN h o,mN h Y,mN h u⟩
theorem Ie{d:D.Dp}{m:D.Dm}{g:D.Dg}{v:Value}(hR:D.dZ d m g w)(he:m.ev=s.ev)(i:v=D.js m g 4 0\/(v=.slice none 0 0/\m.ev=[])):∃a c,v=.slice a s.ev.length c/\w.ownsRow 0 48 3 (.slice a s.ev.length c) s.ev.length (nB s.ev):=by
 rcases i with rfl|⟨rfl,o⟩
 .have h:=hR.E;rw[he]at h;have e:D.js m g 4 0=.slice (g.ro 4 0).1 s.ev.length (g.ro 4 0).2:=by rw[<-he];rfl
  grind
 rw[<-he,o];exact⟨none,0,rfl,eg _ _ _ _⟩
theorem Jk{O:Nat->Ob}{x:pU}{ob mo n:Nat}{ra:Option Addr×Nat}{E:List (Sl×Int)}{itv:Value}{kind hh ticks:Int}{Z:Option Addr}{iB ic:Nat}{il:List (Int×Nat)}(hf:jH w0 O w)(e0:O 0=.BF x.p x.s x.g x.mb)(e1:O 1=.doc x.d x.m x.h)(e2:O 2=.one x.pb (.cells #[P0 x.mb,P0 x.h.mb] 74 (0,0)))(e6:O 6=.Ac ob 169 (mo*2))(e7:O 7=.full bk 81 3 (yz n (.slice ra.1 E.length ra.2) itv))(e8:O 8=.row 119 2 ra.1 E.length ra.2 (jg E))(b1:O 10=.lists 48 3 oI E)(b7:O 12=.nil)(b9:O 13=.nil)(hG:x.Good I)(hI:D2 w0 Z iB il)(cJ:iB+8<=mo)(cF:mo<=1000000008)(hn:n<=1000000000)(hE:E.length<=100000000)(bX:I<=2000000)(bK:-9223372036854775808<=ticks)(bD:ticks<=9223372036854775807):dC 48 #[P0 bk,P0 x.pb,.agg #[ah kind,ah hh,ah ticks,.slice Z iB ic],dD ob mo mo] w (.bool true) λw'=>tS O x I ob mo bk n E itv w0 w':=by
 have o:=bj<|bh e0<|bh e1<|bh e2<|bh e6<|bh e7<|bh e8<|bh b1<|bh b7 b9;have J:=bj hG;have HI:=bj hI;have HF:=bj hf;obtain⟨aX,b4,_⟩:=hI;have W:=bj aX;have bF:=bj<|bh bK bD;clear e0 e1 e2 e6 e7 e8 b1 b7 b9 hG hf aX bK bD;delta dC;go_in;obtain⟨sb,aR⟩:∃sb,sb=w.heap.size:=⟨_,rfl⟩;have aC:Hid (jH w0 (gi O 13<|I4 sb kind hh ticks Z iB ic)<|w.alloc<|.cells #[ah kind,ah hh,ah ticks,.slice Z iB ic] 76):=by
  refine HF.out.new 13 (aj _ _ none) ?_<|λk hk=>?_
  .rw[aR];exact bl w _
  have:k=sb:=hk;omega
 go_upto_region 2 with fail
 generalize w.alloc (.cells #[ah kind,ah hh,ah ticks,.slice Z iB ic] 76)=w1 at*;rw[<-aR];have H:w1.heap[sb]?=some (.cells #[ah kind,ah hh,ah ticks,.slice Z iB ic] 76 (0,0)):=aC.out.at 13 (X:=I4 sb kind hh ticks Z iB ic) rfl;obtain⟨_,_,b2,b3,a9⟩:=jc H;obtain⟨aG,aE,bJ⟩:jQ w1 ob 169 (mo*2):=aC.out.at 6 o.out.2.2.2.1;have a1:=bj<|bh aE bJ;clear aE bJ H HF aR;obtain⟨cs,aM⟩:∃cs,cs=D.rowP (il.length*2) (oC il):=⟨_,rfl⟩;have a8:=bj aM;clear aM;go_wp2_with (refine uA rfl (.tmp 19) (.tmp 21) 56 56 rfl 169 2 Tryz.underlying56 Tryz.Hh ob mo mo iB ic Z rfl rfl aG 169 a1.out.1 cs ?c0 ?c1 ?c2 ?c3 ?c4 ?c5 ?_)
 try case c0=>omega
 try case c1=>rw[a8.out,mW,W.out]
 try case c2=>intro h;rw[a8.out,HI.out.2.2.2.1 h];rfl
 try case c3=>
  intro a ha j v hj;rw[a8.out]at hj;have bS:j<il.length*2:=by
   have:=(cf.1 hj).1;rw[mW]at this;exact this
  rw[nH _ bS]at hj;injection hj with hj;subst hj;obtain⟨y,hy⟩:∃y,il[j/2]?=some y:=⟨_,bw af⟩;have hg:il.getD (j/2) (77,0)=y:=by rw[cw,hy];rfl
  obtain⟨_,c0,c1⟩:=HI.out.cell aC.out.b ha hy;rcases Nat.mod_two_eq_zero_or_one j with e|e
  .have ej:j=j/2*2:=af
   have:=Ij il<|j/2;rw[hg]at this;rw[ej,this];exact c0
  have ej:j=j/2*2+1:=af
  have:=Ii il<|j/2;rw[hg]at this;rw[ej,this];exact c1
 try case c4=>rw[a8.out,mW,a1.out.2,<-W.out];omega
 try case c5=>
  intro v hv;rw[a8.out]at hv;obtain⟨j,_,rfl⟩:=eX.1 hv;unfold oC;split<;>rfl
 have aZ:Hid (Full (w1.setRow ob (cs++aG.toList.drop cs.length).toArray) ob 169 (mo*2) (iB*2)<|oC il):=by
  have h:=CO (il:=il) a1.out.1 a1.out.2 (by rw[<-W.out];omega);rw[<-W.out]at h;show Full _ _ _ _ _ _;rw[a8.out,<-W.out];exact h
 have b6:Hid (dN (λk=>k=ob) w1<|w1.setRow ob (cs++aG.toList.drop cs.length).toArray):=zp ob _;generalize w1.setRow ob (cs++aG.toList.drop cs.length).toArray=w2 at*;clear a1 a8 b2 b3 a9;go_wp2_with fail
 go_loopw[10] (λiv wx=>∃j:Nat,iB<=j/\j<=mo/\iv=ah j/\Hid (dN (λk=>k=ob) w1 wx)/\Hid (Full wx ob 169 (mo*2) (j*2)<|oC il)) (λiv _=>mo-(intOf iv).toNat)
 case atStart=>exact⟨iB,af,af,rfl,b6,aZ⟩
 case round=>
  clear b6 aZ;obtain⟨j,c9,cK,rfl,rO,rF⟩:=hrel;by_cases cG:j<mo
  .have bO:(j:Int)<(mo:Int):=af
   have hB:jQ wr ob 169 (mo*2):=by
    obtain⟨c,k1,k2,_⟩:=rF.out;exact⟨c,k1,k2⟩
   obtain⟨⟨v0,q0⟩,p0⟩:=hB.cell (j*2) af;obtain⟨⟨v1,q1⟩,p1⟩:=hB.cell (j*2+1) af;have bH:il.getD j (77,0)=(77,0):=by rw[cw,dO (by rw[<-W.out];exact c9)];rfl
   have bY:Hid (Full ((wr.setCell (az ob<|j*2)<|ah 77).setCell (az ob<|j*2+1)<|dz 0) ob 169 (mo*2) ((j+1)*2)<|oC il):=by
    have h:=(rF.out.set af).set af;rw[Ij,Ii,bH]at h;rw[show(j+1)*2=j*2+1+1 by omega];exact h
   have bU:Hid (dN (λk=>k=ob) w1<|(wr.setCell (az ob<|j*2)<|ah 77).setCell (az ob<|j*2+1)<|dz 0):=bq (S:=λk=>k=ob) (a:=az ob<|j*2+1) (bq (S:=λk=>k=ob) (a:=az ob<|j*2) rO.out (ag rfl) _) (ag rfl) _;clear hB bH rO rF;go_wp2_with fail
   go_roundw
   case rel=>exact⟨j+1,af,af,iI,bU,bY⟩
   case measure=>simp[intOf];omega
  have bO:¬((j:Int)<(mo:Int)):=af
  have cB:mo=j:=af
  subst cB;have aB:Hid (jH w0 (gi (gi O 13<|I4 sb kind hh ticks Z iB ic) 6<|.full ob 169 (mo*2)<|oC il) wr):=by
   have hb:(gi O 13 (I4 sb kind hh ticks Z iB ic) 6).bs=λk=>k=ob:=by
    rw[iN _ _ eo,o.out.2.2.2.1];rfl
   refine aC.out.CG 6 (eZ hb rO.out) rF.out<|λk hk=>ag ?_;rw[hb];exact hk
  have Y:=aB.out.kept (w':=wr.drew)<|bo<|aw _ _;have hM:rf x.p x.s x.g x.mb wr.drew:=Y.at 0 o.out.1;have a5:Full wr.drew ob 169 (mo*2) (mo*2) (oC il):=Y.at 6<|kx _ _ _;have bI:=bj<|hM.Ed mo ticks J.out.pg (by have:=J.out.n1;have:=J.out.pg.q;omega)<|EN (S:=λk=>eJ x.p x.s x.g k\/k=x.mb) a5 W.out af b4 HI.out.2.2.1<|Y.not (i:=6) (j:=0) (k:=ob) (kx _ _ _) o.out.1 eo rfl;have aA:=bj<|bh hM.ok hM.ev;have aD:wr.heap[x.pb]?=some (.cells #[P0 x.mb,P0 x.h.mb] 74 (0,0)):=aB.out.at 2 o.out.2.2.1;obtain⟨p0,p1,aQ⟩:=gQ aD;have H:wr.heap[sb]?=some (.cells #[ah kind,ah hh,ah ticks,.slice Z iB ic] 76 (0,0)):=aB.out.at 13 (X:=I4 sb kind hh ticks Z iB ic) rfl;obtain⟨_,_,b2,b3,a9⟩:=jc H;clear aD H hM a5 Y aC rO rF;have aL:(iB:Int)<=(mo:Int):=af
  go_wp2_with fail
  go_cut[11] from 34 to 43 (λv wx=>∃(u:Pl) (g6:eM) (a6:Option Addr) (c6:Nat),v=.slice a6 u.ev.length c6/\Hid (jX x.p x.s ticks il u)/\Hid (jH w0 (gi (gi (gi (gi O 13<|I4 sb kind hh ticks Z iB ic) 6<|.full ob 169 (mo*2)<|oC il) 0<|.BF x.p u.nC g6 x.mb) 12<|.row 48 3 a6 u.ev.length c6<|nB u.ev) wx))
  case first=>
   go_region_with (go_at_call 24;refine bI.out.mono ?_;rintro e w6 ⟨u,g6,a6,c6,rfl,bN,b0,bC,bE⟩;have a2:=bj bN;have a4:=bj<|(aB.out.kept (w':=wr.drew)<|bo<|aw _ _).Ee o.out.1 bC b0 bE;clear bN b0 bC bE)
   all_goals
    go_wp2_with fail
    go_meet
    case rel=>exact⟨u,g6,a6,c6,rfl,a2,a4⟩
  case rest=>
   obtain⟨u,g6,a6,c6,rfl,a2,a4⟩:=hcut;clear bI aB p0 p1 b2 b3 aQ a9;have Y:=a4.out.kept (w':=wc.drew)<|bo<|aw _ _;have hR:D.dZ x.d x.m x.h wc.drew:=Y.at 1 o.out.2.1;obtain⟨ρ,aN⟩:=J.out.J9;have bA:=bj<|D.Me (ticks:=ticks) (c0:=ic) J.out.pd J.out.rg J.out.pg.pi (gD J.out.pg.q) J.out.dn hR aN aA.out.1 J.out.ng aA.out.2 J.out.n0 (by have:=J.out.n1;have:=J.out.pg.q;omega) J.out.pg.q bF.out.1 bF.out.2 (HI.out.Pu Y.b (S:=D.eJ x.d x.m x.h)<|λk hk=>Y.lo 1 k (by show(O 1).bs k;rw[o.out.2.1];exact hk)) a2.out;have aD:wc.heap[x.pb]?=some (.cells #[P0 x.mb,P0 x.h.mb] 74 (0,0)):=a4.out.at 2 o.out.2.2.1;obtain⟨p0,p1,aQ⟩:=gQ aD;have H:wc.heap[sb]?=some (.cells #[ah kind,ah hh,ah ticks,.slice Z iB ic] 76 (0,0)):=a4.out.at 13 (X:=I4 sb kind hh ticks Z iB ic) rfl;obtain⟨_,_,b2,b3,a9⟩:=jc H;clear aD H Y hR aN;obtain⟨wA,cA⟩:∃z:aa,z=wc:=⟨_,rfl⟩;subst cA;go_wp2_with fail
   go_cut[12] from 44 to 52 (λv wx=>∃(m7:D.Dm) (h7:D.Dg) (ρ7:Nat->Nat) (a7:Option Addr) (c7:Nat),v=.slice a7 u.ev.length c7/\Hid (h7.mb=x.h.mb/\D.eF x.p (1+50*I+x.p.qn) u m7 ρ7)/\Hid (wx.ownsRow 0 48 3 (.slice a7 u.ev.length c7) u.ev.length<|nB u.ev)/\Hid (jH w0 (gi (gi (gi (gi (gi O 13<|I4 sb kind hh ticks Z iB ic) 6<|.full ob 169 (mo*2)<|oC il) 0<|.BF x.p u.nC g6 x.mb) 12<|.row 48 3 a6 u.ev.length c6<|nB u.ev) 1<|.doc x.d m7 h7) wx))
   case first=>
    go_region_with (go_at_call 75;refine bA.out.mono ?_;rintro e w7 ⟨v7,rfl,m7,h7,ρ7,aJ,aU,aY⟩;have aI:=bj<|bh aJ.b aU;have aF:=bj<|(a4.out.kept (w':=wA.drew)<|bo<|aw _ _).Mf o.out.2.1 aJ;obtain⟨a7,c7,rfl,bQ⟩:=Ie aJ.r aU.ev aY;have aH:=bj bQ;clear aJ aU aY bQ)
    all_goals
     go_wp2_with fail
     go_meet
     case rel=>exact⟨m7,h7,ρ7,a7,c7,rfl,aI,aH,aF⟩
   case rest=>
    obtain⟨m7,h7,ρ7,a7,c7,rfl,aI,aH,aF⟩:=hcut;clear bA a4 p0 p1 b2 b3 aQ a9;obtain⟨wB,c8⟩:∃z:aa,z=wc:=⟨_,rfl⟩;subst c8;have b5:Hid (wB.ownsRow 0 48 3 (.slice a6 u.ev.length c6) u.ev.length<|nB u.ev):=aF.out.at 12 (X:=.row 48 3 a6 u.ev.length c6<|nB u.ev) rfl;have bB:Hid (u.ev.length<=50):=by
     have h1:=(qe J.out.pg.pi J.out.pg.pw.n1 aA.out.1 aA.out.2 (by have:=J.out.n1;have:=J.out.pg.q;omega) HI.out.2.2.1 a2.out).el;have h2:=J.out.pg.q;show _<=_;omega
    have aP:=bB.out;obtain⟨ne,aK⟩:∃ne,ne=u.ev.length:=⟨_,rfl⟩;have aV:=bj aK;rw[<-aK]at aP;rw[<-aK];clear aK;go_wp2_with fail
    go_loopw[13,14] (λov iv wx=>∃i:Nat,i<=ne/\ov=.bool true/\iv=ah i/\Hid (wB.grownBy wx none)) (λ_ iv _=>ne-(intOf iv).toNat)
    case atStart=>exact⟨0,af,eG,rfl,aw _ _⟩
    case round=>
     obtain⟨i,hi,rfl,rfl,rG⟩:=hrel;by_cases bT:i<ne
     .have aL:(i:Int)<(ne:Int):=af
      obtain⟨ev,aT⟩:∃ev,u.ev[i]?=some ev:=⟨_,bw (by rw[<-aV.out];exact bT)⟩;obtain⟨ba,h1,h2,h3,h4,h5⟩:=B4 b5.out aT;obtain⟨bb,k1,k2,k3,k4,k5⟩:=B4 aH.out aT;subst h1 k1;have lr:=rG.out.size;have d0:=(ay rG.out (a:=az ba<|i*3) h2).1.trans h3;have d1:=(ay rG.out (a:=az ba<|i*3+1) h2).1.trans h4;have d2:=(ay rG.out (a:=az ba<|i*3+2) h2).1.trans h5;have f0:=(ay rG.out (a:=az bb<|i*3) k2).1.trans k3;have f1:=(ay rG.out (a:=az bb<|i*3+1) k2).1.trans k4;have f2:=(ay rG.out (a:=az bb<|i*3+2) k2).1.trans k5
      clear h3 h4 h5 k3 k4 k5 aT;go_wp2_with fail
      go_quiet (fail)
      go_wp2_with fail
      go_roundw
      case rel=>exact⟨i+1,af,eG,iI,⟨rG.out.os,rG.out.tape,rG.out.output,rG.out.size,rG.out.block⟩⟩
      case measure=>simp[intOf];omega
     have aL:¬((i:Int)<(ne:Int)):=af
     have bR:=bj<|aF.out.kept rG.out;have cH:i=ne:=af
     clear aF b5 aH;obtain⟨wC,bW⟩:∃z:aa,z=wr:=⟨_,rfl⟩;subst bW;have bG:Hid (wC.grownBy wC none):=aw _ _;go_wp2_with fail
     go_loopw[13,15] (λov iv wx=>∃i:Nat,i<=mo/\ov=.bool true/\iv=ah i/\Hid (wC.grownBy wx none)) (λ_ iv _=>mo-(intOf iv).toNat)
     case atStart=>exact⟨0,af,rfl,rfl,bG⟩
     case round=>
      clear bG;obtain⟨q,hq,rfl,rfl,a3⟩:=hrel;have a0:=bj<|bR.out.kept a3.out;by_cases cL:q<mo
      .have bM:(q:Int)<(mo:Int):=af
       have a5:Full wr ob 169 (mo*2) (mo*2) (oC il):=a0.out.at 6 (X:=.full ob 169 (mo*2)<|oC il) rfl;have o0:=a5.cell (q*2) af;have o1:=a5.cell (q*2+1) af;rw[Ij]at o0;rw[Ii]at o1;have aS:=a5.lt;clear a5;by_cases cD:q<iB
       .have bL:(q:Int)<(iB:Int):=af
        obtain⟨y,hy⟩:∃y,il[q]?=some y:=⟨_,bw (by rw[<-W.out];exact cD)⟩;have hg:il.getD q (77,0)=y:=by rw[cw,hy];rfl
        rw[hg]at o0 o1;obtain⟨a,rfl⟩:∃a,Z=some a:=by
         cases Z with
         |none=>rw[HI.out.2.2.2.1 rfl]at hy;simp at hy
         |some a=>exact⟨a,rfl⟩
        obtain⟨z1,z2,z3⟩:=HI.out.cell a0.out.b rfl hy;have z4:wr.cell? (az ((a.add<|q*2).block)<|(a.add<|q*2).off+1)=some (dz (y.2:Int)):=by
         rw[<-D.nu a (q*2) 1]at z3;exact z3
        have H:wr.heap[sb]?=some (.cells #[ah kind,ah hh,ah ticks,.slice (some a) iB ic] 76 (0,0)):=a0.out.at 13 (X:=I4 sb kind hh ticks (some a) iB ic) rfl;obtain⟨_,_,_,b3,a9⟩:=jc H;clear H z3 hy hg;go_wp2_with fail
        go_quiet (fail)
        go_wp2_with fail
        go_roundw
        case rel=>exact⟨q+1,af,eG,iI,⟨a3.out.os,a3.out.tape,a3.out.output,a3.out.size,a3.out.block⟩⟩
        case measure=>simp[intOf];omega
       have bL:¬((q:Int)<(iB:Int)):=af
       have hg:il.getD q (77,0)=(77,0):=by rw[cw,dO (by rw[<-W.out];omega)];rfl
       rw[hg]at o0 o1;clear hg;have cM:wr.cell? (az ob<|q*2+1)=some (dz 0):=o1;clear o1;go_wp2_with fail
       go_roundw
       case rel=>exact⟨q+1,af,eG,iI,a3⟩
       case measure=>simp[intOf];omega
      have bM:¬((q:Int)<(mo:Int)):=af
      have aO:=bj<|Mp (n:=n) (Ev:=yz n (.slice ra.1 E.length ra.2) itv) (a0.out.at 7 (X:=.full bk 81 3<|yz n (.slice ra.1 E.length ra.2) itv) o.out.2.2.2.2.1) rfl rfl (a0.out.at 8 (X:=.row 119 2 ra.1 E.length ra.2<|jg E) o.out.2.2.2.2.2.1) (a0.out.at 12 (X:=.row 48 3 a6 u.ev.length c6<|nB u.ev) rfl) hn hE (gD bB.out);rw[<-aV.out]at aO;go_wp2_with fail
      refine dq aO ?_;rintro w9 ⟨Q,xq,bZ,bV,hQ,aW,b8⟩;have bP:=bj b8;have HQ:=bj hQ;have cC:=bj aW;clear b8 aO hQ aW;go_wp2_with fail
      go_ret;refine⟨rfl,{x with s:=u.nC,g:=g6,m:=m7,h:=h7},(bZ,bV),Q.map<|λy=>(y,-((n:Int)+1)),rfl,rfl,aI.out.1,⟨J.out.next aA.out.1 aA.out.2 a2.out HI.out.2.2.1 bX aI.out.2 g6 h7,rfl,(xv a2.out).1,by rw[J.out.pd.wk];exact(xv a2.out).2.1⟩,eZ eD HQ.out,λy hy=>?_,?_⟩
      .obtain⟨z,hz,rfl⟩:=eX.1 hy;have h1:=(bP.out.q z hz).2.1;have h2:=cC.out;show z.2.1<=1000;omega
      have h1:=a0.out.take (r:=8) (l:=10) (P:=oI) (sz:=3) (T:=48) (T':=119) ⟨eo,eo,eo⟩ ⟨eo,eo⟩ o.out.2.2.2.2.1 o.out.2.2.2.2.2.1 o.out.2.2.2.2.2.2.1 (show _=Ob.row 48 3 a6 u.ev.length c6 (nB u.ev) from rfl) rfl eo eo eo (by rw[<-aV.out];exact bP.out);rw[Ec]at h1;have h2:=(h1.drop 13).CG 6 (X:=.Ac ob 169<|mo*2) (dx _ _) (by
       obtain⟨c,k1,k2,_⟩:Full w9 ob 169 (mo*2) (mo*2) (oC il):=h1.at 6 (X:=.full ob 169 (mo*2)<|oC il) rfl;exact⟨c,k1,k2⟩)<|λk hk=>ag hk
      refine h2.eq<|λi=>?_;by_cases hi:i<14
      .rcases AL hi with rfl|rfl|rfl|rfl|rfl|rfl|rfl|rfl|rfl|rfl|rfl|rfl|rfl|rfl<;>first|rfl|exact o.out.2.2.2.1|exact o.out.2.2.2.2.2.2.2.1|exact o.out.2.2.2.2.2.2.2.2
      repeat rw[iN _ _ af]
theorem Eb(n:Nat)(a b c:Value):eE (eE (yz n a b) 0<|ah<|(n:Int)+1) 2 c=yz (n+1) a c:=by
 funext j
 unfold eE yz;grind
def lN{b:Nat}{T:TypeId}(h:w.heap[b]?=some (.cells #[x,y] T (0,0))):w.cell? (az b 0)=some x/\w.cell? (az b 1)=some y/\b<w.heap.size:=⟨fj h,fj h,ch h⟩
theorem jH.ask{O:Nat->Ob}(h:jH w0 O w)(e0:O 0=.BF p s g mb)(e:Ak p s g mb w s g w'):jH w0 O w':=by
 have u:(O 0).bs=λk=>eJ p s g k\/k=mb:=kh e0
 refine(h.CG 0 (X:=.BF p s g mb) (w':=w') (eZ u e.o) e.m<|λk y=>ag ey).eq<|λi=>?_;grind[kx,iN]
theorem jH.OW{O:Nat->Ob}{n c:Nat}{a:Option Addr}{xs:List Value}(h:jH w0 O w)(e0:O 0=.BF p s g mb)(y:Ak p s g mb w s g w')(W:w'.ownsRow w.heap.size 3 1 (.slice a n c) n xs):jH w0 (gi O 12<|.row 3 1 a n c xs) w':=by
 have H:(O 0).bs=λk=>eJ p s g k\/k=mb:=kh e0
 have u:=λk e=>(dR W k<|eZ dJ e).1;have Z:=h.split 0 12 eo (X:=.BF p s g mb) (Y:=.row 3 1 a n c xs) (w':=w') (eZ H y.o) y.m (ib W<|di _) (λk e=>ag ey) (λk e=>ak<|u k e) (λk e G=>by
  have h2:=u k G;have h3:=h.lt (i:=0)<|eZ H e;omega)
 grind[kx,iN,F.jH.eq]
theorem Kv{n c:Nat}{ad:Option Addr}{l:List Nat}{j v:Nat}(h:w.ownsRow i 3 1 (.slice ad n c) n (l.map<|λt:Nat=>Value.int .i64 t))(o:l[j]?=some v):∃b,ad=some (az b 0)/\b<w.heap.size/\w.cell? (az b j)=some (ah v):=by
 have u:=(cf.1 o).1;have hn:n≠0:=λe=>by
  have:=h.1;grind
 let⟨b,J,G⟩:=ef h hn;injection G with H _ y;subst H y;exact⟨b,rfl,(dR h b rfl).2.1,mN h ey⟩
def GO(O:Nat->Ob)(bk n:Nat)(J:List (Sl×Int))(evv:Value)(w0 w':aa):Prop:=∃(rb:Option Addr×Nat) (Q:List (Sl×Int)),Q.length=4/\(∀y,y∈Q->y.1.2.1<=600000000) /\
 jH w0 (gi (gi (gi O 7<|.full bk 81 3<|yz (n+1) evv<|.slice rb.1 (J++Q).length rb.2) 9<|.row 121 2 rb.1 (J++Q).length rb.2<|jg<|J++Q) 11<|.lists 3 1 tL<|J++Q) w'
theorem Ia{O:Nat->Ob}{x:pU}{n:Nat}{rb:Option Addr×Nat}{J:List (Sl×Int)}{evv:Value}(hf:jH w0 O w)(e0:O 0=.BF x.p x.s x.g x.mb)(e1:O 1=.doc x.d x.m x.h)(e2:O 2=.one x.pb (.cells #[P0 x.mb,P0 x.h.mb] 74 (0,0)))(e7:O 7=.full bk 81 3 (yz n evv<|.slice rb.1 J.length rb.2))(e9:O 9=.row 121 2 rb.1 J.length rb.2 (jg J))(aK:O 11=.lists 3 1 tL J)(aG:O 12=.nil)(hG:x.Good I)(a5:(x.s.q 2 0).length<=100000000)(hn:n<=1000000000)(hJ:J.length<=100000000):dC 50 #[P0 bk,P0 x.pb] w (.bool true) λw'=>GO O bk n J evv w0 w':=by
 have o:=bj<|bh e0<|bh e1<|bh e2<|bh e7<|bh e9<|bh aK aG;have HF:=bj hf;have hM:rf x.p x.s x.g x.mb w:=hf.at 0 e0;have a3:=bj hM.queue;have H:w.heap[x.pb]?=some (.cells #[P0 x.mb,P0 x.h.mb] 74 (0,0)):=hf.at 2 e2;obtain⟨p0,p1,aM⟩:=lN H;have W:Hid (x.m.q=x.s.q 2 0):=by
  obtain⟨ρ,hS⟩:=hG.J9;exact hS.q
 obtain⟨l,hl⟩:∃l,l=x.s.q 2 0:=⟨_,rfl⟩;rw[<-hl]at a5 a3 W;clear e0 e1 e2 e7 e9 aK aG hG hf hM H hl;obtain⟨nq,a7⟩:∃nq,nq=l.length:=⟨_,rfl⟩;rw[<-a7]at a5 a3;have a6:=bj a7;clear a7;delta dC;go_in;go_wp2_with fail
 refine dq a3 ?_;rintro w1 ⟨a4,aA⟩;have G:=bj<|HF.OW o.1 aA a4;have a0:Hid (D.dZ x.d x.m x.h w1):=G.at 1 o.2.1;have H:w1.heap[x.pb]?=some (.cells #[P0 x.mb,P0 x.h.mb] 74 (0,0)):=G.at 2 o.2.2.1;obtain⟨r0,r1,aR⟩:=lN H;have c7:dW w1 x.h.mb 7=some (.slice (x.h.ro 2 0).1 nq (x.h.ro 2 0).2):=by
  have:=(a0.mc 7 af (v:=.slice (x.h.ro 2 0).1 x.m.q.length (x.h.ro 2 0).2) rfl).1;rw[W.out,<-a6.out]at this;exact this
 have u:Hid (gj w1 3 (.slice (x.h.ro 2 0).1 nq (x.h.ro 2 0).2)<|D.ke l):=by
  have:=a0.Q;have e:D.js x.m x.h 2 0=.slice (x.h.ro 2 0).1 nq (x.h.ro 2 0).2:=by rw[a6.out,<-W.out];rfl
  rw[e,W.out]at this;exact this
 obtain⟨a2,aF⟩:∃a2,a2=(x.h.ro 2 0).1:=⟨_,rfl⟩;obtain⟨c2,aH⟩:∃c2,c2=(x.h.ro 2 0).2:=⟨_,rfl⟩;rw[<-aF,<-aH]at c7 u;have a8:=bj<|ib a4<|di _;clear a4 aA H a3 HF p0 p1 aM aF aH a0;obtain⟨a1,aI⟩:∃a1:Option Addr,a1=some (az w.heap.size 0):=⟨_,rfl⟩;(try simp only[dD,az]at G a8⊢);rw[<-aI]at G a8⊢;clear aI;go_wp2
 go_loopw[7,8] (λov iv wx=>∃i:Nat,i<=nq/\ov=.bool true/\iv=ah i/\Hid (w1.grownBy wx none)) (λ_ iv _=>nq-(intOf iv).toNat)
 case atStart=>exact⟨0,af,eG,rfl,aw _ _⟩
 case round=>
  obtain⟨i,hi,rfl,rfl,Z⟩:=hrel;by_cases aN:i<nq
  .have aD:(i:Int)<nq:=af
   obtain⟨v,hv⟩:∃v,l[i]?=some v:=⟨_,bw (by rw[<-a6.out];exact aN)⟩;obtain⟨ba,rfl,k2,k3⟩:=Kv a8 hv;have lr:=Z.size;have d0:=(ay Z (a:=az ba i) k2).1.trans k3;obtain⟨bb,oo,aP,aJ,aQ⟩:∃bb oo,a2=some (az bb oo)/\dW w1 bb (oo+i)=some (ah v)/\bb<w1.heap.size:=by
    cases a2 with
    |none=>
     rcases u with⟨_,h⟩|⟨g,off,cap,n',P,h,_⟩
     .grind
     cases h
    |some a=>
     rcases id u with⟨h,_⟩|⟨g,off,cap,n',P,h,_⟩
     .cases h
     injection h with h _ _;injection h with h;subst h;exact⟨g,off,rfl,u.cell.2 i _ (by unfold D.ke;rw[fB,hv];rfl),u.lt g rfl⟩
   subst aP;have f0:=(ay Z (a:=az bb<|oo+i) aQ).1.trans aJ
   go_wp2
   go_quiet (fail)
   go_wp2
   go_roundw
   case rel=>exact⟨i+1,af,eG,iI,⟨Z.os,Z.tape,Z.output,Z.size,Z.block⟩⟩
   case measure=>simp[intOf];omega
  have aD:¬((i:Int)<nq):=af
  have Y:=bj<|G.kept Z;go_wp2_with fail
  refine dq (bj<|Mo (n:=n) (Ev:=yz n evv<|.slice rb.1 J.length rb.2) (Y.at 7 (X:=.full bk 81 3<|yz n evv<|.slice rb.1 J.length rb.2) o.2.2.2.1) rfl rfl (Y.at 9 (X:=.row 121 2 rb.1 J.length rb.2<|jg J) o.2.2.2.2.1) (Y.at 12 (X:=.row 3 1 a1 nq nq<|l.map<|λt:Nat=>Value.int .i64 t) rfl) hn hJ a5) ?_;rintro w9 ⟨Q,xq,aL,aO,hQ,aE,aB⟩;have a9:=bj aB;go_wp2
  go_ret;refine⟨rfl,(aL,aO),Q.map<|λy=>(y,-((n:Int)+1)),by rw[eD];exact(bj<|bh hQ aE).out.1,λy hy=>?_,?_⟩
  .obtain⟨z,hz,rfl⟩:=eX.1 hy;have h1:=(a9.q z hz).2.1;show z.2.1<=_;omega
  have h1:=Y.take (r:=9) (l:=11) (P:=tL) (sz:=1) (T:=3) (T':=121) ⟨eo,eo,eo⟩ ⟨eo,eo⟩ o.2.2.2.1 o.2.2.2.2.1 o.2.2.2.2.2.1 (show _=Ob.row 3 1 a1 nq nq (l.map<|λt:Nat=>Value.int .i64 t) from rfl) rfl eo eo eo a9;rw[Eb]at h1;refine h1.eq<|λi=>?_;by_cases hi:i<14
  .rcases AL hi with rfl|rfl|rfl|rfl|rfl|rfl|rfl|rfl|rfl|rfl|rfl|rfl|rfl|rfl<;>first|rfl|exact o.2.2.2.2.2.2
  repeat rw[iN _ _ af]
