import Derived.Test.YtnjiinbhbjpfkaaGreatDoorTx
import Derived.Test.YtnjiinbhbjpfkaaGreatDoorTv
import Derived.Test.YtnjiinbhbjpfkaaGreatDoorTi
import Derived.Test.YtnjiinbhbjpfkaaGreatDoorTq
set_option maxRecDepth 100000
set_option maxHeartbeats 0
set_option linter.all false
namespace Go.Proofs.YtnjiinbhbjpfkaaGreatDoor
open Go.RowKit Go.Proofs.Tryz
namespace D
open F
variable {p:dL}{d:Dp}{K:Nat}{s s':Pl}{m m':Dm}{g g':Dg}{w w':aa}{ρ:Nat → Nat}
theorem dZ.NM{p:Dp}(h:dZ p m g w):Tr p m g w m.ns (g.at 4 0 (none,0)) (w.setCell (ay g.mb 15) (.slice none 0 0)):=by
 refine h.Cc 4 0 (oQ ag) ag (λ_ _ _=>rfl) (bp (S:=λk=>k=g.mb\/(ok p m g 4 0 0).bs k) (a:=ay g.mb 15) (dw _ _) (af (af rfl)) _) (λx y z H Y W=>ok_eq (e0:=λe=>dp e Y) (er:=λZ=>?_) (eq:=λe=>by rcases e with rfl|rfl<;>exact⟨rp g _ ag,rfl,rfl⟩) (hx:=l9 H)) ((h.M.eC 15 _).congr (λi hi=>?_)) ?_ (λk J=>?_)
 .have u:¬(x=4/\y=0):=λe=>W ⟨e.1,e.2,(kS H ag).2⟩;have o:x≠4:=λe=>u ⟨e,(kS H ag).1⟩;refine⟨rp g _ u,?_,?_⟩
  .unfold sg;rw[au o,au o];rfl
  rw[AZ _ _ _ _ ek];unfold rC;rw[au o,au o];rfl
 .unfold eC;by_cases e:i=15
  .subst e;rw[bf rfl];show _=Value.slice ((g.at 4 0 (none,0)).ro 4 0).1 0 ((g.at 4 0 (none,0)).ro 4 0).2;rw[wv]
  rw[au e,Be p m.ns g _ 15 ag i e];unfold mE;rw[au e,au e];rfl
 .show World.ownsRow _ 0 48 3 (.slice ((g.at 4 0 (none,0)).ro 4 0).1 0 ((g.at 4 0 (none,0)).ro 4 0).2) 0 (mA []);rw[wv];exact eg _ _ _ _
 have G:fi ((g.at 4 0 (none,0)).ro 4 0).1=some k:=J;rw[wv]at G
 cases G
theorem dZ.Jj{p:Dp}(h:dZ p m g w)(c:Int):Tr p m g w (m.gr c) g (w.setCell (ay g.mb 5) (aj c)):=h.yh 5 _ ⟨rfl,rfl,rfl,rfl,rfl,rfl,rfl,rfl⟩ (λi hi=>by
 have e:=oU 23 i ag;rcases e with rfl|rfl|rfl|rfl|rfl|rfl|rfl|rfl|rfl|rfl|rfl|rfl|rfl|rfl|rfl|rfl|rfl|rfl|rfl|rfl|rfl|rfl|rfl|rfl<;>rfl)
theorem J2{c:Dc}{n N a b:Nat}(h:GA c n)(y:c.fu=false->c.bg=false->N<=n):GA (c.tv a b N) n:=by
 obtain⟨o,u,i⟩:=h;unfold Dc.tv
 cases hf:c.fu with
 | true=>rw[bf rfl];exact⟨o,u,i⟩
 | false=>
  rw[au ek];have e:GA ((c.Ib a N).F2 b) n:=by
   unfold Dc.F2 Dc.Ib
   cases e:c.bg with
   | true=>rw[bf rfl];exact⟨o,u,i⟩
   | false=>rw[au ek];exact⟨o,y hf e,i⟩
  unfold Dc.fin;split
  .exact⟨e.1,e.2.1,e.2.1⟩
  exact e
section
variable (p d K m g w ρ)
def Kl(fin:Pl)(ys:List (Int×Nat))(w1:aa):Prop:=∃s1 m1 g1,Tr d m g w m1 g1 w1/\eF p K s1 m1 ρ/\Ok p s1/\Ng s1/\s1.nt≠0/\s1.fh ys=fin/\∀x,x∈ys->x.2<256
def N2(fin:Pl)(n:Nat)(w1:aa):Prop:=∃s1 m1 g1,(s1.q 3 0).length=n/\Tr d m g w m1 g1 w1/\eF p K s1 m1 ρ/\Ok p s1/\Ng s1/\s1.nt≠0/\s1.iD (s1.q 3 0)=fin
def Kz(fin:Pl)(n B:Nat)(w1:aa):Prop:=∃s1 m1 g1,(s1.q 3 0).length=n/\Tr d m g w m1 g1 w1/\eF p K s1 m1 ρ/\Ok p s1/\Ng s1/\s1.nt≠0/\s1.iD (s1.q 3 0)=fin/\((B=0/\fin=s1)\/(B≠0/\∃l,s1.q 3 0=B :: l/\(s1.T B).iM<=s1.clk))
def FT(s3:Pl)(w1:aa):Prop:=∃m1 g1 ρ1,Tr d m g w m1 g1 w1/\eF p (K+p.qn) s3 m1 ρ1
def MF(s3:Pl)(v:Value)(w1:aa):Prop:=∃m1 g1 ρ1,Tr d m g w m1 g1 w1/\eF p (K+p.qn) s3 m1 ρ1/\(v=je m1 g1 4 0\/(v=.slice none 0 0/\m1.ev=[]))
end
variable {fin s3:Pl}{n B:Nat}{w1 w2:aa}{ys:List (Int × Nat)}{x:Int × Nat}
theorem On(hP:PD p d)(h:Kl p d K m g w ρ fin (x :: ys) w1):eL 142 #[P0 g.mb,.agg #[aj x.1,dy x.2]] w1 λw'=>Kl p d K m g w ρ fin ys w':=by
 obtain⟨s1,m1,g1,u,a2,J,a4,W,Y,H⟩:=h;have o:=H x eB;have hI:=JR (z:=x.1) (y:=x.2) hP u.r a2 J o W;rw[u.b]at hI;refine du hI ?_;rintro w' ⟨m',g',Z,h2⟩;have G:Ok p (s1.recv x)/\Qu s1 (s1.recv x):=by
  have:=nS [x] (s:=s1) (λy i=>by grind) J;exact this
 exact⟨rfl,s1.recv x,m',g',u.trans Z,h2,G.1,Ng.fh [x] (λy i=>by grind) a4,eV G.2.nt W,Y,λy i=>H y (by simp[i])⟩
theorem Mn(h:N2 p d K m g w ρ fin n w1):Calls prog 143 #[P0 g.mb] w1 λe w'=>∃B:Nat,e=.returned (aj B)/\Kz p d K m g w ρ fin n B w':=by
 obtain⟨s1,m1,g1,a0,i,o,y,W,H,u⟩:=h;have G:=NJ i.r (eV o.nt H);rw[i.b]at G;refine G.mono ?_;rintro e w' ⟨B,rfl,_,J,Z⟩;refine⟨B,rfl,s1,m1,g1,a0,i.kept Z,o,y,W,H,u,?_⟩;rcases o.due y J with⟨e,Y⟩|⟨e,l,hl,ht⟩
 .refine af ⟨e,?_⟩;rw[<-u]
  cases hq:s1.q 3 0 with
  | nil=>rfl
  | cons a l=>
   show(if(s1.T a).iM<=s1.clk then _ else s1)=s1;grind
 grind
theorem EL{t:Nat}{l:List Nat}(u:Ok p s)(i:s.q 3 0=t :: l):(s.dY 2 0 t).q 3 0=l:=by
 show((s.dz t).fF 2 0 ((s.dz t).q 2 0++[t])).q 3 0=l;rw[fY _ _ ag,gJ ((u.lw.b 3 0 (ah (af ⟨rfl,rfl⟩)) t eR).2)];show(s.fF 3 0 ((s.q 3 0).erase t)).q 3 0=l;grind[gH]
theorem LA{b:Nat}(h:Kz p d K m g w ρ fin n (b+1) w1):∃tb nt cap v,w1.cell? ⟨g.mb,6,none⟩=some (.slice (some ⟨tb,0,none⟩) nt cap)/\b<nt/\nt<1000000000/\w1.cell? ⟨tb,b*8+2,none⟩=some v/\w1.frozen? ⟨tb,b*8+2,none⟩=false/\g.mb≠tb /\ eL 144 #[P0 g.mb,aj ((b:Int)+1),.agg #[aj 0,aj 0]] (w1.setCell ⟨tb,b*8+2,none⟩ (aj (-1))) λw'=>∃k,k+1=n/\N2 p d K m g w ρ fin k w':=by
 obtain⟨s1,m1,g1,a0,u,J,o,a4,a5,a6,a7⟩:=h;obtain⟨_,l,W,ht⟩:b+1≠0/\∃l,s1.q 3 0=(b+1) :: l/\(s1.T (b+1)).iM<=s1.clk:=a7.resolve_left (λe=>by omega);have G:fN s1 3 0:=ah (af ⟨rfl,rfl⟩);have hm:b+1∈s1.q 3 0:=by rw[W];simp
 have y:=o.ql 3 0 G _ hm;obtain⟨Y,a9⟩:=o.lw.b 3 0 G _ hm;have i:=(iG J (b+1)).2 Y;obtain⟨tb,e1,hT,tc⟩:=u.r.tc i;have c6:w1.cell? ⟨g.mb,6,none⟩=some (.slice (some ⟨tb,0,none⟩) m1.nt (g1.ro 1 0).2):=by
  rw[show some (⟨tb,0,none⟩:Addr)=(g1.ro 1 0).1 by rw[e1],<-u.b];exact(u.r.mc 6 ag rfl).1
 obtain⟨t2,z2⟩:=tc.c 2 ag;rw[dC]at t2 z2;have Z:=u.r.sK (t:=b+1) i e1 2 ag (aj (-1)) (x':={ m1.T (b+1) with into:=-1 }) rfl (λj hj=>by
  have hc:j=0\/j=1\/j=2\/j=3\/j=4\/j=5\/j=6\/j=7:=ag;rcases hc with rfl|rfl|rfl|rfl|rfl|rfl|rfl|rfl<;>rfl)
 rw[dC]at Z;have hR:=zV (t:=b+1) (0,0) Z.r i (J.small o).1 (J.small o).2 (λe=>by
  grind[gi])
 rw[u.b,show(((b+1:Nat)):Int)=(b:Int)+1 by omega]at hR;refine⟨tb,m1.nt,(g1.ro 1 0).2,_,c6,ag,(J.small o).1,t2,z2,(by rw[<-u.b];exact u.r.M.ne hT ek),hR.mono ?_⟩;rintro e w' ⟨rfl,g',h3⟩
 have H:=EL o W;refine⟨rfl,l.length,eR,s1.dY 2 0 (b+1),_,g',by rw[H],(u.trans Z).trans h3,J.Nb o y eR rfl (0,0),o.dY y,a4.join 2 0 _,by grind[iF],?_⟩;rw[H,<-a6,W];show _=if(s1.T (b+1)).iM<=s1.clk then(s1.dY 2 0 (b+1)).iD l else s1
 grind
theorem Na{t:Nat}{r:List Nat}(hP:PD p d)(hG:∀f,f<p.nf->2<=p.rg f/\p.rg f<=8)(hPI:PI p)(hK:K+p.qn<900000000)(h:Kz p d K m g w ρ fin n 0 w1)(hn:fin.nt+p.qn<=500000000)(he:fin.ev=[])(aH:p.qn<=50)(W:fin.q 2 0=t :: r)(hf:iS p fin s3): ∃b off cap,w1.cell? (ay g.mb 7)=some (.slice (some (ay b off)) (r.length+1) cap)/\w1.frozen? (ay g.mb 7)=false/\r.length+1<=cap/\r.length<1000000000/\b≠g.mb/\w1.cell? (ay b off)=some (aj t) /\ eL 145 #[P0 g.mb,aj t] (w1.setCell (ay g.mb 7) (.slice (some (ay b (if cap=1 then off else off+1))) r.length (cap-1))) λw'=>FT p d K m g w s3 w':=by
 obtain⟨s1,m1,g1,a0,y,a2,J,a4,a5,a6,a7⟩:=h;have a8:fin=s1:=by
  rcases a7 with e|e
  .grind
  exact dp rfl e.1
 subst a8;have u:m1.q=t :: r:=by rw[a2.q,W]
 have hQ:=y.r.Q;have aF:jJ m1.q=jk (t:Int) :: jJ r:=jx u
 rw[aF]at hQ;obtain⟨b,off,e1,e2,e3,e4,e5,e6⟩:=gd.tail hQ;rw[jC]at e2 e3 e6;have i:=y.b;have aD:(ok d m1 g1 2 0 0).bs b:=by
  show fi (g1.ro 2 0).1=some b;rw[e1];rfl
 have H:b≠g.mb:=by rw[<-i];exact y.r.ne (x':=0) (y':=0) (z':=0) (oQ ag) rfl aD rfl ag
 have c7:=y.r.mc 7 ag (v:=.slice (g1.ro 2 0).1 m1.q.length (g1.ro 2 0).2) rfl;rw[i,e1,u]at c7;have hS:=Tr.fF y (l:=r) (r:=(some (ay b (if(g1.ro 2 0).2=1 then off else off+1)),(g1.ro 2 0).2-1)) (w':=w1.setCell (ay g1.mb 7) (.slice (some (ay b (if(g1.ro 2 0).2=1 then off else off+1))) r.length ((g1.ro 2 0).2-1))) (bp (S:=λk=>k=g1.mb\/fi (g1.ro 2 0).1=some k) (a:=ay g1.mb 7) (dw _ _) (af (af rfl)) _) (y.r.M.eC 7 _) (e6.block (λj hj=>ab _ _ _ _ (by
   have:j=b:=by simpa[Value.ownBlock] using hj.symm
   rw[this,i];exact H))) (λj hj=>af (by
   rw[e1];exact hj))
 have o:=J.ql 2 0 (af ⟨rfl,rfl⟩) t (by rw[W];simp);have aE:Ok p (fin.start t):=J.start o
 obtain⟨o1,_,_,o4,_⟩:=g8 fin t;have Y:(fin.start t).nt=fin.nt:=gg fin t;have aA:(fin.start t).ev=[]:=by show(fin.dz t).ev=[];rw[o4];exact he
 unfold iS at hf;rw[W]at hf;obtain⟨s2,r1,r2⟩:=hf;have hD:=M9 hP hG hPI hK (eV Y hn) (by rw[aA];show 0+p.qn<=100000;omega) hS.r (a2.start J o W) (⟨aE,by show t∈(fin.dz t).lv;rw[o1];exact o,by unfold Pl.start;rw[di]⟩) (a4.start t) r1;rw[show(g1.at 2 0 (some (ay b (if(g1.ro 2 0).2=1 then off else off+1)),(g1.ro 2 0).2-1)).mb=g.mb from i,i]at hD;refine⟨b,off,(g1.ro 2 0).2,c7.1,c7.2,e3,?_,H,e5,hD.mono ?_⟩
 .have:=(a2.small J).2;rw[u]at this;have h9:r.length+1<=1000000000:=this;omega
 rintro e w' ⟨rfl,m',g',ρ',h1,h2⟩;rw[i]at hS;exact⟨rfl,m',g',ρ',hS.trans h1,eV r2 h2⟩
theorem FT.of(h:Kz p d K m g w ρ fin n 0 w1):FT p d K m g w fin w1:=by
 obtain⟨s1,m1,g1,W,u,y,J,Y,H,G,o⟩:=h;have i:fin=s1:=by
  rcases o with e|e
  .grind
  exact dp rfl e.1
 rw[i];exact⟨m1,g1,ρ,u,y.mono ag⟩
theorem J3(hP:PD p d)(hG:∀f,f<p.nf->2<=p.rg f/\p.rg f<=8)(hK:K+p.qn<900000000)(i:d.n<=1000000)(h:FT p d K m g w s3 w1)(W:Ok p s3)(hn:s3.nt≠0):eL 146 #[P0 g.mb] w1 λw'=>FT p d K m g w s3 w':=by
 obtain⟨m1,g1,ρ1,o,u⟩:=h;have G:=u.mU W hP hG hK hn;have y:=Fl o.r G i;rw[o.b]at y;refine du y ?_;rintro w' ⟨N,Y,J⟩;exact⟨rfl,_,g1,ρ1,o.trans J,u.iY (J2 u.A (λZ H=>(Y Z H).le G))⟩
theorem FT.sp(h:FT p d K m g w s3 w1):w1.cell? (ay g.mb 14)=some (.bool s3.sp):=by
 obtain⟨m1,g1,ρ1,e,i⟩:=h;have:=(e.r.mc 14 ag rfl).1;rw[e.b]at this;rw[<-i.sp];exact this
theorem FT.out(h:FT p d K m g w s3 w1):∃v,w1.cell? (ay g.mb 15)=some v/\MF p d K m g w (s3.jr p) v w1:=by
 obtain⟨m1,g1,ρ1,e,i⟩:=h;have:=(e.r.mc 15 ag rfl).1;rw[e.b]at this;exact⟨_,this,m1,g1,ρ1,e,i.vk _,af rfl⟩
end D
namespace D
open F
variable {p:dL}{d:Dp}{K:Nat}{s s':Pl}{m m':Dm}{g g':Dg}{w w':aa}{ρ:Nat → Nat}
theorem mT(a:Addr)(m n:Nat):(a.add m).add n=a.add (m+n):=by
 grind[Addr.add,Nat.add_assoc]
theorem zr(a:Addr)(m:Nat):(a.add m).block=a.block:=by grind[Addr.add]
def NX(w:aa)(ad:Option Addr)(n:Nat)(l:List (Int×Nat))(F:Nat->Prop):Prop:=
 n=l.length/\n<=1000000000/\(∀x,x∈l->x.2<256)/\(ad=none->l=[])/\∀a,ad=some a->l≠[]->a.block<w.heap.size/\¬F a.block/\∀j x,l[j]? = some x->w.cell? (a.add (j*2))=some (.int .i64 x.1)/\w.cell? (a.add (j*2+1))=some (.int .u8 (x.2:Int))
theorem Kl.cell{fin:Pl}{ys l:List (Int×Nat)}{J:Nat}{a:Addr}{w1:aa}(h:Kl p d K m g w ρ fin ys w1)(hI:NX w (some a) J l (eH d m g)){j:Nat}{x:Int×Nat}(i:l[j]? = some x):w1.cell? (a.add (j*2))=some (aj x.1)/\w1.cell? (a.add (j*2+1))=some (dy x.2):=by
 obtain⟨_,_,_,_,W⟩:=hI;obtain⟨s1,m1,g1,Y,_⟩:=h
 obtain⟨H,G,y⟩:=W a rfl (λe=>by grind);have e:=Y.o.same H G;grind[World.cell?_of_block,zr]
theorem LD{fin:Pl}{n:Nat}{w1:aa}(h:Kz p d K m g w ρ fin n 0 w1):∃ad cap,w1.cell? (ay g.mb 7)=some (.slice ad (fin.q 2 0).length cap):=by
 obtain⟨s1,m1,g1,Y,o,y,H,J,W,G,u⟩:=h;have i:fin=s1:=by
  rcases u with e|e
  .grind
  exact dp rfl e.1
 rw[i,<-y.q,<-o.b];exact⟨_,_,(o.r.mc 7 ag (v:=.slice (g1.ro 2 0).1 m1.q.length (g1.ro 2 0).2) rfl).1⟩
theorem K7{ticks:Int}{l:List (Int×Nat)}{ad:Option Addr}{n0 c0:Nat}(hP:PD p d)(hG:∀f,f<p.nf->2<=p.rg f/\p.rg f<=8)(hPI:PI p)(hK:K+p.qn<900000000)(bA:d.n<=1000000)(h:dZ d m g w)(hS:eF p K s m.ns ρ)(hO:Ok p s)(hN:Ng s)(aG:s.ev=[])(aC:s.nt≠0)(hn:s.nt+p.qn<=500000000)(b3:p.qn<=50)(bC:-9223372036854775808<=ticks)(bP:ticks<=9223372036854775807)(hI:NX w ad n0 l (eH d m g))(hr:ku p s ticks l s'): Calls prog 75 #[P0 g.mb,aj ticks,.slice ad n0 c0] w λe w'=>∃v,e=.returned v/\MF p d K m g w s' v w':=by
 have T0:=h.NM;have aB:=B.xD (t:=ticks) hO.c0 hO.c1;have hC:Ok p (s.gr (B.iJ s.clk ticks)):=hO.gr aB.1 aB.2;obtain⟨aE,W⟩:=nS l hI.2.2.1 hC;obtain⟨aP,aJ⟩:=oX _ aE rfl;have aO:Ng ((s.gr (B.iJ s.clk ticks)).fh l):=Ng.fh l hI.2.2.1 hN.same;obtain⟨aF,cA⟩:=h.mc 15 ag (v:=je m g 4 0) rfl;obtain⟨aH,_⟩:=h.mc 14 ag (v:=.bool m.sp) rfl;have aA:m.sp=s.sp:=hS.sp;rw[aA]at aH;have cP:=h.M.lt;have cG:=hI.2.1;have bF:Hid (dD 77 #[P0 g.mb] (w.setCell (ay g.mb 15) (.slice none 0 0)) (aj s.lv.length) λw'=>(w.setCell (ay g.mb 15) (.slice none 0 0)).grownBy w' none):=by
  have h1:=Ez T0.r (by show m.nt≠0;have J:m.nt=s.nt:=hS.nt;rw[J];exact aC);rw[show(g.at 4 0 (none,0)).mb=g.mb from rfl]at h1;refine h1.mono ?_;rintro e w' ⟨N,rfl,_,bS,hg⟩;rw[hS.live hO bS];exact⟨rfl,hg⟩
 have bH:=bj T0;have HI:=bj hI;have HR:=bj hr;have Z:=bj (bh hP (bh hG (bh hPI (bh hK (bh bA (bh hS (bh hC (bh hN (bh aG (bh aC (bh hn b3)))))))))));have HY:=bj (bh aE (bh W (bh aP (bh aJ aO))));have bD:m.clk=s.clk:=hS.ck;have bM:Hid (∀w0:aa,dD 141 #[aj s.clk,aj ticks] w0 (aj (B.iJ s.clk ticks)) λw'=>w'=w0):=λw0=>EG s.clk ticks hO.c0 hO.c1 bC bP;have c4:=bj bD;clear T0 aB hC aE W aP aJ aO h hS hO hN aG aC hn b3 bC bP hI hr hP hG hPI bA bD aA;generalize bG:g.mb=mb at *;have y:=bj bG;clear bG;go_in;go_upto_region 2 with fail
 go_cut [7] (λq wx=>∃ov:Bool,q=.bool ov/\Hid ((ov=true↔(s.sp=true\/s.lv=[]))/\(w.setCell (ay mb 15) (.slice none 0 0)).grownBy wx none))
 case first=>
  cases aA:s.sp with
  | true=>
   have aU:=bj aA;rw[aA]at aH;go_wp2_with fail
   go_meet
   case rel=>exact⟨true,rfl,⟨λ_=>af aU.out,λ_=>rfl⟩,aw _ _⟩
  | false=>
   have aU:=bj aA;rw[aA]at aH;go_wp2_with fail
   refine du bF λw2 hg=>?_;have b9:=bj hg;clear hg;by_cases aN:s.lv=[]
   .go_wp2_with fail
    go_meet
    case rel=>exact⟨true,rfl,⟨λ_=>ah aN,λ_=>rfl⟩,b9.out⟩
   have bX:((s.lv.length:Int) == 0)=false:=by
    rw[dX];exact λe=>aN (db.1 ag)
   go_wp2_with fail
   go_meet
   case rel=>exact⟨false,rfl,⟨λe=>(by cases e),λe=>e.elim (λe=>by rw[aU.out]at e;cases e) (λe=>dp e aN)⟩,b9.out⟩
 case rest=>
  obtain⟨ov,rfl,aX⟩:=hcut;have aM:=bj (bH.out.kept aX.out.2);have aV:=bj aX.out.1;have bB:(g.at 4 0 (none,0)).mb=mb:=y.out;have c5:wc.cell? (ay mb 5)=some (aj s.clk)/\wc.frozen? (ay mb 5)=false:=by
   have J:=aM.out.r.mc 5 ag (v:=aj m.clk) rfl;rw[bB,c4.out]at J;exact J
  obtain⟨c5,z5⟩:=c5;have bN:Hid (Tr d m g w (m.ns.gr (B.iJ s.clk ticks)) (g.at 4 0 (none,0)) (wc.setCell (ay mb 5) (aj (B.iJ s.clk ticks)))):=by
   have J:=aM.out.trans (aM.out.r.Jj (B.iJ s.clk ticks));rw[bB]at J;exact J
  have l5:mb<wc.heap.size:=an wc _ c5;have aR:=bj (bM.out wc);clear aH aF cA bF aX bH aM bM;go_wp2_with fail
  refine du aR ?_;rintro w2 rfl;clear aR;generalize aB:B.iJ s.clk ticks=iJ at *;have bQ:=bj aB;clear aB;go_wp2_with fail
  have bR:Hid (Kl p d K m g w ρ ((s.gr iJ).fh l) l (w2.setCell (ay mb 5) (aj iJ))):=by
   obtain⟨_,_,_,_,_,hS,hC,hN,aG,aC,_,_⟩:=Z.out;exact⟨s.gr iJ,_,_,bN.out,hS.gr iJ,hC,hN.same,aC,rfl,HI.out.2.2.1⟩
  clear c5 z5;generalize w2.setCell (ay mb 5) (aj iJ)=w3 at *;go_loopw [8] (λi wr=>∃j:Nat,i=aj j/\j<=n0/\Hid (Kl p d K m g w ρ ((s.gr iJ).fh l) (l.drop j) wr)) (λi _=>n0-(intOf i).toNat)
  case atStart=>exact⟨0,rfl,ag,by show Kl p d K m g w ρ _ (l.drop 0) _;rw[List.drop_zero];exact bR.out⟩
  case round=>
   obtain⟨j,rfl,hj,rI⟩:=hrel;by_cases cM:j<n0
   .obtain⟨x,hx⟩:∃x,l[j]? = some x:=⟨_,bz (gp HI.out.1)⟩;obtain⟨a,rfl⟩:∃a,ad=some a:=by
     cases ad with
     | none=>rw[HI.out.2.2.2.1 rfl]at hx;simp at hx
     | some a=>exact⟨a,rfl⟩
    obtain⟨bE,c1⟩:=rI.out.cell HI.out hx;obtain⟨b2,b5⟩:=cf.1 hx;have bI:l.drop j=x :: l.drop (j+1):=by rw[<-b5];exact List.drop_eq_getElem_cons b2
    rw[bI]at rI;have b6:(j:Int)<n0:=ag
    have aQ:=bj (On Z.out.1 rI.out);rw[y.out]at aQ;obtain⟨z,b⟩:=x;simp only at bE c1 aQ;rw[<-mT]at c1;have c8:wr.cell? (ay ((a.add (j*2)).block) ((a.add (j*2)).off+1))=some (dy b):=c1;clear c1 hx b5 bI b2 rI;go_wp2_with fail
    refine du aQ λw4 bK=>?_;have bU:=bj bK;clear bK aQ bE c8;go_wp2_with fail
    go_roundw
    case rel=>exact⟨j+1,iA,ag,bU⟩
    case measure=>simp[intOf];omega
   obtain rfl:j=n0:=by omega
   have b6:¬((j:Int)<j):=ag
   have aZ:Hid (∃m1 g1,Tr d m g w m1 g1 wr/\eF p K ((s.gr iJ).fh l) m1 ρ):=by
    obtain⟨s1,m1,g1,a1,a2,a3,a4,a5,a6,a7⟩:=rI.out;rw[List.drop_of_length_le (gp HI.out.1)]at a6;have cC:s1=(s.gr iJ).fh l:=a6;rw[<-cC];exact⟨m1,g1,a1,a2⟩
   clear rI bR bN
   cases ov with
   | true=>
    go_wp2_with fail
    go_ret;obtain⟨m1,g1,a1,a2⟩:=aZ.out;have c9:=aV.out.1 (by first|exact rfl|trivial);obtain⟨aE,W,_,_,_⟩:=HY.out;have hr:=HR.out;unfold ku at hr;rw[bQ.out,au (λe=>by
     rcases c9 with J|J
     .have h8:=e.2;rw[W.sp]at h8;have h7:s.sp=false:=h8;rw[J]at h7;cases h7
     exact e.1 (eV W.lv J))]at hr
    obtain⟨_,_,_,_,_,_,_,_,aG,_,_,_⟩:=Z.out;refine⟨_,rfl,m1,g1,ρ,a1,?_,ah ⟨rfl,?_⟩⟩
    .rw[hr];exact a2.mono ag
    rw[a2.ev,W.ev];exact aG
   | false=>
    have bY:Hid (∃s2,iS p (((s.gr iJ).fh l).iD (((s.gr iJ).fh l).q 3 0)) s2/\s'=s2.jr p):=by
     have hr:=HR.out;unfold ku at hr;obtain⟨aE,W,_,_,_⟩:=HY.out;have hA:((s.gr iJ).fh l).lv≠[]:=λe=>by
      have J:=aV.out.2 (ah (by rw[W.lv]at e;exact e))
      cases J
     have hB:((s.gr iJ).fh l).sp=false:=by
      cases aA:((s.gr iJ).fh l).sp with
      | false=>rfl
      | true=>
       have J:=aV.out.2 (af (by rw[W.sp]at aA;exact aA))
       cases J
     rw[bQ.out,bf ⟨hA,hB⟩]at hr;exact hr
    have b8:Hid (N2 p d K m g w ρ (((s.gr iJ).fh l).iD (((s.gr iJ).fh l).q 3 0)) (((s.gr iJ).fh l).q 3 0).length wr):=by
     obtain⟨m1,g1,a1,a2⟩:=aZ.out;obtain⟨aE,W,_,_,aO⟩:=HY.out;obtain⟨_,_,_,_,_,_,_,_,_,aC,_,_⟩:=Z.out;exact⟨_,m1,g1,rfl,a1,a2,aE,aO,eV W.nt aC,rfl⟩
    have aT:=bj (Mn b8.out);rw[y.out]at aT;have aY:Hid (Ok p (((s.gr iJ).fh l).iD (((s.gr iJ).fh l).q 3 0))/\(((s.gr iJ).fh l).iD (((s.gr iJ).fh l).q 3 0)).nt=s.nt/\(((s.gr iJ).fh l).iD (((s.gr iJ).fh l).q 3 0)).ev=[]):=by
     obtain⟨aE,W,aP,aJ,_⟩:=HY.out;obtain⟨_,_,_,_,_,_,_,_,aG,_,_,_⟩:=Z.out;exact⟨aP,aJ.nt.trans W.nt,by rw[aJ.ev,W.ev];exact aG⟩
    generalize b7:((s.gr iJ).fh l).iD (((s.gr iJ).fh l).q 3 0)=fin at *;generalize (((s.gr iJ).fh l).q 3 0).length=nq at *;clear b7 b8 aZ HY HR HI;go_wp2_with fail
    refine aT.out.mono ?_;rintro e w4 ⟨B0,rfl,b1⟩;have bV:=bj b1;clear b1 aT;go_wp2_with fail
    go_loopg [9] nq (λn b wr=>∃B:Nat,b=aj B/\Hid (Kz p d K m g w ρ fin n B wr))
    case atStart=>exact⟨B0,rfl,bV⟩
    case round=>
     obtain⟨B,rfl,rW⟩:=hrel
     cases B with
     | succ b=>
      obtain⟨tb,nt,cap,v2,c6,cI,cL,t2,z2,bT,hC⟩:=LA rW.out;rw[y.out]at c6 bT hC;have HC:=bj hC;have cF:(0:Int)<b+1:=ag
      have q5:=fj (n:=b) ag;have q6:IntKind.i64.wrap (b:Int)=b:=iU
      have q7:(0:Int)<=b:=ag
      have q8:(b:Int)<nt:=ag
      clear hC rW;go_wp2_with fail
      refine du HC ?_;rintro w5 ⟨k,hk,hD⟩;have aS:=bj (Mn hD);rw[y.out]at aS;have c2:=bj hk;clear hD hk HC c6 t2 z2;go_wp2_with fail
      refine aS.out.mono ?_;rintro e w6 ⟨B',rfl,bL⟩;have bW:=bj bL;clear bL aS;go_wp2_with fail
      go_roundg k
      case rel=>exact⟨B',rfl,bW⟩
      case measure=>have:=c2.out;omega
     | zero=>
      have H:Hid (∃s2,iS p fin s2/\s'=s2.jr p/\Ok p s2/\s2.nt≠0):=by
       obtain⟨s2,f1,f2⟩:=bY.out;obtain⟨cB,b0,cK⟩:=aY.out;obtain⟨_,_,hPI,_,_,_,_,_,_,aC,hn,_⟩:=Z.out;obtain⟨k1,k2,k3⟩:=uP hPI cB (eV b0 hn) f1;refine⟨s2,f1,f2,k1,?_⟩
       cases hq:fin.q 2 0 with
       | nil=>rw[k2 hq,b0];exact aC
       | cons t r=>
        obtain⟨s0,g0,_,_,g3,_⟩:=k3 t r hq;have J:=g0.nt.1;rw[g3,b0]at J;omega
      obtain⟨s2,bO,aK⟩:=H.out;have b4:=bj bO;clear H bO;have H:=bj aK;clear aK;obtain⟨cN,qc,c7⟩:=LD rW.out;rw[y.out]at c7
      cases hq:fin.q 2 0 with
      | nil=>
       have a0:Hid (FT p d K m g w s2 wr):=by
        have J:=b4.out;unfold iS at J;rw[hq]at J;have h8:s2=fin:=J;rw[h8];exact FT.of rW.out
       rw[hq]at c7;simp only[List.length_nil]at c7;clear rW;have Y:Hid (∃x,wr.cell? (ay mb 14)=some (.bool x)):=by
        have J:=a0.out.sp;rw[y.out]at J;exact⟨_,J⟩
       obtain⟨aI,aH⟩:=Y.out;clear Y
       cases aI with
       | true=>
        have u:=bj a0.out.out;rw[y.out]at u;obtain⟨a8,aF,o⟩:=u.out;have G:=bj o;clear u o;go_wp2_with fail
        go_ret;refine⟨a8,rfl,?_⟩;rw[H.out.1];exact G.out
       | false=>
        have a9:=bj (J3 Z.out.1 Z.out.2.1 Z.out.2.2.2.1 Z.out.2.2.2.2.1 a0.out H.out.2.1 H.out.2.2);rw[y.out]at a9;go_wp2_with fail
        refine du a9 λw9 aD=>?_;have u:=bj aD.out;rw[y.out]at u;obtain⟨a8,aF,o⟩:=u.out;have G:=bj o;clear u o a9 aD;go_wp2_with fail
        go_ret;refine⟨a8,rfl,?_⟩;rw[H.out.1];exact G.out
      | cons t r=>
       have aW:=bj (Na Z.out.1 Z.out.2.1 Z.out.2.2.1 Z.out.2.2.2.1 rW.out (eV aY.out.2.1 Z.out.2.2.2.2.2.2.2.2.2.2.1) aY.out.2.2 Z.out.2.2.2.2.2.2.2.2.2.2.2 hq b4.out);rw[y.out]at aW;clear c7 rW;obtain⟨b,off,cap,c7,z7,cD,cQ,cJ,cb,hC⟩:=aW.out;have HC:=bj hC;generalize bZ:r.length=rn at *;clear hC aW bZ;have r1:(0:Int)<rn+1:=ag
       by_cases bJ:cap=1
       .subst bJ;have c3:rn=0:=ag
        subst c3;rw[bf rfl]at HC;go_wp2_with fail
        refine du HC λw7 aL=>?_;have a0:=bj aL;clear aL HC c7 z7 cb;have Y:Hid (∃x,w7.cell? (ay mb 14)=some (.bool x)):=by
         have J:=a0.out.sp;rw[y.out]at J;exact⟨_,J⟩
        obtain⟨aI,aH⟩:=Y.out;clear Y
        cases aI with
        | true=>
         have u:=bj a0.out.out;rw[y.out]at u;obtain⟨a8,aF,o⟩:=u.out;have G:=bj o;clear u o;go_wp2_with fail
         go_ret;refine⟨a8,rfl,?_⟩;rw[H.out.1];exact G.out
        | false=>
         have a9:=bj (J3 Z.out.1 Z.out.2.1 Z.out.2.2.2.1 Z.out.2.2.2.2.1 a0.out H.out.2.1 H.out.2.2);rw[y.out]at a9;go_wp2_with fail
         refine du a9 λw9 aD=>?_;have u:=bj aD.out;rw[y.out]at u;obtain⟨a8,aF,o⟩:=u.out;have G:=bj o;clear u o a9 aD;go_wp2_with fail
         go_ret;refine⟨a8,rfl,?_⟩;rw[H.out.1];exact G.out
       rw[au bJ]at HC;go_wp2_with fail
       refine du HC λw7 aL=>?_;have a0:=bj aL;clear aL HC c7 z7 cb;have Y:Hid (∃x,w7.cell? (ay mb 14)=some (.bool x)):=by
        have J:=a0.out.sp;rw[y.out]at J;exact⟨_,J⟩
       obtain⟨aI,aH⟩:=Y.out;clear Y
       cases aI with
       | true=>
        have u:=bj a0.out.out;rw[y.out]at u;obtain⟨a8,aF,o⟩:=u.out;have G:=bj o;clear u o;go_wp2_with fail
        go_ret;refine⟨a8,rfl,?_⟩;rw[H.out.1];exact G.out
       | false=>
        have a9:=bj (J3 Z.out.1 Z.out.2.1 Z.out.2.2.2.1 Z.out.2.2.2.2.1 a0.out H.out.2.1 H.out.2.2);rw[y.out]at a9;go_wp2_with fail
        refine du a9 λw9 aD=>?_;have u:=bj aD.out;rw[y.out]at u;obtain⟨a8,aF,o⟩:=u.out;have G:=bj o;clear u o a9 aD;go_wp2_with fail
        go_ret;refine⟨a8,rfl,?_⟩;rw[H.out.1];exact G.out
end D
namespace F
structure jv(w0:aa) (O:Nat->Ob) (w:aa):Prop where
 b:Below w0.heap.size w0 w
 ok:∀i,(O i).ok w
 dj:∀i j k,(O i).bs k->(O j).bs k->i=j
 lo:∀i k,(O i).bs k->w0.heap.size<=k
section
variable {w0 w w':aa}{O O':Nat → Ob}
theorem jv.lt(h:jv w0 O w){i k:Nat}(e:(O i).bs k):k<w.heap.size:=(O i).lt w k (h.ok i) e
theorem dM.J9{N:Nat}{S:Nat->Prop}{w w1 w2:aa}(e:Below N w w1)(i:dM S w1 w2)(hS:∀k,S k->N<=k)(u:N<=w.heap.size):Below N w w2:=
 ⟨i.1.trans e.os,i.2.1.trans e.tape,i.2.2.1.trans e.output,dU e.size i.size,λk o=>(i.same (gp e.size) (λh=>by grind)).trans (e.block k o)⟩
theorem jv.to{S C:Nat->Prop}(h:jv w0 O w)(Z:dM S w w')(hS:∀k,S k->∃j,C j/\(O j).bs k)(W:∀i,¬C i->O' i=O i)(h2:∀i,C i->(O' i).ok w')(h3:∀i k,C i->(O' i).bs k->(∃j,C j/\(O j).bs k)\/w.heap.size<=k)(h4:∀i j k,C i->C j->(O' i).bs k->(O' j).bs k->i=j):jv w0 O' w':=by
 have hw:=h.b.size;have J:∀i j k,C i->¬C j->(O' i).bs k->(O j).bs k->False:=λi j k hi u o Y=>by
  rcases h3 i k hi o with⟨a,ha,G⟩|G
  .have:=h.dj a j k G Y;grind
  have:=h.lt Y;omega
 refine⟨dM.J9 h.b Z (λk o=>?_) (bq _),λi=>?_,λi j k hi u=>?_,λi k o=>?_⟩
 .obtain⟨j,_,G⟩:=hS k o;exact h.lo j k G
 .by_cases H:C i
  .grind
  rw[W i H];refine(O i).fr w w' (h.ok i) (λk o=>Z.same (h.lt o) (λhs=>?_));obtain⟨j,u,G⟩:=hS k hs;have:=h.dj j i k G o;grind
 .by_cases y:C i
  .grind
  rw[W i y]at hi;by_cases e:C j
  .grind
  rw[W j e]at u;exact h.dj i j k hi u
 by_cases H:C i
 .rcases h3 i k H o with⟨a,_,G⟩|G
  .exact h.lo a k G
  omega
 rw[W i H]at o;exact h.lo i k o
theorem jv.kept(h:jv w0 O w)(e:w.grownBy w' none):jv w0 O w':=
 h.to (S:=λ_=>False) (C:=λ_=>False) (ep e) (λ_ h=>h.elim) (λ_ _=>rfl) (λ_ h=>h.elim) (λ_ _ h=>h.elim) (λ_ _ _ h=>h.elim)
theorem jv.perm(h:jv w0 O w)(f:Nat->Nat)(o:∀i j,f i=f j->i=j):jv w0 (λi=>O (f i)) w:=
 ⟨h.b,λi=>h.ok (f i),λi j k hi u=>o i j (h.dj _ _ k hi u),λ_ k e=>h.lo _ k e⟩
theorem jv.eq(h:jv w0 O w)(e:∀i,O' i=O i):jv w0 O' w:=by
 have:=gj e;grind
def gf(O:Nat->Ob)(i:Nat)(X:Ob):Nat->Ob:=λj=>if j=i then X else O j
theorem jW(O:Nat->Ob)(i:Nat)(X:Ob):gf O i X i=X:=bf rfl
theorem gE(O:Nat->Ob){i j:Nat}(X:Ob)(h:j≠i):gf O i X j=O j:=au h
theorem jv.B5(h:jv w0 O w)(i:Nat){X:Ob}(J:dM (O i).bs w w')(hX:X.ok w')(H:∀k,X.bs k->(O i).bs k\/w.heap.size<=k):jv w0 (gf O i X) w':=by
 refine h.to (S:=(O i).bs) (C:=λj=>j=i) J (λk u=>⟨i,rfl,u⟩) (λj o=>gE O X o) (λj o=>?_) (λj k o u=>?_) (λa b k y G _ _=>y.trans G.symm)
 .grind[jW]
 grind[jW]
theorem jv.split(h:jv w0 O w)(i j:Nat)(Z:i≠j){X Y:Ob}(hO:dM (O i).bs w w')(hX:X.ok w')(hY:Y.ok w')(h3:∀k,X.bs k->(O i).bs k\/w.heap.size<=k)(W:∀k,Y.bs k->(O i).bs k\/w.heap.size<=k)(h4:∀k,X.bs k->Y.bs k->False):jv w0 (gf (gf O i X) j Y) w':=by
 have G:gf (gf O i X) j Y i=X:=by rw[gE _ _ Z,jW]
 have J:gf (gf O i X) j Y j=Y:=jW _ _ _;refine h.to (S:=(O i).bs) (C:=λa=>a=i\/a=j) hO (λk u=>⟨i,af rfl,u⟩) (λa o=>?_) (λa o=>?_) (λa k o u=>?_) (λa b k o hb H y=>?_)
 .grind[gE]
 .grind
 .grind
 grind
theorem jv.new(h:jv w0 O w)(j:Nat){Y:Ob}(o:w.grownBy w' none)(u:Y.ok w')(i:∀k,Y.bs k->w.heap.size<=k):jv w0 (gf O j Y) w':=
 h.B5 j (ep o) u (λk e=>ah (i k e))
theorem jv.drop(h:jv w0 O w)(j:Nat):jv w0 (gf O j .nil) w:=h.B5 j (dw _ _) trivial (λ_ e=>e.elim)
end
theorem Ac{p:dL}{s:Pl}{g:eJ}{mb:Nat}{w w':aa}(h:tS p s g mb w)(e:∀k,eH p s g k\/k=mb->w'.heap[k]? = w.heap[k]?):tS p s g mb w':=by
 obtain⟨x,y⟩:=h.bx;exact⟨⟨λa b c=>(ob p s g a b c).fr w w' (h.r.o a b c) (λk u=>e k (af ⟨a,b,c,u⟩)),h.r.i⟩,h.ok,h.ev,⟨x,(e mb (ah rfl)).trans y⟩,h.nm⟩
def Ob.Ba(p:dL)(s:Pl)(g:eJ)(mb:Nat):Ob:=⟨λk=>eH p s g k\/k=mb,λw=>tS p s g mb w,λ_ _ h hk=>Ac h hk,λw k h hk=>by
 rcases hk with hk|rfl
 .exact h.r.lt hk
 .exact h.cells.2.2.2⟩
def Ob.doc(d:D.Dp)(m:D.Dm)(g:D.Dg):Ob:=⟨λk=>D.eH d m g k,λw=>D.dZ d m g w,λw w' h hk=>⟨λa b c=>(D.ob d m g a b c).fr w w' (h.o a b c) (λk hb=>hk k ⟨a,b,c,hb⟩),h.i⟩,λ_ _ h hk=>h.lt hk⟩
def Ob.zq(b:Nat)(T:TypeId)(n:Nat):Ob:=⟨λk=>k=b,λw=>jF w b T n,λw w' h hk=>by
 obtain⟨cur,h1,h2⟩:=h
 exact⟨cur,(hk b rfl).trans h1,h2⟩,λ_ _ h e=>by rw[e];exact h.lt⟩
def Ob.lists(T:TypeId)(sz:Nat)(P:Int->Nat->Value)(E:List (Sl×Int)):Ob:=⟨λk=>∃x,x∈E/\fi x.1.1=some k,λw=>∀x,x∈E->Rd w T sz (P x.2) x.1,λ_ _ h hk x hx=>(h x hx).fr (λk e=>hk k ⟨x,hx,e⟩),λ_ _ h hk=>by
 obtain⟨x,hx,e⟩:=hk
 exact((h x hx).lt e).1⟩
structure qB where
 p:dL
 s:Pl
 g:eJ
 mb:Nat
 d:D.Dp
 m:D.Dm
 h:D.Dg
 pb:Nat
structure qB.Good(x:qB) (I:Nat):Prop where
 pg:ME x.p
 pd:D.PD x.p x.d
 rg:∀f,f<x.p.nf->2<=x.p.rg f/\x.p.rg f<=8
 dn:x.d.n<=1000000
 ng:Ng x.s
 Ks:∃ρ,D.eF x.p (1+50*I) x.s x.m.ns ρ
 n0:x.s.nt≠0
 n1:x.s.nt<=1+50*I
def oA:Option qB->Ob
 | none=>.nil
 | some x=>.Ba x.p x.s x.g x.mb
def oB:Option qB->Ob
 | none=>.nil
 | some x=>.doc x.d x.m x.h
def oP:Option qB->Ob
 | none=>.nil
 | some x=>.one x.pb (.cells #[P0 x.mb,P0 x.h.mb] 74 (0,0))
def uK:Option qB->Nat->Prop
 | none,_=>True
 | some x,I=>x.Good I
def pV:Option qB->Value
 | none=>.pointer none
 | some x=>P0 x.pb
structure St where
 x:Option qB
 y:Option qB
 ob:Nat
 mo:Nat
 bk:Nat
 n:Nat
 ra:Option Addr×Nat
 E:List (Sl×Int)
 rb:Option Addr×Nat
 J:List (Sl×Int)
variable {i:Nat}{t:St}
def St.O(t:St)(i:Nat):Ob:=
 if i=0 then oA t.x else if i=1 then oB t.x else if i=2 then oP t.x else if i=3 then oA t.y else if i=4 then oB t.y else if i=5 then oP t.y
 else if i=6 then .zq t.ob 169 (t.mo*2) else if i=7 then .full t.bk 81 3 (xN t.n (.slice t.ra.1 t.E.length t.ra.2) (.slice t.rb.1 t.J.length t.rb.2))
 else if i=8 then .row 119 2 t.ra.1 t.E.length t.ra.2 (iT t.E) else if i=9 then .row 121 2 t.rb.1 t.J.length t.rb.2 (iT t.J)
 else if i=10 then .lists 48 3 om t.E else if i=11 then .lists 3 1 sR t.J else .nil
theorem St.Kw(t:St)(h:12<=i):t.O i=.nil:=by
 unfold St.O;rw[eD,eD,eD,eD,eD,eD,eD,eD,eD,eD,eD,eD]
theorem St.ext{O:Nat->Ob}(h:∀i,i<14->t.O i=O i)(o:∀i,14<=i->O i=.nil)(i:Nat):t.O i=O i:=by
 grind[F.St.Kw]
theorem Ae(h:i<14):i=0\/i=1\/i=2\/i=3\/i=4\/i=5\/i=6\/i=7\/i=8\/i=9\/i=10\/i=11\/i=12\/i=13:=by omega
abbrev St.jv(w0:aa)(t:St)(w:aa):Prop:=F.jv w0 t.O w
def swp(i:Nat):Nat:=if i<3 then i+3 else if i<6 then i-3 else i
theorem Gc(i j:Nat)(h:swp i=swp j):i=j:=by
 grind[swp]
def St.swap(t:St):St:={ t with x:=t.y,y:=t.x }
theorem St.I7(t:St)(i:Nat):t.swap.O i=t.O (swp i):=by
 by_cases h:i<14
 .rcases Ae h with rfl|rfl|rfl|rfl|rfl|rfl|rfl|rfl|rfl|rfl|rfl|rfl|rfl|rfl<;>rfl
 have e:swp i=i:=by unfold swp;rw[eD,eD]
 grind[St.Kw]
theorem St.jv.swap{w0 w:aa}(h:t.jv w0 w):t.swap.jv w0 w:=(h.perm swp Gc).eq (λi=>t.I7 i)
end F
section
theorem D.eF.NN{p:F.dL}{K:Nat}{s:F.Pl}{m:D.Dm}{ρ:Nat->Nat}(h:D.eF p K s m ρ):D.eF p K s.ns m.ns ρ:=
 ⟨h.nt,h.q,h.xL,h.sp,rfl,h.ck,h.T,h.O,h.C,h.I,h.Kp,h.L,h.N,h.A,h.lm,h.B⟩
namespace F
theorem qB.Good.next{x:qB}{I:Nat}(hG:x.Good I)(e:Ok x.p x.s)(i:x.s.ev=[]){ticks:Int}{l:List (Int×Nat)}{s':Pl}(ht:ku x.p x.s ticks l s')(o:∀y,y∈l->y.2<256)(hI:I<=2000000){m':D.Dm}{ρ':Nat->Nat}(hS:D.eF x.p (1+50*I+x.p.qn) s' m' ρ')(g':eJ)(J:D.Dg):({ x with s:=s'.ns,g:=g',m:=m',h:=J }:qB).Good (I+1):=by
 have W:=hG.pg.q;have hn:=hG.n1;have G:=B.xD (t:=ticks) e.c0 e.c1;have u:=pE hG.pg.pi hG.pg.pw.n1 e i ag o ht;refine⟨hG.pg,hG.pd,hG.rg,hG.dn,(hG.ng.I4 hG.pg.pi e G.1 G.2 o ag ht).same,⟨ρ',(hS.mono ag).NN⟩,?_,?_⟩
 .have:=u.n1;have:=hG.n0;show s'.nt≠0;omega
 have:=u.n2;show s'.nt<=_;omega
def Di(w0:aa)(ad:Option Addr)(n:Nat)(l:List (Int×Nat)):Prop:=
 n=l.length/\n<=1000000000/\(∀x,x∈l->x.2<256)/\(ad=none->l=[])/\∀a,ad=some a->l≠[]->a.block<w0.heap.size/\∀j x,l[j]? = some x->w0.cell? (a.add (j*2))=some (.int .i64 x.1)/\w0.cell? (a.add (j*2+1))=some (.int .u8 (x.2:Int))
def oC(il:List (Int×Nat))(j:Nat):Value:=if j % 2=0 then .int .i64 (il.getD (j / 2) (77,0)).1 else .int .u8 ((il.getD (j / 2) (77,0)).2:Int)
theorem GM(il:List (Int×Nat))(i:Nat):oC il (i*2)=aj (il.getD i (77,0)).1:=by simp[oC,mm]
theorem GL(il:List (Int×Nat))(i:Nat):oC il (i*2+1)=dy ((il.getD i (77,0)).2:Int):=by unfold oC;grind
section
variable {w0 w w':aa}{O:Nat → Ob}
theorem jv.at(h:jv w0 O w)(i:Nat){X:Ob}(e:O i=X):X.ok w:=e▸h.ok i
theorem jv.not(h:jv w0 O w){i j k:Nat}{X Y:Ob}(y:O i=X)(G:O j=Y)(o:i≠j)(u:X.bs k):¬Y.bs k:=λe=>o (h.dj i j k (y▸u) (G▸e))
theorem Di.cell{ad:Option Addr}{n:Nat}{l:List (Int×Nat)}(hI:Di w0 ad n l)(y:Below w0.heap.size w0 w){a:Addr}(H:ad=some a){j:Nat}{x:Int×Nat}(i:l[j]? = some x):a.block<w0.heap.size/\w.cell? (a.add (j*2))=some (aj x.1)/\w.cell? (a.add (j*2+1))=some (dy x.2):=by
 obtain⟨u,G⟩:=hI.2.2.2.2 a H (λe=>by grind);obtain⟨c0,c1⟩:=G j x i;exact⟨u,(az (a:=a.add (j*2)) (by rw[jD];exact y.block _ u)).trans c0,(az (a:=a.add (j*2+1)) (by rw[jD];exact y.block _ u)).trans c1⟩
theorem Di.Om{ad:Option Addr}{n:Nat}{l:List (Int×Nat)}(hI:Di w0 ad n l)(o:Below w0.heap.size w0 w){S:Nat->Prop}(hS:∀k,S k->w0.heap.size<=k):D.NX w ad n l S:=by
 refine⟨hI.1,hI.2.1,hI.2.2.1,hI.2.2.2.1,λa i e=>?_⟩;have y:=(hI.2.2.2.2 a i e).1;exact⟨dm y o.size,λG=>by grind,λj x u=>(hI.cell o i u).2⟩
theorem D6{ob mo n:Nat}{il:List (Int×Nat)}{S:Nat->Prop}(i:Full w ob 169 (mo*2) (mo*2) (oC il))(hn:n=il.length)(W:n<=mo)(o:n<=1000000000)(Z:∀x,x∈il->x.2<256)(hS:¬S ob):MV w (some (ay ob 0)) n il S:=by
 refine⟨hn,o,Z,(λe=>by cases e),λa Y a0=>?_⟩;have e:((ay ob 0):Addr)=a:=by injection Y
 subst e;refine⟨i.lt,hS,λj x u=>?_⟩;have a1:=(cf.1 u).1;have G:il.getD j (77,0)=x:=by rw[cr,u];rfl
 have J:=i.cell (j*2) ag;have y:=i.cell (j*2+1) ag;rw[GM,G]at J;rw[GL,G]at y;have H:∀k,((ay ob 0):Addr).add k=(ay ob k):=λk=>by grind[Addr.add]
 grind
theorem Cd{ob mo:Nat}{e:Array Value}{il:List (Int×Nat)}(o:w.heap[ob]? = some (.cells e 169 (0,0)))(y:e.size=mo*2)(H:il.length<=mo):Full (w.setRow ob (D.rowP (il.length*2) (oC il)++e.toList.drop (D.rowP (il.length*2) (oC il)).length).toArray) ob 169 (mo*2) (il.length*2) (oC il):=by
 refine⟨_,setRow_heap w ob e _ 169 (0,0) o,?_,λj i=>?_⟩
 .grind[mG]
 grind[List.getElem?_append_left,mG,mZ,oC]
theorem yD(g:Nat)(i:Array Value):dM (λk=>k=g) w (w.setRow g i):=⟨rfl,rfl,rfl,by simp_all,λk _ hn=>setRow_other w g k i (λe=>hn e)⟩
theorem jv.Dx{p:dL}{s s':Pl}{g g':eJ}{mb H:Nat}{G:Option Addr}(h:jv w0 O w)(e0:O 0=.Ba p s g mb)(i:zC p s g mb w s'.ns g' w')(W:w'.ownsRow 0 48 3 (.slice G s'.ev.length H) s'.ev.length (mA s'.ev))(y:∀k,fi G=some k->¬eH p s'.ns g' k/\k≠mb/\k<w'.heap.size/\(eH p s g k\/w.heap.size<=k)): jv w0 (gf (gf O 0 (.Ba p s'.ns g' mb)) 12 (.row 48 3 G s'.ev.length H (mA s'.ev))) w':=by
 have J:∀k,(O 0).bs k↔(eH p s g k\/k=mb):=λk=>by rw[e0];exact Iff.rfl
 refine h.split 0 12 ek ?_ i.m W (λk e=>?_) (λk e=>?_) (λk e u=>?_)
 .have:(O 0).bs=λk=>eH p s g k\/k=mb:=by rw[e0];rfl
  rw[this];exact i.o
 .rw[J];rcases e with e|e
  .grind[F.zC.n]
  omega
 .rw[J];exact(y k e).2.2.2.imp af id
 rcases e with e|e
 .exact(y k u).1 e
 exact(y k u).2.1 e
theorem jv.La{d:D.Dp}{m m':D.Dm}{g g':D.Dg}(h:jv w0 O w)(e:O 1=.doc d m g)(ht:D.Tr d m g w m' g' w'):jv w0 (gf O 1 (.doc d m' g')) w':=by
 refine h.B5 1 ?_ ht.r (λk i=>?_)
 .have:(O 1).bs=D.eH d m g:=by rw[e];rfl
  rw[this];exact ht.o
 rw[e];exact ht.m k i
theorem jv.take{T' T:TypeId}{sz f r l bk m0 ce a3 ln lc:Nat}{P:Int->Nat->Value}{Ev a6:Nat->Value}{ae a0 la:Option Addr}{xs:List Value}{N:Int}{Q:List Sl}{x:Sl}{E:List (Sl×Int)}(hr:r≠7/\r≠12/\r≠l)(hl:l≠7/\l≠12)(h:jv w0 O w)(e7:O 7=.full bk 81 3 Ev)(er:O r=.row T' 2 ae m0 ce (iT E))(el:O l=.lists T sz P E)(aE:O 12=.row T sz la ln lc xs)(hm:m0=E.length)(aF:(81:TypeId)≠T')(aG:T≠T')(aH:(81:TypeId)≠T)(ht:tz w T' T sz f (P N) bk a6 (iT E) m0 ae (la,ln,lc) N Q x a0 a3 w'): jv w0 (gf (gf (gf (gf O 7 (.full bk 81 3 (eC a6 f (.slice a0 (E++Q.map (λy=>(y,N))).length a3)))) r (.row T' 2 a0 (E++Q.map (λy=>(y,N))).length a3 (iT (E++Q.map (λy=>(y,N)))))) l (.lists T sz P (E++Q.map (λy=>(y,N))))) 12 .nil) w':=by
 have aC:(E++Q.map (λy=>(y,N))).length=m0+Q.length:=by rw[cw,ef,hm]
 have a8:iT (E++Q.map (λy=>(y,N)))=iT E++iT (Q.map (λy=>(y,N))):=by unfold iT;rw[List.flatMap_append]
 have b7:∀k,(O 7).bs k↔k=bk:=λk=>by rw[e7];exact Iff.rfl
 have br:∀k,(O r).bs k↔fi ae=some k:=λk=>by rw[er];exact Iff.rfl
 have a7:∀k,(O 12).bs k↔fi la=some k:=λk=>by rw[aE];exact Iff.rfl
 rw[aC,a8];have a1:=λy W=>(h.at l el) y W;have hS:∀y,y∈E->∀k,fi y.1.1=some k->¬(k=bk\/fi ae=some k\/fi la=some k):=λy W k u hs=>by
  have hb:(O l).bs k:=by rw[el];exact⟨y,W,u⟩
  rcases hs with hs|hs|hs
  .exact hl.1 (h.dj l 7 k hb ((b7 k).2 hs))
  .exact hr.2.2 (h.dj r l k ((br k).2 hs) hb)
  exact hl.2 (h.dj l 12 k hb ((a7 k).2 hs))
 have i12:∀X Y Z:Ob,gf (gf (gf (gf O 7 X) r Y) l Z) 12 .nil 12=.nil:=λX Y Z=>jW _ _ _;have il:∀X Y Z:Ob,gf (gf (gf (gf O 7 X) r Y) l Z) 12 .nil l=Z:=λX Y Z=>by grind[gE,jW]
 have ir:∀X Y Z:Ob,gf (gf (gf (gf O 7 X) r Y) l Z) 12 .nil r=Y:=λX Y Z=>by grind[gE,jW]
 have i7:∀X Y Z:Ob,gf (gf (gf (gf O 7 X) r Y) l Z) 12 .nil 7=X:=λX Y Z=>by grind[gE,decide,jW]
 have a9:∀k H,k=bk->w'.heap[k]? = some (.cells H T (0,0))->False:=λk H e J=>by
  obtain⟨c2,a2,_⟩:=ht.f;grind
 have aA:∀k H,fi a0=some k->w'.heap[k]? = some (.cells H T (0,0))->False:=λk H e J=>by
  obtain⟨_,_,c2,a2⟩:=dP ht.r k (by grind[dF]);grind
 have aB:∀k,k=bk->fi a0=some k->False:=λk e e'=>by
  obtain⟨_,_,c2,a2⟩:=dP ht.r k (by grind[dF]);obtain⟨c3,aD,_⟩:=ht.f;grind
 have a5:∀y,y∈E++Q.map (λz=>(z,N))->Rd w' T sz (P y.2) y.1:=λy W=>by
  rcases dV.1 W with W|W
  .exact(a1 y W).fr (λk u=>ht.o.same ((a1 y W).lt u).1 (hS y W k u))
  grind[F.tz.q]
 refine h.to (S:=λk=>k=bk\/fi ae=some k\/fi la=some k) (C:=λi=>i=7\/i=r\/i=l\/i=12) ht.o (λk u=>?_) (λi hi=>?_) (λi hi=>?_) (λi k hi u=>?_) (λi j k hi hj u G=>?_)
 .rcases u with u|u|u
  .exact⟨7,af rfl,(b7 k).2 u⟩
  .exact⟨r,ah (af rfl),(br k).2 u⟩
  exact⟨12,ah (ah (ah rfl)),(a7 k).2 u⟩
 .rw[gE _ _ (λe=>hi (ah (ah (ah e)))),gE _ _ (λe=>hi (ah (ah (af e)))),gE _ _ (λe=>hi (ah (af e))),gE _ _ (λe=>hi (af e))]
 .rcases hi with rfl|rfl|rfl|rfl
  .rw[i7];exact ht.f
  .rw[ir];exact ht.r
  .rw[il];exact a5
  rw[i12];trivial
 .rcases hi with rfl|rfl|rfl|rfl
  .rw[i7]at u;exact af ⟨7,af rfl,(b7 k).2 u⟩
  .rw[ir]at u;exact(ht.a k u).imp (λe=>⟨i,ah (af rfl),(br k).2 e⟩) id
  .rw[il]at u;obtain⟨y,W,u⟩:=u;rcases dV.1 W with W|W
   .exact af ⟨i,ah (ah (af rfl)),by rw[el];exact⟨y,W,u⟩⟩
   obtain⟨z,hz,rfl⟩:=eK.1 W;exact((ht.q z hz).2.2 k u).imp (λe=>⟨12,ah (ah (ah rfl)),(a7 k).2 e⟩) id
  rw[i12]at u;exact u.elim
 have a4:(gf (gf (gf (gf O 7 (.full bk 81 3 (eC a6 f (.slice a0 (m0+Q.length) a3)))) r (.row T' 2 a0 (m0+Q.length) a3 (iT E++iT (Q.map (λy=>(y,N)))))) l (.lists T sz P (E++Q.map (λy=>(y,N))))) 12 .nil l).bs k->∃H,w'.heap[k]? = some (.cells H T (0,0)):=λhh=>by
  rw[il]at hh;obtain⟨y,W,hh⟩:=hh;exact((a5 y W).lt hh).2
 rcases hi with rfl|rfl|rfl|rfl<;>rcases hj with rfl|rfl|rfl|rfl
 .rfl
 .rw[i7]at u;rw[ir]at G;exact(aB k u G).elim
 .obtain⟨H,J⟩:=a4 G;rw[i7]at u;exact(a9 k H u J).elim
 .rw[i12]at G;exact G.elim
 .rw[ir]at u;rw[i7]at G;exact(aB k G u).elim
 .rfl
 .obtain⟨H,J⟩:=a4 G;rw[ir]at u;exact(aA k H u J).elim
 .rw[i12]at G;exact G.elim
 .obtain⟨H,J⟩:=a4 u;rw[i7]at G;exact(a9 k H G J).elim
 .obtain⟨H,J⟩:=a4 u;rw[ir]at G;exact(aA k H G J).elim
 .rfl
 .rw[i12]at G;exact G.elim
 .rw[i12]at u;exact u.elim
 .rw[i12]at u;exact u.elim
 .rw[i12]at u;exact u.elim
 rfl
end
end F
end
namespace F
variable {I bk i mb:Nat}{g:eJ}{l:List tU}{p:dL}{s:Pl}{w w' w0:aa}{x y:Value}
theorem Tryz.underlying56:prog.underlying 56=some (.slice 169):=by kernel_rfl
theorem Tryz.Gk:(prog.info? 169).map (·.size)=some 2:=by kernel_rfl
theorem lC{b:Nat}{T:TypeId}(h:w.heap[b]? = some (.cells #[x,y] T (0,0))):w.cell? (ay b 0)=some x/\w.cell? (ay b 1)=some y/\b<w.heap.size:=⟨fy h,fy h,ch h⟩
theorem jj{b:Nat}{z u:Value}{T:TypeId}(h:w.heap[b]? = some (.cells #[x,y,z,u] T (0,0))):w.cell? (ay b 0)=some x/\w.cell? (ay b 1)=some y/\w.cell? (ay b 2)=some z/\w.cell? (ay b 3)=some u/\b<w.heap.size:=⟨fy h,fy h,fy h,fy h,ch h⟩
def Hy(sb:Nat)(kind hh ticks:Int)(ia:Option Addr)(iC ic:Nat):Ob:=.one sb (.cells #[.int .i64 kind,.int .i64 hh,.int .i64 ticks,.slice ia iC ic] 76 (0,0))
theorem Dv(n:Nat)(a b c:Value):eC (eC (xN n a b) 0 (aj ((n:Int)+1))) 1 c=xN (n+1) c b:=by
 funext j
 unfold eC xN;by_cases i:j=1
 .subst i;rfl
 rw[au i];by_cases e:j=0
 .rw[bf e,bf e];rfl
 rw[au e,au e,au e,au i,au i]
def IL(O:Nat->Ob)(x:qB)(I ob mo bk n:Nat)(E:List (Sl×Int))(itv:Value)(w0 w':aa):Prop:=∃(x':qB) (ra:Option Addr×Nat) (Q:List (Sl×Int)),x'.mb=x.mb/\x'.pb=x.pb/\x'.h.mb=x.h.mb/\x'.Good (I+1)/\Q.length=4/\(∀y,y∈Q->y.1.2.1<=1000) /\
 jv w0 (gf (gf (gf (gf (gf O 0 (.Ba x'.p x'.s x'.g x'.mb)) 1 (.doc x'.d x'.m x'.h)) 7 (.full bk 81 3 (xN (n+1) (.slice ra.1 (E++Q).length ra.2) itv))) 8 (.row 119 2 ra.1 (E++Q).length ra.2 (iT (E++Q)))) 10 (.lists 48 3 om (E++Q))) w'
theorem Hk(l:List tU):(mA l).length=l.length*3:=by
 induction l with
 | nil=>rfl
 | cons a l e=>
  have:mA (a :: l)=[aj a.1,aj a.2.1,aj a.2.2]++mA l:=by unfold mA;simp
  rw[this,cw,e];simp;omega
theorem JY:∀{k:Nat} {e:tU},l[k]? = some e->(mA l)[k*3]? = some (aj e.1)/\(mA l)[k*3+1]? = some (aj e.2.1)/\(mA l)[k*3+2]? = some (aj e.2.2):=by
 induction l with
 | nil=>intro k e h;simp at h
 | cons a l i=>
  intro k e h;have o:mA (a :: l)=aj a.1 :: aj a.2.1 :: aj a.2.2 :: mA l:=by unfold mA;simp
  rw[o]
  cases k with
  | zero=>
   have:a=e:=by simpa using h
   subst this;exact⟨rfl,rfl,rfl⟩
  | succ k=>
   have:=i (k:=k) (e:=e) (gG h);rw[show(k+1)*3=k*3+3 by omega];exact this
theorem Bu{a:Option Addr}{n c:Nat}{e:tU}(h:w.ownsRow 0 48 3 (.slice a n c) n (mA l))(he:l[i]? = some e):∃b,a=some (ay b 0)/\b<w.heap.size/\w.cell? (ay b (i*3))=some (aj e.1)/\w.cell? (ay b (i*3+1))=some (aj e.2.1)/\w.cell? (ay b (i*3+2))=some (aj e.2.2):=by
 have y:=(cf.1 he).1;have hn:n≠0:=λo=>by
  have:=h.1;rw[o,Hk l]at this;omega
 obtain⟨b,Z,H⟩:=ee h hn;injection H with J _ G;subst J G;obtain⟨o,Y,u⟩:=JY he;exact⟨b,rfl,(dP h b rfl).2.1,mu h o,mu h Y,mu h u⟩
theorem GJ{d:D.Dp}{m:D.Dm}{g:D.Dg}{v:Value}(hR:D.dZ d m g w)(he:m.ev=s.ev)(i:v=D.je m g 4 0\/(v=.slice none 0 0/\m.ev=[])):∃a c,v=.slice a s.ev.length c/\w.ownsRow 0 48 3 (.slice a s.ev.length c) s.ev.length (mA s.ev):=by
 rcases i with rfl|⟨rfl,o⟩
 .have h:=hR.E;rw[he]at h;have e:D.je m g 4 0=.slice (g.ro 4 0).1 s.ev.length (g.ro 4 0).2:=by rw[<-he];rfl
  rw[e]at h ⊢;exact⟨_,_,rfl,h⟩
 rw[<-he,o];exact⟨none,0,rfl,eg _ _ _ _⟩
theorem K6{O:Nat->Ob}{x:qB}{ob mo n:Nat}{ra:Option Addr×Nat}{E:List (Sl×Int)}{itv:Value}{kind hh ticks:Int}{Y:Option Addr}{iC ic:Nat}{il:List (Int×Nat)}(hf:jv w0 O w)(e0:O 0=.Ba x.p x.s x.g x.mb)(e1:O 1=.doc x.d x.m x.h)(e2:O 2=.one x.pb (.cells #[P0 x.mb,P0 x.h.mb] 74 (0,0)))(e6:O 6=.zq ob 169 (mo*2))(e7:O 7=.full bk 81 3 (xN n (.slice ra.1 E.length ra.2) itv))(e8:O 8=.row 119 2 ra.1 E.length ra.2 (iT E))(aV:O 10=.lists 48 3 om E)(bJ:O 12=.nil)(bL:O 13=.nil)(hG:x.Good I)(hI:Di w0 Y iC il)(cG:iC+8<=mo)(cD:mo<=1000000008)(hn:n<=1000000000)(hE:E.length<=100000000)(cC:I<=2000000)(bB:-9223372036854775808<=ticks)(bP:ticks<=9223372036854775807): dD 48 #[P0 bk,P0 x.pb,.agg #[aj kind,aj hh,aj ticks,.slice Y iC ic],dA ob mo mo] w (.bool true) λw'=>IL O x I ob mo bk n E itv w0 w':=by
 have o:=bj (bh e0 (bh e1 (bh e2 (bh e6 (bh e7 (bh e8 (bh aV (bh bJ bL))))))));have H:=bj hG;have HI:=bj hI;have HF:=bj hf;obtain⟨bO,bF,_⟩:=hI;have W:=bj bO;have b9:=bj (bh bB bP);clear e0 e1 e2 e6 e7 e8 aV bJ bL hG hf bO bB bP;delta dD;go_in;obtain⟨sb,aQ⟩:∃sb,sb=w.heap.size:=⟨_,rfl⟩;have aD:Hid (jv w0 (gf O 13 (Hy sb kind hh ticks Y iC ic)) (w.alloc (.cells #[aj kind,aj hh,aj ticks,.slice Y iC ic] 76))):=by
  refine HF.new 13 (ak _ _ none) ?_ (λk hk=>?_)
  .rw[aQ];exact bl w _
  have:k=sb:=hk;omega
 go_upto_region 2 with fail
 generalize w.alloc (.cells #[aj kind,aj hh,aj ticks,.slice Y iC ic] 76)=w1 at *;rw[<-aQ];have G:w1.heap[sb]? = some (.cells #[aj kind,aj hh,aj ticks,.slice Y iC ic] 76 (0,0)):=aD.at 13 (X:=Hy sb kind hh ticks Y iC ic) rfl;obtain⟨_,_,b2,b3,a8⟩:=jj G;obtain⟨aI,aC,aW⟩:jF w1 ob 169 (mo*2):=aD.at 6 o.2.2.2.1;have a0:=bj (bh aC aW);clear aC aW G HF aQ;obtain⟨cs,aL⟩:∃cs,cs=D.rowP (il.length*2) (oC il):=⟨_,rfl⟩;have a1:=bj aL;clear aL;go_wp2_with (refine tV rfl (.tmp 19) (.tmp 21) 56 56 rfl 169 2 Tryz.underlying56 Tryz.Gk ob mo mo iC ic Y rfl rfl aI 169 a0.1 cs ?c0 ?c1 ?c2 ?c3 ?c4 ?c5 ?_)
 try case c0=>omega
 try case c1=>rw[a1.out,mG,W.out]
 try case c2=>intro h;rw[a1.out,HI.2.2.2.1 h];rfl
 try case c3=>
  intro a ha j v hj;rw[a1.out]at hj;have bV:j<il.length*2:=by
   have:=(cf.1 hj).1;rw[mG]at this;exact this
  rw[mZ _ bV]at hj;injection hj with hj;subst hj;obtain⟨y,hy⟩:∃y,il[j / 2]? = some y:=⟨_,bz ag⟩;have hg:il.getD (j / 2) (77,0)=y:=by rw[cr,hy];rfl
  obtain⟨_,c0,c1⟩:=HI.cell aD.b ha hy;rcases Nat.mod_two_eq_zero_or_one j with e|e
  .have ej:j=j / 2*2:=ag
   have:=GM il (j / 2);rw[hg]at this;rw[ej,this];exact c0
  have ej:j=j / 2*2+1:=ag
  have:=GL il (j / 2);rw[hg]at this;rw[ej,this];exact c1
 try case c4=>rw[a1.out,mG,a0.2,<-W.out];omega
 try case c5=>
  intro v hv;rw[a1.out]at hv;obtain⟨j,_,rfl⟩:=eK.1 hv;unfold oC;split<;>rfl
 have bM:Hid (Full (w1.setRow ob (cs++aI.toList.drop cs.length).toArray) ob 169 (mo*2) (iC*2) (oC il)):=by
  have h:=Cd (il:=il) a0.1 a0.2 (by rw[<-W.out];omega);rw[<-W.out]at h;show Full _ _ _ _ _ _;rw[a1.out,<-W.out];exact h
 have bK:Hid (dM (λk=>k=ob) w1 (w1.setRow ob (cs++aI.toList.drop cs.length).toArray)):=yD ob _;generalize w1.setRow ob (cs++aI.toList.drop cs.length).toArray=w2 at *;clear a0 a1 b2 b3 a8;go_wp2_with fail
 go_loopw [10] (λiv wx=>∃j:Nat,iC<=j/\j<=mo/\iv=aj j/\Hid (dM (λk=>k=ob) w1 wx)/\Hid (Full wx ob 169 (mo*2) (j*2) (oC il))) (λiv _=>mo-(intOf iv).toNat)
 case atStart=>exact⟨iC,ag,ag,rfl,bK,bM⟩
 case round=>
  clear bK bM;obtain⟨j,c9,cL,rfl,rO,rF⟩:=hrel;by_cases cJ:j<mo
  .have bC:(j:Int)<mo:=ag
   have hB:jF wr ob 169 (mo*2):=by
    obtain⟨c,k1,k2,_⟩:=rF;exact⟨c,k1,k2⟩
   obtain⟨⟨v0,q0⟩,p0⟩:=hB.cell (j*2) ag;obtain⟨⟨v1,q1⟩,p1⟩:=hB.cell (j*2+1) ag;have b1:il.getD j (77,0)=(77,0):=by rw[cr,dK (by rw[<-W.out];exact c9)];rfl
   have bT:Hid (Full ((wr.setCell (ay ob (j*2)) (aj 77)).setCell (ay ob (j*2+1)) (dy 0)) ob 169 (mo*2) ((j+1)*2) (oC il)):=by
    have h:=(rF.set ag).set ag;rw[GM,GL,b1]at h;rw[show(j+1)*2=j*2+1+1 by omega];exact h
   have cA:Hid (dM (λk=>k=ob) w1 ((wr.setCell (ay ob (j*2)) (aj 77)).setCell (ay ob (j*2+1)) (dy 0))):=bp (S:=λk=>k=ob) (a:=ay ob (j*2+1)) (bp (S:=λk=>k=ob) (a:=ay ob (j*2)) rO (af rfl) _) (af rfl) _;clear hB b1 rO rF;go_wp2_with fail
   go_roundw
   case rel=>exact⟨j+1,ag,ag,iA,cA,bT⟩
   case measure=>simp[intOf];omega
  have bC:¬((j:Int)<mo):=ag
  have cB:mo=j:=ag
  subst cB;have a9:Hid (jv w0 (gf (gf O 13 (Hy sb kind hh ticks Y iC ic)) 6 (.full ob 169 (mo*2) (oC il))) wr):=by
   have hb:(gf O 13 (Hy sb kind hh ticks Y iC ic) 6).bs=λk=>k=ob:=by
    rw[gE _ _ ek,o.2.2.2.1];rfl
   refine aD.B5 6 (eV hb rO) rF (λk hk=>af ?_);rw[hb];exact hk
  have J:=a9.kept (w':=wr.drew) (bo (aw _ _));have hM:tS x.p x.s x.g x.mb wr.drew:=J.at 0 o.1;have a2:Full wr.drew ob 169 (mo*2) (mo*2) (oC il):=J.at 6 (jW _ _ _);have bH:=bj (hM.Dw mo ticks H.pg (by have:=H.n1;have:=H.pg.q;omega) (D6 (S:=λk=>eH x.p x.s x.g k\/k=x.mb) a2 W ag bF HI.2.2.1 (J.not (i:=6) (j:=0) (k:=ob) (jW _ _ _) o.1 ek rfl)));have a5:=bj (bh hM.ok hM.ev);have aE:wr.heap[x.pb]? = some (.cells #[P0 x.mb,P0 x.h.mb] 74 (0,0)):=a9.at 2 o.2.2.1;obtain⟨p0,p1,aU⟩:=lC aE;have G:wr.heap[sb]? = some (.cells #[aj kind,aj hh,aj ticks,.slice Y iC ic] 76 (0,0)):=a9.at 13 (X:=Hy sb kind hh ticks Y iC ic) rfl;obtain⟨_,_,b2,b3,a8⟩:=jj G;clear aE G hM a2 J aD rO rF;have aM:(iC:Int)<=mo:=ag
  go_wp2_with fail
  go_cut [11] from 34 to 43 (λv wx=>∃(u:Pl) (g6:eJ) (a6:Option Addr) (c6:Nat),v=.slice a6 u.ev.length c6/\Hid (ku x.p x.s ticks il u)/\Hid (jv w0 (gf (gf (gf (gf O 13 (Hy sb kind hh ticks Y iC ic)) 6 (.full ob 169 (mo*2) (oC il))) 0 (.Ba x.p u.ns g6 x.mb)) 12 (.row 48 3 a6 u.ev.length c6 (mA u.ev))) wx))
  case first=>
   go_region_with (go_at_call 24;refine bH.mono ?_;rintro e w6 ⟨u,g6,a6,c6,rfl,b0,b7,bN,bI⟩;have aB:=bj b0;have a4:=bj ((a9.kept (w':=wr.drew) (bo (aw _ _))).Dx o.1 bN b7 bI);clear b0 b7 bN bI)
   all_goals
    go_wp2_with fail
    go_meet
    case rel=>exact⟨u,g6,a6,c6,rfl,aB,a4⟩
  case rest=>
   obtain⟨u,g6,a6,c6,rfl,aB,a4⟩:=hcut;clear bH a9 p0 p1 b2 b3 aU a8;have J:=a4.kept (w':=wc.drew) (bo (aw _ _));have hR:D.dZ x.d x.m x.h wc.drew:=J.at 1 o.2.1;obtain⟨ρ,aK⟩:=H.Ks;have b5:=bj (D.K7 (ticks:=ticks) (c0:=ic) H.pd H.rg H.pg.pi (gp H.pg.q) H.dn hR aK a5.1 H.ng a5.2 H.n0 (by have:=H.n1;have:=H.pg.q;omega) H.pg.q b9.1 b9.2 (HI.Om J.b (S:=D.eH x.d x.m x.h) (λk hk=>J.lo 1 k (by show(O 1).bs k;rw[o.2.1];exact hk))) aB);have aE:wc.heap[x.pb]? = some (.cells #[P0 x.mb,P0 x.h.mb] 74 (0,0)):=a4.at 2 o.2.2.1;obtain⟨p0,p1,aU⟩:=lC aE;have G:wc.heap[sb]? = some (.cells #[aj kind,aj hh,aj ticks,.slice Y iC ic] 76 (0,0)):=a4.at 13 (X:=Hy sb kind hh ticks Y iC ic) rfl;obtain⟨_,_,b2,b3,a8⟩:=jj G;clear aE G J hR aK;obtain⟨wA,bY⟩:∃z:aa,z=wc:=⟨_,rfl⟩;subst bY;go_wp2_with fail
   go_cut [12] from 44 to 52 (λv wx=>∃(m7:D.Dm) (h7:D.Dg) (ρ7:Nat->Nat) (a7:Option Addr) (c7:Nat),v=.slice a7 u.ev.length c7/\Hid (h7.mb=x.h.mb/\D.eF x.p (1+50*I+x.p.qn) u m7 ρ7)/\Hid (wx.ownsRow 0 48 3 (.slice a7 u.ev.length c7) u.ev.length (mA u.ev))/\Hid (jv w0 (gf (gf (gf (gf (gf O 13 (Hy sb kind hh ticks Y iC ic)) 6 (.full ob 169 (mo*2) (oC il))) 0 (.Ba x.p u.ns g6 x.mb)) 12 (.row 48 3 a6 u.ev.length c6 (mA u.ev))) 1 (.doc x.d m7 h7)) wx))
   case first=>
    go_region_with (go_at_call 75;refine b5.mono ?_;rintro e w7 ⟨v7,rfl,m7,h7,ρ7,aJ,aO,aY⟩;have aG:=bj (bh aJ.b aO);have aA:=bj ((a4.kept (w':=wA.drew) (bo (aw _ _))).La o.2.1 aJ);obtain⟨a7,c7,rfl,aZ⟩:=GJ aJ.r aO.ev aY;have aH:=bj aZ;clear aJ aO aY aZ)
    all_goals
     go_wp2_with fail
     go_meet
     case rel=>exact⟨m7,h7,ρ7,a7,c7,rfl,aG,aH,aA⟩
   case rest=>
    obtain⟨m7,h7,ρ7,a7,c7,rfl,aG,aH,aA⟩:=hcut;clear b5 a4 p0 p1 b2 b3 aU a8;obtain⟨wB,bQ⟩:∃z:aa,z=wc:=⟨_,rfl⟩;subst bQ;have aX:Hid (wB.ownsRow 0 48 3 (.slice a6 u.ev.length c6) u.ev.length (mA u.ev)):=aA.at 12 (X:=.row 48 3 a6 u.ev.length c6 (mA u.ev)) rfl;have b6:Hid (u.ev.length<=50):=by
     have h1:=(pE H.pg.pi H.pg.pw.n1 a5.1 a5.2 (by have:=H.n1;have:=H.pg.q;omega) HI.2.2.1 aB).el;have h2:=H.pg.q;show _<=_;omega
    have aT:=b6.out;obtain⟨ne,aF⟩:∃ne,ne=u.ev.length:=⟨_,rfl⟩;have aP:=bj aF;rw[<-aF]at aT;rw[<-aF];clear aF;go_wp2_with fail
    go_loopw [13,14] (λov iv wx=>∃i:Nat,i<=ne/\ov=.bool true/\iv=aj i/\Hid (wB.grownBy wx none)) (λ_ iv _=>ne-(intOf iv).toNat)
    case atStart=>exact⟨0,ag,eB,rfl,aw _ _⟩
    case round=>
     obtain⟨i,hi,rfl,rfl,rG⟩:=hrel;by_cases bW:i<ne
     .have aM:(i:Int)<ne:=ag
      obtain⟨ev,aR⟩:∃ev,u.ev[i]? = some ev:=⟨_,bz (by rw[<-aP.out];exact bW)⟩;obtain⟨ba,h1,h2,h3,h4,h5⟩:=Bu aX aR;obtain⟨bb,k1,k2,k3,k4,k5⟩:=Bu aH aR;subst h1 k1;have lr:=rG.size;have d0:=(bd rG (a:=ay ba (i*3)) h2).1.trans h3;have d1:=(bd rG (a:=ay ba (i*3+1)) h2).1.trans h4;have d2:=(bd rG (a:=ay ba (i*3+2)) h2).1.trans h5;have f0:=(bd rG (a:=ay bb (i*3)) k2).1.trans k3;have f1:=(bd rG (a:=ay bb (i*3+1)) k2).1.trans k4;have f2:=(bd rG (a:=ay bb (i*3+2)) k2).1.trans k5
      clear h3 h4 h5 k3 k4 k5 aR;go_wp2_with fail
      go_quiet (fail)
      go_wp2_with fail
      go_roundw
      case rel=>exact⟨i+1,ag,eB,iA,⟨rG.os,rG.tape,rG.output,rG.size,rG.block⟩⟩
      case measure=>simp[intOf];omega
     have aM:¬((i:Int)<ne):=ag
     have bU:=bj (aA.kept rG);have cH:i=ne:=ag
     clear aA aX aH;obtain⟨wC,c8⟩:∃z:aa,z=wr:=⟨_,rfl⟩;subst c8;have b8:Hid (wC.grownBy wC none):=aw _ _;go_wp2_with fail
     go_loopw [13,15] (λov iv wx=>∃i:Nat,i<=mo/\ov=.bool true/\iv=aj i/\Hid (wC.grownBy wx none)) (λ_ iv _=>mo-(intOf iv).toNat)
     case atStart=>exact⟨0,ag,rfl,rfl,b8⟩
     case round=>
      clear b8;obtain⟨q,hq,rfl,rfl,a3⟩:=hrel;have Z:=bj (bU.kept a3);by_cases cF:q<mo
      .have bE:(q:Int)<mo:=ag
       have a2:Full wr ob 169 (mo*2) (mo*2) (oC il):=Z.at 6 (X:=.full ob 169 (mo*2) (oC il)) rfl;have o0:=a2.cell (q*2) ag;have o1:=a2.cell (q*2+1) ag;rw[GM]at o0;rw[GL]at o1;have aN:=a2.lt;clear a2;by_cases bZ:q<iC
       .have bA:(q:Int)<iC:=ag
        obtain⟨y,hy⟩:∃y,il[q]? = some y:=⟨_,bz (by rw[<-W.out];exact bZ)⟩;have hg:il.getD q (77,0)=y:=by rw[cr,hy];rfl
        rw[hg]at o0 o1;obtain⟨a,rfl⟩:∃a,Y=some a:=by
         cases Y with
         | none=>rw[HI.2.2.2.1 rfl]at hy;simp at hy
         | some a=>exact⟨a,rfl⟩
        obtain⟨z1,z2,z3⟩:=HI.cell Z.b rfl hy;have z4:wr.cell? (ay ((a.add (q*2)).block) ((a.add (q*2)).off+1))=some (dy y.2):=by
         rw[<-D.mT a (q*2) 1]at z3;exact z3
        have G:wr.heap[sb]? = some (.cells #[aj kind,aj hh,aj ticks,.slice (some a) iC ic] 76 (0,0)):=Z.at 13 (X:=Hy sb kind hh ticks (some a) iC ic) rfl;obtain⟨_,_,_,b3,a8⟩:=jj G;clear G z3 hy hg;go_wp2_with fail
        go_quiet (fail)
        go_wp2_with fail
        go_roundw
        case rel=>exact⟨q+1,ag,eB,iA,⟨a3.os,a3.tape,a3.output,a3.size,a3.block⟩⟩
        case measure=>simp[intOf];omega
       have bA:¬((q:Int)<iC):=ag
       have hg:il.getD q (77,0)=(77,0):=by rw[cr,dK (by rw[<-W.out];omega)];rfl
       rw[hg]at o0 o1;clear hg;have cI:wr.cell? (ay ob (q*2+1))=some (dy 0):=o1;clear o1;go_wp2_with fail
       go_roundw
       case rel=>exact⟨q+1,ag,eB,iA,a3⟩
       case measure=>simp[intOf];omega
      have bE:¬((q:Int)<mo):=ag
      have aS:=bj (Lk (n:=n) (Ev:=xN n (.slice ra.1 E.length ra.2) itv) (Z.at 7 (X:=.full bk 81 3 (xN n (.slice ra.1 E.length ra.2) itv)) o.2.2.2.2.1) rfl rfl (Z.at 8 (X:=.row 119 2 ra.1 E.length ra.2 (iT E)) o.2.2.2.2.2.1) (Z.at 12 (X:=.row 48 3 a6 u.ev.length c6 (mA u.ev)) rfl) hn hE (gp b6.out));rw[<-aP.out]at aS;go_wp2_with fail
      refine du aS ?_;rintro w9 ⟨Q,xq,bS,bX,hQ,b4,bG⟩;have bD:=bj bG;have HQ:=bj hQ;have bR:=bj b4;clear bG aS hQ b4;go_wp2_with fail
      go_ret;refine⟨rfl,{ x with s:=u.ns,g:=g6,m:=m7,h:=h7 },(bS,bX),Q.map (λy=>(y,-((n:Int)+1))),rfl,rfl,aG.1,H.next a5.1 a5.2 aB HI.2.2.1 cC aG.2 g6 h7,eV ef HQ,λy hy=>?_,?_⟩
      .obtain⟨z,hz,rfl⟩:=eK.1 hy;have h1:=(bD.q z hz).2.1;have h2:=bR.out;show z.2.1<=1000;omega
      have h1:=Z.take (r:=8) (l:=10) (P:=om) (sz:=3) (T:=48) (T':=119) ⟨ek,ek,ek⟩ ⟨ek,ek⟩ o.2.2.2.2.1 o.2.2.2.2.2.1 o.2.2.2.2.2.2.1 (show _=Ob.row 48 3 a6 u.ev.length c6 (mA u.ev) from rfl) rfl ek ek ek (by rw[<-aP.out];exact bD);rw[Dv]at h1;have h2:=(h1.drop 13).B5 6 (X:=.zq ob 169 (mo*2)) (dw _ _) (by
       obtain⟨c,k1,k2,_⟩:Full w9 ob 169 (mo*2) (mo*2) (oC il):=h1.at 6 (X:=.full ob 169 (mo*2) (oC il)) rfl;exact⟨c,k1,k2⟩) (λk hk=>af hk)
      refine h2.eq (λi=>?_);by_cases hi:i<14
      .rcases Ae hi with rfl|rfl|rfl|rfl|rfl|rfl|rfl|rfl|rfl|rfl|rfl|rfl|rfl|rfl<;>first|rfl|exact o.2.2.2.1|exact o.2.2.2.2.2.2.2.1|exact o.2.2.2.2.2.2.2.2
      repeat rw[gE _ _ ag]
theorem Du(n:Nat)(a b c:Value):eC (eC (xN n a b) 0 (aj ((n:Int)+1))) 2 c=xN (n+1) a c:=by
 funext j
 unfold eC xN;grind
theorem kX{b:Nat}{T:TypeId}(h:w.heap[b]? = some (.cells #[x,y] T (0,0))):w.cell? (ay b 0)=some x/\w.cell? (ay b 1)=some y/\b<w.heap.size:=⟨fy h,fy h,ch h⟩
theorem jv.ask{O:Nat->Ob}(h:jv w0 O w)(e0:O 0=.Ba p s g mb)(e:zC p s g mb w s g w'):jv w0 O w':=by
 have u:(O 0).bs=λk=>eH p s g k\/k=mb:=jx e0;refine (h.B5 0 (X:=.Ba p s g mb) (w':=w') (eV u e.o) e.m (λk y=>af eR)).eq (λi=>?_);grind[jW,gE]
theorem jv.NP{O:Nat->Ob}{n c:Nat}{a:Option Addr}{xs:List Value}(h:jv w0 O w)(e0:O 0=.Ba p s g mb)(y:zC p s g mb w s g w')(W:w'.ownsRow w.heap.size 3 1 (.slice a n c) n xs):jv w0 (gf O 12 (.row 3 1 a n c xs)) w':=by
 have H:(O 0).bs=λk=>eH p s g k\/k=mb:=jx e0;have u:=λk e=>(dP W k (eV dF e)).1;have Z:=h.split 0 12 ek (X:=.Ba p s g mb) (Y:=.row 3 1 a n c xs) (w':=w') (eV H y.o) y.m (gV W (dk _)) (λk e=>af eR) (λk e=>ah (u k e)) (λk e G=>by
  have h2:=u k G;have h3:=h.lt (i:=0) (eV H e);omega)
 grind[jW,gE,F.jv.eq]
theorem Jy{n c:Nat}{ad:Option Addr}{l:List Nat}{j v:Nat}(h:w.ownsRow i 3 1 (.slice ad n c) n (l.map (λt:Nat=>Value.int .i64 t)))(o:l[j]? = some v):∃b,ad=some (ay b 0)/\b<w.heap.size/\w.cell? (ay b j)=some (aj v):=by
 have u:=(cf.1 o).1;have hn:n≠0:=λe=>by
  have:=h.1;grind
 obtain⟨b,J,G⟩:=ee h hn;injection G with H _ y;subst H y;exact⟨b,rfl,(dP h b rfl).2.1,mu h eR⟩
def FO(O:Nat->Ob)(bk n:Nat)(J:List (Sl×Int))(evv:Value)(w0 w':aa):Prop:=∃(rb:Option Addr×Nat) (Q:List (Sl×Int)),Q.length=4/\(∀y,y∈Q->y.1.2.1<=600000000) /\
 jv w0 (gf (gf (gf O 7 (.full bk 81 3 (xN (n+1) evv (.slice rb.1 (J++Q).length rb.2)))) 9 (.row 121 2 rb.1 (J++Q).length rb.2 (iT (J++Q)))) 11 (.lists 3 1 sR (J++Q))) w'
theorem GG{O:Nat->Ob}{x:qB}{n:Nat}{rb:Option Addr×Nat}{J:List (Sl×Int)}{evv:Value}(hf:jv w0 O w)(e0:O 0=.Ba x.p x.s x.g x.mb)(e1:O 1=.doc x.d x.m x.h)(e2:O 2=.one x.pb (.cells #[P0 x.mb,P0 x.h.mb] 74 (0,0)))(e7:O 7=.full bk 81 3 (xN n evv (.slice rb.1 J.length rb.2)))(e9:O 9=.row 121 2 rb.1 J.length rb.2 (iT J))(aK:O 11=.lists 3 1 sR J)(aG:O 12=.nil)(hG:x.Good I)(a5:(x.s.q 2 0).length<=100000000)(hn:n<=1000000000)(hJ:J.length<=100000000): dD 50 #[P0 bk,P0 x.pb] w (.bool true) λw'=>FO O bk n J evv w0 w':=by
 have o:=bj (bh e0 (bh e1 (bh e2 (bh e7 (bh e9 (bh aK aG))))));have HF:=bj hf;have hM:tS x.p x.s x.g x.mb w:=hf.at 0 e0;have a3:=bj hM.queue;have H:w.heap[x.pb]? = some (.cells #[P0 x.mb,P0 x.h.mb] 74 (0,0)):=hf.at 2 e2;obtain⟨p0,p1,aM⟩:=kX H;have W:Hid (x.m.q=x.s.q 2 0):=by
  obtain⟨ρ,hS⟩:=hG.Ks;exact hS.q
 obtain⟨l,hl⟩:∃l,l=x.s.q 2 0:=⟨_,rfl⟩;rw[<-hl]at a5 a3 W;clear e0 e1 e2 e7 e9 aK aG hG hf hM H hl;obtain⟨nq,a7⟩:∃nq,nq=l.length:=⟨_,rfl⟩;rw[<-a7]at a5 a3;have a6:=bj a7;clear a7;delta dD;go_in;go_wp2_with fail
 refine du a3 ?_;rintro w1 ⟨a4,aA⟩;have G:=bj (HF.NP o.1 aA a4);have a0:Hid (D.dZ x.d x.m x.h w1):=G.at 1 o.2.1;have H:w1.heap[x.pb]? = some (.cells #[P0 x.mb,P0 x.h.mb] 74 (0,0)):=G.at 2 o.2.2.1;obtain⟨r0,r1,aR⟩:=kX H;have c7:dS w1 x.h.mb 7=some (.slice (x.h.ro 2 0).1 nq (x.h.ro 2 0).2):=by
  have:=(a0.mc 7 ag (v:=.slice (x.h.ro 2 0).1 x.m.q.length (x.h.ro 2 0).2) rfl).1;rw[W.out,<-a6.out]at this;exact this
 have u:Hid (gd w1 3 (.slice (x.h.ro 2 0).1 nq (x.h.ro 2 0).2) (D.jJ l)):=by
  have:=a0.Q;have e:D.je x.m x.h 2 0=.slice (x.h.ro 2 0).1 nq (x.h.ro 2 0).2:=by rw[a6.out,<-W.out];rfl
  rw[e,W.out]at this;exact this
 obtain⟨a2,aF⟩:∃a2,a2=(x.h.ro 2 0).1:=⟨_,rfl⟩;obtain⟨c2,aH⟩:∃c2,c2=(x.h.ro 2 0).2:=⟨_,rfl⟩;rw[<-aF,<-aH]at c7 u;have a8:=bj (gV a4 (dk _));clear a4 aA H a3 HF p0 p1 aM aF aH a0;obtain⟨a1,aI⟩:∃a1:Option Addr,a1=some (ay w.heap.size 0):=⟨_,rfl⟩;(try simp only[dA,ay]at G a8 ⊢);rw[<-aI]at G a8 ⊢;clear aI;go_wp2
 go_loopw [7,8] (λov iv wx=>∃i:Nat,i<=nq/\ov=.bool true/\iv=aj i/\Hid (w1.grownBy wx none)) (λ_ iv _=>nq-(intOf iv).toNat)
 case atStart=>exact⟨0,ag,eB,rfl,aw _ _⟩
 case round=>
  obtain⟨i,hi,rfl,rfl,Z⟩:=hrel;by_cases aN:i<nq
  .have aD:(i:Int)<nq:=ag
   obtain⟨v,hv⟩:∃v,l[i]? = some v:=⟨_,bz (by rw[<-a6.out];exact aN)⟩;obtain⟨ba,rfl,k2,k3⟩:=Jy a8 hv;have lr:=Z.size;have d0:=(bd Z (a:=ay ba i) k2).1.trans k3;obtain⟨bb,oo,aP,aJ,aQ⟩:∃bb oo,a2=some (ay bb oo)/\dS w1 bb (oo+i)=some (aj v)/\bb<w1.heap.size:=by
    cases a2 with
    | none=>
     rcases u with⟨_,h⟩|⟨g,off,cap,n',P,h,_⟩
     .grind
     cases h
    | some a=>
     rcases id u with⟨h,_⟩|⟨g,off,cap,n',P,h,_⟩
     .cases h
     injection h with h _ _;injection h with h;subst h;exact⟨g,off,rfl,u.cell.2 i _ (by unfold D.jJ;rw[eP,hv];rfl),u.lt g rfl⟩
   subst aP;have f0:=(bd Z (a:=ay bb (oo+i)) aQ).1.trans aJ
   go_wp2
   go_quiet (fail)
   go_wp2
   go_roundw
   case rel=>exact⟨i+1,ag,eB,iA,⟨Z.os,Z.tape,Z.output,Z.size,Z.block⟩⟩
   case measure=>simp[intOf];omega
  have aD:¬((i:Int)<nq):=ag
  have Y:=bj (G.kept Z);go_wp2_with fail
  refine du (bj (Lj (n:=n) (Ev:=xN n evv (.slice rb.1 J.length rb.2)) (Y.at 7 (X:=.full bk 81 3 (xN n evv (.slice rb.1 J.length rb.2))) o.2.2.2.1) rfl rfl (Y.at 9 (X:=.row 121 2 rb.1 J.length rb.2 (iT J)) o.2.2.2.2.1) (Y.at 12 (X:=.row 3 1 a1 nq nq (l.map (λt:Nat=>Value.int .i64 t))) rfl) hn hJ a5)) ?_;rintro w9 ⟨Q,xq,aL,aO,hQ,aE,aB⟩;have a9:=bj aB;go_wp2
  go_ret;refine⟨rfl,(aL,aO),Q.map (λy=>(y,-((n:Int)+1))),by rw[ef];exact (bj (bh hQ aE)).out.1,λy hy=>?_,?_⟩
  .obtain⟨z,hz,rfl⟩:=eK.1 hy;have h1:=(a9.q z hz).2.1;show z.2.1<=_;omega
  have h1:=Y.take (r:=9) (l:=11) (P:=sR) (sz:=1) (T:=3) (T':=121) ⟨ek,ek,ek⟩ ⟨ek,ek⟩ o.2.2.2.1 o.2.2.2.2.1 o.2.2.2.2.2.1 (show _=Ob.row 3 1 a1 nq nq (l.map (λt:Nat=>Value.int .i64 t)) from rfl) rfl ek ek ek a9;rw[Du]at h1;refine h1.eq (λi=>?_);by_cases hi:i<14
  .rcases Ae hi with rfl|rfl|rfl|rfl|rfl|rfl|rfl|rfl|rfl|rfl|rfl|rfl|rfl|rfl<;>first|rfl|exact o.2.2.2.2.2.2
  repeat rw[gE _ _ ag]
