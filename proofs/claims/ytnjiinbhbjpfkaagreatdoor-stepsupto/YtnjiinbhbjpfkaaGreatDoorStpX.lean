import Derived.Test.YtnjiinbhbjpfkaaGreatDoorStpW
set_option maxRecDepth 100000
set_option maxHeartbeats 0
set_option linter.all false
namespace Go.Proofs.YtnjiinbhbjpfkaaGreatDoor
open Go.RowKit Go.Proofs.Tryz
namespace D
open F
variable {p : dz} {d : Dp} {K : Nat} {s s' : Pl} {m m' : Dm} {g g' : Dg} {w w' : World} {ρ : Nat → Nat}
theorem dQ.Ly{p:Dp}(h:dQ p m g w):Tr p m g w m.lD (g.at 4 0 (none,0)) (w.setCell ⟨g.mb,15,none⟩ (.slice none 0 0)):=by
 refine h.Cs 4 0 (m6 (by omega)) (by omega) (λ_ _ _=>rfl) (bm (S:=λk=>k=g.mb\/(ok p m g 4 0 0).bs k) (a:=⟨g.mb,15,none⟩) (dk _ _) (ag (ag rfl)) _) (λx y z H Y W=>ok_eq (e0:=λe=>ch e Y) (er:=λZ=>?_) (eq:=λe=>by rcases e with rfl|rfl<;>exact⟨qG g _ (by omega),rfl,rfl⟩) (hx:=kG H)) ((h.M.ep 15 _).congr (λi hi=>?_)) ?_ (λk J=>?_)
 .have G:¬(x=4/\y=0):=λe=>W ⟨e.1,e.2,(jC H (by omega)).2⟩;have o:x≠4:=λe=>G ⟨e,(jC H (by omega)).1⟩;refine⟨qG g _ G,?_,?_⟩
  .unfold qz;rw[aa o,aa o];rfl
  rw[CF _ _ _ _ (by decide)];unfold rC;rw[aa o,aa o];rfl
 .unfold ep;by_cases e:i=15
  .subst e;rw[aj rfl];show _=Value.slice ((g.at 4 0 (none,0)).ro 4 0).1 0 ((g.at 4 0 (none,0)).ro 4 0).2;rw[xS]
  rw[aa e,CY p m.lD g _ 15 (by omega) i e];unfold mE;rw[aa e,aa e];rfl
 .show World.ownsRow _ 0 48 3 (.slice ((g.at 4 0 (none,0)).ro 4 0).1 0 ((g.at 4 0 (none,0)).ro 4 0).2) 0 (kE []);rw[xS];exact dJ _ _ _ _
 have u:eO ((g.at 4 0 (none,0)).ro 4 0).1=some k:=J;rw[xS]at u
 cases u
theorem dQ.GQ{p:Dp}(h:dQ p m g w)(c:Int):Tr p m g w (m.fF c) g (w.setCell ⟨g.mb,5,none⟩ (.int .i64 c)):=h.wQ 5 _ ⟨rfl,rfl,rfl,rfl,rfl,rfl,rfl,rfl⟩ (λi hi=>by
 have e:i=0\/i=1\/i=2\/i=3\/i=4\/i=5\/i=6\/i=7\/i=8\/i=9\/i=10\/i=11\/i=12\/i=13\/i=14\/i=15\/i=16\/i=17\/i=18\/i=19\/i=20\/i=21\/i=22\/i=23:=by omega
 rcases e with rfl|rfl|rfl|rfl|rfl|rfl|rfl|rfl|rfl|rfl|rfl|rfl|rfl|rfl|rfl|rfl|rfl|rfl|rfl|rfl|rfl|rfl|rfl|rfl<;>rfl)
theorem H5{c:Dc}{n N a b:Nat}(h:GA c n)(y:c.fu=false->c.bg=false->N<=n):GA (c.rf a b N) n:=by
 obtain⟨i,u,o⟩:=h;unfold Dc.rf
 cases hf:c.fu with
 |true=>rw[aj rfl];exact⟨i,u,o⟩
 |false=>
  rw[aa (by decide)];have e:GA ((c.FG a N).Ef b) n:=by
   unfold Dc.Ef Dc.FG
   cases e:c.bg with
   |true=>rw[aj rfl];exact⟨i,u,o⟩
   |false=>rw[aa (by decide)];exact⟨i,y hf e,o⟩
  unfold Dc.fin;split
  .exact⟨e.1,e.2.1,e.2.1⟩
  exact e
section
variable (p d K m g w ρ)
def Iu(fin:Pl)(ys:List (Int×Nat))(w1:World):Prop:=∃s1 m1 g1,Tr d m g w m1 g1 w1/\eK p K s1 m1 ρ/\Ok p s1/\Ng s1/\s1.nt≠0/\s1.eN ys=fin/\ys=[]
def LO(fin:Pl)(n:Nat)(w1:World):Prop:=∃s1 m1 g1,(s1.q 3 0).length=n/\Tr d m g w m1 g1 w1/\eK p K s1 m1 ρ/\Ok p s1/\Ng s1/\s1.nt≠0/\s1.gr (s1.q 3 0)=fin
def ID(fin:Pl)(n B:Nat)(w1:World):Prop:=∃s1 m1 g1,(s1.q 3 0).length=n/\Tr d m g w m1 g1 w1/\eK p K s1 m1 ρ/\Ok p s1/\Ng s1/\s1.nt≠0/\s1.gr (s1.q 3 0)=fin/\((B=0/\fin=s1)\/(B≠0/\∃l,s1.q 3 0=B :: l/\(s1.T B).iL<=s1.eY))
def D8(s3:Pl)(w1:World):Prop:=∃m1 g1 ρ1,Tr d m g w m1 g1 w1/\eK p (K+p.qn) s3 m1 ρ1
def J4(s3:Pl)(v:Value)(w1:World):Prop:=∃m1 g1 ρ1,Tr d m g w m1 g1 w1/\eK p (K+p.qn) s3 m1 ρ1/\(v=iR m1 g1 4 0\/(v=.slice none 0 0/\m1.ev=[]))
end
variable {fin s3 : Pl} {n B : Nat} {w1 w2 : World} {ys : List (Int × Nat)} {x : Int × Nat}
theorem Mi(hP:PD p d)(h:Iu p d K m g w ρ fin (x :: ys) w1):Calls prog 142 #[P0 g.mb,.agg #[.int .i64 x.1,.int .u8 (x.2:Int)]] w1 λe w'=>e=.returned (.tuple #[])/\Iu p d K m g w ρ fin ys w':=by
 obtain⟨_,_,_,_,_,_,_,_,_,i⟩:=h
 cases i
theorem JN(h:LO p d K m g w ρ fin n w1):Calls prog 143 #[P0 g.mb] w1 λe w'=>∃B:Nat,e=.returned (.int .i64 (B:Int))/\ID p d K m g w ρ fin n B w':=by
 obtain⟨s1,m1,g1,Z,i,o,y,a4,u,G⟩:=h;have H:=Lw i.r (by rw[o.nt];exact u);rw[i.b]at H;refine H.mono ?_;rintro e w' ⟨B,rfl,_,J,Y⟩;refine⟨B,rfl,s1,m1,g1,Z,i.kept Y,o,y,a4,u,G,?_⟩;rcases o.due y J with⟨e,hh⟩|⟨e,l,W,ht⟩
 .refine ag ⟨e,?_⟩;rw[<-G]
  cases hq:s1.q 3 0 with
  |nil=>rfl
  |cons a l=>
   show(if(s1.T a).iL<=s1.eY then _ else s1)=s1;rw[aa (hh a l hq)]
 exact ab ⟨e,l,W,ht⟩
theorem De{t:Nat}{l:List Nat}(o:Ok p s)(i:s.q 3 0=t :: l):(s.dV 2 0 t).q 3 0=l:=by
 show((s.dw t).eZ 2 0 ((s.dw t).q 2 0++[t])).q 3 0=l;rw[fL _ _ (by omega),fN ((o.lw.b 3 0 (ab (ag ⟨rfl,rfl⟩)) t (by rw[i];simp)).2)];show(s.eZ 3 0 ((s.q 3 0).erase t)).q 3 0=l;rw[fX,i];simp
theorem Ja{b:Nat}(h:ID p d K m g w ρ fin n (b+1) w1):∃tb nt cap v,w1.cell? ⟨g.mb,6,none⟩=some (.slice (some ⟨tb,0,none⟩) nt cap)/\b<nt/\nt<1000000000/\w1.cell? ⟨tb,b*8+2,none⟩=some v/\w1.frozen? ⟨tb,b*8+2,none⟩=false/\g.mb≠tb /\ Calls prog 144 #[P0 g.mb,.int .i64 ((b:Int)+1),.agg #[.int .i64 0,.int .i64 0]] (w1.setCell ⟨tb,b*8+2,none⟩ (.int .i64 (-1))) λe w'=>e=.returned (.tuple #[])/\∃k,k+1=n/\LO p d K m g w ρ fin k w':=by
 obtain⟨s1,m1,g1,a0,o,J,u,a4,a5,a6,a7⟩:=h;obtain⟨_,l,W,ht⟩:b+1≠0/\∃l,s1.q 3 0=(b+1) :: l/\(s1.T (b+1)).iL<=s1.eY:=a7.resolve_left (λe=>by omega);have G:fz s1 3 0:=ab (ag ⟨rfl,rfl⟩);have hm:b+1∈s1.q 3 0:=by rw[W];simp
 have y:=u.ql 3 0 G _ hm;obtain⟨aA,a9⟩:=u.lw.b 3 0 G _ hm;have i:=(iw J (b+1)).2 aA;obtain⟨tb,e1,hT,tc⟩:=o.r.tc i;have c6:w1.cell? ⟨g.mb,6,none⟩=some (.slice (some ⟨tb,0,none⟩) m1.nt (g1.ro 1 0).2):=by
  rw[show some (⟨tb,0,none⟩:Addr)=(g1.ro 1 0).1 by rw[e1],<-o.b];exact(o.r.mc 6 (by omega) rfl).1
 obtain⟨t2,z2⟩:=tc.c 2 (by omega);rw[dC]at t2 z2;have Z:=o.r.sw (t:=b+1) i e1 2 (by omega) (.int .i64 (-1)) (x':={ m1.T (b+1) with into:=-1 }) rfl (λj hj=>by
  have hc:j=0\/j=1\/j=2\/j=3\/j=4\/j=5\/j=6\/j=7:=by omega
  rcases hc with rfl|rfl|rfl|rfl|rfl|rfl|rfl|rfl<;>rfl)
 rw[dC]at Z;have hR:=Cz (t:=b+1) (0,0) Z.r i (J.small u).1 (J.small u).2 (λe=>by
  rw[fG]at e;have:(0:Int)<=-1:=e;omega)
 rw[o.b,show(((b+1:Nat)):Int)=(b:Int)+1 by omega]at hR
 refine⟨tb,m1.nt,(g1.ro 1 0).2,_,c6,by omega,(J.small u).1,t2,z2,(by rw[<-o.b];exact o.r.M.ne hT (by decide)),hR.mono ?_⟩;rintro e w' ⟨rfl,g',h3⟩
 have H:=De u W;refine⟨rfl,l.length,by rw[<-a0,W];rfl,s1.dV 2 0 (b+1),_,g',by rw[H],(o.trans Z).trans h3,J.KH u y (by rw[a9];intro e;injection e with e;injection e with e _;omega) rfl (0,0),u.dV y,a4.join 2 0 _,by rw[iX];exact a5,?_⟩;rw[H,<-a6,W];show _=if(s1.T (b+1)).iL<=s1.eY then(s1.dV 2 0 (b+1)).gr l else s1
 rw[aj ht]
theorem Kz{t:Nat}{r:List Nat}(hP:PD p d)(hG:∀f,f<p.nf->2<=p.rg f/\p.rg f<=8)(hPI:PI p)(hK:K+p.qn<900000000)(h:ID p d K m g w ρ fin n 0 w1)(hn:fin.nt+p.qn<=500000000)(he:fin.ev=[])(aI:p.qn<=50)(W:fin.q 2 0=t :: r)(hf:gO p fin s3): ∃b off cap,w1.cell? ⟨g.mb,7,none⟩=some (.slice (some ⟨b,off,none⟩) (r.length+1) cap)/\w1.frozen? ⟨g.mb,7,none⟩=false/\r.length+1<=cap/\r.length<1000000000/\b≠g.mb/\w1.cell? ⟨b,off,none⟩=some (.int .i64 (t:Int)) /\ Calls prog 145 #[P0 g.mb,.int .i64 (t:Int)] (w1.setCell ⟨g.mb,7,none⟩ (.slice (some ⟨b,if cap=1 then off else off+1,none⟩) r.length (cap-1))) λe w'=>e=.returned (.tuple #[])/\D8 p d K m g w s3 w':=by
 obtain⟨s1,m1,g1,a0,y,a2,J,a4,a5,a6,a7⟩:=h;have aF:fin=s1:=by
  rcases a7 with e|e
  .exact e.2
  exact ch rfl e.1
 subst aF;have u:m1.q=t :: r:=by rw[a2.q,W]
 have hQ:=y.r.Q;have aG:iI m1.q=iK (t:Int) :: iI r:=by rw[u];rfl
 rw[aG]at hQ;obtain⟨b,off,Z,e2,e3,e4,e5,e6⟩:=fM.tail hQ;rw[iH]at e2 e3 e6;have i:=y.b;have aH:(ok d m1 g1 2 0 0).bs b:=by
  show eO (g1.ro 2 0).1=some b;rw[Z];rfl
 have G:b≠g.mb:=by rw[<-i];exact y.r.ne (x':=0) (y':=0) (z':=0) (m6 (by omega)) rfl aH rfl (by omega)
 have c7:=y.r.mc 7 (by omega) (v:=.slice (g1.ro 2 0).1 m1.q.length (g1.ro 2 0).2) rfl;rw[i,Z,u]at c7;have hS:=Tr.eZ y (l:=r) (r:=(some ⟨b,if(g1.ro 2 0).2=1 then off else off+1,none⟩,(g1.ro 2 0).2-1)) (w':=w1.setCell ⟨g1.mb,7,none⟩ (.slice (some ⟨b,if(g1.ro 2 0).2=1 then off else off+1,none⟩) r.length ((g1.ro 2 0).2-1))) (bm (S:=λk=>k=g1.mb\/eO (g1.ro 2 0).1=some k) (a:=⟨g1.mb,7,none⟩) (dk _ _) (ag (ag rfl)) _) (y.r.M.ep 7 _) (e6.block (λj hj=>af _ _ _ _ (by
   have:j=b:=by simpa[Value.ownBlock] using hj.symm
   rw[this,i];exact G))) (λj hj=>ag (by
   rw[Z];exact hj))
 have o:=J.ql 2 0 (ag ⟨rfl,rfl⟩) t (by rw[W];simp);have Y:Ok p (fin.start t):=J.start o
 obtain⟨o1,_,_,o4,_⟩:=gz fin t;have aE:(fin.start t).nt=fin.nt:=fO fin t;have aB:(fin.start t).ev=[]:=by show(fin.dw t).ev=[];rw[o4];exact he
 unfold gO at hf;rw[W]at hf;obtain⟨s2,r1,r2⟩:=hf;have hD:=Ky hP hG hPI hK (by rw[aE];exact hn) (by rw[aB];show 0+p.qn<=100000;omega) hS.r (a2.start J o W) (⟨Y,by show t∈(fin.dw t).lv;rw[o1];exact o,by unfold Pl.start;rw[df]⟩) (a4.start t) r1;rw[show(g1.at 2 0 (some ⟨b,if(g1.ro 2 0).2=1 then off else off+1,none⟩,(g1.ro 2 0).2-1)).mb=g.mb from i,i]at hD;refine⟨b,off,(g1.ro 2 0).2,c7.1,c7.2,e3,?_,G,e5,hD.mono ?_⟩
 .have:=(a2.small J).2;rw[u]at this;have h9:r.length+1<=1000000000:=this;omega
 rintro e w' ⟨rfl,m',g',ρ',h1,h2⟩;rw[i]at hS;exact⟨rfl,m',g',ρ',hS.trans h1,by rw[r2];exact h2⟩
theorem D8.of(h:ID p d K m g w ρ fin n 0 w1):D8 p d K m g w fin w1:=by
 obtain⟨s1,m1,g1,J,u,o,H,W,G,Y,y⟩:=h;have i:fin=s1:=by
  rcases y with e|e
  .exact e.2
  exact ch rfl e.1
 rw[i];exact⟨m1,g1,ρ,u,o.mono (by omega)⟩
theorem H7(hP:PD p d)(hG:∀f,f<p.nf->2<=p.rg f/\p.rg f<=8)(hK:K+p.qn<900000000)(o:d.n<=1000000)(h:D8 p d K m g w s3 w1)(W:Ok p s3)(hn:s3.nt≠0):Calls prog 146 #[P0 g.mb] w1 λe w'=>e=.returned (.tuple #[])/\D8 p d K m g w s3 w':=by
 obtain⟨m1,g1,ρ1,i,u⟩:=h;have y:=u.kX W hP hG hK hn;have G:=DK i.r y o;rw[i.b]at G;refine G.mono ?_;rintro e w' ⟨rfl,N,Z,Y⟩;exact⟨rfl,_,g1,ρ1,i.trans Y,u.gT (H5 u.A (λJ H=>(Z J H).le y))⟩
theorem D8.sp(h:D8 p d K m g w s3 w1):w1.cell? ⟨g.mb,14,none⟩=some (.bool s3.sp):=by
 obtain⟨m1,g1,ρ1,e,i⟩:=h;have:=(e.r.mc 14 (by omega) rfl).1;rw[e.b]at this;rw[<-i.sp];exact this
theorem D8.out(h:D8 p d K m g w s3 w1):∃v,w1.cell? ⟨g.mb,15,none⟩=some v/\J4 p d K m g w (s3.im p) v w1:=by
 obtain⟨m1,g1,ρ1,e,i⟩:=h;have:=(e.r.mc 15 (by omega) rfl).1;rw[e.b]at this;exact⟨_,this,m1,g1,ρ1,e,i.tQ _,ag rfl⟩
end D
namespace D
open F
variable {p : dz} {d : Dp} {K : Nat} {s s' : Pl} {m m' : Dm} {g g' : Dg} {w w' : World} {ρ : Nat → Nat}
theorem kS(a:Addr)(m n:Nat):(a.add m).add n=a.add (m+n):=by
 unfold Addr.add;by_cases h:m=0<;>by_cases e:n=0<;>simp[h,e,Nat.add_assoc]
theorem qN(a:Addr)(m:Nat):(a.add m).block=a.block:=by unfold Addr.add;split<;>rfl
def LJ(w:World)(ad:Option Addr)(n:Nat)(l:List (Int×Nat))(F:Nat->Prop):Prop:=
 n=l.length/\n<=1000000000/\l=[]/\(ad=none->l=[])/\∀a,ad=some a->l≠[]->a.block<w.heap.size/\¬F a.block/\∀j x,l[j]? = some x->w.cell? (a.add (j*2))=some (.int .i64 x.1)/\w.cell? (a.add (j*2+1))=some (.int .u8 (x.2:Int))
theorem Iu.cell{fin:Pl}{ys l:List (Int×Nat)}{H:Nat}{a:Addr}{w1:World}(h:Iu p d K m g w ρ fin ys w1)(hI:LJ w (some a) H l (ey d m g)){j:Nat}{x:Int×Nat}(i:l[j]? = some x):w1.cell? (a.add (j*2))=some (.int .i64 x.1)/\w1.cell? (a.add (j*2+1))=some (.int .u8 (x.2:Int)):=by
 obtain⟨_,_,_,_,J⟩:=hI;obtain⟨s1,m1,g1,G,_⟩:=h
 obtain⟨y,W,Y⟩:=J a rfl (λe=>by rw[e]at i;simp at i);have e:=G.o.same y W;obtain⟨c0,c1⟩:=Y j x i;exact⟨(aw (a:=a.add (j*2)) (by rw[qN];exact e)).trans c0,(aw (a:=a.add (j*2+1)) (by rw[qN];exact e)).trans c1⟩
theorem Jd{fin:Pl}{n:Nat}{w1:World}(h:ID p d K m g w ρ fin n 0 w1):∃ad cap,w1.cell? ⟨g.mb,7,none⟩=some (.slice ad (fin.q 2 0).length cap):=by
 obtain⟨s1,m1,g1,W,o,y,H,Y,G,J,u⟩:=h;have i:fin=s1:=by
  rcases u with e|e
  .exact e.2
  exact ch rfl e.1
 rw[i,<-y.q,<-o.b];exact⟨_,_,(o.r.mc 7 (by omega) (v:=.slice (g1.ro 2 0).1 m1.q.length (g1.ro 2 0).2) rfl).1⟩
theorem IL{ticks:Int}{l:List (Int×Nat)}{ad:Option Addr}{n0 c0:Nat}(hP:PD p d)(hG:∀f,f<p.nf->2<=p.rg f/\p.rg f<=8)(hPI:PI p)(hK:K+p.qn<900000000)(bE:d.n<=1000000)(h:dQ d m g w)(hS:eK p K s m.lD ρ)(hO:Ok p s)(hN:Ng s)(aG:s.ev=[])(aC:s.nt≠0)(hn:s.nt+p.qn<=500000000)(bM:p.qn<=50)(bJ:-9223372036854775808<=ticks)(bG:ticks<=9223372036854775807)(hI:LJ w ad n0 l (ey d m g))(hr:jh p s ticks l s'): Calls prog 75 #[P0 g.mb,.int .i64 ticks,.slice ad n0 c0] w λe w'=>∃v,e=.returned v/\J4 p d K m g w s' v w':=by
 have T0:=h.Ly;have aB:=B.vU (t:=ticks) hO.c0 hO.c1;have hC:Ok p (s.fF (B.iz s.eY ticks)):=hO.fF aB.1 aB.2;obtain⟨aE,W⟩:=nF l (qj hI.2.2.1) hC;obtain⟨aM,aK⟩:=nj _ aE rfl;have aQ:Ng ((s.fF (B.iz s.eY ticks)).eN l):=Ng.eN l (qj hI.2.2.1) hN.same;obtain⟨aH,c2⟩:=h.mc 15 (by omega) (v:=iR m g 4 0) rfl;obtain⟨aF,_⟩:=h.mc 14 (by omega) (v:=.bool m.sp) rfl;have aA:m.sp=s.sp:=hS.sp;rw[aA]at aF;have cQ:=h.M.lt;have cO:=hI.2.1;have b7:Hid (Calls prog 77 #[P0 g.mb] (w.setCell ⟨g.mb,15,none⟩ (.slice none 0 0)) λe w'=>e=.returned (.int .i64 (s.lv.length:Int))/\(w.setCell ⟨g.mb,15,none⟩ (.slice none 0 0)).grownBy w' none):=by
  have h1:=F0 T0.r (by show m.nt≠0;have J:m.nt=s.nt:=hS.nt;rw[J];exact aC);rw[show(g.at 4 0 (none,0)).mb=g.mb from rfl]at h1;refine h1.mono ?_;rintro e w' ⟨N,rfl,_,c9,hg⟩;rw[hS.live hO c9];exact⟨rfl,hg⟩
 have bA:=az T0;have HI:=az hI;have HR:=az hr;have Z:=az (ay hP (ay hG (ay hPI (ay hK (ay bE (ay hS (ay hC (ay hN (ay aG (ay aC (ay hn bM)))))))))));have HY:=az (ay aE (ay W (ay aM (ay aK aQ))));have b9:m.eY=s.eY:=hS.ck;have bR:Hid (∀w0:World,Calls prog 141 #[.int .i64 s.eY,.int .i64 ticks] w0 λe w'=>e=.returned (.int .i64 (B.iz s.eY ticks))/\w'=w0):=λw0=>He s.eY ticks hO.c0 hO.c1 bJ bG;have bU:=az b9;clear T0 aB hC aE W aM aK aQ h hS hO hN aG aC hn bM bJ bG hI hr hP hG hPI bE b9 aA;generalize bP:g.mb=mb at *;have y:=az bP;clear bP;go_in;go_upto_region 2 with fail
 go_cut [7] (λq wx=>∃ov:Bool,q=.bool ov/\Hid ((ov=true↔(s.sp=true\/s.lv=[]))/\(w.setCell ⟨mb,15,none⟩ (.slice none 0 0)).grownBy wx none))
 case first=>
  cases aA:s.sp with
  |true=>
   have aX:=az aA;rw[aA]at aF;go_wp2_with fail
   go_meet
   case rel=>exact⟨true,rfl,⟨λ_=>ag aX.out,λ_=>rfl⟩,ax _ _⟩
  |false=>
   have aX:=az aA;rw[aA]at aF;go_wp2_with fail
   refine b7.out.mono ?_;rintro e w2 ⟨rfl,hg⟩;have bD:=az hg;clear hg;by_cases aP:s.lv=[]
   .go_wp2_with fail
    go_meet
    case rel=>exact⟨true,rfl,⟨λ_=>ab aP,λ_=>rfl⟩,bD.out⟩
   have bY:((s.lv.length:Int) == 0)=false:=by
    rw[dK];exact λe=>aP (cf.1 (by omega))
   go_wp2_with fail
   go_meet
   case rel=>exact⟨false,rfl,⟨λe=>(by cases e),λe=>e.elim (λe=>by rw[aX.out]at e;cases e) (λe=>ch e aP)⟩,bD.out⟩
 case rest=>
  obtain⟨ov,rfl,aW⟩:=hcut;have aN:=az (bA.out.kept aW.out.2);have aY:=az aW.out.1;have bF:(g.at 4 0 (none,0)).mb=mb:=y.out;have c5:wc.cell? ⟨mb,5,none⟩=some (.int .i64 s.eY)/\wc.frozen? ⟨mb,5,none⟩=false:=by
   have J:=aN.out.r.mc 5 (by omega) (v:=.int .i64 m.eY) rfl;rw[bF,bU.out]at J;exact J
  obtain⟨c5,z5⟩:=c5;have bQ:Hid (Tr d m g w (m.lD.fF (B.iz s.eY ticks)) (g.at 4 0 (none,0)) (wc.setCell ⟨mb,5,none⟩ (.int .i64 (B.iz s.eY ticks)))):=by
   have J:=aN.out.trans (aN.out.r.GQ (B.iz s.eY ticks));rw[bF]at J;exact J
  have l5:mb<wc.heap.size:=av wc _ c5;have aR:=az (bR.out wc);clear aF aH c2 b7 aW bA aN bR;go_wp2_with fail
  refine aR.out.mono ?_;rintro e w2 ⟨rfl,rfl⟩;clear aR;generalize aB:B.iz s.eY ticks=iz at *;have bL:=az aB;clear aB;go_wp2_with fail
  have bI:Hid (Iu p d K m g w ρ ((s.fF iz).eN l) l (w2.setCell ⟨mb,5,none⟩ (.int .i64 iz))):=by
   obtain⟨_,_,_,_,_,hS,hC,hN,aG,aC,_,_⟩:=Z.out;exact⟨s.fF iz,_,_,bQ.out,hS.fF iz,hC,hN.same,aC,rfl,HI.out.2.2.1⟩
  clear c5 z5;generalize w2.setCell ⟨mb,5,none⟩ (.int .i64 iz)=w3 at *;go_loopw [8] (λi wr=>∃j:Nat,i=.int .i64 j/\j<=n0/\Hid (Iu p d K m g w ρ ((s.fF iz).eN l) (l.drop j) wr)) (λi _=>n0-(intOf i).toNat)
  case atStart=>exact⟨0,rfl,by omega,by show Iu p d K m g w ρ _ (l.drop 0) _;rw[List.drop_zero];exact bI.out⟩
  case round=>
   obtain⟨j,rfl,hj,rI⟩:=hrel;by_cases cG:j<n0
   .obtain⟨x,hx⟩:∃x,l[j]? = some x:=⟨_,bn (by have:=HI.out.1;omega)⟩;obtain⟨a,rfl⟩:∃a,ad=some a:=by
     cases ad with
     |none=>rw[HI.out.2.2.2.1 rfl]at hx;simp at hx
     |some a=>exact⟨a,rfl⟩
    obtain⟨b3,c1⟩:=rI.out.cell HI.out hx;obtain⟨bB,b4⟩:=bu.1 hx;have b2:l.drop j=x :: l.drop (j+1):=by rw[<-b4];exact List.drop_eq_getElem_cons bB
    rw[b2]at rI;have bH:(j:Int)<(n0:Int):=by omega
    have aO:=az (Mi Z.out.1 rI.out);rw[y.out]at aO;obtain⟨z,b⟩:=x;simp only at b3 c1 aO;rw[<-kS]at c1;have bW:wr.cell? ⟨(a.add (j*2)).block,(a.add (j*2)).off+1,none⟩=some (.int .u8 (b:Int)):=c1;clear c1 hx b4 b2 bB rI;go_wp2_with fail
    refine aO.out.mono ?_;rintro e w4 ⟨rfl,b5⟩;have c3:=az b5;clear b5 aO b3 bW;go_wp2_with fail
    go_roundw
    case rel=>exact⟨j+1,by go_num,by omega,c3⟩
    case measure=>simp[intOf];omega
   obtain rfl:j=n0:=by omega
   have bH:¬((j:Int)<(j:Int)):=by omega
   have b0:Hid (∃m1 g1,Tr d m g w m1 g1 wr/\eK p K ((s.fF iz).eN l) m1 ρ):=by
    obtain⟨s1,m1,g1,a1,a2,a3,a4,a5,a6,a7⟩:=rI.out;rw[List.drop_of_length_le (by have:=HI.out.1;omega)]at a6;have bX:s1=(s.fF iz).eN l:=a6;rw[<-bX];exact⟨m1,g1,a1,a2⟩
   clear rI bI bQ
   cases ov with
   |true=>
    go_wp2_with fail
    go_ret;obtain⟨m1,g1,a1,a2⟩:=b0.out;have bT:=aY.out.1 (by first|exact rfl|trivial);obtain⟨aE,W,_,_,_⟩:=HY.out;have hr:=HR.out;unfold jh at hr;rw[bL.out,aa (λe=>by
     rcases bT with J|J
     .have h8:=e.2;rw[W.sp]at h8;have h7:s.sp=false:=h8;rw[J]at h7;cases h7
     exact e.1 (by rw[W.lv];exact J))]at hr
    obtain⟨_,_,_,_,_,_,_,_,aG,_,_,_⟩:=Z.out;refine⟨_,rfl,m1,g1,ρ,a1,?_,ab ⟨rfl,?_⟩⟩
    .rw[hr];exact a2.mono (by omega)
    rw[a2.ev,W.ev];exact aG
   |false=>
    have c4:Hid (∃s2,gO p (((s.fF iz).eN l).gr (((s.fF iz).eN l).q 3 0)) s2/\s'=s2.im p):=by
     have hr:=HR.out;unfold jh at hr;obtain⟨aE,W,_,_,_⟩:=HY.out;have hA:((s.fF iz).eN l).lv≠[]:=λe=>by
      have J:=aY.out.2 (ab (by rw[W.lv]at e;exact e))
      cases J
     have hB:((s.fF iz).eN l).sp=false:=by
      cases aA:((s.fF iz).eN l).sp with
      |false=>rfl
      |true=>
       have J:=aY.out.2 (ag (by rw[W.sp]at aA;exact aA))
       cases J
     rw[bL.out,aj ⟨hA,hB⟩]at hr;exact hr
    have bO:Hid (LO p d K m g w ρ (((s.fF iz).eN l).gr (((s.fF iz).eN l).q 3 0)) (((s.fF iz).eN l).q 3 0).length wr):=by
     obtain⟨m1,g1,a1,a2⟩:=b0.out;obtain⟨aE,W,_,_,aQ⟩:=HY.out;obtain⟨_,_,_,_,_,_,_,_,_,aC,_,_⟩:=Z.out;exact⟨_,m1,g1,rfl,a1,a2,aE,aQ,by rw[W.nt];exact aC,rfl⟩
    have aU:=az (JN bO.out);rw[y.out]at aU;have aT:Hid (Ok p (((s.fF iz).eN l).gr (((s.fF iz).eN l).q 3 0))/\(((s.fF iz).eN l).gr (((s.fF iz).eN l).q 3 0)).nt=s.nt/\(((s.fF iz).eN l).gr (((s.fF iz).eN l).q 3 0)).ev=[]):=by
     obtain⟨aE,W,aM,aK,_⟩:=HY.out;obtain⟨_,_,_,_,_,_,_,_,aG,_,_,_⟩:=Z.out;exact⟨aM,aK.nt.trans W.nt,by rw[aK.ev,W.ev];exact aG⟩
    generalize b8:((s.fF iz).eN l).gr (((s.fF iz).eN l).q 3 0)=fin at *;generalize (((s.fF iz).eN l).q 3 0).length=nq at *;clear b8 bO b0 HY HR HI;go_wp2_with fail
    refine aU.out.mono ?_;rintro e w4 ⟨B0,rfl,bN⟩;have bZ:=az bN;clear bN aU;go_wp2_with fail
    go_loopg [9] nq (λn b wr=>∃B:Nat,b=.int .i64 B/\Hid (ID p d K m g w ρ fin n B wr))
    case atStart=>exact⟨B0,rfl,bZ⟩
    case round=>
     obtain⟨B,rfl,rW⟩:=hrel
     cases B with
     |succ b=>
      obtain⟨tb,nt,cap,v2,c6,cL,cK,t2,z2,cA,hC⟩:=Ja rW.out;rw[y.out]at c6 cA hC;have HC:=az hC;have cF:(0:Int)<(b:Int)+1:=by omega
      have q5:=fp (n:=b) (by omega);have q6:IntKind.i64.wrap (b:Int)=(b:Int):=by rw[bl,bd _ (by omega)]
      have q7:(0:Int)<=(b:Int):=by omega
      have q8:(b:Int)<(nt:Int):=by omega
      clear hC rW;go_wp2_with fail
      refine HC.out.mono ?_;rintro e w5 ⟨rfl,k,hk,hD⟩;have aS:=az (JN hD);rw[y.out]at aS;have bV:=az hk;clear hD hk HC c6 t2 z2;go_wp2_with fail
      refine aS.out.mono ?_;rintro e w6 ⟨B',rfl,b6⟩;have cB:=az b6;clear b6 aS;go_wp2_with fail
      go_roundg k
      case rel=>exact⟨B',rfl,cB⟩
      case measure=>have:=bV.out;omega
     |zero=>
      have H:Hid (∃s2,gO p fin s2/\s'=s2.im p/\Ok p s2/\s2.nt≠0):=by
       obtain⟨s2,f1,f2⟩:=c4.out;obtain⟨bS,aZ,cH⟩:=aT.out;obtain⟨_,_,hPI,_,_,_,_,_,_,aC,hn,_⟩:=Z.out;obtain⟨k1,k2,k3⟩:=tz hPI bS (by rw[aZ];exact hn) f1;refine⟨s2,f1,f2,k1,?_⟩
       cases hq:fin.q 2 0 with
       |nil=>rw[k2 hq,aZ];exact aC
       |cons t r=>
        obtain⟨s0,g0,_,_,g3,_⟩:=k3 t r hq;have J:=g0.nt.1;rw[g3,aZ]at J;omega
      obtain⟨s2,b1,aL⟩:=H.out;have bK:=az b1;clear H b1;have H:=az aL;clear aL;obtain⟨cP,qc,c7⟩:=Jd rW.out;rw[y.out]at c7
      cases hq:fin.q 2 0 with
      |nil=>
       have a0:Hid (D8 p d K m g w s2 wr):=by
        have J:=bK.out;unfold gO at J;rw[hq]at J;have h8:s2=fin:=J;rw[h8];exact D8.of rW.out
       rw[hq]at c7;simp only[List.length_nil]at c7;clear rW;have Y:Hid (∃x,wr.cell? ⟨mb,14,none⟩=some (.bool x)):=by
        have J:=a0.out.sp;rw[y.out]at J;exact⟨_,J⟩
       obtain⟨aJ,aF⟩:=Y.out;clear Y
       cases aJ with
       |true=>
        have u:=az a0.out.out;rw[y.out]at u;obtain⟨a8,aH,o⟩:=u.out;have G:=az o;clear u o;go_wp2_with fail
        go_ret;refine⟨a8,rfl,?_⟩;rw[H.out.1];exact G.out
       |false=>
        have a9:=az (H7 Z.out.1 Z.out.2.1 Z.out.2.2.2.1 Z.out.2.2.2.2.1 a0.out H.out.2.1 H.out.2.2);rw[y.out]at a9;go_wp2_with fail
        refine a9.out.mono ?_;rintro e w9 ⟨rfl,aD⟩;have u:=az aD.out;rw[y.out]at u;obtain⟨a8,aH,o⟩:=u.out;have G:=az o;clear u o a9 aD;go_wp2_with fail
        go_ret;refine⟨a8,rfl,?_⟩;rw[H.out.1];exact G.out
      |cons t r=>
       have aV:=az (Kz Z.out.1 Z.out.2.1 Z.out.2.2.1 Z.out.2.2.2.1 rW.out (by rw[aT.out.2.1];exact Z.out.2.2.2.2.2.2.2.2.2.2.1) aT.out.2.2 Z.out.2.2.2.2.2.2.2.2.2.2.2 hq bK.out);rw[y.out]at aV;clear c7 rW;obtain⟨b,off,cap,c7,z7,cD,cI,cN,cb,hC⟩:=aV.out;have HC:=az hC;generalize cC:r.length=rn at *;clear hC aV cC;have r1:(0:Int)<(rn:Int)+1:=by omega
       by_cases bC:cap=1
       .subst bC;have c8:rn=0:=by omega
        subst c8;rw[aj rfl]at HC;go_wp2_with fail
        refine HC.out.mono ?_;rintro e w7 ⟨rfl,aI⟩;have a0:=az aI;clear aI HC c7 z7 cb;have Y:Hid (∃x,w7.cell? ⟨mb,14,none⟩=some (.bool x)):=by
         have J:=a0.out.sp;rw[y.out]at J;exact⟨_,J⟩
        obtain⟨aJ,aF⟩:=Y.out;clear Y
        cases aJ with
        |true=>
         have u:=az a0.out.out;rw[y.out]at u;obtain⟨a8,aH,o⟩:=u.out;have G:=az o;clear u o;go_wp2_with fail
         go_ret;refine⟨a8,rfl,?_⟩;rw[H.out.1];exact G.out
        |false=>
         have a9:=az (H7 Z.out.1 Z.out.2.1 Z.out.2.2.2.1 Z.out.2.2.2.2.1 a0.out H.out.2.1 H.out.2.2);rw[y.out]at a9;go_wp2_with fail
         refine a9.out.mono ?_;rintro e w9 ⟨rfl,aD⟩;have u:=az aD.out;rw[y.out]at u;obtain⟨a8,aH,o⟩:=u.out;have G:=az o;clear u o a9 aD;go_wp2_with fail
         go_ret;refine⟨a8,rfl,?_⟩;rw[H.out.1];exact G.out
       rw[aa bC]at HC;go_wp2_with fail
       refine HC.out.mono ?_;rintro e w7 ⟨rfl,aI⟩;have a0:=az aI;clear aI HC c7 z7 cb;have Y:Hid (∃x,w7.cell? ⟨mb,14,none⟩=some (.bool x)):=by
        have J:=a0.out.sp;rw[y.out]at J;exact⟨_,J⟩
       obtain⟨aJ,aF⟩:=Y.out;clear Y
       cases aJ with
       |true=>
        have u:=az a0.out.out;rw[y.out]at u;obtain⟨a8,aH,o⟩:=u.out;have G:=az o;clear u o;go_wp2_with fail
        go_ret;refine⟨a8,rfl,?_⟩;rw[H.out.1];exact G.out
       |false=>
        have a9:=az (H7 Z.out.1 Z.out.2.1 Z.out.2.2.2.1 Z.out.2.2.2.2.1 a0.out H.out.2.1 H.out.2.2);rw[y.out]at a9;go_wp2_with fail
        refine a9.out.mono ?_;rintro e w9 ⟨rfl,aD⟩;have u:=az aD.out;rw[y.out]at u;obtain⟨a8,aH,o⟩:=u.out;have G:=az o;clear u o a9 aD;go_wp2_with fail
        go_ret;refine⟨a8,rfl,?_⟩;rw[H.out.1];exact G.out
end D
section
theorem A6(op a b c fb tb eb vbx : Nat) (S : Int → Bool → World → Prop) (R : World → Prop) (w : World) (hv : w.cell? ⟨vbx, 0, none⟩ = some (Fv 100 #[]))
    (H1 : ∀ w1, w.grownBy w1 none → w1.heap[w.heap.size]? = some (lZ op a b c fb tb eb) → Calls prog 100 #[dZ op a b c fb tb eb] w1 fun e w2 => ∃ (x : Int) (o : Bool), e = .returned (.tuple #[.agg #[.int .i64 x, .int .i64 0], .bool o]) ∧ S x o w2 ∧ w2.heap[w.heap.size]? = some (lZ op a b c fb tb eb))
    (H2 : ∀ x w2 w3, S x true w2 → w2.grownBy w3 none → Calls prog 149 #[dZ op a b c fb tb eb, .agg #[.int .i64 x, .int .i64 0]] w3 fun e w' => e = .returned (.tuple #[]) ∧ R w')
    (H3 : ∀ x w2 w3, S x false w2 → w2.grownBy w3 none → Calls prog 156 #[P0 eb, P0 tb] w3 fun e w' => e = .returned (.tuple #[]) ∧ R w') :
    Calls prog 155 #[dZ op a b c fb tb eb, P0 vbx] w fun e w' => e = .returned (.tuple #[]) ∧ R w' := by
  have HH1 := az H1
  have HH2 := az H2
  have HH3 := az H3
  have lv := gW hv
  go_in
  go_wp2_with fail
  have KG1 := az (ah w (.cells #[.int .u8 (op : Int), .int .u8 (a : Int), .int .u8 (b : Int), .int .u8 (c : Int), P0 fb, P0 tb, P0 eb] 186) none)
  have HX1 := az (jf w op a b c fb tb eb)
  generalize hW : w.alloc (.cells #[.int .u8 (op : Int), .int .u8 (a : Int), .int .u8 (b : Int), .int .u8 (c : Int), P0 fb, P0 tb, P0 eb] 186) = w1 at *
  refine (HH1.out w1 KG1.out HX1.out).mono ?_
  rintro e w2 ⟨x, o, rfl, hS2, hX2⟩
  have HS2 := az hS2
  have HX2 := az hX2
  obtain ⟨x0, x1, x2, x3, x4, x5, x6⟩ := fk HX2.out
  have lx := bz HX2.out
  cases o with
  | true =>
    go_wp2_with fail
    refine (HH2.out x w2 _ HS2.out (ah _ _ _)).mono ?_
    rintro e w3 ⟨rfl, hR3⟩
    have HR3 := az hR3
    go_wp2_with fail
    go_end0
    exact ⟨rfl, HR3.out⟩
  | false =>
    go_wp2_with fail
    first
      | (refine (HH3.out x w2 _ HS2.out (ah _ _ _)).mono ?_
         rintro e w3 ⟨rfl, hR3⟩
         have HR3 := az hR3
         go_wp2_with fail
         go_end0
         exact ⟨rfl, HR3.out⟩)
      | trace_state
theorem uJ(op a b c fb tb eb vbx wb : Nat) (R : World → Prop) (w : World) (hw : w.cell? ⟨wb, 0, none⟩ = some (Fv 155 #[P0 vbx]))
    (H : ∀ w1, w.grownBy w1 none → Calls prog 155 #[dZ op a b c fb tb eb, P0 vbx] w1 fun e w' => e = .returned (.tuple #[]) ∧ R w') :
    Calls prog 163 #[dZ op a b c fb tb eb, P0 wb] w fun e w' => e = .returned (.int .i64 0) ∧ R w' := by
  have HH := az H
  have lw := gW hw
  go_in
  go_wp2_with fail
  first
    | (refine (HH.out _ (ah _ _ _)).mono ?_
       rintro e w2 ⟨rfl, hR2⟩
       have HR2 := az hR2
       go_wp2_with fail
       go_ret
       exact ⟨rfl, HR2.out⟩)
    | trace_state
theorem A5(op a b c fb tb eb vbx : Nat) (S : Int → Bool → World → Prop) (R : World → Prop) (w : World) (hv : w.cell? ⟨vbx, 0, none⟩ = some (Fv 103 #[]))
    (H1 : ∀ w1, w.grownBy w1 none → w1.heap[w.heap.size]? = some (lZ op a b c fb tb eb) → Calls prog 103 #[dZ op a b c fb tb eb] w1 fun e w2 => ∃ (x : Int) (o : Bool), e = .returned (.tuple #[.agg #[.int .i64 x, .int .i64 0], .bool o]) ∧ S x o w2 ∧ w2.heap[w.heap.size]? = some (lZ op a b c fb tb eb))
    (H2 : ∀ x w2 w3, S x true w2 → w2.grownBy w3 none → Calls prog 149 #[dZ op a b c fb tb eb, .agg #[.int .i64 x, .int .i64 0]] w3 fun e w' => e = .returned (.tuple #[]) ∧ R w')
    (H3 : ∀ x w2 w3, S x false w2 → w2.grownBy w3 none → Calls prog 156 #[P0 eb, P0 tb] w3 fun e w' => e = .returned (.tuple #[]) ∧ R w') :
    Calls prog 155 #[dZ op a b c fb tb eb, P0 vbx] w fun e w' => e = .returned (.tuple #[]) ∧ R w' := by
  have HH1 := az H1
  have HH2 := az H2
  have HH3 := az H3
  have lv := gW hv
  go_in
  go_wp2_with fail
  have KG1 := az (ah w (.cells #[.int .u8 (op : Int), .int .u8 (a : Int), .int .u8 (b : Int), .int .u8 (c : Int), P0 fb, P0 tb, P0 eb] 186) none)
  have HX1 := az (jf w op a b c fb tb eb)
  generalize hW : w.alloc (.cells #[.int .u8 (op : Int), .int .u8 (a : Int), .int .u8 (b : Int), .int .u8 (c : Int), P0 fb, P0 tb, P0 eb] 186) = w1 at *
  refine (HH1.out w1 KG1.out HX1.out).mono ?_
  rintro e w2 ⟨x, o, rfl, hS2, hX2⟩
  have HS2 := az hS2
  have HX2 := az hX2
  obtain ⟨x0, x1, x2, x3, x4, x5, x6⟩ := fk HX2.out
  have lx := bz HX2.out
  cases o with
  | true =>
    go_wp2_with fail
    refine (HH2.out x w2 _ HS2.out (ah _ _ _)).mono ?_
    rintro e w3 ⟨rfl, hR3⟩
    have HR3 := az hR3
    go_wp2_with fail
    go_end0
    exact ⟨rfl, HR3.out⟩
  | false =>
    go_wp2_with fail
    first
      | (refine (HH3.out x w2 _ HS2.out (ah _ _ _)).mono ?_
         rintro e w3 ⟨rfl, hR3⟩
         have HR3 := az hR3
         go_wp2_with fail
         go_end0
         exact ⟨rfl, HR3.out⟩)
      | trace_state
theorem told_none{kd:B.Kd}(v:B.V)(h:kd.cy=none):B.told kd v=kd:=by
 obtain⟨on,e,u,o,cc⟩:=kd;have i:e=none:=h;subst i;rfl
theorem AG{kd:B.Kd}{c:B.Cy}(v:B.V)(h:kd.cy=some c):B.told kd v=⟨kd.on,some ⟨(B.seen c.m c.st v).1,(B.seen c.m c.st v).2,c.nx⟩,kd.un,kd.fo,kd.cc⟩:=by
 unfold B.told;rw[h];rfl
end
namespace F
theorem zG{w:World}{pb n p i:Nat}{on:Nat->Bool}{f:Fb}{M:Nat->List B.V}(v:B.V)(h:ow w pb n on f M)(W:1<=p)(Z:p<=n)(Y:on p=true)(hi:i<(M p).length): ow ((w.setCell ⟨f.b p,i*2,none⟩ (.int .i64 (v.1:Int))).setCell ⟨f.b p,i*2+1,none⟩ (.int .i64 v.2)) pb n on f (B.lay M p ((M p).set i v)):=by
 have G:=h.s p W Z Y;obtain⟨a0,hV,_⟩:=id G;obtain⟨J,hP,_⟩:=id h.p;have H:=dW hP hV (by decide);refine⟨((h.p.off H).off H).congr (λj _=>?_),λq a b c=>?_,h.i,λq a=>?_,λq a h0=>?_⟩
 .unfold iM;by_cases e:j / 3+1=p
  .rw[e,B.gl];simp
  rw[B.fq _ _ _ _ e]
 .by_cases e:q=p
  .subst e;rw[B.gl];simp only[dq];refine(G.oD i v).congr (λj _=>?_);have hs:∀x,B.set (jQ M q) i v x=jQ (B.lay M q ((M q).set i v)) q x:=by
    intro x;unfold jQ;rw[B.gl,ar,List.getElem?_set];by_cases y:x=i
    .subst y;rw[B.ie,aj rfl,aj hi];rfl
    rw[B.gS _ _ _ _ y,aa (λh=>y h.symm),ar]
   unfold eC;rw[hs]
  rw[B.fq _ _ _ _ e];have u:f.b q≠f.b p:=λhe=>e (h.i q p a b W Z c Y he);have:=((h.s q a b c).off (o:=i*2) (v:=.int .i64 (v.1:Int)) u).off (o:=i*2+1) (v:=.int .i64 v.2) u;refine this.congr (λj _=>?_);unfold eC jQ;rw[B.fq _ _ _ _ e]
 .by_cases e:q=p
  .subst e;rw[B.gl];simpa using h.l q a
  rw[B.fq _ _ _ _ e];exact h.l q a
 by_cases e:q=p
 .subst e;rw[B.gl];simpa using h.k q a h0
 rw[B.fq _ _ _ _ e];exact h.k q a h0
theorem wO(sb pb eb n nr k i:Nat)(x:Int)(v:B.V)(kd:B.Kd)(vb:Vs)(s:B.St)(w:World)(hS:jm w sb pb eb n kd vb s.2.2)(hH:B.iZ kd nr n s)(hn:n<=200)(hk:k<n)(hr:B.Reach nr s (k+1))(hi:i<(s.2.2 (k+1)).length): Calls prog 160 #[P0 sb,vA (k+1,x),.int .i64 i,vA v] w λe w'=>e=.returned (.tuple #[])/\∃aE,jm w' sb pb eb n (B.told kd ((s.2.2 (k+1)).getD i (0,0))) aE (B.lay s.2.2 (k+1) ((s.2.2 (k+1)).set i v))/\dy (Own n kd vb) w w'/\ox n kd vb (B.told kd ((s.2.2 (k+1)).getD i (0,0))) aE w.heap.size/\aE.f=vb.f:=by
 have KS:=az hS;have HH:=az hH;have a6:=(B.kJ hH hr).1;have h0:=hS.c0;have c2:=hS.cells.2.1;have ls:=bz hS.b;have lp:=hS.p.p.lt;have p2:=hS.p.p.cell (k*3+2) (by omega);rw[sQ,a6]at p2;have aJ:oL true (vb.f.b (k+1)) (s.2.2 (k+1)).length=.slice (some ⟨vb.f.b (k+1),0,none⟩) (s.2.2 (k+1)).length (s.2.2 (k+1)).length:=rfl;rw[aJ]at p2;have hF:=hS.p.s (k+1) (by omega) (by omega) a6;have lf:=hF.lt;have HF:=az hF;have aZ:=az (mg k x (by omega));have bF:=hS.p.l _ a6;have HI:=az (ay a6 hi);have b5:(k:Int)<(n:Int):=by omega
 have bK:(i:Int)<((s.2.2 (k+1)).length:Int):=by omega
 obtain⟨s0,f0⟩:=hF.cells (i*2) (by omega);obtain⟨s1,f1⟩:=hF.cells (i*2+1) (by omega);rw[nE]at s0;rw[nD]at s1;have aO:Hid ((jQ s.2.2 (k+1) i)=(s.2.2 (k+1)).getD i (0,0)):=rfl;have aN:=B.th hH hr i;have aT:=λh0=>(B.kJ hH (aN.2 h0)).2.2;have aU:=az aT;generalize b0:jQ s.2.2 (k+1) i=o at *;have aH:=az aO.out.symm;clear hS hH hr aJ hF aN aT b0 aO;generalize aM:(s.2.2 (k+1)).length=m at *;have aS:=az aM;clear aM;go_in;go_wp2_with fail
 generalize hW:(w.alloc (.cells #[.int .i64 ((k:Int)+1),.int .i64 x] 149)).alloc (.cells #[.int .i64 (v.1:Int),.int .i64 v.2] 149)=w1;have aF:Hid (w.grownBy w1 none):=by rw[<-hW];exact au (ah _ _ _) _
 have aK:w1.heap[w.heap.size+1]? = some (.cells #[.int .i64 (v.1:Int),.int .i64 v.2] 149 (0,0)):=by
  rw[<-hW];have:=bf (w.alloc (.cells #[.int .i64 ((k:Int)+1),.int .i64 x] 149)) (.cells #[.int .i64 (v.1:Int),.int .i64 v.2] 149);simpa using this
 have a5:w1.heap[w.heap.size]? = some (.cells #[.int .i64 ((k:Int)+1),.int .i64 x] 149 (0,0)):=by
  rw[<-hW,ak _ _ _ (by simp)];exact bf w _
 clear hW;have b1:=az aK;have a0:w1.cell? ⟨w.heap.size,0,none⟩=some (.int .i64 ((k:Int)+1)):=by simp[World.cell?,a5]
 have a1:w1.cell? ⟨w.heap.size,1,none⟩=some (.int .i64 x):=by simp[World.cell?,a5]
 have lv:=bz a5;have aG:sb<w1.heap.size:=by omega
 have d0:=(bh aF.out (a:=⟨sb,0,none⟩) ls).1.trans h0;have b2:=az p2;clear a5 aK h0 p2;go_cut [8] from 9 to 19 (λy wx=>y=.pointer (some ⟨vb.f.b (k+1),i*2,none⟩)/\Hid (w.grownBy wx none)/\Hid (wx.heap[w.heap.size+1]? = some (.cells #[.int .i64 (v.1:Int),.int .i64 v.2] 149 (0,0))))
 case first=>
  go_region_with (go_at_call 201;refine(aZ.out _).mono ?_;rintro e w2 ⟨rfl,Z⟩;have a8:Hid (w1.grownBy w2 none):=⟨Z.os,Z.tape,Z.output,Z.size,Z.block⟩;have a4:=az (an aF.out a8.out);have d2:=(bh a8.out (a:=⟨sb,0,none⟩) aG).1.trans d0;have q2:=(bh a4.out (a:=⟨pb,k*3+2,none⟩) lp).1.trans b2.out;clear Z)
  all_goals
   go_wp2_with fail
   go_meet
   case rel=>exact⟨rfl,a4,cm a8.out b1.out (by intro e;cases e)⟩
 case rest=>
  obtain⟨rfl,H,aC⟩:=hcut;have bA:=H.out.size;have e2:=(bh H.out (a:=⟨sb,2,none⟩) ls).1.trans c2;have t0:=(bh H.out (a:=⟨vb.f.b (k+1),i*2,none⟩) lf).1.trans s0;have t1:=(bh H.out (a:=⟨vb.f.b (k+1),i*2+1,none⟩) lf).1.trans s1;have z0:=(bh H.out (a:=⟨vb.f.b (k+1),i*2,none⟩) lf).2.trans f0;have z1:=(bh H.out (a:=⟨vb.f.b (k+1),i*2+1,none⟩) lf).2.trans f1;have aW:sb<wc.heap.size:=by omega
  have a9:vb.f.b (k+1)<wc.heap.size:=by omega
  have u0:wc.cell? ⟨w.heap.size+1,0,none⟩=some (.int .i64 (v.1:Int)):=by have:=aC.out;simp[World.cell?,this]
  have u1:wc.cell? ⟨w.heap.size+1,1,none⟩=some (.int .i64 v.2):=by have:=aC.out;simp[World.cell?,this]
  have lu:=bz aC.out;clear a0 a1 d0 c2 s0 s1 f0 f1;have u:=az (KS.out.kept H.out);have aD:Own n kd vb (vb.f.b (k+1)):=ag ⟨k+1,by omega,by omega,HI.out.1,rfl⟩;have Y:=az aD;rcases hcy:kd.cy with _|c
  .rw[mx hcy]at e2;have G:=az hcy;clear hcy aD;go_wp2_with fail
   go_end0;refine⟨rfl,vb,?_,bm (bm (dU H.out) (ag Y.out) _) (ag Y.out) _,?_,rfl⟩
   .rw[told_none _ G.out];have a2:=u.out.ju.2 _ Y.out;exact⟨((af _ _ _ _ (λe=>a2.1 e.symm)).trans (af _ _ _ _ (λe=>a2.1 e.symm))).trans u.out.b,zG v u.out.p (by omega) (by omega) HI.out.1 (by rw[aS.out];exact HI.out.2),λc hc=>by rw[G.out]at hc;cases hc⟩
   rw[told_none _ G.out];exact ox.refl _ _ _ _
  rw[mu hcy]at e2;have G:=az hcy;clear hcy aD;obtain⟨_,T,_,aQ⟩:=HH.out.h3 c G.out;have aA:=dH aQ.len hn;have aY:=az (λw' (h:kY w' vb.cb vb.rd sb n vb.ad vb.cap c)=>qd vb.cb vb.rd sb n vb.ad vb.cap c o w' h (by have:=aU.out;rw[aH.out]at this;exact this) hn aA);have aX:Hid (kY wc.drew vb.cb vb.rd sb n vb.ad vb.cap c):=(u.out.c c G.out).block (λ_ _=>rfl);have a7:Hid (∀y,nh vb.cb vb.rd vb.ad y->Own n kd vb y):=λy hy=>ab ⟨by rw[G.out];rfl,hy⟩;have aI:=(rq u.out.p (u.out.c c G.out)).2 _ (by omega) (by omega) HI.out.1;have aR:¬nh vb.cb vb.rd vb.ad (w.heap.size+1):=λh=>by have:=KS.out.lt _ (a7.out _ h);omega
  have J:=az (ay aI aR);have HK:Hid (∀w':World,dy (nh vb.cb vb.rd vb.ad) wc.drew w'->w'.cell? ⟨vb.f.b (k+1),i*2,none⟩=some (.int .i64 (o.1:Int))/\w'.cell? ⟨vb.f.b (k+1),i*2+1,none⟩=some (.int .i64 o.2)/\w'.frozen? ⟨vb.f.b (k+1),i*2,none⟩=false/\w'.frozen? ⟨vb.f.b (k+1),i*2+1,none⟩=false/\w'.cell? ⟨w.heap.size+1,0,none⟩=some (.int .i64 (v.1:Int))/\w'.cell? ⟨w.heap.size+1,1,none⟩=some (.int .i64 v.2)/\vb.f.b (k+1)<w'.heap.size/\w.heap.size+1<w'.heap.size):=λw' hO=>by
   have W:dy (nh vb.cb vb.rd vb.ad) wc w':=hO;have:=W.size;exact⟨(W.cell a9 J.out.1).trans t0,(W.cell a9 J.out.1).trans t1,(W.frozen a9 J.out.1).trans z0,(W.frozen a9 J.out.1).trans z1,(W.cell lu J.out.2).trans u0,(W.cell lu J.out.2).trans u1,by omega,by omega⟩
  clear aQ aA aI aR;go_wp2_with fail
  go_region_with (go_at_call 188;refine(aY.out _ aX.out).mono ?_;rintro e w4 ⟨rfl,aP,aL,h4,h5,h6⟩;obtain⟨bJ,bB,bH,b9,bE,bG,bI,bD⟩:=HK.out w4 h6;have b4:=az (ay h4 (ay h5 h6));clear h4 h5 h6)
  all_goals
   go_wp2_with fail
   go_end0;obtain⟨h4,h5,h6⟩:=b4.out;have a3:dy (nh vb.cb vb.rd vb.ad) wc w4:=h6;have b3:w4.heap[sb]? = _:=(a3.same aW (λh=>(KS.out.ju.2 sb (a7.out _ h)).1 rfl)).trans u.out.b;have a2:=KS.out.ju.2 _ Y.out;have aV:ow w4 pb n kd.on vb.f s.2.2:=by
    have:=rq u.out.p (u.out.c c G.out);exact u.out.p.block (a3.same u.out.p.p.lt this.1) (λp a b d=>a3.same (u.out.p.s p a b d).lt (this.2 p a b d))
   have aB:∀y,nh vb.cb vb.rd aP y->y≠vb.f.b (k+1):=λy hy e=>by
    rcases h4.Hz hy with h|h
    .exact J.out.1 (by rw[<-e];exact h)
    have h':wc.heap.size<=y:=h;omega
   refine⟨rfl,{ vb with ad:=aP,cap:=aL },?_,?_,?_,rfl⟩
   .rw[aH.out,AG _ G.out];refine⟨?_,zG v aV (by omega) (by omega) HI.out.1 (by rw[aS.out];exact HI.out.2),λc' hc=>?_⟩
    .refine((af _ _ _ _ (λe=>a2.1 e.symm)).trans (af _ _ _ _ (λe=>a2.1 e.symm))).trans (b3.trans ?_);rw[mu G.out];rfl
    have e:(⟨(B.seen c.m c.st o).1,(B.seen c.m c.st o).2,c.nx⟩:B.Cy)=c':=by injection hc
    subst e;exact h5.block (λy hy=>(af _ _ _ _ (aB y hy)).trans (af _ _ _ _ (aB y hy)))
   .refine bm (bm ((dU (S:=Own n kd vb) H.out).trans a3 (λy hy _=>a7.out y hy)) (ag Y.out) _) (ag Y.out) _
   intro y hy;rcases hy with⟨p,a,b,d,e⟩|⟨_,hy⟩
   .exact ag (ag ⟨p,a,b,d,e⟩)
   rcases h4.Hz hy with h|h
   .exact ag (a7.out y h)
   have h':wc.heap.size<=y:=h;exact ab (by omega)
theorem BE(op a b c fb tb eb cb L nx rb nr sb pb n nt:Nat)(back:Value)(kd:B.Kd)(vb:Vs)(s:B.St)(R:Nat->B.V)(w:World)(hF:Fr w fb cb L nx rb nr back R)(hS:jm w sb pb eb n kd vb s.2.2)(hH:B.iZ kd nt n s)(hV:∀i,i<nr->B.qO kd.on n (R i))(aE:∀i,i<nr->(R i).1≠0->B.Reach nt s (R i).1)(hn:n<=200)(ha:a<nr)(hb:b<nr)(hc:c<nr)(aD:w.cell? ⟨eb,27,none⟩=some (P0 sb))(le:eb<w.heap.size)(Y:¬Own n kd vb eb): Calls prog 102 #[dZ op a b c fb tb eb] w λe w'=>(kK vb.f s.2.2 (R a) (R b)/\e=.returned (.int .i64 0)/\∃u,jm w' sb pb eb n (B.told kd ((s.2.2 (R a).1).getD (R b).2.toNat (0,0))) u (B.lay s.2.2 (R a).1 ((s.2.2 (R a).1).set (R b).2.toNat (R c)))/\dy (Own n kd vb) w w'/\ox n kd vb (B.told kd ((s.2.2 (R a).1).getD (R b).2.toNat (0,0))) u w.heap.size/\u.f=vb.f)\/(¬kK vb.f s.2.2 (R a) (R b)/\e=.returned (.int .i64 (gI vb.f (R a) (R b)))/\w.grownBy w' none):=by
 have KF:=az hF;have KS:=az hS;have HH:=az hH;have HV:=az hV;have aN:=az aE;have aO:=az Y;clear hF hS hH hV aE Y;go_in;go_wp2_with fail
 have aB:=az (jf w op a b c fb tb eb);have a9:=az (ah w (.cells #[.int .u8 (op:Int),.int .u8 (a:Int),.int .u8 (b:Int),.int .u8 (c:Int),P0 fb,P0 tb,P0 eb] 186) none);generalize hW:w.alloc (.cells #[.int .u8 (op:Int),.int .u8 (a:Int),.int .u8 (b:Int),.int .u8 (c:Int),P0 fb,P0 tb,P0 eb] 186)=w1 at *;have b1:w1.heap.size=w.heap.size+1:=by rw[<-hW];simp
 clear hW;go_region_held3 (λw'=>w'.cell? ⟨w.heap.size,0,none⟩=some (.int .u8 (op:Int))/\w'.cell? ⟨w.heap.size,1,none⟩=some (.int .u8 (a:Int))/\w'.cell? ⟨w.heap.size,2,none⟩=some (.int .u8 (b:Int))/\w'.cell? ⟨w.heap.size,3,none⟩=some (.int .u8 (c:Int))/\w'.cell? ⟨w.heap.size,4,none⟩=some (P0 fb)/\w'.cell? ⟨w.heap.size,5,none⟩=some (P0 tb)/\w'.cell? ⟨w.heap.size,6,none⟩=some (P0 eb)) (first|exact fk aB.out|exact fk aL.out|exact fk aK.out|exact fk a6.out) (first|(go_at_call 98;refine(As op a b c fb tb eb cb L nx rb nr back R w1.drew (KF.out.kept (bq a9.out)).1 (KF.out.kept (bq a9.out)).2.1 ha).mono ?_;rintro e w2 ⟨rfl,a8⟩;have a4:=az (an (bq a9.out) a8);have aL:=az (dp a8 (show w1.drew.heap[w.heap.size]? = _ from aB.out));clear a8)|(go_at_call 86;refine(pO op a b c fb tb eb cb L nx rb nr back R w2 (KF.out.kept a4.out).1 (KF.out.kept a4.out).2.1 hb).mono ?_;rintro e w3 ⟨rfl,a2⟩;have a1:=az (an a4.out a2);have aK:=az (dp a2 aL.out);clear a2)|(go_at_call 158;refine(wN op a b c fb tb eb sb pb n (R a) (R b) kd vb s.2.2 w3 (KS.out.kept a1.out) hn (HV.out a ha) ((bh a1.out (a:=⟨eb,27,none⟩) le).1.trans aD) (dm le a1.out.size)).mono ?_;rintro e w4 ⟨v,rfl,a5,a3⟩;have y:=az (an a1.out a5);have a6:=az (dp a5 aK.out);obtain⟨pv,wy,rfl⟩:∃(pv:Value) (wy:Int),v=.tuple #[pv,.int .i64 wy]:=(by rcases a3 with⟨_,h⟩|⟨_,h⟩;exact⟨_,_,h⟩;exact⟨_,_,h⟩);have aR:=az a3;clear a5 a3))
 all_goals
  rcases aR.out with⟨J,he⟩|⟨J,he⟩
  .have aA:=az J;obtain⟨o1,ok,o2,o3,o4⟩:=id J;have hp:1<=(R a).1/\(R a).1<=n/\kd.on (R a).1=true:=by
    rcases HV.out a ha with h|h
    .exact ch h o1
    exact⟨h.1,h.2.1,h.2.2.1⟩
   injection he with he;injection he with he;injection he with a7 o;injection o with o _;injection o with _ o;subst a7 o;obtain⟨i,hi⟩:∃i:Nat,(R b).2=(i:Int):=⟨(R b).2.toNat,by omega⟩;obtain⟨k,hk⟩:∃k,(R a).1=k+1:=⟨(R a).1-1,by omega⟩;have aM:i<(s.2.2 (k+1)).length:=by rw[hi,hk]at o4;omega
   have aH:B.Reach nt s (k+1):=by rw[<-hk];exact aN.out a ha o1
   have aC:∀w':World,w.grownBy w' none->Calls prog 160 #[P0 sb,vA (R a),.int .i64 (R b).2,vA (R c)] w' λe w''=>e=.returned (.tuple #[])/\∃u,jm w'' sb pb eb n (B.told kd ((s.2.2 (R a).1).getD (R b).2.toNat (0,0))) u (B.lay s.2.2 (R a).1 ((s.2.2 (R a).1).set (R b).2.toNat (R c)))/\dy (Own n kd vb) w' w''/\ox n kd vb (B.told kd ((s.2.2 (R a).1).getD (R b).2.toNat (0,0))) u w'.heap.size/\u.f=vb.f:=by
    intro w' hg;have e1:R a=(k+1,(R a).2):=fV hk rfl;rw[hk,hi];have:=wO sb pb eb n nt k i (R a).2 (R c) kd vb s w' (KS.out.kept hg) HH.out hn (by omega) aH aM;rw[<-e1]at this;exact this
   have aV:=az aC;generalize aJ:(R b).2=yy at *;have aG:=az aJ;clear aJ;clear J ok o1 o2 o3 o4 hp hi hk aM aC aH;obtain⟨x0,x1,x2,x3,x4,x5,x6⟩:=fk a6.out;have lx:=bz a6.out;have Y:¬Own n kd vb eb:=aO.out;have aQ:Hid (∀x,Own n kd vb x->x<w.heap.size):=KS.out.lt;have G:¬Own n kd vb w.heap.size:=λh=>by have:=aQ.out _ h;omega
   have HS:Hid (∀w':World,dy (Own n kd vb) w4 w'->(w'.cell? ⟨w.heap.size,0,none⟩=some (.int .u8 (op:Int))/\w'.cell? ⟨w.heap.size,1,none⟩=some (.int .u8 (a:Int))/\w'.cell? ⟨w.heap.size,2,none⟩=some (.int .u8 (b:Int))/\w'.cell? ⟨w.heap.size,3,none⟩=some (.int .u8 (c:Int))/\w'.cell? ⟨w.heap.size,4,none⟩=some (P0 fb)/\w'.cell? ⟨w.heap.size,5,none⟩=some (P0 tb)/\w'.cell? ⟨w.heap.size,6,none⟩=some (P0 eb)/\w'.cell? ⟨eb,27,none⟩=some (P0 sb))):=
    λw' hO=>⟨(hO.cell lx G).trans x0,(hO.cell lx G).trans x1,(hO.cell lx G).trans x2,(hO.cell lx G).trans x3,(hO.cell lx G).trans x4,(hO.cell lx G).trans x5,(hO.cell lx G).trans x6,(hO.cell (by omega) Y).trans ((bh y.out (a:=⟨eb,27,none⟩) le).1.trans aD)⟩
   have aP:=az (HS.out w4.drew (dk _ _));have Z:=az (KF.out.kept y.out);go_wp2_with fail
   go_region_held3 (λw'=>w'.cell? ⟨w.heap.size,0,none⟩=some (.int .u8 (op:Int))/\w'.cell? ⟨w.heap.size,1,none⟩=some (.int .u8 (a:Int))/\w'.cell? ⟨w.heap.size,2,none⟩=some (.int .u8 (b:Int))/\w'.cell? ⟨w.heap.size,3,none⟩=some (.int .u8 (c:Int))/\w'.cell? ⟨w.heap.size,4,none⟩=some (P0 fb)/\w'.cell? ⟨w.heap.size,5,none⟩=some (P0 tb)/\w'.cell? ⟨w.heap.size,6,none⟩=some (P0 eb)/\w'.cell? ⟨eb,27,none⟩=some (P0 sb)) (first|exact aP.out|exact aX.out|exact aZ.out|exact aS.out) (first|(go_at_call 98;refine(As op a b c fb tb eb cb L nx rb nr back R w4.drew (Z.out.kept (bq (ax _ _))).1 (Z.out.kept (bq (ax _ _))).2.1 ha).mono ?_;rintro e w5 ⟨rfl,H⟩;have a0:Hid (w4.grownBy w5 none):=⟨H.os,H.tape,H.output,H.size,H.block⟩;have aX:=az (HS.out w5 (dU a0.out));clear H)|(go_at_call 94;refine(qJ op a b c fb tb eb cb L nx rb nr back R w5 (Z.out.kept a0.out).1 (Z.out.kept a0.out).2.1 hc).mono ?_;rintro e w6 ⟨rfl,aI⟩;have W:=az (an a0.out aI);have aZ:=az (HS.out w6 (dU W.out));clear aI)|(go_at_call 160;refine(aV.out w6 (an y.out W.out)).mono ?_;rintro e w7 ⟨rfl,u,k1,k2,k3,k4⟩;have aS:=az (HS.out w7 ((dU (S:=Own n kd vb) W.out).trans k2 (λ_ h _=>h)));have HR:=az (ay k1 (ay ((dU (S:=Own n kd vb) (an y.out W.out)).trans k2 (λ_ h _=>h)) k3));have aT:=az k4;have aW:w.heap.size<=w6.heap.size:=(an y.out W.out).size;clear k1 k2 k3 k4))
   all_goals
    go_wp2_with fail
    go_ret;refine ag ⟨aA.out,rfl,u,?_,HR.out.2.1,λx hx=>?_,aT.out⟩
    .rw[aG.out];exact HR.out.1
    rw[aG.out]at hx;exact(HR.out.2.2 x hx).imp id (λh=>dH aW h)
  have aY:=sv vb.f (R a) (R b);generalize aF:gI vb.f (R a) (R b)=why at *;have aU:=az aF;injection he with he;injection he with he;injection he with a7 o;injection o with o _;injection o with _ o;subst a7 o;have aA:=az J;have b0:¬((why:Int)=0):=by omega
  clear J aF aY;go_wp2_with fail
  go_ret;exact ab ⟨aA.out,by rw[aU.out];rfl,y.out⟩
end F
end Go.Proofs.YtnjiinbhbjpfkaaGreatDoor
