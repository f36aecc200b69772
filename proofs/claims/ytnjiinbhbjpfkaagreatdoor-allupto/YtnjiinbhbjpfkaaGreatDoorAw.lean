import Derived.Test.YtnjiinbhbjpfkaaGreatDoorAv
set_option maxRecDepth 100000
set_option maxHeartbeats 0
set_option linter.all false
namespace Go.Proofs.YtnjiinbhbjpfkaaGreatDoor
open Go.RowKit Go.Proofs.Tryz
section
namespace D
variable {d:Dp}{m:Dm}
theorem zf{c:Nat}(h:mA d m c):mA d m.nC c:=by
 induction h with
 |root h e=>exact .root h e
 |slot _ i e o=>exact .slot o i e
theorem EV{c:Nat}(h:mA d m.nC c):mA d m c:=by
 induction h with
 |root h e=>exact .root h e
 |slot _ i e o=>exact .slot o i e
end D
namespace F
theorem pU.Good.nums{x:pU}{I:Nat}(hG:x.Good I)(i:Ok x.p x.s)(hI:I<=2000000):D.Cl x.d x.m/\(∀N,D.lA x.d x.m N->N<=B.jo x.s.kd.on x.p.n)/\B.jo x.s.kd.on x.p.n<=x.d.n/\D.Nm x.p.n (1+50*I) x.s.kd x.s.M x.m.G:=by
 let⟨ρ,hS⟩:=hG.J9;have e:=hS.jW i hG.pd hG.rg af hG.n0;refine⟨⟨e.nt,e.n1,e.n2,e.f,λc H=>e.c c<|D.zf H⟩,λN J=>?_,by rw[hG.pd.n];grind[B.jo],hS.U.1⟩;obtain⟨l,u,o,rfl⟩:=hS.count i hG.pd (N:=N) (by
  obtain⟨l,u,o,y⟩:=J;exact⟨l,u,λt=>(o t).trans ⟨D.zf,D.EV⟩,y⟩)
 exact B.tg l u (λp hp=>by
  have:=B.nJ i.hl<|(o p).1 hp;grind)
section
variable {x:pU}{I:Nat}{w:aa} (hM:rf x.p x.s x.g x.mb w)(hR:D.dZ x.d x.m x.h w)(hG:x.Good I)(hI:I<=2000000)(hp:w.heap[x.pb]?=some (.cells #[P0 x.mb,P0 x.h.mb] 74 (0,0)))
include hM hR hG hI hp
theorem Ol:dC 51 #[P0 x.pb] w (.bool true) λw'=>w.grownBy w' none:=by
 let⟨n1,n2,n3,n4⟩:=hG.nums hM.ok hI;have HO:=bj<|hM.NS hG.pg.pw;have HP:=bj hp;have W:Hid (∀w1,iY w w1->Calls prog 79 #[P0 x.h.mb] w1 λe w'=>∃N:Nat,e=.returned (ah N)/\D.lA x.d x.m N/\iY w1 w'):=λw1 hg=>D.om (hR.kept hg) n1;have Y:x.m.G.fu=true\/(x.m.G.fu=false/\x.m.G.sure<=B.jo x.s.kd.on x.p.n/\B.jo x.s.kd.on x.p.n<=x.m.G.kL):=by
  cases e:x.m.G.fu with
  |true=>exact ag rfl
  |false=>exact ak ⟨rfl,(n4.e e).lo,(n4.e e).hi⟩
 have HU:=bj Y;let⟨p0,p1,a1⟩:=gQ hp;generalize B.jo x.s.kd.on x.p.n=n at*;delta dC;go_in;go_wp2_with fail
 refine dq HO λw1 H=>?_;have y:=bj H;let⟨q0,q1,lq⟩:=gQ<|da H HP je;go_wp2_with fail
 refine(W w1 y).mono ?_;rintro e w2 ⟨N,rfl,hN,a0⟩;have a4:=(bj n2).out N hN;have o:=bj<|ar y a0;let⟨r0,r1,lr⟩:=gQ<|da o HP je;have i:=(bj hR).out.kept o;have c1:=(i.mc 1 af (v:=ah x.d.n) rfl).1;have g0:=(i.mc 16 af (v:=ah x.m.G.all) rfl).1;have g1:=(i.mc 17 af (v:=.bool x.m.G.bg) rfl).1;have g2:=(i.mc 18 af (v:=ah x.m.G.kR) rfl).1;have g3:=(i.mc 19 af (v:=ah x.m.G.sure) rfl).1;have g4:=(i.mc 20 af (v:=ah x.m.G.kL) rfl).1;have g5:=(i.mc 21 af (v:=ah x.m.G.eL) rfl).1;have g6:=(i.mc 22 af (v:=ah x.m.G.qH) rfl).1;have g7:=(i.mc 23 af (v:=.bool x.m.G.fu) rfl).1;have lm:=i.M.lt;have d1:decide ((n:Int)<N)=false:=fV
 have d2:decide ((x.d.n:Int)<n)=false:=fV
 generalize x.m.G.bg=gb at*;rcases HU with Z|⟨Z,a5,a3⟩
 .rw[Z]at g7;go_wp2
  go_ret;refine⟨rfl,?_⟩;repeat (first|exact o|refine bo ?_|refine ax ?_ _|refine bu ?_ (ak (by have:=o.size;simp;omega)) _)
 rw[Z]at g7
 go_wp2
 go_ret;refine⟨rfl,?_⟩;repeat (first|exact o|refine bo ?_|refine ax ?_ _|refine bu ?_ (ak (by have:=o.size;simp;omega)) _)
theorem OR:dC 52 #[P0 x.pb] w (.bool true) λw'=>w.grownBy w' none:=by
 let⟨n1,n2,n3,W⟩:=hG.nums hM.ok hI;have HC:=bj<|hM.jW hG.pg.pw;let⟨u1,u2⟩:=hG.ub;have b:=W.b;have Z:x.m.G.fu=true/\x.m.G.eL<=x.s.kd.un/\x.m.G.qH<=x.s.kd.cc\/(x.m.G.fu=false/\x.m.G.eL=x.s.kd.un/\x.m.G.qH=x.s.kd.cc/\x.s.kd.fo=0):=by
  cases e:x.m.G.fu with
  |true=>
   grind[D.xl,D.Nm.u,D.Nm.c]
  |false=>
   have h:=W.e e;grind[D.xl,D.Nn.un,D.Nn.cc,D.Nn.fo]
 have HU:=bj Z;rw[D.xl af af,D.xl af af,D.xl af af]at HC;let⟨p0,p1,a0⟩:=gQ hp;generalize x.s.kd.un=un at*;generalize x.s.kd.cc=cc at*;generalize x.s.kd.fo=fo at*;delta dC;go_in;go_wp2_with fail
 refine dq HC λw1 H=>?_;have o:=bj H;let⟨q0,q1,lq⟩:=gQ<|da H (bj hp).out ey;have i:=(bj hR).out.kept o;have g0:=(i.mc 16 af (v:=ah x.m.G.all) rfl).1;have g1:=(i.mc 17 af (v:=.bool x.m.G.bg) rfl).1;have g2:=(i.mc 18 af (v:=ah x.m.G.kR) rfl).1;have g3:=(i.mc 19 af (v:=ah x.m.G.sure) rfl).1;have g4:=(i.mc 20 af (v:=ah x.m.G.kL) rfl).1;have g5:=(i.mc 21 af (v:=ah x.m.G.eL) rfl).1;have g6:=(i.mc 22 af (v:=ah x.m.G.qH) rfl).1;have g7:=(i.mc 23 af (v:=.bool x.m.G.fu) rfl).1;have lm:=i.M.lt;generalize x.m.G.bg=gb at*;generalize x.m.G.eL=gu at*;generalize x.m.G.qH=gc at*;rcases HU with⟨hf,J,Y⟩|⟨hf,J,Y,h3⟩
 .rw[hf]at g7
  go_wp2
  go_ret;refine⟨rfl,?_⟩;grind[bo,ax,bu]
 subst J Y h3;rw[hf]at g7
 go_wp2
 go_ret;refine⟨rfl,?_⟩;repeat (first|exact o|refine bo ?_|refine ax ?_ _|refine bu ?_ (ak (by have:=o.size;simp;omega)) _)
end
end F
end
namespace F
variable {I:Nat}{t:St}{w w' w0:aa}{x:pU}
theorem pU.Good.mono{x:pU}{I e:Nat}(h:x.Good I)(hI:I<=e):x.Good e:=by
 let⟨ρ,hS⟩:=h.J9;have hn:=h.n1;exact {h with J9:=⟨ρ,hS.mono af⟩,n1:=by omega,ub:=by have:=h.ub;omega}
def nh{x:Option pU}{e:Nat}(h:vr x I)(hI:I<=e):vr x e:=by
 cases x with
 |none=>trivial
 |some x=>exact pU.Good.mono h hI
structure re(w0:aa) (t:St) (I:Nat) (w:aa):Prop where
 Dz:t.jH w0 w
 gx:vr t.x I
 gy:vr t.y I
 mo:t.mo<=1000000008
 n:t.n<=I
 E:t.E.length<=4*I
 J:t.J.length<=4*I
 lE:∀y,y∈t.E->y.1.2.1<=1000000000
 lJ:∀y,y∈t.J->y.1.2.1<=1000000000
def LK(t t':St):Prop:=t'.ob=t.ob/\t'.mo=t.mo/\t'.bk=t.bk/\pV t'.x=pV t.x/\pV t'.y=pV t.y
theorem re.next(h:re w0 t I w)(e:t.jH w0 w'):re w0 t (I+1) w':=
 ⟨e,nh h.gx af,nh h.gy af,h.mo,gD h.n,gD h.E,gD h.J,h.lE,h.lJ⟩
theorem re.swap{w0 w:aa}{t:St}{I:Nat}(h:re w0 t I w):re w0 t.swap I w:=⟨h.Dz.swap,h.gy,h.gx,h.mo,h.n,h.E,h.J,h.lE,h.lJ⟩
theorem re.G6(h:re w0 t I w)(hx:t.x=some x)(ht:tS t.O x I t.ob t.mo t.bk t.n t.E (.slice t.rb.1 t.J.length t.rb.2) w0 w'):∃W,re w0 W (I+1) w'/\LK t W:=by
 obtain⟨e,ra,Q,Z,H,e3,hG,hQ,Y,hF⟩:=ht;have u:(t.E++Q).length<=4*(I+1):=by
  rw[db,hQ];have:=h.E;omega
 refine⟨{t with x:=some e,n:=t.n+1,ra:=ra,E:=t.E++Q},⟨hF.eq<|λi=>?_,hG.1,nh h.gy af,h.mo,by have:=h.n;grind,u,by have:=h.J;grind,λy o=>?_,h.lJ⟩,rfl,rfl,rfl,?_,rfl⟩
 .refine St.ext (λi hi=>?_) (λi hi=>?_) i
  .have h':=AL hi;repeat' rcases h' with rfl|h'
   .rfl
   .rfl
   .show Ob.one e.pb (.cells #[P0 e.mb,P0 e.h.mb] 74 (0,0))=oP t.x;rw[hx,Z,H,e3];rfl
   all_goals rfl
  grind[iN,F.St.LX]
 .grind[F.re.lE]
 rw[hx];show P0 e.pb=P0 x.pb;rw[H]
theorem re.queue(h:re w0 t I w)(ht:GO t.O t.bk t.n t.J (.slice t.ra.1 t.E.length t.ra.2) w0 w'):∃u,re w0 u (I+1) w'/\LK t u:=by
 obtain⟨rb,Q,hQ,H,G⟩:=ht;have o:(t.J++Q).length<=4*(I+1):=by
  rw[db,hQ];have:=h.J;omega
 refine⟨{t with n:=t.n+1,rb:=rb,J:=t.J++Q},⟨G.eq<|λi=>?_,nh h.gx af,nh h.gy af,h.mo,by have:=h.n;grind,by have:=h.E;grind,o,h.lE,λy e=>?_⟩,rfl,rfl,rfl,rfl,rfl⟩
 .refine St.ext (λi hi=>?_) (λi hi=>?_) i
  .rcases AL hi with rfl|rfl|rfl|rfl|rfl|rfl|rfl|rfl|rfl|rfl|rfl|rfl|rfl|rfl<;>rfl
  grind[iN,F.St.LX]
 grind[F.re.lJ]
theorem tS.kept{O:Nat->Ob}{x:pU}{I ob mo bk n:Nat}{E:List (Sl×Int)}{itv:Value}{w0 w w':aa}(h:tS O x I ob mo bk n E itv w0 w)(o:w.grownBy w' none):tS O x I ob mo bk n E itv w0 w':=by
 obtain⟨J,y,Q,i,u,Y,H,hQ,e,W⟩:=h;exact⟨J,y,Q,i,u,Y,H,hQ,e,W.kept o⟩
theorem tS.jW{t:St}{x:pU}{I:Nat}{w0 w':aa}(ht:tS t.O x I t.ob t.mo t.bk t.n t.E (.slice t.rb.1 t.J.length t.rb.2) w0 w')(hI:I<=1048576)(hx:t.x=some x):∃o Z cc:Int,(x.s.kd.un:Int)<=o/\o<=(x.s.kd.un:Int)+x.d.wk/\o<=100000000/\Calls prog 29 #[P0 x.mb] w' (λe w2=>e=.returned (.agg #[ah o,ah Z,ah cc])/\w'.grownBy w2 none)/\w'.heap[x.pb]?=some (.cells #[P0 x.mb,P0 x.h.mb] 74 (0,0))/\w'.cell? (az x.h.mb 3)=some (ah x.d.wk):=by
 obtain⟨i,ra,Q,H,e2,Y,⟨hG,W,h1,h2⟩,hQ,hl,y⟩:=ht;have u:=(y.at 0 rfl).jW hG.pg.pw;rw[H]at u;have hu:=hG.ub;rw[D.xl af af]at u;refine⟨_,_,_,?_,?_,?_,u,y.at 2 (show oP t.x=_ by rw[hx]),?_⟩
 .omega
 .omega
 .omega
 have:=((y.at 1 rfl).mc 3 af (v:=ah i.d.wk) rfl).1;grind
theorem Jm{kind hh ticks:Int}{ia:Option Addr}{iB ic:Nat}{il:List (Int×Nat)}(cb:Bool)(h:re w0 t I w)(hx:t.x=some x)(hI:D2 w0 ia iB il)(aI:iB+8<=t.mo)(aV:I<=1048576)(aL:-9223372036854775808<=ticks)(aS:ticks<=9223372036854775807):dC 33 #[P0 t.bk,P0 x.pb,.agg #[ah kind,ah hh,ah ticks,.slice ia iB ic],dD t.ob t.mo t.mo,.bool cb] w (.bool true) λw'=>∃t',re w0 t' (I+1) w'/\LK t t':=by
 have o:=bj h;have HX:=bj hx;have W:Hid (x.Good I):=by
  have:=h.gx;rw[hx]at this;exact this
 have i:Hid (t.O 0=.BF x.p x.s x.g x.mb/\t.O 1=.doc x.d x.m x.h/\t.O 2=.one x.pb (.cells #[P0 x.mb,P0 x.h.mb] 74 (0,0))):=⟨by show oA t.x=_;rw[hx];rfl,by show oB t.x=_;rw[hx];rfl,by show oP t.x=_;rw[hx];rfl⟩;have HI:=bj hI;have a6:=bj<|bh aL aS;delta dC;go_in;obtain⟨sb,aA⟩:∃sb,sb=w.heap.size:=⟨_,rfl⟩;have a0:=bl w<|.cells #[ah kind,ah hh,ah ticks,.slice ia iB ic] 76;rw[<-aA]at a0;have y:=bj<|o.Dz.kept<|aj w (.cells #[ah kind,ah hh,ah ticks,.slice ia iB ic] 76) none;go_upto_region 1 with fail
 generalize w.alloc (.cells #[ah kind,ah hh,ah ticks,.slice ia iB ic] 76)=w1 at*;rw[<-aA];let⟨b0,b1,b2,b3,aY⟩:=jc a0;have Z:w1.heap[x.pb]?=ny #[P0 x.mb,P0 x.h.mb] 74:=y.at 2 i.2.2;let⟨p0,p1,a9⟩:=gQ Z;have HM:=bj<|y.at 0 i.1;have aJ:=bj a0;clear a0 Z aA;by_cases k1:kind=1
 .subst k1
  cases cb with
  |false=>
   have a2:=bj<|Jk (kind:=1) (hh:=hh) (ic:=ic) y i.1 i.2.1 i.2.2 (ob:=t.ob) (mo:=t.mo) rfl (bk:=t.bk) (n:=t.n) (ra:=t.ra) (E:=t.E) (itv:=.slice t.rb.1 t.J.length t.rb.2) rfl rfl rfl rfl rfl W HI aI o.mo (gD o.n) (gD o.E) af a6.1 a6.2;go_wp2_with fail
   refine dq a2 λw2 hT=>?_;have HT:=bj hT;clear hT a2;go_wp2_with fail
   go_ret;exact⟨rfl,o.G6 HX HT⟩
  |true=>
   have aF:=bj<|HM.jW W.pg.pw;rw[D.xl (x:=(x.s.kd.un:Int)) af<|gD W.ub]at aF;have aU:Hid (x.s.kd.un<=100000000):=by have:=W.ub;show _<=_;omega
   generalize wrap64 (x.s.kd.fo:Int)=f1 at*;generalize wrap64 (x.s.kd.cc:Int)=c1 at*;go_wp2_with fail
   refine dq aF λw2 a4=>?_;have H:=bj<|y.kept a4;have a7:=bj<|da a4 aJ je;clear a4 aF b0 b1 b2 b3 aY p0 p1 a9;go_upto_region 7 with fail
   have a1:=aj w2 (.cells #[ah (x.s.kd.un:Int),ah f1,ah c1] 66) none;have a8:=bj<|H.kept a1;let⟨e0,e1,e2,e3,b4⟩:=jc<|da a1 a7 je;clear a7 H;generalize w2.alloc (.cells #[ah (x.s.kd.un:Int),ah f1,ah c1] 66)=w3 at*;clear a1;have a2:=bj<|Jk (kind:=1) (hh:=hh) (ic:=ic) a8 i.1 i.2.1 i.2.2 (ob:=t.ob) (mo:=t.mo) rfl (bk:=t.bk) (n:=t.n) (ra:=t.ra) (E:=t.E) (itv:=.slice t.rb.1 t.J.length t.rb.2) rfl rfl rfl rfl rfl W HI aI o.mo (gD o.n) (gD o.E) af a6.1 a6.2;go_wp2_with fail
   refine dq a2 λw4 hT=>?_;have HT:=bj hT;let⟨Y,aH,aE,v1,v2,v3,hC,aG,c3⟩:=tS.jW hT aV HX;have HC:=bj hC;have aK:=bj aG;have HV:=bj<|bh v1<|bh v2 v3;have aN:=an _ _ c3;have aB:=bj<|bh c3 aN;let⟨q0,q1,lq⟩:=gQ aG;clear hT hC aG v1 v2 v3 c3 aN a2 e0 e1 e2 e3 b4;go_wp2_with fail
   refine dq HC λw5 aP=>?_;have a5:=ar aP<|aj w5 (.cells #[ah Y,ah aH,ah aE] 66) none;have aZ:=bj a5;let⟨r0,r1,lr⟩:=gQ<|da a5 aK je;have c3:=(ay a5 (a:=az x.h.mb 3) aB.2).1.trans aB.1;have hn:=bl w5<|.cells #[ah Y,ah aH,ah aE] 66;have HN:=bj hn;clear aP a5 HC q0 q1 lq hn aB aK;go_upto_region 10 with fail
   generalize w5.alloc (.cells #[ah Y,ah aH,ah aE] 66)=w6 at*;have hn:=HN.out;have n0:w6.cell? (az (fp w5) 0)=some (ah Y):=fj hn
   clear hn HN;obtain⟨u0,aC⟩:∃u0:Int,u0=(x.s.kd.un:Int):=⟨_,rfl⟩;obtain⟨k0,aD⟩:∃k0:Int,k0=(x.d.wk:Int):=⟨_,rfl⟩;have hV:=HV.out;have hU:=aU.out;rw[<-aC,<-aD]at hV;have aW:0<=u0/\u0<=100000000:=af
   rw[<-aD]at c3;rw[<-aC];have hw:IntKind.i64.wrap (Y-u0)=Y-u0:=jf _ af;have q1:decide (u0<=Y)=true:=fV
   have q2:decide (Y-u0<=k0)=true:=fV
   clear hV hU aC aD aW HV aU;go_quiet (fail)
   have b5:=bj<|df aZ nq;generalize w6.drewN nq=w7 at*;go_wp2_with fail
   go_ret;exact⟨rfl,o.G6 HX<|HT.kept b5⟩
 by_cases k2:kind=2
 .subst k2;have aT:=bj HM.Av;go_wp2_with fail
  refine dq aT λw2 hg=>?_;have H:=bj<|y.ask i.1 hg;have aM:Hid (dC 49 #[P0 x.h.mb] w2 (ah x.s.Bh) λw'=>iY w2 w'):=by
   let⟨ρ,hS⟩:=W.J9;exact D.J0 (H.at 1 i.2.1) hS HM.ok W.n0
  have Z:w2.heap[x.pb]?=ny #[P0 x.mb,P0 x.h.mb] 74:=H.at 2 i.2.2;let⟨q0,q1,aX⟩:=gQ Z;clear hg aT Z p0 p1 a9;go_wp2_with fail
  refine dq aM λw3 a1=>?_;have a8:=bj<|H.kept a1;clear a1 aM;go_wp2_with fail
  go_ret;exact⟨eG,t,o.next a8,rfl,rfl,rfl,rfl,rfl⟩
 by_cases k3:kind=3
 .subst k3;have aQ:(x.s.q 2 0).length<=100000000:=by
   have hO:=HM.ok;have hl:fQ x.s 2 0:=ag ⟨rfl,rfl⟩;have h1:=gR x.s.nt _ (hO.lw.c 2 0 hl)<|λu hu=>hO.lt u<|hO.ql 2 0 hl u hu;have h2:=W.n1;omega
  have aO:=bj<|Ia (I:=I) y i.1 i.2.1 i.2.2 (bk:=t.bk) (n:=t.n) (rb:=t.rb) (J:=t.J) (evv:=.slice t.ra.1 t.E.length t.ra.2) rfl rfl rfl rfl W aQ (gD o.n) (gD o.J);clear aQ;go_wp2_with fail
  refine dq aO λw2 hT=>?_;have HT:=bj hT;clear hT aO;go_wp2_with fail
  go_ret;exact⟨rfl,o.queue HT⟩
 by_cases k4:kind=4
 .subst k4;have aR:=bj HM.clock;go_wp2_with fail
  refine dq aR λw2 hg=>?_;have H:=bj<|y.ask i.1 hg;have hR:D.dZ x.d x.m x.h w2:=H.at 1 i.2.1;have c5:w2.cell? (az x.h.mb 5)=some (ah x.s.clk):=by
   have:=(hR.mc 5 af (v:=ah x.m.clk) rfl).1;let⟨ρ,hS⟩:=W.J9;have e:x.m.clk=x.s.clk:=hS.ck;rw[e]at this;exact this
  have Z:w2.heap[x.pb]?=ny #[P0 x.mb,P0 x.h.mb] 74:=H.at 2 i.2.2;let⟨q0,q1,aX⟩:=gQ Z;clear hg aR Z p0 p1 a9 hR;go_wp2_with fail
  go_ret;exact⟨eG,t,o.next H,rfl,rfl,rfl,rfl,rfl⟩
 by_cases k5:kind=5
 .subst k5
  cases cb with
  |false=>
   go_wp2_with fail
   go_ret;exact⟨rfl,t,o.next y,rfl,rfl,rfl,rfl,rfl⟩
  |true=>
   have a3:=bj<|Ol HM (y.at 1 i.2.1) W af<|y.at 2 i.2.2;go_wp2_with fail
   refine dq a3 λw2 hg=>?_;have H:=bj<|y.kept hg;clear hg a3;go_wp2_with fail
   go_ret;exact⟨rfl,t,o.next H,rfl,rfl,rfl,rfl,rfl⟩
 by_cases k6:kind=6
 .subst k6
  cases cb with
  |false=>
   go_wp2_with fail
   go_ret;exact⟨rfl,t,o.next y,rfl,rfl,rfl,rfl,rfl⟩
  |true=>
   have a3:=bj<|OR HM (y.at 1 i.2.1) W af<|y.at 2 i.2.2;go_wp2_with fail
   refine dq a3 λw2 hg=>?_;have H:=bj<|y.kept hg;clear hg a3;go_wp2_with fail
   go_ret;exact⟨rfl,t,o.next H,rfl,rfl,rfl,rfl,rfl⟩
 go_wp2_with fail
 go_ret;exact⟨rfl,t,o.next y,rfl,rfl,rfl,rfl,rfl⟩
end F
section
theorem F.jH.join{w0 w w':aa}{O N:Nat->F.Ob}(h:F.jH w0 O w)(u:F.jH w N w')(k:Nat):F.jH w0 (λi=>if k<=i/\i<k+3 then N (i-k) else O i) w':=by
 have e:=u.b;refine h.to (S:=λ_=>False) (C:=λi=>k<=i/\i<k+3) ⟨e.os,e.tape,e.output,e.size,λa o _=>e.block a o⟩ (λ_ h=>h.elim) (λi hi=>av hi) (λi hi=>?_) (λi a hi o=>ak ?_)<|λi j a hi y o e=>?_
 .simp only[bf hi];exact u.ok _
 .simp only[bf hi]at o;exact u.lo _ a o
 simp only[bf hi]at o;simp only[bf y]at e;have:=u.dj _ _ a o e;omega
def D.Ms(p:F.dH)(K:Nat)(ρ:Nat->Nat):D.eF p K F.nS D.zA ρ:=by
 have o:∀c,¬D.qy p F.nS c:=λc u=>u (λ_=>False) (λi hi _=>by
  have W:i<0:=hi;omega)<|λk H=>H.elim
 refine⟨rfl,rfl,rfl,rfl,rfl,rfl,λt ht=>(by cases ht),λt ht _=>?_,λc u=>(o c u).elim,λc c' u=>(o c u).elim,λv J=>(by cases J),λx y _ _=>List.Pairwise.nil,λt ht=>(by cases ht),⟨rfl,bm _,bm _⟩,di _,⟨di _,di _⟩,D.Om p.n K _,λe=>by cases e⟩;have Y:=ht.1;have Z:t<=0:=ht.2;omega
namespace F
theorem ML(n:Int)(w:aa):dC 32 #[ah n] w (ah n) λw'=>w'=w:=by
 delta dC;go_in;go_wp2
 go_ret;simp_all
theorem Lk{p:dH}{d:D.Dp}{s:ByteArray}{n q wk t:Nat}(hP:ND p)(e:tT p s n q wk t)(o:D.Pb d s n q wk t)(W:(M.nK s).2=true)(hn:n<=200)(ht:1<=t)(g:eM)(mb:Nat)(h:D.Dg)(pb:Nat):(⟨p,nS.born 0 (0,0) (0,0),g,mb,d,D.zA.born 0 (0,0) (0,0),h,pb⟩:pU).Good 0:=by
 have e1:p.n=n:=gD e.n
 have e2:p.qn=q:=gD e.qn
 have e3:p.wk=wk:=gD e.wk
 have e4:p.mt=t:=gD e.mt
 have J:(D.zA.born 0 (0,0) (0,0)).nC=D.zA.born 0 (0,0) (0,0):=rfl;refine⟨hP,⟨by rw[o.n,e1],by rw[o.qn,e2],by rw[o.wk,e3],by rw[o.mt,e4],by rw[o.nf,e.nf],λf _=>by rw[o.len,e.len],λf _=>by rw[o.rg,e.rg],λf i _ _=>by rw[o.ins,e.ins]⟩,λf Z=>?_,⟨by show 1<=d.n;rw[o.n,<-e1];exact hP.pw.n1,by grind[D.Pb.n]⟩,?_,⟨λ_=>0,?_⟩,?_,?_,?_⟩
 .have:=M.gZ (D.vz<|(qR W).2.2 f (by rw[<-e.nf];exact Z)).1;grind[F.tT.rg]
 .exact Ng.born ⟨λ_ _ Z=>(by cases Z),λ_ _ y=>(by cases y),λ_ y=>(by cases y)⟩ 0 jO.z jO.z
 .show D.eF p 1 (nS.born 0 (0,0) (0,0)) (D.zA.born 0 (0,0) (0,0)).nC (λ_=>0);rw[J];have:=(D.Ms p 1<|λ_=>0).born (f:=0) (u:=(0,0)) (v:=(0,0)) (MH p) (by show 0<p.mt;omega) (dV.num 0)<|dV.num 0;exact this
 .grind[nN,nS,decide]
 .grind[nN,nS]
 have:(nS.born 0 (0,0) (0,0)).kd=B.tX:=m8 _ 2 0 _;show(nS.born 0 (0,0) (0,0)).kd.un<=_/\(nS.born 0 (0,0) (0,0)).kd.cc<=_;rw[this];exact⟨di _,di _⟩
def CY(xo:Option pU)(i:Nat):Ob:=if i=0 then oA xo else if i=1 then oB xo else if i=2 then oP xo else .nil
def EY{w w':aa}(u:Below w.heap.size w w'):jH w (CY none) w':=by
 have e:∀i,CY none i=.nil:=λi=>by
  unfold CY;split
  .rfl
  split
  .rfl
  split<;>rfl
 exact⟨u,λi=>by rw[e i];trivial,λi j k hi _=>by rw[e i]at hi;exact hi.elim,λi k o=>by rw[e i]at o;exact o.elim⟩
theorem EX{w w':aa}{x:pU}(W:Below w.heap.size w w')(hM:rf x.p x.s x.g x.mb w')(hR:D.dZ x.d x.m x.h w')(hP:w'.heap[x.pb]?=some (.cells #[P0 x.mb,P0 x.h.mb] 74 (0,0))){a b c:Nat}(ha:w.heap.size<=a)(Z:∀k,eJ x.p x.s x.g k\/k=x.mb->a<=k/\k<b)(h2:∀k,D.eJ x.d x.m x.h k->b<=k/\k<c)(h3:c<=x.pb)(Y:a<=b)(a1:b<=c):jH w (CY<|some x) w':=by
 have o:∀i k,(CY (some x) i).bs k->(i=0/\a<=k/\k<b)\/(i=1/\b<=k/\k<c)\/(i=2/\c<=k):=λi k e=>by
  unfold CY at e;by_cases y:i=0
  .rw[bf y]at e;exact ag ⟨y,Z k e⟩
  rw[av y]at e;by_cases G:i=1
  .rw[bf G]at e;exact ak<|ag ⟨G,h2 k e⟩
  rw[av G]at e;by_cases u:i=2
  .rw[bf u]at e;have a0:k=x.pb:=e;omega
  rw[av u]at e;exact e.elim
 refine⟨W,λi=>?_,λi j k hi J=>?_,λi k e=>?_⟩
 .unfold CY;split
  .exact hM
  split
  .exact hR
  split
  .exact hP
  trivial
 .grind
 grind
theorem wO(s:ByteArray)(c0 c1 W J:Nat)(w:aa)(hs:s.size<=maxLen)(aE:s.size<=140737488355328)(hT:pf w)(g0:1<=c0)(g1:c0<=200)(g2:1<=c1)(g3:c1<=50)(g4:1<=W)(g5:W<=50)(g6:1<=J)(g7:J<=16)(a9:(M.nK s).2=true):Calls prog 14 #[.string s,.agg #[ah (c0:Int),ah (c1:Int),ah (W:Int),ah (J:Int)]] w λe w'=>∃x:pU,e=.returned (.tuple #[P0 x.pb,.bool true])/\x.Good 0/\x.s=nS.born 0 (0,0) (0,0)/\tT x.p s c0 c1 W J/\jH w (CY<|some x) w':=by
 have HS:=bj hs;have KT:Hid (pf w):=hT;have a7:=bj a9;have H:uZ c0 c1 W J=true:=by simp[uZ,wj];omega
 have aG:=bj H;have i:Hid (1<=c0/\c0<=200/\1<=c1/\c1<=50/\1<=W/\W<=50/\1<=J/\J<=16):=⟨g0,g1,g2,g3,g4,g5,g6,g7⟩;go_in;go_wp2_with fail
 refine(KH s c0 c1 W J _ HS<|KT.alloc _).mono ?_;rintro e w1 ⟨a4,⟨_,_,_,aI⟩|⟨mb,p,g,rfl,hP,hM,u,o⟩⟩
 .grind
 obtain⟨Z,hf⟩:=tQ a4;have hz:=a4.size;simp at hz;have a8:=bj<|((fS _ _).alloc (bm _) _).trans<|a4.mono eG;have a0:w1.cell? (az w.heap.size 0)=some (ah c0):=by rw[Z _ _ eG];simp[go_sem]
 have a1:w1.cell? (az w.heap.size 1)=some (ah c1):=by rw[Z _ _ eG];simp[go_sem]
 have a2:w1.cell? (az w.heap.size 2)=some (ah W):=by rw[Z _ _ eG];simp[go_sem]
 have a3:w1.cell? (az w.heap.size 3)=some (ah J):=by rw[Z _ _ eG];simp[go_sem]
 have a6:=bj<|bh hP<|bh hM<|bh u o;have l0:w.heap.size<w1.heap.size:=af
 go_wp2_with fail
 have aA:=bj<|D.MJ s c0 c1 W J (w1.alloc<|.cells #[ah 0,ah 0] 42) HS aE i.1 i.2.1 i.2.2.1 i.2.2.2.1 i.2.2.2.2.1 i.2.2.2.2.2.1 i.2.2.2.2.2.2.1 i.2.2.2.2.2.2.2 a7;refine aA.mono ?_;rintro e w2 ⟨y,d,h,rfl,Y,hR,a5⟩;obtain⟨Z,hf⟩:=tQ y;have aC:=y.size;simp at aC;have aB:Hid (Below w.heap.size w w2):=(a8.alloc af _).trans<|y.mono fV;have f0:w2.cell? (az w1.heap.size 0)=some (ah 0):=by rw[Z _ _ eG];simp[go_sem]
 have f1:w2.cell? (az w1.heap.size 1)=some (ah 0):=by rw[Z _ _ eG];simp[go_sem]
 have aD:Hid (rf p (nS.born 0 (0,0) (0,0)) g mb w2):=AJ a6.2.1<|λk G=>(y.block k (by simp;grind)).trans<|au _ _ _ (a6.2.2.2 k G).2;have aF:=bj<|bh Y<|bh hR a5;have l1:w1.heap.size<w2.heap.size:=af
 go_wp2
 go_quiet ((go_at_call 32;exact Calls.quiet_of_same<|ML _ _))
 go_wp2
 go_ret2
 have hg:w2.grownBy (((w2.alloc<|.cells #[ah 0,ah 0] 42).drewN nq).alloc<|.cells #[P0 mb,P0 h.mb] 74) none:=ax (df (ax (aw _ _) _) nq) _;have aH:(((w2.alloc<|.cells #[ah 0,ah 0] 42).drewN nq).alloc<|.cells #[P0 mb,P0 h.mb] 74).heap[w2.heap.size+1]?=some (.cells #[P0 mb,P0 h.mb] 74 (0,0)):=by
  have:=bl ((w2.alloc<|.cells #[ah 0,ah 0] 42).drewN nq)<|.cells #[P0 mb,P0 h.mb] 74;simpa using this
 obtain⟨hP,_,u,o⟩:=a6;obtain⟨Y,hR,a5⟩:=aF;refine⟨⟨p,nS.born 0 (0,0) (0,0),g,mb,d,D.zA.born 0 (0,0) (0,0),h,w2.heap.size+1⟩,rfl,Lk hP u Y a7 i.2.1 i.2.2.2.2.2.2.1 g mb h _,rfl,u,EX (a:=w.heap.size) (b:=w1.heap.size) (c:=w2.heap.size) (aB.trans ⟨hg.os,hg.tape,hg.output,hg.size,λk G=>hg.block k af ey⟩) (AJ aD<|λk G=>hg.block k ey ey) (hR.kept hg) aH (bm _) (λk G=>⟨by have:=(o k G).1;simp at this;omega,(o k G).2⟩) (λk G=>⟨by have:=a5 k G;simp at this;omega,hR.lt G⟩) ey af af⟩
theorem Js(s:ByteArray)(c0 c1 o i:Int)(w:aa)(Z:s.size<=maxLen)(u:s.size<=140737488355328)(Y:pf w)(HL:uZ c0 c1 o i=false\/(M.nK s).2=false->dC 14 #[.string s,.agg #[ah c0,ah c1,ah o,ah i]] w (.tuple #[.pointer none,.bool true]) λw'=>Below w.heap.size w w'):Calls prog 14 #[.string s,.agg #[ah c0,ah c1,ah o,ah i]] w λe w'=>∃y:Option pU,e=.returned (.tuple #[pV y,.bool true])/\vr y 0/\jH w (CY y) w':=by
 by_cases G:uZ c0 c1 o i=true/\(M.nK s).2=true
 .have hb:1<=c0/\c0<=200/\1<=c1/\c1<=50/\1<=o/\o<=50/\1<=i/\i<=16:=by
   have:=G.1;simp[uZ,wj]at this;omega
  obtain⟨n,rfl⟩:∃n:Nat,c0=(n:Int):=⟨c0.toNat,af⟩;obtain⟨q,rfl⟩:∃q:Nat,c1=(q:Int):=⟨c1.toNat,af⟩;obtain⟨k,rfl⟩:∃k:Nat,o=(k:Int):=⟨o.toNat,af⟩;obtain⟨m,rfl⟩:∃m:Nat,i=(m:Int):=⟨i.toNat,af⟩;refine(wO s n q k m w Z u Y af af af af af af af af G.2).mono ?_;rintro e w' ⟨x,rfl,hG,_,_,J⟩;exact⟨some x,rfl,hG,J⟩
 refine(HL ?_).mono ?_
 .grind
 rintro e w' ⟨rfl,W⟩;exact⟨none,rfl,trivial,EY W⟩
end F
end
namespace F
variable {w w' w0:aa}
def AQ:ByteArray:={data:=#[1,2,3,0,0,0,5,20,0,0,0,14,0,0,0]}
def K5:(M.nK AQ).2=true:=by kernel_rfl
def K7:M.bt AQ (M.pos AQ 0+1)=3:=by kernel_rfl
def MP:sm AQ (M.pos AQ 0+2+4*0)=(0,0,0,5):=by kernel_rfl
def MO:sm AQ (M.pos AQ 0+2+4*1)=(20,0,0,0):=by kernel_rfl
def MN:sm AQ (M.pos AQ 0+2+4*2)=(14,0,0,0):=by kernel_rfl
theorem Lm(w:aa):dC 15 #[] w (.string AQ) λw'=>w'=w:=by
 delta dC;go_in;go_wp2
 go_ret;exact⟨rfl,rfl⟩
def FE{p:dH}{s1 u:Pl}(e:tT p AQ 1 2 1 1)(o:Ok p s1.nC)(ht:jX p (nS.born 0 (0,0) (0,0)) 0 [] s1)(i:jX p s1.nC 0 [] u):s1.ev=[(1,1,5)]/\u.ev=[(2,1,5)]:=by
 exact KU (f:=⟨0,0,iz (0,0) (0,0),(0,0,0,0)⟩) o ⟨rfl,rfl,rfl,rfl,rfl,rfl,rfl,rfl,nN nS 0 (0,0) (0,0),rfl⟩ ((e.len 0).trans K7) ((e.ins 0 0).trans MP) ((e.ins 0 1).trans MO) ((e.ins 0 2).trans MN) (gD e.qn) ht i
def NQ(i:Nat):Nat:=if i=11 then 12 else if i=12 then 11 else i
theorem G9(i j:Nat)(h:NQ i=NQ j):i=j:=by
 grind[NQ]
def BU{S:Nat->Prop}:NX w none 0 [] S:=⟨rfl,di _,λx e=>(by cases e),λ_=>rfl,λa i=>(by cases i)⟩
theorem KP(w:aa)(hT:pf w):dC 16 #[] w (.bool true) λw'=>Below w.heap.size w w':=by
 have KT:=bj hT;clear hT;have aF:=bl w<|.cells #[ah 1,ah 2,ah 1,ah 1] 23;have u:Hid (Below (fp w) w<|w.alloc<|.cells #[ah 1,ah 2,ah 1,ah 1] 23):=(fS _ _).alloc (bm _) _;delta dC;go_in;go_upto_region 2 with fail
 generalize w.alloc (.cells #[ah 1,ah 2,ah 1,ah 1] 23)=w1 at*;let⟨x0,x1,x2,x3,lx⟩:=jc aF;clear aF;have Z:Hid (Below (fp w) w w1.drew):=⟨u.os,u.tape,u.output,u.size,u.block⟩;have aE:Hid (Calls prog 14 #[.string AQ,.agg #[ah 1,ah 2,ah 1,ah 1]] w1.drew λe w'=>∃x:pU,e=.returned (.tuple #[P0 x.pb,.bool true])/\x.Good 0/\x.s=nS.born 0 (0,0) (0,0)/\tT x.p AQ 1 2 1 1/\jH w1.drew (CY<|some x) w'):=wO AQ 1 2 1 1 w1.drew eo eo (KT.below Z) eo eo eo eo eo eo eo eo K5;go_cut[2,3] from 7 to 12 (λpv bv wx=>∃x:pU,pv=P0 x.pb/\bv=.bool true/\Hid (x.Good 0/\x.s=nS.born 0 (0,0) (0,0)/\tT x.p AQ 1 2 1 1/\jH w1.drew (CY<|some x) wx))
 case first=>
  go_region_with (first|(go_at_call 15;refine dq (Lm _) ?_;rintro wq rfl)|(go_at_call 14;refine aE.mono ?_;rintro e w2 ⟨x,rfl,k1,k2,k3,k4⟩;have o:=bj<|bh k1<|bh k2<|bh k3 k4;clear k1 k2 k3 k4))
  all_goals
   go_wp2_with fail
   go_meet
   case rel=>exact⟨x,rfl,rfl,o⟩
 case rest=>
  obtain⟨x,rfl,rfl,o⟩:=hcut;have hM:rf x.p x.s x.g x.mb wc:=o.2.2.2.at 0 rfl;rw[o.2.1]at hM;have G:wc.heap[x.pb]?=some (.cells #[P0 x.mb,P0 x.h.mb] 74 (0,0)):=o.2.2.2.at 2 (X:=.one x.pb<|.cells #[P0 x.mb,P0 x.h.mb] 74 (0,0)) rfl;let⟨p0,p1,aL⟩:=gQ G;have Y:x.p.qn=2:=gD o.2.2.1.qn
  have aB:=bj<|hM.Ed (l:=[]) 0 0 o.1.pg (by rw[nN,Y];show 0+1+2<=_;omega) BU;have a1:=bj Y;clear hM G aE x0 x1 x2 x3 lx Y;go_wp2_with fail
  refine aB.mono ?_;rintro e w3 ⟨H,g6,a6,c6,rfl,a0,aD,a4,a9⟩;have a2:=o.2.2.2.Ee (p:=x.p) (s:=nS.born 0 (0,0) (0,0)) (g:=x.g) (mb:=x.mb) (by rw[<-o.2.1];rfl) a4 aD a9;have a8:=a2.perm NQ G9;have a3:=a4.m;have G:w3.heap[x.pb]?=some (.cells #[P0 x.mb,P0 x.h.mb] 74 (0,0)):=a2.at 2 (X:=.one x.pb<|.cells #[P0 x.mb,P0 x.h.mb] 74 (0,0)) rfl;let⟨q0,q1,aK⟩:=gQ G;have aC:=qe o.1.pg.pi o.1.pg.pw.n1 (by have:=o.2.2.2.at 0 (X:=.BF x.p x.s x.g x.mb) rfl;rw[o.2.1]at this;exact this.ok) rfl (by rw[nN,a1.out];show 0+1+2<=_;omega) (λy hy=>by cases hy) a0;have aA:H.nt<=3:=by have:=aC.n2;rw[nN,a1.out]at this;exact this
  have aG:=bj<|a3.Ed (l:=[]) 0 0 o.1.pg (by show H.nt+_<=_;rw[a1.out];omega) BU;have J:=bj<|bh a0<|bh a8 a3.ok;clear a0 aD a4 a9 a2 a8 a3 G aC aA aB p0 p1 aL;go_wp2_with fail
  refine aG.mono ?_;rintro e w5 ⟨s7,g7,a7,c7,rfl,aJ,a5,aI,aH⟩;let⟨e6,e7⟩:=FE o.2.2.1 J.2.2 J.1 aJ;have W:=J.2.1.Ee (p:=x.p) (s:=H.nC) (g:=g6) (mb:=x.mb) rfl aI a5 aH;have r6:w5.ownsRow 0 48 3 (.slice a6 H.ev.length c6) H.ev.length (nB H.ev):=W.at 11 (X:=.row 48 3 a6 H.ev.length c6<|nB H.ev) rfl;have r7:w5.ownsRow 0 48 3 (.slice a7 s7.ev.length c7) s7.ev.length (nB s7.ev):=W.at 12 (X:=.row 48 3 a7 s7.ev.length c7<|nB s7.ev) rfl;have aM:Hid (Below (fp w) w w5):=Z.trans<|W.b.mono Z.size;rw[e6]at r6⊢;rw[e7]at r7⊢;obtain⟨b6,rfl,l6,m0,m1,m2⟩:=B4 r6 (i:=0) (e:=(1,1,5)) rfl;obtain⟨b7,rfl,l7,n0,n1,n2⟩:=B4 r7 (i:=0) (e:=(2,1,5)) rfl;simp only[Nat.zero_mul,Nat.zero_add]at m0 m1 m2 n0 n1 n2;clear r6 r7 W a5 aI aH aJ aG J e6 e7 q0 q1 aK;go_wp2_with fail
  go_ret;exact⟨rfl,aM⟩
def Tryz.FQ:(prog.info? 169).map (λi=>(i.zero,i.size,i.bytes))=some (some<|.agg #[ah 0,dz 0],2,16):=by kernel_rfl
structure JH(w:aa) (ad:Option Addr) (len:Nat) (kd hh tk:Nat->Int) (ia:Nat->Option Addr) (iB ic:Nat->Nat) (il:Nat->List (Int×Nat)):Prop where
 n:ad=none->len=0
 z:∀a,ad=some a->∀i,i<len->a.block<w.heap.size/\w.cell? (a.add<|i*4)=some (.int .i64<|kd i)/\w.cell? (a.add<|i*4+1)=some (.int .i64<|hh i)/\w.cell? (a.add<|i*4+2)=some (.int .i64<|tk i)/\w.cell? (a.add<|i*4+3)=some (.slice (ia i) (iB i)<|ic i)
 i:∀i,i<len->D2 w (ia i) (iB i) (il i)
 t:∀i,i<len->-9223372036854775808<=tk i/\tk i<=9223372036854775807
theorem JH.at{w wr:aa}{ad:Option Addr}{len:Nat}{kd hh tk:Nat->Int}{u:Nat->Option Addr}{iB ic:Nat->Nat}{il:Nat->List (Int×Nat)}(h:JH w ad len kd hh tk u iB ic il)(o:Below w.heap.size w wr){a:Addr}(J:ad=some a){i:Nat}(hi:i<len):a.block<wr.heap.size/\wr.cell? (a.add<|i*4)=some (ah<|kd i)/\wr.cell? (az ((a.add<|i*4).block)<|(a.add<|i*4).off+1)=some (ah<|hh i)/\wr.cell? (az ((a.add<|i*4).block)<|(a.add<|i*4).off+2)=some (ah<|tk i)/\wr.cell? (az ((a.add<|i*4).block)<|(a.add<|i*4).off+3)=some (.slice (u i) (iB i)<|ic i):=by
 let⟨y,H,G,Y,W⟩:=h.z a J i hi;have e:∀m,wr.cell? (a.add m)=w.cell? (a.add m):=λm=>bd (a:=a.add m) (by rw[jN];exact o.block _ y);refine⟨dm y o.size,(e _).trans H,?_,?_,?_⟩
 .have:=(e<|i*4+1).trans G;rw[<-D.nu a (i*4) 1]at this;exact this
 .have:=(e<|i*4+2).trans Y;rw[<-D.nu a (i*4) 2]at this;exact this
 have:=(e<|i*4+3).trans W;rw[<-D.nu a (i*4) 3]at this;exact this
theorem N9{J W:Option pU}{O:Nat->Ob}{ob mo bk:Nat}(h:jH w0 O w)(ho:∀i,O i=if i<3 then CY J i else if i<6 then CY W (i-3) else .nil)(hg:w.grownBy w' none)(h1:w.heap.size<=ob)(h2:w.heap.size<=bk)(h3:ob≠bk)(hb:jQ w' ob 169 (mo*2))(u:Full w' bk 81 3 3 (yz 0 (.slice none 0 0)<|.slice none 0 0))(hx:vr J 0)(o:vr W 0)(Y:mo<=1000000008):re w0 ⟨J,W,ob,mo,bk,0,(none,0),[],(none,0),[]⟩ 0 w':=by
 refine⟨?_,hx,o,Y,bm _,bm _,bm _,λy o=>(by cases o),λy o=>(by cases o)⟩;have G:∀i k,6<=i->((⟨J,W,ob,mo,bk,0,(none,0),[],(none,0),[]⟩:St).O i).bs k->(i=6/\k=ob)\/(i=7/\k=bk):=λi k hi u=>by
  by_cases H:i<14
  .have h':=AL H;repeat' rcases h' with rfl|h'
   .omega
   .omega
   .omega
   .omega
   .omega
   .omega
   .exact ag ⟨rfl,u⟩
   .exact ak ⟨rfl,u⟩
   .cases u
   .cases u
   .obtain⟨y,o,_⟩:=u;cases o
   .obtain⟨y,o,_⟩:=u;cases o
   .exact u.elim
   exact u.elim
  rw[St.LX _ af]at u;exact u.elim
 refine h.to (S:=λ_=>False) (C:=λi=>6<=i) (eA hg) (λ_ h=>h.elim) (λi hi=>?_) (λi hi=>?_) (λi k hi a1=>?_)<|λi j k hi hj Z a0=>?_
 .rw[ho i];have a2:i<6:=af
  have hc:=pS 5 i af
  (repeat' rcases hc with rfl|hc)<;>rfl
 .by_cases H:i<14
  .have h':=AL H;repeat' rcases h' with rfl|h'
   .omega
   .omega
   .omega
   .omega
   .omega
   .omega
   .exact hb
   .exact u
   .exact eg _ _ _ _
   .exact eg _ _ _ _
   .exact λy o=>by cases o
   .exact λy o=>by cases o
   .trivial
   trivial
  rw[St.LX _ af];trivial
 .grind
 grind
theorem re.kept{w0 w w':aa}{t:St}{I:Nat}(h:re w0 t I w)(e:w.grownBy w' none):re w0 t I w':={h with Dz:=h.Dz.kept e}
def re.looks{t:St}{I:Nat}(h:re w0 t I w)(hI:I<=2000000):dC 34 #[P0 t.bk] w (.bool true) λw'=>w.grownBy w' none:=by
 have o:∀x,x∈t.E->Rd w 48 3 (oI x.2) x.1:=h.Dz.at 10 (X:=.lists 48 3 oI t.E) rfl;have u:∀x,x∈t.J->Rd w 3 1 (tL x.2) x.1:=h.Dz.at 11 (X:=.lists 3 1 tL t.J) rfl;exact Kz (Ev:=yz t.n (.slice t.ra.1 t.E.length t.ra.2)<|.slice t.rb.1 t.J.length t.rb.2) (h.Dz.at 7 (X:=.full t.bk 81 3<|yz t.n (.slice t.ra.1 t.E.length t.ra.2)<|.slice t.rb.1 t.J.length t.rb.2) rfl) rfl rfl (h.Dz.at 8 (X:=.row 119 2 t.ra.1 t.E.length t.ra.2<|jg t.E) rfl) (h.Dz.at 9 (X:=.row 121 2 t.rb.1 t.J.length t.rb.2<|jg t.J) rfl) (λx i=>⟨o x i,h.lE x i⟩) (λx i=>⟨u x i,h.lJ x i⟩) (gD h.E) (gD h.J)
theorem Kt(cb:Bool)(s t:ByteArray)(c0 c1 c2 c3 d0 d1 d2 d3:Int)(ad:Option Addr)(len cap:Nat)(kd hh tk:Nat->Int)(ia:Nat->Option Addr)(iB ic:Nat->Nat)(il:Nat->List (Int×Nat))(w:aa)(hs:s.size<=maxLen)(aR:s.size<=140737488355328)(ht:t.size<=maxLen)(aS:t.size<=140737488355328)(hT:pf w)(bL:len<=1048576)(aQ:JH w ad len kd hh tk ia iB ic il)(HL:∀(s:ByteArray) (c0 c1 c2 c3:Int) (w:aa),s.size<=maxLen->s.size<=140737488355328->pf w->uZ c0 c1 c2 c3=false\/(M.nK s).2=false->dC 14 #[.string s,.agg #[ah c0,ah c1,ah c2,ah c3]] w (.tuple #[.pointer none,.bool true]) λw'=>Below w.heap.size w w'):dC 17 #[.string s,.agg #[ah c0,ah c1,ah c2,ah c3],.string t,.agg #[ah d0,ah d1,ah d2,ah d3],.slice ad len cap,.bool cb] w (.bool true) λw'=>Below w.heap.size w w':=by
 obtain⟨i0,hi,bI,bF,bG⟩:=info_parts Tryz.FQ;have HS:=bj<|bh hs<|bh aR<|bh ht aS;have KT:=bj hT;have a1:=bj aQ;have aM:=bj HL;clear hs aR ht aS hT aQ HL;have aT:jH w (λ_=>.nil) w:=⟨fS _ _,λ_=>trivial,λ_ _ _ h=>h.elim,λ_ _ h=>h.elim⟩;have aP:w.grownBy ((w.alloc<|.cells #[ah c0,ah c1,ah c2,ah c3] 23).alloc<|.cells #[ah d0,ah d1,ah d2,ah d3] 23) none:=ax (aj _ _ _) _;have aA:=bj<|aT.kept aP;have bB:((w.alloc<|.cells #[ah c0,ah c1,ah c2,ah c3] 23).alloc<|.cells #[ah d0,ah d1,ah d2,ah d3] 23).heap[w.heap.size]?=some (.cells #[ah c0,ah c1,ah c2,ah c3] 23 (0,0)):=(au _ _ _ eG).trans<|bl _ _;have aI:((w.alloc<|.cells #[ah c0,ah c1,ah c2,ah c3] 23).alloc<|.cells #[ah d0,ah d1,ah d2,ah d3] 23).heap[w.heap.size+1]?=some (.cells #[ah d0,ah d1,ah d2,ah d3] 23 (0,0)):=by
  have:=bl (gG w #[ah c0,ah c1,ah c2,ah c3] 23)<|.cells #[ah d0,ah d1,ah d2,ah d3] 23;simpa using this
 clear aT aP;delta dC;go_in;go_upto_region 1 with fail
 generalize (w.alloc<|.cells #[ah c0,ah c1,ah c2,ah c3] 23).alloc (.cells #[ah d0,ah d1,ah d2,ah d3] 23)=w1 at*;obtain⟨x0,x1,x2,x3,lx⟩:=jc bB;have ly:=ch aI;have b3:=bj aI;have aV:=bj<|Js s c0 c1 c2 c3 w1 HS.out.1 HS.out.2.1 (KT.out.below aA.out.b)<|aM.out s c0 c1 c2 c3 w1 HS.out.1 HS.out.2.1<|KT.out.below aA.out.b;clear bB aI;go_wp2_with fail
 refine aV.out.mono ?_;rintro e w2 ⟨xo,rfl,b8,aH⟩;have a8:=bj<|aA.out.join aH 0;have b9:=(aH.b.block (w.heap.size+1) ly).trans b3.out;obtain⟨y0,y1,y2,y3,bK⟩:=jc b9;have bD:=bj b8;have bC:=bj<|Js t d0 d1 d2 d3 w2 HS.out.2.2.1 HS.out.2.2.2 (KT.out.below a8.out.b)<|aM.out t d0 d1 d2 d3 w2 HS.out.2.2.1 HS.out.2.2.2<|KT.out.below a8.out.b;clear aH b9 b8 aA b3 aV x0 x1 x2 x3 lx ly;go_wp2_with fail
 refine bC.out.mono ?_;rintro e w3 ⟨yo,rfl,b4,b7⟩;have aD:=bj<|a8.out.join b7 3;have aU:=bj b4;clear b7 b4 a8 bC y0 y1 y2 y3 bK;go_wp2_with fail
 go_loopw[16,17] (λmv iv wr=>∃(i M:Nat),i<=len/\iv=ah i/\mv=ah M/\M<=1000000000/\wr=w3/\Hid (∀j,j<i->iB j<=M)) (λ_ iv _=>len-(intOf iv).toNat)
 case atStart=>exact⟨0,0,af,rfl,rfl,af,rfl,λj hj=>by omega⟩
 case round=>
  obtain⟨i,Mx,bM,rfl,rfl,hM,rfl,rM⟩:=hrel;by_cases aW:i<len
  .have b1:(i:Int)<(len:Int):=af
   obtain⟨a,rfl⟩:∃a,ad=some a:=by
    cases ad with
    |none=>have:=a1.out.n rfl;omega
    |some a=>exact⟨a,rfl⟩
   obtain⟨z0,z1,z2,z3,z4⟩:=a1.out.at aD.out.b rfl aW;have aO:=(a1.out.i i aW).2.1;have aL:Hid (iB i<=Mx->∀j,j<i+1->iB j<=Mx):=λbA j hj=>by
    by_cases e:j=i
    .rw[e];exact bA
    exact rM.out j af
   have aE:Hid (Mx<iB i->∀j,j<i+1->iB j<=iB i):=λbA j hj=>by
    by_cases e:j=i
    .rw[e];exact bm _
    have:=rM.out j af;omega
   generalize iB i=ni at*;generalize ia i=ai at*;generalize ic i=ci at*;clear z1 z2 z3 rM;by_cases bH:Mx<ni
   .have b5:(Mx:Int)<(ni:Int):=af
    have a6:=bj<|aE.out bH;clear aL aE;go_wp2_with fail
    go_roundw
    case rel=>first|exact⟨i+1,ni,af,iI,rfl,aO,rfl,a6⟩|exact⟨i+1,ni,af,iI,rfl,aO,trivial,a6⟩
    case measure=>simp[intOf];omega
   have b5:¬((Mx:Int)<(ni:Int)):=af
   have a6:=bj<|aL.out af;clear aL aE;go_wp2_with fail
   go_roundw
   case rel=>first|exact⟨i+1,Mx,af,iI,rfl,hM,rfl,a6⟩|exact⟨i+1,Mx,af,iI,rfl,hM,trivial,a6⟩
   case measure=>simp[intOf];omega
  have b1:¬((i:Int)<(len:Int)):=af
  have b0:Hid (∀j,j<len->iB j<=Mx):=λj hj=>rM.out j af;have q8:IntKind.i64.wrap ((Mx:Int)+8)=((Mx+8:Nat):Int):=by rw[fz,dL _ af];rfl
  clear rM;go_wp2_with (at_make;go_loud (refine wpList_make_full _ rfl _ _ 56 rfl 0 169 i0 _ 2 Tryz.underlying56 hi bI bF _ _ _ _ (Mx+8) rfl rfl rfl rfl (lD bG) pY (di _) ?_))
  intro w4 aC aJ;have a3:=jQ.owned aC;have aY:=a3.lt;have aZ:wr.grownBy (w4.alloc<|.cells #[ah 0,.slice none 0 0,.slice none 0 0] 81) none:=ax aJ _;have aF:Hid (re w ⟨xo,yo,wr.heap.size,Mx+8,w4.heap.size,0,(none,0),[],(none,0),[]⟩ 0<|w4.alloc<|.cells #[ah 0,.slice none 0 0,.slice none 0 0] 81):=by
   refine N9 aD.out (λi=>?_) aZ (bm _) aJ.size af ?_ ⟨_,bl w4 _,rfl,λj hj=>?_⟩ bD.out aU.out af
   .by_cases h1:i<3
    .simp only[bf h1];rw[eK,mL,Nat.sub_zero]
    rw[av h1];by_cases h2:i<6
    .rw[bf h2,mL]
    rw[av h2,eK,eK]
   .obtain⟨bE,k1,k2⟩:=a3;exact⟨bE,(au _ _ _ aY).trans k1,k2⟩
   have hc:j=0\/j=1\/j=2:=af
   rcases hc with rfl|rfl|rfl<;>rfl
  clear aC a3 aY aZ aJ aD bD aU;obtain⟨ob,aK⟩:∃ob,ob=wr.heap.size:=⟨_,rfl⟩;obtain⟨bk,a3⟩:∃bk,bk=w4.heap.size:=⟨_,rfl⟩;obtain⟨mo,aG⟩:∃mo,mo=Mx+8:=⟨_,rfl⟩;have bJ:Hid (∀j,j<len->iB j+8<=mo):=λj hj=>by have:=b0.out j hj;omega
  rw[<-aK,<-a3,<-aG]at aF;have aN:Hid (∃t,re w t 0 (w4.alloc<|.cells #[ah 0,.slice none 0 0,.slice none 0 0] 81)/\t.ob=ob/\t.mo=mo/\t.bk=bk/\pV t.x=pV xo/\pV t.y=pV yo):=⟨_,aF.out,rfl,rfl,rfl,rfl,rfl⟩;clear aF b0;go_wp2_with fail
  rw[<-aK,<-a3,<-aG];clear aK a3 aG q8;generalize w4.alloc (.cells #[ah 0,.slice none 0 0,.slice none 0 0] 81)=w5 at*;generalize pV xo=vx at*;generalize pV yo=vy at*;go_loopw[20] (λiv wx=>∃i:Nat,i<=len/\iv=ah i/\Hid (∃t,re w t i wx/\t.ob=ob/\t.mo=mo/\t.bk=bk/\pV t.x=vx/\pV t.y=vy)) (λiv _=>len-(intOf iv).toNat)
  case atStart=>exact⟨0,af,rfl,aN⟩
  case round=>
   clear aN;obtain⟨q,hq,rfl,rT⟩:=hrel;by_cases a9:q<len
   .have b2:(q:Int)<(len:Int):=af
    obtain⟨a,rfl⟩:∃a,ad=some a:=by
     cases ad with
     |none=>have:=a1.out.n rfl;omega
     |some a=>exact⟨a,rfl⟩
    obtain⟨t,u,Z,J,H,Y,e5⟩:=rT.out;obtain⟨z0,z1,z2,z3,z4⟩:=a1.out.at u.Dz.b rfl a9;have KI:=bj<|a1.out.i q a9;have aB:=bj<|a1.out.t q a9;have b6:=bj<|bJ.out q a9;generalize kd q=kq at*;generalize hh q=aX at*;generalize tk q=tq at*;generalize ia q=aq at*;generalize iB q=nq at*;generalize ic q=cq at*;clear u Z J H Y e5 t;go_upto_region 21 with fail
    .have HU:Hid (∃t,re w t q wr/\t.ob=ob/\t.mo=mo/\t.bk=bk/\pV t.x=vy/\pV t.y=vx):=(by obtain⟨t,h1,h2,h3,h4,h5,h6⟩:=rT.out;exact⟨t.swap,h1.swap,h2,h3,h4,h6,h5⟩);clear rT;obtain⟨t,u,Z,J,H,Y,e5⟩:=HU.out;clear HU
     cases hx:t.x with
     |none=>
      have hv:.pointer none=vy:=by rw[<-Y,hx];rfl
      subst hv;have HN:Hid (∃t,re w t (q+1) wr/\t.ob=ob/\t.mo=mo/\t.bk=bk/\pV t.x=vx/\pV t.y=.pointer none):=⟨t.swap,(u.next u.Dz).swap,Z,J,H,e5,Y⟩;clear u Z J H Y e5 hx;go_wp2_with fail
      go_roundw
      case rel=>exact⟨q+1,af,iI,HN⟩
      case measure=>simp[intOf];omega
     |some x=>
      have hv:P0 x.pb=vy:=by rw[<-Y,hx];rfl
      subst hv;have a4:=bj<|Jm (kind:=kq) (hh:=aX) (ic:=cq) cb u hx KI.out (eZ J b6.out) af aB.out.1 aB.out.2;rw[Z,J,H]at a4;have a2:=bj<|bh Z<|bh J<|bh H<|bh Y e5;clear u Z J H Y e5 hx;go_wp2_with fail
      refine dq a4 ?_;rintro w6 ⟨t',o,W⟩;have a0:=bj<|o.looks af;have H:=W.2.2.1.trans a2.out.2.2.1;rw[H]at a0;have a5:=bj<|bh o W;clear o W H a4;go_wp2_with fail
      refine dq a0 λw7 a7=>?_;have HN:Hid (∃t,re w t (q+1) w7/\t.ob=ob/\t.mo=mo/\t.bk=bk/\pV t.x=vx/\pV t.y=P0 x.pb):=by
       obtain⟨o,W⟩:=a5.out;obtain⟨Z,J,H,Y,e5⟩:=a2.out;exact⟨t'.swap,(o.kept a7).swap,(W.1.trans Z),(W.2.1.trans J),(W.2.2.1.trans H),(W.2.2.2.2.trans e5),(W.2.2.2.1.trans Y)⟩
      clear a7 a5 a0 a2;go_wp2_with fail
      go_roundw
      case rel=>exact⟨q+1,af,iI,HN⟩
      case measure=>simp[intOf];omega
    have HU:=rT;clear rT;obtain⟨t,u,Z,J,H,Y,e5⟩:=HU.out;clear HU
    cases hx:t.x with
    |none=>
     have hv:.pointer none=vx:=by rw[<-Y,hx];rfl
     subst hv;have HN:Hid (∃t,re w t (q+1) wr/\t.ob=ob/\t.mo=mo/\t.bk=bk/\pV t.x=.pointer none/\pV t.y=vy):=⟨t,u.next u.Dz,Z,J,H,Y,e5⟩;clear u Z J H Y e5 hx;go_wp2_with fail
     go_roundw
     case rel=>exact⟨q+1,af,iI,HN⟩
     case measure=>simp[intOf];omega
    |some x=>
     have hv:P0 x.pb=vx:=by rw[<-Y,hx];rfl
     subst hv;have a4:=bj<|Jm (kind:=kq) (hh:=aX) (ic:=cq) cb u hx KI.out (eZ J b6.out) af aB.out.1 aB.out.2;rw[Z,J,H]at a4;have a2:=bj<|bh Z<|bh J<|bh H<|bh Y e5;clear u Z J H Y e5 hx;go_wp2_with fail
     refine dq a4 ?_;rintro w6 ⟨t',o,W⟩;have a0:=bj<|o.looks af;have H:=W.2.2.1.trans a2.out.2.2.1;rw[H]at a0;have a5:=bj<|bh o W;clear o W H a4;go_wp2_with fail
     refine dq a0 λw7 a7=>?_;have HN:Hid (∃t,re w t (q+1) w7/\t.ob=ob/\t.mo=mo/\t.bk=bk/\pV t.x=P0 x.pb/\pV t.y=vy):=by
      obtain⟨o,W⟩:=a5.out;obtain⟨Z,J,H,Y,e5⟩:=a2.out;exact⟨t',o.kept a7,(W.1.trans Z),(W.2.1.trans J),(W.2.2.1.trans H),(W.2.2.2.1.trans Y),(W.2.2.2.2.trans e5)⟩
     clear a7 a5 a0 a2;go_wp2_with fail
     go_roundw
     case rel=>exact⟨q+1,af,iI,HN⟩
     case measure=>simp[intOf];omega
   have b2:¬((q:Int)<(len:Int)):=af
   go_wp2_with fail
   go_ret;obtain⟨t,u,_⟩:=rT.out;exact⟨rfl,u.Dz.b⟩
def D2.below{ad:Option Addr}{n:Nat}{l:List (Int×Nat)}(h:D2 w ad n l)(o:Below w.heap.size w w'):D2 w' ad n l:=
 ⟨h.1,h.2.1,h.2.2.1,h.2.2.2.1,λa i e=>⟨dm (h.2.2.2.2 a i e).1 o.size,λj x u=>(h.cell o i u).2⟩⟩
theorem JH.below{w w':aa}{ad:Option Addr}{len:Nat}{kd hh tk:Nat->Int}{u:Nat->Option Addr}{iB ic:Nat->Nat}{il:Nat->List (Int×Nat)}(h:JH w ad len kd hh tk u iB ic il)(o:Below w.heap.size w w'):JH w' ad len kd hh tk u iB ic il:=by
 refine⟨h.n,λa J i hi=>?_,λi hi=>(h.i i hi).below o,h.t⟩;let⟨y,H,G,Y,W⟩:=h.z a J i hi;have e:∀m,w'.cell? (a.add m)=w.cell? (a.add m):=λm=>bd (a:=a.add m) (by rw[jN];exact o.block _ y);exact⟨dm y o.size,(e _).trans H,(e _).trans G,(e _).trans Y,(e _).trans W⟩
theorem OX(s t:ByteArray)(c0 c1 i o J Z W Y:Int)(ad:Option Addr)(len cap:Nat)(kd hh tk:Nat->Int)(ia:Nat->Option Addr)(iB ic:Nat->Nat)(il:Nat->List (Int×Nat))(w:aa)(hs:s.size<=maxLen)(a3:s.size<=140737488355328)(ht:t.size<=maxLen)(a4:t.size<=140737488355328)(hT:pf w)(a0:len<=1048576)(a1:JH w ad len kd hh tk ia iB ic il)(HL:∀(s:ByteArray) (c0 c1 i o:Int) (w:aa),s.size<=maxLen->s.size<=140737488355328->pf w->uZ c0 c1 i o=false\/(M.nK s).2=false->dC 14 #[.string s,.agg #[ah c0,ah c1,ah i,ah o]] w (.tuple #[.pointer none,.bool true]) λw'=>Below w.heap.size w w'):dC 11 #[.string s,.agg #[ah c0,ah c1,ah i,ah o],.string t,.agg #[ah J,ah Z,ah W,ah Y],.slice ad len cap] w (.bool true) λw'=>Below w.heap.size w w':=by
 have HS:=bj<|bh hs<|bh a3<|bh ht a4;have KT:=bj hT;have a9:=bj a1;have aA:=bj HL;have H:Hid (Below (fp w) w<|(w.alloc<|.cells #[ah c0,ah c1,ah i,ah o] 23).alloc<|.cells #[ah J,ah Z,ah W,ah Y] 23):=((fS _ _).alloc (bm _) _).alloc eG _;have a7:((w.alloc<|.cells #[ah c0,ah c1,ah i,ah o] 23).alloc<|.cells #[ah J,ah Z,ah W,ah Y] 23).heap[fp w]?=some (.cells #[ah c0,ah c1,ah i,ah o] 23 (0,0)):=(au _ _ _ eG).trans<|bl _ _;have a2:((w.alloc<|.cells #[ah c0,ah c1,ah i,ah o] 23).alloc<|.cells #[ah J,ah Z,ah W,ah Y] 23).heap[w.heap.size+1]?=some (.cells #[ah J,ah Z,ah W,ah Y] 23 (0,0)):=by
  have:=bl (gG w #[ah c0,ah c1,ah i,ah o] 23)<|.cells #[ah J,ah Z,ah W,ah Y] 23;simpa using this
 delta dC;go_in;go_upto_region 1 with fail
 generalize (w.alloc<|.cells #[ah c0,ah c1,ah i,ah o] 23).alloc (.cells #[ah J,ah Z,ah W,ah Y] 23)=w1 at*;have HB:=bj<|bh a7 a2;go_wp2_with fail
 refine dq (bj<|KP w1<|KT.below H) λw2 u=>?_;let⟨x0,x1,x2,x3,lx⟩:=jc<|(u.block _<|ch HB.1).trans HB.1;let⟨y0,y1,y2,y3,ly⟩:=jc<|(u.block _<|ch HB.2).trans HB.2;have y:=bj<|H.trans<|u.mono H.size;have a5:=bj<|Kt true s t c0 c1 i o J Z W Y ad len cap kd hh tk ia iB ic il w2 HS.1 HS.2.1 HS.2.2.1 HS.2.2.2 (KT.below y) a0 (a9.below y) aA;go_wp2_with fail
 refine dq a5 λw3 a8=>?_;have aB:=bj<|y.trans<|a8.mono y.size;go_wp2
 go_ret;exact⟨eG,aB⟩
