import Derived.Test.YtnjiinbhbjpfkaaGreatDoorTy
import Derived.Deep.DeepHandedRow
import Derived.Deep.SlicePairs
set_option maxRecDepth 100000
set_option maxHeartbeats 0
set_option linter.all false
namespace Go.Proofs.YtnjiinbhbjpfkaaGreatDoor
open Go.RowKit Go.Proofs.Tryz
namespace F
variable {I:Nat}{t:St}{w w' w0:aa}{x:qB}
theorem qB.Good.mono{x:qB}{I e:Nat}(h:x.Good I)(hI:I<=e):x.Good e:=by
 obtain⟨ρ,hS⟩:=h.Ks;have hn:=h.n1;exact { h with Ks:=⟨ρ,hS.mono ag⟩,n1:=by omega }
theorem mP{x:Option qB}{e:Nat}(h:uK x I)(hI:I<=e):uK x e:=by
 cases x with
 | none=>trivial
 | some x=>exact qB.Good.mono h hI
structure qD(w0:aa) (t:St) (I:Nat) (w:aa):Prop where
 CO:t.jv w0 w
 gx:uK t.x I
 gy:uK t.y I
 mo:t.mo<=1000000008
 n:t.n<=I
 E:t.E.length<=4*I
 J:t.J.length<=4*I
 lE:∀y,y∈t.E->y.1.2.1<=1000000000
 lJ:∀y,y∈t.J->y.1.2.1<=1000000000
def Kj(t t':St):Prop:=t'.ob=t.ob/\t'.mo=t.mo/\t'.bk=t.bk/\pV t'.x=pV t.x/\pV t'.y=pV t.y
theorem qD.next(h:qD w0 t I w)(e:t.jv w0 w'):qD w0 t (I+1) w':=
 ⟨e,mP h.gx ag,mP h.gy ag,h.mo,gp h.n,gp h.E,gp h.J,h.lE,h.lJ⟩
theorem qD.swap{w0 w:aa}{t:St}{I:Nat}(h:qD w0 t I w):qD w0 t.swap I w:=⟨h.CO.swap,h.gy,h.gx,h.mo,h.n,h.E,h.J,h.lE,h.lJ⟩
theorem qD.I4(h:qD w0 t I w)(hx:t.x=some x)(ht:IL t.O x I t.ob t.mo t.bk t.n t.E (.slice t.rb.1 t.J.length t.rb.2) w0 w'):∃H,qD w0 H (I+1) w'/\Kj t H:=by
 obtain⟨o,ra,Q,e1,G,W,hG,hQ,Z,Y⟩:=ht;have u:(t.E++Q).length<=4*(I+1):=by
  rw[cw,hQ];have:=h.E;omega
 refine⟨{ t with x:=some o,n:=t.n+1,ra:=ra,E:=t.E++Q },⟨Y.eq (λi=>?_),hG,mP h.gy ag,h.mo,by have:=h.n;grind,u,by have:=h.J;grind,λy e=>?_,h.lJ⟩,rfl,rfl,rfl,?_,rfl⟩
 .refine St.ext (λi hi=>?_) (λi hi=>?_) i
  .rcases Ae hi with rfl|rfl|rfl|rfl|rfl|rfl|rfl|rfl|rfl|rfl|rfl|rfl|rfl|rfl
   .rfl
   .rfl
   .show Ob.one o.pb (.cells #[P0 o.mb,P0 o.h.mb] 74 (0,0))=oP t.x;rw[hx,e1,G,W];rfl
   all_goals rfl
  grind[gE,F.St.Kw]
 .grind[F.qD.lE]
 rw[hx];show P0 o.pb=P0 x.pb;rw[G]
theorem qD.queue(h:qD w0 t I w)(ht:FO t.O t.bk t.n t.J (.slice t.ra.1 t.E.length t.ra.2) w0 w'):∃u,qD w0 u (I+1) w'/\Kj t u:=by
 obtain⟨rb,Q,hQ,H,G⟩:=ht;have o:(t.J++Q).length<=4*(I+1):=by
  rw[cw,hQ];have:=h.J;omega
 refine⟨{ t with n:=t.n+1,rb:=rb,J:=t.J++Q },⟨G.eq (λi=>?_),mP h.gx ag,mP h.gy ag,h.mo,by have:=h.n;grind,by have:=h.E;grind,o,h.lE,λy e=>?_⟩,rfl,rfl,rfl,rfl,rfl⟩
 .refine St.ext (λi hi=>?_) (λi hi=>?_) i
  .rcases Ae hi with rfl|rfl|rfl|rfl|rfl|rfl|rfl|rfl|rfl|rfl|rfl|rfl|rfl|rfl<;>rfl
  grind[gE,F.St.Kw]
 grind[F.qD.lJ]
theorem Ip{kind hh ticks:Int}{ia:Option Addr}{iC ic:Nat}{il:List (Int×Nat)}(h:qD w0 t I w)(hx:t.x=some x)(hI:Di w0 ia iC il)(aC:iC+8<=t.mo)(aG:I<=1048576)(aA:-9223372036854775808<=ticks)(a9:ticks<=9223372036854775807): dD 33 #[P0 t.bk,P0 x.pb,.agg #[aj kind,aj hh,aj ticks,.slice ia iC ic],dA t.ob t.mo t.mo,.bool false] w (.bool true) λw'=>∃t',qD w0 t' (I+1) w'/\Kj t t':=by
 have o:=bj h;have HX:=bj hx;have W:Hid (x.Good I):=by
  have:=h.gx;rw[hx]at this;exact this
 have i:Hid (t.O 0=.Ba x.p x.s x.g x.mb/\t.O 1=.doc x.d x.m x.h/\t.O 2=.one x.pb (.cells #[P0 x.mb,P0 x.h.mb] 74 (0,0))):=⟨by show oA t.x=_;rw[hx];rfl,by show oB t.x=_;rw[hx];rfl,by show oP t.x=_;rw[hx];rfl⟩;change Hid _ at hI;have a7:=bj (bh aA a9);clear h hx aA a9;delta dD;go_in;obtain⟨sb,Z⟩:∃sb,sb=w.heap.size:=⟨_,rfl⟩;have Y:=bl w (.cells #[aj kind,aj hh,aj ticks,.slice ia iC ic] 76);rw[<-Z]at Y;have y:=bj (o.CO.kept (ak w (.cells #[aj kind,aj hh,aj ticks,.slice ia iC ic] 76) none));go_upto_region 1 with fail
 generalize w.alloc (.cells #[aj kind,aj hh,aj ticks,.slice ia iC ic] 76)=w1 at *;rw[<-Z];obtain⟨b0,b1,b2,b3,aE⟩:=jj Y;have G:w1.heap[x.pb]? = some (.cells #[P0 x.mb,P0 x.h.mb] 74 (0,0)):=y.at 2 i.2.2;obtain⟨p0,p1,a6⟩:=lC G;have HM:Hid (tS x.p x.s x.g x.mb w1):=y.at 0 i.1;clear Y G Z;by_cases k1:kind=1
 .subst k1;have a4:=bj (K6 (kind:=1) (hh:=hh) (ic:=ic) y i.1 i.2.1 i.2.2 (ob:=t.ob) (mo:=t.mo) rfl (bk:=t.bk) (n:=t.n) (ra:=t.ra) (E:=t.E) (itv:=.slice t.rb.1 t.J.length t.rb.2) rfl rfl rfl rfl rfl W hI aC o.mo (gp o.n) (gp o.E) ag a7.1 a7.2);go_wp2_with fail
  refine du a4 λw2 hT=>?_;change Hid _ at hT;clear a4;go_wp2
  go_ret;exact⟨rfl,o.I4 HX hT⟩
 by_cases k2:kind=2
 .subst k2;have a3:=bj HM.zO;go_wp2_with fail
  refine du a3 λw2 hg=>?_;have H:=bj (y.ask i.1 hg);have a8:Hid (dD 49 #[P0 x.h.mb] w2 (aj x.s.AL) λw'=>w2.grownBy w' none):=by
   obtain⟨ρ,hS⟩:=W.Ks;exact D.I9 (H.at 1 i.2.1) hS HM.ok W.n0
  have G:w2.heap[x.pb]? = some (.cells #[P0 x.mb,P0 x.h.mb] 74 (0,0)):=H.at 2 i.2.2;obtain⟨q0,q1,aD⟩:=lC G;clear hg a3 G p0 p1 a6;go_wp2_with fail
  refine du a8 λw3 a0=>?_;have aB:=bj (H.kept a0);clear a0 a8;go_wp2
  go_ret;exact⟨eB,t,o.next aB,rfl,rfl,rfl,rfl,rfl⟩
 by_cases k3:kind=3
 .subst k3;have a2:(x.s.q 2 0).length<=100000000:=by
   have hO:=HM.ok;have hl:fN x.s 2 0:=af ⟨rfl,rfl⟩;have h1:=gK x.s.nt _ (hO.lw.c 2 0 hl) (λu hu=>hO.lt u (hO.ql 2 0 hl u hu));have h2:=W.n1;omega
  have a5:=bj (GG (I:=I) y i.1 i.2.1 i.2.2 (bk:=t.bk) (n:=t.n) (rb:=t.rb) (J:=t.J) (evv:=.slice t.ra.1 t.E.length t.ra.2) rfl rfl rfl rfl W a2 (gp o.n) (gp o.J));clear a2;go_wp2_with fail
  refine du a5 λw2 hT=>?_;have hT:=bj hT;clear hT a5;go_wp2
  go_ret;exact⟨rfl,o.queue hT⟩
 by_cases k4:kind=4
 .subst k4;have a1:=bj HM.clock;go_wp2_with fail
  refine du a1 λw2 hg=>?_;have H:=bj (y.ask i.1 hg);have hR:D.dZ x.d x.m x.h w2:=H.at 1 i.2.1;have c5:dS w2 x.h.mb 5=some (aj x.s.clk):=by
   have:=(hR.mc 5 ag (v:=aj x.m.clk) rfl).1;obtain⟨ρ,hS⟩:=W.Ks;have e:x.m.clk=x.s.clk:=hS.ck;rw[e]at this;exact this
  have G:w2.heap[x.pb]? = some (.cells #[P0 x.mb,P0 x.h.mb] 74 (0,0)):=H.at 2 i.2.2;obtain⟨q0,q1,aD⟩:=lC G;clear hg a1 G p0 p1 a6 hR;go_wp2
  go_ret;exact⟨eB,t,o.next H,rfl,rfl,rfl,rfl,rfl⟩
 by_cases k5:kind=5
 .subst k5;go_wp2
  go_ret;exact⟨rfl,t,o.next y,rfl,rfl,rfl,rfl,rfl⟩
 by_cases k6:kind=6
 .subst k6;go_wp2
  go_ret;exact⟨rfl,t,o.next y,rfl,rfl,rfl,rfl,rfl⟩
 go_wp2
 go_ret;exact⟨rfl,t,o.next y,rfl,rfl,rfl,rfl,rfl⟩
end F
section
theorem F.jv.join{w0 w w':aa}{O N:Nat->F.Ob}(h:F.jv w0 O w)(u:F.jv w N w')(k:Nat):F.jv w0 (λi=>if k<=i/\i<k+3 then N (i-k) else O i) w':=by
 have e:=u.b;refine h.to (S:=λ_=>False) (C:=λi=>k<=i/\i<k+3) ⟨e.os,e.tape,e.output,e.size,λa o _=>e.block a o⟩ (λ_ h=>h.elim) (λi hi=>au hi) (λi hi=>?_) (λi a hi o=>ah ?_) (λi j a hi y o e=>?_)
 .simp only[bf hi];exact u.ok _
 .simp only[bf hi]at o;exact u.lo _ a o
 simp only[bf hi]at o;simp only[bf y]at e;have:=u.dj _ _ a o e;omega
theorem D.Lo(p:F.dL)(K:Nat)(ρ:Nat->Nat):D.eF p K F.oj D.yJ ρ:=by
 have o:∀c,¬D.pU p F.oj c:=λc e=>e (λ_=>False) (λi hi _=>by
  have H:i<0:=hi;omega) (λk u=>u.elim)
 refine⟨rfl,rfl,rfl,rfl,rfl,rfl,λt ht=>(by cases ht),λt ht _=>?_,λc e=>(o c e).elim,λc J e=>(o c e).elim,λv G=>(by cases G),λx y _ _=>List.Pairwise.nil,λt ht=>(by cases ht),⟨rfl,bq _,bq _⟩,dk _,⟨dk _,dk _⟩⟩;have W:=ht.1;have Y:t<=0:=ht.2;omega
namespace F
theorem LJ(n:Int)(w:aa):dD 32 #[aj n] w (aj n) λw'=>w'=w:=by
 delta dD;go_in;go_wp2
 go_ret;simp_all
theorem JV{p:dL}{d:D.Dp}{s:ByteArray}{n q wk t:Nat}(hP:ME p)(e:tg p s n q wk t)(o:D.N3 d s n q wk t)(G:(M.m9 s).2=true)(hn:n<=200)(ht:1<=t)(g:eJ)(mb:Nat)(h:D.Dg)(pb:Nat):(⟨p,oj.born 0 (0,0) (0,0),g,mb,d,D.yJ.born 0 (0,0) (0,0),h,pb⟩:qB).Good 0:=by
 have e1:p.n=n:=gp e.n;have e2:p.qn=q:=gp e.qn;have e3:p.wk=wk:=gp e.wk;have Z:p.mt=t:=gp e.mt;have J:(D.yJ.born 0 (0,0) (0,0)).ns=D.yJ.born 0 (0,0) (0,0):=rfl;refine⟨hP,⟨by rw[o.n,e1],by rw[o.qn,e2],by rw[o.wk,e3],by rw[o.mt,Z],by rw[o.nf,e.nf],λf _=>by rw[o.len,e.len],λf _=>by rw[o.rg,e.rg],λf i _ _=>by rw[o.ins,e.ins]⟩,λf W=>?_,by grind[D.N3.n],?_,⟨λ_=>0,?_⟩,?_,?_⟩
 .have:=M.gU (D.uO ((qu G).2.2 f (by rw[<-e.nf];exact W))).1;grind[F.tg.rg]
 .exact Ng.born ⟨λ_ _ W=>(by cases W),λ_ _ Y=>(by cases Y),λ_ Y=>(by cases Y)⟩ 0 jE.z jE.z
 .show D.eF p 1 (oj.born 0 (0,0) (0,0)) (D.yJ.born 0 (0,0) (0,0)).ns (λ_=>0);rw[J];have:=(D.Lo p 1 (λ_=>0)).born (f:=0) (u:=(0,0)) (v:=(0,0)) (LF p) (by show 0<p.mt;omega) (dW.num 0) (dW.num 0);exact this
 .grind[ny,oj,decide]
 grind[ny,oj]
def Cm(xo:Option qB)(i:Nat):Ob:=if i=0 then oA xo else if i=1 then oB xo else if i=2 then oP xo else .nil
theorem Ef{w w':aa}(u:Below w.heap.size w w'):jv w (Cm none) w':=by
 have e:∀i,Cm none i=.nil:=λi=>by
  unfold Cm;split
  .rfl
  split
  .rfl
  split<;>rfl
 exact⟨u,λi=>by rw[e i];trivial,λi j k hi _=>by rw[e i]at hi;exact hi.elim,λi k o=>by rw[e i]at o;exact o.elim⟩
theorem Ee{w w':aa}{x:qB}(W:Below w.heap.size w w')(hM:tS x.p x.s x.g x.mb w')(hR:D.dZ x.d x.m x.h w')(hP:w'.heap[x.pb]? = some (.cells #[P0 x.mb,P0 x.h.mb] 74 (0,0))){a b c:Nat}(ha:w.heap.size<=a)(Z:∀k,eH x.p x.s x.g k\/k=x.mb->a<=k/\k<b)(h2:∀k,D.eH x.d x.m x.h k->b<=k/\k<c)(h3:c<=x.pb)(Y:a<=b)(a1:b<=c):jv w (Cm (some x)) w':=by
 have o:∀i k,(Cm (some x) i).bs k->(i=0/\a<=k/\k<b)\/(i=1/\b<=k/\k<c)\/(i=2/\c<=k):=λi k e=>by
  unfold Cm at e;by_cases y:i=0
  .rw[bf y]at e;exact af ⟨y,Z k e⟩
  rw[au y]at e;by_cases G:i=1
  .rw[bf G]at e;exact ah (af ⟨G,h2 k e⟩)
  rw[au G]at e;by_cases u:i=2
  .rw[bf u]at e;have a0:k=x.pb:=e;omega
  rw[au u]at e;exact e.elim
 refine⟨W,λi=>?_,λi j k hi J=>?_,λi k e=>?_⟩
 .unfold Cm;split
  .exact hM
  split
  .exact hR
  split
  .exact hP
  trivial
 .grind
 grind
theorem vR(s:ByteArray)(c0 c1 W J:Nat)(w:aa)(hs:s.size<=maxLen)(aE:s.size<=140737488355328)(hT:og w)(g0:1<=c0)(g1:c0<=200)(g2:1<=c1)(g3:c1<=50)(g4:1<=W)(g5:W<=50)(g6:1<=J)(g7:J<=16)(a9:(M.m9 s).2=true): Calls prog 14 #[.string s,.agg #[aj (c0:Int),aj (c1:Int),aj (W:Int),aj (J:Int)]] w λe w'=>∃x:qB,e=.returned (.tuple #[P0 x.pb,.bool true])/\x.Good 0/\x.s=oj.born 0 (0,0) (0,0)/\tg x.p s c0 c1 W J/\jv w (Cm (some x)) w':=by
 have HS:=bj hs;have KT:Hid (og w):=hT;have a7:=bj a9;have H:uA c0 c1 W J=true:=by simp[uA,vm];omega
 have aG:=bj H;have i:Hid (1<=c0/\c0<=200/\1<=c1/\c1<=50/\1<=W/\W<=50/\1<=J/\J<=16):=⟨g0,g1,g2,g3,g4,g5,g6,g7⟩;go_in;go_wp2_with fail
 refine(JD s c0 c1 W J _ HS.out (KT.out.alloc _)).mono ?_;rintro e w1 ⟨a4,⟨_,_,_,aI⟩|⟨mb,p,g,rfl,hP,hM,u,o⟩⟩
 .grind
 obtain⟨Z,hf⟩:=ta a4;have hz:=a4.size;simp at hz;have a8:=bj (((fQ _ _).alloc (bq _) _).trans (a4.mono eB));have a0:w1.cell? (ay w.heap.size 0)=some (aj c0):=by rw[Z _ _ eB];simp[go_sem]
 have a1:w1.cell? (ay w.heap.size 1)=some (aj c1):=by rw[Z _ _ eB];simp[go_sem]
 have a2:w1.cell? (ay w.heap.size 2)=some (aj W):=by rw[Z _ _ eB];simp[go_sem]
 have a3:w1.cell? (ay w.heap.size 3)=some (aj J):=by rw[Z _ _ eB];simp[go_sem]
 have a6:=bj (bh hP (bh hM (bh u o)));have l0:w.heap.size<w1.heap.size:=ag
 go_wp2_with fail
 have aA:=bj (D.LH s c0 c1 W J (w1.alloc (.cells #[aj 0,aj 0] 42)) HS.out aE i.out.1 i.out.2.1 i.out.2.2.1 i.out.2.2.2.1 i.out.2.2.2.2.1 i.out.2.2.2.2.2.1 i.out.2.2.2.2.2.2.1 i.out.2.2.2.2.2.2.2 a7.out);refine aA.out.mono ?_;rintro e w2 ⟨y,d,h,rfl,Y,hR,a5⟩;obtain⟨Z,hf⟩:=ta y;have aC:=y.size;simp at aC;have aB:Hid (Below w.heap.size w w2):=(a8.out.alloc ag _).trans (y.mono fH);have f0:w2.cell? (ay w1.heap.size 0)=some (aj 0):=by rw[Z _ _ eB];simp[go_sem]
 have f1:w2.cell? (ay w1.heap.size 1)=some (aj 0):=by rw[Z _ _ eB];simp[go_sem]
 have aD:Hid (tS p (oj.born 0 (0,0) (0,0)) g mb w2):=Ac a6.out.2.1 (λk G=>(y.block k (by simp;grind)).trans (av _ _ _ (a6.out.2.2.2 k G).2));have aF:=bj (bh Y (bh hR a5));have l1:w1.heap.size<w2.heap.size:=ag
 go_wp2_with fail
 go_quiet ((go_at_call 32;exact Calls.quiet_of_same (LJ _ _)))
 go_wp2_with fail
 go_ret2
 have hg:w2.grownBy (((w2.alloc (.cells #[aj 0,aj 0] 42)).drewN nq).alloc (.cells #[P0 mb,P0 h.mb] 74)) none:=ax (df (ax (aw _ _) _) nq) _;have aH:(((w2.alloc (.cells #[aj 0,aj 0] 42)).drewN nq).alloc (.cells #[P0 mb,P0 h.mb] 74)).heap[w2.heap.size+1]? = some (.cells #[P0 mb,P0 h.mb] 74 (0,0)):=by
  have:=bl ((w2.alloc (.cells #[aj 0,aj 0] 42)).drewN nq) (.cells #[P0 mb,P0 h.mb] 74);simpa using this
 obtain⟨hP,_,u,o⟩:=a6.out;obtain⟨Y,hR,a5⟩:=aF.out;refine⟨⟨p,oj.born 0 (0,0) (0,0),g,mb,d,D.yJ.born 0 (0,0) (0,0),h,w2.heap.size+1⟩,rfl,JV hP u Y a7.out i.out.2.1 i.out.2.2.2.2.2.2.1 g mb h _,rfl,u,Ee (a:=w.heap.size) (b:=w1.heap.size) (c:=w2.heap.size) (aB.out.trans ⟨hg.os,hg.tape,hg.output,hg.size,λk G=>hg.block k ag eR⟩) (Ac aD.out (λk G=>hg.block k eR eR)) (hR.kept hg) aH (bq _) (λk G=>⟨by have:=(o k G).1;simp at this;omega,(o k G).2⟩) (λk G=>⟨by have:=a5 k G;simp at this;omega,hR.lt G⟩) eR ag ag⟩
theorem Iv(s:ByteArray)(c0 c1 o i:Int)(w:aa)(Z:s.size<=maxLen)(u:s.size<=140737488355328)(Y:og w)(HL:uA c0 c1 o i=false\/(M.m9 s).2=false->dD 14 #[.string s,.agg #[aj c0,aj c1,aj o,aj i]] w (.tuple #[.pointer none,.bool true]) λw'=>Below w.heap.size w w'): Calls prog 14 #[.string s,.agg #[aj c0,aj c1,aj o,aj i]] w λe w'=>∃y:Option qB,e=.returned (.tuple #[pV y,.bool true])/\uK y 0/\jv w (Cm y) w':=by
 by_cases G:uA c0 c1 o i=true/\(M.m9 s).2=true
 .have hb:1<=c0/\c0<=200/\1<=c1/\c1<=50/\1<=o/\o<=50/\1<=i/\i<=16:=by
   have:=G.1;simp[uA,vm]at this;omega
  obtain⟨n,rfl⟩:∃n:Nat,c0=(n:Int):=⟨c0.toNat,ag⟩;obtain⟨q,rfl⟩:∃q:Nat,c1=(q:Int):=⟨c1.toNat,ag⟩;obtain⟨k,rfl⟩:∃k:Nat,o=(k:Int):=⟨o.toNat,ag⟩;obtain⟨m,rfl⟩:∃m:Nat,i=(m:Int):=⟨i.toNat,ag⟩;refine(vR s n q k m w Z u Y ag ag ag ag ag ag ag ag G.2).mono ?_;rintro e w' ⟨x,rfl,hG,_,_,J⟩;exact⟨some x,rfl,hG,J⟩
 refine(HL ?_).mono ?_
 .grind
 rintro e w' ⟨rfl,W⟩;exact⟨none,rfl,trivial,Ef W⟩
end F
end
namespace F
variable {w w' w0:aa}
def Aj:ByteArray:={ data:=#[1,2,3,0,0,0,5,20,0,0,0,14,0,0,0] }
theorem JI:(M.m9 Aj).2=true:=by kernel_rfl
theorem JK:M.bt Aj (M.pos Aj 0+1)=3:=by kernel_rfl
theorem LN:rj Aj (M.pos Aj 0+2+4*0)=(0,0,0,5):=by kernel_rfl
theorem LM:rj Aj (M.pos Aj 0+2+4*1)=(20,0,0,0):=by kernel_rfl
theorem LL:rj Aj (M.pos Aj 0+2+4*2)=(14,0,0,0):=by kernel_rfl
theorem JX(w:aa):dD 15 #[] w (.string Aj) λw'=>w'=w:=by
 delta dD;go_in;go_wp2
 go_ret;exact⟨rfl,rfl⟩
theorem EI{p:dL}{s1 u:Pl}(e:tg p Aj 1 2 1 1)(o:Ok p s1.ns)(ht:ku p (oj.born 0 (0,0) (0,0)) 0 [] s1)(i:ku p s1.ns 0 [] u):s1.ev=[(1,1,5)]/\u.ev=[(2,1,5)]:=by
 exact JG (f:=⟨0,0,ig (0,0) (0,0),(0,0,0,0)⟩) o ⟨rfl,rfl,rfl,rfl,rfl,rfl,rfl,rfl,ny oj 0 (0,0) (0,0),rfl⟩ ((e.len 0).trans JK) ((e.ins 0 0).trans LN) ((e.ins 0 1).trans LM) ((e.ins 0 2).trans LL) (gp e.qn) ht i
def MQ(i:Nat):Nat:=if i=11 then 12 else if i=12 then 11 else i
theorem Gd(i j:Nat)(h:MQ i=MQ j):i=j:=by
 unfold MQ at h;split at h<;>split at h<;>(try split at h)<;>(try split at h)<;>omega
theorem Bm{S:Nat->Prop}:MV w none 0 [] S:=⟨rfl,dk _,λx e=>(by cases e),λ_=>rfl,λa i=>(by cases i)⟩
theorem JF(w:aa)(hT:og w):dD 16 #[] w (.bool true) λw'=>Below w.heap.size w w':=by
 have KT:=bj hT;clear hT;have aF:=bl w (.cells #[aj 1,aj 2,aj 1,aj 1] 23);have u:Hid (Below w.heap.size w (w.alloc (.cells #[aj 1,aj 2,aj 1,aj 1] 23))):=(fQ _ _).alloc (bq _) _;delta dD;go_in;go_upto_region 2 with fail
 generalize w.alloc (.cells #[aj 1,aj 2,aj 1,aj 1] 23)=w1 at *;obtain⟨x0,x1,x2,x3,lx⟩:=jj aF;clear aF;have Z:Hid (Below w.heap.size w w1.drew):=⟨u.out.os,u.out.tape,u.out.output,u.out.size,u.out.block⟩;have aE:Hid (Calls prog 14 #[.string Aj,.agg #[aj 1,aj 2,aj 1,aj 1]] w1.drew λe w'=>∃x:qB,e=.returned (.tuple #[P0 x.pb,.bool true])/\x.Good 0/\x.s=oj.born 0 (0,0) (0,0)/\tg x.p Aj 1 2 1 1/\jv w1.drew (Cm (some x)) w'):=vR Aj 1 2 1 1 w1.drew ek ek (KT.out.below Z.out) ek ek ek ek ek ek ek ek JI;go_cut [2,3] from 7 to 12 (λpv bv wx=>∃x:qB,pv=P0 x.pb/\bv=.bool true/\Hid (x.Good 0/\x.s=oj.born 0 (0,0) (0,0)/\tg x.p Aj 1 2 1 1/\jv w1.drew (Cm (some x)) wx))
 case first=>
  go_region_with (first|(go_at_call 15;refine du (JX _) ?_;rintro wq rfl)|(go_at_call 14;refine aE.out.mono ?_;rintro e w2 ⟨x,rfl,k1,k2,k3,k4⟩;have o:=bj (bh k1 (bh k2 (bh k3 k4)));clear k1 k2 k3 k4))
  all_goals
   go_wp2_with fail
   go_meet
   case rel=>exact⟨x,rfl,rfl,o⟩
 case rest=>
  obtain⟨x,rfl,rfl,o⟩:=hcut;have hM:tS x.p x.s x.g x.mb wc:=o.out.2.2.2.at 0 rfl;rw[o.out.2.1]at hM;have G:wc.heap[x.pb]? = some (.cells #[P0 x.mb,P0 x.h.mb] 74 (0,0)):=o.out.2.2.2.at 2 (X:=.one x.pb (.cells #[P0 x.mb,P0 x.h.mb] 74 (0,0))) rfl;obtain⟨p0,p1,aL⟩:=lC G;have Y:x.p.qn=2:=gp o.out.2.2.1.qn
  have aB:=bj (hM.Dw (l:=[]) 0 0 o.out.1.pg (by rw[ny,Y];show 0+1+2<=_;omega) Bm);have a1:=bj Y;clear hM G aE x0 x1 x2 x3 lx Y;go_wp2_with fail
  refine aB.out.mono ?_;rintro e w3 ⟨H,g6,a6,c6,rfl,a0,aD,a4,a9⟩;have a2:=o.out.2.2.2.Dx (p:=x.p) (s:=oj.born 0 (0,0) (0,0)) (g:=x.g) (mb:=x.mb) (by rw[<-o.out.2.1];rfl) a4 aD a9;have a8:=a2.perm MQ Gd;have a3:=a4.m;have G:w3.heap[x.pb]? = some (.cells #[P0 x.mb,P0 x.h.mb] 74 (0,0)):=a2.at 2 (X:=.one x.pb (.cells #[P0 x.mb,P0 x.h.mb] 74 (0,0))) rfl;obtain⟨q0,q1,aK⟩:=lC G;have aC:=pE o.out.1.pg.pi o.out.1.pg.pw.n1 (by have:=o.out.2.2.2.at 0 (X:=.Ba x.p x.s x.g x.mb) rfl;rw[o.out.2.1]at this;exact this.ok) rfl (by rw[ny,a1.out];show 0+1+2<=_;omega) (λy hy=>by cases hy) a0;have aA:H.nt<=3:=by have:=aC.n2;rw[ny,a1.out]at this;exact this
  have aG:=bj (a3.Dw (l:=[]) 0 0 o.out.1.pg (by show H.nt+_<=_;rw[a1.out];omega) Bm);have J:=bj (bh a0 (bh a8 a3.ok));clear a0 aD a4 a9 a2 a8 a3 G aC aA aB p0 p1 aL;go_wp2_with fail
  refine aG.out.mono ?_;rintro e w5 ⟨s7,g7,a7,c7,rfl,aJ,a5,aI,aH⟩;obtain⟨e6,e7⟩:=EI o.out.2.2.1 J.out.2.2 J.out.1 aJ;have W:=J.out.2.1.Dx (p:=x.p) (s:=H.ns) (g:=g6) (mb:=x.mb) rfl aI a5 aH;have r6:w5.ownsRow 0 48 3 (.slice a6 H.ev.length c6) H.ev.length (mA H.ev):=W.at 11 (X:=.row 48 3 a6 H.ev.length c6 (mA H.ev)) rfl;have r7:w5.ownsRow 0 48 3 (.slice a7 s7.ev.length c7) s7.ev.length (mA s7.ev):=W.at 12 (X:=.row 48 3 a7 s7.ev.length c7 (mA s7.ev)) rfl;have aM:Hid (Below w.heap.size w w5):=Z.out.trans (W.b.mono Z.out.size);rw[e6]at r6 ⊢;rw[e7]at r7 ⊢;obtain⟨b6,rfl,l6,m0,m1,m2⟩:=Bu r6 (i:=0) (e:=(1,1,5)) rfl;obtain⟨b7,rfl,l7,n0,n1,n2⟩:=Bu r7 (i:=0) (e:=(2,1,5)) rfl;simp only[Nat.zero_mul,Nat.zero_add]at m0 m1 m2 n0 n1 n2;clear r6 r7 W a5 aI aH aJ aG J e6 e7 q0 q1 aK;go_wp2_with fail
  go_ret;exact⟨rfl,aM.out⟩
theorem Tryz.EV:(prog.info? 169).map (λi=>(i.zero,i.size,i.bytes))=some (some (.agg #[aj 0,dy 0]),2,16):=by kernel_rfl
structure IM(w:aa) (ad:Option Addr) (len:Nat) (kd hh tk:Nat->Int) (ia:Nat->Option Addr) (iC ic:Nat->Nat) (il:Nat->List (Int×Nat)):Prop where
 n:ad=none->len=0
 z:∀a,ad=some a->∀i,i<len->a.block<w.heap.size/\w.cell? (a.add (i*4))=some (.int .i64 (kd i))/\w.cell? (a.add (i*4+1))=some (.int .i64 (hh i))/\w.cell? (a.add (i*4+2))=some (.int .i64 (tk i))/\w.cell? (a.add (i*4+3))=some (.slice (ia i) (iC i) (ic i))
 i:∀i,i<len->Di w (ia i) (iC i) (il i)
 t:∀i,i<len->-9223372036854775808<=tk i/\tk i<=9223372036854775807
theorem IM.at{w wr:aa}{ad:Option Addr}{len:Nat}{kd hh tk:Nat->Int}{u:Nat->Option Addr}{iC ic:Nat->Nat}{il:Nat->List (Int×Nat)}(h:IM w ad len kd hh tk u iC ic il)(o:Below w.heap.size w wr){a:Addr}(J:ad=some a){i:Nat}(hi:i<len):a.block<wr.heap.size/\wr.cell? (a.add (i*4))=some (aj (kd i))/\wr.cell? (ay ((a.add (i*4)).block) ((a.add (i*4)).off+1))=some (aj (hh i))/\wr.cell? (ay ((a.add (i*4)).block) ((a.add (i*4)).off+2))=some (aj (tk i))/\wr.cell? (ay ((a.add (i*4)).block) ((a.add (i*4)).off+3))=some (.slice (u i) (iC i) (ic i)):=by
 obtain⟨y,H,G,Y,W⟩:=h.z a J i hi;have e:∀m,wr.cell? (a.add m)=w.cell? (a.add m):=λm=>az (a:=a.add m) (by rw[jD];exact o.block _ y);refine⟨dm y o.size,(e _).trans H,?_,?_,?_⟩
 .have:=(e (i*4+1)).trans G;rw[<-D.mT a (i*4) 1]at this;exact this
 .have:=(e (i*4+2)).trans Y;rw[<-D.mT a (i*4) 2]at this;exact this
 have:=(e (i*4+3)).trans W;rw[<-D.mT a (i*4) 3]at this;exact this
theorem M7{J W:Option qB}{O:Nat->Ob}{ob mo bk:Nat}(h:jv w0 O w)(ho:∀i,O i=if i<3 then Cm J i else if i<6 then Cm W (i-3) else .nil)(hg:w.grownBy w' none)(h1:w.heap.size<=ob)(h2:w.heap.size<=bk)(h3:ob≠bk)(hb:jF w' ob 169 (mo*2))(u:Full w' bk 81 3 3 (xN 0 (.slice none 0 0) (.slice none 0 0)))(hx:uK J 0)(o:uK W 0)(Y:mo<=1000000008):qD w0 ⟨J,W,ob,mo,bk,0,(none,0),[],(none,0),[]⟩ 0 w':=by
 refine⟨?_,hx,o,Y,bq _,bq _,bq _,λy o=>(by cases o),λy o=>(by cases o)⟩;have G:∀i k,6<=i->((⟨J,W,ob,mo,bk,0,(none,0),[],(none,0),[]⟩:St).O i).bs k->(i=6/\k=ob)\/(i=7/\k=bk):=λi k hi u=>by
  by_cases H:i<14
  .rcases Ae H with rfl|rfl|rfl|rfl|rfl|rfl|rfl|rfl|rfl|rfl|rfl|rfl|rfl|rfl
   .omega
   .omega
   .omega
   .omega
   .omega
   .omega
   .exact af ⟨rfl,u⟩
   .exact ah ⟨rfl,u⟩
   .cases u
   .cases u
   .obtain⟨y,o,_⟩:=u;cases o
   .obtain⟨y,o,_⟩:=u;cases o
   .exact u.elim
   exact u.elim
  rw[St.Kw _ ag]at u;exact u.elim
 refine h.to (S:=λ_=>False) (C:=λi=>6<=i) (ep hg) (λ_ h=>h.elim) (λi hi=>?_) (λi hi=>?_) (λi k hi a1=>?_) (λi j k hi hj Z a0=>?_)
 .rw[ho i];have a2:i<6:=ag
  have hc:=oU 5 i ag;rcases hc with rfl|rfl|rfl|rfl|rfl|rfl<;>rfl
 .by_cases H:i<14
  .rcases Ae H with rfl|rfl|rfl|rfl|rfl|rfl|rfl|rfl|rfl|rfl|rfl|rfl|rfl|rfl
   .omega
   .omega
   .omega
   .omega
   .omega
   .omega
   .exact hb
   .exact u
   .exact eg _ _ _ _
   .exact eg _ _ _ _
   .exact λy o=>by cases o
   .exact λy o=>by cases o
   .trivial
   trivial
  rw[St.Kw _ ag];trivial
 .grind
 grind
theorem qD.kept{w0 w w':aa}{t:St}{I:Nat}(h:qD w0 t I w)(e:w.grownBy w' none):qD w0 t I w':={ h with CO:=h.CO.kept e }
theorem qD.looks{t:St}{I:Nat}(h:qD w0 t I w)(hI:I<=2000000):dD 34 #[P0 t.bk] w (.bool true) λw'=>w.grownBy w' none:=by
 have o:∀x,x∈t.E->Rd w 48 3 (om x.2) x.1:=h.CO.at 10 (X:=.lists 48 3 om t.E) rfl;have u:∀x,x∈t.J->Rd w 3 1 (sR x.2) x.1:=h.CO.at 11 (X:=.lists 3 1 sR t.J) rfl;exact JC (Ev:=xN t.n (.slice t.ra.1 t.E.length t.ra.2) (.slice t.rb.1 t.J.length t.rb.2)) (h.CO.at 7 (X:=.full t.bk 81 3 (xN t.n (.slice t.ra.1 t.E.length t.ra.2) (.slice t.rb.1 t.J.length t.rb.2))) rfl) rfl rfl (h.CO.at 8 (X:=.row 119 2 t.ra.1 t.E.length t.ra.2 (iT t.E)) rfl) (h.CO.at 9 (X:=.row 121 2 t.rb.1 t.J.length t.rb.2 (iT t.J)) rfl) (λx i=>⟨o x i,h.lE x i⟩) (λx i=>⟨u x i,h.lJ x i⟩) (gp h.E) (gp h.J)
theorem Jw(s t:ByteArray)(c0 c1 c2 c3 d0 d1 d2 d3:Int)(ad:Option Addr)(len cap:Nat)(kd hh tk:Nat->Int)(ia:Nat->Option Addr)(iC ic:Nat->Nat)(il:Nat->List (Int×Nat))(w:aa)(hs:s.size<=maxLen)(aP:s.size<=140737488355328)(ht:t.size<=maxLen)(b0:t.size<=140737488355328)(hT:og w)(bL:len<=1048576)(aW:IM w ad len kd hh tk ia iC ic il)(HL:∀(s:ByteArray) (c0 c1 c2 c3:Int) (w:aa),s.size<=maxLen->s.size<=140737488355328->og w->uA c0 c1 c2 c3=false\/(M.m9 s).2=false->dD 14 #[.string s,.agg #[aj c0,aj c1,aj c2,aj c3]] w (.tuple #[.pointer none,.bool true]) λw'=>Below w.heap.size w w'): dD 17 #[.string s,.agg #[aj c0,aj c1,aj c2,aj c3],.string t,.agg #[aj d0,aj d1,aj d2,aj d3],.slice ad len cap,.bool false] w (.bool true) λw'=>Below w.heap.size w w':=by
 obtain⟨i0,hi,bF,bE,bI⟩:=info_parts Tryz.EV;have HS:=bj (bh hs (bh aP (bh ht b0)));have KT:=bj hT;have a3:=bj aW;have aQ:=bj HL;clear hs aP ht b0 hT aW HL;have aS:jv w (λ_=>.nil) w:=⟨fQ _ _,λ_=>trivial,λ_ _ _ h=>h.elim,λ_ _ h=>h.elim⟩;have aU:w.grownBy ((w.alloc (.cells #[aj c0,aj c1,aj c2,aj c3] 23)).alloc (.cells #[aj d0,aj d1,aj d2,aj d3] 23)) none:=ax (ak _ _ _) _;have a9:=bj (aS.kept aU);have aY:((w.alloc (.cells #[aj c0,aj c1,aj c2,aj c3] 23)).alloc (.cells #[aj d0,aj d1,aj d2,aj d3] 23)).heap[w.heap.size]? = some (.cells #[aj c0,aj c1,aj c2,aj c3] 23 (0,0)):=(av _ _ _ eB).trans (bl _ _);have aI:((w.alloc (.cells #[aj c0,aj c1,aj c2,aj c3] 23)).alloc (.cells #[aj d0,aj d1,aj d2,aj d3] 23)).heap[w.heap.size+1]? = some (.cells #[aj d0,aj d1,aj d2,aj d3] 23 (0,0)):=by
  have:=bl (w.alloc (.cells #[aj c0,aj c1,aj c2,aj c3] 23)) (.cells #[aj d0,aj d1,aj d2,aj d3] 23);simpa using this
 clear aS aU;delta dD;go_in;go_upto_region 1 with fail
 generalize (w.alloc (.cells #[aj c0,aj c1,aj c2,aj c3] 23)).alloc (.cells #[aj d0,aj d1,aj d2,aj d3] 23)=w1 at *;obtain⟨x0,x1,x2,x3,lx⟩:=jj aY;have ly:=ch aI;have b9:=bj aI;have aZ:=bj (Iv s c0 c1 c2 c3 w1 HS.1 HS.2.1 (KT.below a9.b) (aQ s c0 c1 c2 c3 w1 HS.1 HS.2.1 (KT.below a9.b)));clear aY aI;go_wp2_with fail
 refine aZ.mono ?_;rintro e w2 ⟨xo,rfl,aX,aK⟩;have aA:=bj (a9.join aK 0);have bD:=(aK.b.block (w.heap.size+1) ly).trans b9;obtain⟨y0,y1,y2,y3,bG⟩:=jj bD;have aO:=bj aX;have b6:=bj (Iv t d0 d1 d2 d3 w2 HS.2.2.1 HS.2.2.2 (KT.below aA.b) (aQ t d0 d1 d2 d3 w2 HS.2.2.1 HS.2.2.2 (KT.below aA.b)));clear aK bD aX a9 b9 aZ x0 x1 x2 x3 lx ly;go_wp2_with fail
 refine b6.mono ?_;rintro e w3 ⟨yo,rfl,b4,bA⟩;have aD:=bj (aA.join bA 3);have aV:=bj b4;clear bA b4 aA b6 y0 y1 y2 y3 bG;go_wp2_with fail
 go_loopw [16,17] (λmv iv wr=>∃(i M:Nat),i<=len/\iv=aj i/\mv=aj M/\M<=1000000000/\wr=w3/\Hid (∀j,j<i->iC j<=M)) (λ_ iv _=>len-(intOf iv).toNat)
 case atStart=>exact⟨0,0,ag,rfl,rfl,ag,rfl,λj hj=>by omega⟩
 case round=>
  obtain⟨i,Mx,bM,rfl,rfl,hM,rfl,rM⟩:=hrel;by_cases b5:i<len
  .have bC:(i:Int)<len:=ag
   obtain⟨a,rfl⟩:∃a,ad=some a:=by
    cases ad with
    | none=>have:=a3.n rfl;omega
    | some a=>exact⟨a,rfl⟩
   obtain⟨z0,z1,z2,z3,z4⟩:=a3.at aD.b rfl b5;have bB:=(a3.i i b5).2.1;have aF:Hid (iC i<=Mx->∀j,j<i+1->iC j<=Mx):=λb8 j hj=>by
    by_cases e:j=i
    .rw[e];exact b8
    exact rM j ag
   have aH:Hid (Mx<iC i->∀j,j<i+1->iC j<=iC i):=λb8 j hj=>by
    by_cases e:j=i
    .rw[e];exact bq _
    have:=rM j ag;omega
   generalize iC i=ni at *;generalize ia i=ai at *;generalize ic i=ci at *;clear z1 z2 z3 rM;by_cases bH:Mx<ni
   .have aM:(Mx:Int)<ni:=ag
    have a6:=bj (aH bH);clear aF aH;go_wp2_with fail
    go_roundw
    case rel=>first|exact⟨i+1,ni,ag,iA,rfl,bB,rfl,a6⟩|exact⟨i+1,ni,ag,iA,rfl,bB,trivial,a6⟩
    case measure=>simp[intOf];omega
   have aM:¬((Mx:Int)<ni):=ag
   have a6:=bj (aF ag);clear aF aH;go_wp2_with fail
   go_roundw
   case rel=>first|exact⟨i+1,Mx,ag,iA,rfl,hM,rfl,a6⟩|exact⟨i+1,Mx,ag,iA,rfl,hM,trivial,a6⟩
   case measure=>simp[intOf];omega
  have bC:¬((i:Int)<len):=ag
  have aT:Hid (∀j,j<len->iC j<=Mx):=λj hj=>rM j ag;have q8:IntKind.i64.wrap ((Mx:Int)+8)=((Mx+8:Nat):Int):=by rw[fq,dN _ ag];rfl
  clear rM;go_wp2_with (at_make;go_loud (refine wpList_make_full _ rfl _ _ 56 rfl 0 169 i0 _ 2 Tryz.underlying56 hi bF bE _ _ _ _ (Mx+8) rfl rfl rfl rfl (kr bI) pY (dk _) ?_))
  intro w4 aC aE;have a2:=jF.owned aC;have aN:=a2.lt;have b1:wr.grownBy (w4.alloc (.cells #[aj 0,.slice none 0 0,.slice none 0 0] 81)) none:=ax aE _;have aJ:Hid (qD w ⟨xo,yo,wr.heap.size,Mx+8,w4.heap.size,0,(none,0),[],(none,0),[]⟩ 0 (w4.alloc (.cells #[aj 0,.slice none 0 0,.slice none 0 0] 81))):=by
   refine M7 aD.out (λi=>?_) b1 (bq _) aE.size ag ?_ ⟨_,bl w4 _,rfl,λj hj=>?_⟩ aO.out aV.out ag
   .by_cases h1:i<3
    .simp only[bf h1];rw[eD,mm,Nat.sub_zero]
    rw[au h1];by_cases h2:i<6
    .rw[bf h2,mm]
    rw[au h2,eD,eD]
   .obtain⟨bK,k1,k2⟩:=a2;exact⟨bK,(av _ _ _ aN).trans k1,k2⟩
   have hc:j=0\/j=1\/j=2:=ag
   rcases hc with rfl|rfl|rfl<;>rfl
  clear aC a2 aN b1 aE aD aO aV;obtain⟨ob,aL⟩:∃ob,ob=wr.heap.size:=⟨_,rfl⟩;obtain⟨bk,a2⟩:∃bk,bk=w4.heap.size:=⟨_,rfl⟩;obtain⟨mo,aG⟩:∃mo,mo=Mx+8:=⟨_,rfl⟩;have bJ:Hid (∀j,j<len->iC j+8<=mo):=λj hj=>by have:=aT.out j hj;omega
  rw[<-aL,<-a2,<-aG]at aJ;have b2:Hid (∃t,qD w t 0 (w4.alloc (.cells #[aj 0,.slice none 0 0,.slice none 0 0] 81))/\t.ob=ob/\t.mo=mo/\t.bk=bk/\pV t.x=pV xo/\pV t.y=pV yo):=⟨_,aJ.out,rfl,rfl,rfl,rfl,rfl⟩;clear aJ aT;go_wp2_with fail
  rw[<-aL,<-a2,<-aG];clear aL a2 aG q8;generalize w4.alloc (.cells #[aj 0,.slice none 0 0,.slice none 0 0] 81)=w5 at *;generalize pV xo=vx at *;generalize pV yo=vy at *;go_loopw [20] (λiv wx=>∃i:Nat,i<=len/\iv=aj i/\Hid (∃t,qD w t i wx/\t.ob=ob/\t.mo=mo/\t.bk=bk/\pV t.x=vx/\pV t.y=vy)) (λiv _=>len-(intOf iv).toNat)
  case atStart=>exact⟨0,ag,rfl,b2⟩
  case round=>
   clear b2;obtain⟨q,hq,rfl,rT⟩:=hrel;by_cases aB:q<len
   .have b3:(q:Int)<len:=ag
    obtain⟨a,rfl⟩:∃a,ad=some a:=by
     cases ad with
     | none=>have:=a3.out.n rfl;omega
     | some a=>exact⟨a,rfl⟩
    obtain⟨t,u,Y,J,G,W,Z⟩:=rT.out;obtain⟨z0,z1,z2,z3,z4⟩:=a3.out.at u.CO.b rfl aB;have KI:=bj (a3.out.i q aB);have a8:=bj (a3.out.t q aB);have aR:=bj (bJ.out q aB);generalize kd q=kq at *;generalize hh q=b7 at *;generalize tk q=tq at *;generalize ia q=aq at *;generalize iC q=nq at *;generalize ic q=cq at *;clear u Y J G W Z t;go_upto_region 21 with fail
    .have HU:Hid (∃t,qD w t q wr/\t.ob=ob/\t.mo=mo/\t.bk=bk/\pV t.x=vy/\pV t.y=vx):=(by obtain⟨t,h1,h2,h3,h4,h5,h6⟩:=rT.out;exact⟨t.swap,h1.swap,h2,h3,h4,h6,h5⟩);clear rT;obtain⟨t,u,Y,J,G,W,Z⟩:=HU.out;clear HU
     cases hx:t.x with
     | none=>
      have hv:.pointer none=vy:=by rw[<-W,hx];rfl
      subst hv;have HN:Hid (∃t,qD w t (q+1) wr/\t.ob=ob/\t.mo=mo/\t.bk=bk/\pV t.x=vx/\pV t.y=.pointer none):=⟨t.swap,(u.next u.CO).swap,Y,J,G,Z,W⟩;clear u Y J G W Z hx;go_wp2_with fail
      go_roundw
      case rel=>exact⟨q+1,ag,iA,HN⟩
      case measure=>simp[intOf];omega
     | some x=>
      have hv:P0 x.pb=vy:=by rw[<-W,hx];rfl
      subst hv;have a0:=bj (Ip (kind:=kq) (hh:=b7) (ic:=cq) u hx KI.out (eV J aR.out) ag a8.out.1 a8.out.2);rw[Y,J,G]at a0;have a1:=bj (bh Y (bh J (bh G (bh W Z))));clear u Y J G W Z hx;go_wp2_with fail
      refine du a0 ?_;rintro w6 ⟨t',o,H⟩;have a4:=bj (o.looks ag);have G:=H.2.2.1.trans a1.out.2.2.1;rw[G]at a4;have a5:=bj (bh o H);clear o H G a0;go_wp2_with fail
      refine du a4 λw7 a7=>?_;have HN:Hid (∃t,qD w t (q+1) w7/\t.ob=ob/\t.mo=mo/\t.bk=bk/\pV t.x=vx/\pV t.y=P0 x.pb):=by
       obtain⟨o,H⟩:=a5.out;obtain⟨Y,J,G,W,Z⟩:=a1.out;exact⟨t'.swap,(o.kept a7).swap,(H.1.trans Y),(H.2.1.trans J),(H.2.2.1.trans G),(H.2.2.2.2.trans Z),(H.2.2.2.1.trans W)⟩
      clear a7 a5 a4 a1;go_wp2_with fail
      go_roundw
      case rel=>exact⟨q+1,ag,iA,HN⟩
      case measure=>simp[intOf];omega
    have HU:=rT;clear rT;obtain⟨t,u,Y,J,G,W,Z⟩:=HU.out;clear HU
    cases hx:t.x with
    | none=>
     have hv:.pointer none=vx:=by rw[<-W,hx];rfl
     subst hv;have HN:Hid (∃t,qD w t (q+1) wr/\t.ob=ob/\t.mo=mo/\t.bk=bk/\pV t.x=.pointer none/\pV t.y=vy):=⟨t,u.next u.CO,Y,J,G,W,Z⟩;clear u Y J G W Z hx;go_wp2_with fail
     go_roundw
     case rel=>exact⟨q+1,ag,iA,HN⟩
     case measure=>simp[intOf];omega
    | some x=>
     have hv:P0 x.pb=vx:=by rw[<-W,hx];rfl
     subst hv;have a0:=bj (Ip (kind:=kq) (hh:=b7) (ic:=cq) u hx KI.out (eV J aR.out) ag a8.out.1 a8.out.2);rw[Y,J,G]at a0;have a1:=bj (bh Y (bh J (bh G (bh W Z))));clear u Y J G W Z hx;go_wp2_with fail
     refine du a0 ?_;rintro w6 ⟨t',o,H⟩;have a4:=bj (o.looks ag);have G:=H.2.2.1.trans a1.out.2.2.1;rw[G]at a4;have a5:=bj (bh o H);clear o H G a0;go_wp2_with fail
     refine du a4 λw7 a7=>?_;have HN:Hid (∃t,qD w t (q+1) w7/\t.ob=ob/\t.mo=mo/\t.bk=bk/\pV t.x=P0 x.pb/\pV t.y=vy):=by
      obtain⟨o,H⟩:=a5.out;obtain⟨Y,J,G,W,Z⟩:=a1.out;exact⟨t',o.kept a7,(H.1.trans Y),(H.2.1.trans J),(H.2.2.1.trans G),(H.2.2.2.1.trans W),(H.2.2.2.2.trans Z)⟩
     clear a7 a5 a4 a1;go_wp2_with fail
     go_roundw
     case rel=>exact⟨q+1,ag,iA,HN⟩
     case measure=>simp[intOf];omega
   have b3:¬((q:Int)<len):=ag
   go_wp2_with fail
   go_ret;obtain⟨t,u,_⟩:=rT.out;exact⟨rfl,u.CO.b⟩
theorem Di.below{ad:Option Addr}{n:Nat}{l:List (Int×Nat)}(h:Di w ad n l)(o:Below w.heap.size w w'):Di w' ad n l:=
 ⟨h.1,h.2.1,h.2.2.1,h.2.2.2.1,λa i e=>⟨dm (h.2.2.2.2 a i e).1 o.size,λj x u=>(h.cell o i u).2⟩⟩
theorem IM.below{w w':aa}{ad:Option Addr}{len:Nat}{kd hh tk:Nat->Int}{u:Nat->Option Addr}{iC ic:Nat->Nat}{il:Nat->List (Int×Nat)}(h:IM w ad len kd hh tk u iC ic il)(o:Below w.heap.size w w'):IM w' ad len kd hh tk u iC ic il:=by
 refine⟨h.n,λa J i hi=>?_,λi hi=>(h.i i hi).below o,h.t⟩;obtain⟨y,H,G,Y,W⟩:=h.z a J i hi;have e:∀m,w'.cell? (a.add m)=w.cell? (a.add m):=λm=>az (a:=a.add m) (by rw[jD];exact o.block _ y);exact⟨dm y o.size,(e _).trans H,(e _).trans G,(e _).trans Y,(e _).trans W⟩
theorem I3(s t:ByteArray)(c0 c1 o i W J Y H:Int)(ad:Option Addr)(len cap:Nat)(kd hh tk:Nat->Int)(ia:Nat->Option Addr)(iC ic:Nat->Nat)(il:Nat->List (Int×Nat))(w:aa)(hs:s.size<=maxLen)(a2:s.size<=140737488355328)(ht:t.size<=maxLen)(Z:t.size<=140737488355328)(hT:og w)(a7:len<=1048576)(a5:IM w ad len kd hh tk ia iC ic il)(HL:∀(s:ByteArray) (c0 c1 o i:Int) (w:aa),s.size<=maxLen->s.size<=140737488355328->og w->uA c0 c1 o i=false\/(M.m9 s).2=false->dD 14 #[.string s,.agg #[aj c0,aj c1,aj o,aj i]] w (.tuple #[.pointer none,.bool true]) λw'=>Below w.heap.size w w'): dD 8 #[.string s,.agg #[aj c0,aj c1,aj o,aj i],.string t,.agg #[aj W,aj J,aj Y,aj H],.slice ad len cap] w (.bool true) λw'=>Below w.heap.size w w':=by
 have HS:=bj (bh hs (bh a2 (bh ht Z)));have KT:=bj hT;have a8:=bj a5;have a9:=bj HL;have u:Hid (Below w.heap.size w ((w.alloc (.cells #[aj c0,aj c1,aj o,aj i] 23)).alloc (.cells #[aj W,aj J,aj Y,aj H] 23))):=((fQ _ _).alloc (bq _) _).alloc eB _;have a6:((w.alloc (.cells #[aj c0,aj c1,aj o,aj i] 23)).alloc (.cells #[aj W,aj J,aj Y,aj H] 23)).heap[w.heap.size]? = some (.cells #[aj c0,aj c1,aj o,aj i] 23 (0,0)):=(av _ _ _ eB).trans (bl _ _);have a4:((w.alloc (.cells #[aj c0,aj c1,aj o,aj i] 23)).alloc (.cells #[aj W,aj J,aj Y,aj H] 23)).heap[w.heap.size+1]? = some (.cells #[aj W,aj J,aj Y,aj H] 23 (0,0)):=by
  have:=bl (w.alloc (.cells #[aj c0,aj c1,aj o,aj i] 23)) (.cells #[aj W,aj J,aj Y,aj H] 23);simpa using this
 delta dD;go_in;go_upto_region 1 with fail
 generalize (w.alloc (.cells #[aj c0,aj c1,aj o,aj i] 23)).alloc (.cells #[aj W,aj J,aj Y,aj H] 23)=w1 at *;have HB:=bj (bh a6 a4);go_wp2_with fail
 refine du (bj (JF w1 (KT.below u))) λw2 y=>?_;obtain⟨x0,x1,x2,x3,lx⟩:=jj ((y.block _ (ch HB.1)).trans HB.1);obtain⟨y0,y1,y2,y3,ly⟩:=jj ((y.block _ (ch HB.2)).trans HB.2);have G:=bj (u.trans (y.mono u.size));have a3:=bj (Jw s t c0 c1 o i W J Y H ad len cap kd hh tk ia iC ic il w2 HS.1 HS.2.1 HS.2.2.1 HS.2.2.2 (KT.below G) a7 (a8.below G) a9);go_wp2_with fail
 refine du a3 λw3 a0=>?_;have aA:Hid (Below w.heap.size w w3):=G.trans (a0.mono G.size);go_wp2
 go_ret;exact⟨eB,aA⟩
end F
section
open Go.ChangeShapes Go.WideShapes Go.ChangeAt Go.WideMaps Go.WideElems Go.Joins
open Go.ChangeMaps (open_string shut_string)
variable {H:Type}{W w:aa}{e:Nat}{i:Bool}{spare:Nat->Bool}{t0 t1 t2 t3 t4:TypeId}
theorem Fu(d:DataW H):1<=Rows.uptoBulk d:=by
 cases d with
 | lit l=>cases l<;>simp[Rows.uptoBulk]
 | _=>simp[Rows.uptoBulk]
theorem Fx{d:DataW H}{l:List (DataW H)}(h:d∈l):Rows.uptoBulk d<=Rows.uptoBulkAll l:=by
 induction l with
 | nil=>cases h
 | cons x r e=>
  grind[Rows.uptoBulkAll]
theorem zp(l:List (DataW H)):l.length<=Rows.uptoBulkAll l:=by
 induction l with
 | nil=>grind
 | cons x r e=>grind[Fu,Rows.uptoBulkAll,List.length_cons]
theorem Tryz.Fs:prog.cellsOf 169=2:=by kernel_rfl
theorem GK{enc:TypeId×Value->H}{sp:Nat->Bool}{J:Bool}{n:Nat}{v:Value}{x:DataW H×List MemPlace}(h:DataW.trod enc prog W 0 sp J n 56 [v]=some x)(hb:Rows.uptoBulk x.1<=1048576): ∃q:Option Addr×Nat×Nat×List (Int×Nat),v=.slice q.1 q.2.1 q.2.2.1/\q.2.1=q.2.2.2.length/\q.2.1<=1000000000/\(∀y,y∈q.2.2.2->y.2<256)/\(q.1=none->q.2.2.2=[])/\∀b,q.1=some b->q.2.2.2≠[]->b.block<W.heap.size/\∀j y,q.2.2.2[j]? = some y->W.cell? (b.add (j*2))=some (aj y.1)/\W.cell? (b.add (j*2+1))=some (dy y.2):=by
 rcases Go.Deep.open_slice_pairs Tryz.underlying56 underlying169 Tryz.Fs rfl rfl eX eX h with⟨h1,_⟩|⟨a,len,cap,m,n',V0,V1,D0,D1,P0,P1,h1,_,hl,hm,a2,hx,hi⟩
 .have e:v=.slice none 0 0:=gG h1;exact⟨(none,0,0,[]),e,rfl,dk _,λy hy=>(by cases hy),λ_=>rfl,λb G=>(by cases G)⟩
 have e:v=.slice (some a) len cap:=gG h1;have a4:len<=m:=by rw[a2];split<;>omega
 have each:∀j,j<len->∃y:Int×Nat,y.2<256/\W.cell? (a.add (j*2))=some (aj y.1)/\W.cell? (a.add (j*2+1))=some (dy y.2):=λj o=>by
  obtain⟨k1,k2,k3,k4⟩:=hi j ag;obtain⟨z,e0,_,_⟩:=DataW.trod_int underlying3 k3;obtain⟨b,e1,_,wb⟩:=DataW.trod_int underlying5 k4;simp at e0 e1;have hw:0<=b/\b<=255:=by
   have h':IntKind.u8.min<=b/\b<=IntKind.u8.max:=by simpa[Lit.wf] using wb
   exact h'
  refine⟨(z,b.toNat),ag,eR,?_⟩;grind
 obtain⟨Y,hY⟩:=Go.Deep.choose_lt each;have a3:len<=1048576:=by
  rw[hx]at hb;simp only[Rows.uptoBulk]at hb;have:=zp ((List.range len).map λi=>(DataW.agg [D0 i,D1 i]:DataW H));rw[ef,List.length_range]at this;omega
 refine⟨(some a,len,cap,(List.range len).map Y),e,eB,by show len<=_;omega,λy hy=>?_,λh=>(by cases h),λb G a1=>?_⟩
 .obtain⟨j,o,rfl⟩:=eK.1 hy;exact(hY j (fI.1 o)).1
 have eb:a=b:=by injection G
 subst eb;have a0:∀j y,((List.range len).map Y)[j]? = some y->j<len/\Y j=y:=λj y o=>by
  rw[eP]at o;by_cases u:j<len
  .rw[gX u]at o;exact⟨u,gG o⟩
  rw[dK fH]at o
  cases o
 refine⟨?_,λj y o=>?_⟩
 .have Z:0<len:=by
   rcases Nat.eq_zero_or_pos len with Z|Z
   .exact dp (by show(List.range len).map Y=[];rw[Z];rfl) a1
   exact Z
  have:=an W _ ((hY 0 Z).2.1);rw[F.jD]at this;exact this
 obtain⟨u,rfl⟩:=a0 j y o;exact(hY j u).2
theorem Tryz.Ht:prog.cellsOf 76=4:=by kernel_rfl
theorem Tryz.BA:prog.cellsOf 3=1:=by kernel_rfl
theorem Tryz.Hu:prog.cellsOf 2=1:=by kernel_rfl
theorem Tryz.Fq:prog.cellsOf 56=1:=by kernel_rfl
theorem LK{α:Type}:∀{l:List α},l.length=4->∃a b c d,l=[a,b,c,d]
 | [a,b,c,d],_=>⟨a,b,c,d,rfl⟩
theorem zN{enc:TypeId×Value->H}{sp:Nat->Bool}{o:Bool}{n:Nat}{a:Addr}{i:Nat}{cs:List Value}{x:DataW H×List MemPlace}(h1:W.cells? 0 (a.add (i*4)) 4=some cs)(h:DataW.trod enc prog W 0 sp o n 76 cs=some x)(hb:Rows.uptoBulk x.1<=1048576): ∃q:(Int×Int×Int)×(Option Addr×Nat×Nat×List (Int×Nat)),W.cell? (a.add (i*4))=some (aj q.1.1)/\W.cell? (a.add (i*4+1))=some (aj q.1.2.1)/\W.cell? (a.add (i*4+2))=some (aj q.1.2.2)/\W.cell? (a.add (i*4+3))=some (.slice q.2.1 q.2.2.1 q.2.2.2.1)/\(-9223372036854775808<=q.1.2.2/\q.1.2.2<=9223372036854775807)/\F.Di W q.2.1 q.2.2.1 q.2.2.2.2:=by
 obtain⟨_,u,e⟩:=World.cells?_some h1;obtain⟨y0,y1,y2,y3,k,hx,_,g0,g1,g2,g3⟩:=trod_struct4 underlying76 h;obtain⟨v0,v1,v2,v3,rfl⟩:=LK u
 obtain⟨z0,e0,_,_⟩:=DataW.trod_int underlying3 (by simpa[Tryz.BA] using g0);obtain⟨z1,e1,_,_⟩:=DataW.trod_int underlying3 (by simpa[Tryz.BA] using g1);obtain⟨z2,e2,_,w2⟩:=DataW.trod_int underlying2 (by simpa[Tryz.Hu] using g2);simp at e0 e1 e2;subst e0 e1 e2;rw[hx]at hb;simp only[Rows.uptoBulk,Rows.uptoBulkAll]at hb;obtain⟨q,hq,G,y,Z,J,Y⟩:=GK (by simpa[Tryz.Fq] using g3) ag;have c0:=e 0 ag;have c1:=e 1 ag;have c2:=e 2 ag;have c3:=e 3 ag;rw[Go.Deep.add_add]at c0 c1 c2 c3;refine⟨((z0,z1,z2),q),gG c0,gG c1,gG c2,?_,MZ w2,G,y,Z,J,Y⟩;rw[<-hq];simpa using c3
theorem BM{enc:TypeId×Value->H}{sp:Nat->Bool}{y:Bool}{fuel:Nat}{a0:Option Addr}{len cap:Nat}{x:DataW H×List MemPlace}(h:DataW.trod enc prog W 0 sp y fuel 29 [.slice a0 len cap]=some x)(hb:Rows.uptoBulk x.1<=1048576): len<=1048576/\∃kd hh tk ia iC ic il,F.IM W a0 len kd hh tk ia iC ic il:=by
 rcases Go.Deep.open_slice underlying29 h with⟨u,_⟩|⟨a,a1,a2,m,n',D,Pl,u,_,hl,hm,Y,hx,hi⟩
 .simp at u;obtain⟨rfl,rfl,rfl⟩:=u;exact⟨ag,λ_=>0,λ_=>0,λ_=>0,λ_=>none,λ_=>0,λ_=>0,λ_=>[],⟨λ_=>rfl,λa e=>(by cases e),λi hi=>dp hi (Nat.not_lt_zero i),λi hi=>dp hi (Nat.not_lt_zero i)⟩⟩
 simp at u;obtain⟨rfl,rfl,rfl⟩:=u;have a4:len<=m:=by rw[Y];split<;>omega
 rw[hx]at hb;simp only[Rows.uptoBulk]at hb;have Z:=zp ((List.range len).map D);rw[ef,List.length_range]at Z;have each:∀i,i<len->∃q:(Int×Int×Int)×(Option Addr×Nat×Nat×List (Int×Nat)),W.cell? (a.add (i*4))=some (aj q.1.1)/\W.cell? (a.add (i*4+1))=some (aj q.1.2.1)/\W.cell? (a.add (i*4+2))=some (aj q.1.2.2)/\W.cell? (a.add (i*4+3))=some (.slice q.2.1 q.2.2.1 q.2.2.2.1)/\(-9223372036854775808<=q.1.2.2/\q.1.2.2<=9223372036854775807)/\F.Di W q.2.1 q.2.2.1 q.2.2.2.2:=λi o=>by
  obtain⟨cs,k1,k2⟩:=hi i ag;rw[Tryz.Ht]at k1;have J:Rows.uptoBulk (D i)<=1048576:=by
   have a3:=Fx (l:=(List.range len).map D) (eK.2 ⟨i,fI.2 o,rfl⟩);omega
  exact zN k1 k2 J
 obtain⟨Q,hQ⟩:=Go.Deep.choose_lt each;refine⟨ag,λi=>(Q i).1.1,λi=>(Q i).1.2.1,λi=>(Q i).1.2.2,λi=>(Q i).2.1,λi=>(Q i).2.2.1,λi=>(Q i).2.2.2.1,λi=>(Q i).2.2.2.2,⟨λe=>(by cases e),λb G i o=>?_,λi o=>(hQ i o).2.2.2.2.2,λi o=>(hQ i o).2.2.2.2.1⟩⟩;have eb:a=b:=by injection G
 subst eb;obtain⟨k1,k2,k3,k4,_,_⟩:=hQ i o;refine⟨?_,k1,k2,k3,k4⟩;have:=an W _ k1;rw[F.jD]at this;omega
theorem BO{enc:TypeId×Value->H}{P:Program}{args:Array Value}{ds:List (DataW H)}{ps:List MemPlace}(h:DataW.TrodAll enc P w e spare i [t0,t1,t2,t3,t4] args.toList ds ps): ∃W G o v3 y d0 Z d2 Y d4 u p1 J p3 p4,args=#[W,G,o,v3,y]/\ds=[d0,Z,d2,Y,d4]/\ps=u++(p1++(J++(p3++p4)))/\DataW.Trod enc P w e spare i t0 W d0 u/\DataW.Trod enc P w e spare i t1 G Z p1/\DataW.Trod enc P w e spare i t2 o d2 J/\DataW.Trod enc P w e spare i t3 v3 Y p3/\DataW.Trod enc P w e spare i t4 y d4 p4:=by
 obtain⟨W,r0,d0,e0,u,q0,a0,rfl,rfl,h0,k0⟩:=trodAll_cons h;obtain⟨G,r1,Z,e1,p1,q1,rfl,rfl,rfl,h1,k1⟩:=trodAll_cons k0;obtain⟨o,r2,d2,e2,J,q2,rfl,rfl,rfl,h2,k2⟩:=trodAll_cons k1;obtain⟨v3,r3,Y,e3,p3,q3,rfl,rfl,rfl,h3,k3⟩:=trodAll_cons k2;obtain⟨y,r4,d4,e4,p4,q4,rfl,rfl,rfl,h4,k4⟩:=trodAll_cons k3;obtain⟨rfl,rfl,rfl⟩:=trodAll_nil k4;exact⟨W,G,o,v3,y,d0,Z,d2,Y,d4,u,p1,J,p3,p4,eR,rfl,eB,h0,h1,h2,h3,h4⟩
theorem xY{enc:TypeId×Value->H}{P:Program}{v0 v1 v2 v3 v4:Value}{d0 Y d2 W Z:DataW H}{J G o y u:List MemPlace}(h0:DataW.Trod enc P w e spare i t0 v0 d0 J)(h1:DataW.Trod enc P w e spare i t1 v1 Y G)(h2:DataW.Trod enc P w e spare i t2 v2 d2 o)(h3:DataW.Trod enc P w e spare i t3 v3 W y)(h4:DataW.Trod enc P w e spare i t4 v4 Z u):DataW.TrodAll enc P w e spare i [t0,t1,t2,t3,t4] [v0,v1,v2,v3,v4] [d0,Y,d2,W,Z] (J++(G++(o++(y++u)))):=⟨J,G++(o++(y++u)),h0,trodAll_mk4 h1 h2 h3 h4,rfl⟩
theorem BL(h:laidMetH prog Rows.turnsUptoRow.laid W):og W:=x7 h
theorem BN(os:Os)(args:Array Value):laidMetH prog Rows.turnsUptoRow.laid ((World.doorLaid prog 400 os).forCall (λ_ _=>0) ⟨#[],args,[]⟩).memory:=
 laidMetH_of_parts3 (fuel:=8) (laidMet_of_run' 8 eX eX) eX eX
theorem Tryz.xC:prog.cellsOf 23=4:=by kernel_rfl
theorem tZ(H:Type)(enc:TypeId×Value->H)(W:aa)(Z:Nat)(args:Array Value)(ds gs:List (DataW H))(o:List MemPlace)(i:∀(j:Nat) t v,f8.params[j]? = some t->args[j]? = some v->Value.okWide prog W .any Z t v)(hW:DataW.Whole enc prog f8.params.toList Rows.turnsSpec.vars false W args.toList ds gs o)(hk:Rows.uptoSmall H (ds++gs)=true)(hL:laidMetH prog Rows.turnsUptoRow.laid W): Calls prog 8 args W λe Y=>∃v,e=.returned v/\Rows.turnsSpec.post enc prog f8 false true false false W args v Y:=by
 have u:=hW;obtain⟨p,q,a1,hV,rfl,aQ,aP⟩:=hW;have hA:=a1;rw[params8]at hA i;obtain⟨v0,v1,v2,v3,v4,d0,d1,d2,d3,d4,p0,p1,p2,p3,p4,rfl,rfl,rfl,h0,h1,h2,h3,h4⟩:=BO hA;obtain⟨rfl,rfl⟩:=trodVars_none hV;obtain⟨s,rfl,rfl,rfl,hs⟩:=open_string underlying9 (i 0 9 v0 rfl rfl) h0;obtain⟨u0,u1,u2,u3,y0,y1,y2,y3,m,rfl,rfl,rfl,aM,aC,aN,a5⟩:=open_agg4 underlying23 eX Tryz.xC (i 1 23 v1 rfl rfl) h1;obtain⟨c0,e0,rfl,a9⟩:=DataW.trod_int underlying3 aM;obtain⟨c1,e1,rfl,aK⟩:=DataW.trod_int underlying3 aC;obtain⟨J,e2,rfl,a4⟩:=DataW.trod_int underlying3 aN;obtain⟨G,e3,rfl,a8⟩:=DataW.trod_int underlying3 a5;simp at e0 e1 e2 e3;subst e0 e1 e2 e3;obtain⟨t,rfl,rfl,rfl,ht⟩:=open_string underlying9 (i 2 9 v2 rfl rfl) h2;obtain⟨u4,u5,u6,u7,y4,y5,y6,y7,m',rfl,rfl,rfl,aJ,aH,a7,aG⟩:=open_agg4 underlying23 eX Tryz.xC (i 3 23 v3 rfl rfl) h3;obtain⟨b0,e0,rfl,aE⟩:=DataW.trod_int underlying3 aJ;obtain⟨b1,e1,rfl,aF⟩:=DataW.trod_int underlying3 aH;obtain⟨b2,e2,rfl,aA⟩:=DataW.trod_int underlying3 a7;obtain⟨b3,e3,rfl,aL⟩:=DataW.trod_int underlying3 aG;simp at e0 e1 e2 e3;subst e0 e1 e2 e3;obtain⟨a0,len,cap,rfl⟩:=okWide_slice underlying29 (i 4 29 v4 rfl rfl);have aB:=h4;obtain⟨aO,hf⟩:=h4;simp only[gS,List.nil_append]at u hk;have aI:=eO hk;simp only[Rows.uptoBulkAll,Rows.uptoBulk]at aI
 have y:∀(Y:aa),Below W.heap.size W Y->DataW.Trod enc prog Y 0 (λb=>decide (b<W.heap.size)) true 29 (.slice a0 len cap) d4 p4:=
  λY hn=>Below.trod Tryz.laidOut eX (eO eX) aB hn (λx hx=>by simpa using u.lt x (by simp[hx]))
 obtain⟨a3,kd,hh,tk,ia,iC,ic,il,aD⟩:=BM hf eR;have es:s.data.toList.length=s.size:=eB
 have et:t.data.toList.length=t.size:=eB;refine(F.I3 s t c0 c1 J G b0 b1 b2 b3 a0 len cap kd hh tk ia iC ic il W ag ag ag ag (BL hL) a3 aD (λs c0 c1 J G w h1 h2 h3 h4=>Ex s c0 c1 J G w h1 h2 h3 h4)).mono λe Y ⟨he,hB⟩=>?_;subst he;have a2:=xY (spare:=λb=>decide (b<W.heap.size)) (shut_string underlying9 hs) (shut_agg4 (v0:=.int .i64 c0) (v1:=.int .i64 c1) (v2:=.int .i64 J) (v3:=.int .i64 G) (y0:=(.lit (.int .i64 c0),[])) (y1:=(.lit (.int .i64 c1),[])) (y2:=(.lit (.int .i64 J),[])) (y3:=(.lit (.int .i64 G),[])) underlying23 eX Tryz.xC ⟨1,by simp[DataW.trod,underlying3,a9]⟩ ⟨1,by simp[DataW.trod,underlying3,aK]⟩ ⟨1,by simp[DataW.trod,underlying3,a4]⟩ ⟨1,by simp[DataW.trod,underlying3,a8]⟩) (shut_string underlying9 ht) (shut_agg4 (v0:=.int .i64 b0) (v1:=.int .i64 b1) (v2:=.int .i64 b2) (v3:=.int .i64 b3) (y0:=(.lit (.int .i64 b0),[])) (y1:=(.lit (.int .i64 b1),[])) (y2:=(.lit (.int .i64 b2),[])) (y3:=(.lit (.int .i64 b3),[])) underlying23 eX Tryz.xC ⟨1,by simp[DataW.trod,underlying3,aE]⟩ ⟨1,by simp[DataW.trod,underlying3,aF]⟩ ⟨1,by simp[DataW.trod,underlying3,aA]⟩ ⟨1,by simp[DataW.trod,underlying3,aL]⟩) (y _ hB);refine⟨_,rfl,[.lit (.string s.data.toList),.agg [.lit (.int .i64 c0),.lit (.int .i64 c1),.lit (.int .i64 J),.lit (.int .i64 G)],.lit (.string t.data.toList),.agg [.lit (.int .i64 b0),.lit (.int .i64 b1),.lit (.int .i64 b2),.lit (.int .i64 b3)],d4],[],_,[],_,[],u,?_,a2,rfl,hB.frame _,λh=>by cases h⟩;exact trodAll_mk1 (shut_bool underlying4 _)
