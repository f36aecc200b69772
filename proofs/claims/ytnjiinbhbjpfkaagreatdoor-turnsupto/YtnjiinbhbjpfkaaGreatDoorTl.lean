import Derived.Test.YtnjiinbhbjpfkaaGreatDoorTk
set_option maxRecDepth 100000
set_option maxHeartbeats 0
set_option linter.all false
namespace Go.Proofs.YtnjiinbhbjpfkaaGreatDoor
open Go.RowKit Go.Proofs.Tryz
namespace F
variable {p:dL}{s s':Pl}{t:Nat}
def Pl.ends(p:dL)(t:Nat):Nat->Pl->Pl
 | 0,s=>s
 | n+1,s=>if(s.T t).run=true/\(bw s t).nx=p.len (bw s t).f then Pl.ends p t n (s.back t (0,0)) else s
def Pl.gF(s:Pl)(t:Nat):Pl:=s.dJ t (de s t) { bw s t with nx:=(bw s t).nx+1 }
def IA(p:dL)(t:Nat)(s s':Pl):Prop:=∃why s3,kM p (s.gF t) t (p.ins (bw s t).f (bw s t).nx) why s3/\s'=if why=0 then s3 else s3.leave t (0,-why) 3 why
def jz(p:dL)(t:Nat)(s s':Pl):Prop:=if((s.ends p t 21).T t).run=true then IA p t (s.ends p t 21) s' else s'=s.ends p t 21
def PI(p:dL):Prop:=∀f,f<p.nf->∀i,i<p.len f->Kt p f (p.ins f i)
theorem rH(v:B.V){t:Nat}:∀(l:List Nat) (s:Pl),t∉l->(s.eo v l).T t=s.T t
 | [],_,_=>rfl
 | u :: l,s,h=>by
  show((s.gn u v).eo v l).T t=_;rw[rH v l _ (λi=>h (by simp[i])),zG s v (λe=>h (by simp[e]))]
def tK(e:LW s)(ht:fm s t)(v:B.V)(kind:Nat)(x:Int):(s.leave t v kind x).T t=((s.dz t).T t).stop:=by
 unfold Pl.leave;rw[rH v _ _ (λi=>(e.a t ht 5 t (e.b 5 t (ah (ah (ah ⟨rfl,ht⟩))) t i).2).2.2 ⟨rfl,rfl⟩)];exact di _ _ _
theorem od(i:LW s)(ht:fm s t)(v:B.V):(de s t=0->((s.back t v).T t).run=false)/\(de s t≠0->((s.back t v).T t).run=(s.T t).run/\((s.back t v).T t).fr.length=(s.T t).fr.length-1):=by
 constructor
 .intro e;unfold Pl.back;rw[bf e,tK (i.pop t) ht];rfl
 intro e;unfold Pl.back;rw[au e];grind[gI,de,dq,A0,tG]
theorem tP{p:dL}{t:Nat}:∀(n:Nat) {s:Pl},Rn p s t->(s.T t).fr.length<=n->Ok p (s.ends p t n)/\(((s.ends p t n).T t).run=true->Rn p (s.ends p t n) t/\Go t 0 s (s.ends p t n)/\(bw (s.ends p t n) t).nx≠p.len (bw (s.ends p t n) t).f)/\Go t 1 s (s.ends p t n)
 | 0,s,h,hn=>by
  have:=h.hi;omega
 | n+1,s,h,hn=>by
  unfold Pl.ends;by_cases e:(s.T t).run=true/\(bw s t).nx=p.len (bw s t).f
  .rw[bf e];have G:=h.ok.back h.lv h.wh (dW.num 0);have y:=od h.ok.lw h.ht (0,0);by_cases u:de s t=0
   .have J:=y.1 u;have W:Pl.ends p t n (s.back t (0,0))=s.back t (0,0):=by
     cases n with
     | zero=>rfl
     | succ n=>unfold Pl.ends;grind
    rw[W];exact⟨G,λi=>dp i eR,Go.back h.ok h.lv h.wh (dW.num 0)⟩
   obtain⟨r1,r2⟩:=y.2 u;obtain⟨H,Z,Y,b4⟩:=(nz s t (0,0)).2 u;have o:Go t 0 s (s.back t (0,0)):=Go.same Z H Y (by rw[b4]);have hi:=h.hi;obtain⟨i1,i2,i3⟩:=tP n ⟨G,eV H h.lv,eR⟩ ag;refine⟨i1,λi=>?_,?_⟩
   .obtain⟨j1,j2,j3⟩:=i2 i;exact⟨j1,(o.trans j2).mono ag,j3⟩
   exact(o.trans i3).mono ag
  rw[au e];grind[Go.same,F.Rn.ok,F.Rn.run,F.Go.mono]
theorem oy(h:Rn p s t)(hn:(bw s t).nx≠p.len (bw s t).f):Rn p (s.gF t) t/\(bw (s.gF t) t).f=(bw s t).f:=by
 have o:=h.ff;have hw:=gI s t (de s t) t { bw s t with nx:=(bw s t).nx+1 };have e:Ok p (s.gF t):=h.ok.dJ h.hi rfl rfl (show(bw s t).nx+1<=p.len (bw s t).f by omega) (λa i=>h.nM i);refine⟨⟨e,h.lv,hw.2.2.1.trans h.run⟩,?_⟩;grind[de,dq,Pl.gF,mh,F.Rn.hi]
theorem px{k:vF}{why:Int}(Z:k.1<23)(hi:kM p s t k why s'):0<=why/\why<=8/\(why≠0->s'=s):=by
 obtain⟨i,a,b,c⟩:=k;simp only at Z;have G:∀o,xT s t o a b c why s'->0<=why/\why<=8/\(why≠0->s'=s):=λo ht=>by
  rcases ht with⟨_,rfl,_⟩|⟨_,rfl,rfl⟩
  .omega
  grind
 have hz:why=0->0<=why/\why<=8/\(why≠0->s'=s):=λe=>⟨ag,ag,λh=>dp e h⟩;have hS:∀x y,1<=ot s x y/\ot s x y<=3:=λx y=>by grind[ot]
 have Y:∀r:Int×Pl,why=r.1/\s'=r.2->(0<=r.1/\r.1<=8/\(r.1≠0->r.2=s))->0<=why/\why<=8/\(why≠0->s'=s):=λr h W=>by
  grind
 have hc:=oU 22 i ag;repeat' rcases hc with rfl|hc
 .exact hz hi.1
 .exact hz hi.1
 .exact G 2 hi
 .exact G 3 hi
 .exact G 4 hi
 .exact G 5 hi
 .exact hz hi.1
 .exact hz hi.1
 .exact hz hi.1
 .exact hz hi.1
 .rcases hi with⟨_,h,_⟩|⟨_,h,W⟩
  .omega
  grind
 .rcases hi with⟨_,h,_⟩|⟨_,h,W⟩
  .omega
  grind
 .exact hz hi.1
 .obtain⟨u,H⟩:=hi;unfold ry at u;unfold mS at H;grind
 .exact hz hi.1
 .obtain⟨u,H⟩:=hi;unfold kG at u;unfold lV at H;grind
 .exact hz hi.1
 .refine Y _ hi ?_;grind[jl,absurd]
 .refine Y _ hi ?_;grind[jb,absurd]
 .refine Y _ hi ?_;grind[iz,absurd]
 .refine Y _ hi ?_;grind[jU,absurd]
 .refine Y _ hi ?_;grind[kJ,absurd]
 exact hz hi.1
theorem EN(hP:PI p)(h:Rn p s t)(hx:(bw s t).nx≠p.len (bw s t).f)(hn:s.nt+1<=500000000)(hi:IA p t s s'):Ok p s'/\Go t 1 s s':=by
 obtain⟨why,s3,H,rfl⟩:=hi;obtain⟨i,u⟩:=oy h hx;have y:=h.ff;have G:=hP _ y.1 (bw s t).nx ag;have o:Go t 0 s (s.gF t):=Go.same rfl rfl rfl rfl;obtain⟨o1,Z⟩:=Bk (k:=p.ins (bw s t).f (bw s t).nx) i hn eR H;obtain⟨w1,w2,W⟩:=px G.1 H;by_cases e:why=0
 .rw[bf e];exact⟨o1,(o.trans Z).mono ag⟩
 rw[au e];have J:=W e;subst J;obtain⟨l1,Y,l3⟩:=uF (s.gF t) t (0,-why) 3 why;exact⟨i.ok.leave i.lv (λ_ _=>trivial) (dW.num _) 3 why,(o.trans (Go.ends (ah (af ⟨rfl,rfl⟩)) i.lv i.ht i.ok.nd Y l1 l3 (λ_=>EE i.ok i.lv (λ_ _=>trivial) i.wh (dW.num _) 3 why))).mono ag⟩
theorem wL(hP:PI p)(h:Rn p s t)(hn:s.nt+1<=500000000)(i:jz p t s s'):Ok p s'/\Go t 1 s s':=by
 obtain⟨i1,y,u⟩:=tP 21 h (gp h.fw.n2);unfold jz at i;by_cases e:((s.ends p t 21).T t).run=true
 .rw[bf e]at i;obtain⟨H,o,G⟩:=y e;obtain⟨_,_,_,J,_⟩:=id o;obtain⟨k1,k2⟩:=EN hP H G ag i;exact⟨k1,(o.trans k2).mono ag⟩
 grind
def iu(p:dL)(t:Nat):Nat->Pl->Pl->Prop
 | 0,s,s'=>s'=s
 | n+1,s,s'=>if(s.T t).run=true then ∃s1,jz p t s s1/\iu p t n s1 s' else s'=s
theorem Go.nt{c:Nat}(h:Go t c s s'):s.nt<=s'.nt/\s'.nt<=s.nt+c:=by
 obtain⟨_,_,_,h,_⟩:=h;exact h
theorem AT{p:dL}{t:Nat}(hP:PI p):∀(n:Nat) {s s':Pl},Ok p s->fm s t->s.nt+n<=500000000->iu p t n s s'->Ok p s'/\Go t n s s'
 | 0,s,s',h,_,_,hr=>by
  have e:s'=s:=hr;grind[Go.same]
 | n+1,s,s',h,ht,hn,hr=>by
  unfold iu at hr;by_cases e:(s.T t).run=true
  .rw[bf e]at hr;obtain⟨s1,y,o⟩:=hr;obtain⟨k1,k2⟩:=wL hP ⟨h,(h.rn t ht e).2,e⟩ ag y;have i:=k2.nt;obtain⟨G,u⟩:=AT hP n k1 ⟨ht.1,dU ht.2 i.1⟩ ag o;exact⟨G,(k2.trans u).mono ag⟩
  rw[au e]at hr;subst hr;exact⟨h,(Go.same rfl rfl rfl rfl).mono ag⟩
def iS(p:dL)(s s':Pl):Prop:=match s.q 2 0 with
 | []=>s'=s
 | t :: _=>∃s1,iu p t p.qn (s.start t) s1/\s'=if(s1.T t).run=true then s1.dY 2 0 t else s1
theorem uP(hP:PI p)(h:Ok p s)(hn:s.nt+p.qn<=500000000)(u:iS p s s'):Ok p s'/\(s.q 2 0=[]->s'=s)/\∀t r,s.q 2 0=t :: r->∃y,Go t p.qn y s'/\y.ev=s.ev/\y.lv=s.lv/\y.nt=s.nt/\y.q 2 0=r:=by
 unfold iS at u
 cases hq:s.q 2 0 with
 | nil=>
  grind
 | cons t r=>
  rw[hq]at u;obtain⟨s1,h1,J⟩:=u;have hl:fN s 2 0:=af ⟨rfl,rfl⟩;have G:t∈s.q 2 0:=by rw[hq];simp
  have H:=h.ql 2 0 hl t G;have ht:=h.lt t H;have i:(s.start t).nt=s.nt:=gg s t;obtain⟨k1,k2⟩:=AT hP p.qn (h.start H) ((ey i).2 ht) ag h1;have Y:(s.start t).q 2 0=r:=by
   show(s.dz t).q 2 0=r;rw[gJ ((h.lw.b 2 0 hl t G).2)];show(s.fF 2 0 ((s.q 2 0).erase t)).q 2 0=r;rw[gH,hq];simp
  obtain⟨f1,_,_,f4,_⟩:=g8 s t;have o:Ok p s'/\Go t p.qn (s.start t) s':=by
   by_cases e:(s1.T t).run=true
   .rw[bf e]at J;subst J;have hr:=k1.rn t (⟨ht.1,dU ht.2 (by rw[<-i];exact k2.nt.1)⟩) e;obtain⟨j1,_,_,_,_,_,_,_,j9,_⟩:=jg s1 2 0 t;exact⟨k1.dY hr.2,(k2.trans (Go.quiet j9 j1 (iF s1 2 0 t) ⟨[t],nW eR⟩)).mono ag⟩
   rw[au e]at J;subst J;exact⟨k1,k2⟩
  refine⟨o.1,λe=>by(cases e),λt' r' e=>?_⟩;injection e with e1 e2;subst e1 e2;exact⟨s.start t,o.2,f4,f1,i,Y⟩
def Pl.iD(s:Pl):List Nat->Pl
 | []=>s
 | t :: l=>if(s.T t).iM<=s.clk then(s.dY 2 0 t).iD l else s
structure Qu(s s':Pl):Prop where
 ev:s'.ev=s.ev
 lv:s'.lv=s.lv
 nt:s'.nt=s.nt
 sp:s'.sp=s.sp
 q:∃m,s'.q 2 0=s.q 2 0++m
theorem Qu.refl(s:Pl):Qu s s:=⟨rfl,rfl,rfl,rfl,[],eR⟩
theorem Qu.trans{s s' e:Pl}(h:Qu s s')(i:Qu s' e):Qu s e:=by
 obtain⟨m,u⟩:=h.q;obtain⟨m',o⟩:=i.q;exact⟨i.ev.trans h.ev,i.lv.trans h.lv,i.nt.trans h.nt,i.sp.trans h.sp,m++m',eR⟩
theorem Qu.dY(hw:(s.T t).wh≠some (2,0)):Qu s (s.dY 2 0 t):=by
 obtain⟨o,_,_,_,_,_,_,_,i,e⟩:=jg s 2 0 t;exact⟨i,o,iF s 2 0 t,e,[t],nW hw⟩
theorem oX{p:dL}:∀(l:List Nat) {s:Pl},Ok p s->s.q 3 0=l->Ok p (s.iD l)/\Qu s (s.iD l)
 | [],s,h,_=>⟨h,Qu.refl s⟩
 | t :: l,s,h,hq=>by
  have H:fN s 3 0:=ah (af ⟨rfl,rfl⟩);have o:t∈s.q 3 0:=by rw[hq];simp
  have i:=(h.lw.b 3 0 H t o).2;unfold Pl.iD;split
  .have u:(s.dY 2 0 t).q 3 0=l:=by
    show((s.dz t).fF 2 0 ((s.dz t).q 2 0++[t])).q 3 0=l;rw[fY _ _ ag,gJ i];show(s.fF 3 0 ((s.q 3 0).erase t)).q 3 0=l;rw[gH,hq];simp
   obtain⟨k1,k2⟩:=oX l (h.dY (h.ql 3 0 H t o)) u;grind[Qu.dY,F.Qu.trans]
  grind[Qu.refl]
def Pl.qe(s:Pl)(k b:Nat):Pl:=match s.q 4 k with
 | u :: _=>s.gn u (0,(b:Int))
 | []=>if(s.ft k).length<64 then s.fO k (s.ft k++[b]) else s
def Pl.recv(s:Pl)(x:Int×Nat):Pl:=if 0<=x.1/\x.1<4 then s.qe x.1.toNat x.2 else s
def Pl.fh(s:Pl):List (Int×Nat)->Pl
 | []=>s
 | x :: l=>(s.recv x).fh l
theorem yr{k b:Nat}(H:k<4)(Z:b<256)(h:Ok p s):Ok p (s.qe k b)/\Qu s (s.qe k b):=by
 unfold Pl.qe
 cases hq:s.q 4 k with
 | cons u r=>
  have G:=(h.lw.b 4 k (ah (ah (af ⟨rfl,H⟩))) u eR).1;obtain⟨W,_,_,_,_,_,_,_,b9,o⟩:=qG s u (0,(b:Int));exact⟨h.gn G (λ_=>trivial) (dW.num _),b9,W,oq s u _,o,AB h G _⟩
 | nil=>
  show Ok p (if(s.ft k).length<64 then s.fO k (s.ft k++[b]) else s)/\Qu s (if(s.ft k).length<64 then s.fO k (s.ft k++[b]) else s);split
  .rename_i J;refine⟨h.fO k _ ⟨eR,λx Y=>?_⟩,rfl,rfl,rfl,rfl,[],jx gS⟩;grind[F.fL.bt]
  grind[Qu.refl]
theorem nS{p:dL}:∀(l:List (Int×Nat)) {s:Pl},(∀x,x∈l->x.2<256)->Ok p s->Ok p (s.fh l)/\Qu s (s.fh l)
 | [],s,_,h=>⟨h,Qu.refl s⟩
 | x :: l,s,hl,h=>by
  have e:Ok p (s.recv x)/\Qu s (s.recv x):=by
   unfold Pl.recv;split
   .grind[yr]
   exact⟨h,Qu.refl s⟩
  obtain⟨k1,k2⟩:=nS l (λy i=>hl y (by simp[i])) e.1;exact⟨k1,e.2.trans k2⟩
def Pl.gr(s:Pl)(c:Int):Pl:={ s with clk:=c }
def fL.gr{X:Nat->Prop}(h:fL p s X){c:Int}(i:0<=c)(e:c<=9223372036854775807):fL p (s.gr c) X:=
 { lw:=h.lw.same rfl rfl (λ_=>rfl),ww:=h.ww,nd:=h.nd,lt:=h.lt,ql:=h.ql,lf:=h.lf,rn:=h.rn,ol:=h.ol,ok:=h.ok,kn:=h.kn,kz:=h.kz,fw:=h.fw,hl:=h.hl,fc:=h.fc,bt:=h.bt,c0:=i,c1:=e }
def Pl.jr(p:dL)(s:Pl):Pl:=s.vk (B.work (B.GB (eG p s)) (eG p s).length s.M p.n p.wk s.kd)
def Pl.ns(s:Pl):Pl:={ s with ev:=[] }
def ku(p:dL)(s:Pl)(ticks:Int)(l:List (Int×Nat))(s':Pl):Prop:=
 if((s.gr (B.iJ s.clk ticks)).fh l).lv≠[]/\((s.gr (B.iJ s.clk ticks)).fh l).sp=false then
  ∃s1,iS p (((s.gr (B.iJ s.clk ticks)).fh l).iD (((s.gr (B.iJ s.clk ticks)).fh l).q 3 0)) s1/\s'=s1.jr p
 else s'=(s.gr (B.iJ s.clk ticks)).fh l
end F
namespace D
open F
variable {v:B.V}{ρ:Nat->Nat}
structure PD(p:dL) (d:Dp):Prop where
 n:d.n=p.n
 qn:d.qn=p.qn
 wk:d.wk=p.wk
 mt:d.mt=p.mt
 nf:d.nf=p.nf
 len:∀f,f<p.nf->d.len f=p.len f
 rg:∀f,f<p.nf->d.rg f=p.rg f
 ins:∀f i,f<p.nf->i<p.len f->d.ins f i=p.ins f i
def tr(ρ:Nat->Nat)(v:B.V):B.V:=if v.1=0 then v else(ρ v.1,0)
structure FS(p:dL) (ρ:Nat->Nat) (i:Nat) (a b:jc):Prop where
 f:b.f=a.f
 nx:b.nx=a.nx
 bk:i≠0->b.bk.2.1=a.bk.2.1
 R:∀k,k<p.rg a.f->b.R k=tr ρ (a.R k)
structure HS(a:qA) (b:Dt):Prop where
 h0:a.wh=none->b.how=1
 h2:∀y,a.wh=some (2,y)->b.how=1
 h3:∀y,a.wh=some (3,y)->b.how=2/\b.lH=a.iM
 h4:∀k,a.wh=some (4,k)->b.how=3/\b.what=k/\∃i,a.lf=some i/\b.into=(i.2.1:Int)
 h5:∀k,a.wh=some (5,k)->b.how=4/\b.what=k/\∃i,a.lf=some i/\b.into=(i.2.1:Int)
structure TS(p:dL) (ρ:Nat->Nat) (a:qA) (b:Dt):Prop where
 l:b.fr.length=a.fr.length
 f:∀i,i<a.fr.length->FS p ρ i (a.fr.getD i n6) (b.fr.getD i n6)
 o:b.out=(0,0)
 h:HS a b
structure CS(N:Nat->List B.V) (ck:Nat->Nat) (nc:Nat) (M':Nat->List B.V) (ck':Nat->Nat) (ρ:Nat->Nat) (c:Nat):Prop where
 c1:1<=ρ c
 c2:ρ c<=nc
 M:M' (ρ c)=(N c).map (tr ρ)
 k:ck' (ρ c)=ck c
 f:ck c≠0->N c≠[]
 l:(N c).length<=8
def C1(m:Dm)(x a b:Nat):Prop:=if x=3 then(m.T a).lH<(m.T b).lH\/((m.T a).lH=(m.T b).lH/\(m.T a).jw<(m.T b).jw) else(m.T a).jw<(m.T b).jw
def oR(s:Pl)(t:Nat):B.V:=s.out.getD (t-1) (0,0)
abbrev pU(p:dL)(s:Pl)(c:Nat):Prop:=B.nK (eG p s) s.M c
def GA(G:Dc)(n:Nat):Prop:=G.all=n/\G.sure<=n/\G.nF<=n
structure eF(p:dL) (K:Nat) (s:Pl) (m:Dm) (ρ:Nat->Nat):Prop where
 nt:m.nt=s.nt
 q:m.q=s.q 2 0
 xL:m.ft=s.ft
 sp:m.sp=s.sp
 ev:m.ev=s.ev
 ck:m.clk=s.clk
 T:∀t,t∈s.lv->TS p ρ (s.T t) (m.T t)
 O:∀t,fm s t->t∉s.lv->(m.T t).how=5/\(m.T t).fr=[]/\(m.T t).out=tr ρ (oR s t)
 C:∀c,pU p s c->CS s.M s.ck m.nc m.M m.ck ρ c
 I:∀c c',pU p s c->pU p s c'->ρ c=ρ c'->c=c'
 Kp:∀v,v∈s.kp->∃t,fm s t/\t∉s.lv/\oR s t=v
 L:∀x y,fN s x y->x≠2->(s.q x y).Pairwise (C1 m x)
 N:∀t,t∈s.lv->(m.T t).jw<=m.jw
 A:GA m.G m.nc
 lm:s.lv.length<=p.mt
 B:m.nc<=K/\m.jw<=K
theorem oZ(x:Int):tr ρ (0,x)=(0,x):=bf rfl
theorem ox(h:v.1=0):tr ρ v=v:=bf h
theorem qI(h:v.1≠0):tr ρ v=(ρ v.1,0):=au h
end D
namespace D
open F
variable {p:dL}{K K':Nat}{s s':Pl}{m m':Dm}{ρ:Nat → Nat}{X:Nat → Prop}
theorem pU.sub(u:s'.M=s.M)(i:∀v,sH p s' v->dW p s v){c:Nat}(e:pU p s' c):pU p s c:=by
 unfold pU at e;rw[u]at e;exact B.uo (λv o=>i v (iw.1 o)) e
theorem eF.cells(h:eF p K s m ρ)(i:s'.M=s.M)(y:s'.ck=s.ck)(u:∀v,sH p s' v->dW p s v)(e:m'.nc=m.nc/\m'.M=m.M/\m'.ck=m.ck):(∀c,pU p s' c->CS s'.M s'.ck m'.nc m'.M m'.ck ρ c)/\∀c o,pU p s' c->pU p s' o->ρ c=ρ o->c=o:=
 ⟨λc k=>by
  grind[pU.sub,D.eF.C],λc o k W=>h.I c o (pU.sub i u k) (pU.sub i u W)⟩
theorem Jm{t:Nat}(Z:∀u,u∈s'.lv->u∈s.lv)(W:s'.kp=s.kp)(J:∀u,u≠t->s'.T u=s.T u)(ht:t∈s'.lv->∀i,i<(s'.T t).fr.length->∀a,a<p.rg (dq s' t i).f->dW p s ((dq s' t i).R a)):∀v,sH p s' v->dW p s v:=by
 rintro v (⟨u,i,a,G,hi,o,e⟩|H)
 .by_cases y:u=t
  .grind
  have Y:dq s' u i=dq s u i:=gD eR;rw[Y]at o e;rw[J u y]at hi;exact dW.root (af ⟨u,i,a,Z u G,hi,o,e⟩)
 rw[W]at H;exact dW.root (ah H)
theorem eF.eC{t:Nat}(h:eF p K s m ρ)(a2:t∈s.lv)(e:s'.nt=s.nt/\s'.lv=s.lv/\s'.out=s.out/\s'.kp=s.kp/\s'.M=s.M/\s'.ck=s.ck)(e':m'.nt=m.nt/\m'.nc=m.nc/\m'.M=m.M/\m'.ck=m.ck/\m'.G=m.G)(hs:∀u,u≠t->s'.T u=s.T u)(hm:∀u,u≠t->m'.T u=m.T u)(ht:TS p ρ (s'.T t) (m'.T t))(hg:∀i,i<(s'.T t).fr.length->∀a,a<p.rg (dq s' t i).f->dW p s ((dq s' t i).R a))(hq:m'.q=s'.q 2 0)(hb:m'.ft=s'.ft)(a1:m'.sp=s'.sp)(a0:m'.ev=s'.ev)(Y:m'.clk=s'.clk)(hL:∀x y,fN s x y->x≠2->(s'.q x y).Pairwise (C1 m' x))(hN:(m'.T t).jw<=m'.jw/\m.jw<=m'.jw)(hK:K<=K'/\m'.jw<=K'):eF p K' s' m' ρ:=by
 obtain⟨W,J,e3,e4,e5,e6⟩:=e;obtain⟨f1,Z,f3,f4,f5⟩:=e';have ho:∀u,oR s' u=oR s u:=λu=>by grind[oR]
 obtain⟨k1,k2⟩:=h.cells (m':=m') e5 e6 (Jm (p:=p) (λu H=>by grind) e4 hs (λ_=>hg)) ⟨Z,f3,f4⟩;refine⟨by rw[f1,W];exact h.nt,hq,hb,a1,a0,Y,λu H=>?_,λu H hn=>?_,k1,k2,λv hv=>?_,λx y hl hx=>hL x y ((gC W).1 hl) hx,λu H=>?_,by rw[f5,Z];exact h.A,eV J h.lm,by rw[Z];exact dU h.B.1 hK.1,hK.2⟩
 .grind[D.eF.T]
 .grind[ey,D.eF.O]
 .grind[ey,D.eF.Kp]
 grind[Nat.le_trans,D.eF.N]
theorem ve{x:Nat}{l:List Nat}(u:l.Pairwise (C1 m x))(h:∀a,a∈l->(m'.T a).lH=(m.T a).lH/\(m'.T a).jw=(m.T a).jw):l.Pairwise (C1 m' x):=by
 grind[List.Pairwise.imp_of_mem,C1]
def eF.L0(h:eF p K s m ρ)(e:s'.q=s.q)(i:∀a,(m'.T a).lH=(m.T a).lH/\(m'.T a).jw=(m.T a).jw):∀x y,fN s x y->x≠2->(s'.q x y).Pairwise (C1 m' x):=λx y o u=>by
 rw[e];exact ve (h.L x y o u) (λa _=>i a)
theorem Ej(s:Pl)(t x y:Nat):((s.dz t).q x y).Sublist (s.q x y):=by
 cases hw:(s.T t).wh with
 | none=>grind[fB]
 | some i=>
  rw[gJ (x:=i.1) (y:=i.2) hw];show((s.fF i.1 i.2 ((s.q i.1 i.2).erase t)).q x y).Sublist _;grind[gH,List.erase_sublist,fY]
theorem yB{t x y a:Nat}(u:LW s)(ht:fm s t)(o:fN s x y)(i:a∈(s.dz t).q x y):a≠t:=λe=>by
 subst e;have:=((u.dz ht).b x y ((gC (gg s a)).2 o) a i).2;grind[ke]
theorem eF.FQ{t:Nat}(h:eF p K s m ρ)(G:LW s)(ht:fm s t)(o:∀u,u≠t->m'.T u=m.T u)(x y:Nat)(e:fN s x y)(hx:x≠2):((s.dz t).q x y).Pairwise (C1 m' x):=
 ve ((h.L x y e hx).sublist (Ej s t x y)) (λa i=>by grind[yB])
theorem Rn.jm{t:Nat}(e:t∈s.lv)(i:Nat)(hi:i<(s.T t).fr.length)(a:Nat)(o:a<p.rg (dq s t i).f):dW p s ((dq s t i).R a):=dW.root (af ⟨t,i,a,e,hi,o,rfl⟩)
theorem HS.same{a u:qA}{b i:Dt}(h:HS a b)(o:u.wh=a.wh)(J:u.lf=a.lf)(W:u.iM=a.iM)(e:i.how=b.how)(G:i.what=b.what)(H:i.into=b.into)(Y:i.lH=b.lH):HS u i:=
 ⟨λk=>by grind[D.HS.h0],λy k=>by grind[D.HS.h2],λy k=>by grind[D.HS.h3],λy k=>by grind[D.HS.h4],λy k=>by grind[D.HS.h5]⟩
theorem eF.dJ(h:eF p K s m ρ){t i:Nat}{f H:jc}(G:t∈s.lv)(hi:i<(s.T t).fr.length)(hf:FS p ρ i f H)(hg:f.f=(dq s t i).f)(hR:∀a,a<p.rg f.f->dW p s (f.R a)):eF p K (s.dJ t i f) (m.dJ t i H) ρ:=by
 have Y:=h.T t G;have e1:(s.dJ t i f).T t={ s.T t with fr:=(s.T t).fr.set i f }:=di _ _ _;have J:(m.dJ t i H).T t=(m.T t).mz ((m.T t).fr.set i H):=gi _ _ _;refine h.eC G ⟨rfl,rfl,rfl,rfl,rfl,rfl⟩ ⟨rfl,rfl,rfl,rfl,rfl⟩ (λu e=>qp s f e) (λu e=>fW _ _ e) ⟨?_,λj W=>?_,?_,?_⟩ (λj W a Z=>?_) h.q h.xL h.sp h.ev h.ck (h.L0 rfl (λa=>?_)) ⟨?_,bq _⟩ ⟨bq _,h.B.2⟩
 .rw[e1,J];show((m.T t).fr.set i H).length=((s.T t).fr.set i f).length;grind[List.length_set,D.TS.l]
 .rw[e1]at W ⊢;rw[J];have y:j<((s.T t).fr.set i f).length:=W;rw[eA]at y;show FS p ρ j (((s.T t).fr.set i f).getD j n6) (((m.T t).fr.set i H).getD j n6);rw[mQ hi,mQ (eV Y.l hi)];by_cases e:j=i
  .grind
  rw[au e,au e];exact Y.f j y
 .rw[J];exact Y.o
 .rw[e1,J];exact Y.h.same rfl rfl rfl rfl rfl rfl rfl
 .rw[e1]at W;have y:j<((s.T t).fr.set i f).length:=W;rw[eA]at y;by_cases e:j=i
  .grind[mh]
  rw[lN s f (λe'=>e e'.2)]at Z ⊢;grind[Rn.jm]
 .by_cases e:a=t
  .subst e;rw[J];exact⟨rfl,rfl⟩
  rw[show(m.dJ t i H).T a=m.T a from fW _ _ e];omega
 rw[J];exact h.N t G
theorem eF.oK(h:eF p K s m ρ){t:Nat}(i:t∈s.lv)(hn:(s.T t).fr≠[])(a:Nat){v:B.V}(J:dW p s v):eF p K (s.dJ t (de s t) ((bw s t).set a v)) (m.dJ t (qd m t) ((pS m t).set a (tr ρ v))) ρ:=by
 have G:=h.T t i;have hi:de s t<(s.T t).fr.length:=by
  have:(s.T t).fr.length≠0:=λe=>hn (db.1 e);unfold de;omega
 have e:qd m t=de s t:=by unfold qd de;rw[G.l]
 have H:pS m t=fU m t (de s t):=by unfold pS;rw[e]
 have u:=G.f _ hi;rw[e,H];refine h.dJ i hi ⟨u.f,u.nx,u.bk,λk y=>?_⟩ rfl (λk y=>?_)
 .show B.set (fU m t (de s t)).R a (tr ρ v) k=tr ρ (B.set (dq s t (de s t)).R a v k);by_cases o:k=a
  .grind[B.jN]
  rw[B.iX _ _ _ _ o,B.iX _ _ _ _ o];exact u.R k y
 show dW p s (B.set (dq s t (de s t)).R a v k);by_cases o:k=a
 .grind[B.jN]
 rw[B.iX _ _ _ _ o];exact Rn.jm i _ hi k y
theorem eF.nx(h:eF p K s m ρ){t:Nat}(i:t∈s.lv)(hn:(s.T t).fr≠[])(a:Nat):eF p K (s.dJ t (de s t) { bw s t with nx:=a }) (m.dJ t (qd m t) { pS m t with nx:=a }) ρ:=by
 have u:=h.T t i;have hi:de s t<(s.T t).fr.length:=by
  have:(s.T t).fr.length≠0:=λe=>hn (db.1 e);unfold de;omega
 have e:qd m t=de s t:=by unfold qd de;rw[u.l]
 have G:pS m t=fU m t (de s t):=by unfold pS;rw[e]
 have o:=u.f _ hi;rw[e,G];exact h.dJ i hi ⟨o.f,rfl,o.bk,o.R⟩ rfl (λk y=>Rn.jm i _ hi k y)
def eF.told(h:eF p K s m ρ)(kind t:Nat)(x:Int):eF p K (s.told kind t x) (m.told kind t x) ρ:=
 { h with ev:=by show m.ev++_=s.ev++_;rw[h.ev] }
def eF.gr(h:eF p K s m ρ)(c:Int):eF p K (s.gr c) (m.gr c) ρ:={ h with ck:=rfl }
def eF.vk(h:eF p K s m ρ)(kd:B.Kd):eF p K (s.vk kd) m ρ:={ h with }
theorem eF.fO(h:eF p K s m ρ)(k:Nat)(l:List Nat):eF p K (s.fO k l) (m.fO k l) ρ:={ h with xL:=by show(λi=>if i=k then l else m.ft i)=(λi=>if i=k then l else s.ft i);rw[h.xL] }
theorem eF.mono(h:eF p K s m ρ)(hK:K<=K'):eF p K' s m ρ:={ h with B:=⟨dU h.B.1 hK,dU h.B.2 hK⟩ }
theorem eF.join(h:eF p K s m ρ){t:Nat}(hO:fL p s X)(G:t∈s.lv)(hw:(s.T t).wh≠some (2,0)){x:Dt}(W:x.fr=(m.T t).fr/\x.out=(m.T t).out/\x.jw=(m.T t).jw/\x.how=1):eF p K (s.dY 2 0 t) ((m.dx t x).sE t) ρ:=by
 have hT:=h.T t G;have Y:((m.dx t x).sE t).T t=x:=gi _ _ _;have e1:=jT s 2 0 t;have H:((s.dY 2 0 t).T t).fr=(s.T t).fr:=by rw[e1];exact kg s t t
 obtain⟨j1,j2,j3,j4,j5,j6,j7,j8,j9,Z⟩:=jg s 2 0 t;have hf:∀i,dq (s.dY 2 0 t) t i=dq s t i:=λi=>gD H;refine h.eC G ⟨iF s 2 0 t,j1,j2,j3,j7,j8⟩ ⟨rfl,rfl,rfl,rfl,rfl⟩ (λu e=>nh s e) (λu e=>fW _ _ e) ⟨?_,λj J=>?_,?_,?_⟩ (λj J a ha=>?_) ?_ ?_ ?_ ?_ ?_ (λa b hl hx=>?_) ⟨?_,bq _⟩ ⟨bq _,h.B.2⟩
 .rw[H,Y,W.1];exact hT.l
 .grind[D.TS.f]
 .rw[Y,W.2.1];exact hT.o
 .rw[e1,Y];refine⟨λe=>(by cases e),λy _=>W.2.2.2,λy e=>?_,λy e=>?_,λy e=>?_⟩ <;>
  .injection e with e;grind
 .rw[H]at J;rw[hf]at ha ⊢;grind[Rn.jm]
 .show m.q++[t]=_;rw[nW hw,h.q]
 .show m.ft=_;rw[j4];exact h.xL
 .show m.sp=_;rw[Z];exact h.sp
 .show m.ev=_;rw[j9];exact h.ev
 .show m.clk=_;rw[j5];exact h.ck
 .have hq:(s.dY 2 0 t).q a b=(s.dz t).q a b:=fY _ _ (λe=>hx e.1);rw[hq];exact h.FQ hO.lw (hO.lt t G) (λu e=>fW _ _ e) a b hl hx
 rw[Y,W.2.2.1];exact h.N t G
theorem eF.gn(h:eF p K s m ρ){t:Nat}(o:fL p s X)(i:t∈s.lv)(hX:X t){k:vF}(W:(s.T t).lf=some k)(hi:(m.T t).into=(k.2.1:Int)){v:B.V}(J:dW p s v):eF p K (s.gn t v) (m.ready t (tr ρ v)) ρ:=by
 obtain⟨x,y,hw,a0⟩:=o.lf t (o.lt t i) eR;have hn:=(o.fw t i hX).n1;have G:de s t<(s.T t).fr.length:=by
  have:(s.T t).fr.length≠0:=λe=>hn (db.1 e);unfold de;omega
 have H:(m.dJ t (qd m t) ((pS m t).set k.2.1 (tr ρ v))).T t=(m.T t).mz ((m.T t).fr.set (qd m t) ((pS m t).set k.2.1 (tr ρ v))):=gi _ _ _;rw[pB v W];have Y:m.ready t (tr ρ v)=((m.dJ t (qd m t) ((pS m t).set k.2.1 (tr ρ v))).dx t (((m.T t).hw 1).mz ((m.T t).fr.set (qd m t) ((pS m t).set k.2.1 (tr ρ v))))).sE t:=by
  unfold Dm.ready;rw[hi,mm,js];unfold Dm.dJ;rw[jQ];show((m.vr t).dx t ((((m.dx t ((m.T t).hw 1)).T t)).mz ((((m.dx t ((m.T t).hw 1)).T t)).fr.set _ _)))=_;rw[gi];show(((m.dx t ((m.T t).hw 1)).dx t _).sE t)=_;rw[jQ];rfl
 rw[Y];exact (h.oK i hn k.2.1 J).join (t:=t) (x:=((m.T t).hw 1).mz ((m.T t).fr.set (qd m t) ((pS m t).set k.2.1 (tr ρ v)))) (o.oK i hX G k.2.1 J) i (by grind[gI]) ⟨jx H,jx H,jx H,rfl⟩
theorem eF.Nb(h:eF p K s m ρ){t:Nat}(u:fL p s X)(i:t∈s.lv)(hw:(s.T t).wh≠some (2,0)){x:Dt}(o:x={ m.T t with into:=-1 })(v:B.V):eF p K (s.dY 2 0 t) ((m.dx t x).ready t v) ρ:=by
 subst o;have e:(m.dx t { m.T t with into:=-1 }).ready t v=(m.dx t (({ m.T t with into:=-1 }:Dt).hw 1)).sE t:=by
  unfold Dm.ready;rw[gi,au eR];unfold Dm.vr;rw[gi,jQ]
 rw[e];exact h.join u i hw ⟨rfl,rfl,rfl,rfl⟩
theorem eF.wait(h:eF p K s m ρ){x y t:Nat}{k:vF}(hO:fL p s X)(J:t∈s.lv)(hw:(s.T t).wh=none)(hl:fN s x y)(hx:x=4\/x=5):eF p (K+1) (s.wait x y t k) (m.wait t (x-1) y (k.2.1:Int)) ρ:=by
 have hT:=h.T t J;have ht:=hO.lt t J;have H:(m.wait t (x-1) y (k.2.1:Int)).T t=(m.T t).wt (x-1) y (k.2.1:Int) (m.jw+1):=gi _ _ _;have e1:(s.wait x y t k).T t=(((s.dz t).T t).to x y).lK k:=by
  show((s.dY x y t).dx t _).T t=_;rw[di,jT]
 have G:((s.wait x y t k).T t).fr=(s.T t).fr:=by rw[e1];exact kg s t t
 obtain⟨j1,j2,j3,j4,j5,j6,j7,j8,j9,a3⟩:=jg s x y t;have hf:∀i,dq (s.wait x y t k) t i=dq s t i:=λi=>gD G;have hm:∀u,u≠t->(m.wait t (x-1) y (k.2.1:Int)).T u=m.T u:=λu e=>fW _ _ e;have a0:∀a b,(s.wait x y t k).q a b=if a=x/\b=y then(s.dz t).q x y++[t] else(s.dz t).q a b:=λa b=>rfl
 refine h.eC J ⟨iF s x y t,j1,j2,j3,j7,j8⟩ ⟨rfl,rfl,rfl,rfl,rfl⟩ (λu e=>(dR _ _ e).trans (nh s e)) hm ⟨?_,λj Y=>?_,?_,?_⟩ (λj Y a ha=>?_) ?_ ?_ ?_ ?_ ?_ (λa b W Z=>?_) ⟨?_,Nat.le_succ _⟩ ⟨Nat.le_succ _,Nat.succ_le_succ h.B.2⟩
 .rw[G,H];exact hT.l
 .rw[G,H];rw[G]at Y;exact hT.f j Y
 .rw[H];exact hT.o
 .rw[e1,H];refine⟨λe=>(by cases e),λz e=>?_,λz e=>?_,λz e=>?_,λz e=>?_⟩
  .injection e with e;grind
  .injection e with e;grind
  .injection e with e;injection e with e1 H
   exact⟨by show x-1=3;omega,H,k,rfl,rfl⟩
  injection e with e;injection e with e1 H
  exact⟨by show x-1=4;omega,H,k,rfl,rfl⟩
 .rw[G]at Y;rw[hf]at ha ⊢;grind[Rn.jm]
 .show m.q=_;rw[a0,eD,fB hw];exact h.q
 .show m.ft=(s.dY x y t).ft;rw[j4];exact h.xL
 .show m.sp=(s.dY x y t).sp;rw[a3];exact h.sp
 .show m.ev=(s.dY x y t).ev;rw[j9];exact h.ev
 .show m.clk=(s.dY x y t).clk;rw[j5];exact h.ck
 .rw[a0];by_cases e:a=x/\b=y
  .obtain⟨rfl,rfl⟩:=e;rw[bf ⟨rfl,rfl⟩,List.pairwise_append];refine⟨h.FQ hO.lw ht hm a b W Z,List.pairwise_singleton _ _,λc hc c' a1=>?_⟩;rw[fX.1 a1];unfold C1;rw[eD,hm c (yB hO.lw ht W hc),H];exact Nat.lt_succ_of_le (h.N c (hO.ql a b W c (po hc)))
  rw[au e];exact h.FQ hO.lw ht hm a b W Z
 rw[H];exact bq _
theorem ud{R:Nat->Nat->Prop}{q:Nat->Bool}{t:Nat}:∀(l:List Nat),l.Pairwise R->(∀a,a∈l->q a=false->R a t)->(∀a,a∈l->q a=true->R t a)->(∀a b,a∈l->b∈l->R a b->q a=true->q b=true)->(l.take (l.findIdx q)++t :: l.drop (l.findIdx q)).Pairwise R
 | [],_,_,_,_=>by simp
 | a :: l,h,h1,h2,h3=>by
  rw[List.pairwise_cons]at h
  cases e:q a with
  | true=>
   grind[List.pairwise_cons]
  | false=>
   rw[List.findIdx_cons,e];show(a :: (l.take (l.findIdx q)++t :: l.drop (l.findIdx q))).Pairwise R;rw[List.pairwise_cons];refine⟨λb i=>?_,ud l h.2 (λb i=>h1 b (by simp[i])) (λb i=>h2 b (by simp[i])) (λb c i o=>h3 b c (by simp[i]) (by simp[o]))⟩;grind
theorem eF.iq(h:eF p K s m ρ){t:Nat}{u:Int}{x:Dt}(hO:fL p s X)(Z:t∈s.lv)(hw:(s.T t).wh=none)(ex:x={ (m.T t).wt 2 0 (-1) (m.jw+1) with lH:=u }):eF p (K+1) (s.iq t u) ((m.wait t 2 0 (-1)).dx t x) ρ:=by
 have hT:=h.T t Z;have ht:=hO.lt t Z;have e2:((m.wait t 2 0 (-1)).dx t x).T t=x:=gi _ _ _
 have aA:(s.fK t u).T t=(s.T t).tl u:=di _ _ _;have Y:s.iq t u=(s.fK t u).oL 3 0 t ((s.q 3 0).take (Cn (s.fK t u) u)++t :: (s.q 3 0).drop (Cn (s.fK t u) u)):=by
  unfold Pl.iq Pl.into;rw[fB (by grind[mF])]
 have e1:(s.iq t u).T t=((s.T t).tl u).to 3 0:=by
  rw[Y];show((Pl.fF _ 3 0 _).dx t _).T t=_;rw[di,aA]
 have hs:∀a,a≠t->(s.iq t u).T a=s.T a:=λa e=>by
  rw[Y];show((Pl.fF _ 3 0 _).dx t _).T a=_;rw[dR _ _ e];exact dR _ _ e
 have W:((s.iq t u).T t).fr=(s.T t).fr:=jx e1;have hf:∀i,dq (s.iq t u) t i=dq s t i:=λi=>gD W;have hm:∀a,a≠t->((m.wait t 2 0 (-1)).dx t x).T a=m.T a:=λa e=>(fW _ _ e).trans (fW _ _ e);have a4:∀a b,(s.iq t u).q a b=if a=3/\b=0 then(s.q 3 0).take (Cn (s.fK t u) u)++t :: (s.q 3 0).drop (Cn (s.fK t u) u) else s.q a b:=λa b=>by rw[Y];rfl
 have a6:(s.iq t u).nt=s.nt/\(s.iq t u).lv=s.lv/\(s.iq t u).out=s.out/\(s.iq t u).kp=s.kp/\(s.iq t u).M=s.M/\(s.iq t u).ck=s.ck/\(s.iq t u).ft=s.ft/\(s.iq t u).sp=s.sp/\(s.iq t u).ev=s.ev/\(s.iq t u).clk=s.clk:=by rw[Y];exact⟨rfl,rfl,rfl,rfl,rfl,rfl,rfl,rfl,rfl,rfl⟩
 obtain⟨s1,s2,s3,s4,s5,s6,s7,s8,s9,a8⟩:=a6;have G:∀a b,fN s a b->∀c,c∈s.q a b->c≠t:=λa b hl c H e=>by
  subst e;have:=(hO.lw.b a b hl c H).2;grind
 refine h.eC Z ⟨s1,s2,s3,s4,s5,s6⟩ ⟨rfl,rfl,rfl,rfl,rfl⟩ hs hm ⟨?_,λj hj=>?_,?_,?_⟩ (λj hj a ha=>?_) ?_ ?_ ?_ ?_ ?_ (λa b y a2=>?_) ⟨?_,Nat.le_succ _⟩ ⟨Nat.le_succ _,Nat.succ_le_succ h.B.2⟩
 .rw[W,e2,ex];exact hT.l
 .rw[W,e2,ex];rw[W]at hj;exact hT.f j hj
 .rw[e2,ex];exact hT.o
 .rw[e1,e2,ex];refine⟨λe=>(by cases e),λz e=>?_,λz e=>⟨rfl,rfl⟩,λz e=>?_,λz e=>?_⟩ <;>
  .injection e with e;grind
 .rw[W]at hj;rw[hf]at ha ⊢;grind[Rn.jm]
 .show m.q=_;rw[a4,au ek];exact h.q
 .rw[s7];exact h.xL
 .rw[s8];exact h.sp
 .rw[s9];exact h.ev
 .rw[a8];exact h.ck
 .rw[a4];have a1:=λa b hl hx=>ve (h.L a b hl hx) (λc H=>by rw[hm c (G a b hl c H)];omega);by_cases e:a=3/\b=0
  .obtain⟨rfl,rfl⟩:=e;rw[bf ⟨rfl,rfl⟩];have hp:Cn (s.fK t u) u=(s.q 3 0).findIdx (λa=>decide (u<(m.T a).lH)):=by
    show(s.q 3 0).findIdx (λa=>decide (u<((s.fK t u).T a).iM))=_;refine mR _ (λc H=>?_);have J:=G 3 0 y c H;show decide (u<((s.dx t _).T c).iM)=_;rw[dR _ _ J,((h.T c (hO.ql 3 0 y c H)).h.h3 0 ((hO.lw.b 3 0 y c H).2)).2]
   rw[hp];refine ud _ (a1 3 0 y a2) (λc H hq=>?_) (λc H hq=>?_) (λc c' H a5 a3 hq=>?_)
   .have J:=G 3 0 y c H;have a0:=of_decide_eq_false hq;unfold C1;rw[bf rfl,hm c J,e2,ex];show(m.T c).lH<u\/((m.T c).lH=u/\(m.T c).jw<m.jw+1);have:=h.N c (hO.ql 3 0 y c H);omega
   .have J:=G 3 0 y c H;have a0:=eO hq;unfold C1;rw[bf rfl,hm c J,e2,ex];exact af a0
   have a0:=eO hq;unfold C1 at a3;rw[bf rfl,hm c (G 3 0 y c H),hm c' (G 3 0 y c' a5)]at a3;exact fp ag
  rw[au e];exact a1 a b y a2
 rw[e2,ex];exact bq _
theorem eF.start(h:eF p K s m ρ){t:Nat}{l:List Nat}(hO:fL p s X)(y:t∈s.lv)(hq:s.q 2 0=t :: l):eF p K (s.start t) (m.fF l) ρ:=by
 have J:=h.T t y;have hw:=(hO.lw.b 2 0 (af ⟨rfl,rfl⟩) t eR).2;have e1:(s.start t).T t={ (s.dz t).T t with run:=true }:=di _ _ _;have G:((s.start t).T t).fr=(s.T t).fr:=by rw[e1];exact kg s t t
 have hf:∀i,dq (s.start t) t i=dq s t i:=λi=>gD G;obtain⟨j1,j2,j3,j4,j5,j6,j7,j8,j9,Z⟩:=g8 s t;refine h.eC y ⟨gg s t,j1,j2,j3,j9,Z⟩ ⟨rfl,rfl,rfl,rfl,rfl⟩ (λu e=>(dR _ _ e).trans (uy s e)) (λ_ _=>rfl) ⟨?_,λj H=>?_,J.o,?_⟩ (λj H a ha=>?_) ?_ ?_ ?_ ?_ ?_ (λa b a0 W=>?_) ⟨h.N t y,bq _⟩ ⟨bq _,h.B.2⟩
 .rw[G];exact J.l
 .rw[G]at H ⊢;exact J.f j H
 .have Y:((s.start t).T t).wh=none:=by rw[e1];exact ke s t
  refine⟨λ_=>J.h.h2 0 hw,λz e=>?_,λz e=>?_,λz e=>?_,λz e=>?_⟩ <;>
  .grind
 .rw[G]at H;rw[hf]at ha ⊢;grind[Rn.jm]
 .show l=(s.dz t).q 2 0;rw[gJ hw];show _=(s.fF 2 0 ((s.q 2 0).erase t)).q 2 0;grind[gH]
 .show m.ft=(s.dz t).ft;rw[j5];exact h.xL
 .show m.sp=(s.dz t).sp;rw[j6];exact h.sp
 .show m.ev=(s.dz t).ev;rw[j4];exact h.ev
 .show m.clk=(s.dz t).clk;rw[j7];exact h.ck
 show((s.dz t).q a b).Pairwise _;exact h.FQ hO.lw (hO.lt t y) (λ_ _=>rfl) a b a0 W
theorem yC{t:Nat}(y:LW s)(ht:fm s t):(s.q 2 0).filter (λu=>decide (u≠t))=(s.dz t).q 2 0:=by
 have o:fN s 2 0:=af ⟨rfl,rfl⟩;by_cases hw:(s.T t).wh=some (2,0)
 .rw[gJ hw];show _=(s.fF 2 0 ((s.q 2 0).erase t)).q 2 0;rw[gH,(y.c 2 0 o).erase_eq_filter];grind
 grind[sm,List.filter_eq_self,F.LW.b]
theorem eF.ID(h:eF p K s m ρ){t kind:Nat}{x:Int}{v:B.V}(hO:fL p s X)(a0:t∈s.lv)(hv:dW p s v)(hs:∀u,u≠t->s'.T u=s.T u)(hm:∀u,u≠t->m'.T u=m.T u)(e:s'.nt=s.nt/\s'.lv=s.lv.erase t/\s'.out=s.out.set (t-1) v/\s'.kp=jS s.kp v/\s'.M=s.M/\s'.ck=s.ck)(e1:s'.q=(s.dz t).q)(e2:s'.ev=s.ev++[(kind,t,x)])(e3:s'.ft=s.ft/\s'.sp=s.sp/\s'.clk=s.clk)(f:m'.nt=m.nt/\m'.nc=m.nc/\m'.M=m.M/\m'.ck=m.ck/\m'.G=m.G)(f1:m'.q=m.q.filter (λu=>decide (u≠t)))(f2:m'.ev=m.ev++[(kind,t,x)])(f3:m'.ft=m.ft/\m'.sp=m.sp/\m'.clk=m.clk)(f4:(m'.T t).how=5/\(m'.T t).fr=[]/\(m'.T t).out=tr ρ v)(f5:m'.jw=m.jw):eF p K s' m' ρ:=by
 obtain⟨a1,a2,a3,a4,a5,a6⟩:=e;obtain⟨b1,b2,b3,b4,b5⟩:=f;have ht:=hO.lt t a0;have y:∀u,u∈s'.lv->u∈s.lv/\u≠t:=λu o=>by
  grind[F.fL.nd]
 have Y:∀u,fm s u->u≠t->oR s' u=oR s u:=λu o hn=>by
  unfold oR;rw[a3,cr,List.getElem?_set_ne (by have:=o.1;have:=ht.1;omega),<-cr]
 have a7:oR s' t=v:=by
  unfold oR;rw[a3,cr,List.getElem?_set_self (by rw[hO.ol];have:=ht.1;have:=ht.2;omega)];rfl
 have hg:∀u,sH p s' u->dW p s u:=by
  rintro u (⟨c,i,a,W,hi,ha,e⟩|o)
  .obtain⟨W,J⟩:=y c W;have hf:dq s' c i=dq s c i:=gD eR;rw[hf]at ha e;rw[hs c J]at hi;exact dW.root (af ⟨c,i,a,W,hi,ha,e⟩)
  rw[a4]at o;rcases pN o with o|⟨rfl,_⟩
  .exact dW.root (ah o)
  exact hv
 obtain⟨k1,k2⟩:=h.cells (m':=m') a5 a6 hg ⟨b2,b3,b4⟩;refine⟨by rw[b1,a1];exact h.nt,?_,by grind[D.eF.xL],by grind[D.eF.sp],by rw[f2,e2,h.ev],by grind[D.eF.ck],λu o=>?_,λu o hn=>?_,k1,k2,λu o=>?_,λa b hl hx=>?_,λu o=>?_,by rw[b5,b2];exact h.A,by rw[a2];exact dU (List.erase_sublist.length_le) h.lm,by rw[b2,f5];exact h.B⟩
 .rw[f1,h.q,e1];grind[yC,F.fL.lw]
 .grind[D.eF.T]
 .grind[ey,D.eF.O]
 .rw[a4]at o;rcases pN o with o|⟨rfl,_⟩
  .obtain⟨c,c1,c2,c3⟩:=h.Kp u o;have J:c≠t:=λe=>c2 (e▸a0);exact⟨c,(ey a1).2 c1,λW=>c2 (y c W).1,by rw[Y c c1 J];exact c3⟩
  exact⟨t,(ey a1).2 ht,λW=>(y t W).2 rfl,a7⟩
 .rw[e1];exact h.FQ hO.lw ht hm a b ((gC a1).1 hl) hx
 obtain⟨o,H⟩:=y u o;rw[hm u H,f5];exact h.N u o
def eF.gone(h:eF p K s m ρ){t kind:Nat}{x:Int}{v:B.V}(W:fL p s X)(i:t∈s.lv)(hv:dW p s v):eF p K (s.gone t v kind x) (m.gone t kind x (tr ρ v)) ρ:=by
 obtain⟨g1,g2,Y,g4,H,g6,J,Z,G,y⟩:=ja s t v kind x;exact h.ID W i hv (λu e=>nH s v kind x e) (λu e=>fW _ _ e) ⟨jL s t v kind x,g1,g2,Y,J,Z⟩ y G ⟨g4,(g8 s t).2.2.2.2.2.1,H⟩ ⟨rfl,rfl,rfl,rfl,rfl⟩ rfl rfl ⟨rfl,rfl,rfl⟩ (by show((m.dx t _).T t).how=_/\((m.dx t _).T t).fr=_/\((m.dx t _).T t).out=_;rw[gi];exact⟨rfl,rfl,rfl⟩) rfl
def eF.L8(h:eF p K s m ρ){t kind:Nat}{x:Int}{v:B.V}(W:fL p s X)(i:t∈s.lv)(hw:(s.T t).wh=none)(hv:dW p s v):eF p K ((s.pop t).gone t v kind x) ((m.pop t).gone t kind x (tr ρ v)) ρ:=by
 obtain⟨g1,g2,Y,g4,H,g6,J,Z,G,y⟩:=ja s t v kind x;rw[qV hw];exact h.ID W i hv (λu e=>(lA _ e).trans (nH s v kind x e)) (λu e=>(fW _ _ e).trans (fW _ _ e)) ⟨jL s t v kind x,g1,g2,Y,J,Z⟩ y G ⟨g4,(g8 s t).2.2.2.2.2.1,H⟩ ⟨rfl,rfl,rfl,rfl,rfl⟩ rfl rfl ⟨rfl,rfl,rfl⟩ (by show(((m.pop t).dx t _).T t).how=_/\(((m.pop t).dx t _).T t).fr=_/\(((m.pop t).dx t _).T t).out=_;rw[gi];exact⟨rfl,rfl,rfl⟩) rfl
theorem nI{l:List jc}{i:Nat}(h:i+1<l.length):l.dropLast.getD i n6=l.getD i n6:=by
 grind
theorem eF.back(h:eF p K s m ρ){t:Nat}{v:B.V}(i:t∈s.lv)(h0:de s t≠0)(hv:dW p s v):eF p K (s.back t v) ((m.pop t).dJ t (qd m t-1) ((fU m t (qd m t-1)).set (pS m t).bk.2.1 (tr ρ v))) ρ:=by
 have y:=h.T t i;have e:qd m t=de s t:=by unfold qd de;rw[y.l]
 have hn:de s t+1=(s.T t).fr.length:=by unfold de at h0 ⊢;omega
 have a2:(pS m t).bk.2.1=(bw s t).bk.2.1:=by
  unfold pS;rw[e];exact(y.f (de s t) ag).bk h0
 rw[e,a2];unfold Pl.back;rw[au h0];have e1:((s.pop t).dJ t (de s t-1) ((dq s t (de s t-1)).set (dq s t (de s t)).bk.2.1 v)).T t={ (s.T t).mz (s.T t).fr.dropLast with fr:=((s.T t).fr.dropLast).set (de s t-1) ((dq s t (de s t-1)).set (dq s t (de s t)).bk.2.1 v) }:=by
  unfold Pl.dJ;rw[di];unfold Pl.pop;rw[di];rfl
 have J:((m.pop t).dJ t (de s t-1) ((fU m t (de s t-1)).set (bw s t).bk.2.1 (tr ρ v))).T t=((m.T t).mz (m.T t).fr.dropLast).mz (((m.T t).fr.dropLast).set (de s t-1) ((fU m t (de s t-1)).set (bw s t).bk.2.1 (tr ρ v))):=by
  unfold Dm.dJ;rw[gi];unfold Dm.pop;rw[gi];rfl
 refine h.eC i ⟨rfl,rfl,rfl,rfl,rfl,rfl⟩ ⟨rfl,rfl,rfl,rfl,rfl⟩ (λu e=>(qp _ _ e).trans (lA _ e)) (λu e=>(fW _ _ e).trans (fW _ _ e)) ⟨?_,λj Y=>?_,?_,?_⟩ (λj Y a ha=>?_) h.q h.xL h.sp h.ev h.ck (h.L0 rfl (λa=>?_)) ⟨?_,bq _⟩ ⟨bq _,h.B.2⟩
 .rw[e1,J];show(((m.T t).fr.dropLast).set _ _).length=(((s.T t).fr.dropLast).set _ _).length;grind[List.length_set,List.length_dropLast,D.TS.l]
 .rw[e1]at Y ⊢;rw[J];have H:j<(((s.T t).fr.dropLast).set (de s t-1) ((dq s t (de s t-1)).set (dq s t (de s t)).bk.2.1 v)).length:=Y;rw[eA,eY]at H;show FS p ρ j ((((s.T t).fr.dropLast).set _ _).getD j n6) ((((m.T t).fr.dropLast).set _ _).getD j n6);rw[mQ eR,mQ (by rw[eY,y.l];omega)];by_cases G:j=de s t-1
  .rw[bf G,bf G,G];have Z:=y.f (de s t-1) ag;refine⟨Z.f,Z.nx,Z.bk,λk hk=>?_⟩;show B.set (fU m t (de s t-1)).R _ (tr ρ v) k=tr ρ (B.set (dq s t (de s t-1)).R _ v k);by_cases W:k=(dq s t (de s t)).bk.2.1
   .grind[B.jN]
   rw[B.iX _ _ _ _ W,B.iX _ _ _ _ W];exact Z.R k hk
  rw[au G,au G,nI ag,nI (kr y.l)];exact y.f j ag
 .rw[J];exact y.o
 .rw[e1,J];exact y.h.same rfl rfl rfl rfl rfl rfl rfl
 .rw[e1]at Y;have H:j<(((s.T t).fr.dropLast).set (de s t-1) ((dq s t (de s t-1)).set (dq s t (de s t)).bk.2.1 v)).length:=Y;rw[eA,eY]at H
  by_cases G:j=de s t-1
  .subst G;rw[mh (s.pop t) _ (kr tG)]at ha ⊢;show dW p s (B.set (dq s t (de s t-1)).R _ v a);by_cases W:a=(dq s t (de s t)).bk.2.1
   .subst W;rw[B.jN];exact hv
   rw[B.iX _ _ _ _ W];exact Rn.jm i _ ag a ha
  rw[lN (s.pop t) _ (λe'=>G e'.2),pJ s (λ_=>by omega)]at ha ⊢;exact Rn.jm i j ag a ha
 .by_cases ea:a=t
  .subst ea;rw[J];exact⟨rfl,rfl⟩
  rw[show((m.pop t).dJ t (de s t-1) ((fU m t (de s t-1)).set (bw s t).bk.2.1 (tr ρ v))).T a=m.T a from(fW _ _ ea).trans (fW _ _ ea)];exact⟨rfl,rfl⟩
 rw[J];exact h.N t i
theorem my{l:List jc}{f:jc}{i:Nat}:(l++[f]).getD i n6=if i=l.length then f else l.getD i n6:=by
 grind
theorem eF.push(h:eF p K s m ρ){t:Nat}{f G:jc}(y:t∈s.lv)(hf:FS p ρ (s.T t).fr.length f G)(hR:∀a,a<p.rg f.f->dW p s (f.R a)):eF p K (s.push t f) (m.push t G) ρ:=by
 have W:=h.T t y;have Z:(s.push t f).T t=(s.T t).mz ((s.T t).fr++[f]):=di _ _ _;have H:(m.push t G).T t=(m.T t).mz ((m.T t).fr++[G]):=gi _ _ _;refine h.eC y ⟨rfl,rfl,rfl,rfl,rfl,rfl⟩ ⟨rfl,rfl,rfl,rfl,rfl⟩ (λu e=>qt s f e) (λu e=>fW _ _ e) ⟨?_,λj J=>?_,?_,?_⟩ (λj J a Y=>?_) h.q h.xL h.sp h.ev h.ck (h.L0 rfl (λa=>?_)) ⟨?_,bq _⟩ ⟨bq _,h.B.2⟩
 .rw[Z,H];show((m.T t).fr++[G]).length=((s.T t).fr++[f]).length;grind[List.length_append,D.TS.l]
 .rw[Z]at J ⊢;rw[H];have i:j<((s.T t).fr++[f]).length:=J;rw[cw]at i;show FS p ρ j (((s.T t).fr++[f]).getD j n6) (((m.T t).fr++[G]).getD j n6);rw[my,my,W.l];by_cases e:j=(s.T t).fr.length
  .grind
  rw[au e,au e];grind[D.TS.f]
 .rw[H];exact W.o
 .rw[Z,H];exact W.h.same rfl rfl rfl rfl rfl rfl rfl
 .rw[tF,cw]at J;by_cases e:j=(s.T t).fr.length
  .grind[wV]
  have i:j<(s.T t).fr.length:=by simp at J;omega
  rw[pn s f (λ_=>i)]at Y ⊢;grind[Rn.jm]
 .by_cases ea:a=t
  .subst ea;rw[H];exact⟨rfl,rfl⟩
  rw[show(m.push t G).T a=m.T a from fW _ _ ea];omega
 rw[H];exact h.N t y
theorem eF.mf(h:eF p K s m ρ){t:Nat}(y:t∈s.lv):eF p K (s.mf t) ((m.told 5 t 0).AO) ρ:=by
 have J:=h.T t y;have Y:(s.mf t).T t=(s.T t).stop:=di _ _ _;have G:((s.mf t).T t).fr=(s.T t).fr:=jx Y
 have Z:∀i,dq (s.mf t) t i=dq s t i:=λi=>gD G;refine h.eC y ⟨rfl,rfl,rfl,rfl,rfl,rfl⟩ ⟨rfl,rfl,rfl,rfl,rfl⟩ (λu e=>dR _ _ e) (λu e=>rfl) ⟨?_,λj H=>?_,J.o,?_⟩ (λj H a W=>?_) h.q h.xL rfl ?_ h.ck (h.L0 rfl (λa=>⟨rfl,rfl⟩)) ⟨h.N t y,bq _⟩ ⟨bq _,h.B.2⟩
 .rw[G];exact J.l
 .rw[G]at H ⊢;exact J.f j H
 .rw[Y];exact J.h.same rfl rfl rfl rfl rfl rfl rfl
 .rw[G]at H;rw[Z]at W ⊢;grind[Rn.jm]
 show m.ev++[(5,t,0)]=s.ev++[(5,t,0)];rw[h.ev]
theorem iG(h:eF p K s m ρ)(t:Nat):mY m t↔fm s t:=by
 unfold mY fm;rw[h.nt]
theorem eF.wh(h:eF p K s m ρ)(o:fL p s X){t:Nat}(i:t∈s.lv):((s.T t).wh=none/\(m.T t).how=1)\/((s.T t).wh=some (2,0)/\(m.T t).how=1)\/((s.T t).wh=some (3,0)/\(m.T t).how=2)\/(∃k,k<4/\(s.T t).wh=some (4,k)/\(m.T t).how=3/\(m.T t).what=k)\/(∃u,fm s u/\(s.T t).wh=some (5,u)/\(m.T t).how=4/\(m.T t).what=u):=by
 have e:=(h.T t i).h
 cases hw:(s.T t).wh with
 | none=>grind[D.HS.h0]
 | some J=>
  obtain⟨x,y⟩:=J;obtain⟨W,_,_⟩:=o.lw.a t (o.lt t i) x y hw;rcases W with⟨rfl,rfl⟩|⟨rfl,rfl⟩|⟨rfl,H⟩|⟨rfl,G⟩
  .grind[D.HS.h2]
  .exact ah (ah (af ⟨rfl,(e.h3 0 hw).1⟩))
  .grind[D.HS.h4]
  grind[D.HS.h5]
theorem eF.how(h:eF p K s m ρ)(u:fL p s X){t:Nat}(ht:fm s t):((m.T t).how≠5↔t∈s.lv):=by
 constructor
 .intro o;exact Classical.byContradiction λhn=>o (h.O t ht hn).1
 intro i;rcases h.wh u i with e|e|e|⟨_,_,_,e,_⟩|⟨_,_,_,e,_⟩<;>(omega)<;>omega
theorem eF.live(h:eF p K s m ρ)(i:fL p s X){N:Nat}(o:FR m N):N=s.lv.length:=
 o.uniq (Q:=λt=>t∈s.lv) ⟨s.lv,i.nd,λ_=>Iff.rfl,rfl⟩ (λt=>by
  grind[iG,D.eF.how,F.fL.lt])
theorem eF.Mw(h:eF p K s m ρ)(i:fL p s X){x y t:Nat}(W:fN s x y)(hx:x=4\/x=5):(mY m t/\(m.T t).how=x-1/\(m.T t).what=y)↔t∈s.q x y:=by
 rw[iG h];constructor
 .grind[D.eF.wh,D.eF.how,F.LW.a,F.fL.lw]
 intro J;obtain⟨ht,hw⟩:=i.lw.b x y W t J;have o:=(h.T t (i.ql x y W t J)).h;grind[D.HS.h4,D.HS.h5]
theorem eF.first(h:eF p K s m ρ)(o:fL p s X){x y b:Nat}(i:fN s x y)(hx:x=4\/x=5)(G:Ko m (x-1) y b):(b=0/\s.q x y=[])\/∃l,s.q x y=b :: l:=by
 rcases G with⟨rfl,G⟩|⟨Z,W,Y,b4⟩
 .left
  refine⟨rfl,?_⟩
  cases hq:s.q x y with
  | nil=>rfl
  | cons a l=>
   have:=(h.Mw o i hx (t:=a)).2 eR;grind
 right
 have e:=(h.Mw o i hx).1 ⟨Z,W,Y⟩
 cases hq:s.q x y with
 | nil=>grind
 | cons a l=>
  refine⟨l,?_⟩;rw[hq]at e;rcases List.mem_cons.1 e with rfl|e
  .rfl
  have H:=h.L x y i ag;rw[hq,List.pairwise_cons]at H;have J:=H.1 b e;unfold C1 at J;rw[eD]at J;grind[D.eF.Mw]
theorem eF.My(h:eF p K s m ρ)(i:fL p s X){t:Nat}:(mY m t/\(m.T t).how=2)↔t∈s.q 3 0:=by
 have G:fN s 3 0:=ah (af ⟨rfl,rfl⟩);rw[iG h];grind[D.eF.wh,D.eF.how,F.LW.a,F.fL.lw,F.LW.b,D.HS.h3,D.TS.h,D.eF.T,F.fL.ql]
theorem eF.lH(h:eF p K s m ρ)(o:fL p s X){t:Nat}(e:t∈s.q 3 0):(m.T t).lH=(s.T t).iM:=by
 have i:fN s 3 0:=ah (af ⟨rfl,rfl⟩);exact((h.T t (o.ql 3 0 i t e)).h.h3 0 (o.lw.b 3 0 i t e).2).2
theorem eF.due(h:eF p K s m ρ)(u:fL p s X){b:Nat}(H:Kq m b):(b=0/\∀a l,s.q 3 0=a :: l->¬(s.T a).iM<=s.clk)\/(b≠0/\∃l,s.q 3 0=b :: l/\(s.T b).iM<=s.clk):=by
 rcases H with⟨rfl,H⟩|⟨W,b2,b3,b4⟩
 .left
  refine⟨rfl,λa l o hc=>?_⟩;have i:a∈s.q 3 0:=by rw[o];simp
  have:=(h.My u).2 i;grind[D.eF.lH,D.eF.ck]
 right
 have y:=(h.My u).1 ⟨W,b2⟩;refine⟨ag,?_⟩
 cases o:s.q 3 0 with
 | nil=>grind
 | cons a l=>
  have e:=y;rw[o]at e;rcases List.mem_cons.1 e with rfl|e
  .grind[D.eF.lH,D.eF.ck]
  exfalso
  have Z:=h.L 3 0 (ah (af ⟨rfl,rfl⟩)) ek;rw[o,List.pairwise_cons]at Z;have J:=Z.1 b e;unfold C1 at J;rw[bf rfl]at J;grind[yM,D.eF.My]
def FN(d:Dp)(m:Dm)(v:B.V):Prop:=(∃t,mY m t/\(m.T t).out=v)\/∃t i a,mY m t/\i<(m.T t).fr.length/\a<d.rg (fU m t i).f/\(fU m t i).R a=v
inductive nL (d : Dp) (m : Dm) : Nat → Prop
  | root {v : B.V} : FN d m v → v.1 ≠ 0 → nL d m v.1
  | slot {c : Nat} {v : B.V} : nL d m c → v ∈ m.M c → v.1 ≠ 0 → nL d m v.1
def lZ(d:Dp)(m:Dm)(N:Nat):Prop:=Db (nL d m) N
theorem pU.ind{P:Nat->Prop}{c:Nat}(y:pU p s c)(H:∀v,sH p s v->v.1≠0->P v.1)(G:∀k v,pU p s k->P k->v∈s.M k->v.1≠0->P v.1):P c:=by
 have:=y (λk=>pU p s k/\P k) (λi hi e=>⟨B.pk (B.pG hi) e,H _ (iw.1 (B.pG hi)) e⟩) (λk o v u e=>⟨B.mr o.1 u e,G k v o.1 o.2 u e⟩);grind
theorem eF.Nd(h:eF p K s m ρ){d:Dp}(hO:Ok p s)(hP:PD p d){c:Nat}(hc:pU p s c):nL d m (ρ c):=by
 refine hc.ind (P:=λc=>nL d m (ρ c)) (λv o e=>?_) (λk v hk Y o e=>?_)
 .rcases o with⟨u,i,a,y,hi,G,rfl⟩|o
  .have hT:=h.T u y;have J:=hT.f i hi;have:=nL.root (d:=d) (m:=m) (v:=(fU m u i).R a) (ah ⟨u,i,a,(iG h u).2 (hO.lt u y),eV hT.l hi,?_,rfl⟩) ?_
   .rw[show(fU m u i).R a=tr ρ ((dq s u i).R a) from J.R a G,qI e]at this;omega
   .rw[show(fU m u i).f=(dq s u i).f from J.f,hP.rg (dq s u i).f ((hO.fw u y trivial).f i hi).1];exact G
   rw[show(fU m u i).R a=tr ρ ((dq s u i).R a) from J.R a G,qI e];have:=(h.C _ (B.pk (iw.2 (af ⟨u,i,a,y,hi,G,rfl⟩)) e)).c1;omega
  obtain⟨t,t1,t2,t3⟩:=h.Kp v o;have Z:=(h.O t t1 t2).2.2;rw[t3,qI e]at Z;have:=nL.root (d:=d) (m:=m) (v:=(m.T t).out) (af ⟨t,(iG h t).2 t1,rfl⟩) ?_
  .grind
  rw[Z];have:=(h.C _ (B.pk (iw.2 (ah o)) e)).c1;omega
 have:=nL.slot (d:=d) (m:=m) (v:=tr ρ v) Y (by rw[(h.C k hk).M];grind) ?_
 .grind[qI]
 rw[qI e];have:=(h.C _ (B.mr hk o e)).c1;omega
theorem eF.LC(h:eF p K s m ρ){d:Dp}(hO:Ok p s)(hP:PD p d){c:Nat}(hc:nL d m c):∃k,pU p s k/\ρ k=c:=by
 induction hc with
 | @root v hv Z=>
  have W:∀u,sH p s u->tr ρ u=v->∃k,pU p s k/\ρ k=v.1:=λu hu e=>by
   grind[ox,B.pk,qI,F.iw]
  rcases hv with⟨t,ht,e⟩|⟨t,i,a,ht,hi,ha,e⟩
  .have G:=(iG h t).1 ht;by_cases y:t∈s.lv
   .rw[(h.T t y).o]at e;grind
   have ho:=(h.O t G y).2.2;have Y:t-1<s.out.length:=by rw[hO.ol];have:=G.2;omega
   have a0:oR s t∈s.out:=by
    unfold oR;rw[cr,bz Y];exact List.getElem_mem Y
   rcases hO.ok _ a0 with J|J
   .grind[ox,absurd]
   exact W _ (ah J) eR
  have G:=(iG h t).1 ht;by_cases y:t∈s.lv
  .have hT:=h.T t y;rw[hT.l]at hi;have hF:=hT.f i hi;have hf:(fU m t i).f=(dq s t i).f:=hF.f;rw[hf,hP.rg (dq s t i).f ((hO.fw t y trivial).f i hi).1]at ha;exact W _ (af ⟨t,i,a,y,hi,ha,rfl⟩) ((hF.R a ha).symm.trans e)
  rw[(h.O t G y).2.1]at hi;grind
 | @slot c v hc hv Z ih=>
  obtain⟨k,hk,rfl⟩:=ih;rw[(h.C k hk).M]at hv;obtain⟨u,hu,rfl⟩:=eK.1 hv;grind[ox,B.mr,qI]
theorem mx{f:Nat->Nat}:∀(l:List Nat),l.Nodup->(∀a,a∈l->∀b,b∈l->f a=f b->a=b)->(l.map f).Nodup
 | [],_,_=>List.nodup_nil
 | a :: l,h,hf=>by
  rw[List.nodup_cons]at h;rw[List.map_cons,List.nodup_cons];refine⟨λu=>?_,mx l h.2 (λb i c o=>hf b (by simp[i]) c (by simp[o]))⟩;grind
theorem EC:∀(n:Nat) (l:List Nat),(∀c,1<=c->c<=n->c∈l)->n<=l.length
 | 0,_,_=>dk _
 | n+1,l,h=>by
  have i:=h (n+1) ag (bq _);have:=EC n (l.erase (n+1)) (λc c1 o=>(List.mem_erase_of_ne ag).2 (h c c1 ag));grind
theorem eF.count(h:eF p K s m ρ){d:Dp}(G:Ok p s)(hP:PD p d){N:Nat}(J:lZ d m N):∃l:List Nat,l.Nodup/\(∀c,c∈l↔pU p s c)/\N=l.length:=by
 classical
 let l:=((List.range (p.n+1)).filter (λc=>decide (pU p s c)))
 have u:∀c,c∈l↔pU p s c:=λc=>by
  show c∈(List.range (p.n+1)).filter (λc=>decide (pU p s c))↔_;rw[List.mem_filter,fI];constructor
  .grind
  intro i;exact⟨by have:=(B.qS G.hl i).2.2;omega,fp i⟩
 have o:l.Nodup:=List.nodup_range.filter _;refine⟨l,o,u,?_⟩;have H:(l.map ρ).Nodup:=by
  exact mx _ o (λa W b Y e=>h.I a b ((u a).1 W) ((u b).1 Y) e)
 have:=J.uniq (Q:=nL d m) (K:=(l.map ρ).length) ⟨l.map ρ,H,λc=>?_,rfl⟩ (λ_=>Iff.rfl)
 .grind
 grind[D.eF.Nd,D.eF.LC]
theorem eF.room(h:eF p K s m ρ){d:Dp}(H:Ok p s)(hP:PD p d){N:Nat}(hN:lZ d m N):N<=p.n/\(N<p.n↔∃c,1<=c/\c<=p.n/\¬pU p s c):=by
 classical
 obtain⟨l,J,u,rfl⟩:=h.count H hP hN;have i:=λc o=>(B.qS H.hl ((u c).1 o)).2;refine⟨gK p.n l J i,λW=>?_,λ⟨c,c1,y,c3⟩=>?_⟩
 .refine Classical.byContradiction λG=>?_;have:=EC p.n l (λc c1 y=>(u c).2 (Classical.byContradiction λZ=>G ⟨c,c1,y,Z⟩));omega
 have Y:=gK p.n (c :: l) (List.nodup_cons.2 ⟨λo=>c3 ((u c).1 o),J⟩) (λt ht=>by
  grind)
 grind
theorem qz(s:Pl)(f:Nat)(u v:B.V){t:Nat}(h:t≠s.nt+1):(s.born f u v).T t=s.T t:=by
 unfold Pl.born;rw[nh _ h,qt _ _ h];exact nU s h
def Ia(s:Pl)(f:Nat)(u v:B.V):((s.born f u v).T (s.nt+1)).fr=[⟨f,0,ig u v,(0,0,0,0)⟩]/\((s.born f u v).T (s.nt+1)).wh=some (2,0):=by
 unfold Pl.born;refine⟨?_,yP _ _ _ _⟩;rw[jT];show((Pl.dz _ _).T _).fr=_;rw[kg,tF];show((s.new).T (s.nt+1)).fr++_=_;rw[mL];rfl
def FB(s:Pl)(f:Nat)(u v:B.V)(a b:Nat):(s.born f u v).q a b=if a=2/\b=0 then s.q 2 0++[s.nt+1] else if a=5/\b=s.nt+1 then[] else s.q a b:=by
 unfold Pl.born;have hw:((s.more.push (s.nt+1) ⟨f,0,ig u v,(0,0,0,0)⟩).T (s.nt+1)).wh=none:=by
  rw[(qT _ _ _ _).1];show((s.new).T (s.nt+1)).wh=none;rw[mL];rfl
 show((Pl.dz _ _).fF 2 0 _).q a b=_;rw[fB hw];by_cases e:a=2/\b=0
 .rw[bf e,e.1,e.2,gH];rfl
 rw[au e,fY _ _ e];rfl
theorem eF.born(h:eF p K s m ρ){f:Nat}{u v:B.V}(hO:fL p s X)(a6:s.lv.length<p.mt)(hu:dW p s u)(hv:dW p s v):eF p K (s.born f u v) (m.born f (tr ρ u) (tr ρ v)) ρ:=by
 obtain⟨b1,b2,b3,b4⟩:=tQ s f u v;have W:(s.born f u v).nt=s.nt+1:=by unfold Pl.born;rw[iF];rfl
 obtain⟨j1,j2,j3,j4,j5,j6,j7,j8,j9,a5⟩:=jg (s.more.push (s.nt+1) ⟨f,0,ig u v,(0,0,0,0)⟩) 2 0 (s.nt+1);have a1:(s.born f u v).out=s.out++[(0,0)]:=j2;have a4:∀t,t∈s.lv->t≠s.nt+1:=λt ht e=>by have:=(hO.lt t ht).2;omega
 have J:∀t,t≠s.nt+1->(m.born f (tr ρ u) (tr ρ v)).T t=m.T t:=λt e=>au (eV h.nt e);have Z:(m.born f (tr ρ u) (tr ρ v)).T (s.nt+1)=⟨[⟨f,0,ig (tr ρ u) (tr ρ v),(0,0,0,0)⟩],1,0,0,0,0,(0,0)⟩:=bf (by rw[h.nt]);have H:=Ia s f u v;have a0:∀t,t<=s.nt->1<=t->oR (s.born f u v) t=oR s t:=λt ht h1=>by
  grind[oR,List.getElem?_append_left,F.fL.ol]
 have hg:∀x,sH p (s.born f u v) x->dW p s x:=by
  rintro x (⟨c,i,a,o,hi,ha,e⟩|Y)
  .rw[b1]at o;by_cases ec:c=s.nt+1
   .subst ec;have h0:i=0:=by rw[H.1]at hi;simpa using hi
    subst h0;have hf:dq (s.born f u v) (s.nt+1) 0=⟨f,0,ig u v,(0,0,0,0)⟩:=by unfold dq;rw[H.1];rfl
    rw[hf]at e;grind[qQ]
   have a3:c∈s.lv:=by
    rcases dV.1 o with o|o
    .exact o
    exact dp (fX.1 o) ec
   have hf:dq (s.born f u v) c i=dq s c i:=gD (by grind[qz]);rw[hf]at ha e;rw[qz s f u v ec]at hi;exact dW.root (af ⟨c,i,a,a3,hi,ha,e⟩)
  rw[b3]at Y;exact dW.root (ah Y)
 obtain⟨k1,k2⟩:=h.cells (s':=s.born f u v) (m':=m.born f (tr ρ u) (tr ρ v)) b4 j8 hg ⟨rfl,rfl,rfl⟩;refine⟨by rw[W];show m.nt+1=_;rw[h.nt],?_,by show m.ft=_;rw[h.xL];exact j4.symm,by show m.sp=_;rw[h.sp];exact a5.symm,by show m.ev=_;rw[h.ev];grind,by show m.clk=_;rw[h.ck];exact j5.symm,λt ht=>?_,λt ht hn=>?_,k1,k2,λx Y=>?_,λa b G Y=>?_,λt ht=>?_,h.A,by rw[b1,cw];exact a6,h.B⟩
 .show m.q++[m.nt+1]=_;rw[FB,bf ⟨rfl,rfl⟩,h.q,h.nt]
 .rw[b1]at ht;by_cases e:t=s.nt+1
  .subst e;rw[Z];refine⟨jx H.1,λi hi=>?_,rfl,⟨λ_=>rfl,λ_ _=>rfl,λy e=>?_,λy e=>?_,λy e=>?_⟩⟩
   .rw[H.1]at hi ⊢;have h0:i=0:=gG hi
    subst h0;refine⟨rfl,rfl,λe=>dp rfl e,λk _=>?_⟩;show ig (tr ρ u) (tr ρ v) k=tr ρ (ig u v k);unfold ig;split
    .rfl
    split
    .rfl
    rfl
   all_goals
    rw[H.2]at e;injection e with e;injection e with e _;exact dp e ek
  rw[qz s f u v e,J t e];refine h.T t ?_;rcases dV.1 ht with ht|ht
  .exact ht
  exact dp (fX.1 ht) e
 .rw[b1]at hn;have h1:t∉s.lv:=λe=>hn (eM _ e);have h2:t≠s.nt+1:=λe=>hn (List.mem_append_right _ (by simp[e]));have h3:t<=s.nt:=by have:=ht.2;rw[W]at this;omega
  rw[J t h2,a0 t h3 ht.1];exact h.O t ⟨ht.1,h3⟩ h1
 .rw[b3]at Y;obtain⟨c,c1,c2,c3⟩:=h.Kp x Y;refine⟨c,⟨c1.1,by rw[W];have:=c1.2;omega⟩,λo=>?_,by rw[a0 c c1.2 c1.1];exact c3⟩;rw[b1]at o;rcases dV.1 o with o|o
  .exact c2 o
  have:=fX.1 o;have:=c1.2;omega
 .rw[FB,au (λe=>Y e.1)];by_cases e:a=5/\b=s.nt+1
  .rw[bf e];exact List.Pairwise.nil
  rw[au e];have a2:fN s a b:=by
   unfold fN at G ⊢;rcases G with G|G|G|G
   .exact af G
   .exact ah (af G)
   .exact ah (ah (af G))
   refine ah (ah (ah ⟨G.1,G.2.1,?_⟩));have:=G.2.2;rw[W]at this;have:b≠s.nt+1:=λe'=>e ⟨G.1,e'⟩;omega
  exact ve (h.L a b a2 Y) (λc o=>by rw[J c (a4 c (hO.ql a b a2 c o))];exact⟨rfl,rfl⟩)
 rw[b1]at ht;by_cases e:t=s.nt+1
 .subst e;rw[Z];exact dk _
 rw[J t e];rcases dV.1 ht with ht|ht
 .exact h.N t ht
 exact dp (fX.1 ht) e
theorem eF.ur(h:eF p K s m ρ){a i:Nat}{v:B.V}(W:pU p s a)(hv:dW p s v):eF p K (s.ur a i v) (m.put (ρ a) i (tr ρ v)) ρ:=by
 have y:∀c,pU p (s.ur a i v) c->pU p s c:=λc o=>B.Ec W hv o;refine { h with C:=λc o=>?_,I:=λc H o G=>h.I c H (y c o) (y H G) };obtain⟨c1,c2,J,c4,c5,Z⟩:=h.C c (y c o);have u:(B.lay s.M a ((s.M a).set i v) c).length=(s.M c).length:=by
  by_cases e:c=a
  .subst e;rw[B.iB,eA]
  rw[B.gh _ _ _ _ e]
 refine⟨c1,c2,?_,c4,λY e=>c5 Y (db.1 (by rw[<-u];exact db.2 e)),by show(B.lay s.M a ((s.M a).set i v) c).length<=8;omega⟩;show(if ρ c=ρ a then(m.M (ρ a)).set i (tr ρ v) else m.M (ρ c))=(B.lay s.M a ((s.M a).set i v) c).map (tr ρ);by_cases e:c=a
 .subst e;rw[bf rfl,B.iB,J,List.map_set]
 rw[au (λe'=>e (h.I c a (y c o) W e')),B.gh _ _ _ _ e,J]
theorem eF.oS(h:eF p K s m ρ){t a c ty:Nat}{J:B.Kd}{l:List B.V}(hO:fL p s X)(a3:t∈s.lv)(hn:(s.T t).fr≠[])(hk:B.lS J p.n (eG p s) s.M)(h3:J.on c=false)(aL:c≠0)(aN:ty≠0->l≠[])(aK:l.length<=8)(hl:∀v,v∈l->dW p s v): eF p (K+1) ((s.oS J c ty l).dJ t (de s t) ((bw s t).set a (c,0))) ((m.cell ty (l.map (tr ρ))).dJ t (qd m t) ((pS m t).set a (m.nc+1,0))) (λk=>if k=c then m.nc+1 else ρ k):=by
 have hi:de s t<(s.T t).fr.length:=by
  have:(s.T t).fr.length≠0:=λe=>hn (db.1 e);unfold de;omega
 have aM:¬pU p s c:=λhc=>by
  have:=(B.qS hk hc).1;grind
 have a9:∀v,dW p s v->tr (λk=>if k=c then m.nc+1 else ρ k) v=tr ρ v:=λv hv=>by
  by_cases e:v.1=0
  .grind[ox]
  rw[qI e,qI e];have aG:v.1≠c:=λe'=>aM (e'▸B.pR.vO hv e);grind
 have hT:=h.T t a3;have aF:qd m t=de s t:=by unfold qd de;rw[hT.l]
 have aH:pS m t=fU m t (de s t):=by unfold pS;rw[aF]
 rw[aF,aH];have e1:((s.oS J c ty l).dJ t (de s t) ((bw s t).set a (c,0))).T t={ s.T t with fr:=(s.T t).fr.set (de s t) ((bw s t).set a (c,0)) }:=di _ _ _;have e2:((m.cell ty (l.map (tr ρ))).dJ t (de s t) ((fU m t (de s t)).set a (m.nc+1,0))).T t=(m.T t).mz ((m.T t).fr.set (de s t) ((fU m t (de s t)).set a (m.nc+1,0))):=gi _ _ _;have hs:∀u,u≠t->((s.oS J c ty l).dJ t (de s t) ((bw s t).set a (c,0))).T u=s.T u:=λu e=>dR _ _ e;have hm:∀u,u≠t->((m.cell ty (l.map (tr ρ))).dJ t (de s t) ((fU m t (de s t)).set a (m.nc+1,0))).T u=m.T u:=λu e=>fW _ _ e;have a7:∀v,v∈eG p ((s.oS J c ty l).dJ t (de s t) ((bw s t).set a (c,0)))->v=(c,0)\/dW p s v:=λv hv=>by
  rcases iw.1 hv with⟨u,j,b,Y,hj,hb,e⟩|hv
  .by_cases eu:u=t
   .subst eu;rw[e1]at hj;have a1:j<((s.T u).fr.set (de s u) ((bw s u).set a (c,0))).length:=hj;rw[eA]at a1;have aI:dq ((s.oS J c ty l).dJ u (de s u) ((bw s u).set a (c,0))) u j=if j=de s u then(bw s u).set a (c,0) else dq s u j:=by
     unfold dq;rw[e1];exact mQ hi
    rw[aI]at hb e;by_cases ej:j=de s u
    .rw[bf ej]at hb e;have e3:B.set (bw s u).R a (c,0) b=v:=e;by_cases eb:b=a
     .grind[B.jN]
     rw[B.iX _ _ _ _ eb]at e3;rw[<-e3];exact ah (Rn.jm a3 _ hi b hb)
    rw[au ej]at hb e;grind[Rn.jm]
   have hf:dq ((s.oS J c ty l).dJ t (de s t) ((bw s t).set a (c,0))) u j=dq s u j:=gD eR;rw[hf]at hb e;rw[hs u eu]at hj;exact ah (dW.root (af ⟨u,j,b,Y,hj,hb,e⟩))
  exact ah (dW.root (ah hv))
 have Z:∀k,pU p ((s.oS J c ty l).dJ t (de s t) ((bw s t).set a (c,0))) k->k=c\/pU p s k:=λk hk=>B.uq (L:=eG p s) hl a7 hk;have aC:∀k,pU p s k->∀v,v∈s.M k->dW p s v:=λk hk v hv=>ah (ah ⟨k,hk,hv⟩);have a5:∀l':List B.V,(∀v,v∈l'->dW p s v)->l'.map (tr (λk=>if k=c then m.nc+1 else ρ k))=l'.map (tr ρ):=λl' a8=>List.map_congr_left (λv hv=>a9 v (a8 v hv));refine⟨h.nt,h.q,h.xL,h.sp,h.ev,h.ck,λu Y=>?_,λu Y aA=>?_,λk H=>?_,λk k' H a4 he=>?_,h.Kp,λx y a8 hx=>ve (h.L x y a8 hx) (λb _=>?_),λu Y=>?_,⟨by show m.G.all+1=m.nc+1;rw[h.A.1],Nat.succ_le_succ h.A.2.1,Nat.succ_le_succ h.A.2.2⟩,h.lm,⟨Nat.succ_le_succ h.B.1,Nat.le_succ_of_le h.B.2⟩⟩
 .have a6:∀u,u∈s.lv->∀i,i<(s.T u).fr.length->FS p (λk=>if k=c then m.nc+1 else ρ k) i ((s.T u).fr.getD i n6) ((m.T u).fr.getD i n6):=λu Y i aD=>by
   have hF:=(h.T u Y).f i aD;exact⟨hF.f,hF.nx,hF.bk,λk H=>by rw[hF.R k H];exact(a9 _ (Rn.jm Y i aD k H)).symm⟩
  by_cases eu:u=t
  .subst eu;refine⟨?_,λj hj=>?_,?_,?_⟩
   .rw[e1,e2];show((m.T u).fr.set _ _).length=((s.T u).fr.set _ _).length;grind[List.length_set,D.TS.l]
   .rw[e1]at hj ⊢;rw[e2];have a1:j<((s.T u).fr.set (de s u) ((bw s u).set a (c,0))).length:=hj;rw[eA]at a1;show FS p _ j (((s.T u).fr.set _ _).getD j n6) (((m.T u).fr.set _ _).getD j n6);rw[mQ hi,mQ (eV hT.l hi)];by_cases e:j=de s u
    .rw[bf e,bf e,e];have hF:=a6 u Y (de s u) hi;refine⟨hF.f,hF.nx,hF.bk,λk H=>?_⟩;show B.set (fU m u (de s u)).R a (m.nc+1,0) k=tr _ (B.set (bw s u).R a (c,0) k);by_cases e3:k=a
     .subst e3;rw[B.jN,B.jN];rw[qI (v:=(c,0)) aL];show _=((if c=c then m.nc+1 else ρ c),(0:Int));rw[bf rfl]
     rw[B.iX _ _ _ _ e3,B.iX _ _ _ _ e3];exact hF.R k H
    rw[au e,au e];exact a6 u Y j a1
   .rw[e2];exact hT.o
   rw[e1,e2];exact hT.h.same rfl rfl rfl rfl rfl rfl rfl
  rw[hs u eu,hm u eu];exact⟨(h.T u Y).l,a6 u Y,(h.T u Y).o,(h.T u Y).h⟩
 .have eu:u≠t:=λe=>aA (e▸a3);rw[hm u eu];obtain⟨o1,o2,o3⟩:=h.O u Y aA;refine⟨o1,o2,o3.trans ?_⟩;refine(a9 _ ?_).symm;show dW p s (oR s u);have aO:=Y.1;have aP:u<=s.nt:=Y.2;have aB:u-1<s.out.length:=kr hO.ol
  have aJ:oR s u∈s.out:=by
   unfold oR;rw[cr,bz aB];exact List.getElem_mem aB
  rcases hO.ok _ aJ with h0|h0
  .exact af h0
  exact dW.root (ah h0)
 .by_cases W:k=c
  .subst W;refine⟨by show 1<=(if k=k then m.nc+1 else ρ k);rw[bf rfl];omega,by show(if k=k then m.nc+1 else ρ k)<=m.nc+1;rw[bf rfl];omega,?_,?_,?_,?_⟩
   .show(if(if k=k then m.nc+1 else ρ k)=m.nc+1 then l.map (tr ρ) else m.M (if k=k then m.nc+1 else ρ k))=(B.lay s.M k l k).map _;rw[bf rfl,bf rfl,B.iB,a5 l hl]
   .show(if(if k=k then m.nc+1 else ρ k)=m.nc+1 then ty else m.ck (if k=k then m.nc+1 else ρ k))=if k=k then ty else s.ck k
    rw[bf rfl,bf rfl,bf rfl]
   .show(if k=k then ty else s.ck k)≠0->B.lay s.M k l k≠[];rw[bf rfl,B.iB];exact aN
   show(B.lay s.M k l k).length<=8;rw[B.iB];exact aK
  have aE:=(Z k H).resolve_left W;obtain⟨c1,c2,c3,c4,c5,c6⟩:=h.C k aE;refine⟨by show 1<=(if k=c then m.nc+1 else ρ k);rw[au W];exact c1,by show(if k=c then m.nc+1 else ρ k)<=m.nc+1;rw[au W];omega,?_,?_,?_,?_⟩
  .show(if(if k=c then m.nc+1 else ρ k)=m.nc+1 then l.map (tr ρ) else m.M (if k=c then m.nc+1 else ρ k))=(B.lay s.M c l k).map _;rw[au W,eD,B.gh _ _ _ _ W,a5 _ (aC k aE),c3]
  .show(if(if k=c then m.nc+1 else ρ k)=m.nc+1 then ty else m.ck (if k=c then m.nc+1 else ρ k))=if k=c then ty else s.ck k
   rw[au W,eD,au W,c4]
  .show(if k=c then ty else s.ck k)≠0->B.lay s.M c l k≠[];rw[au W,B.gh _ _ _ _ W];exact c5
  show(B.lay s.M c l k).length<=8;rw[B.gh _ _ _ _ W];exact c6
 .have a2:=he;by_cases W:k=c
  .by_cases a0:k'=c
   .rw[W,a0]
   rw[bf W,au a0]at a2;have:=(h.C k' ((Z k' a4).resolve_left a0)).c2;omega
  by_cases a0:k'=c
  .rw[au W,bf a0]at a2;have:=(h.C k ((Z k H).resolve_left W)).c2;omega
  rw[au W,au a0]at a2;exact h.I k k' ((Z k H).resolve_left W) ((Z k' a4).resolve_left a0) a2
 .by_cases eb:b=t
  .subst eb;rw[e2];exact⟨rfl,rfl⟩
  rw[hm b eb];exact⟨rfl,rfl⟩
 by_cases eu:u=t
 .subst eu;rw[e2];exact h.N u Y
 rw[hm u eu];exact h.N u Y
