import Derived.Test.YtnjiinbhbjpfkaaGreatDoorAd
set_option maxRecDepth 100000
set_option maxHeartbeats 0
set_option linter.all false
namespace Go.Proofs.YtnjiinbhbjpfkaaGreatDoor
open Go.RowKit Go.Proofs.Tryz
namespace F
variable {p:dH}{s s':Pl}{t:Nat}
def Pl.ends(p:dH)(t:Nat):Nat->Pl->Pl
 |0,s=>s
 |n+1,s=>if(s.T t).run=true/\(bz s t).nx=p.len (bz s t).f then Pl.ends p t n (s.back t (0,0)) else s
def Pl.gL(s:Pl)(t:Nat):Pl:=s.dM t (de s t) {bz s t with nx:=(bz s t).nx+1}
def Jw(p:dH)(t:Nat)(s s':Pl):Prop:=∃why s3,ku p (s.gL t) t (p.ins (bz s t).f (bz s t).nx) why s3/\s'=if why=0 then s3 else s3.leave t (0,-why) 3 why
def jv(p:dH)(t:Nat)(s s':Pl):Prop:=if((s.ends p t 21).T t).run=true then Jw p t (s.ends p t 21) s' else s'=s.ends p t 21
def PI(p:dH):Prop:=∀f,f<p.nf->∀i,i<p.len f->LR p f (p.ins f i)
theorem sH(v:B.V){t:Nat}:∀(l:List Nat) (s:Pl),t∉l->(s.ep v l).T t=s.T t
 | [],_,_=>rfl
 | u :: l,s,h=>by
  show((s.gk u v).ep v l).T t=_;rw[sH v l _<|λi=>h (by simp[i]),Ap s v<|λe=>h<|by simp[e]]
def um(e:LW s)(ht:ft s t)(v:B.V)(kind:Nat)(x:Int):(s.leave t v kind x).T t=((s.dA t).T t).stop:=by
 unfold Pl.leave;rw[sH v _ _<|λi=>(e.a t ht 5 t (e.b 5 t (ak<|ak<|ak ⟨rfl,ht⟩) t i).2).2.2 ⟨rfl,rfl⟩];exact dk _ _ _
theorem oH(i:LW s)(ht:ft s t)(v:B.V):(de s t=0->((s.back t v).T t).run=false)/\(de s t≠0->((s.back t v).T t).run=(s.T t).run/\((s.back t v).T t).fr.length=(s.T t).fr.length-1):=by
 constructor
 .intro e;unfold Pl.back;rw[bf e,um (i.pop t) ht];rfl
 intro e;unfold Pl.back;rw[av e];grind[gO,de,du,By,ui]
theorem uv{p:dH}{t:Nat}:∀(n:Nat) {s:Pl},Rn p s t->(s.T t).fr.length<=n->Ok p (s.ends p t n)/\(((s.ends p t n).T t).run=true->Rn p (s.ends p t n) t/\Go t 0 s (s.ends p t n)/\(bz (s.ends p t n) t).nx≠p.len (bz (s.ends p t n) t).f)/\Go t 1 s (s.ends p t n)
 | 0,s,h,hn=>by
  have:=h.hi;omega
 | n+1,s,h,hn=>by
  unfold Pl.ends;by_cases e:(s.T t).run=true/\(bz s t).nx=p.len (bz s t).f
  .rw[bf e];have G:=h.ok.back h.lv h.wh<|dV.num 0;have y:=oH h.ok.lw h.ht (0,0);by_cases u:de s t=0
   .have J:=y.1 u;have W:Pl.ends p t n (s.back t (0,0))=s.back t (0,0):=by
     cases n with
     |zero=>rfl
     |succ n=>unfold Pl.ends;grind
    rw[W];exact⟨G,λi=>dr i ey,Go.back h.ok h.lv h.wh<|dV.num 0⟩
   obtain⟨r1,r2⟩:=y.2 u;obtain⟨H,Z,Y,b4⟩:=(nO s t (0,0)).2 u;have o:Go t 0 s (s.back t (0,0)):=Go.same Z H Y (by rw[b4]);have hi:=h.hi;obtain⟨i1,i2,i3⟩:=uv n ⟨G,eZ H h.lv,ey⟩ af;refine⟨i1,λi=>?_,?_⟩
   .obtain⟨j1,j2,j3⟩:=i2 i;exact⟨j1,(o.trans j2).mono af,j3⟩
   exact(o.trans i3).mono af
  rw[av e];grind[Go.same,F.Rn.ok,F.Rn.run,F.Go.mono]
theorem oO(h:Rn p s t)(hn:(bz s t).nx≠p.len (bz s t).f):Rn p (s.gL t) t/\(bz (s.gL t) t).f=(bz s t).f:=by
 have o:=h.ff;have hw:=gO s t (de s t) t {bz s t with nx:=(bz s t).nx+1};have e:Ok p (s.gL t):=h.ok.dM h.hi rfl rfl (show(bz s t).nx+1<=p.len (bz s t).f by omega) (λa i=>h.n9 i);refine⟨⟨e,h.lv,hw.2.2.1.trans h.run⟩,?_⟩;grind[de,du,Pl.gL,mJ,F.Rn.hi]
theorem pN{k:vV}{why:Int}(Z:k.1<23)(hi:ku p s t k why s'):0<=why/\why<=8/\(why≠0->s'=s):=by
 obtain⟨i,a,b,c⟩:=k;simp only at Z;have G:∀o,xu s t o a b c why s'->0<=why/\why<=8/\(why≠0->s'=s):=λo ht=>by
  rcases ht with⟨_,rfl,_⟩|⟨_,rfl,rfl⟩
  .omega
  grind
 have hz:why=0->0<=why/\why<=8/\(why≠0->s'=s):=λe=>⟨af,af,λh=>dr e h⟩;have hS:∀x y,1<=oL s x y/\oL s x y<=3:=λx y=>by grind[oL]
 have Y:∀r:Int×Pl,why=r.1/\s'=r.2->(0<=r.1/\r.1<=8/\(r.1≠0->r.2=s))->0<=why/\why<=8/\(why≠0->s'=s):=λr h W=>by
  grind
 have hc:=pS 22 i af
 repeat' rcases hc with rfl|hc
 .exact hz hi.1
 .exact hz hi.1
 .exact G 2 hi
 .exact G 3 hi
 .exact G 4 hi
 .exact G 5 hi
 .exact hz hi.1
 .exact hz hi.1
 .exact hz hi.1
 .exact hz hi.1
 .rcases hi with⟨_,h,_⟩|⟨_,h,W⟩
  .omega
  grind
 .rcases hi with⟨_,h,_⟩|⟨_,h,W⟩
  .omega
  grind
 .exact hz hi.1
 .obtain⟨u,H⟩:=hi;unfold sy at u;unfold mH at H;grind
 .exact hz hi.1
 .obtain⟨u,H⟩:=hi;unfold kT at u;unfold lR at H;grind
 .exact hz hi.1
 .refine Y _ hi ?_;grind[jk,absurd]
 .refine Y _ hi ?_;grind[jd,absurd]
 .refine Y _ hi ?_;grind[iu,absurd]
 .refine Y _ hi ?_;grind[jY,absurd]
 .refine Y _ hi ?_;grind[kM,absurd]
 exact hz hi.1
theorem FJ(hP:PI p)(h:Rn p s t)(hx:(bz s t).nx≠p.len (bz s t).f)(hn:s.nt+1<=500000000)(hi:Jw p t s s'):Ok p s'/\Go t 1 s s':=by
 obtain⟨why,s3,H,rfl⟩:=hi;let⟨i,u⟩:=oO h hx;have y:=h.ff;have G:=hP _ y.1 (bz s t).nx af;have o:Go t 0 s (s.gL t):=Go.same rfl rfl rfl rfl;let⟨o1,Z⟩:=BQ (k:=p.ins (bz s t).f (bz s t).nx) i hn ey H;let⟨w1,w2,W⟩:=pN G.1 H;by_cases e:why=0
 .rw[bf e];exact⟨o1,(o.trans Z).mono af⟩
 rw[av e];have J:=W e;subst J;let⟨l1,Y,l3⟩:=vj (s.gL t) t (0,-why) 3 why;exact⟨i.ok.leave i.lv (λ_ _=>trivial) (dV.num _) 3 why,(o.trans<|Go.ends (ak<|ag ⟨rfl,rfl⟩) i.lv i.ht i.ok.nd Y l1 l3<|λ_=>FA i.ok i.lv (λ_ _=>trivial) i.wh (dV.num _) 3 why).mono af⟩
theorem xA(hP:PI p)(h:Rn p s t)(hn:s.nt+1<=500000000)(i:jv p t s s'):Ok p s'/\Go t 1 s s':=by
 let⟨i1,y,u⟩:=uv 21 h<|gD h.fw.n2;unfold jv at i;by_cases e:((s.ends p t 21).T t).run=true
 .rw[bf e]at i;let⟨H,o,G⟩:=y e;let⟨_,_,_,J,_⟩:=id o;let⟨k1,k2⟩:=FJ hP H G af i;exact⟨k1,(o.trans k2).mono af⟩
 grind
def hZ(p:dH)(t:Nat):Nat->Pl->Pl->Prop
 |0,s,s'=>s'=s
 |n+1,s,s'=>if(s.T t).run=true then ∃s1,jv p t s s1/\hZ p t n s1 s' else s'=s
theorem Go.nt{c:Nat}(h:Go t c s s'):s.nt<=s'.nt/\s'.nt<=s.nt+c:=by
 obtain⟨_,_,_,h,_⟩:=h;exact h
theorem Bq{p:dH}{t:Nat}(hP:PI p):∀(n:Nat) {s s':Pl},Ok p s->ft s t->s.nt+n<=500000000->hZ p t n s s'->Ok p s'/\Go t n s s'
 | 0,s,s',h,_,_,hr=>by
  have e:s'=s:=hr;grind[Go.same]
 | n+1,s,s',h,ht,hn,hr=>by
  unfold hZ at hr;by_cases e:(s.T t).run=true
  .rw[bf e]at hr;obtain⟨s1,y,o⟩:=hr;let⟨k1,k2⟩:=xA hP ⟨h,(h.rn t ht e).2,e⟩ af y;have i:=k2.nt;let⟨G,u⟩:=Bq hP n k1 ⟨ht.1,dQ ht.2 i.1⟩ af o;exact⟨G,(k2.trans u).mono af⟩
  rw[av e]at hr;subst hr;exact⟨h,(Go.same rfl rfl rfl rfl).mono af⟩
def iH(p:dH)(s s':Pl):Prop:=match s.q 2 0 with
 | []=>s'=s
 |t :: _=>∃s1,hZ p t p.qn (s.start t) s1/\s'=if(s1.T t).run=true then s1.dX 2 0 t else s1
theorem vB(hP:PI p)(h:Ok p s)(hn:s.nt+p.qn<=500000000)(u:iH p s s'):Ok p s'/\(s.q 2 0=[]->s'=s)/\∀t r,s.q 2 0=t :: r->∃y,Go t p.qn y s'/\y.ev=s.ev/\y.lv=s.lv/\y.nt=s.nt/\y.q 2 0=r:=by
 unfold iH at u
 cases hq:s.q 2 0 with
 |nil=>
  grind
 |cons t r=>
  rw[hq]at u;obtain⟨s1,h1,J⟩:=u;have hl:fQ s 2 0:=ag ⟨rfl,rfl⟩;have G:t∈s.q 2 0:=by rw[hq];simp
  have H:=h.ql 2 0 hl t G;have ht:=h.lt t H;have i:(s.start t).nt=s.nt:=gl s t;let⟨k1,k2⟩:=Bq hP p.qn (h.start H) ((eB i).2 ht) af h1;have Y:(s.start t).q 2 0=r:=by
   show(s.dA t).q 2 0=r;rw[gP<|(h.lw.b 2 0 hl t G).2];show(s.fI 2 0<|(s.q 2 0).erase t).q 2 0=r;rw[gM,hq];simp
  let⟨f1,_,_,f4,_⟩:=gI s t;have o:Ok p s'/\Go t p.qn (s.start t) s':=by
   by_cases e:(s1.T t).run=true
   .rw[bf e]at J;subst J;have hr:=k1.rn t (⟨ht.1,dQ ht.2 (by rw[<-i];exact k2.nt.1)⟩) e;let⟨j1,_,_,_,_,_,_,_,j9,_⟩:=ja s1 2 0 t;exact⟨k1.dX hr.2,(k2.trans<|Go.quiet j9 j1 (iO s1 2 0 t) ⟨[t],ox ey⟩).mono af⟩
   rw[av e]at J;subst J;exact⟨k1,k2⟩
  refine⟨o.1,λe=>by(cases e),λt' r' e=>?_⟩;injection e with e1 e2;subst e1 e2;exact⟨s.start t,o.2,f4,f1,i,Y⟩
def Pl.iC(s:Pl):List Nat->Pl
 | []=>s
 |t :: l=>if(s.T t).iT<=s.clk then(s.dX 2 0 t).iC l else s
structure Qu(s s':Pl):Prop where
 ev:s'.ev=s.ev
 lv:s'.lv=s.lv
 nt:s'.nt=s.nt
 sp:s'.sp=s.sp
 q:∃m,s'.q 2 0=s.q 2 0++m
theorem Qu.refl(s:Pl):Qu s s:=⟨rfl,rfl,rfl,rfl,[],ey⟩
theorem Qu.trans{s s' e:Pl}(h:Qu s s')(i:Qu s' e):Qu s e:=by
 let⟨m,u⟩:=h.q;let⟨m',o⟩:=i.q;exact⟨i.ev.trans h.ev,i.lv.trans h.lv,i.nt.trans h.nt,i.sp.trans h.sp,m++m',ey⟩
theorem Qu.dX(hw:(s.T t).wh≠some (2,0)):Qu s (s.dX 2 0 t):=by
 let⟨o,_,_,_,_,_,_,_,i,e⟩:=ja s 2 0 t;exact⟨i,o,iO s 2 0 t,e,[t],ox hw⟩
theorem py{p:dH}:∀(l:List Nat) {s:Pl},Ok p s->s.q 3 0=l->Ok p (s.iC l)/\Qu s (s.iC l)
 | [],s,h,_=>⟨h,Qu.refl s⟩
 | t :: l,s,h,hq=>by
  have H:fQ s 3 0:=ak<|ag ⟨rfl,rfl⟩;have o:t∈s.q 3 0:=by rw[hq];simp
  have i:=(h.lw.b 3 0 H t o).2;unfold Pl.iC;split
  .have u:(s.dX 2 0 t).q 3 0=l:=by
    show((s.dA t).fI 2 0<|(s.dA t).q 2 0++[t]).q 3 0=l;rw[gf _ _ af,gP i];show(s.fI 3 0<|(s.q 3 0).erase t).q 3 0=l;rw[gM,hq];simp
   let⟨k1,k2⟩:=py l (h.dX<|h.ql 3 0 H t o) u;grind[Qu.dX,F.Qu.trans]
  grind[Qu.refl]
def Pl.pG(s:Pl)(k b:Nat):Pl:=match s.q 4 k with
 |u :: _=>s.gk u (0,(b:Int))
 | []=>if(s.fA k).length<64 then s.fR k (s.fA k++[b]) else s
def Pl.recv(s:Pl)(x:Int×Nat):Pl:=if 0<=x.1/\x.1<4 then s.pG x.1.toNat x.2 else s
def Pl.fg(s:Pl):List (Int×Nat)->Pl
 | []=>s
 |x :: l=>(s.recv x).fg l
theorem yZ{k b:Nat}(H:k<4)(Z:b<256)(h:Ok p s):Ok p (s.pG k b)/\Qu s (s.pG k b):=by
 unfold Pl.pG
 cases hq:s.q 4 k with
 |cons u r=>
  have G:=(h.lw.b 4 k (ak<|ak<|ag ⟨rfl,H⟩) u ey).1;let⟨W,_,_,_,_,_,_,_,b9,o⟩:=pZ s u (0,(b:Int));exact⟨h.gk G (λ_=>trivial)<|dV.num _,b9,W,oK s u _,o,A7 h G _⟩
 |nil=>
  show Ok p (if(s.fA k).length<64 then s.fR k (s.fA k++[b]) else s)/\Qu s (if(s.fA k).length<64 then s.fR k (s.fA k++[b]) else s);split
  .rename_i J;refine⟨h.fR k _ ⟨ey,λx Y=>?_⟩,rfl,rfl,rfl,rfl,[],kh gY⟩;grind[F.fN.bt]
  grind[Qu.refl]
theorem oj{p:dH}:∀(l:List (Int×Nat)) {s:Pl},(∀x,x∈l->x.2<256)->Ok p s->Ok p (s.fg l)/\Qu s (s.fg l)
 | [],s,_,h=>⟨h,Qu.refl s⟩
 | x :: l,s,hl,h=>by
  have e:Ok p (s.recv x)/\Qu s (s.recv x):=by
   unfold Pl.recv;split
   .grind[yZ]
   exact⟨h,Qu.refl s⟩
  let⟨k1,k2⟩:=oj l (λy i=>hl y<|by simp[i]) e.1;exact⟨k1,e.2.trans k2⟩
def Pl.gw(s:Pl)(c:Int):Pl:={s with clk:=c}
def fN.gw{X:Nat->Prop}(h:fN p s X){c:Int}(i:0<=c)(e:c<=9223372036854775807):fN p (s.gw c) X:=
 {lw:=h.lw.same rfl rfl (λ_=>rfl),ww:=h.ww,nd:=h.nd,lt:=h.lt,ql:=h.ql,lf:=h.lf,rn:=h.rn,ol:=h.ol,ok:=h.ok,kn:=h.kn,kz:=h.kz,fw:=h.fw,hl:=h.hl,fc:=h.fc,bt:=h.bt,c0:=i,c1:=e}
def Pl.jh(p:dH)(s:Pl):Pl:=s.vU<|B.work (B.xH<|eH p s) (eH p s).length s.M p.n p.wk s.kd
def Pl.nC(s:Pl):Pl:={s with ev:=[]}
def jX(p:dH)(s:Pl)(ticks:Int)(l:List (Int×Nat))(s':Pl):Prop:=
 if((s.gw<|B.iL s.clk ticks).fg l).lv≠[]/\((s.gw<|B.iL s.clk ticks).fg l).sp=false then
  ∃s1,iH p (((s.gw<|B.iL s.clk ticks).fg l).iC<|((s.gw<|B.iL s.clk ticks).fg l).q 3 0) s1/\s'=s1.jh p
 else s'=(s.gw<|B.iL s.clk ticks).fg l
end F
namespace D
open F
variable {v:B.V}{ρ:Nat->Nat}
structure PD(p:dH) (d:Dp):Prop where
 n:d.n=p.n
 qn:d.qn=p.qn
 wk:d.wk=p.wk
 mt:d.mt=p.mt
 nf:d.nf=p.nf
 len:∀f,f<p.nf->d.len f=p.len f
 rg:∀f,f<p.nf->d.rg f=p.rg f
 ins:∀f i,f<p.nf->i<p.len f->d.ins f i=p.ins f i
def tr(ρ:Nat->Nat)(v:B.V):B.V:=if v.1=0 then v else(ρ v.1,0)
structure FS(p:dH) (ρ:Nat->Nat) (i:Nat) (a b:jq):Prop where
 f:b.f=a.f
 nx:b.nx=a.nx
 bk:i≠0->b.bk.2.1=a.bk.2.1
 R:∀k,k<p.rg a.f->b.R k=tr ρ (a.R k)
structure HS(a:qY) (b:Dt):Prop where
 h0:a.wh=none->b.how=1
 h2:∀y,a.wh=some (2,y)->b.how=1
 h3:∀y,a.wh=some (3,y)->b.how=2/\b.me=a.iT
 h4:∀k,a.wh=some (4,k)->b.how=3/\b.what=k/\∃i,a.lf=some i/\b.into=(i.2.1:Int)
 h5:∀k,a.wh=some (5,k)->b.how=4/\b.what=k/\∃i,a.lf=some i/\b.into=(i.2.1:Int)
structure TS(p:dH) (ρ:Nat->Nat) (a:qY) (b:Dt):Prop where
 l:b.fr.length=a.fr.length
 f:∀i,i<a.fr.length->FS p ρ i (a.fr.getD i oD) (b.fr.getD i oD)
 o:b.out=(0,0)
 h:HS a b
structure CS(N:Nat->List B.V) (ck:Nat->Nat) (nc:Nat) (M':Nat->List B.V) (ck':Nat->Nat) (ρ:Nat->Nat) (c:Nat):Prop where
 c1:1<=ρ c
 c2:ρ c<=nc
 M:M' (ρ c)=(N c).map (tr ρ)
 k:ck' (ρ c)=ck c
 f:ck c≠0->N c≠[]
 l:(N c).length<=8
def DK(m:Dm)(x a b:Nat):Prop:=if x=3 then(m.T a).me<(m.T b).me\/((m.T a).me=(m.T b).me/\(m.T a).jI<(m.T b).jI) else(m.T a).jI<(m.T b).jI
def po(s:Pl)(t:Nat):B.V:=s.out.getD (t-1) (0,0)
abbrev qy(p:dH)(s:Pl)(c:Nat):Prop:=B.nz (eH p s) s.M c
def GA(G:Dc)(n:Nat):Prop:=G.all=n/\G.sure<=n/\G.kL<=n
structure eF(p:dH) (K:Nat) (s:Pl) (m:Dm) (ρ:Nat->Nat):Prop where
 nt:m.nt=s.nt
 q:m.q=s.q 2 0
 yw:m.fA=s.fA
 sp:m.sp=s.sp
 ev:m.ev=s.ev
 ck:m.clk=s.clk
 T:∀t,t∈s.lv->TS p ρ (s.T t) (m.T t)
 O:∀t,ft s t->t∉s.lv->(m.T t).how=5/\(m.T t).fr=[]/\(m.T t).out=tr ρ (po s t)
 C:∀c,qy p s c->CS s.M s.ck m.nc m.M m.ck ρ c
 I:∀c c',qy p s c->qy p s c'->ρ c=ρ c'->c=c'
 Kp:∀v,v∈s.kp->∃t,ft s t/\t∉s.lv/\po s t=v
 L:∀x y,fQ s x y->x≠2->(s.q x y).Pairwise (DK m x)
 N:∀t,t∈s.lv->(m.T t).jI<=m.jI
 A:GA m.G m.nc
 lm:s.lv.length<=p.mt
 B:m.nc<=K/\m.jI<=K
 U:Nm p.n K s.kd s.M m.G/\(m.sp=true->m.G.fu=true)
theorem pA(x:Int):tr ρ (0,x)=(0,x):=bf rfl
theorem oN(h:v.1=0):tr ρ v=v:=bf h
theorem rk(h:v.1≠0):tr ρ v=(ρ v.1,0):=av h
end D
namespace D
open F
variable {p:dH}{K K':Nat}{s s':Pl}{m m':Dm}{ρ:Nat->Nat}{X:Nat->Prop}
theorem qy.sub(u:s'.M=s.M)(i:∀v,tw p s' v->dV p s v){c:Nat}(e:qy p s' c):qy p s c:=by
 unfold qy at e;rw[u]at e;exact B.uQ (λv o=>i v<|iD.1 o) e
theorem eF.cells(h:eF p K s m ρ)(i:s'.M=s.M)(y:s'.ck=s.ck)(u:∀v,tw p s' v->dV p s v)(e:m'.nc=m.nc/\m'.M=m.M/\m'.ck=m.ck):(∀c,qy p s' c->CS s'.M s'.ck m'.nc m'.M m'.ck ρ c)/\∀c o,qy p s' c->qy p s' o->ρ c=ρ o->c=o:=
 ⟨λc k=>by
  grind[qy.sub,D.eF.C],λc o k W=>h.I c o (qy.sub i u k)<|qy.sub i u W⟩
theorem Kg{t:Nat}(Z:∀u,u∈s'.lv->u∈s.lv)(W:s'.kp=s.kp)(J:∀u,u≠t->s'.T u=s.T u)(ht:t∈s'.lv->∀i,i<(s'.T t).fr.length->∀a,a<p.rg (du s' t i).f->dV p s ((du s' t i).R a)):∀v,tw p s' v->dV p s v:=by
 rintro v (⟨u,i,a,G,hi,o,e⟩|H)
 .by_cases y:u=t
  .grind
  have Y:du s' u i=du s u i:=gK ey;rw[Y]at o e;rw[J u y]at hi;exact dV.root<|ag ⟨u,i,a,Z u G,hi,o,e⟩
 rw[W]at H;exact dV.root<|ak H
theorem eF.eE{t:Nat}(h:eF p K s m ρ)(a0:t∈s.lv)(e:s'.nt=s.nt/\s'.lv=s.lv/\s'.out=s.out/\s'.kp=s.kp/\s'.M=s.M/\s'.ck=s.ck/\s'.kd=s.kd)(e':m'.nt=m.nt/\m'.nc=m.nc/\m'.M=m.M/\m'.ck=m.ck/\m'.G=m.G)(hs:∀u,u≠t->s'.T u=s.T u)(hm:∀u,u≠t->m'.T u=m.T u)(ht:TS p ρ (s'.T t) (m'.T t))(hg:∀i,i<(s'.T t).fr.length->∀a,a<p.rg (du s' t i).f->dV p s ((du s' t i).R a))(hq:m'.q=s'.q 2 0)(hb:m'.fA=s'.fA)(Y:m'.sp=s'.sp)(a1:m'.ev=s'.ev)(Z:m'.clk=s'.clk)(hL:∀x y,fQ s x y->x≠2->(s'.q x y).Pairwise (DK m' x))(hN:(m'.T t).jI<=m'.jI/\m.jI<=m'.jI)(hK:K<=K'/\m'.jI<=K')(hU:m'.sp=true->m.G.fu=true):eF p K' s' m' ρ:=by
 obtain⟨W,J,e3,e4,e5,e6,e7⟩:=e;obtain⟨f1,f2,f3,f4,f5⟩:=e';have ho:∀u,po s' u=po s u:=λu=>by grind[po]
 let⟨k1,k2⟩:=h.cells (m':=m') e5 e6 (Kg (p:=p) (λu H=>by grind) e4 hs<|λ_=>hg) ⟨f2,f3,f4⟩;refine⟨by rw[f1,W];exact h.nt,hq,hb,Y,a1,Z,λu H=>?_,λu H hn=>?_,k1,k2,λv hv=>?_,λx y hl hx=>hL x y ((gJ W).1 hl) hx,λu H=>?_,by rw[f5,f2];exact h.A,eZ J h.lm,⟨by rw[f2];exact dQ h.B.1 hK.1,hK.2⟩,by rw[e5,e7,f5];exact⟨h.U.1.mono hK.1,hU⟩⟩
 .grind[D.eF.T]
 .grind[eB,D.eF.O]
 .grind[eB,D.eF.Kp]
 grind[Nat.le_trans,D.eF.N]
theorem vP{x:Nat}{l:List Nat}(u:l.Pairwise (DK m x))(h:∀a,a∈l->(m'.T a).me=(m.T a).me/\(m'.T a).jI=(m.T a).jI):l.Pairwise (DK m' x):=by
 grind[List.Pairwise.imp_of_mem,DK]
def eF.L0(h:eF p K s m ρ)(e:s'.q=s.q)(i:∀a,(m'.T a).me=(m.T a).me/\(m'.T a).jI=(m.T a).jI):∀x y,fQ s x y->x≠2->(s'.q x y).Pairwise (DK m' x):=λx y o u=>by
 rw[e];exact vP (h.L x y o u)<|λa _=>i a
theorem E6(s:Pl)(t x y:Nat):((s.dA t).q x y).Sublist (s.q x y):=by
 cases hw:(s.T t).wh with
 |none=>grind[fG]
 |some i=>
  rw[gP (x:=i.1) (y:=i.2) hw];show((s.fI i.1 i.2<|(s.q i.1 i.2).erase t).q x y).Sublist _;grind[gM,List.erase_sublist,gf]
theorem zn{t x y a:Nat}(u:LW s)(ht:ft s t)(o:fQ s x y)(i:a∈(s.dA t).q x y):a≠t:=λe=>by
 subst e;have:=((u.dA ht).b x y ((gJ<|gl s a).2 o) a i).2;grind[kD]
theorem eF.GQ{t:Nat}(h:eF p K s m ρ)(G:LW s)(ht:ft s t)(o:∀u,u≠t->m'.T u=m.T u)(x y:Nat)(e:fQ s x y)(hx:x≠2):((s.dA t).q x y).Pairwise (DK m' x):=
 vP ((h.L x y e hx).sublist<|E6 s t x y) (λa i=>by grind[zn])
theorem Rn.jm{t:Nat}(e:t∈s.lv)(i:Nat)(hi:i<(s.T t).fr.length)(a:Nat)(o:a<p.rg (du s t i).f):dV p s ((du s t i).R a):=dV.root<|ag ⟨t,i,a,e,hi,o,rfl⟩
theorem HS.same{a u:qY}{b i:Dt}(h:HS a b)(o:u.wh=a.wh)(J:u.lf=a.lf)(W:u.iT=a.iT)(e:i.how=b.how)(G:i.what=b.what)(H:i.into=b.into)(Y:i.me=b.me):HS u i:=
 ⟨λk=>by grind[D.HS.h0],λy k=>by grind[D.HS.h2],λy k=>by grind[D.HS.h3],λy k=>by grind[D.HS.h4],λy k=>by grind[D.HS.h5]⟩
theorem eF.dM(h:eF p K s m ρ){t i:Nat}{f J:jq}(H:t∈s.lv)(hi:i<(s.T t).fr.length)(hf:FS p ρ i f J)(hg:f.f=(du s t i).f)(hR:∀a,a<p.rg f.f->dV p s (f.R a)):eF p K (s.dM t i f) (m.dM t i J) ρ:=by
 have Y:=h.T t H;have e1:(s.dM t i f).T t={s.T t with fr:=(s.T t).fr.set i f}:=dk _ _ _;have W:(m.dM t i J).T t=(m.T t).mR ((m.T t).fr.set i J):=gn _ _ _;refine h.eE H ⟨rfl,rfl,rfl,rfl,rfl,rfl,rfl⟩ ⟨rfl,rfl,rfl,rfl,rfl⟩ (λu e=>qO s f e) (λu e=>fZ _ _ e) ⟨?_,λj Z=>?_,?_,?_⟩ (λj Z a ha=>?_) h.q h.yw h.sp h.ev h.ck (h.L0 rfl (λa=>?_)) ⟨?_,bm _⟩ ⟨bm _,h.B.2⟩ h.U.2
 .rw[e1,W];show((m.T t).fr.set i J).length=((s.T t).fr.set i f).length;grind[List.length_set,D.TS.l]
 .rw[e1]at Z⊢;rw[W];have y:j<((s.T t).fr.set i f).length:=Z;rw[eC]at y;show FS p ρ j (((s.T t).fr.set i f).getD j oD) (((m.T t).fr.set i J).getD j oD);rw[nj hi,nj<|eZ Y.l hi];by_cases e:j=i
  .grind
  rw[av e,av e];exact Y.f j y
 .rw[W];exact Y.o
 .rw[e1,W];exact Y.h.same rfl rfl rfl rfl rfl rfl rfl
 .rw[e1]at Z;have y:j<((s.T t).fr.set i f).length:=Z;rw[eC]at y;by_cases e:j=i
  .grind[mJ]
  rw[mi s f<|λe'=>e e'.2]at ha⊢;grind[Rn.jm]
 .by_cases e:a=t
  .subst e;rw[W];exact⟨rfl,rfl⟩
  rw[show(m.dM t i J).T a=m.T a from fZ _ _ e];omega
 rw[W];exact h.N t H
theorem eF.oZ(h:eF p K s m ρ){t:Nat}(i:t∈s.lv)(hn:(s.T t).fr≠[])(a:Nat){v:B.V}(J:dV p s v):eF p K (s.dM t (de s t)<|(bz s t).set a v) (m.dM t (qE m t)<|(qz m t).set a<|tr ρ v) ρ:=by
 have G:=h.T t i;have hi:de s t<(s.T t).fr.length:=by
  have:(s.T t).fr.length≠0:=λe=>hn<|dh.1 e;unfold de;omega
 have e:qE m t=de s t:=by unfold qE de;rw[G.l]
 have H:qz m t=fX m t (de s t):=by unfold qz;rw[e]
 have u:=G.f _ hi;rw[e,H];refine h.dM i hi ⟨u.f,u.nx,u.bk,λk y=>?_⟩ rfl (λk y=>?_)
 .show B.set (fX m t<|de s t).R a (tr ρ v) k=tr ρ (B.set (du s t<|de s t).R a v k);by_cases o:k=a
  .grind[B.jZ]
  rw[B.jl _ _ _ _ o,B.jl _ _ _ _ o];exact u.R k y
 show dV p s (B.set (du s t<|de s t).R a v k);by_cases o:k=a
 .grind[B.jZ]
 rw[B.jl _ _ _ _ o];exact Rn.jm i _ hi k y
theorem eF.nx(h:eF p K s m ρ){t:Nat}(i:t∈s.lv)(hn:(s.T t).fr≠[])(a:Nat):eF p K (s.dM t (de s t) {bz s t with nx:=a}) (m.dM t (qE m t) {qz m t with nx:=a}) ρ:=by
 have u:=h.T t i;have hi:de s t<(s.T t).fr.length:=by
  have:(s.T t).fr.length≠0:=λe=>hn<|dh.1 e;unfold de;omega
 have e:qE m t=de s t:=by unfold qE de;rw[u.l]
 have G:qz m t=fX m t (de s t):=by unfold qz;rw[e]
 have o:=u.f _ hi;rw[e,G];exact h.dM i hi ⟨o.f,rfl,o.bk,o.R⟩ rfl (λk y=>Rn.jm i _ hi k y)
theorem eF.told(h:eF p K s m ρ)(kind t:Nat)(x:Int):eF p K (s.told kind t x) (m.told kind t x) ρ:=
 {h with ev:=by show m.ev++_=s.ev++_;rw[h.ev]}
def eF.gw(h:eF p K s m ρ)(c:Int):eF p K (s.gw c) (m.gw c) ρ:={h with ck:=rfl}
def eF.vU(h:eF p K s m ρ)(kd:B.Kd)(e:Nm p.n K kd s.M m.G):eF p K (s.vU kd) m ρ:={h with U:=⟨e,h.U.2⟩}
theorem eF.fR(h:eF p K s m ρ)(k:Nat)(l:List Nat):eF p K (s.fR k l) (m.fR k l) ρ:={h with yw:=by show(λi=>if i=k then l else m.fA i)=(λi=>if i=k then l else s.fA i);rw[h.yw]}
theorem eF.mono(h:eF p K s m ρ)(hK:K<=K'):eF p K' s m ρ:={h with B:=⟨dQ h.B.1 hK,dQ h.B.2 hK⟩,U:=⟨h.U.1.mono hK,h.U.2⟩}
theorem eF.join(h:eF p K s m ρ){t:Nat}(hO:fN p s X)(H:t∈s.lv)(hw:(s.T t).wh≠some (2,0)){x:Dt}(Y:x.fr=(m.T t).fr/\x.out=(m.T t).out/\x.jI=(m.T t).jI/\x.how=1):eF p K (s.dX 2 0 t) ((m.dy t x).tv t) ρ:=by
 have hT:=h.T t H;have W:((m.dy t x).tv t).T t=x:=gn _ _ _;have e1:=kr s 2 0 t;have J:((s.dX 2 0 t).T t).fr=(s.T t).fr:=by rw[e1];exact kE s t t
 let⟨j1,j2,j3,j4,j5,j6,j7,j8,j9,a0⟩:=ja s 2 0 t;have hf:∀i,du (s.dX 2 0 t) t i=du s t i:=λi=>gK J;refine h.eE H ⟨iO s 2 0 t,j1,j2,j3,j7,j8,j6⟩ ⟨rfl,rfl,rfl,rfl,rfl⟩ (λu e=>nM s e) (λu e=>fZ _ _ e) ⟨?_,λj Z=>?_,?_,?_⟩ (λj Z a ha=>?_) ?_ ?_ ?_ ?_ ?_ (λa b hl hx=>?_) ⟨?_,bm _⟩ ⟨bm _,h.B.2⟩ h.U.2
 .rw[J,W,Y.1];exact hT.l
 .grind[D.TS.f]
 .rw[W,Y.2.1];exact hT.o
 .rw[e1,W];refine⟨λe=>(by cases e),λy _=>Y.2.2.2,λy e=>?_,λy e=>?_,λy e=>?_⟩ <;>
  .injection e with e;grind
 .rw[J]at Z;rw[hf]at ha⊢;grind[Rn.jm]
 .show m.q++[t]=_;rw[ox hw,h.q]
 .show m.fA=_;rw[j4];exact h.yw
 .show m.sp=_;rw[a0];exact h.sp
 .show m.ev=_;rw[j9];exact h.ev
 .show m.clk=_;rw[j5];exact h.ck
 .have hq:(s.dX 2 0 t).q a b=(s.dA t).q a b:=gf _ _<|λe=>hx e.1;rw[hq];exact h.GQ hO.lw (hO.lt t H) (λu e=>fZ _ _ e) a b hl hx
 rw[W,Y.2.2.1];exact h.N t H
theorem eF.gk(h:eF p K s m ρ){t:Nat}(o:fN p s X)(i:t∈s.lv)(hX:X t){k:vV}(W:(s.T t).lf=some k)(hi:(m.T t).into=(k.2.1:Int)){v:B.V}(J:dV p s v):eF p K (s.gk t v) (m.ready t<|tr ρ v) ρ:=by
 let⟨x,y,hw,a0⟩:=o.lf t (o.lt t i) ey;have hn:=(o.fw t i hX).n1;have G:de s t<(s.T t).fr.length:=by
  have:(s.T t).fr.length≠0:=λe=>hn<|dh.1 e;unfold de;omega
 have H:(m.dM t (qE m t)<|(qz m t).set k.2.1<|tr ρ v).T t=(m.T t).mR ((m.T t).fr.set (qE m t)<|(qz m t).set k.2.1<|tr ρ v):=gn _ _ _;rw[qd v W];have Y:m.ready t (tr ρ v)=((m.dM t (qE m t)<|(qz m t).set k.2.1<|tr ρ v).dy t<|((m.T t).hw 1).mR<|(m.T t).fr.set (qE m t)<|(qz m t).set k.2.1<|tr ρ v).tv t:=by
  unfold Dm.ready;rw[hi,mL,lC];unfold Dm.dM;rw[kj];show((m.vZ t).dy t<|(((m.dy t<|(m.T t).hw 1).T t)).mR<|(((m.dy t<|(m.T t).hw 1).T t)).fr.set _ _)=_;rw[gn];show(((m.dy t<|(m.T t).hw 1).dy t _).tv t)=_;rw[kj];rfl
 rw[Y];exact(h.oZ i hn k.2.1 J).join (t:=t) (x:=((m.T t).hw 1).mR<|(m.T t).fr.set (qE m t)<|(qz m t).set k.2.1<|tr ρ v) (o.oZ i hX G k.2.1 J) i (by grind[gO]) ⟨kh H,kh H,kh H,rfl⟩
theorem eF.Of(h:eF p K s m ρ){t:Nat}(u:fN p s X)(i:t∈s.lv)(hw:(s.T t).wh≠some (2,0)){x:Dt}(o:x={m.T t with into:=-1})(v:B.V):eF p K (s.dX 2 0 t) ((m.dy t x).ready t v) ρ:=by
 subst o;have e:(m.dy t {m.T t with into:=-1}).ready t v=(m.dy t<|({m.T t with into:=-1}:Dt).hw 1).tv t:=by
  unfold Dm.ready;rw[gn,av ey];unfold Dm.vZ;rw[gn,kj]
 rw[e];exact h.join u i hw ⟨rfl,rfl,rfl,rfl⟩
theorem eF.wait(h:eF p K s m ρ){x y t:Nat}{k:vV}(Z:fN p s X)(W:t∈s.lv)(hw:(s.T t).wh=none)(hl:fQ s x y)(hx:x=4\/x=5):eF p (K+1) (s.wait x y t k) (m.wait t (x-1) y (k.2.1:Int)) ρ:=by
 have hT:=h.T t W;have ht:=Z.lt t W;have J:(m.wait t (x-1) y (k.2.1:Int)).T t=(m.T t).wt (x-1) y (k.2.1:Int) (m.jI+1):=gn _ _ _;have e1:(s.wait x y t k).T t=(((s.dA t).T t).to x y).kR k:=by
  show((s.dX x y t).dy t _).T t=_;rw[dk,kr]
 have H:((s.wait x y t k).T t).fr=(s.T t).fr:=by rw[e1];exact kE s t t
 let⟨j1,j2,j3,j4,j5,j6,j7,j8,j9,a4⟩:=ja s x y t;have hf:∀i,du (s.wait x y t k) t i=du s t i:=λi=>gK H;have hm:∀u,u≠t->(m.wait t (x-1) y (k.2.1:Int)).T u=m.T u:=λu e=>fZ _ _ e;have a1:∀a b,(s.wait x y t k).q a b=if a=x/\b=y then(s.dA t).q x y++[t] else(s.dA t).q a b:=λa b=>rfl
 refine h.eE W ⟨iO s x y t,j1,j2,j3,j7,j8,j6⟩ ⟨rfl,rfl,rfl,rfl,rfl⟩ (λu e=>(dU _ _ e).trans<|nM s e) hm ⟨?_,λj hj=>?_,?_,?_⟩ (λj hj a ha=>?_) ?_ ?_ ?_ ?_ ?_ (λa b Y a0=>?_) ⟨?_,Nat.le_succ _⟩ ⟨Nat.le_succ _,Nat.succ_le_succ h.B.2⟩ h.U.2
 .rw[H,J];exact hT.l
 .rw[H,J];rw[H]at hj;exact hT.f j hj
 .rw[J];exact hT.o
 .rw[e1,J];refine⟨λe=>(by cases e),λz e=>?_,λz e=>?_,λz e=>?_,λz e=>?_⟩
  .injection e with e;grind
  .injection e with e;grind
  .injection e with e;injection e with e1 J
   exact⟨by show x-1=3;omega,J,k,rfl,rfl⟩
  injection e with e;injection e with e1 J
  exact⟨by show x-1=4;omega,J,k,rfl,rfl⟩
 .rw[H]at hj;rw[hf]at ha⊢;grind[Rn.jm]
 .show m.q=_;rw[a1,eK,fG hw];exact h.q
 .show m.fA=(s.dX x y t).fA;rw[j4];exact h.yw
 .show m.sp=(s.dX x y t).sp;rw[a4];exact h.sp
 .show m.ev=(s.dX x y t).ev;rw[j9];exact h.ev
 .show m.clk=(s.dX x y t).clk;rw[j5];exact h.ck
 .rw[a1];by_cases e:a=x/\b=y
  .obtain⟨rfl,rfl⟩:=e;rw[bf ⟨rfl,rfl⟩,List.pairwise_append];refine⟨h.GQ Z.lw ht hm a b Y a0,List.pairwise_singleton _ _,λc hc c' a3=>?_⟩;rw[gd.1 a3];unfold DK;rw[eK,hm c<|zn Z.lw ht Y hc,J];exact Nat.lt_succ_of_le<|h.N c<|Z.ql a b Y c<|pJ hc
  rw[av e];exact h.GQ Z.lw ht hm a b Y a0
 rw[J];exact bm _
theorem uI{R:Nat->Nat->Prop}{q:Nat->Bool}{t:Nat}:∀(l:List Nat),l.Pairwise R->(∀a,a∈l->q a=false->R a t)->(∀a,a∈l->q a=true->R t a)->(∀a b,a∈l->b∈l->R a b->q a=true->q b=true)->(l.take (l.findIdx q)++t :: l.drop (l.findIdx q)).Pairwise R
 | [],_,_,_,_=>by simp
 | a :: l,h,h1,h2,h3=>by
  rw[List.pairwise_cons]at h
  cases e:q a with
  |true=>
   grind[List.pairwise_cons]
  |false=>
   rw[List.findIdx_cons,e];show(a :: (l.take (l.findIdx q)++t :: l.drop (l.findIdx q))).Pairwise R;rw[List.pairwise_cons];refine⟨λb i=>?_,uI l h.2 (λb i=>h1 b<|by simp[i]) (λb i=>h2 b<|by simp[i])<|λb c i o=>h3 b c (by simp[i])<|by simp[o]⟩;grind
theorem eF.iw(h:eF p K s m ρ){t:Nat}{u:Int}{x:Dt}(hO:fN p s X)(a0:t∈s.lv)(hw:(s.T t).wh=none)(ex:x={(m.T t).wt 2 0 (-1) (m.jI+1) with me:=u}):eF p (K+1) (s.iw t u) ((m.wait t 2 0<|-1).dy t x) ρ:=by
 have hT:=h.T t a0;have ht:=hO.lt t a0;have e2:((m.wait t 2 0<|-1).dy t x).T t=x:=gn _ _ _
 have a6:(s.fO t u).T t=(s.T t).tl u:=dk _ _ _;have Z:s.iw t u=(s.fO t u).pa 3 0 t ((s.q 3 0).take (CZ (s.fO t u) u)++t :: (s.q 3 0).drop (CZ (s.fO t u) u)):=by
  unfold Pl.iw Pl.into;rw[fG<|by grind[mV]]
 have e1:(s.iw t u).T t=((s.T t).tl u).to 3 0:=by
  rw[Z];show((Pl.fI _ 3 0 _).dy t _).T t=_;rw[dk,a6]
 have hs:∀a,a≠t->(s.iw t u).T a=s.T a:=λa e=>by
  rw[Z];show((Pl.fI _ 3 0 _).dy t _).T a=_;rw[dU _ _ e];exact dU _ _ e
 have W:((s.iw t u).T t).fr=(s.T t).fr:=kh e1
 have hf:∀i,du (s.iw t u) t i=du s t i:=λi=>gK W;have hm:∀a,a≠t->((m.wait t 2 0<|-1).dy t x).T a=m.T a:=λa e=>(fZ _ _ e).trans<|fZ _ _ e;have a4:∀a b,(s.iw t u).q a b=if a=3/\b=0 then(s.q 3 0).take (CZ (s.fO t u) u)++t :: (s.q 3 0).drop (CZ (s.fO t u) u) else s.q a b:=λa b=>by rw[Z];rfl
 have aC:(s.iw t u).nt=s.nt/\(s.iw t u).lv=s.lv/\(s.iw t u).out=s.out/\(s.iw t u).kp=s.kp/\(s.iw t u).M=s.M/\(s.iw t u).ck=s.ck/\(s.iw t u).fA=s.fA/\(s.iw t u).sp=s.sp/\(s.iw t u).ev=s.ev/\(s.iw t u).clk=s.clk/\(s.iw t u).kd=s.kd:=by rw[Z];exact⟨rfl,rfl,rfl,rfl,rfl,rfl,rfl,rfl,rfl,rfl,rfl⟩
 obtain⟨s1,s2,s3,s4,s5,s6,s7,s8,s9,a9,a7⟩:=aC;have H:∀a b,fQ s a b->∀c,c∈s.q a b->c≠t:=λa b hl c J e=>by
  subst e;have:=(hO.lw.b a b hl c J).2;grind
 refine h.eE a0 ⟨s1,s2,s3,s4,s5,s6,a7⟩ ⟨rfl,rfl,rfl,rfl,rfl⟩ hs hm ⟨?_,λj hj=>?_,?_,?_⟩ (λj hj a ha=>?_) ?_ ?_ ?_ ?_ ?_ (λa b y a3=>?_) ⟨?_,Nat.le_succ _⟩ ⟨Nat.le_succ _,Nat.succ_le_succ h.B.2⟩ h.U.2
 .rw[W,e2,ex];exact hT.l
 .rw[W,e2,ex];rw[W]at hj;exact hT.f j hj
 .rw[e2,ex];exact hT.o
 .rw[e1,e2,ex];refine⟨λe=>(by cases e),λz e=>?_,λz e=>⟨rfl,rfl⟩,λz e=>?_,λz e=>?_⟩ <;>
  .injection e with e;grind
 .rw[W]at hj;rw[hf]at ha⊢;grind[Rn.jm]
 .show m.q=_;rw[a4,av eo];exact h.q
 .rw[s7];exact h.yw
 .rw[s8];exact h.sp
 .rw[s9];exact h.ev
 .rw[a9];exact h.ck
 .rw[a4];have a2:=λa b hl hx=>vP (h.L a b hl hx) (λc J=>by rw[hm c<|H a b hl c J];omega);by_cases e:a=3/\b=0
  .obtain⟨rfl,rfl⟩:=e;rw[bf ⟨rfl,rfl⟩];have hp:CZ (s.fO t u) u=(s.q 3 0).findIdx (λa=>decide (u<(m.T a).me)):=by
    show(s.q 3 0).findIdx (λa=>decide (u<((s.fO t u).T a).iT))=_;refine ns _<|λc J=>?_;have Y:=H 3 0 y c J;show decide (u<((s.dy t _).T c).iT)=_;rw[dU _ _ Y,((h.T c<|hO.ql 3 0 y c J).h.h3 0<|(hO.lw.b 3 0 y c J).2).2]
   rw[hp];refine uI _ (a2 3 0 y a3) (λc J hq=>?_) (λc J hq=>?_)<|λc c' J aB a5 hq=>?_
   .have Y:=H 3 0 y c J;have a1:=of_decide_eq_false hq;unfold DK;rw[bf rfl,hm c Y,e2,ex];show(m.T c).me<u\/((m.T c).me=u/\(m.T c).jI<m.jI+1);grind[D.eF.N,F.fN.ql]
   .have Y:=H 3 0 y c J;have a1:=eQ hq;unfold DK;rw[bf rfl,hm c Y,e2,ex];exact ag a1
   have a1:=eQ hq;unfold DK at a5;rw[bf rfl,hm c<|H 3 0 y c J,hm c'<|H 3 0 y c' aB]at a5;exact fy af
  rw[av e];exact a2 a b y a3
 rw[e2,ex];exact bm _
theorem eF.start(h:eF p K s m ρ){t:Nat}{l:List Nat}(Z:fN p s X)(y:t∈s.lv)(hq:s.q 2 0=t :: l):eF p K (s.start t) (m.fI l) ρ:=by
 have W:=h.T t y;have hw:=(Z.lw.b 2 0 (ag ⟨rfl,rfl⟩) t ey).2;have e1:(s.start t).T t={(s.dA t).T t with run:=true}:=dk _ _ _;have H:((s.start t).T t).fr=(s.T t).fr:=by rw[e1];exact kE s t t
 have hf:∀i,du (s.start t) t i=du s t i:=λi=>gK H;let⟨j1,j2,j3,j4,j5,j6,j7,j8,j9,a2⟩:=gI s t;refine h.eE y ⟨gl s t,j1,j2,j3,j9,a2,j8⟩ ⟨rfl,rfl,rfl,rfl,rfl⟩ (λu e=>(dU _ _ e).trans<|uW s e) (λ_ _=>rfl) ⟨?_,λj J=>?_,W.o,?_⟩ (λj J a ha=>?_) ?_ ?_ ?_ ?_ ?_ (λa b a3 a0=>?_) ⟨h.N t y,bm _⟩ ⟨bm _,h.B.2⟩ h.U.2
 .rw[H];exact W.l
 .rw[H]at J⊢;exact W.f j J
 .have a1:((s.start t).T t).wh=none:=by rw[e1];exact kD s t
  refine⟨λ_=>W.h.h2 0 hw,λz e=>?_,λz e=>?_,λz e=>?_,λz e=>?_⟩ <;>
  .grind
 .rw[H]at J;rw[hf]at ha⊢;grind[Rn.jm]
 .show l=(s.dA t).q 2 0;rw[gP hw];show _=(s.fI 2 0<|(s.q 2 0).erase t).q 2 0;grind[gM]
 .show m.fA=(s.dA t).fA;rw[j5];exact h.yw
 .show m.sp=(s.dA t).sp;rw[j6];exact h.sp
 .show m.ev=(s.dA t).ev;rw[j4];exact h.ev
 .show m.clk=(s.dA t).clk;rw[j7];exact h.ck
 show((s.dA t).q a b).Pairwise _;exact h.GQ Z.lw (Z.lt t y) (λ_ _=>rfl) a b a3 a0
theorem zo{t:Nat}(y:LW s)(ht:ft s t):(s.q 2 0).filter (λu=>decide (u≠t))=(s.dA t).q 2 0:=by
 have o:fQ s 2 0:=ag ⟨rfl,rfl⟩;by_cases hw:(s.T t).wh=some (2,0)
 .rw[gP hw];show _=(s.fI 2 0<|(s.q 2 0).erase t).q 2 0;rw[gM,(y.c 2 0 o).erase_eq_filter];grind
 grind[sZ,List.filter_eq_self,F.LW.b]
theorem eF.Jz(h:eF p K s m ρ){t kind:Nat}{x:Int}{v:B.V}(hO:fN p s X)(Z:t∈s.lv)(hv:dV p s v)(hs:∀u,u≠t->s'.T u=s.T u)(hm:∀u,u≠t->m'.T u=m.T u)(e:s'.nt=s.nt/\s'.lv=s.lv.erase t/\s'.out=s.out.set (t-1) v/\s'.kp=ko s.kp v/\s'.M=s.M/\s'.ck=s.ck/\s'.kd=s.kd)(e1:s'.q=(s.dA t).q)(e2:s'.ev=s.ev++[(kind,t,x)])(e3:s'.fA=s.fA/\s'.sp=s.sp/\s'.clk=s.clk)(f:m'.nt=m.nt/\m'.nc=m.nc/\m'.M=m.M/\m'.ck=m.ck/\m'.G=m.G)(f1:m'.q=m.q.filter (λu=>decide (u≠t)))(f2:m'.ev=m.ev++[(kind,t,x)])(f3:m'.fA=m.fA/\m'.sp=m.sp/\m'.clk=m.clk)(f4:(m'.T t).how=5/\(m'.T t).fr=[]/\(m'.T t).out=tr ρ v)(f5:m'.jI=m.jI):eF p K s' m' ρ:=by
 obtain⟨a1,a2,a3,a4,a5,a6,a7⟩:=e;obtain⟨b1,b2,b3,b4,b5⟩:=f;have ht:=hO.lt t Z;have y:∀u,u∈s'.lv->u∈s.lv/\u≠t:=λu o=>by
  grind[F.fN.nd]
 have a8:∀u,ft s u->u≠t->po s' u=po s u:=λu o hn=>by
  unfold po;rw[a3,cw,List.getElem?_set_ne (by have:=o.1;have:=ht.1;omega),<-cw]
 have a0:po s' t=v:=by
  unfold po;rw[a3,cw,List.getElem?_set_self (by rw[hO.ol];have:=ht.1;have:=ht.2;omega)];rfl
 have hg:∀u,tw p s' u->dV p s u:=by
  rintro u (⟨c,i,a,W,hi,ha,e⟩|o)
  .let⟨W,J⟩:=y c W;have hf:du s' c i=du s c i:=gK ey;rw[hf]at ha e;rw[hs c J]at hi;exact dV.root<|ag ⟨c,i,a,W,hi,ha,e⟩
  rw[a4]at o;rcases qt o with o|⟨rfl,_⟩
  .exact dV.root<|ak o
  exact hv
 let⟨k1,k2⟩:=h.cells (m':=m') a5 a6 hg ⟨b2,b3,b4⟩;refine⟨by rw[b1,a1];exact h.nt,?_,by grind[D.eF.yw],by grind[D.eF.sp],by rw[f2,e2,h.ev],by grind[D.eF.ck],λu o=>?_,λu o hn=>?_,k1,k2,λu o=>?_,λa b hl hx=>?_,λu o=>?_,by rw[b5,b2];exact h.A,by rw[a2];exact dQ (List.erase_sublist.length_le) h.lm,by rw[b2,f5];exact h.B,by grind[D.eF.U]⟩
 .rw[f1,h.q,e1];grind[zo,F.fN.lw]
 .grind[D.eF.T]
 .grind[eB,D.eF.O]
 .rw[a4]at o;rcases qt o with o|⟨rfl,_⟩
  .let⟨c,c1,c2,c3⟩:=h.Kp u o;have J:c≠t:=λe=>c2<|e▸Z;exact⟨c,(eB a1).2 c1,λW=>c2 (y c W).1,by rw[a8 c c1 J];exact c3⟩
  exact⟨t,(eB a1).2 ht,λW=>(y t W).2 rfl,a0⟩
 .rw[e1];exact h.GQ hO.lw ht hm a b ((gJ a1).1 hl) hx
 let⟨o,H⟩:=y u o;rw[hm u H,f5];exact h.N u o
def eF.gone(h:eF p K s m ρ){t kind:Nat}{x:Int}{v:B.V}(hO:fN p s X)(y:t∈s.lv)(W:dV p s v):eF p K (s.gone t v kind x) (m.gone t kind x<|tr ρ v) ρ:=by
 let⟨g1,J,g3,Y,H,Z,g7,g8,g9,o⟩:=iX s t v kind x;exact h.Jz hO y W (λu e=>nW s v kind x e) (λu e=>fZ _ _ e) ⟨jU s t v kind x,g1,J,g3,g7,g8,Z⟩ o g9 ⟨Y,(gI s t).2.2.2.2.2.1,H⟩ ⟨rfl,rfl,rfl,rfl,rfl⟩ rfl rfl ⟨rfl,rfl,rfl⟩ (by show((m.dy t _).T t).how=_/\((m.dy t _).T t).fr=_/\((m.dy t _).T t).out=_;rw[gn];exact⟨rfl,rfl,rfl⟩) rfl
def eF.M5(h:eF p K s m ρ){t kind:Nat}{x:Int}{v:B.V}(hO:fN p s X)(y:t∈s.lv)(hw:(s.T t).wh=none)(W:dV p s v):eF p K ((s.pop t).gone t v kind x) ((m.pop t).gone t kind x<|tr ρ v) ρ:=by
 let⟨g1,J,g3,Y,H,Z,g7,g8,g9,o⟩:=iX s t v kind x;rw[rP hw];exact h.Jz hO y W (λu e=>(lV _ e).trans<|nW s v kind x e) (λu e=>(fZ _ _ e).trans<|fZ _ _ e) ⟨jU s t v kind x,g1,J,g3,g7,g8,Z⟩ o g9 ⟨Y,(gI s t).2.2.2.2.2.1,H⟩ ⟨rfl,rfl,rfl,rfl,rfl⟩ rfl rfl ⟨rfl,rfl,rfl⟩ (by show(((m.pop t).dy t _).T t).how=_/\(((m.pop t).dy t _).T t).fr=_/\(((m.pop t).dy t _).T t).out=_;rw[gn];exact⟨rfl,rfl,rfl⟩) rfl
theorem nY{l:List jq}{i:Nat}(h:i+1<l.length):l.dropLast.getD i oD=l.getD i oD:=by
 grind
theorem eF.back(h:eF p K s m ρ){t:Nat}{v:B.V}(i:t∈s.lv)(h0:de s t≠0)(hv:dV p s v):eF p K (s.back t v) ((m.pop t).dM t (qE m t-1)<|(fX m t<|qE m t-1).set (qz m t).bk.2.1<|tr ρ v) ρ:=by
 have y:=h.T t i;have e:qE m t=de s t:=by unfold qE de;rw[y.l]
 have hn:de s t+1=(s.T t).fr.length:=by unfold de at h0⊢;omega
 have a2:(qz m t).bk.2.1=(bz s t).bk.2.1:=by
  unfold qz;rw[e];exact(y.f (de s t) af).bk h0
 rw[e,a2];unfold Pl.back;rw[av h0];have e1:((s.pop t).dM t (de s t-1)<|(du s t<|de s t-1).set (du s t<|de s t).bk.2.1 v).T t={(s.T t).mR (s.T t).fr.dropLast with fr:=((s.T t).fr.dropLast).set (de s t-1) ((du s t<|de s t-1).set (du s t<|de s t).bk.2.1 v)}:=by
  unfold Pl.dM;rw[dk];unfold Pl.pop;rw[dk];rfl
 have W:((m.pop t).dM t (de s t-1)<|(fX m t<|de s t-1).set (bz s t).bk.2.1<|tr ρ v).T t=((m.T t).mR (m.T t).fr.dropLast).mR (((m.T t).fr.dropLast).set (de s t-1)<|(fX m t<|de s t-1).set (bz s t).bk.2.1<|tr ρ v):=by
  unfold Dm.dM;rw[gn];unfold Dm.pop;rw[gn];rfl
 refine h.eE i ⟨rfl,rfl,rfl,rfl,rfl,rfl,rfl⟩ ⟨rfl,rfl,rfl,rfl,rfl⟩ (λu e=>(qO _ _ e).trans<|lV _ e) (λu e=>(fZ _ _ e).trans<|fZ _ _ e) ⟨?_,λj Z=>?_,?_,?_⟩ (λj Z a ha=>?_) h.q h.yw h.sp h.ev h.ck (h.L0 rfl (λa=>?_)) ⟨?_,bm _⟩ ⟨bm _,h.B.2⟩ h.U.2
 .rw[e1,W];show(((m.T t).fr.dropLast).set _ _).length=(((s.T t).fr.dropLast).set _ _).length;grind[List.length_set,List.length_dropLast,D.TS.l]
 .rw[e1]at Z⊢;rw[W];have J:j<(((s.T t).fr.dropLast).set (de s t-1)<|(du s t<|de s t-1).set (du s t<|de s t).bk.2.1 v).length:=Z;rw[eC,eY]at J;show FS p ρ j ((((s.T t).fr.dropLast).set _ _).getD j oD) ((((m.T t).fr.dropLast).set _ _).getD j oD);rw[nj ey,nj (by rw[eY,y.l];omega)];by_cases H:j=de s t-1
  .rw[bf H,bf H,H];have hF:=y.f (de s t-1) af;refine⟨hF.f,hF.nx,hF.bk,λk hk=>?_⟩;show B.set (fX m t<|de s t-1).R _ (tr ρ v) k=tr ρ (B.set (du s t<|de s t-1).R _ v k);by_cases Y:k=(du s t<|de s t).bk.2.1
   .grind[B.jZ]
   rw[B.jl _ _ _ _ Y,B.jl _ _ _ _ Y];exact hF.R k hk
  rw[av H,av H,nY af,nY<|lD y.l];exact y.f j af
 .rw[W];exact y.o
 .rw[e1,W];exact y.h.same rfl rfl rfl rfl rfl rfl rfl
 .rw[e1]at Z;have J:j<(((s.T t).fr.dropLast).set (de s t-1)<|(du s t<|de s t-1).set (du s t<|de s t).bk.2.1 v).length:=Z;rw[eC,eY]at J
  by_cases H:j=de s t-1
  .subst H;rw[mJ (s.pop t) _<|by grind[ui]]at ha⊢;show dV p s (B.set (du s t<|de s t-1).R _ v a);by_cases Y:a=(du s t<|de s t).bk.2.1
   .grind[B.jZ]
   rw[B.jl _ _ _ _ Y];exact Rn.jm i _ af a ha
  rw[mi (s.pop t) _<|λe'=>H e'.2,qm s<|λ_=>by omega]at ha⊢;grind[Rn.jm]
 .by_cases ea:a=t
  .subst ea;rw[W];exact⟨rfl,rfl⟩
  rw[show((m.pop t).dM t (de s t-1)<|(fX m t<|de s t-1).set (bz s t).bk.2.1<|tr ρ v).T a=m.T a from(fZ _ _ ea).trans<|fZ _ _ ea];omega
 rw[W];exact h.N t i
theorem mQ{l:List jq}{f:jq}{i:Nat}:(l++[f]).getD i oD=if i=l.length then f else l.getD i oD:=by
 grind
theorem eF.push(h:eF p K s m ρ){t:Nat}{f H:jq}(y:t∈s.lv)(hf:FS p ρ (s.T t).fr.length f H)(hR:∀a,a<p.rg f.f->dV p s (f.R a)):eF p K (s.push t f) (m.push t H) ρ:=by
 have W:=h.T t y;have e1:(s.push t f).T t=(s.T t).mR ((s.T t).fr++[f]):=dk _ _ _;have J:(m.push t H).T t=(m.T t).mR ((m.T t).fr++[H]):=gn _ _ _;refine h.eE y ⟨rfl,rfl,rfl,rfl,rfl,rfl,rfl⟩ ⟨rfl,rfl,rfl,rfl,rfl⟩ (λu e=>qQ s f e) (λu e=>fZ _ _ e) ⟨?_,λj Y=>?_,?_,?_⟩ (λj Y a Z=>?_) h.q h.yw h.sp h.ev h.ck (h.L0 rfl (λa=>?_)) ⟨?_,bm _⟩ ⟨bm _,h.B.2⟩ h.U.2
 .rw[e1,J];show((m.T t).fr++[H]).length=((s.T t).fr++[f]).length;grind[List.length_append,D.TS.l]
 .rw[e1]at Y⊢;rw[J];have i:j<((s.T t).fr++[f]).length:=Y;rw[db]at i;show FS p ρ j (((s.T t).fr++[f]).getD j oD) (((m.T t).fr++[H]).getD j oD);rw[mQ,mQ,W.l];by_cases e:j=(s.T t).fr.length
  .grind
  rw[av e,av e];grind[D.TS.f]
 .rw[J];exact W.o
 .rw[e1,J];exact W.h.same rfl rfl rfl rfl rfl rfl rfl
 .rw[uh,db]at Y;by_cases e:j=(s.T t).fr.length
  .grind[xL]
  have i:j<(s.T t).fr.length:=by simp at Y;omega
  rw[pI s f<|λ_=>i]at Z⊢;grind[Rn.jm]
 .by_cases ea:a=t
  .subst ea;rw[J];exact⟨rfl,rfl⟩
  rw[show(m.push t H).T a=m.T a from fZ _ _ ea];omega
 rw[J];exact h.N t y
theorem eF.mF(h:eF p K s m ρ){t:Nat}(H:t∈s.lv)(hF:m.G.fu=true):eF p K (s.mF t) ((m.told 5 t 0).Bk) ρ:=by
 have W:=h.T t H;have Z:(s.mF t).T t=(s.T t).stop:=dk _ _ _;have y:((s.mF t).T t).fr=(s.T t).fr:=kh Z
 have hf:∀i,du (s.mF t) t i=du s t i:=λi=>gK y;refine h.eE H ⟨rfl,rfl,rfl,rfl,rfl,rfl,rfl⟩ ⟨rfl,rfl,rfl,rfl,rfl⟩ (λu e=>dU _ _ e) (λu e=>rfl) ⟨?_,λj J=>?_,W.o,?_⟩ (λj J a Y=>?_) h.q h.yw rfl ?_ h.ck (h.L0 rfl (λa=>⟨rfl,rfl⟩)) ⟨h.N t H,bm _⟩ ⟨bm _,h.B.2⟩ (λ_=>hF)
 .rw[y];exact W.l
 .rw[y]at J⊢;exact W.f j J
 .rw[Z];exact W.h.same rfl rfl rfl rfl rfl rfl rfl
 .rw[y]at J;rw[hf]at Y⊢;grind[Rn.jm]
 show m.ev++[(5,t,0)]=s.ev++[(5,t,0)];rw[h.ev]
theorem iP(h:eF p K s m ρ)(t:Nat):nF m t↔ft s t:=by
 unfold nF ft;rw[h.nt]
theorem eF.wh(h:eF p K s m ρ)(o:fN p s X){t:Nat}(i:t∈s.lv):((s.T t).wh=none/\(m.T t).how=1)\/((s.T t).wh=some (2,0)/\(m.T t).how=1)\/((s.T t).wh=some (3,0)/\(m.T t).how=2)\/(∃k,k<4/\(s.T t).wh=some (4,k)/\(m.T t).how=3/\(m.T t).what=k)\/(∃u,ft s u/\(s.T t).wh=some (5,u)/\(m.T t).how=4/\(m.T t).what=u):=by
 have e:=(h.T t i).h
 cases hw:(s.T t).wh with
 |none=>grind[D.HS.h0]
 |some J=>
  obtain⟨x,y⟩:=J;let⟨W,_,_⟩:=o.lw.a t (o.lt t i) x y hw;rcases W with⟨rfl,rfl⟩|⟨rfl,rfl⟩|⟨rfl,H⟩|⟨rfl,G⟩
  .grind[D.HS.h2]
  .exact ak<|ak<|ag ⟨rfl,(e.h3 0 hw).1⟩
  .grind[D.HS.h4]
  grind[D.HS.h5]
theorem eF.how(h:eF p K s m ρ)(u:fN p s X){t:Nat}(ht:ft s t):((m.T t).how≠5↔t∈s.lv):=by
 constructor
 .intro o;exact Classical.byContradiction λhn=>o (h.O t ht hn).1
 intro i;rcases h.wh u i with e|e|e|⟨_,_,_,e,_⟩|⟨_,_,_,e,_⟩<;>(omega)<;>omega
theorem eF.live(h:eF p K s m ρ)(i:fN p s X){N:Nat}(o:GR m N):N=s.lv.length:=
 o.uniq (Q:=λt=>t∈s.lv) ⟨s.lv,i.nd,λ_=>Iff.rfl,rfl⟩ (λt=>by
  grind[iP,D.eF.how,F.fN.lt])
theorem eF.Ny(h:eF p K s m ρ)(i:fN p s X){x y t:Nat}(W:fQ s x y)(hx:x=4\/x=5):(nF m t/\(m.T t).how=x-1/\(m.T t).what=y)↔t∈s.q x y:=by
 rw[iP h];constructor
 .grind[D.eF.wh,D.eF.how,F.LW.a,F.fN.lw]
 intro J;let⟨ht,hw⟩:=i.lw.b x y W t J;have o:=(h.T t<|i.ql x y W t J).h;grind[D.HS.h4,D.HS.h5]
theorem eF.first(h:eF p K s m ρ)(o:fN p s X){x y b:Nat}(i:fQ s x y)(hx:x=4\/x=5)(G:LN m (x-1) y b):(b=0/\s.q x y=[])\/∃l,s.q x y=b :: l:=by
 rcases G with⟨rfl,G⟩|⟨Z,W,Y,b4⟩
 .left
  refine⟨rfl,?_⟩
  cases hq:s.q x y with
  |nil=>rfl
  |cons a l=>
   have:=(h.Ny o i hx (t:=a)).2 ey;grind
 right
 have e:=(h.Ny o i hx).1 ⟨Z,W,Y⟩
 cases hq:s.q x y with
 |nil=>grind
 |cons a l=>
  refine⟨l,?_⟩;rw[hq]at e;rcases List.mem_cons.1 e with rfl|e
  .rfl
  have H:=h.L x y i af;rw[hq,List.pairwise_cons]at H;have J:=H.1 b e;unfold DK at J;rw[eK]at J;grind[D.eF.Ny]
theorem eF.Nz(h:eF p K s m ρ)(i:fN p s X){t:Nat}:(nF m t/\(m.T t).how=2)↔t∈s.q 3 0:=by
 have G:fQ s 3 0:=ak<|ag ⟨rfl,rfl⟩;rw[iP h];grind[D.eF.wh,D.eF.how,F.LW.a,F.fN.lw,F.LW.b,D.HS.h3,D.TS.h,D.eF.T,F.fN.ql]
theorem eF.me(h:eF p K s m ρ)(o:fN p s X){t:Nat}(e:t∈s.q 3 0):(m.T t).me=(s.T t).iT:=by
 have i:fQ s 3 0:=ak<|ag ⟨rfl,rfl⟩;exact((h.T t<|o.ql 3 0 i t e).h.h3 0 (o.lw.b 3 0 i t e).2).2
theorem eF.due(h:eF p K s m ρ)(u:fN p s X){b:Nat}(H:LO m b):(b=0/\∀a l,s.q 3 0=a :: l->¬(s.T a).iT<=s.clk)\/(b≠0/\∃l,s.q 3 0=b :: l/\(s.T b).iT<=s.clk):=by
 rcases H with⟨rfl,H⟩|⟨W,b2,b3,b4⟩
 .left
  refine⟨rfl,λa l o hc=>?_⟩;have i:a∈s.q 3 0:=by rw[o];simp
  have:=(h.Nz u).2 i;grind[D.eF.me,D.eF.ck]
 right
 have y:=(h.Nz u).1 ⟨W,b2⟩;refine⟨af,?_⟩
 cases o:s.q 3 0 with
 |nil=>grind
 |cons a l=>
  have e:=y;rw[o]at e;rcases List.mem_cons.1 e with rfl|e
  .grind[D.eF.me,D.eF.ck]
  exfalso
  have Z:=h.L 3 0 (ak<|ag ⟨rfl,rfl⟩) eo;rw[o,List.pairwise_cons]at Z;have J:=Z.1 b e;unfold DK at J;rw[bf rfl]at J;grind[zE,D.eF.Nz]
def GN(d:Dp)(m:Dm)(v:B.V):Prop:=(∃t,nF m t/\(m.T t).out=v)\/∃t i a,nF m t/\i<(m.T t).fr.length/\a<d.rg (fX m t i).f/\(fX m t i).R a=v
inductive mA (d:Dp) (m:Dm):Nat->Prop
  |root {v:B.V}:GN d m v->v.1≠0->mA d m v.1
  |slot {c:Nat} {v:B.V}:mA d m c->v∈m.M c->v.1≠0->mA d m v.1
def lA(d:Dp)(m:Dm)(N:Nat):Prop:=DW (mA d m) N
theorem qy.ind{P:Nat->Prop}{c:Nat}(y:qy p s c)(H:∀v,tw p s v->v.1≠0->P v.1)(G:∀k v,qy p s k->P k->v∈s.M k->v.1≠0->P v.1):P c:=by
 have:=y (λk=>qy p s k/\P k) (λi hi e=>⟨B.pH (B.qi hi) e,H _ (iD.1<|B.qi hi) e⟩)<|λk o v u e=>⟨B.lU o.1 u e,G k v o.1 o.2 u e⟩;grind
theorem eF.Oh(h:eF p K s m ρ){d:Dp}(hO:Ok p s)(hP:PD p d){c:Nat}(hc:qy p s c):mA d m (ρ c):=by
 refine hc.ind (P:=λc=>mA d m<|ρ c) (λv o e=>?_)<|λk v hk Y o e=>?_
 .rcases o with⟨u,i,a,y,hi,G,rfl⟩|o
  .have hT:=h.T u y;have J:=hT.f i hi;have:=mA.root (d:=d) (m:=m) (v:=(fX m u i).R a) (ak ⟨u,i,a,(iP h u).2<|hO.lt u y,eZ hT.l hi,?_,rfl⟩) ?_
   .rw[show(fX m u i).R a=tr ρ ((du s u i).R a) from J.R a G,rk e]at this;omega
   .rw[show(fX m u i).f=(du s u i).f from J.f,hP.rg (du s u i).f ((hO.fw u y trivial).f i hi).1];exact G
   rw[show(fX m u i).R a=tr ρ ((du s u i).R a) from J.R a G,rk e];have:=(h.C _<|B.pH (iD.2<|ag ⟨u,i,a,y,hi,G,rfl⟩) e).c1;omega
  let⟨t,t1,t2,t3⟩:=h.Kp v o;have Z:=(h.O t t1 t2).2.2;rw[t3,rk e]at Z;have:=mA.root (d:=d) (m:=m) (v:=(m.T t).out) (ag ⟨t,(iP h t).2 t1,rfl⟩) ?_
  .grind
  rw[Z];have:=(h.C _<|B.pH (iD.2<|ak o) e).c1;omega
 have:=mA.slot (d:=d) (m:=m) (v:=tr ρ v) Y (by rw[(h.C k hk).M];grind) ?_
 .grind[rk]
 rw[rk e];have:=(h.C _<|B.lU hk o e).c1;omega
theorem eF.MF(h:eF p K s m ρ){d:Dp}(hO:Ok p s)(hP:PD p d){c:Nat}(hc:mA d m c):∃k,qy p s k/\ρ k=c:=by
 induction hc with
 | @root v hv Z=>
  have W:∀u,tw p s u->tr ρ u=v->∃k,qy p s k/\ρ k=v.1:=λu hu e=>by
   grind[oN,B.pH,rk,F.iD]
  rcases hv with⟨t,ht,e⟩|⟨t,i,a,ht,hi,ha,e⟩
  .have G:=(iP h t).1 ht;by_cases y:t∈s.lv
   .rw[(h.T t y).o]at e;grind
   have ho:=(h.O t G y).2.2;have Y:t-1<s.out.length:=by rw[hO.ol];have:=G.2;omega
   have a0:po s t∈s.out:=by
    unfold po;rw[cw,bw Y];exact List.getElem_mem Y
   rcases hO.ok _ a0 with J|J
   .grind[oN,absurd]
   exact W _ (ak J) ey
  have G:=(iP h t).1 ht;by_cases y:t∈s.lv
  .have hT:=h.T t y;rw[hT.l]at hi;have hF:=hT.f i hi;have hf:(fX m t i).f=(du s t i).f:=hF.f;rw[hf,hP.rg (du s t i).f ((hO.fw t y trivial).f i hi).1]at ha;exact W _ (ag ⟨t,i,a,y,hi,ha,rfl⟩)<|(hF.R a ha).symm.trans e
  rw[(h.O t G y).2.1]at hi;grind
 | @slot c v hc hv Z ih=>
  obtain⟨k,hk,rfl⟩:=ih;rw[(h.C k hk).M]at hv;obtain⟨u,hu,rfl⟩:=eX.1 hv;grind[oN,B.lU,rk]
theorem mO{f:Nat->Nat}:∀(l:List Nat),l.Nodup->(∀a,a∈l->∀b,b∈l->f a=f b->a=b)->(l.map f).Nodup
 | [],_,_=>List.nodup_nil
 | a :: l,h,hf=>by
  rw[List.nodup_cons]at h;rw[List.map_cons,List.nodup_cons];refine⟨λu=>?_,mO l h.2<|λb i c o=>hf b (by simp[i]) c<|by simp[o]⟩;grind
theorem Fx:∀(n:Nat) (l:List Nat),(∀c,1<=c->c<=n->c∈l)->n<=l.length
 |0,_,_=>di _
 | n+1,l,h=>by
  have i:=h (n+1) af<|bm _;have:=Fx n (l.erase<|n+1)<|λc c1 o=>(List.mem_erase_of_ne af).2<|h c c1 af;grind
theorem eF.count(h:eF p K s m ρ){d:Dp}(G:Ok p s)(hP:PD p d){N:Nat}(J:lA d m N):∃l:List Nat,l.Nodup/\(∀c,c∈l↔qy p s c)/\N=l.length:=by
 classical
 let l:=((List.range<|p.n+1).filter<|λc=>decide (qy p s c))
 have u:∀c,c∈l↔qy p s c:=λc=>by
  show c∈(List.range<|p.n+1).filter (λc=>decide (qy p s c))↔_;rw[List.mem_filter,fY];constructor
  .grind
  intro i;exact⟨by have:=(B.nJ G.hl i).2.2;omega,fy i⟩
 have o:l.Nodup:=List.nodup_range.filter _;refine⟨l,o,u,?_⟩;have H:(l.map ρ).Nodup:=by
  exact mO _ o<|λa W b Y e=>h.I a b ((u a).1 W) ((u b).1 Y) e
 have:=J.uniq (Q:=mA d m) (K:=(l.map ρ).length) ⟨l.map ρ,H,λc=>?_,rfl⟩<|λ_=>Iff.rfl
 .grind
 grind[D.eF.Oh,D.eF.MF]
theorem eF.room(h:eF p K s m ρ){d:Dp}(H:Ok p s)(hP:PD p d){N:Nat}(hN:lA d m N):N<=p.n/\(N<p.n↔∃c,1<=c/\c<=p.n/\¬qy p s c):=by
 classical
 obtain⟨l,J,u,rfl⟩:=h.count H hP hN;have i:=λc o=>(B.nJ H.hl<|(u c).1 o).2;refine⟨gR p.n l J i,λW=>?_,λ⟨c,c1,y,c3⟩=>?_⟩
 .refine Classical.byContradiction λG=>?_;have:=Fx p.n l<|λc c1 y=>(u c).2<|Classical.byContradiction λZ=>G ⟨c,c1,y,Z⟩;omega
 have Y:=gR p.n (c :: l) (List.nodup_cons.2 ⟨λo=>c3<|(u c).1 o,J⟩) (λt ht=>by
  grind)
 grind
theorem qW(s:Pl)(f:Nat)(u v:B.V){t:Nat}(h:t≠s.nt+1):(s.born f u v).T t=s.T t:=by
 unfold Pl.born;rw[nM _ h,qQ _ _ h];exact ot s h
def I7(s:Pl)(f:Nat)(u v:B.V):((s.born f u v).T<|s.nt+1).fr=[⟨f,0,iz u v,(0,0,0,0)⟩]/\((s.born f u v).T<|s.nt+1).wh=some (2,0):=by
 unfold Pl.born;refine⟨?_,zG _ _ _ _⟩;rw[kr];show((Pl.dA _ _).T _).fr=_;rw[kE,uh];show((s.new).T<|s.nt+1).fr++_=_;rw[mZ];rfl
def Gx(s:Pl)(f:Nat)(u v:B.V)(a b:Nat):(s.born f u v).q a b=if a=2/\b=0 then s.q 2 0++[s.nt+1] else if a=5/\b=s.nt+1 then[] else s.q a b:=by
 unfold Pl.born;have hw:((s.more.push (s.nt+1) ⟨f,0,iz u v,(0,0,0,0)⟩).T<|s.nt+1).wh=none:=by
  rw[(rJ _ _ _ _).1];show((s.new).T<|s.nt+1).wh=none;rw[mZ];rfl
 show((Pl.dA _ _).fI 2 0 _).q a b=_;rw[fG hw];by_cases e:a=2/\b=0
 .rw[bf e,e.1,e.2,gM];rfl
 rw[av e,gf _ _ e];rfl
theorem eF.born(h:eF p K s m ρ){f:Nat}{u v:B.V}(hO:fN p s X)(a3:s.lv.length<p.mt)(hu:dV p s u)(hv:dV p s v):eF p K (s.born f u v) (m.born f (tr ρ u)<|tr ρ v) ρ:=by
 let⟨b1,b2,b3,b4⟩:=uw s f u v;have W:(s.born f u v).nt=s.nt+1:=by unfold Pl.born;rw[iO];rfl
 let⟨j1,j2,j3,j4,j5,j6,j7,j8,j9,a5⟩:=ja (s.more.push (s.nt+1) ⟨f,0,iz u v,(0,0,0,0)⟩) 2 0<|s.nt+1;have a0:(s.born f u v).out=s.out++[(0,0)]:=j2;have a6:∀t,t∈s.lv->t≠s.nt+1:=λt ht e=>by have:=(hO.lt t ht).2;omega
 have Y:∀t,t≠s.nt+1->(m.born f (tr ρ u)<|tr ρ v).T t=m.T t:=λt e=>av<|eZ h.nt e;have Z:(m.born f (tr ρ u)<|tr ρ v).T (s.nt+1)=⟨[⟨f,0,iz (tr ρ u)<|tr ρ v,(0,0,0,0)⟩],1,0,0,0,0,(0,0)⟩:=bf (by rw[h.nt]);have J:=I7 s f u v;have a2:∀t,t<=s.nt->1<=t->po (s.born f u v) t=po s t:=λt ht h1=>by
  grind[po,List.getElem?_append_left,F.fN.ol]
 have hg:∀x,tw p (s.born f u v) x->dV p s x:=by
  rintro x (⟨c,i,a,o,hi,ha,e⟩|hx)
  .rw[b1]at o;by_cases ec:c=s.nt+1
   .subst ec;have h0:i=0:=by rw[J.1]at hi;simpa using hi
    subst h0;have hf:du (s.born f u v) (s.nt+1) 0=⟨f,0,iz u v,(0,0,0,0)⟩:=by unfold du;rw[J.1];rfl
    rw[hf]at e;grind[rE]
   have a4:c∈s.lv:=by
    rcases ed.1 o with o|o
    .exact o
    exact dr (gd.1 o) ec
   have hf:du (s.born f u v) c i=du s c i:=gK (by grind[qW]);rw[hf]at ha e;rw[qW s f u v ec]at hi;exact dV.root<|ag ⟨c,i,a,a4,hi,ha,e⟩
  rw[b3]at hx;exact dV.root<|ak hx
 let⟨k1,k2⟩:=h.cells (s':=s.born f u v) (m':=m.born f (tr ρ u)<|tr ρ v) b4 j8 hg ⟨rfl,rfl,rfl⟩;refine⟨by rw[W];show m.nt+1=_;rw[h.nt],?_,by show m.fA=_;rw[h.yw];exact j4.symm,by show m.sp=_;rw[h.sp];exact a5.symm,by show m.ev=_;rw[h.ev];grind,by show m.clk=_;rw[h.ck];exact j5.symm,λt ht=>?_,λt ht hn=>?_,k1,k2,λx hx=>?_,λa b H hx=>?_,λt ht=>?_,h.A,by rw[b1,db];exact a3,h.B,by rw[b4,show(s.born f u v).kd=s.kd from j6];exact h.U⟩
 .show m.q++[m.nt+1]=_;rw[Gx,bf ⟨rfl,rfl⟩,h.q,h.nt]
 .rw[b1]at ht;by_cases e:t=s.nt+1
  .subst e;rw[Z];refine⟨kh J.1,λi hi=>?_,rfl,⟨λ_=>rfl,λ_ _=>rfl,λy e=>?_,λy e=>?_,λy e=>?_⟩⟩
   .rw[J.1]at hi⊢;have h0:i=0:=iE hi
    subst h0;refine⟨rfl,rfl,λe=>dr rfl e,λk _=>?_⟩;show iz (tr ρ u) (tr ρ v) k=tr ρ (iz u v k);unfold iz;split
    .rfl
    split
    .rfl
    rfl
   all_goals
    rw[J.2]at e;injection e with e;injection e with e _;exact dr e eo
  rw[qW s f u v e,Y t e];refine h.T t ?_;rcases ed.1 ht with ht|ht
  .exact ht
  exact dr (gd.1 ht) e
 .rw[b1]at hn;have h1:t∉s.lv:=λe=>hn<|eO _ e;have h2:t≠s.nt+1:=λe=>hn<|List.mem_append_right _ (by simp[e]);have h3:t<=s.nt:=by have:=ht.2;rw[W]at this;omega
  rw[Y t h2,a2 t h3 ht.1];exact h.O t ⟨ht.1,h3⟩ h1
 .rw[b3]at hx;let⟨c,c1,c2,c3⟩:=h.Kp x hx;refine⟨c,⟨c1.1,by rw[W];have:=c1.2;omega⟩,λo=>?_,by rw[a2 c c1.2 c1.1];exact c3⟩;rw[b1]at o;rcases ed.1 o with o|o
  .exact c2 o
  have:=gd.1 o;have:=c1.2;omega
 .rw[Gx,av<|λe=>hx e.1];by_cases e:a=5/\b=s.nt+1
  .rw[bf e];exact List.Pairwise.nil
  rw[av e];have a1:fQ s a b:=by
   unfold fQ at H⊢;rcases H with H|H|H|H
   .exact ag H
   .exact ak<|ag H
   .exact ak<|ak<|ag H
   refine ak<|ak<|ak ⟨H.1,H.2.1,?_⟩;have:=H.2.2;rw[W]at this;have:b≠s.nt+1:=λe'=>e ⟨H.1,e'⟩;omega
  exact vP (h.L a b a1 hx) (λc o=>by rw[Y c<|a6 c<|hO.ql a b a1 c o];exact⟨rfl,rfl⟩)
 rw[b1]at ht;by_cases e:t=s.nt+1
 .subst e;rw[Z];exact di _
 rw[Y t e];rcases ed.1 ht with ht|ht
 .exact h.N t ht
 exact dr (gd.1 ht) e
theorem eF.uS(h:eF p K s m ρ)(hO:fN p s X){a i:Nat}{v:B.V}(H:qy p s a)(W:dV p s v):eF p K (s.uS a i v) (m.put (ρ a) i<|tr ρ v) ρ:=by
 have y:∀c,qy p (s.uS a i v) c->qy p s c:=λc o=>B.EU H W o;refine {h with C:=λc o=>?_,I:=λc c' o J=>h.I c c' (y c o)<|y c' J,U:=⟨h.U.1.told hO.hl i H W,h.U.2⟩};let⟨c1,c2,Y,Z,c5,c6⟩:=h.C c<|y c o;have u:(B.lay s.M a ((s.M a).set i v) c).length=(s.M c).length:=by
  by_cases e:c=a
  .subst e;rw[B.iG,eC]
  rw[B.gm _ _ _ _ e]
 refine⟨c1,c2,?_,Z,λhk e=>c5 hk<|dh.1 (by rw[<-u];exact dh.2 e),by show(B.lay s.M a ((s.M a).set i v) c).length<=8;omega⟩;show(if ρ c=ρ a then(m.M<|ρ a).set i (tr ρ v) else m.M (ρ c))=(B.lay s.M a ((s.M a).set i v) c).map (tr ρ);by_cases e:c=a
 .subst e;rw[bf rfl,B.iG,Y,List.map_set]
 rw[av<|λe'=>e<|h.I c a (y c o) H e',B.gm _ _ _ _ e,Y]
theorem eF.pq(h:eF p K s m ρ){t a c ty:Nat}{kd1:B.Kd}{l:List B.V}(hO:fN p s X)(a2:t∈s.lv)(hn:(s.T t).fr≠[])(hk:B.kQ kd1 p.n (eH p s) s.M)(h3:kd1.on c=false)(aJ:c≠0)(aF:ty≠0->l≠[])(aK:l.length<=8)(hl:∀v,v∈l->dV p s v)(hU:Nm p.n (K+1) (B.laid kd1 c) (B.lay s.M c l) m.G.born):eF p (K+1) ((s.pq kd1 c ty l).dM t (de s t)<|(bz s t).set a (c,0)) ((m.cell ty<|l.map<|tr ρ).dM t (qE m t)<|(qz m t).set a (m.nc+1,0)) (λk=>if k=c then m.nc+1 else ρ k):=by
 have hi:de s t<(s.T t).fr.length:=by
  have:(s.T t).fr.length≠0:=λe=>hn<|dh.1 e;unfold de;omega
 have aG:¬qy p s c:=λhc=>by
  have:=(B.nJ hk hc).1;grind
 have a5:∀v,dV p s v->tr (λk=>if k=c then m.nc+1 else ρ k) v=tr ρ v:=λv hv=>by
  by_cases e:v.1=0
  .grind[oN]
  rw[rk e,rk e];have aL:v.1≠c:=λe'=>aG<|e'▸B.px.vS hv e;grind
 have hT:=h.T t a2;have aC:qE m t=de s t:=by unfold qE de;rw[hT.l]
 have aM:qz m t=fX m t (de s t):=by unfold qz;rw[aC]
 rw[aC,aM];have e1:((s.pq kd1 c ty l).dM t (de s t)<|(bz s t).set a (c,0)).T t={s.T t with fr:=(s.T t).fr.set (de s t) ((bz s t).set a (c,0))}:=dk _ _ _;have e2:((m.cell ty<|l.map<|tr ρ).dM t (de s t)<|(fX m t<|de s t).set a (m.nc+1,0)).T t=(m.T t).mR ((m.T t).fr.set (de s t)<|(fX m t<|de s t).set a (m.nc+1,0)):=gn _ _ _;have hs:∀u,u≠t->((s.pq kd1 c ty l).dM t (de s t)<|(bz s t).set a (c,0)).T u=s.T u:=λu e=>dU _ _ e;have hm:∀u,u≠t->((m.cell ty<|l.map<|tr ρ).dM t (de s t)<|(fX m t<|de s t).set a (m.nc+1,0)).T u=m.T u:=λu e=>fZ _ _ e;have a8:∀v,v∈eH p ((s.pq kd1 c ty l).dM t (de s t)<|(bz s t).set a (c,0))->v=(c,0)\/dV p s v:=λv hv=>by
  rcases iD.1 hv with⟨u,j,b,W,hj,hb,e⟩|hv
  .by_cases eu:u=t
   .subst eu;rw[e1]at hj;have a0:j<((s.T u).fr.set (de s u)<|(bz s u).set a (c,0)).length:=hj;rw[eC]at a0;have aI:du ((s.pq kd1 c ty l).dM u (de s u)<|(bz s u).set a (c,0)) u j=if j=de s u then(bz s u).set a (c,0) else du s u j:=by
     unfold du;rw[e1];exact nj hi
    rw[aI]at hb e;by_cases ej:j=de s u
    .rw[bf ej]at hb e;have e3:B.set (bz s u).R a (c,0) b=v:=e;by_cases eb:b=a
     .grind[B.jZ]
     rw[B.jl _ _ _ _ eb]at e3;rw[<-e3];exact ak<|Rn.jm a2 _ hi b hb
    rw[av ej]at hb e;grind[Rn.jm]
   have hf:du ((s.pq kd1 c ty l).dM t (de s t)<|(bz s t).set a (c,0)) u j=du s u j:=gK ey;rw[hf]at hb e;rw[hs u eu]at hj;exact ak<|dV.root<|ag ⟨u,j,b,W,hj,hb,e⟩
  exact ak<|dV.root<|ak hv
 have Y:∀k,qy p ((s.pq kd1 c ty l).dM t (de s t)<|(bz s t).set a (c,0)) k->k=c\/qy p s k:=λk hk=>B.uR (L:=eH p s) hl a8 hk;have a9:∀k,qy p s k->∀v,v∈s.M k->dV p s v:=λk hk v hv=>ak<|ak ⟨k,hk,hv⟩;have a3:∀l':List B.V,(∀v,v∈l'->dV p s v)->l'.map (tr (λk=>if k=c then m.nc+1 else ρ k))=l'.map (tr ρ):=λl' a6=>List.map_congr_left<|λv hv=>a5 v<|a6 v hv;refine⟨h.nt,h.q,h.yw,h.sp,h.ev,h.ck,λu W=>?_,λu W aD=>?_,λk H=>?_,λk k' H a4 he=>?_,h.Kp,λx y a6 hx=>vP (h.L x y a6 hx)<|λb _=>?_,λu W=>?_,⟨by show m.G.all+1=m.nc+1;rw[h.A.1],Nat.succ_le_succ h.A.2.1,Nat.succ_le_succ h.A.2.2⟩,h.lm,⟨Nat.succ_le_succ h.B.1,Nat.le_succ_of_le h.B.2⟩,hU,h.U.2⟩
 .have a7:∀u,u∈s.lv->∀i,i<(s.T u).fr.length->FS p (λk=>if k=c then m.nc+1 else ρ k) i ((s.T u).fr.getD i oD) ((m.T u).fr.getD i oD):=λu W i aA=>by
   have hF:=(h.T u W).f i aA;exact⟨hF.f,hF.nx,hF.bk,λk H=>by rw[hF.R k H];exact(a5 _<|Rn.jm W i aA k H).symm⟩
  by_cases eu:u=t
  .subst eu;refine⟨?_,λj hj=>?_,?_,?_⟩
   .rw[e1,e2];show((m.T u).fr.set _ _).length=((s.T u).fr.set _ _).length;grind[List.length_set,D.TS.l]
   .rw[e1]at hj⊢;rw[e2];have a0:j<((s.T u).fr.set (de s u)<|(bz s u).set a (c,0)).length:=hj;rw[eC]at a0;show FS p _ j (((s.T u).fr.set _ _).getD j oD) (((m.T u).fr.set _ _).getD j oD);rw[nj hi,nj<|eZ hT.l hi];by_cases e:j=de s u
    .rw[bf e,bf e,e];have hF:=a7 u W (de s u) hi;refine⟨hF.f,hF.nx,hF.bk,λk H=>?_⟩;show B.set (fX m u<|de s u).R a (m.nc+1,0) k=tr _ (B.set (bz s u).R a (c,0) k);by_cases e3:k=a
     .subst e3;rw[B.jZ,B.jZ];rw[rk (v:=(c,0)) aJ];show _=((if c=c then m.nc+1 else ρ c),(0:Int));rw[bf rfl]
     rw[B.jl _ _ _ _ e3,B.jl _ _ _ _ e3];exact hF.R k H
    rw[av e,av e];exact a7 u W j a0
   .rw[e2];exact hT.o
   rw[e1,e2];exact hT.h.same rfl rfl rfl rfl rfl rfl rfl
  rw[hs u eu,hm u eu];exact⟨(h.T u W).l,a7 u W,(h.T u W).o,(h.T u W).h⟩
 .have eu:u≠t:=λe=>aD<|e▸a2;rw[hm u eu];let⟨o1,o2,o3⟩:=h.O u W aD;refine⟨o1,o2,o3.trans ?_⟩;refine(a5 _ ?_).symm;show dV p s (po s u);have aN:=W.1;have aO:u<=s.nt:=W.2;have aB:u-1<s.out.length:=lD hO.ol
  have aH:po s u∈s.out:=by
   unfold po;rw[cw,bw aB];exact List.getElem_mem aB
  rcases hO.ok _ aH with h0|h0
  .exact ag h0
  exact dV.root<|ak h0
 .by_cases J:k=c
  .subst J;refine⟨by show 1<=(if k=k then m.nc+1 else ρ k);rw[bf rfl];omega,by show(if k=k then m.nc+1 else ρ k)<=m.nc+1;rw[bf rfl];omega,?_,?_,?_,?_⟩
   .show(if(if k=k then m.nc+1 else ρ k)=m.nc+1 then l.map (tr ρ) else m.M (if k=k then m.nc+1 else ρ k))=(B.lay s.M k l k).map _;rw[bf rfl,bf rfl,B.iG,a3 l hl]
   .show(if(if k=k then m.nc+1 else ρ k)=m.nc+1 then ty else m.ck (if k=k then m.nc+1 else ρ k))=if k=k then ty else s.ck k
    rw[bf rfl,bf rfl,bf rfl]
   .show(if k=k then ty else s.ck k)≠0->B.lay s.M k l k≠[];rw[bf rfl,B.iG];exact aF
   show(B.lay s.M k l k).length<=8;rw[B.iG];exact aK
  have aE:=(Y k H).resolve_left J;let⟨c1,c2,c3,c4,c5,c6⟩:=h.C k aE;refine⟨by show 1<=(if k=c then m.nc+1 else ρ k);rw[av J];exact c1,by show(if k=c then m.nc+1 else ρ k)<=m.nc+1;rw[av J];omega,?_,?_,?_,?_⟩
  .show(if(if k=c then m.nc+1 else ρ k)=m.nc+1 then l.map (tr ρ) else m.M (if k=c then m.nc+1 else ρ k))=(B.lay s.M c l k).map _;rw[av J,eK,B.gm _ _ _ _ J,a3 _<|a9 k aE,c3]
  .show(if(if k=c then m.nc+1 else ρ k)=m.nc+1 then ty else m.ck (if k=c then m.nc+1 else ρ k))=if k=c then ty else s.ck k
   rw[av J,eK,av J,c4]
  .show(if k=c then ty else s.ck k)≠0->B.lay s.M c l k≠[];rw[av J,B.gm _ _ _ _ J];exact c5
  show(B.lay s.M c l k).length<=8;rw[B.gm _ _ _ _ J];exact c6
 .have a1:=he;by_cases J:k=c
  .by_cases Z:k'=c
   .rw[J,Z]
   rw[bf J,av Z]at a1;have:=(h.C k'<|(Y k' a4).resolve_left Z).c2;omega
  by_cases Z:k'=c
  .rw[av J,bf Z]at a1;have:=(h.C k<|(Y k H).resolve_left J).c2;omega
  rw[av J,av Z]at a1;exact h.I k k' ((Y k H).resolve_left J) ((Y k' a4).resolve_left Z) a1
 .by_cases eb:b=t
  .subst eb;rw[e2];exact⟨rfl,rfl⟩
  rw[hm b eb];exact⟨rfl,rfl⟩
 by_cases eu:u=t
 .subst eu;rw[e2];exact h.N u W
 rw[hm u eu];exact h.N u W
