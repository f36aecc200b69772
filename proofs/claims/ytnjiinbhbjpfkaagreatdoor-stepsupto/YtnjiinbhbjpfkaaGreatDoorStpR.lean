import Derived.Test.YtnjiinbhbjpfkaaGreatDoorStpQ
set_option maxRecDepth 100000
set_option maxHeartbeats 0
set_option linter.all false
namespace Go.Proofs.YtnjiinbhbjpfkaaGreatDoor
open Go.RowKit Go.Proofs.Tryz
namespace D
open F
variable {p : dz} {K K' : Nat} {s s' : Pl} {m m' : Dm} {ρ : Nat → Nat} {X : Nat → Prop}
theorem ou.sub(u:s'.M=s.M)(i:∀v,qw p s' v->dN p s v){c:Nat}(e:ou p s' c):ou p s c:=by
 unfold ou at e;rw[u]at e;exact B.sI (λv o=>i v (gi.1 o)) e
theorem eK.cells(h:eK p K s m ρ)(i:s'.M=s.M)(y:s'.ck=s.ck)(u:∀v,qw p s' v->dN p s v)(e:m'.nc=m.nc/\m'.M=m.M/\m'.ck=m.ck):(∀c,ou p s' c->CS s'.M s'.ck m'.nc m'.M m'.ck ρ c)/\∀c o,ou p s' c->ou p s' o->ρ c=ρ o->c=o:=
 ⟨λc k=>by
  obtain⟨c1,Z,J,H,Y,G⟩:=h.C c (ou.sub i u k);exact⟨c1,by rw[e.1];exact Z,by rw[e.2.1,i];exact J,by rw[e.2.2,y];exact H,by rw[i,y];exact Y,by rw[i];exact G⟩,λc o k W=>h.I c o (ou.sub i u k) (ou.sub i u W)⟩
theorem GS{t:Nat}(Z:∀u,u∈s'.lv->u∈s.lv)(W:s'.kp=s.kp)(J:∀u,u≠t->s'.T u=s.T u)(ht:t∈s'.lv->∀i,i<(s'.T t).fr.length->∀a,a<p.rg (de s' t i).f->dN p s ((de s' t i).R a)):∀v,qw p s' v->dN p s v:=by
 rintro v (⟨u,i,a,G,hi,o,e⟩|H)
 .by_cases y:u=t
  .subst y;rw[<-e];exact ht G i hi a o
  have Y:de s' u i=de s u i:=gJ (by rw[J u y]);rw[Y]at o e;rw[J u y]at hi;exact dN.root (ag ⟨u,i,a,Z u G,hi,o,e⟩)
 rw[W]at H;exact dN.root (ab H)
theorem eK.ep{t:Nat}(h:eK p K s m ρ)(a2:t∈s.lv)(e:s'.nt=s.nt/\s'.lv=s.lv/\s'.out=s.out/\s'.kp=s.kp/\s'.M=s.M/\s'.ck=s.ck)(e':m'.nt=m.nt/\m'.nc=m.nc/\m'.M=m.M/\m'.ck=m.ck/\m'.G=m.G)(hs:∀u,u≠t->s'.T u=s.T u)(hm:∀u,u≠t->m'.T u=m.T u)(ht:TS p ρ (s'.T t) (m'.T t))(hg:∀i,i<(s'.T t).fr.length->∀a,a<p.rg (de s' t i).f->dN p s ((de s' t i).R a))(hq:m'.q=s'.q 2 0)(hb:m'.jo=s'.jo)(a1:m'.sp=s'.sp)(a0:m'.ev=s'.ev)(Y:m'.eY=s'.eY)(hL:∀x y,fz s x y->x≠2->(s'.q x y).Pairwise (FI m' x))(hN:(m'.T t).ji<=m'.ji/\m.ji<=m'.ji)(hK:K<=K'/\m'.ji<=K'):eK p K' s' m' ρ:=by
 obtain⟨W,J,e3,e4,e5,e6⟩:=e;obtain⟨f1,Z,f3,f4,f5⟩:=e';have ho:∀u,m9 s' u=m9 s u:=λu=>by unfold m9;rw[e3]
 obtain⟨k1,k2⟩:=h.cells (m':=m') e5 e6 (GS (p:=p) (λu H=>by rw[<-J];exact H) e4 hs (λ_=>hg)) ⟨Z,f3,f4⟩;refine⟨by rw[f1,W];exact h.nt,hq,hb,a1,a0,Y,λu H=>?_,λu H hn=>?_,k1,k2,λv hv=>?_,λx y hl hx=>hL x y ((fQ W).1 hl) hx,λu H=>?_,by rw[f5,Z];exact h.A,by rw[J];exact h.lm,by rw[Z];exact dH h.B.1 hK.1,hK.2⟩
 .by_cases o:u=t
  .subst o;exact ht
  rw[hs u o,hm u o];exact h.T u (by rw[<-J];exact H)
 .rw[J]at hn;have o:u≠t:=λo=>hn (o▸a2);rw[hm u o,ho];exact h.O u ((eg W).1 H) hn
 .rw[e4]at hv;obtain⟨u,u1,u2,u3⟩:=h.Kp v hv;exact⟨u,(eg W).2 u1,by rw[J];exact u2,by rw[ho];exact u3⟩
 by_cases o:u=t
 .subst o;exact hN.1
 rw[hm u o];exact dH (h.N u (by rw[<-J];exact H)) hN.2
theorem vT{x:Nat}{l:List Nat}(u:l.Pairwise (FI m x))(h:∀a,a∈l->(m'.T a).km=(m.T a).km/\(m'.T a).ji=(m.T a).ji):l.Pairwise (FI m' x):=by
 refine List.Pairwise.imp_of_mem ?_ u;intro a b i o e;unfold FI at e ⊢;rw[(h a i).1,(h a i).2,(h b o).1,(h b o).2];exact e
theorem eK.L0(h:eK p K s m ρ)(e:s'.q=s.q)(i:∀a,(m'.T a).km=(m.T a).km/\(m'.T a).ji=(m.T a).ji):∀x y,fz s x y->x≠2->(s'.q x y).Pairwise (FI m' x):=λx y o u=>by
 rw[e];exact vT (h.L x y o u) (λa _=>i a)
theorem CO(s:Pl)(t x y:Nat):((s.dw t).q x y).Sublist (s.q x y):=by
 cases hw:(s.T t).wh with
 | none=>rw[gd hw];exact List.Sublist.refl _
 | some i=>
  rw[fN (x:=i.1) (y:=i.2) hw];show((s.eZ i.1 i.2 ((s.q i.1 i.2).erase t)).q x y).Sublist _;by_cases e:x=i.1/\y=i.2
  .obtain⟨rfl,rfl⟩:=e;rw[fX];exact List.erase_sublist
  rw[fL _ _ e];exact List.Sublist.refl _
theorem CP{t x y a:Nat}(u:LW s)(ht:fe s t)(o:fz s x y)(i:a∈(s.dw t).q x y):a≠t:=λe=>by
 subst e;have:=((u.dw ht).b x y ((fQ (fO s a)).2 o) a i).2;rw[jd]at this
 cases this
theorem eK.Iq{t:Nat}(h:eK p K s m ρ)(G:LW s)(ht:fe s t)(o:∀u,u≠t->m'.T u=m.T u)(x y:Nat)(e:fz s x y)(hx:x≠2):((s.dw t).q x y).Pairwise (FI m' x):=
 vT ((h.L x y e hx).sublist (CO s t x y)) (λa i=>by rw[o a (CP G ht e i)];exact⟨rfl,rfl⟩)
theorem Rn.iE{t:Nat}(e:t∈s.lv)(i:Nat)(hi:i<(s.T t).fr.length)(a:Nat)(o:a<p.rg (de s t i).f):dN p s ((de s t i).R a):=dN.root (ag ⟨t,i,a,e,hi,o,rfl⟩)
theorem HS.same{a u:oT}{b i:Dt}(h:HS a b)(o:u.wh=a.wh)(J:u.lf=a.lf)(W:u.iL=a.iL)(e:i.how=b.how)(G:i.what=b.what)(H:i.into=b.into)(Y:i.km=b.km):HS u i:=
 ⟨λk=>by rw[e];exact h.h0 (o▸k),λy k=>by rw[e];exact h.h2 y (o▸k),λy k=>by rw[e,Y,W];exact h.h3 y (o▸k),λy k=>by rw[e,G,H,J];exact h.h4 y (o▸k),λy k=>by rw[e,G,H,J];exact h.h5 y (o▸k)⟩
theorem eK.dx(h:eK p K s m ρ){t i:Nat}{f H:gY}(G:t∈s.lv)(hi:i<(s.T t).fr.length)(hf:FS p ρ i f H)(hg:f.f=(de s t i).f)(hR:∀a,a<p.rg f.f->dN p s (f.R a)):eK p K (s.dx t i f) (m.dx t i H) ρ:=by
 have Y:=h.T t G;have e1:(s.dx t i f).T t={ s.T t with fr:=(s.T t).fr.set i f }:=df _ _ _;have J:(m.dx t i H).T t=(m.T t).kD ((m.T t).fr.set i H):=fG _ _ _;refine h.ep G ⟨rfl,rfl,rfl,rfl,rfl,rfl⟩ ⟨rfl,rfl,rfl,rfl,rfl⟩ (λu e=>nC s f e) (λu e=>fA _ _ e) ⟨?_,λj W=>?_,?_,?_⟩ (λj W a Z=>?_) h.q h.Ee h.sp h.ev h.ck (h.L0 rfl (λa=>?_)) ⟨?_,bj _⟩ ⟨bj _,h.B.2⟩
 .rw[e1,J];show((m.T t).fr.set i H).length=((s.T t).fr.set i f).length;rw[dq,dq];exact Y.l
 .rw[e1]at W ⊢;rw[J];have y:j<((s.T t).fr.set i f).length:=W;rw[dq]at y;show FS p ρ j (((s.T t).fr.set i f).getD j mr) (((m.T t).fr.set i H).getD j mr);rw[jU hi,jU (by rw[Y.l];exact hi)];by_cases e:j=i
  .rw[aj e,aj e,e];exact hf
  rw[aa e,aa e];exact Y.f j y
 .rw[J];exact Y.o
 .rw[e1,J];exact Y.h.same rfl rfl rfl rfl rfl rfl rfl
 .rw[e1]at W;have y:j<((s.T t).fr.set i f).length:=W;rw[dq]at y;by_cases e:j=i
  .subst e;rw[ko s f hi]at Z ⊢;exact hR a Z
  rw[jR s f (λe'=>e e'.2)]at Z ⊢;exact Rn.iE G j y a Z
 .by_cases e:a=t
  .subst e;rw[J];exact⟨rfl,rfl⟩
  rw[show(m.dx t i H).T a=m.T a from fA _ _ e];exact⟨rfl,rfl⟩
 rw[J];exact h.N t G
theorem eK.oD(h:eK p K s m ρ){t:Nat}(i:t∈s.lv)(hn:(s.T t).fr≠[])(a:Nat){v:B.V}(J:dN p s v):eK p K (s.dx t (cr s t) ((bw s t).set a v)) (m.dx t (pQ m t) ((pR m t).set a (tr ρ v))) ρ:=by
 have G:=h.T t i;have hi:cr s t<(s.T t).fr.length:=by
  have:(s.T t).fr.length≠0:=λe=>hn (cf.1 e);unfold cr;omega
 have e:pQ m t=cr s t:=by unfold pQ cr;rw[G.l]
 have H:pR m t=fj m t (cr s t):=by unfold pR;rw[e]
 have u:=G.f _ hi;rw[e,H];refine h.dx i hi ⟨u.f,u.nx,u.bk,λk y=>?_⟩ rfl (λk y=>?_)
 .show B.set (fj m t (cr s t)).R a (tr ρ v) k=tr ρ (B.set (de s t (cr s t)).R a v k);by_cases o:k=a
  .subst o;rw[B.ie,B.ie]
  rw[B.gS _ _ _ _ o,B.gS _ _ _ _ o];exact u.R k y
 show dN p s (B.set (de s t (cr s t)).R a v k);by_cases o:k=a
 .subst o;rw[B.ie];exact J
 rw[B.gS _ _ _ _ o];exact Rn.iE i _ hi k y
theorem eK.nx(h:eK p K s m ρ){t:Nat}(i:t∈s.lv)(hn:(s.T t).fr≠[])(a:Nat):eK p K (s.dx t (cr s t) { bw s t with nx:=a }) (m.dx t (pQ m t) { pR m t with nx:=a }) ρ:=by
 have u:=h.T t i;have hi:cr s t<(s.T t).fr.length:=by
  have:(s.T t).fr.length≠0:=λe=>hn (cf.1 e);unfold cr;omega
 have e:pQ m t=cr s t:=by unfold pQ cr;rw[u.l]
 have G:pR m t=fj m t (cr s t):=by unfold pR;rw[e]
 have o:=u.f _ hi;rw[e,G];exact h.dx i hi ⟨o.f,rfl,o.bk,o.R⟩ rfl (λk y=>Rn.iE i _ hi k y)
theorem eK.told(h:eK p K s m ρ)(kind t:Nat)(x:Int):eK p K (s.told kind t x) (m.told kind t x) ρ:=
 { h with ev:=by show m.ev++_=s.ev++_;rw[h.ev] }
theorem eK.fF(h:eK p K s m ρ)(c:Int):eK p K (s.fF c) (m.fF c) ρ:={ h with ck:=rfl }
theorem eK.tQ(h:eK p K s m ρ)(kd:B.Kd):eK p K (s.tQ kd) m ρ:={ h with }
theorem eK.mono(h:eK p K s m ρ)(hK:K<=K'):eK p K' s m ρ:={ h with B:=⟨dH h.B.1 hK,dH h.B.2 hK⟩ }
theorem eK.join(h:eK p K s m ρ){t:Nat}(hO:fS p s X)(G:t∈s.lv)(hw:(s.T t).wh≠some (2,0)){x:Dt}(W:x.fr=(m.T t).fr/\x.out=(m.T t).out/\x.ji=(m.T t).ji/\x.how=1):eK p K (s.dV 2 0 t) ((m.dv t x).qv t) ρ:=by
 have hT:=h.T t G;have Y:((m.dv t x).qv t).T t=x:=fG _ _ _;have e1:=nO s 2 0 t;have H:((s.dV 2 0 t).T t).fr=(s.T t).fr:=by rw[e1];exact ku s t t
 obtain⟨j1,j2,j3,j4,j5,j6,j7,j8,j9,Z⟩:=iW s 2 0 t;have hf:∀i,de (s.dV 2 0 t) t i=de s t i:=λi=>gJ H;refine h.ep G ⟨iX s 2 0 t,j1,j2,j3,j7,j8⟩ ⟨rfl,rfl,rfl,rfl,rfl⟩ (λu e=>oh s e) (λu e=>fA _ _ e) ⟨?_,λj J=>?_,?_,?_⟩ (λj J a ha=>?_) ?_ ?_ ?_ ?_ ?_ (λa b hl hx=>?_) ⟨?_,bj _⟩ ⟨bj _,h.B.2⟩
 .rw[H,Y,W.1];exact hT.l
 .rw[H,Y,W.1];rw[H]at J;exact hT.f j J
 .rw[Y,W.2.1];exact hT.o
 .rw[e1,Y];refine⟨λe=>(by cases e),λy _=>W.2.2.2,λy e=>?_,λy e=>?_,λy e=>?_⟩ <;>
  .injection e with e;injection e with e _;exact ch e (by decide)
 .rw[H]at J;rw[hf]at ha ⊢;exact Rn.iE G j J a ha
 .show m.q++[t]=_;rw[nN hw,h.q]
 .show m.jo=_;rw[j4];exact h.Ee
 .show m.sp=_;rw[Z];exact h.sp
 .show m.ev=_;rw[j9];exact h.ev
 .show m.eY=_;rw[j5];exact h.ck
 .have hq:(s.dV 2 0 t).q a b=(s.dw t).q a b:=fL _ _ (λe=>hx e.1);rw[hq];exact h.Iq hO.lw (hO.lt t G) (λu e=>fA _ _ e) a b hl hx
 rw[Y,W.2.2.1];exact h.N t G
theorem eK.fJ(h:eK p K s m ρ){t:Nat}(o:fS p s X)(i:t∈s.lv)(hX:X t){k:yi}(W:(s.T t).lf=some k)(hi:(m.T t).into=(k.2.1:Int)){v:B.V}(J:dN p s v):eK p K (s.fJ t v) (m.ready t (tr ρ v)) ρ:=by
 obtain⟨x,y,hw,a0⟩:=o.lf t (o.lt t i) (by rw[W];simp);have hn:=(o.fw t i hX).n1;have G:cr s t<(s.T t).fr.length:=by
  have:(s.T t).fr.length≠0:=λe=>hn (cf.1 e);unfold cr;omega
 have H:(m.dx t (pQ m t) ((pR m t).set k.2.1 (tr ρ v))).T t=(m.T t).kD ((m.T t).fr.set (pQ m t) ((pR m t).set k.2.1 (tr ρ v))):=fG _ _ _;rw[nT v W];have Y:m.ready t (tr ρ v)=((m.dx t (pQ m t) ((pR m t).set k.2.1 (tr ρ v))).dv t (((m.T t).hw 1).kD ((m.T t).fr.set (pQ m t) ((pR m t).set k.2.1 (tr ρ v))))).qv t:=by
  unfold Dm.ready;rw[hi,aj (by omega),lH];unfold Dm.dx;rw[iT];show((m.tW t).dv t ((((m.dv t ((m.T t).hw 1)).T t)).kD ((((m.dv t ((m.T t).hw 1)).T t)).fr.set _ _)))=_;rw[fG];show(((m.dv t ((m.T t).hw 1)).dv t _).qv t)=_;rw[iT];rfl
 rw[Y];exact (h.oD i hn k.2.1 J).join (t:=t) (x:=((m.T t).hw 1).kD ((m.T t).fr.set (pQ m t) ((pR m t).set k.2.1 (tr ρ v)))) (o.oD i hX G k.2.1 J) i (by rw[(gj s t _ t _).1,hw];intro e;injection e with e;injection e with e _;omega) ⟨by rw[H];rfl,by rw[H];rfl,by rw[H];rfl,rfl⟩
theorem eK.KH(h:eK p K s m ρ){t:Nat}(u:fS p s X)(i:t∈s.lv)(hw:(s.T t).wh≠some (2,0)){x:Dt}(o:x={ m.T t with into:=-1 })(v:B.V):eK p K (s.dV 2 0 t) ((m.dv t x).ready t v) ρ:=by
 subst o;have e:(m.dv t { m.T t with into:=-1 }).ready t v=(m.dv t (({ m.T t with into:=-1 }:Dt).hw 1)).qv t:=by
  unfold Dm.ready;rw[fG,aa (by show ¬(0:Int)<=-1;omega)];unfold Dm.tW;rw[fG,iT]
 rw[e];exact h.join u i hw ⟨rfl,rfl,rfl,rfl⟩
theorem eK.start(h:eK p K s m ρ){t:Nat}{l:List Nat}(hO:fS p s X)(y:t∈s.lv)(hq:s.q 2 0=t :: l):eK p K (s.start t) (m.eZ l) ρ:=by
 have J:=h.T t y;have hw:=(hO.lw.b 2 0 (ag ⟨rfl,rfl⟩) t (by rw[hq];simp)).2;have e1:(s.start t).T t={ (s.dw t).T t with run:=true }:=df _ _ _;have G:((s.start t).T t).fr=(s.T t).fr:=by rw[e1];exact ku s t t
 have hf:∀i,de (s.start t) t i=de s t i:=λi=>gJ G;obtain⟨j1,j2,j3,j4,j5,j6,j7,j8,j9,Z⟩:=gz s t;refine h.ep y ⟨fO s t,j1,j2,j3,j9,Z⟩ ⟨rfl,rfl,rfl,rfl,rfl⟩ (λu e=>(dP _ _ e).trans (sX s e)) (λ_ _=>rfl) ⟨?_,λj H=>?_,J.o,?_⟩ (λj H a ha=>?_) ?_ ?_ ?_ ?_ ?_ (λa b a0 W=>?_) ⟨h.N t y,bj _⟩ ⟨bj _,h.B.2⟩
 .rw[G];exact J.l
 .rw[G]at H ⊢;exact J.f j H
 .have Y:((s.start t).T t).wh=none:=by rw[e1];exact jd s t
  refine⟨λ_=>J.h.h2 0 hw,λz e=>?_,λz e=>?_,λz e=>?_,λz e=>?_⟩ <;>
  .rw[Y]at e;cases e
 .rw[G]at H;rw[hf]at ha ⊢;exact Rn.iE y j H a ha
 .show l=(s.dw t).q 2 0;rw[fN hw];show _=(s.eZ 2 0 ((s.q 2 0).erase t)).q 2 0;rw[fX,hq];simp
 .show m.jo=(s.dw t).jo;rw[j5];exact h.Ee
 .show m.sp=(s.dw t).sp;rw[j6];exact h.sp
 .show m.ev=(s.dw t).ev;rw[j4];exact h.ev
 .show m.eY=(s.dw t).eY;rw[j7];exact h.ck
 show((s.dw t).q a b).Pairwise _;exact h.Iq hO.lw (hO.lt t y) (λ_ _=>rfl) a b a0 W
theorem xi{t:Nat}(y:LW s)(ht:fe s t):(s.q 2 0).filter (λu=>decide (u≠t))=(s.dw t).q 2 0:=by
 have o:fz s 2 0:=ag ⟨rfl,rfl⟩;by_cases hw:(s.T t).wh=some (2,0)
 .rw[fN hw];show _=(s.eZ 2 0 ((s.q 2 0).erase t)).q 2 0;rw[fX,(y.c 2 0 o).erase_eq_filter];refine List.filter_congr (λu _=>?_);by_cases e:u=t<;>simp[e]
 rw[vn s hw,List.filter_eq_self];intro u G;have:u≠t:=λe=>hw (by subst e;exact(y.b 2 0 o u G).2);simp[this]
theorem eK.F7(h:eK p K s m ρ){t kind:Nat}{x:Int}{v:B.V}(hO:fS p s X)(a0:t∈s.lv)(hv:dN p s v)(hs:∀u,u≠t->s'.T u=s.T u)(hm:∀u,u≠t->m'.T u=m.T u)(e:s'.nt=s.nt/\s'.lv=s.lv.erase t/\s'.out=s.out.set (t-1) v/\s'.kp=iV s.kp v/\s'.M=s.M/\s'.ck=s.ck)(e1:s'.q=(s.dw t).q)(e2:s'.ev=s.ev++[(kind,t,x)])(e3:s'.jo=s.jo/\s'.sp=s.sp/\s'.eY=s.eY)(f:m'.nt=m.nt/\m'.nc=m.nc/\m'.M=m.M/\m'.ck=m.ck/\m'.G=m.G)(f1:m'.q=m.q.filter (λu=>decide (u≠t)))(f2:m'.ev=m.ev++[(kind,t,x)])(f3:m'.jo=m.jo/\m'.sp=m.sp/\m'.eY=m.eY)(f4:(m'.T t).how=5/\(m'.T t).fr=[]/\(m'.T t).out=tr ρ v)(f5:m'.ji=m.ji):eK p K s' m' ρ:=by
 obtain⟨a1,a2,a3,a4,a5,a6⟩:=e;obtain⟨b1,b2,b3,b4,b5⟩:=f;have ht:=hO.lt t a0;have y:∀u,u∈s'.lv->u∈s.lv/\u≠t:=λu o=>by
  rw[a2]at o;have:=hO.nd.mem_erase_iff.1 o;exact⟨this.2,this.1⟩
 have Y:∀u,fe s u->u≠t->m9 s' u=m9 s u:=λu o hn=>by
  unfold m9;rw[a3,ar,List.getElem?_set_ne (by have:=o.1;have:=ht.1;omega),<-ar]
 have a7:m9 s' t=v:=by
  unfold m9;rw[a3,ar,List.getElem?_set_self (by rw[hO.ol];have:=ht.1;have:=ht.2;omega)];rfl
 have hg:∀u,qw p s' u->dN p s u:=by
  rintro u (⟨c,i,a,W,hi,ha,e⟩|o)
  .obtain⟨W,J⟩:=y c W;have hf:de s' c i=de s c i:=gJ (by rw[hs c J]);rw[hf]at ha e;rw[hs c J]at hi;exact dN.root (ag ⟨c,i,a,W,hi,ha,e⟩)
  rw[a4]at o;rcases og o with o|⟨rfl,_⟩
  .exact dN.root (ab o)
  exact hv
 obtain⟨k1,k2⟩:=h.cells (m':=m') a5 a6 hg ⟨b2,b3,b4⟩;refine⟨by rw[b1,a1];exact h.nt,?_,by rw[f3.1,e3.1];exact h.Ee,by rw[f3.2.1,e3.2.1];exact h.sp,by rw[f2,e2,h.ev],by rw[f3.2.2,e3.2.2];exact h.ck,λu o=>?_,λu o hn=>?_,k1,k2,λu o=>?_,λa b hl hx=>?_,λu o=>?_,by rw[b5,b2];exact h.A,by rw[a2];exact dH (List.erase_sublist.length_le) h.lm,by rw[b2,f5];exact h.B⟩
 .rw[f1,h.q,e1];exact xi hO.lw ht
 .obtain⟨o,H⟩:=y u o;rw[hs u H,hm u H];exact h.T u o
 .by_cases eu:u=t
  .subst eu;rw[a7];exact f4
  have Z:=(eg a1).1 o;rw[hm u eu,Y u Z eu];refine h.O u Z (λa8=>hn ?_);rw[a2];exact(List.mem_erase_of_ne eu).2 a8
 .rw[a4]at o;rcases og o with o|⟨rfl,_⟩
  .obtain⟨c,c1,c2,c3⟩:=h.Kp u o;have J:c≠t:=λe=>c2 (e▸a0);exact⟨c,(eg a1).2 c1,λW=>c2 (y c W).1,by rw[Y c c1 J];exact c3⟩
  exact⟨t,(eg a1).2 ht,λW=>(y t W).2 rfl,a7⟩
 .rw[e1];exact h.Iq hO.lw ht hm a b ((fQ a1).1 hl) hx
 obtain⟨o,H⟩:=y u o;rw[hm u H,f5];exact h.N u o
theorem eK.gone(h:eK p K s m ρ){t kind:Nat}{x:Int}{v:B.V}(W:fS p s X)(i:t∈s.lv)(hv:dN p s v):eK p K (s.gone t v kind x) (m.gone t kind x (tr ρ v)) ρ:=by
 obtain⟨g1,g2,Y,g4,H,g6,J,Z,G,y⟩:=gV s t v kind x;exact h.F7 W i hv (λu e=>mR s v kind x e) (λu e=>fA _ _ e) ⟨iO s t v kind x,g1,g2,Y,J,Z⟩ y G ⟨g4,(gz s t).2.2.2.2.2.1,H⟩ ⟨rfl,rfl,rfl,rfl,rfl⟩ rfl rfl ⟨rfl,rfl,rfl⟩ (by show((m.dv t _).T t).how=_/\((m.dv t _).T t).fr=_/\((m.dv t _).T t).out=_;rw[fG];exact⟨rfl,rfl,rfl⟩) rfl
theorem eK.Jx(h:eK p K s m ρ){t kind:Nat}{x:Int}{v:B.V}(W:fS p s X)(i:t∈s.lv)(hw:(s.T t).wh=none)(hv:dN p s v):eK p K ((s.pop t).gone t v kind x) ((m.pop t).gone t kind x (tr ρ v)) ρ:=by
 obtain⟨g1,g2,Y,g4,H,g6,J,Z,G,y⟩:=gV s t v kind x;rw[px hw];exact h.F7 W i hv (λu e=>(jk _ e).trans (mR s v kind x e)) (λu e=>(fA _ _ e).trans (fA _ _ e)) ⟨iO s t v kind x,g1,g2,Y,J,Z⟩ y G ⟨g4,(gz s t).2.2.2.2.2.1,H⟩ ⟨rfl,rfl,rfl,rfl,rfl⟩ rfl rfl ⟨rfl,rfl,rfl⟩ (by show(((m.pop t).dv t _).T t).how=_/\(((m.pop t).dv t _).T t).fr=_/\(((m.pop t).dv t _).T t).out=_;rw[fG];exact⟨rfl,rfl,rfl⟩) rfl
theorem lP{l:List gY}{i:Nat}(h:i+1<l.length):l.dropLast.getD i mr=l.getD i mr:=by
 rw[ar,List.getElem?_dropLast,aj (by omega),<-ar]
theorem eK.back(h:eK p K s m ρ){t:Nat}{v:B.V}(i:t∈s.lv)(h0:cr s t≠0)(hv:dN p s v):eK p K (s.back t v) ((m.pop t).dx t (pQ m t-1) ((fj m t (pQ m t-1)).set (pR m t).bk.2.1 (tr ρ v))) ρ:=by
 have y:=h.T t i;have e:pQ m t=cr s t:=by unfold pQ cr;rw[y.l]
 have hn:cr s t+1=(s.T t).fr.length:=by unfold cr at h0 ⊢;omega
 have a2:(pR m t).bk.2.1=(bw s t).bk.2.1:=by
  unfold pR;rw[e];exact(y.f (cr s t) (by omega)).bk h0
 rw[e,a2];unfold Pl.back;rw[aa h0];have e1:((s.pop t).dx t (cr s t-1) ((de s t (cr s t-1)).set (de s t (cr s t)).bk.2.1 v)).T t={ (s.T t).kD (s.T t).fr.dropLast with fr:=((s.T t).fr.dropLast).set (cr s t-1) ((de s t (cr s t-1)).set (de s t (cr s t)).bk.2.1 v) }:=by
  unfold Pl.dx;rw[df];unfold Pl.pop;rw[df];rfl
 have J:((m.pop t).dx t (cr s t-1) ((fj m t (cr s t-1)).set (bw s t).bk.2.1 (tr ρ v))).T t=((m.T t).kD (m.T t).fr.dropLast).kD (((m.T t).fr.dropLast).set (cr s t-1) ((fj m t (cr s t-1)).set (bw s t).bk.2.1 (tr ρ v))):=by
  unfold Dm.dx;rw[fG];unfold Dm.pop;rw[fG];rfl
 refine h.ep i ⟨rfl,rfl,rfl,rfl,rfl,rfl⟩ ⟨rfl,rfl,rfl,rfl,rfl⟩ (λu e=>(nC _ _ e).trans (jk _ e)) (λu e=>(fA _ _ e).trans (fA _ _ e)) ⟨?_,λj Y=>?_,?_,?_⟩ (λj Y a ha=>?_) h.q h.Ee h.sp h.ev h.ck (h.L0 rfl (λa=>?_)) ⟨?_,bj _⟩ ⟨bj _,h.B.2⟩
 .rw[e1,J];show(((m.T t).fr.dropLast).set _ _).length=(((s.T t).fr.dropLast).set _ _).length;rw[dq,dq,ef,ef,y.l]
 .rw[e1]at Y ⊢;rw[J];have H:j<(((s.T t).fr.dropLast).set (cr s t-1) ((de s t (cr s t-1)).set (de s t (cr s t)).bk.2.1 v)).length:=Y;rw[dq,ef]at H;show FS p ρ j ((((s.T t).fr.dropLast).set _ _).getD j mr) ((((m.T t).fr.dropLast).set _ _).getD j mr);rw[jU (by rw[ef];omega),jU (by rw[ef,y.l];omega)];by_cases G:j=cr s t-1
  .rw[aj G,aj G,G];have Z:=y.f (cr s t-1) (by omega);refine⟨Z.f,Z.nx,Z.bk,λk hk=>?_⟩;show B.set (fj m t (cr s t-1)).R _ (tr ρ v) k=tr ρ (B.set (de s t (cr s t-1)).R _ v k);by_cases W:k=(de s t (cr s t)).bk.2.1
   .subst W;rw[B.ie,B.ie]
   rw[B.gS _ _ _ _ W,B.gS _ _ _ _ W];exact Z.R k hk
  rw[aa G,aa G,lP (by omega),lP (by rw[y.l];omega)];exact y.f j (by omega)
 .rw[J];exact y.o
 .rw[e1,J];exact y.h.same rfl rfl rfl rfl rfl rfl rfl
 .rw[e1]at Y;have H:j<(((s.T t).fr.dropLast).set (cr s t-1) ((de s t (cr s t-1)).set (de s t (cr s t)).bk.2.1 v)).length:=Y;rw[dq,ef]at H
  by_cases G:j=cr s t-1
  .subst G;rw[ko (s.pop t) _ (by rw[rp];omega)]at ha ⊢;show dN p s (B.set (de s t (cr s t-1)).R _ v a);by_cases W:a=(de s t (cr s t)).bk.2.1
   .subst W;rw[B.ie];exact hv
   rw[B.gS _ _ _ _ W];exact Rn.iE i _ (by omega) a ha
  rw[jR (s.pop t) _ (λe'=>G e'.2),oa s (λ_=>by omega)]at ha ⊢;exact Rn.iE i j (by omega) a ha
 .by_cases ea:a=t
  .subst ea;rw[J];exact⟨rfl,rfl⟩
  rw[show((m.pop t).dx t (cr s t-1) ((fj m t (cr s t-1)).set (bw s t).bk.2.1 (tr ρ v))).T a=m.T a from(fA _ _ ea).trans (fA _ _ ea)];exact⟨rfl,rfl⟩
 rw[J];exact h.N t i
theorem kC{l:List gY}{f:gY}{i:Nat}:(l++[f]).getD i mr=if i=l.length then f else l.getD i mr:=by
 by_cases e:i=l.length
 .rw[aj e,e,ar,dX (bj _)];simp
 rw[aa e,ar,ar];rcases Nat.lt_or_ge i l.length with h|h
 .rw[du h]
 rw[cw (l:=l) h,cw (by rw[bo];simp;omega)]
theorem eK.push(h:eK p K s m ρ){t:Nat}{f G:gY}(y:t∈s.lv)(hf:FS p ρ (s.T t).fr.length f G)(hR:∀a,a<p.rg f.f->dN p s (f.R a)):eK p K (s.push t f) (m.push t G) ρ:=by
 have W:=h.T t y;have Z:(s.push t f).T t=(s.T t).kD ((s.T t).fr++[f]):=df _ _ _;have H:(m.push t G).T t=(m.T t).kD ((m.T t).fr++[G]):=fG _ _ _;refine h.ep y ⟨rfl,rfl,rfl,rfl,rfl,rfl⟩ ⟨rfl,rfl,rfl,rfl,rfl⟩ (λu e=>oN s f e) (λu e=>fA _ _ e) ⟨?_,λj J=>?_,?_,?_⟩ (λj J a Y=>?_) h.q h.Ee h.sp h.ev h.ck (h.L0 rfl (λa=>?_)) ⟨?_,bj _⟩ ⟨bj _,h.B.2⟩
 .rw[Z,H];show((m.T t).fr++[G]).length=((s.T t).fr++[f]).length;rw[bo,bo,W.l];rfl
 .rw[Z]at J ⊢;rw[H];have i:j<((s.T t).fr++[f]).length:=J;rw[bo]at i;show FS p ρ j (((s.T t).fr++[f]).getD j mr) (((m.T t).fr++[G]).getD j mr);rw[kC,kC,W.l];by_cases e:j=(s.T t).fr.length
  .rw[aj e,aj e,e];exact hf
  rw[aa e,aa e];exact W.f j (by simp at i;omega)
 .rw[H];exact W.o
 .rw[Z,H];exact W.h.same rfl rfl rfl rfl rfl rfl rfl
 .rw[rm,bo]at J;by_cases e:j=(s.T t).fr.length
  .subst e;rw[vj]at Y ⊢;exact hR a Y
  have i:j<(s.T t).fr.length:=by simp at J;omega
  rw[nI s f (λ_=>i)]at Y ⊢;exact Rn.iE y j i a Y
 .by_cases ea:a=t
  .subst ea;rw[H];exact⟨rfl,rfl⟩
  rw[show(m.push t G).T a=m.T a from fA _ _ ea];exact⟨rfl,rfl⟩
 rw[H];exact h.N t y
theorem eK.kj(h:eK p K s m ρ){t:Nat}(y:t∈s.lv):eK p K (s.kj t) ((m.told 5 t 0).zu) ρ:=by
 have J:=h.T t y;have Y:(s.kj t).T t=(s.T t).stop:=df _ _ _;have G:((s.kj t).T t).fr=(s.T t).fr:=by rw[Y];rfl
 have Z:∀i,de (s.kj t) t i=de s t i:=λi=>gJ G;refine h.ep y ⟨rfl,rfl,rfl,rfl,rfl,rfl⟩ ⟨rfl,rfl,rfl,rfl,rfl⟩ (λu e=>dP _ _ e) (λu e=>rfl) ⟨?_,λj H=>?_,J.o,?_⟩ (λj H a W=>?_) h.q h.Ee rfl ?_ h.ck (h.L0 rfl (λa=>⟨rfl,rfl⟩)) ⟨h.N t y,bj _⟩ ⟨bj _,h.B.2⟩
 .rw[G];exact J.l
 .rw[G]at H ⊢;exact J.f j H
 .rw[Y];exact J.h.same rfl rfl rfl rfl rfl rfl rfl
 .rw[G]at H;rw[Z]at W ⊢;exact Rn.iE y j H a W
 show m.ev++[(5,t,0)]=s.ev++[(5,t,0)];rw[h.ev]
theorem iw(h:eK p K s m ρ)(t:Nat):mF m t↔fe s t:=by
 unfold mF fe;rw[h.nt]
theorem eK.wh(h:eK p K s m ρ)(o:fS p s X){t:Nat}(i:t∈s.lv):((s.T t).wh=none/\(m.T t).how=1)\/((s.T t).wh=some (2,0)/\(m.T t).how=1)\/((s.T t).wh=some (3,0)/\(m.T t).how=2)\/(∃k,k<4/\(s.T t).wh=some (4,k)/\(m.T t).how=3/\(m.T t).what=k)\/(∃u,fe s u/\(s.T t).wh=some (5,u)/\(m.T t).how=4/\(m.T t).what=u):=by
 have e:=(h.T t i).h
 cases hw:(s.T t).wh with
 | none=>exact ag ⟨rfl,e.h0 hw⟩
 | some J=>
  obtain⟨x,y⟩:=J;obtain⟨W,_,_⟩:=o.lw.a t (o.lt t i) x y hw;rcases W with⟨rfl,rfl⟩|⟨rfl,rfl⟩|⟨rfl,H⟩|⟨rfl,G⟩
  .exact ab (ag ⟨rfl,e.h2 0 hw⟩)
  .exact ab (ab (ag ⟨rfl,(e.h3 0 hw).1⟩))
  .exact ab (ab (ab (ag ⟨y,H,rfl,(e.h4 y hw).1,(e.h4 y hw).2.1⟩)))
  exact ab (ab (ab (ab ⟨y,G,rfl,(e.h5 y hw).1,(e.h5 y hw).2.1⟩)))
theorem eK.how(h:eK p K s m ρ)(u:fS p s X){t:Nat}(ht:fe s t):((m.T t).how≠5↔t∈s.lv):=by
 constructor
 .intro o;exact Classical.byContradiction λhn=>o (h.O t ht hn).1
 intro i;rcases h.wh u i with e|e|e|⟨_,_,_,e,_⟩|⟨_,_,_,e,_⟩<;>(first|have e:=e.2|skip)<;>omega
theorem eK.live(h:eK p K s m ρ)(i:fS p s X){N:Nat}(o:D7 m N):N=s.lv.length:=
 o.uniq (Q:=λt=>t∈s.lv) ⟨s.lv,i.nd,λ_=>Iff.rfl,rfl⟩ (λt=>by
  rw[iw h];constructor
  .rintro⟨e,u⟩;exact(h.how i e).1 u
  intro e;exact⟨i.lt t e,(h.how i (i.lt t e)).2 e⟩)
theorem eK.JW(h:eK p K s m ρ)(i:fS p s X){x y t:Nat}(W:fz s x y)(hx:x=4\/x=5):(mF m t/\(m.T t).how=x-1/\(m.T t).what=y)↔t∈s.q x y:=by
 rw[iw h];constructor
 .rintro⟨ht,h1,h2⟩;rcases h.wh i ((h.how i ht).1 (by omega)) with e|e|e|⟨k,hk,H,Z,Y⟩|⟨u,hu,H,Z,Y⟩
  .omega
  .omega
  .omega
  .obtain rfl:x=4:=by omega
   obtain rfl:k=y:=by omega
   exact(i.lw.a t ht _ _ H).2.1
  obtain rfl:x=5:=by omega
  obtain rfl:u=y:=by omega
  exact(i.lw.a t ht _ _ H).2.1
 intro J;obtain⟨ht,hw⟩:=i.lw.b x y W t J;have o:=(h.T t (i.ql x y W t J)).h;rcases hx with rfl|rfl
 .exact⟨ht,(o.h4 y hw).1,(o.h4 y hw).2.1⟩
 exact⟨ht,(o.h5 y hw).1,(o.h5 y hw).2.1⟩
theorem eK.first(h:eK p K s m ρ)(o:fS p s X){x y b:Nat}(i:fz s x y)(hx:x=4\/x=5)(G:Iv m (x-1) y b):(b=0/\s.q x y=[])\/∃l,s.q x y=b :: l:=by
 rcases G with⟨rfl,G⟩|⟨Z,W,Y,b4⟩
 .left
  refine⟨rfl,?_⟩
  cases hq:s.q x y with
  | nil=>rfl
  | cons a l=>
   have:=(h.JW o i hx (t:=a)).2 (by rw[hq];simp);exact ch this.2 (G a this.1)
 right
 have e:=(h.JW o i hx).1 ⟨Z,W,Y⟩
 cases hq:s.q x y with
 | nil=>rw[hq]at e;cases e
 | cons a l=>
  refine⟨l,?_⟩;rw[hq]at e;rcases List.mem_cons.1 e with rfl|e
  .rfl
  have H:=h.L x y i (by omega);rw[hq,List.pairwise_cons]at H;have J:=H.1 b e;unfold FI at J;rw[aa (by omega)]at J;have u:=(h.JW o i hx (t:=a)).2 (by rw[hq];simp);have:=b4 a u.1 u.2.1 u.2.2;omega
theorem eK.JX(h:eK p K s m ρ)(i:fS p s X){t:Nat}:(mF m t/\(m.T t).how=2)↔t∈s.q 3 0:=by
 have G:fz s 3 0:=ab (ag ⟨rfl,rfl⟩);rw[iw h];constructor
 .rintro⟨ht,h1⟩;rcases h.wh i ((h.how i ht).1 (by omega)) with e|e|e|⟨k,Z,W,J,H⟩|⟨u,Y,W,J,H⟩
  .omega
  .omega
  .exact(i.lw.a t ht _ _ e.1).2.1
  .omega
  omega
 intro y;obtain⟨ht,hw⟩:=i.lw.b 3 0 G t y;exact⟨ht,((h.T t (i.ql 3 0 G t y)).h.h3 0 hw).1⟩
theorem eK.km(h:eK p K s m ρ)(o:fS p s X){t:Nat}(e:t∈s.q 3 0):(m.T t).km=(s.T t).iL:=by
 have i:fz s 3 0:=ab (ag ⟨rfl,rfl⟩);exact((h.T t (o.ql 3 0 i t e)).h.h3 0 (o.lw.b 3 0 i t e).2).2
theorem eK.due(h:eK p K s m ρ)(u:fS p s X){b:Nat}(H:Iw m b):(b=0/\∀a l,s.q 3 0=a :: l->¬(s.T a).iL<=s.eY)\/(b≠0/\∃l,s.q 3 0=b :: l/\(s.T b).iL<=s.eY):=by
 rcases H with⟨rfl,H⟩|⟨W,b2,b3,b4⟩
 .left
  refine⟨rfl,λa l o hc=>?_⟩;have i:a∈s.q 3 0:=by rw[o];simp
  have:=(h.JX u).2 i;exact H a this.1 ⟨this.2,by rw[h.km u i,h.ck];exact hc⟩
 right
 have y:=(h.JX u).1 ⟨W,b2⟩;refine⟨by omega,?_⟩
 cases o:s.q 3 0 with
 | nil=>rw[o]at y;cases y
 | cons a l=>
  have e:=y;rw[o]at e;rcases List.mem_cons.1 e with rfl|e
  .exact⟨l,rfl,by rw[<-h.km u y,<-h.ck];exact b3⟩
  exfalso
  have Z:=h.L 3 0 (ab (ag ⟨rfl,rfl⟩)) (by decide);rw[o,List.pairwise_cons]at Z;have J:=Z.1 b e;unfold FI at J;rw[aj rfl]at J;have i:a∈s.q 3 0:=by rw[o];simp
  have Y:=(h.JX u).2 i;have h2:=b4 a Y.1 Y.2 (by omega);unfold xw at h2;omega
def D4(d:Dp)(m:Dm)(v:B.V):Prop:=(∃t,mF m t/\(m.T t).out=v)\/∃t i a,mF m t/\i<(m.T t).fr.length/\a<d.rg (fj m t i).f/\(fj m t i).R a=v
inductive lT (d : Dp) (m : Dm) : Nat → Prop
  | root {v : B.V} : D4 d m v → v.1 ≠ 0 → lT d m v.1
  | slot {c : Nat} {v : B.V} : lT d m c → v ∈ m.M c → v.1 ≠ 0 → lT d m v.1
def kg(d:Dp)(m:Dm)(N:Nat):Prop:=BJ (lT d m) N
theorem ou.ind{P:Nat->Prop}{c:Nat}(y:ou p s c)(H:∀v,qw p s v->v.1≠0->P v.1)(G:∀k v,ou p s k->P k->v∈s.M k->v.1≠0->P v.1):P c:=by
 have:=y (λk=>ou p s k/\P k) (λi hi e=>⟨B.nH (B.nZ hi) e,H _ (gi.1 (B.nZ hi)) e⟩) (λk o v u e=>⟨B.kA o.1 u e,G k v o.1 o.2 u e⟩);exact this.2
theorem eK.KP(h:eK p K s m ρ){d:Dp}(hO:Ok p s)(hP:PD p d){c:Nat}(hc:ou p s c):lT d m (ρ c):=by
 refine hc.ind (P:=λc=>lT d m (ρ c)) (λv o e=>?_) (λk v hk Y o e=>?_)
 .rcases o with⟨u,i,a,y,hi,G,rfl⟩|o
  .have hT:=h.T u y;have J:=hT.f i hi;have:=lT.root (d:=d) (m:=m) (v:=(fj m u i).R a) (ab ⟨u,i,a,(iw h u).2 (hO.lt u y),by rw[hT.l];exact hi,?_,rfl⟩) ?_
   .rw[show(fj m u i).R a=tr ρ ((de s u i).R a) from J.R a G,oZ e]at this;exact this
   .rw[show(fj m u i).f=(de s u i).f from J.f,hP.rg (de s u i).f ((hO.fw u y trivial).f i hi).1];exact G
   rw[show(fj m u i).R a=tr ρ ((de s u i).R a) from J.R a G,oZ e];have:=(h.C _ (B.nH (gi.2 (ag ⟨u,i,a,y,hi,G,rfl⟩)) e)).c1;show ρ _≠0;omega
  obtain⟨t,t1,t2,t3⟩:=h.Kp v o;have Z:=(h.O t t1 t2).2.2;rw[t3,oZ e]at Z;have:=lT.root (d:=d) (m:=m) (v:=(m.T t).out) (ag ⟨t,(iw h t).2 t1,rfl⟩) ?_
  .rw[Z]at this;exact this
  rw[Z];have:=(h.C _ (B.nH (gi.2 (ab o)) e)).c1;show ρ _≠0;omega
 have:=lT.slot (d:=d) (m:=m) (v:=tr ρ v) Y (by rw[(h.C k hk).M];exact ek.2 ⟨v,o,rfl⟩) ?_
 .rw[oZ e]at this;exact this
 rw[oZ e];have:=(h.C _ (B.kA hk o e)).c1;show ρ _≠0;omega
theorem eK.Jc(h:eK p K s m ρ){d:Dp}(hO:Ok p s)(hP:PD p d){c:Nat}(hc:lT d m c):∃k,ou p s k/\ρ k=c:=by
 induction hc with
 | @root v hv Z=>
  have W:∀u,qw p s u->tr ρ u=v->∃k,ou p s k/\ρ k=v.1:=λu hu e=>by
   have H:u.1≠0:=λJ=>Z (by rw[<-e,om J];exact J);refine⟨u.1,B.nH (gi.2 hu) H,?_⟩;rw[<-e,oZ H]
  rcases hv with⟨t,ht,e⟩|⟨t,i,a,ht,hi,ha,e⟩
  .have G:=(iw h t).1 ht;by_cases y:t∈s.lv
   .rw[(h.T t y).o]at e;exact ch (by rw[<-e]) Z
   have ho:=(h.O t G y).2.2;have Y:t-1<s.out.length:=by rw[hO.ol];have:=G.2;omega
   have a0:m9 s t∈s.out:=by
    unfold m9;rw[ar,bn Y];exact List.getElem_mem Y
   rcases hO.ok _ a0 with J|J
   .rw[om J,e]at ho;exact ch (by rw[ho];exact J) Z
   exact W _ (ab J) (by rw[<-ho];exact e)
  have G:=(iw h t).1 ht;by_cases y:t∈s.lv
  .have hT:=h.T t y;rw[hT.l]at hi;have hF:=hT.f i hi;have hf:(fj m t i).f=(de s t i).f:=hF.f;rw[hf,hP.rg (de s t i).f ((hO.fw t y trivial).f i hi).1]at ha;exact W _ (ag ⟨t,i,a,y,hi,ha,rfl⟩) ((hF.R a ha).symm.trans e)
  rw[(h.O t G y).2.1]at hi;exact ch hi (Nat.not_lt_zero _)
 | @slot c v hc hv Z ih=>
  obtain⟨k,hk,rfl⟩:=ih;rw[(h.C k hk).M]at hv;obtain⟨u,hu,rfl⟩:=ek.1 hv;have H:u.1≠0:=λJ=>Z (by rw[om J];exact J);exact⟨u.1,B.kA hk hu H,by rw[oZ H]⟩
theorem kB{f:Nat->Nat}:∀(l:List Nat),l.Nodup->(∀a,a∈l->∀b,b∈l->f a=f b->a=b)->(l.map f).Nodup
 | [],_,_=>List.nodup_nil
 | a :: l,h,hf=>by
  rw[List.nodup_cons]at h;rw[List.map_cons,List.nodup_cons];refine⟨λu=>?_,kB l h.2 (λb i c o=>hf b (by simp[i]) c (by simp[o]))⟩;obtain⟨b,i,e⟩:=ek.1 u;have:=hf b (by simp[i]) a (by simp) e;exact h.1 (this▸i)
theorem C6:∀(n:Nat) (l:List Nat),(∀c,1<=c->c<=n->c∈l)->n<=l.length
 | 0,_,_=>dc _
 | n+1,l,h=>by
  have i:=h (n+1) (by omega) (bj _);have:=C6 n (l.erase (n+1)) (λc c1 o=>(List.mem_erase_of_ne (by omega)).2 (h c c1 (by omega)));rw[List.length_erase_of_mem i]at this;have:l.length≠0:=λe=>by rw[cf.1 e]at i;cases i
  omega
theorem eK.count(h:eK p K s m ρ){d:Dp}(G:Ok p s)(hP:PD p d){N:Nat}(J:kg d m N):∃l:List Nat,l.Nodup/\(∀c,c∈l↔ou p s c)/\N=l.length:=by
 classical
 let l:=((List.range (p.n+1)).filter (λc=>decide (ou p s c)))
 have u:∀c,c∈l↔ou p s c:=λc=>by
  show c∈(List.range (p.n+1)).filter (λc=>decide (ou p s c))↔_;rw[List.mem_filter,eJ];constructor
  .intro i;exact dO i.2
  intro i;exact⟨by have:=(B.po G.hl i).2.2;omega,fh i⟩
 have o:l.Nodup:=List.nodup_range.filter _;refine⟨l,o,u,?_⟩;have H:(l.map ρ).Nodup:=by
  exact kB _ o (λa W b Y e=>h.I a b ((u a).1 W) ((u b).1 Y) e)
 have:=J.uniq (Q:=lT d m) (K:=(l.map ρ).length) ⟨l.map ρ,H,λc=>?_,rfl⟩ (λ_=>Iff.rfl)
 .rw[this,dS]
 rw[ek];constructor
 .rintro⟨k,y,rfl⟩;exact h.KP G hP ((u k).1 y)
 intro i;obtain⟨k,y,rfl⟩:=h.Jc G hP i;exact⟨k,(u k).2 y,rfl⟩
theorem eK.room(h:eK p K s m ρ){d:Dp}(H:Ok p s)(hP:PD p d){N:Nat}(hN:kg d m N):N<=p.n/\(N<p.n↔∃c,1<=c/\c<=p.n/\¬ou p s c):=by
 classical
 obtain⟨l,J,u,rfl⟩:=h.count H hP hN;have i:=λc o=>(B.po H.hl ((u c).1 o)).2;refine⟨gn p.n l J i,λW=>?_,λ⟨c,c1,y,c3⟩=>?_⟩
 .refine Classical.byContradiction λG=>?_;have:=C6 p.n l (λc c1 y=>(u c).2 (Classical.byContradiction λZ=>G ⟨c,c1,y,Z⟩));omega
 have Y:=gn p.n (c :: l) (List.nodup_cons.2 ⟨λo=>c3 ((u c).1 o),J⟩) (λt ht=>by
  rcases List.mem_cons.1 ht with rfl|ht
  .exact⟨c1,y⟩
  exact i t ht)
 rw[List.length_cons]at Y;omega
end D
end Go.Proofs.YtnjiinbhbjpfkaaGreatDoor
