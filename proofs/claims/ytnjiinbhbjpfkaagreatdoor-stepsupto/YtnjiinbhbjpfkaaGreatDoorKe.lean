import Derived.Test.YtnjiinbhbjpfkaaGreatDoorKd
import Derived.Test.YtnjiinbhbjpfkaaGreatDoorKY
import Derived.Test.YtnjiinbhbjpfkaaGreatDoorKX
set_option maxRecDepth 100000
set_option maxHeartbeats 0
set_option linter.all false
namespace Go.Proofs.YtnjiinbhbjpfkaaGreatDoor
open Go.RowKit Go.Proofs.Tryz
namespace D
open F
variable {p : dz} {K K' : Nat} {s s' : Pl} {m m' : Dm} {ρ : Nat → Nat} {X : Nat → Prop}
theorem eK.fJ(h:eK p K s m ρ){t:Nat}(o:fS p s X)(i:t∈s.lv)(hX:X t){k:yi}(W:(s.T t).lf=some k)(hi:(m.T t).into=(k.2.1:Int)){v:B.V}(J:dN p s v):eK p K (s.fJ t v) (m.ready t (tr ρ v)) ρ:=by
 obtain⟨x,y,hw,a0⟩:=o.lf t (o.lt t i) (by rw[W];simp);have hn:=(o.fw t i hX).n1;have G:cr s t<(s.T t).fr.length:=by
  have:(s.T t).fr.length≠0:=λe=>hn (cf.1 e);unfold cr;omega
 have H:(m.dx t (pQ m t) ((pR m t).set k.2.1 (tr ρ v))).T t=(m.T t).kD ((m.T t).fr.set (pQ m t) ((pR m t).set k.2.1 (tr ρ v))):=fG _ _ _;rw[nT v W];have Y:m.ready t (tr ρ v)=((m.dx t (pQ m t) ((pR m t).set k.2.1 (tr ρ v))).dv t (((m.T t).hw 1).kD ((m.T t).fr.set (pQ m t) ((pR m t).set k.2.1 (tr ρ v))))).qv t:=by
  unfold Dm.ready;rw[hi,aj (by omega),lH];unfold Dm.dx;rw[iT];show((m.tW t).dv t ((((m.dv t ((m.T t).hw 1)).T t)).kD ((((m.dv t ((m.T t).hw 1)).T t)).fr.set _ _)))=_;rw[fG];show(((m.dv t ((m.T t).hw 1)).dv t _).qv t)=_;rw[iT];rfl
 rw[Y];exact (h.oD i hn k.2.1 J).join (t:=t) (x:=((m.T t).hw 1).kD ((m.T t).fr.set (pQ m t) ((pR m t).set k.2.1 (tr ρ v)))) (o.oD i hX G k.2.1 J) i (by rw[(gj s t _ t _).1,hw];intro e;injection e with e;injection e with e _;omega) ⟨by rw[H];rfl,by rw[H];rfl,by rw[H];rfl,rfl⟩
theorem eK.KH(h:eK p K s m ρ){t:Nat}(u:fS p s X)(i:t∈s.lv)(hw:(s.T t).wh≠some (2,0)){x:Dt}(o:x={ m.T t with into:=-1 })(v:B.V):eK p K (s.dV 2 0 t) ((m.dv t x).ready t v) ρ:=by
 subst o;have e:(m.dv t { m.T t with into:=-1 }).ready t v=(m.dv t (({ m.T t with into:=-1 }:Dt).hw 1)).qv t:=by
  unfold Dm.ready;rw[fG,aa (by show ¬(0:Int)<=-1;omega)];unfold Dm.tW;rw[fG,iT]
 rw[e];exact h.join u i hw ⟨rfl,rfl,rfl,rfl⟩
theorem eK.start(h:eK p K s m ρ){t:Nat}{l:List Nat}(hO:fS p s X)(y:t∈s.lv)(hq:s.q 2 0=t :: l):eK p K (s.start t) (m.eZ l) ρ:=by
 have J:=h.T t y;have hw:=(hO.lw.b 2 0 (ag ⟨rfl,rfl⟩) t (by rw[hq];simp)).2;have e1:(s.start t).T t={ (s.dw t).T t with run:=true }:=df _ _ _;have G:((s.start t).T t).fr=(s.T t).fr:=by rw[e1];exact ku s t t
 have hf:∀i,de (s.start t) t i=de s t i:=λi=>gJ G;obtain⟨j1,j2,j3,j4,j5,j6,j7,j8,j9,Z⟩:=gz s t;refine h.ep y ⟨fO s t,j1,j2,j3,j9,Z⟩ ⟨rfl,rfl,rfl,rfl,rfl⟩ (λu e=>(dP _ _ e).trans (sX s e)) (λ_ _=>rfl) ⟨?_,λj H=>?_,J.o,?_⟩ (λj H a ha=>?_) ?_ ?_ ?_ ?_ ?_ (λa b a0 W=>?_) ⟨h.N t y,bj _⟩ ⟨bj _,h.B.2⟩
 .rw[G];exact J.l
 .rw[G]at H ⊢;exact J.f j H
 .have Y:((s.start t).T t).wh=none:=by rw[e1];exact jd s t
  refine⟨λ_=>J.h.h2 0 hw,λz e=>?_,λz e=>?_,λz e=>?_,λz e=>?_⟩ <;>
  .rw[Y]at e;cases e
 .rw[G]at H;rw[hf]at ha ⊢;exact Rn.iE y j H a ha
 .show l=(s.dw t).q 2 0;rw[fN hw];show _=(s.eZ 2 0 ((s.q 2 0).erase t)).q 2 0;rw[fX,hq];simp
 .show m.jo=(s.dw t).jo;rw[j5];exact h.Ee
 .show m.sp=(s.dw t).sp;rw[j6];exact h.sp
 .show m.ev=(s.dw t).ev;rw[j4];exact h.ev
 .show m.eY=(s.dw t).eY;rw[j7];exact h.ck
 show((s.dw t).q a b).Pairwise _;exact h.Iq hO.lw (hO.lt t y) (λ_ _=>rfl) a b a0 W
theorem xi{t:Nat}(y:LW s)(ht:fe s t):(s.q 2 0).filter (λu=>decide (u≠t))=(s.dw t).q 2 0:=by
 have o:fz s 2 0:=ag ⟨rfl,rfl⟩;by_cases hw:(s.T t).wh=some (2,0)
 .rw[fN hw];show _=(s.eZ 2 0 ((s.q 2 0).erase t)).q 2 0;rw[fX,(y.c 2 0 o).erase_eq_filter];refine List.filter_congr (λu _=>?_);by_cases e:u=t<;>simp[e]
 rw[vn s hw,List.filter_eq_self];intro u G;have:u≠t:=λe=>hw (by subst e;exact(y.b 2 0 o u G).2);simp[this]
theorem eK.F7(h:eK p K s m ρ){t kind:Nat}{x:Int}{v:B.V}(hO:fS p s X)(a0:t∈s.lv)(hv:dN p s v)(hs:∀u,u≠t->s'.T u=s.T u)(hm:∀u,u≠t->m'.T u=m.T u)(e:s'.nt=s.nt/\s'.lv=s.lv.erase t/\s'.out=s.out.set (t-1) v/\s'.kp=iV s.kp v/\s'.M=s.M/\s'.ck=s.ck)(e1:s'.q=(s.dw t).q)(e2:s'.ev=s.ev++[(kind,t,x)])(e3:s'.jo=s.jo/\s'.sp=s.sp/\s'.eY=s.eY)(f:m'.nt=m.nt/\m'.nc=m.nc/\m'.M=m.M/\m'.ck=m.ck/\m'.G=m.G)(f1:m'.q=m.q.filter (λu=>decide (u≠t)))(f2:m'.ev=m.ev++[(kind,t,x)])(f3:m'.jo=m.jo/\m'.sp=m.sp/\m'.eY=m.eY)(f4:(m'.T t).how=5/\(m'.T t).fr=[]/\(m'.T t).out=tr ρ v)(f5:m'.ji=m.ji):eK p K s' m' ρ:=by
 obtain⟨a1,a2,a3,a4,a5,a6⟩:=e;obtain⟨b1,b2,b3,b4,b5⟩:=f;have ht:=hO.lt t a0;have y:∀u,u∈s'.lv->u∈s.lv/\u≠t:=λu o=>by
  rw[a2]at o;have:=hO.nd.mem_erase_iff.1 o;exact⟨this.2,this.1⟩
 have Y:∀u,fe s u->u≠t->m9 s' u=m9 s u:=λu o hn=>by
  unfold m9;rw[a3,ar,List.getElem?_set_ne (by have:=o.1;have:=ht.1;omega),<-ar]
 have a7:m9 s' t=v:=by
  unfold m9;rw[a3,ar,List.getElem?_set_self (by rw[hO.ol];have:=ht.1;have:=ht.2;omega)];rfl
 have hg:∀u,qw p s' u->dN p s u:=by
  rintro u (⟨c,i,a,W,hi,ha,e⟩|o)
  .obtain⟨W,J⟩:=y c W;have hf:de s' c i=de s c i:=gJ (by rw[hs c J]);rw[hf]at ha e;rw[hs c J]at hi;exact dN.root (ag ⟨c,i,a,W,hi,ha,e⟩)
  rw[a4]at o;rcases og o with o|⟨rfl,_⟩
  .exact dN.root (ab o)
  exact hv
 obtain⟨k1,k2⟩:=h.cells (m':=m') a5 a6 hg ⟨b2,b3,b4⟩;refine⟨by rw[b1,a1];exact h.nt,?_,by rw[f3.1,e3.1];exact h.Ee,by rw[f3.2.1,e3.2.1];exact h.sp,by rw[f2,e2,h.ev],by rw[f3.2.2,e3.2.2];exact h.ck,λu o=>?_,λu o hn=>?_,k1,k2,λu o=>?_,λa b hl hx=>?_,λu o=>?_,by rw[b5,b2];exact h.A,by rw[a2];exact dH (List.erase_sublist.length_le) h.lm,by rw[b2,f5];exact h.B⟩
 .rw[f1,h.q,e1];exact xi hO.lw ht
 .obtain⟨o,H⟩:=y u o;rw[hs u H,hm u H];exact h.T u o
 .by_cases eu:u=t
  .subst eu;rw[a7];exact f4
  have Z:=(eg a1).1 o;rw[hm u eu,Y u Z eu];refine h.O u Z (λa8=>hn ?_);rw[a2];exact(List.mem_erase_of_ne eu).2 a8
 .rw[a4]at o;rcases og o with o|⟨rfl,_⟩
  .obtain⟨c,c1,c2,c3⟩:=h.Kp u o;have J:c≠t:=λe=>c2 (e▸a0);exact⟨c,(eg a1).2 c1,λW=>c2 (y c W).1,by rw[Y c c1 J];exact c3⟩
  exact⟨t,(eg a1).2 ht,λW=>(y t W).2 rfl,a7⟩
 .rw[e1];exact h.Iq hO.lw ht hm a b ((fQ a1).1 hl) hx
 obtain⟨o,H⟩:=y u o;rw[hm u H,f5];exact h.N u o
theorem eK.gone(h:eK p K s m ρ){t kind:Nat}{x:Int}{v:B.V}(W:fS p s X)(i:t∈s.lv)(hv:dN p s v):eK p K (s.gone t v kind x) (m.gone t kind x (tr ρ v)) ρ:=by
 obtain⟨g1,g2,Y,g4,H,g6,J,Z,G,y⟩:=gV s t v kind x;exact h.F7 W i hv (λu e=>mR s v kind x e) (λu e=>fA _ _ e) ⟨iO s t v kind x,g1,g2,Y,J,Z⟩ y G ⟨g4,(gz s t).2.2.2.2.2.1,H⟩ ⟨rfl,rfl,rfl,rfl,rfl⟩ rfl rfl ⟨rfl,rfl,rfl⟩ (by show((m.dv t _).T t).how=_/\((m.dv t _).T t).fr=_/\((m.dv t _).T t).out=_;rw[fG];exact⟨rfl,rfl,rfl⟩) rfl
theorem eK.Jx(h:eK p K s m ρ){t kind:Nat}{x:Int}{v:B.V}(W:fS p s X)(i:t∈s.lv)(hw:(s.T t).wh=none)(hv:dN p s v):eK p K ((s.pop t).gone t v kind x) ((m.pop t).gone t kind x (tr ρ v)) ρ:=by
 obtain⟨g1,g2,Y,g4,H,g6,J,Z,G,y⟩:=gV s t v kind x;rw[px hw];exact h.F7 W i hv (λu e=>(jk _ e).trans (mR s v kind x e)) (λu e=>(fA _ _ e).trans (fA _ _ e)) ⟨iO s t v kind x,g1,g2,Y,J,Z⟩ y G ⟨g4,(gz s t).2.2.2.2.2.1,H⟩ ⟨rfl,rfl,rfl,rfl,rfl⟩ rfl rfl ⟨rfl,rfl,rfl⟩ (by show(((m.pop t).dv t _).T t).how=_/\(((m.pop t).dv t _).T t).fr=_/\(((m.pop t).dv t _).T t).out=_;rw[fG];exact⟨rfl,rfl,rfl⟩) rfl
theorem lP{l:List gY}{i:Nat}(h:i+1<l.length):l.dropLast.getD i mr=l.getD i mr:=by
 rw[ar,List.getElem?_dropLast,aj (by omega),<-ar]
theorem eK.back(h:eK p K s m ρ){t:Nat}{v:B.V}(i:t∈s.lv)(h0:cr s t≠0)(hv:dN p s v):eK p K (s.back t v) ((m.pop t).dx t (pQ m t-1) ((fj m t (pQ m t-1)).set (pR m t).bk.2.1 (tr ρ v))) ρ:=by
 have y:=h.T t i;have e:pQ m t=cr s t:=by unfold pQ cr;rw[y.l]
 have hn:cr s t+1=(s.T t).fr.length:=by unfold cr at h0 ⊢;omega
 have a2:(pR m t).bk.2.1=(bw s t).bk.2.1:=by
  unfold pR;rw[e];exact(y.f (cr s t) (by omega)).bk h0
 rw[e,a2];unfold Pl.back;rw[aa h0];have e1:((s.pop t).dx t (cr s t-1) ((de s t (cr s t-1)).set (de s t (cr s t)).bk.2.1 v)).T t={ (s.T t).kD (s.T t).fr.dropLast with fr:=((s.T t).fr.dropLast).set (cr s t-1) ((de s t (cr s t-1)).set (de s t (cr s t)).bk.2.1 v) }:=by
  unfold Pl.dx;rw[df];unfold Pl.pop;rw[df];rfl
 have J:((m.pop t).dx t (cr s t-1) ((fj m t (cr s t-1)).set (bw s t).bk.2.1 (tr ρ v))).T t=((m.T t).kD (m.T t).fr.dropLast).kD (((m.T t).fr.dropLast).set (cr s t-1) ((fj m t (cr s t-1)).set (bw s t).bk.2.1 (tr ρ v))):=by
  unfold Dm.dx;rw[fG];unfold Dm.pop;rw[fG];rfl
 refine h.ep i ⟨rfl,rfl,rfl,rfl,rfl,rfl⟩ ⟨rfl,rfl,rfl,rfl,rfl⟩ (λu e=>(nC _ _ e).trans (jk _ e)) (λu e=>(fA _ _ e).trans (fA _ _ e)) ⟨?_,λj Y=>?_,?_,?_⟩ (λj Y a ha=>?_) h.q h.Ee h.sp h.ev h.ck (h.L0 rfl (λa=>?_)) ⟨?_,bj _⟩ ⟨bj _,h.B.2⟩
 .rw[e1,J];show(((m.T t).fr.dropLast).set _ _).length=(((s.T t).fr.dropLast).set _ _).length;rw[dq,dq,ef,ef,y.l]
 .rw[e1]at Y ⊢;rw[J];have H:j<(((s.T t).fr.dropLast).set (cr s t-1) ((de s t (cr s t-1)).set (de s t (cr s t)).bk.2.1 v)).length:=Y;rw[dq,ef]at H;show FS p ρ j ((((s.T t).fr.dropLast).set _ _).getD j mr) ((((m.T t).fr.dropLast).set _ _).getD j mr);rw[jU (by rw[ef];omega),jU (by rw[ef,y.l];omega)];by_cases G:j=cr s t-1
  .rw[aj G,aj G,G];have Z:=y.f (cr s t-1) (by omega);refine⟨Z.f,Z.nx,Z.bk,λk hk=>?_⟩;show B.set (fj m t (cr s t-1)).R _ (tr ρ v) k=tr ρ (B.set (de s t (cr s t-1)).R _ v k);by_cases W:k=(de s t (cr s t)).bk.2.1
   .subst W;rw[B.ie,B.ie]
   rw[B.gS _ _ _ _ W,B.gS _ _ _ _ W];exact Z.R k hk
  rw[aa G,aa G,lP (by omega),lP (by rw[y.l];omega)];exact y.f j (by omega)
 .rw[J];exact y.o
 .rw[e1,J];exact y.h.same rfl rfl rfl rfl rfl rfl rfl
 .rw[e1]at Y;have H:j<(((s.T t).fr.dropLast).set (cr s t-1) ((de s t (cr s t-1)).set (de s t (cr s t)).bk.2.1 v)).length:=Y;rw[dq,ef]at H
  by_cases G:j=cr s t-1
  .subst G;rw[ko (s.pop t) _ (by rw[rp];omega)]at ha ⊢;show dN p s (B.set (de s t (cr s t-1)).R _ v a);by_cases W:a=(de s t (cr s t)).bk.2.1
   .subst W;rw[B.ie];exact hv
   rw[B.gS _ _ _ _ W];exact Rn.iE i _ (by omega) a ha
  rw[jR (s.pop t) _ (λe'=>G e'.2),oa s (λ_=>by omega)]at ha ⊢;exact Rn.iE i j (by omega) a ha
 .by_cases ea:a=t
  .subst ea;rw[J];exact⟨rfl,rfl⟩
  rw[show((m.pop t).dx t (cr s t-1) ((fj m t (cr s t-1)).set (bw s t).bk.2.1 (tr ρ v))).T a=m.T a from(fA _ _ ea).trans (fA _ _ ea)];exact⟨rfl,rfl⟩
 rw[J];exact h.N t i
theorem kC{l:List gY}{f:gY}{i:Nat}:(l++[f]).getD i mr=if i=l.length then f else l.getD i mr:=by
 by_cases e:i=l.length
 .rw[aj e,e,ar,dX (bj _)];simp
 rw[aa e,ar,ar];rcases Nat.lt_or_ge i l.length with h|h
 .rw[du h]
 rw[cw (l:=l) h,cw (by rw[bo];simp;omega)]
theorem eK.push(h:eK p K s m ρ){t:Nat}{f G:gY}(y:t∈s.lv)(hf:FS p ρ (s.T t).fr.length f G)(hR:∀a,a<p.rg f.f->dN p s (f.R a)):eK p K (s.push t f) (m.push t G) ρ:=by
 have W:=h.T t y;have Z:(s.push t f).T t=(s.T t).kD ((s.T t).fr++[f]):=df _ _ _;have H:(m.push t G).T t=(m.T t).kD ((m.T t).fr++[G]):=fG _ _ _;refine h.ep y ⟨rfl,rfl,rfl,rfl,rfl,rfl⟩ ⟨rfl,rfl,rfl,rfl,rfl⟩ (λu e=>oN s f e) (λu e=>fA _ _ e) ⟨?_,λj J=>?_,?_,?_⟩ (λj J a Y=>?_) h.q h.Ee h.sp h.ev h.ck (h.L0 rfl (λa=>?_)) ⟨?_,bj _⟩ ⟨bj _,h.B.2⟩
 .rw[Z,H];show((m.T t).fr++[G]).length=((s.T t).fr++[f]).length;rw[bo,bo,W.l];rfl
 .rw[Z]at J ⊢;rw[H];have i:j<((s.T t).fr++[f]).length:=J;rw[bo]at i;show FS p ρ j (((s.T t).fr++[f]).getD j mr) (((m.T t).fr++[G]).getD j mr);rw[kC,kC,W.l];by_cases e:j=(s.T t).fr.length
  .rw[aj e,aj e,e];exact hf
  rw[aa e,aa e];exact W.f j (by simp at i;omega)
 .rw[H];exact W.o
 .rw[Z,H];exact W.h.same rfl rfl rfl rfl rfl rfl rfl
 .rw[rm,bo]at J;by_cases e:j=(s.T t).fr.length
  .subst e;rw[vj]at Y ⊢;exact hR a Y
  have i:j<(s.T t).fr.length:=by simp at J;omega
  rw[nI s f (λ_=>i)]at Y ⊢;exact Rn.iE y j i a Y
 .by_cases ea:a=t
  .subst ea;rw[H];exact⟨rfl,rfl⟩
  rw[show(m.push t G).T a=m.T a from fA _ _ ea];exact⟨rfl,rfl⟩
 rw[H];exact h.N t y
theorem eK.kj(h:eK p K s m ρ){t:Nat}(y:t∈s.lv):eK p K (s.kj t) ((m.told 5 t 0).zu) ρ:=by
 have J:=h.T t y;have Y:(s.kj t).T t=(s.T t).stop:=df _ _ _;have G:((s.kj t).T t).fr=(s.T t).fr:=by rw[Y];rfl
 have Z:∀i,de (s.kj t) t i=de s t i:=λi=>gJ G;refine h.ep y ⟨rfl,rfl,rfl,rfl,rfl,rfl⟩ ⟨rfl,rfl,rfl,rfl,rfl⟩ (λu e=>dP _ _ e) (λu e=>rfl) ⟨?_,λj H=>?_,J.o,?_⟩ (λj H a W=>?_) h.q h.Ee rfl ?_ h.ck (h.L0 rfl (λa=>⟨rfl,rfl⟩)) ⟨h.N t y,bj _⟩ ⟨bj _,h.B.2⟩
 .rw[G];exact J.l
 .rw[G]at H ⊢;exact J.f j H
 .rw[Y];exact J.h.same rfl rfl rfl rfl rfl rfl rfl
 .rw[G]at H;rw[Z]at W ⊢;exact Rn.iE y j H a W
 show m.ev++[(5,t,0)]=s.ev++[(5,t,0)];rw[h.ev]
theorem iw(h:eK p K s m ρ)(t:Nat):mF m t↔fe s t:=by
 unfold mF fe;rw[h.nt]
theorem eK.wh(h:eK p K s m ρ)(o:fS p s X){t:Nat}(i:t∈s.lv):((s.T t).wh=none/\(m.T t).how=1)\/((s.T t).wh=some (2,0)/\(m.T t).how=1)\/((s.T t).wh=some (3,0)/\(m.T t).how=2)\/(∃k,k<4/\(s.T t).wh=some (4,k)/\(m.T t).how=3/\(m.T t).what=k)\/(∃u,fe s u/\(s.T t).wh=some (5,u)/\(m.T t).how=4/\(m.T t).what=u):=by
 have e:=(h.T t i).h
 cases hw:(s.T t).wh with
 | none=>exact ag ⟨rfl,e.h0 hw⟩
 | some J=>
  obtain⟨x,y⟩:=J;obtain⟨W,_,_⟩:=o.lw.a t (o.lt t i) x y hw;rcases W with⟨rfl,rfl⟩|⟨rfl,rfl⟩|⟨rfl,H⟩|⟨rfl,G⟩
  .exact ab (ag ⟨rfl,e.h2 0 hw⟩)
  .exact ab (ab (ag ⟨rfl,(e.h3 0 hw).1⟩))
  .exact ab (ab (ab (ag ⟨y,H,rfl,(e.h4 y hw).1,(e.h4 y hw).2.1⟩)))
  exact ab (ab (ab (ab ⟨y,G,rfl,(e.h5 y hw).1,(e.h5 y hw).2.1⟩)))
theorem eK.how(h:eK p K s m ρ)(u:fS p s X){t:Nat}(ht:fe s t):((m.T t).how≠5↔t∈s.lv):=by
 constructor
 .intro o;exact Classical.byContradiction λhn=>o (h.O t ht hn).1
 intro i;rcases h.wh u i with e|e|e|⟨_,_,_,e,_⟩|⟨_,_,_,e,_⟩<;>(first|have e:=e.2|skip)<;>omega
theorem eK.live(h:eK p K s m ρ)(i:fS p s X){N:Nat}(o:D7 m N):N=s.lv.length:=
 o.uniq (Q:=λt=>t∈s.lv) ⟨s.lv,i.nd,λ_=>Iff.rfl,rfl⟩ (λt=>by
  rw[iw h];constructor
  .rintro⟨e,u⟩;exact(h.how i e).1 u
  intro e;exact⟨i.lt t e,(h.how i (i.lt t e)).2 e⟩)
theorem eK.JW(h:eK p K s m ρ)(i:fS p s X){x y t:Nat}(W:fz s x y)(hx:x=4\/x=5):(mF m t/\(m.T t).how=x-1/\(m.T t).what=y)↔t∈s.q x y:=by
 rw[iw h];constructor
 .rintro⟨ht,h1,h2⟩;rcases h.wh i ((h.how i ht).1 (by omega)) with e|e|e|⟨k,hk,H,Z,Y⟩|⟨u,hu,H,Z,Y⟩
  .omega
  .omega
  .omega
  .obtain rfl:x=4:=by omega
   obtain rfl:k=y:=by omega
   exact(i.lw.a t ht _ _ H).2.1
  obtain rfl:x=5:=by omega
  obtain rfl:u=y:=by omega
  exact(i.lw.a t ht _ _ H).2.1
 intro J;obtain⟨ht,hw⟩:=i.lw.b x y W t J;have o:=(h.T t (i.ql x y W t J)).h;rcases hx with rfl|rfl
 .exact⟨ht,(o.h4 y hw).1,(o.h4 y hw).2.1⟩
 exact⟨ht,(o.h5 y hw).1,(o.h5 y hw).2.1⟩
theorem eK.first(h:eK p K s m ρ)(o:fS p s X){x y b:Nat}(i:fz s x y)(hx:x=4\/x=5)(G:Iv m (x-1) y b):(b=0/\s.q x y=[])\/∃l,s.q x y=b :: l:=by
 rcases G with⟨rfl,G⟩|⟨Z,W,Y,b4⟩
 .left
  refine⟨rfl,?_⟩
  cases hq:s.q x y with
  | nil=>rfl
  | cons a l=>
   have:=(h.JW o i hx (t:=a)).2 (by rw[hq];simp);exact ch this.2 (G a this.1)
 right
 have e:=(h.JW o i hx).1 ⟨Z,W,Y⟩
 cases hq:s.q x y with
 | nil=>rw[hq]at e;cases e
 | cons a l=>
  refine⟨l,?_⟩;rw[hq]at e;rcases List.mem_cons.1 e with rfl|e
  .rfl
  have H:=h.L x y i (by omega);rw[hq,List.pairwise_cons]at H;have J:=H.1 b e;unfold FI at J;rw[aa (by omega)]at J;have u:=(h.JW o i hx (t:=a)).2 (by rw[hq];simp);have:=b4 a u.1 u.2.1 u.2.2;omega
theorem eK.JX(h:eK p K s m ρ)(i:fS p s X){t:Nat}:(mF m t/\(m.T t).how=2)↔t∈s.q 3 0:=by
 have G:fz s 3 0:=ab (ag ⟨rfl,rfl⟩);rw[iw h];constructor
 .rintro⟨ht,h1⟩;rcases h.wh i ((h.how i ht).1 (by omega)) with e|e|e|⟨k,Z,W,J,H⟩|⟨u,Y,W,J,H⟩
  .omega
  .omega
  .exact(i.lw.a t ht _ _ e.1).2.1
  .omega
  omega
 intro y;obtain⟨ht,hw⟩:=i.lw.b 3 0 G t y;exact⟨ht,((h.T t (i.ql 3 0 G t y)).h.h3 0 hw).1⟩
theorem eK.km(h:eK p K s m ρ)(o:fS p s X){t:Nat}(e:t∈s.q 3 0):(m.T t).km=(s.T t).iL:=by
 have i:fz s 3 0:=ab (ag ⟨rfl,rfl⟩);exact((h.T t (o.ql 3 0 i t e)).h.h3 0 (o.lw.b 3 0 i t e).2).2
theorem eK.due(h:eK p K s m ρ)(u:fS p s X){b:Nat}(H:Iw m b):(b=0/\∀a l,s.q 3 0=a :: l->¬(s.T a).iL<=s.eY)\/(b≠0/\∃l,s.q 3 0=b :: l/\(s.T b).iL<=s.eY):=by
 rcases H with⟨rfl,H⟩|⟨W,b2,b3,b4⟩
 .left
  refine⟨rfl,λa l o hc=>?_⟩;have i:a∈s.q 3 0:=by rw[o];simp
  have:=(h.JX u).2 i;exact H a this.1 ⟨this.2,by rw[h.km u i,h.ck];exact hc⟩
 right
 have y:=(h.JX u).1 ⟨W,b2⟩;refine⟨by omega,?_⟩
 cases o:s.q 3 0 with
 | nil=>rw[o]at y;cases y
 | cons a l=>
  have e:=y;rw[o]at e;rcases List.mem_cons.1 e with rfl|e
  .exact⟨l,rfl,by rw[<-h.km u y,<-h.ck];exact b3⟩
  exfalso
  have Z:=h.L 3 0 (ab (ag ⟨rfl,rfl⟩)) (by decide);rw[o,List.pairwise_cons]at Z;have J:=Z.1 b e;unfold FI at J;rw[aj rfl]at J;have i:a∈s.q 3 0:=by rw[o];simp
  have Y:=(h.JX u).2 i;have h2:=b4 a Y.1 Y.2 (by omega);unfold xw at h2;omega
def D4(d:Dp)(m:Dm)(v:B.V):Prop:=(∃t,mF m t/\(m.T t).out=v)\/∃t i a,mF m t/\i<(m.T t).fr.length/\a<d.rg (fj m t i).f/\(fj m t i).R a=v
inductive lT (d : Dp) (m : Dm) : Nat → Prop
  | root {v : B.V} : D4 d m v → v.1 ≠ 0 → lT d m v.1
  | slot {c : Nat} {v : B.V} : lT d m c → v ∈ m.M c → v.1 ≠ 0 → lT d m v.1
def kg(d:Dp)(m:Dm)(N:Nat):Prop:=BJ (lT d m) N
theorem ou.ind{P:Nat->Prop}{c:Nat}(y:ou p s c)(H:∀v,qw p s v->v.1≠0->P v.1)(G:∀k v,ou p s k->P k->v∈s.M k->v.1≠0->P v.1):P c:=by
 have:=y (λk=>ou p s k/\P k) (λi hi e=>⟨B.nH (B.nZ hi) e,H _ (gi.1 (B.nZ hi)) e⟩) (λk o v u e=>⟨B.kA o.1 u e,G k v o.1 o.2 u e⟩);exact this.2
theorem eK.KP(h:eK p K s m ρ){d:Dp}(hO:Ok p s)(hP:PD p d){c:Nat}(hc:ou p s c):lT d m (ρ c):=by
 refine hc.ind (P:=λc=>lT d m (ρ c)) (λv o e=>?_) (λk v hk Y o e=>?_)
 .rcases o with⟨u,i,a,y,hi,G,rfl⟩|o
  .have hT:=h.T u y;have J:=hT.f i hi;have:=lT.root (d:=d) (m:=m) (v:=(fj m u i).R a) (ab ⟨u,i,a,(iw h u).2 (hO.lt u y),by rw[hT.l];exact hi,?_,rfl⟩) ?_
   .rw[show(fj m u i).R a=tr ρ ((de s u i).R a) from J.R a G,oZ e]at this;exact this
   .rw[show(fj m u i).f=(de s u i).f from J.f,hP.rg (de s u i).f ((hO.fw u y trivial).f i hi).1];exact G
   rw[show(fj m u i).R a=tr ρ ((de s u i).R a) from J.R a G,oZ e];have:=(h.C _ (B.nH (gi.2 (ag ⟨u,i,a,y,hi,G,rfl⟩)) e)).c1;show ρ _≠0;omega
  obtain⟨t,t1,t2,t3⟩:=h.Kp v o;have Z:=(h.O t t1 t2).2.2;rw[t3,oZ e]at Z;have:=lT.root (d:=d) (m:=m) (v:=(m.T t).out) (ag ⟨t,(iw h t).2 t1,rfl⟩) ?_
  .rw[Z]at this;exact this
  rw[Z];have:=(h.C _ (B.nH (gi.2 (ab o)) e)).c1;show ρ _≠0;omega
 have:=lT.slot (d:=d) (m:=m) (v:=tr ρ v) Y (by rw[(h.C k hk).M];exact ek.2 ⟨v,o,rfl⟩) ?_
 .rw[oZ e]at this;exact this
 rw[oZ e];have:=(h.C _ (B.kA hk o e)).c1;show ρ _≠0;omega
theorem eK.Jc(h:eK p K s m ρ){d:Dp}(hO:Ok p s)(hP:PD p d){c:Nat}(hc:lT d m c):∃k,ou p s k/\ρ k=c:=by
 induction hc with
 | @root v hv Z=>
  have W:∀u,qw p s u->tr ρ u=v->∃k,ou p s k/\ρ k=v.1:=λu hu e=>by
   have H:u.1≠0:=λJ=>Z (by rw[<-e,om J];exact J);refine⟨u.1,B.nH (gi.2 hu) H,?_⟩;rw[<-e,oZ H]
  rcases hv with⟨t,ht,e⟩|⟨t,i,a,ht,hi,ha,e⟩
  .have G:=(iw h t).1 ht;by_cases y:t∈s.lv
   .rw[(h.T t y).o]at e;exact ch (by rw[<-e]) Z
   have ho:=(h.O t G y).2.2;have Y:t-1<s.out.length:=by rw[hO.ol];have:=G.2;omega
   have a0:m9 s t∈s.out:=by
    unfold m9;rw[ar,bn Y];exact List.getElem_mem Y
   rcases hO.ok _ a0 with J|J
   .rw[om J,e]at ho;exact ch (by rw[ho];exact J) Z
   exact W _ (ab J) (by rw[<-ho];exact e)
  have G:=(iw h t).1 ht;by_cases y:t∈s.lv
  .have hT:=h.T t y;rw[hT.l]at hi;have hF:=hT.f i hi;have hf:(fj m t i).f=(de s t i).f:=hF.f;rw[hf,hP.rg (de s t i).f ((hO.fw t y trivial).f i hi).1]at ha;exact W _ (ag ⟨t,i,a,y,hi,ha,rfl⟩) ((hF.R a ha).symm.trans e)
  rw[(h.O t G y).2.1]at hi;exact ch hi (Nat.not_lt_zero _)
 | @slot c v hc hv Z ih=>
  obtain⟨k,hk,rfl⟩:=ih;rw[(h.C k hk).M]at hv;obtain⟨u,hu,rfl⟩:=ek.1 hv;have H:u.1≠0:=λJ=>Z (by rw[om J];exact J);exact⟨u.1,B.kA hk hu H,by rw[oZ H]⟩
theorem kB{f:Nat->Nat}:∀(l:List Nat),l.Nodup->(∀a,a∈l->∀b,b∈l->f a=f b->a=b)->(l.map f).Nodup
 | [],_,_=>List.nodup_nil
 | a :: l,h,hf=>by
  rw[List.nodup_cons]at h;rw[List.map_cons,List.nodup_cons];refine⟨λu=>?_,kB l h.2 (λb i c o=>hf b (by simp[i]) c (by simp[o]))⟩;obtain⟨b,i,e⟩:=ek.1 u;have:=hf b (by simp[i]) a (by simp) e;exact h.1 (this▸i)
theorem C6:∀(n:Nat) (l:List Nat),(∀c,1<=c->c<=n->c∈l)->n<=l.length
 | 0,_,_=>dc _
 | n+1,l,h=>by
  have i:=h (n+1) (by omega) (bj _);have:=C6 n (l.erase (n+1)) (λc c1 o=>(List.mem_erase_of_ne (by omega)).2 (h c c1 (by omega)));rw[List.length_erase_of_mem i]at this;have:l.length≠0:=λe=>by rw[cf.1 e]at i;cases i
  omega
theorem eK.count(h:eK p K s m ρ){d:Dp}(G:Ok p s)(hP:PD p d){N:Nat}(J:kg d m N):∃l:List Nat,l.Nodup/\(∀c,c∈l↔ou p s c)/\N=l.length:=by
 classical
 let l:=((List.range (p.n+1)).filter (λc=>decide (ou p s c)))
 have u:∀c,c∈l↔ou p s c:=λc=>by
  show c∈(List.range (p.n+1)).filter (λc=>decide (ou p s c))↔_;rw[List.mem_filter,eJ];constructor
  .intro i;exact dO i.2
  intro i;exact⟨by have:=(B.po G.hl i).2.2;omega,fh i⟩
 have o:l.Nodup:=List.nodup_range.filter _;refine⟨l,o,u,?_⟩;have H:(l.map ρ).Nodup:=by
  exact kB _ o (λa W b Y e=>h.I a b ((u a).1 W) ((u b).1 Y) e)
 have:=J.uniq (Q:=lT d m) (K:=(l.map ρ).length) ⟨l.map ρ,H,λc=>?_,rfl⟩ (λ_=>Iff.rfl)
 .rw[this,dS]
 rw[ek];constructor
 .rintro⟨k,y,rfl⟩;exact h.KP G hP ((u k).1 y)
 intro i;obtain⟨k,y,rfl⟩:=h.Jc G hP i;exact⟨k,(u k).2 y,rfl⟩
theorem eK.room(h:eK p K s m ρ){d:Dp}(H:Ok p s)(hP:PD p d){N:Nat}(hN:kg d m N):N<=p.n/\(N<p.n↔∃c,1<=c/\c<=p.n/\¬ou p s c):=by
 classical
 obtain⟨l,J,u,rfl⟩:=h.count H hP hN;have i:=λc o=>(B.po H.hl ((u c).1 o)).2;refine⟨gn p.n l J i,λW=>?_,λ⟨c,c1,y,c3⟩=>?_⟩
 .refine Classical.byContradiction λG=>?_;have:=C6 p.n l (λc c1 y=>(u c).2 (Classical.byContradiction λZ=>G ⟨c,c1,y,Z⟩));omega
 have Y:=gn p.n (c :: l) (List.nodup_cons.2 ⟨λo=>c3 ((u c).1 o),J⟩) (λt ht=>by
  rcases List.mem_cons.1 ht with rfl|ht
  .exact⟨c1,y⟩
  exact i t ht)
 rw[List.length_cons]at Y;omega
end D
namespace D
open F
variable {p : dz} {d : Dp} {K : Nat} {s : Pl} {m m' : Dm} {g g' : Dg} {w w' : World} {ρ : Nat → Nat}
theorem BH{w:World}{e:TypeId}{ad:Option Addr}{n c:Nat}{xs:List Value}(h:fM w e (.slice ad n c) xs):n=xs.length/\(xs≠[]->∃b off,ad=some ⟨b,off,none⟩/\b<w.heap.size/\∀(j:Nat) u,xs[j]? = some u->w.cell? ⟨b,off+j,none⟩=some u):=by
 rcases h with⟨i,y⟩|⟨g,off,cap,H,P,i,y,h3,J,o,hP⟩
 .injection i with _ a _;subst y;exact⟨a,λe=>ch rfl e⟩
 injection i with a b W;refine⟨b,λ_=>⟨g,off,a,o.lt,λj u G=>?_⟩⟩;have Y:=(bu.1 G).1;rw[o.cell (off+j) (by omega),hP j u G]
theorem xP{l:List Nat}{i a:Nat}(f:Nat->Bool)(h:l[i]? = some a):(l.take (i+1)).filter f=(l.take i).filter f++if f a=true then[a] else[]:=by
 rw[List.take_add_one,h,List.filter_append];congr 1
 show[a].filter f=_;by_cases e:f a=true
 .rw [aj e];simp[e]
 rw [aa e];simp[e]
def LH(w0 wr:World)(ad:Option Addr)(n c:Nat)(xs:List Nat):Prop:=fM wr 3 (.slice ad n c) (iI xs)/\(∀k,eO ad=some k->w0.heap.size<=k)/\w0.grownBy wr none
theorem dQ.JJ{p:Dp}(h:dQ p m g w){t tb:Nat}(ht:mF m t)(o:g.ro 1 0=(some ⟨tb,0,none⟩,(g.ro 1 0).2)):Tr p m g w (m.dv t (((m.T t).hw 5).kD [])) (g.at 5 t (none,0)) ((w.setCell ⟨tb,(t-1)*8+1,none⟩ (.int .i64 5)).setCell ⟨tb,(t-1)*8,none⟩ (.slice none 0 0)):=by
 have y:∀i:Nat,i<8->i=0\/i=1\/i=2\/i=3\/i=4\/i=5\/i=6\/i=7:=λi hi=>by omega
 have u:Tr p m g w (m.dv t ((m.T t).hw 5)) g (w.setCell ⟨tb,(t-1)*8+1,none⟩ (.int .i64 5)):=h.sw ht o 1 (by omega) _ rfl (λi hi=>by rcases y i hi with rfl|rfl|rfl|rfl|rfl|rfl|rfl|rfl<;>rfl);have e:=u.r.shrink (t:=t) ht o (j:=0) (dc _) (r:=(none,0)) (ab ⟨rfl,rfl⟩);rw[iT,fG]at e;exact u.trans e
theorem dQ.JK{p:Dp}(h:dQ p m g w){t tb:Nat}(ht:mF m t)(o:g.ro 1 0=(some ⟨tb,0,none⟩,(g.ro 1 0).2))(v:B.V):Tr p m g w (m.dv t { m.T t with out:=v }) g ((w.setCell ⟨tb,(t-1)*8+6,none⟩ (.int .i64 v.1)).setCell ⟨tb,(t-1)*8+7,none⟩ (.int .i64 v.2)):=by
 have u:∀i:Nat,i<8->i=0\/i=1\/i=2\/i=3\/i=4\/i=5\/i=6\/i=7:=λi hi=>by omega
 have y:Tr p m g w (m.dv t { m.T t with out:=(v.1,(m.T t).out.2) }) g (w.setCell ⟨tb,(t-1)*8+6,none⟩ (.int .i64 v.1)):=h.sw ht o 6 (by omega) _ rfl (λi hi=>by rcases u i hi with rfl|rfl|rfl|rfl|rfl|rfl|rfl|rfl<;>rfl);have e:=y.r.sw (t:=t) ht o 7 (by omega) (.int .i64 v.2) (x':={ m.T t with out:=v }) (by rw[fG]) (λi hi=>by rw[fG];rcases u i hi with rfl|rfl|rfl|rfl|rfl|rfl|rfl|rfl<;>rfl);rw[iT]at e;exact y.trans e
theorem Tr.other{p:Dp}(h:Tr p m g w m' g' w'){k:Nat}{o:Obj}(e:w.heap[k]? = some o)(hn:¬ey p m g k):w'.heap[k]? = some o/\¬ey p m' g' k:=
 ⟨h.o.block e hn,λi=>(h.m k i).elim hn (λu=>by have:=bz e;omega)⟩
def LC(p:dz)(d:Dp)(K:Nat)(s:Pl)(m:Dm)(g:Dg)(w:World)(ρ:Nat->Nat)(t:Nat)(v:B.V)(x:Nat)(o:Obj)(n b:Nat)(wr:World):Prop:=
 ∃s1 m1 g1,(wr.heap[x]? = some o/\¬ey d m1 g1 x)/\(s1.q 5 t).length=n/\Tr d m g w m1 g1 wr/\eK p K s1 m1 ρ/\Ok p s1/\s1.nt=s.nt/\(v.1=0\/v∈s1.kp)/\s1.dR v (s1.q 5 t)=s.dR v (s.q 5 t)/\((b=0/\s1.q 5 t=[])\/∃l,s1.q 5 t=b :: l)
theorem zk{t n x:Nat}{o:Obj}{v:B.V}{s1:Pl}{m1:Dm}{g1:Dg}{wr:World}(W:g1.mb=g.mb)(hx:wr.heap[x]? = some o/\¬ey d m1 g1 x)(J:(s1.q 5 t).length=n)(h:Tr d m g w m1 g1 wr)(hS:eK p K s1 m1 ρ)(i:Ok p s1)(hn:s1.nt=s.nt)(ht:fe s t)(H:v.1=0\/v∈s1.kp)(he:s1.dR v (s1.q 5 t)=s.dR v (s.q 5 t)): Calls prog 192 #[P0 g.mb,.int .i64 4,.int .i64 t] wr λe w'=>∃b:Nat,e=.returned (.int .i64 b)/\b<=s.nt/\LC p d K s m g w ρ t v x o n b w':=by
 rw[<-W];refine(Hv h.r (by rw[hS.nt,hn];have:=ht.1;have:=ht.2;omega) 4 t).mono ?_;rintro e w' ⟨b,rfl,Y,y,u⟩;exact⟨b,rfl,by rw[<-hn,<-hS.nt];exact Y,s1,m1,g1,⟨cm u hx.1 (by intro e;cases e),hx.2⟩,J,h.kept u,hS,i,hn,H,he,hS.first i (ab (ab (ab ⟨rfl,(eg hn).2 ht⟩))) (ab rfl) y⟩
theorem Eg{t n b x:Nat}{o:Obj}{v:B.V}{wr:World}(hP:PD p d)(h:LC p d K s m g w ρ t v x o n b wr)(hb:b≠0)(ht:fe s t): Calls prog 144 #[P0 g.mb,.int .i64 b,vA (tr ρ v)] wr λe w'=>e=.returned (.tuple #[])/\∃s1 m1 g1,g1.mb=g.mb/\(w'.heap[x]? = some o/\¬ey d m1 g1 x)/\n=(s1.q 5 t).length+1/\Tr d m g w m1 g1 w'/\eK p K s1 m1 ρ/\Ok p s1/\s1.nt=s.nt/\(v.1=0\/v∈s1.kp)/\s1.dR v (s1.q 5 t)=s.dR v (s.q 5 t):=by
 obtain⟨s1,m1,g1,hx,h0,h1,W,G,h4,h5,h6,h7⟩:=h;obtain⟨l,hq⟩:∃l,s1.q 5 t=b :: l:=h7.resolve_left (λe=>hb e.1);have hl:fz s1 5 t:=ab (ab (ab ⟨rfl,(eg h4).2 ht⟩));have a0:b∈s1.q 5 t:=by rw[hq];simp
 have u:=G.ql 5 t hl b a0;obtain⟨H,J⟩:=G.lw.b 5 t hl b a0;obtain⟨k,k1,k2,k3⟩:=G.ww b H 5 t J (ab rfl);obtain⟨_,_,i,i1,i2⟩:=(W.T b u).h.h5 t J;rw[k1]at i1;injection i1 with i1;subst i1;have hT:=W.T b u;have Y:=G.fw b u trivial;have a1:(s1.T b).fr.length≠0:=λe=>k2 (cf.1 e);have hv:dN p s1 v:=h5.elim (λe=>ag e) (λe=>dN.root (ab e));have a3:m1.q.length<=1000000000:=by
  rw[W.q];have:=G.lw.len (x:=2) (y:=0) (ag ⟨rfl,rfl⟩);omega
 have a5:(pR m1 b).f=(de s1 b ((s1.T b).fr.length-1)).f:=by
  unfold pR pQ;rw[hT.l];exact(hT.f _ (by omega)).f
 rw[<-h1.b];refine(Cz (tr ρ v) h1.r ((iw W b).2 H) (by rw[W.nt];have:=G.lw.d;omega) a3 (λ_=>⟨by rw[hT.l];exact a1,by rw[hT.l];exact Y.n2,?_⟩)).mono ?_
 .rw [i2,lH,a5,hP.rg (de s1 b ((s1.T b).fr.length-1)).f (Y.f ((s1.T b).fr.length-1) (by omega)).1];exact k3
 rintro e w' ⟨rfl,g',h'⟩;have Z:(s1.fJ b v).q 5 t=l:=by
  rw[nT v k1];have a2:((s1.dx b (cr s1 b) ((de s1 b (cr s1 b)).set k.2.1 v)).T b).wh=some (5,t):=by rw[(gj _ _ _ _ _).1];exact J
  generalize hX:s1.dx b (cr s1 b) ((de s1 b (cr s1 b)).set k.2.1 v)=X at *;have e1:(X.dV 2 0 b).q 5 t=(X.dw b).q 5 t:=fL (X.dw b) (x:=2) (y:=0) (a:=5) (b:=t) ((X.dw b).q 2 0++[b]) (by omega);have e2:((X.eZ 5 t ((X.q 5 t).erase b)).dv b (X.T b).off).q 5 t=(X.q 5 t).erase b:=fX X 5 t _;rw[e1,fN a2,e2,<-hX];show(s1.q 5 t).erase b=l;rw[hq];simp
 refine⟨rfl,s1.fJ b v,m1.ready b (tr ρ v),g',by rw[h'.b,h1.b],h'.other hx.1 hx.2,by rw[Z,<-h0,hq];rfl,h1.trans h',W.fJ G u trivial k1 i2 hv,G.fJ H (λ_=>trivial) hv,(mH s1 b v).trans h4,?_,?_⟩
 .rw [(oX s1 b v).2.2.1];exact h5
 rw [Z,<-h6,hq];rfl
theorem JL{t kind:Nat}{x:Int}{v:B.V}(hP:PD p d)(h:dQ d m g w)(ht:fe s t)(hO:Ok p s)(hS:eK p K s (m.gone t kind x (tr ρ v)) ρ)(hv:v.1=0\/v∈s.kp)(hq:m.q.length<=1000000000)(he:m.ev.length<=100000): Calls prog 196 #[P0 g.mb,.int .i64 t,.int .i64 kind,.int .i64 x,vA (tr ρ v)] w λe w'=>e=.returned (.tuple #[])/\∃m' g',Tr d m g w m' g' w'/\eK p K (s.dR v (s.q 5 t)) m' ρ:=by
 obtain⟨i0,hi,bM,b8,bR⟩:=info_parts Tryz.qk;have a6:m.nt=s.nt:=hS.nt;have Z:mF m t:=by unfold mF;rw[a6];exact ht
 have hn:m.nt<1000000000:=by rw[a6];have:=hO.lw.d;omega
 have bI:m.gone t kind x (tr ρ v)=((m.dv t ((m.T t).end (tr ρ v))).eZ (m.q.filter (λu=>decide (u≠t)))).told kind t x:=rfl;obtain⟨k,rfl⟩:∃k,t=k+1:=⟨t-1,by omega⟩;obtain⟨tb,e1,hT,tc⟩:=h.tc Z;have c6:w.cell? ⟨g.mb,6,none⟩=some (.slice (some ⟨tb,0,none⟩) m.nt (g.ro 1 0).2):=by
  rw[show some (⟨tb,0,none⟩:Addr)=(g.ro 1 0).1 by rw[e1]];exact(h.mc 6 (by omega) rfl).1
 obtain⟨t0,z0⟩:=tc.c 0 (by omega);obtain⟨t1,z1⟩:=tc.c 1 (by omega);rw[Nat.add_zero,dC]at t0 z0;rw[dC]at t1 z1;have ne:=h.M.ne hT (by decide);have lr:=av w _ c6;have lt:=av w _ t1;have q5:=fp (n:=k) (by omega);have q7:(0:Int)<=k:=by omega
 have q8:(k:Int)<m.nt:=by omega
 have q6:IntKind.i64.wrap (k:Int)=k:=by rw[bl,bd _ (by omega)]
 have a3:=az (((h.JJ Z e1).kept (ah _ (.cells #[.int .i64 ((tr ρ v).1:Int),.int .i64 (tr ρ v).2] 115) none)));rw[dC]at a3;have b2:Hid (¬ey d (m.dv (k+1) ((m.T (k+1)).end (tr ρ v))) (g.at 5 (k+1) (none,0)) w.heap.size):=by
  have h1:=h.JJ Z e1;have h2:=h1.r.JK (t:=k+1) (tb:=tb) Z (by rw[qG g _ (by omega)];exact e1) (tr ρ v);rw[iT,fG]at h2;exact h2.r.fresh (by simp[World.setCell])
 have aO:=az e1;have HP:=az hP;have HO:=az hO;have HS:=az hS;have HV:=az hv;have HD:=az Z;have HN:=az ht;have bT:=az hq;have bB:=az he;clear h hP hO hS hv hq he bI tc hT Z a6 e1;go_in;go_wp2_with fail
 have a1:=bf ((w.setCell ⟨tb,k*8+1,none⟩ (.int .i64 5)).setCell ⟨tb,k*8,none⟩ (.slice none 0 0)) (.cells #[.int .i64 ((tr ρ v).1:Int),.int .i64 (tr ρ v).2] 115);have b7:((w.setCell ⟨tb,k*8+1,none⟩ (.int .i64 5)).setCell ⟨tb,k*8,none⟩ (.slice none 0 0)).heap.size=w.heap.size:=by simp[World.setCell]
 rw[b7]at a1;generalize (((w.setCell ⟨tb,k*8+1,none⟩ (.int .i64 5)).setCell ⟨tb,k*8,none⟩ (.slice none 0 0)).alloc (.cells #[.int .i64 ((tr ρ v).1:Int),.int .i64 (tr ρ v).2] 115))=w2 at *;clear t0 z0 t1 z1 c6 b7;have aI:Hid (mF (m.dv (k+1) (((m.T (k+1)).hw 5).kD [])) (k+1)):=HD.out;obtain⟨y,J,b9,aR⟩:=a3.out.r.tc aI.out;have bK:y=tb:=by
  rw[qG g _ (by omega)]at J;rw[aO.out]at J;injection J with J _;injection J with J;injection J with J _;exact J.symm
 subst bK;have c6:w2.cell? ⟨g.mb,6,none⟩=some (.slice (some ⟨y,0,none⟩) m.nt (g.ro 1 0).2):=(a3.out.r.mc 6 (by omega) (v:=.slice (some ⟨y,0,none⟩) m.nt (g.ro 1 0).2) (by
  show Value.slice ((g.at 5 (k+1) (none,0)).ro 1 0).1 _ ((g.at 5 (k+1) (none,0)).ro 1 0).2=_;rw[qG g _ (by omega),aO.out];rfl)).1
 obtain⟨t6,z6⟩:=aR.c 6 (by omega);obtain⟨t7,z7⟩:=aR.c 7 (by omega);rw[dC]at t6 z6 t7 z7;have bS:=av w2 _ c6;have HB:=az a1;have b0:w2.cell? ⟨w.heap.size,0,none⟩=some (.int .i64 ((tr ρ v).1:Int)):=by simp[World.cell?,a1]
 have b1:w2.cell? ⟨w.heap.size,1,none⟩=some (.int .i64 (tr ρ v).2):=by simp[World.cell?,a1]
 have n1:w.heap.size≠y:=by omega
 have aJ:=az (a3.out.trans (a3.out.r.JK (t:=k+1) (tb:=y) aI.out (by rw[qG g _ (by omega)];exact aO.out) (tr ρ v)));rw[dC]at aJ;generalize tC ((m.dv (k+1) (((m.T (k+1)).hw 5).kD [])).T (k+1)) (iR (m.dv (k+1) (((m.T (k+1)).hw 5).kD [])) (g.at 5 (k+1) (none,0)) 5 (k+1)) 6=o6 at t6;generalize tC ((m.dv (k+1) (((m.T (k+1)).hw 5).kD [])).T (k+1)) (iR (m.dv (k+1) (((m.T (k+1)).hw 5).kD [])) (g.at 5 (k+1) (none,0)) 5 (k+1)) 7=o7 at t7;clear b9 aR J a1;generalize aS:g.mb=rb at *;have a4:=az aS;clear aS;generalize (g.ro 1 0).2=a5 at *;have g1:∀{W:World} {o:Nat} {u:Value},W.cell? ⟨rb,6,none⟩=some (.slice (some ⟨y,0,none⟩) m.nt a5)->(W.setCell ⟨y,o,none⟩ u).cell? ⟨rb,6,none⟩=some (.slice (some ⟨y,0,none⟩) m.nt a5):=λhW=>(aw (a:=⟨rb,6,none⟩) (af _ _ _ _ ne)).trans hW;go_region_held3 (λw'=>w'.cell? ⟨rb,6,none⟩=some (.slice (some ⟨y,0,none⟩) m.nt a5)/\w'.cell? ⟨w.heap.size,0,none⟩=some (.int .i64 ((tr ρ v).1:Int))/\w'.cell? ⟨w.heap.size,1,none⟩=some (.int .i64 (tr ρ v).2)) (first|exact⟨c6,b0,b1⟩|(refine⟨?_,?_,?_⟩<;>(first|assumption|(simp[*,go_sem])))) (fail)
 have G:Hid (Tr d m g w (m.dv (k+1) ((m.T (k+1)).end (tr ρ v))) (g.at 5 (k+1) (none,0)) ((w2.setCell ⟨y,k*8+6,none⟩ (.int .i64 ((tr ρ v).1:Int))).setCell ⟨y,k*8+6+1,none⟩ (.int .i64 (tr ρ v).2)).drew):=by
  have h3:=aJ.out;rw[iT,fG]at h3;exact h3.kept (bq (ax _ none))
 have aX:Hid (((w2.setCell ⟨y,k*8+6,none⟩ (.int .i64 ((tr ρ v).1:Int))).setCell ⟨y,k*8+6+1,none⟩ (.int .i64 (tr ρ v).2)).drew.heap[w.heap.size]? = some (.cells #[.int .i64 ((tr ρ v).1:Int),.int .i64 (tr ρ v).2] 115 (0,0))):=by
  show(World.setCell _ _ _).heap[w.heap.size]? = _;rw[af _ _ _ _ n1,af _ _ _ _ n1];exact HB.out
 generalize ((w2.setCell ⟨y,k*8+6,none⟩ (.int .i64 ((tr ρ v).1:Int))).setCell ⟨y,k*8+6+1,none⟩ (.int .i64 (tr ρ v).2)).drew=w3 at *;clear aJ a3 aI HB t6 z6 t7 z7 c6 b0 b1 bS n1 g1 w2;have a2:=az (G.out.b.trans a4.out);have c7:w3.cell? ⟨rb,7,none⟩=some (.slice (g.ro 2 0).1 m.q.length (g.ro 2 0).2):=by
  have:=(G.out.r.mc 7 (by omega) (v:=.slice (g.ro 2 0).1 m.q.length (g.ro 2 0).2) (by
   show Value.slice ((g.at 5 (k+1) (none,0)).ro 2 0).1 _ ((g.at 5 (k+1) (none,0)).ro 2 0).2=_;rw[qG g _ (by omega)];rfl)).1
  rw[a2.out]at this;exact this
 have HQ:Hid (fM w3 3 (.slice (g.ro 2 0).1 m.q.length (g.ro 2 0).2) (iI m.q)):=by
  have:=G.out.r.Q;unfold iR at this;rw[qG g _ (by omega)]at this;exact this
 obtain⟨_,aZ⟩:=BH HQ.out;have aY:=az aZ;clear aZ;have l3:=av w3 _ c7;generalize (g.ro 2 0).1=qa at *;generalize (g.ro 2 0).2=qc at *;have c2:(m.q.length:Int)<=1000000000:=by have:=bT.out;omega
 go_wp2_with fail
 go_loopw [10,11] (λq i wr=>∃(I n c:Nat) (ad:Option Addr) (H:List Nat),q=.slice ad n c/\i=.int .i64 I/\I<=m.q.length/\n=H.length/\n<=I/\Hid (H=(m.q.take I).filter (λu=>decide (u≠k+1)))/\Hid (LH w3 wr ad n c H)) (λ_ i _=>m.q.length-(intOf i).toNat)
 case atStart=>exact⟨0,0,0,none,[],rfl,rfl,by omega,rfl,by omega,rfl,fM.nil _ _,(λk hk=>by cases hk),ax _ _⟩
 case round=>
  obtain⟨I,n,c,ad,H,rfl,rfl,hI,bA,bG,rX,rL⟩:=hrel;subst bA;obtain⟨L1,L2,L3⟩:=rL.out;have d7:=(bh L3 (a:=⟨rb,7,none⟩) l3).1.trans c7;by_cases a7:I<m.q.length
  .obtain ⟨b,off,rfl,bC,aV⟩:=aY.out (by intro e;rw[show m.q.length=(iI m.q).length from(iH _).symm,e]at a7;cases a7);obtain⟨a,ha⟩:∃a,m.q[I]? = some a:=⟨_,bn a7⟩;have dI:wr.cell? ⟨b,off+I,none⟩=some (.int .i64 a):=(bh L3 (a:=⟨b,off+I,none⟩) bC).1.trans (aV I _ (by unfold iI;rw[eo,ha];rfl));have a8:=xP (λu=>decide (u≠k+1)) ha
   have aK:=az L1;have aL:=az L2;have Y:=az L3;clear L1 L2 L3 rL aV;by_cases e:a=k+1
   .have KX:Hid (H=(m.q.take (I+1)).filter (λu=>decide (u≠k+1))):=by
     show _=_;rw[a8,aa (by simpa using e),eB];exact rX.out
    have KL:Hid (LH w3 wr ad H.length c H):=⟨aK.out,aL.out,Y.out⟩;clear a8 rX;go_wp2_with fail
    go_roundw
    case rel=>exact⟨I+1,H.length,c,ad,H,rfl,by go_num,by omega,rfl,by omega,KX,KL⟩
    case measure=>simp[intOf];omega
   have ei:¬((a:Int)=k+1):=by omega
   have KX:Hid (H++[a]=(m.q.take (I+1)).filter (λu=>decide (u≠k+1))):=by
    show _=_;rw[a8,aj (by simpa using e),<-rX.out]
   clear a8 rX;have bH:=iH H;go_wp2_with (at_builtin;refine gZ _ rfl (.tmp 56) (.tmp 64) 54 rfl 3 i0 _ 8 Tryz.g9 hi bM b8 bR rfl _ (iI H) rfl (aK.out.block ?cq) _ _ (.int .i64 a) rfl ?c1 rfl ?c3 ?c4 ?_)
   case cq=>intro j h;exact ak _ _ _ (aK.out.lt j h)
   try case c1=>simp[go_sem]
   try case c3=>unfold maxLen;omega
   try case c4=>omega
   intro gb aB c' w6 b4 a0 aC;have KL:Hid (LH w3 w6 (some ⟨gb,aB,none⟩) (H.length+1) c' (H++[a])):=by
    refine⟨?_,λj hj=>?_,?_⟩
    .rw [show iI (H++[a])=iI H++[iK (a:Int)] by unfold iI;rw[eP];rfl];exact b4
    .have bQ:j=gb:=by
      have:some gb=some j:=hj;injection this with this;exact this.symm
     subst bQ;rcases aC with h|h
     .rw [dr]at h;exact aL.out j h
     have:=Y.out.size;omega
    refine ⟨a0.os.trans Y.out.os,a0.tape.trans Y.out.tape,a0.output.trans Y.out.output,by have:=a0.size;have:=Y.out.size;simp at *;omega,λj hj _=>?_⟩;have bX:=Y.out.size;rw[a0.block j (by simp;omega) (λh=>by rw[dr]at h;have:=aL.out j h.symm;omega),ak _ _ _ (by omega)];exact Y.out.block j hj (by intro e;cases e)
   clear b4 a0 aC bH;go_wp2_with fail
   go_roundw
   case rel=>exact⟨I+1,H.length+1,c',some ⟨gb,aB,none⟩,H++[a],rfl,by go_num,by omega,by rw[bo];rfl,by omega,KX,KL⟩
   case measure=>simp[intOf];omega
  obtain rfl:I=m.q.length:=by omega
  have hX:H=m.q.filter (λu=>decide (u≠k+1)):=by have:=rX.out;rw[List.take_length]at this;exact this
  have HX:=az hX;clear hX;obtain⟨L1,L2,L3⟩:=rL.out;have aD:=G.out.kept L3;have z7:wr.frozen? ⟨rb,7,none⟩=false:=by
   have:=(aD.r.mc 7 (by omega) rfl).2;rw[a2.out]at this;exact this
  have aP:Tr d (m.dv (k+1) ((m.T (k+1)).end (tr ρ v))) (g.at 5 (k+1) (none,0)) w3 ((m.dv (k+1) ((m.T (k+1)).end (tr ρ v))).eZ H) ((g.at 5 (k+1) (none,0)).at 2 0 (ad,c)) (wr.setCell ⟨rb,7,none⟩ (.slice ad H.length c)):=by
   refine Tr.eZ (r:=(ad,c)) ((Tr.refl G.out.r).kept L3) (bm (S:=λk'=>k'=(g.at 5 (k+1) (none,0)).mb\/eO ((g.at 5 (k+1) (none,0)).ro 2 0).1=some k') (a:=⟨rb,7,none⟩) (dk _ _) (ag (ag a2.out.symm)) _) ?_ ?_ (λj hj=>ab ?_)
   .have:=aD.r.M.ep 7 (.slice ad H.length c);rw[a2.out]at this ⊢;exact this
   .exact L1.block (λj hj=>af _ _ _ _ (by
     rw[dr]at hj;have:=L2 j hj;show j≠rb;omega))
   exact ⟨G.out.r.fresh (L2 j hj),L2 j hj⟩
  obtain⟨b3,aA⟩:=aP.other aX.out b2.out;have aN:=az (G.out.trans aP);have aM:=az (ay b3 aA);have a9:Hid (((g.at 5 (k+1) (none,0)).at 2 0 (ad,c)).mb=rb):=a2.out;have aG:=az (B5 kind (k+1) x aN.out.r bB.out);rw[a9.out]at aG;clear aP L1 L2 L3 aD rL b3 aA rX c7 bG hI aY HQ a7;go_wp2_with fail
  generalize wr.setCell ⟨rb,7,none⟩ (.slice ad H.length c)=w4 at *;clear d7 z7;refine aG.out.mono ?_;rintro e w5 ⟨rfl,g5,aH⟩;have bO:Hid (w5.heap[w.heap.size]? = some (.cells #[.int .i64 ((tr ρ v).1:Int),.int .i64 (tr ρ v).2] 115 (0,0))/\¬ey d (m.gone (k+1) kind x (tr ρ v)) g5 w.heap.size):=by
   have h5:=aH.other aM.out.1 aM.out.2;rw[HX.out]at h5;exact h5
  have b6:Hid (Tr d m g w (m.gone (k+1) kind x (tr ρ v)) g5 w5):=by
   have h5:=aN.out.trans aH;rw[HX.out]at h5;exact h5
  have bD:=az b6.out.b;have aE:=az (zk (n:=(s.q 5 (k+1)).length) bD.out bO.out rfl b6.out HS.out HO.out rfl HN.out HV.out rfl);rw[a4.out]at aE;clear aH aG aN aM a9 G aX b2 a2;go_wp2_with fail
  refine aE.out.mono ?_;rintro e w6 ⟨b0,rfl,bL,aT⟩;have bP:=az aT;clear aT aE;go_wp2_with fail
  go_loopg [12] ((s.q 5 (k+1)).length) (λn b wr=>∃B:Nat,b=.int .i64 B/\B<=s.nt/\Hid (LC p d K s m g w ρ (k+1) v w.heap.size (.cells #[.int .i64 ((tr ρ v).1:Int),.int .i64 (tr ρ v).2] 115 (0,0)) n B wr))
  case atStart=>exact⟨b0,rfl,bL,bP⟩
  case round=>
   obtain⟨B,rfl,hB,rW⟩:=hrel;by_cases aW:B=0
   .subst aW;obtain⟨s1,m1,g1,_,_,k1,k2,k3,k4,_,k6,k7⟩:=rW.out;have aU:s1.q 5 (k+1)=[]:=by
     rcases k7 with k7|⟨l,hl⟩
     .exact k7.2
     exfalso
     have bN:fz s1 5 (k+1):=ab (ab (ab ⟨rfl,(eg k4).2 HN.out⟩));have:=(k3.lw.b 5 (k+1) bN 0 (by rw[hl];simp)).1.1;omega
    have HF:Hid (∃m' g',Tr d m g w m' g' wr/\eK p K (s.dR v (s.q 5 (k+1))) m' ρ):=by
     refine⟨m1,g1,k1,?_⟩;rw[<-k6,aU];exact k2
    clear k1 k2 k3 k4 k6 k7 aU rW;go_wp2_with fail
    go_end0;exact⟨rfl,HF.out⟩
   have bW:(0:Int)<B:=by omega
   have aQ:=az (Eg HP.out rW.out aW HN.out);rw[a4.out]at aQ;obtain⟨_,_,_,⟨hx,_⟩,_⟩:=rW.out;have b0:wr.cell? ⟨w.heap.size,0,none⟩=some (.int .i64 ((tr ρ v).1:Int)):=by simp[World.cell?,hx]
   have b1:wr.cell? ⟨w.heap.size,1,none⟩=some (.int .i64 (tr ρ v).2):=by simp[World.cell?,hx]
   clear hx rW;go_wp2_with fail
   refine aQ.out.mono ?_;rintro e w7 ⟨rfl,s1,m1,g1,j1,j2,j3,j4,j5,j6,j7,j8,j9⟩;have aF:=az (zk (n:=(s1.q 5 (k+1)).length) (j1.trans a4.out.symm) j2 rfl j4 j5 j6 j7 HN.out j8 j9);rw[a4.out]at aF;have bU:=az j3;clear j1 j2 j3 j4 j5 j6 j7 j8 j9 b0 b1 aQ;go_wp2_with fail
   refine aF.out.mono ?_;rintro e w8 ⟨B',rfl,bE,b5⟩;have bF:=az b5;clear b5 aF;go_wp2_with fail
   go_roundg ((s1.q 5 (k+1)).length)
   case rel=>exact⟨B',rfl,bE,bF⟩
   case measure=>have:=bU.out;omega
theorem Dy{rb k tb nt cap fb fc:Nat}{v0:Nat}{v1 x bk:Int}{R:World->Prop}(hk:k<nt)(hn:nt<1000000000)(J:w.cell? ⟨rb,6,none⟩=some (.slice (some ⟨tb,0,none⟩) nt cap))(u:w.cell? ⟨tb,k*8,none⟩=some (.slice (some ⟨fb,0,none⟩) 1 fc)/\w.frozen? ⟨tb,k*8,none⟩=false)(W:w.cell? ⟨fb,3,none⟩=some (.int .i64 bk))(Y:1<=fc)(n1:rb≠tb)(n2:tb≠fb)(hx:x=if 0<v0 then 0 else v1)(G:∀w1,((w.setCell ⟨tb,k*8,none⟩ (.slice (some ⟨fb,0,none⟩) 0 fc)).alloc (.cells #[.int .i64 v0,.int .i64 v1] 115)).grownBy w1 none->Calls prog 196 #[P0 rb,.int .i64 ((k:Int)+1),.int .i64 2,.int .i64 x,.agg #[.int .i64 v0,.int .i64 v1]] w1 λe w'=>e=.returned (.tuple #[])/\R w'): Calls prog 193 #[P0 rb,.int .i64 ((k:Int)+1),.agg #[.int .i64 v0,.int .i64 v1]] w λe w'=>e=.returned (.bool true)/\R w':=by
 obtain⟨u,z0⟩:=u;have lr:rb<w.heap.size:=av w _ J;have lt:tb<w.heap.size:=av w _ u;have lf:fb<w.heap.size:=av w _ W;have q5:=fp (n:=k) (by omega);have q7:(0:Int)<=k:=by omega
 have q8:(k:Int)<nt:=by omega
 have q9:(1:Int)<=fc:=by omega
 have y:=az G;by_cases H:0<v0
 .rw[aj H]at hx;subst hx
  go_in;go_wp2_with fail
  refine(y _ (ax _ _)).mono ?_;rintro e Z ⟨rfl,hR⟩;have o:=az hR;go_wp2_with fail
  go_ret;exact⟨rfl,o⟩
 rw[aa H]at hx;subst hx;have i:¬(0:Int)<v0:=by omega
 go_in;go_wp2_with fail
 refine(y _ (ax _ _)).mono ?_;rintro e Z ⟨rfl,hR⟩;have o:=az hR;go_wp2_with fail
 go_ret;exact⟨rfl,o⟩
theorem Bj{rb k tb nt cap fb fc n vb i rc a:Nat}{v0:Nat}{v1:Int}{Y H:Value}(hk:k<nt)(hn:nt<1000000000)(W:n<100)(G:w.cell? ⟨rb,6,none⟩=some (.slice (some ⟨tb,0,none⟩) nt cap))(y:w.cell? ⟨tb,k*8,none⟩=some (.slice (some ⟨fb,0,none⟩) (n+2) fc)/\w.frozen? ⟨tb,k*8,none⟩=false)(J:w.cell? ⟨fb,(n+1)*4+3,none⟩=some (.int .i64 a))(k1:w.cell? ⟨fb,n*4+1,none⟩=some (.slice (some ⟨vb,0,none⟩) i rc))(a0:n+2<=fc)(n1:rb≠tb)(n2:tb≠fb)(n3:tb≠vb)(n4:fb≠vb)(o:w.cell? ⟨vb,a*2,none⟩=some Y/\w.frozen? ⟨vb,a*2,none⟩=false)(u:w.cell? ⟨vb,a*2+1,none⟩=some H/\w.frozen? ⟨vb,a*2+1,none⟩=false)(ha:a<i): Calls prog 193 #[P0 rb,.int .i64 ((k:Int)+1),.agg #[.int .i64 v0,.int .i64 v1]] w λe w'=>e=.returned (.bool false)/\((((w.setCell ⟨tb,k*8,none⟩ (.slice (some ⟨fb,0,none⟩) (n+1) fc)).setCell ⟨vb,a*2,none⟩ (.int .i64 v0)).setCell ⟨vb,a*2+1,none⟩ (.int .i64 v1)).alloc (.cells #[.int .i64 v0,.int .i64 v1] 115)).grownBy w' none:=by
 obtain⟨y,z0⟩:=y;obtain⟨Z,z8⟩:=o;obtain⟨v9,z9⟩:=u;have lr:rb<w.heap.size:=av w _ G;have lt:tb<w.heap.size:=av w _ y;have lf:fb<w.heap.size:=av w _ J;have lv:vb<w.heap.size:=av w _ Z;have q5:=fp (n:=k) (by omega);have q7:(0:Int)<=k:=by omega
 have q8:(k:Int)<nt:=by omega
 have p1:IntKind.i64.wrap ((n:Int)+2-1)=(n:Int)+1:=by rw[bl,bd _ (by omega)];omega
 have p2:IntKind.i64.wrap ((n:Int)+1-1)=(n:Int):=fp (by omega);have p3:(0:Int)<=n+1:=by omega
 have p4:(n:Int)+1<(n:Int)+2:=by omega
 have p5:(n:Int)+1<=(fc:Int):=by omega
 have p6:(0:Int)<=n:=by omega
 have p7:(n:Int)<n+1:=by omega
 have p8:¬((n:Int)+1=0):=by omega
 have p9:(a:Int)<i:=by omega
 have m1:¬(w.heap.size=tb):=by omega
 have m2:¬(w.heap.size=vb):=by omega
 go_in;go_wp2_with fail
 go_region
 all_goals
  go_wp2_with fail
  go_ret;refine⟨rfl,?_⟩;first
   | exact ax _ _
   | exact bq (ax _ _)
   | exact db (ax _ _) _
   | exact⟨rfl,rfl,rfl,bj _,λ_ _ _=>rfl⟩
theorem JU{p:Dp}(m:Dm)(g:Dg)(t i:Nat):(ok p m g 6 t i).bs (g.rb t i):=rfl
theorem wH{p:dz}{s:Pl}{X:Nat->Prop}{ρ:Nat->Nat}{v:B.V}(u:fS p s X)(hS:eK p K s m ρ)(o:dN p s v):((tr ρ v).1=0↔v.1=0)/\(if 0<(tr ρ v).1 then(0:Int) else(tr ρ v).2)=v.2:=by
 by_cases e:v.1=0
 .rw[om e];exact⟨Iff.rfl,by rw[aa (by omega)]⟩
 have y:=(hS.C v.1 (B.oH.vi o e)).c1;have i:=u.Ay o;rw[oZ e];refine⟨⟨λh=>?_,λh=>ch h e⟩,?_⟩
 .omega
 show(if 0<ρ v.1 then(0:Int) else 0)=v.2;rcases i with h|h
 .exact ch h e
 rw[h.2.2.2];split<;>rfl
theorem Ae{v:B.V}(s:Pl)(t kind:Nat)(x:Int):v.1=0\/v∈(s.gone t v kind x).kp:=by
 rw[(gV s t v kind x).2.2.1];by_cases e:v.1=0
 .exact ag e
 exact ab (jK e)
theorem eK.small(hS:eK p K s m ρ)(e:Ok p s):m.nt<1000000000/\m.q.length<=1000000000:=by
 refine⟨by rw[hS.nt];have:=e.lw.d;omega,?_⟩;rw[hS.q];have:=e.lw.len (x:=2) (y:=0) (ag ⟨rfl,rfl⟩);omega
theorem Ga{t:Nat}{v:B.V}(hP:PD p d)(h:dQ d m g w)(hS:eK p K s m ρ)(J:Ok p s)(G:t∈s.lv)(hw:(s.T t).wh=none)(hv:dN p s v)(he:m.ev.length<=100000): Calls prog 193 #[P0 g.mb,.int .i64 t,vA (tr ρ v)] w λe w'=>e=.returned (.bool (decide (cr s t=0)))/\∃m' g',Tr d m g w m' g' w'/\eK p K (s.back t v) m' ρ:=by
 have ht:=J.lt t G;have o:=(iw hS t).2 ht;have Y:=hS.T t G;have hF:=J.fw t G trivial;obtain⟨hn,hq⟩:=hS.small J;have aA:pQ m t=cr s t:=by unfold pQ cr;rw[Y.l]
 obtain⟨tb,fb,n,T⟩:=h.top o (by rw[Y.l];exact λe=>hF.n1 (cf.1 e));have H:cr s t=n:=by unfold cr;rw[<-Y.l,T.l];omega
 obtain⟨Z,f0,f1,f2,f3⟩:=h.F o (by rw[T.l];omega);have a9:n+1<=(g.ro 5 t).2:=by rw[T.l]at f1;exact f1
 have a7:m.dv t ((m.T t).kD ((m.T t).fr.take n))=m.pop t:=by unfold Dm.pop;rw[List.dropLast_eq_take,T.l];rfl
 have y:=h.shrink o T.b (j:=n) (by rw[T.l];omega) (r:=g.ro 5 t) (ag rfl);rw[a7]at y;have aD:Value.slice (g.ro 5 t).1 n (g.ro 5 t).2=.slice (some ⟨fb,0,none⟩) n (g.ro 5 t).2:=by rw[T.a]
 rw[aD]at y;have a0:w.frozen? ⟨tb,(t-1)*8,none⟩=false:=by
  obtain⟨aC,e1,_,tc⟩:=h.tc o;have:aC=tb:=by
   have:=T.b;rw[e1]at this;injection this with this _;injection this with this;injection this with this _
  subst this;exact(tc.c 0 (by omega)).2
 obtain⟨k,rfl⟩:∃k,t=k+1:=⟨t-1,by omega⟩;rw[dC]at a0 y;have t0:=T.t0;rw[dC]at t0;have a6:k<m.nt:=by omega
 by_cases h0:cr s (k+1)=0
 .have aF:n=0:=by omega
  subst aF;rw[fh h0];have k3:=T.k3;rw[Nat.zero_mul,Nat.zero_add]at k3;refine(Dy (x:=v.2) (R:=λw'=>∃m' g',Tr d m g w m' g' w'/\eK p K (s.back (k+1) v) m' ρ) a6 hn T.c6 ⟨t0,a0⟩ k3 a9 T.n3 T.n2 (wH J hS hv).2.symm (λw1 aE=>?_)).mono ?_
  .have a4:=(y.kept (ah _ _ none)).kept aE;have hg:Ok p (s.gone (k+1) v 2 v.2):=J.gone G hv 2 v.2 (λ_ _ h=>h);have aN:k+1∉(s.gone (k+1) v 2 v.2).lv:=by rw[(gV s (k+1) v 2 v.2).1,J.nd.mem_erase_iff];exact λh=>h.1 rfl
   have a8:Ok p ((s.gone (k+1) v 2 v.2).pop (k+1)):=(hg.pop (by rw[oi,jd]) (λu hu=>⟨trivial,ag hu⟩)).Gt (λu hu _ e=>aN (e▸hu));rw[<-px hw]at a8;refine(JL (t:=k+1) (kind:=2) (x:=v.2) (v:=v) hP a4.r ((eg (iO (s.pop (k+1)) (k+1) v 2 v.2)).2 ht) a8 (hS.Jx (kind:=2) (x:=v.2) J G hw hv) (Ae (s.pop (k+1)) (k+1) 2 v.2) hq he).mono ?_;rintro e w' ⟨rfl,m',g',h1,h2⟩;refine⟨rfl,m',g',a4.trans h1,?_⟩;have hb:s.back (k+1) v=((s.pop (k+1)).gone (k+1) v 2 v.2).dR v (((s.pop (k+1)).gone (k+1) v 2 v.2).q 5 (k+1)):=by
    unfold Pl.back Pl.leave;rw[aj h0,yS (J.lw.pop (k+1)) ht]
   rw[hb];exact h2
  rintro e w' ⟨rfl,hR⟩;exact⟨rfl,hR⟩
 obtain⟨j,rfl⟩:∃j,n=j+1:=⟨n-1,by omega⟩;rw[fi h0];have a1:j<(m.T (k+1)).fr.length:=by rw[T.l];omega
 have W:j<(s.T (k+1)).fr.length:=by rw[<-Y.l];exact a1
 have a3:=h.R o a1;have aH:Z=fb:=by rw[T.a]at f0;injection f0 with f0;injection f0 with f0 _;exact f0.symm
 subst aH;have a2:=f3.cell (j*4+1) (by rw[T.l];omega);rw[tA d m g (k+1) (by omega)]at a2;have v6:=Az (p:=d) (m:=m) o.1 o.2 a1;have aP:(ok d m g 5 (k+1) 0).bs Z:=by
  show eO (g.ro 5 (k+1)).1=some Z;rw[T.a];rfl
 have aJ:(fj m (k+1) (j+1)).bk.2.1=(bw s (k+1)).bk.2.1:=by
  have:=(Y.f (cr s (k+1)) (by unfold cr;omega)).bk h0;rw[H]at this;unfold bw;rw[H];exact this
 have aB:(fj m (k+1) (j+1)).bk.2.1<d.rg (fj m (k+1) j).f:=by
  rw[aJ,show(fj m (k+1) j).f=(de s (k+1) j).f from(Y.f j W).f,hP.rg (de s (k+1) j).f (hF.f j W).1];have:=hF.b j (by rw[<-Y.l,T.l];omega);unfold bw;rw[H];exact this
 refine(Bj a6 hn (by have:=hF.n2;rw[<-Y.l,T.l]at this;omega) T.c6 ⟨t0,a0⟩ T.k3 a2 a9 T.n3 T.n2 (h.ne (m6 (by omega)) v6 ((Bw d m T.b tb).2 rfl) (JU m g _ _) (by omega)) (h.ne (pX (p:=d) (m:=m) o.1 o.2) v6 aP (JU m g _ _) (by omega)) (a3.cells _ (by omega)) (a3.cells _ (by omega)) aB).mono ?_;rintro e w' ⟨rfl,hg⟩;have a5:((m.pop (k+1)).T (k+1)).fr=(m.T (k+1)).fr.dropLast:=by unfold Dm.pop;rw[fG];rfl
 have aI:fj (m.pop (k+1)) (k+1) j=fj m (k+1) j:=by
  unfold fj;rw[a5];exact lP (by rw[T.l];omega)
 refine⟨rfl,_,_,((y.trans (y.r.wP (t:=k+1) (i:=j) o (by rw[a5,ef,T.l];omega) (fj m (k+1) (j+1)).bk.2.1 (tr ρ v))).kept (ah _ _ none)).kept hg,?_⟩;have h4:=hS.back G h0 hv;rw[aI];have aM:pR m (k+1)=fj m (k+1) (j+1):=by unfold pR;rw[aA,H]
 rw[aA,H,aM]at h4;exact h4
end D
namespace F
theorem dQ.Ls{p:dz}{s:Pl}{g:eE}{w:World}(h:dQ p s g w):¬pP p.sb p.pb p.n s.kd (jn s g) p.eb:=λe=>by
 have:=(h.i 0 0 0 1 0 0 p.eb rfl e).1;omega
theorem GR{p:dz}{s:Pl}{g:eE}{w:World}(h:dQ p s g w)(hP:PW p)(o:Ok p s):BG w (qQ p s g) p.eb p.sb p.pb p.n (eh p s).length s.kd (jn s g) (B.mD (eh p s) s.M):=by
 refine⟨Kq h.q o.lt (by have:=o.ll;have:=o.lw.d;omega) (by have:=o.kl;have:=hP.n2;omega) (λu G=>by have:=(o.fw u G trivial).n2;omega) (λu G i hi=>(hP.rg _ ((o.fw u G trivial).f i hi).1).2),λk H=>⟨h.q.lt H,λe=>?_⟩,h.S,o.hl,hP.n1,hP.n2⟩;obtain⟨x,y,z,J,W⟩:=H;exact J (h.i x y z 1 0 0 k W (ag e)).1
theorem GM(eb tb:Nat)(E Tk:Nat->Value)(R:World->Prop)(w:World)(o:Full w eb 144 44 44 E)(u:Full w tb 160 7 7 Tk)(H:Calls prog 173 #[P0 eb,.int .i64 ((5:Nat):Int),P0 tb,.int .i64 0] ((w.setCell ⟨tb,2,none⟩ (.bool false)).setCell ⟨eb,42,none⟩ (.bool true)) λe w'=>e=.returned (.tuple #[])/\R w'): Calls prog 156 #[P0 eb,P0 tb] w λe w'=>e=.returned (.tuple #[])/\R w':=by
 obtain⟨y,a0⟩:=o.cells 42 (by omega);obtain⟨c2,z2⟩:=u.cells 2 (by omega);have Z:=az H;generalize i:E 42=Y at y;generalize G:Tk 2=y2 at c2;go_in;go_wp2_with fail
 refine Z.mono ?_;rintro e w2 ⟨rfl,J⟩;have HR:=az J;go_wp2_with fail
 go_end0;exact⟨rfl,HR⟩
def Pl.FR(s:Pl):Pl:={ s with sp:=true }
theorem GL{p:dz}{s:Pl}{g:eE}{w:World}{t:Nat}(h:dQ p s g w)(ht:fe s t)(y:s.ev.length<=100000): Calls prog 156 #[P0 p.eb,P0 (g.tb t)] w λe w'=>e=.returned (.tuple #[])/\∃r,Tr p s g w (s.kj t) (g.at 9 0 r) w':=by
 have u:Tr p s g w (s.dv t (s.T t).stop) g (w.setCell ⟨g.tb t,2,none⟩ (.bool false)):=by
  refine h.flag ht rfl rfl ?_ (bm (S:=λk=>k=g.tb t) (dk _ _) (ag rfl) _);refine((h.tk ht).ep 2 _).congr (λj H=>?_);have i:∀a,sl (s.dv t (s.T t).stop) g a t=sl s g a t:=λa=>by
   unfold sl;rw[jN (s:=s) (s':=s.dv t (s.T t).stop) rfl rfl rfl rfl rfl (by rw[df];rfl) rfl]
  have J:j=0\/j=1\/j=2\/j=3\/j=4\/j=5\/j=6:=by omega
  rcases J with rfl|rfl|rfl|rfl|rfl|rfl|rfl
  .rfl
  .rw[eG _ _ _ _ (by decide)];exact(i 12).symm
  .rw[gf];show _=Value.bool _;rw[df];rfl
  .rw[eG _ _ _ _ (by decide)];show _=x8 p g _;rw[df];rfl
  .rw[eG _ _ _ _ (by decide)];show _=Ba g t _;rw[df];rfl
  .rw[eG _ _ _ _ (by decide)];show _=Value.int .i64 _;rw[df];rfl
  rw[eG _ _ _ _ (by decide)];exact(i 5).symm
 have G:Tr p s g w (s.dv t (s.T t).stop).FR g ((w.setCell ⟨g.tb t,2,none⟩ (.bool false)).setCell ⟨p.eb,42,none⟩ (.bool true)):=by
  refine u.trans (u.r.xR (s':=(s.dv t (s.T t).stop).FR) rfl rfl rfl rfl rfl (λa b=>⟨rfl,rfl⟩) ?_ (bm (S:=λk=>k=p.eb) (dk _ _) (ag rfl) _));refine(u.r.E.ep 42 _).congr (λj H=>?_);by_cases e:j=42
  .subst e;rw[gf];rfl
  rw[eG _ _ _ _ e];unfold iJ;by_cases o:j<28
  .rw[aj o,aj o]
  rw[aa o,aa o,aa e,aa e];rfl
 refine GM p.eb (g.tb t) (iJ p s g) (gE p s g t) (λw'=>∃r,Tr p s g w (s.kj t) (g.at 9 0 r) w') w h.E (h.tk ht) ?_;refine(B4 (t:=t) 5 0 G.r ht y).mono ?_;rintro e w' ⟨rfl,r,W⟩;exact⟨rfl,r,G.trans W⟩
def xZ(p:dz)(s:Pl)(g:eE)(w:World)(ty:Nat)(l:List B.V)(x:Int)(o:Bool)(w2:World):Prop:=
 (o=true/\∃(c:Nat) (kd1:B.Kd) (g':eE),x=(c:Int)/\1<=c/\c<=p.n/\kd1.on c=false/\B.jX kd1 p.n (eh p s) s.M/\Gj (eh p s).length p.n (B.mD (eh p s) s.M) s.kd kd1/\Tr p s g w (s.na kd1 c ty l) g' w2/\g'.tb=g.tb/\g'.fb=g.fb) \/
 (o=false/\(∀c,1<=c->c<=p.n->B.lS (eh p s) s.M c)/\∃(kd1:B.Kd) (g':eE),B.jX kd1 p.n (eh p s) s.M/\Tr p s g w (s.tQ kd1) g' w2/\g'.tb=g.tb)
theorem F2{p:dz}{s:Pl}{g:eE}{w w':World}{ty:Nat}{l:List B.V}{v:Value}(h:dQ p s g w)(i:dy (pP p.sb p.pb p.n s.kd (jn s g)) w w')(W:Laid w w' p.sb p.pb p.eb p.n (eh p s).length ty l s.kd (jn s g) (B.mD (eh p s) s.M) v): ∃(x:Int) (o:Bool),v=.tuple #[.agg #[.int .i64 x,.int .i64 0],.bool o]/\xZ p s g w ty l x o w':=by
 rcases W with⟨k,Z,e,h1,H,G,u,rfl,y,J⟩|⟨rfl,H,e,G,Y,y⟩
 .refine⟨_,_,rfl,ag ⟨rfl,k+1,e,_,by omega,by omega,by omega,H,G,u,h.Kg (s':=s.na e (k+1) ty l) (vb:=(jn s g).put (k+1) Z ty) rfl rfl rfl rfl rfl rfl rfl rfl rfl rfl rfl y i J,rfl,rfl⟩⟩
 exact⟨_,_,rfl,ab ⟨rfl,H,e,_,Y,h.Kg (s':=s.tQ e) (vb:=jn s g) rfl rfl rfl rfl rfl rfl rfl rfl rfl rfl rfl G i y,rfl⟩⟩
theorem zV{p:dz}{s:Pl}{g:eE}{w:World}{t a ty:Nat}{l:List B.V}(op b c:Nat)(hR:Rn p s t)(ha:a<p.rg (bw s t).f)(Y:s.ev.length<=100000): (∀x w2 u,xZ p s g w ty l x true w2->w2.grownBy u none->Calls prog 149 #[m8 p s g t (op,a,b,c),.agg #[.int .i64 x,.int .i64 0]] u λe w'=>e=.returned (.tuple #[])/\∃s' g',kL p s t a ty l s'/\Tr p s g w s' g' w') /\ (∀x w2 u,xZ p s g w ty l x false w2->w2.grownBy u none->Calls prog 156 #[P0 p.eb,P0 (g.tb t)] u λe w'=>e=.returned (.tuple #[])/\∃s' g',kL p s t a ty l s'/\Tr p s g w s' g' w'):=by
 constructor
 .intro x w2 u hS Z;rcases hS with⟨_,q,o,g',rfl,H,W,h3,J,h5,h6,h7,h8⟩|⟨h0,_⟩
  .have G:=h6.kept Z;have:=wP (s:=s.na o q ty l) (g:=g') (t:=t) (i:=cr s t) (a:=a) op b c (g.tb t) p.eb (q,0) G.r hR.ht hR.hi ha;rw[h8]at this;refine this.mono ?_;rintro e w' ⟨rfl,y⟩;exact⟨rfl,_,g',ag ⟨q,o,H,W,h3,J,h5,rfl⟩,G.trans y⟩
  cases h0
 intro x w2 u hS Z;rcases hS with⟨h0,_⟩|⟨_,H,o,g',W,h3,J⟩
 .cases h0
 have G:=h3.kept Z;have:=GL (s:=s.tQ o) (g:=g') (t:=t) G.r hR.ht Y;rw[J]at this;refine this.mono ?_;rintro e w' ⟨rfl,r,y⟩;exact⟨rfl,_,_,ab ⟨H,o,W,rfl⟩,G.trans y⟩
theorem i9{p:dz}{s:Pl}{g:eE}{w:World}{t op a b c:Nat}(h:dQ p s g w)(hP:PW p)(hR:Rn p s t)(ha:a<p.rg (bw s t).f)(hb:b<=8)(a0:s.ev.length<=100000): Calls prog 163 #[m8 p s g t (op,a,b,c),P0 (p.ac+15)] w λe w'=>e=.returned (.int .i64 0)/\∃s' g',kL p s t a 0 (List.replicate b (0,0)) s'/\Tr p s g w s' g' w':=by
 have H:=hP.box h.fix (j:=15) (by omega) rfl;refine uJ op a b c _ _ _ (p.ac+14) (p.ac+15) (λw'=>∃s' g',kL p s t a 0 (List.replicate b (0,0)) s'/\Tr p s g w s' g' w') w H.1 (λw1 J=>?_);have y:=h.kept J;obtain⟨E1,E2⟩:=zV (w:=w1) (g:=g) (ty:=0) (l:=List.replicate b (0,0)) op b c hR ha a0;have a1:=A6 op a b c (g.fb t (cr s t)) (g.tb t) p.eb (p.ac+14) (xZ p s g w1 0 (List.replicate b (0,0))) (λw'=>∃s' g',kL p s t a 0 (List.replicate b (0,0)) s'/\Tr p s g w1 s' g' w') w1 (hP.box y.fix (j:=14) (by omega) rfl).1 (λw2 G a2=>?_) E1 E2
 .refine a1.mono ?_;rintro e w' ⟨rfl,s',g',k1,k2⟩;exact⟨rfl,s',g',k1,k2.ahead J⟩
 have i:=y.kept G;refine(xp (qQ p s g) op a b c _ _ p.eb p.sb p.pb p.n (eh p s).length s.kd (jn s g) (B.mD (eh p s) s.M) w2 (GR i hP hR.ok) hb (i.Gd hP) i.Ls).mono ?_;rintro e w3 ⟨v,rfl,W,hL⟩;obtain⟨x,o,rfl,hS⟩:=F2 i W hL;refine⟨x,o,rfl,?_,W.block a2 (λhm=>?_)⟩
 .rcases hS with⟨e0,q,u,g',e1,H,Z,h3,Y,h5,h6,h7⟩|⟨e0,H,u,g',Z,h3,Y⟩
  .exact ag ⟨e0,q,u,g',e1,H,Z,h3,Y,h5,h6.ahead G,h7⟩
  exact ab ⟨e0,H,u,g',Z,h3.ahead G,Y⟩
 have:=y.lt ⟨1,0,0,hm⟩;omega
theorem i12{p:dz}{s:Pl}{g:eE}{w:World}{t op a b c:Nat}(h:dQ p s g w)(hP:PW p)(hR:Rn p s t)(ha:a<p.rg (bw s t).f)(hb:b<256)(hc:c<p.rg (bw s t).f)(a0:s.ev.length<=100000): Calls prog 163 #[m8 p s g t (op,a,b,c),P0 (p.ac+17)] w λe w'=>e=.returned (.int .i64 0)/\∃s' g',kL p s t a (b+1) [(bw s t).R c] s'/\Tr p s g w s' g' w':=by
 have H:=hP.box h.fix (j:=17) (by omega) rfl;refine uJ op a b c _ _ _ (p.ac+16) (p.ac+17) (λw'=>∃s' g',kL p s t a (b+1) [(bw s t).R c] s'/\Tr p s g w s' g' w') w H.1 (λw1 J=>?_);have y:=h.kept J;obtain⟨E1,E2⟩:=zV (w:=w1) (g:=g) (ty:=b+1) (l:=[(bw s t).R c]) op b c hR ha a0;have a1:=A5 op a b c (g.fb t (cr s t)) (g.tb t) p.eb (p.ac+16) (xZ p s g w1 (b+1) [(bw s t).R c]) (λw'=>∃s' g',kL p s t a (b+1) [(bw s t).R c] s'/\Tr p s g w1 s' g' w') w1 (hP.box y.fix (j:=16) (by omega) rfl).1 (λw2 G a2=>?_) E1 E2
 .refine a1.mono ?_;rintro e w' ⟨rfl,s',g',k1,k2⟩;exact⟨rfl,s',g',k1,k2.ahead J⟩
 have i:=y.kept G;refine(qU (qQ p s g) op a b c _ _ p.eb p.sb p.pb p.n (eh p s).length ((bw s t).R c) s.kd (jn s g) (B.mD (eh p s) s.M) w2 (GR i hP hR.ok) hb (In.c i hR.gm op a b c _ _ hc) (i.Gd hP) i.Ls).mono ?_;rintro e w3 ⟨v,rfl,W,hL⟩;obtain⟨x,o,rfl,hS⟩:=F2 i W hL;refine⟨x,o,rfl,?_,W.block a2 (λhm=>?_)⟩
 .rcases hS with⟨e0,q,u,g',e1,H,Z,h3,Y,h5,h6,h7⟩|⟨e0,H,u,g',Z,h3,Y⟩
  .exact ag ⟨e0,q,u,g',e1,H,Z,h3,Y,h5,h6.ahead G,h7⟩
  exact ab ⟨e0,H,u,g',Z,h3.ahead G,Y⟩
 have:=y.lt ⟨1,0,0,hm⟩;omega
theorem i10{p:dz}{s:Pl}{g:eE}{w:World}{t op a b c:Nat}(h:dQ p s g w)(hP:PW p)(hR:Rn p s t)(u:a<p.rg (bw s t).f)(y:b<p.rg (bw s t).f)(o:c<p.rg (bw s t).f): Calls prog 101 #[m8 p s g t (op,a,b,c)] w λe w'=>∃(why:Int) (s':Pl),e=.returned (.int .i64 why)/\jD p s t (10,a,b,c) why s'/\∃g',Tr p s g w s' g' w':=by
 refine(BF op a b c _ _ p.eb _ _ _ _ _ p.sb p.pb p.n _ s.kd (jn s g) _ s.M w (In.fr h hR.gm) h.S (λi hi=>hR.ok.Ay (hR.oq hi)) hP.n2 u y o (h.Gd hP) h.E.lt (h.E.ne (h.rg hR.ht hR.hi) (by decide))).mono ?_;rintro e w' (⟨k0,rfl,k1,k2⟩|⟨k0,rfl,k1⟩)
 .exact⟨0,_,rfl,ag ⟨k0,rfl,rfl⟩,g,In.set h hR.gm k1 k2⟩
 exact⟨_,s,rfl,ab ⟨k0,rfl,rfl⟩,g,(Tr.refl h).kept k1⟩
theorem i11{p:dz}{s:Pl}{g:eE}{w:World}{t op a b c:Nat}(h:dQ p s g w)(hP:PW p)(hR:Rn p s t)(H:a<p.rg (bw s t).f)(J:b<p.rg (bw s t).f)(y:c<p.rg (bw s t).f): Calls prog 102 #[m8 p s g t (op,a,b,c)] w λe w'=>∃(why:Int) (s':Pl),e=.returned (.int .i64 why)/\jD p s t (11,a,b,c) why s'/\∃g',Tr p s g w s' g' w':=by
 refine(BE op a b c _ _ p.eb _ _ _ _ _ p.sb p.pb p.n (eh p s).length _ s.kd (jn s g) (B.mD (eh p s) s.M) _ w (In.fr h hR.gm) h.S hR.ok.hl (λi hi=>hR.ok.Ay (hR.oq hi)) (λi hi Y=>B.oH.vi (hR.oq hi) Y) hP.n2 H J y (h.Gd hP) h.E.lt (λo=>h.Ls (ab (ab o)))).mono ?_;rintro e w' (⟨k0,rfl,u,k1,k2,G,W⟩|⟨k0,rfl,k1⟩)
 .exact⟨0,s.sK ((bw s t).R a).1 ((bw s t).R b).2.toNat ((bw s t).R c),rfl,ag ⟨k0,rfl,rfl⟩,_,h.Kg (s':=s.sK ((bw s t).R a).1 ((bw s t).R b).2.toNat ((bw s t).R c)) (vb:=u) rfl rfl rfl rfl rfl rfl rfl rfl rfl rfl (by rw[W];rfl) k1 (k2.mono (λk o _=>ab (ab o))) G⟩
 exact⟨_,s,rfl,ab ⟨k0,rfl,rfl⟩,g,(Tr.refl h).kept k1⟩
theorem IE{p:dz}{s:Pl}{g:eE}{w:World}(h:dQ p s g w)(hP:PW p)(G:Ok p s)(o:p.wk<=50): Calls prog 69 #[P0 p.sb,.int .i64 p.wk] w λe w'=>e=.returned (.tuple #[])/\∃g',Tr p s g w (s.im p) g' w':=by
 refine(BP (qQ p s g) p.eb p.sb p.pb p.n (eh p s).length p.wk s.kd (jn s g) (B.mD (eh p s) s.M) w (GR h hP G) o).mono ?_;rintro e w' ⟨rfl,i,k1,k2,y,H,u⟩;exact⟨rfl,_,h.Kg (s':=s.im p) (vb:=i) rfl rfl rfl rfl rfl rfl rfl rfl rfl rfl (by rw[u];rfl) k1 y H⟩
