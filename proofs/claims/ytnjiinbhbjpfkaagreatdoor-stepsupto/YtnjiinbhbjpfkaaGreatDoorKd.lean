import Derived.Test.YtnjiinbhbjpfkaaGreatDoorKc
set_option maxRecDepth 100000
set_option maxHeartbeats 0
set_option linter.all false
namespace Go.Proofs.YtnjiinbhbjpfkaaGreatDoor
open Go.RowKit Go.Proofs.Tryz
namespace F
theorem og{e:List B.V}{v u:B.V}(h:u∈iV e v):u∈e\/(u=v/\v.1≠0):=by
 unfold iV at h;split at h
 .rename_i c;rcases di.1 h with h|h
  .exact ag h
  exact ab ⟨by simpa using h,c.1⟩
 exact ag h
theorem Bc{e:List B.V}{v u:B.V}(h:u∈e):u∈iV e v:=by
 unfold iV;split
 .simp[h]
 exact h
theorem jK{e:List B.V}{v:B.V}(h:v.1≠0):v∈iV e v:=by
 unfold iV;split
 .simp
 rename_i c;exact Classical.byContradiction λi=>c ⟨h,i⟩
theorem Dd{o:List B.V}{v:B.V}(h:o.Nodup):(iV o v).Nodup:=by
 unfold iV;split
 .rename_i c;rw[List.nodup_append];refine⟨h,by simp,λa u b i=>?_⟩;simp at i;subst i;exact λe=>c.2 (e▸u)
 exact h
theorem vC(s:Pl)(t:Nat)(v:B.V)(kind:Nat)(x:Int)(u:Nat):((s.gone t v kind x).T u).fr=(s.T u).fr:=by
 by_cases e:u=t
 .subst e;show(((s.dw u).dv u ((s.dw u).T u).stop).T u).fr=_;rw[df];exact ku s u u
 rw[mR s v kind x e]
theorem gV(s:Pl)(t:Nat)(v:B.V)(kind:Nat)(x:Int):(s.gone t v kind x).lv=s.lv.erase t/\(s.gone t v kind x).out=s.out.set (t-1) v/\(s.gone t v kind x).kp=iV s.kp v/\(s.gone t v kind x).jo=s.jo/\(s.gone t v kind x).eY=s.eY/\(s.gone t v kind x).kd=s.kd/\(s.gone t v kind x).M=s.M/\(s.gone t v kind x).ck=s.ck/\(s.gone t v kind x).ev=s.ev++[(kind,t,x)]/\(s.gone t v kind x).q=(s.dw t).q:=by
 obtain⟨k1,k2,u,y,i,J,H,o,G,e⟩:=gz s t;refine⟨rfl,?_,?_,i,H,o,G,e,?_,rfl⟩
 .show(s.dw t).out.set (t-1) v=_;rw[k2]
 .show iV (s.dw t).kp v=_;rw[u]
 show(s.dw t).ev++[(kind,t,x)]=_;rw[y]
theorem fS.gone{p:dz}{s:Pl}{X Y:Nat->Prop}(h:fS p s X){t:Nat}(a2:t∈s.lv){v:B.V}(hv:dN p s v)(kind:Nat)(x:Int)(hY:∀u,u≠t->Y u->X u):fS p (s.gone t v kind x) Y:=by
 have ht:=h.lt t a2;have hn:=iO s t v kind x;obtain⟨H,f2,f3,f4,f5,f6,f7,f8,_,a0⟩:=gV s t v kind x;have a1:∀u j,de (s.gone t v kind x) u j=de s u j:=λu j=>gJ (vC s t v kind x u);have W:(s.gone t v kind x).T t=((s.dw t).T t).stop:=df _ _ _;have J:=h.lw.gone ht v kind x;refine⟨J,h.ww.gone v kind x,by rw[H];exact h.nd.erase _,λu i=>(eg hn).2 (h.lt u (List.mem_of_mem_erase (by rw[<-H];exact i))),λa b y c G=>?_,λu i y=>?_,λu i Z=>?_,by rw[f2,dq,hn];exact h.ol,λu i=>?_,by rw[f3];exact Dd h.kn,λu i=>?_,λu i hy=>?_,h.roots f6 f7 ?_,by rw[f6,f8];exact h.fc,by rw[f4];exact h.bt,by rw[f5];exact h.c0,by rw[f5];exact h.c1⟩
 .have hb:=J.b a b y c G;have e:c≠t:=λe=>by
   have h2:=hb.2;rw[e,oi,jd]at h2
   cases h2
  rw[H,h.nd.mem_erase_iff];rw[a0]at G;exact⟨e,h.ql a b ((fQ hn).1 y) c (py G)⟩
 .by_cases e:u=t
  .subst e;rw[W]at y;exact ch (vp h ht) y
  rw[mR s v kind x e]at y ⊢;exact h.lf u ((eg hn).1 i) y
 .by_cases e:u=t
  .subst e;rw[W]at Z;cases Z
  rw[mR s v kind x e]at Z ⊢;have:=h.rn u ((eg hn).1 i) Z;exact⟨this.1,by rw[H,h.nd.mem_erase_iff];exact⟨e,this.2⟩⟩
 .rw[f2]at i;rw[f3];rcases List.mem_or_eq_of_mem_set i with o|o
  .exact(h.ok u o).imp id Bc
  subst o;by_cases e:u.1=0
  .exact ag e
  exact ab (jK e)
 .rw[f3]at i;rcases og i with o|o
  .exact h.kz u o
  rw[o.1];exact o.2
 .rw[H,h.nd.mem_erase_iff]at i;rw[vC];exact h.fw u i.2 (hY u i.1 hy)
 rintro u (⟨c,j,a,G,hj,ha,e⟩|i)
 .rw[a1]at ha e;rw[vC]at hj;rw[H]at G;exact dN.root (ag ⟨c,j,a,List.mem_of_mem_erase G,hj,ha,e⟩)
 rw[f3]at i;rcases og i with o|o
 .exact dN.root (ab o)
 rw[o.1];exact hv
theorem iW(s:Pl)(x y t:Nat):(s.dV x y t).lv=s.lv/\(s.dV x y t).out=s.out/\(s.dV x y t).kp=s.kp/\(s.dV x y t).jo=s.jo/\(s.dV x y t).eY=s.eY/\(s.dV x y t).kd=s.kd/\(s.dV x y t).M=s.M/\(s.dV x y t).ck=s.ck/\(s.dV x y t).ev=s.ev/\(s.dV x y t).sp=s.sp:=by
 obtain⟨k1,k2,u,G,i,J,W,o,H,e⟩:=gz s t;exact⟨k1,k2,u,i,W,o,H,e,G,J⟩
theorem oX(s:Pl)(t:Nat)(v:B.V):(s.fJ t v).lv=s.lv/\(s.fJ t v).out=s.out/\(s.fJ t v).kp=s.kp/\(s.fJ t v).jo=s.jo/\(s.fJ t v).eY=s.eY/\(s.fJ t v).kd=s.kd/\(s.fJ t v).M=s.M/\(s.fJ t v).ck=s.ck/\(s.fJ t v).ev=s.ev/\(s.fJ t v).sp=s.sp:=by
 unfold Pl.fJ;split
 .exact⟨rfl,rfl,rfl,rfl,rfl,rfl,rfl,rfl,rfl,rfl⟩
 exact iW _ 2 0 t
theorem sg(v:B.V):∀(l:List Nat) (s:Pl),(s.dR v l).lv=s.lv/\(s.dR v l).kp=s.kp/\(s.dR v l).ev=s.ev/\(s.dR v l).nt=s.nt/\(s.dR v l).sp=s.sp
 | [],_=>⟨rfl,rfl,rfl,rfl,rfl⟩
 | t :: l,s=>by
  obtain⟨G,W,y,H,u⟩:=sg v l (s.fJ t v);obtain⟨J,_,i,_,_,_,_,_,o,e⟩:=oX s t v;exact⟨G.trans J,W.trans i,y.trans o,H.trans (mH s t v),u.trans e⟩
theorem fS.dR{p:dz}{X:Nat->Prop}{v:B.V}:∀(l:List Nat) {s:Pl},fS p s X->(∀u,u∈l->fe s u)->(∀u,u∈s.lv->X u)->(v.1=0\/v∈s.kp)->fS p (s.dR v l) X
 | [],_,h,_,_,_=>h
 | t :: l,s,h,hl,hX,hv=>by
  obtain⟨y,_,o,_⟩:=oX s t v;refine fS.dR l (h.fJ (hl t (by simp)) (hX t) (hv.elim (λe=>ag e) (λe=>dN.root (ab e)))) (λu i=>(eg (mH s t v)).2 (hl u (by simp[i]))) (λu i=>hX u (by rw[<-y];exact i)) (by rw[o];exact hv)
theorem fS.leave{p:dz}{s:Pl}{X:Nat->Prop}(h:fS p s X){t:Nat}(i:t∈s.lv)(hX:∀u,u≠t->X u){v:B.V}(y:dN p s v)(kind:Nat)(x:Int):Ok p (s.leave t v kind x):=by
 refine (h.gone i y kind x (λu o _=>hX u o)).dR _ (λu o=>(eg (iO s t v kind x)).2 (h.lw.b 5 t (ab (ab (ab ⟨rfl,h.lt t i⟩))) u o).1) (λ_ _=>trivial) ?_;rw[(gV s t v kind x).2.2.1];by_cases e:v.1=0
 .exact ag e
 exact ab (jK e)
theorem xz(s:Pl)(t:Nat)(v:B.V)(kind:Nat)(x:Int):(s.leave t v kind x).lv=s.lv.erase t/\(s.leave t v kind x).ev=s.ev++[(kind,t,x)]/\(s.leave t v kind x).nt=s.nt:=by
 obtain⟨u,_,o,y,_⟩:=sg v (s.q 5 t) (s.gone t v kind x);obtain⟨e,_,_,_,_,_,_,_,i,_⟩:=gV s t v kind x;exact⟨u.trans e,o.trans i,y.trans (iO s t v kind x)⟩
theorem kC(l:List gY)(f:gY)(i:Nat):(l++[f]).getD i mr=if i=l.length then f else l.getD i mr:=by
 rw[ar,ar];by_cases e:i=l.length
 .subst e;simp
 rw[aa e];rcases Nat.lt_or_ge i l.length with h|h
 .rw[du h]
 rw[cw (by simp;omega),cw (by omega)]
theorem FW.push{p:dz}{l:List gY}{f:gY}(h:l=[]\/FW p l)(H:l.length<20)(u:f.f<p.nf)(hn:f.nx<=p.len f.f)(y:l≠[]->f.bk.2.1<p.rg (l.getD (l.length-1) mr).f):FW p (l++[f]):=by
 have o:∀i,i<l.length->FW p l:=λi hi=>h.resolve_left (λe=>by rw[e]at hi;exact ch hi (Nat.not_lt_zero _));refine⟨by simp,by rw[bo];simp;omega,λi hi=>?_,λi hi=>?_⟩
 .rw[bo,eF]at hi;rw[kC];by_cases e:i=l.length
  .rw[aj e];exact⟨u,hn⟩
  rw[aa e];exact(o i (by omega)).f i (by omega)
 rw[bo,eF]at hi;rw[kC,kC];rw[aa (show ¬i=l.length by omega)];by_cases e:i+1=l.length
 .rw[aj e];have:i=l.length-1:=by omega
  rw[this];exact y (λG=>by rw[G]at e;cases e)
 rw[aa e];exact(o i (by omega)).b i (by omega)
theorem rm(s:Pl)(t:Nat)(f:gY):((s.push t f).T t).fr=(s.T t).fr++[f]:=by unfold Pl.push;rw[df];rfl
theorem oN(s:Pl){t u:Nat}(f:gY)(h:u≠t):(s.push t f).T u=s.T u:=dP _ _ h
theorem CI(s:Pl)(t:Nat)(f:gY)(u:Nat):((s.push t f).T u).run=(s.T u).run:=by
 unfold Pl.push;by_cases e:u=t
 .subst e;rw[df];rfl
 rw[dP _ _ e]
theorem fS.push{p:dz}{s:Pl}{X Y:Nat->Prop}(h:fS p s X){t:Nat}{f:gY}(hw:(s.T t).wh=none)(W:(s.T t).fr.length<20)(hF:(s.T t).fr=[]\/FW p (s.T t).fr)(hf:f.f<p.nf)(hn:f.nx<=p.len f.f)(hb:(s.T t).fr≠[]->f.bk.2.1<p.rg (de s t (cr s t)).f)(hR:∀a,a<p.rg f.f->dN p s (f.R a))(hY:∀u,u≠t->Y u->X u):fS p (s.push t f) Y:=by
 have G:=λu=>rk s t f u;have o:∀u,u≠t->(s.push t f).T u=s.T u:=λu e=>oN s f e;refine⟨h.lw.push t f,λu i x y J a0=>?_,h.nd,h.lt,h.ql,λu i W=>?_,λu i hr=>?_,h.ol,h.ok,h.kn,h.kz,λu i hy=>?_,h.roots rfl rfl ?_,h.fc,h.bt,h.c0,h.c1⟩
 .rw[(G u).1]at J;have e:u≠t:=λe=>by rw[e,hw]at J;cases J
  obtain⟨k,k1,k2,k3⟩:=h.ww u i x y J a0;rw[o u e,gJ (s:=s) (by rw[o u e])];exact⟨k,k1,k2,k3⟩
 .rw[(G u).2]at W;rw[(G u).1];exact h.lf u i W
 .rw[CI]at hr;rw[(G u).1];exact h.rn u i hr
 .by_cases e:u=t
  .subst e;rw[rm];exact FW.push hF W hf hn hb
  rw[o u e];exact h.fw u i (hY u e hy)
 rintro v (⟨u,j,a,i,Z,H,e⟩|hv)
 .by_cases e1:u=t
  .subst e1;rw[rm,bo,eF]at Z;by_cases e2:j=(s.T u).fr.length
   .subst e2;rw[vj]at H e;rw[<-e];exact hR a H
   rw[nI s f (λ_=>by omega)]at H e;exact dN.root (ag ⟨u,j,a,i,by omega,H,e⟩)
  rw[nI s f (λe'=>ch e' e1)]at H e;rw[o u e1]at Z;exact dN.root (ag ⟨u,j,a,i,Z,H,e⟩)
 exact dN.root (ab hv)
theorem FW.pop{p:dz}{l:List gY}(h:FW p l)(y:2<=l.length):FW p l.dropLast:=by
 have o:∀i,i+1<l.length->l.dropLast.getD i mr=l.getD i mr:=λi hi=>by
  rw[ar,ar,List.getElem?_dropLast,aj (by omega)]
 have u:l.dropLast.length=l.length-1:=ef;refine⟨λe=>?_,by have:=h.n2;omega,λi hi=>?_,λi hi=>?_⟩
 .rw[e]at u;simp at u;omega
 .rw[o i (by omega)];exact h.f i (by omega)
 rw[o i (by omega),o (i+1) (by omega)];exact h.b i (by omega)
theorem jk(s:Pl){t u:Nat}(h:u≠t):(s.pop t).T u=s.T u:=dP _ _ h
theorem G0(s:Pl)(t:Nat):((s.pop t).T t).fr=(s.T t).fr.dropLast:=by unfold Pl.pop;rw[df];rfl
theorem zF(s:Pl)(t u:Nat):((s.pop t).T u).run=(s.T u).run:=by
 unfold Pl.pop;by_cases e:u=t
 .subst e;rw[df];rfl
 rw[dP _ _ e]
theorem fS.pop{p:dz}{s:Pl}{X Y:Nat->Prop}(h:fS p s X){t:Nat}(hw:(s.T t).wh=none)(hY:∀u,Y u->X u/\(u≠t\/2<=(s.T t).fr.length)):fS p (s.pop t) Y:=by
 have o:=λu=>vm s t u;refine⟨h.lw.pop t,h.ww.pop hw,h.nd,h.lt,h.ql,λu i W=>?_,λu i J=>?_,h.ol,h.ok,h.kn,h.kz,λu i Z=>?_,h.roots rfl rfl ?_,h.fc,h.bt,h.c0,h.c1⟩
 .rw[(o u).2]at W;rw[(o u).1];exact h.lf u i W
 .rw[zF]at J;rw[(o u).1];exact h.rn u i J
 .obtain⟨k1,k2⟩:=hY u Z;have:=h.fw u i k1;by_cases e:u=t
  .subst e;rw[G0];exact this.pop (k2.resolve_left (λh=>h rfl))
  rw[jk s e];exact this
 rintro v (⟨u,j,a,i,G,y,e⟩|hv)
 .by_cases H:u=t
  .subst H;rw[rp]at G;rw[oa s (λ_=>by omega)]at y e;exact dN.root (ag ⟨u,j,a,i,by omega,y,e⟩)
  rw[oa s (λe'=>ch e' H)]at y e;rw[jk s H]at G;exact dN.root (ag ⟨u,j,a,i,G,y,e⟩)
 exact dN.root (ab hv)
theorem px{s:Pl}{t:Nat}(hw:(s.T t).wh=none)(v:B.V)(kind:Nat)(x:Int):(s.pop t).gone t v kind x=(s.gone t v kind x).pop t:=by
 have y:((s.pop t).T t).wh=none:=by rw[(vm s t t).1];exact hw
 have J:((s.pop t).gone t v kind x).T=((s.gone t v kind x).pop t).T:=by
  funext i
  by_cases e:i=t
  .subst e;have W:((s.pop i).gone i v kind x).T i=((s.pop i).T i).stop:=by
    show(((s.pop i).dw i).dv i (((s.pop i).dw i).T i).stop).T i=_;rw[df,gd y]
   have H:(s.gone i v kind x).T i=(s.T i).stop:=by
    show((s.dw i).dv i ((s.dw i).T i).stop).T i=_;rw[df,gd hw]
   rw[W];show _=((s.gone i v kind x).dv i _).T i;rw[df,H];show((s.dv i _).T i).stop=_;rw[df];rfl
  rw[mR _ v kind x e,jk s e,jk _ e,mR s v kind x e]
 have G:∀a b:Pl,a.nt=b.nt->a.T=b.T->a.q=b.q->a.lv=b.lv->a.out=b.out->a.kp=b.kp->a.ev=b.ev->a.jo=b.jo->a.sp=b.sp->a.eY=b.eY->a.kd=b.kd->a.M=b.M->a.ck=b.ck->a=b:=by
  rintro⟨⟩ ⟨⟩;simp only;rintro rfl rfl rfl rfl rfl rfl rfl rfl rfl rfl rfl rfl rfl;rfl
 have u:=gd y;have o:=gd hw;refine G _ _ ?_ J ?_ rfl ?_ ?_ ?_ ?_ ?_ ?_ ?_ ?_ ?_
 .rw[iO];show s.nt=(s.gone t v kind x).nt;rw[iO]
 .show((s.pop t).dw t).q=(s.dw t).q;rw[u,o];rfl
 .show((s.pop t).dw t).out.set (t-1) v=(s.dw t).out.set (t-1) v;rw[u,o];rfl
 .show iV ((s.pop t).dw t).kp v=iV (s.dw t).kp v;rw[u,o];rfl
 .show((s.pop t).dw t).ev++_=(s.dw t).ev++_;rw[u,o];rfl
 .show((s.pop t).dw t).jo=(s.dw t).jo;rw[u,o];rfl
 .show((s.pop t).dw t).sp=(s.dw t).sp;rw[u,o];rfl
 .show((s.pop t).dw t).eY=(s.dw t).eY;rw[u,o];rfl
 .show((s.pop t).dw t).kd=(s.dw t).kd;rw[u,o];rfl
 .show((s.pop t).dw t).M=(s.dw t).M;rw[u,o];rfl
 show((s.pop t).dw t).ck=(s.dw t).ck;rw[u,o];rfl
theorem Pl.ext'{a b:Pl}(Y:a.nt=b.nt)(J:a.T=b.T)(H:a.q=b.q)(G:a.lv=b.lv)(h5:a.out=b.out)(Z:a.kp=b.kp)(W:a.ev=b.ev)(h8:a.jo=b.jo)(y:a.sp=b.sp)(u:a.eY=b.eY)(o:a.kd=b.kd)(e:a.M=b.M)(i:a.ck=b.ck):a=b:=by
 obtain⟨⟩:=a;obtain⟨⟩:=b;simp only at Y J H G h5 Z W h8 y u o e i;subst Y J H G h5 Z W h8 y u o e i;rfl
theorem uW(l:List gY)(i:Nat)(f:gY)(hi:i+1<l.length):(l.set i f).dropLast=l.dropLast.set i f:=by
 apply List.ext_getElem?
 intro j;rw[List.getElem?_dropLast,dq];by_cases e:j=i
 .subst e;rw[aj (by omega),List.getElem?_set_self (by omega),List.getElem?_set_self (by rw[ef];omega)]
 rw[List.getElem?_set_ne (λh=>e h.symm),List.getElem?_set_ne (λh=>e h.symm),List.getElem?_dropLast]
theorem CL{s:Pl}{t i:Nat}{f:gY}(hi:i+1<(s.T t).fr.length):(s.pop t).dx t i f=(s.dx t i f).pop t:=by
 refine Pl.ext' rfl ?_ rfl rfl rfl rfl rfl rfl rfl rfl rfl rfl rfl;funext u
 by_cases e:u=t
 .subst e;unfold Pl.dx Pl.pop;rw[df,df,df,df];unfold oT.kD;simp only[uW _ _ _ hi]
 rw[nC _ _ e,jk _ e,jk _ e,nC _ _ e]
theorem fS.back{p:dz}{s:Pl}(h:Ok p s){t:Nat}(i:t∈s.lv)(hw:(s.T t).wh=none){v:B.V}(J:dN p s v):Ok p (s.back t v):=by
 unfold Pl.back;by_cases e:cr s t=0
 .rw[aj e];unfold Pl.leave;rw[px hw];have y:t∉(s.gone t v 2 v.2).lv:=by rw[(gV s t v 2 v.2).1,h.nd.mem_erase_iff];exact λh=>h.1 rfl
  have G:Ok p ((s.gone t v 2 v.2).pop t):=((h.gone i J 2 v.2 (λ_ _ h=>h)).pop (by rw[oi,jd]) (λu o=>⟨trivial,ag o⟩)).Gt (λu o _ e=>y (e▸o));refine G.dR _ (λu o=>?_) (λ_ _=>trivial) ?_
  .exact(eg (iO s t v 2 v.2)).2 (h.lw.b 5 t (ab (ab (ab ⟨rfl,h.lt t i⟩))) u o).1
  show v.1=0\/v∈(s.gone t v 2 v.2).kp;rw[(gV s t v 2 v.2).2.2.1];by_cases e:v.1=0
  .exact ag e
  exact ab (jK e)
 rw[aa e];have Z:2<=(s.T t).fr.length:=by unfold cr at e;omega
 rw[CL (by unfold cr;omega)];refine(h.oD i trivial (by unfold cr;omega) _ J).pop (by rw[(gj s t _ t _).1];exact hw) (λu _=>⟨trivial,ab ?_⟩);rw[(gj s t _ t _).2.2.2.2];exact Z
theorem lG(s:Pl)(t:Nat)(v:B.V):(cr s t=0->(s.back t v).lv=s.lv.erase t/\(s.back t v).ev=s.ev++[(2,t,v.2)]/\(s.back t v).nt=s.nt)/\(cr s t≠0->(s.back t v).lv=s.lv/\(s.back t v).ev=s.ev/\(s.back t v).nt=s.nt/\(s.back t v).q=s.q):=by
 unfold Pl.back;constructor
 .intro e;rw[aj e];exact xz (s.pop t) t v 2 v.2
 intro e;rw[aa e];exact⟨rfl,rfl,rfl,rfl⟩
theorem dN.mono{p:dz}{s s':Pl}(i:s'.M=s.M)(G:∀v,qw p s v->qw p s' v){v:B.V}(h:dN p s v):dN p s' v:=by
 have e:∀u,u∈eh p s->B.oH (eh p s') s'.M u:=λu o=>B.oH.mem (gi.2 (G u (gi.1 o)));unfold dN;rcases h with h|h|⟨k,y,h⟩
 .exact ag h
 .exact e v h
 refine ab (ab ⟨k,?_,by rw[i];exact h⟩);rw[i]at e ⊢;exact B.sI e y
theorem fS.more{p:dz}{s:Pl}(h:Ok p s)(hn:s.nt+1<=500000000):fS p s.more (λu=>u≠s.nt+1):=by
 have W:∀u,u≠s.nt+1->s.more.T u=s.T u:=λu e=>mi s e;have H:s.more.T (s.nt+1)=qR:=lM s
 have G:∀u,fe s u->u≠s.nt+1:=λu o e=>by have:=o.2;omega
 have Z:∀u j,u≠s.nt+1->de s.more u j=de s u j:=λu j e=>gJ (by rw[W u e]);refine⟨h.lw.more hn,λu o x y hx a0=>?_,?_,λu o=>?_,λx y Y a J=>?_,λu o Y=>?_,λu o hr=>?_,?_,λv hv=>?_,h.kn,h.kz,λu o hX=>?_,h.roots rfl rfl ?_,h.fc,h.bt,h.c0,h.c1⟩
 .rcases jx.1 o with i|i
  .rw[W u (G u i)]at hx ⊢;rw[Z u _ (G u i)];exact h.ww u i x y hx a0
  rw[i,H]at hx;cases hx
 .exact oQ h.nd (λhm=>by have:=(h.lt _ hm).2;omega)
 .rcases di.1 (show u∈s.lv++[s.nt+1] from o) with i|i
  .exact jx.2 (ag (h.lt u i))
  exact jx.2 (ab (by simpa using i))
 .show a∈s.lv++[s.nt+1];rcases oc.1 Y with i|⟨rfl,rfl⟩
  .have hq:s.more.q x y=s.q x y:=qA s (λe=>by
    have:=mO i e.1;exact G _ this e.2)
   rw[hq]at J;exact ee _ (h.ql x y i a J)
  have hq:s.more.q 5 (s.nt+1)=[]:=s9 s;rw[hq]at J;cases J
 .rcases jx.1 o with i|i
  .rw[W u (G u i)]at Y ⊢;exact h.lf u i Y
  rw[i,H]at Y;exact ch rfl Y
 .rcases jx.1 o with i|i
  .rw[W u (G u i)]at hr ⊢;have:=h.rn u i hr;exact⟨this.1,ee _ this.2⟩
  rw[i,H]at hr;cases hr
 .show(s.out++[(0,0)]).length=s.nt+1;rw[bo,h.ol];rfl
 .rcases di.1 (show v∈s.out++[(0,0)] from hv) with i|i
  .exact h.ok v i
  left
  rw[dL.1 i]
 .rcases di.1 (show u∈s.lv++[s.nt+1] from o) with i|i
  .rw[W u hX];exact h.fw u i trivial
  exact ch (by simpa using i) hX
 rintro v (⟨u,j,a,o,hj,J,e⟩|hv)
 .by_cases e1:u=s.nt+1
  .rw[e1,H]at hj;exact ch hj (Nat.not_lt_zero _)
  rw[Z u j e1]at J e;rw[W u e1]at hj;rcases di.1 (show u∈s.lv++[s.nt+1] from o) with i|i
  .exact dN.root (ag ⟨u,j,a,i,hj,J,e⟩)
  exact ch (by simpa using i) e1
 exact dN.root (ab hv)
theorem xr{p:dz}{s:Pl}(h:Ok p s){v:B.V}(H:dN p s v):dN p s.more v:=by
 refine dN.mono (s:=s) (s':=s.more) rfl (λu i=>?_) H;rcases i with⟨c,j,a,G,J,W,e⟩|i
 .have y:s.more.T c=s.T c:=mi s (λe=>by have:=(h.lt c G).2;omega);refine ag ⟨c,j,a,ee _ G,by rw[y];exact J,?_,?_⟩
  .rw[gJ (s:=s) (by rw[y])];exact W
  rw[gJ (s:=s) (by rw[y])];exact e
 exact ab i
theorem pn{p:dz}{s:Pl}{u v:B.V}(e:dN p s u)(i:dN p s v)(a:Nat):dN p s (gh u v a):=by
 unfold gh;split
 .exact e
 split
 .exact i
 exact dN.num 0
theorem fS.born{p:dz}{s:Pl}(h:Ok p s)(hn:s.nt+1<=500000000){f:Nat}{u v:B.V}(y:f<p.nf)(o:dN p s u)(G:dN p s v):Ok p (s.born f u v):=by
 have i:s.more.T (s.nt+1)=qR:=lM s;exact ((h.more hn).push (by rw[i];rfl) (by rw[i];decide) (ag (by rw[i];rfl)) y (dc _) (λe=>ch (by rw[i];rfl) e) (λa _=>pn (xr h o) (xr h G) a) (λ_ e _=>e)).dV (show s.nt+1∈s.lv++[s.nt+1] by simp)
theorem Ap(s:Pl)(f:Nat)(u v:B.V):(s.born f u v).lv=s.lv++[s.nt+1]/\(s.born f u v).ev=s.ev/\(s.born f u v).kp=s.kp/\(s.born f u v).M=s.M:=by
 obtain⟨k1,_,e,_,_,_,o,_,i,_⟩:=iW (s.more.push (s.nt+1) ⟨f,0,gh u v,(0,0,0,0)⟩) 2 0 (s.nt+1);exact⟨k1,i,e,o⟩
def Pl.sK(s:Pl)(a i:Nat)(v:B.V):Pl:={ s with kd:=B.told s.kd ((s.M a).getD i (0,0)),M:=B.lay s.M a ((s.M a).set i v) }
theorem fS.sK{p:dz}{s:Pl}{X:Nat->Prop}(h:fS p s X){a i:Nat}{v:B.V}(o:B.lS (eh p s) s.M a)(e:dN p s v):fS p (s.sK a i v) X:=
 { lw:=h.lw.same rfl rfl (λ_=>rfl),ww:=h.ww,nd:=h.nd,lt:=h.lt,ql:=h.ql,lf:=h.lf,rn:=h.rn,ol:=h.ol,ok:=h.ok,kn:=h.kn,kz:=h.kz,fw:=h.fw,hl:=B.Bg h.hl i o e,fc:=h.fc,bt:=h.bt,c0:=h.c0,c1:=h.c1 }
def Pl.na(s:Pl)(kd1:B.Kd)(c ty:Nat)(l:List B.V):Pl:={ s with kd:=B.laid kd1 c,M:=B.lay s.M c l,ck:=λk=>if k=c then ty else s.ck k }
theorem fS.na{p:dz}{s:Pl}(h:Ok p s){t a c ty:Nat}{i:B.Kd}{l:List B.V}(a4:t∈s.lv)(hk:B.jX i p.n (eh p s) s.M)(hs:∀k,1<=k->k<=p.n->i.on k=true->s.kd.on k=true)(h1:1<=c)(h2:c<=p.n)(h3:i.on c=false)(a5:ty<=p.nf)(hl:∀v,v∈l->dN p s v): Ok p ((s.na i c ty l).dx t (cr s t) ((de s t (cr s t)).set a (c,0))):=by
 have hi:cr s t<(s.T t).fr.length:=by
  have:(s.T t).fr.length≠0:=λe=>(h.fw t a4 trivial).n1 (cf.1 e);unfold cr;omega
 have hw:=λu=>gj s t (cr s t) u ((de s t (cr s t)).set a (c,0));have W:∀u j,(de (s.dx t (cr s t) ((de s t (cr s t)).set a (c,0))) u j).f=(de s u j).f:=λu j=>by
  by_cases e:u=t/\j=cr s t
  .obtain⟨rfl,rfl⟩:=e;rw[ko s _ hi];rfl
  rw[jR s _ e]
 have a2:∀u,(s.T u).fr≠[]->((s.dx t (cr s t) ((de s t (cr s t)).set a (c,0))).T u).fr≠[]:=λu h0 e=>h0 (by
  have:=(hw u).2.2.2.2;rw[e]at this;exact cf.1 this.symm)
 refine { lw:=(h.lw.dx t (cr s t) ((de s t (cr s t)).set a (c,0))).same rfl rfl (λ_=>rfl),ww:=?_,nd:=h.nd,lt:=h.lt,ql:=h.ql,lf:=?_,rn:=?_,ol:=h.ol,ok:=h.ok,kn:=h.kn,kz:=h.kz,fw:=?_,hl:=?_,fc:=?_,bt:=h.bt,c0:=h.c0,c1:=h.c1 }
 .intro u o x y hx a1;obtain⟨k,k1,k2,k3⟩:=h.ww u o x y ((hw u).1.symm.trans hx) a1;refine⟨k,(hw u).2.1.trans k1,a2 u k2,?_⟩;show k.2.1<p.rg (de (s.dx t (cr s t) ((de s t (cr s t)).set a (c,0))) u (((s.dx t (cr s t) ((de s t (cr s t)).set a (c,0))).T u).fr.length-1)).f;rw[(hw u).2.2.2.2,W];exact k3
 .intro u o a6;obtain⟨x,y,e,Z⟩:=h.lf u o (λe=>a6 ((hw u).2.1.trans e));exact⟨x,y,(hw u).1.trans e,Z⟩
 .intro u o hr;have:=h.rn u o ((hw u).2.2.1.symm.trans hr);exact⟨(hw u).1.trans this.1,this.2⟩
 .intro u o _;have:=h.fw u o trivial;show FW p ((s.dx t (cr s t) ((de s t (cr s t)).set a (c,0))).T u).fr;by_cases e:u=t
  .subst e;unfold Pl.dx;rw[df];exact this.set hi rfl rfl (this.f _ hi).2
  rw[nC s _ e];exact this
 .refine B.Bh (L:=eh p s) hk h1 h2 h3 hl (λv hv=>?_);rcases gi.1 hv with⟨u,j,b,o,hj,hb,e⟩|hv
  .have H:=(hw u).2.2.2.2▸hj;have J:=(W u j)▸hb;have e':(de (s.dx t (cr s t) ((de s t (cr s t)).set a (c,0))) u j).R b=v:=e;by_cases Z:u=t/\j=cr s t
   .obtain⟨rfl,rfl⟩:=Z;rw[ko s _ hi]at e';have Y:B.set (de s u (cr s u)).R a (c,0) b=v:=e';by_cases e4:b=a
    .subst e4;rw[B.ie]at Y;exact ag Y.symm
    rw[B.gS _ _ _ _ e4]at Y;exact ab (dN.root (ag ⟨u,_,b,o,H,J,Y⟩))
   rw[jR s _ Z]at e';exact ab (dN.root (ag ⟨u,j,b,o,H,J,e'⟩))
  exact ab (dN.root (ab hv))
 intro k k1 k2 a0;show(if k=c then ty else s.ck k)<=p.nf;by_cases e:k=c
 .rw[aj e];exact a5
 rw[aa e];have G:B.mark i.on c k=true:=a0;rw[B.fg _ _ _ e]at G;exact h.fc k k1 k2 (hs k k1 k2 G)
def Pl.tQ(s:Pl)(kd:B.Kd):Pl:={ s with kd:=kd }
theorem fS.tQ{p:dz}{s:Pl}{X:Nat->Prop}(h:fS p s X){kd:B.Kd}(e:B.jX kd p.n (eh p s) s.M)(o:∀k,1<=k->k<=p.n->kd.on k=true->s.kd.on k=true):fS p (s.tQ kd) X:=
 { lw:=h.lw.same rfl rfl (λ_=>rfl),ww:=h.ww,nd:=h.nd,lt:=h.lt,ql:=h.ql,lf:=h.lf,rn:=h.rn,ol:=h.ol,ok:=h.ok,kn:=h.kn,kz:=h.kz,fw:=h.fw,hl:=e,fc:=λk k1 k2 i=>h.fc k k1 k2 (o k k1 k2 i),bt:=h.bt,c0:=h.c0,c1:=h.c1 }
theorem fS.stop{p:dz}{s:Pl}{X:Nat->Prop}(h:fS p s X){t:Nat}(G:t∈s.lv):fS p (s.dv t (s.T t).stop) X:=by
 have ht:=h.lt t G;have i:(s.dv t (s.T t).stop).T t=(s.T t).stop:=df _ _ _;have o:∀u,((s.dv t (s.T t).stop).T u).wh=(s.T u).wh:=λu=>by
  by_cases e:u=t
  .subst e;rw[i];rfl
  rw[dP _ _ e]
 refine h.line G rfl (h.lw.same rfl rfl o) (λu e=>dP _ _ e) (by rw[i];rfl) (λ_ _ _ _ h=>ag h) ⟨rfl,rfl,rfl,rfl,rfl,rfl,rfl,rfl⟩ (λx y W H=>?_) (λY=>?_) (λJ=>?_)
 .rw[o]at W;obtain⟨k,k1,k2,Z⟩:=h.ww t ht x y W H;exact⟨k,by rw[i];exact k1,k2,Z⟩
 .rw[i]at Y;obtain⟨x,y,e,e2⟩:=h.lf t ht Y;exact⟨x,y,by rw[o];exact e,e2⟩
 rw[i]at J;cases J
def Pl.kj(s:Pl)(t:Nat):Pl:={ s.dv t (s.T t).stop with sp:=true,ev:=s.ev++[(5,t,0)] }
theorem fS.kj{p:dz}{s:Pl}{X:Nat->Prop}(h:fS p s X){t:Nat}(e:t∈s.lv):fS p (s.kj t) X:=(h.stop e).same rfl rfl rfl rfl rfl rfl rfl rfl rfl rfl rfl
theorem fS.told{p:dz}{s:Pl}{X:Nat->Prop}(h:fS p s X)(kind t:Nat)(x:Int):fS p (s.told kind t x) X:=h.same rfl rfl rfl rfl rfl rfl rfl rfl rfl rfl rfl
theorem fS.yw{p : dz} {s : Pl} {X : Nat → Prop} (h : fS p s X) (k : Nat) (l : List Nat) (hl : l.length ≤ 1000 ∧ ∀ x, x ∈ l → x < 256) : fS p (s.yw k l) X :=
  { lw := h.lw.same rfl rfl (fun _ => rfl), ww := h.ww, nd := h.nd, lt := h.lt, ql := h.ql, lf := h.lf, rn := h.rn, ol := h.ol, ok := h.ok, kn := h.kn, kz := h.kz, fw := h.fw, hl := h.hl, fc := h.fc, bt := fun i => by
      show ((if i = k then l else s.jo i)).length ≤ 1000 ∧ ∀ x, x ∈ (if i = k then l else s.jo i) → x < 256
      by_cases e : i = k
      · rw [aj e]; exact hl
      · rw [aa e]; exact h.bt i, c0 := h.c0, c1 := h.c1 }
def jA(l:List se):List Nat:=(l.filter (λe=>e.1 == 2 || e.1 == 3 || e.1 == 4)).map (·.2.1)
def Ge(t:Nat)(gone:List Nat):List se->Prop
 | []=>True
 | e :: l=>e.2.1∉gone/\(e.1≠4->e.2.1=t)/\Ge t (gone++jA [e]) l
theorem uB(l m:List se):jA (l++m)=jA l++jA m:=by unfold jA;simp
theorem Am{t:Nat}:∀(l m:List se) (gone:List Nat),Ge t gone l->Ge t (gone++jA l) m->Ge t gone (l++m)
 | [],m,gone,_,h=>by
  have:gone++jA []=gone:=by unfold jA;simp
  rw[this]at h;exact h
 | e :: l,m,gone,h1,h2=>by
  refine⟨h1.1,h1.2.1,Am l m _ h1.2.2 ?_⟩;rw[dY,<-uB];exact h2
def LS(l:List se):Prop:=∀e,e∈l->e.1≠4
def Gn(s:Pl)(gone:List Nat):Prop:=∀u,u∈gone->fe s u/\u∉s.lv
def Go(t c:Nat)(s s':Pl):Prop:=∃l,s'.ev=s.ev++l/\l.length<=c/\(s.nt<=s'.nt/\s'.nt<=s.nt+c)/\(∀gone,Gn s gone->Ge t gone l/\Gn s' (gone++jA l))/\(LS l->∃m,s'.q 2 0=s.q 2 0++m)
theorem Go.trans{t c d:Nat}{s s' i:Pl}(h:Go t c s s')(J:Go t d s' i):Go t (c+d) s i:=by
 obtain⟨l,a1,a2,a3,Y,Z⟩:=h;obtain⟨m,H,b2,b3,b4,o⟩:=J;refine⟨l++m,by rw[H,a1,dY],by rw[bo];omega,by omega,λgone hg=>?_,λhn=>?_⟩
 .obtain⟨k1,k2⟩:=Y gone hg;obtain⟨u,k4⟩:=b4 _ k2;exact⟨Am l m gone k1 u,by rw[uB,<-dY];exact k4⟩
 obtain⟨x,W⟩:=Z (λe he=>hn e (ee _ he));obtain⟨y,G⟩:=o (λe he=>hn e (List.mem_append_right _ he));exact⟨x++y,by rw[G,W,dY]⟩
theorem Go.mono{t c d:Nat}{s s':Pl}(h:Go t c s s')(o:c<=d):Go t d s s':=by
 obtain⟨l,e,y,u,i⟩:=h;exact⟨l,e,by omega,by omega,i⟩
theorem Go.quiet{t:Nat}{s s':Pl}(he:s'.ev=s.ev)(G:s'.lv=s.lv)(hn:s'.nt=s.nt)(y:∃m,s'.q 2 0=s.q 2 0++m):Go t 0 s s':=by
 refine⟨[],by rw[he,eB],bj _,by omega,λgone o=>⟨trivial,λu i=>?_⟩,λ_=>y⟩;have e:u∈gone:=by
  unfold jA at i;simpa using i
 exact⟨(eg hn).2 (o u e).1,by rw[G];exact(o u e).2⟩
theorem Go.same{t:Nat}{s s':Pl}(he:s'.ev=s.ev)(i:s'.lv=s.lv)(hn:s'.nt=s.nt)(e:s'.q 2 0=s.q 2 0):Go t 0 s s':=Go.quiet he i hn ⟨[],by rw[e,eB]⟩
theorem Go.FP{t:Nat}{s s':Pl}{k:Nat}{x:Int}(G:k=1\/k=5)(i:t∈s.lv)(he:s'.ev=s.ev++[(k,t,x)])(W:s'.lv=s.lv)(hn:s'.nt=s.nt)(H:s'.q 2 0=s.q 2 0):Go t 1 s s':=by
 have o:jA [(k,t,x)]=[]:=by rcases G with rfl|rfl<;>rfl
 refine⟨[(k,t,x)],he,bj _,by omega,λgone y=>⟨⟨λJ=>(y t J).2 i,λ_=>rfl,trivial⟩,λu e=>?_⟩,λ_=>⟨[],by rw[H,eB]⟩⟩;rw[o,eB]at e;exact⟨(eg hn).2 (y u e).1,by rw[W];exact(y u e).2⟩
theorem Go.ends{t u:Nat}{s s':Pl}{k:Nat}{x:Int}(W:(k=2/\u=t)\/(k=3/\u=t)\/k=4)(y:u∈s.lv)(hu:fe s u)(H:s.lv.Nodup)(he:s'.ev=s.ev++[(k,u,x)])(Z:s'.lv=s.lv.erase u)(hn:s'.nt=s.nt)(hq:k≠4->∃m,s'.q 2 0=s.q 2 0++m):Go t 1 s s':=by
 have G:jA [(k,u,x)]=[u]:=by rcases W with⟨rfl,_⟩|⟨rfl,_⟩|rfl<;>rfl
 refine⟨[(k,u,x)],he,bj _,by omega,λgone J=>⟨⟨λi=>(J u i).2 y,λh4=>?_,trivial⟩,λa Y=>?_⟩,λhc=>hq (hc (k,u,x) (by simp))⟩
 .rcases W with h|h|h
  .exact h.2
  .exact h.2
  exact ch h h4
 rw[G]at Y;rcases di.1 Y with o|o
 .refine⟨(eg hn).2 (J a o).1,λi=>(J a o).2 ?_⟩;rw[Z]at i;exact List.mem_of_mem_erase i
 have e:a=u:=by simpa using o
 refine⟨(eg hn).2 (e▸hu),λi=>?_⟩;rw[Z,H.mem_erase_iff]at i;exact i.1 e
theorem nN{s:Pl}{t:Nat}(hw:(s.T t).wh≠some (2,0)):(s.dV 2 0 t).q 2 0=s.q 2 0++[t]:=by
 show((s.dw t).eZ 2 0 ((s.dw t).q 2 0++[t])).q 2 0=_;rw[fX,vn s hw]
theorem zj{p:dz}{s:Pl}{X:Nat->Prop}(h:fS p s X){t:Nat}(ht:fe s t)(v:B.V):∃m,(s.fJ t v).q 2 0=s.q 2 0++m:=by
 unfold Pl.fJ;split
 .exact⟨[],by rw[eB]⟩
 rename_i k i;obtain⟨x,y,hw,o⟩:=h.lf t ht (by rw[i];simp);refine⟨[t],nN ?_⟩;rw[(gj s t _ t _).1,hw];intro e;injection e with e;injection e with e _;omega
theorem oJ{p:dz}{X:Nat->Prop}{v:B.V}:∀(l:List Nat) {s:Pl},fS p s X->(∀u,u∈l->fe s u)->(∀u,u∈s.lv->X u)->(v.1=0\/v∈s.kp)->∃m,(s.dR v l).q 2 0=s.q 2 0++m
 | [],s,_,_,_,_=>⟨[],by rw[eB];rfl⟩
 | t :: l,s,h,hl,hX,hv=>by
  obtain⟨H,_,y,_⟩:=oX s t v;obtain⟨m,G⟩:=zj h (hl t (by simp)) v;obtain⟨m',o⟩:=oJ l (h.fJ (hl t (by simp)) (hX t) (hv.elim (λe=>ag e) (λe=>dN.root (ab e)))) (λu i=>(eg (mH s t v)).2 (hl u (by simp[i]))) (λu i=>hX u (by rw[<-H];exact i)) (by rw[y];exact hv);exact⟨m++m',by show((s.fJ t v).dR v l).q 2 0=_;rw[o,G,dY]⟩
theorem C8{p:dz}{s:Pl}{X:Nat->Prop}(h:fS p s X){t:Nat}(i:t∈s.lv)(hX:∀u,u≠t->X u)(hw:(s.T t).wh=none){v:B.V}(y:dN p s v)(kind:Nat)(x:Int):∃m,(s.leave t v kind x).q 2 0=s.q 2 0++m:=by
 obtain⟨m,G⟩:=oJ (v:=v) (s.q 5 t) (h.gone i y kind x (λu o _=>hX u o)) (λu o=>(eg (iO s t v kind x)).2 (h.lw.b 5 t (ab (ab (ab ⟨rfl,h.lt t i⟩))) u o).1) (λ_ _=>trivial) (by
  rw[(gV s t v kind x).2.2.1];by_cases e:v.1=0
  .exact ag e
  exact ab (jK e))
 refine⟨m,?_⟩;show((s.gone t v kind x).dR v (s.q 5 t)).q 2 0=_;rw[G,(gV s t v kind x).2.2.2.2.2.2.2.2.2,gd hw]
theorem Ar{p:dz}{s:Pl}(h:Ok p s){t:Nat}(o:t∈s.lv)(hw:(s.T t).wh=none){v:B.V}(W:dN p s v):∃m,(s.back t v).q 2 0=s.q 2 0++m:=by
 by_cases e:cr s t=0
 .unfold Pl.back;rw[aj e];unfold Pl.leave;rw[px hw];have y:t∉(s.gone t v 2 v.2).lv:=by rw[(gV s t v 2 v.2).1,h.nd.mem_erase_iff];exact λh=>h.1 rfl
  have J:fS p ((s.gone t v 2 v.2).pop t) (λu=>u≠t):=(h.gone o W 2 v.2 (λ_ _ h=>h)).pop (by rw[oi,jd]) (λu i=>⟨trivial,ag i⟩);obtain⟨m,Y⟩:=oJ (v:=v) ((s.pop t).q 5 t) (J.Gt (λu i _ e=>y (e▸i))) (λu i=>(eg (iO s t v 2 v.2)).2 (h.lw.b 5 t (ab (ab (ab ⟨rfl,h.lt t o⟩))) u i).1) (λ_ _=>trivial) (by
   show v.1=0\/v∈(s.gone t v 2 v.2).kp;rw[(gV s t v 2 v.2).2.2.1];by_cases e:v.1=0
   .exact ag e
   exact ab (jK e))
  refine⟨m,Y.trans ?_⟩;show(s.gone t v 2 v.2).q 2 0++m=_;rw[(gV s t v 2 v.2).2.2.2.2.2.2.2.2.2,gd hw]
 exact⟨[],by rw[((lG s t v).2 e).2.2.2,eB]⟩
theorem Go.back{p:dz}{s:Pl}(h:Ok p s){t:Nat}(i:t∈s.lv)(hw:(s.T t).wh=none){v:B.V}(u:dN p s v):Go t 1 s (s.back t v):=by
 by_cases e:cr s t=0
 .obtain⟨k1,k2,o⟩:=(lG s t v).1 e;exact Go.ends (ag ⟨rfl,rfl⟩) i (h.lt t i) h.nd k2 k1 o (λ_=>Ar h i hw u)
 obtain⟨k1,k2,o,_⟩:=(lG s t v).2 e;exact(Go.quiet k2 k1 o (Ar h i hw u)).mono (by omega)
end F
namespace F
abbrev yi:=Nat×Nat×Nat×Nat
def Eb(s:Pl)(x y:B.V):Prop:=x.1≠0/\s.ck x.1=0/\y.1=0/\0<=y.2/\y.2<((s.M x.1).length:Int)
def mI(s:Pl)(x y:B.V):Nat:=if x.1=0\/s.ck x.1≠0 then 2 else if y.1≠0 then 1 else 3
def kL(p:dz)(s:Pl)(t a ty:Nat)(l:List B.V)(s':Pl):Prop:=
 (∃(c:Nat) (kd1:B.Kd),1<=c/\c<=p.n/\kd1.on c=false/\B.jX kd1 p.n (eh p s) s.M/\Gj (eh p s).length p.n (B.mD (eh p s) s.M) s.kd kd1/\s'=(s.na kd1 c ty l).dx t (cr s t) ((bw s t).set a (c,0))) \/
 ((∀c,1<=c->c<=p.n->B.lS (eh p s) s.M c)/\∃kd1,B.jX kd1 p.n (eh p s) s.M/\s'=(s.tQ kd1).kj t)
def wE(s:Pl)(t o a b c:Nat)(why:Int)(s':Pl):Prop:=
 (Ek s t b c/\why=0/\s'=oO s t a (arith o ((bw s t).R b).2 ((bw s t).R c).2))\/(¬Ek s t b c/\why=1/\s'=s)
def jD(p:dz)(s:Pl)(t:Nat)(k:yi)(why:Int)(s':Pl):Prop:=
 match k.1 with
 |0=>why=0/\s'=oO s t k.2.1 (B.wide k.2.2.1 k.2.2.2)
 |1=>why=0/\s'=s.dx t (cr s t) ((bw s t).set k.2.1 ((bw s t).R k.2.2.1))
 |2=>wE s t 2 k.2.1 k.2.2.1 k.2.2.2 why s'
 |3=>wE s t 3 k.2.1 k.2.2.1 k.2.2.2 why s'
 |4=>wE s t 4 k.2.1 k.2.2.1 k.2.2.2 why s'
 |5=>wE s t 5 k.2.1 k.2.2.1 k.2.2.2 why s'
 |6=>why=0/\s'=oO s t k.2.1 (if(bw s t).R k.2.2.1=(bw s t).R k.2.2.2 then 1 else 0)
 |7=>why=0/\s'=s.dx t (cr s t) { bw s t with nx:=256*k.2.2.1+k.2.2.2 }
 |8=>why=0/\s'=s.dx t (cr s t) { bw s t with nx:=if(bw s t).R k.2.1=(0,0) then 256*k.2.2.1+k.2.2.2 else(bw s t).nx }
 |9=>why=0/\kL p s t k.2.1 0 (List.replicate k.2.2.1 (0,0)) s'
 |10=>(Eb s ((bw s t).R k.2.2.1) ((bw s t).R k.2.2.2)/\why=0/\s'=s.dx t (cr s t) ((bw s t).set k.2.1 ((s.M ((bw s t).R k.2.2.1).1).getD ((bw s t).R k.2.2.2).2.toNat (0,0))))\/(¬Eb s ((bw s t).R k.2.2.1) ((bw s t).R k.2.2.2)/\why=(mI s ((bw s t).R k.2.2.1) ((bw s t).R k.2.2.2):Nat)/\s'=s)
 |11=>(Eb s ((bw s t).R k.2.1) ((bw s t).R k.2.2.1)/\why=0/\s'=s.sK ((bw s t).R k.2.1).1 ((bw s t).R k.2.2.1).2.toNat ((bw s t).R k.2.2.2))\/(¬Eb s ((bw s t).R k.2.1) ((bw s t).R k.2.2.1)/\why=(mI s ((bw s t).R k.2.1) ((bw s t).R k.2.2.1):Nat)/\s'=s)
 |12=>why=0/\kL p s t k.2.1 (k.2.2.1+1) [(bw s t).R k.2.2.2] s'
 |13=>why=pN (iy s ((bw s t).R k.2.2.1)).2.2 (s.T t).fr.length/\s'=kP s t k
 |14=>why=0/\s'=s.back t ((bw s t).R k.2.1)
 |15=>why=Cj (iy s ((bw s t).R k.2.2.1)).2.2 s.lv.length p.mt/\s'=Ci p s t k
 |16=>why=0/\s'=s.dV 2 0 t
 |17=>why=(yv s t k.2.1).1/\s'=(yv s t k.2.1).2
 |18=>why=(yY s t k).1/\s'=(yY s t k).2
 |19=>why=(vR s t k.2.1).1/\s'=(vR s t k.2.1).2
 |20=>why=(iY s t k.2.1).1/\s'=(iY s t k.2.1).2
 |21=>why=(CB s t k).1/\s'=(CB s t k).2
 |22=>why=0/\s'=oO s t k.2.1 s.eY
 |_=>False
def N5(o:Nat):Prop:=o≠15/\o≠17/\o≠18/\o≠19/\o≠21
theorem qj{l:List (Int×Nat)}(h:l=[]):∀x,x∈l->x.2<256:=by rw[h];intro x e;cases e
def IA(p:dz)(f:Nat)(k:yi):Prop:=
 k.1<23/\k.2.1<256/\k.2.2.1<256/\k.2.2.2<256/\(k.1≠7->k.1≠16->k.2.1<p.rg f)/\(k.1=1\/(2<=k.1/\k.1<=6)\/k.1=10\/k.1=11\/k.1=13\/k.1=15\/k.1=18\/k.1=21->k.2.2.1<p.rg f) /\
 ((2<=k.1/\k.1<=6)\/k.1=10\/k.1=11\/k.1=12\/k.1=13\/k.1=15->k.2.2.2<p.rg f)/\(k.1=7\/k.1=8->256*k.2.2.1+k.2.2.2<=p.len f)/\(k.1=9->k.2.2.1<=8)/\(k.1=12->k.2.2.1<p.nf)/\N5 k.1
structure Rn(p:dz) (s:Pl) (t:Nat):Prop where
 ok:Ok p s
 lv:t∈s.lv
 run:(s.T t).run=true
section
variable {p : dz} {s : Pl} {t : Nat} (h : Rn p s t)
include h
theorem Rn.ht:fe s t:=h.ok.lt t h.lv
theorem Rn.wh:(s.T t).wh=none:=(h.ok.rn t h.ht h.run).1
theorem Rn.fw:FW p (s.T t).fr:=h.ok.fw t h.lv trivial
theorem Rn.hi:cr s t<(s.T t).fr.length:=by
 have:(s.T t).fr.length≠0:=λe=>h.fw.n1 (cf.1 e);unfold cr;omega
theorem Rn.lf:(s.T t).lf=none:=by
 cases hl:(s.T t).lf with
 |none=>rfl
 |some k=>
  obtain⟨x,y,e,_⟩:=h.ok.lf t h.ht (by rw[hl];simp);rw[h.wh]at e;cases e
theorem Rn.gm:In s t:=⟨h.ht,h.hi⟩
theorem Rn.oq{a:Nat}(e:a<p.rg (bw s t).f):dN p s ((bw s t).R a):=dN.root (ag ⟨t,cr s t,a,h.lv,h.hi,e,rfl⟩)
theorem Rn.ff:(bw s t).f<p.nf/\(bw s t).nx<=p.len (bw s t).f:=h.fw.f _ h.hi
theorem Rn.oD(a:Nat){v:B.V}(e:dN p s v):Ok p (s.dx t (cr s t) ((bw s t).set a v)):=h.ok.oD h.lv trivial h.hi a e
end
theorem tn{p:dz}{s:Pl}{a:Nat}(e:B.lS (eh p s) s.M a)(i:Nat):dN p s ((s.M a).getD i (0,0)):=by
 by_cases hi:i<(s.M a).length
 .refine ab (ab ⟨a,e,?_⟩);rw[ar,bn hi];exact List.getElem_mem hi
 rw[ar,cw (by omega)];exact dN.num 0
theorem vK{p:dz}{s:Pl}{X:Nat->Prop}(h:fS p s X){x:B.V}(hx:dN p s x)(i:(iy s x).2.2=true):(iy s x).1<p.nf/\dN p s (iy s x).2.1:=by
 by_cases e:x.1=0\/s.ck x.1=0
 .unfold iy at i;rw[aj e]at i;cases i
 have o:=h.Ay hx;have y:x.1≠0:=λu=>e (ag u);have W:s.ck x.1≠0:=λu=>e (ab u);rcases o with o|⟨G,H,J,_⟩
 .exact ch o y
 have Y:=h.fc x.1 G H J;unfold iy;rw[aa e];exact⟨by show s.ck x.1-1<p.nf;omega,tn (B.oH.vi hx y) 0⟩
theorem Gj.dn{p:dz}{s:Pl}{e:B.Kd}(h:Gj (eh p s).length p.n (B.mD (eh p s) s.M) s.kd e)(k:Nat)(k1:1<=k)(k2:k<=p.n)(i:e.on k=true):s.kd.on k=true:=by
 rcases h with h|h
 .rw[<-h];exact i
 exact h.1 k k1 k2
theorem zU{p:dz}{s:Pl}{t a ty:Nat}{l:List B.V}{s':Pl}(h:Rn p s t)(i:ty<=p.nf)(y:∀v,v∈l->dN p s v)(J:kL p s t a ty l s'):Ok p s'/\Go t 1 s s':=by
 rcases J with⟨c,e,o,u,Y,W,H,rfl⟩|⟨o,e,u,rfl⟩
 .exact⟨h.ok.na h.lv W H.dn o u Y i y,(Go.same rfl rfl rfl rfl).mono (by omega)⟩
 have G:Ok p (s.tQ e):=h.ok.tQ u (λk k1 k2 _=>(B.po h.ok.hl (o k k1 k2)).1);exact⟨G.kj h.lv,Go.FP (ab rfl) h.lv rfl rfl rfl rfl⟩
theorem vr{p:dz}{s:Pl}{t a:Nat}(h:Rn p s t)(x:Int):Ok p (oO s t a x)/\Go t 1 s (oO s t a x):=⟨h.oD a (dN.num x),(Go.same rfl rfl rfl rfl).mono (by omega)⟩
theorem FB{p:dz}{s:Pl}{t:Nat}{k:yi}(h:Rn p s t)(o:k.2.1<p.rg (bw s t).f)(y:k.2.2.1<p.rg (bw s t).f)(u:k.2.2.2<p.rg (bw s t).f):Ok p (kP s t k)/\Go t 1 s (kP s t k):=by
 unfold kP;split
 .rename_i e;obtain⟨i,G⟩:=vK h.ok (h.oq y) e.1;exact⟨h.ok.push h.wh (by have:=h.fw.n2;have:=e.2;omega) (ab h.fw) i (dc _) (λ_=>o) (λa _=>pn (h.oq u) G a) (λ_ _ _=>trivial),(Go.same rfl rfl rfl rfl).mono (by omega)⟩
 exact⟨h.ok,(Go.same rfl rfl rfl rfl).mono (by omega)⟩
theorem Aa{p:dz}{s s':Pl}{t:Nat}{k:yi}{why:Int}(h:Rn p s t)(hn:s.nt+1<=500000000)(hk:IA p (bw s t).f k)(hi:jD p s t k why s'):Ok p s'/\Go t 1 s s':=by
 obtain⟨i,a,b,c⟩:=k;obtain⟨k0,k1,k2,k3,y,H,G,Z,k8,k9,n1,n2,n3,n4,n5⟩:=hk;simp only at k0 k1 k2 k3 y H G Z k8 k9 n1 n2 n3 n4 n5;have J:Ok p s/\Go t 1 s s:=⟨h.ok,(Go.same rfl rfl rfl rfl).mono (by omega)⟩;have u:∀o,wE s t o a b c why s'->Ok p s'/\Go t 1 s s':=λo ht=>by
  rcases ht with⟨_,_,rfl⟩|⟨_,_,rfl⟩
  .exact vr h _
  exact J
 have hc:i=0\/i=1\/i=2\/i=3\/i=4\/i=5\/i=6\/i=7\/i=8\/i=9\/i=10\/i=11\/i=12\/i=13\/i=14\/i=16\/i=20\/i=22:=by omega
 rcases hc with rfl|rfl|rfl|rfl|rfl|rfl|rfl|rfl|rfl|rfl|rfl|rfl|rfl|rfl|rfl|rfl|rfl|rfl
 .obtain⟨_,rfl⟩:=hi;exact vr h _
 .obtain⟨_,rfl⟩:=hi;exact⟨h.oD a (h.oq (H (by omega))),(Go.same rfl rfl rfl rfl).mono (by omega)⟩
 .exact u 2 hi
 .exact u 3 hi
 .exact u 4 hi
 .exact u 5 hi
 .obtain⟨_,rfl⟩:=hi;exact vr h _
 .obtain⟨_,rfl⟩:=hi;exact⟨h.ok.dx h.hi rfl rfl (Z (by omega)) (λe he=>h.oq he),(Go.same rfl rfl rfl rfl).mono (by omega)⟩
 .obtain⟨_,rfl⟩:=hi;refine⟨h.ok.dx h.hi rfl rfl ?_ (λe he=>h.oq he),(Go.same rfl rfl rfl rfl).mono (by omega)⟩;show(if _ then _ else _)<=p.len (bw s t).f;split
  .exact Z (by omega)
  exact h.ff.2
 .exact zU h (dc _) (λv W=>by rw[List.eq_of_mem_replicate W];exact dN.num 0) hi.2
 .rcases hi with⟨Y,_,rfl⟩|⟨_,_,rfl⟩
  .exact⟨h.oD a (tn (B.oH.vi (h.oq (H (by omega))) Y.1) _),(Go.same rfl rfl rfl rfl).mono (by omega)⟩
  exact J
 .rcases hi with⟨Y,_,rfl⟩|⟨_,_,rfl⟩
  .exact⟨h.ok.sK (B.oH.vi (h.oq (y (by omega) (by omega))) Y.1) (h.oq (G (by omega))),(Go.same rfl rfl rfl rfl).mono (by omega)⟩
  exact J
 .exact zU h (k9 rfl) (λv W=>by rw[dL.1 W];exact h.oq (G (by omega))) hi.2
 .obtain⟨_,rfl⟩:=hi;exact FB (k:=(13,a,b,c)) h (y (by omega) (by omega)) (H (by omega)) (G (by omega))
 .obtain⟨_,rfl⟩:=hi;exact⟨h.ok.back h.lv h.wh (h.oq (y (by omega) (by omega))),Go.back h.ok h.lv h.wh (h.oq (y (by omega) (by omega)))⟩
 .obtain⟨_,rfl⟩:=hi;obtain⟨j1,_,_,_,_,_,_,_,j9,_⟩:=iW s 2 0 t;exact⟨h.ok.dV h.lv,(Go.quiet j9 j1 (iX s 2 0 t) ⟨[t],nN (by rw[h.wh];intro e;cases e)⟩).mono (by omega)⟩
 .obtain⟨_,rfl⟩:=hi;show Ok p (iY s t a).2/\Go t 1 s (iY s t a).2;unfold iY;split
  .exact⟨h.ok.told 1 t _,Go.FP (ag rfl) h.lv rfl rfl rfl rfl⟩
  exact J
 obtain⟨_,rfl⟩:=hi;exact vr h _
end F
namespace F
def Pl.ends(p:dz)(t:Nat):Nat->Pl->Pl
 | 0,s=>s
 | n+1,s=>if(s.T t).run=true/\(bw s t).nx=p.len (bw s t).f then Pl.ends p t n (s.back t (0,0)) else s
def Pl.fD(s:Pl)(t:Nat):Pl:=s.dx t (cr s t) { bw s t with nx:=(bw s t).nx+1 }
def F5(p:dz)(t:Nat)(s s':Pl):Prop:=∃why s3,jD p (s.fD t) t (p.ins (bw s t).f (bw s t).nx) why s3/\s'=if why=0 then s3 else s3.leave t (0,-why) 3 why
def iC(p:dz)(t:Nat)(s s':Pl):Prop:=if((s.ends p t 21).T t).run=true then F5 p t (s.ends p t 21) s' else s'=s.ends p t 21
def PI(p:dz):Prop:=∀f,f<p.nf->∀i,i<p.len f->IA p f (p.ins f i)
theorem ug(v:B.V){t:Nat}:∀(l:List Nat) (s:Pl),t∉l->(s.dR v l).T t=s.T t
 | [],_,_=>rfl
 | u :: l,s,h=>by
  show((s.fJ u v).dR v l).T t=_;rw[ug v l _ (λi=>h (by simp[i])),yj s v (λe=>h (by simp[e]))]
theorem vw{s:Pl}(e:LW s){t:Nat}(ht:fe s t)(v:B.V)(kind:Nat)(x:Int):(s.leave t v kind x).T t=((s.dw t).T t).stop:=by
 unfold Pl.leave;rw[ug v _ _ (λi=>(e.a t ht 5 t (e.b 5 t (ab (ab (ab ⟨rfl,ht⟩))) t i).2).2.2 ⟨rfl,rfl⟩)];exact df _ _ _
theorem mA{s:Pl}(i:LW s){t:Nat}(ht:fe s t)(v:B.V):(cr s t=0->((s.back t v).T t).run=false)/\(cr s t≠0->((s.back t v).T t).run=(s.T t).run/\((s.back t v).T t).fr.length=(s.T t).fr.length-1):=by
 constructor
 .intro e;unfold Pl.back;rw[aj e,vw (i.pop t) ht];rfl
 intro e;unfold Pl.back;rw[aa e];have:=gj (s.pop t) t (cr s t-1) t ((de s t (cr s t-1)).set (de s t (cr s t)).bk.2.1 v);exact⟨this.2.2.1.trans (zF s t t),this.2.2.2.2.trans (rp s t)⟩
theorem rY{p:dz}{t:Nat}:∀(n:Nat) {s:Pl},Rn p s t->(s.T t).fr.length<=n->Ok p (s.ends p t n)/\(((s.ends p t n).T t).run=true->Rn p (s.ends p t n) t/\Go t 0 s (s.ends p t n)/\(bw (s.ends p t n) t).nx≠p.len (bw (s.ends p t n) t).f)/\Go t 1 s (s.ends p t n)
 | 0,s,h,hn=>by
  have:=h.hi;omega
 | n+1,s,h,hn=>by
  unfold Pl.ends;by_cases e:(s.T t).run=true/\(bw s t).nx=p.len (bw s t).f
  .rw[aj e];have G:=h.ok.back h.lv h.wh (dN.num 0);have y:=mA h.ok.lw h.ht (0,0);by_cases u:cr s t=0
   .have J:=y.1 u;have W:Pl.ends p t n (s.back t (0,0))=s.back t (0,0):=by
     cases n with
     | zero=>rfl
     | succ n=>unfold Pl.ends;rw[aa (λi=>by rw[J]at i;cases i.1)]
    rw[W];exact⟨G,λi=>ch i (by rw[J];decide),Go.back h.ok h.lv h.wh (dN.num 0)⟩
   obtain⟨r1,r2⟩:=y.2 u;obtain⟨H,Z,Y,b4⟩:=(lG s t (0,0)).2 u;have o:Go t 0 s (s.back t (0,0)):=Go.same Z H Y (by rw[b4]);have hi:=h.hi;obtain⟨i1,i2,i3⟩:=rY n ⟨G,by rw[H];exact h.lv,by rw[r1];exact h.run⟩ (by rw[r2];omega);refine⟨i1,λi=>?_,?_⟩
   .obtain⟨j1,j2,j3⟩:=i2 i;exact⟨j1,(o.trans j2).mono (by omega),j3⟩
   exact(o.trans i3).mono (by omega)
  rw[aa e];exact⟨h.ok,λ_=>⟨h,Go.same rfl rfl rfl rfl,λe'=>e ⟨h.run,e'⟩⟩,(Go.same rfl rfl rfl rfl).mono (by omega)⟩
theorem mM{p:dz}{s:Pl}{t:Nat}(h:Rn p s t)(hn:(bw s t).nx≠p.len (bw s t).f):Rn p (s.fD t) t/\(bw (s.fD t) t).f=(bw s t).f:=by
 have o:=h.ff;have hw:=gj s t (cr s t) t { bw s t with nx:=(bw s t).nx+1 };have e:Ok p (s.fD t):=h.ok.dx h.hi rfl rfl (show(bw s t).nx+1<=p.len (bw s t).f by omega) (λa i=>h.oq i);refine⟨⟨e,h.lv,hw.2.2.1.trans h.run⟩,?_⟩;have ht:cr (s.fD t) t=cr s t:=by unfold cr;rw[show((s.fD t).T t).fr.length=(s.T t).fr.length from hw.2.2.2.2]
 show(de (s.fD t) t (cr (s.fD t) t)).f=_;rw[ht];unfold Pl.fD;rw[ko s _ h.hi]
theorem nP{p:dz}{s s':Pl}{t:Nat}{k:yi}{why:Int}(Z:k.1<23)(hi:jD p s t k why s'):0<=why/\why<=8/\(why≠0->s'=s):=by
 obtain⟨i,a,b,c⟩:=k;simp only at Z;have G:∀o,wE s t o a b c why s'->0<=why/\why<=8/\(why≠0->s'=s):=λo ht=>by
  rcases ht with⟨_,rfl,_⟩|⟨_,rfl,rfl⟩
  .exact⟨by omega,by omega,λh=>ch rfl h⟩
  exact⟨by omega,by omega,λ_=>rfl⟩
 have hz:why=0->0<=why/\why<=8/\(why≠0->s'=s):=λe=>⟨by omega,by omega,λh=>ch e h⟩;have hS:∀x y,1<=mI s x y/\mI s x y<=3:=λx y=>by unfold mI;split;omega;split<;>omega
 have Y:∀r:Int×Pl,why=r.1/\s'=r.2->(0<=r.1/\r.1<=8/\(r.1≠0->r.2=s))->0<=why/\why<=8/\(why≠0->s'=s):=λr h W=>by
  rw[h.1,h.2];exact W
 have hc:i=0\/i=1\/i=2\/i=3\/i=4\/i=5\/i=6\/i=7\/i=8\/i=9\/i=10\/i=11\/i=12\/i=13\/i=14\/i=15\/i=16\/i=17\/i=18\/i=19\/i=20\/i=21\/i=22:=by omega
 rcases hc with rfl|rfl|rfl|rfl|rfl|rfl|rfl|rfl|rfl|rfl|rfl|rfl|rfl|rfl|rfl|rfl|rfl|rfl|rfl|rfl|rfl|rfl|rfl
 .exact hz hi.1
 .exact hz hi.1
 .exact G 2 hi
 .exact G 3 hi
 .exact G 4 hi
 .exact G 5 hi
 .exact hz hi.1
 .exact hz hi.1
 .exact hz hi.1
 .exact hz hi.1
 .rcases hi with⟨_,h,_⟩|⟨_,h,W⟩
  .exact hz h
  have:=hS ((bw s t).R b) ((bw s t).R c);simp only at h;exact⟨by omega,by omega,λ_=>W⟩
 .rcases hi with⟨_,h,_⟩|⟨_,h,W⟩
  .exact hz h
  have:=hS ((bw s t).R a) ((bw s t).R b);simp only at h;exact⟨by omega,by omega,λ_=>W⟩
 .exact hz hi.1
 .obtain⟨u,H⟩:=hi;unfold pN at u;unfold kP at H;simp only at u H;by_cases e:(iy s ((bw s t).R b)).2.2=true
  .rw[aa (by rw[e];decide)]at u;by_cases J:(s.T t).fr.length=20
   .rw[aj J]at u;rw[aa (λh=>h.2 J)]at H;exact⟨by omega,by omega,λ_=>H⟩
   rw[aa J]at u;exact hz u
  rw[aj (by simpa using e)]at u;rw[aa (λh=>e h.1)]at H;exact⟨by omega,by omega,λ_=>H⟩
 .exact hz hi.1
 .obtain⟨u,H⟩:=hi;unfold Cj at u;unfold Ci at H;simp only at u H;by_cases e:(iy s ((bw s t).R b)).2.2=true
  .rw[aa (by rw[e];decide)]at u;by_cases J:s.lv.length=p.mt
   .rw[aj J]at u;rw[aa (λh=>h.2 J)]at H;exact⟨by omega,by omega,λ_=>H⟩
   rw[aa J]at u;exact hz u
  rw[aj (by simpa using e)]at u;rw[aa (λh=>e h.1)]at H;exact⟨by omega,by omega,λ_=>H⟩
 .exact hz hi.1
 .refine Y _ hi ?_;unfold yv;split
  .exact⟨by simp,by simp,λh=>ch rfl h⟩
  exact⟨by simp,by simp,λ_=>rfl⟩
 .refine Y _ hi ?_;unfold yY;split
  .split
   .exact⟨by simp,by simp,λh=>ch rfl h⟩
   exact⟨by simp,by simp,λ_=>rfl⟩
  exact⟨by simp,by simp,λ_=>rfl⟩
 .refine Y _ hi ?_;unfold vR;split
  .split
   .exact⟨by simp,by simp,λh=>ch rfl h⟩
   exact⟨by simp,by simp,λ_=>rfl⟩
  exact⟨by simp,by simp,λ_=>rfl⟩
 .refine Y _ hi ?_;unfold iY;split
  .exact⟨by simp,by simp,λh=>ch rfl h⟩
  exact⟨by simp,by simp,λ_=>rfl⟩
 .refine Y _ hi ?_;unfold CB;split
  .split
   .exact⟨by simp,by simp,λh=>ch rfl h⟩
   exact⟨by simp,by simp,λ_=>rfl⟩
  exact⟨by simp,by simp,λ_=>rfl⟩
 exact hz hi.1
theorem Dh{p:dz}{s s':Pl}{t:Nat}(hP:PI p)(h:Rn p s t)(hx:(bw s t).nx≠p.len (bw s t).f)(hn:s.nt+1<=500000000)(hi:F5 p t s s'):Ok p s'/\Go t 1 s s':=by
 obtain⟨why,s3,H,rfl⟩:=hi;obtain⟨i,u⟩:=mM h hx;have y:=h.ff;have G:=hP _ y.1 (bw s t).nx (by omega);have o:Go t 0 s (s.fD t):=Go.same rfl rfl rfl rfl;obtain⟨o1,Z⟩:=Aa (k:=p.ins (bw s t).f (bw s t).nx) i hn (by rw[u];exact G) H;obtain⟨w1,w2,W⟩:=nP G.1 H;by_cases e:why=0
 .rw[aj e];exact⟨o1,(o.trans Z).mono (by omega)⟩
 rw[aa e];have J:=W e;subst J;obtain⟨l1,Y,l3⟩:=xz (s.fD t) t (0,-why) 3 why;exact⟨i.ok.leave i.lv (λ_ _=>trivial) (dN.num _) 3 why,(o.trans (Go.ends (ab (ag ⟨rfl,rfl⟩)) i.lv i.ht i.ok.nd Y l1 l3 (λ_=>C8 i.ok i.lv (λ_ _=>trivial) i.wh (dN.num _) 3 why))).mono (by omega)⟩
theorem uT{p:dz}{s s':Pl}{t:Nat}(hP:PI p)(h:Rn p s t)(hn:s.nt+1<=500000000)(i:iC p t s s'):Ok p s'/\Go t 1 s s':=by
 obtain⟨i1,y,u⟩:=rY 21 h (by have:=h.fw.n2;omega);unfold iC at i;by_cases e:((s.ends p t 21).T t).run=true
 .rw[aj e]at i;obtain⟨H,o,G⟩:=y e;obtain⟨_,_,_,J,_⟩:=id o;obtain⟨k1,k2⟩:=Dh hP H G (by omega) i;exact⟨k1,(o.trans k2).mono (by omega)⟩
 rw[aa e]at i;subst i;exact⟨i1,u⟩
def gg(p:dz)(t:Nat):Nat->Pl->Pl->Prop
 | 0,s,s'=>s'=s
 | n+1,s,s'=>if(s.T t).run=true then ∃s1,iC p t s s1/\gg p t n s1 s' else s'=s
theorem Go.nt{t c:Nat}{s s':Pl}(h:Go t c s s'):s.nt<=s'.nt/\s'.nt<=s.nt+c:=by
 obtain⟨_,_,_,h,_⟩:=h;exact h
theorem zz{p:dz}{t:Nat}(hP:PI p):∀(n:Nat) {s s':Pl},Ok p s->fe s t->s.nt+n<=500000000->gg p t n s s'->Ok p s'/\Go t n s s'
 | 0,s,s',h,_,_,hr=>by
  have e:s'=s:=hr;subst e;exact⟨h,Go.same rfl rfl rfl rfl⟩
 | n+1,s,s',h,ht,hn,hr=>by
  unfold gg at hr;by_cases e:(s.T t).run=true
  .rw[aj e]at hr;obtain⟨s1,y,o⟩:=hr;obtain⟨k1,k2⟩:=uT hP ⟨h,(h.rn t ht e).2,e⟩ (by omega) y;have i:=k2.nt;obtain⟨G,u⟩:=zz hP n k1 ⟨ht.1,dH ht.2 i.1⟩ (by omega) o;exact⟨G,(k2.trans u).mono (by omega)⟩
  rw[aa e]at hr;subst hr;exact⟨h,(Go.same rfl rfl rfl rfl).mono (by omega)⟩
def gO(p:dz)(s s':Pl):Prop:=match s.q 2 0 with
 | []=>s'=s
 | t :: _=>∃s1,gg p t p.qn (s.start t) s1/\s'=if(s1.T t).run=true then s1.dV 2 0 t else s1
theorem tz{p:dz}(hP:PI p){s s':Pl}(h:Ok p s)(hn:s.nt+p.qn<=500000000)(u:gO p s s'):Ok p s'/\(s.q 2 0=[]->s'=s)/\∀t r,s.q 2 0=t :: r->∃y,Go t p.qn y s'/\y.ev=s.ev/\y.lv=s.lv/\y.nt=s.nt/\y.q 2 0=r:=by
 unfold gO at u
 cases hq:s.q 2 0 with
 | nil=>
  rw[hq]at u;have u:s'=s:=u;subst u;exact⟨h,λ_=>rfl,λ_ _ e=>by cases e⟩
 | cons t r=>
  rw[hq]at u;obtain⟨s1,h1,J⟩:=u;have hl:fz s 2 0:=ag ⟨rfl,rfl⟩;have G:t∈s.q 2 0:=by rw[hq];simp
  have H:=h.ql 2 0 hl t G;have ht:=h.lt t H;have i:(s.start t).nt=s.nt:=fO s t;obtain⟨k1,k2⟩:=zz hP p.qn (h.start H) ((eg i).2 ht) (by rw[i];exact hn) h1;have Y:(s.start t).q 2 0=r:=by
   show(s.dw t).q 2 0=r;rw[fN ((h.lw.b 2 0 hl t G).2)];show(s.eZ 2 0 ((s.q 2 0).erase t)).q 2 0=r;rw[fX,hq];simp
  obtain⟨f1,_,_,f4,_⟩:=gz s t;have o:Ok p s'/\Go t p.qn (s.start t) s':=by
   by_cases e:(s1.T t).run=true
   .rw[aj e]at J;subst J;have hr:=k1.rn t (⟨ht.1,dH ht.2 (by rw[<-i];exact k2.nt.1)⟩) e;obtain⟨j1,_,_,_,_,_,_,_,j9,_⟩:=iW s1 2 0 t;exact⟨k1.dV hr.2,(k2.trans (Go.quiet j9 j1 (iX s1 2 0 t) ⟨[t],nN (by rw[hr.1];intro e;cases e)⟩)).mono (by omega)⟩
   rw[aa e]at J;subst J;exact⟨k1,k2⟩
  refine⟨o.1,λe=>by(cases e),λt' r' e=>?_⟩;injection e with e1 e2;subst e1 e2;exact⟨s.start t,o.2,f4,f1,i,Y⟩
def Pl.gr(s:Pl):List Nat->Pl
 | []=>s
 | t :: l=>if(s.T t).iL<=s.eY then(s.dV 2 0 t).gr l else s
structure Qu(s s':Pl):Prop where
 ev:s'.ev=s.ev
 lv:s'.lv=s.lv
 nt:s'.nt=s.nt
 sp:s'.sp=s.sp
 q:∃m,s'.q 2 0=s.q 2 0++m
theorem Qu.refl(s:Pl):Qu s s:=⟨rfl,rfl,rfl,rfl,[],by rw[eB]⟩
theorem Qu.trans{s s' e:Pl}(h:Qu s s')(i:Qu s' e):Qu s e:=by
 obtain⟨m,u⟩:=h.q;obtain⟨m',o⟩:=i.q;exact⟨i.ev.trans h.ev,i.lv.trans h.lv,i.nt.trans h.nt,i.sp.trans h.sp,m++m',by rw[o,u,dY]⟩
theorem Qu.dV{s:Pl}{t:Nat}(hw:(s.T t).wh≠some (2,0)):Qu s (s.dV 2 0 t):=by
 obtain⟨o,_,_,_,_,_,_,_,i,e⟩:=iW s 2 0 t;exact⟨i,o,iX s 2 0 t,e,[t],nN hw⟩
theorem nj{p:dz}:∀(l:List Nat) {s:Pl},Ok p s->s.q 3 0=l->Ok p (s.gr l)/\Qu s (s.gr l)
 | [],s,h,_=>⟨h,Qu.refl s⟩
 | t :: l,s,h,hq=>by
  have H:fz s 3 0:=ab (ag ⟨rfl,rfl⟩);have o:t∈s.q 3 0:=by rw[hq];simp
  have i:=(h.lw.b 3 0 H t o).2;unfold Pl.gr;split
  .have u:(s.dV 2 0 t).q 3 0=l:=by
    show((s.dw t).eZ 2 0 ((s.dw t).q 2 0++[t])).q 3 0=l;rw[fL _ _ (by omega),fN i];show(s.eZ 3 0 ((s.q 3 0).erase t)).q 3 0=l;rw[fX,hq];simp
   obtain⟨k1,k2⟩:=nj l (h.dV (h.ql 3 0 H t o)) u;exact⟨k1,(Qu.dV (by rw[i];intro e;injection e with e;injection e with e _;omega)).trans k2⟩
  exact⟨h,Qu.refl s⟩
def Pl.wW(s:Pl)(k b:Nat):Pl:=match s.q 4 k with
 | u :: _=>s.fJ u (0,(b:Int))
 | []=>if(s.jo k).length<64 then s.yw k (s.jo k++[b]) else s
def Pl.recv(s:Pl)(x:Int×Nat):Pl:=if 0<=x.1/\x.1<4 then s.wW x.1.toNat x.2 else s
def Pl.eN(s:Pl):List (Int×Nat)->Pl
 | []=>s
 | x :: l=>(s.recv x).eN l
theorem Cv{p:dz}{s:Pl}{k b:Nat}(H:k<4)(Z:b<256)(h:Ok p s):Ok p (s.wW k b)/\Qu s (s.wW k b):=by
 unfold Pl.wW
 cases hq:s.q 4 k with
 | cons u r=>
  have G:=(h.lw.b 4 k (ab (ab (ag ⟨rfl,H⟩))) u (by rw[hq];simp)).1;obtain⟨W,_,_,_,_,_,_,_,b9,o⟩:=oX s u (0,(b:Int));exact⟨h.fJ G (λ_=>trivial) (dN.num _),b9,W,mH s u _,o,zj h G _⟩
 | nil=>
  show Ok p (if(s.jo k).length<64 then s.yw k (s.jo k++[b]) else s)/\Qu s (if(s.jo k).length<64 then s.yw k (s.jo k++[b]) else s);split
  .rename_i J;refine⟨h.yw k _ ⟨by rw[bo];simp;omega,λx Y=>?_⟩,rfl,rfl,rfl,rfl,[],by rw[eB];rfl⟩;rcases di.1 Y with i|i
   .exact (h.bt k).2 x i
   rw[dL.1 i];exact Z
  exact⟨h,Qu.refl s⟩
theorem nF{p:dz}:∀(l:List (Int×Nat)) {s:Pl},(∀x,x∈l->x.2<256)->Ok p s->Ok p (s.eN l)/\Qu s (s.eN l)
 | [],s,_,h=>⟨h,Qu.refl s⟩
 | x :: l,s,hl,h=>by
  have e:Ok p (s.recv x)/\Qu s (s.recv x):=by
   unfold Pl.recv;split
   .exact Cv (by omega) (hl x (by simp)) h
   exact⟨h,Qu.refl s⟩
  obtain⟨k1,k2⟩:=nF l (λy i=>hl y (by simp[i])) e.1;exact⟨k1,e.2.trans k2⟩
def Pl.fF(s:Pl)(c:Int):Pl:={ s with eY:=c }
theorem fS.fF{p:dz}{s:Pl}{X:Nat->Prop}(h:fS p s X){c:Int}(i:0<=c)(e:c<=9223372036854775807):fS p (s.fF c) X:=
 { lw:=h.lw.same rfl rfl (λ_=>rfl),ww:=h.ww,nd:=h.nd,lt:=h.lt,ql:=h.ql,lf:=h.lf,rn:=h.rn,ol:=h.ol,ok:=h.ok,kn:=h.kn,kz:=h.kz,fw:=h.fw,hl:=h.hl,fc:=h.fc,bt:=h.bt,c0:=i,c1:=e }
def Pl.im(p:dz)(s:Pl):Pl:=s.tQ (B.work (B.EF (eh p s)) (eh p s).length s.M p.n p.wk s.kd)
def Pl.lD(s:Pl):Pl:={ s with ev:=[] }
def jh(p:dz)(s:Pl)(ticks:Int)(l:List (Int×Nat))(s':Pl):Prop:=
 if((s.fF (B.iz s.eY ticks)).eN l).lv≠[]/\((s.fF (B.iz s.eY ticks)).eN l).sp=false then
  ∃s1,gO p (((s.fF (B.iz s.eY ticks)).eN l).gr (((s.fF (B.iz s.eY ticks)).eN l).q 3 0)) s1/\s'=s1.im p
 else s'=(s.fF (B.iz s.eY ticks)).eN l
end F
namespace D
open F
structure PD(p:dz) (d:Dp):Prop where
 n:d.n=p.n
 qn:d.qn=p.qn
 wk:d.wk=p.wk
 mt:d.mt=p.mt
 nf:d.nf=p.nf
 len:∀f,f<p.nf->d.len f=p.len f
 rg:∀f,f<p.nf->d.rg f=p.rg f
 ins:∀f i,f<p.nf->i<p.len f->d.ins f i=p.ins f i
def tr(ρ:Nat->Nat)(v:B.V):B.V:=if v.1=0 then v else(ρ v.1,0)
structure FS(p:dz) (ρ:Nat->Nat) (i:Nat) (a b:gY):Prop where
 f:b.f=a.f
 nx:b.nx=a.nx
 bk:i≠0->b.bk.2.1=a.bk.2.1
 R:∀k,k<p.rg a.f->b.R k=tr ρ (a.R k)
structure HS(a:oT) (b:Dt):Prop where
 h0:a.wh=none->b.how=1
 h2:∀y,a.wh=some (2,y)->b.how=1
 h3:∀y,a.wh=some (3,y)->b.how=2/\b.km=a.iL
 h4:∀k,a.wh=some (4,k)->b.how=3/\b.what=k/\∃i,a.lf=some i/\b.into=(i.2.1:Int)
 h5:∀k,a.wh=some (5,k)->b.how=4/\b.what=k/\∃i,a.lf=some i/\b.into=(i.2.1:Int)
structure TS(p:dz) (ρ:Nat->Nat) (a:oT) (b:Dt):Prop where
 l:b.fr.length=a.fr.length
 f:∀i,i<a.fr.length->FS p ρ i (a.fr.getD i mr) (b.fr.getD i mr)
 o:b.out=(0,0)
 h:HS a b
structure CS(N:Nat->List B.V) (ck:Nat->Nat) (nc:Nat) (M':Nat->List B.V) (ck':Nat->Nat) (ρ:Nat->Nat) (c:Nat):Prop where
 c1:1<=ρ c
 c2:ρ c<=nc
 M:M' (ρ c)=(N c).map (tr ρ)
 k:ck' (ρ c)=ck c
 f:ck c≠0->N c≠[]
 l:(N c).length<=8
def FI(m:Dm)(x a b:Nat):Prop:=if x=3 then(m.T a).km<(m.T b).km\/((m.T a).km=(m.T b).km/\(m.T a).ji<(m.T b).ji) else(m.T a).ji<(m.T b).ji
def m9(s:Pl)(t:Nat):B.V:=s.out.getD (t-1) (0,0)
abbrev ou(p:dz)(s:Pl)(c:Nat):Prop:=B.lS (eh p s) s.M c
def GA(G:Dc)(n:Nat):Prop:=G.all=n/\G.sure<=n/\G.lO<=n
structure eK(p:dz) (K:Nat) (s:Pl) (m:Dm) (ρ:Nat->Nat):Prop where
 nt:m.nt=s.nt
 q:m.q=s.q 2 0
 Ee:m.jo=s.jo
 sp:m.sp=s.sp
 ev:m.ev=s.ev
 ck:m.eY=s.eY
 T:∀t,t∈s.lv->TS p ρ (s.T t) (m.T t)
 O:∀t,fe s t->t∉s.lv->(m.T t).how=5/\(m.T t).fr=[]/\(m.T t).out=tr ρ (m9 s t)
 C:∀c,ou p s c->CS s.M s.ck m.nc m.M m.ck ρ c
 I:∀c c',ou p s c->ou p s c'->ρ c=ρ c'->c=c'
 Kp:∀v,v∈s.kp->∃t,fe s t/\t∉s.lv/\m9 s t=v
 L:∀x y,fz s x y->x≠2->(s.q x y).Pairwise (FI m x)
 N:∀t,t∈s.lv->(m.T t).ji<=m.ji
 A:GA m.G m.nc
 lm:s.lv.length<=p.mt
 B:m.nc<=K/\m.ji<=K
theorem sm{ρ:Nat->Nat}(x:Int):tr ρ (0,x)=(0,x):=aj rfl
theorem om{ρ:Nat->Nat}{v:B.V}(h:v.1=0):tr ρ v=v:=aj h
theorem oZ{ρ:Nat->Nat}{v:B.V}(h:v.1≠0):tr ρ v=(ρ v.1,0):=aa h
end D
namespace D
open F
variable {p : dz} {K K' : Nat} {s s' : Pl} {m m' : Dm} {ρ : Nat → Nat} {X : Nat → Prop}
theorem ou.sub(u:s'.M=s.M)(i:∀v,qw p s' v->dN p s v){c:Nat}(e:ou p s' c):ou p s c:=by
 unfold ou at e;rw[u]at e;exact B.sI (λv o=>i v (gi.1 o)) e
theorem eK.cells(h:eK p K s m ρ)(i:s'.M=s.M)(y:s'.ck=s.ck)(u:∀v,qw p s' v->dN p s v)(e:m'.nc=m.nc/\m'.M=m.M/\m'.ck=m.ck):(∀c,ou p s' c->CS s'.M s'.ck m'.nc m'.M m'.ck ρ c)/\∀c o,ou p s' c->ou p s' o->ρ c=ρ o->c=o:=
 ⟨λc k=>by
  obtain⟨c1,Z,J,H,Y,G⟩:=h.C c (ou.sub i u k);exact⟨c1,by rw[e.1];exact Z,by rw[e.2.1,i];exact J,by rw[e.2.2,y];exact H,by rw[i,y];exact Y,by rw[i];exact G⟩,λc o k W=>h.I c o (ou.sub i u k) (ou.sub i u W)⟩
theorem GS{t:Nat}(Z:∀u,u∈s'.lv->u∈s.lv)(W:s'.kp=s.kp)(J:∀u,u≠t->s'.T u=s.T u)(ht:t∈s'.lv->∀i,i<(s'.T t).fr.length->∀a,a<p.rg (de s' t i).f->dN p s ((de s' t i).R a)):∀v,qw p s' v->dN p s v:=by
 rintro v (⟨u,i,a,G,hi,o,e⟩|H)
 .by_cases y:u=t
  .subst y;rw[<-e];exact ht G i hi a o
  have Y:de s' u i=de s u i:=gJ (by rw[J u y]);rw[Y]at o e;rw[J u y]at hi;exact dN.root (ag ⟨u,i,a,Z u G,hi,o,e⟩)
 rw[W]at H;exact dN.root (ab H)
theorem eK.ep{t:Nat}(h:eK p K s m ρ)(a2:t∈s.lv)(e:s'.nt=s.nt/\s'.lv=s.lv/\s'.out=s.out/\s'.kp=s.kp/\s'.M=s.M/\s'.ck=s.ck)(e':m'.nt=m.nt/\m'.nc=m.nc/\m'.M=m.M/\m'.ck=m.ck/\m'.G=m.G)(hs:∀u,u≠t->s'.T u=s.T u)(hm:∀u,u≠t->m'.T u=m.T u)(ht:TS p ρ (s'.T t) (m'.T t))(hg:∀i,i<(s'.T t).fr.length->∀a,a<p.rg (de s' t i).f->dN p s ((de s' t i).R a))(hq:m'.q=s'.q 2 0)(hb:m'.jo=s'.jo)(a1:m'.sp=s'.sp)(a0:m'.ev=s'.ev)(Y:m'.eY=s'.eY)(hL:∀x y,fz s x y->x≠2->(s'.q x y).Pairwise (FI m' x))(hN:(m'.T t).ji<=m'.ji/\m.ji<=m'.ji)(hK:K<=K'/\m'.ji<=K'):eK p K' s' m' ρ:=by
 obtain⟨W,J,e3,e4,e5,e6⟩:=e;obtain⟨f1,Z,f3,f4,f5⟩:=e';have ho:∀u,m9 s' u=m9 s u:=λu=>by unfold m9;rw[e3]
 obtain⟨k1,k2⟩:=h.cells (m':=m') e5 e6 (GS (p:=p) (λu H=>by rw[<-J];exact H) e4 hs (λ_=>hg)) ⟨Z,f3,f4⟩;refine⟨by rw[f1,W];exact h.nt,hq,hb,a1,a0,Y,λu H=>?_,λu H hn=>?_,k1,k2,λv hv=>?_,λx y hl hx=>hL x y ((fQ W).1 hl) hx,λu H=>?_,by rw[f5,Z];exact h.A,by rw[J];exact h.lm,by rw[Z];exact dH h.B.1 hK.1,hK.2⟩
 .by_cases o:u=t
  .subst o;exact ht
  rw[hs u o,hm u o];exact h.T u (by rw[<-J];exact H)
 .rw[J]at hn;have o:u≠t:=λo=>hn (o▸a2);rw[hm u o,ho];exact h.O u ((eg W).1 H) hn
 .rw[e4]at hv;obtain⟨u,u1,u2,u3⟩:=h.Kp v hv;exact⟨u,(eg W).2 u1,by rw[J];exact u2,by rw[ho];exact u3⟩
 by_cases o:u=t
 .subst o;exact hN.1
 rw[hm u o];exact dH (h.N u (by rw[<-J];exact H)) hN.2
theorem vT{x:Nat}{l:List Nat}(u:l.Pairwise (FI m x))(h:∀a,a∈l->(m'.T a).km=(m.T a).km/\(m'.T a).ji=(m.T a).ji):l.Pairwise (FI m' x):=by
 refine List.Pairwise.imp_of_mem ?_ u;intro a b i o e;unfold FI at e ⊢;rw[(h a i).1,(h a i).2,(h b o).1,(h b o).2];exact e
theorem eK.L0(h:eK p K s m ρ)(e:s'.q=s.q)(i:∀a,(m'.T a).km=(m.T a).km/\(m'.T a).ji=(m.T a).ji):∀x y,fz s x y->x≠2->(s'.q x y).Pairwise (FI m' x):=λx y o u=>by
 rw[e];exact vT (h.L x y o u) (λa _=>i a)
theorem CO(s:Pl)(t x y:Nat):((s.dw t).q x y).Sublist (s.q x y):=by
 cases hw:(s.T t).wh with
 | none=>rw[gd hw];exact List.Sublist.refl _
 | some i=>
  rw[fN (x:=i.1) (y:=i.2) hw];show((s.eZ i.1 i.2 ((s.q i.1 i.2).erase t)).q x y).Sublist _;by_cases e:x=i.1/\y=i.2
  .obtain⟨rfl,rfl⟩:=e;rw[fX];exact List.erase_sublist
  rw[fL _ _ e];exact List.Sublist.refl _
theorem CP{t x y a:Nat}(u:LW s)(ht:fe s t)(o:fz s x y)(i:a∈(s.dw t).q x y):a≠t:=λe=>by
 subst e;have:=((u.dw ht).b x y ((fQ (fO s a)).2 o) a i).2;rw[jd]at this
 cases this
theorem eK.Iq{t:Nat}(h:eK p K s m ρ)(G:LW s)(ht:fe s t)(o:∀u,u≠t->m'.T u=m.T u)(x y:Nat)(e:fz s x y)(hx:x≠2):((s.dw t).q x y).Pairwise (FI m' x):=
 vT ((h.L x y e hx).sublist (CO s t x y)) (λa i=>by rw[o a (CP G ht e i)];exact⟨rfl,rfl⟩)
theorem Rn.iE{t:Nat}(e:t∈s.lv)(i:Nat)(hi:i<(s.T t).fr.length)(a:Nat)(o:a<p.rg (de s t i).f):dN p s ((de s t i).R a):=dN.root (ag ⟨t,i,a,e,hi,o,rfl⟩)
theorem HS.same{a u:oT}{b i:Dt}(h:HS a b)(o:u.wh=a.wh)(J:u.lf=a.lf)(W:u.iL=a.iL)(e:i.how=b.how)(G:i.what=b.what)(H:i.into=b.into)(Y:i.km=b.km):HS u i:=
 ⟨λk=>by rw[e];exact h.h0 (o▸k),λy k=>by rw[e];exact h.h2 y (o▸k),λy k=>by rw[e,Y,W];exact h.h3 y (o▸k),λy k=>by rw[e,G,H,J];exact h.h4 y (o▸k),λy k=>by rw[e,G,H,J];exact h.h5 y (o▸k)⟩
theorem eK.dx(h:eK p K s m ρ){t i:Nat}{f H:gY}(G:t∈s.lv)(hi:i<(s.T t).fr.length)(hf:FS p ρ i f H)(hg:f.f=(de s t i).f)(hR:∀a,a<p.rg f.f->dN p s (f.R a)):eK p K (s.dx t i f) (m.dx t i H) ρ:=by
 have Y:=h.T t G;have e1:(s.dx t i f).T t={ s.T t with fr:=(s.T t).fr.set i f }:=df _ _ _;have J:(m.dx t i H).T t=(m.T t).kD ((m.T t).fr.set i H):=fG _ _ _;refine h.ep G ⟨rfl,rfl,rfl,rfl,rfl,rfl⟩ ⟨rfl,rfl,rfl,rfl,rfl⟩ (λu e=>nC s f e) (λu e=>fA _ _ e) ⟨?_,λj W=>?_,?_,?_⟩ (λj W a Z=>?_) h.q h.Ee h.sp h.ev h.ck (h.L0 rfl (λa=>?_)) ⟨?_,bj _⟩ ⟨bj _,h.B.2⟩
 .rw[e1,J];show((m.T t).fr.set i H).length=((s.T t).fr.set i f).length;rw[dq,dq];exact Y.l
 .rw[e1]at W ⊢;rw[J];have y:j<((s.T t).fr.set i f).length:=W;rw[dq]at y;show FS p ρ j (((s.T t).fr.set i f).getD j mr) (((m.T t).fr.set i H).getD j mr);rw[jU hi,jU (by rw[Y.l];exact hi)];by_cases e:j=i
  .rw[aj e,aj e,e];exact hf
  rw[aa e,aa e];exact Y.f j y
 .rw[J];exact Y.o
 .rw[e1,J];exact Y.h.same rfl rfl rfl rfl rfl rfl rfl
 .rw[e1]at W;have y:j<((s.T t).fr.set i f).length:=W;rw[dq]at y;by_cases e:j=i
  .subst e;rw[ko s f hi]at Z ⊢;exact hR a Z
  rw[jR s f (λe'=>e e'.2)]at Z ⊢;exact Rn.iE G j y a Z
 .by_cases e:a=t
  .subst e;rw[J];exact⟨rfl,rfl⟩
  rw[show(m.dx t i H).T a=m.T a from fA _ _ e];exact⟨rfl,rfl⟩
 rw[J];exact h.N t G
theorem eK.oD(h:eK p K s m ρ){t:Nat}(i:t∈s.lv)(hn:(s.T t).fr≠[])(a:Nat){v:B.V}(J:dN p s v):eK p K (s.dx t (cr s t) ((bw s t).set a v)) (m.dx t (pQ m t) ((pR m t).set a (tr ρ v))) ρ:=by
 have G:=h.T t i;have hi:cr s t<(s.T t).fr.length:=by
  have:(s.T t).fr.length≠0:=λe=>hn (cf.1 e);unfold cr;omega
 have e:pQ m t=cr s t:=by unfold pQ cr;rw[G.l]
 have H:pR m t=fj m t (cr s t):=by unfold pR;rw[e]
 have u:=G.f _ hi;rw[e,H];refine h.dx i hi ⟨u.f,u.nx,u.bk,λk y=>?_⟩ rfl (λk y=>?_)
 .show B.set (fj m t (cr s t)).R a (tr ρ v) k=tr ρ (B.set (de s t (cr s t)).R a v k);by_cases o:k=a
  .subst o;rw[B.ie,B.ie]
  rw[B.gS _ _ _ _ o,B.gS _ _ _ _ o];exact u.R k y
 show dN p s (B.set (de s t (cr s t)).R a v k);by_cases o:k=a
 .subst o;rw[B.ie];exact J
 rw[B.gS _ _ _ _ o];exact Rn.iE i _ hi k y
theorem eK.nx(h:eK p K s m ρ){t:Nat}(i:t∈s.lv)(hn:(s.T t).fr≠[])(a:Nat):eK p K (s.dx t (cr s t) { bw s t with nx:=a }) (m.dx t (pQ m t) { pR m t with nx:=a }) ρ:=by
 have u:=h.T t i;have hi:cr s t<(s.T t).fr.length:=by
  have:(s.T t).fr.length≠0:=λe=>hn (cf.1 e);unfold cr;omega
 have e:pQ m t=cr s t:=by unfold pQ cr;rw[u.l]
 have G:pR m t=fj m t (cr s t):=by unfold pR;rw[e]
 have o:=u.f _ hi;rw[e,G];exact h.dx i hi ⟨o.f,rfl,o.bk,o.R⟩ rfl (λk y=>Rn.iE i _ hi k y)
theorem eK.told(h:eK p K s m ρ)(kind t:Nat)(x:Int):eK p K (s.told kind t x) (m.told kind t x) ρ:=
 { h with ev:=by show m.ev++_=s.ev++_;rw[h.ev] }
theorem eK.fF(h:eK p K s m ρ)(c:Int):eK p K (s.fF c) (m.fF c) ρ:={ h with ck:=rfl }
theorem eK.tQ(h:eK p K s m ρ)(kd:B.Kd):eK p K (s.tQ kd) m ρ:={ h with }
theorem eK.mono(h:eK p K s m ρ)(hK:K<=K'):eK p K' s m ρ:={ h with B:=⟨dH h.B.1 hK,dH h.B.2 hK⟩ }
theorem eK.join(h:eK p K s m ρ){t:Nat}(hO:fS p s X)(G:t∈s.lv)(hw:(s.T t).wh≠some (2,0)){x:Dt}(W:x.fr=(m.T t).fr/\x.out=(m.T t).out/\x.ji=(m.T t).ji/\x.how=1):eK p K (s.dV 2 0 t) ((m.dv t x).qv t) ρ:=by
 have hT:=h.T t G;have Y:((m.dv t x).qv t).T t=x:=fG _ _ _;have e1:=nO s 2 0 t;have H:((s.dV 2 0 t).T t).fr=(s.T t).fr:=by rw[e1];exact ku s t t
 obtain⟨j1,j2,j3,j4,j5,j6,j7,j8,j9,Z⟩:=iW s 2 0 t;have hf:∀i,de (s.dV 2 0 t) t i=de s t i:=λi=>gJ H;refine h.ep G ⟨iX s 2 0 t,j1,j2,j3,j7,j8⟩ ⟨rfl,rfl,rfl,rfl,rfl⟩ (λu e=>oh s e) (λu e=>fA _ _ e) ⟨?_,λj J=>?_,?_,?_⟩ (λj J a ha=>?_) ?_ ?_ ?_ ?_ ?_ (λa b hl hx=>?_) ⟨?_,bj _⟩ ⟨bj _,h.B.2⟩
 .rw[H,Y,W.1];exact hT.l
 .rw[H,Y,W.1];rw[H]at J;exact hT.f j J
 .rw[Y,W.2.1];exact hT.o
 .rw[e1,Y];refine⟨λe=>(by cases e),λy _=>W.2.2.2,λy e=>?_,λy e=>?_,λy e=>?_⟩ <;>
  .injection e with e;injection e with e _;exact ch e (by decide)
 .rw[H]at J;rw[hf]at ha ⊢;exact Rn.iE G j J a ha
 .show m.q++[t]=_;rw[nN hw,h.q]
 .show m.jo=_;rw[j4];exact h.Ee
 .show m.sp=_;rw[Z];exact h.sp
 .show m.ev=_;rw[j9];exact h.ev
 .show m.eY=_;rw[j5];exact h.ck
 .have hq:(s.dV 2 0 t).q a b=(s.dw t).q a b:=fL _ _ (λe=>hx e.1);rw[hq];exact h.Iq hO.lw (hO.lt t G) (λu e=>fA _ _ e) a b hl hx
 rw[Y,W.2.2.1];exact h.N t G
