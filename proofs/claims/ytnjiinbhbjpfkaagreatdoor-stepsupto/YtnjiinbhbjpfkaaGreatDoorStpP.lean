import Derived.Test.YtnjiinbhbjpfkaaGreatDoorStpO
set_option maxRecDepth 100000
set_option maxHeartbeats 0
set_option linter.all false
namespace Go.Proofs.YtnjiinbhbjpfkaaGreatDoor
open Go.RowKit Go.Proofs.Tryz
namespace B
def EF(L:List V):Nat->V:=λi=>L.getD i (0,0)
def mD(L:List V)(M:Nat->List V):St:=(0,EF L,M)
def jX(kd:Kd)(n:Nat)(L:List V)(M:Nat->List V):Prop:=iZ kd L.length n (mD L M)
def lS(L:List V)(M:Nat->List V)(p:Nat):Prop:=Reach L.length (mD L M) p
theorem nZ{L:List V}{i:Nat}(h:i<L.length):EF L i∈L:=by
 unfold EF;rw[List.getD_eq_getElem?_getD,List.getElem?_eq_getElem h];exact List.getElem_mem h
theorem zQ{L:List V}{v:V}(h:v∈L):∃i,i<L.length/\EF L i=v:=by
 obtain⟨i,hi,e⟩:=List.getElem_of_mem h;refine⟨i,hi,?_⟩;unfold EF;rw[List.getD_eq_getElem?_getD,List.getElem?_eq_getElem hi,<-e];rfl
theorem nH{L:List V}{M:Nat->List V}{v:V}(h:v∈L)(e:v.1≠0):lS L M v.1:=by
 obtain⟨i,hi,rfl⟩:=zQ h;exact jj (s:=mD L M) i hi e
theorem kA{L:List V}{M:Nat->List V}{k:Nat}(i:lS L M k){v:V}(o:v∈M k)(e:v.1≠0):lS L M v.1:=iF (s:=mD L M) i o e
def oH(L:List V)(M:Nat->List V)(v:V):Prop:=v.1=0\/v∈L\/∃p,lS L M p/\v∈M p
section
variable {kd : Kd} {n : Nat} {L L' : List V} {M : Nat → List V} {v : V}
theorem oH.mem(h:v∈L):oH L M v:=Or.inr (Or.inl h)
theorem oH.vi(h:oH L M v)(e:v.1≠0):lS L M v.1:=by
 rcases h with h|h|⟨p,i,h⟩
 .exact absurd h e
 .exact nH h e
 exact kA i h e
theorem oH.Ay(h:oH L M v)(e:jX kd n L M):qO kd.on n v:=by
 rcases h with h|h|⟨p,o,h⟩
 .exact Or.inl h
 .obtain⟨i,hi,rfl⟩:=zQ h;exact e.h1 i hi
 exact e.h2 p o v h
theorem sI(h:∀v,v∈L'->oH L M v){p:Nat}(u:lS L' M p):lS L M p:=
 u (lS L M) (λ_ hi e=>(h _ (nZ hi)).vi e) (λ_ i _ o e=>kA i o e)
theorem Bf(e:jX kd n L M)(h:∀v,v∈L'->oH L M v):jX kd n L' M:=
 Dv (s:=mD L M) (s':=mD L' M) e rfl (λ_ i=>sI h i) (λ_ hi=>(h _ (nZ hi)).Ay e)
theorem Bg(o:jX kd n L M){p:Nat}(i:Nat)(u:lS L M p)(e:oH L M v):jX (told kd ((M p).getD i (0,0))) n L (lay M p ((M p).set i v)):=
 Dw (s:=mD L M) o 0 p i v u (e.Ay o) e.vi
theorem CE{p i:Nat}(u:lS L M p)(o:oH L M v){k:Nat}(e:lS L (lay M p ((M p).set i v)) k):lS L M k:=
 pZ (s:=mD L M) (x:=0) u o.vi e
theorem po(e:jX kd n L M){p:Nat}(i:lS L M p):kd.on p=true/\1<=p/\p<=n:=kJ (s:=mD L M) e i
theorem sJ{p:Nat}{l:List V}(W:∀v,v∈l->oH L M v)(J:∀v,v∈L'->v=(p,0)\/oH L M v){k:Nat}(G:lS L' (lay M p l) k):k=p\/lS L M k:=by
 refine G (λk=>k=p\/lS L M k) (λi hi y=>?_) (λk G u H y=>?_)
 .rcases J _ (nZ hi) with h|h
  .left
   show(EF L' i).1=p;rw[h]
  exact Or.inr (h.vi y)
 have o:u∈lay M p l k:=H;by_cases e:k=p
 .subst e;rw[gl]at o;exact Or.inr ((W u o).vi y)
 rw[fq _ _ _ _ e]at o;exact Or.inr (kA (G.resolve_left e) o y)
theorem Bh(Y:jX kd n L M){p:Nat}{l:List V}(h1:1<=p)(h2:p<=n)(h3:kd.on p=false)(hl:∀v,v∈l->oH L M v)(hL:∀v,v∈L'->v=(p,0)\/oH L M v):jX (laid kd p) n L' (lay M p l):=by
 refine⟨λi hi=>?_,λk o u H=>?_,λc hc=>?_⟩
 .show qO (mark kd.on p) n (EF L' i);rcases hL _ (nZ hi) with h|h
  .rw[h];exact Or.inr ⟨h1,h2,je _ _,rfl⟩
  exact(h.Ay Y).up (λk=>jy p)
 .have y:u∈lay M p l k:=H;show qO (mark kd.on p) n u;by_cases e:k=p
  .subst e;rw[gl]at y;exact((hl u y).Ay Y).up (λj=>jy k)
  rw[fq _ _ _ _ e]at y;rcases sJ hl hL o with h|h
  .exact absurd h e
  exact(Y.h2 k h u y).up (λj=>jy p)
 have W:kd.cy.map (λc:Cy=>(⟨mark c.m p,c.st,c.nx⟩:Cy))=some c:=hc;rw[Option.map_eq_some_iff]at W;obtain⟨c0,a6,rfl⟩:=W;obtain⟨hx,T,hT,G⟩:=Y.h3 c0 a6;have G:lR kd.on n M c0 T:=G;have hn:∀k,T k->k≠p:=by
  rintro k o rfl;have:=(G.ha k o).2.2;rw[h3]at this;cases this
 refine⟨hx,λk=>k=p\/T k,λk o=>(sJ hl hL o).imp id (hT k),λk o=>?_,λk o u H=>?_,λk o=>?_,λk o=>jy _ (G.hd k o),G.he,λk o=>?_,G.hg,G.hh,λk a1 a2 a3=>?_⟩
 .rcases o with rfl|o
  .exact⟨h1,h2,je _ _⟩
  have:=G.ha k o;exact⟨this.1,this.2.1,jy _ this.2.2⟩
 .have y:u∈lay M p l k:=H;rcases o with rfl|o
  .rw[gl]at y;exact⟨((hl u y).Ay Y).up (λj=>jy k),λJ=>Or.inr (hT _ ((hl u y).vi J))⟩
  rw[fq _ _ _ _ (hn k o)]at y;have:=G.hb k o u y;exact⟨this.1.up (λk=>jy p),λJ=>Or.inr (this.2 J)⟩
 .by_cases e:k=p
  .exact Or.inl e
  have a5:mark c0.m p k=true:=o;rw[fg _ _ _ e]at a5;exact Or.inr (G.hc k a5)
 .intro S s1 s2 _ s4;have a7:∀k,k∈c0.st->∀v,v∈lay M p l k->v.1≠0->S v.1:=s2;have a8:∀k,mark c0.m p k=false->S k->∀v,v∈lay M p l k->v.1≠0->S v.1:=s4;rcases o with rfl|o
  .exact s1 k (je _ _)
  refine(G.hf k o (λk=>S k/\T k) (λk o=>⟨s1 k (jy _ o),G.hc k o⟩) (λk o u H J=>?_) (λv hv=>by simp at hv) (λk hm o u H J=>?_)).1
  .have a4:=G.hc k (G.hd k o);exact⟨a7 k o u (by rw[fq _ _ _ _ (hn k a4)];exact H) J,(G.hb k a4 u H).2 J⟩
  have Z:=hn k o.2;exact⟨a8 k (by rw[fg _ _ _ Z];exact hm) o.1 u (by rw[fq _ _ _ _ Z];exact H) J,(G.hb k o.2 u H).2 J⟩
 by_cases e:k=p
 .subst e;exact je _ _
 have a0:mark kd.on p k=true:=a3;rw[fg _ _ _ e]at a0;exact jy _ (G.hi k a1 a2 a0)
end
end B
namespace F
def qw(p:dz)(s:Pl)(v:B.V):Prop:=(∃u i a,u∈s.lv/\i<(s.T u).fr.length/\a<p.rg (de s u i).f/\(de s u i).R a=v)\/v∈s.kp
theorem gi{p:dz}{s:Pl}{v:B.V}:v∈eh p s↔qw p s v:=by
 unfold eh we sk qp qw;simp only[di,List.mem_flatMap,eJ,B.kI];constructor
 .rintro(⟨u,o,i,hi,a,y,e⟩|h)
  .exact ag ⟨u,i,a,o,hi,y,e⟩
  exact ab h
 rintro(⟨u,i,a,o,hi,y,e⟩|h)
 .exact ag ⟨u,o,i,hi,a,y,e⟩
 exact ab h
def dN(p:dz)(s:Pl)(v:B.V):Prop:=B.oH (eh p s) s.M v
theorem dN.num{p:dz}{s:Pl}(x:Int):dN p s (0,x):=ag rfl
theorem dN.root{p:dz}{s:Pl}{v:B.V}(h:qw p s v):dN p s v:=B.oH.mem (gi.2 h)
structure FW(p:dz) (l:List gY):Prop where
 n1:l≠[]
 n2:l.length<=20
 f:∀i,i<l.length->(l.getD i mr).f<p.nf/\(l.getD i mr).nx<=p.len (l.getD i mr).f
 b:∀i,i+1<l.length->(l.getD (i+1) mr).bk.2.1<p.rg (l.getD i mr).f
structure fS(p:dz) (s:Pl) (X:Nat->Prop):Prop where
 lw:LW s
 ww:WW p s
 nd:s.lv.Nodup
 lt:∀u,u∈s.lv->fe s u
 ql:∀x y,fz s x y->∀t,t∈s.q x y->t∈s.lv
 lf:∀u,fe s u->(s.T u).lf≠none->∃x y,(s.T u).wh=some (x,y)/\(x=4\/x=5)
 rn:∀u,fe s u->(s.T u).run=true->(s.T u).wh=none/\u∈s.lv
 ol:s.out.length=s.nt
 ok:∀v,v∈s.out->v.1=0\/v∈s.kp
 kn:s.kp.Nodup
 kz:∀v,v∈s.kp->v.1≠0
 fw:∀u,u∈s.lv->X u->FW p (s.T u).fr
 hl:B.jX s.kd p.n (eh p s) s.M
 fc:∀k,1<=k->k<=p.n->s.kd.on k=true->s.ck k<=p.nf
 bt:∀k,(s.jo k).length<=1000/\∀x,x∈s.jo k->x<256
 c0:0<=s.eY
 c1:s.eY<=9223372036854775807
abbrev Ok(p:dz)(s:Pl):Prop:=fS p s (λ_=>True)
theorem fS.Gt{p:dz}{s:Pl}{X Y:Nat->Prop}(h:fS p s X)(hX:∀u,u∈s.lv->Y u->X u):fS p s Y:={ h with fw:=λu e i=>h.fw u e (hX u e i) }
section
variable {p : dz} {s : Pl} {X : Nat → Prop} (h : fS p s X)
include h
theorem fS.Ay{v:B.V}(e:dN p s v):B.qO s.kd.on p.n v:=B.oH.Ay e h.hl
theorem fS.kl:s.kp.length<=p.n:=by
 have i:∀v,v∈s.kp->1<=v.1/\v.1<=p.n/\v.2=0:=λv i=>by
  rcases h.Ay (dN.root (ab i)) with u|u
  .exact ch u (h.kz v i)
  exact⟨u.1,u.2.1,u.2.2.2⟩
 have hn:(s.kp.map (·.1)).Nodup:=by
  have y:∀l:List B.V,l.Nodup->(∀v,v∈l->v.2=0)->(l.map (·.1)).Nodup:=by
   intro l;induction l with
   | nil=>intro _ _;simp
   | cons a l H=>
    intro hn hz;rw[List.nodup_cons]at hn;rw[List.map_cons,List.nodup_cons];refine⟨λJ=>?_,H hn.2 (λv i=>hz v (by simp[i]))⟩;obtain⟨b,G,e⟩:=ek.1 J;have:b=a:=fV e ((hz b (by simp[G])).trans (hz a (by simp)).symm);exact hn.1 (this▸G)
  exact y s.kp h.kn (λv h=>(i v h).2.2)
 have:=gn p.n _ hn (λt ht=>by
  obtain⟨v,o,rfl⟩:=ek.1 ht;exact⟨(i v o).1,(i v o).2.1⟩)
 rw[dS]at this;exact this
theorem fS.ll:s.lv.length<=s.nt:=gn s.nt _ h.nd (λt ht=>h.lt t ht)
end
theorem fS.same{p:dz}{s s':Pl}{X:Nat->Prop}(h:fS p s X)(W:s'.nt=s.nt)(H:s'.T=s.T)(G:s'.q=s.q)(u:s'.lv=s.lv)(J:s'.out=s.out)(e6:s'.kp=s.kp)(e7:s'.jo=s.jo)(y:s'.eY=s.eY)(o:s'.kd=s.kd)(e:s'.M=s.M)(i:s'.ck=s.ck):fS p s' X:=by
 obtain⟨a1,a2,a3,a4,a5,a6,a7,a8,a9,aA,aD,aB,a0⟩:=s;obtain⟨b1,b2,b3,b4,b5,b6,b7,b8,b9,Z,aC,aE,Y⟩:=s';simp only at W H G u J e6 e7 y o e i;subst W H G u J e6 e7 y o e i;exact⟨⟨h.lw.a,h.lw.b,h.lw.c,h.lw.d⟩,h.ww,h.nd,h.lt,h.ql,h.lf,h.rn,h.ol,h.ok,h.kn,h.kz,h.fw,h.hl,h.fc,h.bt,h.c0,h.c1⟩
end F
namespace F
theorem fS.roots{p:dz}{s s':Pl}{X:Nat->Prop}(h:fS p s X)(e:s'.kd=s.kd)(u:s'.M=s.M)(o:∀v,qw p s' v->dN p s v):B.jX s'.kd p.n (eh p s') s'.M:=by
 rw[e,u];exact B.Bf h.hl (λv i=>o v (gi.1 i))
theorem FW.set{p:dz}{l:List gY}(h:FW p l){i:Nat}{f:gY}(hi:i<l.length)(H:f.f=(l.getD i mr).f)(J:f.bk=(l.getD i mr).bk)(hn:f.nx<=p.len f.f):FW p (l.set i f):=by
 have y:∀j,(l.set i f).getD j mr=if j=i then f else l.getD j mr:=λj=>by
  by_cases e:j=i
  .subst e;rw[aj rfl,ar,List.getElem?_set_self hi];rfl
  rw[aa e,ar,List.getElem?_set_ne (λW=>e W.symm),<-ar]
 have o:∀j,((l.set i f).getD j mr).f=(l.getD j mr).f:=λj=>by
  rw[y];by_cases e:j=i
  .rw[aj e,H,e]
  rw[aa e]
 have G:∀j,((l.set i f).getD j mr).bk=(l.getD j mr).bk:=λj=>by
  rw[y];by_cases e:j=i
  .rw[aj e,J,e]
  rw[aa e]
 refine⟨λe=>h.n1 ?_,by rw[dq];exact h.n2,λj u=>?_,λj u=>?_⟩
 .have:(l.set i f).length=0:=by rw[e];rfl
  rw[dq]at this;exact cf.1 this
 .rw[dq]at u;refine⟨by rw[o];exact(h.f j u).1,?_⟩;rw[o,y];by_cases e:j=i
  .rw[aj e,e,<-H];exact hn
  rw[aa e];exact(h.f j u).2
 rw[dq]at u;rw[o,G];exact h.b j u
theorem fS.dx{p:dz}{s:Pl}{X:Nat->Prop}(h:fS p s X){t i:Nat}{f:gY}(hi:i<(s.T t).fr.length)(W:f.f=(de s t i).f)(hb:f.bk=(de s t i).bk)(hn:f.nx<=p.len f.f)(hR:∀a,a<p.rg f.f->dN p s (f.R a)):fS p (s.dx t i f) X:=by
 have hw:=λu=>gj s t i u f;have G:∀u j,(de (s.dx t i f) u j).f=(de s u j).f:=λu j=>by
  by_cases e:u=t/\j=i
  .obtain⟨rfl,rfl⟩:=e;rw[ko s f hi,W]
  rw[jR s f e]
 have J:∀u,(s.T u).fr≠[]->((s.dx t i f).T u).fr≠[]:=λu h0 e=>h0 (by
  have:=(hw u).2.2.2.2;rw[e]at this;exact cf.1 this.symm)
 refine⟨h.lw.dx t i f,λu o x y hx H=>?_,h.nd,h.lt,h.ql,λu o hl=>?_,λu o hr=>?_,h.ol,h.ok,h.kn,h.kz,λu o hX=>?_,h.roots rfl rfl ?_,h.fc,h.bt,h.c0,h.c1⟩
 .rw[(hw u).1]at hx;obtain⟨k,k1,k2,k3⟩:=h.ww u o x y hx H;refine⟨k,by rw[(hw u).2.1];exact k1,J u k2,?_⟩;rw[(hw u).2.2.2.2,G];exact k3
 .rw[(hw u).2.1]at hl;rw[(hw u).1];exact h.lf u o hl
 .rw[(hw u).2.2.1]at hr;rw[(hw u).1];exact h.rn u o hr
 .have:=h.fw u o hX;by_cases e:u=t
  .subst e;unfold Pl.dx;rw[df];exact this.set hi W hb hn
  rw[nC s f e];exact this
 rintro v (⟨u,j,a,o,Z,Y,e⟩|hv)
 .rw[(hw u).2.2.2.2]at Z;rw[G]at Y;by_cases e2:u=t/\j=i
  .obtain⟨rfl,rfl⟩:=e2;rw[ko s f hi]at e;rw[<-e];exact hR a (by rw[W];exact Y)
  rw[jR s f e2]at e;exact dN.root (ag ⟨u,j,a,o,Z,Y,e⟩)
 exact dN.root (ab hv)
theorem fS.oD{p:dz}{s:Pl}{X:Nat->Prop}(h:fS p s X){t i:Nat}(o:t∈s.lv)(hX:X t)(hi:i<(s.T t).fr.length)(a:Nat){v:B.V}(u:dN p s v):fS p (s.dx t i ((de s t i).set a v)) X:=by
 refine h.dx hi rfl rfl ((h.fw t o hX).f i hi).2 (λb y=>?_);show dN p s (B.set (de s t i).R a v b);by_cases e:b=a
 .subst e;rw[B.ie];exact u
 rw[B.gS _ _ _ _ e];exact dN.root (ag ⟨t,i,b,o,hi,y,rfl⟩)
theorem fS.line{p:dz}{s s':Pl}{X:Nat->Prop}(h:fS p s X){t:Nat}(Y:t∈s.lv)(hn:s'.nt=s.nt)(a4:LW s')(hT:∀u,u≠t->s'.T u=s.T u)(a0:(s'.T t).fr=(s.T t).fr)(hq:∀x y,fz s x y->∀a,a∈s'.q x y->a∈s.q x y\/a=t)(a1:s'.lv=s.lv/\s'.out=s.out/\s'.kp=s.kp/\s'.jo=s.jo/\s'.eY=s.eY/\s'.kd=s.kd/\s'.M=s.M/\s'.ck=s.ck)(hw:∀x y,(s'.T t).wh=some (x,y)->(x=4\/x=5)->∃k,(s'.T t).lf=some k/\(s.T t).fr≠[]/\k.2.1<p.rg (de s t ((s.T t).fr.length-1)).f)(a3:(s'.T t).lf≠none->∃x y,(s'.T t).wh=some (x,y)/\(x=4\/x=5))(a2:(s'.T t).run=true->(s'.T t).wh=none):fS p s' X:=by
 obtain⟨H,f2,Z,f4,f5,f6,f7,f8⟩:=a1;have i:∀u,(s'.T u).fr=(s.T u).fr:=λu=>by
  by_cases e:u=t
  .rw[e];exact a0
  rw[hT u e]
 have W:∀u j,de s' u j=de s u j:=λu j=>gJ (i u);refine⟨a4,λu o x y hx J=>?_,by rw[H];exact h.nd,λu o=>(eg hn).2 (h.lt u (by rw[<-H];exact o)),λx y G a ha=>?_,λu o G=>?_,λu o hr=>?_,by rw[f2,hn];exact h.ol,by rw[f2,Z];exact h.ok,by rw[Z];exact h.kn,by rw[Z];exact h.kz,λu o hX=>?_,h.roots f6 f7 ?_,by rw[f6,f8];exact h.fc,by rw[f4];exact h.bt,by rw[f5];exact h.c0,by rw[f5];exact h.c1⟩
 .rw[i u,W];by_cases e:u=t
  .subst e;exact hw x y hx J
  rw[hT u e]at hx ⊢;exact h.ww u ((eg hn).1 o) x y hx J
 .rw[H];rcases hq x y ((fQ hn).1 G) a ha with h1|h1
  .exact h.ql x y ((fQ hn).1 G) a h1
  rw[h1];exact Y
 .by_cases e:u=t
  .subst e;exact a3 G
  rw[hT u e]at G ⊢;exact h.lf u ((eg hn).1 o) G
 .rw[H];by_cases e:u=t
  .subst e;exact⟨a2 hr,Y⟩
  rw[hT u e]at hr ⊢;exact h.rn u ((eg hn).1 o) hr
 .rw[i];exact h.fw u (by rw[<-H];exact o) hX
 rintro v (⟨u,j,a,o,hj,ha,e⟩|hv)
 .rw[W]at ha e;rw[i]at hj;rw[H]at o;exact dN.root (ag ⟨u,j,a,o,hj,ha,e⟩)
 rw[Z]at hv;exact dN.root (ab hv)
theorem vp{p:dz}{s:Pl}{X:Nat->Prop}(h:fS p s X){t:Nat}(ht:fe s t):((s.dw t).T t).lf=none:=by
 cases hw:(s.T t).wh with
 | none=>
  rw[gd hw]
  cases hl:(s.T t).lf with
  | none=>rfl
  | some k=>
   obtain⟨x,y,e,_⟩:=h.lf t ht (by rw[hl];simp);rw[hw]at e;cases e
 | some i=>rw[fN (x:=i.1) (y:=i.2) hw,df];rfl
theorem py{s:Pl}{t x y a:Nat}(h:a∈(s.dw t).q x y):a∈s.q x y:=by
 cases hw:(s.T t).wh with
 | none=>rw[gd hw]at h;exact h
 | some i=>
  rw[fN (x:=i.1) (y:=i.2) hw]at h;have o:a∈(s.eZ i.1 i.2 ((s.q i.1 i.2).erase t)).q x y:=h;by_cases e:x=i.1/\y=i.2
  .obtain⟨rfl,rfl⟩:=e;rw[fX]at o;exact List.mem_of_mem_erase o
  rw[fL _ _ e]at o;exact o
theorem zM(s:Pl)(t:Nat):(s.dw t).lv=s.lv/\(s.dw t).out=s.out/\(s.dw t).kp=s.kp/\(s.dw t).jo=s.jo/\(s.dw t).eY=s.eY/\(s.dw t).kd=s.kd/\(s.dw t).M=s.M/\(s.dw t).ck=s.ck:=by
 obtain⟨k1,k2,u,H,i,J,G,o,y,e⟩:=gz s t;exact⟨k1,k2,u,i,G,o,y,e⟩
theorem fS.into{p:dz}{s:Pl}{X:Nat->Prop}(h:fS p s X){x y t:Nat}{l:List Nat}(H:t∈s.lv)(hl:fz s x y)(hx:x=2\/x=3)(hd:l.Nodup)(Z:∀u,u∈l↔(u∈(s.dw t).q x y\/u=t)):fS p (s.into x y t l) X:=by
 have ht:=h.lt t H;have G:(s.into x y t l).T t=((s.dw t).T t).to x y:=df _ _ _;refine h.line H (fO s t) (h.lw.into ht hl (by omega) hd Z) (λu e=>(dP _ _ e).trans (sX s e)) ?_ (λa b i c hc=>?_) (zM s t) (λa b i a0=>?_) (λJ=>?_) (λY=>?_)
 .rw[G];exact ku s t t
 .have o:c∈((s.dw t).eZ x y l).q a b:=hc;by_cases e:a=x/\b=y
  .obtain⟨rfl,rfl⟩:=e;rw[fX]at o;rcases(Z c).1 o with W|W
   .exact ag (py W)
   exact ab W
  rw[fL _ _ e]at o;exact ag (py o)
 .rw[G]at i;injection i with i;injection i with W _;omega
 .rw[G]at J;exact ch (vp h ht) J
 rw[G]at Y;cases Y
theorem fS.dV{p:dz}{s:Pl}{X:Nat->Prop}(h:fS p s X){t:Nat}(o:t∈s.lv):fS p (s.dV 2 0 t) X:=by
 have y:=h.lw.dw (h.lt t o);have G:fz s 2 0:=ag ⟨rfl,rfl⟩;have i:=(fQ (fO s t)).2 G;exact h.into o G (ag rfl) (oQ (y.c 2 0 i) (y.out i (by rw[jd];intro e;cases e))) (λu=>by simp)
def Pl.start(s:Pl)(t:Nat):Pl:=(s.dw t).dv t { (s.dw t).T t with run:=true }
theorem fS.start{p:dz}{s:Pl}{X:Nat->Prop}(h:fS p s X){t:Nat}(y:t∈s.lv):fS p (s.start t) X:=by
 have ht:=h.lt t y;have o:(s.start t).T t={ (s.dw t).T t with run:=true }:=df _ _ _;have i:∀u,((s.start t).T u).wh=((s.dw t).T u).wh:=λu=>by
  by_cases e:u=t
  .subst e;rw[o]
  show(((s.dw t).dv t _).T u).wh=_;rw[dP _ _ e]
 refine h.line y (fO s t) ((h.lw.dw ht).same rfl rfl i) (λu e=>(dP _ _ e).trans (sX s e)) (by rw[o];exact ku s t t) (λa b _ c J=>ag (py (s:=s) (t:=t) J)) (zM s t) (λa b G _=>?_) (λH=>?_) (λ_=>?_)
 .rw[i,jd]at G;cases G
 .rw[o]at H;exact ch (vp h ht) H
 rw[i,jd]
theorem fS.fJ{p:dz}{s:Pl}{X:Nat->Prop}(h:fS p s X){t:Nat}(ht:fe s t)(hX:t∈s.lv->X t){v:B.V}(u:dN p s v):fS p (s.fJ t v) X:=by
 unfold Pl.fJ;split
 .exact h
 rename_i k o;obtain⟨x,y,hw,_⟩:=h.lf t ht (by rw[o];simp);obtain⟨H,G,_⟩:=h.lw.a t ht x y hw;have i:=h.ql x y H t G;have hi:cr s t<(s.T t).fr.length:=by
  have:=(h.fw t i (hX i)).n1;have:(s.T t).fr.length≠0:=λe=>this (cf.1 e);unfold cr;omega
 exact(h.oD i (hX i) hi k.2.1 u).dV i
theorem og{e:List B.V}{v u:B.V}(h:u∈iV e v):u∈e\/(u=v/\v.1≠0):=by
 unfold iV at h;split at h
 .rename_i c;rcases di.1 h with h|h
  .exact ag h
  exact ab ⟨by simpa using h,c.1⟩
 exact ag h
theorem Bc{e:List B.V}{v u:B.V}(h:u∈e):u∈iV e v:=by
 unfold iV;split
 .simp[h]
 exact h
theorem jK{e:List B.V}{v:B.V}(h:v.1≠0):v∈iV e v:=by
 unfold iV;split
 .simp
 rename_i c;exact Classical.byContradiction λi=>c ⟨h,i⟩
theorem Dd{o:List B.V}{v:B.V}(h:o.Nodup):(iV o v).Nodup:=by
 unfold iV;split
 .rename_i c;rw[List.nodup_append];refine⟨h,by simp,λa u b i=>?_⟩;simp at i;subst i;exact λe=>c.2 (e▸u)
 exact h
theorem vC(s:Pl)(t:Nat)(v:B.V)(kind:Nat)(x:Int)(u:Nat):((s.gone t v kind x).T u).fr=(s.T u).fr:=by
 by_cases e:u=t
 .subst e;show(((s.dw u).dv u ((s.dw u).T u).stop).T u).fr=_;rw[df];exact ku s u u
 rw[mR s v kind x e]
theorem gV(s:Pl)(t:Nat)(v:B.V)(kind:Nat)(x:Int):(s.gone t v kind x).lv=s.lv.erase t/\(s.gone t v kind x).out=s.out.set (t-1) v/\(s.gone t v kind x).kp=iV s.kp v/\(s.gone t v kind x).jo=s.jo/\(s.gone t v kind x).eY=s.eY/\(s.gone t v kind x).kd=s.kd/\(s.gone t v kind x).M=s.M/\(s.gone t v kind x).ck=s.ck/\(s.gone t v kind x).ev=s.ev++[(kind,t,x)]/\(s.gone t v kind x).q=(s.dw t).q:=by
 obtain⟨k1,k2,u,y,i,J,H,o,G,e⟩:=gz s t;refine⟨rfl,?_,?_,i,H,o,G,e,?_,rfl⟩
 .show(s.dw t).out.set (t-1) v=_;rw[k2]
 .show iV (s.dw t).kp v=_;rw[u]
 show(s.dw t).ev++[(kind,t,x)]=_;rw[y]
theorem fS.gone{p:dz}{s:Pl}{X Y:Nat->Prop}(h:fS p s X){t:Nat}(a2:t∈s.lv){v:B.V}(hv:dN p s v)(kind:Nat)(x:Int)(hY:∀u,u≠t->Y u->X u):fS p (s.gone t v kind x) Y:=by
 have ht:=h.lt t a2;have hn:=iO s t v kind x;obtain⟨H,f2,f3,f4,f5,f6,f7,f8,_,a0⟩:=gV s t v kind x;have a1:∀u j,de (s.gone t v kind x) u j=de s u j:=λu j=>gJ (vC s t v kind x u);have W:(s.gone t v kind x).T t=((s.dw t).T t).stop:=df _ _ _;have J:=h.lw.gone ht v kind x;refine⟨J,h.ww.gone v kind x,by rw[H];exact h.nd.erase _,λu i=>(eg hn).2 (h.lt u (List.mem_of_mem_erase (by rw[<-H];exact i))),λa b y c G=>?_,λu i y=>?_,λu i Z=>?_,by rw[f2,dq,hn];exact h.ol,λu i=>?_,by rw[f3];exact Dd h.kn,λu i=>?_,λu i hy=>?_,h.roots f6 f7 ?_,by rw[f6,f8];exact h.fc,by rw[f4];exact h.bt,by rw[f5];exact h.c0,by rw[f5];exact h.c1⟩
 .have hb:=J.b a b y c G;have e:c≠t:=λe=>by
   have h2:=hb.2;rw[e,oi,jd]at h2
   cases h2
  rw[H,h.nd.mem_erase_iff];rw[a0]at G;exact⟨e,h.ql a b ((fQ hn).1 y) c (py G)⟩
 .by_cases e:u=t
  .subst e;rw[W]at y;exact ch (vp h ht) y
  rw[mR s v kind x e]at y ⊢;exact h.lf u ((eg hn).1 i) y
 .by_cases e:u=t
  .subst e;rw[W]at Z;cases Z
  rw[mR s v kind x e]at Z ⊢;have:=h.rn u ((eg hn).1 i) Z;exact⟨this.1,by rw[H,h.nd.mem_erase_iff];exact⟨e,this.2⟩⟩
 .rw[f2]at i;rw[f3];rcases List.mem_or_eq_of_mem_set i with o|o
  .exact(h.ok u o).imp id Bc
  subst o;by_cases e:u.1=0
  .exact ag e
  exact ab (jK e)
 .rw[f3]at i;rcases og i with o|o
  .exact h.kz u o
  rw[o.1];exact o.2
 .rw[H,h.nd.mem_erase_iff]at i;rw[vC];exact h.fw u i.2 (hY u i.1 hy)
 rintro u (⟨c,j,a,G,hj,ha,e⟩|i)
 .rw[a1]at ha e;rw[vC]at hj;rw[H]at G;exact dN.root (ag ⟨c,j,a,List.mem_of_mem_erase G,hj,ha,e⟩)
 rw[f3]at i;rcases og i with o|o
 .exact dN.root (ab o)
 rw[o.1];exact hv
theorem iW(s:Pl)(x y t:Nat):(s.dV x y t).lv=s.lv/\(s.dV x y t).out=s.out/\(s.dV x y t).kp=s.kp/\(s.dV x y t).jo=s.jo/\(s.dV x y t).eY=s.eY/\(s.dV x y t).kd=s.kd/\(s.dV x y t).M=s.M/\(s.dV x y t).ck=s.ck/\(s.dV x y t).ev=s.ev/\(s.dV x y t).sp=s.sp:=by
 obtain⟨k1,k2,u,G,i,J,W,o,H,e⟩:=gz s t;exact⟨k1,k2,u,i,W,o,H,e,G,J⟩
theorem oX(s:Pl)(t:Nat)(v:B.V):(s.fJ t v).lv=s.lv/\(s.fJ t v).out=s.out/\(s.fJ t v).kp=s.kp/\(s.fJ t v).jo=s.jo/\(s.fJ t v).eY=s.eY/\(s.fJ t v).kd=s.kd/\(s.fJ t v).M=s.M/\(s.fJ t v).ck=s.ck/\(s.fJ t v).ev=s.ev/\(s.fJ t v).sp=s.sp:=by
 unfold Pl.fJ;split
 .exact⟨rfl,rfl,rfl,rfl,rfl,rfl,rfl,rfl,rfl,rfl⟩
 exact iW _ 2 0 t
theorem sg(v:B.V):∀(l:List Nat) (s:Pl),(s.dR v l).lv=s.lv/\(s.dR v l).kp=s.kp/\(s.dR v l).ev=s.ev/\(s.dR v l).nt=s.nt/\(s.dR v l).sp=s.sp
 | [],_=>⟨rfl,rfl,rfl,rfl,rfl⟩
 | t :: l,s=>by
  obtain⟨G,W,y,H,u⟩:=sg v l (s.fJ t v);obtain⟨J,_,i,_,_,_,_,_,o,e⟩:=oX s t v;exact⟨G.trans J,W.trans i,y.trans o,H.trans (mH s t v),u.trans e⟩
theorem fS.dR{p:dz}{X:Nat->Prop}{v:B.V}:∀(l:List Nat) {s:Pl},fS p s X->(∀u,u∈l->fe s u)->(∀u,u∈s.lv->X u)->(v.1=0\/v∈s.kp)->fS p (s.dR v l) X
 | [],_,h,_,_,_=>h
 | t :: l,s,h,hl,hX,hv=>by
  obtain⟨y,_,o,_⟩:=oX s t v;refine fS.dR l (h.fJ (hl t (by simp)) (hX t) (hv.elim (λe=>ag e) (λe=>dN.root (ab e)))) (λu i=>(eg (mH s t v)).2 (hl u (by simp[i]))) (λu i=>hX u (by rw[<-y];exact i)) (by rw[o];exact hv)
theorem fS.leave{p:dz}{s:Pl}{X:Nat->Prop}(h:fS p s X){t:Nat}(i:t∈s.lv)(hX:∀u,u≠t->X u){v:B.V}(y:dN p s v)(kind:Nat)(x:Int):Ok p (s.leave t v kind x):=by
 refine (h.gone i y kind x (λu o _=>hX u o)).dR _ (λu o=>(eg (iO s t v kind x)).2 (h.lw.b 5 t (ab (ab (ab ⟨rfl,h.lt t i⟩))) u o).1) (λ_ _=>trivial) ?_;rw[(gV s t v kind x).2.2.1];by_cases e:v.1=0
 .exact ag e
 exact ab (jK e)
theorem xz(s:Pl)(t:Nat)(v:B.V)(kind:Nat)(x:Int):(s.leave t v kind x).lv=s.lv.erase t/\(s.leave t v kind x).ev=s.ev++[(kind,t,x)]/\(s.leave t v kind x).nt=s.nt:=by
 obtain⟨u,_,o,y,_⟩:=sg v (s.q 5 t) (s.gone t v kind x);obtain⟨e,_,_,_,_,_,_,_,i,_⟩:=gV s t v kind x;exact⟨u.trans e,o.trans i,y.trans (iO s t v kind x)⟩
theorem kC(l:List gY)(f:gY)(i:Nat):(l++[f]).getD i mr=if i=l.length then f else l.getD i mr:=by
 rw[ar,ar];by_cases e:i=l.length
 .subst e;simp
 rw[aa e];rcases Nat.lt_or_ge i l.length with h|h
 .rw[du h]
 rw[cw (by simp;omega),cw (by omega)]
theorem FW.push{p:dz}{l:List gY}{f:gY}(h:l=[]\/FW p l)(H:l.length<20)(u:f.f<p.nf)(hn:f.nx<=p.len f.f)(y:l≠[]->f.bk.2.1<p.rg (l.getD (l.length-1) mr).f):FW p (l++[f]):=by
 have o:∀i,i<l.length->FW p l:=λi hi=>h.resolve_left (λe=>by rw[e]at hi;exact ch hi (Nat.not_lt_zero _));refine⟨by simp,by rw[bo];simp;omega,λi hi=>?_,λi hi=>?_⟩
 .rw[bo,eF]at hi;rw[kC];by_cases e:i=l.length
  .rw[aj e];exact⟨u,hn⟩
  rw[aa e];exact(o i (by omega)).f i (by omega)
 rw[bo,eF]at hi;rw[kC,kC];rw[aa (show ¬i=l.length by omega)];by_cases e:i+1=l.length
 .rw[aj e];have:i=l.length-1:=by omega
  rw[this];exact y (λG=>by rw[G]at e;cases e)
 rw[aa e];exact(o i (by omega)).b i (by omega)
theorem rm(s:Pl)(t:Nat)(f:gY):((s.push t f).T t).fr=(s.T t).fr++[f]:=by unfold Pl.push;rw[df];rfl
theorem oN(s:Pl){t u:Nat}(f:gY)(h:u≠t):(s.push t f).T u=s.T u:=dP _ _ h
theorem CI(s:Pl)(t:Nat)(f:gY)(u:Nat):((s.push t f).T u).run=(s.T u).run:=by
 unfold Pl.push;by_cases e:u=t
 .subst e;rw[df];rfl
 rw[dP _ _ e]
theorem fS.push{p:dz}{s:Pl}{X Y:Nat->Prop}(h:fS p s X){t:Nat}{f:gY}(hw:(s.T t).wh=none)(W:(s.T t).fr.length<20)(hF:(s.T t).fr=[]\/FW p (s.T t).fr)(hf:f.f<p.nf)(hn:f.nx<=p.len f.f)(hb:(s.T t).fr≠[]->f.bk.2.1<p.rg (de s t (cr s t)).f)(hR:∀a,a<p.rg f.f->dN p s (f.R a))(hY:∀u,u≠t->Y u->X u):fS p (s.push t f) Y:=by
 have G:=λu=>rk s t f u;have o:∀u,u≠t->(s.push t f).T u=s.T u:=λu e=>oN s f e;refine⟨h.lw.push t f,λu i x y J a0=>?_,h.nd,h.lt,h.ql,λu i W=>?_,λu i hr=>?_,h.ol,h.ok,h.kn,h.kz,λu i hy=>?_,h.roots rfl rfl ?_,h.fc,h.bt,h.c0,h.c1⟩
 .rw[(G u).1]at J;have e:u≠t:=λe=>by rw[e,hw]at J;cases J
  obtain⟨k,k1,k2,k3⟩:=h.ww u i x y J a0;rw[o u e,gJ (s:=s) (by rw[o u e])];exact⟨k,k1,k2,k3⟩
 .rw[(G u).2]at W;rw[(G u).1];exact h.lf u i W
 .rw[CI]at hr;rw[(G u).1];exact h.rn u i hr
 .by_cases e:u=t
  .subst e;rw[rm];exact FW.push hF W hf hn hb
  rw[o u e];exact h.fw u i (hY u e hy)
 rintro v (⟨u,j,a,i,Z,H,e⟩|hv)
 .by_cases e1:u=t
  .subst e1;rw[rm,bo,eF]at Z;by_cases e2:j=(s.T u).fr.length
   .subst e2;rw[vj]at H e;rw[<-e];exact hR a H
   rw[nI s f (λ_=>by omega)]at H e;exact dN.root (ag ⟨u,j,a,i,by omega,H,e⟩)
  rw[nI s f (λe'=>ch e' e1)]at H e;rw[o u e1]at Z;exact dN.root (ag ⟨u,j,a,i,Z,H,e⟩)
 exact dN.root (ab hv)
theorem FW.pop{p:dz}{l:List gY}(h:FW p l)(y:2<=l.length):FW p l.dropLast:=by
 have o:∀i,i+1<l.length->l.dropLast.getD i mr=l.getD i mr:=λi hi=>by
  rw[ar,ar,List.getElem?_dropLast,aj (by omega)]
 have u:l.dropLast.length=l.length-1:=ef;refine⟨λe=>?_,by have:=h.n2;omega,λi hi=>?_,λi hi=>?_⟩
 .rw[e]at u;simp at u;omega
 .rw[o i (by omega)];exact h.f i (by omega)
 rw[o i (by omega),o (i+1) (by omega)];exact h.b i (by omega)
theorem jk(s:Pl){t u:Nat}(h:u≠t):(s.pop t).T u=s.T u:=dP _ _ h
theorem G0(s:Pl)(t:Nat):((s.pop t).T t).fr=(s.T t).fr.dropLast:=by unfold Pl.pop;rw[df];rfl
theorem zF(s:Pl)(t u:Nat):((s.pop t).T u).run=(s.T u).run:=by
 unfold Pl.pop;by_cases e:u=t
 .subst e;rw[df];rfl
 rw[dP _ _ e]
theorem fS.pop{p:dz}{s:Pl}{X Y:Nat->Prop}(h:fS p s X){t:Nat}(hw:(s.T t).wh=none)(hY:∀u,Y u->X u/\(u≠t\/2<=(s.T t).fr.length)):fS p (s.pop t) Y:=by
 have o:=λu=>vm s t u;refine⟨h.lw.pop t,h.ww.pop hw,h.nd,h.lt,h.ql,λu i W=>?_,λu i J=>?_,h.ol,h.ok,h.kn,h.kz,λu i Z=>?_,h.roots rfl rfl ?_,h.fc,h.bt,h.c0,h.c1⟩
 .rw[(o u).2]at W;rw[(o u).1];exact h.lf u i W
 .rw[zF]at J;rw[(o u).1];exact h.rn u i J
 .obtain⟨k1,k2⟩:=hY u Z;have:=h.fw u i k1;by_cases e:u=t
  .subst e;rw[G0];exact this.pop (k2.resolve_left (λh=>h rfl))
  rw[jk s e];exact this
 rintro v (⟨u,j,a,i,G,y,e⟩|hv)
 .by_cases H:u=t
  .subst H;rw[rp]at G;rw[oa s (λ_=>by omega)]at y e;exact dN.root (ag ⟨u,j,a,i,by omega,y,e⟩)
  rw[oa s (λe'=>ch e' H)]at y e;rw[jk s H]at G;exact dN.root (ag ⟨u,j,a,i,G,y,e⟩)
 exact dN.root (ab hv)
theorem px{s:Pl}{t:Nat}(hw:(s.T t).wh=none)(v:B.V)(kind:Nat)(x:Int):(s.pop t).gone t v kind x=(s.gone t v kind x).pop t:=by
 have y:((s.pop t).T t).wh=none:=by rw[(vm s t t).1];exact hw
 have J:((s.pop t).gone t v kind x).T=((s.gone t v kind x).pop t).T:=by
  fB i
  by_cases e:i=t
  .subst e;have W:((s.pop i).gone i v kind x).T i=((s.pop i).T i).stop:=by
    show(((s.pop i).dw i).dv i (((s.pop i).dw i).T i).stop).T i=_;rw[df,gd y]
   have H:(s.gone i v kind x).T i=(s.T i).stop:=by
    show((s.dw i).dv i ((s.dw i).T i).stop).T i=_;rw[df,gd hw]
   rw[W];show _=((s.gone i v kind x).dv i _).T i;rw[df,H];show((s.dv i _).T i).stop=_;rw[df];rfl
  rw[mR _ v kind x e,jk s e,jk _ e,mR s v kind x e]
 have G:∀a b:Pl,a.nt=b.nt->a.T=b.T->a.q=b.q->a.lv=b.lv->a.out=b.out->a.kp=b.kp->a.ev=b.ev->a.jo=b.jo->a.sp=b.sp->a.eY=b.eY->a.kd=b.kd->a.M=b.M->a.ck=b.ck->a=b:=by
  rintro⟨⟩ ⟨⟩;simp only;rintro rfl rfl rfl rfl rfl rfl rfl rfl rfl rfl rfl rfl rfl;rfl
 have u:=gd y;have o:=gd hw;refine G _ _ ?_ J ?_ rfl ?_ ?_ ?_ ?_ ?_ ?_ ?_ ?_ ?_
 .rw[iO];show s.nt=(s.gone t v kind x).nt;rw[iO]
 .show((s.pop t).dw t).q=(s.dw t).q;rw[u,o];rfl
 .show((s.pop t).dw t).out.set (t-1) v=(s.dw t).out.set (t-1) v;rw[u,o];rfl
 .show iV ((s.pop t).dw t).kp v=iV (s.dw t).kp v;rw[u,o];rfl
 .show((s.pop t).dw t).ev++_=(s.dw t).ev++_;rw[u,o];rfl
 .show((s.pop t).dw t).jo=(s.dw t).jo;rw[u,o];rfl
 .show((s.pop t).dw t).sp=(s.dw t).sp;rw[u,o];rfl
 .show((s.pop t).dw t).eY=(s.dw t).eY;rw[u,o];rfl
 .show((s.pop t).dw t).kd=(s.dw t).kd;rw[u,o];rfl
 .show((s.pop t).dw t).M=(s.dw t).M;rw[u,o];rfl
 show((s.pop t).dw t).ck=(s.dw t).ck;rw[u,o];rfl
theorem Pl.ext'{a b:Pl}(Y:a.nt=b.nt)(J:a.T=b.T)(H:a.q=b.q)(G:a.lv=b.lv)(h5:a.out=b.out)(Z:a.kp=b.kp)(W:a.ev=b.ev)(h8:a.jo=b.jo)(y:a.sp=b.sp)(u:a.eY=b.eY)(o:a.kd=b.kd)(e:a.M=b.M)(i:a.ck=b.ck):a=b:=by
 obtain⟨⟩:=a;obtain⟨⟩:=b;simp only at Y J H G h5 Z W h8 y u o e i;subst Y J H G h5 Z W h8 y u o e i;rfl
theorem uW(l:List gY)(i:Nat)(f:gY)(hi:i+1<l.length):(l.set i f).dropLast=l.dropLast.set i f:=by
 apply List.ext_getElem?
 intro j;rw[List.getElem?_dropLast,dq];by_cases e:j=i
 .subst e;rw[aj (by omega),List.getElem?_set_self (by omega),List.getElem?_set_self (by rw[ef];omega)]
 rw[List.getElem?_set_ne (λh=>e h.symm),List.getElem?_set_ne (λh=>e h.symm),List.getElem?_dropLast]
theorem CL{s:Pl}{t i:Nat}{f:gY}(hi:i+1<(s.T t).fr.length):(s.pop t).dx t i f=(s.dx t i f).pop t:=by
 refine Pl.ext' rfl ?_ rfl rfl rfl rfl rfl rfl rfl rfl rfl rfl rfl;fB u
 by_cases e:u=t
 .subst e;unfold Pl.dx Pl.pop;rw[df,df,df,df];unfold oT.kD;simp only[uW _ _ _ hi]
 rw[nC _ _ e,jk _ e,jk _ e,nC _ _ e]
theorem fS.back{p:dz}{s:Pl}(h:Ok p s){t:Nat}(i:t∈s.lv)(hw:(s.T t).wh=none){v:B.V}(J:dN p s v):Ok p (s.back t v):=by
 unfold Pl.back;by_cases e:cr s t=0
 .rw[aj e];unfold Pl.leave;rw[px hw];have y:t∉(s.gone t v 2 v.2).lv:=by rw[(gV s t v 2 v.2).1,h.nd.mem_erase_iff];exact λh=>h.1 rfl
  have G:Ok p ((s.gone t v 2 v.2).pop t):=((h.gone i J 2 v.2 (λ_ _ h=>h)).pop (by rw[oi,jd]) (λu o=>⟨trivial,ag o⟩)).Gt (λu o _ e=>y (e▸o));refine G.dR _ (λu o=>?_) (λ_ _=>trivial) ?_
  .exact(eg (iO s t v 2 v.2)).2 (h.lw.b 5 t (ab (ab (ab ⟨rfl,h.lt t i⟩))) u o).1
  show v.1=0\/v∈(s.gone t v 2 v.2).kp;rw[(gV s t v 2 v.2).2.2.1];by_cases e:v.1=0
  .exact ag e
  exact ab (jK e)
 rw[aa e];have Z:2<=(s.T t).fr.length:=by unfold cr at e;omega
 rw[CL (by unfold cr;omega)];refine(h.oD i trivial (by unfold cr;omega) _ J).pop (by rw[(gj s t _ t _).1];exact hw) (λu _=>⟨trivial,ab ?_⟩);rw[(gj s t _ t _).2.2.2.2];exact Z
theorem lG(s:Pl)(t:Nat)(v:B.V):(cr s t=0->(s.back t v).lv=s.lv.erase t/\(s.back t v).ev=s.ev++[(2,t,v.2)]/\(s.back t v).nt=s.nt)/\(cr s t≠0->(s.back t v).lv=s.lv/\(s.back t v).ev=s.ev/\(s.back t v).nt=s.nt/\(s.back t v).q=s.q):=by
 unfold Pl.back;constructor
 .intro e;rw[aj e];exact xz (s.pop t) t v 2 v.2
 intro e;rw[aa e];exact⟨rfl,rfl,rfl,rfl⟩
theorem dN.mono{p:dz}{s s':Pl}(i:s'.M=s.M)(G:∀v,qw p s v->qw p s' v){v:B.V}(h:dN p s v):dN p s' v:=by
 have e:∀u,u∈eh p s->B.oH (eh p s') s'.M u:=λu o=>B.oH.mem (gi.2 (G u (gi.1 o)));unfold dN;rcases h with h|h|⟨k,y,h⟩
 .exact ag h
 .exact e v h
 refine ab (ab ⟨k,?_,by rw[i];exact h⟩);rw[i]at e ⊢;exact B.sI e y
theorem fS.more{p:dz}{s:Pl}(h:Ok p s)(hn:s.nt+1<=500000000):fS p s.more (λu=>u≠s.nt+1):=by
 have W:∀u,u≠s.nt+1->s.more.T u=s.T u:=λu e=>mi s e;have H:s.more.T (s.nt+1)=qR:=lM s
 have G:∀u,fe s u->u≠s.nt+1:=λu o e=>by have:=o.2;omega
 have Z:∀u j,u≠s.nt+1->de s.more u j=de s u j:=λu j e=>gJ (by rw[W u e]);refine⟨h.lw.more hn,λu o x y hx a0=>?_,?_,λu o=>?_,λx y Y a J=>?_,λu o Y=>?_,λu o hr=>?_,?_,λv hv=>?_,h.kn,h.kz,λu o hX=>?_,h.roots rfl rfl ?_,h.fc,h.bt,h.c0,h.c1⟩
 .rcases jx.1 o with i|i
  .rw[W u (G u i)]at hx ⊢;rw[Z u _ (G u i)];exact h.ww u i x y hx a0
  rw[i,H]at hx;cases hx
 .exact oQ h.nd (λhm=>by have:=(h.lt _ hm).2;omega)
 .rcases di.1 (show u∈s.lv++[s.nt+1] from o) with i|i
  .exact jx.2 (ag (h.lt u i))
  exact jx.2 (ab (by simpa using i))
 .show a∈s.lv++[s.nt+1];rcases oc.1 Y with i|⟨rfl,rfl⟩
  .have hq:s.more.q x y=s.q x y:=qA s (λe=>by
    have:=mO i e.1;exact G _ this e.2)
   rw[hq]at J;exact ee _ (h.ql x y i a J)
  have hq:s.more.q 5 (s.nt+1)=[]:=s9 s;rw[hq]at J;cases J
 .rcases jx.1 o with i|i
  .rw[W u (G u i)]at Y ⊢;exact h.lf u i Y
  rw[i,H]at Y;exact ch rfl Y
 .rcases jx.1 o with i|i
  .rw[W u (G u i)]at hr ⊢;have:=h.rn u i hr;exact⟨this.1,ee _ this.2⟩
  rw[i,H]at hr;cases hr
 .show(s.out++[(0,0)]).length=s.nt+1;rw[bo,h.ol];rfl
 .rcases di.1 (show v∈s.out++[(0,0)] from hv) with i|i
  .exact h.ok v i
  left
  rw[dL.1 i]
 .rcases di.1 (show u∈s.lv++[s.nt+1] from o) with i|i
  .rw[W u hX];exact h.fw u i trivial
  exact ch (by simpa using i) hX
 rintro v (⟨u,j,a,o,hj,J,e⟩|hv)
 .by_cases e1:u=s.nt+1
  .rw[e1,H]at hj;exact ch hj (Nat.not_lt_zero _)
  rw[Z u j e1]at J e;rw[W u e1]at hj;rcases di.1 (show u∈s.lv++[s.nt+1] from o) with i|i
  .exact dN.root (ag ⟨u,j,a,i,hj,J,e⟩)
  exact ch (by simpa using i) e1
 exact dN.root (ab hv)
theorem xr{p:dz}{s:Pl}(h:Ok p s){v:B.V}(H:dN p s v):dN p s.more v:=by
 refine dN.mono (s:=s) (s':=s.more) rfl (λu i=>?_) H;rcases i with⟨c,j,a,G,J,W,e⟩|i
 .have y:s.more.T c=s.T c:=mi s (λe=>by have:=(h.lt c G).2;omega);refine ag ⟨c,j,a,ee _ G,by rw[y];exact J,?_,?_⟩
  .rw[gJ (s:=s) (by rw[y])];exact W
  rw[gJ (s:=s) (by rw[y])];exact e
 exact ab i
theorem pn{p:dz}{s:Pl}{u v:B.V}(e:dN p s u)(i:dN p s v)(a:Nat):dN p s (gh u v a):=by
 unfold gh;split
 .exact e
 split
 .exact i
 exact dN.num 0
theorem fS.born{p:dz}{s:Pl}(h:Ok p s)(hn:s.nt+1<=500000000){f:Nat}{u v:B.V}(y:f<p.nf)(o:dN p s u)(G:dN p s v):Ok p (s.born f u v):=by
 have i:s.more.T (s.nt+1)=qR:=lM s;exact ((h.more hn).push (by rw[i];rfl) (by rw[i];decide) (ag (by rw[i];rfl)) y (dc _) (λe=>ch (by rw[i];rfl) e) (λa _=>pn (xr h o) (xr h G) a) (λ_ e _=>e)).dV (show s.nt+1∈s.lv++[s.nt+1] by simp)
theorem Ap(s:Pl)(f:Nat)(u v:B.V):(s.born f u v).lv=s.lv++[s.nt+1]/\(s.born f u v).ev=s.ev/\(s.born f u v).kp=s.kp/\(s.born f u v).M=s.M:=by
 obtain⟨k1,_,e,_,_,_,o,_,i,_⟩:=iW (s.more.push (s.nt+1) ⟨f,0,gh u v,(0,0,0,0)⟩) 2 0 (s.nt+1);exact⟨k1,i,e,o⟩
def Pl.sK(s:Pl)(a i:Nat)(v:B.V):Pl:={ s with kd:=B.told s.kd ((s.M a).getD i (0,0)),M:=B.lay s.M a ((s.M a).set i v) }
theorem fS.sK{p:dz}{s:Pl}{X:Nat->Prop}(h:fS p s X){a i:Nat}{v:B.V}(o:B.lS (eh p s) s.M a)(e:dN p s v):fS p (s.sK a i v) X:=
 { lw:=h.lw.same rfl rfl (λ_=>rfl),ww:=h.ww,nd:=h.nd,lt:=h.lt,ql:=h.ql,lf:=h.lf,rn:=h.rn,ol:=h.ol,ok:=h.ok,kn:=h.kn,kz:=h.kz,fw:=h.fw,hl:=B.Bg h.hl i o e,fc:=h.fc,bt:=h.bt,c0:=h.c0,c1:=h.c1 }
def Pl.na(s:Pl)(kd1:B.Kd)(c ty:Nat)(l:List B.V):Pl:={ s with kd:=B.laid kd1 c,M:=B.lay s.M c l,ck:=λk=>if k=c then ty else s.ck k }
theorem fS.na{p:dz}{s:Pl}(h:Ok p s){t a c ty:Nat}{i:B.Kd}{l:List B.V}(a4:t∈s.lv)(hk:B.jX i p.n (eh p s) s.M)(hs:∀k,1<=k->k<=p.n->i.on k=true->s.kd.on k=true)(h1:1<=c)(h2:c<=p.n)(h3:i.on c=false)(a5:ty<=p.nf)(hl:∀v,v∈l->dN p s v): Ok p ((s.na i c ty l).dx t (cr s t) ((de s t (cr s t)).set a (c,0))):=by
 have hi:cr s t<(s.T t).fr.length:=by
  have:(s.T t).fr.length≠0:=λe=>(h.fw t a4 trivial).n1 (cf.1 e);unfold cr;omega
 have hw:=λu=>gj s t (cr s t) u ((de s t (cr s t)).set a (c,0));have W:∀u j,(de (s.dx t (cr s t) ((de s t (cr s t)).set a (c,0))) u j).f=(de s u j).f:=λu j=>by
  by_cases e:u=t/\j=cr s t
  .obtain⟨rfl,rfl⟩:=e;rw[ko s _ hi];rfl
  rw[jR s _ e]
 have a2:∀u,(s.T u).fr≠[]->((s.dx t (cr s t) ((de s t (cr s t)).set a (c,0))).T u).fr≠[]:=λu h0 e=>h0 (by
  have:=(hw u).2.2.2.2;rw[e]at this;exact cf.1 this.symm)
 refine { lw:=(h.lw.dx t (cr s t) ((de s t (cr s t)).set a (c,0))).same rfl rfl (λ_=>rfl),ww:=?_,nd:=h.nd,lt:=h.lt,ql:=h.ql,lf:=?_,rn:=?_,ol:=h.ol,ok:=h.ok,kn:=h.kn,kz:=h.kz,fw:=?_,hl:=?_,fc:=?_,bt:=h.bt,c0:=h.c0,c1:=h.c1 }
 .intro u o x y hx a1;obtain⟨k,k1,k2,k3⟩:=h.ww u o x y ((hw u).1.symm.trans hx) a1;refine⟨k,(hw u).2.1.trans k1,a2 u k2,?_⟩;show k.2.1<p.rg (de (s.dx t (cr s t) ((de s t (cr s t)).set a (c,0))) u (((s.dx t (cr s t) ((de s t (cr s t)).set a (c,0))).T u).fr.length-1)).f;rw[(hw u).2.2.2.2,W];exact k3
 .intro u o a6;obtain⟨x,y,e,Z⟩:=h.lf u o (λe=>a6 ((hw u).2.1.trans e));exact⟨x,y,(hw u).1.trans e,Z⟩
 .intro u o hr;have:=h.rn u o ((hw u).2.2.1.symm.trans hr);exact⟨(hw u).1.trans this.1,this.2⟩
 .intro u o _;have:=h.fw u o trivial;show FW p ((s.dx t (cr s t) ((de s t (cr s t)).set a (c,0))).T u).fr;by_cases e:u=t
  .subst e;unfold Pl.dx;rw[df];exact this.set hi rfl rfl (this.f _ hi).2
  rw[nC s _ e];exact this
 .refine B.Bh (L:=eh p s) hk h1 h2 h3 hl (λv hv=>?_);rcases gi.1 hv with⟨u,j,b,o,hj,hb,e⟩|hv
  .have H:=(hw u).2.2.2.2▸hj;have J:=(W u j)▸hb;have e':(de (s.dx t (cr s t) ((de s t (cr s t)).set a (c,0))) u j).R b=v:=e;by_cases Z:u=t/\j=cr s t
   .obtain⟨rfl,rfl⟩:=Z;rw[ko s _ hi]at e';have Y:B.set (de s u (cr s u)).R a (c,0) b=v:=e';by_cases e4:b=a
    .subst e4;rw[B.ie]at Y;exact ag Y.symm
    rw[B.gS _ _ _ _ e4]at Y;exact ab (dN.root (ag ⟨u,_,b,o,H,J,Y⟩))
   rw[jR s _ Z]at e';exact ab (dN.root (ag ⟨u,j,b,o,H,J,e'⟩))
  exact ab (dN.root (ab hv))
 intro k k1 k2 a0;show(if k=c then ty else s.ck k)<=p.nf;by_cases e:k=c
 .rw[aj e];exact a5
 rw[aa e];have G:B.mark i.on c k=true:=a0;rw[B.fg _ _ _ e]at G;exact h.fc k k1 k2 (hs k k1 k2 G)
def Pl.tQ(s:Pl)(kd:B.Kd):Pl:={ s with kd:=kd }
theorem fS.tQ{p:dz}{s:Pl}{X:Nat->Prop}(h:fS p s X){kd:B.Kd}(e:B.jX kd p.n (eh p s) s.M)(o:∀k,1<=k->k<=p.n->kd.on k=true->s.kd.on k=true):fS p (s.tQ kd) X:=
 { lw:=h.lw.same rfl rfl (λ_=>rfl),ww:=h.ww,nd:=h.nd,lt:=h.lt,ql:=h.ql,lf:=h.lf,rn:=h.rn,ol:=h.ol,ok:=h.ok,kn:=h.kn,kz:=h.kz,fw:=h.fw,hl:=e,fc:=λk k1 k2 i=>h.fc k k1 k2 (o k k1 k2 i),bt:=h.bt,c0:=h.c0,c1:=h.c1 }
theorem fS.stop{p:dz}{s:Pl}{X:Nat->Prop}(h:fS p s X){t:Nat}(G:t∈s.lv):fS p (s.dv t (s.T t).stop) X:=by
 have ht:=h.lt t G;have i:(s.dv t (s.T t).stop).T t=(s.T t).stop:=df _ _ _;have o:∀u,((s.dv t (s.T t).stop).T u).wh=(s.T u).wh:=λu=>by
  by_cases e:u=t
  .subst e;rw[i];rfl
  rw[dP _ _ e]
 refine h.line G rfl (h.lw.same rfl rfl o) (λu e=>dP _ _ e) (by rw[i];rfl) (λ_ _ _ _ h=>ag h) ⟨rfl,rfl,rfl,rfl,rfl,rfl,rfl,rfl⟩ (λx y W H=>?_) (λY=>?_) (λJ=>?_)
 .rw[o]at W;obtain⟨k,k1,k2,Z⟩:=h.ww t ht x y W H;exact⟨k,by rw[i];exact k1,k2,Z⟩
 .rw[i]at Y;obtain⟨x,y,e,e2⟩:=h.lf t ht Y;exact⟨x,y,by rw[o];exact e,e2⟩
 rw[i]at J;cases J
def Pl.kj(s:Pl)(t:Nat):Pl:={ s.dv t (s.T t).stop with sp:=true,ev:=s.ev++[(5,t,0)] }
theorem fS.kj{p:dz}{s:Pl}{X:Nat->Prop}(h:fS p s X){t:Nat}(e:t∈s.lv):fS p (s.kj t) X:=(h.stop e).same rfl rfl rfl rfl rfl rfl rfl rfl rfl rfl rfl
theorem fS.told{p:dz}{s:Pl}{X:Nat->Prop}(h:fS p s X)(kind t:Nat)(x:Int):fS p (s.told kind t x) X:=h.same rfl rfl rfl rfl rfl rfl rfl rfl rfl rfl rfl
theorem fS.yw{p : dz} {s : Pl} {X : Nat → Prop} (h : fS p s X) (k : Nat) (l : List Nat) (hl : l.length ≤ 1000 ∧ ∀ x, x ∈ l → x < 256) : fS p (s.yw k l) X :=
  { lw := h.lw.same rfl rfl (fun _ => rfl), ww := h.ww, nd := h.nd, lt := h.lt, ql := h.ql, lf := h.lf, rn := h.rn, ol := h.ol, ok := h.ok, kn := h.kn, kz := h.kz, fw := h.fw, hl := h.hl, fc := h.fc, bt := fun i => by
      show ((if i = k then l else s.jo i)).length ≤ 1000 ∧ ∀ x, x ∈ (if i = k then l else s.jo i) → x < 256
      by_cases e : i = k
      · rw [aj e]; exact hl
      · rw [aa e]; exact h.bt i, c0 := h.c0, c1 := h.c1 }
def jA(l:List se):List Nat:=(l.filter (λe=>e.1 == 2 || e.1 == 3 || e.1 == 4)).map (·.2.1)
def Ge(t:Nat)(gone:List Nat):List se->Prop
 | []=>True
 | e :: l=>e.2.1∉gone/\(e.1≠4->e.2.1=t)/\Ge t (gone++jA [e]) l
theorem uB(l m:List se):jA (l++m)=jA l++jA m:=by unfold jA;simp
theorem Am{t:Nat}:∀(l m:List se) (gone:List Nat),Ge t gone l->Ge t (gone++jA l) m->Ge t gone (l++m)
 | [],m,gone,_,h=>by
  have:gone++jA []=gone:=by unfold jA;simp
  rw[this]at h;exact h
 | e :: l,m,gone,h1,h2=>by
  refine⟨h1.1,h1.2.1,Am l m _ h1.2.2 ?_⟩;rw[dY,<-uB];exact h2
def LS(l:List se):Prop:=∀e,e∈l->e.1≠4
def Gn(s:Pl)(gone:List Nat):Prop:=∀u,u∈gone->fe s u/\u∉s.lv
def Go(t c:Nat)(s s':Pl):Prop:=∃l,s'.ev=s.ev++l/\l.length<=c/\(s.nt<=s'.nt/\s'.nt<=s.nt+c)/\(∀gone,Gn s gone->Ge t gone l/\Gn s' (gone++jA l))/\(LS l->∃m,s'.q 2 0=s.q 2 0++m)
theorem Go.trans{t c d:Nat}{s s' i:Pl}(h:Go t c s s')(J:Go t d s' i):Go t (c+d) s i:=by
 obtain⟨l,a1,a2,a3,Y,Z⟩:=h;obtain⟨m,H,b2,b3,b4,o⟩:=J;refine⟨l++m,by rw[H,a1,dY],by rw[bo];omega,by omega,λgone hg=>?_,λhn=>?_⟩
 .obtain⟨k1,k2⟩:=Y gone hg;obtain⟨u,k4⟩:=b4 _ k2;exact⟨Am l m gone k1 u,by rw[uB,<-dY];exact k4⟩
 obtain⟨x,W⟩:=Z (λe he=>hn e (ee _ he));obtain⟨y,G⟩:=o (λe he=>hn e (List.mem_append_right _ he));exact⟨x++y,by rw[G,W,dY]⟩
theorem Go.mono{t c d:Nat}{s s':Pl}(h:Go t c s s')(o:c<=d):Go t d s s':=by
 obtain⟨l,e,y,u,i⟩:=h;exact⟨l,e,by omega,by omega,i⟩
theorem Go.quiet{t:Nat}{s s':Pl}(he:s'.ev=s.ev)(G:s'.lv=s.lv)(hn:s'.nt=s.nt)(y:∃m,s'.q 2 0=s.q 2 0++m):Go t 0 s s':=by
 refine⟨[],by rw[he,eB],bj _,by omega,λgone o=>⟨trivial,λu i=>?_⟩,λ_=>y⟩;have e:u∈gone:=by
  unfold jA at i;simpa using i
 exact⟨(eg hn).2 (o u e).1,by rw[G];exact(o u e).2⟩
theorem Go.same{t:Nat}{s s':Pl}(he:s'.ev=s.ev)(i:s'.lv=s.lv)(hn:s'.nt=s.nt)(e:s'.q 2 0=s.q 2 0):Go t 0 s s':=Go.quiet he i hn ⟨[],by rw[e,eB]⟩
theorem Go.FP{t:Nat}{s s':Pl}{k:Nat}{x:Int}(G:k=1\/k=5)(i:t∈s.lv)(he:s'.ev=s.ev++[(k,t,x)])(W:s'.lv=s.lv)(hn:s'.nt=s.nt)(H:s'.q 2 0=s.q 2 0):Go t 1 s s':=by
 have o:jA [(k,t,x)]=[]:=by rcases G with rfl|rfl<;>rfl
 refine⟨[(k,t,x)],he,bj _,by omega,λgone y=>⟨⟨λJ=>(y t J).2 i,λ_=>rfl,trivial⟩,λu e=>?_⟩,λ_=>⟨[],by rw[H,eB]⟩⟩;rw[o,eB]at e;exact⟨(eg hn).2 (y u e).1,by rw[W];exact(y u e).2⟩
theorem Go.ends{t u:Nat}{s s':Pl}{k:Nat}{x:Int}(W:(k=2/\u=t)\/(k=3/\u=t)\/k=4)(y:u∈s.lv)(hu:fe s u)(H:s.lv.Nodup)(he:s'.ev=s.ev++[(k,u,x)])(Z:s'.lv=s.lv.erase u)(hn:s'.nt=s.nt)(hq:k≠4->∃m,s'.q 2 0=s.q 2 0++m):Go t 1 s s':=by
 have G:jA [(k,u,x)]=[u]:=by rcases W with⟨rfl,_⟩|⟨rfl,_⟩|rfl<;>rfl
 refine⟨[(k,u,x)],he,bj _,by omega,λgone J=>⟨⟨λi=>(J u i).2 y,λh4=>?_,trivial⟩,λa Y=>?_⟩,λhc=>hq (hc (k,u,x) (by simp))⟩
 .rcases W with h|h|h
  .exact h.2
  .exact h.2
  exact ch h h4
 rw[G]at Y;rcases di.1 Y with o|o
 .refine⟨(eg hn).2 (J a o).1,λi=>(J a o).2 ?_⟩;rw[Z]at i;exact List.mem_of_mem_erase i
 have e:a=u:=by simpa using o
 refine⟨(eg hn).2 (e▸hu),λi=>?_⟩;rw[Z,H.mem_erase_iff]at i;exact i.1 e
theorem nN{s:Pl}{t:Nat}(hw:(s.T t).wh≠some (2,0)):(s.dV 2 0 t).q 2 0=s.q 2 0++[t]:=by
 show((s.dw t).eZ 2 0 ((s.dw t).q 2 0++[t])).q 2 0=_;rw[fX,vn s hw]
theorem zj{p:dz}{s:Pl}{X:Nat->Prop}(h:fS p s X){t:Nat}(ht:fe s t)(v:B.V):∃m,(s.fJ t v).q 2 0=s.q 2 0++m:=by
 unfold Pl.fJ;split
 .exact⟨[],by rw[eB]⟩
 rename_i k i;obtain⟨x,y,hw,o⟩:=h.lf t ht (by rw[i];simp);refine⟨[t],nN ?_⟩;rw[(gj s t _ t _).1,hw];intro e;injection e with e;injection e with e _;omega
theorem oJ{p:dz}{X:Nat->Prop}{v:B.V}:∀(l:List Nat) {s:Pl},fS p s X->(∀u,u∈l->fe s u)->(∀u,u∈s.lv->X u)->(v.1=0\/v∈s.kp)->∃m,(s.dR v l).q 2 0=s.q 2 0++m
 | [],s,_,_,_,_=>⟨[],by rw[eB];rfl⟩
 | t :: l,s,h,hl,hX,hv=>by
  obtain⟨H,_,y,_⟩:=oX s t v;obtain⟨m,G⟩:=zj h (hl t (by simp)) v;obtain⟨m',o⟩:=oJ l (h.fJ (hl t (by simp)) (hX t) (hv.elim (λe=>ag e) (λe=>dN.root (ab e)))) (λu i=>(eg (mH s t v)).2 (hl u (by simp[i]))) (λu i=>hX u (by rw[<-H];exact i)) (by rw[y];exact hv);exact⟨m++m',by show((s.fJ t v).dR v l).q 2 0=_;rw[o,G,dY]⟩
theorem C8{p:dz}{s:Pl}{X:Nat->Prop}(h:fS p s X){t:Nat}(i:t∈s.lv)(hX:∀u,u≠t->X u)(hw:(s.T t).wh=none){v:B.V}(y:dN p s v)(kind:Nat)(x:Int):∃m,(s.leave t v kind x).q 2 0=s.q 2 0++m:=by
 obtain⟨m,G⟩:=oJ (v:=v) (s.q 5 t) (h.gone i y kind x (λu o _=>hX u o)) (λu o=>(eg (iO s t v kind x)).2 (h.lw.b 5 t (ab (ab (ab ⟨rfl,h.lt t i⟩))) u o).1) (λ_ _=>trivial) (by
  rw[(gV s t v kind x).2.2.1];by_cases e:v.1=0
  .exact ag e
  exact ab (jK e))
 refine⟨m,?_⟩;show((s.gone t v kind x).dR v (s.q 5 t)).q 2 0=_;rw[G,(gV s t v kind x).2.2.2.2.2.2.2.2.2,gd hw]
theorem Ar{p:dz}{s:Pl}(h:Ok p s){t:Nat}(o:t∈s.lv)(hw:(s.T t).wh=none){v:B.V}(W:dN p s v):∃m,(s.back t v).q 2 0=s.q 2 0++m:=by
 by_cases e:cr s t=0
 .unfold Pl.back;rw[aj e];unfold Pl.leave;rw[px hw];have y:t∉(s.gone t v 2 v.2).lv:=by rw[(gV s t v 2 v.2).1,h.nd.mem_erase_iff];exact λh=>h.1 rfl
  have J:fS p ((s.gone t v 2 v.2).pop t) (λu=>u≠t):=(h.gone o W 2 v.2 (λ_ _ h=>h)).pop (by rw[oi,jd]) (λu i=>⟨trivial,ag i⟩);obtain⟨m,Y⟩:=oJ (v:=v) ((s.pop t).q 5 t) (J.Gt (λu i _ e=>y (e▸i))) (λu i=>(eg (iO s t v 2 v.2)).2 (h.lw.b 5 t (ab (ab (ab ⟨rfl,h.lt t o⟩))) u i).1) (λ_ _=>trivial) (by
   show v.1=0\/v∈(s.gone t v 2 v.2).kp;rw[(gV s t v 2 v.2).2.2.1];by_cases e:v.1=0
   .exact ag e
   exact ab (jK e))
  refine⟨m,Y.trans ?_⟩;show(s.gone t v 2 v.2).q 2 0++m=_;rw[(gV s t v 2 v.2).2.2.2.2.2.2.2.2.2,gd hw]
 exact⟨[],by rw[((lG s t v).2 e).2.2.2,eB]⟩
theorem Go.back{p:dz}{s:Pl}(h:Ok p s){t:Nat}(i:t∈s.lv)(hw:(s.T t).wh=none){v:B.V}(u:dN p s v):Go t 1 s (s.back t v):=by
 by_cases e:cr s t=0
 .obtain⟨k1,k2,o⟩:=(lG s t v).1 e;exact Go.ends (ag ⟨rfl,rfl⟩) i (h.lt t i) h.nd k2 k1 o (λ_=>Ar h i hw u)
 obtain⟨k1,k2,o,_⟩:=(lG s t v).2 e;exact(Go.quiet k2 k1 o (Ar h i hw u)).mono (by omega)
end F
section
theorem DX(k:Nat)(u:k<=200)(w:World):Calls prog 220 #[.int .i64 k] w λe w'=>e=.returned (vA (k+1,0))/\w.grownBy w' none:=by
 have o:IntKind.i64.wrap ((k:Int)+1)=((k:Int)+1):=by simp[IntKind.wrap,IntKind.bits,IntKind.signed];omega
 go_in;go_wp2_with fail
 refine da (v:=vA (k+1,0)) (by simp[results,results220,go_sem]) rfl ⟨rfl,?_⟩;repeat (first|exact ax _ _|refine bq ?_|refine au ?_ _|refine bp ?_ (ab (by simp)) _)
end
end Go.Proofs.YtnjiinbhbjpfkaaGreatDoor
