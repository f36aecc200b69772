import Derived.Test.YtnjiinbhbjpfkaaGreatDoorKR
import Derived.Test.YtnjiinbhbjpfkaaGreatDoorKO
set_option maxRecDepth 100000
set_option maxHeartbeats 0
set_option linter.all false
namespace Go.Proofs.YtnjiinbhbjpfkaaGreatDoor
open Go.RowKit Go.Proofs.Tryz
namespace F
theorem dQ.Aj{p:dz}{s s':Pl}{g:eE}{w w':World}{x y x2 y2 j0:Nat}{r:Option Addr×Nat}(h:dQ p s g w)(hx:6<=x/\x<=10)(hv:gu s x y 0=true)(a5:6<=x2/\x2<=10)(G:gu s x2 y2 0=true)(hj:kN j0=(x,y)/\29<=j0/\j0<44/\j0≠42)(e1:s'.nt=s.nt)(e2:s'.T=s.T)(e4:s'.kd=s.kd)(e5:s'.M=s.M)(e6:s'.ck=s.ck)(e7:s'.eY=s.eY)(e8:s'.sp=s.sp)(Z:∀a b,eQ a->(a=4\/a=5\/a=10\/a=12\/b=0)->¬(a=x/\b=y)->eH s' a b=eH s a b/\(¬(a=x2/\b=y2)->fU s' g a b=fU s g a b))(hH:Full w' p.eb 144 44 44 (ep (iJ p s g) j0 (.slice r.1 (eH s' x y) r.2)))(hR:w'.ownsRow 0 (zA x) (zB x) (.slice r.1 (eH s' x y) r.2) (eH s' x y) (fU s' g x y))(a3:¬(x2=x/\y2=y)->w'.ownsRow 0 (zA x2) (zB x2) (sl s g x2 y2) (eH s x2 y2) (fU s' g x2 y2))(hO:dy (λk=>k=p.eb\/eO (g.ro x y).1=some k\/eO (g.ro x2 y2).1=some k) w w')(hB:∀k,eO r.1=some k->eO (g.ro x y).1=some k\/w.heap.size<=k):Tr p s g w s' (g.at x y r) w':=by
 have Y:eQ x:=by unfold eQ;omega
 have i:eQ x2:=by unfold eQ;omega
 have W:∀a b,eQ a->(a=4\/a=5\/a=10\/a=12\/b=0)->¬(a=x/\b=y)->sl s' (g.at x y r) a b=sl s g a b:=λa b J hb e=>by
  unfold sl;rw[kR g r e,(Z a b J hb e).1]
 have a2:∀a b,gu s a b 0=true->eQ a->a=4\/a=5\/a=10\/a=12\/b=0:=λa b hV J=>by
  by_cases h4:a=4\/a=5\/a=10\/a=12
  .omega
  have:=(jZ hV (by unfold eQ at J;omega)).1;omega
 have a0:sl s' (g.at x y r) x y=.slice r.1 (eH s' x y) r.2:=by unfold sl;rw[qM]
 have H:∀a b c,gu s' a b c=gu s a b c:=λa b c=>nu e1 (by rw[e2]) (λ_ _=>by rw[e2]);have a1:∀a b,fU s' (g.at x y r) a b=fU s' g a b:=λ_ _=>rfl;refine h.to (λa b c=>(a=x/\b=y/\c=0)\/(a=0/\b=0/\c=0)\/(a=x2/\b=y2/\c=0)) (λ_=>(x,y,0)) (hO.mono (λk u _=>?_)) (λa b c o=>?_) (λa b c o=>?_) (λa b c k o u=>?_)
 .rcases u with rfl|u|u
  .exact⟨0,0,0,ab (ag ⟨rfl,rfl,rfl⟩),rfl⟩
  .refine⟨x,y,0,ag ⟨rfl,rfl,rfl⟩,?_⟩;rw[fR p g Y hv];exact u
  refine⟨x2,y2,0,ab (ab ⟨rfl,rfl,rfl⟩),?_⟩;rw[fR p g i G];exact u
 .refine jT (H a b c) (λhV=>lL hV ?_ (λ_=>⟨e4,?_,e5⟩) ?_ ?_ ?_ (λ_=>rfl) (λ_=>⟨rfl,rfl⟩) ?_ ?_)
  .intro ea;exact ch (ab (ag ⟨ea,jZ hV (by omega)⟩)) o
  .unfold jn;rw[e6];rfl
  .intro ea;refine⟨rfl,?_⟩;fB j
   unfold gE;rw[W 12 b (by unfold eQ;omega) (by omega) (λe=>by omega),W 5 b (by unfold eQ;omega) (by omega) (λe=>by omega),e2];rfl
  .intro ea;refine⟨rfl,?_⟩;unfold de;rw[e2];rfl
  .intro ea;refine⟨rfl,?_⟩;unfold de;rw[e2]
  .intro ea;refine⟨rfl,?_⟩;unfold ye;rw[e2];rfl
  intro J;have ec:=pW hV J;subst ec;have e:¬(a=x/\b=y):=λe=>o (ag ⟨e.1,e.2,rfl⟩);have hb:=a2 a b hV J;refine⟨kR g r e,(Z a b J hb e).1,?_⟩;rw[a1];exact(Z a b J hb e).2 (λe=>o (ab (ab ⟨e.1,e.2,rfl⟩)))
 .by_cases e0:a=x/\b=y/\c=0
  .obtain⟨rfl,rfl,rfl⟩:=e0;rw[gH (by rw[H];exact hv),gk Y];show w'.ownsRow 0 (zA a) (zB a) (sl s' (g.at a b r) a b) (eH s' a b) (fU s' (g.at a b r) a b);rw[a0,a1];exact hR
  rcases o with o|⟨rfl,rfl,rfl⟩|⟨rfl,rfl,rfl⟩
  .exact ch o e0
  .refine Full.congr hH (λj a4=>?_);rw[<-a0];exact xQ hj.1 hj.2 (λa' b' e J _ _ hb=>W a' b' J (by omega) e) e7 e8 j a4
  have e:¬(a=x/\b=y):=λe=>e0 ⟨e.1,e.2,rfl⟩;rw[gH (by rw[H];exact G),gk i];show w'.ownsRow 0 (zA a) (zB a) (sl s' (g.at x y r) a b) (eH s' a b) (fU s' (g.at x y r) a b);have hb:=a2 a b G i;rw[W a b i hb e,(Z a b i hb e).1,a1];exact a3 e
 by_cases e0:a=x/\b=y/\c=0
 .obtain⟨rfl,rfl,rfl⟩:=e0;rw[fR p _ Y (by rw[H];exact hv),qM]at u;rw[fR p g Y hv];exact(hB k u).imp id (λh=>⟨h,rfl⟩)
 rcases o with o|⟨rfl,rfl,rfl⟩|⟨rfl,rfl,rfl⟩
 .exact ch o e0
 .exact ag u
 have e:¬(a=x/\b=y):=λe=>e0 ⟨e.1,e.2,rfl⟩;rw[fR p _ i (by rw[H];exact G),kR g r e]at u;rw[fR p g i G];exact ag u
theorem dQ.yX{p:dz}{s s':Pl}{g:eE}{w w':World}{x y j0:Nat}{r:Option Addr×Nat}(h:dQ p s g w)(hx:6<=x/\x<=10)(o:gu s x y 0=true)(H:kN j0=(x,y)/\29<=j0/\j0<44/\j0≠42)(e1:s'.nt=s.nt)(J:s'.T=s.T)(e4:s'.kd=s.kd)(e5:s'.M=s.M)(e6:s'.ck=s.ck)(e7:s'.eY=s.eY)(u:s'.sp=s.sp)(i:∀a b,eQ a->(a=4\/a=5\/a=10\/a=12\/b=0)->¬(a=x/\b=y)->eH s' a b=eH s a b/\fU s' g a b=fU s g a b)(Y:Full w' p.eb 144 44 44 (ep (iJ p s g) j0 (.slice r.1 (eH s' x y) r.2)))(hR:w'.ownsRow 0 (zA x) (zB x) (.slice r.1 (eH s' x y) r.2) (eH s' x y) (fU s' g x y))(Z:dy (λk=>k=p.eb\/eO (g.ro x y).1=some k) w w')(W:∀k,eO r.1=some k->eO (g.ro x y).1=some k\/w.heap.size<=k):Tr p s g w s' (g.at x y r) w':=
 h.Aj hx o hx o H e1 J e4 e5 e6 e7 u (λa b c d e=>⟨(i a b c d e).1,λ_=>(i a b c d e).2⟩) Y hR (λe=>ch ⟨rfl,rfl⟩ e) (Z.mono (λ_ G _=>G.imp id ag)) W
theorem dQ.xR{p:dz}{s s':Pl}{g:eE}{w w':World}(h:dQ p s g w)(e1:s'.nt=s.nt)(e:s'.T=s.T)(Z:s'.kd=s.kd)(Y:s'.M=s.M)(e6:s'.ck=s.ck)(i:∀a b,eH s' a b=eH s a b/\fU s' g a b=fU s g a b)(J:Full w' p.eb 144 44 44 (iJ p s' g))(W:dy (λk=>k=p.eb) w w'):Tr p s g w s' g w':=by
 have o:∀a b,sl s' g a b=sl s g a b:=λa b=>by
  unfold sl;rw[(i a b).1]
 refine h.to (λa b c=>a=0/\b=0/\c=0) (λ_=>(0,0,0)) (W.mono (λk G _=>⟨0,0,0,⟨rfl,rfl,rfl⟩,G⟩)) (λa b c u=>?_) (λa b c u=>?_) (λa b c k u G=>?_)
 .refine jT (nu e1 (by rw[e]) (λ_ _=>by rw[e])) (λH=>lL H ?_ (λ_=>⟨Z,?_,Y⟩) ?_ ?_ ?_ (λ_=>rfl) (λ_=>⟨rfl,rfl⟩) ?_ (λ_=>⟨rfl,i a b⟩))
  .intro y;exact ch ⟨y,jZ H (by omega)⟩ u
  .unfold jn;rw[e6]
  .intro y;refine⟨rfl,?_⟩;fB j
   unfold gE;rw[o,o,e]
  .intro y;refine⟨rfl,?_⟩;unfold de;rw[e]
  .intro y;refine⟨rfl,?_⟩;unfold de;rw[e]
  intro y;refine⟨rfl,?_⟩;unfold ye;rw[e]
 .obtain⟨rfl,rfl,rfl⟩:=u;exact J
 obtain⟨rfl,rfl,rfl⟩:=u;exact ag G
theorem dQ.flag{p:dz}{s:Pl}{g:eE}{w w':World}{t:Nat}{v:oT}(h:dQ p s g w)(ht:fe s t)(Y:v.fr=(s.T t).fr)(Z:v.lf=(s.T t).lf)(hT:Full w' (g.tb t) 160 7 7 (gE p (s.dv t v) g t))(hO:dy (λk=>k=g.tb t) w w'):Tr p s g w (s.dv t v) g w':=by
 have i:∀u,((s.dv t v).T u).fr=(s.T u).fr:=λu=>by
  by_cases e:u=t
  .subst e;rw[df];exact Y
  rw[dP _ _ e]
 have o:∀u,((s.dv t v).T u).lf=(s.T u).lf:=λu=>by
  by_cases e:u=t
  .subst e;rw[df];exact Z
  rw[dP _ _ e]
 have G:∀a b,eH (s.dv t v) a b=eH s a b:=λa b=>jN rfl rfl rfl rfl rfl (by rw[i]) rfl;have y:∀a b,sl (s.dv t v) g a b=sl s g a b:=λa b=>by
  unfold sl;rw[G]
 refine h.to (λa b c=>a=11/\b=t/\c=0) (λ_=>(0,0,0)) (hO.mono (λk J _=>⟨11,t,0,⟨rfl,rfl,rfl⟩,by rw[kQ p g ht];exact J⟩)) (λa b c H=>?_) (λa b c H=>?_) (λa b c k H J=>?_)
 .refine jT (nu rfl (by rw[i]) (λ_ _=>by rw[o])) (λhV=>lL hV (λ_=>jL (λa b _ _ _ _=>y a b) rfl rfl) (λ_=>⟨rfl,rfl,rfl⟩) ?_ ?_ ?_ (λ_=>rfl) (λ_=>⟨rfl,rfl⟩) ?_ (λ_=>⟨rfl,G a b,rj rfl rfl rfl rfl rfl rfl rfl (by rw[i]) rfl⟩))
  .intro W;refine⟨rfl,?_⟩;fB j
   unfold gE;rw[y,y,dP _ _ (λe=>H ⟨W,e,(jq hV (by omega)).2⟩)]
  .intro W;refine⟨rfl,?_⟩;unfold de;rw[i]
  .intro W;refine⟨rfl,?_⟩;unfold de;rw[i]
  intro W;refine⟨rfl,?_⟩;unfold ye;rw[i,o]
 .obtain⟨rfl,rfl,rfl⟩:=H;rw[gH (show gu (s.dv b v) 11 b 0=true from gG (by omega) ht)];exact hT
 obtain⟨rfl,rfl,rfl⟩:=H;rw[kQ p g (show fe (s.dv b v) b from ht)]at J;rw[kQ p g ht];exact ag J
def Pl.dx(s:Pl)(t i:Nat)(f:gY):Pl:=s.dv t { s.T t with fr:=(s.T t).fr.set i f }
theorem ko(s:Pl){t i:Nat}(f:gY)(hi:i<(s.T t).fr.length):de (s.dx t i f) t i=f:=by
 unfold de Pl.dx;rw[df,ar,List.getElem?_set,aj rfl,aj hi];rfl
theorem jR(s:Pl){t i u j:Nat}(f:gY)(h:¬(u=t/\j=i)):de (s.dx t i f) u j=de s u j:=by
 unfold de Pl.dx;by_cases e:u=t
 .subst e;rw[df,ar,List.getElem?_set,aa (λe=>h ⟨rfl,e.symm⟩),ar]
 rw[dP _ _ e]
theorem dQ.Lo{p:dz}{s:Pl}{g:eE}{w w':World}{t i:Nat}{f:gY}(h:dQ p s g w)(ht:fe s t)(hi:i<(s.T t).fr.length)(hF:w'.heap[g.fb t i]? = some (yf p g t i f))(hR:Full w' (g.rb t i) 149 (p.rg f.f*2) (p.rg f.f*2) (eC f.R))(hO:dy (λk=>k=g.fb t i\/k=g.rb t i) w w'):Tr p s g w (s.dx t i f) g w':=by
 have o:∀u,((s.dx t i f).T u).fr.length=(s.T u).fr.length:=λu=>by
  unfold Pl.dx;by_cases e:u=t
  .subst e;rw[df];exact dq
  rw[dP _ _ e]
 have y:∀u,((s.dx t i f).T u).lf=(s.T u).lf:=λu=>by
  unfold Pl.dx;by_cases e:u=t
  .subst e;rw[df]
  rw[dP _ _ e]
 have Z:∀a b,eH (s.dx t i f) a b=eH s a b:=λa b=>jN rfl rfl rfl rfl rfl (o b) rfl;have J:∀a b,sl (s.dx t i f) g a b=sl s g a b:=λa b=>by
  unfold sl;rw[Z]
 have hv:∀a b c,gu (s.dx t i f) a b c=gu s a b c:=λa b c=>nu rfl (o b) (λ_ _=>by rw[y]);refine h.to (λa b c=>(a=13\/a=14)/\b=t/\c=i) (λ_=>(0,0,0)) (hO.mono (λk G _=>?_)) (λa b c W=>?_) (λa b c W=>?_) (λa b c k W G=>?_)
 .rcases G with G|G
  .refine⟨13,t,i,⟨ag rfl,rfl,rfl⟩,?_⟩;rw[gH (ns (by omega) ht hi)];exact G
  refine⟨14,t,i,⟨ab rfl,rfl,rfl⟩,?_⟩;rw[gH (ns (by omega) ht hi)];exact G
 .refine jT (hv a b c) (λhV=>lL hV (λ_=>jL (λa b _ _ _ _=>J a b) rfl rfl) (λ_=>⟨rfl,rfl,rfl⟩) ?_ ?_ ?_ (λ_=>rfl) (λ_=>⟨rfl,rfl⟩) ?_ (λ_=>⟨rfl,Z a b,rj rfl rfl rfl rfl rfl rfl rfl (o b) rfl⟩))
  .intro Y;refine⟨rfl,?_⟩;fB j
   unfold gE;rw[J,J,y];unfold Pl.dx;by_cases e:b=t
   .subst e;rw[df]
   rw[dP _ _ e]
  .intro Y;refine⟨rfl,?_⟩;rw[jR s f (λe=>W ⟨ag Y,e.1,e.2⟩)]
  .intro Y;refine⟨rfl,?_⟩;rw[jR s f (λe=>W ⟨ab Y,e.1,e.2⟩)]
  intro Y;refine⟨rfl,?_⟩;unfold ye;rw[o,y]
 .obtain⟨H,rfl,rfl⟩:=W;rcases H with rfl|rfl
  .rw[gH (by rw[hv];exact ns (by omega) ht hi)];show w'.heap[g.fb b c]? = some (yf p g b c (de (s.dx b c f) b c));rw[ko s f hi];exact hF
  rw[gH (by rw[hv];exact ns (by omega) ht hi)];show Full w' (g.rb b c) 149 (p.rg (de (s.dx b c f) b c).f*2) (p.rg (de (s.dx b c f) b c).f*2) (eC (de (s.dx b c f) b c).R);rw[ko s f hi];exact hR
 obtain⟨H,rfl,rfl⟩:=W;refine ag ?_;have hV:=ns H ht hi;rw[gH (by rw[hv];exact hV)]at G;rw[gH hV];rcases H with rfl|rfl
 .exact G
 exact G
theorem dQ.Kg{p:dz}{s s':Pl}{g:eE}{w w':World}{vb:Vs}(h:dQ p s g w)(e1:s'.nt=s.nt)(e:s'.T=s.T)(e3:s'.q=s.q)(e7:s'.eY=s.eY)(e8:s'.sp=s.sp)(f1:s'.lv=s.lv)(Y:s'.out=s.out)(f3:s'.kp=s.kp)(Z:s'.ev=s.ev)(f5:s'.jo=s.jo)(f6:s'.ck=vb.f.k)(hS:jm w' p.sb p.pb p.eb p.n s'.kd vb s'.M)(hO:dy (pP p.sb p.pb p.n s.kd (jn s g)) w w')(hG:ox p.n s.kd (jn s g) s'.kd vb w.heap.size):Tr p s g w s' { g with vf:=vb.f.b,cb:=vb.cb,rd:=vb.rd,ad:=vb.ad,cap:=vb.cap } w':=by
 have H:∀a b,eH s' a b=eH s a b:=λa b=>jN f1 Y f3 Z f5 (by rw[e]) (by rw[e3]);have o:jn s' { g with vf:=vb.f.b,cb:=vb.cb,rd:=vb.rd,ad:=vb.ad,cap:=vb.cap }=vb:=by unfold jn;rw[f6]
 have i:∀a b,sl s' { g with vf:=vb.f.b,cb:=vb.cb,rd:=vb.rd,ad:=vb.ad,cap:=vb.cap } a b=sl s g a b:=λa b=>by
  unfold sl;rw[H]
 refine h.to (λa b c=>a=1/\b=0/\c=0) (λ_=>(1,0,0)) (hO.mono (λk W _=>⟨1,0,0,⟨rfl,rfl,rfl⟩,W⟩)) (λa b c y=>?_) (λa b c y=>?_) (λa b c k y W=>?_)
 .refine jT (nu e1 (by rw[e]) (λ_ _=>by rw[e])) (λhV=>lL hV (λ_=>jL (λa b _ _ _ _=>i a b) e7 e8) ?_ ?_ ?_ ?_ (λ_=>rfl) (λ_=>⟨rfl,rfl⟩) ?_ (λ_=>⟨rfl,H a b,rj rfl rfl f1 Y f3 Z f5 (by rw[e]) (by rw[e3])⟩))
  .intro G;exact ch ⟨G,jZ hV (by omega)⟩ y
  .intro G;refine⟨rfl,?_⟩;fB j
   unfold gE;rw[i,i,e];rfl
  .intro G;refine⟨rfl,?_⟩;unfold de;rw[e];rfl
  .intro G;refine⟨rfl,?_⟩;unfold de;rw[e]
  intro G;refine⟨rfl,?_⟩;unfold ye;rw[e]
 .obtain⟨rfl,rfl,rfl⟩:=y;show jm w' p.sb p.pb p.eb p.n s'.kd (jn s' { g with vf:=vb.f.b,cb:=vb.cb,rd:=vb.rd,ad:=vb.ad,cap:=vb.cap }) s'.M;rw[o];exact hS
 obtain⟨rfl,rfl,rfl⟩:=y;have J:pP p.sb p.pb p.n s'.kd (jn s' { g with vf:=vb.f.b,cb:=vb.cb,rd:=vb.rd,ad:=vb.ad,cap:=vb.cap }) k:=W;rw[o]at J;rcases J with u|u|u
 .exact ag (ag u)
 .exact ag (ab (ag u))
 exact(hG k u).imp (λh=>ab (ab h)) (λh=>⟨h,rfl⟩)
theorem jb(s:Pl)(t:Nat):eH s 12 t=(s.T t).fr.length:=rfl
theorem kr(s:Pl)(g:eE)(t:Nat):fU s g 12 t=((List.range (s.T t).fr.length).map (g.fb t)).map P0:=rfl
def oT.kD(v:oT)(l:List gY):oT:={ v with fr:=l }
def Pl.push(s:Pl)(t:Nat)(f:gY):Pl:=s.dv t ((s.T t).kD ((s.T t).fr++[f]))
def eE.push(g:eE)(t m fb rb:Nat)(r:Option Addr×Nat):eE:={ g.at 12 t r with fb:=λa b=>if a=t/\b=m then fb else g.fb a b,rb:=λa b=>if a=t/\b=m then rb else g.rb a b }
theorem n9(g:eE)(t m fb rb:Nat)(r:Option Addr×Nat):(g.push t m fb rb r).fb t m=fb/\(g.push t m fb rb r).rb t m=rb:=⟨aj ⟨rfl,rfl⟩,aj ⟨rfl,rfl⟩⟩
theorem pq(g:eE){t m fb rb:Nat}{r:Option Addr×Nat}{a b:Nat}(h:¬(a=t/\b=m)):(g.push t m fb rb r).fb a b=g.fb a b/\(g.push t m fb rb r).rb a b=g.rb a b:=⟨aa h,aa h⟩
theorem vj(s:Pl)(t:Nat)(f:gY):de (s.push t f) t (s.T t).fr.length=f:=by
 unfold de Pl.push;rw[df];show((s.T t).fr++[f]).getD _ _=f;simp
theorem nI(s:Pl){t u i:Nat}(f:gY)(h:u=t->i<(s.T t).fr.length):de (s.push t f) u i=de s u i:=by
 unfold de Pl.push;by_cases e:u=t
 .subst e;rw[df];show((s.T u).fr++[f]).getD _ _=_;rw[ar,du (h rfl),ar]
 rw[dP _ _ e]
theorem dQ.push{p:dz}{s:Pl}{g:eE}{w w':World}{t fb rb:Nat}{f:gY}{r:Option Addr×Nat}(h:dQ p s g w)(ht:fe s t)(aC:(s.T t).lf=none)(hT:Full w' (g.tb t) 160 7 7 (ep (gE p s g t) 1 (.slice r.1 ((s.T t).fr.length+1) r.2)))(hK:w'.ownsRow 0 184 1 (.slice r.1 ((s.T t).fr.length+1) r.2) ((s.T t).fr.length+1) (((List.range (s.T t).fr.length).map (g.fb t)).map P0++[P0 fb]))(hF:w'.heap[fb]? = some (ij (p.cb f.f) (p.len f.f) f.nx rb (p.rg f.f) (wj p g t (s.T t).fr.length f.bk)))(hR:Full w' rb 149 (p.rg f.f*2) (p.rg f.f*2) (eC f.R))(hO:dy (λk=>k=g.tb t\/eO (g.ro 12 t).1=some k) w w')(n1:w.heap.size<=fb)(n2:w.heap.size<=rb)(hB:∀k,eO r.1=some k->eO (g.ro 12 t).1=some k\/w.heap.size<=k):Tr p s g w (s.push t f) (g.push t (s.T t).fr.length fb rb r) w':=by
 generalize hm:(s.T t).fr.length=m at *;have y:∀u,u≠t->(s.push t f).T u=s.T u:=λu e=>dP _ _ e;have J:(s.push t f).T t=(s.T t).kD ((s.T t).fr++[f]):=df _ _ _;have Y:((s.push t f).T t).fr.length=m+1:=by rw[J];show((s.T t).fr++[f]).length=_;rw[bo,hm];rfl
 have a8:∀a b,¬(a=12/\b=t)->(g.push t m fb rb r).ro a b=g.ro a b:=λa b e=>kR g r e;have a3:(g.push t m fb rb r).ro 12 t=r:=qM g 12 t r;have a9:∀a b,¬(a=12/\b=t)->eH (s.push t f) a b=eH s a b:=λa b e=>by
  by_cases eb:b=t
  .have o:a≠12:=λo=>e ⟨o,eb⟩;unfold eH;simp only[aa o];rfl
  exact jN rfl rfl rfl rfl rfl (by rw[y b eb]) rfl
 have H:∀a b,¬(a=t/\b=m)->(g.push t m fb rb r).fb a b=g.fb a b:=λa b e=>(pq g e).1;have aB:∀a b,¬(a=12/\b=t)->fU (s.push t f) (g.push t m fb rb r) a b=fU s g a b:=λa b e=>by
  by_cases o:a=12
  .subst o;have eb:b≠t:=λeb=>e ⟨rfl,eb⟩;rw[kr,kr,y b eb];have:=fB λi=>H b i (λe=>eb e.1);rw[this]
  unfold fU;simp only[aa o];rfl
 have a0:∀a b,¬(a=12/\b=t)->sl (s.push t f) (g.push t m fb rb r) a b=sl s g a b:=λa b e=>by
  unfold sl;rw[a8 a b e,a9 a b e]
 have a1:sl (s.push t f) (g.push t m fb rb r) 12 t=.slice r.1 (m+1) r.2:=by
  unfold sl;rw[a3,jb,Y]
 have a2:∀k,eO r.1=some k->k≠fb/\k≠rb:=λk G=>by
  obtain⟨_,_,cu,h1⟩:=dA hK k (by rw[dr];exact G);refine⟨dW h1 hF (by decide),?_⟩;obtain⟨aD,h2,_⟩:=hR;exact dW h1 h2 (by decide)
 have a6:rb≠fb:=by
  obtain⟨aD,h2,_⟩:=hR;exact dW h2 hF (by decide)
 have aA:∀a b c,¬((a=13\/a=14)/\b=t/\c=m)->gu (s.push t f) a b c=gu s a b c:=λa b c e=>by
  by_cases eb:b=t
  .by_cases o:a=13\/a=14
   .have ec:c≠m:=λec=>e ⟨o,eb,ec⟩;unfold gu;rw[aa (by omega),aa (by omega),aa (by omega),aa (by omega),aj o,aa (by omega),aa (by omega),aa (by omega),aa (by omega),aj o];have e1:((s.push t f).T b).fr.length=m+1:=by rw[eb];exact Y
    have e2:(s.T b).fr.length=m:=by rw[eb];exact hm
    rw[e1,e2];have a4:(s.push t f).nt=s.nt:=rfl;rw[a4];by_cases hc:c<m
    .have:c<m+1:=by omega
     simp[hc,this]
    have:¬c<m+1:=by omega
    simp[hc,this]
   unfold gu;have a4:(s.push t f).nt=s.nt:=rfl;rw[a4,aa o];by_cases aE:a=17
   .have:((s.push t f).T b).lf=(s.T b).lf:=by rw[eb,J];rfl
    rw[this,aa o]
   simp only[aa aE,aa o]
  exact nu rfl (by rw[y b eb]) (λ_ _=>by rw[y b eb])
 refine h.to (λa b c=>(a=11/\b=t/\c=0)\/(a=12/\b=t/\c=0)\/((a=13\/a=14)/\b=t/\c=m)) (λk=>if k=fb then(13,t,m) else if k=rb then(14,t,m) else(12,t,0)) (hO.mono (λk G _=>?_)) (λa b c hC=>?_) (λa b c hC=>?_) (λa b c k hC G=>?_)
 .rcases G with G|G
  .exact⟨11,t,0,ag ⟨rfl,rfl,rfl⟩,by rw[kQ p g ht];exact G⟩
  exact⟨12,t,0,ab (ag ⟨rfl,rfl,rfl⟩),by rw[fR p g (by unfold eQ;omega) (gG (by omega) ht)];exact G⟩
 .refine jT (aA a b c (λe=>hC (ab (ab e)))) (λhV=>lL hV (λ_=>jL (λa b _ _ e _=>a0 a b (λhh=>e hh.1)) rfl rfl) (λ_=>⟨rfl,rfl,rfl⟩) ?_ ?_ ?_ (λ_=>rfl) (λ_=>⟨rfl,rfl⟩) ?_ ?_)
  .intro o;have eb:b≠t:=λe=>hC (ag ⟨o,e,(jq hV (by omega)).2⟩);refine⟨rfl,?_⟩;fB j
   unfold gE;rw[a0 12 b (λe=>eb e.2),a0 5 b (λe=>by omega),y b eb];rfl
  .intro o;subst o;obtain⟨hb,hc⟩:=lI hV (by omega);have e0:¬(b=t/\c=m):=λe=>hC (ab (ab ⟨ag rfl,e.1,e.2⟩));refine⟨H b c e0,?_⟩;rw[nI s f (λe=>by subst e;exact hc)];unfold yf wj;have e1:(g.push t m fb rb r).rb b c=g.rb b c:=(pq g e0).2;have e2:=H b (c-1) (λe=>by
    have h1:(s.T b).fr.length=m:=by rw[e.1];exact hm
    omega)
   rw[e1,e2];rfl
  .intro o;subst o;obtain⟨hb,hc⟩:=lI hV (by omega);have e0:¬(b=t/\c=m):=λe=>hC (ab (ab ⟨ab rfl,e.1,e.2⟩));exact⟨(pq g e0).2,nI s f (λe=>by subst e;exact hc)⟩
  .intro o;subst o;have hl:=(ld hV).2.2;have eb:b≠t:=λe=>by rw[e,aC]at hl;cases hl
   refine⟨rfl,?_⟩;unfold ye;rw[y b eb,H b _ (λe=>eb e.1)];rfl
  intro ha;have e:¬(a=12/\b=t):=λe=>hC (ab (ag ⟨e.1,e.2,pW hV ha⟩));exact⟨a8 a b e,a9 a b e,aB a b e⟩
 .rcases hC with⟨rfl,rfl,rfl⟩|⟨rfl,rfl,rfl⟩|⟨W,rfl,rfl⟩
  .rw[gH (show gu (s.push b f) 11 b 0=true from gG (by omega) ht)];refine Full.congr hT (λj hj=>?_);have hc:j=0\/j=1\/j=2\/j=3\/j=4\/j=5\/j=6:=by omega
   rcases hc with rfl|rfl|rfl|rfl|rfl|rfl|rfl
   .rfl
   .exact a1.symm
   .show Value.bool (s.T b).run=Value.bool ((s.push b f).T b).run;rw[J];rfl
   .show x8 p g (s.T b).wh=x8 p (g.push b m fb rb r) ((s.push b f).T b).wh;rw[J];rfl
   .show Ba g b (s.T b).lf=Ba (g.push b m fb rb r) b ((s.push b f).T b).lf;rw[J];rfl
   .show Value.int .i64 (s.T b).iL=Value.int .i64 ((s.push b f).T b).iL;rw[J];rfl
   exact(a0 5 b (λe=>by omega)).symm
  .rw[gH (show gu (s.push b f) 12 b 0=true from gG (by omega) ht),gk (by unfold eQ;omega)];show w'.ownsRow 0 184 1 (sl (s.push b f) (g.push b m fb rb r) 12 b) (eH (s.push b f) 12 b) (fU (s.push b f) (g.push b m fb rb r) 12 b);rw[a1,jb,kr,Y,eA,eP,eP];have e1:(List.range m).map ((g.push b m fb rb r).fb b)=(List.range m).map (g.fb b):=List.map_congr_left (λi hi=>H b i (λe=>by have:=eJ.1 hi;omega));have e2:([m].map ((g.push b m fb rb r).fb b)).map P0=[P0 fb]:=by show[P0 ((g.push b m fb rb r).fb b m)]=_;rw[(n9 g b m fb rb r).1]
   rw[e1,e2];exact hK
  have a5:gu (s.push b f) a b c=true:=ns W ht (by rw[Y];omega);rw[gH a5];have a7:de (s.push b f) b c=f:=by rw[<-hm];exact vj s b f
  rcases W with rfl|rfl
  .show w'.heap[(g.push b c fb rb r).fb b c]? = some (yf p (g.push b c fb rb r) b c (de (s.push b f) b c));rw[a7,(n9 g b c fb rb r).1];unfold yf;rw[(n9 g b c fb rb r).2];have:wj p (g.push b c fb rb r) b c f.bk=wj p g b c f.bk:=by
    unfold wj;by_cases h0:c=0
    .rw[aj h0,aj h0];rfl
    rw[aa h0,aa h0,H b (c-1) (λe=>by omega)];rfl
   rw[this];exact hF
  show Full w' ((g.push b c fb rb r).rb b c) 149 (p.rg (de (s.push b f) b c).f*2) (p.rg (de (s.push b f) b c).f*2) (eC (de (s.push b f) b c).R);rw[a7,(n9 g b c fb rb r).2];exact hR
 rcases hC with⟨rfl,rfl,rfl⟩|⟨rfl,rfl,rfl⟩|⟨W,rfl,rfl⟩
 .rw[kQ p _ (show fe (s.push b f) b from ht)]at G;rw[kQ p g ht];exact ag G
 .rw[fR p _ (by unfold eQ;omega) (show gu (s.push b f) 12 b 0=true from gG (by omega) ht),a3]at G;rw[fR p g (by unfold eQ;omega) (gG (by omega) ht)];refine(hB k G).imp id (λh=>⟨h,?_⟩);rw[aa (a2 k G).1,aa (a2 k G).2]
 have a5:gu (s.push b f) a b c=true:=ns W ht (by rw[Y];omega);rw[gH a5]at G;rcases W with rfl|rfl
 .have Z:k=(g.push b c fb rb r).fb b c:=G;rw[(n9 g b c fb rb r).1]at Z;subst Z;exact ab ⟨n1,aj rfl⟩
 have Z:k=(g.push b c fb rb r).rb b c:=G;rw[(n9 g b c fb rb r).2]at Z;subst Z;exact ab ⟨n2,by rw[aa a6,aj rfl]⟩
def Pl.pop(s:Pl)(t:Nat):Pl:=s.dv t ((s.T t).kD (s.T t).fr.dropLast)
theorem oa(s:Pl){t u i:Nat}(h:u=t->i+1<(s.T t).fr.length):de (s.pop t) u i=de s u i:=by
 unfold de Pl.pop;by_cases e:u=t
 .subst e;rw[df];show(s.T u).fr.dropLast.getD _ _=_;have:=h rfl;rw[ar,List.getElem?_dropLast,aj (by omega),ar]
 rw[dP _ _ e]
theorem dQ.pop{p:dz}{s:Pl}{g:eE}{w w':World}{t m:Nat}(h:dQ p s g w)(ht:fe s t)(a6:(s.T t).lf=none)(hm:(s.T t).fr.length=m+1)(hT:Full w' (g.tb t) 160 7 7 (ep (gE p s g t) 1 (.slice (g.ro 12 t).1 m (g.ro 12 t).2)))(hK:w'.ownsRow 0 184 1 (.slice (g.ro 12 t).1 m (g.ro 12 t).2) m (((List.range m).map (g.fb t)).map P0))(hO:dy (λk=>k=g.tb t\/eO (g.ro 12 t).1=some k) w w'):Tr p s g w (s.pop t) g w':=by
 have o:∀u,u≠t->(s.pop t).T u=s.T u:=λu e=>dP _ _ e;have y:(s.pop t).T t=(s.T t).kD (s.T t).fr.dropLast:=df _ _ _;have a0:((s.pop t).T t).fr.length=m:=by rw[y];show(s.T t).fr.dropLast.length=_;rw[ef,hm];rfl
 have a2:∀a b,¬(a=12/\b=t)->eH (s.pop t) a b=eH s a b:=λa b e=>by
  by_cases eb:b=t
  .have i:a≠12:=λi=>e ⟨i,eb⟩;unfold eH;simp only[aa i];rfl
  exact jN rfl rfl rfl rfl rfl (by rw[o b eb]) rfl
 have a5:∀a b,¬(a=12/\b=t)->fU (s.pop t) g a b=fU s g a b:=λa b e=>by
  by_cases i:a=12
  .subst i;have eb:b≠t:=λeb=>e ⟨rfl,eb⟩;rw[kr,kr,o b eb]
  unfold fU;simp only[aa i];rfl
 have H:∀a b,¬(a=12/\b=t)->sl (s.pop t) g a b=sl s g a b:=λa b e=>by
  unfold sl;rw[a2 a b e]
 have W:sl (s.pop t) g 12 t=.slice (g.ro 12 t).1 m (g.ro 12 t).2:=by
  unfold sl;rw[jb,a0]
 have a4:∀a b c,¬((a=13\/a=14)/\b=t/\c=m)->gu (s.pop t) a b c=gu s a b c:=λa b c e=>by
  by_cases eb:b=t
  .by_cases i:a=13\/a=14
   .have ec:c≠m:=λec=>e ⟨i,eb,ec⟩;unfold gu;rw[aa (by omega),aa (by omega),aa (by omega),aa (by omega),aj i,aa (by omega),aa (by omega),aa (by omega),aa (by omega),aj i];have e1:((s.pop t).T b).fr.length=m:=by rw[eb];exact a0
    have e2:(s.T b).fr.length=m+1:=by rw[eb];exact hm
    rw[e1,e2];have a1:(s.pop t).nt=s.nt:=rfl;rw[a1];by_cases hc:c<m
    .have:c<m+1:=by omega
     simp[hc,this]
    have:¬c<m+1:=by omega
    simp[hc,this]
   unfold gu;have a1:(s.pop t).nt=s.nt:=rfl;rw[a1,aa i];by_cases a7:a=17
   .have:((s.pop t).T b).lf=(s.T b).lf:=by rw[eb,y];rfl
    rw[this,aa i]
   simp only[aa a7,aa i]
  exact nu rfl (by rw[o b eb]) (λ_ _=>by rw[o b eb])
 have a3:∀a,a=13\/a=14->¬gu (s.pop t) a t m=true:=λa ha Y=>by
  have:=(lI Y ha).2;omega
 refine h.to (λa b c=>(a=11/\b=t/\c=0)\/(a=12/\b=t/\c=0)\/((a=13\/a=14)/\b=t/\c=m)) (λ_=>(0,0,0)) (hO.mono (λk G _=>?_)) (λa b c J=>?_) (λa b c J=>?_) (λa b c k J G=>?_)
 .rcases G with G|G
  .exact⟨11,t,0,ag ⟨rfl,rfl,rfl⟩,by rw[kQ p g ht];exact G⟩
  exact⟨12,t,0,ab (ag ⟨rfl,rfl,rfl⟩),by rw[fR p g (by unfold eQ;omega) (gG (by omega) ht)];exact G⟩
 .refine jT (a4 a b c (λe=>J (ab (ab e)))) (λY=>lL Y (λ_=>jL (λa b _ _ e _=>H a b (λhh=>e hh.1)) rfl rfl) (λ_=>⟨rfl,rfl,rfl⟩) ?_ ?_ ?_ (λ_=>rfl) (λ_=>⟨rfl,rfl⟩) ?_ ?_)
  .intro i;have eb:b≠t:=λe=>J (ag ⟨i,e,(jq Y (by omega)).2⟩);refine⟨rfl,?_⟩;fB j
   unfold gE;rw[H 12 b (λe=>eb e.2),H 5 b (λe=>by omega),o b eb]
  .intro i;subst i;obtain⟨hb,hc⟩:=lI Y (by omega);refine⟨rfl,?_⟩;rw[oa s (λe=>by
    subst e;have:c≠m:=λe=>J (ab (ab ⟨ag rfl,rfl,e⟩));omega)]
  .intro i;subst i;obtain⟨hb,hc⟩:=lI Y (by omega);exact⟨rfl,oa s (λe=>by
    subst e;have:c≠m:=λe=>J (ab (ab ⟨ab rfl,rfl,e⟩));omega)⟩
  .intro i;subst i;have hl:=(ld Y).2.2;have eb:b≠t:=λe=>by rw[e,a6]at hl;cases hl
   refine⟨rfl,?_⟩;unfold ye;rw[o b eb]
  intro ha;have e:¬(a=12/\b=t):=λe=>J (ab (ag ⟨e.1,e.2,pW Y ha⟩));exact⟨rfl,a2 a b e,a5 a b e⟩
 .rcases J with⟨rfl,rfl,rfl⟩|⟨rfl,rfl,rfl⟩|⟨Z,rfl,rfl⟩
  .rw[gH (show gu (s.pop b) 11 b 0=true from gG (by omega) ht)];refine Full.congr hT (λj hj=>?_);have hc:j=0\/j=1\/j=2\/j=3\/j=4\/j=5\/j=6:=by omega
   rcases hc with rfl|rfl|rfl|rfl|rfl|rfl|rfl
   .rfl
   .exact W.symm
   .show Value.bool (s.T b).run=Value.bool ((s.pop b).T b).run;rw[y];rfl
   .show x8 p g (s.T b).wh=x8 p g ((s.pop b).T b).wh;rw[y];rfl
   .show Ba g b (s.T b).lf=Ba g b ((s.pop b).T b).lf;rw[y];rfl
   .show Value.int .i64 (s.T b).iL=Value.int .i64 ((s.pop b).T b).iL;rw[y];rfl
   exact(H 5 b (λe=>by omega)).symm
  .rw[gH (show gu (s.pop b) 12 b 0=true from gG (by omega) ht),gk (by unfold eQ;omega)];show w'.ownsRow 0 184 1 (sl (s.pop b) g 12 b) (eH (s.pop b) 12 b) (fU (s.pop b) g 12 b);rw[W,jb,kr,a0];exact hK
  rw[vq (a3 a Z)];exact trivial
 rcases J with⟨rfl,rfl,rfl⟩|⟨rfl,rfl,rfl⟩|⟨Z,rfl,rfl⟩
 .rw[kQ p _ (show fe (s.pop b) b from ht)]at G;rw[kQ p g ht];exact ag G
 .rw[fR p _ (by unfold eQ;omega) (show gu (s.pop b) 12 b 0=true from gG (by omega) ht)]at G;rw[fR p g (by unfold eQ;omega) (gG (by omega) ht)];exact ag G
 rw[vq (a3 a Z)]at G;exact G.elim
def oT.mW(v:oT)(k:Nat×Nat×Nat×Nat):oT:={ v with lf:=some k }
def qR:oT:=⟨[],false,none,none,0⟩
def Pl.new(s:Pl):Pl:={ s with nt:=s.nt+1,T:=λi=>if i=s.nt+1 then qR else s.T i,q:=λa b=>if a=5/\b=s.nt+1 then[] else s.q a b }
def eE.new(g:eE)(t tb xe xt:Nat):eE:={ g with tb:=λi=>if i=t then tb else g.tb i,xe:=λi=>if i=t then xe else g.xe i,xt:=λi=>if i=t then xt else g.xt i,ro:=λa b=>if(a=5\/a=12)/\b=t then(none,0) else g.ro a b }
theorem mi(s:Pl){t:Nat}(h:t≠s.nt+1):s.new.T t=s.T t:=aa h
theorem lM(s:Pl):s.new.T (s.nt+1)=qR:=aj rfl
theorem qA(s:Pl){a b:Nat}(h:¬(a=5/\b=s.nt+1)):s.new.q a b=s.q a b:=aa h
theorem s9(s:Pl):s.new.q 5 (s.nt+1)=[]:=aj ⟨rfl,rfl⟩
theorem G7(s:Pl):s.new.nt=s.nt+1:=rfl
theorem mm(g:eE){t tb xe xt u:Nat}(h:u≠t):(g.new t tb xe xt).tb u=g.tb u/\(g.new t tb xe xt).xe u=g.xe u/\(g.new t tb xe xt).xt u=g.xt u:=⟨aa h,aa h,aa h⟩
theorem jP(g:eE)(t tb xe xt:Nat):(g.new t tb xe xt).tb t=tb/\(g.new t tb xe xt).xe t=xe/\(g.new t tb xe xt).xt t=xt:=⟨aj rfl,aj rfl,aj rfl⟩
theorem vD(g:eE){t tb xe xt a b:Nat}(h:¬((a=5\/a=12)/\b=t)):(g.new t tb xe xt).ro a b=g.ro a b:=aa h
theorem Dx(g:eE){t tb xe xt a:Nat}(h:a=5\/a=12):(g.new t tb xe xt).ro a t=(none,0):=aj ⟨h,rfl⟩
theorem EP(s:Pl){a b c:Nat}(Y:¬((a=5\/a=11\/a=12\/a=15\/a=16)/\b=s.nt+1/\c=0)):gu s.new a b c=gu s a b c:=by
 unfold gu;rw[G7];by_cases o:a<=1\/a=2\/a=3\/(6<=a/\a<=9)\/a=18
 .rw[aj o,aj o]
 rw[aa o,aa o];by_cases u:a=4\/a=10
 .rw[aj u,aj u]
 rw[aa u,aa u];by_cases i:a=5\/a=11\/a=12\/a=15\/a=16
 .rw[aj i,aj i];have:¬(b=s.nt+1/\c=0):=λe=>Y ⟨i,e⟩;apply decide_eq_decide.2
  omega
 rw[aa i,aa i];by_cases H:b=s.nt+1
 .subst H;rw[lM];have G:¬(1<=s.nt+1/\s.nt+1<=s.nt/\c=0):=by omega
  have y:¬(1<=s.nt+1/\s.nt+1<=s.nt/\c<(s.T (s.nt+1)).fr.length):=by omega
  have J:¬(1<=s.nt+1/\s.nt+1<=s.nt+1/\c<qR.fr.length):=by
   show ¬(_/\_/\c<0);omega
  rw[fi G,fi y,fi J];have W:qR.lf.isSome=false:=rfl;rw[W];simp
 rw[mi s H];have G:decide (1<=b/\b<=s.nt+1/\c=0)=decide (1<=b/\b<=s.nt/\c=0):=decide_eq_decide.2 (by omega);have y:decide (1<=b/\b<=s.nt+1/\c<(s.T b).fr.length)=decide (1<=b/\b<=s.nt/\c<(s.T b).fr.length):=decide_eq_decide.2 (by omega);rw[G,y]
structure MW(s:Pl):Prop where
 a:∀x y,fz s x y->∀t,t∈s.q x y->fe s t
 b:∀t,t∈s.lv->fe s t
 c:∀t,fe s t->∀x y,(s.T t).wh=some (x,y)->fz s x y
theorem BQ{s:Pl}{x y:Nat}(h:gu s x y 0=true)(hx:2<=x/\x<=5):fz s x y:=by
 by_cases i:x=2
 .exact ag ⟨i,(jZ h (by omega)).1⟩
 by_cases e:x=3
 .exact ab (ag ⟨e,(jZ h (by omega)).1⟩)
 by_cases o:x=4
 .exact ab (ab (ag ⟨o,(yk h (by omega)).1⟩))
 exact ab (ab (ab ⟨by omega,(jq h (by omega)).1⟩))
theorem G4{p:dz}{s:Pl}{g:eE}{tb xe xt:Nat}(hM:MW s){a b c:Nat}(hC:¬((a=5\/a=11\/a=12\/a=15\/a=16)/\b=s.nt+1/\c=0)):ob p s.new (g.new (s.nt+1) tb xe xt) a b c=ob p s g a b c:=by
 have i:∀{t},fe s t->t≠s.nt+1:=λh=>by have:=h.2;omega
 have u:∀{t},fe s t->(g.new (s.nt+1) tb xe xt).tb t=g.tb t:=λh=>(mm g (i h)).1;have a0:∀a b,¬((a=5\/a=12)/\b=s.nt+1)->eH s.new a b=eH s a b:=λa b e=>by
  unfold eH;by_cases G:a=12
  .rw[mi s (λeb=>e ⟨ab G,eb⟩),qA s (λY=>by omega)];rfl
  rw[qA s (λY=>e ⟨ag Y.1,Y.2⟩)];simp only[aa G];rfl
 have J:∀a b,¬((a=5\/a=12)/\b=s.nt+1)->sl s.new (g.new (s.nt+1) tb xe xt) a b=sl s g a b:=λa b e=>by
  unfold sl;rw[vD g e,a0 a b e]
 refine jT (EP s hC) (λH=>lL H ?_ (λ_=>⟨rfl,rfl,rfl⟩) ?_ ?_ ?_ ?_ ?_ ?_ ?_)
 .intro _;exact jL (λa b _ e5 W _=>J a b (λe=>e.1.elim e5 W)) rfl rfl
 .intro G;have o:=(jq H (by omega)).1;have eb:=i o;refine⟨u o,?_⟩;fB j
  unfold gE;rw[J 12 b (λe=>eb e.2),J 5 b (λe=>eb e.2),mi s eb];have hw:x8 p (g.new (s.nt+1) tb xe xt) (s.T b).wh=x8 p g (s.T b).wh:=by
   cases hwh:(s.T b).wh with
   | none=>rfl
   | some xy=>
    obtain⟨x,y⟩:=xy;show Pt (tP p (g.new (s.nt+1) tb xe xt) x y) (wg x y)=Pt (tP p g x y) (wg x y);unfold tP;by_cases Z:x=5
    .rw[aj Z,aj Z,u (mO (hM.c b o x y hwh) Z)]
    rw[aa Z,aa Z]
  rw[hw];rfl
 .intro G;have o:=(lI H (by omega)).1;refine⟨rfl,?_⟩;have e1:de s.new b c=de s b c:=by unfold de;rw[mi s (i o)]
  rw[e1];unfold yf wj;rw[(mm g (i o)).2.1,(mm g (i o)).2.2,u o];rfl
 .intro G;have o:=(lI H (by omega)).1;refine⟨rfl,?_⟩;unfold de;rw[mi s (i o)]
 .intro G;exact(mm g (i (jq H (by omega)).1)).2.1
 .intro G;have o:=(jq H (by omega)).1;exact⟨(mm g (i o)).2.2,u o⟩
 .intro G;subst G;have o:=(ld H).1;refine⟨rfl,?_⟩;unfold ye;rw[mi s (i o),u o];rfl
 intro ha;have ec:=pW H ha;subst ec;have e:¬((a=5\/a=12)/\b=s.nt+1):=λe=>hC ⟨by omega,e.2,rfl⟩;refine⟨vD g e,a0 a b e,?_⟩;by_cases G:2<=a/\a<=5
 .have hl:=BQ H G;rw[nL _ _ hl,nL _ _ hl,qA s (λY=>e ⟨ag Y.1,Y.2⟩)];congr 1
  exact List.map_congr_left (λt ht=>u (hM.a a b hl t ht))
 unfold fU;by_cases e6:a=6
 .simp only[aj e6];congr 1
  exact List.map_congr_left (λt ht=>u (hM.b t ht))
 by_cases W:a=12
 .subst W;have o:=(jq H (by omega)).1;simp only[aa e6];rw[mi s (i o)];rfl
 obtain⟨r1,r2,r3⟩:=ha;have:a=7\/a=8\/a=9\/a=10:=by omega
 rcases this with rfl|rfl|rfl|rfl<;>rfl
theorem zC{s:Pl}{g:eE}(l:List se)(a b:Nat)(_:eQ a)(i:a=4\/a=5\/a=10\/a=12\/b=0)(h:¬(a=9/\b=0)):eH { s with ev:=l } a b=eH s a b/\fU { s with ev:=l } g a b=fU s g a b:=by
 have e:a≠9:=by omega
 exact⟨by unfold eH;simp only[aa e],by unfold fU;simp only[aa e]⟩
theorem kF(a:Option Addr)(n c k:Nat):(Value.slice a n c).ownBlock=some k↔eO a=some k:=by rw[dr]
def Pl.told(s:Pl)(kind t:Nat)(x:Int):Pl:={ s with ev:=s.ev++[(kind,t,x)] }
theorem B4{p:dz}{s:Pl}{g:eE}{w:World}{t:Nat}(kind:Nat)(x:Int)(h:dQ p s g w)(ht:fe s t)(hn:s.ev.length<=100000): Calls prog 173 #[P0 p.eb,.int .i64 kind,P0 (g.tb t),.int .i64 x] w λe w'=>e=.returned (.tuple #[])/\∃r,Tr p s g w (s.told kind t x) (g.at 9 0 r) w':=by
 have o:gu s 9 0 0=true:=iq (by omega);refine(IU p.eb (g.tb t) kind t x (g.ro 9 0).1 s.ev.length (g.ro 9 0).2 s.ev (iJ p s g) (gE p s g t) w h.E rfl (h.tk ht) rfl (h.row (x:=9) (y:=0) (by unfold eQ;omega) o) hn).mono ?_;rintro e w' ⟨rfl,gb,c,J,Y,W,u⟩;have G:eH (s.told kind t x) 9 0=s.ev.length+1:=by show(s.ev++[(kind,t,x)]).length=_;rw[bo];rfl
 refine⟨rfl,(some ⟨gb,0,none⟩,c),h.yX (j0:=43) (by omega) o (by decide) rfl rfl rfl rfl rfl rfl rfl (λa b c d e=>zC _ a b c d e) ?_ ?_ (W.mono (λk i _=>?_)) (λk i=>?_)⟩
 .rw[G];exact Y
 .rw[G];exact J
 .rw[kF]at i;exact i
 have e:gb=k:=by injection i
 subst e;rw[kF]at u;exact u
def gY.set(f:gY)(a:Nat)(v:B.V):gY:={ f with R:=B.set f.R a v }
theorem DE{p:dz}{s:Pl}{g:eE}{w:World}(h:dQ p s g w){t i:Nat}(ht:fe s t)(hi:i<(s.T t).fr.length):g.fb t i≠g.rb t i:=by
 obtain⟨u,o,_⟩:=h.rg ht hi;exact λe=>dW o (h.fr ht hi) (by decide) e.symm
theorem wP{p:dz}{s:Pl}{g:eE}{w:World}{t i a:Nat}(op b c tb eb:Nat)(v:B.V)(h:dQ p s g w)(ht:fe s t)(hi:i<(s.T t).fr.length)(y:a<p.rg (de s t i).f): Calls prog 149 #[dZ op a b c (g.fb t i) tb eb,vA v] w λe w'=>e=.returned (.tuple #[])/\Tr p s g w (s.dx t i ((de s t i).set a v)) g w':=by
 refine(js op a b c (g.fb t i) tb eb _ _ _ _ _ _ (de s t i).R v w (h.fr ht hi) (h.rg ht hi) y).mono ?_;rintro e w' ⟨rfl,o,u⟩;refine⟨rfl,h.Lo ht hi ?_ u (jg o (ab rfl))⟩;exact cm o (h.fr ht hi) (by intro e;injection e with e;exact DE h ht hi e)
theorem LX{p:dz}{s:Pl}{g:eE}{w w':World}{t i:Nat}{f:gY}(h:dQ p s g w)(ht:fe s t)(hi:i<(s.T t).fr.length)(e:f.f=(de s t i).f)(u:f.bk=(de s t i).bk)(o:Fr w' (g.fb t i) (p.cb (de s t i).f) (p.len (de s t i).f) f.nx (g.rb t i) (p.rg (de s t i).f) (wj p g t i (de s t i).bk) f.R)(y:dy (λk=>k=g.fb t i\/k=g.rb t i) w w'):Tr p s g w (s.dx t i f) g w':=by
 refine h.Lo ht hi ?_ ?_ y
 .unfold yf;rw[e,u];exact o.1
 rw[e];exact o.2.1
theorem dQ.Fr{p:dz}{s:Pl}{g:eE}{w:World}{t i:Nat}(h:dQ p s g w)(ht:fe s t)(hi:i<(s.T t).fr.length):Fr w (g.fb t i) (p.cb (de s t i).f) (p.len (de s t i).f) (de s t i).nx (g.rb t i) (p.rg (de s t i).f) (wj p g t i (de s t i).bk) (de s t i).R:=⟨h.fr ht hi,h.rg ht hi,DE h ht hi⟩
theorem EA{w:World}{i size n:Nat}{e:TypeId}{v:Value}{xs:List Value}(h:w.ownsRow i e size v n xs):∃a c,v=.slice a n c:=by
 rcases h.2 with⟨o,y⟩|⟨g,c,u,o,_⟩
 .exact⟨none,0,by rw[o,y]⟩
 exact⟨_,_,o⟩
def Pl.kU(s:Pl)(j:Nat)(v:B.V):Pl:={ s with out:=s.out.set j v,kp:=iV s.kp v }
theorem Ez{s:Pl}{g:eE}(j:Nat)(v:B.V)(a b:Nat)(_:eQ a)(o:a=4\/a=5\/a=10\/a=12\/b=0)(h:¬(a=8/\b=0)):eH (s.kU j v) a b=eH s a b/\(¬(a=7/\b=0)->fU (s.kU j v) g a b=fU s g a b):=by
 have e:a≠8:=by omega
 by_cases i:a=7
 .subst i;refine⟨?_,λh=>ch ⟨rfl,by omega⟩ h⟩;show(s.out.set j v).length=s.out.length;exact dq
 exact⟨by unfold eH Pl.kU;simp only[aa e,aa i],λ_=>by unfold fU Pl.kU;simp only[aa e,aa i]⟩
theorem Jp{p:dz}{s:Pl}{g:eE}{w:World}{j:Nat}(v:B.V)(h:dQ p s g w)(hj:j<s.out.length)(hm:s.out.length<=1000000000)(i:s.kp.length<=1000000): Calls prog 211 #[P0 p.eb,.int .i64 ((j:Int)+1),vA v] w λe w'=>e=.returned (.tuple #[])/\∃r,Tr p s g w (s.kU j v) (g.at 8 0 r) w':=by
 have u:gu s 7 0 0=true:=iq (by omega);have G:gu s 8 0 0=true:=iq (by omega);have h7:=h.row (x:=7) (y:=0) (by unfold eQ;omega) u;have a0:eH s 7 0=s.out.length:=rfl;obtain⟨ob,W,Z⟩:=dM h7 (by rw[a0];omega);have o:sl s g 7 0=.slice (some ⟨ob,0,none⟩) s.out.length W:=Z;have J:g.ro 7 0=(some ⟨ob,0,none⟩,W):=by
  unfold sl at o;injection o with a b c;exact fV a c
 refine(Jq p.eb ob s.out.length W j s.kp.length (g.ro 8 0).2 (g.ro 8 0).1 v s.out s.kp (iJ p s g) w h.E o (by rw[<-o];exact h7) rfl (h.row (x:=8) (y:=0) (by unfold eQ;omega) G) hj hm i (λx hx=>?_)).mono ?_
 .rw[kF]at hx;exact h.ne (x:=8) (y:=0) (z:=0) (x':=7) (y':=0) (z':=0) (by rw[fR p g (by unfold eQ;omega) G];exact hx) (by rw[fR p g (by unfold eQ;omega) u,J];rfl) (by omega)
 rintro e w' ⟨rfl,vv,k1,k2,k3,k4,H⟩;obtain⟨a',c',rfl⟩:=EA k3;refine⟨rfl,(a',c'),h.Aj (x2:=7) (y2:=0) (j0:=31) (by omega) G (by omega) u (by decide) rfl rfl rfl rfl rfl rfl rfl (λa b c d e=>Ez j v a b c d e) k1 k3 (λ_=>?_) (k4.mono (λk i _=>?_)) (λk i=>?_)⟩
 .rw[o];exact k2
 .rw[kF]at i;rw[J];rcases i with i|i|i
  .exact ag i
  .exact ab (ab (by rw[i];rfl))
  exact ab (ag i)
 rw[dr,dr]at H;rcases H with H|⟨gb,H,k6⟩
 .exact ag (by rw[<-H];exact i)
 rw[H]at i;have e:gb=k:=by injection i
 exact ab (by omega)
theorem LW.same{s s':Pl}(h:LW s)(hn:s'.nt=s.nt)(e:s'.q=s.q)(hw:∀u,(s'.T u).wh=(s.T u).wh):LW s':=by
 refine⟨λt ht x y o=>?_,λx y i t ht=>?_,λx y i=>?_,by rw[hn];exact h.d⟩
 .rw[hw]at o;have:=h.a t ((eg hn).1 ht) x y o;exact⟨(fQ hn).2 this.1,by rw[e];exact this.2.1,this.2.2⟩
 .rw[e]at ht;have:=h.b x y ((fQ hn).1 i) t ht;exact⟨(eg hn).2 this.1,by rw[hw];exact this.2⟩
 rw[e];exact h.c x y ((fQ hn).1 i)
theorem gd{s:Pl}{t:Nat}(h:(s.T t).wh=none):s.dw t=s:=by unfold Pl.dw;rw[h]
theorem fN{s:Pl}{t x y:Nat}(h:(s.T t).wh=some (x,y)):s.dw t=(s.eZ x y ((s.q x y).erase t)).dv t (s.T t).off:=by unfold Pl.dw;rw[h]
theorem jd(s:Pl)(t:Nat):((s.dw t).T t).wh=none:=by
 cases h:(s.T t).wh with
 | none=>rw[gd h];exact h
 | some e=>rw[fN (x:=e.1) (y:=e.2) h,df];rfl
theorem sX(s:Pl){t u:Nat}(h:u≠t):(s.dw t).T u=s.T u:=by
 cases hw:(s.T t).wh with
 | none=>rw[gd hw]
 | some e=>rw[fN (x:=e.1) (y:=e.2) hw,dP _ _ h];rfl
theorem LW.dw{s:Pl}(h:LW s){t:Nat}(ht:fe s t):LW (s.dw t):=by
 cases hw:(s.T t).wh with
 | none=>rw[gd hw];exact h
 | some xy=>
  obtain⟨x,y⟩:=xy;obtain⟨hl,hm,a0⟩:=h.a t ht x y hw;rw[fN hw];have hn:((s.eZ x y ((s.q x y).erase t)).dv t (s.T t).off).nt=s.nt:=rfl;refine⟨λu Z a b o=>?_,λa b J u Z=>?_,λa b J=>?_,h.d⟩
  .have e:u≠t:=λe=>by
    subst e;rw[df]at o
    cases o
   rw[dP _ _ e]at o;obtain⟨k1,k2,k3⟩:=h.a u ((eg hn).1 Z) a b o;refine⟨(fQ hn).2 k1,?_,k3⟩;show u∈(s.eZ x y ((s.q x y).erase t)).q a b;by_cases i:a=x/\b=y
   .obtain⟨rfl,rfl⟩:=i;rw[fX];exact(List.mem_erase_of_ne e).2 k2
   rw[fL _ _ i];exact k2
  .have G:u∈(s.eZ x y ((s.q x y).erase t)).q a b:=Z;have H:=(fQ hn).1 J;by_cases i:a=x/\b=y
   .obtain⟨rfl,rfl⟩:=i;rw[fX]at G;have Y:=(h.c a b hl).mem_erase_iff.1 G;rw[dP _ _ Y.1];exact h.b a b H u Y.2
   rw[fL _ _ i]at G;have hb:=h.b a b H u G;have e:u≠t:=λe=>by
    subst e;have W:=hb.2;rw[hw]at W;injection W with W;injection W with W h3;exact i ⟨W.symm,h3.symm⟩
   rw[dP _ _ e];exact hb
  show((s.eZ x y ((s.q x y).erase t)).q a b).Nodup;have H:=(fQ hn).1 J;by_cases i:a=x/\b=y
  .obtain⟨rfl,rfl⟩:=i;rw[fX];exact(h.c a b hl).erase _
  rw[fL _ _ i];exact h.c a b H
def Pl.pG(s:Pl)(x y t:Nat)(l:List Nat):Pl:=(s.eZ x y l).dv t ((s.T t).to x y)
def Pl.into(s:Pl)(x y t:Nat)(l:List Nat):Pl:=(s.dw t).pG x y t l
theorem yM(s:Pl)(x y t:Nat):s.dV x y t=s.into x y t ((s.dw t).q x y++[t]):=rfl
theorem LW.pG{s:Pl}(h:LW s){x y t:Nat}{l:List Nat}(ht:fe s t)(hw:(s.T t).wh=none)(hl:fz s x y)(a1:¬(x=5/\y=t))(hd:l.Nodup)(hm:∀u,u∈l↔(u∈s.q x y\/u=t)):LW (s.pG x y t l):=by
 have hn:(s.pG x y t l).nt=s.nt:=rfl;have hq:∀a b,¬(a=x/\b=y)->(s.pG x y t l).q a b=s.q a b:=λa b e=>fL s l e;have o:(s.pG x y t l).q x y=l:=fX s x y l;have a0:(s.pG x y t l).T t=(s.T t).to x y:=df _ _ _;have hT:∀u,u≠t->(s.pG x y t l).T u=s.T u:=λu e=>dP _ _ e;refine⟨λu Y a b i=>?_,λa b W u Y=>?_,λa b W=>?_,h.d⟩
 .by_cases e:u=t
  .subst e;rw[a0]at i;injection i with i;injection i with h1 J;subst h1 J;exact⟨(fQ hn).2 hl,by rw[o];exact(hm u).2 (ab rfl),a1⟩
  rw[hT u e]at i;obtain⟨k1,k2,k3⟩:=h.a u ((eg hn).1 Y) a b i;refine⟨(fQ hn).2 k1,?_,k3⟩;by_cases H:a=x/\b=y
  .obtain⟨rfl,rfl⟩:=H;rw[o];exact(hm u).2 (ag k2)
  rw[hq a b H];exact k2
 .have G:=(fQ hn).1 W;by_cases H:a=x/\b=y
  .obtain⟨rfl,rfl⟩:=H;rw[o]at Y;rcases(hm u).1 Y with h1|rfl
   .have Z:=h.b a b G u h1;have e:u≠t:=λe=>by
     subst e;have J:=Z.2;rw[hw]at J
     cases J
    rw[hT u e];exact Z
   refine⟨ht,?_⟩;rw[a0];rfl
  rw[hq a b H]at Y;have Z:=h.b a b G u Y;have e:u≠t:=λe=>by
   subst e;have J:=Z.2;rw[hw]at J
   cases J
  rw[hT u e];exact Z
 have G:=(fQ hn).1 W;by_cases H:a=x/\b=y
 .obtain⟨rfl,rfl⟩:=H;rw[o];exact hd
 rw[hq a b H];exact h.c a b G
theorem LW.into{s:Pl}(h:LW s){x y t:Nat}{l:List Nat}(ht:fe s t)(G:fz s x y)(e:¬(x=5/\y=t))(i:l.Nodup)(o:∀u,u∈l↔(u∈(s.dw t).q x y\/u=t)):LW (s.into x y t l):=
 (h.dw ht).pG ((eg (fO s t)).2 ht) (jd s t) ((fQ (fO s t)).2 G) e i o
theorem LW.out{s:Pl}(h:LW s){x y t:Nat}(i:fz s x y)(hw:(s.T t).wh≠some (x,y)):t∉s.q x y:=λe=>hw (h.b x y i t e).2
theorem oQ{l:List Nat}{t:Nat}(h:l.Nodup)(ht:t∉l):(l++[t]).Nodup:=by
 rw[List.nodup_append];refine⟨h,by simp,λa o b i=>?_⟩;simp at i;subst i;exact λe=>ht (e▸o)
theorem LW.dV{s:Pl}(h:LW s){x y t:Nat}(ht:fe s t)(H:fz s x y)(o:¬(x=5/\y=t)):LW (s.dV x y t):=by
 have G:=h.dw ht;have i:=(fQ (fO s t)).2 H;exact h.into ht H o (oQ (G.c x y i) (G.out i (by rw[jd];intro e;cases e))) (λu=>by simp)
theorem iX(s:Pl)(x y t:Nat):(s.dV x y t).nt=s.nt:=fO s t
theorem oh(s:Pl){x y t u:Nat}(h:u≠t):(s.dV x y t).T u=s.T u:=by
 rw[yM];exact(dP _ _ h).trans (sX s h)
theorem Df(s:Pl)(x y t u:Nat):((s.dV x y t).T u).fr=(s.T u).fr:=by
 by_cases e:u=t
 .subst e;show(((((s.dw u).eZ x y _).dv u _).T u).fr)=_;rw[df];exact ku s u u
 rw[oh s e]
theorem nO(s:Pl)(x y t:Nat):(s.dV x y t).T t=((s.dw t).T t).to x y:=df _ _ _
theorem xB(s:Pl)(x y t:Nat):((s.dV x y t).T t).wh=some (x,y):=by rw[nO];rfl
theorem gJ{s s':Pl}{t i:Nat}(h:(s'.T t).fr=(s.T t).fr):de s' t i=de s t i:=by unfold de;rw[h]
def WW(p:dz)(s:Pl):Prop:=∀t,fe s t->∀x y,(s.T t).wh=some (x,y)->(x=4\/x=5)->∃k,(s.T t).lf=some k/\(s.T t).fr≠[]/\k.2.1<p.rg (de s t ((s.T t).fr.length-1)).f
def cr(s:Pl)(t:Nat):Nat:=(s.T t).fr.length-1
def Pl.fJ(s:Pl)(t:Nat)(v:B.V):Pl:=match (s.T t).lf with
 | none=>s
 | some k=>(s.dx t (cr s t) ((de s t (cr s t)).set k.2.1 v)).dV 2 0 t
theorem nC(s:Pl){t i u:Nat}(f:gY)(h:u≠t):(s.dx t i f).T u=s.T u:=dP _ _ h
theorem gj(s:Pl)(t i u:Nat)(f:gY):((s.dx t i f).T u).wh=(s.T u).wh/\((s.dx t i f).T u).lf=(s.T u).lf/\((s.dx t i f).T u).run=(s.T u).run/\((s.dx t i f).T u).iL=(s.T u).iL/\((s.dx t i f).T u).fr.length=(s.T u).fr.length:=by
 by_cases e:u=t
 .subst e;unfold Pl.dx;rw[df];exact⟨rfl,rfl,rfl,rfl,dq⟩
 rw[nC s f e];exact⟨rfl,rfl,rfl,rfl,rfl⟩
theorem LW.dx{s:Pl}(h:LW s)(t i:Nat)(f:gY):LW (s.dx t i f):=h.same rfl rfl (λu=>(gj s t i u f).1)
theorem yj(s:Pl){t u:Nat}(v:B.V)(h:u≠t):(s.fJ t v).T u=s.T u:=by
 unfold Pl.fJ;split
 .rfl
 rw[oh _ h,nC _ _ h]
theorem mH(s:Pl)(t:Nat)(v:B.V):(s.fJ t v).nt=s.nt:=by
 unfold Pl.fJ;split
 .rfl
 rw[iX];rfl
theorem nT{s:Pl}{t:Nat}{k:Nat×Nat×Nat×Nat}(v:B.V)(h:(s.T t).lf=some k):s.fJ t v=(s.dx t (cr s t) ((de s t (cr s t)).set k.2.1 v)).dV 2 0 t:=by unfold Pl.fJ;rw[h]
theorem LW.fJ{s:Pl}(h:LW s){t:Nat}(ht:fe s t)(v:B.V):LW (s.fJ t v):=by
 unfold Pl.fJ;split
 .exact h
 exact(h.dx t _ _).dV ht (ag ⟨rfl,rfl⟩) (by omega)
theorem WW.fJ{p:dz}{s:Pl}(h:WW p s){t:Nat}(v:B.V)(H:(s.T t).lf≠none):WW p (s.fJ t v):=by
 intro u G x y i o;by_cases e:u=t
 .subst e;exfalso
  unfold Pl.fJ at i;split at i
  .rename_i J;exact H J
  rw[xB]at i;injection i with i;injection i with i _;omega
 rw[yj s v e]at i ⊢;have:=h u ((eg (mH s t v)).1 G) x y i o;rw[gJ (s:=s) (by rw[yj s v e])];exact this
theorem IF{p:dz}{s:Pl}{g:eE}{w:World}{t:Nat}{k:Nat×Nat×Nat×Nat}(v:B.V)(h:dQ p s g w)(hW:LW s)(ht:fe s t)(H:(s.T t).lf=some k)(o:(s.T t).fr≠[])(Y:k.2.1<p.rg (de s t (cr s t)).f)(u:(s.T t).wh≠some (2,0)): Calls prog 207 #[vA v,P0 (g.sx t)] w λe w'=>e=.returned (.tuple #[])/\∃r,Tr p s g w (s.fJ t v) (g.at 2 0 r) w':=by
 have W:(s.T t).fr.length≠0:=λe=>o (cf.1 e);have hi:cr s t<(s.T t).fr.length:=by unfold cr;omega
 refine IG k.1 k.2.1 k.2.2.1 k.2.2.2 (g.fb t (cr s t)) (g.tb t) p.eb (g.sx t) _ _ _ _ _ _ (de s t (cr s t)).R v (λw2=>∃r,Tr p s g w (s.fJ t v) (g.at 2 0 r) w2) w (h.sx ht H) (h.fr ht hi) (h.rg ht hi) Y h.E.lt ?_;intro w1 i G;have J:Tr p s g w (s.dx t (cr s t) ((de s t (cr s t)).set k.2.1 v)) g w1:=
  h.Lo ht hi (cm i (h.fr ht hi) (by intro e;injection e with e;exact DE h ht hi e)) G (jg i (ab rfl))
 refine(xA (x:=2) (y:=0) J.r (hW.dx _ _ _) (ag ⟨rfl,rfl⟩) ht (by omega) (by rw[(gj s t _ t _).1];exact u)).mono ?_;rintro e w2 ⟨rfl,r,Z⟩;refine⟨rfl,r,?_⟩;rw[nT v H];exact J.trans Z
def Pl.wait(s:Pl)(x y t:Nat)(k:Nat×Nat×Nat×Nat):Pl:=(s.dV x y t).dv t (((s.dV x y t).T t).mW k)
def oT.stop(v:oT):oT:={ v with run:=false }
def Pl.dR(s:Pl)(v:B.V):List Nat->Pl
 | []=>s
 | t :: l=>(s.fJ t v).dR v l
def Pl.gone(s:Pl)(t:Nat)(v:B.V)(kind:Nat)(x:Int):Pl:=(({ (s.dw t).dv t ((s.dw t).T t).stop with lv:=s.lv.erase t }:Pl).kU (t-1) v).told kind t x
def Pl.leave(s:Pl)(t:Nat)(v:B.V)(kind:Nat)(x:Int):Pl:=(s.gone t v kind x).dR v (s.q 5 t)
theorem qy(v:B.V):∀(l m:List Nat) (s:Pl),s.dR v (l++m)=(s.dR v l).dR v m
 | [],_,_=>rfl
 | _ :: l,m,_=>qy v l m _
theorem gz(s:Pl)(t:Nat):(s.dw t).lv=s.lv/\(s.dw t).out=s.out/\(s.dw t).kp=s.kp/\(s.dw t).ev=s.ev/\(s.dw t).jo=s.jo/\(s.dw t).sp=s.sp/\(s.dw t).eY=s.eY/\(s.dw t).kd=s.kd/\(s.dw t).M=s.M/\(s.dw t).ck=s.ck:=by
 unfold Pl.dw;split<;>exact⟨rfl,rfl,rfl,rfl,rfl,rfl,rfl,rfl,rfl,rfl⟩
theorem mR(s:Pl){t u:Nat}(v:B.V)(kind:Nat)(x:Int)(h:u≠t):(s.gone t v kind x).T u=s.T u:=by
 show((s.dw t).dv t _).T u=_;rw[dP _ _ h,sX s h]
theorem iO(s:Pl)(t:Nat)(v:B.V)(kind:Nat)(x:Int):(s.gone t v kind x).nt=s.nt:=fO s t
theorem oi(s:Pl)(t:Nat)(v:B.V)(kind:Nat)(x:Int)(u:Nat):((s.gone t v kind x).T u).wh=((s.dw t).T u).wh:=by
 show(((s.dw t).dv t _).T u).wh=_;by_cases e:u=t
 .subst e;rw[df];rfl
 rw[dP _ _ e]
theorem LW.gone{s:Pl}(h:LW s){t:Nat}(ht:fe s t)(v:B.V)(kind:Nat)(x:Int):LW (s.gone t v kind x):=(h.dw ht).same rfl rfl (λu=>oi s t v kind x u)
theorem yS{s:Pl}(h:LW s){t:Nat}(ht:fe s t)(v:B.V)(kind:Nat)(x:Int):(s.gone t v kind x).q 5 t=s.q 5 t:=by
 show(s.dw t).q 5 t=_;exact vn s (λe=>(h.a t ht 5 t e).2.2 ⟨rfl,rfl⟩)
theorem WW.gone{p:dz}{s:Pl}(h:WW p s){t:Nat}(v:B.V)(kind:Nat)(x:Int):WW p (s.gone t v kind x):=by
 intro u y a b i o;by_cases e:u=t
 .subst e;rw[oi,jd]at i
  cases i
 rw[mR s v kind x e]at i ⊢;have:=h u ((eg (iO s t v kind x)).1 y) a b i o;rw[gJ (s:=s) (by rw[mR s v kind x e])];exact this
theorem Gr{s:Pl}{t:Nat}{x y:Nat}(hw:(s.T t).wh=some (x,y))(v:B.V)(o:(s.T t).lf≠none)(i:¬(x=2/\y=0)):(s.fJ t v).q x y=(s.q x y).erase t:=by
 cases hk:(s.T t).lf with
 | none=>exact ch hk o
 | some k=>
  rw[nT v hk];show(((s.dx t (cr s t) ((de s t (cr s t)).set k.2.1 v)).dw t).eZ 2 0 _).q x y=_;rw[fL _ _ (λe=>i e),fN (x:=x) (y:=y) (by rw[(gj s t _ t _).1];exact hw)];exact fX _ _ _ _
theorem kB{f:Nat->Nat}:∀(l:List Nat),l.Nodup->(∀a,a∈l->∀b,b∈l->f a=f b->a=b)->(l.map f).Nodup
 | [],_,_=>List.nodup_nil
 | a :: l,hd,h=>by
  rw[List.map_cons,List.nodup_cons];rw[List.nodup_cons]at hd;refine⟨λu=>?_,kB l hd.2 (λa o b i=>h a (by simp[o]) b (by simp[i]))⟩;obtain⟨b,i,e⟩:=ek.1 u;exact hd.1 (by rw[h a (by simp) b (by simp[i]) e.symm];exact i)
theorem C9{p:dz}{s:Pl}{g:eE}{w:World}{t:Nat}(v:B.V)(kind:Nat)(x:Int)(h:dQ p s g w)(hW:LW s)(bD:WW p s)(ht:fe s t)(aH:t∈s.lv)(bB:s.lv.Nodup)(aE:∀u,u∈s.lv->fe s u)(ho:s.out.length=s.nt)(hk:s.kp.length<=1000000)(bG:s.ev.length<=100000): Calls prog 175 #[P0 p.eb,P0 (g.tb t),vA v,.int .i64 kind,.int .i64 x] w λe w'=>e=.returned (.tuple #[])/\∃g',Tr p s g w (s.leave t v kind x) g' w':=by
 have hd:=hW.d;have bN:s.lv.length<=500000000:=dH (gn s.nt s.lv bB aE) hd;have b4:∀{w1:World} {s1:Pl} {g1:eE} {w2:World},w.grownBy w1 none->x7 w1 w.heap.size (g.tb t) v->Tr p s g w1 s1 g1 w2->x7 w2 w.heap.size (g.tb t) v/\¬ey p s1 g1 w.heap.size/\¬ey p s1 g1 (w.heap.size+1):=λhg hL h2=>by
  have a:=h2.other hL.1 (λhm=>by have:=h.lt hm;omega);have b:=h2.other hL.2 (λhm=>by have:=h.lt hm;omega);exact⟨⟨a.1,b.1⟩,a.2,b.2⟩
 have hS:∀{s1 s2:Pl} {g1 g2:eE} {w1 w2:World},(x7 w1 w.heap.size (g.tb t) v/\¬ey p s1 g1 w.heap.size/\¬ey p s1 g1 (w.heap.size+1))->Tr p s1 g1 w1 s2 g2 w2->(x7 w2 w.heap.size (g.tb t) v/\¬ey p s2 g2 w.heap.size/\¬ey p s2 g2 (w.heap.size+1)):=λi h2=>by
  have a:=h2.other i.1.1 i.2.1;have b:=h2.other i.1.2 i.2.2;exact⟨⟨a.1,b.1⟩,a.2,b.2⟩
 let s1:=s.dw t
 let s1':=s1.dv t (s1.T t).stop
 let s2:Pl:={ s1' with lv:=s.lv.erase t }
 let s3:=s2.kU (t-1) v
 have hn1:s1.nt=s.nt:=fO s t;have aU:=(eg hn1).2 ht;have b8:s3.nt=s.nt:=hn1;have a8:s1.lv=s.lv:=(gz s t).1
 obtain⟨G,cl,a6⟩:∃G cl,g.ro 6 0=(some ⟨G,0,none⟩,cl):=by
  obtain⟨G,cl,he⟩:=dM (h.row (x:=6) (y:=0) (by unfold eQ;omega) (iq (by omega))) (by show s.lv.length≠0;exact λe=>by rw[cf]at e;rw[e]at aH;cases aH);unfold sl at he;injection he with a b c;exact⟨G,cl,fV a c⟩
 let S1:World->Prop:=λw1=>Tr p s g w s1 g w1/\(x7 w1 w.heap.size (g.tb t) v/\¬ey p s1 g w.heap.size/\¬ey p s1 g (w.heap.size+1))
 let S2:Value->World->Prop:=λlv w2=>lv=.slice (some ⟨G,0,none⟩) (s.lv.length-1) cl/\∃w1,Tr p s g w s1' g w1/\(x7 w1 w.heap.size (g.tb t) v/\¬ey p s1' g w.heap.size/\¬ey p s1' g (w.heap.size+1))/\w1.grownBy w2 (some G)/\w2.ownsRow 0 155 1 (.slice (some ⟨G,0,none⟩) (s.lv.length-1) cl) (s.lv.length-1) (((s.lv.erase t).map g.tb).map P0)
 let S3:World->Prop:=λw3=>∃g3,Tr p s g w s3 g3 w3/\g3.tb=g.tb/\g3.sx=g.sx/\(x7 w3 w.heap.size (g.tb t) v/\¬ey p s3 g3 w.heap.size/\¬ey p s3 g3 (w.heap.size+1))
 have flag:∀w1,S1 w1->Tr p s g w s1' g (w1.setCell ⟨g.tb t,2,none⟩ (.bool false))/\(x7 (w1.setCell ⟨g.tb t,2,none⟩ (.bool false)) w.heap.size (g.tb t) v/\¬ey p s1' g w.heap.size/\¬ey p s1' g (w.heap.size+1)):=by
  rintro w1 ⟨Z,aO⟩;have h2:Tr p s1 g w1 s1' g (w1.setCell ⟨g.tb t,2,none⟩ (.bool false)):=by
   refine Z.r.flag aU rfl rfl ?_ (bm (S:=λk=>k=g.tb t) (dk _ _) (ag rfl) _);refine((Z.r.tk aU).ep 2 (.bool false)).congr (λj hj=>?_);have aC:(s1.dv t (s1.T t).stop).T t=(s1.T t).stop:=df _ _ _;have hc:j=0\/j=1\/j=2\/j=3\/j=4\/j=5\/j=6:=by omega
   have bE:sl (s1.dv t (s1.T t).stop) g 12 t=sl s1 g 12 t:=by unfold sl;rw[jb,jb,aC];rfl
   rcases hc with rfl|rfl|rfl|rfl|rfl|rfl|rfl
   .rfl
   .exact bE.symm
   .show Value.bool false=Value.bool ((s1.dv t (s1.T t).stop).T t).run;rw[aC];rfl
   .show x8 p g (s1.T t).wh=x8 p g ((s1.dv t (s1.T t).stop).T t).wh;rw[aC];rfl
   .show Ba g t (s1.T t).lf=Ba g t ((s1.dv t (s1.T t).stop).T t).lf;rw[aC];rfl
   .show Value.int .i64 (s1.T t).iL=Value.int .i64 ((s1.dv t (s1.T t).stop).T t).iL;rw[aC];rfl
   rfl
  exact⟨Z.trans h2,hS aO h2⟩
 have aK:∀lv w2,S2 lv w2->Tr p s g w s2 (g.at 6 0 (some ⟨G,0,none⟩,cl)) (w2.setCell ⟨p.eb,29,none⟩ lv)/\(x7 (w2.setCell ⟨p.eb,29,none⟩ lv) w.heap.size (g.tb t) v/\¬ey p s2 (g.at 6 0 (some ⟨G,0,none⟩,cl)) w.heap.size/\¬ey p s2 (g.at 6 0 (some ⟨G,0,none⟩,cl)) (w.heap.size+1)):=by
  rintro lv w2 ⟨rfl,w1,Z,aO,aP,bC⟩;have b6:=eL bC (Z.r.E.block (aP.block _ Z.r.E.lt (λe=>by
   injection e with e;have a7:=Z.r.row (x:=6) (y:=0) (by unfold eQ;omega) (iq (by omega));unfold sl at a7;rw[a6]at a7;exact eL a7 Z.r.E (by decide) G rfl e.symm))) (by decide) G rfl
  have b9:eH s2 6 0=s.lv.length-1:=List.length_erase_of_mem aH;have h2:Tr p s1' g w1 s2 (g.at 6 0 (some ⟨G,0,none⟩,cl)) (w2.setCell ⟨p.eb,29,none⟩ (.slice (some ⟨G,0,none⟩) (s.lv.length-1) cl)):=by
   refine Z.r.yX (j0:=29) (by omega) (iq (by omega)) (by decide) rfl rfl rfl rfl rfl rfl rfl (λa b c d e=>?_) ?_ ?_ ?_ (λk hk=>ag (by rw[a6];exact hk))
   .have ea:a≠6:=by omega
    exact⟨by unfold eH;simp only[aa ea];rfl,by unfold fU;simp only[aa ea];rfl⟩
   .rw[b9];exact (Z.r.E.block (aP.block _ Z.r.E.lt (λe=>by injection e with e;exact b6 e.symm))).ep 29 _
   .rw[b9];exact dD bC (λk hk=>af _ _ _ _ (by
     have e:G=k:=by injection hk
     rw[<-e];exact b6))
   refine bm (jg aP (ab (by rw[a6];rfl))) (ag (ag rfl)) _
  exact⟨Z.trans h2,hS aO h2⟩
 let s4:=s3.told kind t x
 have aW:LW s4:=hW.gone ht v kind x;have aX:WW p s4:=bD.gone v kind x;obtain⟨aS,b3⟩:∃aS:Nat->Nat,∀u,fe s u->aS (g.tb u)=g.sx u:=by
  classical
  refine⟨λb=>if i:∃u,fe s u/\g.tb u=b then g.sx i.choose else 0,λu hu=>?_⟩;have i:∃u',fe s u'/\g.tb u'=g.tb u:=⟨u,hu,rfl⟩;show(if i:∃u',fe s u'/\g.tb u'=g.tb u then g.sx i.choose else 0)=g.sx u;rw[dif_pos i,h.ny i.choose_spec.1 hu i.choose_spec.2]
 let I:List Nat->World->Prop:=λbs w4=>∃H ys g4,bs=ys.map g.tb/\s.q 5 t=H++ys/\Tr p s g w (s4.dR v H) g4 w4/\g4.tb=g.tb/\g4.sx=g.sx/\LW (s4.dR v H)/\WW p (s4.dR v H)/\(s4.dR v H).q 5 t=ys/\(s4.dR v H).nt=s.nt/\(x7 w4 w.heap.size (g.tb t) v/\¬ey p (s4.dR v H) g4 w.heap.size/\¬ey p (s4.dR v H) g4 (w.heap.size+1))
 have aG:∀{s':Pl},s'.nt=s.nt->fz s' 5 t:=λe=>ab (ab (ab ⟨rfl,(eg e).2 ht⟩));refine(Hc p.eb (g.tb t) kind t s.lv.length cl x v (some ⟨G,0,none⟩) S1 S3 S2 I aS ((s.q 5 t).map g.tb) w ?_ ?_ ?_ ?_ ?_ ?_ ?_ ?_ ?_).mono ?_
 .intro w1 hg hL;refine(ss (h.kept hg) hW ht).mono ?_;rintro e w2 ⟨rfl,h2⟩;exact⟨rfl,h2.ahead hg,b4 hg hL h2⟩
 .intro w1 Z;have hf:=flag w1 Z;refine⟨Z.2.1,⟨_,Z.1.r.tk aU⟩,?_,Z.1.r.E.lt⟩;rw[hf.1.r.E.cell 29 (by omega)];show some (sl s1' g 6 0)=_;unfold sl;rw[a6];show some (Value.slice _ s1.lv.length _)=_;rw[a8]
 .intro w1 Z;obtain⟨a5,Y⟩:=flag w1 Z;generalize w1.setCell ⟨g.tb t,2,none⟩ (.bool false)=W at *;have hr:=a5.r.row (x:=6) (y:=0) (by unfold eQ;omega) (iq (by omega));have bF:W.ownsRow 0 155 1 (.slice (some ⟨G,0,none⟩) s.lv.length cl) s.lv.length ((s.lv.map g.tb).map P0):=by
   have e1:sl s1' g 6 0=.slice (some ⟨G,0,none⟩) s.lv.length cl:=by unfold sl;rw[a6];show Value.slice _ s1.lv.length _=_;rw[a8]
   have e2:eH s1' 6 0=s.lv.length:=(by show s1.lv.length=_;rw[a8]);have e3:fU s1' g 6 0=(s.lv.map g.tb).map P0:=by show(s1.lv.map g.tb).map P0=_;rw[a8]
   rw[e1,e2,e3]at hr;exact hr
  have aJ:s1'.nt=s.nt:=hn1;refine(I9 G cl s.lv.length (g.tb t) w.heap.size (s.lv.map g.tb) W bF (by omega) (kB _ bB (λa ha b i e=>h.ny (aE a ha) (aE b i) e)) ?_ (bz Y.1.1) (λe=>Y.2.1 ⟨6,0,0,?_⟩) (a5.r.tk ((eg aJ).2 ht)).xV (λz hz=>?_) (List.mem_map_of_mem aH)).mono ?_
  .have:=Y.1.1;simp[World.cell?,this]
  .rw[fR p g (by unfold eQ;omega) (iq (by omega)),a6,e];rfl
  .obtain⟨u,hu,rfl⟩:=ek.1 hz;exact(a5.r.tk ((eg aJ).2 (aE u hu))).xV
  rintro e w2 ⟨rfl,k1,k2⟩;rw[qs _ (λb i e=>h.ny (aE b i) ht e)]at k1;exact⟨_,_,_,rfl,rfl,W,a5,Y,k2,k1⟩
 .intro lv w2 h2;obtain⟨a5,Y⟩:=aK lv w2 h2;obtain⟨_,w1,k1,_,k3,_⟩:=h2;have hT:=a5.r.tk (t:=t) ((eg (s:=s) hn1).2 ht);refine⟨Y.1,⟨iJ p s1' g,k1.r.E.block (k3.block _ k1.r.E.lt (λe=>?_))⟩,hT.cell 0 (by omega),?_⟩
  .injection e with e;have a7:=k1.r.row (x:=6) (y:=0) (by unfold eQ;omega) (iq (by omega));unfold sl at a7;rw[a6]at a7;exact eL a7 k1.r.E (by decide) G rfl e.symm
  have bA:g.tb t<(w2.setCell ⟨p.eb,29,none⟩ lv).heap.size:=hT.lt;simpa[World.setCell] using bA
 .intro lv w2 w3 h2 aL;obtain⟨a5,Y⟩:=aK lv w2 h2;have h3:=a5.kept aL;have aN:x7 w3 w.heap.size (g.tb t) v/\¬ey p s2 (g.at 6 0 (some ⟨G,0,none⟩,cl)) w.heap.size/\¬ey p s2 (g.at 6 0 (some ⟨G,0,none⟩,cl)) (w.heap.size+1):=
   ⟨⟨cm aL Y.1.1 (by intro e;cases e),cm aL Y.1.2 (by intro e;cases e)⟩,Y.2⟩
  have b1:s2.out.length=s.nt:=by show s1.out.length=_;rw[(gz s t).2.1,ho]
  have bM:s2.kp.length=s.kp.length:=by show s1.kp.length=_;rw[(gz s t).2.2.1]
  have bK:(t:Int)=((t-1:Nat):Int)+1:=by have:=ht.1;omega
  rw[bK];refine(Jp (j:=t-1) v h3.r (by rw[b1];have:=ht.2;omega) (by rw[b1];omega) (by rw[bM];exact hk)).mono ?_;rintro e w4 ⟨rfl,r,h4⟩;exact⟨rfl,_,h3.trans h4,rfl,rfl,hS aN h4⟩
 .rintro w3 ⟨g3,_,_,_,i⟩;exact i.1
 .rintro w3 ⟨g3,h3,a1,b0,aN⟩;have b2:s3.ev.length<=100000:=by show s1.ev.length<=_;rw[(gz s t).2.2.2.1];exact bG
  have o:=B4 (t:=t) kind x h3.r ((eg b8).2 ht) b2;rw[a1]at o;refine o.mono ?_;rintro e w4 ⟨rfl,r,h4⟩;exact⟨rfl,[],s.q 5 t,g3.at 9 0 r,rfl,rfl,h3.trans h4,a1,b0,aW,aX,yS hW ht v kind x,b8,hS aN h4⟩
 .rintro bs w4 ⟨H,ys,g4,rfl,a9,a0,a1,a4,aA,a2,hq,J,i⟩;have b7:=(eg J).2 ht;have aM:=a0.r.tk b7;rw[a1]at aM;have hr:=a0.r.row (x:=5) (y:=t) (by unfold eQ;omega) (gG (by omega) b7);have aY:eH (s4.dR v H) 5 t=ys.length:=by rw[mj _ (aG J),hq]
  have bJ:fU (s4.dR v H) g4 5 t=(ys.map g.tb).map P0:=by rw[nL _ _ (aG J),hq,a1]
  have aQ:w4.cell? ⟨g.tb t,6,none⟩=some (sl (s4.dR v H) g4 5 t):=aM.cell 6 (by omega);refine⟨i.1,aM.lt,λw5 hg=>⟨H,ys,g4,rfl,a9,a0.kept hg,a1,a4,aA,a2,hq,J,⟨cm hg i.1.1 (by intro e;cases e),cm hg i.1.2 (by intro e;cases e)⟩,i.2⟩,λe=>?_,λy r e=>?_⟩
  .have hy:=List.map_eq_nil_iff.1 e;refine⟨(g4.ro 5 t).1,(g4.ro 5 t).2,?_⟩;rw[aQ];unfold sl;rw[aY,hy];rfl
  cases ys with
  | nil=>cases e
  | cons u us=>
   rw[List.map_cons]at e;injection e with e1 e2;subst e1 e2;have aB:u∈(s4.dR v H).q 5 t:=by rw[hq];simp
   obtain⟨a3,aF⟩:=aA.b 5 t (aG J) u aB;obtain⟨k,aD,aV,aZ⟩:=a2 u a3 5 t aF (ab rfl);have hu:=(eg J).1 a3;rw[aY,bJ]at hr;obtain⟨qb,qc,he⟩:=dM hr (by simp);have aT:=a0.r.tk a3;rw[a1]at aT;rw[he]at hr aQ;refine⟨qb,qc,?_,?_,?_,aT.lt⟩
   .rw[dS];exact aQ
   .exact(iG hr).2.2.2.2.2 0 _ rfl
   rw[aT.cell 4 (by omega)];show some (Ba g4 u ((s4.dR v H).T u).lf)=_;rw[aD,b3 u hu,<-a4];rfl
 .rintro y r w4 ⟨H,ys,g4,he,a9,a0,a1,a4,aA,a2,hq,J,i⟩
  cases ys with
  | nil=>cases he
  | cons u us=>
   rw[List.map_cons]at he;injection he with e1 e2;subst e1 e2;have aB:u∈(s4.dR v H).q 5 t:=by rw[hq];simp
   obtain⟨a3,aF⟩:=aA.b 5 t (aG J) u aB;obtain⟨k,aD,aV,aZ⟩:=a2 u a3 5 t aF (ab rfl);have hu:=(eg J).1 a3;have o:=IF v a0.r aA a3 aD aV aZ (by rw[aF];intro e;injection e with e;injection e with e _;omega);rw[a4]at o;rw[b3 u hu];refine o.mono ?_;rintro e w5 ⟨rfl,r,h5⟩;have hw:s4.dR v (H++[u])=(s4.dR v H).fJ u v:=qy v H [u] s4;refine⟨rfl,H++[u],us,g4.at 2 0 r,rfl,by rw[a9,dY];rfl,by rw[hw];exact a0.trans h5,a1,a4,by rw[hw];exact aA.fJ a3 v,by rw[hw];exact a2.fJ v (by rw[aD];intro e;cases e),?_,by rw[hw,mH];exact J,by rw[hw];exact hS i h5⟩;rw[hw,Gr aF v (by rw[aD];intro e;cases e) (by omega),hq];simp
 rintro e w' ⟨rfl,H,ys,g4,he,a9,a0,_⟩;have hy:=List.map_eq_nil_iff.1 he.symm;refine⟨rfl,g4,?_⟩;rw[hy,eB]at a9;unfold Pl.leave;rw[a9];exact a0
