import Derived.Test.YtnjiinbhbjpfkaaGreatDoorTU
set_option maxRecDepth 100000
set_option maxHeartbeats 0
set_option linter.all false
namespace Go.Proofs.YtnjiinbhbjpfkaaGreatDoor
open Go.RowKit Go.Proofs.Tryz
namespace F
variable {d i k t x y:Nat}{e:List B.V}{f:jc}{l:List jc}{p:dL}{s s':Pl}{u v:B.V}
def fL.roots{X:Nat->Prop}(h:fL p s X)(e:s'.kd=s.kd)(u:s'.M=s.M)(o:∀v,sH p s' v->dW p s v):B.lS s'.kd p.n (eG p s') s'.M:=by
 rw[e,u];exact B.CG h.hl (λv i=>o v (iw.1 i))
theorem FW.set{p:dL}{l:List jc}(h:FW p l){i:Nat}{f:jc}(hi:i<l.length)(H:f.f=(l.getD i n6).f)(J:f.bk=(l.getD i n6).bk)(hn:f.nx<=p.len f.f):FW p (l.set i f):=by
 have y:∀j,(l.set i f).getD j n6=if j=i then f else l.getD j n6:=λj=>by
  grind
 have o:∀j,((l.set i f).getD j n6).f=(l.getD j n6).f:=λj=>by
  grind
 have G:∀j,((l.set i f).getD j n6).bk=(l.getD j n6).bk:=λj=>by
  grind
 refine⟨λe=>h.n1 ?_,eV eA h.n2,λj u=>?_,λj u=>?_⟩
 .grind
 .rw[eA]at u;refine⟨by rw[o];exact(h.f j u).1,?_⟩;rw[o,y];by_cases e:j=i
  .grind
  rw[au e];exact(h.f j u).2
 grind[List.length_set,F.FW.b]
theorem fL.dJ{p:dL}{s:Pl}{X:Nat->Prop}(h:fL p s X){t i:Nat}{f:jc}(hi:i<(s.T t).fr.length)(W:f.f=(dq s t i).f)(hb:f.bk=(dq s t i).bk)(hn:f.nx<=p.len f.f)(hR:∀a,a<p.rg f.f->dW p s (f.R a)):fL p (s.dJ t i f) X:=by
 have hw:=λu=>gI s t i u f;have G:∀u j,(dq (s.dJ t i f) u j).f=(dq s u j).f:=λu j=>by
  grind[mh,lN]
 have J:∀u,(s.T u).fr≠[]->((s.dJ t i f).T u).fr≠[]:=λu h0 e=>h0 (by
  grind)
 refine⟨h.lw.dJ t i f,λu o x y hx H=>?_,h.nd,h.lt,h.ql,λu o hl=>?_,λu o hr=>?_,h.ol,h.ok,h.kn,h.kz,λu o hX=>?_,h.roots rfl rfl ?_,h.fc,h.bt,h.c0,h.c1⟩
 .rw[(hw u).1]at hx;obtain⟨k,k1,k2,k3⟩:=h.ww u o x y hx H;grind
 .rw[(hw u).2.1]at hl;rw[(hw u).1];exact h.lf u o hl
 .rw[(hw u).2.2.1]at hr;rw[(hw u).1];exact h.rn u o hr
 .have:=h.fw u o hX;by_cases e:u=t
  .subst e;unfold Pl.dJ;rw[di];exact this.set hi W hb hn
  grind[qp]
 rintro v (⟨u,j,a,o,Z,Y,e⟩|hv)
 .rw[(hw u).2.2.2.2]at Z;rw[G]at Y;by_cases e2:u=t/\j=i
  .grind[mh]
  rw[lN s f e2]at e;exact dW.root (af ⟨u,j,a,o,Z,Y,e⟩)
 exact dW.root (ah hv)
theorem fL.oK{X:Nat->Prop}(h:fL p s X)(o:t∈s.lv)(hX:X t)(hi:i<(s.T t).fr.length)(a:Nat)(u:dW p s v):fL p (s.dJ t i ((dq s t i).set a v)) X:=by
 refine h.dJ hi rfl rfl ((h.fw t o hX).f i hi).2 (λb y=>?_);show dW p s (B.set (dq s t i).R a v b);by_cases e:b=a
 .grind[B.jN]
 rw[B.iX _ _ _ _ e];exact dW.root (af ⟨t,i,b,o,hi,y,rfl⟩)
def fL.line{X:Nat->Prop}(h:fL p s X)(Y:t∈s.lv)(hn:s'.nt=s.nt)(a4:LW s')(hT:∀u,u≠t->s'.T u=s.T u)(a0:(s'.T t).fr=(s.T t).fr)(hq:∀x y,fN s x y->∀a,a∈s'.q x y->a∈s.q x y\/a=t)(a1:s'.lv=s.lv/\s'.out=s.out/\s'.kp=s.kp/\s'.ft=s.ft/\s'.clk=s.clk/\s'.kd=s.kd/\s'.M=s.M/\s'.ck=s.ck)(hw:∀x y,(s'.T t).wh=some (x,y)->(x=4\/x=5)->∃k,(s'.T t).lf=some k/\(s.T t).fr≠[]/\k.2.1<p.rg (dq s t ((s.T t).fr.length-1)).f)(a3:(s'.T t).lf≠none->∃x y,(s'.T t).wh=some (x,y)/\(x=4\/x=5))(a2:(s'.T t).run=true->(s'.T t).wh=none):fL p s' X:=by
 obtain⟨H,f2,Z,f4,f5,f6,f7,f8⟩:=a1;have i:∀u,(s'.T u).fr=(s.T u).fr:=λu=>by
  grind
 have W:∀u j,dq s' u j=dq s u j:=λu j=>gD (i u);refine⟨a4,λu o x y hx J=>?_,eV H h.nd,λu o=>(ey hn).2 (h.lt u eR),λx y G a ha=>?_,λu o G=>?_,λu o hr=>?_,by rw[f2,hn];exact h.ol,by rw[f2,Z];exact h.ok,eV Z h.kn,eV Z h.kz,λu o hX=>?_,h.roots f6 f7 ?_,by rw[f6,f8];exact h.fc,eV f4 h.bt,eV f5 h.c0,eV f5 h.c1⟩
 .rw[i u,W];by_cases e:u=t
  .grind
  rw[hT u e]at hx ⊢;exact h.ww u ((ey hn).1 o) x y hx J
 .grind[gC,F.fL.ql]
 .by_cases e:u=t
  .grind
  rw[hT u e]at G ⊢;exact h.lf u ((ey hn).1 o) G
 .grind[ey,F.fL.rn]
 .grind[F.fL.fw]
 rintro v (⟨u,j,a,o,hj,ha,e⟩|hv)
 .rw[W]at ha e;rw[i]at hj;rw[H]at o;exact dW.root (af ⟨u,j,a,o,hj,ha,e⟩)
 rw[Z]at hv;exact dW.root (ah hv)
theorem xd{X:Nat->Prop}(h:fL p s X)(ht:fm s t):((s.dz t).T t).lf=none:=by
 cases hw:(s.T t).wh with
 | none=>
  grind[fB,F.fL.lf]
 | some i=>rw[gJ (x:=i.1) (y:=i.2) hw,di];rfl
theorem po{a:Nat}(h:a∈(s.dz t).q x y):a∈s.q x y:=by
 cases hw:(s.T t).wh with
 | none=>grind[fB]
 | some i=>
  rw[gJ (x:=i.1) (y:=i.2) hw]at h;have o:a∈(s.fF i.1 i.2 ((s.q i.1 i.2).erase t)).q x y:=h;grind[gH,List.mem_of_mem_erase,fY]
def wZ(s:Pl)(t:Nat):(s.dz t).lv=s.lv/\(s.dz t).out=s.out/\(s.dz t).kp=s.kp/\(s.dz t).ft=s.ft/\(s.dz t).clk=s.clk/\(s.dz t).kd=s.kd/\(s.dz t).M=s.M/\(s.dz t).ck=s.ck:=by
 grind[g8]
theorem fL.into{p:dL}{s:Pl}{X:Nat->Prop}(h:fL p s X){x y t:Nat}{l:List Nat}(H:t∈s.lv)(hl:fN s x y)(hx:x=2\/x=3)(hd:l.Nodup)(Z:∀u,u∈l↔(u∈(s.dz t).q x y\/u=t)):fL p (s.into x y t l) X:=by
 have ht:=h.lt t H;have G:(s.into x y t l).T t=((s.dz t).T t).to x y:=di _ _ _;refine h.line H (gg s t) (h.lw.into ht hl ag hd Z) (λu e=>(dR _ _ e).trans (uy s e)) ?_ (λa b i c hc=>?_) (wZ s t) (λa b i a0=>?_) (λJ=>?_) (λY=>?_)
 .rw[G];exact kg s t t
 .have o:c∈((s.dz t).fF x y l).q a b:=hc;grind[gH,po,fY]
 .rw[G]at i;injection i with i;grind
 .rw[G]at J;exact dp (xd h ht) J
 rw[G]at Y;cases Y
theorem fL.dY{X:Nat->Prop}(h:fL p s X)(o:t∈s.lv):fL p (s.dY 2 0 t) X:=by
 have y:=h.lw.dz (h.lt t o);have G:fN s 2 0:=af ⟨rfl,rfl⟩;have i:=(gC (gg s t)).2 G;exact h.into o G (af rfl) (qw (y.c 2 0 i) (y.out i (by grind[ke]))) (λu=>by simp)
theorem fL.wait{p:dL}{s:Pl}{X:Nat->Prop}(h:fL p s X){x y t:Nat}{k:Nat×Nat×Nat×Nat}(G:t∈s.lv)(hX:X t)(hl:fN s x y)(hx:x=4\/x=5)(Y:¬(x=5/\y=t))(hk:k.2.1<p.rg (dq s t (de s t)).f):fL p (s.wait x y t k) X:=by
 have i:(s.wait x y t k).T t=(((s.dz t).T t).to x y).lK k:=by
  show((s.dY x y t).dx t _).T t=_;rw[di,jT]
 have J:∀u,((s.wait x y t k).T u).wh=((s.dY x y t).T u).wh:=λu=>by
  by_cases e:u=t
  .subst e;rw[i,jT];rfl
  show(((s.dY x y t).dx t _).T u).wh=_;grind[dR]
 refine h.line G (gg s t) ((h.lw.dY (h.lt t G) hl Y).same rfl rfl J) (λu e=>(dR _ _ e).trans (nh s e)) ?_ (λa b H c hc=>?_) (wZ s t) (λa b H a0=>⟨k,jx i,(h.fw t G hX).n1,hk⟩) (λ_=>⟨x,y,jx i,hx⟩) (λZ=>?_)
 .rw[i];exact kg s t t
 .have o:c∈((s.dz t).fF x y ((s.dz t).q x y++[t])).q a b:=hc;grind[gH,po,fY]
 rw[i]at Z;cases Z
def Pl.start(s:Pl)(t:Nat):Pl:=(s.dz t).dx t { (s.dz t).T t with run:=true }
theorem fL.start{p:dL}{s:Pl}{X:Nat->Prop}(h:fL p s X){t:Nat}(y:t∈s.lv):fL p (s.start t) X:=by
 have ht:=h.lt t y;have o:(s.start t).T t={ (s.dz t).T t with run:=true }:=di _ _ _;have i:∀u,((s.start t).T u).wh=((s.dz t).T u).wh:=λu=>by
  by_cases e:u=t
  .grind
  show(((s.dz t).dx t _).T u).wh=_;grind[dR]
 refine h.line y (gg s t) ((h.lw.dz ht).same rfl rfl i) (λu e=>(dR _ _ e).trans (uy s e)) (by grind[kg]) (λa b _ c J=>af (po (s:=s) (t:=t) J)) (wZ s t) (λa b G _=>?_) (λH=>?_) (λ_=>?_)
 .grind[ke]
 .grind[absurd,xd]
 rw[i,ke]
theorem fL.gn{p:dL}{s:Pl}{X:Nat->Prop}(h:fL p s X){t:Nat}(ht:fm s t)(hX:t∈s.lv->X t){v:B.V}(u:dW p s v):fL p (s.gn t v) X:=by
 unfold Pl.gn;split
 .exact h
 rename_i k o;obtain⟨x,y,hw,_⟩:=h.lf t ht eR;obtain⟨H,G,_⟩:=h.lw.a t ht x y hw;have i:=h.ql x y H t G;have hi:de s t<(s.T t).fr.length:=by
  have:=(h.fw t i (hX i)).n1;have:(s.T t).fr.length≠0:=λe=>this (db.1 e);unfold de;omega
 exact(h.oK i (hX i) hi k.2.1 u).dY i
theorem pN(h:u∈jS e v):u∈e\/(u=v/\v.1≠0):=by
 grind[jS]
theorem CD(h:u∈e):u∈jS e v:=by
 grind[jS]
theorem lD(h:v.1≠0):v∈jS e v:=by
 unfold jS;grind
theorem EJ{o:List B.V}(h:o.Nodup):(jS o v).Nodup:=by
 grind[jS,List.nodup_append]
theorem xk(s:Pl)(t:Nat)(v:B.V)(kind:Nat)(x:Int)(u:Nat):((s.gone t v kind x).T u).fr=(s.T u).fr:=by
 by_cases e:u=t
 .subst e;show(((s.dz u).dx u ((s.dz u).T u).stop).T u).fr=_;rw[di];exact kg s u u
 grind[nH]
theorem ja(s:Pl)(t:Nat)(v:B.V)(kind:Nat)(x:Int):(s.gone t v kind x).lv=s.lv.erase t/\(s.gone t v kind x).out=s.out.set (t-1) v/\(s.gone t v kind x).kp=jS s.kp v/\(s.gone t v kind x).ft=s.ft/\(s.gone t v kind x).clk=s.clk/\(s.gone t v kind x).kd=s.kd/\(s.gone t v kind x).M=s.M/\(s.gone t v kind x).ck=s.ck/\(s.gone t v kind x).ev=s.ev++[(kind,t,x)]/\(s.gone t v kind x).q=(s.dz t).q:=by
 obtain⟨k1,k2,u,y,i,J,H,o,G,e⟩:=g8 s t;refine⟨rfl,?_,?_,i,H,o,G,e,?_,rfl⟩
 .show(s.dz t).out.set (t-1) v=_;rw[k2]
 .show jS (s.dz t).kp v=_;rw[u]
 show(s.dz t).ev++[(kind,t,x)]=_;rw[y]
theorem fL.gone{p:dL}{s:Pl}{X Y:Nat->Prop}(h:fL p s X){t:Nat}(a2:t∈s.lv){v:B.V}(hv:dW p s v)(kind:Nat)(x:Int)(hY:∀u,u≠t->Y u->X u):fL p (s.gone t v kind x) Y:=by
 have ht:=h.lt t a2;have hn:=jL s t v kind x;obtain⟨H,f2,f3,f4,f5,f6,f7,f8,_,a0⟩:=ja s t v kind x;have a1:∀u j,dq (s.gone t v kind x) u j=dq s u j:=λu j=>gD (xk s t v kind x u);have W:(s.gone t v kind x).T t=((s.dz t).T t).stop:=di _ _ _;have J:=h.lw.gone ht v kind x;refine⟨J,h.ww.gone v kind x,by grind[F.fL.nd],λu i=>(ey hn).2 (h.lt u (List.mem_of_mem_erase (by rw[<-H];exact i))),λa b y c G=>?_,λu i y=>?_,λu i Z=>?_,by rw[f2,eA,hn];exact h.ol,λu i=>?_,by grind[EJ,F.fL.kn],λu i=>?_,λu i hy=>?_,h.roots f6 f7 ?_,by rw[f6,f8];exact h.fc,eV f4 h.bt,eV f5 h.c0,eV f5 h.c1⟩
 .have hb:=J.b a b y c G;have e:c≠t:=λe=>by
   grind[pO,ke]
  rw[H,h.nd.mem_erase_iff];rw[a0]at G;exact⟨e,h.ql a b ((gC hn).1 y) c (po G)⟩
 .by_cases e:u=t
  .subst e;rw[W]at y;exact dp (xd h ht) y
  rw[nH s v kind x e]at y ⊢;exact h.lf u ((ey hn).1 i) y
 .by_cases e:u=t
  .subst e;rw[W]at Z;cases Z
  grind[nH,ey,F.fL.rn,F.fL.nd]
 .grind[List.mem_or_eq_of_mem_set,CD,lD,F.fL.ok]
 .grind[pN,F.fL.kz]
 .grind[xk,F.fL.fw,F.fL.nd]
 rintro u (⟨c,j,a,G,hj,ha,e⟩|i)
 .rw[a1]at ha e;rw[xk]at hj;rw[H]at G;exact dW.root (af ⟨c,j,a,List.mem_of_mem_erase G,hj,ha,e⟩)
 rw[f3]at i;rcases pN i with o|o
 .exact dW.root (ah o)
 grind
def jg(s:Pl)(x y t:Nat):(s.dY x y t).lv=s.lv/\(s.dY x y t).out=s.out/\(s.dY x y t).kp=s.kp/\(s.dY x y t).ft=s.ft/\(s.dY x y t).clk=s.clk/\(s.dY x y t).kd=s.kd/\(s.dY x y t).M=s.M/\(s.dY x y t).ck=s.ck/\(s.dY x y t).ev=s.ev/\(s.dY x y t).sp=s.sp:=by
 obtain⟨k1,k2,u,G,i,J,W,o,H,e⟩:=g8 s t;exact⟨k1,k2,u,i,W,o,H,e,G,J⟩
theorem qG(s:Pl)(t:Nat)(v:B.V):(s.gn t v).lv=s.lv/\(s.gn t v).out=s.out/\(s.gn t v).kp=s.kp/\(s.gn t v).ft=s.ft/\(s.gn t v).clk=s.clk/\(s.gn t v).kd=s.kd/\(s.gn t v).M=s.M/\(s.gn t v).ck=s.ck/\(s.gn t v).ev=s.ev/\(s.gn t v).sp=s.sp:=by
 unfold Pl.gn;split
 .grind
 exact jg _ 2 0 t
theorem tW(v:B.V):∀(l:List Nat) (s:Pl),(s.eo v l).lv=s.lv/\(s.eo v l).kp=s.kp/\(s.eo v l).ev=s.ev/\(s.eo v l).nt=s.nt/\(s.eo v l).sp=s.sp
 | [],_=>⟨rfl,rfl,rfl,rfl,rfl⟩
 | t :: l,s=>by
  obtain⟨G,W,y,H,u⟩:=tW v l (s.gn t v);obtain⟨J,_,i,_,_,_,_,_,o,e⟩:=qG s t v;exact⟨G.trans J,W.trans i,y.trans o,H.trans (oq s t v),u.trans e⟩
theorem fL.eo{p:dL}{X:Nat->Prop}{v:B.V}:∀(l:List Nat) {s:Pl},fL p s X->(∀u,u∈l->fm s u)->(∀u,u∈s.lv->X u)->(v.1=0\/v∈s.kp)->fL p (s.eo v l) X
 | [],_,h,_,_,_=>h
 | t :: l,s,h,hl,hX,hv=>by
  obtain⟨y,_,o,_⟩:=qG s t v;refine fL.eo l (h.gn (hl t eB) (hX t) (hv.elim (λe=>af e) (λe=>dW.root (ah e)))) (λu i=>(ey (oq s t v)).2 (hl u (by simp[i]))) (λu i=>hX u (by rw[<-y];exact i)) (eV o hv)
theorem fL.leave{X:Nat->Prop}(h:fL p s X)(i:t∈s.lv)(hX:∀u,u≠t->X u)(y:dW p s v)(kind:Nat)(x:Int):Ok p (s.leave t v kind x):=by
 refine (h.gone i y kind x (λu o _=>hX u o)).eo _ (λu o=>(ey (jL s t v kind x)).2 (h.lw.b 5 t (ah (ah (ah ⟨rfl,h.lt t i⟩))) u o).1) (λ_ _=>trivial) ?_;grind[ja,lD]
def uF(s:Pl)(t:Nat)(v:B.V)(kind:Nat)(x:Int):(s.leave t v kind x).lv=s.lv.erase t/\(s.leave t v kind x).ev=s.ev++[(kind,t,x)]/\(s.leave t v kind x).nt=s.nt:=by
 obtain⟨u,_,o,y,_⟩:=tW v (s.q 5 t) (s.gone t v kind x);obtain⟨e,_,_,_,_,_,_,_,i,_⟩:=ja s t v kind x;exact⟨u.trans e,o.trans i,y.trans (jL s t v kind x)⟩
def my(l:List jc)(f:jc)(i:Nat):(l++[f]).getD i n6=if i=l.length then f else l.getD i n6:=by
 grind
theorem FW.push(h:l=[]\/FW p l)(H:l.length<20)(u:f.f<p.nf)(hn:f.nx<=p.len f.f)(y:l≠[]->f.bk.2.1<p.rg (l.getD (l.length-1) n6).f):FW p (l++[f]):=by
 have o:∀i,i<l.length->FW p l:=λi hi=>h.resolve_left (λe=>by grind);refine⟨eB,eR,λi hi=>?_,λi hi=>?_⟩
 .rw[cw,eI]at hi;rw[my];by_cases e:i=l.length
  .grind
  rw[au e];exact(o i ag).f i ag
 rw[cw,eI]at hi;rw[my,my];rw[au (show ¬i=l.length by omega)];by_cases e:i+1=l.length
 .grind
 rw[au e];grind[F.FW.b]
def tF(s:Pl)(t:Nat)(f:jc):((s.push t f).T t).fr=(s.T t).fr++[f]:=by unfold Pl.push;rw[di];rfl
def qt(s:Pl){u:Nat}(f:jc)(h:u≠t):(s.push t f).T u=s.T u:=dR _ _ h
def Ed(s:Pl)(t:Nat)(f:jc)(u:Nat):((s.push t f).T u).run=(s.T u).run:=by
 unfold Pl.push;by_cases e:u=t
 .subst e;rw[di];rfl
 grind[dR]
theorem fL.push{p:dL}{s:Pl}{X Y:Nat->Prop}(h:fL p s X){t:Nat}{f:jc}(hw:(s.T t).wh=none)(W:(s.T t).fr.length<20)(hF:(s.T t).fr=[]\/FW p (s.T t).fr)(hf:f.f<p.nf)(hn:f.nx<=p.len f.f)(hb:(s.T t).fr≠[]->f.bk.2.1<p.rg (dq s t (de s t)).f)(hR:∀a,a<p.rg f.f->dW p s (f.R a))(hY:∀u,u≠t->Y u->X u):fL p (s.push t f) Y:=by
 have G:=λu=>qT s t f u;have o:∀u,u≠t->(s.push t f).T u=s.T u:=λu e=>qt s f e;refine⟨h.lw.push t f,λu i x y J a0=>?_,h.nd,h.lt,h.ql,λu i W=>?_,λu i hr=>?_,h.ol,h.ok,h.kn,h.kz,λu i hy=>?_,h.roots rfl rfl ?_,h.fc,h.bt,h.c0,h.c1⟩
 .rw[(G u).1]at J;have e:u≠t:=λe=>by grind
  obtain⟨k,k1,k2,k3⟩:=h.ww u i x y J a0;grind[gD]
 .rw[(G u).2]at W;rw[(G u).1];exact h.lf u i W
 .rw[Ed]at hr;rw[(G u).1];exact h.rn u i hr
 .by_cases e:u=t
  .subst e;rw[tF];exact FW.push hF W hf hn hb
  rw[o u e];exact h.fw u i (hY u e hy)
 rintro v (⟨u,j,a,i,Z,H,e⟩|hv)
 .by_cases e1:u=t
  .subst e1;rw[tF,cw,eI]at Z;by_cases e2:j=(s.T u).fr.length
   .grind[wV]
   rw[pn s f (λ_=>by omega)]at H e;exact dW.root (af ⟨u,j,a,i,ag,H,e⟩)
  rw[pn s f (λe'=>dp e' e1)]at H e;rw[o u e1]at Z;exact dW.root (af ⟨u,j,a,i,Z,H,e⟩)
 exact dW.root (ah hv)
theorem FW.pop(h:FW p l)(y:2<=l.length):FW p l.dropLast:=by
 have o:∀i,i+1<l.length->l.dropLast.getD i n6=l.getD i n6:=λi hi=>by
  grind
 have u:l.dropLast.length=l.length-1:=eY;refine⟨λe=>?_,gp h.n2,λi hi=>?_,λi hi=>?_⟩
 .grind
 .rw[o i ag];exact h.f i ag
 grind[F.FW.b]
theorem lA(s:Pl){u:Nat}(h:u≠t):(s.pop t).T u=s.T u:=dR _ _ h
theorem Jv(s:Pl)(t:Nat):((s.pop t).T t).fr=(s.T t).fr.dropLast:=by unfold Pl.pop;rw[di];rfl
theorem A0(s:Pl)(t u:Nat):((s.pop t).T u).run=(s.T u).run:=by
 unfold Pl.pop;by_cases e:u=t
 .subst e;rw[di];rfl
 grind[dR]
theorem fL.pop{p:dL}{s:Pl}{X Y:Nat->Prop}(h:fL p s X){t:Nat}(hw:(s.T t).wh=none)(hY:∀u,Y u->X u/\(u≠t\/2<=(s.T t).fr.length)):fL p (s.pop t) Y:=by
 have o:=λu=>wY s t u;refine⟨h.lw.pop t,h.ww.pop hw,h.nd,h.lt,h.ql,λu i W=>?_,λu i J=>?_,h.ol,h.ok,h.kn,h.kz,λu i Z=>?_,h.roots rfl rfl ?_,h.fc,h.bt,h.c0,h.c1⟩
 .rw[(o u).2]at W;rw[(o u).1];exact h.lf u i W
 .rw[A0]at J;rw[(o u).1];exact h.rn u i J
 .obtain⟨k1,k2⟩:=hY u Z;have:=h.fw u i k1;grind[Jv,lA,F.FW.pop]
 rintro v (⟨u,j,a,i,G,y,e⟩|hv)
 .by_cases H:u=t
  .subst H;rw[tG]at G;rw[pJ s (λ_=>by omega)]at y e;exact dW.root (af ⟨u,j,a,i,ag,y,e⟩)
  rw[pJ s (λe'=>dp e' H)]at y e;rw[lA s H]at G;exact dW.root (af ⟨u,j,a,i,G,y,e⟩)
 exact dW.root (ah hv)
def qV(hw:(s.T t).wh=none)(v:B.V)(kind:Nat)(x:Int):(s.pop t).gone t v kind x=(s.gone t v kind x).pop t:=by
 have y:((s.pop t).T t).wh=none:=by rw[(wY s t t).1];exact hw
 have J:((s.pop t).gone t v kind x).T=((s.gone t v kind x).pop t).T:=by
  funext i
  by_cases e:i=t
  .subst e;have W:((s.pop i).gone i v kind x).T i=((s.pop i).T i).stop:=by
    show(((s.pop i).dz i).dx i (((s.pop i).dz i).T i).stop).T i=_;rw[di,fB y]
   have H:(s.gone i v kind x).T i=(s.T i).stop:=by
    show((s.dz i).dx i ((s.dz i).T i).stop).T i=_;rw[di,fB hw]
   rw[W];show _=((s.gone i v kind x).dx i _).T i;rw[di,H];show((s.dx i _).T i).stop=_;rw[di];rfl
  rw[nH _ v kind x e,lA s e,lA _ e,nH s v kind x e]
 have G:∀a b:Pl,a.nt=b.nt->a.T=b.T->a.q=b.q->a.lv=b.lv->a.out=b.out->a.kp=b.kp->a.ev=b.ev->a.ft=b.ft->a.sp=b.sp->a.clk=b.clk->a.kd=b.kd->a.M=b.M->a.ck=b.ck->a=b:=by
  rintro⟨⟩ ⟨⟩;simp only;rintro rfl rfl rfl rfl rfl rfl rfl rfl rfl rfl rfl rfl rfl;rfl
 have u:=fB y;have o:=fB hw;refine G _ _ ?_ J ?_ rfl ?_ ?_ ?_ ?_ ?_ ?_ ?_ ?_ ?_
 .rw[jL];show s.nt=(s.gone t v kind x).nt;rw[jL]
 .show((s.pop t).dz t).q=(s.dz t).q;rw[u,o];rfl
 .show((s.pop t).dz t).out.set (t-1) v=(s.dz t).out.set (t-1) v;rw[u,o];rfl
 .show jS ((s.pop t).dz t).kp v=jS (s.dz t).kp v;rw[u,o];rfl
 .show((s.pop t).dz t).ev++_=(s.dz t).ev++_;rw[u,o];rfl
 .show((s.pop t).dz t).ft=(s.dz t).ft;rw[u,o];rfl
 .show((s.pop t).dz t).sp=(s.dz t).sp;rw[u,o];rfl
 .show((s.pop t).dz t).clk=(s.dz t).clk;rw[u,o];rfl
 .show((s.pop t).dz t).kd=(s.dz t).kd;rw[u,o];rfl
 .show((s.pop t).dz t).M=(s.dz t).M;rw[u,o];rfl
 show((s.pop t).dz t).ck=(s.dz t).ck;rw[u,o];rfl
def Pl.ext'{a b:Pl}(Y:a.nt=b.nt)(J:a.T=b.T)(H:a.q=b.q)(G:a.lv=b.lv)(h5:a.out=b.out)(Z:a.kp=b.kp)(W:a.ev=b.ev)(h8:a.ft=b.ft)(y:a.sp=b.sp)(u:a.clk=b.clk)(o:a.kd=b.kd)(e:a.M=b.M)(i:a.ck=b.ck):a=b:=by
 obtain⟨⟩:=a;simp_all
theorem wP(l:List jc)(i:Nat)(f:jc)(hi:i+1<l.length):(l.set i f).dropLast=l.dropLast.set i f:=by
 apply List.ext_getElem?
 grind
def Eg(hi:i+1<(s.T t).fr.length):(s.pop t).dJ t i f=(s.dJ t i f).pop t:=by
 refine Pl.ext' rfl ?_ rfl rfl rfl rfl rfl rfl rfl rfl rfl rfl rfl;funext u
 grind[Pl.dJ,Pl.pop,di,qA.mz,wP,qp,lA]
theorem fL.back{p:dL}{s:Pl}(h:Ok p s){t:Nat}(i:t∈s.lv)(hw:(s.T t).wh=none){v:B.V}(J:dW p s v):Ok p (s.back t v):=by
 unfold Pl.back;by_cases e:de s t=0
 .rw[bf e];unfold Pl.leave;rw[qV hw];have y:t∉(s.gone t v 2 v.2).lv:=by rw[(ja s t v 2 v.2).1,h.nd.mem_erase_iff];exact λh=>h.1 rfl
  have G:Ok p ((s.gone t v 2 v.2).pop t):=((h.gone i J 2 v.2 (λ_ _ h=>h)).pop (by grind[pO,ke]) (λu o=>⟨trivial,af o⟩)).IZ (λu o _ e=>y (e▸o));refine G.eo _ (λu o=>?_) (λ_ _=>trivial) ?_
  .exact(ey (jL s t v 2 v.2)).2 (h.lw.b 5 t (ah (ah (ah ⟨rfl,h.lt t i⟩))) u o).1
  show v.1=0\/v∈(s.gone t v 2 v.2).kp;grind[ja,lD]
 rw[au e];have Z:2<=(s.T t).fr.length:=by unfold de at e;omega
 rw[Eg (by grind[de])];refine(h.oK i trivial (by grind[de]) _ J).pop (by grind[gI]) (λu _=>⟨trivial,ah ?_⟩);grind[gI]
theorem nz(s:Pl)(t:Nat)(v:B.V):(de s t=0->(s.back t v).lv=s.lv.erase t/\(s.back t v).ev=s.ev++[(2,t,v.2)]/\(s.back t v).nt=s.nt)/\(de s t≠0->(s.back t v).lv=s.lv/\(s.back t v).ev=s.ev/\(s.back t v).nt=s.nt/\(s.back t v).q=s.q):=by
 unfold Pl.back;constructor
 .intro e;rw[bf e];exact uF (s.pop t) t v 2 v.2
 intro e;rw[au e];exact⟨rfl,rfl,rfl,rfl⟩
theorem dW.mono(i:s'.M=s.M)(G:∀v,sH p s v->sH p s' v)(h:dW p s v):dW p s' v:=by
 have e:∀u,u∈eG p s->B.pR (eG p s') s'.M u:=λu o=>B.pR.mem (iw.2 (G u (iw.1 o)));unfold dW;rcases h with h|h|⟨k,y,h⟩
 .exact af h
 .grind
 refine ah (ah ⟨k,?_,eR⟩);grind[B.uo]
theorem fL.more{p:dL}{s:Pl}(h:Ok p s)(hn:s.nt+1<=500000000):fL p s.more (λu=>u≠s.nt+1):=by
 have W:∀u,u≠s.nt+1->s.more.T u=s.T u:=λu e=>nU s e;have H:s.more.T (s.nt+1)=rZ:=mL s
 have G:∀u,fm s u->u≠s.nt+1:=λu o e=>by have:=o.2;omega
 have Z:∀u j,u≠s.nt+1->dq s.more u j=dq s u j:=λu j e=>gD eR;refine⟨h.lw.more hn,λu o x y hx a0=>?_,?_,λu o=>?_,λx y Y a J=>?_,λu o Y=>?_,λu o hr=>?_,?_,λv hv=>?_,h.kn,h.kz,λu o hX=>?_,h.roots rfl rfl ?_,h.fc,h.bt,h.c0,h.c1⟩
 .rcases kK.1 o with i|i
  .rw[W u (G u i)]at hx ⊢;rw[Z u _ (G u i)];exact h.ww u i x y hx a0
  rw[i,H]at hx;cases hx
 .exact qw h.nd (λhm=>by grind[F.fL.lt])
 .rcases dV.1 (show u∈s.lv++[s.nt+1] from o) with i|i
  .grind[F.kK,F.fL.lt]
  grind[F.kK]
 .show a∈s.lv++[s.nt+1];rcases pK.1 Y with i|⟨rfl,rfl⟩
  .have hq:s.more.q x y=s.q x y:=qZ s (λe=>by
    grind[nG])
   grind[List.mem_append_left,F.fL.ql]
  have hq:s.more.q 5 (s.nt+1)=[]:=uC s;grind
 .rcases kK.1 o with i|i
  .grind[F.fL.lf]
  rw[i,H]at Y;exact dp rfl Y
 .rcases kK.1 o with i|i
  .rw[W u (G u i)]at hr ⊢;have:=h.rn u i hr;exact⟨this.1,eM _ this.2⟩
  rw[i,H]at hr;cases hr
 .show(s.out++[(0,0)]).length=s.nt+1;rw[cw,h.ol];rfl
 .rcases dV.1 (show v∈s.out++[(0,0)] from hv) with i|i
  .exact h.ok v i
  grind
 .rcases dV.1 (show u∈s.lv++[s.nt+1] from o) with i|i
  .rw[W u hX];exact h.fw u i trivial
  grind
 rintro v (⟨u,j,a,o,hj,J,e⟩|hv)
 .by_cases e1:u=s.nt+1
  .rw[e1,H]at hj;exact dp hj (Nat.not_lt_zero _)
  rw[Z u j e1]at J e;rw[W u e1]at hj;rcases dV.1 (show u∈s.lv++[s.nt+1] from o) with i|i
  .exact dW.root (af ⟨u,j,a,i,hj,J,e⟩)
  grind
 exact dW.root (ah hv)
def yI(h:Ok p s)(H:dW p s v):dW p s.more v:=by
 refine dW.mono (s:=s) (s':=s.more) rfl (λu i=>?_) H;rcases i with⟨c,j,a,G,J,W,e⟩|i
 .have y:s.more.T c=s.T c:=nU s (λe=>by have:=(h.lt c G).2;omega);refine af ⟨c,j,a,eM _ G,eR,?_,?_⟩
  .grind[gD]
  grind[gD]
 exact ah i
theorem qQ(e:dW p s u)(i:dW p s v)(a:Nat):dW p s (ig u v a):=by
 grind[ig,dW.num]
theorem fL.born(h:Ok p s)(hn:s.nt+1<=500000000){f:Nat}(y:f<p.nf)(o:dW p s u)(G:dW p s v):Ok p (s.born f u v):=by
 have i:s.more.T (s.nt+1)=rZ:=mL s;exact ((h.more hn).push (jx i) (by rw[i];decide) (af (jx i)) y (dk _) (λe=>dp (jx i) e) (λa _=>qQ (yI h o) (yI h G) a) (λ_ e _=>e)).dY (show s.nt+1∈s.lv++[s.nt+1] by simp)
def tQ(s:Pl)(f:Nat)(u v:B.V):(s.born f u v).lv=s.lv++[s.nt+1]/\(s.born f u v).ev=s.ev/\(s.born f u v).kp=s.kp/\(s.born f u v).M=s.M:=by
 obtain⟨k1,_,e,_,_,_,o,_,i,_⟩:=jg (s.more.push (s.nt+1) ⟨f,0,ig u v,(0,0,0,0)⟩) 2 0 (s.nt+1);exact⟨k1,i,e,o⟩
def Pl.ur(s:Pl)(a i:Nat)(v:B.V):Pl:={ s with kd:=B.told s.kd ((s.M a).getD i (0,0)),M:=B.lay s.M a ((s.M a).set i v) }
def fL.ur{X:Nat->Prop}(h:fL p s X){a:Nat}(o:B.nK (eG p s) s.M a)(e:dW p s v):fL p (s.ur a i v) X:=
 { lw:=h.lw.same rfl rfl (λ_=>rfl),ww:=h.ww,nd:=h.nd,lt:=h.lt,ql:=h.ql,lf:=h.lf,rn:=h.rn,ol:=h.ol,ok:=h.ok,kn:=h.kn,kz:=h.kz,fw:=h.fw,hl:=B.CH h.hl i o e,fc:=h.fc,bt:=h.bt,c0:=h.c0,c1:=h.c1 }
def Pl.oS(s:Pl)(kd1:B.Kd)(c ty:Nat)(l:List B.V):Pl:={ s with kd:=B.laid kd1 c,M:=B.lay s.M c l,ck:=λk=>if k=c then ty else s.ck k }
def fL.oS(h:Ok p s){a c ty:Nat}{i:B.Kd}{l:List B.V}(a4:t∈s.lv)(hk:B.lS i p.n (eG p s) s.M)(hs:∀k,1<=k->k<=p.n->i.on k=true->s.kd.on k=true)(h1:1<=c)(h2:c<=p.n)(h3:i.on c=false)(a5:ty<=p.nf)(hl:∀v,v∈l->dW p s v): Ok p ((s.oS i c ty l).dJ t (de s t) ((dq s t (de s t)).set a (c,0))):=by
 have hi:de s t<(s.T t).fr.length:=by
  have:(s.T t).fr.length≠0:=λe=>(h.fw t a4 trivial).n1 (db.1 e);unfold de;omega
 have hw:=λu=>gI s t (de s t) u ((dq s t (de s t)).set a (c,0));have W:∀u j,(dq (s.dJ t (de s t) ((dq s t (de s t)).set a (c,0))) u j).f=(dq s u j).f:=λu j=>by
  by_cases e:u=t/\j=de s t
  .obtain⟨rfl,rfl⟩:=e;rw[mh s _ hi];rfl
  grind[lN]
 have a2:∀u,(s.T u).fr≠[]->((s.dJ t (de s t) ((dq s t (de s t)).set a (c,0))).T u).fr≠[]:=λu h0 e=>h0 (by
  grind)
 refine { lw:=(h.lw.dJ t (de s t) ((dq s t (de s t)).set a (c,0))).same rfl rfl (λ_=>rfl),ww:=?_,nd:=h.nd,lt:=h.lt,ql:=h.ql,lf:=?_,rn:=?_,ol:=h.ol,ok:=h.ok,kn:=h.kn,kz:=h.kz,fw:=?_,hl:=?_,fc:=?_,bt:=h.bt,c0:=h.c0,c1:=h.c1 }
 .intro u o x y hx a1;obtain⟨k,k1,k2,k3⟩:=h.ww u o x y ((hw u).1.symm.trans hx) a1;refine⟨k,(hw u).2.1.trans k1,a2 u k2,?_⟩;show k.2.1<p.rg (dq (s.dJ t (de s t) ((dq s t (de s t)).set a (c,0))) u (((s.dJ t (de s t) ((dq s t (de s t)).set a (c,0))).T u).fr.length-1)).f;grind
 .intro u o a6;obtain⟨x,y,e,Z⟩:=h.lf u o (λe=>a6 ((hw u).2.1.trans e));exact⟨x,y,(hw u).1.trans e,Z⟩
 .intro u o hr;have:=h.rn u o ((hw u).2.2.1.symm.trans hr);exact⟨(hw u).1.trans this.1,this.2⟩
 .intro u o _;have:=h.fw u o trivial;show FW p ((s.dJ t (de s t) ((dq s t (de s t)).set a (c,0))).T u).fr;by_cases e:u=t
  .subst e;unfold Pl.dJ;rw[di];exact this.set hi rfl rfl (this.f _ hi).2
  grind[qp]
 .refine B.CI (L:=eG p s) hk h1 h2 h3 hl (λv hv=>?_);rcases iw.1 hv with⟨u,j,b,o,hj,hb,e⟩|hv
  .have H:=(hw u).2.2.2.2▸hj;have J:=(W u j)▸hb;have e':(dq (s.dJ t (de s t) ((dq s t (de s t)).set a (c,0))) u j).R b=v:=e;by_cases Z:u=t/\j=de s t
   .obtain⟨rfl,rfl⟩:=Z;rw[mh s _ hi]at e';have Y:B.set (dq s u (de s u)).R a (c,0) b=v:=e';by_cases e4:b=a
    .subst e4;rw[B.jN]at Y;exact af Y.symm
    rw[B.iX _ _ _ _ e4]at Y;exact ah (dW.root (af ⟨u,_,b,o,H,J,Y⟩))
   rw[lN s _ Z]at e';exact ah (dW.root (af ⟨u,j,b,o,H,J,e'⟩))
  exact ah (dW.root (ah hv))
 intro k k1 k2 a0;show(if k=c then ty else s.ck k)<=p.nf;by_cases e:k=c
 .rw[bf e];exact a5
 rw[au e];have G:B.mark i.on c k=true:=a0;rw[B.fZ _ _ _ e]at G;exact h.fc k k1 k2 (hs k k1 k2 G)
def Pl.vk(s:Pl)(kd:B.Kd):Pl:={ s with kd:=kd }
def fL.vk{X:Nat->Prop}(h:fL p s X){kd:B.Kd}(e:B.lS kd p.n (eG p s) s.M)(o:∀k,1<=k->k<=p.n->kd.on k=true->s.kd.on k=true):fL p (s.vk kd) X:=
 { lw:=h.lw.same rfl rfl (λ_=>rfl),ww:=h.ww,nd:=h.nd,lt:=h.lt,ql:=h.ql,lf:=h.lf,rn:=h.rn,ol:=h.ol,ok:=h.ok,kn:=h.kn,kz:=h.kz,fw:=h.fw,hl:=e,fc:=λk k1 k2 i=>h.fc k k1 k2 (o k k1 k2 i),bt:=h.bt,c0:=h.c0,c1:=h.c1 }
theorem fL.stop{p:dL}{s:Pl}{X:Nat->Prop}(h:fL p s X){t:Nat}(G:t∈s.lv):fL p (s.dx t (s.T t).stop) X:=by
 have ht:=h.lt t G;have i:(s.dx t (s.T t).stop).T t=(s.T t).stop:=di _ _ _;have o:∀u,((s.dx t (s.T t).stop).T u).wh=(s.T u).wh:=λu=>by
  by_cases e:u=t
  .subst e;rw[i];rfl
  grind[dR]
 refine h.line G rfl (h.lw.same rfl rfl o) (λu e=>dR _ _ e) (jx i) (λ_ _ _ _ h=>af h) ⟨rfl,rfl,rfl,rfl,rfl,rfl,rfl,rfl⟩ (λx y W H=>?_) (λY=>?_) (λJ=>?_)
 .rw[o]at W;obtain⟨k,k1,k2,Z⟩:=h.ww t ht x y W H;exact⟨k,eV i k1,k2,Z⟩
 .rw[i]at Y;obtain⟨x,y,e,e2⟩:=h.lf t ht Y;grind
 rw[i]at J;cases J
def Pl.mf(s:Pl)(t:Nat):Pl:={ s.dx t (s.T t).stop with sp:=true,ev:=s.ev++[(5,t,0)] }
def fL.mf{X:Nat->Prop}(h:fL p s X)(e:t∈s.lv):fL p (s.mf t) X:=(h.stop e).same rfl rfl rfl rfl rfl rfl rfl rfl rfl rfl rfl
def fL.told{X:Nat->Prop}(h:fL p s X)(kind t:Nat)(x:Int):fL p (s.told kind t x) X:=h.same rfl rfl rfl rfl rfl rfl rfl rfl rfl rfl rfl
theorem fL.fO  {X : Nat → Prop} (h : fL p s X) (k : Nat) (l : List Nat) (hl : l.length ≤ 1000 ∧ ∀ x, x ∈ l → x < 256) : fL p (s.fO k l) X :=
  { lw := h.lw.same rfl rfl (fun _ => rfl), ww := h.ww, nd := h.nd, lt := h.lt, ql := h.ql, lf := h.lf, rn := h.rn, ol := h.ol, ok := h.ok, kn := h.kn, kz := h.kz, fw := h.fw, hl := h.hl, fc := h.fc, bt := fun i => by
      show ((if i = k then l else s.ft i)).length ≤ 1000 ∧ ∀ x, x ∈ (if i = k then l else s.ft i) → x < 256
      by_cases e : i = k
      · grind
      · rw[au e]; exact h.bt i, c0 := h.c0, c1 := h.c1 }
def kO(l:List tU):List Nat:=(l.filter (λe=>e.1 == 2 || e.1 == 3 || e.1 == 4)).map (·.2.1)
def IG(t:Nat)(gone:List Nat):List tU->Prop
 | []=>True
 | e :: l=>e.2.1∉gone/\(e.1≠4->e.2.1=t)/\IG t (gone++kO [e]) l
theorem vY(l m:List tU):kO (l++m)=kO l++kO m:=by grind[kO]
theorem Bz{t:Nat}:∀(l m:List tU) (gone:List Nat),IG t gone l->IG t (gone++kO l) m->IG t gone (l++m)
 | [],m,gone,_,h=>by
  grind[kO]
 | e :: l,m,gone,h1,h2=>by
  refine⟨h1.1,h1.2.1,Bz l m _ h1.2.2 ?_⟩;rw[fS,<-vY];exact h2
def N7(l:List tU):Prop:=∀e,e∈l->e.1≠4
def Gn(s:Pl)(gone:List Nat):Prop:=∀u,u∈gone->fm s u/\u∉s.lv
def Go(t c:Nat)(s s':Pl):Prop:=∃l,s'.ev=s.ev++l/\l.length<=c/\(s.nt<=s'.nt/\s'.nt<=s.nt+c)/\(∀gone,Gn s gone->IG t gone l/\Gn s' (gone++kO l))/\(N7 l->∃m,s'.q 2 0=s.q 2 0++m)
theorem Go.trans{c:Nat}{i:Pl}(h:Go t c s s')(J:Go t d s' i):Go t (c+d) s i:=by
 obtain⟨l,a1,a2,a3,Y,Z⟩:=h;obtain⟨m,H,b2,b3,b4,o⟩:=J;refine⟨l++m,eR,eR,ag,λgone hg=>?_,λhn=>?_⟩
 .grind[Bz,vY,List.append_assoc]
 obtain⟨x,W⟩:=Z (λe he=>hn e (eM _ he));obtain⟨y,G⟩:=o (λe he=>hn e (List.mem_append_right _ he));grind
theorem Go.mono{c:Nat}(h:Go t c s s')(o:c<=d):Go t d s s':=by
 obtain⟨l,e,y,u,i⟩:=h;exact⟨l,e,ag,ag,i⟩
def Go.quiet(he:s'.ev=s.ev)(G:s'.lv=s.lv)(hn:s'.nt=s.nt)(y:∃m,s'.q 2 0=s.q 2 0++m):Go t 0 s s':=by
 refine⟨[],eR,bq _,ag,λgone o=>⟨trivial,λu i=>?_⟩,λ_=>y⟩;have e:u∈gone:=by
  unfold kO at i;simpa using i
 exact⟨(ey hn).2 (o u e).1,by rw[G];exact(o u e).2⟩
theorem Go.same(he:s'.ev=s.ev)(i:s'.lv=s.lv)(hn:s'.nt=s.nt)(e:s'.q 2 0=s.q 2 0):Go t 0 s s':=Go.quiet he i hn ⟨[],eR⟩
def Go.Io{x:Int}(G:k=1\/k=5)(i:t∈s.lv)(he:s'.ev=s.ev++[(k,t,x)])(W:s'.lv=s.lv)(hn:s'.nt=s.nt)(H:s'.q 2 0=s.q 2 0):Go t 1 s s':=by
 have o:kO [(k,t,x)]=[]:=by rcases G with rfl|rfl<;>rfl
 refine⟨[(k,t,x)],he,bq _,ag,λgone y=>⟨⟨λJ=>(y t J).2 i,λ_=>rfl,trivial⟩,λu e=>?_⟩,λ_=>⟨[],eR⟩⟩;rw[o,gS]at e;exact⟨(ey hn).2 (y u e).1,by rw[W];exact(y u e).2⟩
theorem Go.ends{u:Nat}{x:Int}(W:(k=2/\u=t)\/(k=3/\u=t)\/k=4)(y:u∈s.lv)(hu:fm s u)(H:s.lv.Nodup)(he:s'.ev=s.ev++[(k,u,x)])(Z:s'.lv=s.lv.erase u)(hn:s'.nt=s.nt)(hq:k≠4->∃m,s'.q 2 0=s.q 2 0++m):Go t 1 s s':=by
 have G:kO [(k,u,x)]=[u]:=by rcases W with⟨rfl,_⟩|⟨rfl,_⟩|rfl<;>rfl
 refine⟨[(k,u,x)],he,bq _,ag,λgone J=>⟨⟨λi=>(J u i).2 y,λh4=>?_,trivial⟩,λa Y=>?_⟩,λhc=>hq (hc (k,u,x) eB)⟩
 .grind
 rw[G]at Y;rcases dV.1 Y with o|o
 .refine⟨(ey hn).2 (J a o).1,λi=>(J a o).2 ?_⟩;grind
 grind[ey]
theorem Go.born(he:s'.ev=s.ev)(W:s'.lv=s.lv++[s.nt+1])(hn:s'.nt=s.nt+1)(J:∃m,s'.q 2 0=s.q 2 0++m):Go t 1 s s':=by
 refine⟨[],eR,dk _,ag,λgone H=>⟨trivial,λu y=>?_⟩,λ_=>J⟩;have i:u∈gone:=by
  unfold kO at y;simpa using y
 have:=(H u i).1;refine⟨⟨this.1,gp this.2⟩,λG=>?_⟩;rw[W]at G;rcases dV.1 G with o|o
 .exact(H u i).2 o
 have e:u=s.nt+1:=gG o;have:=this.2;omega
def nW(hw:(s.T t).wh≠some (2,0)):(s.dY 2 0 t).q 2 0=s.q 2 0++[t]:=by
 show((s.dz t).fF 2 0 ((s.dz t).q 2 0++[t])).q 2 0=_;grind[gH,sm]
theorem EK{a b:Nat}(hw:(s.T t).wh≠some (a,b))(h:¬(a=x/\b=y)):(s.dY x y t).q a b=s.q a b:=by
 show((s.dz t).fF x y _).q a b=_;grind[fY,sm]
def AB{X:Nat->Prop}(h:fL p s X)(ht:fm s t)(v:B.V):∃m,(s.gn t v).q 2 0=s.q 2 0++m:=by
 unfold Pl.gn;split
 .simp_all
 rename_i k i;obtain⟨x,y,hw,o⟩:=h.lf t ht eR;refine⟨[t],nW ?_⟩;grind[gI]
theorem qj{p:dL}{X:Nat->Prop}{v:B.V}:∀(l:List Nat) {s:Pl},fL p s X->(∀u,u∈l->fm s u)->(∀u,u∈s.lv->X u)->(v.1=0\/v∈s.kp)->∃m,(s.eo v l).q 2 0=s.q 2 0++m
 | [],s,_,_,_,_=>⟨[],jx gS⟩
 | t :: l,s,h,hl,hX,hv=>by
  obtain⟨H,_,y,_⟩:=qG s t v;obtain⟨m,G⟩:=AB h (hl t eB) v;obtain⟨m',o⟩:=qj l (h.gn (hl t eB) (hX t) (hv.elim (λe=>af e) (λe=>dW.root (ah e)))) (λu i=>(ey (oq s t v)).2 (hl u (by simp[i]))) (λu i=>hX u eR) (eV y hv);exact⟨m++m',by show((s.gn t v).eo v l).q 2 0=_;grind⟩
def EE{X:Nat->Prop}(h:fL p s X)(i:t∈s.lv)(hX:∀u,u≠t->X u)(hw:(s.T t).wh=none)(y:dW p s v)(kind:Nat)(x:Int):∃m,(s.leave t v kind x).q 2 0=s.q 2 0++m:=by
 obtain⟨m,G⟩:=qj (v:=v) (s.q 5 t) (h.gone i y kind x (λu o _=>hX u o)) (λu o=>(ey (jL s t v kind x)).2 (h.lw.b 5 t (ah (ah (ah ⟨rfl,h.lt t i⟩))) u o).1) (λ_ _=>trivial) (by
  grind[ja,lD])
 refine⟨m,?_⟩;show((s.gone t v kind x).eo v (s.q 5 t)).q 2 0=_;grind[ja,fB]
theorem BC(h:Ok p s)(o:t∈s.lv)(hw:(s.T t).wh=none)(W:dW p s v):∃m,(s.back t v).q 2 0=s.q 2 0++m:=by
 by_cases e:de s t=0
 .unfold Pl.back;rw[bf e];unfold Pl.leave;rw[qV hw];have y:t∉(s.gone t v 2 v.2).lv:=by rw[(ja s t v 2 v.2).1,h.nd.mem_erase_iff];exact λh=>h.1 rfl
  have J:fL p ((s.gone t v 2 v.2).pop t) (λu=>u≠t):=(h.gone o W 2 v.2 (λ_ _ h=>h)).pop (by grind[pO,ke]) (λu i=>⟨trivial,af i⟩);obtain⟨m,Y⟩:=qj (v:=v) ((s.pop t).q 5 t) (J.IZ (λu i _ e=>y (e▸i))) (λu i=>(ey (jL s t v 2 v.2)).2 (h.lw.b 5 t (ah (ah (ah ⟨rfl,h.lt t o⟩))) u i).1) (λ_ _=>trivial) (by
   show v.1=0\/v∈(s.gone t v 2 v.2).kp;grind[ja,lD])
  refine⟨m,Y.trans ?_⟩;show(s.gone t v 2 v.2).q 2 0++m=_;grind[ja,fB]
 exact⟨[],by grind[nz]⟩
theorem Go.back(h:Ok p s)(i:t∈s.lv)(hw:(s.T t).wh=none)(u:dW p s v):Go t 1 s (s.back t v):=by
 by_cases e:de s t=0
 .grind[nz,Go.ends,BC,F.fL.lt,F.fL.nd]
 obtain⟨k1,k2,o,_⟩:=(nz s t v).2 e;exact(Go.quiet k2 k1 o (BC h i hw u)).mono ag
