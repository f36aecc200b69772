import Derived.Test.YtnjiinbhbjpfkaaGreatDoorTQ
import Derived.Test.YtnjiinbhbjpfkaaGreatDoorTP
set_option maxRecDepth 100000
set_option maxHeartbeats 0
set_option linter.all false
namespace Go.Proofs.YtnjiinbhbjpfkaaGreatDoor
open Go.RowKit Go.Proofs.Tryz
namespace D
open F
def Dm.dx(m:Dm)(t:Nat)(x:Dt):Dm:={ m with T:=λu=>if u=t then x else m.T u }
def Dt.mz(x:Dt)(l:List jc):Dt:={ x with fr:=l }
def Dm.dJ(m:Dm)(t i:Nat)(f:jc):Dm:=m.dx t ((m.T t).mz ((m.T t).fr.set i f))
def qd(m:Dm)(t:Nat):Nat:=(m.T t).fr.length-1
def pS(m:Dm)(t:Nat):jc:=fU m t (qd m t)
def Dm.told(m:Dm)(kind t:Nat)(x:Int):Dm:={ m with ev:=m.ev++[(kind,t,x)] }
def Dm.fF(m:Dm)(l:List Nat):Dm:={ m with q:=l }
def Dm.sE(m:Dm)(t:Nat):Dm:=m.fF (m.q++[t])
def Dt.hw(x:Dt)(h:Nat):Dt:={ x with how:=h }
def Dm.vr(m:Dm)(t:Nat):Dm:=(m.dx t ((m.T t).hw 1)).sE t
def Dm.ready(m:Dm)(t:Nat)(v:B.V):Dm:=if 0<=(m.T t).into then(m.vr t).dJ t (qd m t) ((pS m t).set (m.T t).into.toNat v) else m.vr t
def Dt.wt(x:Dt)(how what:Nat)(into:Int)(k:Nat):Dt:={ x with how:=how,what:=what,into:=into,jw:=k }
def Dm.wait(m:Dm)(t how what:Nat)(into:Int):Dm:={ m.dx t ((m.T t).wt how what into (m.jw+1)) with jw:=m.jw+1 }
def Dt.end(x:Dt)(v:B.V):Dt:={ x with how:=5,fr:=[],out:=v }
def Dm.gone(m:Dm)(t kind:Nat)(x:Int)(v:B.V):Dm:=((m.dx t ((m.T t).end v)).fF (m.q.filter (λu=>decide (u≠t)))).told kind t x
def Dm.pop(m:Dm)(t:Nat):Dm:=m.dx t ((m.T t).mz (m.T t).fr.dropLast)
def Dm.push(m:Dm)(t:Nat)(f:jc):Dm:=m.dx t ((m.T t).mz ((m.T t).fr++[f]))
def Dm.born(m:Dm)(f:Nat)(u v:B.V):Dm:={ m with nt:=m.nt+1,T:=λt=>if t=m.nt+1 then⟨[⟨f,0,ig u v,(0,0,0,0)⟩],1,0,0,0,0,(0,0)⟩ else m.T t,q:=m.q++[m.nt+1] }
def Dc.born(c:Dc):Dc:={ c with all:=c.all+1,sure:=c.sure+1,nF:=c.nF+1 }
def Dm.cell(m:Dm)(ty:Nat)(l:List B.V):Dm:={ m with nc:=m.nc+1,M:=λc=>if c=m.nc+1 then l else m.M c,ck:=λc=>if c=m.nc+1 then ty else m.ck c,G:=m.G.born }
def Dm.put(m:Dm)(a i:Nat)(v:B.V):Dm:={ m with M:=λc=>if c=a then(m.M a).set i v else m.M c }
def Dm.fO(m:Dm)(k:Nat)(l:List Nat):Dm:={ m with ft:=λi=>if i=k then l else m.ft i }
def Dm.gr(m:Dm)(c:Int):Dm:={ m with clk:=c }
def Dm.iY(m:Dm)(c:Dc):Dm:={ m with G:=c }
def Dm.AO(m:Dm):Dm:={ m with sp:=true }
def Ko(m:Dm)(how what b:Nat):Prop:=
 (b=0/\∀u,mY m u->¬((m.T u).how=how/\(m.T u).what=what))\/(mY m b/\(m.T b).how=how/\(m.T b).what=what/\∀u,mY m u->(m.T u).how=how->(m.T u).what=what->(m.T b).jw<=(m.T u).jw)
def yM(x y:Dt):Prop:=x.lH<y.lH\/(x.lH=y.lH/\x.jw<=y.jw)
def Kq(m:Dm)(b:Nat):Prop:=
 (b=0/\∀u,mY m u->¬((m.T u).how=2/\(m.T u).lH<=m.clk))\/(mY m b/\(m.T b).how=2/\(m.T b).lH<=m.clk/\∀u,mY m u->(m.T u).how=2->(m.T u).lH<=m.clk->yM (m.T b) (m.T u))
def Db(P:Nat->Prop)(N:Nat):Prop:=∃l:List Nat,l.Nodup/\(∀t,t∈l↔P t)/\N=l.length
def FR(m:Dm)(N:Nat):Prop:=Db (λt=>mY m t/\(m.T t).how≠5) N
def Db.uniq{P Q:Nat->Prop}{N K:Nat}(h:Db P N)(k:Db Q K)(e:∀t,P t↔Q t):N=K:=by
 obtain⟨l,i,u,rfl⟩:=h;obtain⟨r,o,y,rfl⟩:=k;exact List.Perm.length_eq ((List.perm_ext_iff_of_nodup i o).2 (λt=>by rw[u,y,e]))
theorem gi(m:Dm)(t:Nat)(x:Dt):(m.dx t x).T t=x:=bf rfl
theorem fW(m:Dm){t u:Nat}(x:Dt)(h:u≠t):(m.dx t x).T u=m.T u:=au h
theorem jQ(m:Dm)(t:Nat)(x y:Dt):(m.dx t x).dx t y=m.dx t y:=by
 unfold Dm.dx;have:(λu=>if u=t then y else(λu=>if u=t then x else m.T u) u)=(λu=>if u=t then y else m.T u):=by
  funext u
  by_cases e:u=t
  .rw[bf e,bf e]
  rw[au e,au e];exact au e
 simp only[this]
def mQ{l:List jc}{i j:Nat}{f:jc}(hi:i<l.length):(l.set i f).getD j n6=if j=i then f else l.getD j n6:=by
 by_cases e:j=i
 .subst e;rw[bf rfl,cr,List.getElem?_set_self hi];rfl
 rw[au e,cr,List.getElem?_set_ne (λo=>e o.symm),<-cr]
end D
namespace D
open F
variable {p:Dp}{m m':Dm}{g g':Dg}{w w':aa}
def dZ.one(h:dZ p m g w)(a b c:Nat)(o:vd p m a b c=true)(e:∀x y z,vd p m' x y z=vd p m x y z)(H:dM (λk=>(ok p m g a b c).bs k) w w')(G:∀x y z,vd p m x y z=true->¬(x=a/\y=b/\z=c)->ok p m' g' x y z=ok p m g x y z)(Y:(ok p m' g' a b c).ok w')(W:∀k,(ok p m' g' a b c).bs k->(ok p m g a b c).bs k\/w.heap.size<=k)(J:g'.mb=g.mb:=by rfl):Tr p m g w m' g' w':=by
 refine h.to (λx y z=>x=a/\y=b/\z=c) (λ_=>(a,b,c)) (H.mono (λk i _=>⟨a,b,c,⟨rfl,rfl,rfl⟩,by grind[ie]⟩)) (λx y z Z=>kT (e x y z) (λu=>G x y z u Z)) ?_ ?_ J
 .grind[ie]
 grind[i,ie]
def dZ.yh(h:dZ p m g w)(j:Nat)(v:Value)(e:m'.nt=m.nt/\m'.T=m.T/\m'.q=m.q/\m'.ft=m.ft/\m'.nc=m.nc/\m'.M=m.M/\m'.ck=m.ck/\m'.ev=m.ev)(G:∀i,i<24->mE p m' g i=if i=j then v else mE p m g i):Tr p m g w m' g (w.setCell (ay g.mb j) v):=by
 obtain⟨a1,a2,a3,a4,a5,Z,a7,a8⟩:=m;obtain⟨b1,Y,W,b4,J,b6,b7,b8⟩:=m';simp only at e;obtain⟨rfl,rfl,rfl,rfl,rfl,rfl,rfl,rfl⟩:=e;refine h.one 0 0 0 rfl (λx y z=>rfl) (bp (S:=λk=>(ok p _ g 0 0 0).bs k) (a:=ay g.mb j) (dw _ _) (af (show g.mb=g.mb from rfl)) _) (λx y z o hn=>?_) ?_ (λk u=>af u)
 .exact ok_eq (e0:=λe=>dp e (λe=>hn ⟨e,kS o (af ag)⟩)) (hx:=l9 o)
 exact(h.M.eC j v).congr (λi hi=>by
  rw[G i hi];rfl)
def I6{x x':Dt}{fv:Value}{k:Nat}{v:Value}(h:∀j,j<8->tC x' fv j=if j=k then v else tC x fv j)(m:Dm)(g:Dg)(t:Nat)(G:m.T t=x)(J:je m g 5 t=fv)(ht:1<=t)(W:k<8)(o:x'.fr=x.fr)(i:Nat):tE (m.dx t x') g i=if i=(t-1)*8+k then v else tE m g i:=by
 have H:∀u,je (m.dx t x') g 5 u=je m g 5 u:=λu=>by
  unfold je;show Value.slice _ ((m.dx t x').T u).fr.length _=Value.slice _ (m.T u).fr.length _;grind[gi,fW]
 unfold tE;rw[H];by_cases e:i / 8+1=t
 .rw[e,gi,J,h (i % 8) ag,G];grind
 rw[fW _ _ e,eD]
def dZ.sK(h:dZ p m g w){t:Nat}(ht:mY m t){tb:Nat}(hb:g.ro 1 0=(some (ay tb 0),(g.ro 1 0).2))(k:Nat)(W:k<8)(v:Value){x':Dt}(H:x'.fr=(m.T t).fr)(hE:∀j,j<8->tC x' (je m g 5 t) j=if j=k then v else tC (m.T t) (je m g 5 t) j):Tr p m g w (m.dx t x') g (w.setCell (ay tb ((t-1)*8+k)) v):=by
 have:=ht.1;have:=ht.2;have G:∀u,((m.dx t x').T u).fr=(m.T u).fr:=λu=>by
  grind[gi,fW]
 have J:∀u i,fU (m.dx t x') u i=fU m u i:=λu i=>by grind[fU]
 obtain⟨b,o,h1,h2,h3⟩:=h.T ag;have Z:b=tb:=by rw[hb]at o;injection o with o;injection o with o _;exact o.symm
 subst Z;have Y:∀k,(ok p m g 1 0 0).bs k↔k=b:=λk=>by
  show fi (g.ro 1 0).1=some k↔k=b;rw[hb];show some b=some k↔k=b;grind
 refine h.one 1 0 0 rfl (λx y z=>Ds (m:=m) (m':=m.dx t x') rfl (λu=>by rw[G]) rfl x y z) (bp (S:=λk=>(ok p m g 1 0 0).bs k) (dw _ _) (af ((Y _).2 rfl)) _) (λx y z hv hn=>?_) ?_ (λk W=>af W)
 .have h0:x≠1:=λe=>hn ⟨e,kS hv (af ag)⟩;refine ok_eq (er:=λhr=>?_) (e6:=λ_=>?_) (hx:=l9 hv)
  .refine⟨rfl,?_,?_⟩
   .unfold sg;rw[G];rfl
   unfold rC;rw[au h0,au h0,G];have:fE p (m.dx t x') g y=fE p m g y:=by funext j;unfold fE;rw[J]
   rw[this];rfl
  grind
 show World.ownsRow _ 0 167 8 (.slice (g.ro 1 0).1 m.nt (g.ro 1 0).2) m.nt (rowP (m.nt*8) (tE (m.dx t x') g));rw[o];exact nZ h1 h2 ((h3.eC _ v).congr (λi hi=>(I6 hE m g t rfl rfl ht.1 W H i).symm))
def AP(m:Dm)(g:Dg)(t i:Nat)(f:jc):tE (m.dJ t i f) g=tE m g:=by
 have o:∀u,((m.dJ t i f).T u).fr.length=(m.T u).fr.length:=λu=>by
  unfold Dm.dJ;by_cases e:u=t
  .subst e;rw[gi];show((m.T u).fr.set i f).length=_;grind
  grind[fW]
 funext j
 unfold tE;have y:je (m.dJ t i f) g 5 (j / 8+1)=je m g 5 (j / 8+1):=by
  unfold je;show Value.slice _ ((m.dJ t i f).T _).fr.length _=Value.slice _ (m.T _).fr.length _;rw[o]
 rw[y];unfold Dm.dJ;by_cases e:j / 8+1=t
 .rw[e,gi];rfl
 grind[fW]
def lO(m:Dm)(t i:Nat)(f:jc)(u:Nat):((m.dJ t i f).T u).fr.length=(m.T u).fr.length:=by
 unfold Dm.dJ;by_cases e:u=t
 .subst e;rw[gi];show((m.T u).fr.set i f).length=_;grind
 grind[fW]
def nP(m:Dm){t i:Nat}(f:jc)(hi:i<(m.T t).fr.length)(u j:Nat):fU (m.dJ t i f) u j=if u=t/\j=i then f else fU m u j:=by
 unfold fU Dm.dJ;by_cases e:u=t
 .subst e;rw[gi];show((m.T u).fr.set i f).getD j n6=_;grind
 rw[fW _ _ e,au (λy=>e y.1)]
def dZ.Lw(h:dZ p m g w){t i:Nat}(ht:mY m t)(hi:i<(m.T t).fr.length){fb:Nat}(hb:(g.ro 5 t).1=some (ay fb 0))(k:Nat)(hk:k<4)(v:Value){f:jc}(hf:f.f=(fU m t i).f)(hR:f.R=(fU m t i).R)(hE:∀j,j<4->fC p f (g.rb t i) j=if j=k then v else fC p (fU m t i) (g.rb t i) j):Tr p m g w (m.dJ t i f) g (w.setCell (ay fb (i*4+k)) v):=by
 obtain⟨b,o,h1,h2,h3⟩:=h.F ht ag;have Y:b=fb:=by rw[hb]at o;injection o with o;injection o with o _;exact o.symm
 subst Y;have Z:∀k,(ok p m g 5 t 0).bs k↔k=b:=λk=>by
  show fi (g.ro 5 t).1=some k↔k=b;rw[hb];show some b=some k↔k=b;grind
 have G:∀u j,fE p (m.dJ t i f) g u j=if u=t/\j=i*4+k then v else fE p m g u j:=λu j=>by
  unfold fE;rw[nP m f hi];grind
 refine h.one 5 t 0 (rP ht.1 ht.2) (λx y z=>Ds (m:=m) (m':=m.dJ t i f) rfl (lO m t i f) rfl x y z) (bp (S:=λk=>(ok p m g 5 t 0).bs k) (dw _ _) (af ((Z _).2 rfl)) _) (λx y z hv hn=>?_) ?_ (λk hk=>af hk)
 .refine ok_eq (er:=λhr=>⟨rfl,?_,?_⟩) (e6:=λ_=>?_) (hx:=l9 hv)
  .unfold sg;rw[lO];rfl
  .unfold rC;rw[AP];by_cases W:x=1
   .rw[bf W,bf W];rfl
   rw[au W,au W];by_cases J:x=3
   .rw[bf J,bf J];rfl
   rw[au J,au J];by_cases H:x=4
   .rw[bf H,bf H];rfl
   rw[au H,au H,lO];have e5:x=5:=by unfold FX at hr;omega
   subst e5;exact jA (λj _=>by rw[G,au (λe=>(λe=>hn ⟨rfl,e,(vG hv).2.2⟩) e.1)])
  rw[nP m f hi];grind
 show World.ownsRow _ 0 163 4 (.slice (g.ro 5 t).1 ((m.dJ t i f).T t).fr.length (g.ro 5 t).2) ((m.dJ t i f).T t).fr.length (rowP (((m.dJ t i f).T t).fr.length*4) (fE p (m.dJ t i f) g t));rw[o,lO];exact nZ h1 h2 ((h3.eC (i*4+k) v).congr (λj hj=>by
  rw[G];show(if j=i*4+k then v else _)=_;grind))
def qP(R:Nat->B.V)(a:Nat)(v:B.V)(j:Nat):eQ (B.set R a v) j=eC (eC (eQ R) (a*2) (aj v.1)) (a*2+1) (aj v.2) j:=by
 unfold eC;by_cases i:j=a*2+1
 .rw[bf i];unfold eQ;rw[eD,show j / 2=a by omega,B.jN]
 rw[au i];by_cases e:j=a*2
 .rw[bf e];unfold eQ;rw[mm,show j / 2=a by omega,B.jN]
 rw[au e];grind[eQ,B.iX]
def dZ.se(h:dZ p m g w){t i:Nat}(ht:mY m t)(hi:i<(m.T t).fr.length)(a:Nat)(v:B.V):Tr p m g w (m.dJ t i ((fU m t i).set a v)) g ((w.setCell (ay (g.rb t i) (a*2)) (aj v.1)).setCell (ay (g.rb t i) (a*2+1)) (aj v.2)):=by
 have G:∀u,fE p (m.dJ t i ((fU m t i).set a v)) g u=fE p m g u:=λu=>by
  funext j
  unfold fE;rw[nP m _ hi];by_cases e:u=t/\j / 4=i
  .rw[bf e,e.1,e.2];rfl
  grind
 have o:∀k,(ok p m g 6 t i).bs k↔k=g.rb t i:=λk=>Iff.rfl;refine h.one 6 t i (zI ht.1 ht.2 hi) (λx y z=>Ds (m:=m) (m':=m.dJ t i ((fU m t i).set a v)) rfl (lO m t i _) rfl x y z) (bp (S:=λk=>(ok p m g 6 t i).bs k) (bp (S:=λk=>(ok p m g 6 t i).bs k) (dw _ _) (af ((o _).2 rfl)) _) (af ((o _).2 rfl)) _) (λx y z W hn=>?_) ?_ (λk J=>af J)
 .refine ok_eq (er:=λY=>⟨rfl,?_,?_⟩) (e6:=λH=>?_) (hx:=l9 W)
  .unfold sg;rw[lO];rfl
  .unfold rC;rw[AP,G,lO];rfl
  rw[nP m _ hi,au (λe=>hn ⟨H,e⟩)];grind
 show Full _ (g.rb t i) 115 (p.rg (fU (m.dJ t i ((fU m t i).set a v)) t i).f*2) (p.rg (fU (m.dJ t i ((fU m t i).set a v)) t i).f*2) (eQ (fU (m.dJ t i ((fU m t i).set a v)) t i).R);rw[nP m _ hi,bf ⟨rfl,rfl⟩];exact(((h.R ht hi).eC (a*2) _).eC (a*2+1) _).congr (λj _=>(qP _ a v j).symm)
def Ew{l:List B.V}{i:Nat}(hi:i<l.length)(v:B.V):mW (l.set i v)=B.set (mW l) i v:=by
 funext j
 grind[mW,B.jN,List.getElem?_set_self,B.iX,List.getElem?_set_ne]
def dZ.M8(h:dZ p m g w){c i:Nat}(G:1<=c)(W:c<=m.nc)(hi:i<(m.M c).length)(v:B.V):Tr p m g w (m.put c i v) g ((w.setCell (ay (g.sb c) (i*2)) (aj v.1)).setCell (ay (g.sb c) (i*2+1)) (aj v.2)):=by
 have u:∀k,((m.put c i v).M k)=if k=c then(m.M c).set i v else m.M k:=λk=>rfl
 have Y:∀k,((m.put c i v).M k).length=(m.M k).length:=λk=>by
  grind
 have o:∀k,(ok p m g 7 c 0).bs k↔k=g.sb c:=λk=>Iff.rfl;refine h.one 7 c 0 (I2 G W) (λx y z=>rfl) (bp (S:=λk=>(ok p m g 7 c 0).bs k) (bp (S:=λk=>(ok p m g 7 c 0).bs k) (dw _ _) (af ((o _).2 rfl)) _) (af ((o _).2 rfl)) _) (λx y z J hn=>?_) ?_ (λk Z=>af Z)
 .refine ok_eq (er:=λhr=>⟨rfl,rfl,?_⟩) (e7:=λH=>?_) (hx:=l9 J)
  .unfold rC;have:cE (m.put c i v) g=cE m g:=by funext j;unfold cE;rw[Y];rfl
   rw[this];rfl
  subst H;have:=AG J;grind
 show Full _ (g.sb c) 115 (((m.put c i v).M c).length*2) (((m.put c i v).M c).length*2) (eQ (mW ((m.put c i v).M c)));rw[Y,u,bf rfl,Ew hi];exact(((h.S G W).eC (i*2) _).eC (i*2+1) _).congr (λj _=>(qP _ i v j).symm)
def Tr.Cc{m0:Dm}{W:Dg}{w0:aa}(h0:Tr p m0 W w0 m g w)(a b:Nat)(G:vd p m a b 0=true)(ha:a≠0)(i:∀x y z,vd p m' x y z=vd p m x y z)(hO:dM (λk=>k=g.mb\/(ok p m g a b 0).bs k) w w')(Z:∀x y z,vd p m x y z=true->x≠0->¬(x=a/\y=b/\z=0)->ok p m' g' x y z=ok p m g x y z)(hM:Full w' g.mb 112 24 24 (mE p m' g'))(h2:(ok p m' g' a b 0).ok w')(h3:∀k,(ok p m' g' a b 0).bs k->(ok p m g a b 0).bs k\/(¬eH p m g k/\w0.heap.size<=k))(J:g'.mb=g.mb:=by rfl):Tr p m0 W w0 m' g' w':=by
 refine Tr.to (λx y z=>(x=0/\y=0/\z=0)\/(x=a/\y=b/\z=0)) (λ_=>(a,b,0)) h0 (hO.mono ?_) (λx y z Y=>kT (i x y z) (λu=>?_)) ?_ ?_ J
 .rintro k (rfl|o) _
  .exact⟨0,0,0,af ⟨rfl,rfl,rfl⟩,rfl⟩
  grind[ie]
 .grind[kS]
 .rintro x y z (⟨rfl,rfl,rfl⟩|⟨rfl,rfl,rfl⟩)
  .show Full w' g'.mb 112 24 24 (mE p m' g');grind
  grind[ie]
 rintro x y z k (⟨rfl,rfl,rfl⟩|⟨rfl,rfl,rfl⟩) o
 .exact af (o.trans J)
 grind[ie]
def dZ.fresh(h:dZ p m g w){k:Nat}(i:w.heap.size<=k):¬eH p m g k:=λe=>by have:=h.lt e;omega
theorem dZ.Cc(h:dZ p m g w)(a b:Nat)(H:vd p m a b 0=true)(J:a≠0)(i:∀x y z,vd p m' x y z=vd p m x y z)(G:dM (λk=>k=g.mb\/(ok p m g a b 0).bs k) w w')(u:∀x y z,vd p m x y z=true->x≠0->¬(x=a/\y=b/\z=0)->ok p m' g' x y z=ok p m g x y z)(W:Full w' g.mb 112 24 24 (mE p m' g'))(Z:(ok p m' g' a b 0).ok w')(Y:∀k,(ok p m' g' a b 0).bs k->(ok p m g a b 0).bs k\/w.heap.size<=k)(hb:g'.mb=g.mb:=by rfl):Tr p m g w m' g' w':=
 Tr.Cc (Tr.refl h) a b H J i G u W Z (λk o=>(Y k o).imp id (λe=>⟨h.fresh e,e⟩)) hb
def Dg.at(g:Dg)(x y:Nat)(r:Option Addr×Nat):Dg:={ g with ro:=λa b=>if a=x/\b=y then r else g.ro a b }
theorem wv(g:Dg)(x y:Nat)(r:Option Addr×Nat):(g.at x y r).ro x y=r:=bf ⟨rfl,rfl⟩
theorem rp(g:Dg){x y a b:Nat}(r:Option Addr×Nat)(h:¬(a=x/\b=y)):(g.at x y r).ro a b=g.ro a b:=au h
theorem pe(m:Dm)(g:Dg){x y a b:Nat}(r:Option Addr×Nat)(h:¬(a=x/\b=y)):je m (g.at x y r) a b=je m g a b:=by grind[je,rp]
def Ll(m:Dm)(g:Dg){x y:Nat}(r:Option Addr×Nat)(h:x≠5):tE m (g.at x y r)=tE m g:=by
 funext j
 grind[tE,pe]
def AZ(p:Dp)(m:Dm)(g:Dg){x y:Nat}(r:Option Addr×Nat)(h:x≠5)(a b:Nat):rC p m (g.at x y r) a b=rC p m g a b:=by
 unfold rC;rw[Ll m g r h];rfl
def Be(p:Dp)(m:Dm)(g:Dg){x y:Nat}(r:Option Addr×Nat)(J:Nat)(Z:(x=1/\y=0/\J=6)\/(x=2/\y=0/\J=7)\/(x=3/\y=0/\J=12)\/(x=4/\y=0/\J=15)\/(x=10/\y<4/\J=8+y))(i:Nat)(hi:i≠J):mE p m (g.at x y r) i=mE p m g i:=by
 unfold mE;by_cases G:i=6
 .grind[reduceIte,Nat.reduceEqDiff,pe]
 by_cases H:i=7
 .grind[reduceIte,Nat.reduceEqDiff,pe]
 by_cases e:i=12
 .grind[reduceIte,Nat.reduceEqDiff,Nat.reduceLT,pe]
 by_cases o:i=15
 .subst o;grind[reduceIte,Nat.reduceEqDiff,Nat.reduceLT,pe]
 rw[au G,au G,au H,au H,au e,au e,au o,au o];by_cases u:i<12
 .rw[bf u,bf u];grind[oU,pe]
 grind
theorem Tr.fF{m0:Dm}{H:Dg}{w0:aa}(h0:Tr p m0 H w0 m g w){l:List Nat}{r:Option Addr×Nat}(hO:dM (λk=>k=g.mb\/fi (g.ro 2 0).1=some k) w w')(hM:Full w' g.mb 112 24 24 (eC (mE p m g) 7 (.slice r.1 l.length r.2)))(Y:gd w' 3 (.slice r.1 l.length r.2) (jJ l))(hb:∀k,fi r.1=some k->fi (g.ro 2 0).1=some k\/(¬eH p m g k/\w0.heap.size<=k)):Tr p m0 H w0 (m.fF l) (g.at 2 0 r) w':=by
 refine h0.Cc 2 0 (oQ ag) ag (λ_ _ _=>rfl) hO (λx y z J Z h2=>ok_eq (e0:=λe=>dp e Z) (er:=λG=>⟨rp g _ (by grind[FX]),?_,?_⟩) (eq:=λe=>?_) (hx:=l9 J)) (hM.congr (λi hi=>?_)) ?_ (λk W=>hb k ?_)
 .unfold sg;have:x≠2:=by unfold FX at G;omega
  rw[au this,au this];rfl
 .rw[AZ _ _ _ _ ek];rfl
 .have u:x=10:=by
   rcases e with e|e
   .grind[kS,absurd]
   exact e
  subst u;exact⟨rp g _ ag,rfl,rfl⟩
 .show(if i=7 then _ else _)=_;by_cases e:i=7
  .subst e;rw[bf rfl];show _=Value.slice ((g.at 2 0 r).ro 2 0).1 l.length ((g.at 2 0 r).ro 2 0).2;rw[wv]
  rw[au e,Be p (m.fF l) g r 7 ag i e];unfold mE;rw[au e,au e];rfl
 .show gd w' 3 (.slice ((g.at 2 0 r).ro 2 0).1 l.length ((g.at 2 0 r).ro 2 0).2) (jJ l);rw[wv];exact Y
 have o:fi ((g.at 2 0 r).ro 2 0).1=some k:=W;grind[wv]
def Tr.sE{m0:Dm}{g0:Dg}{w0:aa}(h0:Tr p m0 g0 w0 m g w){t b off c:Nat}{J:aa}(hq:gd J 3 (.slice (some (ay b off)) (m.q.length+1) c) (jJ m.q++[jk (t:Int)]))(G:w.grownBy J (je m g 2 0).ownBlock)(u:(je m g 2 0).ownBlock=some b\/b=w.heap.size):Tr p m0 g0 w0 (m.sE t) (g.at 2 0 (some (ay b off),c)) (J.setCell (ay g.mb 7) (.slice (some (ay b off)) (m.q.length+1) c)):=by
 have h:=h0.r;have Z:(je m g 2 0).ownBlock=fi (g.ro 2 0).1:=dF _ _ _;rw[Z]at G u;have H:∀k,fi (g.ro 2 0).1=some k->k≠g.mb:=λk i=>h.ne (x:=2) (y:=0) (z:=0) (x':=0) (y':=0) (z':=0) (oQ ag) rfl i rfl ag;have hl:(m.q++[t]).length=m.q.length+1:=jx cw
 have W:b≠g.mb:=by
  rcases u with e|e
  .grind
  have:=h.M.lt;omega
 refine h0.fF (l:=m.q++[t]) (r:=(some (ay b off),c)) (bp (S:=λk=>k=g.mb\/fi (g.ro 2 0).1=some k) (a:=ay g.mb 7) ⟨G.os,G.tape,G.output,G.size,λk i hn=>G.block k i (λe=>hn (ah e.symm))⟩ (af (af rfl)) _) ?_ ?_ (λk i=>?_)
 .rw[hl];exact (h.M.block (G.block g.mb h.M.lt (λe=>H g.mb e.symm rfl))).eC 7 _
 .rw[hl,show jJ (m.q++[t])=jJ m.q++[jk (t:Int)] by grind[jJ]];grind[Below.heap_setCell,Value.ownBlock,gd.block]
 have a0:k=b:=by
  have:some b=some k:=i;injection this with this;exact this.symm
 subst a0;rcases u with e|e
 .grind
 exact ah ⟨h.fresh ag,gp h0.o.size⟩
def DD(kind t:Nat)(x:Int)(h:dZ p m g w)(hn:m.ev.length<=100000): eL 195 #[P0 g.mb,aj kind,aj t,aj x] w λw'=>∃g',Tr p m g w (m.told kind t x) g' w':=by
 obtain⟨i0,hi,a6,a4,a2⟩:=info_parts Tryz.Ao;obtain⟨aC,aA⟩:=h.mc 15 ag (v:=.slice (g.ro 4 0).1 m.ev.length (g.ro 4 0).2) rfl;have le:=h.M.lt;have HR:=bj h;have HE:Hid (w.ownsRow 0 48 3 (.slice (g.ro 4 0).1 m.ev.length (g.ro 4 0).2) m.ev.length (mA m.ev)):=h.E;have H:∀k,(Value.slice (g.ro 4 0).1 m.ev.length (g.ro 4 0).2).ownBlock=some k->k≠g.mb/\k<w.heap.size:=λk H=>⟨eU HE h.M ek k H,(dP HE k H).2.1⟩;have HK:=bj H;have hX:mA (m.ev++[(kind,t,x)])=mA m.ev++[aj kind,aj t,aj x]:=by unfold mA;simp
 have HX:=bj hX;delta eL;go_in;go_wp2_with (at_builtin;refine jH rfl (.tmp 12) (.tmp 17) 45 rfl 48 i0 _ 3 24 underlying45 hi a6 a4 a2 rfl ek _ _ _ _ rfl (dQ HE (λk h=>av _ _ _ (HK k h).2)) (ay w.heap.size 0) 1 1 [aj kind,aj t,aj x] rfl rfl ?c1 ?c2 ?c3 ?c4 ?c5 ?_)
 try case c1=>intro j u G;match j,G with|0,G=>(simp at G;subst G;simp[Addr.add,go_sem])|1,G=>(simp at G;subst G;simp[Addr.add,go_sem])|2,G=>(simp at G;subst G;simp[Addr.add,go_sem])
 try case c2=>simp[Value.oneCell']
 try case c3=>unfold maxLen;omega
 try case c4=>omega
 try case c5=>omega
 intro v' w6 ho Y a0;obtain⟨b,c,rfl⟩:=ee ho ag;have Z:=bj ho;have a5:=bj a0;have J:Hid (Full w6 g.mb 112 24 24 (mE p m g)):=(HR.M.block (av _ _ _ le)).block (Y.block g.mb fH (λh=>(HK _ h.symm).1 rfl));have a7:Hid (dM (λk=>k=g.mb\/(ok p m g 4 0 0).bs k) w w6):=dM.trans (S1:=λk=>(Value.slice (g.ro 4 0).1 m.ev.length (g.ro 4 0).2).ownBlock=some k) (gP (dw _ w) _) ⟨Y.os,Y.tape,Y.output,Y.size,λk H hn=>Y.block k H (λe=>hn e.symm)⟩ (λk h _=>ah (by rw[dF]at h;exact h));obtain⟨a3,a8⟩:=J.cells 15 ag;generalize mE p m g 15=a9 at a3;go_wp2
 go_end0;have hl:(m.ev++[(kind,t,x)]).length=m.ev.length+1:=jx cw
 refine⟨rfl,g.at 4 0 (some (ay b 0),c),HR.Cc 4 0 (oQ ag) ag (λ_ _ _=>rfl) (bp a7 (af (af rfl)) _) (λx y z hv h0 h4=>ok_eq (e0:=λe=>dp e h0) (er:=λhr=>?_) (eq:=λe=>by rcases e with rfl|rfl<;>exact⟨rp g _ ag,rfl,rfl⟩) (hx:=l9 hv)) ?_ ?_ ?_⟩
 .have W:¬(x=4/\y=0):=λe=>h4 ⟨e.1,e.2,(kS hv ag).2⟩;refine⟨rp g _ W,?_,?_⟩
  .unfold sg;have:x≠4:=λe=>W ⟨e,(kS hv ag).1⟩;rw[au this,au this];rfl
  rw[AZ _ _ _ _ ek];have:x≠4:=λe=>W ⟨e,(kS hv ag).1⟩;unfold rC;rw[au this,au this];rfl
 .refine(J.eC 15 _).congr (λi hi=>?_);unfold eC;by_cases e:i=15
  .subst e;rw[bf rfl];show _=Value.slice ((g.at 4 0 (some (ay b 0),c)).ro 4 0).1 (m.ev++[(kind,t,x)]).length ((g.at 4 0 (some (ay b 0),c)).ro 4 0).2;rw[wv,hl]
  rw[au e,Be p (m.told kind t x) g _ 15 ag i e];unfold mE;rw[au e,au e];rfl
 .show World.ownsRow _ 0 48 3 (.slice ((g.at 4 0 (some (ay b 0),c)).ro 4 0).1 (m.ev++[(kind,t,x)]).length ((g.at 4 0 (some (ay b 0),c)).ro 4 0).2) (m.ev++[(kind,t,x)]).length (mA (m.ev++[(kind,t,x)]));rw[wv,hl,HX.out];exact dQ Z (λk h=>ab _ _ _ _ (eU Z J ek k h))
 intro k H;have a1:fi ((g.at 4 0 (some (ay b 0),c)).ro 4 0).1=some k:=H;rw[wv]at a1;have o:some b=some k:=a1;injection o with o;subst o;rcases a5 with h1|⟨b',h1,h2⟩
 .left
  show fi (g.ro 4 0).1=some b;rw[<-dF (g.ro 4 0).1 m.ev.length (g.ro 4 0).2,<-h1];rfl
 have:b=b':=by injection h1
 right
 first|omega|(simp at h2;omega)
theorem cellS{w:aa}{b o k j:Nat}{v x:Value}(h:w.cell? (ay k j)=some x)(e:k≠b):((w.setCell (ay b o) v).drew).cell? (ay k j)=some x:=(az (a:=ay k j) (ab w (ay b o) v k e)).trans h
def fj{n:Nat}(h:n<1000000000):IntKind.i64.wrap ((n:Int)+1-1)=(n:Int):=by grind[IntWalk.i64_left,IntWalk.wrap64_in]
structure MA(p:Dp) (m:Dm) (g:Dg) (w:aa) (t tb fb n:Nat):Prop where
 l:(m.T t).fr.length=n+1
 a:(g.ro 5 t).1=some ⟨fb,0,none⟩
 b:g.ro 1 0=(some ⟨tb,0,none⟩,(g.ro 1 0).2)
 c6:w.cell? ⟨g.mb,6,none⟩=some (.slice (some ⟨tb,0,none⟩) m.nt (g.ro 1 0).2)
 t0:w.cell? ⟨tb,(t-1)*8,none⟩=some (.slice (some ⟨fb,0,none⟩) (n+1) (g.ro 5 t).2)
 k0:w.cell? ⟨fb,n*4,none⟩=some (jk (fU m t n).f)
 k1:w.cell? ⟨fb,n*4+1,none⟩=some (.slice (some ⟨g.rb t n,0,none⟩) (p.rg (fU m t n).f) (p.rg (fU m t n).f))
 k2:w.cell? ⟨fb,n*4+2,none⟩=some (jk (fU m t n).nx)
 k3:w.cell? ⟨fb,n*4+3,none⟩=some (jk (fU m t n).bk.2.1)
 z:∀k,k<4->w.frozen? ⟨fb,n*4+k,none⟩=false
 n1:g.mb≠fb
 n2:tb≠fb
 n3:g.mb≠tb
 lf:fb<w.heap.size
 lt:tb<w.heap.size
theorem dZ.top(h:dZ p m g w){t:Nat}(ht:mY m t)(hn:(m.T t).fr.length≠0):∃tb fb n,MA p m g w t tb fb n:=by
 obtain⟨b,H,W,Z,e⟩:=h.F ht hn;obtain⟨tb,J,o,tc⟩:=h.tc ht;obtain⟨n,u⟩:∃n,(m.T t).fr.length=n+1:=⟨(m.T t).fr.length-1,ag⟩;rw[u]at e W;have k0:=e.cell (n*4) ag;have k1:=e.cell (n*4+1) ag;have k2:=e.cell (n*4+2) ag;have y:=e.cell (n*4+3) ag;have G:=uR p m g t (i:=n) (k:=0) ag;rw[Nat.add_zero]at G;rw[G]at k0;rw[uR p m g t ag]at k1 k2 y;refine⟨tb,b,n,u,H,J,?_,?_,k0,k1,k2,y,λk Y=>(e.cells (n*4+k) ag).2,h.M.ne e ek,o.ne e ek,h.M.ne o ek,e.lt,o.lt⟩
 .rw[show some ((ay tb 0):Addr)=(g.ro 1 0).1 by rw[J]];exact(h.mc 6 ag rfl).1
 have:=(tc.c 0 ag).1;rw[Nat.add_zero]at this;rw[this];show some (Value.slice (g.ro 5 t).1 (m.T t).fr.length _)=_;rw[H,u]
def G3{k tb fb n:Nat}(t:MA p m g w (k+1) tb fb n)(hn:n<20)(J:k<m.nt)(hm:m.nt<1000000000)(a:Nat): eL 213 #[P0 g.mb,aj ((k:Int)+1),aj a] w λw'=>w'=(w.setCell (ay fb (n*4+2)) (jk a)).drew:=by
 obtain⟨_,_,_,y,o,_,_,k2,_,z,G,H,n3,lf,lt⟩:=t;rw[dC]at o;generalize (g.ro 1 0).2=u at *;generalize (g.ro 5 (k+1)).2=i at *;generalize (fU m (k+1) n).nx=nx at *;generalize g.mb=rb at *;generalize m.nt=nt at *;have q1:(0:Int)<=n:=ag
 have q2:(n:Int)<n+1:=ag
 have W:=fj (n:=n) ag;have q4:IntKind.i64.wrap (n:Int)=n:=iU
 have q5:=fj (n:=k) ag;have q6:IntKind.i64.wrap (k:Int)=k:=iU
 have Z:(0:Int)<=k:=ag
 have q8:(k:Int)<nt:=ag
 delta eL;go_in;go_wp2
 go_region_held3 (λw'=>dS w' rb 6=some (dA tb nt u)/\dS w' tb (k*8)=some (dA fb (n+1) i)) (first|exact⟨y,o⟩|grind[cellS]) (fail)
 go_end0;grind
def dZ.Ir(h:dZ p m g w){t tb fb n:Nat}(ht:mY m t)(T:MA p m g w t tb fb n)(a:Nat):Tr p m g w (m.dJ t n { fU m t n with nx:=a }) g (w.setCell (ay fb (n*4+2)) (jk a)):=by
 refine h.Lw ht (kr T.l) T.a 2 ag (jk a) (f:={ fU m t n with nx:=a }) rfl rfl (λj i=>?_);have e:=oU 3 j ag
 rcases e with rfl|rfl|rfl|rfl<;>rfl
def Iz{t tb fb n:Nat}(h:dZ p m g w)(ht:mY m t)(T:MA p m g w t tb fb n)(hn:n<20)(i:m.nt<1000000000)(a:Nat): eL 213 #[P0 g.mb,aj t,aj a] w λw'=>Tr p m g w (m.dJ t n { fU m t n with nx:=a }) g w':=by
 obtain⟨k,rfl⟩:∃k,t=k+1:=⟨t-1,ag⟩;refine du (G3 T hn ag i a) ?_;rintro w' rfl;exact⟨rfl,(h.Ir ht T a).kept (bo (aw _ _))⟩
def F5{rb k tb nt cap i how what:Nat}{into:Int}{Z J W Y:Value}(hk:k<nt)(hn:nt<1000000000)(hs:i<1000000000)(c6:w.cell? (ay rb 6)=some (dA tb nt cap))(o:w.cell? (ay rb 13)=some (aj i)/\w.frozen? (ay rb 13)=false)(y:w.cell? (ay tb (k*8+1))=some Z/\w.frozen? (ay tb (k*8+1))=false)(G:w.cell? (ay tb (k*8+2))=some J/\w.frozen? (ay tb (k*8+2))=false)(H:w.cell? (ay tb (k*8+3))=some W/\w.frozen? (ay tb (k*8+3))=false)(u:w.cell? (ay tb (k*8+5))=some Y/\w.frozen? (ay tb (k*8+5))=false)(ne:rb≠tb): eL 228 #[P0 rb,aj ((k:Int)+1),aj how,aj what,aj into] w λw'=>(((((w.setCell (ay rb 13) (jk ((i+1:Nat):Int))).setCell (ay tb (k*8+1)) (jk how)).setCell (ay tb (k*8+3)) (jk what)).setCell (ay tb (k*8+2)) (jk into)).setCell (ay tb (k*8+5)) (jk ((i+1:Nat):Int))).grownBy w' none:=by
 obtain⟨o,a0⟩:=o;obtain⟨y,z1⟩:=y;obtain⟨G,z2⟩:=G;obtain⟨H,z3⟩:=H;obtain⟨u,z5⟩:=u;have q5:=fj (n:=k) ag;have q6:IntKind.i64.wrap (k:Int)=k:=iU
 have q7:(0:Int)<=k:=ag
 have q8:(k:Int)<nt:=ag
 have q9:IntKind.i64.wrap ((i:Int)+1)=(i:Int)+1:=iU
 delta eL;go_in;go_wp2
 go_region
 all_goals
  go_wp2
  go_end0;refine⟨rfl,?_⟩;first
   | exact aw _ _
   | exact bo (aw _ _)
   | exact df (aw _ _) _
def Dl{t how what:Nat}{into:Int}(h:dZ p m g w)(ht:mY m t)(hn:m.nt<1000000000)(hs:m.jw<1000000000): eL 228 #[P0 g.mb,aj (t:Int),aj (how:Int),aj (what:Int),aj into] w λw'=>Tr p m g w (m.wait t how what into) g w':=by
 obtain⟨k,rfl⟩:∃k,t=k+1:=⟨t-1,ag⟩;obtain⟨tb,W,hT,tc⟩:=h.tc ht;have Y:w.cell? ⟨g.mb,6,none⟩=some (.slice (some ⟨tb,0,none⟩) m.nt (g.ro 1 0).2):=by
  rw[show some (⟨tb,0,none⟩:Addr)=(g.ro 1 0).1 by rw[W]];exact(h.mc 6 ag rfl).1
 refine(F5 (how:=how) (what:=what) (into:=into) ag hn hs Y (h.mc 13 ag rfl) (tc.c 1 ag) (tc.c 2 ag) (tc.c 3 ag) (tc.c 5 ag) (h.M.ne hT ek)).mono ?_;rintro e w' ⟨rfl,hg⟩;refine⟨rfl,Tr.kept ?_ hg⟩;have G:Tr p m g w { m with jw:=m.jw+1 } g (w.setCell ⟨g.mb,13,none⟩ (jk ((m.jw+1:Nat):Int))):=h.yh 13 _ ⟨rfl,rfl,rfl,rfl,rfl,rfl,rfl,rfl⟩ (λi hi=>by
  by_cases e:i=13
  .subst e;rfl
  rw[au e];unfold mE;rw[au e,au e];rfl)
 have step:∀{m1:Dm} {w1:aa} (j:Nat) (v:Value) (x:Dt),j<8->dZ p m1 g w1->mY m1 (k+1)->x.fr=(m1.T (k+1)).fr->(∀i,i<8->tC x (je m1 g 5 (k+1)) i=if i=j then v else tC (m1.T (k+1)) (je m1 g 5 (k+1)) i)->Tr p m1 g w1 (m1.dx (k+1) x) g (w1.setCell ⟨tb,k*8+j,none⟩ v):=λj v x Z hr hd hf hE=>hr.sK hd W j Z v hf hE;have o:∀i:Nat,i<8->i=0\/i=1\/i=2\/i=3\/i=4\/i=5\/i=6\/i=7:=λi hi=>by omega
 have J:=step 1 (jk how) { m.T (k+1) with how:=how } ag G.r ht rfl (λi hi=>by rcases o i hi with rfl|rfl|rfl|rfl|rfl|rfl|rfl|rfl<;>rfl);have y:=step 3 (jk what) { m.T (k+1) with how:=how,what:=what } ag J.r ht (by rw[gi]) (λi hi=>by rw[gi];rcases o i hi with rfl|rfl|rfl|rfl|rfl|rfl|rfl|rfl<;>rfl);rw[jQ]at y;have u:=step 2 (jk into) { m.T (k+1) with how:=how,what:=what,into:=into } ag y.r ht (by rw[gi]) (λi hi=>by rw[gi];rcases o i hi with rfl|rfl|rfl|rfl|rfl|rfl|rfl|rfl<;>rfl);rw[jQ]at u;have H:=step 5 (jk ((m.jw+1:Nat):Int)) ((m.T (k+1)).wt how what into (m.jw+1)) ag u.r ht (jx gi) (λi hi=>by rw[gi];rcases o i hi with rfl|rfl|rfl|rfl|rfl|rfl|rfl|rfl<;>rfl);rw[jQ]at H;exact(((G.trans J).trans y).trans u).trans H
def Tryz.sr:(prog.info? 3).map (λi=>(i.zero,i.size,i.bytes))=some (some (aj 0),1,8):=by kernel_rfl
def Tryz.jh:prog.underlying 54=some (.slice 3):=by kernel_rfl
def IN(w:aa)(tb k ql qc:Nat)(qa:Option Addr)(xs:List Value)(w6:aa)(b off c:Nat):Prop:=
 ∃o1 o2 o3,gd w6 3 (.slice (some ⟨b,off,none⟩) (xs.length+1) c) (xs++[.int .i64 ((k:Int)+1)])/\((((w.setCell ⟨tb,k*8+1,none⟩ (.int .i64 1)).alloc o1).alloc o2).alloc o3).grownBy w6 (Value.slice qa ql qc).ownBlock/\((Value.slice qa ql qc).ownBlock=some b\/b=w.heap.size+1+1+1)
def Cj{rb tb cap k nt fl fc G u:Nat}{fa y:Option Addr}{v0 v1:Int}{x:Dt}{xs:List Value}(hk:k<nt)(hn:nt<1000000000)(hx:xs.length<=1000000000)(c6:w.cell? (ay rb 6)=some (dA tb nt cap))(q7:w.cell? (ay rb 7)=some (.slice y G u)/\w.frozen? (ay rb 7)=false)(i:∀j,j<8->w.cell? (ay tb (k*8+j))=some (tC x (.slice fa fl fc) j)/\w.frozen? (ay tb (k*8+j))=false)(hQ:gd w 3 (.slice y G u) xs)(ne:rb≠tb)(H:∀j,(Value.slice y G u).ownBlock=some j->j≠rb/\j≠tb)(a6:x.into<0): eL 144 #[P0 rb,aj ((k:Int)+1),.agg #[aj v0,aj v1]] w λw'=>∃b off c o,IN w tb k G u y xs o b off c/\w'=o.setCell (ay rb 7) (.slice (some (ay b off)) (xs.length+1) c):=by
 obtain⟨i0,hi,a2,a1,a0⟩:=info_parts Tryz.sr;obtain⟨q7,z7⟩:=q7;have z1:=(i 1 ag).2;have lr:=an w _ c6;have c1:w.cell? (ay tb (k*8+1))=some (aj x.how):=(i 1 ag).1;have lt:=an w _ c1;have Z:∀j,(Value.slice y G u).ownBlock=some j->j≠rb/\j≠tb/\j<w.heap.size:=λj h=>⟨(H j h).1,(H j h).2,hQ.lt j h⟩;have HQ:=bj hQ;have HK:=bj Z;have c0:w.cell? (ay tb (k*8))=some (.slice fa fl fc):=(i 0 ag).1;have c2:w.cell? (ay tb (k*8+2))=some (aj x.into):=(i 2 ag).1;have c3:w.cell? (ay tb (k*8+3))=some (aj x.what):=(i 3 ag).1;have c4:w.cell? (ay tb (k*8+4))=some (aj x.lH):=(i 4 ag).1;have c5:w.cell? (ay tb (k*8+5))=some (aj x.jw):=(i 5 ag).1;have a5:w.cell? (ay tb (k*8+6))=some (aj x.out.1):=(i 6 ag).1;have c7:w.cell? (ay tb (k*8+7))=some (aj x.out.2):=(i 7 ag).1;clear i hQ H Z;have q5:=fj (n:=k) ag;have a4:(0:Int)<=k:=ag
 have q8:(k:Int)<nt:=ag
 have a3:¬(0<=x.into):=ag
 delta eL;go_in;go_wp2_with (at_builtin;refine jf _ rfl (.tmp 27) (.tmp 29) 54 rfl 3 i0 _ 8 Tryz.jh hi a2 a1 a0 rfl _ xs rfl (HQ.block ?cq) _ _ (aj ((k:Int)+1)) rfl ?c1 rfl ?c3 ?c4 ?_)
 case cq=>
  intro j h;obtain⟨k1,k2,k3⟩:=HK j h;grind[Below.heap_alloc,Below.heap_setCell]
 try case c1=>simp[go_sem]
 try case c3=>unfold maxLen;omega
 try case c4=>omega
 intro g off c o hq W J;have KR:Hid (IN w tb k G u y xs o g off c):=⟨_,_,_,hq,W,J⟩;have f2:o.cell? (ay (w.heap.size+1) 2)=some (aj x.into):=by
  rw[az (W.block (w.heap.size+1) eB (λh=>by have:=(HK _ h.symm).2.2;omega))];simp[go_sem]
 have b0:o.heap[rb]? = w.heap[rb]?:=by rw[W.block rb fH (λh=>(HK rb h.symm).1 rfl),av _ _ _ fH,av _ _ _ fH,av _ _ _ fH,ab _ _ _ _ ne]
 have d7:=(az (a:=ay rb 7) b0).trans q7;have e7:=(dr (a:=ay rb 7) b0).trans z7
 go_wp2_with fail
 go_end0;exact⟨rfl,g,off,c,o,KR,rfl⟩
def zU{rb tb cap k nt f fc J G fb r vb rl rc:Nat}{H:Option Addr}{v0 v1:Int}{x:Dt}{xs:List Value}{o8 o9:Value}(hk:k<nt)(hn:nt<1000000000)(hx:xs.length<=1000000000)(c6:w.cell? (ay rb 6)=some (dA tb nt cap))(q7:w.cell? (ay rb 7)=some (.slice H J G)/\w.frozen? (ay rb 7)=false)(o:∀j,j<8->w.cell? (ay tb (k*8+j))=some (tC x (dA fb (f+1) fc) j)/\w.frozen? (ay tb (k*8+j))=false)(hQ:gd w 3 (.slice H J G) xs)(ne:rb≠tb)(y:∀j,(Value.slice H J G).ownBlock=some j->j≠rb/\j≠tb/\j≠vb/\j≠fb)(a2:x.into=(r:Int))(Z:w.cell? (ay fb (f*4+1))=some (dA vb rl rc))(a5:fb≠tb/\fb≠rb)(nv:vb≠rb/\vb≠tb/\vb≠fb)(a0:w.cell? (ay vb (r*2))=some o8/\w.frozen? (ay vb (r*2))=false)(a4:w.cell? (ay vb (r*2+1))=some o9/\w.frozen? (ay vb (r*2+1))=false)(hr:r<rl)(hf:f<=100000): eL 144 #[P0 rb,aj ((k:Int)+1),.agg #[aj v0,aj v1]] w λw'=>∃b off c i,IN w tb k J G H xs i b off c/\(((i.setCell (ay rb 7) (.slice (some (ay b off)) (xs.length+1) c)).setCell (ay vb (r*2)) (aj v0)).setCell (ay vb (r*2+1)) (aj v1)).grownBy w' none:=by
 obtain⟨i0,hi,aA,a9,aB⟩:=info_parts Tryz.sr;obtain⟨q7,z7⟩:=q7;have z1:=(o 1 ag).2;have lr:=an w _ c6;have c1:w.cell? (ay tb (k*8+1))=some (aj x.how):=(o 1 ag).1;have lt:=an w _ c1;have a7:∀j,(Value.slice H J G).ownBlock=some j->j≠rb/\j≠tb/\j<w.heap.size/\j≠vb/\j≠fb:=λj h=>⟨(y j h).1,(y j h).2.1,hQ.lt j h,(y j h).2.2⟩;have HQ:=bj hQ;have Y:=bj a7;have lv:=an w _ a0.1;have lf:=an w _ Z;have c0:w.cell? (ay tb (k*8))=some (dA fb (f+1) fc):=(o 0 ag).1;have c2:w.cell? (ay tb (k*8+2))=some (aj r):=by rw[<-a2];exact(o 2 ag).1
 have c3:w.cell? (ay tb (k*8+3))=some (aj x.what):=(o 3 ag).1;have c4:w.cell? (ay tb (k*8+4))=some (aj x.lH):=(o 4 ag).1;have c5:w.cell? (ay tb (k*8+5))=some (aj x.jw):=(o 5 ag).1;have aJ:w.cell? (ay tb (k*8+6))=some (aj x.out.1):=(o 6 ag).1;have c7:w.cell? (ay tb (k*8+7))=some (aj x.out.2):=(o 7 ag).1;have aC:=bj Z;have a1:=bj a0;have a8:=bj a4;clear o hQ y a7 a2 Z a0 a4;have q5:=fj (n:=k) ag;have aG:(0:Int)<=k:=ag
 have q8:(k:Int)<nt:=ag
 have aO:(r:Int)<rl:=ag
 delta eL;go_in;go_wp2_with (at_builtin;refine jf _ rfl (.tmp 27) (.tmp 29) 54 rfl 3 i0 _ 8 Tryz.jh hi aA a9 aB rfl _ xs rfl (HQ.out.block ?cq) _ _ (aj ((k:Int)+1)) rfl ?c1 rfl ?c3 ?c4 ?_)
 case cq=>
  intro j h;obtain⟨k1,k2,k3,_⟩:=Y.out j h;grind[Below.heap_alloc,Below.heap_setCell]
 try case c1=>simp[go_sem]
 try case c3=>unfold maxLen;omega
 try case c4=>omega
 intro g off c i hq W a3;have KR:Hid (IN w tb k J G H xs i g off c):=⟨_,_,_,hq,W,a3⟩;have a6:=W.size;have u:∀j,j<w.heap.size->j≠tb->(Value.slice H J G).ownBlock≠some j->i.heap[j]? = w.heap[j]?:=λj hj h1 h2=>by rw[W.block j fH (λh=>h2 h.symm),av _ _ _ fH,av _ _ _ fH,av _ _ _ fH,ab _ _ _ _ h1]
 have b0:=u rb lr ne (λh=>(Y.out rb h).1 rfl);have b2:=u vb lv nv.2.1 (λh=>(Y.out vb h).2.2.2.1 rfl);have b3:=u fb lf a5.1 (λh=>(Y.out fb h).2.2.2.2 rfl);have d7:=(az (a:=ay rb 7) b0).trans q7;have e7:=(dr (a:=ay rb 7) b0).trans z7;have g1:i.cell? (ay fb (f*4+1))=some (dA vb rl rc):=(az (a:=ay fb (f*4+1)) b3).trans aC.out;have aD:=(az (a:=ay vb (r*2)) b2).trans a1.1;have aI:=(dr (a:=ay vb (r*2)) b2).trans a1.2;have aE:=(az (a:=ay vb (r*2+1)) b2).trans a8.1;have aN:=(dr (a:=ay vb (r*2+1)) b2).trans a8.2;have f2:i.cell? (ay (w.heap.size+1) 2)=some (aj r):=by
  rw[az (W.block (w.heap.size+1) eB (λh=>by have:=(Y _ h.symm).2.2.1;omega))];simp[go_sem]
 have f0:i.cell? (ay (w.heap.size+1) 0)=some (dA fb (f+1) fc):=by
  rw[az (W.block (w.heap.size+1) eB (λh=>by have:=(Y _ h.symm).2.2.1;omega))];simp[go_sem]
 have aK:i.cell? (ay w.heap.size 0)=some (aj v0):=by
  rw[az (a:=ay w.heap.size 0) (W.block w.heap.size fH (λh=>by have:=(Y _ h.symm).2.2.1;omega))];simp[go_sem]
 have aF:i.cell? (ay w.heap.size 1)=some (aj v1):=by
  rw[az (a:=ay w.heap.size 1) (W.block w.heap.size fH (λh=>by have:=(Y _ h.symm).2.2.1;omega))];simp[go_sem]
 have n7:¬(rb=vb):=λe=>nv.1 e.symm;clear hq W a3 b0 b2 b3 a6 u;have aL:IntKind.i64.wrap ((f:Int)+1-1)=(f:Int):=fj ag;have aM:(f:Int)<f+1:=ag
 have aH:(0:Int)<=f:=ag
 go_wp2_with fail
 go_region
 all_goals
  go_wp2_with fail
  go_end0;refine⟨rfl,g,off,c,i,KR,?_⟩;first
   | exact aw _ _
   | exact bo (aw _ _)
   | exact df (aw _ _) _
   | exact⟨rfl,rfl,rfl,bq _,λ_ _ _=>rfl⟩
def jC(l:List Nat):(jJ l).length=l.length:=by grind[jJ,List.length_map]
def zV{t:Nat}(v:B.V)(h:dZ p m g w)(ht:mY m t)(hn:m.nt<1000000000)(hq:m.q.length<=1000000000)(a5:0<=(m.T t).into->(m.T t).fr.length≠0/\(m.T t).fr.length<=20/\(m.T t).into.toNat<p.rg (pS m t).f): eL 144 #[P0 g.mb,aj t,vA v] w λw'=>∃g',Tr p m g w (m.ready t v) g' w':=by
 obtain⟨k,rfl⟩:∃k,t=k+1:=⟨t-1,ag⟩;obtain⟨tb,e1,hT,tc⟩:=h.tc ht;have c6:w.cell? ⟨g.mb,6,none⟩=some (.slice (some ⟨tb,0,none⟩) m.nt (g.ro 1 0).2):=by
  rw[show some (⟨tb,0,none⟩:Addr)=(g.ro 1 0).1 by rw[e1]];exact(h.mc 6 ag rfl).1
 have a8:(je m g 2 0).ownBlock=fi (g.ro 2 0).1:=dF _ _ _;have u:∀j,(je m g 2 0).ownBlock=some j->(ok p m g 2 0 0).bs j:=λj o=>by rw[a8]at o;exact o
 have v0:vd p m 0 0 0=true:=rfl;have v1:vd p m 1 0 0=true:=rfl;have W:vd p m 2 0 0=true:=rfl;have b0:(ok p m g 0 0 0).bs g.mb:=rfl;have G:(ok p m g 1 0 0).bs tb:=by
  show fi (g.ro 1 0).1=some tb;rw[e1];rfl
 have ne:=h.M.ne hT ek;have cs:∀i:Nat,i<8->i=0\/i=1\/i=2\/i=3\/i=4\/i=5\/i=6\/i=7:=λi hi=>by omega
 have h1:Tr p m g w (m.dx (k+1) ((m.T (k+1)).hw 1)) g (w.setCell ⟨tb,k*8+1,none⟩ (aj 1)):=h.sK ht e1 1 ag _ rfl (λi hi=>by rcases cs i hi with rfl|rfl|rfl|rfl|rfl|rfl|rfl|rfl<;>rfl);have vr:∀b off c H,IN w tb k m.q.length (g.ro 2 0).2 (g.ro 2 0).1 (jJ m.q) H b off c->Tr p m g w (m.vr (k+1)) (g.at 2 0 (some ⟨b,off,none⟩,c)) (H.setCell ⟨g.mb,7,none⟩ (.slice (some ⟨b,off,none⟩) (m.q.length+1) c)):=λb off c H hR=>by
  obtain⟨o1,o2,o3,r1,r2,r3⟩:=hR;rw[jC]at r1;exact Tr.sE (t:=k+1) (((h1.kept (ak _ o1 none)).kept (ak _ o2 none)).kept (ak _ o3 none)) r1 r2 (r3.imp id (λe=>by rw[e];simp))
 have Z:(jJ m.q).length<=1000000000:=eV jC hq;by_cases hi:0<=(m.T (k+1)).into
 .obtain⟨f1,f2,f3⟩:=a5 hi;obtain⟨a4,fb,n,T⟩:=h.top ht f1;have a7:a4=tb:=by
   have:=T.b;rw[e1]at this;injection this with this _;injection this with this;injection this with this _;exact this.symm
  subst a7;have a1:qd m (k+1)=n:=by unfold qd;rw[T.l];omega
  have a3:pS m (k+1)=fU m (k+1) n:=by unfold pS;rw[a1]
  rw[a3]at f3;have J:n<(m.T (k+1)).fr.length:=kr T.l
  have a2:=h.R ht J;have y:(ok p m g 6 (k+1) n).bs (g.rb (k+1) n):=rfl;have a0:(ok p m g 5 (k+1) 0).bs fb:=by
   show fi (g.ro 5 (k+1)).1=some fb;rw[T.a];rfl
  have v5:=rP (p:=p) (m:=m) ht.1 ht.2;have v6:=zI (p:=p) (m:=m) ht.1 ht.2 J;refine(zU (fc:=(g.ro 5 (k+1)).2) (x:=m.T (k+1)) (r:=(m.T (k+1)).into.toNat) (v0:=(v.1:Int)) (v1:=v.2) (xs:=jJ m.q) ag hn Z c6 (h.mc 7 ag rfl) (λj o=>?_) h.Q ne (λj o=>⟨h.ne W v0 (u j o) b0 ag,h.ne W v1 (u j o) G ag,h.ne W v6 (u j o) y ag,h.ne W v5 (u j o) a0 ag⟩) ag T.k1 ⟨T.n2.symm,T.n1.symm⟩ ⟨h.ne v6 v0 y b0 ag,h.ne v6 v1 y G ag,h.ne v6 v5 y a0 ag⟩ (a2.cells _ ag) (a2.cells _ ag) f3 ag).mono ?_
  .have:=tc.c j o;have hs:je m g 5 (k+1)=.slice (some ⟨fb,0,none⟩) (n+1) (g.ro 5 (k+1)).2:=by
    show Value.slice (g.ro 5 (k+1)).1 (m.T (k+1)).fr.length _=_;rw[T.a,T.l]
   rw[hs]at this;exact this
  rintro e w' ⟨rfl,b,off,c,H,hR,hg⟩;rw[jC]at hg;have h2:=vr b off c H hR;have Y:((m.vr (k+1)).T (k+1))=(m.T (k+1)).hw 1:=gi _ _ _;have a6:fU (m.vr (k+1)) (k+1) n=fU m (k+1) n:=by unfold fU;rw[Y];rfl
  have h3:=h2.r.se (t:=k+1) (i:=n) ht (eV Y J) (m.T (k+1)).into.toNat v;refine⟨rfl,g.at 2 0 (some ⟨b,off,none⟩,c),?_⟩;unfold Dm.ready;rw[bf hi,a1,a3];rw[a6]at h3;exact(h2.trans h3).kept hg
 refine(Cj (x:=m.T (k+1)) (v0:=(v.1:Int)) (v1:=v.2) (xs:=jJ m.q) ag hn Z c6 (h.mc 7 ag rfl) (λj o=>tc.c j o) h.Q ne (λj o=>⟨h.ne W v0 (u j o) b0 ag,h.ne W v1 (u j o) G ag⟩) ag).mono ?_;rintro e w' ⟨rfl,b,off,c,H,hR,rfl⟩;refine⟨rfl,g.at 2 0 (some ⟨b,off,none⟩,c),?_⟩;unfold Dm.ready;rw[au hi,jC];exact vr b off c H hR
def Et(p:Dp)(m:Dm)(g:Dg)(t:Nat)(x:Dt)(r:Option Addr×Nat):mE p (m.dx t x) (g.at 5 t r)=mE p m g:=by
 have o:∀a b,a≠5->je (m.dx t x) (g.at 5 t r) a b=je m g a b:=λa b u=>by
  rw[pe _ _ _ (λe=>u e.1)];unfold je sg;rw[au u,au u];rfl
 funext i
 unfold mE;rw[o 1 0 ek,o 2 0 ek,o 10 _ ek,o 3 0 ek,o 4 0 ek];rfl
def DH(m:Dm)(g:Dg){t:Nat}(ht:1<=t)(l:List jc)(r:Option Addr×Nat)(i:Nat):tE (m.dx t ((m.T t).mz l)) (g.at 5 t r) i=if i=(t-1)*8 then .slice r.1 l.length r.2 else tE m g i:=by
 unfold tE;by_cases e:i / 8+1=t
 .rw[e,gi];by_cases o:i=(t-1)*8
  .rw[bf o,show i % 8=0 by omega];show Value.slice ((g.at 5 t r).ro 5 t).1 ((m.dx t ((m.T t).mz l)).T t).fr.length ((g.at 5 t r).ro 5 t).2=_;rw[wv,gi];rfl
  rw[au o];have u:¬i % 8=0:=ag
  unfold tC;rw[au u,au u];rfl
 rw[eD,fW _ _ e];have:je (m.dx t ((m.T t).mz l)) (g.at 5 t r) 5 (i / 8+1)=je m g 5 (i / 8+1):=by
  rw[pe _ _ _ (λy=>e y.2)];unfold je;show Value.slice _ ((m.dx t _).T _).fr.length _=Value.slice _ (m.T _).fr.length _;rw[fW _ _ e]
 rw[this]
def CZ(p:Dp)(m:Dm){g:Dg}{tb c:Nat}(i:g.ro 1 0=(some (ay tb 0),c))(k:Nat):(ok p m g 1 0 0).bs k↔k=tb:=by
 show fi (g.ro 1 0).1=some k↔k=tb;rw[i];show some tb=some k↔k=tb;grind
def dZ.shrink(h:dZ p m g w){t:Nat}(ht:mY m t){tb:Nat}(hb:g.ro 1 0=(some (ay tb 0),(g.ro 1 0).2)){j:Nat}(hj:j<=(m.T t).fr.length){r:Option Addr×Nat}(hr:r=g.ro 5 t\/(r=(none,0)/\j=0)):Tr p m g w (m.dx t ((m.T t).mz ((m.T t).fr.take j))) (g.at 5 t r) (w.setCell (ay tb ((t-1)*8)) (.slice r.1 j r.2)):=by
 have:=ht.1;have:=ht.2;have W:((m.T t).fr.take j).length=j:=kr List.length_take
 have H:(m.dx t ((m.T t).mz ((m.T t).fr.take j))).T t=(m.T t).mz ((m.T t).fr.take j):=gi _ _ _;have Y:∀y z,(y=t->z<j)->fU (m.dx t ((m.T t).mz ((m.T t).fr.take j))) y z=fU m y z:=λy z a3=>by
  unfold fU;by_cases e:y=t
  .subst e;rw[H];show((m.T y).fr.take j).getD z n6=_;grind
  grind[fW]
 have a2:∀x y z,¬(x=6/\y=t/\j<=z)->vd p (m.dx t ((m.T t).mz ((m.T t).fr.take j))) x y z=vd p m x y z:=λx y z hC=>by
  unfold vd;by_cases e:x=6
  .subst e;show decide (1<=y/\y<=m.nt/\z<((m.dx t ((m.T t).mz ((m.T t).fr.take j))).T y).fr.length)=decide (1<=y/\y<=m.nt/\z<(m.T y).fr.length);by_cases e2:y=t
   .subst e2;rw[H];apply decide_eq_decide.2
    show(1<=y/\y<=m.nt/\z<((m.T y).fr.take j).length)↔_;omega
   grind[fW]
  rw[au e,au e];rfl
 obtain⟨b,u,h1,h2,h3⟩:=h.T ag;have a6:b=tb:=by rw[hb]at u;injection u with u;injection u with u _;exact u.symm
 subst a6;refine h.to (λx y z=>(x=1/\y=0/\z=0)\/(x=5/\y=t/\z=0)\/(x=6/\y=t/\j<=z)) (λ_=>(1,0,0)) (bp (S:=λk=>∃x y z,((x=1/\y=0/\z=0)\/(x=5/\y=t/\z=0)\/(x=6/\y=t/\j<=z))/\(ob p m g x y z).bs k) (a:=ay b ((t-1)*8)) (dw _ _) (af ⟨1,0,0,af ⟨rfl,rfl,rfl⟩,((CZ p m hb) b).2 rfl⟩) _) (λx y z hC=>kT (a2 x y z (λe=>hC (ah (ah e)))) (λhv=>?_)) ?_ ?_
 .refine ok_eq (e0:=λ_=>⟨rfl,Et p m g t _ r⟩) (er:=λa4=>?_) (eq:=λe=>⟨rp g _ ag,?_,?_⟩) (e6:=λe=>?_) (hx:=l9 hv)
  .have a0:x≠1:=λe=>hC (af ⟨e,kS hv ag⟩);have h5:¬(x=5/\y=t):=λe=>hC (ah (af ⟨e.1,e.2,by grind[vG]⟩));refine⟨rp g _ h5,?_,?_⟩
   .unfold sg;by_cases e5:x=5
    .grind[fW]
    rw[au e5,au e5];rfl
   unfold rC;rw[au a0,au a0];by_cases e3:x=3
   .rw[bf e3,bf e3];rfl
   rw[au e3,au e3];by_cases e4:x=4
   .rw[bf e4,bf e4];rfl
   rw[au e4,au e4];have e5:x=5:=by unfold FX at a4;omega
   have a1:y≠t:=λe=>h5 ⟨e5,e⟩;rw[fW _ _ a1];exact jA (λi _=>by unfold fE;rw[Y y _ (λe=>dp e a1)];rfl)
  .unfold sg;rcases e with rfl|rfl<;>rfl
  .rcases e with rfl|rfl<;>rfl
  subst e;rw[Y y z (λe=>by
   omega)]
  exact⟨rfl,rfl,rfl⟩
 .rintro x y z (⟨rfl,rfl,rfl⟩|⟨rfl,rfl,rfl⟩|⟨rfl,rfl,hz⟩)
  .show World.ownsRow _ 0 167 8 (.slice ((g.at 5 t r).ro 1 0).1 m.nt ((g.at 5 t r).ro 1 0).2) m.nt (rowP (m.nt*8) (tE (m.dx t ((m.T t).mz ((m.T t).fr.take j))) (g.at 5 t r)));rw[rp g r ag,u];exact nZ h1 h2 ((h3.eC _ _).congr (λi hi=>by rw[DH m g ht.1,W];rfl))
  .have o:vd p (m.dx y ((m.T y).mz ((m.T y).fr.take j))) 5 y 0=true:=rP ht.1 ht.2;rw[ie o];show World.ownsRow _ 0 163 4 (.slice ((g.at 5 y r).ro 5 y).1 ((m.dx y ((m.T y).mz ((m.T y).fr.take j))).T y).fr.length ((g.at 5 y r).ro 5 y).2) ((m.dx y ((m.T y).mz ((m.T y).fr.take j))).T y).fr.length (rowP (((m.dx y ((m.T y).mz ((m.T y).fr.take j))).T y).fr.length*4) (fE p (m.dx y ((m.T y).mz ((m.T y).fr.take j))) (g.at 5 y r) y));rw[wv,H];show World.ownsRow _ 0 163 4 (.slice r.1 ((m.T y).fr.take j).length r.2) ((m.T y).fr.take j).length (rowP (((m.T y).fr.take j).length*4) _);rw[W];have Z:rowP (j*4) (fE p (m.dx y ((m.T y).mz ((m.T y).fr.take j))) (g.at 5 y r) y)=rowP (j*4) (fE p m g y):=jA (λi hi=>by unfold fE;rw[Y y _ (λ_=>by omega)];rfl);rw[Z];have hF:=h.Fw ht;rcases hr with rfl|⟨rfl,rfl⟩
   .by_cases h0:(m.T y).fr.length=0
    .obtain rfl:j=0:=by omega
     have a8:w.ownsRow 0 163 4 (.slice (g.ro 5 y).1 0 (g.ro 5 y).2) 0 (rowP (0*4) (fE p m g y)):=by
      have:=hF;unfold je at this;rw[show sg m 5 y=(m.T y).fr.length from rfl,h0]at this;exact this
     exact dQ a8 (λk J=>ab _ _ _ _ ((λk J=>eU hF h3 ek k J) k (by rw[dF]at J;unfold je;rw[dF];exact J)))
    obtain⟨fb,f0,f1,f2,f3⟩:=h.F ht h0;rw[f0];exact nZ ag f2 ((Full.down f3 ag).off (h3.ne f3 ek).symm)
   exact⟨rfl,af ⟨rfl,rfl⟩⟩
  have o:¬vd p (m.dx y ((m.T y).mz ((m.T y).fr.take j))) 6 y z=true:=λo=>by
   have:=(xQ o).2.2;rw[H]at this;have h':z<((m.T y).fr.take j).length:=this;omega
  rw[A7 o];trivial
 rintro x y z k (⟨rfl,rfl,rfl⟩|⟨rfl,rfl,rfl⟩|⟨rfl,rfl,hz⟩) J
 .left
  have G:fi ((g.at 5 t r).ro 1 0).1=some k:=J;rw[rp g r ag]at G;exact G
 .left
  rw[ie (m:=m.dx y ((m.T y).mz ((m.T y).fr.take j))) (rP ht.1 ht.2)]at J;rw[ie (rP ht.1 ht.2)];have G:fi ((g.at 5 y r).ro 5 y).1=some k:=J;rw[wv]at G;rcases hr with rfl|⟨rfl,_⟩
  .exact G
  cases G
 exfalso
 have o:¬vd p (m.dx y ((m.T y).mz ((m.T y).fr.take j))) 6 y z=true:=λo=>by
  have:=(xQ o).2.2;rw[H]at this;have h':z<((m.T y).fr.take j).length:=this;omega
 rw[A7 o]at J;exact J
def Tryz.tM:(prog.info? 115).map (λi=>(i.zero,i.size,i.bytes))=some (some (.agg #[aj 0,aj 0]),2,16):=by kernel_rfl
def Tryz.underlying161:prog.underlying 161=some (.slice 115):=by kernel_rfl
def uD{w:aa}{g b e:Nat}(h:w.ownsRow e 115 2 (dA g b b) b (madeCells #[aj 0,aj 0] (b*2)).toList):Full w g 115 (b*2) (b*2) (eQ (λ_=>(0,0))):=by
 rcases h.2 with⟨h,_⟩|⟨g',u,i,H,h2,Y,h4,Z,J,W⟩
 .cases h
 cases H;refine⟨i,Y,J,λj y=>?_⟩;have o:=congrArg (λl=>l[j]?) W;have G:(madeCells #[aj 0,aj 0] (b*2)).toList[j]? = some (aj 0):=by
  simp only[madeCells,Array.getElem?_toList,Array.getElem?_map,Array.getElem?_range];rw[bf y];have:j % 2=0\/j % 2=1:=by omega
  rcases this with h|h<;>simp[h]
 simp only[G,dO]at o;rw[bf y]at o;grind[nR]
def ze{rb gb nf gc f r0:Nat}{u v:B.V}{into:Int}(h0:w.cell? (ay rb 0)=some (dA gb nf gc))(h1:w.cell? (ay gb (f*2))=some (aj r0))(hf:f<nf)(hr:2<=r0)(aE:r0<=8): Calls prog 74 #[P0 rb,aj f,vA u,vA v,aj into] w λe w'=>∃b,e=.returned (.agg #[aj f,dA b r0 r0,aj 0,aj into])/\w.heap.size<=b/\Full w' b 115 (r0*2) (r0*2) (eQ (ig u v))/\w.grownBy w' none:=by
 obtain⟨u1,Z⟩:=u;obtain⟨v1,v2⟩:=v;obtain⟨i0,hi,a4,a3,a2⟩:=info_parts Tryz.tM;have a9:(f:Int)<nf:=ag
 have lr:rb<w.heap.size:=an w _ h0;have lg:gb<w.heap.size:=an w _ h1;have a8:rb<w.heap.size+1:=ag
 have aD:rb<w.heap.size+1+1:=ag
 have aB:gb<w.heap.size+1:=ag
 have aC:gb<w.heap.size+1+1:=ag
 go_in;go_wp2_with (at_make;go_loud (refine wpList_make_full _ rfl _ _ 161 rfl 0 115 i0 _ 2 Tryz.underlying161 hi a4 a3 _ _ _ _ r0 rfl rfl rfl rfl eR pY (dk _) ?_))
 intro i Y G;have y:=uD Y;have J:∀j o,j<w.heap.size+3->(((w.alloc (.cells #[aj u1,aj Z] 115)).alloc (.cells #[aj v1,aj v2] 115)).alloc (.cells #[aj 0,.slice none 0 0,aj 0,aj 0] 163)).heap[j]? = some o->i.heap[j]? = some o:=λj o hj ho=>da G ho eR;have s1:(w.alloc (.cells #[aj u1,aj Z] 115)).heap.size=w.heap.size+1:=eB
 have s2:((w.alloc (.cells #[aj u1,aj Z] 115)).alloc (.cells #[aj v1,aj v2] 115)).heap.size=w.heap.size+1+1:=eB
 have x0:=J w.heap.size (.cells #[aj u1,aj Z] 115 (0,0)) ag (by grind[Below.heap_alloc,heap_alloc_new]);have x1:=J (w.heap.size+1) (.cells #[aj v1,aj v2] 115 (0,0)) ag (by grind[Below.heap_alloc,heap_alloc_new]);have W:=J (w.heap.size+1+1) (.cells #[aj 0,.slice none 0 0,aj 0,aj 0] 163 (0,0)) ag (by grind[heap_alloc_new]);have a5:Hid (w.grownBy i none):=ar (ax (ax (ax (aw _ _) _) _) _) G;have a6:=bj y;have a0:dS i w.heap.size 0=some (aj u1):=fy x0
 have a1:dS i w.heap.size 1=some (aj Z):=fy x0
 have b0:dS i (w.heap.size+1) 0=some (aj v1):=fy x1
 have b1:dS i (w.heap.size+1) 1=some (aj v2):=fy x1
 have f0:dS i (w.heap.size+1+1) 0=some (aj 0):=fy W
 have f1:dS i (w.heap.size+1+1) 1=some (.slice none 0 0):=fy W
 have f2:dS i (w.heap.size+1+1) 2=some (aj 0):=fy W
 have f3:dS i (w.heap.size+1+1) 3=some (aj 0):=fy W
 have y0:i.frozen? (ay (w.heap.size+1+1) 0)=false:=qE W
 have y1:i.frozen? (ay (w.heap.size+1+1) 1)=false:=qE W
 have y2:i.frozen? (ay (w.heap.size+1+1) 2)=false:=qE W
 have y3:i.frozen? (ay (w.heap.size+1+1) 3)=false:=qE W
 obtain⟨k0,e0⟩:=y.cells 0 ag;obtain⟨k1,e1⟩:=y.cells 1 ag;obtain⟨k2,e2⟩:=y.cells 2 ag;obtain⟨k3,e3⟩:=y.cells 3 ag;rw[nR]at k0 k1 k2 k3
 have a7:(1:Int)<r0:=ag
 go_wp2
 refine dg (v:=.agg #[aj f,dA (w.heap.size+1+1+1) r0 r0,aj 0,aj into]) (by simp[results,results74,go_sem, *]) rfl ⟨w.heap.size+1+1+1,rfl,ag,?_,?_⟩
 .have hP:∀j,eC (eC (eC (eC (eQ (λ_=>(0,0))) 0 (aj u1)) 1 (aj Z)) 2 (aj v1)) 3 (aj v2) j=eQ (ig (u1,Z) (v1,v2)) j:=λj=>by
   unfold eC;by_cases c3:j=3
   .subst c3;rfl
   by_cases c2:j=2
   .subst c2;rfl
   by_cases c1:j=1
   .subst c1;rfl
   by_cases c0:j=0
   .subst c0;rfl
   rw[au c3,au c2,au c1,au c0,nR];unfold eQ ig;rw[au (show ¬j / 2=0 by omega),au (show ¬j / 2=1 by omega)];split<;>rfl
  exact((((((((a6.eC 0 _).eC 1 _).eC 2 _).eC 3 _).off ag).off ag).off ag).off ag).congr (λj _=>hP j)
 have hs:w.heap.size<=w.heap.size+1+1+1:=ag
 have H:w.heap.size<=w.heap.size+1+1:=ag
 exact bu (bu (bu (bu (bu (bu (bu (bu a5 (ah hs) _) (ah hs) _) (ah hs) _) (ah hs) _) (ah H) _) (ah H) _) (ah H) _) (ah H) _
def xA(P:Nat->Bool):Nat->Nat
 | 0=>0
 | n+1=>xA P n+if P (n+1)=true then 1 else 0
theorem Fp(P:Nat->Bool):∀n,Db (λt=>(1<=t/\t<=n)/\P t=true) (xA P n)
 | 0=>⟨[],List.nodup_nil,λt=>⟨λh=>(by cases h),λh=>(by omega)⟩,rfl⟩
 | n+1=>by
  obtain⟨l,y,u,G⟩:=Fp P n;have i:n+1∉l:=λh=>by grind
  by_cases e:P (n+1)=true
  .refine⟨(n+1) :: l,List.nodup_cons.2 ⟨i,y⟩,λt=>?_,by rw[xA,bf e,G];rfl⟩;grind
  refine⟨l,y,λt=>?_,by rw[xA,au e,G];rfl⟩;grind
def Ez(h:dZ p m g w)(hn:m.nt≠0):Calls prog 77 #[P0 g.mb] w λe w'=>∃N:Nat,e=.returned (aj N)/\N<=m.nt/\FR m N/\w.grownBy w' none:=by
 obtain⟨tb,hb,hl,hm,Z⟩:=h.T hn;have c6:w.cell? ⟨g.mb,6,none⟩=some (.slice (some ⟨tb,0,none⟩) m.nt (g.ro 1 0).2):=by rw[<-hb];exact(h.mc 6 ag rfl).1
 have a5:m.nt<=9223372036854775807:=by unfold maxLen at hm;omega
 have HF:=bj Z;have lt:=Z.lt;generalize g.mb=rb at *;go_in;go_wp2_with fail
 go_loopw [3,4] (λn i wr=>∃(N I:Nat),n=aj N/\i=aj I/\I<=m.nt/\N<=I/\Hid (N=xA (λt=>decide ((m.T t).how≠5)) I)/\Hid (w.grownBy wr none)) (λ_ i _=>m.nt-(intOf i).toNat)
 case atStart=>exact⟨0,0,rfl,rfl,ag,ag,rfl,aw _ _⟩
 case round=>
  obtain⟨N,I,rfl,rfl,hI,hN,J,H⟩:=hrel;have y:=λ(k:Nat) (y:k<w.heap.size)=>H.block k y eR;have d6:=(az (a:=⟨rb,6,none⟩) (y rb (an w _ c6))).trans c6;have o:=HF.block (y tb lt);by_cases a4:I<m.nt
  .have hc:∀k,k<8->wr.cell? ⟨tb,I*8+k,none⟩=some (tC (m.T (I+1)) (je m g 5 (I+1)) k):=λk y=>(o.cell (I*8+k) ag).trans (congrArg some (qK m g (t:=I+1) ag y ag));have a1:(I:Int)<m.nt:=ag
   have c1:wr.cell? ⟨tb,I*8+1,none⟩=some (aj ((m.T (I+1)).how:Int)):=hc 1 ag;have u:xA (λt=>decide ((m.T t).how≠5)) (I+1)=xA (λt=>decide ((m.T t).how≠5)) I+if decide ((m.T (I+1)).how≠5)=true then 1 else 0:=rfl
   generalize (m.T (I+1)).how=hw at *;clear o hc;by_cases h5:hw=5
   .have Y:Hid (N=xA (λt=>decide ((m.T t).how≠5)) (I+1)):=by show _=_;rw[u,au eR];exact J
    go_wp2_with fail
    go_roundw
    case rel=>grind
    case measure=>simp[intOf];omega
   have W:¬((hw:Int)=5):=ag
   have Y:Hid (N+1=xA (λt=>decide ((m.T t).how≠5)) (I+1)):=by show _=_;rw[u,bf eR];have:=J.out;omega
   go_wp2_with fail
   go_roundw
   case rel=>grind
   case measure=>simp[intOf];omega
  obtain rfl:I=m.nt:=by omega
  have G:FR m N:=by
   rw[J.out];obtain⟨l,l1,l2,l3⟩:=Fp (λt=>decide ((m.T t).how≠5)) m.nt;exact⟨l,l1,λt=>by grind,l3⟩
  have a0:=bj G;go_wp2_with fail
  go_ret;exact⟨N,rfl,ag,a0,H⟩
def pX(m:Dm)(how what I b:Nat):Prop:=
 (b=0/\∀u,1<=u->u<=I->¬((m.T u).how=how/\(m.T u).what=what))\/((1<=b/\b<=I)/\(m.T b).how=how/\(m.T b).what=what/\∀u,1<=u->u<=I->(m.T u).how=how->(m.T u).what=what->(m.T b).jw<=(m.T u).jw)
def pX.no{how what I b:Nat}(h:pX m how what I b)(hn:¬((m.T (I+1)).how=how/\(m.T (I+1)).what=what)):pX m how what (I+1) b:=by
 rcases h with⟨y,o⟩|⟨y,o,Y,W⟩
 .exact af ⟨y,λu i J=>by
   grind⟩
 exact ah ⟨⟨y.1,ag⟩,o,Y,λu i J H G=>by
  grind⟩
def pX.mX{how what I b:Nat}(h:pX m how what I b)(H:b≠0)(hn:(m.T b).jw<=(m.T (I+1)).jw):pX m how what (I+1) b:=by
 rcases h with⟨i,o⟩|⟨i,o,W,J⟩
 .omega
 exact ah ⟨⟨i.1,ag⟩,o,W,λu G Z Y y=>by
  grind⟩
def pX.take{how what I b:Nat}(h:pX m how what I b)(Y:(m.T (I+1)).how=how)(H:(m.T (I+1)).what=what)(hb:b=0\/(m.T (I+1)).jw<(m.T b).jw):pX m how what (I+1) (I+1):=by
 refine ah ⟨⟨ag,bq _⟩,Y,H,λu y Z i o=>?_⟩;by_cases e:u=I+1
 .grind
 rcases h with⟨W,G⟩|⟨W,G,h2,J⟩
 .grind
 grind
def lU(w:aa)(Z u J o G i H Y:Value): ∃W,w.alloc (.cells #[Z,u,J,o,G,i,H,Y] 167)=W/\W.cell? (ay w.heap.size 1)=some u/\W.cell? (ay w.heap.size 3)=some o/\W.cell? (ay w.heap.size 4)=some G/\W.cell? (ay w.heap.size 5)=some i/\w.heap.size<W.heap.size/\w.grownBy W none/\(∀a v,w.cell? a=some v->W.cell? a=some v):=by
 have y:=bl w (.cells #[Z,u,J,o,G,i,H,Y] 167);have hg:=ak w (.cells #[Z,u,J,o,G,i,H,Y] 167) none;generalize w.alloc (.cells #[Z,u,J,o,G,i,H,Y] 167)=W at *;refine⟨_,rfl,fy y,fy y,fy y,fy y,ch y,hg,λa v h=>?_⟩;exact(az (hg.block a.block (an w _ h) eR)).trans h
def Dy{tb cap:Nat}{wr:aa}(i:Full wr tb 167 (cap*8) (m.nt*8) (tE m g)){N k:Nat}(u:N≠0)(o:N<=m.nt)(e:k<8):wr.cell? (ay tb ((N-1)*8+k))=some (tC (m.T N) (je m g 5 N) k):=(i.cell ((N-1)*8+k) ag).trans (congrArg some (qK m g (t:=N) ag e rfl))
def Av(h:dZ p m g w)(hn:m.nt≠0)(how what:Nat):Calls prog 192 #[P0 g.mb,aj how,aj what] w λe w'=>∃b:Nat,e=.returned (aj b)/\b<=m.nt/\Ko m how what b/\w.grownBy w' none:=by
 obtain⟨tb,hb,hl,hm,hF⟩:=h.T hn;have c6:w.cell? ⟨g.mb,6,none⟩=some (.slice (some ⟨tb,0,none⟩) m.nt (g.ro 1 0).2):=by rw[<-hb];exact(h.mc 6 ag rfl).1
 have aE:m.nt<=9223372036854775807:=by unfold maxLen at hm;omega
 have HF:=bj hF;have lt:=hF.lt;clear hF hm hb hl h;generalize g.mb=rb at *;go_in;go_wp2_with fail
 go_loopw [7,8] (λn i wr=>∃(N I:Nat),n=aj N/\i=aj I/\I<=m.nt/\N<=I/\Hid (pX m how what I N)/\Hid (w.grownBy wr none)) (λ_ i _=>m.nt-(intOf i).toNat)
 case atStart=>exact⟨0,0,rfl,rfl,ag,ag,af ⟨rfl,λu u1 u2=>by omega⟩,aw _ _⟩
 case round=>
  obtain⟨N,I,rfl,rfl,hI,hN,Z,Y⟩:=hrel;have hk:=λ(k:Nat) (hk:k<w.heap.size)=>Y.block k hk im;have d6:=(az (a:=⟨rb,6,none⟩) (hk rb (an w _ c6))).trans c6;have a0:=HF.block (hk tb lt);have aC:=a0.lt;have aG:rb<wr.heap.size:=an wr _ d6;clear hk;by_cases aD:I<m.nt
  .have hc:∀k,k<8->wr.cell? ⟨tb,I*8+k,none⟩=some (tC (m.T (I+1)) (je m g 5 (I+1)) k):=λk hk=>(a0.cell (I*8+k) ag).trans (congrArg some (qK m g (t:=I+1) ag hk ag));have aB:(I:Int)<m.nt:=ag
   have a6:N≠0->wr.cell? ⟨tb,(N-1)*8+5,none⟩=some (aj ((m.T N).jw:Int)):=λh=>Dy a0 h ag ag;have c0:wr.cell? ⟨tb,I*8,none⟩=some (.slice (g.ro 5 (I+1)).1 (m.T (I+1)).fr.length (g.ro 5 (I+1)).2):=hc 0 ag;have c1:wr.cell? ⟨tb,I*8+1,none⟩=some (aj ((m.T (I+1)).how:Int)):=hc 1 ag;have c2:wr.cell? ⟨tb,I*8+2,none⟩=some (aj (m.T (I+1)).into):=hc 2 ag;have c3:wr.cell? ⟨tb,I*8+3,none⟩=some (aj ((m.T (I+1)).what:Int)):=hc 3 ag;have c4:wr.cell? ⟨tb,I*8+4,none⟩=some (aj (m.T (I+1)).lH):=hc 4 ag;have c5:wr.cell? ⟨tb,I*8+5,none⟩=some (aj ((m.T (I+1)).jw:Int)):=hc 5 ag;have aF:wr.cell? ⟨tb,I*8+6,none⟩=some (aj ((m.T (I+1)).out.1:Int)):=hc 6 ag;have c7:wr.cell? ⟨tb,I*8+7,none⟩=some (aj (m.T (I+1)).out.2):=hc 7 ag;generalize (g.ro 5 (I+1)).1=a1 at *;generalize (g.ro 5 (I+1)).2=a2 at *;generalize hx:m.T (I+1)=x at *;clear hc a0;by_cases h1:x.how=how
   .by_cases h2:x.what=what
    .by_cases h3:N=0
     .have K:Hid (pX m how what (I+1) (I+1)):=Z.take (eV hx h1) (eV hx h2) (af h3);clear Z;go_wp2_with fail
      obtain⟨W,J,f1,f3,f4,f5,lW,G,o⟩:=lU wr _ _ _ _ _ _ _ _;rw[J];have y:Hid (w.grownBy W none):=ar Y G
      clear J o G Y;go_quiet (fail)
      go_wp2_with fail
      go_roundw
      case rel=>exact⟨I+1,I+1,iA,iA,ag,ag,K,⟨y.os,y.tape,y.output,y.size,y.block⟩⟩
      case measure=>simp[intOf];omega
     have j3:¬((N:Int)=0):=ag
     by_cases h4:x.jw<(m.T N).jw
     .have j4:(x.jw:Int)<((m.T N).jw:Int):=ag
      have K:=bj (Z.take (eV hx h1) (eV hx h2) (ah (eV hx h4)));clear Z;go_wp2_with fail
      obtain⟨W,J,f1,f3,f4,f5,lW,G,o⟩:=lU wr _ _ _ _ _ _ _ _;rw[J];have e6:=o _ _ d6;have y:=bj (ar Y G)
      have a5:=o _ _ (a6 h3)
      have aA:((N:Int) == 0)=false:=gG j3
      have a4:IntKind.i64.wrap ((N:Int)-1)=((N-1:Nat):Int):=by simp[IntKind.wrap,IntKind.bits,IntKind.signed];omega
      have a3:N-1<m.nt:=ag
      generalize N-1=M at a5 a4 a3;have a8:(M:Int)<m.nt:=ag
      clear J o G Y;go_quiet (fail)
      go_wp2_with fail
      go_roundw
      case rel=>exact⟨I+1,I+1,iA,iA,ag,ag,K,⟨y.os,y.tape,y.output,y.size,y.block⟩⟩
      case measure=>simp[intOf];omega
     have j4:¬((x.jw:Int)<((m.T N).jw:Int)):=ag
     have K:=bj (Z.mX h3 (kr hx));clear Z;go_wp2_with fail
     obtain⟨W,J,f1,f3,f4,f5,lW,G,o⟩:=lU wr _ _ _ _ _ _ _ _;rw[J];have e6:=o _ _ d6;have y:=bj (ar Y G)
     have a5:=o _ _ (a6 h3)
     have aA:((N:Int) == 0)=false:=gG j3
     have a4:IntKind.i64.wrap ((N:Int)-1)=((N-1:Nat):Int):=by simp[IntKind.wrap,IntKind.bits,IntKind.signed];omega
     have a3:N-1<m.nt:=ag
     generalize N-1=M at a5 a4 a3;have a8:(M:Int)<m.nt:=ag
     clear J o G Y;go_quiet (fail)
     go_wp2_with fail
     go_roundw
     case rel=>exact⟨N,I+1,iA,iA,ag,ag,K,⟨y.os,y.tape,y.output,y.size,y.block⟩⟩
     case measure=>simp[intOf];omega
    have j2:¬((x.what:Int)=what):=ag
    have b2:((x.what:Int) == (what:Int))=false:=gG j2
    have K:=bj (Z.no (by rw[hx];exact λe=>h2 e.2));clear Z;go_wp2_with fail
    obtain⟨W,J,f1,f3,f4,f5,lW,G,o⟩:=lU wr _ _ _ _ _ _ _ _;rw[J];have y:Hid (w.grownBy W none):=ar Y G
    clear J o G Y;go_quiet (fail)
    go_wp2_with fail
    go_roundw
    case rel=>exact⟨N,I+1,iA,iA,ag,ag,K,⟨y.os,y.tape,y.output,y.size,y.block⟩⟩
    case measure=>simp[intOf];omega
   have j1:¬((x.how:Int)=how):=ag
   have b1:((x.how:Int) == (how:Int))=false:=gG j1
   have K:=bj (Z.no (by rw[hx];exact λe=>h1 e.1));clear Z;go_wp2_with fail
   obtain⟨W,J,f1,f3,f4,f5,lW,G,o⟩:=lU wr _ _ _ _ _ _ _ _;rw[J];have y:Hid (w.grownBy W none):=ar Y G
   clear J o G Y;go_quiet (fail)
   go_wp2_with fail
   go_roundw
   case rel=>exact⟨N,I+1,iA,iA,ag,ag,K,⟨y.os,y.tape,y.output,y.size,y.block⟩⟩
   case measure=>simp[intOf];omega
  obtain rfl:I=m.nt:=by omega
  have a9:Hid (Ko m how what N):=by
   rcases Z with⟨h0,h1⟩|⟨h0,h1,h2,h3⟩
   .exact af ⟨h0,λu hu=>h1 u hu.1 hu.2⟩
   exact ah ⟨h0,h1,h2,λu hu=>h3 u hu.1 hu.2⟩
  clear a0 Z;go_wp2_with fail
  go_ret;exact⟨N,rfl,ag,a9,Y⟩
