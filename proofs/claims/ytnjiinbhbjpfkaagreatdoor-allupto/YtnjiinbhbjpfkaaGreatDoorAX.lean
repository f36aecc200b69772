import Derived.Test.YtnjiinbhbjpfkaaGreatDoorAV
set_option maxRecDepth 100000
set_option maxHeartbeats 0
set_option linter.all false
namespace Go.Proofs.YtnjiinbhbjpfkaaGreatDoor
open Go.RowKit Go.Proofs.Tryz
namespace D
open F
variable {p:Dp}{m m':Dm}{g g':Dg}{w w':aa}
theorem dZ.one(h:dZ p m g w)(a b c:Nat)(o:vd p m a b c=true)(e:∀x y z,vd p m' x y z=vd p m x y z)(H:dN (λk=>(ok p m g a b c).bs k) w w')(G:∀x y z,vd p m x y z=true->¬(x=a/\y=b/\z=c)->ok p m' g' x y z=ok p m g x y z)(Y:(ok p m' g' a b c).ok w')(W:∀k,(ok p m' g' a b c).bs k->(ok p m g a b c).bs k\/w.heap.size<=k)(J:g'.mb=g.mb:=by rfl):Tr p m g w m' g' w':=by
 refine h.to (λx y z=>x=a/\y=b/\z=c) (λ_=>(a,b,c)) (H.mono<|λk i _=>⟨a,b,c,⟨rfl,rfl,rfl⟩,by grind[iy]⟩) (λx y z Z=>lK (e x y z)<|λu=>G x y z u Z) ?_ ?_ J
 .grind[iy]
 grind[i,iy]
def dZ.yN(h:dZ p m g w)(j:Nat)(v:Value)(e:m'.nt=m.nt/\m'.T=m.T/\m'.q=m.q/\m'.fA=m.fA/\m'.nc=m.nc/\m'.M=m.M/\m'.ck=m.ck/\m'.ev=m.ev)(G:∀i,i<24->mE p m' g i=if i=j then v else mE p m g i):Tr p m g w m' g (w.setCell (az g.mb j) v):=by
 obtain⟨a1,a2,a3,a4,a5,Z,a7,a8⟩:=m;obtain⟨b1,Y,W,b4,J,b6,b7,b8⟩:=m';simp only at e;obtain⟨rfl,rfl,rfl,rfl,rfl,rfl,rfl,rfl⟩:=e;refine h.one 0 0 0 rfl (λx y z=>rfl) (bq (S:=λk=>(ok p _ g 0 0 0).bs k) (a:=az g.mb j) (dx _ _) (ag (show g.mb=g.mb from rfl)) _) (λx y z o hn=>?_) ?_ (λk u=>ag u)
 .exact ok_eq (e0:=λe=>dr e<|λe=>hn ⟨e,lI o<|ag af⟩) (hx:=mB o)
 exact(h.M.eE j v).congr (λi hi=>by
  rw[G i hi];rfl)
theorem JX{x x':Dt}{fv:Value}{k:Nat}{v:Value}(h:∀j,j<8->tC x' fv j=if j=k then v else tC x fv j)(m:Dm)(g:Dg)(t:Nat)(G:m.T t=x)(J:js m g 5 t=fv)(ht:1<=t)(W:k<8)(o:x'.fr=x.fr)(i:Nat):tE (m.dy t x') g i=if i=(t-1)*8+k then v else tE m g i:=by
 have H:∀u,js (m.dy t x') g 5 u=js m g 5 u:=λu=>by
  unfold js;show Value.slice _ ((m.dy t x').T u).fr.length _=Value.slice _ (m.T u).fr.length _;grind[gn,fZ]
 unfold tE;rw[H];by_cases e:i/8+1=t
 .rw[e,gn,J,h (i%8) af,G];grind
 rw[fZ _ _ e,eK]
theorem dZ.tG(h:dZ p m g w){t:Nat}(ht:nF m t){tb:Nat}(hb:g.ro 1 0=(some<|az tb 0,(g.ro 1 0).2))(k:Nat)(W:k<8)(v:Value){x':Dt}(H:x'.fr=(m.T t).fr)(hE:∀j,j<8->tC x' (js m g 5 t) j=if j=k then v else tC (m.T t) (js m g 5 t) j):Tr p m g w (m.dy t x') g (w.setCell (az tb<|(t-1)*8+k) v):=by
 have:=ht.1;have:=ht.2;have G:∀u,((m.dy t x').T u).fr=(m.T u).fr:=λu=>by
  grind[gn,fZ]
 have J:∀u i,fX (m.dy t x') u i=fX m u i:=λu i=>by grind[fX]
 let⟨b,o,h1,h2,h3⟩:=h.T af;have Z:b=tb:=by rw[hb]at o;injection o with o;injection o with o _;exact o.symm
 subst Z;have Y:∀k,(ok p m g 1 0 0).bs k↔k=b:=λk=>by
  show fk (g.ro 1 0).1=some k↔k=b;rw[hb];show some b=some k↔k=b;grind
 refine h.one 1 0 0 rfl (λx y z=>Ea (m:=m) (m':=m.dy t x') rfl (λu=>by rw[G]) rfl x y z) (bq (S:=λk=>(ok p m g 1 0 0).bs k) (dx _ _) (ag<|(Y _).2 rfl) _) (λx y z hv hn=>?_) ?_ (λk W=>ag W)
 .have h0:x≠1:=λe=>hn ⟨e,lI hv<|ag af⟩;refine ok_eq (er:=λhr=>?_) (e6:=λ_=>?_) (hx:=mB hv)
  .refine⟨rfl,?_,?_⟩
   .unfold sS;rw[G];rfl
   unfold rC;rw[av h0,av h0,G];have:fE p (m.dy t x') g y=fE p m g y:=by funext j;unfold fE;rw[J]
   rw[this];rfl
  grind
 show World.ownsRow _ 0 167 8 (.slice (g.ro 1 0).1 m.nt (g.ro 1 0).2) m.nt (rowP (m.nt*8)<|tE (m.dy t x') g);rw[o];exact oz h1 h2<|(h3.eE _ v).congr (λi hi=>(JX hE m g t rfl rfl ht.1 W H i).symm)
theorem Bl(m:Dm)(g:Dg)(t i:Nat)(f:jq):tE (m.dM t i f) g=tE m g:=by
 have o:∀u,((m.dM t i f).T u).fr.length=(m.T u).fr.length:=λu=>by
  unfold Dm.dM;by_cases e:u=t
  .subst e;rw[gn];show((m.T u).fr.set i f).length=_;grind
  grind[fZ]
 funext j
 unfold tE;have y:js (m.dM t i f) g 5 (j/8+1)=js m g 5 (j/8+1):=by
  unfold js;show Value.slice _ ((m.dM t i f).T _).fr.length _=Value.slice _ (m.T _).fr.length _;rw[o]
 rw[y];unfold Dm.dM;by_cases e:j/8+1=t
 .rw[e,gn];rfl
 grind[fZ]
theorem mj(m:Dm)(t i:Nat)(f:jq)(u:Nat):((m.dM t i f).T u).fr.length=(m.T u).fr.length:=by
 unfold Dm.dM;by_cases e:u=t
 .subst e;rw[gn];show((m.T u).fr.set i f).length=_;grind
 grind[fZ]
theorem oh(m:Dm){t i:Nat}(f:jq)(hi:i<(m.T t).fr.length)(u j:Nat):fX (m.dM t i f) u j=if u=t/\j=i then f else fX m u j:=by
 unfold fX Dm.dM;by_cases e:u=t
 .subst e;rw[gn];show((m.T u).fr.set i f).getD j oD=_;grind
 rw[fZ _ _ e,av<|λy=>e y.1]
theorem dZ.MA(h:dZ p m g w){t i:Nat}(ht:nF m t)(hi:i<(m.T t).fr.length){fb:Nat}(hb:(g.ro 5 t).1=some (az fb 0))(k:Nat)(hk:k<4)(v:Value){f:jq}(hf:f.f=(fX m t i).f)(hR:f.R=(fX m t i).R)(hE:∀j,j<4->fC p f (g.rb t i) j=if j=k then v else fC p (fX m t i) (g.rb t i) j):Tr p m g w (m.dM t i f) g (w.setCell (az fb<|i*4+k) v):=by
 let⟨b,o,h1,h2,h3⟩:=h.F ht af;have Y:b=fb:=by rw[hb]at o;injection o with o;injection o with o _;exact o.symm
 subst Y;have Z:∀k,(ok p m g 5 t 0).bs k↔k=b:=λk=>by
  show fk (g.ro 5 t).1=some k↔k=b;rw[hb];show some b=some k↔k=b;grind
 have G:∀u j,fE p (m.dM t i f) g u j=if u=t/\j=i*4+k then v else fE p m g u j:=λu j=>by
  unfold fE;rw[oh m f hi];grind
 refine h.one 5 t 0 (sK ht.1 ht.2) (λx y z=>Ea (m:=m) (m':=m.dM t i f) rfl (mj m t i f) rfl x y z) (bq (S:=λk=>(ok p m g 5 t 0).bs k) (dx _ _) (ag<|(Z _).2 rfl) _) (λx y z hv hn=>?_) ?_<|λk hk=>ag hk
 .refine ok_eq (er:=λhr=>⟨rfl,?_,?_⟩) (e6:=λ_=>?_) (hx:=mB hv)
  .unfold sS;rw[mj];rfl
  .unfold rC;rw[Bl];by_cases W:x=1
   .rw[bf W,bf W];rfl
   rw[av W,av W];by_cases J:x=3
   .rw[bf J,bf J];rfl
   rw[av J,av J];by_cases H:x=4
   .rw[bf H,bf H];rfl
   rw[av H,av H,mj];have e5:x=5:=by unfold GU at hr;omega
   subst e5;exact jK<|λj _=>by rw[G,av<|λe=>(λe=>hn ⟨rfl,e,(wz hv).2.2⟩) e.1]
  rw[oh m f hi];grind
 show World.ownsRow _ 0 163 4 (.slice (g.ro 5 t).1 ((m.dM t i f).T t).fr.length (g.ro 5 t).2) ((m.dM t i f).T t).fr.length (rowP (((m.dM t i f).T t).fr.length*4)<|fE p (m.dM t i f) g t);rw[o,mj];exact oz h1 h2 ((h3.eE (i*4+k) v).congr (λj hj=>by
  rw[G];show(if j=i*4+k then v else _)=_;grind))
theorem rA(R:Nat->B.V)(a:Nat)(v:B.V)(j:Nat):eR (B.set R a v) j=eE (eE (eR R) (a*2)<|ah v.1) (a*2+1) (ah v.2) j:=by
 unfold eE;by_cases i:j=a*2+1
 .rw[bf i];unfold eR;rw[eK,show j/2=a by omega,B.jZ]
 rw[av i];by_cases e:j=a*2
 .rw[bf e];unfold eR;rw[mL,show j/2=a by omega,B.jZ]
 rw[av e];grind[eR,B.jl]
theorem dZ.sQ(h:dZ p m g w){t i:Nat}(ht:nF m t)(hi:i<(m.T t).fr.length)(a:Nat)(v:B.V):Tr p m g w (m.dM t i<|(fX m t i).set a v) g ((w.setCell (az (g.rb t i)<|a*2)<|ah v.1).setCell (az (g.rb t i)<|a*2+1)<|ah v.2):=by
 have G:∀u,fE p (m.dM t i<|(fX m t i).set a v) g u=fE p m g u:=λu=>by
  funext j
  unfold fE;rw[oh m _ hi];by_cases e:u=t/\j/4=i
  .rw[bf e,e.1,e.2];rfl
  grind
 have o:∀k,(ok p m g 6 t i).bs k↔k=g.rb t i:=λk=>Iff.rfl;refine h.one 6 t i (Ar ht.1 ht.2 hi) (λx y z=>Ea (m:=m) (m':=m.dM t i<|(fX m t i).set a v) rfl (mj m t i _) rfl x y z) (bq (S:=λk=>(ok p m g 6 t i).bs k) (bq (S:=λk=>(ok p m g 6 t i).bs k) (dx _ _) (ag<|(o _).2 rfl) _) (ag<|(o _).2 rfl) _) (λx y z W hn=>?_) ?_<|λk J=>ag J
 .refine ok_eq (er:=λY=>⟨rfl,?_,?_⟩) (e6:=λH=>?_) (hx:=mB W)
  .unfold sS;rw[mj];rfl
  .unfold rC;rw[Bl,G,mj];rfl
  rw[oh m _ hi,av<|λe=>hn ⟨H,e⟩];grind
 show Full _ (g.rb t i) 115 (p.rg (fX (m.dM t i<|(fX m t i).set a v) t i).f*2) (p.rg (fX (m.dM t i<|(fX m t i).set a v) t i).f*2) (eR (fX (m.dM t i<|(fX m t i).set a v) t i).R);rw[oh m _ hi,bf ⟨rfl,rfl⟩];exact(((h.R ht hi).eE (a*2) _).eE (a*2+1) _).congr (λj _=>(rA _ a v j).symm)
theorem Fp{l:List B.V}{i:Nat}(hi:i<l.length)(v:B.V):nD (l.set i v)=B.set (nD l) i v:=by
 funext j
 grind[nD,B.jZ,List.getElem?_set_self,B.jl,List.getElem?_set_ne]
theorem dZ.Oc(h:dZ p m g w){c i:Nat}(G:1<=c)(W:c<=m.nc)(hi:i<(m.M c).length)(v:B.V):Tr p m g w (m.put c i v) g ((w.setCell (az (g.sb c)<|i*2)<|ah v.1).setCell (az (g.sb c)<|i*2+1)<|ah v.2):=by
 have u:∀k,((m.put c i v).M k)=if k=c then(m.M c).set i v else m.M k:=λk=>rfl
 have Y:∀k,((m.put c i v).M k).length=(m.M k).length:=λk=>by
  grind
 have o:∀k,(ok p m g 7 c 0).bs k↔k=g.sb c:=λk=>Iff.rfl;refine h.one 7 c 0 (JV G W) (λx y z=>rfl) (bq (S:=λk=>(ok p m g 7 c 0).bs k) (bq (S:=λk=>(ok p m g 7 c 0).bs k) (dx _ _) (ag<|(o _).2 rfl) _) (ag<|(o _).2 rfl) _) (λx y z J hn=>?_) ?_<|λk Z=>ag Z
 .refine ok_eq (er:=λhr=>⟨rfl,rfl,?_⟩) (e7:=λH=>?_) (hx:=mB J)
  .unfold rC;have:cE (m.put c i v) g=cE m g:=by funext j;unfold cE;rw[Y];rfl
   rw[this];rfl
  subst H;have:=Bb J;grind
 show Full _ (g.sb c) 115 (((m.put c i v).M c).length*2) (((m.put c i v).M c).length*2) (eR<|nD<|(m.put c i v).M c);rw[Y,u,bf rfl,Fp hi];exact(((h.S G W).eE (i*2) _).eE (i*2+1) _).congr (λj _=>(rA _ i v j).symm)
theorem Tr.CN{m0:Dm}{W:Dg}{w0:aa}(h0:Tr p m0 W w0 m g w)(a b:Nat)(G:vd p m a b 0=true)(ha:a≠0)(i:∀x y z,vd p m' x y z=vd p m x y z)(hO:dN (λk=>k=g.mb\/(ok p m g a b 0).bs k) w w')(Z:∀x y z,vd p m x y z=true->x≠0->¬(x=a/\y=b/\z=0)->ok p m' g' x y z=ok p m g x y z)(hM:Full w' g.mb 112 24 24 (mE p m' g'))(h2:(ok p m' g' a b 0).ok w')(h3:∀k,(ok p m' g' a b 0).bs k->(ok p m g a b 0).bs k\/(¬eJ p m g k/\w0.heap.size<=k))(J:g'.mb=g.mb:=by rfl):Tr p m0 W w0 m' g' w':=by
 refine Tr.to (λx y z=>(x=0/\y=0/\z=0)\/(x=a/\y=b/\z=0)) (λ_=>(a,b,0)) h0 (hO.mono ?_) (λx y z Y=>lK (i x y z)<|λu=>?_) ?_ ?_ J
 .rintro k (rfl|o) _
  .exact⟨0,0,0,ag ⟨rfl,rfl,rfl⟩,rfl⟩
  grind[iy]
 .grind[lI]
 .rintro x y z (⟨rfl,rfl,rfl⟩|⟨rfl,rfl,rfl⟩)
  .show Full w' g'.mb 112 24 24 (mE p m' g');grind
  grind[iy]
 rintro x y z k (⟨rfl,rfl,rfl⟩|⟨rfl,rfl,rfl⟩) o
 .exact ag<|o.trans J
 grind[iy]
def dZ.fresh(h:dZ p m g w){k:Nat}(i:w.heap.size<=k):¬eJ p m g k:=λe=>by have:=h.lt e;omega
theorem dZ.CN(h:dZ p m g w)(a b:Nat)(H:vd p m a b 0=true)(J:a≠0)(i:∀x y z,vd p m' x y z=vd p m x y z)(G:dN (λk=>k=g.mb\/(ok p m g a b 0).bs k) w w')(u:∀x y z,vd p m x y z=true->x≠0->¬(x=a/\y=b/\z=0)->ok p m' g' x y z=ok p m g x y z)(W:Full w' g.mb 112 24 24 (mE p m' g'))(Z:(ok p m' g' a b 0).ok w')(Y:∀k,(ok p m' g' a b 0).bs k->(ok p m g a b 0).bs k\/w.heap.size<=k)(hb:g'.mb=g.mb:=by rfl):Tr p m g w m' g' w':=
 Tr.CN (Tr.refl h) a b H J i G u W Z (λk o=>(Y k o).imp id<|λe=>⟨h.fresh e,e⟩) hb
def Dg.at(g:Dg)(x y:Nat)(r:Option Addr×Nat):Dg:={g with ro:=λa b=>if a=x/\b=y then r else g.ro a b}
theorem xh(g:Dg)(x y:Nat)(r:Option Addr×Nat):(g.at x y r).ro x y=r:=bf ⟨rfl,rfl⟩
theorem sr(g:Dg){x y a b:Nat}(r:Option Addr×Nat)(h:¬(a=x/\b=y)):(g.at x y r).ro a b=g.ro a b:=av h
theorem pD(m:Dm)(g:Dg){x y a b:Nat}(r:Option Addr×Nat)(h:¬(a=x/\b=y)):js m (g.at x y r) a b=js m g a b:=by grind[js,sr]
theorem Mq(m:Dm)(g:Dg){x y:Nat}(r:Option Addr×Nat)(h:x≠5):tE m (g.at x y r)=tE m g:=by
 funext j
 grind[tE,pD]
def Bw(p:Dp)(m:Dm)(g:Dg){x y:Nat}(r:Option Addr×Nat)(h:x≠5)(a b:Nat):rC p m (g.at x y r) a b=rC p m g a b:=by
 unfold rC;rw[Mq m g r h];rfl
theorem BK(p:Dp)(m:Dm)(g:Dg){x y:Nat}(r:Option Addr×Nat)(J:Nat)(Z:(x=1/\y=0/\J=6)\/(x=2/\y=0/\J=7)\/(x=3/\y=0/\J=12)\/(x=4/\y=0/\J=15)\/(x=10/\y<4/\J=8+y))(i:Nat)(hi:i≠J):mE p m (g.at x y r) i=mE p m g i:=by
 unfold mE;by_cases G:i=6
 .grind[reduceIte,Nat.reduceEqDiff,pD]
 by_cases H:i=7
 .grind[reduceIte,Nat.reduceEqDiff,pD]
 by_cases e:i=12
 .grind[reduceIte,Nat.reduceEqDiff,Nat.reduceLT,pD]
 by_cases o:i=15
 .subst o;grind[reduceIte,Nat.reduceEqDiff,Nat.reduceLT,pD]
 rw[av G,av G,av H,av H,av e,av e,av o,av o];by_cases u:i<12
 .rw[bf u,bf u];grind[pS,pD]
 grind
theorem Tr.fI{m0:Dm}{H:Dg}{w0:aa}(h0:Tr p m0 H w0 m g w){l:List Nat}{r:Option Addr×Nat}(hO:dN (λk=>k=g.mb\/fk (g.ro 2 0).1=some k) w w')(hM:Full w' g.mb 112 24 24 (eE (mE p m g) 7<|.slice r.1 l.length r.2))(Y:gj w' 3 (.slice r.1 l.length r.2) (ke l))(hb:∀k,fk r.1=some k->fk (g.ro 2 0).1=some k\/(¬eJ p m g k/\w0.heap.size<=k)):Tr p m0 H w0 (m.fI l) (g.at 2 0 r) w':=by
 refine h0.CN 2 0 (pn af) af (λ_ _ _=>rfl) hO (λx y z J Z h2=>ok_eq (e0:=λe=>dr e Z) (er:=λG=>⟨sr g _ (by grind[GU]),?_,?_⟩) (eq:=λe=>?_) (hx:=mB J)) (hM.congr<|λi hi=>?_) ?_<|λk W=>hb k ?_
 .unfold sS;have:x≠2:=by unfold GU at G;omega
  rw[av this,av this];rfl
 .rw[Bw _ _ _ _ eo];rfl
 .have u:x=10:=by
   rcases e with e|e
   .grind[lI,absurd]
   exact e
  subst u;exact⟨sr g _ af,rfl,rfl⟩
 .show(if i=7 then _ else _)=_;by_cases e:i=7
  .subst e;rw[bf rfl];show _=Value.slice ((g.at 2 0 r).ro 2 0).1 l.length ((g.at 2 0 r).ro 2 0).2;rw[xh]
  rw[av e,BK p (m.fI l) g r 7 af i e];unfold mE;rw[av e,av e];rfl
 .show gj w' 3 (.slice ((g.at 2 0 r).ro 2 0).1 l.length ((g.at 2 0 r).ro 2 0).2) (ke l);rw[xh];exact Y
 have o:fk ((g.at 2 0 r).ro 2 0).1=some k:=W;grind[xh]
theorem Tr.tv{m0:Dm}{g0:Dg}{w0:aa}(h0:Tr p m0 g0 w0 m g w){t b off c:Nat}{J:aa}(hq:gj J 3 (.slice (some<|az b off) (m.q.length+1) c) (ke m.q++[jz (t:Int)]))(G:w.grownBy J (js m g 2 0).ownBlock)(u:(js m g 2 0).ownBlock=some b\/b=w.heap.size):Tr p m0 g0 w0 (m.tv t) (g.at 2 0 (some<|az b off,c)) (J.setCell (az g.mb 7)<|.slice (some<|az b off) (m.q.length+1) c):=by
 have h:=h0.r;have Z:(js m g 2 0).ownBlock=fk (g.ro 2 0).1:=dJ _ _ _;rw[Z]at G u;have H:∀k,fk (g.ro 2 0).1=some k->k≠g.mb:=λk i=>h.ne (x:=2) (y:=0) (z:=0) (x':=0) (y':=0) (z':=0) (pn af) rfl i rfl af;have hl:(m.q++[t]).length=m.q.length+1:=kh db
 have W:b≠g.mb:=by
  rcases u with e|e
  .grind
  have:=h.M.lt;omega
 refine h0.fI (l:=m.q++[t]) (r:=(some<|az b off,c)) (bq (S:=λk=>k=g.mb\/fk (g.ro 2 0).1=some k) (a:=az g.mb 7) ⟨G.os,G.tape,G.output,G.size,λk i hn=>G.block k i<|λe=>hn<|ak e.symm⟩ (ag<|ag rfl) _) ?_ ?_<|λk i=>?_
 .rw[hl];exact(h.M.block<|G.block g.mb h.M.lt<|λe=>H g.mb e.symm rfl).eE 7 _
 .rw[hl,show ke (m.q++[t])=ke m.q++[jz (t:Int)] by grind[ke]];grind[Below.heap_setCell,Value.ownBlock,gj.block]
 have a0:k=b:=by
  have:some b=some k:=i;injection this with this;exact this.symm
 subst a0;rcases u with e|e
 .grind
 exact ak ⟨h.fresh af,gD h0.o.size⟩
theorem El(kind t:Nat)(x:Int)(h:dZ p m g w)(hn:m.ev.length<=100000):eN 195 #[P0 g.mb,ah kind,ah t,ah x] w λw'=>∃g',Tr p m g w (m.told kind t x) g' w':=by
 let⟨i0,hi,a6,a4,a2⟩:=info_parts Tryz.AU;let⟨aC,aA⟩:=h.mc 15 af (v:=.slice (g.ro 4 0).1 m.ev.length (g.ro 4 0).2) rfl;have le:=h.M.lt;have HR:=bj h;have HE:=bj h.E;have H:∀k,(Value.slice (g.ro 4 0).1 m.ev.length (g.ro 4 0).2).ownBlock=some k->k≠g.mb/\k<w.heap.size:=λk H=>⟨eU HE h.M eo k H,(dR HE k H).2.1⟩;have HK:=bj H;have hX:nB (m.ev++[(kind,t,x)])=nB m.ev++[ah kind,ah t,ah x]:=by unfold nB;simp
 have HX:=bj hX;delta eN;go_in;go_wp2_with (at_builtin;refine jR rfl (.tmp 12) (.tmp 17) 45 rfl 48 i0 _ 3 24 underlying45 hi a6 a4 a2 rfl eo _ _ _ _ rfl (dS HE<|λk h=>au _ _ _ (HK k h).2) (az (fp w) 0) 1 1 [ah kind,ah t,ah x] rfl rfl ?c1 ?c2 ?c3 ?c4 ?c5 ?_)
 try case c1=>intro j u G;match j,G with|0,G=>(simp at G;subst G;simp[Addr.add,go_sem])|1,G=>(simp at G;subst G;simp[Addr.add,go_sem])|2,G=>(simp at G;subst G;simp[Addr.add,go_sem])
 try case c2=>simp[Value.oneCell']
 try case c3=>unfold maxLen;omega
 try case c4=>omega
 try case c5=>omega
 intro v' w6 ho Y a0;obtain⟨b,c,rfl⟩:=ef ho af;have Z:=bj ho;have a5:=bj a0;have J:Hid (Full w6 g.mb 112 24 24<|mE p m g):=(HR.M.block<|au _ _ _ le).block<|Y.block g.mb fV<|λh=>(HK _ h.symm).1 rfl;have a7:Hid (dN (λk=>k=g.mb\/(ok p m g 4 0 0).bs k) w w6):=dN.trans (S1:=λk=>(Value.slice (g.ro 4 0).1 m.ev.length (g.ro 4 0).2).ownBlock=some k) (gV (dx _ w) _) ⟨Y.os,Y.tape,Y.output,Y.size,λk H hn=>Y.block k H<|λe=>hn e.symm⟩<|λk h _=>ak (by rw[dJ]at h;exact h);let⟨a3,a8⟩:=J.cells 15 af;generalize mE p m g 15=a9 at a3;go_wp2
 go_end0;have hl:(m.ev++[(kind,t,x)]).length=m.ev.length+1:=kh db
 refine⟨rfl,g.at 4 0 (some<|az b 0,c),HR.CN 4 0 (pn af) af (λ_ _ _=>rfl) (bq a7 (ag<|ag rfl) _) (λx y z hv h0 h4=>ok_eq (e0:=λe=>dr e h0) (er:=λhr=>?_) (eq:=λe=>by rcases e with rfl|rfl<;>exact⟨sr g _ af,rfl,rfl⟩) (hx:=mB hv)) ?_ ?_ ?_⟩
 .have W:¬(x=4/\y=0):=λe=>h4 ⟨e.1,e.2,(lI hv af).2⟩;refine⟨sr g _ W,?_,?_⟩
  .unfold sS;have:x≠4:=λe=>W ⟨e,(lI hv af).1⟩;rw[av this,av this];rfl
  rw[Bw _ _ _ _ eo];have:x≠4:=λe=>W ⟨e,(lI hv af).1⟩;unfold rC;rw[av this,av this];rfl
 .refine(J.eE 15 _).congr (λi hi=>?_);unfold eE;by_cases e:i=15
  .subst e;rw[bf rfl];show _=Value.slice ((g.at 4 0 (some<|az b 0,c)).ro 4 0).1 (m.ev++[(kind,t,x)]).length ((g.at 4 0 (some<|az b 0,c)).ro 4 0).2;rw[xh,hl]
  rw[av e,BK p (m.told kind t x) g _ 15 af i e];unfold mE;rw[av e,av e];rfl
 .show World.ownsRow _ 0 48 3 (.slice ((g.at 4 0 (some<|az b 0,c)).ro 4 0).1 (m.ev++[(kind,t,x)]).length ((g.at 4 0 (some<|az b 0,c)).ro 4 0).2) (m.ev++[(kind,t,x)]).length (nB<|m.ev++[(kind,t,x)]);rw[xh,hl,HX.out];exact dS Z<|λk h=>ab _ _ _ _<|eU Z J eo k h
 intro k H;have a1:fk ((g.at 4 0 (some<|az b 0,c)).ro 4 0).1=some k:=H;rw[xh]at a1;have o:some b=some k:=a1;injection o with o;subst o;rcases a5 with h1|⟨b',h1,h2⟩
 .left
  show fk (g.ro 4 0).1=some b;rw[<-dJ (g.ro 4 0).1 m.ev.length (g.ro 4 0).2,<-h1];rfl
 have:b=b':=by injection h1
 right
 first|omega|(simp at h2;omega)
theorem cellS{w:aa}{b o k j:Nat}{v x:Value}(h:w.cell? (az k j)=some x)(e:k≠b):((w.setCell (az b o) v).drew).cell? (az k j)=some x:=(bd (a:=az k j)<|ab w (az b o) v k e).trans h
theorem fm{n:Nat}(h:n<1000000000):IntKind.i64.wrap ((n:Int)+1-1)=(n:Int):=by grind[IntWalk.i64_left,IntWalk.wrap64_in]
structure LZ(p:Dp) (m:Dm) (g:Dg) (w:aa) (t tb fb n:Nat):Prop where
 l:(m.T t).fr.length=n+1
 a:(g.ro 5 t).1=some ⟨fb,0,none⟩
 b:g.ro 1 0=(some ⟨tb,0,none⟩,(g.ro 1 0).2)
 c6:w.cell? ⟨g.mb,6,none⟩=some (.slice (some ⟨tb,0,none⟩) m.nt (g.ro 1 0).2)
 t0:w.cell? ⟨tb,(t-1)*8,none⟩=some (.slice (some ⟨fb,0,none⟩) (n+1) (g.ro 5 t).2)
 k0:w.cell? ⟨fb,n*4,none⟩=some (jz (fX m t n).f)
 k1:w.cell? ⟨fb,n*4+1,none⟩=some (.slice (some ⟨g.rb t n,0,none⟩) (p.rg (fX m t n).f)<|p.rg (fX m t n).f)
 k2:w.cell? ⟨fb,n*4+2,none⟩=some (jz (fX m t n).nx)
 k3:w.cell? ⟨fb,n*4+3,none⟩=some (jz (fX m t n).bk.2.1)
 z:∀k,k<4->w.frozen? ⟨fb,n*4+k,none⟩=false
 n1:g.mb≠fb
 n2:tb≠fb
 n3:g.mb≠tb
 lf:fb<w.heap.size
 lt:tb<w.heap.size
theorem dZ.top(h:dZ p m g w){t:Nat}(ht:nF m t)(hn:(m.T t).fr.length≠0):∃tb fb n,LZ p m g w t tb fb n:=by
 let⟨b,H,W,Z,e⟩:=h.F ht hn;let⟨tb,J,o,tc⟩:=h.tc ht;obtain⟨n,u⟩:∃n,(m.T t).fr.length=n+1:=⟨(m.T t).fr.length-1,af⟩;rw[u]at e W;have k0:=e.cell (n*4) af;have k1:=e.cell (n*4+1) af;have k2:=e.cell (n*4+2) af;have y:=e.cell (n*4+3) af;have G:=vD p m g t (i:=n) (k:=0) af;rw[Nat.add_zero]at G;rw[G]at k0;rw[vD p m g t af]at k1 k2 y;refine⟨tb,b,n,u,H,J,?_,?_,k0,k1,k2,y,λk Y=>(e.cells (n*4+k) af).2,h.M.ne e eo,o.ne e eo,h.M.ne o eo,e.lt,o.lt⟩
 .rw[show some ((az tb 0):Addr)=(g.ro 1 0).1 by rw[J]];exact(h.mc 6 af rfl).1
 have:=(tc.c 0 af).1;rw[Nat.add_zero]at this;rw[this];show some (Value.slice (g.ro 5 t).1 (m.T t).fr.length _)=_;rw[H,u]
theorem Iy{k tb fb n:Nat}(t:LZ p m g w (k+1) tb fb n)(hn:n<20)(J:k<m.nt)(hm:m.nt<1000000000)(a:Nat):eN 213 #[P0 g.mb,ah<|(k:Int)+1,ah a] w λw'=>w'=(w.setCell (az fb<|n*4+2)<|jz a).drew:=by
 obtain⟨_,_,_,y,o,_,_,k2,_,z,G,H,n3,lf,lt⟩:=t;rw[dF]at o;generalize (g.ro 1 0).2=u at*;generalize (g.ro 5<|k+1).2=i at*;generalize (fX m (k+1) n).nx=nx at*;generalize g.mb=rb at*;generalize m.nt=nt at*;have q1:(0:Int)<=n:=af
 have q2:(n:Int)<n+1:=af
 have W:=fm (n:=n) af;have q4:IntKind.i64.wrap (n:Int)=n:=jA
 have q5:=fm (n:=k) af;have q6:IntKind.i64.wrap (k:Int)=k:=jA
 have Z:(0:Int)<=k:=af
 have q8:(k:Int)<nt:=af
 delta eN;go_in;go_wp2
 go_region_held3 (λw'=>dW w' rb 6=some (dD tb nt u)/\dW w' tb (k*8)=some (dD fb (n+1) i)) (first|exact⟨y,o⟩|grind[cellS]) (fail)
 go_end0;grind
def dZ.Jo(h:dZ p m g w){t tb fb n:Nat}(ht:nF m t)(T:LZ p m g w t tb fb n)(a:Nat):Tr p m g w (m.dM t n {fX m t n with nx:=a}) g (w.setCell (az fb<|n*4+2)<|jz a):=by
 refine h.MA ht (lD T.l) T.a 2 af (jz a) (f:={fX m t n with nx:=a}) rfl rfl (λj i=>?_);have e:=pS 3 j af
 rcases e with rfl|rfl|rfl|rfl<;>rfl
def Jv{t tb fb n:Nat}(h:dZ p m g w)(ht:nF m t)(T:LZ p m g w t tb fb n)(hn:n<20)(i:m.nt<1000000000)(a:Nat):eN 213 #[P0 g.mb,ah t,ah a] w λw'=>Tr p m g w (m.dM t n {fX m t n with nx:=a}) g w':=by
 obtain⟨k,rfl⟩:∃k,t=k+1:=⟨t-1,af⟩;refine dq (Iy T hn af i a) ?_;rintro w' rfl;exact⟨rfl,(h.Jo ht T a).kept<|bo<|aw _ _⟩
theorem G1{rb k tb nt cap i how what:Nat}{into:Int}{Z J W Y:Value}(hk:k<nt)(hn:nt<1000000000)(hs:i<1000000000)(c6:w.cell? (az rb 6)=some (dD tb nt cap))(o:w.cell? (az rb 13)=some (ah i)/\w.frozen? (az rb 13)=false)(y:w.cell? (az tb<|k*8+1)=some Z/\w.frozen? (az tb<|k*8+1)=false)(G:w.cell? (az tb<|k*8+2)=some J/\w.frozen? (az tb<|k*8+2)=false)(H:w.cell? (az tb<|k*8+3)=some W/\w.frozen? (az tb<|k*8+3)=false)(u:w.cell? (az tb<|k*8+5)=some Y/\w.frozen? (az tb<|k*8+5)=false)(ne:rb≠tb):eN 228 #[P0 rb,ah<|(k:Int)+1,ah how,ah what,ah into] w λw'=>(((((w.setCell (az rb 13)<|jz ((i+1:Nat):Int)).setCell (az tb<|k*8+1)<|jz how).setCell (az tb<|k*8+3)<|jz what).setCell (az tb<|k*8+2)<|jz into).setCell (az tb<|k*8+5)<|jz ((i+1:Nat):Int)).grownBy w' none:=by
 obtain⟨o,a0⟩:=o;obtain⟨y,z1⟩:=y;obtain⟨G,z2⟩:=G;obtain⟨H,z3⟩:=H;obtain⟨u,z5⟩:=u;have q5:=fm (n:=k) af;have q6:IntKind.i64.wrap (k:Int)=k:=jA
 have q7:(0:Int)<=k:=af
 have q8:(k:Int)<nt:=af
 have q9:IntKind.i64.wrap ((i:Int)+1)=(i:Int)+1:=jA
 delta eN;go_in;go_wp2
 go_region
 all_goals
  go_wp2
  go_end0;refine⟨rfl,?_⟩;first
   |exact aw _ _
   |exact bo<|aw _ _
   |exact df (aw _ _) _
def D6{t how what:Nat}{into:Int}(h:dZ p m g w)(ht:nF m t)(hn:m.nt<1000000000)(hs:m.jI<1000000000):eN 228 #[P0 g.mb,ah (t:Int),ah (how:Int),ah (what:Int),ah into] w λw'=>Tr p m g w (m.wait t how what into) g w':=by
 obtain⟨k,rfl⟩:∃k,t=k+1:=⟨t-1,af⟩;let⟨tb,W,hT,tc⟩:=h.tc ht;have Y:w.cell? ⟨g.mb,6,none⟩=some (.slice (some ⟨tb,0,none⟩) m.nt (g.ro 1 0).2):=by
  rw[show some (⟨tb,0,none⟩:Addr)=(g.ro 1 0).1 by rw[W]];exact(h.mc 6 af rfl).1
 refine(G1 (how:=how) (what:=what) (into:=into) af hn hs Y (h.mc 13 af rfl) (tc.c 1 af) (tc.c 2 af) (tc.c 3 af) (tc.c 5 af)<|h.M.ne hT eo).mono ?_;rintro e w' ⟨rfl,hg⟩;refine⟨rfl,Tr.kept ?_ hg⟩;have G:Tr p m g w {m with jI:=m.jI+1} g (iA w g.mb 13<|jz ((m.jI+1:Nat):Int)):=h.yN 13 _ ⟨rfl,rfl,rfl,rfl,rfl,rfl,rfl,rfl⟩ (λi hi=>by
  by_cases e:i=13
  .subst e;rfl
  rw[av e];unfold mE;rw[av e,av e];rfl)
 have step:∀{m1:Dm} {w1:aa} (j:Nat) (v:Value) (x:Dt),j<8->dZ p m1 g w1->nF m1 (k+1)->x.fr=(m1.T<|k+1).fr->(∀i,i<8->tC x (js m1 g 5<|k+1) i=if i=j then v else tC (m1.T<|k+1) (js m1 g 5<|k+1) i)->Tr p m1 g w1 (m1.dy (k+1) x) g (iA w1 tb (k*8+j) v):=λj v x Z hr hd hf hE=>hr.tG hd W j Z v hf hE;have o:∀i:Nat,i<8->i=0\/i=1\/i=2\/i=3\/i=4\/i=5\/i=6\/i=7:=λi hi=>by omega
 have J:=step 1 (jz how) {m.T (k+1) with how:=how} af G.r ht rfl (λi hi=>by (have h':=o i hi;repeat' rcases h' with rfl|h')<;>rfl);have y:=step 3 (jz what) {m.T (k+1) with how:=how,what:=what} af J.r ht (by rw[gn]) (λi hi=>by rw[gn];(have h':=o i hi;repeat' rcases h' with rfl|h')<;>rfl);rw[kj]at y;have u:=step 2 (jz into) {m.T (k+1) with how:=how,what:=what,into:=into} af y.r ht (by rw[gn]) (λi hi=>by rw[gn];(have h':=o i hi;repeat' rcases h' with rfl|h')<;>rfl);rw[kj]at u;have H:=step 5 (jz ((m.jI+1:Nat):Int)) ((m.T<|k+1).wt how what into<|m.jI+1) af u.r ht (kh gn) (λi hi=>by rw[gn];(have h':=o i hi;repeat' rcases h' with rfl|h')<;>rfl);rw[kj]at H;exact(((G.trans J).trans y).trans u).trans H
def Tryz.th:(prog.info? 3).map (λi=>(i.zero,i.size,i.bytes))=some (some<|ah 0,1,8):=by kernel_rfl
def Tryz.jw:prog.underlying 54=some (.slice 3):=by kernel_rfl
def JI(w:aa)(tb k ql qc:Nat)(qa:Option Addr)(xs:List Value)(w6:aa)(b off c:Nat):Prop:=
 ∃o1 o2 o3,gj w6 3 (.slice (some ⟨b,off,none⟩) (xs.length+1) c) (xs++[.int .i64<|(k:Int)+1])/\((((w.setCell ⟨tb,k*8+1,none⟩<|.int .i64 1).alloc o1).alloc o2).alloc o3).grownBy w6 (Value.slice qa ql qc).ownBlock/\((Value.slice qa ql qc).ownBlock=some b\/b=w.heap.size+1+1+1)
theorem CV{rb tb cap k nt fl fc G u:Nat}{fa y:Option Addr}{v0 v1:Int}{x:Dt}{xs:List Value}(hk:k<nt)(hn:nt<1000000000)(hx:xs.length<=1000000000)(c6:w.cell? (az rb 6)=some (dD tb nt cap))(q7:w.cell? (az rb 7)=some (.slice y G u)/\w.frozen? (az rb 7)=false)(i:∀j,j<8->w.cell? (az tb<|k*8+j)=some (tC x (.slice fa fl fc) j)/\w.frozen? (az tb<|k*8+j)=false)(hQ:gj w 3 (.slice y G u) xs)(ne:rb≠tb)(H:∀j,(Value.slice y G u).ownBlock=some j->j≠rb/\j≠tb)(a6:x.into<0):eN 144 #[P0 rb,ah<|(k:Int)+1,.agg #[ah v0,ah v1]] w λw'=>∃b off c o,JI w tb k G u y xs o b off c/\w'=o.setCell (az rb 7) (.slice (some<|az b off) (xs.length+1) c):=by
 let⟨i0,hi,a2,a1,a0⟩:=info_parts Tryz.th;obtain⟨q7,z7⟩:=q7;have z1:=(i 1 af).2;have lr:=an w _ c6;have c1:w.cell? (az tb<|k*8+1)=some (ah x.how):=(i 1 af).1;have lt:=an w _ c1;have Z:∀j,(Value.slice y G u).ownBlock=some j->j≠rb/\j≠tb/\j<w.heap.size:=λj h=>⟨(H j h).1,(H j h).2,hQ.lt j h⟩;have HQ:=bj hQ;have HK:=bj Z;have c0:w.cell? (az tb<|k*8)=some (.slice fa fl fc):=(i 0 af).1;have c2:w.cell? (az tb<|k*8+2)=some (ah x.into):=(i 2 af).1;have c3:w.cell? (az tb<|k*8+3)=some (ah x.what):=(i 3 af).1;have c4:w.cell? (az tb<|k*8+4)=some (ah x.me):=(i 4 af).1;have c5:w.cell? (az tb<|k*8+5)=some (ah x.jI):=(i 5 af).1;have a5:w.cell? (az tb<|k*8+6)=some (ah x.out.1):=(i 6 af).1;have c7:w.cell? (az tb<|k*8+7)=some (ah x.out.2):=(i 7 af).1;clear i hQ H Z;have q5:=fm (n:=k) af;have a4:(0:Int)<=k:=af
 have q8:(k:Int)<nt:=af
 have a3:¬(0<=x.into):=af
 delta eN;go_in;go_wp2_with (at_builtin;refine ju _ rfl (.tmp 27) (.tmp 29) 54 rfl 3 i0 _ 8 Tryz.jw hi a2 a1 a0 rfl _ xs rfl (HQ.block ?cq) _ _ (ah<|(k:Int)+1) rfl ?c1 rfl ?c3 ?c4 ?_)
 case cq=>
  intro j h;let⟨k1,k2,k3⟩:=HK j h;grind[Below.heap_alloc,Below.heap_setCell]
 try case c1=>simp[go_sem]
 try case c3=>unfold maxLen;omega
 try case c4=>omega
 intro g off c o hq W J;have KR:Hid (JI w tb k G u y xs o g off c):=⟨_,_,_,hq,W,J⟩;have f2:o.cell? (az (w.heap.size+1) 2)=some (ah x.into):=by
  rw[bd<|W.block (w.heap.size+1) eG (λh=>by have:=(HK _ h.symm).2.2;omega)];simp[go_sem]
 have b0:o.heap[rb]?=w.heap[rb]?:=by rw[W.block rb fV<|λh=>(HK rb h.symm).1 rfl,au _ _ _ fV,au _ _ _ fV,au _ _ _ fV,ab _ _ _ _ ne]
 have d7:=(bd (a:=az rb 7) b0).trans q7;have e7:=(dv (a:=az rb 7) b0).trans z7
 go_wp2_with fail
 go_end0;exact⟨rfl,g,off,c,o,KR,rfl⟩
theorem AA{rb tb cap k nt f fc J G fb r vb rl rc:Nat}{H:Option Addr}{v0 v1:Int}{x:Dt}{xs:List Value}{o8 o9:Value}(hk:k<nt)(hn:nt<1000000000)(hx:xs.length<=1000000000)(c6:w.cell? (az rb 6)=some (dD tb nt cap))(q7:w.cell? (az rb 7)=some (.slice H J G)/\w.frozen? (az rb 7)=false)(o:∀j,j<8->w.cell? (az tb<|k*8+j)=some (tC x (dD fb (f+1) fc) j)/\w.frozen? (az tb<|k*8+j)=false)(hQ:gj w 3 (.slice H J G) xs)(ne:rb≠tb)(y:∀j,(Value.slice H J G).ownBlock=some j->j≠rb/\j≠tb/\j≠vb/\j≠fb)(a2:x.into=(r:Int))(Z:w.cell? (az fb<|f*4+1)=some (dD vb rl rc))(a5:fb≠tb/\fb≠rb)(nv:vb≠rb/\vb≠tb/\vb≠fb)(a0:w.cell? (az vb<|r*2)=some o8/\w.frozen? (az vb<|r*2)=false)(a4:w.cell? (az vb<|r*2+1)=some o9/\w.frozen? (az vb<|r*2+1)=false)(hr:r<rl)(hf:f<=100000):eN 144 #[P0 rb,ah<|(k:Int)+1,.agg #[ah v0,ah v1]] w λw'=>∃b off c i,JI w tb k J G H xs i b off c/\(((i.setCell (az rb 7)<|.slice (some<|az b off) (xs.length+1) c).setCell (az vb<|r*2)<|ah v0).setCell (az vb<|r*2+1)<|ah v1).grownBy w' none:=by
 obtain⟨i0,hi,aA,a9,aB⟩:=info_parts Tryz.th;obtain⟨q7,z7⟩:=q7;have z1:=(o 1 af).2;have lr:=an w _ c6;have c1:w.cell? (az tb<|k*8+1)=some (ah x.how):=(o 1 af).1;have lt:=an w _ c1;have a7:∀j,(Value.slice H J G).ownBlock=some j->j≠rb/\j≠tb/\j<w.heap.size/\j≠vb/\j≠fb:=λj h=>⟨(y j h).1,(y j h).2.1,hQ.lt j h,(y j h).2.2⟩;have HQ:=bj hQ;have Y:=bj a7;have lv:=an w _ a0.1;have lf:=an w _ Z;have c0:w.cell? (az tb<|k*8)=some (dD fb (f+1) fc):=(o 0 af).1;have c2:w.cell? (az tb<|k*8+2)=some (ah r):=by rw[<-a2];exact(o 2 af).1
 have c3:w.cell? (az tb<|k*8+3)=some (ah x.what):=(o 3 af).1;have c4:w.cell? (az tb<|k*8+4)=some (ah x.me):=(o 4 af).1;have c5:w.cell? (az tb<|k*8+5)=some (ah x.jI):=(o 5 af).1;have aJ:w.cell? (az tb<|k*8+6)=some (ah x.out.1):=(o 6 af).1;have c7:w.cell? (az tb<|k*8+7)=some (ah x.out.2):=(o 7 af).1;have aC:=bj Z;have a1:=bj a0;have a8:=bj a4;clear o hQ y a7 a2 Z a0 a4;have q5:=fm (n:=k) af;have aG:(0:Int)<=k:=af
 have q8:(k:Int)<nt:=af
 have aO:(r:Int)<rl:=af
 delta eN;go_in;go_wp2_with (at_builtin;refine ju _ rfl (.tmp 27) (.tmp 29) 54 rfl 3 i0 _ 8 Tryz.jw hi aA a9 aB rfl _ xs rfl (HQ.block ?cq) _ _ (ah<|(k:Int)+1) rfl ?c1 rfl ?c3 ?c4 ?_)
 case cq=>
  intro j h;obtain⟨k1,k2,k3,_⟩:=Y j h;grind[Below.heap_alloc,Below.heap_setCell]
 try case c1=>simp[go_sem]
 try case c3=>unfold maxLen;omega
 try case c4=>omega
 intro g off c i hq W a3;have KR:Hid (JI w tb k J G H xs i g off c):=⟨_,_,_,hq,W,a3⟩;have a6:=W.size;have u:∀j,j<w.heap.size->j≠tb->(Value.slice H J G).ownBlock≠some j->i.heap[j]?=w.heap[j]?:=λj hj h1 h2=>by rw[W.block j fV<|λh=>h2 h.symm,au _ _ _ fV,au _ _ _ fV,au _ _ _ fV,ab _ _ _ _ h1]
 have b0:=u rb lr ne<|λh=>(Y rb h).1 rfl;have b2:=u vb lv nv.2.1<|λh=>(Y vb h).2.2.2.1 rfl;have b3:=u fb lf a5.1<|λh=>(Y fb h).2.2.2.2 rfl;have d7:=(bd (a:=az rb 7) b0).trans q7;have e7:=(dv (a:=az rb 7) b0).trans z7;have g1:i.cell? (az fb<|f*4+1)=some (dD vb rl rc):=(bd (a:=az fb<|f*4+1) b3).trans aC;have aD:=(bd (a:=az vb<|r*2) b2).trans a1.1;have aI:=(dv (a:=az vb<|r*2) b2).trans a1.2;have aE:=(bd (a:=az vb<|r*2+1) b2).trans a8.1;have aN:=(dv (a:=az vb<|r*2+1) b2).trans a8.2;have f2:i.cell? (az (w.heap.size+1) 2)=some (ah r):=by
  rw[bd<|W.block (w.heap.size+1) eG (λh=>by have:=(Y _ h.symm).2.2.1;omega)];simp[go_sem]
 have f0:i.cell? (az (w.heap.size+1) 0)=some (dD fb (f+1) fc):=by
  rw[bd<|W.block (w.heap.size+1) eG (λh=>by have:=(Y _ h.symm).2.2.1;omega)];simp[go_sem]
 have aK:i.cell? (az w.heap.size 0)=some (ah v0):=by
  rw[bd (a:=az w.heap.size 0)<|W.block w.heap.size fV (λh=>by have:=(Y _ h.symm).2.2.1;omega)];simp[go_sem]
 have aF:i.cell? (az w.heap.size 1)=some (ah v1):=by
  rw[bd (a:=az w.heap.size 1)<|W.block w.heap.size fV (λh=>by have:=(Y _ h.symm).2.2.1;omega)];simp[go_sem]
 have n7:¬(rb=vb):=λe=>nv.1 e.symm;clear hq W a3 b0 b2 b3 a6 u;have aL:IntKind.i64.wrap ((f:Int)+1-1)=(f:Int):=fm af;have aM:(f:Int)<f+1:=af
 have aH:(0:Int)<=f:=af
 go_wp2_with fail
 go_region
 all_goals
  go_wp2_with fail
  go_end0;refine⟨rfl,g,off,c,i,KR,?_⟩;first
   |exact aw _ _
   |exact bo<|aw _ _
   |exact df (aw _ _) _
   |exact⟨rfl,rfl,rfl,bm _,λ_ _ _=>rfl⟩
theorem jM(l:List Nat):(ke l).length=l.length:=by grind[ke,List.length_map]
def AB{t:Nat}(v:B.V)(h:dZ p m g w)(ht:nF m t)(hn:m.nt<1000000000)(hq:m.q.length<=1000000000)(a5:0<=(m.T t).into->(m.T t).fr.length≠0/\(m.T t).fr.length<=20/\(m.T t).into.toNat<p.rg (qz m t).f):eN 144 #[P0 g.mb,ah t,vA v] w λw'=>∃g',Tr p m g w (m.ready t v) g' w':=by
 obtain⟨k,rfl⟩:∃k,t=k+1:=⟨t-1,af⟩;let⟨tb,e1,hT,tc⟩:=h.tc ht;have c6:w.cell? ⟨g.mb,6,none⟩=some (.slice (some ⟨tb,0,none⟩) m.nt (g.ro 1 0).2):=by
  rw[show some (⟨tb,0,none⟩:Addr)=(g.ro 1 0).1 by rw[e1]];exact(h.mc 6 af rfl).1
 have a8:(js m g 2 0).ownBlock=fk (g.ro 2 0).1:=dJ _ _ _;have u:∀j,(js m g 2 0).ownBlock=some j->(ok p m g 2 0 0).bs j:=λj o=>by rw[a8]at o;exact o
 have v0:vd p m 0 0 0=true:=rfl;have v1:vd p m 1 0 0=true:=rfl;have W:vd p m 2 0 0=true:=rfl;have b0:(ok p m g 0 0 0).bs g.mb:=rfl;have G:(ok p m g 1 0 0).bs tb:=by
  show fk (g.ro 1 0).1=some tb;rw[e1];rfl
 have ne:=h.M.ne hT eo;have cs:∀i:Nat,i<8->i=0\/i=1\/i=2\/i=3\/i=4\/i=5\/i=6\/i=7:=λi hi=>by omega
 have h1:Tr p m g w (m.dy (k+1)<|(m.T<|k+1).hw 1) g (iA w tb (k*8+1)<|ah 1):=h.tG ht e1 1 af _ rfl (λi hi=>by (have h':=cs i hi;repeat' rcases h' with rfl|h')<;>rfl);have vZ:∀b off c H,JI w tb k m.q.length (g.ro 2 0).2 (g.ro 2 0).1 (ke m.q) H b off c->Tr p m g w (m.vZ<|k+1) (g.at 2 0 (some ⟨b,off,none⟩,c)) (iA H g.mb 7<|.slice (some ⟨b,off,none⟩) (m.q.length+1) c):=λb off c H hR=>by
  obtain⟨o1,o2,o3,r1,r2,r3⟩:=hR;rw[jM]at r1;exact Tr.tv (t:=k+1) (((h1.kept<|aj _ o1 none).kept<|aj _ o2 none).kept<|aj _ o3 none) r1 r2<|r3.imp id (λe=>by rw[e];simp)
 have Z:(ke m.q).length<=1000000000:=eZ jM hq
 by_cases hi:0<=(m.T<|k+1).into
 .let⟨f1,f2,f3⟩:=a5 hi;let⟨a4,fb,n,T⟩:=h.top ht f1;have a7:a4=tb:=by
   have:=T.b;rw[e1]at this;injection this with this _;injection this with this;injection this with this _;exact this.symm
  subst a7;have a1:qE m (k+1)=n:=by unfold qE;rw[T.l];omega
  have a3:qz m (k+1)=fX m (k+1) n:=by unfold qz;rw[a1]
  rw[a3]at f3;have J:n<(m.T<|k+1).fr.length:=lD T.l
  have a2:=h.R ht J;have y:(ok p m g 6 (k+1) n).bs (g.rb (k+1) n):=rfl;have a0:(ok p m g 5 (k+1) 0).bs fb:=by
   show fk (g.ro 5<|k+1).1=some fb;rw[T.a];rfl
  have v5:=sK (p:=p) (m:=m) ht.1 ht.2;have v6:=Ar (p:=p) (m:=m) ht.1 ht.2 J;refine(AA (fc:=(g.ro 5<|k+1).2) (x:=m.T<|k+1) (r:=(m.T<|k+1).into.toNat) (v0:=(v.1:Int)) (v1:=v.2) (xs:=ke m.q) af hn Z c6 (h.mc 7 af rfl) (λj o=>?_) h.Q ne (λj o=>⟨h.ne W v0 (u j o) b0 af,h.ne W v1 (u j o) G af,h.ne W v6 (u j o) y af,h.ne W v5 (u j o) a0 af⟩) af T.k1 ⟨T.n2.symm,T.n1.symm⟩ ⟨h.ne v6 v0 y b0 af,h.ne v6 v1 y G af,h.ne v6 v5 y a0 af⟩ (a2.cells _ af) (a2.cells _ af) f3 af).mono ?_
  .have:=tc.c j o;have hs:js m g 5 (k+1)=.slice (some ⟨fb,0,none⟩) (n+1) (g.ro 5<|k+1).2:=by
    show Value.slice (g.ro 5<|k+1).1 (m.T<|k+1).fr.length _=_;rw[T.a,T.l]
   rw[hs]at this;exact this
  rintro e w' ⟨rfl,b,off,c,H,hR,hg⟩;rw[jM]at hg;have h2:=vZ b off c H hR;have Y:((m.vZ<|k+1).T<|k+1)=(m.T<|k+1).hw 1:=gn _ _ _;have a6:fX (m.vZ<|k+1) (k+1) n=fX m (k+1) n:=by unfold fX;rw[Y];rfl
  have h3:=h2.r.sQ (t:=k+1) (i:=n) ht (eZ Y J) (m.T<|k+1).into.toNat v;refine⟨rfl,g.at 2 0 (some ⟨b,off,none⟩,c),?_⟩;unfold Dm.ready;rw[bf hi,a1,a3];rw[a6]at h3;exact(h2.trans h3).kept hg
 refine(CV (x:=m.T<|k+1) (v0:=(v.1:Int)) (v1:=v.2) (xs:=ke m.q) af hn Z c6 (h.mc 7 af rfl) (λj o=>tc.c j o) h.Q ne (λj o=>⟨h.ne W v0 (u j o) b0 af,h.ne W v1 (u j o) G af⟩) af).mono ?_;rintro e w' ⟨rfl,b,off,c,H,hR,rfl⟩;refine⟨rfl,g.at 2 0 (some ⟨b,off,none⟩,c),?_⟩;unfold Dm.ready;rw[av hi,jM];exact vZ b off c H hR
def Fm(p:Dp)(m:Dm)(g:Dg)(t:Nat)(x:Dt)(r:Option Addr×Nat):mE p (m.dy t x) (g.at 5 t r)=mE p m g:=by
 have o:∀a b,a≠5->js (m.dy t x) (g.at 5 t r) a b=js m g a b:=λa b u=>by
  rw[pD _ _ _<|λe=>u e.1];unfold js sS;rw[av u,av u];rfl
 funext i
 unfold mE;rw[o 1 0 eo,o 2 0 eo,o 10 _ eo,o 3 0 eo,o 4 0 eo];rfl
def Ep(m:Dm)(g:Dg){t:Nat}(ht:1<=t)(l:List jq)(r:Option Addr×Nat)(i:Nat):tE (m.dy t<|(m.T t).mR l) (g.at 5 t r) i=if i=(t-1)*8 then .slice r.1 l.length r.2 else tE m g i:=by
 unfold tE;by_cases e:i/8+1=t
 .rw[e,gn];by_cases o:i=(t-1)*8
  .rw[bf o,show i%8=0 by omega];show Value.slice ((g.at 5 t r).ro 5 t).1 ((m.dy t<|(m.T t).mR l).T t).fr.length ((g.at 5 t r).ro 5 t).2=_;rw[xh,gn];rfl
  rw[av o];have u:¬i%8=0:=af
  unfold tC;rw[av u,av u];rfl
 rw[eK,fZ _ _ e];have:js (m.dy t<|(m.T t).mR l) (g.at 5 t r) 5 (i/8+1)=js m g 5 (i/8+1):=by
  rw[pD _ _ _<|λy=>e y.2];unfold js;show Value.slice _ ((m.dy t _).T _).fr.length _=Value.slice _ (m.T _).fr.length _;rw[fZ _ _ e]
 rw[this]
theorem DI(p:Dp)(m:Dm){g:Dg}{tb c:Nat}(i:g.ro 1 0=(some<|az tb 0,c))(k:Nat):(ok p m g 1 0 0).bs k↔k=tb:=by
 show fk (g.ro 1 0).1=some k↔k=tb;rw[i];show some tb=some k↔k=tb;grind
theorem dZ.shrink(h:dZ p m g w){t:Nat}(ht:nF m t){tb:Nat}(hb:g.ro 1 0=(some<|az tb 0,(g.ro 1 0).2)){j:Nat}(hj:j<=(m.T t).fr.length){r:Option Addr×Nat}(hr:r=g.ro 5 t\/(r=(none,0)/\j=0)):Tr p m g w (m.dy t<|(m.T t).mR<|(m.T t).fr.take j) (g.at 5 t r) (w.setCell (az tb<|(t-1)*8)<|.slice r.1 j r.2):=by
 have:=ht.1;have:=ht.2;have W:((m.T t).fr.take j).length=j:=lD List.length_take
 have H:(m.dy t<|(m.T t).mR<|(m.T t).fr.take j).T t=(m.T t).mR ((m.T t).fr.take j):=gn _ _ _;have Y:∀y z,(y=t->z<j)->fX (m.dy t<|(m.T t).mR<|(m.T t).fr.take j) y z=fX m y z:=λy z a3=>by
  unfold fX;by_cases e:y=t
  .subst e;rw[H];show((m.T y).fr.take j).getD z oD=_;grind
  grind[fZ]
 have a2:∀x y z,¬(x=6/\y=t/\j<=z)->vd p (m.dy t<|(m.T t).mR<|(m.T t).fr.take j) x y z=vd p m x y z:=λx y z hC=>by
  unfold vd;by_cases e:x=6
  .subst e;show decide (1<=y/\y<=m.nt/\z<((m.dy t<|(m.T t).mR<|(m.T t).fr.take j).T y).fr.length)=decide (1<=y/\y<=m.nt/\z<(m.T y).fr.length);by_cases e2:y=t
   .subst e2;rw[H];apply decide_eq_decide.2
    show(1<=y/\y<=m.nt/\z<((m.T y).fr.take j).length)↔_;omega
   grind[fZ]
  rw[av e,av e];rfl
 let⟨b,u,h1,h2,h3⟩:=h.T af;have a6:b=tb:=by rw[hb]at u;injection u with u;injection u with u _;exact u.symm
 subst a6;refine h.to (λx y z=>(x=1/\y=0/\z=0)\/(x=5/\y=t/\z=0)\/(x=6/\y=t/\j<=z)) (λ_=>(1,0,0)) (bq (S:=λk=>∃x y z,((x=1/\y=0/\z=0)\/(x=5/\y=t/\z=0)\/(x=6/\y=t/\j<=z))/\(ob p m g x y z).bs k) (a:=az b<|(t-1)*8) (dx _ _) (ag ⟨1,0,0,ag ⟨rfl,rfl,rfl⟩,((DI p m hb) b).2 rfl⟩) _) (λx y z hC=>lK (a2 x y z<|λe=>hC<|ak<|ak e)<|λhv=>?_) ?_ ?_
 .refine ok_eq (e0:=λ_=>⟨rfl,Fm p m g t _ r⟩) (er:=λa4=>?_) (eq:=λe=>⟨sr g _ af,?_,?_⟩) (e6:=λe=>?_) (hx:=mB hv)
  .have a0:x≠1:=λe=>hC<|ag ⟨e,lI hv af⟩;have h5:¬(x=5/\y=t):=λe=>hC<|ak<|ag ⟨e.1,e.2,by grind[wz]⟩;refine⟨sr g _ h5,?_,?_⟩
   .unfold sS;by_cases e5:x=5
    .grind[fZ]
    rw[av e5,av e5];rfl
   unfold rC;rw[av a0,av a0];by_cases e3:x=3
   .rw[bf e3,bf e3];rfl
   rw[av e3,av e3];by_cases e4:x=4
   .rw[bf e4,bf e4];rfl
   rw[av e4,av e4];have e5:x=5:=by unfold GU at a4;omega
   have a1:y≠t:=λe=>h5 ⟨e5,e⟩;rw[fZ _ _ a1];exact jK (λi _=>by unfold fE;rw[Y y _<|λe=>dr e a1];rfl)
  .unfold sS;rcases e with rfl|rfl<;>rfl
  .rcases e with rfl|rfl<;>rfl
  subst e;rw[Y y z (λe=>by
   omega)]
  exact⟨rfl,rfl,rfl⟩
 .rintro x y z (⟨rfl,rfl,rfl⟩|⟨rfl,rfl,rfl⟩|⟨rfl,rfl,hz⟩)
  .show World.ownsRow _ 0 167 8 (.slice ((g.at 5 t r).ro 1 0).1 m.nt ((g.at 5 t r).ro 1 0).2) m.nt (rowP (m.nt*8)<|tE (m.dy t<|(m.T t).mR<|(m.T t).fr.take j)<|g.at 5 t r);rw[sr g r af,u];exact oz h1 h2<|(h3.eE _ _).congr (λi hi=>by rw[Ep m g ht.1,W];rfl)
  .have o:vd p (m.dy y<|(m.T y).mR<|(m.T y).fr.take j) 5 y 0=true:=sK ht.1 ht.2;rw[iy o];show World.ownsRow _ 0 163 4 (.slice ((g.at 5 y r).ro 5 y).1 ((m.dy y<|(m.T y).mR<|(m.T y).fr.take j).T y).fr.length ((g.at 5 y r).ro 5 y).2) ((m.dy y<|(m.T y).mR<|(m.T y).fr.take j).T y).fr.length (rowP (((m.dy y<|(m.T y).mR<|(m.T y).fr.take j).T y).fr.length*4)<|fE p (m.dy y<|(m.T y).mR<|(m.T y).fr.take j) (g.at 5 y r) y);rw[xh,H];show World.ownsRow _ 0 163 4 (.slice r.1 ((m.T y).fr.take j).length r.2) ((m.T y).fr.take j).length (rowP (((m.T y).fr.take j).length*4) _);rw[W];have Z:rowP (j*4) (fE p (m.dy y<|(m.T y).mR<|(m.T y).fr.take j) (g.at 5 y r) y)=rowP (j*4) (fE p m g y):=jK (λi hi=>by unfold fE;rw[Y y _<|λ_=>by omega];rfl);rw[Z];have hF:=h.Fw ht;rcases hr with rfl|⟨rfl,rfl⟩
   .by_cases h0:(m.T y).fr.length=0
    .obtain rfl:j=0:=by omega
     have a8:w.ownsRow 0 163 4 (.slice (g.ro 5 y).1 0 (g.ro 5 y).2) 0 (rowP (0*4)<|fE p m g y):=by
      have:=hF;unfold js at this;rw[show sS m 5 y=(m.T y).fr.length from rfl,h0]at this;exact this
     exact dS a8<|λk J=>ab _ _ _ _<|(λk J=>eU hF h3 eo k J) k (by rw[dJ]at J;unfold js;rw[dJ];exact J)
    let⟨fb,f0,f1,f2,f3⟩:=h.F ht h0;rw[f0];exact oz af f2<|(Full.down f3 af).off (h3.ne f3 eo).symm
   exact⟨rfl,ag ⟨rfl,rfl⟩⟩
  have o:¬vd p (m.dy y<|(m.T y).mR<|(m.T y).fr.take j) 6 y z=true:=λo=>by
   have:=(yE o).2.2;rw[H]at this;have h':z<((m.T y).fr.take j).length:=this;omega
  rw[BD o];trivial
 rintro x y z k (⟨rfl,rfl,rfl⟩|⟨rfl,rfl,rfl⟩|⟨rfl,rfl,hz⟩) J
 .left
  have G:fk ((g.at 5 t r).ro 1 0).1=some k:=J;rw[sr g r af]at G;exact G
 .left
  rw[iy (m:=m.dy y<|(m.T y).mR<|(m.T y).fr.take j)<|sK ht.1 ht.2]at J;rw[iy<|sK ht.1 ht.2];have G:fk ((g.at 5 y r).ro 5 y).1=some k:=J;rw[xh]at G;rcases hr with rfl|⟨rfl,_⟩
  .exact G
  cases G
 exfalso
 have o:¬vd p (m.dy y<|(m.T y).mR<|(m.T y).fr.take j) 6 y z=true:=λo=>by
  have:=(yE o).2.2;rw[H]at this;have h':z<((m.T y).fr.take j).length:=this;omega
 rw[BD o]at J;exact J
def Tryz.uq:(prog.info? 115).map (λi=>(i.zero,i.size,i.bytes))=some (some<|.agg #[ah 0,ah 0],2,16):=by kernel_rfl
def Tryz.underlying161:prog.underlying 161=some (.slice 115):=by kernel_rfl
theorem vh{w:aa}{g b e:Nat}(h:w.ownsRow e 115 2 (dD g b b) b (madeCells #[ah 0,ah 0]<|b*2).toList):Full w g 115 (b*2) (b*2) (eR<|λ_=>(0,0)):=by
 rcases h.2 with⟨h,_⟩|⟨g',u,i,H,h2,Y,h4,Z,J,W⟩
 .cases h
 cases H;refine⟨i,Y,J,λj y=>?_⟩;have o:=congrArg (λl=>l[j]?) W;have G:(madeCells #[ah 0,ah 0]<|b*2).toList[j]?=some (ah 0):=by
  simp only[madeCells,Array.getElem?_toList,Array.getElem?_map,Array.getElem?_range];rw[bf y];have:j%2=0\/j%2=1:=by omega
  rcases this with h|h<;>simp[h]
 simp only[G,dP]at o;rw[bf y]at o;grind[oi]
theorem zR{rb gb nf gc f r0:Nat}{u v:B.V}{into:Int}(h0:w.cell? (az rb 0)=some (dD gb nf gc))(h1:w.cell? (az gb<|f*2)=some (ah r0))(hf:f<nf)(hr:2<=r0)(aE:r0<=8):Calls prog 74 #[P0 rb,ah f,vA u,vA v,ah into] w λe w'=>∃b,e=.returned (.agg #[ah f,dD b r0 r0,ah 0,ah into])/\w.heap.size<=b/\Full w' b 115 (r0*2) (r0*2) (eR<|iz u v)/\w.grownBy w' none:=by
 obtain⟨u1,Z⟩:=u;obtain⟨v1,v2⟩:=v;obtain⟨i0,hi,a4,a3,a2⟩:=info_parts Tryz.uq;have a9:(f:Int)<nf:=af
 have lr:rb<w.heap.size:=an w _ h0;have lg:gb<w.heap.size:=an w _ h1;have a8:rb<w.heap.size+1:=af
 have aD:rb<w.heap.size+1+1:=af
 have aB:gb<w.heap.size+1:=af
 have aC:gb<w.heap.size+1+1:=af
 go_in;go_wp2_with (at_make;go_loud (refine wpList_make_full _ rfl _ _ 161 rfl 0 115 i0 _ 2 Tryz.underlying161 hi a4 a3 _ _ _ _ r0 rfl rfl rfl rfl ey pY (di _) ?_))
 intro i Y G;have y:=vh Y;have J:∀j o,j<w.heap.size+3->(((w.alloc<|.cells #[ah u1,ah Z] 115).alloc<|.cells #[ah v1,ah v2] 115).alloc<|.cells #[ah 0,.slice none 0 0,ah 0,ah 0] 163).heap[j]?=some o->i.heap[j]?=some o:=λj o hj ho=>da G ho ey;have s1:(w.alloc<|.cells #[ah u1,ah Z] 115).heap.size=w.heap.size+1:=eG
 have s2:((w.alloc<|.cells #[ah u1,ah Z] 115).alloc<|.cells #[ah v1,ah v2] 115).heap.size=w.heap.size+1+1:=eG
 have x0:=J w.heap.size (.cells #[ah u1,ah Z] 115 (0,0)) af (by grind[Below.heap_alloc,heap_alloc_new]);have x1:=J (w.heap.size+1) (.cells #[ah v1,ah v2] 115 (0,0)) af (by grind[Below.heap_alloc,heap_alloc_new]);have W:=J (w.heap.size+1+1) (.cells #[ah 0,.slice none 0 0,ah 0,ah 0] 163 (0,0)) af (by grind[heap_alloc_new]);have a5:Hid (w.grownBy i none):=ar (ax (ax (ax (aw _ _) _) _) _) G;have a6:=bj y;have a0:dW i w.heap.size 0=some (ah u1):=fj x0
 have a1:dW i w.heap.size 1=some (ah Z):=fj x0
 have b0:dW i (w.heap.size+1) 0=some (ah v1):=fj x1
 have b1:dW i (w.heap.size+1) 1=some (ah v2):=fj x1
 have f0:dW i (w.heap.size+1+1) 0=some (ah 0):=fj W
 have f1:dW i (w.heap.size+1+1) 1=some (.slice none 0 0):=fj W
 have f2:dW i (w.heap.size+1+1) 2=some (ah 0):=fj W
 have f3:dW i (w.heap.size+1+1) 3=some (ah 0):=fj W
 have y0:i.frozen? (az (w.heap.size+1+1) 0)=false:=pk W
 have y1:i.frozen? (az (w.heap.size+1+1) 1)=false:=pk W
 have y2:i.frozen? (az (w.heap.size+1+1) 2)=false:=pk W
 have y3:i.frozen? (az (w.heap.size+1+1) 3)=false:=pk W
 obtain⟨k0,e0⟩:=y.cells 0 af;obtain⟨k1,e1⟩:=y.cells 1 af;obtain⟨k2,e2⟩:=y.cells 2 af;obtain⟨k3,e3⟩:=y.cells 3 af;rw[oi]at k0 k1 k2 k3
 have a7:(1:Int)<r0:=af
 go_wp2
 refine dg (v:=.agg #[ah f,dD (w.heap.size+1+1+1) r0 r0,ah 0,ah into]) (by simp[results,results74,go_sem, *]) rfl ⟨w.heap.size+1+1+1,rfl,af,?_,?_⟩
 .have hP:∀j,eE (eE (eE (eE (eR<|λ_=>(0,0)) 0<|ah u1) 1<|ah Z) 2<|ah v1) 3 (ah v2) j=eR (iz (u1,Z) (v1,v2)) j:=λj=>by
   unfold eE;by_cases c3:j=3
   .subst c3;rfl
   by_cases c2:j=2
   .subst c2;rfl
   by_cases c1:j=1
   .subst c1;rfl
   by_cases c0:j=0
   .subst c0;rfl
   rw[av c3,av c2,av c1,av c0,oi];unfold eR iz;rw[av (show ¬j/2=0 by omega),av (show ¬j/2=1 by omega)];split<;>rfl
  exact((((((((a6.eE 0 _).eE 1 _).eE 2 _).eE 3 _).off af).off af).off af).off af).congr (λj _=>hP j)
 have hs:w.heap.size<=w.heap.size+1+1+1:=af
 have H:w.heap.size<=w.heap.size+1+1:=af
 exact bu (bu (bu (bu (bu (bu (bu (bu a5 (ak hs) _) (ak hs) _) (ak hs) _) (ak hs) _) (ak H) _) (ak H) _) (ak H) _) (ak H) _
def Dg.oZ(g:Dg)(t i b:Nat):Dg:={g with rb:=λa c=>if a=t/\c=i then b else g.rb a c}
def xJ(g:Dg)(t i b:Nat):(g.oZ t i b).rb t i=b:=bf ⟨rfl,rfl⟩
def rz(g:Dg){t i a c:Nat}(b:Nat)(h:¬(a=t/\c=i)):(g.oZ t i b).rb a c=g.rb a c:=av h
theorem dZ.push(h:dZ p m g w){t:Nat}(ht:nF m t){tb kb ck vb:Nat}{f:jq}(hb:g.ro 1 0=(some<|az tb 0,(g.ro 1 0).2))(hO:dN (λk=>k=tb\/fk (g.ro 5 t).1=some k) w w')(hT:Full w' tb 167 ((g.ro 1 0).2*8) (m.nt*8) (eE (tE m g) ((t-1)*8)<|dD kb ((m.T t).fr.length+1) ck))(hK:w'.ownsRow 0 163 4 (dD kb ((m.T t).fr.length+1) ck) ((m.T t).fr.length+1) (rowP ((m.T t).fr.length*4) (fE p m g t)++[fC p f vb 0,fC p f vb 1,fC p f vb 2,fC p f vb 3]))(hV:Full w' vb 115 (p.rg f.f*2) (p.rg f.f*2) (eR f.R))(J:fk (g.ro 5 t).1=some kb\/w.heap.size<=kb)(hv:w.heap.size<=vb)(aA:kb≠vb):Tr p m g w (m.push t f) ((g.at 5 t (some<|az kb 0,ck)).oZ t (m.T t).fr.length vb) w':=by
 have:=ht.1;have:=ht.2;let⟨b,G,h1,h2,h3⟩:=h.T af;have a7:b=tb:=by rw[hb]at G;injection G with G;injection G with G _;exact G.symm
 subst a7;have a5:(m.push t f).T t=(m.T t).mR ((m.T t).fr++[f]):=gn _ _ _;have W:∀u,u≠t->(m.push t f).T u=m.T u:=λu e=>fZ _ _ e;have Z:((m.push t f).T t).fr.length=(m.T t).fr.length+1:=by rw[a5];show((m.T t).fr++[f]).length=_;rw[db];rfl
 have Y:∀y z,fX (m.push t f) y z=if y=t/\z=(m.T t).fr.length then f else fX m y z:=λy z=>by
  unfold fX;by_cases e:y=t
  .subst e;rw[a5];show((m.T y).fr++[f]).getD z oD=_;grind
  grind
 have a9:∀x y z,¬(x=6/\y=t/\z=(m.T t).fr.length)->vd p (m.push t f) x y z=vd p m x y z:=λx y z hC=>by
  unfold vd;by_cases e:x=6
  .subst e;show decide (1<=y/\y<=m.nt/\z<((m.push t f).T y).fr.length)=decide (1<=y/\y<=m.nt/\z<(m.T y).fr.length);grind
  rw[av e,av e];rfl
 have v6:vd p (m.push t f) 6 t (m.T t).fr.length=true:=Ar ht.1 ht.2 af;have v5:vd p (m.push t f) 5 t 0=true:=sK ht.1 ht.2;refine h.to (λx y z=>(x=1/\y=0/\z=0)\/(x=5/\y=t/\z=0)\/(x=6/\y=t/\z=(m.T t).fr.length)) (λk=>if k=vb then(6,t,(m.T t).fr.length) else(5,t,0)) (hO.mono ?_) (λx y z hC=>lK (a9 x y z<|λe=>hC<|ak<|ak e)<|λa1=>?_) ?_ ?_
 .rintro k (rfl|J) _
  .exact⟨1,0,0,ag ⟨rfl,rfl,rfl⟩,((DI p m hb) _).2 rfl⟩
  exact⟨5,t,0,ak<|ag ⟨rfl,rfl,rfl⟩,by rw[iy<|sK ht.1 ht.2];exact J⟩
 .refine ok_eq (e0:=λ_=>⟨rfl,Fm p m g t ((m.T t).mR<|(m.T t).fr++[f]) (some<|az kb 0,ck)⟩) (er:=λa8=>?_) (eq:=λe=>⟨sr g _ af,?_,?_⟩) (e6:=λe=>?_) (hx:=mB a1)
  .have a4:x≠1:=λe=>hC<|ag ⟨e,lI a1 af⟩;have h5:¬(x=5/\y=t):=λe=>hC<|ak<|ag ⟨e.1,e.2,by grind[wz]⟩;refine⟨sr g _ h5,?_,?_⟩
   .unfold sS;by_cases e5:x=5
    .subst e5;show((m.push t f).T y).fr.length=(m.T y).fr.length;rw[W y<|λe=>h5 ⟨rfl,e⟩]
    rw[av e5,av e5];rfl
   unfold rC;rw[av a4,av a4];by_cases e3:x=3
   .rw[bf e3,bf e3];rfl
   rw[av e3,av e3];by_cases e4:x=4
   .rw[bf e4,bf e4];rfl
   rw[av e4,av e4];have e5:x=5:=by unfold GU at a8;omega
   have a0:y≠t:=λe=>h5 ⟨e5,e⟩;rw[W y a0];refine jK<|λi _=>?_;unfold fE;rw[Y,av<|λe=>a0 e.1,rz _ _<|λe=>a0 e.1];rfl
  .unfold sS;rcases e with rfl|rfl<;>rfl
  .rcases e with rfl|rfl<;>rfl
  subst e;have hn:¬(y=t/\z=(m.T t).fr.length):=λe=>hC<|ak<|ak ⟨rfl,e⟩;rw[Y,av hn,rz _ _ hn];exact⟨rfl,rfl,rfl⟩
 .rintro x y z (⟨rfl,rfl,rfl⟩|⟨rfl,rfl,rfl⟩|⟨rfl,rfl,rfl⟩)
  .show World.ownsRow _ 0 167 8 (.slice ((g.at 5 t (some<|az kb 0,ck)).ro 1 0).1 m.nt ((g.at 5 t (some<|az kb 0,ck)).ro 1 0).2) m.nt (rowP (m.nt*8)<|tE (m.push t f)<|g.at 5 t (some<|az kb 0,ck));rw[sr g _ af,G];refine oz h1 h2<|hT.congr<|λi hi=>?_;have:=Ep m g ht.1 ((m.T t).fr++[f]) (some<|az kb 0,ck) i;rw[show((m.T t).fr++[f]).length=(m.T t).fr.length+1 by rw[db];rfl]at this;exact this.symm
  .rw[iy v5];show World.ownsRow _ 0 163 4 (.slice ((g.at 5 y (some<|az kb 0,ck)).ro 5 y).1 ((m.push y f).T y).fr.length ((g.at 5 y (some<|az kb 0,ck)).ro 5 y).2) ((m.push y f).T y).fr.length (rowP (((m.push y f).T y).fr.length*4)<|fE p (m.push y f) ((g.at 5 y (some<|az kb 0,ck)).oZ y (m.T y).fr.length vb) y);rw[xh,Z];have a3:∀i k,k<4->fE p (m.push y f) ((g.at 5 y (some<|az kb 0,ck)).oZ y (m.T y).fr.length vb) y (i*4+k)=if i=(m.T y).fr.length then fC p f vb k else fE p m g y (i*4+k):=λi k J=>by
    rw[vD _ _ _ _ J,vD _ _ _ _ J,Y];by_cases e:i=(m.T y).fr.length
    .rw[bf e,bf ⟨rfl,e⟩,e,xJ]
    rw[av e,av<|λe'=>e e'.2,rz _ _<|λe'=>e e'.2];rfl
   rw[show((m.T y).fr.length+1)*4=(m.T y).fr.length*4+4 by omega,<-uL (n:=(m.T y).fr.length*4) (k:=4) (P:=fE p m g y) (ys:=[fC p f vb 0,fC p f vb 1,fC p f vb 2,fC p f vb 3]) (λj hj=>?_) rfl (λj hj=>?_)]
   .exact hK
   .have:=a3 (j/4) (j%4) af;rw[show j/4*4+j%4=j by omega,eK]at this;exact this
   rw[a3 _ _ hj,bf rfl];have hc:=pS 3 j af
   rcases hc with rfl|rfl|rfl|rfl<;>rfl
  rw[iy v6];show Full w' (((g.at 5 y (some<|az kb 0,ck)).oZ y (m.T y).fr.length vb).rb y (m.T y).fr.length) 115 (p.rg (fX (m.push y f) y (m.T y).fr.length).f*2) (p.rg (fX (m.push y f) y (m.T y).fr.length).f*2) (eR (fX (m.push y f) y (m.T y).fr.length).R);rw[Y,bf ⟨rfl,rfl⟩,xJ];exact hV
 rintro x y z k (⟨rfl,rfl,rfl⟩|⟨rfl,rfl,rfl⟩|⟨rfl,rfl,rfl⟩) H
 .left
  have o:fk ((g.at 5 t (some<|az kb 0,ck)).ro 1 0).1=some k:=H;rw[sr g _ af]at o;exact o
 .rw[iy v5]at H;have o:fk ((g.at 5 y (some<|az kb 0,ck)).ro 5 y).1=some k:=H;rw[xh]at o;have a2:some kb=some k:=o;injection a2 with a2;subst a2;rcases J with J|J
  .left
   rw[iy<|sK ht.1 ht.2];exact J
  exact ak ⟨J,av aA⟩
 rw[iy v6]at H;have o:k=((g.at 5 y (some<|az kb 0,ck)).oZ y (m.T y).fr.length vb).rb y (m.T y).fr.length:=H;rw[xJ]at o;subst o;exact ak ⟨hv,bf rfl⟩
def Dm.lF(m:Dm)(x:Dt):Dm:={m with nt:=m.nt+1,T:=λt=>if t=m.nt+1 then x else m.T t}
theorem dZ.lF(h:dZ p m g w){tb tc kb vb:Nat}{x:Dt}{f:jq}(hx:x.fr=[f])(hO:dN (λk=>k=g.mb\/fk (g.ro 1 0).1=some k) w w')(hM:Full w' g.mb 112 24 24 (eE (mE p m g) 6<|dD tb (m.nt+1) tc))(hT:w'.ownsRow 0 167 8 (dD tb (m.nt+1) tc) (m.nt+1) (rowP (m.nt*8) (tE m g)++[dD kb 1 1,jz x.how,jz x.into,jz x.what,jz x.me,jz x.jI,jz x.out.1,jz x.out.2]))(hK:Full w' kb 163 4 4 (fC p f vb))(hV:Full w' vb 115 (p.rg f.f*2) (p.rg f.f*2) (eR f.R))(ht:fk (g.ro 1 0).1=some tb\/w.heap.size<=tb)(hk:w.heap.size<=kb)(hv:w.heap.size<=vb)(aE:kb≠vb)(aB:tb≠kb)(aC:tb≠vb):Tr p m g w (m.lF x) (((g.at 1 0 (some<|az tb 0,tc)).at 5 (m.nt+1) (some<|az kb 0,1)).oZ (m.nt+1) 0 vb) w':=by
 have J:(m.lF x).T (m.nt+1)=x:=bf rfl;have a0:∀u,u≠m.nt+1->(m.lF x).T u=m.T u:=λu e=>av e;have a9:∀y z,y≠m.nt+1->fX (m.lF x) y z=fX m y z:=λy z e=>by grind[fX]
 have a2:fX (m.lF x) (m.nt+1) 0=f:=by unfold fX;rw[J,hx];rfl
 generalize H:((g.at 1 0 (some<|az tb 0,tc)).at 5 (m.nt+1) (some<|az kb 0,1)).oZ (m.nt+1) 0 vb=g';have r1:g'.ro 1 0=(some<|az tb 0,tc):=by rw[<-H];exact(sr (g.at 1 0 (some<|az tb 0,tc)) (x:=5) (y:=m.nt+1) (some<|az kb 0,1) af).trans<|xh _ _ _ _
 have r5:g'.ro 5 (m.nt+1)=(some<|az kb 0,1):=by rw[<-H];exact xh _ _ _ _
 have ro:∀a b,¬(a=1/\b=0)->¬(a=5/\b=m.nt+1)->g'.ro a b=g.ro a b:=λa b e1 e2=>by rw[<-H];exact(sr _ _ e2).trans<|sr _ _ e1
 have a5:g'.rb (m.nt+1) 0=vb:=by rw[<-H];exact xJ _ _ _ _
 have a6:∀a c,a≠m.nt+1->g'.rb a c=g.rb a c:=λa c e=>by rw[<-H];exact rz _ _<|λe'=>e e'.1
 have a3:g'.mb=g.mb:=by rw[<-H];rfl
 have a7:g'.sb=g.sb:=by rw[<-H];rfl
 have a4:∀a b,a≠1->¬(a=5/\b=m.nt+1)->sS (m.lF x) a b=sS m a b:=λa b e1 e2=>by
  unfold sS;rw[av e1,av e1];by_cases Y:a=5
  .grind
  rw[av Y,av Y];rfl
 have a1:∀a b,a≠1->¬(a=5/\b=m.nt+1)->js (m.lF x) g' a b=js m g a b:=λa b e1 e2=>by
  grind[js]
 have a8:js (m.lF x) g' 1 0=dD tb (m.nt+1) tc:=by
  unfold js;rw[r1];rfl
 have aD:∀a b c,¬(a=5/\b=m.nt+1/\c=0)->¬(a=6/\b=m.nt+1/\c=0)->vd p (m.lF x) a b c=vd p m a b c:=λa b c e1 e2=>by
  unfold vd;by_cases Y:a=5
  .subst Y;show decide (1<=b/\b<=m.nt+1/\c=0)=decide (1<=b/\b<=m.nt/\c=0);grind
  rw[av Y,av Y];by_cases h6:a=6
  .subst h6;show decide (1<=b/\b<=m.nt+1/\c<((m.lF x).T b).fr.length)=decide (1<=b/\b<=m.nt/\c<(m.T b).fr.length);grind
  rw[av h6,av h6];rfl
 have v5:vd p (m.lF x) 5 (m.nt+1) 0=true:=sK af<|bm _;have v6:vd p (m.lF x) 6 (m.nt+1) 0=true:=Ar af (bm _) ey
 refine h.to (λa b c=>(a=0/\b=0/\c=0)\/(a=1/\b=0/\c=0)\/(a=5/\b=m.nt+1/\c=0)\/(a=6/\b=m.nt+1/\c=0)) (λk=>if k=vb then(6,m.nt+1,0) else if k=kb then(5,m.nt+1,0) else(1,0,0)) (hO.mono ?_) (λa b c hC=>lK (aD a b c (λe=>hC<|ak<|ak<|ag e)<|λe=>hC<|ak<|ak<|ak e)<|λZ=>?_) ?_ ?_ a3
 .rintro k (rfl|hk) _
  .exact⟨0,0,0,ag ⟨rfl,rfl,rfl⟩,rfl⟩
  exact⟨1,0,0,ak<|ag ⟨rfl,rfl,rfl⟩,hk⟩
 .have h1:a≠1:=λe=>hC<|ak<|ag ⟨e,lI Z af⟩;have Y:¬(a=5/\b=m.nt+1):=λe=>by
   obtain⟨rfl,rfl⟩:=e;have:=(wz Z).2.1;omega
  refine ok_eq (e0:=λe=>dr e<|λe=>hC<|ag ⟨e,lI Z af⟩) (er:=λhr=>⟨ro a b (λe=>h1 e.1) Y,a4 a b h1 Y,?_⟩) (eq:=λe=>⟨ro a b (λe=>h1 e.1) Y,a4 a b h1 Y,?_⟩) (e6:=λe=>?_) (e7:=λ_=>⟨by rw[a7],rfl⟩) (hx:=mB Z)
  .unfold rC;rw[av h1,av h1];by_cases e3:a=3
   .rw[bf e3,bf e3];refine jK<|λi _=>?_;unfold cE;rw[a7];rfl
   rw[av e3,av e3];by_cases e4:a=4
   .rw[bf e4,bf e4];rfl
   rw[av e4,av e4];have e5:a=5:=by unfold GU at hr;omega
   have hb:b≠m.nt+1:=λe=>Y ⟨e5,e⟩;rw[a0 b hb];refine jK<|λi _=>?_;unfold fE;rw[a9 b _ hb,a6 b _ hb]
  .unfold qC;rcases e with rfl|rfl<;>rfl
  subst e;have hb:b≠m.nt+1:=λe=>by
   have:=(yE Z).2.1;omega
  rw[a9 b _ hb,a6 b _ hb];exact⟨rfl,rfl,rfl⟩
 .rintro a b c (⟨rfl,rfl,rfl⟩|⟨rfl,rfl,rfl⟩|⟨rfl,rfl,rfl⟩|⟨rfl,rfl,rfl⟩)
  .show Full w' g'.mb 112 24 24 (mE p (m.lF x) g');rw[a3];refine hM.congr<|λi hi=>?_;show(if i=6 then _ else _)=_;by_cases e6:i=6
   .subst e6;rw[bf rfl];exact a8.symm
   rw[av e6];unfold mE;rw[av e6,av e6,a1 2 0 eo af,a1 10 _ eo af,a1 3 0 eo af,a1 4 0 eo af];rfl
  .show World.ownsRow _ 0 167 8 (.slice (g'.ro 1 0).1 (m.nt+1) (g'.ro 1 0).2) (m.nt+1) (rowP ((m.nt+1)*8)<|tE (m.lF x) g');rw[r1,show(m.nt+1)*8=m.nt*8+8 by omega,<-uL (n:=m.nt*8) (k:=8) (P:=tE m g) (ys:=[dD kb 1 1,jz x.how,jz x.into,jz x.what,jz x.me,jz x.jI,jz x.out.1,jz x.out.2]) (λj hj=>?_) rfl (λj hj=>?_)]
   .exact hT
   .unfold tE;rw[a0 _ af,a1 5 _ eo af]
   unfold tE;rw[show(m.nt*8+j)/8+1=m.nt+1 by omega,show(m.nt*8+j)%8=j by omega,J];have aA:js (m.lF x) g' 5 (m.nt+1)=dD kb 1 1:=by
    unfold js;rw[r5];show Value.slice _ ((m.lF x).T<|m.nt+1).fr.length _=_;rw[J,hx];rfl
   rw[aA];have hc:=pS 7 j af
   (repeat' rcases hc with rfl|hc)<;>rfl
  .rw[iy v5];show World.ownsRow _ 0 163 4 (.slice (g'.ro 5<|m.nt+1).1 ((m.lF x).T<|m.nt+1).fr.length (g'.ro 5<|m.nt+1).2) ((m.lF x).T<|m.nt+1).fr.length (rowP (((m.lF x).T<|m.nt+1).fr.length*4)<|fE p (m.lF x) g'<|m.nt+1);rw[r5,J,hx];refine oz (n:=1) (c:=1) (sz:=4) (bm _) pY<|hK.congr<|λj hj=>?_;have:=vD p (m.lF x) g' (m.nt+1) (i:=0) (k:=j) hj;rw[Nat.zero_mul,Nat.zero_add]at this;rw[this,a2,a5]
  rw[iy v6];show Full w' (g'.rb (m.nt+1) 0) 115 (p.rg (fX (m.lF x) (m.nt+1) 0).f*2) (p.rg (fX (m.lF x) (m.nt+1) 0).f*2) (eR (fX (m.lF x) (m.nt+1) 0).R);rw[a2,a5];exact hV
 rintro a b c k (⟨rfl,rfl,rfl⟩|⟨rfl,rfl,rfl⟩|⟨rfl,rfl,rfl⟩|⟨rfl,rfl,rfl⟩) W
 .have:k=g'.mb:=W;exact ag<|this.trans a3
 .have o:fk (g'.ro 1 0).1=some k:=W;rw[r1]at o;have G:some tb=some k:=o;injection G with G;subst G;exact ht.imp id<|λe=>⟨e,by rw[av aC,av aB]⟩
 .rw[iy v5]at W;have o:fk (g'.ro 5<|m.nt+1).1=some k:=W;rw[r5]at o;have G:some kb=some k:=o;injection G with G;subst G;exact ak ⟨hk,by rw[av aE,bf rfl]⟩
 rw[iy v6]at W;have o:k=g'.rb (m.nt+1) 0:=W;rw[a5]at o;subst o;exact ak ⟨hv,bf rfl⟩
def Dm.nU(m:Dm)(ty:Nat)(l:List B.V):Dm:={m with nc:=m.nc+1,M:=λc=>if c=m.nc+1 then l else m.M c,ck:=λc=>if c=m.nc+1 then ty else m.ck c}
def Dg.slt(g:Dg)(c b:Nat):Dg:={g with sb:=λa=>if a=c then b else g.sb a}
theorem Tr.nU{m0:Dm}{g0:Dg}{w0:aa}(h0:Tr p m0 g0 w0 m g w){cb cc J ty:Nat}{l:List B.V}(hO:dN (λk=>k=g.mb\/fk (g.ro 3 0).1=some k) w w')(hM:Full w' g.mb 112 24 24 (eE (mE p m g) 12<|dD cb (m.nc+1) cc))(hC:w'.ownsRow 0 233 2 (dD cb (m.nc+1) cc) (m.nc+1) (rowP (m.nc*2) (cE m g)++[dD J l.length l.length,jz<|(ty:Int)-1]))(hS:Full w' J 115 (l.length*2) (l.length*2) (eR<|nD l))(hc:fk (g.ro 3 0).1=some cb\/(¬eJ p m g cb/\w0.heap.size<=cb))(hs:¬eJ p m g J/\w0.heap.size<=J)(a7:cb≠J):Tr p m0 g0 w0 (m.nU ty l) ((g.at 3 0 (some<|az cb 0,cc)).slt (m.nc+1) J) w':=by
 have a3:(m.nU ty l).M (m.nc+1)=l:=bf rfl;have a4:∀u,u≠m.nc+1->(m.nU ty l).M u=m.M u:=λu e=>av e;have a6:(m.nU ty l).ck (m.nc+1)=ty:=bf rfl;have a8:∀u,u≠m.nc+1->(m.nU ty l).ck u=m.ck u:=λu e=>av e;generalize y:(g.at 3 0 (some<|az cb 0,cc)).slt (m.nc+1) J=g';have r3:g'.ro 3 0=(some<|az cb 0,cc):=by rw[<-y];exact xh g 3 0 (some<|az cb 0,cc)
 have ro:∀a b,¬(a=3/\b=0)->g'.ro a b=g.ro a b:=λa b o=>by rw[<-y];exact sr g (some<|az cb 0,cc) o
 have s1:g'.sb (m.nc+1)=J:=by rw[<-y];exact bf rfl
 have so:∀a,a≠m.nc+1->g'.sb a=g.sb a:=λa e=>by rw[<-y];exact av e
 have Z:g'.mb=g.mb:=by rw[<-y];rfl
 have a2:g'.rb=g.rb:=by rw[<-y];rfl
 have a1:∀a b,a≠3->sS (m.nU ty l) a b=sS m a b:=λa b o=>by
  unfold sS;rw[av o,av o];rfl
 have G:∀a b,a≠3->js (m.nU ty l) g' a b=js m g a b:=λa b o=>by
  grind[js]
 have a9:∀a b c,¬(a=7/\b=m.nc+1/\c=0)->vd p (m.nU ty l) a b c=vd p m a b c:=λa b c o=>by
  unfold vd;by_cases h7:a=7
  .subst h7;show decide (1<=b/\b<=m.nc+1/\c=0)=decide (1<=b/\b<=m.nc/\c=0);grind
  rw[av h7,av h7];rfl
 have v7:vd p (m.nU ty l) 7 (m.nc+1) 0=true:=JV af<|bm _;refine Tr.to (λa b c=>(a=0/\b=0/\c=0)\/(a=3/\b=0/\c=0)\/(a=7/\b=m.nc+1/\c=0)) (λk=>if k=J then(7,m.nc+1,0) else(3,0,0)) h0 (hO.mono ?_) (λa b c hC=>lK (a9 a b c<|λe=>hC<|ak<|ak e)<|λY=>?_) ?_ ?_ Z
 .rintro k (rfl|hk) _
  .exact⟨0,0,0,ag ⟨rfl,rfl,rfl⟩,rfl⟩
  exact⟨3,0,0,ak<|ag ⟨rfl,rfl,rfl⟩,hk⟩
 .have h0:a≠0:=λe=>hC<|ag ⟨e,lI Y af⟩;have h3:a≠3:=λe=>hC<|ak<|ag ⟨e,lI Y af⟩;refine ok_eq (e0:=λe=>dr e h0) (er:=λhr=>⟨ro a b<|λe=>h3 e.1,a1 a b h3,?_⟩) (eq:=λe=>⟨ro a b<|λe=>h3 e.1,a1 a b h3,?_⟩) (e6:=λ_=>⟨by rw[a2],rfl,rfl⟩) (e7:=λe=>?_) (hx:=mB Y)
  .unfold rC;rw[av h3,av h3];by_cases o:a=1
   .rw[bf o,bf o];refine jK<|λi _=>?_;unfold tE;rw[G 5 _ eo];rfl
   rw[av o,av o];by_cases e4:a=4
   .rw[bf e4,bf e4];rfl
   rw[av e4,av e4];refine jK<|λi _=>?_;unfold fE;rw[a2];rfl
  .unfold qC;rcases e with rfl|rfl<;>rfl
  subst e;have hb:b≠m.nc+1:=λe=>by
   have:=(Bb Y).2.1;omega
  grind
 .rintro a b c (⟨rfl,rfl,rfl⟩|⟨rfl,rfl,rfl⟩|⟨rfl,rfl,rfl⟩)
  .show Full w' g'.mb 112 24 24 (mE p (m.nU ty l) g');rw[Z];refine hM.congr<|λi hi=>?_;show(if i=12 then _ else _)=_;by_cases e6:i=12
   .subst e6;rw[bf rfl];show _=Value.slice (g'.ro 3 0).1 (m.nc+1) (g'.ro 3 0).2;rw[r3]
   rw[av e6];unfold mE;rw[av e6,av e6,G 1 0 eo,G 2 0 eo,G 10 _ eo,G 4 0 eo];rfl
  .show World.ownsRow _ 0 233 2 (.slice (g'.ro 3 0).1 (m.nc+1) (g'.ro 3 0).2) (m.nc+1) (rowP ((m.nc+1)*2)<|cE (m.nU ty l) g');rw[r3,show(m.nc+1)*2=m.nc*2+2 by omega,<-uL (n:=m.nc*2) (k:=2) (P:=cE m g) (ys:=[dD J l.length l.length,jz<|(ty:Int)-1]) (λj hj=>?_) rfl (λj hj=>?_)]
   .exact hC
   .unfold cE;rw[so _ af,a4 _ af,a8 _ af]
   unfold cE;rw[show(m.nc*2+j)/2+1=m.nc+1 by omega,s1,a3,a6];have a5:j=0\/j=1:=af
   rcases a5 with rfl|rfl
   .rw[mL];rfl
   rw[eK];rfl
  rw[iy v7];show Full w' (g'.sb<|m.nc+1) 115 (((m.nU ty l).M<|m.nc+1).length*2) (((m.nU ty l).M<|m.nc+1).length*2) (eR<|nD<|(m.nU ty l).M<|m.nc+1);rw[s1,a3];exact hS
 rintro a b c k (⟨rfl,rfl,rfl⟩|⟨rfl,rfl,rfl⟩|⟨rfl,rfl,rfl⟩) W
 .have:k=g'.mb:=W;exact ag<|this.trans Z
 .have H:fk (g'.ro 3 0).1=some k:=W;rw[r3]at H;have a0:some cb=some k:=H;injection a0 with a0;subst a0;exact hc.imp id<|λe=>⟨e.1,e.2,av a7⟩
 rw[iy v7]at W;have H:k=g'.sb (m.nc+1):=W;rw[s1]at H;subst H;exact ak ⟨hs.1,hs.2,bf rfl⟩
