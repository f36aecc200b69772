import Derived.Test.YtnjiinbhbjpfkaaGreatDoorKW
set_option maxRecDepth 100000
set_option maxHeartbeats 0
set_option linter.all false
namespace Go.Proofs.YtnjiinbhbjpfkaaGreatDoor
open Go.RowKit Go.Proofs.Tryz
namespace D
open F
variable {p : Dp} {m m' : Dm} {g g' : Dg} {w w' : World}
theorem dQ.one(h:dQ p m g w)(a b c:Nat)(o:vd p m a b c=true)(e:∀x y z,vd p m' x y z=vd p m x y z)(H:dy (λk=>(ok p m g a b c).bs k) w w')(G:∀x y z,vd p m x y z=true->¬(x=a/\y=b/\z=c)->ok p m' g' x y z=ok p m g x y z)(Y:(ok p m' g' a b c).ok w')(W:∀k,(ok p m' g' a b c).bs k->(ok p m g a b c).bs k\/w.heap.size<=k)(J:g'.mb=g.mb:=by rfl):Tr p m g w m' g' w':=by
 refine h.to (λx y z=>x=a/\y=b/\z=c) (λ_=>(a,b,c)) (H.mono (λk i _=>⟨a,b,c,⟨rfl,rfl,rfl⟩,by rw[fP o];exact i⟩)) (λx y z Z=>jT (e x y z) (λu=>G x y z u Z)) ?_ ?_ J
 .rintro x y z ⟨rfl,rfl,rfl⟩;rw[fP (by rw[e];exact o)];exact Y
 rintro x y z k ⟨rfl,rfl,rfl⟩ i;rw[fP (by rw[e];exact o)]at i;rw[fP o];exact(W k i).imp id (λh=>⟨h,rfl⟩)
theorem dQ.wQ(h:dQ p m g w)(j:Nat)(v:Value)(e:m'.nt=m.nt/\m'.T=m.T/\m'.q=m.q/\m'.jo=m.jo/\m'.nc=m.nc/\m'.M=m.M/\m'.ck=m.ck/\m'.ev=m.ev)(G:∀i,i<24->mE p m' g i=if i=j then v else mE p m g i):Tr p m g w m' g (w.setCell ⟨g.mb,j,none⟩ v):=by
 obtain⟨a1,a2,a3,a4,a5,Z,a7,a8⟩:=m;obtain⟨b1,Y,W,b4,J,b6,b7,b8⟩:=m';simp only at e;obtain⟨rfl,rfl,rfl,rfl,rfl,rfl,rfl,rfl⟩:=e;refine h.one 0 0 0 rfl (λx y z=>rfl) (bm (S:=λk=>(ok p _ g 0 0 0).bs k) (a:=⟨g.mb,j,none⟩) (dk _ _) (ag (show g.mb=g.mb from rfl)) _) (λx y z o hn=>?_) ?_ (λk u=>ag u)
 .exact ok_eq (e0:=λe=>ch e (λe=>hn ⟨e,jC o (ag (by omega))⟩)) (hx:=kG o)
 exact(h.M.ep j v).congr (λi hi=>by
  rw[G i hi];rfl)
theorem GD{x x':Dt}{fv:Value}{k:Nat}{v:Value}(h:∀j,j<8->tC x' fv j=if j=k then v else tC x fv j)(m:Dm)(g:Dg)(t:Nat)(G:m.T t=x)(J:iR m g 5 t=fv)(ht:1<=t)(W:k<8)(o:x'.fr=x.fr)(i:Nat):tE (m.dv t x') g i=if i=(t-1)*8+k then v else tE m g i:=by
 have H:∀u,iR (m.dv t x') g 5 u=iR m g 5 u:=λu=>by
  unfold iR;show Value.slice _ ((m.dv t x').T u).fr.length _=Value.slice _ (m.T u).fr.length _;by_cases e:u=t
  .subst e;rw[fG,o,G]
  rw[fA _ _ e]
 unfold tE;rw[H];by_cases e:i / 8+1=t
 .rw[e,fG,J,h (i % 8) (by omega),G];by_cases y:i % 8=k
  .rw[aj y,aj (by omega)]
  rw[aa y,aa (by omega)]
 rw[fA _ _ e,aa (by omega)]
theorem dQ.sw(h:dQ p m g w){t:Nat}(ht:mF m t){tb:Nat}(hb:g.ro 1 0=(some ⟨tb,0,none⟩,(g.ro 1 0).2))(k:Nat)(W:k<8)(v:Value){x':Dt}(H:x'.fr=(m.T t).fr)(hE:∀j,j<8->tC x' (iR m g 5 t) j=if j=k then v else tC (m.T t) (iR m g 5 t) j):Tr p m g w (m.dv t x') g (w.setCell ⟨tb,(t-1)*8+k,none⟩ v):=by
 have:=ht.1;have:=ht.2;have G:∀u,((m.dv t x').T u).fr=(m.T u).fr:=λu=>by
  by_cases e:u=t
  .subst e;rw[fG,H]
  rw[fA _ _ e]
 have J:∀u i,fj (m.dv t x') u i=fj m u i:=λu i=>by unfold fj;rw[G]
 obtain⟨b,o,h1,h2,h3⟩:=h.T (by omega);have Z:b=tb:=by rw[hb]at o;injection o with o;injection o with o _;exact o.symm
 subst Z;have Y:∀k,(ok p m g 1 0 0).bs k↔k=b:=λk=>by
  show eO (g.ro 1 0).1=some k↔k=b;rw[hb];show some b=some k↔k=b;exact⟨λe=>by injection e with e;exact e.symm,λe=>by rw[e]⟩
 refine h.one 1 0 0 rfl (λx y z=>BR (m:=m) (m':=m.dv t x') rfl (λu=>by rw[G]) rfl x y z) (bm (S:=λk=>(ok p m g 1 0 0).bs k) (dk _ _) (ag ((Y _).2 rfl)) _) (λx y z hv hn=>?_) ?_ (λk W=>ag W)
 .have h0:x≠1:=λe=>hn ⟨e,jC hv (ag (by omega))⟩;refine ok_eq (er:=λhr=>?_) (e6:=λ_=>?_) (hx:=kG hv)
  .refine⟨rfl,?_,?_⟩
   .unfold qz;rw[G];rfl
   unfold rC;rw[aa h0,aa h0,G];have:fE p (m.dv t x') g y=fE p m g y:=by funext j;unfold fE;rw[J]
   rw[this];rfl
  rw[J];exact⟨rfl,rfl,rfl⟩
 show World.ownsRow _ 0 167 8 (.slice (g.ro 1 0).1 m.nt (g.ro 1 0).2) m.nt (rowP (m.nt*8) (tE (m.dv t x') g));rw[o];exact mn h1 h2 ((h3.ep _ v).congr (λi hi=>(GD hE m g t rfl rfl ht.1 W H i).symm))
theorem zw(m:Dm)(g:Dg)(t i:Nat)(f:gY):tE (m.dx t i f) g=tE m g:=by
 have o:∀u,((m.dx t i f).T u).fr.length=(m.T u).fr.length:=λu=>by
  unfold Dm.dx;by_cases e:u=t
  .subst e;rw[fG];show((m.T u).fr.set i f).length=_;rw[dq]
  rw[fA _ _ e]
 funext j
 unfold tE;have y:iR (m.dx t i f) g 5 (j / 8+1)=iR m g 5 (j / 8+1):=by
  unfold iR;show Value.slice _ ((m.dx t i f).T _).fr.length _=Value.slice _ (m.T _).fr.length _;rw[o]
 rw[y];unfold Dm.dx;by_cases e:j / 8+1=t
 .rw[e,fG];rfl
 rw[fA _ _ e]
theorem jS(m:Dm)(t i:Nat)(f:gY)(u:Nat):((m.dx t i f).T u).fr.length=(m.T u).fr.length:=by
 unfold Dm.dx;by_cases e:u=t
 .subst e;rw[fG];show((m.T u).fr.set i f).length=_;rw[dq]
 rw[fA _ _ e]
theorem ma(m:Dm){t i:Nat}(f:gY)(hi:i<(m.T t).fr.length)(u j:Nat):fj (m.dx t i f) u j=if u=t/\j=i then f else fj m u j:=by
 unfold fj Dm.dx;by_cases e:u=t
 .subst e;rw[fG];show((m.T u).fr.set i f).getD j mr=_;rw[jU hi];by_cases o:j=i
  .rw[aj o,aj ⟨rfl,o⟩]
  rw[aa o,aa (λy=>o y.2)]
 rw[fA _ _ e,aa (λy=>e y.1)]
theorem dQ.I7(h:dQ p m g w){t i:Nat}(ht:mF m t)(hi:i<(m.T t).fr.length){fb:Nat}(hb:(g.ro 5 t).1=some ⟨fb,0,none⟩)(k:Nat)(hk:k<4)(v:Value){f:gY}(hf:f.f=(fj m t i).f)(hR:f.R=(fj m t i).R)(hE:∀j,j<4->fC p f (g.rb t i) j=if j=k then v else fC p (fj m t i) (g.rb t i) j):Tr p m g w (m.dx t i f) g (w.setCell ⟨fb,i*4+k,none⟩ v):=by
 obtain⟨b,o,h1,h2,h3⟩:=h.F ht (by omega);have Y:b=fb:=by rw[hb]at o;injection o with o;injection o with o _;exact o.symm
 subst Y;have Z:∀k,(ok p m g 5 t 0).bs k↔k=b:=λk=>by
  show eO (g.ro 5 t).1=some k↔k=b;rw[hb];show some b=some k↔k=b;exact⟨λe=>by injection e with e;exact e.symm,λe=>by rw[e]⟩
 have G:∀u j,fE p (m.dx t i f) g u j=if u=t/\j=i*4+k then v else fE p m g u j:=λu j=>by
  unfold fE;rw[ma m f hi];by_cases e:u=t/\j / 4=i
  .rw[aj e,e.1,e.2,hE (j % 4) (by omega)];by_cases e2:j % 4=k
   .rw[aj e2,aj ⟨rfl,by omega⟩]
   rw[aa e2,aa (by omega)]
  rw[aa e,aa (λe'=>e ⟨e'.1,by omega⟩)]
 refine h.one 5 t 0 (pX ht.1 ht.2) (λx y z=>BR (m:=m) (m':=m.dx t i f) rfl (jS m t i f) rfl x y z) (bm (S:=λk=>(ok p m g 5 t 0).bs k) (dk _ _) (ag ((Z _).2 rfl)) _) (λx y z hv hn=>?_) ?_ (λk hk=>ag hk)
 .refine ok_eq (er:=λhr=>⟨rfl,?_,?_⟩) (e6:=λ_=>?_) (hx:=kG hv)
  .unfold qz;rw[jS];rfl
  .unfold rC;rw[zw];by_cases W:x=1
   .rw[aj W,aj W];rfl
   rw[aa W,aa W];by_cases J:x=3
   .rw[aj J,aj J];rfl
   rw[aa J,aa J];by_cases H:x=4
   .rw[aj H,aj H];rfl
   rw[aa H,aa H,jS];have e5:x=5:=by unfold Ey at hr;omega
   subst e5;exact iD (λj _=>by rw[G,aa (λe=>(λe=>hn ⟨rfl,e,(uh hv).2.2⟩) e.1)])
  rw[ma m f hi];by_cases e:y=t/\z=i
  .rw[aj e,e.1,e.2];exact⟨rfl,hf,hR⟩
  rw[aa e];exact⟨rfl,rfl,rfl⟩
 show World.ownsRow _ 0 163 4 (.slice (g.ro 5 t).1 ((m.dx t i f).T t).fr.length (g.ro 5 t).2) ((m.dx t i f).T t).fr.length (rowP (((m.dx t i f).T t).fr.length*4) (fE p (m.dx t i f) g t));rw[o,jS];exact mn h1 h2 ((h3.ep (i*4+k) v).congr (λj hj=>by
  rw[G];show(if j=i*4+k then v else _)=_;by_cases e:j=i*4+k
  .rw[aj e,aj ⟨rfl,e⟩]
  rw[aa e,aa (λe'=>e e'.2)]))
theorem pj(R:Nat->B.V)(a:Nat)(v:B.V)(j:Nat):eC (B.set R a v) j=ep (ep (eC R) (a*2) (.int .i64 v.1)) (a*2+1) (.int .i64 v.2) j:=by
 unfold ep;by_cases i:j=a*2+1
 .rw[aj i];unfold eC;rw[aa (by omega),show j / 2=a by omega,B.ie]
 rw[aa i];by_cases e:j=a*2
 .rw[aj e];unfold eC;rw[aj (by omega),show j / 2=a by omega,B.ie]
 rw[aa e];unfold eC;rw[B.gS _ _ _ _ (by omega)]
theorem dQ.wP(h:dQ p m g w){t i:Nat}(ht:mF m t)(hi:i<(m.T t).fr.length)(a:Nat)(v:B.V):Tr p m g w (m.dx t i ((fj m t i).set a v)) g ((w.setCell ⟨g.rb t i,a*2,none⟩ (.int .i64 v.1)).setCell ⟨g.rb t i,a*2+1,none⟩ (.int .i64 v.2)):=by
 have G:∀u,fE p (m.dx t i ((fj m t i).set a v)) g u=fE p m g u:=λu=>by
  funext j
  unfold fE;rw[ma m _ hi];by_cases e:u=t/\j / 4=i
  .rw[aj e,e.1,e.2];rfl
  rw[aa e]
 have o:∀k,(ok p m g 6 t i).bs k↔k=g.rb t i:=λk=>Iff.rfl;refine h.one 6 t i (Az ht.1 ht.2 hi) (λx y z=>BR (m:=m) (m':=m.dx t i ((fj m t i).set a v)) rfl (jS m t i _) rfl x y z) (bm (S:=λk=>(ok p m g 6 t i).bs k) (bm (S:=λk=>(ok p m g 6 t i).bs k) (dk _ _) (ag ((o _).2 rfl)) _) (ag ((o _).2 rfl)) _) (λx y z W hn=>?_) ?_ (λk J=>ag J)
 .refine ok_eq (er:=λY=>⟨rfl,?_,?_⟩) (e6:=λH=>?_) (hx:=kG W)
  .unfold qz;rw[jS];rfl
  .unfold rC;rw[zw,G,jS];rfl
  rw[ma m _ hi,aa (λe=>hn ⟨H,e⟩)];exact⟨rfl,rfl,rfl⟩
 show Full _ (g.rb t i) 115 (p.rg (fj (m.dx t i ((fj m t i).set a v)) t i).f*2) (p.rg (fj (m.dx t i ((fj m t i).set a v)) t i).f*2) (eC (fj (m.dx t i ((fj m t i).set a v)) t i).R);rw[ma m _ hi,aj ⟨rfl,rfl⟩];exact(((h.R ht hi).ep (a*2) _).ep (a*2+1) _).congr (λj _=>(pj _ a v j).symm)
theorem C1{l:List B.V}{i:Nat}(hi:i<l.length)(v:B.V):kT (l.set i v)=B.set (kT l) i v:=by
 funext j
 unfold kT;by_cases e:j=i
 .subst e;rw[B.ie,ar,List.getElem?_set_self hi];rfl
 rw[B.gS _ _ _ _ e,ar,List.getElem?_set_ne (λo=>e o.symm),<-ar]
theorem dQ.Kx(h:dQ p m g w){c i:Nat}(G:1<=c)(W:c<=m.nc)(hi:i<(m.M c).length)(v:B.V):Tr p m g w (m.put c i v) g ((w.setCell ⟨g.sb c,i*2,none⟩ (.int .i64 v.1)).setCell ⟨g.sb c,i*2+1,none⟩ (.int .i64 v.2)):=by
 have u:∀k,((m.put c i v).M k)=if k=c then(m.M c).set i v else m.M k:=λk=>rfl
 have Y:∀k,((m.put c i v).M k).length=(m.M k).length:=λk=>by
  rw[u];by_cases e:k=c
  .rw[aj e,e,dq]
  rw[aa e]
 have o:∀k,(ok p m g 7 c 0).bs k↔k=g.sb c:=λk=>Iff.rfl;refine h.one 7 c 0 (Gw G W) (λx y z=>rfl) (bm (S:=λk=>(ok p m g 7 c 0).bs k) (bm (S:=λk=>(ok p m g 7 c 0).bs k) (dk _ _) (ag ((o _).2 rfl)) _) (ag ((o _).2 rfl)) _) (λx y z J hn=>?_) ?_ (λk Z=>ag Z)
 .refine ok_eq (er:=λhr=>⟨rfl,rfl,?_⟩) (e7:=λH=>?_) (hx:=kG J)
  .unfold rC;have:cE (m.put c i v) g=cE m g:=by funext j;unfold cE;rw[Y];rfl
   rw[this];rfl
  subst H;have:=zl J;rw[u,aa (λe=>hn ⟨rfl,e,this.2.2⟩)];exact⟨rfl,rfl⟩
 show Full _ (g.sb c) 115 (((m.put c i v).M c).length*2) (((m.put c i v).M c).length*2) (eC (kT ((m.put c i v).M c)));rw[Y,u,aj rfl,C1 hi];exact(((h.S G W).ep (i*2) _).ep (i*2+1) _).congr (λj _=>(pj _ i v j).symm)
theorem Tr.Cs{m0:Dm}{W:Dg}{w0:World}(h0:Tr p m0 W w0 m g w)(a b:Nat)(G:vd p m a b 0=true)(ha:a≠0)(i:∀x y z,vd p m' x y z=vd p m x y z)(hO:dy (λk=>k=g.mb\/(ok p m g a b 0).bs k) w w')(Z:∀x y z,vd p m x y z=true->x≠0->¬(x=a/\y=b/\z=0)->ok p m' g' x y z=ok p m g x y z)(hM:Full w' g.mb 112 24 24 (mE p m' g'))(h2:(ok p m' g' a b 0).ok w')(h3:∀k,(ok p m' g' a b 0).bs k->(ok p m g a b 0).bs k\/(¬ey p m g k/\w0.heap.size<=k))(J:g'.mb=g.mb:=by rfl):Tr p m0 W w0 m' g' w':=by
 refine Tr.to (λx y z=>(x=0/\y=0/\z=0)\/(x=a/\y=b/\z=0)) (λ_=>(a,b,0)) h0 (hO.mono ?_) (λx y z Y=>jT (i x y z) (λu=>?_)) ?_ ?_ J
 .rintro k (rfl|o) _
  .exact⟨0,0,0,ag ⟨rfl,rfl,rfl⟩,rfl⟩
  exact⟨a,b,0,ab ⟨rfl,rfl,rfl⟩,by rw[fP G];exact o⟩
 .refine Z x y z u (λe=>Y (ag ⟨e,?_⟩)) (λe=>Y (ab e));subst e;exact jC u (by omega)
 .rintro x y z (⟨rfl,rfl,rfl⟩|⟨rfl,rfl,rfl⟩)
  .show Full w' g'.mb 112 24 24 (mE p m' g');rw[J];exact hM
  rw[fP (by rw[i];exact G)];exact h2
 rintro x y z k (⟨rfl,rfl,rfl⟩|⟨rfl,rfl,rfl⟩) o
 .exact ag (o.trans J)
 rw[fP (by rw[i];exact G)]at o;rw[fP G];exact(h3 k o).imp id (λh=>⟨h.1,h.2,rfl⟩)
theorem dQ.fresh(h:dQ p m g w){k:Nat}(i:w.heap.size<=k):¬ey p m g k:=λe=>by have:=h.lt e;omega
theorem dQ.Cs(h:dQ p m g w)(a b:Nat)(H:vd p m a b 0=true)(J:a≠0)(i:∀x y z,vd p m' x y z=vd p m x y z)(G:dy (λk=>k=g.mb\/(ok p m g a b 0).bs k) w w')(u:∀x y z,vd p m x y z=true->x≠0->¬(x=a/\y=b/\z=0)->ok p m' g' x y z=ok p m g x y z)(W:Full w' g.mb 112 24 24 (mE p m' g'))(Z:(ok p m' g' a b 0).ok w')(Y:∀k,(ok p m' g' a b 0).bs k->(ok p m g a b 0).bs k\/w.heap.size<=k)(hb:g'.mb=g.mb:=by rfl):Tr p m g w m' g' w':=
 Tr.Cs (Tr.refl h) a b H J i G u W Z (λk o=>(Y k o).imp id (λe=>⟨h.fresh e,e⟩)) hb
def Dg.at(g:Dg)(x y:Nat)(r:Option Addr×Nat):Dg:={ g with ro:=λa b=>if a=x/\b=y then r else g.ro a b }
theorem xS(g:Dg)(x y:Nat)(r:Option Addr×Nat):(g.at x y r).ro x y=r:=aj ⟨rfl,rfl⟩
theorem qG(g:Dg){x y a b:Nat}(r:Option Addr×Nat)(h:¬(a=x/\b=y)):(g.at x y r).ro a b=g.ro a b:=aa h
theorem nB(m:Dm)(g:Dg){x y a b:Nat}(r:Option Addr×Nat)(h:¬(a=x/\b=y)):iR m (g.at x y r) a b=iR m g a b:=by unfold iR;rw[qG g r h]
theorem IX(m:Dm)(g:Dg){x y:Nat}(r:Option Addr×Nat)(h:x≠5):tE m (g.at x y r)=tE m g:=by
 funext j
 unfold tE;rw[nB m g r (λe=>h e.1.symm)]
theorem CF(p:Dp)(m:Dm)(g:Dg){x y:Nat}(r:Option Addr×Nat)(h:x≠5)(a b:Nat):rC p m (g.at x y r) a b=rC p m g a b:=by
 unfold rC;rw[IX m g r h];rfl
theorem CY(p:Dp)(m:Dm)(g:Dg){x y:Nat}(r:Option Addr×Nat)(J:Nat)(Z:(x=1/\y=0/\J=6)\/(x=2/\y=0/\J=7)\/(x=3/\y=0/\J=12)\/(x=4/\y=0/\J=15)\/(x=10/\y<4/\J=8+y))(i:Nat)(hi:i≠J):mE p m (g.at x y r) i=mE p m g i:=by
 unfold mE;by_cases G:i=6
 .subst G;simp only[reduceIte,Nat.reduceEqDiff];exact nB m g r (by omega)
 by_cases H:i=7
 .subst H;simp only[reduceIte,Nat.reduceEqDiff];exact nB m g r (by omega)
 by_cases e:i=12
 .subst e;simp only[reduceIte,Nat.reduceEqDiff,Nat.reduceLT];exact nB m g r (by omega)
 by_cases o:i=15
 .subst o;simp only[reduceIte,Nat.reduceEqDiff,Nat.reduceLT];exact nB m g r (by omega)
 rw[aa G,aa G,aa H,aa H,aa e,aa e,aa o,aa o];by_cases u:i<12
 .rw[aj u,aj u];by_cases Y:i<=5
  .have W:i=0\/i=1\/i=2\/i=3\/i=4\/i=5:=by omega
   rcases W with rfl|rfl|rfl|rfl|rfl|rfl<;>rfl
  rw[nB m g r (by omega)]
 rw[aa u,aa u]
theorem Tr.eZ{m0:Dm}{H:Dg}{w0:World}(h0:Tr p m0 H w0 m g w){l:List Nat}{r:Option Addr×Nat}(hO:dy (λk=>k=g.mb\/eO (g.ro 2 0).1=some k) w w')(hM:Full w' g.mb 112 24 24 (ep (mE p m g) 7 (.slice r.1 l.length r.2)))(Y:fM w' 3 (.slice r.1 l.length r.2) (iI l))(hb:∀k,eO r.1=some k->eO (g.ro 2 0).1=some k\/(¬ey p m g k/\w0.heap.size<=k)):Tr p m0 H w0 (m.eZ l) (g.at 2 0 r) w':=by
 refine h0.Cs 2 0 (m6 (by omega)) (by omega) (λ_ _ _=>rfl) hO (λx y z J Z h2=>ok_eq (e0:=λe=>ch e Z) (er:=λG=>⟨qG g _ (by unfold Ey at G;omega),?_,?_⟩) (eq:=λe=>?_) (hx:=kG J)) (hM.congr (λi hi=>?_)) ?_ (λk W=>hb k ?_)
 .unfold qz;have:x≠2:=by unfold Ey at G;omega
  rw[aa this,aa this];rfl
 .rw[CF _ _ _ _ (by decide)];rfl
 .have u:x=10:=by
   rcases e with e|e
   .have:=jC J (by omega);exact ch ⟨e,this⟩ h2
   exact e
  subst u;exact⟨qG g _ (by omega),rfl,rfl⟩
 .show(if i=7 then _ else _)=_;by_cases e:i=7
  .subst e;rw[aj rfl];show _=Value.slice ((g.at 2 0 r).ro 2 0).1 l.length ((g.at 2 0 r).ro 2 0).2;rw[xS]
  rw[aa e,CY p (m.eZ l) g r 7 (by omega) i e];unfold mE;rw[aa e,aa e];rfl
 .show fM w' 3 (.slice ((g.at 2 0 r).ro 2 0).1 l.length ((g.at 2 0 r).ro 2 0).2) (iI l);rw[xS];exact Y
 have o:eO ((g.at 2 0 r).ro 2 0).1=some k:=W;rw[xS]at o;exact o
theorem Tr.qv{m0:Dm}{g0:Dg}{w0:World}(h0:Tr p m0 g0 w0 m g w){t b off c:Nat}{J:World}(hq:fM J 3 (.slice (some ⟨b,off,none⟩) (m.q.length+1) c) (iI m.q++[iK (t:Int)]))(G:w.grownBy J (iR m g 2 0).ownBlock)(u:(iR m g 2 0).ownBlock=some b\/b=w.heap.size):Tr p m0 g0 w0 (m.qv t) (g.at 2 0 (some ⟨b,off,none⟩,c)) (J.setCell ⟨g.mb,7,none⟩ (.slice (some ⟨b,off,none⟩) (m.q.length+1) c)):=by
 have h:=h0.r;have Z:(iR m g 2 0).ownBlock=eO (g.ro 2 0).1:=dr _ _ _;rw[Z]at G u;have H:∀k,eO (g.ro 2 0).1=some k->k≠g.mb:=λk i=>h.ne (x:=2) (y:=0) (z:=0) (x':=0) (y':=0) (z':=0) (m6 (by omega)) rfl i rfl (by omega);have hl:(m.q++[t]).length=m.q.length+1:=by rw[bo];rfl
 have W:b≠g.mb:=by
  rcases u with e|e
  .exact H b e
  have:=h.M.lt;omega
 refine h0.eZ (l:=m.q++[t]) (r:=(some ⟨b,off,none⟩,c)) (bm (S:=λk=>k=g.mb\/eO (g.ro 2 0).1=some k) (a:=⟨g.mb,7,none⟩) ⟨G.os,G.tape,G.output,G.size,λk i hn=>G.block k i (λe=>hn (ab e.symm))⟩ (ag (ag rfl)) _) ?_ ?_ (λk i=>?_)
 .rw[hl];exact (h.M.block (G.block g.mb h.M.lt (λe=>H g.mb e.symm rfl))).ep 7 _
 .rw[hl,show iI (m.q++[t])=iI m.q++[iK (t:Int)] by unfold iI;rw[eP];rfl];exact hq.block (λk i=>af _ _ _ _ (by
   have:k=b:=by simpa[Value.ownBlock] using i.symm
   rw[this];exact W))
 have a0:k=b:=by
  have:some b=some k:=i;injection this with this;exact this.symm
 subst a0;rcases u with e|e
 .exact ag e
 exact ab ⟨h.fresh (by omega),by have:=h0.o.size;omega⟩
theorem B5(kind t:Nat)(x:Int)(h:dQ p m g w)(hn:m.ev.length<=100000): Calls prog 195 #[P0 g.mb,.int .i64 kind,.int .i64 t,.int .i64 x] w λe w'=>e=.returned (.tuple #[])/\∃g',Tr p m g w (m.told kind t x) g' w':=by
 obtain⟨i0,hi,a6,a4,a2⟩:=info_parts Tryz.yP;obtain⟨aC,aA⟩:=h.mc 15 (by omega) (v:=.slice (g.ro 4 0).1 m.ev.length (g.ro 4 0).2) rfl;have le:=h.M.lt;have HR:=az h;have HE:Hid (w.ownsRow 0 48 3 (.slice (g.ro 4 0).1 m.ev.length (g.ro 4 0).2) m.ev.length (kE m.ev)):=h.E;have H:∀k,(Value.slice (g.ro 4 0).1 m.ev.length (g.ro 4 0).2).ownBlock=some k->k≠g.mb/\k<w.heap.size:=λk H=>⟨eL HE h.M (by decide) k H,(dA HE k H).2.1⟩;have HK:=az H;have hX:kE (m.ev++[(kind,t,x)])=kE m.ev++[.int .i64 kind,.int .i64 t,.int .i64 x]:=by unfold kE;simp
 have HX:=az hX;go_in;go_wp2_with (at_builtin;refine gK rfl (.tmp 12) (.tmp 17) 45 rfl 48 i0 _ 3 24 underlying45 hi a6 a4 a2 rfl (by decide) _ _ _ _ rfl (dD HE (λk h=>ak _ _ _ (HK k h).2)) ⟨w.heap.size,0,none⟩ 1 1 [.int .i64 kind,.int .i64 t,.int .i64 x] rfl rfl ?c1 ?c2 ?c3 ?c4 ?c5 ?_)
 try case c1=>intro j u G;match j,G with|0,G=>(simp at G;subst G;simp[Addr.add,go_sem])|1,G=>(simp at G;subst G;simp[Addr.add,go_sem])|2,G=>(simp at G;subst G;simp[Addr.add,go_sem])
 try case c2=>simp[Value.oneCell']
 try case c3=>unfold maxLen;omega
 try case c4=>omega
 try case c5=>omega
 intro v' w6 ho Y a0;obtain⟨b,c,rfl⟩:=dM ho (by omega);have Z:=az ho;have a5:=az a0;have J:Hid (Full w6 g.mb 112 24 24 (mE p m g)):=(HR.M.block (ak _ _ _ le)).block (Y.block g.mb (by simp;omega) (λh=>(HK _ h.symm).1 rfl));have a7:Hid (dy (λk=>k=g.mb\/(ok p m g 4 0 0).bs k) w w6):=dy.trans (S1:=λk=>(Value.slice (g.ro 4 0).1 m.ev.length (g.ro 4 0).2).ownBlock=some k) (gF (dk _ w) _) ⟨Y.os,Y.tape,Y.output,Y.size,λk H hn=>Y.block k H (λe=>hn e.symm)⟩ (λk h _=>ab (by rw[dr]at h;exact h));obtain⟨a3,a8⟩:=J.cells 15 (by omega);generalize mE p m g 15=a9 at a3;go_wp2_with fail
 go_end0;have hl:(m.ev++[(kind,t,x)]).length=m.ev.length+1:=by rw[bo];rfl
 refine⟨rfl,g.at 4 0 (some ⟨b,0,none⟩,c),HR.Cs 4 0 (m6 (by omega)) (by omega) (λ_ _ _=>rfl) (bm a7 (ag (ag rfl)) _) (λx y z hv h0 h4=>ok_eq (e0:=λe=>ch e h0) (er:=λhr=>?_) (eq:=λe=>by rcases e with rfl|rfl<;>exact⟨qG g _ (by omega),rfl,rfl⟩) (hx:=kG hv)) ?_ ?_ ?_⟩
 .have W:¬(x=4/\y=0):=λe=>h4 ⟨e.1,e.2,(jC hv (by omega)).2⟩;refine⟨qG g _ W,?_,?_⟩
  .unfold qz;have:x≠4:=λe=>W ⟨e,(jC hv (by omega)).1⟩;rw[aa this,aa this];rfl
  rw[CF _ _ _ _ (by decide)];have:x≠4:=λe=>W ⟨e,(jC hv (by omega)).1⟩;unfold rC;rw[aa this,aa this];rfl
 .refine(J.ep 15 _).congr (λi hi=>?_);unfold ep;by_cases e:i=15
  .subst e;rw[aj rfl];show _=Value.slice ((g.at 4 0 (some ⟨b,0,none⟩,c)).ro 4 0).1 (m.ev++[(kind,t,x)]).length ((g.at 4 0 (some ⟨b,0,none⟩,c)).ro 4 0).2;rw[xS,hl]
  rw[aa e,CY p (m.told kind t x) g _ 15 (by omega) i e];unfold mE;rw[aa e,aa e];rfl
 .show World.ownsRow _ 0 48 3 (.slice ((g.at 4 0 (some ⟨b,0,none⟩,c)).ro 4 0).1 (m.ev++[(kind,t,x)]).length ((g.at 4 0 (some ⟨b,0,none⟩,c)).ro 4 0).2) (m.ev++[(kind,t,x)]).length (kE (m.ev++[(kind,t,x)]));rw[xS,hl,HX.out];exact dD Z (λk h=>af _ _ _ _ (eL Z J (by decide) k h))
 intro k H;have a1:eO ((g.at 4 0 (some ⟨b,0,none⟩,c)).ro 4 0).1=some k:=H;rw[xS]at a1;have o:some b=some k:=a1;injection o with o;subst o;rcases a5 with h1|⟨b',h1,h2⟩
 .left
  show eO (g.ro 4 0).1=some b;rw[<-dr (g.ro 4 0).1 m.ev.length (g.ro 4 0).2,<-h1];rfl
 have:b=b':=by injection h1
 right
 first|omega|(simp at h2;omega)
theorem cellS{w:World}{b o k j:Nat}{v x:Value}(h:w.cell? ⟨k,j,none⟩=some x)(e:k≠b):((w.setCell ⟨b,o,none⟩ v).drew).cell? ⟨k,j,none⟩=some x:=(aw (a:=⟨k,j,none⟩) (af w ⟨b,o,none⟩ v k e)).trans h
theorem fp{n:Nat}(h:n<1000000000):IntKind.i64.wrap ((n:Int)+1-1)=(n:Int):=by rw[bl,bd _ (by omega)];omega
structure JZ(p:Dp) (m:Dm) (g:Dg) (w:World) (t tb fb n:Nat):Prop where
 l:(m.T t).fr.length=n+1
 a:(g.ro 5 t).1=some ⟨fb,0,none⟩
 b:g.ro 1 0=(some ⟨tb,0,none⟩,(g.ro 1 0).2)
 c6:w.cell? ⟨g.mb,6,none⟩=some (.slice (some ⟨tb,0,none⟩) m.nt (g.ro 1 0).2)
 t0:w.cell? ⟨tb,(t-1)*8,none⟩=some (.slice (some ⟨fb,0,none⟩) (n+1) (g.ro 5 t).2)
 k0:w.cell? ⟨fb,n*4,none⟩=some (iK (fj m t n).f)
 k1:w.cell? ⟨fb,n*4+1,none⟩=some (.slice (some ⟨g.rb t n,0,none⟩) (p.rg (fj m t n).f) (p.rg (fj m t n).f))
 k2:w.cell? ⟨fb,n*4+2,none⟩=some (iK (fj m t n).nx)
 k3:w.cell? ⟨fb,n*4+3,none⟩=some (iK (fj m t n).bk.2.1)
 z:∀k,k<4->w.frozen? ⟨fb,n*4+k,none⟩=false
 n1:g.mb≠fb
 n2:tb≠fb
 n3:g.mb≠tb
 lf:fb<w.heap.size
 lt:tb<w.heap.size
theorem dQ.top(h:dQ p m g w){t:Nat}(ht:mF m t)(hn:(m.T t).fr.length≠0):∃tb fb n,JZ p m g w t tb fb n:=by
 obtain⟨b,H,W,Z,e⟩:=h.F ht hn;obtain⟨tb,J,o,tc⟩:=h.tc ht;obtain⟨n,u⟩:∃n,(m.T t).fr.length=n+1:=⟨(m.T t).fr.length-1,by omega⟩;rw[u]at e W;have k0:=e.cell (n*4) (by omega);have k1:=e.cell (n*4+1) (by omega);have k2:=e.cell (n*4+2) (by omega);have y:=e.cell (n*4+3) (by omega);have G:=tA p m g t (i:=n) (k:=0) (by omega);rw[Nat.add_zero]at G;rw[G]at k0;rw[tA p m g t (by omega)]at k1 k2 y;refine⟨tb,b,n,u,H,J,?_,?_,k0,k1,k2,y,λk Y=>(e.cells (n*4+k) (by omega)).2,h.M.ne e (by decide),o.ne e (by decide),h.M.ne o (by decide),e.lt,o.lt⟩
 .rw[show some (⟨tb,0,none⟩:Addr)=(g.ro 1 0).1 by rw[J]];exact(h.mc 6 (by omega) rfl).1
 have:=(tc.c 0 (by omega)).1;rw[Nat.add_zero]at this;rw[this];show some (Value.slice (g.ro 5 t).1 (m.T t).fr.length _)=_;rw[H,u]
theorem E5{k tb fb n:Nat}(t:JZ p m g w (k+1) tb fb n)(hn:n<20)(J:k<m.nt)(hm:m.nt<1000000000)(a:Nat): Calls prog 213 #[P0 g.mb,.int .i64 ((k:Int)+1),.int .i64 a] w λe w'=>e=.returned (.tuple #[])/\w'=(w.setCell ⟨fb,n*4+2,none⟩ (iK a)).drew:=by
 obtain⟨_,_,_,y,o,_,_,k2,_,z,G,H,n3,lf,lt⟩:=t;rw[dC]at o;generalize (g.ro 1 0).2=u at *;generalize (g.ro 5 (k+1)).2=i at *;generalize (fj m (k+1) n).nx=nx at *;generalize g.mb=rb at *;generalize m.nt=nt at *;have q1:(0:Int)<=n:=by omega
 have q2:(n:Int)<n+1:=by omega
 have W:=fp (n:=n) (by omega);have q4:IntKind.i64.wrap (n:Int)=n:=by rw[bl,bd _ (by omega)]
 have q5:=fp (n:=k) (by omega);have q6:IntKind.i64.wrap (k:Int)=k:=by rw[bl,bd _ (by omega)]
 have Z:(0:Int)<=k:=by omega
 have q8:(k:Int)<nt:=by omega
 go_in;go_wp2_with fail
 go_region_held3 (λw'=>w'.cell? ⟨rb,6,none⟩=some (.slice (some ⟨tb,0,none⟩) nt u)/\w'.cell? ⟨tb,k*8,none⟩=some (.slice (some ⟨fb,0,none⟩) (n+1) i)) (first|exact⟨y,o⟩|exact⟨cellS y G,cellS o H⟩) (fail)
 go_end0;exact⟨rfl,rfl⟩
theorem dQ.FT(h:dQ p m g w){t tb fb n:Nat}(ht:mF m t)(T:JZ p m g w t tb fb n)(a:Nat):Tr p m g w (m.dx t n { fj m t n with nx:=a }) g (w.setCell ⟨fb,n*4+2,none⟩ (iK a)):=by
 refine h.I7 ht (by rw[T.l];omega) T.a 2 (by omega) (iK a) (f:={ fj m t n with nx:=a }) rfl rfl (λj i=>?_);have e:j=0\/j=1\/j=2\/j=3:=by omega
 rcases e with rfl|rfl|rfl|rfl<;>rfl
theorem F4{t tb fb n:Nat}(h:dQ p m g w)(ht:mF m t)(T:JZ p m g w t tb fb n)(hn:n<20)(i:m.nt<1000000000)(a:Nat): Calls prog 213 #[P0 g.mb,.int .i64 t,.int .i64 a] w λe w'=>e=.returned (.tuple #[])/\Tr p m g w (m.dx t n { fj m t n with nx:=a }) g w':=by
 obtain⟨k,rfl⟩:∃k,t=k+1:=⟨t-1,by omega⟩;refine(E5 T hn (by omega) i a).mono ?_;rintro e w' ⟨rfl,rfl⟩;exact⟨rfl,(h.FT ht T a).kept (bq (ax _ _))⟩
theorem Tryz.qk:(prog.info? 3).map (λi=>(i.zero,i.size,i.bytes))=some (some (.int .i64 0),1,8):=by kernel_rfl
theorem Tryz.g9:prog.underlying 54=some (.slice 3):=by kernel_rfl
def Gi(w:World)(tb k ql qc:Nat)(qa:Option Addr)(xs:List Value)(w6:World)(b off c:Nat):Prop:=
 ∃o1 o2 o3,fM w6 3 (.slice (some ⟨b,off,none⟩) (xs.length+1) c) (xs++[.int .i64 ((k:Int)+1)])/\((((w.setCell ⟨tb,k*8+1,none⟩ (.int .i64 1)).alloc o1).alloc o2).alloc o3).grownBy w6 (Value.slice qa ql qc).ownBlock/\((Value.slice qa ql qc).ownBlock=some b\/b=w.heap.size+1+1+1)
theorem A0{rb tb cap k nt fl fc G u:Nat}{fa y:Option Addr}{v0 v1:Int}{x:Dt}{xs:List Value}(hk:k<nt)(hn:nt<1000000000)(hx:xs.length<=1000000000)(c6:w.cell? ⟨rb,6,none⟩=some (.slice (some ⟨tb,0,none⟩) nt cap))(q7:w.cell? ⟨rb,7,none⟩=some (.slice y G u)/\w.frozen? ⟨rb,7,none⟩=false)(i:∀j,j<8->w.cell? ⟨tb,k*8+j,none⟩=some (tC x (.slice fa fl fc) j)/\w.frozen? ⟨tb,k*8+j,none⟩=false)(hQ:fM w 3 (.slice y G u) xs)(ne:rb≠tb)(H:∀j,(Value.slice y G u).ownBlock=some j->j≠rb/\j≠tb)(a6:x.into<0): Calls prog 144 #[P0 rb,.int .i64 ((k:Int)+1),.agg #[.int .i64 v0,.int .i64 v1]] w λe w'=>e=.returned (.tuple #[])/\∃b off c o,Gi w tb k G u y xs o b off c/\w'=o.setCell ⟨rb,7,none⟩ (.slice (some ⟨b,off,none⟩) (xs.length+1) c):=by
 obtain⟨i0,hi,a2,a1,a0⟩:=info_parts Tryz.qk;obtain⟨q7,z7⟩:=q7;have z1:=(i 1 (by omega)).2;have lr:=av w _ c6;have c1:w.cell? ⟨tb,k*8+1,none⟩=some (.int .i64 x.how):=(i 1 (by omega)).1;have lt:=av w _ c1;have Z:∀j,(Value.slice y G u).ownBlock=some j->j≠rb/\j≠tb/\j<w.heap.size:=λj h=>⟨(H j h).1,(H j h).2,hQ.lt j h⟩;have HQ:=az hQ;have HK:=az Z;have c0:w.cell? ⟨tb,k*8,none⟩=some (.slice fa fl fc):=(i 0 (by omega)).1;have c2:w.cell? ⟨tb,k*8+2,none⟩=some (.int .i64 x.into):=(i 2 (by omega)).1;have c3:w.cell? ⟨tb,k*8+3,none⟩=some (.int .i64 x.what):=(i 3 (by omega)).1;have c4:w.cell? ⟨tb,k*8+4,none⟩=some (.int .i64 x.km):=(i 4 (by omega)).1;have c5:w.cell? ⟨tb,k*8+5,none⟩=some (.int .i64 x.ji):=(i 5 (by omega)).1;have a5:w.cell? ⟨tb,k*8+6,none⟩=some (.int .i64 x.out.1):=(i 6 (by omega)).1;have c7:w.cell? ⟨tb,k*8+7,none⟩=some (.int .i64 x.out.2):=(i 7 (by omega)).1;clear i hQ H Z;have q5:=fp (n:=k) (by omega);have a4:(0:Int)<=k:=by omega
 have q8:(k:Int)<nt:=by omega
 have a3:¬(0<=x.into):=by omega
 go_in;go_wp2_with (at_builtin;refine gZ _ rfl (.tmp 27) (.tmp 29) 54 rfl 3 i0 _ 8 Tryz.g9 hi a2 a1 a0 rfl _ xs rfl (HQ.block ?cq) _ _ (.int .i64 ((k:Int)+1)) rfl ?c1 rfl ?c3 ?c4 ?_)
 case cq=>
  intro j h;obtain⟨k1,k2,k3⟩:=HK j h;rw[ak _ _ _ (by simp;omega),ak _ _ _ (by simp;omega),ak _ _ _ (by simp;omega),af _ _ _ _ k2]
 try case c1=>simp[go_sem]
 try case c3=>unfold maxLen;omega
 try case c4=>omega
 intro g off c o hq W J;have KR:Hid (Gi w tb k G u y xs o g off c):=⟨_,_,_,hq,W,J⟩;have f2:o.cell? ⟨w.heap.size+1,2,none⟩=some (.int .i64 x.into):=by
  rw[aw (W.block (w.heap.size+1) (by simp) (λh=>by have:=(HK _ h.symm).2.2;omega))];simp[go_sem]
 have b0:o.heap[rb]? = w.heap[rb]?:=by rw[W.block rb (by simp;omega) (λh=>(HK rb h.symm).1 rfl),ak _ _ _ (by simp;omega),ak _ _ _ (by simp;omega),ak _ _ _ (by simp;omega),af _ _ _ _ ne]
 have d7:=(aw (a:=⟨rb,7,none⟩) b0).trans q7;have e7:=(dg (a:=⟨rb,7,none⟩) b0).trans z7
 go_wp2_with fail
 go_end0;exact⟨rfl,g,off,c,o,KR,rfl⟩
theorem yC{rb tb cap k nt f fc J G fb r vb rl rc:Nat}{H:Option Addr}{v0 v1:Int}{x:Dt}{xs:List Value}{o8 o9:Value}(hk:k<nt)(hn:nt<1000000000)(hx:xs.length<=1000000000)(c6:w.cell? ⟨rb,6,none⟩=some (.slice (some ⟨tb,0,none⟩) nt cap))(q7:w.cell? ⟨rb,7,none⟩=some (.slice H J G)/\w.frozen? ⟨rb,7,none⟩=false)(o:∀j,j<8->w.cell? ⟨tb,k*8+j,none⟩=some (tC x (.slice (some ⟨fb,0,none⟩) (f+1) fc) j)/\w.frozen? ⟨tb,k*8+j,none⟩=false)(hQ:fM w 3 (.slice H J G) xs)(ne:rb≠tb)(y:∀j,(Value.slice H J G).ownBlock=some j->j≠rb/\j≠tb/\j≠vb/\j≠fb)(a2:x.into=(r:Int))(Z:w.cell? ⟨fb,f*4+1,none⟩=some (.slice (some ⟨vb,0,none⟩) rl rc))(a5:fb≠tb/\fb≠rb)(nv:vb≠rb/\vb≠tb/\vb≠fb)(a0:w.cell? ⟨vb,r*2,none⟩=some o8/\w.frozen? ⟨vb,r*2,none⟩=false)(a4:w.cell? ⟨vb,r*2+1,none⟩=some o9/\w.frozen? ⟨vb,r*2+1,none⟩=false)(hr:r<rl)(hf:f<=100000): Calls prog 144 #[P0 rb,.int .i64 ((k:Int)+1),.agg #[.int .i64 v0,.int .i64 v1]] w λe w'=>e=.returned (.tuple #[])/\∃b off c i,Gi w tb k J G H xs i b off c/\(((i.setCell ⟨rb,7,none⟩ (.slice (some ⟨b,off,none⟩) (xs.length+1) c)).setCell ⟨vb,r*2,none⟩ (.int .i64 v0)).setCell ⟨vb,r*2+1,none⟩ (.int .i64 v1)).grownBy w' none:=by
 obtain⟨i0,hi,aA,a9,aB⟩:=info_parts Tryz.qk;obtain⟨q7,z7⟩:=q7;have z1:=(o 1 (by omega)).2;have lr:=av w _ c6;have c1:w.cell? ⟨tb,k*8+1,none⟩=some (.int .i64 x.how):=(o 1 (by omega)).1;have lt:=av w _ c1;have a7:∀j,(Value.slice H J G).ownBlock=some j->j≠rb/\j≠tb/\j<w.heap.size/\j≠vb/\j≠fb:=λj h=>⟨(y j h).1,(y j h).2.1,hQ.lt j h,(y j h).2.2⟩;have HQ:=az hQ;have Y:=az a7;have lv:=av w _ a0.1;have lf:=av w _ Z;have c0:w.cell? ⟨tb,k*8,none⟩=some (.slice (some ⟨fb,0,none⟩) (f+1) fc):=(o 0 (by omega)).1;have c2:w.cell? ⟨tb,k*8+2,none⟩=some (.int .i64 r):=by rw[<-a2];exact(o 2 (by omega)).1
 have c3:w.cell? ⟨tb,k*8+3,none⟩=some (.int .i64 x.what):=(o 3 (by omega)).1;have c4:w.cell? ⟨tb,k*8+4,none⟩=some (.int .i64 x.km):=(o 4 (by omega)).1;have c5:w.cell? ⟨tb,k*8+5,none⟩=some (.int .i64 x.ji):=(o 5 (by omega)).1;have aJ:w.cell? ⟨tb,k*8+6,none⟩=some (.int .i64 x.out.1):=(o 6 (by omega)).1;have c7:w.cell? ⟨tb,k*8+7,none⟩=some (.int .i64 x.out.2):=(o 7 (by omega)).1;have aC:=az Z;have a1:=az a0;have a8:=az a4;clear o hQ y a7 a2 Z a0 a4;have q5:=fp (n:=k) (by omega);have aG:(0:Int)<=k:=by omega
 have q8:(k:Int)<nt:=by omega
 have aO:(r:Int)<rl:=by omega
 go_in;go_wp2_with (at_builtin;refine gZ _ rfl (.tmp 27) (.tmp 29) 54 rfl 3 i0 _ 8 Tryz.g9 hi aA a9 aB rfl _ xs rfl (HQ.out.block ?cq) _ _ (.int .i64 ((k:Int)+1)) rfl ?c1 rfl ?c3 ?c4 ?_)
 case cq=>
  intro j h;obtain⟨k1,k2,k3,_⟩:=Y.out j h;rw[ak _ _ _ (by simp;omega),ak _ _ _ (by simp;omega),ak _ _ _ (by simp;omega),af _ _ _ _ k2]
 try case c1=>simp[go_sem]
 try case c3=>unfold maxLen;omega
 try case c4=>omega
 intro g off c i hq W a3;have KR:Hid (Gi w tb k J G H xs i g off c):=⟨_,_,_,hq,W,a3⟩;have a6:=W.size;have u:∀j,j<w.heap.size->j≠tb->(Value.slice H J G).ownBlock≠some j->i.heap[j]? = w.heap[j]?:=λj hj h1 h2=>by rw[W.block j (by simp;omega) (λh=>h2 h.symm),ak _ _ _ (by simp;omega),ak _ _ _ (by simp;omega),ak _ _ _ (by simp;omega),af _ _ _ _ h1]
 have b0:=u rb lr ne (λh=>(Y.out rb h).1 rfl);have b2:=u vb lv nv.2.1 (λh=>(Y.out vb h).2.2.2.1 rfl);have b3:=u fb lf a5.1 (λh=>(Y.out fb h).2.2.2.2 rfl);have d7:=(aw (a:=⟨rb,7,none⟩) b0).trans q7;have e7:=(dg (a:=⟨rb,7,none⟩) b0).trans z7;have g1:i.cell? ⟨fb,f*4+1,none⟩=some (.slice (some ⟨vb,0,none⟩) rl rc):=(aw (a:=⟨fb,f*4+1,none⟩) b3).trans aC.out;have aD:=(aw (a:=⟨vb,r*2,none⟩) b2).trans a1.1;have aI:=(dg (a:=⟨vb,r*2,none⟩) b2).trans a1.2;have aE:=(aw (a:=⟨vb,r*2+1,none⟩) b2).trans a8.1;have aN:=(dg (a:=⟨vb,r*2+1,none⟩) b2).trans a8.2;have f2:i.cell? ⟨w.heap.size+1,2,none⟩=some (.int .i64 r):=by
  rw[aw (W.block (w.heap.size+1) (by simp) (λh=>by have:=(Y _ h.symm).2.2.1;omega))];simp[go_sem]
 have f0:i.cell? ⟨w.heap.size+1,0,none⟩=some (.slice (some ⟨fb,0,none⟩) (f+1) fc):=by
  rw[aw (W.block (w.heap.size+1) (by simp) (λh=>by have:=(Y _ h.symm).2.2.1;omega))];simp[go_sem]
 have aK:i.cell? ⟨w.heap.size,0,none⟩=some (.int .i64 v0):=by
  rw[aw (a:=⟨w.heap.size,0,none⟩) (W.block w.heap.size (by simp;omega) (λh=>by have:=(Y _ h.symm).2.2.1;omega))];simp[go_sem]
 have aF:i.cell? ⟨w.heap.size,1,none⟩=some (.int .i64 v1):=by
  rw[aw (a:=⟨w.heap.size,1,none⟩) (W.block w.heap.size (by simp;omega) (λh=>by have:=(Y _ h.symm).2.2.1;omega))];simp[go_sem]
 have n7:¬(rb=vb):=λe=>nv.1 e.symm;clear hq W a3 b0 b2 b3 a6 u;have aL:IntKind.i64.wrap ((f:Int)+1-1)=(f:Int):=fp (by omega);have aM:(f:Int)<f+1:=by omega
 have aH:(0:Int)<=f:=by omega
 go_wp2_with fail
 go_region
 all_goals
  go_wp2_with fail
  go_end0;refine⟨rfl,g,off,c,i,KR,?_⟩;first
   | exact ax _ _
   | exact bq (ax _ _)
   | exact db (ax _ _) _
   | exact⟨rfl,rfl,rfl,bj _,λ_ _ _=>rfl⟩
theorem iH(l:List Nat):(iI l).length=l.length:=by unfold iI;exact dS _
theorem Cz{t:Nat}(v:B.V)(h:dQ p m g w)(ht:mF m t)(hn:m.nt<1000000000)(hq:m.q.length<=1000000000)(a5:0<=(m.T t).into->(m.T t).fr.length≠0/\(m.T t).fr.length<=20/\(m.T t).into.toNat<p.rg (pR m t).f): Calls prog 144 #[P0 g.mb,.int .i64 t,vA v] w λe w'=>e=.returned (.tuple #[])/\∃g',Tr p m g w (m.ready t v) g' w':=by
 obtain⟨k,rfl⟩:∃k,t=k+1:=⟨t-1,by omega⟩;obtain⟨tb,e1,hT,tc⟩:=h.tc ht;have c6:w.cell? ⟨g.mb,6,none⟩=some (.slice (some ⟨tb,0,none⟩) m.nt (g.ro 1 0).2):=by
  rw[show some (⟨tb,0,none⟩:Addr)=(g.ro 1 0).1 by rw[e1]];exact(h.mc 6 (by omega) rfl).1
 have a8:(iR m g 2 0).ownBlock=eO (g.ro 2 0).1:=dr _ _ _;have u:∀j,(iR m g 2 0).ownBlock=some j->(ok p m g 2 0 0).bs j:=λj o=>by rw[a8]at o;exact o
 have v0:vd p m 0 0 0=true:=rfl;have v1:vd p m 1 0 0=true:=rfl;have W:vd p m 2 0 0=true:=rfl;have b0:(ok p m g 0 0 0).bs g.mb:=rfl;have G:(ok p m g 1 0 0).bs tb:=by
  show eO (g.ro 1 0).1=some tb;rw[e1];rfl
 have ne:=h.M.ne hT (by decide);have cs:∀i:Nat,i<8->i=0\/i=1\/i=2\/i=3\/i=4\/i=5\/i=6\/i=7:=λi hi=>by omega
 have h1:Tr p m g w (m.dv (k+1) ((m.T (k+1)).hw 1)) g (w.setCell ⟨tb,k*8+1,none⟩ (.int .i64 1)):=h.sw ht e1 1 (by omega) _ rfl (λi hi=>by rcases cs i hi with rfl|rfl|rfl|rfl|rfl|rfl|rfl|rfl<;>rfl);have tW:∀b off c H,Gi w tb k m.q.length (g.ro 2 0).2 (g.ro 2 0).1 (iI m.q) H b off c->Tr p m g w (m.tW (k+1)) (g.at 2 0 (some ⟨b,off,none⟩,c)) (H.setCell ⟨g.mb,7,none⟩ (.slice (some ⟨b,off,none⟩) (m.q.length+1) c)):=λb off c H hR=>by
  obtain⟨o1,o2,o3,r1,r2,r3⟩:=hR;rw[iH]at r1;exact Tr.qv (t:=k+1) (((h1.kept (ah _ o1 none)).kept (ah _ o2 none)).kept (ah _ o3 none)) r1 r2 (r3.imp id (λe=>by rw[e];simp))
 have Z:(iI m.q).length<=1000000000:=by rw[iH];exact hq
 by_cases hi:0<=(m.T (k+1)).into
 .obtain⟨f1,f2,f3⟩:=a5 hi;obtain⟨a4,fb,n,T⟩:=h.top ht f1;have a7:a4=tb:=by
   have:=T.b;rw[e1]at this;injection this with this _;injection this with this;injection this with this _;exact this.symm
  subst a7;have a1:pQ m (k+1)=n:=by unfold pQ;rw[T.l];omega
  have a3:pR m (k+1)=fj m (k+1) n:=by unfold pR;rw[a1]
  rw[a3]at f3;have J:n<(m.T (k+1)).fr.length:=by rw[T.l];omega
  have a2:=h.R ht J;have y:(ok p m g 6 (k+1) n).bs (g.rb (k+1) n):=rfl;have a0:(ok p m g 5 (k+1) 0).bs fb:=by
   show eO (g.ro 5 (k+1)).1=some fb;rw[T.a];rfl
  have v5:=pX (p:=p) (m:=m) ht.1 ht.2;have v6:=Az (p:=p) (m:=m) ht.1 ht.2 J;refine(yC (fc:=(g.ro 5 (k+1)).2) (x:=m.T (k+1)) (r:=(m.T (k+1)).into.toNat) (v0:=(v.1:Int)) (v1:=v.2) (xs:=iI m.q) (by omega) hn Z c6 (h.mc 7 (by omega) rfl) (λj o=>?_) h.Q ne (λj o=>⟨h.ne W v0 (u j o) b0 (by omega),h.ne W v1 (u j o) G (by omega),h.ne W v6 (u j o) y (by omega),h.ne W v5 (u j o) a0 (by omega)⟩) (by omega) T.k1 ⟨T.n2.symm,T.n1.symm⟩ ⟨h.ne v6 v0 y b0 (by omega),h.ne v6 v1 y G (by omega),h.ne v6 v5 y a0 (by omega)⟩ (a2.cells _ (by omega)) (a2.cells _ (by omega)) f3 (by omega)).mono ?_
  .have:=tc.c j o;have hs:iR m g 5 (k+1)=.slice (some ⟨fb,0,none⟩) (n+1) (g.ro 5 (k+1)).2:=by
    show Value.slice (g.ro 5 (k+1)).1 (m.T (k+1)).fr.length _=_;rw[T.a,T.l]
   rw[hs]at this;exact this
  rintro e w' ⟨rfl,b,off,c,H,hR,hg⟩;rw[iH]at hg;have h2:=tW b off c H hR;have Y:((m.tW (k+1)).T (k+1))=(m.T (k+1)).hw 1:=fG _ _ _;have a6:fj (m.tW (k+1)) (k+1) n=fj m (k+1) n:=by unfold fj;rw[Y];rfl
  have h3:=h2.r.wP (t:=k+1) (i:=n) ht (by rw[Y];exact J) (m.T (k+1)).into.toNat v;refine⟨rfl,g.at 2 0 (some ⟨b,off,none⟩,c),?_⟩;unfold Dm.ready;rw[aj hi,a1,a3];rw[a6]at h3;exact(h2.trans h3).kept hg
 refine(A0 (x:=m.T (k+1)) (v0:=(v.1:Int)) (v1:=v.2) (xs:=iI m.q) (by omega) hn Z c6 (h.mc 7 (by omega) rfl) (λj o=>tc.c j o) h.Q ne (λj o=>⟨h.ne W v0 (u j o) b0 (by omega),h.ne W v1 (u j o) G (by omega)⟩) (by omega)).mono ?_;rintro e w' ⟨rfl,b,off,c,H,hR,rfl⟩;refine⟨rfl,g.at 2 0 (some ⟨b,off,none⟩,c),?_⟩;unfold Dm.ready;rw[aa hi,iH];exact tW b off c H hR
theorem CZ(p:Dp)(m:Dm)(g:Dg)(t:Nat)(x:Dt)(r:Option Addr×Nat):mE p (m.dv t x) (g.at 5 t r)=mE p m g:=by
 have o:∀a b,a≠5->iR (m.dv t x) (g.at 5 t r) a b=iR m g a b:=λa b u=>by
  rw[nB _ _ _ (λe=>u e.1)];unfold iR qz;rw[aa u,aa u];rfl
 funext i
 unfold mE;rw[o 1 0 (by decide),o 2 0 (by decide),o 10 _ (by decide),o 3 0 (by decide),o 4 0 (by decide)];rfl
theorem Cb(m:Dm)(g:Dg){t:Nat}(ht:1<=t)(l:List gY)(r:Option Addr×Nat)(i:Nat):tE (m.dv t ((m.T t).kD l)) (g.at 5 t r) i=if i=(t-1)*8 then .slice r.1 l.length r.2 else tE m g i:=by
 unfold tE;by_cases e:i / 8+1=t
 .rw[e,fG];by_cases o:i=(t-1)*8
  .rw[aj o,show i % 8=0 by omega];show Value.slice ((g.at 5 t r).ro 5 t).1 ((m.dv t ((m.T t).kD l)).T t).fr.length ((g.at 5 t r).ro 5 t).2=_;rw[xS,fG];rfl
  rw[aa o];have u:¬i % 8=0:=by omega
  unfold tC;rw[aa u,aa u];rfl
 rw[aa (by omega),fA _ _ e];have:iR (m.dv t ((m.T t).kD l)) (g.at 5 t r) 5 (i / 8+1)=iR m g 5 (i / 8+1):=by
  rw[nB _ _ _ (λy=>e y.2)];unfold iR;show Value.slice _ ((m.dv t _).T _).fr.length _=Value.slice _ (m.T _).fr.length _;rw[fA _ _ e]
 rw[this]
theorem Bw(p:Dp)(m:Dm){g:Dg}{tb c:Nat}(i:g.ro 1 0=(some ⟨tb,0,none⟩,c))(k:Nat):(ok p m g 1 0 0).bs k↔k=tb:=by
 show eO (g.ro 1 0).1=some k↔k=tb;rw[i];show some tb=some k↔k=tb;exact⟨λe=>by injection e with e;exact e.symm,λe=>by rw[e]⟩
theorem dQ.shrink(h:dQ p m g w){t:Nat}(ht:mF m t){tb:Nat}(hb:g.ro 1 0=(some ⟨tb,0,none⟩,(g.ro 1 0).2)){j:Nat}(hj:j<=(m.T t).fr.length){r:Option Addr×Nat}(hr:r=g.ro 5 t\/(r=(none,0)/\j=0)):Tr p m g w (m.dv t ((m.T t).kD ((m.T t).fr.take j))) (g.at 5 t r) (w.setCell ⟨tb,(t-1)*8,none⟩ (.slice r.1 j r.2)):=by
 have:=ht.1;have:=ht.2;have W:((m.T t).fr.take j).length=j:=by rw[List.length_take];omega
 have H:(m.dv t ((m.T t).kD ((m.T t).fr.take j))).T t=(m.T t).kD ((m.T t).fr.take j):=fG _ _ _;have Y:∀y z,(y=t->z<j)->fj (m.dv t ((m.T t).kD ((m.T t).fr.take j))) y z=fj m y z:=λy z a3=>by
  unfold fj;by_cases e:y=t
  .subst e;rw[H];show((m.T y).fr.take j).getD z mr=_;rw[ar,dh,aj (a3 rfl),<-ar]
  rw[fA _ _ e]
 have a2:∀x y z,¬(x=6/\y=t/\j<=z)->vd p (m.dv t ((m.T t).kD ((m.T t).fr.take j))) x y z=vd p m x y z:=λx y z hC=>by
  unfold vd;by_cases e:x=6
  .subst e;show decide (1<=y/\y<=m.nt/\z<((m.dv t ((m.T t).kD ((m.T t).fr.take j))).T y).fr.length)=decide (1<=y/\y<=m.nt/\z<(m.T y).fr.length);by_cases e2:y=t
   .subst e2;rw[H];apply decide_eq_decide.2
    show(1<=y/\y<=m.nt/\z<((m.T y).fr.take j).length)↔_;rw[W];have:¬j<=z:=λe=>hC ⟨rfl,rfl,e⟩;omega
   rw[fA _ _ e2]
  rw[aa e,aa e];rfl
 obtain⟨b,u,h1,h2,h3⟩:=h.T (by omega);have a6:b=tb:=by rw[hb]at u;injection u with u;injection u with u _;exact u.symm
 subst a6;refine h.to (λx y z=>(x=1/\y=0/\z=0)\/(x=5/\y=t/\z=0)\/(x=6/\y=t/\j<=z)) (λ_=>(1,0,0)) (bm (S:=λk=>∃x y z,((x=1/\y=0/\z=0)\/(x=5/\y=t/\z=0)\/(x=6/\y=t/\j<=z))/\(ob p m g x y z).bs k) (a:=⟨b,(t-1)*8,none⟩) (dk _ _) (ag ⟨1,0,0,ag ⟨rfl,rfl,rfl⟩,((Bw p m hb) b).2 rfl⟩) _) (λx y z hC=>jT (a2 x y z (λe=>hC (ab (ab e)))) (λhv=>?_)) ?_ ?_
 .refine ok_eq (e0:=λ_=>⟨rfl,CZ p m g t _ r⟩) (er:=λa4=>?_) (eq:=λe=>⟨qG g _ (by omega),?_,?_⟩) (e6:=λe=>?_) (hx:=kG hv)
  .have a0:x≠1:=λe=>hC (ag ⟨e,jC hv (by omega)⟩);have h5:¬(x=5/\y=t):=λe=>hC (ab (ag ⟨e.1,e.2,by have:=e.1;subst this;exact(uh hv).2.2⟩));refine⟨qG g _ h5,?_,?_⟩
   .unfold qz;by_cases e5:x=5
    .subst e5;show((m.dv t _).T y).fr.length=(m.T y).fr.length;rw[fA _ _ (λe=>h5 ⟨rfl,e⟩)]
    rw[aa e5,aa e5];rfl
   unfold rC;rw[aa a0,aa a0];by_cases e3:x=3
   .rw[aj e3,aj e3];rfl
   rw[aa e3,aa e3];by_cases e4:x=4
   .rw[aj e4,aj e4];rfl
   rw[aa e4,aa e4];have e5:x=5:=by unfold Ey at a4;omega
   have a1:y≠t:=λe=>h5 ⟨e5,e⟩;rw[fA _ _ a1];exact iD (λi _=>by unfold fE;rw[Y y _ (λe=>ch e a1)];rfl)
  .unfold qz;rcases e with rfl|rfl<;>rfl
  .rcases e with rfl|rfl<;>rfl
  subst e;rw[Y y z (λe=>by
   rcases Nat.lt_or_ge z j with h|h
   .exact h
   exact ch (ab (ab ⟨rfl,e,h⟩)) hC)]
  exact⟨rfl,rfl,rfl⟩
 .rintro x y z (⟨rfl,rfl,rfl⟩|⟨rfl,rfl,rfl⟩|⟨rfl,rfl,hz⟩)
  .show World.ownsRow _ 0 167 8 (.slice ((g.at 5 t r).ro 1 0).1 m.nt ((g.at 5 t r).ro 1 0).2) m.nt (rowP (m.nt*8) (tE (m.dv t ((m.T t).kD ((m.T t).fr.take j))) (g.at 5 t r)));rw[qG g r (by omega),u];exact mn h1 h2 ((h3.ep _ _).congr (λi hi=>by rw[Cb m g ht.1,W];rfl))
  .have o:vd p (m.dv y ((m.T y).kD ((m.T y).fr.take j))) 5 y 0=true:=pX ht.1 ht.2;rw[fP o];show World.ownsRow _ 0 163 4 (.slice ((g.at 5 y r).ro 5 y).1 ((m.dv y ((m.T y).kD ((m.T y).fr.take j))).T y).fr.length ((g.at 5 y r).ro 5 y).2) ((m.dv y ((m.T y).kD ((m.T y).fr.take j))).T y).fr.length (rowP (((m.dv y ((m.T y).kD ((m.T y).fr.take j))).T y).fr.length*4) (fE p (m.dv y ((m.T y).kD ((m.T y).fr.take j))) (g.at 5 y r) y));rw[xS,H];show World.ownsRow _ 0 163 4 (.slice r.1 ((m.T y).fr.take j).length r.2) ((m.T y).fr.take j).length (rowP (((m.T y).fr.take j).length*4) _);rw[W];have Z:rowP (j*4) (fE p (m.dv y ((m.T y).kD ((m.T y).fr.take j))) (g.at 5 y r) y)=rowP (j*4) (fE p m g y):=iD (λi hi=>by unfold fE;rw[Y y _ (λ_=>by omega)];rfl);rw[Z];have hF:=h.Fw ht;rcases hr with rfl|⟨rfl,rfl⟩
   .by_cases h0:(m.T y).fr.length=0
    .obtain rfl:j=0:=by omega
     have a8:w.ownsRow 0 163 4 (.slice (g.ro 5 y).1 0 (g.ro 5 y).2) 0 (rowP (0*4) (fE p m g y)):=by
      have:=hF;unfold iR at this;rw[show qz m 5 y=(m.T y).fr.length from rfl,h0]at this;exact this
     exact dD a8 (λk J=>af _ _ _ _ ((λk J=>eL hF h3 (by decide) k J) k (by rw[dr]at J;unfold iR;rw[dr];exact J)))
    obtain⟨fb,f0,f1,f2,f3⟩:=h.F ht h0;rw[f0];exact mn (by omega) f2 ((Full.down f3 (by omega)).off (h3.ne f3 (by decide)).symm)
   exact⟨rfl,ag ⟨rfl,rfl⟩⟩
  have o:¬vd p (m.dv y ((m.T y).kD ((m.T y).fr.take j))) 6 y z=true:=λo=>by
   have:=(wv o).2.2;rw[H]at this;have h':z<((m.T y).fr.take j).length:=this;omega
  rw[zP o];trivial
 rintro x y z k (⟨rfl,rfl,rfl⟩|⟨rfl,rfl,rfl⟩|⟨rfl,rfl,hz⟩) J
 .left
  have G:eO ((g.at 5 t r).ro 1 0).1=some k:=J;rw[qG g r (by omega)]at G;exact G
 .left
  rw[fP (m:=m.dv y ((m.T y).kD ((m.T y).fr.take j))) (pX ht.1 ht.2)]at J;rw[fP (pX ht.1 ht.2)];have G:eO ((g.at 5 y r).ro 5 y).1=some k:=J;rw[xS]at G;rcases hr with rfl|⟨rfl,_⟩
  .exact G
  cases G
 exfalso
 have o:¬vd p (m.dv y ((m.T y).kD ((m.T y).fr.take j))) 6 y z=true:=λo=>by
  have:=(wv o).2.2;rw[H]at this;have h':z<((m.T y).fr.take j).length:=this;omega
 rw[zP o]at J;exact J
theorem Tryz.rH:(prog.info? 115).map (λi=>(i.zero,i.size,i.bytes))=some (some (.agg #[.int .i64 0,.int .i64 0]),2,16):=by kernel_rfl
theorem Tryz.underlying161:prog.underlying 161=some (.slice 115):=by kernel_rfl
theorem ta{w:World}{g b e:Nat}(h:w.ownsRow e 115 2 (.slice (some ⟨g,0,none⟩) b b) b (madeCells #[.int .i64 0,.int .i64 0] (b*2)).toList):Full w g 115 (b*2) (b*2) (eC (λ_=>(0,0))):=by
 rcases h.2 with⟨h,_⟩|⟨g',u,i,H,h2,Y,h4,Z,J,W⟩
 .cases h
 cases H;refine⟨i,Y,J,λj y=>?_⟩;have o:=congrArg (λl=>l[j]?) W;have G:(madeCells #[.int .i64 0,.int .i64 0] (b*2)).toList[j]? = some (.int .i64 0):=by
  simp only[madeCells,Array.getElem?_toList,Array.getElem?_map,Array.getElem?_range];rw[aj y];have:j % 2=0\/j % 2=1:=by omega
  rcases this with h|h<;>simp[h]
 simp only[G,dh]at o;rw[aj y]at o;rw[mf];simpa using o
theorem xL{rb gb nf gc f r0:Nat}{u v:B.V}{into:Int}(h0:w.cell? ⟨rb,0,none⟩=some (.slice (some ⟨gb,0,none⟩) nf gc))(h1:w.cell? ⟨gb,f*2,none⟩=some (.int .i64 (r0:Int)))(hf:f<nf)(hr:2<=r0)(aE:r0<=8): Calls prog 74 #[P0 rb,.int .i64 (f:Int),vA u,vA v,.int .i64 into] w λe w'=>∃b,e=.returned (.agg #[.int .i64 (f:Int),.slice (some ⟨b,0,none⟩) r0 r0,.int .i64 0,.int .i64 into])/\w.heap.size<=b/\Full w' b 115 (r0*2) (r0*2) (eC (gh u v))/\w.grownBy w' none:=by
 obtain⟨u1,Z⟩:=u;obtain⟨v1,v2⟩:=v;obtain⟨i0,hi,a4,a3,a2⟩:=info_parts Tryz.rH;have a9:(f:Int)<(nf:Int):=by omega
 have lr:rb<w.heap.size:=av w _ h0;have lg:gb<w.heap.size:=av w _ h1;have a8:rb<w.heap.size+1:=by omega
 have aD:rb<w.heap.size+1+1:=by omega
 have aB:gb<w.heap.size+1:=by omega
 have aC:gb<w.heap.size+1+1:=by omega
 go_in;go_wp2_with (at_make;go_loud (refine wpList_make_full _ rfl _ _ 161 rfl 0 115 i0 _ 2 Tryz.underlying161 hi a4 a3 _ _ _ _ r0 rfl rfl rfl rfl (by rw[a2];omega) (by unfold maxLen;omega) (dc _) ?_))
 intro i Y G;have y:=ta Y;have J:∀j o,j<w.heap.size+3->(((w.alloc (.cells #[.int .i64 (u1:Int),.int .i64 Z] 115)).alloc (.cells #[.int .i64 (v1:Int),.int .i64 v2] 115)).alloc (.cells #[.int .i64 0,.slice none 0 0,.int .i64 0,.int .i64 0] 163)).heap[j]? = some o->i.heap[j]? = some o:=λj o hj ho=>cm G ho (by intro e;cases e);have s1:(w.alloc (.cells #[.int .i64 (u1:Int),.int .i64 Z] 115)).heap.size=w.heap.size+1:=by simp
 have s2:((w.alloc (.cells #[.int .i64 (u1:Int),.int .i64 Z] 115)).alloc (.cells #[.int .i64 (v1:Int),.int .i64 v2] 115)).heap.size=w.heap.size+1+1:=by simp
 have x0:=J w.heap.size (.cells #[.int .i64 (u1:Int),.int .i64 Z] 115 (0,0)) (by omega) (by rw[ak _ _ _ (by simp;omega),ak _ _ _ (by simp)];exact bf _ _);have x1:=J (w.heap.size+1) (.cells #[.int .i64 (v1:Int),.int .i64 v2] 115 (0,0)) (by omega) (by rw[ak _ _ _ (by simp),<-s1];exact bf _ _);have W:=J (w.heap.size+1+1) (.cells #[.int .i64 0,.slice none 0 0,.int .i64 0,.int .i64 0] 163 (0,0)) (by omega) (by rw[<-s2];exact bf _ _);have a5:Hid (w.grownBy i none):=an (au (au (au (ax _ _) _) _) _) G;have a6:=az y;have a0:i.cell? ⟨w.heap.size,0,none⟩=some (.int .i64 (u1:Int)):=by simp[World.cell?,x0]
 have a1:i.cell? ⟨w.heap.size,1,none⟩=some (.int .i64 Z):=by simp[World.cell?,x0]
 have b0:i.cell? ⟨w.heap.size+1,0,none⟩=some (.int .i64 (v1:Int)):=by simp[World.cell?,x1]
 have b1:i.cell? ⟨w.heap.size+1,1,none⟩=some (.int .i64 v2):=by simp[World.cell?,x1]
 have f0:i.cell? ⟨w.heap.size+1+1,0,none⟩=some (.int .i64 0):=by simp[World.cell?,W]
 have f1:i.cell? ⟨w.heap.size+1+1,1,none⟩=some (.slice none 0 0):=by simp[World.cell?,W]
 have f2:i.cell? ⟨w.heap.size+1+1,2,none⟩=some (.int .i64 0):=by simp[World.cell?,W]
 have f3:i.cell? ⟨w.heap.size+1+1,3,none⟩=some (.int .i64 0):=by simp[World.cell?,W]
 have y0:i.frozen? ⟨w.heap.size+1+1,0,none⟩=false:=by simp[World.frozen?,W]
 have y1:i.frozen? ⟨w.heap.size+1+1,1,none⟩=false:=by simp[World.frozen?,W]
 have y2:i.frozen? ⟨w.heap.size+1+1,2,none⟩=false:=by simp[World.frozen?,W]
 have y3:i.frozen? ⟨w.heap.size+1+1,3,none⟩=false:=by simp[World.frozen?,W]
 obtain⟨k0,e0⟩:=y.cells 0 (by omega);obtain⟨k1,e1⟩:=y.cells 1 (by omega);obtain⟨k2,e2⟩:=y.cells 2 (by omega);obtain⟨k3,e3⟩:=y.cells 3 (by omega);rw[mf]at k0 k1 k2 k3
 have a7:(1:Int)<(r0:Int):=by omega
 go_wp2_with fail
 refine da (v:=.agg #[.int .i64 (f:Int),.slice (some ⟨w.heap.size+1+1+1,0,none⟩) r0 r0,.int .i64 0,.int .i64 into]) (by simp[results,results74,go_sem, *]) rfl ⟨w.heap.size+1+1+1,rfl,by omega,?_,?_⟩
 .have hP:∀j,ep (ep (ep (ep (eC (λ_=>(0,0))) 0 (.int .i64 (u1:Int))) 1 (.int .i64 Z)) 2 (.int .i64 (v1:Int))) 3 (.int .i64 v2) j=eC (gh (u1,Z) (v1,v2)) j:=λj=>by
   unfold ep;by_cases c3:j=3
   .subst c3;rfl
   by_cases c2:j=2
   .subst c2;rfl
   by_cases c1:j=1
   .subst c1;rfl
   by_cases c0:j=0
   .subst c0;rfl
   rw[aa c3,aa c2,aa c1,aa c0,mf];unfold eC gh;rw[aa (show ¬j / 2=0 by omega),aa (show ¬j / 2=1 by omega)];split<;>rfl
  exact((((((((a6.out.ep 0 _).ep 1 _).ep 2 _).ep 3 _).off (by omega)).off (by omega)).off (by omega)).off (by omega)).congr (λj _=>hP j)
 have hs:w.heap.size<=w.heap.size+1+1+1:=by omega
 have H:w.heap.size<=w.heap.size+1+1:=by omega
 exact bp (bp (bp (bp (bp (bp (bp (bp a5.out (ab hs) _) (ab hs) _) (ab hs) _) (ab hs) _) (ab H) _) (ab H) _) (ab H) _) (ab H) _
def vO(P:Nat->Bool):Nat->Nat
 | 0=>0
 | n+1=>vO P n+if P (n+1)=true then 1 else 0
theorem DN(P:Nat->Bool):∀n,BJ (λt=>(1<=t/\t<=n)/\P t=true) (vO P n)
 | 0=>⟨[],List.nodup_nil,λt=>⟨λh=>(by cases h),λh=>(by omega)⟩,rfl⟩
 | n+1=>by
  obtain⟨l,y,u,G⟩:=DN P n;have i:n+1∉l:=λh=>by have:=((u _).1 h).1;omega
  by_cases e:P (n+1)=true
  .refine⟨(n+1) :: l,List.nodup_cons.2 ⟨i,y⟩,λt=>?_,by rw[vO,aj e,G];rfl⟩;rw[List.mem_cons,u];constructor
   .rintro(rfl|h)
    .exact⟨⟨by omega,bj _⟩,e⟩
    exact⟨⟨h.1.1,by omega⟩,h.2⟩
   intro h;by_cases o:t=n+1
   .exact ag o
   exact ab ⟨⟨h.1.1,by omega⟩,h.2⟩
  refine⟨l,y,λt=>?_,by rw[vO,aa e,G];rfl⟩;rw[u];constructor
  .intro h;exact⟨⟨h.1.1,by omega⟩,h.2⟩
  intro h;have:t≠n+1:=λo=>e (o▸h.2);exact⟨⟨h.1.1,by omega⟩,h.2⟩
theorem F0(h:dQ p m g w)(hn:m.nt≠0):Calls prog 77 #[P0 g.mb] w λe w'=>∃N:Nat,e=.returned (.int .i64 N)/\N<=m.nt/\D7 m N/\w.grownBy w' none:=by
 obtain⟨tb,hb,hl,hm,Z⟩:=h.T hn;have c6:w.cell? ⟨g.mb,6,none⟩=some (.slice (some ⟨tb,0,none⟩) m.nt (g.ro 1 0).2):=by rw[<-hb];exact(h.mc 6 (by omega) rfl).1
 have a5:m.nt<=9223372036854775807:=by unfold maxLen at hm;omega
 have HF:=az Z;have lt:=Z.lt;generalize g.mb=rb at *;go_in;go_wp2_with fail
 go_loopw [3,4] (λn i wr=>∃(N I:Nat),n=.int .i64 N/\i=.int .i64 I/\I<=m.nt/\N<=I/\Hid (N=vO (λt=>decide ((m.T t).how≠5)) I)/\Hid (w.grownBy wr none)) (λ_ i _=>m.nt-(intOf i).toNat)
 case atStart=>exact⟨0,0,rfl,rfl,by omega,by omega,rfl,ax _ _⟩
 case round=>
  obtain⟨N,I,rfl,rfl,hI,hN,J,H⟩:=hrel;have y:=λ(k:Nat) (y:k<w.heap.size)=>H.block k y (by intro e;cases e);have d6:=(aw (a:=⟨rb,6,none⟩) (y rb (av w _ c6))).trans c6;have o:=HF.block (y tb lt);by_cases a4:I<m.nt
  .have hc:∀k,k<8->wr.cell? ⟨tb,I*8+k,none⟩=some (tC (m.T (I+1)) (iR m g 5 (I+1)) k):=λk y=>(o.cell (I*8+k) (by omega)).trans (congrArg some (pc m g (t:=I+1) (by omega) y (by omega)));have a1:(I:Int)<m.nt:=by omega
   have c1:wr.cell? ⟨tb,I*8+1,none⟩=some (.int .i64 ((m.T (I+1)).how:Int)):=hc 1 (by omega);have u:vO (λt=>decide ((m.T t).how≠5)) (I+1)=vO (λt=>decide ((m.T t).how≠5)) I+if decide ((m.T (I+1)).how≠5)=true then 1 else 0:=rfl
   generalize (m.T (I+1)).how=hw at *;clear o hc;by_cases h5:hw=5
   .have Y:Hid (N=vO (λt=>decide ((m.T t).how≠5)) (I+1)):=by show _=_;rw[u,aa (by simpa using h5)];exact J
    go_wp2_with fail
    go_roundw
    case rel=>exact⟨N,I+1,rfl,by go_num,by omega,by omega,Y,H⟩
    case measure=>simp[intOf];omega
   have W:¬((hw:Int)=5):=by omega
   have Y:Hid (N+1=vO (λt=>decide ((m.T t).how≠5)) (I+1)):=by show _=_;rw[u,aj (by simpa using h5)];have:=J.out;omega
   go_wp2_with fail
   go_roundw
   case rel=>exact⟨N+1,I+1,by go_num,by go_num,by omega,by omega,Y,H⟩
   case measure=>simp[intOf];omega
  obtain rfl:I=m.nt:=by omega
  have G:D7 m N:=by
   rw[J.out];obtain⟨l,l1,l2,l3⟩:=DN (λt=>decide ((m.T t).how≠5)) m.nt;exact⟨l,l1,λt=>by rw[l2];simp[mF],l3⟩
  have a0:=az G;go_wp2_with fail
  go_ret;exact⟨N,rfl,by omega,a0,H⟩
def oy(m:Dm)(how what I b:Nat):Prop:=
 (b=0/\∀u,1<=u->u<=I->¬((m.T u).how=how/\(m.T u).what=what))\/((1<=b/\b<=I)/\(m.T b).how=how/\(m.T b).what=what/\∀u,1<=u->u<=I->(m.T u).how=how->(m.T u).what=what->(m.T b).ji<=(m.T u).ji)
theorem oy.no{how what I b:Nat}(h:oy m how what I b)(hn:¬((m.T (I+1)).how=how/\(m.T (I+1)).what=what)):oy m how what (I+1) b:=by
 rcases h with⟨y,o⟩|⟨y,o,Y,W⟩
 .exact ag ⟨y,λu i J=>by
   by_cases e:u=I+1
   .rw[e];exact hn
   exact o u i (by omega)⟩
 exact ab ⟨⟨y.1,by omega⟩,o,Y,λu i J H G=>by
  by_cases e:u=I+1
  .subst e;exact ch ⟨H,G⟩ hn
  exact W u i (by omega) H G⟩
theorem oy.kU{how what I b:Nat}(h:oy m how what I b)(H:b≠0)(hn:(m.T b).ji<=(m.T (I+1)).ji):oy m how what (I+1) b:=by
 rcases h with⟨i,o⟩|⟨i,o,W,J⟩
 .exact ch i H
 exact ab ⟨⟨i.1,by omega⟩,o,W,λu G Z Y y=>by
  by_cases e:u=I+1
  .rw[e];exact hn
  exact J u G (by omega) Y y⟩
theorem oy.take{how what I b:Nat}(h:oy m how what I b)(Y:(m.T (I+1)).how=how)(H:(m.T (I+1)).what=what)(hb:b=0\/(m.T (I+1)).ji<(m.T b).ji):oy m how what (I+1) (I+1):=by
 refine ab ⟨⟨by omega,bj _⟩,Y,H,λu y Z i o=>?_⟩;by_cases e:u=I+1
 .rw[e];exact bj _
 rcases h with⟨W,G⟩|⟨W,G,h2,J⟩
 .exact ch ⟨i,o⟩ (G u y (by omega))
 have:=J u y (by omega) i o;omega
theorem ke(w:World)(Z u J o G i H Y:Value): ∃W,w.alloc (.cells #[Z,u,J,o,G,i,H,Y] 167)=W/\W.cell? ⟨w.heap.size,1,none⟩=some u/\W.cell? ⟨w.heap.size,3,none⟩=some o/\W.cell? ⟨w.heap.size,4,none⟩=some G/\W.cell? ⟨w.heap.size,5,none⟩=some i/\w.heap.size<W.heap.size/\w.grownBy W none/\(∀a v,w.cell? a=some v->W.cell? a=some v):=by
 have y:=bf w (.cells #[Z,u,J,o,G,i,H,Y] 167);have hg:=ah w (.cells #[Z,u,J,o,G,i,H,Y] 167) none;generalize w.alloc (.cells #[Z,u,J,o,G,i,H,Y] 167)=W at *;refine⟨_,rfl,by simp[World.cell?,y],by simp[World.cell?,y],by simp[World.cell?,y],by simp[World.cell?,y],bz y,hg,λa v h=>?_⟩;exact(aw (hg.block a.block (av w _ h) (by intro e;cases e))).trans h
theorem BY{tb cap:Nat}{wr:World}(i:Full wr tb 167 (cap*8) (m.nt*8) (tE m g)){N k:Nat}(u:N≠0)(o:N<=m.nt)(e:k<8):wr.cell? ⟨tb,(N-1)*8+k,none⟩=some (tC (m.T N) (iR m g 5 N) k):=(i.cell ((N-1)*8+k) (by omega)).trans (congrArg some (pc m g (t:=N) (by omega) e rfl))
theorem Hv(h:dQ p m g w)(hn:m.nt≠0)(how what:Nat):Calls prog 192 #[P0 g.mb,.int .i64 how,.int .i64 what] w λe w'=>∃b:Nat,e=.returned (.int .i64 b)/\b<=m.nt/\Iv m how what b/\w.grownBy w' none:=by
 obtain⟨tb,hb,hl,hm,hF⟩:=h.T hn;have c6:w.cell? ⟨g.mb,6,none⟩=some (.slice (some ⟨tb,0,none⟩) m.nt (g.ro 1 0).2):=by rw[<-hb];exact(h.mc 6 (by omega) rfl).1
 have aE:m.nt<=9223372036854775807:=by unfold maxLen at hm;omega
 have HF:=az hF;have lt:=hF.lt;clear hF hm hb hl h;generalize g.mb=rb at *;go_in;go_wp2_with fail
 go_loopw [7,8] (λn i wr=>∃(N I:Nat),n=.int .i64 N/\i=.int .i64 I/\I<=m.nt/\N<=I/\Hid (oy m how what I N)/\Hid (w.grownBy wr none)) (λ_ i _=>m.nt-(intOf i).toNat)
 case atStart=>exact⟨0,0,rfl,rfl,by omega,by omega,ag ⟨rfl,λu u1 u2=>by omega⟩,ax _ _⟩
 case round=>
  obtain⟨N,I,rfl,rfl,hI,hN,Z,Y⟩:=hrel;have hk:=λ(k:Nat) (hk:k<w.heap.size)=>Y.block k hk (by intro e;cases e);have d6:=(aw (a:=⟨rb,6,none⟩) (hk rb (av w _ c6))).trans c6;have a0:=HF.block (hk tb lt);have aC:=a0.lt;have aG:rb<wr.heap.size:=av wr _ d6;clear hk;by_cases aD:I<m.nt
  .have hc:∀k,k<8->wr.cell? ⟨tb,I*8+k,none⟩=some (tC (m.T (I+1)) (iR m g 5 (I+1)) k):=λk hk=>(a0.cell (I*8+k) (by omega)).trans (congrArg some (pc m g (t:=I+1) (by omega) hk (by omega)));have aB:(I:Int)<m.nt:=by omega
   have a6:N≠0->wr.cell? ⟨tb,(N-1)*8+5,none⟩=some (.int .i64 ((m.T N).ji:Int)):=λh=>BY a0 h (by omega) (by omega);have c0:wr.cell? ⟨tb,I*8,none⟩=some (.slice (g.ro 5 (I+1)).1 (m.T (I+1)).fr.length (g.ro 5 (I+1)).2):=hc 0 (by omega);have c1:wr.cell? ⟨tb,I*8+1,none⟩=some (.int .i64 ((m.T (I+1)).how:Int)):=hc 1 (by omega);have c2:wr.cell? ⟨tb,I*8+2,none⟩=some (.int .i64 (m.T (I+1)).into):=hc 2 (by omega);have c3:wr.cell? ⟨tb,I*8+3,none⟩=some (.int .i64 ((m.T (I+1)).what:Int)):=hc 3 (by omega);have c4:wr.cell? ⟨tb,I*8+4,none⟩=some (.int .i64 (m.T (I+1)).km):=hc 4 (by omega);have c5:wr.cell? ⟨tb,I*8+5,none⟩=some (.int .i64 ((m.T (I+1)).ji:Int)):=hc 5 (by omega);have aF:wr.cell? ⟨tb,I*8+6,none⟩=some (.int .i64 ((m.T (I+1)).out.1:Int)):=hc 6 (by omega);have c7:wr.cell? ⟨tb,I*8+7,none⟩=some (.int .i64 (m.T (I+1)).out.2):=hc 7 (by omega);generalize (g.ro 5 (I+1)).1=a1 at *;generalize (g.ro 5 (I+1)).2=a2 at *;generalize hx:m.T (I+1)=x at *;clear hc a0;by_cases h1:x.how=how
   .by_cases h2:x.what=what
    .by_cases h3:N=0
     .have K:Hid (oy m how what (I+1) (I+1)):=Z.take (by rw[hx];exact h1) (by rw[hx];exact h2) (ag h3);clear Z;go_wp2_with fail
      obtain⟨W,J,f1,f3,f4,f5,lW,G,o⟩:=ke wr _ _ _ _ _ _ _ _;rw[J];have y:Hid (w.grownBy W none):=an Y G
      clear J o G Y;go_quiet (fail)
      go_wp2_with fail
      go_roundw
      case rel=>exact⟨I+1,I+1,by go_num,by go_num,by omega,by omega,K,⟨y.os,y.tape,y.output,y.size,y.block⟩⟩
      case measure=>simp[intOf];omega
     have j3:¬((N:Int)=0):=by omega
     by_cases h4:x.ji<(m.T N).ji
     .have j4:(x.ji:Int)<((m.T N).ji:Int):=by omega
      have K:=az (Z.take (by rw[hx];exact h1) (by rw[hx];exact h2) (ab (by rw[hx];exact h4)));clear Z;go_wp2_with fail
      obtain⟨W,J,f1,f3,f4,f5,lW,G,o⟩:=ke wr _ _ _ _ _ _ _ _;rw[J];have e6:=o _ _ d6;have y:=az (an Y G)
      have a5:=o _ _ (a6 h3)
      have aA:((N:Int) == 0)=false:=by simpa using j3
      have a4:IntKind.i64.wrap ((N:Int)-1)=((N-1:Nat):Int):=by simp[IntKind.wrap,IntKind.bits,IntKind.signed];omega
      have a3:N-1<m.nt:=by omega
      generalize N-1=M at a5 a4 a3;have a8:(M:Int)<m.nt:=by omega
      clear J o G Y;go_quiet (fail)
      go_wp2_with fail
      go_roundw
      case rel=>exact⟨I+1,I+1,by go_num,by go_num,by omega,by omega,K,⟨y.os,y.tape,y.output,y.size,y.block⟩⟩
      case measure=>simp[intOf];omega
     have j4:¬((x.ji:Int)<((m.T N).ji:Int)):=by omega
     have K:=az (Z.kU h3 (by rw[hx];omega));clear Z;go_wp2_with fail
     obtain⟨W,J,f1,f3,f4,f5,lW,G,o⟩:=ke wr _ _ _ _ _ _ _ _;rw[J];have e6:=o _ _ d6;have y:=az (an Y G)
     have a5:=o _ _ (a6 h3)
     have aA:((N:Int) == 0)=false:=by simpa using j3
     have a4:IntKind.i64.wrap ((N:Int)-1)=((N-1:Nat):Int):=by simp[IntKind.wrap,IntKind.bits,IntKind.signed];omega
     have a3:N-1<m.nt:=by omega
     generalize N-1=M at a5 a4 a3;have a8:(M:Int)<m.nt:=by omega
     clear J o G Y;go_quiet (fail)
     go_wp2_with fail
     go_roundw
     case rel=>exact⟨N,I+1,by go_num,by go_num,by omega,by omega,K,⟨y.os,y.tape,y.output,y.size,y.block⟩⟩
     case measure=>simp[intOf];omega
    have j2:¬((x.what:Int)=what):=by omega
    have b2:((x.what:Int) == (what:Int))=false:=by simpa using j2
    have K:=az (Z.no (by rw[hx];exact λe=>h2 e.2));clear Z;go_wp2_with fail
    obtain⟨W,J,f1,f3,f4,f5,lW,G,o⟩:=ke wr _ _ _ _ _ _ _ _;rw[J];have y:Hid (w.grownBy W none):=an Y G
    clear J o G Y;go_quiet (fail)
    go_wp2_with fail
    go_roundw
    case rel=>exact⟨N,I+1,by go_num,by go_num,by omega,by omega,K,⟨y.os,y.tape,y.output,y.size,y.block⟩⟩
    case measure=>simp[intOf];omega
   have j1:¬((x.how:Int)=how):=by omega
   have b1:((x.how:Int) == (how:Int))=false:=by simpa using j1
   have K:=az (Z.no (by rw[hx];exact λe=>h1 e.1));clear Z;go_wp2_with fail
   obtain⟨W,J,f1,f3,f4,f5,lW,G,o⟩:=ke wr _ _ _ _ _ _ _ _;rw[J];have y:Hid (w.grownBy W none):=an Y G
   clear J o G Y;go_quiet (fail)
   go_wp2_with fail
   go_roundw
   case rel=>exact⟨N,I+1,by go_num,by go_num,by omega,by omega,K,⟨y.os,y.tape,y.output,y.size,y.block⟩⟩
   case measure=>simp[intOf];omega
  obtain rfl:I=m.nt:=by omega
  have a9:Hid (Iv m how what N):=by
   rcases Z with⟨h0,h1⟩|⟨h0,h1,h2,h3⟩
   .exact ag ⟨h0,λu hu=>h1 u hu.1 hu.2⟩
   exact ab ⟨h0,h1,h2,λu hu=>h3 u hu.1 hu.2⟩
  clear a0 Z;go_wp2_with fail
  go_ret;exact⟨N,rfl,by omega,a9,Y⟩
