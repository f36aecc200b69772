import Derived.Test.YtnjiinbhbjpfkaaGreatDoorTT
set_option maxRecDepth 100000
set_option maxHeartbeats 0
set_option linter.all false
namespace Go.Proofs.YtnjiinbhbjpfkaaGreatDoor
open Go.RowKit Go.Proofs.Tryz
namespace D
open F
variable {p:Dp}{m m':Dm}{g g':Dg}{w w':aa}
def Dg.oK(g:Dg)(t i b:Nat):Dg:={ g with rb:=λa c=>if a=t/\c=i then b else g.rb a c }
def wT(g:Dg)(t i b:Nat):(g.oK t i b).rb t i=b:=bf ⟨rfl,rfl⟩
def qO(g:Dg){t i a c:Nat}(b:Nat)(h:¬(a=t/\c=i)):(g.oK t i b).rb a c=g.rb a c:=au h
theorem dZ.push(h:dZ p m g w){t:Nat}(ht:mY m t){tb kb ck vb:Nat}{f:jc}(hb:g.ro 1 0=(some (ay tb 0),(g.ro 1 0).2))(hO:dM (λk=>k=tb\/fi (g.ro 5 t).1=some k) w w')(hT:Full w' tb 167 ((g.ro 1 0).2*8) (m.nt*8) (eC (tE m g) ((t-1)*8) (dA kb ((m.T t).fr.length+1) ck)))(hK:w'.ownsRow 0 163 4 (dA kb ((m.T t).fr.length+1) ck) ((m.T t).fr.length+1) (rowP ((m.T t).fr.length*4) (fE p m g t)++[fC p f vb 0,fC p f vb 1,fC p f vb 2,fC p f vb 3]))(hV:Full w' vb 115 (p.rg f.f*2) (p.rg f.f*2) (eQ f.R))(J:fi (g.ro 5 t).1=some kb\/w.heap.size<=kb)(hv:w.heap.size<=vb)(aA:kb≠vb):Tr p m g w (m.push t f) ((g.at 5 t (some (ay kb 0),ck)).oK t (m.T t).fr.length vb) w':=by
 have:=ht.1;have:=ht.2;obtain⟨b,G,h1,h2,h3⟩:=h.T ag;have a7:b=tb:=by rw[hb]at G;injection G with G;injection G with G _;exact G.symm
 subst a7;have a5:(m.push t f).T t=(m.T t).mz ((m.T t).fr++[f]):=gi _ _ _;have W:∀u,u≠t->(m.push t f).T u=m.T u:=λu e=>fW _ _ e;have Z:((m.push t f).T t).fr.length=(m.T t).fr.length+1:=by rw[a5];show((m.T t).fr++[f]).length=_;rw[cw];rfl
 have Y:∀y z,fU (m.push t f) y z=if y=t/\z=(m.T t).fr.length then f else fU m y z:=λy z=>by
  unfold fU;by_cases e:y=t
  .subst e;rw[a5];show((m.T y).fr++[f]).getD z n6=_;grind
  grind
 have a9:∀x y z,¬(x=6/\y=t/\z=(m.T t).fr.length)->vd p (m.push t f) x y z=vd p m x y z:=λx y z hC=>by
  unfold vd;by_cases e:x=6
  .subst e;show decide (1<=y/\y<=m.nt/\z<((m.push t f).T y).fr.length)=decide (1<=y/\y<=m.nt/\z<(m.T y).fr.length);grind
  rw[au e,au e];rfl
 have v6:vd p (m.push t f) 6 t (m.T t).fr.length=true:=zI ht.1 ht.2 ag;have v5:vd p (m.push t f) 5 t 0=true:=rP ht.1 ht.2;refine h.to (λx y z=>(x=1/\y=0/\z=0)\/(x=5/\y=t/\z=0)\/(x=6/\y=t/\z=(m.T t).fr.length)) (λk=>if k=vb then(6,t,(m.T t).fr.length) else(5,t,0)) (hO.mono ?_) (λx y z hC=>kT (a9 x y z (λe=>hC (ah (ah e)))) (λa1=>?_)) ?_ ?_
 .rintro k (rfl|J) _
  .exact⟨1,0,0,af ⟨rfl,rfl,rfl⟩,((CZ p m hb) _).2 rfl⟩
  exact⟨5,t,0,ah (af ⟨rfl,rfl,rfl⟩),by rw[ie (rP ht.1 ht.2)];exact J⟩
 .refine ok_eq (e0:=λ_=>⟨rfl,Et p m g t ((m.T t).mz ((m.T t).fr++[f])) (some (ay kb 0),ck)⟩) (er:=λa8=>?_) (eq:=λe=>⟨rp g _ ag,?_,?_⟩) (e6:=λe=>?_) (hx:=l9 a1)
  .have a4:x≠1:=λe=>hC (af ⟨e,kS a1 ag⟩);have h5:¬(x=5/\y=t):=λe=>hC (ah (af ⟨e.1,e.2,by grind[vG]⟩));refine⟨rp g _ h5,?_,?_⟩
   .unfold sg;by_cases e5:x=5
    .subst e5;show((m.push t f).T y).fr.length=(m.T y).fr.length;rw[W y (λe=>h5 ⟨rfl,e⟩)]
    rw[au e5,au e5];rfl
   unfold rC;rw[au a4,au a4];by_cases e3:x=3
   .rw[bf e3,bf e3];rfl
   rw[au e3,au e3];by_cases e4:x=4
   .rw[bf e4,bf e4];rfl
   rw[au e4,au e4];have e5:x=5:=by unfold FX at a8;omega
   have a0:y≠t:=λe=>h5 ⟨e5,e⟩;rw[W y a0];refine jA (λi _=>?_);unfold fE;rw[Y,au (λe=>a0 e.1),qO _ _ (λe=>a0 e.1)];rfl
  .unfold sg;rcases e with rfl|rfl<;>rfl
  .rcases e with rfl|rfl<;>rfl
  subst e;have hn:¬(y=t/\z=(m.T t).fr.length):=λe=>hC (ah (ah ⟨rfl,e⟩));rw[Y,au hn,qO _ _ hn];exact⟨rfl,rfl,rfl⟩
 .rintro x y z (⟨rfl,rfl,rfl⟩|⟨rfl,rfl,rfl⟩|⟨rfl,rfl,rfl⟩)
  .show World.ownsRow _ 0 167 8 (.slice ((g.at 5 t (some (ay kb 0),ck)).ro 1 0).1 m.nt ((g.at 5 t (some (ay kb 0),ck)).ro 1 0).2) m.nt (rowP (m.nt*8) (tE (m.push t f) (g.at 5 t (some (ay kb 0),ck))));rw[rp g _ ag,G];refine nZ h1 h2 (hT.congr (λi hi=>?_));have:=DH m g ht.1 ((m.T t).fr++[f]) (some (ay kb 0),ck) i;rw[show((m.T t).fr++[f]).length=(m.T t).fr.length+1 by rw[cw];rfl]at this;exact this.symm
  .rw[ie v5];show World.ownsRow _ 0 163 4 (.slice ((g.at 5 y (some (ay kb 0),ck)).ro 5 y).1 ((m.push y f).T y).fr.length ((g.at 5 y (some (ay kb 0),ck)).ro 5 y).2) ((m.push y f).T y).fr.length (rowP (((m.push y f).T y).fr.length*4) (fE p (m.push y f) ((g.at 5 y (some (ay kb 0),ck)).oK y (m.T y).fr.length vb) y));rw[wv,Z];have a3:∀i k,k<4->fE p (m.push y f) ((g.at 5 y (some (ay kb 0),ck)).oK y (m.T y).fr.length vb) y (i*4+k)=if i=(m.T y).fr.length then fC p f vb k else fE p m g y (i*4+k):=λi k J=>by
    rw[uR _ _ _ _ J,uR _ _ _ _ J,Y];by_cases e:i=(m.T y).fr.length
    .rw[bf e,bf ⟨rfl,e⟩,e,wT]
    rw[au e,au (λe'=>e e'.2),qO _ _ (λe'=>e e'.2)];rfl
   rw[show((m.T y).fr.length+1)*4=(m.T y).fr.length*4+4 by omega,<-uh (n:=(m.T y).fr.length*4) (k:=4) (P:=fE p m g y) (ys:=[fC p f vb 0,fC p f vb 1,fC p f vb 2,fC p f vb 3]) (λj hj=>?_) rfl (λj hj=>?_)]
   .exact hK
   .have:=a3 (j / 4) (j % 4) ag;rw[show j / 4*4+j % 4=j by omega,eD]at this;exact this
   rw[a3 _ _ hj,bf rfl];have hc:=oU 3 j ag
   rcases hc with rfl|rfl|rfl|rfl<;>rfl
  rw[ie v6];show Full w' (((g.at 5 y (some (ay kb 0),ck)).oK y (m.T y).fr.length vb).rb y (m.T y).fr.length) 115 (p.rg (fU (m.push y f) y (m.T y).fr.length).f*2) (p.rg (fU (m.push y f) y (m.T y).fr.length).f*2) (eQ (fU (m.push y f) y (m.T y).fr.length).R);rw[Y,bf ⟨rfl,rfl⟩,wT];exact hV
 rintro x y z k (⟨rfl,rfl,rfl⟩|⟨rfl,rfl,rfl⟩|⟨rfl,rfl,rfl⟩) H
 .left
  have o:fi ((g.at 5 t (some (ay kb 0),ck)).ro 1 0).1=some k:=H;rw[rp g _ ag]at o;exact o
 .rw[ie v5]at H;have o:fi ((g.at 5 y (some (ay kb 0),ck)).ro 5 y).1=some k:=H;rw[wv]at o;have a2:some kb=some k:=o;injection a2 with a2;subst a2;rcases J with J|J
  .left
   rw[ie (rP ht.1 ht.2)];exact J
  exact ah ⟨J,au aA⟩
 rw[ie v6]at H;have o:k=((g.at 5 y (some (ay kb 0),ck)).oK y (m.T y).fr.length vb).rb y (m.T y).fr.length:=H;rw[wT]at o;subst o;exact ah ⟨hv,bf rfl⟩
def Dm.kP(m:Dm)(x:Dt):Dm:={ m with nt:=m.nt+1,T:=λt=>if t=m.nt+1 then x else m.T t }
theorem dZ.kP(h:dZ p m g w){tb tc kb vb:Nat}{x:Dt}{f:jc}(hx:x.fr=[f])(hO:dM (λk=>k=g.mb\/fi (g.ro 1 0).1=some k) w w')(hM:Full w' g.mb 112 24 24 (eC (mE p m g) 6 (dA tb (m.nt+1) tc)))(hT:w'.ownsRow 0 167 8 (dA tb (m.nt+1) tc) (m.nt+1) (rowP (m.nt*8) (tE m g)++[dA kb 1 1,jk x.how,jk x.into,jk x.what,jk x.lH,jk x.jw,jk x.out.1,jk x.out.2]))(hK:Full w' kb 163 4 4 (fC p f vb))(hV:Full w' vb 115 (p.rg f.f*2) (p.rg f.f*2) (eQ f.R))(ht:fi (g.ro 1 0).1=some tb\/w.heap.size<=tb)(hk:w.heap.size<=kb)(hv:w.heap.size<=vb)(aE:kb≠vb)(aB:tb≠kb)(aC:tb≠vb):Tr p m g w (m.kP x) (((g.at 1 0 (some (ay tb 0),tc)).at 5 (m.nt+1) (some (ay kb 0),1)).oK (m.nt+1) 0 vb) w':=by
 have J:(m.kP x).T (m.nt+1)=x:=bf rfl;have a0:∀u,u≠m.nt+1->(m.kP x).T u=m.T u:=λu e=>au e;have a9:∀y z,y≠m.nt+1->fU (m.kP x) y z=fU m y z:=λy z e=>by grind[fU]
 have a2:fU (m.kP x) (m.nt+1) 0=f:=by unfold fU;rw[J,hx];rfl
 generalize H:((g.at 1 0 (some (ay tb 0),tc)).at 5 (m.nt+1) (some (ay kb 0),1)).oK (m.nt+1) 0 vb=g';have r1:g'.ro 1 0=(some (ay tb 0),tc):=by rw[<-H];exact(rp (g.at 1 0 (some (ay tb 0),tc)) (x:=5) (y:=m.nt+1) (some (ay kb 0),1) ag).trans (wv _ _ _ _)
 have r5:g'.ro 5 (m.nt+1)=(some (ay kb 0),1):=by rw[<-H];exact wv _ _ _ _
 have ro:∀a b,¬(a=1/\b=0)->¬(a=5/\b=m.nt+1)->g'.ro a b=g.ro a b:=λa b e1 e2=>by rw[<-H];exact(rp _ _ e2).trans (rp _ _ e1)
 have a5:g'.rb (m.nt+1) 0=vb:=by rw[<-H];exact wT _ _ _ _
 have a6:∀a c,a≠m.nt+1->g'.rb a c=g.rb a c:=λa c e=>by rw[<-H];exact qO _ _ (λe'=>e e'.1)
 have a3:g'.mb=g.mb:=by rw[<-H];rfl
 have a7:g'.sb=g.sb:=by rw[<-H];rfl
 have a4:∀a b,a≠1->¬(a=5/\b=m.nt+1)->sg (m.kP x) a b=sg m a b:=λa b e1 e2=>by
  unfold sg;rw[au e1,au e1];by_cases Y:a=5
  .grind
  rw[au Y,au Y];rfl
 have a1:∀a b,a≠1->¬(a=5/\b=m.nt+1)->je (m.kP x) g' a b=je m g a b:=λa b e1 e2=>by
  grind[je]
 have a8:je (m.kP x) g' 1 0=dA tb (m.nt+1) tc:=by
  unfold je;rw[r1];rfl
 have aD:∀a b c,¬(a=5/\b=m.nt+1/\c=0)->¬(a=6/\b=m.nt+1/\c=0)->vd p (m.kP x) a b c=vd p m a b c:=λa b c e1 e2=>by
  unfold vd;by_cases Y:a=5
  .subst Y;show decide (1<=b/\b<=m.nt+1/\c=0)=decide (1<=b/\b<=m.nt/\c=0);grind
  rw[au Y,au Y];by_cases h6:a=6
  .subst h6;show decide (1<=b/\b<=m.nt+1/\c<((m.kP x).T b).fr.length)=decide (1<=b/\b<=m.nt/\c<(m.T b).fr.length);grind
  rw[au h6,au h6];rfl
 have v5:vd p (m.kP x) 5 (m.nt+1) 0=true:=rP ag (bq _);have v6:vd p (m.kP x) 6 (m.nt+1) 0=true:=zI ag (bq _) eR
 refine h.to (λa b c=>(a=0/\b=0/\c=0)\/(a=1/\b=0/\c=0)\/(a=5/\b=m.nt+1/\c=0)\/(a=6/\b=m.nt+1/\c=0)) (λk=>if k=vb then(6,m.nt+1,0) else if k=kb then(5,m.nt+1,0) else(1,0,0)) (hO.mono ?_) (λa b c hC=>kT (aD a b c (λe=>hC (ah (ah (af e)))) (λe=>hC (ah (ah (ah e))))) (λZ=>?_)) ?_ ?_ a3
 .rintro k (rfl|hk) _
  .exact⟨0,0,0,af ⟨rfl,rfl,rfl⟩,rfl⟩
  exact⟨1,0,0,ah (af ⟨rfl,rfl,rfl⟩),hk⟩
 .have h1:a≠1:=λe=>hC (ah (af ⟨e,kS Z ag⟩));have Y:¬(a=5/\b=m.nt+1):=λe=>by
   obtain⟨rfl,rfl⟩:=e;have:=(vG Z).2.1;omega
  refine ok_eq (e0:=λe=>dp e (λe=>hC (af ⟨e,kS Z ag⟩))) (er:=λhr=>⟨ro a b (λe=>h1 e.1) Y,a4 a b h1 Y,?_⟩) (eq:=λe=>⟨ro a b (λe=>h1 e.1) Y,a4 a b h1 Y,?_⟩) (e6:=λe=>?_) (e7:=λ_=>⟨by rw[a7],rfl⟩) (hx:=l9 Z)
  .unfold rC;rw[au h1,au h1];by_cases e3:a=3
   .rw[bf e3,bf e3];refine jA (λi _=>?_);unfold cE;rw[a7];rfl
   rw[au e3,au e3];by_cases e4:a=4
   .rw[bf e4,bf e4];rfl
   rw[au e4,au e4];have e5:a=5:=by unfold FX at hr;omega
   have hb:b≠m.nt+1:=λe=>Y ⟨e5,e⟩;rw[a0 b hb];refine jA (λi _=>?_);unfold fE;rw[a9 b _ hb,a6 b _ hb]
  .unfold qC;rcases e with rfl|rfl<;>rfl
  subst e;have hb:b≠m.nt+1:=λe=>by
   have:=(xQ Z).2.1;omega
  rw[a9 b _ hb,a6 b _ hb];exact⟨rfl,rfl,rfl⟩
 .rintro a b c (⟨rfl,rfl,rfl⟩|⟨rfl,rfl,rfl⟩|⟨rfl,rfl,rfl⟩|⟨rfl,rfl,rfl⟩)
  .show Full w' g'.mb 112 24 24 (mE p (m.kP x) g');rw[a3];refine hM.congr (λi hi=>?_);show(if i=6 then _ else _)=_;by_cases e6:i=6
   .subst e6;rw[bf rfl];exact a8.symm
   rw[au e6];unfold mE;rw[au e6,au e6,a1 2 0 ek ag,a1 10 _ ek ag,a1 3 0 ek ag,a1 4 0 ek ag];rfl
  .show World.ownsRow _ 0 167 8 (.slice (g'.ro 1 0).1 (m.nt+1) (g'.ro 1 0).2) (m.nt+1) (rowP ((m.nt+1)*8) (tE (m.kP x) g'));rw[r1,show(m.nt+1)*8=m.nt*8+8 by omega,<-uh (n:=m.nt*8) (k:=8) (P:=tE m g) (ys:=[dA kb 1 1,jk x.how,jk x.into,jk x.what,jk x.lH,jk x.jw,jk x.out.1,jk x.out.2]) (λj hj=>?_) rfl (λj hj=>?_)]
   .exact hT
   .unfold tE;rw[a0 _ ag,a1 5 _ ek ag]
   unfold tE;rw[show(m.nt*8+j) / 8+1=m.nt+1 by omega,show(m.nt*8+j) % 8=j by omega,J];have aA:je (m.kP x) g' 5 (m.nt+1)=dA kb 1 1:=by
    unfold je;rw[r5];show Value.slice _ ((m.kP x).T (m.nt+1)).fr.length _=_;rw[J,hx];rfl
   rw[aA];have hc:=oU 7 j ag
   rcases hc with rfl|rfl|rfl|rfl|rfl|rfl|rfl|rfl<;>rfl
  .rw[ie v5];show World.ownsRow _ 0 163 4 (.slice (g'.ro 5 (m.nt+1)).1 ((m.kP x).T (m.nt+1)).fr.length (g'.ro 5 (m.nt+1)).2) ((m.kP x).T (m.nt+1)).fr.length (rowP (((m.kP x).T (m.nt+1)).fr.length*4) (fE p (m.kP x) g' (m.nt+1)));rw[r5,J,hx];refine nZ (n:=1) (c:=1) (sz:=4) (bq _) pY (hK.congr (λj hj=>?_));have:=uR p (m.kP x) g' (m.nt+1) (i:=0) (k:=j) hj;rw[Nat.zero_mul,Nat.zero_add]at this;rw[this,a2,a5]
  rw[ie v6];show Full w' (g'.rb (m.nt+1) 0) 115 (p.rg (fU (m.kP x) (m.nt+1) 0).f*2) (p.rg (fU (m.kP x) (m.nt+1) 0).f*2) (eQ (fU (m.kP x) (m.nt+1) 0).R);rw[a2,a5];exact hV
 rintro a b c k (⟨rfl,rfl,rfl⟩|⟨rfl,rfl,rfl⟩|⟨rfl,rfl,rfl⟩|⟨rfl,rfl,rfl⟩) W
 .have:k=g'.mb:=W;exact af (this.trans a3)
 .have o:fi (g'.ro 1 0).1=some k:=W;rw[r1]at o;have G:some tb=some k:=o;injection G with G;subst G;exact ht.imp id (λe=>⟨e,by rw[au aC,au aB]⟩)
 .rw[ie v5]at W;have o:fi (g'.ro 5 (m.nt+1)).1=some k:=W;rw[r5]at o;have G:some kb=some k:=o;injection G with G;subst G;exact ah ⟨hk,by rw[au aE,bf rfl]⟩
 rw[ie v6]at W;have o:k=g'.rb (m.nt+1) 0:=W;rw[a5]at o;subst o;exact ah ⟨hv,bf rfl⟩
def Dm.nE(m:Dm)(ty:Nat)(l:List B.V):Dm:={ m with nc:=m.nc+1,M:=λc=>if c=m.nc+1 then l else m.M c,ck:=λc=>if c=m.nc+1 then ty else m.ck c }
def Dg.slt(g:Dg)(c b:Nat):Dg:={ g with sb:=λa=>if a=c then b else g.sb a }
theorem Tr.nE{m0:Dm}{g0:Dg}{w0:aa}(h0:Tr p m0 g0 w0 m g w){cb cc J ty:Nat}{l:List B.V}(hO:dM (λk=>k=g.mb\/fi (g.ro 3 0).1=some k) w w')(hM:Full w' g.mb 112 24 24 (eC (mE p m g) 12 (dA cb (m.nc+1) cc)))(hC:w'.ownsRow 0 233 2 (dA cb (m.nc+1) cc) (m.nc+1) (rowP (m.nc*2) (cE m g)++[dA J l.length l.length,jk ((ty:Int)-1)]))(hS:Full w' J 115 (l.length*2) (l.length*2) (eQ (mW l)))(hc:fi (g.ro 3 0).1=some cb\/(¬eH p m g cb/\w0.heap.size<=cb))(hs:¬eH p m g J/\w0.heap.size<=J)(a7:cb≠J):Tr p m0 g0 w0 (m.nE ty l) ((g.at 3 0 (some (ay cb 0),cc)).slt (m.nc+1) J) w':=by
 have a3:(m.nE ty l).M (m.nc+1)=l:=bf rfl;have a4:∀u,u≠m.nc+1->(m.nE ty l).M u=m.M u:=λu e=>au e;have a6:(m.nE ty l).ck (m.nc+1)=ty:=bf rfl;have a8:∀u,u≠m.nc+1->(m.nE ty l).ck u=m.ck u:=λu e=>au e;generalize y:(g.at 3 0 (some (ay cb 0),cc)).slt (m.nc+1) J=g';have r3:g'.ro 3 0=(some (ay cb 0),cc):=by rw[<-y];exact wv g 3 0 (some (ay cb 0),cc)
 have ro:∀a b,¬(a=3/\b=0)->g'.ro a b=g.ro a b:=λa b o=>by rw[<-y];exact rp g (some (ay cb 0),cc) o
 have s1:g'.sb (m.nc+1)=J:=by rw[<-y];exact bf rfl
 have so:∀a,a≠m.nc+1->g'.sb a=g.sb a:=λa e=>by rw[<-y];exact au e
 have Z:g'.mb=g.mb:=by rw[<-y];rfl
 have a2:g'.rb=g.rb:=by rw[<-y];rfl
 have a1:∀a b,a≠3->sg (m.nE ty l) a b=sg m a b:=λa b o=>by
  unfold sg;rw[au o,au o];rfl
 have G:∀a b,a≠3->je (m.nE ty l) g' a b=je m g a b:=λa b o=>by
  grind[je]
 have a9:∀a b c,¬(a=7/\b=m.nc+1/\c=0)->vd p (m.nE ty l) a b c=vd p m a b c:=λa b c o=>by
  unfold vd;by_cases h7:a=7
  .subst h7;show decide (1<=b/\b<=m.nc+1/\c=0)=decide (1<=b/\b<=m.nc/\c=0);grind
  rw[au h7,au h7];rfl
 have v7:vd p (m.nE ty l) 7 (m.nc+1) 0=true:=I2 ag (bq _);refine Tr.to (λa b c=>(a=0/\b=0/\c=0)\/(a=3/\b=0/\c=0)\/(a=7/\b=m.nc+1/\c=0)) (λk=>if k=J then(7,m.nc+1,0) else(3,0,0)) h0 (hO.mono ?_) (λa b c hC=>kT (a9 a b c (λe=>hC (ah (ah e)))) (λY=>?_)) ?_ ?_ Z
 .rintro k (rfl|hk) _
  .exact⟨0,0,0,af ⟨rfl,rfl,rfl⟩,rfl⟩
  exact⟨3,0,0,ah (af ⟨rfl,rfl,rfl⟩),hk⟩
 .have h0:a≠0:=λe=>hC (af ⟨e,kS Y ag⟩);have h3:a≠3:=λe=>hC (ah (af ⟨e,kS Y ag⟩));refine ok_eq (e0:=λe=>dp e h0) (er:=λhr=>⟨ro a b (λe=>h3 e.1),a1 a b h3,?_⟩) (eq:=λe=>⟨ro a b (λe=>h3 e.1),a1 a b h3,?_⟩) (e6:=λ_=>⟨by rw[a2],rfl,rfl⟩) (e7:=λe=>?_) (hx:=l9 Y)
  .unfold rC;rw[au h3,au h3];by_cases o:a=1
   .rw[bf o,bf o];refine jA (λi _=>?_);unfold tE;rw[G 5 _ ek];rfl
   rw[au o,au o];by_cases e4:a=4
   .rw[bf e4,bf e4];rfl
   rw[au e4,au e4];refine jA (λi _=>?_);unfold fE;rw[a2];rfl
  .unfold qC;rcases e with rfl|rfl<;>rfl
  subst e;have hb:b≠m.nc+1:=λe=>by
   have:=(AG Y).2.1;omega
  grind
 .rintro a b c (⟨rfl,rfl,rfl⟩|⟨rfl,rfl,rfl⟩|⟨rfl,rfl,rfl⟩)
  .show Full w' g'.mb 112 24 24 (mE p (m.nE ty l) g');rw[Z];refine hM.congr (λi hi=>?_);show(if i=12 then _ else _)=_;by_cases e6:i=12
   .subst e6;rw[bf rfl];show _=Value.slice (g'.ro 3 0).1 (m.nc+1) (g'.ro 3 0).2;rw[r3]
   rw[au e6];unfold mE;rw[au e6,au e6,G 1 0 ek,G 2 0 ek,G 10 _ ek,G 4 0 ek];rfl
  .show World.ownsRow _ 0 233 2 (.slice (g'.ro 3 0).1 (m.nc+1) (g'.ro 3 0).2) (m.nc+1) (rowP ((m.nc+1)*2) (cE (m.nE ty l) g'));rw[r3,show(m.nc+1)*2=m.nc*2+2 by omega,<-uh (n:=m.nc*2) (k:=2) (P:=cE m g) (ys:=[dA J l.length l.length,jk ((ty:Int)-1)]) (λj hj=>?_) rfl (λj hj=>?_)]
   .exact hC
   .unfold cE;rw[so _ ag,a4 _ ag,a8 _ ag]
   unfold cE;rw[show(m.nc*2+j) / 2+1=m.nc+1 by omega,s1,a3,a6];have a5:j=0\/j=1:=ag
   rcases a5 with rfl|rfl
   .rw[mm];rfl
   rw[eD];rfl
  rw[ie v7];show Full w' (g'.sb (m.nc+1)) 115 (((m.nE ty l).M (m.nc+1)).length*2) (((m.nE ty l).M (m.nc+1)).length*2) (eQ (mW ((m.nE ty l).M (m.nc+1))));rw[s1,a3];exact hS
 rintro a b c k (⟨rfl,rfl,rfl⟩|⟨rfl,rfl,rfl⟩|⟨rfl,rfl,rfl⟩) W
 .have:k=g'.mb:=W;exact af (this.trans Z)
 .have H:fi (g'.ro 3 0).1=some k:=W;rw[r3]at H;have a0:some cb=some k:=H;injection a0 with a0;subst a0;exact hc.imp id (λe=>⟨e.1,e.2,au a7⟩)
 rw[ie v7]at W;have H:k=g'.sb (m.nc+1):=W;rw[s1]at H;subst H;exact ah ⟨hs.1,hs.2,bf rfl⟩
def Tryz.Hd:(prog.info? 167).map (λi=>(i.zero,i.size,i.bytes))=some (some (.agg #[.slice none 0 0,aj 0,aj 0,aj 0,aj 0,aj 0,aj 0,aj 0]),8,80):=by kernel_rfl
def Tryz.underlying106:prog.underlying 106=some (.slice 167):=by kernel_rfl
def zx(m:Dm)(g g1:Dg):Prop:=(∀t i,t<=m.nt->g1.rb t i=g.rb t i)/\g1.sb=g.sb
def Gj{b tb tc:Nat}{o2:Obj}{w2 w6 W:aa}{f:jc}{x:Dt}(h:dZ p m g w)(Z:w.grownBy w2 none)(hx:x.fr=[f])(hV:Full w2 b 115 (p.rg f.f*2) (p.rg f.f*2) (eQ f.R))(hb:w.heap.size<=b)(ho:w6.ownsRow 0 167 8 (dA tb (m.nt+1) tc) (m.nt+1) (rowP (m.nt*8) (tE m g)++[dA w2.heap.size 1 1,jk x.how,jk x.into,jk x.what,jk x.lH,jk x.jw,jk x.out.1,jk x.out.2]))(o:W.grownBy w6 (Value.slice (g.ro 1 0).1 m.nt (g.ro 1 0).2).ownBlock)(a6:lR W.heap.size (.slice (g.ro 1 0).1 m.nt (g.ro 1 0).2) (dA tb (m.nt+1) tc))(hW:W.heap=((w2.alloc (.cells #[fC p f b 0,fC p f b 1,fC p f b 2,fC p f b 3] 163)).alloc o2).heap)(J:W.os=w2.os/\W.tape=w2.tape/\W.output=w2.output): ∃g1,Tr p m g w (m.kP x) g1 (w6.setCell (ay g.mb 6) (dA tb (m.nt+1) tc))/\zx m g g1:=by
 have h2:=h.kept Z;have a2:(Value.slice (g.ro 1 0).1 m.nt (g.ro 1 0).2).ownBlock=fi (g.ro 1 0).1:=dF _ _ _;rw[a2]at o;have a9:W.heap.size=w2.heap.size+2:=by rw[hW];simp
 have u:∀k,fi (g.ro 1 0).1=some k->k<w.heap.size/\k≠g.mb:=λk H=>⟨h.lt ⟨1,0,0,H⟩,h.ne (x:=1) (y:=0) (z:=0) (x':=0) (y':=0) (z':=0) rfl rfl H rfl ag⟩;have aA:=Z.size;have Y:∀k,k<w2.heap.size->fi (g.ro 1 0).1≠some k->w6.heap[k]? = w2.heap[k]?:=λk H hn=>by
  rw[o.block k ag (λe=>hn e.symm),hW,av _ _ _ fH,av _ _ _ H]
 have a7:w6.heap[w2.heap.size]? = some (.cells #[fC p f b 0,fC p f b 1,fC p f b 2,fC p f b 3] 163 (0,0)):=by
  rw[o.block w2.heap.size ag (λe=>by grind),hW,av _ _ _ eB];exact bl _ _
 have a5:g.mb<w2.heap.size:=h2.M.lt;have a0:=h2.M.block (Y g.mb a5 (λe=>(u _ e).2 rfl))
 have a1:=hV.block (Y b hV.lt (λe=>by grind));have G:fi (g.ro 1 0).1=some tb\/W.heap.size<=tb:=by
  rcases a6 with e|⟨b',e1,e2⟩
  .left
   rw[<-a2,<-e];rfl
  right
  have:tb=b':=by injection e1
  omega
 have a4:tb≠g.mb:=by
  rcases G with e|e
  .grind
  omega
 refine⟨_,h.kP hx (kb:=w2.heap.size) (vb:=b) (tb:=tb) (tc:=tc) (f:=f) (bp (S:=λk=>k=g.mb\/fi (g.ro 1 0).1=some k) (a:=ay g.mb 6) ⟨o.os.trans (J.1.trans Z.os),o.tape.trans (J.2.1.trans Z.tape),o.output.trans (J.2.2.trans Z.output),eR,λk H hn=>(Y k ag (λe=>hn (ah e))).trans (Z.block k H eR)⟩ (af (af rfl)) _) (a0.eC 6 _) ?_ ?_ ?_ (G.imp id (λe=>by omega)) ag hb ?_ ?_ ?_,λt i ht=>qO _ _ (λe=>by omega),rfl⟩
 .grind[dQ,Below.heap_setCell,Value.ownBlock]
 .grind[Full,fC,oU,Full.off]
 .grind[decide,Full.off,Full.ne]
 .have:=hV.lt;omega
 .grind
 grind[Full.lt]
def DP{f:Nat}{u v:B.V}(h:dZ p m g w)(hf:f<p.nf)(hr:2<=p.rg f)(aT:p.rg f<=8)(hn:m.nt<1000000000)(hq:m.q.length<=1000000000): dD 47 #[P0 g.mb,aj f,vA u,vA v] w (aj ((m.nt:Int)+1)) λw'=>∃g',Tr p m g w (m.born f u v) g' w'/\zx m g g':=by
 obtain⟨i0,hi,aL,aE,aC⟩:=info_parts Tryz.Hd;obtain⟨j0,i,aU,aM,aV⟩:=info_parts Tryz.sr;have c0:w.cell? (ay g.mb 0)=some (dA p.gb p.nf p.gc):=(h.mc 0 ag rfl).1;have hP:=h.P.2.2;have c1:w.cell? (ay p.gb (f*2))=some (aj (p.rg f:Int)):=by
  rw[hP.cell (f*2) ag];unfold Md;rw[mm,show f*2 / 2=f by omega]
 have lm:g.mb<w.heap.size:=h.M.lt;have HR:=bj h;have a5:Hid (∀w1,w.grownBy w1 none->Calls prog 74 #[P0 g.mb,aj f,vA u,vA v,aj 0] w1 λe w'=>∃b,e=.returned (.agg #[aj f,dA b (p.rg f) (p.rg f),aj 0,aj 0])/\w1.heap.size<=b/\Full w' b 115 (p.rg f*2) (p.rg f*2) (eQ (ig u v))/\w1.grownBy w' none):=λw1 W=>ze ((bd W (a:=ay g.mb 0) lm).1.trans c0) ((bd W (a:=ay p.gb (f*2)) hP.lt).1.trans c1) hf hr aT;obtain⟨u1,u2⟩:=u;obtain⟨v1,v2⟩:=v;clear h hP c0 c1;delta dD;go_in;go_wp2_with fail
 refine(a5 _ (ax (ax (aw _ _) _) _)).mono ?_;rintro e w1 ⟨b,rfl,hb,hV,W⟩;have hg:w.grownBy w1 none:=ar (ax (ax (aw _ _) _) _) W;have aQ:w.heap.size<=b:=by simp at hb;omega
 have HV:=bj hV;have HG:=bj hg;clear hV W hb a5;go_wp2_with fail
 have KG:Hid (w.grownBy (w1.alloc (.cells #[aj f,dA b (p.rg f) (p.rg f),aj 0,aj 0] 163)) none):=ax HG _;have Y:=bl w1 (.cells #[aj f,dA b (p.rg f) (p.rg f),aj 0,aj 0] 163);have aB:Hid (Full (w1.alloc (.cells #[aj f,dA b (p.rg f) (p.rg f),aj 0,aj 0] 163)) b 115 (p.rg f*2) (p.rg f*2) (eQ (ig (u1,u2) (v1,v2)))):=HV.block (av _ _ _ HV.lt);have aW:w1.heap.size<(w1.alloc (.cells #[aj f,dA b (p.rg f) (p.rg f),aj 0,aj 0] 163)).heap.size:=eB
 generalize w1.alloc (.cells #[aj f,dA b (p.rg f) (p.rg f),aj 0,aj 0] 163)=w2 at *;have x0:w2.cell? (ay w1.heap.size 0)=some (aj f):=fy Y
 have x1:w2.cell? (ay w1.heap.size 1)=some (dA b (p.rg f) (p.rg f)):=fy Y
 have x2:w2.cell? (ay w1.heap.size 2)=some (aj 0):=fy Y
 have x3:w2.cell? (ay w1.heap.size 3)=some (aj 0):=fy Y
 have Z:=bj (HR.kept KG);obtain⟨c6,z6⟩:=Z.mc 6 ag (v:=.slice (g.ro 1 0).1 m.nt (g.ro 1 0).2) rfl;have a6:=Z.M.lt;have HT:Hid (w2.ownsRow 0 167 8 (.slice (g.ro 1 0).1 m.nt (g.ro 1 0).2) m.nt (rowP (m.nt*8) (tE m g))):=Z.Tw;have a0:Hid (∀k,(Value.slice (g.ro 1 0).1 m.nt (g.ro 1 0).2).ownBlock=some k->k≠g.mb/\k<w2.heap.size):=λk hk=>⟨eU HT Z.M ek k hk,(dP HT k hk).2.1⟩;clear Y aW;go_cut [] (λwx=>Hid (∃g1,Tr p m g w (m.kP ⟨[⟨f,0,ig (u1,u2) (v1,v2),(0,0,0,0)⟩],1,0,0,0,0,(0,0)⟩) g1 wx/\zx m g g1))
 case first=>
  go_region_law (refine fD _ rfl (.tmp 19) (.tmp 23) 106 rfl 167 i0 _ 8 80 Tryz.underlying106 hi aL aE aC rfl ek (g.ro 1 0).1 m.nt (g.ro 1 0).2 (rowP (m.nt*8) (tE m g)) mB (dQ HT (λk h=>(av _ _ _ (by have:=(a0 k h).2;simp;omega)).trans (av _ _ _ (a0 k h).2))) (ay (w2.heap.size+1) 0) 1 1 [dA w2.heap.size 1 1,aj 1,aj 0,aj 0,aj 0,aj 0,aj 0,aj 0] mB rfl (by intro j u i;match j,i with|0,i=>(simp at i;subst i;simp[Addr.add,go_sem])|1,i=>(simp at i;subst i;simp[Addr.add,go_sem])|2,i=>(simp at i;subst i;simp[Addr.add,go_sem])|3,i=>(simp at i;subst i;simp[Addr.add,go_sem])|4,i=>(simp at i;subst i;simp[Addr.add,go_sem])|5,i=>(simp at i;subst i;simp[Addr.add,go_sem])|6,i=>(simp at i;subst i;simp[Addr.add,go_sem])|7,i=>(simp at i;subst i;simp[Addr.add,go_sem])) xI pY ag ek ?_;intro v' w6 ho G a7;obtain⟨tb,tc,rfl⟩:=ee ho ag;have aI:=bj ho;have a4:=bj G;have aG:=bj a7;have H:w6.heap[g.mb]? = w2.heap[g.mb]?:=((G.block g.mb (by first|(simp;omega)|simp) (λh=>(a0 _ h.symm).1 rfl)).trans ((av _ _ _ (by first|(simp;omega)|simp)).trans (av _ _ _ a6)));have d6:=(az (a:=ay g.mb 6) H).trans c6;have y6:=(dr (a:=ay g.mb 6) H).trans z6;clear H ho G a7)
  all_goals
   go_wp2_with fail
   go_meet
   case rel=>
    exact Gj (x:=⟨[⟨f,0,ig (u1,u2) (v1,v2),(0,0,0,0)⟩],1,0,0,0,0,(0,0)⟩) (f:=⟨f,0,ig (u1,u2) (v1,v2),(0,0,0,0)⟩) HR KG rfl aB.out aQ aI.out a4.out aG.out rfl ⟨rfl,rfl,rfl⟩
 case rest=>
  have o:=hcut;obtain⟨g1,J,a9⟩:=o.out;have aK:=bj a9;clear a9;obtain⟨aN,aH⟩:=J.r.mc 6 ag (v:=.slice (g1.ro 1 0).1 (m.nt+1) (g1.ro 1 0).2) rfl;obtain⟨c7,z7⟩:=J.r.mc 7 ag (v:=.slice (g1.ro 2 0).1 m.q.length (g1.ro 2 0).2) rfl;rw[J.b]at aN aH c7 z7;have HQ:Hid (gd wc 3 (.slice (g1.ro 2 0).1 m.q.length (g1.ro 2 0).2) (jJ m.q)):=J.r.Q;have a1:=bj J;have aD:g.mb<wc.heap.size:=by have:=J.r.M.lt;rw[J.b]at this;exact this
  have HK:Hid (∀k,(Value.slice (g1.ro 2 0).1 m.q.length (g1.ro 2 0).2).ownBlock=some k->k≠g.mb/\k<wc.heap.size):=λk hk=>by
   have aJ:fi (g1.ro 2 0).1=some k:=by rw[dF]at hk;exact hk
   refine⟨?_,HQ.out.lt k hk⟩;rw[<-a1.out.b];exact a1.out.r.ne (x:=2) (y:=0) (z:=0) (x':=0) (y':=0) (z':=0) rfl rfl aJ rfl ag
  have aY:=jC m.q;clear J hcut o c6 z6 HT a0 Z aB x0 x1 x2 x3 a6;go_wp2_with fail
  go_cut [] (λwx=>Hid (∃g2,Tr p m g w (m.born f (u1,u2) (v1,v2)) g2 wx/\zx m g g2))
  case first=>
   go_region_law (refine lI _ rfl (.tmp 31) (.tmp 37) 54 rfl 3 j0 _ 8 Tryz.jh i aU aM aV rfl _ (jJ m.q) mB (HQ.out.block (λk h=>av _ _ _ (HK.out k h).2)) (ay wc.heap.size 0) 1 (aj ((m.nt:Int)+1)) mB (by simp[Addr.add,go_sem]) rfl pY ag ?_;intro gb aX c' w6 aA G a3;have aF:=bj aA;have a4:=bj G;have aS:=bj a3;have H:w6.heap[g.mb]? = wc.heap[g.mb]?:=((G.block g.mb (by first|(simp;omega)|simp) (λh=>(HK.out _ h.symm).1 rfl)).trans (av _ _ _ aD));have d7:=(az (a:=ay g.mb 7) H).trans c7;have y7:=(dr (a:=ay g.mb 7) H).trans z7;clear H aA G a3)
   all_goals
    go_wp2_with fail
    go_meet
    case rel=>
     have hq:=aF.out;rw[jC]at hq;have h2:=Tr.sE (t:=m.nt+1) (a1.out.kept (bo (ak wc (.cells #[aj ((m.nt:Int)+1)] 3) none))) hq a4.out aS.out;rw[a1.out.b]at h2;exact⟨_,h2,aK.out⟩
  case rest=>
   have o:=hcut;obtain⟨g2,a2,a8⟩:=o.out;have aP:=bj a8;clear a8;obtain⟨d6,_⟩:=a2.r.mc 6 ag (v:=.slice (g2.ro 1 0).1 (m.nt+1) (g2.ro 1 0).2) rfl;rw[a2.b]at d6;have aR:=bj a2;clear a2 hcut o;go_wp2_with fail
   go_ret;exact⟨rfl,g2,aR.out,aP.out⟩
abbrev jn(op a b c:Nat):Value:=.agg #[.int .i64 (op:Int),.int .i64 (a:Int),.int .i64 (b:Int),.int .i64 (c:Int)]
def Jn{rb nr:Nat}{R:Nat->B.V}(h:Full w rb 115 (nr*2) (nr*2) (eQ R)){a:Nat}(o:a<nr):w.cell? (ay rb (a*2))=some (aj ((R a).1:Int))/\w.cell? (ay rb (a*2+1))=some (aj (R a).2)/\w.frozen? (ay rb (a*2))=false/\w.frozen? (ay rb (a*2+1))=false:=by
 obtain⟨c0,e⟩:=h.cells (a*2) ag;obtain⟨c1,i⟩:=h.cells (a*2+1) ag;unfold eQ at c0 c1;grind
def dZ.cc(h:dZ p m g w){c:Nat}(H:1<=c)(G:c<=m.nc):∃e,(g.ro 3 0).1=some ⟨e,0,none⟩/\e<w.heap.size/\w.cell? ⟨g.mb,12,none⟩=some (.slice (some ⟨e,0,none⟩) m.nc (g.ro 3 0).2)/\w.cell? ⟨e,(c-1)*2,none⟩=some (.slice (some ⟨g.sb c,0,none⟩) (m.M c).length (m.M c).length)/\w.cell? ⟨e,(c-1)*2+1,none⟩=some (aj ((m.ck c:Int)-1)):=by
 obtain⟨b,o,u,y,i⟩:=h.C ag;have k0:=i.cell ((c-1)*2) ag;have k1:=i.cell ((c-1)*2+1) ag;unfold cE at k0 k1;rw[bf ag,show(c-1)*2 / 2+1=c by omega]at k0;rw[au ag,show((c-1)*2+1) / 2+1=c by omega]at k1;refine⟨b,o,i.lt,?_,k0,k1⟩;rw[<-o];exact(h.mc 12 ag rfl).1
theorem ym{rb t i nr op a b c:Nat}{v1:Int}(J:b<nr)(r0:w.cell? (ay i (b*2))=some (aj 0))(W:w.cell? (ay i (b*2+1))=some (aj v1)): dD 227 #[P0 rb,aj t,dA i nr nr,jn op a b c] w (aj 4) λw'=>w.grownBy w' none:=by
 have G:i<w.heap.size:=an w _ r0;have y:(b:Int)<nr:=ag
 delta dD;go_in;go_wp2_with fail
 have u:Hid (w.grownBy ((w.alloc (.cells #[aj op,aj a,aj b,aj c] 90)).alloc (.cells #[aj 0,aj v1] 115)) none):=ax (ax (aw _ _) _) _;have H:dS ((w.alloc (.cells #[aj op,aj a,aj b,aj c] 90)).alloc (.cells #[aj 0,aj v1] 115)) (w.heap.size+1) 0=some (aj 0):=by simp[go_sem]
 generalize (w.alloc (.cells #[aj op,aj a,aj b,aj c] 90)).alloc (.cells #[aj 0,aj v1] 115)=w2 at *;go_quiet (fail)
 go_wp2
 go_ret;exact⟨rfl,df u _⟩
structure Ky(w:aa) (rb rr nr b c z cb nc cc sN sl:Nat) (v1 u1:Int) (x y:B.V):Prop where
 hb:b<nr
 hc:c<nr
 hz:z<nc
 hn:nc<1000000000
 r0:w.cell? ⟨rr,b*2,none⟩=some (.int .i64 ((z:Int)+1))
 r1:w.cell? ⟨rr,b*2+1,none⟩=some (.int .i64 v1)
 CF:w.cell? ⟨rb,12,none⟩=some (.slice (some ⟨cb,0,none⟩) nc cc)
 k0:w.cell? ⟨cb,z*2,none⟩=some (.slice (some ⟨sN,0,none⟩) sl sl)
 k1:w.cell? ⟨cb,z*2+1,none⟩=some (.int .i64 u1)
 lr:rr<w.heap.size
 lb:rb<w.heap.size
 lc:cb<w.heap.size
theorem yl{rb t o nr op a b c z cb H cc sN sl:Nat}{v1 G:Int}{x y:B.V}(h:Ky w rb o nr b c z cb H cc sN sl v1 G x y)(hu:G<0): dD 227 #[P0 rb,aj t,dA o nr nr,jn op a b c] w (aj 4) λw'=>w.grownBy w' none:=by
 obtain⟨hb,hc,hz,hn,W,r1,i,k0,k1,lr,Z,Y⟩:=h;have a0:(b:Int)<nr:=ag
 have q1:IntKind.i64.wrap ((z:Int)+1-1)=(z:Int):=fj ag;have q2:IntKind.i64.wrap (z:Int)=z:=iU
 have q3:(z:Int)<H:=ag
 have q4:(0:Int)<=z:=ag
 have q5:(((z:Int)+1) == 0)=false:=kr dX
 delta dD;go_in;go_wp2_with fail
 have u:Hid (w.grownBy ((w.alloc (.cells #[aj op,aj a,aj b,aj c] 90)).alloc (.cells #[aj ((z:Int)+1),aj v1] 115)) none):=ax (ax (aw _ _) _) _;have x0:dS ((w.alloc (.cells #[aj op,aj a,aj b,aj c] 90)).alloc (.cells #[aj ((z:Int)+1),aj v1] 115)) (w.heap.size+1) 0=some (aj ((z:Int)+1)):=by simp[go_sem]
 generalize (w.alloc (.cells #[aj op,aj a,aj b,aj c] 90)).alloc (.cells #[aj ((z:Int)+1),aj v1] 115)=w2 at *;have a1:=(bd u (a:=ay rb 12) Z).1.trans i;have d1:=(bd u (a:=ay cb (z*2+1)) Y).1.trans k1;go_quiet (fail)
 go_wp2
 go_ret;exact⟨rfl,df u _⟩
structure MY(w w2:aa) (rb rr op a b c z cb nc cc sN sl:Nat) (v1 u1:Int):Prop where
 g:w.grownBy w2 none
 i0:w2.cell? ⟨w.heap.size,0,none⟩=some (.int .i64 (op:Int))
 i1:w2.cell? ⟨w.heap.size,1,none⟩=some (.int .i64 (a:Int))
 i3:w2.cell? ⟨w.heap.size,3,none⟩=some (.int .i64 (c:Int))
 x0:w2.cell? ⟨w.heap.size+1,0,none⟩=some (.int .i64 ((z:Int)+1))
 d12:w2.cell? ⟨rb,12,none⟩=some (.slice (some ⟨cb,0,none⟩) nc cc)
 d0:w2.cell? ⟨cb,z*2,none⟩=some (.slice (some ⟨sN,0,none⟩) sl sl)
 d1:w2.cell? ⟨cb,z*2+1,none⟩=some (.int .i64 u1)
 s:w.heap.size+1<w2.heap.size
def MY.drewN{w2:aa}{rb e op a b c z cb u cc o sl:Nat}{v1 i:Int}(h:MY w w2 rb e op a b c z cb u cc o sl v1 i)(n:Nat):MY w (w2.drewN n) rb e op a b c z cb u cc o sl v1 i:=⟨df h.g n,h.i0,h.i1,h.i3,h.x0,h.d12,h.d0,h.d1,h.s⟩
def ND{rb i nr op a b c z cb u cc G sl:Nat}{v1 o:Int}{x y:B.V}(h:Ky w rb i nr b c z cb u cc G sl v1 o x y):MY w ((w.alloc (.cells #[aj op,aj a,aj b,aj c] 90)).alloc (.cells #[aj ((z:Int)+1),aj v1] 115)) rb i op a b c z cb u cc G sl v1 o:=by
 have e:w.grownBy ((w.alloc (.cells #[aj op,aj a,aj b,aj c] 90)).alloc (.cells #[aj ((z:Int)+1),aj v1] 115)) none:=ax (ax (aw _ _) _) _;exact⟨e,by simp[go_sem],by simp[go_sem],by simp[go_sem],by simp[go_sem],(bd e (a:=ay rb 12) h.lb).1.trans h.CF,(bd e (a:=ay cb (z*2)) h.lc).1.trans h.k0,(bd e (a:=ay cb (z*2+1)) h.lc).1.trans h.k1,eB⟩
def MX(w2 wx:aa)(X sN sl:Nat)(u1:Int):Prop:=w2.grownBy wx none/\wx.cell? ⟨X,0,none⟩=some (.slice (some ⟨sN,0,none⟩) sl sl)/\wx.cell? ⟨X,1,none⟩=some (.int .i64 u1)/\w2.heap.size<=X
def NC(e:aa)(o sl:Nat)(i:Int):MX e ((e.alloc (.cells #[dA o sl sl,aj i] 233)).drew) e.heap.size o sl i:=
 ⟨bo (ak _ _ none),(by simp[go_sem]),(by simp[go_sem]),bq _⟩
def Tryz.He:(prog.info? 163).map (λi=>(i.zero,i.size,i.bytes))=some (some (.agg #[aj 0,.slice none 0 0,aj 0,aj 0]),4,48):=by kernel_rfl
def Tryz.underlying165:prog.underlying 165=some (.slice 163):=by kernel_rfl
def Jt{t b tb kb ck:Nat}{o2:Obj}{w2 w6 W:aa}{f:jc}(h:dZ p m g w)(ht:mY m t)(hb:g.ro 1 0=(some (ay tb 0),(g.ro 1 0).2))(hg:w.grownBy w2 none)(hV:Full w2 b 115 (p.rg f.f*2) (p.rg f.f*2) (eQ f.R))(a5:w.heap.size<=b)(ho:w6.ownsRow 0 163 4 (dA kb ((m.T t).fr.length+1) ck) ((m.T t).fr.length+1) (rowP ((m.T t).fr.length*4) (fE p m g t)++[fC p f b 0,fC p f b 1,fC p f b 2,fC p f b 3]))(o:W.grownBy w6 (Value.slice (g.ro 5 t).1 (m.T t).fr.length (g.ro 5 t).2).ownBlock)(a6:lR W.heap.size (.slice (g.ro 5 t).1 (m.T t).fr.length (g.ro 5 t).2) (dA kb ((m.T t).fr.length+1) ck))(hW:W.heap=(w2.alloc o2).heap)(Y:W.os=w2.os/\W.tape=w2.tape/\W.output=w2.output): ∃g1,Tr p m g w (m.push t f) g1 (w6.setCell (ay tb ((t-1)*8)) (dA kb ((m.T t).fr.length+1) ck)):=by
 have:=ht.1;have:=ht.2;have a2:(Value.slice (g.ro 5 t).1 (m.T t).fr.length (g.ro 5 t).2).ownBlock=fi (g.ro 5 t).1:=dF _ _ _;rw[a2]at o;have a8:W.heap.size=w2.heap.size+1:=by rw[hW];simp
 obtain⟨u,i,h1,a7,h3⟩:=(h.kept hg).T ag;have a4:u=tb:=by rw[hb]at i;injection i with i;injection i with i _;exact i.symm
 subst a4;have v5:=rP (p:=p) (m:=m) ht.1 ht.2;have G:∀k,fi (g.ro 5 t).1=some k->k<w.heap.size/\k≠u:=λk H=>⟨h.lt ⟨5,t,0,by rw[ie v5];exact H⟩,h.ne (x:=5) (y:=t) (z:=0) (x':=1) (y':=0) (z':=0) v5 rfl H ((CZ p m hb u).2 rfl) ag⟩;have a9:=hg.size;have Z:∀k,k<w2.heap.size->fi (g.ro 5 t).1≠some k->w6.heap[k]? = w2.heap[k]?:=λk H hn=>by
  rw[o.block k ag (λe=>hn e.symm),hW,av _ _ _ H]
 have a0:=h3.block (Z u h3.lt (λe=>(G _ e).2 rfl));have a1:=hV.block (Z b hV.lt (λe=>by grind));have J:fi (g.ro 5 t).1=some kb\/W.heap.size<=kb:=by
  rcases a6 with e|⟨u,e1,e2⟩
  .left
   rw[<-a2,<-e];rfl
  right
  have:kb=u:=by injection e1
  omega
 have aA:=h.lt ⟨1,0,0,(CZ p m hb u).2 rfl⟩;have a3:kb≠u:=by
  rcases J with e|e
  .grind
  omega
 refine⟨_,h.push ht (tb:=u) (kb:=kb) (ck:=ck) (vb:=b) (f:=f) hb (bp (S:=λk=>k=u\/fi (g.ro 5 t).1=some k) (a:=ay u ((t-1)*8)) ⟨o.os.trans (Y.1.trans hg.os),o.tape.trans (Y.2.1.trans hg.tape),o.output.trans (Y.2.2.trans hg.output),gp o.size,λk H hn=>(Z k ag (λe=>hn (ah e))).trans (hg.block k H eR)⟩ (af (af rfl)) _) (a0.eC _ _) ?_ ?_ (J.imp id (λe=>by omega)) a5 ?_⟩
 .grind[dQ,Below.heap_setCell,Value.ownBlock]
 .grind[decide,Full.off,Full.ne]
 grind[Full.lt]
def N0(wc wx:aa)(Y b f into nr:Nat)(x y:B.V):Prop:=wc.grownBy wx none/\wx.heap[Y]? = some (.cells #[.int .i64 (f:Int),.slice (some ⟨b,0,none⟩) nr nr,.int .i64 0,.int .i64 (into:Int)] 163 (0,0))/\wc.heap.size<=b/\wc.heap.size<=Y/\Full wx b 115 (nr*2) (nr*2) (eQ (ig x y))
def NB{wc e:aa}{b f into nr:Nat}{x y:B.V}(o:wc.grownBy e none)(i:Full e b 115 (nr*2) (nr*2) (eQ (ig x y)))(u:wc.heap.size<=b):N0 wc (e.alloc (.cells #[aj f,dA b nr nr,aj 0,aj into] 163)) e.heap.size b f into nr x y:=
 ⟨ax o _,bl _ _,u,o.size,i.block (av _ _ _ i.lt)⟩
def NA{wc e:aa}{b f into nr:Nat}{x y:B.V}(u:wc.grownBy e none)(i:Full e b 115 (nr*2) (nr*2) (eQ (ig x y)))(G:wc.heap.size+1<=b)(o:e.heap[wc.heap.size]? = some (.cells #[aj 0,.slice none 0 0,aj 0,aj 0] 163 (0,0))):N0 wc ((((e.setCell (ay wc.heap.size 0) (aj f)).setCell (ay wc.heap.size 1) (dA b nr nr)).setCell (ay wc.heap.size 2) (aj 0)).setCell (ay wc.heap.size 3) (aj into)) wc.heap.size b f into nr x y:=by
 refine⟨bu (bu (bu (bu u (ah (bq _)) _) (ah (bq _)) _) (ah (bq _)) _) (ah (bq _)) _,?_,ag,bq _,(((i.off ag).off ag).off ag).off ag⟩;simp[World.setCell,dh,o]
def vj(m:Dm)(time:Int)(I b:Nat):Prop:=
 (b=0/\∀u,1<=u->u<=I->¬((m.T u).how=2/\(m.T u).lH<=time))\/((1<=b/\b<=I)/\(m.T b).how=2/\(m.T b).lH<=time/\∀u,1<=u->u<=I->(m.T u).how=2->(m.T u).lH<=time->yM (m.T b) (m.T u))
def vj.no{i:Int}{I b:Nat}(h:vj m i I b)(hn:¬((m.T (I+1)).how=2/\(m.T (I+1)).lH<=i)):vj m i (I+1) b:=by
 rcases h with⟨G,y⟩|⟨G,y,Y,W⟩
 .exact af ⟨G,λu o Z=>by
   grind⟩
 exact ah ⟨⟨G.1,ag⟩,y,Y,λu o Z J H=>by
  grind⟩
def vj.mX{i:Int}{I b:Nat}(h:vj m i I b)(J:b≠0)(hn:yM (m.T b) (m.T (I+1))):vj m i (I+1) b:=by
 rcases h with⟨o,y⟩|⟨o,y,Y,W⟩
 .omega
 exact ah ⟨⟨o.1,ag⟩,y,Y,λu H u2 Z G=>by
  grind⟩
def vj.take{i:Int}{I b:Nat}(h:vj m i I b)(Z:(m.T (I+1)).how=2)(J:(m.T (I+1)).lH<=i)(hb:b=0\/(m.T (I+1)).lH<(m.T b).lH\/((m.T (I+1)).lH=(m.T b).lH/\(m.T (I+1)).jw<(m.T b).jw)):vj m i (I+1) (I+1):=by
 refine ah ⟨⟨ag,bq _⟩,Z,J,λu G u2 o y=>?_⟩;unfold yM;by_cases e:u=I+1
 .grind
 rcases h with⟨Y,H⟩|⟨Y,H,h2,W⟩
 .grind
 grind[yM]
def NJ(h:dZ p m g w)(hn:m.nt≠0):Calls prog 143 #[P0 g.mb] w λe w'=>∃b:Nat,e=.returned (aj b)/\b<=m.nt/\Kq m b/\w.grownBy w' none:=by
 have C5:Hid (w.cell? ⟨g.mb,5,none⟩=some (aj m.clk)):=(h.mc 5 ag rfl).1;obtain⟨tb,hb,hl,hm,hF⟩:=h.T hn;have c6:w.cell? ⟨g.mb,6,none⟩=some (.slice (some ⟨tb,0,none⟩) m.nt (g.ro 1 0).2):=by rw[<-hb];exact(h.mc 6 ag rfl).1
 have aG:m.nt<=9223372036854775807:=by unfold maxLen at hm;omega
 have HF:=bj hF;have lt:=hF.lt;clear hF hm hb hl h;generalize g.mb=rb at *;go_in;go_wp2_with fail
 go_loopw [3,4] (λn i wr=>∃(N I:Nat),n=aj N/\i=aj I/\I<=m.nt/\N<=I/\Hid (vj m m.clk I N)/\Hid (w.grownBy wr none)) (λ_ i _=>m.nt-(intOf i).toNat)
 case atStart=>exact⟨0,0,rfl,rfl,ag,ag,af ⟨rfl,λu u1 u2=>by omega⟩,aw _ _⟩
 case round=>
  obtain⟨N,I,rfl,rfl,hI,hN,Z,Y⟩:=hrel;have hk:=λ(k:Nat) (hk:k<w.heap.size)=>Y.block k hk im;have d6:=(az (a:=⟨rb,6,none⟩) (hk rb (an w _ c6))).trans c6;have d5:wr.cell? ⟨rb,5,none⟩=some (aj m.clk):=(az (a:=⟨rb,5,none⟩) (hk rb (an w _ c6))).trans C5;have a6:=HF.block (hk tb lt);have aE:=a6.lt;have aI:rb<wr.heap.size:=an wr _ d6;clear hk;by_cases aF:I<m.nt
  .have hc:∀k,k<8->wr.cell? ⟨tb,I*8+k,none⟩=some (tC (m.T (I+1)) (je m g 5 (I+1)) k):=λk hk=>(a6.cell (I*8+k) ag).trans (congrArg some (qK m g (t:=I+1) ag hk ag));have aD:(I:Int)<m.nt:=ag
   have a7:N≠0->wr.cell? ⟨tb,(N-1)*8+4,none⟩=some (aj (m.T N).lH):=λh=>Dy a6 h ag ag;have a8:N≠0->wr.cell? ⟨tb,(N-1)*8+5,none⟩=some (aj ((m.T N).jw:Int)):=λh=>Dy a6 h ag ag;have c0:wr.cell? ⟨tb,I*8,none⟩=some (.slice (g.ro 5 (I+1)).1 (m.T (I+1)).fr.length (g.ro 5 (I+1)).2):=hc 0 ag;have c1:wr.cell? ⟨tb,I*8+1,none⟩=some (aj ((m.T (I+1)).how:Int)):=hc 1 ag;have c2:wr.cell? ⟨tb,I*8+2,none⟩=some (aj (m.T (I+1)).into):=hc 2 ag;have c3:wr.cell? ⟨tb,I*8+3,none⟩=some (aj ((m.T (I+1)).what:Int)):=hc 3 ag;have c4:wr.cell? ⟨tb,I*8+4,none⟩=some (aj (m.T (I+1)).lH):=hc 4 ag;have c5:wr.cell? ⟨tb,I*8+5,none⟩=some (aj ((m.T (I+1)).jw:Int)):=hc 5 ag;have aH:wr.cell? ⟨tb,I*8+6,none⟩=some (aj ((m.T (I+1)).out.1:Int)):=hc 6 ag;have c7:wr.cell? ⟨tb,I*8+7,none⟩=some (aj (m.T (I+1)).out.2):=hc 7 ag;generalize (g.ro 5 (I+1)).1=a1 at *;generalize (g.ro 5 (I+1)).2=a2 at *;generalize hx:m.T (I+1)=x at *;clear hc a6;by_cases h1:x.how=2
   .by_cases h2:x.lH<=m.clk
    .have j2:¬(m.clk<x.lH):=ag
     by_cases h3:N=0
     .have K:Hid (vj m m.clk (I+1) (I+1)):=Z.take (eV hx h1) (eV hx h2) (af h3);clear Z;go_wp2_with fail
      obtain⟨W,J,f1,f3,f4,f5,lW,G,o⟩:=lU wr _ _ _ _ _ _ _ _;rw[J];have e5:=o _ _ d5;have y:=bj (ar Y G)
      clear J o G Y;go_quiet (fail)
      go_wp2_with fail
      go_quiet (fail)
      go_wp2_with fail
      go_roundw
      case rel=>exact⟨I+1,I+1,iA,iA,ag,ag,K,⟨y.os,y.tape,y.output,y.size,y.block⟩⟩
      case measure=>simp[intOf];omega
     have j3:¬((N:Int)=0):=ag
     by_cases h4:x.lH<(m.T N).lH
     .skip
      have K:=bj (Z.take (eV hx h1) (eV hx h2) (ah (af (eV hx h4))));clear Z;go_wp2_with fail
      obtain⟨W,J,f1,f3,f4,f5,lW,G,o⟩:=lU wr _ _ _ _ _ _ _ _;rw[J];have e6:=o _ _ d6;have e5:=o _ _ d5;have y:=bj (ar Y G)
      have a5:=o _ _ (a7 h3);have a4:=o _ _ (a8 h3)
      have aB:((N:Int) == 0)=false:=gG j3
      have a3:IntKind.i64.wrap ((N:Int)-1)=((N-1:Nat):Int):=by simp[IntKind.wrap,IntKind.bits,IntKind.signed];omega
      have a0:N-1<m.nt:=ag
      generalize N-1=M at a5 a4 a3 a0;have aA:(M:Int)<m.nt:=ag
      clear J o G Y;go_quiet (fail)
      go_wp2_with fail
      go_quiet (fail)
      go_wp2_with fail
      go_roundw
      case rel=>exact⟨I+1,I+1,iA,iA,ag,ag,K,⟨y.os,y.tape,y.output,y.size,y.block⟩⟩
      case measure=>simp[intOf];omega
     by_cases h5:x.lH=(m.T N).lH
     .by_cases h6:x.jw<(m.T N).jw
      .have j6:(x.jw:Int)<((m.T N).jw:Int):=ag
       have K:=bj (Z.take (eV hx h1) (eV hx h2) (ah (ah (by rw[hx];exact⟨h5,h6⟩))));clear Z;go_wp2_with fail
       obtain⟨W,J,f1,f3,f4,f5,lW,G,o⟩:=lU wr _ _ _ _ _ _ _ _;rw[J];have e6:=o _ _ d6;have e5:=o _ _ d5;have y:=bj (ar Y G)
       have a5:=o _ _ (a7 h3);have a4:=o _ _ (a8 h3)
       have aB:((N:Int) == 0)=false:=gG j3
       have a3:IntKind.i64.wrap ((N:Int)-1)=((N-1:Nat):Int):=by simp[IntKind.wrap,IntKind.bits,IntKind.signed];omega
       have a0:N-1<m.nt:=ag
       generalize N-1=M at a5 a4 a3 a0;have aA:(M:Int)<m.nt:=ag
       clear J o G Y;go_quiet (fail)
       go_wp2_with fail
       go_quiet (fail)
       go_wp2_with fail
       go_roundw
       case rel=>exact⟨I+1,I+1,iA,iA,ag,ag,K,⟨y.os,y.tape,y.output,y.size,y.block⟩⟩
       case measure=>simp[intOf];omega
      have j6:¬((x.jw:Int)<((m.T N).jw:Int)):=ag
      have K:=bj (Z.mX h3 (by rw[hx];unfold yM;omega));clear Z;go_wp2_with fail
      obtain⟨W,J,f1,f3,f4,f5,lW,G,o⟩:=lU wr _ _ _ _ _ _ _ _;rw[J];have e6:=o _ _ d6;have e5:=o _ _ d5;have y:=bj (ar Y G)
      have a5:=o _ _ (a7 h3);have a4:=o _ _ (a8 h3)
      have aB:((N:Int) == 0)=false:=gG j3
      have a3:IntKind.i64.wrap ((N:Int)-1)=((N-1:Nat):Int):=by simp[IntKind.wrap,IntKind.bits,IntKind.signed];omega
      have a0:N-1<m.nt:=ag
      generalize N-1=M at a5 a4 a3 a0;have aA:(M:Int)<m.nt:=ag
      clear J o G Y;go_quiet (fail)
      go_wp2_with fail
      go_quiet (fail)
      go_wp2_with fail
      go_roundw
      case rel=>exact⟨N,I+1,iA,iA,ag,ag,K,⟨y.os,y.tape,y.output,y.size,y.block⟩⟩
      case measure=>simp[intOf];omega
     have b5:(x.lH == (m.T N).lH)=false:=gG h5
     have d4:=eW h4;have K:=bj (Z.mX h3 (by rw[hx];unfold yM;omega));clear Z;go_wp2_with fail
     obtain⟨W,J,f1,f3,f4,f5,lW,G,o⟩:=lU wr _ _ _ _ _ _ _ _;rw[J];have e6:=o _ _ d6;have e5:=o _ _ d5;have y:=bj (ar Y G)
     have a5:=o _ _ (a7 h3);have a4:=o _ _ (a8 h3)
     have aB:((N:Int) == 0)=false:=gG j3
     have a3:IntKind.i64.wrap ((N:Int)-1)=((N-1:Nat):Int):=by simp[IntKind.wrap,IntKind.bits,IntKind.signed];omega
     have a0:N-1<m.nt:=ag
     generalize N-1=M at a5 a4 a3 a0;have aA:(M:Int)<m.nt:=ag
     clear J o G Y;go_quiet (fail)
     go_wp2_with fail
     go_quiet (fail)
     go_wp2_with fail
     go_roundw
     case rel=>exact⟨N,I+1,iA,iA,ag,ag,K,⟨y.os,y.tape,y.output,y.size,y.block⟩⟩
     case measure=>simp[intOf];omega
    have j2:m.clk<x.lH:=ag
    have K:=bj (Z.no (by rw[hx];exact λe=>h2 e.2));clear Z;go_wp2_with fail
    obtain⟨W,J,f1,f3,f4,f5,lW,G,o⟩:=lU wr _ _ _ _ _ _ _ _;rw[J];have e5:=o _ _ d5;have y:=bj (ar Y G)
    clear J o G Y;go_quiet (fail)
    go_wp2_with fail
    go_roundw
    case rel=>exact⟨N,I+1,iA,iA,ag,ag,K,⟨y.os,y.tape,y.output,y.size,y.block⟩⟩
    case measure=>simp[intOf];omega
   have j1:¬((x.how:Int)=2):=ag
   have aJ:((x.how:Int) != 2)=true:=gG j1
   have K:=bj (Z.no (by rw[hx];exact λe=>h1 e.1));clear Z;go_wp2_with fail
   obtain⟨W,J,f1,f3,f4,f5,lW,G,o⟩:=lU wr _ _ _ _ _ _ _ _;rw[J];have y:Hid (w.grownBy W none):=ar Y G
   clear J o G Y;go_quiet (fail)
   go_wp2_with fail
   go_roundw
   case rel=>exact⟨N,I+1,iA,iA,ag,ag,K,⟨y.os,y.tape,y.output,y.size,y.block⟩⟩
   case measure=>simp[intOf];omega
  obtain rfl:I=m.nt:=by omega
  have aC:Hid (Kq m N):=by
   rcases Z with⟨h0,h1⟩|⟨h0,h1,h2,h3⟩
   .exact af ⟨h0,λu hu=>h1 u hu.1 hu.2⟩
   exact ah ⟨h0,h1,h2,λu hu=>h3 u hu.1 hu.2⟩
  clear a6 Z d5;go_wp2_with fail
  go_ret;exact⟨N,rfl,ag,aC,Y⟩
