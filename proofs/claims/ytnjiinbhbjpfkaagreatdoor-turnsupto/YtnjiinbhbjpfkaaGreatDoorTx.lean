import Derived.Test.YtnjiinbhbjpfkaaGreatDoorTr
import Derived.Test.YtnjiinbhbjpfkaaGreatDoorTw
import Derived.Test.YtnjiinbhbjpfkaaGreatDoorTt
import Derived.Test.YtnjiinbhbjpfkaaGreatDoorTu
set_option maxRecDepth 100000
set_option maxHeartbeats 0
set_option linter.all false
namespace Go.Proofs.YtnjiinbhbjpfkaaGreatDoor
open Go.RowKit Go.Proofs.Tryz
namespace D
open F
theorem gd.tail{w:aa}{e:TypeId}{ad:Option Addr}{n cap:Nat}{x:Value}{ys:List Value}(h:gd w e (.slice ad n cap) (x :: ys)): ∃b off,ad=some (ay b off)/\n=ys.length+1/\ys.length+1<=cap/\b<w.heap.size/\w.cell? (ay b off)=some x/\gd w e (.slice (some (ay b (if cap=1 then off else off+1))) ys.length (cap-1)) ys:=by
 rcases h with⟨_,h⟩|⟨b,off,G,N,P,h,H,h2,h3,i,hP⟩
 .cases h
 injection h with e1 W Y;subst e1 W Y;have hl:(x :: ys).length=ys.length+1:=rfl;rw[hl]at H i;refine⟨b,off,rfl,rfl,H,i.lt,?_,?_⟩
 .rw[i.cell off ag];have:=hP 0 x rfl;grind
 by_cases e:cap=1
 .have hy:ys=[]:=db.1 ag;subst hy;rw[bf e];refine ah ⟨b,off,cap-1,N,P,rfl,dk _,ag,ag,?_,λj u y=>by grind⟩;obtain⟨o,f1,f2,J⟩:=i;exact⟨o,f1,f2,λj Z=>J j ag⟩
 rw[au e];refine ah ⟨b,off+1,cap-1,N,P,rfl,ag,ag,ag,?_,λj u y=>?_⟩
 .grind
 have:=hP (j+1) u eR;grind
section
variable {p:Dp}{m m':Dm}{g g':Dg}{w w':aa}
theorem Tr.fO{m0:Dm}{Y:Dg}{w0:aa}(h0:Tr p m0 Y w0 m g w){k:Nat}(hk:k<4){l:List Nat}{r:Option Addr×Nat}(hO:dM (λj=>j=g.mb\/fi (g.ro 10 k).1=some j) w w')(hM:Full w' g.mb 112 24 24 (eC (mE p m g) (8+k) (.slice r.1 l.length r.2)))(hq:gd w' 5 (.slice r.1 l.length r.2) (iI l))(hb:∀j,fi r.1=some j->fi (g.ro 10 k).1=some j\/(¬eH p m g j/\w0.heap.size<=j)):Tr p m0 Y w0 (m.fO k l) (g.at 10 k r) w':=by
 have o:∀j,(m.fO k l).ft j=if j=k then l else m.ft j:=λj=>rfl
 refine h0.Cc 10 k (vH hk) ag (λ_ _ _=>rfl) hO (λx y z Z h1 h2=>ok_eq (e0:=λe=>dp e h1) (er:=λW=>⟨rp g _ (by grind[FX]),?_,?_⟩) (eq:=λe=>?_) (hx:=l9 Z)) (hM.congr (λi hi=>?_)) ?_ (λj hj=>hb j ?_)
 .rcases W with rfl|rfl|rfl|rfl<;>rfl
 .rw[AZ _ _ _ _ ek];rfl
 .rcases e with rfl|rfl
  .exact⟨rp g _ ag,rfl,rfl⟩
  have H:y≠k:=λe=>h2 ⟨rfl,e,(I1 Z).2⟩;refine⟨rp g _ ag,?_,?_⟩
  .show((m.fO k l).ft y).length=(m.ft y).length;grind
  show iI ((m.fO k l).ft y)=iI (m.ft y);grind
 .unfold eC;by_cases e:i=8+k
  .rw[bf e];have J:je (m.fO k l) (g.at 10 k r) 10 k=.slice r.1 l.length r.2:=by
    unfold je;rw[wv];show Value.slice r.1 ((m.fO k l).ft k).length r.2=_;rw[o,bf rfl]
   have G:=oU 3 k ag;rcases G with rfl|rfl|rfl|rfl<;>(subst e;exact J.symm)
  rw[au e,Be p (m.fO k l) g r (8+k) ag i e];by_cases h8:8<=i/\i<12
  .have J:je (m.fO k l) g 10 (i-8)=je m g 10 (i-8):=by
    unfold je;show Value.slice _ ((m.fO k l).ft (i-8)).length _=Value.slice _ (m.ft (i-8)).length _;rw[o,eD]
   have G:i=8\/i=9\/i=10\/i=11:=ag;rcases G with rfl|rfl|rfl|rfl<;>exact J.symm
  have G:i=0\/i=1\/i=2\/i=3\/i=4\/i=5\/i=6\/i=7\/i=12\/i=13\/i=14\/i=15\/i=16\/i=17\/i=18\/i=19\/i=20\/i=21\/i=22\/i=23:=ag;rcases G with rfl|rfl|rfl|rfl|rfl|rfl|rfl|rfl|rfl|rfl|rfl|rfl|rfl|rfl|rfl|rfl|rfl|rfl|rfl|rfl<;>rfl
 .show gd w' 5 (.slice ((g.at 10 k r).ro 10 k).1 ((m.fO k l).ft k).length ((g.at 10 k r).ro 10 k).2) (iI ((m.fO k l).ft k));rw[wv,o,bf rfl];exact hq
 have u:fi ((g.at 10 k r).ro 10 k).1=some j:=hj;grind[wv]
theorem dZ.bc(h:dZ p m g w){k:Nat}(i:k<4):w.cell? (ay g.mb (8+k))=some (je m g 10 k)/\w.frozen? (ay g.mb (8+k))=false:=by
 have e:=oU 3 k ag;rcases e with rfl|rfl|rfl|rfl
 .exact h.mc 8 ag rfl
 .exact h.mc 9 ag rfl
 .exact h.mc 10 ag rfl
 exact h.mc 11 ag rfl
theorem dZ.NK(h:dZ p m g w){k x:Nat}{l:List Nat}(u:k<4)(hl:m.ft k=x :: l):∃b off cap,je m g 10 k=.slice (some (ay b off)) (l.length+1) cap/\l.length+1<=cap/\b<w.heap.size/\b≠g.mb/\(∀t n,mY m t->n<(m.T t).fr.length->b≠g.rb t n)/\w.cell? (ay b off)=some (dy x) /\ Tr p m g w (m.fO k l) (g.at 10 k (some (ay b (if cap=1 then off else off+1)),cap-1)) (w.setCell (ay g.mb (8+k)) (.slice (some (ay b (if cap=1 then off else off+1))) l.length (cap-1))):=by
 have hQ:=h.B u;have y:iI (m.ft k)=dy x :: iI l:=jx hl
 rw[y]at hQ;obtain⟨b,off,J,Y,W,e4,e5,Z⟩:=gd.tail hQ;have o:(iI l).length=l.length:=by unfold iI;rw[ef]
 rw[o]at Y W Z;have e:(ok p m g 10 k 0).bs b:=by
  show fi (g.ro 10 k).1=some b;rw[J];rfl
 have i:=h.ne (x':=0) (y':=0) (z':=0) (vH u) rfl e rfl ag;refine⟨b,off,(g.ro 10 k).2,?_,W,e4,i,λt n ht hn=>h.ne (vH u) (zI ht.1 ht.2 hn) e (rfl:(ok p m g 6 t n).bs (g.rb t n)) ag,e5,?_⟩
 .grind[je]
 refine Tr.fO (Tr.refl h) u (l:=l) (r:=(some (ay b (if(g.ro 10 k).2=1 then off else off+1)),(g.ro 10 k).2-1)) (bp (S:=λj=>j=g.mb\/fi (g.ro 10 k).1=some j) (a:=ay g.mb (8+k)) (dw _ _) (af (af rfl)) _) (h.M.eC (8+k) _) ?_ (λj H=>af ?_)
 .grind[Below.heap_setCell,Value.ownBlock,gd.block]
 rw[J];exact H
end
variable {p:dL}{d:Dp}{K:Nat}{s s':Pl}{m m':Dm}{g g':Dg}{w w':aa}{ρ ρ':Nat → Nat}{t tb fb n nr a b c:Nat}{why:Int}
theorem EF{u kind:Nat}{x:Int}{v:B.V}(hP:PD p d)(h:dZ d m g w)(hS:eF p K s m ρ)(o:Ok p s)(i:u∈s.lv)(G:dW p s v)(he:m.ev.length<=100000): eL 196 #[P0 g.mb,aj u,aj kind,aj x,vA (tr ρ v)] w λw'=>∃m' g',Tr d m g w m' g' w'/\eF p K (s.leave u v kind x) m' ρ:=by
 have y:=o.lt u i;refine du (Ml (t:=u) (kind:=kind) (x:=x) (v:=v) hP h ((ey (jL s u v kind x)).2 y) (o.gone i G kind x (λ_ _ h=>h)) (hS.gone (kind:=kind) (x:=x) o i G) (Bq s u kind x) (hS.small o).2 he) ?_;rintro w' ⟨m',g',J,H⟩;refine⟨rfl,m',g',J,?_⟩;rw[Ar o.lw y]at H;exact H
theorem uQ{s:Pl}{z:Int}(h:gW s z=none){u:Nat}(i:u∈s.lv):(u:Int)≠z:=λe=>by
 have:=List.find?_eq_none.1 h u i;grind
theorem CC(hR:Rn p s t){u:Nat}(o:u∈s.lv)(i:u≠t)(v:B.V)(kind:Nat)(x:Int):((s.leave u v kind x).T t).run=true:=by
 unfold Pl.leave;rw[rH v _ _ (λy=>by
  have:=(hR.ok.lw.b 5 u (ah (ah (ah ⟨rfl,hR.ok.lt u o⟩))) t y).2;grind[F.Rn.wh]),nH _ _ _ _ (λe=>i e.symm)]
 exact hR.run
section
variable (hP:PD p d)(h:dZ d m g w)(hS:eF p K s m ρ)(hR:Rn p s t)(hQ:oV p d s m g w ρ t tb fb n nr)(hK:K < 900000000)
include h hS hR hQ
omit hS hR in
theorem oV.ge{u:Nat}(i:mY m u):w.cell? (ay tb ((u-1)*8+1))=some (aj ((m.T u).how:Int))/\w.cell? (ay tb ((u-1)*8+6))=some (aj ((m.T u).out.1:Int))/\w.cell? (ay tb ((u-1)*8+7))=some (aj (m.T u).out.2):=by
 obtain⟨e,o,_,tc⟩:=h.tc i;have:e=tb:=by
  have:=hQ.T.b;rw[o]at this;injection this with this _;injection this with this;injection this with this _
 subst this;exact⟨(tc.c 1 ag).1,(tc.c 6 ag).1,(tc.c 7 ag).1⟩
include hP hK
theorem L4(hG:∀f,f<p.nf->2<=p.rg f/\p.rg f<=8)(hn1:s.nt+1<=500000000)(ha:a<nr)(hb:b<nr)(Y:c<nr)(hi:kM p s t (13,a,b,c) why s'):Calls prog 215 #[P0 g.mb,aj t,dA (g.rb t n) nr nr,jn 13 a b c] w λe w'=>∃v:Int,e=.returned (aj v)/\iO p d K s t m g w why s' v w':=by
 refine N6 ag (λw1 o=>(Mt hP hG (h.kept o) hS hR (hQ.kept h o) ha hb Y hK hn1).mono ?_);rintro e w' ⟨i,s1,rfl,u,m',g',y,H⟩;have hw:=px (p:=p) (s:=s) (s':=s') (t:=t) (k:=(13,a,b,c)) (why:=why) ag hi;obtain⟨e1,W⟩:=hi;obtain⟨J,G⟩:=u;have ew:=J.trans e1.symm;have es:=G.trans W.symm;subst ew es;refine⟨i,rfl,?_⟩;by_cases Z:i=0
 .subst Z;refine iO.go (y.ahead o) H ?_;rw[G];unfold mS;split
  .unfold Pl.push;rw[di];exact hR.run
  exact hR.run
 exact⟨ρ,m',g',y.ahead o,ah ⟨H.mono ag,af ⟨ag,rfl⟩⟩⟩
omit hK in
theorem LV(he:m.ev.length<=100000)(J:a<nr):Calls prog 215 #[P0 g.mb,aj (t:Int),dA (g.rb t n) nr nr,jn 19 a b c] w λe w'=>∃v:Int,e=.returned (aj v)/\iO p d K s t m g w (iz s t a).1 (iz s t a).2 v w':=by
 have ga:dW p s ((bw s t).R a):=hR.nM (eV hQ.r2 J);have H:=hQ.rc J;have h6:=hQ.T.c6;unfold iz;generalize (bw s t).R a=x at *;by_cases Z:x.1=0
 case neg=>
  rw[au Z];refine du (AS (ah rfl) J H (λe=>Z ((ti hR.ok hS ga).1.1 e))) λw' i=>?_;grind[iO.fail]
 rw[bf Z];rw[ox Z,show x=(0,x.2) from fV Z rfl]at H;by_cases x1:x.2<1
 .rw[au (by grind[vX])];refine du (Gq J H h6 x1) λw' i=>?_;grind[iO.fail]
 by_cases x2:(m.nt:Int)<x.2
 .rw[au (by grind[vX,D.eF.nt])];refine du (Gp J H h6 x1 x2) λw' i=>?_;grind[iO.fail]
 rw[bf (by grind[vX,D.eF.nt])];obtain⟨z,hz⟩:∃z:Nat,x.2=(z:Int)+1:=⟨x.2.toNat-1,ag⟩;rw[hz]at H x1 x2 ⊢
 have Y:mY m (z+1):=⟨ag,ag⟩;have g1:=(oV.ge h hQ Y).1;rw[dC]at g1;have o:=hS.how hR.ok ((iG hS (z+1)).1 Y);refine(Jk (R:=λw'=>iO p d K s t m g w 0 (match gW s ((z:Int)+1) with|some u=>s.leave u (0,-100) 4 0|none=>s) (if z+1=t then -1 else 0) w') J H h6 ag ((hS.small hR.ok).1) g1 (λh5 w1 i=>?_) (λh5 w1 i=>?_)).mono ?_
 .have G:=o.1 (λe=>h5 ag);have y:gW s ((z:Int)+1)=some (z+1):=by
   cases y:gW s ((z:Int)+1) with
   | none=>grind[absurd,uQ]
   | some u=>
    have:=(jM y).2;grind
  rw[y];have hL:=EF (u:=z+1) (kind:=4) (x:=0) (v:=(0,-100)) hP (h.kept i) hS hR.ok G (dW.num _) he;rw[oZ,show(((z+1:Nat):Int))=(z:Int)+1 by omega]at hL;refine du hL ?_;rintro w' ⟨m',g',h1,h2⟩;refine⟨rfl,?_⟩;by_cases e:z+1=t
  .rw[bf e];refine iO.stop (h1.ahead i) (h2.mono ag) ?_;rw[e,tK hR.ok.lw hR.ht];rfl
  rw[au e];exact iO.go (h1.ahead i) h2 (CC hR G e _ _ _)
 .have W:z+1∉s.lv:=λhm=>o.2 hm ag;have y:gW s ((z:Int)+1)=none:=by
   cases y:gW s ((z:Int)+1) with
   | none=>rfl
   | some u=>
    have:=jM y;grind
  rw[y,au (λe=>W (eV e hR.lv))];exact iO.go ((Tr.refl h).kept i) hS hR.run
 grind
omit hP in
theorem LX(J:a<nr)(o:b<nr):Calls prog 215 #[P0 g.mb,aj (t:Int),dA (g.rb t n) nr nr,jn 18 a b c] w λe w'=>∃v:Int,e=.returned (aj v)/\iO p d K s t m g w (jb s t (18,a,b,c)).1 (jb s t (18,a,b,c)).2 v w':=by
 have gb:dW p s ((bw s t).R b):=hR.nM (eV hQ.r2 o);have W:=hQ.rc J;have rb:=hQ.rc o;have h6:=hQ.T.c6;have H:=(hS.small hR.ok).1;have hA:jb s t (18,a,b,c)=(if((bw s t).R b).1=0 then(if vX s ((bw s t).R b).2=true/\((bw s t).R b).2≠(t:Int) then(0,match gW s ((bw s t).R b).2 with|some u=>s.wait 5 u t (18,a,b,c)|none=>s.dJ t (de s t) ((bw s t).set a (s.out.getD (((bw s t).R b).2.toNat-1) (0,0)))) else(6,s)) else(1,s)):=rfl;rw[hA];generalize (bw s t).R b=x at *;by_cases h0:x.1=0
 case neg=>
  rw[au h0];refine du (AR (af rfl) J o W rb (λe=>h0 ((ti hR.ok hS gb).1.1 e))) λw' i=>?_;grind[iO.fail]
 rw[bf h0];rw[ox h0,show x=(0,x.2) from fV h0 rfl]at rb;by_cases x1:x.2<1
 .rw[au (λe=>by grind[vX])];refine du (Gt J o W rb h6 x1) λw' i=>?_;grind[iO.fail]
 by_cases x2:(m.nt:Int)<x.2
 .rw[au (λe=>by grind[vX,D.eF.nt])];refine du (Gs J o W rb h6 x1 x2) λw' i=>?_;grind[iO.fail]
 by_cases x3:x.2=(t:Int)
 .rw[au (λe=>e.2 x3)];refine du (Gr J o W rb h6 x1 x2 x3) λw' i=>?_;grind[iO.fail]
 rw[bf ⟨by grind[vX,D.eF.nt],x3⟩];obtain⟨z,hz⟩:∃z:Nat,x.2=(z:Int)+1:=⟨x.2.toNat-1,ag⟩;have a3:x.2.toNat-1=z:=ag
 rw[a3];rw[hz]at rb x1 x2 x3 ⊢;have a0:z<m.nt:=ag
 have a1:mY m (z+1):=⟨ag,ag⟩;have G:=(iG hS (z+1)).1 a1;obtain⟨g1,g6,g7⟩:=oV.ge h hQ a1;rw[dC]at g1 g6 g7;have Z:z+1≠t:=ag
 cases hf:gW s ((z:Int)+1) with
 | some u=>
  obtain⟨a4,a6⟩:=jM hf;have hu:u=z+1:=ag
  subst hu;refine(D2 (R:=λw'=>iO p d K s t m g w 0 (s.wait 5 (z+1) t (18,a,b,c)) (-1) w') J o W rb h6 a0 H Z g1 (λe=>(hS.how hR.ok G).2 a4 ag) (λw1 i=>?_)).mono ?_
  .have hL:=Dl (how:=4) (what:=z+1) (into:=(a:Int)) (h.kept i) hQ.dt H (gp hS.B.2);rw[show(((z+1:Nat):Int))=(z:Int)+1 by omega]at hL;refine du hL λw' h1=>?_;refine⟨rfl,iO.stop (h1.ahead i) (hS.wait (x:=5) (y:=z+1) (k:=(18,a,b,c)) hR.ok hR.lv hR.wh (ah (ah (ah ⟨rfl,G⟩))) (ah rfl)) ?_⟩;unfold Pl.wait;rw[di,jT];rfl
  rintro e w' ⟨rfl,h1⟩;exact⟨-1,rfl,h1⟩
 | none=>
  have a2:=hS.O (z+1) G (λhm=>uQ hf hm ag);rw[a2.1]at g1;refine du (D3 J o W rb h6 a0 H Z g1 g6 g7) λw' i=>?_;refine⟨0,rfl,hQ.goes h hS hR a ?_ ?_⟩
  .by_cases hl:z<s.out.length
   .rw[cr,bz hl];exact(hR.ok.ok _ (List.getElem_mem hl)).elim (λe=>af e) (λe=>dW.root (ah e))
   rw[cr,dK ag];exact dW.num 0
  have:tr ρ (s.out.getD z (0,0))=(m.T (z+1)).out:=a2.2.2.symm;rw[this];exact i
omit hP in
theorem LU(Y:a<nr)(G:b<nr):Calls prog 215 #[P0 g.mb,aj (t:Int),dA (g.rb t n) nr nr,jn 21 a b c] w λe w'=>∃v:Int,e=.returned (aj v)/\iO p d K s t m g w (kJ s t (21,a,b,c)).1 (kJ s t (21,a,b,c)).2 v w':=by
 have gb:dW p s ((bw s t).R b):=hR.nM (eV hQ.r2 G);have Z:=hQ.rc Y;have rb:=hQ.rc G;have hA:kJ s t (21,a,b,c)=(if((bw s t).R b).1=0 then(if 0<=((bw s t).R b).2/\((bw s t).R b).2<4 then(0,match s.ft ((bw s t).R b).2.toNat with|x :: bs=>(s.fO ((bw s t).R b).2.toNat bs).dJ t (de s t) ((bw s t).set a (0,(x:Int)))|[]=>s.wait 4 ((bw s t).R b).2.toNat t (21,a,b,c)) else(8,s)) else(1,s)):=rfl;rw[hA];generalize (bw s t).R b=x at *;by_cases H:x.1=0
 case neg=>
  rw[au H];refine du (AR (ah rfl) Y G Z rb (λe=>H ((ti hR.ok hS gb).1.1 e))) λw' u=>?_;grind[iO.fail]
 rw[bf H];rw[ox H]at rb;by_cases x1:0<=x.2/\x.2<4
 case neg=>
  rw[au x1];refine du (Gm Y G Z rb H ag) λw' u=>?_;grind[iO.fail]
 rw[bf x1];rw[show x=(0,x.2) from fV H rfl]at rb;obtain⟨k,hk⟩:∃k:Nat,x.2=(k:Int):=⟨x.2.toNat,ag⟩;have a0:x.2.toNat=k:=ag
 rw[a0];rw[hk]at rb;have o:k<4:=ag
 cases hb0:s.ft k with
 | nil=>
  have W:=(h.bc o).1;have a2:(m.ft k).length=0:=by rw[hS.xL,hb0];rfl
  rw[show je m g 10 k=.slice (g.ro 10 k).1 0 (g.ro 10 k).2 by unfold je;show Value.slice _ (m.ft k).length _=_;rw[a2]]at W;refine(DY (R:=λw'=>iO p d K s t m g w 0 (s.wait 4 k t (21,a,b,c)) (-1) w') Y G Z rb o W (λw1 u=>?_)).mono ?_
  .refine du (Dl (how:=3) (what:=k) (into:=(a:Int)) (h.kept u) hQ.dt ((hS.small hR.ok).1) (gp hS.B.2)) λw' J=>?_;refine⟨rfl,iO.stop (J.ahead u) (hS.wait (x:=4) (y:=k) (k:=(21,a,b,c)) hR.ok hR.lv hR.wh (ah (ah (af ⟨rfl,o⟩))) (af rfl)) ?_⟩;unfold Pl.wait;rw[di,jT];rfl
  grind
 | cons y bs=>
  obtain⟨bb,off,cap,c1,c2,c3,c4,c5,c6,hT⟩:=h.NK o (by rw[hS.xL,hb0]);have W:=h.bc o;rw[c1]at W;refine du (DZ Y G Z rb o W c6 ((hR.ok.bt k).2 y eR) c2 (h.M.ne hQ.F ek) c4 (c5 t n hQ.dt hQ.hi)) λw' u=>?_;have J:=hT.r.se (t:=t) (i:=n) hQ.dt hQ.hi a (0,(y:Int));have h2:=(hS.fO k bs).oK (t:=t) hR.lv hR.fw.n1 a (v:=(0,(y:Int))) (dW.num _);rw[oZ,show qd (m.fO k bs) t=n from hQ.tp,show pS (m.fO k bs) t=fU m t n from hQ.tf]at h2;exact⟨0,rfl,iO.go ((hT.trans J).kept u) h2 ((gI (s.fO k bs) t (de s t) t _).2.2.1.trans hR.run)⟩
end
end D
namespace D
open F
variable {p:dL}{d:Dp}{K:Nat}{s s':Pl}{m m':Dm}{g g':Dg}{w w':aa}{ρ ρ':Nat → Nat}{t tb fb n nr a b c:Nat}{why:Int}
section
variable (hP:PD p d)(hG:∀ f, f < p.nf → 2 ≤ p.rg f ∧ p.rg f ≤ 8)(h:dZ d m g w)(hS:eF p K s m ρ)(hR:Rn p s t)(hQ:oV p d s m g w ρ t tb fb n nr)(hK:K < 900000000)(hn1:s.nt + 1 ≤ 500000000)
include hP hG h hS hR hQ hK hn1
omit hn1 in
theorem LZ(ha:a<nr)(hb:b<nr)(hc:c<nr)(hi:kM p s t (15,a,b,c) why s'):Calls prog 227 #[P0 g.mb,aj (t:Int),dA (g.rb t n) nr nr,jn 15 a b c] w λe w'=>∃v:Int,e=.returned (aj v)/\iO p d K s t m g w why s' v w':=by
 have hi:why=kG (fz s ((bw s t).R b)).2.2 s.lv.length p.mt/\s'=lV p s t (15,a,b,c):=hi;obtain⟨rfl,rfl⟩:=hi;have gb:=hR.nM (eV hQ.r2 hb);have gc:dW p s ((bw s t).R c):=hR.nM (eV hQ.r2 hc);have rb:=hQ.rc hb;have rc:=hQ.rc hc;have hE:lV p s t (15,a,b,c)=if(fz s ((bw s t).R b)).2.2=true/\s.lv.length≠p.mt then(s.born (fz s ((bw s t).R b)).1 ((bw s t).R c) (fz s ((bw s t).R b)).2.1).dJ t (de s t) ((bw s t).set a (0,((s.nt+1:Nat):Int))) else s:=rfl
 rw[hE];generalize hx:(bw s t).R b=x at *;generalize hy:(bw s t).R c=y at *;have a5:(fz s x).2.2=false->Calls prog 227 #[P0 g.mb,aj (t:Int),dA (g.rb t n) nr nr,jn 15 a b c] w (λe w'=>e=.returned (aj 4)/\w.grownBy w' none)->Calls prog 227 #[P0 g.mb,aj (t:Int),dA (g.rb t n) nr nr,jn 15 a b c] w λe w'=>∃v:Int,e=.returned (aj v)/\iO p d K s t m g w (kG (fz s x).2.2 s.lv.length p.mt) (if(fz s x).2.2=true/\s.lv.length≠p.mt then(s.born (fz s x).1 y (fz s x).2.1).dJ t (de s t) ((bw s t).set a (0,((s.nt+1:Nat):Int))) else s) v w':=λhf H=>by
  refine du H λw' W=>?_;rw[au (λe=>by grind),hf];exact⟨4,rfl,iO.fail h W hS (show(0:Int)<4 by omega)⟩
 by_cases h0:x.1=0
 .refine a5 (by unfold fz;grind) ?_;rw[ox h0]at rb;have r0:=rb.1;rw[h0]at r0;grind[ym]
 obtain⟨z,cb,hC⟩:=hS.NO h hR.ok gb h0;rw[hC.ev]at rb;have Y:Ky w g.mb (g.rb t n) nr b c z cb m.nc (g.ro 3 0).2 (g.sb (z+1)) (s.M x.1).length 0 ((s.ck x.1:Int)-1) (0,0) (0,0):=⟨hb,hc,hC.l,gp hS.B.1,rb.1,rb.2.1,hC.CF,hC.k0,hC.k1,hQ.F.lt,h.M.lt,an w _ hC.k0⟩;by_cases hk:s.ck x.1=0
 .refine a5 (by unfold fz;grind) ?_;grind[yl,decide]
 have a0:fz s x=(s.ck x.1-1,(s.M x.1).getD 0 (0,0),true):=by unfold fz;rw[au (λe=>e.elim h0 hk)]
 obtain⟨G,a2⟩:=pP hR.ok gb (by rw[a0]);have aB:1<=(s.M x.1).length:=by
  have:(s.M x.1).length≠0:=λe=>((hS.C _ (B.pR.vO gb h0)).f hk) (db.1 e);omega
 rw[a0]at G a2;rw[show((s.ck x.1:Int)-1)=((s.ck x.1-1:Nat):Int) by omega]at Y;have rs:=hC.sl 0 ag;rw[a0];simp only at G a2;generalize aO:s.ck x.1-1=ff at *;generalize aM:(s.M x.1).getD 0 (0,0)=u at *;have J:∀w1,w.grownBy w1 none->dD 77 #[P0 g.mb] w1 (aj (s.lv.length:Int)) λw'=>w1.grownBy w' none:=λw1 W=>by
  refine(Ez (h.kept W) (by have:=hQ.dt.1;have:=hQ.dt.2;omega)).mono ?_;rintro e w' ⟨N,rfl,_,aA,aD⟩;rw[hS.live hR.ok aA];exact⟨rfl,aD⟩
 have h4:dS w g.mb 4=some (aj (p.mt:Int)):=by rw[<-hP.mt];exact(h.mc 4 ag rfl).1
 have aN:=hS.lm;by_cases hm:s.lv.length=p.mt
 .refine du (Gi Y J h4 ag) λw' W=>?_;rw[au (λe=>e.2 hm)];refine⟨7,rfl,?_⟩;show iO p d K s t m g w (kG true s.lv.length p.mt) s 7 w';rw[show kG true s.lv.length p.mt=7 by unfold kG;rw[au im,bf hm]];exact iO.fail h W hS ag
 rw[bf ⟨rfl,hm⟩];have aI:kG true s.lv.length p.mt=0:=by unfold kG;rw[au im,au hm]
 have a9:=hP.rg ff G;have a7:=hG ff G;have ht:=hQ.dt;have a1:(m.born ff (tr ρ y) (tr ρ u)).T t=m.T t:=au ag;have aH:fU (m.born ff (tr ρ y) (tr ρ u)) t n=fU m t n:=by unfold fU;rw[a1]
 have a3:mY (m.born ff (tr ρ y) (tr ρ u)) t:=⟨ht.1,Nat.le_succ_of_le ht.2⟩;have a8:n<((m.born ff (tr ρ y) (tr ρ u)).T t).fr.length:=eV a1 hQ.hi
 refine(DN (R:=λw'=>∃g',Tr d m g w (m.born ff (tr ρ y) (tr ρ u)) g' w'/\zx m g g') (qq:=(m.nt:Int)+1) Y ha rc rs aB hC.l8 J h4 ag (λw1 W=>?_)).mono ?_
 .refine du (DP (h.kept W) (eV hP.nf G) (eV a9 a7.1) (eV a9 a7.2) (hS.small hR.ok).1 (hS.small hR.ok).2) ?_;rintro w' ⟨g',h6,hB⟩;refine⟨rfl,⟨g',h6.ahead W,hB⟩,λj aJ aK=>h6.o.same aK (h.fresh aJ),?_⟩;have a4:=h6.r.R (t:=t) (i:=n) a3 a8;rw[aH,hB.1 t n ht.2,hQ.r1]at a4;exact⟨_,Jn a4 ha⟩
 rintro e w' ⟨rfl,w4,⟨g',h6,hB⟩,W⟩;have h8:=h6.r.se (t:=t) (i:=n) a3 a8 a (0,(m.nt:Int)+1);rw[hB.1 t n ht.2]at h8
 have Z:=D.qz s ff y u (t:=t) (gp hR.ht.2);obtain⟨b1,_,_,_⟩:=tQ s ff y u;have aC:=hS.born (f:=ff) hR.ok ag gc a2;have a6:=aC.oK (t:=t) (by rw[b1];exact eM _ hR.lv) (eV Z hR.fw.n1) a (v:=(0,((s.nt+1:Nat):Int))) (dW.num _);have e1:de (s.born ff y u) t=de s t:=by unfold de;rw[Z]
 have e2:bw (s.born ff y u) t=bw s t:=by unfold bw;rw[e1];exact gD (by rw[Z])
 have e3:qd (m.born ff (tr ρ y) (tr ρ u)) t=n:=by
  have:=hQ.tp;unfold qd at this ⊢;rw[a1];exact this
 have e4:pS (m.born ff (tr ρ y) (tr ρ u)) t=fU (m.born ff (tr ρ y) (tr ρ u)) t n:=by unfold pS;rw[e3]
 have e5:tr ρ (0,((s.nt+1:Nat):Int))=(0,(m.nt:Int)+1):=by
  rw[ox rfl,hS.nt,Int.natCast_add];rfl
 rw[e1,e2,e3,e4,e5]at a6;refine⟨0,rfl,?_⟩;show iO p d K s t m g w (kG true s.lv.length p.mt) _ 0 w';rw[aI];refine iO.go ((h6.trans h8).kept W) a6 ((gI (s.born ff y u) t (de s t) t _).2.2.1.trans ?_);rw[Z];exact hR.run
theorem JQ(hN:Ng s)(he:m.ev.length<=100000){k:F.vF}(hk:Kt p (bw s t).f k)(hi:kM p s t k why s'):Calls prog 194 #[P0 g.mb,aj t,dA (g.rb t n) nr nr,jn k.1 k.2.1 k.2.2.1 k.2.2.2] w λe w'=>∃v:Int,e=.returned (aj v)/\iO p d K s t m g w why s' v w':=by
 obtain⟨i,a,b,c⟩:=k;obtain⟨k0,ka,J,G,u,rb,rc,k7,k9,a1⟩:=hk;rw[hQ.r2]at u rb rc;simp only at k0 ka J G u rb rc k7 k9 a1 ⊢;have W:∀o,(o=13\/o=15\/o=17\/o=18\/o=19\/o=21)->(∀w1,w.grownBy w1 none->dZ d m g w1->oV p d s m g w1 ρ t tb fb n nr->Calls prog 215 #[P0 g.mb,aj t,dA (g.rb t n) nr nr,jn o a b c] w1 λe w'=>∃v:Int,e=.returned (aj v)/\iO p d K s t m g w1 why s' v w')->Calls prog 194 #[P0 g.mb,aj t,dA (g.rb t n) nr nr,jn o a b c] w λe w'=>∃v:Int,e=.returned (aj v)/\iO p d K s t m g w why s' v w':=λo ho H=>
  Jb ho J G (λw1 Z=>(H w1 Z (h.kept Z) (hQ.kept h Z)).mono (λe w' hh=>by
   grind[D.iO.ahead]))
 have hc:=oU 22 i ag;repeat' rcases hc with rfl|hc
 .obtain⟨rfl,rfl⟩:=hi;grind[Ow]
 .obtain⟨rfl,rfl⟩:=hi;grind[Ov]
 .exact Hh h hS hR hQ ag (u ag ag) (rb ag) (rc ag) J G hi
 .exact Hh h hS hR hQ ag (u ag ag) (rb ag) (rc ag) J G hi
 .exact Hh h hS hR hQ ag (u ag ag) (rb ag) (rc ag) J G hi
 .exact Hh h hS hR hQ ag (u ag ag) (rb ag) (rc ag) J G hi
 .obtain⟨rfl,rfl⟩:=hi;grind[Ou]
 .obtain⟨rfl,rfl⟩:=hi;grind[Ot]
 .obtain⟨rfl,rfl⟩:=hi;grind[Oq]
 .obtain⟨rfl,hm⟩:=hi;grind[Oo]
 .exact Nx h hS hR hQ hK (u ag ag) (rb ag) (rc ag) J G hi
 .exact Nv h hS hR hQ hK (u ag ag) (rb ag) (rc ag) J G hi
 .obtain⟨rfl,hm⟩:=hi;exact Nu hP hG h hS hR hQ hK (u ag ag) (rc ag) J G hm
 .exact W 13 ag (λw1 Z Y y=>L4 hP Y hS hR y hK hG hn1 (u ag ag) (rb ag) (rc ag) hi)
 .obtain⟨rfl,rfl⟩:=hi;exact Nt hP h hS hR hQ (u ag ag) J G he
 .exact W 15 ag (λw1 Z Y y=>N6 ag (λw2 a0=>(LZ hP hG (Y.kept a0) hS hR (y.kept Y a0) hK (u ag ag) (rb ag) (rc ag) hi).mono (λe w' hh=>by
   obtain⟨v,e1,e2⟩:=hh;exact⟨v,e1,e2.ahead a0⟩)))
 .obtain⟨rfl,rfl⟩:=hi;exact Ns h hS hR J G
 .obtain⟨rfl,rfl⟩:=hi;exact W 17 ag (λw1 Z Y y=>LY Y hS hR y hK (hN.at t _ a) (u ag ag))
 .obtain⟨rfl,rfl⟩:=hi;exact W 18 ag (λw1 Z Y y=>LX Y hS hR y hK (u ag ag) (rb ag))
 .obtain⟨rfl,rfl⟩:=hi;exact W 19 ag (λw1 Z Y y=>LV hP Y hS hR y he (u ag ag))
 .obtain⟨rfl,rfl⟩:=hi;exact Nr h hS hR hQ (u ag ag) J G he
 .obtain⟨rfl,rfl⟩:=hi;exact W 21 ag (λw1 Z Y y=>LU Y hS hR y hK (u ag ag) (rb ag))
 obtain⟨rfl,rfl⟩:=hi;exact Nq h hS hR hQ (u ag ag) J G
end
end D
namespace D
open F
def FM(p:dL)(d:Dp)(K:Nat)(s':Pl)(t:Nat)(m:Dm)(g:Dg)(w w':aa):Prop:=
 ∃m' g' ρ',Tr d m g w m' g' w'/\eF p (K+p.qn) (if(s'.T t).run=true then s'.dY 2 0 t else s') m' ρ'
structure vi(p:dL) (d:Dp) (K:Nat) (s s':Pl) (t:Nat) (m:Dm) (g:Dg) (w:aa) (I:Nat) (s1:Pl) (m1:Dm) (g1:Dg) (ρ1:Nat->Nat) (wr:aa):Prop where
 tr:Tr d m g w m1 g1 wr
 si:eF p (K+I) s1 m1 ρ1
 rn:Rn p s1 t
 ng:Ng s1
 nt:s1.nt<=s.nt+I
 ev:s1.ev.length<=s.ev.length+I
 rr:iu p t (p.qn-I) s1 s'
structure RunT(p:dL) (d:Dp) (K:Nat) (s s':Pl) (t:Nat) (m:Dm) (g:Dg) (w:aa) (I:Nat) (s1:Pl) (m1:Dm) (g1:Dg) (ρ1:Nat->Nat) (k:F.vF) (wr:aa):Prop where
 tr:Tr d m g w m1 g1 wr
 si:eF p (K+I) s1 m1 ρ1
 rn:Rn p s1 t
 ng:Ng s1
 nt:s1.nt<=s.nt+I
 ev:s1.ev.length<=s.ev.length+I
 ok:Kt p (bw s1 t).f k
 rr:∃why s3,kM p s1 t k why s3/\iu p t (p.qn-(I+1)) (if why=0 then s3 else s3.leave t (0,-why) 3 why) s'
def MH(p:dL)(d:Dp)(K:Nat)(s':Pl)(t:Nat)(m:Dm)(g:Dg)(w w':aa):Prop:=
 ∃s1 m1 g1 ρ1,Tr d m g w m1 g1 w'/\eF p (K+p.qn) s1 m1 ρ1/\t∈s1.lv/\s1.ev.length<=100000/\∃kd1,s'=(s1.vk kd1).mf t
def IS(p:dL)(d:Dp)(K:Nat)(s':Pl)(t:Nat)(m:Dm)(g:Dg)(w:aa)(v:Int)(w':aa):Prop:=
 ∃s1 m1 g1 ρ1,Tr d m g w m1 g1 w'/\eF p (K+p.qn) s1 m1 ρ1/\Rn p s1 t/\s1.ev.length<=100000/\s'=s1.leave t (0,-v) 3 v
def IT(p:dL)(d:Dp)(K:Nat)(s s':Pl)(t:Nat)(m:Dm)(g:Dg)(w:aa)(I:Nat)(v:Int)(w':aa):Prop:=
 (v=0/\∃s1 m1 g1 ρ1,vi p d K s s' t m g w (I+1) s1 m1 g1 ρ1 w')\/(v=-1/\FM p d K s' t m g w w')\/(v=-2/\MH p d K s' t m g w w')\/(0<v/\v<=8/\IS p d K s' t m g w v w')
variable {p:dL}{d:Dp}{K:Nat}{s s' s1:Pl}{m m' m1:Dm}{g g' g1:Dg}{w w' wr:aa}{ρ ρ1:Nat → Nat}{t I:Nat}
section
variable (hP:PD p d)(hG:∀ f, f < p.nf → 2 ≤ p.rg f ∧ p.rg f ≤ 8)(hPI:PI p)(hK:K + p.qn < 900000000)(hn:s.nt + p.qn ≤ 500000000)(he:s.ev.length + p.qn ≤ 100000)
include hP hK hn he
omit hK hn in
theorem L9(h:vi p d K s s' t m g w I s1 m1 g1 ρ1 wr)(hI:I<p.qn)(hx:(bw s1 t).nx=p.len (bw s1 t).f): Calls prog 193 #[P0 g1.mb,aj (t:Int),.agg #[aj 0,aj 0]] wr λe w'=>∃y:Bool,e=.returned (.bool y)/\((y=true/\FM p d K s' t m g w w')\/(y=false/\∃G m2 g2 ρ2,vi p d K s s' t m g w I G m2 g2 ρ2 w'/\(G.T t).fr.length+1=(s1.T t).fr.length)):=by
 have u:=h.rr;obtain⟨k,H⟩:∃k,p.qn-I=k+1:=⟨p.qn-I-1,ag⟩;rw[H]at u;obtain⟨r1,r2⟩:=Ca h.rn hx u;have a0:=h.ev;have o:=IE (v:=(0,0)) hP h.tr.r h.si h.rn.ok h.rn.lv h.rn.wh (dW.num 0) (kr h.si.ev);rw[oZ]at o;refine du o ?_;rintro w' ⟨m',g',J,W⟩;refine⟨_,rfl,?_⟩;by_cases i:de s1 t=0
 .refine af ⟨fp i,m',g',ρ1,h.tr.trans J,?_⟩;rw[r1 i,au (by rw[oc h.rn i];decide)];grind[D.eF.mono]
 obtain⟨b1,Z,Y,b4⟩:=(nz s1 t (0,0)).2 i;obtain⟨k1,k2⟩:=h.rn.back i;refine ah ⟨eW i,_,m',g',ρ1,⟨h.tr.trans J,W,k1,h.ng.back t jE.z,eV Y h.nt,eR,?_⟩,k2⟩;grind
omit hP hK hn he in
include hPI in
theorem Lf(h:vi p d K s s' t m g w I s1 m1 g1 ρ1 wr){tb fb n nr:Nat}(hQ:oV p d s1 m1 g1 wr ρ1 t tb fb n nr)(hI:I<p.qn)(hx:(bw s1 t).nx≠p.len (bw s1 t).f)(Z:(wr.setCell (ay fb (n*4+2)) (jk ((fU m1 t n).nx+1:Nat))).grownBy w' none): ∃u,RunT p d K s s' t m g w I (s1.gF t) u g1 ρ1 (p.ins (bw s1 t).f (bw s1 t).nx) w'/\(u.T t).fr.length=(m1.T t).fr.length/\(fU u t n).f=(fU m1 t n).f:=by
 have o:=h.rr;obtain⟨k,H⟩:∃k,p.qn-I=k+1:=⟨p.qn-I-1,ag⟩;rw[H]at o;obtain⟨why,s3,i1,i2⟩:=B9 h.rn hx o;obtain⟨W,Y⟩:=oy h.rn hx;have y:=h.rn.ff;have i:(fU m1 t n).nx=(bw s1 t).nx:=by
  have:=((h.si.T t h.rn.lv).f n (by rw[<-(h.si.T t h.rn.lv).l];exact hQ.hi)).nx;rw[show bw s1 t=dq s1 t n by unfold bw;rw[hQ.hn]];exact this
 have G:=h.si.nx h.rn.lv h.rn.fw.n1 ((bw s1 t).nx+1);rw[hQ.tp,hQ.tf,<-i]at G;refine⟨_,⟨h.tr.trans ((h.tr.r.Ir hQ.dt hQ.T ((fU m1 t n).nx+1)).kept Z),?_,W,h.ng.gF t,h.nt,h.ev,?_,why,s3,i1,?_⟩,lO m1 t n _ t,?_⟩
 .have e:s1.gF t=s1.dJ t (de s1 t) { bw s1 t with nx:=(fU m1 t n).nx+1 }:=by unfold Pl.gF;rw[i]
  grind
 .rw[Y];exact hPI _ y.1 _ ag
 .grind
 rw[nP m1 _ hQ.hi,bf ⟨rfl,rfl⟩]
include hG
theorem LS{k:F.vF}(h:RunT p d K s s' t m g w I s1 m1 g1 ρ1 k wr){tb fb n nr:Nat}(hQ:oV p d s1 m1 g1 wr ρ1 t tb fb n nr)(hI:I<p.qn): Calls prog 194 #[P0 g1.mb,aj t,dA (g1.rb t n) nr nr,jn k.1 k.2.1 k.2.2.1 k.2.2.2] wr λe w'=>∃v:Int,e=.returned (aj v)/\IT p d K s s' t m g w I v w':=by
 obtain⟨why,s3,i1,u⟩:=h.rr;have a2:=h.nt;have a1:=h.ev;obtain⟨o1,Z⟩:=Bk h.rn ag h.ok i1;have hw:=px h.ok.1 i1;have J:=Z.nt;have a0:=Z.Oy;refine(JQ hP hG h.tr.r h.si h.rn hQ ag ag h.ng (kr h.si.ev) h.ok i1).mono ?_;rintro e w' ⟨v,rfl,ρ',m',g',H,h2⟩;refine⟨v,rfl,?_⟩;rcases h2 with⟨rfl,rfl,⟨o,rfl⟩,G⟩|⟨G,⟨hv,rfl⟩|⟨rfl,rfl,i⟩|⟨rfl,rfl,i⟩⟩
 .rw[bf rfl]at u;have i:(((s1.vk o).mf t).T t).run=false:=by
   show(((s1.vk o).dx t ((s1.vk o).T t).stop).T t).run=false;rw[di];rfl
  exact ah (ah (af ⟨rfl,s1,m',g',ρ',h.tr.trans H,G.mono ag,h.rn.lv,ag,o,pF u i⟩))
 .have y:why≠0:=ag;rw[au y]at u;have e3:=hw.2.2 y;subst e3;have i:((s3.leave t (0,-why) 3 why).T t).run=false:=by
   rw[tK h.rn.ok.lw h.rn.ht];rfl
  exact ah (ah (ah ⟨hv,hw.2.1,s3,m',g',ρ',h.tr.trans H,G.mono ag,h.rn,ag,pF u i⟩))
 .rw[bf rfl]at u;have Y:t∈s3.lv:=(o1.rn t ⟨h.rn.ht.1,dU h.rn.ht.2 J.1⟩ i).2;exact af ⟨rfl,s3,m',g',ρ',h.tr.trans H,G.mono ag,⟨o1,Y,i⟩,h.ng.inst h.rn ag h.ok i1,ag,ag,u⟩
 rw[bf rfl]at u;have e:=pF u i;subst e;refine ah (af ⟨rfl,m',g',ρ',h.tr.trans H,?_⟩);rw[au eR];grind[D.eF.mono]
omit hG hK hn he hP in
theorem dZ.AO(h:dZ d m g w):Tr d m g w m.AO g (w.setCell (ay g.mb 14) (.bool true)):=h.yh 14 _ ⟨rfl,rfl,rfl,rfl,rfl,rfl,rfl,rfl⟩ (λi hi=>by
 have e:=oU 23 i ag;rcases e with rfl|rfl|rfl|rfl|rfl|rfl|rfl|rfl|rfl|rfl|rfl|rfl|rfl|rfl|rfl|rfl|rfl|rfl|rfl|rfl|rfl|rfl|rfl|rfl<;>rfl)
omit hG hK hn he hP in
theorem Ni(h:MH p d K s' t m g w wr):eL 195 #[P0 g.mb,aj 5,aj (t:Int),aj 0] wr λw'=>(∃v,w'.cell? (ay g.mb 14)=some v)/\w'.frozen? (ay g.mb 14)=false/\FM p d K s' t m g w (w'.setCell (ay g.mb 14) (.bool true)):=by
 obtain⟨s1,m1,g1,ρ1,o,W,h3,Z,i,rfl⟩:=h;have H:=DD 5 t 0 o.r (eV W.ev Z);rw[o.b]at H;refine du H ?_;rintro w' ⟨g',u⟩;have J:=u.b.trans o.b;have y:=u.r.mc 14 ag rfl;rw[J]at y;have G:=u.r.AO;rw[J]at G;refine⟨rfl,⟨_,y.1⟩,y.2,_,g',ρ1,(o.trans u).trans G,?_⟩;have Y:(((s1.vk i).mf t).T t).run=false:=by
  show(((s1.vk i).dx t ((s1.vk i).T t).stop).T t).run=false;rw[di];rfl
 rw[au eR];exact(W.vk i).mf h3
omit hG hK hn he in
theorem Mi{v:Int}(h:IS p d K s' t m g w v wr):eL 196 #[P0 g.mb,aj (t:Int),aj 3,aj v,.agg #[aj 0,aj (-v)]] wr λw'=>FM p d K s' t m g w w':=by
 obtain⟨s1,m1,g1,ρ1,o,G,i,W,rfl⟩:=h;have y:=EF (u:=t) (kind:=3) (x:=v) (v:=(0,-v)) hP o.r G i.ok i.lv (dW.num _) (eV G.ev W);rw[oZ,o.b]at y;refine du y ?_;rintro w' ⟨m',g',J,H⟩;refine⟨rfl,m',g',ρ1,o.trans J,?_⟩;rw[au (λe=>by rw[tK i.ok.lw i.ht]at e;cases e)];exact H
end
end D
namespace D
open F
variable {p:dL}{d:Dp}{K:Nat}{s s' s1:Pl}{m m' m1:Dm}{g g' g1:Dg}{w w' wr:aa}{ρ ρ1:Nat → Nat}{t I:Nat}
def NZ(wr wx:aa)(X ff rb nr nx bk:Nat):Prop:=wr.grownBy wx none/\wr.heap.size<=X/\wx.heap[X]? = some (.cells #[.int .i64 (ff:Int),.slice (some ⟨rb,0,none⟩) nr nr,.int .i64 (nx:Int),.int .i64 (bk:Int)] 163 (0,0))
theorem Ox(wr:aa)(ff rb nr nx bk:Nat):NZ wr ((wr.alloc (.cells #[aj ff,dA rb nr nr,aj nx,aj bk] 163)).drew) wr.heap.size ff rb nr nx bk:=
 ⟨bo (ax (aw _ _) _),bq _,bl _ _⟩
theorem RunT.kept{e:aa}{k:F.vF}(h:RunT p d K s s' t m g w I s1 m1 g1 ρ1 k wr)(i:wr.grownBy e none):RunT p d K s s' t m g w I s1 m1 g1 ρ1 k e:={ h with tr:=h.tr.kept i }
theorem vi.kept{e:aa}(h:vi p d K s s' t m g w I s1 m1 g1 ρ1 wr)(i:wr.grownBy e none):vi p d K s s' t m g w I s1 m1 g1 ρ1 e:={ h with tr:=h.tr.kept i }
theorem M9(hP:PD p d)(hG:∀f,f<p.nf->2<=p.rg f/\p.rg f<=8)(hPI:PI p)(hK:K+p.qn<900000000)(hn:s.nt+p.qn<=500000000)(he:s.ev.length+p.qn<=100000)(h:dZ d m g w)(hS:eF p K s m ρ)(hR:Rn p s t)(hN:Ng s)(hr:iu p t p.qn s s'): eL 145 #[P0 g.mb,aj t] w λw'=>FM p d K s' t m g w w':=by
 obtain⟨k,rfl⟩:∃k,t=k+1:=⟨t-1,gp hR.ht.1⟩;have H0:Hid (vi p d K s s' (k+1) m g w 0 s m g ρ w):=⟨Tr.refl h,hS,hR,hN,bq _,bq _,hr⟩;have cM:=hR.fw.n2;have HP:=bj hP;have HG:=bj hG;have cB:=bj hPI;have HK:=bj hK;have HN:=bj hn;have HE:=bj he;have a0:(((k+1:Nat)):Int)=(k:Int)+1:=ag
 clear hP hG hPI hn he h hS hR hN hr;generalize bC:g.mb=mb at *;have aJ:=bj bC;clear bC;delta eL;go_in;go_wp2_with fail
 go_loopg [4] (p.qn*22+21) (λN i wr=>∃(I:Nat),i=aj I/\I<=p.qn/\∃s1 m1 g1 ρ1,Hid (vi p d K s s' (k+1) m g w I s1 m1 g1 ρ1 wr/\(p.qn-I)*22+(s1.T (k+1)).fr.length<=N))
 case atStart=>exact⟨0,rfl,dk _,s,m,g,ρ,H0.out,ag⟩
 case round=>
  obtain⟨I,rfl,hI,s1,m1,g1,ρ1,a3⟩:=hrel;obtain⟨u,b9⟩:=a3.out;have G:=u.tr.b.trans aJ.out;have c2:wr.cell? ⟨mb,2,none⟩=some (aj p.qn):=by
   have:=(u.tr.r.mc 2 ag rfl).1;rw[G]at this;rw[<-HP.out.qn];exact this
  by_cases aP:I<p.qn
  .have bG:(I:Int)<p.qn:=ag;obtain⟨tb,fb,n,nr,hQ⟩:=Rn.run HP.out u.tr.r u.si u.rn;have j6:=hQ.T.c6;rw[G]at j6;have jt:=hQ.T.t0;rw[dC]at jt;have k0:=hQ.T.k0;have k1:=hQ.T.k1;rw[hQ.r1]at k1;have k2:=hQ.T.k2;have k3:=hQ.T.k3;have aV:=hQ.n20;have bS:k<m1.nt:=gp hQ.dt.2
   have bL:m1.nt<1000000000:=(u.si.small u.rn.ok).1;have q1:(0:Int)<=n:=ag
   have q2:(n:Int)<n+1:=ag;have q3:=fj (n:=n) ag;have q4:IntKind.i64.wrap (n:Int)=n:=iU
   have q5:=fj (n:=k) ag;have q6:IntKind.i64.wrap (k:Int)=k:=iU
   have q7:(0:Int)<=k:=ag;have q8:(k:Int)<m1.nt:=ag;have HQ:=bj hQ;have Y:Hid ((fU m1 (k+1) n).nx=(bw s1 (k+1)).nx/\(fU m1 (k+1) n).f=(bw s1 (k+1)).f):=by
    refine⟨?_,hQ.hf⟩;have:=((u.si.T (k+1) u.rn.lv).f n (by rw[<-(u.si.T (k+1) u.rn.lv).l];exact hQ.hi)).nx;rw[show bw s1 (k+1)=dq s1 (k+1) n by unfold bw;rw[hQ.hn]];exact this
   clear hQ u aV;generalize b4:(g1.ro 1 0).2=aO at *;generalize aU:(g1.ro 5 (k+1)).2=aH at *;generalize bF:(fU m1 (k+1) n).nx=nx at *;generalize H:(fU m1 (k+1) n).f=ff at *;generalize (fU m1 (k+1) n).bk.2.1=bk at *;generalize aY:g1.rb (k+1) n=rb at *;have aC:mb<wr.heap.size:=an wr _ j6;have aA:tb<wr.heap.size:=an wr _ jt;have a7:fb<wr.heap.size:=an wr _ k0;clear b4 aU;have HX:=bj (bh bF (bh H aY));clear bF H aY;go_wp2_with fail
   go_cut [5] (λq wx=>∃X:Nat,q=.pointer (some ⟨X,0,none⟩)/\Hid (NZ wr wx X ff rb nr nx bk))
   case first=>
    have aB:Hid (∀w',wr.grownBy w' none->w'.cell? ⟨mb,6,none⟩=some (.slice (some ⟨tb,0,none⟩) m1.nt aO)/\w'.cell? ⟨tb,k*8,none⟩=some (.slice (some ⟨fb,0,none⟩) (n+1) aH)/\w'.cell? ⟨fb,n*4,none⟩=some (aj ff)/\w'.cell? ⟨fb,n*4+1,none⟩=some (.slice (some ⟨rb,0,none⟩) nr nr)/\w'.cell? ⟨fb,n*4+2,none⟩=some (aj nx)/\w'.cell? ⟨fb,n*4+3,none⟩=some (aj bk)):=λw' hg=>⟨(bd hg (a:=⟨mb,6,none⟩) aC).1.trans j6,(bd hg (a:=⟨tb,k*8,none⟩) aA).1.trans jt,(bd hg (a:=⟨fb,n*4,none⟩) a7).1.trans k0,(bd hg (a:=⟨fb,n*4+1,none⟩) a7).1.trans k1,(bd hg (a:=⟨fb,n*4+2,none⟩) a7).1.trans k2,(bd hg (a:=⟨fb,n*4+3,none⟩) a7).1.trans k3⟩;go_region_held3 (λw'=>w'.cell? ⟨mb,6,none⟩=some (.slice (some ⟨tb,0,none⟩) m1.nt aO)/\w'.cell? ⟨tb,k*8,none⟩=some (.slice (some ⟨fb,0,none⟩) (n+1) aH)/\w'.cell? ⟨fb,n*4,none⟩=some (aj ff)/\w'.cell? ⟨fb,n*4+1,none⟩=some (.slice (some ⟨rb,0,none⟩) nr nr)/\w'.cell? ⟨fb,n*4+2,none⟩=some (aj nx)/\w'.cell? ⟨fb,n*4+3,none⟩=some (aj bk)) (first|exact aB.out _ (aw _ _)|exact aB.out _ (bo (aw _ _))|exact aB.out _ (ax (bo (aw _ _)) _)|exact aB.out _ (bu (bu (bu (bu (ax (bo (aw _ _)) _) (ah (bq _)) _) (ah (bq _)) _) (ah (bq _)) _) (ah (bq _)) _)) (fail)
    all_goals
     go_wp2_with fail
     go_meet
     case rel=>exact⟨_,rfl,Ox wr ff rb nr nx bk⟩
   case rest=>
    obtain⟨X,rfl,hF⟩:=hcut;obtain⟨g3,lX,hx⟩:=hF.out;have HF:=hF;have x0:wc.cell? ⟨X,0,none⟩=some (aj ff):=fy hx
    have a8:=bj (a3.out.1.kept g3);have aM:=bj (a8.out.tr.r);have H:ff<p.nf:=eV Y.out.2 a8.out.rn.ff.1
    have d0:wc.cell? ⟨mb,0,none⟩=some (.slice (some ⟨d.gb,0,none⟩) d.nf d.gc):=by
     have:=(aM.out.mc 0 ag rfl).1;rw[G]at this;exact this
    have d1:wc.cell? ⟨d.gb,ff*2+1,none⟩=some (.slice (some ⟨d.cb ff,0,none⟩) (d.len ff) (d.cc ff)):=by
     have c5:=aM.out.P.2.2;rw[c5.cell (ff*2+1) (kr HP.out.nf)];unfold Md;rw[au ag,show(ff*2+1) / 2=ff by omega]
    have cQ:(ff:Int)<d.nf:=kr HP.out.nf;have cD:nx<=d.len ff:=by
     have J:=a8.out.rn.ff.2;rw[<-Y.out.1,<-Y.out.2,<-HP.out.len ff H]at J;exact J
    clear g3 hx hF;go_wp2_with fail
    go_quiet (fail)
    have x2:wc.cell? ⟨X,2,none⟩=some (aj nx):=by
     have hx:=HF.out.2.2;simp[World.cell?,hx]
    have a6:Hid (vi p d K s s' (k+1) m g w I s1 m1 g1 ρ1 (wc.drewN nq)):=a8.out.kept (df (aw _ none) _);have Z:Hid (NZ wr (wc.drewN nq) X ff rb nr nx bk):=⟨df HF.out.1 _,HF.out.2.1,HF.out.2.2⟩;have b8:(wc.drewN nq).cell? ⟨X,2,none⟩=some (aj nx):=x2;clear x2 x0 d0 d1 a8 aM HF;generalize wc.drewN nq=W at *;by_cases hx:nx=d.len ff
    .have aS:=bj (L9 HP.out HE.out a6.out aP (by rw[<-Y.out.1,<-Y.out.2,<-HP.out.len ff H];exact hx));rw[G]at aS;go_wp2_with fail
     refine aS.out.mono ?_;rintro e w5 ⟨ov,rfl,aZ⟩;have b7:=bj aZ;clear aZ b8 aS Z
     cases ov with
     | true=>
      go_wp2_with fail
      refine dg (results_none rfl _ _ _) rfl ?_;rcases b7.out with⟨_,J⟩|⟨J,_⟩
      .exact⟨rfl,J⟩
      cases J
     | false=>
      go_wp2_with fail
      have bB:Hid (∃s2 m2 g2 ρ2,vi p d K s s' (k+1) m g w I s2 m2 g2 ρ2 w5/\(s2.T (k+1)).fr.length+1=(s1.T (k+1)).fr.length):=by
       rcases b7.out with⟨J,_⟩|⟨_,J⟩
       .cases J
       exact J
      obtain⟨s2,m2,g2,ρ2,h2,a4⟩:=bB.out;go_roundg ((p.qn-I)*22+(s2.T (k+1)).fr.length)
      case rel=>exact⟨I,rfl,hI,s2,m2,g2,ρ2,h2,bq _⟩
      case measure=>omega
    have bN:¬((nx:Int)=(d.len ff:Int)):=ag;have bD:nx<d.len ff:=ag;obtain⟨bM,a4,aL⟩:=a6.out.tr.r.K (f:=ff) (eV HP.out.nf H);have cF:nx<9223372036854775807:=by unfold maxLen at a4;omega
    have a2:=bj (HQ.out.kept a3.out.1.tr.r Z.out.1);have c8:=(bd Z.out.1 (a:=⟨mb,6,none⟩) aC).1.trans j6;have bQ:=(bd Z.out.1 (a:=⟨tb,k*8,none⟩) aA).1.trans jt;have bP:W.cell? ⟨fb,n*4+2,none⟩=some (aj nx):=(bd Z.out.1 (a:=⟨fb,n*4+2,none⟩) a7).1.trans k2;have bO:=a2.out.T.z 2 ag
    have q9:IntKind.i64.wrap ((I:Int)+1)=(I:Int)+1:=iU;have cG:IntKind.i64.wrap ((nx:Int)+1)=(nx:Int)+1:=iU;have aI:=bj aL;clear j6 jt k0 k1 k2 k3 bM a4 c2;go_wp2_with fail
    clear b8;go_cut [] (λwx=>Hid ((W.setCell ⟨fb,n*4+2,none⟩ (aj ((nx:Int)+1))).grownBy wx none))
    case first=>
     go_region
     all_goals
      go_wp2_with fail
      go_meet
      case rel=>first|exact(bo (aw _ _):World.grownBy _ _ _)|exact(aw _ _:World.grownBy _ _ _)
    case rest=>
     have aF:=hcut;clear hcut c8 bQ bP bO;have bE:(bw s1 (k+1)).nx≠p.len (bw s1 (k+1)).f:=by rw[<-Y.out.1,<-Y.out.2,<-HP.out.len ff H];exact hx
     obtain⟨m2,hT,a4,bH⟩:=Lf cB.out a6.out a2.out aP bE (w':=wc) (by
      rw[HX.out.1,show(((nx+1:Nat)):Int)=(nx:Int)+1 by omega];exact aF.out)
     obtain⟨cK,cS,n2,aG,a9⟩:=Rn.run HP.out hT.tr.r hT.si hT.rn;have en:n2=n:=by
      have J:=a9.T.l;rw[a4,a2.out.T.l]at J;omega
     subst en;have er:aG=nr:=by
      have J:=a9.r1;rw[bH,a2.out.r1]at J;exact J.symm
     subst er;have HI:=bj (LS HP.out HG.out HK.out HN.out HE.out (hT.kept (bo (aw wc none))) (a9.kept hT.tr.r (bo (aw wc none))) aP);rw[G,HX.out.2.2,<-Y.out.1,<-Y.out.2,a0]at HI;simp only[jn]at HI;have a1:=HP.out.ins ff nx H (by rw[<-HP.out.len ff H];exact bD);have aT:X≠fb:=ag
     have aK:=ch Z.out.2.2;have bA:=aI.out.lt;have b5:d.cb ff≠fb:=by
      have bZ:(ok d m1 g1 9 ff 0).bs (d.cb ff):=rfl;have bK:(ok d m1 g1 5 (k+1) 0).bs fb:=by
       show fi (g1.ro 5 (k+1)).1=some fb;rw[HQ.out.T.a];rfl
      exact a3.out.1.tr.r.ne (K5 (eV HP.out.nf H)) (rP HQ.out.dt.1 HQ.out.dt.2) bZ bK ag
     have aD:∀j o v,j≠fb->j<W.heap.size->W.cell? ⟨j,o,none⟩=some v->wc.cell? ⟨j,o,none⟩=some v:=λj o v hj hl hc=>by
      refine(bd aF.out (a:=⟨j,o,none⟩) (by simp[World.setCell];exact hl)).1.trans ?_;exact(az (a:=⟨j,o,none⟩) (ab W ⟨fb,n2*4+2,none⟩ _ j hj)).trans hc
     have y1:wc.cell? ⟨X,1,none⟩=some (.slice (some ⟨rb,0,none⟩) aG aG):=aD X 1 _ aT aK (by
      have hx:=Z.out.2.2;simp[World.cell?,hx])
     have y2:wc.cell? ⟨X,2,none⟩=some (aj nx):=aD X 2 _ aT aK (by
      have hx:=Z.out.2.2;simp[World.cell?,hx])
     have cd:∀j,j<4->wc.cell? ⟨d.cb ff,nx*4+j,none⟩=some (FZ d ff (nx*4+j)):=λj hj=>aD _ _ _ b5 bA (aI.out.cell (nx*4+j) ag);have e0:wc.cell? ⟨d.cb ff,nx*4,none⟩=some (aj ((p.ins ff nx).1:Int)):=by
      have h9:=cd 0 ag;unfold FZ at h9;rw[show(nx*4+0) / 4=nx by omega,bf ag,a1]at h9;exact h9
     have e1:wc.cell? ⟨d.cb ff,nx*4+1,none⟩=some (aj ((p.ins ff nx).2.1:Int)):=by
      have h9:=cd 1 ag;unfold FZ at h9;rw[show(nx*4+1) / 4=nx by omega,au ag,bf ag,a1]at h9;exact h9
     have e2:wc.cell? ⟨d.cb ff,nx*4+2,none⟩=some (aj ((p.ins ff nx).2.2.1:Int)):=by
      have h9:=cd 2 ag;unfold FZ at h9;rw[show(nx*4+2) / 4=nx by omega,au ag,au ag,bf ag,a1]at h9;exact h9
     have e3:wc.cell? ⟨d.cb ff,nx*4+3,none⟩=some (aj ((p.ins ff nx).2.2.2:Int)):=by
      have h9:=cd 3 ag;unfold FZ at h9;rw[show(nx*4+3) / 4=nx by omega,au ag,au ag,au ag,a1]at h9;exact h9
     have cJ:(nx:Int)<(d.len ff:Int):=ag;have cI:IntKind.i64.wrap (nx:Int)=nx:=iU;have cO:=a6.out.rn.fw.n2;generalize p.ins ff nx=kk at *;clear hT a9 a1 aD cd aI aF Z a2 a6 bH a4 bE aT aK bA b5 lX HQ Y;go_wp2_with fail
     go_cut [8] (λq wx=>∃v:Int,q=aj v/\Hid (IT p d K s s' (k+1) m g w I v wx))
     case first=>
      go_region_with (go_at_call 194;refine HI.out.mono ?_;rintro e w6 ⟨v,rfl,hA⟩;have HA:=bj hA;clear hA)
      all_goals
       go_wp2_with fail
       go_meet
       case rel=>exact⟨v,rfl,HA⟩
     case rest=>
      obtain⟨v,rfl,hA⟩:=hcut;clear HI y1 y2 e0 e1 e2 e3;rcases hA.out with⟨rfl,h0⟩|⟨rfl,J⟩|⟨rfl,h2⟩|⟨v1,v8,h3⟩
      .obtain⟨s2,bX,g2,ρ2,h2⟩:=h0;have cC:=h2.rn.fw.n2;have H2:=bj h2;clear h2 hA;go_wp2_with fail
       go_roundg ((p.qn-(I+1))*22+(s2.T (k+1)).fr.length)
       case rel=>exact⟨I+1,iA,ag,s2,bX,g2,ρ2,H2.out,bq _⟩
       case measure=>omega
      .have H1:=bj J;clear J hA;go_wp2_with fail
       refine dg (results_none rfl _ _ _) rfl ?_;exact⟨rfl,H1.out⟩
      .have HM:=bj (Ni h2);rw[aJ.out,a0]at HM;clear h2 hA;go_wp2_with fail
       refine HM.out.mono ?_;rintro e w7 ⟨rfl,⟨cP,cR⟩,cH,hE⟩;have aR:=bj hE;clear hE HM;go_wp2_with fail
       refine dg (results_none rfl _ _ _) rfl ?_;exact⟨rfl,aR.out⟩
      have HM:=bj (Mi HP.out h3);rw[aJ.out,a0]at HM;clear h3 hA
      have b3:IntKind.i64.wrap (-v)=-v:=iU;go_wp2_with fail
      refine HM.out.mono ?_;rintro e w7 ⟨rfl,hE⟩;have aR:=bj hE;clear hE HM;go_wp2_with fail
      refine dg (results_none rfl _ _ _) rfl ?_;exact⟨rfl,aR.out⟩
  have aW:I=p.qn:=ag;have bG:¬((I:Int)<p.qn):=ag;obtain⟨i0,hi,bW,bI,bY⟩:=info_parts Tryz.sr;have a5:=(iG u.si (k+1)).2 u.rn.ht;obtain⟨c7,z7⟩:=u.tr.r.mc 7 ag (v:=.slice (g1.ro 2 0).1 m1.q.length (g1.ro 2 0).2) rfl;rw[G]at c7 z7;obtain⟨tb,e1,hT,tc⟩:=u.tr.r.tc a5;have c6:wr.cell? ⟨mb,6,none⟩=some (.slice (some ⟨tb,0,none⟩) m1.nt (g1.ro 1 0).2):=by
   rw[show some (⟨tb,0,none⟩:Addr)=(g1.ro 1 0).1 by rw[e1],<-G];exact(u.tr.r.mc 6 ag rfl).1
  obtain⟨t1,z1⟩:=tc.c 1 ag;rw[dC]at t1 z1
  have bL:=(u.si.small u.rn.ok).1;have cL:=(u.si.small u.rn.ok).2
  have q5:=fj (n:=k) ag;have q6:IntKind.i64.wrap (k:Int)=k:=iU
  have q7:(0:Int)<=k:=ag;have q8:(k:Int)<m1.nt:=ag;have aC:mb<wr.heap.size:=an wr _ c6;have aA:tb<wr.heap.size:=an wr _ t1;have HQ:Hid (gd wr 3 (.slice (g1.ro 2 0).1 m1.q.length (g1.ro 2 0).2) (jJ m1.q)):=u.tr.r.Q;have aN:Hid (∀j,(Value.slice (g1.ro 2 0).1 m1.q.length (g1.ro 2 0).2).ownBlock=some j->j≠mb/\j≠tb/\j<wr.heap.size):=λj hj=>by
   have b6:fi (g1.ro 2 0).1=some j:=by rw[<-dF (g1.ro 2 0).1 m1.q.length (g1.ro 2 0).2];exact hj
   refine⟨?_,?_,HQ.out.lt j hj⟩
   .rw[<-G];exact u.tr.r.ne (x:=2) (y:=0) (z:=0) (x':=0) (y':=0) (z':=0) (oQ ag) rfl b6 rfl ag
   exact u.tr.r.ne (x:=2) (y:=0) (z:=0) (x':=1) (y':=0) (z':=0) (oQ ag) (oQ ag) b6 ((CZ d m1 e1 tb).2 rfl) ag
  have HL:=bj (jC m1.q);have bR:=bj (bh u (bh e1 a5));generalize tC (m1.T (k+1)) (je m1 g1 5 (k+1)) 1=o1 at t1;clear u hT tc e1 a5 a3;go_wp2_with (at_builtin;refine jf _ rfl (.tmp 118) (.tmp 120) 54 rfl 3 i0 _ 8 Tryz.jh hi bW bI bY rfl _ (jJ m1.q) rfl (HQ.out.block ?cq) _ _ (aj ((k:Int)+1)) rfl ?c1 rfl ?c3 ?c4 ?_)
  case cq=>
   intro j hj;exact av _ _ _ (aN.out j hj).2.2
  try case c1=>simp[go_sem]
  try case c3=>rw[HL.out];unfold maxLen;omega
  try case c4=>rw[HL.out];omega
  intro qb off cap w6 aQ hg aX;rw[HL.out]at aQ;have bJ:=bj aQ;have bT:=bj hg;have cA:=bj aX;have b0:w6.heap[mb]? = wr.heap[mb]?:=by rw[hg.block mb fH (λh=>(aN.out mb h.symm).1 rfl),av _ _ _ aC]
  have bt:w6.heap[tb]? = wr.heap[tb]?:=by rw[hg.block tb fH (λh=>(aN.out tb h.symm).2.1 rfl),av _ _ _ aA]
  have d7:=(az (a:=⟨mb,7,none⟩) b0).trans c7;have f7:=(dr (a:=⟨mb,7,none⟩) b0).trans z7;have d6:=(az (a:=⟨mb,6,none⟩) b0).trans c6;have d1:=(az (a:=⟨tb,k*8+1,none⟩) bt).trans t1;have f1:=(dr (a:=⟨tb,k*8+1,none⟩) bt).trans z1;clear aQ hg aX b0 bt c7 z7 c6 t1 z1;go_wp2_with fail
  go_end0;obtain⟨u,e1,a5⟩:=bR.out;have h0:=u.tr.kept (ax (aw wr none) (.cells #[aj ((k:Int)+1)] 3));have bU:gd w6 3 (.slice (some ⟨qb,off,none⟩) (m1.q.length+1) cap) (jJ m1.q++[jk ((k+1:Nat):Int)]):=eV a0 bJ.out
  have J:=Tr.sE (t:=k+1) (b:=qb) (off:=off) (c:=cap) h0 bU bT.out (cA.out.imp id (λe=>by rw[e];simp));have aE:=(u.si.T _ u.rn.lv).h.h0 u.rn.wh;have h2:=J.r.sK (t:=k+1) (tb:=tb) a5 (by rw[rp g1 _ ag];exact e1) 1 ag (aj 1) (x':=m1.T (k+1)) rfl (λj hj=>by
   have hc:j=0\/j=1\/j=2\/j=3\/j=4\/j=5\/j=6\/j=7:=ag;rcases hc with rfl|rfl|rfl|rfl|rfl|rfl|rfl|rfl
   .rfl
   .show jk ((m1.T (k+1)).how:Int)=_;rw[aE];rfl
   .rfl
   .rfl
   .rfl
   .rfl
   .rfl
   rfl)
  rw[dC]at h2;have h3:=J.trans h2;rw[G]at h3;have bV:s'=s1:=by
   have h9:=u.rr;rw[aW,Nat.sub_self]at h9;exact h9
  have h4:=u.si.join (x:=m1.T (k+1)) u.rn.ok u.rn.lv (by rw[u.rn.wh];intro e;cases e) ⟨rfl,rfl,rfl,aE⟩;refine⟨rfl,_,_,ρ1,eV HL.out h3,?_⟩;rw[bV,bf u.rn.run,<-aW];exact h4
end D
namespace D
open F
variable {p:dL}{d:Dp}{K:Nat}{s s':Pl}{m m':Dm}{g g':Dg}{w w':aa}{ρ:Nat → Nat}
theorem KP{b k:Nat}{l:List Nat}{v:B.V}(hP:PD p d)(h:dZ d m g w)(hS:eF p K s m ρ)(u:Ok p s)(Z:k<4)(hq:s.q 4 k=b :: l)(hv:dW p s v): eL 144 #[P0 g.mb,aj b,vA (tr ρ v)] w λw'=>∃m' g',Tr d m g w m' g' w'/\eF p K (s.gn b v) m' ρ:=by
 have hl:fN s 4 k:=ah (ah (af ⟨rfl,Z⟩));have y:b∈s.q 4 k:=by rw[hq];simp
 have o:=u.ql 4 k hl b y;obtain⟨H,J⟩:=u.lw.b 4 k hl b y;obtain⟨j,k1,k2,k3⟩:=u.ww b H 4 k J (af rfl);obtain⟨_,_,i,i1,i2⟩:=(hS.T b o).h.h4 k J;rw[k1]at i1;injection i1 with i1;subst i1;have Y:=hS.T b o;have G:=u.fw b o trivial;have W:(s.T b).fr.length≠0:=λe=>k2 (db.1 e);have a0:(pS m b).f=(dq s b ((s.T b).fr.length-1)).f:=by
  unfold pS qd;rw[Y.l];exact(Y.f _ ag).f
 refine(zV (tr ρ v) h ((iG hS b).2 H) (hS.small u).1 (hS.small u).2 (λ_=>⟨eV Y.l W,eV Y.l G.n2,?_⟩)).mono ?_
 .rw[i2,js,a0,hP.rg (dq s b ((s.T b).fr.length-1)).f (G.f ((s.T b).fr.length-1) ag).1];exact k3
 rintro e w' ⟨rfl,g',h'⟩;exact⟨rfl,_,g',h',hS.gn u o trivial k1 i2 hv⟩
abbrev Ku(z:Int)(y:Nat):Value:=.agg #[.int .i64 z,.int .u8 (y:Int)]
theorem JO{mb y:Nat}{z:Int}(hz:z<0):eL 142 #[P0 mb,Ku z y] w λw'=>w.grownBy w' none:=by
 delta eL;go_in;go_wp2
 refine dg (results_none rfl _ _ _) rfl ?_;exact⟨rfl,ax (aw _ _) _⟩
theorem JN{mb y:Nat}{z:Int}(i:¬z<0)(hz:3<z):eL 142 #[P0 mb,Ku z y] w λw'=>w.grownBy w' none:=by
 delta eL;go_in;go_wp2
 refine dg (results_none rfl _ _ _) rfl ?_;exact⟨rfl,ax (aw _ _) _⟩
theorem G5{mb y k b:Nat}{R:aa->Prop}(hk:k<4)(hy:y<256)(hb:b≠0)(J:∀w1,w.grownBy w1 none->dD 192 #[P0 mb,aj 3,aj k] w1 (aj b) λw'=>w1.grownBy w' none)(G:∀w1,w.grownBy w1 none->eL 144 #[P0 mb,aj b,.agg #[aj 0,aj y]] w1 λw'=>R w'):eL 142 #[P0 mb,Ku (k:Int) y] w λw'=>R w':=by
 have k1:¬((k:Int)<0):=ag;have k2:¬(3<(k:Int)):=ag;have a0:(0:Int)<b:=ag;have a1:IntKind.i64.wrap (y:Int)=y:=iU;delta eL;go_in;go_wp2_with fail
 refine du (bj (J _ (ax (aw w none) (.cells #[aj k,dy y] 169)))) λo i=>?_;have u:Hid (w.grownBy o none):=ar (ax (aw _ _) _) i;have b1:dS o w.heap.size 1=some (dy y):=by simp[World.cell?,da i (bl _ _) im]
 have Y:=bj ((bj G).out o u);go_wp2_with fail
 refine du Y λw6 hR=>?_;have HR:=bj hR;go_wp2
 go_end0;exact⟨rfl,HR⟩
theorem G6{mb y k n c:Nat}{ad:Option Addr}(hk:k<4)(hn:64<=n)(H:w.cell? (ay mb (8+k))=some (.slice ad n c))(W:∀w1,w.grownBy w1 none->dD 192 #[P0 mb,aj 3,aj k] w1 (aj 0) λw'=>w1.grownBy w' none):eL 142 #[P0 mb,Ku (k:Int) y] w λw'=>w.grownBy w' none:=by
 have k1:¬((k:Int)<0):=ag;have k2:¬(3<(k:Int)):=ag;have k3:(k:Int)<4:=ag;have k4:(0:Int)<=k:=ag;have Z:¬((n:Int)<64):=ag;delta eL;go_in;go_wp2_with fail
 refine du (bj (W _ (ax (aw w none) (.cells #[aj k,dy y] 169)))) λu i=>?_;have o:=bj (ar (ax (aw _ _) _) i);have b0:dS u w.heap.size 0=some (aj k):=by simp[World.cell?,da i (bl _ _) im]
 have c8:=(bd o (a:=ay mb (8+k)) (an w _ H)).1.trans H;go_wp2
 go_quiet (fail)
 go_wp2
 go_end0;exact⟨rfl,df o _⟩
theorem Tryz.JS:(prog.info? 5).map (λi=>(i.zero,i.size,i.bytes))=some (some (dy 0),1,1):=by kernel_rfl
theorem Tryz.underlying86:prog.underlying 86=some (.slice 5):=by kernel_rfl
def IU(w:aa)(mb k y n c:Nat)(ad:Option Addr)(xs:List Value)(w':aa):Prop:=
 ∃b off cap w1 w6,w.grownBy w1 none/\gd w6 5 (.slice (some ⟨b,off,none⟩) (xs.length+1) cap) (xs++[.int .u8 (y:Int)])/\w1.grownBy w6 (Value.slice ad n c).ownBlock/\((Value.slice ad n c).ownBlock=some b\/b=w1.heap.size)/\(w6.setCell ⟨mb,8+k,none⟩ (.slice (some ⟨b,off,none⟩) (xs.length+1) cap)).grownBy w' none
theorem JP{mb y k n c:Nat}{ad:Option Addr}{xs:List Value}(hk:k<4)(hn:n<64)(aL:xs.length<64)(h8:w.cell? (ay mb (8+k))=some (.slice ad n c)/\w.frozen? (ay mb (8+k))=false)(hq:gd w 5 (.slice ad n c) xs)(aC:∀j,(Value.slice ad n c).ownBlock=some j->j≠mb)(H1:∀w1,w.grownBy w1 none->dD 192 #[P0 mb,aj 3,aj k] w1 (aj 0) λw'=>w1.grownBy w' none):eL 142 #[P0 mb,Ku (k:Int) y] w λw'=>IU w mb k y n c ad xs w':=by
 obtain⟨i0,hi,aE,aB,a8⟩:=info_parts Tryz.JS;have k1:¬((k:Int)<0):=ag
 have k2:¬(3<(k:Int)):=ag
 have k3:(k:Int)<4:=ag
 have k4:(0:Int)<=k:=ag
 have aM:(n:Int)<64:=ag
 obtain⟨h8,y8⟩:=h8;have aI:mb<w.heap.size:=an w _ h8;have HQ:=bj hq;have a2:Hid (∀j,(Value.slice ad n c).ownBlock=some j->j≠mb/\j≠w.heap.size):=λj hj=>⟨aC j hj,by have:=hq.lt j hj;omega⟩;have HA:=bj (H1 _ (ax (aw w none) (.cells #[aj k,dy y] 169)));clear H1 hq aC;delta eL;go_in;go_wp2_with fail
 refine du HA λw5 a3=>?_;have a0:=bj (ar (ax (aw _ _) _) a3);have x5:=da a3 (bl _ _) eR;have aA:=bj x5;have aK:w5.cell? (ay w.heap.size 0)=some (aj k):=fy x5
 have aD:=(bd a0 (a:=ay mb (8+k)) aI).1.trans h8;have aH:=(bd a0 (a:=ay mb (8+k)) aI).2.trans y8;have a9:=bj aH;have aF:=bj aD;clear a3 x5 HA h8 y8 aH;go_wp2_with fail
 go_quiet (fail)
 go_wp2_with fail
 clear aK aD;have a5:Hid (w.grownBy (w5.drewN nq) none):=df a0 _;have c8:(w5.drewN nq).cell? (ay mb (8+k))=some (.slice ad n c):=aF;have z8:(w5.drewN nq).frozen? (ay mb (8+k))=false:=a9;have x5:(w5.drewN nq).heap[w.heap.size]? = some (.cells #[aj k,dy y] 169 (0,0)):=aA;clear aF a9 aA a0;generalize w5.drewN nq=W at *;have b0:W.cell? (ay w.heap.size 0)=some (aj k):=fy x5
 have b1:W.cell? (ay w.heap.size 1)=some (dy y):=fy x5
 have Z:=ch x5;have aG:mb<W.heap.size:=an W _ c8;have aJ:w.heap.size≠mb:=ag
 have a1:=bj (HQ.block (λj hj=>a5.block j (HQ.lt j hj) im));clear x5 HQ;have H:Hid (∀w':aa,w'.heap[w.heap.size]? = W.heap[w.heap.size]?->(λw'=>w'.cell? (ay w.heap.size 0)=some (aj k)/\w'.cell? (ay w.heap.size 1)=some (dy y)) w'):=λw' h2=>⟨(az (a:=ay w.heap.size 0) h2).trans b0,(az (a:=ay w.heap.size 1) h2).trans b1⟩;refine wp_region_held_drew (S:=(λw'=>w'.cell? (ay w.heap.size 0)=some (aj k)/\w'.cell? (ay w.heap.size 1)=some (dy y))) eX (H _ rfl) (λu=>?_);refine wpAnyH_take (i:=0) (v:=?v1) rfl eX eX eX (λ_ _ _ h=>h) (af ⟨by rfl,?hy1⟩) pZ ?rest1
 case hy1=>
  intro w' o;try dsimp only at o
  first|(go_simp;done)|(go_simp;with_reducible rfl)
 try simp only[Act.put,bm,cm,cn]
 refine wpAnyH_take (i:=1) (v:=?v2) rfl eX eX eX (λ_ _ _ h=>h) (af ⟨by rfl,?hy2⟩) pZ ?rest2
 case hy2=>
  intro w' o;try dsimp only at o
  first|(go_simp;done)|(go_simp;with_reducible rfl)
 try simp only[Act.put,bm,cm,cn]
 refine wpAnyH_take (i:=2) (v:=?v3) rfl eX eX eX (λ_ _ _ h=>h) (af ⟨by rfl,?hy3⟩) pZ ?rest3
 case hy3=>
  intro w' o;try dsimp only at o
  first|(go_simp;done)|(go_simp;with_reducible rfl)
 try simp only[Act.put,bm,cm,cn]
 refine wpAnyH_take (i:=3) (v:=?v4) rfl eX eX eX (λ_ _ _ h=>h) (af ⟨by rfl,?hy4⟩) pZ ?rest4
 case hy4=>
  intro w' o;try dsimp only at o
  first|(go_simp;done)|(go_simp;with_reducible rfl)
 try simp only[Act.put,bm,cm,cn]
 refine wpAnyH_take (i:=4) (v:=?v5) rfl eX eX eX (λ_ _ _ h=>h) (af ⟨by rfl,?hy5⟩) pZ ?rest5
 case hy5=>
  intro w' o;try dsimp only at o
  first|(go_simp;done)|(go_simp;with_reducible rfl)
 try simp only[Act.put,bm,cm,cn]
 refine wpAnyH_take (i:=5) (v:=?v6) rfl eX eX eX (λ_ _ _ h=>h) (af ⟨by rfl,?hy6⟩) pZ ?rest6
 case hy6=>
  intro w' o;try dsimp only at o
  first|(go_simp;done)|(go_simp;with_reducible rfl)
 try simp only[Act.put,bm,cm,cn]
 refine wpAnyH_take (i:=6) (v:=?v7) rfl eX eX eX (λ_ _ _ h=>h) (af ⟨by rfl,?hy7⟩) pZ ?rest7
 case hy7=>
  intro w' o;try dsimp only at o
  first|(go_simp;done)|(go_simp;with_reducible rfl)
 try simp only[Act.put,bm,cm,cn]
 refine wpAnyH_take (i:=7) (v:=?v8) rfl eX eX eX (λ_ _ _ h=>h) (af ⟨by rfl,?hy8⟩) pZ ?rest8
 case hy8=>
  intro w' o;try dsimp only at o
  first|(go_simp;done)|(go_simp;with_reducible rfl)
 try simp only[Act.put,bm,cm,cn]
 refine wpAnyH_take (i:=8) (v:=?v9) rfl eX eX eX (λ_ _ _ h=>h) (af ⟨by rfl,?hy9⟩) pZ ?rest9
 case hy9=>
  intro w' o;try dsimp only at o
  first|(go_simp;done)|(go_simp;with_reducible rfl)
 try simp only[Act.put,bm,cm,cn]
 refine wpAnyH_take (i:=10) (v:=?v10) rfl eX eX eX (λ_ _ _ h=>h) (af ⟨by rfl,?hy10⟩) pZ ?rest10
 case hy10=>
  intro w' o;try dsimp only at o
  first|(go_simp;done)|(go_simp;with_reducible rfl)
 try simp only[Act.put,bm,cm,cn]
 refine wpAnyH_take (i:=11) (v:=?v11) rfl eX eX eX (λ_ _ _ h=>h) (af ⟨by rfl,?hy11⟩) pZ ?rest11
 case hy11=>
  intro w' o;try dsimp only at o
  first|(go_simp;done)|(go_simp;with_reducible rfl)
 try simp only[Act.put,bm,cm,cn]
 refine wpAnyH_take (i:=14) (v:=?v12) rfl eX eX eX (λ_ _ _ h=>h) (af ⟨by rfl,?hy12⟩) pZ ?rest12
 case hy12=>
  intro w' o;try dsimp only at o
  first|(go_simp;done)|(go_simp;with_reducible rfl)
 try simp only[Act.put,bm,cm,cn]
 refine wpAnyH_take (i:=15) (v:=?v13) rfl eX eX eX (λ_ _ _ h=>h) (af ⟨by rfl,?hy13⟩) pZ ?rest13
 case hy13=>
  intro w' o;try dsimp only at o
  first|(go_simp;done)|(go_simp;with_reducible rfl)
 try simp only[Act.put,bm,cm,cn]
 refine wpAnyH_ready (rs:=[9,12]) eX eB ?_;refine AllReadyH.cons rfl (λK hK=>?way1) (AllReadyH.cons rfl (λK hK=>?way2) AllReadyH.nil)
 case way1=>
  go_simp
  refine hK _ _ ?hs14 (λu=>?_)
  case hs14=>exact H _ rfl
  clear hK K;try simp only[Act.put,bm,cm,cn]
  refine wpAnyH_ready (rs:=[12]) eX eB ?_;refine AllReadyH.cons rfl (λK hK=>?_) AllReadyH.nil;go_simp
  refine hK _ _ ?hs15 (λu=>?_)
  case hs15=>exact H _ (av _ _ _ Z)
  clear hK K;try simp only[Act.put,bm,cm,cn]
  refine wpAnyH_ready (rs:=[13]) eX eB ?_;refine AllReadyH.cons rfl (λK hK=>?_) AllReadyH.nil;refine lI _ rfl (.tmp 44) (.tmp 47) 86 rfl 5 i0 _ 1 Tryz.underlying86 hi aE aB a8 rfl (.slice ad n c) xs mB (a1.block (λj hj=>av _ _ _ (a1.lt j hj))) (ay W.heap.size 0) 1 (dy y) mB (by simp[go_sem]) rfl pY ag ?_;intro qb off cap w6 Y G J;have a4:=bj Y;have a6:=bj G;have a7:=bj J;have b6:=(G.block w.heap.size fH (λe=>(a2 _ e.symm).2 rfl)).trans (av _ _ _ Z);have m6:=(G.block mb fH (λe=>(a2 _ e.symm).1 rfl)).trans (av _ _ _ aG);have d8:w6.cell? (ay mb (8+k))=some (.slice ad n c):=(az (a:=ay mb (8+k)) m6).trans c8;have f8:w6.frozen? (ay mb (8+k))=false:=(dr (a:=ay mb (8+k)) m6).trans z8;clear Y G J m6;refine hK _ _ ?hs16 (λu=>?_)
  case hs16=>exact H _ b6
  clear hK K;try simp only[Act.put,bm,cm,cn]
  refine wpAnyH_take (i:=16) (v:=?v17) rfl eX eX eX (λ_ _ _ h=>h) (af ⟨by rfl,?hy17⟩) pZ ?rest17
  case hy17=>
   intro w' o;try dsimp only at o
   first|(go_simp;done)|(go_simp;with_reducible rfl)
  try simp only[Act.put,bm,cm,cn]
  refine wpAnyH_ready (rs:=[17]) eX eB ?_;refine AllReadyH.cons rfl (λK hK=>?_) AllReadyH.nil;go_simp
  refine hK _ _ ?hs18 (λu=>?_)
  case hs18=>exact H _ ((ab _ _ _ _ aJ).trans b6)
  clear hK K;try simp only[Act.put,bm,cm,cn]
  refine wpAnyH_done eX ?_ _;go_wp2_with fail
  go_end0;exact⟨rfl,qb,off,cap,_,w6,ax (bo a5) _,a4,a6,a7,aw _ _⟩
 case way2=>
  go_simp
  refine hK _ _ ?hs19 (λu=>?_)
  case hs19=>exact H _ (av _ _ _ Z)
  clear hK K;try simp only[Act.put,bm,cm,cn]
  refine wpAnyH_ready (rs:=[9]) eX eB ?_;refine AllReadyH.cons rfl (λK hK=>?_) AllReadyH.nil;go_simp
  refine hK _ _ ?hs20 (λu=>?_)
  case hs20=>exact H _ (av _ _ _ Z)
  clear hK K;try simp only[Act.put,bm,cm,cn]
  refine wpAnyH_ready (rs:=[13]) eX eB ?_;refine AllReadyH.cons rfl (λK hK=>?_) AllReadyH.nil;refine lI _ rfl (.tmp 44) (.tmp 47) 86 rfl 5 i0 _ 1 Tryz.underlying86 hi aE aB a8 rfl (.slice ad n c) xs mB (a1.block (λj hj=>av _ _ _ (a1.lt j hj))) (ay W.heap.size 0) 1 (dy y) mB (by simp[go_sem]) rfl pY ag ?_;intro qb off cap w6 Y G J;have a4:=bj Y;have a6:=bj G;have a7:=bj J;have b6:=(G.block w.heap.size fH (λe=>(a2 _ e.symm).2 rfl)).trans (av _ _ _ Z);have m6:=(G.block mb fH (λe=>(a2 _ e.symm).1 rfl)).trans (av _ _ _ aG);have d8:=(az (a:=ay mb (8+k)) m6).trans c8;have f8:=(dr (a:=ay mb (8+k)) m6).trans z8;clear Y G J m6;refine hK _ _ ?hs21 (λu=>?_)
  case hs21=>exact H _ b6
  clear hK K;try simp only[Act.put,bm,cm,cn]
  refine wpAnyH_take (i:=16) (v:=?v22) rfl eX eX eX (λ_ _ _ h=>h) (af ⟨by rfl,?hy22⟩) pZ ?rest22
  case hy22=>
   intro w' o;try dsimp only at o
   first|(go_simp;done)|(go_simp;with_reducible rfl)
  try simp only[Act.put,bm,cm,cn]
  refine wpAnyH_ready (rs:=[17]) eX eB ?_;refine AllReadyH.cons rfl (λK hK=>?_) AllReadyH.nil;go_simp
  refine hK _ _ ?hs23 (λu=>?_)
  case hs23=>exact H _ ((ab _ _ _ _ aJ).trans b6)
  clear hK K;try simp only[Act.put,bm,cm,cn]
  refine wpAnyH_done eX ?_ _;go_wp2_with fail
  go_end0;exact⟨rfl,qb,off,cap,_,w6,ax (bo a5) _,a4,a6,a7,aw _ _⟩
theorem dZ.NQ{p:Dp}(h:dZ p m g w){k y:Nat}(hk:k<4)(hA:IU w g.mb k y (m.ft k).length (g.ro 10 k).2 (g.ro 10 k).1 (iI (m.ft k)) w'):∃g',Tr p m g w (m.fO k (m.ft k++[y])) g' w':=by
 obtain⟨b,off,cap,w1,w6,Y,h2,u,h4,h5⟩:=hA;rw[dF _ _ _]at u h4;have i:=h.kept Y;have H:∀j,fi (g.ro 10 k).1=some j->j≠g.mb:=λj o=>h.ne (x:=10) (y:=k) (z:=0) (x':=0) (y':=0) (z':=0) (vH hk) rfl o rfl ag;have W:b≠g.mb:=by
  rcases h4 with e|e
  .grind
  have:=i.M.lt;omega
 have G:(iI (m.ft k)).length=(m.ft k).length:=by unfold iI;rw[ef]
 have hl:(m.ft k++[y]).length=(m.ft k).length+1:=jx cw;rw[G]at h2 h5;have hT:=Tr.fO ((Tr.refl h).kept Y) hk (l:=m.ft k++[y]) (r:=(some (ay b off),cap)) (w':=w6.setCell (ay g.mb (8+k)) (.slice (some (ay b off)) ((m.ft k).length+1) cap)) (bp (S:=λj=>j=g.mb\/fi (g.ro 10 k).1=some j) (a:=ay g.mb (8+k)) ⟨u.os,u.tape,u.output,u.size,λj o hn=>u.block j o (λe=>hn (ah e.symm))⟩ (af (af rfl)) _) (by rw[hl];exact (i.M.block (u.block g.mb i.M.lt (λe=>H g.mb e.symm rfl))).eC (8+k) _) (by
  rw[hl,show iI (m.ft k++[y])=iI (m.ft k)++[dy y] by grind[iI]];grind[o,Below.heap_setCell,Value.ownBlock,gd.block]) (λj o=>by
  have J:j=b:=by
   have:some b=some j:=o;injection this with this;exact this.symm
  subst J;rcases h4 with e|e
  .grind
  exact ah ⟨i.fresh ag,gp Y.size⟩)
 exact⟨_,hT.kept h5⟩
theorem JR{z:Int}{y:Nat}(hP:PD p d)(h:dZ d m g w)(hS:eF p K s m ρ)(Z:Ok p s)(hy:y<256)(a2:s.nt≠0):eL 142 #[P0 g.mb,Ku z y] w λw'=>∃m' g',Tr d m g w m' g' w'/\eF p K (s.recv (z,y)) m' ρ:=by
 by_cases z0:z<0
 .have J:s.recv (z,y)=s:=by unfold Pl.recv;rw[au (λe=>by omega)]
  rw[J];refine du (JO z0) λw' i=>?_;exact⟨rfl,m,g,(Tr.refl h).kept i,hS⟩
 by_cases z3:3<z
 .have J:s.recv (z,y)=s:=by unfold Pl.recv;rw[au (λe=>by omega)]
  rw[J];refine du (JN z0 z3) λw' i=>?_;exact⟨rfl,m,g,(Tr.refl h).kept i,hS⟩
 obtain⟨k,rfl⟩:∃k:Nat,z=(k:Int):=⟨z.toNat,ag⟩;have o:k<4:=ag
 have J:s.recv ((k:Int),y)=s.qe k y:=by unfold Pl.recv;rw[bf ⟨ag,ag⟩];rfl
 rw[J];have hl:fN s 4 k:=ah (ah (af ⟨rfl,o⟩));have W:m.nt≠0:=eV hS.nt a2
 unfold Pl.qe
 cases hq:s.q 4 k with
 | cons u r=>
  have a3:u≠0:=by
   have:=(Z.lw.b 4 k hl u eR).1.1;omega
  refine G5 (b:=u) (R:=λw'=>∃m' g',Tr d m g w m' g' w'/\eF p K (s.gn u (0,(y:Int))) m' ρ) o hy a3 (λw1 i=>?_) (λw1 i=>?_)
  .refine(Av (h.kept i) W 3 k).mono ?_;rintro e w' ⟨b,rfl,_,hb,G⟩;rcases hS.first Z hl (af rfl) hb with⟨_,e⟩|⟨l,e⟩
   .grind
   grind
  have hW:=KP (v:=(0,(y:Int))) hP (h.kept i) hS Z o hq (dW.num _);rw[oZ]at hW;refine du hW ?_;rintro w' ⟨m',g',Y,h2⟩;exact⟨rfl,m',g',Y.ahead i,h2⟩
 | nil=>
  have hF:∀w1,w.grownBy w1 none->dD 192 #[P0 g.mb,aj 3,aj k] w1 (aj 0) λw'=>w1.grownBy w' none:=λw1 i=>by
   refine(Av (h.kept i) W 3 k).mono ?_;rintro e w' ⟨b,rfl,_,hb,G⟩;rcases hS.first Z hl (af rfl) hb with⟨e,_⟩|⟨l,e⟩
   .grind
   grind
  have h8:=h.bc o;have a4:(m.ft k).length=(s.ft k).length:=by rw[hS.xL]
  by_cases H:(s.ft k).length<64
  .show eL 142 _ w λw'=>∃m' g',Tr d m g w m' g' w'/\eF p K (if(s.ft k).length<64 then s.fO k (s.ft k++[y]) else s) m' ρ;rw[bf H];have a1:∀j,(je m g 10 k).ownBlock=some j->j≠g.mb:=λj hj=>by
    have a0:fi (g.ro 10 k).1=some j:=by rw[<-dF (g.ro 10 k).1 (sg m 10 k) (g.ro 10 k).2];exact hj
    exact h.ne (x:=10) (y:=k) (z:=0) (x':=0) (y':=0) (z':=0) (vH o) rfl a0 rfl ag
   refine du (JP (y:=y) o (n:=(m.ft k).length) (c:=(g.ro 10 k).2) (ad:=(g.ro 10 k).1) (xs:=iI (m.ft k)) ag (by grind[iI,List.length_map]) h8 (h.B o) a1 hF) λw' hA=>?_;grind[D.dZ.NQ,D.eF.fO,D.eF.xL]
  show eL 142 _ w λw'=>∃m' g',Tr d m g w m' g' w'/\eF p K (if(s.ft k).length<64 then s.fO k (s.ft k++[y]) else s) m' ρ;rw[au H];refine du (G6 (y:=y) o (n:=(m.ft k).length) (c:=(g.ro 10 k).2) (ad:=(g.ro 10 k).1) ag h8.1 hF) λw' i=>?_;exact⟨rfl,m,g,(Tr.refl h).kept i,hS⟩
