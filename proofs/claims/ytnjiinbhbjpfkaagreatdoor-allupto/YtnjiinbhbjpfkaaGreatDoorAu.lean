import Derived.Test.YtnjiinbhbjpfkaaGreatDoorAj
import Derived.Test.YtnjiinbhbjpfkaaGreatDoorAl
import Derived.Test.YtnjiinbhbjpfkaaGreatDoorAt
set_option maxRecDepth 100000
set_option maxHeartbeats 0
set_option linter.all false
namespace Go.Proofs.YtnjiinbhbjpfkaaGreatDoor
open Go.RowKit Go.Proofs.Tryz
namespace D
open F
theorem gj.tail{w:aa}{e:TypeId}{ad:Option Addr}{n cap:Nat}{x:Value}{ys:List Value}(h:gj w e (.slice ad n cap) (x :: ys)):∃b off,ad=some (az b off)/\n=ys.length+1/\ys.length+1<=cap/\b<w.heap.size/\w.cell? (az b off)=some x/\gj w e (.slice (some (az b (if cap=1 then off else off+1))) ys.length<|cap-1) ys:=by
 rcases h with⟨_,h⟩|⟨b,off,G,N,P,h,H,h2,h3,i,hP⟩
 .cases h
 injection h with e1 W Y;subst e1 W Y;have hl:(x :: ys).length=ys.length+1:=rfl;rw[hl]at H i;refine⟨b,off,rfl,rfl,H,i.lt,?_,?_⟩
 .rw[i.cell off af];have:=hP 0 x rfl;grind
 by_cases e:cap=1
 .have hy:ys=[]:=dh.1 af;subst hy;rw[bf e];refine ak ⟨b,off,cap-1,N,P,rfl,di _,af,af,?_,λj u y=>by grind⟩;obtain⟨o,f1,f2,J⟩:=i;exact⟨o,f1,f2,λj Z=>J j af⟩
 rw[av e];refine ak ⟨b,off+1,cap-1,N,P,rfl,af,af,af,?_,λj u y=>?_⟩
 .grind
 have:=hP (j+1) u ey;grind
section
variable {p:Dp}{m m':Dm}{g g':Dg}{w w':aa}
theorem Tr.fR{m0:Dm}{Y:Dg}{w0:aa}(h0:Tr p m0 Y w0 m g w){k:Nat}(hk:k<4){l:List Nat}{r:Option Addr×Nat}(hO:dN (λj=>j=g.mb\/fk (g.ro 10 k).1=some j) w w')(hM:Full w' g.mb 112 24 24 (eE (mE p m g) (8+k)<|.slice r.1 l.length r.2))(hq:gj w' 5 (.slice r.1 l.length r.2) (iR l))(hb:∀j,fk r.1=some j->fk (g.ro 10 k).1=some j\/(¬eJ p m g j/\w0.heap.size<=j)):Tr p m0 Y w0 (m.fR k l) (g.at 10 k r) w':=by
 have o:∀j,(m.fR k l).fA j=if j=k then l else m.fA j:=λj=>rfl
 refine h0.CN 10 k (wD hk) af (λ_ _ _=>rfl) hO (λx y z Z h1 h2=>ok_eq (e0:=λe=>dr e h1) (er:=λW=>⟨sr g _ (by grind[GU]),?_,?_⟩) (eq:=λe=>?_) (hx:=mB Z)) (hM.congr<|λi hi=>?_) ?_<|λj hj=>hb j ?_
 .rcases W with rfl|rfl|rfl|rfl<;>rfl
 .rw[Bw _ _ _ _ eo];rfl
 .rcases e with rfl|rfl
  .exact⟨sr g _ af,rfl,rfl⟩
  have H:y≠k:=λe=>h2 ⟨rfl,e,(JU Z).2⟩;refine⟨sr g _ af,?_,?_⟩
  .show((m.fR k l).fA y).length=(m.fA y).length;grind
  show iR ((m.fR k l).fA y)=iR (m.fA y);grind
 .unfold eE;by_cases e:i=8+k
  .rw[bf e];have J:js (m.fR k l) (g.at 10 k r) 10 k=.slice r.1 l.length r.2:=by
    unfold js;rw[xh];show Value.slice r.1 ((m.fR k l).fA k).length r.2=_;rw[o,bf rfl]
   have G:=pS 3 k af
   rcases G with rfl|rfl|rfl|rfl<;>(subst e;exact J.symm)
  rw[av e,BK p (m.fR k l) g r (8+k) af i e];by_cases h8:8<=i/\i<12
  .have J:js (m.fR k l) g 10 (i-8)=js m g 10 (i-8):=by
    unfold js;show Value.slice _ ((m.fR k l).fA<|i-8).length _=Value.slice _ (m.fA<|i-8).length _;rw[o,eK]
   have G:i=8\/i=9\/i=10\/i=11:=af
   rcases G with rfl|rfl|rfl|rfl<;>exact J.symm
  have G:i=0\/i=1\/i=2\/i=3\/i=4\/i=5\/i=6\/i=7\/i=12\/i=13\/i=14\/i=15\/i=16\/i=17\/i=18\/i=19\/i=20\/i=21\/i=22\/i=23:=af
  (repeat' rcases G with rfl|G)<;>rfl
 .show gj w' 5 (.slice ((g.at 10 k r).ro 10 k).1 ((m.fR k l).fA k).length ((g.at 10 k r).ro 10 k).2) (iR<|(m.fR k l).fA k);rw[xh,o,bf rfl];exact hq
 have u:fk ((g.at 10 k r).ro 10 k).1=some j:=hj;grind[xh]
def dZ.bc(h:dZ p m g w){k:Nat}(i:k<4):w.cell? (az g.mb<|8+k)=some (js m g 10 k)/\w.frozen? (az g.mb<|8+k)=false:=by
 have e:=pS 3 k af
 rcases e with rfl|rfl|rfl|rfl
 .exact h.mc 8 af rfl
 .exact h.mc 9 af rfl
 .exact h.mc 10 af rfl
 exact h.mc 11 af rfl
theorem dZ.OQ(h:dZ p m g w){k x:Nat}{l:List Nat}(u:k<4)(hl:m.fA k=x :: l):∃b off cap,js m g 10 k=.slice (some<|az b off) (l.length+1) cap/\l.length+1<=cap/\b<w.heap.size/\b≠g.mb/\(∀t n,nF m t->n<(m.T t).fr.length->b≠g.rb t n)/\w.cell? (az b off)=some (dz x)/\Tr p m g w (m.fR k l) (g.at 10 k (some (az b (if cap=1 then off else off+1)),cap-1)) (w.setCell (az g.mb<|8+k) (.slice (some (az b (if cap=1 then off else off+1))) l.length<|cap-1)):=by
 have hQ:=h.B u;have y:iR (m.fA k)=dz x :: iR l:=kh hl
 rw[y]at hQ;let⟨b,off,J,Y,W,e4,e5,Z⟩:=gj.tail hQ;have o:(iR l).length=l.length:=by unfold iR;rw[eD]
 rw[o]at Y W Z;have e:(ok p m g 10 k 0).bs b:=by
  show fk (g.ro 10 k).1=some b;rw[J];rfl
 have i:=h.ne (x':=0) (y':=0) (z':=0) (wD u) rfl e rfl af;refine⟨b,off,(g.ro 10 k).2,?_,W,e4,i,λt n ht hn=>h.ne (wD u) (Ar ht.1 ht.2 hn) e (rfl:(ok p m g 6 t n).bs (g.rb t n)) af,e5,?_⟩
 .grind[js]
 refine Tr.fR (Tr.refl h) u (l:=l) (r:=(some (az b (if(g.ro 10 k).2=1 then off else off+1)),(g.ro 10 k).2-1)) (bq (S:=λj=>j=g.mb\/fk (g.ro 10 k).1=some j) (a:=az g.mb<|8+k) (dx _ _) (ag<|ag rfl) _) (h.M.eE (8+k) _) ?_<|λj H=>ag ?_
 .grind[Below.heap_setCell,Value.ownBlock,gj.block]
 rw[J];exact H
end
variable {p:dH}{d:Dp}{K:Nat}{s s':Pl}{m m':Dm}{g g':Dg}{w w':aa}{ρ ρ':Nat->Nat}{t tb fb n nr a b c:Nat}{why:Int}
def FB{u kind:Nat}{x:Int}{v:B.V}(hP:PD p d)(h:dZ d m g w)(hS:eF p K s m ρ)(o:Ok p s)(i:u∈s.lv)(G:dV p s v)(he:m.ev.length<=100000):eN 196 #[P0 g.mb,ah u,ah kind,ah x,vA<|tr ρ v] w λw'=>∃m' g',Tr d m g w m' g' w'/\eF p K (s.leave u v kind x) m' ρ:=by
 have y:=o.lt u i;refine dq (Nk (t:=u) (kind:=kind) (x:=x) (v:=v) hP h ((eB<|jU s u v kind x).2 y) (o.gone i G kind x<|λ_ _ h=>h) (hS.gone (kind:=kind) (x:=x) o i G) (BY s u kind x) (hS.small o).2 he) ?_;rintro w' ⟨m',g',J,H⟩;refine⟨rfl,m',g',J,?_⟩;rw[AX o.lw y]at H;exact H
theorem vC{s:Pl}{z:Int}(h:ie s z=none){u:Nat}(i:u∈s.lv):(u:Int)≠z:=λe=>by
 have:=List.find?_eq_none.1 h u i;grind
theorem Df(hR:Rn p s t){u:Nat}(o:u∈s.lv)(i:u≠t)(v:B.V)(kind:Nat)(x:Int):((s.leave u v kind x).T t).run=true:=by
 unfold Pl.leave;rw[sH v _ _ (λy=>by
  have:=(hR.ok.lw.b 5 u (ak<|ak<|ak ⟨rfl,hR.ok.lt u o⟩) t y).2;grind[F.Rn.wh]),nW _ _ _ _<|λe=>i e.symm]
 exact hR.run
section
variable (hP:PD p d)(h:dZ d m g w)(hS:eF p K s m ρ)(hR:Rn p s t)(hQ:ph p d s m g w ρ t tb fb n nr)(hK:K<900000000)
include h hS hR hQ
omit hS hR in
theorem ph.ge{u:Nat}(i:nF m u):w.cell? (az tb<|(u-1)*8+1)=some (ah ((m.T u).how:Int))/\w.cell? (az tb<|(u-1)*8+6)=some (ah ((m.T u).out.1:Int))/\w.cell? (az tb<|(u-1)*8+7)=some (ah (m.T u).out.2):=by
 let⟨e,o,_,tc⟩:=h.tc i;have:e=tb:=by
  have:=hQ.T.b;rw[o]at this;injection this with this _;injection this with this;injection this with this _
 subst this;exact⟨(tc.c 1 af).1,(tc.c 6 af).1,(tc.c 7 af).1⟩
include hP hK
theorem M1(hG:∀f,f<p.nf->2<=p.rg f/\p.rg f<=8)(hn1:s.nt+1<=500000000)(ha:a<nr)(hb:b<nr)(Y:c<nr)(hi:ku p s t (13,a,b,c) why s'):Calls prog 215 #[P0 g.mb,ah t,dD (g.rb t n) nr nr,jC 13 a b c] w λe w'=>∃v:Int,e=.returned (ah v)/\iV p d K s t m g w why s' v w':=by
 refine Pd af<|λw1 o=>(Nu hP hG (h.kept o) hS hR (hQ.kept h o) ha hb Y hK hn1).mono ?_;rintro e w' ⟨i,s1,rfl,u,m',g',y,H⟩;have hw:=pN (p:=p) (s:=s) (s':=s') (t:=t) (k:=(13,a,b,c)) (why:=why) af hi;obtain⟨e1,W⟩:=hi;obtain⟨J,G⟩:=u;have ew:=J.trans e1.symm;have es:=G.trans W.symm;subst ew es;refine⟨i,rfl,?_⟩;by_cases Z:i=0
 .subst Z;refine iV.go (y.ahead o) H ?_;rw[G];unfold mH;split
  .unfold Pl.push;rw[dk];exact hR.run
  exact hR.run
 exact⟨ρ,m',g',y.ahead o,ak ⟨H.mono af,ag ⟨af,rfl⟩⟩⟩
omit hK in
theorem MX(he:m.ev.length<=100000)(J:a<nr):Calls prog 215 #[P0 g.mb,ah (t:Int),dD (g.rb t n) nr nr,jC 19 a b c] w λe w'=>∃v:Int,e=.returned (ah v)/\iV p d K s t m g w (iu s t a).1 (iu s t a).2 v w':=by
 have ga:dV p s ((bz s t).R a):=hR.n9<|eZ hQ.r2 J;have H:=hQ.rc J;have h6:=hQ.T.c6;unfold iu;generalize (bz s t).R a=x at*;by_cases Z:x.1=0
 case neg=>
  rw[av Z];refine dq (Bo (ak rfl) J H<|λe=>Z<|(tV hR.ok hS ga).1.1 e) λw' i=>?_;grind[iV.fail]
 rw[bf Z];rw[oN Z,show x=(0,x.2) from gh Z rfl]at H;by_cases x1:x.2<1
 .rw[av<|by grind[wT]];refine dq (Hl J H h6 x1) λw' i=>?_;grind[iV.fail]
 by_cases x2:(m.nt:Int)<x.2
 .rw[av<|by grind[wT,D.eF.nt]];refine dq (Hk J H h6 x1 x2) λw' i=>?_;grind[iV.fail]
 rw[bf<|by grind[wT,D.eF.nt]];obtain⟨z,hz⟩:∃z:Nat,x.2=(z:Int)+1:=⟨x.2.toNat-1,af⟩;rw[hz]at H x1 x2⊢
 have Y:nF m (z+1):=⟨af,af⟩;have g1:=(ph.ge h hQ Y).1;rw[dF]at g1;have o:=hS.how hR.ok<|(iP hS<|z+1).1 Y;refine(Ke (R:=λw'=>iV p d K s t m g w 0 (match ie s ((z:Int)+1) with|some u=>s.leave u (0,-100) 4 0|none=>s) (if z+1=t then -1 else 0) w') J H h6 af ((hS.small hR.ok).1) g1 (λh5 w1 i=>?_)<|λh5 w1 i=>?_).mono ?_
 .have G:=o.1<|λe=>h5 af;have y:ie s ((z:Int)+1)=some (z+1):=by
   cases y:ie s ((z:Int)+1) with
   |none=>grind[absurd,vC]
   |some u=>
    have:=(jV y).2;grind
  rw[y];have hL:=FB (u:=z+1) (kind:=4) (x:=0) (v:=(0,-100)) hP (h.kept i) hS hR.ok G (dV.num _) he;rw[pA,show(((z+1:Nat):Int))=(z:Int)+1 by omega]at hL;refine dq hL ?_;rintro w' ⟨m',g',h1,h2⟩;refine⟨rfl,?_⟩;by_cases e:z+1=t
  .rw[bf e];refine iV.stop (h1.ahead i) (h2.mono af) ?_;rw[e,um hR.ok.lw hR.ht];rfl
  rw[av e];exact iV.go (h1.ahead i) h2<|Df hR G e _ _ _
 .have W:z+1∉s.lv:=λhm=>o.2 hm af;have y:ie s ((z:Int)+1)=none:=by
   cases y:ie s ((z:Int)+1) with
   |none=>rfl
   |some u=>
    have:=jV y;grind
  rw[y,av<|λe=>W<|eZ e hR.lv];exact iV.go ((Tr.refl h).kept i) hS hR.run
 grind
omit hP in
theorem MY(J:a<nr)(o:b<nr):Calls prog 215 #[P0 g.mb,ah (t:Int),dD (g.rb t n) nr nr,jC 18 a b c] w λe w'=>∃v:Int,e=.returned (ah v)/\iV p d K s t m g w (jd s t (18,a,b,c)).1 (jd s t (18,a,b,c)).2 v w':=by
 have gb:dV p s ((bz s t).R b):=hR.n9<|eZ hQ.r2 o;have W:=hQ.rc J;have rb:=hQ.rc o;have h6:=hQ.T.c6;have H:=(hS.small hR.ok).1;have hA:jd s t (18,a,b,c)=(if((bz s t).R b).1=0 then(if wT s ((bz s t).R b).2=true/\((bz s t).R b).2≠(t:Int) then(0,match ie s ((bz s t).R b).2 with|some u=>s.wait 5 u t (18,a,b,c)|none=>s.dM t (de s t) ((bz s t).set a<|s.out.getD (((bz s t).R b).2.toNat-1) (0,0))) else(6,s)) else(1,s)):=rfl;rw[hA];generalize (bz s t).R b=x at*;by_cases h0:x.1=0
 case neg=>
  rw[av h0];refine dq (Bn (ag rfl) J o W rb<|λe=>h0<|(tV hR.ok hS gb).1.1 e) λw' i=>?_;grind[iV.fail]
 rw[bf h0];rw[oN h0,show x=(0,x.2) from gh h0 rfl]at rb;by_cases x1:x.2<1
 .rw[av<|λe=>by grind[wT]];refine dq (Ho J o W rb h6 x1) λw' i=>?_;grind[iV.fail]
 by_cases x2:(m.nt:Int)<x.2
 .rw[av<|λe=>by grind[wT,D.eF.nt]];refine dq (Hn J o W rb h6 x1 x2) λw' i=>?_;grind[iV.fail]
 by_cases x3:x.2=(t:Int)
 .rw[av<|λe=>e.2 x3];refine dq (Hm J o W rb h6 x1 x2 x3) λw' i=>?_;grind[iV.fail]
 rw[bf ⟨by grind[wT,D.eF.nt],x3⟩];obtain⟨z,hz⟩:∃z:Nat,x.2=(z:Int)+1:=⟨x.2.toNat-1,af⟩;have a3:x.2.toNat-1=z:=af
 rw[a3];rw[hz]at rb x1 x2 x3⊢;have a0:z<m.nt:=af
 have a1:nF m (z+1):=⟨af,af⟩;have G:=(iP hS<|z+1).1 a1;let⟨g1,g6,g7⟩:=ph.ge h hQ a1;rw[dF]at g1 g6 g7;have Z:z+1≠t:=af
 cases hf:ie s ((z:Int)+1) with
 |some u=>
  let⟨a4,a6⟩:=jV hf;have hu:u=z+1:=af
  subst hu;refine(EJ (R:=λw'=>iV p d K s t m g w 0 (s.wait 5 (z+1) t (18,a,b,c)) (-1) w') J o W rb h6 a0 H Z g1 (λe=>(hS.how hR.ok G).2 a4 af)<|λw1 i=>?_).mono ?_
  .have hL:=D6 (how:=4) (what:=z+1) (into:=(a:Int)) (h.kept i) hQ.dt H<|gD hS.B.2;rw[show(((z+1:Nat):Int))=(z:Int)+1 by omega]at hL;refine dq hL λw' h1=>?_;refine⟨rfl,iV.stop (h1.ahead i) (hS.wait (x:=5) (y:=z+1) (k:=(18,a,b,c)) hR.ok hR.lv hR.wh (ak<|ak<|ak ⟨rfl,G⟩)<|ak rfl) ?_⟩;unfold Pl.wait;rw[dk,kr];rfl
  rintro e w' ⟨rfl,h1⟩;exact⟨-1,rfl,h1⟩
 |none=>
  have a2:=hS.O (z+1) G<|λhm=>vC hf hm af;rw[a2.1]at g1;refine dq (EK J o W rb h6 a0 H Z g1 g6 g7) λw' i=>?_;refine⟨0,rfl,hQ.goes h hS hR a ?_ ?_⟩
  .by_cases hl:z<s.out.length
   .rw[cw,bw hl];exact(hR.ok.ok _<|List.getElem_mem hl).elim (λe=>ag e)<|λe=>dV.root<|ak e
   rw[cw,dO af];exact dV.num 0
  have:tr ρ (s.out.getD z (0,0))=(m.T<|z+1).out:=a2.2.2.symm;rw[this];exact i
omit hP in
theorem MV(Y:a<nr)(G:b<nr):Calls prog 215 #[P0 g.mb,ah (t:Int),dD (g.rb t n) nr nr,jC 21 a b c] w λe w'=>∃v:Int,e=.returned (ah v)/\iV p d K s t m g w (kM s t (21,a,b,c)).1 (kM s t (21,a,b,c)).2 v w':=by
 have gb:dV p s ((bz s t).R b):=hR.n9<|eZ hQ.r2 G;have Z:=hQ.rc Y;have rb:=hQ.rc G;have hA:kM s t (21,a,b,c)=(if((bz s t).R b).1=0 then(if 0<=((bz s t).R b).2/\((bz s t).R b).2<4 then(0,match s.fA ((bz s t).R b).2.toNat with|x :: bs=>(s.fR ((bz s t).R b).2.toNat bs).dM t (de s t) ((bz s t).set a (0,(x:Int)))|[]=>s.wait 4 ((bz s t).R b).2.toNat t (21,a,b,c)) else(8,s)) else(1,s)):=rfl;rw[hA];generalize (bz s t).R b=x at*;by_cases H:x.1=0
 case neg=>
  rw[av H];refine dq (Bn (ak rfl) Y G Z rb<|λe=>H<|(tV hR.ok hS gb).1.1 e) λw' u=>?_;grind[iV.fail]
 rw[bf H];rw[oN H]at rb;by_cases x1:0<=x.2/\x.2<4
 case neg=>
  rw[av x1];refine dq (Hj Y G Z rb H af) λw' u=>?_;grind[iV.fail]
 rw[bf x1];rw[show x=(0,x.2) from gh H rfl]at rb;obtain⟨k,hk⟩:∃k:Nat,x.2=(k:Int):=⟨x.2.toNat,af⟩;have a0:x.2.toNat=k:=af
 rw[a0];rw[hk]at rb;have o:k<4:=af
 cases hb0:s.fA k with
 |nil=>
  have W:=(h.bc o).1;have a2:(m.fA k).length=0:=by rw[hS.yw,hb0];rfl
  rw[show js m g 10 k=.slice (g.ro 10 k).1 0 (g.ro 10 k).2 by unfold js;show Value.slice _ (m.fA k).length _=_;rw[a2]]at W;refine(EH (R:=λw'=>iV p d K s t m g w 0 (s.wait 4 k t (21,a,b,c)) (-1) w') Y G Z rb o W<|λw1 u=>?_).mono ?_
  .refine dq (D6 (how:=3) (what:=k) (into:=(a:Int)) (h.kept u) hQ.dt ((hS.small hR.ok).1)<|gD hS.B.2) λw' J=>?_;refine⟨rfl,iV.stop (J.ahead u) (hS.wait (x:=4) (y:=k) (k:=(21,a,b,c)) hR.ok hR.lv hR.wh (ak<|ak<|ag ⟨rfl,o⟩)<|ag rfl) ?_⟩;unfold Pl.wait;rw[dk,kr];rfl
  grind
 |cons y bs=>
  obtain⟨bb,off,cap,c1,c2,c3,c4,c5,c6,hT⟩:=h.OQ o (by rw[hS.yw,hb0]);have W:=h.bc o;rw[c1]at W;refine dq (EI Y G Z rb o W c6 ((hR.ok.bt k).2 y ey) c2 (h.M.ne hQ.F eo) c4<|c5 t n hQ.dt hQ.hi) λw' u=>?_;have J:=hT.r.sQ (t:=t) (i:=n) hQ.dt hQ.hi a (0,(y:Int));have h2:=(hS.fR k bs).oZ (t:=t) hR.lv hR.fw.n1 a (v:=(0,(y:Int)))<|dV.num _;rw[pA,show qE (m.fR k bs) t=n from hQ.tp,show qz (m.fR k bs) t=fX m t n from hQ.tf]at h2;exact⟨0,rfl,iV.go ((hT.trans J).kept u) h2<|(gO (s.fR k bs) t (de s t) t _).2.2.1.trans hR.run⟩
end
end D
namespace D
open F
variable {p:dH}{d:Dp}{K:Nat}{s s':Pl}{m m':Dm}{g g':Dg}{w w':aa}{ρ ρ':Nat->Nat}{t tb fb n nr a b c:Nat}{why:Int}
section
variable (hP:PD p d)(hG:∀ f,f<p.nf->2<=p.rg f/\p.rg f<=8)(h:dZ d m g w)(hS:eF p K s m ρ)(hR:Rn p s t)(hQ:ph p d s m g w ρ t tb fb n nr)(hK:K<900000000)(hn1:s.nt+1<=500000000)
include hP hG h hS hR hQ hK hn1
omit hn1 in
theorem M0(ha:a<nr)(hb:b<nr)(hc:c<nr)(hi:ku p s t (15,a,b,c) why s'):Calls prog 227 #[P0 g.mb,ah (t:Int),dD (g.rb t n) nr nr,jC 15 a b c] w λe w'=>∃v:Int,e=.returned (ah v)/\iV p d K s t m g w why s' v w':=by
 have hi:why=kT (fD s<|(bz s t).R b).2.2 s.lv.length p.mt/\s'=lR p s t (15,a,b,c):=hi;obtain⟨rfl,rfl⟩:=hi;have gb:=hR.n9<|eZ hQ.r2 hb;have gc:dV p s ((bz s t).R c):=hR.n9<|eZ hQ.r2 hc;have rb:=hQ.rc hb;have rc:=hQ.rc hc;have hE:lR p s t (15,a,b,c)=if(fD s<|(bz s t).R b).2.2=true/\s.lv.length≠p.mt then(s.born (fD s<|(bz s t).R b).1 ((bz s t).R c) (fD s<|(bz s t).R b).2.1).dM t (de s t) ((bz s t).set a (0,((s.nt+1:Nat):Int))) else s:=rfl
 rw[hE];generalize hx:(bz s t).R b=x at*;generalize hy:(bz s t).R c=y at*;have a5:(fD s x).2.2=false->Calls prog 227 #[P0 g.mb,ah (t:Int),dD (g.rb t n) nr nr,jC 15 a b c] w (λe w'=>e=.returned (ah 4)/\iY w w')->Calls prog 227 #[P0 g.mb,ah (t:Int),dD (g.rb t n) nr nr,jC 15 a b c] w λe w'=>∃v:Int,e=.returned (ah v)/\iV p d K s t m g w (kT (fD s x).2.2 s.lv.length p.mt) (if(fD s x).2.2=true/\s.lv.length≠p.mt then(s.born (fD s x).1 y (fD s x).2.1).dM t (de s t) ((bz s t).set a (0,((s.nt+1:Nat):Int))) else s) v w':=λhf H=>by
  refine dq H λw' W=>?_;rw[av (λe=>by grind),hf];exact⟨4,rfl,iV.fail h W hS (show(0:Int)<4 by omega)⟩
 by_cases h0:x.1=0
 .refine a5 (by unfold fD;grind) ?_;rw[oN h0]at rb;have r0:=rb.1;rw[h0]at r0;grind[yT]
 let⟨z,cb,hC⟩:=hS.OV h hR.ok gb h0;rw[hC.ev]at rb;have Y:L4 w g.mb (g.rb t n) nr b c z cb m.nc (g.ro 3 0).2 (g.sb<|z+1) (s.M x.1).length 0 ((s.ck x.1:Int)-1) (0,0) (0,0):=⟨hb,hc,hC.l,gD hS.B.1,rb.1,rb.2.1,hC.Dk,hC.k0,hC.k1,hQ.F.lt,h.M.lt,an w _ hC.k0⟩;by_cases hk:s.ck x.1=0
 .refine a5 (by unfold fD;grind) ?_;grind[yS,decide]
 have a0:fD s x=(s.ck x.1-1,(s.M x.1).getD 0 (0,0),true):=by unfold fD;rw[av<|λe=>e.elim h0 hk]
 let⟨G,a2⟩:=qw hR.ok gb (by rw[a0]);have aB:1<=(s.M x.1).length:=by
  have:(s.M x.1).length≠0:=λe=>((hS.C _<|B.px.vS gb h0).f hk)<|dh.1 e;omega
 rw[a0]at G a2;rw[show((s.ck x.1:Int)-1)=((s.ck x.1-1:Nat):Int) by omega]at Y;have rs:=hC.sl 0 af;rw[a0];simp only at G a2;generalize aO:s.ck x.1-1=ff at*;generalize aM:(s.M x.1).getD 0 (0,0)=u at*;have J:∀w1,iY w w1->dC 77 #[P0 g.mb] w1 (ah (s.lv.length:Int)) λw'=>iY w1 w':=λw1 W=>by
  refine(Ft (h.kept W) (by have:=hQ.dt.1;have:=hQ.dt.2;omega)).mono ?_;rintro e w' ⟨N,rfl,_,aA,aD⟩;rw[hS.live hR.ok aA];exact⟨rfl,aD⟩
 have h4:dW w g.mb 4=some (ah (p.mt:Int)):=by rw[<-hP.mt];exact(h.mc 4 af rfl).1
 have aN:=hS.lm;by_cases hm:s.lv.length=p.mt
 .refine dq (Hf Y J h4 af) λw' W=>?_;rw[av<|λe=>e.2 hm];refine⟨7,rfl,?_⟩;show iV p d K s t m g w (kT true s.lv.length p.mt) s 7 w';rw[show kT true s.lv.length p.mt=7 by unfold kT;rw[av je,bf hm]];exact iV.fail h W hS af
 rw[bf ⟨rfl,hm⟩];have aI:kT true s.lv.length p.mt=0:=by unfold kT;rw[av je,av hm]
 have a9:=hP.rg ff G;have a7:=hG ff G;have ht:=hQ.dt;have a1:(m.born ff (tr ρ y)<|tr ρ u).T t=m.T t:=av af;have aH:fX (m.born ff (tr ρ y)<|tr ρ u) t n=fX m t n:=by unfold fX;rw[a1]
 have a3:nF (m.born ff (tr ρ y)<|tr ρ u) t:=⟨ht.1,Nat.le_succ_of_le ht.2⟩;have a8:n<((m.born ff (tr ρ y)<|tr ρ u).T t).fr.length:=eZ a1 hQ.hi
 refine(Ex (R:=λw'=>∃g',Tr d m g w (m.born ff (tr ρ y)<|tr ρ u) g' w'/\Ag m g g') (qq:=(m.nt:Int)+1) Y ha rc rs aB hC.l8 J h4 af<|λw1 W=>?_).mono ?_
 .refine dq (Ez (h.kept W) (eZ hP.nf G) (eZ a9 a7.1) (eZ a9 a7.2) (hS.small hR.ok).1 (hS.small hR.ok).2) ?_;rintro w' ⟨g',h6,hB⟩;refine⟨rfl,⟨g',h6.ahead W,hB⟩,λj aJ aK=>h6.o.same aK<|h.fresh aJ,?_⟩;have a4:=h6.r.R (t:=t) (i:=n) a3 a8;rw[aH,hB.1 t n ht.2,hQ.r1]at a4;exact⟨_,Kh a4 ha⟩
 rintro e w' ⟨rfl,w4,⟨g',h6,hB⟩,W⟩;have h8:=h6.r.sQ (t:=t) (i:=n) a3 a8 a (0,(m.nt:Int)+1);rw[hB.1 t n ht.2]at h8
 have Z:=D.qW s ff y u (t:=t)<|gD hR.ht.2;let⟨b1,_,_,_⟩:=uw s ff y u;have aC:=hS.born (f:=ff) hR.ok af gc a2;have a6:=aC.oZ (t:=t) (by rw[b1];exact eO _ hR.lv) (eZ Z hR.fw.n1) a (v:=(0,((s.nt+1:Nat):Int)))<|dV.num _;have e1:de (s.born ff y u) t=de s t:=by unfold de;rw[Z]
 have e2:bz (s.born ff y u) t=bz s t:=by unfold bz;rw[e1];exact gK<|by rw[Z]
 have e3:qE (m.born ff (tr ρ y)<|tr ρ u) t=n:=by
  have:=hQ.tp;unfold qE at this⊢;rw[a1];exact this
 have e4:qz (m.born ff (tr ρ y)<|tr ρ u) t=fX (m.born ff (tr ρ y)<|tr ρ u) t n:=by unfold qz;rw[e3]
 have e5:tr ρ (0,((s.nt+1:Nat):Int))=(0,(m.nt:Int)+1):=by
  rw[oN rfl,hS.nt,Int.natCast_add];rfl
 rw[e1,e2,e3,e4,e5]at a6;refine⟨0,rfl,?_⟩;show iV p d K s t m g w (kT true s.lv.length p.mt) _ 0 w';rw[aI];refine iV.go ((h6.trans h8).kept W) a6<|(gO (s.born ff y u) t (de s t) t _).2.2.1.trans ?_;rw[Z];exact hR.run
theorem Lf(hN:Ng s)(he:m.ev.length<=100000){k:F.vV}(hk:LR p (bz s t).f k)(hi:ku p s t k why s'):Calls prog 194 #[P0 g.mb,ah t,dD (g.rb t n) nr nr,jC k.1 k.2.1 k.2.2.1 k.2.2.2] w λe w'=>∃v:Int,e=.returned (ah v)/\iV p d K s t m g w why s' v w':=by
 obtain⟨i,a,b,c⟩:=k;obtain⟨k0,ka,J,G,u,rb,rc,k7,k9,a1⟩:=hk;rw[hQ.r2]at u rb rc;simp only at k0 ka J G u rb rc k7 k9 a1⊢;have W:∀o,(o=13\/o=15\/o=17\/o=18\/o=19\/o=21)->(∀w1,iY w w1->dZ d m g w1->ph p d s m g w1 ρ t tb fb n nr->Calls prog 215 #[P0 g.mb,ah t,dD (g.rb t n) nr nr,jC o a b c] w1 λe w'=>∃v:Int,e=.returned (ah v)/\iV p d K s t m g w1 why s' v w')->Calls prog 194 #[P0 g.mb,ah t,dD (g.rb t n) nr nr,jC o a b c] w λe w'=>∃v:Int,e=.returned (ah v)/\iV p d K s t m g w why s' v w':=λo ho H=>
  J2 ho J G (λw1 Z=>(H w1 Z (h.kept Z)<|hQ.kept h Z).mono (λe w' hh=>by
   grind[D.iV.ahead]))
 have hc:=pS 22 i af
 repeat' rcases hc with rfl|hc
 .obtain⟨rfl,rfl⟩:=hi;grind[PB]
 .obtain⟨rfl,rfl⟩:=hi;grind[PA]
 .exact IN h hS hR hQ af (u af af) (rb af) (rc af) J G hi
 .exact IN h hS hR hQ af (u af af) (rb af) (rc af) J G hi
 .exact IN h hS hR hQ af (u af af) (rb af) (rc af) J G hi
 .exact IN h hS hR hQ af (u af af) (rb af) (rc af) J G hi
 .obtain⟨rfl,rfl⟩:=hi;grind[Pz]
 .obtain⟨rfl,rfl⟩:=hi;grind[Py]
 .obtain⟨rfl,rfl⟩:=hi;grind[Px]
 .obtain⟨rfl,hm⟩:=hi;grind[Pw]
 .exact OE h hS hR hQ hK (u af af) (rb af) (rc af) J G hi
 .exact OD h hS hR hQ hK (u af af) (rb af) (rc af) J G hi
 .obtain⟨rfl,hm⟩:=hi;exact OC hP hG h hS hR hQ hK (u af af) (rc af) J G hm
 .exact W 13 af<|λw1 Z Y y=>M1 hP Y hS hR y hK hG hn1 (u af af) (rb af) (rc af) hi
 .obtain⟨rfl,rfl⟩:=hi;exact OB hP h hS hR hQ (u af af) J G he
 .exact W 15 af (λw1 Z Y y=>Pd af (λw2 a0=>(M0 hP hG (Y.kept a0) hS hR (y.kept Y a0) hK (u af af) (rb af) (rc af) hi).mono (λe w' hh=>by
   obtain⟨v,e1,e2⟩:=hh;exact⟨v,e1,e2.ahead a0⟩)))
 .obtain⟨rfl,rfl⟩:=hi;exact OA h hS hR J G
 .obtain⟨rfl,rfl⟩:=hi;exact W 17 af<|λw1 Z Y y=>MZ Y hS hR y hK (hN.at t _ a)<|u af af
 .obtain⟨rfl,rfl⟩:=hi;exact W 18 af<|λw1 Z Y y=>MY Y hS hR y hK (u af af)<|rb af
 .obtain⟨rfl,rfl⟩:=hi;exact W 19 af<|λw1 Z Y y=>MX hP Y hS hR y he<|u af af
 .obtain⟨rfl,rfl⟩:=hi;exact Oz h hS hR hQ (u af af) J G he
 .obtain⟨rfl,rfl⟩:=hi;exact W 21 af<|λw1 Z Y y=>MV Y hS hR y hK (u af af)<|rb af
 obtain⟨rfl,rfl⟩:=hi;exact Oy h hS hR hQ (u af af) J G
end
end D
namespace D
open F
def GM(p:dH)(d:Dp)(K:Nat)(s':Pl)(t:Nat)(m:Dm)(g:Dg)(w w':aa):Prop:=
 ∃m' g' ρ',Tr d m g w m' g' w'/\eF p (K+p.qn) (if(s'.T t).run=true then s'.dX 2 0 t else s') m' ρ'
structure vR(p:dH) (d:Dp) (K:Nat) (s s':Pl) (t:Nat) (m:Dm) (g:Dg) (w:aa) (I:Nat) (s1:Pl) (m1:Dm) (g1:Dg) (ρ1:Nat->Nat) (wr:aa):Prop where
 tr:Tr d m g w m1 g1 wr
 si:eF p (K+I) s1 m1 ρ1
 rn:Rn p s1 t
 ng:Ng s1
 nt:s1.nt<=s.nt+I
 ev:s1.ev.length<=s.ev.length+I
 rr:hZ p t (p.qn-I) s1 s'
structure RunT(p:dH) (d:Dp) (K:Nat) (s s':Pl) (t:Nat) (m:Dm) (g:Dg) (w:aa) (I:Nat) (s1:Pl) (m1:Dm) (g1:Dg) (ρ1:Nat->Nat) (k:F.vV) (wr:aa):Prop where
 tr:Tr d m g w m1 g1 wr
 si:eF p (K+I) s1 m1 ρ1
 rn:Rn p s1 t
 ng:Ng s1
 nt:s1.nt<=s.nt+I
 ev:s1.ev.length<=s.ev.length+I
 ok:LR p (bz s1 t).f k
 rr:∃why s3,ku p s1 t k why s3/\hZ p t (p.qn-(I+1)) (if why=0 then s3 else s3.leave t (0,-why) 3 why) s'
def NH(p:dH)(d:Dp)(K:Nat)(s':Pl)(t:Nat)(m:Dm)(g:Dg)(w w':aa):Prop:=
 ∃s1 m1 g1 ρ1,Tr d m g w m1 g1 w'/\eF p (K+p.qn) s1 m1 ρ1/\t∈s1.lv/\s1.ev.length<=100000/\∃kd1,s'=(s1.vU kd1).mF t/\Nm p.n (K+p.qn) kd1 s1.M m1.G/\m1.G.fu=true
def JL(p:dH)(d:Dp)(K:Nat)(s':Pl)(t:Nat)(m:Dm)(g:Dg)(w:aa)(v:Int)(w':aa):Prop:=
 ∃s1 m1 g1 ρ1,Tr d m g w m1 g1 w'/\eF p (K+p.qn) s1 m1 ρ1/\Rn p s1 t/\s1.ev.length<=100000/\s'=s1.leave t (0,-v) 3 v
def JM(p:dH)(d:Dp)(K:Nat)(s s':Pl)(t:Nat)(m:Dm)(g:Dg)(w:aa)(I:Nat)(v:Int)(w':aa):Prop:=
 (v=0/\∃s1 m1 g1 ρ1,vR p d K s s' t m g w (I+1) s1 m1 g1 ρ1 w')\/(v=-1/\GM p d K s' t m g w w')\/(v=-2/\NH p d K s' t m g w w')\/(0<v/\v<=8/\JL p d K s' t m g w v w')
variable {p:dH}{d:Dp}{K:Nat}{s s' s1:Pl}{m m' m1:Dm}{g g' g1:Dg}{w w' wr:aa}{ρ ρ1:Nat->Nat}{t I:Nat}
section
variable (hP:PD p d)(hG:∀ f,f<p.nf->2<=p.rg f/\p.rg f<=8)(hPI:PI p)(hK:K+p.qn<900000000)(hn:s.nt+p.qn<=500000000)(he:s.ev.length+p.qn<=100000)
include hP hK hn he
omit hK hn in
theorem M6(h:vR p d K s s' t m g w I s1 m1 g1 ρ1 wr)(hI:I<p.qn)(hx:(bz s1 t).nx=p.len (bz s1 t).f):Calls prog 193 #[P0 g1.mb,ah (t:Int),.agg #[ah 0,ah 0]] wr λe w'=>∃y:Bool,e=.returned (.bool y)/\((y=true/\GM p d K s' t m g w w')\/(y=false/\∃G m2 g2 ρ2,vR p d K s s' t m g w I G m2 g2 ρ2 w'/\(G.T t).fr.length+1=(s1.T t).fr.length)):=by
 have u:=h.rr;obtain⟨k,H⟩:∃k,p.qn-I=k+1:=⟨p.qn-I-1,af⟩;rw[H]at u;let⟨r1,r2⟩:=CK h.rn hx u;have a0:=h.ev;have o:=JA (v:=(0,0)) hP h.tr.r h.si h.rn.ok h.rn.lv h.rn.wh (dV.num 0)<|lD h.si.ev;rw[pA]at o;refine dq o ?_;rintro w' ⟨m',g',J,W⟩;refine⟨_,rfl,?_⟩;by_cases i:de s1 t=0
 .refine ag ⟨fy i,m',g',ρ1,h.tr.trans J,?_⟩;rw[r1 i,av (by rw[oG h.rn i];decide)];grind[D.eF.mono]
 let⟨b1,Z,Y,b4⟩:=(nO s1 t (0,0)).2 i;let⟨k1,k2⟩:=h.rn.back i;refine ak ⟨eV i,_,m',g',ρ1,⟨h.tr.trans J,W,k1,h.ng.back t jO.z,eZ Y h.nt,ey,?_⟩,k2⟩;grind
omit hP hK hn he in
include hPI in
theorem Mk(h:vR p d K s s' t m g w I s1 m1 g1 ρ1 wr){tb fb n nr:Nat}(hQ:ph p d s1 m1 g1 wr ρ1 t tb fb n nr)(hI:I<p.qn)(hx:(bz s1 t).nx≠p.len (bz s1 t).f)(Z:(wr.setCell (az fb<|n*4+2)<|jz ((fX m1 t n).nx+1:Nat)).grownBy w' none):∃u,RunT p d K s s' t m g w I (s1.gL t) u g1 ρ1 (p.ins (bz s1 t).f (bz s1 t).nx) w'/\(u.T t).fr.length=(m1.T t).fr.length/\(fX u t n).f=(fX m1 t n).f:=by
 have o:=h.rr;obtain⟨k,H⟩:∃k,p.qn-I=k+1:=⟨p.qn-I-1,af⟩;rw[H]at o;let⟨why,s3,i1,i2⟩:=CJ h.rn hx o;let⟨W,Y⟩:=oO h.rn hx;have y:=h.rn.ff;have i:(fX m1 t n).nx=(bz s1 t).nx:=by
  have:=((h.si.T t h.rn.lv).f n (by rw[<-(h.si.T t h.rn.lv).l];exact hQ.hi)).nx;rw[show bz s1 t=du s1 t n by unfold bz;rw[hQ.hn]];exact this
 have G:=h.si.nx h.rn.lv h.rn.fw.n1<|(bz s1 t).nx+1;rw[hQ.tp,hQ.tf,<-i]at G;refine⟨_,⟨h.tr.trans<|(h.tr.r.Jo hQ.dt hQ.T<|(fX m1 t n).nx+1).kept Z,?_,W,h.ng.gL t,h.nt,h.ev,?_,why,s3,i1,?_⟩,mj m1 t n _ t,?_⟩
 .have e:s1.gL t=s1.dM t (de s1 t) {bz s1 t with nx:=(fX m1 t n).nx+1}:=by unfold Pl.gL;rw[i]
  grind
 .rw[Y];exact hPI _ y.1 _ af
 .grind
 rw[oh m1 _ hQ.hi,bf ⟨rfl,rfl⟩]
include hG
theorem MU{k:F.vV}(h:RunT p d K s s' t m g w I s1 m1 g1 ρ1 k wr){tb fb n nr:Nat}(hQ:ph p d s1 m1 g1 wr ρ1 t tb fb n nr)(hI:I<p.qn):Calls prog 194 #[P0 g1.mb,ah t,dD (g1.rb t n) nr nr,jC k.1 k.2.1 k.2.2.1 k.2.2.2] wr λe w'=>∃v:Int,e=.returned (ah v)/\JM p d K s s' t m g w I v w':=by
 let⟨why,s3,i1,o⟩:=h.rr;have a2:=h.nt;have a0:=h.ev;let⟨Z,o2⟩:=BQ h.rn af h.ok i1;have hw:=pN h.ok.1 i1;have Y:=o2.nt;have a1:=o2.PE;refine(Lf hP hG h.tr.r h.si h.rn hQ af af h.ng (lD h.si.ev) h.ok i1).mono ?_;rintro e w' ⟨v,rfl,ρ',m',g',H,h2⟩;refine⟨v,rfl,?_⟩;rcases h2 with⟨rfl,rfl,⟨kd1,rfl,hN,hF⟩,u⟩|⟨u,⟨hv,rfl⟩|⟨rfl,rfl,i⟩|⟨rfl,rfl,i⟩⟩
 .rw[bf rfl]at o;have i:(((s1.vU kd1).mF t).T t).run=false:=by
   show(((s1.vU kd1).dy t ((s1.vU kd1).T t).stop).T t).run=false;rw[dk];rfl
  exact ak<|ak<|ag ⟨rfl,s1,m',g',ρ',h.tr.trans H,u.mono af,h.rn.lv,af,kd1,qh o i,hN.mono af,hF⟩
 .have y:why≠0:=af
  rw[av y]at o;have e3:=hw.2.2 y;subst e3;have i:((s3.leave t (0,-why) 3 why).T t).run=false:=by
   rw[um h.rn.ok.lw h.rn.ht];rfl
  exact ak<|ak<|ak ⟨hv,hw.2.1,s3,m',g',ρ',h.tr.trans H,u.mono af,h.rn,af,qh o i⟩
 .rw[bf rfl]at o;have W:t∈s3.lv:=(Z.rn t ⟨h.rn.ht.1,dQ h.rn.ht.2 Y.1⟩ i).2;exact ag ⟨rfl,s3,m',g',ρ',h.tr.trans H,u.mono af,⟨Z,W,i⟩,h.ng.inst h.rn af h.ok i1,af,af,o⟩
 rw[bf rfl]at o;have e:=qh o i;subst e;refine ak<|ag ⟨rfl,m',g',ρ',h.tr.trans H,?_⟩;rw[av ey];grind[D.eF.mono]
omit hG hK hn he hP in
theorem dZ.Bk(h:dZ d m g w):Tr d m g w m.Bk g (w.setCell (az g.mb 14)<|.bool true):=h.yN 14 _ ⟨rfl,rfl,rfl,rfl,rfl,rfl,rfl,rfl⟩ (λi hi=>by
 have e:=pS 23 i af
 (repeat' rcases e with rfl|e)<;>rfl)
omit hG hK hn he hP in
theorem On(h:NH p d K s' t m g w wr):eN 195 #[P0 g.mb,ah 5,ah t,ah 0] wr λw'=>(∃v,w'.cell? (az g.mb 14)=some v)/\w'.frozen? (az g.mb 14)=false/\GM p d K s' t m g w (w'.setCell (az g.mb 14)<|.bool true):=by
 obtain⟨s1,m1,g1,ρ1,i,J,Y,h4,kd1,rfl,hN,hF⟩:=h;have W:=El 5 t 0 i.r<|eZ J.ev h4;rw[i.b]at W;refine dq W ?_;rintro w' ⟨g',o⟩;have H:=o.b.trans i.b;have u:=o.r.mc 14 af rfl;rw[H]at u;have y:=o.r.Bk;rw[H]at y;refine⟨rfl,⟨_,u.1⟩,u.2,_,g',ρ1,(i.trans o).trans y,?_⟩;have Z:(((s1.vU kd1).mF t).T t).run=false:=by
  show(((s1.vU kd1).dy t ((s1.vU kd1).T t).stop).T t).run=false;rw[dk];rfl
 rw[av ey];exact(J.vU kd1 hN).mF Y hF
omit hG hK hn he in
theorem Nh{v:Int}(h:JL p d K s' t m g w v wr):eN 196 #[P0 g.mb,ah (t:Int),ah 3,ah v,.agg #[ah 0,ah<|-v]] wr λw'=>GM p d K s' t m g w w':=by
 obtain⟨s1,m1,g1,ρ1,o,G,i,W,rfl⟩:=h;have y:=FB (u:=t) (kind:=3) (x:=v) (v:=(0,-v)) hP o.r G i.ok i.lv (dV.num _)<|eZ G.ev W;rw[pA,o.b]at y;refine dq y ?_;rintro w' ⟨m',g',J,H⟩;refine⟨rfl,m',g',ρ1,o.trans J,?_⟩;rw[av (λe=>by rw[um i.ok.lw i.ht]at e;cases e)];exact H
end
end D
namespace D
open F
variable {p:dH}{d:Dp}{K:Nat}{s s' s1:Pl}{m m' m1:Dm}{g g' g1:Dg}{w w' wr:aa}{ρ ρ1:Nat->Nat}{t I:Nat}
def O7(wr wx:aa)(X ff rb nr nx bk:Nat):Prop:=wr.grownBy wx none/\wr.heap.size<=X/\wx.heap[X]?=some (.cells #[.int .i64 (ff:Int),.slice (some ⟨rb,0,none⟩) nr nr,.int .i64 (nx:Int),.int .i64 (bk:Int)] 163 (0,0))
def PC(wr:aa)(ff rb nr nx bk:Nat):O7 wr ((wr.alloc<|.cells #[ah ff,dD rb nr nr,ah nx,ah bk] 163).drew) wr.heap.size ff rb nr nx bk:=
 ⟨bo<|ax (aw _ _) _,bm _,bl _ _⟩
theorem RunT.kept{e:aa}{k:F.vV}(h:RunT p d K s s' t m g w I s1 m1 g1 ρ1 k wr)(i:wr.grownBy e none):RunT p d K s s' t m g w I s1 m1 g1 ρ1 k e:={h with tr:=h.tr.kept i}
theorem vR.kept{e:aa}(h:vR p d K s s' t m g w I s1 m1 g1 ρ1 wr)(i:wr.grownBy e none):vR p d K s s' t m g w I s1 m1 g1 ρ1 e:={h with tr:=h.tr.kept i}
theorem Od(hP:PD p d)(hG:∀f,f<p.nf->2<=p.rg f/\p.rg f<=8)(hPI:PI p)(hK:K+p.qn<900000000)(hn:s.nt+p.qn<=500000000)(he:s.ev.length+p.qn<=100000)(h:dZ d m g w)(hS:eF p K s m ρ)(hR:Rn p s t)(hN:Ng s)(hr:hZ p t p.qn s s'):eN 145 #[P0 g.mb,ah t] w λw'=>GM p d K s' t m g w w':=by
 obtain⟨k,rfl⟩:∃k,t=k+1:=⟨t-1,gD hR.ht.1⟩;have H0:Hid (vR p d K s s' (k+1) m g w 0 s m g ρ w):=⟨Tr.refl h,hS,hR,hN,bm _,bm _,hr⟩;have cM:=hR.fw.n2;have HP:=bj hP;have HG:=bj hG;have cB:=bj hPI;have HK:=bj hK;have HN:=bj hn;have HE:=bj he;have a0:(((k+1:Nat)):Int)=(k:Int)+1:=af
 clear hP hG hPI hn he h hS hR hN hr;generalize bC:g.mb=mb at*;have aJ:=bj bC;clear bC;delta eN;go_in;go_wp2_with fail
 go_loopg [4] (p.qn*22+21) (λN i wr=>∃(I:Nat),i=ah I/\I<=p.qn/\∃s1 m1 g1 ρ1,Hid<|vR p d K s s' (k+1) m g w I s1 m1 g1 ρ1 wr/\(p.qn-I)*22+(s1.T<|k+1).fr.length<=N)
 case atStart=>exact⟨0,rfl,di _,s,m,g,ρ,H0.out,af⟩
 case round=>
  obtain⟨I,rfl,hI,s1,m1,g1,ρ1,a3⟩:=hrel;obtain⟨u,b9⟩:=a3.out;have G:=u.tr.b.trans aJ.out;have c2:wr.cell? ⟨mb,2,none⟩=some (ah p.qn):=by
   have:=(u.tr.r.mc 2 af rfl).1;rw[G]at this;rw[<-HP.out.qn];exact this
  by_cases aP:I<p.qn
  .have bG:(I:Int)<p.qn:=af
   obtain⟨tb,fb,n,nr,hQ⟩:=Rn.run HP.out u.tr.r u.si u.rn;have j6:=hQ.T.c6;rw[G]at j6;have jt:=hQ.T.t0;rw[dF]at jt;have k0:=hQ.T.k0;have k1:=hQ.T.k1;rw[hQ.r1]at k1;have k2:=hQ.T.k2;have k3:=hQ.T.k3;have aV:=hQ.n20;have bS:k<m1.nt:=gD hQ.dt.2
   have bL:m1.nt<1000000000:=(u.si.small u.rn.ok).1;have q1:(0:Int)<=n:=af
   have q2:(n:Int)<n+1:=af
   have q3:=fm (n:=n) af;have q4:IntKind.i64.wrap (n:Int)=n:=jA
   have q5:=fm (n:=k) af;have q6:IntKind.i64.wrap (k:Int)=k:=jA
   have q7:(0:Int)<=k:=af
   have q8:(k:Int)<m1.nt:=af
   have HQ:=bj hQ;have Y:Hid ((fX m1 (k+1) n).nx=(bz s1<|k+1).nx/\(fX m1 (k+1) n).f=(bz s1<|k+1).f):=by
    refine⟨?_,hQ.hf⟩;have:=((u.si.T (k+1) u.rn.lv).f n (by rw[<-(u.si.T (k+1) u.rn.lv).l];exact hQ.hi)).nx;rw[show bz s1 (k+1)=du s1 (k+1) n by unfold bz;rw[hQ.hn]];exact this
   clear hQ u aV;generalize b4:(g1.ro 1 0).2=aO at*;generalize aU:(g1.ro 5<|k+1).2=aH at*;generalize bF:(fX m1 (k+1) n).nx=nx at*;generalize H:(fX m1 (k+1) n).f=ff at*;generalize (fX m1 (k+1) n).bk.2.1=bk at*;generalize aY:g1.rb (k+1) n=rb at*;have aC:mb<wr.heap.size:=an wr _ j6;have aA:tb<wr.heap.size:=an wr _ jt;have a7:fb<wr.heap.size:=an wr _ k0;clear b4 aU;have HX:=bj<|bh bF<|bh H aY;clear bF H aY;go_wp2_with fail
   go_cut[5] (λq wx=>∃X:Nat,q=.pointer (some ⟨X,0,none⟩)/\Hid (O7 wr wx X ff rb nr nx bk))
   case first=>
    have aB:Hid (∀w',wr.grownBy w' none->w'.cell? ⟨mb,6,none⟩=some (.slice (some ⟨tb,0,none⟩) m1.nt aO)/\w'.cell? ⟨tb,k*8,none⟩=some (.slice (some ⟨fb,0,none⟩) (n+1) aH)/\w'.cell? ⟨fb,n*4,none⟩=some (ah ff)/\w'.cell? ⟨fb,n*4+1,none⟩=some (.slice (some ⟨rb,0,none⟩) nr nr)/\w'.cell? ⟨fb,n*4+2,none⟩=some (ah nx)/\w'.cell? ⟨fb,n*4+3,none⟩=some (ah bk)):=λw' hg=>⟨(ay hg (a:=⟨mb,6,none⟩) aC).1.trans j6,(ay hg (a:=⟨tb,k*8,none⟩) aA).1.trans jt,(ay hg (a:=⟨fb,n*4,none⟩) a7).1.trans k0,(ay hg (a:=⟨fb,n*4+1,none⟩) a7).1.trans k1,(ay hg (a:=⟨fb,n*4+2,none⟩) a7).1.trans k2,(ay hg (a:=⟨fb,n*4+3,none⟩) a7).1.trans k3⟩;go_region_held3 (λw'=>w'.cell? ⟨mb,6,none⟩=some (.slice (some ⟨tb,0,none⟩) m1.nt aO)/\w'.cell? ⟨tb,k*8,none⟩=some (.slice (some ⟨fb,0,none⟩) (n+1) aH)/\w'.cell? ⟨fb,n*4,none⟩=some (ah ff)/\w'.cell? ⟨fb,n*4+1,none⟩=some (.slice (some ⟨rb,0,none⟩) nr nr)/\w'.cell? ⟨fb,n*4+2,none⟩=some (ah nx)/\w'.cell? ⟨fb,n*4+3,none⟩=some (ah bk)) (first|exact aB.out _ (aw _ _)|exact aB.out _ (bo<|aw _ _)|exact aB.out _ (ax (bo<|aw _ _) _)|exact aB.out _<|bu (bu (bu (bu (ax (bo<|aw _ _) _) (ak<|bm _) _) (ak<|bm _) _) (ak<|bm _) _) (ak<|bm _) _) (fail)
    all_goals
     go_wp2_with fail
     go_meet
     case rel=>exact⟨_,rfl,PC wr ff rb nr nx bk⟩
   case rest=>
    obtain⟨X,rfl,hF⟩:=hcut;obtain⟨g3,lX,hx⟩:=hF.out;have HF:=hF;have x0:wc.cell? ⟨X,0,none⟩=some (ah ff):=fj hx
    have a8:=bj<|a3.out.1.kept g3;have aM:=bj<|a8.out.tr.r;have H:ff<p.nf:=eZ Y.out.2 a8.out.rn.ff.1
    have d0:wc.cell? ⟨mb,0,none⟩=some (.slice (some ⟨d.gb,0,none⟩) d.nf d.gc):=by
     have:=(aM.out.mc 0 af rfl).1;rw[G]at this;exact this
    have d1:wc.cell? ⟨d.gb,ff*2+1,none⟩=some (.slice (some ⟨d.cb ff,0,none⟩) (d.len ff)<|d.cc ff):=by
     have c5:=aM.out.P.2.2;rw[c5.cell (ff*2+1)<|lD HP.out.nf];unfold Na;rw[av af,show(ff*2+1)/2=ff by omega]
    have cQ:(ff:Int)<d.nf:=lD HP.out.nf
    have cD:nx<=d.len ff:=by
     have J:=a8.out.rn.ff.2;rw[<-Y.out.1,<-Y.out.2,<-HP.out.len ff H]at J;exact J
    clear g3 hx hF;go_wp2_with fail
    go_quiet (fail)
    have x2:wc.cell? ⟨X,2,none⟩=some (ah nx):=by
     have hx:=HF.out.2.2;simp[World.cell?,hx]
    have a6:Hid (vR p d K s s' (k+1) m g w I s1 m1 g1 ρ1<|wc.drewN nq):=a8.out.kept<|df (aw _ none) _;have Z:Hid (O7 wr (wc.drewN nq) X ff rb nr nx bk):=⟨df HF.out.1 _,HF.out.2.1,HF.out.2.2⟩;have b8:(wc.drewN nq).cell? ⟨X,2,none⟩=some (ah nx):=x2;clear x2 x0 d0 d1 a8 aM HF;generalize wc.drewN nq=W at*;by_cases hx:nx=d.len ff
    .have aS:=bj<|M6 HP.out HE.out a6.out aP (by rw[<-Y.out.1,<-Y.out.2,<-HP.out.len ff H];exact hx);rw[G]at aS;go_wp2_with fail
     refine aS.out.mono ?_;rintro e w5 ⟨ov,rfl,aZ⟩;have b7:=bj aZ;clear aZ b8 aS Z
     cases ov with
     |true=>
      go_wp2_with fail
      refine dg (results_none rfl _ _ _) rfl ?_;rcases b7.out with⟨_,J⟩|⟨J,_⟩
      .exact⟨rfl,J⟩
      cases J
     |false=>
      go_wp2_with fail
      have bB:Hid (∃s2 m2 g2 ρ2,vR p d K s s' (k+1) m g w I s2 m2 g2 ρ2 w5/\(s2.T<|k+1).fr.length+1=(s1.T<|k+1).fr.length):=by
       rcases b7.out with⟨J,_⟩|⟨_,J⟩
       .cases J
       exact J
      obtain⟨s2,m2,g2,ρ2,h2,a4⟩:=bB.out;go_roundg ((p.qn-I)*22+(s2.T<|k+1).fr.length)
      case rel=>exact⟨I,rfl,hI,s2,m2,g2,ρ2,h2,bm _⟩
      case measure=>omega
    have bN:¬((nx:Int)=(d.len ff:Int)):=af
    have bD:nx<d.len ff:=af
    obtain⟨bM,a4,aL⟩:=a6.out.tr.r.K (f:=ff)<|eZ HP.out.nf H;have cF:nx<9223372036854775807:=by unfold maxLen at a4;omega
    have a2:=bj<|HQ.out.kept a3.out.1.tr.r Z.out.1;have c8:=(ay Z.out.1 (a:=⟨mb,6,none⟩) aC).1.trans j6;have bQ:=(ay Z.out.1 (a:=⟨tb,k*8,none⟩) aA).1.trans jt;have bP:W.cell? ⟨fb,n*4+2,none⟩=some (ah nx):=(ay Z.out.1 (a:=⟨fb,n*4+2,none⟩) a7).1.trans k2;have bO:=a2.out.T.z 2 af
    have q9:IntKind.i64.wrap ((I:Int)+1)=(I:Int)+1:=jA
    have cG:IntKind.i64.wrap ((nx:Int)+1)=(nx:Int)+1:=jA
    have aI:=bj aL;clear j6 jt k0 k1 k2 k3 bM a4 c2;go_wp2_with fail
    clear b8;go_cut[] (λwx=>Hid<|(W.setCell ⟨fb,n*4+2,none⟩<|ah<|(nx:Int)+1).grownBy wx none)
    case first=>
     go_region
     all_goals
      go_wp2_with fail
      go_meet
      case rel=>first|exact(bo (aw _ _):World.grownBy _ _ _)|exact(aw _ _:World.grownBy _ _ _)
    case rest=>
     have aF:=hcut;clear hcut c8 bQ bP bO;have bE:(bz s1<|k+1).nx≠p.len (bz s1<|k+1).f:=by rw[<-Y.out.1,<-Y.out.2,<-HP.out.len ff H];exact hx
     obtain⟨m2,hT,a4,bH⟩:=Mk cB.out a6.out a2.out aP bE (w':=wc) (by
      rw[HX.out.1,show(((nx+1:Nat)):Int)=(nx:Int)+1 by omega];exact aF.out)
     obtain⟨cK,cS,n2,aG,a9⟩:=Rn.run HP.out hT.tr.r hT.si hT.rn;have en:n2=n:=by
      have J:=a9.T.l;rw[a4,a2.out.T.l]at J;omega
     subst en;have er:aG=nr:=by
      have J:=a9.r1;rw[bH,a2.out.r1]at J;exact J.symm
     subst er;have HI:=bj<|MU HP.out HG.out HK.out HN.out HE.out (hT.kept<|bo<|aw wc none) (a9.kept hT.tr.r<|bo<|aw wc none) aP;rw[G,HX.out.2.2,<-Y.out.1,<-Y.out.2,a0]at HI;simp only[jC]at HI;have a1:=HP.out.ins ff nx H (by rw[<-HP.out.len ff H];exact bD);have aT:X≠fb:=af
     have aK:=ch Z.out.2.2;have bA:=aI.out.lt;have b5:d.cb ff≠fb:=by
      have bZ:(ok d m1 g1 9 ff 0).bs (d.cb ff):=rfl;have bK:(ok d m1 g1 5 (k+1) 0).bs fb:=by
       show fk (g1.ro 5<|k+1).1=some fb;rw[HQ.out.T.a];rfl
      exact a3.out.1.tr.r.ne (Md<|eZ HP.out.nf H) (sK HQ.out.dt.1 HQ.out.dt.2) bZ bK af
     have aD:∀j o v,j≠fb->j<W.heap.size->W.cell? ⟨j,o,none⟩=some v->wc.cell? ⟨j,o,none⟩=some v:=λj o v hj hl hc=>by
      refine(ay aF.out (a:=⟨j,o,none⟩) (by simp[World.setCell];exact hl)).1.trans ?_;exact(bd (a:=⟨j,o,none⟩)<|ab W ⟨fb,n2*4+2,none⟩ _ j hj).trans hc
     have y1:wc.cell? ⟨X,1,none⟩=some (.slice (some ⟨rb,0,none⟩) aG aG):=aD X 1 _ aT aK (by
      have hx:=Z.out.2.2;simp[World.cell?,hx])
     have y2:wc.cell? ⟨X,2,none⟩=some (ah nx):=aD X 2 _ aT aK (by
      have hx:=Z.out.2.2;simp[World.cell?,hx])
     have cd:∀j,j<4->wc.cell? ⟨d.cb ff,nx*4+j,none⟩=some (GW d ff<|nx*4+j):=λj hj=>aD _ _ _ b5 bA<|aI.out.cell (nx*4+j) af;have e0:wc.cell? ⟨d.cb ff,nx*4,none⟩=some (ah ((p.ins ff nx).1:Int)):=by
      have h9:=cd 0 af;unfold GW at h9;rw[show(nx*4+0)/4=nx by omega,bf af,a1]at h9;exact h9
     have e1:wc.cell? ⟨d.cb ff,nx*4+1,none⟩=some (ah ((p.ins ff nx).2.1:Int)):=by
      have h9:=cd 1 af;unfold GW at h9;rw[show(nx*4+1)/4=nx by omega,av af,bf af,a1]at h9;exact h9
     have e2:wc.cell? ⟨d.cb ff,nx*4+2,none⟩=some (ah ((p.ins ff nx).2.2.1:Int)):=by
      have h9:=cd 2 af;unfold GW at h9;rw[show(nx*4+2)/4=nx by omega,av af,av af,bf af,a1]at h9;exact h9
     have e3:wc.cell? ⟨d.cb ff,nx*4+3,none⟩=some (ah ((p.ins ff nx).2.2.2:Int)):=by
      have h9:=cd 3 af;unfold GW at h9;rw[show(nx*4+3)/4=nx by omega,av af,av af,av af,a1]at h9;exact h9
     have cJ:(nx:Int)<(d.len ff:Int):=af
     have cI:IntKind.i64.wrap (nx:Int)=nx:=jA
     have cO:=a6.out.rn.fw.n2;generalize p.ins ff nx=kk at*;clear hT a9 a1 aD cd aI aF Z a2 a6 bH a4 bE aT aK bA b5 lX HQ Y;go_wp2_with fail
     go_cut[8] (λq wx=>∃v:Int,q=ah v/\Hid (JM p d K s s' (k+1) m g w I v wx))
     case first=>
      go_region_with (go_at_call 194;refine HI.out.mono ?_;rintro e w6 ⟨v,rfl,hA⟩;have HA:=bj hA;clear hA)
      all_goals
       go_wp2_with fail
       go_meet
       case rel=>exact⟨v,rfl,HA⟩
     case rest=>
      obtain⟨v,rfl,hA⟩:=hcut;clear HI y1 y2 e0 e1 e2 e3;rcases hA.out with⟨rfl,h0⟩|⟨rfl,J⟩|⟨rfl,h2⟩|⟨v1,v8,h3⟩
      .obtain⟨s2,bX,g2,ρ2,h2⟩:=h0;have cC:=h2.rn.fw.n2;have H2:=bj h2;clear h2 hA;go_wp2_with fail
       go_roundg ((p.qn-(I+1))*22+(s2.T<|k+1).fr.length)
       case rel=>exact⟨I+1,iI,af,s2,bX,g2,ρ2,H2.out,bm _⟩
       case measure=>omega
      .have H1:=bj J;clear J hA;go_wp2_with fail
       refine dg (results_none rfl _ _ _) rfl ?_;exact⟨rfl,H1.out⟩
      .have HM:=bj<|On h2;rw[aJ.out,a0]at HM;clear h2 hA;go_wp2_with fail
       refine HM.out.mono ?_;rintro e w7 ⟨rfl,⟨cP,cR⟩,cH,hE⟩;have aR:=bj hE;clear hE HM;go_wp2_with fail
       refine dg (results_none rfl _ _ _) rfl ?_;exact⟨rfl,aR.out⟩
      have HM:=bj<|Nh HP.out h3;rw[aJ.out,a0]at HM;clear h3 hA
      have b3:IntKind.i64.wrap (-v)=-v:=jA
      go_wp2_with fail
      refine HM.out.mono ?_;rintro e w7 ⟨rfl,hE⟩;have aR:=bj hE;clear hE HM;go_wp2_with fail
      refine dg (results_none rfl _ _ _) rfl ?_;exact⟨rfl,aR.out⟩
  have aW:I=p.qn:=af
  have bG:¬((I:Int)<p.qn):=af
  obtain⟨i0,hi,bW,bI,bY⟩:=info_parts Tryz.th;have a5:=(iP u.si<|k+1).2 u.rn.ht;obtain⟨c7,z7⟩:=u.tr.r.mc 7 af (v:=.slice (g1.ro 2 0).1 m1.q.length (g1.ro 2 0).2) rfl;rw[G]at c7 z7;obtain⟨tb,e1,hT,tc⟩:=u.tr.r.tc a5;have c6:wr.cell? ⟨mb,6,none⟩=some (.slice (some ⟨tb,0,none⟩) m1.nt (g1.ro 1 0).2):=by
   rw[show some (⟨tb,0,none⟩:Addr)=(g1.ro 1 0).1 by rw[e1],<-G];exact(u.tr.r.mc 6 af rfl).1
  obtain⟨t1,z1⟩:=tc.c 1 af;rw[dF]at t1 z1
  have bL:=(u.si.small u.rn.ok).1;have cL:=(u.si.small u.rn.ok).2
  have q5:=fm (n:=k) af;have q6:IntKind.i64.wrap (k:Int)=k:=jA
  have q7:(0:Int)<=k:=af
  have q8:(k:Int)<m1.nt:=af
  have aC:mb<wr.heap.size:=an wr _ c6;have aA:tb<wr.heap.size:=an wr _ t1;have HQ:Hid (gj wr 3 (.slice (g1.ro 2 0).1 m1.q.length (g1.ro 2 0).2)<|ke m1.q):=u.tr.r.Q;have aN:Hid (∀j,(Value.slice (g1.ro 2 0).1 m1.q.length (g1.ro 2 0).2).ownBlock=some j->j≠mb/\j≠tb/\j<wr.heap.size):=λj hj=>by
   have b6:fk (g1.ro 2 0).1=some j:=by rw[<-dJ (g1.ro 2 0).1 m1.q.length (g1.ro 2 0).2];exact hj
   refine⟨?_,?_,HQ.out.lt j hj⟩
   .rw[<-G];exact u.tr.r.ne (x:=2) (y:=0) (z:=0) (x':=0) (y':=0) (z':=0) (pn af) rfl b6 rfl af
   exact u.tr.r.ne (x:=2) (y:=0) (z:=0) (x':=1) (y':=0) (z':=0) (pn af) (pn af) b6 ((DI d m1 e1 tb).2 rfl) af
  have HL:=bj<|jM m1.q;have bR:=bj<|bh u<|bh e1 a5;generalize tC (m1.T<|k+1) (js m1 g1 5<|k+1) 1=o1 at t1;clear u hT tc e1 a5 a3;go_wp2_with (at_builtin;refine ju _ rfl (.tmp 118) (.tmp 120) 54 rfl 3 i0 _ 8 Tryz.jw hi bW bI bY rfl _ (ke m1.q) rfl (HQ.out.block ?cq) _ _ (ah<|(k:Int)+1) rfl ?c1 rfl ?c3 ?c4 ?_)
  case cq=>
   intro j hj;exact au _ _ _ (aN.out j hj).2.2
  try case c1=>simp[go_sem]
  try case c3=>rw[HL.out];unfold maxLen;omega
  try case c4=>rw[HL.out];omega
  intro qb off cap w6 aQ hg aX;rw[HL.out]at aQ;have bJ:=bj aQ;have bT:=bj hg;have cA:=bj aX;have b0:w6.heap[mb]?=wr.heap[mb]?:=by rw[hg.block mb fV<|λh=>(aN.out mb h.symm).1 rfl,au _ _ _ aC]
  have bt:w6.heap[tb]?=wr.heap[tb]?:=by rw[hg.block tb fV<|λh=>(aN.out tb h.symm).2.1 rfl,au _ _ _ aA]
  have d7:=(bd (a:=⟨mb,7,none⟩) b0).trans c7;have f7:=(dv (a:=⟨mb,7,none⟩) b0).trans z7;have d6:=(bd (a:=⟨mb,6,none⟩) b0).trans c6;have d1:=(bd (a:=⟨tb,k*8+1,none⟩) bt).trans t1;have f1:=(dv (a:=⟨tb,k*8+1,none⟩) bt).trans z1;clear aQ hg aX b0 bt c7 z7 c6 t1 z1;go_wp2_with fail
  go_end0;obtain⟨u,e1,a5⟩:=bR.out;have h0:=u.tr.kept<|ax (aw wr none)<|.cells #[ah<|(k:Int)+1] 3;have bU:gj w6 3 (.slice (some ⟨qb,off,none⟩) (m1.q.length+1) cap) (ke m1.q++[jz ((k+1:Nat):Int)]):=eZ a0 bJ.out
  have J:=Tr.tv (t:=k+1) (b:=qb) (off:=off) (c:=cap) h0 bU bT.out<|cA.out.imp id (λe=>by rw[e];simp);have aE:=(u.si.T _ u.rn.lv).h.h0 u.rn.wh;have h2:=J.r.tG (t:=k+1) (tb:=tb) a5 (by rw[sr g1 _ af];exact e1) 1 af (ah 1) (x':=m1.T<|k+1) rfl (λj hj=>by
   have hc:j=0\/j=1\/j=2\/j=3\/j=4\/j=5\/j=6\/j=7:=af
   rcases hc with rfl|rfl|rfl|rfl|rfl|rfl|rfl|rfl
   .rfl
   .show jz ((m1.T<|k+1).how:Int)=_;rw[aE];rfl
   .rfl
   .rfl
   .rfl
   .rfl
   .rfl
   rfl)
  rw[dF]at h2;have h3:=J.trans h2;rw[G]at h3;have bV:s'=s1:=by
   have h9:=u.rr;rw[aW,Nat.sub_self]at h9;exact h9
  have h4:=u.si.join (x:=m1.T<|k+1) u.rn.ok u.rn.lv (by rw[u.rn.wh];intro e;cases e) ⟨rfl,rfl,rfl,aE⟩;refine⟨rfl,_,_,ρ1,eZ HL.out h3,?_⟩;rw[bV,bf u.rn.run,<-aW];exact h4
end D
namespace D
open F
variable {p:dH}{d:Dp}{K:Nat}{s s':Pl}{m m':Dm}{g g':Dg}{w w':aa}{ρ:Nat->Nat}
theorem Ma{b k:Nat}{l:List Nat}{v:B.V}(hP:PD p d)(h:dZ d m g w)(hS:eF p K s m ρ)(u:Ok p s)(Z:k<4)(hq:s.q 4 k=b :: l)(hv:dV p s v):eN 144 #[P0 g.mb,ah b,vA<|tr ρ v] w λw'=>∃m' g',Tr d m g w m' g' w'/\eF p K (s.gk b v) m' ρ:=by
 have hl:fQ s 4 k:=ak<|ak<|ag ⟨rfl,Z⟩;have y:b∈s.q 4 k:=by rw[hq];simp
 have o:=u.ql 4 k hl b y;let⟨H,J⟩:=u.lw.b 4 k hl b y;let⟨j,k1,k2,k3⟩:=u.ww b H 4 k J<|ag rfl;let⟨_,_,i,i1,i2⟩:=(hS.T b o).h.h4 k J;rw[k1]at i1;injection i1 with i1;subst i1;have Y:=hS.T b o;have G:=u.fw b o trivial;have W:(s.T b).fr.length≠0:=λe=>k2<|dh.1 e;have a0:(qz m b).f=(du s b<|(s.T b).fr.length-1).f:=by
  unfold qz qE;rw[Y.l];exact(Y.f _ af).f
 refine(AB (tr ρ v) h ((iP hS b).2 H) (hS.small u).1 (hS.small u).2<|λ_=>⟨eZ Y.l W,eZ Y.l G.n2,?_⟩).mono ?_
 .grind[Int.toNat_natCast,du,D.PD.rg,F.FW.f]
 rintro e w' ⟨rfl,g',h'⟩;exact⟨rfl,_,g',h',hS.gk u o trivial k1 i2 hv⟩
abbrev LS(z:Int)(y:Nat):Value:=.agg #[.int .i64 z,.int .u8 (y:Int)]
theorem Ld{mb y:Nat}{z:Int}(hz:z<0):eN 142 #[P0 mb,LS z y] w λw'=>w.grownBy w' none:=by
 delta eN;go_in;go_wp2
 simp[dg,results_none,ax,aw]
theorem Lc{mb y:Nat}{z:Int}(i:¬z<0)(hz:3<z):eN 142 #[P0 mb,LS z y] w λw'=>w.grownBy w' none:=by
 delta eN;go_in;go_wp2
 simp[dg,results_none,ax,aw]
theorem IA{mb y k b:Nat}{R:aa->Prop}(hk:k<4)(hy:y<256)(hb:b≠0)(J:∀w1,w.grownBy w1 none->dC 192 #[P0 mb,ah 3,ah k] w1 (ah b) λw'=>w1.grownBy w' none)(G:∀w1,w.grownBy w1 none->eN 144 #[P0 mb,ah b,.agg #[ah 0,ah y]] w1 λw'=>R w'):eN 142 #[P0 mb,LS (k:Int) y] w λw'=>R w':=by
 have k1:¬((k:Int)<0):=af
 have k2:¬(3<(k:Int)):=af
 have a0:(0:Int)<b:=af
 have a1:IntKind.i64.wrap (y:Int)=y:=jA
 delta eN;go_in;go_wp2_with fail
 refine dq (bj<|J _<|ax (aw w none)<|.cells #[ah k,dz y] 169) λo i=>?_;have u:=bj<|ar (ax (aw _ _) _) i;have b1:dW o (fp w) 1=some (dz y):=by simp[World.cell?,da i (bl _ _) ey]
 have Y:=bj<|(bj G).out o u;go_wp2_with fail
 refine dq Y λw6 hR=>?_;have HR:=bj hR;go_wp2
 go_end0;grind
theorem IB{mb y k n c:Nat}{ad:Option Addr}(hk:k<4)(hn:64<=n)(H:w.cell? (az mb<|8+k)=some (.slice ad n c))(W:∀w1,w.grownBy w1 none->dC 192 #[P0 mb,ah 3,ah k] w1 (ah 0) λw'=>w1.grownBy w' none):eN 142 #[P0 mb,LS (k:Int) y] w λw'=>w.grownBy w' none:=by
 have k1:¬((k:Int)<0):=af
 have k2:¬(3<(k:Int)):=af
 have k3:(k:Int)<4:=af
 have k4:(0:Int)<=k:=af
 have Z:¬((n:Int)<64):=af
 delta eN;go_in;go_wp2_with fail
 refine dq (bj<|W _<|ax (aw w none)<|.cells #[ah k,dz y] 169) λu i=>?_;have o:=bj<|ar (ax (aw _ _) _) i;have b0:dW u (fp w) 0=some (ah k):=by simp[World.cell?,da i (bl _ _) ey]
 have c8:=(ay o (a:=az mb<|8+k)<|an w _ H).1.trans H;go_wp2
 go_quiet (fail)
 go_wp2
 go_end0;exact⟨rfl,df o _⟩
def Tryz.Lh:(prog.info? 5).map (λi=>(i.zero,i.size,i.bytes))=some (some<|dz 0,1,1):=by kernel_rfl
def Tryz.underlying86:prog.underlying 86=some (.slice 5):=by kernel_rfl
def JN(w:aa)(mb k y n c:Nat)(ad:Option Addr)(xs:List Value)(w':aa):Prop:=
 ∃b off cap w1 w6,w.grownBy w1 none/\gj w6 5 (.slice (some ⟨b,off,none⟩) (xs.length+1) cap) (xs++[.int .u8 (y:Int)])/\w1.grownBy w6 (Value.slice ad n c).ownBlock/\((Value.slice ad n c).ownBlock=some b\/b=w1.heap.size)/\(w6.setCell ⟨mb,8+k,none⟩<|.slice (some ⟨b,off,none⟩) (xs.length+1) cap).grownBy w' none
theorem Le{mb y k n c:Nat}{ad:Option Addr}{xs:List Value}(hk:k<4)(hn:n<64)(aL:xs.length<64)(h8:w.cell? (az mb<|8+k)=some (.slice ad n c)/\w.frozen? (az mb<|8+k)=false)(hq:gj w 5 (.slice ad n c) xs)(aC:∀j,(Value.slice ad n c).ownBlock=some j->j≠mb)(H1:∀w1,w.grownBy w1 none->dC 192 #[P0 mb,ah 3,ah k] w1 (ah 0) λw'=>w1.grownBy w' none):eN 142 #[P0 mb,LS (k:Int) y] w λw'=>JN w mb k y n c ad xs w':=by
 obtain⟨i0,hi,aE,aB,a8⟩:=info_parts Tryz.Lh;have k1:¬((k:Int)<0):=af
 have k2:¬(3<(k:Int)):=af
 have k3:(k:Int)<4:=af
 have k4:(0:Int)<=k:=af
 have aM:(n:Int)<64:=af
 obtain⟨h8,y8⟩:=h8;have aI:mb<w.heap.size:=an w _ h8;have HQ:=bj hq;have a2:Hid (∀j,(Value.slice ad n c).ownBlock=some j->j≠mb/\j≠w.heap.size):=λj hj=>⟨aC j hj,by have:=hq.lt j hj;omega⟩;have HA:=bj<|H1 _<|ax (aw w none)<|.cells #[ah k,dz y] 169;clear H1 hq aC;delta eN;go_in;go_wp2_with fail
 refine dq HA λw5 a3=>?_;have a0:=bj<|ar (ax (aw _ _) _) a3;have x5:=da a3 (bl _ _) ey;have aA:=bj x5;have aK:w5.cell? (az w.heap.size 0)=some (ah k):=fj x5
 have aD:=(ay a0 (a:=az mb<|8+k) aI).1.trans h8;have aH:=(ay a0 (a:=az mb<|8+k) aI).2.trans y8;have a9:=bj aH;have aF:=bj aD;clear a3 x5 HA h8 y8 aH;go_wp2_with fail
 go_quiet (fail)
 go_wp2_with fail
 clear aK aD;have a5:Hid (w.grownBy (w5.drewN nq) none):=df a0 _;have c8:(w5.drewN nq).cell? (az mb<|8+k)=some (.slice ad n c):=aF;have z8:(w5.drewN nq).frozen? (az mb<|8+k)=false:=a9;have x5:(w5.drewN nq).heap[w.heap.size]?=some (.cells #[ah k,dz y] 169 (0,0)):=aA;clear aF a9 aA a0;generalize w5.drewN nq=W at*;have b0:W.cell? (az w.heap.size 0)=some (ah k):=fj x5
 have b1:W.cell? (az w.heap.size 1)=some (dz y):=fj x5
 have Z:=ch x5;have aG:mb<W.heap.size:=an W _ c8;have aJ:w.heap.size≠mb:=af
 have a1:=bj<|HQ.block<|λj hj=>a5.block j (HQ.lt j hj) je;clear x5 HQ;have H:Hid (∀w':aa,w'.heap[w.heap.size]?=W.heap[w.heap.size]?->(λw'=>w'.cell? (az w.heap.size 0)=some (ah k)/\w'.cell? (az w.heap.size 1)=some (dz y)) w'):=λw' h2=>⟨(bd (a:=az w.heap.size 0) h2).trans b0,(bd (a:=az w.heap.size 1) h2).trans b1⟩;refine wp_region_held_drew (S:=(λw'=>w'.cell? (az w.heap.size 0)=some (ah k)/\w'.cell? (az w.heap.size 1)=some (dz y))) eW (H _ rfl)<|λu=>?_;refine wpAnyH_take (i:=0) (v:=?v1) rfl eW eW eW (λ_ _ _ h=>h) (ag ⟨by rfl,?hy1⟩) qD ?rest1
 case hy1=>
  intro w' o;try dsimp only at o
  first|(go_simp;done)|(go_simp;with_reducible rfl)
 try simp only[Act.put,bp,cn,cr]
 refine wpAnyH_take (i:=1) (v:=?v2) rfl eW eW eW (λ_ _ _ h=>h) (ag ⟨by rfl,?hy2⟩) qD ?rest2
 case hy2=>
  intro w' o;try dsimp only at o
  first|(go_simp;done)|(go_simp;with_reducible rfl)
 try simp only[Act.put,bp,cn,cr]
 refine wpAnyH_take (i:=2) (v:=?v3) rfl eW eW eW (λ_ _ _ h=>h) (ag ⟨by rfl,?hy3⟩) qD ?rest3
 case hy3=>
  intro w' o;try dsimp only at o
  first|(go_simp;done)|(go_simp;with_reducible rfl)
 try simp only[Act.put,bp,cn,cr]
 refine wpAnyH_take (i:=3) (v:=?v4) rfl eW eW eW (λ_ _ _ h=>h) (ag ⟨by rfl,?hy4⟩) qD ?rest4
 case hy4=>
  intro w' o;try dsimp only at o
  first|(go_simp;done)|(go_simp;with_reducible rfl)
 try simp only[Act.put,bp,cn,cr]
 refine wpAnyH_take (i:=4) (v:=?v5) rfl eW eW eW (λ_ _ _ h=>h) (ag ⟨by rfl,?hy5⟩) qD ?rest5
 case hy5=>
  intro w' o;try dsimp only at o
  first|(go_simp;done)|(go_simp;with_reducible rfl)
 try simp only[Act.put,bp,cn,cr]
 refine wpAnyH_take (i:=5) (v:=?v6) rfl eW eW eW (λ_ _ _ h=>h) (ag ⟨by rfl,?hy6⟩) qD ?rest6
 case hy6=>
  intro w' o;try dsimp only at o
  first|(go_simp;done)|(go_simp;with_reducible rfl)
 try simp only[Act.put,bp,cn,cr]
 refine wpAnyH_take (i:=6) (v:=?v7) rfl eW eW eW (λ_ _ _ h=>h) (ag ⟨by rfl,?hy7⟩) qD ?rest7
 case hy7=>
  intro w' o;try dsimp only at o
  first|(go_simp;done)|(go_simp;with_reducible rfl)
 try simp only[Act.put,bp,cn,cr]
 refine wpAnyH_take (i:=7) (v:=?v8) rfl eW eW eW (λ_ _ _ h=>h) (ag ⟨by rfl,?hy8⟩) qD ?rest8
 case hy8=>
  intro w' o;try dsimp only at o
  first|(go_simp;done)|(go_simp;with_reducible rfl)
 try simp only[Act.put,bp,cn,cr]
 refine wpAnyH_take (i:=8) (v:=?v9) rfl eW eW eW (λ_ _ _ h=>h) (ag ⟨by rfl,?hy9⟩) qD ?rest9
 case hy9=>
  intro w' o;try dsimp only at o
  first|(go_simp;done)|(go_simp;with_reducible rfl)
 try simp only[Act.put,bp,cn,cr]
 refine wpAnyH_take (i:=10) (v:=?v10) rfl eW eW eW (λ_ _ _ h=>h) (ag ⟨by rfl,?hy10⟩) qD ?rest10
 case hy10=>
  intro w' o;try dsimp only at o
  first|(go_simp;done)|(go_simp;with_reducible rfl)
 try simp only[Act.put,bp,cn,cr]
 refine wpAnyH_take (i:=11) (v:=?v11) rfl eW eW eW (λ_ _ _ h=>h) (ag ⟨by rfl,?hy11⟩) qD ?rest11
 case hy11=>
  intro w' o;try dsimp only at o
  first|(go_simp;done)|(go_simp;with_reducible rfl)
 try simp only[Act.put,bp,cn,cr]
 refine wpAnyH_take (i:=14) (v:=?v12) rfl eW eW eW (λ_ _ _ h=>h) (ag ⟨by rfl,?hy12⟩) qD ?rest12
 case hy12=>
  intro w' o;try dsimp only at o
  first|(go_simp;done)|(go_simp;with_reducible rfl)
 try simp only[Act.put,bp,cn,cr]
 refine wpAnyH_take (i:=15) (v:=?v13) rfl eW eW eW (λ_ _ _ h=>h) (ag ⟨by rfl,?hy13⟩) qD ?rest13
 case hy13=>
  intro w' o;try dsimp only at o
  first|(go_simp;done)|(go_simp;with_reducible rfl)
 try simp only[Act.put,bp,cn,cr]
 refine wpAnyH_ready (rs:=[9,12]) eW eG ?_;refine AllReadyH.cons rfl (λK hK=>?way1) (AllReadyH.cons rfl (λK hK=>?way2) AllReadyH.nil)
 case way1=>
  go_simp
  refine hK _ _ ?hs14 (λu=>?_)
  case hs14=>exact H _ rfl
  clear hK K;try simp only[Act.put,bp,cn,cr]
  refine wpAnyH_ready (rs:=[12]) eW eG ?_;refine AllReadyH.cons rfl (λK hK=>?_) AllReadyH.nil;go_simp
  refine hK _ _ ?hs15 (λu=>?_)
  case hs15=>exact H _<|au _ _ _ Z
  clear hK K;try simp only[Act.put,bp,cn,cr]
  refine wpAnyH_ready (rs:=[13]) eW eG ?_;refine AllReadyH.cons rfl (λK hK=>?_) AllReadyH.nil;refine mf _ rfl (.tmp 44) (.tmp 47) 86 rfl 5 i0 _ 1 Tryz.underlying86 hi aE aB a8 rfl (.slice ad n c) xs mS (a1.block<|λj hj=>au _ _ _<|a1.lt j hj) (az W.heap.size 0) 1 (dz y) mS (by simp[go_sem]) rfl pY af ?_;intro qb off cap w6 Y G J;have a4:=bj Y;have a6:=bj G;have a7:=bj J;have b6:=(G.block w.heap.size fV<|λe=>(a2 _ e.symm).2 rfl).trans<|au _ _ _ Z;have m6:=(G.block mb fV<|λe=>(a2 _ e.symm).1 rfl).trans<|au _ _ _ aG;have d8:w6.cell? (az mb<|8+k)=some (.slice ad n c):=(bd (a:=az mb<|8+k) m6).trans c8;have f8:w6.frozen? (az mb<|8+k)=false:=(dv (a:=az mb<|8+k) m6).trans z8;clear Y G J m6;refine hK _ _ ?hs16 (λu=>?_)
  case hs16=>exact H _ b6
  clear hK K;try simp only[Act.put,bp,cn,cr]
  refine wpAnyH_take (i:=16) (v:=?v17) rfl eW eW eW (λ_ _ _ h=>h) (ag ⟨by rfl,?hy17⟩) qD ?rest17
  case hy17=>
   intro w' o;try dsimp only at o
   first|(go_simp;done)|(go_simp;with_reducible rfl)
  try simp only[Act.put,bp,cn,cr]
  refine wpAnyH_ready (rs:=[17]) eW eG ?_;refine AllReadyH.cons rfl (λK hK=>?_) AllReadyH.nil;go_simp
  refine hK _ _ ?hs18 (λu=>?_)
  case hs18=>exact H _<|(ab _ _ _ _ aJ).trans b6
  clear hK K;try simp only[Act.put,bp,cn,cr]
  refine wpAnyH_done eW ?_ _;go_wp2_with fail
  go_end0;exact⟨rfl,qb,off,cap,_,w6,ax (bo a5) _,a4,a6,a7,aw _ _⟩
 case way2=>
  go_simp
  refine hK _ _ ?hs19 (λu=>?_)
  case hs19=>exact H _<|au _ _ _ Z
  clear hK K;try simp only[Act.put,bp,cn,cr]
  refine wpAnyH_ready (rs:=[9]) eW eG ?_;refine AllReadyH.cons rfl (λK hK=>?_) AllReadyH.nil;go_simp
  refine hK _ _ ?hs20 (λu=>?_)
  case hs20=>exact H _<|au _ _ _ Z
  clear hK K;try simp only[Act.put,bp,cn,cr]
  refine wpAnyH_ready (rs:=[13]) eW eG ?_;refine AllReadyH.cons rfl (λK hK=>?_) AllReadyH.nil;refine mf _ rfl (.tmp 44) (.tmp 47) 86 rfl 5 i0 _ 1 Tryz.underlying86 hi aE aB a8 rfl (.slice ad n c) xs mS (a1.block<|λj hj=>au _ _ _<|a1.lt j hj) (az W.heap.size 0) 1 (dz y) mS (by simp[go_sem]) rfl pY af ?_;intro qb off cap w6 Y G J;have a4:=bj Y;have a6:=bj G;have a7:=bj J;have b6:=(G.block w.heap.size fV<|λe=>(a2 _ e.symm).2 rfl).trans<|au _ _ _ Z;have m6:=(G.block mb fV<|λe=>(a2 _ e.symm).1 rfl).trans<|au _ _ _ aG;have d8:=(bd (a:=az mb<|8+k) m6).trans c8;have f8:=(dv (a:=az mb<|8+k) m6).trans z8;clear Y G J m6;refine hK _ _ ?hs21 (λu=>?_)
  case hs21=>exact H _ b6
  clear hK K;try simp only[Act.put,bp,cn,cr]
  refine wpAnyH_take (i:=16) (v:=?v22) rfl eW eW eW (λ_ _ _ h=>h) (ag ⟨by rfl,?hy22⟩) qD ?rest22
  case hy22=>
   intro w' o;try dsimp only at o
   first|(go_simp;done)|(go_simp;with_reducible rfl)
  try simp only[Act.put,bp,cn,cr]
  refine wpAnyH_ready (rs:=[17]) eW eG ?_;refine AllReadyH.cons rfl (λK hK=>?_) AllReadyH.nil;go_simp
  refine hK _ _ ?hs23 (λu=>?_)
  case hs23=>exact H _<|(ab _ _ _ _ aJ).trans b6
  clear hK K;try simp only[Act.put,bp,cn,cr]
  refine wpAnyH_done eW ?_ _;go_wp2_with fail
  go_end0;exact⟨rfl,qb,off,cap,_,w6,ax (bo a5) _,a4,a6,a7,aw _ _⟩
theorem dZ.OY{p:Dp}(h:dZ p m g w){k y:Nat}(hk:k<4)(hA:JN w g.mb k y (m.fA k).length (g.ro 10 k).2 (g.ro 10 k).1 (iR<|m.fA k) w'):∃g',Tr p m g w (m.fR k<|m.fA k++[y]) g' w':=by
 obtain⟨b,off,cap,w1,w6,Y,h2,u,h4,h5⟩:=hA;rw[dJ _ _ _]at u h4;have i:=h.kept Y;have H:∀j,fk (g.ro 10 k).1=some j->j≠g.mb:=λj o=>h.ne (x:=10) (y:=k) (z:=0) (x':=0) (y':=0) (z':=0) (wD hk) rfl o rfl af;have W:b≠g.mb:=by
  rcases h4 with e|e
  .grind
  have:=i.M.lt;omega
 have G:(iR<|m.fA k).length=(m.fA k).length:=by unfold iR;rw[eD]
 have hl:(m.fA k++[y]).length=(m.fA k).length+1:=kh db
 rw[G]at h2 h5;have hT:=Tr.fR ((Tr.refl h).kept Y) hk (l:=m.fA k++[y]) (r:=(some<|az b off,cap)) (w':=iA w6 g.mb (8+k)<|.slice (some<|az b off) ((m.fA k).length+1) cap) (bq (S:=λj=>j=g.mb\/fk (g.ro 10 k).1=some j) (a:=az g.mb<|8+k) ⟨u.os,u.tape,u.output,u.size,λj o hn=>u.block j o<|λe=>hn<|ak e.symm⟩ (ag<|ag rfl) _) (by rw[hl];exact(i.M.block<|u.block g.mb i.M.lt<|λe=>H g.mb e.symm rfl).eE (8+k) _) (by
  rw[hl,show iR (m.fA k++[y])=iR (m.fA k)++[dz y] by grind[iR]];grind[o,Below.heap_setCell,Value.ownBlock,gj.block]) (λj o=>by
  have J:j=b:=by
   have:some b=some j:=o;injection this with this;exact this.symm
  subst J;rcases h4 with e|e
  .grind
  exact ak ⟨i.fresh af,gD Y.size⟩)
 exact⟨_,hT.kept h5⟩
theorem Lg{z:Int}{y:Nat}(hP:PD p d)(h:dZ d m g w)(hS:eF p K s m ρ)(Z:Ok p s)(hy:y<256)(a2:s.nt≠0):eN 142 #[P0 g.mb,LS z y] w λw'=>∃m' g',Tr d m g w m' g' w'/\eF p K (s.recv (z,y)) m' ρ:=by
 by_cases z0:z<0
 .have J:s.recv (z,y)=s:=by unfold Pl.recv;rw[av<|λe=>by omega]
  rw[J];refine dq (Ld z0) λw' i=>?_;exact⟨rfl,m,g,(Tr.refl h).kept i,hS⟩
 by_cases z3:3<z
 .have J:s.recv (z,y)=s:=by unfold Pl.recv;rw[av<|λe=>by omega]
  rw[J];refine dq (Lc z0 z3) λw' i=>?_;exact⟨rfl,m,g,(Tr.refl h).kept i,hS⟩
 obtain⟨k,rfl⟩:∃k:Nat,z=(k:Int):=⟨z.toNat,af⟩;have o:k<4:=af
 have J:s.recv ((k:Int),y)=s.pG k y:=by unfold Pl.recv;rw[bf ⟨af,af⟩];rfl
 rw[J];have hl:fQ s 4 k:=ak<|ak<|ag ⟨rfl,o⟩;have W:m.nt≠0:=eZ hS.nt a2
 unfold Pl.pG
 cases hq:s.q 4 k with
 |cons u r=>
  have a3:u≠0:=by
   have:=(Z.lw.b 4 k hl u ey).1.1;omega
  refine IA (b:=u) (R:=λw'=>∃m' g',Tr d m g w m' g' w'/\eF p K (s.gk u (0,(y:Int))) m' ρ) o hy a3 (λw1 i=>?_)<|λw1 i=>?_
  .refine(A1 (h.kept i) W 3 k).mono ?_;rintro e w' ⟨b,rfl,_,hb,G⟩;rcases hS.first Z hl (ag rfl) hb with⟨_,e⟩|⟨l,e⟩
   .grind
   grind
  have hW:=Ma (v:=(0,(y:Int))) hP (h.kept i) hS Z o hq<|dV.num _;rw[pA]at hW;refine dq hW ?_;rintro w' ⟨m',g',Y,h2⟩;exact⟨rfl,m',g',Y.ahead i,h2⟩
 |nil=>
  have hF:∀w1,iY w w1->dC 192 #[P0 g.mb,ah 3,ah k] w1 (ah 0) λw'=>iY w1 w':=λw1 i=>by
   refine(A1 (h.kept i) W 3 k).mono ?_;rintro e w' ⟨b,rfl,_,hb,G⟩;rcases hS.first Z hl (ag rfl) hb with⟨e,_⟩|⟨l,e⟩
   .grind
   grind
  have h8:=h.bc o;have a4:(m.fA k).length=(s.fA k).length:=by rw[hS.yw]
  by_cases H:(s.fA k).length<64
  .show eN 142 _ w λw'=>∃m' g',Tr d m g w m' g' w'/\eF p K (if(s.fA k).length<64 then s.fR k (s.fA k++[y]) else s) m' ρ;rw[bf H];have a1:∀j,(js m g 10 k).ownBlock=some j->j≠g.mb:=λj hj=>by
    have a0:fk (g.ro 10 k).1=some j:=by rw[<-dJ (g.ro 10 k).1 (sS m 10 k) (g.ro 10 k).2];exact hj
    exact h.ne (x:=10) (y:=k) (z:=0) (x':=0) (y':=0) (z':=0) (wD o) rfl a0 rfl af
   refine dq (Le (y:=y) o (n:=(m.fA k).length) (c:=(g.ro 10 k).2) (ad:=(g.ro 10 k).1) (xs:=iR<|m.fA k) af (by grind[iR,List.length_map]) h8 (h.B o) a1 hF) λw' hA=>?_;grind[D.dZ.OY,D.eF.fR,D.eF.yw]
  show eN 142 _ w λw'=>∃m' g',Tr d m g w m' g' w'/\eF p K (if(s.fA k).length<64 then s.fR k (s.fA k++[y]) else s) m' ρ;rw[av H];refine dq (IB (y:=y) o (n:=(m.fA k).length) (c:=(g.ro 10 k).2) (ad:=(g.ro 10 k).1) af h8.1 hF) λw' i=>?_;exact⟨rfl,m,g,(Tr.refl h).kept i,hS⟩
