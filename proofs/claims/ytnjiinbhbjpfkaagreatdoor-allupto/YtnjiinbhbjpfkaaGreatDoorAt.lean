import Derived.Test.YtnjiinbhbjpfkaaGreatDoorAp
import Derived.Test.YtnjiinbhbjpfkaaGreatDoorAq
set_option maxRecDepth 100000
set_option maxHeartbeats 0
set_option linter.all false
namespace Go.Proofs.YtnjiinbhbjpfkaaGreatDoor
open Go.RowKit Go.Proofs.Tryz
namespace D
open F
variable {p:dH}{d:Dp}{K:Nat}{s s':Pl}{m m':Dm}{g g':Dg}{w w':aa}{ρ ρ':Nat->Nat}{t tb fb n nr a b c:Nat}{why:Int}
section
variable (h:dZ d m g w)(hS:eF p K s m ρ)(hR:Rn p s t)(hQ:ph p d s m g w ρ t tb fb n nr)(hK:K<900000000)
include h hS hR hQ hK
theorem MZ(hv:jO ((bz s t).R a))(Z:a<nr):Calls prog 215 #[P0 g.mb,ah t,dD (g.rb t n) nr nr,jC 17 a b c] w λe w'=>∃v:Int,e=.returned (ah v)/\iV p d K s t m g w (jk s t a).1 (jk s t a).2 v w':=by
 have ga:dV p s ((bz s t).R a):=hR.n9<|eZ hQ.r2 Z;have ra:=hQ.rc Z;have H:=(hS.small hR.ok).1;unfold jk;generalize (bz s t).R a=x at*;by_cases Y:x.1=0
 case neg=>
  rw[av Y];refine dq (Bo (ag rfl) Z ra<|λe=>Y<|(tV hR.ok hS ga).1.1 e) λw' G=>?_;grind[iV.fail]
 rw[bf Y];rw[oN Y,show x=(0,x.2) from gh Y rfl]at ra;obtain⟨k,rfl⟩:∃k,t=k+1:=⟨t-1,gD hR.ht.1⟩
 have c0:=hR.ok.c0;have c1:=hR.ok.c1;rw[<-hS.ck]at c0 c1⊢;have W:(m.wait (k+1) 2 0<|-1).T (k+1)=(m.T<|k+1).wt 2 0 (-1) (m.jI+1):=bf rfl;have J:nF (m.wait (k+1) 2 0<|-1) (k+1):=hQ.dt;have i:(((k+1:Nat)):Int)=(k:Int)+1:=af
 rw[i];refine(EG (k:=k) (tb:=tb) (nt:=m.nt) (tc:=(g.ro 1 0).2) (clk:=m.clk) (R:=λw'=>Tr d m g w (m.wait (k+1) 2 0<|-1) g w') Z ra (gD hQ.dt.2) H c0 c1 hv.1 hv.2<|λw1 G=>?_).mono ?_
 .have hL:=D6 (how:=2) (what:=0) (into:=-1) (h.kept G) hQ.dt H<|gD hS.B.2;rw[i]at hL;refine dq hL λw' y=>?_;refine⟨rfl,y.ahead G,λj a0 a2=>y.o.same a2<|h.fresh a0,?_,(y.r.mc 5 af rfl).1,?_⟩
  .have:=(y.r.mc 6 af (v:=.slice (g.ro 1 0).1 m.nt (g.ro 1 0).2) rfl).1;rw[hQ.T.b]at this;omega
  let⟨a1,e1,_,tc⟩:=y.r.tc J;have:a1=tb:=by
   have:=hQ.T.b;rw[e1]at this;injection this with this _;injection this with this;injection this with this _
  subst this;have:=tc.c 4 af;rw[dF]at this;exact⟨⟨_,this.1⟩,this.2⟩
 rintro e w' ⟨rfl,w4,y,G⟩;have h2:=y.r.tG (t:=k+1) J hQ.T.b 4 af (ah<|B.iL m.clk x.2) (x':={(m.T<|k+1).wt 2 0 (-1) (m.jI+1) with me:=B.iL m.clk x.2}) (by rw[W]) (λj hj=>by
  rw[W];have hc:=pS 7 j af
  (repeat' rcases hc with rfl|hc)<;>rfl)
 rw[dF]at h2;refine⟨-1,rfl,iV.stop ((y.trans h2).kept G) (hS.iw (u:=B.iL m.clk x.2) hR.ok hR.lv hR.wh rfl) ?_⟩;unfold Pl.iw Pl.into Pl.pa;rw[dk];rfl
end
theorem JP{rr:Nat}(h:dZ d m g w)(hq:m.q.length<=1000000000)(hb:b<256)(hc:c<256):dC 194 #[P0 g.mb,ah t,dD rr nr nr,jC 16 a b c] w (ah<|-1) λw'=>∃g',Tr d m g w (m.tv t) g' w':=by
 let⟨i0,hi,a2,Y,W⟩:=info_parts Tryz.th;have q1:IntKind.i64.wrap (256*(b:Int))=256*(b:Int):=jA
 have q2:IntKind.i64.wrap (256*(b:Int)+(c:Int))=256*(b:Int)+(c:Int):=jA
 let⟨c7,z7⟩:=h.mc 7 af (v:=.slice (g.ro 2 0).1 m.q.length (g.ro 2 0).2) rfl;have le:=h.M.lt;have a3:g.mb<w.heap.size+1:=af
 have a4:g.mb<w.heap.size+1+1:=af
 have HR:=bj h;have HQ:=bj h.Q;have HK:Hid (∀j,(Value.slice (g.ro 2 0).1 m.q.length (g.ro 2 0).2).ownBlock=some j->j≠g.mb/\j<w.heap.size):=λj G=>by
  have J:fk (g.ro 2 0).1=some j:=by rw[<-dJ (g.ro 2 0).1 m.q.length (g.ro 2 0).2];exact G
  exact⟨h.ne (x:=2) (y:=0) (z:=0) (x':=0) (y':=0) (z':=0) (pn af) rfl J rfl af,HQ.lt j G⟩
 have hl:(ke m.q).length=m.q.length:=jM _;change Hid _ at hl;clear h;delta dC;go_in;go_wp2_with (at_builtin;refine ju _ rfl (.tmp 138) (.tmp 140) 54 rfl 3 i0 _ 8 Tryz.jw hi a2 Y W rfl _ (ke m.q) rfl (HQ.block ?cq) _ _ (ah t) rfl ?c1 rfl ?c3 ?c4 ?_)
 case cq=>
  intro j G;let⟨k1,k2⟩:=HK j G;grind[Below.heap_alloc]
 try case c1=>simp[go_sem]
 try case c3=>rw[hl.out];unfold maxLen;omega
 try case c4=>rw[hl.out];omega
 intro qb off cap u i hg o;rw[hl.out]at i;have a0:=bj i;have Z:=bj hg;have a1:=bj o;have b0:u.heap[g.mb]?=w.heap[g.mb]?:=by rw[hg.block g.mb fV<|λh=>(HK g.mb h.symm).1 rfl,au _ _ _ fV,au _ _ _ le]
 have d7:=(bd (a:=az g.mb 7) b0).trans c7;have e7:=(dv (a:=az g.mb 7) b0).trans z7;go_wp2
 go_ret;refine⟨rfl,g.at 2 0 (some<|az qb off,cap),?_⟩;have h0:=(Tr.refl HR).kept<|ax (ax (aw w none)<|.cells #[ah ((16:Nat):Int),ah a,ah b,ah c] 90)<|.cells #[ah t] 3;have h1:=Tr.tv (t:=t) (b:=qb) (off:=off) (c:=cap) h0 a0 Z<|a1.imp id (λe=>by rw[e];simp);first
  |exact h1
  |(rw[hl.out];exact h1)
theorem OA(h:dZ d m g w)(hS:eF p K s m ρ)(hR:Rn p s t){o:Nat}(H:b<256)(y:c<256):Calls prog 194 #[P0 g.mb,ah t,dD o nr nr,jC 16 a b c] w λe w'=>∃v:Int,e=.returned (ah v)/\iV p d K s t m g w 0 (s.dX 2 0 t) v w':=by
 refine dq (JP h (hS.small hR.ok).2 H y) ?_;rintro w' ⟨g',G⟩;have i:=hS.join (x:=m.T t) hR.ok hR.lv (by grind[F.Rn.wh]) ⟨rfl,rfl,rfl,(hS.T t hR.lv).h.h0 hR.wh⟩;have e:m.dy t (m.T t)=m:=by
  unfold Dm.dy;have:(λu=>if u=t then m.T t else m.T u)=m.T:=by
   funext u
   by_cases e:u=t
   .grind
   rw[av e]
  rw[this]
 rw[e]at i;refine⟨-1,rfl,iV.stop G (i.mono af) ?_⟩;rw[kr];rfl
end D
namespace D
open F
variable {p:dH}{d:Dp}{K:Nat}{s s':Pl}{m m':Dm}{g g':Dg}{w w':aa}{ρ ρ':Nat->Nat}{t tb fb n nr a b c:Nat}{why:Int}
structure PJ(m:Dm) (g:Dg) (w:aa) (s:Pl) (ρ:Nat->Nat) (v:B.V) (z cb:Nat):Prop where
 e:ρ v.1=z+1
 l:z<m.nc
 ev:tr ρ v=(z+1,0)
 Dk:w.cell? ⟨g.mb,12,none⟩=some (.slice (some ⟨cb,0,none⟩) m.nc (g.ro 3 0).2)
 k0:w.cell? ⟨cb,z*2,none⟩=some (.slice (some ⟨g.sb<|z+1,0,none⟩) (s.M v.1).length (s.M v.1).length)
 k1:w.cell? ⟨cb,z*2+1,none⟩=some (.int .i64<|(s.ck v.1:Int)-1)
 sl:∀i,i<(s.M v.1).length->lH w (g.sb<|z+1) i (tr ρ<|(s.M v.1).getD i (0,0))
 l8:(s.M v.1).length<=8
 lm:(m.M<|z+1).length=(s.M v.1).length
theorem eF.OV(hS:eF p K s m ρ)(h:dZ d m g w)(hO:Ok p s){v:B.V}(W:dV p s v)(h0:v.1≠0):∃z y,PJ m g w s ρ v z y:=by
 let⟨Y,G,H,J,Z⟩:=hS.JD hO W h0;let⟨y,k1,k2,k3,o,u⟩:=h.cc G H;obtain⟨z,hz⟩:∃z,ρ v.1=z+1:=⟨ρ v.1-1,af⟩;have e:=h.S G H;rw[hz]at Y G H J Z o u e;rw[dF]at o u;have hl:(m.M<|z+1).length=(s.M v.1).length:=by rw[J,eD]
 refine⟨z,y,hz,af,Y,k3,ey,ey,λi hi=>?_,(hS.C v.1<|B.px.vS W h0).l,hl⟩;have:=Kh e (a:=i) af;have e6:nD (m.M<|z+1) i=tr ρ ((s.M v.1).getD i (0,0)):=by
  unfold nD;rw[J,cw,fB,cw,bw hi];rfl
 rw[e6]at this;exact this
section
variable (h:dZ d m g w)(hS:eF p K s m ρ)(hR:Rn p s t)(hQ:ph p d s m g w ρ t tb fb n nr)(hK:K<900000000)
include h hS hR hQ hK
theorem M4(ha:a<nr)(W:b<nr)(J:c<nr)(hi:ku p s t (10,a,b,c) why s'):Calls prog 214 #[P0 g.mb,dD (g.rb t n) nr nr,jC 10 a b c] w λe w'=>∃v:Int,e=.returned (ah v)/\iV p d K s t m g w why s' v w':=by
 have hi:(GV s ((bz s t).R b) ((bz s t).R c)/\why=0/\s'=s.dM t (de s t) ((bz s t).set a<|(s.M ((bz s t).R b).1).getD ((bz s t).R c).2.toNat (0,0)))\/(¬GV s ((bz s t).R b) ((bz s t).R c)/\why=(oL s ((bz s t).R b) ((bz s t).R c):Nat)/\s'=s):=hi;have gb:=hR.n9<|eZ hQ.r2 W;have gc:dV p s ((bz s t).R c):=hR.n9<|eZ hQ.r2 J;have rb:=hQ.rc W;have rc:=hQ.rc J;generalize hx:(bz s t).R b=x at*;generalize hy:(bz s t).R c=y at*;have G:∀k:Nat,0<k->¬GV s x y->oL s x y=k->Calls prog 214 #[P0 g.mb,dD (g.rb t n) nr nr,jC 10 a b c] w (λe w'=>e=.returned (ah k)/\iY w w')->Calls prog 214 #[P0 g.mb,dD (g.rb t n) nr nr,jC 10 a b c] w λe w'=>∃v:Int,e=.returned (ah v)/\iV p d K s t m g w why s' v w':=λk hk hn he H=>by
  rcases hi with⟨h',_⟩|⟨_,rfl,rfl⟩
  .grind
  refine dq H λw' hg=>?_;grind[iV.fail]
 by_cases Y:x.1=0
 .refine G 2 af (λe=>e.1 Y) (by grind[oL]) ?_;rw[oN Y,show x=(0,x.2) from gh Y rfl]at rb;exact Mv W J rb rc
 let⟨z,cb,i⟩:=hS.OV h hR.ok gb Y;have u:m.nc<1000000000:=gD hS.B.1
 rw[i.ev]at rb;by_cases hk:s.ck x.1=0
 case neg=>
  refine G 2 af (λe=>hk e.2.1) (by grind[oL]) ?_;exact yR (vo:=(0,0)) (ag ⟨rfl,rfl,rfl⟩) W J rb rc i.l u i.Dk i.k1 i.k0<|ag ⟨af,rfl⟩
 have hw:¬(x.1=0\/s.ck x.1≠0):=λe=>e.elim Y<|λe=>e hk;by_cases o:y.1=0
 case neg=>
  refine G 1 af (λe=>o e.2.2.1) (by grind[oL]) ?_;exact yR (vo:=(0,0)) (ag ⟨rfl,rfl,rfl⟩) W J rb rc i.l u i.Dk i.k1 i.k0<|ak<|ag ⟨af,Int.natCast_pos.2<|Nat.pos_of_ne_zero λe=>o<|(tV hR.ok hS gc).1.1 e,rfl⟩
 rw[oN o,show y=(0,y.2) from gh o rfl]at rc;have Z:oL s x y=3:=by unfold oL;rw[av hw,av<|λe=>e o]
 by_cases y1:y.2<0
 .refine G 3 af (λe=>by have:=e.2.2.2.1;omega) Z ?_;exact yR (vo:=(0,0)) (ag ⟨rfl,rfl,rfl⟩) W J rb rc i.l u i.Dk i.k1 i.k0<|ak<|ak<|ag ⟨af,rfl,fy y1,rfl⟩
 by_cases y2:((s.M x.1).length:Int)<=y.2
 .refine G 3 af (λe=>by have:=e.2.2.2.2;omega) Z ?_;exact yR (vo:=(0,0)) (ag ⟨rfl,rfl,rfl⟩) W J rb rc i.l u i.Dk i.k1 i.k0<|ak<|ak<|ak ⟨af,rfl,eV y1,fy y2,rfl⟩
 rcases hi with⟨_,rfl,rfl⟩|⟨h',_⟩
 .have a1:y.2=((y.2.toNat:Nat):Int):=af
  rw[a1]at rc;have a0:y.2.toNat<(s.M x.1).length:=af
  refine dq (Ka ha W J (hQ.rc ha) rb rc i.l u i.Dk i.k1 i.k0 af a0 i.l8<|i.sl _ a0) λw' hg=>?_;exact⟨0,rfl,hQ.goes h hS hR a (vq (B.px.vS gb Y) _) hg⟩
 exact dr ⟨Y,hk,o,af,af⟩ h'
theorem M3(ha:a<nr)(Z:b<nr)(hc:c<nr)(hi:ku p s t (11,a,b,c) why s'):Calls prog 214 #[P0 g.mb,dD (g.rb t n) nr nr,jC 11 a b c] w λe w'=>∃v:Int,e=.returned (ah v)/\iV p d K s t m g w why s' v w':=by
 have hi:(GV s ((bz s t).R a) ((bz s t).R b)/\why=0/\s'=s.uS ((bz s t).R a).1 ((bz s t).R b).2.toNat ((bz s t).R c))\/(¬GV s ((bz s t).R a) ((bz s t).R b)/\why=(oL s ((bz s t).R a) ((bz s t).R b):Nat)/\s'=s):=hi;have gb:=hR.n9<|eZ hQ.r2 ha;have gc:dV p s ((bz s t).R b):=hR.n9<|eZ hQ.r2 Z;have gv:dV p s ((bz s t).R c):=hR.n9<|eZ hQ.r2 hc;have rb:=hQ.rc ha;have rc:=hQ.rc Z;have rv:=hQ.rc hc;generalize hx:(bz s t).R a=x at*;generalize hy:(bz s t).R b=y at*;generalize hv:(bz s t).R c=v at*;have W:∀k:Nat,0<k->¬GV s x y->oL s x y=k->Calls prog 214 #[P0 g.mb,dD (g.rb t n) nr nr,jC 11 a b c] w (λe w'=>e=.returned (ah k)/\iY w w')->Calls prog 214 #[P0 g.mb,dD (g.rb t n) nr nr,jC 11 a b c] w λe w'=>∃v:Int,e=.returned (ah v)/\iV p d K s t m g w why s' v w':=λk hk hn he H=>by
  rcases hi with⟨h',_⟩|⟨_,rfl,rfl⟩
  .grind
  refine dq H λw' hg=>?_;grind[iV.fail]
 by_cases Y:x.1=0
 .refine W 2 af (λe=>e.1 Y) (by unfold oL;grind) ?_;rw[oN Y,show x=(0,x.2) from gh Y rfl]at rb;exact Mr ha Z hc rb rc rv
 let⟨z,cb,o⟩:=hS.OV h hR.ok gb Y;have J:m.nc<1000000000:=gD hS.B.1
 rw[o.ev]at rb;by_cases hk:s.ck x.1=0
 case neg=>
  refine W 2 af (λe=>hk e.2.1) (by unfold oL;grind) ?_;exact yR (ak ⟨rfl,rfl,rfl,af,rv⟩) ha Z rb rc o.l J o.Dk o.k1 o.k0<|ag ⟨af,rfl⟩
 have hw:¬(x.1=0\/s.ck x.1≠0):=λe=>e.elim Y<|λe=>e hk;by_cases u:y.1=0
 case neg=>
  refine W 1 af (λe=>u e.2.2.1) (by unfold oL;grind) ?_;exact yR (ak ⟨rfl,rfl,rfl,af,rv⟩) ha Z rb rc o.l J o.Dk o.k1 o.k0<|ak<|ag ⟨af,Int.natCast_pos.2<|Nat.pos_of_ne_zero λe=>u<|(tV hR.ok hS gc).1.1 e,rfl⟩
 rw[oN u,show y=(0,y.2) from gh u rfl]at rc;have a1:oL s x y=3:=by unfold oL;rw[av hw,av<|λe=>e u]
 by_cases y1:y.2<0
 .refine W 3 af (λe=>by have:=e.2.2.2.1;omega) a1 ?_;exact yR (ak ⟨rfl,rfl,rfl,af,rv⟩) ha Z rb rc o.l J o.Dk o.k1 o.k0<|ak<|ak<|ag ⟨af,rfl,fy y1,rfl⟩
 by_cases y2:((s.M x.1).length:Int)<=y.2
 .refine W 3 af (λe=>by have:=e.2.2.2.2;omega) a1 ?_;exact yR (ak ⟨rfl,rfl,rfl,af,rv⟩) ha Z rb rc o.l J o.Dk o.k1 o.k0<|ak<|ak<|ak ⟨af,rfl,eV y1,fy y2,rfl⟩
 rcases hi with⟨_,rfl,rfl⟩|⟨h',_⟩
 .have a2:y.2=((y.2.toNat:Nat):Int):=af
  rw[a2]at rc;have a0:y.2.toNat<(s.M x.1).length:=af
  refine dq (J6 ha Z hc rb rc rv o.l J o.Dk o.k1 o.k0 af a0 o.l8<|o.sl _ a0) λw' hg=>?_;have h2:=hS.uS hR.ok (a:=x.1) (i:=y.2.toNat) (v:=v) (B.px.vS gb Y) gv;rw[o.e]at h2;exact⟨0,rfl,iV.go ((h.Oc (c:=z+1) (i:=y.2.toNat) af (gD o.l) (eZ o.lm a0)<|tr ρ v).kept hg) h2 hR.run⟩
 exact dr ⟨Y,hk,u,af,af⟩ h'
theorem OE(Y:a<nr)(J:b<nr)(y:c<nr)(u:b<256)(i:c<256)(hi:ku p s t (10,a,b,c) why s'):Calls prog 194 #[P0 g.mb,ah t,dD (g.rb t n) nr nr,jC 10 a b c] w λe w'=>∃v:Int,e=.returned (ah v)/\iV p d K s t m g w why s' v w':=
 Bj af u i (λw1 o=>(M4 (h.kept o) hS hR (hQ.kept h o) hK Y J y hi).mono (λe w' H=>by
  grind[D.iV.ahead]))
theorem OD(Y:a<nr)(J:b<nr)(y:c<nr)(u:b<256)(i:c<256)(hi:ku p s t (11,a,b,c) why s'):Calls prog 194 #[P0 g.mb,ah t,dD (g.rb t n) nr nr,jC 11 a b c] w λe w'=>∃v:Int,e=.returned (ah v)/\iV p d K s t m g w why s' v w':=
 Bj af u i (λw1 o=>(M3 (h.kept o) hS hR (hQ.kept h o) hK Y J y hi).mono (λe w' H=>by
  grind[D.iV.ahead]))
end
