import Derived.Test.YtnjiinbhbjpfkaaGreatDoorTs
import Derived.Test.YtnjiinbhbjpfkaaGreatDoorTn
set_option maxRecDepth 100000
set_option maxHeartbeats 0
set_option linter.all false
namespace Go.Proofs.YtnjiinbhbjpfkaaGreatDoor
open Go.RowKit Go.Proofs.Tryz
namespace D
open F
variable {p:dL}{d:Dp}{K:Nat}{s:Pl}{m m':Dm}{g g':Dg}{w w':aa}{ρ:Nat → Nat}
theorem DX{mb k G nr a b c nt tc tb:Nat}{x clk:Int}{R:aa->Prop}(ha:a<nr)(r:kR w G a (0,x))(hk:k<nt)(hn:nt<1000000000)(h0:0<=clk)(Y:clk<=9223372036854775807)(k0:-9223372036854775808<=x)(k1:x<=9223372036854775807)(H:∀w1,w.grownBy w1 none->eL 228 #[P0 mb,aj ((k:Int)+1),aj 2,aj 0,aj (-1)] w1 λw'=>R w'/\(∀j,w.heap.size<=j->j<w1.heap.size->w'.heap[j]? = w1.heap[j]?)/\w'.cell? (ay mb 6)=some (dA tb nt tc)/\w'.cell? (ay mb 5)=some (aj clk)/\(∃u:Int,w'.cell? (ay tb (k*8+4))=some (aj u))/\w'.frozen? (ay tb (k*8+4))=false): dD 215 #[P0 mb,aj ((k:Int)+1),dA G nr nr,jn 17 a b c] w (aj (-1)) λw'=>∃i,R i/\(i.setCell (ay tb (k*8+4)) (aj (B.iJ clk x))).grownBy w' none:=by
 have lr:G<w.heap.size:=an w _ r.1;have a1:(a:Int)<nr:=ag
 obtain⟨Z,r1,r2,r3⟩:=r;simp only[]at Z r1;have q1:=fj (n:=k) ag;have q2:(k:Int)<nt:=ag
 have q3:(0:Int)<=k:=ag;have q4:IntKind.i64.wrap (k:Int)=k:=iU;have HL:Hid (∀w0:aa,dD 141 #[aj clk,aj x] w0 (aj (B.iJ clk x)) λw'=>w'=w0):=λw0=>EG clk x h0 Y k0 k1;have W:=nw w 17 a b c 0 x 0;have HH:=bj (H ((w.alloc (.cells #[aj ((17:Nat):Int),aj a,aj b,aj c] 90)).alloc (.cells #[aj 0,aj x] 115)) (ax (ax (aw _ _) _) _));have HY:Hid (∀w':aa,(∀j,w.heap.size<=j->j<((w.alloc (.cells #[aj ((17:Nat):Int),aj a,aj b,aj c] 90)).alloc (.cells #[aj 0,aj x] 115)).heap.size->w'.heap[j]? = ((w.alloc (.cells #[aj ((17:Nat):Int),aj a,aj b,aj c] 90)).alloc (.cells #[aj 0,aj x] 115)).heap[j]?)->dS w' (w.heap.size+1) 1=some (aj x)):=λw' h=>(az (a:=ay (w.heap.size+1) 1) (h (w.heap.size+1) (Nat.le_succ _) (an _ _ W.2.2.2.2.2.2))).trans W.2.2.2.2.2.2;clear H W h0 Y k0 k1;generalize hy:B.iJ clk x=y at *;clear hy;delta dD;go_in;go_wp2_with fail
 refine du HH ?_;rintro i ⟨hR,J,c6,c5,⟨u,c4⟩,z4⟩;have y1:=HY i J;change Hid _ at hR;clear J HY HH Z r1 r2 r3;go_wp2
 go_cut [] (λwx=>Hid ((i.setCell (ay tb (k*8+4)) (aj y)).grownBy wx none))
 case first=>
  go_region_with (go_at_call 141;refine du (HL _) ?_;rintro w5 rfl)
  all_goals
   go_wp2
   go_meet
   case rel=>first|exact(bo (aw _ _):World.grownBy _ _ _)|exact(aw _ _:World.grownBy _ _ _)
 case rest=>
  have o:=hcut;clear hcut;go_wp2
  go_ret;exact⟨rfl,i,hR,o⟩
theorem D3{mb t o nr a b c nt tc tb z:Nat}{va:B.V}{o1:Nat}{o2:Int}(ha:a<nr)(hb:b<nr)(r:kR w o a va)(rb:kR w o b (0,(z:Int)+1))(H:w.cell? (ay mb 6)=some (dA tb nt tc))(hz:z<nt)(hn:nt<1000000000)(a3:z+1≠t)(G:w.cell? (ay tb (z*8+1))=some (aj 5))(g1:w.cell? (ay tb (z*8+6))=some (aj o1))(g2:w.cell? (ay tb (z*8+7))=some (aj o2)): dD 215 #[P0 mb,aj t,dA o nr nr,jn 18 a b c] w (aj 0) λw'=>(oz w o a (o1,o2)).grownBy w' none:=by
 have y:o<w.heap.size:=an w _ r.1;have a4:(a:Int)<nr:=ag
 have a6:o<w.heap.size+1:=ag
 obtain⟨Y,r1,r2,W⟩:=r;obtain⟨Z,s1,_,_⟩:=rb;simp only[]at Z s1;have a9:(b:Int)<nr:=ag
 have lm:mb<w.heap.size:=an w _ H;have a7:mb<w.heap.size+1:=ag
 have lt:tb<w.heap.size:=an w _ G;have a2:¬((z:Int)+1<1):=ag
 have a5:¬((nt:Int)<z+1):=ag
 have q1:=fj (n:=z) ag;have q2:(z:Int)<nt:=ag
 have q3:(0:Int)<=z:=ag
 have q4:IntKind.i64.wrap (z:Int)=z:=iU
 have q5:IntKind.i64.wrap ((z:Int)+1)=(z:Int)+1:=iU
 have a0:(((z:Int)+1) == (t:Int))=false:=by rw[dX];exact by omega
 delta dD;go_in;go_wp2
 go_quiet (fail)
 have J:=nw w 18 a b c 0 ((z:Int)+1) nq;rw[show((18:Nat):Int)=18 from rfl]at J;generalize ((w.alloc (.cells #[aj 18,aj a,aj b,aj c] 90)).alloc (.cells #[aj 0,aj ((z:Int)+1)] 115)).drewN nq=w3 at *;obtain⟨i,i0,i1,i2,i3,y0,y1⟩:=J;have u6:=(bd i (a:=ay mb 6) lm).1.trans H;have u1:=(bd i (a:=ay tb (z*8+1)) lt).1.trans G;have u2:=(bd i (a:=ay tb (z*8+6)) lt).1.trans g1;have u3:=(bd i (a:=ay tb (z*8+7)) lt).1.trans g2;have v0:=(bd i (a:=ay o (a*2)) y).1.trans Y;have v1:=(bd i (a:=ay o (a*2+1)) y).1.trans r1;have v2:=(bd i (a:=ay o (a*2)) y).2.trans r2;have v3:=(bd i (a:=ay o (a*2+1)) y).2.trans W;change Hid _ at i;clear H G g1 g2 Y r1 r2 W Z s1;go_wp2
 go_region
 all_goals
  go_wp2
  go_ret;refine⟨rfl,?_⟩;first|exact fT (fT i _ _) _ _|exact bo (fT (fT i _ _) _ _)
end D
namespace D
open F
variable {p:dL}{d:Dp}{K:Nat}{s s':Pl}{m m':Dm}{g g':Dg}{w w':aa}{ρ ρ':Nat → Nat}{t tb fb n nr a b c:Nat}{why:Int}
section
variable (h:dZ d m g w)(hS:eF p K s m ρ)(hR:Rn p s t)(hQ:oV p d s m g w ρ t tb fb n nr)(hK:K < 900000000)
include h hS hR hQ hK
theorem LY(hv:jE ((bw s t).R a))(Z:a<nr):Calls prog 215 #[P0 g.mb,aj t,dA (g.rb t n) nr nr,jn 17 a b c] w λe w'=>∃v:Int,e=.returned (aj v)/\iO p d K s t m g w (jl s t a).1 (jl s t a).2 v w':=by
 have ga:dW p s ((bw s t).R a):=hR.nM (eV hQ.r2 Z);have ra:=hQ.rc Z;have H:=(hS.small hR.ok).1;unfold jl;generalize (bw s t).R a=x at *;by_cases Y:x.1=0
 case neg=>
  rw[au Y];refine du (AS (af rfl) Z ra (λe=>Y ((ti hR.ok hS ga).1.1 e))) λw' G=>?_;grind[iO.fail]
 rw[bf Y];rw[ox Y,show x=(0,x.2) from fV Y rfl]at ra;obtain⟨k,rfl⟩:∃k,t=k+1:=⟨t-1,gp hR.ht.1⟩
 have c0:=hR.ok.c0;have c1:=hR.ok.c1;rw[<-hS.ck]at c0 c1 ⊢;have W:(m.wait (k+1) 2 0 (-1)).T (k+1)=(m.T (k+1)).wt 2 0 (-1) (m.jw+1):=bf rfl;have J:mY (m.wait (k+1) 2 0 (-1)) (k+1):=hQ.dt;have i:(((k+1:Nat)):Int)=(k:Int)+1:=ag
 rw[i];refine(DX (k:=k) (tb:=tb) (nt:=m.nt) (tc:=(g.ro 1 0).2) (clk:=m.clk) (R:=λw'=>Tr d m g w (m.wait (k+1) 2 0 (-1)) g w') Z ra (gp hQ.dt.2) H c0 c1 hv.1 hv.2 (λw1 G=>?_)).mono ?_
 .have hL:=Dl (how:=2) (what:=0) (into:=-1) (h.kept G) hQ.dt H (gp hS.B.2);rw[i]at hL;refine du hL λw' y=>?_;refine⟨rfl,y.ahead G,λj a0 a2=>y.o.same a2 (h.fresh a0),?_,(y.r.mc 5 ag rfl).1,?_⟩
  .have:=(y.r.mc 6 ag (v:=.slice (g.ro 1 0).1 m.nt (g.ro 1 0).2) rfl).1;rw[hQ.T.b]at this;omega
  obtain⟨a1,e1,_,tc⟩:=y.r.tc J;have:a1=tb:=by
   have:=hQ.T.b;rw[e1]at this;injection this with this _;injection this with this;injection this with this _
  subst this;have:=tc.c 4 ag;rw[dC]at this;exact⟨⟨_,this.1⟩,this.2⟩
 rintro e w' ⟨rfl,w4,y,G⟩;have h2:=y.r.sK (t:=k+1) J hQ.T.b 4 ag (aj (B.iJ m.clk x.2)) (x':={ (m.T (k+1)).wt 2 0 (-1) (m.jw+1) with lH:=B.iJ m.clk x.2 }) (by rw[W]) (λj hj=>by
  rw[W];have hc:=oU 7 j ag
  rcases hc with rfl|rfl|rfl|rfl|rfl|rfl|rfl|rfl<;>rfl)
 rw[dC]at h2;refine⟨-1,rfl,iO.stop ((y.trans h2).kept G) (hS.iq (u:=B.iJ m.clk x.2) hR.ok hR.lv hR.wh rfl) ?_⟩;unfold Pl.iq Pl.into Pl.oL;rw[di];rfl
end
theorem IW{rr:Nat}(h:dZ d m g w)(hq:m.q.length<=1000000000)(hb:b<256)(hc:c<256): dD 194 #[P0 g.mb,aj t,dA rr nr nr,jn 16 a b c] w (aj (-1)) λw'=>∃g',Tr d m g w (m.sE t) g' w':=by
 obtain⟨i0,hi,a2,Y,W⟩:=info_parts Tryz.sr;have q1:IntKind.i64.wrap (256*(b:Int))=256*(b:Int):=iU
 have q2:IntKind.i64.wrap (256*(b:Int)+(c:Int))=256*(b:Int)+(c:Int):=iU
 obtain⟨c7,z7⟩:=h.mc 7 ag (v:=.slice (g.ro 2 0).1 m.q.length (g.ro 2 0).2) rfl;have le:=h.M.lt;have a3:g.mb<w.heap.size+1:=ag
 have a4:g.mb<w.heap.size+1+1:=ag
 have HR:=bj h;have HQ:Hid (gd w 3 (.slice (g.ro 2 0).1 m.q.length (g.ro 2 0).2) (jJ m.q)):=h.Q;have HK:Hid (∀j,(Value.slice (g.ro 2 0).1 m.q.length (g.ro 2 0).2).ownBlock=some j->j≠g.mb/\j<w.heap.size):=λj G=>by
  have J:fi (g.ro 2 0).1=some j:=by rw[<-dF (g.ro 2 0).1 m.q.length (g.ro 2 0).2];exact G
  exact⟨h.ne (x:=2) (y:=0) (z:=0) (x':=0) (y':=0) (z':=0) (oQ ag) rfl J rfl ag,HQ.lt j G⟩
 have hl:(jJ m.q).length=m.q.length:=jC _;change Hid _ at hl;clear h;delta dD;go_in;go_wp2_with (at_builtin;refine jf _ rfl (.tmp 138) (.tmp 140) 54 rfl 3 i0 _ 8 Tryz.jh hi a2 Y W rfl _ (jJ m.q) rfl (HQ.block ?cq) _ _ (aj t) rfl ?c1 rfl ?c3 ?c4 ?_)
 case cq=>
  intro j G;obtain⟨k1,k2⟩:=HK j G;grind[Below.heap_alloc]
 try case c1=>simp[go_sem]
 try case c3=>rw[hl.out];unfold maxLen;omega
 try case c4=>rw[hl.out];omega
 intro qb off cap u i hg o;rw[hl.out]at i;have a0:=bj i;have Z:=bj hg;have a1:=bj o;have b0:u.heap[g.mb]? = w.heap[g.mb]?:=by rw[hg.block g.mb fH (λh=>(HK g.mb h.symm).1 rfl),av _ _ _ fH,av _ _ _ le]
 have d7:=(az (a:=ay g.mb 7) b0).trans c7;have e7:=(dr (a:=ay g.mb 7) b0).trans z7;go_wp2
 go_ret;refine⟨rfl,g.at 2 0 (some (ay qb off),cap),?_⟩;have h0:=(Tr.refl HR).kept (ax (ax (aw w none) (.cells #[aj ((16:Nat):Int),aj a,aj b,aj c] 90)) (.cells #[aj t] 3));have h1:=Tr.sE (t:=t) (b:=qb) (off:=off) (c:=cap) h0 a0 Z (a1.imp id (λe=>by rw[e];simp));first
  | exact h1
  | (rw[hl.out];exact h1)
theorem Ns(h:dZ d m g w)(hS:eF p K s m ρ)(hR:Rn p s t){o:Nat}(H:b<256)(y:c<256):Calls prog 194 #[P0 g.mb,aj t,dA o nr nr,jn 16 a b c] w λe w'=>∃v:Int,e=.returned (aj v)/\iO p d K s t m g w 0 (s.dY 2 0 t) v w':=by
 refine du (IW h (hS.small hR.ok).2 H y) ?_;rintro w' ⟨g',G⟩;have i:=hS.join (x:=m.T t) hR.ok hR.lv (by grind[F.Rn.wh]) ⟨rfl,rfl,rfl,(hS.T t hR.lv).h.h0 hR.wh⟩;have e:m.dx t (m.T t)=m:=by
  unfold Dm.dx;have:(λu=>if u=t then m.T t else m.T u)=m.T:=by
   funext u
   by_cases e:u=t
   .grind
   rw[au e]
  rw[this]
 rw[e]at i;refine⟨-1,rfl,iO.stop G (i.mono ag) ?_⟩;rw[jT];rfl
end D
namespace D
open F
variable {p:dL}{d:Dp}{K:Nat}{s:Pl}{m m':Dm}{g g':Dg}{w w':aa}{ρ:Nat → Nat}
theorem Gq{mb t o nr a b c nt tc:Nat}{tp:Option Addr}{x:Int}(ha:a<nr)(r:kR w o a (0,x))(Y:w.cell? (ay mb 6)=some (.slice tp nt tc))(hx:x<1): dD 215 #[P0 mb,aj t,dA o nr nr,jn 19 a b c] w (aj 6) λw'=>w.grownBy w' none:=by
 have lr:o<w.heap.size:=an w _ r.1;have Z:(a:Int)<nr:=ag
 obtain⟨G,r1,r2,r3⟩:=r;simp only[]at G r1
 delta dD;go_in;go_wp2
 go_quiet (fail)
 have u:=nw w 19 a b c 0 x nq;rw[show((19:Nat):Int)=19 from rfl]at u;generalize ((w.alloc (.cells #[aj 19,aj a,aj b,aj c] 90)).alloc (.cells #[aj 0,aj x] 115)).drewN nq=w3 at *;obtain⟨i,i0,i1,i2,i3,y0,y1⟩:=u;have H:=bj i;go_wp2
 go_ret;simp_all
theorem Gp{mb t o nr a b c nt tc:Nat}{tp:Option Addr}{x:Int}(ha:a<nr)(r:kR w o a (0,x))(Z:w.cell? (ay mb 6)=some (.slice tp nt tc))(u:¬x<1)(hx:(nt:Int)<x): dD 215 #[P0 mb,aj t,dA o nr nr,jn 19 a b c] w (aj 6) λw'=>w.grownBy w' none:=by
 have lr:o<w.heap.size:=an w _ r.1;have a0:(a:Int)<nr:=ag
 obtain⟨H,r1,r2,r3⟩:=r;simp only[]at H r1;have lm:mb<w.heap.size:=an w _ Z;have W:mb<w.heap.size+1:=ag
 have b1:=eW u;delta dD;go_in;go_wp2
 go_quiet (fail)
 have y:=nw w 19 a b c 0 x nq;rw[show((19:Nat):Int)=19 from rfl]at y;generalize ((w.alloc (.cells #[aj 19,aj a,aj b,aj c] 90)).alloc (.cells #[aj 0,aj x] 115)).drewN nq=w3 at *;obtain⟨i,i0,i1,i2,i3,y0,y1⟩:=y;have J:=bj i;go_wp2
 go_ret;simp_all
theorem Gt{mb t i nr a b c nt tc:Nat}{tp:Option Addr}{H:B.V}{x:Int}(ha:a<nr)(hb:b<nr)(r:kR w i a H)(rb:kR w i b (0,x))(Z:w.cell? (ay mb 6)=some (.slice tp nt tc))(hx:x<1): dD 215 #[P0 mb,aj t,dA i nr nr,jn 18 a b c] w (aj 6) λw'=>w.grownBy w' none:=by
 have lr:i<w.heap.size:=an w _ r.1;have a0:(a:Int)<nr:=ag
 have y:i<w.heap.size+1:=ag
 obtain⟨r0,r1,r2,r3⟩:=r;obtain⟨G,s1,_,_⟩:=rb;simp only[]at G s1;have a1:(b:Int)<nr:=ag
 delta dD;go_in;go_wp2
 go_quiet (fail)
 have u:=nw w 18 a b c 0 x nq;rw[show((18:Nat):Int)=18 from rfl]at u;generalize ((w.alloc (.cells #[aj 18,aj a,aj b,aj c] 90)).alloc (.cells #[aj 0,aj x] 115)).drewN nq=w3 at *;obtain⟨o,i0,i1,i2,i3,y0,y1⟩:=u;have J:=bj o;go_wp2
 go_ret;simp_all
theorem Gs{mb t i nr a b c nt tc:Nat}{tp:Option Addr}{J:B.V}{x:Int}(ha:a<nr)(hb:b<nr)(r:kR w i a J)(rb:kR w i b (0,x))(h6:w.cell? (ay mb 6)=some (.slice tp nt tc))(u:¬x<1)(hx:(nt:Int)<x): dD 215 #[P0 mb,aj t,dA i nr nr,jn 18 a b c] w (aj 6) λw'=>w.grownBy w' none:=by
 have lr:i<w.heap.size:=an w _ r.1;have a0:(a:Int)<nr:=ag
 have G:i<w.heap.size+1:=ag
 obtain⟨r0,r1,r2,r3⟩:=r;obtain⟨H,s1,_,_⟩:=rb;simp only[]at H s1;have a1:(b:Int)<nr:=ag
 have lm:mb<w.heap.size:=an w _ h6;have Y:mb<w.heap.size+1:=ag
 have b1:=eW u;delta dD;go_in;go_wp2
 go_quiet (fail)
 have y:=nw w 18 a b c 0 x nq;rw[show((18:Nat):Int)=18 from rfl]at y;generalize ((w.alloc (.cells #[aj 18,aj a,aj b,aj c] 90)).alloc (.cells #[aj 0,aj x] 115)).drewN nq=w3 at *;obtain⟨o,i0,i1,i2,i3,y0,y1⟩:=y;have W:=bj o;go_wp2
 go_ret;simp_all
theorem Gr{mb t i nr a b c nt tc:Nat}{tp:Option Addr}{W:B.V}{x:Int}(ha:a<nr)(hb:b<nr)(r:kR w i a W)(rb:kR w i b (0,x))(h6:w.cell? (ay mb 6)=some (.slice tp nt tc))(u:¬x<1)(hx:¬(nt:Int)<x)(y:x=(t:Int)): dD 215 #[P0 mb,aj t,dA i nr nr,jn 18 a b c] w (aj 6) λw'=>w.grownBy w' none:=by
 have lr:i<w.heap.size:=an w _ r.1;have a1:(a:Int)<nr:=ag
 have H:i<w.heap.size+1:=ag
 obtain⟨r0,r1,r2,r3⟩:=r;obtain⟨J,s1,_,_⟩:=rb;simp only[]at J s1;have a2:(b:Int)<nr:=ag
 have lm:mb<w.heap.size:=an w _ h6;have Z:mb<w.heap.size+1:=ag
 have b1:=eW u;have b2:=eW hx;have b3:(x == (t:Int))=true:=eV beq_iff_eq y
 clear hx u y;delta dD;go_in;go_wp2
 go_quiet (fail)
 have G:=nw w 18 a b c 0 x nq;rw[show((18:Nat):Int)=18 from rfl]at G;generalize ((w.alloc (.cells #[aj 18,aj a,aj b,aj c] 90)).alloc (.cells #[aj 0,aj x] 115)).drewN nq=w3 at *;obtain⟨o,i0,i1,i2,i3,y0,y1⟩:=G;have Y:=bj o;go_wp2
 go_ret;simp_all
