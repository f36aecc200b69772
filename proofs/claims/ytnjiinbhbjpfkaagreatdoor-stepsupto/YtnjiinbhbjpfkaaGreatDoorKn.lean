import Derived.Test.YtnjiinbhbjpfkaaGreatDoorKl
import Derived.Test.YtnjiinbhbjpfkaaGreatDoorKk
import Derived.Test.YtnjiinbhbjpfkaaGreatDoorKm
import Derived.Test.YtnjiinbhbjpfkaaGreatDoorKh
set_option maxRecDepth 100000
set_option maxHeartbeats 0
set_option linter.all false
namespace Go.Proofs.YtnjiinbhbjpfkaaGreatDoor
open Go.RowKit Go.Proofs.Tryz
namespace D
open F
theorem fM.tail{w:World}{e:TypeId}{ad:Option Addr}{n cap:Nat}{x:Value}{ys:List Value}(h:fM w e (.slice ad n cap) (x :: ys)): ∃b off,ad=some ⟨b,off,none⟩/\n=ys.length+1/\ys.length+1<=cap/\b<w.heap.size/\w.cell? ⟨b,off,none⟩=some x/\fM w e (.slice (some ⟨b,if cap=1 then off else off+1,none⟩) ys.length (cap-1)) ys:=by
 rcases h with⟨_,h⟩|⟨b,off,G,N,P,h,H,h2,h3,i,hP⟩
 .cases h
 injection h with e1 W Y;subst e1 W Y;have hl:(x :: ys).length=ys.length+1:=rfl;rw[hl]at H i;refine⟨b,off,rfl,rfl,H,i.lt,?_,?_⟩
 .rw[i.cell off (by omega)];have:=hP 0 x rfl;rw[Nat.add_zero]at this;rw[this]
 by_cases e:cap=1
 .have hy:ys=[]:=cf.1 (by omega);subst hy;rw[aj e];refine ab ⟨b,off,cap-1,N,P,rfl,dc _,by omega,by omega,?_,λj u y=>by simp at y⟩;obtain⟨o,f1,f2,J⟩:=i;exact⟨o,f1,f2,λj Z=>J j (by simp at Z;omega)⟩
 rw[aa e];refine ab ⟨b,off+1,cap-1,N,P,rfl,by omega,by omega,by omega,?_,λj u y=>?_⟩
 .rw[show off+1+ys.length=off+(ys.length+1) by omega];exact i
 have:=hP (j+1) u (by simpa using y);rw[show off+1+j=off+(j+1) by omega];exact this
variable {p : dz} {d : Dp} {K : Nat} {s s' : Pl} {m m' : Dm} {g g' : Dg} {w w' : World} {ρ ρ' : Nat → Nat} {t tb fb n nr a b c : Nat} {why : Int}
theorem Hd{u kind:Nat}{x:Int}{v:B.V}(hP:PD p d)(h:dQ d m g w)(hS:eK p K s m ρ)(o:Ok p s)(i:u∈s.lv)(G:dN p s v)(he:m.ev.length<=100000): Calls prog 196 #[P0 g.mb,.int .i64 (u:Int),.int .i64 (kind:Int),.int .i64 x,vA (tr ρ v)] w λe w'=>e=.returned (.tuple #[])/\∃m' g',Tr d m g w m' g' w'/\eK p K (s.leave u v kind x) m' ρ:=by
 have y:=o.lt u i;refine(JL (t:=u) (kind:=kind) (x:=x) (v:=v) hP h ((eg (iO s u v kind x)).2 y) (o.gone i G kind x (λ_ _ h=>h)) (hS.gone (kind:=kind) (x:=x) o i G) (Ae s u kind x) (hS.small o).2 he).mono ?_;rintro e w' ⟨rfl,m',g',J,H⟩;refine⟨rfl,m',g',J,?_⟩;rw[yS o.lw y]at H;exact H
section
variable (hP : PD p d) (h : dQ d m g w) (hS : eK p K s m ρ) (hR : Rn p s t) (hQ : qP p d s m g w ρ t tb fb n nr) (hK : K < 900000000)
include h hS hR hQ
include hP hK
theorem Ju(hG:∀f,f<p.nf->2<=p.rg f/\p.rg f<=8)(hn1:s.nt+1<=500000000)(ha:a<nr)(hb:b<nr)(Y:c<nr)(hi:jD p s t (13,a,b,c) why s'):Calls prog 215 #[P0 g.mb,.int .i64 (t:Int),.slice (some ⟨g.rb t n,0,none⟩) nr nr,jY 13 a b c] w λe w'=>∃v:Int,e=.returned (.int .i64 v)/\jW p d K s t m g w why s' v w':=by
 refine Md (by omega) (λw1 o=>(JT hP hG (h.kept o) hS hR (hQ.kept h o) ha hb Y hK hn1).mono ?_);rintro e w' ⟨i,s1,rfl,u,m',g',y,H⟩;have hw:=nP (p:=p) (s:=s) (s':=s') (t:=t) (k:=(13,a,b,c)) (why:=why) (by show 13<23;omega) hi;obtain⟨e1,W⟩:=hi;obtain⟨J,G⟩:=u;have ew:=J.trans e1.symm;have es:=G.trans W.symm;subst ew es;refine⟨i,rfl,?_⟩;by_cases Z:i=0
 .subst Z;refine jW.go (y.ahead o) H ?_;rw[G];unfold kP;split
  .unfold Pl.push;rw[df];exact hR.run
  exact hR.run
 exact⟨ρ,m',g',y.ahead o,ab ⟨H.mono (by omega),ag ⟨by omega,rfl⟩⟩⟩
end
end D
namespace D
open F
variable {p : dz} {d : Dp} {K : Nat} {s s' : Pl} {m m' : Dm} {g g' : Dg} {w w' : World} {ρ ρ' : Nat → Nat} {t tb fb n nr a b c : Nat} {why : Int}
section
variable (hP : PD p d) (hG : ∀ f, f < p.nf → 2 ≤ p.rg f ∧ p.rg f ≤ 8) (h : dQ d m g w) (hS : eK p K s m ρ) (hR : Rn p s t) (hQ : qP p d s m g w ρ t tb fb n nr) (hK : K < 900000000) (hn1 : s.nt + 1 ≤ 500000000)
include hP hG h hS hR hQ hK hn1
theorem Hn(hN:Ng s)(he:m.ev.length<=100000){k:F.yi}(hk:IA p (bw s t).f k)(hi:jD p s t k why s'):Calls prog 194 #[P0 g.mb,.int .i64 (t:Int),.slice (some ⟨g.rb t n,0,none⟩) nr nr,jY k.1 k.2.1 k.2.2.1 k.2.2.2] w λe w'=>∃v:Int,e=.returned (.int .i64 v)/\jW p d K s t m g w why s' v w':=by
 obtain⟨y,a,b,c⟩:=k;obtain⟨k0,ka,u,i,G,rb,rc,k7,k9,Y,n1,n2,n3,n4,n5⟩:=hk;rw[hQ.r2]at G rb rc;simp only at k0 ka u i G rb rc k7 k9 Y n1 n2 n3 n4 n5 ⊢;have W:∀o,(o=13\/o=15\/o=17\/o=18\/o=19\/o=21)->(∀w1,w.grownBy w1 none->dQ d m g w1->qP p d s m g w1 ρ t tb fb n nr->Calls prog 215 #[P0 g.mb,.int .i64 (t:Int),.slice (some ⟨g.rb t n,0,none⟩) nr nr,jY o a b c] w1 λe w'=>∃v:Int,e=.returned (.int .i64 v)/\jW p d K s t m g w1 why s' v w')->Calls prog 194 #[P0 g.mb,.int .i64 (t:Int),.slice (some ⟨g.rb t n,0,none⟩) nr nr,jY o a b c] w λe w'=>∃v:Int,e=.returned (.int .i64 v)/\jW p d K s t m g w why s' v w':=λo ho H=>
  GK ho u i (λw1 J=>(H w1 J (h.kept J) (hQ.kept h J)).mono (λe w' hh=>by
   obtain⟨v,e1,e2⟩:=hh;exact⟨v,e1,e2.ahead J⟩))
 have hc:y=0\/y=1\/y=2\/y=3\/y=4\/y=5\/y=6\/y=7\/y=8\/y=9\/y=10\/y=11\/y=12\/y=13\/y=14\/y=16\/y=20\/y=22:=by omega
 rcases hc with rfl|rfl|rfl|rfl|rfl|rfl|rfl|rfl|rfl|rfl|rfl|rfl|rfl|rfl|rfl|rfl|rfl|rfl
 .obtain⟨rfl,rfl⟩:=hi;exact Mo h hS hR hQ (G (by omega) (by omega)) u i
 .obtain⟨rfl,rfl⟩:=hi;exact Mn h hS hR hQ (G (by omega) (by omega)) (rb (by omega)) u i
 .exact Fh h hS hR hQ (by omega) (G (by omega) (by omega)) (rb (by omega)) (rc (by omega)) u i hi
 .exact Fh h hS hR hQ (by omega) (G (by omega) (by omega)) (rb (by omega)) (rc (by omega)) u i hi
 .exact Fh h hS hR hQ (by omega) (G (by omega) (by omega)) (rb (by omega)) (rc (by omega)) u i hi
 .exact Fh h hS hR hQ (by omega) (G (by omega) (by omega)) (rb (by omega)) (rc (by omega)) u i hi
 .obtain⟨rfl,rfl⟩:=hi;exact Mm h hS hR hQ (G (by omega) (by omega)) (rb (by omega)) (rc (by omega)) u i
 .obtain⟨rfl,rfl⟩:=hi;exact Ml h hS hR hQ u i
 .obtain⟨rfl,rfl⟩:=hi;exact Mk h hS hR hQ (G (by omega) (by omega)) u i
 .obtain⟨rfl,hm⟩:=hi;exact Mj hP hG h hS hR hQ hK (G (by omega) (by omega)) (k9 rfl) u i hm
 .exact Ll h hS hR hQ hK (G (by omega) (by omega)) (rb (by omega)) (rc (by omega)) u i hi
 .exact Lk h hS hR hQ hK (G (by omega) (by omega)) (rb (by omega)) (rc (by omega)) u i hi
 .obtain⟨rfl,hm⟩:=hi;exact Lj hP hG h hS hR hQ hK (G (by omega) (by omega)) (rc (by omega)) u i hm
 .exact W 13 (by omega) (λw1 J h1 Z=>Ju hP h1 hS hR Z hK hG hn1 (G (by omega) (by omega)) (rb (by omega)) (rc (by omega)) hi)
 .obtain⟨rfl,rfl⟩:=hi;exact Li hP h hS hR hQ (G (by omega) (by omega)) u i he
 .obtain⟨rfl,rfl⟩:=hi;exact Lh h hS hR u i
 .obtain⟨rfl,rfl⟩:=hi;exact Lg h hS hR hQ (G (by omega) (by omega)) u i he
 obtain⟨rfl,rfl⟩:=hi;exact Lf h hS hR hQ (G (by omega) (by omega)) u i
end
end D
namespace D
open F
def D3(p:dz)(d:Dp)(K:Nat)(s':Pl)(t:Nat)(m:Dm)(g:Dg)(w w':World):Prop:=
 ∃m' g' ρ',Tr d m g w m' g' w'/\eK p (K+p.qn) (if(s'.T t).run=true then s'.dV 2 0 t else s') m' ρ'
structure tM(p:dz) (d:Dp) (K:Nat) (s s':Pl) (t:Nat) (m:Dm) (g:Dg) (w:World) (I:Nat) (s1:Pl) (m1:Dm) (g1:Dg) (ρ1:Nat->Nat) (wr:World):Prop where
 tr:Tr d m g w m1 g1 wr
 si:eK p (K+I) s1 m1 ρ1
 rn:Rn p s1 t
 ng:Ng s1
 nt:s1.nt<=s.nt+I
 ev:s1.ev.length<=s.ev.length+I
 rr:gg p t (p.qn-I) s1 s'
structure RunT(p:dz) (d:Dp) (K:Nat) (s s':Pl) (t:Nat) (m:Dm) (g:Dg) (w:World) (I:Nat) (s1:Pl) (m1:Dm) (g1:Dg) (ρ1:Nat->Nat) (k:F.yi) (wr:World):Prop where
 tr:Tr d m g w m1 g1 wr
 si:eK p (K+I) s1 m1 ρ1
 rn:Rn p s1 t
 ng:Ng s1
 nt:s1.nt<=s.nt+I
 ev:s1.ev.length<=s.ev.length+I
 ok:IA p (bw s1 t).f k
 rr:∃why s3,jD p s1 t k why s3/\gg p t (p.qn-(I+1)) (if why=0 then s3 else s3.leave t (0,-why) 3 why) s'
def J6(p:dz)(d:Dp)(K:Nat)(s':Pl)(t:Nat)(m:Dm)(g:Dg)(w w':World):Prop:=
 ∃s1 m1 g1 ρ1,Tr d m g w m1 g1 w'/\eK p (K+p.qn) s1 m1 ρ1/\t∈s1.lv/\s1.ev.length<=100000/\∃kd1,s'=(s1.tQ kd1).kj t
def Gl(p:dz)(d:Dp)(K:Nat)(s':Pl)(t:Nat)(m:Dm)(g:Dg)(w:World)(v:Int)(w':World):Prop:=
 ∃s1 m1 g1 ρ1,Tr d m g w m1 g1 w'/\eK p (K+p.qn) s1 m1 ρ1/\Rn p s1 t/\s1.ev.length<=100000/\s'=s1.leave t (0,-v) 3 v
def Gm(p:dz)(d:Dp)(K:Nat)(s s':Pl)(t:Nat)(m:Dm)(g:Dg)(w:World)(I:Nat)(v:Int)(w':World):Prop:=
 (v=0/\∃s1 m1 g1 ρ1,tM p d K s s' t m g w (I+1) s1 m1 g1 ρ1 w')\/(v=-1/\D3 p d K s' t m g w w')\/(v=-2/\J6 p d K s' t m g w w')\/(0<v/\v<=8/\Gl p d K s' t m g w v w')
variable {p : dz} {d : Dp} {K : Nat} {s s' s1 : Pl} {m m' m1 : Dm} {g g' g1 : Dg} {w w' wr : World} {ρ ρ1 : Nat → Nat} {t I : Nat}
section
variable (hP : PD p d) (hG : ∀ f, f < p.nf → 2 ≤ p.rg f ∧ p.rg f ≤ 8) (hPI : PI p) (hK : K + p.qn < 900000000) (hn : s.nt + p.qn ≤ 500000000) (he : s.ev.length + p.qn ≤ 100000)
include hP hK hn he
omit hK hn in
theorem Jy(h:tM p d K s s' t m g w I s1 m1 g1 ρ1 wr)(hI:I<p.qn)(hx:(bw s1 t).nx=p.len (bw s1 t).f): Calls prog 193 #[P0 g1.mb,.int .i64 (t:Int),.agg #[.int .i64 0,.int .i64 0]] wr λe w'=>∃y:Bool,e=.returned (.bool y)/\((y=true/\D3 p d K s' t m g w w')\/(y=false/\∃G m2 g2 ρ2,tM p d K s s' t m g w I G m2 g2 ρ2 w'/\(G.T t).fr.length+1=(s1.T t).fr.length)):=by
 have u:=h.rr;obtain⟨k,H⟩:∃k,p.qn-I=k+1:=⟨p.qn-I-1,by omega⟩;rw[H]at u;obtain⟨r1,r2⟩:=AV h.rn hx u;have a0:=h.ev;have o:=Ga (v:=(0,0)) hP h.tr.r h.si h.rn.ok h.rn.lv h.rn.wh (dN.num 0) (by rw[h.si.ev];omega);rw[sm]at o;refine o.mono ?_;rintro e w' ⟨rfl,m',g',J,W⟩;refine⟨_,rfl,?_⟩;by_cases i:cr s1 t=0
 .refine ag ⟨fh i,m',g',ρ1,h.tr.trans J,?_⟩;rw[r1 i,aa (by rw[mz h.rn i];decide)];exact W.mono (by omega)
 obtain⟨b1,Z,Y,b4⟩:=(lG s1 t (0,0)).2 i;obtain⟨k1,k2⟩:=h.rn.back i;refine ab ⟨fi i,_,m',g',ρ1,⟨h.tr.trans J,W,k1,h.ng.back t iP.z,by rw[Y];exact h.nt,by rw[Z];exact h.ev,?_⟩,k2⟩;rw[H];exact r2 i
omit hP hK hn he in
include hPI in
theorem IT(h:tM p d K s s' t m g w I s1 m1 g1 ρ1 wr){tb fb n nr:Nat}(hQ:qP p d s1 m1 g1 wr ρ1 t tb fb n nr)(hI:I<p.qn)(hx:(bw s1 t).nx≠p.len (bw s1 t).f)(Z:(wr.setCell ⟨fb,n*4+2,none⟩ (iK ((fj m1 t n).nx+1:Nat))).grownBy w' none): ∃u,RunT p d K s s' t m g w I (s1.fD t) u g1 ρ1 (p.ins (bw s1 t).f (bw s1 t).nx) w'/\(u.T t).fr.length=(m1.T t).fr.length/\(fj u t n).f=(fj m1 t n).f:=by
 have o:=h.rr;obtain⟨k,H⟩:∃k,p.qn-I=k+1:=⟨p.qn-I-1,by omega⟩;rw[H]at o;obtain⟨why,s3,i1,i2⟩:=AU h.rn hx o;obtain⟨W,Y⟩:=mM h.rn hx;have y:=h.rn.ff;have i:(fj m1 t n).nx=(bw s1 t).nx:=by
  have:=((h.si.T t h.rn.lv).f n (by rw[<-(h.si.T t h.rn.lv).l];exact hQ.hi)).nx;rw[show bw s1 t=de s1 t n by unfold bw;rw[hQ.hn]];exact this
 have G:=h.si.nx h.rn.lv h.rn.fw.n1 ((bw s1 t).nx+1);rw[hQ.tp,hQ.tf,<-i]at G;refine⟨_,⟨h.tr.trans ((h.tr.r.FT hQ.dt hQ.T ((fj m1 t n).nx+1)).kept Z),?_,W,h.ng.fD t,h.nt,h.ev,?_,why,s3,i1,?_⟩,jS m1 t n _ t,?_⟩
 .have e:s1.fD t=s1.dx t (cr s1 t) { bw s1 t with nx:=(fj m1 t n).nx+1 }:=by unfold Pl.fD;rw[i]
  rw[e];exact G
 .rw[Y];exact hPI _ y.1 _ (by omega)
 .rw[show p.qn-(I+1)=k by omega];exact i2
 rw[ma m1 _ hQ.hi,aj ⟨rfl,rfl⟩]
include hG
theorem Jt{k:F.yi}(h:RunT p d K s s' t m g w I s1 m1 g1 ρ1 k wr){tb fb n nr:Nat}(hQ:qP p d s1 m1 g1 wr ρ1 t tb fb n nr)(hI:I<p.qn): Calls prog 194 #[P0 g1.mb,.int .i64 t,.slice (some ⟨g1.rb t n,0,none⟩) nr nr,jY k.1 k.2.1 k.2.2.1 k.2.2.2] wr λe w'=>∃v:Int,e=.returned (.int .i64 v)/\Gm p d K s s' t m g w I v w':=by
 obtain⟨why,s3,i1,u⟩:=h.rr;have a2:=h.nt;have a1:=h.ev;obtain⟨o1,Z⟩:=Aa h.rn (by omega) h.ok i1;have hw:=nP h.ok.1 i1;have J:=Z.nt;have a0:=Z.Ms;refine(Hn hP hG h.tr.r h.si h.rn hQ (by omega) (by omega) h.ng (by rw[h.si.ev];omega) h.ok i1).mono ?_;rintro e w' ⟨v,rfl,ρ',m',g',H,h2⟩;refine⟨v,rfl,?_⟩;rcases h2 with⟨rfl,rfl,⟨o,rfl⟩,G⟩|⟨G,⟨hv,rfl⟩|⟨rfl,rfl,i⟩|⟨rfl,rfl,i⟩⟩
 .rw[aj rfl]at u;have i:(((s1.tQ o).kj t).T t).run=false:=by
   show(((s1.tQ o).dv t ((s1.tQ o).T t).stop).T t).run=false;rw[df];rfl
  exact ab (ab (ag ⟨rfl,s1,m',g',ρ',h.tr.trans H,G.mono (by omega),h.rn.lv,by omega,o,nY u i⟩))
 .have y:why≠0:=by omega
  rw[aa y]at u;have e3:=hw.2.2 y;subst e3;have i:((s3.leave t (0,-why) 3 why).T t).run=false:=by
   rw[vw h.rn.ok.lw h.rn.ht];rfl
  exact ab (ab (ab ⟨hv,hw.2.1,s3,m',g',ρ',h.tr.trans H,G.mono (by omega),h.rn,by omega,nY u i⟩))
 .rw[aj rfl]at u;have Y:t∈s3.lv:=(o1.rn t ⟨h.rn.ht.1,dH h.rn.ht.2 J.1⟩ i).2;exact ag ⟨rfl,s3,m',g',ρ',h.tr.trans H,G.mono (by omega),⟨o1,Y,i⟩,h.ng.inst h.rn (by omega) h.ok i1,by omega,by omega,u⟩
 rw[aj rfl]at u;have e:=nY u i;subst e;refine ab (ag ⟨rfl,m',g',ρ',h.tr.trans H,?_⟩);rw[aa (by rw[i];decide)];exact G.mono (by omega)
omit hG hK hn he hP in
theorem dQ.zu(h:dQ d m g w):Tr d m g w m.zu g (w.setCell ⟨g.mb,14,none⟩ (.bool true)):=h.wQ 14 _ ⟨rfl,rfl,rfl,rfl,rfl,rfl,rfl,rfl⟩ (λi hi=>by
 have e:i=0\/i=1\/i=2\/i=3\/i=4\/i=5\/i=6\/i=7\/i=8\/i=9\/i=10\/i=11\/i=12\/i=13\/i=14\/i=15\/i=16\/i=17\/i=18\/i=19\/i=20\/i=21\/i=22\/i=23:=by omega
 rcases e with rfl|rfl|rfl|rfl|rfl|rfl|rfl|rfl|rfl|rfl|rfl|rfl|rfl|rfl|rfl|rfl|rfl|rfl|rfl|rfl|rfl|rfl|rfl|rfl<;>rfl)
omit hG hK hn he hP in
theorem K5(h:J6 p d K s' t m g w wr):Calls prog 195 #[P0 g.mb,.int .i64 5,.int .i64 (t:Int),.int .i64 0] wr λe w'=>e=.returned (.tuple #[])/\(∃v,w'.cell? ⟨g.mb,14,none⟩=some v)/\w'.frozen? ⟨g.mb,14,none⟩=false/\D3 p d K s' t m g w (w'.setCell ⟨g.mb,14,none⟩ (.bool true)):=by
 obtain⟨s1,m1,g1,ρ1,o,W,h3,Z,i,rfl⟩:=h;have H:=B5 5 t 0 o.r (by rw[W.ev];exact Z);rw[o.b]at H;refine H.mono ?_;rintro e w' ⟨rfl,g',u⟩;have J:=u.b.trans o.b;have y:=u.r.mc 14 (by omega) rfl;rw[J]at y;have G:=u.r.zu;rw[J]at G;refine⟨rfl,⟨_,y.1⟩,y.2,_,g',ρ1,(o.trans u).trans G,?_⟩;have Y:(((s1.tQ i).kj t).T t).run=false:=by
  show(((s1.tQ i).dv t ((s1.tQ i).T t).stop).T t).run=false;rw[df];rfl
 rw[aa (by rw[Y];decide)];exact(W.tQ i).kj h3
omit hG hK hn he in
theorem JI{v:Int}(h:Gl p d K s' t m g w v wr):Calls prog 196 #[P0 g.mb,.int .i64 (t:Int),.int .i64 3,.int .i64 v,.agg #[.int .i64 0,.int .i64 (-v)]] wr λe w'=>e=.returned (.tuple #[])/\D3 p d K s' t m g w w':=by
 obtain⟨s1,m1,g1,ρ1,o,G,i,W,rfl⟩:=h;have y:=Hd (u:=t) (kind:=3) (x:=v) (v:=(0,-v)) hP o.r G i.ok i.lv (dN.num _) (by rw[G.ev];exact W);rw[sm,o.b]at y;refine y.mono ?_;rintro e w' ⟨rfl,m',g',J,H⟩;refine⟨rfl,m',g',ρ1,o.trans J,?_⟩;rw[aa (λe=>by rw[vw i.ok.lw i.ht]at e;cases e)];exact H
end
end D
namespace D
open F
variable {p : dz} {d : Dp} {K : Nat} {s s' s1 : Pl} {m m' m1 : Dm} {g g' g1 : Dg} {w w' wr : World} {ρ ρ1 : Nat → Nat} {t I : Nat}
def LL(wr wx:World)(X ff rb nr nx bk:Nat):Prop:=wr.grownBy wx none/\wr.heap.size<=X/\wx.heap[X]? = some (.cells #[.int .i64 (ff:Int),.slice (some ⟨rb,0,none⟩) nr nr,.int .i64 (nx:Int),.int .i64 (bk:Int)] 163 (0,0))
theorem Mp(wr:World)(ff rb nr nx bk:Nat):LL wr ((wr.alloc (.cells #[.int .i64 ff,.slice (some ⟨rb,0,none⟩) nr nr,.int .i64 nx,.int .i64 bk] 163)).drew) wr.heap.size ff rb nr nx bk:=
 ⟨bq (au (ax _ _) _),bj _,bf _ _⟩
theorem RunT.kept{e:World}{k:F.yi}(h:RunT p d K s s' t m g w I s1 m1 g1 ρ1 k wr)(i:wr.grownBy e none):RunT p d K s s' t m g w I s1 m1 g1 ρ1 k e:={ h with tr:=h.tr.kept i }
theorem tM.kept{e:World}(h:tM p d K s s' t m g w I s1 m1 g1 ρ1 wr)(i:wr.grownBy e none):tM p d K s s' t m g w I s1 m1 g1 ρ1 e:={ h with tr:=h.tr.kept i }
theorem Ky(hP:PD p d)(hG:∀f,f<p.nf->2<=p.rg f/\p.rg f<=8)(hPI:PI p)(hK:K+p.qn<900000000)(hn:s.nt+p.qn<=500000000)(he:s.ev.length+p.qn<=100000)(h:dQ d m g w)(hS:eK p K s m ρ)(hR:Rn p s t)(hN:Ng s)(hr:gg p t p.qn s s'): Calls prog 145 #[P0 g.mb,.int .i64 t] w λe w'=>e=.returned (.tuple #[])/\D3 p d K s' t m g w w':=by
 obtain⟨k,rfl⟩:∃k,t=k+1:=⟨t-1,by have:=hR.ht.1;omega⟩;have H0:Hid (tM p d K s s' (k+1) m g w 0 s m g ρ w):=⟨Tr.refl h,hS,hR,hN,bj _,bj _,hr⟩;have cM:=hR.fw.n2;have HP:=az hP;have HG:=az hG;have cB:=az hPI;have HK:=az hK;have HN:=az hn;have HE:=az he;have a0:(((k+1:Nat)):Int)=(k:Int)+1:=by omega
 clear hP hG hPI hn he h hS hR hN hr;generalize bC:g.mb=mb at *;have aJ:=az bC;clear bC;go_in;go_wp2_with fail
 go_loopg [4] (p.qn*22+21) (λN i wr=>∃(I:Nat),i=.int .i64 I/\I<=p.qn/\∃s1 m1 g1 ρ1,Hid (tM p d K s s' (k+1) m g w I s1 m1 g1 ρ1 wr/\(p.qn-I)*22+(s1.T (k+1)).fr.length<=N))
 case atStart=>exact⟨0,rfl,dc _,s,m,g,ρ,H0.out,by omega⟩
 case round=>
  obtain⟨I,rfl,hI,s1,m1,g1,ρ1,a3⟩:=hrel;obtain⟨u,b9⟩:=a3.out;have G:=u.tr.b.trans aJ.out;have c2:wr.cell? ⟨mb,2,none⟩=some (.int .i64 p.qn):=by
   have:=(u.tr.r.mc 2 (by omega) rfl).1;rw[G]at this;rw[<-HP.out.qn];exact this
  by_cases aP:I<p.qn
  .have bG:(I:Int)<p.qn:=by omega
   obtain⟨tb,fb,n,nr,hQ⟩:=Rn.run HP.out u.tr.r u.si u.rn;have j6:=hQ.T.c6;rw[G]at j6;have jt:=hQ.T.t0;rw[dC]at jt;have k0:=hQ.T.k0;have k1:=hQ.T.k1;rw[hQ.r1]at k1;have k2:=hQ.T.k2;have k3:=hQ.T.k3;have aV:=hQ.n20;have bS:k<m1.nt:=by have:=hQ.dt.2;omega
   have bL:m1.nt<1000000000:=(u.si.small u.rn.ok).1;have q1:(0:Int)<=n:=by omega
   have q2:(n:Int)<n+1:=by omega
   have q3:=fp (n:=n) (by omega);have q4:IntKind.i64.wrap (n:Int)=n:=by rw[bl,bd _ (by omega)]
   have q5:=fp (n:=k) (by omega);have q6:IntKind.i64.wrap (k:Int)=k:=by rw[bl,bd _ (by omega)]
   have q7:(0:Int)<=k:=by omega
   have q8:(k:Int)<m1.nt:=by omega
   have HQ:=az hQ;have Y:Hid ((fj m1 (k+1) n).nx=(bw s1 (k+1)).nx/\(fj m1 (k+1) n).f=(bw s1 (k+1)).f):=by
    refine⟨?_,hQ.hf⟩;have:=((u.si.T (k+1) u.rn.lv).f n (by rw[<-(u.si.T (k+1) u.rn.lv).l];exact hQ.hi)).nx;rw[show bw s1 (k+1)=de s1 (k+1) n by unfold bw;rw[hQ.hn]];exact this
   clear hQ u aV;generalize b4:(g1.ro 1 0).2=aO at *;generalize aU:(g1.ro 5 (k+1)).2=aH at *;generalize bF:(fj m1 (k+1) n).nx=nx at *;generalize H:(fj m1 (k+1) n).f=ff at *;generalize (fj m1 (k+1) n).bk.2.1=bk at *;generalize aY:g1.rb (k+1) n=rb at *;have aC:mb<wr.heap.size:=av wr _ j6;have aA:tb<wr.heap.size:=av wr _ jt;have a7:fb<wr.heap.size:=av wr _ k0;clear b4 aU;have HX:=az (ay bF (ay H aY));clear bF H aY;go_wp2_with fail
   go_cut [5] (λq wx=>∃X:Nat,q=.pointer (some ⟨X,0,none⟩)/\Hid (LL wr wx X ff rb nr nx bk))
   case first=>
    have aB:Hid (∀w',wr.grownBy w' none->w'.cell? ⟨mb,6,none⟩=some (.slice (some ⟨tb,0,none⟩) m1.nt aO)/\w'.cell? ⟨tb,k*8,none⟩=some (.slice (some ⟨fb,0,none⟩) (n+1) aH)/\w'.cell? ⟨fb,n*4,none⟩=some (.int .i64 ff)/\w'.cell? ⟨fb,n*4+1,none⟩=some (.slice (some ⟨rb,0,none⟩) nr nr)/\w'.cell? ⟨fb,n*4+2,none⟩=some (.int .i64 nx)/\w'.cell? ⟨fb,n*4+3,none⟩=some (.int .i64 bk)):=λw' hg=>⟨(bh hg (a:=⟨mb,6,none⟩) aC).1.trans j6,(bh hg (a:=⟨tb,k*8,none⟩) aA).1.trans jt,(bh hg (a:=⟨fb,n*4,none⟩) a7).1.trans k0,(bh hg (a:=⟨fb,n*4+1,none⟩) a7).1.trans k1,(bh hg (a:=⟨fb,n*4+2,none⟩) a7).1.trans k2,(bh hg (a:=⟨fb,n*4+3,none⟩) a7).1.trans k3⟩;go_region_held3 (λw'=>w'.cell? ⟨mb,6,none⟩=some (.slice (some ⟨tb,0,none⟩) m1.nt aO)/\w'.cell? ⟨tb,k*8,none⟩=some (.slice (some ⟨fb,0,none⟩) (n+1) aH)/\w'.cell? ⟨fb,n*4,none⟩=some (.int .i64 ff)/\w'.cell? ⟨fb,n*4+1,none⟩=some (.slice (some ⟨rb,0,none⟩) nr nr)/\w'.cell? ⟨fb,n*4+2,none⟩=some (.int .i64 nx)/\w'.cell? ⟨fb,n*4+3,none⟩=some (.int .i64 bk)) (first|exact aB.out _ (ax _ _)|exact aB.out _ (bq (ax _ _))|exact aB.out _ (au (bq (ax _ _)) _)|exact aB.out _ (bp (bp (bp (bp (au (bq (ax _ _)) _) (ab (bj _)) _) (ab (bj _)) _) (ab (bj _)) _) (ab (bj _)) _)) (fail)
    all_goals
     go_wp2_with fail
     go_meet
     case rel=>exact⟨_,rfl,Mp wr ff rb nr nx bk⟩
   case rest=>
    obtain⟨X,rfl,hF⟩:=hcut;obtain⟨g3,lX,hx⟩:=hF.out;have HF:=hF;have x0:wc.cell? ⟨X,0,none⟩=some (.int .i64 ff):=by simp[World.cell?,hx]
    have a8:=az (a3.out.1.kept g3);have aM:=az (a8.out.tr.r);have H:ff<p.nf:=by rw[Y.out.2];exact a8.out.rn.ff.1
    have d0:wc.cell? ⟨mb,0,none⟩=some (.slice (some ⟨d.gb,0,none⟩) d.nf d.gc):=by
     have:=(aM.out.mc 0 (by omega) rfl).1;rw[G]at this;exact this
    have d1:wc.cell? ⟨d.gb,ff*2+1,none⟩=some (.slice (some ⟨d.cb ff,0,none⟩) (d.len ff) (d.cc ff)):=by
     have c5:=aM.out.P.2.2;rw[c5.cell (ff*2+1) (by rw[HP.out.nf];omega)];unfold JC;rw[aa (by omega),show(ff*2+1) / 2=ff by omega]
    have cQ:(ff:Int)<d.nf:=by rw[HP.out.nf];omega
    have cD:nx<=d.len ff:=by
     have J:=a8.out.rn.ff.2;rw[<-Y.out.1,<-Y.out.2,<-HP.out.len ff H]at J;exact J
    clear g3 hx hF;go_wp2_with fail
    go_quiet (fail)
    have x2:wc.cell? ⟨X,2,none⟩=some (.int .i64 nx):=by
     have hx:=HF.out.2.2;simp[World.cell?,hx]
    have a6:Hid (tM p d K s s' (k+1) m g w I s1 m1 g1 ρ1 (wc.drewN nq)):=a8.out.kept (db (ax _ none) _);have Z:Hid (LL wr (wc.drewN nq) X ff rb nr nx bk):=⟨db HF.out.1 _,HF.out.2.1,HF.out.2.2⟩;have b8:(wc.drewN nq).cell? ⟨X,2,none⟩=some (.int .i64 nx):=x2;clear x2 x0 d0 d1 a8 aM HF;generalize wc.drewN nq=W at *;by_cases hx:nx=d.len ff
    .have aS:=az (Jy HP.out HE.out a6.out aP (by rw[<-Y.out.1,<-Y.out.2,<-HP.out.len ff H];exact hx));rw[G]at aS;go_wp2_with fail
     refine aS.out.mono ?_;rintro e w5 ⟨ov,rfl,aZ⟩;have b7:=az aZ;clear aZ b8 aS Z
     cases ov with
     | true=>
      go_wp2_with fail
      refine da (results_none rfl _ _ _) rfl ?_;rcases b7.out with⟨_,J⟩|⟨J,_⟩
      .exact⟨rfl,J⟩
      cases J
     | false=>
      go_wp2_with fail
      have bB:Hid (∃s2 m2 g2 ρ2,tM p d K s s' (k+1) m g w I s2 m2 g2 ρ2 w5/\(s2.T (k+1)).fr.length+1=(s1.T (k+1)).fr.length):=by
       rcases b7.out with⟨J,_⟩|⟨_,J⟩
       .cases J
       exact J
      obtain⟨s2,m2,g2,ρ2,h2,a4⟩:=bB.out;go_roundg ((p.qn-I)*22+(s2.T (k+1)).fr.length)
      case rel=>exact⟨I,rfl,hI,s2,m2,g2,ρ2,h2,bj _⟩
      case measure=>omega
    have bN:¬((nx:Int)=(d.len ff:Int)):=by omega
    have bD:nx<d.len ff:=by omega
    obtain⟨bM,a4,aL⟩:=a6.out.tr.r.K (f:=ff) (by rw[HP.out.nf];exact H);have cF:nx<9223372036854775807:=by unfold maxLen at a4;omega
    have a2:=az (HQ.out.kept a3.out.1.tr.r Z.out.1);have c8:=(bh Z.out.1 (a:=⟨mb,6,none⟩) aC).1.trans j6;have bQ:=(bh Z.out.1 (a:=⟨tb,k*8,none⟩) aA).1.trans jt;have bP:W.cell? ⟨fb,n*4+2,none⟩=some (.int .i64 nx):=(bh Z.out.1 (a:=⟨fb,n*4+2,none⟩) a7).1.trans k2;have bO:=a2.out.T.z 2 (by omega)
    have q9:IntKind.i64.wrap ((I:Int)+1)=(I:Int)+1:=by rw[bl,bd _ (by omega)]
    have cG:IntKind.i64.wrap ((nx:Int)+1)=(nx:Int)+1:=by rw[bl,bd _ (by omega)]
    have aI:=az aL;clear j6 jt k0 k1 k2 k3 bM a4 c2;go_wp2_with fail
    clear b8;go_cut [] (λwx=>Hid ((W.setCell ⟨fb,n*4+2,none⟩ (.int .i64 ((nx:Int)+1))).grownBy wx none))
    case first=>
     go_region
     all_goals
      go_wp2_with fail
      go_meet
      case rel=>first|exact(bq (ax _ _):World.grownBy _ _ _)|exact(ax _ _:World.grownBy _ _ _)
    case rest=>
     have aF:=hcut;clear hcut c8 bQ bP bO;have bE:(bw s1 (k+1)).nx≠p.len (bw s1 (k+1)).f:=by rw[<-Y.out.1,<-Y.out.2,<-HP.out.len ff H];exact hx
     obtain⟨m2,hT,a4,bH⟩:=IT cB.out a6.out a2.out aP bE (w':=wc) (by
      rw[HX.out.1,show(((nx+1:Nat)):Int)=(nx:Int)+1 by omega];exact aF.out)
     obtain⟨cK,cS,n2,aG,a9⟩:=Rn.run HP.out hT.tr.r hT.si hT.rn;have en:n2=n:=by
      have J:=a9.T.l;rw[a4,a2.out.T.l]at J;omega
     subst en;have er:aG=nr:=by
      have J:=a9.r1;rw[bH,a2.out.r1]at J;exact J.symm
     subst er;have HI:=az (Jt HP.out HG.out HK.out HN.out HE.out (hT.kept (bq (ax wc none))) (a9.kept hT.tr.r (bq (ax wc none))) aP);rw[G,HX.out.2.2,<-Y.out.1,<-Y.out.2,a0]at HI;simp only[jY]at HI;have a1:=HP.out.ins ff nx H (by rw[<-HP.out.len ff H];exact bD);have aT:X≠fb:=by omega
     have aK:=bz Z.out.2.2;have bA:=aI.out.lt;have b5:d.cb ff≠fb:=by
      have bZ:(ok d m1 g1 9 ff 0).bs (d.cb ff):=rfl;have bK:(ok d m1 g1 5 (k+1) 0).bs fb:=by
       show eO (g1.ro 5 (k+1)).1=some fb;rw[HQ.out.T.a];rfl
      exact a3.out.1.tr.r.ne (IJ (by rw[HP.out.nf];exact H)) (pX HQ.out.dt.1 HQ.out.dt.2) bZ bK (by omega)
     have aD:∀j o v,j≠fb->j<W.heap.size->W.cell? ⟨j,o,none⟩=some v->wc.cell? ⟨j,o,none⟩=some v:=λj o v hj hl hc=>by
      refine(bh aF.out (a:=⟨j,o,none⟩) (by simp[World.setCell];exact hl)).1.trans ?_;exact(aw (a:=⟨j,o,none⟩) (af W ⟨fb,n2*4+2,none⟩ _ j hj)).trans hc
     have y1:wc.cell? ⟨X,1,none⟩=some (.slice (some ⟨rb,0,none⟩) aG aG):=aD X 1 _ aT aK (by
      have hx:=Z.out.2.2;simp[World.cell?,hx])
     have y2:wc.cell? ⟨X,2,none⟩=some (.int .i64 nx):=aD X 2 _ aT aK (by
      have hx:=Z.out.2.2;simp[World.cell?,hx])
     have cd:∀j,j<4->wc.cell? ⟨d.cb ff,nx*4+j,none⟩=some (Ec d ff (nx*4+j)):=λj hj=>aD _ _ _ b5 bA (aI.out.cell (nx*4+j) (by omega));have e0:wc.cell? ⟨d.cb ff,nx*4,none⟩=some (.int .i64 ((p.ins ff nx).1:Int)):=by
      have h9:=cd 0 (by omega);unfold Ec at h9;rw[show(nx*4+0) / 4=nx by omega,aj (by omega),a1]at h9;exact h9
     have e1:wc.cell? ⟨d.cb ff,nx*4+1,none⟩=some (.int .i64 ((p.ins ff nx).2.1:Int)):=by
      have h9:=cd 1 (by omega);unfold Ec at h9;rw[show(nx*4+1) / 4=nx by omega,aa (by omega),aj (by omega),a1]at h9;exact h9
     have e2:wc.cell? ⟨d.cb ff,nx*4+2,none⟩=some (.int .i64 ((p.ins ff nx).2.2.1:Int)):=by
      have h9:=cd 2 (by omega);unfold Ec at h9;rw[show(nx*4+2) / 4=nx by omega,aa (by omega),aa (by omega),aj (by omega),a1]at h9;exact h9
     have e3:wc.cell? ⟨d.cb ff,nx*4+3,none⟩=some (.int .i64 ((p.ins ff nx).2.2.2:Int)):=by
      have h9:=cd 3 (by omega);unfold Ec at h9;rw[show(nx*4+3) / 4=nx by omega,aa (by omega),aa (by omega),aa (by omega),a1]at h9;exact h9
     have cJ:(nx:Int)<(d.len ff:Int):=by omega
     have cI:IntKind.i64.wrap (nx:Int)=nx:=by rw[bl,bd _ (by omega)]
     have cO:=a6.out.rn.fw.n2;generalize p.ins ff nx=kk at *;clear hT a9 a1 aD cd aI aF Z a2 a6 bH a4 bE aT aK bA b5 lX HQ Y;go_wp2_with fail
     go_cut [8] (λq wx=>∃v:Int,q=.int .i64 v/\Hid (Gm p d K s s' (k+1) m g w I v wx))
     case first=>
      go_region_with (go_at_call 194;refine HI.out.mono ?_;rintro e w6 ⟨v,rfl,hA⟩;have HA:=az hA;clear hA)
      all_goals
       go_wp2_with fail
       go_meet
       case rel=>exact⟨v,rfl,HA⟩
     case rest=>
      obtain⟨v,rfl,hA⟩:=hcut;clear HI y1 y2 e0 e1 e2 e3;rcases hA.out with⟨rfl,h0⟩|⟨rfl,J⟩|⟨rfl,h2⟩|⟨v1,v8,h3⟩
      .obtain⟨s2,bX,g2,ρ2,h2⟩:=h0;have cC:=h2.rn.fw.n2;have H2:=az h2;clear h2 hA;go_wp2_with fail
       go_roundg ((p.qn-(I+1))*22+(s2.T (k+1)).fr.length)
       case rel=>exact⟨I+1,by go_num,by omega,s2,bX,g2,ρ2,H2.out,bj _⟩
       case measure=>omega
      .have H1:=az J;clear J hA;go_wp2_with fail
       refine da (results_none rfl _ _ _) rfl ?_;exact⟨rfl,H1.out⟩
      .have HM:=az (K5 h2);rw[aJ.out,a0]at HM;clear h2 hA;go_wp2_with fail
       refine HM.out.mono ?_;rintro e w7 ⟨rfl,⟨cP,cR⟩,cH,hE⟩;have aR:=az hE;clear hE HM;go_wp2_with fail
       refine da (results_none rfl _ _ _) rfl ?_;exact⟨rfl,aR.out⟩
      have HM:=az (JI HP.out h3);rw[aJ.out,a0]at HM;clear h3 hA
      have b3:IntKind.i64.wrap (-v)=-v:=by rw[bl,bd _ (by omega)]
      go_wp2_with fail
      refine HM.out.mono ?_;rintro e w7 ⟨rfl,hE⟩;have aR:=az hE;clear hE HM;go_wp2_with fail
      refine da (results_none rfl _ _ _) rfl ?_;exact⟨rfl,aR.out⟩
  have aW:I=p.qn:=by omega
  have bG:¬((I:Int)<p.qn):=by omega
  obtain⟨i0,hi,bW,bI,bY⟩:=info_parts Tryz.qk;have a5:=(iw u.si (k+1)).2 u.rn.ht;obtain⟨c7,z7⟩:=u.tr.r.mc 7 (by omega) (v:=.slice (g1.ro 2 0).1 m1.q.length (g1.ro 2 0).2) rfl;rw[G]at c7 z7;obtain⟨tb,e1,hT,tc⟩:=u.tr.r.tc a5;have c6:wr.cell? ⟨mb,6,none⟩=some (.slice (some ⟨tb,0,none⟩) m1.nt (g1.ro 1 0).2):=by
   rw[show some (⟨tb,0,none⟩:Addr)=(g1.ro 1 0).1 by rw[e1],<-G];exact(u.tr.r.mc 6 (by omega) rfl).1
  obtain⟨t1,z1⟩:=tc.c 1 (by omega);rw[dC]at t1 z1
  have bL:=(u.si.small u.rn.ok).1;have cL:=(u.si.small u.rn.ok).2
  have q5:=fp (n:=k) (by omega);have q6:IntKind.i64.wrap (k:Int)=k:=by rw[bl,bd _ (by omega)]
  have q7:(0:Int)<=k:=by omega
  have q8:(k:Int)<m1.nt:=by omega
  have aC:mb<wr.heap.size:=av wr _ c6;have aA:tb<wr.heap.size:=av wr _ t1;have HQ:Hid (fM wr 3 (.slice (g1.ro 2 0).1 m1.q.length (g1.ro 2 0).2) (iI m1.q)):=u.tr.r.Q;have aN:Hid (∀j,(Value.slice (g1.ro 2 0).1 m1.q.length (g1.ro 2 0).2).ownBlock=some j->j≠mb/\j≠tb/\j<wr.heap.size):=λj hj=>by
   have b6:eO (g1.ro 2 0).1=some j:=by rw[<-dr (g1.ro 2 0).1 m1.q.length (g1.ro 2 0).2];exact hj
   refine⟨?_,?_,HQ.out.lt j hj⟩
   .rw[<-G];exact u.tr.r.ne (x:=2) (y:=0) (z:=0) (x':=0) (y':=0) (z':=0) (m6 (by omega)) rfl b6 rfl (by omega)
   exact u.tr.r.ne (x:=2) (y:=0) (z:=0) (x':=1) (y':=0) (z':=0) (m6 (by omega)) (m6 (by omega)) b6 ((Bw d m1 e1 tb).2 rfl) (by omega)
  have HL:=az (iH m1.q);have bR:=az (ay u (ay e1 a5));generalize tC (m1.T (k+1)) (iR m1 g1 5 (k+1)) 1=o1 at t1;clear u hT tc e1 a5 a3;go_wp2_with (at_builtin;refine gZ _ rfl (.tmp 118) (.tmp 120) 54 rfl 3 i0 _ 8 Tryz.g9 hi bW bI bY rfl _ (iI m1.q) rfl (HQ.out.block ?cq) _ _ (.int .i64 ((k:Int)+1)) rfl ?c1 rfl ?c3 ?c4 ?_)
  case cq=>
   intro j hj;exact ak _ _ _ (aN.out j hj).2.2
  try case c1=>simp[go_sem]
  try case c3=>rw[HL.out];unfold maxLen;omega
  try case c4=>rw[HL.out];omega
  intro qb off cap w6 aQ hg aX;rw[HL.out]at aQ;have bJ:=az aQ;have bT:=az hg;have cA:=az aX;have b0:w6.heap[mb]? = wr.heap[mb]?:=by rw[hg.block mb (by simp;omega) (λh=>(aN.out mb h.symm).1 rfl),ak _ _ _ aC]
  have bt:w6.heap[tb]? = wr.heap[tb]?:=by rw[hg.block tb (by simp;omega) (λh=>(aN.out tb h.symm).2.1 rfl),ak _ _ _ aA]
  have d7:=(aw (a:=⟨mb,7,none⟩) b0).trans c7;have f7:=(dg (a:=⟨mb,7,none⟩) b0).trans z7;have d6:=(aw (a:=⟨mb,6,none⟩) b0).trans c6;have d1:=(aw (a:=⟨tb,k*8+1,none⟩) bt).trans t1;have f1:=(dg (a:=⟨tb,k*8+1,none⟩) bt).trans z1;clear aQ hg aX b0 bt c7 z7 c6 t1 z1;go_wp2_with fail
  go_end0;obtain⟨u,e1,a5⟩:=bR.out;have h0:=u.tr.kept (au (ax wr none) (.cells #[.int .i64 ((k:Int)+1)] 3));have bU:fM w6 3 (.slice (some ⟨qb,off,none⟩) (m1.q.length+1) cap) (iI m1.q++[iK ((k+1:Nat):Int)]):=by rw[a0];exact bJ.out
  have J:=Tr.qv (t:=k+1) (b:=qb) (off:=off) (c:=cap) h0 bU bT.out (cA.out.imp id (λe=>by rw[e];simp));have aE:=(u.si.T _ u.rn.lv).h.h0 u.rn.wh;have h2:=J.r.sw (t:=k+1) (tb:=tb) a5 (by rw[qG g1 _ (by omega)];exact e1) 1 (by omega) (.int .i64 1) (x':=m1.T (k+1)) rfl (λj hj=>by
   have hc:j=0\/j=1\/j=2\/j=3\/j=4\/j=5\/j=6\/j=7:=by omega
   rcases hc with rfl|rfl|rfl|rfl|rfl|rfl|rfl|rfl
   .rfl
   .show iK ((m1.T (k+1)).how:Int)=_;rw[aE];rfl
   .rfl
   .rfl
   .rfl
   .rfl
   .rfl
   rfl)
  rw[dC]at h2;have h3:=J.trans h2;rw[G]at h3;have bV:s'=s1:=by
   have h9:=u.rr;rw[aW,Nat.sub_self]at h9;exact h9
  have h4:=u.si.join (x:=m1.T (k+1)) u.rn.ok u.rn.lv (by rw[u.rn.wh];intro e;cases e) ⟨rfl,rfl,rfl,aE⟩;refine⟨rfl,_,_,ρ1,by rw[HL.out];exact h3,?_⟩;rw[bV,aj u.rn.run,<-aW];exact h4
end D
namespace D
open F
variable {p : dz} {d : Dp} {K : Nat} {s s' : Pl} {m m' : Dm} {g g' : Dg} {w w' : World} {ρ : Nat → Nat}
theorem dQ.Ly{p:Dp}(h:dQ p m g w):Tr p m g w m.lD (g.at 4 0 (none,0)) (w.setCell ⟨g.mb,15,none⟩ (.slice none 0 0)):=by
 refine h.Cs 4 0 (m6 (by omega)) (by omega) (λ_ _ _=>rfl) (bm (S:=λk=>k=g.mb\/(ok p m g 4 0 0).bs k) (a:=⟨g.mb,15,none⟩) (dk _ _) (ag (ag rfl)) _) (λx y z H Y W=>ok_eq (e0:=λe=>ch e Y) (er:=λZ=>?_) (eq:=λe=>by rcases e with rfl|rfl<;>exact⟨qG g _ (by omega),rfl,rfl⟩) (hx:=kG H)) ((h.M.ep 15 _).congr (λi hi=>?_)) ?_ (λk J=>?_)
 .have G:¬(x=4/\y=0):=λe=>W ⟨e.1,e.2,(jC H (by omega)).2⟩;have o:x≠4:=λe=>G ⟨e,(jC H (by omega)).1⟩;refine⟨qG g _ G,?_,?_⟩
  .unfold qz;rw[aa o,aa o];rfl
  rw[CF _ _ _ _ (by decide)];unfold rC;rw[aa o,aa o];rfl
 .unfold ep;by_cases e:i=15
  .subst e;rw[aj rfl];show _=Value.slice ((g.at 4 0 (none,0)).ro 4 0).1 0 ((g.at 4 0 (none,0)).ro 4 0).2;rw[xS]
  rw[aa e,CY p m.lD g _ 15 (by omega) i e];unfold mE;rw[aa e,aa e];rfl
 .show World.ownsRow _ 0 48 3 (.slice ((g.at 4 0 (none,0)).ro 4 0).1 0 ((g.at 4 0 (none,0)).ro 4 0).2) 0 (kE []);rw[xS];exact dJ _ _ _ _
 have u:eO ((g.at 4 0 (none,0)).ro 4 0).1=some k:=J;rw[xS]at u
 cases u
theorem dQ.GQ{p:Dp}(h:dQ p m g w)(c:Int):Tr p m g w (m.fF c) g (w.setCell ⟨g.mb,5,none⟩ (.int .i64 c)):=h.wQ 5 _ ⟨rfl,rfl,rfl,rfl,rfl,rfl,rfl,rfl⟩ (λi hi=>by
 have e:i=0\/i=1\/i=2\/i=3\/i=4\/i=5\/i=6\/i=7\/i=8\/i=9\/i=10\/i=11\/i=12\/i=13\/i=14\/i=15\/i=16\/i=17\/i=18\/i=19\/i=20\/i=21\/i=22\/i=23:=by omega
 rcases e with rfl|rfl|rfl|rfl|rfl|rfl|rfl|rfl|rfl|rfl|rfl|rfl|rfl|rfl|rfl|rfl|rfl|rfl|rfl|rfl|rfl|rfl|rfl|rfl<;>rfl)
theorem H5{c:Dc}{n N a b:Nat}(h:GA c n)(y:c.fu=false->c.bg=false->N<=n):GA (c.rf a b N) n:=by
 obtain⟨i,u,o⟩:=h;unfold Dc.rf
 cases hf:c.fu with
 |true=>rw[aj rfl];exact⟨i,u,o⟩
 |false=>
  rw[aa (by decide)];have e:GA ((c.FG a N).Ef b) n:=by
   unfold Dc.Ef Dc.FG
   cases e:c.bg with
   |true=>rw[aj rfl];exact⟨i,u,o⟩
   |false=>rw[aa (by decide)];exact⟨i,y hf e,o⟩
  unfold Dc.fin;split
  .exact⟨e.1,e.2.1,e.2.1⟩
  exact e
section
variable (p d K m g w ρ)
def Iu(fin:Pl)(ys:List (Int×Nat))(w1:World):Prop:=∃s1 m1 g1,Tr d m g w m1 g1 w1/\eK p K s1 m1 ρ/\Ok p s1/\Ng s1/\s1.nt≠0/\s1.eN ys=fin/\ys=[]
def LO(fin:Pl)(n:Nat)(w1:World):Prop:=∃s1 m1 g1,(s1.q 3 0).length=n/\Tr d m g w m1 g1 w1/\eK p K s1 m1 ρ/\Ok p s1/\Ng s1/\s1.nt≠0/\s1.gr (s1.q 3 0)=fin
def ID(fin:Pl)(n B:Nat)(w1:World):Prop:=∃s1 m1 g1,(s1.q 3 0).length=n/\Tr d m g w m1 g1 w1/\eK p K s1 m1 ρ/\Ok p s1/\Ng s1/\s1.nt≠0/\s1.gr (s1.q 3 0)=fin/\((B=0/\fin=s1)\/(B≠0/\∃l,s1.q 3 0=B :: l/\(s1.T B).iL<=s1.eY))
def D8(s3:Pl)(w1:World):Prop:=∃m1 g1 ρ1,Tr d m g w m1 g1 w1/\eK p (K+p.qn) s3 m1 ρ1
def J4(s3:Pl)(v:Value)(w1:World):Prop:=∃m1 g1 ρ1,Tr d m g w m1 g1 w1/\eK p (K+p.qn) s3 m1 ρ1/\(v=iR m1 g1 4 0\/(v=.slice none 0 0/\m1.ev=[]))
end
variable {fin s3 : Pl} {n B : Nat} {w1 w2 : World} {ys : List (Int × Nat)} {x : Int × Nat}
theorem Mi(hP:PD p d)(h:Iu p d K m g w ρ fin (x :: ys) w1):Calls prog 142 #[P0 g.mb,.agg #[.int .i64 x.1,.int .u8 (x.2:Int)]] w1 λe w'=>e=.returned (.tuple #[])/\Iu p d K m g w ρ fin ys w':=by
 obtain⟨_,_,_,_,_,_,_,_,_,i⟩:=h
 cases i
theorem JN(h:LO p d K m g w ρ fin n w1):Calls prog 143 #[P0 g.mb] w1 λe w'=>∃B:Nat,e=.returned (.int .i64 (B:Int))/\ID p d K m g w ρ fin n B w':=by
 obtain⟨s1,m1,g1,Z,i,o,y,a4,u,G⟩:=h;have H:=Lw i.r (by rw[o.nt];exact u);rw[i.b]at H;refine H.mono ?_;rintro e w' ⟨B,rfl,_,J,Y⟩;refine⟨B,rfl,s1,m1,g1,Z,i.kept Y,o,y,a4,u,G,?_⟩;rcases o.due y J with⟨e,hh⟩|⟨e,l,W,ht⟩
 .refine ag ⟨e,?_⟩;rw[<-G]
  cases hq:s1.q 3 0 with
  |nil=>rfl
  |cons a l=>
   show(if(s1.T a).iL<=s1.eY then _ else s1)=s1;rw[aa (hh a l hq)]
 exact ab ⟨e,l,W,ht⟩
theorem De{t:Nat}{l:List Nat}(o:Ok p s)(i:s.q 3 0=t :: l):(s.dV 2 0 t).q 3 0=l:=by
 show((s.dw t).eZ 2 0 ((s.dw t).q 2 0++[t])).q 3 0=l;rw[fL _ _ (by omega),fN ((o.lw.b 3 0 (ab (ag ⟨rfl,rfl⟩)) t (by rw[i];simp)).2)];show(s.eZ 3 0 ((s.q 3 0).erase t)).q 3 0=l;rw[fX,i];simp
theorem Ja{b:Nat}(h:ID p d K m g w ρ fin n (b+1) w1):∃tb nt cap v,w1.cell? ⟨g.mb,6,none⟩=some (.slice (some ⟨tb,0,none⟩) nt cap)/\b<nt/\nt<1000000000/\w1.cell? ⟨tb,b*8+2,none⟩=some v/\w1.frozen? ⟨tb,b*8+2,none⟩=false/\g.mb≠tb /\ Calls prog 144 #[P0 g.mb,.int .i64 ((b:Int)+1),.agg #[.int .i64 0,.int .i64 0]] (w1.setCell ⟨tb,b*8+2,none⟩ (.int .i64 (-1))) λe w'=>e=.returned (.tuple #[])/\∃k,k+1=n/\LO p d K m g w ρ fin k w':=by
 obtain⟨s1,m1,g1,a0,o,J,u,a4,a5,a6,a7⟩:=h;obtain⟨_,l,W,ht⟩:b+1≠0/\∃l,s1.q 3 0=(b+1) :: l/\(s1.T (b+1)).iL<=s1.eY:=a7.resolve_left (λe=>by omega);have G:fz s1 3 0:=ab (ag ⟨rfl,rfl⟩);have hm:b+1∈s1.q 3 0:=by rw[W];simp
 have y:=u.ql 3 0 G _ hm;obtain⟨aA,a9⟩:=u.lw.b 3 0 G _ hm;have i:=(iw J (b+1)).2 aA;obtain⟨tb,e1,hT,tc⟩:=o.r.tc i;have c6:w1.cell? ⟨g.mb,6,none⟩=some (.slice (some ⟨tb,0,none⟩) m1.nt (g1.ro 1 0).2):=by
  rw[show some (⟨tb,0,none⟩:Addr)=(g1.ro 1 0).1 by rw[e1],<-o.b];exact(o.r.mc 6 (by omega) rfl).1
 obtain⟨t2,z2⟩:=tc.c 2 (by omega);rw[dC]at t2 z2;have Z:=o.r.sw (t:=b+1) i e1 2 (by omega) (.int .i64 (-1)) (x':={ m1.T (b+1) with into:=-1 }) rfl (λj hj=>by
  have hc:j=0\/j=1\/j=2\/j=3\/j=4\/j=5\/j=6\/j=7:=by omega
  rcases hc with rfl|rfl|rfl|rfl|rfl|rfl|rfl|rfl<;>rfl)
 rw[dC]at Z;have hR:=Cz (t:=b+1) (0,0) Z.r i (J.small u).1 (J.small u).2 (λe=>by
  rw[fG]at e;have:(0:Int)<=-1:=e;omega)
 rw[o.b,show(((b+1:Nat)):Int)=(b:Int)+1 by omega]at hR
 refine⟨tb,m1.nt,(g1.ro 1 0).2,_,c6,by omega,(J.small u).1,t2,z2,(by rw[<-o.b];exact o.r.M.ne hT (by decide)),hR.mono ?_⟩;rintro e w' ⟨rfl,g',h3⟩
 have H:=De u W;refine⟨rfl,l.length,by rw[<-a0,W];rfl,s1.dV 2 0 (b+1),_,g',by rw[H],(o.trans Z).trans h3,J.KH u y (by rw[a9];intro e;injection e with e;injection e with e _;omega) rfl (0,0),u.dV y,a4.join 2 0 _,by rw[iX];exact a5,?_⟩;rw[H,<-a6,W];show _=if(s1.T (b+1)).iL<=s1.eY then(s1.dV 2 0 (b+1)).gr l else s1
 rw[aj ht]
theorem Kz{t:Nat}{r:List Nat}(hP:PD p d)(hG:∀f,f<p.nf->2<=p.rg f/\p.rg f<=8)(hPI:PI p)(hK:K+p.qn<900000000)(h:ID p d K m g w ρ fin n 0 w1)(hn:fin.nt+p.qn<=500000000)(he:fin.ev=[])(aI:p.qn<=50)(W:fin.q 2 0=t :: r)(hf:gO p fin s3): ∃b off cap,w1.cell? ⟨g.mb,7,none⟩=some (.slice (some ⟨b,off,none⟩) (r.length+1) cap)/\w1.frozen? ⟨g.mb,7,none⟩=false/\r.length+1<=cap/\r.length<1000000000/\b≠g.mb/\w1.cell? ⟨b,off,none⟩=some (.int .i64 (t:Int)) /\ Calls prog 145 #[P0 g.mb,.int .i64 (t:Int)] (w1.setCell ⟨g.mb,7,none⟩ (.slice (some ⟨b,if cap=1 then off else off+1,none⟩) r.length (cap-1))) λe w'=>e=.returned (.tuple #[])/\D8 p d K m g w s3 w':=by
 obtain⟨s1,m1,g1,a0,y,a2,J,a4,a5,a6,a7⟩:=h;have aF:fin=s1:=by
  rcases a7 with e|e
  .exact e.2
  exact ch rfl e.1
 subst aF;have u:m1.q=t :: r:=by rw[a2.q,W]
 have hQ:=y.r.Q;have aG:iI m1.q=iK (t:Int) :: iI r:=by rw[u];rfl
 rw[aG]at hQ;obtain⟨b,off,Z,e2,e3,e4,e5,e6⟩:=fM.tail hQ;rw[iH]at e2 e3 e6;have i:=y.b;have aH:(ok d m1 g1 2 0 0).bs b:=by
  show eO (g1.ro 2 0).1=some b;rw[Z];rfl
 have G:b≠g.mb:=by rw[<-i];exact y.r.ne (x':=0) (y':=0) (z':=0) (m6 (by omega)) rfl aH rfl (by omega)
 have c7:=y.r.mc 7 (by omega) (v:=.slice (g1.ro 2 0).1 m1.q.length (g1.ro 2 0).2) rfl;rw[i,Z,u]at c7;have hS:=Tr.eZ y (l:=r) (r:=(some ⟨b,if(g1.ro 2 0).2=1 then off else off+1,none⟩,(g1.ro 2 0).2-1)) (w':=w1.setCell ⟨g1.mb,7,none⟩ (.slice (some ⟨b,if(g1.ro 2 0).2=1 then off else off+1,none⟩) r.length ((g1.ro 2 0).2-1))) (bm (S:=λk=>k=g1.mb\/eO (g1.ro 2 0).1=some k) (a:=⟨g1.mb,7,none⟩) (dk _ _) (ag (ag rfl)) _) (y.r.M.ep 7 _) (e6.block (λj hj=>af _ _ _ _ (by
   have:j=b:=by simpa[Value.ownBlock] using hj.symm
   rw[this,i];exact G))) (λj hj=>ag (by
   rw[Z];exact hj))
 have o:=J.ql 2 0 (ag ⟨rfl,rfl⟩) t (by rw[W];simp);have Y:Ok p (fin.start t):=J.start o
 obtain⟨o1,_,_,o4,_⟩:=gz fin t;have aE:(fin.start t).nt=fin.nt:=fO fin t;have aB:(fin.start t).ev=[]:=by show(fin.dw t).ev=[];rw[o4];exact he
 unfold gO at hf;rw[W]at hf;obtain⟨s2,r1,r2⟩:=hf;have hD:=Ky hP hG hPI hK (by rw[aE];exact hn) (by rw[aB];show 0+p.qn<=100000;omega) hS.r (a2.start J o W) (⟨Y,by show t∈(fin.dw t).lv;rw[o1];exact o,by unfold Pl.start;rw[df]⟩) (a4.start t) r1;rw[show(g1.at 2 0 (some ⟨b,if(g1.ro 2 0).2=1 then off else off+1,none⟩,(g1.ro 2 0).2-1)).mb=g.mb from i,i]at hD;refine⟨b,off,(g1.ro 2 0).2,c7.1,c7.2,e3,?_,G,e5,hD.mono ?_⟩
 .have:=(a2.small J).2;rw[u]at this;have h9:r.length+1<=1000000000:=this;omega
 rintro e w' ⟨rfl,m',g',ρ',h1,h2⟩;rw[i]at hS;exact⟨rfl,m',g',ρ',hS.trans h1,by rw[r2];exact h2⟩
theorem D8.of(h:ID p d K m g w ρ fin n 0 w1):D8 p d K m g w fin w1:=by
 obtain⟨s1,m1,g1,J,u,o,H,W,G,Y,y⟩:=h;have i:fin=s1:=by
  rcases y with e|e
  .exact e.2
  exact ch rfl e.1
 rw[i];exact⟨m1,g1,ρ,u,o.mono (by omega)⟩
theorem H7(hP:PD p d)(hG:∀f,f<p.nf->2<=p.rg f/\p.rg f<=8)(hK:K+p.qn<900000000)(o:d.n<=1000000)(h:D8 p d K m g w s3 w1)(W:Ok p s3)(hn:s3.nt≠0):Calls prog 146 #[P0 g.mb] w1 λe w'=>e=.returned (.tuple #[])/\D8 p d K m g w s3 w':=by
 obtain⟨m1,g1,ρ1,i,u⟩:=h;have y:=u.kX W hP hG hK hn;have G:=DK i.r y o;rw[i.b]at G;refine G.mono ?_;rintro e w' ⟨rfl,N,Z,Y⟩;exact⟨rfl,_,g1,ρ1,i.trans Y,u.gT (H5 u.A (λJ H=>(Z J H).le y))⟩
theorem D8.sp(h:D8 p d K m g w s3 w1):w1.cell? ⟨g.mb,14,none⟩=some (.bool s3.sp):=by
 obtain⟨m1,g1,ρ1,e,i⟩:=h;have:=(e.r.mc 14 (by omega) rfl).1;rw[e.b]at this;rw[<-i.sp];exact this
theorem D8.out(h:D8 p d K m g w s3 w1):∃v,w1.cell? ⟨g.mb,15,none⟩=some v/\J4 p d K m g w (s3.im p) v w1:=by
 obtain⟨m1,g1,ρ1,e,i⟩:=h;have:=(e.r.mc 15 (by omega) rfl).1;rw[e.b]at this;exact⟨_,this,m1,g1,ρ1,e,i.tQ _,ag rfl⟩
end D
namespace D
open F
variable {p : dz} {d : Dp} {K : Nat} {s s' : Pl} {m m' : Dm} {g g' : Dg} {w w' : World} {ρ : Nat → Nat}
theorem kS(a:Addr)(m n:Nat):(a.add m).add n=a.add (m+n):=by
 unfold Addr.add;by_cases h:m=0<;>by_cases e:n=0<;>simp[h,e,Nat.add_assoc]
theorem qN(a:Addr)(m:Nat):(a.add m).block=a.block:=by unfold Addr.add;split<;>rfl
def LJ(w:World)(ad:Option Addr)(n:Nat)(l:List (Int×Nat))(F:Nat->Prop):Prop:=
 n=l.length/\n<=1000000000/\l=[]/\(ad=none->l=[])/\∀a,ad=some a->l≠[]->a.block<w.heap.size/\¬F a.block/\∀j x,l[j]? = some x->w.cell? (a.add (j*2))=some (.int .i64 x.1)/\w.cell? (a.add (j*2+1))=some (.int .u8 (x.2:Int))
theorem Iu.cell{fin:Pl}{ys l:List (Int×Nat)}{H:Nat}{a:Addr}{w1:World}(h:Iu p d K m g w ρ fin ys w1)(hI:LJ w (some a) H l (ey d m g)){j:Nat}{x:Int×Nat}(i:l[j]? = some x):w1.cell? (a.add (j*2))=some (.int .i64 x.1)/\w1.cell? (a.add (j*2+1))=some (.int .u8 (x.2:Int)):=by
 obtain⟨_,_,_,_,J⟩:=hI;obtain⟨s1,m1,g1,G,_⟩:=h
 obtain⟨y,W,Y⟩:=J a rfl (λe=>by rw[e]at i;simp at i);have e:=G.o.same y W;obtain⟨c0,c1⟩:=Y j x i;exact⟨(aw (a:=a.add (j*2)) (by rw[qN];exact e)).trans c0,(aw (a:=a.add (j*2+1)) (by rw[qN];exact e)).trans c1⟩
theorem Jd{fin:Pl}{n:Nat}{w1:World}(h:ID p d K m g w ρ fin n 0 w1):∃ad cap,w1.cell? ⟨g.mb,7,none⟩=some (.slice ad (fin.q 2 0).length cap):=by
 obtain⟨s1,m1,g1,W,o,y,H,Y,G,J,u⟩:=h;have i:fin=s1:=by
  rcases u with e|e
  .exact e.2
  exact ch rfl e.1
 rw[i,<-y.q,<-o.b];exact⟨_,_,(o.r.mc 7 (by omega) (v:=.slice (g1.ro 2 0).1 m1.q.length (g1.ro 2 0).2) rfl).1⟩
theorem IL{ticks:Int}{l:List (Int×Nat)}{ad:Option Addr}{n0 c0:Nat}(hP:PD p d)(hG:∀f,f<p.nf->2<=p.rg f/\p.rg f<=8)(hPI:PI p)(hK:K+p.qn<900000000)(bE:d.n<=1000000)(h:dQ d m g w)(hS:eK p K s m.lD ρ)(hO:Ok p s)(hN:Ng s)(aG:s.ev=[])(aC:s.nt≠0)(hn:s.nt+p.qn<=500000000)(bM:p.qn<=50)(bJ:-9223372036854775808<=ticks)(bG:ticks<=9223372036854775807)(hI:LJ w ad n0 l (ey d m g))(hr:jh p s ticks l s'): Calls prog 75 #[P0 g.mb,.int .i64 ticks,.slice ad n0 c0] w λe w'=>∃v,e=.returned v/\J4 p d K m g w s' v w':=by
 have T0:=h.Ly;have aB:=B.vU (t:=ticks) hO.c0 hO.c1;have hC:Ok p (s.fF (B.iz s.eY ticks)):=hO.fF aB.1 aB.2;obtain⟨aE,W⟩:=nF l (qj hI.2.2.1) hC;obtain⟨aM,aK⟩:=nj _ aE rfl;have aQ:Ng ((s.fF (B.iz s.eY ticks)).eN l):=Ng.eN l (qj hI.2.2.1) hN.same;obtain⟨aH,c2⟩:=h.mc 15 (by omega) (v:=iR m g 4 0) rfl;obtain⟨aF,_⟩:=h.mc 14 (by omega) (v:=.bool m.sp) rfl;have aA:m.sp=s.sp:=hS.sp;rw[aA]at aF;have cQ:=h.M.lt;have cO:=hI.2.1;have b7:Hid (Calls prog 77 #[P0 g.mb] (w.setCell ⟨g.mb,15,none⟩ (.slice none 0 0)) λe w'=>e=.returned (.int .i64 (s.lv.length:Int))/\(w.setCell ⟨g.mb,15,none⟩ (.slice none 0 0)).grownBy w' none):=by
  have h1:=F0 T0.r (by show m.nt≠0;have J:m.nt=s.nt:=hS.nt;rw[J];exact aC);rw[show(g.at 4 0 (none,0)).mb=g.mb from rfl]at h1;refine h1.mono ?_;rintro e w' ⟨N,rfl,_,c9,hg⟩;rw[hS.live hO c9];exact⟨rfl,hg⟩
 have bA:=az T0;have HI:=az hI;have HR:=az hr;have Z:=az (ay hP (ay hG (ay hPI (ay hK (ay bE (ay hS (ay hC (ay hN (ay aG (ay aC (ay hn bM)))))))))));have HY:=az (ay aE (ay W (ay aM (ay aK aQ))));have b9:m.eY=s.eY:=hS.ck;have bR:Hid (∀w0:World,Calls prog 141 #[.int .i64 s.eY,.int .i64 ticks] w0 λe w'=>e=.returned (.int .i64 (B.iz s.eY ticks))/\w'=w0):=λw0=>He s.eY ticks hO.c0 hO.c1 bJ bG;have bU:=az b9;clear T0 aB hC aE W aM aK aQ h hS hO hN aG aC hn bM bJ bG hI hr hP hG hPI bE b9 aA;generalize bP:g.mb=mb at *;have y:=az bP;clear bP;go_in;go_upto_region 2 with fail
 go_cut [7] (λq wx=>∃ov:Bool,q=.bool ov/\Hid ((ov=true↔(s.sp=true\/s.lv=[]))/\(w.setCell ⟨mb,15,none⟩ (.slice none 0 0)).grownBy wx none))
 case first=>
  cases aA:s.sp with
  |true=>
   have aX:=az aA;rw[aA]at aF;go_wp2_with fail
   go_meet
   case rel=>exact⟨true,rfl,⟨λ_=>ag aX.out,λ_=>rfl⟩,ax _ _⟩
  |false=>
   have aX:=az aA;rw[aA]at aF;go_wp2_with fail
   refine b7.out.mono ?_;rintro e w2 ⟨rfl,hg⟩;have bD:=az hg;clear hg;by_cases aP:s.lv=[]
   .go_wp2_with fail
    go_meet
    case rel=>exact⟨true,rfl,⟨λ_=>ab aP,λ_=>rfl⟩,bD.out⟩
   have bY:((s.lv.length:Int) == 0)=false:=by
    rw[dK];exact λe=>aP (cf.1 (by omega))
   go_wp2_with fail
   go_meet
   case rel=>exact⟨false,rfl,⟨λe=>(by cases e),λe=>e.elim (λe=>by rw[aX.out]at e;cases e) (λe=>ch e aP)⟩,bD.out⟩
 case rest=>
  obtain⟨ov,rfl,aW⟩:=hcut;have aN:=az (bA.out.kept aW.out.2);have aY:=az aW.out.1;have bF:(g.at 4 0 (none,0)).mb=mb:=y.out;have c5:wc.cell? ⟨mb,5,none⟩=some (.int .i64 s.eY)/\wc.frozen? ⟨mb,5,none⟩=false:=by
   have J:=aN.out.r.mc 5 (by omega) (v:=.int .i64 m.eY) rfl;rw[bF,bU.out]at J;exact J
  obtain⟨c5,z5⟩:=c5;have bQ:Hid (Tr d m g w (m.lD.fF (B.iz s.eY ticks)) (g.at 4 0 (none,0)) (wc.setCell ⟨mb,5,none⟩ (.int .i64 (B.iz s.eY ticks)))):=by
   have J:=aN.out.trans (aN.out.r.GQ (B.iz s.eY ticks));rw[bF]at J;exact J
  have l5:mb<wc.heap.size:=av wc _ c5;have aR:=az (bR.out wc);clear aF aH c2 b7 aW bA aN bR;go_wp2_with fail
  refine aR.out.mono ?_;rintro e w2 ⟨rfl,rfl⟩;clear aR;generalize aB:B.iz s.eY ticks=iz at *;have bL:=az aB;clear aB;go_wp2_with fail
  have bI:Hid (Iu p d K m g w ρ ((s.fF iz).eN l) l (w2.setCell ⟨mb,5,none⟩ (.int .i64 iz))):=by
   obtain⟨_,_,_,_,_,hS,hC,hN,aG,aC,_,_⟩:=Z.out;exact⟨s.fF iz,_,_,bQ.out,hS.fF iz,hC,hN.same,aC,rfl,HI.out.2.2.1⟩
  clear c5 z5;generalize w2.setCell ⟨mb,5,none⟩ (.int .i64 iz)=w3 at *;go_loopw [8] (λi wr=>∃j:Nat,i=.int .i64 j/\j<=n0/\Hid (Iu p d K m g w ρ ((s.fF iz).eN l) (l.drop j) wr)) (λi _=>n0-(intOf i).toNat)
  case atStart=>exact⟨0,rfl,by omega,by show Iu p d K m g w ρ _ (l.drop 0) _;rw[List.drop_zero];exact bI.out⟩
  case round=>
   obtain⟨j,rfl,hj,rI⟩:=hrel;by_cases cG:j<n0
   .obtain⟨x,hx⟩:∃x,l[j]? = some x:=⟨_,bn (by have:=HI.out.1;omega)⟩;obtain⟨a,rfl⟩:∃a,ad=some a:=by
     cases ad with
     |none=>rw[HI.out.2.2.2.1 rfl]at hx;simp at hx
     |some a=>exact⟨a,rfl⟩
    obtain⟨b3,c1⟩:=rI.out.cell HI.out hx;obtain⟨bB,b4⟩:=bu.1 hx;have b2:l.drop j=x :: l.drop (j+1):=by rw[<-b4];exact List.drop_eq_getElem_cons bB
    rw[b2]at rI;have bH:(j:Int)<(n0:Int):=by omega
    have aO:=az (Mi Z.out.1 rI.out);rw[y.out]at aO;obtain⟨z,b⟩:=x;simp only at b3 c1 aO;rw[<-kS]at c1;have bW:wr.cell? ⟨(a.add (j*2)).block,(a.add (j*2)).off+1,none⟩=some (.int .u8 (b:Int)):=c1;clear c1 hx b4 b2 bB rI;go_wp2_with fail
    refine aO.out.mono ?_;rintro e w4 ⟨rfl,b5⟩;have c3:=az b5;clear b5 aO b3 bW;go_wp2_with fail
    go_roundw
    case rel=>exact⟨j+1,by go_num,by omega,c3⟩
    case measure=>simp[intOf];omega
   obtain rfl:j=n0:=by omega
   have bH:¬((j:Int)<(j:Int)):=by omega
   have b0:Hid (∃m1 g1,Tr d m g w m1 g1 wr/\eK p K ((s.fF iz).eN l) m1 ρ):=by
    obtain⟨s1,m1,g1,a1,a2,a3,a4,a5,a6,a7⟩:=rI.out;rw[List.drop_of_length_le (by have:=HI.out.1;omega)]at a6;have bX:s1=(s.fF iz).eN l:=a6;rw[<-bX];exact⟨m1,g1,a1,a2⟩
   clear rI bI bQ
   cases ov with
   |true=>
    go_wp2_with fail
    go_ret;obtain⟨m1,g1,a1,a2⟩:=b0.out;have bT:=aY.out.1 (by first|exact rfl|trivial);obtain⟨aE,W,_,_,_⟩:=HY.out;have hr:=HR.out;unfold jh at hr;rw[bL.out,aa (λe=>by
     rcases bT with J|J
     .have h8:=e.2;rw[W.sp]at h8;have h7:s.sp=false:=h8;rw[J]at h7;cases h7
     exact e.1 (by rw[W.lv];exact J))]at hr
    obtain⟨_,_,_,_,_,_,_,_,aG,_,_,_⟩:=Z.out;refine⟨_,rfl,m1,g1,ρ,a1,?_,ab ⟨rfl,?_⟩⟩
    .rw[hr];exact a2.mono (by omega)
    rw[a2.ev,W.ev];exact aG
   |false=>
    have c4:Hid (∃s2,gO p (((s.fF iz).eN l).gr (((s.fF iz).eN l).q 3 0)) s2/\s'=s2.im p):=by
     have hr:=HR.out;unfold jh at hr;obtain⟨aE,W,_,_,_⟩:=HY.out;have hA:((s.fF iz).eN l).lv≠[]:=λe=>by
      have J:=aY.out.2 (ab (by rw[W.lv]at e;exact e))
      cases J
     have hB:((s.fF iz).eN l).sp=false:=by
      cases aA:((s.fF iz).eN l).sp with
      |false=>rfl
      |true=>
       have J:=aY.out.2 (ag (by rw[W.sp]at aA;exact aA))
       cases J
     rw[bL.out,aj ⟨hA,hB⟩]at hr;exact hr
    have bO:Hid (LO p d K m g w ρ (((s.fF iz).eN l).gr (((s.fF iz).eN l).q 3 0)) (((s.fF iz).eN l).q 3 0).length wr):=by
     obtain⟨m1,g1,a1,a2⟩:=b0.out;obtain⟨aE,W,_,_,aQ⟩:=HY.out;obtain⟨_,_,_,_,_,_,_,_,_,aC,_,_⟩:=Z.out;exact⟨_,m1,g1,rfl,a1,a2,aE,aQ,by rw[W.nt];exact aC,rfl⟩
    have aU:=az (JN bO.out);rw[y.out]at aU;have aT:Hid (Ok p (((s.fF iz).eN l).gr (((s.fF iz).eN l).q 3 0))/\(((s.fF iz).eN l).gr (((s.fF iz).eN l).q 3 0)).nt=s.nt/\(((s.fF iz).eN l).gr (((s.fF iz).eN l).q 3 0)).ev=[]):=by
     obtain⟨aE,W,aM,aK,_⟩:=HY.out;obtain⟨_,_,_,_,_,_,_,_,aG,_,_,_⟩:=Z.out;exact⟨aM,aK.nt.trans W.nt,by rw[aK.ev,W.ev];exact aG⟩
    generalize b8:((s.fF iz).eN l).gr (((s.fF iz).eN l).q 3 0)=fin at *;generalize (((s.fF iz).eN l).q 3 0).length=nq at *;clear b8 bO b0 HY HR HI;go_wp2_with fail
    refine aU.out.mono ?_;rintro e w4 ⟨B0,rfl,bN⟩;have bZ:=az bN;clear bN aU;go_wp2_with fail
    go_loopg [9] nq (λn b wr=>∃B:Nat,b=.int .i64 B/\Hid (ID p d K m g w ρ fin n B wr))
    case atStart=>exact⟨B0,rfl,bZ⟩
    case round=>
     obtain⟨B,rfl,rW⟩:=hrel
     cases B with
     |succ b=>
      obtain⟨tb,nt,cap,v2,c6,cL,cK,t2,z2,cA,hC⟩:=Ja rW.out;rw[y.out]at c6 cA hC;have HC:=az hC;have cF:(0:Int)<(b:Int)+1:=by omega
      have q5:=fp (n:=b) (by omega);have q6:IntKind.i64.wrap (b:Int)=(b:Int):=by rw[bl,bd _ (by omega)]
      have q7:(0:Int)<=(b:Int):=by omega
      have q8:(b:Int)<(nt:Int):=by omega
      clear hC rW;go_wp2_with fail
      refine HC.out.mono ?_;rintro e w5 ⟨rfl,k,hk,hD⟩;have aS:=az (JN hD);rw[y.out]at aS;have bV:=az hk;clear hD hk HC c6 t2 z2;go_wp2_with fail
      refine aS.out.mono ?_;rintro e w6 ⟨B',rfl,b6⟩;have cB:=az b6;clear b6 aS;go_wp2_with fail
      go_roundg k
      case rel=>exact⟨B',rfl,cB⟩
      case measure=>have:=bV.out;omega
     |zero=>
      have H:Hid (∃s2,gO p fin s2/\s'=s2.im p/\Ok p s2/\s2.nt≠0):=by
       obtain⟨s2,f1,f2⟩:=c4.out;obtain⟨bS,aZ,cH⟩:=aT.out;obtain⟨_,_,hPI,_,_,_,_,_,_,aC,hn,_⟩:=Z.out;obtain⟨k1,k2,k3⟩:=tz hPI bS (by rw[aZ];exact hn) f1;refine⟨s2,f1,f2,k1,?_⟩
       cases hq:fin.q 2 0 with
       |nil=>rw[k2 hq,aZ];exact aC
       |cons t r=>
        obtain⟨s0,g0,_,_,g3,_⟩:=k3 t r hq;have J:=g0.nt.1;rw[g3,aZ]at J;omega
      obtain⟨s2,b1,aL⟩:=H.out;have bK:=az b1;clear H b1;have H:=az aL;clear aL;obtain⟨cP,qc,c7⟩:=Jd rW.out;rw[y.out]at c7
      cases hq:fin.q 2 0 with
      |nil=>
       have a0:Hid (D8 p d K m g w s2 wr):=by
        have J:=bK.out;unfold gO at J;rw[hq]at J;have h8:s2=fin:=J;rw[h8];exact D8.of rW.out
       rw[hq]at c7;simp only[List.length_nil]at c7;clear rW;have Y:Hid (∃x,wr.cell? ⟨mb,14,none⟩=some (.bool x)):=by
        have J:=a0.out.sp;rw[y.out]at J;exact⟨_,J⟩
       obtain⟨aJ,aF⟩:=Y.out;clear Y
       cases aJ with
       |true=>
        have u:=az a0.out.out;rw[y.out]at u;obtain⟨a8,aH,o⟩:=u.out;have G:=az o;clear u o;go_wp2_with fail
        go_ret;refine⟨a8,rfl,?_⟩;rw[H.out.1];exact G.out
       |false=>
        have a9:=az (H7 Z.out.1 Z.out.2.1 Z.out.2.2.2.1 Z.out.2.2.2.2.1 a0.out H.out.2.1 H.out.2.2);rw[y.out]at a9;go_wp2_with fail
        refine a9.out.mono ?_;rintro e w9 ⟨rfl,aD⟩;have u:=az aD.out;rw[y.out]at u;obtain⟨a8,aH,o⟩:=u.out;have G:=az o;clear u o a9 aD;go_wp2_with fail
        go_ret;refine⟨a8,rfl,?_⟩;rw[H.out.1];exact G.out
      |cons t r=>
       have aV:=az (Kz Z.out.1 Z.out.2.1 Z.out.2.2.1 Z.out.2.2.2.1 rW.out (by rw[aT.out.2.1];exact Z.out.2.2.2.2.2.2.2.2.2.2.1) aT.out.2.2 Z.out.2.2.2.2.2.2.2.2.2.2.2 hq bK.out);rw[y.out]at aV;clear c7 rW;obtain⟨b,off,cap,c7,z7,cD,cI,cN,cb,hC⟩:=aV.out;have HC:=az hC;generalize cC:r.length=rn at *;clear hC aV cC;have r1:(0:Int)<(rn:Int)+1:=by omega
       by_cases bC:cap=1
       .subst bC;have c8:rn=0:=by omega
        subst c8;rw[aj rfl]at HC;go_wp2_with fail
        refine HC.out.mono ?_;rintro e w7 ⟨rfl,aI⟩;have a0:=az aI;clear aI HC c7 z7 cb;have Y:Hid (∃x,w7.cell? ⟨mb,14,none⟩=some (.bool x)):=by
         have J:=a0.out.sp;rw[y.out]at J;exact⟨_,J⟩
        obtain⟨aJ,aF⟩:=Y.out;clear Y
        cases aJ with
        |true=>
         have u:=az a0.out.out;rw[y.out]at u;obtain⟨a8,aH,o⟩:=u.out;have G:=az o;clear u o;go_wp2_with fail
         go_ret;refine⟨a8,rfl,?_⟩;rw[H.out.1];exact G.out
        |false=>
         have a9:=az (H7 Z.out.1 Z.out.2.1 Z.out.2.2.2.1 Z.out.2.2.2.2.1 a0.out H.out.2.1 H.out.2.2);rw[y.out]at a9;go_wp2_with fail
         refine a9.out.mono ?_;rintro e w9 ⟨rfl,aD⟩;have u:=az aD.out;rw[y.out]at u;obtain⟨a8,aH,o⟩:=u.out;have G:=az o;clear u o a9 aD;go_wp2_with fail
         go_ret;refine⟨a8,rfl,?_⟩;rw[H.out.1];exact G.out
       rw[aa bC]at HC;go_wp2_with fail
       refine HC.out.mono ?_;rintro e w7 ⟨rfl,aI⟩;have a0:=az aI;clear aI HC c7 z7 cb;have Y:Hid (∃x,w7.cell? ⟨mb,14,none⟩=some (.bool x)):=by
        have J:=a0.out.sp;rw[y.out]at J;exact⟨_,J⟩
       obtain⟨aJ,aF⟩:=Y.out;clear Y
       cases aJ with
       |true=>
        have u:=az a0.out.out;rw[y.out]at u;obtain⟨a8,aH,o⟩:=u.out;have G:=az o;clear u o;go_wp2_with fail
        go_ret;refine⟨a8,rfl,?_⟩;rw[H.out.1];exact G.out
       |false=>
        have a9:=az (H7 Z.out.1 Z.out.2.1 Z.out.2.2.2.1 Z.out.2.2.2.2.1 a0.out H.out.2.1 H.out.2.2);rw[y.out]at a9;go_wp2_with fail
        refine a9.out.mono ?_;rintro e w9 ⟨rfl,aD⟩;have u:=az aD.out;rw[y.out]at u;obtain⟨a8,aH,o⟩:=u.out;have G:=az o;clear u o a9 aD;go_wp2_with fail
        go_ret;refine⟨a8,rfl,?_⟩;rw[H.out.1];exact G.out
