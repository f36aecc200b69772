import Derived.Test.YtnjiinbhbjpfkaaGreatDoorStpV
set_option maxRecDepth 100000
set_option maxHeartbeats 0
set_option linter.all false
namespace Go.Proofs.YtnjiinbhbjpfkaaGreatDoor
open Go.RowKit Go.Proofs.Tryz
namespace D
open F
variable {p : dz} {d : Dp} {K : Nat} {s s' : Pl} {m m' : Dm} {g g' : Dg} {w w' : World} {ρ ρ' : Nat → Nat} {t tb fb n nr a b c : Nat} {why : Int}
section
variable (hP : PD p d) (hG : ∀ f, f < p.nf → 2 ≤ p.rg f ∧ p.rg f ≤ 8) (h : dQ d m g w) (hS : eK p K s m ρ) (hR : Rn p s t) (hQ : qP p d s m g w ρ t tb fb n nr) (hK : K < 900000000) (hn1 : s.nt + 1 ≤ 500000000)
include hP hG h hS hR hQ hK hn1
theorem Hn(hN:Ng s)(he:m.ev.length<=100000){k:F.yi}(hk:IA p (bw s t).f k)(hi:jD p s t k why s'):Calls prog 194 #[P0 g.mb,.int .i64 (t:Int),.slice (some ⟨g.rb t n,0,none⟩) nr nr,jY k.1 k.2.1 k.2.2.1 k.2.2.2] w λe w'=>∃v:Int,e=.returned (.int .i64 v)/\jW p d K s t m g w why s' v w':=by
 obtain⟨y,a,b,c⟩:=k;obtain⟨k0,ka,u,i,G,rb,rc,k7,k9,Y,n1,n2,n3,n4,n5⟩:=hk;rw[hQ.r2]at G rb rc;simp only at k0 ka u i G rb rc k7 k9 Y n1 n2 n3 n4 n5 ⊢;have W:∀o,(o=13\/o=15\/o=17\/o=18\/o=19\/o=21)->(∀w1,w.grownBy w1 none->dQ d m g w1->qP p d s m g w1 ρ t tb fb n nr->Calls prog 215 #[P0 g.mb,.int .i64 (t:Int),.slice (some ⟨g.rb t n,0,none⟩) nr nr,jY o a b c] w1 λe w'=>∃v:Int,e=.returned (.int .i64 v)/\jW p d K s t m g w1 why s' v w')->Calls prog 194 #[P0 g.mb,.int .i64 (t:Int),.slice (some ⟨g.rb t n,0,none⟩) nr nr,jY o a b c] w λe w'=>∃v:Int,e=.returned (.int .i64 v)/\jW p d K s t m g w why s' v w':=λo ho H=>
  GK ho u i (λw1 J=>(H w1 J (h.kept J) (hQ.kept h J)).mono (λe w' hh=>by
   obtain⟨v,e1,e2⟩:=hh;exact⟨v,e1,e2.ahead J⟩))
 have hc:y=0\/y=1\/y=2\/y=3\/y=4\/y=5\/y=6\/y=7\/y=8\/y=9\/y=10\/y=11\/y=12\/y=13\/y=14\/y=16\/y=20\/y=22:=by omega
 rcases hc with rfl|rfl|rfl|rfl|rfl|rfl|rfl|rfl|rfl|rfl|rfl|rfl|rfl|rfl|rfl|rfl|rfl|rfl
 .obtain⟨rfl,rfl⟩:=hi;exact Mo h hS hR hQ (G (by omega) (by omega)) u i
 .obtain⟨rfl,rfl⟩:=hi;exact Mn h hS hR hQ (G (by omega) (by omega)) (rb (by omega)) u i
 .exact Fh h hS hR hQ (by omega) (G (by omega) (by omega)) (rb (by omega)) (rc (by omega)) u i hi
 .exact Fh h hS hR hQ (by omega) (G (by omega) (by omega)) (rb (by omega)) (rc (by omega)) u i hi
 .exact Fh h hS hR hQ (by omega) (G (by omega) (by omega)) (rb (by omega)) (rc (by omega)) u i hi
 .exact Fh h hS hR hQ (by omega) (G (by omega) (by omega)) (rb (by omega)) (rc (by omega)) u i hi
 .obtain⟨rfl,rfl⟩:=hi;exact Mm h hS hR hQ (G (by omega) (by omega)) (rb (by omega)) (rc (by omega)) u i
 .obtain⟨rfl,rfl⟩:=hi;exact Ml h hS hR hQ u i
 .obtain⟨rfl,rfl⟩:=hi;exact Mk h hS hR hQ (G (by omega) (by omega)) u i
 .obtain⟨rfl,hm⟩:=hi;exact Mj hP hG h hS hR hQ hK (G (by omega) (by omega)) (k9 rfl) u i hm
 .exact Ll h hS hR hQ hK (G (by omega) (by omega)) (rb (by omega)) (rc (by omega)) u i hi
 .exact Lk h hS hR hQ hK (G (by omega) (by omega)) (rb (by omega)) (rc (by omega)) u i hi
 .obtain⟨rfl,hm⟩:=hi;exact Lj hP hG h hS hR hQ hK (G (by omega) (by omega)) (rc (by omega)) u i hm
 .exact W 13 (by omega) (λw1 J h1 Z=>Ju hP h1 hS hR Z hK hG hn1 (G (by omega) (by omega)) (rb (by omega)) (rc (by omega)) hi)
 .obtain⟨rfl,rfl⟩:=hi;exact Li hP h hS hR hQ (G (by omega) (by omega)) u i he
 .obtain⟨rfl,rfl⟩:=hi;exact Lh h hS hR u i
 .obtain⟨rfl,rfl⟩:=hi;exact Lg h hS hR hQ (G (by omega) (by omega)) u i he
 obtain⟨rfl,rfl⟩:=hi;exact Lf h hS hR hQ (G (by omega) (by omega)) u i
end
end D
namespace F
variable {p : dz} {s s' x : Pl} {t : Nat}
theorem jV(n:Nat)(h:¬((s.T t).run=true/\(bw s t).nx=p.len (bw s t).f)):s.ends p t n=s:=by
 cases n with
 | zero=>rfl
 | succ n=>unfold Pl.ends;rw[aa h]
theorem Rn.back(h:Rn p s t)(i:cr s t≠0):Rn p (s.back t (0,0)) t/\((s.back t (0,0)).T t).fr.length+1=(s.T t).fr.length:=by
 have e:=(mA h.ok.lw h.ht (0,0)).2 i;obtain⟨o,G,y,u⟩:=(lG s t (0,0)).2 i;exact⟨⟨h.ok.back h.lv h.wh (dN.num 0),by rw[o];exact h.lv,by rw[e.1];exact h.run⟩,by have:=h.hi;rw[e.2];omega⟩
theorem mz(h:Rn p s t)(e:cr s t=0):((s.back t (0,0)).T t).run=false:=(mA h.ok.lw h.ht (0,0)).1 e
theorem uI:∀(n:Nat) {s:Pl},((s.T t).run=true->Rn p s t)->((s.T t).run=true->(s.T t).fr.length<=n)->s.ends p t n=s.ends p t (n+1)
 | 0,s,h,hl=>by
  by_cases e:(s.T t).run=true
  .have:=(h e).hi;have:=hl e;omega
  rw[jV 0 (λh=>e h.1),jV 1 (λh=>e h.1)]
 | n+1,s,h,hl=>by
  by_cases e:(s.T t).run=true/\(bw s t).nx=p.len (bw s t).f
  .have hR:=h e.1;have y:s.ends p t (n+1)=(s.back t (0,0)).ends p t n:=by show Pl.ends p t (n+1) s=_;unfold Pl.ends;rw[aj e];cases n<;>rfl
   have u:s.ends p t (n+1+1)=(s.back t (0,0)).ends p t (n+1):=by show Pl.ends p t (n+1+1) s=_;rw[Pl.ends,aj e]
   rw[y,u];by_cases o:cr s t=0
   .have i:=mz hR o;rw[jV n (λh=>by rw[i]at h;cases h.1),jV (n+1) (λh=>by rw[i]at h;cases h.1)]
   obtain⟨k1,k2⟩:=hR.back o;exact uI n (λ_=>k1) (λ_=>by have:=hl e.1;omega)
  rw[jV _ e,jV _ e]
theorem Bt(h:Rn p s t)(e:(bw s t).nx=p.len (bw s t).f):s.ends p t 21=(s.back t (0,0)).ends p t 21:=by
 have u:s.ends p t 21=(s.back t (0,0)).ends p t 20:=by show Pl.ends p t (20+1) s=_;rw[Pl.ends,aj ⟨h.run,e⟩]
 rw[u];refine uI 20 (λi=>?_) (λi=>?_)
 .by_cases o:cr s t=0
  .rw[mz h o]at i;cases i
  exact(h.back o).1
 by_cases o:cr s t=0
 .rw[mz h o]at i;cases i
 have:=(h.back o).2;have:=h.fw.n2;omega
theorem nY{k:Nat}(h:gg p t k x s')(e:(x.T t).run=false):s'=x:=by
 cases k with
 | zero=>exact h
 | succ k=>
  unfold gg at h;rw[aa (by rw[e];decide)]at h;exact h
theorem AV{k:Nat}(h:Rn p s t)(e:(bw s t).nx=p.len (bw s t).f)(u:gg p t (k+1) s s'):(cr s t=0->s'=s.back t (0,0))/\(cr s t≠0->gg p t (k+1) (s.back t (0,0)) s'):=by
 unfold gg at u;rw[aj h.run]at u;obtain⟨x,i,G⟩:=u;unfold iC at i;rw[Bt h e]at i;constructor
 .intro y;have o:=mz h y;rw[jV 21 (λh=>by rw[o]at h;cases h.1),aa (by rw[o];decide)]at i;subst i;exact nY G o
 intro y;unfold gg;rw[aj (h.back y).1.run];exact⟨x,i,G⟩
theorem AU{k:Nat}(h:Rn p s t)(e:(bw s t).nx≠p.len (bw s t).f)(i:gg p t (k+1) s s'):∃why s3,jD p (s.fD t) t (p.ins (bw s t).f (bw s t).nx) why s3/\gg p t k (if why=0 then s3 else s3.leave t (0,-why) 3 why) s':=by
 unfold gg at i;rw[aj h.run]at i;obtain⟨x,o,y⟩:=i;unfold iC at o;rw[jV 21 (λh=>e h.2),aj h.run]at o;obtain⟨why,s3,u,rfl⟩:=o;exact⟨why,s3,u,y⟩
theorem Go.Ms{t c:Nat}{s s':Pl}(h:Go t c s s'):s'.ev.length<=s.ev.length+c:=by
 obtain⟨l,e,i,_⟩:=h;rw[e,bo];omega
end F
namespace D
open F
def D3(p:dz)(d:Dp)(K:Nat)(s':Pl)(t:Nat)(m:Dm)(g:Dg)(w w':World):Prop:=
 ∃m' g' ρ',Tr d m g w m' g' w'/\eK p (K+p.qn) (if(s'.T t).run=true then s'.dV 2 0 t else s') m' ρ'
structure tM(p:dz) (d:Dp) (K:Nat) (s s':Pl) (t:Nat) (m:Dm) (g:Dg) (w:World) (I:Nat) (s1:Pl) (m1:Dm) (g1:Dg) (ρ1:Nat->Nat) (wr:World):Prop where
 tr:Tr d m g w m1 g1 wr
 si:eK p (K+I) s1 m1 ρ1
 rn:Rn p s1 t
 ng:Ng s1
 nt:s1.nt<=s.nt+I
 ev:s1.ev.length<=s.ev.length+I
 rr:gg p t (p.qn-I) s1 s'
structure RunT(p:dz) (d:Dp) (K:Nat) (s s':Pl) (t:Nat) (m:Dm) (g:Dg) (w:World) (I:Nat) (s1:Pl) (m1:Dm) (g1:Dg) (ρ1:Nat->Nat) (k:F.yi) (wr:World):Prop where
 tr:Tr d m g w m1 g1 wr
 si:eK p (K+I) s1 m1 ρ1
 rn:Rn p s1 t
 ng:Ng s1
 nt:s1.nt<=s.nt+I
 ev:s1.ev.length<=s.ev.length+I
 ok:IA p (bw s1 t).f k
 rr:∃why s3,jD p s1 t k why s3/\gg p t (p.qn-(I+1)) (if why=0 then s3 else s3.leave t (0,-why) 3 why) s'
def J6(p:dz)(d:Dp)(K:Nat)(s':Pl)(t:Nat)(m:Dm)(g:Dg)(w w':World):Prop:=
 ∃s1 m1 g1 ρ1,Tr d m g w m1 g1 w'/\eK p (K+p.qn) s1 m1 ρ1/\t∈s1.lv/\s1.ev.length<=100000/\∃kd1,s'=(s1.tQ kd1).kj t
def Gl(p:dz)(d:Dp)(K:Nat)(s':Pl)(t:Nat)(m:Dm)(g:Dg)(w:World)(v:Int)(w':World):Prop:=
 ∃s1 m1 g1 ρ1,Tr d m g w m1 g1 w'/\eK p (K+p.qn) s1 m1 ρ1/\Rn p s1 t/\s1.ev.length<=100000/\s'=s1.leave t (0,-v) 3 v
def Gm(p:dz)(d:Dp)(K:Nat)(s s':Pl)(t:Nat)(m:Dm)(g:Dg)(w:World)(I:Nat)(v:Int)(w':World):Prop:=
 (v=0/\∃s1 m1 g1 ρ1,tM p d K s s' t m g w (I+1) s1 m1 g1 ρ1 w')\/(v=-1/\D3 p d K s' t m g w w')\/(v=-2/\J6 p d K s' t m g w w')\/(0<v/\v<=8/\Gl p d K s' t m g w v w')
variable {p : dz} {d : Dp} {K : Nat} {s s' s1 : Pl} {m m' m1 : Dm} {g g' g1 : Dg} {w w' wr : World} {ρ ρ1 : Nat → Nat} {t I : Nat}
section
variable (hP : PD p d) (hG : ∀ f, f < p.nf → 2 ≤ p.rg f ∧ p.rg f ≤ 8) (hPI : PI p) (hK : K + p.qn < 900000000) (hn : s.nt + p.qn ≤ 500000000) (he : s.ev.length + p.qn ≤ 100000)
include hP hK hn he
omit hK hn in
theorem Jy(h:tM p d K s s' t m g w I s1 m1 g1 ρ1 wr)(hI:I<p.qn)(hx:(bw s1 t).nx=p.len (bw s1 t).f): Calls prog 193 #[P0 g1.mb,.int .i64 (t:Int),.agg #[.int .i64 0,.int .i64 0]] wr λe w'=>∃y:Bool,e=.returned (.bool y)/\((y=true/\D3 p d K s' t m g w w')\/(y=false/\∃G m2 g2 ρ2,tM p d K s s' t m g w I G m2 g2 ρ2 w'/\(G.T t).fr.length+1=(s1.T t).fr.length)):=by
 have u:=h.rr;obtain⟨k,H⟩:∃k,p.qn-I=k+1:=⟨p.qn-I-1,by omega⟩;rw[H]at u;obtain⟨r1,r2⟩:=AV h.rn hx u;have a0:=h.ev;have o:=Ga (v:=(0,0)) hP h.tr.r h.si h.rn.ok h.rn.lv h.rn.wh (dN.num 0) (by rw[h.si.ev];omega);rw[sm]at o;refine o.mono ?_;rintro e w' ⟨rfl,m',g',J,W⟩;refine⟨_,rfl,?_⟩;by_cases i:cr s1 t=0
 .refine ag ⟨fh i,m',g',ρ1,h.tr.trans J,?_⟩;rw[r1 i,aa (by rw[mz h.rn i];decide)];exact W.mono (by omega)
 obtain⟨b1,Z,Y,b4⟩:=(lG s1 t (0,0)).2 i;obtain⟨k1,k2⟩:=h.rn.back i;refine ab ⟨fi i,_,m',g',ρ1,⟨h.tr.trans J,W,k1,h.ng.back t iP.z,by rw[Y];exact h.nt,by rw[Z];exact h.ev,?_⟩,k2⟩;rw[H];exact r2 i
omit hP hK hn he in
include hPI in
theorem IT(h:tM p d K s s' t m g w I s1 m1 g1 ρ1 wr){tb fb n nr:Nat}(hQ:qP p d s1 m1 g1 wr ρ1 t tb fb n nr)(hI:I<p.qn)(hx:(bw s1 t).nx≠p.len (bw s1 t).f)(Z:(wr.setCell ⟨fb,n*4+2,none⟩ (iK ((fj m1 t n).nx+1:Nat))).grownBy w' none): ∃u,RunT p d K s s' t m g w I (s1.fD t) u g1 ρ1 (p.ins (bw s1 t).f (bw s1 t).nx) w'/\(u.T t).fr.length=(m1.T t).fr.length/\(fj u t n).f=(fj m1 t n).f:=by
 have o:=h.rr;obtain⟨k,H⟩:∃k,p.qn-I=k+1:=⟨p.qn-I-1,by omega⟩;rw[H]at o;obtain⟨why,s3,i1,i2⟩:=AU h.rn hx o;obtain⟨W,Y⟩:=mM h.rn hx;have y:=h.rn.ff;have i:(fj m1 t n).nx=(bw s1 t).nx:=by
  have:=((h.si.T t h.rn.lv).f n (by rw[<-(h.si.T t h.rn.lv).l];exact hQ.hi)).nx;rw[show bw s1 t=de s1 t n by unfold bw;rw[hQ.hn]];exact this
 have G:=h.si.nx h.rn.lv h.rn.fw.n1 ((bw s1 t).nx+1);rw[hQ.tp,hQ.tf,<-i]at G;refine⟨_,⟨h.tr.trans ((h.tr.r.FT hQ.dt hQ.T ((fj m1 t n).nx+1)).kept Z),?_,W,h.ng.fD t,h.nt,h.ev,?_,why,s3,i1,?_⟩,jS m1 t n _ t,?_⟩
 .have e:s1.fD t=s1.dx t (cr s1 t) { bw s1 t with nx:=(fj m1 t n).nx+1 }:=by unfold Pl.fD;rw[i]
  rw[e];exact G
 .rw[Y];exact hPI _ y.1 _ (by omega)
 .rw[show p.qn-(I+1)=k by omega];exact i2
 rw[ma m1 _ hQ.hi,aj ⟨rfl,rfl⟩]
include hG
theorem Jt{k:F.yi}(h:RunT p d K s s' t m g w I s1 m1 g1 ρ1 k wr){tb fb n nr:Nat}(hQ:qP p d s1 m1 g1 wr ρ1 t tb fb n nr)(hI:I<p.qn): Calls prog 194 #[P0 g1.mb,.int .i64 t,.slice (some ⟨g1.rb t n,0,none⟩) nr nr,jY k.1 k.2.1 k.2.2.1 k.2.2.2] wr λe w'=>∃v:Int,e=.returned (.int .i64 v)/\Gm p d K s s' t m g w I v w':=by
 obtain⟨why,s3,i1,u⟩:=h.rr;have a2:=h.nt;have a1:=h.ev;obtain⟨o1,Z⟩:=Aa h.rn (by omega) h.ok i1;have hw:=nP h.ok.1 i1;have J:=Z.nt;have a0:=Z.Ms;refine(Hn hP hG h.tr.r h.si h.rn hQ (by omega) (by omega) h.ng (by rw[h.si.ev];omega) h.ok i1).mono ?_;rintro e w' ⟨v,rfl,ρ',m',g',H,h2⟩;refine⟨v,rfl,?_⟩;rcases h2 with⟨rfl,rfl,⟨o,rfl⟩,G⟩|⟨G,⟨hv,rfl⟩|⟨rfl,rfl,i⟩|⟨rfl,rfl,i⟩⟩
 .rw[aj rfl]at u;have i:(((s1.tQ o).kj t).T t).run=false:=by
   show(((s1.tQ o).dv t ((s1.tQ o).T t).stop).T t).run=false;rw[df];rfl
  exact ab (ab (ag ⟨rfl,s1,m',g',ρ',h.tr.trans H,G.mono (by omega),h.rn.lv,by omega,o,nY u i⟩))
 .have y:why≠0:=by omega
  rw[aa y]at u;have e3:=hw.2.2 y;subst e3;have i:((s3.leave t (0,-why) 3 why).T t).run=false:=by
   rw[vw h.rn.ok.lw h.rn.ht];rfl
  exact ab (ab (ab ⟨hv,hw.2.1,s3,m',g',ρ',h.tr.trans H,G.mono (by omega),h.rn,by omega,nY u i⟩))
 .rw[aj rfl]at u;have Y:t∈s3.lv:=(o1.rn t ⟨h.rn.ht.1,dH h.rn.ht.2 J.1⟩ i).2;exact ag ⟨rfl,s3,m',g',ρ',h.tr.trans H,G.mono (by omega),⟨o1,Y,i⟩,h.ng.inst h.rn (by omega) h.ok i1,by omega,by omega,u⟩
 rw[aj rfl]at u;have e:=nY u i;subst e;refine ab (ag ⟨rfl,m',g',ρ',h.tr.trans H,?_⟩);rw[aa (by rw[i];decide)];exact G.mono (by omega)
omit hG hK hn he hP in
theorem dQ.zu(h:dQ d m g w):Tr d m g w m.zu g (w.setCell ⟨g.mb,14,none⟩ (.bool true)):=h.wQ 14 _ ⟨rfl,rfl,rfl,rfl,rfl,rfl,rfl,rfl⟩ (λi hi=>by
 have e:i=0\/i=1\/i=2\/i=3\/i=4\/i=5\/i=6\/i=7\/i=8\/i=9\/i=10\/i=11\/i=12\/i=13\/i=14\/i=15\/i=16\/i=17\/i=18\/i=19\/i=20\/i=21\/i=22\/i=23:=by omega
 rcases e with rfl|rfl|rfl|rfl|rfl|rfl|rfl|rfl|rfl|rfl|rfl|rfl|rfl|rfl|rfl|rfl|rfl|rfl|rfl|rfl|rfl|rfl|rfl|rfl<;>rfl)
omit hG hK hn he hP in
theorem K5(h:J6 p d K s' t m g w wr):Calls prog 195 #[P0 g.mb,.int .i64 5,.int .i64 (t:Int),.int .i64 0] wr λe w'=>e=.returned (.tuple #[])/\(∃v,w'.cell? ⟨g.mb,14,none⟩=some v)/\w'.frozen? ⟨g.mb,14,none⟩=false/\D3 p d K s' t m g w (w'.setCell ⟨g.mb,14,none⟩ (.bool true)):=by
 obtain⟨s1,m1,g1,ρ1,o,W,h3,Z,i,rfl⟩:=h;have H:=B5 5 t 0 o.r (by rw[W.ev];exact Z);rw[o.b]at H;refine H.mono ?_;rintro e w' ⟨rfl,g',u⟩;have J:=u.b.trans o.b;have y:=u.r.mc 14 (by omega) rfl;rw[J]at y;have G:=u.r.zu;rw[J]at G;refine⟨rfl,⟨_,y.1⟩,y.2,_,g',ρ1,(o.trans u).trans G,?_⟩;have Y:(((s1.tQ i).kj t).T t).run=false:=by
  show(((s1.tQ i).dv t ((s1.tQ i).T t).stop).T t).run=false;rw[df];rfl
 rw[aa (by rw[Y];decide)];exact(W.tQ i).kj h3
omit hG hK hn he in
theorem JI{v:Int}(h:Gl p d K s' t m g w v wr):Calls prog 196 #[P0 g.mb,.int .i64 (t:Int),.int .i64 3,.int .i64 v,.agg #[.int .i64 0,.int .i64 (-v)]] wr λe w'=>e=.returned (.tuple #[])/\D3 p d K s' t m g w w':=by
 obtain⟨s1,m1,g1,ρ1,o,G,i,W,rfl⟩:=h;have y:=Hd (u:=t) (kind:=3) (x:=v) (v:=(0,-v)) hP o.r G i.ok i.lv (dN.num _) (by rw[G.ev];exact W);rw[sm,o.b]at y;refine y.mono ?_;rintro e w' ⟨rfl,m',g',J,H⟩;refine⟨rfl,m',g',ρ1,o.trans J,?_⟩;rw[aa (λe=>by rw[vw i.ok.lw i.ht]at e;cases e)];exact H
end
end D
namespace D
open F
variable {p : dz} {d : Dp} {K : Nat} {s s' s1 : Pl} {m m' m1 : Dm} {g g' g1 : Dg} {w w' wr : World} {ρ ρ1 : Nat → Nat} {t I : Nat}
def LL(wr wx:World)(X ff rb nr nx bk:Nat):Prop:=wr.grownBy wx none/\wr.heap.size<=X/\wx.heap[X]? = some (.cells #[.int .i64 (ff:Int),.slice (some ⟨rb,0,none⟩) nr nr,.int .i64 (nx:Int),.int .i64 (bk:Int)] 163 (0,0))
theorem Mp(wr:World)(ff rb nr nx bk:Nat):LL wr ((wr.alloc (.cells #[.int .i64 ff,.slice (some ⟨rb,0,none⟩) nr nr,.int .i64 nx,.int .i64 bk] 163)).drew) wr.heap.size ff rb nr nx bk:=
 ⟨bq (au (ax _ _) _),bj _,bf _ _⟩
theorem RunT.kept{e:World}{k:F.yi}(h:RunT p d K s s' t m g w I s1 m1 g1 ρ1 k wr)(i:wr.grownBy e none):RunT p d K s s' t m g w I s1 m1 g1 ρ1 k e:={ h with tr:=h.tr.kept i }
theorem tM.kept{e:World}(h:tM p d K s s' t m g w I s1 m1 g1 ρ1 wr)(i:wr.grownBy e none):tM p d K s s' t m g w I s1 m1 g1 ρ1 e:={ h with tr:=h.tr.kept i }
theorem Ky(hP:PD p d)(hG:∀f,f<p.nf->2<=p.rg f/\p.rg f<=8)(hPI:PI p)(hK:K+p.qn<900000000)(hn:s.nt+p.qn<=500000000)(he:s.ev.length+p.qn<=100000)(h:dQ d m g w)(hS:eK p K s m ρ)(hR:Rn p s t)(hN:Ng s)(hr:gg p t p.qn s s'): Calls prog 145 #[P0 g.mb,.int .i64 t] w λe w'=>e=.returned (.tuple #[])/\D3 p d K s' t m g w w':=by
 obtain⟨k,rfl⟩:∃k,t=k+1:=⟨t-1,by have:=hR.ht.1;omega⟩;have H0:Hid (tM p d K s s' (k+1) m g w 0 s m g ρ w):=⟨Tr.refl h,hS,hR,hN,bj _,bj _,hr⟩;have cM:=hR.fw.n2;have HP:=az hP;have HG:=az hG;have cB:=az hPI;have HK:=az hK;have HN:=az hn;have HE:=az he;have a0:(((k+1:Nat)):Int)=(k:Int)+1:=by omega
 clear hP hG hPI hn he h hS hR hN hr;generalize bC:g.mb=mb at *;have aJ:=az bC;clear bC;go_in;go_wp2_with fail
 go_loopg [4] (p.qn*22+21) (λN i wr=>∃(I:Nat),i=.int .i64 I/\I<=p.qn/\∃s1 m1 g1 ρ1,Hid (tM p d K s s' (k+1) m g w I s1 m1 g1 ρ1 wr/\(p.qn-I)*22+(s1.T (k+1)).fr.length<=N))
 case atStart=>exact⟨0,rfl,dc _,s,m,g,ρ,H0.out,by omega⟩
 case round=>
  obtain⟨I,rfl,hI,s1,m1,g1,ρ1,a3⟩:=hrel;obtain⟨u,b9⟩:=a3.out;have G:=u.tr.b.trans aJ.out;have c2:wr.cell? ⟨mb,2,none⟩=some (.int .i64 p.qn):=by
   have:=(u.tr.r.mc 2 (by omega) rfl).1;rw[G]at this;rw[<-HP.out.qn];exact this
  by_cases aP:I<p.qn
  .have bG:(I:Int)<p.qn:=by omega
   obtain⟨tb,fb,n,nr,hQ⟩:=Rn.run HP.out u.tr.r u.si u.rn;have j6:=hQ.T.c6;rw[G]at j6;have jt:=hQ.T.t0;rw[dC]at jt;have k0:=hQ.T.k0;have k1:=hQ.T.k1;rw[hQ.r1]at k1;have k2:=hQ.T.k2;have k3:=hQ.T.k3;have aV:=hQ.n20;have bS:k<m1.nt:=by have:=hQ.dt.2;omega
   have bL:m1.nt<1000000000:=(u.si.small u.rn.ok).1;have q1:(0:Int)<=n:=by omega
   have q2:(n:Int)<n+1:=by omega
   have q3:=fp (n:=n) (by omega);have q4:IntKind.i64.wrap (n:Int)=n:=by rw[bl,bd _ (by omega)]
   have q5:=fp (n:=k) (by omega);have q6:IntKind.i64.wrap (k:Int)=k:=by rw[bl,bd _ (by omega)]
   have q7:(0:Int)<=k:=by omega
   have q8:(k:Int)<m1.nt:=by omega
   have HQ:=az hQ;have Y:Hid ((fj m1 (k+1) n).nx=(bw s1 (k+1)).nx/\(fj m1 (k+1) n).f=(bw s1 (k+1)).f):=by
    refine⟨?_,hQ.hf⟩;have:=((u.si.T (k+1) u.rn.lv).f n (by rw[<-(u.si.T (k+1) u.rn.lv).l];exact hQ.hi)).nx;rw[show bw s1 (k+1)=de s1 (k+1) n by unfold bw;rw[hQ.hn]];exact this
   clear hQ u aV;generalize b4:(g1.ro 1 0).2=aO at *;generalize aU:(g1.ro 5 (k+1)).2=aH at *;generalize bF:(fj m1 (k+1) n).nx=nx at *;generalize H:(fj m1 (k+1) n).f=ff at *;generalize (fj m1 (k+1) n).bk.2.1=bk at *;generalize aY:g1.rb (k+1) n=rb at *;have aC:mb<wr.heap.size:=av wr _ j6;have aA:tb<wr.heap.size:=av wr _ jt;have a7:fb<wr.heap.size:=av wr _ k0;clear b4 aU;have HX:=az (ay bF (ay H aY));clear bF H aY;go_wp2_with fail
   go_cut [5] (λq wx=>∃X:Nat,q=.pointer (some ⟨X,0,none⟩)/\Hid (LL wr wx X ff rb nr nx bk))
   case first=>
    have aB:Hid (∀w',wr.grownBy w' none->w'.cell? ⟨mb,6,none⟩=some (.slice (some ⟨tb,0,none⟩) m1.nt aO)/\w'.cell? ⟨tb,k*8,none⟩=some (.slice (some ⟨fb,0,none⟩) (n+1) aH)/\w'.cell? ⟨fb,n*4,none⟩=some (.int .i64 ff)/\w'.cell? ⟨fb,n*4+1,none⟩=some (.slice (some ⟨rb,0,none⟩) nr nr)/\w'.cell? ⟨fb,n*4+2,none⟩=some (.int .i64 nx)/\w'.cell? ⟨fb,n*4+3,none⟩=some (.int .i64 bk)):=λw' hg=>⟨(bh hg (a:=⟨mb,6,none⟩) aC).1.trans j6,(bh hg (a:=⟨tb,k*8,none⟩) aA).1.trans jt,(bh hg (a:=⟨fb,n*4,none⟩) a7).1.trans k0,(bh hg (a:=⟨fb,n*4+1,none⟩) a7).1.trans k1,(bh hg (a:=⟨fb,n*4+2,none⟩) a7).1.trans k2,(bh hg (a:=⟨fb,n*4+3,none⟩) a7).1.trans k3⟩;go_region_held3 (λw'=>w'.cell? ⟨mb,6,none⟩=some (.slice (some ⟨tb,0,none⟩) m1.nt aO)/\w'.cell? ⟨tb,k*8,none⟩=some (.slice (some ⟨fb,0,none⟩) (n+1) aH)/\w'.cell? ⟨fb,n*4,none⟩=some (.int .i64 ff)/\w'.cell? ⟨fb,n*4+1,none⟩=some (.slice (some ⟨rb,0,none⟩) nr nr)/\w'.cell? ⟨fb,n*4+2,none⟩=some (.int .i64 nx)/\w'.cell? ⟨fb,n*4+3,none⟩=some (.int .i64 bk)) (first|exact aB.out _ (ax _ _)|exact aB.out _ (bq (ax _ _))|exact aB.out _ (au (bq (ax _ _)) _)|exact aB.out _ (bp (bp (bp (bp (au (bq (ax _ _)) _) (ab (bj _)) _) (ab (bj _)) _) (ab (bj _)) _) (ab (bj _)) _)) (fail)
    all_goals
     go_wp2_with fail
     go_meet
     case rel=>exact⟨_,rfl,Mp wr ff rb nr nx bk⟩
   case rest=>
    obtain⟨X,rfl,hF⟩:=hcut;obtain⟨g3,lX,hx⟩:=hF.out;have HF:=hF;have x0:wc.cell? ⟨X,0,none⟩=some (.int .i64 ff):=by simp[World.cell?,hx]
    have a8:=az (a3.out.1.kept g3);have aM:=az (a8.out.tr.r);have H:ff<p.nf:=by rw[Y.out.2];exact a8.out.rn.ff.1
    have d0:wc.cell? ⟨mb,0,none⟩=some (.slice (some ⟨d.gb,0,none⟩) d.nf d.gc):=by
     have:=(aM.out.mc 0 (by omega) rfl).1;rw[G]at this;exact this
    have d1:wc.cell? ⟨d.gb,ff*2+1,none⟩=some (.slice (some ⟨d.cb ff,0,none⟩) (d.len ff) (d.cc ff)):=by
     have c5:=aM.out.P.2.2;rw[c5.cell (ff*2+1) (by rw[HP.out.nf];omega)];unfold JC;rw[aa (by omega),show(ff*2+1) / 2=ff by omega]
    have cQ:(ff:Int)<d.nf:=by rw[HP.out.nf];omega
    have cD:nx<=d.len ff:=by
     have J:=a8.out.rn.ff.2;rw[<-Y.out.1,<-Y.out.2,<-HP.out.len ff H]at J;exact J
    clear g3 hx hF;go_wp2_with fail
    go_quiet (fail)
    have x2:wc.cell? ⟨X,2,none⟩=some (.int .i64 nx):=by
     have hx:=HF.out.2.2;simp[World.cell?,hx]
    have a6:Hid (tM p d K s s' (k+1) m g w I s1 m1 g1 ρ1 (wc.drewN nq)):=a8.out.kept (db (ax _ none) _);have Z:Hid (LL wr (wc.drewN nq) X ff rb nr nx bk):=⟨db HF.out.1 _,HF.out.2.1,HF.out.2.2⟩;have b8:(wc.drewN nq).cell? ⟨X,2,none⟩=some (.int .i64 nx):=x2;clear x2 x0 d0 d1 a8 aM HF;generalize wc.drewN nq=W at *;by_cases hx:nx=d.len ff
    .have aS:=az (Jy HP.out HE.out a6.out aP (by rw[<-Y.out.1,<-Y.out.2,<-HP.out.len ff H];exact hx));rw[G]at aS;go_wp2_with fail
     refine aS.out.mono ?_;rintro e w5 ⟨ov,rfl,aZ⟩;have b7:=az aZ;clear aZ b8 aS Z
     cases ov with
     | true=>
      go_wp2_with fail
      refine da (results_none rfl _ _ _) rfl ?_;rcases b7.out with⟨_,J⟩|⟨J,_⟩
      .exact⟨rfl,J⟩
      cases J
     | false=>
      go_wp2_with fail
      have bB:Hid (∃s2 m2 g2 ρ2,tM p d K s s' (k+1) m g w I s2 m2 g2 ρ2 w5/\(s2.T (k+1)).fr.length+1=(s1.T (k+1)).fr.length):=by
       rcases b7.out with⟨J,_⟩|⟨_,J⟩
       .cases J
       exact J
      obtain⟨s2,m2,g2,ρ2,h2,a4⟩:=bB.out;go_roundg ((p.qn-I)*22+(s2.T (k+1)).fr.length)
      case rel=>exact⟨I,rfl,hI,s2,m2,g2,ρ2,h2,bj _⟩
      case measure=>omega
    have bN:¬((nx:Int)=(d.len ff:Int)):=by omega
    have bD:nx<d.len ff:=by omega
    obtain⟨bM,a4,aL⟩:=a6.out.tr.r.K (f:=ff) (by rw[HP.out.nf];exact H);have cF:nx<9223372036854775807:=by unfold maxLen at a4;omega
    have a2:=az (HQ.out.kept a3.out.1.tr.r Z.out.1);have c8:=(bh Z.out.1 (a:=⟨mb,6,none⟩) aC).1.trans j6;have bQ:=(bh Z.out.1 (a:=⟨tb,k*8,none⟩) aA).1.trans jt;have bP:W.cell? ⟨fb,n*4+2,none⟩=some (.int .i64 nx):=(bh Z.out.1 (a:=⟨fb,n*4+2,none⟩) a7).1.trans k2;have bO:=a2.out.T.z 2 (by omega)
    have q9:IntKind.i64.wrap ((I:Int)+1)=(I:Int)+1:=by rw[bl,bd _ (by omega)]
    have cG:IntKind.i64.wrap ((nx:Int)+1)=(nx:Int)+1:=by rw[bl,bd _ (by omega)]
    have aI:=az aL;clear j6 jt k0 k1 k2 k3 bM a4 c2;go_wp2_with fail
    clear b8;go_cut [] (λwx=>Hid ((W.setCell ⟨fb,n*4+2,none⟩ (.int .i64 ((nx:Int)+1))).grownBy wx none))
    case first=>
     go_region
     all_goals
      go_wp2_with fail
      go_meet
      case rel=>first|exact(bq (ax _ _):World.grownBy _ _ _)|exact(ax _ _:World.grownBy _ _ _)
    case rest=>
     have aF:=hcut;clear hcut c8 bQ bP bO;have bE:(bw s1 (k+1)).nx≠p.len (bw s1 (k+1)).f:=by rw[<-Y.out.1,<-Y.out.2,<-HP.out.len ff H];exact hx
     obtain⟨m2,hT,a4,bH⟩:=IT cB.out a6.out a2.out aP bE (w':=wc) (by
      rw[HX.out.1,show(((nx+1:Nat)):Int)=(nx:Int)+1 by omega];exact aF.out)
     obtain⟨cK,cS,n2,aG,a9⟩:=Rn.run HP.out hT.tr.r hT.si hT.rn;have en:n2=n:=by
      have J:=a9.T.l;rw[a4,a2.out.T.l]at J;omega
     subst en;have er:aG=nr:=by
      have J:=a9.r1;rw[bH,a2.out.r1]at J;exact J.symm
     subst er;have HI:=az (Jt HP.out HG.out HK.out HN.out HE.out (hT.kept (bq (ax wc none))) (a9.kept hT.tr.r (bq (ax wc none))) aP);rw[G,HX.out.2.2,<-Y.out.1,<-Y.out.2,a0]at HI;simp only[jY]at HI;have a1:=HP.out.ins ff nx H (by rw[<-HP.out.len ff H];exact bD);have aT:X≠fb:=by omega
     have aK:=bz Z.out.2.2;have bA:=aI.out.lt;have b5:d.cb ff≠fb:=by
      have bZ:(ok d m1 g1 9 ff 0).bs (d.cb ff):=rfl;have bK:(ok d m1 g1 5 (k+1) 0).bs fb:=by
       show eO (g1.ro 5 (k+1)).1=some fb;rw[HQ.out.T.a];rfl
      exact a3.out.1.tr.r.ne (IJ (by rw[HP.out.nf];exact H)) (pX HQ.out.dt.1 HQ.out.dt.2) bZ bK (by omega)
     have aD:∀j o v,j≠fb->j<W.heap.size->W.cell? ⟨j,o,none⟩=some v->wc.cell? ⟨j,o,none⟩=some v:=λj o v hj hl hc=>by
      refine(bh aF.out (a:=⟨j,o,none⟩) (by simp[World.setCell];exact hl)).1.trans ?_;exact(aw (a:=⟨j,o,none⟩) (af W ⟨fb,n2*4+2,none⟩ _ j hj)).trans hc
     have y1:wc.cell? ⟨X,1,none⟩=some (.slice (some ⟨rb,0,none⟩) aG aG):=aD X 1 _ aT aK (by
      have hx:=Z.out.2.2;simp[World.cell?,hx])
     have y2:wc.cell? ⟨X,2,none⟩=some (.int .i64 nx):=aD X 2 _ aT aK (by
      have hx:=Z.out.2.2;simp[World.cell?,hx])
     have cd:∀j,j<4->wc.cell? ⟨d.cb ff,nx*4+j,none⟩=some (Ec d ff (nx*4+j)):=λj hj=>aD _ _ _ b5 bA (aI.out.cell (nx*4+j) (by omega));have e0:wc.cell? ⟨d.cb ff,nx*4,none⟩=some (.int .i64 ((p.ins ff nx).1:Int)):=by
      have h9:=cd 0 (by omega);unfold Ec at h9;rw[show(nx*4+0) / 4=nx by omega,aj (by omega),a1]at h9;exact h9
     have e1:wc.cell? ⟨d.cb ff,nx*4+1,none⟩=some (.int .i64 ((p.ins ff nx).2.1:Int)):=by
      have h9:=cd 1 (by omega);unfold Ec at h9;rw[show(nx*4+1) / 4=nx by omega,aa (by omega),aj (by omega),a1]at h9;exact h9
     have e2:wc.cell? ⟨d.cb ff,nx*4+2,none⟩=some (.int .i64 ((p.ins ff nx).2.2.1:Int)):=by
      have h9:=cd 2 (by omega);unfold Ec at h9;rw[show(nx*4+2) / 4=nx by omega,aa (by omega),aa (by omega),aj (by omega),a1]at h9;exact h9
     have e3:wc.cell? ⟨d.cb ff,nx*4+3,none⟩=some (.int .i64 ((p.ins ff nx).2.2.2:Int)):=by
      have h9:=cd 3 (by omega);unfold Ec at h9;rw[show(nx*4+3) / 4=nx by omega,aa (by omega),aa (by omega),aa (by omega),a1]at h9;exact h9
     have cJ:(nx:Int)<(d.len ff:Int):=by omega
     have cI:IntKind.i64.wrap (nx:Int)=nx:=by rw[bl,bd _ (by omega)]
     have cO:=a6.out.rn.fw.n2;generalize p.ins ff nx=kk at *;clear hT a9 a1 aD cd aI aF Z a2 a6 bH a4 bE aT aK bA b5 lX HQ Y;go_wp2_with fail
     go_cut [8] (λq wx=>∃v:Int,q=.int .i64 v/\Hid (Gm p d K s s' (k+1) m g w I v wx))
     case first=>
      go_region_with (go_at_call 194;refine HI.out.mono ?_;rintro e w6 ⟨v,rfl,hA⟩;have HA:=az hA;clear hA)
      all_goals
       go_wp2_with fail
       go_meet
       case rel=>exact⟨v,rfl,HA⟩
     case rest=>
      obtain⟨v,rfl,hA⟩:=hcut;clear HI y1 y2 e0 e1 e2 e3;rcases hA.out with⟨rfl,h0⟩|⟨rfl,J⟩|⟨rfl,h2⟩|⟨v1,v8,h3⟩
      .obtain⟨s2,bX,g2,ρ2,h2⟩:=h0;have cC:=h2.rn.fw.n2;have H2:=az h2;clear h2 hA;go_wp2_with fail
       go_roundg ((p.qn-(I+1))*22+(s2.T (k+1)).fr.length)
       case rel=>exact⟨I+1,by go_num,by omega,s2,bX,g2,ρ2,H2.out,bj _⟩
       case measure=>omega
      .have H1:=az J;clear J hA;go_wp2_with fail
       refine da (results_none rfl _ _ _) rfl ?_;exact⟨rfl,H1.out⟩
      .have HM:=az (K5 h2);rw[aJ.out,a0]at HM;clear h2 hA;go_wp2_with fail
       refine HM.out.mono ?_;rintro e w7 ⟨rfl,⟨cP,cR⟩,cH,hE⟩;have aR:=az hE;clear hE HM;go_wp2_with fail
       refine da (results_none rfl _ _ _) rfl ?_;exact⟨rfl,aR.out⟩
      have HM:=az (JI HP.out h3);rw[aJ.out,a0]at HM;clear h3 hA
      have b3:IntKind.i64.wrap (-v)=-v:=by rw[bl,bd _ (by omega)]
      go_wp2_with fail
      refine HM.out.mono ?_;rintro e w7 ⟨rfl,hE⟩;have aR:=az hE;clear hE HM;go_wp2_with fail
      refine da (results_none rfl _ _ _) rfl ?_;exact⟨rfl,aR.out⟩
  have aW:I=p.qn:=by omega
  have bG:¬((I:Int)<p.qn):=by omega
  obtain⟨i0,hi,bW,bI,bY⟩:=info_parts Tryz.qk;have a5:=(iw u.si (k+1)).2 u.rn.ht;obtain⟨c7,z7⟩:=u.tr.r.mc 7 (by omega) (v:=.slice (g1.ro 2 0).1 m1.q.length (g1.ro 2 0).2) rfl;rw[G]at c7 z7;obtain⟨tb,e1,hT,tc⟩:=u.tr.r.tc a5;have c6:wr.cell? ⟨mb,6,none⟩=some (.slice (some ⟨tb,0,none⟩) m1.nt (g1.ro 1 0).2):=by
   rw[show some (⟨tb,0,none⟩:Addr)=(g1.ro 1 0).1 by rw[e1],<-G];exact(u.tr.r.mc 6 (by omega) rfl).1
  obtain⟨t1,z1⟩:=tc.c 1 (by omega);rw[dC]at t1 z1
  have bL:=(u.si.small u.rn.ok).1;have cL:=(u.si.small u.rn.ok).2
  have q5:=fp (n:=k) (by omega);have q6:IntKind.i64.wrap (k:Int)=k:=by rw[bl,bd _ (by omega)]
  have q7:(0:Int)<=k:=by omega
  have q8:(k:Int)<m1.nt:=by omega
  have aC:mb<wr.heap.size:=av wr _ c6;have aA:tb<wr.heap.size:=av wr _ t1;have HQ:Hid (fM wr 3 (.slice (g1.ro 2 0).1 m1.q.length (g1.ro 2 0).2) (iI m1.q)):=u.tr.r.Q;have aN:Hid (∀j,(Value.slice (g1.ro 2 0).1 m1.q.length (g1.ro 2 0).2).ownBlock=some j->j≠mb/\j≠tb/\j<wr.heap.size):=λj hj=>by
   have b6:eO (g1.ro 2 0).1=some j:=by rw[<-dr (g1.ro 2 0).1 m1.q.length (g1.ro 2 0).2];exact hj
   refine⟨?_,?_,HQ.out.lt j hj⟩
   .rw[<-G];exact u.tr.r.ne (x:=2) (y:=0) (z:=0) (x':=0) (y':=0) (z':=0) (m6 (by omega)) rfl b6 rfl (by omega)
   exact u.tr.r.ne (x:=2) (y:=0) (z:=0) (x':=1) (y':=0) (z':=0) (m6 (by omega)) (m6 (by omega)) b6 ((Bw d m1 e1 tb).2 rfl) (by omega)
  have HL:=az (iH m1.q);have bR:=az (ay u (ay e1 a5));generalize tC (m1.T (k+1)) (iR m1 g1 5 (k+1)) 1=o1 at t1;clear u hT tc e1 a5 a3;go_wp2_with (at_builtin;refine gZ _ rfl (.tmp 118) (.tmp 120) 54 rfl 3 i0 _ 8 Tryz.g9 hi bW bI bY rfl _ (iI m1.q) rfl (HQ.out.block ?cq) _ _ (.int .i64 ((k:Int)+1)) rfl ?c1 rfl ?c3 ?c4 ?_)
  case cq=>
   intro j hj;exact ak _ _ _ (aN.out j hj).2.2
  try case c1=>simp[go_sem]
  try case c3=>rw[HL.out];unfold maxLen;omega
  try case c4=>rw[HL.out];omega
  intro qb off cap w6 aQ hg aX;rw[HL.out]at aQ;have bJ:=az aQ;have bT:=az hg;have cA:=az aX;have b0:w6.heap[mb]? = wr.heap[mb]?:=by rw[hg.block mb (by simp;omega) (λh=>(aN.out mb h.symm).1 rfl),ak _ _ _ aC]
  have bt:w6.heap[tb]? = wr.heap[tb]?:=by rw[hg.block tb (by simp;omega) (λh=>(aN.out tb h.symm).2.1 rfl),ak _ _ _ aA]
  have d7:=(aw (a:=⟨mb,7,none⟩) b0).trans c7;have f7:=(dg (a:=⟨mb,7,none⟩) b0).trans z7;have d6:=(aw (a:=⟨mb,6,none⟩) b0).trans c6;have d1:=(aw (a:=⟨tb,k*8+1,none⟩) bt).trans t1;have f1:=(dg (a:=⟨tb,k*8+1,none⟩) bt).trans z1;clear aQ hg aX b0 bt c7 z7 c6 t1 z1;go_wp2_with fail
  go_end0;obtain⟨u,e1,a5⟩:=bR.out;have h0:=u.tr.kept (au (ax wr none) (.cells #[.int .i64 ((k:Int)+1)] 3));have bU:fM w6 3 (.slice (some ⟨qb,off,none⟩) (m1.q.length+1) cap) (iI m1.q++[iK ((k+1:Nat):Int)]):=by rw[a0];exact bJ.out
  have J:=Tr.qv (t:=k+1) (b:=qb) (off:=off) (c:=cap) h0 bU bT.out (cA.out.imp id (λe=>by rw[e];simp));have aE:=(u.si.T _ u.rn.lv).h.h0 u.rn.wh;have h2:=J.r.sw (t:=k+1) (tb:=tb) a5 (by rw[qG g1 _ (by omega)];exact e1) 1 (by omega) (.int .i64 1) (x':=m1.T (k+1)) rfl (λj hj=>by
   have hc:j=0\/j=1\/j=2\/j=3\/j=4\/j=5\/j=6\/j=7:=by omega
   rcases hc with rfl|rfl|rfl|rfl|rfl|rfl|rfl|rfl
   .rfl
   .show iK ((m1.T (k+1)).how:Int)=_;rw[aE];rfl
   .rfl
   .rfl
   .rfl
   .rfl
   .rfl
   rfl)
  rw[dC]at h2;have h3:=J.trans h2;rw[G]at h3;have bV:s'=s1:=by
   have h9:=u.rr;rw[aW,Nat.sub_self]at h9;exact h9
  have h4:=u.si.join (x:=m1.T (k+1)) u.rn.ok u.rn.lv (by rw[u.rn.wh];intro e;cases e) ⟨rfl,rfl,rfl,aE⟩;refine⟨rfl,_,_,ρ1,by rw[HL.out];exact h3,?_⟩;rw[bV,aj u.rn.run,<-aW];exact h4
end D
namespace D
open F
variable {p : Dp} {m m' : Dm} {g g' : Dg} {w w' : World}
def tO(m:Dm)(time:Int)(I b:Nat):Prop:=
 (b=0/\∀u,1<=u->u<=I->¬((m.T u).how=2/\(m.T u).km<=time))\/((1<=b/\b<=I)/\(m.T b).how=2/\(m.T b).km<=time/\∀u,1<=u->u<=I->(m.T u).how=2->(m.T u).km<=time->xw (m.T b) (m.T u))
theorem tO.no{i:Int}{I b:Nat}(h:tO m i I b)(hn:¬((m.T (I+1)).how=2/\(m.T (I+1)).km<=i)):tO m i (I+1) b:=by
 rcases h with⟨G,y⟩|⟨G,y,Y,W⟩
 .exact ag ⟨G,λu o Z=>by
   by_cases e:u=I+1
   .rw[e];exact hn
   exact y u o (by omega)⟩
 exact ab ⟨⟨G.1,by omega⟩,y,Y,λu o Z J H=>by
  by_cases e:u=I+1
  .subst e;exact ch ⟨J,H⟩ hn
  exact W u o (by omega) J H⟩
theorem tO.kU{i:Int}{I b:Nat}(h:tO m i I b)(J:b≠0)(hn:xw (m.T b) (m.T (I+1))):tO m i (I+1) b:=by
 rcases h with⟨o,y⟩|⟨o,y,Y,W⟩
 .exact ch o J
 exact ab ⟨⟨o.1,by omega⟩,y,Y,λu H u2 Z G=>by
  by_cases e:u=I+1
  .rw[e];exact hn
  exact W u H (by omega) Z G⟩
theorem tO.take{i:Int}{I b:Nat}(h:tO m i I b)(Z:(m.T (I+1)).how=2)(J:(m.T (I+1)).km<=i)(hb:b=0\/(m.T (I+1)).km<(m.T b).km\/((m.T (I+1)).km=(m.T b).km/\(m.T (I+1)).ji<(m.T b).ji)):tO m i (I+1) (I+1):=by
 refine ab ⟨⟨by omega,bj _⟩,Z,J,λu G u2 o y=>?_⟩;unfold xw;by_cases e:u=I+1
 .rw[e];exact ab ⟨rfl,bj _⟩
 rcases h with⟨Y,H⟩|⟨Y,H,h2,W⟩
 .exact ch ⟨o,y⟩ (H u G (by omega))
 have:=W u G (by omega) o y;unfold xw at this;omega
theorem Lw(h:dQ p m g w)(hn:m.nt≠0):Calls prog 143 #[P0 g.mb] w λe w'=>∃b:Nat,e=.returned (.int .i64 b)/\b<=m.nt/\Iw m b/\w.grownBy w' none:=by
 have C5:Hid (w.cell? ⟨g.mb,5,none⟩=some (.int .i64 m.eY)):=(h.mc 5 (by omega) rfl).1;obtain⟨tb,hb,hl,hm,hF⟩:=h.T hn;have c6:w.cell? ⟨g.mb,6,none⟩=some (.slice (some ⟨tb,0,none⟩) m.nt (g.ro 1 0).2):=by rw[<-hb];exact(h.mc 6 (by omega) rfl).1
 have aG:m.nt<=9223372036854775807:=by unfold maxLen at hm;omega
 have HF:=az hF;have lt:=hF.lt;clear hF hm hb hl h;generalize g.mb=rb at *;go_in;go_wp2_with fail
 go_loopw [3,4] (λn i wr=>∃(N I:Nat),n=.int .i64 N/\i=.int .i64 I/\I<=m.nt/\N<=I/\Hid (tO m m.eY I N)/\Hid (w.grownBy wr none)) (λ_ i _=>m.nt-(intOf i).toNat)
 case atStart=>exact⟨0,0,rfl,rfl,by omega,by omega,ag ⟨rfl,λu u1 u2=>by omega⟩,ax _ _⟩
 case round=>
  obtain⟨N,I,rfl,rfl,hI,hN,Z,Y⟩:=hrel;have hk:=λ(k:Nat) (hk:k<w.heap.size)=>Y.block k hk (by intro e;cases e);have d6:=(aw (a:=⟨rb,6,none⟩) (hk rb (av w _ c6))).trans c6;have d5:wr.cell? ⟨rb,5,none⟩=some (.int .i64 m.eY):=(aw (a:=⟨rb,5,none⟩) (hk rb (av w _ c6))).trans C5;have a6:=HF.block (hk tb lt);have aE:=a6.lt;have aI:rb<wr.heap.size:=av wr _ d6;clear hk;by_cases aF:I<m.nt
  .have hc:∀k,k<8->wr.cell? ⟨tb,I*8+k,none⟩=some (tC (m.T (I+1)) (iR m g 5 (I+1)) k):=λk hk=>(a6.cell (I*8+k) (by omega)).trans (congrArg some (pc m g (t:=I+1) (by omega) hk (by omega)));have aD:(I:Int)<m.nt:=by omega
   have a7:N≠0->wr.cell? ⟨tb,(N-1)*8+4,none⟩=some (.int .i64 (m.T N).km):=λh=>BY a6 h (by omega) (by omega);have a8:N≠0->wr.cell? ⟨tb,(N-1)*8+5,none⟩=some (.int .i64 ((m.T N).ji:Int)):=λh=>BY a6 h (by omega) (by omega);have c0:wr.cell? ⟨tb,I*8,none⟩=some (.slice (g.ro 5 (I+1)).1 (m.T (I+1)).fr.length (g.ro 5 (I+1)).2):=hc 0 (by omega);have c1:wr.cell? ⟨tb,I*8+1,none⟩=some (.int .i64 ((m.T (I+1)).how:Int)):=hc 1 (by omega);have c2:wr.cell? ⟨tb,I*8+2,none⟩=some (.int .i64 (m.T (I+1)).into):=hc 2 (by omega);have c3:wr.cell? ⟨tb,I*8+3,none⟩=some (.int .i64 ((m.T (I+1)).what:Int)):=hc 3 (by omega);have c4:wr.cell? ⟨tb,I*8+4,none⟩=some (.int .i64 (m.T (I+1)).km):=hc 4 (by omega);have c5:wr.cell? ⟨tb,I*8+5,none⟩=some (.int .i64 ((m.T (I+1)).ji:Int)):=hc 5 (by omega);have aH:wr.cell? ⟨tb,I*8+6,none⟩=some (.int .i64 ((m.T (I+1)).out.1:Int)):=hc 6 (by omega);have c7:wr.cell? ⟨tb,I*8+7,none⟩=some (.int .i64 (m.T (I+1)).out.2):=hc 7 (by omega);generalize (g.ro 5 (I+1)).1=a1 at *;generalize (g.ro 5 (I+1)).2=a2 at *;generalize hx:m.T (I+1)=x at *;clear hc a6;by_cases h1:x.how=2
   .by_cases h2:x.km<=m.eY
    .have j2:¬(m.eY<x.km):=by omega
     by_cases h3:N=0
     .have K:Hid (tO m m.eY (I+1) (I+1)):=Z.take (by rw[hx];exact h1) (by rw[hx];exact h2) (ag h3);clear Z;go_wp2_with fail
      obtain⟨W,J,f1,f3,f4,f5,lW,G,o⟩:=ke wr _ _ _ _ _ _ _ _;rw[J];have e5:=o _ _ d5;have y:=az (an Y G)
      clear J o G Y;go_quiet (fail)
      go_wp2_with fail
      go_quiet (fail)
      go_wp2_with fail
      go_roundw
      case rel=>exact⟨I+1,I+1,by go_num,by go_num,by omega,by omega,K,⟨y.os,y.tape,y.output,y.size,y.block⟩⟩
      case measure=>simp[intOf];omega
     have j3:¬((N:Int)=0):=by omega
     by_cases h4:x.km<(m.T N).km
     .skip
      have K:=az (Z.take (by rw[hx];exact h1) (by rw[hx];exact h2) (ab (ag (by rw[hx];exact h4))));clear Z;go_wp2_with fail
      obtain⟨W,J,f1,f3,f4,f5,lW,G,o⟩:=ke wr _ _ _ _ _ _ _ _;rw[J];have e6:=o _ _ d6;have e5:=o _ _ d5;have y:=az (an Y G)
      have a5:=o _ _ (a7 h3);have a4:=o _ _ (a8 h3)
      have aB:((N:Int) == 0)=false:=by simpa using j3
      have a3:IntKind.i64.wrap ((N:Int)-1)=((N-1:Nat):Int):=by simp[IntKind.wrap,IntKind.bits,IntKind.signed];omega
      have a0:N-1<m.nt:=by omega
      generalize N-1=M at a5 a4 a3 a0;have aA:(M:Int)<m.nt:=by omega
      clear J o G Y;go_quiet (fail)
      go_wp2_with fail
      go_quiet (fail)
      go_wp2_with fail
      go_roundw
      case rel=>exact⟨I+1,I+1,by go_num,by go_num,by omega,by omega,K,⟨y.os,y.tape,y.output,y.size,y.block⟩⟩
      case measure=>simp[intOf];omega
     by_cases h5:x.km=(m.T N).km
     .by_cases h6:x.ji<(m.T N).ji
      .have j6:(x.ji:Int)<((m.T N).ji:Int):=by omega
       have K:=az (Z.take (by rw[hx];exact h1) (by rw[hx];exact h2) (ab (ab (by rw[hx];exact⟨h5,h6⟩))));clear Z;go_wp2_with fail
       obtain⟨W,J,f1,f3,f4,f5,lW,G,o⟩:=ke wr _ _ _ _ _ _ _ _;rw[J];have e6:=o _ _ d6;have e5:=o _ _ d5;have y:=az (an Y G)
       have a5:=o _ _ (a7 h3);have a4:=o _ _ (a8 h3)
       have aB:((N:Int) == 0)=false:=by simpa using j3
       have a3:IntKind.i64.wrap ((N:Int)-1)=((N-1:Nat):Int):=by simp[IntKind.wrap,IntKind.bits,IntKind.signed];omega
       have a0:N-1<m.nt:=by omega
       generalize N-1=M at a5 a4 a3 a0;have aA:(M:Int)<m.nt:=by omega
       clear J o G Y;go_quiet (fail)
       go_wp2_with fail
       go_quiet (fail)
       go_wp2_with fail
       go_roundw
       case rel=>exact⟨I+1,I+1,by go_num,by go_num,by omega,by omega,K,⟨y.os,y.tape,y.output,y.size,y.block⟩⟩
       case measure=>simp[intOf];omega
      have j6:¬((x.ji:Int)<((m.T N).ji:Int)):=by omega
      have K:=az (Z.kU h3 (by rw[hx];unfold xw;omega));clear Z;go_wp2_with fail
      obtain⟨W,J,f1,f3,f4,f5,lW,G,o⟩:=ke wr _ _ _ _ _ _ _ _;rw[J];have e6:=o _ _ d6;have e5:=o _ _ d5;have y:=az (an Y G)
      have a5:=o _ _ (a7 h3);have a4:=o _ _ (a8 h3)
      have aB:((N:Int) == 0)=false:=by simpa using j3
      have a3:IntKind.i64.wrap ((N:Int)-1)=((N-1:Nat):Int):=by simp[IntKind.wrap,IntKind.bits,IntKind.signed];omega
      have a0:N-1<m.nt:=by omega
      generalize N-1=M at a5 a4 a3 a0;have aA:(M:Int)<m.nt:=by omega
      clear J o G Y;go_quiet (fail)
      go_wp2_with fail
      go_quiet (fail)
      go_wp2_with fail
      go_roundw
      case rel=>exact⟨N,I+1,by go_num,by go_num,by omega,by omega,K,⟨y.os,y.tape,y.output,y.size,y.block⟩⟩
      case measure=>simp[intOf];omega
     have b5:(x.km == (m.T N).km)=false:=by simpa using h5
     have d4:=fi h4;have K:=az (Z.kU h3 (by rw[hx];unfold xw;omega));clear Z;go_wp2_with fail
     obtain⟨W,J,f1,f3,f4,f5,lW,G,o⟩:=ke wr _ _ _ _ _ _ _ _;rw[J];have e6:=o _ _ d6;have e5:=o _ _ d5;have y:=az (an Y G)
     have a5:=o _ _ (a7 h3);have a4:=o _ _ (a8 h3)
     have aB:((N:Int) == 0)=false:=by simpa using j3
     have a3:IntKind.i64.wrap ((N:Int)-1)=((N-1:Nat):Int):=by simp[IntKind.wrap,IntKind.bits,IntKind.signed];omega
     have a0:N-1<m.nt:=by omega
     generalize N-1=M at a5 a4 a3 a0;have aA:(M:Int)<m.nt:=by omega
     clear J o G Y;go_quiet (fail)
     go_wp2_with fail
     go_quiet (fail)
     go_wp2_with fail
     go_roundw
     case rel=>exact⟨N,I+1,by go_num,by go_num,by omega,by omega,K,⟨y.os,y.tape,y.output,y.size,y.block⟩⟩
     case measure=>simp[intOf];omega
    have j2:m.eY<x.km:=by omega
    have K:=az (Z.no (by rw[hx];exact λe=>h2 e.2));clear Z;go_wp2_with fail
    obtain⟨W,J,f1,f3,f4,f5,lW,G,o⟩:=ke wr _ _ _ _ _ _ _ _;rw[J];have e5:=o _ _ d5;have y:=az (an Y G)
    clear J o G Y;go_quiet (fail)
    go_wp2_with fail
    go_roundw
    case rel=>exact⟨N,I+1,by go_num,by go_num,by omega,by omega,K,⟨y.os,y.tape,y.output,y.size,y.block⟩⟩
    case measure=>simp[intOf];omega
   have j1:¬((x.how:Int)=2):=by omega
   have aJ:((x.how:Int) != 2)=true:=by simpa using j1
   have K:=az (Z.no (by rw[hx];exact λe=>h1 e.1));clear Z;go_wp2_with fail
   obtain⟨W,J,f1,f3,f4,f5,lW,G,o⟩:=ke wr _ _ _ _ _ _ _ _;rw[J];have y:Hid (w.grownBy W none):=an Y G
   clear J o G Y;go_quiet (fail)
   go_wp2_with fail
   go_roundw
   case rel=>exact⟨N,I+1,by go_num,by go_num,by omega,by omega,K,⟨y.os,y.tape,y.output,y.size,y.block⟩⟩
   case measure=>simp[intOf];omega
  obtain rfl:I=m.nt:=by omega
  have aC:Hid (Iw m N):=by
   rcases Z with⟨h0,h1⟩|⟨h0,h1,h2,h3⟩
   .exact ag ⟨h0,λu hu=>h1 u hu.1 hu.2⟩
   exact ab ⟨h0,h1,h2,λu hu=>h3 u hu.1 hu.2⟩
  clear a6 Z d5;go_wp2_with fail
  go_ret;exact⟨N,rfl,by omega,aC,Y⟩
end D
namespace F
def yz(s:Pl):Prop:=s.q 3 0≠[]\/∃k,k<4/\s.q 4 k≠[]
open Classical in
noncomputable def Pl.zp (s : Pl) : Int := if s.sp = true then 5 else if s.lv = [] then 4 else if s.q 2 0 ≠ [] then 1 else if yz s then 2 else 3
end F
namespace D
open F
variable {p : dz} {d : Dp} {K : Nat} {s s' : Pl} {m m' : Dm} {g g' : Dg} {w w' : World} {ρ : Nat → Nat}
def Dm.lD(m:Dm):Dm:={ m with ev:=[] }
def mT(m:Dm)(I:Nat):Prop:=∃t,1<=t/\t<=I/\((m.T t).how=2\/(m.T t).how=3)
theorem mT.yes{I:Nat}(h:mT m I):mT m (I+1):=by
 obtain⟨t,i,o,e⟩:=h;exact⟨t,i,by omega,e⟩
theorem mT.new{I:Nat}(h:(m.T (I+1)).how=2\/(m.T (I+1)).how=3):mT m (I+1):=⟨I+1,by omega,bj _,h⟩
theorem mT.no{I:Nat}(h:¬mT m I)(u:(m.T (I+1)).how≠2)(o:(m.T (I+1)).how≠3):¬mT m (I+1):=by
 rintro⟨t,y,G,i⟩;by_cases e:t=I+1
 .subst e;exact i.elim u o
 exact h ⟨t,y,by omega,i⟩
theorem eK.rest(h:eK p K s m ρ)(o:Ok p s):mT m m.nt↔yz s:=by
 constructor
 .rintro⟨t,Y,W,t3⟩;rcases t3 with e|e
  .left
   have:=(h.JX o).1 ⟨⟨Y,W⟩,e⟩;exact λe'=>by rw[e']at this;cases this
  right
  have ht:=(iw h t).1 ⟨Y,W⟩;rcases h.wh o ((h.how o ht).1 (by rw[e];decide)) with⟨_,i⟩|⟨_,i⟩|⟨_,i⟩|⟨k,G,_,i,e3⟩|⟨u,_,_,i,_⟩
  .rw[i]at e;cases e
  .rw[i]at e;cases e
  .rw[i]at e;cases e
  .have:=(h.JW o (x:=4) (y:=k) (ab (ab (ag ⟨rfl,G⟩))) (ag rfl)).1 ⟨⟨Y,W⟩,i,e3⟩;exact⟨k,G,λe'=>by rw[e']at this;cases this⟩
  rw[i]at e;cases e
 rintro(J|⟨k,G,J⟩)
 .obtain⟨t,ht⟩:=List.exists_mem_of_ne_nil _ J;obtain⟨⟨Z,a2⟩,H⟩:=(h.JX o).2 ht;exact⟨t,Z,a2,ag H⟩
 obtain⟨t,ht⟩:=List.exists_mem_of_ne_nil _ J;obtain⟨⟨Z,a2⟩,H,_⟩:=(h.JW o (x:=4) (y:=k) (ab (ab (ag ⟨rfl,G⟩))) (ag rfl)).2 ht;exact⟨t,Z,a2,ab H⟩
theorem GI(h:dQ d m g w)(hS:eK p K s m.lD ρ)(hO:Ok p s)(a6:s.nt≠0):Calls prog 49 #[P0 g.mb] w λe w'=>e=.returned (.int .i64 s.zp)/\w.grownBy w' none:=by
 have a8:m.nt=s.nt:=hS.nt;have hn:m.nt≠0:=by rw[a8];exact a6
 obtain⟨tb,hb,hl,hm,hF⟩:=h.T hn;have c6:w.cell? ⟨g.mb,6,none⟩=some (.slice (some ⟨tb,0,none⟩) m.nt (g.ro 1 0).2):=by rw[<-hb];exact(h.mc 6 (by omega) rfl).1
 have c7:w.cell? ⟨g.mb,7,none⟩=some (.slice (g.ro 2 0).1 (s.q 2 0).length (g.ro 2 0).2):=by
  have Z:=(h.mc 7 (by omega) (v:=.slice (g.ro 2 0).1 m.q.length (g.ro 2 0).2) rfl).1;rw[show m.q=s.q 2 0 from hS.q]at Z;exact Z
 have a5:w.cell? ⟨g.mb,14,none⟩=some (.bool s.sp):=by
  have Z:=(h.mc 14 (by omega) (v:=.bool m.sp) rfl).1;rw[show m.sp=s.sp from hS.sp]at Z;exact Z
 have aG:m.nt<=9223372036854775807:=by unfold maxLen at hm;omega
 have a0:Hid (mT m m.nt↔yz s):=hS.rest hO;have a7:Hid (∀w1,w.grownBy w1 none->Calls prog 77 #[P0 g.mb] w1 λe w'=>e=.returned (.int .i64 (s.lv.length:Int))/\w1.grownBy w' none):=λw1 hg=>by
  refine(F0 (h.kept hg) hn).mono ?_;rintro e w' ⟨N,rfl,_,aA,aE⟩;rw[hS.live hO aA];exact⟨rfl,aE⟩
 have HF:=az hF;have lt:=hF.lt;have a1:=h.M.lt;clear hF hm hb hl h hS hO a8 a6;generalize g.mb=rb at *;go_in;go_wp2_with fail
 go_loopw [3,4] (λr i wr=>∃(b:Bool) (I:Nat),r=.bool b/\i=.int .i64 I/\I<=m.nt/\Hid (b=true↔mT m I)/\Hid (w.grownBy wr none)) (λ_ i _=>m.nt-(intOf i).toNat)
 case atStart=>
  refine⟨false,0,rfl,rfl,by omega,⟨λe=>(by cases e),λe=>?_⟩,ax _ _⟩;obtain⟨t,t1,t2,_⟩:=e;omega
 case round=>
  obtain⟨b,I,rfl,rfl,hI,Y,rG⟩:=hrel;have W:=λ(k:Nat) (W:k<w.heap.size)=>rG.out.block k W (by intro e;cases e);have d6:=(aw (a:=⟨rb,6,none⟩) (W rb a1)).trans c6;have H:=HF.out.block (W tb lt);by_cases aL:I<m.nt
  .have hc:∀k,k<8->wr.cell? ⟨tb,I*8+k,none⟩=some (tC (m.T (I+1)) (iR m g 5 (I+1)) k):=λk W=>(H.cell (I*8+k) (by omega)).trans (congrArg some (pc m g (t:=I+1) (by omega) W (by omega)));have a9:(I:Int)<(m.nt:Int):=by omega
   have c1:wr.cell? ⟨tb,I*8+1,none⟩=some (.int .i64 ((m.T (I+1)).how:Int)):=hc 1 (by omega);clear H hc W
   cases b with
   | true=>
    have KN:Hid (true=true↔mT m (I+1)):=⟨λ_=>(Y.out.1 rfl).yes,λ_=>rfl⟩;clear Y;go_wp2_with fail
    go_roundw
    case rel=>exact⟨true,I+1,rfl,by go_num,by omega,KN,rG⟩
    case measure=>simp[intOf];omega
   | false=>
    have aB:Hid (¬mT m I):=λe=>by have:=Y.out.2 e;cases this
    clear Y;by_cases h2:(m.T (I+1)).how=2
    .have KN:Hid (true=true↔mT m (I+1)):=⟨λ_=>mT.new (ag h2),λ_=>rfl⟩;rw[h2]at c1;clear h2;go_wp2_with fail
     go_roundw
     case rel=>exact⟨true,I+1,rfl,by go_num,by omega,KN,rG⟩
     case measure=>simp[intOf];omega
    by_cases h3:(m.T (I+1)).how=3
    .have KN:Hid (true=true↔mT m (I+1)):=⟨λ_=>mT.new (ab h3),λ_=>rfl⟩;rw[h3]at c1;clear h2 h3;go_wp2_with fail
     go_roundw
     case rel=>exact⟨true,I+1,rfl,by go_num,by omega,KN,rG⟩
     case measure=>simp[intOf];omega
    have KN:Hid (false=true↔mT m (I+1)):=⟨λe=>(by cases e),λe=>ch e (mT.no aB.out h2 h3)⟩;generalize (m.T (I+1)).how=hw at *;have aH:((hw:Int) == 2)=false:=by rw[dK];omega
    have aF:((hw:Int) == 3)=false:=by rw[dK];omega
    clear h2 h3;go_wp2_with fail
    go_roundw
    case rel=>exact⟨false,I+1,rfl,by go_num,by omega,KN,rG⟩
    case measure=>simp[intOf];omega
  obtain rfl:I=m.nt:=by omega
  have a9:¬((m.nt:Int)<(m.nt:Int)):=by omega
  have HB:Hid (b=true↔yz s):=⟨λe=>a0.out.1 (Y.out.1 e),λe=>Y.out.2 (a0.out.2 e)⟩;have a2:=az (a7.out wr rG.out);clear H W Y a0 HF;go_wp2_with fail
  refine a2.out.mono ?_;rintro e w2 ⟨rfl,a3⟩;have KG:=az (an rG.out a3);have a4:=(bh KG.out (a:=⟨rb,14,none⟩) a1).1.trans a5;have e7:=(bh KG.out (a:=⟨rb,7,none⟩) a1).1.trans c7;clear a3 a5 c7 c6 d6 a2 a7;have fin:∀x:Int,s.zp=x->(Ending.returned (.int .i64 x)=Ending.returned (.int .i64 s.zp)/\w.grownBy w2 none):=λx e=>⟨by rw[e],KG.out⟩;have G:=az fin;clear fin
  cases hsp:s.sp with
  | true=>
   have u:=az hsp;rw[hsp]at a4;clear hsp;go_wp2_with fail
   go_ret;exact G.out 5 (by unfold Pl.zp;rw[aj u.out])
  | false=>
   have u:Hid (¬s.sp=true):=λe=>by rw[hsp]at e;cases e
   rw[hsp]at a4;clear hsp;by_cases y:s.lv=[]
   .have o:=az y;have aC:(s.lv.length:Int)=0:=by rw[y];rfl
    clear y;go_wp2_with fail
    go_ret;exact G.out 4 (by unfold Pl.zp;rw[aa u.out,aj o.out])
   have o:=az y;have aC:((s.lv.length:Int) == 0)=false:=by
    rw[dK];exact λe=>y (cf.1 (by omega))
   clear y;by_cases hq:s.q 2 0=[]
   .have J:=az hq;rw[hq]at e7;simp only[List.length_nil]at e7;clear hq
    cases b with
    | true=>
     go_wp2_with fail
     go_ret;exact G.out 2 (by unfold Pl.zp;rw[aa u.out,aa o.out,aa (λe=>e J.out),aj (HB.out.1 (by first|exact rfl|trivial))])
    | false=>
     go_wp2_with fail
     go_ret;exact G.out 3 (by unfold Pl.zp;rw[aa u.out,aa o.out,aa (λe=>e J.out),aa (λe=>by have Z:=HB.out.2 e;cases Z)])
   have J:=az hq;have aJ:(0:Int)<((s.q 2 0).length:Int):=by
    have:(s.q 2 0).length≠0:=λe=>hq (cf.1 e);omega
   clear hq;go_wp2_with fail
   go_ret;exact G.out 1 (by unfold Pl.zp;rw[aa u.out,aa o.out,aj J.out])
end D
end Go.Proofs.YtnjiinbhbjpfkaaGreatDoor
