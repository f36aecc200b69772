import Derived.Test.YtnjiinbhbjpfkaaGreatDoorStpU
set_option maxRecDepth 100000
set_option maxHeartbeats 0
set_option linter.all false
namespace Go.Proofs.YtnjiinbhbjpfkaaGreatDoor
open Go.RowKit Go.Proofs.Tryz
namespace D
open F
variable {p : dz} {d : Dp} {K : Nat} {s s' : Pl} {m m' : Dm} {g g' : Dg} {w w' : World} {ρ ρ' : Nat → Nat} {t tb fb n nr a b c : Nat} {why : Int}
structure My(m:Dm) (g:Dg) (w:World) (s:Pl) (ρ:Nat->Nat) (v:B.V) (z cb:Nat):Prop where
 e:ρ v.1=z+1
 l:z<m.nc
 ev:tr ρ v=(z+1,0)
 BL:w.cell? ⟨g.mb,12,none⟩=some (.slice (some ⟨cb,0,none⟩) m.nc (g.ro 3 0).2)
 k0:w.cell? ⟨cb,z*2,none⟩=some (.slice (some ⟨g.sb (z+1),0,none⟩) (s.M v.1).length (s.M v.1).length)
 k1:w.cell? ⟨cb,z*2+1,none⟩=some (.int .i64 ((s.ck v.1:Int)-1))
 sl:∀i,i<(s.M v.1).length->oU w (g.sb (z+1)) i (tr ρ ((s.M v.1).getD i (0,0)))
 l8:(s.M v.1).length<=8
 lm:(m.M (z+1)).length=(s.M v.1).length
theorem eK.LY(hS:eK p K s m ρ)(h:dQ d m g w)(hO:Ok p s){v:B.V}(W:dN p s v)(h0:v.1≠0):∃z y,My m g w s ρ v z y:=by
 obtain⟨Y,G,H,J,Z⟩:=hS.Gf hO W h0;obtain⟨y,k1,k2,k3,o,u⟩:=h.cc G H;obtain⟨z,hz⟩:∃z,ρ v.1=z+1:=⟨ρ v.1-1,by omega⟩;have e:=h.S G H;rw[hz]at Y G H J Z o u e;rw[dC]at o u;have hl:(m.M (z+1)).length=(s.M v.1).length:=by rw[J,dS]
 refine⟨z,y,hz,by omega,Y,k3,by rw[hl]at o;exact o,by rw[Z]at u;exact u,λi hi=>?_,(hS.C v.1 (B.oH.vi W h0)).l,hl⟩;have:=Iz e (a:=i) (by omega);have e6:kT (m.M (z+1)) i=tr ρ ((s.M v.1).getD i (0,0)):=by
  unfold kT;rw[J,ar,eo,ar,bn hi];rfl
 rw[e6]at this;exact this
section
variable (h : dQ d m g w) (hS : eK p K s m ρ) (hR : Rn p s t) (hQ : qP p d s m g w ρ t tb fb n nr) (hK : K < 900000000)
include h hS hR hQ hK
theorem Jw(ha:a<nr)(W:b<nr)(J:c<nr)(hi:jD p s t (10,a,b,c) why s'):Calls prog 214 #[P0 g.mb,.slice (some ⟨g.rb t n,0,none⟩) nr nr,jY 10 a b c] w λe w'=>∃v:Int,e=.returned (.int .i64 v)/\jW p d K s t m g w why s' v w':=by
 have hi:(Eb s ((bw s t).R b) ((bw s t).R c)/\why=0/\s'=s.dx t (cr s t) ((bw s t).set a ((s.M ((bw s t).R b).1).getD ((bw s t).R c).2.toNat (0,0))))\/(¬Eb s ((bw s t).R b) ((bw s t).R c)/\why=(mI s ((bw s t).R b) ((bw s t).R c):Nat)/\s'=s):=hi;have gb:=hR.oq (by rw[hQ.r2];exact W);have gc:dN p s ((bw s t).R c):=hR.oq (by rw[hQ.r2];exact J);have rb:=hQ.rc W;have rc:=hQ.rc J;generalize hx:(bw s t).R b=x at *;generalize hy:(bw s t).R c=y at *;have G:∀k:Nat,0<k->¬Eb s x y->mI s x y=k->Calls prog 214 #[P0 g.mb,.slice (some ⟨g.rb t n,0,none⟩) nr nr,jY 10 a b c] w (λe w'=>e=.returned (.int .i64 k)/\w.grownBy w' none)->Calls prog 214 #[P0 g.mb,.slice (some ⟨g.rb t n,0,none⟩) nr nr,jY 10 a b c] w λe w'=>∃v:Int,e=.returned (.int .i64 v)/\jW p d K s t m g w why s' v w':=λk hk hn he H=>by
  rcases hi with⟨h',_⟩|⟨_,rfl,rfl⟩
  .exact ch h' hn
  refine H.mono ?_;rintro e w' ⟨rfl,hg⟩;rw[he];exact⟨_,rfl,jW.fail h hg hS (by omega)⟩
 by_cases Y:x.1=0
 .refine G 2 (by omega) (λe=>e.1 Y) (by unfold mI;rw[aj (ag Y)]) ?_;rw[om Y,show x=(0,x.2) from fV Y rfl]at rb;exact I3 W J rb rc
 obtain⟨z,cb,i⟩:=hS.LY h hR.ok gb Y;have u:m.nc<1000000000:=by have:=hS.B.1;omega
 rw[i.ev]at rb;by_cases hk:s.ck x.1=0
 case neg=>
  refine G 2 (by omega) (λe=>hk e.2.1) (by unfold mI;rw[aj (ab hk)]) ?_;exact wT (vo:=(0,0)) (ag ⟨rfl,rfl,rfl⟩) W J rb rc i.l u i.BL i.k1 i.k0 (ag ⟨by omega,rfl⟩)
 have hw:¬(x.1=0\/s.ck x.1≠0):=λe=>e.elim Y (λe=>e hk);by_cases o:y.1=0
 case neg=>
  refine G 1 (by omega) (λe=>o e.2.2.1) (by unfold mI;rw[aa hw,aj o]) ?_;exact wT (vo:=(0,0)) (ag ⟨rfl,rfl,rfl⟩) W J rb rc i.l u i.BL i.k1 i.k0 (ab (ag ⟨by omega,Int.natCast_pos.2 (Nat.pos_of_ne_zero λe=>o ((wH hR.ok hS gc).1.1 e)),rfl⟩))
 rw[om o,show y=(0,y.2) from fV o rfl]at rc;have Z:mI s x y=3:=by unfold mI;rw[aa hw,aa (λe=>e o)]
 by_cases y1:y.2<0
 .refine G 3 (by omega) (λe=>by have:=e.2.2.2.1;omega) Z ?_;exact wT (vo:=(0,0)) (ag ⟨rfl,rfl,rfl⟩) W J rb rc i.l u i.BL i.k1 i.k0 (ab (ab (ag ⟨by omega,rfl,fh y1,rfl⟩)))
 by_cases y2:((s.M x.1).length:Int)<=y.2
 .refine G 3 (by omega) (λe=>by have:=e.2.2.2.2;omega) Z ?_;exact wT (vo:=(0,0)) (ag ⟨rfl,rfl,rfl⟩) W J rb rc i.l u i.BL i.k1 i.k0 (ab (ab (ab ⟨by omega,rfl,fi y1,fh y2,rfl⟩)))
 rcases hi with⟨_,rfl,rfl⟩|⟨h',_⟩
 .have a1:y.2=((y.2.toNat:Nat):Int):=by omega
  rw[a1]at rc;have a0:y.2.toNat<(s.M x.1).length:=by omega
  refine(GP ha W J (hQ.rc ha) rb rc i.l u i.BL i.k1 i.k0 (by omega) a0 i.l8 (i.sl _ a0)).mono ?_;rintro e w' ⟨rfl,hg⟩;exact⟨0,rfl,hQ.goes h hS hR a (tn (B.oH.vi gb Y) _) hg⟩
 exact ch ⟨Y,hk,o,by omega,by omega⟩ h'
theorem Jv(W:a<nr)(Y:b<nr)(hc:c<nr)(hi:jD p s t (11,a,b,c) why s'):Calls prog 214 #[P0 g.mb,.slice (some ⟨g.rb t n,0,none⟩) nr nr,jY 11 a b c] w λe w'=>∃v:Int,e=.returned (.int .i64 v)/\jW p d K s t m g w why s' v w':=by
 have hi:(Eb s ((bw s t).R a) ((bw s t).R b)/\why=0/\s'=s.sK ((bw s t).R a).1 ((bw s t).R b).2.toNat ((bw s t).R c))\/(¬Eb s ((bw s t).R a) ((bw s t).R b)/\why=(mI s ((bw s t).R a) ((bw s t).R b):Nat)/\s'=s):=hi;have gb:=hR.oq (by rw[hQ.r2];exact W);have gc:dN p s ((bw s t).R b):=hR.oq (by rw[hQ.r2];exact Y);have gv:dN p s ((bw s t).R c):=hR.oq (by rw[hQ.r2];exact hc);have rb:=hQ.rc W;have rc:=hQ.rc Y;have rv:=hQ.rc hc;generalize hx:(bw s t).R a=x at *;generalize hy:(bw s t).R b=y at *;generalize hv:(bw s t).R c=v at *;have J:∀k:Nat,0<k->¬Eb s x y->mI s x y=k->Calls prog 214 #[P0 g.mb,.slice (some ⟨g.rb t n,0,none⟩) nr nr,jY 11 a b c] w (λe w'=>e=.returned (.int .i64 k)/\w.grownBy w' none)->Calls prog 214 #[P0 g.mb,.slice (some ⟨g.rb t n,0,none⟩) nr nr,jY 11 a b c] w λe w'=>∃v:Int,e=.returned (.int .i64 v)/\jW p d K s t m g w why s' v w':=λk hk hn he H=>by
  rcases hi with⟨h',_⟩|⟨_,rfl,rfl⟩
  .exact ch h' hn
  refine H.mono ?_;rintro e w' ⟨rfl,hg⟩;rw[he];exact⟨_,rfl,jW.fail h hg hS (by omega)⟩
 by_cases Z:x.1=0
 .refine J 2 (by omega) (λe=>e.1 Z) (by unfold mI;rw[aj (ag Z)]) ?_;rw[om Z,show x=(0,x.2) from fV Z rfl]at rb;exact IY W Y hc rb rc rv
 obtain⟨z,cb,o⟩:=hS.LY h hR.ok gb Z;have G:m.nc<1000000000:=by have:=hS.B.1;omega
 rw[o.ev]at rb;by_cases hk:s.ck x.1=0
 case neg=>
  refine J 2 (by omega) (λe=>hk e.2.1) (by unfold mI;rw[aj (ab hk)]) ?_;exact wT (ab ⟨rfl,rfl,rfl,by omega,rv⟩) W Y rb rc o.l G o.BL o.k1 o.k0 (ag ⟨by omega,rfl⟩)
 have hw:¬(x.1=0\/s.ck x.1≠0):=λe=>e.elim Z (λe=>e hk);by_cases u:y.1=0
 case neg=>
  refine J 1 (by omega) (λe=>u e.2.2.1) (by unfold mI;rw[aa hw,aj u]) ?_;exact wT (ab ⟨rfl,rfl,rfl,by omega,rv⟩) W Y rb rc o.l G o.BL o.k1 o.k0 (ab (ag ⟨by omega,Int.natCast_pos.2 (Nat.pos_of_ne_zero λe=>u ((wH hR.ok hS gc).1.1 e)),rfl⟩))
 rw[om u,show y=(0,y.2) from fV u rfl]at rc;have a1:mI s x y=3:=by unfold mI;rw[aa hw,aa (λe=>e u)]
 by_cases y1:y.2<0
 .refine J 3 (by omega) (λe=>by have:=e.2.2.2.1;omega) a1 ?_;exact wT (ab ⟨rfl,rfl,rfl,by omega,rv⟩) W Y rb rc o.l G o.BL o.k1 o.k0 (ab (ab (ag ⟨by omega,rfl,fh y1,rfl⟩)))
 by_cases y2:((s.M x.1).length:Int)<=y.2
 .refine J 3 (by omega) (λe=>by have:=e.2.2.2.2;omega) a1 ?_;exact wT (ab ⟨rfl,rfl,rfl,by omega,rv⟩) W Y rb rc o.l G o.BL o.k1 o.k0 (ab (ab (ab ⟨by omega,rfl,fi y1,fh y2,rfl⟩)))
 rcases hi with⟨_,rfl,rfl⟩|⟨h',_⟩
 .have a2:y.2=((y.2.toNat:Nat):Int):=by omega
  rw[a2]at rc;have a0:y.2.toNat<(s.M x.1).length:=by omega
  refine(GO W Y hc rb rc rv o.l G o.BL o.k1 o.k0 (by omega) a0 o.l8 (o.sl _ a0)).mono ?_;rintro e w' ⟨rfl,hg⟩;have h2:=hS.sK (a:=x.1) (i:=y.2.toNat) (v:=v) (B.oH.vi gb Z) gv;rw[o.e]at h2;exact⟨0,rfl,jW.go ((h.Kx (c:=z+1) (i:=y.2.toNat) (by omega) (by have:=o.l;omega) (by rw[o.lm];exact a0) (tr ρ v)).kept hg) h2 hR.run⟩
 exact ch ⟨Z,hk,u,by omega,by omega⟩ h'
theorem Ll(Y:a<nr)(J:b<nr)(y:c<nr)(u:b<256)(i:c<256)(hi:jD p s t (10,a,b,c) why s'):Calls prog 194 #[P0 g.mb,.int .i64 t,.slice (some ⟨g.rb t n,0,none⟩) nr nr,jY 10 a b c] w λe w'=>∃v:Int,e=.returned (.int .i64 v)/\jW p d K s t m g w why s' v w':=
 zr (by omega) u i (λw1 o=>(Jw (h.kept o) hS hR (hQ.kept h o) hK Y J y hi).mono (λe w' H=>by
  obtain⟨v,W,G⟩:=H;exact⟨v,W,G.ahead o⟩))
theorem Lk(Y:a<nr)(J:b<nr)(y:c<nr)(u:b<256)(i:c<256)(hi:jD p s t (11,a,b,c) why s'):Calls prog 194 #[P0 g.mb,.int .i64 t,.slice (some ⟨g.rb t n,0,none⟩) nr nr,jY 11 a b c] w λe w'=>∃v:Int,e=.returned (.int .i64 v)/\jW p d K s t m g w why s' v w':=
 zr (by omega) u i (λw1 o=>(Jv (h.kept o) hS hR (hQ.kept h o) hK Y J y hi).mono (λe w' H=>by
  obtain⟨v,W,G⟩:=H;exact⟨v,W,G.ahead o⟩))
end
end D
namespace D
open F
variable {w : World}
theorem He(t k:Int)(y:0<=t)(o:t<=9223372036854775807)(k0:-9223372036854775808<=k)(k1:k<=9223372036854775807):Calls prog 141 #[.int .i64 t,.int .i64 k] w λe w'=>e=.returned (.int .i64 (B.iz t k))/\w'=w:=by
 by_cases i:k<0
 .have e:B.iz t k=t:=by unfold B.iz;split<;>(try split)<;>omega
  rw[e];go_in;go_wp2_with fail
  go_ret;exact⟨rfl,rfl⟩
 by_cases u:t+k > 9223372036854775807
 .have e:B.iz t k=9223372036854775807:=by unfold B.iz;split<;>(try split)<;>omega
  have hw:wrap64 (t+k)=t+k-18446744073709551616:=by unfold wrap64;omega
  have hn:t+k-18446744073709551616<0:=by omega
  rw[e];go_in;go_wp2_with fail
  go_ret;exact⟨rfl,rfl⟩
 have e:B.iz t k=t+k:=by unfold B.iz;split<;>(try split)<;>omega
 have hw:IntKind.i64.wrap (t+k)=t+k:=by simp[IntKind.wrap,IntKind.bits,IntKind.signed];omega
 have hn:¬(t+k<0):=by omega
 rw[e];go_in;go_wp2_with fail
 go_ret;exact⟨rfl,rfl⟩
end D
namespace F
def iP(v:B.V):Prop:=-9223372036854775808<=v.2/\v.2<=9223372036854775807
structure Ng(s:Pl):Prop where
 F:∀t f,f∈(s.T t).fr->∀a,iP (f.R a)
 M:∀c v,v∈s.M c->iP v
 O:∀v,v∈s.out->iP v
variable {p : dz} {s s' : Pl} {t : Nat}
theorem iP.n{x:Int}(e:-9223372036854775808<=x)(i:x<=9223372036854775807):iP (0,x):=⟨e,i⟩
theorem iP.z:iP (0,0):=⟨by decide,by decide⟩
theorem iP.getD{l:List B.V}(h:∀v,v∈l->iP v)(i:Nat):iP (l.getD i (0,0)):=by
 rw[ar];by_cases e:i<l.length
 .rw[bn e];exact h _ (List.getElem_mem e)
 rw[cw (by omega)];exact iP.z
theorem iP.wrap(x:Int):iP (0,B.wrap x):=by
 unfold B.wrap;exact iP.n (by omega) (by omega)
theorem iP.arith(o:Nat)(x y:Int):iP (0,arith o x y):=by
 unfold F.arith;split
 .exact iP.wrap _
 split
 .exact iP.wrap _
 split
 .exact iP.wrap _
 unfold pF;split
 .exact iP.n (by omega) (by omega)
 exact iP.z
theorem iP.wide{b c:Nat}(e:b<256)(i:c<256):iP (0,B.wide b c):=by
 unfold B.wide;split<;>exact iP.n (by omega) (by omega)
theorem Ng.at(h:Ng s)(t i a:Nat):iP ((de s t i).R a):=by
 unfold de;rw[ar];by_cases e:i<(s.T t).fr.length
 .rw[bn e];exact h.F t _ (List.getElem_mem e) a
 rw[cw (by omega)];exact iP.z
theorem Ng.slot(h:Ng s)(c i:Nat):iP ((s.M c).getD i (0,0)):=iP.getD (h.M c) i
theorem Ng.same(h:Ng s)(e:∀t,(s'.T t).fr=(s.T t).fr:=by intro t;rfl)(o:s'.M=s.M:=by rfl)(u:s'.out=s.out:=by rfl):Ng s':=
 ⟨λt f i=>h.F t f (by rw[<-e];exact i),by rw[o];exact h.M,by rw[u];exact h.O⟩
theorem Ng.dv(h:Ng s){x:oT}(hx:∀f,f∈x.fr->∀a,iP (f.R a)):Ng (s.dv t x):=
 ⟨λu f i=>by
  by_cases e:u=t
  .subst e;rw[df]at i;exact hx f i
  have:(s.dv t x).T u=s.T u:=aa e;rw[this]at i;exact h.F u f i,h.M,h.O⟩
theorem Ng.dx(h:Ng s)(i:Nat){f:gY}(G:∀a,iP (f.R a)):Ng (s.dx t i f):=
 h.dv (λy u=>by
  rcases List.mem_or_eq_of_mem_set u with e|e
  .exact h.F t y e
  rw[e];exact G)
theorem Ng.set{f:gY}(i:∀a,iP (f.R a))(a:Nat){v:B.V}(e:iP v)(b:Nat):iP ((f.set a v).R b):=by
 show iP (B.set f.R a v b);unfold B.set;split
 .exact e
 exact i b
theorem Ng.oD(h:Ng s)(i a:Nat){v:B.V}(e:iP v):Ng (s.dx t i ((de s t i).set a v)):=h.dx i (Ng.set (λb=>h.at t i b) a e)
theorem Ng.join(h:Ng s)(x y t:Nat):Ng (s.dV x y t):=h.same (λu=>Df s x y t u) (iW s x y t).2.2.2.2.2.2.1 (iW s x y t).2.1
theorem Ng.fJ(h:Ng s)(t:Nat){v:B.V}(e:iP v):Ng (s.fJ t v):=by
 unfold Pl.fJ;split
 .exact h
 exact(h.oD _ _ e).join 2 0 t
theorem Ng.dR{v : B.V} (hv : iP v) : ∀ (l : List Nat) {s : Pl}, Ng s → Ng (s.dR v l)
  | [], _, h => h
  | u :: l, s, h => by
    show Ng ((s.fJ u v).dR v l)
    exact Ng.dR hv l (h.fJ u hv)
theorem Ng.gone(h:Ng s)(t kind:Nat)(x:Int){v:B.V}(W:iP v):Ng (s.gone t v kind x):=by
 obtain⟨_,H,_,_,_,_,G,_⟩:=gV s t v kind x;refine⟨λu f o=>?_,by rw[G];exact h.M,λy i=>?_⟩
 .refine h.F u f ?_;rw[<-ku s t u];have J:((s.gone t v kind x).T u).fr=((s.dw t).T u).fr:=by
   show(((s.dw t).dv t ((s.dw t).T t).stop).T u).fr=_;by_cases e:u=t
   .subst e;rw[df];rfl
   rw[show((s.dw t).dv t ((s.dw t).T t).stop).T u=(s.dw t).T u from aa e]
  rw[<-J];exact o
 rw[H]at i;rcases List.mem_or_eq_of_mem_set i with e|e
 .exact h.O y e
 rw[e];exact W
theorem Ng.leave(h:Ng s)(t kind:Nat)(x:Int){v:B.V}(e:iP v):Ng (s.leave t v kind x):=Ng.dR e _ (h.gone t kind x e)
theorem Ng.pop(h:Ng s)(t:Nat):Ng (s.pop t):=h.dv (λf e=>h.F t f (List.dropLast_subset _ e))
theorem Ng.back(h:Ng s)(t:Nat){v:B.V}(e:iP v):Ng (s.back t v):=by
 unfold Pl.back;split
 .exact(h.pop t).leave t _ _ e
 exact(h.pop t).dx _ (Ng.set (λb=>h.at t _ b) _ e)
theorem Ng.gh{u v:B.V}(i:iP u)(e:iP v)(a:Nat):iP (gh u v a):=by
 unfold YtnjiinbhbjpfkaaGreatDoor.gh;split
 .exact i
 split
 .exact e
 exact iP.z
theorem Ng.push(h:Ng s)(t:Nat){f:gY}(y:∀a,iP (f.R a)):Ng (s.push t f):=h.dv (λu o=>by
 rcases di.1 o with e|e
 .exact h.F t u e
 rw[dL]at e;rw[e];exact y)
theorem Ng.more(h:Ng s):Ng s.more:=by
 refine⟨λt f u=>?_,h.M,λv y=>?_⟩
 .have i:f∈(if t=s.nt+1 then qR else s.T t).fr:=u;by_cases e:t=s.nt+1
  .rw[aj e]at i
   cases i
  rw[aa e]at i;exact h.F t f i
 rcases di.1 y with e|e
 .exact h.O v e
 rw[dL]at e;rw[e];exact iP.z
theorem Ng.born(h:Ng s)(f:Nat){u v:B.V}(i:iP u)(e:iP v):Ng (s.born f u v):=(h.more.push _ (λa=>Ng.gh i e a)).join 2 0 _
theorem Ng.lay{M:Nat->List B.V}(h:∀c v,v∈M c->iP v)(a:Nat){l:List B.V}(o:∀v,v∈l->iP v):∀c v,v∈B.lay M a l c->iP v:=λc v i=>by
 unfold B.lay at i;by_cases e:c=a
 .rw[aj e]at i;exact o v i
 rw[aa e]at i;exact h c v i
theorem Ng.made(h:Ng s){t a ty:Nat}{l:List B.V}(y:∀v,v∈l->iP v)(u:kL p s t a ty l s'):Ng s':=by
 rcases u with⟨c,e,_,_,_,_,_,rfl⟩|⟨_,e,_,rfl⟩
 .have i:Ng (s.na e c ty l):=⟨h.F,Ng.lay h.M c y,h.O⟩;exact i.dx _ (Ng.set (λb=>h.at t _ b) a iP.z)
 have i:Ng (s.dv t (s.T t).stop):=h.dv (λf o=>h.F t f o);exact i.same
theorem Ng.two(h:Ng s){o a b c:Nat}{why:Int}(e:wE s t o a b c why s'):Ng s':=by
 rcases e with⟨_,_,rfl⟩|⟨_,_,rfl⟩
 .exact h.oD _ a (iP.arith _ _ _)
 exact h
theorem Fk(h:Ng s)(x:B.V):iP (iy s x).2.1:=by
 unfold iy;split
 .exact iP.z
 exact h.slot _ _
theorem Ng.inst(h:Ng s){k:F.yi}{why:Int}(hR:Rn p s t)(hn:s.nt+1<=500000000)(Z:IA p (bw s t).f k)(hi:jD p s t k why s'):Ng s':=by
 obtain⟨i,a,b,c⟩:=k;obtain⟨k1,k2,G,y,_,_,_,_,_,_,H,W,n3,n4,J⟩:=Z;simp only at k1 k2 G y H W n3 n4 J;have o:∀a,iP ((bw s t).R a):=λa=>h.at t _ a;have Y:i=0\/i=1\/i=2\/i=3\/i=4\/i=5\/i=6\/i=7\/i=8\/i=9\/i=10\/i=11\/i=12\/i=13\/i=14\/i=16\/i=20\/i=22:=by omega
 rcases Y with rfl|rfl|rfl|rfl|rfl|rfl|rfl|rfl|rfl|rfl|rfl|rfl|rfl|rfl|rfl|rfl|rfl|rfl
 .rw[hi.2];exact h.oD _ _ (iP.wide G y)
 .rw[hi.2];exact h.oD _ _ (o _)
 .exact h.two hi
 .exact h.two hi
 .exact h.two hi
 .exact h.two hi
 .rw[hi.2];refine h.oD _ _ ?_;split
  .exact iP.n (by omega) (by omega)
  exact iP.z
 .rw[hi.2];exact h.dx _ o
 .rw[hi.2];exact h.dx _ o
 .exact h.made (λv u=>by rw[(List.mem_replicate.1 u).2];exact iP.z) hi.2
 .rcases hi with⟨_,_,e⟩|⟨_,_,e⟩
  .rw[e];exact h.oD _ _ (h.slot _ _)
  rw[e];exact h
 .rcases hi with⟨_,_,e⟩|⟨_,_,e⟩
  .rw[e];exact⟨h.F,Ng.lay h.M _ (λv u=>by
    rcases List.mem_or_eq_of_mem_set u with e|e
    .exact h.M _ v e
    rw[e];exact o _),h.O⟩
  rw[e];exact h
 .exact h.made (λv u=>by rw[dL.1 u];exact o _) hi.2
 .rw[hi.2];unfold kP;split
  .exact h.push _ (λa=>Ng.gh (o _) (Fk h _) a)
  exact h
 .rw[hi.2];exact h.back _ (o _)
 .rw[hi.2];exact h.join _ _ _
 .rw[hi.2];unfold iY;split
  .exact h.same
  exact h
 rw[hi.2];exact h.oD _ _ (iP.n (by have:=hR.ok.c0;omega) (by have:=hR.ok.c1;omega))
theorem Ng.start(h:Ng s)(t:Nat):Ng (s.start t):=by
 have e:=h.same (λv=>ku _ t v) (gz _ t).2.2.2.2.2.2.2.2.1 (gz _ t).2.1;exact e.dv (λf i=>e.F t f i)
theorem Ng.ends(p : dz) (t : Nat) : ∀ (n : Nat) {s : Pl}, Ng s → Ng (s.ends p t n)
  | 0, _, h => h
  | n + 1, s, h => by
    unfold Pl.ends
    split
    · exact Ng.ends p t n (h.back t iP.z)
    · exact h
theorem Ng.fD(h:Ng s)(t:Nat):Ng (s.fD t):=h.dx _ (λa=>h.at t _ a)
theorem Ng.gr : ∀ (l : List Nat) {s : Pl}, Ng s → Ng (s.gr l)
  | [], _, h => h
  | t :: l, s, h => by
    unfold Pl.gr
    split
    · exact Ng.gr l (h.join 2 0 t)
    · exact h
theorem Ng.eN : ∀ (l : List (Int × Nat)) {s : Pl}, (∀ x, x ∈ l → x.2 < 256) → Ng s → Ng (s.eN l)
  | [], _, _, h => h
  | x :: l, s, hl, h => by
    show Ng ((s.recv x).eN l)
    refine Ng.eN l (fun y hy => hl y (by simp [hy])) ?_
    unfold Pl.recv
    split
    · unfold Pl.wW
      split
      · exact h.fJ _ (iP.n (by omega) (by have := hl x (by simp); omega))
      · split
        · exact h.same
        · exact h
    · exact h
end F
namespace D
open F
variable {p : dz} {d : Dp} {K : Nat} {s s' : Pl} {m m' : Dm} {g g' : Dg} {w w' : World} {ρ ρ' : Nat → Nat} {t tb fb n nr a b c : Nat} {why : Int}
theorem Gq{rr:Nat}(h:dQ d m g w)(hq:m.q.length<=1000000000)(hb:b<256)(hc:c<256): Calls prog 194 #[P0 g.mb,.int .i64 (t:Int),.slice (some ⟨rr,0,none⟩) nr nr,jY 16 a b c] w λe w'=>e=.returned (.int .i64 (-1))/\∃g',Tr d m g w (m.qv t) g' w':=by
 obtain⟨i0,hi,a2,Y,W⟩:=info_parts Tryz.qk;have q1:IntKind.i64.wrap (256*(b:Int))=256*(b:Int):=by rw[bl,bd _ (by omega)]
 have q2:IntKind.i64.wrap (256*(b:Int)+(c:Int))=256*(b:Int)+(c:Int):=by rw[bl,bd _ (by omega)]
 obtain⟨c7,z7⟩:=h.mc 7 (by omega) (v:=.slice (g.ro 2 0).1 m.q.length (g.ro 2 0).2) rfl;have le:=h.M.lt;have a3:g.mb<w.heap.size+1:=by omega
 have a4:g.mb<w.heap.size+1+1:=by omega
 have HR:=az h;have HQ:Hid (fM w 3 (.slice (g.ro 2 0).1 m.q.length (g.ro 2 0).2) (iI m.q)):=h.Q;have HK:Hid (∀j,(Value.slice (g.ro 2 0).1 m.q.length (g.ro 2 0).2).ownBlock=some j->j≠g.mb/\j<w.heap.size):=λj G=>by
  have J:eO (g.ro 2 0).1=some j:=by rw[<-dr (g.ro 2 0).1 m.q.length (g.ro 2 0).2];exact G
  exact⟨h.ne (x:=2) (y:=0) (z:=0) (x':=0) (y':=0) (z':=0) (m6 (by omega)) rfl J rfl (by omega),HQ.out.lt j G⟩
 have hl:(iI m.q).length=m.q.length:=iH _;have H:=az hl;clear h hl;go_in;go_wp2_with (at_builtin;refine gZ _ rfl (.tmp 138) (.tmp 140) 54 rfl 3 i0 _ 8 Tryz.g9 hi a2 Y W rfl _ (iI m.q) rfl (HQ.out.block ?cq) _ _ (.int .i64 (t:Int)) rfl ?c1 rfl ?c3 ?c4 ?_)
 case cq=>
  intro j G;obtain⟨k1,k2⟩:=HK.out j G;rw[ak _ _ _ (by simp;omega),ak _ _ _ k2]
 try case c1=>simp[go_sem]
 try case c3=>rw[H.out];unfold maxLen;omega
 try case c4=>rw[H.out];omega
 intro qb off cap u i hg o;rw[H.out]at i;have a0:=az i;have Z:=az hg;have a1:=az o;have b0:u.heap[g.mb]? = w.heap[g.mb]?:=by rw[hg.block g.mb (by simp;omega) (λh=>(HK.out g.mb h.symm).1 rfl),ak _ _ _ (by simp;omega),ak _ _ _ le]
 have d7:=(aw (a:=⟨g.mb,7,none⟩) b0).trans c7;have e7:=(dg (a:=⟨g.mb,7,none⟩) b0).trans z7;go_wp2_with fail
 go_ret;refine⟨rfl,g.at 2 0 (some ⟨qb,off,none⟩,cap),?_⟩;have h0:=(Tr.refl HR.out).kept (au (au (ax w none) (.cells #[.int .i64 ((16:Nat):Int),.int .i64 (a:Int),.int .i64 (b:Int),.int .i64 (c:Int)] 90)) (.cells #[.int .i64 (t:Int)] 3));have h1:=Tr.qv (t:=t) (b:=qb) (off:=off) (c:=cap) h0 a0.out Z.out (a1.out.imp id (λe=>by rw[e];simp));first
  | exact h1
  | (rw[H.out];exact h1)
theorem Lh(h:dQ d m g w)(hS:eK p K s m ρ)(hR:Rn p s t){o:Nat}(H:b<256)(y:c<256):Calls prog 194 #[P0 g.mb,.int .i64 (t:Int),.slice (some ⟨o,0,none⟩) nr nr,jY 16 a b c] w λe w'=>∃v:Int,e=.returned (.int .i64 v)/\jW p d K s t m g w 0 (s.dV 2 0 t) v w':=by
 refine(Gq h (hS.small hR.ok).2 H y).mono ?_;rintro e w' ⟨rfl,g',G⟩;have i:=hS.join (x:=m.T t) hR.ok hR.lv (by rw[hR.wh];intro e;cases e) ⟨rfl,rfl,rfl,(hS.T t hR.lv).h.h0 hR.wh⟩;have e:m.dv t (m.T t)=m:=by
  unfold Dm.dv;have:(λu=>if u=t then m.T t else m.T u)=m.T:=by
   fB u
   by_cases e:u=t
   .rw[aj e,e]
   rw[aa e]
  rw[this]
 rw[e]at i;refine⟨-1,rfl,jW.stop G (i.mono (by omega)) ?_⟩;rw[nO];rfl
end D
namespace D
open F
variable {p : dz} {d : Dp} {K : Nat} {s : Pl} {m m' : Dm} {g g' : Dg} {w w' : World} {ρ : Nat → Nat}
theorem Tryz.Ac:(prog.info? 233).map (λi=>(i.zero,i.size,i.bytes))=some (some (.agg #[.slice none 0 0,.int .i64 0]),2,32):=by kernel_rfl
theorem Tryz.underlying108:prog.underlying 108=some (.slice 233):=by kernel_rfl
def Au(d:Dp)(m:Dm)(ok:Bool):Prop:=((fy d m).fu=false/\ok=decide (0<d.n))\/∃N:Nat,kg d m N/\ok=decide (N<d.n)
def BI(d:Dp)(m:Dm)(g:Dg)(w:World)(t n a ty:Nat)(l:List B.V)(v:Int)(w':World):Prop:=
 (Au d m false/\v=-2/\Tr d m g w (m.gT (fy d m)) g w')\/(Au d m true/\v=0/\∃g',Tr d m g w (((m.gT (fy d m)).cell ty l).dx t n ((fj m t n).set a (m.nc+1,0))) g' w')
theorem uq(d:Dp)(m:Dm):(fy d m).all=m.G.all:=by unfold fy;split<;>rfl
theorem sD(d:Dp)(m:Dm):(fy d m).sure=m.G.sure:=by unfold fy;split<;>rfl
theorem sE(d:Dp)(m:Dm):(fy d m).lO=m.G.lO:=by unfold fy;split<;>rfl
theorem DP{m1:Dm}{Z W w6:World}{G cb cc ty:Nat}{l:List B.V}(h5:Tr d m g w m1 g Z)(J:Z.grownBy W none)(hS:Full Z G 115 (l.length*2) (l.length*2) (eC (kT l)))(hn:¬ey d m1 g G)(hs:w.heap.size<=G)(ho:w6.ownsRow 0 233 2 (.slice (some ⟨cb,0,none⟩) (m1.nc+1) cc) (m1.nc+1) (rowP (m1.nc*2) (cE m1 g)++[.slice (some ⟨G,0,none⟩) l.length l.length,iK ((ty:Int)-1)]))(u:W.grownBy w6 (Value.slice (g.ro 3 0).1 m1.nc (g.ro 3 0).2).ownBlock)(a6:jE W.heap.size (.slice (g.ro 3 0).1 m1.nc (g.ro 3 0).2) (.slice (some ⟨cb,0,none⟩) (m1.nc+1) cc)): Tr d m g w (m1.lN ty l) ((g.at 3 0 (some ⟨cb,0,none⟩,cc)).slt (m1.nc+1) G) (w6.setCell ⟨g.mb,12,none⟩ (.slice (some ⟨cb,0,none⟩) (m1.nc+1) cc)):=by
 have hr:=h5.r;have a1:(Value.slice (g.ro 3 0).1 m1.nc (g.ro 3 0).2).ownBlock=eO (g.ro 3 0).1:=dr _ _ _;rw[a1]at u;have a0:∀k,eO (g.ro 3 0).1=some k->k≠g.mb:=λk H=>hr.ne (x:=3) (y:=0) (z:=0) (x':=0) (y':=0) (z':=0) (m6 (by omega)) rfl H rfl (by omega);have i:Z.grownBy w6 (eO (g.ro 3 0).1):=⟨u.os.trans J.os,u.tape.trans J.tape,u.output.trans J.output,dH J.size u.size,λk H hn=>(u.block k (dm H J.size) hn).trans (J.block k H (by intro e;cases e))⟩;have Y:eO (g.ro 3 0).1=some cb\/(Z.heap.size<=cb):=by
  rcases a6 with e|⟨b',e,h2⟩
  .left
   rw[<-a1,<-e];rfl
  right
  have:cb=b':=by injection e
  have:=J.size;omega
 have a7:cb≠g.mb:=by
  rcases Y with e|e
  .exact a0 cb e
  have:=hr.M.lt;omega
 have a4:G<Z.heap.size:=hS.lt;have a2:cb≠G:=by
  rcases Y with e|e
  .exact λe'=>hn ⟨3,0,0,by rw[fP (m6 (by omega)),<-e'];exact e⟩
  omega
 refine Tr.lN h5 (bm (S:=λk=>k=g.mb\/eO (g.ro 3 0).1=some k) (a:=⟨g.mb,12,none⟩) ⟨i.os,i.tape,i.output,i.size,λk H hn=>i.block k H (λe=>hn (ab e.symm))⟩ (ag (ag rfl)) _) ((hr.M.block (i.block g.mb hr.M.lt (λe=>a0 g.mb e.symm rfl))).ep 12 _) ?_ ?_ (Y.imp id (λe=>⟨hr.fresh e,by omega⟩)) ⟨hn,hs⟩ a2
 .exact dD ho (λk H=>af _ _ _ _ (by
   have:k=cb:=by simpa[Value.ownBlock] using H.symm
   rw[this];exact a7))
 refine(hS.block (i.block G a4 (λe=>hn ⟨3,0,0,by rw[fP (m6 (by omega))];exact e.symm⟩))).block (af _ _ _ _ (λe=>hn ⟨0,0,0,by rw[fP (m6 (by omega))];exact e⟩))
theorem JR{t n nr a b c:Nat}(hb:b<=8)(h:dQ d m g w)(hC:BK d m)(ht:mF m t)(hi:n<(m.T t).fr.length)(hr:d.rg (fj m t n).f=nr)(ha:a<nr)(hA:m.G.all<1000000000/\m.G.sure<1000000000/\m.G.lO<1000000000): Calls prog 214 #[P0 g.mb,.slice (some ⟨g.rb t n,0,none⟩) nr nr,jY 9 a b c] w λe w'=>∃v:Int,e=.returned (.int .i64 v)/\BI d m g w t n a 0 (List.replicate b (0,0)) v w':=by
 obtain⟨i0,aU,aV,aQ,aX⟩:=info_parts Tryz.Ac;obtain⟨i5,b4,b5,b2,aW⟩:=info_parts Tryz.rH;have HH:=az h;have HR:Hid (∀w1,w.grownBy w1 none->Calls prog 225 #[P0 g.mb] w1 λe w'=>∃ok:Bool,e=.returned (.bool ok)/\Tr d m g w1 (m.gT (fy d m)) g w'/\Au d m ok):=λw1 hg=>(FU (h.kept hg) hC).mono (λe w' hh=>by
  obtain⟨ok,e1,e2,e3⟩:=hh;exact⟨ok,e1,e2,e3⟩)
 have aT:=az hC.n2;have HT:=az (ay ht (ay hi hr));have HA:=az hA;have bF:g.mb<w.heap.size:=h.M.lt;obtain⟨l,hl⟩:∃l:List B.V,l=List.replicate b (0,0):=⟨_,rfl⟩;rw[<-hl];have a6:l.length=b:=by rw[hl,ik]
 have b6:Hid (∀j,eC (λ_=>(0,0)) j=eC (kT l) j):=λj=>by
  have:kT l=λ_=>(0,0):=by
   fB i
   unfold kT;rw[hl,ar,List.getElem?_replicate];split<;>rfl
  rw[this]
 clear h hC ht hi hr hA hl;go_in;go_wp2_with (at_make;go_loud (refine wpList_make_full _ rfl _ _ 161 rfl 0 115 i5 _ 2 Tryz.underlying161 b4 b5 b2 _ _ _ _ b rfl rfl rfl rfl (by rw[aW];omega) (by unfold maxLen;omega) (dc _) ?_))
 intro Z a3 a1;have hz:=a1.size;simp at hz;have a9:=ta a3;have x0:Z.heap[w.heap.size]? = some (.cells #[.int .i64 ((9:Nat):Int),.int .i64 (a:Int),.int .i64 (b:Int),.int .i64 (c:Int)] 90 (0,0)):=cm a1 (bf _ _) (by intro e;cases e);have a0:Z.cell? ⟨w.heap.size,0,none⟩=some (.int .i64 ((9:Nat):Int)):=by simp[World.cell?,x0]
 have aE:w.heap.size<Z.heap.size:=by omega
 have lX:w.heap.size+1<=Z.heap.size:=by omega
 have KW:Hid ((w.alloc (.cells #[.int .i64 ((9:Nat):Int),.int .i64 (a:Int),.int .i64 (b:Int),.int .i64 (c:Int)] 90)).grownBy (Z.alloc (.cells #[.slice (some ⟨w.heap.size+1,0,none⟩) b b,.int .i64 (-1)] 233)) none):=au a1 _;have XW:Hid ((Z.alloc (.cells #[.slice (some ⟨w.heap.size+1,0,none⟩) b b,.int .i64 (-1)] 233)).heap[w.heap.size]? = some (.cells #[.int .i64 ((9:Nat):Int),.int .i64 (a:Int),.int .i64 (b:Int),.int .i64 (c:Int)] 90 (0,0))):=(ak _ _ _ aE).trans x0;have YW:Hid ((Z.alloc (.cells #[.slice (some ⟨w.heap.size+1,0,none⟩) b b,.int .i64 (-1)] 233)).heap[Z.heap.size]? = some (.cells #[.slice (some ⟨w.heap.size+1,0,none⟩) b b,.int .i64 (-1)] 233 (0,0))):=bf _ _;have SW:Hid (Full (Z.alloc (.cells #[.slice (some ⟨w.heap.size+1,0,none⟩) b b,.int .i64 (-1)] 233)) (w.heap.size+1) 115 (l.length*2) (l.length*2) (eC (kT l))):=by
  have h1:=(a9.block (ak Z (.cells #[.slice (some ⟨w.heap.size+1,0,none⟩) b b,.int .i64 (-1)] 233) _ a9.lt)).congr (λj _=>b6.out j);show Full _ _ _ (l.length*2) (l.length*2) _;rw[a6];exact h1
 clear a3 a1 a9 x0;go_wp2_with fail
 clear a0;generalize (Z.alloc (.cells #[.slice (some ⟨w.heap.size+1,0,none⟩) b b,.int .i64 (-1)] 233))=W at *;have a7:Z.heap.size≠w.heap.size+1:=by
  intro e;have h1:=SW.out;obtain⟨bA,h2,_⟩:=h1;rw[<-e,YW.out]at h2;injection h2 with h2;injection h2 with _ h2 _;exact ch h2 (by decide)
 obtain⟨X,hX⟩:∃X,X=Z.heap.size:=⟨_,rfl⟩;rw[<-hX]at lX YW a7 ⊢;obtain⟨sN,aD⟩:∃x,x=w.heap.size+1:=⟨_,rfl⟩;have b9:w.heap.size+1<=sN:=by omega
 rw[<-aD]at YW SW a7;clear hX aD aE hz;clear Z;refine(HR.out W (an (au (ax _ _) _) KW.out)).mono ?_;rintro e J ⟨ok,rfl,h5,aK⟩;have hW:=KW.out.size;simp at hW;have kU:∀j,w.heap.size<=j->j<W.heap.size->J.heap[j]? = W.heap[j]?:=λj h1 h2=>h5.o.same h2 (HH.out.fresh h1);have X5:=az ((kU _ (bj _) (by omega)).trans XW.out);have Y5:=az ((kU X (by omega) (bz YW.out)).trans YW.out);have S5:=az (SW.out.block (kU sN (by omega) SW.out.lt));have T5:=az (h5.ahead KW.out);have N5:Hid (¬ey d (m.gT (fy d m)) g sN):=λhm=>by
  rcases h5.m sN hm with h1|h1
  .exact HH.out.fresh (by omega) h1
  have:=SW.out.lt;omega
 have aI:=az aK;clear aK h5 kU XW YW SW KW HR
 cases ok with
 | false=>
  go_wp2_with fail
  go_ret;exact⟨-2,rfl,ag ⟨aI.out,rfl,T5.out.ahead (au (ax _ _) _)⟩⟩
 | true=>
  obtain⟨aB,aN⟩:=T5.out.r.mc 12 (by omega) (v:=.slice (g.ro 3 0).1 m.nc (g.ro 3 0).2) rfl;have aG:Hid (J.ownsRow 0 233 2 (.slice (g.ro 3 0).1 m.nc (g.ro 3 0).2) m.nc (rowP (m.nc*2) (cE (m.gT (fy d m)) g))):=T5.out.r.Cw;have b0:J.cell? ⟨X,0,none⟩=some (.slice (some ⟨sN,0,none⟩) b b):=by simp[World.cell?,Y5.out]
  have b1:J.cell? ⟨X,1,none⟩=some (.int .i64 (-1)):=by simp[World.cell?,Y5.out]
  have l5:g.mb<J.heap.size:=av J _ aB;have aY:X<J.heap.size:=av J _ b0;have aP:w.heap.size<J.heap.size:=bz X5.out;have a5:Hid (∀j,(Value.slice (g.ro 3 0).1 m.nc (g.ro 3 0).2).ownBlock=some j->j<J.heap.size/\j≠g.mb/\j≠X/\j≠w.heap.size):=λj Y=>by
   have aH:eO (g.ro 3 0).1=some j:=by rw[<-dr (g.ro 3 0).1 m.nc (g.ro 3 0).2];exact Y
   have hm:ey d m g j:=⟨3,0,0,by rw[fP (m6 (by omega))];exact aH⟩;have:=HH.out.lt hm;exact⟨by omega,HH.out.ne (x:=3) (y:=0) (z:=0) (x':=0) (y':=0) (z':=0) (m6 (by omega)) rfl aH rfl (by omega),by omega,by omega⟩
  have aM:Hid (∀w':World,w'.heap[g.mb]? = J.heap[g.mb]?->w'.heap[X]? = J.heap[X]?->w'.cell? ⟨g.mb,12,none⟩=some (.slice (g.ro 3 0).1 m.nc (g.ro 3 0).2)/\w'.frozen? ⟨g.mb,12,none⟩=false/\w'.cell? ⟨X,0,none⟩=some (.slice (some ⟨sN,0,none⟩) b b)/\w'.cell? ⟨X,1,none⟩=some (.int .i64 (-1))):=λw' e1 e2=>⟨(aw (a:=⟨g.mb,12,none⟩) e1).trans aB,(dg (a:=⟨g.mb,12,none⟩) e1).trans aN,(aw (a:=⟨X,0,none⟩) e2).trans b0,(aw (a:=⟨X,1,none⟩) e2).trans b1⟩;have aA:Hid (∀(o:Obj) (j:Nat),j<J.heap.size->(J.drew.alloc o).heap[j]? = J.heap[j]?):=λo j Y=>ak J.drew o j Y;have bD:m.nc+1<=1000000000:=by have:=aT.out;omega
  clear lX hW a7;go_wp2_with fail
  go_cut [] (λwx=>Hid (∃g2,Tr d m g (w.alloc (.cells #[.int .i64 ((9:Nat):Int),.int .i64 (a:Int),.int .i64 (b:Int),.int .i64 (c:Int)] 90)) ((m.gT (fy d m)).lN 0 l) g2 wx/\g2.rb=g.rb/\wx.heap[w.heap.size]? = some (.cells #[.int .i64 ((9:Nat):Int),.int .i64 (a:Int),.int .i64 (b:Int),.int .i64 (c:Int)] 90 (0,0))))
  case first=>
   go_region_law (refine eS _ rfl (.tmp 44) (.tmp 46) 108 rfl 233 i0 _ 2 32 Tryz.underlying108 aU aV aQ aX rfl (by decide) (g.ro 3 0).1 m.nc (g.ro 3 0).2 (rowP (m.nc*2) (cE (m.gT (fy d m)) g)) (by first|rfl|simp[Act.eval,Act.put]) (dD aG.out (λj Y=>aA.out _ _ (a5.out j Y).1)) ⟨J.heap.size,0,none⟩ 1 1 [.slice (some ⟨sN,0,none⟩) b b,.int .i64 (-1)] (by first|rfl|simp[Act.eval,Act.put]) rfl (by intro j u Y;match j,Y with|0,Y=>(simp at Y;subst Y;simp[Addr.add,go_sem])|1,Y=>(simp at Y;subst Y;simp[Addr.add,go_sem])) (by simp[Value.oneCell']) (by unfold maxLen;omega) (by omega) (by decide) ?_;intro v' w6 ho a2 aF;obtain⟨cb,aR,rfl⟩:=dM ho (by omega);have aJ:=az ho;have b3:=az a2;have aS:=az aF;have KO:Hid (∀j,j<J.heap.size->(j=g.mb\/j=X\/j=w.heap.size)->w6.heap[j]? = J.heap[j]?):=(λj Y hn=>(a2.block j (by first|(simp;omega)|omega) (λh=>by have h9:=a5.out j h.symm;omega)).trans (aA.out _ _ Y));obtain⟨bC,sz,sa,sb⟩:=aM.out w6 (KO.out _ l5 (ag rfl)) (KO.out _ aY (ab (ag rfl)));clear ho a2 aF)
   all_goals
    go_wp2_with fail
    go_meet
    case rel=>
     refine⟨_,DP (l:=l) (ty:=0) (cb:=cb) (cc:=aR) T5.out (au (bq (ax J none)) (.cells #[.slice (some ⟨sN,0,none⟩) b b,.int .i64 (-1)] 233)) S5.out N5.out (by simp;omega) (by first|(rw[a6];exact aJ.out)|(rw[a6,show(((b+1:Nat):Int)-1)=(b:Int) by omega];exact aJ.out)) b3.out aS.out,rfl,?_⟩;rw[af _ _ _ _ (by show w.heap.size≠g.mb;omega),KO.out _ aP (ab (ab rfl))];exact X5.out
  case rest=>
   obtain⟨g2,h6,H,x6⟩:=hcut.out;have aO:=h6.b;have a8:=az (Gg h6.r (by show(fy d m).all<_;rw[uq];exact HA.out.1) (by show(fy d m).sure<_;rw[sD];exact HA.out.2.1) (by show(fy d m).lO<_;rw[sE];exact HA.out.2.2));rw[aO]at a8;have aL:Hid (¬ey d ((m.gT (fy d m)).lN 0 l) g2 w.heap.size):=λhm=>by
    rcases h6.m _ hm with h1|h1
    .exact HH.out.fresh (bj _) h1
    rw[World.size_alloc]at h1;omega
   have H6:=az (ay h6 (ay H x6));clear h6 H x6 hcut aB aN aG b0 b1 a5 aM aA X5 Y5 S5 T5 N5;go_wp2_with fail
   refine a8.out.mono ?_;rintro e w7 ⟨rfl,h7⟩;obtain⟨h6,H,x6⟩:=H6.out;have h8:=h6.trans h7;have hT:=HT.out;have y7:=(h7.o.same (bz x6) aL.out).trans x6;have e1:w7.cell? ⟨w.heap.size,1,none⟩=some (.int .i64 (a:Int)):=by simp[World.cell?,y7]
   obtain⟨aZ,_⟩:=h8.r.mc 12 (by omega) (v:=.slice (g2.ro 3 0).1 (m.nc+1) (g2.ro 3 0).2) rfl;rw[aO]at aZ;have hF:=h8.r.R (t:=t) (i:=n) hT.1 hT.2.1;have a4:Full w7 (g.rb t n) 115 (nr*2) (nr*2) (eC (fj m t n).R):=by
    have h9:=hF;rw[H]at h9;rw[<-hT.2.2];exact h9
   obtain⟨r0,r1,r2,r3⟩:=Iz a4 ha;have H8:=az (ay h8 H);have b8:(a:Int)<(nr:Int):=by omega
   clear h6 H x6 h8 h7 hT y7 hF a4 a8 H6 aL;generalize (g2.ro 3 0).1=ca at *;generalize (g2.ro 3 0).2=cc at *;go_wp2_with fail
   go_cut [] (λwx=>Hid ((sM w7 (g.rb t n) a (m.nc+1,0)).grownBy wx none))
   case first=>
    go_region
    all_goals
     go_wp2_with fail
     go_meet
     case rel=>first|exact(bq (ax _ _):World.grownBy _ _ _)|exact(ax _ _:World.grownBy _ _ _)
   case rest=>
    have aC:=hcut;clear hcut;go_wp2_with fail
    go_ret;obtain⟨h8,H⟩:=H8.out;have h9:=h8.r.wP (t:=t) (i:=n) HT.out.1 HT.out.2.1 a (m.nc+1,0);rw[H]at h9;exact⟨0,rfl,ab ⟨aI.out,rfl,g2,((h8.trans h9).kept aC.out).ahead (au (ax _ _) _)⟩⟩
theorem JA{t n nr a b c:Nat}{vc:B.V}(bC:c<nr)(b3:(fj m t n).R c=vc)(hb:b<256)(h:dQ d m g w)(hC:BK d m)(ht:mF m t)(hi:n<(m.T t).fr.length)(hr:d.rg (fj m t n).f=nr)(ha:a<nr)(hA:m.G.all<1000000000/\m.G.sure<1000000000/\m.G.lO<1000000000): Calls prog 214 #[P0 g.mb,.slice (some ⟨g.rb t n,0,none⟩) nr nr,jY 12 a b c] w λe w'=>∃v:Int,e=.returned (.int .i64 v)/\BI d m g w t n a (b+1) [vc] v w':=by
 obtain⟨i0,aY,b2,aU,b6⟩:=info_parts Tryz.Ac;obtain⟨i5,bE,bF,bB,b5⟩:=info_parts Tryz.rH;have HH:=az h;have HR:Hid (∀w1,w.grownBy w1 none->Calls prog 225 #[P0 g.mb] w1 λe w'=>∃ok:Bool,e=.returned (.bool ok)/\Tr d m g w1 (m.gT (fy d m)) g w'/\Au d m ok):=λw1 hg=>(FU (h.kept hg) hC).mono (λe w' hh=>by
  obtain⟨ok,e1,e2,e3⟩:=hh;exact⟨ok,e1,e2,e3⟩)
 have aX:=az hC.n2;have HT:=az (ay ht (ay hi hr));have HA:=az hA;have aD:=(h.R ht hi).lt;have bN:=h.M.lt;obtain⟨r0,r1,_,_⟩:oU w (g.rb t n) c vc:=by
  have h9:=Iz (h.R ht hi) (a:=c) (by rw[hr];exact bC);rw[b3]at h9;exact h9
 have bH:(c:Int)<nr:=by omega
 obtain⟨l,hl⟩:∃l:List B.V,l=[vc]:=⟨_,rfl⟩;rw[<-hl];have aI:l.length=1:=by rw[hl];rfl
 have HL:=az hl;clear h hC ht hi hr hA hl;go_in;go_wp2_with (at_make;go_loud (refine wpList_make_full _ rfl _ _ 161 rfl 0 115 i5 _ 2 Tryz.underlying161 bE bF bB _ _ _ _ b rfl rfl rfl rfl (by rw[b5];omega) (by unfold maxLen;omega) (dc _) ?_))
 intro w3 aG a1;have hz:=a1.size;simp at hz;have x0:w3.heap[w.heap.size]? = some (.cells #[.int .i64 ((12:Nat):Int),.int .i64 a,.int .i64 b,.int .i64 c] 90 (0,0)):=cm a1 (bf _ _) (by intro e;cases e);have aA:=an (au (ax _ _) _) a1;have a0:w3.cell? ⟨w.heap.size,0,none⟩=some (.int .i64 ((12:Nat):Int)):=by simp[World.cell?,x0]
 have a2:w3.cell? ⟨w.heap.size,2,none⟩=some (.int .i64 b):=by simp[World.cell?,x0]
 have a3:w3.cell? ⟨w.heap.size,3,none⟩=some (.int .i64 c):=by simp[World.cell?,x0]
 have v0:=(bh aA (a:=⟨g.rb t n,c*2,none⟩) aD).1.trans r0;have v1:=(bh aA (a:=⟨g.rb t n,c*2+1,none⟩) aD).1.trans r1;have aS:w.heap.size<w3.heap.size:=by omega
 have b9:g.rb t n<w3.heap.size:=by omega
 have lX:w.heap.size+1<=w3.heap.size:=by omega
 have aK:=az a1;have aH:=az x0;clear aG a1 x0 aA r0 r1;go_wp2_with fail
 go_cut [] (λwx=>∃Z:Nat,Hid (w.heap.size+1<=Z/\Z≠w3.heap.size/\(w.alloc (.cells #[.int .i64 ((12:Nat):Int),.int .i64 a,.int .i64 b,.int .i64 c] 90)).grownBy wx none/\wx.heap[w.heap.size]? = some (.cells #[.int .i64 ((12:Nat):Int),.int .i64 a,.int .i64 b,.int .i64 c] 90 (0,0))/\wx.heap[w3.heap.size]? = some (.cells #[.slice (some ⟨Z,0,none⟩) 1 1,.int .i64 b] 233 (0,0))/\wx.heap[Z]? = some (.cells #[.int .i64 vc.1,.int .i64 vc.2] 115 (0,0))))
 case first=>
  go_region
  all_goals
   go_wp2_with fail
   go_meet
   case rel=>
    refine⟨w3.heap.size+1,by omega,by omega,bq (au (au aK.out _) _),(ak _ _ _ (by simp;omega)).trans ((ak _ _ _ aS).trans aH.out),(ak _ _ _ (by simp)).trans (bf _ _),?_⟩;have h9:=bf (w3.alloc (.cells #[.slice (some ⟨w3.heap.size+1,0,none⟩) 1 1,.int .i64 b] 233)) (.cells #[.int .i64 vc.1,.int .i64 vc.2] 115);rw[World.size_alloc]at h9;exact h9
 case rest=>
  obtain⟨Z,aP⟩:=hcut;obtain⟨bI,nX,kW,xW,yW,sW⟩:=aP.out;obtain⟨W,b4⟩:∃x:World,x=wc:=⟨_,rfl⟩;subst b4;obtain⟨X,hX⟩:∃X,X=w3.heap.size:=⟨_,rfl⟩;rw[<-hX]at lX yW nX;have KW:=az kW;have XW:=az xW;have YW:=az yW;have SW:Hid (Full W Z 115 (l.length*2) (l.length*2) (eC (kT l))):=by
   show Full _ _ _ (l.length*2) (l.length*2) _;rw[HL.out];refine⟨_,sW,rfl,λj Y=>?_⟩;have a4:j=0\/j=1:=by
    have:j<1*2:=Y;omega
   rcases a4 with rfl|rfl<;>rfl
  clear aP kW xW yW sW nX a0 a2 a3 v0 v1 b9 aK aH;go_wp2_with fail
  rw[<-hX];clear hX aS hz;refine(HR.out W (an (au (ax _ _) _) KW.out)).mono ?_;rintro e J ⟨ok,rfl,h5,aM⟩;have hW:=KW.out.size;simp at hW;have kU:∀j,w.heap.size<=j->j<W.heap.size->J.heap[j]? = W.heap[j]?:=λj h1 h2=>h5.o.same h2 (HH.out.fresh h1);have X5:=az ((kU _ (bj _) (by omega)).trans XW.out);have Y5:=az ((kU X (by omega) (bz YW.out)).trans YW.out);have S5:=az (SW.out.block (kU Z (by omega) SW.out.lt));have T5:=az (h5.ahead KW.out);have N5:Hid (¬ey d (m.gT (fy d m)) g Z):=λhm=>by
   rcases h5.m Z hm with h1|h1
   .exact HH.out.fresh (by omega) h1
   have:=SW.out.lt;omega
  have aJ:=az aM;clear aM h5 kU XW YW SW KW HR
  cases ok with
  | false=>
   go_wp2_with fail
   go_ret;exact⟨-2,rfl,ag ⟨aJ.out,rfl,T5.out.ahead (au (ax _ _) _)⟩⟩
  | true=>
   obtain⟨aB,aQ⟩:=T5.out.r.mc 12 (by omega) (v:=.slice (g.ro 3 0).1 m.nc (g.ro 3 0).2) rfl;have aF:Hid (J.ownsRow 0 233 2 (.slice (g.ro 3 0).1 m.nc (g.ro 3 0).2) m.nc (rowP (m.nc*2) (cE (m.gT (fy d m)) g))):=T5.out.r.Cw;have b0:J.cell? ⟨X,0,none⟩=some (.slice (some ⟨Z,0,none⟩) 1 1):=by simp[World.cell?,Y5.out]
   have b1:J.cell? ⟨X,1,none⟩=some (.int .i64 ((b:Int))):=by simp[World.cell?,Y5.out]
   have l5:g.mb<J.heap.size:=av J _ aB;have b8:X<J.heap.size:=av J _ b0;have aT:w.heap.size<J.heap.size:=bz X5.out;have a7:Hid (∀j,(Value.slice (g.ro 3 0).1 m.nc (g.ro 3 0).2).ownBlock=some j->j<J.heap.size/\j≠g.mb/\j≠X/\j≠w.heap.size):=λj Y=>by
    have a4:eO (g.ro 3 0).1=some j:=by rw[<-dr (g.ro 3 0).1 m.nc (g.ro 3 0).2];exact Y
    have hm:ey d m g j:=⟨3,0,0,by rw[fP (m6 (by omega))];exact a4⟩;have:=HH.out.lt hm;exact⟨by omega,HH.out.ne (x:=3) (y:=0) (z:=0) (x':=0) (y':=0) (z':=0) (m6 (by omega)) rfl a4 rfl (by omega),by omega,by omega⟩
   have aO:Hid (∀w':World,w'.heap[g.mb]? = J.heap[g.mb]?->w'.heap[X]? = J.heap[X]?->w'.cell? ⟨g.mb,12,none⟩=some (.slice (g.ro 3 0).1 m.nc (g.ro 3 0).2)/\w'.frozen? ⟨g.mb,12,none⟩=false/\w'.cell? ⟨X,0,none⟩=some (.slice (some ⟨Z,0,none⟩) 1 1)/\w'.cell? ⟨X,1,none⟩=some (.int .i64 ((b:Int)))):=λw' e1 e2=>⟨(aw (a:=⟨g.mb,12,none⟩) e1).trans aB,(dg (a:=⟨g.mb,12,none⟩) e1).trans aQ,(aw (a:=⟨X,0,none⟩) e2).trans b0,(aw (a:=⟨X,1,none⟩) e2).trans b1⟩;have a9:Hid (∀(o:Obj) (j:Nat),j<J.heap.size->(J.drew.alloc o).heap[j]? = J.heap[j]?):=λo j Y=>ak J.drew o j Y;have bL:m.nc+1<=1000000000:=by have:=aX.out;omega
   clear lX hW;go_wp2_with fail
   go_cut [] (λwx=>Hid (∃g2,Tr d m g (w.alloc (.cells #[.int .i64 ((12:Nat):Int),.int .i64 a,.int .i64 b,.int .i64 c] 90)) ((m.gT (fy d m)).lN (b+1) l) g2 wx/\g2.rb=g.rb/\wx.heap[w.heap.size]? = some (.cells #[.int .i64 ((12:Nat):Int),.int .i64 a,.int .i64 b,.int .i64 c] 90 (0,0))))
   case first=>
    go_region_law (refine eS _ rfl (.tmp 44) (.tmp 46) 108 rfl 233 i0 _ 2 32 Tryz.underlying108 aY b2 aU b6 rfl (by decide) (g.ro 3 0).1 m.nc (g.ro 3 0).2 (rowP (m.nc*2) (cE (m.gT (fy d m)) g)) (by first|rfl|simp[Act.eval,Act.put]) (dD aF.out (λj Y=>a9.out _ _ (a7.out j Y).1)) ⟨J.heap.size,0,none⟩ 1 1 [.slice (some ⟨Z,0,none⟩) 1 1,.int .i64 ((b:Int))] (by first|rfl|simp[Act.eval,Act.put]) rfl (by intro j u Y;match j,Y with|0,Y=>(simp at Y;subst Y;simp[Addr.add,go_sem])|1,Y=>(simp at Y;subst Y;simp[Addr.add,go_sem])) (by simp[Value.oneCell']) (by unfold maxLen;omega) (by omega) (by decide) ?_;intro v' w6 ho a5 aE;obtain⟨cb,aV,rfl⟩:=dM ho (by omega);have aL:=az ho;have bD:=az a5;have aW:=az aE;have KO:Hid (∀j,j<J.heap.size->(j=g.mb\/j=X\/j=w.heap.size)->w6.heap[j]? = J.heap[j]?):=(λj Y hn=>(a5.block j (by first|(simp;omega)|omega) (λh=>by have h9:=a7.out j h.symm;omega)).trans (a9.out _ _ Y));obtain⟨bK,sz,sa,sb⟩:=aO.out w6 (KO.out _ l5 (ag rfl)) (KO.out _ b8 (ab (ag rfl)));clear ho a5 aE)
    all_goals
     go_wp2_with fail
     go_meet
     case rel=>
      refine⟨_,DP (l:=l) (ty:=(b+1)) (cb:=cb) (cc:=aV) T5.out (au (bq (ax J none)) (.cells #[.slice (some ⟨Z,0,none⟩) 1 1,.int .i64 ((b:Int))] 233)) S5.out N5.out (by simp;omega) (by first|(rw[aI];exact aL.out)|(rw[aI,show(((b+1:Nat):Int)-1)=(b:Int) by omega];exact aL.out)) bD.out aW.out,rfl,?_⟩;rw[af _ _ _ _ (by show w.heap.size≠g.mb;omega),KO.out _ aT (ab (ab rfl))];exact X5.out
   case rest=>
    obtain⟨g2,h6,H,x6⟩:=hcut.out;have aR:=h6.b;have a8:=az (Gg h6.r (by show(fy d m).all<_;rw[uq];exact HA.out.1) (by show(fy d m).sure<_;rw[sD];exact HA.out.2.1) (by show(fy d m).lO<_;rw[sE];exact HA.out.2.2));rw[aR]at a8;have aN:Hid (¬ey d ((m.gT (fy d m)).lN (b+1) l) g2 w.heap.size):=λhm=>by
     rcases h6.m _ hm with h1|h1
     .exact HH.out.fresh (bj _) h1
     rw[World.size_alloc]at h1;omega
    have H6:=az (ay h6 (ay H x6));clear h6 H x6 hcut aB aQ aF b0 b1 a7 aO a9 X5 Y5 S5 T5 N5;go_wp2_with fail
    refine a8.out.mono ?_;rintro e w7 ⟨rfl,h7⟩;obtain⟨h6,H,x6⟩:=H6.out;have h8:=h6.trans h7;have hT:=HT.out;have y7:=(h7.o.same (bz x6) aN.out).trans x6;have e1:w7.cell? ⟨w.heap.size,1,none⟩=some (.int .i64 a):=by simp[World.cell?,y7]
    obtain⟨bA,_⟩:=h8.r.mc 12 (by omega) (v:=.slice (g2.ro 3 0).1 (m.nc+1) (g2.ro 3 0).2) rfl;rw[aR]at bA;have hF:=h8.r.R (t:=t) (i:=n) hT.1 hT.2.1;have a6:Full w7 (g.rb t n) 115 (nr*2) (nr*2) (eC (fj m t n).R):=by
     have h9:=hF;rw[H]at h9;rw[<-hT.2.2];exact h9
    obtain⟨r0,r1,r2,r3⟩:=Iz a6 ha;have H8:=az (ay h8 H);have bG:(a:Int)<nr:=by omega
    clear h6 H x6 h8 h7 hT y7 hF a6 a8 H6 aN;generalize (g2.ro 3 0).1=ca at *;generalize (g2.ro 3 0).2=cc at *;go_wp2_with fail
    go_cut [] (λwx=>Hid ((sM w7 (g.rb t n) a (m.nc+1,0)).grownBy wx none))
    case first=>
     go_region
     all_goals
      go_wp2_with fail
      go_meet
      case rel=>first|exact(bq (ax _ _):World.grownBy _ _ _)|exact(ax _ _:World.grownBy _ _ _)
    case rest=>
     have aC:=hcut;clear hcut;go_wp2_with fail
     go_ret;obtain⟨h8,H⟩:=H8.out;have h9:=h8.r.wP (t:=t) (i:=n) HT.out.1 HT.out.2.1 a (m.nc+1,0);rw[H]at h9;exact⟨0,rfl,ab ⟨aJ.out,rfl,g2,((h8.trans h9).kept aC.out).ahead (au (ax _ _) _)⟩⟩
end D
namespace D
open F
variable {p : dz} {d : Dp} {K : Nat} {s s' : Pl} {m m' : Dm} {g g' : Dg} {w w' : World} {ρ ρ' : Nat → Nat} {t tb fb n nr a b c : Nat} {why : Int}
theorem eK.gT(h:eK p K s m ρ){G:Dc}(e:GA G m.nc):eK p K s (m.gT G) ρ:={ h with A:=e }
theorem EE(d:Dp)(h:GA m.G m.nc):GA (fy d m) m.nc:=by
 unfold fy;split
 .exact h
 exact h
theorem eK.kX(hS:eK p K s m ρ)(G:Ok p s)(hP:PD p d)(hG:∀f,f<p.nf->2<=p.rg f/\p.rg f<=8)(hK:K<900000000)(hn:s.nt≠0):BK d m:=by
 refine⟨by rw[hS.nt];exact hn,(hS.small G).1,by have:=hS.B.1;omega,λt ht=>?_,λc Y=>?_⟩
 .by_cases J:t∈s.lv
  .have y:=hS.T t J;have hw:=G.fw t J trivial;refine⟨by rw[y.l];exact hw.n2,λi hi=>?_⟩;rw[y.l]at hi;have o:(de s t i).f<p.nf:=(hw.f i hi).1;have e:(fj m t i).f=(de s t i).f:=(y.f i hi).f;rw[e,hP.rg _ o];have:=hG _ o;omega
  have:=(hS.O t ((iw hS t).1 ht) J).2.1;rw[this];exact⟨dc _,λi hi=>by cases hi⟩
 obtain⟨k,k1,rfl⟩:=hS.Jc G hP Y;have u:=hS.C k k1;exact⟨u.c1,u.c2,by rw[u.M,dS];exact u.l⟩
theorem BI.LV(hP:PD p d)(hS:eK p K s m ρ)(hR:Rn p s t)(hQ:qP p d s m g w ρ t tb fb n nr){ty:Nat}{l:List B.V}{v:Int}(a1:ty≠0->l≠[])(a0:l.length<=8)(hl:∀v,v∈l->dN p s v)(hm:kL p s t a ty l s')(J:BI d m g w t n a ty (l.map (tr ρ)) v w'):jW p d K s t m g w 0 s' v w':=by
 have Y:=hS.gT (EE d hS.A);rcases J with⟨hr,rfl,H⟩|⟨hr,rfl,g',H⟩
 .rcases hm with⟨c,u,c1,Z,W,y,c5,rfl⟩|⟨o,u,y,rfl⟩
  .exfalso
   rcases hr with⟨_,e⟩|⟨N,J,e⟩
   .have:=of_decide_eq_false e.symm;rw[hP.n]at this;omega
   have:=of_decide_eq_false e.symm;rw[hP.n]at this;exact this ((hS.room hR.ok hP J).2.2 ⟨c,c1,Z,λhc=>by
    have:=(B.po y hc).1;rw[W]at this;cases this⟩)
  exact⟨ρ,_,g,H,ag ⟨rfl,rfl,⟨u,rfl⟩,Y.mono (by omega)⟩⟩
 rcases hm with⟨c,u,c1,Z,W,y,c5,rfl⟩|⟨o,u,y,rfl⟩
 .have h2:=Y.na (a:=a) (ty:=ty) (l:=l) hR.ok hR.lv hR.fw.n1 y W (by omega) a1 a0 hl;rw[show pQ (m.gT (fy d m)) t=n from hQ.tp,show pR (m.gT (fy d m)) t=fj m t n from hQ.tf]at h2;exact⟨_,_,g',H,ab ⟨h2,ab (ag ⟨rfl,rfl,(gj (s.na u c ty l) t (cr s t) t _).2.2.1.trans hR.run⟩)⟩⟩
 exfalso
 rcases hr with⟨hf,e⟩|⟨N,J,e⟩
 .unfold fy at hf;by_cases hd:d.n<=m.G.all
  .rw[aj hd]at hf
   cases hf
  rw[hS.A.1,hP.n]at hd;have H:((List.range p.n).map (λi=>ρ (i+1))).length<=m.nc:=gn m.nc _ (kB (f:=λi=>ρ (i+1)) _ List.nodup_range (λa ha b hb e=>by
   have a3:=eJ.1 ha;have a2:=eJ.1 hb;have:=hS.I (a+1) (b+1) (o _ (by omega) (by omega)) (o _ (by omega) (by omega)) e;omega)) (λc hc=>by
   obtain⟨i,hi,rfl⟩:=ek.1 hc;have a4:=eJ.1 hi;have:=hS.C (i+1) (o _ (by omega) (by omega));exact⟨this.c1,this.c2⟩)
  rw[dS,List.length_range]at H;omega
 have:=dO e.symm;rw[hP.n]at this;obtain⟨c,c1,Z,W⟩:=(hS.room hR.ok hP J).2.1 this;exact W (o c c1 Z)
section
variable (hP : PD p d) (hG : ∀ f, f < p.nf → 2 ≤ p.rg f ∧ p.rg f ≤ 8) (h : dQ d m g w) (hS : eK p K s m ρ) (hR : Rn p s t) (hQ : qP p d s m g w ρ t tb fb n nr) (hK : K < 900000000)
include hP hG h hS hR hQ hK
theorem Mj(W:a<nr)(i:b<=8)(Y:b<256)(G:c<256)(Z:kL p s t a 0 (List.replicate b (0,0)) s'):Calls prog 194 #[P0 g.mb,.int .i64 (t:Int),.slice (some ⟨g.rb t n,0,none⟩) nr nr,jY 9 a b c] w λe w'=>∃v:Int,e=.returned (.int .i64 v)/\jW p d K s t m g w 0 s' v w':=by
 have o:=hS.A;have hB:=hS.B.1;refine zr (by omega) Y G (λw1 y=>(JR i (h.kept y) (hS.kX hR.ok hP hG hK (by have:=hR.ht.1;have:=hR.ht.2;omega)) hQ.dt hQ.hi hQ.r1 W ⟨by have:=o.1;omega,by have:=o.2.1;omega,by have:=o.2.2;omega⟩).mono ?_);rintro e w' ⟨v,rfl,H⟩;have e:(List.replicate b ((0,0):B.V)).map (tr ρ)=List.replicate b (0,0):=by rw[List.map_replicate,sm]
 exact⟨v,rfl,(BI.LV hP hS hR (hQ.kept h y) (l:=List.replicate b (0,0)) (λe=>ch rfl e) (by rw[ik];exact i) (λv J=>by rw[(List.mem_replicate.1 J).2];exact dN.num 0) Z (by rw[e];exact H)).ahead y⟩
theorem Lj(Y:a<nr)(i:c<nr)(G:b<256)(H:c<256)(Z:kL p s t a (b+1) [(bw s t).R c] s'):Calls prog 194 #[P0 g.mb,.int .i64 (t:Int),.slice (some ⟨g.rb t n,0,none⟩) nr nr,jY 12 a b c] w λe w'=>∃v:Int,e=.returned (.int .i64 v)/\jW p d K s t m g w 0 s' v w':=by
 have o:=hS.A;have hB:=hS.B.1;refine zr (by omega) G H (λw1 y=>(JA i (hQ.V c i) G (h.kept y) (hS.kX hR.ok hP hG hK (by have:=hR.ht.1;have:=hR.ht.2;omega)) hQ.dt hQ.hi hQ.r1 Y ⟨by have:=o.1;omega,by have:=o.2.1;omega,by have:=o.2.2;omega⟩).mono ?_);rintro e w' ⟨v,rfl,J⟩;exact⟨v,rfl,(BI.LV hP hS hR (hQ.kept h y) (l:=[(bw s t).R c]) (λ_ e=>by cases e) (by show 1<=8;omega) (λv W=>by rw[dL.1 W];exact hR.oq (by rw[hQ.r2];exact i)) Z J).ahead y⟩
end
end D
end Go.Proofs.YtnjiinbhbjpfkaaGreatDoor
