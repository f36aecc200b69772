import Derived.Test.YtnjiinbhbjpfkaaGreatDoorTm
set_option maxRecDepth 100000
set_option maxHeartbeats 0
set_option linter.all false
namespace Go.Proofs.YtnjiinbhbjpfkaaGreatDoor
open Go.RowKit Go.Proofs.Tryz
namespace D
open F
variable {w:aa}
theorem yk{o i j mb u nr a b c z cb J cc sN sl v:Nat}{x H y why:Int}{vo:B.V}(ho:(o=10/\b=i/\c=j)\/(o=11/\a=i/\b=j/\(c:Int)<nr/\kR w u c vo))(hi:i<nr)(hj:j<nr)(Z:kR w u i (z+1,x))(rt:kR w u j (v,y))(hz:z<J)(hn:J<1000000000)(W:w.cell? (ay mb 12)=some (dA cb J cc))(k1:w.cell? (ay cb (z*2+1))=some (aj H))(k0:w.cell? (ay cb (z*2))=some (dA sN sl sl))(hX:(0<=H/\why=2)\/(¬(0<=H)/\(0:Int)<v/\why=1)\/(¬(0<=H)/\v=0/\decide (y<0)=true/\why=3)\/(¬(0<=H)/\v=0/\decide (y<0)=false/\decide ((sl:Int)<=y)=true/\why=3)): dD 214 #[P0 mb,dA u nr nr,jn o a b c] w (aj why) λw'=>w.grownBy w' none:=by
 have lr:u<w.heap.size:=an w _ Z.1;have lm:mb<w.heap.size:=an w _ W;have lc:cb<w.heap.size:=an w _ k1;have a5:(i:Int)<nr:=ag
 have a6:(j:Int)<nr:=ag
 have a2:u<w.heap.size+1:=ag
 have a7:u<w.heap.size+1+1:=ag
 have a1:mb<w.heap.size+1:=ag
 have a8:mb<w.heap.size+1+1:=ag
 have aB:cb<w.heap.size+1:=ag
 have a9:cb<w.heap.size+1+1:=ag
 have q1:IntKind.i64.wrap ((z:Int)+1-1)=(z:Int):=fj ag;have q2:IntKind.i64.wrap (z:Int)=z:=iU
 have q3:(z:Int)<J:=ag
 have q4:(0:Int)<=z:=ag
 have q5:(((z:Int)+1) == 0)=false:=kr dX
 obtain⟨G,r1,_,_⟩:=Z;have r0:dS w u (i*2)=some (aj ((z:Int)+1)):=G;clear G;obtain⟨s0,s1,_,_⟩:=rt;simp only[]at r1 s0 s1;rcases ho with⟨rfl,rfl,rfl⟩|⟨rfl,rfl,rfl,a0,o0,o1,_,_⟩<;>rcases hX with⟨Y,rfl⟩|⟨Y,q7,rfl⟩|⟨Y,rfl,b1,rfl⟩|⟨Y,rfl,b1,b2,rfl⟩
 all_goals
  try simp only[]at s0
  delta dD;go_in;go_wp2
  go_quiet (fail)
  go_wp2_with fail
  try
   go_quiet (fail)
   go_wp2
  go_ret;refine⟨rfl,?_⟩;first|exact df (df (ax (ax (ax (aw _ _) _) _) _) _) _|exact df (ax (ax (ax (aw _ _) _) _) _) _
theorem Ji{mb o nr a b c z cb G cc y sl i:Nat}{x H:Int}{va W:B.V}(ha:a<nr)(hb:b<nr)(hc:c<nr)(ra:kR w o a va)(rb:kR w o b (z+1,x))(rc:kR w o c (0,(i:Int)))(hz:z<G)(hn:G<1000000000)(J:w.cell? (ay mb 12)=some (dA cb G cc))(k1:w.cell? (ay cb (z*2+1))=some (aj H))(k0:w.cell? (ay cb (z*2))=some (dA y sl sl))(hu:H<0)(hi:i<sl)(aB:sl<=8)(BJ:kR w y i W): dD 214 #[P0 mb,dA o nr nr,jn 10 a b c] w (aj 0) λw'=>(oz w o a W).grownBy w' none:=by
 have lr:o<w.heap.size:=an w _ rb.1;have lm:mb<w.heap.size:=an w _ J;have lc:cb<w.heap.size:=an w _ k1;have ls:y<w.heap.size:=an w _ BJ.1;have aE:(a:Int)<nr:=ag
 have Y:(b:Int)<nr:=ag
 have Z:(c:Int)<nr:=ag
 have a5:o<w.heap.size+1:=ag
 have a6:o<w.heap.size+1+1:=ag
 have a4:mb<w.heap.size+1:=ag
 have a7:mb<w.heap.size+1+1:=ag
 have aD:cb<w.heap.size+1:=ag
 have a8:cb<w.heap.size+1+1:=ag
 have aC:y<w.heap.size+1:=ag
 have a9:y<w.heap.size+1+1:=ag
 have q1:IntKind.i64.wrap ((z:Int)+1-1)=(z:Int):=fj ag;have q2:IntKind.i64.wrap (z:Int)=z:=iU
 have q3:(z:Int)<G:=ag
 have q4:(0:Int)<=z:=ag
 have q5:(((z:Int)+1) == 0)=false:=kr dX
 have q6:¬(0<=H):=ag
 have b1:¬((i:Int)<0):=ag
 have b2:¬((sl:Int)<=i):=ag
 have b3:(i:Int)<sl:=ag
 have b4:IntKind.i64.wrap (sl:Int)=sl:=iU
 obtain⟨u,r1,_,_⟩:=rb;obtain⟨s0,s1,_,_⟩:=rc;obtain⟨a0,a1,a2,a3⟩:=ra;obtain⟨v0,v1,_,_⟩:=BJ;simp only[]at r1 s0 s1;delta dD;go_in;go_wp2
 go_quiet (fail)
 go_wp2
 go_quiet (fail)
 go_wp2
 go_region
 all_goals
  go_wp2
  go_ret;refine⟨rfl,?_⟩;exact fT (fT (df (ax (ax (ax (aw _ _) _) _) _) _) _ _) _ _
theorem Jf{mb o nr a b c z cb G cc u sl i:Nat}{x H:Int}{W vs:B.V}(ha:a<nr)(hb:b<nr)(hc:c<nr)(rb:kR w o a (z+1,x))(rc:kR w o b (0,(i:Int)))(ra:kR w o c W)(hz:z<G)(hn:G<1000000000)(J:w.cell? (ay mb 12)=some (dA cb G cc))(k1:w.cell? (ay cb (z*2+1))=some (aj H))(k0:w.cell? (ay cb (z*2))=some (dA u sl sl))(hu:H<0)(hi:i<sl)(aD:sl<=8)(BJ:kR w u i vs): dD 214 #[P0 mb,dA o nr nr,jn 11 a b c] w (aj 0) λw'=>(oz w u i W).grownBy w' none:=by
 have lr:o<w.heap.size:=an w _ rb.1;have lm:mb<w.heap.size:=an w _ J;have lc:cb<w.heap.size:=an w _ k1;have ls:u<w.heap.size:=an w _ BJ.1;have aH:(a:Int)<nr:=ag
 have Y:(b:Int)<nr:=ag
 have Z:(c:Int)<nr:=ag
 have a5:o<w.heap.size+1:=ag
 have a8:o<w.heap.size+1+1:=ag
 have a4:mb<w.heap.size+1:=ag
 have a9:mb<w.heap.size+1+1:=ag
 have aG:cb<w.heap.size+1:=ag
 have aA:cb<w.heap.size+1+1:=ag
 have aE:u<w.heap.size+1:=ag
 have aB:u<w.heap.size+1+1:=ag
 have q1:IntKind.i64.wrap ((z:Int)+1-1)=(z:Int):=fj ag;have q2:IntKind.i64.wrap (z:Int)=z:=iU
 have q3:(z:Int)<G:=ag
 have q4:(0:Int)<=z:=ag
 have q5:(((z:Int)+1) == 0)=false:=kr dX
 have q6:¬(0<=H):=ag
 have b1:¬((i:Int)<0):=ag
 have b2:¬((sl:Int)<=i):=ag
 have b3:(i:Int)<sl:=ag
 have b4:IntKind.i64.wrap (sl:Int)=sl:=iU
 obtain⟨y,r1,_,_⟩:=rb;obtain⟨s0,s1,_,_⟩:=rc;obtain⟨a0,a1,a2,a3⟩:=ra;obtain⟨v0,v1,v2,v3⟩:=BJ;simp only[]at r1 s0 s1;delta dD;go_in;go_wp2
 go_quiet (fail)
 go_wp2
 go_quiet (fail)
 go_wp2
 go_region
 all_goals
  go_wp2
  go_ret;refine⟨rfl,?_⟩;exact fT (fT (df (ax (ax (ax (aw _ _) _) _) _) _) _ _) _ _
end D
namespace D
open F
variable {p:dL}{d:Dp}{K:Nat}{s s':Pl}{m m':Dm}{g g':Dg}{w w':aa}{ρ ρ':Nat → Nat}{t tb fb n nr a b c:Nat}{why:Int}
structure OC(m:Dm) (g:Dg) (w:aa) (s:Pl) (ρ:Nat->Nat) (v:B.V) (z cb:Nat):Prop where
 e:ρ v.1=z+1
 l:z<m.nc
 ev:tr ρ v=(z+1,0)
 CF:w.cell? ⟨g.mb,12,none⟩=some (.slice (some ⟨cb,0,none⟩) m.nc (g.ro 3 0).2)
 k0:w.cell? ⟨cb,z*2,none⟩=some (.slice (some ⟨g.sb (z+1),0,none⟩) (s.M v.1).length (s.M v.1).length)
 k1:w.cell? ⟨cb,z*2+1,none⟩=some (.int .i64 ((s.ck v.1:Int)-1))
 sl:∀i,i<(s.M v.1).length->kR w (g.sb (z+1)) i (tr ρ ((s.M v.1).getD i (0,0)))
 l8:(s.M v.1).length<=8
 lm:(m.M (z+1)).length=(s.M v.1).length
theorem eF.NO(hS:eF p K s m ρ)(h:dZ d m g w)(hO:Ok p s){v:B.V}(W:dW p s v)(h0:v.1≠0):∃z y,OC m g w s ρ v z y:=by
 obtain⟨Y,G,H,J,Z⟩:=hS.IH hO W h0;obtain⟨y,k1,k2,k3,o,u⟩:=h.cc G H;obtain⟨z,hz⟩:∃z,ρ v.1=z+1:=⟨ρ v.1-1,ag⟩;have e:=h.S G H;rw[hz]at Y G H J Z o u e;rw[dC]at o u;have hl:(m.M (z+1)).length=(s.M v.1).length:=by rw[J,ef]
 refine⟨z,y,hz,ag,Y,k3,eR,eR,λi hi=>?_,(hS.C v.1 (B.pR.vO W h0)).l,hl⟩;have:=Jn e (a:=i) ag;have e6:mW (m.M (z+1)) i=tr ρ ((s.M v.1).getD i (0,0)):=by
  unfold mW;rw[J,cr,eP,cr,bz hi];rfl
 rw[e6]at this;exact this
section
variable (h:dZ d m g w)(hS:eF p K s m ρ)(hR:Rn p s t)(hQ:oV p d s m g w ρ t tb fb n nr)(hK:K < 900000000)
include h hS hR hQ hK
theorem L6(ha:a<nr)(W:b<nr)(J:c<nr)(hi:kM p s t (10,a,b,c) why s'):Calls prog 214 #[P0 g.mb,dA (g.rb t n) nr nr,jn 10 a b c] w λe w'=>∃v:Int,e=.returned (aj v)/\iO p d K s t m g w why s' v w':=by
 have hi:(FY s ((bw s t).R b) ((bw s t).R c)/\why=0/\s'=s.dJ t (de s t) ((bw s t).set a ((s.M ((bw s t).R b).1).getD ((bw s t).R c).2.toNat (0,0))))\/(¬FY s ((bw s t).R b) ((bw s t).R c)/\why=(ot s ((bw s t).R b) ((bw s t).R c):Nat)/\s'=s):=hi;have gb:=hR.nM (eV hQ.r2 W);have gc:dW p s ((bw s t).R c):=hR.nM (eV hQ.r2 J);have rb:=hQ.rc W;have rc:=hQ.rc J;generalize hx:(bw s t).R b=x at *;generalize hy:(bw s t).R c=y at *;have G:∀k:Nat,0<k->¬FY s x y->ot s x y=k->Calls prog 214 #[P0 g.mb,dA (g.rb t n) nr nr,jn 10 a b c] w (λe w'=>e=.returned (aj k)/\w.grownBy w' none)->Calls prog 214 #[P0 g.mb,dA (g.rb t n) nr nr,jn 10 a b c] w λe w'=>∃v:Int,e=.returned (aj v)/\iO p d K s t m g w why s' v w':=λk hk hn he H=>by
  rcases hi with⟨h',_⟩|⟨_,rfl,rfl⟩
  .grind
  refine du H λw' hg=>?_;grind[iO.fail]
 by_cases Y:x.1=0
 .refine G 2 ag (λe=>e.1 Y) (by unfold ot;grind) ?_;rw[ox Y,show x=(0,x.2) from fV Y rfl]at rb;exact Ls W J rb rc
 obtain⟨z,cb,i⟩:=hS.NO h hR.ok gb Y;have u:m.nc<1000000000:=gp hS.B.1
 rw[i.ev]at rb;by_cases hk:s.ck x.1=0
 case neg=>
  refine G 2 ag (λe=>hk e.2.1) (by unfold ot;grind) ?_;exact yk (vo:=(0,0)) (af ⟨rfl,rfl,rfl⟩) W J rb rc i.l u i.CF i.k1 i.k0 (af ⟨ag,rfl⟩)
 have hw:¬(x.1=0\/s.ck x.1≠0):=λe=>e.elim Y (λe=>e hk);by_cases o:y.1=0
 case neg=>
  refine G 1 ag (λe=>o e.2.2.1) (by unfold ot;grind) ?_;exact yk (vo:=(0,0)) (af ⟨rfl,rfl,rfl⟩) W J rb rc i.l u i.CF i.k1 i.k0 (ah (af ⟨ag,Int.natCast_pos.2 (Nat.pos_of_ne_zero λe=>o ((ti hR.ok hS gc).1.1 e)),rfl⟩))
 rw[ox o,show y=(0,y.2) from fV o rfl]at rc;have Z:ot s x y=3:=by unfold ot;rw[au hw,au (λe=>e o)]
 by_cases y1:y.2<0
 .refine G 3 ag (λe=>by have:=e.2.2.2.1;omega) Z ?_;exact yk (vo:=(0,0)) (af ⟨rfl,rfl,rfl⟩) W J rb rc i.l u i.CF i.k1 i.k0 (ah (ah (af ⟨ag,rfl,fp y1,rfl⟩)))
 by_cases y2:((s.M x.1).length:Int)<=y.2
 .refine G 3 ag (λe=>by have:=e.2.2.2.2;omega) Z ?_;exact yk (vo:=(0,0)) (af ⟨rfl,rfl,rfl⟩) W J rb rc i.l u i.CF i.k1 i.k0 (ah (ah (ah ⟨ag,rfl,eW y1,fp y2,rfl⟩)))
 rcases hi with⟨_,rfl,rfl⟩|⟨h',_⟩
 .have a1:y.2=((y.2.toNat:Nat):Int):=ag;rw[a1]at rc;have a0:y.2.toNat<(s.M x.1).length:=ag
  refine du (Ji ha W J (hQ.rc ha) rb rc i.l u i.CF i.k1 i.k0 ag a0 i.l8 (i.sl _ a0)) λw' hg=>?_;exact⟨0,rfl,hQ.goes h hS hR a (uJ (B.pR.vO gb Y) _) hg⟩
 exact dp ⟨Y,hk,o,ag,ag⟩ h'
theorem L5(W:a<nr)(Y:b<nr)(hc:c<nr)(hi:kM p s t (11,a,b,c) why s'):Calls prog 214 #[P0 g.mb,dA (g.rb t n) nr nr,jn 11 a b c] w λe w'=>∃v:Int,e=.returned (aj v)/\iO p d K s t m g w why s' v w':=by
 have hi:(FY s ((bw s t).R a) ((bw s t).R b)/\why=0/\s'=s.ur ((bw s t).R a).1 ((bw s t).R b).2.toNat ((bw s t).R c))\/(¬FY s ((bw s t).R a) ((bw s t).R b)/\why=(ot s ((bw s t).R a) ((bw s t).R b):Nat)/\s'=s):=hi;have gb:=hR.nM (eV hQ.r2 W);have gc:dW p s ((bw s t).R b):=hR.nM (eV hQ.r2 Y);have gv:dW p s ((bw s t).R c):=hR.nM (eV hQ.r2 hc);have rb:=hQ.rc W;have rc:=hQ.rc Y;have rv:=hQ.rc hc;generalize hx:(bw s t).R a=x at *;generalize hy:(bw s t).R b=y at *;generalize hv:(bw s t).R c=v at *;have J:∀k:Nat,0<k->¬FY s x y->ot s x y=k->Calls prog 214 #[P0 g.mb,dA (g.rb t n) nr nr,jn 11 a b c] w (λe w'=>e=.returned (aj k)/\w.grownBy w' none)->Calls prog 214 #[P0 g.mb,dA (g.rb t n) nr nr,jn 11 a b c] w λe w'=>∃v:Int,e=.returned (aj v)/\iO p d K s t m g w why s' v w':=λk hk hn he H=>by
  rcases hi with⟨h',_⟩|⟨_,rfl,rfl⟩
  .grind
  refine du H λw' hg=>?_;grind[iO.fail]
 by_cases Z:x.1=0
 .refine J 2 ag (λe=>e.1 Z) (by unfold ot;grind) ?_;rw[ox Z,show x=(0,x.2) from fV Z rfl]at rb;exact Lm W Y hc rb rc rv
 obtain⟨z,cb,o⟩:=hS.NO h hR.ok gb Z;have G:m.nc<1000000000:=gp hS.B.1
 rw[o.ev]at rb;by_cases hk:s.ck x.1=0
 case neg=>
  refine J 2 ag (λe=>hk e.2.1) (by unfold ot;grind) ?_;exact yk (ah ⟨rfl,rfl,rfl,ag,rv⟩) W Y rb rc o.l G o.CF o.k1 o.k0 (af ⟨ag,rfl⟩)
 have hw:¬(x.1=0\/s.ck x.1≠0):=λe=>e.elim Z (λe=>e hk);by_cases u:y.1=0
 case neg=>
  refine J 1 ag (λe=>u e.2.2.1) (by unfold ot;grind) ?_;exact yk (ah ⟨rfl,rfl,rfl,ag,rv⟩) W Y rb rc o.l G o.CF o.k1 o.k0 (ah (af ⟨ag,Int.natCast_pos.2 (Nat.pos_of_ne_zero λe=>u ((ti hR.ok hS gc).1.1 e)),rfl⟩))
 rw[ox u,show y=(0,y.2) from fV u rfl]at rc;have a1:ot s x y=3:=by unfold ot;rw[au hw,au (λe=>e u)]
 by_cases y1:y.2<0
 .refine J 3 ag (λe=>by have:=e.2.2.2.1;omega) a1 ?_;exact yk (ah ⟨rfl,rfl,rfl,ag,rv⟩) W Y rb rc o.l G o.CF o.k1 o.k0 (ah (ah (af ⟨ag,rfl,fp y1,rfl⟩)))
 by_cases y2:((s.M x.1).length:Int)<=y.2
 .refine J 3 ag (λe=>by have:=e.2.2.2.2;omega) a1 ?_;exact yk (ah ⟨rfl,rfl,rfl,ag,rv⟩) W Y rb rc o.l G o.CF o.k1 o.k0 (ah (ah (ah ⟨ag,rfl,eW y1,fp y2,rfl⟩)))
 rcases hi with⟨_,rfl,rfl⟩|⟨h',_⟩
 .have a2:y.2=((y.2.toNat:Nat):Int):=ag;rw[a2]at rc;have a0:y.2.toNat<(s.M x.1).length:=ag
  refine du (Jf W Y hc rb rc rv o.l G o.CF o.k1 o.k0 ag a0 o.l8 (o.sl _ a0)) λw' hg=>?_;have h2:=hS.ur (a:=x.1) (i:=y.2.toNat) (v:=v) (B.pR.vO gb Z) gv;rw[o.e]at h2;exact⟨0,rfl,iO.go ((h.M8 (c:=z+1) (i:=y.2.toNat) ag (gp o.l) (eV o.lm a0) (tr ρ v)).kept hg) h2 hR.run⟩
 exact dp ⟨Z,hk,u,ag,ag⟩ h'
theorem Nx(Y:a<nr)(J:b<nr)(y:c<nr)(u:b<256)(i:c<256)(hi:kM p s t (10,a,b,c) why s'):Calls prog 194 #[P0 g.mb,aj t,dA (g.rb t n) nr nr,jn 10 a b c] w λe w'=>∃v:Int,e=.returned (aj v)/\iO p d K s t m g w why s' v w':=
 AN ag u i (λw1 o=>(L6 (h.kept o) hS hR (hQ.kept h o) hK Y J y hi).mono (λe w' H=>by
  grind[D.iO.ahead]))
theorem Nv(Y:a<nr)(J:b<nr)(y:c<nr)(u:b<256)(i:c<256)(hi:kM p s t (11,a,b,c) why s'):Calls prog 194 #[P0 g.mb,aj t,dA (g.rb t n) nr nr,jn 11 a b c] w λe w'=>∃v:Int,e=.returned (aj v)/\iO p d K s t m g w why s' v w':=
 AN ag u i (λw1 o=>(L5 (h.kept o) hS hR (hQ.kept h o) hK Y J y hi).mono (λe w' H=>by
  grind[D.iO.ahead]))
end
