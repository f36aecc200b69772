import Derived.Test.YtnjiinbhbjpfkaaGreatDoorTm
set_option maxRecDepth 100000
set_option maxHeartbeats 0
set_option linter.all false
namespace Go.Proofs.YtnjiinbhbjpfkaaGreatDoor
open Go.RowKit Go.Proofs.Tryz
namespace D
open F
variable {p:dL}{d:Dp}{K:Nat}{s:Pl}{m m':Dm}{g g':Dg}{w w':aa}{ρ:Nat → Nat}
theorem N6{o mb t i nr a b c:Nat}{R:Int->aa->Prop}(G:o=13\/o=15)(H:∀w1,w.grownBy w1 none->Calls prog 227 #[P0 mb,aj t,dA i nr nr,jn o a b c] w1 λe w'=>∃v:Int,e=.returned (aj v)/\R v w'): Calls prog 215 #[P0 mb,aj t,dA i nr nr,jn o a b c] w λe w'=>∃v:Int,e=.returned (aj v)/\R v w':=by
 have u:=bj (H (w.alloc (.cells #[aj o,aj a,aj b,aj c] 90)) (ax (aw _ _) _));rcases G with rfl|rfl
 all_goals
  go_in;go_wp2_with fail
  refine u.mono ?_;rintro e w2 ⟨v,rfl,hR⟩;have y:=bj hR;go_wp2
  go_ret;exact⟨v,rfl,y⟩
theorem AS{o mb t i nr a b c:Nat}{u:B.V}(J:o=17\/o=19)(ha:a<nr)(r:kR w i a u)(hz:u.1≠0): dD 215 #[P0 mb,aj t,dA i nr nr,jn o a b c] w (aj 1) λw'=>w.grownBy w' none:=by
 have W:i<w.heap.size:=an w _ r.1;have H:(a:Int)<nr:=ag
 obtain⟨Z,r1,_,_⟩:=r;have Y:(0:Int)<u.1:=ag
 rcases J with rfl|rfl
 all_goals
  delta dD;go_in;go_wp2
  go_ret;exact⟨rfl,ax (ax (aw _ _) _) _⟩
theorem AR{o mb t i nr a b c:Nat}{y vb:B.V}(W:o=18\/o=21)(ha:a<nr)(hb:b<nr)(r:kR w i a y)(rb:kR w i b vb)(hz:vb.1≠0): dD 215 #[P0 mb,aj t,dA i nr nr,jn o a b c] w (aj 1) λw'=>w.grownBy w' none:=by
 have Y:i<w.heap.size:=an w _ r.1;have H:(a:Int)<nr:=ag
 have u:i<w.heap.size+1:=ag
 obtain⟨r0,r1,_,_⟩:=r;obtain⟨s0,s1,_,_⟩:=rb;have J:(b:Int)<nr:=ag
 have Z:(0:Int)<vb.1:=ag
 rcases W with rfl|rfl
 all_goals
  delta dD;go_in;go_wp2
  go_ret;exact⟨rfl,ax (ax (aw _ _) _) _⟩
theorem Gm{mb t i nr a b c:Nat}{J vb:B.V}(ha:a<nr)(hb:b<nr)(r:kR w i a J)(rb:kR w i b vb)(hz:vb.1=0)(y:¬(0<=vb.2/\vb.2<=3)): dD 215 #[P0 mb,aj t,dA i nr nr,jn 21 a b c] w (aj 8) λw'=>w.grownBy w' none:=by
 have lr:i<w.heap.size:=an w _ r.1;have Y:(a:Int)<nr:=ag
 have G:i<w.heap.size+1:=ag
 obtain⟨r0,r1,_,_⟩:=r;obtain⟨b1,o⟩:=vb;simp only[]at hz y;subst hz;obtain⟨H,s1,_,_⟩:=rb;simp only[]at H s1;have Z:(b:Int)<nr:=ag
 have u:o<0\/(¬o<0/\3<o):=ag
 rcases u with u|⟨h0,u⟩
 all_goals
  delta dD;go_in;go_wp2
  go_ret;exact⟨rfl,ax (ax (aw _ _) _) _⟩
def Nw(w w3:aa)(o a b c:Nat)(x0 x1:Int):Prop:=w.grownBy w3 none/\w3.cell? ⟨w.heap.size,0,none⟩=some (.int .i64 (o:Int))/\w3.cell? ⟨w.heap.size,1,none⟩=some (.int .i64 (a:Int))/\w3.cell? ⟨w.heap.size,2,none⟩=some (.int .i64 (b:Int))/\w3.cell? ⟨w.heap.size,3,none⟩=some (.int .i64 (c:Int))/\w3.cell? ⟨w.heap.size+1,0,none⟩=some (.int .i64 x0)/\w3.cell? ⟨w.heap.size+1,1,none⟩=some (.int .i64 x1)
theorem nw(w:aa)(o a b c:Nat)(e i:Int)(n:Nat):Nw w (((w.alloc (.cells #[aj o,aj a,aj b,aj c] 90)).alloc (.cells #[aj e,aj i] 115)).drewN n) o a b c e i:=
 ⟨df (ax (ax (aw _ _) _) _) _,by simp[go_sem],by simp[go_sem],by simp[go_sem],by simp[go_sem],by simp[go_sem],by simp[go_sem]⟩
theorem DY{mb t i nr a b c k bc:Nat}{J:Option Addr}{Y:B.V}{R:aa->Prop}(ha:a<nr)(hb:b<nr)(r:kR w i a Y)(rb:kR w i b (0,(k:Int)))(hk:k<4)(h8:w.cell? (ay mb (8+k))=some (.slice J 0 bc))(H:∀w1,w.grownBy w1 none->eL 228 #[P0 mb,aj t,aj 3,aj k,aj a] w1 λw'=>R w'): dD 215 #[P0 mb,aj t,dA i nr nr,jn 21 a b c] w (aj (-1)) λw'=>R w':=by
 have lr:i<w.heap.size:=an w _ r.1;have a1:(a:Int)<nr:=ag
 have G:i<w.heap.size+1:=ag
 obtain⟨r0,r1,r2,r3⟩:=r;obtain⟨W,s1,_,_⟩:=rb;simp only[]at W s1;have a2:(b:Int)<nr:=ag
 have lm:mb<w.heap.size:=an w _ h8;have Z:mb<w.heap.size+1:=ag
 have k1:¬((k:Int)<0):=ag
 have k2:¬(3<(k:Int)):=ag
 have k3:(k:Int)<4:=ag
 have k4:(0:Int)<=k:=ag
 delta dD;go_in;go_wp2
 go_quiet (fail)
 have u:=nw w 21 a b c 0 (k:Int) nq;rw[show((21:Nat):Int)=21 from rfl]at u;generalize ((w.alloc (.cells #[aj 21,aj a,aj b,aj c] 90)).alloc (.cells #[aj 0,aj k] 115)).drewN nq=w3 at *;obtain⟨o,i0,i1,i2,i3,y0,y1⟩:=u;go_wp2_with fail
 refine du (bj ((bj H).out w3 o)) λw4 hR=>?_;have HR:=bj hR;go_wp2
 go_ret;simp_all
theorem DZ{mb t o nr a b c k G J bn bc x:Nat}{va:B.V}(ha:a<nr)(hb:b<nr)(r:kR w o a va)(rb:kR w o b (0,(k:Int)))(hk:k<4)(h8:w.cell? (ay mb (8+k))=some (.slice (some (ay G J)) (bn+1) bc)/\w.frozen? (ay mb (8+k))=false)(hx:w.cell? (ay G J)=some (dy x))(a7:x<256)(aE:bn+1<=bc)(W:mb≠o)(n2:G≠mb)(n3:G≠o): dD 215 #[P0 mb,aj t,dA o nr nr,jn 21 a b c] w (aj 0) λw'=>(oz (w.setCell (ay mb (8+k)) (.slice (some (ay G (if bc=1 then J else J+1))) bn (bc-1))) o a (0,(x:Int))).grownBy w' none:=by
 have lr:o<w.heap.size:=an w _ r.1;have aA:(a:Int)<nr:=ag
 have aB:o<w.heap.size+1:=ag
 obtain⟨r0,r1,r2,r3⟩:=r;obtain⟨s0,s1,_,_⟩:=rb;obtain⟨h8,z8⟩:=h8;simp only[]at s0 s1;have aH:(b:Int)<nr:=ag
 have lm:mb<w.heap.size:=an w _ h8;have a5:G<w.heap.size:=an w _ hx;have aF:mb<w.heap.size+1:=ag
 have k1:¬((k:Int)<0):=ag
 have k2:¬(3<(k:Int)):=ag
 have k3:(k:Int)<4:=ag
 have k4:(0:Int)<=k:=ag
 delta dD;go_in;go_wp2
 go_quiet (fail)
 have hN:=nw w 21 a b c 0 (k:Int) nq;rw[show((21:Nat):Int)=21 from rfl]at hN;generalize ((w.alloc (.cells #[aj 21,aj a,aj b,aj c] 90)).alloc (.cells #[aj 0,aj k] 115)).drewN nq=Z at *;obtain⟨Y,i0,i1,i2,i3,y0,y1⟩:=hN;have HG:=bj Y;obtain⟨u0,u2⟩:=bd Y (a:=ay o (a*2)) lr;obtain⟨u1,u3⟩:=bd Y (a:=ay o (a*2+1)) lr;obtain⟨u4,u5⟩:=bd Y (a:=ay mb (8+k)) lm;obtain⟨u6,_⟩:=bd Y (a:=ay G J) a5;rw[r0]at u0;rw[r1]at u1;rw[r2]at u2;rw[r3]at u3;rw[h8]at u4;rw[z8]at u5;rw[hx]at u6;have l3:w.heap.size+1<Z.heap.size:=an Z _ y0;have n4:w.heap.size≠mb:=ag
 have n5:w.heap.size+1≠mb:=ag
 have H:o<Z.heap.size:=ag
 have a0:G<Z.heap.size:=ag
 clear Y r0 r1 r2 r3 h8 z8 hx s0 s1;go_wp2_with fail
 by_cases a4:bc=1
 .subst a4;have a6:bn=0:=ag
  subst a6;go_cut [] (λwx=>Hid ((Z.setCell (ay mb (8+k)) (.slice (some (ay G J)) 0 0)).grownBy wx none))
  case first=>
   go_region
   all_goals
    go_wp2
    go_meet
    case rel=>first|exact(bo (aw _ _):World.grownBy _ _ _)|exact(aw _ _:World.grownBy _ _ _)
  case rest=>
   have y:=hcut;clear hcut;have i:=y.out;have u:(Z.setCell (ay mb (8+k)) (.slice (some (ay G J)) 0 0)).heap.size=Z.heap.size:=by simp[World.setCell]
   have v0:dS wc o (a*2)=some (aj va.1):=(bd i (a:=ay o (a*2)) (eV u H)).1.trans (by simp[go_sem,u0,W,W.symm]);have v1:dS wc o (a*2+1)=some (aj va.2):=(bd i (a:=ay o (a*2+1)) (eV u H)).1.trans (by simp[go_sem,u1,W,W.symm]);have v2:wc.frozen? (ay o (a*2))=false:=(bd i (a:=ay o (a*2)) (eV u H)).2.trans (by simp[go_sem,u2,W,W.symm]);have v3:wc.frozen? (ay o (a*2+1))=false:=(bd i (a:=ay o (a*2+1)) (eV u H)).2.trans (by simp[go_sem,u3,W,W.symm]);have v4:dS wc w.heap.size 1=some (aj a):=(bd i (a:=ay w.heap.size 1) (by rw[u];show w.heap.size<_;omega)).1.trans (by simp[go_sem,i1,n4,n4.symm]);have v5:dS wc G J=some (dy x):=(bd i (a:=ay G J) (eV u a0)).1.trans (by simp[go_sem,u6,n2,n2.symm]);have HT:Hid (∀wx,(oz wc o a (0,(x:Int))).grownBy wx none->(oz (w.setCell (ay mb (8+k)) (.slice (some (ay G J)) 0 0)) o a (0,(x:Int))).grownBy wx none):=λwx hx=>ar (fT (fT (ar (fT HG _ _) i) _ _) _ _) hx;have a2:IntKind.i64.wrap (x:Int)=x:=iU
   clear i y u u0 u1 u2 u3 u4 u5 u6 i0 i1 i2 i3 y0 y1 HG;go_wp2
   go_region
   all_goals
    go_wp2
    go_ret;refine⟨rfl,HT _ ?_⟩;first|exact aw _ _|exact bo (aw _ _)
 have aD:1<bc:=ag
 have a8:¬(bc-1=0):=ag
 go_cut [] (λwx=>Hid ((Z.setCell (ay mb (8+k)) (.slice (some (ay G (J+1))) bn (bc-1))).grownBy wx none))
 case first=>
  go_region
  all_goals
   go_wp2
   go_meet
   case rel=>first|exact(bo (aw _ _):World.grownBy _ _ _)|exact(aw _ _:World.grownBy _ _ _)
 case rest=>
  have y:=hcut;clear hcut;have i:=y.out;have u:(Z.setCell (ay mb (8+k)) (.slice (some (ay G (J+1))) bn (bc-1))).heap.size=Z.heap.size:=by simp[World.setCell]
  have v0:dS wc o (a*2)=some (aj va.1):=(bd i (a:=ay o (a*2)) (eV u H)).1.trans (by simp[go_sem,u0,W,W.symm]);have v1:dS wc o (a*2+1)=some (aj va.2):=(bd i (a:=ay o (a*2+1)) (eV u H)).1.trans (by simp[go_sem,u1,W,W.symm]);have v2:wc.frozen? (ay o (a*2))=false:=(bd i (a:=ay o (a*2)) (eV u H)).2.trans (by simp[go_sem,u2,W,W.symm]);have v3:wc.frozen? (ay o (a*2+1))=false:=(bd i (a:=ay o (a*2+1)) (eV u H)).2.trans (by simp[go_sem,u3,W,W.symm]);have v4:dS wc w.heap.size 1=some (aj a):=(bd i (a:=ay w.heap.size 1) (by rw[u];show w.heap.size<_;omega)).1.trans (by simp[go_sem,i1,n4,n4.symm]);have v5:dS wc G J=some (dy x):=(bd i (a:=ay G J) (eV u a0)).1.trans (by simp[go_sem,u6,n2,n2.symm]);have HT:Hid (∀wx,(oz wc o a (0,(x:Int))).grownBy wx none->(oz (w.setCell (ay mb (8+k)) (.slice (some (ay G (J+1))) bn (bc-1))) o a (0,(x:Int))).grownBy wx none):=λwx hx=>ar (fT (fT (ar (fT HG _ _) i) _ _) _ _) hx;have a2:IntKind.i64.wrap (x:Int)=x:=iU
  clear i y u u0 u1 u2 u3 u4 u5 u6 i0 i1 i2 i3 y0 y1 HG;go_wp2
  go_region
  all_goals
   go_wp2
   go_ret;refine⟨rfl,HT _ ?_⟩;first|exact aw _ _|exact bo (aw _ _)
theorem Jk{mb t J nr a b c nt tc tb z:Nat}{R:aa->Prop}{hw:Int}(ha:a<nr)(r:kR w J a (0,(z:Int)+1))(h6:w.cell? (ay mb 6)=some (dA tb nt tc))(hz:z<nt)(hn:nt<1000000000)(Y:w.cell? (ay tb (z*8+1))=some (aj hw))(H:hw≠5->∀w1,w.grownBy w1 none->eL 196 #[P0 mb,aj ((z:Int)+1),aj 4,aj 0,vA (0,-100)] w1 λw'=>R w')(H0:hw=5->∀w1,w.grownBy w1 none->R w1): dD 215 #[P0 mb,aj t,dA J nr nr,jn 19 a b c] w (aj (if z+1=t then -1 else 0)) λw'=>R w':=by
 have lr:J<w.heap.size:=an w _ r.1;have a1:(a:Int)<nr:=ag
 obtain⟨r0,r1,r2,r3⟩:=r;simp only[]at r0 r1;have lm:mb<w.heap.size:=an w _ h6;have a4:mb<w.heap.size+1:=ag
 have lt:tb<w.heap.size:=an w _ Y;have a0:¬((z:Int)+1<1):=ag
 have a2:¬((nt:Int)<z+1):=ag;have q1:=fj (n:=z) ag;have q2:(z:Int)<nt:=ag
 have q3:(0:Int)<=z:=ag;have q4:IntKind.i64.wrap (z:Int)=z:=iU;have q5:IntKind.i64.wrap ((z:Int)+1)=(z:Int)+1:=iU;change Hid _ at H H0;delta dD;go_in;go_wp2
 go_quiet (fail)
 have hN:=nw w 19 a b c 0 ((z:Int)+1) nq;rw[show((19:Nat):Int)=19 from rfl]at hN;generalize ((w.alloc (.cells #[aj 19,aj a,aj b,aj c] 90)).alloc (.cells #[aj 0,aj ((z:Int)+1)] 115)).drewN nq=w3 at *;obtain⟨o,i0,i1,i2,i3,y0,y1⟩:=hN;have u6:=(bd o (a:=ay mb 6) lm).1.trans h6;have u1:=(bd o (a:=ay tb (z*8+1)) lt).1.trans Y;clear h6 Y r0 r1 r2 r3;by_cases Z:hw=5
 .have G:=bj (H0 Z w3 o);subst Z;clear H H0 o;by_cases i:z+1=t
  .subst i;go_wp2
   go_ret;exact⟨eB,G⟩
  have u:¬((z:Int)+1=(t:Int)):=ag;have W:(((z:Int)+1) == (t:Int))=false:=eV dX u;change Hid _ at i;go_wp2
  go_ret;exact⟨by first|rfl|(rw[au i];rfl),G⟩
 have HC:=bj (H Z w3 o);clear H H0 o;by_cases i:z+1=t
 .subst i;go_wp2_with fail
  refine du HC λw4 hR=>?_;change Hid _ at hR;go_wp2
  go_ret;exact⟨eB,hR⟩
 have u:¬((z:Int)+1=(t:Int)):=ag;have W:(((z:Int)+1) == (t:Int))=false:=eV dX u;have i:=bj i;clear i;go_wp2_with fail
 refine du HC λw4 hR=>?_;have hR:=bj hR;clear hR;go_wp2
 go_ret;exact⟨by first|rfl|(rw[au i];rfl),hR⟩
theorem D2{mb t o nr a b c nt tc tb z:Nat}{va:B.V}{R:aa->Prop}{hw:Int}(ha:a<nr)(hb:b<nr)(r:kR w o a va)(rb:kR w o b (0,(z:Int)+1))(G:w.cell? (ay mb 6)=some (dA tb nt tc))(hz:z<nt)(hn:nt<1000000000)(a1:z+1≠t)(y:w.cell? (ay tb (z*8+1))=some (aj hw))(h5:hw≠5)(H:∀w1,w.grownBy w1 none->eL 228 #[P0 mb,aj t,aj 4,aj ((z:Int)+1),aj a] w1 λw'=>R w'): dD 215 #[P0 mb,aj t,dA o nr nr,jn 18 a b c] w (aj (-1)) λw'=>R w':=by
 have lr:o<w.heap.size:=an w _ r.1;have a2:(a:Int)<nr:=ag
 have a4:o<w.heap.size+1:=ag;obtain⟨r0,r1,r2,r3⟩:=r;obtain⟨W,s1,_,_⟩:=rb;simp only[]at W s1;have a7:(b:Int)<nr:=ag
 have lm:mb<w.heap.size:=an w _ G;have a5:mb<w.heap.size+1:=ag
 have lt:tb<w.heap.size:=an w _ y;have a0:¬((z:Int)+1<1):=ag
 have a3:¬((nt:Int)<z+1):=ag;have q1:=fj (n:=z) ag;have q2:(z:Int)<nt:=ag
 have q3:(0:Int)<=z:=ag;have q4:IntKind.i64.wrap (z:Int)=z:=iU;have q5:IntKind.i64.wrap ((z:Int)+1)=(z:Int)+1:=iU;have u:¬((z:Int)+1=(t:Int)):=ag;have Z:(((z:Int)+1) == (t:Int))=false:=eV dX u;change Hid _ at H;delta dD;go_in;go_wp2
 go_quiet (fail)
 have J:=nw w 18 a b c 0 ((z:Int)+1) nq;rw[show((18:Nat):Int)=18 from rfl]at J;generalize ((w.alloc (.cells #[aj 18,aj a,aj b,aj c] 90)).alloc (.cells #[aj 0,aj ((z:Int)+1)] 115)).drewN nq=w3 at *;obtain⟨i,i0,i1,i2,i3,y0,y1⟩:=J;have u6:=(bd i (a:=ay mb 6) lm).1.trans G;have u1:=(bd i (a:=ay tb (z*8+1)) lt).1.trans y;have HC:=bj (H w3 i);clear G y r0 r1 r2 r3 W s1 i H;go_wp2_with fail
 refine du HC λw4 hR=>?_;change Hid _ at hR;go_wp2
 go_ret;exact⟨rfl,hR⟩
end D
namespace D
open F
variable {w:aa}
theorem EG(t k:Int)(y:0<=t)(o:t<=9223372036854775807)(k0:-9223372036854775808<=k)(k1:k<=9223372036854775807):Calls prog 141 #[.int .i64 t,.int .i64 k] w λe w'=>e=.returned (.int .i64 (B.iJ t k))/\w'=w:=by
 by_cases i:k<0
 .have e:B.iJ t k=t:=by unfold B.iJ;split<;>(try split)<;>omega
  rw[e];go_in;go_wp2_with fail
  go_ret;exact⟨rfl,rfl⟩
 by_cases u:t+k > 9223372036854775807
 .have e:B.iJ t k=9223372036854775807:=by unfold B.iJ;split<;>(try split)<;>omega
  have hw:wrap64 (t+k)=t+k-18446744073709551616:=by unfold wrap64;omega
  have hn:t+k-18446744073709551616<0:=ag;rw[e];go_in;go_wp2_with fail
  go_ret;exact⟨rfl,rfl⟩
 have e:B.iJ t k=t+k:=by unfold B.iJ;split<;>(try split)<;>omega
 have hw:IntKind.i64.wrap (t+k)=t+k:=by simp[IntKind.wrap,IntKind.bits,IntKind.signed];omega
 have hn:¬(t+k<0):=ag;rw[e];go_in;go_wp2_with fail
 go_ret;exact⟨rfl,rfl⟩
