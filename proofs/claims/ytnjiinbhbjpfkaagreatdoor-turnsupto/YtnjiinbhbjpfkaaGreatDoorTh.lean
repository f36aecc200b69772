import Derived.Test.YtnjiinbhbjpfkaaGreatDoorTe
set_option maxRecDepth 100000
set_option maxHeartbeats 0
set_option linter.all false
namespace Go.Proofs.YtnjiinbhbjpfkaaGreatDoor
open Go.RowKit Go.Proofs.Tryz
namespace D
open F
variable {p:dL}{d:Dp}{K:Nat}{s:Pl}{m m':Dm}{g g':Dg}{w w':aa}{ρ:Nat → Nat}
def DX{mb k G nr a b c nt tc tb:Nat}{x clk:Int}{R:aa->Prop}(ha:a<nr)(r:kR w G a (0,x))(hk:k<nt)(hn:nt<1000000000)(h0:0<=clk)(Y:clk<=9223372036854775807)(k0:-9223372036854775808<=x)(k1:x<=9223372036854775807)(H:∀w1,w.grownBy w1 none->eL 228 #[P0 mb,aj ((k:Int)+1),aj 2,aj 0,aj (-1)] w1 λw'=>R w'/\(∀j,w.heap.size<=j->j<w1.heap.size->w'.heap[j]? = w1.heap[j]?)/\w'.cell? (ay mb 6)=some (dA tb nt tc)/\w'.cell? (ay mb 5)=some (aj clk)/\(∃u:Int,w'.cell? (ay tb (k*8+4))=some (aj u))/\w'.frozen? (ay tb (k*8+4))=false): dD 215 #[P0 mb,aj ((k:Int)+1),dA G nr nr,jn 17 a b c] w (aj (-1)) λw'=>∃i,R i/\(i.setCell (ay tb (k*8+4)) (aj (B.iJ clk x))).grownBy w' none:=by
 have lr:G<w.heap.size:=an w _ r.1;have a1:(a:Int)<nr:=ag
 obtain⟨Z,r1,r2,r3⟩:=r;simp only[]at Z r1;have q1:=fj (n:=k) ag;have q2:(k:Int)<nt:=ag
 have q3:(0:Int)<=k:=ag;have q4:IntKind.i64.wrap (k:Int)=k:=iU;have HL:Hid (∀w0:aa,dD 141 #[aj clk,aj x] w0 (aj (B.iJ clk x)) λw'=>w'=w0):=λw0=>EG clk x h0 Y k0 k1;have W:=nw w 17 a b c 0 x 0;have HH:=bj (H ((w.alloc (.cells #[aj ((17:Nat):Int),aj a,aj b,aj c] 90)).alloc (.cells #[aj 0,aj x] 115)) (ax (ax (aw _ _) _) _));have HY:Hid (∀w':aa,(∀j,w.heap.size<=j->j<((w.alloc (.cells #[aj ((17:Nat):Int),aj a,aj b,aj c] 90)).alloc (.cells #[aj 0,aj x] 115)).heap.size->w'.heap[j]? = ((w.alloc (.cells #[aj ((17:Nat):Int),aj a,aj b,aj c] 90)).alloc (.cells #[aj 0,aj x] 115)).heap[j]?)->dS w' (w.heap.size+1) 1=some (aj x)):=λw' h=>(az (a:=ay (w.heap.size+1) 1) (h (w.heap.size+1) (Nat.le_succ _) (an _ _ W.2.2.2.2.2.2))).trans W.2.2.2.2.2.2;clear H W h0 Y k0 k1;generalize hy:B.iJ clk x=y at *;clear hy;delta dD;go_in;go_wp2_with fail
 refine du HH ?_;rintro i ⟨hR,J,c6,c5,⟨u,c4⟩,z4⟩;have y1:=HY i J;change Hid _ at hR;clear J HY HH Z r1 r2 r3;go_wp2
 go_cut [] (λwx=>Hid ((i.setCell (ay tb (k*8+4)) (aj y)).grownBy wx none))
 case first=>
  go_region_with (go_at_call 141;refine du (HL _) ?_;rintro w5 rfl)
  all_goals
   go_wp2
   go_meet
   case rel=>first|exact(bo (aw _ _):World.grownBy _ _ _)|exact(aw _ _:World.grownBy _ _ _)
 case rest=>
  have o:=hcut;clear hcut;go_wp2
  go_ret;exact⟨rfl,i,hR,o⟩
end D
namespace D
open F
variable {w:aa}
def Ls{mb i nr a b c:Nat}{x:Int}{u:B.V}(hb:b<nr)(Y:c<nr)(rb:kR w i b (0,x))(rc:kR w i c u): dD 214 #[P0 mb,dA i nr nr,jn 10 a b c] w (aj 2) λw'=>w.grownBy w' none:=by
 have Z:i<w.heap.size:=an w _ rb.1;have W:(b:Int)<nr:=ag
 have H:(c:Int)<nr:=ag
 have o:i<w.heap.size+1:=ag
 obtain⟨G,J,_,_⟩:=rb;obtain⟨s0,s1,_,_⟩:=rc;simp only[]at G J;delta dD;go_in;go_wp2
 go_quiet (fail)
 go_wp2
 go_ret;exact⟨rfl,df (ax (ax (ax (aw _ _) _) _) _) _⟩
def Lm{mb i nr a b c:Nat}{x:Int}{vb o:B.V}(ha:a<nr)(hb:b<nr)(hc:c<nr)(ra:kR w i a (0,x))(rb:kR w i b vb)(rc:kR w i c o): dD 214 #[P0 mb,dA i nr nr,jn 11 a b c] w (aj 2) λw'=>w.grownBy w' none:=by
 have lr:i<w.heap.size:=an w _ ra.1;have Y:(a:Int)<nr:=ag
 have u:(b:Int)<nr:=ag
 have y:(c:Int)<nr:=ag
 have G:i<w.heap.size+1:=ag
 have H:i<w.heap.size+1+1:=ag
 obtain⟨J,W,_,_⟩:=ra;obtain⟨u0,u1,_,_⟩:=rb;obtain⟨s0,s1,_,_⟩:=rc;simp only[]at J W;delta dD;go_in;go_wp2
 go_quiet (fail)
 go_wp2
 go_ret;exact⟨rfl,df (ax (ax (ax (aw _ _) _) _) _) _⟩
def yk{o i j mb u nr a b c z cb J cc sN sl v:Nat}{x H y why:Int}{vo:B.V}(ho:(o=10/\b=i/\c=j)\/(o=11/\a=i/\b=j/\(c:Int)<nr/\kR w u c vo))(hi:i<nr)(hj:j<nr)(Z:kR w u i (z+1,x))(rt:kR w u j (v,y))(hz:z<J)(hn:J<1000000000)(W:w.cell? (ay mb 12)=some (dA cb J cc))(k1:w.cell? (ay cb (z*2+1))=some (aj H))(k0:w.cell? (ay cb (z*2))=some (dA sN sl sl))(hX:(0<=H/\why=2)\/(¬(0<=H)/\(0:Int)<v/\why=1)\/(¬(0<=H)/\v=0/\decide (y<0)=true/\why=3)\/(¬(0<=H)/\v=0/\decide (y<0)=false/\decide ((sl:Int)<=y)=true/\why=3)): dD 214 #[P0 mb,dA u nr nr,jn o a b c] w (aj why) λw'=>w.grownBy w' none:=by
 have lr:u<w.heap.size:=an w _ Z.1;have lm:mb<w.heap.size:=an w _ W;have lc:cb<w.heap.size:=an w _ k1;have a5:(i:Int)<nr:=ag
 have a6:(j:Int)<nr:=ag
 have a2:u<w.heap.size+1:=ag
 have a7:u<w.heap.size+1+1:=ag
 have a1:mb<w.heap.size+1:=ag
 have a8:mb<w.heap.size+1+1:=ag
 have aB:cb<w.heap.size+1:=ag
 have a9:cb<w.heap.size+1+1:=ag
 have q1:IntKind.i64.wrap ((z:Int)+1-1)=(z:Int):=fj ag;have q2:IntKind.i64.wrap (z:Int)=z:=iU
 have q3:(z:Int)<J:=ag
 have q4:(0:Int)<=z:=ag
 have q5:(((z:Int)+1) == 0)=false:=kr dX
 obtain⟨G,r1,_,_⟩:=Z;have r0:dS w u (i*2)=some (aj ((z:Int)+1)):=G;clear G;obtain⟨s0,s1,_,_⟩:=rt;simp only[]at r1 s0 s1;rcases ho with⟨rfl,rfl,rfl⟩|⟨rfl,rfl,rfl,a0,o0,o1,_,_⟩<;>rcases hX with⟨Y,rfl⟩|⟨Y,q7,rfl⟩|⟨Y,rfl,b1,rfl⟩|⟨Y,rfl,b1,b2,rfl⟩
 all_goals
  try simp only[]at s0
  delta dD;go_in;go_wp2
  go_quiet (fail)
  go_wp2_with fail
  try
   go_quiet (fail)
   go_wp2
  go_ret;refine⟨rfl,?_⟩;first|exact df (df (ax (ax (ax (aw _ _) _) _) _) _) _|exact df (ax (ax (ax (aw _ _) _) _) _) _
def Ji{mb o nr a b c z cb G cc y sl i:Nat}{x H:Int}{va W:B.V}(ha:a<nr)(hb:b<nr)(hc:c<nr)(ra:kR w o a va)(rb:kR w o b (z+1,x))(rc:kR w o c (0,(i:Int)))(hz:z<G)(hn:G<1000000000)(J:w.cell? (ay mb 12)=some (dA cb G cc))(k1:w.cell? (ay cb (z*2+1))=some (aj H))(k0:w.cell? (ay cb (z*2))=some (dA y sl sl))(hu:H<0)(hi:i<sl)(aB:sl<=8)(BJ:kR w y i W): dD 214 #[P0 mb,dA o nr nr,jn 10 a b c] w (aj 0) λw'=>(oz w o a W).grownBy w' none:=by
 have lr:o<w.heap.size:=an w _ rb.1;have lm:mb<w.heap.size:=an w _ J;have lc:cb<w.heap.size:=an w _ k1;have ls:y<w.heap.size:=an w _ BJ.1;have aE:(a:Int)<nr:=ag
 have Y:(b:Int)<nr:=ag
 have Z:(c:Int)<nr:=ag
 have a5:o<w.heap.size+1:=ag
 have a6:o<w.heap.size+1+1:=ag
 have a4:mb<w.heap.size+1:=ag
 have a7:mb<w.heap.size+1+1:=ag
 have aD:cb<w.heap.size+1:=ag
 have a8:cb<w.heap.size+1+1:=ag
 have aC:y<w.heap.size+1:=ag
 have a9:y<w.heap.size+1+1:=ag
 have q1:IntKind.i64.wrap ((z:Int)+1-1)=(z:Int):=fj ag;have q2:IntKind.i64.wrap (z:Int)=z:=iU
 have q3:(z:Int)<G:=ag
 have q4:(0:Int)<=z:=ag
 have q5:(((z:Int)+1) == 0)=false:=kr dX
 have q6:¬(0<=H):=ag
 have b1:¬((i:Int)<0):=ag
 have b2:¬((sl:Int)<=i):=ag
 have b3:(i:Int)<sl:=ag
 have b4:IntKind.i64.wrap (sl:Int)=sl:=iU
 obtain⟨u,r1,_,_⟩:=rb;obtain⟨s0,s1,_,_⟩:=rc;obtain⟨a0,a1,a2,a3⟩:=ra;obtain⟨v0,v1,_,_⟩:=BJ;simp only[]at r1 s0 s1;delta dD;go_in;go_wp2
 go_quiet (fail)
 go_wp2
 go_quiet (fail)
 go_wp2
 go_region
 all_goals
  go_wp2
  go_ret;refine⟨rfl,?_⟩;exact fT (fT (df (ax (ax (ax (aw _ _) _) _) _) _) _ _) _ _
def Jf{mb o nr a b c z cb G cc u sl i:Nat}{x H:Int}{W vs:B.V}(ha:a<nr)(hb:b<nr)(hc:c<nr)(rb:kR w o a (z+1,x))(rc:kR w o b (0,(i:Int)))(ra:kR w o c W)(hz:z<G)(hn:G<1000000000)(J:w.cell? (ay mb 12)=some (dA cb G cc))(k1:w.cell? (ay cb (z*2+1))=some (aj H))(k0:w.cell? (ay cb (z*2))=some (dA u sl sl))(hu:H<0)(hi:i<sl)(aD:sl<=8)(BJ:kR w u i vs): dD 214 #[P0 mb,dA o nr nr,jn 11 a b c] w (aj 0) λw'=>(oz w u i W).grownBy w' none:=by
 have lr:o<w.heap.size:=an w _ rb.1;have lm:mb<w.heap.size:=an w _ J;have lc:cb<w.heap.size:=an w _ k1;have ls:u<w.heap.size:=an w _ BJ.1;have aH:(a:Int)<nr:=ag
 have Y:(b:Int)<nr:=ag
 have Z:(c:Int)<nr:=ag
 have a5:o<w.heap.size+1:=ag
 have a8:o<w.heap.size+1+1:=ag
 have a4:mb<w.heap.size+1:=ag
 have a9:mb<w.heap.size+1+1:=ag
 have aG:cb<w.heap.size+1:=ag
 have aA:cb<w.heap.size+1+1:=ag
 have aE:u<w.heap.size+1:=ag
 have aB:u<w.heap.size+1+1:=ag
 have q1:IntKind.i64.wrap ((z:Int)+1-1)=(z:Int):=fj ag;have q2:IntKind.i64.wrap (z:Int)=z:=iU
 have q3:(z:Int)<G:=ag
 have q4:(0:Int)<=z:=ag
 have q5:(((z:Int)+1) == 0)=false:=kr dX
 have q6:¬(0<=H):=ag
 have b1:¬((i:Int)<0):=ag
 have b2:¬((sl:Int)<=i):=ag
 have b3:(i:Int)<sl:=ag
 have b4:IntKind.i64.wrap (sl:Int)=sl:=iU
 obtain⟨y,r1,_,_⟩:=rb;obtain⟨s0,s1,_,_⟩:=rc;obtain⟨a0,a1,a2,a3⟩:=ra;obtain⟨v0,v1,v2,v3⟩:=BJ;simp only[]at r1 s0 s1;delta dD;go_in;go_wp2
 go_quiet (fail)
 go_wp2
 go_quiet (fail)
 go_wp2
 go_region
 all_goals
  go_wp2
  go_ret;refine⟨rfl,?_⟩;exact fT (fT (df (ax (ax (ax (aw _ _) _) _) _) _) _ _) _ _
end D
namespace D
open F
variable {p:dL}{d:Dp}{K:Nat}{s:Pl}{m m':Dm}{g g':Dg}{w w':aa}{ρ:Nat → Nat}
def Gi{mb rr nr a b c z cb nc cc sN sl ff mt lv t:Nat}{v1:Int}(hF:Ky w mb rr nr b c z cb nc cc sN sl v1 (ff:Int) (0,0) (0,0))(H77:∀w1,w.grownBy w1 none->dD 77 #[P0 mb] w1 (aj (lv:Int)) λw'=>w1.grownBy w' none)(h4:w.cell? (ay mb 4)=some (aj (mt:Int)))(hm:mt<=lv): dD 227 #[P0 mb,aj (t:Int),dA rr nr nr,jn 15 a b c] w (aj 7) λw'=>w.grownBy w' none:=by
 have hF2:=ND (op:=15) (a:=a) hF;obtain⟨hb,hc,hzl,hzn,hr0,hr1,_,_,_,lr,lb,lc⟩:=hF;have hb2:(b:Int)<(nr:Int):=ag
 have he1:rr<w.heap.size+1:=ag
 have q1:IntKind.i64.wrap ((z:Int)+1-1)=(z:Int):=fj ag;have q2:IntKind.i64.wrap (z:Int)=(z:Int):=iU
 have q3:(z:Int)<(nc:Int):=ag
 have q4:(0:Int)<=(z:Int):=ag
 have q5:(((z:Int)+1) == 0)=false:=kr dX
 change Hid _ at hF2 H77 h4;delta dD;go_in;go_wp2_with fail
 generalize (w.alloc (.cells #[aj ((15:Nat):Int),aj (a:Int),aj (b:Int),aj (c:Int)] 90)).alloc (.cells #[aj ((z:Int)+1),aj v1] 115)=w2 at *;obtain⟨KG',i0,i1,i3,x0,d12,d0,d1,hs2⟩:=hF2.out;clear KG' hr0 hr1;go_quiet (fail)
 go_wp2_with fail
 clear i0 i1 i3 x0 d12 d0 d1 hs2;obtain⟨KG',i0,i1,i3,x0,d12,d0,d1,hs2⟩:=hF2.out.drewN nq;have KG:=bj KG';generalize w2.drewN nq=w3 at *;have lc2:cb<w3.heap.size:=an w3 _ d0;have lb2:mb<w3.heap.size:=an w3 _ d12;clear KG' hF2;go_cut [10] (λq wx=>∃X:Nat,q=.pointer (some (ay X 0))/\Hid (MX w3 wx X sN sl (ff:Int)))
 case first=>
  go_region
  all_goals
   go_wp2
   go_meet
   case rel=>exact⟨_,rfl,NC _ _ _ _⟩
 case rest=>
  obtain⟨X,rfl,hF3⟩:=hcut;obtain⟨g3,v0,v1,hX⟩:=hF3.out;have o0:dS wc w.heap.size 0=some (aj ((15:Nat):Int)):=(bd g3 (a:=ay w.heap.size 0) (by show w.heap.size<_;omega)).1.trans i0;have KG4:Hid (w.grownBy wc none):=ar KG.out g3;clear hF3 g3 i0 i1 i3 x0 d12 d0 d1 hX hs2 lc2 lb2 KG v0 v1;go_wp2_with fail
  refine du (H77.out wc KG4.out) λw5 hg5=>?_;have KG5:Hid (w.grownBy w5 none):=ar KG4.out hg5;have c4:dS w5 mb 4=some (aj (mt:Int)):=(bd KG5.out (a:=ay mb 4) lb).1.trans h4.out;have hmi:(mt:Int)<=(lv:Int):=ag
  clear hg5 o0;go_wp2
  go_ret;exact⟨rfl,KG5.out⟩
def DN{mb rr nr a b c z cb nc cc sN sl ff mt lv t:Nat}{v1 qq:Int}{vc cy:B.V}{R:aa->Prop}(hF:Ky w mb rr nr b c z cb nc cc sN sl v1 (ff:Int) (0,0) (0,0))(ha:a<nr)(rc:kR w rr c vc)(rs:kR w sN 0 cy)(hsl:1<=sl)(hsl8:sl<=8)(H77:∀w1,w.grownBy w1 none->dD 77 #[P0 mb] w1 (aj (lv:Int)) λw'=>w1.grownBy w' none)(h4:w.cell? (ay mb 4)=some (aj (mt:Int)))(hm:¬mt<=lv)(H47:∀w1,w.grownBy w1 none->dD 47 #[P0 mb,aj (ff:Int),vA vc,vA cy] w1 (aj qq) λw'=>R w'/\(∀j,w.heap.size<=j->j<w1.heap.size->w'.heap[j]? = w1.heap[j]?)/\∃va,kR w' rr a va): dD 227 #[P0 mb,aj (t:Int),dA rr nr nr,jn 15 a b c] w (aj 0) λw'=>∃w4,R w4/\(oz w4 rr a (0,qq)).grownBy w' none:=by
 have hF2:=ND (op:=15) (a:=a) hF;obtain⟨hb,hc,hzl,hzn,hr0,hr1,_,_,_,lr,lb,lc⟩:=hF;have ls:sN<w.heap.size:=an w _ rs.1;have hb2:(b:Int)<(nr:Int):=ag
 have he1:rr<w.heap.size+1:=ag
 have q1:IntKind.i64.wrap ((z:Int)+1-1)=(z:Int):=fj ag;have q2:IntKind.i64.wrap (z:Int)=(z:Int):=iU
 have q3:(z:Int)<(nc:Int):=ag
 have q4:(0:Int)<=(z:Int):=ag
 have q5:(((z:Int)+1) == 0)=false:=kr dX
 have HF:=bj hF2;have HL:=bj H77;have HS:=bj H47;have H4:=bj h4;have HC:=bj rc;have HY:=bj rs;clear hF2 H77 h4 rc rs H47;delta dD;go_in;go_wp2_with fail
 generalize (w.alloc (.cells #[aj ((15:Nat):Int),aj (a:Int),aj (b:Int),aj (c:Int)] 90)).alloc (.cells #[aj ((z:Int)+1),aj v1] 115)=w2 at *;obtain⟨KG',i0,i1,i3,x0,d12,d0,d1,hs2⟩:=HF.out;clear KG' hr0 hr1;go_quiet (fail)
 go_wp2_with fail
 clear i0 i1 i3 x0 d12 d0 d1 hs2;obtain⟨KG',i0,i1,i3,x0,d12,d0,d1,hs2⟩:=HF.out.drewN nq;have KG:=bj KG';generalize w2.drewN nq=w3 at *;have lc2:cb<w3.heap.size:=an w3 _ d0;have lb2:mb<w3.heap.size:=an w3 _ d12;clear KG' HF;go_cut [10] (λq wx=>∃X:Nat,q=.pointer (some (ay X 0))/\Hid (MX w3 wx X sN sl (ff:Int)))
 case first=>
  go_region
  all_goals
   go_wp2_with fail
   go_meet
   case rel=>exact⟨_,rfl,NC _ _ _ _⟩
 case rest=>
  obtain⟨X,rfl,hF3⟩:=hcut;obtain⟨g3,v0,v1,hX⟩:=hF3.out;have o0:wc.cell? (ay w.heap.size 0)=some (aj ((15:Nat):Int)):=(bd g3 (a:=ay w.heap.size 0) (by show w.heap.size<_;omega)).1.trans i0;have o1:wc.cell? (ay w.heap.size 1)=some (aj (a:Int)):=(bd g3 (a:=ay w.heap.size 1) (by show w.heap.size<_;omega)).1.trans i1;have o3:wc.cell? (ay w.heap.size 3)=some (aj (c:Int)):=(bd g3 (a:=ay w.heap.size 3) (by show w.heap.size<_;omega)).1.trans i3;have KG4:Hid (w.grownBy wc none):=ar KG.out g3;have lw:w.heap.size<wc.heap.size:=gp g3.size
  have lX:X<wc.heap.size:=an wc _ v0;have hXw:w.heap.size<=X:=ag
  have nXr:X≠rr:=ag
  have nwr:w.heap.size≠rr:=ag
  clear hF3 g3 i0 i1 i3 x0 d12 d0 d1 hX hs2 lc2 lb2 KG;have HO:=bj (bh o1 (bh o3 (bh v0 v1)));clear o1 o3 v0 v1;go_wp2_with fail
  refine du (HL.out wc KG4.out) λw5 hg5=>?_;have KG5:Hid (w.grownBy w5 none):=ar KG4.out hg5;have c4:w5.cell? (ay mb 4)=some (aj (mt:Int)):=(bd KG5.out (a:=ay mb 4) lb).1.trans H4.out;have hmi:¬((mt:Int)<=(lv:Int)):=ag
  have HG5:=bj hg5;clear hg5 o0 HL;go_wp2_with fail
  obtain⟨o1,o3,v0,v1⟩:=HO.out;have u0:w5.cell? (ay X 0)=some (dA sN sl sl):=(bd HG5.out (a:=ay X 0) lX).1.trans v0;have u1:w5.cell? (ay X 1)=some (aj (ff:Int)):=(bd HG5.out (a:=ay X 1) lX).1.trans v1;have e1:w5.cell? (ay w.heap.size 1)=some (aj (a:Int)):=(bd HG5.out (a:=ay w.heap.size 1) lw).1.trans o1;have e3:w5.cell? (ay w.heap.size 3)=some (aj (c:Int)):=(bd HG5.out (a:=ay w.heap.size 3) lw).1.trans o3;have cc0:w5.cell? (ay rr (c*2))=some (aj (vc.1:Int)):=(bd KG5.out (a:=ay rr (c*2)) lr).1.trans HC.out.1;have cc1:w5.cell? (ay rr (c*2+1))=some (aj vc.2):=(bd KG5.out (a:=ay rr (c*2+1)) lr).1.trans HC.out.2.1;have yy0:w5.cell? (ay sN 0)=some (aj (cy.1:Int)):=(bd KG5.out (a:=ay sN 0) ls).1.trans HY.out.1;have yy1:w5.cell? (ay sN 1)=some (aj cy.2):=(bd KG5.out (a:=ay sN 1) ls).1.trans HY.out.2.1;have hc2:(c:Int)<(nr:Int):=ag
  have ha2:(a:Int)<(nr:Int):=ag
  have hs2:(0:Int)<(sl:Int):=ag
  have hs3:0<sl:=ag
  have hs4:sl≠0:=ag
  have HSP:=bj (HS.out w5.drew (bo KG5.out));have lw5:w.heap.size<w5.drew.heap.size:=an w5 _ e1;have HK6:Hid (∀w6:aa,(∀j,w.heap.size<=j->j<w5.drew.heap.size->w6.heap[j]? = w5.drew.heap[j]?)->w6.cell? (ay w.heap.size 1)=some (aj (a:Int))):=λw6 h6=>(az (a:=ay w.heap.size 1) (h6 w.heap.size (bq _) lw5)).trans e1;clear HO o1 o3 v0 v1 c4 hmi lX lw lw5 HG5 HS H4 HC HY q1 q2 q3 q4 q5 hzl hzn hb hb2 he1 KG4;go_cut [] (λwx=>Hid (∃w6,R w6/\(oz w6 rr a (0,qq)).grownBy wx none))
  case first=>
   have lX5:X<w5.heap.size:=an w5 _ u0;have ls5:sN<w5.heap.size:=an w5 _ yy0;have lz5:w.heap.size<w5.heap.size:=an w5 _ e1;have HSS:Hid (∀w':aa,w'.heap[X]? = w5.heap[X]?->w'.heap[w.heap.size]? = w5.heap[w.heap.size]?->(λw'=>w'.cell? (ay X 0)=some (dA sN sl sl)/\w'.cell? (ay X 1)=some (aj (ff:Int))/\w'.cell? (ay w.heap.size 1)=some (aj (a:Int))/\w'.cell? (ay w.heap.size 3)=some (aj (c:Int))) w'):=λw' h1 h2=>⟨(az (a:=ay X 0) h1).trans u0,(az (a:=ay X 1) h1).trans u1,(az (a:=ay w.heap.size 1) h2).trans e1,(az (a:=ay w.heap.size 3) h2).trans e3⟩;refine wp_region_held_drew (S:=(λw'=>w'.cell? (ay X 0)=some (dA sN sl sl)/\w'.cell? (ay X 1)=some (aj (ff:Int))/\w'.cell? (ay w.heap.size 1)=some (aj (a:Int))/\w'.cell? (ay w.heap.size 3)=some (aj (c:Int)))) eX (HSS.out _ rfl rfl) (λhHeld=>?_);refine wpAnyH_take (i:=0) (v:=?v1) rfl eX eX eX (λ_ _ _ h=>h) (af ⟨by rfl,?hy1⟩) pZ ?rest1
   case hy1=>
    intro w' hSw;try dsimp only at hSw
    first|(go_simp;done)|(go_simp;with_reducible rfl)
   try simp only[Act.put,bm,cm,cn]
   refine wpAnyH_take (i:=1) (v:=?v2) rfl eX eX eX (λ_ _ _ h=>h) (af ⟨by rfl,?hy2⟩) pZ ?rest2
   case hy2=>
    intro w' hSw;try dsimp only at hSw
    first|(go_simp;done)|(go_simp;with_reducible rfl)
   try simp only[Act.put,bm,cm,cn]
   refine wpAnyH_take (i:=2) (v:=?v3) rfl eX eX eX (λ_ _ _ h=>h) (af ⟨by rfl,?hy3⟩) pZ ?rest3
   case hy3=>
    intro w' hSw;try dsimp only at hSw
    first|(go_simp;done)|(go_simp;with_reducible rfl)
   try simp only[Act.put,bm,cm,cn]
   refine wpAnyH_take (i:=3) (v:=?v4) rfl eX eX eX (λ_ _ _ h=>h) (af ⟨by rfl,?hy4⟩) pZ ?rest4
   case hy4=>
    intro w' hSw;try dsimp only at hSw
    first|(go_simp;done)|(go_simp;with_reducible rfl)
   try simp only[Act.put,bm,cm,cn]
   refine wpAnyH_take (i:=4) (v:=?v5) rfl eX eX eX (λ_ _ _ h=>h) (af ⟨by rfl,?hy5⟩) pZ ?rest5
   case hy5=>
    intro w' hSw;try dsimp only at hSw
    first|(go_simp;done)|(go_simp;with_reducible rfl)
   try simp only[Act.put,bm,cm,cn]
   refine wpAnyH_take (i:=5) (v:=?v6) rfl eX eX eX (λ_ _ _ h=>h) (af ⟨by rfl,?hy6⟩) pZ ?rest6
   case hy6=>
    intro w' hSw;try dsimp only at hSw
    first|(go_simp;done)|(go_simp;with_reducible rfl)
   try simp only[Act.put,bm,cm,cn]
   refine wpAnyH_take (i:=6) (v:=?v7) rfl eX eX eX (λ_ _ _ h=>h) (af ⟨by rfl,?hy7⟩) pZ ?rest7
   case hy7=>
    intro w' hSw;try dsimp only at hSw
    first|(go_simp;done)|(go_simp;with_reducible rfl)
   try simp only[Act.put,bm,cm,cn]
   refine wpAnyH_take (i:=7) (v:=?v8) rfl eX eX eX (λ_ _ _ h=>h) (af ⟨by rfl,?hy8⟩) pZ ?rest8
   case hy8=>
    intro w' hSw;try dsimp only at hSw
    first|(go_simp;done)|(go_simp;with_reducible rfl)
   try simp only[Act.put,bm,cm,cn]
   refine wpAnyH_take (i:=8) (v:=?v9) rfl eX eX eX (λ_ _ _ h=>h) (af ⟨by rfl,?hy9⟩) pZ ?rest9
   case hy9=>
    intro w' hSw;try dsimp only at hSw
    first|(go_simp;done)|(go_simp;with_reducible rfl)
   try simp only[Act.put,bm,cm,cn]
   refine wpAnyH_take (i:=9) (v:=?v10) rfl eX eX eX (λ_ _ _ h=>h) (af ⟨by rfl,?hy10⟩) pZ ?rest10
   case hy10=>
    intro w' hSw;try dsimp only at hSw
    first|(go_simp;done)|(go_simp;with_reducible rfl)
   try simp only[Act.put,bm,cm,cn]
   refine wpAnyH_take (i:=11) (v:=?v11) rfl eX eX eX (λ_ _ _ h=>h) (af ⟨by rfl,?hy11⟩) pZ ?rest11
   case hy11=>
    intro w' hSw;try dsimp only at hSw
    first|(go_simp;done)|(go_simp;with_reducible rfl)
   try simp only[Act.put,bm,cm,cn]
   refine wpAnyH_take (i:=12) (v:=?v12) rfl eX eX eX (λ_ _ _ h=>h) (af ⟨by rfl,?hy12⟩) pZ ?rest12
   case hy12=>
    intro w' hSw;try dsimp only at hSw
    first|(go_simp;done)|(go_simp;with_reducible rfl)
   try simp only[Act.put,bm,cm,cn]
   refine wpAnyH_take (i:=13) (v:=?v13) rfl eX eX eX (λ_ _ _ h=>h) (af ⟨by rfl,?hy13⟩) pZ ?rest13
   case hy13=>
    intro w' hSw;try dsimp only at hSw
    first|(go_simp;done)|(go_simp;with_reducible rfl)
   try simp only[Act.put,bm,cm,cn]
   refine wpAnyH_ready (rs:=[10,14]) eX eB ?_;refine AllReadyH.cons rfl (λK hK=>?way1) (AllReadyH.cons rfl (λK hK=>?way2) AllReadyH.nil)
   case way1=>
    go_simp
    refine hK.out _ _ ?hs14 (λhHeld=>?_)
    case hs14=>exact HSS.out _ rfl rfl
    clear hK K;try simp only[Act.put,bm,cm,cn]
    refine wpAnyH_ready (rs:=[14]) eX eB ?_;refine AllReadyH.cons rfl (λK hK=>?_) AllReadyH.nil;go_simp
    refine hK.out _ _ ?hs15 (λhHeld=>?_)
    case hs15=>exact HSS.out _ rfl rfl
    clear hK K;try simp only[Act.put,bm,cm,cn]
    refine wpAnyH_ready (rs:=[15]) eX eB ?_;refine AllReadyH.cons rfl (λK hK=>?_) AllReadyH.nil;go_simp
    refine du HSP ?_;rintro w6 ⟨hR6,h6,va,a0,a1,a2,a3⟩;have k1:=HK6.out w6 h6;have b6:w6.heap[X]? = w5.heap[X]?:=h6 X hXw lX5;have b7:w6.heap[w.heap.size]? = w5.heap[w.heap.size]?:=h6 _ (bq _) lz5;have HR6:=bj hR6;clear hR6 h6;go_wp2_with fail
    refine hK.out _ _ ?hs16 (λhHeld=>?_)
    case hs16=>exact HSS.out _ b6 b7
    clear hK K;try simp only[Act.put,bm,cm,cn]
    refine wpAnyH_take (i:=16) (v:=?v17) rfl eX eX eX (λ_ _ _ h=>h) (af ⟨by rfl,?hy17⟩) pZ ?rest17
    case hy17=>
     intro w' hSw;try dsimp only at hSw
     first|(go_simp;done)|(go_simp;with_reducible rfl)
    try simp only[Act.put,bm,cm,cn]
    refine wpAnyH_take (i:=17) (v:=?v18) rfl eX eX eX (λ_ _ _ h=>h) (af ⟨by rfl,?hy18⟩) pZ ?rest18
    case hy18=>
     intro w' hSw;try dsimp only at hSw
     first|(go_simp;done)|(go_simp;with_reducible rfl)
    try simp only[Act.put,bm,cm,cn]
    refine wpAnyH_ready (rs:=[18]) eX eB ?_;refine AllReadyH.cons rfl (λK hK=>?_) AllReadyH.nil;go_simp
    refine hK.out _ _ ?hs19 (λhHeld=>?_)
    case hs19=>exact HSS.out _ ((ab _ _ _ _ nXr).trans ((ab _ _ _ _ nXr).trans b6)) ((ab _ _ _ _ nwr).trans ((ab _ _ _ _ nwr).trans b7))
    clear hK K;try simp only[Act.put,bm,cm,cn]
    refine wpAnyH_done eX ?_ _;go_wp2_with fail
    go_meet
    case rel=>exact⟨w6,HR6.out,by first|exact aw _ _|exact bo (aw _ _)⟩
   case way2=>
    go_simp
    refine hK.out _ _ ?hs20 (λhHeld=>?_)
    case hs20=>exact HSS.out _ rfl rfl
    clear hK K;try simp only[Act.put,bm,cm,cn]
    refine wpAnyH_ready (rs:=[10]) eX eB ?_;refine AllReadyH.cons rfl (λK hK=>?_) AllReadyH.nil;go_simp
    refine hK.out _ _ ?hs21 (λhHeld=>?_)
    case hs21=>exact HSS.out _ rfl rfl
    clear hK K;try simp only[Act.put,bm,cm,cn]
    refine wpAnyH_ready (rs:=[15]) eX eB ?_;refine AllReadyH.cons rfl (λK hK=>?_) AllReadyH.nil;go_simp
    refine du HSP ?_;rintro w6 ⟨hR6,h6,va,a0,a1,a2,a3⟩;have k1:=HK6.out w6 h6;have b6:w6.heap[X]? = w5.heap[X]?:=h6 X hXw lX5;have b7:w6.heap[w.heap.size]? = w5.heap[w.heap.size]?:=h6 _ (bq _) lz5;have HR6:=bj hR6;clear hR6 h6;go_wp2_with fail
    refine hK.out _ _ ?hs22 (λhHeld=>?_)
    case hs22=>exact HSS.out _ b6 b7
    clear hK K;try simp only[Act.put,bm,cm,cn]
    refine wpAnyH_take (i:=16) (v:=?v23) rfl eX eX eX (λ_ _ _ h=>h) (af ⟨by rfl,?hy23⟩) pZ ?rest23
    case hy23=>
     intro w' hSw;try dsimp only at hSw
     first|(go_simp;done)|(go_simp;with_reducible rfl)
    try simp only[Act.put,bm,cm,cn]
    refine wpAnyH_take (i:=17) (v:=?v24) rfl eX eX eX (λ_ _ _ h=>h) (af ⟨by rfl,?hy24⟩) pZ ?rest24
    case hy24=>
     intro w' hSw;try dsimp only at hSw
     first|(go_simp;done)|(go_simp;with_reducible rfl)
    try simp only[Act.put,bm,cm,cn]
    refine wpAnyH_ready (rs:=[18]) eX eB ?_;refine AllReadyH.cons rfl (λK hK=>?_) AllReadyH.nil;go_simp
    refine hK.out _ _ ?hs25 (λhHeld=>?_)
    case hs25=>exact HSS.out _ ((ab _ _ _ _ nXr).trans ((ab _ _ _ _ nXr).trans b6)) ((ab _ _ _ _ nwr).trans ((ab _ _ _ _ nwr).trans b7))
    clear hK K;try simp only[Act.put,bm,cm,cn]
    refine wpAnyH_done eX ?_ _;go_wp2_with fail
    go_meet
    case rel=>exact⟨w6,HR6.out,by first|exact aw _ _|exact bo (aw _ _)⟩
  case rest=>
   have hcut':=hcut;clear hcut;go_wp2_with fail
   go_ret;obtain⟨w6,h6,hg⟩:=hcut'.out;exact⟨rfl,w6,h6,hg⟩
def D3{mb t o nr a b c nt tc tb z:Nat}{va:B.V}{o1:Nat}{o2:Int}(ha:a<nr)(hb:b<nr)(r:kR w o a va)(rb:kR w o b (0,(z:Int)+1))(H:w.cell? (ay mb 6)=some (dA tb nt tc))(hz:z<nt)(hn:nt<1000000000)(a3:z+1≠t)(G:w.cell? (ay tb (z*8+1))=some (aj 5))(g1:w.cell? (ay tb (z*8+6))=some (aj o1))(g2:w.cell? (ay tb (z*8+7))=some (aj o2)): dD 215 #[P0 mb,aj t,dA o nr nr,jn 18 a b c] w (aj 0) λw'=>(oz w o a (o1,o2)).grownBy w' none:=by
 have y:o<w.heap.size:=an w _ r.1;have a4:(a:Int)<nr:=ag
 have a6:o<w.heap.size+1:=ag
 obtain⟨Y,r1,r2,W⟩:=r;obtain⟨Z,s1,_,_⟩:=rb;simp only[]at Z s1;have a9:(b:Int)<nr:=ag
 have lm:mb<w.heap.size:=an w _ H;have a7:mb<w.heap.size+1:=ag
 have lt:tb<w.heap.size:=an w _ G;have a2:¬((z:Int)+1<1):=ag
 have a5:¬((nt:Int)<z+1):=ag
 have q1:=fj (n:=z) ag;have q2:(z:Int)<nt:=ag
 have q3:(0:Int)<=z:=ag
 have q4:IntKind.i64.wrap (z:Int)=z:=iU
 have q5:IntKind.i64.wrap ((z:Int)+1)=(z:Int)+1:=iU
 have a0:(((z:Int)+1) == (t:Int))=false:=by rw[dX];exact by omega
 delta dD;go_in;go_wp2
 go_quiet (fail)
 have J:=nw w 18 a b c 0 ((z:Int)+1) nq;rw[show((18:Nat):Int)=18 from rfl]at J;generalize ((w.alloc (.cells #[aj 18,aj a,aj b,aj c] 90)).alloc (.cells #[aj 0,aj ((z:Int)+1)] 115)).drewN nq=w3 at *;obtain⟨i,i0,i1,i2,i3,y0,y1⟩:=J;have u6:=(bd i (a:=ay mb 6) lm).1.trans H;have u1:=(bd i (a:=ay tb (z*8+1)) lt).1.trans G;have u2:=(bd i (a:=ay tb (z*8+6)) lt).1.trans g1;have u3:=(bd i (a:=ay tb (z*8+7)) lt).1.trans g2;have v0:=(bd i (a:=ay o (a*2)) y).1.trans Y;have v1:=(bd i (a:=ay o (a*2+1)) y).1.trans r1;have v2:=(bd i (a:=ay o (a*2)) y).2.trans r2;have v3:=(bd i (a:=ay o (a*2+1)) y).2.trans W;change Hid _ at i;clear H G g1 g2 Y r1 r2 W Z s1;go_wp2
 go_region
 all_goals
  go_wp2
  go_ret;refine⟨rfl,?_⟩;first|exact fT (fT i _ _) _ _|exact bo (fT (fT i _ _) _ _)
end D
namespace D
open F
variable {p:dL}{d:Dp}{K:Nat}{s s':Pl}{m m':Dm}{g g':Dg}{w w':aa}{ρ ρ':Nat → Nat}{t tb fb n nr a b c:Nat}{why:Int}
section
variable (h:dZ d m g w)(hS:eF p K s m ρ)(hR:Rn p s t)(hQ:oV p d s m g w ρ t tb fb n nr)(hK:K < 900000000)
include h hS hR hQ hK
def LY(hv:jE ((bw s t).R a))(Z:a<nr):Calls prog 215 #[P0 g.mb,aj t,dA (g.rb t n) nr nr,jn 17 a b c] w λe w'=>∃v:Int,e=.returned (aj v)/\iO p d K s t m g w (jl s t a).1 (jl s t a).2 v w':=by
 have ga:dW p s ((bw s t).R a):=hR.nM (eV hQ.r2 Z);have ra:=hQ.rc Z;have H:=(hS.small hR.ok).1;unfold jl;generalize (bw s t).R a=x at *;by_cases Y:x.1=0
 case neg=>
  rw[au Y];refine du (AS (af rfl) Z ra (λe=>Y ((ti hR.ok hS ga).1.1 e))) λw' G=>?_;grind[iO.fail]
 rw[bf Y];rw[ox Y,show x=(0,x.2) from fV Y rfl]at ra;obtain⟨k,rfl⟩:∃k,t=k+1:=⟨t-1,gp hR.ht.1⟩
 have c0:=hR.ok.c0;have c1:=hR.ok.c1;rw[<-hS.ck]at c0 c1 ⊢;have W:(m.wait (k+1) 2 0 (-1)).T (k+1)=(m.T (k+1)).wt 2 0 (-1) (m.jw+1):=bf rfl;have J:mY (m.wait (k+1) 2 0 (-1)) (k+1):=hQ.dt;have i:(((k+1:Nat)):Int)=(k:Int)+1:=ag
 rw[i];refine(DX (k:=k) (tb:=tb) (nt:=m.nt) (tc:=(g.ro 1 0).2) (clk:=m.clk) (R:=λw'=>Tr d m g w (m.wait (k+1) 2 0 (-1)) g w') Z ra (gp hQ.dt.2) H c0 c1 hv.1 hv.2 (λw1 G=>?_)).mono ?_
 .have hL:=Dl (how:=2) (what:=0) (into:=-1) (h.kept G) hQ.dt H (gp hS.B.2);rw[i]at hL;refine du hL λw' y=>?_;refine⟨rfl,y.ahead G,λj a0 a2=>y.o.same a2 (h.fresh a0),?_,(y.r.mc 5 ag rfl).1,?_⟩
  .have:=(y.r.mc 6 ag (v:=.slice (g.ro 1 0).1 m.nt (g.ro 1 0).2) rfl).1;rw[hQ.T.b]at this;omega
  obtain⟨a1,e1,_,tc⟩:=y.r.tc J;have:a1=tb:=by
   have:=hQ.T.b;rw[e1]at this;injection this with this _;injection this with this;injection this with this _
  subst this;have:=tc.c 4 ag;rw[dC]at this;exact⟨⟨_,this.1⟩,this.2⟩
 rintro e w' ⟨rfl,w4,y,G⟩;have h2:=y.r.sK (t:=k+1) J hQ.T.b 4 ag (aj (B.iJ m.clk x.2)) (x':={ (m.T (k+1)).wt 2 0 (-1) (m.jw+1) with lH:=B.iJ m.clk x.2 }) (by rw[W]) (λj hj=>by
  rw[W];have hc:=oU 7 j ag
  rcases hc with rfl|rfl|rfl|rfl|rfl|rfl|rfl|rfl<;>rfl)
 rw[dC]at h2;refine⟨-1,rfl,iO.stop ((y.trans h2).kept G) (hS.iq (u:=B.iJ m.clk x.2) hR.ok hR.lv hR.wh rfl) ?_⟩;unfold Pl.iq Pl.into Pl.oL;rw[di];rfl
end
def IW{rr:Nat}(h:dZ d m g w)(hq:m.q.length<=1000000000)(hb:b<256)(hc:c<256): dD 194 #[P0 g.mb,aj t,dA rr nr nr,jn 16 a b c] w (aj (-1)) λw'=>∃g',Tr d m g w (m.sE t) g' w':=by
 obtain⟨i0,hi,a2,Y,W⟩:=info_parts Tryz.sr;have q1:IntKind.i64.wrap (256*(b:Int))=256*(b:Int):=iU
 have q2:IntKind.i64.wrap (256*(b:Int)+(c:Int))=256*(b:Int)+(c:Int):=iU
 obtain⟨c7,z7⟩:=h.mc 7 ag (v:=.slice (g.ro 2 0).1 m.q.length (g.ro 2 0).2) rfl;have le:=h.M.lt;have a3:g.mb<w.heap.size+1:=ag
 have a4:g.mb<w.heap.size+1+1:=ag
 have HR:=bj h;have HQ:Hid (gd w 3 (.slice (g.ro 2 0).1 m.q.length (g.ro 2 0).2) (jJ m.q)):=h.Q;have HK:Hid (∀j,(Value.slice (g.ro 2 0).1 m.q.length (g.ro 2 0).2).ownBlock=some j->j≠g.mb/\j<w.heap.size):=λj G=>by
  have J:fi (g.ro 2 0).1=some j:=by rw[<-dF (g.ro 2 0).1 m.q.length (g.ro 2 0).2];exact G
  exact⟨h.ne (x:=2) (y:=0) (z:=0) (x':=0) (y':=0) (z':=0) (oQ ag) rfl J rfl ag,HQ.lt j G⟩
 have hl:(jJ m.q).length=m.q.length:=jC _;change Hid _ at hl;clear h;delta dD;go_in;go_wp2_with (at_builtin;refine jf _ rfl (.tmp 138) (.tmp 140) 54 rfl 3 i0 _ 8 Tryz.jh hi a2 Y W rfl _ (jJ m.q) rfl (HQ.block ?cq) _ _ (aj t) rfl ?c1 rfl ?c3 ?c4 ?_)
 case cq=>
  intro j G;obtain⟨k1,k2⟩:=HK j G;grind[Below.heap_alloc]
 try case c1=>simp[go_sem]
 try case c3=>rw[hl.out];unfold maxLen;omega
 try case c4=>rw[hl.out];omega
 intro qb off cap u i hg o;rw[hl.out]at i;have a0:=bj i;have Z:=bj hg;have a1:=bj o;have b0:u.heap[g.mb]? = w.heap[g.mb]?:=by rw[hg.block g.mb fH (λh=>(HK g.mb h.symm).1 rfl),av _ _ _ fH,av _ _ _ le]
 have d7:=(az (a:=ay g.mb 7) b0).trans c7;have e7:=(dr (a:=ay g.mb 7) b0).trans z7;go_wp2
 go_ret;refine⟨rfl,g.at 2 0 (some (ay qb off),cap),?_⟩;have h0:=(Tr.refl HR).kept (ax (ax (aw w none) (.cells #[aj ((16:Nat):Int),aj a,aj b,aj c] 90)) (.cells #[aj t] 3));have h1:=Tr.sE (t:=t) (b:=qb) (off:=off) (c:=cap) h0 a0 Z (a1.imp id (λe=>by rw[e];simp));first
  | exact h1
  | (rw[hl.out];exact h1)
def Ns(h:dZ d m g w)(hS:eF p K s m ρ)(hR:Rn p s t){o:Nat}(H:b<256)(y:c<256):Calls prog 194 #[P0 g.mb,aj t,dA o nr nr,jn 16 a b c] w λe w'=>∃v:Int,e=.returned (aj v)/\iO p d K s t m g w 0 (s.dY 2 0 t) v w':=by
 refine du (IW h (hS.small hR.ok).2 H y) ?_;rintro w' ⟨g',G⟩;have i:=hS.join (x:=m.T t) hR.ok hR.lv (by grind[F.Rn.wh]) ⟨rfl,rfl,rfl,(hS.T t hR.lv).h.h0 hR.wh⟩;have e:m.dx t (m.T t)=m:=by
  unfold Dm.dx;have:(λu=>if u=t then m.T t else m.T u)=m.T:=by
   funext u
   by_cases e:u=t
   .grind
   rw[au e]
  rw[this]
 rw[e]at i;refine⟨-1,rfl,iO.stop G (i.mono ag) ?_⟩;rw[jT];rfl
end D
namespace D
open F
variable {p:dL}{d:Dp}{K:Nat}{s s':Pl}{m m':Dm}{g g':Dg}{w w':aa}{ρ ρ':Nat → Nat}{t tb fb n nr a b c:Nat}{why:Int}
structure OC(m:Dm) (g:Dg) (w:aa) (s:Pl) (ρ:Nat->Nat) (v:B.V) (z cb:Nat):Prop where
 e:ρ v.1=z+1
 l:z<m.nc
 ev:tr ρ v=(z+1,0)
 CF:w.cell? ⟨g.mb,12,none⟩=some (.slice (some ⟨cb,0,none⟩) m.nc (g.ro 3 0).2)
 k0:w.cell? ⟨cb,z*2,none⟩=some (.slice (some ⟨g.sb (z+1),0,none⟩) (s.M v.1).length (s.M v.1).length)
 k1:w.cell? ⟨cb,z*2+1,none⟩=some (.int .i64 ((s.ck v.1:Int)-1))
 sl:∀i,i<(s.M v.1).length->kR w (g.sb (z+1)) i (tr ρ ((s.M v.1).getD i (0,0)))
 l8:(s.M v.1).length<=8
 lm:(m.M (z+1)).length=(s.M v.1).length
def eF.NO(hS:eF p K s m ρ)(h:dZ d m g w)(hO:Ok p s){v:B.V}(W:dW p s v)(h0:v.1≠0):∃z y,OC m g w s ρ v z y:=by
 obtain⟨Y,G,H,J,Z⟩:=hS.IH hO W h0;obtain⟨y,k1,k2,k3,o,u⟩:=h.cc G H;obtain⟨z,hz⟩:∃z,ρ v.1=z+1:=⟨ρ v.1-1,ag⟩;have e:=h.S G H;rw[hz]at Y G H J Z o u e;rw[dC]at o u;have hl:(m.M (z+1)).length=(s.M v.1).length:=by rw[J,ef]
 refine⟨z,y,hz,ag,Y,k3,eR,eR,λi hi=>?_,(hS.C v.1 (B.pR.vO W h0)).l,hl⟩;have:=Jn e (a:=i) ag;have e6:mW (m.M (z+1)) i=tr ρ ((s.M v.1).getD i (0,0)):=by
  unfold mW;rw[J,cr,eP,cr,bz hi];rfl
 rw[e6]at this;exact this
section
variable (h:dZ d m g w)(hS:eF p K s m ρ)(hR:Rn p s t)(hQ:oV p d s m g w ρ t tb fb n nr)(hK:K < 900000000)
include h hS hR hQ hK
def L6(ha:a<nr)(W:b<nr)(J:c<nr)(hi:kM p s t (10,a,b,c) why s'):Calls prog 214 #[P0 g.mb,dA (g.rb t n) nr nr,jn 10 a b c] w λe w'=>∃v:Int,e=.returned (aj v)/\iO p d K s t m g w why s' v w':=by
 have hi:(FY s ((bw s t).R b) ((bw s t).R c)/\why=0/\s'=s.dJ t (de s t) ((bw s t).set a ((s.M ((bw s t).R b).1).getD ((bw s t).R c).2.toNat (0,0))))\/(¬FY s ((bw s t).R b) ((bw s t).R c)/\why=(ot s ((bw s t).R b) ((bw s t).R c):Nat)/\s'=s):=hi;have gb:=hR.nM (eV hQ.r2 W);have gc:dW p s ((bw s t).R c):=hR.nM (eV hQ.r2 J);have rb:=hQ.rc W;have rc:=hQ.rc J;generalize hx:(bw s t).R b=x at *;generalize hy:(bw s t).R c=y at *;have G:∀k:Nat,0<k->¬FY s x y->ot s x y=k->Calls prog 214 #[P0 g.mb,dA (g.rb t n) nr nr,jn 10 a b c] w (λe w'=>e=.returned (aj k)/\w.grownBy w' none)->Calls prog 214 #[P0 g.mb,dA (g.rb t n) nr nr,jn 10 a b c] w λe w'=>∃v:Int,e=.returned (aj v)/\iO p d K s t m g w why s' v w':=λk hk hn he H=>by
  rcases hi with⟨h',_⟩|⟨_,rfl,rfl⟩
  .grind
  refine du H λw' hg=>?_;grind[iO.fail]
 by_cases Y:x.1=0
 .refine G 2 ag (λe=>e.1 Y) (by unfold ot;grind) ?_;rw[ox Y,show x=(0,x.2) from fV Y rfl]at rb;exact Ls W J rb rc
 obtain⟨z,cb,i⟩:=hS.NO h hR.ok gb Y;have u:m.nc<1000000000:=gp hS.B.1
 rw[i.ev]at rb;by_cases hk:s.ck x.1=0
 case neg=>
  refine G 2 ag (λe=>hk e.2.1) (by unfold ot;grind) ?_;exact yk (vo:=(0,0)) (af ⟨rfl,rfl,rfl⟩) W J rb rc i.l u i.CF i.k1 i.k0 (af ⟨ag,rfl⟩)
 have hw:¬(x.1=0\/s.ck x.1≠0):=λe=>e.elim Y (λe=>e hk);by_cases o:y.1=0
 case neg=>
  refine G 1 ag (λe=>o e.2.2.1) (by unfold ot;grind) ?_;exact yk (vo:=(0,0)) (af ⟨rfl,rfl,rfl⟩) W J rb rc i.l u i.CF i.k1 i.k0 (ah (af ⟨ag,Int.natCast_pos.2 (Nat.pos_of_ne_zero λe=>o ((ti hR.ok hS gc).1.1 e)),rfl⟩))
 rw[ox o,show y=(0,y.2) from fV o rfl]at rc;have Z:ot s x y=3:=by unfold ot;rw[au hw,au (λe=>e o)]
 by_cases y1:y.2<0
 .refine G 3 ag (λe=>by have:=e.2.2.2.1;omega) Z ?_;exact yk (vo:=(0,0)) (af ⟨rfl,rfl,rfl⟩) W J rb rc i.l u i.CF i.k1 i.k0 (ah (ah (af ⟨ag,rfl,fp y1,rfl⟩)))
 by_cases y2:((s.M x.1).length:Int)<=y.2
 .refine G 3 ag (λe=>by have:=e.2.2.2.2;omega) Z ?_;exact yk (vo:=(0,0)) (af ⟨rfl,rfl,rfl⟩) W J rb rc i.l u i.CF i.k1 i.k0 (ah (ah (ah ⟨ag,rfl,eW y1,fp y2,rfl⟩)))
 rcases hi with⟨_,rfl,rfl⟩|⟨h',_⟩
 .have a1:y.2=((y.2.toNat:Nat):Int):=ag;rw[a1]at rc;have a0:y.2.toNat<(s.M x.1).length:=ag
  refine du (Ji ha W J (hQ.rc ha) rb rc i.l u i.CF i.k1 i.k0 ag a0 i.l8 (i.sl _ a0)) λw' hg=>?_;exact⟨0,rfl,hQ.goes h hS hR a (uJ (B.pR.vO gb Y) _) hg⟩
 exact dp ⟨Y,hk,o,ag,ag⟩ h'
def L5(W:a<nr)(Y:b<nr)(hc:c<nr)(hi:kM p s t (11,a,b,c) why s'):Calls prog 214 #[P0 g.mb,dA (g.rb t n) nr nr,jn 11 a b c] w λe w'=>∃v:Int,e=.returned (aj v)/\iO p d K s t m g w why s' v w':=by
 have hi:(FY s ((bw s t).R a) ((bw s t).R b)/\why=0/\s'=s.ur ((bw s t).R a).1 ((bw s t).R b).2.toNat ((bw s t).R c))\/(¬FY s ((bw s t).R a) ((bw s t).R b)/\why=(ot s ((bw s t).R a) ((bw s t).R b):Nat)/\s'=s):=hi;have gb:=hR.nM (eV hQ.r2 W);have gc:dW p s ((bw s t).R b):=hR.nM (eV hQ.r2 Y);have gv:dW p s ((bw s t).R c):=hR.nM (eV hQ.r2 hc);have rb:=hQ.rc W;have rc:=hQ.rc Y;have rv:=hQ.rc hc;generalize hx:(bw s t).R a=x at *;generalize hy:(bw s t).R b=y at *;generalize hv:(bw s t).R c=v at *;have J:∀k:Nat,0<k->¬FY s x y->ot s x y=k->Calls prog 214 #[P0 g.mb,dA (g.rb t n) nr nr,jn 11 a b c] w (λe w'=>e=.returned (aj k)/\w.grownBy w' none)->Calls prog 214 #[P0 g.mb,dA (g.rb t n) nr nr,jn 11 a b c] w λe w'=>∃v:Int,e=.returned (aj v)/\iO p d K s t m g w why s' v w':=λk hk hn he H=>by
  rcases hi with⟨h',_⟩|⟨_,rfl,rfl⟩
  .grind
  refine du H λw' hg=>?_;grind[iO.fail]
 by_cases Z:x.1=0
 .refine J 2 ag (λe=>e.1 Z) (by unfold ot;grind) ?_;rw[ox Z,show x=(0,x.2) from fV Z rfl]at rb;exact Lm W Y hc rb rc rv
 obtain⟨z,cb,o⟩:=hS.NO h hR.ok gb Z;have G:m.nc<1000000000:=gp hS.B.1
 rw[o.ev]at rb;by_cases hk:s.ck x.1=0
 case neg=>
  refine J 2 ag (λe=>hk e.2.1) (by unfold ot;grind) ?_;exact yk (ah ⟨rfl,rfl,rfl,ag,rv⟩) W Y rb rc o.l G o.CF o.k1 o.k0 (af ⟨ag,rfl⟩)
 have hw:¬(x.1=0\/s.ck x.1≠0):=λe=>e.elim Z (λe=>e hk);by_cases u:y.1=0
 case neg=>
  refine J 1 ag (λe=>u e.2.2.1) (by unfold ot;grind) ?_;exact yk (ah ⟨rfl,rfl,rfl,ag,rv⟩) W Y rb rc o.l G o.CF o.k1 o.k0 (ah (af ⟨ag,Int.natCast_pos.2 (Nat.pos_of_ne_zero λe=>u ((ti hR.ok hS gc).1.1 e)),rfl⟩))
 rw[ox u,show y=(0,y.2) from fV u rfl]at rc;have a1:ot s x y=3:=by unfold ot;rw[au hw,au (λe=>e u)]
 by_cases y1:y.2<0
 .refine J 3 ag (λe=>by have:=e.2.2.2.1;omega) a1 ?_;exact yk (ah ⟨rfl,rfl,rfl,ag,rv⟩) W Y rb rc o.l G o.CF o.k1 o.k0 (ah (ah (af ⟨ag,rfl,fp y1,rfl⟩)))
 by_cases y2:((s.M x.1).length:Int)<=y.2
 .refine J 3 ag (λe=>by have:=e.2.2.2.2;omega) a1 ?_;exact yk (ah ⟨rfl,rfl,rfl,ag,rv⟩) W Y rb rc o.l G o.CF o.k1 o.k0 (ah (ah (ah ⟨ag,rfl,eW y1,fp y2,rfl⟩)))
 rcases hi with⟨_,rfl,rfl⟩|⟨h',_⟩
 .have a2:y.2=((y.2.toNat:Nat):Int):=ag;rw[a2]at rc;have a0:y.2.toNat<(s.M x.1).length:=ag
  refine du (Jf W Y hc rb rc rv o.l G o.CF o.k1 o.k0 ag a0 o.l8 (o.sl _ a0)) λw' hg=>?_;have h2:=hS.ur (a:=x.1) (i:=y.2.toNat) (v:=v) (B.pR.vO gb Z) gv;rw[o.e]at h2;exact⟨0,rfl,iO.go ((h.M8 (c:=z+1) (i:=y.2.toNat) ag (gp o.l) (eV o.lm a0) (tr ρ v)).kept hg) h2 hR.run⟩
 exact dp ⟨Z,hk,u,ag,ag⟩ h'
def Nx(Y:a<nr)(J:b<nr)(y:c<nr)(u:b<256)(i:c<256)(hi:kM p s t (10,a,b,c) why s'):Calls prog 194 #[P0 g.mb,aj t,dA (g.rb t n) nr nr,jn 10 a b c] w λe w'=>∃v:Int,e=.returned (aj v)/\iO p d K s t m g w why s' v w':=
 AN ag u i (λw1 o=>(L6 (h.kept o) hS hR (hQ.kept h o) hK Y J y hi).mono (λe w' H=>by
  grind[D.iO.ahead]))
def Nv(Y:a<nr)(J:b<nr)(y:c<nr)(u:b<256)(i:c<256)(hi:kM p s t (11,a,b,c) why s'):Calls prog 194 #[P0 g.mb,aj t,dA (g.rb t n) nr nr,jn 11 a b c] w λe w'=>∃v:Int,e=.returned (aj v)/\iO p d K s t m g w why s' v w':=
 AN ag u i (λw1 o=>(L5 (h.kept o) hS hR (hQ.kept h o) hK Y J y hi).mono (λe w' H=>by
  grind[D.iO.ahead]))
end
