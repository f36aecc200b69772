import Derived.Test.YtnjiinbhbjpfkaaGreatDoorAk
set_option maxRecDepth 100000
set_option maxHeartbeats 0
set_option linter.all false
namespace Go.Proofs.YtnjiinbhbjpfkaaGreatDoor
open Go.RowKit Go.Proofs.Tryz
namespace D
open F
variable {w:aa}
theorem Ka{mb o nr a b c z cb G cc y sl i:Nat}{x H:Int}{va W:B.V}(ha:a<nr)(hb:b<nr)(hc:c<nr)(ra:lH w o a va)(rb:lH w o b (z+1,x))(rc:lH w o c (0,(i:Int)))(hz:z<G)(hn:G<1000000000)(J:w.cell? (az mb 12)=some (dD cb G cc))(k1:w.cell? (az cb<|z*2+1)=some (ah H))(k0:w.cell? (az cb<|z*2)=some (dD y sl sl))(hu:H<0)(hi:i<sl)(aB:sl<=8)(Co:lH w y i W):dC 214 #[P0 mb,dD o nr nr,jC 10 a b c] w (ah 0) λw'=>(oR w o a W).grownBy w' none:=by
 have lr:o<w.heap.size:=an w _ rb.1;have lm:mb<w.heap.size:=an w _ J;have lc:cb<w.heap.size:=an w _ k1;have ls:y<w.heap.size:=an w _ Co.1;have aE:(a:Int)<nr:=af
 have Y:(b:Int)<nr:=af
 have Z:(c:Int)<nr:=af
 have a5:o<w.heap.size+1:=af
 have a6:o<w.heap.size+1+1:=af
 have a4:mb<w.heap.size+1:=af
 have a7:mb<w.heap.size+1+1:=af
 have aD:cb<w.heap.size+1:=af
 have a8:cb<w.heap.size+1+1:=af
 have aC:y<w.heap.size+1:=af
 have a9:y<w.heap.size+1+1:=af
 have q1:IntKind.i64.wrap ((z:Int)+1-1)=(z:Int):=fm af;have q2:IntKind.i64.wrap (z:Int)=z:=jA
 have q3:(z:Int)<G:=af
 have q4:(0:Int)<=z:=af
 have q5:(((z:Int)+1) == 0)=false:=lD dY
 have q6:¬(0<=H):=af
 have b1:¬((i:Int)<0):=af
 have b2:¬((sl:Int)<=i):=af
 have b3:(i:Int)<sl:=af
 have b4:IntKind.i64.wrap (sl:Int)=sl:=jA
 obtain⟨u,r1,_,_⟩:=rb;obtain⟨s0,s1,_,_⟩:=rc;obtain⟨a0,a1,a2,a3⟩:=ra;obtain⟨v0,v1,_,_⟩:=Co;simp only[]at r1 s0 s1;delta dC;go_in;go_wp2
 go_quiet (fail)
 go_wp2
 go_quiet (fail)
 go_wp2
 go_region
 all_goals
  go_wp2
  go_ret;refine⟨rfl,?_⟩;exact fW (fW (df (ax (ax (ax (aw _ _) _) _) _) _) _ _) _ _
theorem J6{mb o nr a b c z cb G cc u sl i:Nat}{x H:Int}{W vs:B.V}(ha:a<nr)(hb:b<nr)(hc:c<nr)(rb:lH w o a (z+1,x))(rc:lH w o b (0,(i:Int)))(ra:lH w o c W)(hz:z<G)(hn:G<1000000000)(J:w.cell? (az mb 12)=some (dD cb G cc))(k1:w.cell? (az cb<|z*2+1)=some (ah H))(k0:w.cell? (az cb<|z*2)=some (dD u sl sl))(hu:H<0)(hi:i<sl)(aD:sl<=8)(Co:lH w u i vs):dC 214 #[P0 mb,dD o nr nr,jC 11 a b c] w (ah 0) λw'=>(oR w u i W).grownBy w' none:=by
 have lr:o<w.heap.size:=an w _ rb.1;have lm:mb<w.heap.size:=an w _ J;have lc:cb<w.heap.size:=an w _ k1;have ls:u<w.heap.size:=an w _ Co.1;have aH:(a:Int)<nr:=af
 have Y:(b:Int)<nr:=af
 have Z:(c:Int)<nr:=af
 have a5:o<w.heap.size+1:=af
 have a8:o<w.heap.size+1+1:=af
 have a4:mb<w.heap.size+1:=af
 have a9:mb<w.heap.size+1+1:=af
 have aG:cb<w.heap.size+1:=af
 have aA:cb<w.heap.size+1+1:=af
 have aE:u<w.heap.size+1:=af
 have aB:u<w.heap.size+1+1:=af
 have q1:IntKind.i64.wrap ((z:Int)+1-1)=(z:Int):=fm af;have q2:IntKind.i64.wrap (z:Int)=z:=jA
 have q3:(z:Int)<G:=af
 have q4:(0:Int)<=z:=af
 have q5:(((z:Int)+1) == 0)=false:=lD dY
 have q6:¬(0<=H):=af
 have b1:¬((i:Int)<0):=af
 have b2:¬((sl:Int)<=i):=af
 have b3:(i:Int)<sl:=af
 have b4:IntKind.i64.wrap (sl:Int)=sl:=jA
 obtain⟨y,r1,_,_⟩:=rb;obtain⟨s0,s1,_,_⟩:=rc;obtain⟨a0,a1,a2,a3⟩:=ra;obtain⟨v0,v1,v2,v3⟩:=Co;simp only[]at r1 s0 s1;delta dC;go_in;go_wp2
 go_quiet (fail)
 go_wp2
 go_quiet (fail)
 go_wp2
 go_region
 all_goals
  go_wp2
  go_ret;refine⟨rfl,?_⟩;exact fW (fW (df (ax (ax (ax (aw _ _) _) _) _) _) _ _) _ _
end D
namespace D
open F
variable {p:dH}{d:Dp}{K:Nat}{s:Pl}{m m':Dm}{g g':Dg}{w w':aa}{ρ:Nat->Nat}
theorem EK{mb t o nr a b c nt tc tb z:Nat}{va:B.V}{o1:Nat}{o2:Int}(ha:a<nr)(hb:b<nr)(r:lH w o a va)(rb:lH w o b (0,(z:Int)+1))(H:w.cell? (az mb 6)=some (dD tb nt tc))(hz:z<nt)(hn:nt<1000000000)(a3:z+1≠t)(G:w.cell? (az tb<|z*8+1)=some (ah 5))(g1:w.cell? (az tb<|z*8+6)=some (ah o1))(g2:w.cell? (az tb<|z*8+7)=some (ah o2)):dC 215 #[P0 mb,ah t,dD o nr nr,jC 18 a b c] w (ah 0) λw'=>(oR w o a (o1,o2)).grownBy w' none:=by
 have y:o<w.heap.size:=an w _ r.1;have a4:(a:Int)<nr:=af
 have a6:o<w.heap.size+1:=af
 obtain⟨Y,r1,r2,W⟩:=r;obtain⟨Z,s1,_,_⟩:=rb;simp only[]at Z s1;have a9:(b:Int)<nr:=af
 have lm:mb<w.heap.size:=an w _ H;have a7:mb<w.heap.size+1:=af
 have lt:tb<w.heap.size:=an w _ G;have a2:¬((z:Int)+1<1):=af
 have a5:¬((nt:Int)<z+1):=af
 have q1:=fm (n:=z) af;have q2:(z:Int)<nt:=af
 have q3:(0:Int)<=z:=af
 have q4:IntKind.i64.wrap (z:Int)=z:=jA
 have q5:IntKind.i64.wrap ((z:Int)+1)=(z:Int)+1:=jA
 have a0:(((z:Int)+1) == (t:Int))=false:=by rw[dY];exact by omega
 delta dC;go_in;go_wp2
 go_quiet (fail)
 have J:=nw w 18 a b c 0 ((z:Int)+1) nq;rw[show((18:Nat):Int)=18 from rfl]at J;generalize ((gG w #[ah 18,ah a,ah b,ah c] 90).alloc<|.cells #[ah 0,ah<|(z:Int)+1] 115).drewN nq=w3 at*;obtain⟨i,i0,i1,i2,i3,y0,y1⟩:=J;have u6:=(ay i (a:=az mb 6) lm).1.trans H;have u1:=(ay i (a:=az tb<|z*8+1) lt).1.trans G;have u2:=(ay i (a:=az tb<|z*8+6) lt).1.trans g1;have u3:=(ay i (a:=az tb<|z*8+7) lt).1.trans g2;have v0:=(ay i (a:=az o<|a*2) y).1.trans Y;have v1:=(ay i (a:=az o<|a*2+1) y).1.trans r1;have v2:=(ay i (a:=az o<|a*2) y).2.trans r2;have v3:=(ay i (a:=az o<|a*2+1) y).2.trans W;change Hid _ at i;clear H G g1 g2 Y r1 r2 W Z s1;go_wp2
 go_region
 all_goals
  go_wp2
  go_ret;refine⟨rfl,?_⟩;first|exact fW (fW i _ _) _ _|exact bo<|fW (fW i _ _) _ _
theorem Hl{mb t o nr a b c nt tc:Nat}{tp:Option Addr}{x:Int}(ha:a<nr)(r:lH w o a (0,x))(Y:w.cell? (az mb 6)=some (.slice tp nt tc))(hx:x<1):dC 215 #[P0 mb,ah t,dD o nr nr,jC 19 a b c] w (ah 6) λw'=>w.grownBy w' none:=by
 have lr:o<w.heap.size:=an w _ r.1;have Z:(a:Int)<nr:=af
 obtain⟨G,r1,r2,r3⟩:=r;simp only[]at G r1
 delta dC;go_in;go_wp2
 go_quiet (fail)
 have u:=nw w 19 a b c 0 x nq;rw[show((19:Nat):Int)=19 from rfl]at u;generalize ((gG w #[ah 19,ah a,ah b,ah c] 90).alloc<|.cells #[ah 0,ah x] 115).drewN nq=w3 at*;obtain⟨i,i0,i1,i2,i3,y0,y1⟩:=u;have H:=bj i;go_wp2
 go_ret;simp_all
theorem Hk{mb t o nr a b c nt tc:Nat}{tp:Option Addr}{x:Int}(ha:a<nr)(r:lH w o a (0,x))(Z:w.cell? (az mb 6)=some (.slice tp nt tc))(u:¬x<1)(hx:(nt:Int)<x):dC 215 #[P0 mb,ah t,dD o nr nr,jC 19 a b c] w (ah 6) λw'=>w.grownBy w' none:=by
 have lr:o<w.heap.size:=an w _ r.1;have a0:(a:Int)<nr:=af
 obtain⟨H,r1,r2,r3⟩:=r;simp only[]at H r1;have lm:mb<w.heap.size:=an w _ Z;have W:mb<w.heap.size+1:=af
 have b1:=eV u;delta dC;go_in;go_wp2
 go_quiet (fail)
 have y:=nw w 19 a b c 0 x nq;rw[show((19:Nat):Int)=19 from rfl]at y;generalize ((gG w #[ah 19,ah a,ah b,ah c] 90).alloc<|.cells #[ah 0,ah x] 115).drewN nq=w3 at*;obtain⟨i,i0,i1,i2,i3,y0,y1⟩:=y;have J:=bj i;go_wp2
 go_ret;simp_all
theorem Ho{mb t i nr a b c nt tc:Nat}{tp:Option Addr}{H:B.V}{x:Int}(ha:a<nr)(hb:b<nr)(r:lH w i a H)(rb:lH w i b (0,x))(Z:w.cell? (az mb 6)=some (.slice tp nt tc))(hx:x<1):dC 215 #[P0 mb,ah t,dD i nr nr,jC 18 a b c] w (ah 6) λw'=>w.grownBy w' none:=by
 have lr:i<w.heap.size:=an w _ r.1;have a0:(a:Int)<nr:=af
 have y:i<w.heap.size+1:=af
 obtain⟨r0,r1,r2,r3⟩:=r;obtain⟨G,s1,_,_⟩:=rb;simp only[]at G s1;have a1:(b:Int)<nr:=af
 delta dC;go_in;go_wp2
 go_quiet (fail)
 have u:=nw w 18 a b c 0 x nq;rw[show((18:Nat):Int)=18 from rfl]at u;generalize ((gG w #[ah 18,ah a,ah b,ah c] 90).alloc<|.cells #[ah 0,ah x] 115).drewN nq=w3 at*;obtain⟨o,i0,i1,i2,i3,y0,y1⟩:=u;have J:=bj o;go_wp2
 go_ret;simp_all
theorem Hn{mb t i nr a b c nt tc:Nat}{tp:Option Addr}{J:B.V}{x:Int}(ha:a<nr)(hb:b<nr)(r:lH w i a J)(rb:lH w i b (0,x))(h6:w.cell? (az mb 6)=some (.slice tp nt tc))(u:¬x<1)(hx:(nt:Int)<x):dC 215 #[P0 mb,ah t,dD i nr nr,jC 18 a b c] w (ah 6) λw'=>w.grownBy w' none:=by
 have lr:i<w.heap.size:=an w _ r.1;have a0:(a:Int)<nr:=af
 have G:i<w.heap.size+1:=af
 obtain⟨r0,r1,r2,r3⟩:=r;obtain⟨H,s1,_,_⟩:=rb;simp only[]at H s1;have a1:(b:Int)<nr:=af
 have lm:mb<w.heap.size:=an w _ h6;have Y:mb<w.heap.size+1:=af
 have b1:=eV u;delta dC;go_in;go_wp2
 go_quiet (fail)
 have y:=nw w 18 a b c 0 x nq;rw[show((18:Nat):Int)=18 from rfl]at y;generalize ((gG w #[ah 18,ah a,ah b,ah c] 90).alloc<|.cells #[ah 0,ah x] 115).drewN nq=w3 at*;obtain⟨o,i0,i1,i2,i3,y0,y1⟩:=y;have W:=bj o;go_wp2
 go_ret;simp_all
theorem Hm{mb t i nr a b c nt tc:Nat}{tp:Option Addr}{W:B.V}{x:Int}(ha:a<nr)(hb:b<nr)(r:lH w i a W)(rb:lH w i b (0,x))(h6:w.cell? (az mb 6)=some (.slice tp nt tc))(u:¬x<1)(hx:¬(nt:Int)<x)(y:x=(t:Int)):dC 215 #[P0 mb,ah t,dD i nr nr,jC 18 a b c] w (ah 6) λw'=>w.grownBy w' none:=by
 have lr:i<w.heap.size:=an w _ r.1;have a1:(a:Int)<nr:=af
 have H:i<w.heap.size+1:=af
 obtain⟨r0,r1,r2,r3⟩:=r;obtain⟨J,s1,_,_⟩:=rb;simp only[]at J s1;have a2:(b:Int)<nr:=af
 have lm:mb<w.heap.size:=an w _ h6;have Z:mb<w.heap.size+1:=af
 have b1:=eV u;have b2:=eV hx;have b3:(x == (t:Int))=true:=eZ beq_iff_eq y
 clear hx u y;delta dC;go_in;go_wp2
 go_quiet (fail)
 have G:=nw w 18 a b c 0 x nq;rw[show((18:Nat):Int)=18 from rfl]at G;generalize ((gG w #[ah 18,ah a,ah b,ah c] 90).alloc<|.cells #[ah 0,ah x] 115).drewN nq=w3 at*;obtain⟨o,i0,i1,i2,i3,y0,y1⟩:=G;have Y:=bj o;go_wp2
 go_ret;simp_all
