import Derived.Test.YtnjiinbhbjpfkaaGreatDoorAf
import Derived.Test.YtnjiinbhbjpfkaaGreatDoorAg
set_option maxRecDepth 100000
set_option maxHeartbeats 0
set_option linter.all false
namespace Go.Proofs.YtnjiinbhbjpfkaaGreatDoor
open Go.RowKit Go.Proofs.Tryz
namespace D
open F
variable {p:dH}{d:Dp}{K:Nat}{s:Pl}{m m':Dm}{g g':Dg}{w w':aa}{ρ:Nat->Nat}
def Nw(w w3:aa)(o a b c:Nat)(x0 x1:Int):Prop:=w.grownBy w3 none/\w3.cell? ⟨w.heap.size,0,none⟩=some (.int .i64 (o:Int))/\w3.cell? ⟨w.heap.size,1,none⟩=some (.int .i64 (a:Int))/\w3.cell? ⟨w.heap.size,2,none⟩=some (.int .i64 (b:Int))/\w3.cell? ⟨w.heap.size,3,none⟩=some (.int .i64 (c:Int))/\w3.cell? ⟨w.heap.size+1,0,none⟩=some (.int .i64 x0)/\w3.cell? ⟨w.heap.size+1,1,none⟩=some (.int .i64 x1)
theorem nw(w:aa)(o a b c:Nat)(e i:Int)(n:Nat):Nw w (((w.alloc<|.cells #[ah o,ah a,ah b,ah c] 90).alloc<|.cells #[ah e,ah i] 115).drewN n) o a b c e i:=
 ⟨df (ax (ax (aw _ _) _) _) _,by simp[go_sem],by simp[go_sem],by simp[go_sem],by simp[go_sem],by simp[go_sem],by simp[go_sem]⟩
theorem EH{mb t i nr a b c k bc:Nat}{J:Option Addr}{Y:B.V}{R:aa->Prop}(ha:a<nr)(hb:b<nr)(r:lH w i a Y)(rb:lH w i b (0,(k:Int)))(hk:k<4)(h8:w.cell? (az mb<|8+k)=some (.slice J 0 bc))(H:∀w1,w.grownBy w1 none->eN 228 #[P0 mb,ah t,ah 3,ah k,ah a] w1 λw'=>R w'):dC 215 #[P0 mb,ah t,dD i nr nr,jC 21 a b c] w (ah<|-1) λw'=>R w':=by
 have lr:i<w.heap.size:=an w _ r.1;have a1:(a:Int)<nr:=af
 have G:i<w.heap.size+1:=af
 obtain⟨r0,r1,r2,r3⟩:=r;obtain⟨W,s1,_,_⟩:=rb;simp only[]at W s1;have a2:(b:Int)<nr:=af
 have lm:mb<w.heap.size:=an w _ h8;have Z:mb<w.heap.size+1:=af
 have k1:¬((k:Int)<0):=af
 have k2:¬(3<(k:Int)):=af
 have k3:(k:Int)<4:=af
 have k4:(0:Int)<=k:=af
 delta dC;go_in;go_wp2
 go_quiet (fail)
 have u:=nw w 21 a b c 0 (k:Int) nq;rw[show((21:Nat):Int)=21 from rfl]at u;generalize ((gG w #[ah 21,ah a,ah b,ah c] 90).alloc<|.cells #[ah 0,ah k] 115).drewN nq=w3 at*;obtain⟨o,i0,i1,i2,i3,y0,y1⟩:=u;go_wp2_with fail
 refine dq (bj<|(bj H).out w3 o) λw4 hR=>?_;have HR:=bj hR;go_wp2
 go_ret;simp_all
theorem EI{mb t o nr a b c k G J bn bc x:Nat}{va:B.V}(ha:a<nr)(hb:b<nr)(r:lH w o a va)(rb:lH w o b (0,(k:Int)))(hk:k<4)(h8:w.cell? (az mb<|8+k)=some (.slice (some<|az G J) (bn+1) bc)/\w.frozen? (az mb<|8+k)=false)(hx:w.cell? (az G J)=some (dz x))(a7:x<256)(aE:bn+1<=bc)(W:mb≠o)(n2:G≠mb)(n3:G≠o):dC 215 #[P0 mb,ah t,dD o nr nr,jC 21 a b c] w (ah 0) λw'=>(oR (w.setCell (az mb<|8+k) (.slice (some (az G (if bc=1 then J else J+1))) bn<|bc-1)) o a (0,(x:Int))).grownBy w' none:=by
 have lr:o<w.heap.size:=an w _ r.1;have aA:(a:Int)<nr:=af
 have aB:o<w.heap.size+1:=af
 obtain⟨r0,r1,r2,r3⟩:=r;obtain⟨s0,s1,_,_⟩:=rb;obtain⟨h8,z8⟩:=h8;simp only[]at s0 s1;have aH:(b:Int)<nr:=af
 have lm:mb<w.heap.size:=an w _ h8;have a5:G<w.heap.size:=an w _ hx;have aF:mb<w.heap.size+1:=af
 have k1:¬((k:Int)<0):=af
 have k2:¬(3<(k:Int)):=af
 have k3:(k:Int)<4:=af
 have k4:(0:Int)<=k:=af
 delta dC;go_in;go_wp2
 go_quiet (fail)
 have hN:=nw w 21 a b c 0 (k:Int) nq;rw[show((21:Nat):Int)=21 from rfl]at hN;generalize ((gG w #[ah 21,ah a,ah b,ah c] 90).alloc<|.cells #[ah 0,ah k] 115).drewN nq=Z at*;obtain⟨Y,i0,i1,i2,i3,y0,y1⟩:=hN;have HG:=bj Y;let⟨u0,u2⟩:=ay Y (a:=az o<|a*2) lr;let⟨u1,u3⟩:=ay Y (a:=az o<|a*2+1) lr;let⟨u4,u5⟩:=ay Y (a:=az mb<|8+k) lm;let⟨u6,_⟩:=ay Y (a:=az G J) a5;rw[r0]at u0;rw[r1]at u1;rw[r2]at u2;rw[r3]at u3;rw[h8]at u4;rw[z8]at u5;rw[hx]at u6;have l3:w.heap.size+1<Z.heap.size:=an Z _ y0;have n4:w.heap.size≠mb:=af
 have n5:w.heap.size+1≠mb:=af
 have H:o<Z.heap.size:=af
 have a0:G<Z.heap.size:=af
 clear Y r0 r1 r2 r3 h8 z8 hx s0 s1;go_wp2_with fail
 by_cases a4:bc=1
 .subst a4;have a6:bn=0:=af
  subst a6;go_cut[] (λwx=>Hid<|iY (iA Z mb (8+k)<|.slice (some<|az G J) 0 0) wx)
  case first=>
   go_region
   all_goals
    go_wp2
    go_meet
    case rel=>first|exact(bo (aw _ _):World.grownBy _ _ _)|exact(aw _ _:World.grownBy _ _ _)
  case rest=>
   have y:=hcut;clear hcut;have i:=y.out;have u:(iA Z mb (8+k)<|.slice (some<|az G J) 0 0).heap.size=Z.heap.size:=by simp[World.setCell]
   have v0:dW wc o (a*2)=some (ah va.1):=(ay i (a:=az o<|a*2)<|eZ u H).1.trans (by simp[go_sem,u0,W,W.symm]);have v1:dW wc o (a*2+1)=some (ah va.2):=(ay i (a:=az o<|a*2+1)<|eZ u H).1.trans (by simp[go_sem,u1,W,W.symm]);have v2:wc.frozen? (az o<|a*2)=false:=(ay i (a:=az o<|a*2)<|eZ u H).2.trans (by simp[go_sem,u2,W,W.symm]);have v3:wc.frozen? (az o<|a*2+1)=false:=(ay i (a:=az o<|a*2+1)<|eZ u H).2.trans (by simp[go_sem,u3,W,W.symm]);have v4:dW wc (fp w) 1=some (ah a):=(ay i (a:=az (fp w) 1) (by rw[u];show w.heap.size<_;omega)).1.trans (by simp[go_sem,i1,n4,n4.symm]);have v5:dW wc G J=some (dz x):=(ay i (a:=az G J)<|eZ u a0).1.trans (by simp[go_sem,u6,n2,n2.symm]);have HT:Hid (∀wx,iY (oR wc o a (0,(x:Int))) wx->iY (oR (iA w mb (8+k)<|.slice (some<|az G J) 0 0) o a (0,(x:Int))) wx):=λwx hx=>ar (fW (fW (ar (fW HG _ _) i) _ _) _ _) hx;have a2:IntKind.i64.wrap (x:Int)=x:=jA
   clear i y u u0 u1 u2 u3 u4 u5 u6 i0 i1 i2 i3 y0 y1 HG;go_wp2
   go_region
   all_goals
    go_wp2
    go_ret;refine⟨rfl,HT _ ?_⟩;first|exact aw _ _|exact bo<|aw _ _
 have aD:1<bc:=af
 have a8:¬(bc-1=0):=af
 go_cut[] (λwx=>Hid<|iY (iA Z mb (8+k)<|.slice (some<|az G<|J+1) bn<|bc-1) wx)
 case first=>
  go_region
  all_goals
   go_wp2
   go_meet
   case rel=>first|exact(bo (aw _ _):World.grownBy _ _ _)|exact(aw _ _:World.grownBy _ _ _)
 case rest=>
  have y:=hcut;clear hcut;have i:=y.out;have u:(iA Z mb (8+k)<|.slice (some<|az G<|J+1) bn<|bc-1).heap.size=Z.heap.size:=by simp[World.setCell]
  have v0:dW wc o (a*2)=some (ah va.1):=(ay i (a:=az o<|a*2)<|eZ u H).1.trans (by simp[go_sem,u0,W,W.symm]);have v1:dW wc o (a*2+1)=some (ah va.2):=(ay i (a:=az o<|a*2+1)<|eZ u H).1.trans (by simp[go_sem,u1,W,W.symm]);have v2:wc.frozen? (az o<|a*2)=false:=(ay i (a:=az o<|a*2)<|eZ u H).2.trans (by simp[go_sem,u2,W,W.symm]);have v3:wc.frozen? (az o<|a*2+1)=false:=(ay i (a:=az o<|a*2+1)<|eZ u H).2.trans (by simp[go_sem,u3,W,W.symm]);have v4:dW wc (fp w) 1=some (ah a):=(ay i (a:=az (fp w) 1) (by rw[u];show w.heap.size<_;omega)).1.trans (by simp[go_sem,i1,n4,n4.symm]);have v5:dW wc G J=some (dz x):=(ay i (a:=az G J)<|eZ u a0).1.trans (by simp[go_sem,u6,n2,n2.symm]);have HT:Hid (∀wx,iY (oR wc o a (0,(x:Int))) wx->iY (oR (iA w mb (8+k)<|.slice (some<|az G<|J+1) bn<|bc-1) o a (0,(x:Int))) wx):=λwx hx=>ar (fW (fW (ar (fW HG _ _) i) _ _) _ _) hx;have a2:IntKind.i64.wrap (x:Int)=x:=jA
  clear i y u u0 u1 u2 u3 u4 u5 u6 i0 i1 i2 i3 y0 y1 HG;go_wp2
  go_region
  all_goals
   go_wp2
   go_ret;refine⟨rfl,HT _ ?_⟩;first|exact aw _ _|exact bo<|aw _ _
theorem Ke{mb t J nr a b c nt tc tb z:Nat}{R:aa->Prop}{hw:Int}(ha:a<nr)(r:lH w J a (0,(z:Int)+1))(h6:w.cell? (az mb 6)=some (dD tb nt tc))(hz:z<nt)(hn:nt<1000000000)(Y:w.cell? (az tb<|z*8+1)=some (ah hw))(H:hw≠5->∀w1,w.grownBy w1 none->eN 196 #[P0 mb,ah<|(z:Int)+1,ah 4,ah 0,vA (0,-100)] w1 λw'=>R w')(H0:hw=5->∀w1,w.grownBy w1 none->R w1):dC 215 #[P0 mb,ah t,dD J nr nr,jC 19 a b c] w (ah (if z+1=t then -1 else 0)) λw'=>R w':=by
 have lr:J<w.heap.size:=an w _ r.1;have a1:(a:Int)<nr:=af
 obtain⟨r0,r1,r2,r3⟩:=r;simp only[]at r0 r1;have lm:mb<w.heap.size:=an w _ h6;have a4:mb<w.heap.size+1:=af
 have lt:tb<w.heap.size:=an w _ Y;have a0:¬((z:Int)+1<1):=af
 have a2:¬((nt:Int)<z+1):=af
 have q1:=fm (n:=z) af;have q2:(z:Int)<nt:=af
 have q3:(0:Int)<=z:=af
 have q4:IntKind.i64.wrap (z:Int)=z:=jA
 have q5:IntKind.i64.wrap ((z:Int)+1)=(z:Int)+1:=jA
 change Hid _ at H H0;delta dC;go_in;go_wp2
 go_quiet (fail)
 have hN:=nw w 19 a b c 0 ((z:Int)+1) nq;rw[show((19:Nat):Int)=19 from rfl]at hN;generalize ((gG w #[ah 19,ah a,ah b,ah c] 90).alloc<|.cells #[ah 0,ah<|(z:Int)+1] 115).drewN nq=w3 at*;obtain⟨o,i0,i1,i2,i3,y0,y1⟩:=hN;have u6:=(ay o (a:=az mb 6) lm).1.trans h6;have u1:=(ay o (a:=az tb<|z*8+1) lt).1.trans Y;clear h6 Y r0 r1 r2 r3;by_cases Z:hw=5
 .have G:=bj<|H0 Z w3 o;subst Z;clear H H0 o;by_cases i:z+1=t
  .subst i;go_wp2
   go_ret;exact⟨eG,G⟩
  have u:¬((z:Int)+1=(t:Int)):=af
  have W:(((z:Int)+1) == (t:Int))=false:=eZ dY u
  change Hid _ at i;go_wp2
  go_ret;exact⟨by first|rfl|(rw[av i];rfl),G⟩
 have HC:=bj<|H Z w3 o;clear H H0 o;by_cases i:z+1=t
 .subst i;go_wp2_with fail
  refine dq HC λw4 hR=>?_;change Hid _ at hR;go_wp2
  go_ret;exact⟨eG,hR⟩
 have u:¬((z:Int)+1=(t:Int)):=af
 have W:(((z:Int)+1) == (t:Int))=false:=eZ dY u
 have i:=bj i;clear i;go_wp2_with fail
 refine dq HC λw4 hR=>?_;have hR:=bj hR;clear hR;go_wp2
 go_ret;exact⟨by first|rfl|(rw[av i];rfl),hR⟩
theorem EJ{mb t o nr a b c nt tc tb z:Nat}{va:B.V}{R:aa->Prop}{hw:Int}(ha:a<nr)(hb:b<nr)(r:lH w o a va)(rb:lH w o b (0,(z:Int)+1))(G:w.cell? (az mb 6)=some (dD tb nt tc))(hz:z<nt)(hn:nt<1000000000)(a1:z+1≠t)(y:w.cell? (az tb<|z*8+1)=some (ah hw))(h5:hw≠5)(H:∀w1,w.grownBy w1 none->eN 228 #[P0 mb,ah t,ah 4,ah<|(z:Int)+1,ah a] w1 λw'=>R w'):dC 215 #[P0 mb,ah t,dD o nr nr,jC 18 a b c] w (ah<|-1) λw'=>R w':=by
 have lr:o<w.heap.size:=an w _ r.1;have a2:(a:Int)<nr:=af
 have a4:o<w.heap.size+1:=af
 obtain⟨r0,r1,r2,r3⟩:=r;obtain⟨W,s1,_,_⟩:=rb;simp only[]at W s1;have a7:(b:Int)<nr:=af
 have lm:mb<w.heap.size:=an w _ G;have a5:mb<w.heap.size+1:=af
 have lt:tb<w.heap.size:=an w _ y;have a0:¬((z:Int)+1<1):=af
 have a3:¬((nt:Int)<z+1):=af
 have q1:=fm (n:=z) af;have q2:(z:Int)<nt:=af
 have q3:(0:Int)<=z:=af
 have q4:IntKind.i64.wrap (z:Int)=z:=jA
 have q5:IntKind.i64.wrap ((z:Int)+1)=(z:Int)+1:=jA
 have u:¬((z:Int)+1=(t:Int)):=af
 have Z:(((z:Int)+1) == (t:Int))=false:=eZ dY u
 change Hid _ at H;delta dC;go_in;go_wp2
 go_quiet (fail)
 have J:=nw w 18 a b c 0 ((z:Int)+1) nq;rw[show((18:Nat):Int)=18 from rfl]at J;generalize ((gG w #[ah 18,ah a,ah b,ah c] 90).alloc<|.cells #[ah 0,ah<|(z:Int)+1] 115).drewN nq=w3 at*;obtain⟨i,i0,i1,i2,i3,y0,y1⟩:=J;have u6:=(ay i (a:=az mb 6) lm).1.trans G;have u1:=(ay i (a:=az tb<|z*8+1) lt).1.trans y;have HC:=bj<|H w3 i;clear G y r0 r1 r2 r3 W s1 i H;go_wp2_with fail
 refine dq HC λw4 hR=>?_;change Hid _ at hR;go_wp2
 go_ret;exact⟨rfl,hR⟩
end D
namespace D
open F
variable {w:aa}
theorem FC(t k:Int)(y:0<=t)(o:t<=9223372036854775807)(k0:-9223372036854775808<=k)(k1:k<=9223372036854775807):Calls prog 141 #[.int .i64 t,.int .i64 k] w λe w'=>e=.returned (.int .i64<|B.iL t k)/\w'=w:=by
 by_cases i:k<0
 .have e:B.iL t k=t:=by unfold B.iL;split<;>(omega)<;>omega
  rw[e];go_in;go_wp2_with fail
  go_ret;simp_all
 by_cases u:t+k > 9223372036854775807
 .have e:B.iL t k=9223372036854775807:=by unfold B.iL;split<;>(omega)<;>omega
  have hw:wrap64 (t+k)=t+k-18446744073709551616:=by unfold wrap64;omega
  have hn:t+k-18446744073709551616<0:=af
  rw[e];go_in;go_wp2_with fail
  go_ret;simp_all
 have e:B.iL t k=t+k:=by unfold B.iL;split<;>(omega)<;>omega
 have hw:IntKind.i64.wrap (t+k)=t+k:=by simp[IntKind.wrap,IntKind.bits,IntKind.signed];omega
 have hn:¬(t+k<0):=af
 rw[e];go_in;go_wp2_with fail
 go_ret;simp_all
end D
namespace D
open F
variable {p:dH}{d:Dp}{K:Nat}{s:Pl}{m m':Dm}{g g':Dg}{w w':aa}{ρ:Nat->Nat}
def Tryz.BV:(prog.info? 233).map (λi=>(i.zero,i.size,i.bytes))=some (some<|.agg #[.slice none 0 0,ah 0],2,32):=by kernel_rfl
def Tryz.underlying108:prog.underlying 108=some (.slice 233):=by kernel_rfl
def Ci(d:Dp)(m:Dm)(ok:Bool):Prop:=((fJ d m).fu=false/\ok=decide (0<d.n))\/∃N:Nat,lA d m N/\ok=decide (N<d.n)
def DU(d:Dp)(m:Dm)(g:Dg)(w:aa)(t n a ty:Nat)(l:List B.V)(v:Int)(w':aa):Prop:=
 (Ci d m false/\v=-2/\Tr d m g w (m.jB<|fJ d m) g w')\/(Ci d m true/\v=0/\∃g',Tr d m g w (((m.jB<|fJ d m).cell ty l).dM t n<|(fX m t n).set a (m.nc+1,0)) g' w')
def wK(d:Dp)(m:Dm):(fJ d m).all=m.G.all:=by unfold fJ;split<;>rfl
def uM(d:Dp)(m:Dm):(fJ d m).sure=m.G.sure:=by unfold fJ;split<;>rfl
def uN(d:Dp)(m:Dm):(fJ d m).kL=m.G.kL:=by unfold fJ;split<;>rfl
theorem Gr{m1:Dm}{Z W w6:aa}{G cb cc ty:Nat}{l:List B.V}(h5:Tr d m g w m1 g Z)(J:Z.grownBy W none)(hS:Full Z G 115 (l.length*2) (l.length*2) (eR<|nD l))(hn:¬eJ d m1 g G)(hs:w.heap.size<=G)(ho:w6.ownsRow 0 233 2 (dD cb (m1.nc+1) cc) (m1.nc+1) (rowP (m1.nc*2) (cE m1 g)++[dD G l.length l.length,jz<|(ty:Int)-1]))(u:W.grownBy w6 (Value.slice (g.ro 3 0).1 m1.nc (g.ro 3 0).2).ownBlock)(a6:mu W.heap.size (.slice (g.ro 3 0).1 m1.nc (g.ro 3 0).2) (dD cb (m1.nc+1) cc)):Tr d m g w (m1.nU ty l) ((g.at 3 0 (some<|az cb 0,cc)).slt (m1.nc+1) G) (w6.setCell (az g.mb 12)<|dD cb (m1.nc+1) cc):=by
 have hr:=h5.r;have a1:(Value.slice (g.ro 3 0).1 m1.nc (g.ro 3 0).2).ownBlock=fk (g.ro 3 0).1:=dJ _ _ _;rw[a1]at u;have a0:∀k,fk (g.ro 3 0).1=some k->k≠g.mb:=λk H=>hr.ne (x:=3) (y:=0) (z:=0) (x':=0) (y':=0) (z':=0) (pn af) rfl H rfl af;have i:Z.grownBy w6 (fk (g.ro 3 0).1):=⟨u.os.trans J.os,u.tape.trans J.tape,u.output.trans J.output,dQ J.size u.size,λk H hn=>(u.block k (dm H J.size) hn).trans<|J.block k H ey⟩;have Y:fk (g.ro 3 0).1=some cb\/(Z.heap.size<=cb):=by
  rcases a6 with e|⟨b',e,h2⟩
  .left
   rw[<-a1,<-e];rfl
  right
  have:cb=b':=by injection e
  have:=J.size;omega
 have a7:cb≠g.mb:=by
  rcases Y with e|e
  .grind
  have:=hr.M.lt;omega
 have a4:G<Z.heap.size:=hS.lt;have a2:cb≠G:=by
  rcases Y with e|e
  .exact λe'=>hn ⟨3,0,0,by rw[iy<|pn af,<-e'];exact e⟩
  omega
 refine Tr.nU h5 (bq (S:=λk=>k=g.mb\/fk (g.ro 3 0).1=some k) (a:=az g.mb 12) ⟨i.os,i.tape,i.output,i.size,λk H hn=>i.block k H<|λe=>hn<|ak e.symm⟩ (ag<|ag rfl) _) ((hr.M.block<|i.block g.mb hr.M.lt<|λe=>a0 g.mb e.symm rfl).eE 12 _) ?_ ?_ (Y.imp id<|λe=>⟨hr.fresh e,af⟩) ⟨hn,hs⟩ a2
 .grind[dS,Below.heap_setCell,Value.ownBlock]
 refine(hS.block<|i.block G a4<|λe=>hn ⟨3,0,0,by rw[iy<|pn af];exact e.symm⟩).block<|ab _ _ _ _<|λe=>hn ⟨0,0,0,by rw[iy<|pn af];exact e⟩
theorem Ns{t n nr a b c:Nat}(hb:b<=8)(h:dZ d m g w)(hC:Cl d m)(ht:nF m t)(hi:n<(m.T t).fr.length)(hr:d.rg (fX m t n).f=nr)(ha:a<nr)(hA:m.G.all<1000000000/\m.G.sure<1000000000/\m.G.kL<1000000000):Calls prog 214 #[P0 g.mb,dD (g.rb t n) nr nr,jC 9 a b c] w λe w'=>∃v:Int,e=.returned (ah v)/\DU d m g w t n a 0 (List.replicate b (0,0)) v w':=by
 let⟨i0,aU,aV,aQ,aX⟩:=info_parts Tryz.BV;let⟨i5,b4,b5,b2,aW⟩:=info_parts Tryz.uq;have HH:=bj h;have HR:Hid (∀w1,w.grownBy w1 none->Calls prog 225 #[P0 g.mb] w1 λe w'=>∃ok:Bool,e=.returned (.bool ok)/\Tr d m g w1 (m.jB<|fJ d m) g w'/\Ci d m ok):=λw1 hg=>(Jp (h.kept hg) hC).mono (λe w' hh=>by
  obtain⟨ok,e1,e2,e3⟩:=hh;exact⟨ok,e1,e2,e3⟩)
 have aT:=bj hC.n2;have HT:=bj<|bh ht<|bh hi hr;have HA:=bj hA;have bF:g.mb<w.heap.size:=h.M.lt;obtain⟨l,hl⟩:∃l:List B.V,l=List.replicate b (0,0):=⟨_,rfl⟩;rw[<-hl];have a6:l.length=b:=by rw[hl,lM]
 have b6:Hid (∀j,eR (λ_=>(0,0)) j=eR (nD l) j):=λj=>by
  have:nD l=λ_=>(0,0):=by
   funext i
   unfold nD;rw[hl,cw,List.getElem?_replicate];split<;>rfl
  rw[this]
 clear h hC ht hi hr hA hl;go_in;go_wp2_with (at_make;go_loud (refine wpList_make_full _ rfl _ _ 161 rfl 0 115 i5 _ 2 Tryz.underlying161 b4 b5 b2 _ _ _ _ b rfl rfl rfl rfl (lD aW) pY (di _) ?_))
 intro Z a3 a1;have hz:=a1.size;simp at hz;have a9:=vh a3;have x0:Z.heap[w.heap.size]?=some (.cells #[ah ((9:Nat):Int),ah (a:Int),ah (b:Int),ah (c:Int)] 90 (0,0)):=da a1 (bl _ _) je;have a0:dW Z w.heap.size 0=some (ah ((9:Nat):Int)):=fj x0
 have aE:w.heap.size<Z.heap.size:=af
 have lX:w.heap.size+1<=Z.heap.size:=af
 have KW:Hid ((w.alloc<|.cells #[ah ((9:Nat):Int),ah (a:Int),ah (b:Int),ah (c:Int)] 90).grownBy (Z.alloc<|.cells #[dD (w.heap.size+1) b b,ah<|-1] 233) none):=ax a1 _;have XW:Hid ((Z.alloc<|.cells #[dD (w.heap.size+1) b b,ah<|-1] 233).heap[w.heap.size]?=some (.cells #[ah ((9:Nat):Int),ah (a:Int),ah (b:Int),ah (c:Int)] 90 (0,0))):=(au _ _ _ aE).trans x0;have YW:Hid ((Z.alloc<|.cells #[dD (w.heap.size+1) b b,ah<|-1] 233).heap[Z.heap.size]?=some (.cells #[dD (w.heap.size+1) b b,ah<|-1] 233 (0,0))):=bl _ _;have SW:Hid (Full (Z.alloc<|.cells #[dD (w.heap.size+1) b b,ah<|-1] 233) (w.heap.size+1) 115 (l.length*2) (l.length*2)<|eR<|nD l):=by
  have h1:=(a9.block<|au Z (.cells #[dD (w.heap.size+1) b b,ah<|-1] 233) _ a9.lt).congr (λj _=>b6.out j);show Full _ _ _ (l.length*2) (l.length*2) _;rw[a6];exact h1
 clear a3 a1 a9 x0;go_wp2_with fail
 clear a0;generalize (Z.alloc<|.cells #[dD (w.heap.size+1) b b,ah<|-1] 233)=W at*;have a7:Z.heap.size≠w.heap.size+1:=by
  intro e;have h1:=SW.out;obtain⟨bA,h2,_⟩:=h1;rw[<-e,YW.out]at h2;injection h2 with h2;injection h2 with _ h2 _;exact dr h2 eo
 obtain⟨X,hX⟩:∃X,X=Z.heap.size:=⟨_,rfl⟩;rw[<-hX]at lX YW a7⊢;obtain⟨sN,aD⟩:∃x,x=w.heap.size+1:=⟨_,rfl⟩;have b9:w.heap.size+1<=sN:=af
 rw[<-aD]at YW SW a7;clear hX aD aE hz;clear Z;refine(HR.out W<|ar (ax (aw _ _) _) KW.out).mono ?_;rintro e J ⟨ok,rfl,h5,aK⟩;have hW:=KW.out.size;simp at hW;have nE:∀j,w.heap.size<=j->j<W.heap.size->J.heap[j]?=W.heap[j]?:=λj h1 h2=>h5.o.same h2<|HH.out.fresh h1;have X5:=bj<|(nE _ (bm _) af).trans XW.out;have Y5:=bj<|(nE X af<|ch YW.out).trans YW.out;have S5:=bj<|SW.out.block<|nE sN af SW.out.lt;have T5:=bj<|h5.ahead KW.out;have N5:Hid (¬eJ d (m.jB<|fJ d m) g sN):=λhm=>by
  rcases h5.m sN hm with h1|h1
  .exact HH.out.fresh af h1
  have:=SW.out.lt;omega
 change Hid _ at aK;clear h5 nE XW YW SW KW HR
 cases ok with
 |false=>
  go_wp2
  go_ret;exact⟨-2,rfl,ag ⟨aK.out,rfl,T5.out.ahead<|ax (aw _ _) _⟩⟩
 |true=>
  let⟨aB,aN⟩:=T5.out.r.mc 12 af (v:=.slice (g.ro 3 0).1 m.nc (g.ro 3 0).2) rfl;have aG:Hid (J.ownsRow 0 233 2 (.slice (g.ro 3 0).1 m.nc (g.ro 3 0).2) m.nc<|rowP (m.nc*2)<|cE (m.jB<|fJ d m) g):=T5.out.r.Cw;have b0:dW J X 0=some (dD sN b b):=fj Y5.out
  have b1:dW J X 1=some (ah<|-1):=fj Y5.out
  have l5:g.mb<J.heap.size:=an J _ aB;have aY:X<J.heap.size:=an J _ b0;have aP:w.heap.size<J.heap.size:=ch X5.out;have a5:Hid (∀j,(Value.slice (g.ro 3 0).1 m.nc (g.ro 3 0).2).ownBlock=some j->j<J.heap.size/\j≠g.mb/\j≠X/\j≠w.heap.size):=λj Y=>by
   have aH:fk (g.ro 3 0).1=some j:=by rw[<-dJ (g.ro 3 0).1 m.nc (g.ro 3 0).2];exact Y
   have hm:eJ d m g j:=⟨3,0,0,by rw[iy<|pn af];exact aH⟩;have:=HH.out.lt hm;exact⟨af,HH.out.ne (x:=3) (y:=0) (z:=0) (x':=0) (y':=0) (z':=0) (pn af) rfl aH rfl af,af,af⟩
  have aM:Hid (∀w':aa,w'.heap[g.mb]?=J.heap[g.mb]?->w'.heap[X]?=J.heap[X]?->dW w' g.mb 12=some (.slice (g.ro 3 0).1 m.nc (g.ro 3 0).2)/\w'.frozen? (az g.mb 12)=false/\dW w' X 0=some (dD sN b b)/\dW w' X 1=some (ah<|-1)):=λw' e1 e2=>⟨(bd (a:=az g.mb 12) e1).trans aB,(dv (a:=az g.mb 12) e1).trans aN,(bd (a:=az X 0) e2).trans b0,(bd (a:=az X 1) e2).trans b1⟩;have aA:Hid (∀(o:Obj) (j:Nat),j<J.heap.size->(J.drew.alloc o).heap[j]?=J.heap[j]?):=λo j Y=>au J.drew o j Y;have bD:m.nc+1<=1000000000:=gD aT.out
  clear lX hW a7;go_wp2
  go_cut[] (λwx=>Hid<|∃g2,Tr d m g (w.alloc<|.cells #[ah ((9:Nat):Int),ah (a:Int),ah (b:Int),ah (c:Int)] 90) ((m.jB<|fJ d m).nU 0 l) g2 wx/\g2.rb=g.rb/\wx.heap[w.heap.size]?=some (.cells #[ah ((9:Nat):Int),ah (a:Int),ah (b:Int),ah (c:Int)] 90 (0,0)))
  case first=>
   go_region_law (refine fH _ rfl (.tmp 44) (.tmp 46) 108 rfl 233 i0 _ 2 32 Tryz.underlying108 aU aV aQ aX rfl eo (g.ro 3 0).1 m.nc (g.ro 3 0).2 (rowP (m.nc*2)<|cE (m.jB<|fJ d m) g) mS (dS aG.out<|λj Y=>aA.out _ _ (a5.out j Y).1) (az J.heap.size 0) 1 1 [dD sN b b,ah<|-1] mS rfl (by intro j u Y;match j,Y with|0,Y=>(simp at Y;subst Y;simp[Addr.add,go_sem])|1,Y=>(simp at Y;subst Y;simp[Addr.add,go_sem])) yv pY af eo ?_;intro v' w6 ho a2 aF;obtain⟨cb,aR,rfl⟩:=ef ho af;have aJ:=bj ho;have b3:=bj a2;have aS:=bj aF;have KO:Hid (∀j,j<J.heap.size->(j=g.mb\/j=X\/j=w.heap.size)->w6.heap[j]?=J.heap[j]?):=(λj Y hn=>(a2.block j (by first|(simp;omega)|omega) (λh=>by have h9:=a5.out j h.symm;omega)).trans<|aA.out _ _ Y);let⟨bC,sz,sa,sb⟩:=aM.out w6 (KO.out _ l5<|ag rfl)<|KO.out _ aY<|ak<|ag rfl;clear ho a2 aF)
   all_goals
    go_wp2
    go_meet
    case rel=>
     refine⟨_,Gr (l:=l) (ty:=0) (cb:=cb) (cc:=aR) T5.out (ax (bo<|aw J none)<|.cells #[dD sN b b,ah<|-1] 233) S5.out N5.out fV (by first|(rw[a6];exact aJ.out)|(rw[a6,show(((b+1:Nat):Int)-1)=(b:Int) by omega];exact aJ.out)) b3.out aS.out,rfl,?_⟩;rw[ab _ _ _ _ (by show w.heap.size≠g.mb;omega),KO.out _ aP<|ak<|ak rfl];exact X5.out
  case rest=>
   let⟨g2,h6,H,x6⟩:=hcut.out;have aO:=h6.b;have a8:=bj<|JF h6.r (by show(fJ d m).all<_;rw[wK];exact HA.out.1) (by show(fJ d m).sure<_;rw[uM];exact HA.out.2.1) (by show(fJ d m).kL<_;rw[uN];exact HA.out.2.2);rw[aO]at a8;have aL:Hid (¬eJ d ((m.jB<|fJ d m).nU 0 l) g2 w.heap.size):=λhm=>by
    rcases h6.m _ hm with h1|h1
    .exact HH.out.fresh (bm _) h1
    rw[World.size_alloc]at h1;omega
   have H6:=bj<|bh h6<|bh H x6;clear h6 H x6 hcut aB aN aG b0 b1 a5 aM aA X5 Y5 S5 T5 N5;go_wp2_with fail
   refine dq a8 λw7 h7=>?_;let⟨h6,H,x6⟩:=H6.out;have h8:=h6.trans h7;have hT:=HT.out;have y7:=(h7.o.same (ch x6) aL.out).trans x6;have e1:dW w7 w.heap.size 1=some (ah (a:Int)):=fj y7
   let⟨aZ,_⟩:=h8.r.mc 12 af (v:=.slice (g2.ro 3 0).1 (m.nc+1) (g2.ro 3 0).2) rfl;rw[aO]at aZ;have hF:=h8.r.R (t:=t) (i:=n) hT.1 hT.2.1;have a4:Full w7 (g.rb t n) 115 (nr*2) (nr*2) (eR (fX m t n).R):=by
    have h9:=hF;rw[H]at h9;rw[<-hT.2.2];exact h9
   let⟨r0,r1,r2,r3⟩:=Kh a4 ha;have H8:=bj<|bh h8 H;have b8:(a:Int)<(nr:Int):=af
   clear h6 H x6 h8 h7 hT y7 hF a4 a8 H6 aL;generalize (g2.ro 3 0).1=ca at*;generalize (g2.ro 3 0).2=cc at*;go_wp2
   go_cut[] (λwx=>Hid<|(oR w7 (g.rb t n) a (m.nc+1,0)).grownBy wx none)
   case first=>
    go_region
    all_goals
     go_wp2
     go_meet
     case rel=>first|exact(bo (aw _ _):World.grownBy _ _ _)|exact(aw _ _:World.grownBy _ _ _)
   case rest=>
    have aC:=hcut;clear hcut;go_wp2
    go_ret;let⟨h8,H⟩:=H8.out;have h9:=h8.r.sQ (t:=t) (i:=n) HT.out.1 HT.out.2.1 a (m.nc+1,0);rw[H]at h9;exact⟨0,rfl,ak ⟨aK.out,rfl,g2,((h8.trans h9).kept aC.out).ahead<|ax (aw _ _) _⟩⟩
end D
namespace D
open F
variable {w:aa}
theorem Mv{mb i nr a b c:Nat}{x:Int}{u:B.V}(hb:b<nr)(Y:c<nr)(rb:lH w i b (0,x))(rc:lH w i c u):dC 214 #[P0 mb,dD i nr nr,jC 10 a b c] w (ah 2) λw'=>w.grownBy w' none:=by
 have Z:i<w.heap.size:=an w _ rb.1;have W:(b:Int)<nr:=af
 have H:(c:Int)<nr:=af
 have o:i<w.heap.size+1:=af
 obtain⟨G,J,_,_⟩:=rb;obtain⟨s0,s1,_,_⟩:=rc;simp only[]at G J;delta dC;go_in;go_wp2
 go_quiet (fail)
 go_wp2
 go_ret;exact⟨rfl,df (ax (ax (ax (aw _ _) _) _) _) _⟩
theorem Mr{mb i nr a b c:Nat}{x:Int}{vb o:B.V}(ha:a<nr)(hb:b<nr)(hc:c<nr)(ra:lH w i a (0,x))(rb:lH w i b vb)(rc:lH w i c o):dC 214 #[P0 mb,dD i nr nr,jC 11 a b c] w (ah 2) λw'=>w.grownBy w' none:=by
 have lr:i<w.heap.size:=an w _ ra.1;have Y:(a:Int)<nr:=af
 have u:(b:Int)<nr:=af
 have y:(c:Int)<nr:=af
 have G:i<w.heap.size+1:=af
 have H:i<w.heap.size+1+1:=af
 obtain⟨J,W,_,_⟩:=ra;obtain⟨u0,u1,_,_⟩:=rb;obtain⟨s0,s1,_,_⟩:=rc;simp only[]at J W;delta dC;go_in;go_wp2
 go_quiet (fail)
 go_wp2
 go_ret;exact⟨rfl,df (ax (ax (ax (aw _ _) _) _) _) _⟩
end D
namespace D
open F
def iV(p:dH)(d:Dp)(K:Nat)(s:Pl)(t:Nat)(m:Dm)(g:Dg)(w:aa)(why:Int)(s':Pl)(v:Int)(w':aa):Prop:=
 ∃ρ' m' g',Tr d m g w m' g' w'/\((v=-2/\why=0/\(∃kd1,s'=(s.vU kd1).mF t/\Nm p.n (K+1) kd1 s.M m'.G/\m'.G.fu=true)/\eF p (K+1) s m' ρ') \/
  (eF p (K+1) s' m' ρ'/\((0<v/\why=v)\/(v=0/\why=0/\(s'.T t).run=true)\/(v=-1/\why=0/\(s'.T t).run=false))))
variable {p:dH}{d:Dp}{K:Nat}{s s':Pl}{m m':Dm}{g g':Dg}{w w':aa}{ρ ρ':Nat->Nat}{t tb fb n nr a b c:Nat}{why:Int}
theorem iV.go(o:Tr d m g w m' g' w')(i:eF p K s' m' ρ')(e:(s'.T t).run=true):iV p d K s t m g w 0 s' 0 w':=
 ⟨ρ',m',g',o,ak ⟨i.mono af,ak<|ag ⟨rfl,rfl,e⟩⟩⟩
def iV.stop(o:Tr d m g w m' g' w')(i:eF p (K+1) s' m' ρ')(e:(s'.T t).run=false):iV p d K s t m g w 0 s' (-1) w':=
 ⟨ρ',m',g',o,ak ⟨i,ak<|ak ⟨rfl,rfl,e⟩⟩⟩
theorem iV.fail(h:dZ d m g w)(o:w.grownBy w' none)(i:eF p K s m ρ)(e:0<why):iV p d K s t m g w why s why w':=
 ⟨ρ,m,g,(Tr.refl h).kept o,ak ⟨i.mono af,ag ⟨e,rfl⟩⟩⟩
theorem iV.ahead{w1:aa}{v:Int}(i:w.grownBy w1 none)(h:iV p d K s t m g w1 why s' v w'):iV p d K s t m g w why s' v w':=by
 obtain⟨ρ',m',g',o,e⟩:=h;exact⟨ρ',m',g',o.ahead i,e⟩
theorem ph.goes(hQ:ph p d s m g w ρ t tb fb n nr)(h:dZ d m g w)(hS:eF p K s m ρ)(hR:Rn p s t)(a:Nat){v:B.V}(e:dV p s v)(o:(oR w (g.rb t n) a<|tr ρ v).grownBy w' none):iV p d K s t m g w 0 (s.dM t (de s t)<|(bz s t).set a v) 0 w':=by
 let⟨m',g',u,i⟩:=hQ.set h hS hR a e o;grind[iV.go,gO,de,F.Rn.run]
theorem ph.BZ(hQ:ph p d s m g w ρ t tb fb n nr)(h:dZ d m g w)(hS:eF p K s m ρ)(hR:Rn p s t)(a:Nat)(x:Int)(e:(oR w (g.rb t n) a (0,x)).grownBy w' none):iV p d K s t m g w 0 (qS s t a x) 0 w':=
 hQ.goes h hS hR a (dV.num x) (by grind[pA])
theorem eF.Eh(hS:eF p K s m ρ)(J:Ok p s){x y:B.V}(hx:dV p s x)(H:dV p s y):tr ρ x=tr ρ y↔x=y:=by
 refine⟨λe=>?_,λe=>by rw[e]⟩;have u:=tV J hS hx;have G:=tV J hS H;by_cases i:x.1=0
 .grind
 have o:y.1≠0:=λW=>i<|u.1.1 ey;have Y:x.2=y.2:=by rw[<-u.2,<-G.2,e]
 rw[rk i,rk o]at e;injection e with e _;exact gh (hS.I _ _ (B.px.vS hx i) (B.px.vS H o) e) Y
theorem CF{s:Pl}{t:Nat}(hi:de s t<(s.T t).fr.length):s.dM t (de s t) (bz s t)=s:=by
 have:(s.T t).fr.set (de s t) (bz s t)=(s.T t).fr:=by
  refine List.ext_getElem?<|λj=>?_;by_cases e:de s t=j
  .subst e;rw[List.getElem?_set_self hi];unfold bz du;grind
  rw[List.getElem?_set_ne e]
 unfold Pl.dM;rw[this];unfold Pl.dy;have o:(λi=>if i=t then s.T t else s.T i)=s.T:=by
  funext i
  by_cases e:i=t
  .grind
  rw[av e]
 simp_all
section
variable (hP:PD p d)(h:dZ d m g w)(hS:eF p K s m ρ)(hR:Rn p s t)(hQ:ph p d s m g w ρ t tb fb n nr)
include h hS hR hQ
theorem PB(i:a<nr)(u:b<256)(o:c<256):Calls prog 194 #[P0 g.mb,ah t,dD (g.rb t n) nr nr,jC 0 a b c] w λe w'=>∃v:Int,e=.returned (ah v)/\iV p d K s t m g w 0 (qS s t a<|B.wide b c) v w':=by
 refine dq (Pp i u o<|hQ.rc i) λw' y=>?_;grind[D.ph.BZ]
theorem PA(u:a<nr)(o:b<nr)(i:b<256)(y:c<256):Calls prog 194 #[P0 g.mb,ah t,dD (g.rb t n) nr nr,jC 1 a b c] w λe w'=>∃v:Int,e=.returned (ah v)/\iV p d K s t m g w 0 (s.dM t (de s t)<|(bz s t).set a<|(bz s t).R b) v w':=by
 refine dq (Po u o i y (hQ.rc u)<|hQ.rc o) λw' G=>?_;grind[D.ph.goes,F.Rn.n9,D.ph.r2]
theorem IN{o:Nat}(ho:o=2\/o=3\/o=4\/o=5)(Z:a<nr)(Y:b<nr)(J:c<nr)(W:b<256)(H:c<256)(hi:xu s t o a b c why s'):Calls prog 194 #[P0 g.mb,ah t,dD (g.rb t n) nr nr,jC o a b c] w λe w'=>∃v:Int,e=.returned (ah v)/\iV p d K s t m g w why s' v w':=by
 have gb:=tV hR.ok hS<|hR.n9 (a:=b)<|eZ hQ.r2 Y;have gc:=tV hR.ok hS<|hR.n9 (a:=c)<|eZ hQ.r2 J;refine(N4 ho Z Y J W H (hQ.rc Z) (hQ.rc Y)<|hQ.rc J).mono ?_;rintro e w' (⟨⟨e1,e2⟩,rfl,G⟩|⟨hn,rfl,G⟩)
 .have u:=gb.1.1 e1;have i:=gc.1.1 e2;rw[oN u,oN i]at G;rcases hi with⟨_,rfl,rfl⟩|⟨y,_⟩
  .grind[D.ph.BZ]
  exact dr ⟨u,i⟩ y
 rcases hi with⟨y,_⟩|⟨_,rfl,rfl⟩
 .exact dr ⟨gb.1.2 y.1,gc.1.2 y.2⟩ hn
 grind[iV.fail]
theorem Pz(H:a<nr)(y:b<nr)(u:c<nr)(o:b<256)(i:c<256):Calls prog 194 #[P0 g.mb,ah t,dD (g.rb t n) nr nr,jC 6 a b c] w λe w'=>∃v:Int,e=.returned (ah v)/\iV p d K s t m g w 0 (qS s t a (if(bz s t).R b=(bz s t).R c then 1 else 0)) v w':=by
 have G:=hS.Eh hR.ok (hR.n9 (a:=b)<|eZ hQ.r2 y)<|hR.n9 (a:=c)<|eZ hQ.r2 u;refine dq (Pn H y u o i (hQ.rc H) (hQ.rc y)<|hQ.rc u) λw' W=>?_;grind[D.ph.BZ]
theorem Oy(i:a<nr)(u:b<256)(o:c<256):Calls prog 194 #[P0 g.mb,ah t,dD (g.rb t n) nr nr,jC 22 a b c] w λe w'=>∃v:Int,e=.returned (ah v)/\iV p d K s t m g w 0 (qS s t a s.clk) v w':=by
 refine dq (N6 i u o (hQ.rc i) (h.mc 5 af rfl).1<|h.M.ne hQ.F eo) λw' y=>?_;grind[D.ph.BZ,D.eF.ck]
theorem Py(G:b<256)(y:c<256):Calls prog 194 #[P0 g.mb,ah t,dD (g.rb t n) nr nr,jC 7 a b c] w λe w'=>∃v:Int,e=.returned (ah v)/\iV p d K s t m g w 0 (s.dM t (de s t) {bz s t with nx:=256*b+c}) v w':=by
 refine(Pm (R:=λw'=>iV p d K s t m g w 0 (s.dM t (de s t) {bz s t with nx:=256*b+c}) 0 w') G y<|λw1 i=>?_).mono ?_
 .refine dq (Jv (h.kept i) hQ.dt (hQ.kept h i).T hQ.n20 (hS.small hR.ok).1 _) λw' o=>?_;have u:=hS.nx hR.lv hR.fw.n1<|256*b+c;rw[hQ.tp,hQ.tf]at u;exact⟨rfl,iV.go (o.ahead i) u<|(gO s t (de s t) t _).2.2.1.trans hR.run⟩
 grind
theorem Px(o:a<nr)(Z:b<256)(Y:c<256):Calls prog 194 #[P0 g.mb,ah t,dD (g.rb t n) nr nr,jC 8 a b c] w λe w'=>∃v:Int,e=.returned (ah v)/\iV p d K s t m g w 0 (s.dM t (de s t) {bz s t with nx:=if(bz s t).R a=(0,0) then 256*b+c else(bz s t).nx}) v w':=by
 have u:=hS.Eh hR.ok (hR.n9 (a:=a)<|eZ hQ.r2 o) (y:=(0,0))<|dV.num 0;rw[pA]at u;refine(Pk (R:=λw'=>iV p d K s t m g w 0 (s.dM t (de s t) {bz s t with nx:=if(bz s t).R a=(0,0) then 256*b+c else(bz s t).nx}) 0 w') o Z Y (hQ.rc o) (λw1 G i=>?_)<|λw1 G i=>?_).mono ?_
 .refine dq (Jv (h.kept i) hQ.dt (hQ.kept h i).T hQ.n20 (hS.small hR.ok).1 _) λw' H=>?_;have J:=hS.nx hR.lv hR.fw.n1<|256*b+c;rw[hQ.tp,hQ.tf]at J;rw[bf<|u.1 G];exact⟨rfl,iV.go (H.ahead i) J<|(gO s t (de s t) t _).2.2.1.trans hR.run⟩
 .rw[av<|λW=>G<|u.2 W];show iV p d K s t m g w 0 (s.dM t (de s t)<|bz s t) 0 w1;rw[CF hR.hi];exact iV.go ((Tr.refl h).kept i) hS hR.run
 grind
include hP
theorem OB(u:a<nr)(W:b<256)(J:c<256)(he:m.ev.length<=100000):Calls prog 194 #[P0 g.mb,ah t,dD (g.rb t n) nr nr,jC 14 a b c] w λe w'=>∃v:Int,e=.returned (ah v)/\iV p d K s t m g w 0 (s.back t<|(bz s t).R a) v w':=by
 have G:=oH hR.ok.lw hR.ht<|(bz s t).R a;refine(N8 (R:=λw'=>iV p d K s t m g w 0 (s.back t<|(bz s t).R a) (if decide (de s t=0)=true then -1 else 0) w') (f:=decide (de s t=0)) u W J (hQ.rc u)<|λw1 y=>?_).mono ?_
 .refine dq (JA hP (h.kept y) hS hR.ok hR.lv hR.wh (hR.n9 (a:=a)<|eZ hQ.r2 u) he) ?_;rintro w' ⟨m',g',i,H⟩;refine⟨rfl,?_⟩;by_cases o:de s t=0
  .rw[bf ey];exact iV.stop (i.ahead y) (H.mono af)<|G.1 o
  rw[av ey];exact iV.go (i.ahead y) H<|(G.2 o).1.trans hR.run
 grind
omit hP in
theorem Oz(y:a<nr)(J:b<256)(H:c<256)(he:m.ev.length<=100000):Calls prog 194 #[P0 g.mb,ah (t:Int),dD (g.rb t n) nr nr,jC 20 a b c] w λe w'=>∃v:Int,e=.returned (ah v)/\iV p d K s t m g w (jY s t a).1 (jY s t a).2 v w':=by
 have G:=tV hR.ok hS<|hR.n9 (a:=a)<|eZ hQ.r2 y;refine(N7 (R:=λw'=>((bz s t).R a).1=0->iV p d K s t m g w 0 (s.told 1 t ((bz s t).R a).2) 0 w') y J H (hQ.rc y)<|λw1 o=>?_).mono ?_
 .refine dq (El 1 t _ (h.kept o) he) ?_;rintro w' ⟨g',u⟩;refine⟨rfl,λi=>?_⟩;rw[oN i]at u;exact iV.go (u.ahead o) (hS.told 1 t _) hR.run
 unfold jY;rintro e w' (⟨i,rfl,u⟩|⟨i,rfl,o⟩)
 .grind
 rw[av<|λe=>i<|G.1.2 e];grind[iV.fail]
end
