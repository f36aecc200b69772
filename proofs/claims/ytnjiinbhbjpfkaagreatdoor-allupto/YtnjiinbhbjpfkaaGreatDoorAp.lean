import Derived.Test.YtnjiinbhbjpfkaaGreatDoorAk
set_option maxRecDepth 100000
set_option maxHeartbeats 0
set_option linter.all false
namespace Go.Proofs.YtnjiinbhbjpfkaaGreatDoor
open Go.RowKit Go.Proofs.Tryz
namespace D
open F
variable {p:dH}{d:Dp}{K:Nat}{s:Pl}{m m':Dm}{g g':Dg}{w w':aa}{ρ:Nat->Nat}
theorem EG{mb k G nr a b c nt tc tb:Nat}{x clk:Int}{R:aa->Prop}(ha:a<nr)(r:lH w G a (0,x))(hk:k<nt)(hn:nt<1000000000)(h0:0<=clk)(Y:clk<=9223372036854775807)(k0:-9223372036854775808<=x)(k1:x<=9223372036854775807)(H:∀w1,w.grownBy w1 none->eN 228 #[P0 mb,ah<|(k:Int)+1,ah 2,ah 0,ah<|-1] w1 λw'=>R w'/\(∀j,w.heap.size<=j->j<w1.heap.size->w'.heap[j]?=w1.heap[j]?)/\w'.cell? (az mb 6)=some (dD tb nt tc)/\w'.cell? (az mb 5)=some (ah clk)/\(∃u:Int,w'.cell? (az tb<|k*8+4)=some (ah u))/\w'.frozen? (az tb<|k*8+4)=false):dC 215 #[P0 mb,ah<|(k:Int)+1,dD G nr nr,jC 17 a b c] w (ah<|-1) λw'=>∃i,R i/\(i.setCell (az tb<|k*8+4)<|ah<|B.iL clk x).grownBy w' none:=by
 have lr:G<w.heap.size:=an w _ r.1;have a1:(a:Int)<nr:=af
 obtain⟨Z,r1,r2,r3⟩:=r;simp only[]at Z r1;have q1:=fm (n:=k) af;have q2:(k:Int)<nt:=af
 have q3:(0:Int)<=k:=af
 have q4:IntKind.i64.wrap (k:Int)=k:=jA
 have HL:Hid (∀w0:aa,dC 141 #[ah clk,ah x] w0 (ah<|B.iL clk x) λw'=>w'=w0):=λw0=>FC clk x h0 Y k0 k1;have W:=nw w 17 a b c 0 x 0;have HH:=bj<|H (gG (gG w #[ah ((17:Nat):Int),ah a,ah b,ah c] 90) #[ah 0,ah x] 115)<|ax (ax (aw _ _) _) _;have HY:Hid (∀w':aa,(∀j,w.heap.size<=j->j<(gG (gG w #[ah ((17:Nat):Int),ah a,ah b,ah c] 90) #[ah 0,ah x] 115).heap.size->w'.heap[j]?=(gG (gG w #[ah ((17:Nat):Int),ah a,ah b,ah c] 90) #[ah 0,ah x] 115).heap[j]?)->dW w' (w.heap.size+1) 1=some (ah x)):=λw' h=>(bd (a:=az (w.heap.size+1) 1)<|h (w.heap.size+1) (Nat.le_succ _)<|an _ _ W.2.2.2.2.2.2).trans W.2.2.2.2.2.2;clear H W h0 Y k0 k1;generalize hy:B.iL clk x=y at*;clear hy;delta dC;go_in;go_wp2_with fail
 refine dq HH ?_;rintro i ⟨hR,J,c6,c5,⟨u,c4⟩,z4⟩;have y1:=HY i J;change Hid _ at hR;clear J HY HH Z r1 r2 r3;go_wp2
 go_cut[] (λwx=>Hid<|iY (iA i tb (k*8+4)<|ah y) wx)
 case first=>
  go_region_with (go_at_call 141;refine dq (HL _) ?_;rintro w5 rfl)
  all_goals
   go_wp2
   go_meet
   case rel=>first|exact(bo (aw _ _):World.grownBy _ _ _)|exact(aw _ _:World.grownBy _ _ _)
 case rest=>
  have o:=hcut;clear hcut;go_wp2
  go_ret;exact⟨rfl,i,hR,o⟩
end D
namespace D
open F
variable {w:aa}
theorem yR{o i j mb u nr a b c z cb J cc sN sl v:Nat}{x H y why:Int}{vo:B.V}(ho:(o=10/\b=i/\c=j)\/(o=11/\a=i/\b=j/\(c:Int)<nr/\lH w u c vo))(hi:i<nr)(hj:j<nr)(Z:lH w u i (z+1,x))(rt:lH w u j (v,y))(hz:z<J)(hn:J<1000000000)(W:w.cell? (az mb 12)=some (dD cb J cc))(k1:w.cell? (az cb<|z*2+1)=some (ah H))(k0:w.cell? (az cb<|z*2)=some (dD sN sl sl))(hX:(0<=H/\why=2)\/(¬(0<=H)/\(0:Int)<v/\why=1)\/(¬(0<=H)/\v=0/\decide (y<0)=true/\why=3)\/(¬(0<=H)/\v=0/\decide (y<0)=false/\decide ((sl:Int)<=y)=true/\why=3)):dC 214 #[P0 mb,dD u nr nr,jC o a b c] w (ah why) λw'=>w.grownBy w' none:=by
 have lr:u<w.heap.size:=an w _ Z.1;have lm:mb<w.heap.size:=an w _ W;have lc:cb<w.heap.size:=an w _ k1;have a5:(i:Int)<nr:=af
 have a6:(j:Int)<nr:=af
 have a2:u<w.heap.size+1:=af
 have a7:u<w.heap.size+1+1:=af
 have a1:mb<w.heap.size+1:=af
 have a8:mb<w.heap.size+1+1:=af
 have aB:cb<w.heap.size+1:=af
 have a9:cb<w.heap.size+1+1:=af
 have q1:IntKind.i64.wrap ((z:Int)+1-1)=(z:Int):=fm af;have q2:IntKind.i64.wrap (z:Int)=z:=jA
 have q3:(z:Int)<J:=af
 have q4:(0:Int)<=z:=af
 have q5:(((z:Int)+1) == 0)=false:=lD dY
 obtain⟨G,r1,_,_⟩:=Z;have r0:dW w u (i*2)=some (ah<|(z:Int)+1):=G;clear G;obtain⟨s0,s1,_,_⟩:=rt;simp only[]at r1 s0 s1;rcases ho with⟨rfl,rfl,rfl⟩|⟨rfl,rfl,rfl,a0,o0,o1,_,_⟩<;>rcases hX with⟨Y,rfl⟩|⟨Y,q7,rfl⟩|⟨Y,rfl,b1,rfl⟩|⟨Y,rfl,b1,b2,rfl⟩
 all_goals
  try simp only[]at s0
  delta dC;go_in;go_wp2
  go_quiet (fail)
  go_wp2_with fail
  try
   go_quiet (fail)
   go_wp2
  go_ret;refine⟨rfl,?_⟩;first|exact df (df (ax (ax (ax (aw _ _) _) _) _) _) _|exact df (ax (ax (ax (aw _ _) _) _) _) _
end D
namespace D
open F
variable {p:dH}{d:Dp}{K:Nat}{s:Pl}{m m':Dm}{g g':Dg}{w w':aa}{ρ:Nat->Nat}
theorem M8{t n nr a b c:Nat}{vc:B.V}(bC:c<nr)(b3:(fX m t n).R c=vc)(hb:b<256)(h:dZ d m g w)(hC:Cl d m)(ht:nF m t)(hi:n<(m.T t).fr.length)(hr:d.rg (fX m t n).f=nr)(ha:a<nr)(hA:m.G.all<1000000000/\m.G.sure<1000000000/\m.G.kL<1000000000):Calls prog 214 #[P0 g.mb,dD (g.rb t n) nr nr,jC 12 a b c] w λe w'=>∃v:Int,e=.returned (ah v)/\DU d m g w t n a (b+1) [vc] v w':=by
 let⟨i0,aY,b2,aU,b6⟩:=info_parts Tryz.BV;let⟨i5,bE,bF,bB,b5⟩:=info_parts Tryz.uq;have HH:=bj h;have HR:Hid (∀w1,iY w w1->Calls prog 225 #[P0 g.mb] w1 λe w'=>∃ok:Bool,e=.returned (.bool ok)/\Tr d m g w1 (m.jB<|fJ d m) g w'/\Ci d m ok):=λw1 hg=>(Jp (h.kept hg) hC).mono (λe w' hh=>by
  obtain⟨ok,e1,e2,e3⟩:=hh;exact⟨ok,e1,e2,e3⟩)
 have aX:=bj hC.n2;have HT:=bj<|bh ht<|bh hi hr;have HA:=bj hA;have aD:=(h.R ht hi).lt;have bN:=h.M.lt;obtain⟨r0,r1,_,_⟩:lH w (g.rb t n) c vc:=by
  have h9:=Kh (h.R ht hi) (a:=c)<|eZ hr bC;rw[b3]at h9;exact h9
 have bH:(c:Int)<nr:=af
 obtain⟨l,hl⟩:∃l:List B.V,l=[vc]:=⟨_,rfl⟩;rw[<-hl];have aI:l.length=1:=kh hl
 change Hid _ at hl;clear h hC ht hi hr hA;go_in;go_wp2_with (at_make;go_loud (refine wpList_make_full _ rfl _ _ 161 rfl 0 115 i5 _ 2 Tryz.underlying161 bE bF bB _ _ _ _ b rfl rfl rfl rfl (lD b5) pY (di _) ?_))
 intro w3 aG a1;have hz:=a1.size;simp at hz;have x0:w3.heap[w.heap.size]?=ny #[ah ((12:Nat):Int),ah a,ah b,ah c] 90:=da a1 (bl _ _) je;have aA:=ar (ax (aw _ _) _) a1;have a0:dW w3 w.heap.size 0=some (ah ((12:Nat):Int)):=fj x0
 have a2:dW w3 w.heap.size 2=some (ah b):=fj x0
 have a3:dW w3 w.heap.size 3=some (ah c):=fj x0
 have v0:=(ay aA (a:=az (g.rb t n)<|c*2) aD).1.trans r0;have v1:=(ay aA (a:=az (g.rb t n)<|c*2+1) aD).1.trans r1;have aS:w.heap.size<w3.heap.size:=af
 have b9:g.rb t n<w3.heap.size:=af
 have lX:w.heap.size+1<=w3.heap.size:=af
 change Hid _ at a1 x0;clear aG aA r0 r1;go_wp2
 go_cut[] (λwx=>∃Z:Nat,Hid<|w.heap.size+1<=Z/\Z≠w3.heap.size/\iY (gG w #[ah ((12:Nat):Int),ah a,ah b,ah c] 90) wx/\wx.heap[w.heap.size]?=ny #[ah ((12:Nat):Int),ah a,ah b,ah c] 90/\wx.heap[w3.heap.size]?=ny #[dD Z 1 1,ah b] 233/\wx.heap[Z]?=ny #[ah vc.1,ah vc.2] 115)
 case first=>
  go_region
  all_goals
   go_wp2
   go_meet
   case rel=>
    refine⟨w3.heap.size+1,af,af,bo<|ax (ax a1.out _) _,(au _ _ _ fV).trans<|(au _ _ _ aS).trans x0.out,(au _ _ _ eG).trans<|bl _ _,?_⟩;have h9:=bl (gG w3 #[dD (w3.heap.size+1) 1 1,ah b] 233)<|.cells #[ah vc.1,ah vc.2] 115;rw[World.size_alloc]at h9;exact h9
 case rest=>
  obtain⟨Z,aP⟩:=hcut;let⟨bI,nX,kW,xW,yW,sW⟩:=aP.out;obtain⟨W,b4⟩:∃x:aa,x=wc:=⟨_,rfl⟩;subst b4;obtain⟨X,hX⟩:∃X,X=w3.heap.size:=⟨_,rfl⟩;rw[<-hX]at lX yW nX;have KW:=bj kW;have XW:=bj xW;have YW:=bj yW;have SW:Hid (Full W Z 115 (l.length*2) (l.length*2)<|eR<|nD l):=by
   show Full _ _ _ (l.length*2) (l.length*2) _;rw[hl.out];refine⟨_,sW,rfl,λj Y=>?_⟩;have a4:j=0\/j=1:=by
    have:j<1*2:=Y;omega
   rcases a4 with rfl|rfl<;>rfl
  clear aP kW xW yW sW nX a0 a2 a3 v0 v1 b9 a1 x0;go_wp2_with fail
  rw[<-hX];clear hX aS hz;refine(HR.out W<|ar (ax (aw _ _) _) KW.out).mono ?_;rintro e J ⟨ok,rfl,h5,aM⟩;have hW:=KW.out.size;simp at hW;have nE:∀j,w.heap.size<=j->j<W.heap.size->J.heap[j]?=W.heap[j]?:=λj h1 h2=>h5.o.same h2<|HH.out.fresh h1;have X5:=bj<|(nE _ (bm _) af).trans XW.out;have Y5:=bj<|(nE X af<|ch YW.out).trans YW.out;have S5:=bj<|SW.out.block<|nE Z af SW.out.lt;have T5:=bj<|h5.ahead KW.out;have N5:Hid (¬eJ d (m.jB<|fJ d m) g Z):=λhm=>by
   rcases h5.m Z hm with h1|h1
   .exact HH.out.fresh af h1
   have:=SW.out.lt;omega
  change Hid _ at aM;clear h5 nE XW YW SW KW HR
  cases ok with
  |false=>
   go_wp2
   go_ret;exact⟨-2,rfl,ag ⟨aM.out,rfl,T5.out.ahead<|ax (aw _ _) _⟩⟩
  |true=>
   let⟨aB,aQ⟩:=T5.out.r.mc 12 af (v:=.slice (g.ro 3 0).1 m.nc (g.ro 3 0).2) rfl;have aF:=bj T5.out.r.Cw;have b0:dW J X 0=some (dD Z 1 1):=fj Y5.out
   have b1:dW J X 1=some (ah<|(b:Int)):=fj Y5.out
   have l5:g.mb<J.heap.size:=an J _ aB;have b8:X<J.heap.size:=an J _ b0;have aT:w.heap.size<J.heap.size:=ch X5.out;have a7:Hid (∀j,(Value.slice (g.ro 3 0).1 m.nc (g.ro 3 0).2).ownBlock=some j->j<J.heap.size/\j≠g.mb/\j≠X/\j≠w.heap.size):=λj Y=>by
    have a4:fk (g.ro 3 0).1=some j:=by rw[<-dJ (g.ro 3 0).1 m.nc (g.ro 3 0).2];exact Y
    have hm:eJ d m g j:=⟨3,0,0,by rw[iy<|pn af];exact a4⟩;have:=HH.out.lt hm;exact⟨af,HH.out.ne (x:=3) (y:=0) (z:=0) (x':=0) (y':=0) (z':=0) (pn af) rfl a4 rfl af,af,af⟩
   have aO:Hid (∀w':aa,w'.heap[g.mb]?=J.heap[g.mb]?->w'.heap[X]?=J.heap[X]?->dW w' g.mb 12=some (.slice (g.ro 3 0).1 m.nc (g.ro 3 0).2)/\w'.frozen? (az g.mb 12)=false/\dW w' X 0=some (dD Z 1 1)/\dW w' X 1=some (ah<|(b:Int))):=λw' e1 e2=>⟨(bd (a:=az g.mb 12) e1).trans aB,(dv (a:=az g.mb 12) e1).trans aQ,(bd (a:=az X 0) e2).trans b0,(bd (a:=az X 1) e2).trans b1⟩;have a9:Hid (∀(o:Obj) (j:Nat),j<J.heap.size->(J.drew.alloc o).heap[j]?=J.heap[j]?):=λo j Y=>au J.drew o j Y;have bL:m.nc+1<=1000000000:=gD aX.out
   clear lX hW;go_wp2
   go_cut[] (λwx=>Hid<|∃g2,Tr d m g (gG w #[ah ((12:Nat):Int),ah a,ah b,ah c] 90) ((m.jB<|fJ d m).nU (b+1) l) g2 wx/\g2.rb=g.rb/\wx.heap[w.heap.size]?=ny #[ah ((12:Nat):Int),ah a,ah b,ah c] 90)
   case first=>
    go_region_law (refine fH _ rfl (.tmp 44) (.tmp 46) 108 rfl 233 i0 _ 2 32 Tryz.underlying108 aY b2 aU b6 rfl eo (g.ro 3 0).1 m.nc (g.ro 3 0).2 (rowP (m.nc*2)<|cE (m.jB<|fJ d m) g) mS (dS aF.out<|λj Y=>a9.out _ _ (a7.out j Y).1) (az J.heap.size 0) 1 1 [dD Z 1 1,ah<|(b:Int)] mS rfl (by intro j u Y;match j,Y with|0,Y=>(simp at Y;subst Y;simp[Addr.add,go_sem])|1,Y=>(simp at Y;subst Y;simp[Addr.add,go_sem])) yv pY af eo ?_;intro v' w6 ho a5 aE;obtain⟨cb,aV,rfl⟩:=ef ho af;have aL:=bj ho;have bD:=bj a5;have aW:=bj aE;have KO:Hid (∀j,j<J.heap.size->(j=g.mb\/j=X\/j=w.heap.size)->w6.heap[j]?=J.heap[j]?):=(λj Y hn=>(a5.block j (by first|(simp;omega)|omega) (λh=>by have h9:=a7.out j h.symm;omega)).trans<|a9.out _ _ Y);let⟨bK,sz,sa,sb⟩:=aO.out w6 (KO.out _ l5<|ag rfl)<|KO.out _ b8<|ak<|ag rfl;clear ho a5 aE)
    all_goals
     go_wp2
     go_meet
     case rel=>
      refine⟨_,Gr (l:=l) (ty:=(b+1)) (cb:=cb) (cc:=aV) T5.out (ax (bo<|aw J none)<|.cells #[dD Z 1 1,ah<|(b:Int)] 233) S5.out N5.out fV (by first|(rw[aI];exact aL.out)|(rw[aI,show(((b+1:Nat):Int)-1)=(b:Int) by omega];exact aL.out)) bD.out aW.out,rfl,?_⟩;rw[ab _ _ _ _ (by show w.heap.size≠g.mb;omega),KO.out _ aT<|ak<|ak rfl];exact X5.out
   case rest=>
    let⟨g2,h6,H,x6⟩:=hcut.out;have aR:=h6.b;have a8:=bj<|JF h6.r (by show(fJ d m).all<_;rw[wK];exact HA.out.1) (by show(fJ d m).sure<_;rw[uM];exact HA.out.2.1) (by show(fJ d m).kL<_;rw[uN];exact HA.out.2.2);rw[aR]at a8;have aN:Hid (¬eJ d ((m.jB<|fJ d m).nU (b+1) l) g2 w.heap.size):=λhm=>by
     rcases h6.m _ hm with h1|h1
     .exact HH.out.fresh (bm _) h1
     rw[World.size_alloc]at h1;omega
    have H6:=bj<|bh h6<|bh H x6;clear h6 H x6 hcut aB aQ aF b0 b1 a7 aO a9 X5 Y5 S5 T5 N5;go_wp2_with fail
    refine dq a8 λw7 h7=>?_;let⟨h6,H,x6⟩:=H6.out;have h8:=h6.trans h7;have hT:=HT.out;have y7:=(h7.o.same (ch x6) aN.out).trans x6;have e1:dW w7 w.heap.size 1=some (ah a):=fj y7
    let⟨bA,_⟩:=h8.r.mc 12 af (v:=.slice (g2.ro 3 0).1 (m.nc+1) (g2.ro 3 0).2) rfl;rw[aR]at bA;have hF:=h8.r.R (t:=t) (i:=n) hT.1 hT.2.1;have a6:Full w7 (g.rb t n) 115 (nr*2) (nr*2) (eR (fX m t n).R):=by
     have h9:=hF;rw[H]at h9;rw[<-hT.2.2];exact h9
    let⟨r0,r1,r2,r3⟩:=Kh a6 ha;have H8:=bj<|bh h8 H;have bG:(a:Int)<nr:=af
    clear h6 H x6 h8 h7 hT y7 hF a6 a8 H6 aN;generalize (g2.ro 3 0).1=ca at*;generalize (g2.ro 3 0).2=cc at*;go_wp2
    go_cut[] (λwx=>Hid<|iY (oR w7 (g.rb t n) a (m.nc+1,0)) wx)
    case first=>
     go_region
     all_goals
      go_wp2
      go_meet
      case rel=>first|exact(bo (aw _ _):World.grownBy _ _ _)|exact(aw _ _:World.grownBy _ _ _)
    case rest=>
     have aC:=hcut;clear hcut;go_wp2
     go_ret;let⟨h8,H⟩:=H8.out;have h9:=h8.r.sQ (t:=t) (i:=n) HT.out.1 HT.out.2.1 a (m.nc+1,0);rw[H]at h9;exact⟨0,rfl,ak ⟨aM.out,rfl,g2,((h8.trans h9).kept aC.out).ahead<|ax (aw _ _) _⟩⟩
end D
namespace D
open F
variable {p:dH}{d:Dp}{K:Nat}{s s':Pl}{m m':Dm}{g g':Dg}{w w':aa}{ρ ρ':Nat->Nat}{t tb fb n nr a b c:Nat}{why:Int}
theorem eF.jB(h:eF p K s m ρ){G:Dc}(e:GA G m.nc)(i:Nm p.n K s.kd s.M G/\(m.sp=true->G.fu=true)):eF p K s (m.jB G) ρ:={h with A:=e,U:=i}
def Hv(d:Dp)(h:GA m.G m.nc):GA (fJ d m) m.nc:=by
 unfold fJ;split
 .exact h
 exact h
def Hu(d:Dp){i:Nat}{kd:B.Kd}{M:Nat->List B.V}{S:Prop}(h:Nm i K kd M m.G/\(S->m.G.fu=true)):Nm i K kd M (fJ d m)/\(S->(fJ d m).fu=true):=by
 unfold fJ;split
 .exact⟨⟨h.1.b,h.1.u,h.1.c,λe=>by cases e⟩,λ_=>rfl⟩
 exact h
theorem eF.GF(hS:eF p K s m ρ)(o:∀c,1<=c->c<=p.n->qy p s c):p.n<=m.nc:=by
 have u:((List.range p.n).map<|λi=>ρ<|i+1).length<=m.nc:=gR m.nc _ (mO (f:=λi=>ρ<|i+1) _ List.nodup_range (λa Y b H e=>by
  grind[D.eF.I])) (λc y=>by
  obtain⟨i,hi,rfl⟩:=eX.1 y;have Z:=fY.1 hi;have:=hS.C (i+1)<|o _ af af;exact⟨this.c1,this.c2⟩)
 grind
theorem wJ(h:(fJ d m).fu=false):m.G.all<d.n/\fJ d m=m.G:=by
 unfold fJ at h⊢;split at h
 .cases h
 grind
theorem eF.jW(hS:eF p K s m ρ)(G:Ok p s)(hP:PD p d)(hG:∀f,f<p.nf->2<=p.rg f/\p.rg f<=8)(hK:K<900000000)(hn:s.nt≠0):Cl d m:=by
 refine⟨eZ hS.nt hn,(hS.small G).1,gD hS.B.1,λt ht=>?_,λc Y=>?_⟩
 .by_cases J:t∈s.lv
  .have y:=hS.T t J;have hw:=G.fw t J trivial;refine⟨eZ y.l hw.n2,λi hi=>?_⟩;rw[y.l]at hi;have o:(du s t i).f<p.nf:=(hw.f i hi).1;have e:(fX m t i).f=(du s t i).f:=(y.f i hi).f;grind[D.PD.rg]
  have:=(hS.O t ((iP hS t).1 ht) J).2.1;grind
 obtain⟨k,k1,rfl⟩:=hS.MF G hP Y;have u:=hS.C k k1;exact⟨u.c1,u.c2,by rw[u.M,eD];exact u.l⟩
theorem DU.Pf(hP:PD p d)(hS:eF p K s m ρ)(hR:Rn p s t)(hQ:ph p d s m g w ρ t tb fb n nr){ty:Nat}{l:List B.V}{v:Int}(Z:ty≠0->l≠[])(a0:l.length<=8)(hl:∀v,v∈l->dV p s v)(hm:mG p s t a ty l s')(W:DU d m g w t n a ty (l.map<|tr ρ) v w'):iV p d K s t m g w 0 s' v w':=by
 have o:=hS.jB (Hv d hS.A)<|Hu d hS.U;rcases W with⟨hr,rfl,Y⟩|⟨hr,rfl,g',Y⟩
 .rcases hm with⟨c,kd1,c1,J,y,u,c5,rfl⟩|⟨i,kd1,u,rfl⟩
  .exfalso
   rcases hr with⟨_,e⟩|⟨N,W,e⟩
   .grind[of_decide_eq_false,D.PD.n]
   have:=of_decide_eq_false e.symm;rw[hP.n]at this;exact this ((hS.room hR.ok hP W).2.2 ⟨c,c1,J,λhc=>by
    grind[B.nJ]⟩)
  have hF:(fJ d m).fu=true:=by
   cases e:(fJ d m).fu with
   |true=>rfl
   |false=>
    have H:=(wJ e).1;have:=hS.GF i;rw[hS.A.1,hP.n]at H;omega
  exact⟨ρ,_,g,Y,ag ⟨rfl,rfl,⟨kd1,rfl,o.U.1.full hF rfl rfl u.2.1 u.2.2.1 u.2.2.2,hF⟩,o.mono af⟩⟩
 rcases hm with⟨c,kd1,c1,J,y,u,c5,rfl⟩|⟨i,kd1,u,rfl⟩
 .have H:=o.pq (a:=a) (ty:=ty) (l:=l) hR.ok hR.lv hR.fw.n1 u y af Z a0 hl (by
   rcases c5 with rfl|⟨o1,_,o3,o4,o5,_⟩
   .exact(o.U.1.laid hR.ok.hl c1 J y hl).mono<|Nat.le_succ _
   cases e:(fJ d m).fu with
   |true=>exact o.U.1.full (G':=(fJ d m).born) e rfl rfl o3 o5 (by show kd1.fo<=_;omega)
   |false=>
    exfalso
    let⟨H,h3⟩:=wJ e;rw[h3]at e;let⟨q,q1,q2,q3⟩:=hS.U.1.less e (by grind[GA,D.eF.A,D.PD.n]);grind)
  rw[show qE (m.jB<|fJ d m) t=n from hQ.tp,show qz (m.jB<|fJ d m) t=fX m t n from hQ.tf]at H;exact⟨_,_,g',Y,ak ⟨H,ak<|ag ⟨rfl,rfl,(gO (s.pq kd1 c ty l) t (de s t) t _).2.2.1.trans hR.run⟩⟩⟩
 exfalso
 rcases hr with⟨hf,e⟩|⟨N,W,e⟩
 .unfold fJ at hf;by_cases hd:d.n<=m.G.all
  .rw[bf hd]at hf
   cases hf
  rw[hS.A.1,hP.n]at hd;have:=hS.GF i;omega
 have:=eQ e.symm;rw[hP.n]at this;let⟨c,c1,J,y⟩:=(hS.room hR.ok hP W).2.1 this;grind
section
variable (hP:PD p d)(hG:∀ f,f<p.nf->2<=p.rg f/\p.rg f<=8)(h:dZ d m g w)(hS:eF p K s m ρ)(hR:Rn p s t)(hQ:ph p d s m g w ρ t tb fb n nr)(hK:K<900000000)
include hP hG h hS hR hQ hK
theorem Pw(W:a<nr)(i:b<=8)(Y:b<256)(G:c<256)(Z:mG p s t a 0 (List.replicate b (0,0)) s'):Calls prog 194 #[P0 g.mb,ah t,dD (g.rb t n) nr nr,jC 9 a b c] w λe w'=>∃v:Int,e=.returned (ah v)/\iV p d K s t m g w 0 s' v w':=by
 have o:=hS.A;have hB:=hS.B.1;refine Bj af Y G<|λw1 y=>(Ns i (h.kept y) (hS.jW hR.ok hP hG hK (by have:=hR.ht.1;have:=hR.ht.2;omega)) hQ.dt hQ.hi hQ.r1 W ⟨gD o.1,gD o.2.1,gD o.2.2⟩).mono ?_;rintro e w' ⟨v,rfl,H⟩;have e:(List.replicate b ((0,0):B.V)).map (tr ρ)=List.replicate b (0,0):=by rw[List.map_replicate,pA]
 exact⟨v,rfl,(DU.Pf hP hS hR (hQ.kept h y) (l:=List.replicate b (0,0)) (λe=>dr rfl e) ey (λv J=>by grind[dV.num]) Z ey).ahead y⟩
theorem OC(Y:a<nr)(i:c<nr)(G:b<256)(H:c<256)(Z:mG p s t a (b+1) [(bz s t).R c] s'):Calls prog 194 #[P0 g.mb,ah t,dD (g.rb t n) nr nr,jC 12 a b c] w λe w'=>∃v:Int,e=.returned (ah v)/\iV p d K s t m g w 0 s' v w':=by
 have o:=hS.A;have hB:=hS.B.1;refine Bj af G H<|λw1 y=>(M8 i (hQ.V c i) G (h.kept y) (hS.jW hR.ok hP hG hK (by have:=hR.ht.1;have:=hR.ht.2;omega)) hQ.dt hQ.hi hQ.r1 Y ⟨gD o.1,gD o.2.1,gD o.2.2⟩).mono ?_;rintro e w' ⟨v,rfl,J⟩;exact⟨v,rfl,(DU.Pf hP hS hR (hQ.kept h y) (l:=[(bz s t).R c]) (λ_ e=>by cases e) ey (λv W=>by grind[F.Rn.n9,D.ph.r2]) Z J).ahead y⟩
end
