import Derived.Test.YtnjiinbhbjpfkaaGreatDoorTe
set_option maxRecDepth 100000
set_option maxHeartbeats 0
set_option linter.all false
namespace Go.Proofs.YtnjiinbhbjpfkaaGreatDoor
open Go.RowKit Go.Proofs.Tryz
namespace D
open F
variable {p:dL}{d:Dp}{K:Nat}{s:Pl}{m m':Dm}{g g':Dg}{w w':aa}{ρ:Nat → Nat}
def Mb{t n nr a b c:Nat}{vc:B.V}(bC:c<nr)(b3:(fU m t n).R c=vc)(hb:b<256)(h:dZ d m g w)(hC:Dd d m)(ht:mY m t)(hi:n<(m.T t).fr.length)(hr:d.rg (fU m t n).f=nr)(ha:a<nr)(hA:m.G.all<1000000000/\m.G.sure<1000000000/\m.G.nF<1000000000): Calls prog 214 #[P0 g.mb,dA (g.rb t n) nr nr,jn 12 a b c] w λe w'=>∃v:Int,e=.returned (aj v)/\Da d m g w t n a (b+1) [vc] v w':=by
 obtain⟨i0,aY,b2,aU,b6⟩:=info_parts Tryz.Bn;obtain⟨i5,bE,bF,bB,b5⟩:=info_parts Tryz.tM;have HH:=bj h;have HR:Hid (∀w1,w.grownBy w1 none->Calls prog 225 #[P0 g.mb] w1 λe w'=>∃ok:Bool,e=.returned (.bool ok)/\Tr d m g w1 (m.iY (gl d m)) g w'/\BG d m ok):=λw1 hg=>(Is (h.kept hg) hC).mono (λe w' hh=>by
  obtain⟨ok,e1,e2,e3⟩:=hh;exact⟨ok,e1,e2,e3⟩)
 have aX:=bj hC.n2;have HT:=bj (bh ht (bh hi hr));have HA:=bj hA;have aD:=(h.R ht hi).lt;have bN:=h.M.lt;obtain⟨r0,r1,_,_⟩:kR w (g.rb t n) c vc:=by
  have h9:=Jn (h.R ht hi) (a:=c) (eV hr bC);rw[b3]at h9;exact h9
 have bH:(c:Int)<nr:=ag
 obtain⟨l,hl⟩:∃l:List B.V,l=[vc]:=⟨_,rfl⟩;rw[<-hl];have aI:l.length=1:=jx hl
 change Hid _ at hl;clear h hC ht hi hr hA;go_in;go_wp2_with (at_make;go_loud (refine wpList_make_full _ rfl _ _ 161 rfl 0 115 i5 _ 2 Tryz.underlying161 bE bF bB _ _ _ _ b rfl rfl rfl rfl (kr b5) pY (dk _) ?_))
 intro w3 aG a1;have hz:=a1.size;simp at hz;have x0:w3.heap[w.heap.size]? = some (.cells #[aj ((12:Nat):Int),aj a,aj b,aj c] 90 (0,0)):=da a1 (bl _ _) im;have aA:=ar (ax (aw _ _) _) a1;have a0:dS w3 w.heap.size 0=some (aj ((12:Nat):Int)):=fy x0
 have a2:dS w3 w.heap.size 2=some (aj b):=fy x0
 have a3:dS w3 w.heap.size 3=some (aj c):=fy x0
 have v0:=(bd aA (a:=ay (g.rb t n) (c*2)) aD).1.trans r0;have v1:=(bd aA (a:=ay (g.rb t n) (c*2+1)) aD).1.trans r1;have aS:w.heap.size<w3.heap.size:=ag
 have b9:g.rb t n<w3.heap.size:=ag
 have lX:w.heap.size+1<=w3.heap.size:=ag
 change Hid _ at a1 x0;clear aG aA r0 r1;go_wp2
 go_cut [] (λwx=>∃Z:Nat,Hid (w.heap.size+1<=Z/\Z≠w3.heap.size/\(w.alloc (.cells #[aj ((12:Nat):Int),aj a,aj b,aj c] 90)).grownBy wx none/\wx.heap[w.heap.size]? = some (.cells #[aj ((12:Nat):Int),aj a,aj b,aj c] 90 (0,0))/\wx.heap[w3.heap.size]? = some (.cells #[dA Z 1 1,aj b] 233 (0,0))/\wx.heap[Z]? = some (.cells #[aj vc.1,aj vc.2] 115 (0,0))))
 case first=>
  go_region
  all_goals
   go_wp2
   go_meet
   case rel=>
    refine⟨w3.heap.size+1,ag,ag,bo (ax (ax a1.out _) _),(av _ _ _ fH).trans ((av _ _ _ aS).trans x0.out),(av _ _ _ eB).trans (bl _ _),?_⟩;have h9:=bl (w3.alloc (.cells #[dA (w3.heap.size+1) 1 1,aj b] 233)) (.cells #[aj vc.1,aj vc.2] 115);rw[World.size_alloc]at h9;exact h9
 case rest=>
  obtain⟨Z,aP⟩:=hcut;obtain⟨bI,nX,kW,xW,yW,sW⟩:=aP.out;obtain⟨W,b4⟩:∃x:aa,x=wc:=⟨_,rfl⟩;subst b4;obtain⟨X,hX⟩:∃X,X=w3.heap.size:=⟨_,rfl⟩;rw[<-hX]at lX yW nX;have KW:=bj kW;have XW:=bj xW;have YW:=bj yW;have SW:Hid (Full W Z 115 (l.length*2) (l.length*2) (eQ (mW l))):=by
   show Full _ _ _ (l.length*2) (l.length*2) _;rw[hl.out];refine⟨_,sW,rfl,λj Y=>?_⟩;have a4:j=0\/j=1:=by
    have:j<1*2:=Y;omega
   rcases a4 with rfl|rfl<;>rfl
  clear aP kW xW yW sW nX a0 a2 a3 v0 v1 b9 a1 x0;go_wp2_with fail
  rw[<-hX];clear hX aS hz;refine(HR.out W (ar (ax (aw _ _) _) KW.out)).mono ?_;rintro e J ⟨ok,rfl,h5,aM⟩;have hW:=KW.out.size;simp at hW;have mX:∀j,w.heap.size<=j->j<W.heap.size->J.heap[j]? = W.heap[j]?:=λj h1 h2=>h5.o.same h2 (HH.out.fresh h1);have X5:=bj ((mX _ (bq _) ag).trans XW.out);have Y5:=bj ((mX X ag (ch YW.out)).trans YW.out);have S5:=bj (SW.out.block (mX Z ag SW.out.lt));have T5:=bj (h5.ahead KW.out);have N5:Hid (¬eH d (m.iY (gl d m)) g Z):=λhm=>by
   rcases h5.m Z hm with h1|h1
   .exact HH.out.fresh ag h1
   have:=SW.out.lt;omega
  change Hid _ at aM;clear h5 mX XW YW SW KW HR
  cases ok with
  | false=>
   go_wp2
   go_ret;exact⟨-2,rfl,af ⟨aM.out,rfl,T5.out.ahead (ax (aw _ _) _)⟩⟩
  | true=>
   obtain⟨aB,aQ⟩:=T5.out.r.mc 12 ag (v:=.slice (g.ro 3 0).1 m.nc (g.ro 3 0).2) rfl;have aF:Hid (J.ownsRow 0 233 2 (.slice (g.ro 3 0).1 m.nc (g.ro 3 0).2) m.nc (rowP (m.nc*2) (cE (m.iY (gl d m)) g))):=T5.out.r.Cw;have b0:dS J X 0=some (dA Z 1 1):=fy Y5.out
   have b1:dS J X 1=some (aj ((b:Int))):=fy Y5.out
   have l5:g.mb<J.heap.size:=an J _ aB;have b8:X<J.heap.size:=an J _ b0;have aT:w.heap.size<J.heap.size:=ch X5.out;have a7:Hid (∀j,(Value.slice (g.ro 3 0).1 m.nc (g.ro 3 0).2).ownBlock=some j->j<J.heap.size/\j≠g.mb/\j≠X/\j≠w.heap.size):=λj Y=>by
    have a4:fi (g.ro 3 0).1=some j:=by rw[<-dF (g.ro 3 0).1 m.nc (g.ro 3 0).2];exact Y
    have hm:eH d m g j:=⟨3,0,0,by rw[ie (oQ ag)];exact a4⟩;have:=HH.out.lt hm;exact⟨ag,HH.out.ne (x:=3) (y:=0) (z:=0) (x':=0) (y':=0) (z':=0) (oQ ag) rfl a4 rfl ag,ag,ag⟩
   have aO:Hid (∀w':aa,w'.heap[g.mb]? = J.heap[g.mb]?->w'.heap[X]? = J.heap[X]?->dS w' g.mb 12=some (.slice (g.ro 3 0).1 m.nc (g.ro 3 0).2)/\w'.frozen? (ay g.mb 12)=false/\dS w' X 0=some (dA Z 1 1)/\dS w' X 1=some (aj ((b:Int)))):=λw' e1 e2=>⟨(az (a:=ay g.mb 12) e1).trans aB,(dr (a:=ay g.mb 12) e1).trans aQ,(az (a:=ay X 0) e2).trans b0,(az (a:=ay X 1) e2).trans b1⟩;have a9:Hid (∀(o:Obj) (j:Nat),j<J.heap.size->(J.drew.alloc o).heap[j]? = J.heap[j]?):=λo j Y=>av J.drew o j Y;have bL:m.nc+1<=1000000000:=gp aX.out
   clear lX hW;go_wp2
   go_cut [] (λwx=>Hid (∃g2,Tr d m g (w.alloc (.cells #[aj ((12:Nat):Int),aj a,aj b,aj c] 90)) ((m.iY (gl d m)).nE (b+1) l) g2 wx/\g2.rb=g.rb/\wx.heap[w.heap.size]? = some (.cells #[aj ((12:Nat):Int),aj a,aj b,aj c] 90 (0,0))))
   case first=>
    go_region_law (refine fD _ rfl (.tmp 44) (.tmp 46) 108 rfl 233 i0 _ 2 32 Tryz.underlying108 aY b2 aU b6 rfl ek (g.ro 3 0).1 m.nc (g.ro 3 0).2 (rowP (m.nc*2) (cE (m.iY (gl d m)) g)) mB (dQ aF.out (λj Y=>a9.out _ _ (a7.out j Y).1)) (ay J.heap.size 0) 1 1 [dA Z 1 1,aj ((b:Int))] mB rfl (by intro j u Y;match j,Y with|0,Y=>(simp at Y;subst Y;simp[Addr.add,go_sem])|1,Y=>(simp at Y;subst Y;simp[Addr.add,go_sem])) xI pY ag ek ?_;intro v' w6 ho a5 aE;obtain⟨cb,aV,rfl⟩:=ee ho ag;have aL:=bj ho;have bD:=bj a5;have aW:=bj aE;have KO:Hid (∀j,j<J.heap.size->(j=g.mb\/j=X\/j=w.heap.size)->w6.heap[j]? = J.heap[j]?):=(λj Y hn=>(a5.block j (by first|(simp;omega)|omega) (λh=>by have h9:=a7.out j h.symm;omega)).trans (a9.out _ _ Y));obtain⟨bK,sz,sa,sb⟩:=aO.out w6 (KO.out _ l5 (af rfl)) (KO.out _ b8 (ah (af rfl)));clear ho a5 aE)
    all_goals
     go_wp2
     go_meet
     case rel=>
      refine⟨_,Ft (l:=l) (ty:=(b+1)) (cb:=cb) (cc:=aV) T5.out (ax (bo (aw J none)) (.cells #[dA Z 1 1,aj ((b:Int))] 233)) S5.out N5.out fH (by first|(rw[aI];exact aL.out)|(rw[aI,show(((b+1:Nat):Int)-1)=(b:Int) by omega];exact aL.out)) bD.out aW.out,rfl,?_⟩;rw[ab _ _ _ _ (by show w.heap.size≠g.mb;omega),KO.out _ aT (ah (ah rfl))];exact X5.out
   case rest=>
    obtain⟨g2,h6,H,x6⟩:=hcut.out;have aR:=h6.b;have a8:=bj (IJ h6.r (by show(gl d m).all<_;rw[vN];exact HA.out.1) (by show(gl d m).sure<_;rw[ui];exact HA.out.2.1) (by show(gl d m).nF<_;rw[uj];exact HA.out.2.2));rw[aR]at a8;have aN:Hid (¬eH d ((m.iY (gl d m)).nE (b+1) l) g2 w.heap.size):=λhm=>by
     rcases h6.m _ hm with h1|h1
     .exact HH.out.fresh (bq _) h1
     rw[World.size_alloc]at h1;omega
    have H6:=bj (bh h6 (bh H x6));clear h6 H x6 hcut aB aQ aF b0 b1 a7 aO a9 X5 Y5 S5 T5 N5;go_wp2_with fail
    refine du a8 λw7 h7=>?_;obtain⟨h6,H,x6⟩:=H6.out;have h8:=h6.trans h7;have hT:=HT.out;have y7:=(h7.o.same (ch x6) aN.out).trans x6;have e1:dS w7 w.heap.size 1=some (aj a):=fy y7
    obtain⟨bA,_⟩:=h8.r.mc 12 ag (v:=.slice (g2.ro 3 0).1 (m.nc+1) (g2.ro 3 0).2) rfl;rw[aR]at bA;have hF:=h8.r.R (t:=t) (i:=n) hT.1 hT.2.1;have a6:Full w7 (g.rb t n) 115 (nr*2) (nr*2) (eQ (fU m t n).R):=by
     have h9:=hF;rw[H]at h9;rw[<-hT.2.2];exact h9
    obtain⟨r0,r1,r2,r3⟩:=Jn a6 ha;have H8:=bj (bh h8 H);have bG:(a:Int)<nr:=ag
    clear h6 H x6 h8 h7 hT y7 hF a6 a8 H6 aN;generalize (g2.ro 3 0).1=ca at *;generalize (g2.ro 3 0).2=cc at *;go_wp2
    go_cut [] (λwx=>Hid ((oz w7 (g.rb t n) a (m.nc+1,0)).grownBy wx none))
    case first=>
     go_region
     all_goals
      go_wp2
      go_meet
      case rel=>first|exact(bo (aw _ _):World.grownBy _ _ _)|exact(aw _ _:World.grownBy _ _ _)
    case rest=>
     have aC:=hcut;clear hcut;go_wp2
     go_ret;obtain⟨h8,H⟩:=H8.out;have h9:=h8.r.se (t:=t) (i:=n) HT.out.1 HT.out.2.1 a (m.nc+1,0);rw[H]at h9;exact⟨0,rfl,ah ⟨aM.out,rfl,g2,((h8.trans h9).kept aC.out).ahead (ax (aw _ _) _)⟩⟩
def Gq{mb t o nr a b c nt tc:Nat}{tp:Option Addr}{x:Int}(ha:a<nr)(r:kR w o a (0,x))(Y:w.cell? (ay mb 6)=some (.slice tp nt tc))(hx:x<1): dD 215 #[P0 mb,aj t,dA o nr nr,jn 19 a b c] w (aj 6) λw'=>w.grownBy w' none:=by
 have lr:o<w.heap.size:=an w _ r.1;have Z:(a:Int)<nr:=ag
 obtain⟨G,r1,r2,r3⟩:=r;simp only[]at G r1
 delta dD;go_in;go_wp2
 go_quiet (fail)
 have u:=nw w 19 a b c 0 x nq;rw[show((19:Nat):Int)=19 from rfl]at u;generalize ((w.alloc (.cells #[aj 19,aj a,aj b,aj c] 90)).alloc (.cells #[aj 0,aj x] 115)).drewN nq=w3 at *;obtain⟨i,i0,i1,i2,i3,y0,y1⟩:=u;have H:=bj i;go_wp2
 go_ret;simp_all
def Gp{mb t o nr a b c nt tc:Nat}{tp:Option Addr}{x:Int}(ha:a<nr)(r:kR w o a (0,x))(Z:w.cell? (ay mb 6)=some (.slice tp nt tc))(u:¬x<1)(hx:(nt:Int)<x): dD 215 #[P0 mb,aj t,dA o nr nr,jn 19 a b c] w (aj 6) λw'=>w.grownBy w' none:=by
 have lr:o<w.heap.size:=an w _ r.1;have a0:(a:Int)<nr:=ag
 obtain⟨H,r1,r2,r3⟩:=r;simp only[]at H r1;have lm:mb<w.heap.size:=an w _ Z;have W:mb<w.heap.size+1:=ag
 have b1:=eW u;delta dD;go_in;go_wp2
 go_quiet (fail)
 have y:=nw w 19 a b c 0 x nq;rw[show((19:Nat):Int)=19 from rfl]at y;generalize ((w.alloc (.cells #[aj 19,aj a,aj b,aj c] 90)).alloc (.cells #[aj 0,aj x] 115)).drewN nq=w3 at *;obtain⟨i,i0,i1,i2,i3,y0,y1⟩:=y;have J:=bj i;go_wp2
 go_ret;simp_all
def Gt{mb t i nr a b c nt tc:Nat}{tp:Option Addr}{H:B.V}{x:Int}(ha:a<nr)(hb:b<nr)(r:kR w i a H)(rb:kR w i b (0,x))(Z:w.cell? (ay mb 6)=some (.slice tp nt tc))(hx:x<1): dD 215 #[P0 mb,aj t,dA i nr nr,jn 18 a b c] w (aj 6) λw'=>w.grownBy w' none:=by
 have lr:i<w.heap.size:=an w _ r.1;have a0:(a:Int)<nr:=ag
 have y:i<w.heap.size+1:=ag
 obtain⟨r0,r1,r2,r3⟩:=r;obtain⟨G,s1,_,_⟩:=rb;simp only[]at G s1;have a1:(b:Int)<nr:=ag
 delta dD;go_in;go_wp2
 go_quiet (fail)
 have u:=nw w 18 a b c 0 x nq;rw[show((18:Nat):Int)=18 from rfl]at u;generalize ((w.alloc (.cells #[aj 18,aj a,aj b,aj c] 90)).alloc (.cells #[aj 0,aj x] 115)).drewN nq=w3 at *;obtain⟨o,i0,i1,i2,i3,y0,y1⟩:=u;have J:=bj o;go_wp2
 go_ret;simp_all
def Gs{mb t i nr a b c nt tc:Nat}{tp:Option Addr}{J:B.V}{x:Int}(ha:a<nr)(hb:b<nr)(r:kR w i a J)(rb:kR w i b (0,x))(h6:w.cell? (ay mb 6)=some (.slice tp nt tc))(u:¬x<1)(hx:(nt:Int)<x): dD 215 #[P0 mb,aj t,dA i nr nr,jn 18 a b c] w (aj 6) λw'=>w.grownBy w' none:=by
 have lr:i<w.heap.size:=an w _ r.1;have a0:(a:Int)<nr:=ag
 have G:i<w.heap.size+1:=ag
 obtain⟨r0,r1,r2,r3⟩:=r;obtain⟨H,s1,_,_⟩:=rb;simp only[]at H s1;have a1:(b:Int)<nr:=ag
 have lm:mb<w.heap.size:=an w _ h6;have Y:mb<w.heap.size+1:=ag
 have b1:=eW u;delta dD;go_in;go_wp2
 go_quiet (fail)
 have y:=nw w 18 a b c 0 x nq;rw[show((18:Nat):Int)=18 from rfl]at y;generalize ((w.alloc (.cells #[aj 18,aj a,aj b,aj c] 90)).alloc (.cells #[aj 0,aj x] 115)).drewN nq=w3 at *;obtain⟨o,i0,i1,i2,i3,y0,y1⟩:=y;have W:=bj o;go_wp2
 go_ret;simp_all
def Gr{mb t i nr a b c nt tc:Nat}{tp:Option Addr}{W:B.V}{x:Int}(ha:a<nr)(hb:b<nr)(r:kR w i a W)(rb:kR w i b (0,x))(h6:w.cell? (ay mb 6)=some (.slice tp nt tc))(u:¬x<1)(hx:¬(nt:Int)<x)(y:x=(t:Int)): dD 215 #[P0 mb,aj t,dA i nr nr,jn 18 a b c] w (aj 6) λw'=>w.grownBy w' none:=by
 have lr:i<w.heap.size:=an w _ r.1;have a1:(a:Int)<nr:=ag
 have H:i<w.heap.size+1:=ag
 obtain⟨r0,r1,r2,r3⟩:=r;obtain⟨J,s1,_,_⟩:=rb;simp only[]at J s1;have a2:(b:Int)<nr:=ag
 have lm:mb<w.heap.size:=an w _ h6;have Z:mb<w.heap.size+1:=ag
 have b1:=eW u;have b2:=eW hx;have b3:(x == (t:Int))=true:=eV beq_iff_eq y
 clear hx u y;delta dD;go_in;go_wp2
 go_quiet (fail)
 have G:=nw w 18 a b c 0 x nq;rw[show((18:Nat):Int)=18 from rfl]at G;generalize ((w.alloc (.cells #[aj 18,aj a,aj b,aj c] 90)).alloc (.cells #[aj 0,aj x] 115)).drewN nq=w3 at *;obtain⟨o,i0,i1,i2,i3,y0,y1⟩:=G;have Y:=bj o;go_wp2
 go_ret;simp_all
end D
namespace D
open F
variable {p:dL}{d:Dp}{K:Nat}{s s':Pl}{m m':Dm}{g g':Dg}{w w':aa}{ρ ρ':Nat → Nat}{t tb fb n nr a b c:Nat}{why:Int}
theorem eF.iY(h:eF p K s m ρ){G:Dc}(e:GA G m.nc):eF p K s (m.iY G) ρ:={ h with A:=e }
def Gz(d:Dp)(h:GA m.G m.nc):GA (gl d m) m.nc:=by
 unfold gl;split
 .exact h
 exact h
theorem eF.mU(hS:eF p K s m ρ)(G:Ok p s)(hP:PD p d)(hG:∀f,f<p.nf->2<=p.rg f/\p.rg f<=8)(hK:K<900000000)(hn:s.nt≠0):Dd d m:=by
 refine⟨eV hS.nt hn,(hS.small G).1,gp hS.B.1,λt ht=>?_,λc Y=>?_⟩
 .by_cases J:t∈s.lv
  .have y:=hS.T t J;have hw:=G.fw t J trivial;refine⟨eV y.l hw.n2,λi hi=>?_⟩;rw[y.l]at hi;have o:(dq s t i).f<p.nf:=(hw.f i hi).1;have e:(fU m t i).f=(dq s t i).f:=(y.f i hi).f;grind[D.PD.rg]
  have:=(hS.O t ((iG hS t).1 ht) J).2.1;grind
 obtain⟨k,k1,rfl⟩:=hS.LC G hP Y;have u:=hS.C k k1;exact⟨u.c1,u.c2,by rw[u.M,ef];exact u.l⟩
def Da.N8(hP:PD p d)(hS:eF p K s m ρ)(hR:Rn p s t)(hQ:oV p d s m g w ρ t tb fb n nr){ty:Nat}{l:List B.V}{v:Int}(a1:ty≠0->l≠[])(a0:l.length<=8)(hl:∀v,v∈l->dW p s v)(hm:mM p s t a ty l s')(J:Da d m g w t n a ty (l.map (tr ρ)) v w'):iO p d K s t m g w 0 s' v w':=by
 have Y:=hS.iY (Gz d hS.A);rcases J with⟨hr,rfl,H⟩|⟨hr,rfl,g',H⟩
 .rcases hm with⟨c,u,c1,Z,W,y,c5,rfl⟩|⟨o,u,y,rfl⟩
  .exfalso
   rcases hr with⟨_,e⟩|⟨N,J,e⟩
   .grind[of_decide_eq_false,D.PD.n]
   have:=of_decide_eq_false e.symm;rw[hP.n]at this;exact this ((hS.room hR.ok hP J).2.2 ⟨c,c1,Z,λhc=>by
    grind[B.qS]⟩)
  exact⟨ρ,_,g,H,af ⟨rfl,rfl,⟨u,rfl⟩,Y.mono ag⟩⟩
 rcases hm with⟨c,u,c1,Z,W,y,c5,rfl⟩|⟨o,u,y,rfl⟩
 .have h2:=Y.oS (a:=a) (ty:=ty) (l:=l) hR.ok hR.lv hR.fw.n1 y W ag a1 a0 hl;rw[show qd (m.iY (gl d m)) t=n from hQ.tp,show pS (m.iY (gl d m)) t=fU m t n from hQ.tf]at h2;exact⟨_,_,g',H,ah ⟨h2,ah (af ⟨rfl,rfl,(gI (s.oS u c ty l) t (de s t) t _).2.2.1.trans hR.run⟩)⟩⟩
 exfalso
 rcases hr with⟨hf,e⟩|⟨N,J,e⟩
 .unfold gl at hf;by_cases hd:d.n<=m.G.all
  .rw[bf hd]at hf
   cases hf
  rw[hS.A.1,hP.n]at hd;have H:((List.range p.n).map (λi=>ρ (i+1))).length<=m.nc:=gK m.nc _ (mx (f:=λi=>ρ (i+1)) _ List.nodup_range (λa ha b hb e=>by
   grind[D.eF.I])) (λc hc=>by
   obtain⟨i,hi,rfl⟩:=eK.1 hc;have a4:=fI.1 hi;have:=hS.C (i+1) (o _ ag ag);exact⟨this.c1,this.c2⟩)
  rw[ef,List.length_range]at H;omega
 have:=eO e.symm;rw[hP.n]at this;obtain⟨c,c1,Z,W⟩:=(hS.room hR.ok hP J).2.1 this;exact W (o c c1 Z)
section
variable (hP:PD p d)(hG:∀ f, f < p.nf → 2 ≤ p.rg f ∧ p.rg f ≤ 8)(h:dZ d m g w)(hS:eF p K s m ρ)(hR:Rn p s t)(hQ:oV p d s m g w ρ t tb fb n nr)(hK:K < 900000000)
include hP hG h hS hR hQ hK
theorem Oo(W:a<nr)(i:b<=8)(Y:b<256)(G:c<256)(Z:mM p s t a 0 (List.replicate b (0,0)) s'):Calls prog 194 #[P0 g.mb,aj t,dA (g.rb t n) nr nr,jn 9 a b c] w λe w'=>∃v:Int,e=.returned (aj v)/\iO p d K s t m g w 0 s' v w':=by
 have o:=hS.A;have hB:=hS.B.1;refine AN ag Y G (λw1 y=>(Mr i (h.kept y) (hS.mU hR.ok hP hG hK (by have:=hR.ht.1;have:=hR.ht.2;omega)) hQ.dt hQ.hi hQ.r1 W ⟨gp o.1,gp o.2.1,gp o.2.2⟩).mono ?_);rintro e w' ⟨v,rfl,H⟩;have e:(List.replicate b ((0,0):B.V)).map (tr ρ)=List.replicate b (0,0):=by rw[List.map_replicate,oZ]
 exact⟨v,rfl,(Da.N8 hP hS hR (hQ.kept h y) (l:=List.replicate b (0,0)) (λe=>dp rfl e) eR (λv J=>by grind[dW.num]) Z eR).ahead y⟩
def Nu(Y:a<nr)(i:c<nr)(G:b<256)(H:c<256)(Z:mM p s t a (b+1) [(bw s t).R c] s'):Calls prog 194 #[P0 g.mb,aj t,dA (g.rb t n) nr nr,jn 12 a b c] w λe w'=>∃v:Int,e=.returned (aj v)/\iO p d K s t m g w 0 s' v w':=by
 have o:=hS.A;have hB:=hS.B.1;refine AN ag G H (λw1 y=>(Mb i (hQ.V c i) G (h.kept y) (hS.mU hR.ok hP hG hK (by have:=hR.ht.1;have:=hR.ht.2;omega)) hQ.dt hQ.hi hQ.r1 Y ⟨gp o.1,gp o.2.1,gp o.2.2⟩).mono ?_);rintro e w' ⟨v,rfl,J⟩;exact⟨v,rfl,(Da.N8 hP hS hR (hQ.kept h y) (l:=[(bw s t).R c]) (λ_ e=>by cases e) eR (λv W=>by grind[F.Rn.nM,D.oV.r2]) Z J).ahead y⟩
end
