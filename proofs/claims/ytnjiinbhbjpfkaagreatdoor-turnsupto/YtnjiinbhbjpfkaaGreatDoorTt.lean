import Derived.Test.YtnjiinbhbjpfkaaGreatDoorTm
import Derived.Test.YtnjiinbhbjpfkaaGreatDoorTn
set_option maxRecDepth 100000
set_option maxHeartbeats 0
set_option linter.all false
namespace Go.Proofs.YtnjiinbhbjpfkaaGreatDoor
open Go.RowKit Go.Proofs.Tryz
namespace D
open F
variable {p:dL}{d:Dp}{K:Nat}{s:Pl}{m m':Dm}{g g':Dg}{w w':aa}{ρ:Nat → Nat}
def Tryz.Bn:(prog.info? 233).map (λi=>(i.zero,i.size,i.bytes))=some (some (.agg #[.slice none 0 0,aj 0]),2,32):=by kernel_rfl
def Tryz.underlying108:prog.underlying 108=some (.slice 233):=by kernel_rfl
def BG(d:Dp)(m:Dm)(ok:Bool):Prop:=((gl d m).fu=false/\ok=decide (0<d.n))\/∃N:Nat,lZ d m N/\ok=decide (N<d.n)
def Da(d:Dp)(m:Dm)(g:Dg)(w:aa)(t n a ty:Nat)(l:List B.V)(v:Int)(w':aa):Prop:=
 (BG d m false/\v=-2/\Tr d m g w (m.iY (gl d m)) g w')\/(BG d m true/\v=0/\∃g',Tr d m g w (((m.iY (gl d m)).cell ty l).dJ t n ((fU m t n).set a (m.nc+1,0))) g' w')
def vN(d:Dp)(m:Dm):(gl d m).all=m.G.all:=by unfold gl;split<;>rfl
def ui(d:Dp)(m:Dm):(gl d m).sure=m.G.sure:=by unfold gl;split<;>rfl
def uj(d:Dp)(m:Dm):(gl d m).nF=m.G.nF:=by unfold gl;split<;>rfl
theorem Ft{m1:Dm}{Z W w6:aa}{G cb cc ty:Nat}{l:List B.V}(h5:Tr d m g w m1 g Z)(J:Z.grownBy W none)(hS:Full Z G 115 (l.length*2) (l.length*2) (eQ (mW l)))(hn:¬eH d m1 g G)(hs:w.heap.size<=G)(ho:w6.ownsRow 0 233 2 (dA cb (m1.nc+1) cc) (m1.nc+1) (rowP (m1.nc*2) (cE m1 g)++[dA G l.length l.length,jk ((ty:Int)-1)]))(u:W.grownBy w6 (Value.slice (g.ro 3 0).1 m1.nc (g.ro 3 0).2).ownBlock)(a6:lR W.heap.size (.slice (g.ro 3 0).1 m1.nc (g.ro 3 0).2) (dA cb (m1.nc+1) cc)): Tr d m g w (m1.nE ty l) ((g.at 3 0 (some (ay cb 0),cc)).slt (m1.nc+1) G) (w6.setCell (ay g.mb 12) (dA cb (m1.nc+1) cc)):=by
 have hr:=h5.r;have a1:(Value.slice (g.ro 3 0).1 m1.nc (g.ro 3 0).2).ownBlock=fi (g.ro 3 0).1:=dF _ _ _;rw[a1]at u;have a0:∀k,fi (g.ro 3 0).1=some k->k≠g.mb:=λk H=>hr.ne (x:=3) (y:=0) (z:=0) (x':=0) (y':=0) (z':=0) (oQ ag) rfl H rfl ag;have i:Z.grownBy w6 (fi (g.ro 3 0).1):=⟨u.os.trans J.os,u.tape.trans J.tape,u.output.trans J.output,dU J.size u.size,λk H hn=>(u.block k (dm H J.size) hn).trans (J.block k H eR)⟩;have Y:fi (g.ro 3 0).1=some cb\/(Z.heap.size<=cb):=by
  rcases a6 with e|⟨b',e,h2⟩
  .left
   rw[<-a1,<-e];rfl
  right
  have:cb=b':=by injection e
  have:=J.size;omega
 have a7:cb≠g.mb:=by
  rcases Y with e|e
  .grind
  have:=hr.M.lt;omega
 have a4:G<Z.heap.size:=hS.lt;have a2:cb≠G:=by
  rcases Y with e|e
  .exact λe'=>hn ⟨3,0,0,by rw[ie (oQ ag),<-e'];exact e⟩
  omega
 refine Tr.nE h5 (bp (S:=λk=>k=g.mb\/fi (g.ro 3 0).1=some k) (a:=ay g.mb 12) ⟨i.os,i.tape,i.output,i.size,λk H hn=>i.block k H (λe=>hn (ah e.symm))⟩ (af (af rfl)) _) ((hr.M.block (i.block g.mb hr.M.lt (λe=>a0 g.mb e.symm rfl))).eC 12 _) ?_ ?_ (Y.imp id (λe=>⟨hr.fresh e,ag⟩)) ⟨hn,hs⟩ a2
 .grind[dQ,Below.heap_setCell,Value.ownBlock]
 refine(hS.block (i.block G a4 (λe=>hn ⟨3,0,0,by rw[ie (oQ ag)];exact e.symm⟩))).block (ab _ _ _ _ (λe=>hn ⟨0,0,0,by rw[ie (oQ ag)];exact e⟩))
theorem Mr{t n nr a b c:Nat}(hb:b<=8)(h:dZ d m g w)(hC:Dd d m)(ht:mY m t)(hi:n<(m.T t).fr.length)(hr:d.rg (fU m t n).f=nr)(ha:a<nr)(hA:m.G.all<1000000000/\m.G.sure<1000000000/\m.G.nF<1000000000): Calls prog 214 #[P0 g.mb,dA (g.rb t n) nr nr,jn 9 a b c] w λe w'=>∃v:Int,e=.returned (aj v)/\Da d m g w t n a 0 (List.replicate b (0,0)) v w':=by
 obtain⟨i0,aU,aV,aQ,aX⟩:=info_parts Tryz.Bn;obtain⟨i5,b4,b5,b2,aW⟩:=info_parts Tryz.tM;have HH:=bj h;have HR:Hid (∀w1,w.grownBy w1 none->Calls prog 225 #[P0 g.mb] w1 λe w'=>∃ok:Bool,e=.returned (.bool ok)/\Tr d m g w1 (m.iY (gl d m)) g w'/\BG d m ok):=λw1 hg=>(Is (h.kept hg) hC).mono (λe w' hh=>by
  obtain⟨ok,e1,e2,e3⟩:=hh;exact⟨ok,e1,e2,e3⟩)
 have aT:=bj hC.n2;have HT:=bj (bh ht (bh hi hr));have HA:=bj hA;have bF:g.mb<w.heap.size:=h.M.lt;obtain⟨l,hl⟩:∃l:List B.V,l=List.replicate b (0,0):=⟨_,rfl⟩;rw[<-hl];have a6:l.length=b:=by rw[hl,kV]
 have b6:Hid (∀j,eQ (λ_=>(0,0)) j=eQ (mW l) j):=λj=>by
  have:mW l=λ_=>(0,0):=by
   funext i
   unfold mW;rw[hl,cr,List.getElem?_replicate];split<;>rfl
  rw[this]
 clear h hC ht hi hr hA hl;go_in;go_wp2_with (at_make;go_loud (refine wpList_make_full _ rfl _ _ 161 rfl 0 115 i5 _ 2 Tryz.underlying161 b4 b5 b2 _ _ _ _ b rfl rfl rfl rfl (kr aW) pY (dk _) ?_))
 intro Z a3 a1;have hz:=a1.size;simp at hz;have a9:=uD a3;have x0:Z.heap[w.heap.size]? = some (.cells #[aj ((9:Nat):Int),aj (a:Int),aj (b:Int),aj (c:Int)] 90 (0,0)):=da a1 (bl _ _) im;have a0:dS Z w.heap.size 0=some (aj ((9:Nat):Int)):=fy x0
 have aE:w.heap.size<Z.heap.size:=ag
 have lX:w.heap.size+1<=Z.heap.size:=ag
 have KW:Hid ((w.alloc (.cells #[aj ((9:Nat):Int),aj (a:Int),aj (b:Int),aj (c:Int)] 90)).grownBy (Z.alloc (.cells #[dA (w.heap.size+1) b b,aj (-1)] 233)) none):=ax a1 _;have XW:Hid ((Z.alloc (.cells #[dA (w.heap.size+1) b b,aj (-1)] 233)).heap[w.heap.size]? = some (.cells #[aj ((9:Nat):Int),aj (a:Int),aj (b:Int),aj (c:Int)] 90 (0,0))):=(av _ _ _ aE).trans x0;have YW:Hid ((Z.alloc (.cells #[dA (w.heap.size+1) b b,aj (-1)] 233)).heap[Z.heap.size]? = some (.cells #[dA (w.heap.size+1) b b,aj (-1)] 233 (0,0))):=bl _ _;have SW:Hid (Full (Z.alloc (.cells #[dA (w.heap.size+1) b b,aj (-1)] 233)) (w.heap.size+1) 115 (l.length*2) (l.length*2) (eQ (mW l))):=by
  have h1:=(a9.block (av Z (.cells #[dA (w.heap.size+1) b b,aj (-1)] 233) _ a9.lt)).congr (λj _=>b6.out j);show Full _ _ _ (l.length*2) (l.length*2) _;rw[a6];exact h1
 clear a3 a1 a9 x0;go_wp2_with fail
 clear a0;generalize (Z.alloc (.cells #[dA (w.heap.size+1) b b,aj (-1)] 233))=W at *;have a7:Z.heap.size≠w.heap.size+1:=by
  intro e;have h1:=SW.out;obtain⟨bA,h2,_⟩:=h1;rw[<-e,YW.out]at h2;injection h2 with h2;injection h2 with _ h2 _;exact dp h2 ek
 obtain⟨X,hX⟩:∃X,X=Z.heap.size:=⟨_,rfl⟩;rw[<-hX]at lX YW a7 ⊢;obtain⟨sN,aD⟩:∃x,x=w.heap.size+1:=⟨_,rfl⟩;have b9:w.heap.size+1<=sN:=ag
 rw[<-aD]at YW SW a7;clear hX aD aE hz;clear Z;refine(HR.out W (ar (ax (aw _ _) _) KW.out)).mono ?_;rintro e J ⟨ok,rfl,h5,aK⟩;have hW:=KW.out.size;simp at hW;have mX:∀j,w.heap.size<=j->j<W.heap.size->J.heap[j]? = W.heap[j]?:=λj h1 h2=>h5.o.same h2 (HH.out.fresh h1);have X5:=bj ((mX _ (bq _) ag).trans XW.out);have Y5:=bj ((mX X ag (ch YW.out)).trans YW.out);have S5:=bj (SW.out.block (mX sN ag SW.out.lt));have T5:=bj (h5.ahead KW.out);have N5:Hid (¬eH d (m.iY (gl d m)) g sN):=λhm=>by
  rcases h5.m sN hm with h1|h1
  .exact HH.out.fresh ag h1
  have:=SW.out.lt;omega
 change Hid _ at aK;clear h5 mX XW YW SW KW HR
 cases ok with
 | false=>
  go_wp2
  go_ret;exact⟨-2,rfl,af ⟨aK.out,rfl,T5.out.ahead (ax (aw _ _) _)⟩⟩
 | true=>
  obtain⟨aB,aN⟩:=T5.out.r.mc 12 ag (v:=.slice (g.ro 3 0).1 m.nc (g.ro 3 0).2) rfl;have aG:Hid (J.ownsRow 0 233 2 (.slice (g.ro 3 0).1 m.nc (g.ro 3 0).2) m.nc (rowP (m.nc*2) (cE (m.iY (gl d m)) g))):=T5.out.r.Cw;have b0:dS J X 0=some (dA sN b b):=fy Y5.out
  have b1:dS J X 1=some (aj (-1)):=fy Y5.out
  have l5:g.mb<J.heap.size:=an J _ aB;have aY:X<J.heap.size:=an J _ b0;have aP:w.heap.size<J.heap.size:=ch X5.out;have a5:Hid (∀j,(Value.slice (g.ro 3 0).1 m.nc (g.ro 3 0).2).ownBlock=some j->j<J.heap.size/\j≠g.mb/\j≠X/\j≠w.heap.size):=λj Y=>by
   have aH:fi (g.ro 3 0).1=some j:=by rw[<-dF (g.ro 3 0).1 m.nc (g.ro 3 0).2];exact Y
   have hm:eH d m g j:=⟨3,0,0,by rw[ie (oQ ag)];exact aH⟩;have:=HH.out.lt hm;exact⟨ag,HH.out.ne (x:=3) (y:=0) (z:=0) (x':=0) (y':=0) (z':=0) (oQ ag) rfl aH rfl ag,ag,ag⟩
  have aM:Hid (∀w':aa,w'.heap[g.mb]? = J.heap[g.mb]?->w'.heap[X]? = J.heap[X]?->dS w' g.mb 12=some (.slice (g.ro 3 0).1 m.nc (g.ro 3 0).2)/\w'.frozen? (ay g.mb 12)=false/\dS w' X 0=some (dA sN b b)/\dS w' X 1=some (aj (-1))):=λw' e1 e2=>⟨(az (a:=ay g.mb 12) e1).trans aB,(dr (a:=ay g.mb 12) e1).trans aN,(az (a:=ay X 0) e2).trans b0,(az (a:=ay X 1) e2).trans b1⟩;have aA:Hid (∀(o:Obj) (j:Nat),j<J.heap.size->(J.drew.alloc o).heap[j]? = J.heap[j]?):=λo j Y=>av J.drew o j Y;have bD:m.nc+1<=1000000000:=gp aT.out
  clear lX hW a7;go_wp2
  go_cut [] (λwx=>Hid (∃g2,Tr d m g (w.alloc (.cells #[aj ((9:Nat):Int),aj (a:Int),aj (b:Int),aj (c:Int)] 90)) ((m.iY (gl d m)).nE 0 l) g2 wx/\g2.rb=g.rb/\wx.heap[w.heap.size]? = some (.cells #[aj ((9:Nat):Int),aj (a:Int),aj (b:Int),aj (c:Int)] 90 (0,0))))
  case first=>
   go_region_law (refine fD _ rfl (.tmp 44) (.tmp 46) 108 rfl 233 i0 _ 2 32 Tryz.underlying108 aU aV aQ aX rfl ek (g.ro 3 0).1 m.nc (g.ro 3 0).2 (rowP (m.nc*2) (cE (m.iY (gl d m)) g)) mB (dQ aG.out (λj Y=>aA.out _ _ (a5.out j Y).1)) (ay J.heap.size 0) 1 1 [dA sN b b,aj (-1)] mB rfl (by intro j u Y;match j,Y with|0,Y=>(simp at Y;subst Y;simp[Addr.add,go_sem])|1,Y=>(simp at Y;subst Y;simp[Addr.add,go_sem])) xI pY ag ek ?_;intro v' w6 ho a2 aF;obtain⟨cb,aR,rfl⟩:=ee ho ag;have aJ:=bj ho;have b3:=bj a2;have aS:=bj aF;have KO:Hid (∀j,j<J.heap.size->(j=g.mb\/j=X\/j=w.heap.size)->w6.heap[j]? = J.heap[j]?):=(λj Y hn=>(a2.block j (by first|(simp;omega)|omega) (λh=>by have h9:=a5.out j h.symm;omega)).trans (aA.out _ _ Y));obtain⟨bC,sz,sa,sb⟩:=aM.out w6 (KO.out _ l5 (af rfl)) (KO.out _ aY (ah (af rfl)));clear ho a2 aF)
   all_goals
    go_wp2
    go_meet
    case rel=>
     refine⟨_,Ft (l:=l) (ty:=0) (cb:=cb) (cc:=aR) T5.out (ax (bo (aw J none)) (.cells #[dA sN b b,aj (-1)] 233)) S5.out N5.out fH (by first|(rw[a6];exact aJ.out)|(rw[a6,show(((b+1:Nat):Int)-1)=(b:Int) by omega];exact aJ.out)) b3.out aS.out,rfl,?_⟩;rw[ab _ _ _ _ (by show w.heap.size≠g.mb;omega),KO.out _ aP (ah (ah rfl))];exact X5.out
  case rest=>
   obtain⟨g2,h6,H,x6⟩:=hcut.out;have aO:=h6.b;have a8:=bj (IJ h6.r (by show(gl d m).all<_;rw[vN];exact HA.out.1) (by show(gl d m).sure<_;rw[ui];exact HA.out.2.1) (by show(gl d m).nF<_;rw[uj];exact HA.out.2.2));rw[aO]at a8;have aL:Hid (¬eH d ((m.iY (gl d m)).nE 0 l) g2 w.heap.size):=λhm=>by
    rcases h6.m _ hm with h1|h1
    .exact HH.out.fresh (bq _) h1
    rw[World.size_alloc]at h1;omega
   have H6:=bj (bh h6 (bh H x6));clear h6 H x6 hcut aB aN aG b0 b1 a5 aM aA X5 Y5 S5 T5 N5;go_wp2_with fail
   refine du a8 λw7 h7=>?_;obtain⟨h6,H,x6⟩:=H6.out;have h8:=h6.trans h7;have hT:=HT.out;have y7:=(h7.o.same (ch x6) aL.out).trans x6;have e1:dS w7 w.heap.size 1=some (aj (a:Int)):=fy y7
   obtain⟨aZ,_⟩:=h8.r.mc 12 ag (v:=.slice (g2.ro 3 0).1 (m.nc+1) (g2.ro 3 0).2) rfl;rw[aO]at aZ;have hF:=h8.r.R (t:=t) (i:=n) hT.1 hT.2.1;have a4:Full w7 (g.rb t n) 115 (nr*2) (nr*2) (eQ (fU m t n).R):=by
    have h9:=hF;rw[H]at h9;rw[<-hT.2.2];exact h9
   obtain⟨r0,r1,r2,r3⟩:=Jn a4 ha;have H8:=bj (bh h8 H);have b8:(a:Int)<(nr:Int):=ag
   clear h6 H x6 h8 h7 hT y7 hF a4 a8 H6 aL;generalize (g2.ro 3 0).1=ca at *;generalize (g2.ro 3 0).2=cc at *;go_wp2
   go_cut [] (λwx=>Hid ((oz w7 (g.rb t n) a (m.nc+1,0)).grownBy wx none))
   case first=>
    go_region
    all_goals
     go_wp2
     go_meet
     case rel=>first|exact(bo (aw _ _):World.grownBy _ _ _)|exact(aw _ _:World.grownBy _ _ _)
   case rest=>
    have aC:=hcut;clear hcut;go_wp2
    go_ret;obtain⟨h8,H⟩:=H8.out;have h9:=h8.r.se (t:=t) (i:=n) HT.out.1 HT.out.2.1 a (m.nc+1,0);rw[H]at h9;exact⟨0,rfl,ah ⟨aK.out,rfl,g2,((h8.trans h9).kept aC.out).ahead (ax (aw _ _) _)⟩⟩
theorem Mb{t n nr a b c:Nat}{vc:B.V}(bC:c<nr)(b3:(fU m t n).R c=vc)(hb:b<256)(h:dZ d m g w)(hC:Dd d m)(ht:mY m t)(hi:n<(m.T t).fr.length)(hr:d.rg (fU m t n).f=nr)(ha:a<nr)(hA:m.G.all<1000000000/\m.G.sure<1000000000/\m.G.nF<1000000000): Calls prog 214 #[P0 g.mb,dA (g.rb t n) nr nr,jn 12 a b c] w λe w'=>∃v:Int,e=.returned (aj v)/\Da d m g w t n a (b+1) [vc] v w':=by
 obtain⟨i0,aY,b2,aU,b6⟩:=info_parts Tryz.Bn;obtain⟨i5,bE,bF,bB,b5⟩:=info_parts Tryz.tM;have HH:=bj h;have HR:Hid (∀w1,w.grownBy w1 none->Calls prog 225 #[P0 g.mb] w1 λe w'=>∃ok:Bool,e=.returned (.bool ok)/\Tr d m g w1 (m.iY (gl d m)) g w'/\BG d m ok):=λw1 hg=>(Is (h.kept hg) hC).mono (λe w' hh=>by
  obtain⟨ok,e1,e2,e3⟩:=hh;exact⟨ok,e1,e2,e3⟩)
 have aX:=bj hC.n2;have HT:=bj (bh ht (bh hi hr));have HA:=bj hA;have aD:=(h.R ht hi).lt;have bN:=h.M.lt;obtain⟨r0,r1,_,_⟩:kR w (g.rb t n) c vc:=by
  have h9:=Jn (h.R ht hi) (a:=c) (eV hr bC);rw[b3]at h9;exact h9
 have bH:(c:Int)<nr:=ag
 obtain⟨l,hl⟩:∃l:List B.V,l=[vc]:=⟨_,rfl⟩;rw[<-hl];have aI:l.length=1:=jx hl
 change Hid _ at hl;clear h hC ht hi hr hA;go_in;go_wp2_with (at_make;go_loud (refine wpList_make_full _ rfl _ _ 161 rfl 0 115 i5 _ 2 Tryz.underlying161 bE bF bB _ _ _ _ b rfl rfl rfl rfl (kr b5) pY (dk _) ?_))
 intro w3 aG a1;have hz:=a1.size;simp at hz;have x0:w3.heap[w.heap.size]? = some (.cells #[aj ((12:Nat):Int),aj a,aj b,aj c] 90 (0,0)):=da a1 (bl _ _) im;have aA:=ar (ax (aw _ _) _) a1;have a0:dS w3 w.heap.size 0=some (aj ((12:Nat):Int)):=fy x0
 have a2:dS w3 w.heap.size 2=some (aj b):=fy x0
 have a3:dS w3 w.heap.size 3=some (aj c):=fy x0
 have v0:=(bd aA (a:=ay (g.rb t n) (c*2)) aD).1.trans r0;have v1:=(bd aA (a:=ay (g.rb t n) (c*2+1)) aD).1.trans r1;have aS:w.heap.size<w3.heap.size:=ag
 have b9:g.rb t n<w3.heap.size:=ag
 have lX:w.heap.size+1<=w3.heap.size:=ag
 change Hid _ at a1 x0;clear aG aA r0 r1;go_wp2
 go_cut [] (λwx=>∃Z:Nat,Hid (w.heap.size+1<=Z/\Z≠w3.heap.size/\(w.alloc (.cells #[aj ((12:Nat):Int),aj a,aj b,aj c] 90)).grownBy wx none/\wx.heap[w.heap.size]? = some (.cells #[aj ((12:Nat):Int),aj a,aj b,aj c] 90 (0,0))/\wx.heap[w3.heap.size]? = some (.cells #[dA Z 1 1,aj b] 233 (0,0))/\wx.heap[Z]? = some (.cells #[aj vc.1,aj vc.2] 115 (0,0))))
 case first=>
  go_region
  all_goals
   go_wp2
   go_meet
   case rel=>
    refine⟨w3.heap.size+1,ag,ag,bo (ax (ax a1.out _) _),(av _ _ _ fH).trans ((av _ _ _ aS).trans x0.out),(av _ _ _ eB).trans (bl _ _),?_⟩;have h9:=bl (w3.alloc (.cells #[dA (w3.heap.size+1) 1 1,aj b] 233)) (.cells #[aj vc.1,aj vc.2] 115);rw[World.size_alloc]at h9;exact h9
 case rest=>
  obtain⟨Z,aP⟩:=hcut;obtain⟨bI,nX,kW,xW,yW,sW⟩:=aP.out;obtain⟨W,b4⟩:∃x:aa,x=wc:=⟨_,rfl⟩;subst b4;obtain⟨X,hX⟩:∃X,X=w3.heap.size:=⟨_,rfl⟩;rw[<-hX]at lX yW nX;have KW:=bj kW;have XW:=bj xW;have YW:=bj yW;have SW:Hid (Full W Z 115 (l.length*2) (l.length*2) (eQ (mW l))):=by
   show Full _ _ _ (l.length*2) (l.length*2) _;rw[hl.out];refine⟨_,sW,rfl,λj Y=>?_⟩;have a4:j=0\/j=1:=by
    have:j<1*2:=Y;omega
   rcases a4 with rfl|rfl<;>rfl
  clear aP kW xW yW sW nX a0 a2 a3 v0 v1 b9 a1 x0;go_wp2_with fail
  rw[<-hX];clear hX aS hz;refine(HR.out W (ar (ax (aw _ _) _) KW.out)).mono ?_;rintro e J ⟨ok,rfl,h5,aM⟩;have hW:=KW.out.size;simp at hW;have mX:∀j,w.heap.size<=j->j<W.heap.size->J.heap[j]? = W.heap[j]?:=λj h1 h2=>h5.o.same h2 (HH.out.fresh h1);have X5:=bj ((mX _ (bq _) ag).trans XW.out);have Y5:=bj ((mX X ag (ch YW.out)).trans YW.out);have S5:=bj (SW.out.block (mX Z ag SW.out.lt));have T5:=bj (h5.ahead KW.out);have N5:Hid (¬eH d (m.iY (gl d m)) g Z):=λhm=>by
   rcases h5.m Z hm with h1|h1
   .exact HH.out.fresh ag h1
   have:=SW.out.lt;omega
  change Hid _ at aM;clear h5 mX XW YW SW KW HR
  cases ok with
  | false=>
   go_wp2
   go_ret;exact⟨-2,rfl,af ⟨aM.out,rfl,T5.out.ahead (ax (aw _ _) _)⟩⟩
  | true=>
   obtain⟨aB,aQ⟩:=T5.out.r.mc 12 ag (v:=.slice (g.ro 3 0).1 m.nc (g.ro 3 0).2) rfl;have aF:Hid (J.ownsRow 0 233 2 (.slice (g.ro 3 0).1 m.nc (g.ro 3 0).2) m.nc (rowP (m.nc*2) (cE (m.iY (gl d m)) g))):=T5.out.r.Cw;have b0:dS J X 0=some (dA Z 1 1):=fy Y5.out
   have b1:dS J X 1=some (aj ((b:Int))):=fy Y5.out
   have l5:g.mb<J.heap.size:=an J _ aB;have b8:X<J.heap.size:=an J _ b0;have aT:w.heap.size<J.heap.size:=ch X5.out;have a7:Hid (∀j,(Value.slice (g.ro 3 0).1 m.nc (g.ro 3 0).2).ownBlock=some j->j<J.heap.size/\j≠g.mb/\j≠X/\j≠w.heap.size):=λj Y=>by
    have a4:fi (g.ro 3 0).1=some j:=by rw[<-dF (g.ro 3 0).1 m.nc (g.ro 3 0).2];exact Y
    have hm:eH d m g j:=⟨3,0,0,by rw[ie (oQ ag)];exact a4⟩;have:=HH.out.lt hm;exact⟨ag,HH.out.ne (x:=3) (y:=0) (z:=0) (x':=0) (y':=0) (z':=0) (oQ ag) rfl a4 rfl ag,ag,ag⟩
   have aO:Hid (∀w':aa,w'.heap[g.mb]? = J.heap[g.mb]?->w'.heap[X]? = J.heap[X]?->dS w' g.mb 12=some (.slice (g.ro 3 0).1 m.nc (g.ro 3 0).2)/\w'.frozen? (ay g.mb 12)=false/\dS w' X 0=some (dA Z 1 1)/\dS w' X 1=some (aj ((b:Int)))):=λw' e1 e2=>⟨(az (a:=ay g.mb 12) e1).trans aB,(dr (a:=ay g.mb 12) e1).trans aQ,(az (a:=ay X 0) e2).trans b0,(az (a:=ay X 1) e2).trans b1⟩;have a9:Hid (∀(o:Obj) (j:Nat),j<J.heap.size->(J.drew.alloc o).heap[j]? = J.heap[j]?):=λo j Y=>av J.drew o j Y;have bL:m.nc+1<=1000000000:=gp aX.out
   clear lX hW;go_wp2
   go_cut [] (λwx=>Hid (∃g2,Tr d m g (w.alloc (.cells #[aj ((12:Nat):Int),aj a,aj b,aj c] 90)) ((m.iY (gl d m)).nE (b+1) l) g2 wx/\g2.rb=g.rb/\wx.heap[w.heap.size]? = some (.cells #[aj ((12:Nat):Int),aj a,aj b,aj c] 90 (0,0))))
   case first=>
    go_region_law (refine fD _ rfl (.tmp 44) (.tmp 46) 108 rfl 233 i0 _ 2 32 Tryz.underlying108 aY b2 aU b6 rfl ek (g.ro 3 0).1 m.nc (g.ro 3 0).2 (rowP (m.nc*2) (cE (m.iY (gl d m)) g)) mB (dQ aF.out (λj Y=>a9.out _ _ (a7.out j Y).1)) (ay J.heap.size 0) 1 1 [dA Z 1 1,aj ((b:Int))] mB rfl (by intro j u Y;match j,Y with|0,Y=>(simp at Y;subst Y;simp[Addr.add,go_sem])|1,Y=>(simp at Y;subst Y;simp[Addr.add,go_sem])) xI pY ag ek ?_;intro v' w6 ho a5 aE;obtain⟨cb,aV,rfl⟩:=ee ho ag;have aL:=bj ho;have bD:=bj a5;have aW:=bj aE;have KO:Hid (∀j,j<J.heap.size->(j=g.mb\/j=X\/j=w.heap.size)->w6.heap[j]? = J.heap[j]?):=(λj Y hn=>(a5.block j (by first|(simp;omega)|omega) (λh=>by have h9:=a7.out j h.symm;omega)).trans (a9.out _ _ Y));obtain⟨bK,sz,sa,sb⟩:=aO.out w6 (KO.out _ l5 (af rfl)) (KO.out _ b8 (ah (af rfl)));clear ho a5 aE)
    all_goals
     go_wp2
     go_meet
     case rel=>
      refine⟨_,Ft (l:=l) (ty:=(b+1)) (cb:=cb) (cc:=aV) T5.out (ax (bo (aw J none)) (.cells #[dA Z 1 1,aj ((b:Int))] 233)) S5.out N5.out fH (by first|(rw[aI];exact aL.out)|(rw[aI,show(((b+1:Nat):Int)-1)=(b:Int) by omega];exact aL.out)) bD.out aW.out,rfl,?_⟩;rw[ab _ _ _ _ (by show w.heap.size≠g.mb;omega),KO.out _ aT (ah (ah rfl))];exact X5.out
   case rest=>
    obtain⟨g2,h6,H,x6⟩:=hcut.out;have aR:=h6.b;have a8:=bj (IJ h6.r (by show(gl d m).all<_;rw[vN];exact HA.out.1) (by show(gl d m).sure<_;rw[ui];exact HA.out.2.1) (by show(gl d m).nF<_;rw[uj];exact HA.out.2.2));rw[aR]at a8;have aN:Hid (¬eH d ((m.iY (gl d m)).nE (b+1) l) g2 w.heap.size):=λhm=>by
     rcases h6.m _ hm with h1|h1
     .exact HH.out.fresh (bq _) h1
     rw[World.size_alloc]at h1;omega
    have H6:=bj (bh h6 (bh H x6));clear h6 H x6 hcut aB aQ aF b0 b1 a7 aO a9 X5 Y5 S5 T5 N5;go_wp2_with fail
    refine du a8 λw7 h7=>?_;obtain⟨h6,H,x6⟩:=H6.out;have h8:=h6.trans h7;have hT:=HT.out;have y7:=(h7.o.same (ch x6) aN.out).trans x6;have e1:dS w7 w.heap.size 1=some (aj a):=fy y7
    obtain⟨bA,_⟩:=h8.r.mc 12 ag (v:=.slice (g2.ro 3 0).1 (m.nc+1) (g2.ro 3 0).2) rfl;rw[aR]at bA;have hF:=h8.r.R (t:=t) (i:=n) hT.1 hT.2.1;have a6:Full w7 (g.rb t n) 115 (nr*2) (nr*2) (eQ (fU m t n).R):=by
     have h9:=hF;rw[H]at h9;rw[<-hT.2.2];exact h9
    obtain⟨r0,r1,r2,r3⟩:=Jn a6 ha;have H8:=bj (bh h8 H);have bG:(a:Int)<nr:=ag
    clear h6 H x6 h8 h7 hT y7 hF a6 a8 H6 aN;generalize (g2.ro 3 0).1=ca at *;generalize (g2.ro 3 0).2=cc at *;go_wp2
    go_cut [] (λwx=>Hid ((oz w7 (g.rb t n) a (m.nc+1,0)).grownBy wx none))
    case first=>
     go_region
     all_goals
      go_wp2
      go_meet
      case rel=>first|exact(bo (aw _ _):World.grownBy _ _ _)|exact(aw _ _:World.grownBy _ _ _)
    case rest=>
     have aC:=hcut;clear hcut;go_wp2
     go_ret;obtain⟨h8,H⟩:=H8.out;have h9:=h8.r.se (t:=t) (i:=n) HT.out.1 HT.out.2.1 a (m.nc+1,0);rw[H]at h9;exact⟨0,rfl,ah ⟨aM.out,rfl,g2,((h8.trans h9).kept aC.out).ahead (ax (aw _ _) _)⟩⟩
theorem Gi{mb rr nr a b c z cb nc cc sN sl ff mt lv t:Nat}{v1:Int}(hF:Ky w mb rr nr b c z cb nc cc sN sl v1 (ff:Int) (0,0) (0,0))(H77:∀w1,w.grownBy w1 none->dD 77 #[P0 mb] w1 (aj (lv:Int)) λw'=>w1.grownBy w' none)(h4:w.cell? (ay mb 4)=some (aj (mt:Int)))(hm:mt<=lv): dD 227 #[P0 mb,aj (t:Int),dA rr nr nr,jn 15 a b c] w (aj 7) λw'=>w.grownBy w' none:=by
 have hF2:=ND (op:=15) (a:=a) hF;obtain⟨hb,hc,hzl,hzn,hr0,hr1,_,_,_,lr,lb,lc⟩:=hF;have hb2:(b:Int)<(nr:Int):=ag
 have he1:rr<w.heap.size+1:=ag
 have q1:IntKind.i64.wrap ((z:Int)+1-1)=(z:Int):=fj ag;have q2:IntKind.i64.wrap (z:Int)=(z:Int):=iU
 have q3:(z:Int)<(nc:Int):=ag
 have q4:(0:Int)<=(z:Int):=ag
 have q5:(((z:Int)+1) == 0)=false:=kr dX
 change Hid _ at hF2 H77 h4;delta dD;go_in;go_wp2_with fail
 generalize (w.alloc (.cells #[aj ((15:Nat):Int),aj (a:Int),aj (b:Int),aj (c:Int)] 90)).alloc (.cells #[aj ((z:Int)+1),aj v1] 115)=w2 at *;obtain⟨KG',i0,i1,i3,x0,d12,d0,d1,hs2⟩:=hF2.out;clear KG' hr0 hr1;go_quiet (fail)
 go_wp2_with fail
 clear i0 i1 i3 x0 d12 d0 d1 hs2;obtain⟨KG',i0,i1,i3,x0,d12,d0,d1,hs2⟩:=hF2.out.drewN nq;have KG:=bj KG';generalize w2.drewN nq=w3 at *;have lc2:cb<w3.heap.size:=an w3 _ d0;have lb2:mb<w3.heap.size:=an w3 _ d12;clear KG' hF2;go_cut [10] (λq wx=>∃X:Nat,q=.pointer (some (ay X 0))/\Hid (MX w3 wx X sN sl (ff:Int)))
 case first=>
  go_region
  all_goals
   go_wp2
   go_meet
   case rel=>exact⟨_,rfl,NC _ _ _ _⟩
 case rest=>
  obtain⟨X,rfl,hF3⟩:=hcut;obtain⟨g3,v0,v1,hX⟩:=hF3.out;have o0:dS wc w.heap.size 0=some (aj ((15:Nat):Int)):=(bd g3 (a:=ay w.heap.size 0) (by show w.heap.size<_;omega)).1.trans i0;have KG4:Hid (w.grownBy wc none):=ar KG.out g3;clear hF3 g3 i0 i1 i3 x0 d12 d0 d1 hX hs2 lc2 lb2 KG v0 v1;go_wp2_with fail
  refine du (H77.out wc KG4.out) λw5 hg5=>?_;have KG5:Hid (w.grownBy w5 none):=ar KG4.out hg5;have c4:dS w5 mb 4=some (aj (mt:Int)):=(bd KG5.out (a:=ay mb 4) lb).1.trans h4.out;have hmi:(mt:Int)<=(lv:Int):=ag
  clear hg5 o0;go_wp2
  go_ret;exact⟨rfl,KG5.out⟩
theorem DN{mb rr nr a b c z cb nc cc sN sl ff mt lv t:Nat}{v1 qq:Int}{vc cy:B.V}{R:aa->Prop}(hF:Ky w mb rr nr b c z cb nc cc sN sl v1 (ff:Int) (0,0) (0,0))(ha:a<nr)(rc:kR w rr c vc)(rs:kR w sN 0 cy)(hsl:1<=sl)(hsl8:sl<=8)(H77:∀w1,w.grownBy w1 none->dD 77 #[P0 mb] w1 (aj (lv:Int)) λw'=>w1.grownBy w' none)(h4:w.cell? (ay mb 4)=some (aj (mt:Int)))(hm:¬mt<=lv)(H47:∀w1,w.grownBy w1 none->dD 47 #[P0 mb,aj (ff:Int),vA vc,vA cy] w1 (aj qq) λw'=>R w'/\(∀j,w.heap.size<=j->j<w1.heap.size->w'.heap[j]? = w1.heap[j]?)/\∃va,kR w' rr a va): dD 227 #[P0 mb,aj (t:Int),dA rr nr nr,jn 15 a b c] w (aj 0) λw'=>∃w4,R w4/\(oz w4 rr a (0,qq)).grownBy w' none:=by
 have hF2:=ND (op:=15) (a:=a) hF;obtain⟨hb,hc,hzl,hzn,hr0,hr1,_,_,_,lr,lb,lc⟩:=hF;have ls:sN<w.heap.size:=an w _ rs.1;have hb2:(b:Int)<(nr:Int):=ag
 have he1:rr<w.heap.size+1:=ag
 have q1:IntKind.i64.wrap ((z:Int)+1-1)=(z:Int):=fj ag;have q2:IntKind.i64.wrap (z:Int)=(z:Int):=iU
 have q3:(z:Int)<(nc:Int):=ag
 have q4:(0:Int)<=(z:Int):=ag
 have q5:(((z:Int)+1) == 0)=false:=kr dX
 have HF:=bj hF2;have HL:=bj H77;have HS:=bj H47;have H4:=bj h4;have HC:=bj rc;have HY:=bj rs;clear hF2 H77 h4 rc rs H47;delta dD;go_in;go_wp2_with fail
 generalize (w.alloc (.cells #[aj ((15:Nat):Int),aj (a:Int),aj (b:Int),aj (c:Int)] 90)).alloc (.cells #[aj ((z:Int)+1),aj v1] 115)=w2 at *;obtain⟨KG',i0,i1,i3,x0,d12,d0,d1,hs2⟩:=HF.out;clear KG' hr0 hr1;go_quiet (fail)
 go_wp2_with fail
 clear i0 i1 i3 x0 d12 d0 d1 hs2;obtain⟨KG',i0,i1,i3,x0,d12,d0,d1,hs2⟩:=HF.out.drewN nq;have KG:=bj KG';generalize w2.drewN nq=w3 at *;have lc2:cb<w3.heap.size:=an w3 _ d0;have lb2:mb<w3.heap.size:=an w3 _ d12;clear KG' HF;go_cut [10] (λq wx=>∃X:Nat,q=.pointer (some (ay X 0))/\Hid (MX w3 wx X sN sl (ff:Int)))
 case first=>
  go_region
  all_goals
   go_wp2_with fail
   go_meet
   case rel=>exact⟨_,rfl,NC _ _ _ _⟩
 case rest=>
  obtain⟨X,rfl,hF3⟩:=hcut;obtain⟨g3,v0,v1,hX⟩:=hF3.out;have o0:wc.cell? (ay w.heap.size 0)=some (aj ((15:Nat):Int)):=(bd g3 (a:=ay w.heap.size 0) (by show w.heap.size<_;omega)).1.trans i0;have o1:wc.cell? (ay w.heap.size 1)=some (aj (a:Int)):=(bd g3 (a:=ay w.heap.size 1) (by show w.heap.size<_;omega)).1.trans i1;have o3:wc.cell? (ay w.heap.size 3)=some (aj (c:Int)):=(bd g3 (a:=ay w.heap.size 3) (by show w.heap.size<_;omega)).1.trans i3;have KG4:Hid (w.grownBy wc none):=ar KG.out g3;have lw:w.heap.size<wc.heap.size:=gp g3.size
  have lX:X<wc.heap.size:=an wc _ v0;have hXw:w.heap.size<=X:=ag
  have nXr:X≠rr:=ag
  have nwr:w.heap.size≠rr:=ag
  clear hF3 g3 i0 i1 i3 x0 d12 d0 d1 hX hs2 lc2 lb2 KG;have HO:=bj (bh o1 (bh o3 (bh v0 v1)));clear o1 o3 v0 v1;go_wp2_with fail
  refine du (HL.out wc KG4.out) λw5 hg5=>?_;have KG5:Hid (w.grownBy w5 none):=ar KG4.out hg5;have c4:w5.cell? (ay mb 4)=some (aj (mt:Int)):=(bd KG5.out (a:=ay mb 4) lb).1.trans H4.out;have hmi:¬((mt:Int)<=(lv:Int)):=ag
  have HG5:=bj hg5;clear hg5 o0 HL;go_wp2_with fail
  obtain⟨o1,o3,v0,v1⟩:=HO.out;have u0:w5.cell? (ay X 0)=some (dA sN sl sl):=(bd HG5.out (a:=ay X 0) lX).1.trans v0;have u1:w5.cell? (ay X 1)=some (aj (ff:Int)):=(bd HG5.out (a:=ay X 1) lX).1.trans v1;have e1:w5.cell? (ay w.heap.size 1)=some (aj (a:Int)):=(bd HG5.out (a:=ay w.heap.size 1) lw).1.trans o1;have e3:w5.cell? (ay w.heap.size 3)=some (aj (c:Int)):=(bd HG5.out (a:=ay w.heap.size 3) lw).1.trans o3;have cc0:w5.cell? (ay rr (c*2))=some (aj (vc.1:Int)):=(bd KG5.out (a:=ay rr (c*2)) lr).1.trans HC.out.1;have cc1:w5.cell? (ay rr (c*2+1))=some (aj vc.2):=(bd KG5.out (a:=ay rr (c*2+1)) lr).1.trans HC.out.2.1;have yy0:w5.cell? (ay sN 0)=some (aj (cy.1:Int)):=(bd KG5.out (a:=ay sN 0) ls).1.trans HY.out.1;have yy1:w5.cell? (ay sN 1)=some (aj cy.2):=(bd KG5.out (a:=ay sN 1) ls).1.trans HY.out.2.1;have hc2:(c:Int)<(nr:Int):=ag
  have ha2:(a:Int)<(nr:Int):=ag
  have hs2:(0:Int)<(sl:Int):=ag
  have hs3:0<sl:=ag
  have hs4:sl≠0:=ag
  have HSP:=bj (HS.out w5.drew (bo KG5.out));have lw5:w.heap.size<w5.drew.heap.size:=an w5 _ e1;have HK6:Hid (∀w6:aa,(∀j,w.heap.size<=j->j<w5.drew.heap.size->w6.heap[j]? = w5.drew.heap[j]?)->w6.cell? (ay w.heap.size 1)=some (aj (a:Int))):=λw6 h6=>(az (a:=ay w.heap.size 1) (h6 w.heap.size (bq _) lw5)).trans e1;clear HO o1 o3 v0 v1 c4 hmi lX lw lw5 HG5 HS H4 HC HY q1 q2 q3 q4 q5 hzl hzn hb hb2 he1 KG4;go_cut [] (λwx=>Hid (∃w6,R w6/\(oz w6 rr a (0,qq)).grownBy wx none))
  case first=>
   have lX5:X<w5.heap.size:=an w5 _ u0;have ls5:sN<w5.heap.size:=an w5 _ yy0;have lz5:w.heap.size<w5.heap.size:=an w5 _ e1;have HSS:Hid (∀w':aa,w'.heap[X]? = w5.heap[X]?->w'.heap[w.heap.size]? = w5.heap[w.heap.size]?->(λw'=>w'.cell? (ay X 0)=some (dA sN sl sl)/\w'.cell? (ay X 1)=some (aj (ff:Int))/\w'.cell? (ay w.heap.size 1)=some (aj (a:Int))/\w'.cell? (ay w.heap.size 3)=some (aj (c:Int))) w'):=λw' h1 h2=>⟨(az (a:=ay X 0) h1).trans u0,(az (a:=ay X 1) h1).trans u1,(az (a:=ay w.heap.size 1) h2).trans e1,(az (a:=ay w.heap.size 3) h2).trans e3⟩;refine wp_region_held_drew (S:=(λw'=>w'.cell? (ay X 0)=some (dA sN sl sl)/\w'.cell? (ay X 1)=some (aj (ff:Int))/\w'.cell? (ay w.heap.size 1)=some (aj (a:Int))/\w'.cell? (ay w.heap.size 3)=some (aj (c:Int)))) eX (HSS.out _ rfl rfl) (λhHeld=>?_);refine wpAnyH_take (i:=0) (v:=?v1) rfl eX eX eX (λ_ _ _ h=>h) (af ⟨by rfl,?hy1⟩) pZ ?rest1
   case hy1=>
    intro w' hSw;try dsimp only at hSw
    first|(go_simp;done)|(go_simp;with_reducible rfl)
   try simp only[Act.put,bm,cm,cn]
   refine wpAnyH_take (i:=1) (v:=?v2) rfl eX eX eX (λ_ _ _ h=>h) (af ⟨by rfl,?hy2⟩) pZ ?rest2
   case hy2=>
    intro w' hSw;try dsimp only at hSw
    first|(go_simp;done)|(go_simp;with_reducible rfl)
   try simp only[Act.put,bm,cm,cn]
   refine wpAnyH_take (i:=2) (v:=?v3) rfl eX eX eX (λ_ _ _ h=>h) (af ⟨by rfl,?hy3⟩) pZ ?rest3
   case hy3=>
    intro w' hSw;try dsimp only at hSw
    first|(go_simp;done)|(go_simp;with_reducible rfl)
   try simp only[Act.put,bm,cm,cn]
   refine wpAnyH_take (i:=3) (v:=?v4) rfl eX eX eX (λ_ _ _ h=>h) (af ⟨by rfl,?hy4⟩) pZ ?rest4
   case hy4=>
    intro w' hSw;try dsimp only at hSw
    first|(go_simp;done)|(go_simp;with_reducible rfl)
   try simp only[Act.put,bm,cm,cn]
   refine wpAnyH_take (i:=4) (v:=?v5) rfl eX eX eX (λ_ _ _ h=>h) (af ⟨by rfl,?hy5⟩) pZ ?rest5
   case hy5=>
    intro w' hSw;try dsimp only at hSw
    first|(go_simp;done)|(go_simp;with_reducible rfl)
   try simp only[Act.put,bm,cm,cn]
   refine wpAnyH_take (i:=5) (v:=?v6) rfl eX eX eX (λ_ _ _ h=>h) (af ⟨by rfl,?hy6⟩) pZ ?rest6
   case hy6=>
    intro w' hSw;try dsimp only at hSw
    first|(go_simp;done)|(go_simp;with_reducible rfl)
   try simp only[Act.put,bm,cm,cn]
   refine wpAnyH_take (i:=6) (v:=?v7) rfl eX eX eX (λ_ _ _ h=>h) (af ⟨by rfl,?hy7⟩) pZ ?rest7
   case hy7=>
    intro w' hSw;try dsimp only at hSw
    first|(go_simp;done)|(go_simp;with_reducible rfl)
   try simp only[Act.put,bm,cm,cn]
   refine wpAnyH_take (i:=7) (v:=?v8) rfl eX eX eX (λ_ _ _ h=>h) (af ⟨by rfl,?hy8⟩) pZ ?rest8
   case hy8=>
    intro w' hSw;try dsimp only at hSw
    first|(go_simp;done)|(go_simp;with_reducible rfl)
   try simp only[Act.put,bm,cm,cn]
   refine wpAnyH_take (i:=8) (v:=?v9) rfl eX eX eX (λ_ _ _ h=>h) (af ⟨by rfl,?hy9⟩) pZ ?rest9
   case hy9=>
    intro w' hSw;try dsimp only at hSw
    first|(go_simp;done)|(go_simp;with_reducible rfl)
   try simp only[Act.put,bm,cm,cn]
   refine wpAnyH_take (i:=9) (v:=?v10) rfl eX eX eX (λ_ _ _ h=>h) (af ⟨by rfl,?hy10⟩) pZ ?rest10
   case hy10=>
    intro w' hSw;try dsimp only at hSw
    first|(go_simp;done)|(go_simp;with_reducible rfl)
   try simp only[Act.put,bm,cm,cn]
   refine wpAnyH_take (i:=11) (v:=?v11) rfl eX eX eX (λ_ _ _ h=>h) (af ⟨by rfl,?hy11⟩) pZ ?rest11
   case hy11=>
    intro w' hSw;try dsimp only at hSw
    first|(go_simp;done)|(go_simp;with_reducible rfl)
   try simp only[Act.put,bm,cm,cn]
   refine wpAnyH_take (i:=12) (v:=?v12) rfl eX eX eX (λ_ _ _ h=>h) (af ⟨by rfl,?hy12⟩) pZ ?rest12
   case hy12=>
    intro w' hSw;try dsimp only at hSw
    first|(go_simp;done)|(go_simp;with_reducible rfl)
   try simp only[Act.put,bm,cm,cn]
   refine wpAnyH_take (i:=13) (v:=?v13) rfl eX eX eX (λ_ _ _ h=>h) (af ⟨by rfl,?hy13⟩) pZ ?rest13
   case hy13=>
    intro w' hSw;try dsimp only at hSw
    first|(go_simp;done)|(go_simp;with_reducible rfl)
   try simp only[Act.put,bm,cm,cn]
   refine wpAnyH_ready (rs:=[10,14]) eX eB ?_;refine AllReadyH.cons rfl (λK hK=>?way1) (AllReadyH.cons rfl (λK hK=>?way2) AllReadyH.nil)
   case way1=>
    go_simp
    refine hK.out _ _ ?hs14 (λhHeld=>?_)
    case hs14=>exact HSS.out _ rfl rfl
    clear hK K;try simp only[Act.put,bm,cm,cn]
    refine wpAnyH_ready (rs:=[14]) eX eB ?_;refine AllReadyH.cons rfl (λK hK=>?_) AllReadyH.nil;go_simp
    refine hK.out _ _ ?hs15 (λhHeld=>?_)
    case hs15=>exact HSS.out _ rfl rfl
    clear hK K;try simp only[Act.put,bm,cm,cn]
    refine wpAnyH_ready (rs:=[15]) eX eB ?_;refine AllReadyH.cons rfl (λK hK=>?_) AllReadyH.nil;go_simp
    refine du HSP ?_;rintro w6 ⟨hR6,h6,va,a0,a1,a2,a3⟩;have k1:=HK6.out w6 h6;have b6:w6.heap[X]? = w5.heap[X]?:=h6 X hXw lX5;have b7:w6.heap[w.heap.size]? = w5.heap[w.heap.size]?:=h6 _ (bq _) lz5;have HR6:=bj hR6;clear hR6 h6;go_wp2_with fail
    refine hK.out _ _ ?hs16 (λhHeld=>?_)
    case hs16=>exact HSS.out _ b6 b7
    clear hK K;try simp only[Act.put,bm,cm,cn]
    refine wpAnyH_take (i:=16) (v:=?v17) rfl eX eX eX (λ_ _ _ h=>h) (af ⟨by rfl,?hy17⟩) pZ ?rest17
    case hy17=>
     intro w' hSw;try dsimp only at hSw
     first|(go_simp;done)|(go_simp;with_reducible rfl)
    try simp only[Act.put,bm,cm,cn]
    refine wpAnyH_take (i:=17) (v:=?v18) rfl eX eX eX (λ_ _ _ h=>h) (af ⟨by rfl,?hy18⟩) pZ ?rest18
    case hy18=>
     intro w' hSw;try dsimp only at hSw
     first|(go_simp;done)|(go_simp;with_reducible rfl)
    try simp only[Act.put,bm,cm,cn]
    refine wpAnyH_ready (rs:=[18]) eX eB ?_;refine AllReadyH.cons rfl (λK hK=>?_) AllReadyH.nil;go_simp
    refine hK.out _ _ ?hs19 (λhHeld=>?_)
    case hs19=>exact HSS.out _ ((ab _ _ _ _ nXr).trans ((ab _ _ _ _ nXr).trans b6)) ((ab _ _ _ _ nwr).trans ((ab _ _ _ _ nwr).trans b7))
    clear hK K;try simp only[Act.put,bm,cm,cn]
    refine wpAnyH_done eX ?_ _;go_wp2_with fail
    go_meet
    case rel=>exact⟨w6,HR6.out,by first|exact aw _ _|exact bo (aw _ _)⟩
   case way2=>
    go_simp
    refine hK.out _ _ ?hs20 (λhHeld=>?_)
    case hs20=>exact HSS.out _ rfl rfl
    clear hK K;try simp only[Act.put,bm,cm,cn]
    refine wpAnyH_ready (rs:=[10]) eX eB ?_;refine AllReadyH.cons rfl (λK hK=>?_) AllReadyH.nil;go_simp
    refine hK.out _ _ ?hs21 (λhHeld=>?_)
    case hs21=>exact HSS.out _ rfl rfl
    clear hK K;try simp only[Act.put,bm,cm,cn]
    refine wpAnyH_ready (rs:=[15]) eX eB ?_;refine AllReadyH.cons rfl (λK hK=>?_) AllReadyH.nil;go_simp
    refine du HSP ?_;rintro w6 ⟨hR6,h6,va,a0,a1,a2,a3⟩;have k1:=HK6.out w6 h6;have b6:w6.heap[X]? = w5.heap[X]?:=h6 X hXw lX5;have b7:w6.heap[w.heap.size]? = w5.heap[w.heap.size]?:=h6 _ (bq _) lz5;have HR6:=bj hR6;clear hR6 h6;go_wp2_with fail
    refine hK.out _ _ ?hs22 (λhHeld=>?_)
    case hs22=>exact HSS.out _ b6 b7
    clear hK K;try simp only[Act.put,bm,cm,cn]
    refine wpAnyH_take (i:=16) (v:=?v23) rfl eX eX eX (λ_ _ _ h=>h) (af ⟨by rfl,?hy23⟩) pZ ?rest23
    case hy23=>
     intro w' hSw;try dsimp only at hSw
     first|(go_simp;done)|(go_simp;with_reducible rfl)
    try simp only[Act.put,bm,cm,cn]
    refine wpAnyH_take (i:=17) (v:=?v24) rfl eX eX eX (λ_ _ _ h=>h) (af ⟨by rfl,?hy24⟩) pZ ?rest24
    case hy24=>
     intro w' hSw;try dsimp only at hSw
     first|(go_simp;done)|(go_simp;with_reducible rfl)
    try simp only[Act.put,bm,cm,cn]
    refine wpAnyH_ready (rs:=[18]) eX eB ?_;refine AllReadyH.cons rfl (λK hK=>?_) AllReadyH.nil;go_simp
    refine hK.out _ _ ?hs25 (λhHeld=>?_)
    case hs25=>exact HSS.out _ ((ab _ _ _ _ nXr).trans ((ab _ _ _ _ nXr).trans b6)) ((ab _ _ _ _ nwr).trans ((ab _ _ _ _ nwr).trans b7))
    clear hK K;try simp only[Act.put,bm,cm,cn]
    refine wpAnyH_done eX ?_ _;go_wp2_with fail
    go_meet
    case rel=>exact⟨w6,HR6.out,by first|exact aw _ _|exact bo (aw _ _)⟩
  case rest=>
   have hcut':=hcut;clear hcut;go_wp2_with fail
   go_ret;obtain⟨w6,h6,hg⟩:=hcut'.out;exact⟨rfl,w6,h6,hg⟩
end D
namespace D
open F
variable {p:dL}{d:Dp}{K:Nat}{s s':Pl}{m m':Dm}{g g':Dg}{w w':aa}{ρ ρ':Nat → Nat}{t tb fb n nr a b c:Nat}{why:Int}
theorem eF.iY(h:eF p K s m ρ){G:Dc}(e:GA G m.nc):eF p K s (m.iY G) ρ:={ h with A:=e }
def Gz(d:Dp)(h:GA m.G m.nc):GA (gl d m) m.nc:=by
 unfold gl;split
 .exact h
 exact h
theorem eF.mU(hS:eF p K s m ρ)(G:Ok p s)(hP:PD p d)(hG:∀f,f<p.nf->2<=p.rg f/\p.rg f<=8)(hK:K<900000000)(hn:s.nt≠0):Dd d m:=by
 refine⟨eV hS.nt hn,(hS.small G).1,gp hS.B.1,λt ht=>?_,λc Y=>?_⟩
 .by_cases J:t∈s.lv
  .have y:=hS.T t J;have hw:=G.fw t J trivial;refine⟨eV y.l hw.n2,λi hi=>?_⟩;rw[y.l]at hi;have o:(dq s t i).f<p.nf:=(hw.f i hi).1;have e:(fU m t i).f=(dq s t i).f:=(y.f i hi).f;grind[D.PD.rg]
  have:=(hS.O t ((iG hS t).1 ht) J).2.1;grind
 obtain⟨k,k1,rfl⟩:=hS.LC G hP Y;have u:=hS.C k k1;exact⟨u.c1,u.c2,by rw[u.M,ef];exact u.l⟩
theorem Da.N8(hP:PD p d)(hS:eF p K s m ρ)(hR:Rn p s t)(hQ:oV p d s m g w ρ t tb fb n nr){ty:Nat}{l:List B.V}{v:Int}(a1:ty≠0->l≠[])(a0:l.length<=8)(hl:∀v,v∈l->dW p s v)(hm:mM p s t a ty l s')(J:Da d m g w t n a ty (l.map (tr ρ)) v w'):iO p d K s t m g w 0 s' v w':=by
 have Y:=hS.iY (Gz d hS.A);rcases J with⟨hr,rfl,H⟩|⟨hr,rfl,g',H⟩
 .rcases hm with⟨c,u,c1,Z,W,y,c5,rfl⟩|⟨o,u,y,rfl⟩
  .exfalso
   rcases hr with⟨_,e⟩|⟨N,J,e⟩
   .grind[of_decide_eq_false,D.PD.n]
   have:=of_decide_eq_false e.symm;rw[hP.n]at this;exact this ((hS.room hR.ok hP J).2.2 ⟨c,c1,Z,λhc=>by
    grind[B.qS]⟩)
  exact⟨ρ,_,g,H,af ⟨rfl,rfl,⟨u,rfl⟩,Y.mono ag⟩⟩
 rcases hm with⟨c,u,c1,Z,W,y,c5,rfl⟩|⟨o,u,y,rfl⟩
 .have h2:=Y.oS (a:=a) (ty:=ty) (l:=l) hR.ok hR.lv hR.fw.n1 y W ag a1 a0 hl;rw[show qd (m.iY (gl d m)) t=n from hQ.tp,show pS (m.iY (gl d m)) t=fU m t n from hQ.tf]at h2;exact⟨_,_,g',H,ah ⟨h2,ah (af ⟨rfl,rfl,(gI (s.oS u c ty l) t (de s t) t _).2.2.1.trans hR.run⟩)⟩⟩
 exfalso
 rcases hr with⟨hf,e⟩|⟨N,J,e⟩
 .unfold gl at hf;by_cases hd:d.n<=m.G.all
  .rw[bf hd]at hf
   cases hf
  rw[hS.A.1,hP.n]at hd;have H:((List.range p.n).map (λi=>ρ (i+1))).length<=m.nc:=gK m.nc _ (mx (f:=λi=>ρ (i+1)) _ List.nodup_range (λa ha b hb e=>by
   grind[D.eF.I])) (λc hc=>by
   obtain⟨i,hi,rfl⟩:=eK.1 hc;have a4:=fI.1 hi;have:=hS.C (i+1) (o _ ag ag);exact⟨this.c1,this.c2⟩)
  rw[ef,List.length_range]at H;omega
 have:=eO e.symm;rw[hP.n]at this;obtain⟨c,c1,Z,W⟩:=(hS.room hR.ok hP J).2.1 this;exact W (o c c1 Z)
section
variable (hP:PD p d)(hG:∀ f, f < p.nf → 2 ≤ p.rg f ∧ p.rg f ≤ 8)(h:dZ d m g w)(hS:eF p K s m ρ)(hR:Rn p s t)(hQ:oV p d s m g w ρ t tb fb n nr)(hK:K < 900000000)
include hP hG h hS hR hQ hK
theorem Oo(W:a<nr)(i:b<=8)(Y:b<256)(G:c<256)(Z:mM p s t a 0 (List.replicate b (0,0)) s'):Calls prog 194 #[P0 g.mb,aj t,dA (g.rb t n) nr nr,jn 9 a b c] w λe w'=>∃v:Int,e=.returned (aj v)/\iO p d K s t m g w 0 s' v w':=by
 have o:=hS.A;have hB:=hS.B.1;refine AN ag Y G (λw1 y=>(Mr i (h.kept y) (hS.mU hR.ok hP hG hK (by have:=hR.ht.1;have:=hR.ht.2;omega)) hQ.dt hQ.hi hQ.r1 W ⟨gp o.1,gp o.2.1,gp o.2.2⟩).mono ?_);rintro e w' ⟨v,rfl,H⟩;have e:(List.replicate b ((0,0):B.V)).map (tr ρ)=List.replicate b (0,0):=by rw[List.map_replicate,oZ]
 exact⟨v,rfl,(Da.N8 hP hS hR (hQ.kept h y) (l:=List.replicate b (0,0)) (λe=>dp rfl e) eR (λv J=>by grind[dW.num]) Z eR).ahead y⟩
theorem Nu(Y:a<nr)(i:c<nr)(G:b<256)(H:c<256)(Z:mM p s t a (b+1) [(bw s t).R c] s'):Calls prog 194 #[P0 g.mb,aj t,dA (g.rb t n) nr nr,jn 12 a b c] w λe w'=>∃v:Int,e=.returned (aj v)/\iO p d K s t m g w 0 s' v w':=by
 have o:=hS.A;have hB:=hS.B.1;refine AN ag G H (λw1 y=>(Mb i (hQ.V c i) G (h.kept y) (hS.mU hR.ok hP hG hK (by have:=hR.ht.1;have:=hR.ht.2;omega)) hQ.dt hQ.hi hQ.r1 Y ⟨gp o.1,gp o.2.1,gp o.2.2⟩).mono ?_);rintro e w' ⟨v,rfl,J⟩;exact⟨v,rfl,(Da.N8 hP hS hR (hQ.kept h y) (l:=[(bw s t).R c]) (λ_ e=>by cases e) eR (λv W=>by grind[F.Rn.nM,D.oV.r2]) Z J).ahead y⟩
end
