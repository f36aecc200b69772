import Derived.Test.YtnjiinbhbjpfkaaGreatDoorKg
import Derived.Test.YtnjiinbhbjpfkaaGreatDoorKf
set_option maxRecDepth 100000
set_option maxHeartbeats 0
set_option linter.all false
namespace Go.Proofs.YtnjiinbhbjpfkaaGreatDoor
open Go.RowKit Go.Proofs.Tryz
namespace D
open F
variable {p : dz} {d : Dp} {K : Nat} {s : Pl} {m m' : Dm} {g g' : Dg} {w w' : World} {ρ : Nat → Nat}
theorem Tryz.Ac:(prog.info? 233).map (λi=>(i.zero,i.size,i.bytes))=some (some (.agg #[.slice none 0 0,.int .i64 0]),2,32):=by kernel_rfl
theorem Tryz.underlying108:prog.underlying 108=some (.slice 233):=by kernel_rfl
def Au(d:Dp)(m:Dm)(ok:Bool):Prop:=((fy d m).fu=false/\ok=decide (0<d.n))\/∃N:Nat,kg d m N/\ok=decide (N<d.n)
def BI(d:Dp)(m:Dm)(g:Dg)(w:World)(t n a ty:Nat)(l:List B.V)(v:Int)(w':World):Prop:=
 (Au d m false/\v=-2/\Tr d m g w (m.gT (fy d m)) g w')\/(Au d m true/\v=0/\∃g',Tr d m g w (((m.gT (fy d m)).cell ty l).dx t n ((fj m t n).set a (m.nc+1,0))) g' w')
theorem uq(d:Dp)(m:Dm):(fy d m).all=m.G.all:=by unfold fy;split<;>rfl
theorem sD(d:Dp)(m:Dm):(fy d m).sure=m.G.sure:=by unfold fy;split<;>rfl
theorem sE(d:Dp)(m:Dm):(fy d m).lO=m.G.lO:=by unfold fy;split<;>rfl
theorem DP{m1:Dm}{Z W w6:World}{G cb cc ty:Nat}{l:List B.V}(h5:Tr d m g w m1 g Z)(J:Z.grownBy W none)(hS:Full Z G 115 (l.length*2) (l.length*2) (eC (kT l)))(hn:¬ey d m1 g G)(hs:w.heap.size<=G)(ho:w6.ownsRow 0 233 2 (.slice (some ⟨cb,0,none⟩) (m1.nc+1) cc) (m1.nc+1) (rowP (m1.nc*2) (cE m1 g)++[.slice (some ⟨G,0,none⟩) l.length l.length,iK ((ty:Int)-1)]))(u:W.grownBy w6 (Value.slice (g.ro 3 0).1 m1.nc (g.ro 3 0).2).ownBlock)(a6:jE W.heap.size (.slice (g.ro 3 0).1 m1.nc (g.ro 3 0).2) (.slice (some ⟨cb,0,none⟩) (m1.nc+1) cc)): Tr d m g w (m1.lN ty l) ((g.at 3 0 (some ⟨cb,0,none⟩,cc)).slt (m1.nc+1) G) (w6.setCell ⟨g.mb,12,none⟩ (.slice (some ⟨cb,0,none⟩) (m1.nc+1) cc)):=by
 have hr:=h5.r;have a1:(Value.slice (g.ro 3 0).1 m1.nc (g.ro 3 0).2).ownBlock=eO (g.ro 3 0).1:=dr _ _ _;rw[a1]at u;have a0:∀k,eO (g.ro 3 0).1=some k->k≠g.mb:=λk H=>hr.ne (x:=3) (y:=0) (z:=0) (x':=0) (y':=0) (z':=0) (m6 (by omega)) rfl H rfl (by omega);have i:Z.grownBy w6 (eO (g.ro 3 0).1):=⟨u.os.trans J.os,u.tape.trans J.tape,u.output.trans J.output,dH J.size u.size,λk H hn=>(u.block k (dm H J.size) hn).trans (J.block k H (by intro e;cases e))⟩;have Y:eO (g.ro 3 0).1=some cb\/(Z.heap.size<=cb):=by
  rcases a6 with e|⟨b',e,h2⟩
  .left
   rw[<-a1,<-e];rfl
  right
  have:cb=b':=by injection e
  have:=J.size;omega
 have a7:cb≠g.mb:=by
  rcases Y with e|e
  .exact a0 cb e
  have:=hr.M.lt;omega
 have a4:G<Z.heap.size:=hS.lt;have a2:cb≠G:=by
  rcases Y with e|e
  .exact λe'=>hn ⟨3,0,0,by rw[fP (m6 (by omega)),<-e'];exact e⟩
  omega
 refine Tr.lN h5 (bm (S:=λk=>k=g.mb\/eO (g.ro 3 0).1=some k) (a:=⟨g.mb,12,none⟩) ⟨i.os,i.tape,i.output,i.size,λk H hn=>i.block k H (λe=>hn (ab e.symm))⟩ (ag (ag rfl)) _) ((hr.M.block (i.block g.mb hr.M.lt (λe=>a0 g.mb e.symm rfl))).ep 12 _) ?_ ?_ (Y.imp id (λe=>⟨hr.fresh e,by omega⟩)) ⟨hn,hs⟩ a2
 .exact dD ho (λk H=>af _ _ _ _ (by
   have:k=cb:=by simpa[Value.ownBlock] using H.symm
   rw[this];exact a7))
 refine(hS.block (i.block G a4 (λe=>hn ⟨3,0,0,by rw[fP (m6 (by omega))];exact e.symm⟩))).block (af _ _ _ _ (λe=>hn ⟨0,0,0,by rw[fP (m6 (by omega))];exact e⟩))
theorem JR{t n nr a b c:Nat}(hb:b<=8)(h:dQ d m g w)(hC:BK d m)(ht:mF m t)(hi:n<(m.T t).fr.length)(hr:d.rg (fj m t n).f=nr)(ha:a<nr)(hA:m.G.all<1000000000/\m.G.sure<1000000000/\m.G.lO<1000000000): Calls prog 214 #[P0 g.mb,.slice (some ⟨g.rb t n,0,none⟩) nr nr,jY 9 a b c] w λe w'=>∃v:Int,e=.returned (.int .i64 v)/\BI d m g w t n a 0 (List.replicate b (0,0)) v w':=by
 obtain⟨i0,aU,aV,aQ,aX⟩:=info_parts Tryz.Ac;obtain⟨i5,b4,b5,b2,aW⟩:=info_parts Tryz.rH;have HH:=az h;have HR:Hid (∀w1,w.grownBy w1 none->Calls prog 225 #[P0 g.mb] w1 λe w'=>∃ok:Bool,e=.returned (.bool ok)/\Tr d m g w1 (m.gT (fy d m)) g w'/\Au d m ok):=λw1 hg=>(FU (h.kept hg) hC).mono (λe w' hh=>by
  obtain⟨ok,e1,e2,e3⟩:=hh;exact⟨ok,e1,e2,e3⟩)
 have aT:=az hC.n2;have HT:=az (ay ht (ay hi hr));have HA:=az hA;have bF:g.mb<w.heap.size:=h.M.lt;obtain⟨l,hl⟩:∃l:List B.V,l=List.replicate b (0,0):=⟨_,rfl⟩;rw[<-hl];have a6:l.length=b:=by rw[hl,ik]
 have b6:Hid (∀j,eC (λ_=>(0,0)) j=eC (kT l) j):=λj=>by
  have:kT l=λ_=>(0,0):=by
   funext i
   unfold kT;rw[hl,ar,List.getElem?_replicate];split<;>rfl
  rw[this]
 clear h hC ht hi hr hA hl;go_in;go_wp2_with (at_make;go_loud (refine wpList_make_full _ rfl _ _ 161 rfl 0 115 i5 _ 2 Tryz.underlying161 b4 b5 b2 _ _ _ _ b rfl rfl rfl rfl (by rw[aW];omega) (by unfold maxLen;omega) (dc _) ?_))
 intro Z a3 a1;have hz:=a1.size;simp at hz;have a9:=ta a3;have x0:Z.heap[w.heap.size]? = some (.cells #[.int .i64 ((9:Nat):Int),.int .i64 (a:Int),.int .i64 (b:Int),.int .i64 (c:Int)] 90 (0,0)):=cm a1 (bf _ _) (by intro e;cases e);have a0:Z.cell? ⟨w.heap.size,0,none⟩=some (.int .i64 ((9:Nat):Int)):=by simp[World.cell?,x0]
 have aE:w.heap.size<Z.heap.size:=by omega
 have lX:w.heap.size+1<=Z.heap.size:=by omega
 have KW:Hid ((w.alloc (.cells #[.int .i64 ((9:Nat):Int),.int .i64 (a:Int),.int .i64 (b:Int),.int .i64 (c:Int)] 90)).grownBy (Z.alloc (.cells #[.slice (some ⟨w.heap.size+1,0,none⟩) b b,.int .i64 (-1)] 233)) none):=au a1 _;have XW:Hid ((Z.alloc (.cells #[.slice (some ⟨w.heap.size+1,0,none⟩) b b,.int .i64 (-1)] 233)).heap[w.heap.size]? = some (.cells #[.int .i64 ((9:Nat):Int),.int .i64 (a:Int),.int .i64 (b:Int),.int .i64 (c:Int)] 90 (0,0))):=(ak _ _ _ aE).trans x0;have YW:Hid ((Z.alloc (.cells #[.slice (some ⟨w.heap.size+1,0,none⟩) b b,.int .i64 (-1)] 233)).heap[Z.heap.size]? = some (.cells #[.slice (some ⟨w.heap.size+1,0,none⟩) b b,.int .i64 (-1)] 233 (0,0))):=bf _ _;have SW:Hid (Full (Z.alloc (.cells #[.slice (some ⟨w.heap.size+1,0,none⟩) b b,.int .i64 (-1)] 233)) (w.heap.size+1) 115 (l.length*2) (l.length*2) (eC (kT l))):=by
  have h1:=(a9.block (ak Z (.cells #[.slice (some ⟨w.heap.size+1,0,none⟩) b b,.int .i64 (-1)] 233) _ a9.lt)).congr (λj _=>b6.out j);show Full _ _ _ (l.length*2) (l.length*2) _;rw[a6];exact h1
 clear a3 a1 a9 x0;go_wp2_with fail
 clear a0;generalize (Z.alloc (.cells #[.slice (some ⟨w.heap.size+1,0,none⟩) b b,.int .i64 (-1)] 233))=W at *;have a7:Z.heap.size≠w.heap.size+1:=by
  intro e;have h1:=SW.out;obtain⟨bA,h2,_⟩:=h1;rw[<-e,YW.out]at h2;injection h2 with h2;injection h2 with _ h2 _;exact ch h2 (by decide)
 obtain⟨X,hX⟩:∃X,X=Z.heap.size:=⟨_,rfl⟩;rw[<-hX]at lX YW a7 ⊢;obtain⟨sN,aD⟩:∃x,x=w.heap.size+1:=⟨_,rfl⟩;have b9:w.heap.size+1<=sN:=by omega
 rw[<-aD]at YW SW a7;clear hX aD aE hz;clear Z;refine(HR.out W (an (au (ax _ _) _) KW.out)).mono ?_;rintro e J ⟨ok,rfl,h5,aK⟩;have hW:=KW.out.size;simp at hW;have kU:∀j,w.heap.size<=j->j<W.heap.size->J.heap[j]? = W.heap[j]?:=λj h1 h2=>h5.o.same h2 (HH.out.fresh h1);have X5:=az ((kU _ (bj _) (by omega)).trans XW.out);have Y5:=az ((kU X (by omega) (bz YW.out)).trans YW.out);have S5:=az (SW.out.block (kU sN (by omega) SW.out.lt));have T5:=az (h5.ahead KW.out);have N5:Hid (¬ey d (m.gT (fy d m)) g sN):=λhm=>by
  rcases h5.m sN hm with h1|h1
  .exact HH.out.fresh (by omega) h1
  have:=SW.out.lt;omega
 have aI:=az aK;clear aK h5 kU XW YW SW KW HR
 cases ok with
 | false=>
  go_wp2_with fail
  go_ret;exact⟨-2,rfl,ag ⟨aI.out,rfl,T5.out.ahead (au (ax _ _) _)⟩⟩
 | true=>
  obtain⟨aB,aN⟩:=T5.out.r.mc 12 (by omega) (v:=.slice (g.ro 3 0).1 m.nc (g.ro 3 0).2) rfl;have aG:Hid (J.ownsRow 0 233 2 (.slice (g.ro 3 0).1 m.nc (g.ro 3 0).2) m.nc (rowP (m.nc*2) (cE (m.gT (fy d m)) g))):=T5.out.r.Cw;have b0:J.cell? ⟨X,0,none⟩=some (.slice (some ⟨sN,0,none⟩) b b):=by simp[World.cell?,Y5.out]
  have b1:J.cell? ⟨X,1,none⟩=some (.int .i64 (-1)):=by simp[World.cell?,Y5.out]
  have l5:g.mb<J.heap.size:=av J _ aB;have aY:X<J.heap.size:=av J _ b0;have aP:w.heap.size<J.heap.size:=bz X5.out;have a5:Hid (∀j,(Value.slice (g.ro 3 0).1 m.nc (g.ro 3 0).2).ownBlock=some j->j<J.heap.size/\j≠g.mb/\j≠X/\j≠w.heap.size):=λj Y=>by
   have aH:eO (g.ro 3 0).1=some j:=by rw[<-dr (g.ro 3 0).1 m.nc (g.ro 3 0).2];exact Y
   have hm:ey d m g j:=⟨3,0,0,by rw[fP (m6 (by omega))];exact aH⟩;have:=HH.out.lt hm;exact⟨by omega,HH.out.ne (x:=3) (y:=0) (z:=0) (x':=0) (y':=0) (z':=0) (m6 (by omega)) rfl aH rfl (by omega),by omega,by omega⟩
  have aM:Hid (∀w':World,w'.heap[g.mb]? = J.heap[g.mb]?->w'.heap[X]? = J.heap[X]?->w'.cell? ⟨g.mb,12,none⟩=some (.slice (g.ro 3 0).1 m.nc (g.ro 3 0).2)/\w'.frozen? ⟨g.mb,12,none⟩=false/\w'.cell? ⟨X,0,none⟩=some (.slice (some ⟨sN,0,none⟩) b b)/\w'.cell? ⟨X,1,none⟩=some (.int .i64 (-1))):=λw' e1 e2=>⟨(aw (a:=⟨g.mb,12,none⟩) e1).trans aB,(dg (a:=⟨g.mb,12,none⟩) e1).trans aN,(aw (a:=⟨X,0,none⟩) e2).trans b0,(aw (a:=⟨X,1,none⟩) e2).trans b1⟩;have aA:Hid (∀(o:Obj) (j:Nat),j<J.heap.size->(J.drew.alloc o).heap[j]? = J.heap[j]?):=λo j Y=>ak J.drew o j Y;have bD:m.nc+1<=1000000000:=by have:=aT.out;omega
  clear lX hW a7;go_wp2_with fail
  go_cut [] (λwx=>Hid (∃g2,Tr d m g (w.alloc (.cells #[.int .i64 ((9:Nat):Int),.int .i64 (a:Int),.int .i64 (b:Int),.int .i64 (c:Int)] 90)) ((m.gT (fy d m)).lN 0 l) g2 wx/\g2.rb=g.rb/\wx.heap[w.heap.size]? = some (.cells #[.int .i64 ((9:Nat):Int),.int .i64 (a:Int),.int .i64 (b:Int),.int .i64 (c:Int)] 90 (0,0))))
  case first=>
   go_region_law (refine eS _ rfl (.tmp 44) (.tmp 46) 108 rfl 233 i0 _ 2 32 Tryz.underlying108 aU aV aQ aX rfl (by decide) (g.ro 3 0).1 m.nc (g.ro 3 0).2 (rowP (m.nc*2) (cE (m.gT (fy d m)) g)) (by first|rfl|simp[Act.eval,Act.put]) (dD aG.out (λj Y=>aA.out _ _ (a5.out j Y).1)) ⟨J.heap.size,0,none⟩ 1 1 [.slice (some ⟨sN,0,none⟩) b b,.int .i64 (-1)] (by first|rfl|simp[Act.eval,Act.put]) rfl (by intro j u Y;match j,Y with|0,Y=>(simp at Y;subst Y;simp[Addr.add,go_sem])|1,Y=>(simp at Y;subst Y;simp[Addr.add,go_sem])) (by simp[Value.oneCell']) (by unfold maxLen;omega) (by omega) (by decide) ?_;intro v' w6 ho a2 aF;obtain⟨cb,aR,rfl⟩:=dM ho (by omega);have aJ:=az ho;have b3:=az a2;have aS:=az aF;have KO:Hid (∀j,j<J.heap.size->(j=g.mb\/j=X\/j=w.heap.size)->w6.heap[j]? = J.heap[j]?):=(λj Y hn=>(a2.block j (by first|(simp;omega)|omega) (λh=>by have h9:=a5.out j h.symm;omega)).trans (aA.out _ _ Y));obtain⟨bC,sz,sa,sb⟩:=aM.out w6 (KO.out _ l5 (ag rfl)) (KO.out _ aY (ab (ag rfl)));clear ho a2 aF)
   all_goals
    go_wp2_with fail
    go_meet
    case rel=>
     refine⟨_,DP (l:=l) (ty:=0) (cb:=cb) (cc:=aR) T5.out (au (bq (ax J none)) (.cells #[.slice (some ⟨sN,0,none⟩) b b,.int .i64 (-1)] 233)) S5.out N5.out (by simp;omega) (by first|(rw[a6];exact aJ.out)|(rw[a6,show(((b+1:Nat):Int)-1)=(b:Int) by omega];exact aJ.out)) b3.out aS.out,rfl,?_⟩;rw[af _ _ _ _ (by show w.heap.size≠g.mb;omega),KO.out _ aP (ab (ab rfl))];exact X5.out
  case rest=>
   obtain⟨g2,h6,H,x6⟩:=hcut.out;have aO:=h6.b;have a8:=az (Gg h6.r (by show(fy d m).all<_;rw[uq];exact HA.out.1) (by show(fy d m).sure<_;rw[sD];exact HA.out.2.1) (by show(fy d m).lO<_;rw[sE];exact HA.out.2.2));rw[aO]at a8;have aL:Hid (¬ey d ((m.gT (fy d m)).lN 0 l) g2 w.heap.size):=λhm=>by
    rcases h6.m _ hm with h1|h1
    .exact HH.out.fresh (bj _) h1
    rw[World.size_alloc]at h1;omega
   have H6:=az (ay h6 (ay H x6));clear h6 H x6 hcut aB aN aG b0 b1 a5 aM aA X5 Y5 S5 T5 N5;go_wp2_with fail
   refine a8.out.mono ?_;rintro e w7 ⟨rfl,h7⟩;obtain⟨h6,H,x6⟩:=H6.out;have h8:=h6.trans h7;have hT:=HT.out;have y7:=(h7.o.same (bz x6) aL.out).trans x6;have e1:w7.cell? ⟨w.heap.size,1,none⟩=some (.int .i64 (a:Int)):=by simp[World.cell?,y7]
   obtain⟨aZ,_⟩:=h8.r.mc 12 (by omega) (v:=.slice (g2.ro 3 0).1 (m.nc+1) (g2.ro 3 0).2) rfl;rw[aO]at aZ;have hF:=h8.r.R (t:=t) (i:=n) hT.1 hT.2.1;have a4:Full w7 (g.rb t n) 115 (nr*2) (nr*2) (eC (fj m t n).R):=by
    have h9:=hF;rw[H]at h9;rw[<-hT.2.2];exact h9
   obtain⟨r0,r1,r2,r3⟩:=Iz a4 ha;have H8:=az (ay h8 H);have b8:(a:Int)<(nr:Int):=by omega
   clear h6 H x6 h8 h7 hT y7 hF a4 a8 H6 aL;generalize (g2.ro 3 0).1=ca at *;generalize (g2.ro 3 0).2=cc at *;go_wp2_with fail
   go_cut [] (λwx=>Hid ((sM w7 (g.rb t n) a (m.nc+1,0)).grownBy wx none))
   case first=>
    go_region
    all_goals
     go_wp2_with fail
     go_meet
     case rel=>first|exact(bq (ax _ _):World.grownBy _ _ _)|exact(ax _ _:World.grownBy _ _ _)
   case rest=>
    have aC:=hcut;clear hcut;go_wp2_with fail
    go_ret;obtain⟨h8,H⟩:=H8.out;have h9:=h8.r.wP (t:=t) (i:=n) HT.out.1 HT.out.2.1 a (m.nc+1,0);rw[H]at h9;exact⟨0,rfl,ab ⟨aI.out,rfl,g2,((h8.trans h9).kept aC.out).ahead (au (ax _ _) _)⟩⟩
theorem JA{t n nr a b c:Nat}{vc:B.V}(bC:c<nr)(b3:(fj m t n).R c=vc)(hb:b<256)(h:dQ d m g w)(hC:BK d m)(ht:mF m t)(hi:n<(m.T t).fr.length)(hr:d.rg (fj m t n).f=nr)(ha:a<nr)(hA:m.G.all<1000000000/\m.G.sure<1000000000/\m.G.lO<1000000000): Calls prog 214 #[P0 g.mb,.slice (some ⟨g.rb t n,0,none⟩) nr nr,jY 12 a b c] w λe w'=>∃v:Int,e=.returned (.int .i64 v)/\BI d m g w t n a (b+1) [vc] v w':=by
 obtain⟨i0,aY,b2,aU,b6⟩:=info_parts Tryz.Ac;obtain⟨i5,bE,bF,bB,b5⟩:=info_parts Tryz.rH;have HH:=az h;have HR:Hid (∀w1,w.grownBy w1 none->Calls prog 225 #[P0 g.mb] w1 λe w'=>∃ok:Bool,e=.returned (.bool ok)/\Tr d m g w1 (m.gT (fy d m)) g w'/\Au d m ok):=λw1 hg=>(FU (h.kept hg) hC).mono (λe w' hh=>by
  obtain⟨ok,e1,e2,e3⟩:=hh;exact⟨ok,e1,e2,e3⟩)
 have aX:=az hC.n2;have HT:=az (ay ht (ay hi hr));have HA:=az hA;have aD:=(h.R ht hi).lt;have bN:=h.M.lt;obtain⟨r0,r1,_,_⟩:oU w (g.rb t n) c vc:=by
  have h9:=Iz (h.R ht hi) (a:=c) (by rw[hr];exact bC);rw[b3]at h9;exact h9
 have bH:(c:Int)<nr:=by omega
 obtain⟨l,hl⟩:∃l:List B.V,l=[vc]:=⟨_,rfl⟩;rw[<-hl];have aI:l.length=1:=by rw[hl];rfl
 have HL:=az hl;clear h hC ht hi hr hA hl;go_in;go_wp2_with (at_make;go_loud (refine wpList_make_full _ rfl _ _ 161 rfl 0 115 i5 _ 2 Tryz.underlying161 bE bF bB _ _ _ _ b rfl rfl rfl rfl (by rw[b5];omega) (by unfold maxLen;omega) (dc _) ?_))
 intro w3 aG a1;have hz:=a1.size;simp at hz;have x0:w3.heap[w.heap.size]? = some (.cells #[.int .i64 ((12:Nat):Int),.int .i64 a,.int .i64 b,.int .i64 c] 90 (0,0)):=cm a1 (bf _ _) (by intro e;cases e);have aA:=an (au (ax _ _) _) a1;have a0:w3.cell? ⟨w.heap.size,0,none⟩=some (.int .i64 ((12:Nat):Int)):=by simp[World.cell?,x0]
 have a2:w3.cell? ⟨w.heap.size,2,none⟩=some (.int .i64 b):=by simp[World.cell?,x0]
 have a3:w3.cell? ⟨w.heap.size,3,none⟩=some (.int .i64 c):=by simp[World.cell?,x0]
 have v0:=(bh aA (a:=⟨g.rb t n,c*2,none⟩) aD).1.trans r0;have v1:=(bh aA (a:=⟨g.rb t n,c*2+1,none⟩) aD).1.trans r1;have aS:w.heap.size<w3.heap.size:=by omega
 have b9:g.rb t n<w3.heap.size:=by omega
 have lX:w.heap.size+1<=w3.heap.size:=by omega
 have aK:=az a1;have aH:=az x0;clear aG a1 x0 aA r0 r1;go_wp2_with fail
 go_cut [] (λwx=>∃Z:Nat,Hid (w.heap.size+1<=Z/\Z≠w3.heap.size/\(w.alloc (.cells #[.int .i64 ((12:Nat):Int),.int .i64 a,.int .i64 b,.int .i64 c] 90)).grownBy wx none/\wx.heap[w.heap.size]? = some (.cells #[.int .i64 ((12:Nat):Int),.int .i64 a,.int .i64 b,.int .i64 c] 90 (0,0))/\wx.heap[w3.heap.size]? = some (.cells #[.slice (some ⟨Z,0,none⟩) 1 1,.int .i64 b] 233 (0,0))/\wx.heap[Z]? = some (.cells #[.int .i64 vc.1,.int .i64 vc.2] 115 (0,0))))
 case first=>
  go_region
  all_goals
   go_wp2_with fail
   go_meet
   case rel=>
    refine⟨w3.heap.size+1,by omega,by omega,bq (au (au aK.out _) _),(ak _ _ _ (by simp;omega)).trans ((ak _ _ _ aS).trans aH.out),(ak _ _ _ (by simp)).trans (bf _ _),?_⟩;have h9:=bf (w3.alloc (.cells #[.slice (some ⟨w3.heap.size+1,0,none⟩) 1 1,.int .i64 b] 233)) (.cells #[.int .i64 vc.1,.int .i64 vc.2] 115);rw[World.size_alloc]at h9;exact h9
 case rest=>
  obtain⟨Z,aP⟩:=hcut;obtain⟨bI,nX,kW,xW,yW,sW⟩:=aP.out;obtain⟨W,b4⟩:∃x:World,x=wc:=⟨_,rfl⟩;subst b4;obtain⟨X,hX⟩:∃X,X=w3.heap.size:=⟨_,rfl⟩;rw[<-hX]at lX yW nX;have KW:=az kW;have XW:=az xW;have YW:=az yW;have SW:Hid (Full W Z 115 (l.length*2) (l.length*2) (eC (kT l))):=by
   show Full _ _ _ (l.length*2) (l.length*2) _;rw[HL.out];refine⟨_,sW,rfl,λj Y=>?_⟩;have a4:j=0\/j=1:=by
    have:j<1*2:=Y;omega
   rcases a4 with rfl|rfl<;>rfl
  clear aP kW xW yW sW nX a0 a2 a3 v0 v1 b9 aK aH;go_wp2_with fail
  rw[<-hX];clear hX aS hz;refine(HR.out W (an (au (ax _ _) _) KW.out)).mono ?_;rintro e J ⟨ok,rfl,h5,aM⟩;have hW:=KW.out.size;simp at hW;have kU:∀j,w.heap.size<=j->j<W.heap.size->J.heap[j]? = W.heap[j]?:=λj h1 h2=>h5.o.same h2 (HH.out.fresh h1);have X5:=az ((kU _ (bj _) (by omega)).trans XW.out);have Y5:=az ((kU X (by omega) (bz YW.out)).trans YW.out);have S5:=az (SW.out.block (kU Z (by omega) SW.out.lt));have T5:=az (h5.ahead KW.out);have N5:Hid (¬ey d (m.gT (fy d m)) g Z):=λhm=>by
   rcases h5.m Z hm with h1|h1
   .exact HH.out.fresh (by omega) h1
   have:=SW.out.lt;omega
  have aJ:=az aM;clear aM h5 kU XW YW SW KW HR
  cases ok with
  | false=>
   go_wp2_with fail
   go_ret;exact⟨-2,rfl,ag ⟨aJ.out,rfl,T5.out.ahead (au (ax _ _) _)⟩⟩
  | true=>
   obtain⟨aB,aQ⟩:=T5.out.r.mc 12 (by omega) (v:=.slice (g.ro 3 0).1 m.nc (g.ro 3 0).2) rfl;have aF:Hid (J.ownsRow 0 233 2 (.slice (g.ro 3 0).1 m.nc (g.ro 3 0).2) m.nc (rowP (m.nc*2) (cE (m.gT (fy d m)) g))):=T5.out.r.Cw;have b0:J.cell? ⟨X,0,none⟩=some (.slice (some ⟨Z,0,none⟩) 1 1):=by simp[World.cell?,Y5.out]
   have b1:J.cell? ⟨X,1,none⟩=some (.int .i64 ((b:Int))):=by simp[World.cell?,Y5.out]
   have l5:g.mb<J.heap.size:=av J _ aB;have b8:X<J.heap.size:=av J _ b0;have aT:w.heap.size<J.heap.size:=bz X5.out;have a7:Hid (∀j,(Value.slice (g.ro 3 0).1 m.nc (g.ro 3 0).2).ownBlock=some j->j<J.heap.size/\j≠g.mb/\j≠X/\j≠w.heap.size):=λj Y=>by
    have a4:eO (g.ro 3 0).1=some j:=by rw[<-dr (g.ro 3 0).1 m.nc (g.ro 3 0).2];exact Y
    have hm:ey d m g j:=⟨3,0,0,by rw[fP (m6 (by omega))];exact a4⟩;have:=HH.out.lt hm;exact⟨by omega,HH.out.ne (x:=3) (y:=0) (z:=0) (x':=0) (y':=0) (z':=0) (m6 (by omega)) rfl a4 rfl (by omega),by omega,by omega⟩
   have aO:Hid (∀w':World,w'.heap[g.mb]? = J.heap[g.mb]?->w'.heap[X]? = J.heap[X]?->w'.cell? ⟨g.mb,12,none⟩=some (.slice (g.ro 3 0).1 m.nc (g.ro 3 0).2)/\w'.frozen? ⟨g.mb,12,none⟩=false/\w'.cell? ⟨X,0,none⟩=some (.slice (some ⟨Z,0,none⟩) 1 1)/\w'.cell? ⟨X,1,none⟩=some (.int .i64 ((b:Int)))):=λw' e1 e2=>⟨(aw (a:=⟨g.mb,12,none⟩) e1).trans aB,(dg (a:=⟨g.mb,12,none⟩) e1).trans aQ,(aw (a:=⟨X,0,none⟩) e2).trans b0,(aw (a:=⟨X,1,none⟩) e2).trans b1⟩;have a9:Hid (∀(o:Obj) (j:Nat),j<J.heap.size->(J.drew.alloc o).heap[j]? = J.heap[j]?):=λo j Y=>ak J.drew o j Y;have bL:m.nc+1<=1000000000:=by have:=aX.out;omega
   clear lX hW;go_wp2_with fail
   go_cut [] (λwx=>Hid (∃g2,Tr d m g (w.alloc (.cells #[.int .i64 ((12:Nat):Int),.int .i64 a,.int .i64 b,.int .i64 c] 90)) ((m.gT (fy d m)).lN (b+1) l) g2 wx/\g2.rb=g.rb/\wx.heap[w.heap.size]? = some (.cells #[.int .i64 ((12:Nat):Int),.int .i64 a,.int .i64 b,.int .i64 c] 90 (0,0))))
   case first=>
    go_region_law (refine eS _ rfl (.tmp 44) (.tmp 46) 108 rfl 233 i0 _ 2 32 Tryz.underlying108 aY b2 aU b6 rfl (by decide) (g.ro 3 0).1 m.nc (g.ro 3 0).2 (rowP (m.nc*2) (cE (m.gT (fy d m)) g)) (by first|rfl|simp[Act.eval,Act.put]) (dD aF.out (λj Y=>a9.out _ _ (a7.out j Y).1)) ⟨J.heap.size,0,none⟩ 1 1 [.slice (some ⟨Z,0,none⟩) 1 1,.int .i64 ((b:Int))] (by first|rfl|simp[Act.eval,Act.put]) rfl (by intro j u Y;match j,Y with|0,Y=>(simp at Y;subst Y;simp[Addr.add,go_sem])|1,Y=>(simp at Y;subst Y;simp[Addr.add,go_sem])) (by simp[Value.oneCell']) (by unfold maxLen;omega) (by omega) (by decide) ?_;intro v' w6 ho a5 aE;obtain⟨cb,aV,rfl⟩:=dM ho (by omega);have aL:=az ho;have bD:=az a5;have aW:=az aE;have KO:Hid (∀j,j<J.heap.size->(j=g.mb\/j=X\/j=w.heap.size)->w6.heap[j]? = J.heap[j]?):=(λj Y hn=>(a5.block j (by first|(simp;omega)|omega) (λh=>by have h9:=a7.out j h.symm;omega)).trans (a9.out _ _ Y));obtain⟨bK,sz,sa,sb⟩:=aO.out w6 (KO.out _ l5 (ag rfl)) (KO.out _ b8 (ab (ag rfl)));clear ho a5 aE)
    all_goals
     go_wp2_with fail
     go_meet
     case rel=>
      refine⟨_,DP (l:=l) (ty:=(b+1)) (cb:=cb) (cc:=aV) T5.out (au (bq (ax J none)) (.cells #[.slice (some ⟨Z,0,none⟩) 1 1,.int .i64 ((b:Int))] 233)) S5.out N5.out (by simp;omega) (by first|(rw[aI];exact aL.out)|(rw[aI,show(((b+1:Nat):Int)-1)=(b:Int) by omega];exact aL.out)) bD.out aW.out,rfl,?_⟩;rw[af _ _ _ _ (by show w.heap.size≠g.mb;omega),KO.out _ aT (ab (ab rfl))];exact X5.out
   case rest=>
    obtain⟨g2,h6,H,x6⟩:=hcut.out;have aR:=h6.b;have a8:=az (Gg h6.r (by show(fy d m).all<_;rw[uq];exact HA.out.1) (by show(fy d m).sure<_;rw[sD];exact HA.out.2.1) (by show(fy d m).lO<_;rw[sE];exact HA.out.2.2));rw[aR]at a8;have aN:Hid (¬ey d ((m.gT (fy d m)).lN (b+1) l) g2 w.heap.size):=λhm=>by
     rcases h6.m _ hm with h1|h1
     .exact HH.out.fresh (bj _) h1
     rw[World.size_alloc]at h1;omega
    have H6:=az (ay h6 (ay H x6));clear h6 H x6 hcut aB aQ aF b0 b1 a7 aO a9 X5 Y5 S5 T5 N5;go_wp2_with fail
    refine a8.out.mono ?_;rintro e w7 ⟨rfl,h7⟩;obtain⟨h6,H,x6⟩:=H6.out;have h8:=h6.trans h7;have hT:=HT.out;have y7:=(h7.o.same (bz x6) aN.out).trans x6;have e1:w7.cell? ⟨w.heap.size,1,none⟩=some (.int .i64 a):=by simp[World.cell?,y7]
    obtain⟨bA,_⟩:=h8.r.mc 12 (by omega) (v:=.slice (g2.ro 3 0).1 (m.nc+1) (g2.ro 3 0).2) rfl;rw[aR]at bA;have hF:=h8.r.R (t:=t) (i:=n) hT.1 hT.2.1;have a6:Full w7 (g.rb t n) 115 (nr*2) (nr*2) (eC (fj m t n).R):=by
     have h9:=hF;rw[H]at h9;rw[<-hT.2.2];exact h9
    obtain⟨r0,r1,r2,r3⟩:=Iz a6 ha;have H8:=az (ay h8 H);have bG:(a:Int)<nr:=by omega
    clear h6 H x6 h8 h7 hT y7 hF a6 a8 H6 aN;generalize (g2.ro 3 0).1=ca at *;generalize (g2.ro 3 0).2=cc at *;go_wp2_with fail
    go_cut [] (λwx=>Hid ((sM w7 (g.rb t n) a (m.nc+1,0)).grownBy wx none))
    case first=>
     go_region
     all_goals
      go_wp2_with fail
      go_meet
      case rel=>first|exact(bq (ax _ _):World.grownBy _ _ _)|exact(ax _ _:World.grownBy _ _ _)
    case rest=>
     have aC:=hcut;clear hcut;go_wp2_with fail
     go_ret;obtain⟨h8,H⟩:=H8.out;have h9:=h8.r.wP (t:=t) (i:=n) HT.out.1 HT.out.2.1 a (m.nc+1,0);rw[H]at h9;exact⟨0,rfl,ab ⟨aJ.out,rfl,g2,((h8.trans h9).kept aC.out).ahead (au (ax _ _) _)⟩⟩
end D
namespace D
open F
variable {w : World}
theorem GP{mb o nr a b c z cb G cc y sl i:Nat}{x H:Int}{va W:B.V}(ha:a<nr)(hb:b<nr)(hc:c<nr)(ra:oU w o a va)(rb:oU w o b (z+1,x))(rc:oU w o c (0,(i:Int)))(hz:z<G)(hn:G<1000000000)(J:w.cell? ⟨mb,12,none⟩=some (.slice (some ⟨cb,0,none⟩) G cc))(k1:w.cell? ⟨cb,z*2+1,none⟩=some (.int .i64 H))(k0:w.cell? ⟨cb,z*2,none⟩=some (.slice (some ⟨y,0,none⟩) sl sl))(hu:H<0)(hi:i<sl)(aB:sl<=8)(Ax:oU w y i W): Calls prog 214 #[P0 mb,.slice (some ⟨o,0,none⟩) nr nr,jY 10 a b c] w λe w'=>e=.returned (.int .i64 0)/\(sM w o a W).grownBy w' none:=by
 have lr:o<w.heap.size:=av w _ rb.1;have lm:mb<w.heap.size:=av w _ J;have lc:cb<w.heap.size:=av w _ k1;have ls:y<w.heap.size:=av w _ Ax.1;have aE:(a:Int)<(nr:Int):=by omega
 have Y:(b:Int)<(nr:Int):=by omega
 have Z:(c:Int)<(nr:Int):=by omega
 have a5:o<w.heap.size+1:=by omega
 have a6:o<w.heap.size+1+1:=by omega
 have a4:mb<w.heap.size+1:=by omega
 have a7:mb<w.heap.size+1+1:=by omega
 have aD:cb<w.heap.size+1:=by omega
 have a8:cb<w.heap.size+1+1:=by omega
 have aC:y<w.heap.size+1:=by omega
 have a9:y<w.heap.size+1+1:=by omega
 have q1:IntKind.i64.wrap ((z:Int)+1-1)=(z:Int):=fp (by omega);have q2:IntKind.i64.wrap (z:Int)=(z:Int):=by rw[bl,bd _ (by omega)]
 have q3:(z:Int)<(G:Int):=by omega
 have q4:(0:Int)<=(z:Int):=by omega
 have q5:(((z:Int)+1) == 0)=false:=by rw[dK];omega
 have q6:¬(0<=H):=by omega
 have b1:¬((i:Int)<0):=by omega
 have b2:¬((sl:Int)<=(i:Int)):=by omega
 have b3:(i:Int)<(sl:Int):=by omega
 have b4:IntKind.i64.wrap (sl:Int)=(sl:Int):=by rw[bl,bd _ (by omega)]
 obtain⟨u,r1,_,_⟩:=rb;obtain⟨s0,s1,_,_⟩:=rc;obtain⟨a0,a1,a2,a3⟩:=ra;obtain⟨v0,v1,_,_⟩:=Ax;simp only[]at r1 s0 s1;go_in;go_wp2_with fail
 go_quiet (fail)
 go_wp2_with fail
 go_quiet (fail)
 go_wp2_with fail
 go_region
 all_goals
  go_wp2_with fail
  go_ret;refine⟨rfl,?_⟩;exact jl (jl (db (au (au (au (ax _ _) _) _) _) _) _ _) _ _
theorem GO{mb o nr a b c z cb G cc u sl i:Nat}{x H:Int}{W vs:B.V}(ha:a<nr)(hb:b<nr)(hc:c<nr)(rb:oU w o a (z+1,x))(rc:oU w o b (0,(i:Int)))(ra:oU w o c W)(hz:z<G)(hn:G<1000000000)(J:w.cell? ⟨mb,12,none⟩=some (.slice (some ⟨cb,0,none⟩) G cc))(k1:w.cell? ⟨cb,z*2+1,none⟩=some (.int .i64 H))(k0:w.cell? ⟨cb,z*2,none⟩=some (.slice (some ⟨u,0,none⟩) sl sl))(hu:H<0)(hi:i<sl)(aD:sl<=8)(Ax:oU w u i vs): Calls prog 214 #[P0 mb,.slice (some ⟨o,0,none⟩) nr nr,jY 11 a b c] w λe w'=>e=.returned (.int .i64 0)/\(sM w u i W).grownBy w' none:=by
 have lr:o<w.heap.size:=av w _ rb.1;have lm:mb<w.heap.size:=av w _ J;have lc:cb<w.heap.size:=av w _ k1;have ls:u<w.heap.size:=av w _ Ax.1;have aH:(a:Int)<(nr:Int):=by omega
 have Y:(b:Int)<(nr:Int):=by omega
 have Z:(c:Int)<(nr:Int):=by omega
 have a5:o<w.heap.size+1:=by omega
 have a8:o<w.heap.size+1+1:=by omega
 have a4:mb<w.heap.size+1:=by omega
 have a9:mb<w.heap.size+1+1:=by omega
 have aG:cb<w.heap.size+1:=by omega
 have aA:cb<w.heap.size+1+1:=by omega
 have aE:u<w.heap.size+1:=by omega
 have aB:u<w.heap.size+1+1:=by omega
 have q1:IntKind.i64.wrap ((z:Int)+1-1)=(z:Int):=fp (by omega);have q2:IntKind.i64.wrap (z:Int)=(z:Int):=by rw[bl,bd _ (by omega)]
 have q3:(z:Int)<(G:Int):=by omega
 have q4:(0:Int)<=(z:Int):=by omega
 have q5:(((z:Int)+1) == 0)=false:=by rw[dK];omega
 have q6:¬(0<=H):=by omega
 have b1:¬((i:Int)<0):=by omega
 have b2:¬((sl:Int)<=(i:Int)):=by omega
 have b3:(i:Int)<(sl:Int):=by omega
 have b4:IntKind.i64.wrap (sl:Int)=(sl:Int):=by rw[bl,bd _ (by omega)]
 obtain⟨y,r1,_,_⟩:=rb;obtain⟨s0,s1,_,_⟩:=rc;obtain⟨a0,a1,a2,a3⟩:=ra;obtain⟨v0,v1,v2,v3⟩:=Ax;simp only[]at r1 s0 s1;go_in;go_wp2_with fail
 go_quiet (fail)
 go_wp2_with fail
 go_quiet (fail)
 go_wp2_with fail
 go_region
 all_goals
  go_wp2_with fail
  go_ret;refine⟨rfl,?_⟩;exact jl (jl (db (au (au (au (ax _ _) _) _) _) _) _ _) _ _
end D
namespace D
open F
variable {p : dz} {d : Dp} {K : Nat} {s : Pl} {m m' : Dm} {g g' : Dg} {w w' : World} {ρ : Nat → Nat}
theorem Md{o mb t i nr a b c:Nat}{R:Int->World->Prop}(G:o=13\/o=15)(H:∀w1,w.grownBy w1 none->Calls prog 227 #[P0 mb,.int .i64 (t:Int),.slice (some ⟨i,0,none⟩) nr nr,jY o a b c] w1 λe w'=>∃v:Int,e=.returned (.int .i64 v)/\R v w'): Calls prog 215 #[P0 mb,.int .i64 (t:Int),.slice (some ⟨i,0,none⟩) nr nr,jY o a b c] w λe w'=>∃v:Int,e=.returned (.int .i64 v)/\R v w':=by
 have u:=az (H (w.alloc (.cells #[.int .i64 (o:Int),.int .i64 (a:Int),.int .i64 (b:Int),.int .i64 (c:Int)] 90)) (au (ax _ _) _));rcases G with rfl|rfl
 all_goals
  go_in;go_wp2_with fail
  refine u.out.mono ?_;rintro e w2 ⟨v,rfl,hR⟩;have y:=az hR;go_wp2_with fail
  go_ret;exact⟨v,rfl,y.out⟩
end D
namespace D
open F
variable {w : World}
theorem He(t k:Int)(y:0<=t)(o:t<=9223372036854775807)(k0:-9223372036854775808<=k)(k1:k<=9223372036854775807):Calls prog 141 #[.int .i64 t,.int .i64 k] w λe w'=>e=.returned (.int .i64 (B.iz t k))/\w'=w:=by
 by_cases i:k<0
 .have e:B.iz t k=t:=by unfold B.iz;split<;>(try split)<;>omega
  rw[e];go_in;go_wp2_with fail
  go_ret;exact⟨rfl,rfl⟩
 by_cases u:t+k > 9223372036854775807
 .have e:B.iz t k=9223372036854775807:=by unfold B.iz;split<;>(try split)<;>omega
  have hw:wrap64 (t+k)=t+k-18446744073709551616:=by unfold wrap64;omega
  have hn:t+k-18446744073709551616<0:=by omega
  rw[e];go_in;go_wp2_with fail
  go_ret;exact⟨rfl,rfl⟩
 have e:B.iz t k=t+k:=by unfold B.iz;split<;>(try split)<;>omega
 have hw:IntKind.i64.wrap (t+k)=t+k:=by simp[IntKind.wrap,IntKind.bits,IntKind.signed];omega
 have hn:¬(t+k<0):=by omega
 rw[e];go_in;go_wp2_with fail
 go_ret;exact⟨rfl,rfl⟩
end D
namespace D
open F
def jW(p:dz)(d:Dp)(K:Nat)(s:Pl)(t:Nat)(m:Dm)(g:Dg)(w:World)(why:Int)(s':Pl)(v:Int)(w':World):Prop:=
 ∃ρ' m' g',Tr d m g w m' g' w'/\((v=-2/\why=0/\(∃kd1,s'=(s.tQ kd1).kj t)/\eK p (K+1) s m' ρ') \/
  (eK p (K+1) s' m' ρ'/\((0<v/\why=v)\/(v=0/\why=0/\(s'.T t).run=true)\/(v=-1/\why=0/\(s'.T t).run=false))))
variable {p : dz} {d : Dp} {K : Nat} {s s' : Pl} {m m' : Dm} {g g' : Dg} {w w' : World} {ρ ρ' : Nat → Nat} {t tb fb n nr a b c : Nat} {why : Int}
theorem jW.go(o:Tr d m g w m' g' w')(i:eK p K s' m' ρ')(e:(s'.T t).run=true):jW p d K s t m g w 0 s' 0 w':=
 ⟨ρ',m',g',o,ab ⟨i.mono (by omega),ab (ag ⟨rfl,rfl,e⟩)⟩⟩
theorem jW.stop(o:Tr d m g w m' g' w')(i:eK p (K+1) s' m' ρ')(e:(s'.T t).run=false):jW p d K s t m g w 0 s' (-1) w':=
 ⟨ρ',m',g',o,ab ⟨i,ab (ab ⟨rfl,rfl,e⟩)⟩⟩
theorem jW.fail(h:dQ d m g w)(o:w.grownBy w' none)(i:eK p K s m ρ)(e:0<why):jW p d K s t m g w why s why w':=
 ⟨ρ,m,g,(Tr.refl h).kept o,ab ⟨i.mono (by omega),ag ⟨e,rfl⟩⟩⟩
theorem jW.ahead{w1:World}{v:Int}(i:w.grownBy w1 none)(h:jW p d K s t m g w1 why s' v w'):jW p d K s t m g w why s' v w':=by
 obtain⟨ρ',m',g',o,e⟩:=h;exact⟨ρ',m',g',o.ahead i,e⟩
theorem qP.goes(hQ:qP p d s m g w ρ t tb fb n nr)(h:dQ d m g w)(hS:eK p K s m ρ)(hR:Rn p s t)(a:Nat){v:B.V}(e:dN p s v)(o:(sM w (g.rb t n) a (tr ρ v)).grownBy w' none):jW p d K s t m g w 0 (s.dx t (cr s t) ((bw s t).set a v)) 0 w':=by
 obtain⟨m',g',u,i⟩:=hQ.set h hS hR a e o;exact jW.go u i ((gj s t (cr s t) t _).2.2.1.trans hR.run)
theorem qP.Af(hQ:qP p d s m g w ρ t tb fb n nr)(h:dQ d m g w)(hS:eK p K s m ρ)(hR:Rn p s t)(a:Nat)(x:Int)(e:(sM w (g.rb t n) a (0,x)).grownBy w' none):jW p d K s t m g w 0 (oO s t a x) 0 w':=
 hQ.goes h hS hR a (dN.num x) (by rw[sm];exact e)
theorem eK.B1(hS:eK p K s m ρ)(J:Ok p s){x y:B.V}(hx:dN p s x)(H:dN p s y):tr ρ x=tr ρ y↔x=y:=by
 refine⟨λe=>?_,λe=>by rw[e]⟩;have u:=wH J hS hx;have G:=wH J hS H;by_cases i:x.1=0
 .have o:=G.1.1 (by rw[<-e];exact u.1.2 i);rw[om i,om o]at e;exact e
 have o:y.1≠0:=λW=>i (u.1.1 (by rw[e];exact G.1.2 W));have Y:x.2=y.2:=by rw[<-u.2,<-G.2,e]
 rw[oZ i,oZ o]at e;injection e with e _;exact fV (hS.I _ _ (B.oH.vi hx i) (B.oH.vi H o) e) Y
theorem AQ{s:Pl}{t:Nat}(hi:cr s t<(s.T t).fr.length):s.dx t (cr s t) (bw s t)=s:=by
 have:(s.T t).fr.set (cr s t) (bw s t)=(s.T t).fr:=by
  refine List.ext_getElem? (λj=>?_);by_cases e:cr s t=j
  .subst e;rw[List.getElem?_set_self hi];unfold bw de;rw[ar,bn hi];rfl
  rw[List.getElem?_set_ne e]
 unfold Pl.dx;rw[this];unfold Pl.dv;have o:(λi=>if i=t then s.T t else s.T i)=s.T:=by
  funext i
  by_cases e:i=t
  .rw[aj e,e]
  rw[aa e]
 show({ s with T:=λi=>if i=t then s.T t else s.T i }:Pl)=s;rw[o]
section
variable (hP : PD p d) (h : dQ d m g w) (hS : eK p K s m ρ) (hR : Rn p s t) (hQ : qP p d s m g w ρ t tb fb n nr)
include h hS hR hQ
theorem Mo(i:a<nr)(u:b<256)(o:c<256):Calls prog 194 #[P0 g.mb,.int .i64 t,.slice (some ⟨g.rb t n,0,none⟩) nr nr,jY 0 a b c] w λe w'=>∃v:Int,e=.returned (.int .i64 v)/\jW p d K s t m g w 0 (oO s t a (B.wide b c)) v w':=by
 refine(Mb i u o (hQ.rc i)).mono ?_;rintro e w' ⟨rfl,y⟩;exact⟨0,rfl,hQ.Af h hS hR a _ y⟩
theorem Mn(u:a<nr)(o:b<nr)(i:b<256)(y:c<256):Calls prog 194 #[P0 g.mb,.int .i64 t,.slice (some ⟨g.rb t n,0,none⟩) nr nr,jY 1 a b c] w λe w'=>∃v:Int,e=.returned (.int .i64 v)/\jW p d K s t m g w 0 (s.dx t (cr s t) ((bw s t).set a ((bw s t).R b))) v w':=by
 refine(Ma u o i y (hQ.rc u) (hQ.rc o)).mono ?_;rintro e w' ⟨rfl,G⟩;exact⟨0,rfl,hQ.goes h hS hR a (hR.oq (by rw[hQ.r2];exact o)) G⟩
theorem Fh{o:Nat}(ho:o=2\/o=3\/o=4\/o=5)(Z:a<nr)(Y:b<nr)(J:c<nr)(W:b<256)(H:c<256)(hi:wE s t o a b c why s'):Calls prog 194 #[P0 g.mb,.int .i64 t,.slice (some ⟨g.rb t n,0,none⟩) nr nr,jY o a b c] w λe w'=>∃v:Int,e=.returned (.int .i64 v)/\jW p d K s t m g w why s' v w':=by
 have gb:=wH hR.ok hS (hR.oq (a:=b) (by rw[hQ.r2];exact Y));have gc:=wH hR.ok hS (hR.oq (a:=c) (by rw[hQ.r2];exact J));refine(Ks ho Z Y J W H (hQ.rc Z) (hQ.rc Y) (hQ.rc J)).mono ?_;rintro e w' (⟨⟨e1,e2⟩,rfl,G⟩|⟨hn,rfl,G⟩)
 .have u:=gb.1.1 e1;have i:=gc.1.1 e2;rw[om u,om i]at G;rcases hi with⟨_,rfl,rfl⟩|⟨y,_⟩
  .exact⟨0,rfl,hQ.Af h hS hR a _ G⟩
  exact ch ⟨u,i⟩ y
 rcases hi with⟨y,_⟩|⟨_,rfl,rfl⟩
 .exact ch ⟨gb.1.2 y.1,gc.1.2 y.2⟩ hn
 exact⟨1,rfl,jW.fail h G hS (by omega)⟩
theorem Mm(H:a<nr)(y:b<nr)(u:c<nr)(o:b<256)(i:c<256):Calls prog 194 #[P0 g.mb,.int .i64 t,.slice (some ⟨g.rb t n,0,none⟩) nr nr,jY 6 a b c] w λe w'=>∃v:Int,e=.returned (.int .i64 v)/\jW p d K s t m g w 0 (oO s t a (if(bw s t).R b=(bw s t).R c then 1 else 0)) v w':=by
 have G:=hS.B1 hR.ok (hR.oq (a:=b) (by rw[hQ.r2];exact y)) (hR.oq (a:=c) (by rw[hQ.r2];exact u));refine(L9 H y u o i (hQ.rc H) (hQ.rc y) (hQ.rc u)).mono ?_;rintro e w' ⟨rfl,W⟩;refine⟨0,rfl,hQ.Af h hS hR a _ ?_⟩;have:(if(bw s t).R b=(bw s t).R c then(1:Int) else 0)=if tr ρ ((bw s t).R b)=tr ρ ((bw s t).R c) then 1 else 0:=by
  by_cases e:(bw s t).R b=(bw s t).R c
  .rw[aj e,aj (G.2 e)]
  rw[aa e,aa (λJ=>e (G.1 J))]
 rw[this];exact W
theorem Lf(i:a<nr)(u:b<256)(o:c<256):Calls prog 194 #[P0 g.mb,.int .i64 t,.slice (some ⟨g.rb t n,0,none⟩) nr nr,jY 22 a b c] w λe w'=>∃v:Int,e=.returned (.int .i64 v)/\jW p d K s t m g w 0 (oO s t a s.eY) v w':=by
 refine(Kt i u o (hQ.rc i) (h.mc 5 (by omega) rfl).1 (h.M.ne hQ.F (by decide))).mono ?_;rintro e w' ⟨rfl,y⟩;refine⟨0,rfl,hQ.Af h hS hR a _ ?_⟩;rw[<-hS.ck];exact y
theorem Ml(G:b<256)(y:c<256):Calls prog 194 #[P0 g.mb,.int .i64 t,.slice (some ⟨g.rb t n,0,none⟩) nr nr,jY 7 a b c] w λe w'=>∃v:Int,e=.returned (.int .i64 v)/\jW p d K s t m g w 0 (s.dx t (cr s t) { bw s t with nx:=256*b+c }) v w':=by
 refine(L8 (R:=λw'=>jW p d K s t m g w 0 (s.dx t (cr s t) { bw s t with nx:=256*b+c }) 0 w') G y (λw1 i=>?_)).mono ?_
 .refine(F4 (h.kept i) hQ.dt (hQ.kept h i).T hQ.n20 (hS.small hR.ok).1 _).mono ?_;rintro e w' ⟨rfl,o⟩;have u:=hS.nx hR.lv hR.fw.n1 (256*b+c);rw[hQ.tp,hQ.tf]at u;exact⟨rfl,jW.go (o.ahead i) u ((gj s t (cr s t) t _).2.2.1.trans hR.run)⟩
 rintro e w' ⟨rfl,o⟩;exact⟨0,rfl,o⟩
theorem Mk(o:a<nr)(Z:b<256)(Y:c<256):Calls prog 194 #[P0 g.mb,.int .i64 t,.slice (some ⟨g.rb t n,0,none⟩) nr nr,jY 8 a b c] w λe w'=>∃v:Int,e=.returned (.int .i64 v)/\jW p d K s t m g w 0 (s.dx t (cr s t) { bw s t with nx:=if(bw s t).R a=(0,0) then 256*b+c else(bw s t).nx }) v w':=by
 have u:=hS.B1 hR.ok (hR.oq (a:=a) (by rw[hQ.r2];exact o)) (y:=(0,0)) (dN.num 0);rw[sm]at u;refine(L6 (R:=λw'=>jW p d K s t m g w 0 (s.dx t (cr s t) { bw s t with nx:=if(bw s t).R a=(0,0) then 256*b+c else(bw s t).nx }) 0 w') o Z Y (hQ.rc o) (λw1 G i=>?_) (λw1 G i=>?_)).mono ?_
 .refine(F4 (h.kept i) hQ.dt (hQ.kept h i).T hQ.n20 (hS.small hR.ok).1 _).mono ?_;rintro e w' ⟨rfl,H⟩;have J:=hS.nx hR.lv hR.fw.n1 (256*b+c);rw[hQ.tp,hQ.tf]at J;rw[aj (u.1 G)];exact⟨rfl,jW.go (H.ahead i) J ((gj s t (cr s t) t _).2.2.1.trans hR.run)⟩
 .rw[aa (λW=>G (u.2 W))];show jW p d K s t m g w 0 (s.dx t (cr s t) (bw s t)) 0 w1;rw[AQ hR.hi];exact jW.go ((Tr.refl h).kept i) hS hR.run
 rintro e w' ⟨rfl,H⟩;exact⟨0,rfl,H⟩
include hP
theorem Li(u:a<nr)(W:b<256)(J:c<256)(he:m.ev.length<=100000):Calls prog 194 #[P0 g.mb,.int .i64 t,.slice (some ⟨g.rb t n,0,none⟩) nr nr,jY 14 a b c] w λe w'=>∃v:Int,e=.returned (.int .i64 v)/\jW p d K s t m g w 0 (s.back t ((bw s t).R a)) v w':=by
 have G:=mA hR.ok.lw hR.ht ((bw s t).R a);refine(Kv (R:=λw'=>jW p d K s t m g w 0 (s.back t ((bw s t).R a)) (if decide (cr s t=0)=true then -1 else 0) w') (f:=decide (cr s t=0)) u W J (hQ.rc u) (λw1 y=>?_)).mono ?_
 .refine(Ga hP (h.kept y) hS hR.ok hR.lv hR.wh (hR.oq (a:=a) (by rw[hQ.r2];exact u)) he).mono ?_;rintro e w' ⟨rfl,m',g',i,H⟩;refine⟨rfl,?_⟩;by_cases o:cr s t=0
  .rw[aj (by rw[o];rfl)];exact jW.stop (i.ahead y) (H.mono (by omega)) (G.1 o)
  rw[aa (by simpa using o)];exact jW.go (i.ahead y) H ((G.2 o).1.trans hR.run)
 rintro e w' ⟨rfl,i⟩;exact⟨_,rfl,i⟩
omit hP in
theorem Lg(y:a<nr)(J:b<256)(H:c<256)(he:m.ev.length<=100000):Calls prog 194 #[P0 g.mb,.int .i64 (t:Int),.slice (some ⟨g.rb t n,0,none⟩) nr nr,jY 20 a b c] w λe w'=>∃v:Int,e=.returned (.int .i64 v)/\jW p d K s t m g w (iY s t a).1 (iY s t a).2 v w':=by
 have G:=wH hR.ok hS (hR.oq (a:=a) (by rw[hQ.r2];exact y));refine(Ku (R:=λw'=>((bw s t).R a).1=0->jW p d K s t m g w 0 (s.told 1 t ((bw s t).R a).2) 0 w') y J H (hQ.rc y) (λw1 o=>?_)).mono ?_
 .refine(B5 1 t _ (h.kept o) he).mono ?_;rintro e w' ⟨rfl,g',u⟩;refine⟨rfl,λi=>?_⟩;rw[om i]at u;exact jW.go (u.ahead o) (hS.told 1 t _) hR.run
 unfold iY;rintro e w' (⟨i,rfl,u⟩|⟨i,rfl,o⟩)
 .rw[aj (G.1.1 i)];exact⟨0,rfl,u (G.1.1 i)⟩
 rw[aa (λe=>i (G.1.2 e))];exact⟨1,rfl,jW.fail h o hS (by omega)⟩
end
end D
namespace D
open F
variable {p : dz} {d : Dp} {K : Nat} {s s' : Pl} {m m' : Dm} {g g' : Dg} {w w' : World} {ρ ρ' : Nat → Nat} {t tb fb n nr a b c : Nat} {why : Int}
theorem Gq{rr:Nat}(h:dQ d m g w)(hq:m.q.length<=1000000000)(hb:b<256)(hc:c<256): Calls prog 194 #[P0 g.mb,.int .i64 (t:Int),.slice (some ⟨rr,0,none⟩) nr nr,jY 16 a b c] w λe w'=>e=.returned (.int .i64 (-1))/\∃g',Tr d m g w (m.qv t) g' w':=by
 obtain⟨i0,hi,a2,Y,W⟩:=info_parts Tryz.qk;have q1:IntKind.i64.wrap (256*(b:Int))=256*(b:Int):=by rw[bl,bd _ (by omega)]
 have q2:IntKind.i64.wrap (256*(b:Int)+(c:Int))=256*(b:Int)+(c:Int):=by rw[bl,bd _ (by omega)]
 obtain⟨c7,z7⟩:=h.mc 7 (by omega) (v:=.slice (g.ro 2 0).1 m.q.length (g.ro 2 0).2) rfl;have le:=h.M.lt;have a3:g.mb<w.heap.size+1:=by omega
 have a4:g.mb<w.heap.size+1+1:=by omega
 have HR:=az h;have HQ:Hid (fM w 3 (.slice (g.ro 2 0).1 m.q.length (g.ro 2 0).2) (iI m.q)):=h.Q;have HK:Hid (∀j,(Value.slice (g.ro 2 0).1 m.q.length (g.ro 2 0).2).ownBlock=some j->j≠g.mb/\j<w.heap.size):=λj G=>by
  have J:eO (g.ro 2 0).1=some j:=by rw[<-dr (g.ro 2 0).1 m.q.length (g.ro 2 0).2];exact G
  exact⟨h.ne (x:=2) (y:=0) (z:=0) (x':=0) (y':=0) (z':=0) (m6 (by omega)) rfl J rfl (by omega),HQ.out.lt j G⟩
 have hl:(iI m.q).length=m.q.length:=iH _;have H:=az hl;clear h hl;go_in;go_wp2_with (at_builtin;refine gZ _ rfl (.tmp 138) (.tmp 140) 54 rfl 3 i0 _ 8 Tryz.g9 hi a2 Y W rfl _ (iI m.q) rfl (HQ.out.block ?cq) _ _ (.int .i64 (t:Int)) rfl ?c1 rfl ?c3 ?c4 ?_)
 case cq=>
  intro j G;obtain⟨k1,k2⟩:=HK.out j G;rw[ak _ _ _ (by simp;omega),ak _ _ _ k2]
 try case c1=>simp[go_sem]
 try case c3=>rw[H.out];unfold maxLen;omega
 try case c4=>rw[H.out];omega
 intro qb off cap u i hg o;rw[H.out]at i;have a0:=az i;have Z:=az hg;have a1:=az o;have b0:u.heap[g.mb]? = w.heap[g.mb]?:=by rw[hg.block g.mb (by simp;omega) (λh=>(HK.out g.mb h.symm).1 rfl),ak _ _ _ (by simp;omega),ak _ _ _ le]
 have d7:=(aw (a:=⟨g.mb,7,none⟩) b0).trans c7;have e7:=(dg (a:=⟨g.mb,7,none⟩) b0).trans z7;go_wp2_with fail
 go_ret;refine⟨rfl,g.at 2 0 (some ⟨qb,off,none⟩,cap),?_⟩;have h0:=(Tr.refl HR.out).kept (au (au (ax w none) (.cells #[.int .i64 ((16:Nat):Int),.int .i64 (a:Int),.int .i64 (b:Int),.int .i64 (c:Int)] 90)) (.cells #[.int .i64 (t:Int)] 3));have h1:=Tr.qv (t:=t) (b:=qb) (off:=off) (c:=cap) h0 a0.out Z.out (a1.out.imp id (λe=>by rw[e];simp));first
  | exact h1
  | (rw[H.out];exact h1)
theorem Lh(h:dQ d m g w)(hS:eK p K s m ρ)(hR:Rn p s t){o:Nat}(H:b<256)(y:c<256):Calls prog 194 #[P0 g.mb,.int .i64 (t:Int),.slice (some ⟨o,0,none⟩) nr nr,jY 16 a b c] w λe w'=>∃v:Int,e=.returned (.int .i64 v)/\jW p d K s t m g w 0 (s.dV 2 0 t) v w':=by
 refine(Gq h (hS.small hR.ok).2 H y).mono ?_;rintro e w' ⟨rfl,g',G⟩;have i:=hS.join (x:=m.T t) hR.ok hR.lv (by rw[hR.wh];intro e;cases e) ⟨rfl,rfl,rfl,(hS.T t hR.lv).h.h0 hR.wh⟩;have e:m.dv t (m.T t)=m:=by
  unfold Dm.dv;have:(λu=>if u=t then m.T t else m.T u)=m.T:=by
   funext u
   by_cases e:u=t
   .rw[aj e,e]
   rw[aa e]
  rw[this]
 rw[e]at i;refine⟨-1,rfl,jW.stop G (i.mono (by omega)) ?_⟩;rw[nO];rfl
end D
namespace D
open F
variable {p : dz} {d : Dp} {K : Nat} {s s' : Pl} {m m' : Dm} {g g' : Dg} {w w' : World} {ρ ρ' : Nat → Nat} {t tb fb n nr a b c : Nat} {why : Int}
structure Mw(m:Dm) (g:Dg) (w:World) (s:Pl) (ρ:Nat->Nat) (v:B.V) (z cb:Nat):Prop where
 e:ρ v.1=z+1
 l:z<m.nc
 ev:tr ρ v=(z+1,0)
 BL:w.cell? ⟨g.mb,12,none⟩=some (.slice (some ⟨cb,0,none⟩) m.nc (g.ro 3 0).2)
 k0:w.cell? ⟨cb,z*2,none⟩=some (.slice (some ⟨g.sb (z+1),0,none⟩) (s.M v.1).length (s.M v.1).length)
 k1:w.cell? ⟨cb,z*2+1,none⟩=some (.int .i64 ((s.ck v.1:Int)-1))
 sl:∀i,i<(s.M v.1).length->oU w (g.sb (z+1)) i (tr ρ ((s.M v.1).getD i (0,0)))
 l8:(s.M v.1).length<=8
 lm:(m.M (z+1)).length=(s.M v.1).length
theorem eK.LY(hS:eK p K s m ρ)(h:dQ d m g w)(hO:Ok p s){v:B.V}(W:dN p s v)(h0:v.1≠0):∃z y,Mw m g w s ρ v z y:=by
 obtain⟨Y,G,H,J,Z⟩:=hS.Gf hO W h0;obtain⟨y,k1,k2,k3,o,u⟩:=h.cc G H;obtain⟨z,hz⟩:∃z,ρ v.1=z+1:=⟨ρ v.1-1,by omega⟩;have e:=h.S G H;rw[hz]at Y G H J Z o u e;rw[dC]at o u;have hl:(m.M (z+1)).length=(s.M v.1).length:=by rw[J,dS]
 refine⟨z,y,hz,by omega,Y,k3,by rw[hl]at o;exact o,by rw[Z]at u;exact u,λi hi=>?_,(hS.C v.1 (B.oH.vi W h0)).l,hl⟩;have:=Iz e (a:=i) (by omega);have e6:kT (m.M (z+1)) i=tr ρ ((s.M v.1).getD i (0,0)):=by
  unfold kT;rw[J,ar,eo,ar,bn hi];rfl
 rw[e6]at this;exact this
section
variable (h : dQ d m g w) (hS : eK p K s m ρ) (hR : Rn p s t) (hQ : qP p d s m g w ρ t tb fb n nr) (hK : K < 900000000)
include h hS hR hQ hK
theorem Jw(ha:a<nr)(W:b<nr)(J:c<nr)(hi:jD p s t (10,a,b,c) why s'):Calls prog 214 #[P0 g.mb,.slice (some ⟨g.rb t n,0,none⟩) nr nr,jY 10 a b c] w λe w'=>∃v:Int,e=.returned (.int .i64 v)/\jW p d K s t m g w why s' v w':=by
 have hi:(Eb s ((bw s t).R b) ((bw s t).R c)/\why=0/\s'=s.dx t (cr s t) ((bw s t).set a ((s.M ((bw s t).R b).1).getD ((bw s t).R c).2.toNat (0,0))))\/(¬Eb s ((bw s t).R b) ((bw s t).R c)/\why=(mI s ((bw s t).R b) ((bw s t).R c):Nat)/\s'=s):=hi;have gb:=hR.oq (by rw[hQ.r2];exact W);have gc:dN p s ((bw s t).R c):=hR.oq (by rw[hQ.r2];exact J);have rb:=hQ.rc W;have rc:=hQ.rc J;generalize hx:(bw s t).R b=x at *;generalize hy:(bw s t).R c=y at *;have G:∀k:Nat,0<k->¬Eb s x y->mI s x y=k->Calls prog 214 #[P0 g.mb,.slice (some ⟨g.rb t n,0,none⟩) nr nr,jY 10 a b c] w (λe w'=>e=.returned (.int .i64 k)/\w.grownBy w' none)->Calls prog 214 #[P0 g.mb,.slice (some ⟨g.rb t n,0,none⟩) nr nr,jY 10 a b c] w λe w'=>∃v:Int,e=.returned (.int .i64 v)/\jW p d K s t m g w why s' v w':=λk hk hn he H=>by
  rcases hi with⟨h',_⟩|⟨_,rfl,rfl⟩
  .exact ch h' hn
  refine H.mono ?_;rintro e w' ⟨rfl,hg⟩;rw[he];exact⟨_,rfl,jW.fail h hg hS (by omega)⟩
 by_cases Y:x.1=0
 .refine G 2 (by omega) (λe=>e.1 Y) (by unfold mI;rw[aj (ag Y)]) ?_;rw[om Y,show x=(0,x.2) from fV Y rfl]at rb;exact I3 W J rb rc
 obtain⟨z,cb,i⟩:=hS.LY h hR.ok gb Y;have u:m.nc<1000000000:=by have:=hS.B.1;omega
 rw[i.ev]at rb;by_cases hk:s.ck x.1=0
 case neg=>
  refine G 2 (by omega) (λe=>hk e.2.1) (by unfold mI;rw[aj (ab hk)]) ?_;exact wT (vo:=(0,0)) (ag ⟨rfl,rfl,rfl⟩) W J rb rc i.l u i.BL i.k1 i.k0 (ag ⟨by omega,rfl⟩)
 have hw:¬(x.1=0\/s.ck x.1≠0):=λe=>e.elim Y (λe=>e hk);by_cases o:y.1=0
 case neg=>
  refine G 1 (by omega) (λe=>o e.2.2.1) (by unfold mI;rw[aa hw,aj o]) ?_;exact wT (vo:=(0,0)) (ag ⟨rfl,rfl,rfl⟩) W J rb rc i.l u i.BL i.k1 i.k0 (ab (ag ⟨by omega,Int.natCast_pos.2 (Nat.pos_of_ne_zero λe=>o ((wH hR.ok hS gc).1.1 e)),rfl⟩))
 rw[om o,show y=(0,y.2) from fV o rfl]at rc;have Z:mI s x y=3:=by unfold mI;rw[aa hw,aa (λe=>e o)]
 by_cases y1:y.2<0
 .refine G 3 (by omega) (λe=>by have:=e.2.2.2.1;omega) Z ?_;exact wT (vo:=(0,0)) (ag ⟨rfl,rfl,rfl⟩) W J rb rc i.l u i.BL i.k1 i.k0 (ab (ab (ag ⟨by omega,rfl,fh y1,rfl⟩)))
 by_cases y2:((s.M x.1).length:Int)<=y.2
 .refine G 3 (by omega) (λe=>by have:=e.2.2.2.2;omega) Z ?_;exact wT (vo:=(0,0)) (ag ⟨rfl,rfl,rfl⟩) W J rb rc i.l u i.BL i.k1 i.k0 (ab (ab (ab ⟨by omega,rfl,fi y1,fh y2,rfl⟩)))
 rcases hi with⟨_,rfl,rfl⟩|⟨h',_⟩
 .have a1:y.2=((y.2.toNat:Nat):Int):=by omega
  rw[a1]at rc;have a0:y.2.toNat<(s.M x.1).length:=by omega
  refine(GP ha W J (hQ.rc ha) rb rc i.l u i.BL i.k1 i.k0 (by omega) a0 i.l8 (i.sl _ a0)).mono ?_;rintro e w' ⟨rfl,hg⟩;exact⟨0,rfl,hQ.goes h hS hR a (tn (B.oH.vi gb Y) _) hg⟩
 exact ch ⟨Y,hk,o,by omega,by omega⟩ h'
theorem Jv(W:a<nr)(Y:b<nr)(hc:c<nr)(hi:jD p s t (11,a,b,c) why s'):Calls prog 214 #[P0 g.mb,.slice (some ⟨g.rb t n,0,none⟩) nr nr,jY 11 a b c] w λe w'=>∃v:Int,e=.returned (.int .i64 v)/\jW p d K s t m g w why s' v w':=by
 have hi:(Eb s ((bw s t).R a) ((bw s t).R b)/\why=0/\s'=s.sK ((bw s t).R a).1 ((bw s t).R b).2.toNat ((bw s t).R c))\/(¬Eb s ((bw s t).R a) ((bw s t).R b)/\why=(mI s ((bw s t).R a) ((bw s t).R b):Nat)/\s'=s):=hi;have gb:=hR.oq (by rw[hQ.r2];exact W);have gc:dN p s ((bw s t).R b):=hR.oq (by rw[hQ.r2];exact Y);have gv:dN p s ((bw s t).R c):=hR.oq (by rw[hQ.r2];exact hc);have rb:=hQ.rc W;have rc:=hQ.rc Y;have rv:=hQ.rc hc;generalize hx:(bw s t).R a=x at *;generalize hy:(bw s t).R b=y at *;generalize hv:(bw s t).R c=v at *;have J:∀k:Nat,0<k->¬Eb s x y->mI s x y=k->Calls prog 214 #[P0 g.mb,.slice (some ⟨g.rb t n,0,none⟩) nr nr,jY 11 a b c] w (λe w'=>e=.returned (.int .i64 k)/\w.grownBy w' none)->Calls prog 214 #[P0 g.mb,.slice (some ⟨g.rb t n,0,none⟩) nr nr,jY 11 a b c] w λe w'=>∃v:Int,e=.returned (.int .i64 v)/\jW p d K s t m g w why s' v w':=λk hk hn he H=>by
  rcases hi with⟨h',_⟩|⟨_,rfl,rfl⟩
  .exact ch h' hn
  refine H.mono ?_;rintro e w' ⟨rfl,hg⟩;rw[he];exact⟨_,rfl,jW.fail h hg hS (by omega)⟩
 by_cases Z:x.1=0
 .refine J 2 (by omega) (λe=>e.1 Z) (by unfold mI;rw[aj (ag Z)]) ?_;rw[om Z,show x=(0,x.2) from fV Z rfl]at rb;exact IY W Y hc rb rc rv
 obtain⟨z,cb,o⟩:=hS.LY h hR.ok gb Z;have G:m.nc<1000000000:=by have:=hS.B.1;omega
 rw[o.ev]at rb;by_cases hk:s.ck x.1=0
 case neg=>
  refine J 2 (by omega) (λe=>hk e.2.1) (by unfold mI;rw[aj (ab hk)]) ?_;exact wT (ab ⟨rfl,rfl,rfl,by omega,rv⟩) W Y rb rc o.l G o.BL o.k1 o.k0 (ag ⟨by omega,rfl⟩)
 have hw:¬(x.1=0\/s.ck x.1≠0):=λe=>e.elim Z (λe=>e hk);by_cases u:y.1=0
 case neg=>
  refine J 1 (by omega) (λe=>u e.2.2.1) (by unfold mI;rw[aa hw,aj u]) ?_;exact wT (ab ⟨rfl,rfl,rfl,by omega,rv⟩) W Y rb rc o.l G o.BL o.k1 o.k0 (ab (ag ⟨by omega,Int.natCast_pos.2 (Nat.pos_of_ne_zero λe=>u ((wH hR.ok hS gc).1.1 e)),rfl⟩))
 rw[om u,show y=(0,y.2) from fV u rfl]at rc;have a1:mI s x y=3:=by unfold mI;rw[aa hw,aa (λe=>e u)]
 by_cases y1:y.2<0
 .refine J 3 (by omega) (λe=>by have:=e.2.2.2.1;omega) a1 ?_;exact wT (ab ⟨rfl,rfl,rfl,by omega,rv⟩) W Y rb rc o.l G o.BL o.k1 o.k0 (ab (ab (ag ⟨by omega,rfl,fh y1,rfl⟩)))
 by_cases y2:((s.M x.1).length:Int)<=y.2
 .refine J 3 (by omega) (λe=>by have:=e.2.2.2.2;omega) a1 ?_;exact wT (ab ⟨rfl,rfl,rfl,by omega,rv⟩) W Y rb rc o.l G o.BL o.k1 o.k0 (ab (ab (ab ⟨by omega,rfl,fi y1,fh y2,rfl⟩)))
 rcases hi with⟨_,rfl,rfl⟩|⟨h',_⟩
 .have a2:y.2=((y.2.toNat:Nat):Int):=by omega
  rw[a2]at rc;have a0:y.2.toNat<(s.M x.1).length:=by omega
  refine(GO W Y hc rb rc rv o.l G o.BL o.k1 o.k0 (by omega) a0 o.l8 (o.sl _ a0)).mono ?_;rintro e w' ⟨rfl,hg⟩;have h2:=hS.sK (a:=x.1) (i:=y.2.toNat) (v:=v) (B.oH.vi gb Z) gv;rw[o.e]at h2;exact⟨0,rfl,jW.go ((h.Kx (c:=z+1) (i:=y.2.toNat) (by omega) (by have:=o.l;omega) (by rw[o.lm];exact a0) (tr ρ v)).kept hg) h2 hR.run⟩
 exact ch ⟨Z,hk,u,by omega,by omega⟩ h'
theorem Ll(Y:a<nr)(J:b<nr)(y:c<nr)(u:b<256)(i:c<256)(hi:jD p s t (10,a,b,c) why s'):Calls prog 194 #[P0 g.mb,.int .i64 t,.slice (some ⟨g.rb t n,0,none⟩) nr nr,jY 10 a b c] w λe w'=>∃v:Int,e=.returned (.int .i64 v)/\jW p d K s t m g w why s' v w':=
 zr (by omega) u i (λw1 o=>(Jw (h.kept o) hS hR (hQ.kept h o) hK Y J y hi).mono (λe w' H=>by
  obtain⟨v,W,G⟩:=H;exact⟨v,W,G.ahead o⟩))
theorem Lk(Y:a<nr)(J:b<nr)(y:c<nr)(u:b<256)(i:c<256)(hi:jD p s t (11,a,b,c) why s'):Calls prog 194 #[P0 g.mb,.int .i64 t,.slice (some ⟨g.rb t n,0,none⟩) nr nr,jY 11 a b c] w λe w'=>∃v:Int,e=.returned (.int .i64 v)/\jW p d K s t m g w why s' v w':=
 zr (by omega) u i (λw1 o=>(Jv (h.kept o) hS hR (hQ.kept h o) hK Y J y hi).mono (λe w' H=>by
  obtain⟨v,W,G⟩:=H;exact⟨v,W,G.ahead o⟩))
end
end D
namespace D
open F
variable {p : dz} {d : Dp} {K : Nat} {s s' : Pl} {m m' : Dm} {g g' : Dg} {w w' : World} {ρ ρ' : Nat → Nat} {t tb fb n nr a b c : Nat} {why : Int}
theorem eK.gT(h:eK p K s m ρ){G:Dc}(e:GA G m.nc):eK p K s (m.gT G) ρ:={ h with A:=e }
theorem EE(d:Dp)(h:GA m.G m.nc):GA (fy d m) m.nc:=by
 unfold fy;split
 .exact h
 exact h
theorem eK.kX(hS:eK p K s m ρ)(G:Ok p s)(hP:PD p d)(hG:∀f,f<p.nf->2<=p.rg f/\p.rg f<=8)(hK:K<900000000)(hn:s.nt≠0):BK d m:=by
 refine⟨by rw[hS.nt];exact hn,(hS.small G).1,by have:=hS.B.1;omega,λt ht=>?_,λc Y=>?_⟩
 .by_cases J:t∈s.lv
  .have y:=hS.T t J;have hw:=G.fw t J trivial;refine⟨by rw[y.l];exact hw.n2,λi hi=>?_⟩;rw[y.l]at hi;have o:(de s t i).f<p.nf:=(hw.f i hi).1;have e:(fj m t i).f=(de s t i).f:=(y.f i hi).f;rw[e,hP.rg _ o];have:=hG _ o;omega
  have:=(hS.O t ((iw hS t).1 ht) J).2.1;rw[this];exact⟨dc _,λi hi=>by cases hi⟩
 obtain⟨k,k1,rfl⟩:=hS.Jc G hP Y;have u:=hS.C k k1;exact⟨u.c1,u.c2,by rw[u.M,dS];exact u.l⟩
theorem BI.LV(hP:PD p d)(hS:eK p K s m ρ)(hR:Rn p s t)(hQ:qP p d s m g w ρ t tb fb n nr){ty:Nat}{l:List B.V}{v:Int}(a1:ty≠0->l≠[])(a0:l.length<=8)(hl:∀v,v∈l->dN p s v)(hm:kL p s t a ty l s')(J:BI d m g w t n a ty (l.map (tr ρ)) v w'):jW p d K s t m g w 0 s' v w':=by
 have Y:=hS.gT (EE d hS.A);rcases J with⟨hr,rfl,H⟩|⟨hr,rfl,g',H⟩
 .rcases hm with⟨c,u,c1,Z,W,y,c5,rfl⟩|⟨o,u,y,rfl⟩
  .exfalso
   rcases hr with⟨_,e⟩|⟨N,J,e⟩
   .have:=of_decide_eq_false e.symm;rw[hP.n]at this;omega
   have:=of_decide_eq_false e.symm;rw[hP.n]at this;exact this ((hS.room hR.ok hP J).2.2 ⟨c,c1,Z,λhc=>by
    have:=(B.po y hc).1;rw[W]at this;cases this⟩)
  exact⟨ρ,_,g,H,ag ⟨rfl,rfl,⟨u,rfl⟩,Y.mono (by omega)⟩⟩
 rcases hm with⟨c,u,c1,Z,W,y,c5,rfl⟩|⟨o,u,y,rfl⟩
 .have h2:=Y.na (a:=a) (ty:=ty) (l:=l) hR.ok hR.lv hR.fw.n1 y W (by omega) a1 a0 hl;rw[show pQ (m.gT (fy d m)) t=n from hQ.tp,show pR (m.gT (fy d m)) t=fj m t n from hQ.tf]at h2;exact⟨_,_,g',H,ab ⟨h2,ab (ag ⟨rfl,rfl,(gj (s.na u c ty l) t (cr s t) t _).2.2.1.trans hR.run⟩)⟩⟩
 exfalso
 rcases hr with⟨hf,e⟩|⟨N,J,e⟩
 .unfold fy at hf;by_cases hd:d.n<=m.G.all
  .rw[aj hd]at hf
   cases hf
  rw[hS.A.1,hP.n]at hd;have H:((List.range p.n).map (λi=>ρ (i+1))).length<=m.nc:=gn m.nc _ (kB (f:=λi=>ρ (i+1)) _ List.nodup_range (λa ha b hb e=>by
   have a3:=eJ.1 ha;have a2:=eJ.1 hb;have:=hS.I (a+1) (b+1) (o _ (by omega) (by omega)) (o _ (by omega) (by omega)) e;omega)) (λc hc=>by
   obtain⟨i,hi,rfl⟩:=ek.1 hc;have a4:=eJ.1 hi;have:=hS.C (i+1) (o _ (by omega) (by omega));exact⟨this.c1,this.c2⟩)
  rw[dS,List.length_range]at H;omega
 have:=dO e.symm;rw[hP.n]at this;obtain⟨c,c1,Z,W⟩:=(hS.room hR.ok hP J).2.1 this;exact W (o c c1 Z)
section
variable (hP : PD p d) (hG : ∀ f, f < p.nf → 2 ≤ p.rg f ∧ p.rg f ≤ 8) (h : dQ d m g w) (hS : eK p K s m ρ) (hR : Rn p s t) (hQ : qP p d s m g w ρ t tb fb n nr) (hK : K < 900000000)
include hP hG h hS hR hQ hK
theorem Mj(W:a<nr)(i:b<=8)(Y:b<256)(G:c<256)(Z:kL p s t a 0 (List.replicate b (0,0)) s'):Calls prog 194 #[P0 g.mb,.int .i64 (t:Int),.slice (some ⟨g.rb t n,0,none⟩) nr nr,jY 9 a b c] w λe w'=>∃v:Int,e=.returned (.int .i64 v)/\jW p d K s t m g w 0 s' v w':=by
 have o:=hS.A;have hB:=hS.B.1;refine zr (by omega) Y G (λw1 y=>(JR i (h.kept y) (hS.kX hR.ok hP hG hK (by have:=hR.ht.1;have:=hR.ht.2;omega)) hQ.dt hQ.hi hQ.r1 W ⟨by have:=o.1;omega,by have:=o.2.1;omega,by have:=o.2.2;omega⟩).mono ?_);rintro e w' ⟨v,rfl,H⟩;have e:(List.replicate b ((0,0):B.V)).map (tr ρ)=List.replicate b (0,0):=by rw[List.map_replicate,sm]
 exact⟨v,rfl,(BI.LV hP hS hR (hQ.kept h y) (l:=List.replicate b (0,0)) (λe=>ch rfl e) (by rw[ik];exact i) (λv J=>by rw[(List.mem_replicate.1 J).2];exact dN.num 0) Z (by rw[e];exact H)).ahead y⟩
theorem Lj(Y:a<nr)(i:c<nr)(G:b<256)(H:c<256)(Z:kL p s t a (b+1) [(bw s t).R c] s'):Calls prog 194 #[P0 g.mb,.int .i64 (t:Int),.slice (some ⟨g.rb t n,0,none⟩) nr nr,jY 12 a b c] w λe w'=>∃v:Int,e=.returned (.int .i64 v)/\jW p d K s t m g w 0 s' v w':=by
 have o:=hS.A;have hB:=hS.B.1;refine zr (by omega) G H (λw1 y=>(JA i (hQ.V c i) G (h.kept y) (hS.kX hR.ok hP hG hK (by have:=hR.ht.1;have:=hR.ht.2;omega)) hQ.dt hQ.hi hQ.r1 Y ⟨by have:=o.1;omega,by have:=o.2.1;omega,by have:=o.2.2;omega⟩).mono ?_);rintro e w' ⟨v,rfl,J⟩;exact⟨v,rfl,(BI.LV hP hS hR (hQ.kept h y) (l:=[(bw s t).R c]) (λ_ e=>by cases e) (by show 1<=8;omega) (λv W=>by rw[dL.1 W];exact hR.oq (by rw[hQ.r2];exact i)) Z J).ahead y⟩
end
