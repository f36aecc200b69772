import Derived.Test.YtnjiinbhbjpfkaaGreatDoorTe
set_option maxRecDepth 100000
set_option maxHeartbeats 0
set_option linter.all false
namespace Go.Proofs.YtnjiinbhbjpfkaaGreatDoor
open Go.RowKit Go.Proofs.Tryz
namespace D
open F
variable {p:Dp}{m m':Dm}{g g':Dg}{w w':aa}
def Tryz.Hd:(prog.info? 167).map (λi=>(i.zero,i.size,i.bytes))=some (some (.agg #[.slice none 0 0,aj 0,aj 0,aj 0,aj 0,aj 0,aj 0,aj 0]),8,80):=by kernel_rfl
def Tryz.underlying106:prog.underlying 106=some (.slice 167):=by kernel_rfl
def zx(m:Dm)(g g1:Dg):Prop:=(∀t i,t<=m.nt->g1.rb t i=g.rb t i)/\g1.sb=g.sb
theorem Gj{b tb tc:Nat}{o2:Obj}{w2 w6 W:aa}{f:jc}{x:Dt}(h:dZ p m g w)(Z:w.grownBy w2 none)(hx:x.fr=[f])(hV:Full w2 b 115 (p.rg f.f*2) (p.rg f.f*2) (eQ f.R))(hb:w.heap.size<=b)(ho:w6.ownsRow 0 167 8 (dA tb (m.nt+1) tc) (m.nt+1) (rowP (m.nt*8) (tE m g)++[dA w2.heap.size 1 1,jk x.how,jk x.into,jk x.what,jk x.lH,jk x.jw,jk x.out.1,jk x.out.2]))(o:W.grownBy w6 (Value.slice (g.ro 1 0).1 m.nt (g.ro 1 0).2).ownBlock)(a6:lR W.heap.size (.slice (g.ro 1 0).1 m.nt (g.ro 1 0).2) (dA tb (m.nt+1) tc))(hW:W.heap=((w2.alloc (.cells #[fC p f b 0,fC p f b 1,fC p f b 2,fC p f b 3] 163)).alloc o2).heap)(J:W.os=w2.os/\W.tape=w2.tape/\W.output=w2.output): ∃g1,Tr p m g w (m.kP x) g1 (w6.setCell (ay g.mb 6) (dA tb (m.nt+1) tc))/\zx m g g1:=by
 have h2:=h.kept Z;have a2:(Value.slice (g.ro 1 0).1 m.nt (g.ro 1 0).2).ownBlock=fi (g.ro 1 0).1:=dF _ _ _;rw[a2]at o;have a9:W.heap.size=w2.heap.size+2:=by rw[hW];simp
 have u:∀k,fi (g.ro 1 0).1=some k->k<w.heap.size/\k≠g.mb:=λk H=>⟨h.lt ⟨1,0,0,H⟩,h.ne (x:=1) (y:=0) (z:=0) (x':=0) (y':=0) (z':=0) rfl rfl H rfl ag⟩;have aA:=Z.size;have Y:∀k,k<w2.heap.size->fi (g.ro 1 0).1≠some k->w6.heap[k]? = w2.heap[k]?:=λk H hn=>by
  rw[o.block k ag (λe=>hn e.symm),hW,av _ _ _ fH,av _ _ _ H]
 have a7:w6.heap[w2.heap.size]? = some (.cells #[fC p f b 0,fC p f b 1,fC p f b 2,fC p f b 3] 163 (0,0)):=by
  rw[o.block w2.heap.size ag (λe=>by grind),hW,av _ _ _ eB];exact bl _ _
 have a5:g.mb<w2.heap.size:=h2.M.lt;have a0:=h2.M.block (Y g.mb a5 (λe=>(u _ e).2 rfl))
 have a1:=hV.block (Y b hV.lt (λe=>by grind));have G:fi (g.ro 1 0).1=some tb\/W.heap.size<=tb:=by
  rcases a6 with e|⟨b',e1,e2⟩
  .left
   rw[<-a2,<-e];rfl
  right
  have:tb=b':=by injection e1
  omega
 have a4:tb≠g.mb:=by
  rcases G with e|e
  .grind
  omega
 refine⟨_,h.kP hx (kb:=w2.heap.size) (vb:=b) (tb:=tb) (tc:=tc) (f:=f) (bp (S:=λk=>k=g.mb\/fi (g.ro 1 0).1=some k) (a:=ay g.mb 6) ⟨o.os.trans (J.1.trans Z.os),o.tape.trans (J.2.1.trans Z.tape),o.output.trans (J.2.2.trans Z.output),eR,λk H hn=>(Y k ag (λe=>hn (ah e))).trans (Z.block k H eR)⟩ (af (af rfl)) _) (a0.eC 6 _) ?_ ?_ ?_ (G.imp id (λe=>by omega)) ag hb ?_ ?_ ?_,λt i ht=>qO _ _ (λe=>by omega),rfl⟩
 .grind[dQ,Below.heap_setCell,Value.ownBlock]
 .grind[Full,fC,oU,Full.off]
 .grind[decide,Full.off,Full.ne]
 .have:=hV.lt;omega
 .grind
 grind[Full.lt]
theorem DP{f:Nat}{u v:B.V}(h:dZ p m g w)(hf:f<p.nf)(hr:2<=p.rg f)(aT:p.rg f<=8)(hn:m.nt<1000000000)(hq:m.q.length<=1000000000): dD 47 #[P0 g.mb,aj f,vA u,vA v] w (aj ((m.nt:Int)+1)) λw'=>∃g',Tr p m g w (m.born f u v) g' w'/\zx m g g':=by
 obtain⟨i0,hi,aL,aE,aC⟩:=info_parts Tryz.Hd;obtain⟨j0,i,aU,aM,aV⟩:=info_parts Tryz.sr;have c0:w.cell? (ay g.mb 0)=some (dA p.gb p.nf p.gc):=(h.mc 0 ag rfl).1;have hP:=h.P.2.2;have c1:w.cell? (ay p.gb (f*2))=some (aj (p.rg f:Int)):=by
  rw[hP.cell (f*2) ag];unfold Md;rw[mm,show f*2 / 2=f by omega]
 have lm:g.mb<w.heap.size:=h.M.lt;have HR:=bj h;have a5:Hid (∀w1,w.grownBy w1 none->Calls prog 74 #[P0 g.mb,aj f,vA u,vA v,aj 0] w1 λe w'=>∃b,e=.returned (.agg #[aj f,dA b (p.rg f) (p.rg f),aj 0,aj 0])/\w1.heap.size<=b/\Full w' b 115 (p.rg f*2) (p.rg f*2) (eQ (ig u v))/\w1.grownBy w' none):=λw1 W=>ze ((bd W (a:=ay g.mb 0) lm).1.trans c0) ((bd W (a:=ay p.gb (f*2)) hP.lt).1.trans c1) hf hr aT;obtain⟨u1,u2⟩:=u;obtain⟨v1,v2⟩:=v;clear h hP c0 c1;delta dD;go_in;go_wp2_with fail
 refine(a5 _ (ax (ax (aw _ _) _) _)).mono ?_;rintro e w1 ⟨b,rfl,hb,hV,W⟩;have hg:w.grownBy w1 none:=ar (ax (ax (aw _ _) _) _) W;have aQ:w.heap.size<=b:=by simp at hb;omega
 have HV:=bj hV;have HG:=bj hg;clear hV W hb a5;go_wp2_with fail
 have KG:Hid (w.grownBy (w1.alloc (.cells #[aj f,dA b (p.rg f) (p.rg f),aj 0,aj 0] 163)) none):=ax HG _;have Y:=bl w1 (.cells #[aj f,dA b (p.rg f) (p.rg f),aj 0,aj 0] 163);have aB:Hid (Full (w1.alloc (.cells #[aj f,dA b (p.rg f) (p.rg f),aj 0,aj 0] 163)) b 115 (p.rg f*2) (p.rg f*2) (eQ (ig (u1,u2) (v1,v2)))):=HV.block (av _ _ _ HV.lt);have aW:w1.heap.size<(w1.alloc (.cells #[aj f,dA b (p.rg f) (p.rg f),aj 0,aj 0] 163)).heap.size:=eB
 generalize w1.alloc (.cells #[aj f,dA b (p.rg f) (p.rg f),aj 0,aj 0] 163)=w2 at *;have x0:w2.cell? (ay w1.heap.size 0)=some (aj f):=fy Y
 have x1:w2.cell? (ay w1.heap.size 1)=some (dA b (p.rg f) (p.rg f)):=fy Y
 have x2:w2.cell? (ay w1.heap.size 2)=some (aj 0):=fy Y
 have x3:w2.cell? (ay w1.heap.size 3)=some (aj 0):=fy Y
 have Z:=bj (HR.kept KG);obtain⟨c6,z6⟩:=Z.mc 6 ag (v:=.slice (g.ro 1 0).1 m.nt (g.ro 1 0).2) rfl;have a6:=Z.M.lt;have HT:Hid (w2.ownsRow 0 167 8 (.slice (g.ro 1 0).1 m.nt (g.ro 1 0).2) m.nt (rowP (m.nt*8) (tE m g))):=Z.Tw;have a0:Hid (∀k,(Value.slice (g.ro 1 0).1 m.nt (g.ro 1 0).2).ownBlock=some k->k≠g.mb/\k<w2.heap.size):=λk hk=>⟨eU HT Z.M ek k hk,(dP HT k hk).2.1⟩;clear Y aW;go_cut [] (λwx=>Hid (∃g1,Tr p m g w (m.kP ⟨[⟨f,0,ig (u1,u2) (v1,v2),(0,0,0,0)⟩],1,0,0,0,0,(0,0)⟩) g1 wx/\zx m g g1))
 case first=>
  go_region_law (refine fD _ rfl (.tmp 19) (.tmp 23) 106 rfl 167 i0 _ 8 80 Tryz.underlying106 hi aL aE aC rfl ek (g.ro 1 0).1 m.nt (g.ro 1 0).2 (rowP (m.nt*8) (tE m g)) mB (dQ HT (λk h=>(av _ _ _ (by have:=(a0 k h).2;simp;omega)).trans (av _ _ _ (a0 k h).2))) (ay (w2.heap.size+1) 0) 1 1 [dA w2.heap.size 1 1,aj 1,aj 0,aj 0,aj 0,aj 0,aj 0,aj 0] mB rfl (by intro j u i;match j,i with|0,i=>(simp at i;subst i;simp[Addr.add,go_sem])|1,i=>(simp at i;subst i;simp[Addr.add,go_sem])|2,i=>(simp at i;subst i;simp[Addr.add,go_sem])|3,i=>(simp at i;subst i;simp[Addr.add,go_sem])|4,i=>(simp at i;subst i;simp[Addr.add,go_sem])|5,i=>(simp at i;subst i;simp[Addr.add,go_sem])|6,i=>(simp at i;subst i;simp[Addr.add,go_sem])|7,i=>(simp at i;subst i;simp[Addr.add,go_sem])) xI pY ag ek ?_;intro v' w6 ho G a7;obtain⟨tb,tc,rfl⟩:=ee ho ag;have aI:=bj ho;have a4:=bj G;have aG:=bj a7;have H:w6.heap[g.mb]? = w2.heap[g.mb]?:=((G.block g.mb (by first|(simp;omega)|simp) (λh=>(a0 _ h.symm).1 rfl)).trans ((av _ _ _ (by first|(simp;omega)|simp)).trans (av _ _ _ a6)));have d6:=(az (a:=ay g.mb 6) H).trans c6;have y6:=(dr (a:=ay g.mb 6) H).trans z6;clear H ho G a7)
  all_goals
   go_wp2_with fail
   go_meet
   case rel=>
    exact Gj (x:=⟨[⟨f,0,ig (u1,u2) (v1,v2),(0,0,0,0)⟩],1,0,0,0,0,(0,0)⟩) (f:=⟨f,0,ig (u1,u2) (v1,v2),(0,0,0,0)⟩) HR KG rfl aB.out aQ aI.out a4.out aG.out rfl ⟨rfl,rfl,rfl⟩
 case rest=>
  have o:=hcut;obtain⟨g1,J,a9⟩:=o.out;have aK:=bj a9;clear a9;obtain⟨aN,aH⟩:=J.r.mc 6 ag (v:=.slice (g1.ro 1 0).1 (m.nt+1) (g1.ro 1 0).2) rfl;obtain⟨c7,z7⟩:=J.r.mc 7 ag (v:=.slice (g1.ro 2 0).1 m.q.length (g1.ro 2 0).2) rfl;rw[J.b]at aN aH c7 z7;have HQ:Hid (gd wc 3 (.slice (g1.ro 2 0).1 m.q.length (g1.ro 2 0).2) (jJ m.q)):=J.r.Q;have a1:=bj J;have aD:g.mb<wc.heap.size:=by have:=J.r.M.lt;rw[J.b]at this;exact this
  have HK:Hid (∀k,(Value.slice (g1.ro 2 0).1 m.q.length (g1.ro 2 0).2).ownBlock=some k->k≠g.mb/\k<wc.heap.size):=λk hk=>by
   have aJ:fi (g1.ro 2 0).1=some k:=by rw[dF]at hk;exact hk
   refine⟨?_,HQ.out.lt k hk⟩;rw[<-a1.out.b];exact a1.out.r.ne (x:=2) (y:=0) (z:=0) (x':=0) (y':=0) (z':=0) rfl rfl aJ rfl ag
  have aY:=jC m.q;clear J hcut o c6 z6 HT a0 Z aB x0 x1 x2 x3 a6;go_wp2_with fail
  go_cut [] (λwx=>Hid (∃g2,Tr p m g w (m.born f (u1,u2) (v1,v2)) g2 wx/\zx m g g2))
  case first=>
   go_region_law (refine lI _ rfl (.tmp 31) (.tmp 37) 54 rfl 3 j0 _ 8 Tryz.jh i aU aM aV rfl _ (jJ m.q) mB (HQ.out.block (λk h=>av _ _ _ (HK.out k h).2)) (ay wc.heap.size 0) 1 (aj ((m.nt:Int)+1)) mB (by simp[Addr.add,go_sem]) rfl pY ag ?_;intro gb aX c' w6 aA G a3;have aF:=bj aA;have a4:=bj G;have aS:=bj a3;have H:w6.heap[g.mb]? = wc.heap[g.mb]?:=((G.block g.mb (by first|(simp;omega)|simp) (λh=>(HK.out _ h.symm).1 rfl)).trans (av _ _ _ aD));have d7:=(az (a:=ay g.mb 7) H).trans c7;have y7:=(dr (a:=ay g.mb 7) H).trans z7;clear H aA G a3)
   all_goals
    go_wp2_with fail
    go_meet
    case rel=>
     have hq:=aF.out;rw[jC]at hq;have h2:=Tr.sE (t:=m.nt+1) (a1.out.kept (bo (ak wc (.cells #[aj ((m.nt:Int)+1)] 3) none))) hq a4.out aS.out;rw[a1.out.b]at h2;exact⟨_,h2,aK.out⟩
  case rest=>
   have o:=hcut;obtain⟨g2,a2,a8⟩:=o.out;have aP:=bj a8;clear a8;obtain⟨d6,_⟩:=a2.r.mc 6 ag (v:=.slice (g2.ro 1 0).1 (m.nt+1) (g2.ro 1 0).2) rfl;rw[a2.b]at d6;have aR:=bj a2;clear a2 hcut o;go_wp2_with fail
   go_ret;exact⟨rfl,g2,aR.out,aP.out⟩
abbrev jn(op a b c:Nat):Value:=.agg #[.int .i64 (op:Int),.int .i64 (a:Int),.int .i64 (b:Int),.int .i64 (c:Int)]
theorem Jn{rb nr:Nat}{R:Nat->B.V}(h:Full w rb 115 (nr*2) (nr*2) (eQ R)){a:Nat}(o:a<nr):w.cell? (ay rb (a*2))=some (aj ((R a).1:Int))/\w.cell? (ay rb (a*2+1))=some (aj (R a).2)/\w.frozen? (ay rb (a*2))=false/\w.frozen? (ay rb (a*2+1))=false:=by
 obtain⟨c0,e⟩:=h.cells (a*2) ag;obtain⟨c1,i⟩:=h.cells (a*2+1) ag;unfold eQ at c0 c1;grind
def dZ.cc(h:dZ p m g w){c:Nat}(H:1<=c)(G:c<=m.nc):∃e,(g.ro 3 0).1=some ⟨e,0,none⟩/\e<w.heap.size/\w.cell? ⟨g.mb,12,none⟩=some (.slice (some ⟨e,0,none⟩) m.nc (g.ro 3 0).2)/\w.cell? ⟨e,(c-1)*2,none⟩=some (.slice (some ⟨g.sb c,0,none⟩) (m.M c).length (m.M c).length)/\w.cell? ⟨e,(c-1)*2+1,none⟩=some (aj ((m.ck c:Int)-1)):=by
 obtain⟨b,o,u,y,i⟩:=h.C ag;have k0:=i.cell ((c-1)*2) ag;have k1:=i.cell ((c-1)*2+1) ag;unfold cE at k0 k1;rw[bf ag,show(c-1)*2 / 2+1=c by omega]at k0;rw[au ag,show((c-1)*2+1) / 2+1=c by omega]at k1;refine⟨b,o,i.lt,?_,k0,k1⟩;rw[<-o];exact(h.mc 12 ag rfl).1
theorem ym{rb t i nr op a b c:Nat}{v1:Int}(J:b<nr)(r0:w.cell? (ay i (b*2))=some (aj 0))(W:w.cell? (ay i (b*2+1))=some (aj v1)): dD 227 #[P0 rb,aj t,dA i nr nr,jn op a b c] w (aj 4) λw'=>w.grownBy w' none:=by
 have G:i<w.heap.size:=an w _ r0;have y:(b:Int)<nr:=ag
 delta dD;go_in;go_wp2_with fail
 have u:Hid (w.grownBy ((w.alloc (.cells #[aj op,aj a,aj b,aj c] 90)).alloc (.cells #[aj 0,aj v1] 115)) none):=ax (ax (aw _ _) _) _;have H:dS ((w.alloc (.cells #[aj op,aj a,aj b,aj c] 90)).alloc (.cells #[aj 0,aj v1] 115)) (w.heap.size+1) 0=some (aj 0):=by simp[go_sem]
 generalize (w.alloc (.cells #[aj op,aj a,aj b,aj c] 90)).alloc (.cells #[aj 0,aj v1] 115)=w2 at *;go_quiet (fail)
 go_wp2
 go_ret;exact⟨rfl,df u _⟩
structure Ky(w:aa) (rb rr nr b c z cb nc cc sN sl:Nat) (v1 u1:Int) (x y:B.V):Prop where
 hb:b<nr
 hc:c<nr
 hz:z<nc
 hn:nc<1000000000
 r0:w.cell? ⟨rr,b*2,none⟩=some (.int .i64 ((z:Int)+1))
 r1:w.cell? ⟨rr,b*2+1,none⟩=some (.int .i64 v1)
 CF:w.cell? ⟨rb,12,none⟩=some (.slice (some ⟨cb,0,none⟩) nc cc)
 k0:w.cell? ⟨cb,z*2,none⟩=some (.slice (some ⟨sN,0,none⟩) sl sl)
 k1:w.cell? ⟨cb,z*2+1,none⟩=some (.int .i64 u1)
 lr:rr<w.heap.size
 lb:rb<w.heap.size
 lc:cb<w.heap.size
theorem yl{rb t o nr op a b c z cb H cc sN sl:Nat}{v1 G:Int}{x y:B.V}(h:Ky w rb o nr b c z cb H cc sN sl v1 G x y)(hu:G<0): dD 227 #[P0 rb,aj t,dA o nr nr,jn op a b c] w (aj 4) λw'=>w.grownBy w' none:=by
 obtain⟨hb,hc,hz,hn,W,r1,i,k0,k1,lr,Z,Y⟩:=h;have a0:(b:Int)<nr:=ag
 have q1:IntKind.i64.wrap ((z:Int)+1-1)=(z:Int):=fj ag;have q2:IntKind.i64.wrap (z:Int)=z:=iU
 have q3:(z:Int)<H:=ag
 have q4:(0:Int)<=z:=ag
 have q5:(((z:Int)+1) == 0)=false:=kr dX
 delta dD;go_in;go_wp2_with fail
 have u:Hid (w.grownBy ((w.alloc (.cells #[aj op,aj a,aj b,aj c] 90)).alloc (.cells #[aj ((z:Int)+1),aj v1] 115)) none):=ax (ax (aw _ _) _) _;have x0:dS ((w.alloc (.cells #[aj op,aj a,aj b,aj c] 90)).alloc (.cells #[aj ((z:Int)+1),aj v1] 115)) (w.heap.size+1) 0=some (aj ((z:Int)+1)):=by simp[go_sem]
 generalize (w.alloc (.cells #[aj op,aj a,aj b,aj c] 90)).alloc (.cells #[aj ((z:Int)+1),aj v1] 115)=w2 at *;have a1:=(bd u (a:=ay rb 12) Z).1.trans i;have d1:=(bd u (a:=ay cb (z*2+1)) Y).1.trans k1;go_quiet (fail)
 go_wp2
 go_ret;exact⟨rfl,df u _⟩
structure MY(w w2:aa) (rb rr op a b c z cb nc cc sN sl:Nat) (v1 u1:Int):Prop where
 g:w.grownBy w2 none
 i0:w2.cell? ⟨w.heap.size,0,none⟩=some (.int .i64 (op:Int))
 i1:w2.cell? ⟨w.heap.size,1,none⟩=some (.int .i64 (a:Int))
 i3:w2.cell? ⟨w.heap.size,3,none⟩=some (.int .i64 (c:Int))
 x0:w2.cell? ⟨w.heap.size+1,0,none⟩=some (.int .i64 ((z:Int)+1))
 d12:w2.cell? ⟨rb,12,none⟩=some (.slice (some ⟨cb,0,none⟩) nc cc)
 d0:w2.cell? ⟨cb,z*2,none⟩=some (.slice (some ⟨sN,0,none⟩) sl sl)
 d1:w2.cell? ⟨cb,z*2+1,none⟩=some (.int .i64 u1)
 s:w.heap.size+1<w2.heap.size
def MY.drewN{w2:aa}{rb e op a b c z cb u cc o sl:Nat}{v1 i:Int}(h:MY w w2 rb e op a b c z cb u cc o sl v1 i)(n:Nat):MY w (w2.drewN n) rb e op a b c z cb u cc o sl v1 i:=⟨df h.g n,h.i0,h.i1,h.i3,h.x0,h.d12,h.d0,h.d1,h.s⟩
theorem ND{rb i nr op a b c z cb u cc G sl:Nat}{v1 o:Int}{x y:B.V}(h:Ky w rb i nr b c z cb u cc G sl v1 o x y):MY w ((w.alloc (.cells #[aj op,aj a,aj b,aj c] 90)).alloc (.cells #[aj ((z:Int)+1),aj v1] 115)) rb i op a b c z cb u cc G sl v1 o:=by
 have e:w.grownBy ((w.alloc (.cells #[aj op,aj a,aj b,aj c] 90)).alloc (.cells #[aj ((z:Int)+1),aj v1] 115)) none:=ax (ax (aw _ _) _) _;exact⟨e,by simp[go_sem],by simp[go_sem],by simp[go_sem],by simp[go_sem],(bd e (a:=ay rb 12) h.lb).1.trans h.CF,(bd e (a:=ay cb (z*2)) h.lc).1.trans h.k0,(bd e (a:=ay cb (z*2+1)) h.lc).1.trans h.k1,eB⟩
def MX(w2 wx:aa)(X sN sl:Nat)(u1:Int):Prop:=w2.grownBy wx none/\wx.cell? ⟨X,0,none⟩=some (.slice (some ⟨sN,0,none⟩) sl sl)/\wx.cell? ⟨X,1,none⟩=some (.int .i64 u1)/\w2.heap.size<=X
theorem NC(e:aa)(o sl:Nat)(i:Int):MX e ((e.alloc (.cells #[dA o sl sl,aj i] 233)).drew) e.heap.size o sl i:=
 ⟨bo (ak _ _ none),(by simp[go_sem]),(by simp[go_sem]),bq _⟩
def Tryz.He:(prog.info? 163).map (λi=>(i.zero,i.size,i.bytes))=some (some (.agg #[aj 0,.slice none 0 0,aj 0,aj 0]),4,48):=by kernel_rfl
def Tryz.underlying165:prog.underlying 165=some (.slice 163):=by kernel_rfl
theorem Jt{t b tb kb ck:Nat}{o2:Obj}{w2 w6 W:aa}{f:jc}(h:dZ p m g w)(ht:mY m t)(hb:g.ro 1 0=(some (ay tb 0),(g.ro 1 0).2))(hg:w.grownBy w2 none)(hV:Full w2 b 115 (p.rg f.f*2) (p.rg f.f*2) (eQ f.R))(a5:w.heap.size<=b)(ho:w6.ownsRow 0 163 4 (dA kb ((m.T t).fr.length+1) ck) ((m.T t).fr.length+1) (rowP ((m.T t).fr.length*4) (fE p m g t)++[fC p f b 0,fC p f b 1,fC p f b 2,fC p f b 3]))(o:W.grownBy w6 (Value.slice (g.ro 5 t).1 (m.T t).fr.length (g.ro 5 t).2).ownBlock)(a6:lR W.heap.size (.slice (g.ro 5 t).1 (m.T t).fr.length (g.ro 5 t).2) (dA kb ((m.T t).fr.length+1) ck))(hW:W.heap=(w2.alloc o2).heap)(Y:W.os=w2.os/\W.tape=w2.tape/\W.output=w2.output): ∃g1,Tr p m g w (m.push t f) g1 (w6.setCell (ay tb ((t-1)*8)) (dA kb ((m.T t).fr.length+1) ck)):=by
 have:=ht.1;have:=ht.2;have a2:(Value.slice (g.ro 5 t).1 (m.T t).fr.length (g.ro 5 t).2).ownBlock=fi (g.ro 5 t).1:=dF _ _ _;rw[a2]at o;have a8:W.heap.size=w2.heap.size+1:=by rw[hW];simp
 obtain⟨u,i,h1,a7,h3⟩:=(h.kept hg).T ag;have a4:u=tb:=by rw[hb]at i;injection i with i;injection i with i _;exact i.symm
 subst a4;have v5:=rP (p:=p) (m:=m) ht.1 ht.2;have G:∀k,fi (g.ro 5 t).1=some k->k<w.heap.size/\k≠u:=λk H=>⟨h.lt ⟨5,t,0,by rw[ie v5];exact H⟩,h.ne (x:=5) (y:=t) (z:=0) (x':=1) (y':=0) (z':=0) v5 rfl H ((CZ p m hb u).2 rfl) ag⟩;have a9:=hg.size;have Z:∀k,k<w2.heap.size->fi (g.ro 5 t).1≠some k->w6.heap[k]? = w2.heap[k]?:=λk H hn=>by
  rw[o.block k ag (λe=>hn e.symm),hW,av _ _ _ H]
 have a0:=h3.block (Z u h3.lt (λe=>(G _ e).2 rfl));have a1:=hV.block (Z b hV.lt (λe=>by grind));have J:fi (g.ro 5 t).1=some kb\/W.heap.size<=kb:=by
  rcases a6 with e|⟨u,e1,e2⟩
  .left
   rw[<-a2,<-e];rfl
  right
  have:kb=u:=by injection e1
  omega
 have aA:=h.lt ⟨1,0,0,(CZ p m hb u).2 rfl⟩;have a3:kb≠u:=by
  rcases J with e|e
  .grind
  omega
 refine⟨_,h.push ht (tb:=u) (kb:=kb) (ck:=ck) (vb:=b) (f:=f) hb (bp (S:=λk=>k=u\/fi (g.ro 5 t).1=some k) (a:=ay u ((t-1)*8)) ⟨o.os.trans (Y.1.trans hg.os),o.tape.trans (Y.2.1.trans hg.tape),o.output.trans (Y.2.2.trans hg.output),gp o.size,λk H hn=>(Z k ag (λe=>hn (ah e))).trans (hg.block k H eR)⟩ (af (af rfl)) _) (a0.eC _ _) ?_ ?_ (J.imp id (λe=>by omega)) a5 ?_⟩
 .grind[dQ,Below.heap_setCell,Value.ownBlock]
 .grind[decide,Full.off,Full.ne]
 grind[Full.lt]
def N0(wc wx:aa)(Y b f into nr:Nat)(x y:B.V):Prop:=wc.grownBy wx none/\wx.heap[Y]? = some (.cells #[.int .i64 (f:Int),.slice (some ⟨b,0,none⟩) nr nr,.int .i64 0,.int .i64 (into:Int)] 163 (0,0))/\wc.heap.size<=b/\wc.heap.size<=Y/\Full wx b 115 (nr*2) (nr*2) (eQ (ig x y))
def NB{wc e:aa}{b f into nr:Nat}{x y:B.V}(o:wc.grownBy e none)(i:Full e b 115 (nr*2) (nr*2) (eQ (ig x y)))(u:wc.heap.size<=b):N0 wc (e.alloc (.cells #[aj f,dA b nr nr,aj 0,aj into] 163)) e.heap.size b f into nr x y:=
 ⟨ax o _,bl _ _,u,o.size,i.block (av _ _ _ i.lt)⟩
def NA{wc e:aa}{b f into nr:Nat}{x y:B.V}(u:wc.grownBy e none)(i:Full e b 115 (nr*2) (nr*2) (eQ (ig x y)))(G:wc.heap.size+1<=b)(o:e.heap[wc.heap.size]? = some (.cells #[aj 0,.slice none 0 0,aj 0,aj 0] 163 (0,0))):N0 wc ((((e.setCell (ay wc.heap.size 0) (aj f)).setCell (ay wc.heap.size 1) (dA b nr nr)).setCell (ay wc.heap.size 2) (aj 0)).setCell (ay wc.heap.size 3) (aj into)) wc.heap.size b f into nr x y:=by
 refine⟨bu (bu (bu (bu u (ah (bq _)) _) (ah (bq _)) _) (ah (bq _)) _) (ah (bq _)) _,?_,ag,bq _,(((i.off ag).off ag).off ag).off ag⟩;simp[World.setCell,dh,o]
