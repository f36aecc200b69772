import Derived.Test.YtnjiinbhbjpfkaaGreatDoorAX
set_option maxRecDepth 100000
set_option maxHeartbeats 0
set_option linter.all false
namespace Go.Proofs.YtnjiinbhbjpfkaaGreatDoor
open Go.RowKit Go.Proofs.Tryz
namespace D
open F
variable {p:Dp}{m m':Dm}{g g':Dg}{w w':aa}
def Tryz.IJ:(prog.info? 167).map (λi=>(i.zero,i.size,i.bytes))=some (some<|.agg #[.slice none 0 0,ah 0,ah 0,ah 0,ah 0,ah 0,ah 0,ah 0],8,80):=by kernel_rfl
def Tryz.underlying106:prog.underlying 106=some (.slice 167):=by kernel_rfl
def Ag(m:Dm)(g g1:Dg):Prop:=(∀t i,t<=m.nt->g1.rb t i=g.rb t i)/\g1.sb=g.sb
theorem Hg{b tb tc:Nat}{o2:Obj}{w2 w6 W:aa}{f:jq}{x:Dt}(h:dZ p m g w)(Z:w.grownBy w2 none)(hx:x.fr=[f])(hV:Full w2 b 115 (p.rg f.f*2) (p.rg f.f*2) (eR f.R))(hb:w.heap.size<=b)(ho:w6.ownsRow 0 167 8 (dD tb (m.nt+1) tc) (m.nt+1) (rowP (m.nt*8) (tE m g)++[dD w2.heap.size 1 1,jz x.how,jz x.into,jz x.what,jz x.me,jz x.jI,jz x.out.1,jz x.out.2]))(o:W.grownBy w6 (Value.slice (g.ro 1 0).1 m.nt (g.ro 1 0).2).ownBlock)(a6:mu W.heap.size (.slice (g.ro 1 0).1 m.nt (g.ro 1 0).2) (dD tb (m.nt+1) tc))(hW:W.heap=((w2.alloc<|.cells #[fC p f b 0,fC p f b 1,fC p f b 2,fC p f b 3] 163).alloc o2).heap)(J:W.os=w2.os/\W.tape=w2.tape/\W.output=w2.output):∃g1,Tr p m g w (m.lF x) g1 (w6.setCell (az g.mb 6)<|dD tb (m.nt+1) tc)/\Ag m g g1:=by
 have h2:=h.kept Z;have a2:(Value.slice (g.ro 1 0).1 m.nt (g.ro 1 0).2).ownBlock=fk (g.ro 1 0).1:=dJ _ _ _;rw[a2]at o;have a9:W.heap.size=w2.heap.size+2:=by rw[hW];simp
 have u:∀k,fk (g.ro 1 0).1=some k->k<w.heap.size/\k≠g.mb:=λk H=>⟨h.lt ⟨1,0,0,H⟩,h.ne (x:=1) (y:=0) (z:=0) (x':=0) (y':=0) (z':=0) rfl rfl H rfl af⟩;have aA:=Z.size;have Y:∀k,k<w2.heap.size->fk (g.ro 1 0).1≠some k->w6.heap[k]?=w2.heap[k]?:=λk H hn=>by
  rw[o.block k af<|λe=>hn e.symm,hW,au _ _ _ fV,au _ _ _ H]
 have a7:w6.heap[w2.heap.size]?=ny #[fC p f b 0,fC p f b 1,fC p f b 2,fC p f b 3] 163:=by
  rw[o.block w2.heap.size af (λe=>by grind),hW,au _ _ _ eG];exact bl _ _
 have a5:g.mb<w2.heap.size:=h2.M.lt;have a0:=h2.M.block<|Y g.mb a5<|λe=>(u _ e).2 rfl
 have a1:=hV.block<|Y b hV.lt (λe=>by grind);have G:fk (g.ro 1 0).1=some tb\/W.heap.size<=tb:=by
  rcases a6 with e|⟨b',e1,e2⟩
  .left
   rw[<-a2,<-e];rfl
  right
  have:tb=b':=by injection e1
  omega
 have a4:tb≠g.mb:=by
  rcases G with e|e
  .grind
  omega
 refine⟨_,h.lF hx (kb:=w2.heap.size) (vb:=b) (tb:=tb) (tc:=tc) (f:=f) (bq (S:=λk=>k=g.mb\/fk (g.ro 1 0).1=some k) (a:=az g.mb 6) ⟨o.os.trans<|J.1.trans Z.os,o.tape.trans<|J.2.1.trans Z.tape,o.output.trans<|J.2.2.trans Z.output,ey,λk H hn=>(Y k af<|λe=>hn<|ak e).trans<|Z.block k H ey⟩ (ag<|ag rfl) _) (a0.eE 6 _) ?_ ?_ ?_ (G.imp id<|λe=>by omega) af hb ?_ ?_ ?_,λt i ht=>rz _ _ (λe=>by omega),rfl⟩
 .grind[dS,Below.heap_setCell,Value.ownBlock]
 .grind[Full,fC,pS,Full.off]
 .grind[decide,Full.off,Full.ne]
 .have:=hV.lt;omega
 .grind
 grind[Full.lt]
theorem Ez{f:Nat}{u v:B.V}(h:dZ p m g w)(hf:f<p.nf)(hr:2<=p.rg f)(aT:p.rg f<=8)(hn:m.nt<1000000000)(hq:m.q.length<=1000000000):dC 47 #[P0 g.mb,ah f,vA u,vA v] w (ah<|(m.nt:Int)+1) λw'=>∃g',Tr p m g w (m.born f u v) g' w'/\Ag m g g':=by
 let⟨i0,hi,aL,aE,aC⟩:=info_parts Tryz.IJ;let⟨j0,i,aU,aM,aV⟩:=info_parts Tryz.th;have c0:w.cell? (az g.mb 0)=some (dD p.gb p.nf p.gc):=(h.mc 0 af rfl).1;have hP:=h.P.2.2;have c1:w.cell? (az p.gb<|f*2)=some (ah (p.rg f:Int)):=by
  rw[hP.cell (f*2) af];unfold Na;rw[mL,show f*2/2=f by omega]
 have lm:g.mb<w.heap.size:=h.M.lt;have HR:=bj h;have a5:Hid (∀w1,w.grownBy w1 none->Calls prog 74 #[P0 g.mb,ah f,vA u,vA v,ah 0] w1 λe w'=>∃b,e=.returned (.agg #[ah f,dD b (p.rg f)<|p.rg f,ah 0,ah 0])/\w1.heap.size<=b/\Full w' b 115 (p.rg f*2) (p.rg f*2) (eR<|iz u v)/\w1.grownBy w' none):=λw1 W=>zR ((ay W (a:=az g.mb 0) lm).1.trans c0) ((ay W (a:=az p.gb<|f*2) hP.lt).1.trans c1) hf hr aT;obtain⟨u1,u2⟩:=u;obtain⟨v1,v2⟩:=v;clear h hP c0 c1;delta dC;go_in;go_wp2_with fail
 refine(a5 _<|ax (ax (aw _ _) _) _).mono ?_;rintro e w1 ⟨b,rfl,hb,hV,W⟩;have hg:w.grownBy w1 none:=ar (ax (ax (aw _ _) _) _) W;have aQ:w.heap.size<=b:=by simp at hb;omega
 have HV:=bj hV;have HG:=bj hg;clear hV W hb a5;go_wp2_with fail
 have KG:Hid (w.grownBy (w1.alloc<|.cells #[ah f,dD b (p.rg f)<|p.rg f,ah 0,ah 0] 163) none):=ax HG _;have Y:=bl w1<|.cells #[ah f,dD b (p.rg f)<|p.rg f,ah 0,ah 0] 163;have aB:Hid (Full (w1.alloc<|.cells #[ah f,dD b (p.rg f)<|p.rg f,ah 0,ah 0] 163) b 115 (p.rg f*2) (p.rg f*2)<|eR<|iz (u1,u2) (v1,v2)):=HV.block<|au _ _ _ HV.lt;have aW:w1.heap.size<(w1.alloc<|.cells #[ah f,dD b (p.rg f)<|p.rg f,ah 0,ah 0] 163).heap.size:=eG
 generalize w1.alloc (.cells #[ah f,dD b (p.rg f)<|p.rg f,ah 0,ah 0] 163)=w2 at*;have x0:w2.cell? (az (fp w1) 0)=some (ah f):=fj Y
 have x1:w2.cell? (az (fp w1) 1)=some (dD b (p.rg f)<|p.rg f):=fj Y
 have x2:w2.cell? (az (fp w1) 2)=some (ah 0):=fj Y
 have x3:w2.cell? (az (fp w1) 3)=some (ah 0):=fj Y
 have Z:=bj<|HR.kept KG;let⟨c6,z6⟩:=Z.mc 6 af (v:=.slice (g.ro 1 0).1 m.nt (g.ro 1 0).2) rfl;have a6:=Z.M.lt;have HT:Hid (w2.ownsRow 0 167 8 (.slice (g.ro 1 0).1 m.nt (g.ro 1 0).2) m.nt<|rowP (m.nt*8)<|tE m g):=Z.Tw;have a0:Hid (∀k,(Value.slice (g.ro 1 0).1 m.nt (g.ro 1 0).2).ownBlock=some k->k≠g.mb/\k<w2.heap.size):=λk hk=>⟨eU HT Z.M eo k hk,(dR HT k hk).2.1⟩;clear Y aW;go_cut[] (λwx=>Hid<|∃g1,Tr p m g w (m.lF ⟨[⟨f,0,iz (u1,u2) (v1,v2),(0,0,0,0)⟩],1,0,0,0,0,(0,0)⟩) g1 wx/\Ag m g g1)
 case first=>
  go_region_law (refine fH _ rfl (.tmp 19) (.tmp 23) 106 rfl 167 i0 _ 8 80 Tryz.underlying106 hi aL aE aC rfl eo (g.ro 1 0).1 m.nt (g.ro 1 0).2 (rowP (m.nt*8)<|tE m g) mS (dS HT<|λk h=>(au _ _ _ (by have:=(a0 k h).2;simp;omega)).trans<|au _ _ _ (a0 k h).2) (az (w2.heap.size+1) 0) 1 1 [dD (fp w2) 1 1,ah 1,ah 0,ah 0,ah 0,ah 0,ah 0,ah 0] mS rfl (by intro j u i;match j,i with|0,i=>(simp at i;subst i;simp[Addr.add,go_sem])|1,i=>(simp at i;subst i;simp[Addr.add,go_sem])|2,i=>(simp at i;subst i;simp[Addr.add,go_sem])|3,i=>(simp at i;subst i;simp[Addr.add,go_sem])|4,i=>(simp at i;subst i;simp[Addr.add,go_sem])|5,i=>(simp at i;subst i;simp[Addr.add,go_sem])|6,i=>(simp at i;subst i;simp[Addr.add,go_sem])|7,i=>(simp at i;subst i;simp[Addr.add,go_sem])) yv pY af eo ?_;intro v' w6 ho G a7;obtain⟨tb,tc,rfl⟩:=ef ho af;have aI:=bj ho;have a4:=bj G;have aG:=bj a7;have H:w6.heap[g.mb]?=w2.heap[g.mb]?:=((G.block g.mb (by first|(simp;omega)|simp)<|λh=>(a0 _ h.symm).1 rfl).trans<|(au _ _ _<|by first|(simp;omega)|simp).trans<|au _ _ _ a6);have d6:=(bd (a:=az g.mb 6) H).trans c6;have y6:=(dv (a:=az g.mb 6) H).trans z6;clear H ho G a7)
  all_goals
   go_wp2_with fail
   go_meet
   case rel=>
    exact Hg (x:=⟨[⟨f,0,iz (u1,u2) (v1,v2),(0,0,0,0)⟩],1,0,0,0,0,(0,0)⟩) (f:=⟨f,0,iz (u1,u2) (v1,v2),(0,0,0,0)⟩) HR KG rfl aB.out aQ aI.out a4.out aG.out rfl ⟨rfl,rfl,rfl⟩
 case rest=>
  have o:=hcut;let⟨g1,J,a9⟩:=o.out;have aK:=bj a9;clear a9;let⟨aN,aH⟩:=J.r.mc 6 af (v:=.slice (g1.ro 1 0).1 (m.nt+1) (g1.ro 1 0).2) rfl;let⟨c7,z7⟩:=J.r.mc 7 af (v:=.slice (g1.ro 2 0).1 m.q.length (g1.ro 2 0).2) rfl;rw[J.b]at aN aH c7 z7;have HQ:Hid (gj wc 3 (.slice (g1.ro 2 0).1 m.q.length (g1.ro 2 0).2)<|ke m.q):=J.r.Q;have a1:=bj J;have aD:g.mb<wc.heap.size:=by have:=J.r.M.lt;rw[J.b]at this;exact this
  have HK:Hid (∀k,(Value.slice (g1.ro 2 0).1 m.q.length (g1.ro 2 0).2).ownBlock=some k->k≠g.mb/\k<wc.heap.size):=λk hk=>by
   have aJ:fk (g1.ro 2 0).1=some k:=by rw[dJ]at hk;exact hk
   refine⟨?_,HQ.out.lt k hk⟩;rw[<-a1.out.b];exact a1.out.r.ne (x:=2) (y:=0) (z:=0) (x':=0) (y':=0) (z':=0) rfl rfl aJ rfl af
  have aY:=jM m.q;clear J hcut o c6 z6 HT a0 Z aB x0 x1 x2 x3 a6;go_wp2_with fail
  go_cut[] (λwx=>Hid<|∃g2,Tr p m g w (m.born f (u1,u2) (v1,v2)) g2 wx/\Ag m g g2)
  case first=>
   go_region_law (refine mf _ rfl (.tmp 31) (.tmp 37) 54 rfl 3 j0 _ 8 Tryz.jw i aU aM aV rfl _ (ke m.q) mS (HQ.out.block<|λk h=>au _ _ _ (HK.out k h).2) (az (fp wc) 0) 1 (ah<|(m.nt:Int)+1) mS (by simp[Addr.add,go_sem]) rfl pY af ?_;intro gb aX c' w6 aA G a3;have aF:=bj aA;have a4:=bj G;have aS:=bj a3;have H:w6.heap[g.mb]?=wc.heap[g.mb]?:=((G.block g.mb (by first|(simp;omega)|simp)<|λh=>(HK.out _ h.symm).1 rfl).trans<|au _ _ _ aD);have d7:=(bd (a:=az g.mb 7) H).trans c7;have y7:=(dv (a:=az g.mb 7) H).trans z7;clear H aA G a3)
   all_goals
    go_wp2_with fail
    go_meet
    case rel=>
     have hq:=aF.out;rw[jM]at hq;have h2:=Tr.tv (t:=m.nt+1) (a1.out.kept<|bo<|aj wc (.cells #[ah<|(m.nt:Int)+1] 3) none) hq a4.out aS.out;rw[a1.out.b]at h2;exact⟨_,h2,aK.out⟩
  case rest=>
   have o:=hcut;let⟨g2,a2,a8⟩:=o.out;have aP:=bj a8;clear a8;let⟨d6,_⟩:=a2.r.mc 6 af (v:=.slice (g2.ro 1 0).1 (m.nt+1) (g2.ro 1 0).2) rfl;rw[a2.b]at d6;have aR:=bj a2;clear a2 hcut o;go_wp2_with fail
   go_ret;exact⟨rfl,g2,aR.out,aP.out⟩
abbrev jC(op a b c:Nat):Value:=.agg #[.int .i64 (op:Int),.int .i64 (a:Int),.int .i64 (b:Int),.int .i64 (c:Int)]
theorem Kh{rb nr:Nat}{R:Nat->B.V}(h:Full w rb 115 (nr*2) (nr*2) (eR R)){a:Nat}(o:a<nr):w.cell? (az rb<|a*2)=some (ah ((R a).1:Int))/\w.cell? (az rb<|a*2+1)=some (ah (R a).2)/\w.frozen? (az rb<|a*2)=false/\w.frozen? (az rb<|a*2+1)=false:=by
 let⟨c0,e⟩:=h.cells (a*2) af;let⟨c1,i⟩:=h.cells (a*2+1) af;unfold eR at c0 c1;grind
theorem dZ.cc(h:dZ p m g w){c:Nat}(H:1<=c)(G:c<=m.nc):∃e,(g.ro 3 0).1=some ⟨e,0,none⟩/\e<w.heap.size/\w.cell? ⟨g.mb,12,none⟩=some (.slice (some ⟨e,0,none⟩) m.nc (g.ro 3 0).2)/\w.cell? ⟨e,(c-1)*2,none⟩=some (.slice (some ⟨g.sb c,0,none⟩) (m.M c).length (m.M c).length)/\w.cell? ⟨e,(c-1)*2+1,none⟩=some (ah<|(m.ck c:Int)-1):=by
 let⟨b,o,u,y,i⟩:=h.C af;have k0:=i.cell ((c-1)*2) af;have k1:=i.cell ((c-1)*2+1) af;unfold cE at k0 k1;rw[bf af,show(c-1)*2/2+1=c by omega]at k0;rw[av af,show((c-1)*2+1)/2+1=c by omega]at k1;refine⟨b,o,i.lt,?_,k0,k1⟩;rw[<-o];exact(h.mc 12 af rfl).1
theorem yT{rb t i nr op a b c:Nat}{v1:Int}(J:b<nr)(r0:w.cell? (az i<|b*2)=some (ah 0))(W:w.cell? (az i<|b*2+1)=some (ah v1)):dC 227 #[P0 rb,ah t,dD i nr nr,jC op a b c] w (ah 4) λw'=>w.grownBy w' none:=by
 have G:i<w.heap.size:=an w _ r0;have y:(b:Int)<nr:=af
 delta dC;go_in;go_wp2_with fail
 have u:Hid (w.grownBy ((w.alloc<|.cells #[ah op,ah a,ah b,ah c] 90).alloc<|.cells #[ah 0,ah v1] 115) none):=ax (ax (aw _ _) _) _;have H:dW ((w.alloc<|.cells #[ah op,ah a,ah b,ah c] 90).alloc<|.cells #[ah 0,ah v1] 115) (w.heap.size+1) 0=some (ah 0):=by simp[go_sem]
 generalize (w.alloc<|.cells #[ah op,ah a,ah b,ah c] 90).alloc (.cells #[ah 0,ah v1] 115)=w2 at*;go_quiet (fail)
 go_wp2
 go_ret;exact⟨rfl,df u _⟩
structure L4(w:aa) (rb rr nr b c z cb nc cc sN sl:Nat) (v1 u1:Int) (x y:B.V):Prop where
 hb:b<nr
 hc:c<nr
 hz:z<nc
 hn:nc<1000000000
 r0:w.cell? ⟨rr,b*2,none⟩=some (.int .i64<|(z:Int)+1)
 r1:w.cell? ⟨rr,b*2+1,none⟩=some (.int .i64 v1)
 Dk:w.cell? ⟨rb,12,none⟩=some (.slice (some ⟨cb,0,none⟩) nc cc)
 k0:w.cell? ⟨cb,z*2,none⟩=some (.slice (some ⟨sN,0,none⟩) sl sl)
 k1:w.cell? ⟨cb,z*2+1,none⟩=some (.int .i64 u1)
 lr:rr<w.heap.size
 lb:rb<w.heap.size
 lc:cb<w.heap.size
theorem yS{rb t o nr op a b c z cb H cc sN sl:Nat}{v1 G:Int}{x y:B.V}(h:L4 w rb o nr b c z cb H cc sN sl v1 G x y)(hu:G<0):dC 227 #[P0 rb,ah t,dD o nr nr,jC op a b c] w (ah 4) λw'=>w.grownBy w' none:=by
 obtain⟨hb,hc,hz,hn,W,r1,i,k0,k1,lr,Z,Y⟩:=h;have a0:(b:Int)<nr:=af
 have q1:IntKind.i64.wrap ((z:Int)+1-1)=(z:Int):=fm af;have q2:IntKind.i64.wrap (z:Int)=z:=jA
 have q3:(z:Int)<H:=af
 have q4:(0:Int)<=z:=af
 have q5:(((z:Int)+1) == 0)=false:=lD dY
 delta dC;go_in;go_wp2_with fail
 have u:Hid (w.grownBy ((w.alloc<|.cells #[ah op,ah a,ah b,ah c] 90).alloc<|.cells #[ah<|(z:Int)+1,ah v1] 115) none):=ax (ax (aw _ _) _) _;have x0:dW ((w.alloc<|.cells #[ah op,ah a,ah b,ah c] 90).alloc<|.cells #[ah<|(z:Int)+1,ah v1] 115) (w.heap.size+1) 0=some (ah<|(z:Int)+1):=by simp[go_sem]
 generalize (w.alloc<|.cells #[ah op,ah a,ah b,ah c] 90).alloc (.cells #[ah<|(z:Int)+1,ah v1] 115)=w2 at*;have a1:=(ay u (a:=az rb 12) Z).1.trans i;have d1:=(ay u (a:=az cb<|z*2+1) Y).1.trans k1;go_quiet (fail)
 go_wp2
 go_ret;exact⟨rfl,df u _⟩
structure NZ(w w2:aa) (rb rr op a b c z cb nc cc sN sl:Nat) (v1 u1:Int):Prop where
 g:w.grownBy w2 none
 i0:w2.cell? ⟨w.heap.size,0,none⟩=some (.int .i64 (op:Int))
 i1:w2.cell? ⟨w.heap.size,1,none⟩=some (.int .i64 (a:Int))
 i3:w2.cell? ⟨w.heap.size,3,none⟩=some (.int .i64 (c:Int))
 x0:w2.cell? ⟨w.heap.size+1,0,none⟩=some (.int .i64<|(z:Int)+1)
 d12:w2.cell? ⟨rb,12,none⟩=some (.slice (some ⟨cb,0,none⟩) nc cc)
 d0:w2.cell? ⟨cb,z*2,none⟩=some (.slice (some ⟨sN,0,none⟩) sl sl)
 d1:w2.cell? ⟨cb,z*2+1,none⟩=some (.int .i64 u1)
 s:w.heap.size+1<w2.heap.size
def NZ.drewN{w2:aa}{rb e op a b c z cb u cc o sl:Nat}{v1 i:Int}(h:NZ w w2 rb e op a b c z cb u cc o sl v1 i)(n:Nat):NZ w (w2.drewN n) rb e op a b c z cb u cc o sl v1 i:=⟨df h.g n,h.i0,h.i1,h.i3,h.x0,h.d12,h.d0,h.d1,h.s⟩
theorem OK{rb i nr op a b c z cb u cc G sl:Nat}{v1 o:Int}{x y:B.V}(h:L4 w rb i nr b c z cb u cc G sl v1 o x y):NZ w ((w.alloc<|.cells #[ah op,ah a,ah b,ah c] 90).alloc<|.cells #[ah<|(z:Int)+1,ah v1] 115) rb i op a b c z cb u cc G sl v1 o:=by
 have e:iY w (gG (gG w #[ah op,ah a,ah b,ah c] 90) #[ah<|(z:Int)+1,ah v1] 115):=ax (ax (aw _ _) _) _;exact⟨e,by simp[go_sem],by simp[go_sem],by simp[go_sem],by simp[go_sem],(ay e (a:=az rb 12) h.lb).1.trans h.Dk,(ay e (a:=az cb<|z*2) h.lc).1.trans h.k0,(ay e (a:=az cb<|z*2+1) h.lc).1.trans h.k1,eG⟩
def NY(w2 wx:aa)(X sN sl:Nat)(u1:Int):Prop:=w2.grownBy wx none/\wx.cell? ⟨X,0,none⟩=some (.slice (some ⟨sN,0,none⟩) sl sl)/\wx.cell? ⟨X,1,none⟩=some (.int .i64 u1)/\w2.heap.size<=X
theorem OJ(e:aa)(o sl:Nat)(i:Int):NY e ((e.alloc<|.cells #[dD o sl sl,ah i] 233).drew) e.heap.size o sl i:=
 ⟨bo<|aj _ _ none,(by simp[go_sem]),(by simp[go_sem]),bm _⟩
def Tryz.IK:(prog.info? 163).map (λi=>(i.zero,i.size,i.bytes))=some (some<|.agg #[ah 0,.slice none 0 0,ah 0,ah 0],4,48):=by kernel_rfl
def Tryz.underlying165:prog.underlying 165=some (.slice 163):=by kernel_rfl
theorem Kq{t b tb kb ck:Nat}{o2:Obj}{w2 w6 W:aa}{f:jq}(h:dZ p m g w)(ht:nF m t)(hb:g.ro 1 0=(some<|az tb 0,(g.ro 1 0).2))(hg:w.grownBy w2 none)(hV:Full w2 b 115 (p.rg f.f*2) (p.rg f.f*2) (eR f.R))(a5:w.heap.size<=b)(ho:w6.ownsRow 0 163 4 (dD kb ((m.T t).fr.length+1) ck) ((m.T t).fr.length+1) (rowP ((m.T t).fr.length*4) (fE p m g t)++[fC p f b 0,fC p f b 1,fC p f b 2,fC p f b 3]))(o:W.grownBy w6 (Value.slice (g.ro 5 t).1 (m.T t).fr.length (g.ro 5 t).2).ownBlock)(a6:mu W.heap.size (.slice (g.ro 5 t).1 (m.T t).fr.length (g.ro 5 t).2) (dD kb ((m.T t).fr.length+1) ck))(hW:W.heap=(w2.alloc o2).heap)(Y:W.os=w2.os/\W.tape=w2.tape/\W.output=w2.output):∃g1,Tr p m g w (m.push t f) g1<|w6.setCell (az tb<|(t-1)*8)<|dD kb ((m.T t).fr.length+1) ck:=by
 have:=ht.1;have:=ht.2;have a2:(Value.slice (g.ro 5 t).1 (m.T t).fr.length (g.ro 5 t).2).ownBlock=fk (g.ro 5 t).1:=dJ _ _ _;rw[a2]at o;have a8:W.heap.size=w2.heap.size+1:=by rw[hW];simp
 let⟨u,i,h1,a7,h3⟩:=(h.kept hg).T af;have a4:u=tb:=by rw[hb]at i;injection i with i;injection i with i _;exact i.symm
 subst a4;have v5:=sK (p:=p) (m:=m) ht.1 ht.2;have G:∀k,fk (g.ro 5 t).1=some k->k<w.heap.size/\k≠u:=λk H=>⟨h.lt ⟨5,t,0,by rw[iy v5];exact H⟩,h.ne (x:=5) (y:=t) (z:=0) (x':=1) (y':=0) (z':=0) v5 rfl H ((DI p m hb u).2 rfl) af⟩;have a9:=hg.size;have Z:∀k,k<w2.heap.size->fk (g.ro 5 t).1≠some k->w6.heap[k]?=w2.heap[k]?:=λk H hn=>by
  rw[o.block k af<|λe=>hn e.symm,hW,au _ _ _ H]
 have a0:=h3.block<|Z u h3.lt<|λe=>(G _ e).2 rfl;have a1:=hV.block<|Z b hV.lt (λe=>by grind);have J:fk (g.ro 5 t).1=some kb\/W.heap.size<=kb:=by
  rcases a6 with e|⟨u,e1,e2⟩
  .left
   rw[<-a2,<-e];rfl
  right
  have:kb=u:=by injection e1
  omega
 have aA:=h.lt ⟨1,0,0,(DI p m hb u).2 rfl⟩;have a3:kb≠u:=by
  rcases J with e|e
  .grind
  omega
 refine⟨_,h.push ht (tb:=u) (kb:=kb) (ck:=ck) (vb:=b) (f:=f) hb (bq (S:=λk=>k=u\/fk (g.ro 5 t).1=some k) (a:=az u<|(t-1)*8) ⟨o.os.trans<|Y.1.trans hg.os,o.tape.trans<|Y.2.1.trans hg.tape,o.output.trans<|Y.2.2.trans hg.output,gD o.size,λk H hn=>(Z k af<|λe=>hn<|ak e).trans<|hg.block k H ey⟩ (ag<|ag rfl) _) (a0.eE _ _) ?_ ?_ (J.imp id<|λe=>by omega) a5 ?_⟩
 .grind[dS,Below.heap_setCell,Value.ownBlock]
 .grind[decide,Full.off,Full.ne]
 grind[Full.lt]
def O8(wc wx:aa)(Y b f into nr:Nat)(x y:B.V):Prop:=wc.grownBy wx none/\wx.heap[Y]?=some (.cells #[.int .i64 (f:Int),.slice (some ⟨b,0,none⟩) nr nr,.int .i64 0,.int .i64 (into:Int)] 163 (0,0))/\wc.heap.size<=b/\wc.heap.size<=Y/\Full wx b 115 (nr*2) (nr*2) (eR<|iz x y)
def OI{wc e:aa}{b f into nr:Nat}{x y:B.V}(o:wc.grownBy e none)(i:Full e b 115 (nr*2) (nr*2) (eR<|iz x y))(u:wc.heap.size<=b):O8 wc (e.alloc<|.cells #[ah f,dD b nr nr,ah 0,ah into] 163) e.heap.size b f into nr x y:=
 ⟨ax o _,bl _ _,u,o.size,i.block<|au _ _ _ i.lt⟩
def OH{wc e:aa}{b f into nr:Nat}{x y:B.V}(u:wc.grownBy e none)(i:Full e b 115 (nr*2) (nr*2) (eR<|iz x y))(G:wc.heap.size+1<=b)(o:e.heap[wc.heap.size]?=some (.cells #[ah 0,.slice none 0 0,ah 0,ah 0] 163 (0,0))):O8 wc ((((e.setCell (az wc.heap.size 0)<|ah f).setCell (az wc.heap.size 1)<|dD b nr nr).setCell (az wc.heap.size 2)<|ah 0).setCell (az wc.heap.size 3)<|ah into) wc.heap.size b f into nr x y:=by
 refine⟨bu (bu (bu (bu u (ak<|bm _) _) (ak<|bm _) _) (ak<|bm _) _) (ak<|bm _) _,?_,af,bm _,(((i.off af).off af).off af).off af⟩;simp[World.setCell,dp,o]
