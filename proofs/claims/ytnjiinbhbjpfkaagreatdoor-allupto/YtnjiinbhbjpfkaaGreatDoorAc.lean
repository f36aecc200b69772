import Derived.Test.YtnjiinbhbjpfkaaGreatDoorAY
set_option maxRecDepth 100000
set_option maxHeartbeats 0
set_option linter.all false
namespace Go.Proofs.YtnjiinbhbjpfkaaGreatDoor
open Go.RowKit Go.Proofs.Tryz
namespace F
open D
variable {Ev:Nat->Value}{N:Int}{ae:Option Addr}{bk ce g j lc m0 u:Nat}{o:Obj}{w wr:aa}
theorem Ht(n:Nat)(N:Int):rowP (n*3) (oI N)++[ah N,ah 0,ah 0]=rowP ((n+1)*3) (oI N):=by
 have o:oI N (n*3)=ah N:=by unfold oI;rw[mL]
 have i:oI N (n*3+1)=ah 0:=by unfold oI;rw[eK]
 have e:oI N (n*3+2)=ah 0:=by unfold oI;rw[eK]
 grind[rowP,List.range_succ]
theorem Hs(n:Nat)(N:Int):rowP (n*1) (tL N)++[ah N]=rowP ((n+1)*1) (tL N):=by
 grind[rowP,List.range_succ,tL]
theorem yA.Ew{n c:Nat}(h:yA w 48 3 (oI N) (some<|az g 0,n,c) j)(hj:j<n):yA (((w.setCell (az g<|j*3)<|ah N).setCell (az g<|j*3+1)<|ah 0).setCell (az g<|j*3+2)<|ah 0) 48 3 (oI N) (some<|az g 0,n,c) (j+1):=by
 rcases h with⟨i,_⟩|⟨g',i,u,W,J⟩
 .grind
 have e:g=g':=by injection i with i;injection i
 subst e;have y:n<=c:=u;have Z:oI N (j*3)=ah N:=by unfold oI;rw[mL]
 have Y:oI N (j*3+1)=ah 0:=by unfold oI;rw[eK]
 have H:oI N (j*3+2)=ah 0:=by unfold oI;rw[eK]
 have o:Full w g 48 (c*3) (j*3) (oI N):=J;have:=((o.set af).set af).set af;rw[Z,Y,H]at this;exact ak ⟨g,rfl,u,W,ey⟩
theorem yA.Eu{n c:Nat}(h:yA w 3 1 (tL N) (some<|az g 0,n,c) j)(W:j<n):yA (w.setCell (az g j)<|ah N) 3 1 (tL N) (some<|az g 0,n,c) (j+1):=by
 rcases h with⟨i,_⟩|⟨g',i,u,J,H⟩
 .grind
 have e:g=g':=by injection i with i;injection i
 subst e;have y:n<=c:=u;have o:Full w g 3 (c*1) (j*1) (tL N):=H;rw[Nat.mul_one j]at o;refine ak ⟨g,rfl,u,J,?_⟩;rw[Nat.mul_one<|j+1];exact o.set af
theorem wo.Ew{w wr:aa}{N:Int}{bk m0 ce g n c j:Nat}{Ev:Nat->Value}{L0:List Value}{ae:Option Addr}(h:wo w 119 48 3 (oI N) bk Ev L0 m0 ae ce (some<|az g 0,n,c) j wr)(e:j<n):wo w 119 48 3 (oI N) bk Ev L0 m0 ae ce (some<|az g 0,n,c) (j+1) (((wr.setCell (az g<|j*3)<|ah N).setCell (az g<|j*3+1)<|ah 0).setCell (az g<|j*3+2)<|ah 0):=by
 exact h.next eo eo (yA.Ew h.z e)<|bq (S:=λk=>fk (some ((az g 0):Addr))=some k) (a:=az g<|j*3+2) (bq (S:=λk=>fk (some ((az g 0):Addr))=some k) (a:=az g<|j*3+1) (bq (S:=λk=>fk (some ((az g 0):Addr))=some k) (a:=az g<|j*3) (dx _ _) (ag rfl) _) (ag rfl) _) (ag rfl) _
theorem wo.Eu{w wr:aa}{N:Int}{bk m0 ce g n c j:Nat}{Ev:Nat->Value}{L0:List Value}{ae:Option Addr}(h:wo w 121 3 1 (tL N) bk Ev L0 m0 ae ce (some<|az g 0,n,c) j wr)(e:j<n):wo w 121 3 1 (tL N) bk Ev L0 m0 ae ce (some<|az g 0,n,c) (j+1) (wr.setCell (az g j)<|ah N):=by
 exact h.next eo eo (yA.Eu h.z e)<|bq (S:=λk=>fk (some ((az g 0):Addr))=some k) (a:=az g j) (dx _ _) (ag rfl) _
theorem Gy{G:aa}{f m:Nat}{y:Array Value}{v:Value}{L:List Value}(hX:wr.heap[u]?=some (.cells y 48 (0,0)))(Z:Full wr bk 81 3 3 Ev)(hR:wr.ownsRow 0 119 2 (.slice ae m ce) m L)(W:(wr.alloc o).grownBy G (Value.slice ae m ce).ownBlock):(G.setCell (az bk f) v).heap[u]?=some (.cells y 48 (0,0)):=by
 have Y:=ch hX;have H:u≠bk:=λe=>by
  obtain⟨c2,i,_⟩:=Z;grind
 have J:(Value.slice ae m ce).ownBlock≠some u:=λe=>by
  let⟨_,_,c2,i⟩:=dR hR u e;grind
 rw[ab _ _ _ _ H,W.block u fV<|λe=>J e.symm,au _ _ _ Y];exact hX
theorem JR{H:aa}{ob:Obj}{G:Option Addr}{J Y:Nat}{Z:Value}(hX:wr.heap[u]?=some ob)(y:fk G≠some u)(i:Je (wr.alloc o) H G J Y 1 Z):H.heap[u]?=some ob:=by
 have W:=ch hX;rcases i with⟨_,i⟩|⟨_,_,_,_,i⟩
 .rw[i.block u fV<|λe=>y (by grind[dJ]),au _ _ _ W];exact hX
 rw[i.block u fV (λe=>by cases e),au _ _ _ W];exact hX
theorem Mp{n:Nat}{L0 xs:List Value}{la:Option Addr}{ln:Nat}(hF:Full w bk 81 3 3 Ev)(h0:Ev 0=ah n)(h1:Ev 1=.slice ae m0 ce)(hR:w.ownsRow 0 119 2 (.slice ae m0 ce) m0 L0)(hL:w.ownsRow 0 48 3 (.slice la ln lc) ln xs)(hn:n<=1000000000)(hm:m0<=100000000)(hl:ln<=100000000):eN 76 #[P0 bk,.slice la ln lc] w λw'=>∃Q x aA aB,Q.length=4/\x.2.1=ln+3/\uf w 119 48 3 1 (oI<|-((n:Int)+1)) bk (eE Ev 0<|ah<|(n:Int)+1) L0 m0 ae (la,ln,lc) (-((n:Int)+1)) Q x aA aB w':=by
 obtain⟨i0,hi,b2,aW,b8⟩:=info_parts Tryz.IM;obtain⟨j0,H,c9,bV,bR⟩:=info_parts Tryz.AU;obtain⟨c0,z0⟩:=hF.cells 0 af;rw[h0]at c0;obtain⟨N1,aH⟩:∃N1:Int,N1=(n:Int)+1:=⟨_,rfl⟩;obtain⟨N,hN⟩:∃N:Int,N=-N1:=⟨_,rfl⟩;rw[<-aH,<-hN];have cB:IntKind.i64.wrap ((n:Int)+1)=N1:=by rw[fz,dL _ af];exact aH.symm
 have cC:IntKind.i64.wrap (-N1)=N:=by rw[fz,dL _ af];exact hN.symm
 change Hid _ at hN;have aY:Full (w.setCell (az bk 0)<|ah N1) bk 81 3 3 (eE Ev 0<|ah N1):=hF.eE 0 _;have bC:(w.setCell (az bk 0)<|ah N1).ownsRow 0 119 2 (.slice ae m0 ce) m0 L0:=dS hR<|λk hk=>ab _ _ _ _<|eU hR hF eo k hk;have b9:(w.setCell (az bk 0)<|ah N1).ownsRow 0 48 3 (.slice la ln lc) ln xs:=dS hL<|λk hk=>ab _ _ _ _<|eU hL hF eo k hk;have aU:dN (λk=>k=bk\/fk ae=some k\/fk la=some k) w (w.setCell (az bk 0)<|ah N1):=bq (S:=λk=>k=bk\/fk ae=some k\/fk la=some k) (a:=az bk 0) (dx _ _) (ag<|ag rfl) _;have bD:=λk hk=>(dR hL k<|eZ dJ hk).2.1;have bB:(w.setCell (az bk 0)<|ah N1).heap.size=w.heap.size:=by simp[World.setCell]
 have bI:(eE Ev 0<|ah N1) 1=.slice ae m0 ce:=by unfold eE;rw[av eo];exact h1
 have bH:(eE Ev 0<|ah N1) 0=ah N1:=by unfold eE;rw[bf rfl]
 change Hid _ at aY bC b9 aU bD aH;have HE:=bj<|bh bH bI;clear bH bI h0 h1 hF hR hL;generalize eE Ev 0 (ah N1)=W at*;delta eN;go_in;go_wp2_with fail
 have aI:=bl (w.setCell (az bk 0)<|ah N1)<|.cells #[ah N,ah 0,ah 0] 48;have aS:Hid ((w.setCell (az bk 0)<|ah N1).grownBy ((w.setCell (az bk 0)<|ah N1).alloc<|.cells #[ah N,ah 0,ah 0] 48) none):=aj _ _ _;generalize (w.setCell (az bk 0)<|ah N1).alloc (.cells #[ah N,ah 0,ah 0] 48)=w2 at*;generalize w.setCell (az bk 0) (ah N1)=w1 at*;rw[bB]at aI;obtain⟨Y,aT⟩:∃Y,Y=w.heap.size:=⟨_,rfl⟩;rw[<-aT]at aI⊢;have cF:w.heap.size<=Y:=af
 change Hid _ at aI;clear aT;have b4:Hid (wo w 119 48 3 (oI N) bk W L0 m0 ae ce (la,ln,lc) 0 w2):=wo.NT aY bC b9 aU aS;clear aY bC b9 aU aS bB z0 c0;go_loopw[5] (λiv wx=>∃j:Nat,j<=ln/\iv=ah j/\Hid (wo w 119 48 3 (oI N) bk W L0 m0 ae ce (la,ln,lc) j wx)/\Hid (wx.heap[Y]?=some (.cells #[ah N,ah 0,ah 0] 48 (0,0)))) (λiv _=>ln-(intOf iv).toNat)
 case atStart=>exact⟨0,af,rfl,b4,aI⟩
 case round=>
  clear b4 aI;obtain⟨j,bQ,rfl,rV,rX⟩:=hrel;have a7:=rV.f.lt;obtain⟨k0,f0⟩:=rV.f.cells 0 af;obtain⟨k1,f1⟩:=rV.f.cells 1 af;rw[HE.1]at k0;rw[HE.2]at k1;have x0:dW wr Y 0=some (ah N):=fj rX.out
  have x1:dW wr Y 1=some (ah 0):=fj rX.out
  have x2:dW wr Y 2=some (ah 0):=fj rX.out
  by_cases b7:j<ln
  .obtain⟨Z,hq,hB,c7⟩:=rV.z.place b7;simp only at hq hB c7;subst hq;have b0:(j:Int)<ln:=af
   obtain⟨⟨v0,q0⟩,p0⟩:=hB.cell (j*3) af;obtain⟨⟨v1,q1⟩,p1⟩:=hB.cell (j*3+1) af;obtain⟨⟨v2,q2⟩,p2⟩:=hB.cell (j*3+2) af;have c6:Hid (wo w 119 48 3 (oI N) bk W L0 m0 ae ce (some<|az Z 0,ln,lc) (j+1)<|((wr.setCell (az Z<|j*3)<|ah N).setCell (az Z<|j*3+1)<|ah 0).setCell (az Z<|j*3+2)<|ah 0):=rV.Ew b7;have aP:Y≠Z:=by have:=bD Z rfl;omega
   have bO:Hid ((((wr.setCell (az Z<|j*3)<|ah N).setCell (az Z<|j*3+1)<|ah 0).setCell (az Z<|j*3+2)<|ah 0).heap[Y]?=some (.cells #[ah N,ah 0,ah 0] 48 (0,0))):=by
    show _=_;rw[ab _ _ _ _ aP,ab _ _ _ _ aP,ab _ _ _ _ aP];exact rX
   clear hB;go_wp2
   go_roundw
   case rel=>exact⟨j+1,af,iI,c6,bO⟩
   case measure=>simp[intOf];omega
  have b0:¬((j:Int)<ln):=af
  have c8:ln=j:=af
  subst c8;have aD:Hid (uf w 119 48 3 1 (oI N) bk W L0 m0 ae (la,ln,lc) N [] (la,ln,lc) ae ce wr):=rV.done HE.2;have G:=bj rV.r;have a2:Hid (∀k,(Value.slice ae m0 ce).ownBlock=some k->k≠bk/\k<wr.heap.size):=λk hk=>⟨eU G rV.f eo k hk,(dR G k hk).2.1⟩;clear rV bQ;obtain⟨i,aC⟩:∃i,i=ae:=⟨_,rfl⟩;obtain⟨o,a6⟩:∃o,o=ce:=⟨_,rfl⟩;have aD:Hid (uf w 119 48 3 1 (oI N) bk W L0 m0 ae (la,ln,lc) N [] (la,ln,lc) i o wr):=by rw[aC,a6];exact aD
  rw[<-aC,<-a6]at k1 G a2;clear aC a6;go_wp2
  go_cut[] (λwx=>∃(aA:Option Addr) (aB:Nat),Hid (uf w 119 48 3 1 (oI N) bk W L0 m0 ae (la,ln,lc) N [(la,ln,lc)] (la,ln,lc) aA aB wx)/\Hid (wx.heap[Y]?=some (.cells #[ah N,ah 0,ah 0] 48 (0,0))))
  case first=>
   go_region_law (refine fH _ rfl (.tmp 35) (.tmp 43) 78 rfl 119 i0 _ 2 32 Tryz.underlying78 hi b2 aW b8 rfl eo i m0 o L0 mS (dS G<|λk h=>au _ _ _ (a2 k h).2) (az wr.heap.size 0) 1 1 [.slice la ln lc,ah N] mS rfl (by intro j u H;match j,H with|0,H=>(simp at H;subst H;simp[Addr.add,go_sem])|1,H=>(simp at H;subst H;simp[Addr.add,go_sem])) yv pY af eo ?_;intro v' w6 ho J a8;have hg:World.grownBy (wr.alloc<|.cells #[.slice la ln lc,ah N] 119) w6 (Value.slice i m0 o).ownBlock:=⟨J.os,J.tape,J.output,J.size,J.block⟩;clear J;obtain⟨Z,cq,rfl⟩:=ef ho af;have aG:Hid ((Value.slice i m0 o).ownBlock=some Z\/wr.heap.size<=Z):=(by rcases a8 with h|⟨g',h,hl⟩;exact ag h.symm;exact ak (by have e:Z=g':=(by injection h);simp at hl;omega));clear a8;have aJ:=bj ho;have aK:=bj hg;have bT:wr.heap.size<w6.heap.size:=(by have h9:=hg.size;simp at h9;omega);have a5:=((hg.block bk fV<|λh=>(a2 bk h.symm).1 rfl).trans<|au _ _ _ a7);have d6:dW w6 bk 1=some (.slice i m0 o):=(bd (a:=az bk 1) a5).trans k1;have y6:w6.frozen? (az bk 1)=false:=(dv (a:=az bk 1) a5).trans f1;have aR:Hid ((w6.setCell (az bk 1)<|dD Z (m0+1) cq).heap[Y]?=some (.cells #[ah N,ah 0,ah 0] 48 (0,0))):=Gy rX aD.f G hg;clear a5 ho hg)
   all_goals
    go_wp2
    go_meet
    case rel=>exact⟨some<|az Z 0,cq,aD.line (Q:=[]) eo eo eo eo (by have e:L0++jg (([]:List Sl).map<|λy=>(y,N))=L0:=(by unfold jg;simp);rw[e];exact aJ) aK aG,aR⟩
  case rest=>
   obtain⟨bY,bP,b3,aX⟩:=hcut;clear aD G a2 k1 f1 a7 x0 x1 x2 rX;go_wp2
   go_loopw[6,7] (λgv kv wx=>∃(k:Nat) (x:Sl) (Q:List Sl) (aA:Option Addr) (aB:Nat),k<=3/\kv=ah k/\gv=.slice x.1 x.2.1 x.2.2/\Hid (Q.length=k+1/\x.2.1=ln+k/\fk x.1≠some Y)/\Hid (uf w 119 48 3 1 (oI N) bk W L0 m0 ae (la,ln,lc) N Q x aA aB wx)/\Hid (wx.heap[Y]?=some (.cells #[ah N,ah 0,ah 0] 48 (0,0)))) (λ_ kv _=>3-(intOf kv).toNat)
   case atStart=>exact⟨0,(la,ln,lc),[(la,ln,lc)],bY,bP,af,rfl,rfl,⟨rfl,rfl,(λe=>by have:=bD Y e;omega)⟩,b3,aX⟩
   case round=>
    clear b3 aX;obtain⟨k,⟨xa,xn,xc⟩,Q,i,o,cD,rfl,rfl,rQ,rT,rX⟩:=hrel;simp only at rQ;by_cases hk:k<3
    .have cA:(k:Int)<3:=af
     have aN:Hid (wr.ownsRow 0 48 3 (.slice xa xn xc) xn<|rowP (xn*3)<|oI N):=rT.x.1;have bE:=bj<|λk hk=>(dR aN k hk).2.1;have bX:xn<=100000003:=gD rQ.2.1
     obtain⟨k0,f0⟩:=rT.f.cells 0 af;have lx:=ch rX;have x0:dW wr Y 0=some (ah N):=fj rX.out
     have x1:dW wr Y 1=some (ah 0):=fj rX.out
     have x2:dW wr Y 2=some (ah 0):=fj rX.out
     go_wp2_with (at_builtin;refine oa rfl (.tmp 52) (.tmp 54) 45 rfl 48 j0 _ 3 24 underlying45 H c9 bV bR rfl eo _ _ _ _ rfl (dS aN<|λk h=>au _ _ _<|bE k h) (az wr.heap.size 0) 1 1 [ah N,ah 0,ah 0] rfl rfl ?c1 ?c2 ?c3 ?c4 ?c5 ?_)
     try case c1=>intro j u H;match j,H with|0,H=>(simp at H;subst H;simp[Addr.add,go_sem])|1,H=>(simp at H;subst H;simp[Addr.add,go_sem])|2,H=>(simp at H;subst H;simp[Addr.add,go_sem])
     try case c2=>simp[Value.oneCell']
     try case c3=>unfold maxLen;omega
     try case c4=>omega
     try case c5=>omega
     intro v' w5 ho aM;obtain⟨⟨a1,a0,a3⟩,hv,bF,aO,bG⟩:=rT.more eo eo eo eo (Ht xn N) ho aM;have bU:v'=.slice a1 a0 a3:=hv;simp only at bF aO;subst bU;have a4:=bj bG;have aV:=bj<|JR rX rQ.2.2 aM;have aQ:Hid (Q.length=k+1/\a0=ln+(k+1)/\fk a1≠some Y):=⟨rQ.1,(gD rQ.2.1),(λe=>by rcases aO Y e with h|h;exact rQ.2.2 h;omega)⟩;have aL:m0+Q.length<=100000010:=gD rQ.1
     clear ho aM hv bF aO bG aN bE bX x0 x1 x2 rX rT rQ;have G:=bj a4.r;have a2:Hid (∀k,(Value.slice i (m0+Q.length) o).ownBlock=some k->k≠bk/\k<w5.heap.size):=λk hk=>⟨eU G a4.f eo k hk,(dR G k hk).2.1⟩;have a7:=a4.f.lt;obtain⟨k0,f0⟩:=a4.f.cells 0 af;obtain⟨k1,f1⟩:=a4.f.cells 1 af;rw[show eE W 1 (.slice i (m0+Q.length) o) 0=ah N1 from(by unfold eE;rw[av eo];exact HE.1)]at k0;rw[show eE W 1 (.slice i (m0+Q.length) o) 1=.slice i (m0+Q.length) o from(by unfold eE;rw[bf rfl])]at k1;obtain⟨mq,a9⟩:∃mq,mq=m0+Q.length:=⟨_,rfl⟩;obtain⟨Lq,aE⟩:∃Lq,Lq=L0++jg (Q.map<|λy=>(y,N)):=⟨_,rfl⟩;have bK:=bj<|bh a9 aE;rw[<-a9]at k1 G a2 aL;rw[<-aE]at G;clear a9 aE;go_wp2
     go_region_law (refine fH _ rfl (.tmp 60) (.tmp 68) 78 rfl 119 i0 _ 2 32 Tryz.underlying78 hi b2 aW b8 rfl eo i mq o Lq mS (dS G<|λk h=>au _ _ _ (a2 k h).2) (az w5.heap.size 0) 1 1 [.slice a1 a0 a3,ah N] mS rfl (by intro j u H;match j,H with|0,H=>(simp at H;subst H;simp[Addr.add,go_sem])|1,H=>(simp at H;subst H;simp[Addr.add,go_sem])) yv pY af eo ?_;intro v' w6 ho J a8;have hg:World.grownBy (w5.alloc<|.cells #[.slice a1 a0 a3,ah N] 119) w6 (Value.slice i mq o).ownBlock:=⟨J.os,J.tape,J.output,J.size,J.block⟩;clear J;obtain⟨Z,cq,rfl⟩:=ef ho af;have aG:Hid ((Value.slice i mq o).ownBlock=some Z\/w5.heap.size<=Z):=(by rcases a8 with h|⟨g',h,hl⟩;exact ag h.symm;exact ak (by have e:Z=g':=(by injection h);simp at hl;omega));clear a8;have aJ:=bj ho;have aK:=bj hg;have bT:w5.heap.size<w6.heap.size:=(by have h9:=hg.size;simp at h9;omega);have a5:=((hg.block bk fV<|λh=>(a2 bk h.symm).1 rfl).trans<|au _ _ _ a7);have d6:=(bd (a:=az bk 1) a5).trans k1;have y6:=(dv (a:=az bk 1) a5).trans f1;have aR:Hid ((w6.setCell (az bk 1)<|dD Z (mq+1) cq).heap[Y]?=some (.cells #[ah N,ah 0,ah 0] 48 (0,0))):=Gy aV a4.f G hg;clear a5 ho hg)
     all_goals
      have bM:Hid (uf w 119 48 3 1 (oI N) bk W L0 m0 ae (la,ln,lc) N (Q++[(a1,a0,a3)]) (a1,a0,a3) (some<|az Z 0) cq<|w6.setCell (az bk 1)<|dD Z (mq+1) cq):=by
       obtain⟨a9,aE⟩:=bK;subst a9 aE;exact a4.line eo eo eo eo aJ aK aG
      have bZ:Hid ((Q++[(a1,a0,a3)]).length=(k+1)+1/\a0=ln+(k+1)/\fk a1≠some Y):=⟨(by rw[db];show Q.length+1=_;have:=aQ.1;omega),aQ.2⟩;clear a4 G a2 k1 f1 bK aQ aL a7 aK aJ aG aV;go_wp2
      go_roundw
      case rel=>exact⟨k+1,(a1,a0,a3),Q++[(a1,a0,a3)],some<|az Z 0,cq,af,iI,rfl,bZ,bM,aR⟩
      case measure=>simp[intOf];omega
    obtain rfl:k=3:=by omega
    go_wp2
    go_end0;obtain⟨q1,q2,_⟩:=rQ;have hn1:=aH.out;have bN:=hN.out;subst bN;subst hn1;exact⟨rfl,Q,(xa,xn,xc),i,o,q1,q2,rT⟩
theorem Mo{n:Nat}{L0 xs:List Value}{W:Option Addr}{ln:Nat}(hF:Full w bk 81 3 3 Ev)(h0:Ev 0=ah n)(h1:Ev 2=.slice ae m0 ce)(hR:w.ownsRow 0 121 2 (.slice ae m0 ce) m0 L0)(hL:w.ownsRow 0 3 1 (.slice W ln lc) ln xs)(hn:n<=1000000000)(hm:m0<=100000000)(hl:ln<=100000000):eN 78 #[P0 bk,.slice W ln lc] w λw'=>∃Q x aA aC,Q.length=4/\x.2.1=ln+3/\uf w 121 3 1 2 (tL<|-((n:Int)+1)) bk (eE Ev 0<|ah<|(n:Int)+1) L0 m0 ae (W,ln,lc) (-((n:Int)+1)) Q x aA aC w':=by
 obtain⟨i0,hi,aY,aU,b4⟩:=info_parts Tryz.IL;obtain⟨j0,Y,bX,bP,bL⟩:=info_parts Tryz.Li;obtain⟨c0,z0⟩:=hF.cells 0 af;rw[h0]at c0;obtain⟨N1,aH⟩:∃N1:Int,N1=(n:Int)+1:=⟨_,rfl⟩;obtain⟨N,hN⟩:∃N:Int,N=-N1:=⟨_,rfl⟩;rw[<-aH,<-hN];have bZ:IntKind.i64.wrap ((n:Int)+1)=N1:=by rw[fz,dL _ af];exact aH.symm
 have c6:IntKind.i64.wrap (-N1)=N:=by rw[fz,dL _ af];exact hN.symm
 change Hid _ at hN;have aW:Full (w.setCell (az bk 0)<|ah N1) bk 81 3 3 (eE Ev 0<|ah N1):=hF.eE 0 _;have b8:(w.setCell (az bk 0)<|ah N1).ownsRow 0 121 2 (.slice ae m0 ce) m0 L0:=dS hR<|λk hk=>ab _ _ _ _<|eU hR hF eo k hk;have b6:(w.setCell (az bk 0)<|ah N1).ownsRow 0 3 1 (.slice W ln lc) ln xs:=dS hL<|λk hk=>ab _ _ _ _<|eU hL hF eo k hk;have aT:dN (λk=>k=bk\/fk ae=some k\/fk W=some k) w (w.setCell (az bk 0)<|ah N1):=bq (S:=λk=>k=bk\/fk ae=some k\/fk W=some k) (a:=az bk 0) (dx _ _) (ag<|ag rfl) _;have b9:=λk hk=>(dR hL k<|eZ dJ hk).2.1;have b7:(w.setCell (az bk 0)<|ah N1).heap.size=w.heap.size:=by simp[World.setCell]
 have bE:(eE Ev 0<|ah N1) 2=.slice ae m0 ce:=by unfold eE;rw[av eo];exact h1
 have bD:(eE Ev 0<|ah N1) 0=ah N1:=by unfold eE;rw[bf rfl]
 change Hid _ at aW b8 b6 aT b9 aH;have HE:=bj<|bh bD bE;clear bD bE h0 h1 hF hR hL;generalize eE Ev 0 (ah N1)=J at*;delta eN;go_in;go_wp2_with fail
 have a5:Hid ((w.setCell (az bk 0)<|ah N1).grownBy (w.setCell (az bk 0)<|ah N1) none):=aw _ _;obtain⟨w1,aL⟩:∃w1:aa,w1=w.setCell (az bk 0) (ah N1):=⟨_,rfl⟩;rw[<-aL]at aW b8 b6 aT b7 a5⊢;clear aL;obtain⟨w2,aB⟩:∃w2:aa,w2=w1:=⟨_,rfl⟩;rw[<-aB];have a5:Hid (w1.grownBy w2 none):=eZ aB a5
 clear aB;have b2:=bj trivial;have b1:Hid (wo w 121 3 1 (tL N) bk J L0 m0 ae ce (W,ln,lc) 0 w2):=wo.NT aW b8 b6 aT a5;clear aW b8 b6 aT a5 b7 z0 c0;go_loopw[4] (λiv wx=>∃j:Nat,j<=ln/\iv=ah j/\Hid (wo w 121 3 1 (tL N) bk J L0 m0 ae ce (W,ln,lc) j wx)/\Hid (True)) (λiv _=>ln-(intOf iv).toNat)
 case atStart=>exact⟨0,af,rfl,b1,b2⟩
 case round=>
  clear b1 b2;obtain⟨j,bK,rfl,rV,rX⟩:=hrel;have a7:=rV.f.lt;obtain⟨k0,f0⟩:=rV.f.cells 0 af;obtain⟨k1,f1⟩:=rV.f.cells 2 af;rw[HE.1]at k0;rw[HE.2]at k1;by_cases b3:j<ln
  .obtain⟨gq,hq,hB,bV⟩:=rV.z.place b3;simp only at hq hB bV;subst hq;have aX:(j:Int)<ln:=af
   obtain⟨⟨v0,q0⟩,p0⟩:=hB.cell j af;have bU:Hid (wo w 121 3 1 (tL N) bk J L0 m0 ae ce (some<|az gq 0,ln,lc) (j+1)<|wr.setCell (az gq j)<|ah N):=rV.Eu b3;clear hB;go_wp2
   go_roundw
   case rel=>exact⟨j+1,af,iI,bU,trivial⟩
   case measure=>simp[intOf];omega
  have aX:¬((j:Int)<ln):=af
  have bW:ln=j:=af
  subst bW;have aJ:Hid (uf w 121 3 1 2 (tL N) bk J L0 m0 ae (W,ln,lc) N [] (W,ln,lc) ae ce wr):=rV.done HE.2;have H:=bj rV.r;have a0:Hid (∀k,(Value.slice ae m0 ce).ownBlock=some k->k≠bk/\k<wr.heap.size):=λk hk=>⟨eU H rV.f eo k hk,(dR H k hk).2.1⟩;clear rV bK;obtain⟨i,aD⟩:∃i,i=ae:=⟨_,rfl⟩;obtain⟨o,a6⟩:∃o,o=ce:=⟨_,rfl⟩;have aJ:Hid (uf w 121 3 1 2 (tL N) bk J L0 m0 ae (W,ln,lc) N [] (W,ln,lc) i o wr):=by rw[aD,a6];exact aJ
  rw[<-aD,<-a6]at k1 H a0;clear aD a6;go_wp2
  go_cut[] (λwx=>∃(aA:Option Addr) (aC:Nat),Hid (uf w 121 3 1 2 (tL N) bk J L0 m0 ae (W,ln,lc) N [(W,ln,lc)] (W,ln,lc) aA aC wx)/\Hid (True))
  case first=>
   go_region_law (refine fH _ rfl (.tmp 32) (.tmp 40) 79 rfl 121 i0 _ 2 32 Tryz.underlying79 hi aY aU b4 rfl eo i m0 o L0 mS (dS H<|λk h=>au _ _ _ (a0 k h).2) (az wr.heap.size 0) 1 1 [.slice W ln lc,ah N] mS rfl (by intro j u Y;match j,Y with|0,Y=>(simp at Y;subst Y;simp[Addr.add,go_sem])|1,Y=>(simp at Y;subst Y;simp[Addr.add,go_sem])) yv pY af eo ?_;intro v' w6 ho G a8;have hg:World.grownBy (wr.alloc<|.cells #[.slice W ln lc,ah N] 121) w6 (Value.slice i m0 o).ownBlock:=⟨G.os,G.tape,G.output,G.size,G.block⟩;clear G;obtain⟨gq,cq,rfl⟩:=ef ho af;have aG:Hid ((Value.slice i m0 o).ownBlock=some gq\/wr.heap.size<=gq):=(by rcases a8 with h|⟨g',h,hl⟩;exact ag h.symm;exact ak (by have e:gq=g':=(by injection h);simp at hl;omega));clear a8;have aI:=bj ho;have aK:=bj hg;have bN:wr.heap.size<w6.heap.size:=(by have h9:=hg.size;simp at h9;omega);have a3:=((hg.block bk fV<|λh=>(a0 bk h.symm).1 rfl).trans<|au _ _ _ a7);have d6:dW w6 bk 2=some (.slice i m0 o):=(bd (a:=az bk 2) a3).trans k1;have y6:w6.frozen? (az bk 2)=false:=(dv (a:=az bk 2) a3).trans f1;clear a3 ho hg)
   all_goals
    go_wp2
    go_meet
    case rel=>exact⟨some<|az gq 0,cq,aJ.line (Q:=[]) eo eo eo eo (by have e:L0++jg (([]:List Sl).map<|λy=>(y,N))=L0:=(by unfold jg;simp);rw[e];exact aI) aK aG,trivial⟩
  case rest=>
   obtain⟨bS,bJ,aZ,aV⟩:=hcut;clear aJ H a0 k0 f0 k1 f1 a7 rX;go_wp2
   go_loopw[5,6] (λgv kv wx=>∃(k:Nat) (x:Sl) (Q:List Sl) (aA:Option Addr) (aC:Nat),k<=3/\kv=ah k/\gv=.slice x.1 x.2.1 x.2.2/\Hid (Q.length=k+1/\x.2.1=ln+k/\True)/\Hid (uf w 121 3 1 2 (tL N) bk J L0 m0 ae (W,ln,lc) N Q x aA aC wx)/\Hid (True)) (λ_ kv _=>3-(intOf kv).toNat)
   case atStart=>exact⟨0,(W,ln,lc),[(W,ln,lc)],bS,bJ,af,rfl,rfl,⟨rfl,rfl,trivial⟩,aZ,aV⟩
   case round=>
    clear aZ aV;obtain⟨k,⟨xa,xn,xc⟩,Q,i,o,c7,rfl,rfl,rQ,rT,rX⟩:=hrel;simp only at rQ;by_cases hk:k<3
    .have bY:(k:Int)<3:=af
     have aQ:Hid (wr.ownsRow 0 3 1 (.slice xa xn xc) xn<|rowP (xn*1)<|tL N):=rT.x.1;have bA:=bj<|λk hk=>(dR aQ k hk).2.1;have bR:xn<=100000003:=gD rQ.2.1
     obtain⟨k0,f0⟩:=rT.f.cells 0 af;rw[show eE J 2 (.slice i (m0+Q.length) o) 0=ah N1 from(by unfold eE;rw[av eo];exact HE.1)]at k0;go_wp2_with (at_builtin;refine oa rfl (.tmp 49) (.tmp 55) 54 rfl 3 j0 _ 1 8 Tryz.vW Y bX bP bL rfl eo _ _ _ _ rfl (dS aQ<|λk h=>au _ _ _<|bA k h) (az wr.heap.size 0) 1 1 [ah N] rfl rfl ?c1 ?c2 ?c3 ?c4 ?c5 ?_)
     try case c1=>intro j u Y;match j,Y with|0,Y=>(simp at Y;subst Y;simp[Addr.add,go_sem])
     try case c2=>simp[Value.oneCell']
     try case c3=>unfold maxLen;omega
     try case c4=>omega
     try case c5=>omega
     intro v' w5 ho b0;obtain⟨⟨a2,Z,a1⟩,hv,bB,b5,bC⟩:=rT.more eo eo eo eo (Hs xn N) (by simp only[Nat.mul_one];exact ho) b0;have bO:v'=.slice a2 Z a1:=hv;simp only at bB b5;subst bO;have a4:=bj bC;have aS:Hid (Q.length=k+1/\Z=ln+(k+1)/\True):=⟨rQ.1,(gD rQ.2.1),trivial⟩;have aM:m0+Q.length<=100000010:=gD rQ.1
     clear ho b0 hv bB b5 bC aQ bA bR k0 f0 rX rT rQ;have H:=bj a4.r;have a0:Hid (∀k,(Value.slice i (m0+Q.length) o).ownBlock=some k->k≠bk/\k<w5.heap.size):=λk hk=>⟨eU H a4.f eo k hk,(dR H k hk).2.1⟩;have a7:=a4.f.lt;obtain⟨k0,f0⟩:=a4.f.cells 0 af;obtain⟨k1,f1⟩:=a4.f.cells 2 af;rw[show eE J 2 (.slice i (m0+Q.length) o) 0=ah N1 from(by unfold eE;rw[av eo];exact HE.1)]at k0;rw[show eE J 2 (.slice i (m0+Q.length) o) 2=.slice i (m0+Q.length) o from(by unfold eE;rw[bf rfl])]at k1;obtain⟨mq,a9⟩:∃mq,mq=m0+Q.length:=⟨_,rfl⟩;obtain⟨Lq,aE⟩:∃Lq,Lq=L0++jg (Q.map<|λy=>(y,N)):=⟨_,rfl⟩;have bF:=bj<|bh a9 aE;rw[<-a9]at k1 H a0 aM;rw[<-aE]at H;clear a9 aE;go_wp2
     go_region_law (refine fH _ rfl (.tmp 61) (.tmp 69) 79 rfl 121 i0 _ 2 32 Tryz.underlying79 hi aY aU b4 rfl eo i mq o Lq mS (dS H<|λk h=>au _ _ _ (a0 k h).2) (az w5.heap.size 0) 1 1 [.slice a2 Z a1,ah N] mS rfl (by intro j u Y;match j,Y with|0,Y=>(simp at Y;subst Y;simp[Addr.add,go_sem])|1,Y=>(simp at Y;subst Y;simp[Addr.add,go_sem])) yv pY af eo ?_;intro v' w6 ho G a8;have hg:World.grownBy (w5.alloc<|.cells #[.slice a2 Z a1,ah N] 121) w6 (Value.slice i mq o).ownBlock:=⟨G.os,G.tape,G.output,G.size,G.block⟩;clear G;obtain⟨gq,cq,rfl⟩:=ef ho af;have aG:Hid ((Value.slice i mq o).ownBlock=some gq\/w5.heap.size<=gq):=(by rcases a8 with h|⟨g',h,hl⟩;exact ag h.symm;exact ak (by have e:gq=g':=(by injection h);simp at hl;omega));clear a8;have aI:=bj ho;have aK:=bj hg;have bN:w5.heap.size<w6.heap.size:=(by have h9:=hg.size;simp at h9;omega);have a3:=((hg.block bk fV<|λh=>(a0 bk h.symm).1 rfl).trans<|au _ _ _ a7);have d6:=(bd (a:=az bk 2) a3).trans k1;have y6:=(dv (a:=az bk 2) a3).trans f1;clear a3 ho hg)
     all_goals
      have bH:Hid (uf w 121 3 1 2 (tL N) bk J L0 m0 ae (W,ln,lc) N (Q++[(a2,Z,a1)]) (a2,Z,a1) (some<|az gq 0) cq<|w6.setCell (az bk 2)<|dD gq (mq+1) cq):=by
       obtain⟨a9,aE⟩:=bF;subst a9 aE;exact a4.line eo eo eo eo aI aK aG
      have bT:Hid ((Q++[(a2,Z,a1)]).length=(k+1)+1/\Z=ln+(k+1)/\True):=⟨(by rw[db];show Q.length+1=_;have:=aS.1;omega),aS.2⟩;clear a4 H a0 k0 k1 f0 f1 bF aS aM a7 aK aI aG;go_wp2
      go_roundw
      case rel=>exact⟨k+1,(a2,Z,a1),Q++[(a2,Z,a1)],some<|az gq 0,cq,af,iI,rfl,bT,bH,trivial⟩
      case measure=>simp[intOf];omega
    obtain rfl:k=3:=by omega
    go_wp2
    go_end0;obtain⟨q1,q2,_⟩:=rQ;have hn1:=aH.out;have bI:=hN.out;subst bI;subst hn1;exact⟨rfl,Q,(xa,xn,xc),i,o,q1,q2,rT⟩
