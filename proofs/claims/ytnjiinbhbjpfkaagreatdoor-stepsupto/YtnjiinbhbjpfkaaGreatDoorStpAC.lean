import Derived.Test.YtnjiinbhbjpfkaaGreatDoorStpAB
set_option maxRecDepth 100000
set_option maxHeartbeats 0
set_option linter.all false
namespace Go.Proofs.YtnjiinbhbjpfkaaGreatDoor
open Go.RowKit Go.Proofs.Tryz
namespace F
open D
theorem ED(n:Nat)(N:Int):rowP (n*3) (mG N)++[.int .i64 N,.int .i64 0,.int .i64 0]=rowP ((n+1)*3) (mG N):=by
 have o:mG N (n*3)=.int .i64 N:=by unfold mG;rw[aj (by omega)]
 have i:mG N (n*3+1)=.int .i64 0:=by unfold mG;rw[aa (by omega)]
 have e:mG N (n*3+2)=.int .i64 0:=by unfold mG;rw[aa (by omega)]
 unfold rowP;rw[show(n+1)*3=n*3+1+1+1 by omega,eA,eA,eA];simp[o,i,e]
theorem EC(n:Nat)(N:Int):rowP (n*1) (qE N)++[.int .i64 N]=rowP ((n+1)*1) (qE N):=by
 unfold rowP;rw[show(n+1)*1=n*1+1 by omega,eA];simp[qE]
theorem wo.Cg{w:World}{N:Int}{g n c j:Nat}(h:wo w 48 3 (mG N) (some ⟨g,0,none⟩,n,c) j)(hj:j<n):wo (((w.setCell ⟨g,j*3,none⟩ (.int .i64 N)).setCell ⟨g,j*3+1,none⟩ (.int .i64 0)).setCell ⟨g,j*3+2,none⟩ (.int .i64 0)) 48 3 (mG N) (some ⟨g,0,none⟩,n,c) (j+1):=by
 rcases h with⟨i,_⟩|⟨g',i,u,W,J⟩
 .have G:n=0:=i;omega
 have e:g=g':=by injection i with i;injection i
 subst e;have y:n<=c:=u;have Z:mG N (j*3)=.int .i64 N:=by unfold mG;rw[aj (by omega)]
 have Y:mG N (j*3+1)=.int .i64 0:=by unfold mG;rw[aa (by omega)]
 have H:mG N (j*3+2)=.int .i64 0:=by unfold mG;rw[aa (by omega)]
 have o:Full w g 48 (c*3) (j*3) (mG N):=J;have:=((o.set (by omega)).set (by omega)).set (by omega);rw[Z,Y,H]at this;exact ab ⟨g,rfl,u,W,by rw[show(j+1)*3=j*3+1+1+1 by omega];exact this⟩
theorem wo.Cf{w:World}{N:Int}{g n c j:Nat}(h:wo w 3 1 (qE N) (some ⟨g,0,none⟩,n,c) j)(W:j<n):wo (w.setCell ⟨g,j,none⟩ (.int .i64 N)) 3 1 (qE N) (some ⟨g,0,none⟩,n,c) (j+1):=by
 rcases h with⟨i,_⟩|⟨g',i,u,J,H⟩
 .have G:n=0:=i;omega
 have e:g=g':=by injection i with i;injection i
 subst e;have y:n<=c:=u;have o:Full w g 3 (c*1) (j*1) (qE N):=H;rw[Nat.mul_one j]at o;refine ab ⟨g,rfl,u,J,?_⟩;rw[Nat.mul_one (j+1)];exact o.set (by show j<c*1;omega)
theorem uf.Cg{w wr:World}{N:Int}{bk m0 ce g n c j:Nat}{Ev:Nat->Value}{L0:List Value}{ae:Option Addr}(h:uf w 119 48 3 (mG N) bk Ev L0 m0 ae ce (some ⟨g,0,none⟩,n,c) j wr)(e:j<n):uf w 119 48 3 (mG N) bk Ev L0 m0 ae ce (some ⟨g,0,none⟩,n,c) (j+1) (((wr.setCell ⟨g,j*3,none⟩ (.int .i64 N)).setCell ⟨g,j*3+1,none⟩ (.int .i64 0)).setCell ⟨g,j*3+2,none⟩ (.int .i64 0)):=by
 exact h.next (by decide) (by decide) (wo.Cg h.z e) (bm (S:=λk=>eO (some (⟨g,0,none⟩:Addr))=some k) (a:=⟨g,j*3+2,none⟩) (bm (S:=λk=>eO (some (⟨g,0,none⟩:Addr))=some k) (a:=⟨g,j*3+1,none⟩) (bm (S:=λk=>eO (some (⟨g,0,none⟩:Addr))=some k) (a:=⟨g,j*3,none⟩) (dk _ _) (ag rfl) _) (ag rfl) _) (ag rfl) _)
theorem uf.Cf{w wr:World}{N:Int}{bk m0 ce g n c j:Nat}{Ev:Nat->Value}{L0:List Value}{ae:Option Addr}(h:uf w 121 3 1 (qE N) bk Ev L0 m0 ae ce (some ⟨g,0,none⟩,n,c) j wr)(e:j<n):uf w 121 3 1 (qE N) bk Ev L0 m0 ae ce (some ⟨g,0,none⟩,n,c) (j+1) (wr.setCell ⟨g,j,none⟩ (.int .i64 N)):=by
 exact h.next (by decide) (by decide) (wo.Cf h.z e) (bm (S:=λk=>eO (some (⟨g,0,none⟩:Addr))=some k) (a:=⟨g,j,none⟩) (dk _ _) (ag rfl) _)
theorem DW{wr G:World}{o:Obj}{bk f m ce u:Nat}{y:Array Value}{v:Value}{Ev:Nat->Value}{ae:Option Addr}{L:List Value}(hX:wr.heap[u]? = some (.cells y 48 (0,0)))(Z:Full wr bk 81 3 3 Ev)(hR:wr.ownsRow 0 119 2 (.slice ae m ce) m L)(W:(wr.alloc o).grownBy G (Value.slice ae m ce).ownBlock):(G.setCell ⟨bk,f,none⟩ v).heap[u]? = some (.cells y 48 (0,0)):=by
 have Y:=bz hX;have H:u≠bk:=λe=>by
  obtain⟨c2,i,_⟩:=Z;rw[e,i]at hX;injection hX with hX;injection hX with _ hX _;exact ch hX (by decide)
 have J:(Value.slice ae m ce).ownBlock≠some u:=λe=>by
  obtain⟨_,_,c2,i⟩:=dA hR u e;rw[i]at hX;injection hX with hX;injection hX with _ hX _;exact ch hX (by decide)
 rw[af _ _ _ _ H,W.block u (by simp;omega) (λe=>J e.symm),ak _ _ _ Y];exact hX
theorem Gs{wr H:World}{o ob:Obj}{G:Option Addr}{J Y u:Nat}{Z:Value}(hX:wr.heap[u]? = some ob)(y:eO G≠some u)(i:FL (wr.alloc o) H G J Y 1 Z):H.heap[u]? = some ob:=by
 have W:=bz hX;rcases i with⟨_,i⟩|⟨_,_,_,_,i⟩
 .rw[i.block u (by simp;omega) (λe=>y (by rw[<-dr G J Y];exact e.symm)),ak _ _ _ W];exact hX
 rw[i.block u (by simp;omega) (λe=>by cases e),ak _ _ _ W];exact hX
theorem IW{bk n m0 ce:Nat}{ae:Option Addr}{Ev:Nat->Value}{L0 xs:List Value}{la:Option Addr}{ln lc:Nat}{w:World}(hF:Full w bk 81 3 3 Ev)(h0:Ev 0=.int .i64 n)(h1:Ev 1=.slice ae m0 ce)(hR:w.ownsRow 0 119 2 (.slice ae m0 ce) m0 L0)(hL:w.ownsRow 0 48 3 (.slice la ln lc) ln xs)(hn:n<=1000000000)(hm:m0<=100000000)(hl:ln<=100000000): Calls prog 76 #[P0 bk,.slice la ln lc] w λe w'=>e=.returned (.tuple #[])/\∃Q x aA aB,Q.length=4/\x.2.1=ln+3/\ue w 119 48 3 1 (mG (-((n:Int)+1))) bk (ep Ev 0 (.int .i64 ((n:Int)+1))) L0 m0 ae (la,ln,lc) (-((n:Int)+1)) Q x aA aB w':=by
 obtain⟨i0,hi,b2,aW,b8⟩:=info_parts Tryz.Fg;obtain⟨j0,H,c9,bV,bR⟩:=info_parts Tryz.yP;obtain⟨c0,z0⟩:=hF.cells 0 (by omega);rw[h0]at c0;obtain⟨N1,aH⟩:∃N1:Int,N1=(n:Int)+1:=⟨_,rfl⟩;obtain⟨N,hN⟩:∃N:Int,N=-N1:=⟨_,rfl⟩;rw[<-aH,<-hN];have cB:IntKind.i64.wrap ((n:Int)+1)=N1:=by rw[bl,bd _ (by omega)];exact aH.symm
 have cC:IntKind.i64.wrap (-N1)=N:=by rw[bl,bd _ (by omega)];exact hN.symm
 have bS:=az hN;clear hN;have aY:Full (w.setCell ⟨bk,0,none⟩ (.int .i64 N1)) bk 81 3 3 (ep Ev 0 (.int .i64 N1)):=hF.ep 0 _;have bC:(w.setCell ⟨bk,0,none⟩ (.int .i64 N1)).ownsRow 0 119 2 (.slice ae m0 ce) m0 L0:=dD hR (λk hk=>af _ _ _ _ (eL hR hF (by decide) k hk));have b9:(w.setCell ⟨bk,0,none⟩ (.int .i64 N1)).ownsRow 0 48 3 (.slice la ln lc) ln xs:=dD hL (λk hk=>af _ _ _ _ (eL hL hF (by decide) k hk));have aU:dy (λk=>k=bk\/eO ae=some k\/eO la=some k) w (w.setCell ⟨bk,0,none⟩ (.int .i64 N1)):=bm (S:=λk=>k=bk\/eO ae=some k\/eO la=some k) (a:=⟨bk,0,none⟩) (dk _ _) (ag (ag rfl)) _;have bD:=λk hk=>(dA hL k (by rw[dr];exact hk)).2.1;have bB:(w.setCell ⟨bk,0,none⟩ (.int .i64 N1)).heap.size=w.heap.size:=by simp[World.setCell]
 have bI:(ep Ev 0 (.int .i64 N1)) 1=.slice ae m0 ce:=by unfold ep;rw[aa (by decide)];exact h1
 have bH:(ep Ev 0 (.int .i64 N1)) 0=.int .i64 N1:=by unfold ep;rw[aj rfl]
 have bA:=az aY;have b1:=az bC;have aZ:=az b9;have b5:=az aU;have bJ:=az bD;have HE:=az (ay bH bI);have bL:=az aH;clear aY bC b9 aU bD bH bI aH h0 h1 hF hR hL;generalize ep Ev 0 (.int .i64 N1)=W at *;go_in;go_wp2_with fail
 have aI:=bf (w.setCell ⟨bk,0,none⟩ (.int .i64 N1)) (.cells #[.int .i64 N,.int .i64 0,.int .i64 0] 48);have aS:Hid ((w.setCell ⟨bk,0,none⟩ (.int .i64 N1)).grownBy ((w.setCell ⟨bk,0,none⟩ (.int .i64 N1)).alloc (.cells #[.int .i64 N,.int .i64 0,.int .i64 0] 48)) none):=ah _ _ _;generalize (w.setCell ⟨bk,0,none⟩ (.int .i64 N1)).alloc (.cells #[.int .i64 N,.int .i64 0,.int .i64 0] 48)=w2 at *;generalize w.setCell ⟨bk,0,none⟩ (.int .i64 N1)=w1 at *;rw[bB]at aI;obtain⟨Y,aT⟩:∃Y,Y=w.heap.size:=⟨_,rfl⟩;rw[<-aT]at aI ⊢;have cF:w.heap.size<=Y:=by omega
 have b6:=az aI;clear aI aT;have b4:Hid (uf w 119 48 3 (mG N) bk W L0 m0 ae ce (la,ln,lc) 0 w2):=uf.Ki bA b1 aZ b5 aS;clear bA b1 aZ b5 aS bB z0 c0;go_loopw [5] (λiv wx=>∃j:Nat,j<=ln/\iv=.int .i64 j/\Hid (uf w 119 48 3 (mG N) bk W L0 m0 ae ce (la,ln,lc) j wx)/\Hid (wx.heap[Y]? = some (.cells #[.int .i64 N,.int .i64 0,.int .i64 0] 48 (0,0)))) (λiv _=>ln-(intOf iv).toNat)
 case atStart=>exact⟨0,by omega,rfl,b4,b6⟩
 case round=>
  clear b4 b6;obtain⟨j,bQ,rfl,rV,rX⟩:=hrel;have a7:=rV.f.lt;obtain⟨k0,f0⟩:=rV.f.cells 0 (by omega);obtain⟨k1,f1⟩:=rV.f.cells 1 (by omega);rw[HE.1]at k0;rw[HE.2]at k1;have x0:wr.cell? ⟨Y,0,none⟩=some (.int .i64 N):=by simp[World.cell?,rX.out]
  have x1:wr.cell? ⟨Y,1,none⟩=some (.int .i64 0):=by simp[World.cell?,rX.out]
  have x2:wr.cell? ⟨Y,2,none⟩=some (.int .i64 0):=by simp[World.cell?,rX.out]
  by_cases b7:j<ln
  .obtain⟨Z,hq,hB,c7⟩:=rV.z.place b7;simp only at hq hB c7;subst hq;have b0:(j:Int)<ln:=by omega
   obtain⟨⟨v0,q0⟩,p0⟩:=hB.cell (j*3) (by omega);obtain⟨⟨v1,q1⟩,p1⟩:=hB.cell (j*3+1) (by omega);obtain⟨⟨v2,q2⟩,p2⟩:=hB.cell (j*3+2) (by omega);have c6:Hid (uf w 119 48 3 (mG N) bk W L0 m0 ae ce (some ⟨Z,0,none⟩,ln,lc) (j+1) (((wr.setCell ⟨Z,j*3,none⟩ (.int .i64 N)).setCell ⟨Z,j*3+1,none⟩ (.int .i64 0)).setCell ⟨Z,j*3+2,none⟩ (.int .i64 0))):=rV.Cg b7;have aP:Y≠Z:=by have:=bJ Z rfl;omega
   have bO:Hid ((((wr.setCell ⟨Z,j*3,none⟩ (.int .i64 N)).setCell ⟨Z,j*3+1,none⟩ (.int .i64 0)).setCell ⟨Z,j*3+2,none⟩ (.int .i64 0)).heap[Y]? = some (.cells #[.int .i64 N,.int .i64 0,.int .i64 0] 48 (0,0))):=by
    show _=_;rw[af _ _ _ _ aP,af _ _ _ _ aP,af _ _ _ _ aP];exact rX
   clear hB;go_wp2_with fail
   go_roundw
   case rel=>exact⟨j+1,by omega,by go_num,c6,bO⟩
   case measure=>simp[intOf];omega
  have b0:¬((j:Int)<ln):=by omega
  have c8:ln=j:=by omega
  subst c8;have aD:Hid (ue w 119 48 3 1 (mG N) bk W L0 m0 ae (la,ln,lc) N [] (la,ln,lc) ae ce wr):=rV.done HE.2;have G:=az rV.r;have a2:Hid (∀k,(Value.slice ae m0 ce).ownBlock=some k->k≠bk/\k<wr.heap.size):=λk hk=>⟨eL G rV.f (by decide) k hk,(dA G k hk).2.1⟩;clear rV bQ;obtain⟨i,aC⟩:∃i,i=ae:=⟨_,rfl⟩;obtain⟨o,a6⟩:∃o,o=ce:=⟨_,rfl⟩;have aD:Hid (ue w 119 48 3 1 (mG N) bk W L0 m0 ae (la,ln,lc) N [] (la,ln,lc) i o wr):=by rw[aC,a6];exact aD
  rw[<-aC,<-a6]at k1 G a2;clear aC a6;go_wp2_with fail
  go_cut [] (λwx=>∃(aA:Option Addr) (aB:Nat),Hid (ue w 119 48 3 1 (mG N) bk W L0 m0 ae (la,ln,lc) N [(la,ln,lc)] (la,ln,lc) aA aB wx)/\Hid (wx.heap[Y]? = some (.cells #[.int .i64 N,.int .i64 0,.int .i64 0] 48 (0,0))))
  case first=>
   go_region_law (refine eS _ rfl (.tmp 35) (.tmp 43) 78 rfl 119 i0 _ 2 32 Tryz.underlying78 hi b2 aW b8 rfl (by decide) i m0 o L0 (by first|rfl|simp[Act.eval,Act.put]) (dD G (λk h=>ak _ _ _ (a2 k h).2)) ⟨wr.heap.size,0,none⟩ 1 1 [.slice la ln lc,.int .i64 N] (by first|rfl|simp[Act.eval,Act.put]) rfl (by intro j u H;match j,H with|0,H=>(simp at H;subst H;simp[Addr.add,go_sem])|1,H=>(simp at H;subst H;simp[Addr.add,go_sem])) (by simp[Value.oneCell']) (by unfold maxLen;omega) (by omega) (by decide) ?_;intro v' w6 ho J a8;have hg:World.grownBy (wr.alloc (.cells #[.slice la ln lc,.int .i64 N] 119)) w6 (Value.slice i m0 o).ownBlock:=⟨J.os,J.tape,J.output,J.size,J.block⟩;clear J;obtain⟨Z,cq,rfl⟩:=dM ho (by omega);have aG:Hid ((Value.slice i m0 o).ownBlock=some Z\/wr.heap.size<=Z):=(by rcases a8 with h|⟨g',h,hl⟩;exact ag h.symm;exact ab (by have e:Z=g':=(by injection h);simp at hl;omega));clear a8;have aJ:=az ho;have aK:=az hg;have bT:wr.heap.size<w6.heap.size:=(by have h9:=hg.size;simp at h9;omega);have a5:=((hg.block bk (by simp;omega) (λh=>(a2 bk h.symm).1 rfl)).trans (ak _ _ _ a7));have d6:w6.cell? ⟨bk,1,none⟩=some (.slice i m0 o):=(aw (a:=⟨bk,1,none⟩) a5).trans k1;have y6:w6.frozen? ⟨bk,1,none⟩=false:=(dg (a:=⟨bk,1,none⟩) a5).trans f1;have aR:Hid ((w6.setCell ⟨bk,1,none⟩ (.slice (some ⟨Z,0,none⟩) (m0+1) cq)).heap[Y]? = some (.cells #[.int .i64 N,.int .i64 0,.int .i64 0] 48 (0,0))):=DW rX aD.f G hg;clear a5 ho hg)
   all_goals
    go_wp2_with fail
    go_meet
    case rel=>exact⟨some ⟨Z,0,none⟩,cq,aD.line (Q:=[]) (by decide) (by decide) (by decide) (by decide) (by have e:L0++gQ (([]:List Sl).map (λy=>(y,N)))=L0:=(by unfold gQ;simp);rw[e];exact aJ) aK aG,aR⟩
  case rest=>
   obtain⟨bY,bP,b3,aX⟩:=hcut;clear aD G a2 k1 f1 a7 x0 x1 x2 rX;go_wp2_with fail
   go_loopw [6,7] (λgv kv wx=>∃(k:Nat) (x:Sl) (Q:List Sl) (aA:Option Addr) (aB:Nat),k<=3/\kv=.int .i64 k/\gv=.slice x.1 x.2.1 x.2.2/\Hid (Q.length=k+1/\x.2.1=ln+k/\eO x.1≠some Y)/\Hid (ue w 119 48 3 1 (mG N) bk W L0 m0 ae (la,ln,lc) N Q x aA aB wx)/\Hid (wx.heap[Y]? = some (.cells #[.int .i64 N,.int .i64 0,.int .i64 0] 48 (0,0)))) (λ_ kv _=>3-(intOf kv).toNat)
   case atStart=>exact⟨0,(la,ln,lc),[(la,ln,lc)],bY,bP,by omega,rfl,rfl,⟨rfl,rfl,(λe=>by have:=bJ Y e;omega)⟩,b3,aX⟩
   case round=>
    clear b3 aX;obtain⟨k,⟨xa,xn,xc⟩,Q,i,o,cD,rfl,rfl,rQ,rT,rX⟩:=hrel;simp only at rQ;by_cases hk:k<3
    .have cA:(k:Int)<3:=by omega
     have aN:Hid (wr.ownsRow 0 48 3 (.slice xa xn xc) xn (rowP (xn*3) (mG N))):=rT.x.1;have bE:=az (λk hk=>(dA aN k hk).2.1);have bX:xn<=100000003:=by have:=rQ.2.1;omega
     obtain⟨k0,f0⟩:=rT.f.cells 0 (by omega);have lx:=bz rX;have x0:wr.cell? ⟨Y,0,none⟩=some (.int .i64 N):=by simp[World.cell?,rX.out]
     have x1:wr.cell? ⟨Y,1,none⟩=some (.int .i64 0):=by simp[World.cell?,rX.out]
     have x2:wr.cell? ⟨Y,2,none⟩=some (.int .i64 0):=by simp[World.cell?,rX.out]
     go_wp2_with (at_builtin;refine lV rfl (.tmp 52) (.tmp 54) 45 rfl 48 j0 _ 3 24 underlying45 H c9 bV bR rfl (by decide) _ _ _ _ rfl (dD aN (λk h=>ak _ _ _ (bE k h))) ⟨wr.heap.size,0,none⟩ 1 1 [.int .i64 N,.int .i64 0,.int .i64 0] rfl rfl ?c1 ?c2 ?c3 ?c4 ?c5 ?_)
     try case c1=>intro j u H;match j,H with|0,H=>(simp at H;subst H;simp[Addr.add,go_sem])|1,H=>(simp at H;subst H;simp[Addr.add,go_sem])|2,H=>(simp at H;subst H;simp[Addr.add,go_sem])
     try case c2=>simp[Value.oneCell']
     try case c3=>unfold maxLen;omega
     try case c4=>omega
     try case c5=>omega
     intro v' w5 ho aM;obtain⟨⟨a1,a0,a3⟩,hv,bF,aO,bG⟩:=rT.more (by decide) (by decide) (by decide) (by decide) (ED xn N) ho aM;have bU:v'=.slice a1 a0 a3:=hv;simp only at bF aO;subst bU;have a4:=az bG;have aV:=az (Gs rX rQ.2.2 aM);have aQ:Hid (Q.length=k+1/\a0=ln+(k+1)/\eO a1≠some Y):=⟨rQ.1,(by have:=rQ.2.1;omega),(λe=>by rcases aO Y e with h|h;exact rQ.2.2 h;omega)⟩;have aL:m0+Q.length<=100000010:=by have:=rQ.1;omega
     clear ho aM hv bF aO bG aN bE bX x0 x1 x2 rX rT rQ;have G:=az a4.r;have a2:Hid (∀k,(Value.slice i (m0+Q.length) o).ownBlock=some k->k≠bk/\k<w5.heap.size):=λk hk=>⟨eL G a4.f (by decide) k hk,(dA G k hk).2.1⟩;have a7:=a4.f.lt;obtain⟨k0,f0⟩:=a4.f.cells 0 (by omega);obtain⟨k1,f1⟩:=a4.f.cells 1 (by omega);rw[show ep W 1 (.slice i (m0+Q.length) o) 0=.int .i64 N1 from(by unfold ep;rw[aa (by decide)];exact HE.1)]at k0;rw[show ep W 1 (.slice i (m0+Q.length) o) 1=.slice i (m0+Q.length) o from(by unfold ep;rw[aj rfl])]at k1;obtain⟨mq,a9⟩:∃mq,mq=m0+Q.length:=⟨_,rfl⟩;obtain⟨Lq,aE⟩:∃Lq,Lq=L0++gQ (Q.map (λy=>(y,N))):=⟨_,rfl⟩;have bK:=az (ay a9 aE);rw[<-a9]at k1 G a2 aL;rw[<-aE]at G;clear a9 aE;go_wp2_with fail
     go_region_law (refine eS _ rfl (.tmp 60) (.tmp 68) 78 rfl 119 i0 _ 2 32 Tryz.underlying78 hi b2 aW b8 rfl (by decide) i mq o Lq (by first|rfl|simp[Act.eval,Act.put]) (dD G (λk h=>ak _ _ _ (a2 k h).2)) ⟨w5.heap.size,0,none⟩ 1 1 [.slice a1 a0 a3,.int .i64 N] (by first|rfl|simp[Act.eval,Act.put]) rfl (by intro j u H;match j,H with|0,H=>(simp at H;subst H;simp[Addr.add,go_sem])|1,H=>(simp at H;subst H;simp[Addr.add,go_sem])) (by simp[Value.oneCell']) (by unfold maxLen;omega) (by omega) (by decide) ?_;intro v' w6 ho J a8;have hg:World.grownBy (w5.alloc (.cells #[.slice a1 a0 a3,.int .i64 N] 119)) w6 (Value.slice i mq o).ownBlock:=⟨J.os,J.tape,J.output,J.size,J.block⟩;clear J;obtain⟨Z,cq,rfl⟩:=dM ho (by omega);have aG:Hid ((Value.slice i mq o).ownBlock=some Z\/w5.heap.size<=Z):=(by rcases a8 with h|⟨g',h,hl⟩;exact ag h.symm;exact ab (by have e:Z=g':=(by injection h);simp at hl;omega));clear a8;have aJ:=az ho;have aK:=az hg;have bT:w5.heap.size<w6.heap.size:=(by have h9:=hg.size;simp at h9;omega);have a5:=((hg.block bk (by simp;omega) (λh=>(a2 bk h.symm).1 rfl)).trans (ak _ _ _ a7));have d6:=(aw (a:=⟨bk,1,none⟩) a5).trans k1;have y6:=(dg (a:=⟨bk,1,none⟩) a5).trans f1;have aR:Hid ((w6.setCell ⟨bk,1,none⟩ (.slice (some ⟨Z,0,none⟩) (mq+1) cq)).heap[Y]? = some (.cells #[.int .i64 N,.int .i64 0,.int .i64 0] 48 (0,0))):=DW aV a4.f G hg;clear a5 ho hg)
     all_goals
      have bM:Hid (ue w 119 48 3 1 (mG N) bk W L0 m0 ae (la,ln,lc) N (Q++[(a1,a0,a3)]) (a1,a0,a3) (some ⟨Z,0,none⟩) cq (w6.setCell ⟨bk,1,none⟩ (.slice (some ⟨Z,0,none⟩) (mq+1) cq))):=by
       obtain⟨a9,aE⟩:=bK;subst a9 aE;exact a4.line (by decide) (by decide) (by decide) (by decide) aJ aK aG
      have bZ:Hid ((Q++[(a1,a0,a3)]).length=(k+1)+1/\a0=ln+(k+1)/\eO a1≠some Y):=⟨(by rw[bo];show Q.length+1=_;have:=aQ.1;omega),aQ.2⟩;clear a4 G a2 k1 f1 bK aQ aL a7 aK aJ aG aV;go_wp2_with fail
      go_roundw
      case rel=>exact⟨k+1,(a1,a0,a3),Q++[(a1,a0,a3)],some ⟨Z,0,none⟩,cq,by omega,by go_num,rfl,bZ,bM,aR⟩
      case measure=>simp[intOf];omega
    obtain rfl:k=3:=by omega
    go_wp2_with fail
    go_end0;obtain⟨q1,q2,_⟩:=rQ;have hn1:=bL.out;have bN:=bS.out;subst bN;subst hn1;exact⟨rfl,Q,(xa,xn,xc),i,o,q1,q2,rT⟩
theorem IV{bk n m0 ce:Nat}{ae:Option Addr}{Ev:Nat->Value}{L0 xs:List Value}{W:Option Addr}{ln lc:Nat}{w:World}(hF:Full w bk 81 3 3 Ev)(h0:Ev 0=.int .i64 n)(h1:Ev 2=.slice ae m0 ce)(hR:w.ownsRow 0 121 2 (.slice ae m0 ce) m0 L0)(hL:w.ownsRow 0 3 1 (.slice W ln lc) ln xs)(hn:n<=1000000000)(hm:m0<=100000000)(hl:ln<=100000000): Calls prog 78 #[P0 bk,.slice W ln lc] w λe w'=>e=.returned (.tuple #[])/\∃Q x aA aC,Q.length=4/\x.2.1=ln+3/\ue w 121 3 1 2 (qE (-((n:Int)+1))) bk (ep Ev 0 (.int .i64 ((n:Int)+1))) L0 m0 ae (W,ln,lc) (-((n:Int)+1)) Q x aA aC w':=by
 obtain⟨i0,hi,aY,aU,b4⟩:=info_parts Tryz.Ff;obtain⟨j0,Y,bX,bP,bL⟩:=info_parts Tryz.Hq;obtain⟨c0,z0⟩:=hF.cells 0 (by omega);rw[h0]at c0;obtain⟨N1,aH⟩:∃N1:Int,N1=(n:Int)+1:=⟨_,rfl⟩;obtain⟨N,hN⟩:∃N:Int,N=-N1:=⟨_,rfl⟩;rw[<-aH,<-hN];have bZ:IntKind.i64.wrap ((n:Int)+1)=N1:=by rw[bl,bd _ (by omega)];exact aH.symm
 have c6:IntKind.i64.wrap (-N1)=N:=by rw[bl,bd _ (by omega)];exact hN.symm
 have bM:=az hN;clear hN;have aW:Full (w.setCell ⟨bk,0,none⟩ (.int .i64 N1)) bk 81 3 3 (ep Ev 0 (.int .i64 N1)):=hF.ep 0 _;have b8:(w.setCell ⟨bk,0,none⟩ (.int .i64 N1)).ownsRow 0 121 2 (.slice ae m0 ce) m0 L0:=dD hR (λk hk=>af _ _ _ _ (eL hR hF (by decide) k hk));have b6:(w.setCell ⟨bk,0,none⟩ (.int .i64 N1)).ownsRow 0 3 1 (.slice W ln lc) ln xs:=dD hL (λk hk=>af _ _ _ _ (eL hL hF (by decide) k hk));have aT:dy (λk=>k=bk\/eO ae=some k\/eO W=some k) w (w.setCell ⟨bk,0,none⟩ (.int .i64 N1)):=bm (S:=λk=>k=bk\/eO ae=some k\/eO W=some k) (a:=⟨bk,0,none⟩) (dk _ _) (ag (ag rfl)) _;have b9:=λk hk=>(dA hL k (by rw[dr];exact hk)).2.1;have b7:(w.setCell ⟨bk,0,none⟩ (.int .i64 N1)).heap.size=w.heap.size:=by simp[World.setCell]
 have bE:(ep Ev 0 (.int .i64 N1)) 2=.slice ae m0 ce:=by unfold ep;rw[aa (by decide)];exact h1
 have bD:(ep Ev 0 (.int .i64 N1)) 0=.int .i64 N1:=by unfold ep;rw[aj rfl]
 have aR:=az aW;have aO:=az b8;have aN:=az b6;have aP:=az aT;have c8:=az b9;have HE:=az (ay bD bE);have bG:=az aH;clear aW b8 b6 aT b9 bD bE aH h0 h1 hF hR hL;generalize ep Ev 0 (.int .i64 N1)=J at *;go_in;go_wp2_with fail
 have a5:Hid ((w.setCell ⟨bk,0,none⟩ (.int .i64 N1)).grownBy (w.setCell ⟨bk,0,none⟩ (.int .i64 N1)) none):=ax _ _;obtain⟨w1,aL⟩:∃w1:World,w1=w.setCell ⟨bk,0,none⟩ (.int .i64 N1):=⟨_,rfl⟩;rw[<-aL]at aR aO aN aP b7 a5 ⊢;clear aL;obtain⟨w2,aB⟩:∃w2:World,w2=w1:=⟨_,rfl⟩;rw[<-aB];have a5:Hid (w1.grownBy w2 none):=by rw[aB];exact a5
 clear aB;have b2:=az trivial;have b1:Hid (uf w 121 3 1 (qE N) bk J L0 m0 ae ce (W,ln,lc) 0 w2):=uf.Ki aR aO aN aP a5;clear aR aO aN aP a5 b7 z0 c0;go_loopw [4] (λiv wx=>∃j:Nat,j<=ln/\iv=.int .i64 j/\Hid (uf w 121 3 1 (qE N) bk J L0 m0 ae ce (W,ln,lc) j wx)/\Hid (True)) (λiv _=>ln-(intOf iv).toNat)
 case atStart=>exact⟨0,by omega,rfl,b1,b2⟩
 case round=>
  clear b1 b2;obtain⟨j,bK,rfl,rV,rX⟩:=hrel;have a7:=rV.f.lt;obtain⟨k0,f0⟩:=rV.f.cells 0 (by omega);obtain⟨k1,f1⟩:=rV.f.cells 2 (by omega);rw[HE.1]at k0;rw[HE.2]at k1;by_cases b3:j<ln
  .obtain⟨gq,hq,hB,bV⟩:=rV.z.place b3;simp only at hq hB bV;subst hq;have aX:(j:Int)<ln:=by omega
   obtain⟨⟨v0,q0⟩,p0⟩:=hB.cell j (by omega);have bU:Hid (uf w 121 3 1 (qE N) bk J L0 m0 ae ce (some ⟨gq,0,none⟩,ln,lc) (j+1) (wr.setCell ⟨gq,j,none⟩ (.int .i64 N))):=rV.Cf b3;clear hB;go_wp2_with fail
   go_roundw
   case rel=>exact⟨j+1,by omega,by go_num,bU,trivial⟩
   case measure=>simp[intOf];omega
  have aX:¬((j:Int)<ln):=by omega
  have bW:ln=j:=by omega
  subst bW;have aJ:Hid (ue w 121 3 1 2 (qE N) bk J L0 m0 ae (W,ln,lc) N [] (W,ln,lc) ae ce wr):=rV.done HE.2;have H:=az rV.r;have a0:Hid (∀k,(Value.slice ae m0 ce).ownBlock=some k->k≠bk/\k<wr.heap.size):=λk hk=>⟨eL H rV.f (by decide) k hk,(dA H k hk).2.1⟩;clear rV bK;obtain⟨i,aD⟩:∃i,i=ae:=⟨_,rfl⟩;obtain⟨o,a6⟩:∃o,o=ce:=⟨_,rfl⟩;have aJ:Hid (ue w 121 3 1 2 (qE N) bk J L0 m0 ae (W,ln,lc) N [] (W,ln,lc) i o wr):=by rw[aD,a6];exact aJ
  rw[<-aD,<-a6]at k1 H a0;clear aD a6;go_wp2_with fail
  go_cut [] (λwx=>∃(aA:Option Addr) (aC:Nat),Hid (ue w 121 3 1 2 (qE N) bk J L0 m0 ae (W,ln,lc) N [(W,ln,lc)] (W,ln,lc) aA aC wx)/\Hid (True))
  case first=>
   go_region_law (refine eS _ rfl (.tmp 32) (.tmp 40) 79 rfl 121 i0 _ 2 32 Tryz.underlying79 hi aY aU b4 rfl (by decide) i m0 o L0 (by first|rfl|simp[Act.eval,Act.put]) (dD H (λk h=>ak _ _ _ (a0 k h).2)) ⟨wr.heap.size,0,none⟩ 1 1 [.slice W ln lc,.int .i64 N] (by first|rfl|simp[Act.eval,Act.put]) rfl (by intro j u Y;match j,Y with|0,Y=>(simp at Y;subst Y;simp[Addr.add,go_sem])|1,Y=>(simp at Y;subst Y;simp[Addr.add,go_sem])) (by simp[Value.oneCell']) (by unfold maxLen;omega) (by omega) (by decide) ?_;intro v' w6 ho G a8;have hg:World.grownBy (wr.alloc (.cells #[.slice W ln lc,.int .i64 N] 121)) w6 (Value.slice i m0 o).ownBlock:=⟨G.os,G.tape,G.output,G.size,G.block⟩;clear G;obtain⟨gq,cq,rfl⟩:=dM ho (by omega);have aG:Hid ((Value.slice i m0 o).ownBlock=some gq\/wr.heap.size<=gq):=(by rcases a8 with h|⟨g',h,hl⟩;exact ag h.symm;exact ab (by have e:gq=g':=(by injection h);simp at hl;omega));clear a8;have aI:=az ho;have aK:=az hg;have bN:wr.heap.size<w6.heap.size:=(by have h9:=hg.size;simp at h9;omega);have a3:=((hg.block bk (by simp;omega) (λh=>(a0 bk h.symm).1 rfl)).trans (ak _ _ _ a7));have d6:w6.cell? ⟨bk,2,none⟩=some (.slice i m0 o):=(aw (a:=⟨bk,2,none⟩) a3).trans k1;have y6:w6.frozen? ⟨bk,2,none⟩=false:=(dg (a:=⟨bk,2,none⟩) a3).trans f1;clear a3 ho hg)
   all_goals
    go_wp2_with fail
    go_meet
    case rel=>exact⟨some ⟨gq,0,none⟩,cq,aJ.line (Q:=[]) (by decide) (by decide) (by decide) (by decide) (by have e:L0++gQ (([]:List Sl).map (λy=>(y,N)))=L0:=(by unfold gQ;simp);rw[e];exact aI) aK aG,trivial⟩
  case rest=>
   obtain⟨bS,bJ,aZ,aV⟩:=hcut;clear aJ H a0 k0 f0 k1 f1 a7 rX;go_wp2_with fail
   go_loopw [5,6] (λgv kv wx=>∃(k:Nat) (x:Sl) (Q:List Sl) (aA:Option Addr) (aC:Nat),k<=3/\kv=.int .i64 k/\gv=.slice x.1 x.2.1 x.2.2/\Hid (Q.length=k+1/\x.2.1=ln+k/\True)/\Hid (ue w 121 3 1 2 (qE N) bk J L0 m0 ae (W,ln,lc) N Q x aA aC wx)/\Hid (True)) (λ_ kv _=>3-(intOf kv).toNat)
   case atStart=>exact⟨0,(W,ln,lc),[(W,ln,lc)],bS,bJ,by omega,rfl,rfl,⟨rfl,rfl,trivial⟩,aZ,aV⟩
   case round=>
    clear aZ aV;obtain⟨k,⟨xa,xn,xc⟩,Q,i,o,c7,rfl,rfl,rQ,rT,rX⟩:=hrel;simp only at rQ;by_cases hk:k<3
    .have bY:(k:Int)<3:=by omega
     have aQ:Hid (wr.ownsRow 0 3 1 (.slice xa xn xc) xn (rowP (xn*1) (qE N))):=rT.x.1;have bA:=az (λk hk=>(dA aQ k hk).2.1);have bR:xn<=100000003:=by have:=rQ.2.1;omega
     obtain⟨k0,f0⟩:=rT.f.cells 0 (by omega);rw[show ep J 2 (.slice i (m0+Q.length) o) 0=.int .i64 N1 from(by unfold ep;rw[aa (by decide)];exact HE.1)]at k0;go_wp2_with (at_builtin;refine lV rfl (.tmp 49) (.tmp 55) 54 rfl 3 j0 _ 1 8 Tryz.tS Y bX bP bL rfl (by decide) _ _ _ _ rfl (dD aQ (λk h=>ak _ _ _ (bA k h))) ⟨wr.heap.size,0,none⟩ 1 1 [.int .i64 N] rfl rfl ?c1 ?c2 ?c3 ?c4 ?c5 ?_)
     try case c1=>intro j u Y;match j,Y with|0,Y=>(simp at Y;subst Y;simp[Addr.add,go_sem])
     try case c2=>simp[Value.oneCell']
     try case c3=>unfold maxLen;omega
     try case c4=>omega
     try case c5=>omega
     intro v' w5 ho b0;obtain⟨⟨a2,Z,a1⟩,hv,bB,b5,bC⟩:=rT.more (by decide) (by decide) (by decide) (by decide) (EC xn N) (by simp only[Nat.mul_one];exact ho) b0;have bO:v'=.slice a2 Z a1:=hv;simp only at bB b5;subst bO;have a4:=az bC;have aS:Hid (Q.length=k+1/\Z=ln+(k+1)/\True):=⟨rQ.1,(by have:=rQ.2.1;omega),trivial⟩;have aM:m0+Q.length<=100000010:=by have:=rQ.1;omega
     clear ho b0 hv bB b5 bC aQ bA bR k0 f0 rX rT rQ;have H:=az a4.r;have a0:Hid (∀k,(Value.slice i (m0+Q.length) o).ownBlock=some k->k≠bk/\k<w5.heap.size):=λk hk=>⟨eL H a4.f (by decide) k hk,(dA H k hk).2.1⟩;have a7:=a4.f.lt;obtain⟨k0,f0⟩:=a4.f.cells 0 (by omega);obtain⟨k1,f1⟩:=a4.f.cells 2 (by omega);rw[show ep J 2 (.slice i (m0+Q.length) o) 0=.int .i64 N1 from(by unfold ep;rw[aa (by decide)];exact HE.1)]at k0;rw[show ep J 2 (.slice i (m0+Q.length) o) 2=.slice i (m0+Q.length) o from(by unfold ep;rw[aj rfl])]at k1;obtain⟨mq,a9⟩:∃mq,mq=m0+Q.length:=⟨_,rfl⟩;obtain⟨Lq,aE⟩:∃Lq,Lq=L0++gQ (Q.map (λy=>(y,N))):=⟨_,rfl⟩;have bF:=az (ay a9 aE);rw[<-a9]at k1 H a0 aM;rw[<-aE]at H;clear a9 aE;go_wp2_with fail
     go_region_law (refine eS _ rfl (.tmp 61) (.tmp 69) 79 rfl 121 i0 _ 2 32 Tryz.underlying79 hi aY aU b4 rfl (by decide) i mq o Lq (by first|rfl|simp[Act.eval,Act.put]) (dD H (λk h=>ak _ _ _ (a0 k h).2)) ⟨w5.heap.size,0,none⟩ 1 1 [.slice a2 Z a1,.int .i64 N] (by first|rfl|simp[Act.eval,Act.put]) rfl (by intro j u Y;match j,Y with|0,Y=>(simp at Y;subst Y;simp[Addr.add,go_sem])|1,Y=>(simp at Y;subst Y;simp[Addr.add,go_sem])) (by simp[Value.oneCell']) (by unfold maxLen;omega) (by omega) (by decide) ?_;intro v' w6 ho G a8;have hg:World.grownBy (w5.alloc (.cells #[.slice a2 Z a1,.int .i64 N] 121)) w6 (Value.slice i mq o).ownBlock:=⟨G.os,G.tape,G.output,G.size,G.block⟩;clear G;obtain⟨gq,cq,rfl⟩:=dM ho (by omega);have aG:Hid ((Value.slice i mq o).ownBlock=some gq\/w5.heap.size<=gq):=(by rcases a8 with h|⟨g',h,hl⟩;exact ag h.symm;exact ab (by have e:gq=g':=(by injection h);simp at hl;omega));clear a8;have aI:=az ho;have aK:=az hg;have bN:w5.heap.size<w6.heap.size:=(by have h9:=hg.size;simp at h9;omega);have a3:=((hg.block bk (by simp;omega) (λh=>(a0 bk h.symm).1 rfl)).trans (ak _ _ _ a7));have d6:=(aw (a:=⟨bk,2,none⟩) a3).trans k1;have y6:=(dg (a:=⟨bk,2,none⟩) a3).trans f1;clear a3 ho hg)
     all_goals
      have bH:Hid (ue w 121 3 1 2 (qE N) bk J L0 m0 ae (W,ln,lc) N (Q++[(a2,Z,a1)]) (a2,Z,a1) (some ⟨gq,0,none⟩) cq (w6.setCell ⟨bk,2,none⟩ (.slice (some ⟨gq,0,none⟩) (mq+1) cq))):=by
       obtain⟨a9,aE⟩:=bF;subst a9 aE;exact a4.line (by decide) (by decide) (by decide) (by decide) aI aK aG
      have bT:Hid ((Q++[(a2,Z,a1)]).length=(k+1)+1/\Z=ln+(k+1)/\True):=⟨(by rw[bo];show Q.length+1=_;have:=aS.1;omega),aS.2⟩;clear a4 H a0 k0 k1 f0 f1 bF aS aM a7 aK aI aG;go_wp2_with fail
      go_roundw
      case rel=>exact⟨k+1,(a2,Z,a1),Q++[(a2,Z,a1)],some ⟨gq,0,none⟩,cq,by omega,by go_num,rfl,bT,bH,trivial⟩
      case measure=>simp[intOf];omega
    obtain rfl:k=3:=by omega
    go_wp2_with fail
    go_end0;obtain⟨q1,q2,_⟩:=rQ;have hn1:=bG.out;have bI:=bM.out;subst bI;subst hn1;exact⟨rfl,Q,(xa,xn,xc),i,o,q1,q2,rT⟩
theorem Ai:∀{E:List (Sl×Int)} {k:Nat} {x:Sl×Int},E[k]? = some x->(gQ E)[k*2]? = some (oL x.1)/\(gQ E)[k*2+1]? = some (.int .i64 x.2)
 | [],k,x,h=>by simp at h
 | y :: E,0,x,h=>by
  have e:y=x:=by simpa using h
  subst e;exact⟨rfl,rfl⟩
 | y :: E,k+1,x,h=>by
  have:=Ai (E:=E) (k:=k) (x:=x) (by simpa using h);have i:gQ (y :: E)=oL y.1 :: .int .i64 y.2 :: gQ E:=by unfold gQ;simp
  rw[i,show(k+1)*2=k*2+2 by omega];exact this
theorem hZ{w:World}{i sz g n cap j:Nat}{e:TypeId}{x:Value}{xs:List Value}(h:w.ownsRow i e sz (.slice (some ⟨g,0,none⟩) n cap) n xs)(hx:xs[j]? = some x):w.cell? ⟨g,j,none⟩=some x:=by
 rcases h.2 with⟨h,_⟩|⟨g',J,o,y,_,H,_,_,W,G⟩
 .cases h
 cases y;have u:j<n*sz:=by
  have:=(bu.1 hx).1;have:=h.1;omega
 have:o[j]? = some x:=by
  rw[<-G,dh,aj u]at hx;simpa using hx
 simp[World.cell?,H,this]
theorem zW{w:World}{T':TypeId}{ra:Option Addr}{c k:Nat}{E:List (Sl×Int)}{x:Sl×Int}(h:w.ownsRow 0 T' 2 (.slice ra E.length c) E.length (gQ E))(e:E[k]? = some x):∃b,ra=some ⟨b,0,none⟩/\b<w.heap.size/\w.cell? ⟨b,k*2,none⟩=some (.slice x.1.1 x.1.2.1 x.1.2.2)/\w.cell? ⟨b,k*2+1,none⟩=some (.int .i64 x.2):=by
 have i:=(bu.1 e).1;obtain⟨b,J,y⟩:=dM h (by omega);injection y with G _ u;subst G u;obtain⟨o,H⟩:=Ai e;exact⟨b,rfl,(dA h b rfl).2.1,hZ h o,hZ h H⟩
theorem FV{w:World}{T:TypeId}{sz:Nat}{P:Nat->Value}{x:Sl}(h:Rd w T sz P x){i:Nat}(hi:i<x.2.1)(W:sz≠0):∃b,x.1=some ⟨b,0,none⟩/\b<w.heap.size/\∀j,j<sz->w.cell? ⟨b,i*sz+j,none⟩=some (P (i*sz+j)):=by
 obtain⟨b,y,G⟩:=dM h (by omega);have o:Value.slice x.1 x.2.1 x.2.2=.slice (some ⟨b,0,none⟩) x.2.1 y:=G;injection o with u _ J;have e:x=(some ⟨b,0,none⟩,x.2.1,x.2.2):=by rw[<-u]
 refine⟨b,u,(h.lt (k:=b) (by rw[u];rfl)).1,λj H=>?_⟩;rw[e]at h;refine zE h ?_;have:(i+1)*sz<=x.2.1*sz:=Nat.mul_le_mul_right _ hi;rw[Nat.add_mul,Nat.one_mul]at this;omega
theorem G9{bk ca cb:Nat}{ra rb:Option Addr}{Ev:Nat->Value}{E J:List (Sl×Int)}{w:World}(hF:Full w bk 81 3 3 Ev)(h1:Ev 1=.slice ra E.length ca)(h2:Ev 2=.slice rb J.length cb)(hE:w.ownsRow 0 119 2 (.slice ra E.length ca) E.length (gQ E))(hJ:w.ownsRow 0 121 2 (.slice rb J.length cb) J.length (gQ J))(aD:∀x,x∈E->Rd w 48 3 (mG x.2) x.1/\x.1.2.1<=1000000000)(a6:∀x,x∈J->Rd w 3 1 (qE x.2) x.1/\x.1.2.1<=1000000000)(le:E.length<=1000000000)(lj:J.length<=1000000000): Calls prog 34 #[P0 bk] w λe w'=>e=.returned (.bool true)/\w.grownBy w' none:=by
 obtain⟨c1,_⟩:=hF.cells 1 (by omega);obtain⟨c2,_⟩:=hF.cells 2 (by omega);rw[h1]at c1;rw[h2]at c2;have Z:=hF.lt;have HE:Hid (∀k x,E[k]? = some x->(∃b,ra=some ⟨b,0,none⟩/\b<w.heap.size/\w.cell? ⟨b,k*2,none⟩=some (.slice x.1.1 x.1.2.1 x.1.2.2)/\w.cell? ⟨b,k*2+1,none⟩=some (.int .i64 x.2))/\Rd w 48 3 (mG x.2) x.1/\x.1.2.1<=1000000000):=λk x hk=>⟨zW hE hk,aD x (ed hk)⟩;have HJ:Hid (∀k x,J[k]? = some x->(∃b,rb=some ⟨b,0,none⟩/\b<w.heap.size/\w.cell? ⟨b,k*2,none⟩=some (.slice x.1.1 x.1.2.1 x.1.2.2)/\w.cell? ⟨b,k*2+1,none⟩=some (.int .i64 x.2))/\Rd w 3 1 (qE x.2) x.1/\x.1.2.1<=1000000000):=λk x hk=>⟨zW hJ hk,a6 x (ed hk)⟩;clear hE hJ aD a6 h1 h2 hF;obtain⟨ne,a1⟩:∃ne,ne=E.length:=⟨_,rfl⟩;obtain⟨Y,a2⟩:∃Y,Y=J.length:=⟨_,rfl⟩;rw[<-a1]at c1 le;rw[<-a2]at c2 lj;have aG:=az a1;have aE:=az a2;clear a1 a2;go_in;go_wp2_with fail
 go_loopw [3] (λkv wr=>∃k:Nat,k<=ne/\kv=.int .i64 k/\Hid (w.grownBy wr none)) (λkv _=>ne-(intOf kv).toNat)
 case atStart=>exact⟨0,by omega,rfl,ax _ _⟩
 case round=>
  obtain⟨k,hk,rfl,y⟩:=hrel;have d1:=(bh y (a:=⟨bk,1,none⟩) Z).1.trans c1;have lr:=y.size;by_cases aF:k<ne
  .obtain⟨x,hx⟩:∃x,E[k]? = some x:=⟨_,bn (by rw[<-aG.out];exact aF)⟩;obtain⟨⟨b,rfl,b1,b2,b3⟩,b4,b5⟩:=HE k x hx;obtain⟨⟨xa,G,xc⟩,N⟩:=x;simp only at b2 b3 b4 b5;have a3:=az b4;have e1:wr.cell? ⟨b,k*2+1,none⟩=some (.int .i64 N):=(bh y (a:=⟨b,k*2+1,none⟩) b1).1.trans b3;have lb:b<wr.heap.size:=by omega
   have a0:=az b2;clear b2 b3 b4 hx;have aC:(k:Int)<ne:=by omega
   go_wp2_with fail
   have a7:=bf wr (.cells #[.int .i64 N,.int .i64 0,.int .i64 0] 48);have H:Hid (w.grownBy (wr.alloc (.cells #[.int .i64 N,.int .i64 0,.int .i64 0] 48)) none):=au y _;generalize wr.alloc (.cells #[.int .i64 N,.int .i64 0,.int .i64 0] 48)=w2 at *;generalize wr.heap.size=xb at *;clear d1 e1 y;have aB:=az a7;clear a7;go_loopw [5] (λiv wx=>∃i:Nat,i<=G/\iv=.int .i64 i/\Hid (w.grownBy wx none)/\Hid (wx.heap[xb]? = some (.cells #[.int .i64 N,.int .i64 0,.int .i64 0] 48 (0,0)))) (λiv _=>G-(intOf iv).toNat)
   case atStart=>exact⟨0,by omega,rfl,H,aB⟩
   case round=>
    clear H aB;obtain⟨i,hi,rfl,y,hX⟩:=hrel;have d1:=(bh y (a:=⟨bk,1,none⟩) Z).1.trans c1;have e0:wr.cell? ⟨b,k*2,none⟩=some (.slice xa G xc):=(bh y (a:=⟨b,k*2,none⟩) b1).1.trans a0;have lr:=y.size
    have lx:=bz hX;have x0:wr.cell? ⟨xb,0,none⟩=some (.int .i64 N):=by simp[World.cell?,hX.out]
    have x1:wr.cell? ⟨xb,1,none⟩=some (.int .i64 0):=by simp[World.cell?,hX.out]
    have x2:wr.cell? ⟨xb,2,none⟩=some (.int .i64 0):=by simp[World.cell?,hX.out]
    by_cases a4:i<G
    .obtain⟨u,hq,q1,q2⟩:=FV a3 (i:=i) a4 (by decide);simp only at hq;subst hq;have y0:wr.cell? ⟨u,i*3,none⟩=some (.int .i64 N):=by
      have:=q2 0 (by omega);rw[Nat.add_zero]at this;rw[(bh y (a:=⟨u,i*3,none⟩) q1).1,this];unfold mG;rw[aj (by omega)]
     have y1:wr.cell? ⟨u,i*3+1,none⟩=some (.int .i64 0):=by
      rw[(bh y (a:=⟨u,i*3+1,none⟩) q1).1,q2 1 (by omega)];unfold mG;rw[aa (by omega)]
     have y2:wr.cell? ⟨u,i*3+2,none⟩=some (.int .i64 0):=by
      rw[(bh y (a:=⟨u,i*3+2,none⟩) q1).1,q2 2 (by omega)];unfold mG;rw[aa (by omega)]
     have W:(i:Int)<G:=by omega
     clear q2;go_wp2_with fail
     go_quiet (fail)
     go_wp2_with fail
     go_roundw
     case rel=>exact⟨i+1,by omega,by go_num,⟨y.os,y.tape,y.output,y.size,y.block⟩,hX⟩
     case measure=>simp[intOf];omega
    have W:¬((i:Int)<G):=by omega
    go_wp2_with fail
    go_roundw
    case rel=>exact⟨k+1,by omega,by go_num,y⟩
    case measure=>simp[intOf];omega
  have aC:¬((k:Int)<ne):=by omega
  clear lr HE;have aA:=y;go_wp2_with fail
  clear d1;go_loopw [6] (λkv wx=>∃k:Nat,k<=Y/\kv=.int .i64 k/\Hid (w.grownBy wx none)) (λkv _=>Y-(intOf kv).toNat)
  case atStart=>exact⟨0,by omega,rfl,aA⟩
  case round=>
   clear aA;obtain⟨q,hq,rfl,H⟩:=hrel;have d2:=(bh H (a:=⟨bk,2,none⟩) Z).1.trans c2;by_cases aH:q<Y
   .obtain⟨x,hx⟩:∃x,J[q]? = some x:=⟨_,bn (by rw[<-aE.out];exact aH)⟩;obtain⟨⟨b,rfl,b1,b2,b3⟩,b4,b5⟩:=HJ q x hx;obtain⟨⟨xa,G,xc⟩,N⟩:=x;simp only at b2 b3 b4 b5;have a3:=az b4;have a0:=az (ay b2 b3);clear b2 b3 b4 hx;have a5:(q:Int)<Y:=by omega
    have a9:=H;go_wp2_with fail
    clear d2;go_loopw [7] (λiv wx=>∃i:Nat,i<=G/\iv=.int .i64 i/\Hid (w.grownBy wx none)) (λiv _=>G-(intOf iv).toNat)
    case atStart=>exact⟨0,by omega,rfl,a9⟩
    case round=>
     clear a9;obtain⟨i,hi,rfl,o⟩:=hrel;have d2:=(bh o (a:=⟨bk,2,none⟩) Z).1.trans c2;have e0:=(bh o (a:=⟨b,q*2,none⟩) b1).1.trans a0.1;have e1:=(bh o (a:=⟨b,q*2+1,none⟩) b1).1.trans a0.2;have lr:=o.size
     by_cases a4:i<G
     .obtain⟨u,a8,q1,q2⟩:=FV a3 (i:=i) a4 (by decide);simp only at a8;subst a8;have y0:wr.cell? ⟨u,i,none⟩=some (.int .i64 N):=by
       have:=q2 0 (by omega);rw[Nat.add_zero,Nat.mul_one]at this;rw[(bh o (a:=⟨u,i,none⟩) q1).1,this];rfl
      have W:(i:Int)<G:=by omega
      clear q2;go_wp2_with fail
      go_quiet (fail)
      go_wp2_with fail
      go_roundw
      case rel=>exact⟨i+1,by omega,by go_num,⟨o.os,o.tape,o.output,o.size,o.block⟩⟩
      case measure=>simp[intOf];omega
     have W:¬((i:Int)<G):=by omega
     go_wp2_with fail
     go_roundw
     case rel=>exact⟨q+1,by omega,by go_num,o⟩
     case measure=>simp[intOf];omega
   have a5:¬((q:Int)<Y):=by omega
   go_wp2_with fail
   go_ret;exact⟨rfl,H⟩
end F
namespace F
theorem Ng.step{p:dz}{s s':Pl}{t:Nat}(hP:PI p)(hN:Ng s)(h:Rn p s t)(hn:s.nt+1<=500000000)(i:iC p t s s'):Ng s':=by
 obtain⟨i1,i2,i3⟩:=rY 21 h (by have:=h.fw.n2;omega);have G:=Ng.ends p t 21 hN;unfold iC at i;by_cases e:((s.ends p t 21).T t).run=true
 .rw[aj e]at i;obtain⟨W,j2,Y⟩:=i2 e;obtain⟨_,_,_,j5,_⟩:=id j2;obtain⟨why,s3,H,rfl⟩:=i;obtain⟨Z,o⟩:=mM W Y;have u:=W.ff;have y:=hP _ u.1 (bw (s.ends p t 21) t).nx (by omega);have J:=(G.fD t).inst Z (by show(s.ends p t 21).nt+1<=_;omega) (by rw[o];exact y) H;obtain⟨w1,w2,_⟩:=nP y.1 H;split
  .exact J
  exact J.leave t 3 why (iP.n (by omega) (by omega))
 rw[aa e]at i;subst i;exact G
theorem Ng.runs{p:dz}{t:Nat}(hP:PI p):∀(n:Nat) {s s':Pl},Ng s->Ok p s->fe s t->s.nt+n<=500000000->gg p t n s s'->Ng s'
 | 0,s,s',hN,_,_,_,hr=>by
  have e:s'=s:=hr;subst e;exact hN
 | n+1,s,s',hN,h,ht,hn,hr=>by
  unfold gg at hr;by_cases e:(s.T t).run=true
  .rw[aj e]at hr;obtain⟨s1,o,u⟩:=hr;have hR:Rn p s t:=⟨h,(h.rn t ht e).2,e⟩;obtain⟨k1,k2⟩:=uT hP hR (by omega) o;have i:=k2.nt;exact Ng.runs hP n (hN.step hP hR (by omega) o) k1 ⟨ht.1,dH ht.2 i.1⟩ (by omega) u
  rw[aa e]at hr;subst hr;exact hN
theorem Ng.first{p:dz}(hP:PI p){s s':Pl}(y:Ng s)(h:Ok p s)(hn:s.nt+p.qn<=500000000)(u:gO p s s'):Ng s':=by
 unfold gO at u
 cases hq:s.q 2 0 with
 | nil=>
  rw[hq]at u;have e:s'=s:=u;subst e;exact y
 | cons t r=>
  rw[hq]at u;obtain⟨s1,H,J⟩:=u;have i:=h.ql 2 0 (ag ⟨rfl,rfl⟩) t (by rw[hq];simp);have ht:=h.lt t i;have o:(s.start t).nt=s.nt:=fO s t;have G:Ng s1:=Ng.runs hP p.qn (y.start t) (h.start i) ⟨ht.1,by rw[o];exact ht.2⟩ (by rw[o];exact hn) H;rw[J];split
  .exact G.join 2 0 t
  exact G
theorem Ng.Gx{p:dz}(hP:PI p){s s':Pl}{ticks:Int}{l:List (Int×Nat)}(J:Ng s)(h:Ok p s)(h0:0<=B.iz s.eY ticks)(H:B.iz s.eY ticks<=9223372036854775807)(i:∀x,x∈l->x.2<256)(hn:s.nt+p.qn<=500000000)(ht:jh p s ticks l s'):Ng s':=by
 have e:Ng ((s.fF (B.iz s.eY ticks)).eN l):=Ng.eN l i J.same;obtain⟨u,G⟩:=nF l i (h.fF h0 H);unfold jh at ht;split at ht
 .obtain⟨s1,Z,rfl⟩:=ht;obtain⟨y,o⟩:=nj _ u rfl;exact (Ng.first hP (Ng.gr _ e) y (by rw[o.nt,G.nt];exact hn) Z).same
 subst ht;exact e
end F
section
theorem D.eK.LA{p:F.dz}{K:Nat}{s:F.Pl}{m:D.Dm}{ρ:Nat->Nat}(h:D.eK p K s m ρ):D.eK p K s.lD m.lD ρ:=
 ⟨h.nt,h.q,h.Ee,h.sp,rfl,h.ck,h.T,h.O,h.C,h.I,h.Kp,h.L,h.N,h.A,h.lm,h.B⟩
namespace F
theorem oV.Good.next{x:oV}{I:Nat}(hG:x.Good I)(e:Ok x.p x.s)(i:x.s.ev=[]){ticks:Int}{l:List (Int×Nat)}{s':Pl}(ht:jh x.p x.s ticks l s')(o:∀y,y∈l->y.2<256)(hI:I<=2000000){m':D.Dm}{ρ':Nat->Nat}(hS:D.eK x.p (1+50*I+x.p.qn) s' m' ρ')(g':eE)(J:D.Dg):({ x with s:=s'.lD,g:=g',m:=m',h:=J }:oV).Good (I+1):=by
 have W:=hG.pg.q;have hn:=hG.n1;have u:=B.vU (t:=ticks) e.c0 e.c1;have G:=nW hG.pg.pi hG.pg.pw.n1 e i (by omega) o ht;refine⟨hG.pg,hG.pd,hG.rg,hG.dn,(hG.ng.Gx hG.pg.pi e u.1 u.2 o (by omega) ht).same,⟨ρ',(hS.mono (by omega)).LA⟩,?_,?_⟩
 .have:=G.n1;have:=hG.n0;show s'.nt≠0;omega
 have:=G.n2;show s'.nt<=_;omega
def It(w0:World)(ad:Option Addr)(n:Nat)(l:List (Int×Nat)):Prop:=
 n=l.length/\n<=1000000000/\l=[]/\(ad=none->l=[])/\∀a,ad=some a->l≠[]->a.block<w0.heap.size/\∀j x,l[j]? = some x->w0.cell? (a.add (j*2))=some (.int .i64 x.1)/\w0.cell? (a.add (j*2+1))=some (.int .u8 (x.2:Int))
def oC(il:List (Int×Nat))(j:Nat):Value:=if j % 2=0 then .int .i64 (il.getD (j / 2) (77,0)).1 else .int .u8 ((il.getD (j / 2) (77,0)).2:Int)
theorem EM(il:List (Int×Nat))(i:Nat):oC il (i*2)=.int .i64 (il.getD i (77,0)).1:=by unfold oC;rw[aj (by omega),show i*2 / 2=i by omega]
theorem EL(il:List (Int×Nat))(i:Nat):oC il (i*2+1)=.int .u8 ((il.getD i (77,0)).2:Int):=by unfold oC;rw[aa (by omega),show(i*2+1) / 2=i by omega]
section
variable {w0 w w' : World} {O : Nat → Ob}
theorem iA.at(h:iA w0 O w)(i:Nat){X:Ob}(e:O i=X):X.ok w:=e▸h.ok i
theorem iA.not(h:iA w0 O w){i j k:Nat}{X Y:Ob}(u:O i=X)(G:O j=Y)(o:i≠j)(y:X.bs k):¬Y.bs k:=λe=>o (h.dj i j k (u▸y) (G▸e))
theorem It.cell{ad:Option Addr}{n:Nat}{l:List (Int×Nat)}(hI:It w0 ad n l)(y:Below w0.heap.size w0 w){a:Addr}(H:ad=some a){j:Nat}{x:Int×Nat}(o:l[j]? = some x):a.block<w0.heap.size/\w.cell? (a.add (j*2))=some (.int .i64 x.1)/\w.cell? (a.add (j*2+1))=some (.int .u8 (x.2:Int)):=by
 obtain⟨i,G⟩:=hI.2.2.2.2 a H (λe=>by rw[e]at o;simp at o);obtain⟨c0,c1⟩:=G j x o;exact⟨i,(aw (a:=a.add (j*2)) (by rw[gX];exact y.block _ i)).trans c0,(aw (a:=a.add (j*2+1)) (by rw[gX];exact y.block _ i)).trans c1⟩
theorem It.Mh{ad:Option Addr}{n:Nat}{l:List (Int×Nat)}(hI:It w0 ad n l)(o:Below w0.heap.size w0 w){S:Nat->Prop}(hS:∀k,S k->w0.heap.size<=k):D.LJ w ad n l S:=by
 refine⟨hI.1,hI.2.1,hI.2.2.1,hI.2.2.2.1,λa i e=>?_⟩;have y:=(hI.2.2.2.2 a i e).1;exact⟨dm y o.size,λu=>by have:=hS _ u;omega,λj x G=>(hI.cell o i G).2⟩
theorem Ct{ob mo n:Nat}{il:List (Int×Nat)}{S:Nat->Prop}(o:Full w ob 169 (mo*2) (mo*2) (oC il))(hn:n=il.length)(W:n<=mo)(i:n<=1000000000)(hb:il=[])(hS:¬S ob):Kk w (some ⟨ob,0,none⟩) n il S:=by
 refine⟨hn,i,hb,(λe=>by cases e),λa Z a0=>?_⟩;have e:(⟨ob,0,none⟩:Addr)=a:=by injection Z
 subst e;refine⟨o.lt,hS,λj x y=>?_⟩;have Y:=(bu.1 y).1;have G:il.getD j (77,0)=x:=by rw[ar,y];rfl
 have J:=o.cell (j*2) (by omega);have H:=o.cell (j*2+1) (by omega);rw[EM,G]at J;rw[EL,G]at H;have u:∀k,(⟨ob,0,none⟩:Addr).add k=⟨ob,k,none⟩:=λk=>by unfold Addr.add;split<;>simp_all
 rw[u,u];exact⟨J,H⟩
theorem AX{ob mo:Nat}{e:Array Value}{il:List (Int×Nat)}(o:w.heap[ob]? = some (.cells e 169 (0,0)))(u:e.size=mo*2)(H:il.length<=mo):Full (w.setRow ob (D.rowP (il.length*2) (oC il)++e.toList.drop (D.rowP (il.length*2) (oC il)).length).toArray) ob 169 (mo*2) (il.length*2) (oC il):=by
 refine⟨_,setRow_heap w ob e _ 169 (0,0) o,?_,λj i=>?_⟩
 .simp[kH,u];omega
 rw[List.getElem?_toArray,du (by rw[kH];exact i),lh (n:=il.length*2) (oC il) i]
theorem xj(g:Nat)(i:Array Value):dy (λk=>k=g) w (w.setRow g i):=⟨rfl,rfl,rfl,by simp[World.setRow],λk _ hn=>setRow_other w g k i (λe=>hn e)⟩
theorem iA.BX{p:dz}{s s':Pl}{g g':eE}{mb H:Nat}{G:Option Addr}(h:iA w0 O w)(e0:O 0=.zS p s g mb)(i:zh p s g mb w s'.lD g' w')(W:w'.ownsRow 0 48 3 (.slice G s'.ev.length H) s'.ev.length (kE s'.ev))(y:∀k,eO G=some k->¬ey p s'.lD g' k/\k≠mb/\k<w'.heap.size/\(ey p s g k\/w.heap.size<=k)): iA w0 (fm (fm O 0 (.zS p s'.lD g' mb)) 12 (.row 48 3 G s'.ev.length H (kE s'.ev))) w':=by
 have J:∀k,(O 0).bs k↔(ey p s g k\/k=mb):=λk=>by rw[e0];exact Iff.rfl
 refine h.split 0 12 (by decide) ?_ i.m W (λk e=>?_) (λk e=>?_) (λk e u=>?_)
 .have:(O 0).bs=λk=>ey p s g k\/k=mb:=by rw[e0];rfl
  rw[this];exact i.o
 .rw[J];rcases e with e|e
  .exact(i.n k e).imp ag id
  exact ag (ab e)
 .rw[J];exact(y k e).2.2.2.imp ag id
 rcases e with e|e
 .exact(y k u).1 e
 exact(y k u).2.1 e
theorem iA.IM{d:D.Dp}{m m':D.Dm}{g g':D.Dg}(h:iA w0 O w)(e:O 1=.doc d m g)(ht:D.Tr d m g w m' g' w'):iA w0 (fm O 1 (.doc d m' g')) w':=by
 refine h.AR 1 ?_ ht.r (λk i=>?_)
 .have:(O 1).bs=D.ey d m g:=by rw[e];rfl
  rw[this];exact ht.o
 rw[e];exact ht.m k i
theorem iA.take{T' T:TypeId}{sz f r l bk m0 ce a3 ln lc:Nat}{P:Int->Nat->Value}{Ev a7:Nat->Value}{ae a0 la:Option Addr}{xs:List Value}{N:Int}{Q:List Sl}{x:Sl}{E:List (Sl×Int)}(hr:r≠7/\r≠12/\r≠l)(hl:l≠7/\l≠12)(h:iA w0 O w)(e7:O 7=.full bk 81 3 Ev)(er:O r=.row T' 2 ae m0 ce (gQ E))(el:O l=.lists T sz P E)(aE:O 12=.row T sz la ln lc xs)(hm:m0=E.length)(aF:(81:TypeId)≠T')(aG:T≠T')(aD:(81:TypeId)≠T)(ht:ue w T' T sz f (P N) bk a7 (gQ E) m0 ae (la,ln,lc) N Q x a0 a3 w'): iA w0 (fm (fm (fm (fm O 7 (.full bk 81 3 (ep a7 f (.slice a0 (E++Q.map (λy=>(y,N))).length a3)))) r (.row T' 2 a0 (E++Q.map (λy=>(y,N))).length a3 (gQ (E++Q.map (λy=>(y,N)))))) l (.lists T sz P (E++Q.map (λy=>(y,N))))) 12 .nil) w':=by
 have aC:(E++Q.map (λy=>(y,N))).length=m0+Q.length:=by rw[bo,dS,hm]
 have a8:gQ (E++Q.map (λy=>(y,N)))=gQ E++gQ (Q.map (λy=>(y,N))):=by unfold gQ;rw[List.flatMap_append]
 have b7:∀k,(O 7).bs k↔k=bk:=λk=>by rw[e7];exact Iff.rfl
 have br:∀k,(O r).bs k↔eO ae=some k:=λk=>by rw[er];exact Iff.rfl
 have a6:∀k,(O 12).bs k↔eO la=some k:=λk=>by rw[aE];exact Iff.rfl
 rw[aC,a8];have a1:=λy W=>(h.at l el) y W;have hS:∀y,y∈E->∀k,eO y.1.1=some k->¬(k=bk\/eO ae=some k\/eO la=some k):=λy W k u hs=>by
  have hb:(O l).bs k:=by rw[el];exact⟨y,W,u⟩
  rcases hs with hs|hs|hs
  .exact hl.1 (h.dj l 7 k hb ((b7 k).2 hs))
  .exact hr.2.2 (h.dj r l k ((br k).2 hs) hb)
  exact hl.2 (h.dj l 12 k hb ((a6 k).2 hs))
 have i12:∀X Y Z:Ob,fm (fm (fm (fm O 7 X) r Y) l Z) 12 .nil 12=.nil:=λX Y Z=>iu _ _ _;have il:∀X Y Z:Ob,fm (fm (fm (fm O 7 X) r Y) l Z) 12 .nil l=Z:=λX Y Z=>by rw[eT _ _ hl.2,iu]
 have ir:∀X Y Z:Ob,fm (fm (fm (fm O 7 X) r Y) l Z) 12 .nil r=Y:=λX Y Z=>by rw[eT _ _ hr.2.1,eT _ _ hr.2.2,iu]
 have i7:∀X Y Z:Ob,fm (fm (fm (fm O 7 X) r Y) l Z) 12 .nil 7=X:=λX Y Z=>by rw[eT _ _ (by decide),eT _ _ (λe=>hl.1 e.symm),eT _ _ (λe=>hr.1 e.symm),iu]
 have a9:∀k H,k=bk->w'.heap[k]? = some (.cells H T (0,0))->False:=λk H e J=>by
  obtain⟨c2,a2,_⟩:=ht.f;rw[e,a2]at J;injection J with J;injection J with _ J _;exact aD J
 have aA:∀k H,eO a0=some k->w'.heap[k]? = some (.cells H T (0,0))->False:=λk H e J=>by
  obtain⟨_,_,c2,a2⟩:=dA ht.r k (by rw[dr];exact e);rw[a2]at J;injection J with J;injection J with _ J _;exact aG J.symm
 have aB:∀k,k=bk->eO a0=some k->False:=λk e e'=>by
  obtain⟨_,_,c2,a2⟩:=dA ht.r k (by rw[dr];exact e');obtain⟨c3,aH,_⟩:=ht.f;rw[e,aH]at a2;injection a2 with J;injection J with _ J _;exact aF J
 have a5:∀y,y∈E++Q.map (λz=>(z,N))->Rd w' T sz (P y.2) y.1:=λy W=>by
  rcases di.1 W with W|W
  .exact(a1 y W).fr (λk u=>ht.o.same ((a1 y W).lt u).1 (hS y W k u))
  obtain⟨z,hz,rfl⟩:=ek.1 W;exact(ht.q z hz).1
 refine h.to (S:=λk=>k=bk\/eO ae=some k\/eO la=some k) (C:=λi=>i=7\/i=r\/i=l\/i=12) ht.o (λk u=>?_) (λi hi=>?_) (λi hi=>?_) (λi k hi u=>?_) (λi j k hi hj u G=>?_)
 .rcases u with u|u|u
  .exact⟨7,ag rfl,(b7 k).2 u⟩
  .exact⟨r,ab (ag rfl),(br k).2 u⟩
  exact⟨12,ab (ab (ab rfl)),(a6 k).2 u⟩
 .rw[eT _ _ (λe=>hi (ab (ab (ab e)))),eT _ _ (λe=>hi (ab (ab (ag e)))),eT _ _ (λe=>hi (ab (ag e))),eT _ _ (λe=>hi (ag e))]
 .rcases hi with rfl|rfl|rfl|rfl
  .rw[i7];exact ht.f
  .rw[ir];exact ht.r
  .rw[il];exact a5
  rw[i12];trivial
 .rcases hi with rfl|rfl|rfl|rfl
  .rw[i7]at u;exact ag ⟨7,ag rfl,(b7 k).2 u⟩
  .rw[ir]at u;exact(ht.a k u).imp (λe=>⟨i,ab (ag rfl),(br k).2 e⟩) id
  .rw[il]at u;obtain⟨y,W,u⟩:=u;rcases di.1 W with W|W
   .exact ag ⟨i,ab (ab (ag rfl)),by rw[el];exact⟨y,W,u⟩⟩
   obtain⟨z,hz,rfl⟩:=ek.1 W;exact((ht.q z hz).2.2 k u).imp (λe=>⟨12,ab (ab (ab rfl)),(a6 k).2 e⟩) id
  rw[i12]at u;exact u.elim
 have a4:(fm (fm (fm (fm O 7 (.full bk 81 3 (ep a7 f (.slice a0 (m0+Q.length) a3)))) r (.row T' 2 a0 (m0+Q.length) a3 (gQ E++gQ (Q.map (λy=>(y,N)))))) l (.lists T sz P (E++Q.map (λy=>(y,N))))) 12 .nil l).bs k->∃H,w'.heap[k]? = some (.cells H T (0,0)):=λhh=>by
  rw[il]at hh;obtain⟨y,W,hh⟩:=hh;exact((a5 y W).lt hh).2
 rcases hi with rfl|rfl|rfl|rfl<;>rcases hj with rfl|rfl|rfl|rfl
 .rfl
 .rw[i7]at u;rw[ir]at G;exact(aB k u G).elim
 .obtain⟨H,J⟩:=a4 G;rw[i7]at u;exact(a9 k H u J).elim
 .rw[i12]at G;exact G.elim
 .rw[ir]at u;rw[i7]at G;exact(aB k G u).elim
 .rfl
 .obtain⟨H,J⟩:=a4 G;rw[ir]at u;exact(aA k H u J).elim
 .rw[i12]at G;exact G.elim
 .obtain⟨H,J⟩:=a4 u;rw[i7]at G;exact(a9 k H G J).elim
 .obtain⟨H,J⟩:=a4 u;rw[ir]at G;exact(aA k H G J).elim
 .rfl
 .rw[i12]at G;exact G.elim
 .rw[i12]at u;exact u.elim
 .rw[i12]at u;exact u.elim
 .rw[i12]at u;exact u.elim
 rfl
end
end F
end
end Go.Proofs.YtnjiinbhbjpfkaaGreatDoor
