import Derived.Test.YtnjiinbhbjpfkaaGreatDoorKa
set_option maxRecDepth 100000
set_option maxHeartbeats 0
set_option linter.all false
namespace Go.Proofs.YtnjiinbhbjpfkaaGreatDoor
open Go.RowKit Go.Proofs.Tryz
namespace F
open D
theorem ED(n:Nat)(N:Int):rowP (n*3) (mG N)++[.int .i64 N,.int .i64 0,.int .i64 0]=rowP ((n+1)*3) (mG N):=by
 have o:mG N (n*3)=.int .i64 N:=by unfold mG;rw[aj (by omega)]
 have i:mG N (n*3+1)=.int .i64 0:=by unfold mG;rw[aa (by omega)]
 have e:mG N (n*3+2)=.int .i64 0:=by unfold mG;rw[aa (by omega)]
 unfold rowP;rw[show(n+1)*3=n*3+1+1+1 by omega,eA,eA,eA];simp[o,i,e]
theorem EC(n:Nat)(N:Int):rowP (n*1) (qE N)++[.int .i64 N]=rowP ((n+1)*1) (qE N):=by
 unfold rowP;rw[show(n+1)*1=n*1+1 by omega,eA];simp[qE]
theorem wo.Cg{w:World}{N:Int}{g n c j:Nat}(h:wo w 48 3 (mG N) (some ⟨g,0,none⟩,n,c) j)(hj:j<n):wo (((w.setCell ⟨g,j*3,none⟩ (.int .i64 N)).setCell ⟨g,j*3+1,none⟩ (.int .i64 0)).setCell ⟨g,j*3+2,none⟩ (.int .i64 0)) 48 3 (mG N) (some ⟨g,0,none⟩,n,c) (j+1):=by
 rcases h with⟨i,_⟩|⟨g',i,u,W,J⟩
 .have G:n=0:=i;omega
 have e:g=g':=by injection i with i;injection i
 subst e;have y:n<=c:=u;have Z:mG N (j*3)=.int .i64 N:=by unfold mG;rw[aj (by omega)]
 have Y:mG N (j*3+1)=.int .i64 0:=by unfold mG;rw[aa (by omega)]
 have H:mG N (j*3+2)=.int .i64 0:=by unfold mG;rw[aa (by omega)]
 have o:Full w g 48 (c*3) (j*3) (mG N):=J;have:=((o.set (by omega)).set (by omega)).set (by omega);rw[Z,Y,H]at this;exact ab ⟨g,rfl,u,W,by rw[show(j+1)*3=j*3+1+1+1 by omega];exact this⟩
theorem wo.Cf{w:World}{N:Int}{g n c j:Nat}(h:wo w 3 1 (qE N) (some ⟨g,0,none⟩,n,c) j)(W:j<n):wo (w.setCell ⟨g,j,none⟩ (.int .i64 N)) 3 1 (qE N) (some ⟨g,0,none⟩,n,c) (j+1):=by
 rcases h with⟨i,_⟩|⟨g',i,u,J,H⟩
 .have G:n=0:=i;omega
 have e:g=g':=by injection i with i;injection i
 subst e;have y:n<=c:=u;have o:Full w g 3 (c*1) (j*1) (qE N):=H;rw[Nat.mul_one j]at o;refine ab ⟨g,rfl,u,J,?_⟩;rw[Nat.mul_one (j+1)];exact o.set (by show j<c*1;omega)
theorem uf.Cg{w wr:World}{N:Int}{bk m0 ce g n c j:Nat}{Ev:Nat->Value}{L0:List Value}{ae:Option Addr}(h:uf w 119 48 3 (mG N) bk Ev L0 m0 ae ce (some ⟨g,0,none⟩,n,c) j wr)(e:j<n):uf w 119 48 3 (mG N) bk Ev L0 m0 ae ce (some ⟨g,0,none⟩,n,c) (j+1) (((wr.setCell ⟨g,j*3,none⟩ (.int .i64 N)).setCell ⟨g,j*3+1,none⟩ (.int .i64 0)).setCell ⟨g,j*3+2,none⟩ (.int .i64 0)):=by
 exact h.next (by decide) (by decide) (wo.Cg h.z e) (bm (S:=λk=>eO (some (⟨g,0,none⟩:Addr))=some k) (a:=⟨g,j*3+2,none⟩) (bm (S:=λk=>eO (some (⟨g,0,none⟩:Addr))=some k) (a:=⟨g,j*3+1,none⟩) (bm (S:=λk=>eO (some (⟨g,0,none⟩:Addr))=some k) (a:=⟨g,j*3,none⟩) (dk _ _) (ag rfl) _) (ag rfl) _) (ag rfl) _)
theorem uf.Cf{w wr:World}{N:Int}{bk m0 ce g n c j:Nat}{Ev:Nat->Value}{L0:List Value}{ae:Option Addr}(h:uf w 121 3 1 (qE N) bk Ev L0 m0 ae ce (some ⟨g,0,none⟩,n,c) j wr)(e:j<n):uf w 121 3 1 (qE N) bk Ev L0 m0 ae ce (some ⟨g,0,none⟩,n,c) (j+1) (wr.setCell ⟨g,j,none⟩ (.int .i64 N)):=by
 exact h.next (by decide) (by decide) (wo.Cf h.z e) (bm (S:=λk=>eO (some (⟨g,0,none⟩:Addr))=some k) (a:=⟨g,j,none⟩) (dk _ _) (ag rfl) _)
theorem DW{wr G:World}{o:Obj}{bk f m ce u:Nat}{y:Array Value}{v:Value}{Ev:Nat->Value}{ae:Option Addr}{L:List Value}(hX:wr.heap[u]? = some (.cells y 48 (0,0)))(Z:Full wr bk 81 3 3 Ev)(hR:wr.ownsRow 0 119 2 (.slice ae m ce) m L)(W:(wr.alloc o).grownBy G (Value.slice ae m ce).ownBlock):(G.setCell ⟨bk,f,none⟩ v).heap[u]? = some (.cells y 48 (0,0)):=by
 have Y:=bz hX;have H:u≠bk:=λe=>by
  obtain⟨c2,i,_⟩:=Z;rw[e,i]at hX;injection hX with hX;injection hX with _ hX _;exact ch hX (by decide)
 have J:(Value.slice ae m ce).ownBlock≠some u:=λe=>by
  obtain⟨_,_,c2,i⟩:=dA hR u e;rw[i]at hX;injection hX with hX;injection hX with _ hX _;exact ch hX (by decide)
 rw[af _ _ _ _ H,W.block u (by simp;omega) (λe=>J e.symm),ak _ _ _ Y];exact hX
theorem Gs{wr H:World}{o ob:Obj}{G:Option Addr}{J Y u:Nat}{Z:Value}(hX:wr.heap[u]? = some ob)(y:eO G≠some u)(i:FL (wr.alloc o) H G J Y 1 Z):H.heap[u]? = some ob:=by
 have W:=bz hX;rcases i with⟨_,i⟩|⟨_,_,_,_,i⟩
 .rw[i.block u (by simp;omega) (λe=>y (by rw[<-dr G J Y];exact e.symm)),ak _ _ _ W];exact hX
 rw[i.block u (by simp;omega) (λe=>by cases e),ak _ _ _ W];exact hX
theorem IW{bk n m0 ce:Nat}{ae:Option Addr}{Ev:Nat->Value}{L0 xs:List Value}{la:Option Addr}{ln lc:Nat}{w:World}(hF:Full w bk 81 3 3 Ev)(h0:Ev 0=.int .i64 n)(h1:Ev 1=.slice ae m0 ce)(hR:w.ownsRow 0 119 2 (.slice ae m0 ce) m0 L0)(hL:w.ownsRow 0 48 3 (.slice la ln lc) ln xs)(hn:n<=1000000000)(hm:m0<=100000000)(hl:ln<=100000000): Calls prog 76 #[P0 bk,.slice la ln lc] w λe w'=>e=.returned (.tuple #[])/\∃Q x aA aB,Q.length=4/\x.2.1=ln+3/\ue w 119 48 3 1 (mG (-((n:Int)+1))) bk (ep Ev 0 (.int .i64 ((n:Int)+1))) L0 m0 ae (la,ln,lc) (-((n:Int)+1)) Q x aA aB w':=by
 obtain⟨i0,hi,b2,aW,b8⟩:=info_parts Tryz.Fg;obtain⟨j0,H,c9,bV,bR⟩:=info_parts Tryz.yP;obtain⟨c0,z0⟩:=hF.cells 0 (by omega);rw[h0]at c0;obtain⟨N1,aH⟩:∃N1:Int,N1=(n:Int)+1:=⟨_,rfl⟩;obtain⟨N,hN⟩:∃N:Int,N=-N1:=⟨_,rfl⟩;rw[<-aH,<-hN];have cB:IntKind.i64.wrap ((n:Int)+1)=N1:=by rw[bl,bd _ (by omega)];exact aH.symm
 have cC:IntKind.i64.wrap (-N1)=N:=by rw[bl,bd _ (by omega)];exact hN.symm
 have bS:=az hN;clear hN;have aY:Full (w.setCell ⟨bk,0,none⟩ (.int .i64 N1)) bk 81 3 3 (ep Ev 0 (.int .i64 N1)):=hF.ep 0 _;have bC:(w.setCell ⟨bk,0,none⟩ (.int .i64 N1)).ownsRow 0 119 2 (.slice ae m0 ce) m0 L0:=dD hR (λk hk=>af _ _ _ _ (eL hR hF (by decide) k hk));have b9:(w.setCell ⟨bk,0,none⟩ (.int .i64 N1)).ownsRow 0 48 3 (.slice la ln lc) ln xs:=dD hL (λk hk=>af _ _ _ _ (eL hL hF (by decide) k hk));have aU:dy (λk=>k=bk\/eO ae=some k\/eO la=some k) w (w.setCell ⟨bk,0,none⟩ (.int .i64 N1)):=bm (S:=λk=>k=bk\/eO ae=some k\/eO la=some k) (a:=⟨bk,0,none⟩) (dk _ _) (ag (ag rfl)) _;have bD:=λk hk=>(dA hL k (by rw[dr];exact hk)).2.1;have bB:(w.setCell ⟨bk,0,none⟩ (.int .i64 N1)).heap.size=w.heap.size:=by simp[World.setCell]
 have bI:(ep Ev 0 (.int .i64 N1)) 1=.slice ae m0 ce:=by unfold ep;rw[aa (by decide)];exact h1
 have bH:(ep Ev 0 (.int .i64 N1)) 0=.int .i64 N1:=by unfold ep;rw[aj rfl]
 have bA:=az aY;have b1:=az bC;have aZ:=az b9;have b5:=az aU;have bJ:=az bD;have HE:=az (ay bH bI);have bL:=az aH;clear aY bC b9 aU bD bH bI aH h0 h1 hF hR hL;generalize ep Ev 0 (.int .i64 N1)=W at *;go_in;go_wp2_with fail
 have aI:=bf (w.setCell ⟨bk,0,none⟩ (.int .i64 N1)) (.cells #[.int .i64 N,.int .i64 0,.int .i64 0] 48);have aS:Hid ((w.setCell ⟨bk,0,none⟩ (.int .i64 N1)).grownBy ((w.setCell ⟨bk,0,none⟩ (.int .i64 N1)).alloc (.cells #[.int .i64 N,.int .i64 0,.int .i64 0] 48)) none):=ah _ _ _;generalize (w.setCell ⟨bk,0,none⟩ (.int .i64 N1)).alloc (.cells #[.int .i64 N,.int .i64 0,.int .i64 0] 48)=w2 at *;generalize w.setCell ⟨bk,0,none⟩ (.int .i64 N1)=w1 at *;rw[bB]at aI;obtain⟨Y,aT⟩:∃Y,Y=w.heap.size:=⟨_,rfl⟩;rw[<-aT]at aI ⊢;have cF:w.heap.size<=Y:=by omega
 have b6:=az aI;clear aI aT;have b4:Hid (uf w 119 48 3 (mG N) bk W L0 m0 ae ce (la,ln,lc) 0 w2):=uf.Ki bA b1 aZ b5 aS;clear bA b1 aZ b5 aS bB z0 c0;go_loopw [5] (λiv wx=>∃j:Nat,j<=ln/\iv=.int .i64 j/\Hid (uf w 119 48 3 (mG N) bk W L0 m0 ae ce (la,ln,lc) j wx)/\Hid (wx.heap[Y]? = some (.cells #[.int .i64 N,.int .i64 0,.int .i64 0] 48 (0,0)))) (λiv _=>ln-(intOf iv).toNat)
 case atStart=>exact⟨0,by omega,rfl,b4,b6⟩
 case round=>
  clear b4 b6;obtain⟨j,bQ,rfl,rV,rX⟩:=hrel;have a7:=rV.f.lt;obtain⟨k0,f0⟩:=rV.f.cells 0 (by omega);obtain⟨k1,f1⟩:=rV.f.cells 1 (by omega);rw[HE.1]at k0;rw[HE.2]at k1;have x0:wr.cell? ⟨Y,0,none⟩=some (.int .i64 N):=by simp[World.cell?,rX.out]
  have x1:wr.cell? ⟨Y,1,none⟩=some (.int .i64 0):=by simp[World.cell?,rX.out]
  have x2:wr.cell? ⟨Y,2,none⟩=some (.int .i64 0):=by simp[World.cell?,rX.out]
  by_cases b7:j<ln
  .obtain⟨Z,hq,hB,c7⟩:=rV.z.place b7;simp only at hq hB c7;subst hq;have b0:(j:Int)<ln:=by omega
   obtain⟨⟨v0,q0⟩,p0⟩:=hB.cell (j*3) (by omega);obtain⟨⟨v1,q1⟩,p1⟩:=hB.cell (j*3+1) (by omega);obtain⟨⟨v2,q2⟩,p2⟩:=hB.cell (j*3+2) (by omega);have c6:Hid (uf w 119 48 3 (mG N) bk W L0 m0 ae ce (some ⟨Z,0,none⟩,ln,lc) (j+1) (((wr.setCell ⟨Z,j*3,none⟩ (.int .i64 N)).setCell ⟨Z,j*3+1,none⟩ (.int .i64 0)).setCell ⟨Z,j*3+2,none⟩ (.int .i64 0))):=rV.Cg b7;have aP:Y≠Z:=by have:=bJ Z rfl;omega
   have bO:Hid ((((wr.setCell ⟨Z,j*3,none⟩ (.int .i64 N)).setCell ⟨Z,j*3+1,none⟩ (.int .i64 0)).setCell ⟨Z,j*3+2,none⟩ (.int .i64 0)).heap[Y]? = some (.cells #[.int .i64 N,.int .i64 0,.int .i64 0] 48 (0,0))):=by
    show _=_;rw[af _ _ _ _ aP,af _ _ _ _ aP,af _ _ _ _ aP];exact rX
   clear hB;go_wp2_with fail
   go_roundw
   case rel=>exact⟨j+1,by omega,by go_num,c6,bO⟩
   case measure=>simp[intOf];omega
  have b0:¬((j:Int)<ln):=by omega
  have c8:ln=j:=by omega
  subst c8;have aD:Hid (ue w 119 48 3 1 (mG N) bk W L0 m0 ae (la,ln,lc) N [] (la,ln,lc) ae ce wr):=rV.done HE.2;have G:=az rV.r;have a2:Hid (∀k,(Value.slice ae m0 ce).ownBlock=some k->k≠bk/\k<wr.heap.size):=λk hk=>⟨eL G rV.f (by decide) k hk,(dA G k hk).2.1⟩;clear rV bQ;obtain⟨i,aC⟩:∃i,i=ae:=⟨_,rfl⟩;obtain⟨o,a6⟩:∃o,o=ce:=⟨_,rfl⟩;have aD:Hid (ue w 119 48 3 1 (mG N) bk W L0 m0 ae (la,ln,lc) N [] (la,ln,lc) i o wr):=by rw[aC,a6];exact aD
  rw[<-aC,<-a6]at k1 G a2;clear aC a6;go_wp2_with fail
  go_cut [] (λwx=>∃(aA:Option Addr) (aB:Nat),Hid (ue w 119 48 3 1 (mG N) bk W L0 m0 ae (la,ln,lc) N [(la,ln,lc)] (la,ln,lc) aA aB wx)/\Hid (wx.heap[Y]? = some (.cells #[.int .i64 N,.int .i64 0,.int .i64 0] 48 (0,0))))
  case first=>
   go_region_law (refine eS _ rfl (.tmp 35) (.tmp 43) 78 rfl 119 i0 _ 2 32 Tryz.underlying78 hi b2 aW b8 rfl (by decide) i m0 o L0 (by first|rfl|simp[Act.eval,Act.put]) (dD G (λk h=>ak _ _ _ (a2 k h).2)) ⟨wr.heap.size,0,none⟩ 1 1 [.slice la ln lc,.int .i64 N] (by first|rfl|simp[Act.eval,Act.put]) rfl (by intro j u H;match j,H with|0,H=>(simp at H;subst H;simp[Addr.add,go_sem])|1,H=>(simp at H;subst H;simp[Addr.add,go_sem])) (by simp[Value.oneCell']) (by unfold maxLen;omega) (by omega) (by decide) ?_;intro v' w6 ho J a8;have hg:World.grownBy (wr.alloc (.cells #[.slice la ln lc,.int .i64 N] 119)) w6 (Value.slice i m0 o).ownBlock:=⟨J.os,J.tape,J.output,J.size,J.block⟩;clear J;obtain⟨Z,cq,rfl⟩:=dM ho (by omega);have aG:Hid ((Value.slice i m0 o).ownBlock=some Z\/wr.heap.size<=Z):=(by rcases a8 with h|⟨g',h,hl⟩;exact ag h.symm;exact ab (by have e:Z=g':=(by injection h);simp at hl;omega));clear a8;have aJ:=az ho;have aK:=az hg;have bT:wr.heap.size<w6.heap.size:=(by have h9:=hg.size;simp at h9;omega);have a5:=((hg.block bk (by simp;omega) (λh=>(a2 bk h.symm).1 rfl)).trans (ak _ _ _ a7));have d6:w6.cell? ⟨bk,1,none⟩=some (.slice i m0 o):=(aw (a:=⟨bk,1,none⟩) a5).trans k1;have y6:w6.frozen? ⟨bk,1,none⟩=false:=(dg (a:=⟨bk,1,none⟩) a5).trans f1;have aR:Hid ((w6.setCell ⟨bk,1,none⟩ (.slice (some ⟨Z,0,none⟩) (m0+1) cq)).heap[Y]? = some (.cells #[.int .i64 N,.int .i64 0,.int .i64 0] 48 (0,0))):=DW rX aD.f G hg;clear a5 ho hg)
   all_goals
    go_wp2_with fail
    go_meet
    case rel=>exact⟨some ⟨Z,0,none⟩,cq,aD.line (Q:=[]) (by decide) (by decide) (by decide) (by decide) (by have e:L0++gQ (([]:List Sl).map (λy=>(y,N)))=L0:=(by unfold gQ;simp);rw[e];exact aJ) aK aG,aR⟩
  case rest=>
   obtain⟨bY,bP,b3,aX⟩:=hcut;clear aD G a2 k1 f1 a7 x0 x1 x2 rX;go_wp2_with fail
   go_loopw [6,7] (λgv kv wx=>∃(k:Nat) (x:Sl) (Q:List Sl) (aA:Option Addr) (aB:Nat),k<=3/\kv=.int .i64 k/\gv=.slice x.1 x.2.1 x.2.2/\Hid (Q.length=k+1/\x.2.1=ln+k/\eO x.1≠some Y)/\Hid (ue w 119 48 3 1 (mG N) bk W L0 m0 ae (la,ln,lc) N Q x aA aB wx)/\Hid (wx.heap[Y]? = some (.cells #[.int .i64 N,.int .i64 0,.int .i64 0] 48 (0,0)))) (λ_ kv _=>3-(intOf kv).toNat)
   case atStart=>exact⟨0,(la,ln,lc),[(la,ln,lc)],bY,bP,by omega,rfl,rfl,⟨rfl,rfl,(λe=>by have:=bJ Y e;omega)⟩,b3,aX⟩
   case round=>
    clear b3 aX;obtain⟨k,⟨xa,xn,xc⟩,Q,i,o,cD,rfl,rfl,rQ,rT,rX⟩:=hrel;simp only at rQ;by_cases hk:k<3
    .have cA:(k:Int)<3:=by omega
     have aN:Hid (wr.ownsRow 0 48 3 (.slice xa xn xc) xn (rowP (xn*3) (mG N))):=rT.x.1;have bE:=az (λk hk=>(dA aN k hk).2.1);have bX:xn<=100000003:=by have:=rQ.2.1;omega
     obtain⟨k0,f0⟩:=rT.f.cells 0 (by omega);have lx:=bz rX;have x0:wr.cell? ⟨Y,0,none⟩=some (.int .i64 N):=by simp[World.cell?,rX.out]
     have x1:wr.cell? ⟨Y,1,none⟩=some (.int .i64 0):=by simp[World.cell?,rX.out]
     have x2:wr.cell? ⟨Y,2,none⟩=some (.int .i64 0):=by simp[World.cell?,rX.out]
     go_wp2_with (at_builtin;refine lV rfl (.tmp 52) (.tmp 54) 45 rfl 48 j0 _ 3 24 underlying45 H c9 bV bR rfl (by decide) _ _ _ _ rfl (dD aN (λk h=>ak _ _ _ (bE k h))) ⟨wr.heap.size,0,none⟩ 1 1 [.int .i64 N,.int .i64 0,.int .i64 0] rfl rfl ?c1 ?c2 ?c3 ?c4 ?c5 ?_)
     try case c1=>intro j u H;match j,H with|0,H=>(simp at H;subst H;simp[Addr.add,go_sem])|1,H=>(simp at H;subst H;simp[Addr.add,go_sem])|2,H=>(simp at H;subst H;simp[Addr.add,go_sem])
     try case c2=>simp[Value.oneCell']
     try case c3=>unfold maxLen;omega
     try case c4=>omega
     try case c5=>omega
     intro v' w5 ho aM;obtain⟨⟨a1,a0,a3⟩,hv,bF,aO,bG⟩:=rT.more (by decide) (by decide) (by decide) (by decide) (ED xn N) ho aM;have bU:v'=.slice a1 a0 a3:=hv;simp only at bF aO;subst bU;have a4:=az bG;have aV:=az (Gs rX rQ.2.2 aM);have aQ:Hid (Q.length=k+1/\a0=ln+(k+1)/\eO a1≠some Y):=⟨rQ.1,(by have:=rQ.2.1;omega),(λe=>by rcases aO Y e with h|h;exact rQ.2.2 h;omega)⟩;have aL:m0+Q.length<=100000010:=by have:=rQ.1;omega
     clear ho aM hv bF aO bG aN bE bX x0 x1 x2 rX rT rQ;have G:=az a4.r;have a2:Hid (∀k,(Value.slice i (m0+Q.length) o).ownBlock=some k->k≠bk/\k<w5.heap.size):=λk hk=>⟨eL G a4.f (by decide) k hk,(dA G k hk).2.1⟩;have a7:=a4.f.lt;obtain⟨k0,f0⟩:=a4.f.cells 0 (by omega);obtain⟨k1,f1⟩:=a4.f.cells 1 (by omega);rw[show ep W 1 (.slice i (m0+Q.length) o) 0=.int .i64 N1 from(by unfold ep;rw[aa (by decide)];exact HE.1)]at k0;rw[show ep W 1 (.slice i (m0+Q.length) o) 1=.slice i (m0+Q.length) o from(by unfold ep;rw[aj rfl])]at k1;obtain⟨mq,a9⟩:∃mq,mq=m0+Q.length:=⟨_,rfl⟩;obtain⟨Lq,aE⟩:∃Lq,Lq=L0++gQ (Q.map (λy=>(y,N))):=⟨_,rfl⟩;have bK:=az (ay a9 aE);rw[<-a9]at k1 G a2 aL;rw[<-aE]at G;clear a9 aE;go_wp2_with fail
     go_region_law (refine eS _ rfl (.tmp 60) (.tmp 68) 78 rfl 119 i0 _ 2 32 Tryz.underlying78 hi b2 aW b8 rfl (by decide) i mq o Lq (by first|rfl|simp[Act.eval,Act.put]) (dD G (λk h=>ak _ _ _ (a2 k h).2)) ⟨w5.heap.size,0,none⟩ 1 1 [.slice a1 a0 a3,.int .i64 N] (by first|rfl|simp[Act.eval,Act.put]) rfl (by intro j u H;match j,H with|0,H=>(simp at H;subst H;simp[Addr.add,go_sem])|1,H=>(simp at H;subst H;simp[Addr.add,go_sem])) (by simp[Value.oneCell']) (by unfold maxLen;omega) (by omega) (by decide) ?_;intro v' w6 ho J a8;have hg:World.grownBy (w5.alloc (.cells #[.slice a1 a0 a3,.int .i64 N] 119)) w6 (Value.slice i mq o).ownBlock:=⟨J.os,J.tape,J.output,J.size,J.block⟩;clear J;obtain⟨Z,cq,rfl⟩:=dM ho (by omega);have aG:Hid ((Value.slice i mq o).ownBlock=some Z\/w5.heap.size<=Z):=(by rcases a8 with h|⟨g',h,hl⟩;exact ag h.symm;exact ab (by have e:Z=g':=(by injection h);simp at hl;omega));clear a8;have aJ:=az ho;have aK:=az hg;have bT:w5.heap.size<w6.heap.size:=(by have h9:=hg.size;simp at h9;omega);have a5:=((hg.block bk (by simp;omega) (λh=>(a2 bk h.symm).1 rfl)).trans (ak _ _ _ a7));have d6:=(aw (a:=⟨bk,1,none⟩) a5).trans k1;have y6:=(dg (a:=⟨bk,1,none⟩) a5).trans f1;have aR:Hid ((w6.setCell ⟨bk,1,none⟩ (.slice (some ⟨Z,0,none⟩) (mq+1) cq)).heap[Y]? = some (.cells #[.int .i64 N,.int .i64 0,.int .i64 0] 48 (0,0))):=DW aV a4.f G hg;clear a5 ho hg)
     all_goals
      have bM:Hid (ue w 119 48 3 1 (mG N) bk W L0 m0 ae (la,ln,lc) N (Q++[(a1,a0,a3)]) (a1,a0,a3) (some ⟨Z,0,none⟩) cq (w6.setCell ⟨bk,1,none⟩ (.slice (some ⟨Z,0,none⟩) (mq+1) cq))):=by
       obtain⟨a9,aE⟩:=bK;subst a9 aE;exact a4.line (by decide) (by decide) (by decide) (by decide) aJ aK aG
      have bZ:Hid ((Q++[(a1,a0,a3)]).length=(k+1)+1/\a0=ln+(k+1)/\eO a1≠some Y):=⟨(by rw[bo];show Q.length+1=_;have:=aQ.1;omega),aQ.2⟩;clear a4 G a2 k1 f1 bK aQ aL a7 aK aJ aG aV;go_wp2_with fail
      go_roundw
      case rel=>exact⟨k+1,(a1,a0,a3),Q++[(a1,a0,a3)],some ⟨Z,0,none⟩,cq,by omega,by go_num,rfl,bZ,bM,aR⟩
      case measure=>simp[intOf];omega
    obtain rfl:k=3:=by omega
    go_wp2_with fail
    go_end0;obtain⟨q1,q2,_⟩:=rQ;have hn1:=bL.out;have bN:=bS.out;subst bN;subst hn1;exact⟨rfl,Q,(xa,xn,xc),i,o,q1,q2,rT⟩
theorem IV{bk n m0 ce:Nat}{ae:Option Addr}{Ev:Nat->Value}{L0 xs:List Value}{W:Option Addr}{ln lc:Nat}{w:World}(hF:Full w bk 81 3 3 Ev)(h0:Ev 0=.int .i64 n)(h1:Ev 2=.slice ae m0 ce)(hR:w.ownsRow 0 121 2 (.slice ae m0 ce) m0 L0)(hL:w.ownsRow 0 3 1 (.slice W ln lc) ln xs)(hn:n<=1000000000)(hm:m0<=100000000)(hl:ln<=100000000): Calls prog 78 #[P0 bk,.slice W ln lc] w λe w'=>e=.returned (.tuple #[])/\∃Q x aA aC,Q.length=4/\x.2.1=ln+3/\ue w 121 3 1 2 (qE (-((n:Int)+1))) bk (ep Ev 0 (.int .i64 ((n:Int)+1))) L0 m0 ae (W,ln,lc) (-((n:Int)+1)) Q x aA aC w':=by
 obtain⟨i0,hi,aY,aU,b4⟩:=info_parts Tryz.Ff;obtain⟨j0,Y,bX,bP,bL⟩:=info_parts Tryz.Hq;obtain⟨c0,z0⟩:=hF.cells 0 (by omega);rw[h0]at c0;obtain⟨N1,aH⟩:∃N1:Int,N1=(n:Int)+1:=⟨_,rfl⟩;obtain⟨N,hN⟩:∃N:Int,N=-N1:=⟨_,rfl⟩;rw[<-aH,<-hN];have bZ:IntKind.i64.wrap ((n:Int)+1)=N1:=by rw[bl,bd _ (by omega)];exact aH.symm
 have c6:IntKind.i64.wrap (-N1)=N:=by rw[bl,bd _ (by omega)];exact hN.symm
 have bM:=az hN;clear hN;have aW:Full (w.setCell ⟨bk,0,none⟩ (.int .i64 N1)) bk 81 3 3 (ep Ev 0 (.int .i64 N1)):=hF.ep 0 _;have b8:(w.setCell ⟨bk,0,none⟩ (.int .i64 N1)).ownsRow 0 121 2 (.slice ae m0 ce) m0 L0:=dD hR (λk hk=>af _ _ _ _ (eL hR hF (by decide) k hk));have b6:(w.setCell ⟨bk,0,none⟩ (.int .i64 N1)).ownsRow 0 3 1 (.slice W ln lc) ln xs:=dD hL (λk hk=>af _ _ _ _ (eL hL hF (by decide) k hk));have aT:dy (λk=>k=bk\/eO ae=some k\/eO W=some k) w (w.setCell ⟨bk,0,none⟩ (.int .i64 N1)):=bm (S:=λk=>k=bk\/eO ae=some k\/eO W=some k) (a:=⟨bk,0,none⟩) (dk _ _) (ag (ag rfl)) _;have b9:=λk hk=>(dA hL k (by rw[dr];exact hk)).2.1;have b7:(w.setCell ⟨bk,0,none⟩ (.int .i64 N1)).heap.size=w.heap.size:=by simp[World.setCell]
 have bE:(ep Ev 0 (.int .i64 N1)) 2=.slice ae m0 ce:=by unfold ep;rw[aa (by decide)];exact h1
 have bD:(ep Ev 0 (.int .i64 N1)) 0=.int .i64 N1:=by unfold ep;rw[aj rfl]
 have aR:=az aW;have aO:=az b8;have aN:=az b6;have aP:=az aT;have c8:=az b9;have HE:=az (ay bD bE);have bG:=az aH;clear aW b8 b6 aT b9 bD bE aH h0 h1 hF hR hL;generalize ep Ev 0 (.int .i64 N1)=J at *;go_in;go_wp2_with fail
 have a5:Hid ((w.setCell ⟨bk,0,none⟩ (.int .i64 N1)).grownBy (w.setCell ⟨bk,0,none⟩ (.int .i64 N1)) none):=ax _ _;obtain⟨w1,aL⟩:∃w1:World,w1=w.setCell ⟨bk,0,none⟩ (.int .i64 N1):=⟨_,rfl⟩;rw[<-aL]at aR aO aN aP b7 a5 ⊢;clear aL;obtain⟨w2,aB⟩:∃w2:World,w2=w1:=⟨_,rfl⟩;rw[<-aB];have a5:Hid (w1.grownBy w2 none):=by rw[aB];exact a5
 clear aB;have b2:=az trivial;have b1:Hid (uf w 121 3 1 (qE N) bk J L0 m0 ae ce (W,ln,lc) 0 w2):=uf.Ki aR aO aN aP a5;clear aR aO aN aP a5 b7 z0 c0;go_loopw [4] (λiv wx=>∃j:Nat,j<=ln/\iv=.int .i64 j/\Hid (uf w 121 3 1 (qE N) bk J L0 m0 ae ce (W,ln,lc) j wx)/\Hid (True)) (λiv _=>ln-(intOf iv).toNat)
 case atStart=>exact⟨0,by omega,rfl,b1,b2⟩
 case round=>
  clear b1 b2;obtain⟨j,bK,rfl,rV,rX⟩:=hrel;have a7:=rV.f.lt;obtain⟨k0,f0⟩:=rV.f.cells 0 (by omega);obtain⟨k1,f1⟩:=rV.f.cells 2 (by omega);rw[HE.1]at k0;rw[HE.2]at k1;by_cases b3:j<ln
  .obtain⟨gq,hq,hB,bV⟩:=rV.z.place b3;simp only at hq hB bV;subst hq;have aX:(j:Int)<ln:=by omega
   obtain⟨⟨v0,q0⟩,p0⟩:=hB.cell j (by omega);have bU:Hid (uf w 121 3 1 (qE N) bk J L0 m0 ae ce (some ⟨gq,0,none⟩,ln,lc) (j+1) (wr.setCell ⟨gq,j,none⟩ (.int .i64 N))):=rV.Cf b3;clear hB;go_wp2_with fail
   go_roundw
   case rel=>exact⟨j+1,by omega,by go_num,bU,trivial⟩
   case measure=>simp[intOf];omega
  have aX:¬((j:Int)<ln):=by omega
  have bW:ln=j:=by omega
  subst bW;have aJ:Hid (ue w 121 3 1 2 (qE N) bk J L0 m0 ae (W,ln,lc) N [] (W,ln,lc) ae ce wr):=rV.done HE.2;have H:=az rV.r;have a0:Hid (∀k,(Value.slice ae m0 ce).ownBlock=some k->k≠bk/\k<wr.heap.size):=λk hk=>⟨eL H rV.f (by decide) k hk,(dA H k hk).2.1⟩;clear rV bK;obtain⟨i,aD⟩:∃i,i=ae:=⟨_,rfl⟩;obtain⟨o,a6⟩:∃o,o=ce:=⟨_,rfl⟩;have aJ:Hid (ue w 121 3 1 2 (qE N) bk J L0 m0 ae (W,ln,lc) N [] (W,ln,lc) i o wr):=by rw[aD,a6];exact aJ
  rw[<-aD,<-a6]at k1 H a0;clear aD a6;go_wp2_with fail
  go_cut [] (λwx=>∃(aA:Option Addr) (aC:Nat),Hid (ue w 121 3 1 2 (qE N) bk J L0 m0 ae (W,ln,lc) N [(W,ln,lc)] (W,ln,lc) aA aC wx)/\Hid (True))
  case first=>
   go_region_law (refine eS _ rfl (.tmp 32) (.tmp 40) 79 rfl 121 i0 _ 2 32 Tryz.underlying79 hi aY aU b4 rfl (by decide) i m0 o L0 (by first|rfl|simp[Act.eval,Act.put]) (dD H (λk h=>ak _ _ _ (a0 k h).2)) ⟨wr.heap.size,0,none⟩ 1 1 [.slice W ln lc,.int .i64 N] (by first|rfl|simp[Act.eval,Act.put]) rfl (by intro j u Y;match j,Y with|0,Y=>(simp at Y;subst Y;simp[Addr.add,go_sem])|1,Y=>(simp at Y;subst Y;simp[Addr.add,go_sem])) (by simp[Value.oneCell']) (by unfold maxLen;omega) (by omega) (by decide) ?_;intro v' w6 ho G a8;have hg:World.grownBy (wr.alloc (.cells #[.slice W ln lc,.int .i64 N] 121)) w6 (Value.slice i m0 o).ownBlock:=⟨G.os,G.tape,G.output,G.size,G.block⟩;clear G;obtain⟨gq,cq,rfl⟩:=dM ho (by omega);have aG:Hid ((Value.slice i m0 o).ownBlock=some gq\/wr.heap.size<=gq):=(by rcases a8 with h|⟨g',h,hl⟩;exact ag h.symm;exact ab (by have e:gq=g':=(by injection h);simp at hl;omega));clear a8;have aI:=az ho;have aK:=az hg;have bN:wr.heap.size<w6.heap.size:=(by have h9:=hg.size;simp at h9;omega);have a3:=((hg.block bk (by simp;omega) (λh=>(a0 bk h.symm).1 rfl)).trans (ak _ _ _ a7));have d6:w6.cell? ⟨bk,2,none⟩=some (.slice i m0 o):=(aw (a:=⟨bk,2,none⟩) a3).trans k1;have y6:w6.frozen? ⟨bk,2,none⟩=false:=(dg (a:=⟨bk,2,none⟩) a3).trans f1;clear a3 ho hg)
   all_goals
    go_wp2_with fail
    go_meet
    case rel=>exact⟨some ⟨gq,0,none⟩,cq,aJ.line (Q:=[]) (by decide) (by decide) (by decide) (by decide) (by have e:L0++gQ (([]:List Sl).map (λy=>(y,N)))=L0:=(by unfold gQ;simp);rw[e];exact aI) aK aG,trivial⟩
  case rest=>
   obtain⟨bS,bJ,aZ,aV⟩:=hcut;clear aJ H a0 k0 f0 k1 f1 a7 rX;go_wp2_with fail
   go_loopw [5,6] (λgv kv wx=>∃(k:Nat) (x:Sl) (Q:List Sl) (aA:Option Addr) (aC:Nat),k<=3/\kv=.int .i64 k/\gv=.slice x.1 x.2.1 x.2.2/\Hid (Q.length=k+1/\x.2.1=ln+k/\True)/\Hid (ue w 121 3 1 2 (qE N) bk J L0 m0 ae (W,ln,lc) N Q x aA aC wx)/\Hid (True)) (λ_ kv _=>3-(intOf kv).toNat)
   case atStart=>exact⟨0,(W,ln,lc),[(W,ln,lc)],bS,bJ,by omega,rfl,rfl,⟨rfl,rfl,trivial⟩,aZ,aV⟩
   case round=>
    clear aZ aV;obtain⟨k,⟨xa,xn,xc⟩,Q,i,o,c7,rfl,rfl,rQ,rT,rX⟩:=hrel;simp only at rQ;by_cases hk:k<3
    .have bY:(k:Int)<3:=by omega
     have aQ:Hid (wr.ownsRow 0 3 1 (.slice xa xn xc) xn (rowP (xn*1) (qE N))):=rT.x.1;have bA:=az (λk hk=>(dA aQ k hk).2.1);have bR:xn<=100000003:=by have:=rQ.2.1;omega
     obtain⟨k0,f0⟩:=rT.f.cells 0 (by omega);rw[show ep J 2 (.slice i (m0+Q.length) o) 0=.int .i64 N1 from(by unfold ep;rw[aa (by decide)];exact HE.1)]at k0;go_wp2_with (at_builtin;refine lV rfl (.tmp 49) (.tmp 55) 54 rfl 3 j0 _ 1 8 Tryz.tS Y bX bP bL rfl (by decide) _ _ _ _ rfl (dD aQ (λk h=>ak _ _ _ (bA k h))) ⟨wr.heap.size,0,none⟩ 1 1 [.int .i64 N] rfl rfl ?c1 ?c2 ?c3 ?c4 ?c5 ?_)
     try case c1=>intro j u Y;match j,Y with|0,Y=>(simp at Y;subst Y;simp[Addr.add,go_sem])
     try case c2=>simp[Value.oneCell']
     try case c3=>unfold maxLen;omega
     try case c4=>omega
     try case c5=>omega
     intro v' w5 ho b0;obtain⟨⟨a2,Z,a1⟩,hv,bB,b5,bC⟩:=rT.more (by decide) (by decide) (by decide) (by decide) (EC xn N) (by simp only[Nat.mul_one];exact ho) b0;have bO:v'=.slice a2 Z a1:=hv;simp only at bB b5;subst bO;have a4:=az bC;have aS:Hid (Q.length=k+1/\Z=ln+(k+1)/\True):=⟨rQ.1,(by have:=rQ.2.1;omega),trivial⟩;have aM:m0+Q.length<=100000010:=by have:=rQ.1;omega
     clear ho b0 hv bB b5 bC aQ bA bR k0 f0 rX rT rQ;have H:=az a4.r;have a0:Hid (∀k,(Value.slice i (m0+Q.length) o).ownBlock=some k->k≠bk/\k<w5.heap.size):=λk hk=>⟨eL H a4.f (by decide) k hk,(dA H k hk).2.1⟩;have a7:=a4.f.lt;obtain⟨k0,f0⟩:=a4.f.cells 0 (by omega);obtain⟨k1,f1⟩:=a4.f.cells 2 (by omega);rw[show ep J 2 (.slice i (m0+Q.length) o) 0=.int .i64 N1 from(by unfold ep;rw[aa (by decide)];exact HE.1)]at k0;rw[show ep J 2 (.slice i (m0+Q.length) o) 2=.slice i (m0+Q.length) o from(by unfold ep;rw[aj rfl])]at k1;obtain⟨mq,a9⟩:∃mq,mq=m0+Q.length:=⟨_,rfl⟩;obtain⟨Lq,aE⟩:∃Lq,Lq=L0++gQ (Q.map (λy=>(y,N))):=⟨_,rfl⟩;have bF:=az (ay a9 aE);rw[<-a9]at k1 H a0 aM;rw[<-aE]at H;clear a9 aE;go_wp2_with fail
     go_region_law (refine eS _ rfl (.tmp 61) (.tmp 69) 79 rfl 121 i0 _ 2 32 Tryz.underlying79 hi aY aU b4 rfl (by decide) i mq o Lq (by first|rfl|simp[Act.eval,Act.put]) (dD H (λk h=>ak _ _ _ (a0 k h).2)) ⟨w5.heap.size,0,none⟩ 1 1 [.slice a2 Z a1,.int .i64 N] (by first|rfl|simp[Act.eval,Act.put]) rfl (by intro j u Y;match j,Y with|0,Y=>(simp at Y;subst Y;simp[Addr.add,go_sem])|1,Y=>(simp at Y;subst Y;simp[Addr.add,go_sem])) (by simp[Value.oneCell']) (by unfold maxLen;omega) (by omega) (by decide) ?_;intro v' w6 ho G a8;have hg:World.grownBy (w5.alloc (.cells #[.slice a2 Z a1,.int .i64 N] 121)) w6 (Value.slice i mq o).ownBlock:=⟨G.os,G.tape,G.output,G.size,G.block⟩;clear G;obtain⟨gq,cq,rfl⟩:=dM ho (by omega);have aG:Hid ((Value.slice i mq o).ownBlock=some gq\/w5.heap.size<=gq):=(by rcases a8 with h|⟨g',h,hl⟩;exact ag h.symm;exact ab (by have e:gq=g':=(by injection h);simp at hl;omega));clear a8;have aI:=az ho;have aK:=az hg;have bN:w5.heap.size<w6.heap.size:=(by have h9:=hg.size;simp at h9;omega);have a3:=((hg.block bk (by simp;omega) (λh=>(a0 bk h.symm).1 rfl)).trans (ak _ _ _ a7));have d6:=(aw (a:=⟨bk,2,none⟩) a3).trans k1;have y6:=(dg (a:=⟨bk,2,none⟩) a3).trans f1;clear a3 ho hg)
     all_goals
      have bH:Hid (ue w 121 3 1 2 (qE N) bk J L0 m0 ae (W,ln,lc) N (Q++[(a2,Z,a1)]) (a2,Z,a1) (some ⟨gq,0,none⟩) cq (w6.setCell ⟨bk,2,none⟩ (.slice (some ⟨gq,0,none⟩) (mq+1) cq))):=by
       obtain⟨a9,aE⟩:=bF;subst a9 aE;exact a4.line (by decide) (by decide) (by decide) (by decide) aI aK aG
      have bT:Hid ((Q++[(a2,Z,a1)]).length=(k+1)+1/\Z=ln+(k+1)/\True):=⟨(by rw[bo];show Q.length+1=_;have:=aS.1;omega),aS.2⟩;clear a4 H a0 k0 k1 f0 f1 bF aS aM a7 aK aI aG;go_wp2_with fail
      go_roundw
      case rel=>exact⟨k+1,(a2,Z,a1),Q++[(a2,Z,a1)],some ⟨gq,0,none⟩,cq,by omega,by go_num,rfl,bT,bH,trivial⟩
      case measure=>simp[intOf];omega
    obtain rfl:k=3:=by omega
    go_wp2_with fail
    go_end0;obtain⟨q1,q2,_⟩:=rQ;have hn1:=bG.out;have bI:=bM.out;subst bI;subst hn1;exact⟨rfl,Q,(xa,xn,xc),i,o,q1,q2,rT⟩
