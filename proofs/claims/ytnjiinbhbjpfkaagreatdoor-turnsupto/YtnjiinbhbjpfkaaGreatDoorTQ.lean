import Derived.Test.YtnjiinbhbjpfkaaGreatDoorTK
import Derived.Test.YtnjiinbhbjpfkaaGreatDoorTL
set_option maxRecDepth 100000
set_option maxHeartbeats 0
set_option linter.all false
namespace Go.Proofs.YtnjiinbhbjpfkaaGreatDoor
open Go.RowKit Go.Proofs.Tryz
section
def jS(kv:List B.V)(v:B.V):List B.V:=if v.1≠0/\v∉kv then kv++[v] else kv
def MI(w w':aa)(eb ob m co j k c:Nat)(ad:Option Addr)(ov kv:List B.V)(v:B.V)(E:Nat->Value):Prop:=
 ∃vv,Full w' eb 144 44 44 (eC E 31 vv)/\w'.ownsRow 0 149 2 (.slice (some ⟨ob,0,none⟩) m co) m (gT (ov.set j v))/\w'.ownsRow 0 149 2 vv (jS kv v).length (gT (jS kv v))/\dM (λx=>x=eb\/x=ob\/(Value.slice ad k c).ownBlock=some x) w w'/\(vv.ownBlock=(Value.slice ad k c).ownBlock\/∃g,vv.ownBlock=some g/\w.heap.size<=g)
theorem LQ(eb ob m co j k c:Nat)(ad:Option Addr)(v:B.V)(ov Y:List B.V)(E:Nat->Value)(w:aa)(hE:Full w eb 144 44 44 E)(b2:E 30=dA ob m co)(ho:w.ownsRow 0 149 2 (dA ob m co) m (gT ov))(aE:E 31=.slice ad k c)(hk:w.ownsRow 0 149 2 (.slice ad k c) k (gT Y))(hj:j<m)(hm:m<=1000000000)(cV:k<=1000000)(no:∀x,(Value.slice ad k c).ownBlock=some x->x≠ob): eL 211 #[P0 eb,aj ((j:Int)+1),vA v] w λw'=>MI w w' eb ob m co j k c ad ov Y v E:=by
 obtain⟨i0,hi,cH,bJ,cL⟩:=info_parts Tryz.tL;obtain⟨bV,cF⟩:=hE.cells 30 ag;obtain⟨aK,b7⟩:=hE.cells 31 ag;rw[b2]at bV;have le:=hE.lt;have oe:=eU ho hE ek ob rfl;obtain⟨_,aS,a8,a7,a6,aW⟩:=qW ho;have lo:=a6.lt;obtain⟨⟨y0,o0⟩,p0⟩:=a6.cell (j*2) ag;obtain⟨⟨y1,o1⟩,p1⟩:=a6.cell (j*2+1) ag;have c4:Y.length=k:=by
  have:=hk.1;rw[kF]at this;omega
 have HE:=bj hE;have aC:=bj aE;have HO:=bj (bh aS (bh a8 (bh a7 (bh a6 aW))));have HK:=bj hk;have bK:=bj no;have Z:=bj c4;clear hE b2 aE ho hk aS a8 a7 a6 aW no c4;have cC:¬eb=ob:=λe=>oe e.symm
 have d0:ob<w.heap.size+1:=ag
 have d3:(j:Int)<m:=ag
 have d4:IntKind.i64.wrap (j:Int)=j:=jG _ ⟨ag,ag⟩;have d1:(0:Int)<=j:=ag
 obtain⟨y,G⟩:=v;delta eL;go_in;go_wp2_with fail
 go_region
 generalize a9:World.drew (((w.setCell (ay ob (j*2)) (aj y)).setCell (ay ob (j*2+1)) (aj G)).alloc (.cells #[aj y,aj G] 149))=w2;have bG:w2.heap[w.heap.size]? = some (.cells #[aj y,aj G] 149 (0,0)):=by
  have hz:((w.setCell (ay ob (j*2)) (aj y)).setCell (ay ob (j*2+1)) (aj G)).heap.size=w.heap.size:=by simp[World.setCell]
  rw[<-a9,<-hz];exact bl _ _
 have cU:w2.heap.size=w.heap.size+1:=by rw[<-a9];simp[World.setCell]
 have aD:∀x,x≠ob->x<w.heap.size->w2.heap[x]? = w.heap[x]?:=λx h1 h2=>by
  rw[<-a9];show(World.alloc _ _).heap[x]? = _;rw[av _ _ _ (by simp[World.setCell];exact h2),ab _ _ _ _ h1,ab _ _ _ _ h1]
 have b3:Hid (Full w2 eb 144 44 44 E):=HE.block (aD eb cC le);have b9:=bj (dQ HK (λx h=>aD x (bK x h) (dP HK x h).2.1));have bC:Hid (w2.ownsRow 0 149 2 (dA ob m co) m (gT (ov.set j (y,G)))):=by
  obtain⟨aS,a8,a7,a6,aW⟩:=HO;have bP:jF ((w.setCell (ay ob (j*2)) (aj y)).setCell (ay ob (j*2+1)) (aj G)) ob 149 (co*2):=(a6.set ob _ _).set ob _ _;have hX:w2.heap[ob]? = ((w.setCell (ay ob (j*2)) (aj y)).setCell (ay ob (j*2+1)) (aj G)).heap[ob]?:=by
   rw[<-a9];exact av _ _ _ bP.lt
  have aF:∀o,w2.cell? (ay ob o)=((w.setCell (ay ob (j*2)) (aj y)).setCell (ay ob (j*2+1)) (aj G)).cell? (ay ob o):=λo=>by simp only[World.cell?,hX]
  refine A4 (dk _) aS a8 (by rw[eA,a7]) (by obtain⟨cu,q1,q2⟩:=bP;exact⟨cu,hX.trans q1,q2⟩) (λi x hx=>?_);rw[aF,aF];by_cases bU:i=j
  .subst bU;rw[List.getElem?_set_self ag]at hx;injection hx with hx;subst hx;constructor
   .rw[dH _ _ _ _ AA];exact World.cell?_setCell_same _ _ _ o0
   exact World.cell?_setCell_same _ _ _ ((dH _ _ _ _ AA).trans o1)
  rw[List.getElem?_set_ne (λe=>bU e.symm)]at hx;obtain⟨q1,q2⟩:=aW i x hx;constructor
  .rw[dH _ _ _ _ AA,dH _ _ _ _ AA];exact q1
  rw[dH _ _ _ _ AA,dH _ _ _ _ AA];exact q2
 have c7:Hid (dM (λx=>x=eb\/x=ob\/(Value.slice ad k c).ownBlock=some x) w w2):=by
  show dM _ _ _;rw[<-a9];exact sq (gP (bp (bp (dw _ _) (af (ah (af rfl))) _) (af (ah (af rfl))) _) _)
 have b0:w2.cell? (ay w.heap.size 0)=some (aj y):=fy bG
 have b1:w2.cell? (ay w.heap.size 1)=some (aj G):=fy bG
 clear a9 bV cF o0 o1 p0 p1 y0 y1 bG aD HO HE HK;obtain⟨aK,b7⟩:=b3.cells 31 ag;have cT:eb<w2.heap.size:=ag
 have c9:w.heap.size<w2.heap.size:=ag
 go_wp2_with fail
 refine du (gk (y,G) _) λw3 a5=>?_;have cX:=a5.size;have bO:=bj (c7.iW a5);have b8:=bj (b3.block (a5.block eb cT im));have aR:=bj (dQ bC (λx h=>a5.block x (dP bC x h).2.1 im));have aB:=bj (dQ b9 (λx h=>a5.block x (dP b9 x h).2.1 im));obtain⟨k0,_⟩:=bd a5 (a:=ay w.heap.size 0) c9;obtain⟨k1,_⟩:=bd a5 (a:=ay w.heap.size 1) c9;rw[b0]at k0;rw[b1]at k1;have bW:eb<w3.heap.size:=ag
 have bZ:w.heap.size<w3.heap.size:=ag
 obtain⟨aT,bS⟩:=b8.cells 31 ag;rw[aC.out]at aT;clear a5 b0 b1 b3 bC b9 c7;have aL:∀w4,w3.grownBy w4 none->jS Y (y,G)=Y->MI w w4 eb ob m co j k c ad ov Y (y,G) E:=λw4 J aN=>by
  refine⟨.slice ad k c,(b8.block (J.block eb bW im)).congr (λi _=>?_),dQ aR (λx h=>J.block x (dP aR x h).2.1 im),?_,bO.iW J,af rfl⟩
  .by_cases aZ:i=31
   .subst aZ;rw[gO,aC.out]
   rw[eN _ _ _ _ aZ]
  rw[aN,Z.out];exact dQ aB (λx h=>J.block x (dP aB x h).2.1 im)
 have c6:=bj aL;clear aL;by_cases hv:y=0
 .subst hv;simp only[decide_true];go_wp2_with fail
  go_quiet (fail)
  go_wp2_with fail
  go_end0;exact⟨rfl,c6 _ (df (aw _ _) _) (by unfold jS;rw[au eB])⟩
 have hd:decide (y=0)=false:=gG hv
 simp only[hd];clear hd;have cK:Hid (∀w4,w3.grownBy w4 none->dD 224 #[.slice ad k c,vA (y,G)] w4 (.bool (decide (((y,G):B.V)∈Y))) λw'=>w4.grownBy w' none):=λw4 J=>by
  have c8:=dQ aB (λx h=>J.block x (dP aB x h).2.1 im);rcases c8.2 with⟨h,h0⟩|⟨g',c',bD,h1,_,h3,_⟩
  .injection h with a1 a2 a3;subst a1 a2 a3;obtain rfl:Y=[]:=List.eq_nil_of_length_eq_zero Z;exact wz (y,G) 0 0 0 none [] w4 rfl ag (λi x hx=>by simp at hx) (λh=>dp rfl h)
  injection h1 with a1 a2 a3;subst a1;obtain⟨_,_,_,_,hB,hc⟩:=qW c8;exact wz (y,G) g' c k _ Y w4 Z.symm ag (λi x hx=>⟨rfl,hc i x hx⟩) (λ_=>hB.lt)
 go_wp2_with fail
 go_cut [31] from 21 to 31 (λx wx=>x=.bool (!decide (((y,G):B.V)∈Y))/\Hid (w3.grownBy wx none))
 case first=>
  go_region_with (go_at_call 224;refine du (cK w3.drew (bo (aw _ _))) λw4 J=>?_;have a0:Hid (w3.grownBy w4 none):=⟨J.os,J.tape,J.output,J.size,J.block⟩;clear J)
  all_goals
   go_wp2_with fail
   go_meet
   case rel=>exact⟨rfl,a0⟩
 case rest=>
  obtain⟨rfl,a0⟩:=hcut;by_cases aA:((y,G):B.V)∈Y
  .have hd:decide (((y,G):B.V)∈Y)=true:=gG aA
   rw[hd];have bF:=bj aA;clear aA hd;go_wp2_with fail
   go_end0;exact⟨rfl,c6 _ a0 (by unfold jS;rw[au (λh=>h.2 bF)])⟩
  have hd:decide (((y,G):B.V)∈Y)=false:=gG aA
  rw[hd];have bF:=bj aA;clear aA hd;have aN:jS Y (y,G)=Y++[(y,G)]:=by unfold jS;rw[bf ⟨hv,bF⟩]
  have bR:=bj aN;have cY:=a0.size;obtain⟨cI,_⟩:=bd a0 (a:=ay w.heap.size 0) bZ;obtain⟨cN,_⟩:=bd a0 (a:=ay w.heap.size 1) bZ;rw[k0]at cI;rw[k1]at cN;have aO:=bj (b8.block (a0.block eb bW im));have bX:=bj (bO.iW a0);have aV:=bj (dQ aR (λx h=>a0.block x (dP aR x h).2.1 im));have aI:=bj (dQ aB (λx h=>a0.block x (dP aB x h).2.1 im));clear k0 k1 aT bS aN;obtain⟨aT,bS⟩:=aO.cells 31 ag;rw[aC.out]at aT;have bI:eb<wc.heap.size:=ag
  have d5:w.heap.size<wc.heap.size:=ag
  have hW:∀x,x<wc.heap.size->((wc.alloc (.cells #[aj y,aj G] 149)).drew).heap[x]? = wc.heap[x]?:=λx hx=>av _ _ _ hx;have aY:((wc.alloc (.cells #[aj y,aj G] 149)).drew).heap.size=wc.heap.size+1:=by show(World.alloc _ _).heap.size=_;simp
  have aX:((wc.alloc (.cells #[aj y,aj G] 149)).drew).heap[wc.heap.size]? = some (.cells #[aj y,aj G] 149 (0,0)):=bl wc _;have q0:((wc.alloc (.cells #[aj y,aj G] 149)).drew).cell? (ay wc.heap.size 0)=some (aj y):=by simp only[World.cell?,aX];rfl
  have q1:((wc.alloc (.cells #[aj y,aj G] 149)).drew).cell? (ay wc.heap.size (0+1))=some (aj G):=by simp only[World.cell?,aX];rfl
  have aU:∀i u,[Value.int .i64 y,aj G][i]? = some u->((wc.alloc (.cells #[aj y,aj G] 149)).drew).cell? (((ay wc.heap.size 0):Addr).add i)=some u:=λi u hj=>by
   match i,hj with
   | 0,hj=>(simp at hj;subst hj;exact q0)
   | 1,hj=>(simp at hj;subst hj;exact q1)
  have aQ:wc.grownBy ((wc.alloc (.cells #[aj y,aj G] 149)).drew) none:=bo (ax (aw _ _) _);have cJ:∀x,(Value.slice ad k c).ownBlock=some x->x≠eb:=λx h=>eU aI aO ek x h;have b6:(c<k+1/\(ad=none->k=0/\c=0))\/(k+1<=c/\∃W,ad=some (ay W 0)):=by
   rcases aI.2 with⟨h,h0⟩|⟨g',c',bD,h1,_,_,h4,_⟩
   .injection h with a1 a2 a3;exact af ⟨ag,λ_=>⟨a2,a3⟩⟩
   injection h1 with a1 a2 a3;by_cases cO:k+1<=c
   .exact ah ⟨cO,g',a1⟩
   exact af ⟨ag,λe=>by rw[a1]at e;cases e⟩
  rcases b6 with⟨bY,aM⟩|⟨aG,W,rfl⟩
  .have a7:=aI.1;have aH:∀b,ad=some b->∀i u,(gT Y)[i]? = some u->((wc.alloc (.cells #[aj y,aj G] 149)).drew).cell? (b.add i)=some u:=λb hb i u hu=>by
    subst hb;rcases aI.2 with⟨h,_⟩|⟨g',c',bD,h1,_,h3,_,_,_,h7⟩
    .cases h
    injection h1 with h1 _ _;injection h1 with h1;subst h1;have cS:i<k*2:=by
     have:=(cf.1 hu).1;omega
    rw[<-h7,dO,bf cS]at hu;have h4:((wc.alloc (.cells #[aj y,aj G] 149)).drew).cell? (ay g' i)=some u:=by
     simp only[World.cell?,hW g' (ch h3),h3];simpa using hu
    cases i with
    | zero=>simpa[Addr.add] using h4
    | succ i=>simpa[Addr.add] using h4
   have b5:=bj (bh aM (bh a7 aH));have H:=bj (bh aY (bh aU aQ));clear aM a7 aH hW aY aX aU aQ;go_wp2_with fail
   go_region_law (refine step_append_grows rfl (.tmp 36) (.tmp 38) 137 rfl 149 i0 (.agg #[aj 0,aj 0]) 2 16 underlying137 hi cH bJ cL rfl ek ad k c (gT Y) mB b5.1 b5.2.1 b5.2.2 (ay wc.heap.size 0) 1 1 [aj y,aj G] mB rfl H.2.1 xI bY pY ag ?_;intro v' w6 ho hg;obtain⟨g,c',rfl⟩:=ee ho ag;have cA:Hid (w6.ownsRow 0 149 2 (dA g (k+1) c') (k+1) (gT (Y++[(y,G)]))):=(qH Y [(y,G)])▸gV ho (dk _);have d6:wc.heap.size+1<=g:=H.1▸(by rcases ho.2 with⟨h,_⟩|⟨g',c',bD,h1,h2,_⟩;cases h;cases h1;exact h2);have bE:=bj (ar H.2.2 hg);have a4:=bj (aO.block (bE.block eb bI im));obtain⟨bA,cP⟩:=a4.cells 31 ag;have cQ:=a4.lt;clear ho hg)
   all_goals
    go_wp2_with fail
    go_end0;refine⟨rfl,dA g (k+1) c',a4.eC 31 _,dQ aV (λx h=>?_),?_,bp (bX.iW bE) (af (af rfl)) _,ah ⟨g,rfl,ag⟩⟩
    .have bB:x=ob:=by injection h with h;exact h.symm
     subst bB;exact(ab _ _ _ _ oe).trans (bE.block x (dP aV x rfl).2.1 im)
    rw[bR.out,cw,Z.out];exact dQ cA (λx h=>ab _ _ _ _ (eU cA a4 ek x h))
  obtain⟨_,cZ,a8,bL,aJ,c2⟩:=qW aI;have bM:∀i,i < [Value.int .i64 y,aj G].length->(((wc.alloc (.cells #[aj y,aj G] 149)).drew).cell? (ay W (0+k*2+i))).isSome=true/\((wc.alloc (.cells #[aj y,aj G] 149)).drew).frozen? (ay W (0+k*2+i))=false:=λi cR=>by
   have cW:i<2:=cR;obtain⟨⟨v,h⟩,hf⟩:=aJ.cell (0+k*2+i) ag;have hk:=hW W aJ.lt;constructor
   .simp only[World.cell?]at h ⊢;rw[hk,h];rfl
   simp only[World.frozen?]at hf ⊢;rw[hk];exact hf
  have H:=bj (bh aY (bh aU (bh aQ (bh bM hW))));have b4:=bj (bh a8 (bh bL (bh aJ c2)));have bQ:W≠eb:=cJ W rfl;have bN:W≠ob:=bK W rfl;have bH:=aJ.lt;clear hW aY aX aU aQ bM a8 bL aJ c2 q0 q1;go_wp2_with fail
  go_region_law (refine step_append_room rfl (.tmp 36) (.tmp 38) 137 rfl 149 i0 2 underlying137 hi bJ W 0 k c mB (ay wc.heap.size 0) 1 1 [aj y,aj G] mB rfl H.2.1 xI aG H.2.2.2.1 ?_;generalize bT:World.setCells _ W _ _=w6;have aP:Hid (w6=((wc.alloc (.cells #[aj y,aj G] 149)).drew).setCells W (0+k*2) [aj y,aj G]):=bT.symm;clear bT;have c3:Hid (∀x,x≠W->w6.heap[x]? = ((wc.alloc (.cells #[aj y,aj G] 149)).drew).heap[x]?):=(λx hx=>by rw[aP.out];exact fJ W x hx _ _ _);have a4:=bj (aO.block ((c3 eb (λe=>bQ e.symm)).trans (H.2.2.2.2 eb bI)));obtain⟨bA,cP⟩:=a4.cells 31 ag;have cQ:=a4.lt)
  all_goals
   rw[aC.out]at bA;go_wp2_with fail
   go_end0;have cB:w6.ownsRow 0 149 2 (dA W (k+1) c) (k+1) (gT (Y++[(y,G)])):=by
    refine A4 (dk _) aG b4.1 (by simp[Z.out]) ?_ (λi x hx=>?_)
    .rw[aP.out];refine jF.wO W _ _ _ ?_;obtain⟨cu,q1,q2⟩:=b4.2.2.1;exact⟨cu,(H.2.2.2.2 W bH).trans q1,q2⟩
    rw[aP.out];by_cases cM:i<k
    .rw[fk (eV Z.out cM)]at hx;obtain⟨q1,q2⟩:=b4.2.2.2 i x hx;rw[World.cell?_setCells_out W _ _ _ _ (λ_ _=>af (by show i*2<0+k*2;omega)),World.cell?_setCells_out W _ _ _ _ (λ_ _=>af (by show i*2+1<0+k*2;omega))];simp only[World.cell?]at q1 q2 ⊢;rw[H.2.2.2.2 W bH];exact⟨q1,q2⟩
    have c5:i=k:=by
     have:=(cf.1 hx).1;simp[Z.out]at this;omega
    subst c5;rw[iy (by rw[Z.out];exact bq _),Z,Nat.sub_self]at hx;have cD:x=(y,G):=by
     have:some (y,G)=some x:=hx;injection this with this;exact this.symm
    subst cD;have s0:=World.cell?_setCells_in W [aj y,aj G] (0+i*2) ((wc.alloc (.cells #[aj y,aj G] 149)).drew) (λt ht=>(H.2.2.2.1 t ht).1) 0 eB;have s1:=World.cell?_setCells_in W [aj y,aj G] (0+i*2) ((wc.alloc (.cells #[aj y,aj G] 149)).drew) (λt ht=>(H.2.2.2.1 t ht).1) 1 eB;rw[show(0+i*2+0)=i*2 by omega]at s0;rw[show(0+i*2+1)=i*2+1 by omega]at s1;exact⟨s0,s1⟩
   have cG:dM (λx=>x=eb\/x=ob\/(Value.slice (some (ay W 0)) k c).ownBlock=some x) w w6:=by
    rw[aP.out];exact sn W (ah (ah rfl)) _ _ (bX.iW H.2.2.1)
   refine⟨rfl,dA W (k+1) c,a4.eC 31 _,dQ aV (λx h=>?_),?_,bp cG (af (af rfl)) _,af rfl⟩
   .have bB:x=ob:=by injection h with h;exact h.symm
    subst bB;exact(ab _ _ _ _ oe).trans ((c3 x (λe=>bN e.symm)).trans (H.2.2.2.2 x (dP aV x rfl).2.1))
   rw[bR.out,cw,Z.out];exact dQ cB (λx h=>ab _ _ _ _ (eU cB a4 ek x h))
