import Derived.Test.YtnjiinbhbjpfkaaGreatDoorKI
import Derived.Test.YtnjiinbhbjpfkaaGreatDoorKF
set_option maxRecDepth 100000
set_option maxHeartbeats 0
set_option linter.all false
namespace Go.Proofs.YtnjiinbhbjpfkaaGreatDoor
open Go.RowKit Go.Proofs.Tryz
section
def iV(kv:List B.V)(v:B.V):List B.V:=if v.1≠0/\v∉kv then kv++[v] else kv
def J7(w w':World)(eb ob m co j k c:Nat)(ad:Option Addr)(ov kv:List B.V)(v:B.V)(E:Nat->Value):Prop:=
 ∃vv,Full w' eb 144 44 44 (ep E 31 vv)/\w'.ownsRow 0 149 2 (.slice (some ⟨ob,0,none⟩) m co) m (fT (ov.set j v))/\w'.ownsRow 0 149 2 vv (iV kv v).length (fT (iV kv v))/\dy (λx=>x=eb\/x=ob\/(Value.slice ad k c).ownBlock=some x) w w'/\(vv.ownBlock=(Value.slice ad k c).ownBlock\/∃g,vv.ownBlock=some g/\w.heap.size<=g)
theorem Jq(eb ob m co j k c:Nat)(ad:Option Addr)(v:B.V)(ov Y:List B.V)(E:Nat->Value)(w:World)(hE:Full w eb 144 44 44 E)(b2:E 30=.slice (some ⟨ob,0,none⟩) m co)(ho:w.ownsRow 0 149 2 (.slice (some ⟨ob,0,none⟩) m co) m (fT ov))(aE:E 31=.slice ad k c)(hk:w.ownsRow 0 149 2 (.slice ad k c) k (fT Y))(hj:j<m)(hm:m<=1000000000)(cV:k<=1000000)(no:∀x,(Value.slice ad k c).ownBlock=some x->x≠ob): Calls prog 211 #[P0 eb,.int .i64 ((j:Int)+1),vA v] w λe w'=>e=.returned (.tuple #[])/\J7 w w' eb ob m co j k c ad ov Y v E:=by
 obtain⟨i0,hi,cH,bJ,cL⟩:=info_parts Tryz.rE;obtain⟨bV,cF⟩:=hE.cells 30 (by omega);obtain⟨aK,b7⟩:=hE.cells 31 (by omega);rw[b2]at bV;have le:=hE.lt;have oe:=eL ho hE (by decide) ob rfl;obtain⟨_,aS,a8,a7,a6,aW⟩:=ru ho;have lo:=a6.lt;obtain⟨⟨y0,o0⟩,p0⟩:=a6.cell (j*2) (by omega);obtain⟨⟨y1,o1⟩,p1⟩:=a6.cell (j*2+1) (by omega);have c4:Y.length=k:=by
  have:=hk.1;rw[jr]at this;omega
 have HE:=az hE;have aC:=az aE;have HO:=az (ay aS (ay a8 (ay a7 (ay a6 aW))));have HK:=az hk;have bK:=az no;have Z:=az c4;clear hE b2 aE ho hk aS a8 a7 a6 aW no c4;have cC:¬eb=ob:=λe=>oe e.symm
 have d0:ob<w.heap.size+1:=by omega
 have d3:(j:Int)<m:=by omega
 have d4:IntKind.i64.wrap (j:Int)=j:=nS _ ⟨by omega,by omega⟩;have d1:(0:Int)<=j:=by omega
 obtain⟨y,G⟩:=v;go_in;go_wp2_with fail
 go_region
 generalize a9:World.drew (((w.setCell ⟨ob,j*2,none⟩ (.int .i64 y)).setCell ⟨ob,j*2+1,none⟩ (.int .i64 G)).alloc (.cells #[.int .i64 y,.int .i64 G] 149))=w2;have bG:w2.heap[w.heap.size]? = some (.cells #[.int .i64 y,.int .i64 G] 149 (0,0)):=by
  have hz:((w.setCell ⟨ob,j*2,none⟩ (.int .i64 y)).setCell ⟨ob,j*2+1,none⟩ (.int .i64 G)).heap.size=w.heap.size:=by simp[World.setCell]
  rw[<-a9,<-hz];exact bf _ _
 have cU:w2.heap.size=w.heap.size+1:=by rw[<-a9];simp[World.setCell]
 have aD:∀x,x≠ob->x<w.heap.size->w2.heap[x]? = w.heap[x]?:=λx h1 h2=>by
  rw[<-a9];show(World.alloc _ _).heap[x]? = _;rw[ak _ _ _ (by simp[World.setCell];exact h2),af _ _ _ _ h1,af _ _ _ _ h1]
 have b3:Hid (Full w2 eb 144 44 44 E):=HE.block (aD eb cC le);have b9:=az (dD HK (λx h=>aD x (bK x h) (dA HK x h).2.1));have bC:Hid (w2.ownsRow 0 149 2 (.slice (some ⟨ob,0,none⟩) m co) m (fT (ov.set j (y,G)))):=by
  obtain⟨aS,a8,a7,a6,aW⟩:=HO;have bP:jB ((w.setCell ⟨ob,j*2,none⟩ (.int .i64 y)).setCell ⟨ob,j*2+1,none⟩ (.int .i64 G)) ob 149 (co*2):=(a6.set ob _ _).set ob _ _;have hX:w2.heap[ob]? = ((w.setCell ⟨ob,j*2,none⟩ (.int .i64 y)).setCell ⟨ob,j*2+1,none⟩ (.int .i64 G)).heap[ob]?:=by
   rw[<-a9];exact ak _ _ _ bP.lt
  have aF:∀o,w2.cell? ⟨ob,o,none⟩=((w.setCell ⟨ob,j*2,none⟩ (.int .i64 y)).setCell ⟨ob,j*2+1,none⟩ (.int .i64 G)).cell? ⟨ob,o,none⟩:=λo=>by simp only[World.cell?,hX]
  refine zK (dc _) aS a8 (by rw[dq,a7]) (by obtain⟨cu,q1,q2⟩:=bP;exact⟨cu,hX.trans q1,q2⟩) (λi x hx=>?_);rw[aF,aF];by_cases bU:i=j
  .subst bU;rw[List.getElem?_set_self (by omega)]at hx;injection hx with hx;subst hx;constructor
   .rw[dF _ _ _ _ (by intro e;injection e with _ e;omega)];exact World.cell?_setCell_same _ _ _ o0
   exact World.cell?_setCell_same _ _ _ ((dF _ _ _ _ (by intro e;injection e with _ e;omega)).trans o1)
  rw[List.getElem?_set_ne (λe=>bU e.symm)]at hx;obtain⟨q1,q2⟩:=aW i x hx;constructor
  .rw[dF _ _ _ _ (by intro e;injection e with _ e;omega),dF _ _ _ _ (by intro e;injection e with _ e;omega)];exact q1
  rw[dF _ _ _ _ (by intro e;injection e with _ e;omega),dF _ _ _ _ (by intro e;injection e with _ e;omega)];exact q2
 have c7:Hid (dy (λx=>x=eb\/x=ob\/(Value.slice ad k c).ownBlock=some x) w w2):=by
  show dy _ _ _;rw[<-a9];exact qi (gF (bm (bm (dk _ _) (ag (ab (ag rfl))) _) (ag (ab (ag rfl))) _) _)
 have b0:w2.cell? ⟨w.heap.size,0,none⟩=some (.int .i64 y):=by simp[World.cell?,bG]
 have b1:w2.cell? ⟨w.heap.size,1,none⟩=some (.int .i64 G):=by simp[World.cell?,bG]
 clear a9 bV cF o0 o1 p0 p1 y0 y1 bG aD HO HE HK;obtain⟨aK,b7⟩:=b3.cells 31 (by omega);have cT:eb<w2.heap.size:=by omega
 have c9:w.heap.size<w2.heap.size:=by omega
 go_wp2_with fail
 refine(ft (y,G) _).mono ?_;rintro e w3 ⟨rfl,a5⟩;have cX:=a5.size;have bO:=az (c7.gR a5);have b8:=az (b3.block (a5.block eb cT (by intro e;cases e)));have aR:=az (dD bC (λx h=>a5.block x (dA bC x h).2.1 (by intro e;cases e)));have aB:=az (dD b9 (λx h=>a5.block x (dA b9 x h).2.1 (by intro e;cases e)));obtain⟨k0,_⟩:=bh a5 (a:=⟨w.heap.size,0,none⟩) c9;obtain⟨k1,_⟩:=bh a5 (a:=⟨w.heap.size,1,none⟩) c9;rw[b0]at k0;rw[b1]at k1;have bW:eb<w3.heap.size:=by omega
 have bZ:w.heap.size<w3.heap.size:=by omega
 obtain⟨aT,bS⟩:=b8.cells 31 (by omega);rw[aC.out]at aT;clear a5 b0 b1 b3 bC b9 c7;have aL:∀w4,w3.grownBy w4 none->iV Y (y,G)=Y->J7 w w4 eb ob m co j k c ad ov Y (y,G) E:=λw4 J aN=>by
  refine⟨.slice ad k c,(b8.block (J.block eb bW (by intro e;cases e))).congr (λi _=>?_),dD aR (λx h=>J.block x (dA aR x h).2.1 (by intro e;cases e)),?_,bO.gR J,ag rfl⟩
  .by_cases aZ:i=31
   .subst aZ;rw[gf,aC.out]
   rw[eG _ _ _ _ aZ]
  rw[aN,Z.out];exact dD aB (λx h=>J.block x (dA aB x h).2.1 (by intro e;cases e))
 have c6:=az aL;clear aL;by_cases hv:y=0
 .subst hv;simp only[decide_true];go_wp2_with fail
  go_quiet (fail)
  go_wp2_with fail
  go_end0;exact⟨rfl,c6 _ (db (ax _ _) _) (by unfold iV;rw[aa (by simp)])⟩
 have hd:decide (y=0)=false:=by simpa using hv
 simp only[hd];clear hd;have cK:Hid (∀w4,w3.grownBy w4 none->Calls prog 224 #[.slice ad k c,vA (y,G)] w4 λe w'=>e=.returned (.bool (decide (((y,G):B.V)∈Y)))/\w4.grownBy w' none):=λw4 J=>by
  have c8:=dD aB (λx h=>J.block x (dA aB x h).2.1 (by intro e;cases e));rcases c8.2 with⟨h,h0⟩|⟨g',c',bD,h1,_,h3,_⟩
  .injection h with a1 a2 a3;subst a1 a2 a3;obtain rfl:Y=[]:=List.eq_nil_of_length_eq_zero Z;exact uK (y,G) 0 0 0 none [] w4 rfl (by omega) (λi x hx=>by simp at hx) (λh=>ch rfl h)
  injection h1 with a1 a2 a3;subst a1;obtain⟨_,_,_,_,hB,hc⟩:=ru c8;exact uK (y,G) g' c k _ Y w4 Z.symm (by omega) (λi x hx=>⟨rfl,hc i x hx⟩) (λ_=>hB.lt)
 go_wp2_with fail
 go_cut [31] from 21 to 31 (λx wx=>x=.bool (!decide (((y,G):B.V)∈Y))/\Hid (w3.grownBy wx none))
 case first=>
  go_region_with (go_at_call 224;refine(cK w3.drew (bq (ax _ _))).mono ?_;rintro e w4 ⟨rfl,J⟩;have a0:Hid (w3.grownBy w4 none):=⟨J.os,J.tape,J.output,J.size,J.block⟩;clear J)
  all_goals
   go_wp2_with fail
   go_meet
   case rel=>exact⟨rfl,a0⟩
 case rest=>
  obtain⟨rfl,a0⟩:=hcut;by_cases aA:((y,G):B.V)∈Y
  .have hd:decide (((y,G):B.V)∈Y)=true:=by simpa using aA
   rw[hd];have bF:=az aA;clear aA hd;go_wp2_with fail
   go_end0;exact⟨rfl,c6 _ a0 (by unfold iV;rw[aa (λh=>h.2 bF)])⟩
  have hd:decide (((y,G):B.V)∈Y)=false:=by simpa using aA
  rw[hd];have bF:=az aA;clear aA hd;have aN:iV Y (y,G)=Y++[(y,G)]:=by unfold iV;rw[aj ⟨hv,bF⟩]
  have bR:=az aN;have cY:=a0.size;obtain⟨cI,_⟩:=bh a0 (a:=⟨w.heap.size,0,none⟩) bZ;obtain⟨cN,_⟩:=bh a0 (a:=⟨w.heap.size,1,none⟩) bZ;rw[k0]at cI;rw[k1]at cN;have aO:=az (b8.block (a0.block eb bW (by intro e;cases e)));have bX:=az (bO.gR a0);have aV:=az (dD aR (λx h=>a0.block x (dA aR x h).2.1 (by intro e;cases e)));have aI:=az (dD aB (λx h=>a0.block x (dA aB x h).2.1 (by intro e;cases e)));clear k0 k1 aT bS aN;obtain⟨aT,bS⟩:=aO.cells 31 (by omega);rw[aC.out]at aT;have bI:eb<wc.heap.size:=by omega
  have d5:w.heap.size<wc.heap.size:=by omega
  have hW:∀x,x<wc.heap.size->((wc.alloc (.cells #[.int .i64 y,.int .i64 G] 149)).drew).heap[x]? = wc.heap[x]?:=λx hx=>ak _ _ _ hx;have aY:((wc.alloc (.cells #[.int .i64 y,.int .i64 G] 149)).drew).heap.size=wc.heap.size+1:=by show(World.alloc _ _).heap.size=_;simp
  have aX:((wc.alloc (.cells #[.int .i64 y,.int .i64 G] 149)).drew).heap[wc.heap.size]? = some (.cells #[.int .i64 y,.int .i64 G] 149 (0,0)):=bf wc _;have q0:((wc.alloc (.cells #[.int .i64 y,.int .i64 G] 149)).drew).cell? ⟨wc.heap.size,0,none⟩=some (.int .i64 y):=by simp only[World.cell?,aX];rfl
  have q1:((wc.alloc (.cells #[.int .i64 y,.int .i64 G] 149)).drew).cell? ⟨wc.heap.size,0+1,none⟩=some (.int .i64 G):=by simp only[World.cell?,aX];rfl
  have aU:∀i u,[Value.int .i64 y,.int .i64 G][i]? = some u->((wc.alloc (.cells #[.int .i64 y,.int .i64 G] 149)).drew).cell? ((⟨wc.heap.size,0,none⟩:Addr).add i)=some u:=λi u hj=>by
   match i,hj with
   | 0,hj=>(simp at hj;subst hj;exact q0)
   | 1,hj=>(simp at hj;subst hj;exact q1)
  have aQ:wc.grownBy ((wc.alloc (.cells #[.int .i64 y,.int .i64 G] 149)).drew) none:=bq (au (ax _ _) _);have cJ:∀x,(Value.slice ad k c).ownBlock=some x->x≠eb:=λx h=>eL aI aO (by decide) x h;have b6:(c<k+1/\(ad=none->k=0/\c=0))\/(k+1<=c/\∃W,ad=some ⟨W,0,none⟩):=by
   rcases aI.2 with⟨h,h0⟩|⟨g',c',bD,h1,_,_,h4,_⟩
   .injection h with a1 a2 a3;exact ag ⟨by omega,λ_=>⟨a2,a3⟩⟩
   injection h1 with a1 a2 a3;by_cases cO:k+1<=c
   .exact ab ⟨cO,g',a1⟩
   exact ag ⟨by omega,λe=>by rw[a1]at e;cases e⟩
  rcases b6 with⟨bY,aM⟩|⟨aG,W,rfl⟩
  .have a7:=aI.1;have aH:∀b,ad=some b->∀i u,(fT Y)[i]? = some u->((wc.alloc (.cells #[.int .i64 y,.int .i64 G] 149)).drew).cell? (b.add i)=some u:=λb hb i u hu=>by
    subst hb;rcases aI.2 with⟨h,_⟩|⟨g',c',bD,h1,_,h3,_,_,_,h7⟩
    .cases h
    injection h1 with h1 _ _;injection h1 with h1;subst h1;have cS:i<k*2:=by
     have:=(bu.1 hu).1;omega
    rw[<-h7,dh,aj cS]at hu;have h4:((wc.alloc (.cells #[.int .i64 y,.int .i64 G] 149)).drew).cell? ⟨g',i,none⟩=some u:=by
     simp only[World.cell?,hW g' (bz h3),h3];simpa using hu
    cases i with
    | zero=>simpa[Addr.add] using h4
    | succ i=>simpa[Addr.add] using h4
   have b5:=az (ay aM (ay a7 aH));have H:=az (ay aY (ay aU aQ));clear aM a7 aH hW aY aX aU aQ;go_wp2_with fail
   go_region_law (refine step_append_grows rfl (.tmp 36) (.tmp 38) 137 rfl 149 i0 (.agg #[.int .i64 0,.int .i64 0]) 2 16 underlying137 hi cH bJ cL rfl (by decide) ad k c (fT Y) (by first|rfl|simp[Act.eval,Act.put]) b5.1 b5.2.1 b5.2.2 ⟨wc.heap.size,0,none⟩ 1 1 [.int .i64 y,.int .i64 G] (by first|rfl|simp[Act.eval,Act.put]) rfl H.2.1 (by simp[Value.oneCell']) bY (by unfold maxLen;omega) (by omega) ?_;intro v' w6 ho hg;obtain⟨g,c',rfl⟩:=dM ho (by omega);have cA:Hid (w6.ownsRow 0 149 2 (.slice (some ⟨g,0,none⟩) (k+1) c') (k+1) (fT (Y++[(y,G)]))):=(oY Y [(y,G)])▸gw ho (dc _);have d6:wc.heap.size+1<=g:=H.1▸(by rcases ho.2 with⟨h,_⟩|⟨g',c',bD,h1,h2,_⟩;cases h;cases h1;exact h2);have bE:=az (an H.2.2 hg);have a4:=az (aO.block (bE.block eb bI (by intro e;cases e)));obtain⟨bA,cP⟩:=a4.cells 31 (by omega);have cQ:=a4.lt;clear ho hg)
   all_goals
    go_wp2_with fail
    go_end0;refine⟨rfl,.slice (some ⟨g,0,none⟩) (k+1) c',a4.ep 31 _,dD aV (λx h=>?_),?_,bm (bX.gR bE) (ag (ag rfl)) _,ab ⟨g,rfl,by omega⟩⟩
    .have bB:x=ob:=by injection h with h;exact h.symm
     subst bB;exact(af _ _ _ _ oe).trans (bE.block x (dA aV x rfl).2.1 (by intro e;cases e))
    rw[bR.out,bo,Z.out];exact dD cA (λx h=>af _ _ _ _ (eL cA a4 (by decide) x h))
  obtain⟨_,cZ,a8,bL,aJ,c2⟩:=ru aI;have bM:∀i,i < [Value.int .i64 y,.int .i64 G].length->(((wc.alloc (.cells #[.int .i64 y,.int .i64 G] 149)).drew).cell? ⟨W,0+k*2+i,none⟩).isSome=true/\((wc.alloc (.cells #[.int .i64 y,.int .i64 G] 149)).drew).frozen? ⟨W,0+k*2+i,none⟩=false:=λi cR=>by
   have cW:i<2:=cR;obtain⟨⟨v,h⟩,hf⟩:=aJ.cell (0+k*2+i) (by omega);have hk:=hW W aJ.lt;constructor
   .simp only[World.cell?]at h ⊢;rw[hk,h];rfl
   simp only[World.frozen?]at hf ⊢;rw[hk];exact hf
  have H:=az (ay aY (ay aU (ay aQ (ay bM hW))));have b4:=az (ay a8 (ay bL (ay aJ c2)));have bQ:W≠eb:=cJ W rfl;have bN:W≠ob:=bK W rfl;have bH:=aJ.lt;clear hW aY aX aU aQ bM a8 bL aJ c2 q0 q1;go_wp2_with fail
  go_region_law (refine step_append_room rfl (.tmp 36) (.tmp 38) 137 rfl 149 i0 2 underlying137 hi bJ W 0 k c (by first|rfl|simp[Act.eval,Act.put]) ⟨wc.heap.size,0,none⟩ 1 1 [.int .i64 y,.int .i64 G] (by first|rfl|simp[Act.eval,Act.put]) rfl H.2.1 (by simp[Value.oneCell']) aG H.2.2.2.1 ?_;generalize bT:World.setCells _ W _ _=w6;have aP:Hid (w6=((wc.alloc (.cells #[.int .i64 y,.int .i64 G] 149)).drew).setCells W (0+k*2) [.int .i64 y,.int .i64 G]):=bT.symm;clear bT;have c3:Hid (∀x,x≠W->w6.heap[x]? = ((wc.alloc (.cells #[.int .i64 y,.int .i64 G] 149)).drew).heap[x]?):=(λx hx=>by rw[aP.out];exact eU W x hx _ _ _);have a4:=az (aO.block ((c3 eb (λe=>bQ e.symm)).trans (H.2.2.2.2 eb bI)));obtain⟨bA,cP⟩:=a4.cells 31 (by omega);have cQ:=a4.lt)
  all_goals
   rw[aC.out]at bA;go_wp2_with fail
   go_end0;have cB:w6.ownsRow 0 149 2 (.slice (some ⟨W,0,none⟩) (k+1) c) (k+1) (fT (Y++[(y,G)])):=by
    refine zK (dc _) aG b4.1 (by simp[Z.out]) ?_ (λi x hx=>?_)
    .rw[aP.out];refine jB.Ex W _ _ _ ?_;obtain⟨cu,q1,q2⟩:=b4.2.2.1;exact⟨cu,(H.2.2.2.2 W bH).trans q1,q2⟩
    rw[aP.out];by_cases cM:i<k
    .rw[du (by rw[Z.out];exact cM)]at hx;obtain⟨q1,q2⟩:=b4.2.2.2 i x hx;rw[World.cell?_setCells_out W _ _ _ _ (λ_ _=>ag (by show i*2<0+k*2;omega)),World.cell?_setCells_out W _ _ _ _ (λ_ _=>ag (by show i*2+1<0+k*2;omega))];simp only[World.cell?]at q1 q2 ⊢;rw[H.2.2.2.2 W bH];exact⟨q1,q2⟩
    have c5:i=k:=by
     have:=(bu.1 hx).1;simp[Z.out]at this;omega
    subst c5;rw[dX (by rw[Z.out];exact bj _),Z,Nat.sub_self]at hx;have cD:x=(y,G):=by
     have:some (y,G)=some x:=hx;injection this with this;exact this.symm
    subst cD;have s0:=World.cell?_setCells_in W [.int .i64 y,.int .i64 G] (0+i*2) ((wc.alloc (.cells #[.int .i64 y,.int .i64 G] 149)).drew) (λt ht=>(H.2.2.2.1 t ht).1) 0 (by simp);have s1:=World.cell?_setCells_in W [.int .i64 y,.int .i64 G] (0+i*2) ((wc.alloc (.cells #[.int .i64 y,.int .i64 G] 149)).drew) (λt ht=>(H.2.2.2.1 t ht).1) 1 (by simp);rw[show(0+i*2+0)=i*2 by omega]at s0;rw[show(0+i*2+1)=i*2+1 by omega]at s1;exact⟨s0,s1⟩
   have cG:dy (λx=>x=eb\/x=ob\/(Value.slice (some ⟨W,0,none⟩) k c).ownBlock=some x) w w6:=by
    rw[aP.out];exact qh W (ab (ab rfl)) _ _ (bX.gR H.2.2.1)
   refine⟨rfl,.slice (some ⟨W,0,none⟩) (k+1) c,a4.ep 31 _,dD aV (λx h=>?_),?_,bm cG (ag (ag rfl)) _,ag rfl⟩
   .have bB:x=ob:=by injection h with h;exact h.symm
    subst bB;exact(af _ _ _ _ oe).trans ((c3 x (λe=>bN e.symm)).trans (H.2.2.2.2 x (dA aV x rfl).2.1))
   rw[bR.out,bo,Z.out];exact dD cB (λx h=>af _ _ _ _ (eL cB a4 (by decide) x h))
theorem xH(op a b c fb tb eb cb L nx rb nr vb:Nat)(back:Value)(R:Nat->B.V)(y:B.V)(W:a<nr)(w:World)(J:Fr w fb cb L nx rb nr back R)(hv:w.cell? ⟨vb,0,none⟩=some (Fv 93 #[]))(Y:vb<w.heap.size)(hn:Hid (∀w',w.grownBy w' none->Calls prog 93 #[dZ op a b c fb tb eb] w' λe w''=>e=.returned (vA y)/\w'.grownBy w'' none)): Calls prog 148 #[dZ op a b c fb tb eb,P0 vb] w λe w'=>e=.returned (.tuple #[])/\w.grownBy w' (some rb)/\Fr w' fb cb L nx rb nr back (B.set R a y):=by
 have G:=az J;clear J;go_in;go_wp2_with fail
 go_region_with (first|(go_at_call 93;refine(hn.out _ (by repeat (first|exact ax _ _|refine bq ?_|refine au ?_ _))).mono ?_;rintro e w1 ⟨rfl,o⟩;obtain⟨s0,s1,Z,s3,s4,s5,s6,s7⟩:=FD o;have i:Hid (w.grownBy w1 none):=an (by repeat (first|exact ax _ _|refine bq ?_|refine au ?_ _)) o;clear o)|(go_at_call 149;refine(js op a b c fb tb eb cb L nx rb nr back R y w1 (G.out.kept i.out).1 (G.out.kept i.out).2.1 W).mono ?_;rintro e w2 ⟨rfl,u,H⟩))
 all_goals
  go_wp2_with fail
  go_end0;refine⟨rfl,an (eD i.out) u,cm u (G.out.kept i.out).1 (by intro e;injection e with e;exact G.out.2.2 e),H,G.out.2.2⟩
theorem ze(op a b c fb tb eb cb L nx rb nr G vb:Nat)(back:Value)(R:Nat->B.V)(y:B.V)(ha:a<nr)(w:World)(W:Fr w fb cb L nx rb nr back R)(hw:w.cell? ⟨G,0,none⟩=some (Fv 148 #[P0 vb]))(hv:w.cell? ⟨vb,0,none⟩=some (Fv 93 #[]))(Z:G<w.heap.size)(H:vb<w.heap.size)(hn:Hid (∀w',w.grownBy w' none->Calls prog 93 #[dZ op a b c fb tb eb] w' λe w''=>e=.returned (vA y)/\w'.grownBy w'' none)): Calls prog 163 #[dZ op a b c fb tb eb,P0 G] w λe w'=>e=.returned (.int .i64 0)/\w.grownBy w' (some rb)/\Fr w' fb cb L nx rb nr back (B.set R a y):=by
 have KF:Hid (Fr w fb cb L nx rb nr back R):=W;go_in;go_wp2_with fail
 refine(xH op a b c fb tb eb cb L nx rb nr vb back R y ha _ (KF.out.kept (ah _ _ _)) (by simp[go_sem,H,hv]) (by simp;omega) (λw' Y=>hn.out w' (an (ah _ _ _) Y))).mono ?_;rintro e w1 ⟨rfl,i,o⟩;have u:=az o;have J:Hid (w.grownBy w1 (some rb)):=an (ah _ _ _) i;go_wp2_with fail
 go_ret;exact⟨rfl,J.out,u.out⟩
theorem xI(op a b c fb tb eb cb L nx rb nr vb:Nat)(back:Value)(R:Nat->B.V)(y:B.V)(W:a<nr)(w:World)(J:Fr w fb cb L nx rb nr back R)(hv:w.cell? ⟨vb,0,none⟩=some (Fv 86 #[]))(Y:vb<w.heap.size)(hn:Hid (∀w',w.grownBy w' none->Calls prog 86 #[dZ op a b c fb tb eb] w' λe w''=>e=.returned (vA y)/\w'.grownBy w'' none)): Calls prog 148 #[dZ op a b c fb tb eb,P0 vb] w λe w'=>e=.returned (.tuple #[])/\w.grownBy w' (some rb)/\Fr w' fb cb L nx rb nr back (B.set R a y):=by
 have G:=az J;clear J;go_in;go_wp2_with fail
 go_region_with (first|(go_at_call 86;refine(hn.out _ (by repeat (first|exact ax _ _|refine bq ?_|refine au ?_ _))).mono ?_;rintro e w1 ⟨rfl,o⟩;obtain⟨s0,s1,Z,s3,s4,s5,s6,s7⟩:=FD o;have i:Hid (w.grownBy w1 none):=an (by repeat (first|exact ax _ _|refine bq ?_|refine au ?_ _)) o;clear o)|(go_at_call 149;refine(js op a b c fb tb eb cb L nx rb nr back R y w1 (G.out.kept i.out).1 (G.out.kept i.out).2.1 W).mono ?_;rintro e w2 ⟨rfl,u,H⟩))
 all_goals
  go_wp2_with fail
  go_end0;refine⟨rfl,an (eD i.out) u,cm u (G.out.kept i.out).1 (by intro e;injection e with e;exact G.out.2.2 e),H,G.out.2.2⟩
theorem zf(op a b c fb tb eb cb L nx rb nr G vb:Nat)(back:Value)(R:Nat->B.V)(y:B.V)(ha:a<nr)(w:World)(W:Fr w fb cb L nx rb nr back R)(hw:w.cell? ⟨G,0,none⟩=some (Fv 148 #[P0 vb]))(hv:w.cell? ⟨vb,0,none⟩=some (Fv 86 #[]))(Z:G<w.heap.size)(H:vb<w.heap.size)(hn:Hid (∀w',w.grownBy w' none->Calls prog 86 #[dZ op a b c fb tb eb] w' λe w''=>e=.returned (vA y)/\w'.grownBy w'' none)): Calls prog 163 #[dZ op a b c fb tb eb,P0 G] w λe w'=>e=.returned (.int .i64 0)/\w.grownBy w' (some rb)/\Fr w' fb cb L nx rb nr back (B.set R a y):=by
 have KF:Hid (Fr w fb cb L nx rb nr back R):=W;go_in;go_wp2_with fail
 refine(xI op a b c fb tb eb cb L nx rb nr vb back R y ha _ (KF.out.kept (ah _ _ _)) (by simp[go_sem,H,hv]) (by simp;omega) (λw' Y=>hn.out w' (an (ah _ _ _) Y))).mono ?_;rintro e w1 ⟨rfl,i,o⟩;have u:=az o;have J:Hid (w.grownBy w1 (some rb)):=an (ah _ _ _) i;go_wp2_with fail
 go_ret;exact⟨rfl,J.out,u.out⟩
theorem DX(k:Nat)(u:k<=200)(w:World):Calls prog 220 #[.int .i64 k] w λe w'=>e=.returned (vA (k+1,0))/\w.grownBy w' none:=by
 have o:IntKind.i64.wrap ((k:Int)+1)=((k:Int)+1):=by simp[IntKind.wrap,IntKind.bits,IntKind.signed];omega
 go_in;go_wp2_with fail
 refine da (v:=vA (k+1,0)) (by simp[results,results220,go_sem]) rfl ⟨rfl,?_⟩;repeat (first|exact ax _ _|refine bq ?_|refine au ?_ _|refine bp ?_ (ab (by simp)) _)
