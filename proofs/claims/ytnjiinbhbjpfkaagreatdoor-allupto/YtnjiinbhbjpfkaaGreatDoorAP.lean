import Derived.Test.YtnjiinbhbjpfkaaGreatDoorAG
import Derived.Test.YtnjiinbhbjpfkaaGreatDoorAF
import Derived.Test.YtnjiinbhbjpfkaaGreatDoorAD
import Derived.Test.YtnjiinbhbjpfkaaGreatDoorAH
set_option maxRecDepth 100000
set_option maxHeartbeats 0
set_option linter.all false
namespace Go.Proofs.YtnjiinbhbjpfkaaGreatDoor
open Go.RowKit Go.Proofs.Tryz
section
def ko(kv:List B.V)(v:B.V):List B.V:=if v.1≠0/\v∉kv then kv++[v] else kv
def NI(w w':aa)(eb ob m co j k c:Nat)(ad:Option Addr)(ov kv:List B.V)(v:B.V)(E:Nat->Value):Prop:=
 ∃vv,Full w' eb 144 44 44 (eE E 31 vv)/\w'.ownsRow 0 149 2 (.slice (some ⟨ob,0,none⟩) m co) m (ij<|ov.set j v)/\w'.ownsRow 0 149 2 vv (ko kv v).length (ij<|ko kv v)/\dN (λx=>x=eb\/x=ob\/(Value.slice ad k c).ownBlock=some x) w w'/\(vv.ownBlock=(Value.slice ad k c).ownBlock\/∃g,vv.ownBlock=some g/\w.heap.size<=g)
theorem MS(eb ob m co j k c:Nat)(ad:Option Addr)(v:B.V)(ov Y:List B.V)(E:Nat->Value)(w:aa)(hE:Full w eb 144 44 44 E)(b2:E 30=dD ob m co)(ho:w.ownsRow 0 149 2 (dD ob m co) m (ij ov))(aE:E 31=.slice ad k c)(hk:w.ownsRow 0 149 2 (.slice ad k c) k (ij Y))(hj:j<m)(hm:m<=1000000000)(cV:k<=1000000)(no:∀x,(Value.slice ad k c).ownBlock=some x->x≠ob):eN 211 #[P0 eb,ah<|(j:Int)+1,vA v] w λw'=>NI w w' eb ob m co j k c ad ov Y v E:=by
 let⟨i0,hi,cH,bJ,cL⟩:=info_parts Tryz.uo;let⟨bV,cF⟩:=hE.cells 30 af;let⟨aK,b7⟩:=hE.cells 31 af;rw[b2]at bV;have le:=hE.lt;have oe:=eU ho hE eo ob rfl;let⟨_,aS,a8,a7,a6,aW⟩:=rY ho;have lo:=a6.lt;let⟨⟨y0,o0⟩,p0⟩:=a6.cell (j*2) af;let⟨⟨y1,o1⟩,p1⟩:=a6.cell (j*2+1) af;have c4:Y.length=k:=by
  have:=hk.1;rw[kS]at this;omega
 have HE:=bj hE;have aC:=bj aE;have HO:=bj<|bh aS<|bh a8<|bh a7<|bh a6 aW;have HK:=bj hk;have bK:=bj no;have Z:=bj c4;clear hE b2 aE ho hk aS a8 a7 a6 aW no c4;have cC:¬eb=ob:=λe=>oe e.symm
 have d0:ob<w.heap.size+1:=af
 have d3:(j:Int)<m:=af
 have d4:IntKind.i64.wrap (j:Int)=j:=jf _ ⟨af,af⟩;have d1:(0:Int)<=j:=af
 obtain⟨y,G⟩:=v;delta eN;go_in;go_wp2_with fail
 go_region
 generalize a9:World.drew (gG (iA (iA w ob (j*2)<|ah y) ob (j*2+1)<|ah G) #[ah y,ah G] 149)=w2;have bG:w2.heap[w.heap.size]?=ny #[ah y,ah G] 149:=by
  have hz:(iA (iA w ob (j*2)<|ah y) ob (j*2+1)<|ah G).heap.size=w.heap.size:=by simp[World.setCell]
  rw[<-a9,<-hz];exact bl _ _
 have cU:w2.heap.size=w.heap.size+1:=by rw[<-a9];simp[World.setCell]
 have aD:∀x,x≠ob->x<w.heap.size->w2.heap[x]?=w.heap[x]?:=λx h1 h2=>by
  rw[<-a9];show(World.alloc _ _).heap[x]?=_;rw[au _ _ _ (by simp[World.setCell];exact h2),ab _ _ _ _ h1,ab _ _ _ _ h1]
 have b3:=bj<|HE.block<|aD eb cC le;have b9:=bj<|dS HK<|λx h=>aD x (bK x h) (dR HK x h).2.1;have bC:Hid (w2.ownsRow 0 149 2 (dD ob m co) m<|ij<|ov.set j (y,G)):=by
  obtain⟨aS,a8,a7,a6,aW⟩:=HO;have bP:jQ (iA (iA w ob (j*2)<|ah y) ob (j*2+1)<|ah G) ob 149 (co*2):=(a6.set ob _ _).set ob _ _;have hX:w2.heap[ob]?=(iA (iA w ob (j*2)<|ah y) ob (j*2+1)<|ah G).heap[ob]?:=by
   rw[<-a9];exact au _ _ _ bP.lt
  have aF:∀o,w2.cell? (az ob o)=(iA (iA w ob (j*2)<|ah y) ob (j*2+1)<|ah G).cell? (az ob o):=λo=>by simp only[World.cell?,hX]
  refine BA (di _) aS a8 (by rw[eC,a7]) (by obtain⟨cu,q1,q2⟩:=bP;exact⟨cu,hX.trans q1,q2⟩)<|λi x hx=>?_;rw[aF,aF];by_cases bU:i=j
  .subst bU;rw[List.getElem?_set_self af]at hx;injection hx with hx;subst hx;constructor
   .rw[dK _ _ _ _ Cm];exact World.cell?_setCell_same _ _ _ o0
   exact World.cell?_setCell_same _ _ _<|(dK _ _ _ _ Cm).trans o1
  rw[List.getElem?_set_ne<|λe=>bU e.symm]at hx;let⟨q1,q2⟩:=aW i x hx;constructor
  .rw[dK _ _ _ _ Cm,dK _ _ _ _ Cm];exact q1
  rw[dK _ _ _ _ Cm,dK _ _ _ _ Cm];exact q2
 have c7:Hid (dN (λx=>x=eb\/x=ob\/(Value.slice ad k c).ownBlock=some x) w w2):=by
  show dN _ _ _;rw[<-a9];exact td<|gV (bq (bq (dx _ _) (ag<|ak<|ag rfl) _) (ag<|ak<|ag rfl) _) _
 have b0:w2.cell? (az w.heap.size 0)=some (ah y):=fj bG
 have b1:w2.cell? (az w.heap.size 1)=some (ah G):=fj bG
 clear a9 bV cF o0 o1 p0 p1 y0 y1 bG aD HO HE HK;let⟨aK,b7⟩:=b3.cells 31 af;have cT:eb<w2.heap.size:=af
 have c9:w.heap.size<w2.heap.size:=af
 go_wp2_with fail
 refine dq (gp (y,G) _) λw3 a5=>?_;have cX:=a5.size;have bO:=bj<|c7.jj a5;have b8:=bj<|b3.block<|a5.block eb cT je;have aR:=bj<|dS bC<|λx h=>a5.block x (dR bC x h).2.1 je;have aB:=bj<|dS b9<|λx h=>a5.block x (dR b9 x h).2.1 je;let⟨k0,_⟩:=ay a5 (a:=az w.heap.size 0) c9;let⟨k1,_⟩:=ay a5 (a:=az w.heap.size 1) c9;rw[b0]at k0;rw[b1]at k1;have bW:eb<w3.heap.size:=af
 have bZ:w.heap.size<w3.heap.size:=af
 let⟨aT,bS⟩:=b8.cells 31 af;rw[aC.out]at aT;clear a5 b0 b1 b3 bC b9 c7;have aL:∀w4,iY w3 w4->ko Y (y,G)=Y->NI w w4 eb ob m co j k c ad ov Y (y,G) E:=λw4 J aN=>by
  refine⟨.slice ad k c,(b8.block<|J.block eb bW je).congr (λi _=>?_),dS aR<|λx h=>J.block x (dR aR x h).2.1 je,?_,bO.jj J,ag rfl⟩
  .by_cases aZ:i=31
   .subst aZ;rw[gU,aC.out]
   rw[eP _ _ _ _ aZ]
  rw[aN,Z.out];exact dS aB<|λx h=>J.block x (dR aB x h).2.1 je
 have c6:=bj aL;clear aL;by_cases hv:y=0
 .subst hv;simp only[decide_true];go_wp2_with fail
  go_quiet (fail)
  go_wp2_with fail
  go_end0;exact⟨rfl,c6 _ (df (aw _ _) _) (by unfold ko;rw[av eG])⟩
 have hd:decide (y=0)=false:=iE hv
 simp only[hd];clear hd;have cK:Hid (∀w4,iY w3 w4->dC 224 #[.slice ad k c,vA (y,G)] w4 (.bool (decide (((y,G):B.V)∈Y))) λw'=>iY w4 w'):=λw4 J=>by
  have c8:=dS aB<|λx h=>J.block x (dR aB x h).2.1 je;rcases c8.2 with⟨h,h0⟩|⟨g',c',bD,h1,_,h3,_⟩
  .injection h with a1 a2 a3;subst a1 a2 a3;obtain rfl:Y=[]:=List.eq_nil_of_length_eq_zero Z;exact xi (y,G) 0 0 0 none [] w4 rfl af (λi x hx=>by simp at hx) (λh=>dr rfl h)
  injection h1 with a1 a2 a3;subst a1;let⟨_,_,_,_,hB,hc⟩:=rY c8;exact xi (y,G) g' c k _ Y w4 Z.symm af (λi x hx=>⟨rfl,hc i x hx⟩)<|λ_=>hB.lt
 go_wp2_with fail
 go_cut[31] from 21 to 31 (λx wx=>x=.bool (!decide (((y,G):B.V)∈Y))/\Hid (iY w3 wx))
 case first=>
  go_region_with (go_at_call 224;refine dq (cK w3.drew<|bo<|aw _ _) λw4 J=>?_;have a0:Hid (iY w3 w4):=⟨J.os,J.tape,J.output,J.size,J.block⟩;clear J)
  all_goals
   go_wp2_with fail
   go_meet
   case rel=>exact⟨rfl,a0⟩
 case rest=>
  obtain⟨rfl,a0⟩:=hcut;by_cases aA:((y,G):B.V)∈Y
  .have hd:decide (((y,G):B.V)∈Y)=true:=iE aA
   rw[hd];have bF:=bj aA;clear aA hd;go_wp2_with fail
   go_end0;exact⟨rfl,c6 _ a0 (by unfold ko;rw[av<|λh=>h.2 bF])⟩
  have hd:decide (((y,G):B.V)∈Y)=false:=iE aA
  rw[hd];have bF:=bj aA;clear aA hd;have aN:ko Y (y,G)=Y++[(y,G)]:=by unfold ko;rw[bf ⟨hv,bF⟩]
  have bR:=bj aN;have cY:=a0.size;let⟨cI,_⟩:=ay a0 (a:=az w.heap.size 0) bZ;let⟨cN,_⟩:=ay a0 (a:=az w.heap.size 1) bZ;rw[k0]at cI;rw[k1]at cN;have aO:=bj<|b8.block<|a0.block eb bW je;have bX:=bj<|bO.jj a0;have aV:=bj<|dS aR<|λx h=>a0.block x (dR aR x h).2.1 je;have aI:=bj<|dS aB<|λx h=>a0.block x (dR aB x h).2.1 je;clear k0 k1 aT bS aN;let⟨aT,bS⟩:=aO.cells 31 af;rw[aC.out]at aT;have bI:eb<wc.heap.size:=af
  have d5:w.heap.size<wc.heap.size:=af
  have hW:∀x,x<wc.heap.size->((gG wc #[ah y,ah G] 149).drew).heap[x]?=wc.heap[x]?:=λx hx=>au _ _ _ hx;have aY:((gG wc #[ah y,ah G] 149).drew).heap.size=wc.heap.size+1:=by show(World.alloc _ _).heap.size=_;simp
  have aX:((gG wc #[ah y,ah G] 149).drew).heap[wc.heap.size]?=ny #[ah y,ah G] 149:=bl wc _;have q0:((gG wc #[ah y,ah G] 149).drew).cell? (az wc.heap.size 0)=some (ah y):=by simp only[World.cell?,aX];rfl
  have q1:((gG wc #[ah y,ah G] 149).drew).cell? (az wc.heap.size<|0+1)=some (ah G):=by simp only[World.cell?,aX];rfl
  have aU:∀i u,[Value.int .i64 y,ah G][i]?=some u->((gG wc #[ah y,ah G] 149).drew).cell? (((az wc.heap.size 0):Addr).add i)=some u:=λi u hj=>by
   match i,hj with
   |0,hj=>(simp at hj;subst hj;exact q0)
   |1,hj=>(simp at hj;subst hj;exact q1)
  have aQ:iY wc ((gG wc #[ah y,ah G] 149).drew):=bo<|ax (aw _ _) _;have cJ:∀x,(Value.slice ad k c).ownBlock=some x->x≠eb:=λx h=>eU aI aO eo x h;have b6:(c<k+1/\(ad=none->k=0/\c=0))\/(k+1<=c/\∃W,ad=some (az W 0)):=by
   rcases aI.2 with⟨h,h0⟩|⟨g',c',bD,h1,_,_,h4,_⟩
   .injection h with a1 a2 a3;exact ag ⟨af,λ_=>⟨a2,a3⟩⟩
   injection h1 with a1 a2 a3;by_cases cO:k+1<=c
   .exact ak ⟨cO,g',a1⟩
   exact ag ⟨af,λe=>by rw[a1]at e;cases e⟩
  rcases b6 with⟨bY,aM⟩|⟨aG,W,rfl⟩
  .have a7:=aI.1;have aH:∀b,ad=some b->∀i u,(ij Y)[i]?=some u->((gG wc #[ah y,ah G] 149).drew).cell? (b.add i)=some u:=λb hb i u hu=>by
    subst hb;rcases aI.2 with⟨h,_⟩|⟨g',c',bD,h1,_,h3,_,_,_,h7⟩
    .cases h
    injection h1 with h1 _ _;injection h1 with h1;subst h1;have cS:i<k*2:=by
     have:=(cf.1 hu).1;omega
    rw[<-h7,dP,bf cS]at hu;have h4:((gG wc #[ah y,ah G] 149).drew).cell? (az g' i)=some u:=by
     simp only[World.cell?,hW g' (ch h3),h3];simpa using hu
    cases i with
    |zero=>simpa[Addr.add] using h4
    |succ i=>simpa[Addr.add] using h4
   have b5:=bj<|bh aM<|bh a7 aH;have H:=bj<|bh aY<|bh aU aQ;clear aM a7 aH hW aY aX aU aQ;go_wp2_with fail
   go_region_law (refine step_append_grows rfl (.tmp 36) (.tmp 38) 137 rfl 149 i0 (.agg #[ah 0,ah 0]) 2 16 underlying137 hi cH bJ cL rfl eo ad k c (ij Y) mS b5.1 b5.2.1 b5.2.2 (az wc.heap.size 0) 1 1 [ah y,ah G] mS rfl H.2.1 yv bY pY af ?_;intro v' w6 ho hg;obtain⟨g,c',rfl⟩:=ef ho af;have cA:=bj<|(ri Y [(y,G)])▸ib ho (di _);have d6:wc.heap.size+1<=g:=H.1▸(by rcases ho.2 with⟨h,_⟩|⟨g',c',bD,h1,h2,_⟩;cases h;cases h1;exact h2);have bE:=bj<|ar H.2.2 hg;have a4:=bj<|aO.block<|bE.block eb bI je;let⟨bA,cP⟩:=a4.cells 31 af;have cQ:=a4.lt;clear ho hg)
   all_goals
    go_wp2_with fail
    go_end0;refine⟨rfl,dD g (k+1) c',a4.eE 31 _,dS aV<|λx h=>?_,?_,bq (bX.jj bE) (ag<|ag rfl) _,ak ⟨g,rfl,af⟩⟩
    .have bB:x=ob:=by injection h with h;exact h.symm
     subst bB;exact(ab _ _ _ _ oe).trans<|bE.block x (dR aV x rfl).2.1 je
    rw[bR.out,db,Z.out];exact dS cA<|λx h=>ab _ _ _ _<|eU cA a4 eo x h
  let⟨_,cZ,a8,bL,aJ,c2⟩:=rY aI;have bM:∀i,i < [Value.int .i64 y,ah G].length->(((gG wc #[ah y,ah G] 149).drew).cell?<|az W<|0+k*2+i).isSome=true/\((gG wc #[ah y,ah G] 149).drew).frozen? (az W<|0+k*2+i)=false:=λi cR=>by
   have cW:i<2:=cR;let⟨⟨v,h⟩,hf⟩:=aJ.cell (0+k*2+i) af;have hk:=hW W aJ.lt;constructor
   .simp only[World.cell?]at h⊢;rw[hk,h];rfl
   simp only[World.frozen?]at hf⊢;rw[hk];exact hf
  have H:=bj<|bh aY<|bh aU<|bh aQ<|bh bM hW;have b4:=bj<|bh a8<|bh bL<|bh aJ c2;have bQ:W≠eb:=cJ W rfl;have bN:W≠ob:=bK W rfl;have bH:=aJ.lt;clear hW aY aX aU aQ bM a8 bL aJ c2 q0 q1;go_wp2_with fail
  go_region_law (refine step_append_room rfl (.tmp 36) (.tmp 38) 137 rfl 149 i0 2 underlying137 hi bJ W 0 k c mS (az wc.heap.size 0) 1 1 [ah y,ah G] mS rfl H.2.1 yv aG H.2.2.2.1 ?_;generalize bT:World.setCells _ W _ _=w6;have aP:=bj bT.symm;clear bT;have c3:Hid (∀x,x≠W->w6.heap[x]?=((gG wc #[ah y,ah G] 149).drew).heap[x]?):=(λx hx=>by rw[aP.out];exact fM W x hx _ _ _);have a4:=bj<|aO.block<|(c3 eb<|λe=>bQ e.symm).trans<|H.2.2.2.2 eb bI;let⟨bA,cP⟩:=a4.cells 31 af;have cQ:=a4.lt)
  all_goals
   rw[aC.out]at bA;go_wp2_with fail
   go_end0;have cB:w6.ownsRow 0 149 2 (dD W (k+1) c) (k+1) (ij<|Y++[(y,G)]):=by
    refine BA (di _) aG b4.1 (by simp[Z.out]) ?_<|λi x hx=>?_
    .rw[aP.out];refine jQ.xD W _ _ _ ?_;let⟨cu,q1,q2⟩:=b4.2.2.1;exact⟨cu,(H.2.2.2.2 W bH).trans q1,q2⟩
    rw[aP.out];by_cases cM:i<k
    .rw[fq<|eZ Z.out cM]at hx;let⟨q1,q2⟩:=b4.2.2.2 i x hx;rw[World.cell?_setCells_out W _ _ _ _<|λ_ _=>ag (by show i*2<0+k*2;omega),World.cell?_setCells_out W _ _ _ _<|λ_ _=>ag (by show i*2+1<0+k*2;omega)];simp only[World.cell?]at q1 q2⊢;rw[H.2.2.2.2 W bH];exact⟨q1,q2⟩
    have c5:i=k:=by
     have:=(cf.1 hx).1;simp[Z.out]at this;omega
    subst c5;rw[iF (by rw[Z.out];exact bm _),Z,Nat.sub_self]at hx;have cD:x=(y,G):=by
     have:some (y,G)=some x:=hx;injection this with this;exact this.symm
    subst cD;have s0:=World.cell?_setCells_in W [ah y,ah G] (0+i*2) ((gG wc #[ah y,ah G] 149).drew) (λt ht=>(H.2.2.2.1 t ht).1) 0 eG;have s1:=World.cell?_setCells_in W [ah y,ah G] (0+i*2) ((gG wc #[ah y,ah G] 149).drew) (λt ht=>(H.2.2.2.1 t ht).1) 1 eG;rw[show(0+i*2+0)=i*2 by omega]at s0;rw[show(0+i*2+1)=i*2+1 by omega]at s1;exact⟨s0,s1⟩
   have cG:dN (λx=>x=eb\/x=ob\/(Value.slice (some<|az W 0) k c).ownBlock=some x) w w6:=by
    rw[aP.out];exact ta W (ak<|ak rfl) _ _<|bX.jj H.2.2.1
   refine⟨rfl,dD W (k+1) c,a4.eE 31 _,dS aV<|λx h=>?_,?_,bq cG (ag<|ag rfl) _,ag rfl⟩
   .have bB:x=ob:=by injection h with h;exact h.symm
    subst bB;exact(ab _ _ _ _ oe).trans<|(c3 x<|λe=>bN e.symm).trans<|H.2.2.2.2 x (dR aV x rfl).2.1
   rw[bR.out,db,Z.out];exact dS cB<|λx h=>ab _ _ _ _<|eU cB a4 eo x h
def kT(ok:Bool) (m mt:Nat):Int:=if ok=false then 4 else if m=mt then 7 else 0
theorem J5(op a b c fb tb eb sb m ck ff mt num:Nat)(x y cg:B.V)(ok:Bool)(ao:Option Addr)(R:aa->Prop)(R1:aa->Prop)(w:aa)(hb:∀w1,w.grownBy w1 none->Calls prog 86 #[ee op a b c fb tb eb] w1 fun e w'=>e=.returned (vA x)/\w1.grownBy w' none)(hf:∀w1,w.grownBy w1 none->Calls prog 162 #[P0 sb,vA x] w1 fun e w'=>e=.returned (.tuple #[ah ff,vA cg,.bool ok])/\w1.grownBy w' none)(hc:∀w1,w.grownBy w1 none->Calls prog 94 #[ee op a b c fb tb eb] w1 fun e w'=>e=.returned (vA y)/\w1.grownBy w' none)(he:ok=true->m≠mt->∀w1,w.grownBy w1 none->w.heap.size<w1.heap.size->Calls prog 60 #[P0 eb,ah ff,vA y,vA cg] w1 fun e w'=>e=.returned (ah num)/\R1 w'/\∀k,w.heap.size<=k->k<w1.heap.size->w'.heap[k]?=w1.heap[k]?)(hst:∀w1 w2,R1 w1->w1.grownBy w2 none->Calls prog 149 #[ee op a b c fb tb eb,vA (0,(num:Int))] w2 fun e w'=>e=.returned (.tuple #[])/\R w'/\w'.heap[w.heap.size]?=w2.heap[w.heap.size]?)(h0:∀w1,w.grownBy w1 none->(ok=false∨m=mt)->R w1)(c27:w.cell? (az eb 27)=some (P0 sb))(c29:w.cell? (az eb 29)=some (.slice ao m ck))(c3:w.cell? (az eb 3)=some (ah mt)):Calls prog 108 #[ee op a b c fb tb eb] w fun e w'=>e=.returned (ah<|kT ok m mt)/\R w':=by
 have HB:=bj hb
 have HF:=bj hf
 have HC:=bj hc
 have HE:=bj he
 have H0:=bj h0
 have le:=gT c27
 have HST:=bj hst
 clear hb hf hc he h0 hst
 go_in
 go_wp2_with fail
 have HX1:=bj<|iU w op a b c fb tb eb
 have KG1:=bj<|aj w (.cells #[dz op,dz a,dz b,dz c,P0 fb,P0 tb,P0 eb] 186) none
 generalize hW:w.alloc (.cells #[dz op,dz a,dz b,dz c,P0 fb,P0 tb,P0 eb] 186)=w1 at*
 have HZ1:Hid (w1.heap.size=w.heap.size+1):=by show _=_;rw[<-hW];simp
 clear hW
 have HK:Hid (∀w',w.grownBy w' none->w'.heap[w.heap.size]?=some (jF op a b c fb tb eb)->(dW w' w.heap.size 0)=some (dz op)/\(dW w' w.heap.size 1)=some (dz a)/\(dW w' w.heap.size 2)=some (dz b)/\(dW w' w.heap.size 3)=some (dz c)/\(dW w' w.heap.size 4)=some (P0 fb)/\(dW w' w.heap.size 5)=some (P0 tb)/\(dW w' w.heap.size 6)=some (P0 eb)/\(dW w' eb 27)=some (P0 sb)):=fun w' hg hx=>by
  let⟨x0,x1,x2,x3,x4,x5,x6⟩:=fe hx
  exact⟨x0,x1,x2,x3,x4,x5,x6,(ay hg (a:=az eb 27) le).1.trans c27⟩
 have HKS:Hid (∀(w':aa) (B:Nat) (u v:Value),w.grownBy w' none->w'.heap[w.heap.size]?=some (jF op a b c fb tb eb)->w.heap.size<B->w.grownBy ((w'.setCell (az B 0) u).setCell (az B 1) v) none/\((w'.setCell (az B 0) u).setCell (az B 1) v).heap[w.heap.size]?=some (jF op a b c fb tb eb)):=fun w' B u v hg hx hB=>
  ⟨bu (bu hg (ak<|jr hB) _) (ak<|jr hB) _,((ab _ _ _ _<|oX hB).trans<|ab _ _ _ _<|oX hB).trans hx⟩
 have HKT:Hid (∀(w':aa) (B:Nat) (u v:Value) (hg:w.grownBy w' none) (hx:w'.heap[w.heap.size]?=some (jF op a b c fb tb eb)) (hB:w.heap.size<B),_):=fun w' B u v hg hx hB=>HK _ (HKS w' B u v hg hx hB).1 (HKS w' B u v hg hx hB).2
 have HZ:Hid (∀(w':aa) (o:Obj) (k:Nat) (o':Obj),w'.heap[k]?=some o'->(w'.alloc o).heap[k]?=some o'):=fun w' o k o' hk=>by
  rw[au _ _ _<|ch hk];exact hk
 go_region_held3 (fun w'=>dW w' w.heap.size 0=some (dz op)/\(dW w' w.heap.size 1)=some (dz a)/\(dW w' w.heap.size 2)=some (dz b)/\(dW w' w.heap.size 3)=some (dz c)/\(dW w' w.heap.size 4)=some (P0 fb)/\(dW w' w.heap.size 5)=some (P0 tb)/\(dW w' w.heap.size 6)=some (P0 eb)/\(dW w' eb 27)=some (P0 sb)) (first|exact HK _ (bo KG1) HX1|exact HK _ (ax (bo KG1) _) (HZ _ _ _ _ HX1)|exact HK _ KG2 HX2|exact HK _ (ax KG2 _) (HZ _ _ _ _ HX2)|exact HK _ KG3 HX3|exact HK _ (ax KG3 _) (HZ _ _ _ _ HX3)|exact HKT w3 _ _ _ KG3 HX3 HLB|exact HKT _ _ _ _ (ax KG3 _) (HZ _ _ _ _ HX3)<|ch HX3) (first|(go_at_call 86;refine dq (HB w1.drew<|bo KG1) λw2 hg2=>?_;have KG2:Hid (w.grownBy w2 none):=ar (bo KG1) hg2;have HX2:=bj<|dw hg2 (show w1.drew.heap[w.heap.size]?=_ from HX1);have HBX:Hid True:=trivial;clear hg2)|(go_at_call 86;refine dq (HB (w1.drew.alloc<|.cells #[ah 0,ah 0] 149)<|ax (bo KG1) _) λw2 hg2=>?_;have KG2:Hid (w.grownBy w2 none):=ar (ax (bo KG1) _) hg2;have HX2:=bj<|dw hg2<|HZ w1.drew _ _ _ HX1;have HBX:Hid (w2.heap[w1.heap.size]?=some (.cells #[ah 0,ah 0] 149 (0,0))):=dw hg2<|bl w1.drew _;clear hg2)|(go_at_call 162;refine dq (HF w2 KG2) λw3 hg3=>?_;have KG3:Hid (w.grownBy w3 none):=ar KG2 hg3;have HX3:=bj<|dw hg3 HX2;have hbx:=dw hg3 HBX;have HLB:Hid (w.heap.size<w1.heap.size):=(by show _<_;rw[HZ1.out];omega);have r0:dW w3 w1.heap.size 0=some (ah 0):=(by simp[World.cell?,hbx]);have r1:dW w3 w1.heap.size 1=some (ah 0):=(by simp[World.cell?,hbx]);have r2:w3.frozen? (az w1.heap.size 0)=false:=(by simp[World.frozen?,hbx]);have r3:w3.frozen? (az w1.heap.size 1)=false:=(by simp[World.frozen?,hbx]);have lB:=ch hbx;clear hbx;clear hg3)|(go_at_call 162;refine dq (HF w2 KG2) λw3 hg3=>?_;have KG3:Hid (w.grownBy w3 none):=ar KG2 hg3;have HX3:=bj<|dw hg3 HX2;clear hg3)|(go_at_call 162;refine dq (HF (w2.alloc<|.cells #[ah 0,ah 0] 149)<|ax KG2 _) λw3 hg3=>?_;have KG3:Hid (w.grownBy w3 none):=ar (ax KG2 _) hg3;have HX3:=bj<|dw hg3<|HZ w2 _ _ _ HX2;have hbx:w3.heap[w2.heap.size]?=some (.cells #[ah 0,ah 0] 149 (0,0)):=dw hg3<|bl w2 _;have HLB:Hid (w.heap.size<w2.heap.size):=ch HX2;have r0:dW w3 w2.heap.size 0=some (ah 0):=(by simp[World.cell?,hbx]);have r1:dW w3 w2.heap.size 1=some (ah 0):=(by simp[World.cell?,hbx]);have r2:w3.frozen? (az w2.heap.size 0)=false:=(by simp[World.frozen?,hbx]);have r3:w3.frozen? (az w2.heap.size 1)=false:=(by simp[World.frozen?,hbx]);have lB:=ch hbx;clear hbx;clear hg3))
 all_goals
  first
  |rename_i hh
   clear hh
   have KG4:Hid (w.grownBy (((w3.setCell (az w2.heap.size 0)<|ah cg.1).setCell (az w2.heap.size 1)<|ah cg.2)) none):=(HKS w3 _ _ _ KG3 HX3 HLB).1
   have HX4:Hid ((((w3.setCell (az w2.heap.size 0)<|ah cg.1).setCell (az w2.heap.size 1)<|ah cg.2)).heap[w.heap.size]?=some (jF op a b c fb tb eb)):=(HKS w3 _ _ _ KG3 HX3 HLB).2
   have u0:dW (((w3.setCell (az w2.heap.size 0)<|ah cg.1).setCell (az w2.heap.size 1)<|ah cg.2)) w2.heap.size 0=some (ah cg.1):=by simp[go_sem,r0,r1,r2,r3,lB]
   have u1:dW (((w3.setCell (az w2.heap.size 0)<|ah cg.1).setCell (az w2.heap.size 1)<|ah cg.2)) w2.heap.size 1=some (ah cg.2):=by simp[go_sem,r0,r1,r2,r3,lB]
   clear r0 r1 r2 r3 lB
   have lB:=gT u0
   have HBW:Hid (w.heap.size<=w2.heap.size):=jr HLB
   generalize ((w3.setCell (az w2.heap.size 0)<|ah cg.1).setCell (az w2.heap.size 1)<|ah cg.2)=w4 at*
   generalize w2.heap.size=B at*
  |rename_i hh
   clear hh
   have KG4:Hid (w.grownBy (((w3.setCell (az w1.heap.size 0)<|ah cg.1).setCell (az w1.heap.size 1)<|ah cg.2)) none):=(HKS w3 _ _ _ KG3 HX3 HLB).1
   have HX4:Hid ((((w3.setCell (az w1.heap.size 0)<|ah cg.1).setCell (az w1.heap.size 1)<|ah cg.2)).heap[w.heap.size]?=some (jF op a b c fb tb eb)):=(HKS w3 _ _ _ KG3 HX3 HLB).2
   have u0:dW (((w3.setCell (az w1.heap.size 0)<|ah cg.1).setCell (az w1.heap.size 1)<|ah cg.2)) w1.heap.size 0=some (ah cg.1):=by simp[go_sem,r0,r1,r2,r3,lB]
   have u1:dW (((w3.setCell (az w1.heap.size 0)<|ah cg.1).setCell (az w1.heap.size 1)<|ah cg.2)) w1.heap.size 1=some (ah cg.2):=by simp[go_sem,r0,r1,r2,r3,lB]
   clear r0 r1 r2 r3 lB
   have lB:=gT u0
   have HBW:Hid (w.heap.size<=w1.heap.size):=jr HLB
   generalize ((w3.setCell (az w1.heap.size 0)<|ah cg.1).setCell (az w1.heap.size 1)<|ah cg.2)=w4 at*
   generalize w1.heap.size=B at*
  |rename_i hh
   clear hh
   have KG4:Hid (w.grownBy ((w3.alloc<|.cells #[ah cg.1,ah cg.2] 149)) none):=ax KG3 _
   have HX4:Hid (((w3.alloc<|.cells #[ah cg.1,ah cg.2] 149)).heap[w.heap.size]?=some (jF op a b c fb tb eb)):=HZ _ _ _ _ HX3
   have u0:dW ((w3.alloc<|.cells #[ah cg.1,ah cg.2] 149)) w3.heap.size 0=some (ah cg.1):=by simp[go_sem]
   have u1:dW ((w3.alloc<|.cells #[ah cg.1,ah cg.2] 149)) w3.heap.size 1=some (ah cg.2):=by simp[go_sem]
   have lB:=gT u0
   have HBW:Hid (w.heap.size<=w3.heap.size):=KG3.size
   generalize (w3.alloc<|.cells #[ah cg.1,ah cg.2] 149)=w4 at*
   generalize w3.heap.size=B at*
 all_goals
  let⟨x0,x1,x2,x3,x4,x5,x6⟩:=fe HX4
  have lx:=ch HX4
  have d29:=(ay KG4 (a:=az eb 29) le).1.trans c29
  have d3:=(ay KG4 (a:=az eb 3) le).1.trans c3
  have le4:eb<w4.heap.size:=dm le KG4.size
  cases ok with
  |false=>
   go_wp2
   go_ret
   exact⟨rfl,H0 _ KG4<|ag<|by first|rfl|trivial⟩
  |true=>
   by_cases hm:m=mt
   .have hmi:(m:Int)=mt:=af
    have HM:=bj hm
    clear hm
    go_wp2
    go_quiet (fail)
    go_wp2
    go_ret
    exact⟨by have h:=HM.out;simp[kT,h],H0 _ (df KG4 _)<|ak HM⟩
   .have hmi:¬((m:Int)=mt):=af
    have HM:=bj hm
    clear hm
    go_wp2
    go_quiet (fail)
    have KGQ:Hid (w.grownBy (w4.drewN nq) none):=df KG4 _
    have HXQ:Hid ((w4.drewN nq).heap[w.heap.size]?=some (jF op a b c fb tb eb)):=HX4
    have v0:dW (w4.drewN nq) B 0=some (ah cg.1):=u0
    have v1:dW (w4.drewN nq) B 1=some (ah cg.2):=u1
    have lBQ:B<(w4.drewN nq).heap.size:=lB
    clear u0 u1 lB x0 x1 x2 x3 x4 x5 x6 lx d29 d3 le4
    generalize w4.drewN nq=w9 at*
    let⟨x0,x1,x2,x3,x4,x5,x6⟩:=fe HXQ
    have lx:=ch HXQ
    go_wp2_with fail
    have HS:Hid (∀w',w9.grownBy w' none->(dW w' w.heap.size 0)=some (dz op)/\(dW w' w.heap.size 1)=some (dz a)/\(dW w' w.heap.size 2)=some (dz b)/\(dW w' w.heap.size 3)=some (dz c)/\(dW w' w.heap.size 4)=some (P0 fb)/\(dW w' w.heap.size 5)=some (P0 tb)/\(dW w' w.heap.size 6)=some (P0 eb)/\(dW w' B 0)=some (ah cg.1)/\(dW w' B 1)=some (ah cg.2)):=fun w' hg=>by
     let⟨x0,x1,x2,x3,x4,x5,x6⟩:=fe<|dw hg HXQ
     exact⟨x0,x1,x2,x3,x4,x5,x6,(ay hg (a:=az B 0) lBQ).1.trans v0,(ay hg (a:=az B 1) lBQ).1.trans v1⟩
    have HS6F:Hid (∀w5 w':aa,w9.grownBy w5 none->(∀k,w.heap.size<=k->k<w5.heap.size->w'.heap[k]?=w5.heap[k]?)->(dW w' w.heap.size 0)=some (dz op)/\(dW w' w.heap.size 1)=some (dz a)/\(dW w' w.heap.size 2)=some (dz b)/\(dW w' w.heap.size 3)=some (dz c)/\(dW w' w.heap.size 4)=some (P0 fb)/\(dW w' w.heap.size 5)=some (P0 tb)/\(dW w' w.heap.size 6)=some (P0 eb)/\(dW w' B 0)=some (ah cg.1)/\(dW w' B 1)=some (ah cg.2)):=fun w5 w' hg hk=>by
     let⟨y0,y1,y2,y3,y4,y5,y6,y7,y8⟩:=HS w5 hg
     have hz:=hg.size
     have e1:=hk w.heap.size (bm _) af
     have e2:=hk B HBW af
     exact⟨(bd (a:=az w.heap.size 0) e1).trans y0,(bd (a:=az w.heap.size 1) e1).trans y1,(bd (a:=az w.heap.size 2) e1).trans y2,(bd (a:=az w.heap.size 3) e1).trans y3,(bd (a:=az w.heap.size 4) e1).trans y4,(bd (a:=az w.heap.size 5) e1).trans y5,(bd (a:=az w.heap.size 6) e1).trans y6,(bd (a:=az B 0) e2).trans y7,(bd (a:=az B 1) e2).trans y8⟩
    have HS0:=bj<|HS w9.drew<|bo<|aw _ _
    go_region_held3 (fun w'=>dW w' w.heap.size 0=some (dz op)/\(dW w' w.heap.size 1)=some (dz a)/\(dW w' w.heap.size 2)=some (dz b)/\(dW w' w.heap.size 3)=some (dz c)/\(dW w' w.heap.size 4)=some (P0 fb)/\(dW w' w.heap.size 5)=some (P0 tb)/\(dW w' w.heap.size 6)=some (P0 eb)/\(dW w' B 0)=some (ah cg.1)/\(dW w' B 1)=some (ah cg.2)) (first|exact HS0|exact HS5|exact HS6) (first|(go_at_call 94;refine dq (HC w9.drew<|bo KGQ) λw5 hg5=>?_;have KG5:Hid (w9.grownBy w5 none):=⟨hg5.os,hg5.tape,hg5.output,hg5.size,hg5.block⟩;have HS5:=bj<|HS w5 KG5;clear hg5)|(go_at_call 60;refine dq (HE (by first|rfl|trivial) HM w5 (ar KGQ KG5)<|dm (ch HXQ) KG5.size) ?_;rintro w6 ⟨hR6,hK6⟩;have HR6:=bj hR6;have HS6:=bj<|HS6F w5 w6 KG5 hK6;have HX6:Hid (w6.heap[w.heap.size]?=some (jF op a b c fb tb eb)):=(hK6 w.heap.size (bm _)<|dm (ch HXQ) KG5.size).trans<|dw KG5 HXQ;clear hR6 hK6))
    all_goals
     clear x0 x1 x2 x3 x4 x5 x6 v0 v1
     let⟨x0,x1,x2,x3,x4,x5,x6⟩:=fe HX6
     have lx6:=ch HX6
     go_wp2_with fail
     have HY7:Hid ((w6.drew.alloc<|.cells #[ah 0,ah num] 149).heap[w.heap.size]?=some (jF op a b c fb tb eb)):=HZ w6.drew _ _ _ HX6
     go_region_held3 (fun w'=>dW w' w.heap.size 0=some (dz op)/\(dW w' w.heap.size 1)=some (dz a)/\(dW w' w.heap.size 2)=some (dz b)/\(dW w' w.heap.size 3)=some (dz c)/\(dW w' w.heap.size 4)=some (P0 fb)/\(dW w' w.heap.size 5)=some (P0 tb)/\(dW w' w.heap.size 6)=some (P0 eb)) (first|exact fe (show w6.drew.heap[w.heap.size]?=_ from HX6)|exact fe HY7|exact fe HY8) (first|(go_at_call 61;refine dq (fK _ _) ?_;rintro w7 rfl)|(go_at_call 149;refine dq (HST w6 _ HR6<|ax (bo<|aw _ _) _) ?_;rintro w8 ⟨hR8,hK8⟩;have HR8:=bj hR8;have HY8:Hid (w8.heap[w.heap.size]?=some (jF op a b c fb tb eb)):=hK8.trans HY7;clear hR8 hK8))
     all_goals
      go_wp2
      go_ret
      exact⟨by have h:=HM.out;simp[kT,h],HR8⟩
def fst(p:Nat->Bool)(xs:List Nat):Int:=if xs.findIdx p<xs.length then(xs.findIdx p:Nat) else -1
theorem EE(g c n xb:Nat)(ad:Option Addr)(p:Nat->Bool)(xs:List Nat)(w:aa)(hn:n=xs.length)(a5:n<=1000000000)(a0:∀j x,xs[j]?=some x->ad=some (az g 0)/\w.cell? (az g j)=some (P0 x))(lg:xs≠[]->g<w.heap.size)(H:∀w1,w.grownBy w1 none->∀x,x∈xs->dC 204 #[P0 x,P0 xb] w1 (.bool<|p x) λw'=>w1.grownBy w' none):dC 205 #[.slice ad n c,Fv 204 #[P0 xb]] w (ah<|fst p xs) λw'=>w.grownBy w' none:=by
 have HC:=bj a0;have HH:=bj H;have HN:=bj hn;have HG:=bj lg;have a3:xs.findIdx p<=xs.length:=List.findIdx_le_length;have HL:=bj a3;clear a0 H hn a3 lg;delta dC;go_in;go_wp2_with fail
 go_loopw[8] (λi wr=>∃j:Nat,i=ah j/\j<=xs.findIdx p/\Hid (iY w wr)) (λi _=>xs.length-(intOf i).toNat)
 case atStart=>grind[aw]
 case round=>
  obtain⟨j,rfl,hj,rG⟩:=hrel;by_cases a6:j<n
  .obtain⟨x,hx⟩:∃x,xs[j]?=some x:=⟨_,bw<|gD HN.out⟩;obtain⟨rfl,a2⟩:=HC j x hx;have y:=eh hx;have cj:wr.cell? (az g j)=some (P0 x):=(ay rG (a:=az g j)<|HG ey).1.trans a2;have a1:=HH wr rG x y;let⟨Y,G⟩:=cf.1 hx;have J:=bj a1;clear a1 a2 y;by_cases Z:j=xs.findIdx p
   .have u:p x=true:=by
     subst Z;rw[<-G];exact List.findIdx_getElem (w:=Y)
    have HJ:=bj Z;rw[u]at J;clear Z u G Y;go_wp2_with fail
    refine dq J λw1 o=>?_;have W:=bj<|ar rG o;clear o;go_wp2_with fail
    go_ret;refine⟨?_,W⟩;have h1:=HJ.out;have h2:=HN.out;unfold fst;simp_all
   have u:p x=false:=by
    rw[<-G];have:=List.not_of_lt_findIdx (p:=p) (xs:=xs) (i:=j) af;simpa using this
   rw[u]at J;clear u G Y;go_wp2_with fail
   refine dq J λw1 o=>?_;have W:=bj<|ar rG o;clear o;go_wp2_with fail
   go_roundw
   case rel=>exact⟨j+1,iI,af,W⟩
   case measure=>simp[intOf];have:=HN.out;omega
  have a4:¬(j:Int)<(n:Int):=af
  go_wp2_with fail
  go_ret;refine⟨?_,rG⟩;have h2:=HN.out;unfold fst;rw[eK];rfl
theorem ED(g c n xb:Nat)(ad:Option Addr)(p:Nat->Bool)(xs:List Nat)(w:aa)(hn:n=xs.length)(a5:n<=1000000000)(a0:∀j x,xs[j]?=some x->ad=some (az g 0)/\w.cell? (az g j)=some (P0 x))(lg:xs≠[]->g<w.heap.size)(H:∀w1,w.grownBy w1 none->∀x,x∈xs->dC 206 #[P0 x,P0 xb] w1 (.bool<|p x) λw'=>w1.grownBy w' none):dC 205 #[.slice ad n c,Fv 206 #[P0 xb]] w (ah<|fst p xs) λw'=>w.grownBy w' none:=by
 have HC:=bj a0;have HH:=bj H;have HN:=bj hn;have HG:=bj lg;have a3:xs.findIdx p<=xs.length:=List.findIdx_le_length;have HL:=bj a3;clear a0 H hn a3 lg;delta dC;go_in;go_wp2_with fail
 go_loopw[8] (λi wr=>∃j:Nat,i=ah j/\j<=xs.findIdx p/\Hid (iY w wr)) (λi _=>xs.length-(intOf i).toNat)
 case atStart=>grind[aw]
 case round=>
  obtain⟨j,rfl,hj,rG⟩:=hrel;by_cases a6:j<n
  .obtain⟨x,hx⟩:∃x,xs[j]?=some x:=⟨_,bw<|gD HN.out⟩;obtain⟨rfl,a2⟩:=HC j x hx;have y:=eh hx;have cj:wr.cell? (az g j)=some (P0 x):=(ay rG (a:=az g j)<|HG ey).1.trans a2;have a1:=HH wr rG x y;let⟨Y,G⟩:=cf.1 hx;have J:=bj a1;clear a1 a2 y;by_cases Z:j=xs.findIdx p
   .have u:p x=true:=by
     subst Z;rw[<-G];exact List.findIdx_getElem (w:=Y)
    have HJ:=bj Z;rw[u]at J;clear Z u G Y;go_wp2_with fail
    refine dq J λw1 o=>?_;have W:=bj<|ar rG o;clear o;go_wp2_with fail
    go_ret;refine⟨?_,W⟩;have h1:=HJ.out;have h2:=HN.out;unfold fst;simp_all
   have u:p x=false:=by
    rw[<-G];have:=List.not_of_lt_findIdx (p:=p) (xs:=xs) (i:=j) af;simpa using this
   rw[u]at J;clear u G Y;go_wp2_with fail
   refine dq J λw1 o=>?_;have W:=bj<|ar rG o;clear o;go_wp2_with fail
   go_roundw
   case rel=>exact⟨j+1,iI,af,W⟩
   case measure=>simp[intOf];have:=HN.out;omega
  have a4:¬(j:Int)<(n:Int):=af
  go_wp2_with fail
  go_ret;refine⟨?_,rG⟩;have h2:=HN.out;unfold fst;rw[eK];rfl
theorem Jc(x i:Nat)(a b:Int)(w:aa)(h:w.cell? (az i 0)=some (ah b))(hx:w.cell? (az x 0)=some (ah a)):dC 206 #[P0 x,P0 i] w (.bool<|a == b) λw'=>w.grownBy w' none:=by
 delta dC;go_in;go_wp2
 go_quiet (fail)
 go_wp2
 go_ret;simp[df,aw]
theorem It(x i tb:Nat)(a b:Int)(w:aa)(h:w.cell? (az i 0)=some (P0 tb))(hx:w.cell? (az x 5)=some (ah a))(ht:w.cell? (az tb 5)=some (ah b)):dC 204 #[P0 x,P0 i] w (.bool (decide (b<a))) λw'=>w.grownBy w' none:=by
 delta dC;go_in;go_wp2
 go_quiet (fail)
 go_wp2
 go_ret;simp[df,aw]
def tu(xs:List Nat)(nm:Nat->Int)(z:Int):Value:=
 match xs.find? (λx=>nm x == z) with
 |some x=>.tuple #[P0 x,.bool true]
 |none=>.tuple #[.pointer none,.bool false]
theorem LH(eb g c n:Nat)(ad:Option Addr)(z:Int)(i:Nat->Int)(xs:List Nat)(w:aa)(he:w.cell? (az eb 29)=some (.slice ad n c))(le:eb<w.heap.size)(hn:n=xs.length)(a0:n<=1000000000)(G:∀j x,xs[j]?=some x->ad=some (az g 0)/\w.cell? (az g j)=some (P0 x))(lg:xs≠[]->g<w.heap.size)(H:∀x,x∈xs->w.cell? (az x 0)=some (ah<|i x)/\x<w.heap.size):dC 170 #[P0 eb,ah z] w (tu xs i z) λw'=>w.grownBy w' none:=by
 have HX:Hid (dC 205 #[.slice ad n c,Fv 206 #[P0<|fp w]] (gG w #[ah z] 2) (ah<|fst (λx=>i x == z) xs) λw'=>iY (gG w #[ah z] 2) w'):=by
  have hA:=aj w (.cells #[ah z] 2) none;refine ED g c n (fp w) ad (λx=>i x == z) xs _ hn a0 (λj x y=>⟨(G j x y).1,?_⟩) (λh=>by have:=lg h;simp;omega)<|λw1 hg x W=>?_
  .have o:=eh y;exact(ay hA (a:=az g j)<|lg ey).1.trans (G j x y).2
  refine Jc x (fp w) (i x) z w1 ?_ ?_
  .have:=da hg (bl w<|.cells #[ah z] 2) ey;simp[World.cell?,this]
  exact(ay (ar hA hg) (a:=az x 0) (H x W).2).1.trans (H x W).1
 change Hid _ at G hn lg;clear H;delta dC;go_in;go_wp2_with fail
 refine dq HX λw1 Y=>?_;have hG:=ar (aj w (.cells #[ah z] 2) none) Y;have a1:=(ay hG (a:=az eb 29) le).1.trans he;have KG:=bj hG;by_cases J:xs.findIdx (λx=>i x == z)<xs.length
 .obtain⟨x,y⟩:∃x,xs[xs.findIdx (λx=>i x == z)]?=some x:=⟨_,bw J⟩;obtain⟨rfl,Z⟩:=G _ x y;have o:=eh y;have u:fst (λx=>i x == z) xs=((xs.findIdx (λx=>i x == z):Nat):Int):=by unfold fst;rw[bf J]
  have hv:tu xs i z=.tuple #[P0 x,.bool true]:=by
   have:xs.find? (λx=>i x == z)=some x:=by
    rw[List.find?_eq_some_iff_getElem];let⟨h1,h2⟩:=cf.1 y;refine⟨ey,_,h1,h2,λj hj=>?_⟩;have:=List.not_of_lt_findIdx hj;simpa using this
   unfold tu;rw[this]
  have HV:=bj hv;rw[u];generalize xs.findIdx (λx=>i x == z)=ix at*;have cj:dW w1 g ix=some (P0 x):=(ay KG (a:=az g ix)<|lg ey).1.trans Z;have a2:(ix:Int)<n:=gD hn.out
  go_wp2
  go_ret2
  simp_all
 have u:fst (λx=>i x == z) xs=-1:=by unfold fst;rw[av J]
 have hv:tu xs i z=.tuple #[.pointer none,.bool false]:=by
  have:xs.find? (λx=>i x == z)=none:=by
   rw[List.find?_eq_none];intro x y hp;exact J<|List.findIdx_lt_length_of_exists ⟨x,y,hp⟩
  unfold tu;rw[this]
 have HV:=bj hv;rw[u];go_wp2
 go_ret2
 simp_all
theorem Iz(eb m c:Nat)(ad:Option Addr)(z:Int)(w:aa)(h:w.cell? ⟨eb,30,none⟩=some (.slice ad m c)):Calls prog 169 #[P0 eb,.int .i64 z] w λe w'=>e=.returned (.bool (decide (1<=z/\z<=(m:Int))))/\w.grownBy w' none:=by
 by_cases o:1<=z
 .by_cases u:z<=(m:Int)
  .have i:decide (1<=z/\z<=(m:Int))=true:=by simp[o,u]
   rw[i];go_in;go_wp2_with fail
   go_ret;simp[aw]
  have i:decide (1<=z/\z<=(m:Int))=false:=by simp[o,u]
  rw[i];go_in;go_wp2_with fail
  go_ret;simp[aw]
 have i:decide (1<=z/\z<=(m:Int))=false:=by simp[o]
 rw[i];go_in;go_wp2_with fail
 go_ret;simp[aw]
def pP(y:Option Nat):Value:=
 match y with
 |some y=>.tuple #[P0 y,.bool true]
 |none=>.tuple #[.pointer none,.bool false]
theorem I2(op a b c fb tb eb:Nat)(z:Int)(p:Bool)(y:Option Nat)(R:aa->Prop)(w:aa)(H1:∀w1,w.grownBy w1 none->dC 169 #[P0 eb,ah z] w1 (.bool p) λw'=>w1.grownBy w' none)(H2:∀w1,w.grownBy w1 none->dC 170 #[P0 eb,ah z] w1 (pP y) λw'=>w1.grownBy w' none)(H3:∀w1 x,w.grownBy w1 none->y=some x->eN 172 #[P0 eb,P0 x] w1 λw'=>R w')(H4:∀w1,w.grownBy w1 none->p=false\/y=none->R w1):dC 114 #[ee op a b c fb tb eb,ah z] w (ah (if p=true then 0 else 6)) λw'=>R w':=by
 have K1:=bj H1;have K2:=bj H2;have K3:=bj H3;have K4:=bj H4;delta dC;go_in;go_wp2_with fail
 have Y:=bj<|iU w op a b c fb tb eb;have J:=bj<|aj w (.cells #[dz op,dz a,dz b,dz c,P0 fb,P0 tb,P0 eb] 186) none;generalize hW:w.alloc (.cells #[dz op,dz a,dz b,dz c,P0 fb,P0 tb,P0 eb] 186)=w1 at*;refine dq (K1 w1 J) λw2 u=>?_;have G:=bj<|ar J u;have i:=da u Y ey;let⟨x0,x1,x2,x3,x4,x5,x6⟩:=fe i;have Z:=bj i
 cases p with
 |false=>
  go_wp2
  go_ret;exact⟨rfl,K4 _ G eG⟩
 |true=>
  go_wp2_with fail
  refine dq (K2 w2 G) λw3 o=>?_;have W:=bj<|ar G o;have H:=da o Z ey;let⟨y0,y1,y2,y3,y4,y5,y6⟩:=fe H
  cases y with
  |none=>
   simp only[pP];go_wp2
   go_ret;exact⟨rfl,K4 _ W eG⟩
  |some x=>
   simp only[pP];go_wp2_with fail
   refine dq (K3 w3 x W rfl) λw4 hR=>?_;have HR:=bj hR;go_wp2
   go_ret;exact⟨rfl,HR⟩
def NO(p:Bool)(z:Int)(t:Nat):Prop:=p=true/\¬z=(t:Int)
def JG(p:Bool)(z t:Int):Int:=if p=true/\z≠t then 0 else 6
def LF(z t:Int):JG false z t=6:=by simp[JG,av]
theorem I9(p:Bool){z t:Int}(h:z=t):JG p z t=6:=by simp_all[JG,av]
theorem Cf{z t:Int}(h:¬z=t):JG true z t=0:=by simp_all[JG,bf]
theorem LD(op a b c fb tb eb t m co ob j:Nat)(z:Int)(p:Bool)(y:Option Nat)(v:B.V)(R:aa->Prop)(w:aa)(H1:∀w1,w.grownBy w1 none->dC 169 #[P0 eb,ah z] w1 (.bool p) λw'=>w1.grownBy w' none)(H2:∀w1,w.grownBy w1 none->dC 170 #[P0 eb,ah z] w1 (pP y) λw'=>w1.grownBy w' none)(H3:∀w1 x,w.grownBy w1 none->y=some x->NO p z t->eN 171 #[ee op a b c fb tb eb,Pt x 6] w1 λw'=>R w')(H5:∀w1,w.grownBy w1 none->y=none->NO p z t->eN 149 #[ee op a b c fb tb eb,vA v] w1 λw'=>R w')(H4:∀w1,w.grownBy w1 none->p=false\/z=(t:Int)->R w1)(ht:w.cell? (az tb 0)=some (ah t))(lt:tb<w.heap.size)(le:eb<w.heap.size)(hy:∀x,y=some x->x<w.heap.size)(hz:p=true->z=(j:Int)+1/\j<m)(hm:m<=1000000000)(he:w.cell? (az eb 30)=some (dD ob m co))(lo:ob<w.heap.size)(hv:p=true->w.cell? (az ob<|j*2)=some (ah v.1)/\w.cell? (az ob<|j*2+1)=some (ah v.2)):dC 113 #[ee op a b c fb tb eb,ah z] w (ah<|JG p z (t:Int)) λw'=>R w':=by
 change Hid _ at H1 H2 H3 H4 H5 hy hz;have KC:=bj<|bh ht<|bh he hv;clear ht he hv;obtain⟨v1,v2⟩:=v;delta dC;go_in;go_wp2_with fail
 have a1:=bj<|iU w op a b c fb tb eb;have a0:=bj<|aj w (.cells #[dz op,dz a,dz b,dz c,P0 fb,P0 tb,P0 eb] 186) none;generalize hW:w.alloc (.cells #[dz op,dz a,dz b,dz c,P0 fb,P0 tb,P0 eb] 186)=w1 at*;clear hW;refine dq (H1 w1 a0) λw2 Y=>?_;have u:=bj<|ar a0 Y;have H:=da Y a1 je;let⟨x0,x1,x2,x3,x4,x5,x6⟩:=fe H;have a2:=bj H;have t2:=(ay u (a:=az tb 0) lt).1.trans KC.1;clear Y H
 cases p with
 |false=>
  go_wp2
  go_ret;exact⟨kh LF,H4 _ u eG⟩
 |true=>
  by_cases G:z=(t:Int)
  .have hb:(z == (t:Int))=true:=iE G
   change Hid _ at G;go_wp2
   go_ret;exact⟨by rw[I9 _ G];rfl,H4 _ u<|by first|exact ak G|simp[G.out]⟩
  have hb:(z == (t:Int))=false:=iE G
  have G:=bj G;clear G;go_wp2_with fail
  refine dq (H2 w2 u) λZ J=>?_;have o:=bj<|ar u J;have W:=da J a2 je;let⟨y0,y1,y2,y3,y4,y5,y6⟩:=fe W;clear J W x0 x1 x2 x3 x4 x5 x6 hb t2
  cases y with
  |some x=>
   simp only[pP];go_wp2
   go_region_with (go_at_call 171;refine dq (H3 Z.drew x (bo o) rfl ⟨rfl,G⟩) λw4 hR=>?_;have HR:=bj hR;clear hR)
   all_goals
    go_wp2
    go_ret;exact⟨by rw[Cf G];rfl,HR⟩
  |none=>
   simp only[pP];obtain⟨rfl,a6⟩:=hz eG;let⟨o1,o2⟩:=KC.2.2 eG;have e3:=(ay o (a:=az eb 30) le).1.trans KC.2.1;have p1:=(ay o (a:=az ob<|j*2) lo).1.trans o1;have p2:=(ay o (a:=az ob<|j*2+1) lo).1.trans o2;have a8:(j:Int)<m:=af
   have a5:(0:Int)<=j:=af
   have a7:IntKind.i64.wrap (j:Int)=j:=jf _ ⟨af,af⟩;clear o1 o2;go_wp2
   go_region_with (go_at_call 149;refine dq (H5 Z.drew (bo o) eG ⟨rfl,G⟩) λw4 hR=>?_;have HR:=bj hR;clear hR)
   all_goals
    go_wp2
    go_ret;exact⟨by rw[Cf G];rfl,HR⟩
