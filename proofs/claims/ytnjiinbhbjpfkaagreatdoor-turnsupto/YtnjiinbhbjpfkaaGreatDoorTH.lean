import Derived.Test.YtnjiinbhbjpfkaaGreatDoorTD
import Derived.Test.YtnjiinbhbjpfkaaGreatDoorTB
import Derived.Deep.LoopGhost
set_option maxRecDepth 100000
set_option maxHeartbeats 0
set_option linter.all false
namespace Go.Proofs.YtnjiinbhbjpfkaaGreatDoor
open Go.RowKit Go.Proofs.Tryz
section
def Lb(n:Int):Obj:=.cells #[.int .i64 n,.slice none 0 0,.bool false,.pointer none,.nilFunc,.int .i64 0,.slice none 0 0] 160 (0,0)
structure Kr(w w6:aa) (eb tb xe xt no nl:Nat) (vo vl:Value) (ov:List B.V) (lv:List Value) (E:Nat->Value) (a30 a29:Option Addr) (c30 c29:Nat):Prop where
 e:Full w6 eb 144 44 44 (eC (eC E 30 (.slice a30 (no+1) c30)) 29 (.slice a29 (nl+1) c29))
 o:w6.ownsRow 0 149 2 (.slice a30 (no+1) c30) (no+1) (gT ov++[.int .i64 0,.int .i64 0])
 o2:lR w.heap.size vo (.slice a30 (no+1) c30)
 l:w6.ownsRow 0 155 1 (.slice a29 (nl+1) c29) (nl+1) (lv++[P0 tb])
 l2:lR w.heap.size vl (.slice a29 (nl+1) c29)
 l3:∀k,(Value.slice a29 (nl+1) c29).ownBlock=some k->k≠xt
 t:w6.heap[tb]? = some (Lb ((no:Int)+1))
 x:w6.heap[xt]? = some (.cells #[P0 tb] 155 (0,0))
 y:w6.heap[xe]? = some (.cells #[P0 eb] 95 (0,0))
 n:w.heap.size<=tb/\w.heap.size<=xe/\w.heap.size<=xt
 s:dM (λk=>k=eb\/vo.ownBlock=some k\/vl.ownBlock=some k) w w6
def re{a b:Nat}{v e:Value}(h:lR b v e)(i:a<=b):lR a v e:=h.imp id (λ⟨g,o,u⟩=>⟨g,o,ag⟩)
def Ka(eb f no i co cl num:Nat)(ao al:Option Addr)(u v:B.V)(ov:List B.V)(lv:List Value)(E:Nat->Value)(S:Nat->Nat->aa->Prop)(R:aa->Prop)(w:aa)(hE:Full w eb 144 44 44 E)(c4:E 30=.slice ao no co)(bN:E 29=.slice al i cl)(ho:w.ownsRow 0 149 2 (.slice ao no co) no (gT ov))(hl:w.ownsRow 0 155 1 (.slice al i cl) i lv)(dG:no<=900000000)(d5:i<=900000000)(HE:∀Z tb xe xt cY cT aP aG,Kr w Z eb tb xe xt no i (.slice ao no co) (.slice al i cl) ov lv E cY cT aP aG->eL 119 #[P0 eb,P0 tb,aj f,vA u,vA v,Fv 120 #[P0 xe,P0 xt]] Z λw7=>S tb xt w7/\w7.heap[xt]? = some (.cells #[P0 tb] 155 (0,0))/\w7.heap[xe]? = some (.cells #[P0 eb] 95 (0,0))/\eb<w7.heap.size)(HJ:∀tb xt w7 w8,S tb xt w7->w7.grownBy w8 none->eL 110 #[Pt eb 32,P0 tb] w8 λw9=>R w9/\w9.cell? (ay tb 0)=some (aj num)/\w9.heap[xt]? = some (.cells #[P0 tb] 155 (0,0))): dD 60 #[P0 eb,aj f,vA u,vA v] w (aj num) λw'=>R w':=by
 have le:=hE.lt;have KE:=bj hE;have HF:=bj (bh c4 bN);have HO:=bj ho;have HL:=bj hl;have cV:=bj HE;have cO:=bj HJ;have bS:∀k,(Value.slice ao no co).ownBlock=some k->k≠eb/\k<w.heap.size:=λk W=>⟨eU ho hE ek k W,(dP ho k W).2.1⟩;have c8:∀k,(Value.slice al i cl).ownBlock=some k->k≠eb/\k<w.heap.size:=λk W=>⟨eU hl hE ek k W,(dP hl k W).2.1⟩;have aA:=bj bS;have b8:=bj c8;have cD:Hid (∀k,(Value.slice ao no co).ownBlock=some k->(Value.slice al i cl).ownBlock≠some k):=λk W cX=>by
  obtain⟨_,_,c1,e1⟩:=dP ho k W;obtain⟨_,_,c2,e2⟩:=dP hl k cX;rw[e1]at e2;injection e2 with e2;injection e2 with _ e2 _;exact dp e2 ek
 clear hE c4 bN ho hl HE HJ bS c8;obtain⟨i0,hi,bM,bD,bW⟩:=info_parts Tryz.tL;delta dD;go_in;go_wp2_with fail
 generalize hW:((w.alloc (.cells #[P0 eb] 95)).alloc (.cells #[aj (u.1:Int),aj u.2] 149)).alloc (.cells #[aj (v.1:Int),aj v.2] 149)=w1;have aU:w1.heap.size=w.heap.size+1+1+1:=by rw[<-hW];simp
 have a8:Hid (w.grownBy w1 none):=by rw[<-hW];repeat (first|exact aw _ _|refine ax ?_ _)
 have x0:w1.heap[w.heap.size]? = some (.cells #[P0 eb] 95 (0,0)):=by rw[<-hW,av _ _ _ fH,av _ _ _ eB];exact bl _ _
 have x1:w1.heap[w.heap.size+1]? = some (.cells #[aj (u.1:Int),aj u.2] 149 (0,0)):=by
  rw[<-hW,av _ _ _ eB];have:=bl (w.alloc (.cells #[P0 eb] 95)) (.cells #[aj (u.1:Int),aj u.2] 149);simpa using this
 have x2:w1.heap[w.heap.size+1+1]? = some (.cells #[aj (v.1:Int),aj v.2] 149 (0,0)):=by
  rw[<-hW];have:=bl ((w.alloc (.cells #[P0 eb] 95)).alloc (.cells #[aj (u.1:Int),aj u.2] 149)) (.cells #[aj (v.1:Int),aj v.2] 149);simpa using this
 clear hW;have HX:=bj (bh x0 (bh x1 x2));have b0:w1.cell? (ay w.heap.size 0)=some (P0 eb):=fy x0
 have aF:=bj (KE.out.block (a8.out.block eb le im));have bP:=bj (dQ HO.out (λk h=>a8.out.block k (aA.out k h).2 im));obtain⟨aG,cH⟩:=aF.out.cells 30 ag;rw[HF.out.1]at aG;have aL:=aF.out.lt;have b5:w.heap.size<w1.heap.size:=ag
 have bR:=bj aU;clear aU x0 x1 x2;go_cut [] from 10 to 19 (λwx=>∃(ob:Option Addr) (H:Nat) (w2:aa),wx=w2.setCell (ay eb 30) (.slice ob (no+1) H)/\Hid (w2.ownsRow 0 149 2 (.slice ob (no+1) H) (no+1) (gT ov++[aj 0,aj 0]))/\Hid (w1.grownBy w2 (Value.slice ao no co).ownBlock)/\Hid (lR w1.heap.size (.slice ao no co) (.slice ob (no+1) H)))
 case first=>
  go_region_law (first|(refine fD _ rfl (.tmp 14) (.tmp 16) 137 rfl 149 i0 _ 2 16 underlying137 hi bM bD bW rfl ek ao no co (gT ov) mB (dQ bP.out (λk h=>(av _ _ _ (by have h1:=(aA.out k h).2;omega)).trans (G.out.block k (by have h1:=(aA.out k h).2;omega) im))) (ay Y.heap.size 0) 1 1 [aj 0,aj 0] mB rfl (by intro j u hj;match j,hj with|0,hj=>(simp at hj;subst hj;simp[Addr.add,go_sem])|1,hj=>(simp at hj;subst hj;simp[Addr.add,go_sem])) xI pY ag ek ?_;intro v' Z ho hg aE;obtain⟨ob,H,rfl⟩:=ee ho ag;have b7:=bj ho;have aW:Hid (lR w1.heap.size (.slice ao no co) (dA ob (no+1) H)):=re aE (by have h1:=G.out.size;simp;omega);have a4:Hid (w1.grownBy Z (Value.slice ao no co).ownBlock):=⟨hg.os.trans G.out.os,hg.tape.trans G.out.tape,hg.output.trans G.out.output,by(have h1:=hg.size;have h2:=G.out.size;simp at h1;omega),λx hx hn=>(hg.block x (by(have:=G.out.size;simp;omega)) hn).trans ((av _ _ _ (gp G.out.size)).trans (G.out.block x hx im))⟩;have aH:=bj (aF.out.block (a4.out.block eb aL (λe=>(aA.out eb e.symm).1 rfl)));obtain⟨cP,d7⟩:=aH.out.cells 30 ag;have bY:=(az (a:=ay w.heap.size 0) (a4.out.block w.heap.size b5 (λe=>by have:=(aA.out _ e.symm).2;omega))).trans b0;clear ho hg aE)|(go_simp;go_at_call 61;refine du (fG 0 w1.drew) λY a6=>?_;have G:Hid (w1.grownBy Y none):=(by subst a6;exact ax (bo (aw _ _)) _);obtain⟨bZ,_⟩:=bd G.out (a:=ay eb 30) aL;rw[aG]at bZ;obtain⟨bY,_⟩:=bd G.out (a:=ay w.heap.size 0) b5;rw[b0]at bY;have bU:eb<Y.heap.size:=(by have:=G.out.size;omega);have bX:w.heap.size<Y.heap.size:=(by have:=G.out.size;omega);clear a6;simp only[]))
  all_goals
   go_wp2_with fail
   go_meet
   case rel=>exact⟨_,H,Z,rfl,b7,a4,aW⟩
 case rest=>
  obtain⟨ob,H,w2,rfl,b3,a7,bG⟩:=hcut;have aN:=bj (aF.out.block (a7.out.block eb aL (λe=>(aA.out eb e.symm).1 rfl)));have bH:=a7.out.size;have bO:=a8.out.size;have a1:∀k,k<w1.heap.size->(Value.slice ao no co).ownBlock≠some k->w2.heap[k]? = w1.heap[k]?:=λk W hn=>a7.out.block k W (λe=>hn e.symm);have c3:Hid (dM (λk=>k=eb\/(Value.slice ao no co).ownBlock=some k\/(Value.slice al i cl).ownBlock=some k) w w2):=(ep a8.out).trans (S1:=λk=>(Value.slice ao no co).ownBlock=some k) ⟨a7.out.os,a7.out.tape,a7.out.output,a7.out.size,λk W hn=>a1 k W hn⟩ (λk h _=>ah (af h));have aY:Hid (w2.ownsRow 0 155 1 (.slice al i cl) i lv):=dQ HL.out (λk h=>(a1 k (by have:=(b8.out k h).2;omega) (λe=>cD.out k e h)).trans (a8.out.block k (b8.out k h).2 im));have aR:∀k,w.heap.size<=k->(Value.slice ao no co).ownBlock≠some k:=λk W e=>by have:=(aA.out k e).2;omega
  generalize a6:w2.setCell (ay eb 30) (.slice ob (no+1) H)=Y at *;have cF:Y.heap.size=w2.heap.size:=by rw[<-a6];simp[World.setCell]
  have aB:∀k,k≠eb->Y.heap[k]? = w2.heap[k]?:=λk W=>by rw[<-a6];exact ab _ _ _ _ W
  have aO:Hid (Full Y eb 144 44 44 (eC E 30 (.slice ob (no+1) H))):=by show Full _ _ _ _ _ _;rw[<-a6];exact aN.out.eC 30 _
  have bJ:Hid (dM (λk=>k=eb\/(Value.slice ao no co).ownBlock=some k\/(Value.slice al i cl).ownBlock=some k) w Y):=by show dM _ _ _;rw[<-a6];exact bp c3.out (af (af rfl)) _
  have b2:=bj (dQ b3.out (λk h=>aB k (eU b3.out aN.out ek k h)));have b4:=bj (dQ aY.out (λk h=>aB k (eU aY.out aN.out ek k h)));have bQ:=bj (re bG.out bO);have cN:=bR.out;have y0:=((aB w.heap.size ag).trans (a1 w.heap.size ag (aR _ (bq _)))).trans HX.out.1;have y1:=((aB (w.heap.size+1) ag).trans (a1 (w.heap.size+1) ag (aR _ ag))).trans HX.out.2.1;have y2:=((aB (w.heap.size+1+1) ag).trans (a1 (w.heap.size+1+1) ag (aR _ ag))).trans HX.out.2.2;have HY:=bj (bh y0 (bh y1 y2));have b0:Y.cell? (ay w.heap.size 0)=some (P0 eb):=fy y0
  have bX:=ch y0;have bU:=aO.out.lt;have aP:=aO.out.cell 30 ag;rw[gO]at aP;have aT:w.heap.size+1+1+1<=Y.heap.size:=ag
  clear a6 aB y0 y1 y2 aG cH cF bH aF aN a7 b3 HX b5 aL a8 bR a1 aY aR bG cN c3 bP bO;go_wp2_with fail
  generalize aI:(Y.alloc (.cells #[aj ((no:Int)+1),.slice none 0 0,.bool false,.pointer none,.nilFunc,aj 0,.slice none 0 0] 160)).alloc (.cells #[.pointer (some (ay Y.heap.size 0))] 155)=w4;have J:Hid (Y.grownBy w4 none):=by rw[<-aI];exact ax (ak _ _ _) _
  have c5:w4.heap[Y.heap.size]? = some (Lb ((no:Int)+1)):=by rw[<-aI,av _ _ _ eB];exact bl _ _
  have aQ:w4.heap[Y.heap.size+1]? = some (.cells #[.pointer (some (ay Y.heap.size 0))] 155 (0,0)):=by
   rw[<-aI];have:=bl (Y.alloc (.cells #[aj ((no:Int)+1),.slice none 0 0,.bool false,.pointer none,.nilFunc,aj 0,.slice none 0 0] 160)) (.cells #[.pointer (some (ay Y.heap.size 0))] 155);simpa using this
  have bI:w4.heap.size=Y.heap.size+1+1:=by rw[<-aI];simp
  clear aI;generalize cA:Y.heap.size=tb at *;have aX:=bj (bh c5 aQ);have aD:=bj (aO.out.block (J.out.block eb ag im));have aS:=bj (dQ b2.out (λk h=>J.out.block k (dP b2.out k h).2.1 im));have aK:=bj (dQ b4.out (λk h=>J.out.block k (dP b4.out k h).2.1 im));have bV:=bj (bJ.out.iW J.out);have aC:=bj (bh (dv J.out HY.out.1) (bh (dv J.out HY.out.2.1) (dv J.out HY.out.2.2)));have bC:w4.cell? (ay w.heap.size 0)=some (P0 eb):=fy aC.out.1
  have cR:w4.cell? (ay (tb+1) 0)=some (P0 tb):=fy aQ;have c7:=ch aC.out.1;obtain⟨bK,cQ⟩:=aD.out.cells 29 ag;rw[eN _ _ _ _ ag,HF.out.2]at bK;have aV:=aD.out.lt;have cK:=bj (bh bI (bh cA aT));clear c5 aQ b0 bX bU aP J b2 aO HY bI cA hi bM bD bW i0 b4 bJ aT;obtain⟨j0,hj,cB,c6,bT⟩:=info_parts Tryz.oF;have a5:=bj b8.out;go_cut [] from 27 to 36 (λwx=>∃(lb:Option Addr) (a0:Nat) (w5:aa),wx=w5.setCell (ay eb 29) (.slice lb (i+1) a0)/\Hid (w5.ownsRow 0 155 1 (.slice lb (i+1) a0) (i+1) (lv++[P0 tb]))/\Hid (w4.grownBy w5 (Value.slice al i cl).ownBlock)/\Hid (lR w4.heap.size (.slice al i cl) (.slice lb (i+1) a0)))
  case first=>
   go_region_law (refine fD _ rfl (.tmp 31) (.tmp 33) 136 rfl 155 j0 _ 1 8 underlying136 hj cB c6 bT rfl ek al i cl lv mB (dQ aK.out (λk h=>av _ _ _ (by have h1:=(dP aK.out k h).2.1;omega))) (ay w4.heap.size 0) 1 1 [P0 tb] mB rfl (by intro j u hj;match j,hj with|0,hj=>(simp at hj;subst hj;simp[Addr.add,go_sem])) xI pY ag ek ?_;intro v' Z ho hg aE;obtain⟨lb,a0,rfl⟩:=ee ho ag;have b7:=bj ho;have aW:Hid (lR w4.heap.size (.slice al i cl) (dA lb (i+1) a0)):=re aE eB;have a4:Hid (w4.grownBy Z (Value.slice al i cl).ownBlock):=⟨hg.os,hg.tape,hg.output,by(have h1:=hg.size;simp at h1;omega),λx hx hn=>(hg.block x fH hn).trans (av _ _ _ hx)⟩;have aH:=bj (aD.out.block (a4.out.block eb aV (λe=>(a5.out eb e.symm).1 rfl)));obtain⟨cC,d9⟩:=aH.out.cells 29 ag;have d2:=(az (a:=ay w.heap.size 0) (a4.out.block w.heap.size c7 (λe=>by have:=(a5.out _ e.symm).2;omega))).trans bC;clear ho hg aE)
   all_goals
    go_wp2_with fail
    go_meet
    case rel=>exact⟨_,a0,Z,rfl,b7,a4,aW⟩
  case rest=>
   obtain⟨lb,a0,w5,rfl,bA,a3,b9⟩:=hcut;have bB:=bj (aD.out.block (a3.out.block eb aV (λe=>(a5.out eb e.symm).1 rfl)));have bE:=cK.out;generalize aM:w5.setCell (ay eb 29) (.slice lb (i+1) a0)=Z at *;have b6:∀k,k≠eb->Z.heap[k]? = w5.heap[k]?:=λk W=>by rw[<-aM];exact ab _ _ _ _ W
   have a9:∀{k:Nat} {o:Obj},w4.heap[k]? = some o->k≠eb->(Value.slice al i cl).ownBlock≠some k->Z.heap[k]? = some o:=λW h1 h2=>((b6 _ h1).trans (a3.out.block _ (ch W) (λe=>h2 e.symm))).trans W;have a2:∀k,w.heap.size<=k->(Value.slice al i cl).ownBlock≠some k:=λk W e=>by have:=(a5.out k e).2;omega
   have HB:Hid (Kr w Z eb tb w.heap.size (tb+1) no i (.slice ao no co) (.slice al i cl) ov lv E ob lb H a0):=by
    refine⟨?_,?_,bQ.out,?_,re b9.out ag,?_,?_,?_,?_,⟨ag,bq _,ag⟩,?_⟩
    .rw[<-aM];exact bB.out.eC 29 _
    .refine dQ aS.out (λk h=>?_);obtain⟨_,l4,dB,hc⟩:=dP aS.out k h;rw[hc];refine a9 hc (eU aS.out aD.out ek k h) (λe=>?_);obtain⟨_,_,c2,e2⟩:=dP aK.out k e;rw[hc]at e2;injection e2 with e2;injection e2 with _ e2 _;exact dp e2 ek
    .exact dQ bA.out (λk h=>b6 k (eU bA.out bB.out ek k h))
    .intro k W;rcases b9.out with e|⟨g',e,dE⟩
     .rw[W]at e;have:=(a5.out k e.symm).2;omega
     rw[W]at e;injection e with e;omega
    .exact a9 aX.out.1 ag (a2 _ ag)
    .exact a9 aX.out.2 ag (a2 _ ag)
    .exact a9 aC.out.1 ag (a2 _ (bq _))
    rw[<-aM];refine bp (bV.out.trans (S1:=λk=>(Value.slice al i cl).ownBlock=some k) ⟨a3.out.os,a3.out.tape,a3.out.output,a3.out.size,λk W hn=>a3.out.block k W (λe=>hn e.symm)⟩ (λk h _=>ah (ah h))) (af (af rfl)) _
   have q1:=a9 aC.out.2.1 ag (a2 _ ag);have q2:=a9 aC.out.2.2 ag (a2 _ ag);have p0:Z.cell? (ay w.heap.size 0)=some (P0 eb):=by have:=HB.out.y;simp[World.cell?,this]
   have p1:Z.cell? (ay (tb+1) 0)=some (P0 tb):=by have:=HB.out.x;simp[World.cell?,this]
   have p2:Z.cell? (ay (w.heap.size+1) 0)=some (aj (u.1:Int)):=fy q1;have p3:Z.cell? (ay (w.heap.size+1) 1)=some (aj u.2):=fy q1;have p4:Z.cell? (ay (w.heap.size+1+1) 0)=some (aj (v.1:Int)):=fy q2;have p5:Z.cell? (ay (w.heap.size+1+1) 1)=some (aj v.2):=fy q2;clear aM b6 a9 bC cR c7 bK cQ aV aS bA aD bB a3 aX aC hj cB c6 bT j0 aK bV bE b9 bQ a2 q1 q2;go_wp2_with fail
   refine du (cV.out Z tb w.heap.size (tb+1) ob lb H a0 HB.out) ?_;rintro w7 ⟨bF,aJ,b1,d4⟩;have q0:w7.cell? (ay w.heap.size 0)=some (P0 eb):=fy b1
   have q1:w7.cell? (ay (tb+1) 0)=some (P0 tb):=fy aJ;have cM:=bj bF;clear bF aJ b1 p0 p1 p2 p3 p4 p5;go_wp2_with fail
   go_region_with (go_at_call 110;refine du (cO.out tb (tb+1) w7 w7.drew cM.out (bo (aw _ _))) ?_;rintro w8 ⟨bL,t0,aZ⟩;have cG:=bj bL;have r1:w8.cell? (ay (tb+1) 0)=some (P0 tb):=(by simp[World.cell?,aZ]);clear bL aZ)
   all_goals
    go_wp2_with fail
    go_ret;exact⟨rfl,cG.out⟩
def zB(w:aa)(xb tb:Nat)(v:B.V):Prop:=w.heap[xb]? = some (.cells #[P0 tb] 155 (0,0))/\w.heap[xb+1]? = some (.cells #[.int .i64 (v.1:Int),.int .i64 v.2] 149 (0,0))
def JE(eb tb kind t n c:Nat)(x:Int)(v:B.V)(ad:Option Addr)(S1 S3:aa->Prop)(S2:Value->aa->Prop)(I:List Nat->aa->Prop)(sx:Nat->Nat)(xs:List Nat)(w:aa)(H1:∀w1,w.grownBy w1 none->zB w1 w.heap.size tb v->eL 133 #[P0 tb] w1 λw2=>S1 w2)(aF:∀w1,S1 w1->zB w1 w.heap.size tb v/\(∃Tk,Full w1 tb 160 7 7 Tk)/\(w1.setCell (ay tb 2) (.bool false)).cell? (ay eb 29)=some (.slice ad n c)/\eb<w1.heap.size)(H2:∀w1,S1 w1->Calls prog 209 #[.slice ad n c,Fv 210 #[P0 w.heap.size]] (w1.setCell (ay tb 2) (.bool false)) λe w2=>∃a' n' Z,e=.returned (.slice a' n' Z)/\S2 (.slice a' n' Z) w2)(aH:∀lv w2,S2 lv w2->zB (w2.setCell (ay eb 29) lv) w.heap.size tb v/\(∃E,Full w2 eb 144 44 44 E)/\(w2.setCell (ay eb 29) lv).cell? (ay tb 0)=some (aj t)/\tb<w2.heap.size)(H3:∀lv w2 G,S2 lv w2->(w2.setCell (ay eb 29) lv).grownBy G none->eL 211 #[P0 eb,aj t,vA v] G λi=>S3 i)(a8:∀G,S3 G->zB G w.heap.size tb v)(H4:∀G,S3 G->eL 173 #[P0 eb,aj kind,P0 tb,aj x] G λi=>I xs i)(hI:∀ys i,I ys i->zB i w.heap.size tb v/\tb<i.heap.size/\(∀Y,i.grownBy Y none->I ys Y)/\(ys=[]->∃a' Z,i.cell? (ay tb 6)=some (.slice a' 0 Z))/\(∀y r,ys=y :: r->∃q Z,i.cell? (ay tb 6)=some (dA q (r.length+1) Z)/\i.cell? (ay q 0)=some (P0 y)/\i.cell? (ay y 4)=some (Fv 207 #[P0 (sx y)])/\y<i.heap.size))(HL:∀y r i,I (y :: r) i->eL 207 #[vA v,P0 (sx y)] i λY=>I r Y): eL 175 #[P0 eb,P0 tb,vA v,aj kind,aj x] w λw'=>I [] w':=by
 change Hid _ at H1 aF H2 aH H3 a8 H4 hI HL;obtain⟨v1,v2⟩:=v;delta eL;go_in;go_wp2_with fail
 generalize a4:(w.alloc (.cells #[P0 tb] 155)).alloc (.cells #[aj v1,aj v2] 149)=w1;have aA:w.grownBy w1 none:=by rw[<-a4];exact ax (ax (aw _ _) _) _
 have aG:zB w1 w.heap.size tb (v1,v2):=by
  rw[<-a4];constructor
  .rw[av _ _ _ eB];exact bl _ _
  have h1:=bl (w.alloc (.cells #[P0 tb] 155)) (.cells #[aj v1,aj v2] 149);have h2:(w.alloc (.cells #[P0 tb] 155)).heap.size=w.heap.size+1:=eB
  rw[h2]at h1;exact h1
 have KX:=bj (H1 w1 aA aG);clear a4 aA aG;refine du KX λw2 a1=>?_;obtain⟨a7,⟨Tk,hT⟩,b9,b6⟩:=aF w2 a1;have x0:dS w2 w.heap.size 0=some (P0 tb):=fy a7.1
 obtain⟨t2,z2⟩:=hT.cells 2 ag;generalize Tk 2=y2 at t2;change Hid _ at a1;clear a7 hT;go_wp2_with fail
 refine(H2 w2 a1).mono ?_;rintro e G ⟨a',n',Z,rfl,a3⟩;obtain⟨aE,⟨E3,a0⟩,b3,aN⟩:=aH _ G a3;obtain⟨aI,aO⟩:=a0.cells 29 ag;generalize E3 29=b4 at aI;change Hid _ at a3 aE;clear a0 x0 t2 z2;go_wp2_with fail
 generalize a5:G.setCell (ay eb 29) (.slice a' n' Z)=i at *;have aP:i.heap.size=G.heap.size:=by rw[<-a5];simp[World.setCell]
 have x0:dS i w.heap.size 0=some (P0 tb):=fy aE.1
 have x1:dS i (w.heap.size+1) 0=some (aj v1):=fy aE.2
 have x2:dS i (w.heap.size+1) 1=some (aj v2):=fy aE.2
 have aL:Hid (∀Y,i.grownBy Y none->eL 211 #[P0 eb,aj t,vA (v1,v2)] Y λw6=>S3 w6):=λY hg=>H3 _ G Y a3 (eV a5 hg);clear a5 aP aI aO aN;go_wp2
 go_cut [] (λwx=>Hid (S3 wx))
 case first=>
  go_region_with (go_at_call 211;refine du (aL i.drew (bo (aw _ _))) λw6 aB=>?_;have W:=bj aB;clear aB)
  all_goals
   go_wp2
   go_meet
   case rel=>exact W
 case rest=>
  have W:=hcut;have a6:=a8 wc W;have q0:dS wc w.heap.size 0=some (P0 tb):=fy a6.1
  clear a6;go_wp2_with fail
  refine du (H4 wc W) λw6 aD=>?_;change Hid _ at aD;clear q0 x0 x1 x2;go_wp2
  go_loopg [] (xs.length) (λn wr=>∃ys:List Nat,ys.length=n/\Hid (I ys wr))
  case atStart=>exact⟨xs,rfl,aD⟩
  case round=>
   obtain⟨ys,aK,rI⟩:=hrel;obtain⟨H,b5,a9,u,o⟩:=hI ys wr rI;have q0:dS wr w.heap.size 0=some (P0 tb):=fy H.1
   have q1:dS wr (w.heap.size+1) 0=some (aj v1):=fy H.2
   have q2:dS wr (w.heap.size+1) 1=some (aj v2):=fy H.2
   have lq:=ch H.1;have b7:=ch H.2;change Hid _ at a9;clear H aD
   cases ys with
   | nil=>
    obtain⟨a2,c2,c6⟩:=u rfl;have hE:=gL tb 6 0 c2 a2 wr c6;simp only[decide_true]at hE;change Hid _ at hE;clear u o;go_wp2_with fail
    refine du hE ?_;rintro w8 rfl;go_wp2
    go_end0;exact⟨rfl,rI⟩
   | cons y r=>
    obtain⟨q,c2,c6,cq,c4,ly⟩:=o y r rfl;have hE:=gL tb 6 (r.length+1) c2 (some (ay q 0)) wr c6;have hd:decide ((r.length+1:Nat)=0)=false:=eB
    rw[hd]at hE;have hE:=bj hE;have aQ:=bj (λ(w':aa) (h:dS w' tb 6=some (dA q (r.length+1) c2)) (h2:dS w' q 0=some (P0 y))=>pQ tb 6 r.length c2 q y w' h h2);have aY:=bj (λ(w':aa) (hg:wr.grownBy w' none)=>HL y r w' (a9 w' hg));clear hE hd u o;go_wp2_with fail
    refine du hE ?_;rintro w8 rfl;go_wp2
    go_region_with (first|(go_at_call 132;refine(aQ _ ?_ ?_).mono ?_;exact c6;exact cq;rintro e w9 ⟨rfl,rfl⟩)|(go_at_call 207;refine du (aY w8.drew (bo (aw _ _))) λw9 aJ=>?_;have aT:=bj aJ;clear aJ))
    all_goals
     go_wp2
     go_roundg (r.length)
     case measure=>first|omega|(simp at aK;omega)
     case rel=>exact⟨r,rfl,aT⟩
def Bg(x tb G:Nat)(w:aa)(h:w.cell? ⟨G,0,none⟩=some (P0 tb))(W:jF w tb 160 7)(hX:jF w x 160 7): Calls prog 210 #[P0 x,P0 G] w λe w'=>e=.returned (.bool (decide (x=tb)))/\w'=w:=by
 obtain⟨i0,hi,Y,o,H⟩:=info_parts Tryz.Bo;by_cases i:x=tb
 .subst i;have J:=λ(w:aa)=>run_eql_ptr_same (P:=prog) (w:=w) (tp:=155) (te:=160) ⟨x,0,none⟩ underlying155 hi;go_in;go_wp2_with fail
  go_ret;simp_all
 obtain⟨ct,bt,_⟩:=W;obtain⟨Z,u,_⟩:=hX;have y:=run_eql_ptr_other (P:=prog) (w:=w) (tp:=155) (te:=160) (a:=⟨x,0,none⟩) (b:=⟨tb,0,none⟩) underlying155 hi ag eR u bt;go_in;go_wp2_with fail
 go_ret;simp_all
def Lr(g c n tb Y:Nat)(xs:List Nat)(w:aa)(hn:n=xs.length)(a0:n<=1000000000)(Z:∀j x,xs[j]? = some x->w.cell? (ay g j)=some (P0 x))(hx:w.cell? (ay Y 0)=some (P0 tb))(hT:jF w tb 160 7)(hX:∀x,x∈xs->jF w x 160 7)(hm:tb∈xs): dD 205 #[dA g n c,Fv 210 #[P0 Y]] w (aj (xs.idxOf tb:Nat)) λw'=>w'=w:=by
 have W:=List.idxOf_lt_length_of_mem hm;have HC:=bj Z;have HT:=bj hT;have HX:=bj hX;have HL:=bj W;have HN:=bj hn;have HB:=bj hx;clear Z hT hX W hm hn hx;delta dD;go_in;go_wp2_with fail
 go_loopw [8] (λi wr=>∃j:Nat,i=aj j/\j<=xs.idxOf tb/\wr=w) (λi _=>xs.idxOf tb-(intOf i).toNat)
 case atStart=>grind
 case round=>
  obtain⟨j,rfl,hj,rfl⟩:=hrel;have a1:j<n:=by have:=HL.out;have:=HN.out;omega
  obtain⟨x,hx⟩:∃x,xs[j]? = some x:=⟨_,bz (gp HN.out)⟩;have cj:=HC.out j x hx;have H:=Bg x tb Y wr HB.out HT.out (HX.out x (eh hx));have J:=bj H;clear H;by_cases y:j=xs.idxOf tb
  .have o:x=tb:=by
    have:=List.getElem_idxOf (x:=tb) HL.out;rw[cf]at hx;obtain⟨h1,h2⟩:=hx;subst y;rw[<-h2];exact this
   have HJ:=bj y;have u:=bj o;clear y o;go_wp2_with fail
   refine du J ?_;rintro w1 rfl;have G:decide (x=tb)=true:=gG u.out
   simp only[G];clear G;go_wp2_with fail
   go_ret;exact⟨by simp[HJ.out],rfl⟩
  have o:x≠tb:=by
   intro e;subst e;have a2:=ss xs x j hx;omega
  have u:=bj o;clear o;go_wp2_with fail
  refine du J ?_;rintro w1 rfl;have G:decide (x=tb)=false:=gG u.out
  simp only[G];clear G;go_wp2_with fail
  go_roundw
  case rel=>exact⟨j+1,iA,ag,trivial⟩
  case measure=>simp[intOf];omega
def N4(w wr:aa)(g c ix j:Nat)(xs:List Nat):Prop:=
 jF wr g 155 c/\w.grownBy wr (some g)/\(∀p x,p+1<j->(xs.eraseIdx ix)[p]? = some x->wr.cell? ⟨g,p,none⟩=some (P0 x))/\(∀p x,j<=p->xs[p]? = some x->wr.cell? ⟨g,p,none⟩=some (P0 x))
def Ly(g c n tb xb:Nat)(xs:List Nat)(w:aa)(a1:w.ownsRow 0 155 1 (dA g n c) n (xs.map P0))(aL:n<=1000000000)(aD:xs.Nodup)(hx:w.cell? (ay xb 0)=some (P0 tb))(lx:xb<w.heap.size)(ng:xb≠g)(hT:jF w tb 160 7)(hX:∀x,x∈xs->jF w x 160 7)(hm:tb∈xs): dD 209 #[dA g n c,Fv 210 #[P0 xb]] w (dA g (n-1) c) λw'=>w'.ownsRow 0 155 1 (dA g (n-1) c) (n-1) ((xs.erase tb).map P0)/\w.grownBy w' (some g):=by
 obtain⟨hb,hc,a4,hl,hB,G⟩:=gZ a1;have W:xs.length=n:=gG hl
 have a0:∀j x,xs[j]? = some x->dS w g j=some (P0 x):=λj x h=>G j (P0 x) (by simp[h]);have aS:xs.idxOf tb<n:=by rw[<-W];exact List.idxOf_lt_length_of_mem hm
 have aM:=bj (Lr g c n tb xb xs w W.symm aL a0 hx hT hX hm);have a8:tb≠g:=by
  rintro rfl;obtain⟨c1,Z,_⟩:=hT;obtain⟨c2,o,_⟩:=hB;rw[Z]at o;injection o with o;injection o with _ o _;exact dp o ek
 have aC:∀x,x∈xs->x≠g:=λx Y=>by
  rintro rfl;obtain⟨c1,Z,_⟩:=hX x Y;obtain⟨c2,o,_⟩:=hB;grind
 have aH:Hid (∀wr,w.grownBy wr (some g)->∀x,x∈xs->dD 210 #[P0 x,P0 xb] wr (.bool (decide (x=tb))) λw'=>w'=wr):=λwr a2 x Y=>by
  refine Bg x tb xb wr ?_ ?_ ?_
  .simp only[World.cell?]at hx ⊢;rw[a2.block xb lx eR];exact hx
  .obtain⟨c1,Z,o⟩:=hT;exact⟨c1,(a2.block tb (ch Z) eR).trans Z,o⟩
  obtain⟨c1,Z,o⟩:=hX x Y;exact⟨c1,(a2.block x (ch Z) eR).trans Z,o⟩
 have a6:∀j,xs.idxOf tb<j->∀x,xs[j]? = some x->x≠tb:=λj hj x aN e=>by
  grind
 obtain⟨i0,hi,a9,aG,aE⟩:=info_parts Tryz.oF;have hv:∀w,(zeroValue 155).run prog w=.ok (.pointer none) w:=by intro w;simp[zeroValue,typeInfo,hi,a9]
 have a7:Hid (∀(ty:TypeId) (w1:aa) (c':Nat),jF w1 g 155 c->(Builtin.clear_ #[136] ty #[.slice (some (ay g (n-1))) 1 c']).run prog w1=.ok (.tuple #[]) (w1.setCell (ay g (n-1)) (.pointer none))):=by
  intro ty w1 c' aA;refine Go.Lib.run_clear_slice (P:=prog) w1 136 155 ty (.pointer none) underlying136 hv rfl rfl g (n-1) 1 c' ag ?_ ?_
  .intro j hj;obtain⟨⟨v,h⟩,_⟩:=aA.cell (n-1+j) ag;grind
  intro j hj;exact(aA.cell (n-1+j) ag).2
 have KD:Hid (N4 w w g c (xs.idxOf tb) (xs.idxOf tb+1) xs):=⟨hB,aw _ _,λp x hp hx=>by
   grind,λp x _ hx=>a0 p x hx⟩
 have aT:(n:Int)<=(c:Int):=ag
 change Hid _ at a6 a4;have u:=bj W;have a3:=bj (sy xs tb);clear a1 hl G a0 hx hT hX hm hB a8 aC aD hv hi a9 aG aE i0;generalize xs.idxOf tb=ix at *;delta dD;go_in;go_wp2_with fail
 refine du aM ?_;rintro w1 rfl;go_wp2_with fail
 have a5:((ix:Int) == -1)=false:=kr dX
 try rw[a5]
 try simp only[a5]
 clear a5;go_loopw [5,6] (λi j wr=>∃J:Nat,i=aj (J:Nat)/\j=aj ((J:Int)+1)/\ix<=J/\J+1<=n/\Hid (N4 w1 wr g c ix (J+1) xs)) (λ_ j _=>n-(intOf j).toNat)
 case atStart=>exact⟨ix,rfl,iA,ag,ag,KD⟩
 case round=>
  obtain⟨J,rfl,rfl,aV,aR,rD⟩:=hrel;obtain⟨dB,dG,d1,d2⟩:=rD.out;by_cases aQ:J+1<n
  .have aB:(J:Int)+1<(n:Int):=ag
   obtain⟨x,hx⟩:∃x,xs[J+1]? = some x:=⟨_,bz ag⟩;have cj:=d2 (J+1) x (bq _) hx;have H:=aH.out wr dG x (eh hx);have hd:decide (x=tb)=false:=by simpa using a6.out (J+1) ag x hx
   rw[hd]at H;change Hid _ at H hx;obtain⟨⟨y,cJ⟩,zJ⟩:=dB.cell J ag;have lg:=dB.lt;clear hd dB dG d1 d2;go_wp2_with fail
   refine du H ?_;rintro w2 rfl;have aP:Hid (N4 w1 (w2.setCell (ay g J) (P0 x)) g c ix (J+2) xs):=by
    obtain⟨dB,dG,d1,d2⟩:=rD.out;refine⟨dB.set g J _,bu dG (af rfl) _,λp z hp hz=>?_,λp z hp hz=>?_⟩
    .by_cases aK:p=J
     .subst aK;rw[List.getElem?_eraseIdx_of_ge ag]at hz;rw[hx.out]at hz;injection hz with hz;subst hz;exact World.cell?_setCell_same _ _ _ cJ
     rw[dH _ _ _ _ AA];exact d1 p z ag hz
    rw[dH _ _ _ _ AA];exact d2 p z ag hz
   go_wp2
   go_roundw
   case rel=>exact⟨J+1,iA,iA,ag,ag,aP⟩
   case measure=>simp[intOf];omega
  have aB:¬(J:Int)+1<(n:Int):=ag
  obtain rfl:n=J+1:=by omega
  have cl:∀(ty:TypeId) (c':Nat),(Builtin.clear_ #[136] ty #[.slice (some (ay g J)) 1 c']).run prog wr=.ok (.tuple #[]) (wr.setCell (ay g J) (.pointer none)):=λty c'=>a7.out ty wr c' dB;clear dB dG d1 d2;go_wp2
  go_ret;obtain⟨dB,dG,d1,d2⟩:=rD.out;refine⟨rfl,nD (dk _) ag a4.out ?_ (dB.set g J _) (λj y hy=>?_),bu dG (af rfl) _⟩
  .rw[ef,<-a3.out,List.length_eraseIdx,bf (kr u.out),u.out];omega
  have hj:j<J:=by
   have:=(cf.1 hy).1;rw[ef,<-a3.out,List.length_eraseIdx,bf (kr u.out),u.out]at this;omega
  rw[eP]at hy;obtain⟨z,hz,rfl⟩:=Option.map_eq_some_iff.1 hy;rw[dH _ _ _ _ AA];exact d1 j z ag (eV a3.out hz)
def fst(p:Nat->Bool)(xs:List Nat):Int:=if xs.findIdx p<xs.length then(xs.findIdx p:Nat) else -1
def DU(g c n xb:Nat)(ad:Option Addr)(p:Nat->Bool)(xs:List Nat)(w:aa)(hn:n=xs.length)(a5:n<=1000000000)(a0:∀j x,xs[j]? = some x->ad=some (ay g 0)/\w.cell? (ay g j)=some (P0 x))(lg:xs≠[]->g<w.heap.size)(H:∀w1,w.grownBy w1 none->∀x,x∈xs->dD 204 #[P0 x,P0 xb] w1 (.bool (p x)) λw'=>w1.grownBy w' none): dD 205 #[.slice ad n c,Fv 204 #[P0 xb]] w (aj (fst p xs)) λw'=>w.grownBy w' none:=by
 have HC:=bj a0;have HH:=bj H;have HN:=bj hn;have HG:=bj lg;have a3:xs.findIdx p<=xs.length:=List.findIdx_le_length;have HL:=bj a3;clear a0 H hn a3 lg;delta dD;go_in;go_wp2_with fail
 go_loopw [8] (λi wr=>∃j:Nat,i=aj j/\j<=xs.findIdx p/\Hid (w.grownBy wr none)) (λi _=>xs.length-(intOf i).toNat)
 case atStart=>grind[aw]
 case round=>
  obtain⟨j,rfl,hj,rG⟩:=hrel;by_cases a6:j<n
  .obtain⟨x,hx⟩:∃x,xs[j]? = some x:=⟨_,bz (gp HN.out)⟩;obtain⟨rfl,a2⟩:=HC.out j x hx;have y:=eh hx;have cj:wr.cell? (ay g j)=some (P0 x):=(bd rG.out (a:=ay g j) (HG.out eR)).1.trans a2;have a1:=HH.out wr rG.out x y;obtain⟨Y,G⟩:=cf.1 hx;have J:=bj a1;clear a1 a2 y;by_cases Z:j=xs.findIdx p
   .have u:p x=true:=by
     subst Z;rw[<-G];exact List.findIdx_getElem (w:=Y)
    have HJ:=bj Z;rw[u]at J;clear Z u G Y;go_wp2_with fail
    refine du J λw1 o=>?_;have W:=bj (ar rG.out o);clear o;go_wp2_with fail
    go_ret;refine⟨?_,W.out⟩;have h1:=HJ.out;have h2:=HN.out;unfold fst;simp_all
   have u:p x=false:=by
    rw[<-G];have:=List.not_of_lt_findIdx (p:=p) (xs:=xs) (i:=j) ag;simpa using this
   rw[u]at J;clear u G Y;go_wp2_with fail
   refine du J λw1 o=>?_;have W:=bj (ar rG.out o);clear o;go_wp2_with fail
   go_roundw
   case rel=>exact⟨j+1,iA,ag,W⟩
   case measure=>simp[intOf];have:=HN.out;omega
  have a4:¬(j:Int)<(n:Int):=ag
  go_wp2_with fail
  go_ret;refine⟨?_,rG.out⟩;have h2:=HN.out;unfold fst;rw[eD];rfl
def DT(g c n xb:Nat)(ad:Option Addr)(p:Nat->Bool)(xs:List Nat)(w:aa)(hn:n=xs.length)(a5:n<=1000000000)(a0:∀j x,xs[j]? = some x->ad=some (ay g 0)/\w.cell? (ay g j)=some (P0 x))(lg:xs≠[]->g<w.heap.size)(H:∀w1,w.grownBy w1 none->∀x,x∈xs->dD 206 #[P0 x,P0 xb] w1 (.bool (p x)) λw'=>w1.grownBy w' none): dD 205 #[.slice ad n c,Fv 206 #[P0 xb]] w (aj (fst p xs)) λw'=>w.grownBy w' none:=by
 have HC:=bj a0;have HH:=bj H;have HN:=bj hn;have HG:=bj lg;have a3:xs.findIdx p<=xs.length:=List.findIdx_le_length;have HL:=bj a3;clear a0 H hn a3 lg;delta dD;go_in;go_wp2_with fail
 go_loopw [8] (λi wr=>∃j:Nat,i=aj j/\j<=xs.findIdx p/\Hid (w.grownBy wr none)) (λi _=>xs.length-(intOf i).toNat)
 case atStart=>grind[aw]
 case round=>
  obtain⟨j,rfl,hj,rG⟩:=hrel;by_cases a6:j<n
  .obtain⟨x,hx⟩:∃x,xs[j]? = some x:=⟨_,bz (gp HN.out)⟩;obtain⟨rfl,a2⟩:=HC.out j x hx;have y:=eh hx;have cj:wr.cell? (ay g j)=some (P0 x):=(bd rG.out (a:=ay g j) (HG.out eR)).1.trans a2;have a1:=HH.out wr rG.out x y;obtain⟨Y,G⟩:=cf.1 hx;have J:=bj a1;clear a1 a2 y;by_cases Z:j=xs.findIdx p
   .have u:p x=true:=by
     subst Z;rw[<-G];exact List.findIdx_getElem (w:=Y)
    have HJ:=bj Z;rw[u]at J;clear Z u G Y;go_wp2_with fail
    refine du J λw1 o=>?_;have W:=bj (ar rG.out o);clear o;go_wp2_with fail
    go_ret;refine⟨?_,W.out⟩;have h1:=HJ.out;have h2:=HN.out;unfold fst;simp_all
   have u:p x=false:=by
    rw[<-G];have:=List.not_of_lt_findIdx (p:=p) (xs:=xs) (i:=j) ag;simpa using this
   rw[u]at J;clear u G Y;go_wp2_with fail
   refine du J λw1 o=>?_;have W:=bj (ar rG.out o);clear o;go_wp2_with fail
   go_roundw
   case rel=>exact⟨j+1,iA,ag,W⟩
   case measure=>simp[intOf];have:=HN.out;omega
  have a4:¬(j:Int)<(n:Int):=ag
  go_wp2_with fail
  go_ret;refine⟨?_,rG.out⟩;have h2:=HN.out;unfold fst;rw[eD];rfl
def Ig(x i:Nat)(a b:Int)(w:aa)(h:w.cell? (ay i 0)=some (aj b))(hx:w.cell? (ay x 0)=some (aj a)): dD 206 #[P0 x,P0 i] w (.bool (a == b)) λw'=>w.grownBy w' none:=by
 delta dD;go_in;go_wp2
 go_quiet (fail)
 go_wp2
 go_ret;simp[df,aw]
def GW(x i tb:Nat)(a b:Int)(w:aa)(h:w.cell? (ay i 0)=some (P0 tb))(hx:w.cell? (ay x 5)=some (aj a))(ht:w.cell? (ay tb 5)=some (aj b)): dD 204 #[P0 x,P0 i] w (.bool (decide (b<a))) λw'=>w.grownBy w' none:=by
 delta dD;go_in;go_wp2
 go_quiet (fail)
 go_wp2
 go_ret;simp[df,aw]
def sD(xs:List Nat)(nm:Nat->Int)(z:Int):Value:=
 match xs.find? (λx=>nm x == z) with
 | some x=>.tuple #[P0 x,.bool true]
 | none=>.tuple #[.pointer none,.bool false]
def Kg(eb g c n:Nat)(ad:Option Addr)(z:Int)(i:Nat->Int)(xs:List Nat)(w:aa)(he:w.cell? (ay eb 29)=some (.slice ad n c))(le:eb<w.heap.size)(hn:n=xs.length)(a0:n<=1000000000)(G:∀j x,xs[j]? = some x->ad=some (ay g 0)/\w.cell? (ay g j)=some (P0 x))(lg:xs≠[]->g<w.heap.size)(H:∀x,x∈xs->w.cell? (ay x 0)=some (aj (i x))/\x<w.heap.size): dD 170 #[P0 eb,aj z] w (sD xs i z) λw'=>w.grownBy w' none:=by
 have HX:Hid (dD 205 #[.slice ad n c,Fv 206 #[P0 w.heap.size]] (w.alloc (.cells #[aj z] 2)) (aj (fst (λx=>i x == z) xs)) λw'=>(w.alloc (.cells #[aj z] 2)).grownBy w' none):=by
  have hA:=ak w (.cells #[aj z] 2) none;refine DT g c n w.heap.size ad (λx=>i x == z) xs _ hn a0 (λj x y=>⟨(G j x y).1,?_⟩) (λh=>by have:=lg h;simp;omega) (λw1 hg x W=>?_)
  .have o:=eh y;exact(bd hA (a:=ay g j) (lg eR)).1.trans (G j x y).2
  refine Ig x w.heap.size (i x) z w1 ?_ ?_
  .have:=da hg (bl w (.cells #[aj z] 2)) eR;simp[World.cell?,this]
  exact(bd (ar hA hg) (a:=ay x 0) (H x W).2).1.trans (H x W).1
 change Hid _ at G hn lg;clear H;delta dD;go_in;go_wp2_with fail
 refine du HX λw1 Y=>?_;have hG:=ar (ak w (.cells #[aj z] 2) none) Y;have a1:=(bd hG (a:=ay eb 29) le).1.trans he;have KG:=bj hG;by_cases J:xs.findIdx (λx=>i x == z)<xs.length
 .obtain⟨x,y⟩:∃x,xs[xs.findIdx (λx=>i x == z)]? = some x:=⟨_,bz J⟩;obtain⟨rfl,Z⟩:=G _ x y;have o:=eh y;have u:fst (λx=>i x == z) xs=((xs.findIdx (λx=>i x == z):Nat):Int):=by unfold fst;rw[bf J]
  have hv:sD xs i z=.tuple #[P0 x,.bool true]:=by
   have:xs.find? (λx=>i x == z)=some x:=by
    rw[List.find?_eq_some_iff_getElem];obtain⟨h1,h2⟩:=cf.1 y;refine⟨eR,_,h1,h2,λj hj=>?_⟩;have:=List.not_of_lt_findIdx hj;simpa using this
   unfold sD;rw[this]
  have HV:=bj hv;rw[u];generalize xs.findIdx (λx=>i x == z)=ix at *;have cj:dS w1 g ix=some (P0 x):=(bd KG (a:=ay g ix) (lg eR)).1.trans Z;have a2:(ix:Int)<n:=gp hn.out
  go_wp2
  go_ret2
  simp_all
 have u:fst (λx=>i x == z) xs=-1:=by unfold fst;rw[au J]
 have hv:sD xs i z=.tuple #[.pointer none,.bool false]:=by
  have:xs.find? (λx=>i x == z)=none:=by
   rw[List.find?_eq_none];intro x y hp;exact J (List.findIdx_lt_length_of_exists ⟨x,y,hp⟩)
  unfold sD;rw[this]
 have HV:=bj hv;rw[u];go_wp2
 go_ret2
 simp_all
