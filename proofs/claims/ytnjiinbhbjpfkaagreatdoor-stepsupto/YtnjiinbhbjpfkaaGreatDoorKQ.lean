import Derived.Test.YtnjiinbhbjpfkaaGreatDoorKF
import Derived.Test.YtnjiinbhbjpfkaaGreatDoorKJ
set_option maxRecDepth 100000
set_option maxHeartbeats 0
set_option linter.all false
namespace Go.Proofs.YtnjiinbhbjpfkaaGreatDoor
open Go.RowKit Go.Proofs.Tryz
section
def IN(n:Int):Obj:=.cells #[.int .i64 n,.slice none 0 0,.bool false,.pointer none,.nilFunc,.int .i64 0,.slice none 0 0] 160 (0,0)
structure Ix(w w6:World) (eb tb xe xt no nl:Nat) (vo vl:Value) (ov:List B.V) (lv:List Value) (E:Nat->Value) (a30 a29:Option Addr) (c30 c29:Nat):Prop where
 e:Full w6 eb 144 44 44 (ep (ep E 30 (.slice a30 (no+1) c30)) 29 (.slice a29 (nl+1) c29))
 o:w6.ownsRow 0 149 2 (.slice a30 (no+1) c30) (no+1) (fT ov++[.int .i64 0,.int .i64 0])
 o2:jE w.heap.size vo (.slice a30 (no+1) c30)
 l:w6.ownsRow 0 155 1 (.slice a29 (nl+1) c29) (nl+1) (lv++[P0 tb])
 l2:jE w.heap.size vl (.slice a29 (nl+1) c29)
 l3:∀k,(Value.slice a29 (nl+1) c29).ownBlock=some k->k≠xt
 t:w6.heap[tb]? = some (IN ((no:Int)+1))
 x:w6.heap[xt]? = some (.cells #[P0 tb] 155 (0,0))
 y:w6.heap[xe]? = some (.cells #[P0 eb] 95 (0,0))
 n:w.heap.size<=tb/\w.heap.size<=xe/\w.heap.size<=xt
 s:dy (λk=>k=eb\/vo.ownBlock=some k\/vl.ownBlock=some k) w w6
theorem pB{a b:Nat}{v e:Value}(h:jE b v e)(i:a<=b):jE a v e:=h.imp id (λ⟨g,o,u⟩=>⟨g,o,by omega⟩)
theorem Il(eb f no i co cl num:Nat)(ao al:Option Addr)(u v:B.V)(ov:List B.V)(lv:List Value)(E:Nat->Value)(S:Nat->Nat->World->Prop)(R:World->Prop)(w:World)(hE:Full w eb 144 44 44 E)(c4:E 30=.slice ao no co)(bN:E 29=.slice al i cl)(ho:w.ownsRow 0 149 2 (.slice ao no co) no (fT ov))(hl:w.ownsRow 0 155 1 (.slice al i cl) i lv)(dG:no<=900000000)(d5:i<=900000000)(HE:∀Z tb xe xt cY cT aP aG,Ix w Z eb tb xe xt no i (.slice ao no co) (.slice al i cl) ov lv E cY cT aP aG->Calls prog 119 #[P0 eb,P0 tb,.int .i64 f,vA u,vA v,Fv 120 #[P0 xe,P0 xt]] Z λe w7=>e=.returned (.tuple #[])/\S tb xt w7/\w7.heap[xt]? = some (.cells #[P0 tb] 155 (0,0))/\w7.heap[xe]? = some (.cells #[P0 eb] 95 (0,0))/\eb<w7.heap.size)(HJ:∀tb xt w7 w8,S tb xt w7->w7.grownBy w8 none->Calls prog 110 #[Pt eb 32,P0 tb] w8 λe w9=>e=.returned (.tuple #[])/\R w9/\w9.cell? ⟨tb,0,none⟩=some (.int .i64 num)/\w9.heap[xt]? = some (.cells #[P0 tb] 155 (0,0))): Calls prog 60 #[P0 eb,.int .i64 f,vA u,vA v] w λe w'=>e=.returned (.int .i64 num)/\R w':=by
 have le:=hE.lt;have KE:=az hE;have HF:=az (ay c4 bN);have HO:=az ho;have HL:=az hl;have cV:=az HE;have cO:=az HJ;have bS:∀k,(Value.slice ao no co).ownBlock=some k->k≠eb/\k<w.heap.size:=λk W=>⟨eL ho hE (by decide) k W,(dA ho k W).2.1⟩;have c8:∀k,(Value.slice al i cl).ownBlock=some k->k≠eb/\k<w.heap.size:=λk W=>⟨eL hl hE (by decide) k W,(dA hl k W).2.1⟩;have aA:=az bS;have b8:=az c8;have cD:Hid (∀k,(Value.slice ao no co).ownBlock=some k->(Value.slice al i cl).ownBlock≠some k):=λk W cX=>by
  obtain⟨_,_,c1,e1⟩:=dA ho k W;obtain⟨_,_,c2,e2⟩:=dA hl k cX;rw[e1]at e2;injection e2 with e2;injection e2 with _ e2 _;exact ch e2 (by decide)
 clear hE c4 bN ho hl HE HJ bS c8;obtain⟨i0,hi,bM,bD,bW⟩:=info_parts Tryz.rE;go_in;go_wp2_with fail
 generalize hW:((w.alloc (.cells #[P0 eb] 95)).alloc (.cells #[.int .i64 (u.1:Int),.int .i64 u.2] 149)).alloc (.cells #[.int .i64 (v.1:Int),.int .i64 v.2] 149)=w1;have aU:w1.heap.size=w.heap.size+1+1+1:=by rw[<-hW];simp
 have a8:Hid (w.grownBy w1 none):=by rw[<-hW];repeat (first|exact ax _ _|refine au ?_ _)
 have x0:w1.heap[w.heap.size]? = some (.cells #[P0 eb] 95 (0,0)):=by rw[<-hW,ak _ _ _ (by simp;omega),ak _ _ _ (by simp)];exact bf _ _
 have x1:w1.heap[w.heap.size+1]? = some (.cells #[.int .i64 (u.1:Int),.int .i64 u.2] 149 (0,0)):=by
  rw[<-hW,ak _ _ _ (by simp)];have:=bf (w.alloc (.cells #[P0 eb] 95)) (.cells #[.int .i64 (u.1:Int),.int .i64 u.2] 149);simpa using this
 have x2:w1.heap[w.heap.size+1+1]? = some (.cells #[.int .i64 (v.1:Int),.int .i64 v.2] 149 (0,0)):=by
  rw[<-hW];have:=bf ((w.alloc (.cells #[P0 eb] 95)).alloc (.cells #[.int .i64 (u.1:Int),.int .i64 u.2] 149)) (.cells #[.int .i64 (v.1:Int),.int .i64 v.2] 149);simpa using this
 clear hW;have HX:=az (ay x0 (ay x1 x2));have b0:w1.cell? ⟨w.heap.size,0,none⟩=some (P0 eb):=by simp[World.cell?,x0]
 have aF:=az (KE.out.block (a8.out.block eb le (by intro e;cases e)));have bP:=az (dD HO.out (λk h=>a8.out.block k (aA.out k h).2 (by intro e;cases e)));obtain⟨aG,cH⟩:=aF.out.cells 30 (by omega);rw[HF.out.1]at aG;have aL:=aF.out.lt;have b5:w.heap.size<w1.heap.size:=by omega
 have bR:=az aU;clear aU x0 x1 x2;go_cut [] from 10 to 19 (λwx=>∃(ob:Option Addr) (H:Nat) (w2:World),wx=w2.setCell ⟨eb,30,none⟩ (.slice ob (no+1) H)/\Hid (w2.ownsRow 0 149 2 (.slice ob (no+1) H) (no+1) (fT ov++[.int .i64 0,.int .i64 0]))/\Hid (w1.grownBy w2 (Value.slice ao no co).ownBlock)/\Hid (jE w1.heap.size (.slice ao no co) (.slice ob (no+1) H)))
 case first=>
  go_region_law (first|(refine eS _ rfl (.tmp 14) (.tmp 16) 137 rfl 149 i0 _ 2 16 underlying137 hi bM bD bW rfl (by decide) ao no co (fT ov) (by first|rfl|simp[Act.eval,Act.put]) (dD bP.out (λk h=>(ak _ _ _ (by have h1:=(aA.out k h).2;omega)).trans (G.out.block k (by have h1:=(aA.out k h).2;omega) (by intro e;cases e)))) ⟨Y.heap.size,0,none⟩ 1 1 [.int .i64 0,.int .i64 0] (by first|rfl|simp[Act.eval,Act.put]) rfl (by intro j u hj;match j,hj with|0,hj=>(simp at hj;subst hj;simp[Addr.add,go_sem])|1,hj=>(simp at hj;subst hj;simp[Addr.add,go_sem])) (by simp[Value.oneCell']) (by unfold maxLen;omega) (by omega) (by decide) ?_;intro v' Z ho hg aE;obtain⟨ob,H,rfl⟩:=dM ho (by omega);have b7:=az ho;have aW:Hid (jE w1.heap.size (.slice ao no co) (.slice (some ⟨ob,0,none⟩) (no+1) H)):=pB aE (by have h1:=G.out.size;simp;omega);have a4:Hid (w1.grownBy Z (Value.slice ao no co).ownBlock):=⟨hg.os.trans G.out.os,hg.tape.trans G.out.tape,hg.output.trans G.out.output,by(have h1:=hg.size;have h2:=G.out.size;simp at h1;omega),λx hx hn=>(hg.block x (by(have:=G.out.size;simp;omega)) hn).trans ((ak _ _ _ (by have:=G.out.size;omega)).trans (G.out.block x hx (by intro e;cases e)))⟩;have aH:=az (aF.out.block (a4.out.block eb aL (λe=>(aA.out eb e.symm).1 rfl)));obtain⟨cP,d7⟩:=aH.out.cells 30 (by omega);have bY:=(aw (a:=⟨w.heap.size,0,none⟩) (a4.out.block w.heap.size b5 (λe=>by have:=(aA.out _ e.symm).2;omega))).trans b0;clear ho hg aE)|(go_simp;go_at_call 61;refine(fH 0 w1.drew).mono ?_;rintro e Y ⟨rfl,a6⟩;have G:Hid (w1.grownBy Y none):=(by subst a6;exact au (bq (ax _ _)) _);obtain⟨bZ,_⟩:=bh G.out (a:=⟨eb,30,none⟩) aL;rw[aG]at bZ;obtain⟨bY,_⟩:=bh G.out (a:=⟨w.heap.size,0,none⟩) b5;rw[b0]at bY;have bU:eb<Y.heap.size:=(by have:=G.out.size;omega);have bX:w.heap.size<Y.heap.size:=(by have:=G.out.size;omega);clear a6;simp only[]))
  all_goals
   go_wp2_with fail
   go_meet
   case rel=>exact⟨_,H,Z,rfl,b7,a4,aW⟩
 case rest=>
  obtain⟨ob,H,w2,rfl,b3,a7,bG⟩:=hcut;have aN:=az (aF.out.block (a7.out.block eb aL (λe=>(aA.out eb e.symm).1 rfl)));have bH:=a7.out.size;have bO:=a8.out.size;have a1:∀k,k<w1.heap.size->(Value.slice ao no co).ownBlock≠some k->w2.heap[k]? = w1.heap[k]?:=λk W hn=>a7.out.block k W (λe=>hn e.symm);have c3:Hid (dy (λk=>k=eb\/(Value.slice ao no co).ownBlock=some k\/(Value.slice al i cl).ownBlock=some k) w w2):=(dU a8.out).trans (S1:=λk=>(Value.slice ao no co).ownBlock=some k) ⟨a7.out.os,a7.out.tape,a7.out.output,a7.out.size,λk W hn=>a1 k W hn⟩ (λk h _=>ab (ag h));have aY:Hid (w2.ownsRow 0 155 1 (.slice al i cl) i lv):=dD HL.out (λk h=>(a1 k (by have:=(b8.out k h).2;omega) (λe=>cD.out k e h)).trans (a8.out.block k (b8.out k h).2 (by intro e;cases e)));have aR:∀k,w.heap.size<=k->(Value.slice ao no co).ownBlock≠some k:=λk W e=>by have:=(aA.out k e).2;omega
  generalize a6:w2.setCell ⟨eb,30,none⟩ (.slice ob (no+1) H)=Y at *;have cF:Y.heap.size=w2.heap.size:=by rw[<-a6];simp[World.setCell]
  have aB:∀k,k≠eb->Y.heap[k]? = w2.heap[k]?:=λk W=>by rw[<-a6];exact af _ _ _ _ W
  have aO:Hid (Full Y eb 144 44 44 (ep E 30 (.slice ob (no+1) H))):=by show Full _ _ _ _ _ _;rw[<-a6];exact aN.out.ep 30 _
  have bJ:Hid (dy (λk=>k=eb\/(Value.slice ao no co).ownBlock=some k\/(Value.slice al i cl).ownBlock=some k) w Y):=by show dy _ _ _;rw[<-a6];exact bm c3.out (ag (ag rfl)) _
  have b2:=az (dD b3.out (λk h=>aB k (eL b3.out aN.out (by decide) k h)));have b4:=az (dD aY.out (λk h=>aB k (eL aY.out aN.out (by decide) k h)));have bQ:=az (pB bG.out bO);have cN:=bR.out;have y0:=((aB w.heap.size (by omega)).trans (a1 w.heap.size (by omega) (aR _ (bj _)))).trans HX.out.1;have y1:=((aB (w.heap.size+1) (by omega)).trans (a1 (w.heap.size+1) (by omega) (aR _ (by omega)))).trans HX.out.2.1;have y2:=((aB (w.heap.size+1+1) (by omega)).trans (a1 (w.heap.size+1+1) (by omega) (aR _ (by omega)))).trans HX.out.2.2;have HY:=az (ay y0 (ay y1 y2));have b0:Y.cell? ⟨w.heap.size,0,none⟩=some (P0 eb):=by simp[World.cell?,y0]
  have bX:=bz y0;have bU:=aO.out.lt;have aP:=aO.out.cell 30 (by omega);rw[gf]at aP;have aT:w.heap.size+1+1+1<=Y.heap.size:=by omega
  clear a6 aB y0 y1 y2 aG cH cF bH aF aN a7 b3 HX b5 aL a8 bR a1 aY aR bG cN c3 bP bO;go_wp2_with fail
  generalize aI:(Y.alloc (.cells #[.int .i64 ((no:Int)+1),.slice none 0 0,.bool false,.pointer none,.nilFunc,.int .i64 0,.slice none 0 0] 160)).alloc (.cells #[.pointer (some ⟨Y.heap.size,0,none⟩)] 155)=w4;have J:Hid (Y.grownBy w4 none):=by rw[<-aI];exact au (ah _ _ _) _
  have c5:w4.heap[Y.heap.size]? = some (IN ((no:Int)+1)):=by rw[<-aI,ak _ _ _ (by simp)];exact bf _ _
  have aQ:w4.heap[Y.heap.size+1]? = some (.cells #[.pointer (some ⟨Y.heap.size,0,none⟩)] 155 (0,0)):=by
   rw[<-aI];have:=bf (Y.alloc (.cells #[.int .i64 ((no:Int)+1),.slice none 0 0,.bool false,.pointer none,.nilFunc,.int .i64 0,.slice none 0 0] 160)) (.cells #[.pointer (some ⟨Y.heap.size,0,none⟩)] 155);simpa using this
  have bI:w4.heap.size=Y.heap.size+1+1:=by rw[<-aI];simp
  clear aI;generalize cA:Y.heap.size=tb at *;have aX:=az (ay c5 aQ);have aD:=az (aO.out.block (J.out.block eb (by omega) (by intro e;cases e)));have aS:=az (dD b2.out (λk h=>J.out.block k (dA b2.out k h).2.1 (by intro e;cases e)));have aK:=az (dD b4.out (λk h=>J.out.block k (dA b4.out k h).2.1 (by intro e;cases e)));have bV:=az (bJ.out.gR J.out);have aC:=az (ay (dp J.out HY.out.1) (ay (dp J.out HY.out.2.1) (dp J.out HY.out.2.2)));have bC:w4.cell? ⟨w.heap.size,0,none⟩=some (P0 eb):=by simp[World.cell?,aC.out.1]
  have cR:w4.cell? ⟨tb+1,0,none⟩=some (P0 tb):=by simp[World.cell?,aQ]
  have c7:=bz aC.out.1;obtain⟨bK,cQ⟩:=aD.out.cells 29 (by omega);rw[eG _ _ _ _ (by omega),HF.out.2]at bK;have aV:=aD.out.lt;have cK:=az (ay bI (ay cA aT));clear c5 aQ b0 bX bU aP J b2 aO HY bI cA hi bM bD bW i0 b4 bJ aT;obtain⟨j0,hj,cB,c6,bT⟩:=info_parts Tryz.rA;have a5:=az b8.out;go_cut [] from 27 to 36 (λwx=>∃(lb:Option Addr) (a0:Nat) (w5:World),wx=w5.setCell ⟨eb,29,none⟩ (.slice lb (i+1) a0)/\Hid (w5.ownsRow 0 155 1 (.slice lb (i+1) a0) (i+1) (lv++[P0 tb]))/\Hid (w4.grownBy w5 (Value.slice al i cl).ownBlock)/\Hid (jE w4.heap.size (.slice al i cl) (.slice lb (i+1) a0)))
  case first=>
   go_region_law (refine eS _ rfl (.tmp 31) (.tmp 33) 136 rfl 155 j0 _ 1 8 underlying136 hj cB c6 bT rfl (by decide) al i cl lv (by first|rfl|simp[Act.eval,Act.put]) (dD aK.out (λk h=>ak _ _ _ (by have h1:=(dA aK.out k h).2.1;omega))) ⟨w4.heap.size,0,none⟩ 1 1 [P0 tb] (by first|rfl|simp[Act.eval,Act.put]) rfl (by intro j u hj;match j,hj with|0,hj=>(simp at hj;subst hj;simp[Addr.add,go_sem])) (by simp[Value.oneCell']) (by unfold maxLen;omega) (by omega) (by decide) ?_;intro v' Z ho hg aE;obtain⟨lb,a0,rfl⟩:=dM ho (by omega);have b7:=az ho;have aW:Hid (jE w4.heap.size (.slice al i cl) (.slice (some ⟨lb,0,none⟩) (i+1) a0)):=pB aE (by simp);have a4:Hid (w4.grownBy Z (Value.slice al i cl).ownBlock):=⟨hg.os,hg.tape,hg.output,by(have h1:=hg.size;simp at h1;omega),λx hx hn=>(hg.block x (by simp;omega) hn).trans (ak _ _ _ hx)⟩;have aH:=az (aD.out.block (a4.out.block eb aV (λe=>(a5.out eb e.symm).1 rfl)));obtain⟨cC,d9⟩:=aH.out.cells 29 (by omega);have d2:=(aw (a:=⟨w.heap.size,0,none⟩) (a4.out.block w.heap.size c7 (λe=>by have:=(a5.out _ e.symm).2;omega))).trans bC;clear ho hg aE)
   all_goals
    go_wp2_with fail
    go_meet
    case rel=>exact⟨_,a0,Z,rfl,b7,a4,aW⟩
  case rest=>
   obtain⟨lb,a0,w5,rfl,bA,a3,b9⟩:=hcut;have bB:=az (aD.out.block (a3.out.block eb aV (λe=>(a5.out eb e.symm).1 rfl)));have bE:=cK.out;generalize aM:w5.setCell ⟨eb,29,none⟩ (.slice lb (i+1) a0)=Z at *;have b6:∀k,k≠eb->Z.heap[k]? = w5.heap[k]?:=λk W=>by rw[<-aM];exact af _ _ _ _ W
   have a9:∀{k:Nat} {o:Obj},w4.heap[k]? = some o->k≠eb->(Value.slice al i cl).ownBlock≠some k->Z.heap[k]? = some o:=λW h1 h2=>((b6 _ h1).trans (a3.out.block _ (bz W) (λe=>h2 e.symm))).trans W;have a2:∀k,w.heap.size<=k->(Value.slice al i cl).ownBlock≠some k:=λk W e=>by have:=(a5.out k e).2;omega
   have HB:Hid (Ix w Z eb tb w.heap.size (tb+1) no i (.slice ao no co) (.slice al i cl) ov lv E ob lb H a0):=by
    refine⟨?_,?_,bQ.out,?_,pB b9.out (by omega),?_,?_,?_,?_,⟨by omega,bj _,by omega⟩,?_⟩
    .rw[<-aM];exact bB.out.ep 29 _
    .refine dD aS.out (λk h=>?_);obtain⟨_,l4,dB,hc⟩:=dA aS.out k h;rw[hc];refine a9 hc (eL aS.out aD.out (by decide) k h) (λe=>?_);obtain⟨_,_,c2,e2⟩:=dA aK.out k e;rw[hc]at e2;injection e2 with e2;injection e2 with _ e2 _;exact ch e2 (by decide)
    .exact dD bA.out (λk h=>b6 k (eL bA.out bB.out (by decide) k h))
    .intro k W;rcases b9.out with e|⟨g',e,dE⟩
     .rw[W]at e;have:=(a5.out k e.symm).2;omega
     rw[W]at e;injection e with e;omega
    .exact a9 aX.out.1 (by omega) (a2 _ (by omega))
    .exact a9 aX.out.2 (by omega) (a2 _ (by omega))
    .exact a9 aC.out.1 (by omega) (a2 _ (bj _))
    rw[<-aM];refine bm (bV.out.trans (S1:=λk=>(Value.slice al i cl).ownBlock=some k) ⟨a3.out.os,a3.out.tape,a3.out.output,a3.out.size,λk W hn=>a3.out.block k W (λe=>hn e.symm)⟩ (λk h _=>ab (ab h))) (ag (ag rfl)) _
   have q1:=a9 aC.out.2.1 (by omega) (a2 _ (by omega));have q2:=a9 aC.out.2.2 (by omega) (a2 _ (by omega));have p0:Z.cell? ⟨w.heap.size,0,none⟩=some (P0 eb):=by have:=HB.out.y;simp[World.cell?,this]
   have p1:Z.cell? ⟨tb+1,0,none⟩=some (P0 tb):=by have:=HB.out.x;simp[World.cell?,this]
   have p2:Z.cell? ⟨w.heap.size+1,0,none⟩=some (.int .i64 (u.1:Int)):=by simp[World.cell?,q1]
   have p3:Z.cell? ⟨w.heap.size+1,1,none⟩=some (.int .i64 u.2):=by simp[World.cell?,q1]
   have p4:Z.cell? ⟨w.heap.size+1+1,0,none⟩=some (.int .i64 (v.1:Int)):=by simp[World.cell?,q2]
   have p5:Z.cell? ⟨w.heap.size+1+1,1,none⟩=some (.int .i64 v.2):=by simp[World.cell?,q2]
   clear aM b6 a9 bC cR c7 bK cQ aV aS bA aD bB a3 aX aC hj cB c6 bT j0 aK bV bE b9 bQ a2 q1 q2;go_wp2_with fail
   refine(cV.out Z tb w.heap.size (tb+1) ob lb H a0 HB.out).mono ?_;rintro e w7 ⟨rfl,bF,aJ,b1,d4⟩;have q0:w7.cell? ⟨w.heap.size,0,none⟩=some (P0 eb):=by simp[World.cell?,b1]
   have q1:w7.cell? ⟨tb+1,0,none⟩=some (P0 tb):=by simp[World.cell?,aJ]
   have cM:=az bF;clear bF aJ b1 p0 p1 p2 p3 p4 p5;go_wp2_with fail
   go_region_with (go_at_call 110;refine(cO.out tb (tb+1) w7 w7.drew cM.out (bq (ax _ _))).mono ?_;rintro e w8 ⟨rfl,bL,t0,aZ⟩;have cG:=az bL;have r1:w8.cell? ⟨tb+1,0,none⟩=some (P0 tb):=(by simp[World.cell?,aZ]);clear bL aZ)
   all_goals
    go_wp2_with fail
    go_ret;exact⟨rfl,cG.out⟩
theorem A6(op a b c fb tb eb vbx : Nat) (S : Int → Bool → World → Prop) (R : World → Prop) (w : World) (hv : w.cell? ⟨vbx, 0, none⟩ = some (Fv 100 #[]))
    (H1 : ∀ w1, w.grownBy w1 none → w1.heap[w.heap.size]? = some (lZ op a b c fb tb eb) → Calls prog 100 #[dZ op a b c fb tb eb] w1 fun e w2 => ∃ (x : Int) (o : Bool), e = .returned (.tuple #[.agg #[.int .i64 x, .int .i64 0], .bool o]) ∧ S x o w2 ∧ w2.heap[w.heap.size]? = some (lZ op a b c fb tb eb))
    (H2 : ∀ x w2 w3, S x true w2 → w2.grownBy w3 none → Calls prog 149 #[dZ op a b c fb tb eb, .agg #[.int .i64 x, .int .i64 0]] w3 fun e w' => e = .returned (.tuple #[]) ∧ R w')
    (H3 : ∀ x w2 w3, S x false w2 → w2.grownBy w3 none → Calls prog 156 #[P0 eb, P0 tb] w3 fun e w' => e = .returned (.tuple #[]) ∧ R w') :
    Calls prog 155 #[dZ op a b c fb tb eb, P0 vbx] w fun e w' => e = .returned (.tuple #[]) ∧ R w' := by
  have HH1 := az H1
  have HH2 := az H2
  have HH3 := az H3
  have lv := gW hv
  go_in
  go_wp2_with fail
  have KG1 := az (ah w (.cells #[.int .u8 (op : Int), .int .u8 (a : Int), .int .u8 (b : Int), .int .u8 (c : Int), P0 fb, P0 tb, P0 eb] 186) none)
  have HX1 := az (jf w op a b c fb tb eb)
  generalize hW : w.alloc (.cells #[.int .u8 (op : Int), .int .u8 (a : Int), .int .u8 (b : Int), .int .u8 (c : Int), P0 fb, P0 tb, P0 eb] 186) = w1 at *
  refine (HH1.out w1 KG1.out HX1.out).mono ?_
  rintro e w2 ⟨x, o, rfl, hS2, hX2⟩
  have HS2 := az hS2
  have HX2 := az hX2
  obtain ⟨x0, x1, x2, x3, x4, x5, x6⟩ := fk HX2.out
  have lx := bz HX2.out
  cases o with
  | true =>
    go_wp2_with fail
    refine (HH2.out x w2 _ HS2.out (ah _ _ _)).mono ?_
    rintro e w3 ⟨rfl, hR3⟩
    have HR3 := az hR3
    go_wp2_with fail
    go_end0
    exact ⟨rfl, HR3.out⟩
  | false =>
    go_wp2_with fail
    first
      | (refine (HH3.out x w2 _ HS2.out (ah _ _ _)).mono ?_
         rintro e w3 ⟨rfl, hR3⟩
         have HR3 := az hR3
         go_wp2_with fail
         go_end0
         exact ⟨rfl, HR3.out⟩)
      | trace_state
theorem uJ(op a b c fb tb eb vbx wb : Nat) (R : World → Prop) (w : World) (hw : w.cell? ⟨wb, 0, none⟩ = some (Fv 155 #[P0 vbx]))
    (H : ∀ w1, w.grownBy w1 none → Calls prog 155 #[dZ op a b c fb tb eb, P0 vbx] w1 fun e w' => e = .returned (.tuple #[]) ∧ R w') :
    Calls prog 163 #[dZ op a b c fb tb eb, P0 wb] w fun e w' => e = .returned (.int .i64 0) ∧ R w' := by
  have HH := az H
  have lw := gW hw
  go_in
  go_wp2_with fail
  first
    | (refine (HH.out _ (ah _ _ _)).mono ?_
       rintro e w2 ⟨rfl, hR2⟩
       have HR2 := az hR2
       go_wp2_with fail
       go_ret
       exact ⟨rfl, HR2.out⟩)
    | trace_state
theorem A5(op a b c fb tb eb vbx : Nat) (S : Int → Bool → World → Prop) (R : World → Prop) (w : World) (hv : w.cell? ⟨vbx, 0, none⟩ = some (Fv 103 #[]))
    (H1 : ∀ w1, w.grownBy w1 none → w1.heap[w.heap.size]? = some (lZ op a b c fb tb eb) → Calls prog 103 #[dZ op a b c fb tb eb] w1 fun e w2 => ∃ (x : Int) (o : Bool), e = .returned (.tuple #[.agg #[.int .i64 x, .int .i64 0], .bool o]) ∧ S x o w2 ∧ w2.heap[w.heap.size]? = some (lZ op a b c fb tb eb))
    (H2 : ∀ x w2 w3, S x true w2 → w2.grownBy w3 none → Calls prog 149 #[dZ op a b c fb tb eb, .agg #[.int .i64 x, .int .i64 0]] w3 fun e w' => e = .returned (.tuple #[]) ∧ R w')
    (H3 : ∀ x w2 w3, S x false w2 → w2.grownBy w3 none → Calls prog 156 #[P0 eb, P0 tb] w3 fun e w' => e = .returned (.tuple #[]) ∧ R w') :
    Calls prog 155 #[dZ op a b c fb tb eb, P0 vbx] w fun e w' => e = .returned (.tuple #[]) ∧ R w' := by
  have HH1 := az H1
  have HH2 := az H2
  have HH3 := az H3
  have lv := gW hv
  go_in
  go_wp2_with fail
  have KG1 := az (ah w (.cells #[.int .u8 (op : Int), .int .u8 (a : Int), .int .u8 (b : Int), .int .u8 (c : Int), P0 fb, P0 tb, P0 eb] 186) none)
  have HX1 := az (jf w op a b c fb tb eb)
  generalize hW : w.alloc (.cells #[.int .u8 (op : Int), .int .u8 (a : Int), .int .u8 (b : Int), .int .u8 (c : Int), P0 fb, P0 tb, P0 eb] 186) = w1 at *
  refine (HH1.out w1 KG1.out HX1.out).mono ?_
  rintro e w2 ⟨x, o, rfl, hS2, hX2⟩
  have HS2 := az hS2
  have HX2 := az hX2
  obtain ⟨x0, x1, x2, x3, x4, x5, x6⟩ := fk HX2.out
  have lx := bz HX2.out
  cases o with
  | true =>
    go_wp2_with fail
    refine (HH2.out x w2 _ HS2.out (ah _ _ _)).mono ?_
    rintro e w3 ⟨rfl, hR3⟩
    have HR3 := az hR3
    go_wp2_with fail
    go_end0
    exact ⟨rfl, HR3.out⟩
  | false =>
    go_wp2_with fail
    first
      | (refine (HH3.out x w2 _ HS2.out (ah _ _ _)).mono ?_
         rintro e w3 ⟨rfl, hR3⟩
         have HR3 := az hR3
         go_wp2_with fail
         go_end0
         exact ⟨rfl, HR3.out⟩)
      | trace_state
