import Derived.Test.YtnjiinbhbjpfkaaGreatDoorKF
import Derived.Test.YtnjiinbhbjpfkaaGreatDoorKJ
set_option maxRecDepth 100000
set_option maxHeartbeats 0
set_option linter.all false
namespace Go.Proofs.YtnjiinbhbjpfkaaGreatDoor
open Go.RowKit Go.Proofs.Tryz
section
def IN(n:Int):Obj:=.cells #[.int .i64 n,.slice none 0 0,.bool false,.pointer none,.nilFunc,.int .i64 0,.slice none 0 0] 160 (0,0)
structure Ix(w w6:World) (eb tb xe xt no nl:Nat) (vo vl:Value) (ov:List B.V) (lv:List Value) (E:Nat->Value) (a30 a29:Option Addr) (c30 c29:Nat):Prop where
 e:Full w6 eb 144 44 44 (ep (ep E 30 (.slice a30 (no+1) c30)) 29 (.slice a29 (nl+1) c29))
 o:w6.ownsRow 0 149 2 (.slice a30 (no+1) c30) (no+1) (fT ov++[.int .i64 0,.int .i64 0])
 o2:jE w.heap.size vo (.slice a30 (no+1) c30)
 l:w6.ownsRow 0 155 1 (.slice a29 (nl+1) c29) (nl+1) (lv++[P0 tb])
 l2:jE w.heap.size vl (.slice a29 (nl+1) c29)
 l3:∀k,(Value.slice a29 (nl+1) c29).ownBlock=some k->k≠xt
 t:w6.heap[tb]? = some (IN ((no:Int)+1))
 x:w6.heap[xt]? = some (.cells #[P0 tb] 155 (0,0))
 y:w6.heap[xe]? = some (.cells #[P0 eb] 95 (0,0))
 n:w.heap.size<=tb/\w.heap.size<=xe/\w.heap.size<=xt
 s:dy (λk=>k=eb\/vo.ownBlock=some k\/vl.ownBlock=some k) w w6
theorem pB{a b:Nat}{v e:Value}(h:jE b v e)(i:a<=b):jE a v e:=h.imp id (λ⟨g,o,u⟩=>⟨g,o,by omega⟩)
theorem Il(eb f no i co cl num:Nat)(ao al:Option Addr)(u v:B.V)(ov:List B.V)(lv:List Value)(E:Nat->Value)(S:Nat->Nat->World->Prop)(R:World->Prop)(w:World)(hE:Full w eb 144 44 44 E)(c4:E 30=.slice ao no co)(bN:E 29=.slice al i cl)(ho:w.ownsRow 0 149 2 (.slice ao no co) no (fT ov))(hl:w.ownsRow 0 155 1 (.slice al i cl) i lv)(dG:no<=900000000)(d5:i<=900000000)(HE:∀Z tb xe xt cY cT aP aG,Ix w Z eb tb xe xt no i (.slice ao no co) (.slice al i cl) ov lv E cY cT aP aG->Calls prog 119 #[P0 eb,P0 tb,.int .i64 f,vA u,vA v,Fv 120 #[P0 xe,P0 xt]] Z λe w7=>e=.returned (.tuple #[])/\S tb xt w7/\w7.heap[xt]? = some (.cells #[P0 tb] 155 (0,0))/\w7.heap[xe]? = some (.cells #[P0 eb] 95 (0,0))/\eb<w7.heap.size)(HJ:∀tb xt w7 w8,S tb xt w7->w7.grownBy w8 none->Calls prog 110 #[Pt eb 32,P0 tb] w8 λe w9=>e=.returned (.tuple #[])/\R w9/\w9.cell? ⟨tb,0,none⟩=some (.int .i64 num)/\w9.heap[xt]? = some (.cells #[P0 tb] 155 (0,0))): Calls prog 60 #[P0 eb,.int .i64 f,vA u,vA v] w λe w'=>e=.returned (.int .i64 num)/\R w':=by
 have le:=hE.lt;have KE:=az hE;have HF:=az (ay c4 bN);have HO:=az ho;have HL:=az hl;have cV:=az HE;have cO:=az HJ;have bS:∀k,(Value.slice ao no co).ownBlock=some k->k≠eb/\k<w.heap.size:=λk W=>⟨eL ho hE (by decide) k W,(dA ho k W).2.1⟩;have c8:∀k,(Value.slice al i cl).ownBlock=some k->k≠eb/\k<w.heap.size:=λk W=>⟨eL hl hE (by decide) k W,(dA hl k W).2.1⟩;have aA:=az bS;have b8:=az c8;have cD:Hid (∀k,(Value.slice ao no co).ownBlock=some k->(Value.slice al i cl).ownBlock≠some k):=λk W cX=>by
  obtain⟨_,_,c1,e1⟩:=dA ho k W;obtain⟨_,_,c2,e2⟩:=dA hl k cX;rw[e1]at e2;injection e2 with e2;injection e2 with _ e2 _;exact ch e2 (by decide)
 clear hE c4 bN ho hl HE HJ bS c8;obtain⟨i0,hi,bM,bD,bW⟩:=info_parts Tryz.rE;go_in;go_wp2_with fail
 generalize hW:((w.alloc (.cells #[P0 eb] 95)).alloc (.cells #[.int .i64 (u.1:Int),.int .i64 u.2] 149)).alloc (.cells #[.int .i64 (v.1:Int),.int .i64 v.2] 149)=w1;have aU:w1.heap.size=w.heap.size+1+1+1:=by rw[<-hW];simp
 have a8:Hid (w.grownBy w1 none):=by rw[<-hW];repeat (first|exact ax _ _|refine au ?_ _)
 have x0:w1.heap[w.heap.size]? = some (.cells #[P0 eb] 95 (0,0)):=by rw[<-hW,ak _ _ _ (by simp;omega),ak _ _ _ (by simp)];exact bf _ _
 have x1:w1.heap[w.heap.size+1]? = some (.cells #[.int .i64 (u.1:Int),.int .i64 u.2] 149 (0,0)):=by
  rw[<-hW,ak _ _ _ (by simp)];have:=bf (w.alloc (.cells #[P0 eb] 95)) (.cells #[.int .i64 (u.1:Int),.int .i64 u.2] 149);simpa using this
 have x2:w1.heap[w.heap.size+1+1]? = some (.cells #[.int .i64 (v.1:Int),.int .i64 v.2] 149 (0,0)):=by
  rw[<-hW];have:=bf ((w.alloc (.cells #[P0 eb] 95)).alloc (.cells #[.int .i64 (u.1:Int),.int .i64 u.2] 149)) (.cells #[.int .i64 (v.1:Int),.int .i64 v.2] 149);simpa using this
 clear hW;have HX:=az (ay x0 (ay x1 x2));have b0:w1.cell? ⟨w.heap.size,0,none⟩=some (P0 eb):=by simp[World.cell?,x0]
 have aF:=az (KE.out.block (a8.out.block eb le (by intro e;cases e)));have bP:=az (dD HO.out (λk h=>a8.out.block k (aA.out k h).2 (by intro e;cases e)));obtain⟨aG,cH⟩:=aF.out.cells 30 (by omega);rw[HF.out.1]at aG;have aL:=aF.out.lt;have b5:w.heap.size<w1.heap.size:=by omega
 have bR:=az aU;clear aU x0 x1 x2;go_cut [] from 10 to 19 (λwx=>∃(ob:Option Addr) (H:Nat) (w2:World),wx=w2.setCell ⟨eb,30,none⟩ (.slice ob (no+1) H)/\Hid (w2.ownsRow 0 149 2 (.slice ob (no+1) H) (no+1) (fT ov++[.int .i64 0,.int .i64 0]))/\Hid (w1.grownBy w2 (Value.slice ao no co).ownBlock)/\Hid (jE w1.heap.size (.slice ao no co) (.slice ob (no+1) H)))
 case first=>
  go_region_law (first|(refine eS _ rfl (.tmp 14) (.tmp 16) 137 rfl 149 i0 _ 2 16 underlying137 hi bM bD bW rfl (by decide) ao no co (fT ov) (by first|rfl|simp[Act.eval,Act.put]) (dD bP.out (λk h=>(ak _ _ _ (by have h1:=(aA.out k h).2;omega)).trans (G.out.block k (by have h1:=(aA.out k h).2;omega) (by intro e;cases e)))) ⟨Y.heap.size,0,none⟩ 1 1 [.int .i64 0,.int .i64 0] (by first|rfl|simp[Act.eval,Act.put]) rfl (by intro j u hj;match j,hj with|0,hj=>(simp at hj;subst hj;simp[Addr.add,go_sem])|1,hj=>(simp at hj;subst hj;simp[Addr.add,go_sem])) (by simp[Value.oneCell']) (by unfold maxLen;omega) (by omega) (by decide) ?_;intro v' Z ho hg aE;obtain⟨ob,H,rfl⟩:=dM ho (by omega);have b7:=az ho;have aW:Hid (jE w1.heap.size (.slice ao no co) (.slice (some ⟨ob,0,none⟩) (no+1) H)):=pB aE (by have h1:=G.out.size;simp;omega);have a4:Hid (w1.grownBy Z (Value.slice ao no co).ownBlock):=⟨hg.os.trans G.out.os,hg.tape.trans G.out.tape,hg.output.trans G.out.output,by(have h1:=hg.size;have h2:=G.out.size;simp at h1;omega),λx hx hn=>(hg.block x (by(have:=G.out.size;simp;omega)) hn).trans ((ak _ _ _ (by have:=G.out.size;omega)).trans (G.out.block x hx (by intro e;cases e)))⟩;have aH:=az (aF.out.block (a4.out.block eb aL (λe=>(aA.out eb e.symm).1 rfl)));obtain⟨cP,d7⟩:=aH.out.cells 30 (by omega);have bY:=(aw (a:=⟨w.heap.size,0,none⟩) (a4.out.block w.heap.size b5 (λe=>by have:=(aA.out _ e.symm).2;omega))).trans b0;clear ho hg aE)|(go_simp;go_at_call 61;refine(fH 0 w1.drew).mono ?_;rintro e Y ⟨rfl,a6⟩;have G:Hid (w1.grownBy Y none):=(by subst a6;exact au (bq (ax _ _)) _);obtain⟨bZ,_⟩:=bh G.out (a:=⟨eb,30,none⟩) aL;rw[aG]at bZ;obtain⟨bY,_⟩:=bh G.out (a:=⟨w.heap.size,0,none⟩) b5;rw[b0]at bY;have bU:eb<Y.heap.size:=(by have:=G.out.size;omega);have bX:w.heap.size<Y.heap.size:=(by have:=G.out.size;omega);clear a6;simp only[]))
  all_goals
   go_wp2_with fail
   go_meet
   case rel=>exact⟨_,H,Z,rfl,b7,a4,aW⟩
 case rest=>
  obtain⟨ob,H,w2,rfl,b3,a7,bG⟩:=hcut;have aN:=az (aF.out.block (a7.out.block eb aL (λe=>(aA.out eb e.symm).1 rfl)));have bH:=a7.out.size;have bO:=a8.out.size;have a1:∀k,k<w1.heap.size->(Value.slice ao no co).ownBlock≠some k->w2.heap[k]? = w1.heap[k]?:=λk W hn=>a7.out.block k W (λe=>hn e.symm);have c3:Hid (dy (λk=>k=eb\/(Value.slice ao no co).ownBlock=some k\/(Value.slice al i cl).ownBlock=some k) w w2):=(dU a8.out).trans (S1:=λk=>(Value.slice ao no co).ownBlock=some k) ⟨a7.out.os,a7.out.tape,a7.out.output,a7.out.size,λk W hn=>a1 k W hn⟩ (λk h _=>ab (ag h));have aY:Hid (w2.ownsRow 0 155 1 (.slice al i cl) i lv):=dD HL.out (λk h=>(a1 k (by have:=(b8.out k h).2;omega) (λe=>cD.out k e h)).trans (a8.out.block k (b8.out k h).2 (by intro e;cases e)));have aR:∀k,w.heap.size<=k->(Value.slice ao no co).ownBlock≠some k:=λk W e=>by have:=(aA.out k e).2;omega
  generalize a6:w2.setCell ⟨eb,30,none⟩ (.slice ob (no+1) H)=Y at *;have cF:Y.heap.size=w2.heap.size:=by rw[<-a6];simp[World.setCell]
  have aB:∀k,k≠eb->Y.heap[k]? = w2.heap[k]?:=λk W=>by rw[<-a6];exact af _ _ _ _ W
  have aO:Hid (Full Y eb 144 44 44 (ep E 30 (.slice ob (no+1) H))):=by show Full _ _ _ _ _ _;rw[<-a6];exact aN.out.ep 30 _
  have bJ:Hid (dy (λk=>k=eb\/(Value.slice ao no co).ownBlock=some k\/(Value.slice al i cl).ownBlock=some k) w Y):=by show dy _ _ _;rw[<-a6];exact bm c3.out (ag (ag rfl)) _
  have b2:=az (dD b3.out (λk h=>aB k (eL b3.out aN.out (by decide) k h)));have b4:=az (dD aY.out (λk h=>aB k (eL aY.out aN.out (by decide) k h)));have bQ:=az (pB bG.out bO);have cN:=bR.out;have y0:=((aB w.heap.size (by omega)).trans (a1 w.heap.size (by omega) (aR _ (bj _)))).trans HX.out.1;have y1:=((aB (w.heap.size+1) (by omega)).trans (a1 (w.heap.size+1) (by omega) (aR _ (by omega)))).trans HX.out.2.1;have y2:=((aB (w.heap.size+1+1) (by omega)).trans (a1 (w.heap.size+1+1) (by omega) (aR _ (by omega)))).trans HX.out.2.2;have HY:=az (ay y0 (ay y1 y2));have b0:Y.cell? ⟨w.heap.size,0,none⟩=some (P0 eb):=by simp[World.cell?,y0]
  have bX:=bz y0;have bU:=aO.out.lt;have aP:=aO.out.cell 30 (by omega);rw[gf]at aP;have aT:w.heap.size+1+1+1<=Y.heap.size:=by omega
  clear a6 aB y0 y1 y2 aG cH cF bH aF aN a7 b3 HX b5 aL a8 bR a1 aY aR bG cN c3 bP bO;go_wp2_with fail
  generalize aI:(Y.alloc (.cells #[.int .i64 ((no:Int)+1),.slice none 0 0,.bool false,.pointer none,.nilFunc,.int .i64 0,.slice none 0 0] 160)).alloc (.cells #[.pointer (some ⟨Y.heap.size,0,none⟩)] 155)=w4;have J:Hid (Y.grownBy w4 none):=by rw[<-aI];exact au (ah _ _ _) _
  have c5:w4.heap[Y.heap.size]? = some (IN ((no:Int)+1)):=by rw[<-aI,ak _ _ _ (by simp)];exact bf _ _
  have aQ:w4.heap[Y.heap.size+1]? = some (.cells #[.pointer (some ⟨Y.heap.size,0,none⟩)] 155 (0,0)):=by
   rw[<-aI];have:=bf (Y.alloc (.cells #[.int .i64 ((no:Int)+1),.slice none 0 0,.bool false,.pointer none,.nilFunc,.int .i64 0,.slice none 0 0] 160)) (.cells #[.pointer (some ⟨Y.heap.size,0,none⟩)] 155);simpa using this
  have bI:w4.heap.size=Y.heap.size+1+1:=by rw[<-aI];simp
  clear aI;generalize cA:Y.heap.size=tb at *;have aX:=az (ay c5 aQ);have aD:=az (aO.out.block (J.out.block eb (by omega) (by intro e;cases e)));have aS:=az (dD b2.out (λk h=>J.out.block k (dA b2.out k h).2.1 (by intro e;cases e)));have aK:=az (dD b4.out (λk h=>J.out.block k (dA b4.out k h).2.1 (by intro e;cases e)));have bV:=az (bJ.out.gR J.out);have aC:=az (ay (dp J.out HY.out.1) (ay (dp J.out HY.out.2.1) (dp J.out HY.out.2.2)));have bC:w4.cell? ⟨w.heap.size,0,none⟩=some (P0 eb):=by simp[World.cell?,aC.out.1]
  have cR:w4.cell? ⟨tb+1,0,none⟩=some (P0 tb):=by simp[World.cell?,aQ]
  have c7:=bz aC.out.1;obtain⟨bK,cQ⟩:=aD.out.cells 29 (by omega);rw[eG _ _ _ _ (by omega),HF.out.2]at bK;have aV:=aD.out.lt;have cK:=az (ay bI (ay cA aT));clear c5 aQ b0 bX bU aP J b2 aO HY bI cA hi bM bD bW i0 b4 bJ aT;obtain⟨j0,hj,cB,c6,bT⟩:=info_parts Tryz.rA;have a5:=az b8.out;go_cut [] from 27 to 36 (λwx=>∃(lb:Option Addr) (a0:Nat) (w5:World),wx=w5.setCell ⟨eb,29,none⟩ (.slice lb (i+1) a0)/\Hid (w5.ownsRow 0 155 1 (.slice lb (i+1) a0) (i+1) (lv++[P0 tb]))/\Hid (w4.grownBy w5 (Value.slice al i cl).ownBlock)/\Hid (jE w4.heap.size (.slice al i cl) (.slice lb (i+1) a0)))
  case first=>
   go_region_law (refine eS _ rfl (.tmp 31) (.tmp 33) 136 rfl 155 j0 _ 1 8 underlying136 hj cB c6 bT rfl (by decide) al i cl lv (by first|rfl|simp[Act.eval,Act.put]) (dD aK.out (λk h=>ak _ _ _ (by have h1:=(dA aK.out k h).2.1;omega))) ⟨w4.heap.size,0,none⟩ 1 1 [P0 tb] (by first|rfl|simp[Act.eval,Act.put]) rfl (by intro j u hj;match j,hj with|0,hj=>(simp at hj;subst hj;simp[Addr.add,go_sem])) (by simp[Value.oneCell']) (by unfold maxLen;omega) (by omega) (by decide) ?_;intro v' Z ho hg aE;obtain⟨lb,a0,rfl⟩:=dM ho (by omega);have b7:=az ho;have aW:Hid (jE w4.heap.size (.slice al i cl) (.slice (some ⟨lb,0,none⟩) (i+1) a0)):=pB aE (by simp);have a4:Hid (w4.grownBy Z (Value.slice al i cl).ownBlock):=⟨hg.os,hg.tape,hg.output,by(have h1:=hg.size;simp at h1;omega),λx hx hn=>(hg.block x (by simp;omega) hn).trans (ak _ _ _ hx)⟩;have aH:=az (aD.out.block (a4.out.block eb aV (λe=>(a5.out eb e.symm).1 rfl)));obtain⟨cC,d9⟩:=aH.out.cells 29 (by omega);have d2:=(aw (a:=⟨w.heap.size,0,none⟩) (a4.out.block w.heap.size c7 (λe=>by have:=(a5.out _ e.symm).2;omega))).trans bC;clear ho hg aE)
   all_goals
    go_wp2_with fail
    go_meet
    case rel=>exact⟨_,a0,Z,rfl,b7,a4,aW⟩
  case rest=>
   obtain⟨lb,a0,w5,rfl,bA,a3,b9⟩:=hcut;have bB:=az (aD.out.block (a3.out.block eb aV (λe=>(a5.out eb e.symm).1 rfl)));have bE:=cK.out;generalize aM:w5.setCell ⟨eb,29,none⟩ (.slice lb (i+1) a0)=Z at *;have b6:∀k,k≠eb->Z.heap[k]? = w5.heap[k]?:=λk W=>by rw[<-aM];exact af _ _ _ _ W
   have a9:∀{k:Nat} {o:Obj},w4.heap[k]? = some o->k≠eb->(Value.slice al i cl).ownBlock≠some k->Z.heap[k]? = some o:=λW h1 h2=>((b6 _ h1).trans (a3.out.block _ (bz W) (λe=>h2 e.symm))).trans W;have a2:∀k,w.heap.size<=k->(Value.slice al i cl).ownBlock≠some k:=λk W e=>by have:=(a5.out k e).2;omega
   have HB:Hid (Ix w Z eb tb w.heap.size (tb+1) no i (.slice ao no co) (.slice al i cl) ov lv E ob lb H a0):=by
    refine⟨?_,?_,bQ.out,?_,pB b9.out (by omega),?_,?_,?_,?_,⟨by omega,bj _,by omega⟩,?_⟩
    .rw[<-aM];exact bB.out.ep 29 _
    .refine dD aS.out (λk h=>?_);obtain⟨_,l4,dB,hc⟩:=dA aS.out k h;rw[hc];refine a9 hc (eL aS.out aD.out (by decide) k h) (λe=>?_);obtain⟨_,_,c2,e2⟩:=dA aK.out k e;rw[hc]at e2;injection e2 with e2;injection e2 with _ e2 _;exact ch e2 (by decide)
    .exact dD bA.out (λk h=>b6 k (eL bA.out bB.out (by decide) k h))
    .intro k W;rcases b9.out with e|⟨g',e,dE⟩
     .rw[W]at e;have:=(a5.out k e.symm).2;omega
     rw[W]at e;injection e with e;omega
    .exact a9 aX.out.1 (by omega) (a2 _ (by omega))
    .exact a9 aX.out.2 (by omega) (a2 _ (by omega))
    .exact a9 aC.out.1 (by omega) (a2 _ (bj _))
    rw[<-aM];refine bm (bV.out.trans (S1:=λk=>(Value.slice al i cl).ownBlock=some k) ⟨a3.out.os,a3.out.tape,a3.out.output,a3.out.size,λk W hn=>a3.out.block k W (λe=>hn e.symm)⟩ (λk h _=>ab (ab h))) (ag (ag rfl)) _
   have q1:=a9 aC.out.2.1 (by omega) (a2 _ (by omega));have q2:=a9 aC.out.2.2 (by omega) (a2 _ (by omega));have p0:Z.cell? ⟨w.heap.size,0,none⟩=some (P0 eb):=by have:=HB.out.y;simp[World.cell?,this]
   have p1:Z.cell? ⟨tb+1,0,none⟩=some (P0 tb):=by have:=HB.out.x;simp[World.cell?,this]
   have p2:Z.cell? ⟨w.heap.size+1,0,none⟩=some (.int .i64 (u.1:Int)):=by simp[World.cell?,q1]
   have p3:Z.cell? ⟨w.heap.size+1,1,none⟩=some (.int .i64 u.2):=by simp[World.cell?,q1]
   have p4:Z.cell? ⟨w.heap.size+1+1,0,none⟩=some (.int .i64 (v.1:Int)):=by simp[World.cell?,q2]
   have p5:Z.cell? ⟨w.heap.size+1+1,1,none⟩=some (.int .i64 v.2):=by simp[World.cell?,q2]
   clear aM b6 a9 bC cR c7 bK cQ aV aS bA aD bB a3 aX aC hj cB c6 bT j0 aK bV bE b9 bQ a2 q1 q2;go_wp2_with fail
   refine(cV.out Z tb w.heap.size (tb+1) ob lb H a0 HB.out).mono ?_;rintro e w7 ⟨rfl,bF,aJ,b1,d4⟩;have q0:w7.cell? ⟨w.heap.size,0,none⟩=some (P0 eb):=by simp[World.cell?,b1]
   have q1:w7.cell? ⟨tb+1,0,none⟩=some (P0 tb):=by simp[World.cell?,aJ]
   have cM:=az bF;clear bF aJ b1 p0 p1 p2 p3 p4 p5;go_wp2_with fail
   go_region_with (go_at_call 110;refine(cO.out tb (tb+1) w7 w7.drew cM.out (bq (ax _ _))).mono ?_;rintro e w8 ⟨rfl,bL,t0,aZ⟩;have cG:=az bL;have r1:w8.cell? ⟨tb+1,0,none⟩=some (P0 tb):=(by simp[World.cell?,aZ]);clear bL aZ)
   all_goals
    go_wp2_with fail
    go_ret;exact⟨rfl,cG.out⟩
end
namespace F
def Laid(w w':World)(sb pb eb n nr t:Nat)(l:List B.V)(kd:B.Kd)(vb:Vs)(s:B.St)(v:Value):Prop:=
 (∃(k vg:Nat) (kd1:B.Kd),k<n/\kd1.on (k+1)=false/\B.iZ kd1 nr n s/\Gj nr n s kd kd1/\v=.tuple #[.agg #[.int .i64 ((k:Int)+1),.int .i64 0],.bool true]/\jm w' sb pb eb n (B.laid kd1 (k+1)) (vb.put (k+1) vg t) (B.lay s.2.2 (k+1) l)/\ox n kd vb (B.laid kd1 (k+1)) (vb.put (k+1) vg t) w.heap.size) \/
 (v=.tuple #[.agg #[.int .i64 0,.int .i64 0],.bool false]/\(∀p,1<=p->p<=n->B.Reach nr s p)/\∃kd1,jm w' sb pb eb n kd1 vb s.2.2/\B.iZ kd1 nr n s/\ox n kd vb kd1 vb w.heap.size)
theorem Laid.pre{w0 w w':World}{sb pb eb n nr t:Nat}{l:List B.V}{kd:B.Kd}{vb:Vs}{s:B.St}{v:Value}(hz:w0.heap.size<=w.heap.size)(h:Laid w w' sb pb eb n nr t l kd vb s v):Laid w0 w' sb pb eb n nr t l kd vb s v:=by
 rcases h with⟨k,Y,e,o,J,H,i,G,u,W⟩|⟨o,J,e,H,G,u⟩
 .exact ag ⟨k,Y,e,o,J,H,i,G,u,λx y=>(W x y).imp id (λh=>dH hz h)⟩
 exact ab ⟨o,J,e,H,G,λx y=>(u x y).imp id (λh=>dH hz h)⟩
theorem Laid.form{w w':World}{sb pb eb n nr t:Nat}{l:List B.V}{kd:B.Kd}{vb:Vs}{s:B.St}{v:Value}(h:Laid w w' sb pb eb n nr t l kd vb s v):∃(x:Int) (o:Bool),v=.tuple #[.agg #[.int .i64 x,.int .i64 0],.bool o]:=by
 rcases h with⟨k,H,e,u,G,y,_,i,_⟩|⟨h,_⟩
 .exact⟨_,_,i⟩
 exact⟨_,_,h⟩
theorem vt(Q:Nat->Prop)(eb sb pb n nr b:Nat)(kd:B.Kd)(vb:Vs)(s:B.St)(w:World)(hR:BG w Q eb sb pb n nr kd vb s)(aH:b<=8): Calls prog 157 #[P0 sb,.int .i64 b] w λe w'=>∃v,e=.returned v/\dy (pP sb pb n kd vb) w w'/\Laid w w' sb pb eb n nr 0 (List.replicate b (0,0)) kd vb s v:=by
 have KR:=az hR;have lp:=hR.hs.p.p.lt;have ls:=bz hR.hs.b;have Z:=az hR.hs.lt;clear hR;obtain⟨i0,hi,aF,aB,a9⟩:=info_parts Tryz.rE;go_in;go_wp2_with (at_make;go_loud (refine wpList_make_full _ rfl _ _ 137 rfl 0 149 i0 _ 2 underlying137 hi aF aB _ _ _ _ b rfl rfl rfl rfl (by rw[a9];omega) (by unfold maxLen;omega) (dc _) ?_))
 intro w3 Y H;have aD:=H.size;have a4:Full w3 (w.heap.size+1) 149 (b*2) (b*2) (eC (λ_=>(0,0))):=by
  rcases Y.2 with⟨h,_⟩|⟨g',aL,aG,J,h2,h3,h4,h5,h6,h7⟩
  .cases h
  injection J with J _ hc;injection J with J;injection J with J _ _;have aJ:g'=w.heap.size+1:=by simpa using J.symm
  subst aJ hc;refine⟨aG,h3,h6,λj hj=>?_⟩;have e1:=congrArg (λl=>l[j]?) h7;have e2:(madeCells #[.int .i64 0,.int .i64 0] (b*2)).toList[j]? = some (.int .i64 0):=by
   simp only[madeCells,Array.getElem?_toList,Array.getElem?_map,Array.getElem?_range];rw[aj hj];have:j % 2=0\/j % 2=1:=by omega
   rcases this with h|h<;>simp[h]
  simp only[e2,dh]at e1;rw[aj hj]at e1;have e3:eC (λ_=>((0,0):B.V)) j=.int .i64 0:=by unfold eC;split<;>rfl
  rw[e3];simpa using e1
 have x3:=cm H (show(w.alloc (.cells #[.int .i64 0,.int .i64 0] 149)).heap[w.heap.size]? = _ from bf w _) (by intro e;cases e);have a5:=az (an (ah _ _ _) H);have a3:=az a4;have aK:=az x3;have aA:=az (KR.kept a5);clear Y H a4 x3;go_wp2_with fail
 have a1:Hid (Full w3 (w.heap.size+1) 149 ((List.replicate b ((0,0):B.V)).length*2) ((List.replicate b ((0,0):B.V)).length*2) (eC (λi=>(List.replicate b ((0,0):B.V)).getD i (0,0)))):=by
  show Full _ _ _ _ _ _;rw[ik];refine a3.congr (λj _=>?_);unfold eC;have:(List.replicate b ((0,0):B.V)).getD (j / 2) (0,0)=(0,0):=by
   rw[ar,List.getElem?_replicate];split<;>rfl
  simp only[this]
 have aC:(.agg #[.int .u8 1,.int .i64 0,.slice (some ⟨w.heap.size+1,0,none⟩) b b]:Value)=.agg #[tZ true 0,vJ 0,.slice (some ⟨w.heap.size+1,0,none⟩) (List.replicate b ((0,0):B.V)).length (List.replicate b ((0,0):B.V)).length]:=by rw[ik];rfl
 rw[aC];refine(zY Q eb sb pb n nr (w.heap.size+1) 0 (List.replicate b (0,0)) kd vb s w3 aA a1 (by simpa using aH) (λh=>ch rfl h) (λh=>by have:=Z _ h;omega)).mono ?_;intro e w4 h4;have a0:=h4.1;obtain⟨x,o,he,a7⟩:∃(x:Int) (o:Bool),e=.returned (.tuple #[.agg #[.int .i64 x,.int .i64 0],.bool o])/\∀y:Value,Laid w (w4.setCell ⟨w.heap.size,0,none⟩ y |>.setCell ⟨w.heap.size,1,none⟩ (.int .i64 0)) sb pb eb n nr 0 (List.replicate b (0,0)) kd vb s (.tuple #[.agg #[.int .i64 x,.int .i64 0],.bool o]):=by
  have a6:∀(u:B.Kd) (W:Vs) (M:Nat->List B.V) (y:Value),jm w4 sb pb eb n u W M->(∀x,Own n u W x->Own n kd vb x\/x=w.heap.size+1)->jm (w4.setCell ⟨w.heap.size,0,none⟩ y |>.setCell ⟨w.heap.size,1,none⟩ (.int .i64 0)) sb pb eb n u W M:=λu W M y hS hG=>
   hS.block ((af _ _ _ _ (by show sb≠w.heap.size;omega)).trans (af _ _ _ _ (by show sb≠w.heap.size;omega))) ((af _ _ _ _ (by show pb≠w.heap.size;omega)).trans (af _ _ _ _ (by show pb≠w.heap.size;omega))) (λk hk=>by
    have a2:k≠w.heap.size:=by
     rcases hG k hk with h|h
     .have:=Z k h;omega
     omega
    exact(af _ _ _ _ a2).trans (af _ _ _ _ a2))
  rcases h4.2 with⟨k,u,J,h2,h3,aI,rfl,h5,h6⟩|⟨rfl,h5,u,h6,h7,h8⟩
  .exact⟨_,_,rfl,λy=>ag ⟨k,w.heap.size+1,u,J,h2,h3,aI,rfl,a6 _ _ _ y h5 h6,λx G=>(h6 x G).imp id (λh=>by omega)⟩⟩
  exact⟨_,_,rfl,λy=>ab ⟨rfl,h5,u,a6 _ _ _ y h6 (λx G=>ag (h8 x G)),h7,λx G=>ag (h8 x G)⟩⟩
 subst he;have G:=a0.block aK (by
  rintro(h|h|h)
  .omega
  .omega
  have:=Z _ h;omega)
 have r0:w4.cell? ⟨w.heap.size,0,none⟩=some (.int .i64 0):=by simp[World.cell?,G]
 have r1:w4.cell? ⟨w.heap.size,1,none⟩=some (.int .i64 0):=by simp[World.cell?,G]
 have t0:w4.frozen? ⟨w.heap.size,0,none⟩=false:=by simp[World.frozen?,G]
 have t1:w4.frozen? ⟨w.heap.size,1,none⟩=false:=by simp[World.frozen?,G]
 have a8:=az ((dU (S:=pP sb pb n kd vb) a5).trans a0 (λ_ h _=>h));have aE:=az a7;clear h4 a0 a7 G;go_wp2_with fail
 refine da (v:=.tuple #[.agg #[.int .i64 x,.int .i64 0],.bool o]) (by simp[results,results157,go_sem,r0,r1]) rfl ?_;refine⟨_,rfl,bm (bm a8 (ab (by simp)) _) (ab (by simp)) _,?_⟩;exact aE _
theorem xp(Q:Nat->Prop)(op a b c fb tb eb sb pb n nr:Nat)(kd:B.Kd)(vb:Vs)(s:B.St)(w:World)(hR:BG w Q eb sb pb n nr kd vb s)(aB:b<=8)(a6:w.cell? ⟨eb,27,none⟩=some (P0 sb))(he:¬pP sb pb n kd vb eb): Calls prog 100 #[dZ op a b c fb tb eb] w λe w'=>∃v,e=.returned v/\dy (pP sb pb n kd vb) w w'/\Laid w w' sb pb eb n nr 0 (List.replicate b (0,0)) kd vb s v:=by
 have KR:=az hR;have le:=gW a6;have lp:=hR.hs.p.p.lt;have ls:=bz hR.hs.b;have a5:=az hR.hs.lt;have a1:Hid (∀x,w.heap.size<=x->¬pP sb pb n kd vb x):=λx W h=>by
  rcases h with h|h|h
  .omega
  .omega
  have:=a5 x h;omega
 clear hR;go_in;go_wp2_with fail
 generalize hW:(w.alloc (.cells #[.int .u8 op,.int .u8 a,.int .u8 b,.int .u8 c,P0 fb,P0 tb,P0 eb] 186)).alloc (.cells #[.int .i64 0,.int .i64 0] 149)=w1;have J:Hid (w.grownBy w1 none):=by rw[<-hW];exact au (ah _ _ _) _
 have W:w1.heap[w.heap.size]? = some (lZ op a b c fb tb eb):=by rw[<-hW,ak _ _ _ (by simp)];exact bf w _
 have hr:w1.heap[w.heap.size+1]? = some (.cells #[.int .i64 0,.int .i64 0] 149 (0,0)):=by
  rw[<-hW];have:=bf (w.alloc (.cells #[.int .u8 op,.int .u8 a,.int .u8 b,.int .u8 c,P0 fb,P0 tb,P0 eb] 186)) (.cells #[.int .i64 0,.int .i64 0] 149);simpa using this
 clear hW;have HR:=az hr;have aA:=az (KR.kept (bq J));obtain⟨x0,x1,x2,x3,x4,x5,x6⟩:=fk W;have lx:=bz W;have lr:=bz hr;obtain⟨a7,_⟩:=bh J (a:=⟨eb,27,none⟩) le;rw[a6]at a7;have aC:eb<w1.heap.size:=by omega
 clear W hr;have HS:∀w':World,dy (pP sb pb n kd vb) w1 w'->w'.cell? ⟨w.heap.size,6,none⟩=some (P0 eb)/\w'.cell? ⟨w.heap.size,2,none⟩=some (.int .u8 b)/\w'.cell? ⟨eb,27,none⟩=some (P0 sb):=by
  intro w' hO;exact⟨(hO.cell (o:=6) lx (a1 _ (bj _))).trans x6,(hO.cell (o:=2) lx (a1 _ (bj _))).trans x2,(hO.cell (o:=27) aC he).trans a7⟩
 have Z:=az HS;clear HS;have aG:IntKind.i64.wrap (b:Int)=b:=by simp[IntKind.wrap,IntKind.bits,IntKind.signed];omega
 go_region_held3 (λw'=>w'.cell? ⟨w.heap.size,6,none⟩=some (P0 eb)/\w'.cell? ⟨w.heap.size,2,none⟩=some (.int .u8 b)/\w'.cell? ⟨eb,27,none⟩=some (P0 sb)) (first|exact Z _ (dk _ _)|exact Z _ a2|exact a3) (first|(go_at_call 157;refine(vt Q eb sb pb n nr b kd vb s w1.drew aA aB).mono ?_;rintro e H ⟨v,rfl,Y,a0⟩;obtain⟨x,ob,rfl⟩:=a0.form;have a2:Hid (dy (pP sb pb n kd vb) w1 H):=Y;have a9:Hid (Laid w1 H sb pb eb n nr 0 (List.replicate b (0,0)) kd vb s (.tuple #[.agg #[.int .i64 x,.int .i64 0],.bool ob])):=a0;have G:=Y.block (k:=w.heap.size+1) HR (a1 _ (Nat.le_succ _));have r0:H.cell? ⟨w.heap.size+1,0,none⟩=some (.int .i64 0):=(by simp[World.cell?,G]);have r1:H.cell? ⟨w.heap.size+1,1,none⟩=some (.int .i64 0):=(by simp[World.cell?,G]);have r2:H.frozen? ⟨w.heap.size+1,0,none⟩=false:=(by simp[World.frozen?,G]);have r3:H.frozen? ⟨w.heap.size+1,1,none⟩=false:=(by simp[World.frozen?,G]);have a3:Hid (((H.setCell ⟨w.heap.size+1,0,none⟩ (.int .i64 x)).setCell ⟨w.heap.size+1,1,none⟩ (.int .i64 0)).cell? ⟨w.heap.size,6,none⟩=some (P0 eb)/\((H.setCell ⟨w.heap.size+1,0,none⟩ (.int .i64 x)).setCell ⟨w.heap.size+1,1,none⟩ (.int .i64 0)).cell? ⟨w.heap.size,2,none⟩=some (.int .u8 b)/\((H.setCell ⟨w.heap.size+1,0,none⟩ (.int .i64 x)).setCell ⟨w.heap.size+1,1,none⟩ (.int .i64 0)).cell? ⟨eb,27,none⟩=some (P0 sb)):=(by have h:=Z H Y;exact⟨(aw (a:=⟨w.heap.size,6,none⟩) ((af _ _ _ _ (by simp)).trans (af _ _ _ _ (by simp)))).trans h.1,(aw (a:=⟨w.heap.size,2,none⟩) ((af _ _ _ _ (by simp)).trans (af _ _ _ _ (by simp)))).trans h.2.1,(aw (a:=⟨eb,27,none⟩) ((af _ _ _ _ (by show eb≠w.heap.size+1;omega)).trans (af _ _ _ _ (by show eb≠w.heap.size+1;omega)))).trans h.2.2⟩);clear G Y a0))
 all_goals
  go_wp2_with fail
  refine da (v:=.tuple #[.agg #[.int .i64 x,.int .i64 0],.bool ob]) (by simp[results,results100,go_sem,r0,r1]) rfl ?_;refine⟨_,rfl,bm (bm ((dU J).trans a2 (λ_ h _=>h)) (ab (by simp)) _) (ab (by simp)) _,?_⟩;have a4:∀(i:B.Kd) (u:Vs) (M:Nat->List B.V),jm H sb pb eb n i u M->ox n kd vb i u w1.heap.size->∀x,Own n i u x->x≠w.heap.size+1:=λi u M hS hG x W=>by
   rcases hG x W with h|h
   .have:=a5 x h;omega
   omega
  have a8:∀(i:B.Kd) (u:Vs) (M:Nat->List B.V) (y z:Value),jm H sb pb eb n i u M->ox n kd vb i u w1.heap.size->jm ((H.setCell ⟨w.heap.size+1,0,none⟩ y).setCell ⟨w.heap.size+1,1,none⟩ z) sb pb eb n i u M:=λi u M y z hS hG=>
   hS.block ((af _ _ _ _ (by show sb≠w.heap.size+1;omega)).trans (af _ _ _ _ (by show sb≠w.heap.size+1;omega))) ((af _ _ _ _ (by show pb≠w.heap.size+1;omega)).trans (af _ _ _ _ (by show pb≠w.heap.size+1;omega))) (λk hk=>(af _ _ _ _ (a4 _ _ _ hS hG k hk)).trans (af _ _ _ _ (a4 _ _ _ hS hG k hk)))
  rcases a9 with⟨k,vg,i,h1,h2,h3,aD,h4,h5,h6⟩|⟨h1,h2,i,h3,h4,h5⟩
  .exact ag ⟨k,vg,i,h1,h2,h3,aD,h4,a8 _ _ _ _ _ h5 h6,λx W=>(h6 x W).imp id (λh=>by omega)⟩
  exact ab ⟨h1,h2,i,a8 _ _ _ _ _ h3 h5,h4,λx W=>(h5 x W).imp id (λh=>by omega)⟩
theorem xm(Q:Nat->Prop)(eb sb pb n nr f:Nat)(u:B.V)(kd:B.Kd)(vb:Vs)(s:B.St)(w:World)(hR:BG w Q eb sb pb n nr kd vb s): Calls prog 161 #[P0 sb,.int .i64 f,vA u] w λe w'=>∃v,e=.returned v/\dy (pP sb pb n kd vb) w w'/\Laid w w' sb pb eb n nr (f+1) [u] kd vb s v:=by
 have KR:=az hR;have lp:=hR.hs.p.p.lt;have ls:=bz hR.hs.b;have W:=az hR.hs.lt;go_in;go_wp2_with fail
 generalize hW:((w.alloc (.cells #[.int .i64 u.1,.int .i64 u.2] 149)).alloc (.cells #[.int .i64 0,.int .i64 0] 149)).alloc (.cells #[.int .i64 u.1,.int .i64 u.2] 149)=w3;have a2:w3.heap.size=w.heap.size+1+1+1:=by rw[<-hW];simp
 have a3:Hid (w.grownBy w3 none):=by rw[<-hW];exact au (au (ah _ _ _) _) _
 have x3:w3.heap[w.heap.size+1]? = some (.cells #[.int .i64 0,.int .i64 0] 149 (0,0)):=by
  rw[<-hW,ak _ _ _ (by simp)];have:=bf (w.alloc (.cells #[.int .i64 u.1,.int .i64 u.2] 149)) (.cells #[.int .i64 0,.int .i64 0] 149);simpa using this
 have y3:w3.heap[w.heap.size+1+1]? = some (.cells #[.int .i64 u.1,.int .i64 u.2] 149 (0,0)):=by
  rw[<-hW];have:=bf ((w.alloc (.cells #[.int .i64 u.1,.int .i64 u.2] 149)).alloc (.cells #[.int .i64 0,.int .i64 0] 149)) (.cells #[.int .i64 u.1,.int .i64 u.2] 149);simpa using this
 have a1:Hid (Full w3 (w.heap.size+1+1) 149 ([u].length*2) ([u].length*2) (eC (λi=>[u].getD i (0,0)))):=by
  refine⟨_,y3,rfl,λj hj=>?_⟩;have:j=0\/j=1:=by have:j<2:=hj;omega
  rcases this with rfl|rfl<;>rfl
 have aB:=az x3;have a7:=az (KR.kept a3);have a8:(.agg #[.int .u8 2,.int .i64 f,.slice (some ⟨w.heap.size+1+1,0,none⟩) 1 1]:Value)=.agg #[tZ true (f+1),vJ (f+1),.slice (some ⟨w.heap.size+1+1,0,none⟩) [u].length [u].length]:=rfl;rw[a8];refine(zY Q eb sb pb n nr (w.heap.size+1+1) (f+1) [u] kd vb s w3 a7 a1 (by show 1<=8;decide) (λ_=>rfl) (λh=>by have:=W _ h;omega)).mono ?_;intro e Y h4;have Z:=h4.1;obtain⟨x,o,he,a5⟩:∃(x:Int) (o:Bool),e=.returned (.tuple #[.agg #[.int .i64 x,.int .i64 0],.bool o])/\∀y:Value,Laid w (Y.setCell ⟨w.heap.size+1,0,none⟩ y |>.setCell ⟨w.heap.size+1,1,none⟩ (.int .i64 0)) sb pb eb n nr (f+1) [u] kd vb s (.tuple #[.agg #[.int .i64 x,.int .i64 0],.bool o]):=by
  have a4:∀(G:B.Kd) (J:Vs) (M:Nat->List B.V) (y:Value),jm Y sb pb eb n G J M->(∀x,Own n G J x->Own n kd vb x\/x=w.heap.size+1+1)->jm (Y.setCell ⟨w.heap.size+1,0,none⟩ y |>.setCell ⟨w.heap.size+1,1,none⟩ (.int .i64 0)) sb pb eb n G J M:=λG J M y hS hG=>
   hS.block ((af _ _ _ _ (by show sb≠w.heap.size+1;omega)).trans (af _ _ _ _ (by show sb≠w.heap.size+1;omega))) ((af _ _ _ _ (by show pb≠w.heap.size+1;omega)).trans (af _ _ _ _ (by show pb≠w.heap.size+1;omega))) (λk hk=>by
    have a0:k≠w.heap.size+1:=by
     rcases hG k hk with h|h
     .have:=W k h;omega
     omega
    exact(af _ _ _ _ a0).trans (af _ _ _ _ a0))
  rcases h4.2 with⟨k,G,h1,h2,h3,aA,rfl,h5,h6⟩|⟨rfl,h5,G,h6,h7,h8⟩
  .exact⟨_,_,rfl,λy=>ag ⟨k,w.heap.size+1+1,G,h1,h2,h3,aA,rfl,a4 _ _ _ y h5 h6,λx H=>(h6 x H).imp id (λh=>by omega)⟩⟩
  exact⟨_,_,rfl,λy=>ab ⟨rfl,h5,G,a4 _ _ _ y h6 (λx H=>ag (h8 x H)),h7,λx H=>ag (h8 x H)⟩⟩
 subst he;have H:=Z.block aB (by
  rintro(h|h|h)
  .omega
  .omega
  have:=W _ h;omega)
 have r0:Y.cell? ⟨w.heap.size+1,0,none⟩=some (.int .i64 0):=by simp[World.cell?,H]
 have r1:Y.cell? ⟨w.heap.size+1,1,none⟩=some (.int .i64 0):=by simp[World.cell?,H]
 have t0:Y.frozen? ⟨w.heap.size+1,0,none⟩=false:=by simp[World.frozen?,H]
 have t1:Y.frozen? ⟨w.heap.size+1,1,none⟩=false:=by simp[World.frozen?,H]
 have a6:=az ((dU (S:=pP sb pb n kd vb) a3).trans Z (λ_ h _=>h));have a9:=az a5;go_wp2_with fail
 refine da (v:=.tuple #[.agg #[.int .i64 x,.int .i64 0],.bool o]) (by simp[results,results161,go_sem,r0,r1]) rfl ?_;refine⟨_,rfl,bm (bm a6 (ab (by simp)) _) (ab (by simp)) _,?_⟩;exact a9 _
theorem qU(Q:Nat->Prop)(op a b c fb tb eb sb pb n nr:Nat)(cg:B.V)(kd:B.Kd)(vb:Vs)(s:B.St)(w:World)(hR:BG w Q eb sb pb n nr kd vb s)(aJ:b<256)(hc:∀w1,w.grownBy w1 none->Calls prog 94 #[dZ op a b c fb tb eb] w1 λe w'=>e=.returned (vA cg)/\w1.grownBy w' none)(a8:w.cell? ⟨eb,27,none⟩=some (P0 sb))(he:¬pP sb pb n kd vb eb): Calls prog 103 #[dZ op a b c fb tb eb] w λe w'=>∃v,e=.returned v/\dy (pP sb pb n kd vb) w w'/\Laid w w' sb pb eb n nr (b+1) [cg] kd vb s v:=by
 have KR:=az hR;have HC:=az hc;have le:=gW a8;have lp:=hR.hs.p.p.lt;have ls:=bz hR.hs.b;have a7:=az hR.hs.lt;have aB:Hid (∀x,w.heap.size<=x->¬pP sb pb n kd vb x):=λx Y h=>by
  rcases h with h|h|h
  .omega
  .omega
  have:=a7 x h;omega
 clear hR hc;go_in;go_wp2_with fail
 generalize hW:(w.alloc (.cells #[.int .u8 op,.int .u8 a,.int .u8 b,.int .u8 c,P0 fb,P0 tb,P0 eb] 186)).alloc (.cells #[.int .i64 0,.int .i64 0] 149)=w1;have J:Hid (w.grownBy w1 none):=by rw[<-hW];exact au (ah _ _ _) _
 have Y:w1.heap[w.heap.size]? = some (lZ op a b c fb tb eb):=by rw[<-hW,ak _ _ _ (by simp)];exact bf w _
 have hr:w1.heap[w.heap.size+1]? = some (.cells #[.int .i64 0,.int .i64 0] 149 (0,0)):=by
  rw[<-hW];have:=bf (w.alloc (.cells #[.int .u8 op,.int .u8 a,.int .u8 b,.int .u8 c,P0 fb,P0 tb,P0 eb] 186)) (.cells #[.int .i64 0,.int .i64 0] 149);simpa using this
 clear hW;have HX:=az Y;have HR:=az hr;have lr:=bz hr;have aE:eb<w1.heap.size:=by omega
 clear Y hr;have Z:Hid (∀w':World,dy (λk=>pP sb pb n kd vb k\/k=w.heap.size+1) w1 w'->w'.cell? ⟨w.heap.size,0,none⟩=some (.int .u8 op)/\w'.cell? ⟨w.heap.size,1,none⟩=some (.int .u8 a)/\w'.cell? ⟨w.heap.size,2,none⟩=some (.int .u8 b)/\w'.cell? ⟨w.heap.size,3,none⟩=some (.int .u8 c)/\w'.cell? ⟨w.heap.size,4,none⟩=some (P0 fb)/\w'.cell? ⟨w.heap.size,5,none⟩=some (P0 tb)/\w'.cell? ⟨w.heap.size,6,none⟩=some (P0 eb)/\w'.cell? ⟨eb,27,none⟩=some (P0 sb)):=λw' hO=>by
  have aD:¬(pP sb pb n kd vb w.heap.size\/w.heap.size=w.heap.size+1):=λh=>h.elim (aB _ (bj _)) (λh=>by omega);obtain⟨x0,x1,x2,x3,x4,x5,x6⟩:=fk (hO.block HX aD);exact⟨x0,x1,x2,x3,x4,x5,x6,(hO.cell (o:=27) aE (λh=>h.elim he (λh=>by omega))).trans ((bh J (a:=⟨eb,27,none⟩) le).1.trans a8)⟩
 have aI:IntKind.i64.wrap (b:Int)=b:=by simp[IntKind.wrap,IntKind.bits,IntKind.signed];omega
 go_region_held3 (λw'=>w'.cell? ⟨w.heap.size,0,none⟩=some (.int .u8 op)/\w'.cell? ⟨w.heap.size,1,none⟩=some (.int .u8 a)/\w'.cell? ⟨w.heap.size,2,none⟩=some (.int .u8 b)/\w'.cell? ⟨w.heap.size,3,none⟩=some (.int .u8 c)/\w'.cell? ⟨w.heap.size,4,none⟩=some (P0 fb)/\w'.cell? ⟨w.heap.size,5,none⟩=some (P0 tb)/\w'.cell? ⟨w.heap.size,6,none⟩=some (P0 eb)/\w'.cell? ⟨eb,27,none⟩=some (P0 sb)) (first|exact Z _ (dk _ _)|exact Z _ (dU a0)|exact Z _ a4|exact a5) (first|(go_at_call 94;refine(HC w1.drew (bq J)).mono ?_;rintro e w2 ⟨rfl,H⟩;have a0:Hid (w1.grownBy w2 none):=⟨H.os,H.tape,H.output,H.size,H.block⟩;clear H)|(go_at_call 161;refine(xm Q eb sb pb n nr b cg kd vb s w2 (KR.kept (an J a0))).mono ?_;rintro e W ⟨v,rfl,a2,a3⟩;obtain⟨x,ob,rfl⟩:=a3.form;have a1:=(dU a0).trans a2 (λ_ h _=>h);have a4:Hid (dy (λk=>pP sb pb n kd vb k\/k=w.heap.size+1) w1 W):=a1.mono (λ_ h _=>ag h);have a9:=az a1;have aC:=az (a3.pre a0.size);have G:=a1.block (k:=w.heap.size+1) HR (aB _ (Nat.le_succ _));have r0:W.cell? ⟨w.heap.size+1,0,none⟩=some (.int .i64 0):=(by simp[World.cell?,G]);have r1:W.cell? ⟨w.heap.size+1,1,none⟩=some (.int .i64 0):=(by simp[World.cell?,G]);have r2:W.frozen? ⟨w.heap.size+1,0,none⟩=false:=(by simp[World.frozen?,G]);have r3:W.frozen? ⟨w.heap.size+1,1,none⟩=false:=(by simp[World.frozen?,G]);have a5:=az (Z ((W.setCell ⟨w.heap.size+1,0,none⟩ (.int .i64 x)).setCell ⟨w.heap.size+1,1,none⟩ (.int .i64 0)) (bm (bm a4 (ag (ab rfl)) _) (ag (ab rfl)) _));clear G a1 a3 a2))
 all_goals
  go_wp2_with fail
  refine da (v:=.tuple #[.agg #[.int .i64 x,.int .i64 0],.bool ob]) (by simp[results,results103,go_sem,r0,r1]) rfl ?_;refine⟨_,rfl,bm (bm ((dU J).trans a9 (λ_ h _=>h)) (ab (by simp)) _) (ab (by simp)) _,?_⟩;have a6:∀(i:B.Kd) (u:Vs) (M:Nat->List B.V),jm W sb pb eb n i u M->ox n kd vb i u w1.heap.size->∀x,Own n i u x->x≠w.heap.size+1:=λi u M hS hG x Y=>by
   rcases hG x Y with h|h
   .have:=a7 x h;omega
   omega
  have aA:∀(i:B.Kd) (u:Vs) (M:Nat->List B.V) (y z:Value),jm W sb pb eb n i u M->ox n kd vb i u w1.heap.size->jm ((W.setCell ⟨w.heap.size+1,0,none⟩ y).setCell ⟨w.heap.size+1,1,none⟩ z) sb pb eb n i u M:=λi u M y z hS hG=>
   hS.block ((af _ _ _ _ (by show sb≠w.heap.size+1;omega)).trans (af _ _ _ _ (by show sb≠w.heap.size+1;omega))) ((af _ _ _ _ (by show pb≠w.heap.size+1;omega)).trans (af _ _ _ _ (by show pb≠w.heap.size+1;omega))) (λk hk=>(af _ _ _ _ (a6 _ _ _ hS hG k hk)).trans (af _ _ _ _ (a6 _ _ _ hS hG k hk)))
  rcases aC with⟨k,vg,i,h1,h2,h3,aF,h4,h5,h6⟩|⟨h1,h2,i,h3,h4,h5⟩
  .exact ag ⟨k,vg,i,h1,h2,h3,aF,h4,aA _ _ _ _ _ h5 h6,λx Y=>(h6 x Y).imp id (λh=>by omega)⟩
  exact ab ⟨h1,h2,i,aA _ _ _ _ _ h3 h5,h4,λx Y=>(h5 x Y).imp id (λh=>by omega)⟩
