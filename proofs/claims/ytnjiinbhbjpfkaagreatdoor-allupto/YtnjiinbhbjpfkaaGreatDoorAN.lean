import Derived.Test.YtnjiinbhbjpfkaaGreatDoorAD
import Derived.Test.YtnjiinbhbjpfkaaGreatDoorAC
set_option maxRecDepth 100000
set_option maxHeartbeats 0
set_option linter.all false
namespace Go.Proofs.YtnjiinbhbjpfkaaGreatDoor
open Go.RowKit Go.Proofs.Tryz
section
def Mg(n:Int):Obj:=.cells #[.int .i64 n,.slice none 0 0,.bool false,.pointer none,.nilFunc,.int .i64 0,.slice none 0 0] 160 (0,0)
structure LP(w w6:aa) (eb tb xe xt no nl:Nat) (vo vl:Value) (ov:List B.V) (lv:List Value) (E:Nat->Value) (a30 a29:Option Addr) (c30 c29:Nat):Prop where
 e:Full w6 eb 144 44 44 (eE (eE E 30<|.slice a30 (no+1) c30) 29<|.slice a29 (nl+1) c29)
 o:w6.ownsRow 0 149 2 (.slice a30 (no+1) c30) (no+1) (ij ov++[.int .i64 0,.int .i64 0])
 o2:mu w.heap.size vo (.slice a30 (no+1) c30)
 l:w6.ownsRow 0 155 1 (.slice a29 (nl+1) c29) (nl+1) (lv++[P0 tb])
 l2:mu w.heap.size vl (.slice a29 (nl+1) c29)
 l3:∀k,(Value.slice a29 (nl+1) c29).ownBlock=some k->k≠xt
 t:w6.heap[tb]?=some (Mg<|(no:Int)+1)
 x:w6.heap[xt]?=some (.cells #[P0 tb] 155 (0,0))
 y:w6.heap[xe]?=some (.cells #[P0 eb] 95 (0,0))
 n:w.heap.size<=tb/\w.heap.size<=xe/\w.heap.size<=xt
 s:dN (λk=>k=eb\/vo.ownBlock=some k\/vl.ownBlock=some k) w w6
def sg{a b:Nat}{v e:Value}(h:mu b v e)(i:a<=b):mu a v e:=h.imp id<|λ⟨g,o,u⟩=>⟨g,o,af⟩
theorem LC(eb f no i co cl num:Nat)(ao al:Option Addr)(u v:B.V)(ov:List B.V)(lv:List Value)(E:Nat->Value)(S:Nat->Nat->aa->Prop)(R:aa->Prop)(w:aa)(hE:Full w eb 144 44 44 E)(c4:E 30=.slice ao no co)(bN:E 29=.slice al i cl)(ho:w.ownsRow 0 149 2 (.slice ao no co) no (ij ov))(hl:w.ownsRow 0 155 1 (.slice al i cl) i lv)(dG:no<=900000000)(d5:i<=900000000)(HE:∀Z tb xe xt cY cT aP aG,LP w Z eb tb xe xt no i (.slice ao no co) (.slice al i cl) ov lv E cY cT aP aG->eN 119 #[P0 eb,P0 tb,ah f,vA u,vA v,Fv 120 #[P0 xe,P0 xt]] Z λw7=>S tb xt w7/\w7.heap[xt]?=some (.cells #[P0 tb] 155 (0,0))/\w7.heap[xe]?=some (.cells #[P0 eb] 95 (0,0))/\eb<w7.heap.size)(HJ:∀tb xt w7 w8,S tb xt w7->w7.grownBy w8 none->eN 110 #[Pt eb 32,P0 tb] w8 λw9=>R w9/\w9.cell? (az tb 0)=some (ah num)/\w9.heap[xt]?=some (.cells #[P0 tb] 155 (0,0))):dC 60 #[P0 eb,ah f,vA u,vA v] w (ah num) λw'=>R w':=by
 have le:=hE.lt;have KE:=bj hE;have HF:=bj<|bh c4 bN;have HO:=bj ho;have HL:=bj hl;have cV:=bj HE;have cO:=bj HJ;have bS:∀k,(Value.slice ao no co).ownBlock=some k->k≠eb/\k<w.heap.size:=λk W=>⟨eU ho hE eo k W,(dR ho k W).2.1⟩;have c8:∀k,(Value.slice al i cl).ownBlock=some k->k≠eb/\k<w.heap.size:=λk W=>⟨eU hl hE eo k W,(dR hl k W).2.1⟩;have aA:=bj bS;have b8:=bj c8;have cD:Hid (∀k,(Value.slice ao no co).ownBlock=some k->(Value.slice al i cl).ownBlock≠some k):=λk W cX=>by
  obtain⟨_,_,c1,e1⟩:=dR ho k W;obtain⟨_,_,c2,e2⟩:=dR hl k cX;rw[e1]at e2;injection e2 with e2;injection e2 with _ e2 _;exact dr e2 eo
 clear hE c4 bN ho hl HE HJ bS c8;obtain⟨i0,hi,bM,bD,bW⟩:=info_parts Tryz.uo;delta dC;go_in;go_wp2_with fail
 generalize hW:((w.alloc<|.cells #[P0 eb] 95).alloc<|.cells #[ah (u.1:Int),ah u.2] 149).alloc (.cells #[ah (v.1:Int),ah v.2] 149)=w1;have aU:w1.heap.size=w.heap.size+1+1+1:=by rw[<-hW];simp
 have a8:Hid (w.grownBy w1 none):=by rw[<-hW];repeat (first|exact aw _ _|refine ax ?_ _)
 have x0:w1.heap[w.heap.size]?=some (.cells #[P0 eb] 95 (0,0)):=by rw[<-hW,au _ _ _ fV,au _ _ _ eG];exact bl _ _
 have x1:w1.heap[w.heap.size+1]?=some (.cells #[ah (u.1:Int),ah u.2] 149 (0,0)):=by
  rw[<-hW,au _ _ _ eG];have:=bl (w.alloc<|.cells #[P0 eb] 95)<|.cells #[ah (u.1:Int),ah u.2] 149;simpa using this
 have x2:w1.heap[w.heap.size+1+1]?=some (.cells #[ah (v.1:Int),ah v.2] 149 (0,0)):=by
  rw[<-hW];have:=bl ((w.alloc<|.cells #[P0 eb] 95).alloc<|.cells #[ah (u.1:Int),ah u.2] 149)<|.cells #[ah (v.1:Int),ah v.2] 149;simpa using this
 clear hW;have HX:=bj<|bh x0<|bh x1 x2;have b0:w1.cell? (az w.heap.size 0)=some (P0 eb):=fj x0
 have aF:=bj<|KE.out.block<|a8.out.block eb le je;have bP:=bj<|dS HO.out<|λk h=>a8.out.block k (aA.out k h).2 je;obtain⟨aG,cH⟩:=aF.out.cells 30 af;rw[HF.out.1]at aG;have aL:=aF.out.lt;have b5:w.heap.size<w1.heap.size:=af
 have bR:=bj aU;clear aU x0 x1 x2;go_cut[] from 10 to 19 (λwx=>∃(ob:Option Addr) (H:Nat) (w2:aa),wx=w2.setCell (az eb 30) (.slice ob (no+1) H)/\Hid (w2.ownsRow 0 149 2 (.slice ob (no+1) H) (no+1)<|ij ov++[ah 0,ah 0])/\Hid (w1.grownBy w2 (Value.slice ao no co).ownBlock)/\Hid (mu w1.heap.size (.slice ao no co)<|.slice ob (no+1) H))
 case first=>
  go_region_law (first|(refine fH _ rfl (.tmp 14) (.tmp 16) 137 rfl 149 i0 _ 2 16 underlying137 hi bM bD bW rfl eo ao no co (ij ov) mS (dS bP.out<|λk h=>(au _ _ _ (by have h1:=(aA.out k h).2;omega)).trans<|G.out.block k (by have h1:=(aA.out k h).2;omega) je) (az Y.heap.size 0) 1 1 [ah 0,ah 0] mS rfl (by intro j u hj;match j,hj with|0,hj=>(simp at hj;subst hj;simp[Addr.add,go_sem])|1,hj=>(simp at hj;subst hj;simp[Addr.add,go_sem])) yv pY af eo ?_;intro v' Z ho hg aE;obtain⟨ob,H,rfl⟩:=ef ho af;have b7:=bj ho;have aW:Hid (mu w1.heap.size (.slice ao no co)<|dD ob (no+1) H):=sg aE (by have h1:=G.out.size;simp;omega);have a4:Hid (w1.grownBy Z (Value.slice ao no co).ownBlock):=⟨hg.os.trans G.out.os,hg.tape.trans G.out.tape,hg.output.trans G.out.output,by(have h1:=hg.size;have h2:=G.out.size;simp at h1;omega),λx hx hn=>(hg.block x (by(have:=G.out.size;simp;omega)) hn).trans<|(au _ _ _<|gD G.out.size).trans<|G.out.block x hx je⟩;have aH:=bj<|aF.out.block<|a4.out.block eb aL<|λe=>(aA.out eb e.symm).1 rfl;obtain⟨cP,d7⟩:=aH.out.cells 30 af;have bY:=(bd (a:=az w.heap.size 0)<|a4.out.block w.heap.size b5 (λe=>by have:=(aA.out _ e.symm).2;omega)).trans b0;clear ho hg aE)|(go_simp;go_at_call 61;refine dq (fK 0 w1.drew) λY a6=>?_;have G:Hid (w1.grownBy Y none):=(by subst a6;exact ax (bo<|aw _ _) _);obtain⟨bZ,_⟩:=ay G.out (a:=az eb 30) aL;rw[aG]at bZ;obtain⟨bY,_⟩:=ay G.out (a:=az w.heap.size 0) b5;rw[b0]at bY;have bU:eb<Y.heap.size:=(by have:=G.out.size;omega);have bX:w.heap.size<Y.heap.size:=(by have:=G.out.size;omega);clear a6;simp only[]))
  all_goals
   go_wp2_with fail
   go_meet
   case rel=>exact⟨_,H,Z,rfl,b7,a4,aW⟩
 case rest=>
  obtain⟨ob,H,w2,rfl,b3,a7,bG⟩:=hcut;have aN:=bj<|aF.out.block<|a7.out.block eb aL<|λe=>(aA.out eb e.symm).1 rfl;have bH:=a7.out.size;have bO:=a8.out.size;have a1:∀k,k<w1.heap.size->(Value.slice ao no co).ownBlock≠some k->w2.heap[k]?=w1.heap[k]?:=λk W hn=>a7.out.block k W<|λe=>hn e.symm;have c3:Hid (dN (λk=>k=eb\/(Value.slice ao no co).ownBlock=some k\/(Value.slice al i cl).ownBlock=some k) w w2):=(eA a8.out).trans (S1:=λk=>(Value.slice ao no co).ownBlock=some k) ⟨a7.out.os,a7.out.tape,a7.out.output,a7.out.size,λk W hn=>a1 k W hn⟩<|λk h _=>ak<|ag h;have aY:Hid (w2.ownsRow 0 155 1 (.slice al i cl) i lv):=dS HL.out<|λk h=>(a1 k (by have:=(b8.out k h).2;omega)<|λe=>cD.out k e h).trans<|a8.out.block k (b8.out k h).2 je;have aR:∀k,w.heap.size<=k->(Value.slice ao no co).ownBlock≠some k:=λk W e=>by have:=(aA.out k e).2;omega
  generalize a6:w2.setCell (az eb 30) (.slice ob (no+1) H)=Y at*;have cF:Y.heap.size=w2.heap.size:=by rw[<-a6];simp[World.setCell]
  have aB:∀k,k≠eb->Y.heap[k]?=w2.heap[k]?:=λk W=>by rw[<-a6];exact ab _ _ _ _ W
  have aO:Hid (Full Y eb 144 44 44<|eE E 30<|.slice ob (no+1) H):=by show Full _ _ _ _ _ _;rw[<-a6];exact aN.out.eE 30 _
  have bJ:Hid (dN (λk=>k=eb\/(Value.slice ao no co).ownBlock=some k\/(Value.slice al i cl).ownBlock=some k) w Y):=by show dN _ _ _;rw[<-a6];exact bq c3.out (ag<|ag rfl) _
  have b2:=bj<|dS b3.out<|λk h=>aB k<|eU b3.out aN.out eo k h;have b4:=bj<|dS aY.out<|λk h=>aB k<|eU aY.out aN.out eo k h;have bQ:=bj<|sg bG.out bO;have cN:=bR.out;have y0:=((aB w.heap.size af).trans<|a1 w.heap.size af<|aR _<|bm _).trans HX.out.1;have y1:=((aB (w.heap.size+1) af).trans<|a1 (w.heap.size+1) af<|aR _ af).trans HX.out.2.1;have y2:=((aB (w.heap.size+1+1) af).trans<|a1 (w.heap.size+1+1) af<|aR _ af).trans HX.out.2.2;have HY:=bj<|bh y0<|bh y1 y2;have b0:Y.cell? (az w.heap.size 0)=some (P0 eb):=fj y0
  have bX:=ch y0;have bU:=aO.out.lt;have aP:=aO.out.cell 30 af;rw[gU]at aP;have aT:w.heap.size+1+1+1<=Y.heap.size:=af
  clear a6 aB y0 y1 y2 aG cH cF bH aF aN a7 b3 HX b5 aL a8 bR a1 aY aR bG cN c3 bP bO;go_wp2_with fail
  generalize aI:(Y.alloc<|.cells #[ah<|(no:Int)+1,.slice none 0 0,.bool false,.pointer none,.nilFunc,ah 0,.slice none 0 0] 160).alloc (.cells #[.pointer<|some<|az Y.heap.size 0] 155)=w4;have J:Hid (Y.grownBy w4 none):=by rw[<-aI];exact ax (aj _ _ _) _
  have c5:w4.heap[Y.heap.size]?=some (Mg<|(no:Int)+1):=by rw[<-aI,au _ _ _ eG];exact bl _ _
  have aQ:w4.heap[Y.heap.size+1]?=some (.cells #[.pointer<|some<|az Y.heap.size 0] 155 (0,0)):=by
   rw[<-aI];have:=bl (Y.alloc<|.cells #[ah<|(no:Int)+1,.slice none 0 0,.bool false,.pointer none,.nilFunc,ah 0,.slice none 0 0] 160)<|.cells #[.pointer<|some<|az Y.heap.size 0] 155;simpa using this
  have bI:w4.heap.size=Y.heap.size+1+1:=by rw[<-aI];simp
  clear aI;generalize cA:Y.heap.size=tb at*;have aX:=bj<|bh c5 aQ;have aD:=bj<|aO.out.block<|J.out.block eb af je;have aS:=bj<|dS b2.out<|λk h=>J.out.block k (dR b2.out k h).2.1 je;have aK:=bj<|dS b4.out<|λk h=>J.out.block k (dR b4.out k h).2.1 je;have bV:=bj<|bJ.out.jj J.out;have aC:=bj<|bh (dw J.out HY.out.1)<|bh (dw J.out HY.out.2.1)<|dw J.out HY.out.2.2;have bC:w4.cell? (az w.heap.size 0)=some (P0 eb):=fj aC.out.1
  have cR:w4.cell? (az (tb+1) 0)=some (P0 tb):=fj aQ
  have c7:=ch aC.out.1;obtain⟨bK,cQ⟩:=aD.out.cells 29 af;rw[eP _ _ _ _ af,HF.out.2]at bK;have aV:=aD.out.lt;have cK:=bj<|bh bI<|bh cA aT;clear c5 aQ b0 bX bU aP J b2 aO HY bI cA hi bM bD bW i0 b4 bJ aT;obtain⟨j0,hj,cB,c6,bT⟩:=info_parts Tryz.qu;have a5:=bj b8.out;go_cut[] from 27 to 36 (λwx=>∃(lb:Option Addr) (a0:Nat) (w5:aa),wx=w5.setCell (az eb 29) (.slice lb (i+1) a0)/\Hid (w5.ownsRow 0 155 1 (.slice lb (i+1) a0) (i+1)<|lv++[P0 tb])/\Hid (w4.grownBy w5 (Value.slice al i cl).ownBlock)/\Hid (mu w4.heap.size (.slice al i cl)<|.slice lb (i+1) a0))
  case first=>
   go_region_law (refine fH _ rfl (.tmp 31) (.tmp 33) 136 rfl 155 j0 _ 1 8 underlying136 hj cB c6 bT rfl eo al i cl lv mS (dS aK.out<|λk h=>au _ _ _ (by have h1:=(dR aK.out k h).2.1;omega)) (az w4.heap.size 0) 1 1 [P0 tb] mS rfl (by intro j u hj;match j,hj with|0,hj=>(simp at hj;subst hj;simp[Addr.add,go_sem])) yv pY af eo ?_;intro v' Z ho hg aE;obtain⟨lb,a0,rfl⟩:=ef ho af;have b7:=bj ho;have aW:Hid (mu w4.heap.size (.slice al i cl)<|dD lb (i+1) a0):=sg aE eG;have a4:Hid (w4.grownBy Z (Value.slice al i cl).ownBlock):=⟨hg.os,hg.tape,hg.output,by(have h1:=hg.size;simp at h1;omega),λx hx hn=>(hg.block x fV hn).trans<|au _ _ _ hx⟩;have aH:=bj<|aD.out.block<|a4.out.block eb aV<|λe=>(a5.out eb e.symm).1 rfl;obtain⟨cC,d9⟩:=aH.out.cells 29 af;have d2:=(bd (a:=az w.heap.size 0)<|a4.out.block w.heap.size c7 (λe=>by have:=(a5.out _ e.symm).2;omega)).trans bC;clear ho hg aE)
   all_goals
    go_wp2_with fail
    go_meet
    case rel=>exact⟨_,a0,Z,rfl,b7,a4,aW⟩
  case rest=>
   obtain⟨lb,a0,w5,rfl,bA,a3,b9⟩:=hcut;have bB:=bj<|aD.out.block<|a3.out.block eb aV<|λe=>(a5.out eb e.symm).1 rfl;have bE:=cK.out;generalize aM:w5.setCell (az eb 29) (.slice lb (i+1) a0)=Z at*;have b6:∀k,k≠eb->Z.heap[k]?=w5.heap[k]?:=λk W=>by rw[<-aM];exact ab _ _ _ _ W
   have a9:∀{k:Nat} {o:Obj},w4.heap[k]?=some o->k≠eb->(Value.slice al i cl).ownBlock≠some k->Z.heap[k]?=some o:=λW h1 h2=>((b6 _ h1).trans<|a3.out.block _ (ch W)<|λe=>h2 e.symm).trans W;have a2:∀k,w.heap.size<=k->(Value.slice al i cl).ownBlock≠some k:=λk W e=>by have:=(a5.out k e).2;omega
   have HB:Hid (LP w Z eb tb w.heap.size (tb+1) no i (.slice ao no co) (.slice al i cl) ov lv E ob lb H a0):=by
    refine⟨?_,?_,bQ.out,?_,sg b9.out af,?_,?_,?_,?_,⟨af,bm _,af⟩,?_⟩
    .rw[<-aM];exact bB.out.eE 29 _
    .refine dS aS.out<|λk h=>?_;obtain⟨_,l4,dB,hc⟩:=dR aS.out k h;rw[hc];refine a9 hc (eU aS.out aD.out eo k h)<|λe=>?_;obtain⟨_,_,c2,e2⟩:=dR aK.out k e;rw[hc]at e2;injection e2 with e2;injection e2 with _ e2 _;exact dr e2 eo
    .exact dS bA.out<|λk h=>b6 k<|eU bA.out bB.out eo k h
    .intro k W;rcases b9.out with e|⟨g',e,dE⟩
     .rw[W]at e;have:=(a5.out k e.symm).2;omega
     rw[W]at e;injection e with e;omega
    .exact a9 aX.out.1 af<|a2 _ af
    .exact a9 aX.out.2 af<|a2 _ af
    .exact a9 aC.out.1 af<|a2 _<|bm _
    rw[<-aM];refine bq (bV.out.trans (S1:=λk=>(Value.slice al i cl).ownBlock=some k) ⟨a3.out.os,a3.out.tape,a3.out.output,a3.out.size,λk W hn=>a3.out.block k W<|λe=>hn e.symm⟩<|λk h _=>ak<|ak h) (ag<|ag rfl) _
   have q1:=a9 aC.out.2.1 af<|a2 _ af;have q2:=a9 aC.out.2.2 af<|a2 _ af;have p0:Z.cell? (az w.heap.size 0)=some (P0 eb):=by have:=HB.out.y;simp[World.cell?,this]
   have p1:Z.cell? (az (tb+1) 0)=some (P0 tb):=by have:=HB.out.x;simp[World.cell?,this]
   have p2:Z.cell? (az (w.heap.size+1) 0)=some (ah (u.1:Int)):=fj q1
   have p3:Z.cell? (az (w.heap.size+1) 1)=some (ah u.2):=fj q1
   have p4:Z.cell? (az (w.heap.size+1+1) 0)=some (ah (v.1:Int)):=fj q2
   have p5:Z.cell? (az (w.heap.size+1+1) 1)=some (ah v.2):=fj q2
   clear aM b6 a9 bC cR c7 bK cQ aV aS bA aD bB a3 aX aC hj cB c6 bT j0 aK bV bE b9 bQ a2 q1 q2;go_wp2_with fail
   refine dq (cV.out Z tb w.heap.size (tb+1) ob lb H a0 HB.out) ?_;rintro w7 ⟨bF,aJ,b1,d4⟩;have q0:w7.cell? (az w.heap.size 0)=some (P0 eb):=fj b1
   have q1:w7.cell? (az (tb+1) 0)=some (P0 tb):=fj aJ
   have cM:=bj bF;clear bF aJ b1 p0 p1 p2 p3 p4 p5;go_wp2_with fail
   go_region_with (go_at_call 110;refine dq (cO.out tb (tb+1) w7 w7.drew cM.out<|bo<|aw _ _) ?_;rintro w8 ⟨bL,t0,aZ⟩;have cG:=bj bL;have r1:w8.cell? (az (tb+1) 0)=some (P0 tb):=(by simp[World.cell?,aZ]);clear bL aZ)
   all_goals
    go_wp2_with fail
    go_ret;exact⟨rfl,cG.out⟩
