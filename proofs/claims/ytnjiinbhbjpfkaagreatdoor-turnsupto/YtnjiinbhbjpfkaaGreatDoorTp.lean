import Derived.Test.YtnjiinbhbjpfkaaGreatDoorTn
import Derived.Test.YtnjiinbhbjpfkaaGreatDoorTo
import Derived.Test.YtnjiinbhbjpfkaaGreatDoorTc
set_option maxRecDepth 100000
set_option maxHeartbeats 0
set_option linter.all false
namespace Go.Proofs.YtnjiinbhbjpfkaaGreatDoor
open Go.RowKit Go.Proofs.Tryz
namespace F
variable {g:eJ}{p:dL}{s:Pl}{t:Nat}{w:aa}
def MK(fn:Nat)(l:List Value):Prop:=
 ((fn=101\/fn=102\/fn=104\/fn=108)/\l=[])\/(∃b,(fn=163\/fn=151)/\l=[P0 b])\/∃b c,fn=167/\l=[P0 b,P0 c]
def qg(b:Nat):MK 163 [P0 b]:=ah (af ⟨b,af rfl,rfl⟩)
def Bt(b:Nat):MK 151 [P0 b]:=ah (af ⟨b,ah rfl,rfl⟩)
def zj(b c:Nat):MK 167 [P0 b,P0 c]:=ah (ah ⟨b,c,rfl,rfl⟩)
def Fa{n:Nat}(h:n=101\/n=102\/n=104\/n=108):MK n []:=af ⟨h,rfl⟩
theorem mi{fn:Nat}{l:List Value}(aT:MK fn l){op a b c:Nat}(h:dZ p s g w)(hP:PW p)(hR:Rn p s t)(aP:s.ev.length<=1000)(bH:op<23)(hi:((s.ends p t 21).T t).run=true->p.ins (bw (s.ends p t 21) t).f (bw (s.ends p t 21) t).nx=(op,a,b,c)/\p.E0 (4+op)=Fv fn l.toArray)(hc:((s.ends p t 21).T t).run=true->∀g1 w1,dZ p ((s.ends p t 21).gF t) g1 w1->Rn p ((s.ends p t 21).gF t) t->Calls prog fn (mD p ((s.ends p t 21).gF t) g1 t (op,a,b,c) :: l).toArray w1 λe w'=>∃(why:Int) (s3:Pl),e=.returned (aj why)/\kM p ((s.ends p t 21).gF t) t (op,a,b,c) why s3/\∃g',Tr p ((s.ends p t 21).gF t) g1 w1 s3 g' w'): eL 134 #[P0 p.eb,P0 (g.tb t)] w λw'=>∃s' g',jz p t s s'/\Tr p s g w s' g' w':=by
 have HF:=bj aT;have HC:=bj hc;have HI:=bj hi;have HE:=bj aP;have HP:=bj hP;have aF:=bj hR.ht;have b5:Hid (Ki p s g w t (s.T t).fr.length w):=⟨s,g,21,Tr.refl h,hR,rfl,dU hR.fw.n2 ag,rfl,rfl⟩;clear aT hc hi aP hP hR h;delta eL;go_in;go_wp2_with fail
 go_loopg [] ((s.T t).fr.length) (λn wr=>Hid (Ki p s g w t n wr))
 case atStart=>exact b5
 case round=>
  obtain⟨s1,g1,k,hT,aE,aN,aZ,hS,aQ⟩:=hrel.out;have aL:=hT.t t aF.out;have o:=Lc hT.r aE;rw[aL]at o;have u:=bj o;have KT:=bj hT;have i:=bj aE;have KK:=bj (bh aN (bh aZ (bh hS aQ)));have aC:=bj aL;clear o hT aE aN aZ hS aQ aL b5;go_wp2_with fail
  refine du u λw1 aS=>?_;have aY:=bj aS;clear aS u;go_wp2_with fail
  refine du (Kf (KT.out.r.kept aY.out) i.out) λw2 aO=>?_;have aB:=bj (ar aY.out aO);clear aO;by_cases hd:(bw s1 t).nx=p.len (bw s1 t).f
  .have a0:decide ((bw s1 t).nx=p.len (bw s1 t).f)=true:=gG hd;have HD:=bj hd;simp only[a0];clear hd a0;go_wp2_with fail
   refine du (fG 0 _) ?_;rintro w3 rfl;go_wp2_with fail
   have a3:=bj (ax aB.out (.cells #[aj 0,aj 0] 149));have a6:=CL (0,0) (KT.out.r.kept a3.out) HP.out i.out (by rw[KK.out.1];have:=HE.out;omega);rw[aC.out]at a6;refine du a6 ?_;rintro w4 ⟨g4,J⟩;have y:=(KT.out.kept a3.out).trans J;have G:=y.t t aF.out;have hB:=i.out.ok.back i.out.lv i.out.wh (dW.num (s:=s1) 0);have W:=od i.out.ok.lw i.out.ht (0,0);have a2:=nz s1 t (0,0);have a4:fm (s1.back t (0,0)) t:=by
    by_cases e0:de s1 t=0
    .exact(ey (a2.1 e0).2.2).2 i.out.ht
    exact(ey (a2.2 e0).2.2.1).2 i.out.ht
   by_cases e0:de s1 t=0
   .have c2:=y.r.run a4 (W.1 e0);rw[G]at c2;have aG:=bj y;have Y:s.ends p t 21=s1.back t (0,0):=by
     obtain⟨_,q2,q3,_⟩:=KK.out;obtain⟨k',rfl⟩:∃k',k=k'+1:=⟨k-1,gp i.out.hi⟩;rw[wm i.out.run HD.out,CT k' (W.1 e0)]at q3;exact q3.symm
    have a1:=bj (bh Y (W.1 e0));clear a6 J y G hB W a2 a4 e0 Y;go_wp2_with fail
    refine dg (results_none rfl _ _ _) rfl ?_;refine⟨rfl,s1.back t (0,0),g4,?_,?_⟩
    .unfold jz;rw[a1.out.1,au (by rw[a1.out.2];decide)]
    first|exact aG.out|exact aG.out.kept (bo (aw _ _))|exact aG.out.kept (df (aw _ _) _)
   obtain⟨r1,r2⟩:=W.2 e0;obtain⟨b1,b2,b3,b4⟩:=a2.2 e0;have c2:=y.r.run a4 (r1.trans i.out.run);rw[G]at c2;have aW:∀w5,w4.grownBy w5 none->Ki p s g w t ((s1.T t).fr.length-1) w5:=λw5 bJ=>by
    obtain⟨q1,q2,q3,q4⟩:=KK.out;obtain⟨k',rfl⟩:∃k',k=k'+1:=⟨k-1,gp i.out.hi⟩;rw[wm i.out.run HD.out]at q3;exact⟨s1.back t (0,0),g4,k',y.kept bJ,⟨hB,eV b1 i.out.lv,r1.trans i.out.run⟩,b2.trans q1,kr r2,q3,r2⟩
   have aI:=bj aW;clear a6 J y G hB W a2 a4 e0 r1 r2 b1 b2 b3 b4 aW;go_wp2_with fail
   go_roundg ((s1.T t).fr.length-1)
   case measure=>
    have q4:=KK.out.2.2.2;have q5:=i.out.hi;omega
   case rel=>first|exact aI.out _ (aw _ _)|exact aI.out _ (bo (aw _ _))|exact aI.out _ (df (aw _ _) _)
  have a0:decide ((bw s1 t).nx=p.len (bw s1 t).f)=false:=gG hd;have Y:s.ends p t 21=s1:=by
   obtain⟨_,q2,q3,_⟩:=KK.out;rw[<-q3];exact CU (gp i.out.hi) hd
  rw[Y]at HC HI;have aX:=bj (HC.out i.out.run);obtain⟨aR,aU⟩:=HI.out i.out.run;have aD:=bj aR;have bE:=bj aU;have HD:=bj hd;have a1:=bj Y;have o:=Lc (KT.out.r.kept aB.out) i.out;rw[aC.out]at o;have u:=bj o;simp only[a0];clear hd a0 Y HC HI aR aU o;go_wp2_with fail
  refine du u λw3 aM=>?_;have a3:=bj (ar aB.out aM);clear aM u;go_wp2_with fail
  refine du (Le (KT.out.r.kept a3.out) HP.out i.out HD.out aD.out) λw4 J=>?_;have b8:=bj ((KT.out.kept a3.out).trans J);clear J;have aA:g1.fb t (de (s1.gF t) t)=g1.fb t (de s1 t):=by rw[BP]
  generalize bD:g1.fb t (de s1 t)=fb at *;have bK:=bj aA;clear aA bD;go_wp2_with fail
  have HX:=bj (iN w4 op a b c fb (g.tb t) p.eb);have bC:=bj (ak w4 (.cells #[dy (op:Int),dy (a:Int),dy (b:Int),dy (c:Int),P0 fb,P0 (g.tb t),P0 p.eb] 186) none);have bF:(w4.alloc (.cells #[dy (op:Int),dy (a:Int),dy (b:Int),dy (c:Int),P0 fb,P0 (g.tb t),P0 p.eb] 186)).heap.size=w4.heap.size+1:=eB
  generalize hW:w4.alloc (.cells #[dy (op:Int),dy (a:Int),dy (b:Int),dy (c:Int),P0 fb,P0 (g.tb t),P0 p.eb] 186)=w5 at *;clear hW;obtain⟨x0,x1,x2,x3,x4,x5,x6⟩:=eZ HX.out;have a5:=bj (b8.out.kept bC.out);have e5:w5.cell? (ay p.eb (4+op))=some (Fv fn l.toArray):=by
   rw[a5.out.r.E.cell (4+op) ag];unfold iH;rw[mm,bE.out]
  have bM:(op:Int)<23:=ag;have H:=aX.out g1 w5.drew (a5.out.kept (bo (aw _ _))).r (oy i.out HD.out).1;have a9:mD p (s1.gF t) g1 t (op,a,b,c)=ed op a b c fb (g.tb t) p.eb:=by
   show ed op a b c (g1.fb t (de (s1.gF t) t)) (g1.tb t) p.eb=_;rw[bK.out,aC.out]
  rw[a9]at H;have aV:=bj H;have bG:=HP;clear H a9 aX;rcases HF.out with⟨rfl|rfl|rfl|rfl,rfl⟩|⟨b1,rfl|rfl,rfl⟩|⟨b1,b2,rfl,rfl⟩
  all_goals
   clear HF;go_region_with ((first|go_at_call 101|go_at_call 102|go_at_call 104|go_at_call 108|go_at_call 163|go_at_call 151|go_at_call 167);refine aV.out.mono ?_;rintro e w6 ⟨why,s3,rfl,a8,g6,b0⟩;have aH:=bj a8;have bA:=bj b0;clear a8 b0)
   all_goals
    have a7:=bj ((a5.out.kept (bo (aw _ _))).trans bA.out);clear aV e5 x0 x1 x2 x3 x4 x5 x6 HX bF;by_cases Z:why=0
    .subst Z;have aK:Hid (jz p t s s3):=by
      show jz p t s s3;unfold jz;rw[a1.out,bf i.out.run];exact⟨0,s3,eV aD.out aH.out,by rw[bf rfl]⟩
     go_wp2_with fail
     go_end0;exact⟨rfl,s3,g6,aK.out,a7.out⟩
    obtain⟨v1,v2,v3⟩:=px (show((op,a,b,c):vF).1<23 from bH) aH.out;obtain⟨n8,bB⟩:∃n8:Nat,why=(n8:Int):=⟨why.toNat,ag⟩;have b9:=v3 Z;subst b9;subst bB;have aK:Hid (jz p t s ((s1.gF t).leave t (0,-(n8:Int)) 3 n8)):=by
     show jz p t s _;unfold jz;rw[a1.out,bf i.out.run];exact⟨n8,s1.gF t,eV aD.out aH.out,by rw[au Z]⟩
    have aJ:=Mg (why:=n8) ag a7.out.r bG.out (oy i.out HD.out).1 (by show s1.ev.length<=_;rw[KK.out.1];have:=HE.out;omega);rw[show g6.tb t=g.tb t from a7.out.t t aF.out]at aJ;have bI:=bj aJ;have bQ:=Z;clear aJ v1 v2 v3 Z;go_wp2_with fail
    refine du bI ?_;rintro w7 ⟨g7,b6⟩;have bL:=bj (a7.out.trans b6);clear b6;go_wp2_with fail
    go_end0;exact⟨rfl,_,g7,aK.out,bL.out⟩
theorem Nh(h:dZ p s g w)(hP:PW p)(hPI:PI p)(hR:Rn p s t)(hn:s.nt+1<=500000000)(G:s.ev.length<=1000): eL 134 #[P0 p.eb,P0 (g.tb t)] w λw'=>∃s' g',jz p t s s'/\Tr p s g w s' g' w':=by
 obtain⟨_,a3,_⟩:=tP 21 hR (gp hR.fw.n2);by_cases hr:((s.ends p t 21).T t).run=true
 .obtain⟨a5,hG,hx⟩:=a3 hr;obtain⟨a2,a8⟩:=oy a5 hx;have a7:=a5.ff;have a0:=hPI _ a7.1 (bw (s.ends p t 21) t).nx ag;generalize u:p.ins (bw (s.ends p t 21) t).f (bw (s.ends p t 21) t).nx=k at a0;obtain⟨H,a,b,c⟩:=k;rw[<-a8]at a0;have Z:((s.ends p t 21).gF t).ev.length<=100000:=by
   obtain⟨l,l1,l2,_⟩:=id hG;show(s.ends p t 21).ev.length<=_;rw[l1,cw];omega
  have a6:((s.ends p t 21).gF t).nt+1<=500000000:=by
   have:=hG.nt;show(s.ends p t 21).nt+1<=_;omega
  obtain⟨k0,k1,k2,k3,W,Y,k6,k7,k8,k9⟩:=a0;simp only at k0 k1 k2 k3 W Y k6 k7 k8 k9;have a4:((s.ends p t 21).gF t).kp.length<=1000000:=by have:=a2.ok.kl;have:=hP.n2;omega
  have a1:(((s.ends p t 21).gF t).T t).fr.length<=1000:=gp a2.fw.n2;have hc:=oU 22 H ag;repeat' rcases hc with rfl|hc
  .refine mi (qg (p.ac+1)) h hP hR G k0 (λ_=>⟨u,(hP.ea 0 ag).trans rfl⟩) (λ_ g1 w1 y i=>(i0 y hP i.iC (W ag ag) k2 k3).mono ?_);rintro e w' ⟨rfl,k⟩;exact⟨0,_,rfl,⟨rfl,rfl⟩,g1,k⟩
  .refine mi (qg (p.ac+3)) h hP hR G k0 (λ_=>⟨u,(hP.ea 1 ag).trans rfl⟩) (λ_ g1 w1 y i=>(i1 y hP i.iC (W ag ag) (Y ag)).mono ?_);rintro e w' ⟨rfl,k⟩;exact⟨0,_,rfl,⟨rfl,rfl⟩,g1,k⟩
  .refine mi (Bt (p.ac+4)) h hP hR G k0 (λ_=>⟨u,(hP.ea 2 ag).trans rfl⟩) (λ_ g1 w1 y i=>(i25 (o:=2) 2 y hP i.iC ag (W ag ag) (Y ag) (k6 ag)).mono ?_);rintro e w' (⟨q,rfl,k⟩|⟨q,rfl,k⟩)
   .exact⟨0,_,rfl,af ⟨q,rfl,rfl⟩,g1,k⟩
   exact⟨1,_,rfl,ah ⟨q,rfl,rfl⟩,g1,(Tr.refl y).kept k⟩
  .refine mi (Bt (p.ac+5)) h hP hR G k0 (λ_=>⟨u,(hP.ea 3 ag).trans rfl⟩) (λ_ g1 w1 y i=>(i25 (o:=3) 3 y hP i.iC ag (W ag ag) (Y ag) (k6 ag)).mono ?_);rintro e w' (⟨q,rfl,k⟩|⟨q,rfl,k⟩)
   .exact⟨0,_,rfl,af ⟨q,rfl,rfl⟩,g1,k⟩
   exact⟨1,_,rfl,ah ⟨q,rfl,rfl⟩,g1,(Tr.refl y).kept k⟩
  .refine mi (Bt (p.ac+6)) h hP hR G k0 (λ_=>⟨u,(hP.ea 4 ag).trans rfl⟩) (λ_ g1 w1 y i=>(i25 (o:=4) 4 y hP i.iC ag (W ag ag) (Y ag) (k6 ag)).mono ?_);rintro e w' (⟨q,rfl,k⟩|⟨q,rfl,k⟩)
   .exact⟨0,_,rfl,af ⟨q,rfl,rfl⟩,g1,k⟩
   exact⟨1,_,rfl,ah ⟨q,rfl,rfl⟩,g1,(Tr.refl y).kept k⟩
  .refine mi (Bt (p.ac+7)) h hP hR G k0 (λ_=>⟨u,(hP.ea 5 ag).trans rfl⟩) (λ_ g1 w1 y i=>(i25 (o:=5) 5 y hP i.iC ag (W ag ag) (Y ag) (k6 ag)).mono ?_);rintro e w' (⟨q,rfl,k⟩|⟨q,rfl,k⟩)
   .exact⟨0,_,rfl,af ⟨q,rfl,rfl⟩,g1,k⟩
   exact⟨1,_,rfl,ah ⟨q,rfl,rfl⟩,g1,(Tr.refl y).kept k⟩
  .refine mi (qg (p.ac+9)) h hP hR G k0 (λ_=>⟨u,(hP.ea 6 ag).trans rfl⟩) (λ_ g1 w1 y i=>(i6 y hP i.iC (W ag ag) (Y ag) (k6 ag)).mono ?_);rintro e w' ⟨rfl,k⟩;exact⟨0,_,rfl,⟨rfl,rfl⟩,g1,k⟩
  .refine mi (qg (p.ac+11)) h hP hR G k0 (λ_=>⟨u,(hP.ea 7 ag).trans rfl⟩) (λ_ g1 w1 y i=>(i7 y hP i.iC k2 k3).mono ?_);rintro e w' ⟨rfl,k⟩;exact⟨0,_,rfl,⟨rfl,rfl⟩,g1,k⟩
  .refine mi (qg (p.ac+13)) h hP hR G k0 (λ_=>⟨u,(hP.ea 8 ag).trans rfl⟩) (λ_ g1 w1 y i=>(i8 y hP i.iC (W ag ag) k2 k3).mono ?_);rintro e w' ⟨rfl,k⟩;exact⟨0,_,rfl,⟨rfl,rfl⟩,g1,k⟩
  .refine mi (qg (p.ac+15)) h hP hR G k0 (λ_=>⟨u,(hP.ea 9 ag).trans rfl⟩) (λ_ g1 w1 y i=>(i9 y hP i (W ag ag) (k8 rfl) Z).mono ?_);rintro e w' ⟨rfl,s3,J,q,k⟩;exact⟨0,s3,rfl,⟨rfl,q⟩,J,k⟩
  .exact mi (Fa (n:=101) ag) h hP hR G k0 (λ_=>⟨u,(hP.ea 10 ag).trans rfl⟩) (λ_ g1 w1 y i=>i10 y hP i (W ag ag) (Y ag) (k6 ag))
  .exact mi (Fa (n:=102) ag) h hP hR G k0 (λ_=>⟨u,(hP.ea 11 ag).trans rfl⟩) (λ_ g1 w1 y i=>i11 y hP i (W ag ag) (Y ag) (k6 ag))
  .refine mi (qg (p.ac+17)) h hP hR G k0 (λ_=>⟨u,(hP.ea 12 ag).trans rfl⟩) (λ_ g1 w1 y i=>(i12 y hP i (W ag ag) k2 (k6 ag) Z).mono ?_);rintro e w' ⟨rfl,s3,J,q,k⟩;exact⟨0,s3,rfl,⟨rfl,q⟩,J,k⟩
  .refine mi (Fa (n:=104) ag) h hP hR G k0 (λ_=>⟨u,(hP.ea 13 ag).trans rfl⟩) (λ_ g1 w1 y i=>(i13 y hP i.iC (Y ag) (k6 ag) (i.ok.AF (i.nM (Y ag))) i.lf a1 (λe=>(pP i.ok (i.nM (Y ag)) e).1)).mono ?_);rintro e w' ⟨rfl,J,k⟩;exact⟨_,_,rfl,⟨rfl,rfl⟩,J,k⟩
  .refine mi (qg (p.ac+18)) h hP hR G k0 (λ_=>⟨u,(hP.ea 14 ag).trans rfl⟩) (λ_ g1 w1 y i=>(i14 y hP i.iC (W ag ag) i.ok.lw i.ok.ww i.lf i.wh a1 i.lv i.ok.nd i.ok.lt i.ok.ol a4 Z (λe=>?_)).mono ?_)
   .have:=i.fw.b (de ((s.ends p t 21).gF t) t-1) (gp i.hi);rw[show de ((s.ends p t 21).gF t) t-1+1=de ((s.ends p t 21).gF t) t by omega]at this;exact this
   rintro e w' ⟨rfl,J,k⟩;exact⟨0,_,rfl,⟨rfl,rfl⟩,J,k⟩
  .refine mi (Fa (n:=108) ag) h hP hR G k0 (λ_=>⟨u,(hP.ea 15 ag).trans rfl⟩) (λ_ g1 w1 y i=>(i15 y hP i.iC (W ag ag) (Y ag) (k6 ag) (i.ok.AF (i.nM (Y ag))) (λe=>(pP i.ok (i.nM (Y ag)) e).1) i.ok.lw i.ok.nd i.ok.lt i.ok.ol a6).mono ?_);rintro e w' ⟨rfl,J,k⟩;exact⟨_,_,rfl,⟨rfl,rfl⟩,J,k⟩
  .refine mi (qg (p.ac+19)) h hP hR G k0 (λ_=>⟨u,(hP.ea 16 ag).trans rfl⟩) (λ_ g1 w1 y i=>(i16 y hP i.iC i.ok.lw i.wh).mono ?_);rintro e w' ⟨rfl,J,k⟩;exact⟨0,_,rfl,⟨rfl,rfl⟩,J,k⟩
  .refine mi (zj (p.ac+20) (p.ac+21)) h hP hR G k0 (λ_=>⟨u,(hP.ea 17 ag).trans rfl⟩) (λ_ g1 w1 y i=>(i17 y hP i.iC (W ag ag) i.ok.lw i.wh i.ok.c0 i.ok.c1).mono ?_);rintro e w' ⟨why,rfl,q,J,k⟩;exact⟨why,_,rfl,⟨q,rfl⟩,J,k⟩
  .refine mi (zj (p.ac+22) (p.ac+23)) h hP hR G k0 (λ_=>⟨u,(hP.ea 18 ag).trans rfl⟩) (λ_ g1 w1 y i=>(i18 y hP i.iC (W ag ag) (Y ag) i.ok.lw i.wh i.ok.nd i.ok.lt i.ok.ol).mono ?_);rintro e w' ⟨why,rfl,q,J,k⟩;exact⟨why,_,rfl,⟨q,rfl⟩,J,k⟩
  .refine mi (zj (p.ac+24) (p.ac+25)) h hP hR G k0 (λ_=>⟨u,(hP.ea 19 ag).trans rfl⟩) (λ_ g1 w1 y i=>(i19 y hP i.iC (W ag ag) i.ok.lw i.ok.ww i.ok.nd i.ok.lt i.ok.ol a4 Z).mono ?_);rintro e w' ⟨why,rfl,q,J,k⟩;exact⟨why,_,rfl,⟨q,rfl⟩,J,k⟩
  .refine mi (zj (p.ac+26) (p.ac+27)) h hP hR G k0 (λ_=>⟨u,(hP.ea 20 ag).trans rfl⟩) (λ_ g1 w1 y i=>(i20 y hP i.iC (W ag ag) Z).mono ?_);rintro e w' ⟨why,rfl,q,J,k⟩;exact⟨why,_,rfl,⟨q,rfl⟩,J,k⟩
  .refine mi (zj (p.ac+28) (p.ac+29)) h hP hR G k0 (λ_=>⟨u,(hP.ea 21 ag).trans rfl⟩) (λ_ g1 w1 y i=>(i21 y hP i.iC (W ag ag) (Y ag) i.ok.lw i.wh i.ok.bt).mono ?_);rintro e w' ⟨why,rfl,q,J,k⟩;exact⟨why,_,rfl,⟨q,rfl⟩,J,k⟩
  refine mi (qg (p.ac+31)) h hP hR G k0 (λ_=>⟨u,(hP.ea 22 ag).trans rfl⟩) (λ_ g1 w1 y i=>(i22 y hP i.iC (W ag ag)).mono ?_);rintro e w' ⟨rfl,k⟩;exact⟨0,_,rfl,⟨rfl,rfl⟩,g1,k⟩
 exact mi (Fa (n:=101) ag) (op:=0) (a:=0) (b:=0) (c:=0) h hP hR G ag (λe=>dp e hr) (λe=>dp e hr)
end F
namespace F
def Gf{w:aa}{sb pb eb n:Nat}(h:Go.Proofs.YtnjiinbhbjpfkaaGreatDoor.kD w sb pb eb n B.G0 Go.Proofs.YtnjiinbhbjpfkaaGreatDoor.BJ (λ_=>[])):kD w sb pb eb n B.G0 BJ (λ_=>[]):=by
 refine⟨h.b,⟨h.p.p.congr (λj _=>?_),λp _ _ e=>(by cases e),λp q _ _ _ _ e=>(by cases e),λp e=>(by cases e),λp e=>(by cases e)⟩,λc i=>(by cases i)⟩;unfold Go.Proofs.YtnjiinbhbjpfkaaGreatDoor.jI jI;rfl
def oj:Pl:=⟨0,λ_=>rZ,λ_ _=>[],[],[],[],[],λ_=>[],false,0,B.G0,λ_=>[],λ_=>0⟩
def F0:eJ:=⟨λ_=>0,λ_ _=>(none,0),λ_ _=>0,λ_ _=>0,λ_=>0,λ_=>0,λ_=>0,λ_=>0,0,0,none,0⟩
def LF(p:dL):Ok p oj:=by
 have J:eG p oj=[]:=rfl;refine { lw:=⟨λt ht=>?_,λx y _ t ht=>?_,λx y _=>List.nodup_nil,dk _⟩,ww:=λt ht=>?_,nd:=List.nodup_nil,lt:=λu e=>?_,ql:=λx y _ t ht=>?_,lf:=λu e=>?_,rn:=λu e=>?_,ol:=rfl,ok:=λv o=>?_,kn:=List.nodup_nil,kz:=λv o=>?_,fw:=λu e=>?_,hl:=?_,fc:=λk _ _ _=>dk _,bt:=λk=>⟨dk _,λx Y=>?_⟩,c0:=Int.le_refl _,c1:=by show(0:Int)<=_;omega }
 .have G:=ht.1;have H:t<=0:=ht.2;omega
 .cases ht
 .have G:=ht.1;have H:t<=0:=ht.2;omega
 .cases e
 .cases ht
 .have G:=e.1;have H:u<=0:=e.2;omega
 .have G:=e.1;have H:u<=0:=e.2;omega
 .cases o
 .cases o
 .cases e
 .rw[J];exact⟨λi hi=>dp hi (Nat.not_lt_zero _),λp _ v o=>(by cases o),λc W=>(by cases W)⟩
 cases Y
section
variable (w7:aa)(s:ByteArray)(eb sb pb ac g n q wk t:Nat)(gs:Nat → Nat)
def sk:dL:=⟨eb,sb,pb,n,M.bt s 0,g,gs,λk=>M.bt s (M.pos s k+1),λk=>M.bt s (M.pos s k),λk i=>rj s (M.pos s k+2+4*i),q,wk,t,ac+1,eC (CR (.slice (some ⟨g,0,none⟩) (M.bt s 0) (M.bt s 0)) q wk t ac) 27 (P0 sb),λk=>k=g\/(∃f,f<M.bt s 0/\k=gs f)\/(ac+1<=k/\k<ac+33),λk=>w7.heap[k]?⟩
end
structure zz(w7:aa) (s:ByteArray) (eb sb pb ac g n q wk t:Nat) (gs:Nat->Nat):Prop where
 ok:(M.m9 s).2=true
 n1:1<=n
 n2:n<=200
 hg:Full w7 g 178 (M.bt s 0*2) (M.bt s 0*2) (zh s gs)
 hf:∀k,k<M.bt s 0->2<=M.bt s (M.pos s k)/\M.bt s (M.pos s k)<=8/\1<=M.bt s (M.pos s k+1)/\M.bt s (M.pos s k+1)<=200/\Full w7 (gs k) 183 (M.bt s (M.pos s k+1)*4) (M.bt s (M.pos s k+1)*4) (qh s (M.pos s k+2))
 ha:∀k x,(nJ (ac+1))[k]? = some x->w7.heap[ac+1+k]? = some (.cells #[x.1] x.2 (0,0))
 st:kD w7 sb pb eb n B.G0 BJ (λ_=>[])
 en:Full w7 eb 144 44 44 (eC (CR (.slice (some ⟨g,0,none⟩) (M.bt s 0) (M.bt s 0)) q wk t ac) 27 (P0 sb))
section
variable {w7:aa}{s:ByteArray}{eb sb pb ac g n q wk t:Nat}{gs:Nat → Nat} (h:zz w7 s eb sb pb ac g n q wk t gs)
include h
theorem zz.box{j:Nat}(e:j<32):w7.heap[ac+1+j]? = some (.cells #[((nJ (ac+1)).getD j (undef,0)).1] ((nJ (ac+1)).getD j (undef,0)).2 (0,0)):=by
 have i:(nJ (ac+1)).length=32:=rfl;grind[List.getElem?_eq_getElem,F.zz.ha]
theorem zz.pw:PW (sk w7 s eb sb pb ac g n q wk t gs):=by
 have u:∀w,Fix (sk w7 s eb sb pb ac g n q wk t gs) w->∀k,(k=g\/(∃f,f<M.bt s 0/\k=gs f)\/(ac+1<=k/\k<ac+33))->w.heap[k]? = w7.heap[k]?:=λw hw k H=>hw k H;refine⟨h.n1,h.n2,rfl,rfl,rfl,rfl,rfl,af rfl,λw hw f y=>?_,λf y=>⟨(h.hf f y).1,(h.hf f y).2.1⟩,λo ho=>?_,λw hw j J=>?_,λw hw f y=>?_,λf y=>(h.hf f y).2.2.2.1⟩
 .have hG:=h.hg.block (u w hw g (af rfl));have Y:f<M.bt s 0:=y;have c0:=hG.cell (f*2) ag;refine⟨c0.trans ?_,(hG.cell (f*2+1) ag).trans ?_⟩
  .unfold zh;rw[mm,show f*2 / 2=f by omega];rfl
  unfold zh;rw[eD,show(f*2+1) / 2=f by omega];rfl
 .have W:=oU 22 o ag;rcases W with rfl|rfl|rfl|rfl|rfl|rfl|rfl|rfl|rfl|rfl|rfl|rfl|rfl|rfl|rfl|rfl|rfl|rfl|rfl|rfl|rfl|rfl|rfl<;>rfl
 .have e:w.heap[ac+1+j]? = w7.heap[ac+1+j]?:=u w hw _ (ah (ah ⟨ag,ag⟩));rw[h.box J]at e;refine⟨?_,e⟩;show dS w (ac+1+j) 0=_;simp only[World.cell?,e];rfl
 have G:=(h.hf f y).2.2.2.2.block (u w hw (gs f) (ah (af ⟨f,y,rfl⟩)));refine⟨G.lt,λi hi=>?_⟩;have a0:i<M.bt s (M.pos s f+1):=hi;refine⟨(G.cell (i*4) ag).trans ?_,(G.cell (i*4+1) ag).trans ?_,(G.cell (i*4+2) ag).trans ?_,(G.cell (i*4+3) ag).trans ?_⟩
 .show some (Value.int .u8 (M.bt s (M.pos s f+2+i*4):Int))=some (Value.int .u8 (M.bt s (M.pos s f+2+4*i):Int));grind
 .show some (Value.int .u8 (M.bt s (M.pos s f+2+(i*4+1)):Int))=some (Value.int .u8 (M.bt s (M.pos s f+2+4*i+1):Int));grind
 .show some (Value.int .u8 (M.bt s (M.pos s f+2+(i*4+2)):Int))=some (Value.int .u8 (M.bt s (M.pos s f+2+4*i+2):Int));grind
 show some (Value.int .u8 (M.bt s (M.pos s f+2+(i*4+3)):Int))=some (Value.int .u8 (M.bt s (M.pos s f+2+4*i+3):Int));grind
def zz.pi:PI (sk w7 s eb sb pb ac g n q wk t gs):=Ju h.ok (λ_=>rfl) rfl (λ_=>rfl) (λ_ _=>rfl)
theorem zz.Ma{k:Nat}(J:(sk w7 s eb sb pb ac g n q wk t gs).fx k):k<w7.heap.size/\k≠eb/\k≠sb/\k≠pb:=by
 have G:=h.st.b;have H:=h.st.p.p;rcases J with rfl|⟨f,W,rfl⟩|⟨Y,Z⟩
 .refine⟨h.hg.lt,h.hg.ne h.en ek,?_,h.hg.ne H ek⟩;obtain⟨u,c1,_⟩:=h.hg;grind
 .have y:=(h.hf f W).2.2.2.2;refine⟨y.lt,y.ne h.en ek,?_,y.ne H ek⟩;obtain⟨u,c1,_⟩:=y;grind
 obtain⟨j,rfl⟩:∃j,k=ac+1+j:=⟨k-(ac+1),ag⟩;have i:=h.box (j:=j) ag;refine⟨ch i,λe=>?_,λe=>?_,λe=>?_⟩
 .obtain⟨u,c1,o,_⟩:=h.en;grind
 .grind
 obtain⟨u,c1,o,_⟩:=H;grind
theorem zz.rep:dZ (sk w7 s eb sb pb ac g n q wk t gs) oj F0 w7:=by
 have Y:eb≠sb/\eb≠pb:=by
  refine⟨λe=>?_,h.en.ne h.st.p.p ek⟩;obtain⟨a5,c1,_⟩:=h.en;rw[e,h.st.b]at c1;injection c1 with c1;injection c1 with _ c2 _;exact dp c2 ek
 have a0:∀k,rA sb pb n B.G0 (kE oj F0) k->k=sb\/k=pb:=λk i=>by
  rcases i with u|u|⟨_,_,_,u,_⟩|⟨u,_⟩
  .omega
  .omega
  .cases u
  cases u
 have H:∀x y z,gY oj x y z=true->(x=0\/x=1\/x=18\/fe x)/\z=0/\(x<=1\/x=18->y=0):=λx y z o=>by
  have a6:=rJ o;by_cases a:x=5\/x=11\/x=12\/x=15\/x=16
  .have:=(kj o a).1;have u:=this.1;have h2:y<=0:=this.2;omega
  by_cases b:x=13\/x=14
  .have:=(nA o b).1;have u:=this.1;have h2:y<=0:=this.2;omega
  by_cases c:x=17
  .subst c;have:=(mg o).1;have u:=this.1;have h2:y<=0:=this.2;omega
  by_cases d:x=4\/x=10
  .have:=(zH o d).2;grind[fe]
  grind[lT,fe]
 refine⟨λx y z=>?_,λx y z x' y' z' k i a4=>?_⟩
 .by_cases o:gY oj x y z=true
  .obtain⟨W,hz,hy⟩:=H x y z o;rw[hZ o];rcases W with rfl|rfl|rfl|W
   .show Full w7 eb 144 44 44 (iH (sk w7 s eb sb pb ac g n q wk t gs) oj F0);refine h.en.congr (λj hj=>?_);unfold iH;by_cases e1:j<28
    .rw[bf e1];rfl
    rw[au e1];have hc:j=28\/j=29\/j=30\/j=31\/j=32\/j=33\/j=34\/j=35\/j=36\/j=37\/j=38\/j=39\/j=40\/j=41\/j=42\/j=43:=ag
    rcases hc with rfl|rfl|rfl|rfl|rfl|rfl|rfl|rfl|rfl|rfl|rfl|rfl|rfl|rfl|rfl|rfl<;>rfl
   .exact h.st
   .show ∀k,_->k<w7.heap.size/\w7.heap[k]? = _;intro k i;exact⟨(h.Ma i).1,rfl⟩
   rw[g9 W];have hl:eS oj x y=0:=by unfold eS oj;simp[rZ]
   have hc:gu oj F0 x y=[]:=by unfold gu oj;simp[rZ,gT,mA,iI]
   show w7.ownsRow 0 (AU x) (AV x) (.slice (F0.ro x y).1 (eS oj x y) (F0.ro x y).2) (eS oj x y) (gu oj F0 x y);rw[hl,hc];exact eg _ _ _ _
  rw[vw o];trivial
 have Z:∀x y z,(ob (sk w7 s eb sb pb ac g n q wk t gs) oj F0 x y z).bs k->y=0/\z=0/\((x=0/\k=eb)\/(x=1/\(k=sb\/k=pb))\/(x=18/\(sk w7 s eb sb pb ac g n q wk t gs).fx k)):=λx y z i=>by
  by_cases o:gY oj x y z=true
  .obtain⟨W,hz,hy⟩:=H x y z o;rw[hZ o]at i;rcases W with rfl|rfl|rfl|W
   .exact⟨hy ag,hz,af ⟨rfl,i⟩⟩
   .exact⟨hy ag,hz,ah (af ⟨rfl,a0 k i⟩)⟩
   .exact⟨hy ag,hz,ah (ah ⟨rfl,i⟩)⟩
   rw[g9 W]at i
   cases i
  rw[vw o]at i;exact i.elim
 obtain⟨a1,a2,a3⟩:=Z x y z i;obtain⟨b1,b2,b3⟩:=Z x' y' z' a4;refine⟨?_,ag,ag⟩;rcases a3 with⟨e1,e2⟩|⟨e1,e2⟩|⟨e1,e2⟩
 .rcases b3 with⟨J,G⟩|⟨J,G⟩|⟨J,G⟩
  .omega
  .have:=Y;omega
  have:=(h.Ma G).2.1;omega
 .rcases b3 with⟨J,G⟩|⟨J,G⟩|⟨J,G⟩
  .have:=Y;omega
  .omega
  have:=(h.Ma G).2.2;omega
 rcases b3 with⟨J,G⟩|⟨J,G⟩|⟨J,G⟩
 .have:=(h.Ma e2).2.1;omega
 .have:=(h.Ma e2).2.2;omega
 omega
end
def Tr.below{p:dL}{s s':Pl}{g g':eJ}{w w':aa}{N:Nat}(h:dZ p s g w)(e:Tr p s g w s' g' w')(y:∀k,eH p s g k->N<=k\/p.fx k)(H:N<=w.heap.size):Below N w w':=by
 refine⟨e.o.1,e.o.2.1,e.o.2.2.1,e.o.size,λk G=>?_⟩;by_cases u:eH p s g k
 .have i:=(y k u).resolve_left ag;rw[(e.r.X k i).2,(h.X k i).2]
 exact e.o.same ag u
