import Derived.Test.YtnjiinbhbjpfkaaGreatDoorAf
set_option maxRecDepth 100000
set_option maxHeartbeats 0
set_option linter.all false
namespace Go.Proofs.YtnjiinbhbjpfkaaGreatDoor
open Go.RowKit Go.Proofs.Tryz
namespace F
variable {g:eM}{p:dH}{s:Pl}{t x y:Nat}{w:aa}
def NK(fn:Nat)(l:List Value):Prop:=
 ((fn=101\/fn=102\/fn=104\/fn=108)/\l=[])\/(∃b,(fn=163\/fn=151)/\l=[P0 b])\/∃b c,fn=167/\l=[P0 b,P0 c]
def qG(b:Nat):NK 163 [P0 b]:=ak<|ag ⟨b,ag rfl,rfl⟩
def B3(b:Nat):NK 151 [P0 b]:=ak<|ag ⟨b,ak rfl,rfl⟩
def zV(b c:Nat):NK 167 [P0 b,P0 c]:=ak<|ak ⟨b,c,rfl,rfl⟩
def F4{n:Nat}(h:n=101\/n=102\/n=104\/n=108):NK n []:=ag ⟨h,rfl⟩
theorem mK{fn:Nat}{l:List Value}(aT:NK fn l){op a b c:Nat}(h:dZ p s g w)(hP:PW p)(hR:Rn p s t)(aP:s.ev.length<=1000)(bH:op<23)(hi:((s.ends p t 21).T t).run=true->p.ins (bz (s.ends p t 21) t).f (bz (s.ends p t 21) t).nx=(op,a,b,c)/\p.E0 (4+op)=Fv fn l.toArray)(hc:((s.ends p t 21).T t).run=true->∀g1 w1,dZ p ((s.ends p t 21).gL t) g1 w1->Rn p ((s.ends p t 21).gL t) t->Calls prog fn (mU p ((s.ends p t 21).gL t) g1 t (op,a,b,c) :: l).toArray w1 λe w'=>∃(why:Int) (s3:Pl),e=.returned (ah why)/\ku p ((s.ends p t 21).gL t) t (op,a,b,c) why s3/\∃g',Tr p ((s.ends p t 21).gL t) g1 w1 s3 g' w'):eN 134 #[P0 p.eb,P0<|g.tb t] w λw'=>∃s' g',jv p t s s'/\Tr p s g w s' g' w':=by
 have HF:=bj aT;have HC:=bj hc;have HI:=bj hi;have HE:=bj aP;have HP:=bj hP;have aF:=bj hR.ht;have b5:Hid (LJ p s g w t (s.T t).fr.length w):=⟨s,g,21,Tr.refl h,hR,rfl,dQ hR.fw.n2 af,rfl,rfl⟩;clear aT hc hi aP hP hR h;delta eN;go_in;go_wp2_with fail
 go_loopg [] ((s.T t).fr.length) (λn wr=>Hid<|LJ p s g w t n wr)
 case atStart=>exact b5
 case round=>
  obtain⟨s1,g1,k,hT,aE,aN,aZ,hS,aQ⟩:=hrel.out;have aL:=hT.t t aF.out;have o:=Mh hT.r aE;rw[aL]at o;have u:=bj o;have KT:=bj hT;have i:=bj aE;have KK:=bj<|bh aN<|bh aZ<|bh hS aQ;have aC:=bj aL;clear o hT aE aN aZ hS aQ aL b5;go_wp2_with fail
  refine dq u λw1 aS=>?_;have aY:=bj aS;clear aS u;go_wp2_with fail
  refine dq (LG (KT.out.r.kept aY.out) i.out) λw2 aO=>?_;have aB:=bj<|ar aY.out aO;clear aO;by_cases hd:(bz s1 t).nx=p.len (bz s1 t).f
  .have a0:decide ((bz s1 t).nx=p.len (bz s1 t).f)=true:=iE hd
   have HD:=bj hd;simp only[a0];clear hd a0;go_wp2_with fail
   refine dq (fK 0 _) ?_;rintro w3 rfl;go_wp2_with fail
   have a3:=bj<|ax aB.out<|.cells #[ah 0,ah 0] 149;have a6:=Dv (0,0) (KT.out.r.kept a3.out) HP.out i.out (by rw[KK.out.1];have:=HE.out;omega);rw[aC.out]at a6;refine dq a6 ?_;rintro w4 ⟨g4,J⟩;have y:=(KT.out.kept a3.out).trans J;have G:=y.t t aF.out;have hB:=i.out.ok.back i.out.lv i.out.wh<|dV.num (s:=s1) 0;have W:=oH i.out.ok.lw i.out.ht (0,0);have a2:=nO s1 t (0,0);have a4:ft (s1.back t (0,0)) t:=by
    by_cases e0:de s1 t=0
    .exact(eB (a2.1 e0).2.2).2 i.out.ht
    exact(eB (a2.2 e0).2.2.1).2 i.out.ht
   by_cases e0:de s1 t=0
   .have c2:=y.r.run a4<|W.1 e0;rw[G]at c2;have aG:=bj y;have Y:s.ends p t 21=s1.back t (0,0):=by
     obtain⟨_,q2,q3,_⟩:=KK.out;obtain⟨k',rfl⟩:∃k',k=k'+1:=⟨k-1,gD i.out.hi⟩;rw[xd i.out.run HD.out,DD k'<|W.1 e0]at q3;exact q3.symm
    have a1:=bj<|bh Y<|W.1 e0;clear a6 J y G hB W a2 a4 e0 Y;go_wp2_with fail
    refine dg (results_none rfl _ _ _) rfl ?_;refine⟨rfl,s1.back t (0,0),g4,?_,?_⟩
    .unfold jv;rw[a1.out.1,av (by rw[a1.out.2];decide)]
    first|exact aG.out|exact aG.out.kept (bo<|aw _ _)|exact aG.out.kept<|df (aw _ _) _
   obtain⟨r1,r2⟩:=W.2 e0;obtain⟨b1,b2,b3,b4⟩:=a2.2 e0;have c2:=y.r.run a4<|r1.trans i.out.run;rw[G]at c2;have aW:∀w5,w4.grownBy w5 none->LJ p s g w t ((s1.T t).fr.length-1) w5:=λw5 bJ=>by
    obtain⟨q1,q2,q3,q4⟩:=KK.out;obtain⟨k',rfl⟩:∃k',k=k'+1:=⟨k-1,gD i.out.hi⟩;rw[xd i.out.run HD.out]at q3;exact⟨s1.back t (0,0),g4,k',y.kept bJ,⟨hB,eZ b1 i.out.lv,r1.trans i.out.run⟩,b2.trans q1,lD r2,q3,r2⟩
   have aI:=bj aW;clear a6 J y G hB W a2 a4 e0 r1 r2 b1 b2 b3 b4 aW;go_wp2_with fail
   go_roundg ((s1.T t).fr.length-1)
   case measure=>
    have q4:=KK.out.2.2.2;have q5:=i.out.hi;omega
   case rel=>first|exact aI.out _ (aw _ _)|exact aI.out _ (bo<|aw _ _)|exact aI.out _<|df (aw _ _) _
  have a0:decide ((bz s1 t).nx=p.len (bz s1 t).f)=false:=iE hd
  have Y:s.ends p t 21=s1:=by
   obtain⟨_,q2,q3,_⟩:=KK.out;rw[<-q3];exact DE (gD i.out.hi) hd
  rw[Y]at HC HI;have aX:=bj<|HC.out i.out.run;obtain⟨aR,aU⟩:=HI.out i.out.run;have aD:=bj aR;have bE:=bj aU;have HD:=bj hd;have a1:=bj Y;have o:=Mh (KT.out.r.kept aB.out) i.out;rw[aC.out]at o;have u:=bj o;simp only[a0];clear hd a0 Y HC HI aR aU o;go_wp2_with fail
  refine dq u λw3 aM=>?_;have a3:=bj<|ar aB.out aM;clear aM u;go_wp2_with fail
  refine dq (Mj (KT.out.r.kept a3.out) HP.out i.out HD.out aD.out) λw4 J=>?_;have b8:=bj<|(KT.out.kept a3.out).trans J;clear J;have aA:g1.fb t (de (s1.gL t) t)=g1.fb t (de s1 t):=by rw[Cs]
  generalize bD:g1.fb t (de s1 t)=fb at*;have bK:=bj aA;clear aA bD;go_wp2_with fail
  have HX:=bj<|iU w4 op a b c fb (g.tb t) p.eb;have bC:=bj<|aj w4 (.cells #[dz (op:Int),dz (a:Int),dz (b:Int),dz (c:Int),P0 fb,P0<|g.tb t,P0 p.eb] 186) none;have bF:(w4.alloc<|.cells #[dz (op:Int),dz (a:Int),dz (b:Int),dz (c:Int),P0 fb,P0<|g.tb t,P0 p.eb] 186).heap.size=w4.heap.size+1:=eG
  generalize hW:w4.alloc (.cells #[dz (op:Int),dz (a:Int),dz (b:Int),dz (c:Int),P0 fb,P0<|g.tb t,P0 p.eb] 186)=w5 at*;clear hW;obtain⟨x0,x1,x2,x3,x4,x5,x6⟩:=fe HX.out;have a5:=bj<|b8.out.kept bC.out;have e5:w5.cell? (az p.eb<|4+op)=some (Fv fn l.toArray):=by
   rw[a5.out.r.E.cell (4+op) af];unfold iQ;rw[mL,bE.out]
  have bM:(op:Int)<23:=af
  have H:=aX.out g1 w5.drew (a5.out.kept<|bo<|aw _ _).r (oO i.out HD.out).1;have a9:mU p (s1.gL t) g1 t (op,a,b,c)=ee op a b c fb (g.tb t) p.eb:=by
   show ee op a b c (g1.fb t<|de (s1.gL t) t) (g1.tb t) p.eb=_;rw[bK.out,aC.out]
  rw[a9]at H;have aV:=bj H;have bG:=HP;clear H a9 aX;rcases HF.out with⟨rfl|rfl|rfl|rfl,rfl⟩|⟨b1,rfl|rfl,rfl⟩|⟨b1,b2,rfl,rfl⟩
  all_goals
   clear HF;go_region_with ((first|go_at_call 101|go_at_call 102|go_at_call 104|go_at_call 108|go_at_call 163|go_at_call 151|go_at_call 167);refine aV.out.mono ?_;rintro e w6 ⟨why,s3,rfl,a8,g6,b0⟩;have aH:=bj a8;have bA:=bj b0;clear a8 b0)
   all_goals
    have a7:=bj<|(a5.out.kept<|bo<|aw _ _).trans bA.out;clear aV e5 x0 x1 x2 x3 x4 x5 x6 HX bF;by_cases Z:why=0
    .subst Z;have aK:Hid (jv p t s s3):=by
      show jv p t s s3;unfold jv;rw[a1.out,bf i.out.run];exact⟨0,s3,eZ aD.out aH.out,by rw[bf rfl]⟩
     go_wp2_with fail
     go_end0;exact⟨rfl,s3,g6,aK.out,a7.out⟩
    obtain⟨v1,v2,v3⟩:=pN (show((op,a,b,c):vV).1<23 from bH) aH.out;obtain⟨n8,bB⟩:∃n8:Nat,why=(n8:Int):=⟨why.toNat,af⟩;have b9:=v3 Z;subst b9;subst bB;have aK:Hid (jv p t s<|(s1.gL t).leave t (0,-(n8:Int)) 3 n8):=by
     show jv p t s _;unfold jv;rw[a1.out,bf i.out.run];exact⟨n8,s1.gL t,eZ aD.out aH.out,by rw[av Z]⟩
    have aJ:=Nd (why:=n8) af a7.out.r bG.out (oO i.out HD.out).1 (by show s1.ev.length<=_;rw[KK.out.1];have:=HE.out;omega);rw[show g6.tb t=g.tb t from a7.out.t t aF.out]at aJ;have bI:=bj aJ;have bQ:=Z;clear aJ v1 v2 v3 Z;go_wp2_with fail
    refine dq bI ?_;rintro w7 ⟨g7,b6⟩;have bL:=bj<|a7.out.trans b6;clear b6;go_wp2_with fail
    go_end0;exact⟨rfl,_,g7,aK.out,bL.out⟩
theorem Oj(h:dZ p s g w)(hP:PW p)(hPI:PI p)(hR:Rn p s t)(hn:s.nt+1<=500000000)(G:s.ev.length<=1000):eN 134 #[P0 p.eb,P0<|g.tb t] w λw'=>∃s' g',jv p t s s'/\Tr p s g w s' g' w':=by
 let⟨_,a3,_⟩:=uv 21 hR<|gD hR.fw.n2;by_cases hr:((s.ends p t 21).T t).run=true
 .let⟨a5,hG,hx⟩:=a3 hr;let⟨a2,a8⟩:=oO a5 hx;have a7:=a5.ff;have a0:=hPI _ a7.1 (bz (s.ends p t 21) t).nx af;generalize u:p.ins (bz (s.ends p t 21) t).f (bz (s.ends p t 21) t).nx=k at a0;obtain⟨H,a,b,c⟩:=k;rw[<-a8]at a0;have Z:((s.ends p t 21).gL t).ev.length<=100000:=by
   let⟨l,l1,l2,_⟩:=id hG;show(s.ends p t 21).ev.length<=_;rw[l1,db];omega
  have a6:((s.ends p t 21).gL t).nt+1<=500000000:=by
   have:=hG.nt;show(s.ends p t 21).nt+1<=_;omega
  obtain⟨k0,k1,k2,k3,W,Y,k6,k7,k8,k9⟩:=a0;simp only at k0 k1 k2 k3 W Y k6 k7 k8 k9;have a4:((s.ends p t 21).gL t).kp.length<=1000000:=by have:=a2.ok.kl;have:=hP.n2;omega
  have a1:(((s.ends p t 21).gL t).T t).fr.length<=1000:=gD a2.fw.n2
  have hc:=pS 22 H af
  repeat' rcases hc with rfl|hc
  .refine mK (qG<|p.ac+1) h hP hR G k0 (λ_=>⟨u,(hP.ea 0 af).trans rfl⟩)<|λ_ g1 w1 y i=>(i0 y hP i.iB (W af af) k2 k3).mono ?_;rintro e w' ⟨rfl,k⟩;exact⟨0,_,rfl,⟨rfl,rfl⟩,g1,k⟩
  .refine mK (qG<|p.ac+3) h hP hR G k0 (λ_=>⟨u,(hP.ea 1 af).trans rfl⟩)<|λ_ g1 w1 y i=>(i1 y hP i.iB (W af af)<|Y af).mono ?_;rintro e w' ⟨rfl,k⟩;exact⟨0,_,rfl,⟨rfl,rfl⟩,g1,k⟩
  .refine mK (B3<|p.ac+4) h hP hR G k0 (λ_=>⟨u,(hP.ea 2 af).trans rfl⟩)<|λ_ g1 w1 y i=>(i25 (o:=2) 2 y hP i.iB af (W af af) (Y af)<|k6 af).mono ?_;rintro e w' (⟨q,rfl,k⟩|⟨q,rfl,k⟩)
   .exact⟨0,_,rfl,ag ⟨q,rfl,rfl⟩,g1,k⟩
   exact⟨1,_,rfl,ak ⟨q,rfl,rfl⟩,g1,(Tr.refl y).kept k⟩
  .refine mK (B3<|p.ac+5) h hP hR G k0 (λ_=>⟨u,(hP.ea 3 af).trans rfl⟩)<|λ_ g1 w1 y i=>(i25 (o:=3) 3 y hP i.iB af (W af af) (Y af)<|k6 af).mono ?_;rintro e w' (⟨q,rfl,k⟩|⟨q,rfl,k⟩)
   .exact⟨0,_,rfl,ag ⟨q,rfl,rfl⟩,g1,k⟩
   exact⟨1,_,rfl,ak ⟨q,rfl,rfl⟩,g1,(Tr.refl y).kept k⟩
  .refine mK (B3<|p.ac+6) h hP hR G k0 (λ_=>⟨u,(hP.ea 4 af).trans rfl⟩)<|λ_ g1 w1 y i=>(i25 (o:=4) 4 y hP i.iB af (W af af) (Y af)<|k6 af).mono ?_;rintro e w' (⟨q,rfl,k⟩|⟨q,rfl,k⟩)
   .exact⟨0,_,rfl,ag ⟨q,rfl,rfl⟩,g1,k⟩
   exact⟨1,_,rfl,ak ⟨q,rfl,rfl⟩,g1,(Tr.refl y).kept k⟩
  .refine mK (B3<|p.ac+7) h hP hR G k0 (λ_=>⟨u,(hP.ea 5 af).trans rfl⟩)<|λ_ g1 w1 y i=>(i25 (o:=5) 5 y hP i.iB af (W af af) (Y af)<|k6 af).mono ?_;rintro e w' (⟨q,rfl,k⟩|⟨q,rfl,k⟩)
   .exact⟨0,_,rfl,ag ⟨q,rfl,rfl⟩,g1,k⟩
   exact⟨1,_,rfl,ak ⟨q,rfl,rfl⟩,g1,(Tr.refl y).kept k⟩
  .refine mK (qG<|p.ac+9) h hP hR G k0 (λ_=>⟨u,(hP.ea 6 af).trans rfl⟩)<|λ_ g1 w1 y i=>(i6 y hP i.iB (W af af) (Y af)<|k6 af).mono ?_;rintro e w' ⟨rfl,k⟩;exact⟨0,_,rfl,⟨rfl,rfl⟩,g1,k⟩
  .refine mK (qG<|p.ac+11) h hP hR G k0 (λ_=>⟨u,(hP.ea 7 af).trans rfl⟩)<|λ_ g1 w1 y i=>(i7 y hP i.iB k2 k3).mono ?_;rintro e w' ⟨rfl,k⟩;exact⟨0,_,rfl,⟨rfl,rfl⟩,g1,k⟩
  .refine mK (qG<|p.ac+13) h hP hR G k0 (λ_=>⟨u,(hP.ea 8 af).trans rfl⟩)<|λ_ g1 w1 y i=>(i8 y hP i.iB (W af af) k2 k3).mono ?_;rintro e w' ⟨rfl,k⟩;exact⟨0,_,rfl,⟨rfl,rfl⟩,g1,k⟩
  .refine mK (qG<|p.ac+15) h hP hR G k0 (λ_=>⟨u,(hP.ea 9 af).trans rfl⟩)<|λ_ g1 w1 y i=>(i9 y hP i (W af af) (k8 rfl) Z).mono ?_;rintro e w' ⟨rfl,s3,J,q,k⟩;exact⟨0,s3,rfl,⟨rfl,q⟩,J,k⟩
  .exact mK (F4 (n:=101) af) h hP hR G k0 (λ_=>⟨u,(hP.ea 10 af).trans rfl⟩)<|λ_ g1 w1 y i=>i10 y hP i (W af af) (Y af)<|k6 af
  .exact mK (F4 (n:=102) af) h hP hR G k0 (λ_=>⟨u,(hP.ea 11 af).trans rfl⟩)<|λ_ g1 w1 y i=>i11 y hP i (W af af) (Y af)<|k6 af
  .refine mK (qG<|p.ac+17) h hP hR G k0 (λ_=>⟨u,(hP.ea 12 af).trans rfl⟩)<|λ_ g1 w1 y i=>(i12 y hP i (W af af) k2 (k6 af) Z).mono ?_;rintro e w' ⟨rfl,s3,J,q,k⟩;exact⟨0,s3,rfl,⟨rfl,q⟩,J,k⟩
  .refine mK (F4 (n:=104) af) h hP hR G k0 (λ_=>⟨u,(hP.ea 13 af).trans rfl⟩)<|λ_ g1 w1 y i=>(i13 y hP i.iB (Y af) (k6 af) (i.ok.Al<|i.n9<|Y af) i.lf a1<|λe=>(qw i.ok (i.n9<|Y af) e).1).mono ?_;rintro e w' ⟨rfl,J,k⟩;exact⟨_,_,rfl,⟨rfl,rfl⟩,J,k⟩
  .refine mK (qG<|p.ac+18) h hP hR G k0 (λ_=>⟨u,(hP.ea 14 af).trans rfl⟩)<|λ_ g1 w1 y i=>(i14 y hP i.iB (W af af) i.ok.lw i.ok.ww i.lf i.wh a1 i.lv i.ok.nd i.ok.lt i.ok.ol a4 Z<|λe=>?_).mono ?_
   .have:=i.fw.b (de ((s.ends p t 21).gL t) t-1)<|gD i.hi;rw[show de ((s.ends p t 21).gL t) t-1+1=de ((s.ends p t 21).gL t) t by omega]at this;exact this
   rintro e w' ⟨rfl,J,k⟩;exact⟨0,_,rfl,⟨rfl,rfl⟩,J,k⟩
  .refine mK (F4 (n:=108) af) h hP hR G k0 (λ_=>⟨u,(hP.ea 15 af).trans rfl⟩)<|λ_ g1 w1 y i=>(i15 y hP i.iB (W af af) (Y af) (k6 af) (i.ok.Al<|i.n9<|Y af) (λe=>(qw i.ok (i.n9<|Y af) e).1) i.ok.lw i.ok.nd i.ok.lt i.ok.ol a6).mono ?_;rintro e w' ⟨rfl,J,k⟩;exact⟨_,_,rfl,⟨rfl,rfl⟩,J,k⟩
  .refine mK (qG<|p.ac+19) h hP hR G k0 (λ_=>⟨u,(hP.ea 16 af).trans rfl⟩)<|λ_ g1 w1 y i=>(i16 y hP i.iB i.ok.lw i.wh).mono ?_;rintro e w' ⟨rfl,J,k⟩;exact⟨0,_,rfl,⟨rfl,rfl⟩,J,k⟩
  .refine mK (zV (p.ac+20)<|p.ac+21) h hP hR G k0 (λ_=>⟨u,(hP.ea 17 af).trans rfl⟩)<|λ_ g1 w1 y i=>(i17 y hP i.iB (W af af) i.ok.lw i.wh i.ok.c0 i.ok.c1).mono ?_;rintro e w' ⟨why,rfl,q,J,k⟩;exact⟨why,_,rfl,⟨q,rfl⟩,J,k⟩
  .refine mK (zV (p.ac+22)<|p.ac+23) h hP hR G k0 (λ_=>⟨u,(hP.ea 18 af).trans rfl⟩)<|λ_ g1 w1 y i=>(i18 y hP i.iB (W af af) (Y af) i.ok.lw i.wh i.ok.nd i.ok.lt i.ok.ol).mono ?_;rintro e w' ⟨why,rfl,q,J,k⟩;exact⟨why,_,rfl,⟨q,rfl⟩,J,k⟩
  .refine mK (zV (p.ac+24)<|p.ac+25) h hP hR G k0 (λ_=>⟨u,(hP.ea 19 af).trans rfl⟩)<|λ_ g1 w1 y i=>(i19 y hP i.iB (W af af) i.ok.lw i.ok.ww i.ok.nd i.ok.lt i.ok.ol a4 Z).mono ?_;rintro e w' ⟨why,rfl,q,J,k⟩;exact⟨why,_,rfl,⟨q,rfl⟩,J,k⟩
  .refine mK (zV (p.ac+26)<|p.ac+27) h hP hR G k0 (λ_=>⟨u,(hP.ea 20 af).trans rfl⟩)<|λ_ g1 w1 y i=>(i20 y hP i.iB (W af af) Z).mono ?_;rintro e w' ⟨why,rfl,q,J,k⟩;exact⟨why,_,rfl,⟨q,rfl⟩,J,k⟩
  .refine mK (zV (p.ac+28)<|p.ac+29) h hP hR G k0 (λ_=>⟨u,(hP.ea 21 af).trans rfl⟩)<|λ_ g1 w1 y i=>(i21 y hP i.iB (W af af) (Y af) i.ok.lw i.wh i.ok.bt).mono ?_;rintro e w' ⟨why,rfl,q,J,k⟩;exact⟨why,_,rfl,⟨q,rfl⟩,J,k⟩
  refine mK (qG<|p.ac+31) h hP hR G k0 (λ_=>⟨u,(hP.ea 22 af).trans rfl⟩)<|λ_ g1 w1 y i=>(i22 y hP i.iB<|W af af).mono ?_;rintro e w' ⟨rfl,k⟩;exact⟨0,_,rfl,⟨rfl,rfl⟩,g1,k⟩
 exact mK (F4 (n:=101) af) (op:=0) (a:=0) (b:=0) (c:=0) h hP hR G af (λe=>dr e hr)<|λe=>dr e hr
theorem AF(h:dZ p s g w)(H:fQ s x y)(G:x≠5)(u:s.q x y=[]):∃ad c,w.cell? (az p.eb<|sk x y)=some (.slice ad 0 c):=by
 have o:=h.ln H ey;have i:=o.hE.cell _ o.ho;rw[o.e,u]at i;unfold qp at i;grind
def AE(h:dZ p s g w)(Y:LW s){r:List Nat}(G:fQ s x y)(W:x≠5)(J:s.q x y=t :: r):∃zb c,w.cell? (az p.eb<|sk x y)=some (dD zb (r.length+1) c)/\w.cell? (az zb 0)=some (P0<|g.tb t)/\zb<w.heap.size:=by
 have H:=Y.len G;have u:=h.ln G af;have i:=u.hE.cell _ u.ho;have o:=u.row;rw[u.e]at i;unfold qp at i;rw[av W]at i;rw[J]at i o;let⟨zb,c,he⟩:=ef o eG;rw[he]at i o;exact⟨zb,c,i,(ik o).2.2.2.2.2 0 _ eG,(dR o zb rfl).2.1⟩
def qZ(p:dH)(s:Pl)(g:eM)(w:aa)(t j:Nat)(wr:aa):Prop:=
 ∃s1 g1,Tr p s g w s1 g1 wr/\Ok p s1/\s1.ev.length<=s.ev.length+j/\s1.nt<=s.nt+j/\ft s1 t/\∀s',hZ p t (p.qn-j) s1 s'->hZ p t p.qn (s.start t) s'
theorem CI{p:dH}{t:Nat}{s:Pl}(h:(s.T t).run=false):∀n,hZ p t n s s
 |0=>rfl
 |n+1=>by unfold hZ;grind
theorem J1{u:aa}(ht:ft s t)(o:Tr p s g w (s.dA t) g u):Tr p s g w (s.start t) g (u.setCell (az (g.tb t) 2)<|.bool true):=by
 have i:=(eB<|gl s t).2 ht;refine o.trans<|o.r.flag (v:={(s.dA t).T t with run:=true}) i rfl rfl ?_ (bq (S:=λk=>k=g.tb t) (dx _ _) (ag rfl) _);refine((o.r.tk i).eE 2 _).congr (λj G=>?_);have e:∀a,sl ((s.dA t).dy t {(s.dA t).T t with run:=true}) g a t=sl (s.dA t) g a t:=λa=>by
  unfold sl;rw[ky (s:=s.dA t) (s':=(s.dA t).dy t {(s.dA t).T t with run:=true}) rfl rfl rfl rfl rfl (by rw[dk]) rfl]
 have y:=pS 6 j af
 repeat' rcases y with rfl|y
 .rfl
 .rw[eP _ _ _ _ eo];exact(e 12).symm
 .rw[gU];show _=Value.bool _;rw[dk]
 .rw[eP _ _ _ _ eo];show _=xp p g _;rw[dk];rfl
 .rw[eP _ _ _ _ eo];show _=zD g t _;rw[dk];rfl
 .rw[eP _ _ _ _ eo];show _=Value.int .i64 _;rw[dk];rfl
 rw[eP _ _ _ _ eo];exact(e 5).symm
theorem F2(hPI:PI p){s1 i:Pl}{g1 G:eM}{wr w':aa}{j:Nat}(hj:j<p.qn)(hn:s.nt+p.qn<=500000000)(W:Tr p s g w s1 g1 wr)(y:Ok p s1)(he:s1.ev.length<=s.ev.length+j)(J:s1.nt<=s.nt+j)(ht:ft s1 t)(H:∀s',hZ p t (p.qn-j) s1 s'->hZ p t p.qn (s.start t) s')(e:(s1.T t).run=true)(u:jv p t s1 i)(o:Tr p s1 g1 wr i G w'):qZ p s g w t (j+1) w':=by
 let⟨Y,G2⟩:=xA hPI ⟨y,(y.rn t ht e).2,e⟩ af u;let⟨l,l1,l2,l3,_⟩:=id G2;refine⟨i,G,W.trans o,Y,ey,af,⟨ht.1,gD ht.2⟩,λs' Z=>H s' ?_⟩;rw[show p.qn-j=(p.qn-(j+1))+1 by omega];unfold hZ;grind
theorem CL(h:dZ p s g w)(hP:PW p)(hPI:PI p)(hO:Ok p s)(hn:s.nt+p.qn<=500000000)(aE:p.qn<=50)(aA:s.ev.length<=100):Calls prog 68 #[P0 p.eb] w λe w'=>e=.returned (.tuple #[])/\∃s' g',iH p s s'/\Tr p s g w s' g' w':=by
 have hl:fQ s 2 0:=ag ⟨rfl,rfl⟩
 cases hq:s.q 2 0 with
 |nil=>
  obtain⟨ad,c,a2⟩:=AF h hl af hq;have G:w.cell? ⟨p.eb,32,none⟩=some (.slice ad 0 c):=a2;have W:=gS p.eb 32 0 c ad w G;have aD:decide ((0:Nat)=0)=true:=rfl;rw[aD]at W;have a7:=bj W;have HR:Hid (∃s' g',iH p s s'/\Tr p s g w s' g' w):=⟨s,g,by grind[iH],Tr.refl h⟩;clear W aD a2 G h hP hPI hO aA hq hl;go_in;go_wp2_with fail
  refine a7.mono ?_;rintro e w1 ⟨rfl,rfl⟩;go_wp2_with fail
  refine dg (results_none rfl _ _ _) rfl ?_;exact⟨rfl,HR⟩
 |cons t r=>
  have aH:t∈s.q 2 0:=by rw[hq];simp
  have aB:=hO.ql 2 0 hl t aH;have ht:=hO.lt t aB;obtain⟨zb,c,a2,cz,lz⟩:=AE h hO.lw hl af hq;have G:w.cell? ⟨p.eb,32,none⟩=some (.slice (some ⟨zb,0,none⟩) (r.length+1) c):=a2;have W:=gS p.eb 32 (r.length+1) c (some ⟨zb,0,none⟩) w G;have aM:decide ((r.length+1:Nat)=0)=false:=eG
  rw[aM]at W;have a7:=bj W;have aN:=bj<|qx p.eb 32 r.length c zb (g.tb t) w G cz;have aP:=bj<|rq h hO.lw ht;have HP:=bj hP;have aT:=bj hPI;have aS:=bj<|hO.start aB;have HT:=bj ht;have HQ:=bj hq;have a4:Hid (s.nt+p.qn<=500000000/\s.ev.length<=100/\p.qn<=50):=⟨hn,aA,aE⟩;have h.E.lt:=h.E.lt;clear W aM a2 G cz lz h hP hPI hO hq hl aH aB hn aA aE;go_in;go_wp2_with fail
  refine a7.mono ?_;rintro e w1 ⟨rfl,rfl⟩;go_wp2_with fail
  refine aN.mono ?_;rintro e w2 ⟨rfl,rfl⟩;go_wp2_with fail
  refine aP.mono ?_;rintro e w3 ⟨rfl,a9⟩;have u:=(eB<|gl s t).2 ht;have a8:=a9.r.tk u;obtain⟨d2,z2⟩:=a8.cells 2 af;generalize gH p (s.dA t) g t 2=y2 at d2;have aG:=bj a9;clear a8 a9 u;go_wp2_with fail
  have aF:=bj<|J1 HT aG;generalize aW:w3.setCell ⟨g.tb t,2,none⟩ (.bool true)=w4 at*;clear aW d2 z2 aG a7 aN aP;have b0:Hid (qZ p s g w2 t 0 w4):=by
   obtain⟨f1,_,_,f4,_⟩:=gI s t;refine⟨s.start t,g,aF,aS,?_,?_,(eB<|gl s t).2 HT,λs' h'=>h'⟩
   .show(s.dA t).ev.length<=_;rw[f4];exact bm _
   show(s.dA t).nt<=_;rw[gl];exact bm _
  have aY:Hid (∀s1 g1 wr,Tr p s g w2 s1 g1 wr->g1.tb t=g.tb t):=λs1 g1 wr J=>J.t t HT;clear aF aS ht;go_loopw[3] (λi wr=>∃j:Nat,j<=p.qn/\i=.int .i64 j/\Hid (qZ p s g w2 t j wr)) (λi _=>p.qn-(intOf i).toNat)
  case atStart=>exact⟨0,af,rfl,b0⟩
  case round=>
   obtain⟨j,hj,rfl,hG⟩:=hrel;obtain⟨s1,g1,J,Y,a5,hn1,u,Z⟩:=hG;have H:=aY s1 g1 wr J;have e1:=J.r.E.cell 1 af;rw[show iQ p s1 g1 1=p.E0 1 from rfl,HP.e1]at e1;have lt:=(J.r.tk u).lt;by_cases o:(s1.T t).run=true
   .have t2:=J.r.run u o;rw[H]at t2;have aO:Hid (Rn p s1 t):=⟨Y,(Y.rn t u o).2,o⟩;by_cases aK:j<p.qn
    .have a3:(j:Int)<p.qn:=af
     have a1:=Oj J.r HP aT aO (gD a4.out)<|gD a4.out;rw[H]at a1;have aQ:=bj a1;have aV:Hid (∀s2 g2 w',jv p t s1 s2->Tr p s1 g1 wr s2 g2 w'->qZ p s g w2 t (j+1) w'):=λs2 g2 w' hs a6=>F2 aT aK a4.1 J Y a5 hn1 u Z o hs a6;clear J Y a5 hn1 u Z H a1 o;go_wp2_with fail
     refine aQ.mono ?_;rintro e w5 ⟨rfl,s2,g2,aL,a6⟩;have HG:=bj<|aV s2 g2 w5 aL a6;clear aL a6 e1 t2;go_wp2_with fail
     have hw:wrap64 ((j:Int)+1)=((j+1:Nat):Int):=by
      rw[dL ((j:Int)+1) ⟨af,gD a4.out⟩];omega
     rw[hw];go_roundw
     case rel=>exact⟨j+1,af,rfl,HG⟩
     case measure=>simp[intOf];omega
    have a3:¬((j:Int)<p.qn):=af
    have aI:j=p.qn:=af
    have aR:=wS (x:=2) (y:=0) J.r Y.lw (ag ⟨rfl,rfl⟩) u af (by rw[aO.wh];intro e;cases e);have a0:Calls prog 110 #[Pt p.eb 32,P0<|g1.tb t] wr λe w'=>e=.returned (.tuple #[])/\∃r,Tr p s1 g1 wr (s1.dX 2 0 t) (g1.at 2 0 r) w':=aR;rw[H]at a0;have aZ:=bj a0;have aX:Hid (∀r w',Tr p s1 g1 wr (s1.dX 2 0 t) (g1.at 2 0 r) w'->∃s' g',iH p s s'/\Tr p s g w2 s' g' w'):=λr w' h'=>by
     refine⟨s1.dX 2 0 t,_,?_,J.trans h'⟩;unfold iH;rw[HQ.out];exact⟨s1,Z s1 (by rw[aI,Nat.sub_self];rfl),by rw[bf o]⟩
    clear J Y a5 hn1 u Z H aR a0 o aI;go_wp2_with fail
    refine aZ.mono ?_;rintro e w6 ⟨rfl,r6,aJ⟩;have HF:=bj<|aX r6 w6 aJ;clear aJ e1 t2;go_wp2_with fail
    go_end0;obtain⟨s',g',h1,h2⟩:=HF;exact⟨rfl,by first|exact⟨s',g',h1,h2⟩|exact⟨s',h1,g',h2⟩⟩
   have aC:(s1.T t).run=false:=iE o
   have t2:=J.r.run u aC;rw[H]at t2;have HF:Hid (∃s' g',iH p s s'/\Tr p s g w2 s' g' wr):=by
    refine⟨s1,g1,?_,J⟩;unfold iH;rw[HQ.out];exact⟨s1,Z s1<|CI aC _,by rw[av o]⟩
   clear J Y a5 hn1 u Z H o aC;by_cases aK:j<p.qn
   .have a3:(j:Int)<p.qn:=af
    go_wp2_with fail
    go_end0;obtain⟨s',g',h1,h2⟩:=HF;exact⟨rfl,by first|exact⟨s',g',h1,h2⟩|exact⟨s',h1,g',h2⟩⟩
   have a3:¬((j:Int)<p.qn):=af
   go_wp2_with fail
   go_end0;obtain⟨s',g',h1,h2⟩:=HF;exact⟨rfl,by first|exact⟨s',g',h1,h2⟩|exact⟨s',h1,g',h2⟩⟩
theorem pR{q:Nat->Bool}:∀(l:List Nat) (a:Nat) (r:List Nat),l.dropWhile q=a :: r->q a=false
 | [],a,r,h=>by cases h
 | b :: l,a,r,h=>by
  rw[List.dropWhile_cons]at h;by_cases e:q b=true
  .rw[bf e]at h;exact pR l a r h
  grind
def PF(p:dH)(s:Pl)(g:eM)(w:aa)(ys:List Nat)(w1:aa):Prop:=
 ∃zs s1 g1,ys=zs.map g.tb/\Tr p s g w s1 g1 w1/\Ok p s1/\s1.q 3 0=zs/\s1.nt=s.nt/\(∀a,(s1.T a).iT=(s.T a).iT)/\s1.clk=s.clk/\s1.iC zs=s.iC (s.q 3 0)
def AR(s:Pl)(x y t a:Nat):((s.dX x y t).T a).iT=(s.T a).iT:=by
 by_cases e:a=t
 .subst e;rw[kr];show((s.dA a).T a).iT=_;unfold Pl.dA;split
  .rfl
  rw[dk];rfl
 rw[nM s e]
theorem JT(h:dZ p s g w)(hO:Ok p s):eN 67 #[P0 p.eb] w λw'=>∃g',Tr p s g w (s.iC<|s.q 3 0) g' w':=by
 obtain⟨U,hU⟩:∃U:Nat->Int,∀a,ft s a->U (g.tb a)=(s.T a).iT:=by
  classical
  refine⟨λb=>if Z:∃a,ft s a/\g.tb a=b then(s.T Z.choose).iT else 0,λa i=>?_⟩;have Z:∃a',ft s a'/\g.tb a'=g.tb a:=⟨a,i,rfl⟩;show(if Z:∃a',ft s a'/\g.tb a'=g.tb a then(s.T Z.choose).iT else 0)=_;rw[dif_pos Z,h.mT Z.choose_spec.1 i Z.choose_spec.2]
 have H:∀{o:List Nat} {s1:Pl},Ok p s1->s1.q 3 0=o->s1.nt=s.nt->∀a,a∈o->ft s a:=fun {o s1} hO1 hq hn a i=>(eB hn).1 (hO1.lw.b 3 0 (ak<|ag ⟨rfl,rfl⟩) a ey).1;refine(Mb p.eb s.clk U (PF p s g w) ((s.q 3 0).map g.tb) w ⟨s.q 3 0,s,g,rfl,Tr.refl h,hO,rfl,rfl,λ_=>rfl,rfl,rfl⟩ ?_ ?_ ?_).mono ?_
 .rintro ys w1 w2 ⟨o,s1,g1,k1,k2,u⟩ hg;exact⟨o,s1,g1,k1,k2.kept hg,u⟩
 .rintro ys w1 ⟨o,s1,g1,rfl,k2,u,J,W,k6,k7,k8⟩;refine⟨k2.r.E.lt,?_,λe=>?_,λx r e=>?_⟩
  .rw[k2.r.E.cell 28 af];show some (Value.int .i64 s1.clk)=_;rw[k7]
  .have:=List.map_eq_nil_iff.1 e;exact AF k2.r (x:=3) (y:=0) (ak<|ag ⟨rfl,rfl⟩) af ey
  cases o with
  |nil=>cases e
  |cons a Y=>
   injection e with e1 e2;subst e1 e2;have i:=H u J W a eG;have G:=k2.t a i;let⟨zb,c,c1,c2,c3⟩:=AE k2.r u.lw (x:=3) (y:=0) (ak<|ag ⟨rfl,rfl⟩) af J;have hT:=k2.r.tk (t:=a)<|(eB W).2 i;rw[G]at c2;refine⟨zb,c,eZ eD c1,c2,?_,by rw[<-G];exact hT.lt⟩;rw[hU a i,<-k6 a,<-G];exact hT.cell 5 af
 .rintro x r w1 ⟨o,s1,g1,k1,k2,u,J,W,k6,k7,k8⟩ hx
  cases o with
  |nil=>cases k1
  |cons a Y=>
   injection k1 with e1 e2;subst e1 e2;have i:=H u J W a eG;have G:=k2.t a i;have a1:fQ s1 3 0:=ak<|ag ⟨rfl,rfl⟩;have a3:a∈s1.q 3 0:=by rw[J];simp
   have a0:=(u.lw.b 3 0 a1 a a3).2
   have a2:eN 110 #[Pt p.eb 32,P0<|g1.tb a] w1 λw'=>∃r,Tr p s1 g1 w1 (s1.dX 2 0 a) (g1.at 2 0 r) w':=wS (x:=2) (y:=0) k2.r u.lw (ag ⟨rfl,rfl⟩) ((eB W).2 i) af ey;rw[G]at a2;refine dq a2 ?_;rintro w' ⟨r',h'⟩;refine⟨rfl,Y,s1.dX 2 0 a,_,rfl,k2.trans h',u.dX<|u.ql 3 0 a1 a a3,?_,(iO s1 2 0 a).trans W,λb=>(AR s1 2 0 a b).trans<|k6 b,(ja s1 2 0 a).2.2.2.2.1.trans k7,?_⟩
   .show((s1.dA a).fI 2 0<|(s1.dA a).q 2 0++[a]).q 3 0=Y;rw[gf _ _ af,gP a0];show(s1.fI 3 0<|(s1.q 3 0).erase a).q 3 0=Y;grind[gM]
   rw[<-k8];show _=(if(s1.T a).iT<=s1.clk then(s1.dX 2 0 a).iC Y else s1);grind
 rintro e w' ⟨rfl,o,s1,g1,k1,k2,u,J,W,k6,k7,k8⟩;refine⟨rfl,g1,?_⟩;have a6:s1.iC o=s1:=by
  cases o with
  |nil=>rfl
  |cons a Y=>
   have i:=H u J W a eG
   show(if(s1.T a).iT<=s1.clk then(s1.dX 2 0 a).iC Y else s1)=s1;rw[av<|by grind[pR]]
 grind
theorem Kj{k b:Nat}(hk:k<4)(hb:b<256)(h:dZ p s g w)(Y:Ok p s):eN 131 #[Pt p.eb<|34+k*2,dz (b:Int)] w λw'=>∃g',Tr p s g w (s.pG k b) g' w':=by
 have hl:fQ s 4 k:=ak<|ak<|ag ⟨rfl,hk⟩;have ho:sk 4 k=34+k*2+1:=by show 35+2*k=_;omega
 have hv:ig s 10 k 0=true:=D8 af hk;have hI:mr (34+k*2)=(10,k)/\29<=34+k*2/\34+k*2<44/\34+k*2≠42:=by
  have:k=0\/k=1\/k=2\/k=3:=by omega
  rcases this with rfl|rfl|rfl|rfl<;>decide
 have hE:iQ p s g (34+k*2)=.slice (g.ro 10 k).1 (s.fA k).length (g.ro 10 k).2:=by
  unfold iQ;rw[eK,eK,eK,hI.1];rfl
 unfold Pl.pG
 cases hq:s.q 4 k with
 |cons u r=>
  let⟨zb,c,c1,c2,c3⟩:=AE h Y.lw hl af hq;rw[ho]at c1
  let⟨hu,J⟩:=Y.lw.b 4 k hl u ey;let⟨kk,f1,f2,f3⟩:=Y.ww u hu 4 k J<|ag rfl;have c4:w.cell? (az (g.tb u) 4)=some (Fv 207 #[P0<|g.sx u]):=by
   rw[(h.tk hu).cell 4 af];show some (zD g u (s.T u).lf)=_;rw[f1];rfl
  refine CT p.eb (34+k*2) r.length c zb (g.tb u) (g.sx u) b _ w c1 c2 c4 hb (h.tk hu).lt h.E.lt c3<|λw1 hg=>?_;refine dq (Ji (0,(b:Int)) (h.kept hg) Y.lw hu f1 f2 f3 ey) ?_;rintro w' ⟨r',h'⟩;exact⟨rfl,_,h'.ahead hg⟩
 |nil=>
  let⟨i,c',c1⟩:=AF h hl af hq;rw[ho]at c1;have a3:iQ p s g (34+k*2+1)=.slice i 0 c':=by
   have:=h.E.cell (34+k*2+1) af;rw[c1]at this;exact(kH this).symm
  by_cases o:(s.fA k).length<64
  .have H:w.ownsRow 0 5 1 (.slice (g.ro 10 k).1 (s.fA k).length (g.ro 10 k).2) (s.fA k).length (iR<|s.fA k):=h.row (x:=10) (y:=k) (by grind[fi]) hv;refine dq (CR p.eb (34+k*2) 44 (s.fA k).length (g.ro 10 k).2 c' b 144 (g.ro 10 k).1 i (s.fA k) (iQ p s g) w h.E af hE a3 H o<|λj G=>eU H h.E eo j G) ?_;rintro w' ⟨gb,cc,k1,k2,k3,k4⟩;have W:(s.fR k<|s.fA k++[b]).fA k=s.fA k++[b]:=bf rfl;have Z:eS (s.fR k<|s.fA k++[b]) 10 k=(s.fA k).length+1:=by show((s.fR k<|s.fA k++[b]).fA k).length=_;rw[W,db];rfl
   have a0:gC (s.fR k<|s.fA k++[b]) g 10 k=iR (s.fA k++[b]):=by show iR ((s.fR k<|s.fA k++[b]).fA k)=_;rw[W]
   refine⟨rfl,g.at 10 k (some<|az gb 0,cc),?_⟩;show Tr p s g w (if(s.fA k).length<64 then s.fR k (s.fA k++[b]) else s) (g.at 10 k (some<|az gb 0,cc)) w';rw[bf o];exact h.vE (s':=s.fR k<|s.fA k++[b]) (r:=(some<|az gb 0,cc)) (j0:=34+k*2) af hv hI rfl rfl rfl rfl rfl rfl rfl (λa b' _ _ e=>yX k _ a b' e) ey (by rw[Z,a0];exact k2) (k3.mono<|λj G _=>by grind[kP]) (λj G=>by
    have e:gb=j:=by injection G
    grind[kP])
  have c0:w.cell? (az p.eb<|34+k*2)=some (.slice (g.ro 10 k).1 (s.fA k).length (g.ro 10 k).2):=by
   rw[h.E.cell _ af,hE]
  refine dq (CU p.eb (34+k*2) (s.fA k).length (g.ro 10 k).2 c' b (g.ro 10 k).1 i w c0 c1 af (Y.bt k).1) ?_;rintro w' rfl;refine⟨rfl,g,?_⟩;show Tr p s g w' (if(s.fA k).length<64 then s.fR k (s.fA k++[b]) else s) g w';rw[av o];exact Tr.refl h
