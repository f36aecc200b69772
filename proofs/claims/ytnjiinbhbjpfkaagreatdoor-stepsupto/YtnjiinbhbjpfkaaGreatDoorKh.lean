import Derived.Test.YtnjiinbhbjpfkaaGreatDoorKe
set_option maxRecDepth 100000
set_option maxHeartbeats 0
set_option linter.all false
namespace Go.Proofs.YtnjiinbhbjpfkaaGreatDoor
open Go.RowKit Go.Proofs.Tryz
namespace F
theorem IP{p:dz}{s:Pl}{g:eE}{w:World}{t:Nat}(h:dQ p s g w)(hR:Rn p s t): Calls prog 164 #[P0 (g.tb t)] w λe w'=>e=.returned (P0 (g.fb t (cr s t)))/\w.grownBy w' none:=by
 have J:=zm hR.gm;have u:=h.row (x:=12) (y:=t) (by unfold eQ;omega) (gG (by omega) hR.ht);have i:eH s 12 t=cr s t+1:=J;obtain⟨o,cap,he⟩:=dM u (by rw[i];omega);rw[he,i]at u;have G:w.ownsRow 0 184 1 (.slice (some ⟨o,0,none⟩) (cr s t+1) cap) (cr s t+1) (((List.range (s.T t).fr.length).map (g.fb t)).map P0):=u;have c1:w.cell? ⟨g.tb t,1,none⟩=some (.slice (some ⟨o,0,none⟩) (cr s t+1) cap):=by
  rw[(h.tk hR.ht).cell 1 (by omega)];show some (sl s g 12 t)=_;rw[he,i]
 have H:w.cell? ⟨o,cr s t,none⟩=some (P0 (g.fb t (cr s t))):=(iG G).2.2.2.2.2 (cr s t) _ (by
  rw[eo,eo,fW hR.hi];rfl)
 exact IQ (g.tb t) o cap (cr s t) (g.fb t (cr s t)) w c1 H (by have:=hR.fw.n2;omega)
theorem Im{p:dz}{s:Pl}{g:eE}{w:World}{t:Nat}(h:dQ p s g w)(hR:Rn p s t): Calls prog 185 #[P0 (g.fb t (cr s t))] w λe w'=>e=.returned (.bool (decide ((bw s t).nx=p.len (bw s t).f)))/\w.grownBy w' none:=
 BA _ _ _ _ _ _ _ w (In.fr h hR.gm).1
theorem IS{p:dz}{s:Pl}{g:eE}{w:World}{t:Nat}(h:dQ p s g w)(hP:PW p)(hR:Rn p s t)(hn:(bw s t).nx≠p.len (bw s t).f){op a b c:Nat}(hi:p.ins (bw s t).f (bw s t).nx=(op,a,b,c)): Calls prog 186 #[P0 (g.fb t (cr s t))] w λe w'=>e=.returned (xD op a b c)/\Tr p s g w (s.fD t) g w':=by
 have o:=In.fr h hR.gm;have i:=hR.ff;obtain⟨G,H⟩:=hP.cd w h.fix (bw s t).f i.1;obtain⟨k0,k1,k2,u⟩:=H (bw s t).nx (by omega);rw[hi]at k0 k1 k2 u;refine(Ca _ _ _ _ _ _ op a b c _ w o.1 (by omega) (hP.le _ i.1) G k0 k1 k2 u).mono ?_;rintro e w' ⟨rfl,y,J⟩;exact⟨rfl,In.next h hR.gm y ⟨J,o.2.1.block (y.block _ o.2.1.lt (by intro e;injection e with e;exact o.2.2 e.symm)),o.2.2⟩⟩
theorem Bk{p:dz}{s:Pl}{g:eE}{w:World}{t:Nat}(v:B.V)(h:dQ p s g w)(hP:PW p)(hR:Rn p s t)(i:s.ev.length<=100000): Calls prog 107 #[P0 (g.tb t),vA v] w λe w'=>e=.returned (.tuple #[])/\∃g',Tr p s g w (s.back t v) g' w':=by
 have hn:=hR.fw.n2;have o:=hR.ok.kl;have u:=hP.n2;refine uC v h hR.ok.lw hR.ok.ww hR.ht hR.lf hR.wh hR.fw.n1 (by omega) hR.lv hR.ok.nd hR.ok.lt hR.ok.ol (by omega) i (λe=>?_);have:=hR.fw.b (cr s t-1) (by have:=hR.hi;omega);rw[show cr s t-1+1=cr s t by omega]at this;exact this
theorem JG{p:dz}{s:Pl}{g:eE}{w:World}{t why:Nat}(hw:why<=8)(h:dQ p s g w)(hP:PW p)(hR:Rn p s t)(i:s.ev.length<=100000): Calls prog 187 #[P0 p.eb,P0 (g.tb t),.int .i64 why] w λe w'=>e=.returned (.tuple #[])/\∃g',Tr p s g w (s.leave t (0,-(why:Int)) 3 why) g' w':=by
 have o:=hR.ok.kl;have u:=hP.n2;exact JF hw h hR.ok.lw hR.ok.ww hR.ht hR.lv hR.ok.nd hR.ok.lt hR.ok.ol (by omega) i
def Ip(p:dz)(s:Pl)(g:eE)(w:World)(t n:Nat)(wr:World):Prop:=
 ∃s1 g1 k,Tr p s g w s1 g1 wr/\Rn p s1 t/\s1.ev=s.ev/\(s1.T t).fr.length<=k/\s1.ends p t k=s.ends p t 21/\(s1.T t).fr.length=n
theorem Bs{p:dz}{s:Pl}{t k:Nat}(i:0<k)(h:(bw s t).nx≠p.len (bw s t).f):s.ends p t k=s:=by
 cases k with
 | zero=>omega
 | succ k=>unfold Pl.ends;rw[aa (λe=>h e.2)]
theorem uH{p:dz}{s:Pl}{t k:Nat}(e:(s.T t).run=true)(h:(bw s t).nx=p.len (bw s t).f):s.ends p t (k+1)=(s.back t (0,0)).ends p t k:=by
 show(if(s.T t).run=true/\(bw s t).nx=p.len (bw s t).f then Pl.ends p t k (s.back t (0,0)) else s)=_;rw[aj ⟨e,h⟩]
theorem Br{p:dz}{s:Pl}{t:Nat}(k:Nat)(i:(s.T t).run=false):s.ends p t k=s:=by
 cases k with
 | zero=>rfl
 | succ k=>unfold Pl.ends;rw[aa (λe=>by rw[i]at e;cases e.1)]
theorem dQ.run{p:dz}{s:Pl}{g:eE}{w:World}{t:Nat}(h:dQ p s g w)(ht:fe s t){b:Bool}(e:(s.T t).run=b):w.cell? ⟨g.tb t,2,none⟩=some (.bool b):=by
 rw[(h.tk ht).cell 2 (by omega)];show some (Value.bool (s.T t).run)=_;rw[e]
theorem AF(s:Pl)(t:Nat):cr (s.fD t) t=cr s t:=by
 unfold cr;rw[show((s.fD t).T t).fr.length=(s.T t).fr.length from(gj s t (cr s t) t { bw s t with nx:=(bw s t).nx+1 }).2.2.2.2]
def J9(fn:Nat)(l:List Value):Prop:=
 ((fn=101\/fn=102\/fn=104\/fn=108)/\l=[])\/(∃b,(fn=163\/fn=151)/\l=[P0 b])\/∃b c,fn=167/\l=[P0 b,P0 c]
theorem oF(b:Nat):J9 163 [P0 b]:=ab (ag ⟨b,ag rfl,rfl⟩)
theorem Ag(b:Nat):J9 151 [P0 b]:=ab (ag ⟨b,ab rfl,rfl⟩)
theorem JD(b c:Nat):J9 167 [P0 b,P0 c]:=ab (ab ⟨b,c,rfl,rfl⟩)
theorem Fl{n:Nat}(h:n=101\/n=102\/n=104\/n=108):J9 n []:=ag ⟨h,rfl⟩
theorem mN{fn:Nat}{l:List Value}(aT:J9 fn l){p:dz}{s:Pl}{g:eE}{w:World}{t op a b c:Nat}(h:dQ p s g w)(hP:PW p)(hR:Rn p s t)(aP:s.ev.length<=1000)(bH:op<23)(hi:((s.ends p t 21).T t).run=true->p.ins (bw (s.ends p t 21) t).f (bw (s.ends p t 21) t).nx=(op,a,b,c)/\p.E0 (4+op)=Fv fn l.toArray)(hc:((s.ends p t 21).T t).run=true->∀g1 w1,dQ p ((s.ends p t 21).fD t) g1 w1->Rn p ((s.ends p t 21).fD t) t->Calls prog fn (m8 p ((s.ends p t 21).fD t) g1 t (op,a,b,c) :: l).toArray w1 λe w'=>∃(why:Int) (s3:Pl),e=.returned (.int .i64 why)/\jD p ((s.ends p t 21).fD t) t (op,a,b,c) why s3/\∃g',Tr p ((s.ends p t 21).fD t) g1 w1 s3 g' w'): Calls prog 134 #[P0 p.eb,P0 (g.tb t)] w λe w'=>e=.returned (.tuple #[])/\∃s' g',iC p t s s'/\Tr p s g w s' g' w':=by
 have HF:=az aT;have HC:=az hc;have HI:=az hi;have HE:=az aP;have HP:=az hP;have aF:=az hR.ht;have b5:Hid (Ip p s g w t (s.T t).fr.length w):=⟨s,g,21,Tr.refl h,hR,rfl,dH hR.fw.n2 (by omega),rfl,rfl⟩;clear aT hc hi aP hP hR h;go_in;go_wp2_with fail
 go_loopg [] ((s.T t).fr.length) (λn wr=>Hid (Ip p s g w t n wr))
 case atStart=>exact b5
 case round=>
  obtain⟨s1,g1,k,hT,aE,aN,aZ,hS,aQ⟩:=hrel.out;have aL:=hT.t t aF.out;have o:=IP hT.r aE;rw[aL]at o;have u:=az o;have KT:=az hT;have i:=az aE;have KK:=az (ay aN (ay aZ (ay hS aQ)));have aC:=az aL;clear o hT aE aN aZ hS aQ aL b5;go_wp2_with fail
  refine u.out.mono ?_;rintro e w1 ⟨rfl,aS⟩;have aY:=az aS;clear aS u;go_wp2_with fail
  refine(Im (KT.out.r.kept aY.out) i.out).mono ?_;rintro e w2 ⟨rfl,aO⟩;have aB:=az (an aY.out aO);clear aO;by_cases hd:(bw s1 t).nx=p.len (bw s1 t).f
  .have a0:decide ((bw s1 t).nx=p.len (bw s1 t).f)=true:=by simpa using hd
   have HD:=az hd;simp only[a0];clear hd a0;go_wp2_with fail
   refine(fH 0 _).mono ?_;rintro e w3 ⟨rfl,rfl⟩;go_wp2_with fail
   have a3:=az (au aB.out (.cells #[.int .i64 0,.int .i64 0] 149));have a6:=Bk (0,0) (KT.out.r.kept a3.out) HP.out i.out (by rw[KK.out.1];have:=HE.out;omega);rw[aC.out]at a6;refine a6.mono ?_;rintro e w4 ⟨rfl,g4,J⟩;have y:=(KT.out.kept a3.out).trans J;have G:=y.t t aF.out;have hB:=i.out.ok.back i.out.lv i.out.wh (dN.num (s:=s1) 0);have W:=mA i.out.ok.lw i.out.ht (0,0);have a2:=lG s1 t (0,0);have a4:fe (s1.back t (0,0)) t:=by
    by_cases e0:cr s1 t=0
    .exact(eg (a2.1 e0).2.2).2 i.out.ht
    exact(eg (a2.2 e0).2.2.1).2 i.out.ht
   by_cases e0:cr s1 t=0
   .have c2:=y.r.run a4 (W.1 e0);rw[G]at c2;have aG:=az y;have Y:s.ends p t 21=s1.back t (0,0):=by
     obtain⟨_,q2,q3,_⟩:=KK.out;obtain⟨k',rfl⟩:∃k',k=k'+1:=⟨k-1,by have:=i.out.hi;omega⟩;rw[uH i.out.run HD.out,Br k' (W.1 e0)]at q3;exact q3.symm
    have a1:=az (ay Y (W.1 e0));clear a6 J y G hB W a2 a4 e0 Y;go_wp2_with fail
    refine da (results_none rfl _ _ _) rfl ?_;refine⟨rfl,s1.back t (0,0),g4,?_,?_⟩
    .unfold iC;rw[a1.out.1,aa (by rw[a1.out.2];decide)]
    first|exact aG.out|exact aG.out.kept (bq (ax _ _))|exact aG.out.kept (db (ax _ _) _)
   obtain⟨r1,r2⟩:=W.2 e0;obtain⟨b1,b2,b3,b4⟩:=a2.2 e0;have c2:=y.r.run a4 (r1.trans i.out.run);rw[G]at c2;have aW:∀w5,w4.grownBy w5 none->Ip p s g w t ((s1.T t).fr.length-1) w5:=λw5 bJ=>by
    obtain⟨q1,q2,q3,q4⟩:=KK.out;obtain⟨k',rfl⟩:∃k',k=k'+1:=⟨k-1,by have:=i.out.hi;omega⟩;rw[uH i.out.run HD.out]at q3;exact⟨s1.back t (0,0),g4,k',y.kept bJ,⟨hB,by rw[b1];exact i.out.lv,r1.trans i.out.run⟩,b2.trans q1,by rw[r2];omega,q3,r2⟩
   have aI:=az aW;clear a6 J y G hB W a2 a4 e0 r1 r2 b1 b2 b3 b4 aW;go_wp2_with fail
   go_roundg ((s1.T t).fr.length-1)
   case measure=>
    have q4:=KK.out.2.2.2;have q5:=i.out.hi;omega
   case rel=>first|exact aI.out _ (ax _ _)|exact aI.out _ (bq (ax _ _))|exact aI.out _ (db (ax _ _) _)
  have a0:decide ((bw s1 t).nx=p.len (bw s1 t).f)=false:=by simpa using hd
  have Y:s.ends p t 21=s1:=by
   obtain⟨_,q2,q3,_⟩:=KK.out;rw[<-q3];exact Bs (by have:=i.out.hi;omega) hd
  rw[Y]at HC HI;have aX:=az (HC.out i.out.run);obtain⟨aR,aU⟩:=HI.out i.out.run;have aD:=az aR;have bE:=az aU;have HD:=az hd;have a1:=az Y;have o:=IP (KT.out.r.kept aB.out) i.out;rw[aC.out]at o;have u:=az o;simp only[a0];clear hd a0 Y HC HI aR aU o;go_wp2_with fail
  refine u.out.mono ?_;rintro e w3 ⟨rfl,aM⟩;have a3:=az (an aB.out aM);clear aM u;go_wp2_with fail
  refine(IS (KT.out.r.kept a3.out) HP.out i.out HD.out aD.out).mono ?_;rintro e w4 ⟨rfl,J⟩;have b8:=az ((KT.out.kept a3.out).trans J);clear J;have aA:g1.fb t (cr (s1.fD t) t)=g1.fb t (cr s1 t):=by rw[AF]
  generalize bD:g1.fb t (cr s1 t)=fb at *;have bK:=az aA;clear aA bD;go_wp2_with fail
  have HX:=az (jf w4 op a b c fb (g.tb t) p.eb);have bC:=az (ah w4 (.cells #[.int .u8 (op:Int),.int .u8 (a:Int),.int .u8 (b:Int),.int .u8 (c:Int),P0 fb,P0 (g.tb t),P0 p.eb] 186) none);have bF:(w4.alloc (.cells #[.int .u8 (op:Int),.int .u8 (a:Int),.int .u8 (b:Int),.int .u8 (c:Int),P0 fb,P0 (g.tb t),P0 p.eb] 186)).heap.size=w4.heap.size+1:=by simp
  generalize hW:w4.alloc (.cells #[.int .u8 (op:Int),.int .u8 (a:Int),.int .u8 (b:Int),.int .u8 (c:Int),P0 fb,P0 (g.tb t),P0 p.eb] 186)=w5 at *;clear hW;obtain⟨x0,x1,x2,x3,x4,x5,x6⟩:=fk HX.out;have a5:=az (b8.out.kept bC.out);have e5:w5.cell? ⟨p.eb,4+op,none⟩=some (Fv fn l.toArray):=by
   rw[a5.out.r.E.cell (4+op) (by omega)];unfold iJ;rw[aj (by omega),bE.out]
  have bM:(op:Int)<23:=by omega
  have H:=aX.out g1 w5.drew (a5.out.kept (bq (ax _ _))).r (mM i.out HD.out).1;have a9:m8 p (s1.fD t) g1 t (op,a,b,c)=dZ op a b c fb (g.tb t) p.eb:=by
   show dZ op a b c (g1.fb t (cr (s1.fD t) t)) (g1.tb t) p.eb=_;rw[bK.out,aC.out]
  rw[a9]at H;have aV:=az H;have bG:=HP;clear H a9 aX;rcases HF.out with⟨rfl|rfl|rfl|rfl,rfl⟩|⟨b1,rfl|rfl,rfl⟩|⟨b1,b2,rfl,rfl⟩
  all_goals
   clear HF;go_region_with ((first|go_at_call 101|go_at_call 102|go_at_call 104|go_at_call 108|go_at_call 163|go_at_call 151|go_at_call 167);refine aV.out.mono ?_;rintro e w6 ⟨why,s3,rfl,a8,g6,b0⟩;have aH:=az a8;have bA:=az b0;clear a8 b0)
   all_goals
    have a7:=az ((a5.out.kept (bq (ax _ _))).trans bA.out);clear aV e5 x0 x1 x2 x3 x4 x5 x6 HX bF;by_cases Z:why=0
    .subst Z;have aK:Hid (iC p t s s3):=by
      show iC p t s s3;unfold iC;rw[a1.out,aj i.out.run];exact⟨0,s3,by rw[aD.out];exact aH.out,by rw[aj rfl]⟩
     go_wp2_with fail
     go_end0;exact⟨rfl,s3,g6,aK.out,a7.out⟩
    obtain⟨v1,v2,v3⟩:=nP (show((op,a,b,c):yi).1<23 from bH) aH.out;obtain⟨n8,bB⟩:∃n8:Nat,why=(n8:Int):=⟨why.toNat,by omega⟩;have b9:=v3 Z;subst b9;subst bB;have aK:Hid (iC p t s ((s1.fD t).leave t (0,-(n8:Int)) 3 n8)):=by
     show iC p t s _;unfold iC;rw[a1.out,aj i.out.run];exact⟨n8,s1.fD t,by rw[aD.out];exact aH.out,by rw[aa Z]⟩
    have aJ:=JG (why:=n8) (by omega) a7.out.r bG.out (mM i.out HD.out).1 (by show s1.ev.length<=_;rw[KK.out.1];have:=HE.out;omega);rw[show g6.tb t=g.tb t from a7.out.t t aF.out]at aJ;have bI:=az aJ;have bQ:=Z;clear aJ v1 v2 v3 Z;go_wp2_with fail
    refine bI.out.mono ?_;rintro e w7 ⟨rfl,g7,b6⟩;have bL:=az (a7.out.trans b6);clear b6;go_wp2_with fail
    go_end0;exact⟨rfl,_,g7,aK.out,bL.out⟩
theorem KY{p:dz}{s:Pl}{g:eE}{w:World}{t:Nat}(h:dQ p s g w)(hP:PW p)(hPI:PI p)(hR:Rn p s t)(hn:s.nt+1<=500000000)(G:s.ev.length<=1000): Calls prog 134 #[P0 p.eb,P0 (g.tb t)] w λe w'=>e=.returned (.tuple #[])/\∃s' g',iC p t s s'/\Tr p s g w s' g' w':=by
 obtain⟨_,a1,_⟩:=rY 21 hR (by have:=hR.fw.n2;omega);by_cases hr:((s.ends p t 21).T t).run=true
 .obtain⟨a2,hG,hx⟩:=a1 hr;obtain⟨a4,a5⟩:=mM a2 hx;have a6:=a2.ff;have a0:=hPI _ a6.1 (bw (s.ends p t 21) t).nx (by omega);generalize u:p.ins (bw (s.ends p t 21) t).f (bw (s.ends p t 21) t).nx=k at a0;obtain⟨H,a,b,c⟩:=k;rw[<-a5]at a0;have W:((s.ends p t 21).fD t).ev.length<=100000:=by
   obtain⟨l,l1,l2,_⟩:=id hG;show(s.ends p t 21).ev.length<=_;rw[l1,bo];omega
  obtain⟨k0,k1,k2,k3,J,Y,k6,k7,k8,k9,n1,n2,n3,n4,n5⟩:=a0;simp only at k0 k1 k2 k3 J Y k6 k7 k8 k9 n1 n2 n3 n4 n5
  have a3:(((s.ends p t 21).fD t).T t).fr.length<=1000:=by have:=a4.fw.n2;omega
  have hc:H=0\/H=1\/H=2\/H=3\/H=4\/H=5\/H=6\/H=7\/H=8\/H=9\/H=10\/H=11\/H=12\/H=13\/H=14\/H=16\/H=20\/H=22:=by omega
  rcases hc with rfl|rfl|rfl|rfl|rfl|rfl|rfl|rfl|rfl|rfl|rfl|rfl|rfl|rfl|rfl|rfl|rfl|rfl
  .refine mN (oF (p.ac+1)) h hP hR G k0 (λ_=>⟨u,(hP.ea 0 (by omega)).trans rfl⟩) (λ_ g1 w1 y i=>(i0 y hP i.gm (J (by omega) (by omega)) k2 k3).mono ?_);rintro e w' ⟨rfl,k⟩;exact⟨0,_,rfl,⟨rfl,rfl⟩,g1,k⟩
  .refine mN (oF (p.ac+3)) h hP hR G k0 (λ_=>⟨u,(hP.ea 1 (by omega)).trans rfl⟩) (λ_ g1 w1 y i=>(i1 y hP i.gm (J (by omega) (by omega)) (Y (by omega))).mono ?_);rintro e w' ⟨rfl,k⟩;exact⟨0,_,rfl,⟨rfl,rfl⟩,g1,k⟩
  .refine mN (Ag (p.ac+4)) h hP hR G k0 (λ_=>⟨u,(hP.ea 2 (by omega)).trans rfl⟩) (λ_ g1 w1 y i=>(i25 (o:=2) 2 y hP i.gm (by omega) (J (by omega) (by omega)) (Y (by omega)) (k6 (by omega))).mono ?_);rintro e w' (⟨q,rfl,k⟩|⟨q,rfl,k⟩)
   .exact⟨0,_,rfl,ag ⟨q,rfl,rfl⟩,g1,k⟩
   exact⟨1,_,rfl,ab ⟨q,rfl,rfl⟩,g1,(Tr.refl y).kept k⟩
  .refine mN (Ag (p.ac+5)) h hP hR G k0 (λ_=>⟨u,(hP.ea 3 (by omega)).trans rfl⟩) (λ_ g1 w1 y i=>(i25 (o:=3) 3 y hP i.gm (by omega) (J (by omega) (by omega)) (Y (by omega)) (k6 (by omega))).mono ?_);rintro e w' (⟨q,rfl,k⟩|⟨q,rfl,k⟩)
   .exact⟨0,_,rfl,ag ⟨q,rfl,rfl⟩,g1,k⟩
   exact⟨1,_,rfl,ab ⟨q,rfl,rfl⟩,g1,(Tr.refl y).kept k⟩
  .refine mN (Ag (p.ac+6)) h hP hR G k0 (λ_=>⟨u,(hP.ea 4 (by omega)).trans rfl⟩) (λ_ g1 w1 y i=>(i25 (o:=4) 4 y hP i.gm (by omega) (J (by omega) (by omega)) (Y (by omega)) (k6 (by omega))).mono ?_);rintro e w' (⟨q,rfl,k⟩|⟨q,rfl,k⟩)
   .exact⟨0,_,rfl,ag ⟨q,rfl,rfl⟩,g1,k⟩
   exact⟨1,_,rfl,ab ⟨q,rfl,rfl⟩,g1,(Tr.refl y).kept k⟩
  .refine mN (Ag (p.ac+7)) h hP hR G k0 (λ_=>⟨u,(hP.ea 5 (by omega)).trans rfl⟩) (λ_ g1 w1 y i=>(i25 (o:=5) 5 y hP i.gm (by omega) (J (by omega) (by omega)) (Y (by omega)) (k6 (by omega))).mono ?_);rintro e w' (⟨q,rfl,k⟩|⟨q,rfl,k⟩)
   .exact⟨0,_,rfl,ag ⟨q,rfl,rfl⟩,g1,k⟩
   exact⟨1,_,rfl,ab ⟨q,rfl,rfl⟩,g1,(Tr.refl y).kept k⟩
  .refine mN (oF (p.ac+9)) h hP hR G k0 (λ_=>⟨u,(hP.ea 6 (by omega)).trans rfl⟩) (λ_ g1 w1 y i=>(i6 y hP i.gm (J (by omega) (by omega)) (Y (by omega)) (k6 (by omega))).mono ?_);rintro e w' ⟨rfl,k⟩;exact⟨0,_,rfl,⟨rfl,rfl⟩,g1,k⟩
  .refine mN (oF (p.ac+11)) h hP hR G k0 (λ_=>⟨u,(hP.ea 7 (by omega)).trans rfl⟩) (λ_ g1 w1 y i=>(i7 y hP i.gm k2 k3).mono ?_);rintro e w' ⟨rfl,k⟩;exact⟨0,_,rfl,⟨rfl,rfl⟩,g1,k⟩
  .refine mN (oF (p.ac+13)) h hP hR G k0 (λ_=>⟨u,(hP.ea 8 (by omega)).trans rfl⟩) (λ_ g1 w1 y i=>(i8 y hP i.gm (J (by omega) (by omega)) k2 k3).mono ?_);rintro e w' ⟨rfl,k⟩;exact⟨0,_,rfl,⟨rfl,rfl⟩,g1,k⟩
  .refine mN (oF (p.ac+15)) h hP hR G k0 (λ_=>⟨u,(hP.ea 9 (by omega)).trans rfl⟩) (λ_ g1 w1 y i=>(i9 y hP i (J (by omega) (by omega)) (k8 rfl) W).mono ?_);rintro e w' ⟨rfl,s3,Z,q,k⟩;exact⟨0,s3,rfl,⟨rfl,q⟩,Z,k⟩
  .exact mN (Fl (n:=101) (by omega)) h hP hR G k0 (λ_=>⟨u,(hP.ea 10 (by omega)).trans rfl⟩) (λ_ g1 w1 y i=>i10 y hP i (J (by omega) (by omega)) (Y (by omega)) (k6 (by omega)))
  .exact mN (Fl (n:=102) (by omega)) h hP hR G k0 (λ_=>⟨u,(hP.ea 11 (by omega)).trans rfl⟩) (λ_ g1 w1 y i=>i11 y hP i (J (by omega) (by omega)) (Y (by omega)) (k6 (by omega)))
  .refine mN (oF (p.ac+17)) h hP hR G k0 (λ_=>⟨u,(hP.ea 12 (by omega)).trans rfl⟩) (λ_ g1 w1 y i=>(i12 y hP i (J (by omega) (by omega)) k2 (k6 (by omega)) W).mono ?_);rintro e w' ⟨rfl,s3,Z,q,k⟩;exact⟨0,s3,rfl,⟨rfl,q⟩,Z,k⟩
  .refine mN (Fl (n:=104) (by omega)) h hP hR G k0 (λ_=>⟨u,(hP.ea 13 (by omega)).trans rfl⟩) (λ_ g1 w1 y i=>(i13 y hP i.gm (Y (by omega)) (k6 (by omega)) (i.ok.Ay (i.oq (Y (by omega)))) i.lf a3 (λe=>(vK i.ok (i.oq (Y (by omega))) e).1)).mono ?_);rintro e w' ⟨rfl,Z,k⟩;exact⟨_,_,rfl,⟨rfl,rfl⟩,Z,k⟩
  .refine mN (oF (p.ac+18)) h hP hR G k0 (λ_=>⟨u,(hP.ea 14 (by omega)).trans rfl⟩) (λ_ g1 w1 y i=>(i14 y hP i.gm (J (by omega) (by omega)) i.ok.lw i.ok.ww i.lf i.wh a3 i.lv i.ok.nd i.ok.lt i.ok.ol (by have:=a4.ok.kl;have:=hP.n2;omega) W (λe=>?_)).mono ?_)
   .have:=i.fw.b (cr ((s.ends p t 21).fD t) t-1) (by have:=i.hi;omega);rw[show cr ((s.ends p t 21).fD t) t-1+1=cr ((s.ends p t 21).fD t) t by omega]at this;exact this
   rintro e w' ⟨rfl,Z,k⟩;exact⟨0,_,rfl,⟨rfl,rfl⟩,Z,k⟩
  .refine mN (oF (p.ac+19)) h hP hR G k0 (λ_=>⟨u,(hP.ea 16 (by omega)).trans rfl⟩) (λ_ g1 w1 y i=>(i16 y hP i.gm i.ok.lw i.wh).mono ?_);rintro e w' ⟨rfl,Z,k⟩;exact⟨0,_,rfl,⟨rfl,rfl⟩,Z,k⟩
  .refine mN (JD (p.ac+26) (p.ac+27)) h hP hR G k0 (λ_=>⟨u,(hP.ea 20 (by omega)).trans rfl⟩) (λ_ g1 w1 y i=>(i20 y hP i.gm (J (by omega) (by omega)) W).mono ?_);rintro e w' ⟨why,rfl,q,Z,k⟩;exact⟨why,_,rfl,⟨q,rfl⟩,Z,k⟩
  refine mN (oF (p.ac+31)) h hP hR G k0 (λ_=>⟨u,(hP.ea 22 (by omega)).trans rfl⟩) (λ_ g1 w1 y i=>(i22 y hP i.gm (J (by omega) (by omega))).mono ?_);rintro e w' ⟨rfl,k⟩;exact⟨0,_,rfl,⟨rfl,rfl⟩,g1,k⟩
 exact mN (Fl (n:=101) (by omega)) (op:=0) (a:=0) (b:=0) (c:=0) h hP hR G (by omega) (λe=>ch e hr) (λe=>ch e hr)
theorem CH{p:dz}{s:Pl}{g:eE}{w:World}(h:dQ p s g w){x y:Nat}(H:fz s x y)(G:x≠5)(u:s.q x y=[]):∃ad c,w.cell? ⟨p.eb,wg x y,none⟩=some (.slice ad 0 c):=by
 have o:=h.ln H (by rw[u];exact dc _);have i:=o.hE.cell _ o.ho;rw[o.e,u]at i;unfold tP at i;rw[aa G]at i;exact⟨_,_,i⟩
theorem CG{p:dz}{s:Pl}{g:eE}{w:World}(h:dQ p s g w)(Y:LW s){x y t:Nat}{r:List Nat}(G:fz s x y)(W:x≠5)(J:s.q x y=t :: r):∃zb c,w.cell? ⟨p.eb,wg x y,none⟩=some (.slice (some ⟨zb,0,none⟩) (r.length+1) c)/\w.cell? ⟨zb,0,none⟩=some (P0 (g.tb t))/\zb<w.heap.size:=by
 have H:=Y.len G;have u:=h.ln G (by omega);have i:=u.hE.cell _ u.ho;have o:=u.row;rw[u.e]at i;unfold tP at i;rw[aa W]at i;rw[J]at i o;obtain⟨zb,c,he⟩:=dM o (by simp);rw[he]at i o;exact⟨zb,c,i,(iG o).2.2.2.2.2 0 _ (by simp),(dA o zb rfl).2.1⟩
def oy(p:dz)(s:Pl)(g:eE)(w:World)(t j:Nat)(wr:World):Prop:=
 ∃s1 g1,Tr p s g w s1 g1 wr/\Ok p s1/\s1.ev.length<=s.ev.length+j/\s1.nt<=s.nt+j/\fe s1 t/\∀s',gg p t (p.qn-j) s1 s'->gg p t p.qn (s.start t) s'
theorem AT{p:dz}{t:Nat}{s:Pl}(h:(s.T t).run=false):∀n,gg p t n s s
 | 0=>rfl
 | n+1=>by unfold gg;rw[aa (by rw[h];decide)]
theorem GJ{p:dz}{s:Pl}{g:eE}{w u:World}{t:Nat}(ht:fe s t)(o:Tr p s g w (s.dw t) g u):Tr p s g w (s.start t) g (u.setCell ⟨g.tb t,2,none⟩ (.bool true)):=by
 have i:=(eg (fO s t)).2 ht;refine o.trans (o.r.flag (v:={ (s.dw t).T t with run:=true }) i rfl rfl ?_ (bm (S:=λk=>k=g.tb t) (dk _ _) (ag rfl) _));refine((o.r.tk i).ep 2 _).congr (λj G=>?_);have e:∀a,sl ((s.dw t).dv t { (s.dw t).T t with run:=true }) g a t=sl (s.dw t) g a t:=λa=>by
  unfold sl;rw[jN (s:=s.dw t) (s':=(s.dw t).dv t { (s.dw t).T t with run:=true }) rfl rfl rfl rfl rfl (by rw[df]) rfl]
 have y:j=0\/j=1\/j=2\/j=3\/j=4\/j=5\/j=6:=by omega
 rcases y with rfl|rfl|rfl|rfl|rfl|rfl|rfl
 .rfl
 .rw[eG _ _ _ _ (by decide)];exact(e 12).symm
 .rw[gf];show _=Value.bool _;rw[df]
 .rw[eG _ _ _ _ (by decide)];show _=x8 p g _;rw[df];rfl
 .rw[eG _ _ _ _ (by decide)];show _=Ba g t _;rw[df];rfl
 .rw[eG _ _ _ _ (by decide)];show _=Value.int .i64 _;rw[df];rfl
 rw[eG _ _ _ _ (by decide)];exact(e 5).symm
theorem DA{p:dz}(hPI:PI p){s s1 i:Pl}{g g1 G:eE}{w wr w':World}{t j:Nat}(hj:j<p.qn)(hn:s.nt+p.qn<=500000000)(W:Tr p s g w s1 g1 wr)(y:Ok p s1)(he:s1.ev.length<=s.ev.length+j)(J:s1.nt<=s.nt+j)(ht:fe s1 t)(H:∀s',gg p t (p.qn-j) s1 s'->gg p t p.qn (s.start t) s')(e:(s1.T t).run=true)(u:iC p t s1 i)(o:Tr p s1 g1 wr i G w'):oy p s g w t (j+1) w':=by
 obtain⟨Y,G2⟩:=uT hPI ⟨y,(y.rn t ht e).2,e⟩ (by omega) u;obtain⟨l,l1,l2,l3,_⟩:=id G2;refine⟨i,G,W.trans o,Y,by rw[l1,bo];omega,by omega,⟨ht.1,by have:=ht.2;omega⟩,λs' Z=>H s' ?_⟩;rw[show p.qn-j=(p.qn-(j+1))+1 by omega];unfold gg;rw[aj e];exact⟨i,u,Z⟩
theorem AW{p:dz}{s:Pl}{g:eE}{w:World}(h:dQ p s g w)(hP:PW p)(hPI:PI p)(hO:Ok p s)(hn:s.nt+p.qn<=500000000)(aE:p.qn<=50)(aA:s.ev.length<=100): Calls prog 68 #[P0 p.eb] w λe w'=>e=.returned (.tuple #[])/\∃s' g',gO p s s'/\Tr p s g w s' g' w':=by
 have hl:fz s 2 0:=ag ⟨rfl,rfl⟩
 cases hq:s.q 2 0 with
 | nil=>
  obtain⟨ad,c,a2⟩:=CH h hl (by omega) hq;have G:w.cell? ⟨p.eb,32,none⟩=some (.slice ad 0 c):=a2;have W:=gP p.eb 32 0 c ad w G;have aD:decide ((0:Nat)=0)=true:=rfl;rw[aD]at W;have a7:=az W;have HR:Hid (∃s' g',gO p s s'/\Tr p s g w s' g' w):=⟨s,g,by unfold gO;rw[hq],Tr.refl h⟩;clear W aD a2 G h hP hPI hO aA hq hl;go_in;go_wp2_with fail
  refine a7.mono ?_;rintro e w1 ⟨rfl,rfl⟩;go_wp2_with fail
  refine da (results_none rfl _ _ _) rfl ?_;exact⟨rfl,HR⟩
 | cons t r=>
  have aH:t∈s.q 2 0:=by rw[hq];simp
  have aB:=hO.ql 2 0 hl t aH;have ht:=hO.lt t aB;obtain⟨zb,c,a2,cz,lz⟩:=CG h hO.lw hl (by omega) hq;have G:w.cell? ⟨p.eb,32,none⟩=some (.slice (some ⟨zb,0,none⟩) (r.length+1) c):=a2;have W:=gP p.eb 32 (r.length+1) c (some ⟨zb,0,none⟩) w G;have aM:decide ((r.length+1:Nat)=0)=false:=by simp
  rw[aM]at W;have a7:=az W;have aN:=az (qq p.eb 32 r.length c zb (g.tb t) w G cz);have aP:=az (ss h hO.lw ht);have HP:=az hP;have aT:=az hPI;have aS:=az (hO.start aB);have HT:=az ht;have HQ:=az hq;have a4:Hid (s.nt+p.qn<=500000000/\s.ev.length<=100/\p.qn<=50):=⟨hn,aA,aE⟩;have h.E.lt:=h.E.lt;clear W aM a2 G cz lz h hP hPI hO hq hl aH aB hn aA aE;go_in;go_wp2_with fail
  refine a7.mono ?_;rintro e w1 ⟨rfl,rfl⟩;go_wp2_with fail
  refine aN.mono ?_;rintro e w2 ⟨rfl,rfl⟩;go_wp2_with fail
  refine aP.mono ?_;rintro e w3 ⟨rfl,a9⟩;have u:=(eg (fO s t)).2 ht;have a8:=a9.r.tk u;obtain⟨d2,z2⟩:=a8.cells 2 (by omega);generalize gE p (s.dw t) g t 2=y2 at d2;have aG:=az a9;clear a8 a9 u;go_wp2_with fail
  have aF:=az (GJ HT aG);generalize aW:w3.setCell ⟨g.tb t,2,none⟩ (.bool true)=w4 at *;clear aW d2 z2 aG a7 aN aP;have b0:Hid (oy p s g w2 t 0 w4):=by
   obtain⟨f1,_,_,f4,_⟩:=gz s t;refine⟨s.start t,g,aF,aS,?_,?_,(eg (fO s t)).2 HT,λs' h'=>h'⟩
   .show(s.dw t).ev.length<=_;rw[f4];exact bj _
   show(s.dw t).nt<=_;rw[fO];exact bj _
  have aY:Hid (∀s1 g1 wr,Tr p s g w2 s1 g1 wr->g1.tb t=g.tb t):=λs1 g1 wr J=>J.t t HT;clear aF aS ht;go_loopw [3] (λi wr=>∃j:Nat,j<=p.qn/\i=.int .i64 j/\Hid (oy p s g w2 t j wr)) (λi _=>p.qn-(intOf i).toNat)
  case atStart=>exact⟨0,by omega,rfl,b0⟩
  case round=>
   obtain⟨j,hj,rfl,hG⟩:=hrel;obtain⟨s1,g1,J,Y,a5,hn1,u,Z⟩:=hG;have H:=aY s1 g1 wr J;have e1:=J.r.E.cell 1 (by omega);rw[show iJ p s1 g1 1=p.E0 1 from rfl,HP.e1]at e1;have lt:=(J.r.tk u).lt;by_cases o:(s1.T t).run=true
   .have t2:=J.r.run u o;rw[H]at t2;have aO:Hid (Rn p s1 t):=⟨Y,(Y.rn t u o).2,o⟩;by_cases aK:j<p.qn
    .have a3:(j:Int)<p.qn:=by omega
     have a1:=KY J.r HP aT aO (by have:=a4.out;omega) (by have:=a4.out;omega);rw[H]at a1;have aQ:=az a1;have aV:Hid (∀s2 g2 w',iC p t s1 s2->Tr p s1 g1 wr s2 g2 w'->oy p s g w2 t (j+1) w'):=λs2 g2 w' hs a6=>DA aT aK a4.1 J Y a5 hn1 u Z o hs a6;clear J Y a5 hn1 u Z H a1 o;go_wp2_with fail
     refine aQ.mono ?_;rintro e w5 ⟨rfl,s2,g2,aL,a6⟩;have HG:=az (aV s2 g2 w5 aL a6);clear aL a6 e1 t2;go_wp2_with fail
     have hw:wrap64 ((j:Int)+1)=((j+1:Nat):Int):=by
      rw[bd ((j:Int)+1) ⟨by omega,by have:=a4.out;omega⟩];omega
     rw[hw];go_roundw
     case rel=>exact⟨j+1,by omega,rfl,HG⟩
     case measure=>simp[intOf];omega
    have a3:¬((j:Int)<p.qn):=by omega
    have aI:j=p.qn:=by omega
    have aR:=xA (x:=2) (y:=0) J.r Y.lw (ag ⟨rfl,rfl⟩) u (by omega) (by rw[aO.wh];intro e;cases e);have a0:Calls prog 110 #[Pt p.eb 32,P0 (g1.tb t)] wr λe w'=>e=.returned (.tuple #[])/\∃r,Tr p s1 g1 wr (s1.dV 2 0 t) (g1.at 2 0 r) w':=aR;rw[H]at a0;have aZ:=az a0;have aX:Hid (∀r w',Tr p s1 g1 wr (s1.dV 2 0 t) (g1.at 2 0 r) w'->∃s' g',gO p s s'/\Tr p s g w2 s' g' w'):=λr w' h'=>by
     refine⟨s1.dV 2 0 t,_,?_,J.trans h'⟩;unfold gO;rw[HQ.out];exact⟨s1,Z s1 (by rw[aI,Nat.sub_self];rfl),by rw[aj o]⟩
    clear J Y a5 hn1 u Z H aR a0 o aI;go_wp2_with fail
    refine aZ.mono ?_;rintro e w6 ⟨rfl,r6,aJ⟩;have HF:=az (aX r6 w6 aJ);clear aJ e1 t2;go_wp2_with fail
    go_end0;obtain⟨s',g',h1,h2⟩:=HF;exact⟨rfl,by first|exact⟨s',g',h1,h2⟩|exact⟨s',h1,g',h2⟩⟩
   have aC:(s1.T t).run=false:=by simpa using o
   have t2:=J.r.run u aC;rw[H]at t2;have HF:Hid (∃s' g',gO p s s'/\Tr p s g w2 s' g' wr):=by
    refine⟨s1,g1,?_,J⟩;unfold gO;rw[HQ.out];exact⟨s1,Z s1 (AT aC _),by rw[aa o]⟩
   clear J Y a5 hn1 u Z H o aC;by_cases aK:j<p.qn
   .have a3:(j:Int)<p.qn:=by omega
    go_wp2_with fail
    go_end0;obtain⟨s',g',h1,h2⟩:=HF;exact⟨rfl,by first|exact⟨s',g',h1,h2⟩|exact⟨s',h1,g',h2⟩⟩
   have a3:¬((j:Int)<p.qn):=by omega
   go_wp2_with fail
   go_end0;obtain⟨s',g',h1,h2⟩:=HF;exact⟨rfl,by first|exact⟨s',g',h1,h2⟩|exact⟨s',h1,g',h2⟩⟩
theorem nQ{q:Nat->Bool}:∀(l:List Nat) (a:Nat) (r:List Nat),l.dropWhile q=a :: r->q a=false
 | [],a,r,h=>by cases h
 | b :: l,a,r,h=>by
  rw[List.dropWhile_cons]at h;by_cases e:q b=true
  .rw[aj e]at h;exact nQ l a r h
  rw[aa e]at h;injection h with i o;subst i;simpa using e
def Mt(p:dz)(s:Pl)(g:eE)(w:World)(ys:List Nat)(w1:World):Prop:=
 ∃zs s1 g1,ys=zs.map g.tb/\Tr p s g w s1 g1 w1/\Ok p s1/\s1.q 3 0=zs/\s1.nt=s.nt/\(∀a,(s1.T a).iL=(s.T a).iL)/\s1.eY=s.eY/\s1.gr zs=s.gr (s.q 3 0)
theorem yL(s:Pl)(x y t a:Nat):((s.dV x y t).T a).iL=(s.T a).iL:=by
 by_cases e:a=t
 .subst e;rw[nO];show((s.dw a).T a).iL=_;unfold Pl.dw;split
  .rfl
  rw[df];rfl
 rw[oh s e]
theorem Gu{p:dz}{s:Pl}{g:eE}{w:World}(h:dQ p s g w)(hO:Ok p s): Calls prog 67 #[P0 p.eb] w λe w'=>e=.returned (.tuple #[])/\∃g',Tr p s g w (s.gr (s.q 3 0)) g' w':=by
 obtain⟨U,hU⟩:∃U:Nat->Int,∀a,fe s a->U (g.tb a)=(s.T a).iL:=by
  classical
  refine⟨λb=>if Z:∃a,fe s a/\g.tb a=b then(s.T Z.choose).iL else 0,λa i=>?_⟩;have Z:∃a',fe s a'/\g.tb a'=g.tb a:=⟨a,i,rfl⟩;show(if Z:∃a',fe s a'/\g.tb a'=g.tb a then(s.T Z.choose).iL else 0)=_;rw[dif_pos Z,h.ny Z.choose_spec.1 i Z.choose_spec.2]
 have H:∀{o:List Nat} {s1:Pl},Ok p s1->s1.q 3 0=o->s1.nt=s.nt->∀a,a∈o->fe s a:=fun {o s1} hO1 hq hn a i=>(eg hn).1 (hO1.lw.b 3 0 (ab (ag ⟨rfl,rfl⟩)) a (by rw[hq];exact i)).1;refine(IH p.eb s.eY U (Mt p s g w) ((s.q 3 0).map g.tb) w ⟨s.q 3 0,s,g,rfl,Tr.refl h,hO,rfl,rfl,λ_=>rfl,rfl,rfl⟩ ?_ ?_ ?_).mono ?_
 .rintro ys w1 w2 ⟨o,s1,g1,k1,k2,u⟩ hg;exact⟨o,s1,g1,k1,k2.kept hg,u⟩
 .rintro ys w1 ⟨o,s1,g1,rfl,k2,u,J,W,k6,k7,k8⟩;refine⟨k2.r.E.lt,?_,λe=>?_,λx r e=>?_⟩
  .rw[k2.r.E.cell 28 (by omega)];show some (Value.int .i64 s1.eY)=_;rw[k7]
  .have:=List.map_eq_nil_iff.1 e;exact CH k2.r (x:=3) (y:=0) (ab (ag ⟨rfl,rfl⟩)) (by omega) (by rw[J,this])
  cases o with
  | nil=>cases e
  | cons a Y=>
   injection e with e1 e2;subst e1 e2;have i:=H u J W a (by simp);have G:=k2.t a i;obtain⟨zb,c,c1,c2,c3⟩:=CG k2.r u.lw (x:=3) (y:=0) (ab (ag ⟨rfl,rfl⟩)) (by omega) J;have hT:=k2.r.tk (t:=a) ((eg W).2 i);rw[G]at c2;refine⟨zb,c,by rw[dS];exact c1,c2,?_,by rw[<-G];exact hT.lt⟩;rw[hU a i,<-k6 a,<-G];exact hT.cell 5 (by omega)
 .rintro x r w1 ⟨o,s1,g1,k1,k2,u,J,W,k6,k7,k8⟩ hx
  cases o with
  | nil=>cases k1
  | cons a Y=>
   injection k1 with e1 e2;subst e1 e2;have i:=H u J W a (by simp);have G:=k2.t a i;have a1:fz s1 3 0:=ab (ag ⟨rfl,rfl⟩);have a3:a∈s1.q 3 0:=by rw[J];simp
   have a0:=(u.lw.b 3 0 a1 a a3).2
   have a2:Calls prog 110 #[Pt p.eb 32,P0 (g1.tb a)] w1 λe w'=>e=.returned (.tuple #[])/\∃r,Tr p s1 g1 w1 (s1.dV 2 0 a) (g1.at 2 0 r) w':=xA (x:=2) (y:=0) k2.r u.lw (ag ⟨rfl,rfl⟩) ((eg W).2 i) (by omega) (by rw[a0];intro e;injection e with e;injection e with e _;omega);rw[G]at a2;refine a2.mono ?_;rintro e w' ⟨rfl,r',h'⟩;refine⟨rfl,Y,s1.dV 2 0 a,_,rfl,k2.trans h',u.dV (u.ql 3 0 a1 a a3),?_,(iX s1 2 0 a).trans W,λb=>(yL s1 2 0 a b).trans (k6 b),(iW s1 2 0 a).2.2.2.2.1.trans k7,?_⟩
   .show((s1.dw a).eZ 2 0 ((s1.dw a).q 2 0++[a])).q 3 0=Y;rw[fL _ _ (by omega),fN a0];show(s1.eZ 3 0 ((s1.q 3 0).erase a)).q 3 0=Y;rw[fX,J];simp
   rw[<-k8];show _=(if(s1.T a).iL<=s1.eY then(s1.dV 2 0 a).gr Y else s1);rw[aj (by rw[k6 a,k7,<-hU a i];exact hx)]
 rintro e w' ⟨rfl,o,s1,g1,k1,k2,u,J,W,k6,k7,k8⟩;refine⟨rfl,g1,?_⟩;have a6:s1.gr o=s1:=by
  cases o with
  | nil=>rfl
  | cons a Y=>
   have i:=H u J W a (by simp)
   show(if(s1.T a).iL<=s1.eY then(s1.dV 2 0 a).gr Y else s1)=s1;rw[aa (by rw[k6 a,k7,<-hU a i];exact by simpa using (nQ _ _ _ k1))]
 rw[<-k8,a6];exact k2
end F
namespace F
def yz(s:Pl):Prop:=s.q 3 0≠[]\/∃k,k<4/\s.q 4 k≠[]
open Classical in
noncomputable def Pl.zp (s : Pl) : Int := if s.sp = true then 5 else if s.lv = [] then 4 else if s.q 2 0 ≠ [] then 1 else if yz s then 2 else 3
end F
namespace D
open F
variable {p : dz} {d : Dp} {K : Nat} {s s' : Pl} {m m' : Dm} {g g' : Dg} {w w' : World} {ρ : Nat → Nat}
def Dm.lD(m:Dm):Dm:={ m with ev:=[] }
def mT(m:Dm)(I:Nat):Prop:=∃t,1<=t/\t<=I/\((m.T t).how=2\/(m.T t).how=3)
theorem mT.yes{I:Nat}(h:mT m I):mT m (I+1):=by
 obtain⟨t,i,o,e⟩:=h;exact⟨t,i,by omega,e⟩
theorem mT.new{I:Nat}(h:(m.T (I+1)).how=2\/(m.T (I+1)).how=3):mT m (I+1):=⟨I+1,by omega,bj _,h⟩
theorem mT.no{I:Nat}(h:¬mT m I)(u:(m.T (I+1)).how≠2)(o:(m.T (I+1)).how≠3):¬mT m (I+1):=by
 rintro⟨t,y,G,i⟩;by_cases e:t=I+1
 .subst e;exact i.elim u o
 exact h ⟨t,y,by omega,i⟩
theorem eK.rest(h:eK p K s m ρ)(o:Ok p s):mT m m.nt↔yz s:=by
 constructor
 .rintro⟨t,Y,W,t3⟩;rcases t3 with e|e
  .left
   have:=(h.JX o).1 ⟨⟨Y,W⟩,e⟩;exact λe'=>by rw[e']at this;cases this
  right
  have ht:=(iw h t).1 ⟨Y,W⟩;rcases h.wh o ((h.how o ht).1 (by rw[e];decide)) with⟨_,i⟩|⟨_,i⟩|⟨_,i⟩|⟨k,G,_,i,e3⟩|⟨u,_,_,i,_⟩
  .rw[i]at e;cases e
  .rw[i]at e;cases e
  .rw[i]at e;cases e
  .have:=(h.JW o (x:=4) (y:=k) (ab (ab (ag ⟨rfl,G⟩))) (ag rfl)).1 ⟨⟨Y,W⟩,i,e3⟩;exact⟨k,G,λe'=>by rw[e']at this;cases this⟩
  rw[i]at e;cases e
 rintro(J|⟨k,G,J⟩)
 .obtain⟨t,ht⟩:=List.exists_mem_of_ne_nil _ J;obtain⟨⟨Z,a2⟩,H⟩:=(h.JX o).2 ht;exact⟨t,Z,a2,ag H⟩
 obtain⟨t,ht⟩:=List.exists_mem_of_ne_nil _ J;obtain⟨⟨Z,a2⟩,H,_⟩:=(h.JW o (x:=4) (y:=k) (ab (ab (ag ⟨rfl,G⟩))) (ag rfl)).2 ht;exact⟨t,Z,a2,ab H⟩
theorem GI(h:dQ d m g w)(hS:eK p K s m.lD ρ)(hO:Ok p s)(a6:s.nt≠0):Calls prog 49 #[P0 g.mb] w λe w'=>e=.returned (.int .i64 s.zp)/\w.grownBy w' none:=by
 have a8:m.nt=s.nt:=hS.nt;have hn:m.nt≠0:=by rw[a8];exact a6
 obtain⟨tb,hb,hl,hm,hF⟩:=h.T hn;have c6:w.cell? ⟨g.mb,6,none⟩=some (.slice (some ⟨tb,0,none⟩) m.nt (g.ro 1 0).2):=by rw[<-hb];exact(h.mc 6 (by omega) rfl).1
 have c7:w.cell? ⟨g.mb,7,none⟩=some (.slice (g.ro 2 0).1 (s.q 2 0).length (g.ro 2 0).2):=by
  have Z:=(h.mc 7 (by omega) (v:=.slice (g.ro 2 0).1 m.q.length (g.ro 2 0).2) rfl).1;rw[show m.q=s.q 2 0 from hS.q]at Z;exact Z
 have a5:w.cell? ⟨g.mb,14,none⟩=some (.bool s.sp):=by
  have Z:=(h.mc 14 (by omega) (v:=.bool m.sp) rfl).1;rw[show m.sp=s.sp from hS.sp]at Z;exact Z
 have aG:m.nt<=9223372036854775807:=by unfold maxLen at hm;omega
 have a0:Hid (mT m m.nt↔yz s):=hS.rest hO;have a7:Hid (∀w1,w.grownBy w1 none->Calls prog 77 #[P0 g.mb] w1 λe w'=>e=.returned (.int .i64 (s.lv.length:Int))/\w1.grownBy w' none):=λw1 hg=>by
  refine(F0 (h.kept hg) hn).mono ?_;rintro e w' ⟨N,rfl,_,aA,aE⟩;rw[hS.live hO aA];exact⟨rfl,aE⟩
 have HF:=az hF;have lt:=hF.lt;have a1:=h.M.lt;clear hF hm hb hl h hS hO a8 a6;generalize g.mb=rb at *;go_in;go_wp2_with fail
 go_loopw [3,4] (λr i wr=>∃(b:Bool) (I:Nat),r=.bool b/\i=.int .i64 I/\I<=m.nt/\Hid (b=true↔mT m I)/\Hid (w.grownBy wr none)) (λ_ i _=>m.nt-(intOf i).toNat)
 case atStart=>
  refine⟨false,0,rfl,rfl,by omega,⟨λe=>(by cases e),λe=>?_⟩,ax _ _⟩;obtain⟨t,t1,t2,_⟩:=e;omega
 case round=>
  obtain⟨b,I,rfl,rfl,hI,Y,rG⟩:=hrel;have W:=λ(k:Nat) (W:k<w.heap.size)=>rG.out.block k W (by intro e;cases e);have d6:=(aw (a:=⟨rb,6,none⟩) (W rb a1)).trans c6;have H:=HF.out.block (W tb lt);by_cases aL:I<m.nt
  .have hc:∀k,k<8->wr.cell? ⟨tb,I*8+k,none⟩=some (tC (m.T (I+1)) (iR m g 5 (I+1)) k):=λk W=>(H.cell (I*8+k) (by omega)).trans (congrArg some (pc m g (t:=I+1) (by omega) W (by omega)));have a9:(I:Int)<(m.nt:Int):=by omega
   have c1:wr.cell? ⟨tb,I*8+1,none⟩=some (.int .i64 ((m.T (I+1)).how:Int)):=hc 1 (by omega);clear H hc W
   cases b with
   | true=>
    have KN:Hid (true=true↔mT m (I+1)):=⟨λ_=>(Y.out.1 rfl).yes,λ_=>rfl⟩;clear Y;go_wp2_with fail
    go_roundw
    case rel=>exact⟨true,I+1,rfl,by go_num,by omega,KN,rG⟩
    case measure=>simp[intOf];omega
   | false=>
    have aB:Hid (¬mT m I):=λe=>by have:=Y.out.2 e;cases this
    clear Y;by_cases h2:(m.T (I+1)).how=2
    .have KN:Hid (true=true↔mT m (I+1)):=⟨λ_=>mT.new (ag h2),λ_=>rfl⟩;rw[h2]at c1;clear h2;go_wp2_with fail
     go_roundw
     case rel=>exact⟨true,I+1,rfl,by go_num,by omega,KN,rG⟩
     case measure=>simp[intOf];omega
    by_cases h3:(m.T (I+1)).how=3
    .have KN:Hid (true=true↔mT m (I+1)):=⟨λ_=>mT.new (ab h3),λ_=>rfl⟩;rw[h3]at c1;clear h2 h3;go_wp2_with fail
     go_roundw
     case rel=>exact⟨true,I+1,rfl,by go_num,by omega,KN,rG⟩
     case measure=>simp[intOf];omega
    have KN:Hid (false=true↔mT m (I+1)):=⟨λe=>(by cases e),λe=>ch e (mT.no aB.out h2 h3)⟩;generalize (m.T (I+1)).how=hw at *;have aH:((hw:Int) == 2)=false:=by rw[dK];omega
    have aF:((hw:Int) == 3)=false:=by rw[dK];omega
    clear h2 h3;go_wp2_with fail
    go_roundw
    case rel=>exact⟨false,I+1,rfl,by go_num,by omega,KN,rG⟩
    case measure=>simp[intOf];omega
  obtain rfl:I=m.nt:=by omega
  have a9:¬((m.nt:Int)<(m.nt:Int)):=by omega
  have HB:Hid (b=true↔yz s):=⟨λe=>a0.out.1 (Y.out.1 e),λe=>Y.out.2 (a0.out.2 e)⟩;have a2:=az (a7.out wr rG.out);clear H W Y a0 HF;go_wp2_with fail
  refine a2.out.mono ?_;rintro e w2 ⟨rfl,a3⟩;have KG:=az (an rG.out a3);have a4:=(bh KG.out (a:=⟨rb,14,none⟩) a1).1.trans a5;have e7:=(bh KG.out (a:=⟨rb,7,none⟩) a1).1.trans c7;clear a3 a5 c7 c6 d6 a2 a7;have fin:∀x:Int,s.zp=x->(Ending.returned (.int .i64 x)=Ending.returned (.int .i64 s.zp)/\w.grownBy w2 none):=λx e=>⟨by rw[e],KG.out⟩;have G:=az fin;clear fin
  cases hsp:s.sp with
  | true=>
   have u:=az hsp;rw[hsp]at a4;clear hsp;go_wp2_with fail
   go_ret;exact G.out 5 (by unfold Pl.zp;rw[aj u.out])
  | false=>
   have u:Hid (¬s.sp=true):=λe=>by rw[hsp]at e;cases e
   rw[hsp]at a4;clear hsp;by_cases y:s.lv=[]
   .have o:=az y;have aC:(s.lv.length:Int)=0:=by rw[y];rfl
    clear y;go_wp2_with fail
    go_ret;exact G.out 4 (by unfold Pl.zp;rw[aa u.out,aj o.out])
   have o:=az y;have aC:((s.lv.length:Int) == 0)=false:=by
    rw[dK];exact λe=>y (cf.1 (by omega))
   clear y;by_cases hq:s.q 2 0=[]
   .have J:=az hq;rw[hq]at e7;simp only[List.length_nil]at e7;clear hq
    cases b with
    | true=>
     go_wp2_with fail
     go_ret;exact G.out 2 (by unfold Pl.zp;rw[aa u.out,aa o.out,aa (λe=>e J.out),aj (HB.out.1 (by first|exact rfl|trivial))])
    | false=>
     go_wp2_with fail
     go_ret;exact G.out 3 (by unfold Pl.zp;rw[aa u.out,aa o.out,aa (λe=>e J.out),aa (λe=>by have Z:=HB.out.2 e;cases Z)])
   have J:=az hq;have aJ:(0:Int)<((s.q 2 0).length:Int):=by
    have:(s.q 2 0).length≠0:=λe=>hq (cf.1 e);omega
   clear hq;go_wp2_with fail
   go_ret;exact G.out 1 (by unfold Pl.zp;rw[aa u.out,aa o.out,aj J.out])
