import Derived.Test.YtnjiinbhbjpfkaaGreatDoorKb
set_option maxRecDepth 100000
set_option maxHeartbeats 0
set_option linter.all false
namespace Go.Proofs.YtnjiinbhbjpfkaaGreatDoor
open Go.RowKit Go.Proofs.Tryz
namespace F
theorem IP{p:dz}{s:Pl}{g:eE}{w:World}{t:Nat}(h:dQ p s g w)(hR:Rn p s t): Calls prog 164 #[P0 (g.tb t)] w λe w'=>e=.returned (P0 (g.fb t (cr s t)))/\w.grownBy w' none:=by
 have J:=zm hR.gm;have u:=h.row (x:=12) (y:=t) (by unfold eQ;omega) (gG (by omega) hR.ht);have i:eH s 12 t=cr s t+1:=J;obtain⟨o,cap,he⟩:=dM u (by rw[i];omega);rw[he,i]at u;have G:w.ownsRow 0 184 1 (.slice (some ⟨o,0,none⟩) (cr s t+1) cap) (cr s t+1) (((List.range (s.T t).fr.length).map (g.fb t)).map P0):=u;have c1:w.cell? ⟨g.tb t,1,none⟩=some (.slice (some ⟨o,0,none⟩) (cr s t+1) cap):=by
  rw[(h.tk hR.ht).cell 1 (by omega)];show some (sl s g 12 t)=_;rw[he,i]
 have H:w.cell? ⟨o,cr s t,none⟩=some (P0 (g.fb t (cr s t))):=(iG G).2.2.2.2.2 (cr s t) _ (by
  rw[eo,eo,fW hR.hi];rfl)
 exact IQ (g.tb t) o cap (cr s t) (g.fb t (cr s t)) w c1 H (by have:=hR.fw.n2;omega)
theorem Im{p:dz}{s:Pl}{g:eE}{w:World}{t:Nat}(h:dQ p s g w)(hR:Rn p s t): Calls prog 185 #[P0 (g.fb t (cr s t))] w λe w'=>e=.returned (.bool (decide ((bw s t).nx=p.len (bw s t).f)))/\w.grownBy w' none:=
 BA _ _ _ _ _ _ _ w (In.fr h hR.gm).1
theorem IS{p:dz}{s:Pl}{g:eE}{w:World}{t:Nat}(h:dQ p s g w)(hP:PW p)(hR:Rn p s t)(hn:(bw s t).nx≠p.len (bw s t).f){op a b c:Nat}(hi:p.ins (bw s t).f (bw s t).nx=(op,a,b,c)): Calls prog 186 #[P0 (g.fb t (cr s t))] w λe w'=>e=.returned (xD op a b c)/\Tr p s g w (s.fD t) g w':=by
 have o:=In.fr h hR.gm;have i:=hR.ff;obtain⟨G,H⟩:=hP.cd w h.fix (bw s t).f i.1;obtain⟨k0,k1,k2,u⟩:=H (bw s t).nx (by omega);rw[hi]at k0 k1 k2 u;refine(Ca _ _ _ _ _ _ op a b c _ w o.1 (by omega) (hP.le _ i.1) G k0 k1 k2 u).mono ?_;rintro e w' ⟨rfl,y,J⟩;exact⟨rfl,In.next h hR.gm y ⟨J,o.2.1.block (y.block _ o.2.1.lt (by intro e;injection e with e;exact o.2.2 e.symm)),o.2.2⟩⟩
theorem Bk{p:dz}{s:Pl}{g:eE}{w:World}{t:Nat}(v:B.V)(h:dQ p s g w)(hP:PW p)(hR:Rn p s t)(i:s.ev.length<=100000): Calls prog 107 #[P0 (g.tb t),vA v] w λe w'=>e=.returned (.tuple #[])/\∃g',Tr p s g w (s.back t v) g' w':=by
 have hn:=hR.fw.n2;have o:=hR.ok.kl;have u:=hP.n2;refine uC v h hR.ok.lw hR.ok.ww hR.ht hR.lf hR.wh hR.fw.n1 (by omega) hR.lv hR.ok.nd hR.ok.lt hR.ok.ol (by omega) i (λe=>?_);have:=hR.fw.b (cr s t-1) (by have:=hR.hi;omega);rw[show cr s t-1+1=cr s t by omega]at this;exact this
theorem JG{p:dz}{s:Pl}{g:eE}{w:World}{t why:Nat}(hw:why<=8)(h:dQ p s g w)(hP:PW p)(hR:Rn p s t)(i:s.ev.length<=100000): Calls prog 187 #[P0 p.eb,P0 (g.tb t),.int .i64 why] w λe w'=>e=.returned (.tuple #[])/\∃g',Tr p s g w (s.leave t (0,-(why:Int)) 3 why) g' w':=by
 have o:=hR.ok.kl;have u:=hP.n2;exact JF hw h hR.ok.lw hR.ok.ww hR.ht hR.lv hR.ok.nd hR.ok.lt hR.ok.ol (by omega) i
def Ip(p:dz)(s:Pl)(g:eE)(w:World)(t n:Nat)(wr:World):Prop:=
 ∃s1 g1 k,Tr p s g w s1 g1 wr/\Rn p s1 t/\s1.ev=s.ev/\(s1.T t).fr.length<=k/\s1.ends p t k=s.ends p t 21/\(s1.T t).fr.length=n
theorem Bs{p:dz}{s:Pl}{t k:Nat}(i:0<k)(h:(bw s t).nx≠p.len (bw s t).f):s.ends p t k=s:=by
 cases k with
 | zero=>omega
 | succ k=>unfold Pl.ends;rw[aa (λe=>h e.2)]
theorem uH{p:dz}{s:Pl}{t k:Nat}(e:(s.T t).run=true)(h:(bw s t).nx=p.len (bw s t).f):s.ends p t (k+1)=(s.back t (0,0)).ends p t k:=by
 show(if(s.T t).run=true/\(bw s t).nx=p.len (bw s t).f then Pl.ends p t k (s.back t (0,0)) else s)=_;rw[aj ⟨e,h⟩]
theorem Br{p:dz}{s:Pl}{t:Nat}(k:Nat)(i:(s.T t).run=false):s.ends p t k=s:=by
 cases k with
 | zero=>rfl
 | succ k=>unfold Pl.ends;rw[aa (λe=>by rw[i]at e;cases e.1)]
theorem dQ.run{p:dz}{s:Pl}{g:eE}{w:World}{t:Nat}(h:dQ p s g w)(ht:fe s t){b:Bool}(e:(s.T t).run=b):w.cell? ⟨g.tb t,2,none⟩=some (.bool b):=by
 rw[(h.tk ht).cell 2 (by omega)];show some (Value.bool (s.T t).run)=_;rw[e]
theorem AF(s:Pl)(t:Nat):cr (s.fD t) t=cr s t:=by
 unfold cr;rw[show((s.fD t).T t).fr.length=(s.T t).fr.length from(gj s t (cr s t) t { bw s t with nx:=(bw s t).nx+1 }).2.2.2.2]
def J9(fn:Nat)(l:List Value):Prop:=
 ((fn=101\/fn=102\/fn=104\/fn=108)/\l=[])\/(∃b,(fn=163\/fn=151)/\l=[P0 b])\/∃b c,fn=167/\l=[P0 b,P0 c]
theorem oF(b:Nat):J9 163 [P0 b]:=ab (ag ⟨b,ag rfl,rfl⟩)
theorem Ag(b:Nat):J9 151 [P0 b]:=ab (ag ⟨b,ab rfl,rfl⟩)
theorem JD(b c:Nat):J9 167 [P0 b,P0 c]:=ab (ab ⟨b,c,rfl,rfl⟩)
theorem Fl{n:Nat}(h:n=101\/n=102\/n=104\/n=108):J9 n []:=ag ⟨h,rfl⟩
theorem mN{fn:Nat}{l:List Value}(aT:J9 fn l){p:dz}{s:Pl}{g:eE}{w:World}{t op a b c:Nat}(h:dQ p s g w)(hP:PW p)(hR:Rn p s t)(aP:s.ev.length<=1000)(bH:op<23)(hi:((s.ends p t 21).T t).run=true->p.ins (bw (s.ends p t 21) t).f (bw (s.ends p t 21) t).nx=(op,a,b,c)/\p.E0 (4+op)=Fv fn l.toArray)(hc:((s.ends p t 21).T t).run=true->∀g1 w1,dQ p ((s.ends p t 21).fD t) g1 w1->Rn p ((s.ends p t 21).fD t) t->Calls prog fn (m8 p ((s.ends p t 21).fD t) g1 t (op,a,b,c) :: l).toArray w1 λe w'=>∃(why:Int) (s3:Pl),e=.returned (.int .i64 why)/\jD p ((s.ends p t 21).fD t) t (op,a,b,c) why s3/\∃g',Tr p ((s.ends p t 21).fD t) g1 w1 s3 g' w'): Calls prog 134 #[P0 p.eb,P0 (g.tb t)] w λe w'=>e=.returned (.tuple #[])/\∃s' g',iC p t s s'/\Tr p s g w s' g' w':=by
 have HF:=az aT;have HC:=az hc;have HI:=az hi;have HE:=az aP;have HP:=az hP;have aF:=az hR.ht;have b5:Hid (Ip p s g w t (s.T t).fr.length w):=⟨s,g,21,Tr.refl h,hR,rfl,dH hR.fw.n2 (by omega),rfl,rfl⟩;clear aT hc hi aP hP hR h;go_in;go_wp2_with fail
 go_loopg [] ((s.T t).fr.length) (λn wr=>Hid (Ip p s g w t n wr))
 case atStart=>exact b5
 case round=>
  obtain⟨s1,g1,k,hT,aE,aN,aZ,hS,aQ⟩:=hrel.out;have aL:=hT.t t aF.out;have o:=IP hT.r aE;rw[aL]at o;have u:=az o;have KT:=az hT;have i:=az aE;have KK:=az (ay aN (ay aZ (ay hS aQ)));have aC:=az aL;clear o hT aE aN aZ hS aQ aL b5;go_wp2_with fail
  refine u.out.mono ?_;rintro e w1 ⟨rfl,aS⟩;have aY:=az aS;clear aS u;go_wp2_with fail
  refine(Im (KT.out.r.kept aY.out) i.out).mono ?_;rintro e w2 ⟨rfl,aO⟩;have aB:=az (an aY.out aO);clear aO;by_cases hd:(bw s1 t).nx=p.len (bw s1 t).f
  .have a0:decide ((bw s1 t).nx=p.len (bw s1 t).f)=true:=by simpa using hd
   have HD:=az hd;simp only[a0];clear hd a0;go_wp2_with fail
   refine(fH 0 _).mono ?_;rintro e w3 ⟨rfl,rfl⟩;go_wp2_with fail
   have a3:=az (au aB.out (.cells #[.int .i64 0,.int .i64 0] 149));have a6:=Bk (0,0) (KT.out.r.kept a3.out) HP.out i.out (by rw[KK.out.1];have:=HE.out;omega);rw[aC.out]at a6;refine a6.mono ?_;rintro e w4 ⟨rfl,g4,J⟩;have y:=(KT.out.kept a3.out).trans J;have G:=y.t t aF.out;have hB:=i.out.ok.back i.out.lv i.out.wh (dN.num (s:=s1) 0);have W:=mA i.out.ok.lw i.out.ht (0,0);have a2:=lG s1 t (0,0);have a4:fe (s1.back t (0,0)) t:=by
    by_cases e0:cr s1 t=0
    .exact(eg (a2.1 e0).2.2).2 i.out.ht
    exact(eg (a2.2 e0).2.2.1).2 i.out.ht
   by_cases e0:cr s1 t=0
   .have c2:=y.r.run a4 (W.1 e0);rw[G]at c2;have aG:=az y;have Y:s.ends p t 21=s1.back t (0,0):=by
     obtain⟨_,q2,q3,_⟩:=KK.out;obtain⟨k',rfl⟩:∃k',k=k'+1:=⟨k-1,by have:=i.out.hi;omega⟩;rw[uH i.out.run HD.out,Br k' (W.1 e0)]at q3;exact q3.symm
    have a1:=az (ay Y (W.1 e0));clear a6 J y G hB W a2 a4 e0 Y;go_wp2_with fail
    refine da (results_none rfl _ _ _) rfl ?_;refine⟨rfl,s1.back t (0,0),g4,?_,?_⟩
    .unfold iC;rw[a1.out.1,aa (by rw[a1.out.2];decide)]
    first|exact aG.out|exact aG.out.kept (bq (ax _ _))|exact aG.out.kept (db (ax _ _) _)
   obtain⟨r1,r2⟩:=W.2 e0;obtain⟨b1,b2,b3,b4⟩:=a2.2 e0;have c2:=y.r.run a4 (r1.trans i.out.run);rw[G]at c2;have aW:∀w5,w4.grownBy w5 none->Ip p s g w t ((s1.T t).fr.length-1) w5:=λw5 bJ=>by
    obtain⟨q1,q2,q3,q4⟩:=KK.out;obtain⟨k',rfl⟩:∃k',k=k'+1:=⟨k-1,by have:=i.out.hi;omega⟩;rw[uH i.out.run HD.out]at q3;exact⟨s1.back t (0,0),g4,k',y.kept bJ,⟨hB,by rw[b1];exact i.out.lv,r1.trans i.out.run⟩,b2.trans q1,by rw[r2];omega,q3,r2⟩
   have aI:=az aW;clear a6 J y G hB W a2 a4 e0 r1 r2 b1 b2 b3 b4 aW;go_wp2_with fail
   go_roundg ((s1.T t).fr.length-1)
   case measure=>
    have q4:=KK.out.2.2.2;have q5:=i.out.hi;omega
   case rel=>first|exact aI.out _ (ax _ _)|exact aI.out _ (bq (ax _ _))|exact aI.out _ (db (ax _ _) _)
  have a0:decide ((bw s1 t).nx=p.len (bw s1 t).f)=false:=by simpa using hd
  have Y:s.ends p t 21=s1:=by
   obtain⟨_,q2,q3,_⟩:=KK.out;rw[<-q3];exact Bs (by have:=i.out.hi;omega) hd
  rw[Y]at HC HI;have aX:=az (HC.out i.out.run);obtain⟨aR,aU⟩:=HI.out i.out.run;have aD:=az aR;have bE:=az aU;have HD:=az hd;have a1:=az Y;have o:=IP (KT.out.r.kept aB.out) i.out;rw[aC.out]at o;have u:=az o;simp only[a0];clear hd a0 Y HC HI aR aU o;go_wp2_with fail
  refine u.out.mono ?_;rintro e w3 ⟨rfl,aM⟩;have a3:=az (an aB.out aM);clear aM u;go_wp2_with fail
  refine(IS (KT.out.r.kept a3.out) HP.out i.out HD.out aD.out).mono ?_;rintro e w4 ⟨rfl,J⟩;have b8:=az ((KT.out.kept a3.out).trans J);clear J;have aA:g1.fb t (cr (s1.fD t) t)=g1.fb t (cr s1 t):=by rw[AF]
  generalize bD:g1.fb t (cr s1 t)=fb at *;have bK:=az aA;clear aA bD;go_wp2_with fail
  have HX:=az (jf w4 op a b c fb (g.tb t) p.eb);have bC:=az (ah w4 (.cells #[.int .u8 (op:Int),.int .u8 (a:Int),.int .u8 (b:Int),.int .u8 (c:Int),P0 fb,P0 (g.tb t),P0 p.eb] 186) none);have bF:(w4.alloc (.cells #[.int .u8 (op:Int),.int .u8 (a:Int),.int .u8 (b:Int),.int .u8 (c:Int),P0 fb,P0 (g.tb t),P0 p.eb] 186)).heap.size=w4.heap.size+1:=by simp
  generalize hW:w4.alloc (.cells #[.int .u8 (op:Int),.int .u8 (a:Int),.int .u8 (b:Int),.int .u8 (c:Int),P0 fb,P0 (g.tb t),P0 p.eb] 186)=w5 at *;clear hW;obtain⟨x0,x1,x2,x3,x4,x5,x6⟩:=fk HX.out;have a5:=az (b8.out.kept bC.out);have e5:w5.cell? ⟨p.eb,4+op,none⟩=some (Fv fn l.toArray):=by
   rw[a5.out.r.E.cell (4+op) (by omega)];unfold iJ;rw[aj (by omega),bE.out]
  have bM:(op:Int)<23:=by omega
  have H:=aX.out g1 w5.drew (a5.out.kept (bq (ax _ _))).r (mM i.out HD.out).1;have a9:m8 p (s1.fD t) g1 t (op,a,b,c)=dZ op a b c fb (g.tb t) p.eb:=by
   show dZ op a b c (g1.fb t (cr (s1.fD t) t)) (g1.tb t) p.eb=_;rw[bK.out,aC.out]
  rw[a9]at H;have aV:=az H;have bG:=HP;clear H a9 aX;rcases HF.out with⟨rfl|rfl|rfl|rfl,rfl⟩|⟨b1,rfl|rfl,rfl⟩|⟨b1,b2,rfl,rfl⟩
  all_goals
   clear HF;go_region_with ((first|go_at_call 101|go_at_call 102|go_at_call 104|go_at_call 108|go_at_call 163|go_at_call 151|go_at_call 167);refine aV.out.mono ?_;rintro e w6 ⟨why,s3,rfl,a8,g6,b0⟩;have aH:=az a8;have bA:=az b0;clear a8 b0)
   all_goals
    have a7:=az ((a5.out.kept (bq (ax _ _))).trans bA.out);clear aV e5 x0 x1 x2 x3 x4 x5 x6 HX bF;by_cases Z:why=0
    .subst Z;have aK:Hid (iC p t s s3):=by
      show iC p t s s3;unfold iC;rw[a1.out,aj i.out.run];exact⟨0,s3,by rw[aD.out];exact aH.out,by rw[aj rfl]⟩
     go_wp2_with fail
     go_end0;exact⟨rfl,s3,g6,aK.out,a7.out⟩
    obtain⟨v1,v2,v3⟩:=nP (show((op,a,b,c):yi).1<23 from bH) aH.out;obtain⟨n8,bB⟩:∃n8:Nat,why=(n8:Int):=⟨why.toNat,by omega⟩;have b9:=v3 Z;subst b9;subst bB;have aK:Hid (iC p t s ((s1.fD t).leave t (0,-(n8:Int)) 3 n8)):=by
     show iC p t s _;unfold iC;rw[a1.out,aj i.out.run];exact⟨n8,s1.fD t,by rw[aD.out];exact aH.out,by rw[aa Z]⟩
    have aJ:=JG (why:=n8) (by omega) a7.out.r bG.out (mM i.out HD.out).1 (by show s1.ev.length<=_;rw[KK.out.1];have:=HE.out;omega);rw[show g6.tb t=g.tb t from a7.out.t t aF.out]at aJ;have bI:=az aJ;have bQ:=Z;clear aJ v1 v2 v3 Z;go_wp2_with fail
    refine bI.out.mono ?_;rintro e w7 ⟨rfl,g7,b6⟩;have bL:=az (a7.out.trans b6);clear b6;go_wp2_with fail
    go_end0;exact⟨rfl,_,g7,aK.out,bL.out⟩
end F
namespace F
def iP(v:B.V):Prop:=-9223372036854775808<=v.2/\v.2<=9223372036854775807
structure Ng(s:Pl):Prop where
 F:∀t f,f∈(s.T t).fr->∀a,iP (f.R a)
 M:∀c v,v∈s.M c->iP v
 O:∀v,v∈s.out->iP v
variable {p : dz} {s s' : Pl} {t : Nat}
theorem iP.n{x:Int}(e:-9223372036854775808<=x)(i:x<=9223372036854775807):iP (0,x):=⟨e,i⟩
theorem iP.z:iP (0,0):=⟨by decide,by decide⟩
theorem iP.getD{l:List B.V}(h:∀v,v∈l->iP v)(i:Nat):iP (l.getD i (0,0)):=by
 rw[ar];by_cases e:i<l.length
 .rw[bn e];exact h _ (List.getElem_mem e)
 rw[cw (by omega)];exact iP.z
theorem iP.wrap(x:Int):iP (0,B.wrap x):=by
 unfold B.wrap;exact iP.n (by omega) (by omega)
theorem iP.arith(o:Nat)(x y:Int):iP (0,arith o x y):=by
 unfold F.arith;split
 .exact iP.wrap _
 split
 .exact iP.wrap _
 split
 .exact iP.wrap _
 unfold pF;split
 .exact iP.n (by omega) (by omega)
 exact iP.z
theorem iP.wide{b c:Nat}(e:b<256)(i:c<256):iP (0,B.wide b c):=by
 unfold B.wide;split<;>exact iP.n (by omega) (by omega)
theorem Ng.at(h:Ng s)(t i a:Nat):iP ((de s t i).R a):=by
 unfold de;rw[ar];by_cases e:i<(s.T t).fr.length
 .rw[bn e];exact h.F t _ (List.getElem_mem e) a
 rw[cw (by omega)];exact iP.z
theorem Ng.slot(h:Ng s)(c i:Nat):iP ((s.M c).getD i (0,0)):=iP.getD (h.M c) i
theorem Ng.same(h:Ng s)(e:∀t,(s'.T t).fr=(s.T t).fr:=by intro t;rfl)(o:s'.M=s.M:=by rfl)(u:s'.out=s.out:=by rfl):Ng s':=
 ⟨λt f i=>h.F t f (by rw[<-e];exact i),by rw[o];exact h.M,by rw[u];exact h.O⟩
theorem Ng.dv(h:Ng s){x:oT}(hx:∀f,f∈x.fr->∀a,iP (f.R a)):Ng (s.dv t x):=
 ⟨λu f i=>by
  by_cases e:u=t
  .subst e;rw[df]at i;exact hx f i
  have:(s.dv t x).T u=s.T u:=aa e;rw[this]at i;exact h.F u f i,h.M,h.O⟩
theorem Ng.dx(h:Ng s)(i:Nat){f:gY}(G:∀a,iP (f.R a)):Ng (s.dx t i f):=
 h.dv (λy u=>by
  rcases List.mem_or_eq_of_mem_set u with e|e
  .exact h.F t y e
  rw[e];exact G)
theorem Ng.set{f:gY}(i:∀a,iP (f.R a))(a:Nat){v:B.V}(e:iP v)(b:Nat):iP ((f.set a v).R b):=by
 show iP (B.set f.R a v b);unfold B.set;split
 .exact e
 exact i b
theorem Ng.oD(h:Ng s)(i a:Nat){v:B.V}(e:iP v):Ng (s.dx t i ((de s t i).set a v)):=h.dx i (Ng.set (λb=>h.at t i b) a e)
theorem Ng.join(h:Ng s)(x y t:Nat):Ng (s.dV x y t):=h.same (λu=>Df s x y t u) (iW s x y t).2.2.2.2.2.2.1 (iW s x y t).2.1
theorem Ng.fJ(h:Ng s)(t:Nat){v:B.V}(e:iP v):Ng (s.fJ t v):=by
 unfold Pl.fJ;split
 .exact h
 exact(h.oD _ _ e).join 2 0 t
theorem Ng.dR{v : B.V} (hv : iP v) : ∀ (l : List Nat) {s : Pl}, Ng s → Ng (s.dR v l)
  | [], _, h => h
  | u :: l, s, h => by
    show Ng ((s.fJ u v).dR v l)
    exact Ng.dR hv l (h.fJ u hv)
theorem Ng.gone(h:Ng s)(t kind:Nat)(x:Int){v:B.V}(W:iP v):Ng (s.gone t v kind x):=by
 obtain⟨_,H,_,_,_,_,G,_⟩:=gV s t v kind x;refine⟨λu f o=>?_,by rw[G];exact h.M,λy i=>?_⟩
 .refine h.F u f ?_;rw[<-ku s t u];have J:((s.gone t v kind x).T u).fr=((s.dw t).T u).fr:=by
   show(((s.dw t).dv t ((s.dw t).T t).stop).T u).fr=_;by_cases e:u=t
   .subst e;rw[df];rfl
   rw[show((s.dw t).dv t ((s.dw t).T t).stop).T u=(s.dw t).T u from aa e]
  rw[<-J];exact o
 rw[H]at i;rcases List.mem_or_eq_of_mem_set i with e|e
 .exact h.O y e
 rw[e];exact W
theorem Ng.leave(h:Ng s)(t kind:Nat)(x:Int){v:B.V}(e:iP v):Ng (s.leave t v kind x):=Ng.dR e _ (h.gone t kind x e)
theorem Ng.pop(h:Ng s)(t:Nat):Ng (s.pop t):=h.dv (λf e=>h.F t f (List.dropLast_subset _ e))
theorem Ng.back(h:Ng s)(t:Nat){v:B.V}(e:iP v):Ng (s.back t v):=by
 unfold Pl.back;split
 .exact(h.pop t).leave t _ _ e
 exact(h.pop t).dx _ (Ng.set (λb=>h.at t _ b) _ e)
theorem Ng.gh{u v:B.V}(i:iP u)(e:iP v)(a:Nat):iP (gh u v a):=by
 unfold YtnjiinbhbjpfkaaGreatDoor.gh;split
 .exact i
 split
 .exact e
 exact iP.z
theorem Ng.push(h:Ng s)(t:Nat){f:gY}(y:∀a,iP (f.R a)):Ng (s.push t f):=h.dv (λu o=>by
 rcases di.1 o with e|e
 .exact h.F t u e
 rw[dL]at e;rw[e];exact y)
theorem Ng.more(h:Ng s):Ng s.more:=by
 refine⟨λt f u=>?_,h.M,λv y=>?_⟩
 .have i:f∈(if t=s.nt+1 then qR else s.T t).fr:=u;by_cases e:t=s.nt+1
  .rw[aj e]at i
   cases i
  rw[aa e]at i;exact h.F t f i
 rcases di.1 y with e|e
 .exact h.O v e
 rw[dL]at e;rw[e];exact iP.z
theorem Ng.born(h:Ng s)(f:Nat){u v:B.V}(i:iP u)(e:iP v):Ng (s.born f u v):=(h.more.push _ (λa=>Ng.gh i e a)).join 2 0 _
theorem Ng.lay{M:Nat->List B.V}(h:∀c v,v∈M c->iP v)(a:Nat){l:List B.V}(o:∀v,v∈l->iP v):∀c v,v∈B.lay M a l c->iP v:=λc v i=>by
 unfold B.lay at i;by_cases e:c=a
 .rw[aj e]at i;exact o v i
 rw[aa e]at i;exact h c v i
theorem Ng.made(h:Ng s){t a ty:Nat}{l:List B.V}(y:∀v,v∈l->iP v)(u:kL p s t a ty l s'):Ng s':=by
 rcases u with⟨c,e,_,_,_,_,_,rfl⟩|⟨_,e,_,rfl⟩
 .have i:Ng (s.na e c ty l):=⟨h.F,Ng.lay h.M c y,h.O⟩;exact i.dx _ (Ng.set (λb=>h.at t _ b) a iP.z)
 have i:Ng (s.dv t (s.T t).stop):=h.dv (λf o=>h.F t f o);exact i.same
theorem Ng.two(h:Ng s){o a b c:Nat}{why:Int}(e:wE s t o a b c why s'):Ng s':=by
 rcases e with⟨_,_,rfl⟩|⟨_,_,rfl⟩
 .exact h.oD _ a (iP.arith _ _ _)
 exact h
theorem Fk(h:Ng s)(x:B.V):iP (iy s x).2.1:=by
 unfold iy;split
 .exact iP.z
 exact h.slot _ _
theorem Ng.inst(h:Ng s){k:F.yi}{why:Int}(hR:Rn p s t)(hn:s.nt+1<=500000000)(Z:IA p (bw s t).f k)(hi:jD p s t k why s'):Ng s':=by
 obtain⟨i,a,b,c⟩:=k;obtain⟨k1,k2,G,y,_,_,_,_,_,_,H,W,n3,n4,J⟩:=Z;simp only at k1 k2 G y H W n3 n4 J;have o:∀a,iP ((bw s t).R a):=λa=>h.at t _ a;have Y:i=0\/i=1\/i=2\/i=3\/i=4\/i=5\/i=6\/i=7\/i=8\/i=9\/i=10\/i=11\/i=12\/i=13\/i=14\/i=16\/i=20\/i=22:=by omega
 rcases Y with rfl|rfl|rfl|rfl|rfl|rfl|rfl|rfl|rfl|rfl|rfl|rfl|rfl|rfl|rfl|rfl|rfl|rfl
 .rw[hi.2];exact h.oD _ _ (iP.wide G y)
 .rw[hi.2];exact h.oD _ _ (o _)
 .exact h.two hi
 .exact h.two hi
 .exact h.two hi
 .exact h.two hi
 .rw[hi.2];refine h.oD _ _ ?_;split
  .exact iP.n (by omega) (by omega)
  exact iP.z
 .rw[hi.2];exact h.dx _ o
 .rw[hi.2];exact h.dx _ o
 .exact h.made (λv u=>by rw[(List.mem_replicate.1 u).2];exact iP.z) hi.2
 .rcases hi with⟨_,_,e⟩|⟨_,_,e⟩
  .rw[e];exact h.oD _ _ (h.slot _ _)
  rw[e];exact h
 .rcases hi with⟨_,_,e⟩|⟨_,_,e⟩
  .rw[e];exact⟨h.F,Ng.lay h.M _ (λv u=>by
    rcases List.mem_or_eq_of_mem_set u with e|e
    .exact h.M _ v e
    rw[e];exact o _),h.O⟩
  rw[e];exact h
 .exact h.made (λv u=>by rw[dL.1 u];exact o _) hi.2
 .rw[hi.2];unfold kP;split
  .exact h.push _ (λa=>Ng.gh (o _) (Fk h _) a)
  exact h
 .rw[hi.2];exact h.back _ (o _)
 .rw[hi.2];exact h.join _ _ _
 .rw[hi.2];unfold iY;split
  .exact h.same
  exact h
 rw[hi.2];exact h.oD _ _ (iP.n (by have:=hR.ok.c0;omega) (by have:=hR.ok.c1;omega))
theorem Ng.start(h:Ng s)(t:Nat):Ng (s.start t):=by
 have e:=h.same (λv=>ku _ t v) (gz _ t).2.2.2.2.2.2.2.2.1 (gz _ t).2.1;exact e.dv (λf i=>e.F t f i)
theorem Ng.ends(p : dz) (t : Nat) : ∀ (n : Nat) {s : Pl}, Ng s → Ng (s.ends p t n)
  | 0, _, h => h
  | n + 1, s, h => by
    unfold Pl.ends
    split
    · exact Ng.ends p t n (h.back t iP.z)
    · exact h
theorem Ng.fD(h:Ng s)(t:Nat):Ng (s.fD t):=h.dx _ (λa=>h.at t _ a)
theorem Ng.gr : ∀ (l : List Nat) {s : Pl}, Ng s → Ng (s.gr l)
  | [], _, h => h
  | t :: l, s, h => by
    unfold Pl.gr
    split
    · exact Ng.gr l (h.join 2 0 t)
    · exact h
theorem Ng.eN : ∀ (l : List (Int × Nat)) {s : Pl}, (∀ x, x ∈ l → x.2 < 256) → Ng s → Ng (s.eN l)
  | [], _, _, h => h
  | x :: l, s, hl, h => by
    show Ng ((s.recv x).eN l)
    refine Ng.eN l (fun y hy => hl y (by simp [hy])) ?_
    unfold Pl.recv
    split
    · unfold Pl.wW
      split
      · exact h.fJ _ (iP.n (by omega) (by have := hl x (by simp); omega))
      · split
        · exact h.same
        · exact h
    · exact h
end F
namespace F
variable {p : dz} {s s' x : Pl} {t : Nat}
theorem jV(n:Nat)(h:¬((s.T t).run=true/\(bw s t).nx=p.len (bw s t).f)):s.ends p t n=s:=by
 cases n with
 | zero=>rfl
 | succ n=>unfold Pl.ends;rw[aa h]
theorem Rn.back(h:Rn p s t)(i:cr s t≠0):Rn p (s.back t (0,0)) t/\((s.back t (0,0)).T t).fr.length+1=(s.T t).fr.length:=by
 have e:=(mA h.ok.lw h.ht (0,0)).2 i;obtain⟨o,G,y,u⟩:=(lG s t (0,0)).2 i;exact⟨⟨h.ok.back h.lv h.wh (dN.num 0),by rw[o];exact h.lv,by rw[e.1];exact h.run⟩,by have:=h.hi;rw[e.2];omega⟩
theorem mz(h:Rn p s t)(e:cr s t=0):((s.back t (0,0)).T t).run=false:=(mA h.ok.lw h.ht (0,0)).1 e
theorem uI:∀(n:Nat) {s:Pl},((s.T t).run=true->Rn p s t)->((s.T t).run=true->(s.T t).fr.length<=n)->s.ends p t n=s.ends p t (n+1)
 | 0,s,h,hl=>by
  by_cases e:(s.T t).run=true
  .have:=(h e).hi;have:=hl e;omega
  rw[jV 0 (λh=>e h.1),jV 1 (λh=>e h.1)]
 | n+1,s,h,hl=>by
  by_cases e:(s.T t).run=true/\(bw s t).nx=p.len (bw s t).f
  .have hR:=h e.1;have y:s.ends p t (n+1)=(s.back t (0,0)).ends p t n:=by show Pl.ends p t (n+1) s=_;unfold Pl.ends;rw[aj e];cases n<;>rfl
   have u:s.ends p t (n+1+1)=(s.back t (0,0)).ends p t (n+1):=by show Pl.ends p t (n+1+1) s=_;rw[Pl.ends,aj e]
   rw[y,u];by_cases o:cr s t=0
   .have i:=mz hR o;rw[jV n (λh=>by rw[i]at h;cases h.1),jV (n+1) (λh=>by rw[i]at h;cases h.1)]
   obtain⟨k1,k2⟩:=hR.back o;exact uI n (λ_=>k1) (λ_=>by have:=hl e.1;omega)
  rw[jV _ e,jV _ e]
theorem Bt(h:Rn p s t)(e:(bw s t).nx=p.len (bw s t).f):s.ends p t 21=(s.back t (0,0)).ends p t 21:=by
 have u:s.ends p t 21=(s.back t (0,0)).ends p t 20:=by show Pl.ends p t (20+1) s=_;rw[Pl.ends,aj ⟨h.run,e⟩]
 rw[u];refine uI 20 (λi=>?_) (λi=>?_)
 .by_cases o:cr s t=0
  .rw[mz h o]at i;cases i
  exact(h.back o).1
 by_cases o:cr s t=0
 .rw[mz h o]at i;cases i
 have:=(h.back o).2;have:=h.fw.n2;omega
theorem nY{k:Nat}(h:gg p t k x s')(e:(x.T t).run=false):s'=x:=by
 cases k with
 | zero=>exact h
 | succ k=>
  unfold gg at h;rw[aa (by rw[e];decide)]at h;exact h
theorem AV{k:Nat}(h:Rn p s t)(e:(bw s t).nx=p.len (bw s t).f)(u:gg p t (k+1) s s'):(cr s t=0->s'=s.back t (0,0))/\(cr s t≠0->gg p t (k+1) (s.back t (0,0)) s'):=by
 unfold gg at u;rw[aj h.run]at u;obtain⟨x,i,G⟩:=u;unfold iC at i;rw[Bt h e]at i;constructor
 .intro y;have o:=mz h y;rw[jV 21 (λh=>by rw[o]at h;cases h.1),aa (by rw[o];decide)]at i;subst i;exact nY G o
 intro y;unfold gg;rw[aj (h.back y).1.run];exact⟨x,i,G⟩
theorem AU{k:Nat}(h:Rn p s t)(e:(bw s t).nx≠p.len (bw s t).f)(i:gg p t (k+1) s s'):∃why s3,jD p (s.fD t) t (p.ins (bw s t).f (bw s t).nx) why s3/\gg p t k (if why=0 then s3 else s3.leave t (0,-why) 3 why) s':=by
 unfold gg at i;rw[aj h.run]at i;obtain⟨x,o,y⟩:=i;unfold iC at o;rw[jV 21 (λh=>e h.2),aj h.run]at o;obtain⟨why,s3,u,rfl⟩:=o;exact⟨why,s3,u,y⟩
theorem Go.Ms{t c:Nat}{s s':Pl}(h:Go t c s s'):s'.ev.length<=s.ev.length+c:=by
 obtain⟨l,e,i,_⟩:=h;rw[e,bo];omega
end F
namespace F
theorem KY{p:dz}{s:Pl}{g:eE}{w:World}{t:Nat}(h:dQ p s g w)(hP:PW p)(hPI:PI p)(hR:Rn p s t)(hn:s.nt+1<=500000000)(G:s.ev.length<=1000): Calls prog 134 #[P0 p.eb,P0 (g.tb t)] w λe w'=>e=.returned (.tuple #[])/\∃s' g',iC p t s s'/\Tr p s g w s' g' w':=by
 obtain⟨_,a1,_⟩:=rY 21 hR (by have:=hR.fw.n2;omega);by_cases hr:((s.ends p t 21).T t).run=true
 .obtain⟨a2,hG,hx⟩:=a1 hr;obtain⟨a4,a5⟩:=mM a2 hx;have a6:=a2.ff;have a0:=hPI _ a6.1 (bw (s.ends p t 21) t).nx (by omega);generalize u:p.ins (bw (s.ends p t 21) t).f (bw (s.ends p t 21) t).nx=k at a0;obtain⟨H,a,b,c⟩:=k;rw[<-a5]at a0;have W:((s.ends p t 21).fD t).ev.length<=100000:=by
   obtain⟨l,l1,l2,_⟩:=id hG;show(s.ends p t 21).ev.length<=_;rw[l1,bo];omega
  obtain⟨k0,k1,k2,k3,J,Y,k6,k7,k8,k9,n1,n2,n3,n4,n5⟩:=a0;simp only at k0 k1 k2 k3 J Y k6 k7 k8 k9 n1 n2 n3 n4 n5
  have a3:(((s.ends p t 21).fD t).T t).fr.length<=1000:=by have:=a4.fw.n2;omega
  have hc:H=0\/H=1\/H=2\/H=3\/H=4\/H=5\/H=6\/H=7\/H=8\/H=9\/H=10\/H=11\/H=12\/H=13\/H=14\/H=16\/H=20\/H=22:=by omega
  rcases hc with rfl|rfl|rfl|rfl|rfl|rfl|rfl|rfl|rfl|rfl|rfl|rfl|rfl|rfl|rfl|rfl|rfl|rfl
  .refine mN (oF (p.ac+1)) h hP hR G k0 (λ_=>⟨u,(hP.ea 0 (by omega)).trans rfl⟩) (λ_ g1 w1 y i=>(i0 y hP i.gm (J (by omega) (by omega)) k2 k3).mono ?_);rintro e w' ⟨rfl,k⟩;exact⟨0,_,rfl,⟨rfl,rfl⟩,g1,k⟩
  .refine mN (oF (p.ac+3)) h hP hR G k0 (λ_=>⟨u,(hP.ea 1 (by omega)).trans rfl⟩) (λ_ g1 w1 y i=>(i1 y hP i.gm (J (by omega) (by omega)) (Y (by omega))).mono ?_);rintro e w' ⟨rfl,k⟩;exact⟨0,_,rfl,⟨rfl,rfl⟩,g1,k⟩
  .refine mN (Ag (p.ac+4)) h hP hR G k0 (λ_=>⟨u,(hP.ea 2 (by omega)).trans rfl⟩) (λ_ g1 w1 y i=>(i25 (o:=2) 2 y hP i.gm (by omega) (J (by omega) (by omega)) (Y (by omega)) (k6 (by omega))).mono ?_);rintro e w' (⟨q,rfl,k⟩|⟨q,rfl,k⟩)
   .exact⟨0,_,rfl,ag ⟨q,rfl,rfl⟩,g1,k⟩
   exact⟨1,_,rfl,ab ⟨q,rfl,rfl⟩,g1,(Tr.refl y).kept k⟩
  .refine mN (Ag (p.ac+5)) h hP hR G k0 (λ_=>⟨u,(hP.ea 3 (by omega)).trans rfl⟩) (λ_ g1 w1 y i=>(i25 (o:=3) 3 y hP i.gm (by omega) (J (by omega) (by omega)) (Y (by omega)) (k6 (by omega))).mono ?_);rintro e w' (⟨q,rfl,k⟩|⟨q,rfl,k⟩)
   .exact⟨0,_,rfl,ag ⟨q,rfl,rfl⟩,g1,k⟩
   exact⟨1,_,rfl,ab ⟨q,rfl,rfl⟩,g1,(Tr.refl y).kept k⟩
  .refine mN (Ag (p.ac+6)) h hP hR G k0 (λ_=>⟨u,(hP.ea 4 (by omega)).trans rfl⟩) (λ_ g1 w1 y i=>(i25 (o:=4) 4 y hP i.gm (by omega) (J (by omega) (by omega)) (Y (by omega)) (k6 (by omega))).mono ?_);rintro e w' (⟨q,rfl,k⟩|⟨q,rfl,k⟩)
   .exact⟨0,_,rfl,ag ⟨q,rfl,rfl⟩,g1,k⟩
   exact⟨1,_,rfl,ab ⟨q,rfl,rfl⟩,g1,(Tr.refl y).kept k⟩
  .refine mN (Ag (p.ac+7)) h hP hR G k0 (λ_=>⟨u,(hP.ea 5 (by omega)).trans rfl⟩) (λ_ g1 w1 y i=>(i25 (o:=5) 5 y hP i.gm (by omega) (J (by omega) (by omega)) (Y (by omega)) (k6 (by omega))).mono ?_);rintro e w' (⟨q,rfl,k⟩|⟨q,rfl,k⟩)
   .exact⟨0,_,rfl,ag ⟨q,rfl,rfl⟩,g1,k⟩
   exact⟨1,_,rfl,ab ⟨q,rfl,rfl⟩,g1,(Tr.refl y).kept k⟩
  .refine mN (oF (p.ac+9)) h hP hR G k0 (λ_=>⟨u,(hP.ea 6 (by omega)).trans rfl⟩) (λ_ g1 w1 y i=>(i6 y hP i.gm (J (by omega) (by omega)) (Y (by omega)) (k6 (by omega))).mono ?_);rintro e w' ⟨rfl,k⟩;exact⟨0,_,rfl,⟨rfl,rfl⟩,g1,k⟩
  .refine mN (oF (p.ac+11)) h hP hR G k0 (λ_=>⟨u,(hP.ea 7 (by omega)).trans rfl⟩) (λ_ g1 w1 y i=>(i7 y hP i.gm k2 k3).mono ?_);rintro e w' ⟨rfl,k⟩;exact⟨0,_,rfl,⟨rfl,rfl⟩,g1,k⟩
  .refine mN (oF (p.ac+13)) h hP hR G k0 (λ_=>⟨u,(hP.ea 8 (by omega)).trans rfl⟩) (λ_ g1 w1 y i=>(i8 y hP i.gm (J (by omega) (by omega)) k2 k3).mono ?_);rintro e w' ⟨rfl,k⟩;exact⟨0,_,rfl,⟨rfl,rfl⟩,g1,k⟩
  .refine mN (oF (p.ac+15)) h hP hR G k0 (λ_=>⟨u,(hP.ea 9 (by omega)).trans rfl⟩) (λ_ g1 w1 y i=>(i9 y hP i (J (by omega) (by omega)) (k8 rfl) W).mono ?_);rintro e w' ⟨rfl,s3,Z,q,k⟩;exact⟨0,s3,rfl,⟨rfl,q⟩,Z,k⟩
  .exact mN (Fl (n:=101) (by omega)) h hP hR G k0 (λ_=>⟨u,(hP.ea 10 (by omega)).trans rfl⟩) (λ_ g1 w1 y i=>i10 y hP i (J (by omega) (by omega)) (Y (by omega)) (k6 (by omega)))
  .exact mN (Fl (n:=102) (by omega)) h hP hR G k0 (λ_=>⟨u,(hP.ea 11 (by omega)).trans rfl⟩) (λ_ g1 w1 y i=>i11 y hP i (J (by omega) (by omega)) (Y (by omega)) (k6 (by omega)))
  .refine mN (oF (p.ac+17)) h hP hR G k0 (λ_=>⟨u,(hP.ea 12 (by omega)).trans rfl⟩) (λ_ g1 w1 y i=>(i12 y hP i (J (by omega) (by omega)) k2 (k6 (by omega)) W).mono ?_);rintro e w' ⟨rfl,s3,Z,q,k⟩;exact⟨0,s3,rfl,⟨rfl,q⟩,Z,k⟩
  .refine mN (Fl (n:=104) (by omega)) h hP hR G k0 (λ_=>⟨u,(hP.ea 13 (by omega)).trans rfl⟩) (λ_ g1 w1 y i=>(i13 y hP i.gm (Y (by omega)) (k6 (by omega)) (i.ok.Ay (i.oq (Y (by omega)))) i.lf a3 (λe=>(vK i.ok (i.oq (Y (by omega))) e).1)).mono ?_);rintro e w' ⟨rfl,Z,k⟩;exact⟨_,_,rfl,⟨rfl,rfl⟩,Z,k⟩
  .refine mN (oF (p.ac+18)) h hP hR G k0 (λ_=>⟨u,(hP.ea 14 (by omega)).trans rfl⟩) (λ_ g1 w1 y i=>(i14 y hP i.gm (J (by omega) (by omega)) i.ok.lw i.ok.ww i.lf i.wh a3 i.lv i.ok.nd i.ok.lt i.ok.ol (by have:=a4.ok.kl;have:=hP.n2;omega) W (λe=>?_)).mono ?_)
   .have:=i.fw.b (cr ((s.ends p t 21).fD t) t-1) (by have:=i.hi;omega);rw[show cr ((s.ends p t 21).fD t) t-1+1=cr ((s.ends p t 21).fD t) t by omega]at this;exact this
   rintro e w' ⟨rfl,Z,k⟩;exact⟨0,_,rfl,⟨rfl,rfl⟩,Z,k⟩
  .refine mN (oF (p.ac+19)) h hP hR G k0 (λ_=>⟨u,(hP.ea 16 (by omega)).trans rfl⟩) (λ_ g1 w1 y i=>(i16 y hP i.gm i.ok.lw i.wh).mono ?_);rintro e w' ⟨rfl,Z,k⟩;exact⟨0,_,rfl,⟨rfl,rfl⟩,Z,k⟩
  .refine mN (JD (p.ac+26) (p.ac+27)) h hP hR G k0 (λ_=>⟨u,(hP.ea 20 (by omega)).trans rfl⟩) (λ_ g1 w1 y i=>(i20 y hP i.gm (J (by omega) (by omega)) W).mono ?_);rintro e w' ⟨why,rfl,q,Z,k⟩;exact⟨why,_,rfl,⟨q,rfl⟩,Z,k⟩
  refine mN (oF (p.ac+31)) h hP hR G k0 (λ_=>⟨u,(hP.ea 22 (by omega)).trans rfl⟩) (λ_ g1 w1 y i=>(i22 y hP i.gm (J (by omega) (by omega))).mono ?_);rintro e w' ⟨rfl,k⟩;exact⟨0,_,rfl,⟨rfl,rfl⟩,g1,k⟩
 exact mN (Fl (n:=101) (by omega)) (op:=0) (a:=0) (b:=0) (c:=0) h hP hR G (by omega) (λe=>ch e hr) (λe=>ch e hr)
theorem CH{p:dz}{s:Pl}{g:eE}{w:World}(h:dQ p s g w){x y:Nat}(H:fz s x y)(G:x≠5)(u:s.q x y=[]):∃ad c,w.cell? ⟨p.eb,wg x y,none⟩=some (.slice ad 0 c):=by
 have o:=h.ln H (by rw[u];exact dc _);have i:=o.hE.cell _ o.ho;rw[o.e,u]at i;unfold tP at i;rw[aa G]at i;exact⟨_,_,i⟩
theorem CG{p:dz}{s:Pl}{g:eE}{w:World}(h:dQ p s g w)(Y:LW s){x y t:Nat}{r:List Nat}(G:fz s x y)(W:x≠5)(J:s.q x y=t :: r):∃zb c,w.cell? ⟨p.eb,wg x y,none⟩=some (.slice (some ⟨zb,0,none⟩) (r.length+1) c)/\w.cell? ⟨zb,0,none⟩=some (P0 (g.tb t))/\zb<w.heap.size:=by
 have H:=Y.len G;have u:=h.ln G (by omega);have i:=u.hE.cell _ u.ho;have o:=u.row;rw[u.e]at i;unfold tP at i;rw[aa W]at i;rw[J]at i o;obtain⟨zb,c,he⟩:=dM o (by simp);rw[he]at i o;exact⟨zb,c,i,(iG o).2.2.2.2.2 0 _ (by simp),(dA o zb rfl).2.1⟩
def oy(p:dz)(s:Pl)(g:eE)(w:World)(t j:Nat)(wr:World):Prop:=
 ∃s1 g1,Tr p s g w s1 g1 wr/\Ok p s1/\s1.ev.length<=s.ev.length+j/\s1.nt<=s.nt+j/\fe s1 t/\∀s',gg p t (p.qn-j) s1 s'->gg p t p.qn (s.start t) s'
theorem AT{p:dz}{t:Nat}{s:Pl}(h:(s.T t).run=false):∀n,gg p t n s s
 | 0=>rfl
 | n+1=>by unfold gg;rw[aa (by rw[h];decide)]
theorem GJ{p:dz}{s:Pl}{g:eE}{w u:World}{t:Nat}(ht:fe s t)(o:Tr p s g w (s.dw t) g u):Tr p s g w (s.start t) g (u.setCell ⟨g.tb t,2,none⟩ (.bool true)):=by
 have i:=(eg (fO s t)).2 ht;refine o.trans (o.r.flag (v:={ (s.dw t).T t with run:=true }) i rfl rfl ?_ (bm (S:=λk=>k=g.tb t) (dk _ _) (ag rfl) _));refine((o.r.tk i).ep 2 _).congr (λj G=>?_);have e:∀a,sl ((s.dw t).dv t { (s.dw t).T t with run:=true }) g a t=sl (s.dw t) g a t:=λa=>by
  unfold sl;rw[jN (s:=s.dw t) (s':=(s.dw t).dv t { (s.dw t).T t with run:=true }) rfl rfl rfl rfl rfl (by rw[df]) rfl]
 have y:j=0\/j=1\/j=2\/j=3\/j=4\/j=5\/j=6:=by omega
 rcases y with rfl|rfl|rfl|rfl|rfl|rfl|rfl
 .rfl
 .rw[eG _ _ _ _ (by decide)];exact(e 12).symm
 .rw[gf];show _=Value.bool _;rw[df]
 .rw[eG _ _ _ _ (by decide)];show _=x8 p g _;rw[df];rfl
 .rw[eG _ _ _ _ (by decide)];show _=Ba g t _;rw[df];rfl
 .rw[eG _ _ _ _ (by decide)];show _=Value.int .i64 _;rw[df];rfl
 rw[eG _ _ _ _ (by decide)];exact(e 5).symm
theorem DA{p:dz}(hPI:PI p){s s1 i:Pl}{g g1 G:eE}{w wr w':World}{t j:Nat}(hj:j<p.qn)(hn:s.nt+p.qn<=500000000)(W:Tr p s g w s1 g1 wr)(y:Ok p s1)(he:s1.ev.length<=s.ev.length+j)(J:s1.nt<=s.nt+j)(ht:fe s1 t)(H:∀s',gg p t (p.qn-j) s1 s'->gg p t p.qn (s.start t) s')(e:(s1.T t).run=true)(u:iC p t s1 i)(o:Tr p s1 g1 wr i G w'):oy p s g w t (j+1) w':=by
 obtain⟨Y,G2⟩:=uT hPI ⟨y,(y.rn t ht e).2,e⟩ (by omega) u;obtain⟨l,l1,l2,l3,_⟩:=id G2;refine⟨i,G,W.trans o,Y,by rw[l1,bo];omega,by omega,⟨ht.1,by have:=ht.2;omega⟩,λs' Z=>H s' ?_⟩;rw[show p.qn-j=(p.qn-(j+1))+1 by omega];unfold gg;rw[aj e];exact⟨i,u,Z⟩
theorem AW{p:dz}{s:Pl}{g:eE}{w:World}(h:dQ p s g w)(hP:PW p)(hPI:PI p)(hO:Ok p s)(hn:s.nt+p.qn<=500000000)(aE:p.qn<=50)(aA:s.ev.length<=100): Calls prog 68 #[P0 p.eb] w λe w'=>e=.returned (.tuple #[])/\∃s' g',gO p s s'/\Tr p s g w s' g' w':=by
 have hl:fz s 2 0:=ag ⟨rfl,rfl⟩
 cases hq:s.q 2 0 with
 | nil=>
  obtain⟨ad,c,a2⟩:=CH h hl (by omega) hq;have G:w.cell? ⟨p.eb,32,none⟩=some (.slice ad 0 c):=a2;have W:=gP p.eb 32 0 c ad w G;have aD:decide ((0:Nat)=0)=true:=rfl;rw[aD]at W;have a7:=az W;have HR:Hid (∃s' g',gO p s s'/\Tr p s g w s' g' w):=⟨s,g,by unfold gO;rw[hq],Tr.refl h⟩;clear W aD a2 G h hP hPI hO aA hq hl;go_in;go_wp2_with fail
  refine a7.mono ?_;rintro e w1 ⟨rfl,rfl⟩;go_wp2_with fail
  refine da (results_none rfl _ _ _) rfl ?_;exact⟨rfl,HR⟩
 | cons t r=>
  have aH:t∈s.q 2 0:=by rw[hq];simp
  have aB:=hO.ql 2 0 hl t aH;have ht:=hO.lt t aB;obtain⟨zb,c,a2,cz,lz⟩:=CG h hO.lw hl (by omega) hq;have G:w.cell? ⟨p.eb,32,none⟩=some (.slice (some ⟨zb,0,none⟩) (r.length+1) c):=a2;have W:=gP p.eb 32 (r.length+1) c (some ⟨zb,0,none⟩) w G;have aM:decide ((r.length+1:Nat)=0)=false:=by simp
  rw[aM]at W;have a7:=az W;have aN:=az (qq p.eb 32 r.length c zb (g.tb t) w G cz);have aP:=az (ss h hO.lw ht);have HP:=az hP;have aT:=az hPI;have aS:=az (hO.start aB);have HT:=az ht;have HQ:=az hq;have a4:Hid (s.nt+p.qn<=500000000/\s.ev.length<=100/\p.qn<=50):=⟨hn,aA,aE⟩;have h.E.lt:=h.E.lt;clear W aM a2 G cz lz h hP hPI hO hq hl aH aB hn aA aE;go_in;go_wp2_with fail
  refine a7.mono ?_;rintro e w1 ⟨rfl,rfl⟩;go_wp2_with fail
  refine aN.mono ?_;rintro e w2 ⟨rfl,rfl⟩;go_wp2_with fail
  refine aP.mono ?_;rintro e w3 ⟨rfl,a9⟩;have u:=(eg (fO s t)).2 ht;have a8:=a9.r.tk u;obtain⟨d2,z2⟩:=a8.cells 2 (by omega);generalize gE p (s.dw t) g t 2=y2 at d2;have aG:=az a9;clear a8 a9 u;go_wp2_with fail
  have aF:=az (GJ HT aG);generalize aW:w3.setCell ⟨g.tb t,2,none⟩ (.bool true)=w4 at *;clear aW d2 z2 aG a7 aN aP;have b0:Hid (oy p s g w2 t 0 w4):=by
   obtain⟨f1,_,_,f4,_⟩:=gz s t;refine⟨s.start t,g,aF,aS,?_,?_,(eg (fO s t)).2 HT,λs' h'=>h'⟩
   .show(s.dw t).ev.length<=_;rw[f4];exact bj _
   show(s.dw t).nt<=_;rw[fO];exact bj _
  have aY:Hid (∀s1 g1 wr,Tr p s g w2 s1 g1 wr->g1.tb t=g.tb t):=λs1 g1 wr J=>J.t t HT;clear aF aS ht;go_loopw [3] (λi wr=>∃j:Nat,j<=p.qn/\i=.int .i64 j/\Hid (oy p s g w2 t j wr)) (λi _=>p.qn-(intOf i).toNat)
  case atStart=>exact⟨0,by omega,rfl,b0⟩
  case round=>
   obtain⟨j,hj,rfl,hG⟩:=hrel;obtain⟨s1,g1,J,Y,a5,hn1,u,Z⟩:=hG;have H:=aY s1 g1 wr J;have e1:=J.r.E.cell 1 (by omega);rw[show iJ p s1 g1 1=p.E0 1 from rfl,HP.e1]at e1;have lt:=(J.r.tk u).lt;by_cases o:(s1.T t).run=true
   .have t2:=J.r.run u o;rw[H]at t2;have aO:Hid (Rn p s1 t):=⟨Y,(Y.rn t u o).2,o⟩;by_cases aK:j<p.qn
    .have a3:(j:Int)<p.qn:=by omega
     have a1:=KY J.r HP aT aO (by have:=a4.out;omega) (by have:=a4.out;omega);rw[H]at a1;have aQ:=az a1;have aV:Hid (∀s2 g2 w',iC p t s1 s2->Tr p s1 g1 wr s2 g2 w'->oy p s g w2 t (j+1) w'):=λs2 g2 w' hs a6=>DA aT aK a4.1 J Y a5 hn1 u Z o hs a6;clear J Y a5 hn1 u Z H a1 o;go_wp2_with fail
     refine aQ.mono ?_;rintro e w5 ⟨rfl,s2,g2,aL,a6⟩;have HG:=az (aV s2 g2 w5 aL a6);clear aL a6 e1 t2;go_wp2_with fail
     have hw:wrap64 ((j:Int)+1)=((j+1:Nat):Int):=by
      rw[bd ((j:Int)+1) ⟨by omega,by have:=a4.out;omega⟩];omega
     rw[hw];go_roundw
     case rel=>exact⟨j+1,by omega,rfl,HG⟩
     case measure=>simp[intOf];omega
    have a3:¬((j:Int)<p.qn):=by omega
    have aI:j=p.qn:=by omega
    have aR:=xA (x:=2) (y:=0) J.r Y.lw (ag ⟨rfl,rfl⟩) u (by omega) (by rw[aO.wh];intro e;cases e);have a0:Calls prog 110 #[Pt p.eb 32,P0 (g1.tb t)] wr λe w'=>e=.returned (.tuple #[])/\∃r,Tr p s1 g1 wr (s1.dV 2 0 t) (g1.at 2 0 r) w':=aR;rw[H]at a0;have aZ:=az a0;have aX:Hid (∀r w',Tr p s1 g1 wr (s1.dV 2 0 t) (g1.at 2 0 r) w'->∃s' g',gO p s s'/\Tr p s g w2 s' g' w'):=λr w' h'=>by
     refine⟨s1.dV 2 0 t,_,?_,J.trans h'⟩;unfold gO;rw[HQ.out];exact⟨s1,Z s1 (by rw[aI,Nat.sub_self];rfl),by rw[aj o]⟩
    clear J Y a5 hn1 u Z H aR a0 o aI;go_wp2_with fail
    refine aZ.mono ?_;rintro e w6 ⟨rfl,r6,aJ⟩;have HF:=az (aX r6 w6 aJ);clear aJ e1 t2;go_wp2_with fail
    go_end0;obtain⟨s',g',h1,h2⟩:=HF;exact⟨rfl,by first|exact⟨s',g',h1,h2⟩|exact⟨s',h1,g',h2⟩⟩
   have aC:(s1.T t).run=false:=by simpa using o
   have t2:=J.r.run u aC;rw[H]at t2;have HF:Hid (∃s' g',gO p s s'/\Tr p s g w2 s' g' wr):=by
    refine⟨s1,g1,?_,J⟩;unfold gO;rw[HQ.out];exact⟨s1,Z s1 (AT aC _),by rw[aa o]⟩
   clear J Y a5 hn1 u Z H o aC;by_cases aK:j<p.qn
   .have a3:(j:Int)<p.qn:=by omega
    go_wp2_with fail
    go_end0;obtain⟨s',g',h1,h2⟩:=HF;exact⟨rfl,by first|exact⟨s',g',h1,h2⟩|exact⟨s',h1,g',h2⟩⟩
   have a3:¬((j:Int)<p.qn):=by omega
   go_wp2_with fail
   go_end0;obtain⟨s',g',h1,h2⟩:=HF;exact⟨rfl,by first|exact⟨s',g',h1,h2⟩|exact⟨s',h1,g',h2⟩⟩
theorem nQ{q:Nat->Bool}:∀(l:List Nat) (a:Nat) (r:List Nat),l.dropWhile q=a :: r->q a=false
 | [],a,r,h=>by cases h
 | b :: l,a,r,h=>by
  rw[List.dropWhile_cons]at h;by_cases e:q b=true
  .rw[aj e]at h;exact nQ l a r h
  rw[aa e]at h;injection h with i o;subst i;simpa using e
def Mt(p:dz)(s:Pl)(g:eE)(w:World)(ys:List Nat)(w1:World):Prop:=
 ∃zs s1 g1,ys=zs.map g.tb/\Tr p s g w s1 g1 w1/\Ok p s1/\s1.q 3 0=zs/\s1.nt=s.nt/\(∀a,(s1.T a).iL=(s.T a).iL)/\s1.eY=s.eY/\s1.gr zs=s.gr (s.q 3 0)
theorem yL(s:Pl)(x y t a:Nat):((s.dV x y t).T a).iL=(s.T a).iL:=by
 by_cases e:a=t
 .subst e;rw[nO];show((s.dw a).T a).iL=_;unfold Pl.dw;split
  .rfl
  rw[df];rfl
 rw[oh s e]
theorem Gu{p:dz}{s:Pl}{g:eE}{w:World}(h:dQ p s g w)(hO:Ok p s): Calls prog 67 #[P0 p.eb] w λe w'=>e=.returned (.tuple #[])/\∃g',Tr p s g w (s.gr (s.q 3 0)) g' w':=by
 obtain⟨U,hU⟩:∃U:Nat->Int,∀a,fe s a->U (g.tb a)=(s.T a).iL:=by
  classical
  refine⟨λb=>if Z:∃a,fe s a/\g.tb a=b then(s.T Z.choose).iL else 0,λa i=>?_⟩;have Z:∃a',fe s a'/\g.tb a'=g.tb a:=⟨a,i,rfl⟩;show(if Z:∃a',fe s a'/\g.tb a'=g.tb a then(s.T Z.choose).iL else 0)=_;rw[dif_pos Z,h.ny Z.choose_spec.1 i Z.choose_spec.2]
 have H:∀{o:List Nat} {s1:Pl},Ok p s1->s1.q 3 0=o->s1.nt=s.nt->∀a,a∈o->fe s a:=fun {o s1} hO1 hq hn a i=>(eg hn).1 (hO1.lw.b 3 0 (ab (ag ⟨rfl,rfl⟩)) a (by rw[hq];exact i)).1;refine(IH p.eb s.eY U (Mt p s g w) ((s.q 3 0).map g.tb) w ⟨s.q 3 0,s,g,rfl,Tr.refl h,hO,rfl,rfl,λ_=>rfl,rfl,rfl⟩ ?_ ?_ ?_).mono ?_
 .rintro ys w1 w2 ⟨o,s1,g1,k1,k2,u⟩ hg;exact⟨o,s1,g1,k1,k2.kept hg,u⟩
 .rintro ys w1 ⟨o,s1,g1,rfl,k2,u,J,W,k6,k7,k8⟩;refine⟨k2.r.E.lt,?_,λe=>?_,λx r e=>?_⟩
  .rw[k2.r.E.cell 28 (by omega)];show some (Value.int .i64 s1.eY)=_;rw[k7]
  .have:=List.map_eq_nil_iff.1 e;exact CH k2.r (x:=3) (y:=0) (ab (ag ⟨rfl,rfl⟩)) (by omega) (by rw[J,this])
  cases o with
  | nil=>cases e
  | cons a Y=>
   injection e with e1 e2;subst e1 e2;have i:=H u J W a (by simp);have G:=k2.t a i;obtain⟨zb,c,c1,c2,c3⟩:=CG k2.r u.lw (x:=3) (y:=0) (ab (ag ⟨rfl,rfl⟩)) (by omega) J;have hT:=k2.r.tk (t:=a) ((eg W).2 i);rw[G]at c2;refine⟨zb,c,by rw[dS];exact c1,c2,?_,by rw[<-G];exact hT.lt⟩;rw[hU a i,<-k6 a,<-G];exact hT.cell 5 (by omega)
 .rintro x r w1 ⟨o,s1,g1,k1,k2,u,J,W,k6,k7,k8⟩ hx
  cases o with
  | nil=>cases k1
  | cons a Y=>
   injection k1 with e1 e2;subst e1 e2;have i:=H u J W a (by simp);have G:=k2.t a i;have a1:fz s1 3 0:=ab (ag ⟨rfl,rfl⟩);have a3:a∈s1.q 3 0:=by rw[J];simp
   have a0:=(u.lw.b 3 0 a1 a a3).2
   have a2:Calls prog 110 #[Pt p.eb 32,P0 (g1.tb a)] w1 λe w'=>e=.returned (.tuple #[])/\∃r,Tr p s1 g1 w1 (s1.dV 2 0 a) (g1.at 2 0 r) w':=xA (x:=2) (y:=0) k2.r u.lw (ag ⟨rfl,rfl⟩) ((eg W).2 i) (by omega) (by rw[a0];intro e;injection e with e;injection e with e _;omega);rw[G]at a2;refine a2.mono ?_;rintro e w' ⟨rfl,r',h'⟩;refine⟨rfl,Y,s1.dV 2 0 a,_,rfl,k2.trans h',u.dV (u.ql 3 0 a1 a a3),?_,(iX s1 2 0 a).trans W,λb=>(yL s1 2 0 a b).trans (k6 b),(iW s1 2 0 a).2.2.2.2.1.trans k7,?_⟩
   .show((s1.dw a).eZ 2 0 ((s1.dw a).q 2 0++[a])).q 3 0=Y;rw[fL _ _ (by omega),fN a0];show(s1.eZ 3 0 ((s1.q 3 0).erase a)).q 3 0=Y;rw[fX,J];simp
   rw[<-k8];show _=(if(s1.T a).iL<=s1.eY then(s1.dV 2 0 a).gr Y else s1);rw[aj (by rw[k6 a,k7,<-hU a i];exact hx)]
 rintro e w' ⟨rfl,o,s1,g1,k1,k2,u,J,W,k6,k7,k8⟩;refine⟨rfl,g1,?_⟩;have a6:s1.gr o=s1:=by
  cases o with
  | nil=>rfl
  | cons a Y=>
   have i:=H u J W a (by simp)
   show(if(s1.T a).iL<=s1.eY then(s1.dV 2 0 a).gr Y else s1)=s1;rw[aa (by rw[k6 a,k7,<-hU a i];exact by simpa using (nQ _ _ _ k1))]
 rw[<-k8,a6];exact k2
theorem Ce{M:Nat->List B.V}{n:Nat}{kd:B.Kd}{c:B.Cy}{k:Nat}(h:(B.ki M n kd c).on k=true):kd.on k=true:=by
 unfold B.ki at h;split at h
 .exact B.mK h
 exact B.mK h
theorem oK{M:Nat->List B.V}{R:Nat->B.V}{nr n:Nat}:∀(u:Nat) {kd:B.Kd},B.iZ kd nr n (0,R,M)->B.iZ (B.fI M n u kd) nr n (0,R,M)/\∀k,(B.fI M n u kd).on k=true->kd.on k=true
 | 0,kd,h=>⟨h,λ_ h=>h⟩
 | u+1,kd,h=>by
  cases hc:kd.cy with
  | none=>rw[B.sj hc];exact⟨h,λ_ h=>h⟩
  | some c=>
   rw[B.sh hc];obtain⟨k1,k2⟩:=oK u (B.qo h hc);exact⟨k1,λk e=>Ce (k2 k e)⟩
theorem Aw{M:Nat->List B.V}{R:Nat->B.V}{nr n u:Nat}{kd:B.Kd}(hn:1<=n)(h:B.iZ kd nr n (0,R,M)):B.iZ (B.work R nr M n u kd) nr n (0,R,M)/\∀k,(B.work R nr M n u kd).on k=true->kd.on k=true:=by
 unfold B.work
 cases hc:kd.cy with
 | none=>exact oK u (B.ti h hn)
 | some c=>exact oK u h
theorem fS.im{p:dz}{s:Pl}{X:Nat->Prop}(hn:1<=p.n)(h:fS p s X):fS p (s.im p) X:=by
 obtain⟨k1,k2⟩:=Aw (u:=p.wk) hn (show B.iZ s.kd (eh p s).length p.n (0,B.EF (eh p s),s.M) from h.hl);exact h.tQ k1 (λk _ _ e=>k2 k e)
theorem Gn.same{s s':Pl}{gone:List Nat}(h:Gn s gone)(i:s'.lv=s.lv)(hn:s'.nt=s.nt):Gn s' gone:=λu e=>⟨(eg hn).2 (h u e).1,by rw[i];exact(h u e).2⟩
structure Mv(p:dz) (s s':Pl):Prop where
 ok:Ok p s'.lD
 n1:s.nt<=s'.nt
 n2:s'.nt<=s.nt+p.qn
 el:s'.ev.length<=p.qn
 ev:∀gone,Gn s gone->∃t',(∀t r,s.q 2 0=t :: r->t'=t)/\Ge t' gone s'.ev/\Gn s'.lD (gone++jA s'.ev)
 q:∀t r,s.q 2 0=t :: r->LS s'.ev->s'.sp=false->∃m,s'.q 2 0=r++m
theorem nW{p:dz}{s s':Pl}{ticks:Int}{l:List (Int×Nat)}(hP:PI p)(aB:1<=p.n)(h:Ok p s)(he:s.ev=[])(hn:s.nt+p.qn<=500000000)(aA:∀x,x∈l->x.2<256)(ht:jh p s ticks l s'):Mv p s s':=by
 have ha:=B.vU (t:=ticks) h.c0 h.c1;obtain⟨o1,o⟩:=nF l aA (h.fF ha.1 ha.2);have o:Qu s ((s.fF (B.iz s.eY ticks)).eN l):=⟨o.ev,o.lv,o.nt,o.sp,o.q⟩;unfold jh at ht;generalize (s.fF (B.iz s.eY ticks)).eN l=s1 at *;by_cases hc:s1.lv≠[]/\s1.sp=false
 .rw[aj hc]at ht;obtain⟨s3,h3,rfl⟩:=ht;obtain⟨o2,q2⟩:=nj (s1.q 3 0) o1 rfl;have u:=o.trans q2;generalize s1.gr (s1.q 3 0)=s2 at *;obtain⟨o3,e3,f3⟩:=tz hP o2 (by rw[u.nt];exact hn) h3;have y:Ok p (s3.im p).lD:=(o3.im aB).same rfl rfl rfl rfl rfl rfl rfl rfl rfl rfl rfl;obtain⟨m,hm⟩:=u.q
  cases hq:s2.q 2 0 with
  | nil=>
   have:=e3 hq;subst this;have a0:s.q 2 0=[]:=by rw[hq]at hm;exact(List.append_eq_nil_iff.1 hm.symm).1
   have i:=u.ev.trans he;refine⟨y,by show s.nt<=s3.nt;rw[u.nt];exact bj _,by show s3.nt<=_;rw[u.nt];omega,by show s3.ev.length<=_;rw[i];exact dc _,λgone hg=>⟨0,λt r e=>(by rw[a0]at e;cases e),?_,?_⟩,λt r e=>(by rw[a0]at e;cases e)⟩
   .show Ge 0 gone s3.ev;rw[i];trivial
   show Gn (s3.im p).lD (gone++jA s3.ev);rw[i];have:gone++jA []=gone:=by unfold jA;simp
   rw[this];exact hg.same (s':=(s3.im p).lD) u.lv u.nt
  | cons t r=>
   obtain⟨s0,hG,g1,g2,g3,g4⟩:=f3 t r hq;obtain⟨ev,a1,a2,a3,a4,a5⟩:=hG;have i:s3.ev=ev:=by rw[a1,g1,u.ev,he,List.nil_append]
   have J:=g2.trans u.lv;have H:=g3.trans u.nt;have G:∀Y Z,s.q 2 0=Y :: Z->t=Y/\r=Z++m:=λY Z e=>by
    rw[e,hq]at hm;injection hm with m1 m2;exact⟨m1,m2⟩
   refine⟨y,by show s.nt<=s3.nt;omega,by show s3.nt<=_;omega,by show s3.ev.length<=_;rw[i];exact a2,λgone hg=>⟨t,λY Z e=>(G Y Z e).1,?_,?_⟩,λY Z e a8 _=>?_⟩
   .show Ge t gone s3.ev;rw[i];exact(a4 gone (hg.same J H)).1
   .show Gn (s3.im p).lD (gone++jA s3.ev);rw[i];exact(a4 gone (hg.same J H)).2.same (s':=(s3.im p).lD) rfl rfl
   obtain⟨m2,aC⟩:=a5 (by rw[<-i];exact a8);refine⟨m++m2,?_⟩;show s3.q 2 0=_;rw[aC,g4,(G Y Z e).2,dY]
 rw[aa hc]at ht;subst ht;have y:Ok p s'.lD:=o1.same rfl rfl rfl rfl rfl rfl rfl rfl rfl rfl rfl;have i:=o.ev.trans he;refine⟨y,by rw[o.nt];exact bj _,by rw[o.nt];omega,by rw[i];exact dc _,λgone hg=>?_,λt r e _ hs=>?_⟩
 .have W:∃t',∀t r,s.q 2 0=t :: r->t'=t:=by
   cases hq:s.q 2 0 with
   | nil=>exact⟨0,λt r e=>(by cases e)⟩
   | cons a b=>exact⟨a,λt r e=>(by injection e)⟩
  obtain⟨t',W⟩:=W;refine⟨t',W,?_,?_⟩
  .rw[i];trivial
  rw[i];have:gone++jA []=gone:=by unfold jA;simp
  rw[this];exact hg.same (s':=s'.lD) o.lv o.nt
 have a6:=h.ql 2 0 (ag ⟨rfl,rfl⟩) t (by rw[e];simp);refine ch ⟨?_,hs⟩ hc;rw[o.lv];intro e';rw[e']at a6;cases a6
theorem Ia{p:dz}{s:Pl}{g:eE}{x y z k:Nat}(h:(ob p s.lD (g.at 9 0 (none,0)) x y z).bs k):(ob p s g x y z).bs k/\¬(x=9/\y=0/\z=0):=by
 by_cases i:gu s x y z=true
 .rw[gH (show gu s.lD x y z=true from i)]at h;rw[gH i];by_cases u:eQ x
  .rw[gk u]at h ⊢;have o:eO ((g.at 9 0 (none,0)).ro x y).1=some k:=h;by_cases e:x=9/\y=0
   .rw[e.1,e.2,qM]at o
    cases o
   rw[kR g _ e]at o;exact⟨o,λG=>e ⟨G.1,G.2.1⟩⟩
  have J:=uM i;have H:x=0\/x=1\/x=11\/x=13\/x=14\/x=15\/x=16\/x=17\/x=18:=by unfold eQ at u;omega
  rcases H with rfl|rfl|rfl|rfl|rfl|rfl|rfl|rfl|rfl<;>exact⟨h,by omega⟩
 rw[vq (show ¬gu s.lD x y z=true from i)]at h;exact h.elim
theorem Lx{p:dz}{s:Pl}{g:eE}{w:World}(h:dQ p s g w):Tr p s g w s.lD (g.at 9 0 (none,0)) (w.setCell ⟨p.eb,43,none⟩ (.slice none 0 0)):=by
 refine h.yX (s':=s.lD) (x:=9) (y:=0) (r:=(none,0)) (j0:=43) (by omega) (iq (by omega)) (by decide) rfl rfl rfl rfl rfl rfl rfl (λa b c d e=>zC _ a b c d e) (h.E.ep 43 _) (dJ _ _ _ _) (bm (S:=λk=>k=p.eb\/eO (g.ro 9 0).1=some k) (dk _ _) (ag (ag rfl)) _) (λk i=>?_)
 cases i
theorem I8{p:dz}{s:Pl}{g:eE}{w:World}(h:dQ p s g w)(c:Int):Tr p s g w (s.fF c) g (w.setCell ⟨p.eb,28,none⟩ (.int .i64 c)):=by
 refine h.xR (s':=s.fF c) rfl rfl rfl rfl rfl (λa b=>⟨rfl,rfl⟩) ?_ (bm (S:=λk=>k=p.eb) (dk _ _) (ag rfl) _);refine(h.E.ep 28 _).congr (λj o=>?_);by_cases e:j=28
 .subst e;rw[gf];rfl
 rw[eG _ _ _ _ e];unfold iJ;by_cases i:j<28
 .rw[aj i,aj i]
 rw[aa i,aa i,aa e,aa e];rfl
def vW(p:dz)(s:Pl)(g:eE)(w:World)(s':Pl)(w':World)(v:Value):Prop:=
 ∃g' ad c,v=.slice ad s'.ev.length c/\w'.ownsRow 0 48 3 (.slice ad s'.ev.length c) s'.ev.length (kE s'.ev)/\Tr p s g w s'.lD g' w'/\∀k,eO ad=some k->¬ey p s'.lD g' k/\k<w'.heap.size/\(ey p s g k\/w.heap.size<=k)
theorem wF{p:dz}{s s':Pl}{g g':eE}{w w':World}(u:Tr p s g w s' g' w'):vW p s g w s' (w'.setCell ⟨p.eb,43,none⟩ (.slice none 0 0)) (sl s' g' 9 0):=by
 have o:w'.ownsRow 0 48 3 (.slice (g'.ro 9 0).1 s'.ev.length (g'.ro 9 0).2) s'.ev.length (kE s'.ev):=u.r.row (x:=9) (y:=0) (by unfold eQ;omega) (iq (by omega));have G:∀k,eO (g'.ro 9 0).1=some k->(ob p s' g' 9 0 0).bs k:=λk e=>by
  rw[fR p g' (by unfold eQ;omega) (iq (by omega))];exact e
 refine⟨g'.at 9 0 (none,0),(g'.ro 9 0).1,(g'.ro 9 0).2,rfl,dD o (λk e=>af _ _ _ _ ((λk e=>eL o u.r.E (by decide) k e) k e)),u.trans (Lx u.r),λk e=>⟨?_,?_,u.m k ⟨9,0,0,G k e⟩⟩⟩
 .rintro⟨x,y,z,Y⟩;obtain⟨W,Z⟩:=Ia Y;have G:=G k e;exact Z (u.r.i _ _ _ _ _ _ k W G)
 have:=(dA o k (by rw[dr];exact e)).2.1;simpa[World.setCell] using this
theorem DG{p:dz}{s:Pl}{g:eE}{w:World}{aQ:Option Addr}{n0 c0:Nat}{l:List (Int×Nat)}(ticks:Int)(h:dQ p s g w)(hP:PW p)(hPI:PI p)(hO:Ok p s)(he:s.ev=[])(hn:s.nt+p.qn<=500000000)(aG:p.qn<=50)(aI:p.wk<=50)(aR:∀x,x∈l->x.2<256)(aS:∀s1 g1 w1,Tr p s g w s1 g1 w1->Ok p s1->Calls prog 65 #[P0 p.eb,.slice aQ n0 c0] w1 λe w'=>e=.returned (.tuple #[])/\∃g',Tr p s1 g1 w1 (s1.eN l) g' w'): Calls prog 41 #[P0 p.eb,.int .i64 ticks,.slice aQ n0 c0] w λe w'=>∃v s',e=.returned v/\jh p s ticks l s'/\vW p s g w s' w' v:=by
 obtain⟨aK,b7⟩:=h.E.cells 28 (by omega);have aD:w.cell? ⟨p.eb,28,none⟩=some (.int .i64 s.eY):=aK;have le:=h.E.lt;have aV:=az (BB p.eb s.eY ticks w aD hO.c0 hO.c1);have a2:=B.vU (t:=ticks) hO.c0 hO.c1;have hC:Ok p (s.fF (B.iz s.eY ticks)):=hO.fF a2.1 a2.2;obtain⟨aJ,aL⟩:=nF l aR hC;have aE:=I8 h (B.iz s.eY ticks);have aM:=az (aS _ _ _ aE hC);have b8:=az aE;have aW:=az aJ;have HQ:=az aL;have HP:=az hP;have aX:=az hPI;have a1:Hid (s.nt+p.qn<=500000000/\s.ev=[]/\p.qn<=50/\p.wk<=50):=⟨hn,he,aG,aI⟩;have a4:Hid (∀s',(if((s.fF (B.iz s.eY ticks)).eN l).lv≠[]/\((s.fF (B.iz s.eY ticks)).eN l).sp=false then ∃s1,gO p (((s.fF (B.iz s.eY ticks)).eN l).gr (((s.fF (B.iz s.eY ticks)).eN l).q 3 0)) s1/\s'=s1.im p else s'=(s.fF (B.iz s.eY ticks)).eN l)->jh p s ticks l s'):=λ_ h=>h;clear aK h hP hPI hO he hn aG aI aR aS a2 hC aJ aL aE;generalize b0:(s.fF (B.iz s.eY ticks)).eN l=s1 at *;generalize b1:B.iz s.eY ticks=cc at *;have aH:Hid (s1.nt=s.nt):=by rw[HQ.out.nt];rfl
 have b5:Hid (s1.ev=[]):=by rw[HQ.out.ev];exact a1.out.2.1
 clear b0 b1;go_in;go_wp2_with fail
 refine aV.out.mono ?_;rintro e w1 ⟨rfl,rfl⟩;go_wp2_with fail
 generalize b6:w1.setCell ⟨p.eb,28,none⟩ (.int .i64 cc)=w2 at *;clear b6 aD b7 aV;refine aM.out.mono ?_;rintro e w3 ⟨rfl,g3,J⟩;have o:=b8.out.trans J;have bF:=o.r.E.lt;have aB:w3.cell? ⟨p.eb,29,none⟩=some (.slice (g3.ro 6 0).1 s1.lv.length (g3.ro 6 0).2):=o.r.E.cell 29 (by omega);have u:=uy p.eb s1.lv.length (g3.ro 6 0).2 (g3.ro 6 0).1 w3 aB;have a7:w3.cell? ⟨p.eb,42,none⟩=some (.bool s1.sp):=o.r.E.cell 42 (by omega);obtain⟨a5,aT⟩:=o.r.E.cells 43 (by omega);have aP:w3.cell? ⟨p.eb,43,none⟩=some (.slice (g3.ro 9 0).1 s1.ev.length (g3.ro 9 0).2):=a5;by_cases i:s1.lv≠[]/\s1.sp=false
 .have y:decide (0<s1.lv.length)=true:=by
   have:s1.lv.length≠0:=λe=>i.1 (cf.1 e);exact fh (by omega)
  rw[y]at u;rw[i.2]at a7;have Z:=az u;have b3:=az i;have aZ:=az o;have HW:=az (Gu o.r aW.out);clear u y i o J aB a5 aP aT;go_wp2_with fail
  refine Z.out.mono ?_;rintro e w4 ⟨rfl,rfl⟩;go_wp2_with fail
  refine HW.out.mono ?_;rintro e w5 ⟨rfl,g5,a8⟩;obtain⟨o5,q5⟩:=nj (s1.q 3 0) aW.out rfl;have aO:=az (aZ.out.trans a8);have aN:=az (AW a8.r HP.out aX.out o5 (by rw[q5.nt,aH.out];exact a1.out.1) a1.out.2.2.1 (by rw[q5.ev,b5.out];simp));have aF:Hid (∀H,gO p (s1.gr (s1.q 3 0)) H->Ok p H):=λH h6=>(tz aX.out o5 (by rw[q5.nt,aH.out];exact a1.out.1) h6).1;clear a8 o5 q5 HW Z a7;go_wp2_with fail
  refine aN.out.mono ?_;rintro e w6 ⟨rfl,H,g6,aA,a0⟩;have a3:=aO.out.trans a0;have k2:w6.cell? ⟨p.eb,2,none⟩=some (.int .i64 p.wk):=by
   rw[a0.r.E.cell 2 (by omega)];show some (p.E0 2)=_;rw[HP.out.e2]
  have bC:=a0.r.Gd HP.out;have b2:=az a3;have aU:=az aA;have b4:=az (IE (a3.r.kept (bq (ax w6 none))) HP.out (aF.out H aA) a1.out.2.2.2);clear a0 a3 aA aN aF aO;go_wp2_with fail
  go_cut [] from 30 to 38 (λwx=>Hid (∃g7,Tr p s g w1 (H.im p) g7 wx))
  case first=>
   go_region_with (go_at_call 69;refine b4.out.mono ?_;rintro e w7 ⟨rfl,g7,G⟩;have a9:Hid (∃g7,Tr p s g w1 (H.im p) g7 w7):=⟨g7,(b2.out.kept (bq (ax w6 none))).trans G⟩;clear G)
   all_goals
    go_wp2_with fail
    go_meet
    case rel=>exact a9
  case rest=>
   have a9:=hcut;obtain⟨g7,G⟩:=a9.out;have Y:=az (wF G);obtain⟨aY,aT⟩:=G.r.E.cells 43 (by omega);have b9:wc.cell? ⟨p.eb,43,none⟩=some (.slice (g7.ro 9 0).1 (H.im p).ev.length (g7.ro 9 0).2):=aY;have W:Hid (jh p s ticks l (H.im p)):=a4.out _ (by rw[aj b3.out];exact⟨H,aU.out,rfl⟩);clear aY G a9 hcut a4 aU;go_wp2_with fail
   go_ret;exact⟨_,H.im p,rfl,W.out,Y.out⟩
 have Y:=az (wF o);have W:=az (a4.out _ (by rw[aa i]));by_cases aC:s1.lv.length=0
 .have y:decide (0<s1.lv.length)=false:=by rw[aC];rfl
  rw[y]at u;have Z:=az u;clear u y i o J aB a5 a4 a7;go_wp2_with fail
  refine Z.out.mono ?_;rintro e w4 ⟨rfl,rfl⟩;go_wp2_with fail
  go_ret;exact⟨_,s1,rfl,W.out,Y.out⟩
 have y:decide (0<s1.lv.length)=true:=fh (by omega);have a6:s1.sp=true:=by
  cases a6:s1.sp with
  | true=>rfl
  | false=>exact ch ⟨λe=>aC (by rw[e];rfl),a6⟩ i
 rw[y]at u;rw[a6]at a7;have Z:=az u;clear u y i o J aB a5 a4 a6;go_wp2_with fail
 refine Z.out.mono ?_;rintro e w4 ⟨rfl,rfl⟩;go_wp2_with fail
 go_ret;exact⟨_,s1,rfl,W.out,Y.out⟩
end F
namespace F
theorem gX(a:Addr)(m:Nat):(a.add m).block=a.block:=by unfold Addr.add;split<;>rfl
def Kk(w:World)(ad:Option Addr)(n:Nat)(l:List (Int×Nat))(F:Nat->Prop):Prop:=
 n=l.length/\n<=1000000000/\l=[]/\(ad=none->l=[])/\∀a,ad=some a->l≠[]->a.block<w.heap.size/\¬F a.block/\∀j x,l[j]? = some x->w.cell? (a.add (j*2))=some (.int .i64 x.1)/\w.cell? (a.add (j*2+1))=some (.int .u8 (x.2:Int))
theorem GU{p:dz}{s:Pl}{g:eE}{w:World}{ad:Option Addr}{n:Nat}(c:Nat){l:List (Int×Nat)}(h:dQ p s g w)(hO:Ok p s)(hI:Kk w ad n l (ey p s g)): Calls prog 65 #[P0 p.eb,.slice ad n c] w λe w'=>e=.returned (.tuple #[])/\∃g',Tr p s g w (s.eN l) g' w':=by
 obtain⟨hn,G,J,Y,hC⟩:=hI;refine(Cx p.eb ad n c l (λys w1=>∃s1 g1,Tr p s g w s1 g1 w1/\Ok p s1/\s1.eN ys=s.eN l/\ys=[]) w ⟨s,g,Tr.refl h,hO,rfl,J⟩ hn G Y ?_ ?_ ?_ ?_ ?_).mono ?_
 .rintro ys w1 ⟨s1,g1,k1,k2,i,_⟩ a rfl j x H
  obtain⟨Z,b2,W⟩:=hC a rfl (λe=>by rw[e]at H;simp at H);have e:=k1.o.same Z b2;obtain⟨c0,c1⟩:=W j x H;exact⟨(aw (a:=a.add (j*2)) (by rw[gX];exact e)).trans c0,(aw (a:=a.add (j*2+1)) (by rw[gX];exact e)).trans c1⟩
 .rintro ys w1 w2 ⟨s1,g1,k1,k2,i⟩ hg;exact⟨s1,g1,k1.kept hg,k2,i⟩
 .rintro ys w1 ⟨s1,g1,k1,_⟩;exact k1.r.E.lt
 .rintro x r w1 ⟨_,_,_,_,_,y⟩ _
  cases y
 .rintro x r w1 ⟨_,_,_,_,_,y⟩ _
  cases y
 rintro e w' ⟨rfl,s1,g1,k1,k2,i,_⟩;refine⟨rfl,g1,?_⟩;rw[<-i];exact k1
structure tN(p:dz) (s:Pl) (g:eE) (mb:Nat) (w:World):Prop where
 r:dQ p s g w
 ok:Ok p s
 ev:s.ev=[]
 bx:∃x,w.heap[mb]? = some (.cells #[.int .i32 0,x,P0 p.eb] 105 (0,0))
 nm:¬ey p s g mb
structure J3(p:dz):Prop where
 pw:PW p
 pi:PI p
 q:p.qn<=50
 k:p.wk<=50
section
variable {p : dz} {s : Pl} {g : eE} {mb : Nat} {w : World} (h : tN p s g mb w)
include h
theorem tN.cells:w.cell? ⟨mb,0,none⟩=some (.int .i32 0)/\w.frozen? ⟨mb,0,none⟩=false/\w.cell? ⟨mb,2,none⟩=some (P0 p.eb)/\mb<w.heap.size:=by
 obtain⟨x,e⟩:=h.bx;exact⟨by simp[World.cell?,e],by simp[World.frozen?,e],by simp[World.cell?,e],bz e⟩
theorem tN.lock:dQ p s g (w.setCell ⟨mb,0,none⟩ (.int .i32 1)):=h.r.only (S:=λk=>k=mb) (bm (S:=λk=>k=mb) (dk _ _) (ag rfl) _) (λ_ i e=>h.nm (e▸i))
theorem tN.qD{w':World}(i:w'.heap[mb]? = (w.setCell ⟨mb,0,none⟩ (.int .i32 1)).heap[mb]?):w'.cell? ⟨mb,0,none⟩=some (.int .i32 1)/\w'.frozen? ⟨mb,0,none⟩=false/\∃x,(w'.setCell ⟨mb,0,none⟩ (.int .i32 0)).heap[mb]? = some (.cells #[.int .i32 0,x,P0 p.eb] 105 (0,0)):=by
 obtain⟨x,o⟩:=h.bx;have y:(w.setCell ⟨mb,0,none⟩ (.int .i32 1)).heap[mb]? = some (.cells #[.int .i32 1,x,P0 p.eb] 105 (0,0)):=by
  simp[World.setCell,cn,o]
 rw[y]at i;refine⟨by simp[World.cell?,i],by simp[World.frozen?,i],x,?_⟩;simp[World.setCell,cn,i]
end
theorem dQ.off{p:dz}{s:Pl}{g:eE}{w:World}{mb:Nat}(h:dQ p s g w)(hn:¬ey p s g mb)(o:Nat)(v:Value):dQ p s g (w.setCell ⟨mb,o,none⟩ v):=h.only (S:=λk=>k=mb) (bm (S:=λk=>k=mb) (dk _ _) (ag rfl) _) (λ_ i e=>hn (e▸i))
structure zh(p:dz) (s:Pl) (g:eE) (mb:Nat) (w:World) (s':Pl) (g':eE) (w':World):Prop where
 m:tN p s' g' mb w'
 o:dy (λk=>ey p s g k\/k=mb) w w'
 n:∀k,ey p s' g' k->ey p s g k\/w.heap.size<=k
theorem tN.BW{p:dz}{s:Pl}{g:eE}{mb:Nat}{w:World}{ad:Option Addr}{n:Nat}(c:Nat){l:List (Int×Nat)}(ticks:Int)(h:tN p s g mb w)(hP:J3 p)(hn:s.nt+p.qn<=500000000)(hI:Kk w ad n l (λk=>ey p s g k\/k=mb)): Calls prog 24 #[P0 mb,.int .i64 ticks,.slice ad n c] w λe w'=>∃s' g' G Y,e=.returned (.slice G s'.ev.length Y)/\jh p s ticks l s'/\w'.ownsRow 0 48 3 (.slice G s'.ev.length Y) s'.ev.length (kE s'.ev)/\zh p s g mb w s'.lD g' w'/\∀k,eO G=some k->¬ey p s'.lD g' k/\k≠mb/\k<w'.heap.size/\(ey p s g k\/w.heap.size<=k):=by
 obtain⟨c0,f0,c2,lm⟩:=h.cells;obtain⟨i1,i2,i3,i4,i5⟩:=hI;have Z:dy (λk=>ey p s g k\/k=mb) w (w.setCell ⟨mb,0,none⟩ (.int .i32 1)):=bm (S:=λk=>ey p s g k\/k=mb) (dk _ _) (ag (ab rfl)) _;have i:(w.setCell ⟨mb,0,none⟩ (.int .i32 1)).heap.size=w.heap.size:=by simp[World.setCell]
 refine(yl mb p.eb n c ad ticks w c0 f0 c2 (λv w'=>∃s',jh p s ticks l s'/\vW p s g (w.setCell ⟨mb,0,none⟩ (.int .i32 1)) s' w' v) ?_).mono ?_
 .refine(DG (l:=l) ticks h.lock hP.pw hP.pi h.ok h.ev hn hP.q hP.k (qj i3) (λs1 g1 w1 H a5=>?_)).mono ?_
  .refine GU c H.r a5 ⟨i1,i2,i3,i4,λa ha a4=>?_⟩;obtain⟨b1,b2,b3⟩:=i5 a ha a4;have e1:=(H.o.same (by rw[i];exact b1) (λhm=>b2 (ag hm))).trans (Z.same b1 b2);refine⟨dm (by rw[i];exact b1) H.o.size,λhm=>?_,λj x hj=>?_⟩
   .rcases H.m _ hm with y|y
    .exact b2 (ag y)
    rw[i]at y;omega
   obtain⟨d0,d1⟩:=b3 j x hj;exact⟨(aw (a:=a.add (j*2)) (by rw[gX];exact e1)).trans d0,(aw (a:=a.add (j*2+1)) (by rw[gX];exact e1)).trans d1⟩
  rintro e w' ⟨v,s',rfl,ht,g',G,Y,rfl,k2,J,k4⟩;have hb:=J.o.same (by rw[i];exact lm) h.nm;obtain⟨l1,l2,_⟩:=h.qD hb;exact⟨G,_,Y,rfl,l1,l2,s',ht,g',G,Y,rfl,k2,J,k4⟩
 rintro e w' ⟨v,w1,rfl,⟨s',ht,g',G,Y,rfl,k2,J,k4⟩,rfl⟩;have hb:=J.o.same (by rw[i];exact lm) h.nm;obtain⟨_,_,l3⟩:=h.qD hb;have a0:¬ey p s'.lD g' mb:=λhm=>(J.m mb hm).elim h.nm (λy=>by rw[i]at y;omega);have a1:∀k,eO G=some k->k≠mb:=λk u e=>by
  have W:=dA k2 k (by rw[dr];exact u);have a2:=hb;obtain⟨x0,a3⟩:=h.bx;have y:(w.setCell ⟨mb,0,none⟩ (.int .i32 1)).heap[mb]? = some (.cells #[.int .i32 1,x0,P0 p.eb] 105 (0,0)):=by simp[World.setCell,cn,a3]
  rw[y]at a2;rw[e]at W;obtain⟨_,_,q0⟩:=W;obtain⟨a6,q1⟩:=q0;rw[a2]at q1;injection q1 with q1;injection q1 with _ q2 _;exact ch q2 (by decide)
 refine⟨s',g',G,Y,rfl,ht,dD k2 (λk u=>af _ _ _ _ (a1 k (by rw[<-dr];exact u))),⟨⟨J.r.off a0 0 _,?_,rfl,l3,a0⟩,?_,λk u=>(J.m k u).imp id (λy=>by rw[i]at y;exact y)⟩,λk u=>⟨(k4 k u).1,a1 k u,by have:=(k4 k u).2.1;simpa[World.setCell] using this,by have:=(k4 k u).2.2;rw[i]at this;exact this⟩⟩
 .exact(nW hP.pi hP.pw.n1 h.ok h.ev hn (qj i3) ht).ok
 exact bm (Z.trans J.o (λk u _=>ag u)) (ag (ab rfl)) _
end F
namespace F
theorem Ng.step{p:dz}{s s':Pl}{t:Nat}(hP:PI p)(hN:Ng s)(h:Rn p s t)(hn:s.nt+1<=500000000)(i:iC p t s s'):Ng s':=by
 obtain⟨i1,i2,i3⟩:=rY 21 h (by have:=h.fw.n2;omega);have G:=Ng.ends p t 21 hN;unfold iC at i;by_cases e:((s.ends p t 21).T t).run=true
 .rw[aj e]at i;obtain⟨W,j2,Y⟩:=i2 e;obtain⟨_,_,_,j5,_⟩:=id j2;obtain⟨why,s3,H,rfl⟩:=i;obtain⟨Z,o⟩:=mM W Y;have u:=W.ff;have y:=hP _ u.1 (bw (s.ends p t 21) t).nx (by omega);have J:=(G.fD t).inst Z (by show(s.ends p t 21).nt+1<=_;omega) (by rw[o];exact y) H;obtain⟨w1,w2,_⟩:=nP y.1 H;split
  .exact J
  exact J.leave t 3 why (iP.n (by omega) (by omega))
 rw[aa e]at i;subst i;exact G
theorem Ng.runs{p:dz}{t:Nat}(hP:PI p):∀(n:Nat) {s s':Pl},Ng s->Ok p s->fe s t->s.nt+n<=500000000->gg p t n s s'->Ng s'
 | 0,s,s',hN,_,_,_,hr=>by
  have e:s'=s:=hr;subst e;exact hN
 | n+1,s,s',hN,h,ht,hn,hr=>by
  unfold gg at hr;by_cases e:(s.T t).run=true
  .rw[aj e]at hr;obtain⟨s1,o,u⟩:=hr;have hR:Rn p s t:=⟨h,(h.rn t ht e).2,e⟩;obtain⟨k1,k2⟩:=uT hP hR (by omega) o;have i:=k2.nt;exact Ng.runs hP n (hN.step hP hR (by omega) o) k1 ⟨ht.1,dH ht.2 i.1⟩ (by omega) u
  rw[aa e]at hr;subst hr;exact hN
theorem Ng.first{p:dz}(hP:PI p){s s':Pl}(y:Ng s)(h:Ok p s)(hn:s.nt+p.qn<=500000000)(u:gO p s s'):Ng s':=by
 unfold gO at u
 cases hq:s.q 2 0 with
 | nil=>
  rw[hq]at u;have e:s'=s:=u;subst e;exact y
 | cons t r=>
  rw[hq]at u;obtain⟨s1,H,J⟩:=u;have i:=h.ql 2 0 (ag ⟨rfl,rfl⟩) t (by rw[hq];simp);have ht:=h.lt t i;have o:(s.start t).nt=s.nt:=fO s t;have G:Ng s1:=Ng.runs hP p.qn (y.start t) (h.start i) ⟨ht.1,by rw[o];exact ht.2⟩ (by rw[o];exact hn) H;rw[J];split
  .exact G.join 2 0 t
  exact G
theorem Ng.Gx{p:dz}(hP:PI p){s s':Pl}{ticks:Int}{l:List (Int×Nat)}(J:Ng s)(h:Ok p s)(h0:0<=B.iz s.eY ticks)(H:B.iz s.eY ticks<=9223372036854775807)(i:∀x,x∈l->x.2<256)(hn:s.nt+p.qn<=500000000)(ht:jh p s ticks l s'):Ng s':=by
 have e:Ng ((s.fF (B.iz s.eY ticks)).eN l):=Ng.eN l i J.same;obtain⟨u,G⟩:=nF l i (h.fF h0 H);unfold jh at ht;split at ht
 .obtain⟨s1,Z,rfl⟩:=ht;obtain⟨y,o⟩:=nj _ u rfl;exact (Ng.first hP (Ng.gr _ e) y (by rw[o.nt,G.nt];exact hn) Z).same
 subst ht;exact e
