import Derived.Test.YtnjiinbhbjpfkaaGreatDoorAm
import Derived.Test.YtnjiinbhbjpfkaaGreatDoorAh
import Derived.Test.YtnjiinbhbjpfkaaGreatDoorAg
set_option maxRecDepth 100000
set_option maxHeartbeats 0
set_option linter.all false
namespace Go.Proofs.YtnjiinbhbjpfkaaGreatDoor
open Go.RowKit Go.Proofs.Tryz
namespace F
variable {g:eM}{p:dH}{s:Pl}{w:aa}
theorem Lv{x y z k:Nat}(h:(ob p s.nC (g.at 9 0 (none,0)) x y z).bs k):(ob p s g x y z).bs k/\¬(x=9/\y=0/\z=0):=by
 by_cases i:ig s x y z=true
 .rw[iq (show ig s.nC x y z=true from i)]at h;rw[iq i];by_cases u:fi x
  .rw[im u]at h⊢;have o:fk ((g.at 9 0 (none,0)).ro x y).1=some k:=h;by_cases e:x=9/\y=0
   .rw[e.1,e.2,tR]at o
    cases o
   rw[ma g _ e]at o;exact⟨o,λG=>e ⟨G.1,G.2.1⟩⟩
  have J:=sI i;have H:x=0\/x=1\/x=11\/x=13\/x=14\/x=15\/x=16\/x=17\/x=18:=by unfold fi at u;omega
  (repeat' rcases H with rfl|H)<;>exact⟨h,af⟩
 rw[wg (show ¬ig s.nC x y z=true from i)]at h;exact h.elim
def OS(h:dZ p s g w):Tr p s g w s.nC (g.at 9 0 (none,0)) (w.setCell (az p.eb 43)<|.slice none 0 0):=by
 refine h.vE (s':=s.nC) (x:=9) (y:=0) (r:=(none,0)) (j0:=43) af (ji af) eo rfl rfl rfl rfl rfl rfl rfl (λa b c d e=>Bt _ a b c d e) (h.E.eE 43 _) (eg _ _ _ _) (bq (S:=λk=>k=p.eb\/fk (g.ro 9 0).1=some k) (dx _ _) (ag<|ag rfl) _) (λk i=>?_)
 cases i
theorem MB(h:dZ p s g w)(c:Int):Tr p s g w (s.gw c) g (w.setCell (az p.eb 28)<|ah c):=by
 refine h.zY (s':=s.gw c) rfl rfl rfl rfl rfl (λa b=>⟨rfl,rfl⟩) ?_ (bq (S:=λk=>k=p.eb) (dx _ _) (ag rfl) _);refine(h.E.eE 28 _).congr (λj o=>?_);by_cases e:j=28
 .subst e;rw[gU];rfl
 rw[eP _ _ _ _ e];unfold iQ;by_cases i:j<28
 .grind
 rw[av i,av i,av e,av e];rfl
def yq(p:dH)(s:Pl)(g:eM)(w:aa)(s':Pl)(w':aa)(v:Value):Prop:=
 ∃g' ad c,v=.slice ad s'.ev.length c/\w'.ownsRow 0 48 3 (.slice ad s'.ev.length c) s'.ev.length (nB s'.ev)/\Tr p s g w s'.nC g' w'/\∀k,fk ad=some k->¬eJ p s'.nC g' k/\k<w'.heap.size/\(eJ p s g k\/w.heap.size<=k)
theorem yG{s':Pl}{g':eM}{w':aa}(u:Tr p s g w s' g' w'):yq p s g w s' (w'.setCell (az p.eb 43)<|.slice none 0 0) (sl s' g' 9 0):=by
 have o:w'.ownsRow 0 48 3 (.slice (g'.ro 9 0).1 s'.ev.length (g'.ro 9 0).2) s'.ev.length (nB s'.ev):=u.r.row (x:=9) (y:=0) (by grind[fi])<|ji af;have G:∀k,fk (g'.ro 9 0).1=some k->(ob p s' g' 9 0 0).bs k:=λk e=>by
  grind[gW,fi,ji]
 refine⟨g'.at 9 0 (none,0),(g'.ro 9 0).1,(g'.ro 9 0).2,rfl,dS o<|λk e=>ab _ _ _ _<|(λk e=>eU o u.r.E eo k e) k e,u.trans<|OS u.r,λk e=>⟨?_,?_,u.m k ⟨9,0,0,G k e⟩⟩⟩
 .rintro⟨x,y,z,Y⟩;let⟨W,Z⟩:=Lv Y;have G:=G k e;exact Z<|u.r.i _ _ _ _ _ _ k W G
 have:=(dR o k<|by grind[dJ]).2.1;simp_all
theorem Gb{aQ:Option Addr}{n0 c0:Nat}{l:List (Int×Nat)}(ticks:Int)(h:dZ p s g w)(hP:PW p)(hPI:PI p)(hO:Ok p s)(he:s.ev=[])(hn:s.nt+p.qn<=500000000)(aG:p.qn<=50)(aI:p.wk<=50)(aR:∀x,x∈l->x.2<256)(aS:∀s1 g1 w1,Tr p s g w s1 g1 w1->Ok p s1->eN 65 #[P0 p.eb,.slice aQ n0 c0] w1 λw'=>∃g',Tr p s1 g1 w1 (s1.fg l) g' w'):Calls prog 41 #[P0 p.eb,ah ticks,.slice aQ n0 c0] w λe w'=>∃v s',e=.returned v/\jX p s ticks l s'/\yq p s g w s' w' v:=by
 obtain⟨aK,b7⟩:=h.E.cells 28 af;have aD:w.cell? (az p.eb 28)=some (ah s.clk):=aK;have le:=h.E.lt;have aV:=bj<|xk p.eb s.clk ticks w aD hO.c0 hO.c1;have a2:=B.yp (t:=ticks) hO.c0 hO.c1;have hC:Ok p (s.gw<|B.iL s.clk ticks):=hO.gw a2.1 a2.2;obtain⟨aJ,aL⟩:=oj l aR hC;have aE:=MB h<|B.iL s.clk ticks;have aM:=bj<|aS _ _ _ aE hC;change Hid _ at aE aJ aL hP hPI;have a1:Hid (s.nt+p.qn<=500000000/\s.ev=[]/\p.qn<=50/\p.wk<=50):=⟨hn,he,aG,aI⟩;have a4:Hid (∀s',(if((s.gw<|B.iL s.clk ticks).fg l).lv≠[]/\((s.gw<|B.iL s.clk ticks).fg l).sp=false then ∃s1,iH p (((s.gw<|B.iL s.clk ticks).fg l).iC<|((s.gw<|B.iL s.clk ticks).fg l).q 3 0) s1/\s'=s1.jh p else s'=(s.gw<|B.iL s.clk ticks).fg l)->jX p s ticks l s'):=λ_ h=>h;clear aK h hO he hn aG aI aR aS a2 hC;generalize b0:(s.gw<|B.iL s.clk ticks).fg l=s1 at*;generalize b1:B.iL s.clk ticks=cc at*;have aH:Hid (s1.nt=s.nt):=kh aL.out.nt
 have b5:Hid (s1.ev=[]):=eZ aL.out.ev a1.out.2.1
 clear b0 b1;go_in;go_wp2_with fail
 refine dq aV ?_;rintro w1 rfl;go_wp2_with fail
 generalize b6:w1.setCell (az p.eb 28) (ah cc)=w2 at*;clear b6 aD b7 aV;refine dq aM ?_;rintro w3 ⟨g3,J⟩;have o:=aE.out.trans J;have bF:=o.r.E.lt;have aB:w3.cell? (az p.eb 29)=some (.slice (g3.ro 6 0).1 s1.lv.length (g3.ro 6 0).2):=o.r.E.cell 29 af;have u:=wQ p.eb s1.lv.length (g3.ro 6 0).2 (g3.ro 6 0).1 w3 aB;have a7:w3.cell? (az p.eb 42)=some (.bool s1.sp):=o.r.E.cell 42 af;obtain⟨a5,aT⟩:=o.r.E.cells 43 af;have aP:w3.cell? (az p.eb 43)=some (.slice (g3.ro 9 0).1 s1.ev.length (g3.ro 9 0).2):=a5;by_cases i:s1.lv≠[]/\s1.sp=false
 .have y:decide (0<s1.lv.length)=true:=by
   have:s1.lv.length≠0:=λe=>i.1<|dh.1 e;exact fy af
  rw[y]at u;rw[i.2]at a7;change Hid _ at u i o;have HW:=bj<|JT o.r aJ.out;clear y J aB a5 aP aT;go_wp2_with fail
  refine dq u ?_;rintro w4 rfl;go_wp2_with fail
  refine dq HW ?_;rintro w5 ⟨g5,a8⟩;obtain⟨o5,q5⟩:=py (s1.q 3 0) aJ.out rfl;have aO:=bj<|o.out.trans a8;have aN:=bj<|CL a8.r hP.out hPI.out o5 (by rw[q5.nt,aH.out];exact a1.out.1) a1.out.2.2.1 (by rw[q5.ev,b5.out];simp);have aF:Hid (∀H,iH p (s1.iC<|s1.q 3 0) H->Ok p H):=λH h6=>(vB hPI.out o5 (by rw[q5.nt,aH.out];exact a1.out.1) h6).1;clear a8 o5 q5 HW u a7;go_wp2_with fail
  refine dq aN ?_;rintro w6 ⟨H,g6,aA,a0⟩;have a3:=aO.out.trans a0;have k2:w6.cell? (az p.eb 2)=some (ah p.wk):=by
   rw[a0.r.E.cell 2 af];show some (p.E0 2)=_;rw[hP.out.e2]
  have bC:=a0.r.Gf hP.out;change Hid _ at a3 aA;have b4:=bj<|L8 (a3.r.kept<|bo<|aw w6 none) hP.out (aF.out H aA) a1.out.2.2.2;clear a0 aN aF aO;go_wp2
  go_cut[] from 30 to 38 (λwx=>Hid<|∃g7,Tr p s g w1 (H.jh p) g7 wx)
  case first=>
   go_region_with (go_at_call 69;refine dq b4 ?_;rintro w7 ⟨g7,G⟩;have a9:Hid (∃g7,Tr p s g w1 (H.jh p) g7 w7):=⟨g7,(a3.out.kept<|bo<|aw w6 none).trans G⟩;clear G)
   all_goals
    go_wp2
    go_meet
    case rel=>exact a9
  case rest=>
   have a9:=hcut;obtain⟨g7,G⟩:=a9.out;have Y:=bj<|yG G;obtain⟨aY,aT⟩:=G.r.E.cells 43 af;have b9:wc.cell? (az p.eb 43)=some (.slice (g7.ro 9 0).1 (H.jh p).ev.length (g7.ro 9 0).2):=aY;have W:Hid (jX p s ticks l<|H.jh p):=a4.out _ (by rw[bf i.out];exact⟨H,aA.out,rfl⟩);clear aY G a9 hcut a4 aA;go_wp2
   go_ret;exact⟨_,H.jh p,rfl,W.out,Y.out⟩
 have Y:=bj<|yG o;have W:=bj<|a4.out _ (by rw[av i]);by_cases aC:s1.lv.length=0
 .have y:decide (0<s1.lv.length)=false:=kh aC
  rw[y]at u;have u:=bj u;clear u y i o J aB a5 a4 a7;go_wp2_with fail
  refine dq u ?_;rintro w4 rfl;go_wp2
  go_ret;exact⟨_,s1,rfl,W.out,Y.out⟩
 have y:decide (0<s1.lv.length)=true:=fy af;have a6:s1.sp=true:=by
  cases a6:s1.sp with
  |true=>rfl
  |false=>exact dr ⟨λe=>aC<|kh e,a6⟩ i
 rw[y]at u;rw[a6]at a7;have u:=bj u;clear u y i o J aB a5 a4 a6;go_wp2_with fail
 refine dq u ?_;rintro w4 rfl;go_wp2
 go_ret;exact⟨_,s1,rfl,W.out,Y.out⟩
end F
namespace F
theorem jN(a:Addr)(m:Nat):(a.add m).block=a.block:=by grind[Addr.add]
def NX(w:aa)(ad:Option Addr)(n:Nat)(l:List (Int×Nat))(F:Nat->Prop):Prop:=
 n=l.length/\n<=1000000000/\(∀x,x∈l->x.2<256)/\(ad=none->l=[])/\∀a,ad=some a->l≠[]->a.block<w.heap.size/\¬F a.block/\∀j x,l[j]?=some x->w.cell? (a.add<|j*2)=some (.int .i64 x.1)/\w.cell? (a.add<|j*2+1)=some (.int .u8 (x.2:Int))
theorem Ki{p:dH}{s:Pl}{g:eM}{w:aa}{ad:Option Addr}{n:Nat}(c:Nat){l:List (Int×Nat)}(h:dZ p s g w)(hO:Ok p s)(hI:NX w ad n l (eJ p s g)):eN 65 #[P0 p.eb,.slice ad n c] w λw'=>∃g',Tr p s g w (s.fg l) g' w':=by
 obtain⟨hn,J,hx,ha,hC⟩:=hI;refine(EP p.eb ad n c l (λys w1=>∃s1 g1,Tr p s g w s1 g1 w1/\Ok p s1/\s1.fg ys=s.fg l/\∀x,x∈ys->x.2<256) w ⟨s,g,Tr.refl h,hO,rfl,hx⟩ hn J ha ?_ ?_ ?_ ?_ ?_).mono ?_
 .rintro ys w1 ⟨s1,g1,k1,k2,i,_⟩ a rfl j x G
  let⟨b1,Z,b3⟩:=hC a rfl (λe=>by grind);have e:=k1.o.same b1 Z;grind[World.cell?_of_block,jN]
 .rintro ys w1 w2 ⟨s1,g1,k1,k2,i⟩ hg;exact⟨s1,g1,k1.kept hg,k2,i⟩
 .rintro ys w1 ⟨s1,g1,k1,_⟩;exact k1.r.E.lt
 .rintro x r w1 ⟨s1,g1,k1,k2,i,u⟩ hz;have Y:=u x eG;refine dq (Kj (k:=x.1.toNat) (b:=x.2) af Y k1.r k2) ?_;rintro w' ⟨g',k5⟩;refine⟨rfl,s1.pG x.1.toNat x.2,g',k1.trans k5,(yZ af Y k2).1,?_,λy H=>u y<|by simp[H]⟩;rw[<-i];show _=(s1.recv x).fg r;unfold Pl.recv;grind
 .rintro x r w1 ⟨s1,g1,k1,k2,i,u⟩ hz;refine⟨s1,g1,k1,k2,?_,λy H=>u y<|by simp[H]⟩;rw[<-i];show _=(s1.recv x).fg r;unfold Pl.recv;rw[av hz]
 rintro e w' ⟨rfl,s1,g1,k1,k2,i,_⟩;refine⟨rfl,g1,?_⟩;rw[<-i];exact k1
structure rf(p:dH) (s:Pl) (g:eM) (mb:Nat) (w:aa):Prop where
 r:dZ p s g w
 ok:Ok p s
 ev:s.ev=[]
 bx:∃x,w.heap[mb]?=some (.cells #[.int .i32 0,x,P0 p.eb] 105 (0,0))
 nm:¬eJ p s g mb
structure ND(p:dH):Prop where
 pw:PW p
 pi:PI p
 q:p.qn<=50
 k:p.wk<=50
section
variable {p:dH}{s:Pl}{g:eM}{mb:Nat}{w:aa} (h:rf p s g mb w)
include h
theorem rf.cells:w.cell? (az mb 0)=some (.int .i32 0)/\w.frozen? (az mb 0)=false/\w.cell? (az mb 2)=some (P0 p.eb)/\mb<w.heap.size:=by
 grind[World.cell?,World.frozen?,ch,F.rf.bx]
theorem rf.lock:dZ p s g (w.setCell (az mb 0)<|.int .i32 1):=h.r.only (S:=λk=>k=mb) (bq (S:=λk=>k=mb) (dx _ _) (ag rfl) _)<|λ_ i e=>h.nm<|e▸i
theorem rf.tK{w':aa}(i:w'.heap[mb]?=(w.setCell (az mb 0)<|.int .i32 1).heap[mb]?):w'.cell? (az mb 0)=some (.int .i32 1)/\w'.frozen? (az mb 0)=false/\∃x,(w'.setCell (az mb 0)<|.int .i32 0).heap[mb]?=some (.cells #[.int .i32 0,x,P0 p.eb] 105 (0,0)):=by
 let⟨x,o⟩:=h.bx;have u:(iA w mb 0<|.int .i32 1).heap[mb]?=ny #[.int .i32 1,x,P0 p.eb] 105:=by
  simp[World.setCell,dp,o]
 grind[World.cell?,World.frozen?,World.setCell]
end
variable {g:eM}{mb:Nat}{p:dH}{s:Pl}{w:aa}
theorem dZ.off(h:dZ p s g w)(hn:¬eJ p s g mb)(o:Nat)(v:Value):dZ p s g (w.setCell (az mb o) v):=h.only (S:=λk=>k=mb) (bq (S:=λk=>k=mb) (dx _ _) (ag rfl) _)<|λ_ i e=>hn<|e▸i
structure Ak(p:dH) (s:Pl) (g:eM) (mb:Nat) (w:aa) (s':Pl) (g':eM) (w':aa):Prop where
 m:rf p s' g' mb w'
 o:dN (λk=>eJ p s g k\/k=mb) w w'
 n:∀k,eJ p s' g' k->eJ p s g k\/w.heap.size<=k
theorem rf.Ed{ad:Option Addr}{n:Nat}(c:Nat){l:List (Int×Nat)}(ticks:Int)(h:rf p s g mb w)(hP:ND p)(hn:s.nt+p.qn<=500000000)(hI:NX w ad n l (λk=>eJ p s g k\/k=mb)):Calls prog 24 #[P0 mb,ah ticks,.slice ad n c] w λe w'=>∃s' g' G Y,e=.returned (.slice G s'.ev.length Y)/\jX p s ticks l s'/\w'.ownsRow 0 48 3 (.slice G s'.ev.length Y) s'.ev.length (nB s'.ev)/\Ak p s g mb w s'.nC g' w'/\∀k,fk G=some k->¬eJ p s'.nC g' k/\k≠mb/\k<w'.heap.size/\(eJ p s g k\/w.heap.size<=k):=by
 let⟨c0,f0,c2,lm⟩:=h.cells;obtain⟨i1,i2,i3,i4,i5⟩:=hI;have a2:dN (λk=>eJ p s g k\/k=mb) w (w.setCell (az mb 0)<|.int .i32 1):=bq (S:=λk=>eJ p s g k\/k=mb) (dx _ _) (ag<|ak rfl) _;have i:(w.setCell (az mb 0)<|.int .i32 1).heap.size=w.heap.size:=by simp[World.setCell]
 refine(As mb p.eb n c ad ticks w c0 f0 c2 (λv w'=>∃s',jX p s ticks l s'/\yq p s g (iA w mb 0<|.int .i32 1) s' w' v) ?_).mono ?_
 .refine(Gb (l:=l) ticks h.lock hP.pw hP.pi h.ok h.ev hn hP.q hP.k i3<|λs1 g1 w1 H a3=>?_).mono ?_
  .refine Ki c H.r a3 ⟨i1,i2,i3,i4,λa ha a4=>?_⟩;let⟨b1,b2,b3⟩:=i5 a ha a4;have e1:=(H.o.same af<|λhm=>b2<|ag hm).trans<|a2.same b1 b2;grind[Nat.lt_of_lt_of_le,World.cell?_of_block,jN,dN.size,F.Tr.o,F.Tr.m]
  rintro e w' ⟨v,s',rfl,ht,g',G,Y,rfl,k2,J,k4⟩;have hb:=J.o.same af h.nm;let⟨l1,l2,_⟩:=h.tK hb;exact⟨G,_,Y,rfl,l1,l2,s',ht,g',G,Y,rfl,k2,J,k4⟩
 rintro e w' ⟨v,w1,rfl,⟨s',ht,g',G,Y,rfl,k2,J,k4⟩,rfl⟩;have hb:=J.o.same (eZ i lm) h.nm;let⟨_,_,l3⟩:=h.tK hb;have a0:¬eJ p s'.nC g' mb:=λhm=>(J.m mb hm).elim h.nm (λy=>by rw[i]at y;omega);have a1:∀k,fk G=some k->k≠mb:=λk u e=>by
  have W:=dR k2 k<|eZ dJ u;have Z:=hb;let⟨x0,a5⟩:=h.bx;have y:(iA w mb 0<|.int .i32 1).heap[mb]?=ny #[.int .i32 1,x0,P0 p.eb] 105:=by simp[World.setCell,dp,a5]
  rw[y]at Z;rw[e]at W;obtain⟨_,_,q0⟩:=W;obtain⟨a6,q1⟩:=q0;rw[Z]at q1;injection q1 with q1;injection q1 with _ q2 _;exact dr q2 eo
 refine⟨s',g',G,Y,rfl,ht,dS k2<|λk u=>ab _ _ _ _<|a1 k (by rw[<-dJ];exact u),⟨⟨J.r.off a0 0 _,?_,rfl,l3,a0⟩,?_,λk u=>(J.m k u).imp id (λy=>by rw[i]at y;exact y)⟩,λk u=>⟨(k4 k u).1,a1 k u,by have:=(k4 k u).2.1;simpa[World.setCell] using this,by have:=(k4 k u).2.2;rw[i]at this;exact this⟩⟩
 .exact(qe hP.pi hP.pw.n1 h.ok h.ev hn i3 ht).ok
 exact bq (a2.trans J.o<|λk u _=>ag u) (ag<|ak rfl) _
end F
namespace F
variable {g:eM}{p:dH}{s:Pl}{w:aa}
theorem Kl(h:dZ p s g w)(hO:Ok p s):dC 43 #[P0 p.eb] w (dD w.heap.size (s.q 2 0).length (s.q 2 0).length) λw'=>w'.ownsRow w.heap.size 3 1 (dD w.heap.size (s.q 2 0).length (s.q 2 0).length) (s.q 2 0).length ((s.q 2 0).map<|λt:Nat=>Value.int .i64 t)/\w.grownBy w' none:=by
 have hl:fQ s 2 0:=ag ⟨rfl,rfl⟩;have a2:=hO.lw.len hl;have i:=λu y=>(hO.lw.b 2 0 hl u y).1;obtain⟨Y,W⟩:∃Y:Nat->Int,∀u,ft s u->Y (g.tb u)=(u:Int):=by
  classical
  refine⟨λb=>if H:∃u,ft s u/\g.tb u=b then(H.choose:Int) else 0,λu y=>?_⟩;have H:∃u',ft s u'/\g.tb u'=g.tb u:=⟨u,y,rfl⟩;show(if H:∃u',ft s u'/\g.tb u'=g.tb u then(H.choose:Int) else 0)=(u:Int);rw[dif_pos H,h.mT H.choose_spec.1 y H.choose_spec.2]
 have hL:=h.ln hl af;have a0:dW w p.eb 32=some (.slice (g.ro 2 0).1 (s.q 2 0).length (g.ro 2 0).2):=by
  have:=hL.hE.cell _ hL.ho;rw[hL.e]at this;exact this
 obtain⟨G,J⟩:∃G,s.q 2 0≠[]->(g.ro 2 0).1=some (az G 0)/\G<w.heap.size/\∀j x,((s.q 2 0).map g.tb)[j]?=some x->dW w G j=some (P0 x):=by
  by_cases e:s.q 2 0=[]
  .simp_all
  have hr:=hL.row;let⟨G,lc,he⟩:=ef hr ey;rw[he]at hr;injection he with a1 _ _;exact⟨G,λ_=>⟨a1,(dR hr G rfl).2.1,λj x o=>(ik hr).2.2.2.2.2 j (P0 x) ey⟩⟩
 have Z:∀{j:Nat} {x:Nat},((s.q 2 0).map g.tb)[j]?=some x->s.q 2 0≠[]:=λo e=>by grind
 refine(Ko p.eb G (g.ro 2 0).2 (s.q 2 0).length (g.ro 2 0).1 Y ((s.q 2 0).map g.tb) w a0 h.E.lt ey af (λj x o=>⟨(J<|Z o).1,(J<|Z o).2.2 j x o⟩) (λe=>(J<|λe'=>e ey).2.1)<|λx o=>?_).mono ?_
 .obtain⟨u,y,rfl⟩:=eX.1 o;have hT:=h.tk<|i u y;refine⟨?_,hT.lt⟩;rw[hT.cell 0 af,W u<|i u y];rfl
 grind[List.map_map,List.map_congr_left]
theorem rf.queue{mb:Nat}(h:rf p s g mb w):dC 26 #[P0 mb] w (dD w.heap.size (s.q 2 0).length (s.q 2 0).length) λw'=>w'.ownsRow w.heap.size 3 1 (dD w.heap.size (s.q 2 0).length (s.q 2 0).length) (s.q 2 0).length ((s.q 2 0).map<|λt:Nat=>Value.int .i64 t)/\Ak p s g mb w s g w':=by
 let⟨c0,H,Y,G⟩:=h.cells;have i:(w.setCell (az mb 0)<|.int .i32 1).heap.size=w.heap.size:=by simp[World.setCell]
 refine(AD mb p.eb w c0 H Y (λv w'=>v=dD (fp w) (s.q 2 0).length (s.q 2 0).length/\w'.ownsRow (fp w) 3 1 (dD (fp w) (s.q 2 0).length (s.q 2 0).length) (s.q 2 0).length ((s.q 2 0).map<|λt:Nat=>Value.int .i64 t)/\(w.setCell (az mb 0)<|.int .i32 1).grownBy w' none) ?_).mono ?_
 .have:=Kl h.lock h.ok;rw[i]at this;refine dq this ?_;rintro w' ⟨k1,k2⟩;have y:=k2.block mb af ey;grind[F.rf.tK]
 rintro e w' ⟨v,w1,rfl,⟨rfl,k1,k2⟩,rfl⟩;have y:=k2.block mb af ey;let⟨_,_,Z⟩:=h.tK y;refine⟨rfl,dS k1<|λk o=>ab _ _ _ _ ?_,⟨(h.lock.kept k2).off h.nm 0 _,h.ok,h.ev,Z,h.nm⟩,bq ((bq (S:=λk=>eJ p s g k\/k=mb) (dx _ _) (ag<|ak rfl) _).jj k2) (ag<|ak rfl) _,λk o=>ag o⟩;have e:w.heap.size=k:=by injection o
 grind
end F
section
theorem B.zr(on:Nat->Bool)(k:Nat):B.jo on (k+1)=B.jo on k+if on (k+1)=true then 1 else 0:=by
 have i:=B.kY on k;have e:=B.kY on<|k+1;rw[B.jW]at e;grind
theorem wN{w w1:aa}{mb:Nat}{x y:Value}(u:w.heap[mb]?=some (.cells #[.int .i32 0,x,y] 105 (0,0)))(i:(w.setCell (az mb 0)<|.int .i32 1).grownBy w1 none):w.grownBy (w1.setCell (az mb 0)<|.int .i32 0) none:=by
 have hz:(w.setCell (az mb 0)<|.int .i32 1).heap.size=w.heap.size:=by simp[World.setCell]
 have H:=i.size;refine⟨i.os,i.tape,i.output,by simp_all,λk J _=>?_⟩;have o:=i.block k af af;grind[World.setCell,Below.heap_setCell]
theorem AW{w w0:aa}(h:w.grownBy w0 none)(a:Addr)(v:Value):(w.setCell a v).grownBy (w0.setCell a v) none:=by
 refine⟨h.os,h.tape,h.output,by simpa[World.setCell] using h.size,λk o _=>?_⟩;simp[World.setCell,dp,h.block k (by simp_all) af]
theorem Fe(mb eb:Nat)(x:Int)(z:Value)(w:aa)(i:w.heap[mb]?=some (.cells #[.int .i32 0,z,P0 eb] 105 (0,0)))(Y:Hid (dC 46 #[P0 eb] (w.setCell (az mb 0)<|.int .i32 1) (ah x) λw'=>(w.setCell (az mb 0)<|.int .i32 1).grownBy w' none)):dC 30 #[P0 mb] w (ah x) λw'=>w.grownBy w' none:=by
 have u:dW w mb 0=some (.int .i32 0):=fj i
 have y:w.frozen? (az mb 0)=false:=pk i
 have h2:dW w mb 2=some (P0 eb):=fj i
 have H:=ch i;have W:=bj i;go_enter_defers func30,ntmps30
 go_wp2_with fail
 refine dq (ou mb w u y) ?_;rintro w1 rfl;go_wp2_with fail
 refine dq Y λw2 o=>?_;have J:=bj o;have c0:dW w2 mb 0=some (.int .i32 1):=(ay o (a:=az mb 0)<|by simp_all).1.trans (by simp[go_sem,u]);have c1:w2.frozen? (az mb 0)=false:=(ay o (a:=az mb 0)<|by simp_all).2.trans (by simp_all);go_wp2_with fail
 refine leaves_cons (f:=40) (args:=#[P0 mb]) eG (by simp[go_sem]) ?_;refine(iJ (az mb 0) .returning _ c0 c1).mono ?_;rintro e Z w'' ⟨rfl,rfl,rfl⟩;exact⟨_,results_tmp rfl _ _ _,rfl,wN W J⟩
theorem Gl(mb eb:Nat)(x y z:Int)(v:Value)(w:aa)(Z:w.heap[mb]?=some (.cells #[.int .i32 0,v,P0 eb] 105 (0,0)))(hE:Hid (∀w1,w.grownBy w1 none->dC 45 #[P0 eb] (w1.setCell ⟨mb,0,none⟩<|.int .i32 1) (.agg #[ah x,ah y,ah z]) λw'=>(w1.setCell ⟨mb,0,none⟩<|.int .i32 1).grownBy w' none)):dC 29 #[P0 mb] w (.agg #[ah x,ah y,ah z]) λw'=>w.grownBy w' none:=by
 obtain⟨w0,o⟩:∃w0,w0=w.alloc (.cells #[ah 0,ah 0,ah 0] 66):=⟨_,rfl⟩;have H:=o▸aj w (.cells #[ah 0,ah 0,ah 0] 66) none;have HN:Hid (w0.heap[fp w]?=some (.cells #[ah 0,ah 0,ah 0] 66 (0,0))):=by show _=_;rw[o];exact bl w _
 have a0:=ch Z;have i:=da H Z ey;have h0:w0.cell? ⟨mb,0,none⟩=some (.int .i32 0):=fj i
 have f0:w0.frozen? ⟨mb,0,none⟩=false:=pk i
 have h2:w0.cell? ⟨mb,2,none⟩=some (P0 eb):=fj i
 have lm:=ch i
 have W:w.heap.size≠mb:=af
 have HB:=bj Z;have J:=bj H;clear Z i H;go_enter_defers func29,ntmps29
 go_wp2_with fail
 rw[<-o];clear o;refine(ou mb w0 h0 f0).mono ?_;rintro e w1 ⟨rfl,rfl⟩;go_wp2_with fail
 refine(hE w0 J).mono ?_;rintro e w2 ⟨rfl,Y⟩;have HG:=bj Y;have u:=da Y ((ab _ _ _ _ W).trans HN) ey;have c0:w2.cell? ⟨mb,0,none⟩=some (.int .i32 1):=(ay Y (a:=⟨mb,0,none⟩)<|by simp_all).1.trans (by simp[go_sem,h0]);have c1:w2.frozen? ⟨mb,0,none⟩=false:=(ay Y (a:=⟨mb,0,none⟩)<|by simp_all).2.trans (by simp_all);have r0:w2.cell? ⟨w.heap.size,0,none⟩=some (ah 0):=fj u
 have r1:w2.cell? ⟨w.heap.size,1,none⟩=some (ah 0):=fj u
 have r2:w2.cell? ⟨w.heap.size,2,none⟩=some (ah 0):=fj u
 have t0:w2.frozen? ⟨w.heap.size,0,none⟩=false:=pk u
 have t1:w2.frozen? ⟨w.heap.size,1,none⟩=false:=pk u
 have t2:w2.frozen? ⟨w.heap.size,2,none⟩=false:=pk u
 clear Y u;go_wp2_with fail
 refine leaves_cons (f:=40) (args:=#[P0 mb]) eG (by simp[go_sem]) ?_;refine(iJ ⟨mb,0,none⟩ .returning _ (by simp[go_sem,c0])<|by simp_all).mono ?_;rintro e u' w'' ⟨rfl,rfl,rfl⟩;refine⟨_,by simp[results,results29,go_sem,r0,r1,r2],rfl,?_⟩;have KG:=ar (AW J ⟨mb,0,none⟩<|.int .i32 1) HG;refine wN HB ?_;grind[bo,ax,bu,World.setCell]
theorem yi(sb:Nat)(x y z:Int)(w:aa)(i:w.cell? (az sb 3)=some (ah x))(u:w.cell? (az sb 4)=some (ah y))(o:w.cell? (az sb 5)=some (ah z))(H:sb<w.heap.size):dC 72 #[P0 sb] w (.agg #[ah x,ah y,ah z]) λw'=>w.grownBy w' none:=by
 delta dC;go_in;go_wp2
 refine dg (v:=.agg #[ah x,ah y,ah z]) (by simp[results,results72,go_sem]) rfl ⟨rfl,?_⟩;grind[aw,bo,ax,bu]
theorem Gc(eb sb:Nat)(x y z:Int)(w:aa)(a0:w.cell? (az eb 27)=some (P0 sb))(le:eb<w.heap.size)(W:w.cell? (az sb 3)=some (ah x))(Y:w.cell? (az sb 4)=some (ah y))(Z:w.cell? (az sb 5)=some (ah z))(H:sb<w.heap.size):dC 45 #[P0 eb] w (.agg #[ah x,ah y,ah z]) λw'=>w.grownBy w' none:=by
 have HI:Hid (∀w1,iY w w1->dC 72 #[P0 sb] w1 (.agg #[ah x,ah y,ah z]) λw'=>iY w1 w'):=λw1 o=>yi sb x y z w1 ((ay o (a:=az sb 3) H).1.trans W) ((ay o (a:=az sb 4) H).1.trans Y) ((ay o (a:=az sb 5) H).1.trans Z)<|dm H o.size;delta dC;go_in;go_wp2_with fail
 have u:=aj w (.cells #[ah 0,ah 0,ah 0] 66) none;refine dq (HI _ u) λw1 o=>?_;have HG:=bj o;have J:=bj u;have i:=da o (bl w _) ey;have r0:dW w1 (fp w) 0=some (ah 0):=fj i
 have r1:dW w1 (fp w) 1=some (ah 0):=fj i
 have r2:dW w1 (fp w) 2=some (ah 0):=fj i
 have t0:w1.frozen? (az (fp w) 0)=false:=pk i
 have t1:w1.frozen? (az (fp w) 1)=false:=pk i
 have t2:w1.frozen? (az (fp w) 2)=false:=pk i
 go_wp2
 refine dg (v:=.agg #[ah x,ah y,ah z]) (by simp[results,results45,go_sem,r0,r1,r2]) rfl ⟨rfl,?_⟩;grind[ar,bo,ax,bu]
namespace F
theorem xQ(sb pb eb n:Nat)(kd:B.Kd)(vb:Vs)(M:Nat->List B.V)(w:aa)(hS:kG w sb pb eb n kd vb M)(hn:n<=200):dC 73 #[P0 sb] w (ah (B.jo kd.on n:Nat)) λw'=>w.grownBy w' none:=by
 have q0:=hS.c0;have KS:=bj hS.p;delta dC;go_in;go_wp2
 go_loopw[11,3] (λi c wr=>∃k:Nat,k<=n/\i=ah k/\c=ah (B.jo kd.on k:Nat)/\Hid (iY w wr)) (λi _ _=>n-(intOf i).toNat)
 case atStart=>exact⟨0,af,rfl,rfl,aw _ _⟩
 case round=>
  obtain⟨k,hk,rfl,rfl,hG⟩:=hrel;by_cases a3:k<n
  .have hS:=KS.kept hG;have c0:=hS.p.cell (k*3) af;have c1:=hS.p.cell (k*3+1) af;have Z:=hS.p.cell (k*3+2) af;rw[zl]at c0;rw[zk]at c1;rw[tH]at Z;have hf:=vn (kd.on<|k+1) (vb.f.k<|k+1) (Dy (kd.on<|k+1) (vb.f.k<|k+1):Nat)<|YtnjiinbhbjpfkaaGreatDoor.qg (kd.on<|k+1) (vb.f.b<|k+1) (M<|k+1).length;obtain⟨y0,u⟩:∃y,vT (kd.on<|k+1) (vb.f.k<|k+1)=dz y:=⟨_,rfl⟩;obtain⟨a2,n2,m2,H⟩:∃a n m,YtnjiinbhbjpfkaaGreatDoor.qg (kd.on<|k+1) (vb.f.b<|k+1) (M<|k+1).length=.slice a n m:=by grind[YtnjiinbhbjpfkaaGreatDoor.qg]
   rw[u]at c0;rw[H]at Z;rw[u,H]at hf;generalize ((Dy (kd.on<|k+1) (vb.f.k<|k+1):Nat):Int)=y1 at*;have HF:=bj hf;have a1:(k:Int)<n:=af
   have a0:B.jo kd.on k<=k:=by unfold B.jo;omega
   obtain⟨o,ho⟩:∃o,o=B.jo kd.on k:=⟨_,rfl⟩;change Hid _ at ho;rw[<-ho]at a0⊢;go_wp2_with fail
   refine dq (HF _) λw1 J=>?_;have W:=bj<|ar (ax hG _) J
   cases hkd:kd.on (k+1)
   .have Y:=bj hkd;simp only[Bool.not_false];go_wp2
    go_roundw
    case rel=>exact⟨k+1,af,iI,by rw[B.zr,Y.out,ho.out];simp,W⟩
    case measure=>simp[intOf];omega
   have Y:=bj hkd;simp only[Bool.not_true];go_wp2
   go_roundw
   case rel=>exact⟨k+1,af,iI,by rw[B.zr,Y.out,ho.out];simp,W⟩
   case measure=>simp[intOf];omega
  obtain rfl:k=n:=by omega
  go_wp2
  go_ret;exact⟨rfl,hG⟩
theorem F7(eb sb pb n:Nat)(kd:B.Kd)(vb:Vs)(M:Nat->List B.V)(w:aa)(o:w.cell? (az eb 27)=some (P0 sb))(hS:kG w sb pb eb n kd vb M)(hn:n<=200):dC 46 #[P0 eb] w (ah (B.jo kd.on n:Nat)) λw'=>w.grownBy w' none:=by
 have y:=bj<|xQ sb pb eb n kd vb M w hS hn;delta dC;go_in;go_wp2_with fail
 refine dq y λw1 i=>?_;have u:=bj i;go_wp2
 go_ret;simp_all
section
variable {p:dH}{s:Pl}{g:eM}{mb:Nat}{w:aa} (h:rf p s g mb w)(hP:PW p)
include h hP
theorem rf.NS:dC 30 #[P0 mb] w (ah (B.jo s.kd.on p.n:Nat)) λw'=>w.grownBy w' none:=by
 let⟨x,i⟩:=h.bx;exact Fe mb p.eb _ x w i<|F7 p.eb p.sb p.pb p.n s.kd (kI s g) s.M _ (h.lock.Gf hP) h.lock.S hP.n2
theorem rf.jW:dC 29 #[P0 mb] w (.agg #[ah<|wrap64 (s.kd.un:Int),ah<|wrap64 (s.kd.fo:Int),ah<|wrap64 (s.kd.cc:Int)]) λw'=>w.grownBy w' none:=by
 let⟨x,u⟩:=h.bx;refine Gl mb p.eb _ _ _ x w u<|λw1 y=>?_;have o:dZ p s g (iA w1 mb 0<|.int .i32 1):=(h.r.kept y).only (S:=λk=>k=mb) (bq (S:=λk=>k=mb) (dx _ _) (ag rfl) _) (λ_ H e=>h.nm<|e▸H);have i:=o.S.b;exact Gc p.eb p.sb _ _ _ _ (o.Gf hP) o.E.lt (fj i) (fj i) (fj i)<|ch i
end
end F
end
namespace F
variable {g:eM}{p:dH}{s:Pl}{w:aa}
theorem Aa(mb eb:Nat)(w:aa)(y:w.cell? (az mb 0)=some (.int .i32 0))(o:w.frozen? (az mb 0)=false)(H:w.cell? (az mb 2)=some (P0 eb))(R:Int->aa->Prop)(i:Hid (Calls prog 44 #[P0 eb] (w.setCell (az mb 0)<|.int .i32 1) λe w'=>∃x:Int,e=.returned (ah x)/\w'.cell? (az mb 0)=some (.int .i32 1)/\w'.frozen? (az mb 0)=false/\R x w')):Calls prog 28 #[P0 mb] w λe w'=>∃x w1,e=.returned (ah x)/\R x w1/\w'=w1.setCell (az mb 0) (.int .i32 0):=by
 go_enter_defers func28,ntmps28
 go_wp2_with fail
 refine dq (ou mb w y o) ?_;rintro w1 rfl;go_wp2_with fail
 refine i.mono ?_;rintro e w2 ⟨x,rfl,c0,c1,hR⟩;have u:=bj hR;go_wp2_with fail
 refine leaves_cons (f:=40) (args:=#[P0 mb]) eG (by simp[go_sem]) ?_;refine(iJ (az mb 0) .returning _ c0 c1).mono ?_;rintro e G w'' ⟨rfl,rfl,rfl⟩;exact⟨_,results_tmp rfl _ _ _,x,w2,rfl,u,rfl⟩
theorem Lw(eb:Nat)(x:Int)(w:aa)(h:w.cell? (az eb 28)=some (ah x)):dC 44 #[P0 eb] w (ah x) λw'=>w'=w:=by
 delta dC;go_in;go_wp2
 go_ret;simp_all
theorem rf.clock{mb:Nat}(h:rf p s g mb w):dC 28 #[P0 mb] w (ah s.clk) λw'=>Ak p s g mb w s g w':=by
 let⟨c0,u,J,W⟩:=h.cells;refine(Aa mb p.eb w c0 u J (λx w'=>x=s.clk/\w'=iA w mb 0 (.int .i32 1)) ?_).mono ?_
 .refine dq (Lw p.eb s.clk _<|h.lock.E.cell 28 af) ?_;grind[F.rf.tK]
 rintro e w' ⟨x,w1,rfl,⟨rfl,rfl⟩,rfl⟩;let⟨_,_,H⟩:=h.tK rfl;exact⟨rfl,⟨h.lock.off h.nm 0 _,h.ok,h.ev,H,h.nm⟩,bq (bq (S:=λk=>eJ p s g k\/k=mb) (dx _ _) (ag<|ak rfl) _) (ag<|ak rfl) _,λk o=>ag o⟩
theorem JZ{x:Int}(h:NB s.sp s.lv.length (s.q 2 0).length (s.q 3 0).length (λk=>(s.q 4 k).length) x):x=s.Bh:=by
 obtain⟨Z,h2,h3,h4,h5⟩:=h;have W:((s.q 3 0).length≠0\/∃k,k<4/\(s.q 4 k).length≠0)↔CM s:=by
  have Y:∀l:List Nat,l.length≠0↔l≠[]:=λl=>not_congr dh;unfold CM;rw[Y];exact or_congr Iff.rfl<|exists_congr<|λk=>and_congr Iff.rfl<|Y _
 unfold Pl.Bh;grind
theorem Av(h:dZ p s g w):dC 42 #[P0 p.eb] w (ah s.Bh) λw'=>w.grownBy w' none:=by
 refine(Hd p.eb s.sp (λk=>(s.q 4 k).length) s.lv.length (g.ro 6 0).2 (eS s 2 0) (g.ro 2 0).2 (eS s 3 0) (g.ro 3 0).2 (g.ro 6 0).1 (g.ro 2 0).1 (g.ro 3 0).1 w (h.E.cell 42 af) (h.E.cell 29 af) (h.E.cell 32 af) (h.E.cell 33 af) ⟨h.E.lt,λj y=>?_⟩).mono ?_
 .have i:=pS 3 j af
  rcases i with rfl|rfl|rfl|rfl
  .exact⟨⟨_,_,_,h.E.cell 34 af⟩,_,_,h.E.cell 35 af⟩
  .exact⟨⟨_,_,_,h.E.cell 36 af⟩,_,_,h.E.cell 37 af⟩
  .exact⟨⟨_,_,_,h.E.cell 38 af⟩,_,_,h.E.cell 39 af⟩
  exact⟨⟨_,_,_,h.E.cell 40 af⟩,_,_,h.E.cell 41 af⟩
 rintro e w' ⟨⟨x,rfl,o⟩,u⟩;rw[JZ o];grind
theorem rf.Av{p:dH}{s:Pl}{g:eM}{mb:Nat}{w:aa}(h:rf p s g mb w):dC 25 #[P0 mb] w (ah s.Bh) λw'=>Ak p s g mb w s g w':=by
 let⟨c0,H,Z,y⟩:=h.cells;have i:(w.setCell (az mb 0)<|.int .i32 1).heap.size=w.heap.size:=by simp[World.setCell]
 refine(yK mb p.eb w c0 H Z (λx w'=>x=s.Bh/\(w.setCell (az mb 0)<|.int .i32 1).grownBy w' none) ?_).mono ?_
 .refine dq (F.Av h.lock) λw' k2=>?_;have u:=k2.block mb af ey;grind[F.rf.tK]
 rintro e w' ⟨x,w1,rfl,⟨k1,k2⟩,rfl⟩;have u:=k2.block mb af ey;let⟨_,_,Y⟩:=h.tK u;rw[k1];exact⟨rfl,⟨(h.lock.kept k2).off h.nm 0 _,h.ok,h.ev,Y,h.nm⟩,bq ((bq (S:=λk=>eJ p s g k\/k=mb) (dx _ _) (ag<|ak rfl) _).jj k2) (ag<|ak rfl) _,λk G=>ag G⟩
