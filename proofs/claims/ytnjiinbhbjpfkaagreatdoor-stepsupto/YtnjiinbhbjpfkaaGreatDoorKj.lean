import Derived.Test.YtnjiinbhbjpfkaaGreatDoorKh
import Derived.Test.YtnjiinbhbjpfkaaGreatDoorKK
import Derived.Test.YtnjiinbhbjpfkaaGreatDoorKi
set_option maxRecDepth 100000
set_option maxHeartbeats 0
set_option linter.all false
namespace Go.Proofs.YtnjiinbhbjpfkaaGreatDoor
open Go.RowKit Go.Proofs.Tryz
namespace F
theorem Ia{p:dz}{s:Pl}{g:eE}{x y z k:Nat}(h:(ob p s.lD (g.at 9 0 (none,0)) x y z).bs k):(ob p s g x y z).bs k/\¬(x=9/\y=0/\z=0):=by
 by_cases i:gu s x y z=true
 .rw[gH (show gu s.lD x y z=true from i)]at h;rw[gH i];by_cases u:eQ x
  .rw[gk u]at h ⊢;have o:eO ((g.at 9 0 (none,0)).ro x y).1=some k:=h;by_cases e:x=9/\y=0
   .rw[e.1,e.2,qM]at o
    cases o
   rw[kR g _ e]at o;exact⟨o,λG=>e ⟨G.1,G.2.1⟩⟩
  have J:=uM i;have H:x=0\/x=1\/x=11\/x=13\/x=14\/x=15\/x=16\/x=17\/x=18:=by unfold eQ at u;omega
  rcases H with rfl|rfl|rfl|rfl|rfl|rfl|rfl|rfl|rfl<;>exact⟨h,by omega⟩
 rw[vq (show ¬gu s.lD x y z=true from i)]at h;exact h.elim
theorem Lx{p:dz}{s:Pl}{g:eE}{w:World}(h:dQ p s g w):Tr p s g w s.lD (g.at 9 0 (none,0)) (w.setCell ⟨p.eb,43,none⟩ (.slice none 0 0)):=by
 refine h.yX (s':=s.lD) (x:=9) (y:=0) (r:=(none,0)) (j0:=43) (by omega) (iq (by omega)) (by decide) rfl rfl rfl rfl rfl rfl rfl (λa b c d e=>zC _ a b c d e) (h.E.ep 43 _) (dJ _ _ _ _) (bm (S:=λk=>k=p.eb\/eO (g.ro 9 0).1=some k) (dk _ _) (ag (ag rfl)) _) (λk i=>?_)
 cases i
theorem I8{p:dz}{s:Pl}{g:eE}{w:World}(h:dQ p s g w)(c:Int):Tr p s g w (s.fF c) g (w.setCell ⟨p.eb,28,none⟩ (.int .i64 c)):=by
 refine h.xR (s':=s.fF c) rfl rfl rfl rfl rfl (λa b=>⟨rfl,rfl⟩) ?_ (bm (S:=λk=>k=p.eb) (dk _ _) (ag rfl) _);refine(h.E.ep 28 _).congr (λj o=>?_);by_cases e:j=28
 .subst e;rw[gf];rfl
 rw[eG _ _ _ _ e];unfold iJ;by_cases i:j<28
 .rw[aj i,aj i]
 rw[aa i,aa i,aa e,aa e];rfl
def vW(p:dz)(s:Pl)(g:eE)(w:World)(s':Pl)(w':World)(v:Value):Prop:=
 ∃g' ad c,v=.slice ad s'.ev.length c/\w'.ownsRow 0 48 3 (.slice ad s'.ev.length c) s'.ev.length (kE s'.ev)/\Tr p s g w s'.lD g' w'/\∀k,eO ad=some k->¬ey p s'.lD g' k/\k<w'.heap.size/\(ey p s g k\/w.heap.size<=k)
theorem wF{p:dz}{s s':Pl}{g g':eE}{w w':World}(u:Tr p s g w s' g' w'):vW p s g w s' (w'.setCell ⟨p.eb,43,none⟩ (.slice none 0 0)) (sl s' g' 9 0):=by
 have o:w'.ownsRow 0 48 3 (.slice (g'.ro 9 0).1 s'.ev.length (g'.ro 9 0).2) s'.ev.length (kE s'.ev):=u.r.row (x:=9) (y:=0) (by unfold eQ;omega) (iq (by omega));have G:∀k,eO (g'.ro 9 0).1=some k->(ob p s' g' 9 0 0).bs k:=λk e=>by
  rw[fR p g' (by unfold eQ;omega) (iq (by omega))];exact e
 refine⟨g'.at 9 0 (none,0),(g'.ro 9 0).1,(g'.ro 9 0).2,rfl,dD o (λk e=>af _ _ _ _ ((λk e=>eL o u.r.E (by decide) k e) k e)),u.trans (Lx u.r),λk e=>⟨?_,?_,u.m k ⟨9,0,0,G k e⟩⟩⟩
 .rintro⟨x,y,z,Y⟩;obtain⟨W,Z⟩:=Ia Y;have G:=G k e;exact Z (u.r.i _ _ _ _ _ _ k W G)
 have:=(dA o k (by rw[dr];exact e)).2.1;simpa[World.setCell] using this
theorem DG{p:dz}{s:Pl}{g:eE}{w:World}{aQ:Option Addr}{n0 c0:Nat}{l:List (Int×Nat)}(ticks:Int)(h:dQ p s g w)(hP:PW p)(hPI:PI p)(hO:Ok p s)(he:s.ev=[])(hn:s.nt+p.qn<=500000000)(aG:p.qn<=50)(aI:p.wk<=50)(aR:∀x,x∈l->x.2<256)(aS:∀s1 g1 w1,Tr p s g w s1 g1 w1->Ok p s1->Calls prog 65 #[P0 p.eb,.slice aQ n0 c0] w1 λe w'=>e=.returned (.tuple #[])/\∃g',Tr p s1 g1 w1 (s1.eN l) g' w'): Calls prog 41 #[P0 p.eb,.int .i64 ticks,.slice aQ n0 c0] w λe w'=>∃v s',e=.returned v/\jh p s ticks l s'/\vW p s g w s' w' v:=by
 obtain⟨aK,b7⟩:=h.E.cells 28 (by omega);have aD:w.cell? ⟨p.eb,28,none⟩=some (.int .i64 s.eY):=aK;have le:=h.E.lt;have aV:=az (BB p.eb s.eY ticks w aD hO.c0 hO.c1);have a2:=B.vU (t:=ticks) hO.c0 hO.c1;have hC:Ok p (s.fF (B.iz s.eY ticks)):=hO.fF a2.1 a2.2;obtain⟨aJ,aL⟩:=nF l aR hC;have aE:=I8 h (B.iz s.eY ticks);have aM:=az (aS _ _ _ aE hC);have b8:=az aE;have aW:=az aJ;have HQ:=az aL;have HP:=az hP;have aX:=az hPI;have a1:Hid (s.nt+p.qn<=500000000/\s.ev=[]/\p.qn<=50/\p.wk<=50):=⟨hn,he,aG,aI⟩;have a4:Hid (∀s',(if((s.fF (B.iz s.eY ticks)).eN l).lv≠[]/\((s.fF (B.iz s.eY ticks)).eN l).sp=false then ∃s1,gO p (((s.fF (B.iz s.eY ticks)).eN l).gr (((s.fF (B.iz s.eY ticks)).eN l).q 3 0)) s1/\s'=s1.im p else s'=(s.fF (B.iz s.eY ticks)).eN l)->jh p s ticks l s'):=λ_ h=>h;clear aK h hP hPI hO he hn aG aI aR aS a2 hC aJ aL aE;generalize b0:(s.fF (B.iz s.eY ticks)).eN l=s1 at *;generalize b1:B.iz s.eY ticks=cc at *;have aH:Hid (s1.nt=s.nt):=by rw[HQ.out.nt];rfl
 have b5:Hid (s1.ev=[]):=by rw[HQ.out.ev];exact a1.out.2.1
 clear b0 b1;go_in;go_wp2_with fail
 refine aV.out.mono ?_;rintro e w1 ⟨rfl,rfl⟩;go_wp2_with fail
 generalize b6:w1.setCell ⟨p.eb,28,none⟩ (.int .i64 cc)=w2 at *;clear b6 aD b7 aV;refine aM.out.mono ?_;rintro e w3 ⟨rfl,g3,J⟩;have o:=b8.out.trans J;have bF:=o.r.E.lt;have aB:w3.cell? ⟨p.eb,29,none⟩=some (.slice (g3.ro 6 0).1 s1.lv.length (g3.ro 6 0).2):=o.r.E.cell 29 (by omega);have u:=uy p.eb s1.lv.length (g3.ro 6 0).2 (g3.ro 6 0).1 w3 aB;have a7:w3.cell? ⟨p.eb,42,none⟩=some (.bool s1.sp):=o.r.E.cell 42 (by omega);obtain⟨a5,aT⟩:=o.r.E.cells 43 (by omega);have aP:w3.cell? ⟨p.eb,43,none⟩=some (.slice (g3.ro 9 0).1 s1.ev.length (g3.ro 9 0).2):=a5;by_cases i:s1.lv≠[]/\s1.sp=false
 .have y:decide (0<s1.lv.length)=true:=by
   have:s1.lv.length≠0:=λe=>i.1 (cf.1 e);exact fh (by omega)
  rw[y]at u;rw[i.2]at a7;have Z:=az u;have b3:=az i;have aZ:=az o;have HW:=az (Gu o.r aW.out);clear u y i o J aB a5 aP aT;go_wp2_with fail
  refine Z.out.mono ?_;rintro e w4 ⟨rfl,rfl⟩;go_wp2_with fail
  refine HW.out.mono ?_;rintro e w5 ⟨rfl,g5,a8⟩;obtain⟨o5,q5⟩:=nj (s1.q 3 0) aW.out rfl;have aO:=az (aZ.out.trans a8);have aN:=az (AW a8.r HP.out aX.out o5 (by rw[q5.nt,aH.out];exact a1.out.1) a1.out.2.2.1 (by rw[q5.ev,b5.out];simp));have aF:Hid (∀H,gO p (s1.gr (s1.q 3 0)) H->Ok p H):=λH h6=>(tz aX.out o5 (by rw[q5.nt,aH.out];exact a1.out.1) h6).1;clear a8 o5 q5 HW Z a7;go_wp2_with fail
  refine aN.out.mono ?_;rintro e w6 ⟨rfl,H,g6,aA,a0⟩;have a3:=aO.out.trans a0;have k2:w6.cell? ⟨p.eb,2,none⟩=some (.int .i64 p.wk):=by
   rw[a0.r.E.cell 2 (by omega)];show some (p.E0 2)=_;rw[HP.out.e2]
  have bC:=a0.r.Gd HP.out;have b2:=az a3;have aU:=az aA;have b4:=az (IE (a3.r.kept (bq (ax w6 none))) HP.out (aF.out H aA) a1.out.2.2.2);clear a0 a3 aA aN aF aO;go_wp2_with fail
  go_cut [] from 30 to 38 (λwx=>Hid (∃g7,Tr p s g w1 (H.im p) g7 wx))
  case first=>
   go_region_with (go_at_call 69;refine b4.out.mono ?_;rintro e w7 ⟨rfl,g7,G⟩;have a9:Hid (∃g7,Tr p s g w1 (H.im p) g7 w7):=⟨g7,(b2.out.kept (bq (ax w6 none))).trans G⟩;clear G)
   all_goals
    go_wp2_with fail
    go_meet
    case rel=>exact a9
  case rest=>
   have a9:=hcut;obtain⟨g7,G⟩:=a9.out;have Y:=az (wF G);obtain⟨aY,aT⟩:=G.r.E.cells 43 (by omega);have b9:wc.cell? ⟨p.eb,43,none⟩=some (.slice (g7.ro 9 0).1 (H.im p).ev.length (g7.ro 9 0).2):=aY;have W:Hid (jh p s ticks l (H.im p)):=a4.out _ (by rw[aj b3.out];exact⟨H,aU.out,rfl⟩);clear aY G a9 hcut a4 aU;go_wp2_with fail
   go_ret;exact⟨_,H.im p,rfl,W.out,Y.out⟩
 have Y:=az (wF o);have W:=az (a4.out _ (by rw[aa i]));by_cases aC:s1.lv.length=0
 .have y:decide (0<s1.lv.length)=false:=by rw[aC];rfl
  rw[y]at u;have Z:=az u;clear u y i o J aB a5 a4 a7;go_wp2_with fail
  refine Z.out.mono ?_;rintro e w4 ⟨rfl,rfl⟩;go_wp2_with fail
  go_ret;exact⟨_,s1,rfl,W.out,Y.out⟩
 have y:decide (0<s1.lv.length)=true:=fh (by omega);have a6:s1.sp=true:=by
  cases a6:s1.sp with
  | true=>rfl
  | false=>exact ch ⟨λe=>aC (by rw[e];rfl),a6⟩ i
 rw[y]at u;rw[a6]at a7;have Z:=az u;clear u y i o J aB a5 a4 a6;go_wp2_with fail
 refine Z.out.mono ?_;rintro e w4 ⟨rfl,rfl⟩;go_wp2_with fail
 go_ret;exact⟨_,s1,rfl,W.out,Y.out⟩
end F
namespace F
theorem gX(a:Addr)(m:Nat):(a.add m).block=a.block:=by unfold Addr.add;split<;>rfl
def Kk(w:World)(ad:Option Addr)(n:Nat)(l:List (Int×Nat))(F:Nat->Prop):Prop:=
 n=l.length/\n<=1000000000/\l=[]/\(ad=none->l=[])/\∀a,ad=some a->l≠[]->a.block<w.heap.size/\¬F a.block/\∀j x,l[j]? = some x->w.cell? (a.add (j*2))=some (.int .i64 x.1)/\w.cell? (a.add (j*2+1))=some (.int .u8 (x.2:Int))
theorem GU{p:dz}{s:Pl}{g:eE}{w:World}{ad:Option Addr}{n:Nat}(c:Nat){l:List (Int×Nat)}(h:dQ p s g w)(hO:Ok p s)(hI:Kk w ad n l (ey p s g)): Calls prog 65 #[P0 p.eb,.slice ad n c] w λe w'=>e=.returned (.tuple #[])/\∃g',Tr p s g w (s.eN l) g' w':=by
 obtain⟨hn,G,J,Y,hC⟩:=hI;refine(Cx p.eb ad n c l (λys w1=>∃s1 g1,Tr p s g w s1 g1 w1/\Ok p s1/\s1.eN ys=s.eN l/\ys=[]) w ⟨s,g,Tr.refl h,hO,rfl,J⟩ hn G Y ?_ ?_ ?_ ?_ ?_).mono ?_
 .rintro ys w1 ⟨s1,g1,k1,k2,i,_⟩ a rfl j x H
  obtain⟨Z,b2,W⟩:=hC a rfl (λe=>by rw[e]at H;simp at H);have e:=k1.o.same Z b2;obtain⟨c0,c1⟩:=W j x H;exact⟨(aw (a:=a.add (j*2)) (by rw[gX];exact e)).trans c0,(aw (a:=a.add (j*2+1)) (by rw[gX];exact e)).trans c1⟩
 .rintro ys w1 w2 ⟨s1,g1,k1,k2,i⟩ hg;exact⟨s1,g1,k1.kept hg,k2,i⟩
 .rintro ys w1 ⟨s1,g1,k1,_⟩;exact k1.r.E.lt
 .rintro x r w1 ⟨_,_,_,_,_,y⟩ _
  cases y
 .rintro x r w1 ⟨_,_,_,_,_,y⟩ _
  cases y
 rintro e w' ⟨rfl,s1,g1,k1,k2,i,_⟩;refine⟨rfl,g1,?_⟩;rw[<-i];exact k1
structure tN(p:dz) (s:Pl) (g:eE) (mb:Nat) (w:World):Prop where
 r:dQ p s g w
 ok:Ok p s
 ev:s.ev=[]
 bx:∃x,w.heap[mb]? = some (.cells #[.int .i32 0,x,P0 p.eb] 105 (0,0))
 nm:¬ey p s g mb
structure J3(p:dz):Prop where
 pw:PW p
 pi:PI p
 q:p.qn<=50
 k:p.wk<=50
section
variable {p : dz} {s : Pl} {g : eE} {mb : Nat} {w : World} (h : tN p s g mb w)
include h
theorem tN.cells:w.cell? ⟨mb,0,none⟩=some (.int .i32 0)/\w.frozen? ⟨mb,0,none⟩=false/\w.cell? ⟨mb,2,none⟩=some (P0 p.eb)/\mb<w.heap.size:=by
 obtain⟨x,e⟩:=h.bx;exact⟨by simp[World.cell?,e],by simp[World.frozen?,e],by simp[World.cell?,e],bz e⟩
theorem tN.lock:dQ p s g (w.setCell ⟨mb,0,none⟩ (.int .i32 1)):=h.r.only (S:=λk=>k=mb) (bm (S:=λk=>k=mb) (dk _ _) (ag rfl) _) (λ_ i e=>h.nm (e▸i))
theorem tN.qD{w':World}(i:w'.heap[mb]? = (w.setCell ⟨mb,0,none⟩ (.int .i32 1)).heap[mb]?):w'.cell? ⟨mb,0,none⟩=some (.int .i32 1)/\w'.frozen? ⟨mb,0,none⟩=false/\∃x,(w'.setCell ⟨mb,0,none⟩ (.int .i32 0)).heap[mb]? = some (.cells #[.int .i32 0,x,P0 p.eb] 105 (0,0)):=by
 obtain⟨x,o⟩:=h.bx;have y:(w.setCell ⟨mb,0,none⟩ (.int .i32 1)).heap[mb]? = some (.cells #[.int .i32 1,x,P0 p.eb] 105 (0,0)):=by
  simp[World.setCell,cn,o]
 rw[y]at i;refine⟨by simp[World.cell?,i],by simp[World.frozen?,i],x,?_⟩;simp[World.setCell,cn,i]
end
theorem dQ.off{p:dz}{s:Pl}{g:eE}{w:World}{mb:Nat}(h:dQ p s g w)(hn:¬ey p s g mb)(o:Nat)(v:Value):dQ p s g (w.setCell ⟨mb,o,none⟩ v):=h.only (S:=λk=>k=mb) (bm (S:=λk=>k=mb) (dk _ _) (ag rfl) _) (λ_ i e=>hn (e▸i))
structure zh(p:dz) (s:Pl) (g:eE) (mb:Nat) (w:World) (s':Pl) (g':eE) (w':World):Prop where
 m:tN p s' g' mb w'
 o:dy (λk=>ey p s g k\/k=mb) w w'
 n:∀k,ey p s' g' k->ey p s g k\/w.heap.size<=k
theorem tN.BW{p:dz}{s:Pl}{g:eE}{mb:Nat}{w:World}{ad:Option Addr}{n:Nat}(c:Nat){l:List (Int×Nat)}(ticks:Int)(h:tN p s g mb w)(hP:J3 p)(hn:s.nt+p.qn<=500000000)(hI:Kk w ad n l (λk=>ey p s g k\/k=mb)): Calls prog 24 #[P0 mb,.int .i64 ticks,.slice ad n c] w λe w'=>∃s' g' G Y,e=.returned (.slice G s'.ev.length Y)/\jh p s ticks l s'/\w'.ownsRow 0 48 3 (.slice G s'.ev.length Y) s'.ev.length (kE s'.ev)/\zh p s g mb w s'.lD g' w'/\∀k,eO G=some k->¬ey p s'.lD g' k/\k≠mb/\k<w'.heap.size/\(ey p s g k\/w.heap.size<=k):=by
 obtain⟨c0,f0,c2,lm⟩:=h.cells;obtain⟨i1,i2,i3,i4,i5⟩:=hI;have Z:dy (λk=>ey p s g k\/k=mb) w (w.setCell ⟨mb,0,none⟩ (.int .i32 1)):=bm (S:=λk=>ey p s g k\/k=mb) (dk _ _) (ag (ab rfl)) _;have i:(w.setCell ⟨mb,0,none⟩ (.int .i32 1)).heap.size=w.heap.size:=by simp[World.setCell]
 refine(yl mb p.eb n c ad ticks w c0 f0 c2 (λv w'=>∃s',jh p s ticks l s'/\vW p s g (w.setCell ⟨mb,0,none⟩ (.int .i32 1)) s' w' v) ?_).mono ?_
 .refine(DG (l:=l) ticks h.lock hP.pw hP.pi h.ok h.ev hn hP.q hP.k (qj i3) (λs1 g1 w1 H a5=>?_)).mono ?_
  .refine GU c H.r a5 ⟨i1,i2,i3,i4,λa ha a4=>?_⟩;obtain⟨b1,b2,b3⟩:=i5 a ha a4;have e1:=(H.o.same (by rw[i];exact b1) (λhm=>b2 (ag hm))).trans (Z.same b1 b2);refine⟨dm (by rw[i];exact b1) H.o.size,λhm=>?_,λj x hj=>?_⟩
   .rcases H.m _ hm with y|y
    .exact b2 (ag y)
    rw[i]at y;omega
   obtain⟨d0,d1⟩:=b3 j x hj;exact⟨(aw (a:=a.add (j*2)) (by rw[gX];exact e1)).trans d0,(aw (a:=a.add (j*2+1)) (by rw[gX];exact e1)).trans d1⟩
  rintro e w' ⟨v,s',rfl,ht,g',G,Y,rfl,k2,J,k4⟩;have hb:=J.o.same (by rw[i];exact lm) h.nm;obtain⟨l1,l2,_⟩:=h.qD hb;exact⟨G,_,Y,rfl,l1,l2,s',ht,g',G,Y,rfl,k2,J,k4⟩
 rintro e w' ⟨v,w1,rfl,⟨s',ht,g',G,Y,rfl,k2,J,k4⟩,rfl⟩;have hb:=J.o.same (by rw[i];exact lm) h.nm;obtain⟨_,_,l3⟩:=h.qD hb;have a0:¬ey p s'.lD g' mb:=λhm=>(J.m mb hm).elim h.nm (λy=>by rw[i]at y;omega);have a1:∀k,eO G=some k->k≠mb:=λk u e=>by
  have W:=dA k2 k (by rw[dr];exact u);have a2:=hb;obtain⟨x0,a3⟩:=h.bx;have y:(w.setCell ⟨mb,0,none⟩ (.int .i32 1)).heap[mb]? = some (.cells #[.int .i32 1,x0,P0 p.eb] 105 (0,0)):=by simp[World.setCell,cn,a3]
  rw[y]at a2;rw[e]at W;obtain⟨_,_,q0⟩:=W;obtain⟨a6,q1⟩:=q0;rw[a2]at q1;injection q1 with q1;injection q1 with _ q2 _;exact ch q2 (by decide)
 refine⟨s',g',G,Y,rfl,ht,dD k2 (λk u=>af _ _ _ _ (a1 k (by rw[<-dr];exact u))),⟨⟨J.r.off a0 0 _,?_,rfl,l3,a0⟩,?_,λk u=>(J.m k u).imp id (λy=>by rw[i]at y;exact y)⟩,λk u=>⟨(k4 k u).1,a1 k u,by have:=(k4 k u).2.1;simpa[World.setCell] using this,by have:=(k4 k u).2.2;rw[i]at this;exact this⟩⟩
 .exact(nW hP.pi hP.pw.n1 h.ok h.ev hn (qj i3) ht).ok
 exact bm (Z.trans J.o (λk u _=>ag u)) (ag (ab rfl)) _
end F
namespace F
theorem GW{p:dz}{s:Pl}{g:eE}{w:World}(h:dQ p s g w)(hO:Ok p s): Calls prog 43 #[P0 p.eb] w λe w'=>e=.returned (.slice (some ⟨w.heap.size,0,none⟩) (s.q 2 0).length (s.q 2 0).length)/\w'.ownsRow w.heap.size 3 1 (.slice (some ⟨w.heap.size,0,none⟩) (s.q 2 0).length (s.q 2 0).length) (s.q 2 0).length ((s.q 2 0).map (λt:Nat=>Value.int .i64 (t:Int)))/\w.grownBy w' none:=by
 have hl:fz s 2 0:=ag ⟨rfl,rfl⟩;have a2:=hO.lw.len hl;have i:=λu y=>(hO.lw.b 2 0 hl u y).1;obtain⟨Y,W⟩:∃Y:Nat->Int,∀u,fe s u->Y (g.tb u)=(u:Int):=by
  classical
  refine⟨λb=>if H:∃u,fe s u/\g.tb u=b then(H.choose:Int) else 0,λu y=>?_⟩;have H:∃u',fe s u'/\g.tb u'=g.tb u:=⟨u,y,rfl⟩;show(if H:∃u',fe s u'/\g.tb u'=g.tb u then(H.choose:Int) else 0)=(u:Int);rw[dif_pos H,h.ny H.choose_spec.1 y H.choose_spec.2]
 have hL:=h.ln hl (by omega);have a0:w.cell? ⟨p.eb,32,none⟩=some (.slice (g.ro 2 0).1 (s.q 2 0).length (g.ro 2 0).2):=by
  have:=hL.hE.cell _ hL.ho;rw[hL.e]at this;exact this
 obtain⟨G,J⟩:∃G,s.q 2 0≠[]->(g.ro 2 0).1=some ⟨G,0,none⟩/\G<w.heap.size/\∀j x,((s.q 2 0).map g.tb)[j]? = some x->w.cell? ⟨G,j,none⟩=some (P0 x):=by
  by_cases e:s.q 2 0=[]
  .exact⟨0,λh=>ch e h⟩
  have hr:=hL.row;obtain⟨G,lc,he⟩:=dM hr (by exact λe'=>e (cf.1 e'));rw[he]at hr;injection he with a1 _ _;exact⟨G,λ_=>⟨a1,(dA hr G rfl).2.1,λj x o=>(iG hr).2.2.2.2.2 j (P0 x) (by rw[eo,o];rfl)⟩⟩
 have Z:∀{j:Nat} {x:Nat},((s.q 2 0).map g.tb)[j]? = some x->s.q 2 0≠[]:=λo e=>by rw[e]at o;simp at o
 refine(GX p.eb G (g.ro 2 0).2 (s.q 2 0).length (g.ro 2 0).1 Y ((s.q 2 0).map g.tb) w a0 h.E.lt (by rw[dS]) (by omega) (λj x o=>⟨(J (Z o)).1,(J (Z o)).2.2 j x o⟩) (λe=>(J (λe'=>e (by rw[e'];rfl))).2.1) (λx o=>?_)).mono ?_
 .obtain⟨u,y,rfl⟩:=ek.1 o;have hT:=h.tk (i u y);refine⟨?_,hT.lt⟩;rw[hT.cell 0 (by omega),W u (i u y)];rfl
 rintro e w' ⟨rfl,k1,k2⟩;refine⟨rfl,?_,k2⟩;have:((s.q 2 0).map g.tb).map (λx=>Value.int .i64 (Y x))=(s.q 2 0).map (λt:Nat=>Value.int .i64 (t:Int)):=by
  rw[List.map_map];refine List.map_congr_left (λu y=>?_);show Value.int .i64 (Y (g.tb u))=_;rw[W u (i u y)]
 rw[this]at k1;exact k1
theorem tN.queue{p:dz}{s:Pl}{g:eE}{mb:Nat}{w:World}(h:tN p s g mb w): Calls prog 26 #[P0 mb] w λe w'=>e=.returned (.slice (some ⟨w.heap.size,0,none⟩) (s.q 2 0).length (s.q 2 0).length)/\w'.ownsRow w.heap.size 3 1 (.slice (some ⟨w.heap.size,0,none⟩) (s.q 2 0).length (s.q 2 0).length) (s.q 2 0).length ((s.q 2 0).map (λt:Nat=>Value.int .i64 (t:Int)))/\zh p s g mb w s g w':=by
 obtain⟨c0,H,Y,G⟩:=h.cells;have i:(w.setCell ⟨mb,0,none⟩ (.int .i32 1)).heap.size=w.heap.size:=by simp[World.setCell]
 refine(yD mb p.eb w c0 H Y (λv w'=>v=.slice (some ⟨w.heap.size,0,none⟩) (s.q 2 0).length (s.q 2 0).length/\w'.ownsRow w.heap.size 3 1 (.slice (some ⟨w.heap.size,0,none⟩) (s.q 2 0).length (s.q 2 0).length) (s.q 2 0).length ((s.q 2 0).map (λt:Nat=>Value.int .i64 (t:Int)))/\(w.setCell ⟨mb,0,none⟩ (.int .i32 1)).grownBy w' none) ?_).mono ?_
 .have:=GW h.lock h.ok;rw[i]at this;refine this.mono ?_;rintro e w' ⟨rfl,k1,k2⟩;have y:=k2.block mb (by rw[i];exact G) (by intro e;cases e);obtain⟨W,J,_⟩:=h.qD y;exact⟨_,_,_,rfl,W,J,rfl,k1,k2⟩
 rintro e w' ⟨v,w1,rfl,⟨rfl,k1,k2⟩,rfl⟩;have y:=k2.block mb (by rw[i];exact G) (by intro e;cases e);obtain⟨_,_,Z⟩:=h.qD y;refine⟨rfl,dD k1 (λk o=>af _ _ _ _ ?_),⟨(h.lock.kept k2).off h.nm 0 _,h.ok,h.ev,Z,h.nm⟩,bm ((bm (S:=λk=>ey p s g k\/k=mb) (dk _ _) (ag (ab rfl)) _).gR k2) (ag (ab rfl)) _,λk o=>ag o⟩;have e:w.heap.size=k:=by injection o
 show k≠mb;omega
theorem G8{p:dz}{k:Nat}(h:ey p lU Ed k):k=p.eb\/k=p.sb\/k=p.pb\/p.fx k:=by
 obtain⟨x,y,z,o⟩:=h;by_cases i:gu lU x y z=true
 .rw[gH i]at o;have J:=uM i;by_cases G:eQ x
  .rw[gk G]at o
   cases o
  have H:x=0\/x=1\/x=11\/x=13\/x=14\/x=15\/x=16\/x=17\/x=18:=by unfold eQ at G;omega
  rcases H with rfl|rfl|rfl|rfl|rfl|rfl|rfl|rfl|rfl
  .exact ag o
  .rcases o with e|e|⟨_,_,_,e,_⟩|⟨e,_⟩
   .exact ab (ag e)
   .exact ab (ab (ag e))
   .cases e
   cases e
  .have:=(jq i (by omega)).1;have e:=this.1;have u:y<=0:=this.2;omega
  .have:=(lI i (by omega)).1;have e:=this.1;have u:y<=0:=this.2;omega
  .have:=(lI i (by omega)).1;have e:=this.1;have u:y<=0:=this.2;omega
  .have:=(jq i (by omega)).1;have e:=this.1;have u:y<=0:=this.2;omega
  .have:=(jq i (by omega)).1;have e:=this.1;have u:y<=0:=this.2;omega
  .have:=(ld i).1;have e:=this.1;have u:y<=0:=this.2;omega
  exact ab (ab (ab o))
 rw[vq i]at o;exact o.elim
structure tK(p:dz) (tx:ByteArray) (c0 c1 c2 c3:Int):Prop where
 n:(p.n:Int)=c0
 qn:(p.qn:Int)=c1
 wk:(p.wk:Int)=c2
 mt:(p.mt:Int)=c3
 nf:p.nf=M.bt tx 0
 rg:∀k,p.rg k=M.bt tx (M.pos tx k)
 len:∀k,p.len k=M.bt tx (M.pos tx k+1)
 ins:∀k i,p.ins k i=pH tx (M.pos tx k+2+4*i)
def Gk(tx:ByteArray)(c0 c1 c2 c3:Int)(z eb:Nat)(w3:World):Prop:=∃p s g,p.eb=eb/\J3 p/\dQ p s g w3/\Ok p s/\s=lU.born 0 (0,0) (0,0)/\tK p tx c0 c1 c2 c3/\∀k,ey p s g k->z<=k/\k<w3.heap.size
theorem Ha(s:ByteArray)(c0 c1 Y c3:Int)(w:World)(hs:s.size<=maxLen)(hT:mB w)(aF:(M.jO s).2=true->Tm s): Calls prog 23 #[.string s,.agg #[.int .i64 c0,.int .i64 c1,.int .i64 Y,.int .i64 c3]] w λe w'=>Below w.heap.size w w'/\((∃x y:Int,e=.returned (.tuple #[.pointer none,.agg #[.int .i64 x,.int .i64 y]])/\¬(qT c0 c1 Y c3=true/\(M.jO s).2=true))\/∃(mb:Nat) (p:dz) (g:eE),e=.returned (.tuple #[P0 mb,.agg #[.int .i64 0,.int .i64 0]])/\J3 p/\tN p (lU.born 0 (0,0) (0,0)) g mb w'/\tK p s c0 c1 Y c3/\∀k,ey p (lU.born 0 (0,0) (0,0)) g k\/k=mb->w.heap.size<=k/\k<w'.heap.size):=by
 refine(ux s c0 c1 Y c3 w hs hT (Gk s c0 c1 Y c3 (w.heap.size+2)) ?_).mono ?_
 .intro aD W w1 w2 g cl aG z1 B2 z2 hF;obtain⟨n1,n2,aH⟩:=nJ W;have hb:1<=c0/\c0<=200/\1<=c1/\c1<=50/\1<=Y/\Y<=50/\1<=c3/\c3<=16:=by
   simp[qT,tR]at aD;omega
  obtain⟨q,rfl⟩:∃q:Nat,c1=(q:Int):=⟨c1.toNat,by omega⟩;obtain⟨wk,rfl⟩:∃wk:Nat,Y=(wk:Int):=⟨Y.toNat,by omega⟩;obtain⟨t,rfl⟩:∃t:Nat,c3=(t:Int):=⟨c3.toNat,by omega⟩;obtain⟨hz,gs,hG,aC⟩:=hF;refine Fp g (M.bt s 0) q wk t cl (Gk s _ _ _ _ (w.heap.size+2)) w2 (by omega) (by omega) ?_;rintro w7 eb sb pb ac ⟨y1,y2,y3,y4,B7,hA,hS,hE⟩;have a1:=λk u=>B7.block k u;have pre:zg w7 s eb sb pb ac g cl q wk t gs:=⟨W,aF W,by omega,by omega,hG.block (a1 g hG.lt),λk u=>by
   obtain⟨_,a2,a3,a4,a5,a6⟩:=aC k u;exact⟨a2,a3,a4,a5,a6.block (a1 _ a6.lt)⟩,hA,Es hS,hE⟩
  have a0:=pre.rep;have J:∀k,ey (qe w7 s eb sb pb ac g cl q wk t gs) lU Ed k->(w2.heap.size<=k\/(qe w7 s eb sb pb ac g cl q wk t gs).fx k)/\w.heap.size+2<=k:=λk u=>by
   rcases G8 u with G|G|G|G
   .have G:k=eb:=G;exact⟨ag (by omega),by omega⟩
   .have G:k=sb:=G;exact⟨ag (by omega),by omega⟩
   .have G:k=pb:=G;exact⟨ag (by omega),by omega⟩
   refine⟨ab G,?_⟩;rcases G with h2|⟨f,hf,h2⟩|h2
   .omega
   .have:=(aC f hf).1;omega
   omega
  have H:=Je (qe w7 s eb sb pb ac g cl q wk t gs);have aB:(0:Nat)<(qe w7 s eb sb pb ac g cl q wk t gs).nf:=n1;refine(Ik (f:=0) (0,0) (0,0) a0 pre.pw H.lw H.nd H.lt H.ol aB (by show 0+1<=_;omega)).mono ?_;rintro e w' ⟨rfl,g',Z,_⟩;refine⟨⟨_,rfl⟩,Z.below a0 (λk u=>(J k u).1) B7.size,qe w7 s eb sb pb ac g cl q wk t gs,lU.born 0 (0,0) (0,0),g',rfl,⟨pre.pw,pre.pi,by show q<=50;omega,by show wk<=50;omega⟩,Z.r,H.born (by show 0+1<=_;omega) aB (dN.num 0) (dN.num 0),rfl,⟨aG.symm,rfl,rfl,rfl,rfl,λ_=>rfl,λ_=>rfl,λ_ _=>rfl⟩,λk u=>⟨?_,Z.r.lt u⟩⟩;rcases Z.m k u with G|G
  .exact(J k G).2
  have:=B7.size;omega
 rintro e w' ⟨hB,⟨x,y,G,h2,_⟩|⟨mb,eb,w3,rfl,⟨p,st,g,rfl,hP,hR,hO,rfl,a8,hM⟩,aI,rfl,aA,a7⟩⟩
 .exact⟨hB,ag ⟨x,y,G,h2⟩⟩
 have a9:dQ p (lU.born 0 (0,0) (0,0)) g w':=⟨λx y z=>(ob p (lU.born 0 (0,0) (0,0)) g x y z).fr w3 w' (hR.o x y z) (λk u=>a7 k (hR.lt ⟨x,y,z,u⟩) (by have:=(hM k ⟨x,y,z,u⟩).1;omega)),hR.i⟩
 refine⟨hB,ab ⟨w3.heap.size,p,g,rfl,hP,⟨a9,hO,(Ap lU 0 (0,0) (0,0)).2.1,aA,λu=>by have:=(hM _ u).2;omega⟩,a8,?_⟩⟩;rintro k (u|rfl)
 .exact⟨by have:=(hM k u).1;omega,a9.lt u⟩
 obtain⟨x,hx⟩:=aA;exact⟨by omega,bz hx⟩
theorem xU(mb eb:Nat)(w:World)(y:w.cell? ⟨mb,0,none⟩=some (.int .i32 0))(o:w.frozen? ⟨mb,0,none⟩=false)(H:w.cell? ⟨mb,2,none⟩=some (P0 eb))(R:Int->World->Prop)(i:Hid (Calls prog 44 #[P0 eb] (w.setCell ⟨mb,0,none⟩ (.int .i32 1)) λe w'=>∃x:Int,e=.returned (.int .i64 x)/\w'.cell? ⟨mb,0,none⟩=some (.int .i32 1)/\w'.frozen? ⟨mb,0,none⟩=false/\R x w')): Calls prog 28 #[P0 mb] w λe w'=>∃x w1,e=.returned (.int .i64 x)/\R x w1/\w'=w1.setCell ⟨mb,0,none⟩ (.int .i32 0):=by
 go_enter_defers func28,ntmps28
 go_wp2_with fail
 refine(pC mb w y o).mono ?_;rintro e w1 ⟨rfl,rfl⟩;go_wp2_with fail
 refine i.out.mono ?_;rintro e w2 ⟨x,rfl,c0,c1,hR⟩;have u:Hid (R x w2):=hR;go_wp2_with fail
 refine leaves_cons (f:=40) (args:=#[P0 mb]) (by simp) (by simp[go_sem]) ?_;refine(ja ⟨mb,0,none⟩ .returning _ c0 c1).mono ?_;rintro e G w'' ⟨rfl,rfl,rfl⟩;exact⟨_,results_tmp rfl _ _ _,x,w2,rfl,u.out,rfl⟩
theorem Ib(eb:Nat)(x:Int)(w:World)(h:w.cell? ⟨eb,28,none⟩=some (.int .i64 x)):Calls prog 44 #[P0 eb] w λe w'=>e=.returned (.int .i64 x)/\w'=w:=by
 go_in;go_wp2_with fail
 go_ret;exact⟨rfl,rfl⟩
theorem tN.clock{p:dz}{s:Pl}{g:eE}{mb:Nat}{w:World}(h:tN p s g mb w): Calls prog 28 #[P0 mb] w λe w'=>e=.returned (.int .i64 s.eY)/\zh p s g mb w s g w':=by
 obtain⟨c0,u,J,W⟩:=h.cells;refine(xU mb p.eb w c0 u J (λx w'=>x=s.eY/\w'=w.setCell ⟨mb,0,none⟩ (.int .i32 1)) ?_).mono ?_
 .refine(Ib p.eb s.eY _ (h.lock.E.cell 28 (by omega))).mono ?_;rintro e w' ⟨rfl,rfl⟩;obtain⟨G,y,_⟩:=h.qD rfl;exact⟨s.eY,rfl,G,y,rfl,rfl⟩
 rintro e w' ⟨x,w1,rfl,⟨rfl,rfl⟩,rfl⟩;obtain⟨_,_,H⟩:=h.qD rfl;exact⟨rfl,⟨h.lock.off h.nm 0 _,h.ok,h.ev,H,h.nm⟩,bm (bm (S:=λk=>ey p s g k\/k=mb) (dk _ _) (ag (ab rfl)) _) (ag (ab rfl)) _,λk o=>ag o⟩
theorem GG{s:Pl}{x:Int}(h:J0 s.sp s.lv.length (s.q 2 0).length (s.q 3 0).length (λk=>(s.q 4 k).length) x):x=s.zp:=by
 obtain⟨Z,h2,h3,h4,h5⟩:=h;have W:((s.q 3 0).length≠0\/∃k,k<4/\(s.q 4 k).length≠0)↔yz s:=by
  have Y:∀l:List Nat,l.length≠0↔l≠[]:=λl=>not_congr cf;unfold yz;rw[Y];exact or_congr Iff.rfl (exists_congr (λk=>and_congr Iff.rfl (Y _)))
 unfold Pl.zp;by_cases J:s.sp=true
 .rw[aj J];exact Z J
 have i:s.sp=false:=by simpa using J
 rw[aa J];by_cases H:s.lv=[]
 .rw[aj H];exact h2 i (by rw[H];rfl)
 rw[aa H];have o:s.lv.length≠0:=λe=>H (cf.1 e);by_cases G:s.q 2 0=[]
 .have u:(s.q 2 0).length=0:=by rw[G];rfl
  rw[aa (λe=>e G)];by_cases y:yz s
  .rw[aj y];exact h4 i o u (W.2 y)
  rw[aa y];exact h5 i o u (λe=>y (W.1 e))
 rw[aj G];exact h3 i o (λe=>G (cf.1 e))
theorem yq{p:dz}{s:Pl}{g:eE}{w:World}(h:dQ p s g w): Calls prog 42 #[P0 p.eb] w λe w'=>e=.returned (.int .i64 s.zp)/\w.grownBy w' none:=by
 refine(Et p.eb s.sp (λk=>(s.q 4 k).length) s.lv.length (g.ro 6 0).2 (eH s 2 0) (g.ro 2 0).2 (eH s 3 0) (g.ro 3 0).2 (g.ro 6 0).1 (g.ro 2 0).1 (g.ro 3 0).1 w (h.E.cell 42 (by omega)) (h.E.cell 29 (by omega)) (h.E.cell 32 (by omega)) (h.E.cell 33 (by omega)) ⟨h.E.lt,λj y=>?_⟩).mono ?_
 .have i:j=0\/j=1\/j=2\/j=3:=by omega
  rcases i with rfl|rfl|rfl|rfl
  .exact⟨⟨_,_,_,h.E.cell 34 (by omega)⟩,_,_,h.E.cell 35 (by omega)⟩
  .exact⟨⟨_,_,_,h.E.cell 36 (by omega)⟩,_,_,h.E.cell 37 (by omega)⟩
  .exact⟨⟨_,_,_,h.E.cell 38 (by omega)⟩,_,_,h.E.cell 39 (by omega)⟩
  exact⟨⟨_,_,_,h.E.cell 40 (by omega)⟩,_,_,h.E.cell 41 (by omega)⟩
 rintro e w' ⟨⟨x,rfl,o⟩,u⟩;rw[GG o];exact⟨rfl,u⟩
theorem tN.yq{p:dz}{s:Pl}{g:eE}{mb:Nat}{w:World}(h:tN p s g mb w): Calls prog 25 #[P0 mb] w λe w'=>e=.returned (.int .i64 s.zp)/\zh p s g mb w s g w':=by
 obtain⟨c0,H,Z,y⟩:=h.cells;have i:(w.setCell ⟨mb,0,none⟩ (.int .i32 1)).heap.size=w.heap.size:=by simp[World.setCell]
 refine(wM mb p.eb w c0 H Z (λx w'=>x=s.zp/\(w.setCell ⟨mb,0,none⟩ (.int .i32 1)).grownBy w' none) ?_).mono ?_
 .refine(F.yq h.lock).mono ?_;rintro e w' ⟨rfl,k2⟩;have u:=k2.block mb (by rw[i];exact y) (by intro e;cases e);obtain⟨W,J,_⟩:=h.qD u;exact⟨_,rfl,W,J,rfl,k2⟩
 rintro e w' ⟨x,w1,rfl,⟨k1,k2⟩,rfl⟩;have u:=k2.block mb (by rw[i];exact y) (by intro e;cases e);obtain⟨_,_,Y⟩:=h.qD u;rw[k1];exact⟨rfl,⟨(h.lock.kept k2).off h.nm 0 _,h.ok,h.ev,Y,h.nm⟩,bm ((bm (S:=λk=>ey p s g k\/k=mb) (dk _ _) (ag (ab rfl)) _).gR k2) (ag (ab rfl)) _,λk G=>ag G⟩
