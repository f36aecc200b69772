import Derived.Test.YtnjiinbhbjpfkaaGreatDoorAK
set_option maxRecDepth 100000
set_option maxHeartbeats 0
set_option linter.all false
namespace Go.Proofs.YtnjiinbhbjpfkaaGreatDoor
open Go.RowKit Go.Proofs.Tryz
section
variable {s:ByteArray}{w w':aa}
def NG(s:ByteArray)(p L H:Nat)(bad:Bool)(x q:Nat)(bad':Bool):Prop:=
 (bad'=true/\q=p/\(bad=true\/M.tk s p L H=false))\/(bad'=false/\bad=false/\q=p+1/\x=M.bt s p/\M.tk s p L H=true)
theorem zq9(b:Nat)(s:ByteArray)(p L H:Nat)(bad:Bool)(u hi:Int)(w:aa)(h:w.heap[b]?=some (kX s p bad))(hs:s.size<=maxLen)(Y:p<=s.size)(y:u=L)(Z:hi=H)(W:L<=H):Calls prog 53 #[.pointer<|some<|az b 0,ah u,ah hi] w λe w'=>∃(x q:Nat) (i:Bool),e=.returned (ah x)/\L<=x/\x<=H/\w'.heap[b]?=some (kX s q i)/\w.grownBy w' (some b)/\q<=s.size/\NG s p L H bad x q i:=by
 by_cases hb:bad=false/\M.tk s p L H=true
 .obtain⟨rfl,ht⟩:=hb;have h3:=M.gZ ht;refine dq (mP b s p L H u hi w h hs y Z ht) ?_;rintro w' ⟨G,J⟩;exact⟨M.bt s p,p+1,false,rfl,h3.2.1,h3.2.2,G,J,af,ak ⟨rfl,rfl,rfl,rfl,ht⟩⟩
 have o:bad=true\/M.tk s p L H=false:=by
  cases bad with
  |true=>grind
  |false=>grind
 refine dq (se b s p L H bad u hi w h Y y Z o) ?_;rintro w' ⟨G,J⟩;exact⟨L,p,true,by rw[y],bm _,W,G,J,Y,ag ⟨rfl,rfl,o⟩⟩
theorem pe{o:Obj}(h:(w.alloc o).grownBy w' (some w.heap.size)):Below w.heap.size w w':=
 ⟨h.os,h.tape,h.output,by have:=h.size;simp at this;omega,λk i=>(h.block k fV ey).trans<|au _ _ _ i⟩
theorem l9{w0:aa}(h:w.grownBy w' (some w0.heap.size))(o:w0.heap.size<=w.heap.size):Below w0.heap.size w w':=
 ⟨h.os,h.tape,h.output,h.size,λk i=>h.block k af ey⟩
def lO{k:Nat}{e o:Value}{T:TypeId}(i:w.heap[k]?=some (.cells #[e,o] T (0,0))):k<w.heap.size/\w.cell? (az k 0)=some e/\w.cell? (az k 1)=some o/\w.frozen? (az k 0)=false/\w.frozen? (az k 1)=false:=
 ⟨ch i,by simp[World.cell?,World.frozen?,i]⟩
theorem Bc(w:aa)(o i:Value)(T:TypeId):∀j u,[o,i][j]?=some u->(w.alloc<|.cells #[o,i] T).cell? (((az w.heap.size 0):Addr).add j)=some u:=by
 intro j u e;match j,e with
 |0,e=>simp_all[Addr.add]
 |1,e=>simp_all[Addr.add]
theorem zS(w:aa)(o:Obj)(y G H i:Value)(T:TypeId):∀j u,[y,G,H,i][j]?=some u->((w.alloc o).alloc<|.cells #[y,G,H,i] T).cell? (((az (w.heap.size+1) 0):Addr).add j)=some u:=by
 intro j u e;match j,e with
 |0,e=>simp_all[Addr.add]
 |1,e=>simp_all[Addr.add]
 |2,e=>simp_all[Addr.add]
 |3,e=>simp_all[Addr.add]
def yF{g:Nat}{e i:Value}{T:TypeId}(h:w.heap[g]?=some (.cells #[e,i] T (0,0)))(v:Value):(w.setCell (az g 1) v).heap[g]?=some (.cells #[e,v] T (0,0)):=by
 simp[World.setCell,dp,h]
def left(bad:Bool)(q:Nat)(r:Nat×Bool):Nat×Bool:=if bad=true then(q,false) else r
def Tryz.FL:(prog.info? 90).map (λi=>(i.zero,i.size,i.bytes))=some (some<|.agg #[ah 0,ah 0,ah 0,ah 0],4,32):=by kernel_rfl
def Tryz.FM:(prog.info? 89).map (λi=>(i.zero,i.size,i.bytes))=some (some<|.agg #[ah 0,.slice none 0 0],2,32):=by kernel_rfl
theorem Is{q F R L J H:Nat}{e i:Bool}(u:NG s q 2 8 false R J e)(o:NG s J 1 200 e L H i):left i H (M.code s R F L H L)=M.fn s q F:=by
 unfold left M.fn;rcases u with⟨rfl,rfl,u⟩|⟨rfl,_,rfl,rfl,u⟩
 .rcases o with⟨rfl,rfl,o⟩|⟨_,h,_⟩
  .grind
  cases h
 rw[bf u];rcases o with⟨rfl,rfl,o⟩|⟨rfl,_,rfl,rfl,o⟩
 .grind
 grind
theorem Fz{F q q' n:Nat}{bad':Bool}{X:Nat×Bool}(h:M.fns s F q (n+1)=X)(hy:M.fn s q F=(q',!bad')):left bad' q' (M.fns s F q' n)=X:=by
 grind[left,M.fns,M.fns.eq_def]
theorem De{R F L q n:Nat}{Y:Nat×Bool}(h:M.code s R F L q (n+1)=Y):left (!(M.ins s q R F L).2) (M.ins s q R F L).1 (M.code s R F L (M.ins s q R F L).1 n)=Y:=by
 grind[left,M.code,M.ins,M.code.eq_def]
theorem Fy{F q:Nat}{bad:Bool}(h:NG s 0 1 8 false F q bad):∃X:Nat×Bool,M.nK s=(X.1,X.2&&decide (X.1=s.size))/\left bad q (M.fns s F q F)=X:=by
 rcases h with⟨rfl,rfl,h⟩|⟨rfl,_,rfl,rfl,h⟩
 .exact⟨(0,false),by simp_all[M.nK,av],rfl⟩
 exact⟨M.fns s (M.bt s 0) 1<|M.bt s 0,by unfold M.nK;grind,rfl⟩
theorem zi(s:ByteArray)(w:aa)(hs:s.size<=maxLen)(hs2:s.size<=140737488355328)(hn:(M.nK s).2=false):dC 35 #[.string s] w (.tuple #[.slice none 0 0,ah ((M.nK s).1:Int),.bool false]) λw'=>Below w.heap.size w w':=by
 have HS:Hid (s.size<=maxLen):=hs;have HN:Hid ((M.nK s).2=false):=hn;clear hs hn;delta dC;obtain⟨i1,hi1,hz10,hz11,hz12⟩:=info_parts Tryz.FL;obtain⟨i2,hi2,hz20,hz21,hz22⟩:=info_parts Tryz.FM;go_in;go_wp2_with fail
 refine(zq9 w.heap.size s 0 1 8 false 1 8 (w.alloc<|kX s 0 false) (bl w _) HS.out af rfl rfl af).mono ?_;rintro e w1 ⟨F,q,bad,rfl,f1,f2,hh,hg,hq,hcase⟩;have KB:Hid (w1.heap[w.heap.size]?=some (kX s q bad)):=hh;have KL:Hid (Below w.heap.size w w1):=pe hg;obtain⟨X,hX1,hX2⟩:=Fy hcase;have HX1:Hid (M.nK s=(X.1,X.2&&decide (X.1=s.size))):=hX1;have HX2:Hid (left bad q (M.fns s F q F)=X):=hX2;clear hh hg hcase hX1 hX2;go_wp2
 go_loopw[7,8] (λv i wr=>∃(k q:Nat) (bad:Bool) (ad:Option Addr) (cp:Nat) (xs:List Value),k<=F/\q<=s.size/\i=ah k/\v=.slice ad k cp/\Hid (wr.heap[w.heap.size]?=some (kX s q bad))/\Hid (Below w.heap.size w wr)/\Hid (wr.ownsRow (w.heap.size+1) 89 2 (.slice ad k cp) k xs)/\Hid (left bad q (M.fns s F q<|F-k)=X)) (λ_ i _=>F-(intOf i).toNat)
 case atStart=>exact⟨0,q,bad,none,0,[],af,hq,rfl,rfl,KB,KL,eg _ _ _ _,HX2⟩
 case round=>
  clear hq KB KL HX2;obtain⟨k,q,bad,ad,cp,xs,hk,hq,rfl,rfl,rB,rL,rO,rX⟩:=hrel;obtain⟨y0,y1,y2⟩:=iK rB.out;by_cases hlt:k<F
  .cases bad with
   |true=>
    have HC:Hid ((q,false)=X):=rX;go_wp2
    go_quiet (fail)
    go_wp2
    go_ret3
    refine⟨?_,below_drewN rL.out _⟩;rw[HX1.out,<-HC.out];rfl
   |false=>
    clear y0 y1 y2;have HX3:Hid (M.fns s F q ((F-(k+1))+1)=X):=by
     show _=_;rw[<-rX.out,show F-k=(F-(k+1))+1 by omega];rfl
    clear rX;have y2:=(iK rB.out).2.2;go_wp2_with fail
    refine(zq9 w.heap.size s q 2 8 false 2 8 wr rB.out HS.out hq rfl rfl af).mono ?_;rintro e w3 ⟨R,q1,bad1,rfl,a1,a2,hh,hg,hq1,hc1⟩;have KB3:Hid (w3.heap[w.heap.size]?=some (kX s q1 bad1)):=hh;have KL3:Hid (Below w.heap.size w w3):=rL.out.trans<|l9 hg rL.out.size;have hne:(Value.slice ad k cp).ownBlock=none\/(Value.slice ad k cp).ownBlock≠some w.heap.size:=by
     right;intro e;have:=(rO.out.lt _ e).1;omega
    have KO3:Hid (w3.ownsRow (w.heap.size+1) 89 2 (.slice ad k cp) k xs):=rO.out.kept hg hne;have HC1:Hid (NG s q 2 8 false R q1 bad1):=hc1;clear hh hg rB rL rO y2 hc1;have hgN:w.heap.size<w3.heap.size:=ch KB3.out;have KV:Hid (∀x,(Value.slice ad k cp).ownBlock=some x->x<w3.heap.size):=λx hx=>(KO3.out.lt x hx).2;go_wp2_with fail
    refine(zq9 w.heap.size s q1 1 200 bad1 1 200 (w3.alloc<|.cells #[ah R,.slice none 0 0] 89) (jx KB3.out _) HS.out hq1 rfl rfl af).mono ?_;rintro e w4 ⟨L,q2,bad2,rfl,l1,l2,hh,hg,hq2,hc2⟩;have KB4:Hid (w4.heap[w.heap.size]?=some (kX s q2 bad2)):=hh;have KL4:Hid (Below w.heap.size w w4):=(KL3.out.alloc af _).trans<|l9 hg fV;have KO4:Hid (w4.ownsRow (w.heap.size+1) 89 2 (.slice ad k cp) k xs):=(KO3.out.alloc _).kept hg hne;have KF4:Hid (w4.heap[w3.heap.size]?=some (.cells #[ah R,.slice none 0 0] 89 (0,0))):=da hg (bl w3 _) LQ;have HY:Hid (left bad2 q2 (M.code s R F L q2 L)=M.fn s q F):=Is HC1.out hc2;clear hh hg KB3 KL3 KO3 HC1 hc2 hq1;generalize w3.heap.size=g at*;go_wp2
    go_loopw[11] (λi wx=>∃(j q':Nat) (bad':Bool) (ad':Option Addr) (cp':Nat) (ys:List Value),j<=L/\q'<=s.size/\i=ah j/\Hid (wx.heap[w.heap.size]?=some (kX s q' bad'))/\Hid (wx.heap[g]?=some (.cells #[ah R,.slice ad' j cp'] 89 (0,0)))/\Hid (wx.ownsRow (g+1) 90 4 (.slice ad' j cp') j ys)/\Hid (wx.ownsRow (w.heap.size+1) 89 2 (.slice ad k cp) k xs)/\Hid (Below w.heap.size w wx)/\Hid (left bad' q' (M.code s R F L q'<|L-j)=M.fn s q F)) (λi _=>L-(intOf i).toNat)
    case atStart=>exact⟨0,q2,bad2,none,0,[],af,hq2,rfl,KB4,KF4,eg _ _ _ _,KO4,KL4,HY⟩
    case round=>
     clear KB4 KL4 KO4 KF4 HY hq2;obtain⟨j,q',bad',ad',cp',ys,hj,hq',rfl,sB,sF,sY,sO,sL,sC⟩:=hrel;obtain⟨_,_,y2⟩:=iK sB.out;obtain⟨_,d0,d1,e0,e1⟩:=lO sF.out;by_cases hx:j<L/\bad'=false
     .obtain⟨hjl,rfl⟩:=hx;have HC5:Hid (M.code s R F L q' ((L-(j+1))+1)=M.fn s q F):=by
       show _=_;rw[<-sC.out,show L-j=(L-(j+1))+1 by omega];rfl
      clear sC;go_wp2_with fail
      refine(xj w.heap.size s q' R F L R F L wr sB.out HS.out hs2 hq' rfl rfl rfl af f1 a2 f2).mono ?_;rintro e w5 ⟨⟨b0,b1,b2,b3,rfl,_⟩,hh,hg⟩;have hne':(Value.slice ad' j cp').ownBlock=none\/(Value.slice ad' j cp').ownBlock≠some w.heap.size:=by
       right;intro e;have:=(sY.out.lt _ e).1;omega
      have KB5:Hid (w5.heap[w.heap.size]?=some (kX s ((M.ins s q' R F L).1:Nat)<|!(M.ins s q' R F L).2)):=hh;have KF5:Hid (w5.heap[g]?=some (.cells #[ah R,.slice ad' j cp'] 89 (0,0))):=da hg sF.out LQ;have KY5:Hid (w5.ownsRow (g+1) 90 4 (.slice ad' j cp') j ys):=sY.out.kept hg hne';have KO5:Hid (w5.ownsRow (w.heap.size+1) 89 2 (.slice ad k cp) k xs):=sO.out.kept hg hne;have KL5:Hid (Below w.heap.size w w5):=sL.out.trans<|l9 hg sL.out.size;have HC6:=De HC5.out;have HC7:Hid (left (!(M.ins s q' R F L).2) (M.ins s q' R F L).1 (M.code s R F L (M.ins s q' R F L).1<|L-(j+1))=M.fn s q F):=HC6;have hq5:=(M.AT (s:=s) (p:=q') (r:=R) (f:=F) (l:=L) hq').2;clear hh hg sB sF sY sO sL y2 d0 d1 e0 e1 hne' HC5 HC6;generalize (M.ins s q' R F L).1=q5 at*;generalize (!(M.ins s q' R F L).2)=bad5 at*;obtain⟨hz5,d0,d1,e0,e1⟩:=lO KF5.out;have hz6:g<w5.heap.size+1:=af
      go_wp2_with (at_builtin;refine wpList_append_own _ rfl (.tmp 54) (.tmp 56) 87 rfl (g+1) 90 i1 _ 4 32 underlying87 hi1 hz10 hz11 hz12 rfl eo _ _ _ rfl ((KY5.out.alloc _).alloc _) (az (w5.heap.size+1) 0) 1 1 [ah b0,ah b1,ah b2,ah b3] rfl rfl ?c1 ?c2 ?c3 ?c4 ?c5 ?_)
      case c1=>exact zS w5 _ _ _ _ _ _
      case c2=>intro u hu;simp at hu;rcases hu with rfl|rfl|rfl|rfl<;>rfl
      case c3=>unfold maxLen;omega
      case c4=>omega
      case c5=>simp;omega
      intro v' w6 hown hgrow _;obtain⟨g',cap',rfl⟩:∃g' cap',v'=dD g' (j+1) cap':=by
       rcases hown.2 with⟨_,h⟩|⟨g',cap',_,h,_⟩
       .omega
       exact⟨g',cap',h⟩
      have hnN:∀x,x<g+1->some x≠(Value.slice ad' j cp').ownBlock:=by
       intro x hx e;have:=(KY5.out.lt _ e.symm).1;omega
      have KB6:Hid (w6.heap[w.heap.size]?=some (kX s q5 bad5)):=da hgrow (jx (jx KB5.out _) _)<|hnN _ af;have KF6:Hid (w6.heap[g]?=some (.cells #[ah R,.slice ad' j cp'] 89 (0,0))):=da hgrow ((au _ _ _ fV).trans<|(au _ _ _ hz5).trans KF5.out)<|hnN _ af;have KL6:Hid (Below w.heap.size w w6):=((KL5.out.alloc af _).alloc fV _).grown hgrow fV (λx hx=>by have:=(KY5.out.lt _ hx).1;omega);have KY6:Hid (w6.ownsRow (g+1) 90 4 (dD g' (j+1) cap') (j+1)<|ys++[ah b0,ah b1,ah b2,ah b3]):=hown;have KO6:Hid (w6.ownsRow (w.heap.size+1) 89 2 (.slice ad k cp) k xs):=((KO5.out.alloc _).alloc _).kept hgrow (by cases hv:(Value.slice ad k cp).ownBlock with|none=>exact ag rfl|some x=>exact ak<|hnN x (by have:=KV.out x hv;omega));clear hown hgrow KB5 KF5 KY5 KO5 KL5 d0 d1 e0 e1;obtain⟨hz7,d0,d1,e0,e1⟩:=lO KF6.out;go_wp2
      go_roundw
      case rel=>exact⟨j+1,q5,bad5,some<|az g' 0,cap',_,af,hq5,iI,kN KB6.out af,yF KF6.out _,ownsRow_setCell_below KY6.out (by show g<g+1;omega) _,KO6.out.kept (bu (aw w6<|some g) (ag rfl) _) (by right;intro e;have:=KV.out _ e;omega),KL6.out.setCell (by show w.heap.size<=g;omega) _,HC7⟩
      case measure=>simp[intOf];omega
     have HYY:Hid (M.fn s q F=(q',!bad')):=by
      show _=_;rw[<-sC.out];unfold left;cases bad'
      .rw[show L-j=0 by simp at hx;omega];rfl
      rfl
     have hy:j<L/\bad'=true\/¬j<L:=by cases bad'<;>simp_all;omega
     clear sC hx;rcases hy with⟨hjl,hb⟩|hjl
     all_goals
      try rw[hb]at y2
      go_wp2_with (at_builtin;refine wpList_append_own _ rfl (.tmp 59) (.tmp 61) 83 rfl (w.heap.size+1) 89 i2 _ 2 32 underlying83 hi2 hz20 hz21 hz22 rfl eo _ _ _ rfl (sO.out.alloc _) (az wr.heap.size 0) 1 1 [ah R,.slice ad' j cp'] rfl rfl ?c1 ?c2 ?c3 ?c4 ?c5 ?_)
      case c1=>exact Bc wr _ _ _
      case c2=>intro u hu;simp at hu;rcases hu with rfl|rfl<;>rfl
      case c3=>unfold maxLen;omega
      case c4=>omega
      case c5=>have:=sL.out.size;simp;omega
      intro v' w6 hown hgrow _;obtain⟨g',cap',rfl⟩:∃g' cap',v'=dD g' (k+1) cap':=by
       rcases hown.2 with⟨_,h⟩|⟨g',cap',_,h,_⟩
       .omega
       exact⟨g',cap',h⟩
      have hnN:some w.heap.size≠(Value.slice ad k cp).ownBlock:=by
       intro e;have:=(sO.out.lt _ e.symm).1;omega
      have KB6:Hid (w6.heap[w.heap.size]?=some (kX s q' bad')):=da hgrow (jx sB.out _) hnN;have KL6:Hid (Below w.heap.size w w6):=(sL.out.alloc (by have:=ch sB.out;omega) _).grown hgrow (by have:=ch sB.out;simp;omega) (λx hx=>by have:=(sO.out.lt _ hx).1;omega);have KO6:Hid (w6.ownsRow (w.heap.size+1) 89 2 (dD g' (k+1) cap') (k+1)<|xs++[ah R,.slice ad' j cp']):=hown;have KX6:Hid (left bad' q' (M.fns s F q'<|F-(k+1))=X):=Fz HX3.out HYY.out;clear hown hgrow sB sF sY sO sL y2 d0 d1 e0 e1 hnN;go_wp2
      go_roundw
      case rel=>exact⟨k+1,q',bad',some<|az g' 0,cap',_,af,hq',iI,rfl,KB6,KL6,KO6,KX6⟩
      case measure=>simp[intOf];omega
  obtain rfl:k=F:=by omega
  have HC:Hid ((q,!bad)=X):=by show _=_;rw[<-rX.out,Nat.sub_self];unfold left;cases bad<;>rfl
  clear rX
  cases bad with
  |true=>
   go_wp2
   go_quiet (fail)
   go_wp2
   go_ret3
   refine⟨?_,below_drewN rL.out _⟩;rw[HX1.out,<-HC.out];rfl
  |false=>
   by_cases hz:q<s.size
   .go_wp2
    go_quiet (fail)
    go_wp2
    go_ret3
    refine⟨?_,below_drewN rL.out _⟩;rw[HX1.out,<-HC.out];rfl
   have:=HN.out;rw[HX1.out,<-HC.out]at this;simp at this;omega
