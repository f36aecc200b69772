import Derived.Test.YtnjiinbhbjpfkaaGreatDoorStpAE
import Derived.Test.YtnjiinbhbjpfkaaGreatDoorStpAA
set_option maxRecDepth 100000
set_option maxHeartbeats 0
set_option linter.all false
namespace Go.Proofs.YtnjiinbhbjpfkaaGreatDoor
open Go.RowKit Go.Proofs.Tryz
section
def J5(s:ByteArray)(p L H:Nat)(bad:Bool)(x q:Nat)(bad':Bool):Prop:=
 (bad'=true/\q=p/\(bad=true\/M.tk s p L H=false))\/(bad'=false/\bad=false/\q=p+1/\x=M.bt s p/\M.tk s p L H=true)
theorem s8(b:Nat)(s:ByteArray)(p L H:Nat)(bad:Bool)(u hi:Int)(w:World)(h:w.heap[b]? = some (jc s p bad))(hs:s.size<=maxLen)(Y:p<=s.size)(y:u=L)(Z:hi=H)(W:L<=H): Calls prog 53 #[.pointer (some ⟨b,0,none⟩),.int .i64 u,.int .i64 hi] w λe w'=>∃(x q:Nat) (i:Bool),e=.returned (.int .i64 x)/\L<=x/\x<=H/\w'.heap[b]? = some (jc s q i)/\w.grownBy w' (some b)/\q<=s.size /\ J5 s p L H bad x q i:=by
 by_cases hb:bad=false/\M.tk s p L H=true
 .obtain⟨rfl,ht⟩:=hb;have h3:=M.fK ht;refine(iN b s p L H u hi w h hs y Z ht).mono ?_;rintro e w' ⟨rfl,G,J⟩;exact⟨M.bt s p,p+1,false,rfl,h3.2.1,h3.2.2,G,J,by omega,ab ⟨rfl,rfl,rfl,rfl,ht⟩⟩
 have o:bad=true\/M.tk s p L H=false:=by
  cases bad with
  | true=>exact ag rfl
  | false=>exact ab (by simpa using hb)
 refine(pA b s p L H bad u hi w h Y y Z o).mono ?_;rintro e w' ⟨rfl,G,J⟩;exact⟨L,p,true,by rw[y],bj _,W,G,J,Y,ag ⟨rfl,rfl,o⟩⟩
theorem mY{w w':World}{o:Obj}(h:(w.alloc o).grownBy w' (some w.heap.size)):Below w.heap.size w w':=
 ⟨h.os,h.tape,h.output,by have:=h.size;simp at this;omega,λk i=>(h.block k (by simp;omega) (by intro e;injection e;omega)).trans (ak _ _ _ i)⟩
theorem jM{w0 w w':World}(h:w.grownBy w' (some w0.heap.size))(o:w0.heap.size<=w.heap.size):Below w0.heap.size w w':=
 ⟨h.os,h.tape,h.output,h.size,λk i=>h.block k (by omega) (by intro e;injection e;omega)⟩
theorem jG{w:World}{k:Nat}{e o:Value}{T:TypeId}(i:w.heap[k]? = some (.cells #[e,o] T (0,0))): k<w.heap.size/\w.cell? ⟨k,0,none⟩=some e/\w.cell? ⟨k,1,none⟩=some o/\w.frozen? ⟨k,0,none⟩=false/\w.frozen? ⟨k,1,none⟩=false:=
 ⟨bz i,by simp[World.cell?,World.frozen?,i]⟩
theorem uP(w:World)(o i:Value)(T:TypeId):∀j u,[o,i][j]? = some u->(w.alloc (.cells #[o,i] T)).cell? ((⟨w.heap.size,0,none⟩:Addr).add j)=some u:=by
 intro j u e;match j,e with
 | 0,e=>simp at e;subst e;simp[Addr.add]
 | 1,e=>simp at e;subst e;simp[Addr.add]
theorem xN(w:World)(o:Obj)(y G H i:Value)(T:TypeId):∀j u,[y,G,H,i][j]? = some u->((w.alloc o).alloc (.cells #[y,G,H,i] T)).cell? ((⟨w.heap.size+1,0,none⟩:Addr).add j)=some u:=by
 intro j u e;match j,e with
 | 0,e=>simp at e;subst e;simp[Addr.add]
 | 1,e=>simp at e;subst e;simp[Addr.add]
 | 2,e=>simp at e;subst e;simp[Addr.add]
 | 3,e=>simp at e;subst e;simp[Addr.add]
theorem wD{w:World}{g:Nat}{e i:Value}{T:TypeId}(h:w.heap[g]? = some (.cells #[e,i] T (0,0)))(v:Value):(w.setCell ⟨g,1,none⟩ v).heap[g]? = some (.cells #[e,v] T (0,0)):=by
 simp[World.setCell,cn,h]
def left(bad:Bool)(q:Nat)(r:Nat×Bool):Nat×Bool:=if bad=true then(q,false) else r
theorem Tryz.Dk:(prog.info? 90).map (λi=>(i.zero,i.size,i.bytes))=some (some (.agg #[.int .i64 0,.int .i64 0,.int .i64 0,.int .i64 0]),4,32):=by kernel_rfl
theorem Tryz.Dl:(prog.info? 89).map (λi=>(i.zero,i.size,i.bytes))=some (some (.agg #[.int .i64 0,.slice none 0 0]),2,32):=by kernel_rfl
def J2(w w':World)(e:Ending)(r:Nat×Bool):Prop:=
 (r.2=false/\e=.returned (.tuple #[.slice none 0 0,.int .i64 (r.1:Int),.bool false])) \/
 (r.2=true/\∃(ad:Addr) (n c:Nat) (r0:Nat),e=.returned (.tuple #[.slice (some ad) n c,.int .i64 0,.bool true])/\1<=n/\2<=r0/\r0<=8/\w'.cell? ad=some (.int .i64 r0)/\ad.spot=none/\ad.off=0/\w.heap.size<=ad.block/\ad.block<w'.heap.size)
theorem EV{s:ByteArray}{q F R L J H:Nat}{e i:Bool}(u:J5 s q 2 8 false R J e)(o:J5 s J 1 200 e L H i): left i H (M.code s R F L H L)=M.fn s q F:=by
 unfold left M.fn;rcases u with⟨rfl,rfl,u⟩|⟨rfl,_,rfl,rfl,u⟩
 .rcases o with⟨rfl,rfl,o⟩|⟨_,h,_⟩
  .rw[aj rfl,aa (by simpa using u)]
  cases h
 rw[aj u];rcases o with⟨rfl,rfl,o⟩|⟨rfl,_,rfl,rfl,o⟩
 .rw[aj rfl,aa (by simpa using o)]
 rw[aj o];simp
theorem xx{s:ByteArray}{F q q' n:Nat}{bad':Bool}{X:Nat×Bool}(h:M.fns s F q (n+1)=X)(hy:M.fn s q F=(q',!bad')):left bad' q' (M.fns s F q' n)=X:=by
 rw[<-h];unfold left
 conv=>rhs;unfold M.fns
 rw[hy]
 cases bad'<;>simp
theorem Bb{s:ByteArray}{R F L q n:Nat}{Y:Nat×Bool}(h:M.code s R F L q (n+1)=Y):left (!(M.ins s q R F L).2) (M.ins s q R F L).1 (M.code s R F L (M.ins s q R F L).1 n)=Y:=by
 rw[<-h];unfold left
 conv=>rhs;unfold M.code
 cases (M.ins s q R F L).2<;>simp
theorem C7{s:ByteArray}{F q:Nat}{bad:Bool}(h:J5 s 0 1 8 false F q bad): ∃X:Nat×Bool,M.jO s=(X.1,X.2 && decide (X.1=s.size))/\left bad q (M.fns s F q F)=X:=by
 rcases h with⟨rfl,rfl,h⟩|⟨rfl,_,rfl,rfl,h⟩
 .exact⟨(0,false),by unfold M.jO;rw[aa (by simpa using h)];rfl,rfl⟩
 exact⟨M.fns s (M.bt s 0) 1 (M.bt s 0),by unfold M.jO;rw[aj h],rfl⟩
def uL(xs:List Value)(k:Nat):Prop:=k=0\/∃r0:Nat,2<=r0/\r0<=8/\xs[0]? = some (.int .i64 r0)
theorem uL.more{xs:List Value}{k R:Nat}{v:Value}(h:uL xs k)(o:2<=R)(u:R<=8)(i:k=0->xs=[]):uL (xs++[.int .i64 R,v]) (k+1):=by
 right
 rcases h with rfl|⟨e,a,b,c⟩
 .rw[i rfl];exact⟨R,o,u,rfl⟩
 refine⟨e,a,b,?_⟩;rw[du]
 .exact c
 exact(bu.1 c).1
theorem pt(s:ByteArray)(w:World)(hs:s.size<=maxLen)(hs2:s.size<=140737488355328): Calls prog 35 #[.string s] w λe w'=>J2 w w' e (M.jO s)/\Below w.heap.size w w':=by
 have HS:Hid (s.size<=maxLen):=hs;clear hs;obtain⟨i1,hi1,hz10,hz11,hz12⟩:=info_parts Tryz.Dk;obtain⟨i2,hi2,hz20,hz21,hz22⟩:=info_parts Tryz.Dl;go_in;go_wp2_with fail
 refine(s8 w.heap.size s 0 1 8 false 1 8 (w.alloc (jc s 0 false)) (bf w _) HS (by omega) rfl rfl (by omega)).mono ?_;rintro e w1 ⟨F,q,bad,rfl,f1,f2,hh,hg,hq,hcase⟩;have KB:Hid (w1.heap[w.heap.size]? = some (jc s q bad)):=hh;have KL:Hid (Below w.heap.size w w1):=mY hg;obtain⟨X,hX1,hX2⟩:=C7 hcase;have HX1:Hid (M.jO s=(X.1,X.2 && decide (X.1=s.size))):=hX1;have HX2:Hid (left bad q (M.fns s F q F)=X):=hX2;clear hh hg hcase hX1 hX2;go_wp2_with fail
 go_loopw [7,8] (λv i wr=>∃(k q:Nat) (bad:Bool) (ad:Option Addr) (cp:Nat) (xs:List Value),k<=F/\q<=s.size/\i=.int .i64 k/\v=.slice ad k cp/\Hid (wr.heap[w.heap.size]? = some (jc s q bad))/\Hid (Below w.heap.size w wr)/\Hid (wr.ownsRow (w.heap.size+1) 89 2 (.slice ad k cp) k xs)/\Hid (uL xs k)/\Hid (left bad q (M.fns s F q (F-k))=X)) (λ_ i _=>F-(intOf i).toNat)
 case atStart=>exact⟨0,q,bad,none,0,[],by omega,hq,rfl,rfl,KB,KL,dJ _ _ _ _,ag rfl,HX2⟩
 case round=>
  clear hq KB KL HX2;obtain⟨k,q,bad,ad,cp,xs,hk,hq,rfl,rfl,rB,rL,rO,rF,rX⟩:=hrel;obtain⟨y0,y1,y2⟩:=fZ rB;by_cases hlt:k<F
  .cases bad with
   | true=>
    have HC:Hid ((q,false)=X):=rX;go_wp2_with fail
    go_quiet (fail)
    go_wp2_with fail
    go_ret3
    refine⟨?_,below_drewN rL _⟩;rw[HX1.out,<-HC.out];exact ag ⟨rfl,rfl⟩
   | false=>
    clear y0 y1 y2;have HX3:Hid (M.fns s F q ((F-(k+1))+1)=X):=by
     show _=_;rw[<-rX.out,show F-k=(F-(k+1))+1 by omega];rfl
    clear rX;have y2:=(fZ rB).2.2;go_wp2_with fail
    refine(s8 w.heap.size s q 2 8 false 2 8 wr rB HS hq rfl rfl (by omega)).mono ?_;rintro e w3 ⟨R,q1,bad1,rfl,a1,a2,hh,hg,hq1,hc1⟩;have KB3:Hid (w3.heap[w.heap.size]? = some (jc s q1 bad1)):=hh;have KL3:Hid (Below w.heap.size w w3):=rL.trans (jM hg rL.size);have hne:(Value.slice ad k cp).ownBlock=none\/(Value.slice ad k cp).ownBlock≠some w.heap.size:=by
     right;intro e;have:=(rO.lt _ e).1;omega
    have KO3:Hid (w3.ownsRow (w.heap.size+1) 89 2 (.slice ad k cp) k xs):=rO.kept hg hne;have HC1:Hid (J5 s q 2 8 false R q1 bad1):=hc1;clear hh hg rB rL rO y2 hc1;have hgN:w.heap.size<w3.heap.size:=bz KB3;have KV:Hid (∀x,(Value.slice ad k cp).ownBlock=some x->x<w3.heap.size):=λx hx=>(KO3.lt x hx).2;go_wp2_with fail
    refine(s8 w.heap.size s q1 1 200 bad1 1 200 (w3.alloc (.cells #[.int .i64 R,.slice none 0 0] 89)) (ga KB3 _) HS hq1 rfl rfl (by omega)).mono ?_;rintro e w4 ⟨L,q2,bad2,rfl,l1,l2,hh,hg,hq2,hc2⟩;have KB4:Hid (w4.heap[w.heap.size]? = some (jc s q2 bad2)):=hh;have KL4:Hid (Below w.heap.size w w4):=(KL3.alloc (by omega) _).trans (jM hg (by simp;omega));have KO4:Hid (w4.ownsRow (w.heap.size+1) 89 2 (.slice ad k cp) k xs):=(KO3.alloc _).kept hg hne;have KF4:Hid (w4.heap[w3.heap.size]? = some (.cells #[.int .i64 R,.slice none 0 0] 89 (0,0))):=cm hg (bf w3 _) (by intro e;injection e;omega);have HY:Hid (left bad2 q2 (M.code s R F L q2 L)=M.fn s q F):=EV HC1 hc2;clear hh hg KB3 KL3 KO3 HC1 hc2 hq1;generalize w3.heap.size=g at *;go_wp2_with fail
    go_loopw [11] (λi wx=>∃(j q':Nat) (bad':Bool) (ad':Option Addr) (cp':Nat) (ys:List Value),j<=L/\q'<=s.size/\i=.int .i64 j/\Hid (wx.heap[w.heap.size]? = some (jc s q' bad'))/\Hid (wx.heap[g]? = some (.cells #[.int .i64 R,.slice ad' j cp'] 89 (0,0)))/\Hid (wx.ownsRow (g+1) 90 4 (.slice ad' j cp') j ys)/\Hid (wx.ownsRow (w.heap.size+1) 89 2 (.slice ad k cp) k xs)/\Hid (Below w.heap.size w wx)/\Hid (left bad' q' (M.code s R F L q' (L-j))=M.fn s q F)) (λi _=>L-(intOf i).toNat)
    case atStart=>exact⟨0,q2,bad2,none,0,[],by omega,hq2,rfl,KB4,KF4,dJ _ _ _ _,KO4,KL4,HY⟩
    case round=>
     clear KB4 KL4 KO4 KF4 HY hq2;obtain⟨j,q',bad',ad',cp',ys,hj,hq',rfl,sB,sF,sY,sO,sL,sC⟩:=hrel;obtain⟨_,_,y2⟩:=fZ sB;obtain⟨_,d0,d1,e0,e1⟩:=jG sF;by_cases hjl:j<L
     .cases bad' with
      | true=>
       have HYY:Hid (M.fn s q F=(q',!true)):=sC.symm;clear sC;go_wp2_with (at_builtin;refine wpList_append_own _ rfl (.tmp 59) (.tmp 61) 83 rfl (w.heap.size+1) 89 i2 _ 2 32 underlying83 hi2 hz20 hz21 hz22 rfl (by decide) _ _ _ rfl (sO.alloc _) ⟨wr.heap.size,0,none⟩ 1 1 [.int .i64 R,.slice ad' j cp'] rfl rfl ?c1 ?c2 ?c3 ?c4 ?c5 ?_)
       case c1=>exact uP wr _ _ _
       case c2=>intro u hu;simp at hu;rcases hu with rfl|rfl<;>rfl
       case c3=>unfold maxLen;omega
       case c4=>omega
       case c5=>have:=sL.size;simp;omega
       intro v' w6 hown hgrow _;obtain⟨g',cap',rfl⟩:∃g' cap',v'=.slice (some ⟨g',0,none⟩) (k+1) cap':=by
        rcases hown.2 with⟨_,h⟩|⟨g',cap',_,h,_⟩
        .omega
        exact⟨g',cap',h⟩
       have hnN:some w.heap.size≠(Value.slice ad k cp).ownBlock:=by
        intro e;have:=(sO.lt _ e.symm).1;omega
       have KB6:Hid (w6.heap[w.heap.size]? = some (jc s q' true)):=cm hgrow (ga sB _) hnN;have KL6:Hid (Below w.heap.size w w6):=(sL.alloc (by have:=bz sB;omega) _).grown hgrow (by have:=bz sB;simp;omega) (λx hx=>by have:=(sO.lt _ hx).1;omega);have KO6:Hid (w6.ownsRow (w.heap.size+1) 89 2 (.slice (some ⟨g',0,none⟩) (k+1) cap') (k+1) (xs++[.int .i64 R,.slice ad' j cp'])):=hown;have KF6:Hid (uL (xs++[.int .i64 R,.slice ad' j cp']) (k+1)):=rF.more a1 a2 (λe=>by have:=sO.1;rw[e]at this;simpa using this);have KX6:Hid (left true q' (M.fns s F q' (F-(k+1)))=X):=xx HX3 HYY;clear hown hgrow sB sF sY sO sL y2 d0 d1 e0 e1 hnN;go_wp2_with fail
       go_roundw
       case rel=>exact⟨k+1,q',true,some ⟨g',0,none⟩,cap',_,by omega,hq',by go_num,rfl,KB6,KL6,KO6,KF6,KX6⟩
       case measure=>simp[intOf];omega
      | false=>
       have HC5:Hid (M.code s R F L q' ((L-(j+1))+1)=M.fn s q F):=by
        show _=_;rw[<-sC.out,show L-j=(L-(j+1))+1 by omega];rfl
       clear sC;go_wp2_with fail
       refine(Bv w.heap.size s q' R F L R F L wr sB HS hs2 hq' rfl rfl rfl (by omega) f1 a2 f2).mono ?_;rintro e w5 ⟨⟨b0,b1,b2,b3,rfl⟩,hh,hg⟩;have hne':(Value.slice ad' j cp').ownBlock=none\/(Value.slice ad' j cp').ownBlock≠some w.heap.size:=by
        right;intro e;have:=(sY.lt _ e).1;omega
       have KB5:Hid (w5.heap[w.heap.size]? = some (jc s ((M.ins s q' R F L).1:Nat) (!(M.ins s q' R F L).2))):=hh;have KF5:Hid (w5.heap[g]? = some (.cells #[.int .i64 R,.slice ad' j cp'] 89 (0,0))):=cm hg sF (by intro e;injection e;omega);have KY5:Hid (w5.ownsRow (g+1) 90 4 (.slice ad' j cp') j ys):=sY.kept hg hne';have KO5:Hid (w5.ownsRow (w.heap.size+1) 89 2 (.slice ad k cp) k xs):=sO.kept hg hne;have KL5:Hid (Below w.heap.size w w5):=sL.trans (jM hg sL.size);have HC6:=Bb HC5;have HC7:Hid (left (!(M.ins s q' R F L).2) (M.ins s q' R F L).1 (M.code s R F L (M.ins s q' R F L).1 (L-(j+1)))=M.fn s q F):=HC6;have hq5:=(M.yO (s:=s) (p:=q') (r:=R) (f:=F) (l:=L) hq').2;clear hh hg sB sF sY sO sL y2 d0 d1 e0 e1 hne' HC5 HC6;generalize (M.ins s q' R F L).1=q5 at *;generalize (!(M.ins s q' R F L).2)=bad5 at *;obtain⟨hz5,d0,d1,e0,e1⟩:=jG KF5;have hz6:g<w5.heap.size+1:=by omega
       go_wp2_with (at_builtin;refine wpList_append_own _ rfl (.tmp 54) (.tmp 56) 87 rfl (g+1) 90 i1 _ 4 32 underlying87 hi1 hz10 hz11 hz12 rfl (by decide) _ _ _ rfl ((KY5.alloc _).alloc _) ⟨w5.heap.size+1,0,none⟩ 1 1 [.int .i64 b0,.int .i64 b1,.int .i64 b2,.int .i64 b3] rfl rfl ?c1 ?c2 ?c3 ?c4 ?c5 ?_)
       case c1=>exact xN w5 _ _ _ _ _ _
       case c2=>intro u hu;simp at hu;rcases hu with rfl|rfl|rfl|rfl<;>rfl
       case c3=>unfold maxLen;omega
       case c4=>omega
       case c5=>simp;omega
       intro v' w6 hown hgrow _;obtain⟨g',cap',rfl⟩:∃g' cap',v'=.slice (some ⟨g',0,none⟩) (j+1) cap':=by
        rcases hown.2 with⟨_,h⟩|⟨g',cap',_,h,_⟩
        .omega
        exact⟨g',cap',h⟩
       have hnN:∀x,x<g+1->some x≠(Value.slice ad' j cp').ownBlock:=by
        intro x hx e;have:=(KY5.lt _ e.symm).1;omega
       have KB6:Hid (w6.heap[w.heap.size]? = some (jc s q5 bad5)):=cm hgrow (ga (ga KB5 _) _) (hnN _ (by omega));have KF6:Hid (w6.heap[g]? = some (.cells #[.int .i64 R,.slice ad' j cp'] 89 (0,0))):=cm hgrow ((ak _ _ _ (by simp;omega)).trans ((ak _ _ _ hz5).trans KF5)) (hnN _ (by omega));have KL6:Hid (Below w.heap.size w w6):=((KL5.alloc (by omega) _).alloc (by simp;omega) _).grown hgrow (by simp;omega) (λx hx=>by have:=(KY5.lt _ hx).1;omega);have KY6:Hid (w6.ownsRow (g+1) 90 4 (.slice (some ⟨g',0,none⟩) (j+1) cap') (j+1) (ys++[.int .i64 b0,.int .i64 b1,.int .i64 b2,.int .i64 b3])):=hown;have KO6:Hid (w6.ownsRow (w.heap.size+1) 89 2 (.slice ad k cp) k xs):=((KO5.alloc _).alloc _).kept hgrow (by cases hv:(Value.slice ad k cp).ownBlock with|none=>exact ag rfl|some x=>exact ab (hnN x (by have:=KV x hv;omega)));clear hown hgrow KB5 KF5 KY5 KO5 KL5 d0 d1 e0 e1;obtain⟨hz7,d0,d1,e0,e1⟩:=jG KF6;go_wp2_with fail
       go_roundw
       case rel=>exact⟨j+1,q5,bad5,some ⟨g',0,none⟩,cap',_,by omega,hq5,by go_num,gL KB6 (by omega),wD KF6 _,ownsRow_setCell_below KY6 (by show g<g+1;omega) _,KO6.kept (bp (ax w6 (some g)) (ag rfl) _) (by right;intro e;have:=KV _ e;omega),KL6.setCell (by show w.heap.size<=g;omega) _,HC7⟩
       case measure=>simp[intOf];omega
     obtain rfl:j=L:=by omega
     have HYY:Hid (M.fn s q F=(q',!bad')):=by show _=_;rw[<-sC.out,Nat.sub_self];unfold left;cases bad'<;>rfl
     clear sC;go_wp2_with (at_builtin;refine wpList_append_own _ rfl (.tmp 59) (.tmp 61) 83 rfl (w.heap.size+1) 89 i2 _ 2 32 underlying83 hi2 hz20 hz21 hz22 rfl (by decide) _ _ _ rfl (sO.out.alloc _) ⟨wr.heap.size,0,none⟩ 1 1 [.int .i64 R,.slice ad' j cp'] rfl rfl ?c1 ?c2 ?c3 ?c4 ?c5 ?_)
     case c1=>exact uP wr _ _ _
     case c2=>intro u hu;simp at hu;rcases hu with rfl|rfl<;>rfl
     case c3=>unfold maxLen;omega
     case c4=>omega
     case c5=>have:=sL.out.size;simp;omega
     intro v' w6 hown hgrow _;obtain⟨g',cap',rfl⟩:∃g' cap',v'=.slice (some ⟨g',0,none⟩) (k+1) cap':=by
      rcases hown.2 with⟨_,h⟩|⟨g',cap',_,h,_⟩
      .omega
      exact⟨g',cap',h⟩
     have hnN:some w.heap.size≠(Value.slice ad k cp).ownBlock:=by
      intro e;have:=(sO.out.lt _ e.symm).1;omega
     have KB6:Hid (w6.heap[w.heap.size]? = some (jc s q' bad')):=cm hgrow (ga sB.out _) hnN;have KL6:Hid (Below w.heap.size w w6):=(sL.out.alloc (by have:=bz sB.out;omega) _).grown hgrow (by have:=bz sB.out;simp;omega) (λx hx=>by have:=(sO.out.lt _ hx).1;omega);have KO6:Hid (w6.ownsRow (w.heap.size+1) 89 2 (.slice (some ⟨g',0,none⟩) (k+1) cap') (k+1) (xs++[.int .i64 R,.slice ad' j cp'])):=hown;have KF6:Hid (uL (xs++[.int .i64 R,.slice ad' j cp']) (k+1)):=rF.out.more a1 a2 (λe=>by have:=sO.out.1;rw[e]at this;simpa using this);have KX6:Hid (left bad' q' (M.fns s F q' (F-(k+1)))=X):=xx HX3.out HYY.out;clear hown hgrow sB sF sY sO sL y2 d0 d1 e0 e1 hnN;go_wp2_with fail
     go_roundw
     case rel=>exact⟨k+1,q',bad',some ⟨g',0,none⟩,cap',_,by omega,hq',by go_num,rfl,KB6,KL6,KO6,KF6,KX6⟩
     case measure=>simp[intOf];omega
  obtain rfl:k=F:=by omega
  have HC:Hid ((q,!bad)=X):=by show _=_;rw[<-rX.out,Nat.sub_self];unfold left;cases bad<;>rfl
  clear rX
  cases bad with
  | true=>
   go_wp2_with fail
   go_quiet (fail)
   go_wp2_with fail
   go_ret3
   refine⟨?_,below_drewN rL.out _⟩;rw[HX1.out,<-HC.out];exact ag ⟨rfl,rfl⟩
  | false=>
   by_cases hz:q<s.size
   .go_wp2_with fail
    go_quiet (fail)
    go_wp2_with fail
    go_ret3
    refine⟨?_,below_drewN rL.out _⟩;rw[HX1.out,<-HC.out];have hne:decide (q=s.size)=false:=by simp;omega
    refine ag ⟨by simpa using hne,rfl⟩
   have heq:Hid (q=s.size):=by show _=_;omega
   go_wp2_with fail
   go_ret3
   refine⟨?_,rL.out⟩;rw[HX1.out,<-HC.out];have hne:decide (q=s.size)=true:=by simpa using heq.out
   refine ab ⟨by simpa using hne,?_⟩;rcases rO.out.2 with⟨_,h0⟩|⟨g,cap,cur,h0,hb0,hg0,_⟩
   .omega
   simp only[Value.slice.injEq]at h0;obtain⟨rfl,_,rfl⟩:=h0;rcases rF.out with h0|⟨r0,ra,rb,rc⟩
   .omega
   refine⟨⟨g,0,none⟩,k,cp,r0,rfl,f1,ra,rb,?_,rfl,rfl,?_,bz hg0⟩
   .rw[rO.out.cellAt 0 (by omega)];exact rc
   show w.heap.size<=g;omega
end
namespace D
open F
def vJ(s:ByteArray)(cbs ccs:Nat->Nat)(j:Nat):Value:=if j % 2=0 then .int .i64 (M.bt s (M.pos s (j / 2)):Int) else .slice (some ⟨cbs (j / 2),0,none⟩) (M.bt s (M.pos s (j / 2)+1)) (ccs (j / 2))
def Be(s:ByteArray)(k j:Nat):Value:=.int .i64 (M.bt s (M.pos s k+2+j):Int)
def Ea(s:ByteArray)(base:Nat)(w:World)(k:Nat)(cbs ccs:Nat->Nat):Prop:=
 ∀i,i<k->w.ownsRow base 90 4 (.slice (some ⟨cbs i,0,none⟩) (M.bt s (M.pos s i+1)) (ccs i)) (M.bt s (M.pos s i+1)) (rowP (M.bt s (M.pos s i+1)*4) (Be s i))/\∀j,j<i->cbs j<cbs i
theorem gw{w:World}{b u n m:Nat}{e:TypeId}{v:Value}{xs:List Value}(h:w.ownsRow b e n v m xs)(y:u<=b):w.ownsRow u e n v m xs:=by
 refine⟨h.1,?_⟩;rcases h.2 with o|⟨g,cap,i,o,H,G⟩
 .exact ag o
 exact ab ⟨g,cap,i,o,dH y H,G⟩
theorem Ea.of{s:ByteArray}{e k:Nat}{w w':World}{cbs ccs:Nat->Nat}(h:Ea s e w k cbs ccs)(o:∀i,i<k->w'.heap[cbs i]? = w.heap[cbs i]?):Ea s e w' k cbs ccs:=λi hi=>⟨dD (h i hi).1 (λx u=>by
 have:x=cbs i:=by simpa[Value.ownBlock] using u.symm
 rw[this];exact o i hi),(h i hi).2⟩
theorem Ea.lt{s:ByteArray}{e k:Nat}{w:World}{cbs ccs:Nat->Nat}(h:Ea s e w k cbs ccs){i:Nat}(hi:i<k):e<=cbs i/\cbs i<w.heap.size:=(h i hi).1.lt _ rfl
theorem yB(n:Nat)(P:Nat->Value)(a b:Value)(i:P (n*2)=a)(e:P (n*2+1)=b):rowP (n*2) P++[a,b]=rowP ((n+1)*2) P:=by
 unfold rowP;rw[show(n+1)*2=n*2+1+1 by omega,eA,eA,eP,eP,<-i,<-e];simp
theorem yA(n:Nat)(P:Nat->Value):rowP (n*4) P++[P (n*4),P (n*4+1),P (n*4+2),P (n*4+3)]=rowP ((n+1)*4) P:=by
 unfold rowP;rw[show(n+1)*4=n*4+1+1+1+1 by omega,eA,eA,eA,eA];simp
theorem vk{s:ByteArray}(h:(M.jO s).2=true):M.tk s 0 1 8=true/\M.pos s (M.bt s 0)=s.size:=by
 obtain⟨n1,n2,J⟩:=nJ h;unfold M.jO at h;by_cases e:M.tk s 0 1 8=true
 .rw[aj e]at h;have y:((M.fns s (M.bt s 0) 1 (M.bt s 0)).2 && decide ((M.fns s (M.bt s 0) 1 (M.bt s 0)).1=s.size))=true:=h;rw[Bool.and_eq_true]at y;have i:∀n k0,(∀k,k<n->(M.fn s (M.pos s (k0+k)) (M.bt s 0)).2=true)->(M.fns s (M.bt s 0) (M.pos s k0) n).1=M.pos s (k0+n):=by
   intro n;induction n with
   | zero=>intro k0 _;rfl
   | succ n W=>
    intro k0 G;have o:=G 0 (by omega);rw[Nat.add_zero]at o;have Z:(M.fn s (M.pos s k0) (M.bt s 0)).1=M.pos s (k0+1):=(M.tw o).1;unfold M.fns;rw[aj o,Z,W (k0+1) (λk u=>by rw[show k0+1+k=k0+(k+1) by omega];exact G (k+1) (by omega))];rw[show k0+1+n=k0+(n+1) by omega]
  have H:=i (M.bt s 0) 0 (λk u=>by rw[Nat.zero_add];exact J k u);rw[Nat.zero_add]at H;exact⟨e,H.symm.trans (dO y.2)⟩
 rw[aa e]at h;cases h
theorem pK{s:ByteArray}{p f:Nat}(h:(M.fn s p f).2=true):M.tk s p 2 8=true/\M.tk s (p+1) 1 200=true/\∀i,i<M.bt s (p+1)->(M.ins s (p+2+4*i) (M.bt s p) f (M.bt s (p+1))).2=true:=by
 unfold M.fn at h;by_cases o:M.tk s p 2 8=true
 .rw[aj o]at h;by_cases e:M.tk s (p+1) 1 200=true
  .rw[aj e]at h;exact⟨o,e,λi hi=>vM _ _ h i hi⟩
  rw[aa e]at h;cases h
 rw[aa o]at h;cases h
def LF(s:ByteArray)(w w':World)(e:Ending):Prop:=∃gb cp cbs ccs,e=.returned (.tuple #[.slice (some ⟨gb,0,none⟩) (M.bt s 0) cp,.int .i64 0,.bool true])/\w'.ownsRow (w.heap.size+1) 89 2 (.slice (some ⟨gb,0,none⟩) (M.bt s 0) cp) (M.bt s 0) (rowP (M.bt s 0*2) (vJ s cbs ccs))/\Ea s (w.heap.size+1) w' (M.bt s 0) cbs ccs/\Below w.heap.size w w'
theorem pr(s:ByteArray)(w:World)(hs:s.size<=maxLen)(hs2:s.size<=140737488355328)(hok:(M.jO s).2=true): Calls prog 35 #[.string s] w λe w'=>LF s w w' e:=by
 have HS:=az hs;obtain⟨n1,n2,hfn⟩:=nJ hok;obtain⟨t0,hend⟩:=vk hok;have HT0:=az t0;have HFN:=az hfn;have HEN:=az hend;clear hs hok hfn t0 hend;obtain⟨i1,hi1,hz10,hz11,hz12⟩:=info_parts Tryz.Dk;obtain⟨i2,hi2,hz20,hz21,hz22⟩:=info_parts Tryz.Dl;generalize hF:M.bt s 0=F at *;have HF:=az hF;go_in;go_wp2_with fail
 refine(iN w.heap.size s 0 1 8 1 8 (w.alloc (jc s 0 false)) (bf w _) HS rfl rfl HT0).mono ?_;rintro e w1 ⟨rfl,hh,hg⟩;rw[hF];clear hF;have KB:Hid (w1.heap[w.heap.size]? = some (jc s ((M.pos s 0:Nat):Int) false)):=hh;have KL:=az (mY hg);clear hh hg;go_wp2_with fail
 go_loopw [7,8] (λv i wr=>∃(k:Nat) (ad:Option Addr) (cp:Nat) (cbs ccs:Nat->Nat),k<=F/\i=.int .i64 k/\v=.slice ad k cp/\Hid (wr.heap[w.heap.size]? = some (jc s ((M.pos s k:Nat):Int) false))/\Hid (Below w.heap.size w wr)/\Hid (wr.ownsRow (w.heap.size+1) 89 2 (.slice ad k cp) k (rowP (k*2) (vJ s cbs ccs)))/\Hid (Ea s (w.heap.size+1) wr k cbs ccs)) (λ_ i _=>F-(intOf i).toNat)
 case atStart=>exact⟨0,none,0,λ_=>0,λ_=>0,by omega,rfl,rfl,KB,KL,dJ _ _ _ _,(λi hi=>by omega)⟩
 case round=>
  clear KB KL;obtain⟨k,ad,cp,cbs,ccs,hk,rfl,rfl,rB,rL,rO,rC⟩:=hrel;by_cases hlt:k<F
  .obtain⟨f1,f2,f3⟩:=pK (HFN k hlt);obtain⟨_,a1,a2⟩:=M.fK f1;obtain⟨_,l1,l2⟩:=M.fK f2;have HF1:=az f1;have HF2:=az f2;have HF3:=az f3;clear f1 f2 f3;have y2:=(fZ rB).2.2;generalize hR:M.bt s (M.pos s k)=R at *;generalize hL:M.bt s (M.pos s k+1)=L at *;have HRL:=az (ay hR hL);clear hR hL;go_wp2_with fail
   refine(iN w.heap.size s (M.pos s k) 2 8 2 8 wr rB HS rfl rfl HF1).mono ?_;rintro e w3 ⟨rfl,hh,hg⟩;rw[HRL.1];have KB3:=az hh;have KL3:=az (rL.trans (jM hg rL.size));have hne:(Value.slice ad k cp).ownBlock=none\/(Value.slice ad k cp).ownBlock≠some w.heap.size:=by
    right;intro e;have:=(rO.lt _ e).1;omega
   have KO3:=az (rO.kept hg hne);have KC3:=az (rC.of (λi hi=>hg.block _ (rC.lt hi).2 (by intro e;injection e with e;have:=(rC.lt hi).1;omega)));clear hh hg rB rL rO rC y2;have hgN:=bz KB3;have KV:=az (λx hx=>(KO3.lt x hx).2);have KV2:Hid (∀i,i<k->w.heap.size+1<=cbs i/\cbs i<w3.heap.size):=λi hi=>KC3.lt hi;go_wp2_with fail
   refine(iN w.heap.size s (M.pos s k+1) 1 200 1 200 (w3.alloc (.cells #[.int .i64 R,.slice none 0 0] 89)) (ga KB3 _) HS rfl rfl HF2).mono ?_;rintro e w4 ⟨rfl,hh,hg⟩;rw[HRL.2];have KB4:Hid (w4.heap[w.heap.size]? = some (jc s ((M.pos s k+2+4*0:Nat):Int) false)):=hh;have KL4:=az ((KL3.alloc (by omega) _).trans (jM hg (by simp;omega)));have KO4:=az ((KO3.alloc _).kept hg hne);have KC4:=az (KC3.of (λi hi=>(hg.block _ (by simp;have:=(KV2 i hi).2;omega) (by intro e;injection e with e;have:=(KV2 i hi).1;omega)).trans (ak _ _ _ (KV2 i hi).2)));have KF4:=az (cm hg (bf w3 _) (by intro e;injection e;omega));clear hh hg KB3 KL3 KO3 KC3;generalize w3.heap.size=g at *;go_wp2_with fail
   go_loopw [11] (λi wx=>∃(j:Nat) (ad':Option Addr) (cp':Nat),j<=L/\i=.int .i64 j/\Hid (wx.heap[w.heap.size]? = some (jc s ((M.pos s k+2+4*j:Nat):Int) false))/\Hid (wx.heap[g]? = some (.cells #[.int .i64 R,.slice ad' j cp'] 89 (0,0)))/\Hid (wx.ownsRow (g+1) 90 4 (.slice ad' j cp') j (rowP (j*4) (Be s k)))/\Hid (wx.ownsRow (w.heap.size+1) 89 2 (.slice ad k cp) k (rowP (k*2) (vJ s cbs ccs)))/\Hid (Ea s (w.heap.size+1) wx k cbs ccs)/\Hid (Below w.heap.size w wx)) (λi _=>L-(intOf i).toNat)
   case atStart=>exact⟨0,none,0,by omega,rfl,KB4,KF4,dJ _ _ _ _,KO4,KC4,KL4⟩
   case round=>
    clear KB4 KL4 KO4 KF4 KC4;obtain⟨j,ad',cp',hj,rfl,sB,sF,sY,sO,sC,sL⟩:=hrel;obtain⟨y0,y1,y2⟩:=fZ sB;obtain⟨_,d0,d1,e0,e1⟩:=jG sF;by_cases hjl:j<L
    .have HIK:Hid ((M.ins s (M.pos s k+2+4*j) R F L).2=true):=HF3 j hjl;go_wp2_with fail
     refine(DM w.heap.size s (M.pos s k+2+4*j) R F L R F L wr sB HS hs2 rfl rfl rfl (by omega) n1 a2 n2 HIK).mono ?_;rintro e w5 ⟨rfl,hh,hg⟩;have hne':(Value.slice ad' j cp').ownBlock=none\/(Value.slice ad' j cp').ownBlock≠some w.heap.size:=by
      right;intro e;have:=(sY.lt _ e).1;omega
     have KB5:Hid (w5.heap[w.heap.size]? = some (jc s ((M.pos s k+2+4*(j+1):Nat):Int) false)):=hh;have KF5:=az (cm hg sF (by intro e;injection e;omega));have KY5:=az (sY.kept hg hne');have KO5:=az (sO.kept hg hne);have KC5:=az (sC.of (λi hi=>hg.block _ (sC.lt hi).2 (by intro e;injection e with e;have:=(sC.lt hi).1;omega)));have KL5:=az (sL.trans (jM hg sL.size));have HB4:Hid (Be s k (j*4)=.int .i64 (M.bt s (M.pos s k+2+4*j):Int)/\Be s k (j*4+1)=.int .i64 (M.bt s (M.pos s k+2+4*j+1):Int)/\Be s k (j*4+2)=.int .i64 (M.bt s (M.pos s k+2+4*j+2):Int)/\Be s k (j*4+3)=.int .i64 (M.bt s (M.pos s k+2+4*j+3):Int)):=by
      unfold Be;rw[show M.pos s k+2+(j*4)=M.pos s k+2+4*j by omega,show M.pos s k+2+(j*4+1)=M.pos s k+2+4*j+1 by omega,show M.pos s k+2+(j*4+2)=M.pos s k+2+4*j+2 by omega,show M.pos s k+2+(j*4+3)=M.pos s k+2+4*j+3 by omega];exact⟨rfl,rfl,rfl,rfl⟩
     clear hh hg sB sF sY sO sL sC y2 d0 d1 e0 e1 hne';generalize M.bt s (M.pos s k+2+4*j)=b0 at *;generalize M.bt s (M.pos s k+2+4*j+1)=b1 at *;generalize M.bt s (M.pos s k+2+4*j+2)=b2 at *;generalize M.bt s (M.pos s k+2+4*j+3)=b3 at *;obtain⟨hz5,d0,d1,e0,e1⟩:=jG KF5;have hz6:g<w5.heap.size+1:=by omega
     go_wp2_with (at_builtin;refine wpList_append_own _ rfl (.tmp 54) (.tmp 56) 87 rfl (g+1) 90 i1 _ 4 32 underlying87 hi1 hz10 hz11 hz12 rfl (by decide) _ _ _ rfl ((KY5.alloc _).alloc _) ⟨w5.heap.size+1,0,none⟩ 1 1 [.int .i64 b0,.int .i64 b1,.int .i64 b2,.int .i64 b3] rfl rfl ?c1 ?c2 ?c3 ?c4 ?c5 ?_)
     case c1=>exact xN w5 _ _ _ _ _ _
     case c2=>intro u hu;simp at hu;rcases hu with rfl|rfl|rfl|rfl<;>rfl
     case c3=>unfold maxLen;omega
     case c4=>omega
     case c5=>simp;omega
     intro v' w6 hown hgrow _;obtain⟨g',cap',rfl⟩:∃g' cap',v'=.slice (some ⟨g',0,none⟩) (j+1) cap':=by
      rcases hown.2 with⟨_,h⟩|⟨g',cap',_,h,_⟩
      .omega
      exact⟨g',cap',h⟩
     have hnN:∀x,x<g+1->some x≠(Value.slice ad' j cp').ownBlock:=by
      intro x hx e;have:=(KY5.lt _ e.symm).1;omega
     have KB6:=az (cm hgrow (ga (ga KB5 _) _) (hnN _ (by omega)));have KF6:=az (cm hgrow ((ak _ _ _ (by simp;omega)).trans ((ak _ _ _ hz5).trans KF5)) (hnN _ (by omega)));have KL6:=az (((KL5.alloc (by omega) _).alloc (by simp;omega) _).grown hgrow (by simp;omega) (λx hx=>by have:=(KY5.lt _ hx).1;omega));have KY6:Hid (w6.ownsRow (g+1) 90 4 (.slice (some ⟨g',0,none⟩) (j+1) cap') (j+1) (rowP ((j+1)*4) (Be s k))):=by
      have h9:=hown;rw[<-yA,HB4.1,HB4.2.1,HB4.2.2.1,HB4.2.2.2];exact h9
     have KO6:=az (((KO5.alloc _).alloc _).kept hgrow (by cases hv:(Value.slice ad k cp).ownBlock with|none=>exact ag rfl|some x=>exact ab (hnN x (by have:=KV x hv;omega))));have KC6:Hid (Ea s (w.heap.size+1) w6 k cbs ccs):=KC5.of (λi hi=>by
      have h7:=(KV2 i hi).2;rw[hgrow.block _ (by simp;omega) (hnN _ (by omega)),ak _ _ _ (by simp;omega),ak _ _ _ (by omega)])
     clear hown hgrow KB5 KF5 KY5 KO5 KL5 KC5 d0 d1 e0 e1 HB4;obtain⟨hz7,d0,d1,e0,e1⟩:=jG KF6;go_wp2_with fail
     go_roundw
     case rel=>exact⟨j+1,some ⟨g',0,none⟩,cap',by omega,by go_num,gL KB6 (by omega),wD KF6 _,ownsRow_setCell_below KY6 (by show g<g+1;omega) _,KO6.kept (bp (ax w6 (some g)) (ag rfl) _) (by right;intro e;have:=KV _ e;omega),KC6.of (λi hi=>af _ _ _ _ (by show cbs i≠g;have:=(KV2 i hi).2;omega)),KL6.setCell (by show w.heap.size<=g;omega) _⟩
     case measure=>simp[intOf];omega
    obtain rfl:j=L:=by omega
    go_wp2_with (at_builtin;refine wpList_append_own _ rfl (.tmp 59) (.tmp 61) 83 rfl (w.heap.size+1) 89 i2 _ 2 32 underlying83 hi2 hz20 hz21 hz22 rfl (by decide) _ _ _ rfl (sO.alloc _) ⟨wr.heap.size,0,none⟩ 1 1 [.int .i64 R,.slice ad' j cp'] rfl rfl ?c1 ?c2 ?c3 ?c4 ?c5 ?_)
    case c1=>exact uP wr _ _ _
    case c2=>intro u hu;simp at hu;rcases hu with rfl|rfl<;>rfl
    case c3=>unfold maxLen;omega
    case c4=>omega
    case c5=>have:=sL.size;simp;omega
    intro v' w6 hown hgrow _;obtain⟨g',cap',rfl⟩:∃g' cap',v'=.slice (some ⟨g',0,none⟩) (k+1) cap':=by
     rcases hown.2 with⟨_,h⟩|⟨g',cap',_,h,_⟩
     .omega
     exact⟨g',cap',h⟩
    obtain⟨gb,rfl⟩:∃gb,ad'=some ⟨gb,0,none⟩:=by
     rcases sY.2 with⟨_,h⟩|⟨g2,cap2,_,h,_⟩
     .omega
     injection h with h _ _;exact⟨g2,h⟩
    have hnN:some w.heap.size≠(Value.slice ad k cp).ownBlock:=by
     intro e;have:=(sO.lt _ e.symm).1;omega
    have hgb:=sY.lt gb rfl;have KB6:Hid (w6.heap[w.heap.size]? = some (jc s ((M.pos s (k+1):Nat):Int) false)):=by
     have h9:=cm hgrow (ga sB (.cells #[.int .i64 R,.slice (some ⟨gb,0,none⟩) j cp'] 89)) hnN;have e9:M.pos s (k+1)=M.pos s k+2+4*j:=by
      show M.pos s k+2+4*M.bt s (M.pos s k+1)=_;rw[HRL.2]
     rw[e9];exact h9
    have KL6:=az ((sL.alloc (by have:=bz sB;omega) _).grown hgrow (by have:=bz sB;simp;omega) (λx hx=>by have:=(sO.lt _ hx).1;omega));have KC6:Hid (Ea s (w.heap.size+1) w6 (k+1) (λi=>if i=k then gb else cbs i) (λi=>if i=k then cp' else ccs i)):=λi hi=>by
     have hblk:∀x,x<wr.heap.size->(∀y,(Value.slice ad k cp).ownBlock=some y->y≠x)->w6.heap[x]? = wr.heap[x]?:=λx hx hy=>by
      rw[hgrow.block _ (by simp;omega) (λe=>hy x e.symm rfl),ak _ _ _ hx]
     have hty:∀y,(Value.slice ad k cp).ownBlock=some y->∃cur,wr.heap[y]? = some (.cells cur 89 (0,0)):=λy hy=>by
      obtain⟨_,_,cur,h1⟩:=dA sO y hy;exact⟨cur,h1⟩
     by_cases e:i=k
     .subst e;simp only[aj];rw[HRL.2];refine⟨dD (gw sY (by omega)) (λx hx=>?_),λj' hj'=>?_⟩
      .have hx':x=gb:=by simpa[Value.ownBlock] using hx.symm
       rw[hx'];refine hblk gb hgb.2 (λy hy hyx=>?_);have:=KV y hy;omega
      rw[aa (by omega)];have:=(KV2 j' hj').2;omega
     have hik:i<k:=by omega
     simp only[aa e];obtain⟨c1,c2⟩:=sC i hik;refine⟨dD c1 (λx hx=>?_),λj' hj'=>?_⟩
     .have hx':x=cbs i:=by simpa[Value.ownBlock] using hx.symm
      rw[hx'];refine hblk _ (sC.lt hik).2 (λy hy hyx=>?_);obtain⟨cur,h1⟩:=hty y hy;obtain⟨_,_,cur2,h2⟩:=dA c1 (cbs i) rfl;rw[hyx,h2]at h1;injection h1 with h1;injection h1 with _ h1 _;exact ch h1 (by decide)
     rw[aa (by omega)];exact c2 j' hj'
    have KO6:Hid (w6.ownsRow (w.heap.size+1) 89 2 (.slice (some ⟨g',0,none⟩) (k+1) cap') (k+1) (rowP ((k+1)*2) (vJ s (λi=>if i=k then gb else cbs i) (λi=>if i=k then cp' else ccs i)))):=by
     have h9:=hown;rw[<-yB k _ (.int .i64 R) (.slice (some ⟨gb,0,none⟩) j cp') (by
      unfold vJ;rw[aj (by omega),show k*2 / 2=k by omega,HRL.1]) (by
      unfold vJ;rw[aa (by omega),show(k*2+1) / 2=k by omega];show Value.slice (some ⟨if k=k then gb else cbs k,0,none⟩) (M.bt s (M.pos s k+1)) (if k=k then cp' else ccs k)=_;rw[aj rfl,aj rfl,HRL.2])]
     have e9:rowP (k*2) (vJ s (λi=>if i=k then gb else cbs i) (λi=>if i=k then cp' else ccs i))=rowP (k*2) (vJ s cbs ccs):=by
      unfold rowP;refine List.map_congr_left (λx hx=>?_);have hx':=eJ.1 hx;show(if x % 2=0 then _ else Value.slice (some ⟨if x / 2=k then gb else cbs (x / 2),0,none⟩) (M.bt s (M.pos s (x / 2)+1)) (if x / 2=k then cp' else ccs (x / 2)))=_;rw[aa (show ¬x / 2=k by omega),aa (show ¬x / 2=k by omega)];rfl
     rw[e9];exact h9
    clear hown hgrow sB sF sY sO sL sC y2 d0 d1 e0 e1 hnN;go_wp2_with fail
    go_roundw
    case rel=>exact⟨k+1,some ⟨g',0,none⟩,cap',_,_,by omega,by go_num,rfl,KB6,KL6,KO6,KC6⟩
    case measure=>simp[intOf];omega
  obtain rfl:k=F:=by omega
  obtain⟨y0,y1,y2⟩:=fZ rB;have hpe:=HEN.out;rw[hpe]at y1;obtain⟨gb,rfl⟩:∃gb,ad=some ⟨gb,0,none⟩:=by
   rcases rO.2 with⟨_,h⟩|⟨g2,cap2,_,h,_⟩
   .omega
   injection h with h _ _;exact⟨g2,h⟩
  clear hpe;have g1:decide ((s.size:Int)<s.size)=false:=by simp
  go_wp2_with fail
  go_ret3
  rw[<-HF.out]at rO rC ⊢;exact⟨gb,cp,cbs,ccs,rfl,rO,rC,rL⟩
end D
namespace D
open F
def xu:Dm:=⟨0,λ_=>⟨[],5,0,0,0,0,(0,0)⟩,[],λ_=>[],0,λ_=>[],λ_=>0,0,false,[],0,⟨0,false,0,0,0,0,0,false⟩⟩
def IB(mb:Nat):Dg:=⟨mb,λ_ _=>(none,0),λ_ _=>0,λ_=>0⟩
section
variable (s : ByteArray) (n q wk t gb gc : Nat) (cbs ccs : Nat → Nat)
def BN:Dp:=⟨n,q,wk,t,M.bt s 0,gb,gc,cbs,ccs,λk=>M.bt s (M.pos s k+1),λk=>M.bt s (M.pos s k),λk i=>pH s (M.pos s k+2+4*i)⟩
theorem Hr(f j:Nat):Ec (BN s n q wk t gb gc cbs ccs) f j=Be s f j:=by
 unfold Ec Be;show Value.int .i64 ((if j % 4=0 then M.bt s (M.pos s f+2+4*(j / 4)) else if j % 4=1 then M.bt s (M.pos s f+2+4*(j / 4)+1) else if j % 4=2 then M.bt s (M.pos s f+2+4*(j / 4)+2) else M.bt s (M.pos s f+2+4*(j / 4)+3):Nat):Int)=_;congr 2
 by_cases i:j % 4=0
 .rw[aj i];congr 1;omega
 rw[aa i];by_cases o:j % 4=1
 .rw[aj o];congr 1;omega
 rw[aa o];by_cases e:j % 4=2
 .rw[aj e];congr 1;omega
 rw[aa e];congr 1;omega
variable {s n q wk t gb gc cbs ccs}
theorem Ig{mb x y z k:Nat}(h:(ob (BN s n q wk t gb gc cbs ccs) xu (IB mb) x y z).bs k):(x=0/\y=0/\z=0/\k=mb)\/(x=8/\y=0/\z=0/\k=gb)\/(x=9/\z=0/\y<M.bt s 0/\k=cbs y):=by
 by_cases e:vd (BN s n q wk t gb gc cbs ccs) xu x y z=true
 .rw[fP e]at h;have H:=kG e;have G:x=0\/x=1\/x=2\/x=3\/x=4\/x=5\/x=6\/x=7\/x=8\/x=9\/x=10:=by omega
  rcases G with rfl|rfl|rfl|rfl|rfl|rfl|rfl|rfl|rfl|rfl|rfl
  .obtain⟨rfl,rfl⟩:=jC e (by omega);exact ag ⟨rfl,rfl,rfl,h⟩
  .cases h
  .cases h
  .cases h
  .cases h
  .have:=uh e;have u:y<=0:=this.2.1;omega
  .have:=wv e;have u:y<=0:=this.2.1;omega
  .have:=zl e;have u:y<=0:=this.2.1;omega
  .obtain⟨rfl,rfl⟩:=jC e (by omega);refine ab (ag ⟨rfl,rfl,rfl,?_⟩);have i:some gb=some k:=h;injection i with i;exact i.symm
  .have o:y<M.bt s 0/\z=0:=by
    unfold vd at e;rw[aa (by omega),aa (by omega),aa (by omega),aa (by omega),aj rfl]at e;exact dO e
   refine ab (ab ⟨rfl,o.2,o.1,?_⟩);have i:some (cbs y)=some k:=h;injection i with i;exact i.symm
  cases h
 rw[zP e]at h;exact h.elim
theorem Jb{mb b:Nat}{w:World}(hE:Full w mb 112 24 24 (mE (BN s n q wk t gb gc cbs ccs) xu (IB mb)))(hF:w.ownsRow b 89 2 (.slice (some ⟨gb,0,none⟩) (M.bt s 0) gc) (M.bt s 0) (rowP (M.bt s 0*2) (vJ s cbs ccs)))(Y:Ea s b w (M.bt s 0) cbs ccs):dQ (BN s n q wk t gb gc cbs ccs) xu (IB mb) w:=by
 refine⟨λx y z=>?_,λx y z x' y' z' k hk a0=>?_⟩
 .by_cases o:vd (BN s n q wk t gb gc cbs ccs) xu x y z=true
  .rw[fP o];have a1:=kG o;have hc:x=0\/x=1\/x=2\/x=3\/x=4\/x=5\/x=6\/x=7\/x=8\/x=9\/x=10:=by omega
   rcases hc with rfl|rfl|rfl|rfl|rfl|rfl|rfl|rfl|rfl|rfl|rfl
   .exact hE
   .exact dJ _ _ _ _
   .exact fM.nil _ _
   .exact dJ _ _ _ _
   .exact dJ _ _ _ _
   .have:=uh o;have J:y<=0:=this.2.1;omega
   .have:=wv o;have J:y<=0:=this.2.1;omega
   .have:=zl o;have J:y<=0:=this.2.1;omega
   .exact gw hF (dc _)
   .have H:y<M.bt s 0/\z=0:=by
     unfold vd at o;rw[aa (by omega),aa (by omega),aa (by omega),aa (by omega),aj rfl]at o;exact dO o
    have h9:=gw (Y y H.1).1 (dc _);have e9:rowP (M.bt s (M.pos s y+1)*4) (Be s y)=rowP (M.bt s (M.pos s y+1)*4) (Ec (BN s n q wk t gb gc cbs ccs) y):=by
     unfold rowP;exact List.map_congr_left (λj _=>(Hr s n q wk t gb gc cbs ccs y j).symm)
    rw[e9]at h9;exact h9
   exact fM.nil _ _
  rw[zP o];trivial
 have u:∃i,w.heap[mb]? = some (.cells i 112 (0,0)):=by
  obtain⟨i,h1,_⟩:=hE;exact⟨i,h1⟩
 have W:=(dA hF gb rfl).2.2;have Z:=λy H=>(dA (Y y H).1 (cbs y) rfl).2.2;have two:∀{a:Nat} {S T:TypeId},(∃i,w.heap[a]? = some (.cells i S (0,0)))->(∃i,w.heap[a]? = some (.cells i T (0,0)))->S=T:=by
  rintro a S T ⟨c1,h1⟩ ⟨c2,J⟩;rw[h1]at J;injection J with J;injection J
 rcases Ig hk with⟨rfl,rfl,rfl,rfl⟩|⟨rfl,rfl,rfl,rfl⟩|⟨rfl,rfl,H,rfl⟩<;>rcases Ig a0 with⟨rfl,rfl,rfl,e⟩|⟨rfl,rfl,rfl,e⟩|⟨rfl,rfl,G,e⟩
 .exact⟨rfl,rfl,rfl⟩
 .rw[e]at u;exact ch (two u W) (by decide)
 .rw[e]at u;exact ch (two u (Z _ G)) (by decide)
 .rw[<-e]at u;exact ch (two u W) (by decide)
 .exact⟨rfl,rfl,rfl⟩
 .rw[e]at W;exact ch (two W (Z _ G)) (by decide)
 .rw[<-e]at u;exact ch (two u (Z _ H)) (by decide)
 .rw[<-e]at W;exact ch (two W (Z _ H)) (by decide)
 have:y=y':=by
  rcases Nat.lt_trichotomy y y' with h|h|h
  .have:=(Y y' G).2 y h;omega
  .exact h
  have:=(Y y H).2 y' h;omega
 exact⟨rfl,this,rfl⟩
end
structure L5(d:Dp) (s:ByteArray) (n q wk t:Nat):Prop where
 n:d.n=n
 qn:d.qn=q
 wk:d.wk=wk
 mt:d.mt=t
 nf:d.nf=M.bt s 0
 rg:∀k,d.rg k=M.bt s (M.pos s k)
 len:∀k,d.len k=M.bt s (M.pos s k+1)
 ins:∀k i,d.ins k i=pH s (M.pos s k+2+4*i)
def Mu(s:ByteArray)(n q wk t:Nat)(w:World)(e:Ending)(w':World):Prop:=Below w.heap.size w w'/\∃d g,e=.returned (.tuple #[P0 g.mb,.agg #[.int .i64 0,.int .i64 0]])/\L5 d s n q wk t/\dQ d (xu.born 0 (0,0) (0,0)) g w'/\∀k,ey d (xu.born 0 (0,0) (0,0)) g k->w.heap.size<=k
theorem Jg(s:ByteArray)(c0 c1 J G:Nat)(w:World)(hs:s.size<=maxLen)(aE:s.size<=140737488355328)(g0:1<=c0)(g1:c0<=200)(g2:1<=c1)(g3:c1<=50)(g4:1<=J)(g5:J<=50)(g6:1<=G)(g7:G<=16)(aA:(M.jO s).2=true): Calls prog 31 #[.string s,.agg #[.int .i64 c0,.int .i64 c1,.int .i64 J,.int .i64 G]] w λe w'=>Mu s c0 c1 J G w e w':=by
 have HS:Hid (s.size<=maxLen):=hs;have a5:=az aA;have b0:decide ((c0:Int)<1)=false:=by simp;omega
 have b1:decide (200<(c0:Int))=false:=by simp;omega
 have b2:decide ((c1:Int)<1)=false:=by simp;omega
 have b3:decide (50<(c1:Int))=false:=by simp;omega
 have b4:decide ((J:Int)<1)=false:=by simp;omega
 have b5:decide (50<(J:Int))=false:=by simp;omega
 have b6:decide ((G:Int)<1)=false:=by simp;omega
 have b7:decide (16<(G:Int))=false:=by simp;omega
 clear hs aA;go_in;go_wp2_with fail
 refine(pr s _ HS aE a5).mono ?_;rintro e w1 ⟨gb,cp,cbs,ccs,rfl,hR,hC,hB⟩;obtain⟨hc,hf⟩:=qL hB;have hz:=hB.size;simp at hz;have H:=az ((((eM _ _).alloc (bj _) _).alloc (by simp) _).trans (hB.mono (by simp;omega)));have KR:=az hR;have KC:=az hC;have d0:w1.cell? ⟨w.heap.size+1,0,none⟩=some (.int .i64 0):=by rw[hc _ _ (by simp)];simp[go_sem]
 have d1:w1.cell? ⟨w.heap.size+1,1,none⟩=some (.int .i64 0):=by rw[hc _ _ (by simp)];simp[go_sem]
 have e0:w1.frozen? ⟨w.heap.size+1,0,none⟩=false:=by rw[hf _ _ (by simp)];simp[go_sem]
 have e1:w1.frozen? ⟨w.heap.size+1,1,none⟩=false:=by rw[hf _ _ (by simp)];simp[go_sem]
 have a0:w1.cell? ⟨w.heap.size,0,none⟩=some (.int .i64 c0):=by rw[hc _ _ (by simp;omega)];simp[go_sem]
 have a1:w1.cell? ⟨w.heap.size,1,none⟩=some (.int .i64 c1):=by rw[hc _ _ (by simp;omega)];simp[go_sem]
 have a2:w1.cell? ⟨w.heap.size,2,none⟩=some (.int .i64 J):=by rw[hc _ _ (by simp;omega)];simp[go_sem]
 have a3:w1.cell? ⟨w.heap.size,3,none⟩=some (.int .i64 G):=by rw[hc _ _ (by simp;omega)];simp[go_sem]
 clear hc hf hB b0 b1 b2 b3 b4 b5 b6 b7 g0 g1 g2 g3 g4 g5 g6 g7 hR hC
 have n1:=(nJ a5).1;have aB:=pK ((nJ a5).2.2 0 n1);have r1:=M.fK aB.1;have a4:=az (ay n1 r1);clear n1 aB r1;have a8:Hid (w.heap.size+2<=gb/\gb<w1.heap.size):=by
  have h1:=dA KR gb rfl;have h2:=h1.1;simp at h2;exact⟨by omega,h1.2.1⟩
 have a9:Hid (∀i,i<M.bt s 0->w.heap.size+2<=cbs i/\cbs i<w1.heap.size):=λi hi=>by
  have h1:=KC.lt hi;have h2:=h1.1;simp at h2;exact⟨by omega,h1.2⟩
 have a6:Hid (dQ (BN s c0 c1 J G gb cp cbs ccs) xu (IB w1.heap.size) (w1.alloc (.cells #[.slice (some ⟨gb,0,none⟩) (M.bt s 0) cp,.int .i64 c0,.int .i64 c1,.int .i64 J,.int .i64 G,.int .i64 0,.slice none 0 0,.slice none 0 0,.slice none 0 0,.slice none 0 0,.slice none 0 0,.slice none 0 0,.slice none 0 0,.int .i64 0,.bool false,.slice none 0 0,.int .i64 0,.bool false,.int .i64 0,.int .i64 0,.int .i64 0,.int .i64 0,.int .i64 0,.bool false] 112))):=by
  refine Jb ⟨_,bf w1 _,rfl,λj hj=>?_⟩ (dD KR (λk W=>ak _ _ _ (dA KR k W).2.1)) (KC.of (λi hi=>ak _ _ _ (KC.lt hi).2));have hc:j=0\/j=1\/j=2\/j=3\/j=4\/j=5\/j=6\/j=7\/j=8\/j=9\/j=10\/j=11\/j=12\/j=13\/j=14\/j=15\/j=16\/j=17\/j=18\/j=19\/j=20\/j=21\/j=22\/j=23:=by omega
  rcases hc with rfl|rfl|rfl|rfl|rfl|rfl|rfl|rfl|rfl|rfl|rfl|rfl|rfl|rfl|rfl|rfl|rfl|rfl|rfl|rfl|rfl|rfl|rfl|rfl<;>rfl
 have Z:Hid (∀k,ey (BN s c0 c1 J G gb cp cbs ccs) xu (IB w1.heap.size) k->w.heap.size+2<=k):=by
  rintro k ⟨x,y,z,W⟩;rcases Ig W with⟨_,_,_,rfl⟩|⟨_,_,_,rfl⟩|⟨_,_,hy,rfl⟩
  .omega
  .exact a8.1
  exact(a9 y hy).1
 clear KR KC a8 a9;go_wp2_with fail
 refine(GN (f:=0) (u:=(0,0)) (v:=(0,0)) a6 a4.1 a4.2.2.1 a4.2.2.2 (by decide) (by decide)).mono ?_;rintro e w3 ⟨rfl,g',hT,_⟩;have hO:=hT.o;have aD:=hO.size;simp at aD;have hn1:¬ey (BN s c0 c1 J G gb cp cbs ccs) xu (IB w1.heap.size) (w.heap.size+1):=λh=>by have:=Z _ h;omega
 have Y:w3.heap[w.heap.size+1]? = w1.heap[w.heap.size+1]?:=(hO.same (by simp;omega) hn1).trans (ak _ _ _ (by omega));have q0:w3.cell? ⟨w.heap.size+1,0,none⟩=some (.int .i64 0):=(aw (a:=⟨w.heap.size+1,0,none⟩) Y).trans d0;have q1:w3.cell? ⟨w.heap.size+1,1,none⟩=some (.int .i64 0):=(aw (a:=⟨w.heap.size+1,1,none⟩) Y).trans d1;have k0:=(dg (a:=⟨w.heap.size+1,0,none⟩) Y).trans e0;have k1:=(dg (a:=⟨w.heap.size+1,1,none⟩) Y).trans e1;have aF:Hid (Below w.heap.size w w3):=⟨hO.1.trans H.os,hO.2.1.trans H.tape,hO.2.2.1.trans H.output,by omega,λk W=>(hO.same (by simp;omega) (λh=>by have:=Z _ h;omega)).trans ((ak _ _ _ (by omega)).trans (H.block k W))⟩;have HT:=az hT;have a7:Hid (∀k,ey (BN s c0 c1 J G gb cp cbs ccs) (xu.born 0 (0,0) (0,0)) g' k->w.heap.size+2<=k):=λk W=>by
  rcases hT.m k W with h|h
  .exact Z k h
  simp at h;omega
 clear hT hO Y hn1 d0 d1 e0 e1 a0 a1 a2 a3 Z H a6 a4
 go_wp2_with fail
 refine da (v:=.tuple #[.pointer (some ⟨w1.heap.size,0,none⟩),.agg #[.int .i64 0,.int .i64 0]]) (by simp[results,results31,go_sem,q0,q1]) rfl ⟨?_,BN s c0 c1 J G gb cp cbs ccs,g',?_,⟨rfl,rfl,rfl,rfl,rfl,λ_=>rfl,λ_=>rfl,λ_ _=>rfl⟩,?_,λk W=>by have:=a7 k W;omega⟩
 .repeat (refine Below.setCell ?_ (by simp) _)
  exact aF
 .have hb:g'.mb=w1.heap.size:=HT.b;rw[hb]
 refine HT.r.only (S:=λk=>k=w.heap.size+1) ?_ (λk W e=>by have:=a7 k W;omega);exact bm (S:=λk=>k=w.heap.size+1) (a:=⟨w.heap.size+1,1,none⟩) (bm (S:=λk=>k=w.heap.size+1) (a:=⟨w.heap.size+1,0,none⟩) (dk _ _) (ag rfl) _) (ag rfl) _
end D
end Go.Proofs.YtnjiinbhbjpfkaaGreatDoor
