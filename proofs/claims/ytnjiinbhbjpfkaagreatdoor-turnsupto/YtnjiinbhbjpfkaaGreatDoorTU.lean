import Derived.Test.YtnjiinbhbjpfkaaGreatDoorTN
set_option maxRecDepth 100000
set_option maxHeartbeats 0
set_option linter.all false
namespace Go.Proofs.YtnjiinbhbjpfkaaGreatDoor
open Go.RowKit Go.Proofs.Tryz
section
variable {bad:Bool}{k:Nat}{p:Int}{s:ByteArray}{v:Value}{w w':aa}
theorem pq(b:Nat)(s:ByteArray)(p H:Nat)(bad:Bool)(hi:Int)(w:aa)(h:w.heap[b]? = some (jZ s p bad))(G:s.size<=maxLen)(y:p<=s.size)(u:hi=H): Calls prog 53 #[.pointer (some (ay b 0)),aj 0,aj hi] w λe w'=>∃x:Int,e=.returned (aj x)/\w'.heap[b]? = some (jZ s ((M.nx s H p bad).1:Nat) (M.nx s H p bad).2)/\w.grownBy w' (some b):=by
 cases bad with
 |true=>
  rw[M.Em];refine du (qY b s p 0 H true 0 hi w h y rfl u (af rfl)) ?_;grind
 |false=>
  by_cases ht:M.tk s p 0 H=true
  .have e:M.nx s H p false=(p+1,false):=by simp[M.nx,ht]
   rw[e];refine du (jK b s p 0 H 0 hi w h G rfl u ht) ?_;grind
  have e:M.nx s H p false=(p,true):=by simp[M.nx,ht]
  rw[e];refine du (qY b s p 0 H false 0 hi w h y rfl u (ah eR)) ?_;grind
theorem Jz(b:Nat)(s:ByteArray)(p R F L:Nat)(w:aa)(h:w.heap[b]? = some (jZ s p false))(y:s.size<=maxLen)(u:p<=s.size): Calls prog 53 #[.pointer (some (ay b 0)),aj 0,aj 22] w λe w'=>∃(op q:Nat) (bad:Bool),e=.returned (aj op)/\op<23/\q<=s.size/\w'.heap[b]? = some (jZ s q bad)/\w.grownBy w' (some b) /\ M.vD s R F L (M.k1 op) (M.kd.getD op []) 1 (q,bad)=((M.ins s p R F L).1,!(M.ins s p R F L).2):=by
 by_cases ht:M.tk s p 0 22=true
 .have e:M.ins s p R F L=M.tJ s (p+1) (M.bt s p) R F L:=by unfold M.ins;rw[bf ht]
  have G:=M.gU ht;rw[e];refine du (jK b s p 0 22 0 22 w h y rfl rfl ht) ?_;rintro w' ⟨o,i⟩;exact⟨M.bt s p,p+1,false,rfl,ag,ag,o,i,M.Fz s (p+1) (M.bt s p) R F L ag⟩
 have e:M.ins s p R F L=(p,false):=by unfold M.ins;rw[au ht]
 rw[e];refine du (qY b s p 0 22 false 0 22 w h u rfl rfl (ah eR)) ?_;rintro w' ⟨o,i⟩;exact⟨0,p,true,rfl,ag,u,o,i,M.FA _ _ _ _ _ _ _ _⟩
def ik{b:Nat}(h:w.heap[b]? = some (jZ s p bad))(o:Obj):(w.alloc o).heap[b]? = some (jZ s p bad):=(av _ _ _ (ch h)).trans h
def iQ{b x:Nat}(h:w.heap[b]? = some (jZ s p bad))(hx:b≠x):(w.setCell (ay x k) v).heap[b]? = some (jZ s p bad):=(ab _ _ _ _ hx).trans h
def four(a0 a1 a2 a3:Int):Obj:=.cells #[.int .i64 a0,.int .i64 a1,.int .i64 a2,.int .i64 a3] 90 (0,0)
def fP(w:aa)(c:Nat):Prop:=∃a0 a1 a2 a3,w.heap[c]? = some (four a0 a1 a2 a3)
theorem fP.kept{c b:Nat}(h:fP w c)(u:w.grownBy w' (some b))(H:c≠b):fP w' c:=by
 obtain⟨y,G,o,i,h⟩:=h;exact⟨y,G,o,i,da u h eR⟩
theorem fP.cell{c:Nat}(h:fP w c)(k:Nat)(y:k<4):(∃x:Int,w.cell? (ay c k)=some (aj x))/\w.frozen? (ay c k)=false:=by
 obtain⟨o,u,i,e,h⟩:=h;match k,y with
 |0,_=>grind[World.cell?,four,World.frozen?]
 |1,_=>grind[World.cell?,four,World.frozen?]
 |2,_=>grind[World.cell?,four,World.frozen?]
 |3,_=>simp_all[World.cell?,four,World.frozen?]
theorem fP.set{c:Nat}(h:fP w c)(k:Nat)(y:k<4)(x:Int):fP (w.setCell (ay c k) (aj x)) c:=by
 obtain⟨o,u,i,e,h⟩:=h;match k,y with
 |0,_=>exact⟨x,u,i,e,by simp[World.setCell,dh,h,four]⟩
 |1,_=>exact⟨o,x,i,e,by simp[World.setCell,dh,h,four]⟩
 |2,_=>exact⟨o,u,x,e,by simp[World.setCell,dh,h,four]⟩
 |3,_=>exact⟨o,u,i,x,by simp[World.setCell,dh,h,four]⟩
def fP.other{c d:Nat}(h:fP w c)(o:c≠d):fP (w.setCell (ay d k) v) c:=by
 obtain⟨u,y,i,e,h⟩:=h;exact⟨u,y,i,e,(ab _ _ _ _ o).trans h⟩
theorem nj{w1:aa}{b:Nat}{y G u o:Int}(h:w.heap[k]? = some (four y G u o))(H:w.grownBy w1 (some b))(J:k≠b): k<w1.heap.size/\w1.cell? (ay k 0)=some (aj y)/\w1.cell? (ay k 1)=some (aj G)/\w1.cell? (ay k 2)=some (aj u)/\w1.cell? (ay k 3)=some (aj o) /\ w1.frozen? (ay k 0)=false/\w1.frozen? (ay k 1)=false/\w1.frozen? (ay k 2)=false/\w1.frozen? (ay k 3)=false:=by
 have i:=da H h eR;grind[four,ch,World.cell?,World.frozen?]
def MM(e:Ending):Prop:=∃a0 a1 a2 a3:Int,e=.returned (.agg #[.int .i64 a0,.int .i64 a1,.int .i64 a2,.int .i64 a3])
theorem List.oM{α:Type}(l:List α)(n:Nat)(d:α):(l.drop n).head?.getD d=l.getD n d:=by simp_all
theorem CX(b:Nat)(s:ByteArray)(p R F L:Nat)(r f l:Int)(w:aa)(h:w.heap[b]? = some (jZ s p false))(hs:s.size<=maxLen)(aU:s.size<=140737488355328)(hp:p<=s.size)(hr:Hid (r=R))(hf:Hid (f=F))(hl:Hid (l=L))(h1:1<=R)(h2:1<=F)(h3:R<=8)(h4:F<=8): Calls prog 54 #[.pointer (some (ay b 0)),aj r,aj l,aj f] w λe w'=>MM e/\w'.heap[b]? = some (jZ s ((M.ins s p R F L).1:Nat) (!(M.ins s p R F L).2))/\w.grownBy w' (some b):=by
 have hb:=ch h;have H:Hid (w.heap[b]? = some (jZ s p false)):=h;have HS:Hid (s.size<=maxLen):=hs;clear h hs;go_in;go_wp2_with fail
 refine(Jz b s p R F L _ (ik (ik H.out _) _) HS.out hp).mono ?_;rintro e w1 ⟨op,q,bad,rfl,aC,hq,hh,hg,a9⟩;have aB:w.grownBy w1 (some b):=ar (ar (ak _ _ _) (ak _ _ _)) hg;have F8:fP w1 w.heap.size:=fP.kept (w:=(w.alloc (four 0 0 0 0)).alloc (four 0 0 0 0)) ⟨0,0,0,0,(av _ _ _ eB).trans (bl w _)⟩ hg ag;have F9:fP w1 (w.heap.size+1):=fP.kept (w:=(w.alloc (four 0 0 0 0)).alloc (four 0 0 0 0)) ⟨0,0,0,0,by have:=bl (w.alloc (four 0 0 0 0)) (four 0 0 0 0);simpa using this⟩ hg ag;obtain⟨⟨x9,d9⟩,e9⟩:=F9.cell 0 ag;have HH:Hid (w1.heap[b]? = some (jZ s q bad)):=hh;have HR:Hid (M.vD s R F L (M.k1 op) (M.kd.getD op []) 1 (q,bad)=((M.ins s p R F L).1,!(M.ins s p R F L).2)):=a9;have HG:Hid (w.grownBy w1 (some b)):=aB;have H8:Hid (fP w1 w.heap.size):=F8;have H9:Hid (fP w1 (w.heap.size+1)):=F9;clear hh a9 aB F8 F9 hg;go_wp2_with fail
 refine du (vV op _ aC) λw2 hB=>?_;have gB:(w1.setCell (ay (w.heap.size+1) 0) (aj op)).grownBy w2 (some b):=kN (gG hB);have KG:Hid (w.grownBy w2 (some b)):=ar (bu HG.out (ah eB) _) gB;have gN:(w1.setCell (ay (w.heap.size+1) 0) (aj op)).grownBy w2 (some w2.heap.size):=kN (gG hB);have aG:=hB.size;simp[World.setCell]at aG;have KB:Hid (w2.heap[b]? = some (jZ s q bad)):=da gN (iQ HH.out ag) (by intro e;injection e;have:=ch HH.out;omega);have K8:Hid (fP w2 w.heap.size):=fP.kept (fP.other H8.out ag) gB ag;have K9:Hid (fP w2 (w.heap.size+1)):=fP.kept (fP.set H9.out 0 ag _) gB ag;obtain⟨kf,kz⟩:=M.oh op aC;have KL:Hid (M.fR (M.KS op)=M.kd.getD op []):=kf;clear gB gN hB HH HG H8 H9 d9 e9 kf;generalize hS:M.KS op=S at *;clear hS;have aJ:1<S.size:=ag
 have HM:Hid (S[1].toNat=M.k1 op):=by
  show _=_;have e:=M.mj S 1 aJ;have e2:M.k1 op=(M.fR S).getD 1 0:=jx KL.out
  rw[e2,<-List.oM,e];rfl
 have KZ:Hid (S.size=3):=kz;have aX:S.size<=3:=ag
 have b0:3<=S.size:=ag;have b5:(1:Int)<S.size:=ag;have aE:Hid (M.vD s R F L (M.k1 op) ((M.fR S).drop 0) (0+1) (q,bad)=((M.ins s p R F L).1,!(M.ins s p R F L).2)):=by show _=_;rw[KL.out];exact HR.out
 clear kz HR;generalize M.k1 op=m at *;go_wp2
 go_loopw [11] (λi wr=>∃(k q:Nat) (bad:Bool),k<=3/\q<=s.size/\i=aj ((k:Int)+1)/\Hid (wr.heap[b]? = some (jZ s q bad))/\Hid (w.grownBy wr (some b))/\Hid (fP wr w.heap.size)/\Hid (fP wr (w.heap.size+1))/\Hid (M.vD s R F L m ((M.fR S).drop k) (k+1) (q,bad)=((M.ins s p R F L).1,!(M.ins s p R F L).2))) (λi _=>4-(intOf i).toNat)
 case atStart=>exact⟨0,q,bad,ag,hq,rfl,KB,KG,K8,K9,aE⟩
 case round=>
  clear hq KB KG K8 K9 aE;obtain⟨k,q,bad,hk,hq,rfl,rB,rG,r8,r9,rC⟩:=hrel;by_cases aZ:k<3
  .have aN:k<S.size:=ag;have hc:=M.mj S k aN;have W:Hid (M.vD s R F L m ((M.fR S).drop (k+1)) (k+1+1) (M.sZ s R F L m (k+1) S[k].toNat q bad)=((M.ins s p R F L).1,!(M.ins s p R F L).2)):=by
    show _=_;rw[<-rC.out,hc];rfl
   have aM:Hid (k=1->S[k].toNat=m):=by
    intro e;subst e;exact HM.out
   clear hc rC;have b1:1<=r:=gp hr.out
   have b2:r<=8:=gp hr.out;have b3:1<=f:=gp hf.out;have b4:f<=8:=gp hf.out;by_cases e1:k=1/\m=116
   .obtain⟨e1,em⟩:=e1;have g2:(((k:Int)+1) == 2)=true:=fH
    have aA:Hid (k=1):=e1;clear e1;have g3:((S[1].toNat:Int) == 116)=true:=by have:=HM.out;simp;omega
    have a8:Hid (S[k].toNat=116):=by show _=_;rw[aM.out aA.out,em]
    have q0:((S[k].toNat:Int) == 114)=false:=by have:=a8.out;simp;omega
    have q1:((S[k].toNat:Int) == 102)=false:=by have:=a8.out;simp;omega
    have q2:((S[k].toNat:Int) == 115)=false:=by have:=a8.out;simp;omega
    have q3:((S[k].toNat:Int) == 45)=false:=by have:=a8.out;simp;omega
    have a7:Hid (M.sZ s R F L m (k+1) S[k].toNat q bad=M.nx s 255 q (bad || M.tb s L q)):=by
     show _=_;unfold M.sZ;rw[a8.out,M.Bp];have:=aA.out;simp[this,em]
    clear em;obtain⟨y0,y1,y2⟩:=ij rB.out;obtain⟨_,u2⟩:=lh rB.out
    cases bad with
    |true=>
     have HB:Hid (M.sZ s R F L m (k+1) S[k].toNat q true=M.nx s 255 q true):=by show _=_;rw[a7.out];simp
     clear a7;go_wp2
     go_quiet (fail)
     go_wp2_with fail
     refine(pq b s q (255) true (255) (wr.drewN nq) rB.out HS.out hq rfl).mono ?_;rintro e J ⟨x,rfl,hh,o⟩;have a5:=(M.yF (s:=s) (hi:=255) (q:=q) (bad:=true) hq).2;have a4:Hid (J.heap[b]? = some (jZ s ((M.nx s (255) q true).1:Nat) (M.nx s (255) q true).2)):=hh;have Z:Hid (w.grownBy J (some b)):=ar (df rG.out _) o;have a6:Hid (fP J w.heap.size):=fP.kept (w:=(wr.drewN nq)) r8.out o ag;have G:Hid (fP J (w.heap.size+1)):=fP.kept (w:=(wr.drewN nq)) r9.out o ag;obtain⟨⟨y,d4⟩,e4⟩:=G.out.cell (k+1) ag;rw[HB.out]at W;clear hh o HB rB rG r8 r9;generalize M.nx s (255) q true=st at *;obtain⟨q',u⟩:=st;go_wp2
     go_roundw
     case rel=>exact⟨k+1,q',u,ag,a5,iA,iQ a4.out ag,bu Z.out (ah eB) _,fP.other a6.out ag,fP.set G.out (k+1) ag x,W⟩
     case measure=>simp[intOf];omega
    |false=>
     by_cases ez:q+1<s.size
     .have aL:IntKind.i64.wrap ((q:Int)+1)=(q:Int)+1:=iU;have aI:q<s.size:=ag;have aW:s[q].toNat<256:=fg _;have aS:s[q+1].toNat<256:=fg _;have aP:IntKind.i64.wrap (s[q].toNat:Int)=(s[q].toNat:Int):=iU
      have aQ:IntKind.i64.wrap (256*(s[q].toNat:Int))=256*(s[q].toNat:Int):=iU;have aY:IntKind.i64.wrap (s[q+1].toNat:Int)=(s[q+1].toNat:Int):=iU;have aR:IntKind.i64.wrap (256*(s[q].toNat:Int)+(s[q+1].toNat:Int))=256*(s[q].toNat:Int)+(s[q+1].toNat:Int):=iU;have aT:((q:Int)+1).toNat=q+1:=ag;have aO:(q:Int)+1<(s.size:Int):=ag;have aV:(0:Int)<=q+1:=ag;have g4:decide ((q:Int)+1<(s.size:Int))=true:=fH;have t1:=M.nu s q aI;have t2:=M.nu s (q+1) ez;by_cases ev:L<256*M.bt s q+M.bt s (q+1)
      .have g5:decide (l<256*(s[q].toNat:Int)+(s[q+1].toNat:Int))=true:=by have:=hl.out;rw[<-t1,<-t2];simp;omega
       have g6:l<256*(s[q].toNat:Int)+(s[q+1].toNat:Int):=gG g5;have HB:Hid (M.sZ s R F L m (k+1) S[k].toNat q false=M.nx s 255 q true):=by show _=_;rw[a7.out];unfold M.tb;simp[ez,ev]
       clear a7 t1 t2 ev;go_wp2
       go_quiet (fail)
       go_wp2_with fail
       refine(pq b s q (255) true (255) ((wr.drewN nq).setCell (ay b 2) (.bool true)) (yt (w:=wr.drewN nq) rB.out true) HS.out hq rfl).mono ?_;rintro e J ⟨x,rfl,hh,o⟩;have a5:=(M.yF (s:=s) (hi:=255) (q:=q) (bad:=true) hq).2;have a4:Hid (J.heap[b]? = some (jZ s ((M.nx s (255) q true).1:Nat) (M.nx s (255) q true).2)):=hh;have Z:Hid (w.grownBy J (some b)):=ar (bu (df rG.out _) (af rfl) _) o;have a6:Hid (fP J w.heap.size):=fP.kept (w:=((wr.drewN nq).setCell (ay b 2) (.bool true))) (fP.other r8.out ag) o ag;have G:Hid (fP J (w.heap.size+1)):=fP.kept (w:=((wr.drewN nq).setCell (ay b 2) (.bool true))) (fP.other r9.out ag) o ag;obtain⟨⟨y,d4⟩,e4⟩:=G.out.cell (k+1) ag;rw[HB.out]at W;clear hh o HB rB rG r8 r9;generalize M.nx s (255) q true=st at *;obtain⟨q',u⟩:=st;go_wp2
       go_roundw
       case rel=>exact⟨k+1,q',u,ag,a5,iA,iQ a4.out ag,bu Z.out (ah eB) _,fP.other a6.out ag,fP.set G.out (k+1) ag x,W⟩
       case measure=>simp[intOf];omega
      have g5:decide (l<256*(s[q].toNat:Int)+(s[q+1].toNat:Int))=false:=by have:=hl.out;rw[<-t1,<-t2];simp;omega
      have g6:256*(s[q].toNat:Int)+(s[q+1].toNat:Int)<=l:=gG g5;have HB:Hid (M.sZ s R F L m (k+1) S[k].toNat q false=M.nx s 255 q false):=by show _=_;rw[a7.out];unfold M.tb;simp[ez,ev]
      clear a7 t1 t2 ev;go_wp2
      go_quiet (fail)
      go_wp2_with fail
      refine(pq b s q (255) false (255) (wr.drewN nq) rB.out HS.out hq rfl).mono ?_;rintro e J ⟨x,rfl,hh,o⟩;have a5:=(M.yF (s:=s) (hi:=255) (q:=q) (bad:=false) hq).2;have a4:Hid (J.heap[b]? = some (jZ s ((M.nx s (255) q false).1:Nat) (M.nx s (255) q false).2)):=hh;have Z:Hid (w.grownBy J (some b)):=ar (df rG.out _) o;have a6:Hid (fP J w.heap.size):=fP.kept (w:=(wr.drewN nq)) r8.out o ag;have G:Hid (fP J (w.heap.size+1)):=fP.kept (w:=(wr.drewN nq)) r9.out o ag;obtain⟨⟨y,d4⟩,e4⟩:=G.out.cell (k+1) ag;rw[HB.out]at W;clear hh o HB rB rG r8 r9;generalize M.nx s (255) q false=st at *;obtain⟨q',u⟩:=st;go_wp2
      go_roundw
      case rel=>exact⟨k+1,q',u,ag,a5,iA,iQ a4.out ag,bu Z.out (ah eB) _,fP.other a6.out ag,fP.set G.out (k+1) ag x,W⟩
      case measure=>simp[intOf];omega
     have aL:IntKind.i64.wrap ((q:Int)+1)=(q:Int)+1:=iU;have g4:decide ((q:Int)+1<(s.size:Int))=false:=fH;have HB:Hid (M.sZ s R F L m (k+1) S[k].toNat q false=M.nx s 255 q false):=by show _=_;rw[a7.out];unfold M.tb;simp[ez]
     clear a7;go_wp2
     go_quiet (fail)
     go_wp2_with fail
     refine(pq b s q (255) false (255) (wr.drewN nq) rB.out HS.out hq rfl).mono ?_;rintro e J ⟨x,rfl,hh,o⟩;have a5:=(M.yF (s:=s) (hi:=255) (q:=q) (bad:=false) hq).2;have a4:Hid (J.heap[b]? = some (jZ s ((M.nx s (255) q false).1:Nat) (M.nx s (255) q false).2)):=hh;have Z:Hid (w.grownBy J (some b)):=ar (df rG.out _) o;have a6:Hid (fP J w.heap.size):=fP.kept (w:=(wr.drewN nq)) r8.out o ag;have G:Hid (fP J (w.heap.size+1)):=fP.kept (w:=(wr.drewN nq)) r9.out o ag;obtain⟨⟨y,d4⟩,e4⟩:=G.out.cell (k+1) ag;rw[HB.out]at W;clear hh o HB rB rG r8 r9;generalize M.nx s (255) q false=st at *;obtain⟨q',u⟩:=st;go_wp2
     go_roundw
     case rel=>exact⟨k+1,q',u,ag,a5,iA,iQ a4.out ag,bu Z.out (ah eB) _,fP.other a6.out ag,fP.set G.out (k+1) ag x,W⟩
     case measure=>simp[intOf];omega
   have HG:Hid ((((k:Int)+1) == 2)=false\/((((k:Int)+1) == 2)=true/\((S[1].toNat:Int) == 116)=false)):=by
    by_cases e2:k=1
    .exact ah ⟨fH,by have:=HM.out;have:m≠116:=λe=>e1 ⟨e2,e⟩;simp;omega⟩
    exact af fH
   have HZ:Hid (∃(X:Nat) (Y:Int),Y=(X:Int)/\M.sZ s R F L m (k+1) S[k].toNat q bad=M.nx s X q bad/\((((S[k].toNat:Int) == 114)=true/\Y=r-1)\/(((S[k].toNat:Int) == 114)=false/\((S[k].toNat:Int) == 102)=true/\Y=f-1)\/(((S[k].toNat:Int) == 114)=false/\((S[k].toNat:Int) == 102)=false/\((S[k].toNat:Int) == 115)=true/\Y=8)\/(((S[k].toNat:Int) == 114)=false/\((S[k].toNat:Int) == 102)=false/\((S[k].toNat:Int) == 115)=false/\((S[k].toNat:Int) == 45)=true/\Y=0)\/(((S[k].toNat:Int) == 114)=false/\((S[k].toNat:Int) == 102)=false/\((S[k].toNat:Int) == 115)=false/\((S[k].toNat:Int) == 45)=false/\Y=255))):=by
    have h9:M.sZ s R F L m (k+1) S[k].toNat q bad=M.nx s (M.Df R F S[k].toNat) q bad:=by
     unfold M.sZ;by_cases e2:k=1
     .have:m≠116:=λe=>e1 ⟨e2,e⟩;simp[this]
     simp[e2]
    unfold M.Df at h9;by_cases z0:S[k].toNat=114
    .rw[bf z0]at h9;exact⟨_,r-1,gp hr.out,h9,af ⟨fH,rfl⟩⟩
    rw[au z0]at h9;have q0:((S[k].toNat:Int) == 114)=false:=fH
    by_cases z1:S[k].toNat=102
    .rw[bf z1]at h9;exact⟨_,f-1,gp hf.out,h9,ah (af ⟨q0,fH,rfl⟩)⟩
    rw[au z1]at h9;have q1:((S[k].toNat:Int) == 102)=false:=fH
    by_cases z2:S[k].toNat=115
    .rw[bf z2]at h9;exact⟨_,8,rfl,h9,ah (ah (af ⟨q0,q1,fH,rfl⟩))⟩
    rw[au z2]at h9;have q2:((S[k].toNat:Int) == 115)=false:=fH
    by_cases z3:S[k].toNat=45
    .rw[bf z3]at h9;exact⟨_,0,rfl,h9,ah (ah (ah (af ⟨q0,q1,q2,fH,rfl⟩)))⟩
    rw[au z3]at h9;exact⟨_,255,rfl,h9,ah (ah (ah (ah ⟨q0,q1,q2,fH,rfl⟩)))⟩
   obtain⟨X,Y,aD,hT,aF⟩:=HZ.out;have aH:Hid (Y=(X:Int)):=aD;have HB:Hid (M.sZ s R F L m (k+1) S[k].toNat q bad=M.nx s X q bad):=hT;clear HZ aD hT e1;rcases HG.out with g2|⟨g2,g3⟩<;>rcases aF with⟨q0,rfl⟩|⟨q0,q1,rfl⟩|⟨q0,q1,q2,rfl⟩|⟨q0,q1,q2,q3,rfl⟩|⟨q0,q1,q2,q3,rfl⟩
   all_goals
    clear HG;go_wp2
    go_quiet (fail)
    go_wp2_with fail
    refine(pq b s q X bad _ (wr.drewN nq) rB.out HS.out hq (gp aH.out)).mono ?_;rintro e J ⟨x,rfl,hh,o⟩;have a5:=(M.yF (s:=s) (hi:=X) (q:=q) (bad:=bad) hq).2;have a4:Hid (J.heap[b]? = some (jZ s ((M.nx s X q bad).1:Nat) (M.nx s X q bad).2)):=hh;have Z:Hid (w.grownBy J (some b)):=ar (df rG.out _) o;have a6:Hid (fP J w.heap.size):=fP.kept (w:=(wr.drewN nq)) r8.out o ag;have G:Hid (fP J (w.heap.size+1)):=fP.kept (w:=(wr.drewN nq)) r9.out o ag;obtain⟨⟨y,d4⟩,e4⟩:=G.out.cell (k+1) ag;rw[HB.out]at W;clear hh o HB rB rG r8 r9;generalize M.nx s X q bad=st at *;obtain⟨q',u⟩:=st;go_wp2
    go_roundw
    case rel=>exact⟨k+1,q',u,ag,a5,iA,iQ a4.out ag,bu Z.out (ah eB) _,fP.other a6.out ag,fP.set G.out (k+1) ag x,W⟩
    case measure=>simp[intOf];omega
  obtain rfl:k=3:=by omega
  have HC:Hid ((q,bad)=((M.ins s p R F L).1,!(M.ins s p R F L).2)):=by
   show _=_;have e:(M.fR S).drop 3=[]:=by have:=M.sM S;rw[KZ.out]at this;exact this
   rw[<-rC.out,e];rfl
  obtain⟨a0,a1,a2,a3,f9⟩:=r9.out;obtain⟨z0,z1,z2,z3,f8⟩:=r8.out;obtain⟨_,d0,d1,d2,d3,_,_,_,_⟩:=nj f9 (aw wr (some b)) ag;obtain⟨_,c0,c1,c2,c3,e0,e1,e2,e3⟩:=nj f8 (aw wr (some b)) ag;clear f8 f9 r8 r9 rC;go_wp2
  refine dg (v:=.agg #[aj a0,aj a1,aj a2,aj a3]) (by simp[results,results54,go_sem,c0,c1,c2,c3]) rfl ⟨⟨_,_,_,_,rfl⟩,?_,?_⟩
  .have hc:=HC.out;simp only[Prod.mk.injEq]at hc;rw[<-hc.1,<-hc.2];repeat (rw[ab _ _ _ _ fH])
   exact rB.out
  repeat (refine bu ?_ (ah eB) _)
  exact rG.out
def MG(s:ByteArray)(p L H:Nat)(bad:Bool)(x q:Nat)(bad':Bool):Prop:=
 (bad'=true/\q=p/\(bad=true\/M.tk s p L H=false))\/(bad'=false/\bad=false/\q=p+1/\x=M.bt s p/\M.tk s p L H=true)
theorem uB(b:Nat)(s:ByteArray)(p L H:Nat)(bad:Bool)(u hi:Int)(w:aa)(h:w.heap[b]? = some (jZ s p bad))(hs:s.size<=maxLen)(Y:p<=s.size)(y:u=L)(Z:hi=H)(W:L<=H): Calls prog 53 #[.pointer (some (ay b 0)),aj u,aj hi] w λe w'=>∃(x q:Nat) (i:Bool),e=.returned (aj x)/\L<=x/\x<=H/\w'.heap[b]? = some (jZ s q i)/\w.grownBy w' (some b)/\q<=s.size /\ MG s p L H bad x q i:=by
 by_cases hb:bad=false/\M.tk s p L H=true
 .obtain⟨rfl,ht⟩:=hb;have h3:=M.gU ht;refine du (jK b s p L H u hi w h hs y Z ht) ?_;rintro w' ⟨G,J⟩;exact⟨M.bt s p,p+1,false,rfl,h3.2.1,h3.2.2,G,J,ag,ah ⟨rfl,rfl,rfl,rfl,ht⟩⟩
 have o:bad=true\/M.tk s p L H=false:=by
  cases bad with
  | true=>grind
  | false=>grind
 refine du (qY b s p L H bad u hi w h Y y Z o) ?_;rintro w' ⟨G,J⟩;exact⟨L,p,true,by rw[y],bq _,W,G,J,Y,af ⟨rfl,rfl,o⟩⟩
theorem oN{o:Obj}(h:(w.alloc o).grownBy w' (some w.heap.size)):Below w.heap.size w w':=
 ⟨h.os,h.tape,h.output,by have:=h.size;simp at this;omega,λk i=>(h.block k fH eR).trans (av _ _ _ i)⟩
theorem lF{w0:aa}(h:w.grownBy w' (some w0.heap.size))(o:w0.heap.size<=w.heap.size):Below w0.heap.size w w':=
 ⟨h.os,h.tape,h.output,h.size,λk i=>h.block k ag eR⟩
def kY{e o:Value}{T:TypeId}(i:w.heap[k]? = some (.cells #[e,o] T (0,0))): k<w.heap.size/\w.cell? (ay k 0)=some e/\w.cell? (ay k 1)=some o/\w.frozen? (ay k 0)=false/\w.frozen? (ay k 1)=false:=
 ⟨ch i,by simp[World.cell?,World.frozen?,i]⟩
theorem wG(w:aa)(o i:Value)(T:TypeId):∀j u,[o,i][j]? = some u->(w.alloc (.cells #[o,i] T)).cell? (((ay w.heap.size 0):Addr).add j)=some u:=by
 intro j u e;match j,e with
 | 0,e=>simp_all[Addr.add]
 | 1,e=>simp_all[Addr.add]
theorem zg(w:aa)(o:Obj)(y G H i:Value)(T:TypeId):∀j u,[y,G,H,i][j]? = some u->((w.alloc o).alloc (.cells #[y,G,H,i] T)).cell? (((ay (w.heap.size+1) 0):Addr).add j)=some u:=by
 intro j u e;match j,e with
 | 0,e=>simp_all[Addr.add]
 | 1,e=>simp_all[Addr.add]
 | 2,e=>simp_all[Addr.add]
 | 3,e=>simp_all[Addr.add]
def xS{g:Nat}{e i:Value}{T:TypeId}(h:w.heap[g]? = some (.cells #[e,i] T (0,0)))(v:Value):(w.setCell (ay g 1) v).heap[g]? = some (.cells #[e,v] T (0,0)):=by
 simp[World.setCell,dh,h]
def left(bad:Bool)(q:Nat)(r:Nat×Bool):Nat×Bool:=if bad=true then(q,false) else r
def Tryz.EP:(prog.info? 90).map (λi=>(i.zero,i.size,i.bytes))=some (some (.agg #[aj 0,aj 0,aj 0,aj 0]),4,32):=by kernel_rfl
def Tryz.ER:(prog.info? 89).map (λi=>(i.zero,i.size,i.bytes))=some (some (.agg #[aj 0,.slice none 0 0]),2,32):=by kernel_rfl
def MD(w w':aa)(e:Ending)(r:Nat×Bool):Prop:=
 (r.2=false/\e=.returned (.tuple #[.slice none 0 0,.int .i64 (r.1:Int),.bool false])) \/
 (r.2=true/\∃(ad:Addr) (n c:Nat) (r0:Nat),e=.returned (.tuple #[.slice (some ad) n c,.int .i64 0,.bool true])/\1<=n/\2<=r0/\r0<=8/\w'.cell? ad=some (.int .i64 r0)/\ad.spot=none/\ad.off=0/\w.heap.size<=ad.block/\ad.block<w'.heap.size)
theorem GV{q F R L J H:Nat}{e i:Bool}(u:MG s q 2 8 false R J e)(o:MG s J 1 200 e L H i): left i H (M.code s R F L H L)=M.fn s q F:=by
 unfold left M.fn;rcases u with⟨rfl,rfl,u⟩|⟨rfl,_,rfl,rfl,u⟩
 .rcases o with⟨rfl,rfl,o⟩|⟨_,h,_⟩
  .grind
  cases h
 rw[bf u];rcases o with⟨rfl,rfl,o⟩|⟨rfl,_,rfl,rfl,o⟩
 .grind
 grind
theorem yO{F q q' n:Nat}{bad':Bool}{X:Nat×Bool}(h:M.fns s F q (n+1)=X)(hy:M.fn s q F=(q',!bad')):left bad' q' (M.fns s F q' n)=X:=by
 grind[left,M.fns,M.fns.eq_def]
theorem CB{R F L q n:Nat}{Y:Nat×Bool}(h:M.code s R F L q (n+1)=Y):left (!(M.ins s q R F L).2) (M.ins s q R F L).1 (M.code s R F L (M.ins s q R F L).1 n)=Y:=by
 grind[left,M.code,M.ins,M.code.eq_def]
theorem ED{F q:Nat}(h:MG s 0 1 8 false F q bad): ∃X:Nat×Bool,M.m9 s=(X.1,X.2 && decide (X.1=s.size))/\left bad q (M.fns s F q F)=X:=by
 rcases h with⟨rfl,rfl,h⟩|⟨rfl,_,rfl,rfl,h⟩
 .exact⟨(0,false),by simp_all[M.m9,au],rfl⟩
 exact⟨M.fns s (M.bt s 0) 1 (M.bt s 0),by unfold M.m9;grind,rfl⟩
def wE(xs:List Value)(k:Nat):Prop:=k=0\/∃r0:Nat,2<=r0/\r0<=8/\xs[0]? = some (.int .i64 r0)
theorem wE.more{xs:List Value}{R:Nat}(h:wE xs k)(o:2<=R)(u:R<=8)(i:k=0->xs=[]):wE (xs++[aj R,v]) (k+1):=by
 right
 rcases h with rfl|⟨e,a,b,c⟩
 .grind
 grind
theorem wX(s:ByteArray)(w:aa)(hs:s.size<=maxLen)(hs2:s.size<=140737488355328): Calls prog 35 #[.string s] w λe w'=>MD w w' e (M.m9 s)/\Below w.heap.size w w':=by
 have HS:Hid (s.size<=maxLen):=hs;clear hs;obtain⟨i1,hi1,hz10,hz11,hz12⟩:=info_parts Tryz.EP;obtain⟨i2,hi2,hz20,hz21,hz22⟩:=info_parts Tryz.ER;go_in;go_wp2_with fail
 refine(uB w.heap.size s 0 1 8 false 1 8 (w.alloc (jZ s 0 false)) (bl w _) HS ag rfl rfl ag).mono ?_;rintro e w1 ⟨F,q,bad,rfl,f1,f2,hh,hg,hq,hcase⟩;have KB:Hid (w1.heap[w.heap.size]? = some (jZ s q bad)):=hh;have KL:Hid (Below w.heap.size w w1):=oN hg;obtain⟨X,hX1,hX2⟩:=ED hcase;have HX1:Hid (M.m9 s=(X.1,X.2 && decide (X.1=s.size))):=hX1;have HX2:Hid (left bad q (M.fns s F q F)=X):=hX2;clear hh hg hcase hX1 hX2;go_wp2
 go_loopw [7,8] (λv i wr=>∃(k q:Nat) (bad:Bool) (ad:Option Addr) (cp:Nat) (xs:List Value),k<=F/\q<=s.size/\i=aj k/\v=.slice ad k cp/\Hid (wr.heap[w.heap.size]? = some (jZ s q bad))/\Hid (Below w.heap.size w wr)/\Hid (wr.ownsRow (w.heap.size+1) 89 2 (.slice ad k cp) k xs)/\Hid (wE xs k)/\Hid (left bad q (M.fns s F q (F-k))=X)) (λ_ i _=>F-(intOf i).toNat)
 case atStart=>exact⟨0,q,bad,none,0,[],ag,hq,rfl,rfl,KB,KL,eg _ _ _ _,af rfl,HX2⟩
 case round=>
  clear hq KB KL HX2;obtain⟨k,q,bad,ad,cp,xs,hk,hq,rfl,rfl,rB,rL,rO,rF,rX⟩:=hrel;obtain⟨y0,y1,y2⟩:=ij rB;by_cases hlt:k<F
  .cases bad with
   | true=>
    have HC:Hid ((q,false)=X):=rX;go_wp2
    go_quiet (fail)
    go_wp2
    go_ret3
    refine⟨?_,below_drewN rL _⟩;rw[HX1.out,<-HC.out];exact af ⟨rfl,rfl⟩
   | false=>
    clear y0 y1 y2;have HX3:Hid (M.fns s F q ((F-(k+1))+1)=X):=by
     show _=_;rw[<-rX.out,show F-k=(F-(k+1))+1 by omega];rfl
    clear rX;have y2:=(ij rB).2.2;go_wp2_with fail
    refine(uB w.heap.size s q 2 8 false 2 8 wr rB HS hq rfl rfl ag).mono ?_;rintro e w3 ⟨R,q1,bad1,rfl,a1,a2,hh,hg,hq1,hc1⟩;have KB3:Hid (w3.heap[w.heap.size]? = some (jZ s q1 bad1)):=hh;have KL3:Hid (Below w.heap.size w w3):=rL.trans (lF hg rL.size);have hne:(Value.slice ad k cp).ownBlock=none\/(Value.slice ad k cp).ownBlock≠some w.heap.size:=by
     right;intro e;have:=(rO.lt _ e).1;omega
    have KO3:Hid (w3.ownsRow (w.heap.size+1) 89 2 (.slice ad k cp) k xs):=rO.kept hg hne;have HC1:Hid (MG s q 2 8 false R q1 bad1):=hc1;clear hh hg rB rL rO y2 hc1;have hgN:w.heap.size<w3.heap.size:=ch KB3;have KV:Hid (∀x,(Value.slice ad k cp).ownBlock=some x->x<w3.heap.size):=λx hx=>(KO3.lt x hx).2;go_wp2_with fail
    refine(uB w.heap.size s q1 1 200 bad1 1 200 (w3.alloc (.cells #[aj R,.slice none 0 0] 89)) (ik KB3 _) HS hq1 rfl rfl ag).mono ?_;rintro e w4 ⟨L,q2,bad2,rfl,l1,l2,hh,hg,hq2,hc2⟩;have KB4:Hid (w4.heap[w.heap.size]? = some (jZ s q2 bad2)):=hh;have KL4:Hid (Below w.heap.size w w4):=(KL3.alloc ag _).trans (lF hg fH);have KO4:Hid (w4.ownsRow (w.heap.size+1) 89 2 (.slice ad k cp) k xs):=(KO3.alloc _).kept hg hne;have KF4:Hid (w4.heap[w3.heap.size]? = some (.cells #[aj R,.slice none 0 0] 89 (0,0))):=da hg (bl w3 _) F1;have HY:Hid (left bad2 q2 (M.code s R F L q2 L)=M.fn s q F):=GV HC1 hc2;clear hh hg KB3 KL3 KO3 HC1 hc2 hq1;generalize w3.heap.size=g at *;go_wp2
    go_loopw [11] (λi wx=>∃(j q':Nat) (bad':Bool) (ad':Option Addr) (cp':Nat) (ys:List Value),j<=L/\q'<=s.size/\i=aj j/\Hid (wx.heap[w.heap.size]? = some (jZ s q' bad'))/\Hid (wx.heap[g]? = some (.cells #[aj R,.slice ad' j cp'] 89 (0,0)))/\Hid (wx.ownsRow (g+1) 90 4 (.slice ad' j cp') j ys)/\Hid (wx.ownsRow (w.heap.size+1) 89 2 (.slice ad k cp) k xs)/\Hid (Below w.heap.size w wx)/\Hid (left bad' q' (M.code s R F L q' (L-j))=M.fn s q F)) (λi _=>L-(intOf i).toNat)
    case atStart=>exact⟨0,q2,bad2,none,0,[],ag,hq2,rfl,KB4,KF4,eg _ _ _ _,KO4,KL4,HY⟩
    case round=>
     clear KB4 KL4 KO4 KF4 HY hq2;obtain⟨j,q',bad',ad',cp',ys,hj,hq',rfl,sB,sF,sY,sO,sL,sC⟩:=hrel;obtain⟨_,_,y2⟩:=ij sB;obtain⟨_,d0,d1,e0,e1⟩:=kY sF;by_cases hjl:j<L
     .cases bad' with
      | true=>
       have HYY:Hid (M.fn s q F=(q',!true)):=sC.symm;clear sC;go_wp2_with (at_builtin;refine wpList_append_own _ rfl (.tmp 59) (.tmp 61) 83 rfl (w.heap.size+1) 89 i2 _ 2 32 underlying83 hi2 hz20 hz21 hz22 rfl ek _ _ _ rfl (sO.alloc _) (ay wr.heap.size 0) 1 1 [aj R,.slice ad' j cp'] rfl rfl ?c1 ?c2 ?c3 ?c4 ?c5 ?_)
       case c1=>exact wG wr _ _ _
       case c2=>intro u hu;simp at hu;rcases hu with rfl|rfl<;>rfl
       case c3=>unfold maxLen;omega
       case c4=>omega
       case c5=>have:=sL.size;simp;omega
       intro v' w6 hown hgrow _;obtain⟨g',cap',rfl⟩:∃g' cap',v'=dA g' (k+1) cap':=by
        rcases hown.2 with⟨_,h⟩|⟨g',cap',_,h,_⟩
        .omega
        exact⟨g',cap',h⟩
       have hnN:some w.heap.size≠(Value.slice ad k cp).ownBlock:=by
        intro e;have:=(sO.lt _ e.symm).1;omega
       have KB6:Hid (w6.heap[w.heap.size]? = some (jZ s q' true)):=da hgrow (ik sB _) hnN;have KL6:Hid (Below w.heap.size w w6):=(sL.alloc (by have:=ch sB;omega) _).grown hgrow (by have:=ch sB;simp;omega) (λx hx=>by have:=(sO.lt _ hx).1;omega);have KO6:Hid (w6.ownsRow (w.heap.size+1) 89 2 (dA g' (k+1) cap') (k+1) (xs++[aj R,.slice ad' j cp'])):=hown;have KF6:Hid (wE (xs++[aj R,.slice ad' j cp']) (k+1)):=rF.more a1 a2 (λe=>by have:=sO.1;rw[e]at this;simpa using this);have KX6:Hid (left true q' (M.fns s F q' (F-(k+1)))=X):=yO HX3 HYY;clear hown hgrow sB sF sY sO sL y2 d0 d1 e0 e1 hnN;go_wp2
       go_roundw
       case rel=>exact⟨k+1,q',true,some (ay g' 0),cap',_,ag,hq',iA,rfl,KB6,KL6,KO6,KF6,KX6⟩
       case measure=>simp[intOf];omega
      | false=>
       have HC5:Hid (M.code s R F L q' ((L-(j+1))+1)=M.fn s q F):=by
        show _=_;rw[<-sC.out,show L-j=(L-(j+1))+1 by omega];rfl
       clear sC;go_wp2_with fail
       refine(CX w.heap.size s q' R F L R F L wr sB HS hs2 hq' rfl rfl rfl ag f1 a2 f2).mono ?_;rintro e w5 ⟨⟨b0,b1,b2,b3,rfl⟩,hh,hg⟩;have hne':(Value.slice ad' j cp').ownBlock=none\/(Value.slice ad' j cp').ownBlock≠some w.heap.size:=by
        right;intro e;have:=(sY.lt _ e).1;omega
       have KB5:Hid (w5.heap[w.heap.size]? = some (jZ s ((M.ins s q' R F L).1:Nat) (!(M.ins s q' R F L).2))):=hh;have KF5:Hid (w5.heap[g]? = some (.cells #[aj R,.slice ad' j cp'] 89 (0,0))):=da hg sF F1;have KY5:Hid (w5.ownsRow (g+1) 90 4 (.slice ad' j cp') j ys):=sY.kept hg hne';have KO5:Hid (w5.ownsRow (w.heap.size+1) 89 2 (.slice ad k cp) k xs):=sO.kept hg hne;have KL5:Hid (Below w.heap.size w w5):=sL.trans (lF hg sL.size);have HC6:=CB HC5;have HC7:Hid (left (!(M.ins s q' R F L).2) (M.ins s q' R F L).1 (M.code s R F L (M.ins s q' R F L).1 (L-(j+1)))=M.fn s q F):=HC6;have hq5:=(M.An (s:=s) (p:=q') (r:=R) (f:=F) (l:=L) hq').2;clear hh hg sB sF sY sO sL y2 d0 d1 e0 e1 hne' HC5 HC6;generalize (M.ins s q' R F L).1=q5 at *;generalize (!(M.ins s q' R F L).2)=bad5 at *;obtain⟨hz5,d0,d1,e0,e1⟩:=kY KF5;have hz6:g<w5.heap.size+1:=ag
       go_wp2_with (at_builtin;refine wpList_append_own _ rfl (.tmp 54) (.tmp 56) 87 rfl (g+1) 90 i1 _ 4 32 underlying87 hi1 hz10 hz11 hz12 rfl ek _ _ _ rfl ((KY5.alloc _).alloc _) (ay (w5.heap.size+1) 0) 1 1 [aj b0,aj b1,aj b2,aj b3] rfl rfl ?c1 ?c2 ?c3 ?c4 ?c5 ?_)
       case c1=>exact zg w5 _ _ _ _ _ _
       case c2=>intro u hu;simp at hu;rcases hu with rfl|rfl|rfl|rfl<;>rfl
       case c3=>unfold maxLen;omega
       case c4=>omega
       case c5=>simp;omega
       intro v' w6 hown hgrow _;obtain⟨g',cap',rfl⟩:∃g' cap',v'=dA g' (j+1) cap':=by
        rcases hown.2 with⟨_,h⟩|⟨g',cap',_,h,_⟩
        .omega
        exact⟨g',cap',h⟩
       have hnN:∀x,x<g+1->some x≠(Value.slice ad' j cp').ownBlock:=by
        intro x hx e;have:=(KY5.lt _ e.symm).1;omega
       have KB6:Hid (w6.heap[w.heap.size]? = some (jZ s q5 bad5)):=da hgrow (ik (ik KB5 _) _) (hnN _ ag);have KF6:Hid (w6.heap[g]? = some (.cells #[aj R,.slice ad' j cp'] 89 (0,0))):=da hgrow ((av _ _ _ fH).trans ((av _ _ _ hz5).trans KF5)) (hnN _ ag);have KL6:Hid (Below w.heap.size w w6):=((KL5.alloc ag _).alloc fH _).grown hgrow fH (λx hx=>by have:=(KY5.lt _ hx).1;omega);have KY6:Hid (w6.ownsRow (g+1) 90 4 (dA g' (j+1) cap') (j+1) (ys++[aj b0,aj b1,aj b2,aj b3])):=hown;have KO6:Hid (w6.ownsRow (w.heap.size+1) 89 2 (.slice ad k cp) k xs):=((KO5.alloc _).alloc _).kept hgrow (by cases hv:(Value.slice ad k cp).ownBlock with|none=>exact af rfl|some x=>exact ah (hnN x (by have:=KV x hv;omega)));clear hown hgrow KB5 KF5 KY5 KO5 KL5 d0 d1 e0 e1;obtain⟨hz7,d0,d1,e0,e1⟩:=kY KF6;go_wp2
       go_roundw
       case rel=>exact⟨j+1,q5,bad5,some (ay g' 0),cap',_,ag,hq5,iA,iQ KB6 ag,xS KF6 _,ownsRow_setCell_below KY6 (by show g<g+1;omega) _,KO6.kept (bu (aw w6 (some g)) (af rfl) _) (by right;intro e;have:=KV _ e;omega),KL6.setCell (by show w.heap.size<=g;omega) _,HC7⟩
       case measure=>simp[intOf];omega
     obtain rfl:j=L:=by omega
     have HYY:Hid (M.fn s q F=(q',!bad')):=by show _=_;rw[<-sC.out,Nat.sub_self];unfold left;cases bad'<;>rfl
     clear sC;go_wp2_with (at_builtin;refine wpList_append_own _ rfl (.tmp 59) (.tmp 61) 83 rfl (w.heap.size+1) 89 i2 _ 2 32 underlying83 hi2 hz20 hz21 hz22 rfl ek _ _ _ rfl (sO.out.alloc _) (ay wr.heap.size 0) 1 1 [aj R,.slice ad' j cp'] rfl rfl ?c1 ?c2 ?c3 ?c4 ?c5 ?_)
     case c1=>exact wG wr _ _ _
     case c2=>intro u hu;simp at hu;rcases hu with rfl|rfl<;>rfl
     case c3=>unfold maxLen;omega
     case c4=>omega
     case c5=>have:=sL.out.size;simp;omega
     intro v' w6 hown hgrow _;obtain⟨g',cap',rfl⟩:∃g' cap',v'=dA g' (k+1) cap':=by
      rcases hown.2 with⟨_,h⟩|⟨g',cap',_,h,_⟩
      .omega
      exact⟨g',cap',h⟩
     have hnN:some w.heap.size≠(Value.slice ad k cp).ownBlock:=by
      intro e;have:=(sO.out.lt _ e.symm).1;omega
     have KB6:Hid (w6.heap[w.heap.size]? = some (jZ s q' bad')):=da hgrow (ik sB.out _) hnN;have KL6:Hid (Below w.heap.size w w6):=(sL.out.alloc (by have:=ch sB.out;omega) _).grown hgrow (by have:=ch sB.out;simp;omega) (λx hx=>by have:=(sO.out.lt _ hx).1;omega);have KO6:Hid (w6.ownsRow (w.heap.size+1) 89 2 (dA g' (k+1) cap') (k+1) (xs++[aj R,.slice ad' j cp'])):=hown;have KF6:Hid (wE (xs++[aj R,.slice ad' j cp']) (k+1)):=rF.out.more a1 a2 (λe=>by have:=sO.out.1;rw[e]at this;simpa using this);have KX6:Hid (left bad' q' (M.fns s F q' (F-(k+1)))=X):=yO HX3.out HYY.out;clear hown hgrow sB sF sY sO sL y2 d0 d1 e0 e1 hnN;go_wp2
     go_roundw
     case rel=>exact⟨k+1,q',bad',some (ay g' 0),cap',_,ag,hq',iA,rfl,KB6,KL6,KO6,KF6,KX6⟩
     case measure=>simp[intOf];omega
  obtain rfl:k=F:=by omega
  have HC:Hid ((q,!bad)=X):=by show _=_;rw[<-rX.out,Nat.sub_self];unfold left;cases bad<;>rfl
  clear rX
  cases bad with
  | true=>
   go_wp2
   go_quiet (fail)
   go_wp2
   go_ret3
   refine⟨?_,below_drewN rL.out _⟩;rw[HX1.out,<-HC.out];exact af ⟨rfl,rfl⟩
  | false=>
   by_cases hz:q<s.size
   .go_wp2
    go_quiet (fail)
    go_wp2
    go_ret3
    refine⟨?_,below_drewN rL.out _⟩;rw[HX1.out,<-HC.out];have hne:decide (q=s.size)=false:=fH
    refine af ⟨gG hne,rfl⟩
   have heq:Hid (q=s.size):=by show _=_;omega
   go_wp2
   go_ret3
   refine⟨?_,rL.out⟩;rw[HX1.out,<-HC.out];have hne:decide (q=s.size)=true:=gG heq.out
   refine ah ⟨gG hne,?_⟩;rcases rO.out.2 with⟨_,h0⟩|⟨g,cap,cur,h0,hb0,hg0,_⟩
   .omega
   simp only[Value.slice.injEq]at h0;obtain⟨rfl,_,rfl⟩:=h0;rcases rF.out with h0|⟨r0,ra,rb,rc⟩
   .omega
   refine⟨(ay g 0),k,cp,r0,rfl,f1,ra,rb,?_,rfl,rfl,?_,ch hg0⟩
   .rw[rO.out.cellAt 0 ag];exact rc
   show w.heap.size<=g;omega
