import Derived.Test.YtnjiinbhbjpfkaaGreatDoorKC
import Derived.Test.YtnjiinbhbjpfkaaGreatDoorKD
set_option maxRecDepth 100000
set_option maxHeartbeats 0
set_option linter.all false
namespace Go.Proofs.YtnjiinbhbjpfkaaGreatDoor
open Go.RowKit Go.Proofs.Tryz
section
theorem CV(b:Nat)(s:ByteArray)(p i hi:Int)(w:World)(h:w.heap[b]? = some (jc s p true)): Calls prog 53 #[.pointer (some ⟨b,0,none⟩),.int .i64 i,.int .i64 hi] w λe w'=>e=.returned (.int .i64 i)/\∃n,w'=(w.drewN n).setCell ⟨b,2,none⟩ (.bool true):=by
 obtain⟨c0,c1,y⟩:=fZ h;obtain⟨o,u⟩:=jI h;go_in;go_wp2
 go_quiet (fail)
 go_wp2
 go_ret;exact⟨rfl,_,rfl⟩
theorem CX(b:Nat)(s:ByteArray)(i hi:Int)(w:World)(h:w.heap[b]? = some (jc s s.size false)): Calls prog 53 #[.pointer (some ⟨b,0,none⟩),.int .i64 i,.int .i64 hi] w λe w'=>e=.returned (.int .i64 i)/\∃n,w'=(w.drewN n).setCell ⟨b,2,none⟩ (.bool true):=by
 obtain⟨c0,c1,y⟩:=fZ h;obtain⟨o,u⟩:=jI h;go_in;go_wp2
 go_quiet (fail)
 go_wp2
 go_ret;exact⟨rfl,_,rfl⟩
theorem CW(b:Nat)(s:ByteArray)(p:Nat)(i hi:Int)(w:World)(h:w.heap[b]? = some (jc s p false))(y:p<s.size)(hx:(s[p].toNat:Int)<i): Calls prog 53 #[.pointer (some ⟨b,0,none⟩),.int .i64 i,.int .i64 hi] w λe w'=>e=.returned (.int .i64 i)/\∃n,w'=(w.drewN n).setCell ⟨b,2,none⟩ (.bool true):=by
 obtain⟨c0,c1,J⟩:=fZ h;obtain⟨G,H⟩:=jI h;have o:s[p].toNat<256:=eI _;have u:IntKind.i64.wrap (s[p].toNat:Int)=(s[p].toNat:Int):=by rw[bl,bd _ (by omega)]
 have g1:decide (s.size<=p)=false:=by simp;omega
 go_in;go_wp2
 go_quiet (fail)
 go_wp2
 go_ret;exact⟨rfl,_,rfl⟩
theorem A2(b:Nat)(s:ByteArray)(p:Nat)(i hi:Int)(w:World)(h:w.heap[b]? = some (jc s p false))(G:p<s.size)(y:i<=(s[p].toNat:Int))(hx:hi<(s[p].toNat:Int)): Calls prog 53 #[.pointer (some ⟨b,0,none⟩),.int .i64 i,.int .i64 hi] w λe w'=>e=.returned (.int .i64 i)/\∃n,w'=(w.drewN n).setCell ⟨b,2,none⟩ (.bool true):=by
 obtain⟨c0,c1,Y⟩:=fZ h;obtain⟨J,W⟩:=jI h;have o:s[p].toNat<256:=eI _;have u:IntKind.i64.wrap (s[p].toNat:Int)=(s[p].toNat:Int):=by rw[bl,bd _ (by omega)]
 have g1:decide (s.size<=p)=false:=by simp;omega
 have Z:decide ((s[p].toNat:Int)<i)=false:=by simpa using y
 go_in;go_wp2
 go_quiet (fail)
 go_wp2
 go_ret;exact⟨rfl,_,rfl⟩
theorem CU(b:Nat)(s:ByteArray)(p:Nat)(i hi:Int)(w:World)(h:w.heap[b]? = some (jc s p false))(H:s.size<=9223372036854775807)(hp:p<s.size)(G:i<=(s[p].toNat:Int))(hx:(s[p].toNat:Int)<=hi): Calls prog 53 #[.pointer (some ⟨b,0,none⟩),.int .i64 i,.int .i64 hi] w λe w'=>e=.returned (.int .i64 (s[p].toNat:Int))/\∃n m,w'=((w.drewN n).setCell ⟨b,1,none⟩ (.int .i64 (p+1))).drewN m:=by
 obtain⟨c0,c1,Z⟩:=fZ h;obtain⟨W,Y⟩:=jI h;have o:s[p].toNat<256:=eI _;have u:IntKind.i64.wrap (s[p].toNat:Int)=(s[p].toNat:Int):=by rw[bl,bd _ (by omega)]
 have g1:decide (s.size<=p)=false:=by simp;omega
 have g2:decide ((s[p].toNat:Int)<i)=false:=by simpa using G
 have J:decide (hi<(s[p].toNat:Int))=false:=by simpa using hx
 have y:IntKind.i64.wrap ((p:Int)+1-1)=(p:Int):=by rw[bl,bd _ (by omega)];omega
 go_in;go_wp2
 go_quiet (fail)
 go_wp2
 go_quiet (fail)
 go_wp2
 go_ret;exact⟨rfl,_,_,rfl⟩
theorem iN(b:Nat)(s:ByteArray)(p L H:Nat)(i hi:Int)(w:World)(h:w.heap[b]? = some (jc s p false))(u:s.size<=maxLen)(W:i=L)(J:hi=H)(ht:M.tk s p L H=true): Calls prog 53 #[.pointer (some ⟨b,0,none⟩),.int .i64 i,.int .i64 hi] w λe w'=>e=.returned (.int .i64 (M.bt s p))/\w'.heap[b]? = some (jc s ((p+1:Nat):Int) false)/\w.grownBy w' (some b):=by
 obtain⟨o,G,y⟩:=M.fK ht;have e:=M.lF s p o;rw[e]at G y ⊢;refine(CU b s p i hi w h (by unfold maxLen at u;omega) o (by omega) (by omega)).mono ?_;rintro e w' ⟨rfl,n,m,rfl⟩;exact⟨rfl,CC (w:=w.drewN n) h _,db (bp (db (ax _ _) _) (ag rfl) _) _⟩
theorem pA(b:Nat)(s:ByteArray)(p L H:Nat)(bad:Bool)(i hi:Int)(w:World)(h:w.heap[b]? = some (jc s p bad))(Y:p<=s.size)(G:i=L)(y:hi=H)(ht:bad=true\/M.tk s p L H=false): Calls prog 53 #[.pointer (some ⟨b,0,none⟩),.int .i64 i,.int .i64 hi] w λe w'=>e=.returned (.int .i64 i)/\w'.heap[b]? = some (jc s p true)/\w.grownBy w' (some b):=by
 have fin:∀n,(((w.drewN n).setCell ⟨b,2,none⟩ (.bool true)).heap[b]? = some (jc s p true))/\w.grownBy ((w.drewN n).setCell ⟨b,2,none⟩ (.bool true)) (some b):=λn=>
  ⟨wX (w:=w.drewN n) h _,bp (db (ax _ _) _) (ag rfl) _⟩
 cases bad with
 | true=>
  refine(CV b s p i hi w h).mono ?_;rintro e w' ⟨rfl,n,rfl⟩;exact⟨rfl,fin n⟩
 | false=>
  have o:M.tk s p L H=false:=by simpa using ht
  by_cases u:p<s.size
  .have e:=M.lF s p u;by_cases W:M.bt s p<L
   .refine(CW b s p i hi w h u (by rw[<-e];omega)).mono ?_;rintro e w' ⟨rfl,n,rfl⟩;exact⟨rfl,fin n⟩
   have J:H<M.bt s p:=by simp[M.tk]at o;omega
   refine(A2 b s p i hi w h u (by rw[<-e];omega) (by rw[<-e];omega)).mono ?_;rintro e w' ⟨rfl,n,rfl⟩;exact⟨rfl,fin n⟩
  obtain rfl:p=s.size:=by omega
  refine(CX b s i hi w h).mono ?_;rintro e w' ⟨rfl,n,rfl⟩;exact⟨rfl,fin n⟩
def KL:List Value:=[.string { data:=#[114,107,107] },.string { data:=#[114,114,45] },.string { data:=#[114,114,114] },.string { data:=#[114,114,114] },.string { data:=#[114,114,114] },.string { data:=#[114,114,114] },.string { data:=#[114,114,114] },.string { data:=#[45,116,116] },.string { data:=#[114,116,116] },.string { data:=#[114,115,45] },.string { data:=#[114,114,114] },.string { data:=#[114,114,114] },.string { data:=#[114,102,114] },.string { data:=#[114,114,114] },.string { data:=#[114,45,45] },.string { data:=#[114,114,114] },.string { data:=#[45,45,45] },.string { data:=#[114,45,45] },.string { data:=#[114,114,45] },.string { data:=#[114,45,45] },.string { data:=#[114,45,45] },.string { data:=#[114,114,45] },.string { data:=#[114,45,45] }]
theorem Is:KL=(List.range 23).map (λi=>Value.string (M.KS i)):=by rfl
theorem J8(op:Nat)(h:op<KL.length):KL[op]=.string (M.KS op):=by
 have i:KL[op]? = some (.string (M.KS op)):=by
  have e:op<23:=h;rw[Is];simp[e]
 exact(List.getElem_eq_iff h).2 i
theorem uA(op:Nat)(w:World)(h:op<23): Calls prog 80 #[.int .i64 op] w λe w'=>e=.returned (.string (M.KS op))/\Below w.heap.size w w':=by
 go_in;go_wp2_with fail
 go_ret;exact⟨congrArg Ending.returned (J8 op h),(eM _ _).alloc (bj _) _⟩
theorem nK(b:Nat)(s:ByteArray)(p H:Nat)(bad:Bool)(hi:Int)(w:World)(h:w.heap[b]? = some (jc s p bad))(G:s.size<=maxLen)(y:p<=s.size)(u:hi=H): Calls prog 53 #[.pointer (some ⟨b,0,none⟩),.int .i64 0,.int .i64 hi] w λe w'=>∃x:Int,e=.returned (.int .i64 x)/\w'.heap[b]? = some (jc s ((M.nx s H p bad).1:Nat) (M.nx s H p bad).2)/\w.grownBy w' (some b):=by
 cases bad with
 |true=>
  rw[M.CT];refine(pA b s p 0 H true 0 hi w h y rfl u (ag rfl)).mono ?_;rintro e w' ⟨rfl,o,i⟩;exact⟨_,rfl,o,i⟩
 |false=>
  by_cases ht:M.tk s p 0 H=true
  .have e:M.nx s H p false=(p+1,false):=by simp[M.nx,ht]
   rw[e];refine(iN b s p 0 H 0 hi w h G rfl u ht).mono ?_;rintro e w' ⟨rfl,o,i⟩;exact⟨_,rfl,o,i⟩
  have e:M.nx s H p false=(p,true):=by simp[M.nx,ht]
  rw[e];refine(pA b s p 0 H false 0 hi w h y rfl u (ab (by simpa using ht))).mono ?_;rintro e w' ⟨rfl,o,i⟩;exact⟨_,rfl,o,i⟩
theorem G6(b:Nat)(s:ByteArray)(p R F L:Nat)(w:World)(h:w.heap[b]? = some (jc s p false))(y:s.size<=maxLen)(u:p<=s.size): Calls prog 53 #[.pointer (some ⟨b,0,none⟩),.int .i64 0,.int .i64 22] w λe w'=>∃(op q:Nat) (bad:Bool),e=.returned (.int .i64 op)/\op<23/\q<=s.size/\w'.heap[b]? = some (jc s q bad)/\w.grownBy w' (some b) /\ M.ud s R F L (M.k1 op) (M.kd.getD op []) 1 (q,bad)=((M.ins s p R F L).1,!(M.ins s p R F L).2):=by
 by_cases ht:M.tk s p 0 22=true
 .have e:M.ins s p R F L=M.rz s (p+1) (M.bt s p) R F L:=by unfold M.ins;rw[aj ht]
  have G:=M.fK ht;rw[e];refine(iN b s p 0 22 0 22 w h y rfl rfl ht).mono ?_;rintro e w' ⟨rfl,o,i⟩;exact⟨M.bt s p,p+1,false,rfl,by omega,by omega,o,i,M.DT s (p+1) (M.bt s p) R F L (by omega)⟩
 have e:M.ins s p R F L=(p,false):=by unfold M.ins;rw[aa ht]
 rw[e];refine(pA b s p 0 22 false 0 22 w h u rfl rfl (ab (by simpa using ht))).mono ?_;rintro e w' ⟨rfl,o,i⟩;exact⟨0,p,true,rfl,by omega,u,o,i,M.DU _ _ _ _ _ _ _ _⟩
theorem ga{w:World}{b:Nat}{s:ByteArray}{p:Int}{bad:Bool}(h:w.heap[b]? = some (jc s p bad))(o:Obj):(w.alloc o).heap[b]? = some (jc s p bad):=(ak _ _ _ (bz h)).trans h
theorem gL{w:World}{b x k:Nat}{v:Value}{s:ByteArray}{p:Int}{bad:Bool}(h:w.heap[b]? = some (jc s p bad))(hx:b≠x):(w.setCell ⟨x,k,none⟩ v).heap[b]? = some (jc s p bad):=(af _ _ _ _ hx).trans h
def four(a0 a1 a2 a3:Int):Obj:=.cells #[.int .i64 a0,.int .i64 a1,.int .i64 a2,.int .i64 a3] 90 (0,0)
def eW(w:World)(c:Nat):Prop:=∃a0 a1 a2 a3,w.heap[c]? = some (four a0 a1 a2 a3)
theorem eW.kept{w w':World}{c b:Nat}(h:eW w c)(u:w.grownBy w' (some b))(H:c≠b):eW w' c:=by
 obtain⟨y,G,o,i,h⟩:=h;exact⟨y,G,o,i,cm u h (by intro e;injection e;omega)⟩
theorem eW.cell{w:World}{c:Nat}(h:eW w c)(k:Nat)(y:k<4):(∃x:Int,w.cell? ⟨c,k,none⟩=some (.int .i64 x))/\w.frozen? ⟨c,k,none⟩=false:=by
 obtain⟨o,u,i,e,h⟩:=h;match k,y with
 |0,_=>exact⟨⟨o,by simp[World.cell?,h,four]⟩,by simp[World.frozen?,h,four]⟩
 |1,_=>exact⟨⟨u,by simp[World.cell?,h,four]⟩,by simp[World.frozen?,h,four]⟩
 |2,_=>exact⟨⟨i,by simp[World.cell?,h,four]⟩,by simp[World.frozen?,h,four]⟩
 |3,_=>exact⟨⟨e,by simp[World.cell?,h,four]⟩,by simp[World.frozen?,h,four]⟩
theorem eW.set{w:World}{c:Nat}(h:eW w c)(k:Nat)(y:k<4)(x:Int):eW (w.setCell ⟨c,k,none⟩ (.int .i64 x)) c:=by
 obtain⟨o,u,i,e,h⟩:=h;match k,y with
 |0,_=>exact⟨x,u,i,e,by simp[World.setCell,cn,h,four]⟩
 |1,_=>exact⟨o,x,i,e,by simp[World.setCell,cn,h,four]⟩
 |2,_=>exact⟨o,u,x,e,by simp[World.setCell,cn,h,four]⟩
 |3,_=>exact⟨o,u,i,x,by simp[World.setCell,cn,h,four]⟩
theorem eW.other{w:World}{c d k:Nat}{v:Value}(h:eW w c)(o:c≠d):eW (w.setCell ⟨d,k,none⟩ v) c:=by
 obtain⟨u,y,i,e,h⟩:=h;exact⟨u,y,i,e,(af _ _ _ _ o).trans h⟩
theorem lC{w w1:World}{b k:Nat}{y G u o:Int}(h:w.heap[k]? = some (four y G u o))(H:w.grownBy w1 (some b))(J:k≠b): k<w1.heap.size/\w1.cell? ⟨k,0,none⟩=some (.int .i64 y)/\w1.cell? ⟨k,1,none⟩=some (.int .i64 G)/\w1.cell? ⟨k,2,none⟩=some (.int .i64 u)/\w1.cell? ⟨k,3,none⟩=some (.int .i64 o) /\ w1.frozen? ⟨k,0,none⟩=false/\w1.frozen? ⟨k,1,none⟩=false/\w1.frozen? ⟨k,2,none⟩=false/\w1.frozen? ⟨k,3,none⟩=false:=by
 have i:=cm H h (by intro e;injection e;omega);unfold four at i;exact⟨bz i,by simp[World.cell?,World.frozen?,i]⟩
def Ka(e:Ending):Prop:=∃a0 a1 a2 a3:Int,e=.returned (.agg #[.int .i64 a0,.int .i64 a1,.int .i64 a2,.int .i64 a3])
theorem List.mX{α:Type}(l:List α)(n:Nat)(d:α):(l.drop n).head?.getD d=l.getD n d:=by simp[List.head?_drop,List.getD]
theorem Bv(b:Nat)(s:ByteArray)(p R F L:Nat)(r f l:Int)(w:World)(h:w.heap[b]? = some (jc s p false))(hs:s.size<=maxLen)(aU:s.size<=140737488355328)(hp:p<=s.size)(hr:Hid (r=R))(hf:Hid (f=F))(hl:Hid (l=L))(h1:1<=R)(h2:1<=F)(h3:R<=8)(h4:F<=8): Calls prog 54 #[.pointer (some ⟨b,0,none⟩),.int .i64 r,.int .i64 l,.int .i64 f] w λe w'=>Ka e/\w'.heap[b]? = some (jc s ((M.ins s p R F L).1:Nat) (!(M.ins s p R F L).2))/\w.grownBy w' (some b):=by
 have hb:=bz h;have H:Hid (w.heap[b]? = some (jc s p false)):=h;have HS:Hid (s.size<=maxLen):=hs;clear h hs;go_in;go_wp2_with fail
 refine(G6 b s p R F L _ (ga (ga H.out _) _) HS.out hp).mono ?_;rintro e w1 ⟨op,q,bad,rfl,aC,hq,hh,hg,a9⟩;have aB:w.grownBy w1 (some b):=an (an (ah _ _ _) (ah _ _ _)) hg;have F8:eW w1 w.heap.size:=eW.kept (w:=(w.alloc (four 0 0 0 0)).alloc (four 0 0 0 0)) ⟨0,0,0,0,(ak _ _ _ (by simp)).trans (bf w _)⟩ hg (by omega);have F9:eW w1 (w.heap.size+1):=eW.kept (w:=(w.alloc (four 0 0 0 0)).alloc (four 0 0 0 0)) ⟨0,0,0,0,by have:=bf (w.alloc (four 0 0 0 0)) (four 0 0 0 0);simpa using this⟩ hg (by omega);obtain⟨⟨x9,d9⟩,e9⟩:=F9.cell 0 (by omega);have HH:Hid (w1.heap[b]? = some (jc s q bad)):=hh;have HR:Hid (M.ud s R F L (M.k1 op) (M.kd.getD op []) 1 (q,bad)=((M.ins s p R F L).1,!(M.ins s p R F L).2)):=a9;have HG:Hid (w.grownBy w1 (some b)):=aB;have H8:Hid (eW w1 w.heap.size):=F8;have H9:Hid (eW w1 (w.heap.size+1)):=F9;clear hh a9 aB F8 F9 hg;go_wp2_with fail
 refine(uA op _ aC).mono ?_;rintro e w2 ⟨rfl,hB⟩;have gB:(w1.setCell ⟨w.heap.size+1,0,none⟩ (.int .i64 op)).grownBy w2 (some b):=jz (by simpa using hB);have KG:Hid (w.grownBy w2 (some b)):=an (bp HG.out (ab (by simp)) _) gB;have gN:(w1.setCell ⟨w.heap.size+1,0,none⟩ (.int .i64 op)).grownBy w2 (some w2.heap.size):=jz (by simpa using hB);have aG:=hB.size;simp[World.setCell]at aG;have KB:Hid (w2.heap[b]? = some (jc s q bad)):=cm gN (gL HH.out (by omega)) (by intro e;injection e;have:=bz HH.out;omega);have K8:Hid (eW w2 w.heap.size):=eW.kept (eW.other H8.out (by omega)) gB (by omega);have K9:Hid (eW w2 (w.heap.size+1)):=eW.kept (eW.set H9.out 0 (by omega) _) gB (by omega);obtain⟨kf,kz⟩:=M.mC op aC;have KL:Hid (M.eX (M.KS op)=M.kd.getD op []):=kf;clear gB gN hB HH HG H8 H9 d9 e9 kf;generalize hS:M.KS op=S at *;clear hS;have aJ:1<S.size:=by omega
 have HM:Hid (S[1].toNat=M.k1 op):=by
  show _=_;have e:=M.kx S 1 aJ;have e2:M.k1 op=(M.eX S).getD 1 0:=by rw[KL.out];rfl
  rw[e2,<-List.mX,e];rfl
 have KZ:Hid (S.size=3):=kz;have aX:S.size<=3:=by omega
 have b0:3<=S.size:=by omega
 have b5:(1:Int)<S.size:=by omega
 have aE:Hid (M.ud s R F L (M.k1 op) ((M.eX S).drop 0) (0+1) (q,bad)=((M.ins s p R F L).1,!(M.ins s p R F L).2)):=by show _=_;rw[KL.out];exact HR.out
 clear kz HR;generalize M.k1 op=m at *;go_wp2_with fail
 go_loopw [11] (λi wr=>∃(k q:Nat) (bad:Bool),k<=3/\q<=s.size/\i=.int .i64 ((k:Int)+1)/\Hid (wr.heap[b]? = some (jc s q bad))/\Hid (w.grownBy wr (some b))/\Hid (eW wr w.heap.size)/\Hid (eW wr (w.heap.size+1))/\Hid (M.ud s R F L m ((M.eX S).drop k) (k+1) (q,bad)=((M.ins s p R F L).1,!(M.ins s p R F L).2))) (λi _=>4-(intOf i).toNat)
 case atStart=>exact⟨0,q,bad,by omega,hq,rfl,KB,KG,K8,K9,aE⟩
 case round=>
  clear hq KB KG K8 K9 aE;obtain⟨k,q,bad,hk,hq,rfl,rB,rG,r8,r9,rC⟩:=hrel;by_cases aZ:k<3
  .have aN:k<S.size:=by omega
   have hc:=M.kx S k aN;have W:Hid (M.ud s R F L m ((M.eX S).drop (k+1)) (k+1+1) (M.qK s R F L m (k+1) S[k].toNat q bad)=((M.ins s p R F L).1,!(M.ins s p R F L).2)):=by
    show _=_;rw[<-rC.out,hc];rfl
   have aM:Hid (k=1->S[k].toNat=m):=by
    intro e;subst e;exact HM.out
   clear hc rC;have b1:1<=r:=by have:=hr.out;omega
   have b2:r<=8:=by have:=hr.out;omega
   have b3:1<=f:=by have:=hf.out;omega
   have b4:f<=8:=by have:=hf.out;omega
   by_cases e1:k=1/\m=116
   .obtain⟨e1,em⟩:=e1;have g2:(((k:Int)+1) == 2)=true:=by simp;omega
    have aA:Hid (k=1):=e1;clear e1;have g3:((S[1].toNat:Int) == 116)=true:=by have:=HM.out;simp;omega
    have a8:Hid (S[k].toNat=116):=by show _=_;rw[aM.out aA.out,em]
    have q0:((S[k].toNat:Int) == 114)=false:=by have:=a8.out;simp;omega
    have q1:((S[k].toNat:Int) == 102)=false:=by have:=a8.out;simp;omega
    have q2:((S[k].toNat:Int) == 115)=false:=by have:=a8.out;simp;omega
    have q3:((S[k].toNat:Int) == 45)=false:=by have:=a8.out;simp;omega
    have a7:Hid (M.qK s R F L m (k+1) S[k].toNat q bad=M.nx s 255 q (bad || M.tb s L q)):=by
     show _=_;unfold M.qK;rw[a8.out,M.xF];have:=aA.out;simp[this,em]
    clear em;obtain⟨y0,y1,y2⟩:=fZ rB.out;obtain⟨_,u2⟩:=jI rB.out
    cases bad with
    |true=>
     have HB:Hid (M.qK s R F L m (k+1) S[k].toNat q true=M.nx s 255 q true):=by show _=_;rw[a7.out];simp
     clear a7;go_wp2_with fail
     go_quiet (fail)
     go_wp2_with fail
     refine(nK b s q (255) true (255) (wr.drewN nq) rB.out HS.out hq rfl).mono ?_;rintro e J ⟨x,rfl,hh,o⟩;have a5:=(M.xl (s:=s) (hi:=255) (q:=q) (bad:=true) hq).2;have a4:Hid (J.heap[b]? = some (jc s ((M.nx s (255) q true).1:Nat) (M.nx s (255) q true).2)):=hh;have Z:Hid (w.grownBy J (some b)):=an (db rG.out _) o;have a6:Hid (eW J w.heap.size):=eW.kept (w:=(wr.drewN nq)) r8.out o (by omega);have G:Hid (eW J (w.heap.size+1)):=eW.kept (w:=(wr.drewN nq)) r9.out o (by omega);obtain⟨⟨y,d4⟩,e4⟩:=G.out.cell (k+1) (by omega);rw[HB.out]at W;clear hh o HB rB rG r8 r9;generalize M.nx s (255) q true=st at *;obtain⟨q',u⟩:=st;go_wp2_with fail
     go_roundw
     case rel=>exact⟨k+1,q',u,by omega,a5,by go_num,gL a4.out (by omega),bp Z.out (ab (by simp)) _,eW.other a6.out (by omega),eW.set G.out (k+1) (by omega) x,W⟩
     case measure=>simp[intOf];omega
    |false=>
     by_cases ez:q+1<s.size
     .have aL:IntKind.i64.wrap ((q:Int)+1)=(q:Int)+1:=by rw[bl,bd _ (by omega)]
      have aI:q<s.size:=by omega
      have aW:s[q].toNat<256:=eI _;have aS:s[q+1].toNat<256:=eI _;have aP:IntKind.i64.wrap (s[q].toNat:Int)=(s[q].toNat:Int):=by rw[bl,bd _ (by omega)]
      have aQ:IntKind.i64.wrap (256*(s[q].toNat:Int))=256*(s[q].toNat:Int):=by rw[bl,bd _ (by omega)]
      have aY:IntKind.i64.wrap (s[q+1].toNat:Int)=(s[q+1].toNat:Int):=by rw[bl,bd _ (by omega)]
      have aR:IntKind.i64.wrap (256*(s[q].toNat:Int)+(s[q+1].toNat:Int))=256*(s[q].toNat:Int)+(s[q+1].toNat:Int):=by rw[bl,bd _ (by omega)]
      have aT:((q:Int)+1).toNat=q+1:=by omega
      have aO:(q:Int)+1<(s.size:Int):=by omega
      have aV:(0:Int)<=q+1:=by omega
      have g4:decide ((q:Int)+1<(s.size:Int))=true:=by simp;omega
      have t1:=M.lF s q aI;have t2:=M.lF s (q+1) ez;by_cases ev:L<256*M.bt s q+M.bt s (q+1)
      .have g5:decide (l<256*(s[q].toNat:Int)+(s[q+1].toNat:Int))=true:=by have:=hl.out;rw[<-t1,<-t2];simp;omega
       have g6:l<256*(s[q].toNat:Int)+(s[q+1].toNat:Int):=by simpa using g5
       have HB:Hid (M.qK s R F L m (k+1) S[k].toNat q false=M.nx s 255 q true):=by show _=_;rw[a7.out];unfold M.tb;simp[ez,ev]
       clear a7 t1 t2 ev;go_wp2_with fail
       go_quiet (fail)
       go_wp2_with fail
       refine(nK b s q (255) true (255) ((wr.drewN nq).setCell ⟨b,2,none⟩ (.bool true)) (wX (w:=wr.drewN nq) rB.out true) HS.out hq rfl).mono ?_;rintro e J ⟨x,rfl,hh,o⟩;have a5:=(M.xl (s:=s) (hi:=255) (q:=q) (bad:=true) hq).2;have a4:Hid (J.heap[b]? = some (jc s ((M.nx s (255) q true).1:Nat) (M.nx s (255) q true).2)):=hh;have Z:Hid (w.grownBy J (some b)):=an (bp (db rG.out _) (ag rfl) _) o;have a6:Hid (eW J w.heap.size):=eW.kept (w:=((wr.drewN nq).setCell ⟨b,2,none⟩ (.bool true))) (eW.other r8.out (by omega)) o (by omega);have G:Hid (eW J (w.heap.size+1)):=eW.kept (w:=((wr.drewN nq).setCell ⟨b,2,none⟩ (.bool true))) (eW.other r9.out (by omega)) o (by omega);obtain⟨⟨y,d4⟩,e4⟩:=G.out.cell (k+1) (by omega);rw[HB.out]at W;clear hh o HB rB rG r8 r9;generalize M.nx s (255) q true=st at *;obtain⟨q',u⟩:=st;go_wp2_with fail
       go_roundw
       case rel=>exact⟨k+1,q',u,by omega,a5,by go_num,gL a4.out (by omega),bp Z.out (ab (by simp)) _,eW.other a6.out (by omega),eW.set G.out (k+1) (by omega) x,W⟩
       case measure=>simp[intOf];omega
      have g5:decide (l<256*(s[q].toNat:Int)+(s[q+1].toNat:Int))=false:=by have:=hl.out;rw[<-t1,<-t2];simp;omega
      have g6:256*(s[q].toNat:Int)+(s[q+1].toNat:Int)<=l:=by simpa using g5
      have HB:Hid (M.qK s R F L m (k+1) S[k].toNat q false=M.nx s 255 q false):=by show _=_;rw[a7.out];unfold M.tb;simp[ez,ev]
      clear a7 t1 t2 ev;go_wp2_with fail
      go_quiet (fail)
      go_wp2_with fail
      refine(nK b s q (255) false (255) (wr.drewN nq) rB.out HS.out hq rfl).mono ?_;rintro e J ⟨x,rfl,hh,o⟩;have a5:=(M.xl (s:=s) (hi:=255) (q:=q) (bad:=false) hq).2;have a4:Hid (J.heap[b]? = some (jc s ((M.nx s (255) q false).1:Nat) (M.nx s (255) q false).2)):=hh;have Z:Hid (w.grownBy J (some b)):=an (db rG.out _) o;have a6:Hid (eW J w.heap.size):=eW.kept (w:=(wr.drewN nq)) r8.out o (by omega);have G:Hid (eW J (w.heap.size+1)):=eW.kept (w:=(wr.drewN nq)) r9.out o (by omega);obtain⟨⟨y,d4⟩,e4⟩:=G.out.cell (k+1) (by omega);rw[HB.out]at W;clear hh o HB rB rG r8 r9;generalize M.nx s (255) q false=st at *;obtain⟨q',u⟩:=st;go_wp2_with fail
      go_roundw
      case rel=>exact⟨k+1,q',u,by omega,a5,by go_num,gL a4.out (by omega),bp Z.out (ab (by simp)) _,eW.other a6.out (by omega),eW.set G.out (k+1) (by omega) x,W⟩
      case measure=>simp[intOf];omega
     have aL:IntKind.i64.wrap ((q:Int)+1)=(q:Int)+1:=by rw[bl,bd _ (by omega)]
     have g4:decide ((q:Int)+1<(s.size:Int))=false:=by simp;omega
     have HB:Hid (M.qK s R F L m (k+1) S[k].toNat q false=M.nx s 255 q false):=by show _=_;rw[a7.out];unfold M.tb;simp[ez]
     clear a7;go_wp2_with fail
     go_quiet (fail)
     go_wp2_with fail
     refine(nK b s q (255) false (255) (wr.drewN nq) rB.out HS.out hq rfl).mono ?_;rintro e J ⟨x,rfl,hh,o⟩;have a5:=(M.xl (s:=s) (hi:=255) (q:=q) (bad:=false) hq).2;have a4:Hid (J.heap[b]? = some (jc s ((M.nx s (255) q false).1:Nat) (M.nx s (255) q false).2)):=hh;have Z:Hid (w.grownBy J (some b)):=an (db rG.out _) o;have a6:Hid (eW J w.heap.size):=eW.kept (w:=(wr.drewN nq)) r8.out o (by omega);have G:Hid (eW J (w.heap.size+1)):=eW.kept (w:=(wr.drewN nq)) r9.out o (by omega);obtain⟨⟨y,d4⟩,e4⟩:=G.out.cell (k+1) (by omega);rw[HB.out]at W;clear hh o HB rB rG r8 r9;generalize M.nx s (255) q false=st at *;obtain⟨q',u⟩:=st;go_wp2_with fail
     go_roundw
     case rel=>exact⟨k+1,q',u,by omega,a5,by go_num,gL a4.out (by omega),bp Z.out (ab (by simp)) _,eW.other a6.out (by omega),eW.set G.out (k+1) (by omega) x,W⟩
     case measure=>simp[intOf];omega
   have HG:Hid ((((k:Int)+1) == 2)=false\/((((k:Int)+1) == 2)=true/\((S[1].toNat:Int) == 116)=false)):=by
    by_cases e2:k=1
    .exact ab ⟨by simp;omega,by have:=HM.out;have:m≠116:=λe=>e1 ⟨e2,e⟩;simp;omega⟩
    exact ag (by simp;omega)
   have HZ:Hid (∃(X:Nat) (Y:Int),Y=(X:Int)/\M.qK s R F L m (k+1) S[k].toNat q bad=M.nx s X q bad/\((((S[k].toNat:Int) == 114)=true/\Y=r-1)\/(((S[k].toNat:Int) == 114)=false/\((S[k].toNat:Int) == 102)=true/\Y=f-1)\/(((S[k].toNat:Int) == 114)=false/\((S[k].toNat:Int) == 102)=false/\((S[k].toNat:Int) == 115)=true/\Y=8)\/(((S[k].toNat:Int) == 114)=false/\((S[k].toNat:Int) == 102)=false/\((S[k].toNat:Int) == 115)=false/\((S[k].toNat:Int) == 45)=true/\Y=0)\/(((S[k].toNat:Int) == 114)=false/\((S[k].toNat:Int) == 102)=false/\((S[k].toNat:Int) == 115)=false/\((S[k].toNat:Int) == 45)=false/\Y=255))):=by
    have h9:M.qK s R F L m (k+1) S[k].toNat q bad=M.nx s (M.BM R F S[k].toNat) q bad:=by
     unfold M.qK;by_cases e2:k=1
     .have:m≠116:=λe=>e1 ⟨e2,e⟩;simp[this]
     simp[e2]
    unfold M.BM at h9;by_cases z0:S[k].toNat=114
    .rw[aj z0]at h9;exact⟨_,r-1,by have:=hr.out;omega,h9,ag ⟨by simp;omega,rfl⟩⟩
    rw[aa z0]at h9;have q0:((S[k].toNat:Int) == 114)=false:=by simp;omega
    by_cases z1:S[k].toNat=102
    .rw[aj z1]at h9;exact⟨_,f-1,by have:=hf.out;omega,h9,ab (ag ⟨q0,by simp;omega,rfl⟩)⟩
    rw[aa z1]at h9;have q1:((S[k].toNat:Int) == 102)=false:=by simp;omega
    by_cases z2:S[k].toNat=115
    .rw[aj z2]at h9;exact⟨_,8,rfl,h9,ab (ab (ag ⟨q0,q1,by simp;omega,rfl⟩))⟩
    rw[aa z2]at h9;have q2:((S[k].toNat:Int) == 115)=false:=by simp;omega
    by_cases z3:S[k].toNat=45
    .rw[aj z3]at h9;exact⟨_,0,rfl,h9,ab (ab (ab (ag ⟨q0,q1,q2,by simp;omega,rfl⟩)))⟩
    rw[aa z3]at h9;exact⟨_,255,rfl,h9,ab (ab (ab (ab ⟨q0,q1,q2,by simp;omega,rfl⟩)))⟩
   obtain⟨X,Y,aD,hT,aF⟩:=HZ.out;have aH:Hid (Y=(X:Int)):=aD;have HB:Hid (M.qK s R F L m (k+1) S[k].toNat q bad=M.nx s X q bad):=hT;clear HZ aD hT e1;rcases HG.out with g2|⟨g2,g3⟩<;>rcases aF with⟨q0,rfl⟩|⟨q0,q1,rfl⟩|⟨q0,q1,q2,rfl⟩|⟨q0,q1,q2,q3,rfl⟩|⟨q0,q1,q2,q3,rfl⟩
   all_goals
    clear HG;go_wp2_with fail
    go_quiet (fail)
    go_wp2_with fail
    refine(nK b s q X bad _ (wr.drewN nq) rB.out HS.out hq (by have:=aH.out;omega)).mono ?_;rintro e J ⟨x,rfl,hh,o⟩;have a5:=(M.xl (s:=s) (hi:=X) (q:=q) (bad:=bad) hq).2;have a4:Hid (J.heap[b]? = some (jc s ((M.nx s X q bad).1:Nat) (M.nx s X q bad).2)):=hh;have Z:Hid (w.grownBy J (some b)):=an (db rG.out _) o;have a6:Hid (eW J w.heap.size):=eW.kept (w:=(wr.drewN nq)) r8.out o (by omega);have G:Hid (eW J (w.heap.size+1)):=eW.kept (w:=(wr.drewN nq)) r9.out o (by omega);obtain⟨⟨y,d4⟩,e4⟩:=G.out.cell (k+1) (by omega);rw[HB.out]at W;clear hh o HB rB rG r8 r9;generalize M.nx s X q bad=st at *;obtain⟨q',u⟩:=st;go_wp2_with fail
    go_roundw
    case rel=>exact⟨k+1,q',u,by omega,a5,by go_num,gL a4.out (by omega),bp Z.out (ab (by simp)) _,eW.other a6.out (by omega),eW.set G.out (k+1) (by omega) x,W⟩
    case measure=>simp[intOf];omega
  obtain rfl:k=3:=by omega
  have HC:Hid ((q,bad)=((M.ins s p R F L).1,!(M.ins s p R F L).2)):=by
   show _=_;have e:(M.eX S).drop 3=[]:=by have:=M.qB S;rw[KZ.out]at this;exact this
   rw[<-rC.out,e];rfl
  obtain⟨a0,a1,a2,a3,f9⟩:=r9.out;obtain⟨z0,z1,z2,z3,f8⟩:=r8.out;obtain⟨_,d0,d1,d2,d3,_,_,_,_⟩:=lC f9 (ax wr (some b)) (by omega);obtain⟨_,c0,c1,c2,c3,e0,e1,e2,e3⟩:=lC f8 (ax wr (some b)) (by omega);clear f8 f9 r8 r9 rC;go_wp2_with fail
  refine da (v:=.agg #[.int .i64 a0,.int .i64 a1,.int .i64 a2,.int .i64 a3]) (by simp[results,results54,go_sem,c0,c1,c2,c3]) rfl ⟨⟨_,_,_,_,rfl⟩,?_,?_⟩
  .have hc:=HC.out;simp only[Prod.mk.injEq]at hc;rw[<-hc.1,<-hc.2];repeat (rw[af _ _ _ _ (by simp;omega)])
   exact rB.out
  repeat (refine bp ?_ (ab (by simp)) _)
  exact rG.out
