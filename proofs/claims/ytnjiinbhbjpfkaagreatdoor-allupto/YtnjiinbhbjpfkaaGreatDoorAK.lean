import Derived.Test.YtnjiinbhbjpfkaaGreatDoorAB
import Derived.Test.YtnjiinbhbjpfkaaGreatDoorAC
set_option maxRecDepth 100000
set_option maxHeartbeats 0
set_option linter.all false
namespace Go.Proofs.YtnjiinbhbjpfkaaGreatDoor
open Go.RowKit Go.Proofs.Tryz
section
theorem Fh(b:Nat)(s:ByteArray)(p i hi:Int)(w:aa)(h:w.heap[b]?=some (kX s p true)):dC 53 #[.pointer<|some<|az b 0,ah i,ah hi] w (ah i) λw'=>∃n,w'=(w.drewN n).setCell (az b 2) (.bool true):=by
 let⟨c0,c1,y⟩:=iK h;let⟨o,u⟩:=lT h;delta dC;go_in;go_wp2
 go_quiet (fail)
 go_wp2
 go_ret;exact⟨rfl,_,rfl⟩
theorem Fk(b:Nat)(s:ByteArray)(i hi:Int)(w:aa)(h:w.heap[b]?=some (kX s s.size false)):dC 53 #[.pointer<|some<|az b 0,ah i,ah hi] w (ah i) λw'=>∃n,w'=(w.drewN n).setCell (az b 2) (.bool true):=by
 let⟨c0,c1,y⟩:=iK h;let⟨o,u⟩:=lT h;delta dC;go_in;go_wp2
 go_quiet (fail)
 go_wp2
 go_ret;exact⟨rfl,_,rfl⟩
theorem Fj(b:Nat)(s:ByteArray)(p:Nat)(i hi:Int)(w:aa)(h:w.heap[b]?=some (kX s p false))(y:p<s.size)(hx:(s[p].toNat:Int)<i):dC 53 #[.pointer<|some<|az b 0,ah i,ah hi] w (ah i) λw'=>∃n,w'=(w.drewN n).setCell (az b 2) (.bool true):=by
 let⟨c0,c1,J⟩:=iK h;let⟨G,H⟩:=lT h;have o:s[p].toNat<256:=fL _;have u:IntKind.i64.wrap (s[p].toNat:Int)=(s[p].toNat:Int):=jA
 have g1:decide (s.size<=p)=false:=fV
 delta dC;go_in;go_wp2
 go_quiet (fail)
 go_wp2
 go_ret;exact⟨rfl,_,rfl⟩
theorem C3(b:Nat)(s:ByteArray)(p:Nat)(i hi:Int)(w:aa)(h:w.heap[b]?=some (kX s p false))(G:p<s.size)(y:i<=(s[p].toNat:Int))(hx:hi<(s[p].toNat:Int)):dC 53 #[.pointer<|some<|az b 0,ah i,ah hi] w (ah i) λw'=>∃n,w'=(w.drewN n).setCell (az b 2) (.bool true):=by
 let⟨c0,c1,Y⟩:=iK h;let⟨J,W⟩:=lT h;have o:s[p].toNat<256:=fL _;have u:IntKind.i64.wrap (s[p].toNat:Int)=(s[p].toNat:Int):=jA
 have g1:decide (s.size<=p)=false:=fV
 have Z:decide ((s[p].toNat:Int)<i)=false:=iE y
 delta dC;go_in;go_wp2
 go_quiet (fail)
 go_wp2
 go_ret;exact⟨rfl,_,rfl⟩
theorem Fg(b:Nat)(s:ByteArray)(p:Nat)(i hi:Int)(w:aa)(h:w.heap[b]?=some (kX s p false))(H:s.size<=9223372036854775807)(hp:p<s.size)(G:i<=(s[p].toNat:Int))(hx:(s[p].toNat:Int)<=hi):dC 53 #[.pointer<|some<|az b 0,ah i,ah hi] w (ah (s[p].toNat:Int)) λw'=>∃n m,w'=((w.drewN n).setCell (az b 1)<|ah<|p+1).drewN m:=by
 let⟨c0,c1,Z⟩:=iK h;let⟨W,Y⟩:=lT h;have o:s[p].toNat<256:=fL _;have u:IntKind.i64.wrap (s[p].toNat:Int)=(s[p].toNat:Int):=jA
 have g1:decide (s.size<=p)=false:=fV
 have g2:decide ((s[p].toNat:Int)<i)=false:=iE G
 have J:decide (hi<(s[p].toNat:Int))=false:=iE hx
 have y:IntKind.i64.wrap ((p:Int)+1-1)=(p:Int):=by rw[fz,dL _ af];omega
 delta dC;go_in;go_wp2
 go_quiet (fail)
 go_wp2
 go_quiet (fail)
 go_wp2
 go_ret;exact⟨rfl,_,_,rfl⟩
theorem mP(b:Nat)(s:ByteArray)(p L H:Nat)(i hi:Int)(w:aa)(h:w.heap[b]?=some (kX s p false))(u:s.size<=maxLen)(W:i=L)(J:hi=H)(ht:M.tk s p L H=true):dC 53 #[.pointer<|some<|az b 0,ah i,ah hi] w (ah<|M.bt s p) λw'=>w'.heap[b]?=some (kX s ((p+1:Nat):Int) false)/\w.grownBy w' (some b):=by
 let⟨o,G,y⟩:=M.gZ ht;have e:=M.pc s p o;rw[e]at G y⊢;refine dq (Fg b s p i hi w h (by grind[maxLen]) o af af) ?_;rintro w' ⟨n,m,rfl⟩;exact⟨rfl,ES (w:=w.drewN n) h _,df (bu (df (aw _ _) _) (ag rfl) _) _⟩
theorem se(b:Nat)(s:ByteArray)(p L H:Nat)(bad:Bool)(i hi:Int)(w:aa)(h:w.heap[b]?=some (kX s p bad))(Y:p<=s.size)(G:i=L)(y:hi=H)(ht:bad=true\/M.tk s p L H=false):dC 53 #[.pointer<|some<|az b 0,ah i,ah hi] w (ah i) λw'=>w'.heap[b]?=some (kX s p true)/\w.grownBy w' (some b):=by
 have fin:∀n,((iA (w.drewN n) b 2<|.bool true).heap[b]?=some (kX s p true))/\w.grownBy (iA (w.drewN n) b 2<|.bool true) (some b):=λn=>
  ⟨y9 (w:=w.drewN n) h _,bu (df (aw _ _) _) (ag rfl) _⟩
 cases bad with
 |true=>
  refine dq (Fh b s p i hi w h) ?_;grind
 |false=>
  have o:M.tk s p L H=false:=iE ht
  by_cases u:p<s.size
  .have e:=M.pc s p u;by_cases W:M.bt s p<L
   .refine dq (Fj b s p i hi w h u af) ?_;grind
   have J:H<M.bt s p:=by simp[M.tk]at o;omega
   refine dq (C3 b s p i hi w h u af af) ?_;grind
  obtain rfl:p=s.size:=by omega
  refine dq (Fk b s i hi w h) ?_;grind
def KL:List Value:=[.string {data:=#[114,107,107]},.string {data:=#[114,114,45]},.string {data:=#[114,114,114]},.string {data:=#[114,114,114]},.string {data:=#[114,114,114]},.string {data:=#[114,114,114]},.string {data:=#[114,114,114]},.string {data:=#[45,116,116]},.string {data:=#[114,116,116]},.string {data:=#[114,115,45]},.string {data:=#[114,114,114]},.string {data:=#[114,114,114]},.string {data:=#[114,102,114]},.string {data:=#[114,114,114]},.string {data:=#[114,45,45]},.string {data:=#[114,114,114]},.string {data:=#[45,45,45]},.string {data:=#[114,45,45]},.string {data:=#[114,114,45]},.string {data:=#[114,45,45]},.string {data:=#[114,45,45]},.string {data:=#[114,114,45]},.string {data:=#[114,45,45]}]
theorem LL:KL=(List.range 23).map (λi=>Value.string<|M.KS i):=by rfl
theorem NJ(op:Nat)(h:op<KL.length):KL[op]=.string (M.KS op):=by
 grind[KL,M.KS,LL,List.getElem_eq_iff]
theorem Dh(op:Nat)(w:aa)(h:op<23):dC 80 #[ah op] w (.string<|M.KS op) λw'=>Below w.heap.size w w':=by
 delta dC;go_in;go_wp2
 go_ret;exact⟨congrArg Ending.returned<|NJ op h,(fS _ _).alloc (bm _) _⟩
end
section
variable {bad:Bool}{p:Int}{s:ByteArray}{v:Value}{w:aa}
theorem pK(b:Nat)(s:ByteArray)(p H:Nat)(bad:Bool)(hi:Int)(w:aa)(h:w.heap[b]?=some (kX s p bad))(y:s.size<=maxLen)(hp:p<=s.size)(u:hi=H):Calls prog 53 #[.pointer<|some<|az b 0,ah 0,ah hi] w λe w'=>∃x:Int,e=.returned (ah x)/\w'.heap[b]?=some (kX s ((M.nx s H p bad).1:Nat) (M.nx s H p bad).2)/\w.grownBy w' (some b)/\((M.nx s H p bad).2=false->bad=false/\(M.nx s H p bad).1=p+1/\x=M.bt s p):=by
 cases bad with
 |true=>
  rw[M.Ff];refine dq (se b s p 0 H true 0 hi w h hp rfl u (ag rfl)) ?_;grind
 |false=>
  by_cases ht:M.tk s p 0 H=true
  .have e:M.nx s H p false=(p+1,false):=by simp[M.nx,ht]
   rw[e];refine dq (mP b s p 0 H 0 hi w h y rfl u ht) ?_;grind
  have e:M.nx s H p false=(p,true):=by simp[M.nx,ht]
  rw[e];refine dq (se b s p 0 H false 0 hi w h hp rfl u (ak ey)) ?_;grind
theorem Kw(b:Nat)(s:ByteArray)(p R F L:Nat)(w:aa)(h:w.heap[b]?=some (kX s p false))(u:s.size<=maxLen)(hp:p<=s.size):Calls prog 53 #[.pointer<|some<|az b 0,ah 0,ah 22] w λe w'=>∃(op q:Nat) (bad:Bool),e=.returned (ah op)/\op<23/\q<=s.size/\w'.heap[b]?=some (kX s q bad)/\w.grownBy w' (some b)/\M.vK s R F L (M.k1 op) (M.kd.getD op []) 1 (q,bad)=((M.ins s p R F L).1,!(M.ins s p R F L).2)/\(bad=false->q=p+1/\(op:Int)=M.bt s p):=by
 by_cases ht:M.tk s p 0 22=true
 .have e:M.ins s p R F L=M.uX s (p+1) (M.bt s p) R F L:=by unfold M.ins;rw[bf ht]
  have y:=M.gZ ht;rw[e];refine dq (mP b s p 0 22 0 22 w h u rfl rfl ht) ?_;rintro w' ⟨i,o⟩;exact⟨M.bt s p,p+1,false,rfl,af,af,i,o,M.Gv s (p+1) (M.bt s p) R F L af,λ_=>⟨rfl,rfl⟩⟩
 have e:M.ins s p R F L=(p,false):=by unfold M.ins;rw[av ht]
 rw[e];refine dq (se b s p 0 22 false 0 22 w h hp rfl rfl (ak ey)) ?_;rintro w' ⟨i,o⟩;exact⟨0,p,true,rfl,af,hp,i,o,M.Gw _ _ _ _ _ _ _ _,λe=>by cases e⟩
def jx{b:Nat}(h:w.heap[b]?=some (kX s p bad))(o:Obj):(w.alloc o).heap[b]?=some (kX s p bad):=(au _ _ _<|ch h).trans h
def kN{b x k:Nat}(h:w.heap[b]?=some (kX s p bad))(hx:b≠x):(w.setCell (az x k) v).heap[b]?=some (kX s p bad):=(ab _ _ _ _ hx).trans h
def four(a0 a1 a2 a3:Int):Obj:=.cells #[.int .i64 a0,.int .i64 a1,.int .i64 a2,.int .i64 a3] 90 (0,0)
def kg(w:aa)(c:Nat):Prop:=∃a0 a1 a2 a3,w.heap[c]?=some (four a0 a1 a2 a3)
theorem kg.kept{w':aa}{c b:Nat}(h:kg w c)(u:w.grownBy w' (some b))(H:c≠b):kg w' c:=by
 obtain⟨y,G,o,i,h⟩:=h;exact⟨y,G,o,i,da u h ey⟩
theorem kg.cell{c:Nat}(h:kg w c)(k:Nat)(y:k<4):(∃x:Int,w.cell? (az c k)=some (ah x))/\w.frozen? (az c k)=false:=by
 obtain⟨o,u,i,e,h⟩:=h;match k,y with
 |0,_=>grind[World.cell?,four,World.frozen?]
 |1,_=>grind[World.cell?,four,World.frozen?]
 |2,_=>grind[World.cell?,four,World.frozen?]
 |3,_=>simp_all[World.cell?,four,World.frozen?]
def kg.other{c d k:Nat}(h:kg w c)(o:c≠d):kg (w.setCell (az d k) v) c:=by
 obtain⟨u,y,i,e,h⟩:=h;exact⟨u,y,i,e,(ab _ _ _ _ o).trans h⟩
def tz(s:ByteArray)(p k q:Nat)(bad:Bool)(w:aa)(c:Nat):Prop:=∃a:Nat->Int,w.heap[c]?=some (four (a 0) (a 1) (a 2)<|a 3)/\(bad=false->q=p+1+k/\∀j,j<=k->a j=M.bt s (p+j))
section
variable {s:ByteArray}{p k q:Nat}{bad:Bool}{w w':aa}{c:Nat}
theorem tz.fr(h:tz s p k q bad w c):kg w c:=by
 obtain⟨a,h,_⟩:=h;exact⟨_,_,_,_,h⟩
theorem tz.kept{b:Nat}(h:tz s p k q bad w c)(o:w.grownBy w' (some b))(u:c≠b):tz s p k q bad w' c:=by
 obtain⟨a,h,i⟩:=h;exact⟨a,da o h ey,i⟩
def tz.other{d j:Nat}{v:Value}(h:tz s p k q bad w c)(e:c≠d):tz s p k q bad (w.setCell (az d j) v) c:=by
 obtain⟨a,h,i⟩:=h;exact⟨a,(ab _ _ _ _ e).trans h,i⟩
def tz.L6(h:tz s p k q bad w c):tz s p k q true w c:=by
 obtain⟨a,h,_⟩:=h;exact⟨a,h,λe=>by cases e⟩
theorem tz.set(h:tz s p k q bad w c)(Z:k<3){o:Nat}{i:Bool}{x:Int}(hx:i=false->bad=false/\o=q+1/\x=M.bt s q):tz s p (k+1) o i (w.setCell (az c<|k+1)<|ah x) c:=by
 obtain⟨a,h,y⟩:=h;refine⟨λj=>if j=k+1 then x else a j,?_,λe=>?_⟩
 .grind[World.setCell,four]
 grind
end
theorem tM{w w1:aa}{b k:Nat}{y G u o:Int}(h:w.heap[k]?=some (four y G u o))(H:w.grownBy w1 (some b))(J:k≠b):k<w1.heap.size/\w1.cell? (az k 0)=some (ah y)/\w1.cell? (az k 1)=some (ah G)/\w1.cell? (az k 2)=some (ah u)/\w1.cell? (az k 3)=some (ah o)/\w1.frozen? (az k 0)=false/\w1.frozen? (az k 1)=false/\w1.frozen? (az k 2)=false/\w1.frozen? (az k 3)=false:=by
 have i:=da H h ey;grind[four,ch,World.cell?,World.frozen?]
theorem List.ud{α:Type}(l:List α)(n:Nat)(d:α):(l.drop n).head?.getD d=l.getD n d:=by simp_all
theorem xj(b:Nat)(s:ByteArray)(p R F L:Nat)(r f l:Int)(w:aa)(h:w.heap[b]?=some (kX s p false))(hs:s.size<=maxLen)(bB:s.size<=140737488355328)(hp:p<=s.size)(hr:Hid (r=R))(hf:Hid (f=F))(hl:Hid (l=L))(h1:1<=R)(h2:1<=F)(h3:R<=8)(h4:F<=8):Calls prog 54 #[.pointer<|some<|az b 0,ah r,ah l,ah f] w λe w'=>(∃a0 a1 a2 a3:Int,e=.returned (.agg #[ah a0,ah a1,ah a2,ah a3])/\((M.ins s p R F L).2=true->(M.ins s p R F L).1=p+4/\a0=M.bt s p/\a1=M.bt s (p+1)/\a2=M.bt s (p+2)/\a3=M.bt s (p+3)))/\w'.heap[b]?=some (kX s ((M.ins s p R F L).1:Nat)<|!(M.ins s p R F L).2)/\w.grownBy w' (some b):=by
 have hb:=ch h;have H:Hid (w.heap[b]?=some (kX s p false)):=h;have HS:Hid (s.size<=maxLen):=hs;clear h hs;go_in;go_wp2_with fail
 refine(Kw b s p R F L _ (jx (jx H.out _) _) HS.out hp).mono ?_;rintro e w1 ⟨op,q,bad,rfl,aF,hq,hh,hg,aA,aB⟩;have aE:w.grownBy w1 (some b):=ar (ar (aj _ _ _)<|aj _ _ _) hg;have F8:kg w1 w.heap.size:=kg.kept (w:=(w.alloc<|four 0 0 0 0).alloc<|four 0 0 0 0) ⟨0,0,0,0,(au _ _ _ eG).trans<|bl w _⟩ hg af;have aD:w1.heap[w.heap.size+1]?=some (four 0 0 0 0):=da hg (by have h9:=bl (w.alloc<|four 0 0 0 0)<|four 0 0 0 0;rw[World.size_alloc]at h9;exact h9) LQ;have F9:kg w1 (w.heap.size+1):=⟨_,_,_,_,aD⟩;obtain⟨⟨x9,d9⟩,e9⟩:=F9.cell 0 af;have HH:Hid (w1.heap[b]?=some (kX s q bad)):=hh;have HR:Hid (M.vK s R F L (M.k1 op) (M.kd.getD op []) 1 (q,bad)=((M.ins s p R F L).1,!(M.ins s p R F L).2)):=aA;have HG:Hid (w.grownBy w1<|some b):=aE;have aC:Hid _:=aB;have H8:Hid (kg w1 w.heap.size):=F8;have H9:Hid _:=aD;clear hh aA aE F8 F9 aD hg aB;go_wp2_with fail
 refine dq (Dh op _ aF) λw2 hB=>?_;have gB:(iA w1 (w.heap.size+1) 0<|ah op).grownBy w2 (some b):=pO<|iE hB;have KG:Hid (w.grownBy w2<|some b):=ar (bu HG.out (ak eG) _) gB;have gN:(iA w1 (w.heap.size+1) 0<|ah op).grownBy w2 (some w2.heap.size):=pO<|iE hB;have aQ:=hB.size;simp[World.setCell]at aQ;have KB:Hid (w2.heap[b]?=some (kX s q bad)):=da gN (kN HH.out af) (by intro e;injection e;have:=ch HH.out;omega);have K8:Hid (kg w2 w.heap.size):=kg.kept (kg.other H8.out af) gB af;have K9:Hid (tz s p 0 q bad w2<|w.heap.size+1):=tz.kept (w:=iA w1 (w.heap.size+1) 0<|ah op) ⟨λj=>if j=0 then(op:Int) else 0,by have h9:=H9.out;simp[World.setCell,dp,h9,four],λe=>⟨(aC.out e).1,λj hj=>by have e0:j=0:=(by omega);subst e0;exact(aC.out e).2⟩⟩ gB af;obtain⟨kf,kz⟩:=M.pX op aF;have KL:Hid (M.fT (M.KS op)=M.kd.getD op []):=kf;clear gB gN hB HH HG H8 H9 d9 e9 kf aC;generalize hS:M.KS op=S at*;clear hS;have aS:1<S.size:=af
 have HM:Hid (S[1].toNat=M.k1 op):=by
  show _=_;have e:=M.oT S 1 aS;have e2:M.k1 op=(M.fT S).getD 1 0:=kh KL.out
  rw[e2,<-List.ud,e];rfl
 have KZ:Hid (S.size=3):=kz;have aY:S.size<=3:=af
 have b9:3<=S.size:=af
 have b6:(1:Int)<(S.size:Int):=af
 have aI:Hid (M.vK s R F L (M.k1 op) ((M.fT S).drop 0) (0+1) (q,bad)=((M.ins s p R F L).1,!(M.ins s p R F L).2)):=by show _=_;rw[KL.out];exact HR.out
 clear kz HR;generalize M.k1 op=m at*;go_wp2
 go_loopw[11] (λi wr=>∃(k q:Nat) (bad:Bool),k<=3/\q<=s.size/\i=ah ((k:Int)+1)/\Hid (wr.heap[b]?=some (kX s q bad))/\Hid (w.grownBy wr<|some b)/\Hid (kg wr w.heap.size)/\Hid (tz s p k q bad wr<|w.heap.size+1)/\Hid (M.vK s R F L m ((M.fT S).drop k) (k+1) (q,bad)=((M.ins s p R F L).1,!(M.ins s p R F L).2))) (λi _=>4-(intOf i).toNat)
 case atStart=>exact⟨0,q,bad,af,hq,rfl,KB,KG,K8,K9,aI⟩
 case round=>
  clear hq KB KG K8 K9 aI;obtain⟨k,q,bad,hk,hq,rfl,rB,rG,r8,r9,rC⟩:=hrel;by_cases b7:k<3
  .have aM:k<S.size:=af
   have hc:=M.oT S k aM;have Z:Hid (M.vK s R F L m ((M.fT S).drop<|k+1) (k+1+1) (M.vJ s R F L m (k+1) S[k].toNat q bad)=((M.ins s p R F L).1,!(M.ins s p R F L).2)):=by
    show _=_;rw[<-rC.out,hc];rfl
   have aR:Hid (k=1->S[k].toNat=m):=by
    intro e;subst e;exact HM.out
   clear hc rC;have b1:1<=r:=gD hr.out
   have b2:r<=8:=gD hr.out
   have b3:1<=f:=gD hf.out
   have b4:f<=8:=gD hf.out
   by_cases e1:k=1/\m=116
   .obtain⟨e1,em⟩:=e1;have g2:(((k:Int)+1) == 2)=true:=fV
    have aJ:Hid (k=1):=e1;clear e1;have g3:((S[1].toNat:Int) == 116)=true:=by have:=HM.out;simp;omega
    have a9:Hid (S[k].toNat=116):=by show _=_;rw[aR.out aJ.out,em]
    have q0:((S[k].toNat:Int) == 114)=false:=by have:=a9.out;simp;omega
    have q1:((S[k].toNat:Int) == 102)=false:=by have:=a9.out;simp;omega
    have q2:((S[k].toNat:Int) == 115)=false:=by have:=a9.out;simp;omega
    have q3:((S[k].toNat:Int) == 45)=false:=by have:=a9.out;simp;omega
    have a8:Hid (M.vJ s R F L m (k+1) S[k].toNat q bad=M.nx s 255 q (bad || M.tb s L q)):=by
     show _=_;unfold M.vJ;rw[a9.out,M.BX];have:=aJ.out;simp[this,em]
    clear em;obtain⟨y0,y1,y2⟩:=iK rB.out;obtain⟨_,u2⟩:=lT rB.out
    cases bad with
    |true=>
     have HB:Hid (M.vJ s R F L m (k+1) S[k].toNat q true=M.nx s 255 q true):=by show _=_;rw[a8.out];simp
     clear a8;go_wp2
     go_quiet (fail)
     go_wp2_with fail
     refine(pK b s q (255) true (255) (wr.drewN nq) rB.out HS.out hq rfl).mono ?_;rintro e W ⟨x,rfl,hh,o,hv⟩;have HV:Hid _:=hv;have a6:=(M.zu (s:=s) (hi:=255) (q:=q) (bad:=true) hq).2;have a7:Hid (W.heap[b]?=some (kX s ((M.nx s (255) q true).1:Nat) (M.nx s (255) q true).2)):=hh;have a5:Hid (w.grownBy W<|some b):=ar (df rG.out _) o;have a4:Hid (kg W w.heap.size):=kg.kept (w:=(wr.drewN nq)) r8.out o af;have u:Hid (tz s p k q true W<|w.heap.size+1):=tz.kept (w:=(wr.drewN nq)) r9.out o af;obtain⟨⟨y,d4⟩,e4⟩:=u.out.fr.cell (k+1) af;rw[HB.out]at Z;clear hh o hv HB rB rG r8 r9;generalize M.nx s (255) q true=st at*;obtain⟨q',J⟩:=st;go_wp2
     go_roundw
     case rel=>exact⟨k+1,q',J,af,a6,iI,kN a7.out af,bu a5.out (ak eG) _,kg.other a4.out af,u.out.set af (by first|exact HV.out|exact λe=>⟨rfl,(HV.out e).2⟩),Z⟩
     case measure=>simp[intOf];omega
    |false=>
     by_cases ez:q+1<s.size
     .have aN:IntKind.i64.wrap ((q:Int)+1)=(q:Int)+1:=jA
      have aP:q<s.size:=af
      have b5:s[q].toNat<256:=fL _;have b8:s[q+1].toNat<256:=fL _;have aX:IntKind.i64.wrap (s[q].toNat:Int)=(s[q].toNat:Int):=jA
      have aU:IntKind.i64.wrap (256*(s[q].toNat:Int))=256*(s[q].toNat:Int):=jA
      have aW:IntKind.i64.wrap (s[q+1].toNat:Int)=(s[q+1].toNat:Int):=jA
      have b0:IntKind.i64.wrap (256*(s[q].toNat:Int)+(s[q+1].toNat:Int))=256*(s[q].toNat:Int)+(s[q+1].toNat:Int):=jA
      have aV:((q:Int)+1).toNat=q+1:=af
      have bA:(q:Int)+1<(s.size:Int):=af
      have aZ:(0:Int)<=(q:Int)+1:=af
      have g4:decide ((q:Int)+1<(s.size:Int))=true:=fV
      have t1:=M.pc s q aP;have t2:=M.pc s (q+1) ez;by_cases ev:L<256*M.bt s q+M.bt s (q+1)
      .have g5:decide (l<256*(s[q].toNat:Int)+(s[q+1].toNat:Int))=true:=by have:=hl.out;rw[<-t1,<-t2];simp;omega
       have g6:l<256*(s[q].toNat:Int)+(s[q+1].toNat:Int):=iE g5
       have HB:Hid (M.vJ s R F L m (k+1) S[k].toNat q false=M.nx s 255 q true):=by show _=_;rw[a8.out];unfold M.tb;simp[ez,ev]
       clear a8 t1 t2 ev;go_wp2
       go_quiet (fail)
       go_wp2_with fail
       refine(pK b s q (255) true (255) (iA (wr.drewN nq) b 2<|.bool true) (y9 (w:=wr.drewN nq) rB.out true) HS.out hq rfl).mono ?_;rintro e W ⟨x,rfl,hh,o,hv⟩;have HV:Hid _:=hv;have a6:=(M.zu (s:=s) (hi:=255) (q:=q) (bad:=true) hq).2;have a7:Hid (W.heap[b]?=some (kX s ((M.nx s (255) q true).1:Nat) (M.nx s (255) q true).2)):=hh;have a5:Hid (w.grownBy W<|some b):=ar (bu (df rG.out _) (ag rfl) _) o;have a4:Hid (kg W w.heap.size):=kg.kept (w:=(iA (wr.drewN nq) b 2<|.bool true)) (kg.other r8.out af) o af;have u:Hid (tz s p k q true W<|w.heap.size+1):=tz.kept (w:=(iA (wr.drewN nq) b 2<|.bool true)) (r9.out.L6.other af) o af;obtain⟨⟨y,d4⟩,e4⟩:=u.out.fr.cell (k+1) af;rw[HB.out]at Z;clear hh o hv HB rB rG r8 r9;generalize M.nx s (255) q true=st at*;obtain⟨q',J⟩:=st;go_wp2
       go_roundw
       case rel=>exact⟨k+1,q',J,af,a6,iI,kN a7.out af,bu a5.out (ak eG) _,kg.other a4.out af,u.out.set af (by first|exact HV.out|exact λe=>⟨rfl,(HV.out e).2⟩),Z⟩
       case measure=>simp[intOf];omega
      have g5:decide (l<256*(s[q].toNat:Int)+(s[q+1].toNat:Int))=false:=by have:=hl.out;rw[<-t1,<-t2];simp;omega
      have g6:256*(s[q].toNat:Int)+(s[q+1].toNat:Int)<=l:=iE g5
      have HB:Hid (M.vJ s R F L m (k+1) S[k].toNat q false=M.nx s 255 q false):=by show _=_;rw[a8.out];unfold M.tb;simp[ez,ev]
      clear a8 t1 t2 ev;go_wp2
      go_quiet (fail)
      go_wp2_with fail
      refine(pK b s q (255) false (255) (wr.drewN nq) rB.out HS.out hq rfl).mono ?_;rintro e W ⟨x,rfl,hh,o,hv⟩;have HV:Hid _:=hv;have a6:=(M.zu (s:=s) (hi:=255) (q:=q) (bad:=false) hq).2;have a7:Hid (W.heap[b]?=some (kX s ((M.nx s (255) q false).1:Nat) (M.nx s (255) q false).2)):=hh;have a5:Hid (w.grownBy W<|some b):=ar (df rG.out _) o;have a4:Hid (kg W w.heap.size):=kg.kept (w:=(wr.drewN nq)) r8.out o af;have u:Hid (tz s p k q false W<|w.heap.size+1):=tz.kept (w:=(wr.drewN nq)) r9.out o af;obtain⟨⟨y,d4⟩,e4⟩:=u.out.fr.cell (k+1) af;rw[HB.out]at Z;clear hh o hv HB rB rG r8 r9;generalize M.nx s (255) q false=st at*;obtain⟨q',J⟩:=st;go_wp2
      go_roundw
      case rel=>exact⟨k+1,q',J,af,a6,iI,kN a7.out af,bu a5.out (ak eG) _,kg.other a4.out af,u.out.set af (by first|exact HV.out|exact λe=>⟨rfl,(HV.out e).2⟩),Z⟩
      case measure=>simp[intOf];omega
     have aN:IntKind.i64.wrap ((q:Int)+1)=(q:Int)+1:=jA
     have g4:decide ((q:Int)+1<(s.size:Int))=false:=fV
     have HB:Hid (M.vJ s R F L m (k+1) S[k].toNat q false=M.nx s 255 q false):=by show _=_;rw[a8.out];unfold M.tb;simp[ez]
     clear a8;go_wp2
     go_quiet (fail)
     go_wp2_with fail
     refine(pK b s q (255) false (255) (wr.drewN nq) rB.out HS.out hq rfl).mono ?_;rintro e W ⟨x,rfl,hh,o,hv⟩;have HV:Hid _:=hv;have a6:=(M.zu (s:=s) (hi:=255) (q:=q) (bad:=false) hq).2;have a7:Hid (W.heap[b]?=some (kX s ((M.nx s (255) q false).1:Nat) (M.nx s (255) q false).2)):=hh;have a5:Hid (w.grownBy W<|some b):=ar (df rG.out _) o;have a4:Hid (kg W w.heap.size):=kg.kept (w:=(wr.drewN nq)) r8.out o af;have u:Hid (tz s p k q false W<|w.heap.size+1):=tz.kept (w:=(wr.drewN nq)) r9.out o af;obtain⟨⟨y,d4⟩,e4⟩:=u.out.fr.cell (k+1) af;rw[HB.out]at Z;clear hh o hv HB rB rG r8 r9;generalize M.nx s (255) q false=st at*;obtain⟨q',J⟩:=st;go_wp2
     go_roundw
     case rel=>exact⟨k+1,q',J,af,a6,iI,kN a7.out af,bu a5.out (ak eG) _,kg.other a4.out af,u.out.set af (by first|exact HV.out|exact λe=>⟨rfl,(HV.out e).2⟩),Z⟩
     case measure=>simp[intOf];omega
   have HG:Hid ((((k:Int)+1) == 2)=false\/((((k:Int)+1) == 2)=true/\((S[1].toNat:Int) == 116)=false)):=by
    by_cases e2:k=1
    .exact ak ⟨fV,by have:=HM.out;have:m≠116:=λe=>e1 ⟨e2,e⟩;simp;omega⟩
    exact ag fV
   have HZ:Hid (∃(X:Nat) (Y:Int),Y=(X:Int)/\M.vJ s R F L m (k+1) S[k].toNat q bad=M.nx s X q bad/\((((S[k].toNat:Int) == 114)=true/\Y=r-1)\/(((S[k].toNat:Int) == 114)=false/\((S[k].toNat:Int) == 102)=true/\Y=f-1)\/(((S[k].toNat:Int) == 114)=false/\((S[k].toNat:Int) == 102)=false/\((S[k].toNat:Int) == 115)=true/\Y=8)\/(((S[k].toNat:Int) == 114)=false/\((S[k].toNat:Int) == 102)=false/\((S[k].toNat:Int) == 115)=false/\((S[k].toNat:Int) == 45)=true/\Y=0)\/(((S[k].toNat:Int) == 114)=false/\((S[k].toNat:Int) == 102)=false/\((S[k].toNat:Int) == 115)=false/\((S[k].toNat:Int) == 45)=false/\Y=255))):=by
    have h9:M.vJ s R F L m (k+1) S[k].toNat q bad=M.nx s (M.GX R F S[k].toNat) q bad:=by
     unfold M.vJ;by_cases e2:k=1
     .have:m≠116:=λe=>e1 ⟨e2,e⟩;simp[this]
     simp[e2]
    unfold M.GX at h9;by_cases z0:S[k].toNat=114
    .rw[bf z0]at h9;exact⟨_,r-1,gD hr.out,h9,ag ⟨fV,rfl⟩⟩
    rw[av z0]at h9;have q0:((S[k].toNat:Int) == 114)=false:=fV
    by_cases z1:S[k].toNat=102
    .rw[bf z1]at h9;exact⟨_,f-1,gD hf.out,h9,ak<|ag ⟨q0,fV,rfl⟩⟩
    rw[av z1]at h9;have q1:((S[k].toNat:Int) == 102)=false:=fV
    by_cases z2:S[k].toNat=115
    .rw[bf z2]at h9;exact⟨_,8,rfl,h9,ak<|ak<|ag ⟨q0,q1,fV,rfl⟩⟩
    rw[av z2]at h9;have q2:((S[k].toNat:Int) == 115)=false:=fV
    by_cases z3:S[k].toNat=45
    .rw[bf z3]at h9;exact⟨_,0,rfl,h9,ak<|ak<|ak<|ag ⟨q0,q1,q2,fV,rfl⟩⟩
    rw[av z3]at h9;exact⟨_,255,rfl,h9,ak<|ak<|ak<|ak ⟨q0,q1,q2,fV,rfl⟩⟩
   obtain⟨X,Y,aG,hT,aL⟩:=HZ.out;have aK:Hid (Y=(X:Int)):=aG;have HB:Hid (M.vJ s R F L m (k+1) S[k].toNat q bad=M.nx s X q bad):=hT;clear HZ aG hT e1;rcases HG.out with g2|⟨g2,g3⟩<;>rcases aL with⟨q0,rfl⟩|⟨q0,q1,rfl⟩|⟨q0,q1,q2,rfl⟩|⟨q0,q1,q2,q3,rfl⟩|⟨q0,q1,q2,q3,rfl⟩
   all_goals
    clear HG;go_wp2
    go_quiet (fail)
    go_wp2_with fail
    refine(pK b s q X bad _ (wr.drewN nq) rB.out HS.out hq<|gD aK.out).mono ?_;rintro e W ⟨x,rfl,hh,o,hv⟩;have HV:Hid _:=hv;have a6:=(M.zu (s:=s) (hi:=X) (q:=q) (bad:=bad) hq).2;have a7:Hid (W.heap[b]?=some (kX s ((M.nx s X q bad).1:Nat) (M.nx s X q bad).2)):=hh;have a5:Hid (w.grownBy W<|some b):=ar (df rG.out _) o;have a4:Hid (kg W w.heap.size):=kg.kept (w:=(wr.drewN nq)) r8.out o af;have u:Hid (tz s p k q bad W<|w.heap.size+1):=tz.kept (w:=(wr.drewN nq)) r9.out o af;obtain⟨⟨y,d4⟩,e4⟩:=u.out.fr.cell (k+1) af;rw[HB.out]at Z;clear hh o hv HB rB rG r8 r9;generalize M.nx s X q bad=st at*;obtain⟨q',J⟩:=st;go_wp2
    go_roundw
    case rel=>exact⟨k+1,q',J,af,a6,iI,kN a7.out af,bu a5.out (ak eG) _,kg.other a4.out af,u.out.set af (by first|exact HV.out|exact λe=>⟨rfl,(HV.out e).2⟩),Z⟩
    case measure=>simp[intOf];omega
  obtain rfl:k=3:=by omega
  have HC:Hid ((q,bad)=((M.ins s p R F L).1,!(M.ins s p R F L).2)):=by
   show _=_;have e:(M.fT S).drop 3=[]:=by have:=M.tI S;rw[KZ.out]at this;exact this
   rw[<-rC.out,e];rfl
  obtain⟨a,f9,aH⟩:=r9.out;have aO:Hid _:=aH;clear aH;obtain⟨z0,z1,z2,z3,f8⟩:=r8.out;obtain⟨_,d0,d1,d2,d3,_,_,_,_⟩:=tM f9 (aw wr<|some b) af;obtain⟨_,c0,c1,c2,c3,e0,e1,e2,e3⟩:=tM f8 (aw wr<|some b) af;clear f8 f9 r8 r9 rC;go_wp2
  refine dg (v:=.agg #[ah<|a 0,ah<|a 1,ah<|a 2,ah<|a 3]) (by simp[results,results54,go_sem,c0,c1,c2,c3]) rfl ⟨⟨_,_,_,_,rfl,λhy=>?_⟩,?_,?_⟩
  .have hc:=HC.out;simp only[Prod.mk.injEq]at hc;obtain⟨h4,h5⟩:=aO.out (by rw[hc.2,hy];rfl);exact⟨by rw[<-hc.1,h4],by simpa using h5 0 af,h5 1 af,h5 2 af,h5 3 af⟩
  .have hc:=HC.out;simp only[Prod.mk.injEq]at hc;rw[<-hc.1,<-hc.2];repeat (rw[ab _ _ _ _ fV])
   exact rB.out
  repeat (refine bu ?_ (ak eG) _)
  exact rG.out
theorem Gk(b:Nat)(s:ByteArray)(p R F L:Nat)(r f l:Int)(w:aa)(h:w.heap[b]?=some (kX s p false))(hs:s.size<=maxLen)(o:s.size<=140737488355328)(hp:p<=s.size)(hr:Hid (r=R))(y:Hid (f=F))(hl:Hid (l=L))(H:1<=R)(J:1<=F)(h3:R<=8)(h4:F<=8)(i:(M.ins s p R F L).2=true):dC 54 #[.pointer<|some<|az b 0,ah r,ah l,ah f] w (.agg #[ah<|M.bt s p,ah<|M.bt s<|p+1,ah<|M.bt s<|p+2,ah<|M.bt s<|p+3]) λw'=>w'.heap[b]?=some (kX s ((p+4:Nat):Int) false)/\w.grownBy w' (some b):=by
 refine(xj b s p R F L r f l w h hs o hp hr y hl H J h3 h4).mono ?_;grind
end
section
theorem zL(r f k:Nat)(s:ByteArray)(q:Nat)(h:M.tk s q 0 (M.lG r f k)=true):M.tk s q 0 (M.GX r f k)=true:=by
 let⟨H,_,e⟩:=M.gZ h;have G:M.bt s q<=M.GX r f k:=by
  have J:=M.Gu s q;unfold M.lG at e;unfold M.GX;by_cases i:k=114
  .grind
  rw[av i]at e⊢;by_cases o:k=102
  .grind
  rw[av o]at e⊢;by_cases u:k=115
  .grind
  rw[av u]at e⊢;by_cases y:k=45
  .grind
  rw[av y];omega
 simp[M.tk,H,G]
theorem Ps:∀e,e<23->M.k1 e=116->∀R F,M.k2 e=116\/M.GX R F (M.k2 e)=255:=by
 have h:∀e,e<23->M.k1 e=116->M.k2 e=116:=eo
 grind
theorem FK{s:ByteArray}{p R F L:Nat}(h:(M.ins s p R F L).2=true):M.bt s p<23/\M.tk s p 0 22=true/\p+4<=s.size/\(∀k,k<3->M.tk s (p+1+k) 0 (M.GX R F<|(M.kd.getD (M.bt s p) []).getD k 0)=true)/\(M.k1 (M.bt s p)=116->256*M.bt s (p+2)+M.bt s (p+3)<=L)/\(M.ins s p R F L).1=p+4:=by
 unfold M.ins at h⊢;by_cases y:M.tk s p 0 22=true
 case neg=>grind
 rw[bf y]at h⊢;let⟨l0,_,l2⟩:=M.gZ y;let⟨kf,Z,_⟩:=M.vm (M.bt s p) af;unfold M.uX at h⊢;by_cases G:M.tk s (p+1) 0 (M.lG R F<|M.k0<|M.bt s p)=true
 case neg=>grind
 rw[bf G]at h⊢;have Y:(M.kd.getD (M.bt s p) []).getD 0 0=M.k0 (M.bt s p):=rfl;have g1:(M.kd.getD (M.bt s p) []).getD 1 0=M.k1 (M.bt s p):=rfl;have W:(M.kd.getD (M.bt s p) []).getD 2 0=M.k2 (M.bt s p):=rfl;by_cases u:M.k1 (M.bt s p)=116
 .rw[bf u]at h⊢;unfold M.xw at h⊢;by_cases o:s.size<p+1+1+2
  .grind
  rw[av o]at h⊢;by_cases i:L<256*M.bt s (p+1+1)+M.bt s (p+1+1+1)
  .grind
  rw[av i]at h⊢;grind[Ps,Nat.le_of_not_lt,zL,M.BX,M.Ei]
 rw[av u]at h⊢;by_cases o:M.tk s (p+1+1) 0 (M.lG R F<|M.k1<|M.bt s p)=true
 case neg=>grind
 rw[bf o]at h⊢;by_cases i:M.tk s (p+1+2) 0 (M.lG R F<|M.k2<|M.bt s p)=true
 case neg=>grind
 rw[bf i]at h⊢;let⟨l4,_,_⟩:=M.gZ i;grind[absurd,zL]
