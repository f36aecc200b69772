import Derived.Test.YtnjiinbhbjpfkaaGreatDoorStpA
set_option maxRecDepth 100000
set_option maxHeartbeats 0
set_option linter.all false
namespace Go.Proofs.YtnjiinbhbjpfkaaGreatDoor
open Go.RowKit Go.Proofs.Tryz
section
theorem CV(b:Nat)(s:ByteArray)(p i hi:Int)(w:World)(h:w.heap[b]? = some (jc s p true)): Calls prog 53 #[.pointer (some ⟨b,0,none⟩),.int .i64 i,.int .i64 hi] w λe w'=>e=.returned (.int .i64 i)/\∃n,w'=(w.drewN n).setCell ⟨b,2,none⟩ (.bool true):=by
 obtain⟨c0,c1,y⟩:=fZ h;obtain⟨o,u⟩:=jI h;go_in;go_wp2
 go_quiet (fail)
 go_wp2
 go_ret;exact⟨rfl,_,rfl⟩
theorem CX(b:Nat)(s:ByteArray)(i hi:Int)(w:World)(h:w.heap[b]? = some (jc s s.size false)): Calls prog 53 #[.pointer (some ⟨b,0,none⟩),.int .i64 i,.int .i64 hi] w λe w'=>e=.returned (.int .i64 i)/\∃n,w'=(w.drewN n).setCell ⟨b,2,none⟩ (.bool true):=by
 obtain⟨c0,c1,y⟩:=fZ h;obtain⟨o,u⟩:=jI h;go_in;go_wp2
 go_quiet (fail)
 go_wp2
 go_ret;exact⟨rfl,_,rfl⟩
theorem CW(b:Nat)(s:ByteArray)(p:Nat)(i hi:Int)(w:World)(h:w.heap[b]? = some (jc s p false))(y:p<s.size)(hx:(s[p].toNat:Int)<i): Calls prog 53 #[.pointer (some ⟨b,0,none⟩),.int .i64 i,.int .i64 hi] w λe w'=>e=.returned (.int .i64 i)/\∃n,w'=(w.drewN n).setCell ⟨b,2,none⟩ (.bool true):=by
 obtain⟨c0,c1,J⟩:=fZ h;obtain⟨G,H⟩:=jI h;have o:s[p].toNat<256:=eI _;have u:IntKind.i64.wrap (s[p].toNat:Int)=(s[p].toNat:Int):=by rw[bl,bd _ (by omega)]
 have g1:decide (s.size<=p)=false:=by simp;omega
 go_in;go_wp2
 go_quiet (fail)
 go_wp2
 go_ret;exact⟨rfl,_,rfl⟩
theorem A2(b:Nat)(s:ByteArray)(p:Nat)(i hi:Int)(w:World)(h:w.heap[b]? = some (jc s p false))(G:p<s.size)(y:i<=(s[p].toNat:Int))(hx:hi<(s[p].toNat:Int)): Calls prog 53 #[.pointer (some ⟨b,0,none⟩),.int .i64 i,.int .i64 hi] w λe w'=>e=.returned (.int .i64 i)/\∃n,w'=(w.drewN n).setCell ⟨b,2,none⟩ (.bool true):=by
 obtain⟨c0,c1,Y⟩:=fZ h;obtain⟨J,W⟩:=jI h;have o:s[p].toNat<256:=eI _;have u:IntKind.i64.wrap (s[p].toNat:Int)=(s[p].toNat:Int):=by rw[bl,bd _ (by omega)]
 have g1:decide (s.size<=p)=false:=by simp;omega
 have Z:decide ((s[p].toNat:Int)<i)=false:=by simpa using y
 go_in;go_wp2
 go_quiet (fail)
 go_wp2
 go_ret;exact⟨rfl,_,rfl⟩
theorem CU(b:Nat)(s:ByteArray)(p:Nat)(i hi:Int)(w:World)(h:w.heap[b]? = some (jc s p false))(H:s.size<=9223372036854775807)(hp:p<s.size)(G:i<=(s[p].toNat:Int))(hx:(s[p].toNat:Int)<=hi): Calls prog 53 #[.pointer (some ⟨b,0,none⟩),.int .i64 i,.int .i64 hi] w λe w'=>e=.returned (.int .i64 (s[p].toNat:Int))/\∃n m,w'=((w.drewN n).setCell ⟨b,1,none⟩ (.int .i64 (p+1))).drewN m:=by
 obtain⟨c0,c1,Z⟩:=fZ h;obtain⟨W,Y⟩:=jI h;have o:s[p].toNat<256:=eI _;have u:IntKind.i64.wrap (s[p].toNat:Int)=(s[p].toNat:Int):=by rw[bl,bd _ (by omega)]
 have g1:decide (s.size<=p)=false:=by simp;omega
 have g2:decide ((s[p].toNat:Int)<i)=false:=by simpa using G
 have J:decide (hi<(s[p].toNat:Int))=false:=by simpa using hx
 have y:IntKind.i64.wrap ((p:Int)+1-1)=(p:Int):=by rw[bl,bd _ (by omega)];omega
 go_in;go_wp2
 go_quiet (fail)
 go_wp2
 go_quiet (fail)
 go_wp2
 go_ret;exact⟨rfl,_,_,rfl⟩
theorem iN(b:Nat)(s:ByteArray)(p L H:Nat)(i hi:Int)(w:World)(h:w.heap[b]? = some (jc s p false))(u:s.size<=maxLen)(W:i=L)(J:hi=H)(ht:M.tk s p L H=true): Calls prog 53 #[.pointer (some ⟨b,0,none⟩),.int .i64 i,.int .i64 hi] w λe w'=>e=.returned (.int .i64 (M.bt s p))/\w'.heap[b]? = some (jc s ((p+1:Nat):Int) false)/\w.grownBy w' (some b):=by
 obtain⟨o,G,y⟩:=M.fK ht;have e:=M.lF s p o;rw[e]at G y ⊢;refine(CU b s p i hi w h (by unfold maxLen at u;omega) o (by omega) (by omega)).mono ?_;rintro e w' ⟨rfl,n,m,rfl⟩;exact⟨rfl,CC (w:=w.drewN n) h _,db (bp (db (ax _ _) _) (ag rfl) _) _⟩
theorem pA(b:Nat)(s:ByteArray)(p L H:Nat)(bad:Bool)(i hi:Int)(w:World)(h:w.heap[b]? = some (jc s p bad))(Y:p<=s.size)(G:i=L)(y:hi=H)(ht:bad=true\/M.tk s p L H=false): Calls prog 53 #[.pointer (some ⟨b,0,none⟩),.int .i64 i,.int .i64 hi] w λe w'=>e=.returned (.int .i64 i)/\w'.heap[b]? = some (jc s p true)/\w.grownBy w' (some b):=by
 have fin:∀n,(((w.drewN n).setCell ⟨b,2,none⟩ (.bool true)).heap[b]? = some (jc s p true))/\w.grownBy ((w.drewN n).setCell ⟨b,2,none⟩ (.bool true)) (some b):=λn=>
  ⟨wX (w:=w.drewN n) h _,bp (db (ax _ _) _) (ag rfl) _⟩
 cases bad with
 | true=>
  refine(CV b s p i hi w h).mono ?_;rintro e w' ⟨rfl,n,rfl⟩;exact⟨rfl,fin n⟩
 | false=>
  have o:M.tk s p L H=false:=by simpa using ht
  by_cases u:p<s.size
  .have e:=M.lF s p u;by_cases W:M.bt s p<L
   .refine(CW b s p i hi w h u (by rw[<-e];omega)).mono ?_;rintro e w' ⟨rfl,n,rfl⟩;exact⟨rfl,fin n⟩
   have J:H<M.bt s p:=by simp[M.tk]at o;omega
   refine(A2 b s p i hi w h u (by rw[<-e];omega) (by rw[<-e];omega)).mono ?_;rintro e w' ⟨rfl,n,rfl⟩;exact⟨rfl,fin n⟩
  obtain rfl:p=s.size:=by omega
  refine(CX b s i hi w h).mono ?_;rintro e w' ⟨rfl,n,rfl⟩;exact⟨rfl,fin n⟩
def KL:List Value:=[.string { data:=#[114,107,107] },.string { data:=#[114,114,45] },.string { data:=#[114,114,114] },.string { data:=#[114,114,114] },.string { data:=#[114,114,114] },.string { data:=#[114,114,114] },.string { data:=#[114,114,114] },.string { data:=#[45,116,116] },.string { data:=#[114,116,116] },.string { data:=#[114,115,45] },.string { data:=#[114,114,114] },.string { data:=#[114,114,114] },.string { data:=#[114,102,114] },.string { data:=#[114,114,114] },.string { data:=#[114,45,45] },.string { data:=#[114,114,114] },.string { data:=#[45,45,45] },.string { data:=#[114,45,45] },.string { data:=#[114,114,45] },.string { data:=#[114,45,45] },.string { data:=#[114,45,45] },.string { data:=#[114,114,45] },.string { data:=#[114,45,45] }]
theorem Is:KL=(List.range 23).map (λi=>Value.string (M.KS i)):=by rfl
theorem J8(op:Nat)(h:op<KL.length):KL[op]=.string (M.KS op):=by
 have i:KL[op]? = some (.string (M.KS op)):=by
  have e:op<23:=h;rw[Is];simp[e]
 exact(List.getElem_eq_iff h).2 i
theorem uA(op:Nat)(w:World)(h:op<23): Calls prog 80 #[.int .i64 op] w λe w'=>e=.returned (.string (M.KS op))/\Below w.heap.size w w':=by
 go_in;go_wp2_with fail
 go_ret;exact⟨congrArg Ending.returned (J8 op h),(eM _ _).alloc (bj _) _⟩
end
namespace M
def nx(s:ByteArray)(hi:Nat)(q:Nat)(bad:Bool):Nat×Bool:=
 if bad=true then(q,true) else if tk s q 0 hi=true then(q+1,false) else(q,true)
def BM(r f k:Nat):Nat:=if k=114 then r-1 else if k=102 then f-1 else if k=115 then 8 else if k=45 then 0 else 255
def tb(s:ByteArray)(l q:Nat):Bool:=decide (q+1<s.size/\l<256*bt s q+bt s (q+1))
def qK(s:ByteArray)(r f l m i k q:Nat)(bad:Bool):Nat×Bool:=
 nx s (BM r f k) q (bad || (decide (i=2/\m=116) && tb s l q))
def ud(s:ByteArray)(r f l m:Nat):List Nat->Nat->Nat×Bool->Nat×Bool
 | [],_,st=>st
 | k :: ks,i,st=>ud s r f l m ks (i+1) (qK s r f l m i k st.1 st.2)
theorem CT(s:ByteArray)(hi q:Nat):nx s hi q true=(q,true):=by simp[nx]
theorem xl{s:ByteArray}{hi q:Nat}{bad:Bool}(h:q<=s.size):q<=(nx s hi q bad).1/\(nx s hi q bad).1<=s.size:=by
 unfold nx;split
 .exact⟨Nat.le_refl _,h⟩
 split
 .rename_i e;have:=fK e;simp;omega
 exact⟨Nat.le_refl _,h⟩
theorem Ao(s:ByteArray)(r f l m i k q:Nat):qK s r f l m i k q true=(q,true):=by simp[qK,CT]
theorem DU(s:ByteArray)(r f l m:Nat)(e:List Nat):∀i q,ud s r f l m e i (q,true)=(q,true):=by
 induction e with
 | nil=>intro i q;rfl
 | cons k e o=>intro i q;unfold ud;simp only[Ao];exact o _ _
theorem EY:∀e,e<23->(k1 e=116->k2 e=116)/\(k0 e=114\/k0 e=102\/k0 e=115\/k0 e=107\/k0 e=45)/\(k1 e≠116->(k1 e=114\/k1 e=102\/k1 e=115\/k1 e=107\/k1 e=45)/\(k2 e=114\/k2 e=102\/k2 e=115\/k2 e=107\/k2 e=45)):=by decide
theorem yQ(r f k:Nat)(h:k=114\/k=102\/k=115\/k=107\/k=45):BM r f k=iQ r f k:=by
 rcases h with rfl|rfl|rfl|rfl|rfl<;>rfl
theorem xF(r f:Nat):BM r f 116=255:=rfl
theorem sn(s:ByteArray)(q:Nat):tk s q 0 255=decide (q<s.size):=by
 have:=my s q;unfold tk;congr 1
 apply propext
 constructor
 .intro h;exact h.1
 intro h;exact⟨h,by omega,by omega⟩
theorem DT(s:ByteArray)(p op r f l:Nat)(h:op<23): ud s r f l (k1 op) (kd.getD op []) 1 (p,false)=((rz s p op r f l).1,!(rz s p op r f l).2):=by
 obtain⟨h1,h2,h3⟩:=tg op h;obtain⟨m1,m2,m3⟩:=EY op h;rw[h1];simp only[ud];unfold rz;have Y:qK s r f l (k1 op) 1 (k0 op) p false=nx s (iQ r f (k0 op)) p false:=by
  unfold qK;rw[yQ _ _ _ m2];simp
 by_cases o:tk s p 0 (iQ r f (k0 op))=true
 .have p1:=(fK o).1;have i:qK s r f l (k1 op) 1 (k0 op) p false=(p+1,false):=by rw[Y];simp[nx,o]
  rw[if_pos o,i];by_cases ht:k1 op=116
  .rw[if_pos ht];have W:qK s r f l (k1 op) (1+1) (k1 op) (p+1) false=nx s 255 (p+1) (tb s l (p+1)):=by
    unfold qK;rw[ht,xF];simp
   have y:∀q bad,qK s r f l (k1 op) (1+1+1) (k2 op) q bad=nx s 255 q bad:=by
    intro q bad;unfold qK;rw[m1 ht,xF];simp
   simp only[W,y];unfold uQ;by_cases c1:s.size<p+1+2
   .rw[if_pos c1];have e:tb s l (p+1)=false:=by unfold tb;simp;omega
    rw[e];by_cases H:p+1<s.size
    .have:s.size=p+2:=by omega
     simp[nx,sn,this]
    have:s.size=p+1:=by omega
    simp[nx,sn,this]
   rw[if_neg c1];by_cases H:l<256*bt s (p+1)+bt s (p+1+1)
   .have J:tb s l (p+1)=true:=by unfold tb;simp;omega
    rw[if_pos H,J];simp[nx]
   have e:tb s l (p+1)=false:=by unfold tb;simp;omega
   rw[if_neg H,e];have d1:p+1<s.size:=by omega
   have d2:p+1+1<s.size:=by omega
   simp[nx,sn,d1,d2]
  obtain⟨m4,m5⟩:=m3 ht;rw[if_neg ht];have W:qK s r f l (k1 op) (1+1) (k1 op) (p+1) false=nx s (iQ r f (k1 op)) (p+1) false:=by
   unfold qK;rw[yQ _ _ _ m4];simp[ht]
  have y:∀q bad,qK s r f l (k1 op) (1+1+1) (k2 op) q bad=nx s (iQ r f (k2 op)) q bad:=by
   intro q bad;unfold qK;rw[yQ _ _ _ m5];simp
  simp only[W,y];by_cases G:tk s (p+1) 0 (iQ r f (k1 op))=true
  .by_cases Z:tk s (p+1+1) 0 (iQ r f (k2 op))=true
   .simp[nx,G,Z]
   simp[nx,G,Z]
  simp[nx,G]
 have i:qK s r f l (k1 op) 1 (k0 op) p false=(p,true):=by rw[Y];simp[nx,o]
 rw[if_neg o,i];simp[Ao]
end M
section
theorem nK(b:Nat)(s:ByteArray)(p H:Nat)(bad:Bool)(hi:Int)(w:World)(h:w.heap[b]? = some (jc s p bad))(G:s.size<=maxLen)(y:p<=s.size)(u:hi=H): Calls prog 53 #[.pointer (some ⟨b,0,none⟩),.int .i64 0,.int .i64 hi] w λe w'=>∃x:Int,e=.returned (.int .i64 x)/\w'.heap[b]? = some (jc s ((M.nx s H p bad).1:Nat) (M.nx s H p bad).2)/\w.grownBy w' (some b):=by
 cases bad with
 |true=>
  rw[M.CT];refine(pA b s p 0 H true 0 hi w h y rfl u (ag rfl)).mono ?_;rintro e w' ⟨rfl,o,i⟩;exact⟨_,rfl,o,i⟩
 |false=>
  by_cases ht:M.tk s p 0 H=true
  .have e:M.nx s H p false=(p+1,false):=by simp[M.nx,ht]
   rw[e];refine(iN b s p 0 H 0 hi w h G rfl u ht).mono ?_;rintro e w' ⟨rfl,o,i⟩;exact⟨_,rfl,o,i⟩
  have e:M.nx s H p false=(p,true):=by simp[M.nx,ht]
  rw[e];refine(pA b s p 0 H false 0 hi w h y rfl u (ab (by simpa using ht))).mono ?_;rintro e w' ⟨rfl,o,i⟩;exact⟨_,rfl,o,i⟩
theorem G6(b:Nat)(s:ByteArray)(p R F L:Nat)(w:World)(h:w.heap[b]? = some (jc s p false))(y:s.size<=maxLen)(u:p<=s.size): Calls prog 53 #[.pointer (some ⟨b,0,none⟩),.int .i64 0,.int .i64 22] w λe w'=>∃(op q:Nat) (bad:Bool),e=.returned (.int .i64 op)/\op<23/\q<=s.size/\w'.heap[b]? = some (jc s q bad)/\w.grownBy w' (some b) /\ M.ud s R F L (M.k1 op) (M.kd.getD op []) 1 (q,bad)=((M.ins s p R F L).1,!(M.ins s p R F L).2):=by
 by_cases ht:M.tk s p 0 22=true
 .have e:M.ins s p R F L=M.rz s (p+1) (M.bt s p) R F L:=by unfold M.ins;rw[aj ht]
  have G:=M.fK ht;rw[e];refine(iN b s p 0 22 0 22 w h y rfl rfl ht).mono ?_;rintro e w' ⟨rfl,o,i⟩;exact⟨M.bt s p,p+1,false,rfl,by omega,by omega,o,i,M.DT s (p+1) (M.bt s p) R F L (by omega)⟩
 have e:M.ins s p R F L=(p,false):=by unfold M.ins;rw[aa ht]
 rw[e];refine(pA b s p 0 22 false 0 22 w h u rfl rfl (ab (by simpa using ht))).mono ?_;rintro e w' ⟨rfl,o,i⟩;exact⟨0,p,true,rfl,by omega,u,o,i,M.DU _ _ _ _ _ _ _ _⟩
theorem ga{w:World}{b:Nat}{s:ByteArray}{p:Int}{bad:Bool}(h:w.heap[b]? = some (jc s p bad))(o:Obj):(w.alloc o).heap[b]? = some (jc s p bad):=(ak _ _ _ (bz h)).trans h
theorem gL{w:World}{b x k:Nat}{v:Value}{s:ByteArray}{p:Int}{bad:Bool}(h:w.heap[b]? = some (jc s p bad))(hx:b≠x):(w.setCell ⟨x,k,none⟩ v).heap[b]? = some (jc s p bad):=(af _ _ _ _ hx).trans h
def four(a0 a1 a2 a3:Int):Obj:=.cells #[.int .i64 a0,.int .i64 a1,.int .i64 a2,.int .i64 a3] 90 (0,0)
def eW(w:World)(c:Nat):Prop:=∃a0 a1 a2 a3,w.heap[c]? = some (four a0 a1 a2 a3)
theorem eW.kept{w w':World}{c b:Nat}(h:eW w c)(u:w.grownBy w' (some b))(H:c≠b):eW w' c:=by
 obtain⟨y,G,o,i,h⟩:=h;exact⟨y,G,o,i,cm u h (by intro e;injection e;omega)⟩
theorem eW.cell{w:World}{c:Nat}(h:eW w c)(k:Nat)(y:k<4):(∃x:Int,w.cell? ⟨c,k,none⟩=some (.int .i64 x))/\w.frozen? ⟨c,k,none⟩=false:=by
 obtain⟨o,u,i,e,h⟩:=h;match k,y with
 |0,_=>exact⟨⟨o,by simp[World.cell?,h,four]⟩,by simp[World.frozen?,h,four]⟩
 |1,_=>exact⟨⟨u,by simp[World.cell?,h,four]⟩,by simp[World.frozen?,h,four]⟩
 |2,_=>exact⟨⟨i,by simp[World.cell?,h,four]⟩,by simp[World.frozen?,h,four]⟩
 |3,_=>exact⟨⟨e,by simp[World.cell?,h,four]⟩,by simp[World.frozen?,h,four]⟩
theorem eW.set{w:World}{c:Nat}(h:eW w c)(k:Nat)(y:k<4)(x:Int):eW (w.setCell ⟨c,k,none⟩ (.int .i64 x)) c:=by
 obtain⟨o,u,i,e,h⟩:=h;match k,y with
 |0,_=>exact⟨x,u,i,e,by simp[World.setCell,cn,h,four]⟩
 |1,_=>exact⟨o,x,i,e,by simp[World.setCell,cn,h,four]⟩
 |2,_=>exact⟨o,u,x,e,by simp[World.setCell,cn,h,four]⟩
 |3,_=>exact⟨o,u,i,x,by simp[World.setCell,cn,h,four]⟩
theorem eW.other{w:World}{c d k:Nat}{v:Value}(h:eW w c)(o:c≠d):eW (w.setCell ⟨d,k,none⟩ v) c:=by
 obtain⟨u,y,i,e,h⟩:=h;exact⟨u,y,i,e,(af _ _ _ _ o).trans h⟩
theorem lC{w w1:World}{b k:Nat}{y G u o:Int}(h:w.heap[k]? = some (four y G u o))(H:w.grownBy w1 (some b))(J:k≠b): k<w1.heap.size/\w1.cell? ⟨k,0,none⟩=some (.int .i64 y)/\w1.cell? ⟨k,1,none⟩=some (.int .i64 G)/\w1.cell? ⟨k,2,none⟩=some (.int .i64 u)/\w1.cell? ⟨k,3,none⟩=some (.int .i64 o) /\ w1.frozen? ⟨k,0,none⟩=false/\w1.frozen? ⟨k,1,none⟩=false/\w1.frozen? ⟨k,2,none⟩=false/\w1.frozen? ⟨k,3,none⟩=false:=by
 have i:=cm H h (by intro e;injection e;omega);unfold four at i;exact⟨bz i,by simp[World.cell?,World.frozen?,i]⟩
def Ka(e:Ending):Prop:=∃a0 a1 a2 a3:Int,e=.returned (.agg #[.int .i64 a0,.int .i64 a1,.int .i64 a2,.int .i64 a3])
theorem List.mX{α:Type}(l:List α)(n:Nat)(d:α):(l.drop n).head?.getD d=l.getD n d:=by simp[List.head?_drop,List.getD]
theorem Bv(b:Nat)(s:ByteArray)(p R F L:Nat)(r f l:Int)(w:World)(h:w.heap[b]? = some (jc s p false))(hs:s.size<=maxLen)(aU:s.size<=140737488355328)(hp:p<=s.size)(hr:Hid (r=R))(hf:Hid (f=F))(hl:Hid (l=L))(h1:1<=R)(h2:1<=F)(h3:R<=8)(h4:F<=8): Calls prog 54 #[.pointer (some ⟨b,0,none⟩),.int .i64 r,.int .i64 l,.int .i64 f] w λe w'=>Ka e/\w'.heap[b]? = some (jc s ((M.ins s p R F L).1:Nat) (!(M.ins s p R F L).2))/\w.grownBy w' (some b):=by
 have hb:=bz h;have H:Hid (w.heap[b]? = some (jc s p false)):=h;have HS:Hid (s.size<=maxLen):=hs;clear h hs;go_in;go_wp2_with fail
 refine(G6 b s p R F L _ (ga (ga H.out _) _) HS.out hp).mono ?_;rintro e w1 ⟨op,q,bad,rfl,aC,hq,hh,hg,a9⟩;have aB:w.grownBy w1 (some b):=an (an (ah _ _ _) (ah _ _ _)) hg;have F8:eW w1 w.heap.size:=eW.kept (w:=(w.alloc (four 0 0 0 0)).alloc (four 0 0 0 0)) ⟨0,0,0,0,(ak _ _ _ (by simp)).trans (bf w _)⟩ hg (by omega);have F9:eW w1 (w.heap.size+1):=eW.kept (w:=(w.alloc (four 0 0 0 0)).alloc (four 0 0 0 0)) ⟨0,0,0,0,by have:=bf (w.alloc (four 0 0 0 0)) (four 0 0 0 0);simpa using this⟩ hg (by omega);obtain⟨⟨x9,d9⟩,e9⟩:=F9.cell 0 (by omega);have HH:Hid (w1.heap[b]? = some (jc s q bad)):=hh;have HR:Hid (M.ud s R F L (M.k1 op) (M.kd.getD op []) 1 (q,bad)=((M.ins s p R F L).1,!(M.ins s p R F L).2)):=a9;have HG:Hid (w.grownBy w1 (some b)):=aB;have H8:Hid (eW w1 w.heap.size):=F8;have H9:Hid (eW w1 (w.heap.size+1)):=F9;clear hh a9 aB F8 F9 hg;go_wp2_with fail
 refine(uA op _ aC).mono ?_;rintro e w2 ⟨rfl,hB⟩;have gB:(w1.setCell ⟨w.heap.size+1,0,none⟩ (.int .i64 op)).grownBy w2 (some b):=jz (by simpa using hB);have KG:Hid (w.grownBy w2 (some b)):=an (bp HG.out (ab (by simp)) _) gB;have gN:(w1.setCell ⟨w.heap.size+1,0,none⟩ (.int .i64 op)).grownBy w2 (some w2.heap.size):=jz (by simpa using hB);have aG:=hB.size;simp[World.setCell]at aG;have KB:Hid (w2.heap[b]? = some (jc s q bad)):=cm gN (gL HH.out (by omega)) (by intro e;injection e;have:=bz HH.out;omega);have K8:Hid (eW w2 w.heap.size):=eW.kept (eW.other H8.out (by omega)) gB (by omega);have K9:Hid (eW w2 (w.heap.size+1)):=eW.kept (eW.set H9.out 0 (by omega) _) gB (by omega);obtain⟨kf,kz⟩:=M.mC op aC;have KL:Hid (M.eX (M.KS op)=M.kd.getD op []):=kf;clear gB gN hB HH HG H8 H9 d9 e9 kf;generalize hS:M.KS op=S at *;clear hS;have aJ:1<S.size:=by omega
 have HM:Hid (S[1].toNat=M.k1 op):=by
  show _=_;have e:=M.kx S 1 aJ;have e2:M.k1 op=(M.eX S).getD 1 0:=by rw[KL.out];rfl
  rw[e2,<-List.mX,e];rfl
 have KZ:Hid (S.size=3):=kz;have aX:S.size<=3:=by omega
 have b0:3<=S.size:=by omega
 have b5:(1:Int)<S.size:=by omega
 have aE:Hid (M.ud s R F L (M.k1 op) ((M.eX S).drop 0) (0+1) (q,bad)=((M.ins s p R F L).1,!(M.ins s p R F L).2)):=by show _=_;rw[KL.out];exact HR.out
 clear kz HR;generalize M.k1 op=m at *;go_wp2_with fail
 go_loopw [11] (λi wr=>∃(k q:Nat) (bad:Bool),k<=3/\q<=s.size/\i=.int .i64 ((k:Int)+1)/\Hid (wr.heap[b]? = some (jc s q bad))/\Hid (w.grownBy wr (some b))/\Hid (eW wr w.heap.size)/\Hid (eW wr (w.heap.size+1))/\Hid (M.ud s R F L m ((M.eX S).drop k) (k+1) (q,bad)=((M.ins s p R F L).1,!(M.ins s p R F L).2))) (λi _=>4-(intOf i).toNat)
 case atStart=>exact⟨0,q,bad,by omega,hq,rfl,KB,KG,K8,K9,aE⟩
 case round=>
  clear hq KB KG K8 K9 aE;obtain⟨k,q,bad,hk,hq,rfl,rB,rG,r8,r9,rC⟩:=hrel;by_cases aZ:k<3
  .have aN:k<S.size:=by omega
   have hc:=M.kx S k aN;have W:Hid (M.ud s R F L m ((M.eX S).drop (k+1)) (k+1+1) (M.qK s R F L m (k+1) S[k].toNat q bad)=((M.ins s p R F L).1,!(M.ins s p R F L).2)):=by
    show _=_;rw[<-rC.out,hc];rfl
   have aM:Hid (k=1->S[k].toNat=m):=by
    intro e;subst e;exact HM.out
   clear hc rC;have b1:1<=r:=by have:=hr.out;omega
   have b2:r<=8:=by have:=hr.out;omega
   have b3:1<=f:=by have:=hf.out;omega
   have b4:f<=8:=by have:=hf.out;omega
   by_cases e1:k=1/\m=116
   .obtain⟨e1,em⟩:=e1;have g2:(((k:Int)+1) == 2)=true:=by simp;omega
    have aA:Hid (k=1):=e1;clear e1;have g3:((S[1].toNat:Int) == 116)=true:=by have:=HM.out;simp;omega
    have a8:Hid (S[k].toNat=116):=by show _=_;rw[aM.out aA.out,em]
    have q0:((S[k].toNat:Int) == 114)=false:=by have:=a8.out;simp;omega
    have q1:((S[k].toNat:Int) == 102)=false:=by have:=a8.out;simp;omega
    have q2:((S[k].toNat:Int) == 115)=false:=by have:=a8.out;simp;omega
    have q3:((S[k].toNat:Int) == 45)=false:=by have:=a8.out;simp;omega
    have a7:Hid (M.qK s R F L m (k+1) S[k].toNat q bad=M.nx s 255 q (bad || M.tb s L q)):=by
     show _=_;unfold M.qK;rw[a8.out,M.xF];have:=aA.out;simp[this,em]
    clear em;obtain⟨y0,y1,y2⟩:=fZ rB.out;obtain⟨_,u2⟩:=jI rB.out
    cases bad with
    |true=>
     have HB:Hid (M.qK s R F L m (k+1) S[k].toNat q true=M.nx s 255 q true):=by show _=_;rw[a7.out];simp
     clear a7;go_wp2_with fail
     go_quiet (fail)
     go_wp2_with fail
     refine(nK b s q (255) true (255) (wr.drewN nq) rB.out HS.out hq rfl).mono ?_;rintro e J ⟨x,rfl,hh,o⟩;have a5:=(M.xl (s:=s) (hi:=255) (q:=q) (bad:=true) hq).2;have a4:Hid (J.heap[b]? = some (jc s ((M.nx s (255) q true).1:Nat) (M.nx s (255) q true).2)):=hh;have Z:Hid (w.grownBy J (some b)):=an (db rG.out _) o;have a6:Hid (eW J w.heap.size):=eW.kept (w:=(wr.drewN nq)) r8.out o (by omega);have G:Hid (eW J (w.heap.size+1)):=eW.kept (w:=(wr.drewN nq)) r9.out o (by omega);obtain⟨⟨y,d4⟩,e4⟩:=G.out.cell (k+1) (by omega);rw[HB.out]at W;clear hh o HB rB rG r8 r9;generalize M.nx s (255) q true=st at *;obtain⟨q',u⟩:=st;go_wp2_with fail
     go_roundw
     case rel=>exact⟨k+1,q',u,by omega,a5,by go_num,gL a4.out (by omega),bp Z.out (ab (by simp)) _,eW.other a6.out (by omega),eW.set G.out (k+1) (by omega) x,W⟩
     case measure=>simp[intOf];omega
    |false=>
     by_cases ez:q+1<s.size
     .have aL:IntKind.i64.wrap ((q:Int)+1)=(q:Int)+1:=by rw[bl,bd _ (by omega)]
      have aI:q<s.size:=by omega
      have aW:s[q].toNat<256:=eI _;have aS:s[q+1].toNat<256:=eI _;have aP:IntKind.i64.wrap (s[q].toNat:Int)=(s[q].toNat:Int):=by rw[bl,bd _ (by omega)]
      have aQ:IntKind.i64.wrap (256*(s[q].toNat:Int))=256*(s[q].toNat:Int):=by rw[bl,bd _ (by omega)]
      have aY:IntKind.i64.wrap (s[q+1].toNat:Int)=(s[q+1].toNat:Int):=by rw[bl,bd _ (by omega)]
      have aR:IntKind.i64.wrap (256*(s[q].toNat:Int)+(s[q+1].toNat:Int))=256*(s[q].toNat:Int)+(s[q+1].toNat:Int):=by rw[bl,bd _ (by omega)]
      have aT:((q:Int)+1).toNat=q+1:=by omega
      have aO:(q:Int)+1<(s.size:Int):=by omega
      have aV:(0:Int)<=q+1:=by omega
      have g4:decide ((q:Int)+1<(s.size:Int))=true:=by simp;omega
      have t1:=M.lF s q aI;have t2:=M.lF s (q+1) ez;by_cases ev:L<256*M.bt s q+M.bt s (q+1)
      .have g5:decide (l<256*(s[q].toNat:Int)+(s[q+1].toNat:Int))=true:=by have:=hl.out;rw[<-t1,<-t2];simp;omega
       have g6:l<256*(s[q].toNat:Int)+(s[q+1].toNat:Int):=by simpa using g5
       have HB:Hid (M.qK s R F L m (k+1) S[k].toNat q false=M.nx s 255 q true):=by show _=_;rw[a7.out];unfold M.tb;simp[ez,ev]
       clear a7 t1 t2 ev;go_wp2_with fail
       go_quiet (fail)
       go_wp2_with fail
       refine(nK b s q (255) true (255) ((wr.drewN nq).setCell ⟨b,2,none⟩ (.bool true)) (wX (w:=wr.drewN nq) rB.out true) HS.out hq rfl).mono ?_;rintro e J ⟨x,rfl,hh,o⟩;have a5:=(M.xl (s:=s) (hi:=255) (q:=q) (bad:=true) hq).2;have a4:Hid (J.heap[b]? = some (jc s ((M.nx s (255) q true).1:Nat) (M.nx s (255) q true).2)):=hh;have Z:Hid (w.grownBy J (some b)):=an (bp (db rG.out _) (ag rfl) _) o;have a6:Hid (eW J w.heap.size):=eW.kept (w:=((wr.drewN nq).setCell ⟨b,2,none⟩ (.bool true))) (eW.other r8.out (by omega)) o (by omega);have G:Hid (eW J (w.heap.size+1)):=eW.kept (w:=((wr.drewN nq).setCell ⟨b,2,none⟩ (.bool true))) (eW.other r9.out (by omega)) o (by omega);obtain⟨⟨y,d4⟩,e4⟩:=G.out.cell (k+1) (by omega);rw[HB.out]at W;clear hh o HB rB rG r8 r9;generalize M.nx s (255) q true=st at *;obtain⟨q',u⟩:=st;go_wp2_with fail
       go_roundw
       case rel=>exact⟨k+1,q',u,by omega,a5,by go_num,gL a4.out (by omega),bp Z.out (ab (by simp)) _,eW.other a6.out (by omega),eW.set G.out (k+1) (by omega) x,W⟩
       case measure=>simp[intOf];omega
      have g5:decide (l<256*(s[q].toNat:Int)+(s[q+1].toNat:Int))=false:=by have:=hl.out;rw[<-t1,<-t2];simp;omega
      have g6:256*(s[q].toNat:Int)+(s[q+1].toNat:Int)<=l:=by simpa using g5
      have HB:Hid (M.qK s R F L m (k+1) S[k].toNat q false=M.nx s 255 q false):=by show _=_;rw[a7.out];unfold M.tb;simp[ez,ev]
      clear a7 t1 t2 ev;go_wp2_with fail
      go_quiet (fail)
      go_wp2_with fail
      refine(nK b s q (255) false (255) (wr.drewN nq) rB.out HS.out hq rfl).mono ?_;rintro e J ⟨x,rfl,hh,o⟩;have a5:=(M.xl (s:=s) (hi:=255) (q:=q) (bad:=false) hq).2;have a4:Hid (J.heap[b]? = some (jc s ((M.nx s (255) q false).1:Nat) (M.nx s (255) q false).2)):=hh;have Z:Hid (w.grownBy J (some b)):=an (db rG.out _) o;have a6:Hid (eW J w.heap.size):=eW.kept (w:=(wr.drewN nq)) r8.out o (by omega);have G:Hid (eW J (w.heap.size+1)):=eW.kept (w:=(wr.drewN nq)) r9.out o (by omega);obtain⟨⟨y,d4⟩,e4⟩:=G.out.cell (k+1) (by omega);rw[HB.out]at W;clear hh o HB rB rG r8 r9;generalize M.nx s (255) q false=st at *;obtain⟨q',u⟩:=st;go_wp2_with fail
      go_roundw
      case rel=>exact⟨k+1,q',u,by omega,a5,by go_num,gL a4.out (by omega),bp Z.out (ab (by simp)) _,eW.other a6.out (by omega),eW.set G.out (k+1) (by omega) x,W⟩
      case measure=>simp[intOf];omega
     have aL:IntKind.i64.wrap ((q:Int)+1)=(q:Int)+1:=by rw[bl,bd _ (by omega)]
     have g4:decide ((q:Int)+1<(s.size:Int))=false:=by simp;omega
     have HB:Hid (M.qK s R F L m (k+1) S[k].toNat q false=M.nx s 255 q false):=by show _=_;rw[a7.out];unfold M.tb;simp[ez]
     clear a7;go_wp2_with fail
     go_quiet (fail)
     go_wp2_with fail
     refine(nK b s q (255) false (255) (wr.drewN nq) rB.out HS.out hq rfl).mono ?_;rintro e J ⟨x,rfl,hh,o⟩;have a5:=(M.xl (s:=s) (hi:=255) (q:=q) (bad:=false) hq).2;have a4:Hid (J.heap[b]? = some (jc s ((M.nx s (255) q false).1:Nat) (M.nx s (255) q false).2)):=hh;have Z:Hid (w.grownBy J (some b)):=an (db rG.out _) o;have a6:Hid (eW J w.heap.size):=eW.kept (w:=(wr.drewN nq)) r8.out o (by omega);have G:Hid (eW J (w.heap.size+1)):=eW.kept (w:=(wr.drewN nq)) r9.out o (by omega);obtain⟨⟨y,d4⟩,e4⟩:=G.out.cell (k+1) (by omega);rw[HB.out]at W;clear hh o HB rB rG r8 r9;generalize M.nx s (255) q false=st at *;obtain⟨q',u⟩:=st;go_wp2_with fail
     go_roundw
     case rel=>exact⟨k+1,q',u,by omega,a5,by go_num,gL a4.out (by omega),bp Z.out (ab (by simp)) _,eW.other a6.out (by omega),eW.set G.out (k+1) (by omega) x,W⟩
     case measure=>simp[intOf];omega
   have HG:Hid ((((k:Int)+1) == 2)=false\/((((k:Int)+1) == 2)=true/\((S[1].toNat:Int) == 116)=false)):=by
    by_cases e2:k=1
    .exact ab ⟨by simp;omega,by have:=HM.out;have:m≠116:=λe=>e1 ⟨e2,e⟩;simp;omega⟩
    exact ag (by simp;omega)
   have HZ:Hid (∃(X:Nat) (Y:Int),Y=(X:Int)/\M.qK s R F L m (k+1) S[k].toNat q bad=M.nx s X q bad/\((((S[k].toNat:Int) == 114)=true/\Y=r-1)\/(((S[k].toNat:Int) == 114)=false/\((S[k].toNat:Int) == 102)=true/\Y=f-1)\/(((S[k].toNat:Int) == 114)=false/\((S[k].toNat:Int) == 102)=false/\((S[k].toNat:Int) == 115)=true/\Y=8)\/(((S[k].toNat:Int) == 114)=false/\((S[k].toNat:Int) == 102)=false/\((S[k].toNat:Int) == 115)=false/\((S[k].toNat:Int) == 45)=true/\Y=0)\/(((S[k].toNat:Int) == 114)=false/\((S[k].toNat:Int) == 102)=false/\((S[k].toNat:Int) == 115)=false/\((S[k].toNat:Int) == 45)=false/\Y=255))):=by
    have h9:M.qK s R F L m (k+1) S[k].toNat q bad=M.nx s (M.BM R F S[k].toNat) q bad:=by
     unfold M.qK;by_cases e2:k=1
     .have:m≠116:=λe=>e1 ⟨e2,e⟩;simp[this]
     simp[e2]
    unfold M.BM at h9;by_cases z0:S[k].toNat=114
    .rw[aj z0]at h9;exact⟨_,r-1,by have:=hr.out;omega,h9,ag ⟨by simp;omega,rfl⟩⟩
    rw[aa z0]at h9;have q0:((S[k].toNat:Int) == 114)=false:=by simp;omega
    by_cases z1:S[k].toNat=102
    .rw[aj z1]at h9;exact⟨_,f-1,by have:=hf.out;omega,h9,ab (ag ⟨q0,by simp;omega,rfl⟩)⟩
    rw[aa z1]at h9;have q1:((S[k].toNat:Int) == 102)=false:=by simp;omega
    by_cases z2:S[k].toNat=115
    .rw[aj z2]at h9;exact⟨_,8,rfl,h9,ab (ab (ag ⟨q0,q1,by simp;omega,rfl⟩))⟩
    rw[aa z2]at h9;have q2:((S[k].toNat:Int) == 115)=false:=by simp;omega
    by_cases z3:S[k].toNat=45
    .rw[aj z3]at h9;exact⟨_,0,rfl,h9,ab (ab (ab (ag ⟨q0,q1,q2,by simp;omega,rfl⟩)))⟩
    rw[aa z3]at h9;exact⟨_,255,rfl,h9,ab (ab (ab (ab ⟨q0,q1,q2,by simp;omega,rfl⟩)))⟩
   obtain⟨X,Y,aD,hT,aF⟩:=HZ.out;have aH:Hid (Y=(X:Int)):=aD;have HB:Hid (M.qK s R F L m (k+1) S[k].toNat q bad=M.nx s X q bad):=hT;clear HZ aD hT e1;rcases HG.out with g2|⟨g2,g3⟩<;>rcases aF with⟨q0,rfl⟩|⟨q0,q1,rfl⟩|⟨q0,q1,q2,rfl⟩|⟨q0,q1,q2,q3,rfl⟩|⟨q0,q1,q2,q3,rfl⟩
   all_goals
    clear HG;go_wp2_with fail
    go_quiet (fail)
    go_wp2_with fail
    refine(nK b s q X bad _ (wr.drewN nq) rB.out HS.out hq (by have:=aH.out;omega)).mono ?_;rintro e J ⟨x,rfl,hh,o⟩;have a5:=(M.xl (s:=s) (hi:=X) (q:=q) (bad:=bad) hq).2;have a4:Hid (J.heap[b]? = some (jc s ((M.nx s X q bad).1:Nat) (M.nx s X q bad).2)):=hh;have Z:Hid (w.grownBy J (some b)):=an (db rG.out _) o;have a6:Hid (eW J w.heap.size):=eW.kept (w:=(wr.drewN nq)) r8.out o (by omega);have G:Hid (eW J (w.heap.size+1)):=eW.kept (w:=(wr.drewN nq)) r9.out o (by omega);obtain⟨⟨y,d4⟩,e4⟩:=G.out.cell (k+1) (by omega);rw[HB.out]at W;clear hh o HB rB rG r8 r9;generalize M.nx s X q bad=st at *;obtain⟨q',u⟩:=st;go_wp2_with fail
    go_roundw
    case rel=>exact⟨k+1,q',u,by omega,a5,by go_num,gL a4.out (by omega),bp Z.out (ab (by simp)) _,eW.other a6.out (by omega),eW.set G.out (k+1) (by omega) x,W⟩
    case measure=>simp[intOf];omega
  obtain rfl:k=3:=by omega
  have HC:Hid ((q,bad)=((M.ins s p R F L).1,!(M.ins s p R F L).2)):=by
   show _=_;have e:(M.eX S).drop 3=[]:=by have:=M.qB S;rw[KZ.out]at this;exact this
   rw[<-rC.out,e];rfl
  obtain⟨a0,a1,a2,a3,f9⟩:=r9.out;obtain⟨z0,z1,z2,z3,f8⟩:=r8.out;obtain⟨_,d0,d1,d2,d3,_,_,_,_⟩:=lC f9 (ax wr (some b)) (by omega);obtain⟨_,c0,c1,c2,c3,e0,e1,e2,e3⟩:=lC f8 (ax wr (some b)) (by omega);clear f8 f9 r8 r9 rC;go_wp2_with fail
  refine da (v:=.agg #[.int .i64 a0,.int .i64 a1,.int .i64 a2,.int .i64 a3]) (by simp[results,results54,go_sem,c0,c1,c2,c3]) rfl ⟨⟨_,_,_,_,rfl⟩,?_,?_⟩
  .have hc:=HC.out;simp only[Prod.mk.injEq]at hc;rw[<-hc.1,<-hc.2];repeat (rw[af _ _ _ _ (by simp;omega)])
   exact rB.out
  repeat (refine bp ?_ (ab (by simp)) _)
  exact rG.out
theorem pI(r f k:Nat)(s:ByteArray)(q:Nat)(h:M.tk s q 0 (M.iQ r f k)=true):M.tk s q 0 (M.BM r f k)=true:=by
 obtain⟨H,_,e⟩:=M.fK h;have G:M.bt s q<=M.BM r f k:=by
  have J:=M.my s q;unfold M.iQ at e;unfold M.BM;by_cases i:k=114
  .rw[aj i]at e ⊢;exact e
  rw[aa i]at e ⊢;by_cases o:k=102
  .rw[aj o]at e ⊢;exact e
  rw[aa o]at e ⊢;by_cases u:k=115
  .rw[aj u]at e ⊢;exact e
  rw[aa u]at e ⊢;by_cases y:k=45
  .rw[aj y];rw[aa (by omega)]at e;exact e
  rw[aa y];omega
 simp[M.tk,H,G]
theorem Mg:∀e,e<23->M.k1 e=116->∀R F,M.k2 e=116\/M.BM R F (M.k2 e)=255:=by
 have h:∀e,e<23->M.k1 e=116->M.k2 e=116:=by decide
 exact λe o i _ _=>ag (h e o i)
theorem Di{s:ByteArray}{p R F L:Nat}(h:(M.ins s p R F L).2=true):M.bt s p<23/\M.tk s p 0 22=true/\p+4<=s.size/\(∀k,k<3->M.tk s (p+1+k) 0 (M.BM R F ((M.kd.getD (M.bt s p) []).getD k 0))=true)/\(M.k1 (M.bt s p)=116->256*M.bt s (p+2)+M.bt s (p+3)<=L)/\(M.ins s p R F L).1=p+4:=by
 unfold M.ins at h ⊢;by_cases y:M.tk s p 0 22=true
 case neg=>rw[aa y]at h;cases h
 rw[aj y]at h ⊢;obtain⟨l0,_,l2⟩:=M.fK y;obtain⟨kf,Z,_⟩:=M.tg (M.bt s p) (by omega);unfold M.rz at h ⊢;by_cases G:M.tk s (p+1) 0 (M.iQ R F (M.k0 (M.bt s p)))=true
 case neg=>rw[aa G]at h;cases h
 rw[aj G]at h ⊢;have Y:(M.kd.getD (M.bt s p) []).getD 0 0=M.k0 (M.bt s p):=rfl;have g1:(M.kd.getD (M.bt s p) []).getD 1 0=M.k1 (M.bt s p):=rfl;have W:(M.kd.getD (M.bt s p) []).getD 2 0=M.k2 (M.bt s p):=rfl;by_cases u:M.k1 (M.bt s p)=116
 .rw[aj u]at h ⊢;unfold M.uQ at h ⊢;by_cases o:s.size<p+1+1+2
  .rw[aj o]at h;cases h
  rw[aa o]at h ⊢;by_cases i:L<256*M.bt s (p+1+1)+M.bt s (p+1+1+1)
  .rw[aj i]at h;cases h
  rw[aa i]at h ⊢;have H:=Mg _ (by omega) u R F;refine⟨by omega,y,by omega,λk hk=>?_,λ_=>(Nat.le_of_not_lt i),rfl⟩;have J:k=0\/k=1\/k=2:=by omega
  rcases J with rfl|rfl|rfl
  .rw[Y];exact pI _ _ _ _ _ G
  .rw[g1,u,M.xF,M.sn];simp;omega
  rw[W];rcases H with e|e
  .rw[e,M.xF,M.sn];simp;omega
  rw[e,M.sn];simp;omega
 rw[aa u]at h ⊢;by_cases o:M.tk s (p+1+1) 0 (M.iQ R F (M.k1 (M.bt s p)))=true
 case neg=>rw[aa o]at h;cases h
 rw[aj o]at h ⊢;by_cases i:M.tk s (p+1+2) 0 (M.iQ R F (M.k2 (M.bt s p)))=true
 case neg=>rw[aa i]at h;cases h
 rw[aj i]at h ⊢;obtain⟨l4,_,_⟩:=M.fK i;refine⟨by omega,y,by omega,λk hk=>?_,λe=>ch e u,rfl⟩;have J:k=0\/k=1\/k=2:=by omega
 rcases J with rfl|rfl|rfl
 .rw[Y];exact pI _ _ _ _ _ G
 .rw[g1];exact pI _ _ _ _ _ o
 rw[W];exact pI _ _ _ _ _ i
def fv(s:ByteArray)(p k j:Nat):Int:=if j<=k then(M.bt s (p+j):Int) else 0
def qF(s:ByteArray)(p k:Nat):Obj:=four (fv s p k 0) (fv s p k 1) (fv s p k 2) (fv s p k 3)
theorem xM{w:World}{c:Nat}{o u i e:Int}(h:w.heap[c]? = some (four o u i e))(j:Nat)(x:Int)(G:j<4):(w.setCell ⟨c,j,none⟩ (.int .i64 x)).heap[c]? = some (four (if j=0 then x else o) (if j=1 then x else u) (if j=2 then x else i) (if j=3 then x else e)):=by
 have y:j=0\/j=1\/j=2\/j=3:=by omega
 rcases y with rfl|rfl|rfl|rfl<;>simp[World.setCell,cn,h,four]
theorem uF{w:World}{c k:Nat}{s:ByteArray}{p:Nat}(h:w.heap[c]? = some (qF s p k))(o:k<3):(w.setCell ⟨c,k+1,none⟩ (.int .i64 (M.bt s (p+1+k)))).heap[c]? = some (qF s p (k+1)):=by
 rw[xM h (k+1) (M.bt s (p+1+k)) (by omega)];have i:k=0\/k=1\/k=2:=by omega
 rcases i with rfl|rfl|rfl<;>simp[qF,fv,Nat.add_assoc]
theorem tv{w:World}{c k:Nat}{s:ByteArray}{p:Nat}(h:w.heap[c]? = some (qF s p k))(j:Nat)(e:j<4):(∃x:Int,w.cell? ⟨c,j,none⟩=some (.int .i64 x))/\w.frozen? ⟨c,j,none⟩=false:=eW.cell ⟨_,_,_,_,h⟩ j e
theorem DM(b:Nat)(s:ByteArray)(p R F L:Nat)(r f l:Int)(w:World)(h:w.heap[b]? = some (jc s p false))(hs:s.size<=maxLen)(aV:s.size<=140737488355328)(hr:Hid (r=R))(hf:Hid (f=F))(hl:Hid (l=L))(h1:1<=R)(h2:1<=F)(h3:R<=8)(h4:F<=8)(aD:(M.ins s p R F L).2=true): Calls prog 54 #[.pointer (some ⟨b,0,none⟩),.int .i64 r,.int .i64 l,.int .i64 f] w λe w'=>e=.returned (.agg #[.int .i64 (M.bt s p),.int .i64 (M.bt s (p+1)),.int .i64 (M.bt s (p+2)),.int .i64 (M.bt s (p+3))])/\w'.heap[b]? = some (jc s ((p+4:Nat):Int) false)/\w.grownBy w' (some b):=by
 obtain⟨o1,o2,o3,o4,o5,_⟩:=Di aD;have hb:=bz h;have H:Hid (w.heap[b]? = some (jc s p false)):=h;have HS:=az hs;have aL:=az o4;have aF:=az o5;have aE:=az o2;clear h hs aD o4 o5 o2;go_in;go_wp2_with fail
 refine(iN b s p 0 22 0 22 _ (ga (ga H.out _) _) HS.out rfl rfl aE.out).mono ?_;rintro e w1 ⟨rfl,hh,hg⟩;generalize aA:M.bt s p=G at *;have a1:=az aA;clear aA;have a8:=an (an (ah _ _ _) (ah _ _ _)) hg;have F8:=eW.kept (w:=(w.alloc (four 0 0 0 0)).alloc (four 0 0 0 0)) ⟨0,0,0,0,(ak _ _ _ (by simp)).trans (bf w _)⟩ hg (by omega);have F9:=cm hg (by have o:=bf (w.alloc (four 0 0 0 0)) (four 0 0 0 0);rw[World.size_alloc]at o;exact o) (by intro e;injection e;omega);obtain⟨⟨x9,d9⟩,e9⟩:=eW.cell ⟨_,_,_,_,F9⟩ 0 (by omega);have HH:=az hh;have HG:=az a8;have H8:=az F8;have H9:=az F9;clear hh a8 F8 F9 hg;go_wp2_with fail
 refine(uA G _ o1).mono ?_;rintro e w2 ⟨rfl,hB⟩;have gB:(w1.setCell ⟨w.heap.size+1,0,none⟩ (.int .i64 G)).grownBy w2 (some b):=jz (by simpa using hB);have KG:=az (an (bp HG.out (ab (by simp)) _) gB);have gN:(w1.setCell ⟨w.heap.size+1,0,none⟩ (.int .i64 G)).grownBy w2 (some w2.heap.size):=jz (by simpa using hB);have aH:=hB.size;simp[World.setCell]at aH;have KB:=az (cm gN (gL HH.out (by omega)) (by intro e;injection e;have:=bz HH.out;omega));have K8:=az (eW.kept (eW.other H8.out (by omega)) gB (by omega));have K9:Hid (w2.heap[w.heap.size+1]? = some (qF s p 0)):=by
  refine cm gB ?_ (by intro e;injection e;omega);have o:=xM H9.out 0 G (by omega);rw[o];simp[qF,fv,a1.out]
 obtain⟨kf,kz⟩:=M.mC G o1;have a6:Hid (∀k (hk:k<(M.KS G).size),(M.KS G)[k].toNat=(M.kd.getD G []).getD k 0):=λk hk=>by
  have e:=M.kx (M.KS G) k hk;rw[<-kf,<-List.mX,e];rfl
 clear gB gN hB HH HG H8 H9 d9 e9 kf;generalize hS:M.KS G=S at *;clear hS;have aK:1<S.size:=by omega
 have b0:S.size<=3:=by omega
 have b6:3<=S.size:=by omega
 have b7:(1:Int)<(S.size:Int):=by omega
 have HM:Hid (S[1].toNat=M.k1 G):=a6.out 1 aK;clear kz;generalize hm:M.k1 G=m at *;clear hm;go_wp2_with fail
 go_loopw [11] (λi wr=>∃k:Nat,k<=3/\i=.int .i64 ((k:Int)+1)/\Hid (wr.heap[b]? = some (jc s ((p+1+k:Nat):Int) false))/\Hid (w.grownBy wr (some b))/\Hid (eW wr w.heap.size)/\Hid (wr.heap[w.heap.size+1]? = some (qF s p k))) (λi _=>4-(intOf i).toNat)
 case atStart=>exact⟨0,by omega,rfl,KB,KG,K8,K9⟩
 case round=>
  clear KB KG K8 K9;obtain⟨k,hk,rfl,rB,rG,r8,r9⟩:=hrel;by_cases aO:k<3
  .have aN:k<S.size:=by omega
   have a4:Hid (M.tk s (p+1+k) 0 (M.BM R F S[k].toNat)=true):=by
    have o:=aL.out k aO;rw[<-a6.out k aN]at o;exact o
   have aM:Hid (k=1->S[k].toNat=m):=by
    intro e;subst e;exact HM.out
   have b1:1<=r:=by have:=hr.out;omega
   have b2:r<=8:=by have:=hr.out;omega
   have b3:1<=f:=by have:=hf.out;omega
   have b4:f<=8:=by have:=hf.out;omega
   by_cases e1:k=1/\m=116
   .obtain⟨e1,em⟩:=e1;have g2:(((k:Int)+1) == 2)=true:=by simp;omega
    have aJ:Hid (k=1):=e1;have g3:((S[1].toNat:Int) == 116)=true:=by have:=HM.out;simp;omega
    have Z:Hid (S[k].toNat=116):=by show _=_;rw[aM.out aJ.out,em]
    have W:((S[k].toNat:Int) == 114)=false:=by have:=Z.out;simp;omega
    have q1:((S[k].toNat:Int) == 102)=false:=by have:=Z.out;simp;omega
    have q2:((S[k].toNat:Int) == 115)=false:=by have:=Z.out;simp;omega
    have q3:((S[k].toNat:Int) == 45)=false:=by have:=Z.out;simp;omega
    have a5:=aF.out em;obtain⟨q,hq⟩:∃q,q=p+1+k:=⟨_,rfl⟩;have a7:p+2=q:=by omega
    have aC:p+3=q+1:=by omega
    rw[a7,aC]at a5;have ez:q+1<s.size:=by omega
    have HQ:=az hq;have aX:=az em;rw[<-hq]at rB;clear em e1 a7 aC;obtain⟨y0,y1,y2⟩:=fZ rB.out;have aY:IntKind.i64.wrap ((q:Int)+1)=(q:Int)+1:=by rw[bl,bd _ (by omega)]
    have a9:q<s.size:=by omega
    have aZ:s[q].toNat<256:=eI _;have aT:s[q+1].toNat<256:=eI _;have aQ:IntKind.i64.wrap (s[q].toNat:Int)=(s[q].toNat:Int):=by rw[bl,bd _ (by omega)]
    have aR:IntKind.i64.wrap (256*(s[q].toNat:Int))=256*(s[q].toNat:Int):=by rw[bl,bd _ (by omega)]
    have b5:IntKind.i64.wrap (s[q+1].toNat:Int)=(s[q+1].toNat:Int):=by rw[bl,bd _ (by omega)]
    have aS:IntKind.i64.wrap (256*(s[q].toNat:Int)+(s[q+1].toNat:Int))=256*(s[q].toNat:Int)+(s[q+1].toNat:Int):=by rw[bl,bd _ (by omega)]
    have aU:((q:Int)+1).toNat=q+1:=by omega
    have aP:(q:Int)+1<(s.size:Int):=by omega
    have aW:(0:Int)<=(q:Int)+1:=by omega
    have t1:=M.lF s q a9;have t2:=M.lF s (q+1) ez;have g5:decide (l<256*(s[q].toNat:Int)+(s[q+1].toNat:Int))=false:=by have:=hl.out;rw[<-t1,<-t2];simp;omega
    have HT:Hid (M.tk s q 0 255=true):=by
     show _=_;rw[M.sn];simpa using a9
    clear t1 t2 a5 hq a4;go_wp2_with fail
    go_quiet (fail)
    go_wp2_with fail
    refine(iN b s q 0 255 0 255 (wr.drewN nq) rB.out HS.out rfl rfl HT.out).mono ?_;rintro e w4 ⟨rfl,hh,u⟩;have a2:Hid (w4.heap[b]? = some (jc s ((p+1+(k+1):Nat):Int) false)):=by
     have o:=hh;rw[HQ.out]at o;exact o
    have a0:=az (an (db rG.out _) u);have a3:=az (eW.kept (w:=(wr.drewN nq)) r8.out u (by omega));have J:=az (cm u r9.out (by intro e;injection e;omega));obtain⟨⟨y,d4⟩,e4⟩:=tv J.out (k+1) (by omega);have aG:Hid (M.bt s q=M.bt s (p+1+k)):=by show _=_;rw[HQ.out]
    clear hh u rB rG r8 r9 HT y0 y1 y2;go_wp2_with fail
    go_roundw
    case rel=>exact⟨k+1,by omega,by go_num,gL a2.out (by omega),bp a0.out (ab (by simp)) _,eW.other a3.out (by omega),by rw[aG.out];exact uF J.out (by omega)⟩
    case measure=>simp[intOf];omega
   have HG:Hid ((((k:Int)+1) == 2)=false\/((((k:Int)+1) == 2)=true/\((S[1].toNat:Int) == 116)=false)):=by
    by_cases e2:k=1
    .exact ab ⟨by simp;omega,by have:=HM.out;have:m≠116:=λe=>e1 ⟨e2,e⟩;simp;omega⟩
    exact ag (by simp;omega)
   have HZ:Hid (∃(X:Nat) (Y:Int),Y=(X:Int)/\M.tk s (p+1+k) 0 X=true/\((((S[k].toNat:Int) == 114)=true/\Y=r-1)\/(((S[k].toNat:Int) == 114)=false/\((S[k].toNat:Int) == 102)=true/\Y=f-1)\/(((S[k].toNat:Int) == 114)=false/\((S[k].toNat:Int) == 102)=false/\((S[k].toNat:Int) == 115)=true/\Y=8)\/(((S[k].toNat:Int) == 114)=false/\((S[k].toNat:Int) == 102)=false/\((S[k].toNat:Int) == 115)=false/\((S[k].toNat:Int) == 45)=true/\Y=0)\/(((S[k].toNat:Int) == 114)=false/\((S[k].toNat:Int) == 102)=false/\((S[k].toNat:Int) == 115)=false/\((S[k].toNat:Int) == 45)=false/\Y=255))):=by
    have o:=a4.out;unfold M.BM at o;by_cases z0:S[k].toNat=114
    .rw[aj z0]at o;exact⟨_,r-1,by have:=hr.out;omega,o,ag ⟨by simp;omega,rfl⟩⟩
    rw[aa z0]at o;have W:((S[k].toNat:Int) == 114)=false:=by simp;omega
    by_cases z1:S[k].toNat=102
    .rw[aj z1]at o;exact⟨_,f-1,by have:=hf.out;omega,o,ab (ag ⟨W,by simp;omega,rfl⟩)⟩
    rw[aa z1]at o;have q1:((S[k].toNat:Int) == 102)=false:=by simp;omega
    by_cases z2:S[k].toNat=115
    .rw[aj z2]at o;exact⟨_,8,rfl,o,ab (ab (ag ⟨W,q1,by simp;omega,rfl⟩))⟩
    rw[aa z2]at o;have q2:((S[k].toNat:Int) == 115)=false:=by simp;omega
    by_cases z3:S[k].toNat=45
    .rw[aj z3]at o;exact⟨_,0,rfl,o,ab (ab (ab (ag ⟨W,q1,q2,by simp;omega,rfl⟩)))⟩
    rw[aa z3]at o;exact⟨_,255,rfl,o,ab (ab (ab (ab ⟨W,q1,q2,by simp;omega,rfl⟩)))⟩
   obtain⟨X,Y,aB,hT,hq⟩:=HZ.out;have aI:=az aB;have HT:=az hT;clear HZ a4 aB hT e1;rcases HG.out with g2|⟨g2,g3⟩<;>rcases hq with⟨W,rfl⟩|⟨W,q1,rfl⟩|⟨W,q1,q2,rfl⟩|⟨W,q1,q2,q3,rfl⟩|⟨W,q1,q2,q3,rfl⟩
   all_goals
    clear HG;go_wp2_with fail
    go_quiet (fail)
    go_wp2_with fail
    refine(iN b s (p+1+k) 0 X 0 _ (wr.drewN nq) rB.out HS.out rfl (by have:=aI.out;omega) HT.out).mono ?_;rintro e w4 ⟨rfl,hh,u⟩;have a2:Hid (w4.heap[b]? = some (jc s ((p+1+(k+1):Nat):Int) false)):=hh;have a0:=az (an (db rG.out _) u);have a3:=az (eW.kept (w:=(wr.drewN nq)) r8.out u (by omega));have J:=az (cm u r9.out (by intro e;injection e;omega));obtain⟨⟨y,d4⟩,e4⟩:=tv J.out (k+1) (by omega);clear hh u rB rG r8 r9 HT;go_wp2_with fail
    go_roundw
    case rel=>exact⟨k+1,by omega,by go_num,gL a2.out (by omega),bp a0.out (ab (by simp)) _,eW.other a3.out (by omega),uF J.out (by omega)⟩
    case measure=>simp[intOf];omega
  obtain rfl:k=3:=by omega
  obtain⟨z0,z1,z2,z3,f8⟩:=r8.out;have f9:wr.heap[w.heap.size+1]? = some (four (G:Int) (M.bt s (p+1)) (M.bt s (p+2)) (M.bt s (p+3))):=by
   have o:=r9.out;rw[o];simp[qF,fv,a1.out]
  obtain⟨_,d0,d1,d2,d3,_,_,_,_⟩:=lC f9 (ax wr (some b)) (by omega);obtain⟨_,c0,c1,c2,c3,e0,e1,e2,e3⟩:=lC f8 (ax wr (some b)) (by omega);clear f8 f9 r8 r9;go_wp2_with fail
  refine da (v:=.agg #[.int .i64 G,.int .i64 (M.bt s (p+1)),.int .i64 (M.bt s (p+2)),.int .i64 (M.bt s (p+3))]) (by simp[results,results54,go_sem,c0,c1,c2,c3]) rfl ⟨by rw[a1.out],?_,?_⟩
  .repeat (rw[af _ _ _ _ (by simp;omega)])
   exact rB.out
  repeat (refine bp ?_ (ab (by simp)) _)
  exact rG.out
end
end Go.Proofs.YtnjiinbhbjpfkaaGreatDoor
