set_option maxRecDepth 100000
set_option maxHeartbeats 0
set_option linter.all false
namespace Go.Proofs.YtnjiinbhbjpfkaaGreatDoor
open Go.RowKit Go.Proofs.Tryz
namespace M
def bt(s:ByteArray)(p:Nat):Nat:=(s.data[p]?.getD 0).toNat
def tk(s:ByteArray)(p lo hi:Nat):Bool:=decide (p<s.size/\lo<=bt s p/\bt s p<=hi)
def kd:List (List Nat):=[[114,107,107],[114,114,45],[114,114,114],[114,114,114],[114,114,114],[114,114,114],[114,114,114],[45,116,116],[114,116,116],[114,115,45],[114,114,114],[114,114,114],[114,102,114],[114,114,114],[114,45,45],[114,114,114],[45,45,45],[114,45,45],[114,114,45],[114,45,45],[114,45,45],[114,114,45],[114,45,45]]
def k0(op:Nat):Nat:=(kd.getD op []).getD 0 0
def k1(op:Nat):Nat:=(kd.getD op []).getD 1 0
def k2(op:Nat):Nat:=(kd.getD op []).getD 2 0
def iQ(r f k:Nat):Nat:=if k=114 then r-1 else if k=102 then f-1 else if k=115 then 8 else if k=107 then 255 else 0
def uQ(s:ByteArray)(p l:Nat):Nat×Bool:=
 if s.size<p+2 then(s.size,false) else if l<256*bt s p+bt s (p+1) then(p,false) else(p+2,true)
def rz(s:ByteArray)(p op r f l:Nat):Nat×Bool:=
 if tk s p 0 (iQ r f (k0 op))=true then
  if k1 op=116 then uQ s (p+1) l
  else if tk s (p+1) 0 (iQ r f (k1 op))=true then
   if tk s (p+2) 0 (iQ r f (k2 op))=true then(p+3,true) else(p+2,false)
  else(p+1,false)
 else(p,false)
def ins(s:ByteArray)(p r f l:Nat):Nat×Bool:=
 if tk s p 0 22=true then rz s (p+1) (bt s p) r f l else(p,false)
def code(s:ByteArray)(r f l:Nat):Nat->Nat->Nat×Bool
 | p,0=>(p,true)
 | p,n+1=>if(ins s p r f l).2=true then code s r f l (ins s p r f l).1 n else((ins s p r f l).1,false)
def fn(s:ByteArray)(p f:Nat):Nat×Bool:=
 if tk s p 2 8=true then
  if tk s (p+1) 1 200=true then code s (bt s p) f (bt s (p+1)) (p+2) (bt s (p+1)) else(p+1,false)
 else(p,false)
def fns(s:ByteArray)(f:Nat):Nat->Nat->Nat×Bool
 | p,0=>(p,true)
 | p,n+1=>if(fn s p f).2=true then fns s f (fn s p f).1 n else((fn s p f).1,false)
def jO(s:ByteArray):Nat×Bool:=
 if tk s 0 1 8=true then((fns s (bt s 0) 1 (bt s 0)).1,(fns s (bt s 0) 1 (bt s 0)).2 && decide ((fns s (bt s 0) 1 (bt s 0)).1=s.size)) else(0,false)
def ops(s:ByteArray)(r f l:Nat):List Nat->Nat->Nat×Bool
 | [],q=>(q,true)
 | k :: ks,q=>if k=116 then uQ s q l else if tk s q 0 (iQ r f k)=true then ops s r f l ks (q+1) else(q,false)
theorem tg:∀e,e<23->kd.getD e []=[k0 e,k1 e,k2 e]/\k0 e≠116/\(k1 e≠116->k2 e≠116):=by decide
theorem zO(s:ByteArray)(p op r f l:Nat)(h:op<23):ops s r f l (kd.getD op []) p=rz s p op r f l:=by
 obtain⟨u,o,i⟩:=tg op h;rw[u];unfold rz;simp only[ops,if_neg o];by_cases e:k1 op=116
 .simp only[if_pos e]
 simp only[if_neg e,if_neg (i e)]
theorem my(s:ByteArray)(p:Nat):bt s p<256:=by
 unfold bt;exact UInt8.toNat_lt _
theorem lF(s:ByteArray)(p:Nat)(h:p<s.size):bt s p=(s[p]'h).toNat:=by
 unfold bt;rw[Array.getElem?_eq_getElem h];rfl
theorem fK{s:ByteArray}{p e hi:Nat}(h:tk s p e hi=true):p<s.size/\e<=bt s p/\bt s p<=hi:=by
 simpa[tk] using h
theorem Gz{s:ByteArray}{p l:Nat}(h:p<=s.size):p<=(uQ s p l).1/\(uQ s p l).1<=s.size:=by
 unfold uQ;split
 .exact⟨h,Nat.le_refl _⟩
 split<;>simp<;>omega
theorem CQ{s:ByteArray}{p op r f l:Nat}(h:p<=s.size):p<=(rz s p op r f l).1/\(rz s p op r f l).1<=s.size:=by
 unfold rz;split
 .rename_i o;have:=fK o;split
  .have:=Gz (s:=s) (p:=p+1) (l:=l) (by omega);omega
  split
  .rename_i i;have:=fK i;split
   .rename_i e;have:=fK e;simp;omega
   simp;omega
  simp;omega
 simp;omega
theorem yO{s:ByteArray}{p r f l:Nat}(h:p<=s.size):p<=(ins s p r f l).1/\(ins s p r f l).1<=s.size:=by
 unfold ins;split
 .rename_i e;have:=fK e;have:=CQ (s:=s) (p:=p+1) (op:=bt s p) (r:=r) (f:=f) (l:=l) (by omega);omega
 simp;omega
theorem ry{s:ByteArray}{p op r f l:Nat}(h:(rz s p op r f l).2=true):(rz s p op r f l).1=p+3:=by
 unfold rz at *;by_cases o:tk s p 0 (iQ r f (k0 op))=true
 .rw[if_pos o]at h ⊢;by_cases u:k1 op=116
  .rw[if_pos u]at h ⊢;unfold uQ at *;by_cases i:s.size<p+1+2
   .rw[if_pos i]at h;simp at h
   rw[if_neg i]at h ⊢;by_cases e:l<256*bt s (p+1)+bt s (p+1+1)
   .rw[if_pos e]at h;simp at h
   rw[if_neg e]
  rw[if_neg u]at h ⊢;by_cases i:tk s (p+1) 0 (iQ r f (k1 op))=true
  .rw[if_pos i]at h ⊢;by_cases e:tk s (p+2) 0 (iQ r f (k2 op))=true
   .rw[if_pos e]
   rw[if_neg e]at h;simp at h
  rw[if_neg i]at h;simp at h
 rw[if_neg o]at h;simp at h
theorem vz{s:ByteArray}{p r f l:Nat}(h:(ins s p r f l).2=true):(ins s p r f l).1=p+4:=by
 unfold ins at *;split at h
 .rw[if_pos (by assumption),ry h]
 simp at h
theorem Fy{s:ByteArray}{r f l:Nat}(n:Nat):∀p,p<=s.size->p<=(code s r f l p n).1/\(code s r f l p n).1<=s.size:=by
 induction n with
 | zero=>intro p h;simp[code];exact h
 | succ n e=>
  intro p h;have hi:=yO (s:=s) (p:=p) (r:=r) (f:=f) (l:=l) h;unfold code;split
  .have:=e _ hi.2;omega
  exact hi
theorem JB{s:ByteArray}{p f:Nat}(h:p<=s.size):p<=(fn s p f).1/\(fn s p f).1<=s.size:=by
 unfold fn;split
 .rename_i i;have:=fK i;split
  .rename_i e;have:=fK e;have:=Fy (s:=s) (r:=bt s p) (f:=f) (l:=bt s (p+1)) (bt s (p+1)) (p+2) (by omega);omega
  simp;omega
 simp;omega
def eX(S:ByteArray):List Nat:=S.data.toList.map UInt8.toNat
def KS(op:Nat):ByteArray:=⟨((kd.getD op []).map UInt8.ofNat).toArray⟩
theorem mC:∀e,e<23->eX (KS e)=kd.getD e []/\(KS e).size=3:=by decide
theorem kx(S:ByteArray)(k:Nat)(h:k<S.size):(eX S).drop k=S[k].toNat :: (eX S).drop (k+1):=by
 rw[List.drop_eq_getElem_cons (by simpa[eX] using h)];simp[eX];rfl
theorem qB(S:ByteArray):(eX S).drop S.size=[]:=by
 apply List.drop_of_length_le;simp[eX]
theorem mS(s:ByteArray)(p q i:Nat)(h:q<=s.size)(hi:p+i<q):bt (s.extract p q) i=bt s (p+i):=by
 unfold bt;have:(s.extract p q).data=s.data.extract p q:=by simp
 rw[this,Array.getElem?_extract];have e:q<=s.data.size:=h;rw[if_pos (by omega)]
theorem DL{s:ByteArray}{r f l:Nat}(n:Nat):∀p,(code s r f l p n).2=true->(code s r f l p n).1=p+4*n:=by
 induction n with
 | zero=>intro p _;rfl
 | succ n i=>
  intro p h;unfold code at h ⊢;by_cases e:(ins s p r f l).2=true
  .rw[if_pos e]at h ⊢;rw[i _ h,vz e];omega
  rw[if_neg e]at h;simp at h
theorem tw{s:ByteArray}{p f:Nat}(h:(fn s p f).2=true):(fn s p f).1=p+2+4*bt s (p+1)/\2<=bt s p/\bt s p<=8/\1<=bt s (p+1)/\bt s (p+1)<=200:=by
 unfold fn at *;by_cases i:tk s p 2 8=true
 .rw[if_pos i]at h ⊢;by_cases e:tk s (p+1) 1 200=true
  .rw[if_pos e]at h ⊢;have:=fK i;have:=fK e;refine⟨DL _ _ h,by omega,by omega,by omega,by omega⟩
  rw[if_neg e]at h;simp at h
 rw[if_neg i]at h;simp at h
def pos(s:ByteArray):Nat->Nat
 | 0=>1
 | k+1=>pos s k+2+4*bt s (pos s k+1)
def nx(s:ByteArray)(hi:Nat)(q:Nat)(bad:Bool):Nat×Bool:=
 if bad=true then(q,true) else if tk s q 0 hi=true then(q+1,false) else(q,true)
def BM(r f k:Nat):Nat:=if k=114 then r-1 else if k=102 then f-1 else if k=115 then 8 else if k=45 then 0 else 255
def tb(s:ByteArray)(l q:Nat):Bool:=decide (q+1<s.size/\l<256*bt s q+bt s (q+1))
def qK(s:ByteArray)(r f l m i k q:Nat)(bad:Bool):Nat×Bool:=
 nx s (BM r f k) q (bad || (decide (i=2/\m=116) && tb s l q))
def ud(s:ByteArray)(r f l m:Nat):List Nat->Nat->Nat×Bool->Nat×Bool
 | [],_,st=>st
 | k :: ks,i,st=>ud s r f l m ks (i+1) (qK s r f l m i k st.1 st.2)
theorem CT(s:ByteArray)(hi q:Nat):nx s hi q true=(q,true):=by simp[nx]
theorem xl{s:ByteArray}{hi q:Nat}{bad:Bool}(h:q<=s.size):q<=(nx s hi q bad).1/\(nx s hi q bad).1<=s.size:=by
 unfold nx;split
 .exact⟨Nat.le_refl _,h⟩
 split
 .rename_i e;have:=fK e;simp;omega
 exact⟨Nat.le_refl _,h⟩
theorem Ao(s:ByteArray)(r f l m i k q:Nat):qK s r f l m i k q true=(q,true):=by simp[qK,CT]
theorem DU(s:ByteArray)(r f l m:Nat)(e:List Nat):∀i q,ud s r f l m e i (q,true)=(q,true):=by
 induction e with
 | nil=>intro i q;rfl
 | cons k e o=>intro i q;unfold ud;simp only[Ao];exact o _ _
theorem EY:∀e,e<23->(k1 e=116->k2 e=116)/\(k0 e=114\/k0 e=102\/k0 e=115\/k0 e=107\/k0 e=45)/\(k1 e≠116->(k1 e=114\/k1 e=102\/k1 e=115\/k1 e=107\/k1 e=45)/\(k2 e=114\/k2 e=102\/k2 e=115\/k2 e=107\/k2 e=45)):=by decide
theorem yQ(r f k:Nat)(h:k=114\/k=102\/k=115\/k=107\/k=45):BM r f k=iQ r f k:=by
 rcases h with rfl|rfl|rfl|rfl|rfl<;>rfl
theorem xF(r f:Nat):BM r f 116=255:=rfl
theorem sn(s:ByteArray)(q:Nat):tk s q 0 255=decide (q<s.size):=by
 have:=my s q;unfold tk;congr 1
 apply propext
 constructor
 .intro h;exact h.1
 intro h;exact⟨h,by omega,by omega⟩
theorem DT(s:ByteArray)(p op r f l:Nat)(h:op<23): ud s r f l (k1 op) (kd.getD op []) 1 (p,false)=((rz s p op r f l).1,!(rz s p op r f l).2):=by
 obtain⟨h1,h2,h3⟩:=tg op h;obtain⟨m1,m2,m3⟩:=EY op h;rw[h1];simp only[ud];unfold rz;have Y:qK s r f l (k1 op) 1 (k0 op) p false=nx s (iQ r f (k0 op)) p false:=by
  unfold qK;rw[yQ _ _ _ m2];simp
 by_cases o:tk s p 0 (iQ r f (k0 op))=true
 .have p1:=(fK o).1;have i:qK s r f l (k1 op) 1 (k0 op) p false=(p+1,false):=by rw[Y];simp[nx,o]
  rw[if_pos o,i];by_cases ht:k1 op=116
  .rw[if_pos ht];have W:qK s r f l (k1 op) (1+1) (k1 op) (p+1) false=nx s 255 (p+1) (tb s l (p+1)):=by
    unfold qK;rw[ht,xF];simp
   have y:∀q bad,qK s r f l (k1 op) (1+1+1) (k2 op) q bad=nx s 255 q bad:=by
    intro q bad;unfold qK;rw[m1 ht,xF];simp
   simp only[W,y];unfold uQ;by_cases c1:s.size<p+1+2
   .rw[if_pos c1];have e:tb s l (p+1)=false:=by unfold tb;simp;omega
    rw[e];by_cases H:p+1<s.size
    .have:s.size=p+2:=by omega
     simp[nx,sn,this]
    have:s.size=p+1:=by omega
    simp[nx,sn,this]
   rw[if_neg c1];by_cases H:l<256*bt s (p+1)+bt s (p+1+1)
   .have J:tb s l (p+1)=true:=by unfold tb;simp;omega
    rw[if_pos H,J];simp[nx]
   have e:tb s l (p+1)=false:=by unfold tb;simp;omega
   rw[if_neg H,e];have d1:p+1<s.size:=by omega
   have d2:p+1+1<s.size:=by omega
   simp[nx,sn,d1,d2]
  obtain⟨m4,m5⟩:=m3 ht;rw[if_neg ht];have W:qK s r f l (k1 op) (1+1) (k1 op) (p+1) false=nx s (iQ r f (k1 op)) (p+1) false:=by
   unfold qK;rw[yQ _ _ _ m4];simp[ht]
  have y:∀q bad,qK s r f l (k1 op) (1+1+1) (k2 op) q bad=nx s (iQ r f (k2 op)) q bad:=by
   intro q bad;unfold qK;rw[yQ _ _ _ m5];simp
  simp only[W,y];by_cases G:tk s (p+1) 0 (iQ r f (k1 op))=true
  .by_cases Z:tk s (p+1+1) 0 (iQ r f (k2 op))=true
   .simp[nx,G,Z]
   simp[nx,G,Z]
  simp[nx,G]
 have i:qK s r f l (k1 op) 1 (k0 op) p false=(p,true):=by rw[Y];simp[nx,o]
 rw[if_neg o,i];simp[Ao]
