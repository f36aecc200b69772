import Derived.Test.YtnjiinbhbjpfkaaGreatDoorRows
import Derived.WalkKit
import Derived.WalkSpells
import Derived.WalkLawsBesides
import Derived.BigQuiet
import Derived.BigRegion
import Derived.Deep.QuietTactic
import Derived.Deep.MidRow
import Derived.Deep.RegionLawGrows
import Derived.Deep.DeepCutAuto
import Derived.Laws.ByValue
import Derived.Test.YtnjiinbhbjpfkaaGreatDoorCards
import Derived.Test.YtnjiinbhbjpfkaaGreatDoorTie
import Derived.ProofKit
import Derived.LaidMore
import Derived.OpenShut
import Derived.Stop.Joined
import Derived.Lib.SmallJoins
import Derived.Carry
import Derived.ChangeSlices
set_option maxRecDepth 100000
set_option maxHeartbeats 0
set_option linter.all false
namespace Go.Proofs.YtnjiinbhbjpfkaaGreatDoor
open Go.RowKit Go.Proofs.Tryz
section
abbrev aa:=@if_neg
abbrev ab:=@Or.inr
abbrev af:=@Below.heap_setCell
abbrev ag:=@Or.inl
abbrev ah:=@World.grownBy_alloc
abbrev aj:=@if_pos
abbrev ak:=@Below.heap_alloc
abbrev ar:=@List.getD_eq_getElem?_getD
abbrev av:=@World.block_lt_of_cell?
abbrev aw:=@World.cell?_of_block
abbrev ay:=@And.intro
abbrev bd:=@IntWalk.wrap64_in
abbrev bf:=@heap_alloc_new
abbrev bj:=@Nat.le_refl
abbrev bl:=@IntWalk.i64_left
abbrev bn:=@List.getElem?_eq_getElem
abbrev bo:=@List.length_append
abbrev bu:=@List.getElem?_eq_some_iff
abbrev cf:=@List.length_eq_zero_iff
abbrev ch:=@absurd
abbrev cn:=@Array.getElem?_modify
abbrev cw:=@List.getElem?_eq_none
abbrev da:=@bodyPost_ret
abbrev dc:=@Nat.zero_le
abbrev dg:=@World.frozen?_of_block
abbrev dh:=@List.getElem?_take
abbrev di:=@List.mem_append
abbrev dm:=@Nat.lt_of_lt_of_le
abbrev dq:=@List.length_set
abbrev du:=@List.getElem?_append_left
abbrev dC:=@Nat.add_sub_cancel
abbrev dF:=@World.cell?_setCell_other
abbrev dH:=@Nat.le_trans
abbrev dJ:=@World.ownsRow_nil
abbrev dK:=@beq_eq_false_iff_ne
abbrev dL:=@List.mem_singleton
abbrev dO:=@of_decide_eq_true
abbrev dS:=@List.length_map
abbrev dX:=@List.getElem?_append_right
abbrev dY:=@List.append_assoc
abbrev ed:=@List.mem_of_getElem?
abbrev ee:=@List.mem_append_left
abbrev ef:=@List.length_dropLast
abbrev ek:=@List.mem_map
abbrev eo:=@List.getElem?_map
abbrev eA:=@List.range_succ
abbrev eB:=@List.append_nil
abbrev eF:=@List.length_singleton
abbrev eI:=@UInt8.toNat_lt
abbrev eJ:=@List.mem_range
abbrev eM:=@Below.refl
abbrev eP:=@List.map_append
abbrev fh:=@decide_eq_true
abbrev fi:=@decide_eq_false
abbrev fB:=@funext
abbrev fV:=@Prod.ext
abbrev fW:=@List.getElem?_range
abbrev g8:=@Option.some.inj
abbrev ik:=@List.length_replicate
abbrev lH:=@Int.toNat_natCast
abbrev mU:=@Nat.le_of_lt
abbrev nS:=@IntWalk.i64_in
abbrev P0(b:Nat):Value:=.pointer (some ⟨b,0,none⟩)
abbrev Fv(k:Nat)(cap:Array Value):Value:=.func (.func k) #[] cap
theorem ax(w:World)(row:Option Nat):w.grownBy w row:=⟨rfl,rfl,rfl,bj _,λ_ _ _=>rfl⟩
theorem an{w w1 w2:World}{row:Option Nat}(h:w.grownBy w1 row)(k:w1.grownBy w2 row):w.grownBy w2 row:=
 ⟨k.os.trans h.os,k.tape.trans h.tape,k.output.trans h.output,dH h.size k.size,λi hi e=>(k.block i (dm hi h.size) e).trans (h.block i hi e)⟩
theorem db{w w1:World}{row:Option Nat}(h:w.grownBy w1 row)(n:Nat):w.grownBy (w1.drewN n) row:=⟨h.os,h.tape,h.output,h.size,h.block⟩
theorem bq{w w1:World}{row:Option Nat}(h:w.grownBy w1 row):w.grownBy w1.drew row:=⟨h.os,h.tape,h.output,h.size,h.block⟩
theorem au{w w1:World}{row:Option Nat}(h:w.grownBy w1 row)(o:Obj):w.grownBy (w1.alloc o) row:=an h (ah _ _ _)
theorem bp{w w1:World}{row:Option Nat}(h:w.grownBy w1 row){a:Addr}(e:some a.block=row\/w.heap.size<=a.block)(v:Value):w.grownBy (w1.setCell a v) row:=by
 refine⟨h.os,h.tape,h.output,dH h.size (by simp[World.setCell]),λi hi o=>?_⟩;rw[af]
 .exact h.block i hi o
 rintro rfl;rcases e with e|e
 .exact o e
 omega
theorem bz{w:World}{b:Nat}{o:Obj}(h:w.heap[b]? = some o):b<w.heap.size:=(Array.getElem?_eq_some_iff.1 h).1
theorem cm{w w1:World}{row:Option Nat}(h:w.grownBy w1 row){k:Nat}{o:Obj}(e:w.heap[k]? = some o)(i:some k≠row):w1.heap[k]? = some o:=
 (h.block k (bz e) i).trans e
theorem jz{w w':World}{b:Nat}(h:Below w.heap.size w w'):w.grownBy w' (some b):=⟨h.os,h.tape,h.output,h.size,λk e _=>h.block k e⟩
def Full(w:World)(g:Nat)(T:TypeId)(n m:Nat)(P:Nat->Value):Prop:=∃cur,w.heap[g]? = some (.cells cur T (0,0))/\cur.size=n/\∀j,j<m->cur[j]? = some (P j)
def jB(w:World)(g:Nat)(T:TypeId)(n:Nat):Prop:=∃cur,w.heap[g]? = some (.cells cur T (0,0))/\cur.size=n
theorem jB.lt{w:World}{g n:Nat}{T:TypeId}(h:jB w g T n):g<w.heap.size:=by obtain⟨_,h,_⟩:=h;exact bz h
theorem jB.cell{w:World}{g n:Nat}{T:TypeId}(h:jB w g T n)(j:Nat)(o:j<n):(∃v,w.cell? ⟨g,j,none⟩=some v)/\w.frozen? ⟨g,j,none⟩=false:=by
 obtain⟨e,h,u⟩:=h
 exact⟨⟨e[j],by simp[World.cell?,h,by omega]⟩,by simp[World.frozen?,h]⟩
theorem jB.set{w:World}{g n:Nat}{T:TypeId}(h:jB w g T n)(x o:Nat)(v:Value):jB (w.setCell ⟨x,o,none⟩ v) g T n:=by
 obtain⟨i,h,u⟩:=h;by_cases e:g=x
 .subst e;refine⟨i.setIfInBounds o v,?_,by simpa using u⟩;simp[World.setCell,cn,h]
 exact⟨i,(af _ _ _ _ e).trans h,u⟩
theorem jB.owned{w:World}{g n cap i size:Nat}{e:TypeId}{xs:List Value}(h:w.ownsRow i e size (.slice (some ⟨g,0,none⟩) n cap) n xs):jB w g e (cap*size):=by
 rcases h.2 with⟨h,_⟩|⟨g',u,o,H,_,G,_,_,y,_⟩
 .cases h
 cases H;exact⟨o,G,y⟩
theorem Full.xV{w:World}{g n m:Nat}{T:TypeId}{P:Nat->Value}(h:Full w g T n m P):jB w g T n:=by obtain⟨e,h,i,_⟩:=h;exact⟨e,h,i⟩
theorem jB.full{w:World}{g n:Nat}{T:TypeId}(h:jB w g T n)(P:Nat->Value):Full w g T n 0 P:=by obtain⟨e,h,o⟩:=h;exact⟨e,h,o,λj i=>ch i (Nat.not_lt_zero j)⟩
theorem Full.set{w:World}{g n m:Nat}{T:TypeId}{P:Nat->Value}(h:Full w g T n m P)(G:m<n):Full (w.setCell ⟨g,m,none⟩ (P m)) g T n (m+1) P:=by
 obtain⟨i,h,y,u⟩:=h;refine⟨i.setIfInBounds m (P m),by simp[World.setCell,cn,h],by simpa using y,λj o=>?_⟩;rw[Array.getElem?_setIfInBounds];by_cases e:m=j
 .subst e;simp;omega
 rw[aa e];exact u j (by omega)
theorem Full.block{w w':World}{g n m:Nat}{T:TypeId}{P:Nat->Value}(h:Full w g T n m P)(i:w'.heap[g]? = w.heap[g]?):Full w' g T n m P:=by
 obtain⟨e,h,r⟩:=h;exact⟨e,i.trans h,r⟩
theorem Full.lt{w:World}{g n m:Nat}{T:TypeId}{P:Nat->Value}(h:Full w g T n m P):g<w.heap.size:=h.xV.lt
theorem Full.kept{w w':World}{g n m b:Nat}{T:TypeId}{P:Nat->Value}(h:Full w g T n m P)(i:w.grownBy w' (some b))(o:g≠b):Full w' g T n m P:=
 h.block (i.block g h.lt (by intro e;injection e;omega))
theorem Full.cell{w:World}{g n m:Nat}{T:TypeId}{P:Nat->Value}(h:Full w g T n m P)(j:Nat)(i:j<m):w.cell? ⟨g,j,none⟩=some (P j):=by
 obtain⟨e,h,_,hP⟩:=h;simp[World.cell?,h,hP j i]
theorem Full.I4{w:World}{g n m:Nat}{T:TypeId}{P:Nat->Value}(h:Full w g T n m P)(u:m+4<=n)(v0 v1 v2 v3:Value)(e0:v0=P m)(o:v1=P (m+1))(i:v2=P (m+2))(e:v3=P (m+3)): Full (w.setCells g m [v0,v1,v2,v3]) g T n (m+4) P:=by
 subst e0 o i e;exact(((h.set (by omega)).set (by omega)).set (by omega)).set (by omega)
theorem Full.I5{w:World}{g n m:Nat}{T:TypeId}{P:Nat->Value}(h:Full w g T n m P)(i:m+2<=n)(v0 v1:Value)(e0:v0=P m)(e:v1=P (m+1)): Full (w.setCells g m [v0,v1]) g T n (m+2) P:=by
 subst e0 e;exact(h.set (by omega)).set (by omega)
theorem eD{w w':World}{row:Option Nat}(h:w.grownBy w' none):w.grownBy w' row:=⟨h.os,h.tape,h.output,h.size,λk i _=>h.block k i (by intro e;cases e)⟩
theorem jB.there{w:World}{g n:Nat}{T:TypeId}(h:jB w g T n)(o m:Nat)(y:o+m<=n):w.there g o m:=λj u=>by
 obtain⟨⟨v,i⟩,e⟩:=h.cell (o+j) (by omega);exact⟨by rw[i];rfl,e⟩
theorem jB.Ex{g n:Nat}{T:TypeId}(x:Nat):∀(e:List Value) (o:Nat) (w:World),jB w g T n->jB (w.setCells x o e) g T n
 | [],_,_,h=>h
 | v :: r,o,w,h=>jB.Ex x r (o+1) (w.setCell ⟨x,o,none⟩ v) (h.set x o v)
theorem eU(x k:Nat)(e:k≠x):∀(i:List Value) (o:Nat) (w:World),(w.setCells x o i).heap[k]? = w.heap[k]?
 | [],_,_=>rfl
 | v :: r,o,w=>by rw[World.setCells,eU x k e r];exact af _ _ _ _ e
theorem gM{row:Option Nat}(g:Nat):∀(e:List Value) (o:Nat) (w w1:World),w.grownBy w1 row->w.heap.size<=g->w.grownBy (w1.setCells g o e) row
 | [],_,_,_,h,_=>h
 | v :: r,o,w,w1,h,hg=>gM g r (o+1) w (w1.setCell ⟨g,o,none⟩ v) (bp h (ab hg) v) hg
theorem tH{w w':World}{o:Obj}(h:(w.alloc o).grownBy w' (some w.heap.size)):Below w.heap.size w w':=
 ⟨h.os,h.tape,h.output,by have:=h.size;simp at this;omega,λk i=>(h.block k (by simp;omega) (by intro e;injection e;omega)).trans (ak _ _ _ i)⟩
theorem qL{W w1:World}(e:Below W.heap.size W w1):(∀b o,b<W.heap.size->w1.cell? ⟨b,o,none⟩=W.cell? ⟨b,o,none⟩)/\(∀b o,b<W.heap.size->w1.frozen? ⟨b,o,none⟩=W.frozen? ⟨b,o,none⟩):=
 ⟨λb o h=>e.cell (p:=⟨b,o,none⟩) h,λb o h=>e.frozen (p:=⟨b,o,none⟩) h⟩
theorem tI{w w':World}(h:w.grownBy w' none):Below w.heap.size w w':=⟨h.os,h.tape,h.output,h.size,λk i=>h.block k i (by intro e;cases e)⟩
theorem dM{w:World}{o size n:Nat}{e:TypeId}{v:Value}{xs:List Value}(h:w.ownsRow o e size v n xs)(hn:n≠0):∃g cap,v=.slice (some ⟨g,0,none⟩) n cap:=by
 rcases h.2 with⟨_,h⟩|⟨g',i,_,h,_⟩
 .omega
 exact⟨g',i,h⟩
theorem bh{w w1:World}(h:w.grownBy w1 none){a:Addr}(i:a.block<w.heap.size):w1.cell? a=w.cell? a/\w1.frozen? a=w.frozen? a:=
 ⟨aw (h.block a.block i (by intro e;cases e)),dg (h.block a.block i (by intro e;cases e))⟩
def iU(w:World):List (Value×TypeId)->World
 | []=>w
 | x :: r=>iU (w.alloc (.cells #[x.1] x.2)) r
theorem nM(l:List (Value×TypeId)):∀(w:World),Below w.heap.size w (iU w l):=by
 induction l with
 | nil=>intro w;exact eM _ _
 | cons x r e=>intro w;exact((eM _ _).alloc (bj _) _).trans ((e _).mono (by simp))
theorem yJ(l:List (Value×TypeId)):∀(w:World),(iU w l).heap.size=w.heap.size+l.length:=by
 induction l with
 | nil=>intro w;rfl
 | cons x r e=>intro w;rw[iU,e];simp;omega
theorem Da(l:List (Value×TypeId)):∀(w:World) (k:Nat) (x:Value×TypeId),l[k]? = some x->(iU w l).heap[w.heap.size+k]? = some (.cells #[x.1] x.2 (0,0)):=by
 induction l with
 | nil=>intro w k x h;simp at h
 | cons y r e=>
  intro w k x h
  cases k with
  | zero=>
   simp at h;subst h
   rw[iU];exact((nM r (w.alloc (.cells #[y.1] y.2))).block _ (by simp)).trans (bf w _)
  | succ k=>
   have:=e (w.alloc (.cells #[y.1] y.2)) k x (by simpa using h);rw[iU];simpa[Nat.add_assoc,Nat.add_comm 1 k] using this
theorem u9{fn:Func}{p:Tmp}{ty:TypeId}{a:Addr}{v:Value}{P:Program}{w:World}(h:fn.results=#[.cell p ty])(e:Array Value)(o:e.getD p undef=.pointer (some a))(u:(loadVar ty a).run P w=.ok v w): (results fn e).run P w=.ok v w:=by
 simp[results,h,(by simpa using o),asAddr,u]
theorem lK(g:Nat):∀(e:List Value) (o:Nat) (w:World),(w.setCells g o e).heap.size=w.heap.size
 | [],_,_=>rfl
 | v :: r,o,w=>by rw[World.setCells,lK g r];simp[World.setCell]
theorem qS{P:Program}{ops:Array Oper}{o:Oper}{a:Act}{w:World}{K:Act->World->Prop}{Q:Exit->Act->World->Prop}{E:Prop}(hg:o.guard=none)(s x:Operand)(t:TypeId)(Z:o.op=Op.call { callee:=Callee.builtin Builtin.append,args:=#[s,x],argTypes:=#[t,t] })(G:Nat)(e:TypeId)(i:TypeInfo)(z:Value)(size bytes:Nat)(h1:P.underlying t=some (.slice e))(h2:P.info? e=some i)(h3:i.zero=some z)(h4:i.size=size)(h5:i.bytes=bytes)(h6:z.cells.size=size)(h7:0<size)(v:Value)(n:Nat)(xs:List Value)(hs:a.eval s=v)(H:w.ownsRow G e size v n xs)(ad:Addr)(m c:Nat)(y:List Value)(hx:a.eval x=.slice (some ad) m c)(hn:y.length=m*size)(hc:∀j u,y[j]? = some u->w.cell? (ad.add j)=some u)(Y:∀u∈y,u.oneCell'=true)(b1:n+m<=maxLen)(b2:(n+m)*bytes<=140737488355328)(hb:G<=w.heap.size)(hK:∀W w',w'.ownsRow G e size W (n+m) (xs++y)->w.grownBy w' v.ownBlock->K (a.put o.dst W) w'): if Region.wanted o (yielded ops a.tmps)=true then Oper.wp P o a w K Q else E:=by
 rw[aj (by simp[Region.wanted,hg])];obtain⟨W,w',J,r1,r2,_⟩:=run_append_own (P:=P) w G t o.type e i z size bytes h1 h2 h3 h4 h5 h6 h7 v n xs H ad m c y hn hc Y b1 b2 hb;unfold Oper.wp;simp[execOp,Z,resolve,invoke,builtin,hs,hx,J,Result.andThen];exact hK W w' r1 r2
theorem By{w w1 w2:World}{v:Value}{base size n:Nat}{e:TypeId}{xs:List Value}(h:Below w.heap.size w w1)(hg:w1.grownBy w2 v.ownBlock)(ho:w1.ownsRow base e size v n xs)(hb:w.heap.size≤base):Below w.heap.size w w2:=by
 refine h.trans ⟨hg.os,hg.tape,hg.output,hg.size,fun k hk=>hg.block k (dm hk h.size) ?_⟩
 rcases ho.2 with⟨rfl,_⟩|⟨g,cap,cur,rfl,hg2,_⟩
 .intro e;cases e
 .intro e;have e':k=g:=by injection e
  omega
theorem ur{w:World}{i size n:Nat}{e:TypeId}{v:Value}{xs:List Value}(h:w.ownsRow i e size v n xs)(o:Obj):(w.alloc o).ownsRow i e size v n xs:=by
 refine⟨h.1,?_⟩;rcases h.2 with y|⟨g,cap,u,J,y,G,H⟩
 .exact ag y
 exact ab ⟨g,cap,u,J,y,(ak _ _ _ (bz G)).trans G,H⟩
theorem xh{w:World}{base size n:Nat}{e:TypeId}{v:Value}{xs:List Value}(h:w.ownsRow base e size v n xs):w.drew.ownsRow base e size v n xs:=h
end
namespace M
def bt(s:ByteArray)(p:Nat):Nat:=(s.data[p]?.getD 0).toNat
def tk(s:ByteArray)(p lo hi:Nat):Bool:=decide (p<s.size/\lo<=bt s p/\bt s p<=hi)
def kd:List (List Nat):=[[114,107,107],[114,114,45],[114,114,114],[114,114,114],[114,114,114],[114,114,114],[114,114,114],[45,116,116],[114,116,116],[114,115,45],[114,114,114],[114,114,114],[114,102,114],[114,114,114],[114,45,45],[114,114,114],[45,45,45],[114,45,45],[114,114,45],[114,45,45],[114,45,45],[114,114,45],[114,45,45]]
def k0(op:Nat):Nat:=(kd.getD op []).getD 0 0
def k1(op:Nat):Nat:=(kd.getD op []).getD 1 0
def k2(op:Nat):Nat:=(kd.getD op []).getD 2 0
def iQ(r f k:Nat):Nat:=if k=114 then r-1 else if k=102 then f-1 else if k=115 then 8 else if k=107 then 255 else 0
def uQ(s:ByteArray)(p l:Nat):Nat×Bool:=
 if s.size<p+2 then(s.size,false) else if l<256*bt s p+bt s (p+1) then(p,false) else(p+2,true)
def rz(s:ByteArray)(p op r f l:Nat):Nat×Bool:=
 if tk s p 0 (iQ r f (k0 op))=true then
  if k1 op=116 then uQ s (p+1) l
  else if tk s (p+1) 0 (iQ r f (k1 op))=true then
   if tk s (p+2) 0 (iQ r f (k2 op))=true then(p+3,true) else(p+2,false)
  else(p+1,false)
 else(p,false)
def ins(s:ByteArray)(p r f l:Nat):Nat×Bool:=
 if tk s p 0 22=true then rz s (p+1) (bt s p) r f l else(p,false)
def code(s:ByteArray)(r f l:Nat):Nat->Nat->Nat×Bool
 | p,0=>(p,true)
 | p,n+1=>if(ins s p r f l).2=true then code s r f l (ins s p r f l).1 n else((ins s p r f l).1,false)
def fn(s:ByteArray)(p f:Nat):Nat×Bool:=
 if tk s p 2 8=true then
  if tk s (p+1) 1 200=true then code s (bt s p) f (bt s (p+1)) (p+2) (bt s (p+1)) else(p+1,false)
 else(p,false)
def fns(s:ByteArray)(f:Nat):Nat->Nat->Nat×Bool
 | p,0=>(p,true)
 | p,n+1=>if(fn s p f).2=true then fns s f (fn s p f).1 n else((fn s p f).1,false)
def jO(s:ByteArray):Nat×Bool:=
 if tk s 0 1 8=true then((fns s (bt s 0) 1 (bt s 0)).1,(fns s (bt s 0) 1 (bt s 0)).2 && decide ((fns s (bt s 0) 1 (bt s 0)).1=s.size)) else(0,false)
def ops(s:ByteArray)(r f l:Nat):List Nat->Nat->Nat×Bool
 | [],q=>(q,true)
 | k :: ks,q=>if k=116 then uQ s q l else if tk s q 0 (iQ r f k)=true then ops s r f l ks (q+1) else(q,false)
theorem tg:∀e,e<23->kd.getD e []=[k0 e,k1 e,k2 e]/\k0 e≠116/\(k1 e≠116->k2 e≠116):=by decide
theorem zO(s:ByteArray)(p op r f l:Nat)(h:op<23):ops s r f l (kd.getD op []) p=rz s p op r f l:=by
 obtain⟨u,o,i⟩:=tg op h;rw[u];unfold rz;simp only[ops,if_neg o];by_cases e:k1 op=116
 .simp only[if_pos e]
 simp only[if_neg e,if_neg (i e)]
theorem my(s:ByteArray)(p:Nat):bt s p<256:=by
 unfold bt;exact UInt8.toNat_lt _
theorem lF(s:ByteArray)(p:Nat)(h:p<s.size):bt s p=(s[p]'h).toNat:=by
 unfold bt;rw[Array.getElem?_eq_getElem h];rfl
theorem fK{s:ByteArray}{p e hi:Nat}(h:tk s p e hi=true):p<s.size/\e<=bt s p/\bt s p<=hi:=by
 simpa[tk] using h
theorem Gz{s:ByteArray}{p l:Nat}(h:p<=s.size):p<=(uQ s p l).1/\(uQ s p l).1<=s.size:=by
 unfold uQ;split
 .exact⟨h,Nat.le_refl _⟩
 split<;>simp<;>omega
theorem CQ{s:ByteArray}{p op r f l:Nat}(h:p<=s.size):p<=(rz s p op r f l).1/\(rz s p op r f l).1<=s.size:=by
 unfold rz;split
 .rename_i o;have:=fK o;split
  .have:=Gz (s:=s) (p:=p+1) (l:=l) (by omega);omega
  split
  .rename_i i;have:=fK i;split
   .rename_i e;have:=fK e;simp;omega
   simp;omega
  simp;omega
 simp;omega
theorem yO{s:ByteArray}{p r f l:Nat}(h:p<=s.size):p<=(ins s p r f l).1/\(ins s p r f l).1<=s.size:=by
 unfold ins;split
 .rename_i e;have:=fK e;have:=CQ (s:=s) (p:=p+1) (op:=bt s p) (r:=r) (f:=f) (l:=l) (by omega);omega
 simp;omega
theorem ry{s:ByteArray}{p op r f l:Nat}(h:(rz s p op r f l).2=true):(rz s p op r f l).1=p+3:=by
 unfold rz at *;by_cases o:tk s p 0 (iQ r f (k0 op))=true
 .rw[if_pos o]at h ⊢;by_cases u:k1 op=116
  .rw[if_pos u]at h ⊢;unfold uQ at *;by_cases i:s.size<p+1+2
   .rw[if_pos i]at h;simp at h
   rw[if_neg i]at h ⊢;by_cases e:l<256*bt s (p+1)+bt s (p+1+1)
   .rw[if_pos e]at h;simp at h
   rw[if_neg e]
  rw[if_neg u]at h ⊢;by_cases i:tk s (p+1) 0 (iQ r f (k1 op))=true
  .rw[if_pos i]at h ⊢;by_cases e:tk s (p+2) 0 (iQ r f (k2 op))=true
   .rw[if_pos e]
   rw[if_neg e]at h;simp at h
  rw[if_neg i]at h;simp at h
 rw[if_neg o]at h;simp at h
theorem vz{s:ByteArray}{p r f l:Nat}(h:(ins s p r f l).2=true):(ins s p r f l).1=p+4:=by
 unfold ins at *;split at h
 .rw[if_pos (by assumption),ry h]
 simp at h
theorem Fy{s:ByteArray}{r f l:Nat}(n:Nat):∀p,p<=s.size->p<=(code s r f l p n).1/\(code s r f l p n).1<=s.size:=by
 induction n with
 | zero=>intro p h;simp[code];exact h
 | succ n e=>
  intro p h;have hi:=yO (s:=s) (p:=p) (r:=r) (f:=f) (l:=l) h;unfold code;split
  .have:=e _ hi.2;omega
  exact hi
theorem JB{s:ByteArray}{p f:Nat}(h:p<=s.size):p<=(fn s p f).1/\(fn s p f).1<=s.size:=by
 unfold fn;split
 .rename_i i;have:=fK i;split
  .rename_i e;have:=fK e;have:=Fy (s:=s) (r:=bt s p) (f:=f) (l:=bt s (p+1)) (bt s (p+1)) (p+2) (by omega);omega
  simp;omega
 simp;omega
def eX(S:ByteArray):List Nat:=S.data.toList.map UInt8.toNat
def KS(op:Nat):ByteArray:=⟨((kd.getD op []).map UInt8.ofNat).toArray⟩
theorem mC:∀e,e<23->eX (KS e)=kd.getD e []/\(KS e).size=3:=by decide
theorem kx(S:ByteArray)(k:Nat)(h:k<S.size):(eX S).drop k=S[k].toNat :: (eX S).drop (k+1):=by
 rw[List.drop_eq_getElem_cons (by simpa[eX] using h)];simp[eX];rfl
theorem qB(S:ByteArray):(eX S).drop S.size=[]:=by
 apply List.drop_of_length_le;simp[eX]
theorem mS(s:ByteArray)(p q i:Nat)(h:q<=s.size)(hi:p+i<q):bt (s.extract p q) i=bt s (p+i):=by
 unfold bt;have:(s.extract p q).data=s.data.extract p q:=by simp
 rw[this,Array.getElem?_extract];have e:q<=s.data.size:=h;rw[if_pos (by omega)]
theorem DL{s:ByteArray}{r f l:Nat}(n:Nat):∀p,(code s r f l p n).2=true->(code s r f l p n).1=p+4*n:=by
 induction n with
 | zero=>intro p _;rfl
 | succ n i=>
  intro p h;unfold code at h ⊢;by_cases e:(ins s p r f l).2=true
  .rw[if_pos e]at h ⊢;rw[i _ h,vz e];omega
  rw[if_neg e]at h;simp at h
theorem tw{s:ByteArray}{p f:Nat}(h:(fn s p f).2=true):(fn s p f).1=p+2+4*bt s (p+1)/\2<=bt s p/\bt s p<=8/\1<=bt s (p+1)/\bt s (p+1)<=200:=by
 unfold fn at *;by_cases i:tk s p 2 8=true
 .rw[if_pos i]at h ⊢;by_cases e:tk s (p+1) 1 200=true
  .rw[if_pos e]at h ⊢;have:=fK i;have:=fK e;refine⟨DL _ _ h,by omega,by omega,by omega,by omega⟩
  rw[if_neg e]at h;simp at h
 rw[if_neg i]at h;simp at h
def pos(s:ByteArray):Nat->Nat
 | 0=>1
 | k+1=>pos s k+2+4*bt s (pos s k+1)
end M
section
def gC(s:ByteArray)(p f r l:Int):Obj:=.cells #[.string s,.int .i64 p,.int .i64 f,.int .i64 r,.int .i64 l] 128 (0,0)
def jc(s:ByteArray)(p:Int)(bad:Bool):Obj:=.cells #[.string s,.int .i64 p,.bool bad] 124 (0,0)
section
variable {w : World} {b : Nat} {s : ByteArray} {p f r l : Int}
theorem eR(h:w.heap[b]? = some (gC s p f r l)):w.cell? ⟨b,0,none⟩=some (.string s)/\w.cell? ⟨b,1,none⟩=some (.int .i64 p)/\w.cell? ⟨b,2,none⟩=some (.int .i64 f)/\w.cell? ⟨b,3,none⟩=some (.int .i64 r)/\w.cell? ⟨b,4,none⟩=some (.int .i64 l):=by
 simp[World.cell?,h,gC]
theorem gU(h:w.heap[b]? = some (gC s p f r l)):w.frozen? ⟨b,1,none⟩=false/\w.frozen? ⟨b,2,none⟩=false/\w.frozen? ⟨b,3,none⟩=false/\w.frozen? ⟨b,4,none⟩=false:=by
 simp[World.frozen?,h,gC]
theorem sH(h:w.heap[b]? = some (gC s p f r l))(v:Int):(w.setCell ⟨b,1,none⟩ (.int .i64 v)).heap[b]? = some (gC s v f r l):=by
 simp[World.setCell,cn,h,gC]
theorem CD(h:w.heap[b]? = some (gC s p f r l))(v:Int):(w.setCell ⟨b,2,none⟩ (.int .i64 v)).heap[b]? = some (gC s p v r l):=by
 simp[World.setCell,cn,h,gC]
theorem sG(h:w.heap[b]? = some (gC s p f r l))(v:Int):(w.setCell ⟨b,3,none⟩ (.int .i64 v)).heap[b]? = some (gC s p f v l):=by
 simp[World.setCell,cn,h,gC]
theorem wY(h:w.heap[b]? = some (gC s p f r l))(v:Int):(w.setCell ⟨b,4,none⟩ (.int .i64 v)).heap[b]? = some (gC s p f r v):=by
 simp[World.setCell,cn,h,gC]
end
section
variable {w : World} {b : Nat} {s : ByteArray} {p : Int} {bad : Bool}
theorem fZ(h:w.heap[b]? = some (jc s p bad)):w.cell? ⟨b,0,none⟩=some (.string s)/\w.cell? ⟨b,1,none⟩=some (.int .i64 p)/\w.cell? ⟨b,2,none⟩=some (.bool bad):=by
 simp[World.cell?,h,jc]
theorem jI(h:w.heap[b]? = some (jc s p bad)):w.frozen? ⟨b,1,none⟩=false/\w.frozen? ⟨b,2,none⟩=false:=by
 simp[World.frozen?,h,jc]
theorem CC(h:w.heap[b]? = some (jc s p bad))(v:Int):(w.setCell ⟨b,1,none⟩ (.int .i64 v)).heap[b]? = some (jc s v bad):=by
 simp[World.setCell,cn,h,jc]
theorem wX(h:w.heap[b]? = some (jc s p bad))(v:Bool):(w.setCell ⟨b,2,none⟩ (.bool v)).heap[b]? = some (jc s p v):=by
 simp[World.setCell,cn,h,jc]
end
end
section
theorem B9(b:Nat)(s:ByteArray)(f r l i hi:Int)(w:World)(h:w.heap[b]? = some (gC s s.size f r l)): Calls prog 81 #[.pointer (some ⟨b,0,none⟩),.int .i64 i,.int .i64 hi] w λe w'=>e=.returned (.tuple #[.int .i64 0,.bool false])/\∃n,w'=w.drewN n:=by
 obtain⟨c0,c1,_,_,_⟩:=eR h;go_in;go_wp2
 go_quiet (fail)
 go_wp2
 go_ret2
 exact⟨rfl,_,rfl⟩
theorem B8(b:Nat)(s:ByteArray)(p:Nat)(f r l i hi x:Int)(w:World)(h:w.heap[b]? = some (gC s p f r l))(y:s.size<=maxLen)(W:p<s.size)(hx:Hid (x=(s[p].toNat:Int)))(u:i<=x)(H:x<=hi): Calls prog 81 #[.pointer (some ⟨b,0,none⟩),.int .i64 i,.int .i64 hi] w λe w'=>e=.returned (.tuple #[.int .i64 x,.bool true])/\∃n,w'=(w.drewN n).setCell ⟨b,1,none⟩ (.int .i64 (p+1)):=by
 unfold maxLen at y;obtain⟨c0,c1,_,_,_⟩:=eR h;obtain⟨J,_⟩:=gU h;have G:((p:Int) == (s.size:Int))=false:=by simp;omega
 have o:s[p].toNat<256:=eI _;rw[hx.out]at u H ⊢;go_in;go_wp2
 go_quiet (fail)
 go_wp2
 go_quiet (fail)
 go_wp2
 go_ret2
 exact⟨rfl,_,rfl⟩
theorem En(b:Nat)(s:ByteArray)(p:Nat)(f r l i hi x:Int)(w:World)(h:w.heap[b]? = some (gC s p f r l))(H:p<s.size)(hx:Hid (x=(s[p].toNat:Int)))(u:x<i\/hi<x): Calls prog 81 #[.pointer (some ⟨b,0,none⟩),.int .i64 i,.int .i64 hi] w λe w'=>e=.returned (.tuple #[.int .i64 0,.bool false])/\∃n,w'=w.drewN n:=by
 obtain⟨c0,c1,_,_,_⟩:=eR h;have y:((p:Int) == (s.size:Int))=false:=by simp;omega
 have o:s[p].toNat<256:=eI _;rw[hx.out]at u;by_cases G:(s[p].toNat:Int)<i
 all_goals
  go_in;go_wp2
  go_quiet (fail)
  go_wp2
  go_quiet (fail)
  go_wp2
  go_ret2
  exact⟨rfl,_,rfl⟩
theorem jH(b:Nat)(s:ByteArray)(p L H:Nat)(f r l i hi:Int)(w:World)(h:w.heap[b]? = some (gC s p f r l))(u:s.size<=maxLen)(y:i=L)(G:hi=H)(ht:M.tk s p L H=true): Calls prog 81 #[.pointer (some ⟨b,0,none⟩),.int .i64 i,.int .i64 hi] w λe w'=>e=.returned (.tuple #[.int .i64 (M.bt s p),.bool true])/\w'.heap[b]? = some (gC s ((p+1:Nat):Int) f r l)/\w.grownBy w' (some b):=by
 obtain⟨o,W,J⟩:=M.fK ht;have e:=M.lF s p o;refine(B8 b s p f r l i hi (M.bt s p) w h u o (by show _=_;rw[e]) (by omega) (by omega)).mono ?_;rintro e w' ⟨rfl,n,rfl⟩;exact⟨rfl,sH (w:=w.drewN n) h _,bp (db (ax _ _) _) (ag rfl) _⟩
theorem nz(b:Nat)(s:ByteArray)(p L H:Nat)(f r l i hi:Int)(w:World)(h:w.heap[b]? = some (gC s p f r l))(J:p<=s.size)(u:i=L)(y:hi=H)(ht:M.tk s p L H=false): Calls prog 81 #[.pointer (some ⟨b,0,none⟩),.int .i64 i,.int .i64 hi] w λe w'=>e=.returned (.tuple #[.int .i64 0,.bool false])/\w'.heap[b]? = some (gC s p f r l)/\w.grownBy w' (some b):=by
 by_cases o:p<s.size
 .have e:=M.lF s p o;have G:M.bt s p<L\/H<M.bt s p:=by simp[M.tk]at ht;omega
  refine(En b s p f r l i hi (M.bt s p) w h o (by show _=_;rw[e]) (by omega)).mono ?_;rintro e w' ⟨rfl,n,rfl⟩;exact⟨rfl,h,db (ax _ _) _⟩
 obtain rfl:p=s.size:=by omega
 refine(B9 b s f r l i hi w h).mono ?_;rintro e w' ⟨rfl,n,rfl⟩;exact⟨rfl,h,db (ax _ _) _⟩
theorem ofInt64(a:Nat)(e:a<65536):(BitVec.ofInt 64 (a:Int)).toNat=a:=by
 rw[BitVec.ofInt_natCast,BitVec.toNat_ofNat];exact Nat.mod_eq_of_lt (by omega)
theorem zN(a b:Nat)(y:a<256)(u:b<256):bits .or .i64 ((a:Int)*256) (b:Int)=256*(a:Int)+(b:Int):=by
 have o:a*256 ||| b=256*a+b:=by
  have:=Nat.shiftLeft_add_eq_or_of_lt (i:=8) (b:=b) (by omega) a;rw[Nat.shiftLeft_eq,show(2:Nat) ^ 8=256 from rfl]at this;omega
 have e:((a:Int)*256)=((a*256:Nat):Int):=by omega
 rw[e];show IntKind.i64.wrap ((BitVec.ofInt 64 ((a*256:Nat):Int) ||| BitVec.ofInt 64 (b:Int)).toNat:Int)=_;rw[BitVec.toNat_or,ofInt64 (a*256) (by omega),ofInt64 b (by omega),o,bl,bd _ (by omega)];omega
theorem uR(b:Nat)(s:ByteArray)(p:Nat)(f r l:Int)(w:World)(h:w.heap[b]? = some (gC s p f r l))(i:s.size<=9223372036854775807)(y:p<=s.size)(o:s.size<p+2): Calls prog 216 #[.pointer (some ⟨b,0,none⟩)] w λe w'=>e=.returned (.bool false)/\∃n,w'=(w.drewN n).setCell ⟨b,1,none⟩ (.int .i64 s.size):=by
 obtain⟨c0,c1,_,_,_⟩:=eR h;obtain⟨u,_⟩:=gU h;go_in;go_wp2
 go_quiet (fail)
 go_wp2
 go_ret;exact⟨rfl,_,rfl⟩
theorem ym(b:Nat)(s:ByteArray)(p:Nat)(f r l:Int)(w:World)(h:w.heap[b]? = some (gC s p f r l))(hs:s.size<=9223372036854775807)(h1:p+2<=s.size)(h2:256*(s[p].toNat:Int)+(s[p+1].toNat:Int)<=l): Calls prog 216 #[.pointer (some ⟨b,0,none⟩)] w λe w'=>e=.returned (.bool true)/\∃n,w'=(w.drewN n).setCell ⟨b,1,none⟩ (.int .i64 (p+2)):=by
 obtain⟨c0,c1,_,_,c4⟩:=eR h;obtain⟨f1,_⟩:=gU h;have i:s[p].toNat<256:=eI _;have o:s[p+1].toNat<256:=eI _;have hp:p<s.size:=by omega
 have H:p+1<s.size:=by omega
 have a0:IntKind.i64.wrap ((p:Int)+1)=(p:Int)+1:=by rw[bl,bd _ (by omega)]
 have G:IntKind.i64.wrap (s[p].toNat:Int)=(s[p].toNat:Int):=by rw[bl,bd _ (by omega)]
 have Z:IntKind.i64.wrap ((s[p].toNat:Int)*256)=(s[p].toNat:Int)*256:=by rw[bl,bd _ (by omega)]
 have u:IntKind.i64.wrap (s[p+1].toNat:Int)=(s[p+1].toNat:Int):=by rw[bl,bd _ (by omega)]
 have Y:=zN s[p].toNat s[p+1].toNat i o;have W:((p:Int)+1).toNat=p+1:=by omega
 have J:(p:Int)+1<(s.size:Int):=by omega
 have y:(0:Int)<=(p:Int)+1:=by omega
 go_in;go_wp2
 go_quiet (fail)
 go_wp2
 go_quiet (fail)
 go_wp2
 go_ret;exact⟨rfl,_,rfl⟩
theorem AJ(b:Nat)(s:ByteArray)(p:Nat)(f r l:Int)(w:World)(h:w.heap[b]? = some (gC s p f r l))(hs:s.size<=9223372036854775807)(h1:p+2<=s.size)(h2:l<256*(s[p].toNat:Int)+(s[p+1].toNat:Int)): Calls prog 216 #[.pointer (some ⟨b,0,none⟩)] w λe w'=>e=.returned (.bool false)/\∃n,w'=w.drewN n:=by
 obtain⟨c0,c1,_,_,c4⟩:=eR h;have i:s[p].toNat<256:=eI _;have o:s[p+1].toNat<256:=eI _;have hp:p<s.size:=by omega
 have H:p+1<s.size:=by omega
 have a0:IntKind.i64.wrap ((p:Int)+1)=(p:Int)+1:=by rw[bl,bd _ (by omega)]
 have G:IntKind.i64.wrap (s[p].toNat:Int)=(s[p].toNat:Int):=by rw[bl,bd _ (by omega)]
 have Z:IntKind.i64.wrap ((s[p].toNat:Int)*256)=(s[p].toNat:Int)*256:=by rw[bl,bd _ (by omega)]
 have u:IntKind.i64.wrap (s[p+1].toNat:Int)=(s[p+1].toNat:Int):=by rw[bl,bd _ (by omega)]
 have Y:=zN s[p].toNat s[p+1].toNat i o;have W:((p:Int)+1).toNat=p+1:=by omega
 have J:(p:Int)+1<(s.size:Int):=by omega
 have y:(0:Int)<=(p:Int)+1:=by omega
 go_in;go_wp2
 go_quiet (fail)
 go_wp2
 go_quiet (fail)
 go_wp2
 go_ret;exact⟨rfl,_,World.drewN_drewN _ _ _⟩
theorem wV(b:Nat)(s:ByteArray)(p L:Nat)(f r l:Int)(w:World)(h:w.heap[b]? = some (gC s p f r l))(H:s.size<=maxLen)(J:p<=s.size)(W:l=L): Calls prog 216 #[.pointer (some ⟨b,0,none⟩)] w λe w'=>e=.returned (.bool (M.uQ s p L).2)/\w'.heap[b]? = some (gC s ((M.uQ s p L).1:Nat) f r l)/\w.grownBy w' (some b):=by
 have i:s.size<=9223372036854775807:=by unfold maxLen at H;omega
 by_cases o:s.size<p+2
 .have e:M.uQ s p L=(s.size,false):=by unfold M.uQ;rw[aj o]
  rw[e];refine(uR b s p f r l w h i J o).mono ?_;rintro e w' ⟨rfl,n,rfl⟩;exact⟨rfl,sH (w:=w.drewN n) h _,bp (db (ax _ _) _) (ag rfl) _⟩
 have G:=M.lF s p (by omega);have u:=M.lF s (p+1) (by omega);by_cases y:L<256*M.bt s p+M.bt s (p+1)
 .have e:M.uQ s p L=(p,false):=by unfold M.uQ;rw[aa o,aj y]
  rw[e];refine(AJ b s p f r l w h i (by omega) (by rw[<-G,<-u];omega)).mono ?_;rintro e w' ⟨rfl,n,rfl⟩;exact⟨rfl,h,db (ax _ _) _⟩
 have e:M.uQ s p L=(p+2,true):=by unfold M.uQ;rw[aa o,aa y]
 rw[e];refine(ym b s p f r l w h i (by omega) (by rw[<-G,<-u];omega)).mono ?_;rintro e w' ⟨rfl,n,rfl⟩;exact⟨rfl,sH (w:=w.drewN n) h _,bp (db (ax _ _) _) (ag rfl) _⟩
theorem xE(b:Nat)(s:ByteArray)(k R F:Nat)(p f r l i:Int)(w:World)(h:w.heap[b]? = some (gC s p f r l))(hr:r=R)(W:f=F)(J:1<=R)(h2:1<=F)(Y:R<=8)(h4:F<=8)(Z:i=k): Calls prog 217 #[.pointer (some ⟨b,0,none⟩),.int .u8 i] w λe w'=>e=.returned (.int .i64 (M.iQ R F k))/\w'=w:=by
 obtain⟨_,_,c2,c3,_⟩:=eR h;have H:(M.iQ R F k:Int)=if i=114 then r-1 else if i=102 then f-1 else if i=115 then 8 else if i=107 then 255 else 0:=by
  unfold M.iQ;repeat' split
  all_goals omega
 rw[H]
 by_cases y:i=114
 .subst y;go_in;go_wp2
  go_ret;exact⟨rfl,rfl⟩
 have q1:(i == 114)=false:=by simpa using y
 rw[aa y]
 by_cases G:i=102
 .subst G;go_in;go_wp2
  go_ret;exact⟨rfl,rfl⟩
 have q2:(i == 102)=false:=by simpa using G
 rw[aa G]
 by_cases u:i=115
 .subst u;go_in;go_wp2
  go_ret;exact⟨rfl,rfl⟩
 have q3:(i == 115)=false:=by simpa using u
 rw[aa u]
 by_cases o:i=107
 .subst o;go_in;go_wp2
  go_ret;exact⟨rfl,rfl⟩
 have q4:(i == 107)=false:=by simpa using o
 rw[aa o]
 go_in;go_wp2
 go_ret;exact⟨rfl,rfl⟩
theorem pz(b:Nat)(s S:ByteArray)(p R F L:Nat)(f r l:Int)(w:World)(h:w.heap[b]? = some (gC s p f r l))(hs:s.size<=maxLen)(hS:S.size<=3)(hp:p<=s.size)(hr:Hid (r=R))(hf:Hid (f=F))(hl:Hid (l=L))(h1:1<=R)(h2:1<=F)(h3:R<=8)(h4:F<=8): Calls prog 197 #[.pointer (some ⟨b,0,none⟩),.string S] w λe w'=>e=.returned (.bool (M.ops s R F L (M.eX S) p).2)/\w'.heap[b]? = some (gC s ((M.ops s R F L (M.eX S) p).1:Nat) f r l)/\w.grownBy w' (some b):=by
 have HS:Hid (s.size<=maxLen):=hs;go_in;go_wp2
 go_loopw [10] (λi wr=>∃k q:Nat,k<=S.size/\q<=s.size/\i=.int .i64 k/\Hid (wr.heap[b]? = some (gC s q f r l))/\w.grownBy wr (some b)/\Hid (M.ops s R F L ((M.eX S).drop k) q=M.ops s R F L (M.eX S) p)) (λi _=>S.size-(intOf i).toNat)
 case atStart=>exact⟨0,p,by omega,hp,rfl,h,ax _ _,rfl⟩
 case round=>
  obtain⟨k,q,hk,hq,rfl,G,Y,Z⟩:=hrel;by_cases a2:k<S.size
  .have y:Hid (M.ops s R F L (M.eX S) p=if S[k].toNat=116 then M.uQ s q L else if M.tk s q 0 (M.iQ R F S[k].toNat)=true then M.ops s R F L ((M.eX S).drop (k+1)) (q+1) else(q,false)):=by
    show _=_;rw[<-Z.out,M.kx S k a2];rfl
   by_cases ht:S[k].toNat=116
   .have o:Hid (M.ops s R F L (M.eX S) p=M.uQ s q L):=by show _=_;rw[y.out,aj ht]
    go_wp2_with fail
    refine(wV b s q L f r l _ G.out HS.out hq hl.out).mono ?_;rintro e w1 ⟨rfl,J,a0⟩;go_wp2_with fail
    go_ret;refine⟨?_,?_,an Y a0⟩
    .rw[o.out];rfl
    rw[o.out];exact J
   have a1:((S[k].toNat:Int) == 116)=false:=by simp;omega
   rw[aa ht]at y;go_wp2_with fail
   refine(xE b s S[k].toNat R F q f r l _ _ G.out hr.out hf.out h1 h2 h3 h4 rfl).mono ?_;rintro e w1 ⟨rfl,rfl⟩;go_wp2_with fail
   by_cases u:M.tk s q 0 (M.iQ R F S[k].toNat)=true
   .have o:Hid (M.ops s R F L (M.eX S) p=M.ops s R F L ((M.eX S).drop (k+1)) (q+1)):=by show _=_;rw[y.out,aj u]
    have a3:=(M.fK u).1;refine(jH b s q 0 _ f r l _ _ _ G.out HS.out rfl rfl u).mono ?_;rintro e w2 ⟨rfl,J,H⟩;have HH:Hid (w2.heap[b]? = some (gC s ((q+1:Nat):Int) f r l)):=J;go_wp2_with fail
    go_roundw
    case rel=>exact⟨k+1,q+1,by omega,by omega,by go_num,HH,an Y H,o.out.symm⟩
    case measure=>simp[intOf];omega
   have o:Hid (M.ops s R F L (M.eX S) p=(q,false)):=by show _=_;rw[y.out,aa u]
   refine(nz b s q 0 _ f r l _ _ _ G.out hq rfl rfl (by simpa using u)).mono ?_;rintro e w2 ⟨rfl,J,H⟩;have HH:Hid (w2.heap[b]? = some (gC s q f r l)):=J;go_wp2_with fail
   go_ret;refine⟨?_,?_,an Y H⟩
   .rw[o.out];rfl
   rw[o.out];exact HH.out
  obtain rfl:k=S.size:=by omega
  have o:Hid (M.ops s R F L (M.eX S) p=(q,true)):=by
   show _=_;rw[<-Z.out,M.qB];rfl
  go_wp2_with fail
  go_ret;refine⟨?_,?_,Y⟩
  .rw[o.out];rfl
  rw[o.out];exact G.out
def mB(w:World):Prop:=0<w.heap.size/\∀op,op<23->w.cell? ⟨0,op,none⟩=some (.string (M.KS op))
theorem mB.kept{w w':World}{b:Nat}(h:mB w)(o:w.grownBy w' (some b))(y:b≠0):mB w':=
 ⟨dm h.1 o.size,λi u=>(aw (a:=⟨0,i,none⟩) (o.block 0 h.1 (by intro e;injection e;omega))).trans (h.2 i u)⟩
theorem mB.alloc{w:World}(h:mB w)(o:Obj):mB (w.alloc o):=h.kept (b:=1) (ah _ _ _) (by omega)
def vZ(s:ByteArray)(p:Nat)(e:Ending)(ok:Bool):Prop:=∃a0 a1 a2 a3:Int,e=.returned (.tuple #[.agg #[.int .u8 a0,.int .u8 a1,.int .u8 a2,.int .u8 a3],.bool ok])/\(ok=true->a0=(M.bt s p:Int)/\a1=(M.bt s (p+1):Int)/\a2=(M.bt s (p+2):Int)/\a3=(M.bt s (p+3):Int))
theorem ky{w:World}{b:Nat}{s:ByteArray}{p f r l:Int}(h:w.heap[b]? = some (gC s p f r l))(o:Obj):(w.alloc o).heap[b]? = some (gC s p f r l):=(ak _ _ _ (bz h)).trans h
theorem oR{w w1:World}{b k:Nat}{G u i o:Value}{T:TypeId}(h:w.heap[k]? = some (.cells #[G,u,i,o] T (0,0)))(H:w.grownBy w1 (some b))(J:k≠b): k<w1.heap.size/\w1.cell? ⟨k,0,none⟩=some G/\w1.cell? ⟨k,1,none⟩=some u/\w1.cell? ⟨k,2,none⟩=some i/\w1.cell? ⟨k,3,none⟩=some o /\ w1.frozen? ⟨k,0,none⟩=false/\w1.frozen? ⟨k,1,none⟩=false/\w1.frozen? ⟨k,2,none⟩=false/\w1.frozen? ⟨k,3,none⟩=false:=by
 have y:=cm H h (by intro e;injection e;omega);exact⟨bz y,by simp[World.cell?,World.frozen?,y]⟩
theorem qY(b:Nat)(s:ByteArray)(p:Nat)(f r l:Int)(w:World)(h:w.heap[b]? = some (gC s p f r l))(y:p<=s.size)(ht:M.tk s p 0 22=false): Calls prog 147 #[.pointer (some ⟨b,0,none⟩)] w λe w'=>vZ s p e false/\w'.heap[b]? = some (gC s p f r l)/\w.grownBy w' (some b):=by
 have hb:=bz h;obtain⟨c0,c1,_,_,_⟩:=eR h;have H:Hid (w.heap[b]? = some (gC s p f r l)):=h;go_in;go_wp2_with fail
 refine(nz b s p 0 22 f r l _ _ _ (ky H _) y rfl rfl ht).mono ?_;rintro e w1 ⟨rfl,i,o⟩;obtain⟨hz,d0,Y,d2,J,Z,e1,W,G⟩:=oR (k:=w.heap.size) (bf w _) o (by omega);have u:Hid (w1.heap[b]? = some (gC s p f r l)):=i;go_wp2_with fail
 refine da (v:=.tuple #[.agg #[.int .u8 0,.int .u8 0,.int .u8 0,.int .u8 0],.bool false]) (by simp[results,results147,go_sem, *]) rfl ⟨⟨0,0,0,0,rfl,λh=>by cases h⟩,?_,?_⟩
 .repeat (rw[af _ _ _ _ (by simp;omega)])
  exact u
 repeat (refine bp ?_ (ab (by simp)) _)
 exact an (ah _ _ _) o
theorem qX(b:Nat)(s:ByteArray)(p R F L:Nat)(f r l:Int)(w:World)(h:w.heap[b]? = some (gC s p f r l))(hs:s.size<=maxLen)(W:b≠0)(Z:mB w)(hr:Hid (r=R))(hf:Hid (f=F))(hl:Hid (l=L))(h1:1<=R)(h2:1<=F)(h3:R<=8)(h4:F<=8)(ht:M.tk s p 0 22=true)(ho:Hid ((M.rz s (p+1) (M.bt s p) R F L).2=false)): Calls prog 147 #[.pointer (some ⟨b,0,none⟩)] w λe w'=>vZ s p e false/\w'.heap[b]? = some (gC s ((M.rz s (p+1) (M.bt s p) R F L).1:Nat) f r l)/\w.grownBy w' (some b):=by
 have hb:=bz h;obtain⟨c0,c1,_,_,_⟩:=eR h;have H:Hid (w.heap[b]? = some (gC s p f r l)):=h;have HS:Hid (s.size<=maxLen):=hs;obtain⟨hp,_,a1⟩:=M.fK ht;have HO:Hid (M.ops s R F L (M.eX (M.KS (M.bt s p))) (p+1)=M.rz s (p+1) (M.bt s p) R F L):=by
  show _=_;rw[(M.mC _ (by omega)).1,M.zO _ _ _ _ _ _ (by omega)]
 have HK:Hid ((M.KS (M.bt s p)).size<=3):=by show _<=_;rw[(M.mC _ (by omega)).2];exact bj _
 have HT:Hid (M.tk s p 0 22=true):=ht;have y:Hid (mB w):=Z;go_in;go_wp2_with fail
 refine(jH b s p 0 22 f r l _ _ _ (ky H _) HS rfl rfl HT).mono ?_;rintro e w1 ⟨rfl,o,J⟩;have i:=(y.alloc _).kept J W;have hc:=i.2 (M.bt s p) (by omega);have HH:Hid (w1.heap[b]? = some (gC s ((p+1:Nat):Int) f r l)):=o;generalize Y:M.bt s p=q at *;have HQ:Hid (M.bt s p=q):=Y;go_wp2_with fail
 refine(pz b s (M.KS q) (p+1) R F L f r l _ HH HS HK (by omega) hr hf hl h1 h2 h3 h4).mono ?_;rintro e w2 ⟨rfl,o,u⟩;rw[HO.out]at o ⊢;rw[ho.out];obtain⟨hz,d0,d1,d2,d3,e0,e1,e2,e3⟩:=oR (k:=w.heap.size) (bf w _) (an J u) (by omega);have G:Hid (w2.heap[b]? = some (gC s ((M.rz s (p+1) q R F L).1:Nat) f r l)):=o;go_wp2_with fail
 refine da (v:=.tuple #[.agg #[.int .u8 0,.int .u8 0,.int .u8 0,.int .u8 0],.bool false]) (by simp[results,results147,go_sem, *]) rfl ⟨⟨0,0,0,0,rfl,λh=>by cases h⟩,?_,?_⟩
 .repeat (rw[af _ _ _ _ (by simp;omega)])
  rw[HQ.out];exact G
 repeat (refine bp ?_ (ab (by simp)) _)
 exact an (an (ah _ _ _) J) u
theorem qW(b:Nat)(s:ByteArray)(p R F L:Nat)(f r l:Int)(w:World)(h:w.heap[b]? = some (gC s p f r l))(hs:s.size<=maxLen)(Y:b≠0)(hT:mB w)(hr:Hid (r=R))(hf:Hid (f=F))(hl:Hid (l=L))(h1:1<=R)(h2:1<=F)(h3:R<=8)(h4:F<=8)(ht:M.tk s p 0 22=true)(Z:Hid ((M.rz s (p+1) (M.bt s p) R F L).2=true)): Calls prog 147 #[.pointer (some ⟨b,0,none⟩)] w λe w'=>vZ s p e true/\w'.heap[b]? = some (gC s ((p+4:Nat):Int) f r l)/\w.grownBy w' (some b):=by
 have hb:=bz h;obtain⟨c0,c1,_,_,_⟩:=eR h;have H:Hid (w.heap[b]? = some (gC s p f r l)):=h;have HS:Hid (s.size<=maxLen):=hs;obtain⟨hp,_,a1⟩:=M.fK ht;have HO:Hid (M.ops s R F L (M.eX (M.KS (M.bt s p))) (p+1)=M.rz s (p+1) (M.bt s p) R F L):=by
  show _=_;rw[(M.mC _ (by omega)).1,M.zO _ _ _ _ _ _ (by omega)]
 have HK:Hid ((M.KS (M.bt s p)).size<=3):=by show _<=_;rw[(M.mC _ (by omega)).2];exact bj _
 have HT:Hid (M.tk s p 0 22=true):=ht;have y:Hid (mB w):=hT;clear h hs ht hT;go_in;go_wp2_with fail
 refine(jH b s p 0 22 f r l _ _ _ (ky H _) HS rfl rfl HT).mono ?_;rintro e w1 ⟨rfl,i,G⟩;have o:=(y.alloc _).kept G Y;have hc:=o.2 (M.bt s p) (by omega);have HH:Hid (w1.heap[b]? = some (gC s ((p+1:Nat):Int) f r l)):=i;clear i;generalize hq:M.bt s p=q at *;clear hq o;go_wp2_with fail
 refine(pz b s (M.KS q) (p+1) R F L f r l _ HH HS HK (by omega) hr hf hl h1 h2 h3 h4).mono ?_;rintro e w2 ⟨rfl,i,u⟩;rw[HO.out]at i ⊢;rw[Z.out];rw[M.ry Z]at i;have J:=(M.CQ (s:=s) (p:=p+1) (op:=q) (r:=R) (f:=F) (l:=L) (by omega)).2;rw[M.ry Z]at J;obtain⟨hz,d0,d1,d2,d3,e0,e1,e2,e3⟩:=oR (k:=w.heap.size) (bf w _) (an G u) (by omega);have W:Hid (w2.heap[b]? = some (gC s ((p+4:Nat):Int) f r l)):=i;obtain⟨x0,x1,_,_,_⟩:=eR i;clear i;go_wp2_with fail
 go_quiet (fail)
 go_wp2_with fail
 have h4:(s.extract p (p+1+3)).size=4:=by simp;omega
 have HX:Hid (M.bt (s.extract p (p+1+3)) 0=M.bt s p/\M.bt (s.extract p (p+1+3)) 1=M.bt s (p+1)/\M.bt (s.extract p (p+1+3)) 2=M.bt s (p+2)/\M.bt (s.extract p (p+1+3)) 3=M.bt s (p+3)):=
  ⟨M.mS s p _ 0 (by omega) (by omega),M.mS s p _ 1 (by omega) (by omega),M.mS s p _ 2 (by omega) (by omega),M.mS s p _ 3 (by omega) (by omega)⟩
 generalize s.extract p (p+1+3)=x at *;go_region
 go_wp2_with fail
 refine da (v:=.tuple #[.agg #[.int .u8 (x[0].toNat:Int),.int .u8 (x[1].toNat:Int),.int .u8 (x[2].toNat:Int),.int .u8 (x[3].toNat:Int)],.bool true]) (by simp[results,results147,go_sem, *]) rfl ⟨⟨_,_,_,_,rfl,λ_=>?_⟩,?_,?_⟩
 .obtain⟨k0,k1,k2,k3⟩:=HX;rw[M.lF x 0 (by omega)]at k0;rw[M.lF x 1 (by omega)]at k1;rw[M.lF x 2 (by omega)]at k2;rw[M.lF x 3 (by omega)]at k3;rw[k0,k1,k2,k3];exact⟨rfl,rfl,rfl,rfl⟩
 .repeat (rw[af _ _ _ _ (by simp;omega)])
  exact W
 repeat (refine bp ?_ (ab (by simp)) _)
 exact db (an (an (ah _ _ _) G) u) _
theorem qZ(b:Nat)(s:ByteArray)(p R F L:Nat)(f r l:Int)(w:World)(h:w.heap[b]? = some (gC s p f r l))(J:s.size<=maxLen)(hp:p<=s.size)(o:b≠0)(H:mB w)(y:Hid (r=R))(W:Hid (f=F))(hl:Hid (l=L))(G:1<=R)(Z:1<=F)(Y:R<=8)(h4:F<=8): Calls prog 147 #[.pointer (some ⟨b,0,none⟩)] w λe w'=>vZ s p e (M.ins s p R F L).2/\w'.heap[b]? = some (gC s ((M.ins s p R F L).1:Nat) f r l)/\w.grownBy w' (some b):=by
 by_cases ht:M.tk s p 0 22=true
 .have e:M.ins s p R F L=M.rz s (p+1) (M.bt s p) R F L:=by unfold M.ins;rw[aj ht]
  rw[e];by_cases u:(M.rz s (p+1) (M.bt s p) R F L).2=true
  .rw[u,M.ry u];exact qW b s p R F L f r l w h J o H y W hl G Z Y h4 ht u
  have i:(M.rz s (p+1) (M.bt s p) R F L).2=false:=by simpa using u
  rw[i];exact qX b s p R F L f r l w h J o H y W hl G Z Y h4 ht i
 have e:M.ins s p R F L=(p,false):=by unfold M.ins;rw[aa ht]
 rw[e];exact qY b s p f r l w h hp (by simpa using ht)
end
section
open Go.ChangeShapes Go.WideShapes Go.ChangeAt Go.WideMaps Go.WideElems Go.Joins
theorem Ko{c:Int}(h:(Lit.int .i64 c).wf=true):-9223372036854775808<=c/\c<=9223372036854775807:=by
 have e:IntKind.i64.min<=c/\c<=IntKind.i64.max:=by simpa[Lit.wf] using h
 exact⟨e.1,e.2⟩
theorem own:ownKnob prog.godebug=none:=by kernel_rfl
theorem Lm:prog.globalNamed (Rows.chainRow.named.headD "")=some 0:=by kernel_rfl
theorem Kr:(prog.globals[0]?).map (·.type)=some 283:=by kernel_rfl
theorem Ic:prog.cellsOf 9=1:=by kernel_rfl
theorem EW:(Rows.laid_turnstile_code_operandKinds:DataW Unit)=.agg ((List.range 23).map λi=>.lit (.string (M.KS i).data.toList)):=by rfl
theorem wI{W:World}(h:laidMetH prog Rows.chainRow.laid W):mB W:=by
 rw[MakeChecks.laidMetH_plain _ _ _ (by kernel_rfl)]at h;obtain⟨ps,⟨g0,t0,a3,f0,p0,q0,u,a1,J,Y,_,_⟩,_,_⟩:=h;obtain rfl:0=g0:=g8 (Lm.symm.trans u);obtain rfl:283=t0:=g8 (Kr.symm.trans a1);obtain⟨Z,m1,rfl,G,a2,a4,a0⟩:=DataW.trod_array underlying283 Y;simp only[Prod.mk.injEq]at G;have y:∀e,e<23->W.cell? ⟨0,e,none⟩=some (.string (M.KS e)):=by
  intro e ho;have h1:=a0 e ho;have o:Z[e]? = some (Z[e]'(by omega)):=bn (by omega);rw[o,Ic]at h1;obtain⟨S,e1,e2,_⟩:=DataW.trod_string underlying9 h1;have hS:S=M.KS e:=by
   have e3:=EW.symm.trans G.1;simp only[DataW.agg.injEq]at e3;have H:=congrArg (λl=>l[e]?) e3;simp only[eo,fW ho,o,Option.map_some,Option.some.injEq]at H;rw[e2]at H;simp only[DataW.lit.injEq,Lit.string.injEq]at H;have e5:=Array.toList_inj.1 H
   cases S;cases hk:M.KS e
   rw[hk]at e5;exact congrArg ByteArray.mk e5.symm
  rw[World.var?_cell u J e,<-hS];rw[Nat.mul_one]at e1;have e6:=congrArg (λl=>l[0]?) e1;simpa[dh,List.getElem?_drop] using e6
 refine⟨?_,y⟩;have:=y 0 (by omega);exact av W ⟨0,0,none⟩ this
theorem Tryz.laidOut:laidOutB prog=true:=by kernel_rfl
end
section
def dy(F:Nat->Prop)(w w':World):Prop:=w'.os=w.os/\w'.tape=w.tape/\w'.output=w.output/\w.heap.size<=w'.heap.size/\∀k,k<w.heap.size->¬F k->w'.heap[k]? = w.heap[k]?
theorem dk(S:Nat->Prop)(w:World):dy S w w:=⟨rfl,rfl,rfl,bj _,λ_ _ _=>rfl⟩
theorem dy.size{S:Nat->Prop}{w w':World}(h:dy S w w'):w.heap.size<=w'.heap.size:=h.2.2.2.1
theorem dy.block{S:Nat->Prop}{w w':World}(h:dy S w w'){k:Nat}{o:Obj}(e:w.heap[k]? = some o)(hS:¬S k):w'.heap[k]? = some o:=(h.2.2.2.2 k (bz e) hS).trans e
theorem dy.same{S:Nat->Prop}{w w':World}(h:dy S w w'){k:Nat}(e:k<w.heap.size)(hS:¬S k):w'.heap[k]? = w.heap[k]?:=h.2.2.2.2 k e hS
theorem dy.cell{S:Nat->Prop}{w w':World}(h:dy S w w'){k o:Nat}(e:k<w.heap.size)(hS:¬S k):w'.cell? ⟨k,o,none⟩=w.cell? ⟨k,o,none⟩:=aw (a:=⟨k,o,none⟩) (h.same e hS)
theorem dy.frozen{S:Nat->Prop}{w w':World}(h:dy S w w'){k o:Nat}(e:k<w.heap.size)(hS:¬S k):w'.frozen? ⟨k,o,none⟩=w.frozen? ⟨k,o,none⟩:=dg (a:=⟨k,o,none⟩) (h.same e hS)
theorem dy.trans{S S1:Nat->Prop}{w w1 w2:World}(h:dy S w w1)(k:dy S1 w1 w2)(hS:∀b,S1 b->b<w.heap.size->S b):dy S w w2:=
 ⟨k.1.trans h.1,k.2.1.trans h.2.1,k.2.2.1.trans h.2.2.1,dH h.size k.size,λb e hn=>(k.2.2.2.2 b (dm e h.size) (λi=>hn (hS b i e))).trans (h.2.2.2.2 b e hn)⟩
theorem dy.mono{S S1:Nat->Prop}{w w1:World}(h:dy S w w1)(hS:∀b,S b->b<w.heap.size->S1 b):dy S1 w w1:=
 ⟨h.1,h.2.1,h.2.2.1,h.size,λb e hn=>h.2.2.2.2 b e (λi=>hn (hS b i e))⟩
theorem jg{S:Nat->Prop}{w w1:World}{b:Nat}(h:w.grownBy w1 (some b))(o:S b):dy S w w1:=
 ⟨h.os,h.tape,h.output,h.size,λk i hn=>h.block k i (by intro e;injection e with e;exact hn (e▸o))⟩
theorem dU{S:Nat->Prop}{w w1:World}(h:w.grownBy w1 none):dy S w w1:=⟨h.os,h.tape,h.output,h.size,λk i _=>h.block k i (by intro e;cases e)⟩
theorem dy.then{S:Nat->Prop}{w w1 w2:World}{b:Nat}(h:dy S w w1)(k:w1.grownBy w2 (some b))(e:S b\/w.heap.size<=b):dy S w w2:=
 h.trans (jg (S:=λx=>x=b) k rfl) (λx o i=>e.elim (λe=>o▸e) (λe=>ch i (by omega)))
theorem dy.gR{S:Nat->Prop}{w w1 w2:World}(h:dy S w w1)(k:w1.grownBy w2 none):dy S w w2:=h.trans (dU (S:=S) k) (λ_ e _=>e)
theorem qi{S:Nat->Prop}{w w1:World}(h:dy S w w1):dy S w w1.drew:=h
theorem sZ{S:Nat->Prop}{w w1:World}(h:dy S w w1)(n:Nat):dy S w (w1.drewN n):=h
theorem gF{S:Nat->Prop}{w w1:World}(h:dy S w w1)(o:Obj):dy S w (w1.alloc o):=h.gR (ah _ _ _)
theorem bm{S:Nat->Prop}{w w1:World}(h:dy S w w1){a:Addr}(e:S a.block\/w.heap.size<=a.block)(v:Value):dy S w (w1.setCell a v):=
 h.then (b:=a.block) (bp (ax _ _) (ag rfl) v) e
theorem az{p:Prop}(h:p):Hid p:=h
def ep(P:Nat->Value)(j:Nat)(v:Value):Nat->Value:=λi=>if i=j then v else P i
theorem gf(P:Nat->Value)(j:Nat)(v:Value):ep P j v j=v:=aj rfl
theorem eG(P:Nat->Value)(j i:Nat)(v:Value)(h:i≠j):ep P j v i=P i:=aa h
theorem Full.ep{w:World}{g n m:Nat}{T:TypeId}{P:Nat->Value}(h:Full w g T n m P)(j:Nat)(v:Value):Full (w.setCell ⟨g,j,none⟩ v) g T n m (ep P j v):=by
 obtain⟨o,h,y,u⟩:=h;refine⟨o.setIfInBounds j v,by simp[World.setCell,cn,h],by simpa using y,λi hi=>?_⟩;rw[Array.getElem?_setIfInBounds];by_cases e:j=i
 .subst e;have:=u j hi;rw[gf,aj rfl,aj (Array.getElem?_eq_some_iff.1 this).1]
 rw[aa e,eG _ _ _ _ (λh=>e h.symm)];exact u i hi
theorem Full.off{w:World}{g n m x o:Nat}{T:TypeId}{P:Nat->Value}{v:Value}(h:Full w g T n m P)(hx:g≠x):Full (w.setCell ⟨x,o,none⟩ v) g T n m P:=h.block (af _ _ _ _ hx)
theorem Full.cells{w:World}{g n m:Nat}{T:TypeId}{P:Nat->Value}(h:Full w g T n m P)(j:Nat)(i:j<m):w.cell? ⟨g,j,none⟩=some (P j)/\w.frozen? ⟨g,j,none⟩=false:=by
 refine⟨h.cell j i,?_⟩;obtain⟨e,h,_⟩:=h;simp[World.frozen?,h]
theorem Full.ne{w:World}{g n m g' G m':Nat}{T T':TypeId}{P y:Nat->Value}(h:Full w g T n m P)(e:Full w g' T' G m' y)(u:T≠T'):g≠g':=by
 rintro rfl;obtain⟨o,h,_⟩:=h;obtain⟨i,e,_⟩:=e;rw[h]at e;injection e with e;injection e with _ e _;exact u e
theorem Full.congr{w:World}{g n m:Nat}{T:TypeId}{P Q:Nat->Value}(h:Full w g T n m P)(hP:∀j,j<m->P j=Q j):Full w g T n m Q:=by
 obtain⟨e,y,u,o⟩:=h;exact⟨e,y,u,λj i=>(o j i).trans (by rw[hP j i])⟩
end
end Go.Proofs.YtnjiinbhbjpfkaaGreatDoor
