import Derived.Test.YtnjiinbhbjpfkaaGreatDoorRows
import Derived.WalkKit
import Derived.WalkSpells
import Derived.WalkLawsBesides
import Derived.BigQuiet
import Derived.BigRegion
import Derived.Deep.QuietTactic
import Derived.Deep.MidRow
import Derived.Deep.RegionLawGrows
import Derived.Deep.DeepCutAuto
import Derived.Laws.ByValue
import Derived.Deep.RegionHeld3
import Derived.Lib.SliceRun
import Derived.LaidEqlPtr
import Derived.Laws.EntriesVeiled
set_option maxRecDepth 100000
set_option maxHeartbeats 0
set_option linter.all false
namespace Go.Proofs.YtnjiinbhbjpfkaaGreatDoor
open Go.RowKit Go.Proofs.Tryz
section
abbrev aa:=@if_neg
abbrev ab:=@Or.inr
abbrev af:=@Below.heap_setCell
abbrev ag:=@Or.inl
abbrev ah:=@World.grownBy_alloc
abbrev aj:=@if_pos
abbrev ak:=@Below.heap_alloc
abbrev ar:=@List.getD_eq_getElem?_getD
abbrev av:=@World.block_lt_of_cell?
abbrev aw:=@World.cell?_of_block
abbrev ay:=@And.intro
abbrev bd:=@IntWalk.wrap64_in
abbrev bf:=@heap_alloc_new
abbrev bj:=@Nat.le_refl
abbrev bl:=@IntWalk.i64_left
abbrev bn:=@List.getElem?_eq_getElem
abbrev bo:=@List.length_append
abbrev bu:=@List.getElem?_eq_some_iff
abbrev cf:=@List.length_eq_zero_iff
abbrev ch:=@absurd
abbrev cn:=@Array.getElem?_modify
abbrev cw:=@List.getElem?_eq_none
abbrev da:=@bodyPost_ret
abbrev dc:=@Nat.zero_le
abbrev dg:=@World.frozen?_of_block
abbrev dh:=@List.getElem?_take
abbrev di:=@List.mem_append
abbrev dm:=@Nat.lt_of_lt_of_le
abbrev dq:=@List.length_set
abbrev du:=@List.getElem?_append_left
abbrev dC:=@Nat.add_sub_cancel
abbrev dF:=@World.cell?_setCell_other
abbrev dH:=@Nat.le_trans
abbrev dJ:=@World.ownsRow_nil
abbrev dK:=@beq_eq_false_iff_ne
abbrev dL:=@List.mem_singleton
abbrev dO:=@of_decide_eq_true
abbrev dS:=@List.length_map
abbrev dX:=@List.getElem?_append_right
abbrev dY:=@List.append_assoc
abbrev ed:=@List.mem_of_getElem?
abbrev ee:=@List.mem_append_left
abbrev ef:=@List.length_dropLast
abbrev ek:=@List.mem_map
abbrev eo:=@List.getElem?_map
abbrev eA:=@List.range_succ
abbrev eB:=@List.append_nil
abbrev eF:=@List.length_singleton
abbrev eI:=@UInt8.toNat_lt
abbrev eJ:=@List.mem_range
abbrev eM:=@Below.refl
abbrev eP:=@List.map_append
abbrev fh:=@decide_eq_true
abbrev fi:=@decide_eq_false
abbrev fB:=@funext
abbrev fV:=@Prod.ext
abbrev fW:=@List.getElem?_range
abbrev g8:=@Option.some.inj
abbrev ik:=@List.length_replicate
abbrev lH:=@Int.toNat_natCast
abbrev mU:=@Nat.le_of_lt
abbrev nS:=@IntWalk.i64_in
abbrev P0(b:Nat):Value:=.pointer (some ⟨b,0,none⟩)
abbrev Fv(k:Nat)(cap:Array Value):Value:=.func (.func k) #[] cap
theorem ax(w:World)(row:Option Nat):w.grownBy w row:=⟨rfl,rfl,rfl,bj _,λ_ _ _=>rfl⟩
theorem an{w w1 w2:World}{row:Option Nat}(h:w.grownBy w1 row)(k:w1.grownBy w2 row):w.grownBy w2 row:=
 ⟨k.os.trans h.os,k.tape.trans h.tape,k.output.trans h.output,dH h.size k.size,λi hi e=>(k.block i (dm hi h.size) e).trans (h.block i hi e)⟩
theorem db{w w1:World}{row:Option Nat}(h:w.grownBy w1 row)(n:Nat):w.grownBy (w1.drewN n) row:=⟨h.os,h.tape,h.output,h.size,h.block⟩
theorem bq{w w1:World}{row:Option Nat}(h:w.grownBy w1 row):w.grownBy w1.drew row:=⟨h.os,h.tape,h.output,h.size,h.block⟩
theorem au{w w1:World}{row:Option Nat}(h:w.grownBy w1 row)(o:Obj):w.grownBy (w1.alloc o) row:=an h (ah _ _ _)
theorem bp{w w1:World}{row:Option Nat}(h:w.grownBy w1 row){a:Addr}(e:some a.block=row\/w.heap.size<=a.block)(v:Value):w.grownBy (w1.setCell a v) row:=by
 refine⟨h.os,h.tape,h.output,dH h.size (by simp[World.setCell]),λi hi o=>?_⟩;rw[af]
 .exact h.block i hi o
 rintro rfl;rcases e with e|e
 .exact o e
 omega
theorem bz{w:World}{b:Nat}{o:Obj}(h:w.heap[b]? = some o):b<w.heap.size:=(Array.getElem?_eq_some_iff.1 h).1
theorem cm{w w1:World}{row:Option Nat}(h:w.grownBy w1 row){k:Nat}{o:Obj}(e:w.heap[k]? = some o)(i:some k≠row):w1.heap[k]? = some o:=
 (h.block k (bz e) i).trans e
theorem jz{w w':World}{b:Nat}(h:Below w.heap.size w w'):w.grownBy w' (some b):=⟨h.os,h.tape,h.output,h.size,λk e _=>h.block k e⟩
def Full(w:World)(g:Nat)(T:TypeId)(n m:Nat)(P:Nat->Value):Prop:=∃cur,w.heap[g]? = some (.cells cur T (0,0))/\cur.size=n/\∀j,j<m->cur[j]? = some (P j)
def jB(w:World)(g:Nat)(T:TypeId)(n:Nat):Prop:=∃cur,w.heap[g]? = some (.cells cur T (0,0))/\cur.size=n
theorem jB.lt{w:World}{g n:Nat}{T:TypeId}(h:jB w g T n):g<w.heap.size:=by obtain⟨_,h,_⟩:=h;exact bz h
theorem jB.cell{w:World}{g n:Nat}{T:TypeId}(h:jB w g T n)(j:Nat)(o:j<n):(∃v,w.cell? ⟨g,j,none⟩=some v)/\w.frozen? ⟨g,j,none⟩=false:=by
 obtain⟨e,h,u⟩:=h
 exact⟨⟨e[j],by simp[World.cell?,h,by omega]⟩,by simp[World.frozen?,h]⟩
theorem jB.set{w:World}{g n:Nat}{T:TypeId}(h:jB w g T n)(x o:Nat)(v:Value):jB (w.setCell ⟨x,o,none⟩ v) g T n:=by
 obtain⟨i,h,u⟩:=h;by_cases e:g=x
 .subst e;refine⟨i.setIfInBounds o v,?_,by simpa using u⟩;simp[World.setCell,cn,h]
 exact⟨i,(af _ _ _ _ e).trans h,u⟩
theorem jB.owned{w:World}{g n cap i size:Nat}{e:TypeId}{xs:List Value}(h:w.ownsRow i e size (.slice (some ⟨g,0,none⟩) n cap) n xs):jB w g e (cap*size):=by
 rcases h.2 with⟨h,_⟩|⟨g',u,o,H,_,G,_,_,y,_⟩
 .cases h
 cases H;exact⟨o,G,y⟩
theorem Full.xV{w:World}{g n m:Nat}{T:TypeId}{P:Nat->Value}(h:Full w g T n m P):jB w g T n:=by obtain⟨e,h,i,_⟩:=h;exact⟨e,h,i⟩
theorem jB.full{w:World}{g n:Nat}{T:TypeId}(h:jB w g T n)(P:Nat->Value):Full w g T n 0 P:=by obtain⟨e,h,o⟩:=h;exact⟨e,h,o,λj i=>ch i (Nat.not_lt_zero j)⟩
theorem Full.set{w:World}{g n m:Nat}{T:TypeId}{P:Nat->Value}(h:Full w g T n m P)(G:m<n):Full (w.setCell ⟨g,m,none⟩ (P m)) g T n (m+1) P:=by
 obtain⟨i,h,y,u⟩:=h;refine⟨i.setIfInBounds m (P m),by simp[World.setCell,cn,h],by simpa using y,λj o=>?_⟩;rw[Array.getElem?_setIfInBounds];by_cases e:m=j
 .subst e;simp;omega
 rw[aa e];exact u j (by omega)
theorem Full.block{w w':World}{g n m:Nat}{T:TypeId}{P:Nat->Value}(h:Full w g T n m P)(i:w'.heap[g]? = w.heap[g]?):Full w' g T n m P:=by
 obtain⟨e,h,r⟩:=h;exact⟨e,i.trans h,r⟩
theorem Full.lt{w:World}{g n m:Nat}{T:TypeId}{P:Nat->Value}(h:Full w g T n m P):g<w.heap.size:=h.xV.lt
theorem Full.kept{w w':World}{g n m b:Nat}{T:TypeId}{P:Nat->Value}(h:Full w g T n m P)(i:w.grownBy w' (some b))(o:g≠b):Full w' g T n m P:=
 h.block (i.block g h.lt (by intro e;injection e;omega))
theorem Full.cell{w:World}{g n m:Nat}{T:TypeId}{P:Nat->Value}(h:Full w g T n m P)(j:Nat)(i:j<m):w.cell? ⟨g,j,none⟩=some (P j):=by
 obtain⟨e,h,_,hP⟩:=h;simp[World.cell?,h,hP j i]
theorem Full.I4{w:World}{g n m:Nat}{T:TypeId}{P:Nat->Value}(h:Full w g T n m P)(u:m+4<=n)(v0 v1 v2 v3:Value)(e0:v0=P m)(o:v1=P (m+1))(i:v2=P (m+2))(e:v3=P (m+3)): Full (w.setCells g m [v0,v1,v2,v3]) g T n (m+4) P:=by
 subst e0 o i e;exact(((h.set (by omega)).set (by omega)).set (by omega)).set (by omega)
theorem Full.I5{w:World}{g n m:Nat}{T:TypeId}{P:Nat->Value}(h:Full w g T n m P)(i:m+2<=n)(v0 v1:Value)(e0:v0=P m)(e:v1=P (m+1)): Full (w.setCells g m [v0,v1]) g T n (m+2) P:=by
 subst e0 e;exact(h.set (by omega)).set (by omega)
theorem eD{w w':World}{row:Option Nat}(h:w.grownBy w' none):w.grownBy w' row:=⟨h.os,h.tape,h.output,h.size,λk i _=>h.block k i (by intro e;cases e)⟩
theorem jB.there{w:World}{g n:Nat}{T:TypeId}(h:jB w g T n)(o m:Nat)(y:o+m<=n):w.there g o m:=λj u=>by
 obtain⟨⟨v,i⟩,e⟩:=h.cell (o+j) (by omega);exact⟨by rw[i];rfl,e⟩
theorem jB.Ex{g n:Nat}{T:TypeId}(x:Nat):∀(e:List Value) (o:Nat) (w:World),jB w g T n->jB (w.setCells x o e) g T n
 | [],_,_,h=>h
 | v :: r,o,w,h=>jB.Ex x r (o+1) (w.setCell ⟨x,o,none⟩ v) (h.set x o v)
theorem eU(x k:Nat)(e:k≠x):∀(i:List Value) (o:Nat) (w:World),(w.setCells x o i).heap[k]? = w.heap[k]?
 | [],_,_=>rfl
 | v :: r,o,w=>by rw[World.setCells,eU x k e r];exact af _ _ _ _ e
theorem gM{row:Option Nat}(g:Nat):∀(e:List Value) (o:Nat) (w w1:World),w.grownBy w1 row->w.heap.size<=g->w.grownBy (w1.setCells g o e) row
 | [],_,_,_,h,_=>h
 | v :: r,o,w,w1,h,hg=>gM g r (o+1) w (w1.setCell ⟨g,o,none⟩ v) (bp h (ab hg) v) hg
theorem tH{w w':World}{o:Obj}(h:(w.alloc o).grownBy w' (some w.heap.size)):Below w.heap.size w w':=
 ⟨h.os,h.tape,h.output,by have:=h.size;simp at this;omega,λk i=>(h.block k (by simp;omega) (by intro e;injection e;omega)).trans (ak _ _ _ i)⟩
theorem qL{W w1:World}(e:Below W.heap.size W w1):(∀b o,b<W.heap.size->w1.cell? ⟨b,o,none⟩=W.cell? ⟨b,o,none⟩)/\(∀b o,b<W.heap.size->w1.frozen? ⟨b,o,none⟩=W.frozen? ⟨b,o,none⟩):=
 ⟨λb o h=>e.cell (p:=⟨b,o,none⟩) h,λb o h=>e.frozen (p:=⟨b,o,none⟩) h⟩
theorem tI{w w':World}(h:w.grownBy w' none):Below w.heap.size w w':=⟨h.os,h.tape,h.output,h.size,λk i=>h.block k i (by intro e;cases e)⟩
theorem dM{w:World}{o size n:Nat}{e:TypeId}{v:Value}{xs:List Value}(h:w.ownsRow o e size v n xs)(hn:n≠0):∃g cap,v=.slice (some ⟨g,0,none⟩) n cap:=by
 rcases h.2 with⟨_,h⟩|⟨g',i,_,h,_⟩
 .omega
 exact⟨g',i,h⟩
theorem bh{w w1:World}(h:w.grownBy w1 none){a:Addr}(i:a.block<w.heap.size):w1.cell? a=w.cell? a/\w1.frozen? a=w.frozen? a:=
 ⟨aw (h.block a.block i (by intro e;cases e)),dg (h.block a.block i (by intro e;cases e))⟩
def iU(w:World):List (Value×TypeId)->World
 | []=>w
 | x :: r=>iU (w.alloc (.cells #[x.1] x.2)) r
theorem nM(l:List (Value×TypeId)):∀(w:World),Below w.heap.size w (iU w l):=by
 induction l with
 | nil=>intro w;exact eM _ _
 | cons x r e=>intro w;exact((eM _ _).alloc (bj _) _).trans ((e _).mono (by simp))
theorem yJ(l:List (Value×TypeId)):∀(w:World),(iU w l).heap.size=w.heap.size+l.length:=by
 induction l with
 | nil=>intro w;rfl
 | cons x r e=>intro w;rw[iU,e];simp;omega
theorem Da(l:List (Value×TypeId)):∀(w:World) (k:Nat) (x:Value×TypeId),l[k]? = some x->(iU w l).heap[w.heap.size+k]? = some (.cells #[x.1] x.2 (0,0)):=by
 induction l with
 | nil=>intro w k x h;simp at h
 | cons y r e=>
  intro w k x h
  cases k with
  | zero=>
   simp at h;subst h
   rw[iU];exact((nM r (w.alloc (.cells #[y.1] y.2))).block _ (by simp)).trans (bf w _)
  | succ k=>
   have:=e (w.alloc (.cells #[y.1] y.2)) k x (by simpa using h);rw[iU];simpa[Nat.add_assoc,Nat.add_comm 1 k] using this
theorem u9{fn:Func}{p:Tmp}{ty:TypeId}{a:Addr}{v:Value}{P:Program}{w:World}(h:fn.results=#[.cell p ty])(e:Array Value)(o:e.getD p undef=.pointer (some a))(u:(loadVar ty a).run P w=.ok v w): (results fn e).run P w=.ok v w:=by
 simp[results,h,(by simpa using o),asAddr,u]
theorem lK(g:Nat):∀(e:List Value) (o:Nat) (w:World),(w.setCells g o e).heap.size=w.heap.size
 | [],_,_=>rfl
 | v :: r,o,w=>by rw[World.setCells,lK g r];simp[World.setCell]
theorem qS{P:Program}{ops:Array Oper}{o:Oper}{a:Act}{w:World}{K:Act->World->Prop}{Q:Exit->Act->World->Prop}{E:Prop}(hg:o.guard=none)(s x:Operand)(t:TypeId)(Z:o.op=Op.call { callee:=Callee.builtin Builtin.append,args:=#[s,x],argTypes:=#[t,t] })(G:Nat)(e:TypeId)(i:TypeInfo)(z:Value)(size bytes:Nat)(h1:P.underlying t=some (.slice e))(h2:P.info? e=some i)(h3:i.zero=some z)(h4:i.size=size)(h5:i.bytes=bytes)(h6:z.cells.size=size)(h7:0<size)(v:Value)(n:Nat)(xs:List Value)(hs:a.eval s=v)(H:w.ownsRow G e size v n xs)(ad:Addr)(m c:Nat)(y:List Value)(hx:a.eval x=.slice (some ad) m c)(hn:y.length=m*size)(hc:∀j u,y[j]? = some u->w.cell? (ad.add j)=some u)(Y:∀u∈y,u.oneCell'=true)(b1:n+m<=maxLen)(b2:(n+m)*bytes<=140737488355328)(hb:G<=w.heap.size)(hK:∀W w',w'.ownsRow G e size W (n+m) (xs++y)->w.grownBy w' v.ownBlock->K (a.put o.dst W) w'): if Region.wanted o (yielded ops a.tmps)=true then Oper.wp P o a w K Q else E:=by
 rw[aj (by simp[Region.wanted,hg])];obtain⟨W,w',J,r1,r2,_⟩:=run_append_own (P:=P) w G t o.type e i z size bytes h1 h2 h3 h4 h5 h6 h7 v n xs H ad m c y hn hc Y b1 b2 hb;unfold Oper.wp;simp[execOp,Z,resolve,invoke,builtin,hs,hx,J,Result.andThen];exact hK W w' r1 r2
theorem By{w w1 w2:World}{v:Value}{base size n:Nat}{e:TypeId}{xs:List Value}(h:Below w.heap.size w w1)(hg:w1.grownBy w2 v.ownBlock)(ho:w1.ownsRow base e size v n xs)(hb:w.heap.size≤base):Below w.heap.size w w2:=by
 refine h.trans ⟨hg.os,hg.tape,hg.output,hg.size,fun k hk=>hg.block k (dm hk h.size) ?_⟩
 rcases ho.2 with⟨rfl,_⟩|⟨g,cap,cur,rfl,hg2,_⟩
 .intro e;cases e
 .intro e;have e':k=g:=by injection e
  omega
theorem ur{w:World}{i size n:Nat}{e:TypeId}{v:Value}{xs:List Value}(h:w.ownsRow i e size v n xs)(o:Obj):(w.alloc o).ownsRow i e size v n xs:=by
 refine⟨h.1,?_⟩;rcases h.2 with y|⟨g,cap,u,J,y,G,H⟩
 .exact ag y
 exact ab ⟨g,cap,u,J,y,(ak _ _ _ (bz G)).trans G,H⟩
theorem xh{w:World}{base size n:Nat}{e:TypeId}{v:Value}{xs:List Value}(h:w.ownsRow base e size v n xs):w.drew.ownsRow base e size v n xs:=h
def dy(F:Nat->Prop)(w w':World):Prop:=w'.os=w.os/\w'.tape=w.tape/\w'.output=w.output/\w.heap.size<=w'.heap.size/\∀k,k<w.heap.size->¬F k->w'.heap[k]? = w.heap[k]?
theorem dk(S:Nat->Prop)(w:World):dy S w w:=⟨rfl,rfl,rfl,bj _,λ_ _ _=>rfl⟩
theorem dy.size{S:Nat->Prop}{w w':World}(h:dy S w w'):w.heap.size<=w'.heap.size:=h.2.2.2.1
theorem dy.block{S:Nat->Prop}{w w':World}(h:dy S w w'){k:Nat}{o:Obj}(e:w.heap[k]? = some o)(hS:¬S k):w'.heap[k]? = some o:=(h.2.2.2.2 k (bz e) hS).trans e
theorem dy.same{S:Nat->Prop}{w w':World}(h:dy S w w'){k:Nat}(e:k<w.heap.size)(hS:¬S k):w'.heap[k]? = w.heap[k]?:=h.2.2.2.2 k e hS
theorem dy.cell{S:Nat->Prop}{w w':World}(h:dy S w w'){k o:Nat}(e:k<w.heap.size)(hS:¬S k):w'.cell? ⟨k,o,none⟩=w.cell? ⟨k,o,none⟩:=aw (a:=⟨k,o,none⟩) (h.same e hS)
theorem dy.frozen{S:Nat->Prop}{w w':World}(h:dy S w w'){k o:Nat}(e:k<w.heap.size)(hS:¬S k):w'.frozen? ⟨k,o,none⟩=w.frozen? ⟨k,o,none⟩:=dg (a:=⟨k,o,none⟩) (h.same e hS)
theorem dy.trans{S S1:Nat->Prop}{w w1 w2:World}(h:dy S w w1)(k:dy S1 w1 w2)(hS:∀b,S1 b->b<w.heap.size->S b):dy S w w2:=
 ⟨k.1.trans h.1,k.2.1.trans h.2.1,k.2.2.1.trans h.2.2.1,dH h.size k.size,λb e hn=>(k.2.2.2.2 b (dm e h.size) (λi=>hn (hS b i e))).trans (h.2.2.2.2 b e hn)⟩
theorem dy.mono{S S1:Nat->Prop}{w w1:World}(h:dy S w w1)(hS:∀b,S b->b<w.heap.size->S1 b):dy S1 w w1:=
 ⟨h.1,h.2.1,h.2.2.1,h.size,λb e hn=>h.2.2.2.2 b e (λi=>hn (hS b i e))⟩
theorem jg{S:Nat->Prop}{w w1:World}{b:Nat}(h:w.grownBy w1 (some b))(o:S b):dy S w w1:=
 ⟨h.os,h.tape,h.output,h.size,λk i hn=>h.block k i (by intro e;injection e with e;exact hn (e▸o))⟩
theorem dU{S:Nat->Prop}{w w1:World}(h:w.grownBy w1 none):dy S w w1:=⟨h.os,h.tape,h.output,h.size,λk i _=>h.block k i (by intro e;cases e)⟩
theorem dy.then{S:Nat->Prop}{w w1 w2:World}{b:Nat}(h:dy S w w1)(k:w1.grownBy w2 (some b))(e:S b\/w.heap.size<=b):dy S w w2:=
 h.trans (jg (S:=λx=>x=b) k rfl) (λx o i=>e.elim (λe=>o▸e) (λe=>ch i (by omega)))
theorem dy.gR{S:Nat->Prop}{w w1 w2:World}(h:dy S w w1)(k:w1.grownBy w2 none):dy S w w2:=h.trans (dU (S:=S) k) (λ_ e _=>e)
theorem qi{S:Nat->Prop}{w w1:World}(h:dy S w w1):dy S w w1.drew:=h
theorem sZ{S:Nat->Prop}{w w1:World}(h:dy S w w1)(n:Nat):dy S w (w1.drewN n):=h
theorem gF{S:Nat->Prop}{w w1:World}(h:dy S w w1)(o:Obj):dy S w (w1.alloc o):=h.gR (ah _ _ _)
theorem bm{S:Nat->Prop}{w w1:World}(h:dy S w w1){a:Addr}(e:S a.block\/w.heap.size<=a.block)(v:Value):dy S w (w1.setCell a v):=
 h.then (b:=a.block) (bp (ax _ _) (ag rfl) v) e
theorem az{p:Prop}(h:p):Hid p:=h
def ep(P:Nat->Value)(j:Nat)(v:Value):Nat->Value:=λi=>if i=j then v else P i
theorem gf(P:Nat->Value)(j:Nat)(v:Value):ep P j v j=v:=aj rfl
theorem eG(P:Nat->Value)(j i:Nat)(v:Value)(h:i≠j):ep P j v i=P i:=aa h
theorem Full.ep{w:World}{g n m:Nat}{T:TypeId}{P:Nat->Value}(h:Full w g T n m P)(j:Nat)(v:Value):Full (w.setCell ⟨g,j,none⟩ v) g T n m (ep P j v):=by
 obtain⟨o,h,y,u⟩:=h;refine⟨o.setIfInBounds j v,by simp[World.setCell,cn,h],by simpa using y,λi hi=>?_⟩;rw[Array.getElem?_setIfInBounds];by_cases e:j=i
 .subst e;have:=u j hi;rw[gf,aj rfl,aj (Array.getElem?_eq_some_iff.1 this).1]
 rw[aa e,eG _ _ _ _ (λh=>e h.symm)];exact u i hi
theorem Full.off{w:World}{g n m x o:Nat}{T:TypeId}{P:Nat->Value}{v:Value}(h:Full w g T n m P)(hx:g≠x):Full (w.setCell ⟨x,o,none⟩ v) g T n m P:=h.block (af _ _ _ _ hx)
theorem Full.cells{w:World}{g n m:Nat}{T:TypeId}{P:Nat->Value}(h:Full w g T n m P)(j:Nat)(i:j<m):w.cell? ⟨g,j,none⟩=some (P j)/\w.frozen? ⟨g,j,none⟩=false:=by
 refine⟨h.cell j i,?_⟩;obtain⟨e,h,_⟩:=h;simp[World.frozen?,h]
theorem Full.ne{w:World}{g n m g' G m':Nat}{T T':TypeId}{P y:Nat->Value}(h:Full w g T n m P)(e:Full w g' T' G m' y)(u:T≠T'):g≠g':=by
 rintro rfl;obtain⟨o,h,_⟩:=h;obtain⟨i,e,_⟩:=e;rw[h]at e;injection e with e;injection e with _ e _;exact u e
theorem Full.congr{w:World}{g n m:Nat}{T:TypeId}{P Q:Nat->Value}(h:Full w g T n m P)(hP:∀j,j<m->P j=Q j):Full w g T n m Q:=by
 obtain⟨e,y,u,o⟩:=h;exact⟨e,y,u,λj i=>(o j i).trans (by rw[hP j i])⟩
end
namespace B
abbrev V:=Nat×Int
abbrev St:=Nat×(Nat->V)×(Nat->List V)
abbrev In:=Nat×Nat×Nat×Nat
abbrev Ev:=Nat×Int
def set(r:Nat->V)(a:Nat)(v:V):Nat->V:=λi=>if i=a then v else r i
theorem ie(r:Nat->V)(a:Nat)(v:V):set r a v a=v:=if_pos rfl
theorem gS(r:Nat->V)(a i:Nat)(v:V)(h:i≠a):set r a v i=r i:=if_neg h
def lay(m:Nat->List V)(p:Nat)(l:List V):Nat->List V:=λk=>if k=p then l else m k
theorem gl(m:Nat->List V)(p:Nat)(l:List V):lay m p l p=l:=if_pos rfl
theorem fq(m:Nat->List V)(p k:Nat)(l:List V)(h:k≠p):lay m p l k=m k:=if_neg h
def Reach(nr:Nat)(s:St)(p:Nat):Prop:=
 ∀S:Nat->Prop,(∀i,i<nr->(s.2.1 i).1≠0->S (s.2.1 i).1)->(∀k,S k->∀v,v∈s.2.2 k->v.1≠0->S v.1)->S p
theorem jj{nr:Nat}{s:St}(i:Nat)(hi:i<nr)(h:(s.2.1 i).1≠0):Reach nr s (s.2.1 i).1:=λ_ e _=>e i hi h
theorem iF{nr:Nat}{s:St}{k:Nat}(i:Reach nr s k){v:V}(o:v∈s.2.2 k)(h:v.1≠0):Reach nr s v.1:=λS u e=>e k (i S u e) v o h
def wide(b c:Nat):Int:=if 256*b+c<32768 then(256*b+c:Nat) else(256*b+c:Nat)-65536
def wrap(x:Int):Int:=(x+9223372036854775808) % 18446744073709551616-9223372036854775808
theorem C4:∀(l m:List Nat),l.Nodup->(∀x,x∈l->x∈m)->l.length<=m.length:=by
 intro l;induction l with
 | nil=>intro m _ _;simp
 | cons a l G=>
  intro m hn u;have o:=u a (by simp);have H:=G (m.erase a) (List.nodup_cons.1 hn).2 (λx y=>by
   have i:x≠a:=λe=>(List.nodup_cons.1 hn).1 (e▸y);exact(List.mem_erase_of_ne i).2 (u x (by simp[y])))
  rw[List.length_erase_of_mem o]at H;have:=List.length_pos_of_mem o;simp;omega
theorem wz(n x:Nat):x∈(List.range n).map (· + 1)↔1<=x/\x<=n:=by
 simp only[List.mem_map,List.mem_range];constructor
 .rintro⟨a,h,rfl⟩;omega
 intro h;exact⟨x-1,by omega,by omega⟩
end B
section
abbrev vA(v:B.V):Value:=.agg #[.int .i64 (v.1:Int),.int .i64 v.2]
def eC(R:Nat->B.V):Nat->Value:=λj=>if j % 2=0 then .int .i64 ((R (j / 2)).1:Int) else .int .i64 (R (j / 2)).2
theorem nE(R:Nat->B.V)(i:Nat):eC R (i*2)=.int .i64 ((R i).1:Int):=by unfold eC;rw[aj (by omega),show i*2 / 2=i by omega]
theorem nD(R:Nat->B.V)(i:Nat):eC R (i*2+1)=.int .i64 (R i).2:=by unfold eC;rw[aa (by omega),show(i*2+1) / 2=i by omega]
def ij(cb L nx rb nr:Nat)(back:Value):Obj:=.cells #[.slice (some ⟨cb,0,none⟩) L L,.int .i64 nx,.slice (some ⟨rb,0,none⟩) nr nr,back] 241 (0,0)
abbrev dZ(op a b c fb tb eb:Nat):Value:=.agg #[.int .u8 op,.int .u8 a,.int .u8 b,.int .u8 c,P0 fb,P0 tb,P0 eb]
theorem ib{w:World}{fb cb L nx rb nr:Nat}{back:Value}(h:w.heap[fb]? = some (ij cb L nx rb nr back)):w.cell? ⟨fb,0,none⟩=some (.slice (some ⟨cb,0,none⟩) L L)/\w.cell? ⟨fb,1,none⟩=some (.int .i64 nx)/\w.cell? ⟨fb,2,none⟩=some (.slice (some ⟨rb,0,none⟩) nr nr)/\w.cell? ⟨fb,3,none⟩=some back/\w.frozen? ⟨fb,1,none⟩=false:=by
 simp[World.cell?,World.frozen?,h,ij]
theorem fH(n:Int)(w:World):Calls prog 61 #[.int .i64 n] w λe w'=>e=.returned (vA (0,n))/\w'=w.alloc (.cells #[.int .i64 0,.int .i64 n] 149):=by
 go_in;go_wp2
 refine da (v:=.agg #[.int .i64 0,.int .i64 n]) (by simp[results,results61,go_sem]) rfl ⟨rfl,rfl⟩
theorem mP(v:B.V)(w:World):Calls prog 198 #[vA v] w λe w'=>e=.returned (.bool (decide (v.1≠0)))/\w.grownBy w' none:=by
 obtain⟨i,G⟩:=v;by_cases h:i=0
 .subst h;go_in;go_wp2_with fail
  go_ret;exact⟨rfl,ah _ _ _⟩
 have u:decide (0<i)=true:=by simp;omega
 have o:decide (i≠0)=true:=by simpa using h
 rw[show(i,G).1=i from rfl,o];have y:=az u;clear h o u;go_in;go_wp2_with fail
 go_ret;refine⟨?_,ah _ _ _⟩;show Ending.returned (Value.bool (decide (0<i)))=_;rw[y.out]
theorem mg(k:Nat)(x:Int)(y:k<=200)(w:World):Calls prog 201 #[vA (k+1,x)] w λe w'=>e=.returned (.int .i64 k)/\w.grownBy w' none:=by
 have o:(k:Int)+1-1=(k:Int):=by omega
 have u:IntKind.i64.wrap (k:Int)=k:=by simp[IntKind.wrap,IntKind.bits,IntKind.signed];omega
 go_in;go_wp2_with fail
 go_ret;exact⟨rfl,ah _ _ _⟩
theorem ft(v:B.V)(w:World):Calls prog 152 #[vA v] w λe w'=>e=.returned (.tuple #[.int .i64 v.2,.bool (decide (v.1=0))])/\w.grownBy w' none:=by
 have u:=mP v;have Y:(!decide (v.1≠0))=decide (v.1=0):=by by_cases h:v.1=0<;>simp[h]
 obtain⟨c,n⟩:=v;simp only at u Y ⊢;generalize decide (c≠0)=d at *;generalize decide (c=0)=d2 at *;have Z:=az u;go_in;go_wp2_with fail
 generalize H:w.alloc (.cells #[.int .i64 c,.int .i64 n] 149)=w1;have J:Hid (w.grownBy w1 none):=by rw[<-H];exact ah _ _ _
 have o:w1.heap[w.heap.size]? = some (.cells #[.int .i64 c,.int .i64 n] 149 (0,0)):=by rw[<-H];exact bf w _
 have c0:w1.cell? ⟨w.heap.size,0,none⟩=some (.int .i64 c):=by simp[World.cell?,o]
 have c1:w1.cell? ⟨w.heap.size,1,none⟩=some (.int .i64 n):=by simp[World.cell?,o]
 have y:=bz o;have HS:Hid (∀w':World,w1.grownBy w' none->w'.cell? ⟨w.heap.size,0,none⟩=some (.int .i64 c)/\w'.cell? ⟨w.heap.size,1,none⟩=some (.int .i64 n)):=
  λw' W=>⟨(bh W (a:=⟨w.heap.size,0,none⟩) y).1.trans c0,(bh W (a:=⟨w.heap.size,1,none⟩) y).1.trans c1⟩
 go_region_held3 (λw'=>w'.cell? ⟨w.heap.size,0,none⟩=some (.int .i64 c)/\w'.cell? ⟨w.heap.size,1,none⟩=some (.int .i64 n)) (first|exact HS _ (bq (ax _ _))|exact HS _ G) (first|(go_at_call 198;refine(Z w1.drew).mono ?_;rintro e w2 ⟨rfl,i⟩;have G:Hid (w1.grownBy w2 none):=⟨i.os,i.tape,i.output,i.size,i.block⟩;clear i))
 all_goals
  go_wp2_with fail
  go_ret2
  exact⟨rfl,an J G⟩
theorem As(op a b c fb tb eb cb L nx rb nr:Nat)(back:Value)(R:Nat->B.V)(w:World)(o:w.heap[fb]? = some (ij cb L nx rb nr back))(i:Full w rb 149 (nr*2) (nr*2) (eC R))(Z:a<nr): Calls prog 98 #[dZ op a b c fb tb eb] w λe w'=>e=.returned (vA (R a))/\w.grownBy w' none:=by
 obtain⟨_,_,c2,_,_⟩:=ib o;have G:=i.cell (a*2) (by omega);have H:=i.cell (a*2+1) (by omega);rw[nE]at G;rw[nD]at H;have W:=bz o;have Y:=i.lt;have u:fb<w.heap.size+1:=by omega
 have y:rb<w.heap.size+1:=by omega
 have J:(a:Int)<nr:=by omega
 go_in;go_wp2_with fail
 go_region
 all_goals
  go_wp2_with fail
  refine da (v:=vA (R a)) (by simp[results,results98,go_sem]) rfl ⟨rfl,?_⟩;repeat (first|exact ax _ _|refine bq ?_|refine au ?_ _)
theorem pO(op a b c fb tb eb cb L nx rb nr:Nat)(back:Value)(R:Nat->B.V)(w:World)(o:w.heap[fb]? = some (ij cb L nx rb nr back))(i:Full w rb 149 (nr*2) (nr*2) (eC R))(Z:b<nr): Calls prog 86 #[dZ op a b c fb tb eb] w λe w'=>e=.returned (vA (R b))/\w.grownBy w' none:=by
 obtain⟨_,_,c2,_,_⟩:=ib o;have G:=i.cell (b*2) (by omega);have H:=i.cell (b*2+1) (by omega);rw[nE]at G;rw[nD]at H;have W:=bz o;have Y:=i.lt;have u:fb<w.heap.size+1:=by omega
 have y:rb<w.heap.size+1:=by omega
 have J:(b:Int)<nr:=by omega
 go_in;go_wp2_with fail
 go_region
 all_goals
  go_wp2_with fail
  refine da (v:=vA (R b)) (by simp[results,results86,go_sem]) rfl ⟨rfl,?_⟩;repeat (first|exact ax _ _|refine bq ?_|refine au ?_ _)
theorem qJ(op a b c fb tb eb cb L nx rb nr:Nat)(back:Value)(R:Nat->B.V)(w:World)(o:w.heap[fb]? = some (ij cb L nx rb nr back))(i:Full w rb 149 (nr*2) (nr*2) (eC R))(Z:c<nr): Calls prog 94 #[dZ op a b c fb tb eb] w λe w'=>e=.returned (vA (R c))/\w.grownBy w' none:=by
 obtain⟨_,_,c2,_,_⟩:=ib o;have G:=i.cell (c*2) (by omega);have H:=i.cell (c*2+1) (by omega);rw[nE]at G;rw[nD]at H;have W:=bz o;have Y:=i.lt;have u:fb<w.heap.size+1:=by omega
 have y:rb<w.heap.size+1:=by omega
 have J:(c:Int)<nr:=by omega
 go_in;go_wp2_with fail
 go_region
 all_goals
  go_wp2_with fail
  refine da (v:=vA (R c)) (by simp[results,results94,go_sem]) rfl ⟨rfl,?_⟩;repeat (first|exact ax _ _|refine bq ?_|refine au ?_ _)
theorem pj(R:Nat->B.V)(a:Nat)(v:B.V)(j:Nat)(i:j≠a*2)(e:j≠a*2+1):eC (B.set R a v) j=eC R j:=by
 unfold eC;rw[B.gS _ _ _ _ (by omega)]
theorem Full.oD{w:World}{rb nr:Nat}{R:Nat->B.V}(h:Full w rb 149 (nr*2) (nr*2) (eC R))(a:Nat)(v:B.V): Full ((w.setCell ⟨rb,a*2,none⟩ (.int .i64 v.1)).setCell ⟨rb,a*2+1,none⟩ (.int .i64 v.2)) rb 149 (nr*2) (nr*2) (eC (B.set R a v)):=by
 obtain⟨e,H,G,y⟩:=h;refine⟨(e.setIfInBounds (a*2) (.int .i64 v.1)).setIfInBounds (a*2+1) (.int .i64 v.2),?_,by simpa using G,λj u=>?_⟩
 .simp[World.setCell,cn,H]
 rw[Array.getElem?_setIfInBounds,Array.getElem?_setIfInBounds];by_cases o:a*2+1=j
 .subst o;rw[aj rfl,nD,B.ie];simp;omega
 rw[aa o];by_cases i:a*2=j
 .subst i;rw[aj rfl,nE,B.ie];simp;omega
 rw[aa i,pj R a v j (by omega) (by omega)];exact y j u
theorem js(op a b c fb tb eb cb L nx rb nr:Nat)(back:Value)(R:Nat->B.V)(v:B.V)(w:World)(u:w.heap[fb]? = some (ij cb L nx rb nr back))(o:Full w rb 149 (nr*2) (nr*2) (eC R))(ha:a<nr): Calls prog 149 #[dZ op a b c fb tb eb,vA v] w λe w'=>e=.returned (.tuple #[])/\w.grownBy w' (some rb)/\Full w' rb 149 (nr*2) (nr*2) (eC (B.set R a v)):=by
 obtain⟨_,_,c2,_,_⟩:=ib u;have i:=o.xV;obtain⟨_,z0⟩:=i.cell (a*2) (by omega);obtain⟨_,Z⟩:=i.cell (a*2+1) (by omega);have r0:=o.cell (a*2) (by omega);have r1:=o.cell (a*2+1) (by omega);have Y:=bz u;have l1:=o.lt;have y:fb<w.heap.size+1:=by omega
 have G:rb<w.heap.size+1:=by omega
 have H:Hid (Full w rb 149 (nr*2) (nr*2) (eC R)):=o;generalize eC R (a*2)=W at *;generalize eC R (a*2+1)=y1 at *;have J:(a:Int)<nr:=by omega
 go_in;go_wp2_with fail
 go_region
 all_goals
  go_wp2_with fail
  go_end0;refine⟨rfl,?_,?_⟩
  .repeat (first|exact ax _ _|refine bq ?_|refine au ?_ _|refine bp ?_ (ag rfl) _)
  refine(H.oD a v).block ?_;show(World.alloc _ _).heap[rb]? = _;rw[ak _ _ _ (by simp[World.setCell];omega),ak _ _ _ (by simp[World.setCell];omega)]
abbrev xD(op a b c:Nat):Value:=.agg #[.int .u8 op,.int .u8 a,.int .u8 b,.int .u8 c]
theorem BA(fb cb L nx rb nr:Nat)(back:Value)(w:World)(i:w.heap[fb]? = some (ij cb L nx rb nr back)): Calls prog 185 #[P0 fb] w λe w'=>e=.returned (.bool (decide (nx=L)))/\w.grownBy w' none:=by
 obtain⟨c0,c1,_,_,_⟩:=ib i;have o:(((nx:Nat):Int) == (L:Int))=decide (nx=L):=by
  by_cases h:nx=L<;>simp[h]
  omega
 generalize decide (nx=L)=d at *;go_in;go_wp2_with fail
 go_quiet (fail)
 go_wp2_with fail
 go_ret;exact⟨rfl,db (ax _ _) _⟩
theorem ofInt16(a:Nat)(e:a<65536):(BitVec.ofInt 16 (a:Int)).toNat=a:=by
 rw[BitVec.ofInt_natCast,BitVec.toNat_ofNat];exact Nat.mod_eq_of_lt (by omega)
theorem KU(b c:Nat)(y:b<256)(u:c<256):bits BinOp.or IntKind.u16 ((b:Int)*256) (c:Int)=((256*b+c:Nat):Int):=by
 have o:b*256 ||| c=256*b+c:=by
  have:=Nat.shiftLeft_add_eq_or_of_lt (i:=8) (b:=c) (by omega) b;rw[Nat.shiftLeft_eq,show(2:Nat) ^ 8=256 from rfl]at this;omega
 have e:((b:Int)*256)=((b*256:Nat):Int):=by omega
 rw[e];show IntKind.u16.wrap ((BitVec.ofInt 16 ((b*256:Nat):Int) ||| BitVec.ofInt 16 (c:Int)).toNat:Int)=_;rw[BitVec.toNat_or,ofInt16 (b*256) (by omega),ofInt16 c (by omega),o];simp[IntKind.wrap,IntKind.bits,IntKind.signed];omega
theorem xg(op a b c:Nat)(o:b<256)(i:c<256)(w:World):Calls prog 150 #[xD op a b c] w λe w'=>e=.returned (.int .u16 (256*b+c:Nat))/\w'=w.alloc (.cells #[.int .u8 op,.int .u8 a,.int .u8 b,.int .u8 c] 183):=by
 have u:=KU b c o i;generalize 256*b+c=x at *;go_in;go_wp2_with fail
 go_ret;exact⟨rfl,rfl⟩
theorem sq(op a b c:Nat)(y:b<256)(o:c<256)(w:World):Calls prog 154 #[xD op a b c] w λe w'=>e=.returned (.int .i64 (256*b+c:Nat))/\w.grownBy w' none:=by
 have i:=xg op a b c y o;have G:256*b+c<65536:=by omega
 generalize 256*b+c=x at *;have u:Hid (∀w,Calls prog 150 #[xD op a b c] w λe w'=>e=.returned (.int .u16 x)/\w'=w.alloc (.cells #[.int .u8 op,.int .u8 a,.int .u8 b,.int .u8 c] 183)):=i;go_in;go_wp2_with fail
 refine(u.out _).mono ?_;rintro e w1 ⟨rfl,rfl⟩;go_wp2_with fail
 go_ret;exact⟨rfl,au (ah _ _ _) _⟩
theorem xC(op a b c:Nat)(Y:b<256)(G:c<256)(w:World):Calls prog 85 #[xD op a b c] w λe w'=>e=.returned (.int .i64 (B.wide b c))/\w.grownBy w' none:=by
 have i:=xg op a b c Y G;have hx:256*b+c<65536:=by omega
 have hw:B.wide b c=if 256*b+c<32768 then((256*b+c:Nat):Int) else((256*b+c:Nat):Int)-65536:=rfl
 generalize B.wide b c=y at *;generalize 256*b+c=x at *;have W:Hid (∀w,Calls prog 150 #[xD op a b c] w λe w'=>e=.returned (.int .u16 x)/\w'=w.alloc (.cells #[.int .u8 op,.int .u8 a,.int .u8 b,.int .u8 c] 183)):=i;have o:=az hw;clear i hw;have J:IntKind.i16.wrap (x:Int)=y:=by
  rw[o.out];split<;>(simp[IntKind.wrap,IntKind.bits,IntKind.signed];omega)
 have H:-32768<=y/\y<=32767:=by rw[o.out];split<;>omega
 obtain⟨u,Z⟩:=H;go_in;go_wp2_with fail
 refine(W.out _).mono ?_;rintro e w1 ⟨rfl,rfl⟩;go_wp2_with fail
 go_ret;exact⟨rfl,au (ah _ _ _) _⟩
theorem tu{w:World}{fb cb L nx rb nr:Nat}{back:Value}(h:w.heap[fb]? = some (ij cb L nx rb nr back))(y:Nat):(w.setCell ⟨fb,1,none⟩ (.int .i64 y)).heap[fb]? = some (ij cb L y rb nr back):=by
 simp[World.setCell,cn,h,ij]
theorem Ca(fb cb L nx rb nr op a b c:Nat)(back:Value)(w:World)(i:w.heap[fb]? = some (ij cb L nx rb nr back))(y:nx<L)(Z:L<=200)(H:cb<w.heap.size)(k0:w.cell? ⟨cb,nx*4,none⟩=some (.int .u8 op))(k1:w.cell? ⟨cb,nx*4+1,none⟩=some (.int .u8 a))(k2:w.cell? ⟨cb,nx*4+2,none⟩=some (.int .u8 b))(J:w.cell? ⟨cb,nx*4+3,none⟩=some (.int .u8 c)): Calls prog 186 #[P0 fb] w λe w'=>e=.returned (xD op a b c)/\w.grownBy w' (some fb)/\w'.heap[fb]? = some (ij cb L (nx+1) rb nr back):=by
 obtain⟨c0,c1,_,_,Y⟩:=ib i;have W:=bz i;have o:fb<w.heap.size+1:=by omega
 have u:cb<w.heap.size+1:=by omega
 have G:Hid (w.heap[fb]? = some (ij cb L nx rb nr back)):=i;have hi:(nx:Int)<(L:Int):=by omega
 go_in;go_wp2_with fail
 go_region
 all_goals
  go_wp2_with fail
  refine da (v:=xD op a b c) (by simp[results,results186,go_sem]) rfl ⟨rfl,?_,?_⟩
  .repeat (first|exact ax _ _|refine bq ?_|refine au ?_ _|refine bp ?_ (ag rfl) _|refine bp ?_ (ab (by simp)) _)
  show(World.alloc _ _).heap[fb]? = _;rw[ak _ _ _ (by simp[World.setCell];omega),ak _ _ _ (by simp[World.setCell];omega)];have:=tu G.out (nx+1);simpa using this
abbrev Pt(b o:Nat):Value:=.pointer (some ⟨b,o,none⟩)
theorem gP(b o n c:Nat)(ad:Option Addr)(w:World)(h:w.cell? ⟨b,o,none⟩=some (.slice ad n c)): Calls prog 70 #[Pt b o] w λe w'=>e=.returned (.bool (decide (n=0)))/\w'=w:=by
 have i:(((n:Nat):Int) == 0)=decide (n=0):=by
  by_cases h:n=0<;>simp[h]
 generalize decide (n=0)=d at *;go_in;go_wp2_with fail
 go_ret;exact⟨rfl,rfl⟩
theorem qq(b o n c qb tb:Nat)(w:World)(h:w.cell? ⟨b,o,none⟩=some (.slice (some ⟨qb,0,none⟩) (n+1) c))(i:w.cell? ⟨qb,0,none⟩=some (P0 tb)): Calls prog 132 #[Pt b o] w λe w'=>e=.returned (P0 tb)/\w'=w:=by
 go_in;go_wp2_with fail
 go_ret;exact⟨rfl,rfl⟩
theorem uy(eb n c:Nat)(ad:Option Addr)(w:World)(h:w.cell? ⟨eb,29,none⟩=some (.slice ad n c)): Calls prog 66 #[P0 eb] w λe w'=>e=.returned (.bool (decide (0<n)))/\w'=w:=by
 go_in;go_wp2_with fail
 go_ret;exact⟨rfl,rfl⟩
theorem uU(tb:Nat)(w:World)(h:w.cell? ⟨tb,3,none⟩=some (.pointer none)): Calls prog 133 #[P0 tb] w λe w'=>e=.returned (.tuple #[])/\w'=w:=by
 go_in;go_wp2_with fail
 first|go_end0|(simp only[Exit.inBlock,Exit.then];refine da (results_none rfl _ _ _) rfl ?_)|refine da (results_none rfl _ _ _) rfl ?_
 exact⟨rfl,rfl⟩
theorem Tryz.rA:(prog.info? 155).map (λi=>(i.zero,i.size,i.bytes))=some (some (.pointer none),1,8):=by kernel_rfl
theorem Tryz.Ad:(prog.info? 160).map (λi=>(i.zero,i.size,i.bytes))=some (some (.agg #[.int .i64 0,.slice none 0 0,.bool false,.pointer none,.nilFunc,.int .i64 0,.slice none 0 0]),7,88):=by kernel_rfl
theorem mV{P:Program}(w:World)(t ty e:TypeId)(i:TypeInfo)(ht:P.underlying t=some (.slice e))(hi:P.info? e=some i)(o ad:Option Addr)(n cap c:Nat)(u:n<=cap): (Builtin.append_ #[t,t] ty #[.slice o n cap,.slice ad 0 c]).run P w=.ok (.slice o n cap) w:=by
 cases o<;>cases ad<;>simp[Builtin.append_,Builtin.lenOf,Builtin.firstCells,run_underlying ht,sizeOf,typeInfo,hi,u,loadCells,loadCellsFrom,storeCells]
theorem l9{P:Program}{ops:Array Oper}{o:Oper}{a:Act}{w:World}{K:Act->World->Prop}{Q:Exit->Act->World->Prop}{E:Prop}(Z:o.guard=none)(s x:Operand)(t:TypeId)(G:o.op=Op.call { callee:=Callee.builtin Builtin.append,args:=#[s,x],argTypes:=#[t,t] })(e:TypeId)(i:TypeInfo)(J:P.underlying t=some (.slice e))(Y:P.info? e=some i)(u ad:Option Addr)(n cap c:Nat)(W:a.eval s=.slice u n cap)(hx:a.eval x=.slice ad 0 c)(H:n<=cap)(hK:K (a.put o.dst (.slice u n cap)) w): if Region.wanted o (yielded ops a.tmps)=true then Oper.wp P o a w K Q else E:=by
 rw[aj (by simp[Region.wanted,Z])];unfold Oper.wp;simp[execOp,G,resolve,invoke,builtin,W,hx,mV (P:=P) w t o.type e i J Y u ad n cap c H,Result.andThen];exact hK
theorem dD{w w':World}{i size n:Nat}{e:TypeId}{v:Value}{xs:List Value}(h:w.ownsRow i e size v n xs)(y:∀k,v.ownBlock=some k->w'.heap[k]? = w.heap[k]?):w'.ownsRow i e size v n xs:=by
 refine⟨h.1,?_⟩;rcases h.2 with h|⟨g,cap,o,u,J,H,G⟩
 .exact ag h
 exact ab ⟨g,cap,o,u,J,(y g (by rw[u];rfl)).trans H,G⟩
theorem dA{w:World}{i size n:Nat}{e:TypeId}{v:Value}{xs:List Value}(h:w.ownsRow i e size v n xs)(k:Nat)(u:v.ownBlock=some k):i<=k/\k<w.heap.size/\∃o,w.heap[k]? = some (.cells o e (0,0)):=by
 rcases h.2 with⟨h,_⟩|⟨g,cap,o,G,H,y,W⟩
 .rw[h]at u;cases u
 rw[G]at u;have J:g=k:=by injection u
 subst J;exact⟨H,bz y,o,y⟩
theorem eL{w:World}{o size n g Y m':Nat}{e T:TypeId}{v:Value}{xs:List Value}{P:Nat->Value}(h:w.ownsRow o e size v n xs)(J:Full w g T Y m' P)(H:T≠e)(k:Nat)(G:v.ownBlock=some k):k≠g:=by
 rintro rfl;obtain⟨_,_,y,i⟩:=dA h k G;obtain⟨u,W,_⟩:=J;rw[W]at i;injection i with i;injection i with _ i _;exact H i
theorem Tryz.yP:(prog.info? 48).map (λi=>(i.zero,i.size,i.bytes))=some (some (.agg #[.int .i64 0,.int .i64 0,.int .i64 0]),3,24):=by kernel_rfl
theorem Tryz.rE:(prog.info? 149).map (λi=>(i.zero,i.size,i.bytes))=some (some (.agg #[.int .i64 0,.int .i64 0]),2,16):=by kernel_rfl
end
namespace B
structure Cy where
 m:Nat->Bool
 st:List Nat
 nx:Nat
structure Kd where
 on:Nat->Bool
 cy:Option Cy
 un:Nat
 fo:Nat
 cc:Nat
def EZ:Kd:=⟨λ_=>false,none,0,0,0⟩
def qO(on:Nat->Bool)(n:Nat)(v:V):Prop:=v.1=0\/(1<=v.1/\v.1<=n/\on v.1=true/\v.2=0)
def mark(m:Nat->Bool)(p:Nat):Nat->Bool:=λk=>if k=p then true else m k
theorem je(m:Nat->Bool)(p:Nat):mark m p p=true:=if_pos rfl
theorem fg(m:Nat->Bool)(p k:Nat)(h:k≠p):mark m p k=m k:=if_neg h
theorem jy{m:Nat->Bool}{k:Nat}(p:Nat)(h:m k=true):mark m p k=true:=by unfold mark;split<;>simp[h]
def free(m:Nat->Bool)(p:Nat):Nat->Bool:=λk=>if k=p then false else m k
theorem rK(m:Nat->Bool)(p:Nat):free m p p=false:=if_pos rfl
theorem xK(m:Nat->Bool)(p k:Nat)(h:k≠p):free m p k=m k:=if_neg h
theorem Fj{m:Nat->Bool}{p k:Nat}(h:free m p k=true):m k=true:=by unfold free at h;split at h<;>simp_all
def kX(m:Nat->Bool):Nat->Nat
 | 0=>0
 | n+1=>kX m n+if m (n+1)=true then 0 else 1
theorem pM(m:Nat->Bool)(p:Nat):∀n,n<p->kX (mark m p) n=kX m n
 | 0,_=>rfl
 | n+1,h=>by rw[kX,kX,pM m p n (by omega),fg m p _ (by omega)]
theorem xT(m:Nat->Bool)(p:Nat)(o:1<=p)(i:m p=false):∀n,p<=n->kX (mark m p) n+1=kX m n
 | 0,h=>by omega
 | n+1,h=>by
  by_cases e:p=n+1
  .subst e;rw[kX,kX,je,i,pM m (n+1) n (by omega)];simp
  rw[kX,kX,fg m p _ (by omega)];have:=xT m p o i n (by omega);omega
theorem vN:∀n,kX (λ_=>false) n=n
 | 0=>rfl
 | n+1=>by rw[kX,vN n];simp
def seen(m:Nat->Bool)(st:List Nat)(v:V):(Nat->Bool)×List Nat:=if v.1≠0/\m v.1=false then(mark m v.1,st++[v.1]) else(m,st)
def fY(m:Nat->Bool)(st:List Nat):List V->(Nat->Bool)×List Nat
 | []=>(m,st)
 | v :: r=>fY (seen m st v).1 (seen m st v).2 r
theorem oM(v:V):∀(l:List V) (m:Nat->Bool) (e:List Nat),fY m e (l++[v])=seen (fY m e l).1 (fY m e l).2 v
 | [],_,_=>rfl
 | u :: l,m,e=>by rw[List.cons_append,fY,oM v l];rfl
def iE(R:Nat->V)(nr:Nat):List V:=(List.range nr).map R
theorem AY(R:Nat->V)(j:Nat):iE R (j+1)=iE R j++[R j]:=by simp[iE,List.range_succ]
theorem kI{R:Nat->V}{nr:Nat}{v:V}:v∈iE R nr↔∃i,i<nr/\R i=v:=by simp[iE]
theorem Cm{m:Nat->Bool}{e:List Nat}{v:V}{n:Nat}(i:v.1≠0->v.1<=n):(seen m e v).2.length+kX (seen m e v).1 n=e.length+kX m n:=by
 unfold seen;split
 .rename_i h;have:=xT m v.1 (by omega) h.2 n (i h.1);simp;omega
 rfl
theorem me{n:Nat}:∀(l:List V) (m:Nat->Bool) (e:List Nat),(∀v,v∈l->v.1≠0->v.1<=n)->(fY m e l).2.length+kX (fY m e l).1 n=e.length+kX m n
 | [],_,_,_=>rfl
 | v :: l,m,e,h=>by
  rw[fY,me l _ _ (λu i=>h u (List.mem_cons_of_mem _ i))];exact Cm (h v (List.mem_cons_self ..))
theorem ri{m:Nat->Bool}{e:List Nat}{v:V}{k:Nat}(h:m k=true):(seen m e v).1 k=true:=by
 unfold seen;split
 .exact jy _ h
 exact h
theorem zx{m:Nat->Bool}{e:List Nat}{v:V}{k:Nat}(h:k∈e):k∈(seen m e v).2:=by
 unfold seen;split
 .simp[h]
 exact h
theorem uX{m:Nat->Bool}{e:List Nat}{v:V}(h:v.1≠0):(seen m e v).1 v.1=true:=by
 unfold seen;split
 .exact je _ _
 rename_i c
 cases hm:m v.1
 .exact absurd ⟨h,hm⟩ c
 exact hm
theorem sy{m:Nat->Bool}{u:List Nat}{v:V}{k:Nat}(h:(seen m u v).1 k=true)(o:m k=false):k∈(seen m u v).2/\k=v.1/\v.1≠0:=by
 unfold seen at *;split at h
 .rename_i c;rw[if_pos c];by_cases e:k=v.1
  .exact⟨by simp[e],e,c.1⟩
  simp only[fg m v.1 k e,o]at h;cases h
 have i:m k=true:=h;rw[o]at i;cases i
def D9(m:Nat->Bool)(st:List Nat)(rest:List V)(M:Nat->List V)(p:Nat):Prop:=
 ∀S:Nat->Prop,(∀k,m k=true->S k)->(∀k,k∈st->∀v,v∈M k->v.1≠0->S v.1)->(∀v,v∈rest->v.1≠0->S v.1)->(∀k,m k=false->S k->∀v,v∈M k->v.1≠0->S v.1)->S p
theorem DJ{m:Nat->Bool}{y:List Nat}{v:V}{rest:List V}{M:Nat->List V}{p:Nat}(h:D9 m y (v :: rest) M p):D9 (seen m y v).1 (seen m y v).2 rest M p:=by
 intro S G H W J;refine h S (λk i=>G k (ri i)) (λk i=>H k (zx i)) (λu e o=>?_) (λk i hS u e o=>?_)
 .rcases List.mem_cons.1 e with rfl|e
  .exact G _ (uX o)
  exact W u e o
 cases hm:(seen m y v).1 k
 .exact J k hm hS u e o
 exact H k (sy hm i).1 u e o
theorem qu{M:Nat->List V}{p:Nat}:∀(l:List V) (m:Nat->Bool) (e:List Nat),D9 m e l M p->D9 (fY m e l).1 (fY m e l).2 [] M p
 | [],_,_,h=>h
 | _ :: l,_,_,h=>qu l _ _ (DJ h)
theorem Fx{m:Nat->Bool}{u:List Nat}{q:Nat}{M:Nat->List V}{p:Nat}(h:D9 m (u++[q]) [] M p):D9 m u (M q) M p:=by
 intro S J H G y;refine h S J (λk e v i o=>?_) (λv i=>by simp at i) y;rcases List.mem_append.1 e with e|e
 .exact H k e v i o
 rw[List.mem_singleton.1 e]at i;exact G v i o
theorem Bu{nr:Nat}{s:St}{p:Nat}(h:Reach nr s p):D9 (λ_=>false) [] (iE s.2.1 nr) s.2.2 p:=by
 intro S _ _ u o;exact h S (λi hi y=>u _ (kI.2 ⟨i,hi,rfl⟩) y) (λk e=>o k rfl e)
theorem Ak{m:Nat->Bool}{M:Nat->List V}{p:Nat}(h:D9 m [] [] M p):m p=true:=
 h (λk=>m k=true) (λ_ h=>h) (λk i=>by simp at i) (λv o=>by simp at o) (λk u e=>by rw[u]at e;cases e)
theorem yF{l:List V}{i:Nat}{v u:V}(h:u∈l):u∈l.set i v\/u=l.getD i (0,0):=by
 obtain⟨j,o,rfl⟩:=List.getElem_of_mem h;by_cases e:i=j
 .right;subst e;rw[List.getD_eq_getElem?_getD,List.getElem?_eq_getElem o];rfl
 left
 have:(l.set i v)[j]? = some l[j]:=by rw[List.getElem?_set,if_neg e,List.getElem?_eq_getElem o]
 exact List.mem_of_getElem? this
theorem Fu{m:Nat->Bool}{H:List Nat}{M:Nat->List V}{p:Nat}(a i:Nat)(v:V)(h:D9 m H [] M p): D9 (seen m H ((M a).getD i (0,0))).1 (seen m H ((M a).getD i (0,0))).2 [] (lay M a ((M a).set i v)) p:=by
 intro S J Y _ h4;have y:∀k u,u∈M k->u∈lay M a ((M a).set i v) k\/u=(M a).getD i (0,0):=by
  intro k u y;by_cases e:k=a
  .subst e;rw[gl];exact yF y
  rw[fq _ _ _ _ e];exact Or.inl y
 refine h S (λk G=>J k (ri G)) (λk G u W o=>?_) (λv Z=>by simp at Z) (λk G hS u W o=>?_)
 .rcases y k u W with h|h
  .exact Y k (zx G) u h o
  subst h;exact J _ (uX o)
 rcases y k u W with h|h
 .cases hc:(seen m H ((M a).getD i (0,0))).1 k
  .exact h4 k hc hS u h o
  exact Y k (sy hc G).1 u h o
 subst h;exact J _ (uX o)
structure lR(on:Nat->Bool) (n:Nat) (M:Nat->List V) (c:Cy) (T:Nat->Prop):Prop where
 ha:∀p,T p->1<=p/\p<=n/\on p=true
 hb:∀p,T p->∀v,v∈M p->qO on n v/\(v.1≠0->T v.1)
 hc:∀p,c.m p=true->T p
 hd:∀p,p∈c.st->c.m p=true
 he:c.st.Nodup
 hf:∀p,T p->D9 c.m c.st [] M p
 hg:0<c.nx->c.st=[]
 hh:c.nx<=n
 hi:∀p,1<=p->p<=c.nx->on p=true->c.m p=true
theorem wR{m:Nat->Bool}{i:List Nat}{v:V}{T:Nat->Prop}(y:∀p,m p=true->T p)(o:∀p,p∈i->m p=true)(he:i.Nodup)(u:v.1≠0->T v.1): (∀p,(seen m i v).1 p=true->T p)/\(∀p,p∈(seen m i v).2->(seen m i v).1 p=true)/\(seen m i v).2.Nodup:=by
 refine⟨λp e=>?_,λp e=>?_,?_⟩
 .cases h:m p
  .obtain⟨_,rfl,J⟩:=sy e h;exact u J
  exact y p h
 .unfold seen at e ⊢;split at e
  .rename_i c;rw[if_pos c];rcases List.mem_append.1 e with e|e
   .exact jy _ (o p e)
   rw[List.mem_singleton.1 e];exact je _ _
  rename_i c;rw[if_neg c];exact o p e
 unfold seen;split
 .rename_i c;rw[List.nodup_append];refine⟨he,by simp,λa G b H=>?_⟩;rw[List.mem_singleton.1 H];rintro rfl;have:=o _ G;rw[c.2]at this;cases this
 exact he
theorem pY{T:Nat->Prop}:∀(l:List V) (m:Nat->Bool) (e:List Nat),(∀p,m p=true->T p)->(∀p,p∈e->m p=true)->e.Nodup->(∀v,v∈l->v.1≠0->T v.1) -> (∀p,(fY m e l).1 p=true->T p)/\(∀p,p∈(fY m e l).2->(fY m e l).1 p=true)/\(fY m e l).2.Nodup
 | [],_,_,h1,h2,h3,_=>⟨h1,h2,h3⟩
 | v :: l,m,e,h1,h2,h3,h4=>by
  obtain⟨a,b,c⟩:=wR h1 h2 h3 (h4 v (List.mem_cons_self ..));exact pY l _ _ a b c (λu i=>h4 u (List.mem_cons_of_mem _ i))
theorem wS:∀(l:List V) {m:Nat->Bool} {e:List Nat} {k:Nat},m k=true->(fY m e l).1 k=true
 | [],_,_,_,h=>h
 | _ :: l,_,_,_,h=>wS l (ri h)
def AI(M:Nat->List V)(c:Cy)(st:List Nat)(p:Nat):Cy:=⟨(fY c.m st (M p)).1,(fY c.m st (M p)).2,c.nx⟩
def look(c:Cy):Cy:=⟨c.m,c.st,c.nx+1⟩
def kh(on:Nat->Bool)(c:Cy):Nat->Bool:=if c.m (c.nx+1)=true then on else free on (c.nx+1)
theorem iS{on:Nat->Bool}{c:Cy}{p:Nat}(h:kh on c p=true):on p=true:=by
 unfold kh at h;split at h
 .exact h
 exact Fj h
theorem zo{on:Nat->Bool}{c:Cy}{p:Nat}(h:c.m p=true):kh on c p=on p:=by
 unfold kh;split
 .rfl
 rename_i e;refine xK _ _ _ ?_;rintro rfl;exact e h
theorem Cc{on:Nat->Bool}{c:Cy}(h:kh on c (c.nx+1)=true):c.m (c.nx+1)=true:=by
 unfold kh at h;split at h
 .assumption
 rw[rK]at h;cases h
section
variable {on : Nat → Bool} {n : Nat} {M : Nat → List V} {c : Cy} {T : Nat → Prop}
theorem lR.len(h:lR on n M c T):c.st.length<=n:=by
 have:=C4 c.st ((List.range n).map (· + 1)) h.he (λx e=>by
  rw[wz];have:=h.ha x (h.hc x (h.hd x e));exact⟨this.1,this.2.1⟩)
 simpa using this
theorem zR(m:Nat->Bool):∀n,(((List.range n).map (· + 1)).filter m).length+kX m n=n
 | 0=>rfl
 | n+1=>by
  have:=zR m n;rw[List.range_succ,List.map_append,List.filter_append,List.length_append,kX]
  cases h:m (n+1)<;>simp[h]<;>omega
theorem lR.sum(h:lR on n M c T):c.st.length+kX c.m n<=n:=by
 have i:=C4 c.st (((List.range n).map (· + 1)).filter c.m) h.he (λx e=>by
  rw[List.mem_filter,wz];have:=h.ha x (h.hc x (h.hd x e));exact⟨⟨this.1,this.2.1⟩,h.hd x e⟩)
 have:=zR c.m n;omega
theorem lR.AI{i:List Nat}{p:Nat}(h:lR on n M c T)(e:c.st=i++[p]):lR on n M (AI M c i p) T:=by
 have hn:=h.he;rw[e,List.nodup_append]at hn;obtain⟨a,b,d⟩:=pY (T:=T) (M p) c.m i h.hc (λk o=>h.hd k (by rw[e];simp[o])) hn.1 (λv y u=>(h.hb p (h.hc p (h.hd p (by rw[e];simp))) v y).2 u);refine⟨h.ha,h.hb,a,b,d,λk o=>?_,λu=>?_,h.hh,λk W J H=>?_⟩
 .have:=h.hf k o;rw[e]at this;exact qu (M p) c.m i (Fx this)
 .have:=h.hg u;rw[e]at this;simp at this
 have:=h.hi k W J H;exact wS _ this
theorem lR.look(h:lR on n M c T)(H:c.st=[])(hn:c.nx<n):lR (kh on c) n M (look c) T:=by
 have G:=λp i=>by
  have:=h.hf p i;rw[H]at this;exact Ak this
 have Y:∀v,qO on n v->(v.1≠0->T v.1)->qO (kh on c) n v:=by
  rintro v (o|⟨o,y,u,Z⟩) W
  .exact Or.inl o
  exact Or.inr ⟨o,y,by rw[zo (G _ (W (by omega)))];exact u,Z⟩
 refine⟨λp i=>?_,λp i v hm=>?_,h.hc,h.hd,h.he,h.hf,λ_=>H,hn,λp o y u=>?_⟩
 .obtain⟨a,b,d⟩:=h.ha p i;exact⟨a,b,by rw[zo (G p i)];exact d⟩
 .have:=h.hb p i v hm;exact⟨Y v this.1 this.2,this.2⟩
 by_cases e:p=c.nx+1
 .subst e;exact Cc u
 have J:p<=c.nx+1:=y;exact h.hi p o (by omega) (iS u)
theorem lR.last(h:lR on n M c T)(e:c.st=[])(p:Nat):c.m p=true↔T p:=
 ⟨h.hc p,λi=>by have:=h.hf p i;rw[e]at this;exact Ak this⟩
end
def begun(R:Nat->V)(nr:Nat):Cy:=⟨(fY (λ_=>false) [] (iE R nr)).1,(fY (λ_=>false) [] (iE R nr)).2,0⟩
structure iZ(kd:Kd) (nr n:Nat) (s:St):Prop where
 h1:∀i,i<nr->qO kd.on n (s.2.1 i)
 h2:∀p,Reach nr s p->∀v,v∈s.2.2 p->qO kd.on n v
 h3:∀c,kd.cy=some c->c.nx<n/\∃T,(∀p,Reach nr s p->T p)/\lR kd.on n s.2.2 c T
theorem kJ{kd:Kd}{nr n:Nat}{s:St}(h:iZ kd nr n s){p:Nat}(J:Reach nr s p):kd.on p=true/\1<=p/\p<=n:=by
 have:=J (λp=>Reach nr s p/\kd.on p=true/\1<=p/\p<=n) (λi hi o=>?_) (λk G v H o=>?_)
 .exact this.2
 .rcases h.h1 i hi with e|⟨e,y,u,_⟩
  .exact absurd e o
  exact⟨jj i hi o,u,e,y⟩
 rcases h.h2 k G.1 v H with e|⟨e,y,u,_⟩
 .exact absurd e o
 exact⟨iF G.1 H o,u,e,y⟩
theorem su{kd:Kd}{nr n:Nat}{s:St}(h:iZ kd nr n s):lR kd.on n s.2.2 (begun s.2.1 nr) (Reach nr s):=by
 obtain⟨a,b,d⟩:=pY (T:=Reach nr s) (iE s.2.1 nr) (λ_=>false) [] (λp h=>by cases h) (λp h=>by simp at h) (by simp) (λv u o=>by
  obtain⟨i,hi,rfl⟩:=kI.1 u;exact jj i hi o)
 refine⟨λp e=>?_,λp e v u=>⟨h.h2 p e v u,λo=>iF e u o⟩,a,b,d,λp e=>qu _ _ _ (Bu e),λo=>absurd o (Nat.lt_irrefl 0),Nat.zero_le _,λp H G=>by have y:p<=0:=G;omega⟩;have:=kJ h e;exact⟨this.2.1,this.2.2,this.1⟩
end B
namespace B
theorem qO.up{on e:Nat->Bool}{n:Nat}{v:V}(h:qO on n v)(i:∀k,on k=true->e k=true):qO e n v:=by
 rcases h with h|⟨G,y,u,o⟩
 .exact Or.inl h
 exact Or.inr ⟨G,y,i _ u,o⟩
theorem Dv{kd:Kd}{nr e n:Nat}{s s':St}(h:iZ kd nr n s)(y:s'.2.2=s.2.2)(u:∀p,Reach e s' p->Reach nr s p)(J:∀i,i<e->qO kd.on n (s'.2.1 i)):iZ kd e n s':=
 ⟨J,λp o v Z=>h.h2 p (u p o) v (by rw[<-y];exact Z),λc G=>by
  obtain⟨H,T,Y,W⟩:=h.h3 c G;exact⟨H,T,λp o=>Y p (u p o),by rw[y];exact W⟩⟩
theorem th{kd:Kd}{nr n:Nat}{s:St}(h:iZ kd nr n s){p:Nat}(e:Reach nr s p)(i:Nat):qO kd.on n ((s.2.2 p).getD i (0,0))/\(((s.2.2 p).getD i (0,0)).1≠0->Reach nr s ((s.2.2 p).getD i (0,0)).1):=by
 by_cases hi:i<(s.2.2 p).length
 .rw[List.getD_eq_getElem?_getD,List.getElem?_eq_getElem hi];exact⟨h.h2 p e _ (List.getElem_mem hi),λo=>iF e (List.getElem_mem hi) o⟩
 rw[List.getD_eq_getElem?_getD,List.getElem?_eq_none (by omega)];exact⟨Or.inl rfl,λh=>absurd rfl h⟩
def told(kd:Kd)(v:V):Kd:={ kd with cy:=kd.cy.map (λc=>⟨(seen c.m c.st v).1,(seen c.m c.st v).2,c.nx⟩) }
def laid(kd:Kd)(p:Nat):Kd:={ kd with on:=mark kd.on p,cy:=kd.cy.map (λc=>⟨mark c.m p,c.st,c.nx⟩) }
theorem pZ{nr:Nat}{s:St}{x p i:Nat}{v:V}(W:Reach nr s p)(J:v.1≠0->Reach nr s v.1){k:Nat}(H:Reach nr (x,s.2.1,lay s.2.2 p ((s.2.2 p).set i v)) k):Reach nr s k:=by
 refine H (Reach nr s) (λi hi y=>jj i hi y) (λj G u o y=>?_);by_cases e:j=p
 .subst e;simp only[gl]at o;rcases List.mem_or_eq_of_mem_set o with o|rfl
  .exact iF G o y
  exact J y
 simp only[fq _ _ _ _ e]at o;exact iF G o y
theorem Dw{kd:Kd}{nr n:Nat}{s:St}(h:iZ kd nr n s)(x p i:Nat)(v:V)(W:Reach nr s p)(hv:qO kd.on n v)(hr:v.1≠0->Reach nr s v.1): iZ (told kd ((s.2.2 p).getD i (0,0))) nr n (x,s.2.1,lay s.2.2 p ((s.2.2 p).set i v)):=by
 refine⟨h.h1,λk G u o=>?_,λc hc=>?_⟩
 .have Z:=pZ W hr G;by_cases e:k=p
  .subst e;simp only[gl]at o;rcases List.mem_or_eq_of_mem_set o with o|rfl
   .exact h.h2 k Z u o
   exact hv
  simp only[fq _ _ _ _ e]at o;exact h.h2 k Z u o
 have H:kd.cy.map (λc:Cy=>(⟨(seen c.m c.st ((s.2.2 p).getD i (0,0))).1,(seen c.m c.st ((s.2.2 p).getD i (0,0))).2,c.nx⟩:Cy))=some c:=hc;rw[Option.map_eq_some_iff]at H;obtain⟨c0,a0,rfl⟩:=H;obtain⟨hx,T,Y,y⟩:=h.h3 c0 a0;have a1:=Y p W;obtain⟨a,b,d⟩:=wR (v:=(s.2.2 p).getD i (0,0)) y.hc y.hd y.he (λh0=>Y _ ((th h W i).2 h0));refine⟨hx,T,λk G=>Y k (pZ W hr G),y.ha,λk G u o=>?_,a,b,d,λk G=>Fu p i v (y.hf k G),λh0=>?_,y.hh,λk h1 h2 h3=>ri (y.hi k h1 h2 h3)⟩
 .by_cases e:k=p
  .subst e;simp only[gl]at o;rcases List.mem_or_eq_of_mem_set o with o|rfl
   .exact y.hb k G u o
   exact⟨hv,λh0=>Y _ (hr h0)⟩
  simp only[fq _ _ _ _ e]at o;exact y.hb k G u o
 have J:=y.hg h0;show(seen c0.m c0.st ((s.2.2 p).getD i (0,0))).2=[];unfold seen;split
 .rename_i hn;have:=(y.last J _).2 (Y _ ((th h W i).2 hn.1));rw[hn.2]at this;cases this
 exact J
theorem yR{kd:Kd}{on:Nat->Bool}{nr n:Nat}{s:St}(h:iZ kd nr n s)(hm:∀p,Reach nr s p->on p=true):iZ ⟨on,none,kd.un,kd.fo+1,kd.cc⟩ nr n s:=by
 have e:∀v,qO kd.on n v->(v.1≠0->Reach nr s v.1)->qO on n v:=by
  intro v Y H;rcases Y with h|⟨W,h2,h3,Z⟩
  .exact Or.inl h
  exact Or.inr ⟨W,h2,hm _ (H (by omega)),Z⟩
 exact⟨λi hi=>e _ (h.h1 i hi) (λo=>jj i hi o),λk G u y=>e _ (h.h2 k G u y) (λo=>iF G y o),λc J=>by cases J⟩
def unit(M:Nat->List V)(on:Nat->Bool)(c:Cy):(Nat->Bool)×Cy:=
 match c.st.getLast? with
 | some p=>(on,AI M c c.st.dropLast p)
 | none=>(kh on c,look c)
theorem nU{M:Nat->List V}{on:Nat->Bool}{c:Cy}{e:List Nat}{p:Nat}(h:c.st=e++[p]):unit M on c=(on,AI M c e p):=by
 unfold unit;rw[h];simp
theorem nV{M:Nat->List V}{on:Nat->Bool}{c:Cy}(h:c.st=[]):unit M on c=(kh on c,look c):=by
 unfold unit;rw[h];rfl
def fI(M:Nat->List V)(n:Nat):Nat->Kd->Kd
 | 0,kd=>kd
 | u+1,kd=>
  match kd.cy with
  | none=>kd
  | some c=>fI M n u (if(unit M kd.on c).2.nx=n then⟨(unit M kd.on c).1,none,kd.un+1,kd.fo,kd.cc+1⟩ else⟨(unit M kd.on c).1,some (unit M kd.on c).2,kd.un+1,kd.fo,kd.cc⟩)
def work(R:Nat->V)(nr:Nat)(M:Nat->List V)(n u:Nat)(kd:Kd):Kd:=
 fI M n u (match kd.cy with|none=>{ kd with cy:=some (begun R nr) }|some _=>kd)
theorem uo{on:Nat->Bool}{n:Nat}{M:Nat->List V}{c:Cy}{T:Nat->Prop}(h:lR on n M c T)(hx:c.nx<n):lR (unit M on c).1 n M (unit M on c).2 T:=by
 rcases List.eq_nil_or_concat c.st with e|⟨i,p,e⟩
 .rw[nV e];exact h.look e hx
 rw[List.concat_eq_append]at e;rw[nU e];exact h.AI e
theorem mK{on:Nat->Bool}{M:Nat->List V}{c:Cy}{p:Nat}(h:(unit M on c).1 p=true):on p=true:=by
 rcases List.eq_nil_or_concat c.st with e|⟨i,q,e⟩
 .rw[nV e]at h;exact iS h
 rw[List.concat_eq_append]at e;rw[nU e]at h;exact h
theorem vB{kd kd':Kd}{nr n:Nat}{s:St}{T:Nat->Prop}(h:iZ kd nr n s)(J:∀p,Reach nr s p->T p)(ho:∀p,T p->kd'.on p=true)(H:∀c,kd'.cy=some c->c.nx<n/\lR kd'.on n s.2.2 c T):iZ kd' nr n s:=by
 have e:∀v,qO kd.on n v->(v.1≠0->Reach nr s v.1)->qO kd'.on n v:=by
  intro v Z W;rcases Z with h|⟨Y,h2,h3,h4⟩
  .exact Or.inl h
  exact Or.inr ⟨Y,h2,ho _ (J _ (W (by omega))),h4⟩
 exact⟨λi hi=>e _ (h.h1 i hi) (λo=>jj i hi o),λk G u y=>e _ (h.h2 k G u y) (λo=>iF G y o),λc h=>⟨(H c h).1,T,J,(H c h).2⟩⟩
theorem ti{kd:Kd}{nr n:Nat}{s:St}(h:iZ kd nr n s)(hn:1<=n):iZ { kd with cy:=some (begun s.2.1 nr) } nr n s:=
 vB (T:=Reach nr s) h (λ_ h=>h) (λ_ i=>(kJ h i).1) (λc e=>by
  have:begun s.2.1 nr=c:=by injection e
  subst this;exact⟨hn,su (kd:=kd) h⟩)
def ki(M:Nat->List V)(n:Nat)(kd:Kd)(c:Cy):Kd:=if(unit M kd.on c).2.nx=n then⟨(unit M kd.on c).1,none,kd.un+1,kd.fo,kd.cc+1⟩ else⟨(unit M kd.on c).1,some (unit M kd.on c).2,kd.un+1,kd.fo,kd.cc⟩
theorem qo{kd:Kd}{nr n:Nat}{s:St}{c:Cy}(h:iZ kd nr n s)(u:kd.cy=some c):iZ (ki s.2.2 n kd c) nr n s:=by
 obtain⟨J,T,G,W⟩:=h.h3 c u;have e:=uo W J;unfold ki;split
 .exact vB (T:=T) h G (λp o=>(e.ha p o).2.2) (λc u=>by cases u)
 rename_i y;refine vB (T:=T) h G (λp o=>(e.ha p o).2.2) (λH i=>?_);have:(unit s.2.2 kd.on c).2=H:=by injection i
 subst this;exact⟨Nat.lt_of_le_of_ne e.hh y,e⟩
theorem sh{M:Nat->List V}{n u:Nat}{kd:Kd}{c:Cy}(h:kd.cy=some c):fI M n (u+1) kd=fI M n u (ki M n kd c):=by
 rw[fI,h];rfl
theorem sj{M:Nat->List V}{n u:Nat}{kd:Kd}(h:kd.cy=none):fI M n u kd=kd:=by
 cases u with
 | zero=>rfl
 | succ u=>rw[fI,h]
end B
section
theorem pU{P:Program}{w:World}{ops:Array Oper}{rest:List Oper}{o:Oper}{a:Act}{Q:Exit->Act->World->Prop}(a6:o.guard=none)(s x:Operand)(t:TypeId)(ho:o.op=.call { callee:=.builtin .append,args:=#[s,x],argTypes:=#[t,t] })(G:Nat)(e:TypeId)(i:TypeInfo)(z:Value)(size bytes:Nat)(ht:P.underlying t=some (.slice e))(hi:P.info? e=some i)(hz:i.zero=some z)(H:i.size=size)(a4:i.bytes=bytes)(a7:z.cells.size=size)(aA:0<size)(g cap:Nat)(n:Nat)(xs:List Value)(hs:a.eval s=.slice (some ⟨g,0,none⟩) n cap)(Z:w.ownsRow G e size (.slice (some ⟨g,0,none⟩) n cap) n xs)(ad:Addr)(m c:Nat)(y:List Value)(hx:a.eval x=.slice (some ad) m c)(hl:y.length=m*size)(W:∀j u,y[j]? = some u->w.cell? (ad.add j)=some u)(h1:∀u∈y,u.oneCell'=true)(a8:n+m<=maxLen)(Y:(n+m)*bytes<=140737488355328)(a0:G<=w.heap.size)(J:n+m<=cap)(h:∀w',w'.ownsRow G e size (.slice (some ⟨g,0,none⟩) (n+m) cap) (n+m) (xs++y)->w.grownBy w' (some g)->wpList P ops Q rest (a.put o.dst (.slice (some ⟨g,0,none⟩) (n+m) cap)) w'):wpList P ops Q (o :: rest) a w:=by
 refine wpList_plain a6 λ_ hK=>?_;obtain⟨v',w',hr,h2,h3,h4⟩:=run_append_own (P:=P) w G t o.type e i z size bytes ht hi hz H a4 a7 aA _ n xs Z ad m c y hl W h1 a8 Y a0;have hv:v'=.slice (some ⟨g,0,none⟩) (n+m) cap:=by
  rcases Z.2 with⟨h,_⟩|⟨g',c',a2,a5,_,a3,aC,aB,a9,_⟩
  .cases h
  cases a5;subst H;have a1:=run_append_room (P:=P) w t o.type e i ht hi g n cap a2 a3 ad m c y hl W h1 J (by rw[hl,a9,<-Nat.add_mul];exact Nat.mul_le_mul_right _ J);rw[hr]at a1;injection a1
 subst hv;unfold Oper.wp execOp;simp only[ho,resolve,invoke,builtin,Sem.run_bind,Sem.run_pure,Result.andThen_ok,List.map_toArray,List.map_cons,List.map_nil,hs,hx,hr];exact hK _ _ (h w' h2 h3)
end
namespace M
def bt(s:ByteArray)(p:Nat):Nat:=(s.data[p]?.getD 0).toNat
def tk(s:ByteArray)(p lo hi:Nat):Bool:=decide (p<s.size/\lo<=bt s p/\bt s p<=hi)
def kd:List (List Nat):=[[114,107,107],[114,114,45],[114,114,114],[114,114,114],[114,114,114],[114,114,114],[114,114,114],[45,116,116],[114,116,116],[114,115,45],[114,114,114],[114,114,114],[114,102,114],[114,114,114],[114,45,45],[114,114,114],[45,45,45],[114,45,45],[114,114,45],[114,45,45],[114,45,45],[114,114,45],[114,45,45]]
def k0(op:Nat):Nat:=(kd.getD op []).getD 0 0
def k1(op:Nat):Nat:=(kd.getD op []).getD 1 0
def k2(op:Nat):Nat:=(kd.getD op []).getD 2 0
def iQ(r f k:Nat):Nat:=if k=114 then r-1 else if k=102 then f-1 else if k=115 then 8 else if k=107 then 255 else 0
def uQ(s:ByteArray)(p l:Nat):Nat×Bool:=
 if s.size<p+2 then(s.size,false) else if l<256*bt s p+bt s (p+1) then(p,false) else(p+2,true)
def rz(s:ByteArray)(p op r f l:Nat):Nat×Bool:=
 if tk s p 0 (iQ r f (k0 op))=true then
  if k1 op=116 then uQ s (p+1) l
  else if tk s (p+1) 0 (iQ r f (k1 op))=true then
   if tk s (p+2) 0 (iQ r f (k2 op))=true then(p+3,true) else(p+2,false)
  else(p+1,false)
 else(p,false)
def ins(s:ByteArray)(p r f l:Nat):Nat×Bool:=
 if tk s p 0 22=true then rz s (p+1) (bt s p) r f l else(p,false)
def code(s:ByteArray)(r f l:Nat):Nat->Nat->Nat×Bool
 | p,0=>(p,true)
 | p,n+1=>if(ins s p r f l).2=true then code s r f l (ins s p r f l).1 n else((ins s p r f l).1,false)
def fn(s:ByteArray)(p f:Nat):Nat×Bool:=
 if tk s p 2 8=true then
  if tk s (p+1) 1 200=true then code s (bt s p) f (bt s (p+1)) (p+2) (bt s (p+1)) else(p+1,false)
 else(p,false)
def fns(s:ByteArray)(f:Nat):Nat->Nat->Nat×Bool
 | p,0=>(p,true)
 | p,n+1=>if(fn s p f).2=true then fns s f (fn s p f).1 n else((fn s p f).1,false)
def jO(s:ByteArray):Nat×Bool:=
 if tk s 0 1 8=true then((fns s (bt s 0) 1 (bt s 0)).1,(fns s (bt s 0) 1 (bt s 0)).2 && decide ((fns s (bt s 0) 1 (bt s 0)).1=s.size)) else(0,false)
def ops(s:ByteArray)(r f l:Nat):List Nat->Nat->Nat×Bool
 | [],q=>(q,true)
 | k :: ks,q=>if k=116 then uQ s q l else if tk s q 0 (iQ r f k)=true then ops s r f l ks (q+1) else(q,false)
theorem tg:∀e,e<23->kd.getD e []=[k0 e,k1 e,k2 e]/\k0 e≠116/\(k1 e≠116->k2 e≠116):=by decide
theorem zO(s:ByteArray)(p op r f l:Nat)(h:op<23):ops s r f l (kd.getD op []) p=rz s p op r f l:=by
 obtain⟨u,o,i⟩:=tg op h;rw[u];unfold rz;simp only[ops,if_neg o];by_cases e:k1 op=116
 .simp only[if_pos e]
 simp only[if_neg e,if_neg (i e)]
theorem my(s:ByteArray)(p:Nat):bt s p<256:=by
 unfold bt;exact UInt8.toNat_lt _
theorem lF(s:ByteArray)(p:Nat)(h:p<s.size):bt s p=(s[p]'h).toNat:=by
 unfold bt;rw[Array.getElem?_eq_getElem h];rfl
theorem fK{s:ByteArray}{p e hi:Nat}(h:tk s p e hi=true):p<s.size/\e<=bt s p/\bt s p<=hi:=by
 simpa[tk] using h
theorem Gz{s:ByteArray}{p l:Nat}(h:p<=s.size):p<=(uQ s p l).1/\(uQ s p l).1<=s.size:=by
 unfold uQ;split
 .exact⟨h,Nat.le_refl _⟩
 split<;>simp<;>omega
theorem CQ{s:ByteArray}{p op r f l:Nat}(h:p<=s.size):p<=(rz s p op r f l).1/\(rz s p op r f l).1<=s.size:=by
 unfold rz;split
 .rename_i o;have:=fK o;split
  .have:=Gz (s:=s) (p:=p+1) (l:=l) (by omega);omega
  split
  .rename_i i;have:=fK i;split
   .rename_i e;have:=fK e;simp;omega
   simp;omega
  simp;omega
 simp;omega
theorem yO{s:ByteArray}{p r f l:Nat}(h:p<=s.size):p<=(ins s p r f l).1/\(ins s p r f l).1<=s.size:=by
 unfold ins;split
 .rename_i e;have:=fK e;have:=CQ (s:=s) (p:=p+1) (op:=bt s p) (r:=r) (f:=f) (l:=l) (by omega);omega
 simp;omega
theorem ry{s:ByteArray}{p op r f l:Nat}(h:(rz s p op r f l).2=true):(rz s p op r f l).1=p+3:=by
 unfold rz at *;by_cases o:tk s p 0 (iQ r f (k0 op))=true
 .rw[if_pos o]at h ⊢;by_cases u:k1 op=116
  .rw[if_pos u]at h ⊢;unfold uQ at *;by_cases i:s.size<p+1+2
   .rw[if_pos i]at h;simp at h
   rw[if_neg i]at h ⊢;by_cases e:l<256*bt s (p+1)+bt s (p+1+1)
   .rw[if_pos e]at h;simp at h
   rw[if_neg e]
  rw[if_neg u]at h ⊢;by_cases i:tk s (p+1) 0 (iQ r f (k1 op))=true
  .rw[if_pos i]at h ⊢;by_cases e:tk s (p+2) 0 (iQ r f (k2 op))=true
   .rw[if_pos e]
   rw[if_neg e]at h;simp at h
  rw[if_neg i]at h;simp at h
 rw[if_neg o]at h;simp at h
theorem vz{s:ByteArray}{p r f l:Nat}(h:(ins s p r f l).2=true):(ins s p r f l).1=p+4:=by
 unfold ins at *;split at h
 .rw[if_pos (by assumption),ry h]
 simp at h
theorem Fy{s:ByteArray}{r f l:Nat}(n:Nat):∀p,p<=s.size->p<=(code s r f l p n).1/\(code s r f l p n).1<=s.size:=by
 induction n with
 | zero=>intro p h;simp[code];exact h
 | succ n e=>
  intro p h;have hi:=yO (s:=s) (p:=p) (r:=r) (f:=f) (l:=l) h;unfold code;split
  .have:=e _ hi.2;omega
  exact hi
theorem JB{s:ByteArray}{p f:Nat}(h:p<=s.size):p<=(fn s p f).1/\(fn s p f).1<=s.size:=by
 unfold fn;split
 .rename_i i;have:=fK i;split
  .rename_i e;have:=fK e;have:=Fy (s:=s) (r:=bt s p) (f:=f) (l:=bt s (p+1)) (bt s (p+1)) (p+2) (by omega);omega
  simp;omega
 simp;omega
def eX(S:ByteArray):List Nat:=S.data.toList.map UInt8.toNat
def KS(op:Nat):ByteArray:=⟨((kd.getD op []).map UInt8.ofNat).toArray⟩
theorem mC:∀e,e<23->eX (KS e)=kd.getD e []/\(KS e).size=3:=by decide
theorem kx(S:ByteArray)(k:Nat)(h:k<S.size):(eX S).drop k=S[k].toNat :: (eX S).drop (k+1):=by
 rw[List.drop_eq_getElem_cons (by simpa[eX] using h)];simp[eX];rfl
theorem qB(S:ByteArray):(eX S).drop S.size=[]:=by
 apply List.drop_of_length_le;simp[eX]
theorem mS(s:ByteArray)(p q i:Nat)(h:q<=s.size)(hi:p+i<q):bt (s.extract p q) i=bt s (p+i):=by
 unfold bt;have:(s.extract p q).data=s.data.extract p q:=by simp
 rw[this,Array.getElem?_extract];have e:q<=s.data.size:=h;rw[if_pos (by omega)]
theorem DL{s:ByteArray}{r f l:Nat}(n:Nat):∀p,(code s r f l p n).2=true->(code s r f l p n).1=p+4*n:=by
 induction n with
 | zero=>intro p _;rfl
 | succ n i=>
  intro p h;unfold code at h ⊢;by_cases e:(ins s p r f l).2=true
  .rw[if_pos e]at h ⊢;rw[i _ h,vz e];omega
  rw[if_neg e]at h;simp at h
theorem tw{s:ByteArray}{p f:Nat}(h:(fn s p f).2=true):(fn s p f).1=p+2+4*bt s (p+1)/\2<=bt s p/\bt s p<=8/\1<=bt s (p+1)/\bt s (p+1)<=200:=by
 unfold fn at *;by_cases i:tk s p 2 8=true
 .rw[if_pos i]at h ⊢;by_cases e:tk s (p+1) 1 200=true
  .rw[if_pos e]at h ⊢;have:=fK i;have:=fK e;refine⟨DL _ _ h,by omega,by omega,by omega,by omega⟩
  rw[if_neg e]at h;simp at h
 rw[if_neg i]at h;simp at h
def pos(s:ByteArray):Nat->Nat
 | 0=>1
 | k+1=>pos s k+2+4*bt s (pos s k+1)
