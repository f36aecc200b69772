import Derived.Test.YtnjiinbhbjpfkaaGreatDoorProg
import Derived.ProofKit
import Derived.IntWalk
import Derived.Test.YtnjiinbhbjpfkaaGreatDoorRows
import Derived.WalkKit
import Derived.WalkSpells
import Derived.WalkLawsBesides
import Derived.BigQuiet
import Derived.BigRegion
import Derived.Deep.QuietTactic
import Derived.Deep.MidRow
import Derived.Deep.RegionLawGrows
import Derived.Deep.DeepCutAuto
import Derived.Laws.ByValue
import Derived.Deep.RegionHeld3
import Derived.Lib.SliceRun
import Derived.LaidEqlPtr
import Derived.Laws.EntriesVeiled
import Derived.Deep.AppendSrc
set_option maxRecDepth 100000
set_option maxHeartbeats 0
set_option linter.all false
namespace Go.Proofs.YtnjiinbhbjpfkaaGreatDoor
open Go.RowKit Go.Proofs.Tryz
section
variable {A:Type}{p:Prop}
abbrev aj(n:Int):Value:=.int .i64 n
abbrev dy(n:Int):Value:=.int .u8 n
abbrev dA(b n c:Nat):Value:=.slice (some ⟨b,0,none⟩) n c
abbrev ay(b i:Nat):Addr:=⟨b,i,none⟩
abbrev dS(w:World)(b i:Nat):Option Value:=w.cell? ⟨b,i,none⟩
abbrev dD(n:Nat)(a:Array Value)(w:World)(v:Value)(Q:World->Prop):Prop:=Calls prog n a w λe w'=>e=.returned v/\Q w'
abbrev eL(n:Nat)(a:Array Value)(w:World)(Q:World->Prop):Prop:=Calls prog n a w λe w'=>e=.returned (.tuple #[])/\Q w'
def du{n:Nat}{a:Array Value}{w:World}{v:Value}{Q:World->Prop}{P:Ending->World->Prop}(h:dD n a w v Q)(k:∀w',Q w'->P (.returned v) w'):Calls prog n a w P:=by
 refine h.mono ?_;rintro e w' ⟨rfl,q⟩;exact k w' q
def eD{c:Prop}[Decidable c]{a b:A}(h:¬c:=by omega):(if c then a else b)=b:=if_neg h
def mm{c:Prop}[Decidable c]{a b:A}(h:c:=by omega):(if c then a else b)=a:=if_pos h
def ML:Nat->Nat->Nat->Prop
 | k,0,i=>i=k
 | k,n+1,i=>i=k\/ML (k+1) n i
theorem Oa:∀(n k i:Nat),k<=i->i<=k+n->ML k n i
 | 0,_,_,h,h'=>by unfold ML;omega
 | n+1,k,i,h,h'=>by
  unfold ML;by_cases e:i=k
  .exact .inl e
  exact .inr (Oa n (k+1) i (by omega) (by omega))
theorem oU(n i:Nat)(h:i<=n):ML 0 n i:=Oa n 0 i (by omega) (by omega)
def ag(h:p:=by omega):p:=h
def ek(h:p:=by decide):p:=h
def im(h:p:=by intro e;cases e):p:=h
def eX(h:p:=by kernel_rfl):p:=h
def mB(h:p:=by first|rfl|simp[Act.eval,Act.put]):p:=h
def fH(h:p:=by simp;omega):p:=h
def eB(h:p:=by simp):p:=h
def pY(h:p:=by unfold maxLen;omega):p:=h
def F1(h:p:=by intro e;injection e;omega):p:=h
def AA(h:p:=by intro e;injection e with _ e;omega):p:=h
def pZ(h:p:=by assumption):p:=h
def xI(h:p:=by simp[Value.oneCell']):p:=h
def iA(h:p:=by go_num):p:=h
def iU{x:Int}(h:(-9223372036854775808<=x/\x<9223372036854775808):=by omega):IntKind.i64.wrap x=x:=IntWalk.i64_in x (by omega)
def eR(h:p:=by grind):p:=h
def fy{q:Prop}(h:q)(e:q->p:=by intro h;simp[World.cell?,h]):p:=e h
def qE{q:Prop}(h:q)(e:q->p:=by intro h;simp[World.frozen?,h]):p:=e h
def gG{q:Prop}(h:q)(e:q->p:=by intro h;simpa using h):p:=e h
def gp{q:Prop}(h:q)(e:q->p:=by intro h;omega):p:=e h
def jx{q:Prop}(h:q)(e:q->p:=by intro h;rw[h];rfl):p:=e h
def kr{q:Prop}(h:q)(e:q->p:=by intro h;rw[h];omega):p:=e h
def eV{r q:Prop}(h:r)(y:q)(e:r->q->p:=by intro h y;rw[h];exact y):p:=e h y
abbrev aa:=@World
variable {e:TypeId}{g i k m:Nat}{o:Obj}{v:Value}{w w' w1 w2:aa}{xs:List Value}
abbrev ab:=@Below.heap_setCell
abbrev af:=@Or.inl
abbrev ah:=@Or.inr
abbrev ak:=@World.grownBy_alloc
abbrev an:=@World.block_lt_of_cell?
abbrev au:=@if_neg
abbrev av:=@Below.heap_alloc
abbrev az:=@World.cell?_of_block
abbrev bf:=@if_pos
abbrev bh:=@And.intro
abbrev bl:=@heap_alloc_new
abbrev bm:=@List.setIfInBounds_toArray
abbrev bq:=@Nat.le_refl
abbrev bz:=@List.getElem?_eq_getElem
abbrev cf:=@List.getElem?_eq_some_iff
abbrev cm:=@List.set_cons_zero
abbrev cn:=@List.set_cons_succ
abbrev cr:=@List.getD_eq_getElem?_getD
abbrev cw:=@List.length_append
abbrev db:=@List.length_eq_zero_iff
abbrev dg:=@bodyPost_ret
abbrev dh:=@Array.getElem?_modify
abbrev dk:=@Nat.zero_le
abbrev dm:=@Nat.lt_of_lt_of_le
abbrev dp:=@absurd
abbrev dr:=@World.frozen?_of_block
abbrev dC:=@Nat.add_sub_cancel
abbrev dH:=@World.cell?_setCell_other
abbrev dK:=@List.getElem?_eq_none
abbrev dN:=@IntWalk.wrap64_in
abbrev dO:=@List.getElem?_take
abbrev dU:=@Nat.le_trans
abbrev dV:=@List.mem_append
abbrev dX:=@beq_eq_false_iff_ne
abbrev ef:=@List.length_map
abbrev eg:=@World.ownsRow_nil
abbrev eh:=@List.mem_of_getElem?
abbrev eA:=@List.length_set
abbrev eI:=@List.length_singleton
abbrev eK:=@List.mem_map
abbrev eM:=@List.mem_append_left
abbrev eO:=@of_decide_eq_true
abbrev eP:=@List.getElem?_map
abbrev eW:=@decide_eq_false
abbrev eY:=@List.length_dropLast
abbrev fg:=@UInt8.toNat_lt
abbrev fk:=@List.getElem?_append_left
abbrev fp:=@decide_eq_true
abbrev fq:=@IntWalk.i64_left
abbrev fI:=@List.mem_range
abbrev fQ:=@Below.refl
abbrev fS:=@List.append_assoc
abbrev fV:=@Prod.ext
abbrev fX:=@List.mem_singleton
abbrev gj:=@funext
abbrev gm:=@List.range_succ
abbrev gR:=@List.map_append
abbrev gS:=@List.append_nil
abbrev gX:=@List.getElem?_range
abbrev iy:=@List.getElem?_append_right
abbrev jd:=@Nat.le_of_lt
abbrev js:=@Int.toNat_natCast
abbrev jG:=@IntWalk.i64_in
abbrev ki:=@Option.some.inj
abbrev kV:=@List.length_replicate
abbrev oI:=@Nat.ne_of_lt
abbrev P0(b:Nat):Value:=.pointer (some ⟨b,0,none⟩)
abbrev Fv(k:Nat)(cap:Array Value):Value:=.func (.func k) #[] cap
theorem aw(w:aa)(row:Option Nat):w.grownBy w row:=⟨rfl,rfl,rfl,bq _,λ_ _ _=>rfl⟩
theorem ar{row:Option Nat}(h:w.grownBy w1 row)(k:w1.grownBy w2 row):w.grownBy w2 row:=
 ⟨k.os.trans h.os,k.tape.trans h.tape,k.output.trans h.output,dU h.size k.size,λi hi e=>(k.block i (dm hi h.size) e).trans (h.block i hi e)⟩
def df{row:Option Nat}(h:w.grownBy w1 row)(n:Nat):w.grownBy (w1.drewN n) row:=⟨h.os,h.tape,h.output,h.size,h.block⟩
theorem bo{row:Option Nat}(h:w.grownBy w1 row):w.grownBy w1.drew row:=⟨h.os,h.tape,h.output,h.size,h.block⟩
theorem ax{row:Option Nat}(h:w.grownBy w1 row)(o:Obj):w.grownBy (w1.alloc o) row:=ar h (ak _ _ _)
theorem bu{row:Option Nat}(h:w.grownBy w1 row){a:Addr}(e:some a.block=row\/w.heap.size<=a.block)(v:Value):w.grownBy (w1.setCell a v) row:=by
 refine⟨h.os,h.tape,h.output,dU h.size (by simp_all),λi hi o=>?_⟩;rw[ab]
 .exact h.block i hi o
 grind
theorem ch{b:Nat}(h:w.heap[b]? = some o):b<w.heap.size:=(Array.getElem?_eq_some_iff.1 h).1
def da{row:Option Nat}(h:w.grownBy w1 row)(e:w.heap[k]? = some o)(i:some k≠row):w1.heap[k]? = some o:=
 (h.block k (ch e) i).trans e
def kN{b:Nat}(h:Below w.heap.size w w'):w.grownBy w' (some b):=⟨h.os,h.tape,h.output,h.size,λk e _=>h.block k e⟩
def Full(w:aa)(g:Nat)(T:TypeId)(n m:Nat)(P:Nat->Value):Prop:=∃cur,w.heap[g]? = some (.cells cur T (0,0))/\cur.size=n/\∀j,j<m->cur[j]? = some (P j)
def jF(w:aa)(g:Nat)(T:TypeId)(n:Nat):Prop:=∃cur,w.heap[g]? = some (.cells cur T (0,0))/\cur.size=n
theorem jF.lt{n:Nat}{T:TypeId}(h:jF w g T n):g<w.heap.size:=by obtain⟨_,h,_⟩:=h;grind
theorem jF.cell{n:Nat}{T:TypeId}(h:jF w g T n)(j:Nat)(o:j<n):(∃v,w.cell? (ay g j)=some v)/\w.frozen? (ay g j)=false:=by
 obtain⟨e,h,u⟩:=h;exact⟨⟨e[j],by grind[World.cell?]⟩,qE h⟩
theorem jF.set{n:Nat}{T:TypeId}(h:jF w g T n)(x o:Nat)(v:Value):jF (w.setCell (ay x o) v) g T n:=by
 obtain⟨i,h,u⟩:=h;by_cases e:g=x
 .subst e;refine⟨i.setIfInBounds o v,?_,eR⟩;simp[World.setCell,dh,h]
 exact⟨i,(ab _ _ _ _ e).trans h,u⟩
def jF.owned{n cap size:Nat}(h:w.ownsRow i e size (dA g n cap) n xs):jF w g e (cap*size):=by
 rcases h.2 with⟨h,_⟩|⟨g',u,o,H,_,G,_,_,y,_⟩
 .cases h
 cases H;exact⟨o,G,y⟩
def Full.zq{n:Nat}{T:TypeId}{P:Nat->Value}(h:Full w g T n m P):jF w g T n:=by obtain⟨e,h,i,_⟩:=h;exact⟨e,h,i⟩
def jF.full{n:Nat}{T:TypeId}(h:jF w g T n)(P:Nat->Value):Full w g T n 0 P:=by obtain⟨e,h,o⟩:=h;exact⟨e,h,o,λj i=>dp i (Nat.not_lt_zero j)⟩
theorem Full.set{n:Nat}{T:TypeId}{P:Nat->Value}(h:Full w g T n m P)(G:m<n):Full (w.setCell (ay g m) (P m)) g T n (m+1) P:=by
 obtain⟨i,h,y,u⟩:=h;refine⟨i.setIfInBounds m (P m),by simp[World.setCell,dh,h],eR,λj o=>?_⟩;grind
theorem Full.block{n:Nat}{T:TypeId}{P:Nat->Value}(h:Full w g T n m P)(i:w'.heap[g]? = w.heap[g]?):Full w' g T n m P:=by
 obtain⟨e,h,r⟩:=h;exact⟨e,i.trans h,r⟩
theorem Full.lt{w:aa}{g n m:Nat}{T:TypeId}{P:Nat->Value}(h:Full w g T n m P):g<w.heap.size:=h.zq.lt
theorem Full.kept{n b:Nat}{T:TypeId}{P:Nat->Value}(h:Full w g T n m P)(i:w.grownBy w' (some b))(o:g≠b):Full w' g T n m P:=
 h.block (i.block g h.lt eR)
theorem Full.cell{n:Nat}{T:TypeId}{P:Nat->Value}(h:Full w g T n m P)(j:Nat)(i:j<m):w.cell? (ay g j)=some (P j):=by
 obtain⟨e,h,_,hP⟩:=h;grind[World.cell?]
def Full.Lt{n:Nat}{T:TypeId}{P:Nat->Value}(h:Full w g T n m P)(u:m+4<=n)(v0 v1 v2 v3:Value)(e0:v0=P m)(o:v1=P (m+1))(i:v2=P (m+2))(e:v3=P (m+3)): Full (w.setCells g m [v0,v1,v2,v3]) g T n (m+4) P:=by
 subst e0 o i e;exact(((h.set ag).set ag).set ag).set ag
def Full.Lu{n:Nat}{T:TypeId}{P:Nat->Value}(h:Full w g T n m P)(i:m+2<=n)(v0 v1:Value)(e0:v0=P m)(e:v1=P (m+1)): Full (w.setCells g m [v0,v1]) g T n (m+2) P:=by
 subst e0 e;exact(h.set ag).set ag
theorem eT{row:Option Nat}(h:w.grownBy w' none):w.grownBy w' row:=⟨h.os,h.tape,h.output,h.size,λk i _=>h.block k i eR⟩
theorem jF.there{n:Nat}{T:TypeId}(h:jF w g T n)(o m:Nat)(y:o+m<=n):w.there g o m:=λj u=>by
 grind[jF.cell]
theorem jF.wO{g n:Nat}{T:TypeId}(x:Nat):∀(e:List Value) (o:Nat) (w:aa),jF w g T n->jF (w.setCells x o e) g T n
 | [],_,_,h=>h
 | v :: r,o,w,h=>jF.wO x r (o+1) (w.setCell (ay x o) v) (h.set x o v)
theorem fJ(x k:Nat)(e:k≠x):∀(i:List Value) (o:Nat) (w:aa),(w.setCells x o i).heap[k]? = w.heap[k]?
 | [],_,_=>rfl
 | v :: r,o,w=>by rw[World.setCells,fJ x k e r];grind[Below.heap_setCell]
theorem iR{row:Option Nat}(g:Nat):∀(e:List Value) (o:Nat) (w w1:aa),w.grownBy w1 row->w.heap.size<=g->w.grownBy (w1.setCells g o e) row
 | [],_,_,_,h,_=>h
 | v :: r,o,w,w1,h,hg=>iR g r (o+1) w (w1.setCell (ay g o) v) (bu h (ah hg) v) hg
theorem uY(h:(w.alloc o).grownBy w' (some w.heap.size)):Below w.heap.size w w':=
 ⟨h.os,h.tape,h.output,by have:=h.size;simp at this;omega,λk i=>(h.block k fH eR).trans (av _ _ _ i)⟩
def ta{W:aa}(e:Below W.heap.size W w1):(∀b o,b<W.heap.size->w1.cell? (ay b o)=W.cell? (ay b o))/\(∀b o,b<W.heap.size->w1.frozen? (ay b o)=W.frozen? (ay b o)):=
 ⟨λb o h=>e.cell (p:=ay b o) h,λb o h=>e.frozen (p:=ay b o) h⟩
theorem uZ(h:w.grownBy w' none):Below w.heap.size w w':=⟨h.os,h.tape,h.output,h.size,λk i=>h.block k i eR⟩
theorem ee{o size n:Nat}(h:w.ownsRow o e size v n xs)(hn:n≠0):∃g cap,v=dA g n cap:=by
 rcases h.2 with⟨_,h⟩|⟨g',i,_,h,_⟩
 .omega
 grind
theorem bd(h:w.grownBy w1 none){a:Addr}(i:a.block<w.heap.size):w1.cell? a=w.cell? a/\w1.frozen? a=w.frozen? a:=
 ⟨az (h.block a.block i eR),dr (h.block a.block i eR)⟩
def jR(w:aa):List (Value×TypeId)->aa
 | []=>w
 | x :: r=>jR (w.alloc (.cells #[x.1] x.2)) r
theorem pt(l:List (Value×TypeId)):∀(w:aa),Below w.heap.size w (jR w l):=by
 induction l with
 | nil=>intro w;exact fQ _ _
 | cons x r e=>intro w;exact((fQ _ _).alloc (bq _) _).trans ((e _).mono eB)
theorem Ah(l:List (Value×TypeId)):∀(w:aa),(jR w l).heap.size=w.heap.size+l.length:=by
 induction l with
 | nil=>intro w;rfl
 | cons x r e=>intro w;rw[jR,e];simp;omega
theorem EH(l:List (Value×TypeId)):∀(w:aa) (k:Nat) (x:Value×TypeId),l[k]? = some x->(jR w l).heap[w.heap.size+k]? = some (.cells #[x.1] x.2 (0,0)):=by
 induction l with
 | nil=>grind
 | cons y r e=>
  intro w k x h
  cases k with
  | zero=>
   simp at h;subst h
   rw[jR];exact((pt r (w.alloc (.cells #[y.1] y.2))).block _ eB).trans (bl w _)
  | succ k=>
   have:=e (w.alloc (.cells #[y.1] y.2)) k x eR;rw[jR];simpa[Nat.add_assoc,Nat.add_comm 1 k] using this
def wS{fn:Func}{p:Tmp}{ty:TypeId}{a:Addr}{P:Program}(h:fn.results=#[.cell p ty])(e:Array Value)(o:e.getD p undef=.pointer (some a))(u:(loadVar ty a).run P w=.ok v w): (results fn e).run P w=.ok v w:=by
 simp[results,h,(gG o),asAddr,u]
theorem nC(g:Nat):∀(e:List Value) (o:Nat) (w:aa),(w.setCells g o e).heap.size=w.heap.size
 | [],_,_=>rfl
 | v :: r,o,w=>by rw[World.setCells,nC g r];simp_all
theorem Co{size n:Nat}(h:w.ownsRow i e size v n xs)(o:Obj):(w.alloc o).ownsRow i e size v n xs:=by
 refine⟨h.1,?_⟩;rcases h.2 with y|⟨g,cap,u,J,y,G,H⟩
 .grind
 exact ah ⟨g,cap,u,J,y,(av _ _ _ (ch G)).trans G,H⟩
def dM(F:Nat->Prop)(w w':aa):Prop:=w'.os=w.os/\w'.tape=w.tape/\w'.output=w.output/\w.heap.size<=w'.heap.size/\∀k,k<w.heap.size->¬F k->w'.heap[k]? = w.heap[k]?
def dw(S:Nat->Prop)(w:aa):dM S w w:=⟨rfl,rfl,rfl,bq _,λ_ _ _=>rfl⟩
theorem dM.size{S:Nat->Prop}(h:dM S w w'):w.heap.size<=w'.heap.size:=h.2.2.2.1
theorem dM.block{S:Nat->Prop}(h:dM S w w')(e:w.heap[k]? = some o)(hS:¬S k):w'.heap[k]? = some o:=(h.2.2.2.2 k (ch e) hS).trans e
theorem dM.same{S:Nat->Prop}(h:dM S w w')(e:k<w.heap.size)(hS:¬S k):w'.heap[k]? = w.heap[k]?:=h.2.2.2.2 k e hS
theorem dM.cell{S:Nat->Prop}(h:dM S w w'){o:Nat}(e:k<w.heap.size)(hS:¬S k):w'.cell? (ay k o)=w.cell? (ay k o):=az (a:=ay k o) (h.same e hS)
def dM.frozen{S:Nat->Prop}(h:dM S w w'){o:Nat}(e:k<w.heap.size)(hS:¬S k):w'.frozen? (ay k o)=w.frozen? (ay k o):=dr (a:=ay k o) (h.same e hS)
theorem dM.trans{S S1:Nat->Prop}{w w1 w2:aa}(h:dM S w w1)(k:dM S1 w1 w2)(hS:∀b,S1 b->b<w.heap.size->S b):dM S w w2:=
 ⟨k.1.trans h.1,k.2.1.trans h.2.1,k.2.2.1.trans h.2.2.1,dU h.size k.size,λb e hn=>(k.2.2.2.2 b (dm e h.size) (λi=>hn (hS b i e))).trans (h.2.2.2.2 b e hn)⟩
theorem dM.mono{S S1:Nat->Prop}(h:dM S w w1)(hS:∀b,S b->b<w.heap.size->S1 b):dM S1 w w1:=
 ⟨h.1,h.2.1,h.2.2.1,h.size,λb e hn=>h.2.2.2.2 b e (λi=>hn (hS b i e))⟩
theorem jB{S:Nat->Prop}{b:Nat}(h:w.grownBy w1 (some b))(o:S b):dM S w w1:=
 ⟨h.os,h.tape,h.output,h.size,λk i hn=>h.block k i eR⟩
theorem ep{S:Nat->Prop}(h:w.grownBy w1 none):dM S w w1:=⟨h.os,h.tape,h.output,h.size,λk i _=>h.block k i eR⟩
def dM.then{S:Nat->Prop}{b:Nat}(h:dM S w w1)(k:w1.grownBy w2 (some b))(e:S b\/w.heap.size<=b):dM S w w2:=
 h.trans (jB (S:=λx=>x=b) k rfl) (λx o i=>e.elim (λe=>o▸e) (λe=>dp i ag))
def dM.iW{S:Nat->Prop}(h:dM S w w1)(k:w1.grownBy w2 none):dM S w w2:=h.trans (ep (S:=S) k) (λ_ e _=>e)
def sq{S:Nat->Prop}(h:dM S w w1):dM S w w1.drew:=h
def uz{S:Nat->Prop}(h:dM S w w1)(n:Nat):dM S w (w1.drewN n):=h
def gP{S:Nat->Prop}(h:dM S w w1)(o:Obj):dM S w (w1.alloc o):=h.iW (ak _ _ _)
def bp{S:Nat->Prop}(h:dM S w w1){a:Addr}(e:S a.block\/w.heap.size<=a.block)(v:Value):dM S w (w1.setCell a v):=
 h.then (b:=a.block) (bu (aw _ _) (af rfl) v) e
def bj{p:Prop}(h:p):Hid p:=h
def eC(P:Nat->Value)(j:Nat)(v:Value):Nat->Value:=λi=>if i=j then v else P i
theorem gO(P:Nat->Value)(j:Nat)(v:Value):eC P j v j=v:=bf rfl
theorem eN(P:Nat->Value)(j i:Nat)(v:Value)(h:i≠j):eC P j v i=P i:=au h
theorem Full.eC{n:Nat}{T:TypeId}{P:Nat->Value}(h:Full w g T n m P)(j:Nat)(v:Value):Full (w.setCell (ay g j) v) g T n m (eC P j v):=by
 obtain⟨o,h,y,u⟩:=h;refine⟨o.setIfInBounds j v,by simp[World.setCell,dh,h],eR,λi hi=>?_⟩;rw[Array.getElem?_setIfInBounds];by_cases e:j=i
 .subst e;have:=u j hi;rw[gO,bf rfl,bf (Array.getElem?_eq_some_iff.1 this).1]
 rw[au e,eN _ _ _ _ (λh=>e h.symm)];grind
theorem Full.off{n x o:Nat}{T:TypeId}{P:Nat->Value}(h:Full w g T n m P)(hx:g≠x):Full (w.setCell (ay x o) v) g T n m P:=h.block (ab _ _ _ _ hx)
theorem Full.cells{n:Nat}{T:TypeId}{P:Nat->Value}(h:Full w g T n m P)(j:Nat)(i:j<m):w.cell? (ay g j)=some (P j)/\w.frozen? (ay g j)=false:=by
 refine⟨h.cell j i,?_⟩;obtain⟨e,h,_⟩:=h;simp[World.frozen?,h]
theorem Full.ne{n g' G m':Nat}{T T':TypeId}{P y:Nat->Value}(h:Full w g T n m P)(e:Full w g' T' G m' y)(u:T≠T'):g≠g':=by
 rintro rfl;obtain⟨o,h,_⟩:=h;obtain⟨i,e,_⟩:=e;grind
theorem Full.congr{n:Nat}{T:TypeId}{P Q:Nat->Value}(h:Full w g T n m P)(hP:∀j,j<m->P j=Q j):Full w g T n m Q:=by
 obtain⟨e,y,u,o⟩:=h;exact⟨e,y,u,λj i=>(o j i).trans eR⟩
end
namespace B
abbrev V:=Nat×Int
abbrev St:=Nat×(Nat->V)×(Nat->List V)
variable {nr:Nat}{s:St}
def set(r:Nat->V)(a:Nat)(v:V):Nat->V:=λi=>if i=a then v else r i
theorem jN(r:Nat->V)(a:Nat)(v:V):set r a v a=v:=if_pos rfl
theorem iX(r:Nat->V)(a i:Nat)(v:V)(h:i≠a):set r a v i=r i:=if_neg h
def lay(m:Nat->List V)(p:Nat)(l:List V):Nat->List V:=λk=>if k=p then l else m k
theorem iB(m:Nat->List V)(p:Nat)(l:List V):lay m p l p=l:=if_pos rfl
theorem gh(m:Nat->List V)(p k:Nat)(l:List V)(h:k≠p):lay m p l k=m k:=if_neg h
def Reach(nr:Nat)(s:St)(p:Nat):Prop:=
 ∀S:Nat->Prop,(∀i,i<nr->(s.2.1 i).1≠0->S (s.2.1 i).1)->(∀k,S k->∀v,v∈s.2.2 k->v.1≠0->S v.1)->S p
theorem kx(i:Nat)(hi:i<nr)(h:(s.2.1 i).1≠0):Reach nr s (s.2.1 i).1:=λ_ e _=>e i hi h
theorem km{k:Nat}(i:Reach nr s k){v:V}(o:v∈s.2.2 k)(h:v.1≠0):Reach nr s v.1:=λS u e=>e k (i S u e) v o h
def wide(b c:Nat):Int:=if 256*b+c<32768 then(256*b+c:Nat) else(256*b+c:Nat)-65536
def wrap(x:Int):Int:=(x+9223372036854775808) % 18446744073709551616-9223372036854775808
theorem EB:∀(l m:List Nat),l.Nodup->(∀x,x∈l->x∈m)->l.length<=m.length:=by
 intro l;induction l with
 | nil=>intro m _ _;simp
 | cons a l G=>
  intro m hn u;have o:=u a eB;have H:=G (m.erase a) (List.nodup_cons.1 hn).2 (λx y=>by
   have i:x≠a:=λe=>(List.nodup_cons.1 hn).1 (e▸y);exact(List.mem_erase_of_ne i).2 (u x (by simp[y])))
  rw[List.length_erase_of_mem o]at H;have:=List.length_pos_of_mem o;simp;omega
theorem xR(n x:Nat):x∈(List.range n).map (· + 1)↔1<=x/\x<=n:=by
 simp only[List.mem_map,List.mem_range];constructor
 .rintro⟨a,h,rfl⟩;omega
 intro h;exact⟨x-1,ag,ag⟩
end B
section
variable {L cb fb i nr rb:Nat}{e:TypeId}{o:Oper}{v:Value}{w:aa}{xs:List Value}
abbrev vA(v:B.V):Value:=.agg #[.int .i64 (v.1:Int),.int .i64 v.2]
def eQ(R:Nat->B.V):Nat->Value:=λj=>if j % 2=0 then .int .i64 ((R (j / 2)).1:Int) else .int .i64 (R (j / 2)).2
def ph(R:Nat->B.V)(i:Nat):eQ R (i*2)=aj ((R i).1:Int):=by simp[eQ,mm]
theorem pf(R:Nat->B.V)(i:Nat):eQ R (i*2+1)=aj (R i).2:=by unfold eQ;grind
def jo(cb L nx rb nr:Nat)(back:Value):Obj:=.cells #[.slice (some ⟨cb,0,none⟩) L L,.int .i64 nx,.slice (some ⟨rb,0,none⟩) nr nr,back] 241 (0,0)
abbrev ed(op a b c fb tb eb:Nat):Value:=.agg #[.int .u8 op,.int .u8 a,.int .u8 b,.int .u8 c,P0 fb,P0 tb,P0 eb]
def ji{nx:Nat}{back:Value}(h:w.heap[fb]? = some (jo cb L nx rb nr back)):w.cell? (ay fb 0)=some (dA cb L L)/\w.cell? (ay fb 1)=some (aj nx)/\w.cell? (ay fb 2)=some (dA rb nr nr)/\w.cell? (ay fb 3)=some back/\w.frozen? (ay fb 1)=false:=by
 simp[World.cell?,World.frozen?,h,jo]
theorem fG(n:Int)(w:aa):dD 61 #[aj n] w (vA (0,n)) λw'=>w'=w.alloc (.cells #[aj 0,aj n] 149):=by
 delta dD;go_in;go_wp2
 refine dg (v:=.agg #[aj 0,aj n]) (by simp[results,results61,go_sem]) rfl ⟨rfl,rfl⟩
theorem oE(v:B.V)(w:aa):Calls prog 198 #[vA v] w λe w'=>e=.returned (.bool (decide (v.1≠0)))/\w.grownBy w' none:=by
 obtain⟨i,G⟩:=v;by_cases h:i=0
 .subst h;go_in;go_wp2_with fail
  go_ret;simp[ak]
 have u:decide (0<i)=true:=fH;have o:decide (i≠0)=true:=gG h;rw[show(i,G).1=i from rfl,o];have y:=bj u;clear h o u;go_in;go_wp2_with fail
 go_ret;refine⟨?_,ak _ _ _⟩;show Ending.returned (Value.bool (decide (0<i)))=_;rw[y.out]
theorem nT(k:Nat)(x:Int)(y:k<=200)(w:aa):dD 201 #[vA (k+1,x)] w (aj k) λw'=>w.grownBy w' none:=by
 have o:(k:Int)+1-1=(k:Int):=ag;have u:IntKind.i64.wrap (k:Int)=k:=by simp[IntKind.wrap,IntKind.bits,IntKind.signed];omega
 delta dD;go_in;go_wp2
 go_ret;simp[ak]
theorem gk(v:B.V)(w:aa):dD 152 #[vA v] w (.tuple #[aj v.2,.bool (decide (v.1=0))]) λw'=>w.grownBy w' none:=by
 have u:=oE v;have Y:(!decide (v.1≠0))=decide (v.1=0):=by by_cases h:v.1=0<;>simp[h]
 obtain⟨c,n⟩:=v;simp only at u Y ⊢;generalize decide (c≠0)=d at *;generalize decide (c=0)=d2 at *;have Z:=bj u;delta dD;go_in;go_wp2_with fail
 generalize H:w.alloc (.cells #[aj c,aj n] 149)=w1;have J:Hid (w.grownBy w1 none):=by rw[<-H];exact ak _ _ _
 have o:w1.heap[w.heap.size]? = some (.cells #[aj c,aj n] 149 (0,0)):=by rw[<-H];exact bl w _
 have c0:dS w1 w.heap.size 0=some (aj c):=fy o;have c1:dS w1 w.heap.size 1=some (aj n):=fy o;have y:=ch o;have HS:Hid (∀w':aa,w1.grownBy w' none->dS w' w.heap.size 0=some (aj c)/\dS w' w.heap.size 1=some (aj n)):=
  λw' W=>⟨(bd W (a:=ay w.heap.size 0) y).1.trans c0,(bd W (a:=ay w.heap.size 1) y).1.trans c1⟩
 go_region_held3 (λw'=>dS w' w.heap.size 0=some (aj c)/\dS w' w.heap.size 1=some (aj n)) (first|exact HS _ (bo (aw _ _))|exact HS _ G) (first|(go_at_call 198;refine du (Z w1.drew) λw2 i=>?_;have G:Hid (w1.grownBy w2 none):=⟨i.os,i.tape,i.output,i.size,i.block⟩;clear i))
 all_goals
  go_wp2
  go_ret2
  exact⟨rfl,ar J G⟩
theorem BF(op a b c fb tb eb cb L nx rb nr:Nat)(back:Value)(R:Nat->B.V)(w:aa)(o:w.heap[fb]? = some (jo cb L nx rb nr back))(i:Full w rb 149 (nr*2) (nr*2) (eQ R))(Z:a<nr): dD 98 #[ed op a b c fb tb eb] w (vA (R a)) λw'=>w.grownBy w' none:=by
 obtain⟨_,_,c2,_,_⟩:=ji o;have G:=i.cell (a*2) ag;have H:=i.cell (a*2+1) ag;rw[ph]at G;rw[pf]at H;have W:=ch o;have Y:=i.lt;have u:fb<w.heap.size+1:=ag
 have y:rb<w.heap.size+1:=ag;have J:(a:Int)<nr:=ag;delta dD;go_in;go_wp2
 go_region
 all_goals
  go_wp2
  refine dg (v:=vA (R a)) (by simp[results,results98,go_sem]) rfl ⟨rfl,?_⟩;grind[aw,bo,ax]
theorem rz(op a b c fb tb eb cb L nx rb nr:Nat)(back:Value)(R:Nat->B.V)(w:aa)(o:w.heap[fb]? = some (jo cb L nx rb nr back))(i:Full w rb 149 (nr*2) (nr*2) (eQ R))(Z:b<nr): dD 86 #[ed op a b c fb tb eb] w (vA (R b)) λw'=>w.grownBy w' none:=by
 obtain⟨_,_,c2,_,_⟩:=ji o;have G:=i.cell (b*2) ag;have H:=i.cell (b*2+1) ag;rw[ph]at G;rw[pf]at H;have W:=ch o;have Y:=i.lt;have u:fb<w.heap.size+1:=ag
 have y:rb<w.heap.size+1:=ag;have J:(b:Int)<nr:=ag;delta dD;go_in;go_wp2
 go_region
 all_goals
  go_wp2
  refine dg (v:=vA (R b)) (by simp[results,results86,go_sem]) rfl ⟨rfl,?_⟩;grind[aw,bo,ax]
theorem sX(op a b c fb tb eb cb L nx rb nr:Nat)(back:Value)(R:Nat->B.V)(w:aa)(o:w.heap[fb]? = some (jo cb L nx rb nr back))(i:Full w rb 149 (nr*2) (nr*2) (eQ R))(Z:c<nr): dD 94 #[ed op a b c fb tb eb] w (vA (R c)) λw'=>w.grownBy w' none:=by
 obtain⟨_,_,c2,_,_⟩:=ji o;have G:=i.cell (c*2) ag;have H:=i.cell (c*2+1) ag;rw[ph]at G;rw[pf]at H;have W:=ch o;have Y:=i.lt;have u:fb<w.heap.size+1:=ag
 have y:rb<w.heap.size+1:=ag;have J:(c:Int)<nr:=ag;delta dD;go_in;go_wp2
 go_region
 all_goals
  go_wp2
  refine dg (v:=vA (R c)) (by simp[results,results94,go_sem]) rfl ⟨rfl,?_⟩;grind[aw,bo,ax]
theorem qP(R:Nat->B.V)(a:Nat)(v:B.V)(j:Nat)(i:j≠a*2)(e:j≠a*2+1):eQ (B.set R a v) j=eQ R j:=by
 grind[eQ,B.iX]
theorem Full.oK{R:Nat->B.V}(h:Full w rb 149 (nr*2) (nr*2) (eQ R))(a:Nat)(v:B.V): Full ((w.setCell (ay rb (a*2)) (aj v.1)).setCell (ay rb (a*2+1)) (aj v.2)) rb 149 (nr*2) (nr*2) (eQ (B.set R a v)):=by
 obtain⟨e,H,G,y⟩:=h;refine⟨(e.setIfInBounds (a*2) (aj v.1)).setIfInBounds (a*2+1) (aj v.2),?_,eR,λj u=>?_⟩
 .simp[World.setCell,dh,H]
 rw[Array.getElem?_setIfInBounds,Array.getElem?_setIfInBounds];by_cases o:a*2+1=j
 .subst o;rw[bf rfl,pf,B.jN];grind
 rw[au o];by_cases i:a*2=j
 .subst i;rw[bf rfl,ph,B.jN];grind
 rw[au i,qP R a v j ag ag];grind
theorem kH(op a b c fb tb eb cb L nx rb nr:Nat)(back:Value)(R:Nat->B.V)(v:B.V)(w:aa)(u:w.heap[fb]? = some (jo cb L nx rb nr back))(o:Full w rb 149 (nr*2) (nr*2) (eQ R))(ha:a<nr): eL 149 #[ed op a b c fb tb eb,vA v] w λw'=>w.grownBy w' (some rb)/\Full w' rb 149 (nr*2) (nr*2) (eQ (B.set R a v)):=by
 obtain⟨_,_,c2,_,_⟩:=ji u;have i:=o.zq;obtain⟨_,z0⟩:=i.cell (a*2) ag;obtain⟨_,Z⟩:=i.cell (a*2+1) ag;have r0:=o.cell (a*2) ag;have r1:=o.cell (a*2+1) ag;have Y:=ch u;have l1:=o.lt;have y:fb<w.heap.size+1:=ag
 have G:rb<w.heap.size+1:=ag
 have H:Hid (Full w rb 149 (nr*2) (nr*2) (eQ R)):=o;generalize eQ R (a*2)=W at *;generalize eQ R (a*2+1)=y1 at *;have J:(a:Int)<nr:=ag
 delta eL;go_in;go_wp2
 go_region
 all_goals
  go_wp2
  go_end0;refine⟨rfl,?_,?_⟩
  .grind[aw,bo,ax,bu]
  refine(H.oK a v).block ?_;show(World.alloc _ _).heap[rb]? = _;grind[Below.heap_alloc,World.setCell]
abbrev yS(op a b c:Nat):Value:=.agg #[.int .u8 op,.int .u8 a,.int .u8 b,.int .u8 c]
theorem C2(fb cb L nx rb nr:Nat)(back:Value)(w:aa)(i:w.heap[fb]? = some (jo cb L nx rb nr back)): dD 185 #[P0 fb] w (.bool (decide (nx=L))) λw'=>w.grownBy w' none:=by
 obtain⟨c0,c1,_,_,_⟩:=ji i;have o:(((nx:Nat):Int) == (L:Int))=decide (nx=L):=by
  by_cases h:nx=L<;>simp[h]
  omega
 generalize decide (nx=L)=d at *;delta dD;go_in;go_wp2
 go_quiet (fail)
 go_wp2
 go_ret;exact⟨rfl,df (aw _ _) _⟩
def ofInt16(a:Nat)(e:a<65536):(BitVec.ofInt 16 (a:Int)).toNat=a:=by
 rw[BitVec.ofInt_natCast,BitVec.toNat_ofNat];exact Nat.mod_eq_of_lt ag
def Nf(b c:Nat)(y:b<256)(u:c<256):bits BinOp.or IntKind.u16 ((b:Int)*256) (c:Int)=((256*b+c:Nat):Int):=by
 have o:b*256 ||| c=256*b+c:=by
  have:=Nat.shiftLeft_add_eq_or_of_lt (i:=8) (b:=c) ag b;rw[Nat.shiftLeft_eq,show(2:Nat) ^ 8=256 from rfl]at this;omega
 have e:((b:Int)*256)=((b*256:Nat):Int):=ag;rw[e];show IntKind.u16.wrap ((BitVec.ofInt 16 ((b*256:Nat):Int) ||| BitVec.ofInt 16 (c:Int)).toNat:Int)=_;rw[BitVec.toNat_or,ofInt16 (b*256) ag,ofInt16 c ag,o];simp[IntKind.wrap,IntKind.bits,IntKind.signed];omega
theorem yA(op a b c:Nat)(o:b<256)(i:c<256)(w:aa):dD 150 #[yS op a b c] w (.int .u16 (256*b+c:Nat)) λw'=>w'=w.alloc (.cells #[dy op,dy a,dy b,dy c] 183):=by
 have u:=Nf b c o i;generalize 256*b+c=x at *;delta dD;go_in;go_wp2
 go_ret;exact⟨rfl,rfl⟩
theorem ub(op a b c:Nat)(y:b<256)(o:c<256)(w:aa):dD 154 #[yS op a b c] w (aj (256*b+c:Nat)) λw'=>w.grownBy w' none:=by
 have i:=yA op a b c y o;have G:256*b+c<65536:=ag
 generalize 256*b+c=x at *;have u:Hid (∀w,dD 150 #[yS op a b c] w (.int .u16 x) λw'=>w'=w.alloc (.cells #[dy op,dy a,dy b,dy c] 183)):=i;delta dD;go_in;go_wp2_with fail
 refine du (u _) ?_;rintro w1 rfl;go_wp2
 go_ret;exact⟨rfl,ax (ak _ _ _) _⟩
theorem yR(op a b c:Nat)(Y:b<256)(G:c<256)(w:aa):dD 85 #[yS op a b c] w (aj (B.wide b c)) λw'=>w.grownBy w' none:=by
 have i:=yA op a b c Y G;have hx:256*b+c<65536:=ag
 have hw:B.wide b c=if 256*b+c<32768 then((256*b+c:Nat):Int) else((256*b+c:Nat):Int)-65536:=rfl
 generalize B.wide b c=y at *;generalize 256*b+c=x at *;have W:Hid (∀w,dD 150 #[yS op a b c] w (.int .u16 x) λw'=>w'=w.alloc (.cells #[dy op,dy a,dy b,dy c] 183)):=i;change Hid _ at hw;clear i;have J:IntKind.i16.wrap (x:Int)=y:=by
  rw[hw.out];split<;>(simp[IntKind.wrap,IntKind.bits,IntKind.signed];omega)
 have H:-32768<=y/\y<=32767:=by rw[hw.out];split<;>omega
 obtain⟨u,Z⟩:=H;delta dD;go_in;go_wp2_with fail
 refine du (W _) ?_;rintro w1 rfl;go_wp2
 go_ret;exact⟨rfl,ax (ak _ _ _) _⟩
def uL{nx:Nat}{back:Value}(h:w.heap[fb]? = some (jo cb L nx rb nr back))(y:Nat):(w.setCell (ay fb 1) (aj y)).heap[fb]? = some (jo cb L y rb nr back):=by
 simp[World.setCell,dh,h,jo]
theorem DG(fb cb L nx rb nr op a b c:Nat)(back:Value)(w:aa)(i:w.heap[fb]? = some (jo cb L nx rb nr back))(y:nx<L)(Z:L<=200)(H:cb<w.heap.size)(k0:w.cell? (ay cb (nx*4))=some (dy op))(k1:w.cell? (ay cb (nx*4+1))=some (dy a))(k2:w.cell? (ay cb (nx*4+2))=some (dy b))(J:w.cell? (ay cb (nx*4+3))=some (dy c)): dD 186 #[P0 fb] w (yS op a b c) λw'=>w.grownBy w' (some fb)/\w'.heap[fb]? = some (jo cb L (nx+1) rb nr back):=by
 obtain⟨c0,c1,_,_,Y⟩:=ji i;have W:=ch i;have o:fb<w.heap.size+1:=ag
 have u:cb<w.heap.size+1:=ag
 have G:Hid (w.heap[fb]? = some (jo cb L nx rb nr back)):=i;have hi:(nx:Int)<L:=ag
 delta dD;go_in;go_wp2
 go_region
 all_goals
  go_wp2
  refine dg (v:=yS op a b c) (by simp[results,results186,go_sem]) rfl ⟨rfl,?_,?_⟩
  .repeat (first|exact aw _ _|refine bo ?_|refine ax ?_ _|refine bu ?_ (af rfl) _|refine bu ?_ (ah eB) _)
  show(World.alloc _ _).heap[fb]? = _;rw[av _ _ _ (by simp[World.setCell];omega),av _ _ _ (by simp[World.setCell];omega)];have:=uL G (nx+1);simpa using this
abbrev Pt(b o:Nat):Value:=.pointer (some ⟨b,o,none⟩)
theorem gL(b o n c:Nat)(ad:Option Addr)(w:aa)(h:w.cell? (ay b o)=some (.slice ad n c)): dD 70 #[Pt b o] w (.bool (decide (n=0))) λw'=>w'=w:=by
 have i:(((n:Nat):Int) == 0)=decide (n=0):=by
  by_cases h:n=0<;>simp[h]
 generalize decide (n=0)=d at *;delta dD;go_in;go_wp2
 go_ret;exact⟨rfl,rfl⟩
theorem pQ(b o n c qb tb:Nat)(w:aa)(h:w.cell? (ay b o)=some (dA qb (n+1) c))(i:w.cell? (ay qb 0)=some (P0 tb)): dD 132 #[Pt b o] w (P0 tb) λw'=>w'=w:=by
 delta dD;go_in;go_wp2
 go_ret;exact⟨rfl,rfl⟩
theorem vT(eb n c:Nat)(ad:Option Addr)(w:aa)(h:w.cell? (ay eb 29)=some (.slice ad n c)): dD 66 #[P0 eb] w (.bool (decide (0<n))) λw'=>w'=w:=by
 delta dD;go_in;go_wp2
 go_ret;exact⟨rfl,rfl⟩
theorem wM(tb:Nat)(w:aa)(h:w.cell? (ay tb 3)=some (.pointer none)): eL 133 #[P0 tb] w λw'=>w'=w:=by
 delta eL;go_in;go_wp2_with fail
 first|go_end0|(simp only[Exit.inBlock,Exit.then];refine dg (results_none rfl _ _ _) rfl ?_)|refine dg (results_none rfl _ _ _) rfl ?_
 exact⟨rfl,rfl⟩
def Tryz.oF:(prog.info? 155).map (λi=>(i.zero,i.size,i.bytes))=some (some (.pointer none),1,8):=by kernel_rfl
def Tryz.Bo:(prog.info? 160).map (λi=>(i.zero,i.size,i.bytes))=some (some (.agg #[aj 0,.slice none 0 0,.bool false,.pointer none,.nilFunc,aj 0,.slice none 0 0]),7,88):=by kernel_rfl
def oJ{P:Program}(w:aa)(t ty e:TypeId)(i:TypeInfo)(ht:P.underlying t=some (.slice e))(hi:P.info? e=some i)(o ad:Option Addr)(n cap c:Nat)(u:n<=cap): (Builtin.append_ #[t,t] ty #[.slice o n cap,.slice ad 0 c]).run P w=.ok (.slice o n cap) w:=by
 cases o<;>cases ad<;>simp[Builtin.append_,Builtin.lenOf,Builtin.firstCells,run_underlying ht,sizeOf,typeInfo,hi,u,loadCells,loadCellsFrom,storeCells]
def ld{P:Program}{ops:Array Oper}{a:Act}{K:Act->aa->Prop}{Q:Exit->Act->aa->Prop}{E:Prop}(Z:o.guard=none)(s x:Operand)(t:TypeId)(G:o.op=Op.call { callee:=Callee.builtin Builtin.append,args:=#[s,x],argTypes:=#[t,t] })(e:TypeId)(i:TypeInfo)(J:P.underlying t=some (.slice e))(Y:P.info? e=some i)(u ad:Option Addr)(n cap c:Nat)(W:a.eval s=.slice u n cap)(hx:a.eval x=.slice ad 0 c)(H:n<=cap)(hK:K (a.put o.dst (.slice u n cap)) w): if Region.wanted o (yielded ops a.tmps)=true then Oper.wp P o a w K Q else E:=by
 rw[bf (by simp[Region.wanted,Z])];unfold Oper.wp;simp[execOp,G,resolve,invoke,builtin,W,hx,oJ (P:=P) w t o.type e i J Y u ad n cap c H,Result.andThen];exact hK
theorem dQ{w':aa}{size n:Nat}(h:w.ownsRow i e size v n xs)(y:∀k,v.ownBlock=some k->w'.heap[k]? = w.heap[k]?):w'.ownsRow i e size v n xs:=by
 refine⟨h.1,?_⟩;rcases h.2 with h|⟨g,cap,o,u,J,H,G⟩
 .exact af h
 exact ah ⟨g,cap,o,u,J,(y g (jx u)).trans H,G⟩
def dP{size n:Nat}(h:w.ownsRow i e size v n xs)(k:Nat)(u:v.ownBlock=some k):i<=k/\k<w.heap.size/\∃o,w.heap[k]? = some (.cells o e (0,0)):=by
 rcases h.2 with⟨h,_⟩|⟨g,cap,o,G,H,y,W⟩
 .rw[h]at u;cases u
 rw[G]at u;have J:g=k:=by injection u
 subst J;exact⟨H,ch y,o,y⟩
def eU{o size n g Y m':Nat}{T:TypeId}{P:Nat->Value}(h:w.ownsRow o e size v n xs)(J:Full w g T Y m' P)(H:T≠e)(k:Nat)(G:v.ownBlock=some k):k≠g:=by
 rintro rfl;obtain⟨_,_,y,i⟩:=dP h k G;obtain⟨u,W,_⟩:=J;rw[W]at i;injection i with i;injection i with _ i _;exact H i
def nO{P:Program}{ops:Array Oper}{rest:List Oper}{a:Act}{Q:Exit->Act->aa->Prop}(a6:o.guard=none)(s x:Operand)(t:TypeId)(ho:o.op=.call { callee:=.builtin .append,args:=#[s,x],argTypes:=#[t,t] })(G:Nat)(e:TypeId)(i:TypeInfo)(z:Value)(size bytes:Nat)(ht:P.underlying t=some (.slice e))(hi:P.info? e=some i)(hz:i.zero=some z)(H:i.size=size)(a4:i.bytes=bytes)(a7:z.cells.size=size)(aA:0<size)(g cap:Nat)(n:Nat)(xs:List Value)(hs:a.eval s=dA g n cap)(Z:w.ownsRow G e size (dA g n cap) n xs)(ad:Addr)(m c:Nat)(y:List Value)(hx:a.eval x=.slice (some ad) m c)(hl:y.length=m*size)(W:∀j u,y[j]? = some u->w.cell? (ad.add j)=some u)(h1:∀u∈y,u.oneCell'=true)(a8:n+m<=maxLen)(Y:(n+m)*bytes<=140737488355328)(a0:G<=w.heap.size)(J:n+m<=cap)(h:∀w',w'.ownsRow G e size (dA g (n+m) cap) (n+m) (xs++y)->w.grownBy w' (some g)->wpList P ops Q rest (a.put o.dst (dA g (n+m) cap)) w'):wpList P ops Q (o :: rest) a w:=by
 refine wpList_plain a6 λ_ hK=>?_;obtain⟨v',w',hr,h2,h3,h4⟩:=run_append_own (P:=P) w G t o.type e i z size bytes ht hi hz H a4 a7 aA _ n xs Z ad m c y hl W h1 a8 Y a0;have hv:v'=dA g (n+m) cap:=by
  rcases Z.2 with⟨h,_⟩|⟨g',c',a2,a5,_,a3,aC,aB,a9,_⟩
  .cases h
  cases a5;subst H;have a1:=run_append_room (P:=P) w t o.type e i ht hi g n cap a2 a3 ad m c y hl W h1 J (by rw[hl,a9,<-Nat.add_mul];exact Nat.mul_le_mul_right _ J);rw[hr]at a1;injection a1
 subst hv;unfold Oper.wp execOp;simp only[ho,resolve,invoke,builtin,Sem.run_bind,Sem.run_pure,Result.andThen_ok,List.map_toArray,List.map_cons,List.map_nil,hs,hx,hr];exact hK _ _ (h w' h2 h3)
end
namespace B
structure Cy where
 m:Nat->Bool
 st:List Nat
 nx:Nat
structure Kd where
 on:Nat->Bool
 cy:Option Cy
 un:Nat
 fo:Nat
 cc:Nat
variable {e u:List Nat}{k nr p:Nat}{m on:Nat->Bool}{v:V}
def G0:Kd:=⟨λ_=>false,none,0,0,0⟩
def sG(on:Nat->Bool)(n:Nat)(v:V):Prop:=v.1=0\/(1<=v.1/\v.1<=n/\on v.1=true/\v.2=0)
def mark(m:Nat->Bool)(p:Nat):Nat->Bool:=λk=>if k=p then true else m k
theorem kh(m:Nat->Bool)(p:Nat):mark m p p=true:=if_pos rfl
theorem fZ(m:Nat->Bool)(p k:Nat)(h:k≠p):mark m p k=m k:=if_neg h
theorem kL(p:Nat)(h:m k=true):mark m p k=true:=by grind[mark]
def free(m:Nat->Bool)(p:Nat):Nat->Bool:=λk=>if k=p then false else m k
theorem tO(m:Nat->Bool)(p:Nat):free m p p=false:=if_pos rfl
theorem y9(m:Nat->Bool)(p k:Nat)(h:k≠p):free m p k=m k:=if_neg h
theorem Hi(h:free m p k=true):m k=true:=by grind[free]
def mU(m:Nat->Bool):Nat->Nat
 | 0=>0
 | n+1=>mU m n+if m (n+1)=true then 0 else 1
theorem ru(m:Nat->Bool)(p:Nat):∀n,n<p->mU (mark m p) n=mU m n
 | 0,_=>rfl
 | n+1,h=>by rw[mU,mU,ru m p n ag,fZ m p _ ag]
theorem zn(m:Nat->Bool)(p:Nat)(o:1<=p)(i:m p=false):∀n,p<=n->mU (mark m p) n+1=mU m n
 | 0,h=>by omega
 | n+1,h=>by
  by_cases e:p=n+1
  .grind[mU,kh,ru,B.mU.eq_2]
  rw[mU,mU,fZ m p _ ag];have:=zn m p o i n ag;omega
theorem xz:∀n,mU (λ_=>false) n=n
 | 0=>rfl
 | n+1=>by rw[mU,xz n];simp
def seen(m:Nat->Bool)(st:List Nat)(v:V):(Nat->Bool)×List Nat:=if v.1≠0/\m v.1=false then(mark m v.1,st++[v.1]) else(m,st)
def ib(m:Nat->Bool)(st:List Nat):List V->(Nat->Bool)×List Nat
 | []=>(m,st)
 | v :: r=>ib (seen m st v).1 (seen m st v).2 r
theorem qs(v:V):∀(l:List V) (m:Nat->Bool) (e:List Nat),ib m e (l++[v])=seen (ib m e l).1 (ib m e l).2 v
 | [],_,_=>rfl
 | u :: l,m,e=>by rw[List.cons_append,ib,qs v l];rfl
def jm(R:Nat->V)(nr:Nat):List V:=(List.range nr).map R
def Ce(R:Nat->V)(j:Nat):jm R (j+1)=jm R j++[R j]:=by simp[jm,List.range_succ]
theorem mH{R:Nat->V}:v∈jm R nr↔∃i,i<nr/\R i=v:=by simp[jm]
theorem DV{n:Nat}(i:v.1≠0->v.1<=n):(seen m e v).2.length+mU (seen m e v).1 n=e.length+mU m n:=by
 unfold seen;split
 .rename_i h;have:=zn m v.1 ag h.2 n (i h.1);grind
 rfl
theorem nQ{n:Nat}:∀(l:List V) (m:Nat->Bool) (e:List Nat),(∀v,v∈l->v.1≠0->v.1<=n)->(ib m e l).2.length+mU (ib m e l).1 n=e.length+mU m n
 | [],_,_,_=>rfl
 | v :: l,m,e,h=>by
  rw[ib,nQ l _ _ (λu i=>h u (List.mem_cons_of_mem _ i))];grind[DV,List.mem_cons_self]
theorem tD(h:m k=true):(seen m e v).1 k=true:=by
 unfold seen;split
 .grind[kL]
 exact h
theorem AQ(h:k∈e):k∈(seen m e v).2:=by
 grind[seen]
theorem wQ(h:v.1≠0):(seen m e v).1 v.1=true:=by
 unfold seen;split
 .grind[kh]
 grind
theorem ug(h:(seen m u v).1 k=true)(o:m k=false):k∈(seen m u v).2/\k=v.1/\v.1≠0:=by
 unfold seen at *;split at h
 .rename_i c;rw[if_pos c];grind[fZ]
 grind
def FU(m:Nat->Bool)(st:List Nat)(rest:List V)(M:Nat->List V)(p:Nat):Prop:=
 ∀S:Nat->Prop,(∀k,m k=true->S k)->(∀k,k∈st->∀v,v∈M k->v.1≠0->S v.1)->(∀v,v∈rest->v.1≠0->S v.1)->(∀k,m k=false->S k->∀v,v∈M k->v.1≠0->S v.1)->S p
theorem Fk{y:List Nat}{rest:List V}{M:Nat->List V}(h:FU m y (v :: rest) M p):FU (seen m y v).1 (seen m y v).2 rest M p:=by
 intro S G H W J;refine h S (λk i=>G k (tD i)) (λk i=>H k (AQ i)) (λu e o=>?_) (λk i hS u e o=>?_)
 .grind[wQ]
 grind[seen,ug]
theorem sA{M:Nat->List V}{p:Nat}:∀(l:List V) (m:Nat->Bool) (e:List Nat),FU m e l M p->FU (ib m e l).1 (ib m e l).2 [] M p
 | [],_,_,h=>h
 | _ :: l,_,_,h=>sA l _ _ (Fk h)
theorem Hr{q:Nat}{M:Nat->List V}(h:FU m (u++[q]) [] M p):FU m u (M q) M p:=by
 intro S J H G y;refine h S J (λk e v i o=>?_) (λv i=>by grind) y;grind
def CW{s:St}(h:Reach nr s p):FU (λ_=>false) [] (jm s.2.1 nr) s.2.2 p:=by
 intro S _ _ u o;exact h S (λi hi y=>u _ (mH.2 ⟨i,hi,rfl⟩) y) (λk e=>o k rfl e)
theorem By{M:Nat->List V}(h:FU m [] [] M p):m p=true:=
 h (λk=>m k=true) (λ_ h=>h) (λk i=>by grind) (λv o=>by grind) (λk u e=>by grind)
theorem Ab{l:List V}{i:Nat}{u:V}(h:u∈l):u∈l.set i v\/u=l.getD i (0,0):=by
 obtain⟨j,o,rfl⟩:=List.getElem_of_mem h;by_cases e:i=j
 .grind
 left
 have:(l.set i v)[j]? = some l[j]:=by rw[List.getElem?_set,if_neg e,List.getElem?_eq_getElem o]
 grind
theorem Hq{H:List Nat}{M:Nat->List V}(a i:Nat)(v:V)(h:FU m H [] M p): FU (seen m H ((M a).getD i (0,0))).1 (seen m H ((M a).getD i (0,0))).2 [] (lay M a ((M a).set i v)) p:=by
 intro S J Y _ h4;have y:∀k u,u∈M k->u∈lay M a ((M a).set i v) k\/u=(M a).getD i (0,0):=by
  intro k u y;by_cases e:k=a
  .grind[iB,Ab]
  rw[gh _ _ _ _ e];exact Or.inl y
 refine h S (λk G=>J k (tD G)) (λk G u W o=>?_) (λv Z=>by grind) (λk G hS u W o=>?_)
 .grind[AQ,wQ]
 grind[seen,ug,wQ]
structure kQ(on:Nat->Bool) (n:Nat) (M:Nat->List V) (c:Cy) (T:Nat->Prop):Prop where
 ha:∀p,T p->1<=p/\p<=n/\on p=true
 hb:∀p,T p->∀v,v∈M p->sG on n v/\(v.1≠0->T v.1)
 hc:∀p,c.m p=true->T p
 hd:∀p,p∈c.st->c.m p=true
 he:c.st.Nodup
 hf:∀p,T p->FU c.m c.st [] M p
 hg:0<c.nx->c.st=[]
 hh:c.nx<=n
 hi:∀p,1<=p->p<=c.nx->on p=true->c.m p=true
theorem yi{i:List Nat}{T:Nat->Prop}(y:∀p,m p=true->T p)(o:∀p,p∈i->m p=true)(he:i.Nodup)(u:v.1≠0->T v.1): (∀p,(seen m i v).1 p=true->T p)/\(∀p,p∈(seen m i v).2->(seen m i v).1 p=true)/\(seen m i v).2.Nodup:=by
 refine⟨λp e=>?_,λp e=>?_,?_⟩
 .cases h:m p
  .obtain⟨_,rfl,J⟩:=ug e h;grind
  grind
 .unfold seen at e ⊢;split at e
  .rename_i c;rw[if_pos c];grind[kL,kh]
  rename_i c;rw[if_neg c];grind
 grind[seen,List.nodup_append]
theorem sf{T:Nat->Prop}:∀(l:List V) (m:Nat->Bool) (e:List Nat),(∀p,m p=true->T p)->(∀p,p∈e->m p=true)->e.Nodup->(∀v,v∈l->v.1≠0->T v.1) -> (∀p,(ib m e l).1 p=true->T p)/\(∀p,p∈(ib m e l).2->(ib m e l).1 p=true)/\(ib m e l).2.Nodup
 | [],_,_,h1,h2,h3,_=>⟨h1,h2,h3⟩
 | v :: l,m,e,h1,h2,h3,h4=>by
  obtain⟨a,b,c⟩:=yi h1 h2 h3 (h4 v (List.mem_cons_self ..));exact sf l _ _ a b c (λu i=>h4 u (List.mem_cons_of_mem _ i))
theorem yj:∀(l:List V) {m:Nat->Bool} {e:List Nat} {k:Nat},m k=true->(ib m e l).1 k=true
 | [],_,_,_,h=>h
 | _ :: l,_,_,_,h=>yj l (tD h)
def BU(M:Nat->List V)(c:Cy)(st:List Nat)(p:Nat):Cy:=⟨(ib c.m st (M p)).1,(ib c.m st (M p)).2,c.nx⟩
def look(c:Cy):Cy:=⟨c.m,c.st,c.nx+1⟩
def ma(on:Nat->Bool)(c:Cy):Nat->Bool:=if c.m (c.nx+1)=true then on else free on (c.nx+1)
theorem jP{c:Cy}(h:ma on c p=true):on p=true:=by
 unfold ma at h;grind[Hi]
theorem AK{c:Cy}(h:c.m p=true):ma on c p=on p:=by
 unfold ma;grind[y9]
theorem DI{c:Cy}(h:ma on c (c.nx+1)=true):c.m (c.nx+1)=true:=by
 unfold ma at h;grind[tO]
section
variable {on:Nat → Bool}{n:Nat}{M:Nat → List V}{c:Cy}{T:Nat → Prop}
theorem kQ.len(h:kQ on n M c T):c.st.length<=n:=by
 have:=EB c.st ((List.range n).map (· + 1)) h.he (λx e=>by
  rw[xR];have:=h.ha x (h.hc x (h.hd x e));omega)
 grind
theorem A9(m:Nat->Bool):∀n,(((List.range n).map (· + 1)).filter m).length+mU m n=n
 | 0=>rfl
 | n+1=>by
  have:=A9 m n;grind[List.range_succ,List.length_append,mU,B.mU.eq_2]
theorem kQ.sum(h:kQ on n M c T):c.st.length+mU c.m n<=n:=by
 have i:=EB c.st (((List.range n).map (· + 1)).filter c.m) h.he (λx e=>by
  grind[xR,B.kQ.ha,B.kQ.hc,B.kQ.hd])
 grind[A9]
theorem kQ.BU{i:List Nat}{p:Nat}(h:kQ on n M c T)(e:c.st=i++[p]):kQ on n M (BU M c i p) T:=by
 have hn:=h.he;rw[e,List.nodup_append]at hn;obtain⟨a,b,d⟩:=sf (T:=T) (M p) c.m i h.hc (λk o=>h.hd k eR) hn.1 (λv y u=>(h.hb p (h.hc p (h.hd p eR)) v y).2 u);refine⟨h.ha,h.hb,a,b,d,λk o=>?_,λu=>?_,h.hh,λk W J H=>?_⟩
 .have:=h.hf k o;rw[e]at this;exact sA (M p) c.m i (Hr this)
 .have:=h.hg u;grind
 have:=h.hi k W J H;exact yj _ this
theorem kQ.look(h:kQ on n M c T)(H:c.st=[])(hn:c.nx<n):kQ (ma on c) n M (look c) T:=by
 have G:=λp i=>by
  have:=h.hf p i;rw[H]at this;exact By this
 have Y:∀v,sG on n v->(v.1≠0->T v.1)->sG (ma on c) n v:=by
  rintro v (o|⟨o,y,u,Z⟩) W
  .exact Or.inl o
  exact Or.inr ⟨o,y,by grind[AK],Z⟩
 refine⟨λp i=>?_,λp i v hm=>?_,h.hc,h.hd,h.he,h.hf,λ_=>H,hn,λp o y u=>?_⟩
 .obtain⟨a,b,d⟩:=h.ha p i;grind[AK]
 .have:=h.hb p i v hm;grind
 by_cases e:p=c.nx+1
 .subst e;exact DI u
 have J:p<=c.nx+1:=y;exact h.hi p o ag (jP u)
theorem kQ.last(h:kQ on n M c T)(e:c.st=[])(p:Nat):c.m p=true↔T p:=
 ⟨h.hc p,λi=>by have:=h.hf p i;grind[By]⟩
end
def begun(R:Nat->V)(nr:Nat):Cy:=⟨(ib (λ_=>false) [] (jm R nr)).1,(ib (λ_=>false) [] (jm R nr)).2,0⟩
structure jO(kd:Kd) (nr n:Nat) (s:St):Prop where
 h1:∀i,i<nr->sG kd.on n (s.2.1 i)
 h2:∀p,Reach nr s p->∀v,v∈s.2.2 p->sG kd.on n v
 h3:∀c,kd.cy=some c->c.nx<n/\∃T,(∀p,Reach nr s p->T p)/\kQ kd.on n s.2.2 c T
theorem mI{kd:Kd}{nr n:Nat}{s:St}(h:jO kd nr n s){p:Nat}(J:Reach nr s p):kd.on p=true/\1<=p/\p<=n:=by
 have:=J (λp=>Reach nr s p/\kd.on p=true/\1<=p/\p<=n) (λi hi o=>?_) (λk G v H o=>?_)
 .grind
 .rcases h.h1 i hi with e|⟨e,y,u,_⟩
  .omega
  grind[kx]
 rcases h.h2 k G.1 v H with e|⟨e,y,u,_⟩
 .omega
 grind[km]
theorem ue{kd:Kd}{nr n:Nat}{s:St}(h:jO kd nr n s):kQ kd.on n s.2.2 (begun s.2.1 nr) (Reach nr s):=by
 obtain⟨a,b,d⟩:=sf (T:=Reach nr s) (jm s.2.1 nr) (λ_=>false) [] (λp h=>by cases h) (λp h=>by grind) eB (λv u o=>by
  grind[kx,B.mH])
 refine⟨λp e=>?_,λp e v u=>⟨h.h2 p e v u,λo=>km e u o⟩,a,b,d,λp e=>sA _ _ _ (CW e),λo=>absurd o (Nat.lt_irrefl 0),Nat.zero_le _,λp H G=>by have y:p<=0:=G;omega⟩;have:=mI h e;grind
end B
section
variable {e:TypeId}{o:Oper}{w:aa}{xs:List Value}
def gd(w:aa)(e:TypeId)(v:Value)(xs:List Value):Prop:=
 (v=.slice none 0 0/\xs=[]) \/
 ∃g off cap n P,v=.slice (some ⟨g,off,none⟩) xs.length cap/\xs.length<=cap/\cap<=maxLen/\off+cap<=n/\Full w g e n (off+xs.length) P/\∀j u,xs[j]? = some u->P (off+j)=u
theorem gd.lt{w:aa}{e:TypeId}{v:Value}{xs:List Value}(h:gd w e v xs):∀k,v.ownBlock=some k->k<w.heap.size:=by
 intro k i;rcases h with⟨rfl,_⟩|⟨g,off,cap,n,P,rfl,_,_,_,o,_⟩
 .simp[Value.ownBlock]at i
 simp[Value.ownBlock]at i;subst i;exact o.lt
theorem gd.block{w w':aa}{e:TypeId}{v:Value}{xs:List Value}(h:gd w e v xs)(u:∀k,v.ownBlock=some k->w'.heap[k]? = w.heap[k]?):gd w' e v xs:=by
 rcases h with h|⟨g,off,cap,n,P,rfl,o,G,y,i,hP⟩
 .exact af h
 exact ah ⟨g,off,cap,n,P,rfl,o,G,y,i.block (u g rfl),hP⟩
theorem gd.cell{w:aa}{e:TypeId}{g off len cap:Nat}{xs:List Value}(h:gd w e (.slice (some (ay g off)) len cap) xs):len=xs.length/\∀j u,xs[j]? = some u->w.cell? (ay g (off+j))=some u:=by
 rcases h with⟨h,_⟩|⟨g',H,G,n,P,h,h1,h2,h3,J,hP⟩
 .cases h
 grind[Nat.lt_or_ge,List.getElem?_eq_none,Full.cell]
def gd.nil(w:aa)(e:TypeId):gd w e (.slice none 0 0) []:=af ⟨rfl,rfl⟩
theorem gd.pop{ad:Option Addr}{cap:Nat}{x:Value}(h:gd w e (.slice ad (xs.length+1) cap) (xs++[x])): ∃g off,ad=some (ay g off)/\g<w.heap.size/\xs.length+1<=cap/\w.cell? (ay g (off+xs.length))=some x/\gd w e (.slice ad xs.length cap) xs:=by
 rcases h with⟨_,h⟩|⟨g,off,J,n,P,h,Y,h2,h3,i,hP⟩
 .grind
 injection h with a b c;subst a c;simp only[cw,eI]at Y i;refine⟨g,off,rfl,i.lt,Y,?_,ah ⟨g,off,cap,n,P,rfl,ag,h2,h3,?_,λj u y=>hP j u ?_⟩⟩
 .grind[Full.cell]
 .obtain⟨o,f1,f2,Z⟩:=i;exact⟨o,f1,f2,λj W=>Z j ag⟩
 grind
theorem gd.ty{v:Value}(h:gd w e v xs)(k:Nat)(o:v.ownBlock=some k):∃i,w.heap[k]? = some (.cells i e (0,0)):=by
 rcases h with⟨rfl,_⟩|⟨g,off,cap,n,P,rfl,_,_,_,⟨i,u,_⟩,_⟩
 .simp[Value.ownBlock]at o
 grind[Value.ownBlock]
theorem wR{P:Program}(w:aa)(t ty e:TypeId)(i:TypeInfo)(z:Value)(bytes:Nat)(ht:P.underlying t=some (.slice e))(hi:P.info? e=some i)(hz:i.zero=some z)(H:i.size=1)(a8:i.bytes=bytes)(a7:z.cells.size=1)(v:Value)(xs:List Value)(hq:gd w e v xs)(ad:Addr)(c:Nat)(y:Value)(hy:w.cell? ad=some y)(h1:y.oneCell'=true)(hm:xs.length+1<=maxLen)(Y:(xs.length+1)*bytes<=140737488355328): ∃g off cap w',(Builtin.append_ #[t,t] ty #[v,.slice (some ad) 1 c]).run P w=.ok (.slice (some (ay g off)) (xs.length+1) cap) w'/\gd w' e (.slice (some (ay g off)) (xs.length+1) cap) (xs++[y])/\w.grownBy w' v.ownBlock/\(v.ownBlock=some g\/g=w.heap.size):=by
 have a0:∀j u,[y][j]? = some u->w.cell? (ad.add j)=some u:=by
  intro j u o;match j,o with
  | 0,o=>grind[Addr.add]
 have hs:Src P i.size t (.slice (some ad) 1 c) 1 [y] w:=Src.ofSlice w ht ad 1 c [y] eR a0 eR;have grown:∀(b:Option Addr) (G:Nat),v=.slice b xs.length G->G<xs.length+1->(∀j u,xs[j]? = some u->∃a,b=some a/\w.cell? (a.add j)=some u)->∃g off cap w',(Builtin.append_ #[t,t] ty #[v,.slice (some ad) 1 c]).run P w=.ok (.slice (some (ay g off)) (xs.length+1) cap) w'/\gd w' e (.slice (some (ay g off)) (xs.length+1) cap) (xs++[y])/\w.grownBy w' v.ownBlock/\(v.ownBlock=some g\/g=w.heap.size):=by
  intro b G hv ho hc;subst hv;have a4:(Builtin.firstCells i.size xs.length (.slice b xs.length G)).run P w.drew=.ok xs.toArray w.drew:=by
   match b,hc with
   | none,hc=>
    have hx:xs=[]:=by
     cases xs with
     | nil=>rfl
     | cons a l=>obtain⟨_,h,_⟩:=hc 0 a rfl;cases h
    grind[run_firstCells_none]
   | some a,hc=>exact run_firstCells_some w.drew i.size xs.length a xs.length G xs eR (λj u o=>by simp_all)
  have hr:=run_append_grow_src (P:=P) w t t ty e i z ht hi hz b xs.length G xs a4 _ 1 [y] hs ho (by grind[maxLen]) (by rw[a8];exact growslice_fits ho Y);have Z:=grownCap_ge w (xs.length+1) G e;have a2:=grownCap_le_maxLen w (xs.length+1) G e hm;refine⟨_,_,_,_,hr,ah ⟨w.heap.size,0,_,grownCap w (xs.length+1) G e,λj=>(xs++[y]).getD j y,eB,eR,a2,ag,⟨_,bl w.drew _,?_,λj J=>?_⟩,λj u o=>?_⟩,⟨rfl,rfl,rfl,eB,λk hk _=>Go.heap_alloc_old w.drew _ hk⟩,ah rfl⟩
  .simp only[Array.size_append,List.size_toArray,size_zeroCells,a7,cw,List.length_cons,List.length_nil];omega
  .grind
  show(xs++[y]).getD (0+j) y=u;rw[Nat.zero_add,cr,o];rfl
 rcases hq with⟨rfl,rfl⟩|⟨g,off,cap,n,Q,rfl,aB,a2,hn,hF,hP⟩
 .grind
 by_cases W:xs.length+1<=cap
 .have hk:off+xs.length<n:=ag;have a3:=(hF.congr (Q:=eC Q (off+xs.length) y) (λj J=>(eN _ _ _ _ ag).symm)).set hk;rw[gO]at a3;obtain⟨aA,hh,a5,_⟩:=hF;have hr:=run_append_room_src (P:=P) w t t ty e i ht hi g off xs.length cap _ 1 [y] hs W (by
   intro j J;simp at J;subst J
   rw[H,Nat.mul_one,Nat.add_zero];grind[World.cell?]) (by
   grind[World.frozen?])
  rw[H,Nat.mul_one]at hr;refine⟨g,off,cap,_,hr,ah ⟨g,off,cap,n,eC Q (off+xs.length) y,eB,eR,a2,hn,?_,λj u o=>?_⟩,?_,af rfl⟩
  .rw[cw];exact a3
  .grind[List.getElem?_append_left,eN,List.getElem?_append_right,Nat.lt_or_ge,List.getElem?_eq_none,gO]
  exact bu (a:=ay g (off+xs.length)) (aw _ _) (af rfl) y
 refine grown (some (ay g off)) cap rfl ag (λj u o=>⟨_,rfl,?_⟩);have J:j<xs.length:=by
  rcases Nat.lt_or_ge j xs.length with a6|Z
  .exact a6
  rw[dK Z]at o;cases o
 have:=hF.cell (off+j) ag;rw[hP j u o]at this;rw[Addr.add_lit];exact this
theorem sI{P:Program}(w:aa){a:Act}{K:Act->aa->Prop}{Q:Exit->Act->aa->Prop}(s x:Operand)(t:TypeId)(ho:o.op=.call { callee:=.builtin .append,args:=#[s,x],argTypes:=#[t,t] })(e:TypeId)(i:TypeInfo)(z:Value)(bytes:Nat)(ht:P.underlying t=some (.slice e))(hi:P.info? e=some i)(hz:i.zero=some z)(G:i.size=1)(H:i.bytes=bytes)(J:z.cells.size=1)(v:Value)(xs:List Value)(hs:a.eval s=v)(hq:gd w e v xs)(ad:Addr)(c:Nat)(y:Value)(hx:a.eval x=.slice (some ad) 1 c)(Y:w.cell? ad=some y)(Z:y.oneCell'=true)(hm:xs.length+1<=maxLen)(u:(xs.length+1)*bytes<=140737488355328)(h:∀g off cap w',gd w' e (.slice (some (ay g off)) (xs.length+1) cap) (xs++[y])->w.grownBy w' v.ownBlock->(v.ownBlock=some g\/g=w.heap.size)->K (a.put o.dst (.slice (some (ay g off)) (xs.length+1) cap)) w'):o.wp P a w K Q:=by
 obtain⟨g,off,cap,w',W,h2,h3,h4⟩:=wR (P:=P) w t o.type e i z bytes ht hi hz G H J v xs hq ad c y Y Z hm u;unfold Oper.wp execOp;simp only[ho,resolve,invoke,builtin,Sem.run_bind,Sem.run_pure,Result.andThen_ok,List.map_toArray,List.map_cons,List.map_nil,hs,hx,W];exact h g off cap w' h2 h3 h4
def jf{P:Program}(w:aa){ops:Array Oper}{rest:List Oper}{a:Act}{Q:Exit->Act->aa->Prop}(J:o.guard=none)(s x:Operand)(t:TypeId)(ho:o.op=.call { callee:=.builtin .append,args:=#[s,x],argTypes:=#[t,t] })(e:TypeId)(i:TypeInfo)(z:Value)(bytes:Nat)(ht:P.underlying t=some (.slice e))(hi:P.info? e=some i)(hz:i.zero=some z)(G:i.size=1)(H:i.bytes=bytes)(W:z.cells.size=1)(v:Value)(xs:List Value)(hs:a.eval s=v)(hq:gd w e v xs)(ad:Addr)(c:Nat)(y:Value)(hx:a.eval x=.slice (some ad) 1 c)(Y:w.cell? ad=some y)(Z:y.oneCell'=true)(hm:xs.length+1<=maxLen)(u:(xs.length+1)*bytes<=140737488355328)(h:∀g off cap w',gd w' e (.slice (some (ay g off)) (xs.length+1) cap) (xs++[y])->w.grownBy w' v.ownBlock->(v.ownBlock=some g\/g=w.heap.size)->wpList P ops Q rest (a.put o.dst (.slice (some (ay g off)) (xs.length+1) cap)) w'):wpList P ops Q (o :: rest) a w:=
 wpList_plain J λ_ hK=>sI w s x t ho e i z bytes ht hi hz G H W v xs hs hq ad c y hx Y Z hm u λg off cap w' h2 h3 h4=>hK _ _ (h g off cap w' h2 h3 h4)
theorem lI{P:Program}(w:aa){ops:Array Oper}{a:Act}{K:Act->aa->Prop}{Q:Exit->Act->aa->Prop}{E:Prop}(J:o.guard=none)(s x:Operand)(t:TypeId)(ho:o.op=.call { callee:=.builtin .append,args:=#[s,x],argTypes:=#[t,t] })(e:TypeId)(i:TypeInfo)(z:Value)(bytes:Nat)(ht:P.underlying t=some (.slice e))(hi:P.info? e=some i)(hz:i.zero=some z)(G:i.size=1)(H:i.bytes=bytes)(W:z.cells.size=1)(v:Value)(xs:List Value)(hs:a.eval s=v)(hq:gd w e v xs)(ad:Addr)(c:Nat)(y:Value)(hx:a.eval x=.slice (some ad) 1 c)(Y:w.cell? ad=some y)(Z:y.oneCell'=true)(hm:xs.length+1<=maxLen)(u:(xs.length+1)*bytes<=140737488355328)(h:∀g off cap w',gd w' e (.slice (some (ay g off)) (xs.length+1) cap) (xs++[y])->w.grownBy w' v.ownBlock->(v.ownBlock=some g\/g=w.heap.size)->K (a.put o.dst (.slice (some (ay g off)) (xs.length+1) cap)) w'): if Region.wanted o (yielded ops a.tmps)=true then Oper.wp P o a w K Q else E:=by
 rw[bf (by simp[Region.wanted,J])];grind[sI]
end
namespace B
variable {nr p:Nat}{on:Nat->Bool}{s:St}{v:V}
def sG.up{e:Nat->Bool}{n:Nat}(h:sG on n v)(i:∀k,on k=true->e k=true):sG e n v:=by
 rcases h with h|⟨G,y,u,o⟩
 .exact Or.inl h
 exact Or.inr ⟨G,y,i _ u,o⟩
theorem EY{kd:Kd}{e n:Nat}{s':St}(h:jO kd nr n s)(y:s'.2.2=s.2.2)(u:∀p,Reach e s' p->Reach nr s p)(J:∀i,i<e->sG kd.on n (s'.2.1 i)):jO kd e n s':=
 ⟨J,λp o v Z=>h.h2 p (u p o) v (by simp_all),λc G=>by
  obtain⟨H,T,Y,W⟩:=h.h3 c G;grind⟩
theorem uH{kd:Kd}{n:Nat}(h:jO kd nr n s)(e:Reach nr s p)(i:Nat):sG kd.on n ((s.2.2 p).getD i (0,0))/\(((s.2.2 p).getD i (0,0)).1≠0->Reach nr s ((s.2.2 p).getD i (0,0)).1):=by
 by_cases hi:i<(s.2.2 p).length
 .grind[List.getElem?_eq_getElem,List.getElem_mem,km,B.jO.h2]
 rw[List.getD_eq_getElem?_getD,List.getElem?_eq_none ag];exact⟨Or.inl rfl,λh=>absurd rfl h⟩
def told(kd:Kd)(v:V):Kd:={ kd with cy:=kd.cy.map (λc=>⟨(seen c.m c.st v).1,(seen c.m c.st v).2,c.nx⟩) }
def laid(kd:Kd)(p:Nat):Kd:={ kd with on:=mark kd.on p,cy:=kd.cy.map (λc=>⟨mark c.m p,c.st,c.nx⟩) }
theorem sh{x i:Nat}(W:Reach nr s p)(J:v.1≠0->Reach nr s v.1){k:Nat}(H:Reach nr (x,s.2.1,lay s.2.2 p ((s.2.2 p).set i v)) k):Reach nr s k:=by
 refine H (Reach nr s) (λi hi y=>kx i hi y) (λj G u o y=>?_);grind[iB,List.mem_or_eq_of_mem_set,km,gh]
theorem EZ{kd:Kd}{n:Nat}(h:jO kd nr n s)(x p i:Nat)(v:V)(W:Reach nr s p)(hv:sG kd.on n v)(hr:v.1≠0->Reach nr s v.1): jO (told kd ((s.2.2 p).getD i (0,0))) nr n (x,s.2.1,lay s.2.2 p ((s.2.2 p).set i v)):=by
 refine⟨h.h1,λk G u o=>?_,λc hc=>?_⟩
 .have Z:=sh W hr G;by_cases e:k=p
  .subst e;simp only[iB]at o;rcases List.mem_or_eq_of_mem_set o with o|rfl
   .exact h.h2 k Z u o
   exact hv
  simp only[gh _ _ _ _ e]at o;exact h.h2 k Z u o
 have H:kd.cy.map (λc:Cy=>(⟨(seen c.m c.st ((s.2.2 p).getD i (0,0))).1,(seen c.m c.st ((s.2.2 p).getD i (0,0))).2,c.nx⟩:Cy))=some c:=hc;rw[Option.map_eq_some_iff]at H;obtain⟨c0,a0,rfl⟩:=H;obtain⟨hx,T,Y,y⟩:=h.h3 c0 a0;have a1:=Y p W;obtain⟨a,b,d⟩:=yi (v:=(s.2.2 p).getD i (0,0)) y.hc y.hd y.he (λh0=>Y _ ((uH h W i).2 h0));refine⟨hx,T,λk G=>Y k (sh W hr G),y.ha,λk G u o=>?_,a,b,d,λk G=>Hq p i v (y.hf k G),λh0=>?_,y.hh,λk h1 h2 h3=>tD (y.hi k h1 h2 h3)⟩
 .by_cases e:k=p
  .subst e;simp only[iB]at o;rcases List.mem_or_eq_of_mem_set o with o|rfl
   .exact y.hb k G u o
   exact⟨hv,λh0=>Y _ (hr h0)⟩
  simp only[gh _ _ _ _ e]at o;exact y.hb k G u o
 grind[seen,uH,B.kQ.hg,B.kQ.last]
def Aq{kd:Kd}{n:Nat}(h:jO kd nr n s)(hm:∀p,Reach nr s p->on p=true):jO ⟨on,none,kd.un,kd.fo+1,kd.cc⟩ nr n s:=by
 have e:∀v,sG kd.on n v->(v.1≠0->Reach nr s v.1)->sG on n v:=by
  intro v Y H;rcases Y with h|⟨W,h2,h3,Z⟩
  .exact Or.inl h
  exact Or.inr ⟨W,h2,hm _ (H ag),Z⟩
 exact⟨λi hi=>e _ (h.h1 i hi) (λo=>kx i hi o),λk G u y=>e _ (h.h2 k G u y) (λo=>km G y o),λc J=>by cases J⟩
def unit(M:Nat->List V)(on:Nat->Bool)(c:Cy):(Nat->Bool)×Cy:=
 match c.st.getLast? with
 | some p=>(on,BU M c c.st.dropLast p)
 | none=>(ma on c,look c)
theorem pC{M:Nat->List V}{c:Cy}{e:List Nat}(h:c.st=e++[p]):unit M on c=(on,BU M c e p):=by
 grind[unit]
theorem pD{M:Nat->List V}{c:Cy}(h:c.st=[]):unit M on c=(ma on c,look c):=by
 grind[unit]
def gw(M:Nat->List V)(n:Nat):Nat->Kd->Kd
 | 0,kd=>kd
 | u+1,kd=>
  match kd.cy with
  | none=>kd
  | some c=>gw M n u (if(unit M kd.on c).2.nx=n then⟨(unit M kd.on c).1,none,kd.un+1,kd.fo,kd.cc+1⟩ else⟨(unit M kd.on c).1,some (unit M kd.on c).2,kd.un+1,kd.fo,kd.cc⟩)
def work(R:Nat->V)(nr:Nat)(M:Nat->List V)(n u:Nat)(kd:Kd):Kd:=
 gw M n u (match kd.cy with|none=>{ kd with cy:=some (begun R nr) }|some _=>kd)
theorem vM{n:Nat}{M:Nat->List V}{c:Cy}{T:Nat->Prop}(h:kQ on n M c T)(hx:c.nx<n):kQ (unit M on c).1 n M (unit M on c).2 T:=by
 rcases List.eq_nil_or_concat c.st with e|⟨i,p,e⟩
 .grind[pD,B.kQ.look]
 rw[List.concat_eq_append]at e;rw[pC e];exact h.BU e
theorem ow{M:Nat->List V}{c:Cy}(h:(unit M on c).1 p=true):on p=true:=by
 rcases List.eq_nil_or_concat c.st with e|⟨i,q,e⟩
 .rw[pD e]at h;grind[jP]
 rw[List.concat_eq_append]at e;rw[pC e]at h;exact h
def xj{kd kd':Kd}{n:Nat}{T:Nat->Prop}(h:jO kd nr n s)(J:∀p,Reach nr s p->T p)(ho:∀p,T p->kd'.on p=true)(H:∀c,kd'.cy=some c->c.nx<n/\kQ kd'.on n s.2.2 c T):jO kd' nr n s:=by
 have e:∀v,sG kd.on n v->(v.1≠0->Reach nr s v.1)->sG kd'.on n v:=by
  intro v Z W;rcases Z with h|⟨Y,h2,h3,h4⟩
  .exact Or.inl h
  exact Or.inr ⟨Y,h2,ho _ (J _ (W ag)),h4⟩
 exact⟨λi hi=>e _ (h.h1 i hi) (λo=>kx i hi o),λk G u y=>e _ (h.h2 k G u y) (λo=>km G y o),λc h=>⟨(H c h).1,T,J,(H c h).2⟩⟩
theorem uI{kd:Kd}{n:Nat}(h:jO kd nr n s)(hn:1<=n):jO { kd with cy:=some (begun s.2.1 nr) } nr n s:=
 xj (T:=Reach nr s) h (λ_ h=>h) (λ_ i=>(mI h i).1) (λc e=>by
  grind[begun,ue])
def me(M:Nat->List V)(n:Nat)(kd:Kd)(c:Cy):Kd:=if(unit M kd.on c).2.nx=n then⟨(unit M kd.on c).1,none,kd.un+1,kd.fo,kd.cc+1⟩ else⟨(unit M kd.on c).1,some (unit M kd.on c).2,kd.un+1,kd.fo,kd.cc⟩
def su{kd:Kd}{n:Nat}{c:Cy}(h:jO kd nr n s)(u:kd.cy=some c):jO (me s.2.2 n kd c) nr n s:=by
 obtain⟨J,T,G,W⟩:=h.h3 c u;have e:=vM W J;unfold me;split
 .exact xj (T:=T) h G (λp o=>(e.ha p o).2.2) (λc u=>by cases u)
 rename_i y;refine xj (T:=T) h G (λp o=>(e.ha p o).2.2) (λH i=>?_);have:(unit s.2.2 kd.on c).2=H:=by injection i
 subst this;exact⟨Nat.lt_of_le_of_ne e.hh y,e⟩
def tX{M:Nat->List V}{n u:Nat}{kd:Kd}{c:Cy}(h:kd.cy=some c):gw M n (u+1) kd=gw M n u (me M n kd c):=by
 rw[gw,h];rfl
theorem tY{M:Nat->List V}{n u:Nat}{kd:Kd}(h:kd.cy=none):gw M n u kd=kd:=by
 cases u with
 | zero=>rfl
 | succ u=>rw[gw,h]
end B
section
def Tryz.Ao:(prog.info? 48).map (λi=>(i.zero,i.size,i.bytes))=some (some (.agg #[aj 0,aj 0,aj 0]),3,24):=by kernel_rfl
def Tryz.tL:(prog.info? 149).map (λi=>(i.zero,i.size,i.bytes))=some (some (.agg #[aj 0,aj 0]),2,16):=by kernel_rfl
def Tryz.Ha:(prog.info? 184).map (λi=>(i.zero,i.size,i.bytes))=some (some (.pointer none),1,8):=by kernel_rfl
abbrev tU:=Nat×Nat×Int
def mA(ev:List tU):List Value:=ev.flatMap (λx=>[.int .i64 (x.1:Int),.int .i64 (x.2.1:Int),.int .i64 x.2.2])
def Hj(a b:List tU):mA (a++b)=mA a++mA b:=by simp[mA]
def Tryz.IB:(prog.info? 5).map (λi=>(i.zero,i.size,i.bytes))=some (some (dy 0),1,1):=by kernel_rfl
theorem NI(eb tb:Nat)(v:B.V)(R:aa->Prop)(w:aa)(H:∀w1,w.grownBy w1 none->eL 175 #[P0 eb,P0 tb,vA v,aj 2,aj v.2] w1 λw'=>R w'): eL 121 #[P0 eb,P0 tb,vA v] w λw'=>R w':=by
 have J:=bj H;obtain⟨y,W⟩:=v;delta eL;go_in;go_wp2_with fail
 refine du (gk (y,W) _) λw1 i=>?_;obtain⟨k0,_⟩:=bd i (a:=ay w.heap.size 0) eB;obtain⟨k1,_⟩:=bd i (a:=ay w.heap.size 1) eB;simp[go_sem]at k0 k1;have G:Hid (w.grownBy w1 none):=ar (ak _ _ _) i;go_wp2_with fail
 refine du (J w1 G) λw2 o=>?_;have u:=bj o;go_wp2
 go_end0;exact⟨rfl,u⟩
theorem Mh(eb tb why:Nat)(hw:why<=8)(R:aa->Prop)(w:aa)(H:∀w1,w.grownBy w1 none->eL 175 #[P0 eb,P0 tb,vA (0,-(why:Int)),aj 3,aj why] w1 λw'=>R w'): eL 187 #[P0 eb,P0 tb,aj why] w λw'=>R w':=by
 have u:=bj H;have G:IntKind.i64.wrap (-(why:Int))=-(why:Int):=by simp[IntKind.wrap,IntKind.bits,IntKind.signed];omega
 delta eL;go_in;go_wp2_with fail
 refine du (fG _ _) ?_;rintro w1 rfl;go_wp2_with fail
 refine du (u _ (ak _ _ _)) λw2 i=>?_;have o:=bj i;go_wp2
 go_end0;exact⟨rfl,o⟩
theorem Fh(eb tb:Nat)(R:aa->Prop)(w:aa)(H:∀w1,w.grownBy w1 none->eL 175 #[P0 eb,P0 tb,vA (0,-100),aj 4,aj 0] w1 λw'=>R w'): eL 172 #[P0 eb,P0 tb] w λw'=>R w':=by
 have u:=bj H;delta eL;go_in;go_wp2_with fail
 refine du (fG _ _) ?_;rintro w1 rfl;go_wp2_with fail
 refine du (u _ (ak _ _ _)) λw2 i=>?_;have o:=bj i;go_wp2
 go_end0;exact⟨rfl,o⟩
theorem Ic(eb tb xe xt:Nat)(v:B.V)(R:aa->Prop)(w:aa)(he:w.cell? (ay xe 0)=some (P0 eb))(ht:w.cell? (ay xt 0)=some (P0 tb))(le:xe<w.heap.size)(lt:xt<w.heap.size)(H:∀w1,w.grownBy w1 none->eL 175 #[P0 eb,P0 tb,vA v,aj 2,aj v.2] w1 λw'=>R w'): eL 120 #[vA v,P0 xe,P0 xt] w λw'=>R w':=by
 have y:=bj (NI eb tb v R);have u:=bj H;obtain⟨J,W⟩:=v;delta eL;go_in;go_wp2_with fail
 refine du (y _ (λw1 G=>u w1 (ar (ak _ _ _) G))) λw2 i=>?_;have o:=bj i;go_wp2
 go_end0;exact⟨rfl,o⟩
