import Derived.Test.YtnjiinbhbjpfkaaGreatDoorProg
import Derived.ProofKit
import Derived.IntWalk
import Derived.Test.YtnjiinbhbjpfkaaGreatDoorRows
import Derived.WalkKit
import Derived.WalkSpells
import Derived.WalkLawsBesides
import Derived.BigQuiet
import Derived.BigRegion
import Derived.Deep.QuietTactic
import Derived.Deep.MidRow
import Derived.Deep.RegionLawGrows
import Derived.Deep.DeepCutAuto
import Derived.Laws.ByValue
import Derived.Deep.RegionHeld3
import Derived.Lib.SliceRun
import Derived.LaidEqlPtr
import Derived.Laws.EntriesVeiled
import Derived.Deep.AppendSrc
set_option maxRecDepth 100000
set_option maxHeartbeats 0
set_option linter.all false
namespace Go.Proofs.YtnjiinbhbjpfkaaGreatDoor
open Go.RowKit Go.Proofs.Tryz
section
variable {A:Type}{p:Prop}
abbrev ah(n:Int):Value:=.int .i64 n
abbrev dz(n:Int):Value:=.int .u8 n
abbrev dD(b n c:Nat):Value:=.slice (some ⟨b,0,none⟩) n c
abbrev az(b i:Nat):Addr:=⟨b,i,none⟩
abbrev dW(w:World)(b i:Nat):Option Value:=w.cell? ⟨b,i,none⟩
abbrev fp(w:World):Nat:=w.heap.size
abbrev iY(w w':World):Prop:=w.grownBy w' none
abbrev gG(w:World)(a:Array Value)(T:TypeId):World:=w.alloc<|.cells a T
abbrev ny(a:Array Value)(T:TypeId):Option Obj:=some<|.cells a T (0,0)
abbrev iA(w:World)(b i:Nat)(v:Value):World:=w.setCell ⟨b,i,none⟩ v
abbrev dC(n:Nat)(a:Array Value)(w:World)(v:Value)(Q:World->Prop):Prop:=Calls prog n a w λe w'=>e=.returned v/\Q w'
abbrev eN(n:Nat)(a:Array Value)(w:World)(Q:World->Prop):Prop:=Calls prog n a w λe w'=>e=.returned (.tuple #[])/\Q w'
def dq{n:Nat}{a:Array Value}{w:World}{v:Value}{Q:World->Prop}{P:Ending->World->Prop}(h:dC n a w v Q)(k:∀w',Q w'->P (.returned v) w'):Calls prog n a w P:=by
 refine h.mono ?_;rintro e w' ⟨rfl,q⟩;exact k w' q
def mz(h:p):Hid p:=h
def eK{c:Prop}[Decidable c]{a b:A}(h:¬c:=by omega):(if c then a else b)=b:=if_neg h
def mL{c:Prop}[Decidable c]{a b:A}(h:c:=by omega):(if c then a else b)=a:=if_pos h
def NL:Nat->Nat->Nat->Prop
 |k,0,i=>i=k
 |k,n+1,i=>i=k\/NL (k+1) n i
theorem Ph:∀(n k i:Nat),k<=i->i<=k+n->NL k n i
 |0,_,_,h,h'=>by unfold NL;omega
 |n+1,k,i,h,h'=>by
  unfold NL;by_cases e:i=k
  .exact .inl e
  exact .inr<|Ph n (k+1) i (by omega)<|by omega
theorem pS(n i:Nat)(h:i<=n):NL 0 n i:=Ph n 0 i (by omega)<|by omega
def af(h:p:=by omega):p:=h
def eo(h:p:=by decide):p:=h
def je(h:p:=by intro e;cases e):p:=h
def eW(h:p:=by kernel_rfl):p:=h
def mS(h:p:=by first|rfl|simp[Act.eval,Act.put]):p:=h
def fV(h:p:=by simp;omega):p:=h
def eG(h:p:=by simp):p:=h
def pY(h:p:=by unfold maxLen;omega):p:=h
def LQ(h:p:=by intro e;injection e;omega):p:=h
def Cm(h:p:=by intro e;injection e with _ e;omega):p:=h
def qD(h:p:=by assumption):p:=h
def yv(h:p:=by simp[Value.oneCell']):p:=h
def iI(h:p:=by go_num):p:=h
def jA{x:Int}(h:(-9223372036854775808<=x/\x<9223372036854775808):=by omega):IntKind.i64.wrap x=x:=IntWalk.i64_in x<|by omega
def ey(h:p:=by grind):p:=h
def fj{q:Prop}(h:q)(e:q->p:=by intro h;simp[World.cell?,h]):p:=e h
def pk{q:Prop}(h:q)(e:q->p:=by intro h;simp[World.frozen?,h]):p:=e h
def iE{q:Prop}(h:q)(e:q->p:=by intro h;simpa using h):p:=e h
def gD{q:Prop}(h:q)(e:q->p:=by intro h;omega):p:=e h
def kh{q:Prop}(h:q)(e:q->p:=by intro h;rw[h];rfl):p:=e h
def lD{q:Prop}(h:q)(e:q->p:=by intro h;rw[h];omega):p:=e h
def eZ{r q:Prop}(h:r)(y:q)(e:r->q->p:=by intro h y;rw[h];exact y):p:=e h y
abbrev aa:=@World
variable {e:TypeId}{g i k m:Nat}{o:Obj}{v:Value}{w w' w1 w2:aa}{xs:List Value}
abbrev ab:=@Below.heap_setCell
abbrev ag:=@Or.inl
abbrev aj:=@World.grownBy_alloc
abbrev ak:=@Or.inr
abbrev an:=@World.block_lt_of_cell?
abbrev au:=@Below.heap_alloc
abbrev av:=@if_neg
abbrev bd:=@World.cell?_of_block
abbrev bf:=@if_pos
abbrev bh:=@And.intro
abbrev bl:=@heap_alloc_new
abbrev bm:=@Nat.le_refl
abbrev bp:=@List.setIfInBounds_toArray
abbrev bw:=@List.getElem?_eq_getElem
abbrev cf:=@List.getElem?_eq_some_iff
abbrev cn:=@List.set_cons_zero
abbrev cr:=@List.set_cons_succ
abbrev cw:=@List.getD_eq_getElem?_getD
abbrev db:=@List.length_append
abbrev dg:=@bodyPost_ret
abbrev dh:=@List.length_eq_zero_iff
abbrev di:=@Nat.zero_le
abbrev dm:=@Nat.lt_of_lt_of_le
abbrev dp:=@Array.getElem?_modify
abbrev dr:=@absurd
abbrev dv:=@World.frozen?_of_block
abbrev dF:=@Nat.add_sub_cancel
abbrev dK:=@World.cell?_setCell_other
abbrev dL:=@IntWalk.wrap64_in
abbrev dO:=@List.getElem?_eq_none
abbrev dP:=@List.getElem?_take
abbrev dQ:=@Nat.le_trans
abbrev dY:=@beq_eq_false_iff_ne
abbrev ed:=@List.mem_append
abbrev eg:=@World.ownsRow_nil
abbrev eh:=@List.mem_of_getElem?
abbrev eC:=@List.length_set
abbrev eD:=@List.length_map
abbrev eO:=@List.mem_append_left
abbrev eQ:=@of_decide_eq_true
abbrev eV:=@decide_eq_false
abbrev eX:=@List.mem_map
abbrev eY:=@List.length_dropLast
abbrev fh:=@List.length_singleton
abbrev fq:=@List.getElem?_append_left
abbrev fy:=@decide_eq_true
abbrev fz:=@IntWalk.i64_left
abbrev fB:=@List.getElem?_map
abbrev fL:=@UInt8.toNat_lt
abbrev fS:=@Below.refl
abbrev fU:=@List.append_assoc
abbrev fY:=@List.mem_range
abbrev gd:=@List.mem_singleton
abbrev gh:=@Prod.ext
abbrev gr:=@List.range_succ
abbrev gz:=@funext
abbrev gX:=@List.map_append
abbrev gY:=@List.append_nil
abbrev iF:=@List.getElem?_append_right
abbrev iZ:=@List.getElem?_range
abbrev jf:=@IntWalk.i64_in
abbrev jr:=@Nat.le_of_lt
abbrev kH:=@Option.some.inj
abbrev lC:=@Int.toNat_natCast
abbrev lM:=@List.length_replicate
abbrev oX:=@Nat.ne_of_lt
abbrev P0(b:Nat):Value:=.pointer<|some ⟨b,0,none⟩
abbrev Fv(k:Nat)(cap:Array Value):Value:=.func (.func k) #[] cap
theorem aw(w:aa)(row:Option Nat):w.grownBy w row:=⟨rfl,rfl,rfl,bm _,λ_ _ _=>rfl⟩
theorem ar{row:Option Nat}(h:w.grownBy w1 row)(k:w1.grownBy w2 row):w.grownBy w2 row:=
 ⟨k.os.trans h.os,k.tape.trans h.tape,k.output.trans h.output,dQ h.size k.size,λi hi e=>(k.block i (dm hi h.size) e).trans<|h.block i hi e⟩
def df{row:Option Nat}(h:w.grownBy w1 row)(n:Nat):w.grownBy (w1.drewN n) row:=⟨h.os,h.tape,h.output,h.size,h.block⟩
theorem bo{row:Option Nat}(h:w.grownBy w1 row):w.grownBy w1.drew row:=⟨h.os,h.tape,h.output,h.size,h.block⟩
theorem ax{row:Option Nat}(h:w.grownBy w1 row)(o:Obj):w.grownBy (w1.alloc o) row:=ar h<|aj _ _ _
theorem bu{row:Option Nat}(h:w.grownBy w1 row){a:Addr}(e:some a.block=row\/w.heap.size<=a.block)(v:Value):w.grownBy (w1.setCell a v) row:=by
 refine⟨h.os,h.tape,h.output,dQ h.size (by simp_all),λi hi o=>?_⟩;rw[ab]
 .exact h.block i hi o
 grind
theorem ch{b:Nat}(h:w.heap[b]?=some o):b<w.heap.size:=(Array.getElem?_eq_some_iff.1 h).1
def da{row:Option Nat}(h:w.grownBy w1 row)(e:w.heap[k]?=some o)(i:some k≠row):w1.heap[k]?=some o:=
 (h.block k (ch e) i).trans e
def pO{b:Nat}(h:Below w.heap.size w w'):w.grownBy w' (some b):=⟨h.os,h.tape,h.output,h.size,λk e _=>h.block k e⟩
def Full(w:aa)(g:Nat)(T:TypeId)(n m:Nat)(P:Nat->Value):Prop:=∃cur,w.heap[g]?=some (.cells cur T (0,0))/\cur.size=n/\∀j,j<m->cur[j]?=some (P j)
def jQ(w:aa)(g:Nat)(T:TypeId)(n:Nat):Prop:=∃cur,w.heap[g]?=some (.cells cur T (0,0))/\cur.size=n
theorem jQ.lt{n:Nat}{T:TypeId}(h:jQ w g T n):g<w.heap.size:=by obtain⟨_,h,_⟩:=h;grind
theorem jQ.cell{n:Nat}{T:TypeId}(h:jQ w g T n)(j:Nat)(o:j<n):(∃v,w.cell? (az g j)=some v)/\w.frozen? (az g j)=false:=by
 obtain⟨e,h,u⟩:=h
 exact⟨⟨e[j],by grind[World.cell?]⟩,pk h⟩
theorem jQ.set{n:Nat}{T:TypeId}(h:jQ w g T n)(x o:Nat)(v:Value):jQ (w.setCell (az x o) v) g T n:=by
 obtain⟨i,h,u⟩:=h;by_cases e:g=x
 .subst e;refine⟨i.setIfInBounds o v,?_,ey⟩;simp[World.setCell,dp,h]
 exact⟨i,(ab _ _ _ _ e).trans h,u⟩
def jQ.owned{n cap size:Nat}(h:w.ownsRow i e size (dD g n cap) n xs):jQ w g e (cap*size):=by
 rcases h.2 with⟨h,_⟩|⟨g',u,o,H,_,G,_,_,y,_⟩
 .cases h
 cases H;exact⟨o,G,y⟩
def Full.Ac{n:Nat}{T:TypeId}{P:Nat->Value}(h:Full w g T n m P):jQ w g T n:=by obtain⟨e,h,i,_⟩:=h;exact⟨e,h,i⟩
def jQ.full{n:Nat}{T:TypeId}(h:jQ w g T n)(P:Nat->Value):Full w g T n 0 P:=by obtain⟨e,h,o⟩:=h;exact⟨e,h,o,λj i=>dr i<|Nat.not_lt_zero j⟩
theorem Full.set{n:Nat}{T:TypeId}{P:Nat->Value}(h:Full w g T n m P)(G:m<n):Full (w.setCell (az g m)<|P m) g T n (m+1) P:=by
 obtain⟨i,h,y,u⟩:=h;refine⟨i.setIfInBounds m<|P m,by simp[World.setCell,dp,h],ey,λj o=>?_⟩;grind
theorem Full.block{n:Nat}{T:TypeId}{P:Nat->Value}(h:Full w g T n m P)(i:w'.heap[g]?=w.heap[g]?):Full w' g T n m P:=by
 obtain⟨e,h,r⟩:=h;exact⟨e,i.trans h,r⟩
theorem Full.lt{w:aa}{g n m:Nat}{T:TypeId}{P:Nat->Value}(h:Full w g T n m P):g<w.heap.size:=h.Ac.lt
theorem Full.kept{n b:Nat}{T:TypeId}{P:Nat->Value}(h:Full w g T n m P)(i:w.grownBy w' (some b))(o:g≠b):Full w' g T n m P:=
 h.block (i.block g h.lt ey)
theorem Full.cell{n:Nat}{T:TypeId}{P:Nat->Value}(h:Full w g T n m P)(j:Nat)(i:j<m):w.cell? (az g j)=some (P j):=by
 obtain⟨e,h,_,hP⟩:=h;grind[World.cell?]
def Full.Mw{n:Nat}{T:TypeId}{P:Nat->Value}(h:Full w g T n m P)(u:m+4<=n)(v0 v1 v2 v3:Value)(e0:v0=P m)(o:v1=P (m+1))(i:v2=P (m+2))(e:v3=P (m+3)):Full (w.setCells g m [v0,v1,v2,v3]) g T n (m+4) P:=by
 subst e0 o i e;exact(((h.set af).set af).set af).set af
def Full.My{n:Nat}{T:TypeId}{P:Nat->Value}(h:Full w g T n m P)(i:m+2<=n)(v0 v1:Value)(e0:v0=P m)(e:v1=P (m+1)):Full (w.setCells g m [v0,v1]) g T n (m+2) P:=by
 subst e0 e;exact(h.set af).set af
theorem eT{row:Option Nat}(h:w.grownBy w' none):w.grownBy w' row:=⟨h.os,h.tape,h.output,h.size,λk i _=>h.block k i ey⟩
theorem jQ.there{n:Nat}{T:TypeId}(h:jQ w g T n)(o m:Nat)(y:o+m<=n):w.there g o m:=λj u=>by
 grind[jQ.cell]
theorem jQ.xD{g n:Nat}{T:TypeId}(x:Nat):∀(e:List Value) (o:Nat) (w:aa),jQ w g T n->jQ (w.setCells x o e) g T n
 | [],_,_,h=>h
 |v :: r,o,w,h=>jQ.xD x r (o+1) (iA w x o v) (h.set x o v)
theorem fM(x k:Nat)(e:k≠x):∀(i:List Value) (o:Nat) (w:aa),(w.setCells x o i).heap[k]?=w.heap[k]?
 | [],_,_=>rfl
 |v :: r,o,w=>by rw[World.setCells,fM x k e r];grind[Below.heap_setCell]
theorem jb{row:Option Nat}(g:Nat):∀(e:List Value) (o:Nat) (w w1:aa),w.grownBy w1 row->w.heap.size<=g->w.grownBy (w1.setCells g o e) row
 | [],_,_,_,h,_=>h
 |v :: r,o,w,w1,h,hg=>jb g r (o+1) w (iA w1 g o v) (bu h (ak hg) v) hg
theorem vM(h:(w.alloc o).grownBy w' (some w.heap.size)):Below w.heap.size w w':=
 ⟨h.os,h.tape,h.output,by have:=h.size;simp at this;omega,λk i=>(h.block k fV ey).trans<|au _ _ _ i⟩
def tQ{W:aa}(e:Below W.heap.size W w1):(∀b o,b<W.heap.size->w1.cell? (az b o)=W.cell? (az b o))/\(∀b o,b<W.heap.size->w1.frozen? (az b o)=W.frozen? (az b o)):=
 ⟨λb o h=>e.cell (p:=az b o) h,λb o h=>e.frozen (p:=az b o) h⟩
theorem vN(h:w.grownBy w' none):Below w.heap.size w w':=⟨h.os,h.tape,h.output,h.size,λk i=>h.block k i ey⟩
theorem ef{o size n:Nat}(h:w.ownsRow o e size v n xs)(hn:n≠0):∃g cap,v=dD g n cap:=by
 rcases h.2 with⟨_,h⟩|⟨g',i,_,h,_⟩
 .omega
 grind
theorem ay(h:w.grownBy w1 none){a:Addr}(i:a.block<w.heap.size):w1.cell? a=w.cell? a/\w1.frozen? a=w.frozen? a:=
 ⟨bd<|h.block a.block i ey,dv<|h.block a.block i ey⟩
def km(w:aa):List (Value×TypeId)->aa
 | []=>w
 |x :: r=>km (w.alloc<|.cells #[x.1] x.2) r
theorem pM(l:List (Value×TypeId)):∀(w:aa),Below w.heap.size w<|km w l:=by
 induction l with
 |nil=>intro w;exact fS _ _
 |cons x r e=>intro w;exact((fS _ _).alloc (bm _) _).trans<|(e _).mono eG
theorem AO(l:List (Value×TypeId)):∀(w:aa),(km w l).heap.size=w.heap.size+l.length:=by
 induction l with
 |nil=>intro w;rfl
 |cons x r e=>intro w;rw[km,e];simp;omega
theorem FD(l:List (Value×TypeId)):∀(w:aa) (k:Nat) (x:Value×TypeId),l[k]?=some x->(km w l).heap[w.heap.size+k]?=some (.cells #[x.1] x.2 (0,0)):=by
 induction l with
 |nil=>grind
 |cons y r e=>
  intro w k x h
  cases k with
  |zero=>
   simp at h;subst h
   rw[km];exact((pM r<|gG w #[y.1] y.2).block _ eG).trans<|bl w _
  |succ k=>
   have:=e (gG w #[y.1] y.2) k x ey;rw[km];simpa[Nat.add_assoc,Nat.add_comm 1 k] using this
def xI{fn:Func}{p:Tmp}{ty:TypeId}{a:Addr}{P:Program}(h:fn.results=#[.cell p ty])(e:Array Value)(o:e.getD p undef=.pointer (some a))(u:(loadVar ty a).run P w=.ok v w):(results fn e).run P w=.ok v w:=by
 simp[results,h,(iE o),asAddr,u]
theorem nR(g:Nat):∀(e:List Value) (o:Nat) (w:aa),(w.setCells g o e).heap.size=w.heap.size
 | [],_,_=>rfl
 |v :: r,o,w=>by rw[World.setCells,nR g r];simp_all
theorem C0{size n:Nat}(h:w.ownsRow i e size v n xs)(o:Obj):(w.alloc o).ownsRow i e size v n xs:=by
 refine⟨h.1,?_⟩;rcases h.2 with y|⟨g,cap,u,J,y,G,H⟩
 .grind
 exact ak ⟨g,cap,u,J,y,(au _ _ _<|ch G).trans G,H⟩
def dN(F:Nat->Prop)(w w':aa):Prop:=w'.os=w.os/\w'.tape=w.tape/\w'.output=w.output/\w.heap.size<=w'.heap.size/\∀k,k<w.heap.size->¬F k->w'.heap[k]?=w.heap[k]?
def dx(S:Nat->Prop)(w:aa):dN S w w:=⟨rfl,rfl,rfl,bm _,λ_ _ _=>rfl⟩
theorem dN.size{S:Nat->Prop}(h:dN S w w'):w.heap.size<=w'.heap.size:=h.2.2.2.1
theorem dN.block{S:Nat->Prop}(h:dN S w w')(e:w.heap[k]?=some o)(hS:¬S k):w'.heap[k]?=some o:=(h.2.2.2.2 k (ch e) hS).trans e
theorem dN.same{S:Nat->Prop}(h:dN S w w')(e:k<w.heap.size)(hS:¬S k):w'.heap[k]?=w.heap[k]?:=h.2.2.2.2 k e hS
theorem dN.cell{S:Nat->Prop}(h:dN S w w'){o:Nat}(e:k<w.heap.size)(hS:¬S k):w'.cell? (az k o)=w.cell? (az k o):=bd (a:=az k o)<|h.same e hS
def dN.frozen{S:Nat->Prop}(h:dN S w w'){o:Nat}(e:k<w.heap.size)(hS:¬S k):w'.frozen? (az k o)=w.frozen? (az k o):=dv (a:=az k o)<|h.same e hS
theorem dN.trans{S S1:Nat->Prop}{w w1 w2:aa}(h:dN S w w1)(k:dN S1 w1 w2)(hS:∀b,S1 b->b<w.heap.size->S b):dN S w w2:=
 ⟨k.1.trans h.1,k.2.1.trans h.2.1,k.2.2.1.trans h.2.2.1,dQ h.size k.size,λb e hn=>(k.2.2.2.2 b (dm e h.size)<|λi=>hn<|hS b i e).trans<|h.2.2.2.2 b e hn⟩
theorem dN.mono{S S1:Nat->Prop}(h:dN S w w1)(hS:∀b,S b->b<w.heap.size->S1 b):dN S1 w w1:=
 ⟨h.1,h.2.1,h.2.2.1,h.size,λb e hn=>h.2.2.2.2 b e<|λi=>hn<|hS b i e⟩
theorem jL{S:Nat->Prop}{b:Nat}(h:w.grownBy w1 (some b))(o:S b):dN S w w1:=
 ⟨h.os,h.tape,h.output,h.size,λk i hn=>h.block k i ey⟩
theorem eA{S:Nat->Prop}(h:w.grownBy w1 none):dN S w w1:=⟨h.os,h.tape,h.output,h.size,λk i _=>h.block k i ey⟩
def dN.then{S:Nat->Prop}{b:Nat}(h:dN S w w1)(k:w1.grownBy w2 (some b))(e:S b\/w.heap.size<=b):dN S w w2:=
 h.trans (jL (S:=λx=>x=b) k rfl) (λx o i=>e.elim (λe=>o▸e)<|λe=>dr i af)
def dN.jj{S:Nat->Prop}(h:dN S w w1)(k:w1.grownBy w2 none):dN S w w2:=h.trans (eA (S:=S) k)<|λ_ e _=>e
def td{S:Nat->Prop}(h:dN S w w1):dN S w w1.drew:=h
def uY{S:Nat->Prop}(h:dN S w w1)(n:Nat):dN S w (w1.drewN n):=h
def gV{S:Nat->Prop}(h:dN S w w1)(o:Obj):dN S w (w1.alloc o):=h.jj<|aj _ _ _
def bq{S:Nat->Prop}(h:dN S w w1){a:Addr}(e:S a.block\/w.heap.size<=a.block)(v:Value):dN S w (w1.setCell a v):=
 h.then (b:=a.block) (bu (aw _ _) (ag rfl) v) e
theorem bj{p:Prop}(h:p):Hid p:=h
def eE(P:Nat->Value)(j:Nat)(v:Value):Nat->Value:=λi=>if i=j then v else P i
theorem gU(P:Nat->Value)(j:Nat)(v:Value):eE P j v j=v:=bf rfl
theorem eP(P:Nat->Value)(j i:Nat)(v:Value)(h:i≠j):eE P j v i=P i:=av h
theorem Full.eE{n:Nat}{T:TypeId}{P:Nat->Value}(h:Full w g T n m P)(j:Nat)(v:Value):Full (w.setCell (az g j) v) g T n m (eE P j v):=by
 obtain⟨o,h,y,u⟩:=h;refine⟨o.setIfInBounds j v,by simp[World.setCell,dp,h],ey,λi hi=>?_⟩;rw[Array.getElem?_setIfInBounds];by_cases e:j=i
 .subst e;have:=u j hi;rw[gU,bf rfl,bf (Array.getElem?_eq_some_iff.1 this).1]
 rw[av e,eP _ _ _ _<|λh=>e h.symm];grind
theorem Full.off{n x o:Nat}{T:TypeId}{P:Nat->Value}(h:Full w g T n m P)(hx:g≠x):Full (w.setCell (az x o) v) g T n m P:=h.block<|ab _ _ _ _ hx
theorem Full.cells{n:Nat}{T:TypeId}{P:Nat->Value}(h:Full w g T n m P)(j:Nat)(i:j<m):w.cell? (az g j)=some (P j)/\w.frozen? (az g j)=false:=by
 refine⟨h.cell j i,?_⟩;obtain⟨e,h,_⟩:=h;simp[World.frozen?,h]
theorem Full.ne{n g' G m':Nat}{T T':TypeId}{P y:Nat->Value}(h:Full w g T n m P)(e:Full w g' T' G m' y)(u:T≠T'):g≠g':=by
 rintro rfl;obtain⟨o,h,_⟩:=h;obtain⟨i,e,_⟩:=e;grind
theorem Full.congr{n:Nat}{T:TypeId}{P Q:Nat->Value}(h:Full w g T n m P)(hP:∀j,j<m->P j=Q j):Full w g T n m Q:=by
 obtain⟨e,y,u,o⟩:=h;exact⟨e,y,u,λj i=>(o j i).trans ey⟩
end
namespace B
abbrev V:=Nat×Int
abbrev St:=Nat×(Nat->V)×(Nat->List V)
variable {nr:Nat}{s:St}
def set(r:Nat->V)(a:Nat)(v:V):Nat->V:=λi=>if i=a then v else r i
theorem jZ(r:Nat->V)(a:Nat)(v:V):set r a v a=v:=if_pos rfl
theorem jl(r:Nat->V)(a i:Nat)(v:V)(h:i≠a):set r a v i=r i:=if_neg h
def lay(m:Nat->List V)(p:Nat)(l:List V):Nat->List V:=λk=>if k=p then l else m k
theorem iG(m:Nat->List V)(p:Nat)(l:List V):lay m p l p=l:=if_pos rfl
theorem gm(m:Nat->List V)(p k:Nat)(l:List V)(h:k≠p):lay m p l k=m k:=if_neg h
def Reach(nr:Nat)(s:St)(p:Nat):Prop:=
 ∀S:Nat->Prop,(∀i,i<nr->(s.2.1 i).1≠0->S (s.2.1 i).1)->(∀k,S k->∀v,v∈s.2.2 k->v.1≠0->S v.1)->S p
theorem jS(i:Nat)(hi:i<nr)(h:(s.2.1 i).1≠0):Reach nr s (s.2.1 i).1:=λ_ e _=>e i hi h
theorem kK{k:Nat}(i:Reach nr s k){v:V}(o:v∈s.2.2 k)(h:v.1≠0):Reach nr s v.1:=λS u e=>e k (i S u e) v o h
def wide(b c:Nat):Int:=if 256*b+c<32768 then(256*b+c:Nat) else(256*b+c:Nat)-65536
def wrap(x:Int):Int:=(x+9223372036854775808)%18446744073709551616-9223372036854775808
theorem xU:∀(l m:List Nat),l.Nodup->(∀x,x∈l->x∈m)->l.length<=m.length:=by
 intro l;induction l with
 |nil=>grind
 |cons a l G=>
  intro m hn u;have o:=u a eG;have H:=G (m.erase a) (List.nodup_cons.1 hn).2 (λx y=>by
   grind)
  grind
theorem uD(n x:Nat):x∈(List.range n).map (· + 1)↔1<=x/\x<=n:=by
 simp only[List.mem_map,List.mem_range];constructor
 .omega
 intro h;exact⟨x-1,af,af⟩
end B
section
variable {L cb fb i nr rb:Nat}{e:TypeId}{o:Oper}{v:Value}{w w':aa}{xs:List Value}
abbrev vA(v:B.V):Value:=.agg #[.int .i64 (v.1:Int),.int .i64 v.2]
def eR(R:Nat->B.V):Nat->Value:=λj=>if j%2=0 then .int .i64 ((R<|j/2).1:Int) else .int .i64 (R<|j/2).2
def pF(R:Nat->B.V)(i:Nat):eR R (i*2)=ah ((R i).1:Int):=by simp[eR,mL]
theorem pE(R:Nat->B.V)(i:Nat):eR R (i*2+1)=ah (R i).2:=by unfold eR;grind
def jG(cb L nx rb nr:Nat)(back:Value):Obj:=.cells #[.slice (some ⟨cb,0,none⟩) L L,.int .i64 nx,.slice (some ⟨rb,0,none⟩) nr nr,back] 241 (0,0)
abbrev ee(op a b c fb tb eb:Nat):Value:=.agg #[.int .u8 op,.int .u8 a,.int .u8 b,.int .u8 c,P0 fb,P0 tb,P0 eb]
def jy{nx:Nat}{back:Value}(h:w.heap[fb]?=some (jG cb L nx rb nr back)):w.cell? (az fb 0)=some (dD cb L L)/\w.cell? (az fb 1)=some (ah nx)/\w.cell? (az fb 2)=some (dD rb nr nr)/\w.cell? (az fb 3)=some back/\w.frozen? (az fb 1)=false:=by
 simp[World.cell?,World.frozen?,h,jG]
theorem fK(n:Int)(w:aa):dC 61 #[ah n] w (vA (0,n)) λw'=>w'=w.alloc (.cells #[ah 0,ah n] 149):=by
 delta dC;go_in;go_wp2
 refine dg (v:=.agg #[ah 0,ah n]) (by simp[results,results61,go_sem]) rfl ⟨rfl,rfl⟩
theorem oU(v:B.V)(w:aa):Calls prog 198 #[vA v] w λe w'=>e=.returned (.bool (decide (v.1≠0)))/\w.grownBy w' none:=by
 obtain⟨i,G⟩:=v;by_cases h:i=0
 .subst h;go_in;go_wp2_with fail
  go_ret;simp[aj]
 have u:decide (0<i)=true:=fV
 have o:decide (i≠0)=true:=iE h
 rw[show(i,G).1=i from rfl,o];have y:=bj u;clear h o u;go_in;go_wp2_with fail
 go_ret;refine⟨?_,aj _ _ _⟩;show Ending.returned (Value.bool (decide (0<i)))=_;rw[y.out]
theorem oq(k:Nat)(x:Int)(y:k<=200)(w:aa):dC 201 #[vA (k+1,x)] w (ah k) λw'=>w.grownBy w' none:=by
 have o:(k:Int)+1-1=(k:Int):=af
 have u:IntKind.i64.wrap (k:Int)=k:=by simp[IntKind.wrap,IntKind.bits,IntKind.signed];omega
 delta dC;go_in;go_wp2
 go_ret;simp[aj]
theorem gp(v:B.V)(w:aa):dC 152 #[vA v] w (.tuple #[ah v.2,.bool (decide (v.1=0))]) λw'=>w.grownBy w' none:=by
 have u:=oU v;have Y:(!decide (v.1≠0))=decide (v.1=0):=by by_cases h:v.1=0<;>simp[h]
 obtain⟨c,n⟩:=v;simp only at u Y⊢;generalize decide (c≠0)=d at*;generalize decide (c=0)=d2 at*;have Z:=bj u;delta dC;go_in;go_wp2_with fail
 generalize H:w.alloc (.cells #[ah c,ah n] 149)=w1;have J:Hid (iY w w1):=by rw[<-H];exact aj _ _ _
 have o:w1.heap[fp w]?=ny #[ah c,ah n] 149:=by rw[<-H];exact bl w _
 have c0:dW w1 (fp w) 0=some (ah c):=fj o
 have c1:dW w1 (fp w) 1=some (ah n):=fj o
 have y:=ch o;have HS:Hid (∀w':aa,iY w1 w'->dW w' (fp w) 0=some (ah c)/\dW w' (fp w) 1=some (ah n)):=
  λw' W=>⟨(ay W (a:=az (fp w) 0) y).1.trans c0,(ay W (a:=az (fp w) 1) y).1.trans c1⟩
 go_region_held3 (λw'=>dW w' (fp w) 0=some (ah c)/\dW w' (fp w) 1=some (ah n)) (first|exact HS _ (bo<|aw _ _)|exact HS _ G) (first|(go_at_call 198;refine dq (Z w1.drew) λw2 i=>?_;have G:Hid (iY w1 w2):=⟨i.os,i.tape,i.output,i.size,i.block⟩;clear i))
 all_goals
  go_wp2
  go_ret2
  exact⟨rfl,ar J G⟩
theorem Ch(op a b c fb tb eb cb L nx rb nr:Nat)(back:Value)(R:Nat->B.V)(w:aa)(o:w.heap[fb]?=some (jG cb L nx rb nr back))(i:Full w rb 149 (nr*2) (nr*2) (eR R))(Z:a<nr):dC 98 #[ee op a b c fb tb eb] w (vA<|R a) λw'=>w.grownBy w' none:=by
 let⟨_,_,c2,_,_⟩:=jy o;have G:=i.cell (a*2) af;have H:=i.cell (a*2+1) af;rw[pF]at G;rw[pE]at H;have W:=ch o;have Y:=i.lt;have u:fb<w.heap.size+1:=af
 have y:rb<w.heap.size+1:=af
 have J:(a:Int)<nr:=af
 delta dC;go_in;go_wp2
 go_region
 all_goals
  go_wp2
  refine dg (v:=vA<|R a) (by simp[results,results98,go_sem]) rfl ⟨rfl,?_⟩;grind[aw,bo,ax]
theorem sA(op a b c fb tb eb cb L nx rb nr:Nat)(back:Value)(R:Nat->B.V)(w:aa)(o:w.heap[fb]?=some (jG cb L nx rb nr back))(i:Full w rb 149 (nr*2) (nr*2) (eR R))(Z:b<nr):dC 86 #[ee op a b c fb tb eb] w (vA<|R b) λw'=>w.grownBy w' none:=by
 let⟨_,_,c2,_,_⟩:=jy o;have G:=i.cell (b*2) af;have H:=i.cell (b*2+1) af;rw[pF]at G;rw[pE]at H;have W:=ch o;have Y:=i.lt;have u:fb<w.heap.size+1:=af
 have y:rb<w.heap.size+1:=af
 have J:(b:Int)<nr:=af
 delta dC;go_in;go_wp2
 go_region
 all_goals
  go_wp2
  refine dg (v:=vA<|R b) (by simp[results,results86,go_sem]) rfl ⟨rfl,?_⟩;grind[aw,bo,ax]
theorem tP(op a b c fb tb eb cb L nx rb nr:Nat)(back:Value)(R:Nat->B.V)(w:aa)(o:w.heap[fb]?=some (jG cb L nx rb nr back))(i:Full w rb 149 (nr*2) (nr*2) (eR R))(Z:c<nr):dC 94 #[ee op a b c fb tb eb] w (vA<|R c) λw'=>w.grownBy w' none:=by
 let⟨_,_,c2,_,_⟩:=jy o;have G:=i.cell (c*2) af;have H:=i.cell (c*2+1) af;rw[pF]at G;rw[pE]at H;have W:=ch o;have Y:=i.lt;have u:fb<w.heap.size+1:=af
 have y:rb<w.heap.size+1:=af
 have J:(c:Int)<nr:=af
 delta dC;go_in;go_wp2
 go_region
 all_goals
  go_wp2
  refine dg (v:=vA<|R c) (by simp[results,results94,go_sem]) rfl ⟨rfl,?_⟩;grind[aw,bo,ax]
theorem rA(R:Nat->B.V)(a:Nat)(v:B.V)(j:Nat)(i:j≠a*2)(e:j≠a*2+1):eR (B.set R a v) j=eR R j:=by
 grind[eR,B.jl]
theorem Full.oZ{R:Nat->B.V}(h:Full w rb 149 (nr*2) (nr*2) (eR R))(a:Nat)(v:B.V):Full ((w.setCell (az rb<|a*2)<|ah v.1).setCell (az rb<|a*2+1)<|ah v.2) rb 149 (nr*2) (nr*2) (eR<|B.set R a v):=by
 obtain⟨e,H,G,y⟩:=h;refine⟨(e.setIfInBounds (a*2)<|ah v.1).setIfInBounds (a*2+1)<|ah v.2,?_,ey,λj u=>?_⟩
 .simp[World.setCell,dp,H]
 rw[Array.getElem?_setIfInBounds,Array.getElem?_setIfInBounds];by_cases o:a*2+1=j
 .subst o;rw[bf rfl,pE,B.jZ];grind
 rw[av o];by_cases i:a*2=j
 .subst i;rw[bf rfl,pF,B.jZ];grind
 rw[av i,rA R a v j af af];grind
theorem kU(op a b c fb tb eb cb L nx rb nr:Nat)(back:Value)(R:Nat->B.V)(v:B.V)(w:aa)(u:w.heap[fb]?=some (jG cb L nx rb nr back))(o:Full w rb 149 (nr*2) (nr*2) (eR R))(ha:a<nr):eN 149 #[ee op a b c fb tb eb,vA v] w λw'=>w.grownBy w' (some rb)/\Full w' rb 149 (nr*2) (nr*2) (eR<|B.set R a v):=by
 let⟨_,_,c2,_,_⟩:=jy u;have i:=o.Ac;let⟨_,z0⟩:=i.cell (a*2) af;let⟨_,Z⟩:=i.cell (a*2+1) af;have r0:=o.cell (a*2) af;have r1:=o.cell (a*2+1) af;have Y:=ch u;have l1:=o.lt;have y:fb<w.heap.size+1:=af
 have G:rb<w.heap.size+1:=af
 have H:=bj o;generalize eR R (a*2)=W at*;generalize eR R (a*2+1)=y1 at*;have J:(a:Int)<nr:=af
 delta eN;go_in;go_wp2
 go_region
 all_goals
  go_wp2
  go_end0;refine⟨rfl,?_,?_⟩
  .grind[aw,bo,ax,bu]
  refine(H.oZ a v).block ?_;show(World.alloc _ _).heap[rb]?=_;grind[Below.heap_alloc,World.setCell]
abbrev Dl(op a b c:Nat):Value:=.agg #[.int .u8 op,.int .u8 a,.int .u8 b,.int .u8 c]
theorem DL(fb cb L nx rb nr:Nat)(back:Value)(w:aa)(i:w.heap[fb]?=some (jG cb L nx rb nr back)):dC 185 #[P0 fb] w (.bool (decide (nx=L))) λw'=>w.grownBy w' none:=by
 let⟨c0,c1,_,_,_⟩:=jy i;have o:(((nx:Nat):Int) == (L:Int))=decide (nx=L):=by
  by_cases h:nx=L<;>simp[h]
  omega
 generalize decide (nx=L)=d at*;delta dC;go_in;go_wp2
 go_quiet (fail)
 go_wp2
 go_ret;simp[df,aw]
theorem ofInt16(a:Nat)(e:a<65536):(BitVec.ofInt 16 (a:Int)).toNat=a:=by
 grind
theorem Oi(b c:Nat)(y:b<256)(u:c<256):bits BinOp.or IntKind.u16 ((b:Int)*256) (c:Int)=((256*b+c:Nat):Int):=by
 have o:b*256 ||| c=256*b+c:=by
  have:=Nat.shiftLeft_add_eq_or_of_lt (i:=8) (b:=c) af b;rw[Nat.shiftLeft_eq,show(2:Nat) ^ 8=256 from rfl]at this;omega
 have e:((b:Int)*256)=((b*256:Nat):Int):=af
 rw[e];show IntKind.u16.wrap ((BitVec.ofInt 16 ((b*256:Nat):Int) ||| BitVec.ofInt 16 (c:Int)).toNat:Int)=_;grind[BitVec.toNat_or,ofInt16,IntKind.wrap,IntKind.bits,IntKind.signed]
theorem zm(op a b c:Nat)(o:b<256)(i:c<256)(w:aa):dC 150 #[Dl op a b c] w (.int .u16 (256*b+c:Nat)) λw'=>w'=w.alloc (.cells #[dz op,dz a,dz b,dz c] 183):=by
 have u:=Oi b c o i;generalize 256*b+c=x at*;delta dC;go_in;go_wp2
 go_ret;simp_all
theorem uG(op a b c:Nat)(y:b<256)(o:c<256)(w:aa):dC 154 #[Dl op a b c] w (ah (256*b+c:Nat)) λw'=>w.grownBy w' none:=by
 have i:=zm op a b c y o;have G:256*b+c<65536:=af
 generalize 256*b+c=x at*;have u:=bj i;delta dC;go_in;go_wp2_with fail
 refine dq (u _) ?_;rintro w1 rfl;go_wp2
 go_ret;simp[ax,aj]
theorem zI(op a b c:Nat)(Y:b<256)(G:c<256)(w:aa):dC 85 #[Dl op a b c] w (ah<|B.wide b c) λw'=>w.grownBy w' none:=by
 have i:=zm op a b c Y G;have hx:256*b+c<65536:=af
 have hw:B.wide b c=if 256*b+c<32768 then((256*b+c:Nat):Int) else((256*b+c:Nat):Int)-65536:=rfl
 generalize B.wide b c=y at*;generalize 256*b+c=x at*;have W:=bj i;change Hid _ at hw;clear i;have J:IntKind.i16.wrap (x:Int)=y:=by
  rw[hw.out];split<;>(simp[IntKind.wrap,IntKind.bits,IntKind.signed];omega)
 have H:-32768<=y/\y<=32767:=by rw[hw.out];split<;>omega
 obtain⟨u,Z⟩:=H;delta dC;go_in;go_wp2_with fail
 refine dq (W _) ?_;rintro w1 rfl;go_wp2
 go_ret;simp[ax,aj]
def vu{nx:Nat}{back:Value}(h:w.heap[fb]?=some (jG cb L nx rb nr back))(y:Nat):(w.setCell (az fb 1)<|ah y).heap[fb]?=some (jG cb L y rb nr back):=by
 simp[World.setCell,dp,h,jG]
theorem Eo(fb cb L nx rb nr op a b c:Nat)(back:Value)(w:aa)(i:w.heap[fb]?=some (jG cb L nx rb nr back))(y:nx<L)(Z:L<=200)(H:cb<w.heap.size)(k0:w.cell? (az cb<|nx*4)=some (dz op))(k1:w.cell? (az cb<|nx*4+1)=some (dz a))(k2:w.cell? (az cb<|nx*4+2)=some (dz b))(J:w.cell? (az cb<|nx*4+3)=some (dz c)):dC 186 #[P0 fb] w (Dl op a b c) λw'=>w.grownBy w' (some fb)/\w'.heap[fb]?=some (jG cb L (nx+1) rb nr back):=by
 let⟨c0,c1,_,_,Y⟩:=jy i;have W:=ch i;have o:fb<w.heap.size+1:=af
 have u:cb<w.heap.size+1:=af
 have G:=bj i;have hi:(nx:Int)<L:=af
 delta dC;go_in;go_wp2
 go_region
 all_goals
  go_wp2
  refine dg (v:=Dl op a b c) (by simp[results,results186,go_sem]) rfl ⟨rfl,?_,?_⟩
  .grind[aw,bo,ax,bu]
  show(World.alloc _ _).heap[fb]?=_;rw[au _ _ _ (by simp_all),au _ _ _<|by simp_all];have:=vu G<|nx+1;grind
abbrev Pt(b o:Nat):Value:=.pointer<|some ⟨b,o,none⟩
theorem gS(b o n c:Nat)(ad:Option Addr)(w:aa)(h:w.cell? (az b o)=some (.slice ad n c)):dC 70 #[Pt b o] w (.bool (decide (n=0))) λw'=>w'=w:=by
 have i:(((n:Nat):Int) == 0)=decide (n=0):=by
  by_cases h:n=0<;>simp[h]
 generalize decide (n=0)=d at*;delta dC;go_in;go_wp2
 go_ret;simp_all
theorem qx(b o n c qb tb:Nat)(w:aa)(h:w.cell? (az b o)=some (dD qb (n+1) c))(i:w.cell? (az qb 0)=some (P0 tb)):dC 132 #[Pt b o] w (P0 tb) λw'=>w'=w:=by
 delta dC;go_in;go_wp2
 go_ret;simp_all
theorem wQ(eb n c:Nat)(ad:Option Addr)(w:aa)(h:w.cell? (az eb 29)=some (.slice ad n c)):dC 66 #[P0 eb] w (.bool (decide (0<n))) λw'=>w'=w:=by
 delta dC;go_in;go_wp2
 go_ret;simp_all
theorem xB(tb:Nat)(w:aa)(h:w.cell? (az tb 3)=some (.pointer none)):eN 133 #[P0 tb] w λw'=>w'=w:=by
 delta eN;go_in;go_wp2_with fail
 simp[Exit.inBlock,Exit.then,dg,results_none]
def Tryz.qu:(prog.info? 155).map (λi=>(i.zero,i.size,i.bytes))=some (some<|.pointer none,1,8):=by kernel_rfl
def Tryz.BW:(prog.info? 160).map (λi=>(i.zero,i.size,i.bytes))=some (some<|.agg #[ah 0,.slice none 0 0,.bool false,.pointer none,.nilFunc,ah 0,.slice none 0 0],7,88):=by kernel_rfl
def oY{P:Program}(w:aa)(t ty e:TypeId)(i:TypeInfo)(ht:P.underlying t=some (.slice e))(hi:P.info? e=some i)(o ad:Option Addr)(n cap c:Nat)(u:n<=cap):(Builtin.append_ #[t,t] ty #[.slice o n cap,.slice ad 0 c]).run P w=.ok (.slice o n cap) w:=by
 cases o<;>cases ad<;>simp[Builtin.append_,Builtin.lenOf,Builtin.firstCells,run_underlying ht,sizeOf,typeInfo,hi,u,loadCells,loadCellsFrom,storeCells]
def lQ{P:Program}{ops:Array Oper}{a:Act}{K:Act->aa->Prop}{Q:Exit->Act->aa->Prop}{E:Prop}(Z:o.guard=none)(s x:Operand)(t:TypeId)(G:o.op=Op.call {callee:=Callee.builtin Builtin.append,args:=#[s,x],argTypes:=#[t,t]})(e:TypeId)(i:TypeInfo)(J:P.underlying t=some (.slice e))(Y:P.info? e=some i)(u ad:Option Addr)(n cap c:Nat)(W:a.eval s=.slice u n cap)(hx:a.eval x=.slice ad 0 c)(H:n<=cap)(hK:K (a.put o.dst<|.slice u n cap) w):if Region.wanted o (yielded ops a.tmps)=true then Oper.wp P o a w K Q else E:=by
 rw[bf<|by simp[Region.wanted,Z]];unfold Oper.wp;simp[execOp,G,resolve,invoke,builtin,W,hx,oY (P:=P) w t o.type e i J Y u ad n cap c H,Result.andThen];exact hK
theorem dS{size n:Nat}(h:w.ownsRow i e size v n xs)(y:∀k,v.ownBlock=some k->w'.heap[k]?=w.heap[k]?):w'.ownsRow i e size v n xs:=by
 refine⟨h.1,?_⟩;rcases h.2 with h|⟨g,cap,o,u,J,H,G⟩
 .grind
 exact ak ⟨g,cap,o,u,J,(y g<|kh u).trans H,G⟩
theorem dR{size n:Nat}(h:w.ownsRow i e size v n xs)(k:Nat)(u:v.ownBlock=some k):i<=k/\k<w.heap.size/\∃o,w.heap[k]?=some (.cells o e (0,0)):=by
 rcases h.2 with⟨h,_⟩|⟨g,cap,o,G,H,y,W⟩
 .rw[h]at u;cases u
 rw[G]at u;have J:g=k:=by injection u
 grind
theorem eU{o size n g Y m':Nat}{T:TypeId}{P:Nat->Value}(h:w.ownsRow o e size v n xs)(J:Full w g T Y m' P)(H:T≠e)(k:Nat)(G:v.ownBlock=some k):k≠g:=by
 rintro rfl;let⟨_,_,y,i⟩:=dR h k G;obtain⟨u,W,_⟩:=J;grind
def Fr(w:aa)(fb cb L nx rb nr:Nat)(back:Value)(R:Nat->B.V):Prop:=w.heap[fb]?=some (jG cb L nx rb nr back)/\Full w rb 149 (nr*2) (nr*2) (eR R)/\fb≠rb
theorem Fr.kept{nx:Nat}{back:Value}{R:Nat->B.V}(h:Fr w fb cb L nx rb nr back R)(i:w.grownBy w' none):Fr w' fb cb L nx rb nr back R:=
 ⟨da i h.1 ey,h.2.1.block<|i.block rb h.2.1.lt ey,h.2.2⟩
theorem I5{w1:aa}{J H u G W y o:Value}(Y:((w.alloc<|.cells #[J,H,u,G,W,y,o] 186).drew).grownBy w1 none):w1.cell? (az w.heap.size 0)=some J/\w1.cell? (az w.heap.size 1)=some H/\w1.cell? (az w.heap.size 2)=some u/\w1.cell? (az w.heap.size 3)=some G/\w1.cell? (az w.heap.size 4)=some W/\w1.cell? (az w.heap.size 5)=some y/\w1.cell? (az w.heap.size 6)=some o/\w.heap.size<w1.heap.size:=by
 have i:=da Y (show _ from bl w _) ey;exact⟨fj i,fj i,fj i,fj i,fj i,fj i,fj i,ch i⟩
theorem Ik(op a b c fb tb eb:Nat)(Y:b<256)(G:c<256)(w:aa):dC 84 #[ee op a b c fb tb eb] w (vA (0,B.wide b c)) λw'=>w.grownBy w' none:=by
 generalize o:B.wide b c=y;have u:=bj o;delta dC;go_in;go_wp2_with fail
 refine(zI op a b c Y G _).mono ?_;rw[u.out];rintro e w1 ⟨rfl,i⟩;have hz:=i.size;simp at hz;let⟨k0,k1⟩:=ay i (a:=az (w.heap.size+1) 0) eG;let⟨k2,H⟩:=ay i (a:=az (w.heap.size+1) 1) eG;simp[go_sem]at k0 k1 k2 H;have J:=bj<|ar (ax (aj _ _ _) _) i;go_wp2_with fail
 refine dq (fK y _) ?_;rintro w2 rfl;have W:w.heap.size+1<w1.heap.size:=af
 go_wp2
 refine dg (v:=vA (0,y)) (by simp[results,results84,go_sem,W,k0,k2]) rfl ⟨rfl,?_⟩;repeat (first|exact J|refine ax ?_ _|refine bu ?_ (ak eG) _)
theorem zP(op a b c fb tb eb cb L nx rb nr vb:Nat)(back:Value)(R:Nat->B.V)(hb:b<256)(W:c<256)(Y:a<nr)(w:aa)(J:Fr w fb cb L nx rb nr back R)(hv:w.cell? (az vb 0)=some (Fv 84 #[]))(Z:vb<w.heap.size):eN 148 #[ee op a b c fb tb eb,P0 vb] w λw'=>w.grownBy w' (some rb)/\Fr w' fb cb L nx rb nr back (B.set R a (0,B.wide b c)):=by
 have G:=bj J;clear J;have hn:=Ik op a b c fb tb eb hb W;generalize B.wide b c=y at*;have HN:Hid (∀w,dC 84 #[ee op a b c fb tb eb] w (vA (0,y)) λw'=>iY w w'):=hn;clear hn;delta eN;go_in;go_wp2_with fail
 go_region_with (first|(go_at_call 84;refine dq (HN _) λw1 o=>?_;obtain⟨s0,s1,s2,s3,s4,s5,s6,s7⟩:=I5 o;have i:Hid (iY w w1):=ar (by repeat (first|exact aw _ _|refine bo ?_|refine ax ?_ _)) o;clear o)|(go_at_call 149;refine dq (kU op a b c fb tb eb cb L nx rb nr back R (0,y) w1 (G.kept i).1 (G.kept i).2.1 Y) ?_;rintro w2 ⟨u,H⟩))
 all_goals
  go_wp2_with fail
  go_end0;refine⟨rfl,ar (eT i) u,da u (G.kept i).1 (by intro e;injection e with e;exact G.2.2 e),H,G.2.2⟩
theorem GL(op a b c fb tb eb cb L nx rb nr y vb:Nat)(back:Value)(R:Nat->B.V)(hb:b<256)(W:c<256)(ha:a<nr)(w:aa)(J:Fr w fb cb L nx rb nr back R)(Y:y<w.heap.size)(hw:w.cell? (az y 0)=some (Fv 148 #[P0 vb]))(Z:w.cell? (az vb 0)=some (Fv 84 #[]))(G:vb<w.heap.size):dC 163 #[ee op a b c fb tb eb,P0 y] w (ah 0) λw'=>w.grownBy w' (some rb)/\Fr w' fb cb L nx rb nr back (B.set R a (0,B.wide b c)):=by
 have KF:=bj J;delta dC;go_in;go_wp2_with fail
 refine dq (zP op a b c fb tb eb cb L nx rb nr vb back R hb W ha _ (KF.kept<|aj _ _ _) (by simp[go_sem,G,Z]) fV) ?_;rintro w1 ⟨i,o⟩;have u:=bj o;have H:=bj<|ar (aj _ _ _) i;go_wp2
 go_ret;exact⟨rfl,H,u⟩
def oc{P:Program}{ops:Array Oper}{rest:List Oper}{a:Act}{Q:Exit->Act->aa->Prop}(a6:o.guard=none)(s x:Operand)(t:TypeId)(ho:o.op=.call {callee:=.builtin .append,args:=#[s,x],argTypes:=#[t,t]})(G:Nat)(e:TypeId)(i:TypeInfo)(z:Value)(size bytes:Nat)(ht:P.underlying t=some (.slice e))(hi:P.info? e=some i)(hz:i.zero=some z)(H:i.size=size)(a4:i.bytes=bytes)(a7:z.cells.size=size)(aA:0<size)(g cap:Nat)(n:Nat)(xs:List Value)(hs:a.eval s=dD g n cap)(Z:w.ownsRow G e size (dD g n cap) n xs)(ad:Addr)(m c:Nat)(y:List Value)(hx:a.eval x=.slice (some ad) m c)(hl:y.length=m*size)(W:∀j u,y[j]?=some u->w.cell? (ad.add j)=some u)(h1:∀u∈y,u.oneCell'=true)(a8:n+m<=maxLen)(Y:(n+m)*bytes<=140737488355328)(a0:G<=w.heap.size)(J:n+m<=cap)(h:∀w',w'.ownsRow G e size (dD g (n+m) cap) (n+m) (xs++y)->w.grownBy w' (some g)->wpList P ops Q rest (a.put o.dst<|dD g (n+m) cap) w'):wpList P ops Q (o :: rest) a w:=by
 refine wpList_plain a6 λ_ hK=>?_;let⟨v',w',hr,h2,h3,h4⟩:=run_append_own (P:=P) w G t o.type e i z size bytes ht hi hz H a4 a7 aA _ n xs Z ad m c y hl W h1 a8 Y a0;have hv:v'=dD g (n+m) cap:=by
  rcases Z.2 with⟨h,_⟩|⟨g',c',a2,a5,_,a3,aC,aB,a9,_⟩
  .cases h
  cases a5;subst H;have a1:=run_append_room (P:=P) w t o.type e i ht hi g n cap a2 a3 ad m c y hl W h1 J (by rw[hl,a9,<-Nat.add_mul];exact Nat.mul_le_mul_right _ J);rw[hr]at a1;injection a1
 subst hv;unfold Oper.wp execOp;simp only[ho,resolve,invoke,builtin,Sem.run_bind,Sem.run_pure,Result.andThen_ok,List.map_toArray,List.map_cons,List.map_nil,hs,hx,hr];exact hK _ _<|h w' h2 h3
end
namespace B
structure Cy where
 m:Nat->Bool
 st:List Nat
 nx:Nat
structure Kd where
 on:Nat->Bool
 cy:Option Cy
 un:Nat
 fo:Nat
 cc:Nat
variable {e u:List Nat}{k nr p:Nat}{m on:Nat->Bool}{v:V}
def tX:Kd:=⟨λ_=>false,none,0,0,0⟩
def qX(on:Nat->Bool)(n:Nat)(v:V):Prop:=v.1=0\/(1<=v.1/\v.1<=n/\on v.1=true/\v.2=0)
def mark(m:Nat->Bool)(p:Nat):Nat->Bool:=λk=>if k=p then true else m k
theorem kF(m:Nat->Bool)(p:Nat):mark m p p=true:=if_pos rfl
theorem gg(m:Nat->Bool)(p k:Nat)(h:k≠p):mark m p k=m k:=if_neg h
theorem ld(p:Nat)(h:m k=true):mark m p k=true:=by grind[mark]
def free(m:Nat->Bool)(p:Nat):Nat->Bool:=λk=>if k=p then false else m k
theorem uu(m:Nat->Bool)(p:Nat):free m p p=false:=if_pos rfl
theorem zQ(m:Nat->Bool)(p k:Nat)(h:k≠p):free m p k=m k:=if_neg h
theorem IP(h:free m p k=true):m k=true:=by grind[free]
def jW(m:Nat->Bool):Nat->Nat
 |0=>0
 |n+1=>jW m n+if m (n+1)=true then 0 else 1
theorem su(m:Nat->Bool)(p:Nat):∀n,n<p->jW (mark m p) n=jW m n
 |0,_=>rfl
 |n+1,h=>by rw[jW,jW,su m p n af,gg m p _ af]
theorem sv(m:Nat->Bool)(p:Nat)(o:1<=p)(i:m p=false):∀n,p<=n->jW (mark m p) n+1=jW m n
 |0,h=>by omega
 |n+1,h=>by
  by_cases e:p=n+1
  .grind[jW,kF,su,B.jW.eq_2]
  rw[jW,jW,gg m p _ af];have:=sv m p o i n af;omega
theorem sw:∀n,jW (λ_=>false) n=n
 |0=>rfl
 |n+1=>by rw[jW,sw n];simp
def seen(m:Nat->Bool)(st:List Nat)(v:V):(Nat->Bool)×List Nat:=if v.1≠0/\m v.1=false then(mark m v.1,st++[v.1]) else(m,st)
def gF(m:Nat->Bool)(st:List Nat):List V->(Nat->Bool)×List Nat
 | []=>(m,st)
 |v :: r=>gF (seen m st v).1 (seen m st v).2 r
theorem qP(v:V):∀(l:List V) (m:Nat->Bool) (e:List Nat),gF m e (l++[v])=seen (gF m e l).1 (gF m e l).2 v
 | [],_,_=>rfl
 |u :: l,m,e=>by rw[List.cons_append,gF,qP v l];rfl
def jm(R:Nat->V)(nr:Nat):List V:=(List.range nr).map R
def CP(R:Nat->V)(j:Nat):jm R (j+1)=jm R j++[R j]:=by simp[jm,List.range_succ]
theorem mm{R:Nat->V}:v∈jm R nr↔∃i,i<nr/\R i=v:=by simp[jm]
theorem yO{n:Nat}(i:v.1≠0->v.1<=n):(seen m e v).2.length+jW (seen m e v).1 n=e.length+jW m n:=by
 unfold seen;split
 .rename_i h;have:=sv m v.1 af h.2 n<|i h.1;grind
 rfl
theorem lS{n:Nat}:∀(l:List V) (m:Nat->Bool) (e:List Nat),(∀v,v∈l->v.1≠0->v.1<=n)->(gF m e l).2.length+jW (gF m e l).1 n=e.length+jW m n
 | [],_,_,_=>rfl
 |v :: l,m,e,h=>by
  rw[gF,lS l _ _<|λu i=>h u<|List.mem_cons_of_mem _ i];grind[yO,List.mem_cons_self]
theorem ug(h:m k=true):(seen m e v).1 k=true:=by
 unfold seen;split
 .grind[ld]
 exact h
theorem Bm(h:k∈e):k∈(seen m e v).2:=by
 grind[seen]
theorem xF(h:v.1≠0):(seen m e v).1 v.1=true:=by
 unfold seen;split
 .grind[kF]
 grind
theorem uK(h:(seen m u v).1 k=true)(o:m k=false):k∈(seen m u v).2/\k=v.1/\v.1≠0:=by
 unfold seen at*;split at h
 .rename_i c;rw[if_pos c];grind[gg]
 grind
def DV(m:Nat->Bool)(st:List Nat)(rest:List V)(M:Nat->List V)(p:Nat):Prop:=
 ∀S:Nat->Prop,(∀k,m k=true->S k)->(∀k,k∈st->∀v,v∈M k->v.1≠0->S v.1)->(∀v,v∈rest->v.1≠0->S v.1)->(∀k,m k=false->S k->∀v,v∈M k->v.1≠0->S v.1)->S p
theorem Gh{y:List Nat}{rest:List V}{M:Nat->List V}(h:DV m y (v :: rest) M p):DV (seen m y v).1 (seen m y v).2 rest M p:=by
 intro S G H W J;refine h S (λk i=>G k<|ug i) (λk i=>H k<|Bm i) (λu e o=>?_)<|λk i hS u e o=>?_
 .grind[xF]
 grind[seen,uK]
theorem ts{M:Nat->List V}{p:Nat}:∀(l:List V) (m:Nat->Bool) (e:List Nat),DV m e l M p->DV (gF m e l).1 (gF m e l).2 [] M p
 | [],_,_,h=>h
 |_ :: l,_,_,h=>ts l _ _ (Gh h)
theorem IY{q:Nat}{M:Nat->List V}(h:DV m (u++[q]) [] M p):DV m u (M q) M p:=by
 intro S J H G y;refine h S J (λk e v i o=>?_) (λv i=>by grind) y;grind
def DG{s:St}(h:Reach nr s p):DV (λ_=>false) [] (jm s.2.1 nr) s.2.2 p:=by
 intro S _ _ u o;exact h S (λi hi y=>u _ (mm.2 ⟨i,hi,rfl⟩) y)<|λk e=>o k rfl e
theorem B9{M:Nat->List V}(h:DV m [] [] M p):m p=true:=
 h (λk=>m k=true) (λ_ h=>h) (λk i=>by grind) (λv o=>by grind) (λk u e=>by grind)
theorem AI{l:List V}{i:Nat}{u:V}(h:u∈l):u∈l.set i v\/u=l.getD i (0,0):=by
 obtain⟨j,o,rfl⟩:=List.getElem_of_mem h;by_cases e:i=j
 .grind
 left
 have:(l.set i v)[j]?=some l[j]:=by rw[List.getElem?_set,if_neg e,List.getElem?_eq_getElem o]
 grind
theorem IX{H:List Nat}{M:Nat->List V}(a i:Nat)(v:V)(h:DV m H [] M p):DV (seen m H<|(M a).getD i (0,0)).1 (seen m H<|(M a).getD i (0,0)).2 [] (lay M a<|(M a).set i v) p:=by
 intro S J Y _ h4;have y:∀k u,u∈M k->u∈lay M a ((M a).set i v) k\/u=(M a).getD i (0,0):=by
  intro k u y;by_cases e:k=a
  .grind[iG,AI]
  rw[gm _ _ _ _ e];exact Or.inl y
 refine h S (λk G=>J k<|ug G) (λk G u W o=>?_) (λv Z=>by grind)<|λk G hS u W o=>?_
 .grind[Bm,xF]
 grind[seen,uK,xF]
structure gE(on:Nat->Bool) (n:Nat) (M:Nat->List V) (c:Cy) (T:Nat->Prop):Prop where
 ha:∀p,T p->1<=p/\p<=n/\on p=true
 hb:∀p,T p->∀v,v∈M p->qX on n v/\(v.1≠0->T v.1)
 hc:∀p,c.m p=true->T p
 hd:∀p,p∈c.st->c.m p=true
 he:c.st.Nodup
 hf:∀p,T p->DV c.m c.st [] M p
 hg:0<c.nx->c.st=[]
 hh:c.nx<=n
 hi:∀p,1<=p->p<=c.nx->on p=true->c.m p=true
theorem yP{i:List Nat}{T:Nat->Prop}(y:∀p,m p=true->T p)(o:∀p,p∈i->m p=true)(he:i.Nodup)(u:v.1≠0->T v.1):(∀p,(seen m i v).1 p=true->T p)/\(∀p,p∈(seen m i v).2->(seen m i v).1 p=true)/\(seen m i v).2.Nodup:=by
 refine⟨λp e=>?_,λp e=>?_,?_⟩
 .cases h:m p
  .obtain⟨_,rfl,J⟩:=uK e h;grind
  grind
 .unfold seen at e⊢;split at e
  .rename_i c;rw[if_pos c];grind[ld,kF]
  rename_i c;rw[if_neg c];grind
 grind[seen,List.nodup_append]
theorem sR{T:Nat->Prop}:∀(l:List V) (m:Nat->Bool) (e:List Nat),(∀p,m p=true->T p)->(∀p,p∈e->m p=true)->e.Nodup->(∀v,v∈l->v.1≠0->T v.1)->(∀p,(gF m e l).1 p=true->T p)/\(∀p,p∈(gF m e l).2->(gF m e l).1 p=true)/\(gF m e l).2.Nodup
 | [],_,_,h1,h2,h3,_=>⟨h1,h2,h3⟩
 |v :: l,m,e,h1,h2,h3,h4=>by
  let⟨a,b,c⟩:=yP h1 h2 h3<|h4 v<|List.mem_cons_self ..;exact sR l _ _ a b c<|λu i=>h4 u<|List.mem_cons_of_mem _ i
theorem yQ:∀(l:List V) {m:Nat->Bool} {e:List Nat} {k:Nat},m k=true->(gF m e l).1 k=true
 | [],_,_,_,h=>h
 |_ :: l,_,_,_,h=>yQ l (ug h)
def Cv(M:Nat->List V)(c:Cy)(st:List Nat)(p:Nat):Cy:=⟨(gF c.m st<|M p).1,(gF c.m st<|M p).2,c.nx⟩
def look(c:Cy):Cy:=⟨c.m,c.st,c.nx+1⟩
def mC(on:Nat->Bool)(c:Cy):Nat->Bool:=if c.m (c.nx+1)=true then on else free on (c.nx+1)
theorem ki{c:Cy}(h:mC on c p=true):on p=true:=by
 unfold mC at h;grind[IP]
theorem Bg{c:Cy}(h:c.m p=true):mC on c p=on p:=by
 unfold mC;grind[zQ]
theorem Er{c:Cy}(h:mC on c (c.nx+1)=true):c.m (c.nx+1)=true:=by
 unfold mC at h;grind[uu]
section
variable {on:Nat->Bool}{n:Nat}{M:Nat->List V}{c:Cy}{T:Nat->Prop}
theorem gE.len(h:gE on n M c T):c.st.length<=n:=by
 have:=xU c.st ((List.range n).map (· + 1)) h.he (λx e=>by
  rw[uD];have:=h.ha x<|h.hc x<|h.hd x e;omega)
 grind
theorem sh(m:Nat->Bool):∀n,(((List.range n).map (· + 1)).filter m).length+jW m n=n
 |0=>rfl
 |n+1=>by
  have:=sh m n;grind[List.range_succ,List.length_append,jW,B.jW.eq_2]
theorem gE.sum(h:gE on n M c T):c.st.length+jW c.m n<=n:=by
 have i:=xU c.st (((List.range n).map (· + 1)).filter c.m) h.he (λx e=>by
  grind[uD,B.gE.ha,B.gE.hc,B.gE.hd])
 grind[sh]
theorem gE.Cv{i:List Nat}{p:Nat}(h:gE on n M c T)(e:c.st=i++[p]):gE on n M (Cv M c i p) T:=by
 have hn:=h.he;rw[e,List.nodup_append]at hn;let⟨a,b,d⟩:=sR (T:=T) (M p) c.m i h.hc (λk o=>h.hd k ey) hn.1<|λv y u=>(h.hb p (h.hc p<|h.hd p ey) v y).2 u;refine⟨h.ha,h.hb,a,b,d,λk o=>?_,λu=>?_,h.hh,λk W J H=>?_⟩
 .have:=h.hf k o;rw[e]at this;exact ts (M p) c.m i<|IY this
 .have:=h.hg u;grind
 have:=h.hi k W J H;exact yQ _ this
theorem gE.look(h:gE on n M c T)(H:c.st=[])(hn:c.nx<n):gE (mC on c) n M (look c) T:=by
 have G:=λp i=>by
  have:=h.hf p i;rw[H]at this;exact B9 this
 have Y:∀v,qX on n v->(v.1≠0->T v.1)->qX (mC on c) n v:=by
  rintro v (o|⟨o,y,u,Z⟩) W
  .exact Or.inl o
  exact Or.inr ⟨o,y,by grind[Bg],Z⟩
 refine⟨λp i=>?_,λp i v hm=>?_,h.hc,h.hd,h.he,h.hf,λ_=>H,hn,λp o y u=>?_⟩
 .let⟨a,b,d⟩:=h.ha p i;grind[Bg]
 .have:=h.hb p i v hm;grind
 by_cases e:p=c.nx+1
 .subst e;exact Er u
 have J:p<=c.nx+1:=y;exact h.hi p o af<|ki u
theorem gE.last(h:gE on n M c T)(e:c.st=[])(p:Nat):c.m p=true↔T p:=
 ⟨h.hc p,λi=>by have:=h.hf p i;grind[B9]⟩
end
def begun(R:Nat->V)(nr:Nat):Cy:=⟨(gF (λ_=>false) []<|jm R nr).1,(gF (λ_=>false) []<|jm R nr).2,0⟩
structure jP(kd:Kd) (nr n:Nat) (s:St):Prop where
 h1:∀i,i<nr->qX kd.on n (s.2.1 i)
 h2:∀p,Reach nr s p->∀v,v∈s.2.2 p->qX kd.on n v
 h3:∀c,kd.cy=some c->c.nx<n/\∃T,(∀p,Reach nr s p->T p)/\gE kd.on n s.2.2 c T
theorem mn{kd:Kd}{nr n:Nat}{s:St}(h:jP kd nr n s){p:Nat}(J:Reach nr s p):kd.on p=true/\1<=p/\p<=n:=by
 have:=J (λp=>Reach nr s p/\kd.on p=true/\1<=p/\p<=n) (λi hi o=>?_)<|λk G v H o=>?_
 .grind
 .rcases h.h1 i hi with e|⟨e,y,u,_⟩
  .omega
  grind[jS]
 rcases h.h2 k G.1 v H with e|⟨e,y,u,_⟩
 .omega
 grind[kK]
theorem oQ{kd:Kd}{nr n:Nat}{s:St}(h:jP kd nr n s):gE kd.on n s.2.2 (begun s.2.1 nr) (Reach nr s):=by
 let⟨a,b,d⟩:=sR (T:=Reach nr s) (jm s.2.1 nr) (λ_=>false) [] (λp h=>by cases h) (λp h=>by grind) eG (λv u o=>by
  grind[jS,B.mm])
 refine⟨λp e=>?_,λp e v u=>⟨h.h2 p e v u,λo=>kK e u o⟩,a,b,d,λp e=>ts _ _ _<|DG e,λo=>absurd o<|Nat.lt_irrefl 0,Nat.zero_le _,λp H G=>by have y:p<=0:=G;omega⟩;have:=mn h e;grind
end B
section
variable {e:TypeId}{o:Oper}{w:aa}{xs:List Value}
def gj(w:aa)(e:TypeId)(v:Value)(xs:List Value):Prop:=
 (v=.slice none 0 0/\xs=[]) \/
 ∃g off cap n P,v=.slice (some ⟨g,off,none⟩) xs.length cap/\xs.length<=cap/\cap<=maxLen/\off+cap<=n/\Full w g e n (off+xs.length) P/\∀j u,xs[j]?=some u->P (off+j)=u
theorem gj.lt{w:aa}{e:TypeId}{v:Value}{xs:List Value}(h:gj w e v xs):∀k,v.ownBlock=some k->k<w.heap.size:=by
 intro k i;rcases h with⟨rfl,_⟩|⟨g,off,cap,n,P,rfl,_,_,_,o,_⟩
 .simp[Value.ownBlock]at i
 simp[Value.ownBlock]at i;subst i;exact o.lt
theorem gj.block{w w':aa}{e:TypeId}{v:Value}{xs:List Value}(h:gj w e v xs)(u:∀k,v.ownBlock=some k->w'.heap[k]?=w.heap[k]?):gj w' e v xs:=by
 rcases h with h|⟨g,off,cap,n,P,rfl,o,G,y,i,hP⟩
 .exact ag h
 exact ak ⟨g,off,cap,n,P,rfl,o,G,y,i.block<|u g rfl,hP⟩
theorem gj.cell{w:aa}{e:TypeId}{g off len cap:Nat}{xs:List Value}(h:gj w e (.slice (some<|az g off) len cap) xs):len=xs.length/\∀j u,xs[j]?=some u->w.cell? (az g<|off+j)=some u:=by
 rcases h with⟨h,_⟩|⟨g',H,G,n,P,h,h1,h2,h3,J,hP⟩
 .cases h
 grind[Nat.lt_or_ge,List.getElem?_eq_none,Full.cell]
def gj.nil(w:aa)(e:TypeId):gj w e (.slice none 0 0) []:=ag ⟨rfl,rfl⟩
theorem gj.pop{ad:Option Addr}{cap:Nat}{x:Value}(h:gj w e (.slice ad (xs.length+1) cap) (xs++[x])):∃g off,ad=some (az g off)/\g<w.heap.size/\xs.length+1<=cap/\w.cell? (az g<|off+xs.length)=some x/\gj w e (.slice ad xs.length cap) xs:=by
 rcases h with⟨_,h⟩|⟨g,off,J,n,P,h,Y,h2,h3,i,hP⟩
 .grind
 injection h with a b c;subst a c;simp only[db,fh]at Y i;refine⟨g,off,rfl,i.lt,Y,?_,ak ⟨g,off,cap,n,P,rfl,af,h2,h3,?_,λj u y=>hP j u ?_⟩⟩
 .grind[Full.cell]
 .obtain⟨o,f1,f2,Z⟩:=i;exact⟨o,f1,f2,λj W=>Z j af⟩
 grind
theorem gj.ty{v:Value}(h:gj w e v xs)(k:Nat)(o:v.ownBlock=some k):∃i,w.heap[k]?=some (.cells i e (0,0)):=by
 rcases h with⟨rfl,_⟩|⟨g,off,cap,n,P,rfl,_,_,_,⟨i,u,_⟩,_⟩
 .simp[Value.ownBlock]at o
 grind[Value.ownBlock]
theorem xG{P:Program}(w:aa)(t ty e:TypeId)(i:TypeInfo)(z:Value)(bytes:Nat)(ht:P.underlying t=some (.slice e))(hi:P.info? e=some i)(hz:i.zero=some z)(H:i.size=1)(a8:i.bytes=bytes)(a7:z.cells.size=1)(v:Value)(xs:List Value)(hq:gj w e v xs)(ad:Addr)(c:Nat)(y:Value)(hy:w.cell? ad=some y)(h1:y.oneCell'=true)(hm:xs.length+1<=maxLen)(Y:(xs.length+1)*bytes<=140737488355328):∃g off cap w',(Builtin.append_ #[t,t] ty #[v,.slice (some ad) 1 c]).run P w=.ok (.slice (some<|az g off) (xs.length+1) cap) w'/\gj w' e (.slice (some<|az g off) (xs.length+1) cap) (xs++[y])/\w.grownBy w' v.ownBlock/\(v.ownBlock=some g\/g=w.heap.size):=by
 have a0:∀j u,[y][j]?=some u->w.cell? (ad.add j)=some u:=by
  intro j u o;match j,o with
  |0,o=>grind[Addr.add]
 have hs:Src P i.size t (.slice (some ad) 1 c) 1 [y] w:=Src.ofSlice w ht ad 1 c [y] ey a0 ey
 have grown:∀(b:Option Addr) (G:Nat),v=.slice b xs.length G->G<xs.length+1->(∀j u,xs[j]?=some u->∃a,b=some a/\w.cell? (a.add j)=some u)->∃g off cap w',(Builtin.append_ #[t,t] ty #[v,.slice (some ad) 1 c]).run P w=.ok (.slice (some<|az g off) (xs.length+1) cap) w'/\gj w' e (.slice (some<|az g off) (xs.length+1) cap) (xs++[y])/\w.grownBy w' v.ownBlock/\(v.ownBlock=some g\/g=w.heap.size):=by
  intro b G hv ho hc;subst hv;have a4:(Builtin.firstCells i.size xs.length<|.slice b xs.length G).run P w.drew=.ok xs.toArray w.drew:=by
   match b,hc with
   |none,hc=>
    have hx:xs=[]:=by
     cases xs with
     |nil=>rfl
     |cons a l=>obtain⟨_,h,_⟩:=hc 0 a rfl;cases h
    grind[run_firstCells_none]
   |some a,hc=>exact run_firstCells_some w.drew i.size xs.length a xs.length G xs ey<|λj u o=>by simp_all
  have hr:=run_append_grow_src (P:=P) w t t ty e i z ht hi hz b xs.length G xs a4 _ 1 [y] hs ho (by grind[maxLen]) (by rw[a8];exact growslice_fits ho Y);have Z:=grownCap_ge w (xs.length+1) G e;have a2:=grownCap_le_maxLen w (xs.length+1) G e hm;refine⟨_,_,_,_,hr,ak ⟨w.heap.size,0,_,grownCap w (xs.length+1) G e,λj=>(xs++[y]).getD j y,eG,ey,a2,af,⟨_,bl w.drew _,?_,λj J=>?_⟩,λj u o=>?_⟩,⟨rfl,rfl,rfl,eG,λk hk _=>Go.heap_alloc_old w.drew _ hk⟩,ak rfl⟩
  .simp only[Array.size_append,List.size_toArray,size_zeroCells,a7,db,List.length_cons,List.length_nil];omega
  .grind
  show(xs++[y]).getD (0+j) y=u;rw[Nat.zero_add,cw,o];rfl
 rcases hq with⟨rfl,rfl⟩|⟨g,off,cap,n,Q,rfl,aB,a2,hn,hF,hP⟩
 .grind
 by_cases W:xs.length+1<=cap
 .have hk:off+xs.length<n:=af
  have a3:=(hF.congr (Q:=eE Q (off+xs.length) y)<|λj J=>(eP _ _ _ _ af).symm).set hk;rw[gU]at a3;obtain⟨aA,hh,a5,_⟩:=hF;have hr:=run_append_room_src (P:=P) w t t ty e i ht hi g off xs.length cap _ 1 [y] hs W (by
   intro j J;simp at J;subst J
   rw[H,Nat.mul_one,Nat.add_zero];grind[World.cell?]) (by
   grind[World.frozen?])
  rw[H,Nat.mul_one]at hr;refine⟨g,off,cap,_,hr,ak ⟨g,off,cap,n,eE Q (off+xs.length) y,eG,ey,a2,hn,?_,λj u o=>?_⟩,?_,ag rfl⟩
  .rw[db];exact a3
  .grind[List.getElem?_append_left,eP,List.getElem?_append_right,Nat.lt_or_ge,List.getElem?_eq_none,gU]
  exact bu (a:=az g<|off+xs.length) (aw _ _) (ag rfl) y
 refine grown (some<|az g off) cap rfl af (λj u o=>⟨_,rfl,?_⟩);have J:j<xs.length:=by
  rcases Nat.lt_or_ge j xs.length with a6|Z
  .exact a6
  rw[dO Z]at o;cases o
 have:=hF.cell (off+j) af;rw[hP j u o]at this;rw[Addr.add_lit];exact this
theorem tD{P:Program}(w:aa){a:Act}{K:Act->aa->Prop}{Q:Exit->Act->aa->Prop}(s x:Operand)(t:TypeId)(ho:o.op=.call {callee:=.builtin .append,args:=#[s,x],argTypes:=#[t,t]})(e:TypeId)(i:TypeInfo)(z:Value)(bytes:Nat)(ht:P.underlying t=some (.slice e))(hi:P.info? e=some i)(hz:i.zero=some z)(G:i.size=1)(H:i.bytes=bytes)(J:z.cells.size=1)(v:Value)(xs:List Value)(hs:a.eval s=v)(hq:gj w e v xs)(ad:Addr)(c:Nat)(y:Value)(hx:a.eval x=.slice (some ad) 1 c)(Y:w.cell? ad=some y)(Z:y.oneCell'=true)(hm:xs.length+1<=maxLen)(u:(xs.length+1)*bytes<=140737488355328)(h:∀g off cap w',gj w' e (.slice (some<|az g off) (xs.length+1) cap) (xs++[y])->w.grownBy w' v.ownBlock->(v.ownBlock=some g\/g=w.heap.size)->K (a.put o.dst<|.slice (some<|az g off) (xs.length+1) cap) w'):o.wp P a w K Q:=by
 let⟨g,off,cap,w',W,h2,h3,h4⟩:=xG (P:=P) w t o.type e i z bytes ht hi hz G H J v xs hq ad c y Y Z hm u;unfold Oper.wp execOp;simp only[ho,resolve,invoke,builtin,Sem.run_bind,Sem.run_pure,Result.andThen_ok,List.map_toArray,List.map_cons,List.map_nil,hs,hx,W];exact h g off cap w' h2 h3 h4
def ju{P:Program}(w:aa){ops:Array Oper}{rest:List Oper}{a:Act}{Q:Exit->Act->aa->Prop}(J:o.guard=none)(s x:Operand)(t:TypeId)(ho:o.op=.call {callee:=.builtin .append,args:=#[s,x],argTypes:=#[t,t]})(e:TypeId)(i:TypeInfo)(z:Value)(bytes:Nat)(ht:P.underlying t=some (.slice e))(hi:P.info? e=some i)(hz:i.zero=some z)(G:i.size=1)(H:i.bytes=bytes)(W:z.cells.size=1)(v:Value)(xs:List Value)(hs:a.eval s=v)(hq:gj w e v xs)(ad:Addr)(c:Nat)(y:Value)(hx:a.eval x=.slice (some ad) 1 c)(Y:w.cell? ad=some y)(Z:y.oneCell'=true)(hm:xs.length+1<=maxLen)(u:(xs.length+1)*bytes<=140737488355328)(h:∀g off cap w',gj w' e (.slice (some<|az g off) (xs.length+1) cap) (xs++[y])->w.grownBy w' v.ownBlock->(v.ownBlock=some g\/g=w.heap.size)->wpList P ops Q rest (a.put o.dst<|.slice (some<|az g off) (xs.length+1) cap) w'):wpList P ops Q (o :: rest) a w:=
 wpList_plain J λ_ hK=>tD w s x t ho e i z bytes ht hi hz G H W v xs hs hq ad c y hx Y Z hm u λg off cap w' h2 h3 h4=>hK _ _<|h g off cap w' h2 h3 h4
theorem mf{P:Program}(w:aa){ops:Array Oper}{a:Act}{K:Act->aa->Prop}{Q:Exit->Act->aa->Prop}{E:Prop}(J:o.guard=none)(s x:Operand)(t:TypeId)(ho:o.op=.call {callee:=.builtin .append,args:=#[s,x],argTypes:=#[t,t]})(e:TypeId)(i:TypeInfo)(z:Value)(bytes:Nat)(ht:P.underlying t=some (.slice e))(hi:P.info? e=some i)(hz:i.zero=some z)(G:i.size=1)(H:i.bytes=bytes)(W:z.cells.size=1)(v:Value)(xs:List Value)(hs:a.eval s=v)(hq:gj w e v xs)(ad:Addr)(c:Nat)(y:Value)(hx:a.eval x=.slice (some ad) 1 c)(Y:w.cell? ad=some y)(Z:y.oneCell'=true)(hm:xs.length+1<=maxLen)(u:(xs.length+1)*bytes<=140737488355328)(h:∀g off cap w',gj w' e (.slice (some<|az g off) (xs.length+1) cap) (xs++[y])->w.grownBy w' v.ownBlock->(v.ownBlock=some g\/g=w.heap.size)->K (a.put o.dst<|.slice (some<|az g off) (xs.length+1) cap) w'):if Region.wanted o (yielded ops a.tmps)=true then Oper.wp P o a w K Q else E:=by
 rw[bf<|by simp[Region.wanted,J]];grind[tD]
def Tryz.AU:(prog.info? 48).map (λi=>(i.zero,i.size,i.bytes))=some (some<|.agg #[ah 0,ah 0,ah 0],3,24):=by kernel_rfl
def Tryz.uo:(prog.info? 149).map (λi=>(i.zero,i.size,i.bytes))=some (some<|.agg #[ah 0,ah 0],2,16):=by kernel_rfl
def Tryz.IG:(prog.info? 184).map (λi=>(i.zero,i.size,i.bytes))=some (some<|.pointer none,1,8):=by kernel_rfl
abbrev uz:=Nat×Nat×Int
def nB(ev:List uz):List Value:=ev.flatMap<|λx=>[.int .i64 (x.1:Int),.int .i64 (x.2.1:Int),.int .i64 x.2.2]
def IQ(a b:List uz):nB (a++b)=nB a++nB b:=by simp[nB]
end
namespace M
variable {f l op p r:Nat}{s:ByteArray}
def bt(s:ByteArray)(p:Nat):Nat:=(s.data[p]?.getD 0).toNat
def tk(s:ByteArray)(p lo hi:Nat):Bool:=decide (p<s.size/\lo<=bt s p/\bt s p<=hi)
def kd:List (List Nat):=[[114,107,107],[114,114,45],[114,114,114],[114,114,114],[114,114,114],[114,114,114],[114,114,114],[45,116,116],[114,116,116],[114,115,45],[114,114,114],[114,114,114],[114,102,114],[114,114,114],[114,45,45],[114,114,114],[45,45,45],[114,45,45],[114,114,45],[114,45,45],[114,45,45],[114,114,45],[114,45,45]]
def k0(op:Nat):Nat:=(kd.getD op []).getD 0 0
def k1(op:Nat):Nat:=(kd.getD op []).getD 1 0
def k2(op:Nat):Nat:=(kd.getD op []).getD 2 0
def lG(r f k:Nat):Nat:=if k=114 then r-1 else if k=102 then f-1 else if k=115 then 8 else if k=107 then 255 else 0
def xw(s:ByteArray)(p l:Nat):Nat×Bool:=
 if s.size<p+2 then(s.size,false) else if l<256*bt s p+bt s (p+1) then(p,false) else(p+2,true)
def uX(s:ByteArray)(p op r f l:Nat):Nat×Bool:=
 if tk s p 0 (lG r f<|k0 op)=true then
  if k1 op=116 then xw s (p+1) l
  else if tk s (p+1) 0 (lG r f<|k1 op)=true then
   if tk s (p+2) 0 (lG r f<|k2 op)=true then(p+3,true) else(p+2,false)
  else(p+1,false)
 else(p,false)
def ins(s:ByteArray)(p r f l:Nat):Nat×Bool:=
 if tk s p 0 22=true then uX s (p+1) (bt s p) r f l else(p,false)
def code(s:ByteArray)(r f l:Nat):Nat->Nat->Nat×Bool
 |p,0=>(p,true)
 |p,n+1=>if(ins s p r f l).2=true then code s r f l (ins s p r f l).1 n else((ins s p r f l).1,false)
def fn(s:ByteArray)(p f:Nat):Nat×Bool:=
 if tk s p 2 8=true then
  if tk s (p+1) 1 200=true then code s (bt s p) f (bt s<|p+1) (p+2) (bt s<|p+1) else(p+1,false)
 else(p,false)
def fns(s:ByteArray)(f:Nat):Nat->Nat->Nat×Bool
 |p,0=>(p,true)
 |p,n+1=>if(fn s p f).2=true then fns s f (fn s p f).1 n else((fn s p f).1,false)
def nK(s:ByteArray):Nat×Bool:=
 if tk s 0 1 8=true then((fns s (bt s 0) 1<|bt s 0).1,(fns s (bt s 0) 1<|bt s 0).2&&decide ((fns s (bt s 0) 1<|bt s 0).1=s.size)) else(0,false)
def ops(s:ByteArray)(r f l:Nat):List Nat->Nat->Nat×Bool
 | [],q=>(q,true)
 |k :: ks,q=>if k=116 then xw s q l else if tk s q 0 (lG r f k)=true then ops s r f l ks (q+1) else(q,false)
def vm:∀e,e<23->kd.getD e []=[k0 e,k1 e,k2 e]/\k0 e≠116/\(k1 e≠116->k2 e≠116):=by decide
theorem BC(s:ByteArray)(p op r f l:Nat)(h:op<23):ops s r f l (kd.getD op []) p=uX s p op r f l:=by
 let⟨u,o,i⟩:=vm op h;rw[u];unfold uX;simp only[ops,if_neg o];grind
def Gu(s:ByteArray)(p:Nat):bt s p<256:=by
 unfold bt;exact UInt8.toNat_lt _
def pc(s:ByteArray)(p:Nat)(h:p<s.size):bt s p=(s[p]'h).toNat:=by
 unfold bt;rw[Array.getElem?_eq_getElem h];rfl
theorem gZ{e hi:Nat}(h:tk s p e hi=true):p<s.size/\e<=bt s p/\bt s p<=hi:=by
 grind[tk]
theorem JW(h:p<=s.size):p<=(xw s p l).1/\(xw s p l).1<=s.size:=by
 unfold xw;grind
theorem E7(h:p<=s.size):p<=(uX s p op r f l).1/\(uX s p op r f l).1<=s.size:=by
 unfold uX;split
 .rename_i o;have:=gZ o;split
  .grind[JW]
  split
  .rename_i i;have:=gZ i;split
   .rename_i e;have:=gZ e;omega
   omega
  omega
 omega
theorem AT(h:p<=s.size):p<=(ins s p r f l).1/\(ins s p r f l).1<=s.size:=by
 unfold ins;split
 .rename_i e;have:=gZ e;grind[E7,bt]
 omega
theorem uk(h:(uX s p op r f l).2=true):(uX s p op r f l).1=p+3:=by
 unfold uX at*;by_cases o:tk s p 0 (lG r f<|k0 op)=true
 .rw[if_pos o]at h⊢;by_cases u:k1 op=116
  .rw[if_pos u]at h⊢;unfold xw at*;grind
  grind
 grind
theorem xV(h:(ins s p r f l).2=true):(ins s p r f l).1=p+4:=by
 unfold ins at*;split at h
 .rw[mL,uk h]
 grind
theorem IZ(n:Nat):∀p,p<=s.size->p<=(code s r f l p n).1/\(code s r f l p n).1<=s.size:=by
 induction n with
 |zero=>grind[code]
 |succ n e=>
  grind[AT,code,M.code.eq_def]
theorem M9(h:p<=s.size):p<=(fn s p f).1/\(fn s p f).1<=s.size:=by
 unfold fn;split
 .rename_i i;have:=gZ i;split
  .rename_i e;have:=gZ e;grind[IZ,bt]
  omega
 omega
def fT(S:ByteArray):List Nat:=S.data.toList.map UInt8.toNat
def KS(op:Nat):ByteArray:=⟨((kd.getD op []).map UInt8.ofNat).toArray⟩
def pX:∀e,e<23->fT (KS e)=kd.getD e []/\(KS e).size=3:=by decide
def oT(S:ByteArray)(k:Nat)(h:k<S.size):(fT S).drop k=S[k].toNat :: (fT S).drop (k+1):=by
 rw[List.drop_eq_getElem_cons<|by simpa[fT] using h];simp[fT];rfl
def tI(S:ByteArray):(fT S).drop S.size=[]:=by
 simp[List.drop_of_length_le,fT]
theorem oV(s:ByteArray)(p q i:Nat)(h:q<=s.size)(hi:p+i<q):bt (s.extract p q) i=bt s (p+i):=by
 unfold bt;have:(s.extract p q).data=s.data.extract p q:=by simp
 grind
theorem Gj(n:Nat):∀p,(code s r f l p n).2=true->(code s r f l p n).1=p+4*n:=by
 induction n with
 |zero=>intro p _;rfl
 |succ n i=>
  intro p h;unfold code at h⊢;by_cases e:(ins s p r f l).2=true
  .rw[if_pos e]at h⊢;grind[xV]
  grind
theorem vw(h:(fn s p f).2=true):(fn s p f).1=p+2+4*bt s (p+1)/\2<=bt s p/\bt s p<=8/\1<=bt s (p+1)/\bt s (p+1)<=200:=by
 unfold fn at*;by_cases i:tk s p 2 8=true
 .rw[if_pos i]at h⊢;by_cases e:tk s (p+1) 1 200=true
  .rw[if_pos e]at h⊢;have:=gZ i;have:=gZ e;grind[Gj]
  grind
 grind
def pos(s:ByteArray):Nat->Nat
 |0=>1
 |k+1=>pos s k+2+4*bt s (pos s k+1)
end M
section
def Tryz.Jx:(prog.info? 5).map (λi=>(i.zero,i.size,i.bytes))=some (some<|dz 0,1,1):=by kernel_rfl
