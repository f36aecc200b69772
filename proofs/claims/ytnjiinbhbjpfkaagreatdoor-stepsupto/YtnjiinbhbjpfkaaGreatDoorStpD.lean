import Derived.Deep.AppendSrc
import Derived.Test.YtnjiinbhbjpfkaaGreatDoorStpC
set_option maxRecDepth 100000
set_option maxHeartbeats 0
set_option linter.all false
namespace Go.Proofs.YtnjiinbhbjpfkaaGreatDoor
open Go.RowKit Go.Proofs.Tryz
section
def fM(w:World)(e:TypeId)(v:Value)(xs:List Value):Prop:=
 (v=.slice none 0 0/\xs=[]) \/
 ∃g off cap n P,v=.slice (some ⟨g,off,none⟩) xs.length cap/\xs.length<=cap/\cap<=maxLen/\off+cap<=n/\Full w g e n (off+xs.length) P/\∀j u,xs[j]? = some u->P (off+j)=u
theorem fM.lt{w:World}{e:TypeId}{v:Value}{xs:List Value}(h:fM w e v xs):∀k,v.ownBlock=some k->k<w.heap.size:=by
 intro k i;rcases h with⟨rfl,_⟩|⟨g,off,cap,n,P,rfl,_,_,_,o,_⟩
 .simp[Value.ownBlock]at i
 simp[Value.ownBlock]at i;subst i;exact o.lt
theorem fM.block{w w':World}{e:TypeId}{v:Value}{xs:List Value}(h:fM w e v xs)(u:∀k,v.ownBlock=some k->w'.heap[k]? = w.heap[k]?):fM w' e v xs:=by
 rcases h with h|⟨g,off,cap,n,P,rfl,o,G,y,i,hP⟩
 .exact ag h
 exact ab ⟨g,off,cap,n,P,rfl,o,G,y,i.block (u g rfl),hP⟩
theorem fM.cell{w:World}{e:TypeId}{g off len cap:Nat}{xs:List Value}(h:fM w e (.slice (some ⟨g,off,none⟩) len cap) xs):len=xs.length/\∀j u,xs[j]? = some u->w.cell? ⟨g,off+j,none⟩=some u:=by
 rcases h with⟨h,_⟩|⟨g',H,G,n,P,h,h1,h2,h3,J,hP⟩
 .cases h
 injection h with a b c;injection a with a;injection a with W Y;subst W Y;refine⟨b,λj u i=>?_⟩;have Z:j<xs.length:=by
  rcases Nat.lt_or_ge j xs.length with o|y
  .exact o
  rw[cw y]at i;cases i
 rw[J.cell (off+j) (by omega),hP j u i]
theorem fM.nil(w:World)(e:TypeId):fM w e (.slice none 0 0) []:=ag ⟨rfl,rfl⟩
theorem fM.pop{w:World}{e:TypeId}{ad:Option Addr}{cap:Nat}{xs:List Value}{x:Value}(h:fM w e (.slice ad (xs.length+1) cap) (xs++[x])): ∃g off,ad=some ⟨g,off,none⟩/\g<w.heap.size/\xs.length+1<=cap/\w.cell? ⟨g,off+xs.length,none⟩=some x/\fM w e (.slice ad xs.length cap) xs:=by
 rcases h with⟨_,h⟩|⟨g,off,J,n,P,h,Y,h2,h3,i,hP⟩
 .simp at h
 injection h with a b c;subst a c;simp only[bo,eF]at Y i;refine⟨g,off,rfl,i.lt,Y,?_,ab ⟨g,off,cap,n,P,rfl,by omega,h2,h3,?_,λj u y=>hP j u ?_⟩⟩
 .rw[i.cell (off+xs.length) (by omega),hP xs.length x (by simp)]
 .obtain⟨o,f1,f2,Z⟩:=i;exact⟨o,f1,f2,λj W=>Z j (by omega)⟩
 have W:j<xs.length:=by
  rcases Nat.lt_or_ge j xs.length with G|H
  .exact G
  rw[cw H]at y;cases y
 rw[du W];exact y
theorem fM.ty{w:World}{e:TypeId}{v:Value}{xs:List Value}(h:fM w e v xs)(k:Nat)(o:v.ownBlock=some k):∃i,w.heap[k]? = some (.cells i e (0,0)):=by
 rcases h with⟨rfl,_⟩|⟨g,off,cap,n,P,rfl,_,_,_,⟨i,u,_⟩,_⟩
 .simp[Value.ownBlock]at o
 simp[Value.ownBlock]at o;subst o;exact⟨i,u⟩
theorem uY{P:Program}(w:World)(t ty e:TypeId)(i:TypeInfo)(z:Value)(bytes:Nat)(ht:P.underlying t=some (.slice e))(hi:P.info? e=some i)(hz:i.zero=some z)(H:i.size=1)(a8:i.bytes=bytes)(a7:z.cells.size=1)(v:Value)(xs:List Value)(hq:fM w e v xs)(ad:Addr)(c:Nat)(y:Value)(hy:w.cell? ad=some y)(h1:y.oneCell'=true)(hm:xs.length+1<=maxLen)(Y:(xs.length+1)*bytes<=140737488355328): ∃g off cap w',(Builtin.append_ #[t,t] ty #[v,.slice (some ad) 1 c]).run P w=.ok (.slice (some ⟨g,off,none⟩) (xs.length+1) cap) w'/\fM w' e (.slice (some ⟨g,off,none⟩) (xs.length+1) cap) (xs++[y])/\w.grownBy w' v.ownBlock/\(v.ownBlock=some g\/g=w.heap.size):=by
 have a0:∀j u,[y][j]? = some u->w.cell? (ad.add j)=some u:=by
  intro j u o;match j,o with
  | 0,o=>simp at o;subst o;simpa[Addr.add] using hy
 have hs:Src P i.size t (.slice (some ad) 1 c) 1 [y] w:=Src.ofSlice w ht ad 1 c [y] (by rw[H];rfl) a0 (by intro u o;simp at o;subst o;exact h1)
 have grown:∀(b:Option Addr) (G:Nat),v=.slice b xs.length G->G<xs.length+1->(∀j u,xs[j]? = some u->∃a,b=some a/\w.cell? (a.add j)=some u)->∃g off cap w',(Builtin.append_ #[t,t] ty #[v,.slice (some ad) 1 c]).run P w=.ok (.slice (some ⟨g,off,none⟩) (xs.length+1) cap) w'/\fM w' e (.slice (some ⟨g,off,none⟩) (xs.length+1) cap) (xs++[y])/\w.grownBy w' v.ownBlock/\(v.ownBlock=some g\/g=w.heap.size):=by
  intro b G hv ho hc;subst hv;have a4:(Builtin.firstCells i.size xs.length (.slice b xs.length G)).run P w.drew=.ok xs.toArray w.drew:=by
   match b,hc with
   | none,hc=>
    have hx:xs=[]:=by
     cases xs with
     | nil=>rfl
     | cons a l=>obtain⟨_,h,_⟩:=hc 0 a rfl;cases h
    subst hx;exact run_firstCells_none w.drew i.size 0 0 G
   | some a,hc=>exact run_firstCells_some w.drew i.size xs.length a xs.length G xs (by rw[H,Nat.mul_one]) (λj u o=>by obtain⟨a',h,h2⟩:=hc j u o;cases h;simpa using h2)
  have hr:=run_append_grow_src (P:=P) w t t ty e i z ht hi hz b xs.length G xs a4 _ 1 [y] hs ho (by unfold maxLen at hm;omega) (by rw[a8];exact growslice_fits ho Y);have Z:=grownCap_ge w (xs.length+1) G e;have a2:=grownCap_le_maxLen w (xs.length+1) G e hm;refine⟨_,_,_,_,hr,ab ⟨w.heap.size,0,_,grownCap w (xs.length+1) G e,λj=>(xs++[y]).getD j y,by simp,by simpa using Z,a2,by omega,⟨_,bf w.drew _,?_,λj J=>?_⟩,λj u o=>?_⟩,⟨rfl,rfl,rfl,by simp,λk hk _=>Go.heap_alloc_old w.drew _ hk⟩,ab rfl⟩
  .simp only[Array.size_append,List.size_toArray,size_zeroCells,a7,bo,List.length_cons,List.length_nil];omega
  .have a1:j<(xs++[y]).length:=by simpa using J
   rw[Array.getElem?_append_left (by simpa using a1),List.getElem?_toArray,bn a1];show _=some ((xs++[y]).getD j y);rw[ar,bn a1];rfl
  show(xs++[y]).getD (0+j) y=u;rw[Nat.zero_add,ar,o];rfl
 rcases hq with⟨rfl,rfl⟩|⟨g,off,cap,n,Q,rfl,aB,a2,hn,hF,hP⟩
 .exact grown none 0 rfl (by omega) (λj u o=>by simp at o)
 by_cases W:xs.length+1<=cap
 .have hk:off+xs.length<n:=by omega
  have a3:=(hF.congr (Q:=ep Q (off+xs.length) y) (λj J=>(eG _ _ _ _ (by omega)).symm)).set hk;rw[gf]at a3;obtain⟨aA,hh,a5,_⟩:=hF;have hr:=run_append_room_src (P:=P) w t t ty e i ht hi g off xs.length cap _ 1 [y] hs W (by
   intro j J;simp at J;subst J
   rw[H,Nat.mul_one,Nat.add_zero];simp[World.cell?,hh,a5,hk]) (by
   intro j J;simp at J;subst J
   simp[World.frozen?,hh])
  rw[H,Nat.mul_one]at hr;refine⟨g,off,cap,_,hr,ab ⟨g,off,cap,n,ep Q (off+xs.length) y,by simp,by simpa using W,a2,hn,?_,λj u o=>?_⟩,?_,ag rfl⟩
  .rw[bo];exact a3
  .by_cases J:j<xs.length
   .rw[du J]at o;rw[eG _ _ _ _ (by omega)];exact hP j u o
   rw[dX (by omega)]at o;have:j=xs.length:=by
    rcases Nat.lt_or_ge (j-xs.length) 1 with h|h
    .omega
    rw[cw (by simpa using h)]at o;cases o
   subst this;simp at o;rw[gf];exact o
  exact bp (a:=⟨g,off+xs.length,none⟩) (ax _ _) (ag rfl) y
 refine grown (some ⟨g,off,none⟩) cap rfl (by omega) (λj u o=>⟨_,rfl,?_⟩);have J:j<xs.length:=by
  rcases Nat.lt_or_ge j xs.length with a6|Z
  .exact a6
  rw[cw Z]at o;cases o
 have:=hF.cell (off+j) (by omega);rw[hP j u o]at this;rw[Addr.add_lit];exact this
theorem qx{P:Program}(w:World){o:Oper}{a:Act}{K:Act->World->Prop}{Q:Exit->Act->World->Prop}(s x:Operand)(t:TypeId)(ho:o.op=.call { callee:=.builtin .append,args:=#[s,x],argTypes:=#[t,t] })(e:TypeId)(i:TypeInfo)(z:Value)(bytes:Nat)(ht:P.underlying t=some (.slice e))(hi:P.info? e=some i)(hz:i.zero=some z)(G:i.size=1)(H:i.bytes=bytes)(J:z.cells.size=1)(v:Value)(xs:List Value)(hs:a.eval s=v)(hq:fM w e v xs)(ad:Addr)(c:Nat)(y:Value)(hx:a.eval x=.slice (some ad) 1 c)(Y:w.cell? ad=some y)(Z:y.oneCell'=true)(hm:xs.length+1<=maxLen)(u:(xs.length+1)*bytes<=140737488355328)(h:∀g off cap w',fM w' e (.slice (some ⟨g,off,none⟩) (xs.length+1) cap) (xs++[y])->w.grownBy w' v.ownBlock->(v.ownBlock=some g\/g=w.heap.size)->K (a.put o.dst (.slice (some ⟨g,off,none⟩) (xs.length+1) cap)) w'):o.wp P a w K Q:=by
 obtain⟨g,off,cap,w',W,h2,h3,h4⟩:=uY (P:=P) w t o.type e i z bytes ht hi hz G H J v xs hq ad c y Y Z hm u;unfold Oper.wp execOp;simp only[ho,resolve,invoke,builtin,Sem.run_bind,Sem.run_pure,Result.andThen_ok,List.map_toArray,List.map_cons,List.map_nil,hs,hx,W];exact h g off cap w' h2 h3 h4
theorem gZ{P:Program}(w:World){ops:Array Oper}{rest:List Oper}{o:Oper}{a:Act}{Q:Exit->Act->World->Prop}(J:o.guard=none)(s x:Operand)(t:TypeId)(ho:o.op=.call { callee:=.builtin .append,args:=#[s,x],argTypes:=#[t,t] })(e:TypeId)(i:TypeInfo)(z:Value)(bytes:Nat)(ht:P.underlying t=some (.slice e))(hi:P.info? e=some i)(hz:i.zero=some z)(G:i.size=1)(H:i.bytes=bytes)(W:z.cells.size=1)(v:Value)(xs:List Value)(hs:a.eval s=v)(hq:fM w e v xs)(ad:Addr)(c:Nat)(y:Value)(hx:a.eval x=.slice (some ad) 1 c)(Y:w.cell? ad=some y)(Z:y.oneCell'=true)(hm:xs.length+1<=maxLen)(u:(xs.length+1)*bytes<=140737488355328)(h:∀g off cap w',fM w' e (.slice (some ⟨g,off,none⟩) (xs.length+1) cap) (xs++[y])->w.grownBy w' v.ownBlock->(v.ownBlock=some g\/g=w.heap.size)->wpList P ops Q rest (a.put o.dst (.slice (some ⟨g,off,none⟩) (xs.length+1) cap)) w'):wpList P ops Q (o :: rest) a w:=
 wpList_plain J λ_ hK=>qx w s x t ho e i z bytes ht hi hz G H W v xs hs hq ad c y hx Y Z hm u λg off cap w' h2 h3 h4=>hK _ _ (h g off cap w' h2 h3 h4)
theorem oz{P:Program}(w:World){ops:Array Oper}{o:Oper}{a:Act}{K:Act->World->Prop}{Q:Exit->Act->World->Prop}{E:Prop}(J:o.guard=none)(s x:Operand)(t:TypeId)(ho:o.op=.call { callee:=.builtin .append,args:=#[s,x],argTypes:=#[t,t] })(e:TypeId)(i:TypeInfo)(z:Value)(bytes:Nat)(ht:P.underlying t=some (.slice e))(hi:P.info? e=some i)(hz:i.zero=some z)(G:i.size=1)(H:i.bytes=bytes)(W:z.cells.size=1)(v:Value)(xs:List Value)(hs:a.eval s=v)(hq:fM w e v xs)(ad:Addr)(c:Nat)(y:Value)(hx:a.eval x=.slice (some ad) 1 c)(Y:w.cell? ad=some y)(Z:y.oneCell'=true)(hm:xs.length+1<=maxLen)(u:(xs.length+1)*bytes<=140737488355328)(h:∀g off cap w',fM w' e (.slice (some ⟨g,off,none⟩) (xs.length+1) cap) (xs++[y])->w.grownBy w' v.ownBlock->(v.ownBlock=some g\/g=w.heap.size)->K (a.put o.dst (.slice (some ⟨g,off,none⟩) (xs.length+1) cap)) w'): if Region.wanted o (yielded ops a.tmps)=true then Oper.wp P o a w K Q else E:=by
 rw[aj (by simp[Region.wanted,J])];exact qx w s x t ho e i z bytes ht hi hz G H W v xs hs hq ad c y hx Y Z hm u h
def tZ(k:Bool):Value:=.int .u8 (if k=true then 1 else 0)
def oL(k:Bool)(vb ln:Nat):Value:=if k=true then .slice (some ⟨vb,0,none⟩) ln ln else .slice none 0 0
def iM(kd:Nat->Bool)(vb:Nat->Nat)(M:Nat->List B.V):Nat->Value:=λj=>
 if j % 3=0 then tZ (kd (j / 3+1)) else if j % 3=1 then .int .i64 0 else oL (kd (j / 3+1)) (vb (j / 3+1)) (M (j / 3+1)).length
abbrev jQ(M:Nat->List B.V)(p:Nat):Nat->B.V:=λi=>(M p).getD i (0,0)
structure ow(w:World) (pb n:Nat) (on:Nat->Bool) (f:Nat->Nat) (M:Nat->List B.V):Prop where
 p:Full w pb 228 (n*3) (n*3) (iM on f M)
 s:∀p,1<=p->p<=n->on p=true->Full w (f p) 149 ((M p).length*2) ((M p).length*2) (eC (jQ M p))
 i:∀p q,1<=p->p<=n->1<=q->q<=n->on p=true->on q=true->f p=f q->p=q
 l:∀p,on p=true->(M p).length<=8
theorem ow.block{w w':World}{pb n:Nat}{on:Nat->Bool}{f:Nat->Nat}{M:Nat->List B.V}(h:ow w pb n on f M)(o:w'.heap[pb]? = w.heap[pb]?)(e:∀p,1<=p->p<=n->on p=true->w'.heap[f p]? = w.heap[f p]?):ow w' pb n on f M:=
 ⟨h.p.block o,λp a b c=>(h.s p a b c).block (e p a b c),h.i,h.l⟩
def mD(st:List Nat):List Value:=st.map (λp=>.int .i64 ((p-1:Nat):Int))
theorem uV(e:List Nat):(mD e).length=e.length:=by simp[mD]
theorem zq(a b:List Nat):mD (a++b)=mD a++mD b:=by simp[mD]
structure kY(w:World) (cb rd sb n:Nat) (ad:Option Addr) (cap:Nat) (c:B.Cy):Prop where
 b:w.heap[cb]? = some (.cells #[P0 sb,.slice (some ⟨rd,0,none⟩) n n,.slice ad c.st.length cap,.int .i64 c.nx] 275 (0,0))
 r:Full w rd 4 n n (λj=>.bool (c.m (j+1)))
 q:fM w 3 (.slice ad c.st.length cap) (mD c.st)
def eO(ad:Option Addr):Option Nat:=ad.map (·.block)
theorem dr(ad:Option Addr)(n c:Nat):(Value.slice ad n c).ownBlock=eO ad:=by cases ad<;>rfl
def nh(cb rd:Nat)(ad:Option Addr)(k:Nat):Prop:=k=cb\/k=rd\/eO ad=some k
theorem kY.block{w w':World}{cb i sb n:Nat}{ad:Option Addr}{cap:Nat}{c:B.Cy}(h:kY w cb i sb n ad cap c)(o:∀k,nh cb i ad k->w'.heap[k]? = w.heap[k]?):kY w' cb i sb n ad cap c:=
 ⟨(o cb (ag rfl)).trans h.b,h.r.block (o i (ab (ag rfl))),h.q.block (λk e=>o k (ab (ab (by rw[<-dr ad c.st.length cap];exact e))))⟩
theorem kY.lt{w:World}{cb i sb n:Nat}{ad:Option Addr}{cap:Nat}{c:B.Cy}(h:kY w cb i sb n ad cap c)(k:Nat)(e:nh cb i ad k):k<w.heap.size:=by
 rcases e with rfl|rfl|e
 .exact bz h.b
 .exact h.r.lt
 exact h.q.lt k (by rw[dr];exact e)
theorem kY.ty{w:World}{cb u sb n:Nat}{ad:Option Addr}{cap:Nat}{c:B.Cy}(h:kY w cb u sb n ad cap c)(k:Nat)(i:nh cb u ad k):∃e T,w.heap[k]? = some (.cells e T (0,0))/\(T=275\/T=4\/T=3):=by
 rcases i with rfl|rfl|i
 .exact⟨_,_,h.b,ag rfl⟩
 .obtain⟨e,o,_⟩:=h.r;exact⟨_,_,o,ab (ag rfl)⟩
 obtain⟨e,o⟩:=h.q.ty k (by rw[dr];exact i);exact⟨_,_,o,ab (ab rfl)⟩
theorem kY.kept{w w':World}{cb i sb n:Nat}{ad:Option Addr}{cap:Nat}{c:B.Cy}(h:kY w cb i sb n ad cap c)(u:w.grownBy w' none):kY w' cb i sb n ad cap c:=
 h.block (λk o=>u.block k (h.lt k o) (by intro e;cases e))
structure Vs where
 f:Nat->Nat
 cb:Nat
 rd:Nat
 ad:Option Addr
 cap:Nat
def Ax:Vs:=⟨λ_=>0,0,0,none,0⟩
def yg(kd:B.Kd)(vb:Vs):Value:=if kd.cy.isSome=true then P0 vb.cb else .pointer none
structure jm(w:World) (sb pb eb n:Nat) (kd:B.Kd) (vb:Vs) (M:Nat->List B.V):Prop where
 b:w.heap[sb]? = some (.cells #[.slice (some ⟨pb,0,none⟩) n n,.func (.func 59) #[P0 eb] #[],yg kd vb,.int .i64 (wrap64 (kd.un:Int)),.int .i64 (wrap64 (kd.fo:Int)),.int .i64 (wrap64 (kd.cc:Int))] 207 (0,0))
 p:ow w pb n kd.on vb.f M
 c:∀c,kd.cy=some c->kY w vb.cb vb.rd sb n vb.ad vb.cap c
def Own(n:Nat)(kd:B.Kd)(vb:Vs)(k:Nat):Prop:=(∃p,1<=p/\p<=n/\kd.on p=true/\vb.f p=k)\/(kd.cy.isSome=true/\nh vb.cb vb.rd vb.ad k)
theorem jm.block{w w':World}{sb pb eb n:Nat}{kd:B.Kd}{vb:Vs}{M:Nat->List B.V}(h:jm w sb pb eb n kd vb M)(u:w'.heap[sb]? = w.heap[sb]?)(y:w'.heap[pb]? = w.heap[pb]?)(i:∀k,Own n kd vb k->w'.heap[k]? = w.heap[k]?):jm w' sb pb eb n kd vb M:=
 ⟨u.trans h.b,h.p.block y (λp a b c=>i _ (ag ⟨p,a,b,c,rfl⟩)),λc e=>(h.c c e).block (λk o=>i k (ab ⟨by rw[e];rfl,o⟩))⟩
theorem dW{w:World}{a b:Nat}{x y:Array Value}{S T:TypeId}{f g:Nat×Nat}(i:w.heap[a]? = some (.cells x S f))(e:w.heap[b]? = some (.cells y T g))(h:S≠T):a≠b:=by
 rintro rfl;rw[i]at e;injection e with e;injection e with _ e _;exact h e
theorem qI(sb:Nat)(x:Int)(w:World):Calls prog 202 #[P0 sb,vA (0,x)] w λe w'=>e=.returned (.agg #[.int .u8 0,.int .i64 0,.slice none 0 0])/\w.grownBy w' none:=by
 have hi:=mP (0,x);simp only[ne_eq,not_true,decide_false]at hi;have H:=az hi;go_in;go_wp2_with fail
 refine(H.out _).mono ?_;rintro e w1 ⟨rfl,o⟩;have i:w1.heap[w.heap.size+1]? = some (.cells #[.int .u8 0,.int .i64 0,.slice none 0 0] 228 (0,0)):=by
  refine(o.block _ (by simp) (by intro e;cases e)).trans ?_;have:=bf (w.alloc (.cells #[.int .i64 ((0:Nat):Int),.int .i64 x] 149)) (.cells #[.int .u8 0,.int .i64 0,.slice none 0 0] 228);simpa using this
 have u:=az (an (au (ah w _ none) _) o);have G:w1.cell? ⟨w.heap.size+1,0,none⟩=some (.int .u8 0):=by simp[World.cell?,i]
 have J:w1.cell? ⟨w.heap.size+1,1,none⟩=some (.int .i64 0):=by simp[World.cell?,i]
 have y:w1.cell? ⟨w.heap.size+1,2,none⟩=some (.slice none 0 0):=by simp[World.cell?,i]
 have t0:w1.frozen? ⟨w.heap.size+1,0,none⟩=false:=by simp[World.frozen?,i]
 have Z:w1.frozen? ⟨w.heap.size+1,1,none⟩=false:=by simp[World.frozen?,i]
 have Y:w1.frozen? ⟨w.heap.size+1,2,none⟩=false:=by simp[World.frozen?,i]
 clear o i;go_wp2_with fail
 refine da (v:=.agg #[.int .u8 0,.int .i64 0,.slice none 0 0]) (by simp[results,results202,go_sem,G,J,y]) rfl ⟨rfl,?_⟩;repeat (first|exact u.out|refine bq ?_|refine au ?_ _|refine bp ?_ (ab (by simp)) _)
end
namespace F
structure Fb where
 b:Nat->Nat
 k:Nat->Nat
def Hm(k:Bool)(t:Nat):Nat:=if k=true then(if t=0 then 1 else 2) else 0
def tZ(k:Bool)(t:Nat):Value:=.int .u8 (Hm k t)
def DD(k:Bool)(t:Nat):Nat:=if k=true then t-1 else 0
def iM(kd:Nat->Bool)(vb:Fb)(M:Nat->List B.V):Nat->Value:=λj=>
 if j % 3=0 then tZ (kd (j / 3+1)) (vb.k (j / 3+1)) else if j % 3=1 then .int .i64 (DD (kd (j / 3+1)) (vb.k (j / 3+1)):Nat) else oL (kd (j / 3+1)) (vb.b (j / 3+1)) (M (j / 3+1)).length
theorem zI(kd:Nat->Bool)(vb:Fb)(M:Nat->List B.V)(k:Nat):iM kd vb M (k*3)=tZ (kd (k+1)) (vb.k (k+1)):=by
 unfold iM;rw[aj (by omega),show k*3 / 3=k by omega]
theorem zH(kd:Nat->Bool)(vb:Fb)(M:Nat->List B.V)(k:Nat):iM kd vb M (k*3+1)=.int .i64 (DD (kd (k+1)) (vb.k (k+1)):Nat):=by
 unfold iM;rw[aa (by omega),aj (by omega),show(k*3+1) / 3=k by omega]
theorem sQ(kd:Nat->Bool)(vb:Fb)(M:Nat->List B.V)(k:Nat):iM kd vb M (k*3+2)=oL (kd (k+1)) (vb.b (k+1)) (M (k+1)).length:=by
 unfold iM;rw[aa (by omega),aa (by omega),show(k*3+2) / 3=k by omega]
structure ow(w:World) (pb n:Nat) (on:Nat->Bool) (f:Fb) (M:Nat->List B.V):Prop where
 p:Full w pb 228 (n*3) (n*3) (iM on f M)
 s:∀p,1<=p->p<=n->on p=true->Full w (f.b p) 149 ((M p).length*2) ((M p).length*2) (eC (jQ M p))
 i:∀p q,1<=p->p<=n->1<=q->q<=n->on p=true->on q=true->f.b p=f.b q->p=q
 l:∀p,on p=true->(M p).length<=8
 k:∀p,on p=true->f.k p≠0->(M p).length=1
theorem ow.block{w w':World}{pb n:Nat}{on:Nat->Bool}{f:Fb}{M:Nat->List B.V}(h:ow w pb n on f M)(o:w'.heap[pb]? = w.heap[pb]?)(e:∀p,1<=p->p<=n->on p=true->w'.heap[f.b p]? = w.heap[f.b p]?):ow w' pb n on f M:=
 ⟨h.p.block o,λp a b c=>(h.s p a b c).block (e p a b c),h.i,h.l,h.k⟩
theorem ow.kept{w w':World}{pb n:Nat}{on:Nat->Bool}{f:Fb}{M:Nat->List B.V}(h:ow w pb n on f M)(i:w.grownBy w' none):ow w' pb n on f M:=
 h.block (i.block pb h.p.lt (by intro e;cases e)) (λp a b c=>i.block _ (h.s p a b c).lt (by intro e;cases e))
structure Vs where
 f:Fb
 cb:Nat
 rd:Nat
 ad:Option Addr
 cap:Nat
def Ax:Vs:=⟨⟨λ_=>0,λ_=>0⟩,0,0,none,0⟩
def yg(kd:B.Kd)(vb:Vs):Value:=if kd.cy.isSome=true then P0 vb.cb else .pointer none
structure jm(w:World) (sb pb eb n:Nat) (kd:B.Kd) (vb:Vs) (M:Nat->List B.V):Prop where
 b:w.heap[sb]? = some (.cells #[.slice (some ⟨pb,0,none⟩) n n,.func (.func 59) #[P0 eb] #[],yg kd vb,.int .i64 (wrap64 (kd.un:Int)),.int .i64 (wrap64 (kd.fo:Int)),.int .i64 (wrap64 (kd.cc:Int))] 207 (0,0))
 p:ow w pb n kd.on vb.f M
 c:∀c,kd.cy=some c->kY w vb.cb vb.rd sb n vb.ad vb.cap c
def Own(n:Nat)(kd:B.Kd)(vb:Vs)(k:Nat):Prop:=(∃p,1<=p/\p<=n/\kd.on p=true/\vb.f.b p=k)\/(kd.cy.isSome=true/\nh vb.cb vb.rd vb.ad k)
theorem jm.block{w w':World}{sb pb eb n:Nat}{kd:B.Kd}{vb:Vs}{M:Nat->List B.V}(h:jm w sb pb eb n kd vb M)(u:w'.heap[sb]? = w.heap[sb]?)(y:w'.heap[pb]? = w.heap[pb]?)(i:∀k,Own n kd vb k->w'.heap[k]? = w.heap[k]?):jm w' sb pb eb n kd vb M:=
 ⟨u.trans h.b,h.p.block y (λp a b c=>i _ (ag ⟨p,a,b,c,rfl⟩)),λc e=>(h.c c e).block (λk o=>i k (ab ⟨by rw[e];rfl,o⟩))⟩
theorem jm.lt{w:World}{sb pb eb n:Nat}{kd:B.Kd}{vb:Vs}{M:Nat->List B.V}(h:jm w sb pb eb n kd vb M)(k:Nat)(e:Own n kd vb k):k<w.heap.size:=by
 rcases e with⟨p,a,b,c,rfl⟩|⟨i,e⟩
 .exact(h.p.s p a b c).lt
 obtain⟨c,i⟩:=Option.isSome_iff_exists.1 i;exact(h.c c i).lt k e
theorem jm.kept{w w':World}{sb pb eb n:Nat}{kd:B.Kd}{vb:Vs}{M:Nat->List B.V}(h:jm w sb pb eb n kd vb M)(i:w.grownBy w' none):jm w' sb pb eb n kd vb M:=
 h.block (i.block sb (bz h.b) (by intro e;cases e)) (i.block pb h.p.p.lt (by intro e;cases e)) (λk o=>i.block k (h.lt k o) (by intro e;cases e))
theorem jm.ty{w:World}{sb pb eb n:Nat}{kd:B.Kd}{vb:Vs}{M:Nat->List B.V}(h:jm w sb pb eb n kd vb M)(k:Nat)(i:Own n kd vb k):∃e T,w.heap[k]? = some (.cells e T (0,0))/\(T=149\/T=275\/T=4\/T=3):=by
 rcases i with⟨p,a,b,c,rfl⟩|⟨o,i⟩
 .obtain⟨e,u,_⟩:=h.p.s p a b c;exact⟨_,_,u,ag rfl⟩
 obtain⟨c,o⟩:=Option.isSome_iff_exists.1 o;obtain⟨e,T,u,y⟩:=(h.c c o).ty k i;exact⟨e,T,u,ab y⟩
theorem Hl(k:Bool)(t:Nat):((Hm k t:Int) == 0)=!k:=by
 unfold Hm
 cases k
 .rfl
 by_cases h:t=0
 .simp[h]
 simp[h]
theorem yN(k:Bool)(t:Nat)(c1:Int)(v:Value)(w:World):Calls prog 140 #[.agg #[tZ k t,.int .i64 c1,v]] w λe w'=>e=.returned (.bool (!k))/\w.grownBy w' none:=by
 have h:=Hl k t;show Calls prog 140 #[.agg #[.int .u8 (Hm k t:Nat),.int .i64 c1,v]] w _;generalize Hm k t=y at *;rw[<-h];clear h;go_in;go_wp2_with fail
 go_ret;exact⟨rfl,ah _ _ _⟩
theorem qH(sb pb n k:Nat)(x:Int)(on:Nat->Bool)(f:Fb)(M:Nat->List B.V)(w:World)(h0:w.cell? ⟨sb,0,none⟩=some (.slice (some ⟨pb,0,none⟩) n n))(ls:sb<w.heap.size)(hP:ow w pb n on f M)(hk:k<n)(hn:n<=200): Calls prog 202 #[P0 sb,vA (k+1,x)] w λe w'=>e=.returned (.agg #[tZ (on (k+1)) (f.k (k+1)),.int .i64 (DD (on (k+1)) (f.k (k+1)):Nat),oL (on (k+1)) (f.b (k+1)) (M (k+1)).length])/\w.grownBy w' none:=by
 have hi:=mP (k+1,x);have hd:decide (k+1≠0)=true:=by simp
 rw[show((k+1,x):B.V).1=k+1 from rfl,hd]at hi;have HI:=az hi;have lp:=hP.p.lt;have c0:=hP.p.cell (k*3) (by omega);have c1:=hP.p.cell (k*3+1) (by omega);have c2:=hP.p.cell (k*3+2) (by omega);rw[zI]at c0;rw[zH]at c1;rw[sQ]at c2;clear hP hi hd;obtain⟨y0,Z⟩:∃y,tZ (on (k+1)) (f.k (k+1))=.int .u8 y:=⟨_,rfl⟩;generalize ((DD (on (k+1)) (f.k (k+1)):Nat):Int)=y1 at *;obtain⟨a2,n2,m2,a0⟩:∃a n m,oL (on (k+1)) (f.b (k+1)) (M (k+1)).length=.slice a n m:=by unfold oL;split<;>exact⟨_,_,_,rfl⟩
 rw[Z]at c0 ⊢;rw[a0]at c2 ⊢;clear Z a0;have a4:(k:Int)<n:=by omega
 go_in;go_wp2_with fail
 refine(HI _).mono ?_;rintro e w1 ⟨rfl,Y⟩;have hz:=Y.size;simp at hz;have hx:w1.heap[w.heap.size+1]? = some (.cells #[.int .u8 0,.int .i64 0,.slice none 0 0] 228 (0,0)):=by
  refine(Y.block _ (by simp) (by intro e;cases e)).trans ?_;have:=bf (w.alloc (.cells #[.int .i64 ((k:Int)+1),.int .i64 x] 149)) (.cells #[.int .u8 0,.int .i64 0,.slice none 0 0] 228);simpa using this
 have hv:w1.heap[w.heap.size]? = some (.cells #[.int .i64 ((k:Int)+1),.int .i64 x] 149 (0,0)):=by
  refine(Y.block _ (by simp;omega) (by intro e;cases e)).trans ?_;rw[ak _ _ _ (by simp)];exact bf w _
 have W:=az (an (au (ah w _ none) _) Y);have v0:w1.cell? ⟨w.heap.size,0,none⟩=some (.int .i64 ((k:Int)+1)):=by simp[World.cell?,hv]
 have v1:w1.cell? ⟨w.heap.size,1,none⟩=some (.int .i64 x):=by simp[World.cell?,hv]
 have HX:=az hx;have d0:=(bh W (a:=⟨sb,0,none⟩) ls).1.trans h0;have p0:=(bh W (a:=⟨pb,k*3,none⟩) lp).1.trans c0;have p1:=(bh W (a:=⟨pb,k*3+1,none⟩) lp).1.trans c1;have p2:=(bh W (a:=⟨pb,k*3+2,none⟩) lp).1.trans c2;have J:sb<w1.heap.size:=by omega
 have G:pb<w1.heap.size:=by omega
 clear Y hx hz hv h0 c0 c1 c2;have H:=az (ay p0 (ay p1 p2));clear p0 p1 p2;go_wp2_with fail
 go_region_with (go_at_call 201;refine((az (mg k x (by omega))).out w1.drew).mono ?_;rintro e w2 ⟨rfl,u⟩;have i:Hid (w1.grownBy w2 none):=⟨u.os,u.tape,u.output,u.size,u.block⟩;have d2:=(bh i (a:=⟨sb,0,none⟩) J).1.trans d0;have p0:=(bh i (a:=⟨pb,k*3,none⟩) G).1.trans H.1;have p1:=(bh i (a:=⟨pb,k*3+1,none⟩) G).1.trans H.2.1;have p2:=(bh i (a:=⟨pb,k*3+2,none⟩) G).1.trans H.2.2;have o:=cm i HX (by intro e;cases e);have r0:w2.cell? ⟨w.heap.size+1,0,none⟩=some (.int .u8 0):=(by simp[World.cell?,o]);have r1:w2.cell? ⟨w.heap.size+1,1,none⟩=some (.int .i64 0):=(by simp[World.cell?,o]);have r2:w2.cell? ⟨w.heap.size+1,2,none⟩=some (.slice none 0 0):=(by simp[World.cell?,o]);have t0:w2.frozen? ⟨w.heap.size+1,0,none⟩=false:=(by simp[World.frozen?,o]);have t1:w2.frozen? ⟨w.heap.size+1,1,none⟩=false:=(by simp[World.frozen?,o]);have t2:w2.frozen? ⟨w.heap.size+1,2,none⟩=false:=(by simp[World.frozen?,o]);clear u o)
 all_goals
  go_wp2_with fail
  refine da (v:=.agg #[.int .u8 y0,.int .i64 y1,.slice a2 n2 m2]) (by simp[results,results202,go_sem,r0,r1,r2]) rfl ⟨rfl,?_⟩;have a1:=an W i;repeat (first|exact a1|refine bq ?_|refine au ?_ _|refine bp ?_ (ab (by simp)) _)
theorem ua(pb n:Nat)(on:Nat->Bool)(f:Fb)(M:Nat->List B.V)(w:World)(hS:ow w pb n on f M)(hn:n<=200): Calls prog 229 #[.slice (some ⟨pb,0,none⟩) n n,Fv 140 #[]] w λe w'=>w.grownBy w' none/\((∃k:Nat,k<n/\on (k+1)=false/\e=.returned (.int .i64 k))\/((∀p,1<=p->p<=n->on p=true)/\e=.returned (.int .i64 (-1)))):=by
 have KS:=az hS;go_in;go_wp2_with fail
 go_loopw [8] (λi wr=>∃k:Nat,k<=n/\i=.int .i64 k/\Hid (∀p,1<=p->p<=k->on p=true)/\Hid (w.grownBy wr none)) (λi _=>n-(intOf i).toNat)
 case atStart=>exact⟨0,by omega,rfl,λp h1 h2=>(by omega),ax _ _⟩
 case round=>
  obtain⟨k,hk,rfl,hK,hG⟩:=hrel;by_cases W:k<n
  .have hS:=KS.kept hG;have c0:=hS.p.cell (k*3) (by omega);have c1:=hS.p.cell (k*3+1) (by omega);have Z:=hS.p.cell (k*3+2) (by omega);rw[zI]at c0;rw[zH]at c1;rw[sQ]at Z;have Y:=yN (on (k+1)) (f.k (k+1)) (DD (on (k+1)) (f.k (k+1)):Nat) (oL (on (k+1)) (f.b (k+1)) (M (k+1)).length);obtain⟨y0,o⟩:∃y,tZ (on (k+1)) (f.k (k+1))=.int .u8 y:=⟨_,rfl⟩;generalize ((DD (on (k+1)) (f.k (k+1)):Nat):Int)=y1 at *;obtain⟨a2,n2,m2,u⟩:∃a n m,oL (on (k+1)) (f.b (k+1)) (M (k+1)).length=.slice a n m:=by unfold oL;split<;>exact⟨_,_,_,rfl⟩
   rw[o]at c0;rw[u]at Z;rw[o,u]at Y;have HF:=az Y;have a0:(k:Int)<n:=by omega
   go_wp2_with fail
   refine(HF _).mono ?_;rintro e w1 ⟨rfl,G⟩;have H:=az (an hG G)
   cases hkd:on (k+1)
   .have J:=az hkd;simp only[Bool.not_false];go_wp2_with fail
    go_ret;exact⟨H,ag ⟨k,W,J,rfl⟩⟩
   have J:=az hkd;simp only[Bool.not_true];go_wp2_with fail
   go_roundw
   case rel=>
    refine⟨k+1,by omega,by go_num,λp h1 h2=>?_,H⟩;by_cases e:p=k+1
    .subst e;exact J
    exact hK p h1 (by omega)
   case measure=>simp[intOf];omega
  obtain rfl:k=n:=by omega
  go_wp2_with fail
  go_ret;exact⟨hG,ab ⟨hK,rfl⟩⟩
theorem oE(sb pb n:Nat)(on:Nat->Bool)(f:Fb)(M:Nat->List B.V)(w:World)(H:w.cell? ⟨sb,0,none⟩=some (.slice (some ⟨pb,0,none⟩) n n))(hS:ow w pb n on f M)(hn:n<=200): Calls prog 218 #[P0 sb] w λe w'=>w.grownBy w' none/\((∃k:Nat,k<n/\on (k+1)=false/\e=.returned (.int .i64 k))\/((∀p,1<=p->p<=n->on p=true)/\e=.returned (.int .i64 (-1)))):=by
 have G:=az (ua pb n on f M w hS hn);go_in;go_wp2_with fail
 refine G.mono ?_;rintro e w1 ⟨u,⟨k,o,y,rfl⟩|⟨o,rfl⟩⟩
 .have i:=az (ay u (ay o y));go_wp2_with fail
  go_ret;exact⟨i.1,ag ⟨k,i.2.1,i.2.2,rfl⟩⟩
 have i:=az (ay u o);go_wp2_with fail
 go_ret;exact⟨i.1,ab ⟨i.2,rfl⟩⟩
theorem jm.c0{w:World}{sb pb eb n:Nat}{kd:B.Kd}{vb:Vs}{M:Nat->List B.V}(h:jm w sb pb eb n kd vb M):w.cell? ⟨sb,0,none⟩=some (.slice (some ⟨pb,0,none⟩) n n):=by simp[World.cell?,h.b]
theorem yt(sb pb eb n k i:Nat)(x:Int)(kd:B.Kd)(vb:Vs)(M:Nat->List B.V)(w:World)(hS:jm w sb pb eb n kd vb M)(hn:n<=200)(hk:k<n)(J:kd.on (k+1)=true)(hi:i<(M (k+1)).length): Calls prog 159 #[P0 sb,vA (k+1,x),.int .i64 i] w λe w'=>e=.returned (vA ((M (k+1)).getD i (0,0)))/\w.grownBy w' none:=by
 have h0:=hS.c0;have ls:=bz hS.b;have lp:=hS.p.p.lt;have c2:=hS.p.p.cell (k*3+2) (by omega);rw[sQ,J]at c2;have hF:=hS.p.s (k+1) (by omega) (by omega) J;have lf:=hF.lt;have s0:=hF.cell (i*2) (by omega);have s1:=hF.cell (i*2+1) (by omega);rw[nE]at s0;rw[nD]at s1;have Y:oL true (vb.f.b (k+1)) (M (k+1)).length=.slice (some ⟨vb.f.b (k+1),0,none⟩) (M (k+1)).length (M (k+1)).length:=rfl;rw[Y]at c2;have a6:=hS.p.l _ J;show Calls prog 159 #[P0 sb,vA (k+1,x),.int .i64 i] w λe w'=>e=.returned (vA (jQ M (k+1) i))/\w.grownBy w' none;generalize jQ M (k+1) i=y at *;generalize (M (k+1)).length=m at *;generalize vb.f.b (k+1)=g at *;clear hS Y hF;have a3:(k:Int)<n:=by omega
 have a9:(i:Int)<m:=by omega
 go_in;go_wp2_with fail
 generalize hW:(w.alloc (.cells #[.int .i64 ((k:Int)+1),.int .i64 x] 149)).alloc (.cells #[.int .i64 0,.int .i64 0] 149)=w1;have Z:Hid (w.grownBy w1 none):=by rw[<-hW];exact au (ah _ _ _) _
 have hz:w1.heap.size=w.heap.size+2:=by rw[<-hW];simp
 have hx:w1.heap[w.heap.size+1]? = some (.cells #[.int .i64 0,.int .i64 0] 149 (0,0)):=by
  rw[<-hW];have:=bf (w.alloc (.cells #[.int .i64 ((k:Int)+1),.int .i64 x] 149)) (.cells #[.int .i64 0,.int .i64 0] 149);simpa using this
 have hv:w1.heap[w.heap.size]? = some (.cells #[.int .i64 ((k:Int)+1),.int .i64 x] 149 (0,0)):=by
  rw[<-hW,ak _ _ _ (by simp)];exact bf w _
 clear hW;have v0:w1.cell? ⟨w.heap.size,0,none⟩=some (.int .i64 ((k:Int)+1)):=by simp[World.cell?,hv]
 have v1:w1.cell? ⟨w.heap.size,1,none⟩=some (.int .i64 x):=by simp[World.cell?,hv]
 have HX:=az hx;have d0:=(bh Z (a:=⟨sb,0,none⟩) ls).1.trans h0;have p2:=(bh Z (a:=⟨pb,k*3+2,none⟩) lp).1.trans c2;have q0:=(bh Z (a:=⟨g,i*2,none⟩) lf).1.trans s0;have q1:=(bh Z (a:=⟨g,i*2+1,none⟩) lf).1.trans s1;have W:sb<w1.heap.size:=by omega
 have a0:pb<w1.heap.size:=by omega
 have H:g<w1.heap.size:=by omega
 have HQ:=az (ay p2 (ay q0 q1));clear hx hv h0 c2 s0 s1 p2 q0 q1 hz;go_region_with (go_at_call 201;refine((az (mg k x (by omega))).out w1.drew).mono ?_;rintro e w2 ⟨rfl,G⟩;have o:Hid (w1.grownBy w2 none):=⟨G.os,G.tape,G.output,G.size,G.block⟩;have d2:=(bh o (a:=⟨sb,0,none⟩) W).1.trans d0;have p2:=(bh o (a:=⟨pb,k*3+2,none⟩) a0).1.trans HQ.1;have q0:=(bh o (a:=⟨g,i*2,none⟩) H).1.trans HQ.2.1;have q1:=(bh o (a:=⟨g,i*2+1,none⟩) H).1.trans HQ.2.2;have u:=cm o HX (by intro e;cases e);have r0:w2.cell? ⟨w.heap.size+1,0,none⟩=some (.int .i64 0):=(by simp[World.cell?,u]);have r1:w2.cell? ⟨w.heap.size+1,1,none⟩=some (.int .i64 0):=(by simp[World.cell?,u]);have t0:w2.frozen? ⟨w.heap.size+1,0,none⟩=false:=(by simp[World.frozen?,u]);have t1:w2.frozen? ⟨w.heap.size+1,1,none⟩=false:=(by simp[World.frozen?,u]);clear G u)
 all_goals
  go_wp2_with fail
  refine da (v:=vA y) (by simp[results,results159,go_sem,r0,r1]) rfl ⟨rfl,?_⟩;have a2:=an Z o;repeat (first|exact a2|refine bq ?_|refine au ?_ _|refine bp ?_ (ab (by simp)) _)
def nA(v:B.V)(f:Fb)(M:Nat->List B.V):Value:=if v.1=0\/f.k v.1≠0 then .tuple #[.int .i64 0,.bool false] else .tuple #[.int .i64 (M v.1).length,.bool true]
theorem AP(sb pb eb n:Nat)(v:B.V)(kd:B.Kd)(vb:Vs)(M:Nat->List B.V)(w:World)(hS:jm w sb pb eb n kd vb M)(hn:n<=200)(hv:B.qO kd.on n v): Calls prog 200 #[P0 sb,vA v] w λe w'=>w.grownBy w' none/\e=.returned (nA v vb.f M):=by
 have KS:=az hS;clear hS;obtain⟨v1,v2⟩:=v;rcases hv with hv|⟨y,u,H,Y⟩
 .have hv:v1=0:=hv;subst hv;have G:nA (0,v2) vb.f M=.tuple #[.int .i64 0,.bool false]:=by unfold nA;rw[aj (ag rfl)]
  rw[G];go_in;go_wp2_with fail
  refine(qI sb v2 _).mono ?_;rintro e w1 ⟨rfl,o⟩;have Z:=az (an (ah w _ none) o);clear o;go_wp2_with fail
  go_ret2
  exact⟨au Z _,rfl⟩
 obtain⟨k,hk⟩:∃k,v1=k+1:=⟨v1-1,by omega⟩;subst hk;have i:kd.on (k+1)=true:=H;have a0:k<n:=by omega
 have W:=λw' (hS:jm w' sb pb eb n kd vb M)=>qH sb pb n k v2 kd.on vb.f M w' hS.c0 (bz hS.b) hS.p a0 hn;have e2:oL (kd.on (k+1)) (vb.f.b (k+1)) (M (k+1)).length=.slice (some ⟨vb.f.b (k+1),0,none⟩) (M (k+1)).length (M (k+1)).length:=by rw[i];rfl
 by_cases J:vb.f.k (k+1)=0
 .have e0:tZ (kd.on (k+1)) (vb.f.k (k+1))=.int .u8 1:=by rw[i,J];rfl
  have G:nA (k+1,v2) vb.f M=.tuple #[.int .i64 (M (k+1)).length,.bool true]:=by unfold nA;rw[aa (λh=>h.elim (λh=>by cases h) (λh=>h J))]
  rw[G];rw[e0,e2]at W;generalize ((DD (kd.on (k+1)) (vb.f.k (k+1)):Nat):Int)=y1 at *;generalize (M (k+1)).length=m at *;generalize vb.f.b (k+1)=g at *;have HA:=az W;clear W e0 e2 y u H Y i G J;go_in;go_wp2_with fail
  refine(HA _ (KS.kept (ah _ _ _))).mono ?_;rintro e w1 ⟨rfl,o⟩;have Z:=az (an (ah w _ none) o);clear o;go_wp2_with fail
  go_ret2
  exact⟨au Z _,rfl⟩
 have e0:tZ (kd.on (k+1)) (vb.f.k (k+1))=.int .u8 2:=by rw[i];unfold tZ Hm;rw[aj rfl,aa J];rfl
 have G:nA (k+1,v2) vb.f M=.tuple #[.int .i64 0,.bool false]:=by unfold nA;rw[aj (ab J)]
 rw[G];rw[e0,e2]at W;generalize ((DD (kd.on (k+1)) (vb.f.k (k+1)):Nat):Int)=y1 at *;generalize (M (k+1)).length=m at *;generalize vb.f.b (k+1)=g at *;have HA:=az W;clear W e0 e2 y u H Y i G J;go_in;go_wp2_with fail
 refine(HA _ (KS.kept (ah _ _ _))).mono ?_;rintro e w1 ⟨rfl,o⟩;have Z:=az (an (ah w _ none) o);clear o;go_wp2_with fail
 go_ret2
 exact⟨au Z _,rfl⟩
theorem oS{W:World}{o:Obj}{b i:Nat}(h:b<W.heap.size):(W.alloc o).cell? ⟨b,i,none⟩=W.cell? ⟨b,i,none⟩:=(bh (ah W o none) (a:=⟨b,i,none⟩) h).1
def pJ(v:B.V)(f:Fb)(M:Nat->List B.V):Value:=if v.1=0\/f.k v.1=0 then .tuple #[.int .i64 0,vA (0,0),.bool false] else .tuple #[.int .i64 ((f.k v.1-1:Nat):Int),vA ((M v.1).getD 0 (0,0)),.bool true]
theorem vI(sb pb eb n:Nat)(v:B.V)(kd:B.Kd)(vb:Vs)(M:Nat->List B.V)(w:World)(hS:jm w sb pb eb n kd vb M)(hn:n<=200)(hv:B.qO kd.on n v): Calls prog 162 #[P0 sb,vA v] w λe w'=>w.grownBy w' none/\e=.returned (pJ v vb.f M):=by
 have KS:=az hS;obtain⟨v1,H⟩:=v;rcases hv with hv|⟨W,J,a0,a1⟩
 .have hv:v1=0:=hv;subst hv;have Y:pJ (0,H) vb.f M=.tuple #[.int .i64 0,vA (0,0),.bool false]:=by unfold pJ;rw[aj (ag rfl)]
  rw[Y];go_in;go_wp2_with fail
  refine(qI sb H _).mono ?_;rintro e w1 ⟨rfl,o⟩;have G:=az (an (au (ah w _ none) _) o);have hz:=o.size;have u:w1.heap[w.heap.size+1]? = some (.cells #[.int .i64 0,.int .i64 0] 149 (0,0)):=by
   refine(o.block _ (by simp) (by intro e;cases e)).trans ?_;have:=bf (w.alloc (.cells #[.int .i64 ((0:Nat):Int),.int .i64 H] 149)) (.cells #[.int .i64 0,.int .i64 0] 149);simpa using this
  have r0:w1.cell? ⟨w.heap.size+1,0,none⟩=some (.int .i64 0):=by simp[World.cell?,u]
  have r1:w1.cell? ⟨w.heap.size+1,1,none⟩=some (.int .i64 0):=by simp[World.cell?,u]
  have t0:w1.frozen? ⟨w.heap.size+1,0,none⟩=false:=by simp[World.frozen?,u]
  have t1:w1.frozen? ⟨w.heap.size+1,1,none⟩=false:=by simp[World.frozen?,u]
  have lx:=bz u;clear o u;go_wp2_with fail
  refine da (v:=.tuple #[.int .i64 0,vA (0,0),.bool false]) (by simp[results,results162,go_sem,oS,lx,r0,r1]) rfl ⟨?_,rfl⟩;repeat (first|exact G|refine bq ?_|refine au ?_ _|refine bp ?_ (ab (by simp)) _)
 obtain⟨k,hk⟩:∃k,v1=k+1:=⟨v1-1,by omega⟩;subst hk;have i:kd.on (k+1)=true:=a0;have a5:k<n:=by omega
 have ha:=λw' (hS:jm w' sb pb eb n kd vb M)=>qH sb pb n k H kd.on vb.f M w' hS.c0 (bz hS.b) hS.p a5 hn;have e2:oL (kd.on (k+1)) (vb.f.b (k+1)) (M (k+1)).length=.slice (some ⟨vb.f.b (k+1),0,none⟩) (M (k+1)).length (M (k+1)).length:=by rw[i];rfl
 have a4:∀w1:World,((w.alloc (.cells #[.int .i64 ((k:Int)+1),.int .i64 H] 149)).alloc (.cells #[.int .i64 0,.int .i64 0] 149)).grownBy w1 none->w1.cell? ⟨w.heap.size+1,0,none⟩=some (.int .i64 0)/\w1.cell? ⟨w.heap.size+1,1,none⟩=some (.int .i64 0)/\w1.frozen? ⟨w.heap.size+1,0,none⟩=false/\w1.frozen? ⟨w.heap.size+1,1,none⟩=false/\w.heap.size+1<w1.heap.size:=λw1 o=>by
  have u:w1.heap[w.heap.size+1]? = some (.cells #[.int .i64 0,.int .i64 0] 149 (0,0)):=by
   refine(o.block _ (by simp) (by intro e;cases e)).trans ?_;have:=bf (w.alloc (.cells #[.int .i64 ((k:Int)+1),.int .i64 H] 149)) (.cells #[.int .i64 0,.int .i64 0] 149);simpa using this
  exact⟨by simp[World.cell?,u],by simp[World.cell?,u],by simp[World.frozen?,u],by simp[World.frozen?,u],bz u⟩
 have a2:=az a4;by_cases Z:vb.f.k (k+1)=0
 .have e0:tZ (kd.on (k+1)) (vb.f.k (k+1))=.int .u8 1:=by rw[i,Z];rfl
  have Y:pJ (k+1,H) vb.f M=.tuple #[.int .i64 0,vA (0,0),.bool false]:=by unfold pJ;rw[aj (ab Z)]
  rw[Y];rw[e0,e2]at ha;generalize ((DD (kd.on (k+1)) (vb.f.k (k+1)):Nat):Int)=y1 at *;generalize (M (k+1)).length=m at *;generalize vb.f.b (k+1)=g at *;have HA:=az ha;clear ha e0 e2 W J a0 a1 i Y Z;go_in;go_wp2_with fail
  refine(HA _ (KS.kept (au (ah _ _ _) _))).mono ?_;rintro e w1 ⟨rfl,o⟩;have G:=az (an (au (ah w _ none) _) o);obtain⟨r0,r1,t0,t1,lx⟩:=a2 w1 o;clear o;go_wp2_with fail
  refine da (v:=.tuple #[.int .i64 0,vA (0,0),.bool false]) (by simp[results,results162,go_sem,oS,lx,r0,r1]) rfl ⟨?_,rfl⟩;repeat (first|exact G|refine bq ?_|refine au ?_ _|refine bp ?_ (ab (by simp)) _)
 have e0:tZ (kd.on (k+1)) (vb.f.k (k+1))=.int .u8 2:=by rw[i];unfold tZ Hm;rw[aj rfl,aa Z];rfl
 have e1:DD (kd.on (k+1)) (vb.f.k (k+1))=vb.f.k (k+1)-1:=by rw[i];rfl
 have a3:=KS.p.k _ i Z;have Y:pJ (k+1,H) vb.f M=.tuple #[.int .i64 ((vb.f.k (k+1)-1:Nat):Int),vA ((M (k+1)).getD 0 (0,0)),.bool true]:=by unfold pJ;rw[aa (λh=>h.elim (λh=>by cases h) (λh=>Z h))]
 have hF:=KS.p.s (k+1) (by omega) (by omega) i;have s0:=hF.cell 0 (by omega);have s1:=hF.cell 1 (by omega);have q0:eC (jQ M (k+1)) 0=.int .i64 (((M (k+1)).getD 0 (0,0)).1:Int):=rfl;have q1:eC (jQ M (k+1)) 1=.int .i64 ((M (k+1)).getD 0 (0,0)).2:=rfl;rw[q0]at s0;rw[q1]at s1;have lf:=hF.lt;rw[Y];rw[e0,e1,e2,a3]at ha;generalize (M (k+1)).getD 0 (0,0)=y at *;generalize vb.f.k (k+1)-1=ff at *;generalize vb.f.b (k+1)=g at *;have HA:=az ha;clear ha e0 e1 e2 W J a0 a1 i Y Z hF a3 q0 q1;go_in;go_wp2_with fail
 refine(HA _ (KS.kept (au (ah _ _ _) _))).mono ?_;rintro e w1 ⟨rfl,o⟩;have G:=az (an (au (ah w _ none) _) o);obtain⟨r0,r1,t0,t1,lx⟩:=a2 w1 o;have p0:=(bh G (a:=⟨g,0,none⟩) lf).1.trans s0;have p1:=(bh G (a:=⟨g,1,none⟩) lf).1.trans s1;have a6:=dm lf G.size;clear o s0 s1;go_wp2_with fail
 go_region
 all_goals
  go_wp2_with fail
  refine da (v:=.tuple #[.int .i64 ff,vA y,.bool true]) (by simp[results,results162,go_sem,oS,lx,r0,r1]) rfl ⟨?_,rfl⟩;repeat (first|exact G|refine bq ?_|refine au ?_ _|refine bp ?_ (ab (by simp)) _)
end F
end Go.Proofs.YtnjiinbhbjpfkaaGreatDoor
