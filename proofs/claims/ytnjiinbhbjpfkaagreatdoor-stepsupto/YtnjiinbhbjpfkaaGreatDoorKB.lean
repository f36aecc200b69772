import Derived.Test.YtnjiinbhbjpfkaaGreatDoorKA
import Derived.Deep.AppendSrc
set_option maxRecDepth 100000
set_option maxHeartbeats 0
set_option linter.all false
namespace Go.Proofs.YtnjiinbhbjpfkaaGreatDoor
open Go.RowKit Go.Proofs.Tryz
section
theorem Tryz.E8:(prog.info? 184).map (λi=>(i.zero,i.size,i.bytes))=some (some (.pointer none),1,8):=by kernel_rfl
def fM(w:World)(e:TypeId)(v:Value)(xs:List Value):Prop:=
 (v=.slice none 0 0/\xs=[]) \/
 ∃g off cap n P,v=.slice (some ⟨g,off,none⟩) xs.length cap/\xs.length<=cap/\cap<=maxLen/\off+cap<=n/\Full w g e n (off+xs.length) P/\∀j u,xs[j]? = some u->P (off+j)=u
theorem fM.lt{w:World}{e:TypeId}{v:Value}{xs:List Value}(h:fM w e v xs):∀k,v.ownBlock=some k->k<w.heap.size:=by
 intro k i;rcases h with⟨rfl,_⟩|⟨g,off,cap,n,P,rfl,_,_,_,o,_⟩
 .simp[Value.ownBlock]at i
 simp[Value.ownBlock]at i;subst i;exact o.lt
theorem fM.block{w w':World}{e:TypeId}{v:Value}{xs:List Value}(h:fM w e v xs)(u:∀k,v.ownBlock=some k->w'.heap[k]? = w.heap[k]?):fM w' e v xs:=by
 rcases h with h|⟨g,off,cap,n,P,rfl,o,G,y,i,hP⟩
 .exact ag h
 exact ab ⟨g,off,cap,n,P,rfl,o,G,y,i.block (u g rfl),hP⟩
theorem fM.cell{w:World}{e:TypeId}{g off len cap:Nat}{xs:List Value}(h:fM w e (.slice (some ⟨g,off,none⟩) len cap) xs):len=xs.length/\∀j u,xs[j]? = some u->w.cell? ⟨g,off+j,none⟩=some u:=by
 rcases h with⟨h,_⟩|⟨g',H,G,n,P,h,h1,h2,h3,J,hP⟩
 .cases h
 injection h with a b c;injection a with a;injection a with W Y;subst W Y;refine⟨b,λj u i=>?_⟩;have Z:j<xs.length:=by
  rcases Nat.lt_or_ge j xs.length with o|y
  .exact o
  rw[cw y]at i;cases i
 rw[J.cell (off+j) (by omega),hP j u i]
theorem fM.nil(w:World)(e:TypeId):fM w e (.slice none 0 0) []:=ag ⟨rfl,rfl⟩
theorem fM.pop{w:World}{e:TypeId}{ad:Option Addr}{cap:Nat}{xs:List Value}{x:Value}(h:fM w e (.slice ad (xs.length+1) cap) (xs++[x])): ∃g off,ad=some ⟨g,off,none⟩/\g<w.heap.size/\xs.length+1<=cap/\w.cell? ⟨g,off+xs.length,none⟩=some x/\fM w e (.slice ad xs.length cap) xs:=by
 rcases h with⟨_,h⟩|⟨g,off,J,n,P,h,Y,h2,h3,i,hP⟩
 .simp at h
 injection h with a b c;subst a c;simp only[bo,eF]at Y i;refine⟨g,off,rfl,i.lt,Y,?_,ab ⟨g,off,cap,n,P,rfl,by omega,h2,h3,?_,λj u y=>hP j u ?_⟩⟩
 .rw[i.cell (off+xs.length) (by omega),hP xs.length x (by simp)]
 .obtain⟨o,f1,f2,Z⟩:=i;exact⟨o,f1,f2,λj W=>Z j (by omega)⟩
 have W:j<xs.length:=by
  rcases Nat.lt_or_ge j xs.length with G|H
  .exact G
  rw[cw H]at y;cases y
 rw[du W];exact y
theorem fM.ty{w:World}{e:TypeId}{v:Value}{xs:List Value}(h:fM w e v xs)(k:Nat)(o:v.ownBlock=some k):∃i,w.heap[k]? = some (.cells i e (0,0)):=by
 rcases h with⟨rfl,_⟩|⟨g,off,cap,n,P,rfl,_,_,_,⟨i,u,_⟩,_⟩
 .simp[Value.ownBlock]at o
 simp[Value.ownBlock]at o;subst o;exact⟨i,u⟩
theorem uY{P:Program}(w:World)(t ty e:TypeId)(i:TypeInfo)(z:Value)(bytes:Nat)(ht:P.underlying t=some (.slice e))(hi:P.info? e=some i)(hz:i.zero=some z)(H:i.size=1)(a8:i.bytes=bytes)(a7:z.cells.size=1)(v:Value)(xs:List Value)(hq:fM w e v xs)(ad:Addr)(c:Nat)(y:Value)(hy:w.cell? ad=some y)(h1:y.oneCell'=true)(hm:xs.length+1<=maxLen)(Y:(xs.length+1)*bytes<=140737488355328): ∃g off cap w',(Builtin.append_ #[t,t] ty #[v,.slice (some ad) 1 c]).run P w=.ok (.slice (some ⟨g,off,none⟩) (xs.length+1) cap) w'/\fM w' e (.slice (some ⟨g,off,none⟩) (xs.length+1) cap) (xs++[y])/\w.grownBy w' v.ownBlock/\(v.ownBlock=some g\/g=w.heap.size):=by
 have a0:∀j u,[y][j]? = some u->w.cell? (ad.add j)=some u:=by
  intro j u o;match j,o with
  | 0,o=>simp at o;subst o;simpa[Addr.add] using hy
 have hs:Src P i.size t (.slice (some ad) 1 c) 1 [y] w:=Src.ofSlice w ht ad 1 c [y] (by rw[H];rfl) a0 (by intro u o;simp at o;subst o;exact h1)
 have grown:∀(b:Option Addr) (G:Nat),v=.slice b xs.length G->G<xs.length+1->(∀j u,xs[j]? = some u->∃a,b=some a/\w.cell? (a.add j)=some u)->∃g off cap w',(Builtin.append_ #[t,t] ty #[v,.slice (some ad) 1 c]).run P w=.ok (.slice (some ⟨g,off,none⟩) (xs.length+1) cap) w'/\fM w' e (.slice (some ⟨g,off,none⟩) (xs.length+1) cap) (xs++[y])/\w.grownBy w' v.ownBlock/\(v.ownBlock=some g\/g=w.heap.size):=by
  intro b G hv ho hc;subst hv;have a4:(Builtin.firstCells i.size xs.length (.slice b xs.length G)).run P w.drew=.ok xs.toArray w.drew:=by
   match b,hc with
   | none,hc=>
    have hx:xs=[]:=by
     cases xs with
     | nil=>rfl
     | cons a l=>obtain⟨_,h,_⟩:=hc 0 a rfl;cases h
    subst hx;exact run_firstCells_none w.drew i.size 0 0 G
   | some a,hc=>exact run_firstCells_some w.drew i.size xs.length a xs.length G xs (by rw[H,Nat.mul_one]) (λj u o=>by obtain⟨a',h,h2⟩:=hc j u o;cases h;simpa using h2)
  have hr:=run_append_grow_src (P:=P) w t t ty e i z ht hi hz b xs.length G xs a4 _ 1 [y] hs ho (by unfold maxLen at hm;omega) (by rw[a8];exact growslice_fits ho Y);have Z:=grownCap_ge w (xs.length+1) G e;have a2:=grownCap_le_maxLen w (xs.length+1) G e hm;refine⟨_,_,_,_,hr,ab ⟨w.heap.size,0,_,grownCap w (xs.length+1) G e,λj=>(xs++[y]).getD j y,by simp,by simpa using Z,a2,by omega,⟨_,bf w.drew _,?_,λj J=>?_⟩,λj u o=>?_⟩,⟨rfl,rfl,rfl,by simp,λk hk _=>Go.heap_alloc_old w.drew _ hk⟩,ab rfl⟩
  .simp only[Array.size_append,List.size_toArray,size_zeroCells,a7,bo,List.length_cons,List.length_nil];omega
  .have a1:j<(xs++[y]).length:=by simpa using J
   rw[Array.getElem?_append_left (by simpa using a1),List.getElem?_toArray,bn a1];show _=some ((xs++[y]).getD j y);rw[ar,bn a1];rfl
  show(xs++[y]).getD (0+j) y=u;rw[Nat.zero_add,ar,o];rfl
 rcases hq with⟨rfl,rfl⟩|⟨g,off,cap,n,Q,rfl,aB,a2,hn,hF,hP⟩
 .exact grown none 0 rfl (by omega) (λj u o=>by simp at o)
 by_cases W:xs.length+1<=cap
 .have hk:off+xs.length<n:=by omega
  have a3:=(hF.congr (Q:=ep Q (off+xs.length) y) (λj J=>(eG _ _ _ _ (by omega)).symm)).set hk;rw[gf]at a3;obtain⟨aA,hh,a5,_⟩:=hF;have hr:=run_append_room_src (P:=P) w t t ty e i ht hi g off xs.length cap _ 1 [y] hs W (by
   intro j J;simp at J;subst J
   rw[H,Nat.mul_one,Nat.add_zero];simp[World.cell?,hh,a5,hk]) (by
   intro j J;simp at J;subst J
   simp[World.frozen?,hh])
  rw[H,Nat.mul_one]at hr;refine⟨g,off,cap,_,hr,ab ⟨g,off,cap,n,ep Q (off+xs.length) y,by simp,by simpa using W,a2,hn,?_,λj u o=>?_⟩,?_,ag rfl⟩
  .rw[bo];exact a3
  .by_cases J:j<xs.length
   .rw[du J]at o;rw[eG _ _ _ _ (by omega)];exact hP j u o
   rw[dX (by omega)]at o;have:j=xs.length:=by
    rcases Nat.lt_or_ge (j-xs.length) 1 with h|h
    .omega
    rw[cw (by simpa using h)]at o;cases o
   subst this;simp at o;rw[gf];exact o
  exact bp (a:=⟨g,off+xs.length,none⟩) (ax _ _) (ag rfl) y
 refine grown (some ⟨g,off,none⟩) cap rfl (by omega) (λj u o=>⟨_,rfl,?_⟩);have J:j<xs.length:=by
  rcases Nat.lt_or_ge j xs.length with a6|Z
  .exact a6
  rw[cw Z]at o;cases o
 have:=hF.cell (off+j) (by omega);rw[hP j u o]at this;rw[Addr.add_lit];exact this
theorem qx{P:Program}(w:World){o:Oper}{a:Act}{K:Act->World->Prop}{Q:Exit->Act->World->Prop}(s x:Operand)(t:TypeId)(ho:o.op=.call { callee:=.builtin .append,args:=#[s,x],argTypes:=#[t,t] })(e:TypeId)(i:TypeInfo)(z:Value)(bytes:Nat)(ht:P.underlying t=some (.slice e))(hi:P.info? e=some i)(hz:i.zero=some z)(G:i.size=1)(H:i.bytes=bytes)(J:z.cells.size=1)(v:Value)(xs:List Value)(hs:a.eval s=v)(hq:fM w e v xs)(ad:Addr)(c:Nat)(y:Value)(hx:a.eval x=.slice (some ad) 1 c)(Y:w.cell? ad=some y)(Z:y.oneCell'=true)(hm:xs.length+1<=maxLen)(u:(xs.length+1)*bytes<=140737488355328)(h:∀g off cap w',fM w' e (.slice (some ⟨g,off,none⟩) (xs.length+1) cap) (xs++[y])->w.grownBy w' v.ownBlock->(v.ownBlock=some g\/g=w.heap.size)->K (a.put o.dst (.slice (some ⟨g,off,none⟩) (xs.length+1) cap)) w'):o.wp P a w K Q:=by
 obtain⟨g,off,cap,w',W,h2,h3,h4⟩:=uY (P:=P) w t o.type e i z bytes ht hi hz G H J v xs hq ad c y Y Z hm u;unfold Oper.wp execOp;simp only[ho,resolve,invoke,builtin,Sem.run_bind,Sem.run_pure,Result.andThen_ok,List.map_toArray,List.map_cons,List.map_nil,hs,hx,W];exact h g off cap w' h2 h3 h4
theorem gZ{P:Program}(w:World){ops:Array Oper}{rest:List Oper}{o:Oper}{a:Act}{Q:Exit->Act->World->Prop}(J:o.guard=none)(s x:Operand)(t:TypeId)(ho:o.op=.call { callee:=.builtin .append,args:=#[s,x],argTypes:=#[t,t] })(e:TypeId)(i:TypeInfo)(z:Value)(bytes:Nat)(ht:P.underlying t=some (.slice e))(hi:P.info? e=some i)(hz:i.zero=some z)(G:i.size=1)(H:i.bytes=bytes)(W:z.cells.size=1)(v:Value)(xs:List Value)(hs:a.eval s=v)(hq:fM w e v xs)(ad:Addr)(c:Nat)(y:Value)(hx:a.eval x=.slice (some ad) 1 c)(Y:w.cell? ad=some y)(Z:y.oneCell'=true)(hm:xs.length+1<=maxLen)(u:(xs.length+1)*bytes<=140737488355328)(h:∀g off cap w',fM w' e (.slice (some ⟨g,off,none⟩) (xs.length+1) cap) (xs++[y])->w.grownBy w' v.ownBlock->(v.ownBlock=some g\/g=w.heap.size)->wpList P ops Q rest (a.put o.dst (.slice (some ⟨g,off,none⟩) (xs.length+1) cap)) w'):wpList P ops Q (o :: rest) a w:=
 wpList_plain J λ_ hK=>qx w s x t ho e i z bytes ht hi hz G H W v xs hs hq ad c y hx Y Z hm u λg off cap w' h2 h3 h4=>hK _ _ (h g off cap w' h2 h3 h4)
theorem oz{P:Program}(w:World){ops:Array Oper}{o:Oper}{a:Act}{K:Act->World->Prop}{Q:Exit->Act->World->Prop}{E:Prop}(J:o.guard=none)(s x:Operand)(t:TypeId)(ho:o.op=.call { callee:=.builtin .append,args:=#[s,x],argTypes:=#[t,t] })(e:TypeId)(i:TypeInfo)(z:Value)(bytes:Nat)(ht:P.underlying t=some (.slice e))(hi:P.info? e=some i)(hz:i.zero=some z)(G:i.size=1)(H:i.bytes=bytes)(W:z.cells.size=1)(v:Value)(xs:List Value)(hs:a.eval s=v)(hq:fM w e v xs)(ad:Addr)(c:Nat)(y:Value)(hx:a.eval x=.slice (some ad) 1 c)(Y:w.cell? ad=some y)(Z:y.oneCell'=true)(hm:xs.length+1<=maxLen)(u:(xs.length+1)*bytes<=140737488355328)(h:∀g off cap w',fM w' e (.slice (some ⟨g,off,none⟩) (xs.length+1) cap) (xs++[y])->w.grownBy w' v.ownBlock->(v.ownBlock=some g\/g=w.heap.size)->K (a.put o.dst (.slice (some ⟨g,off,none⟩) (xs.length+1) cap)) w'): if Region.wanted o (yielded ops a.tmps)=true then Oper.wp P o a w K Q else E:=by
 rw[aj (by simp[Region.wanted,J])];exact qx w s x t ho e i z bytes ht hi hz G H W v xs hs hq ad c y hx Y Z hm u h
def tZ(k:Bool):Value:=.int .u8 (if k=true then 1 else 0)
def oL(k:Bool)(vb ln:Nat):Value:=if k=true then .slice (some ⟨vb,0,none⟩) ln ln else .slice none 0 0
def iM(kd:Nat->Bool)(vb:Nat->Nat)(M:Nat->List B.V):Nat->Value:=λj=>
 if j % 3=0 then tZ (kd (j / 3+1)) else if j % 3=1 then .int .i64 0 else oL (kd (j / 3+1)) (vb (j / 3+1)) (M (j / 3+1)).length
abbrev jQ(M:Nat->List B.V)(p:Nat):Nat->B.V:=λi=>(M p).getD i (0,0)
structure ow(w:World) (pb n:Nat) (on:Nat->Bool) (f:Nat->Nat) (M:Nat->List B.V):Prop where
 p:Full w pb 228 (n*3) (n*3) (iM on f M)
 s:∀p,1<=p->p<=n->on p=true->Full w (f p) 149 ((M p).length*2) ((M p).length*2) (eC (jQ M p))
 i:∀p q,1<=p->p<=n->1<=q->q<=n->on p=true->on q=true->f p=f q->p=q
 l:∀p,on p=true->(M p).length<=8
theorem ow.block{w w':World}{pb n:Nat}{on:Nat->Bool}{f:Nat->Nat}{M:Nat->List B.V}(h:ow w pb n on f M)(o:w'.heap[pb]? = w.heap[pb]?)(e:∀p,1<=p->p<=n->on p=true->w'.heap[f p]? = w.heap[f p]?):ow w' pb n on f M:=
 ⟨h.p.block o,λp a b c=>(h.s p a b c).block (e p a b c),h.i,h.l⟩
def mD(st:List Nat):List Value:=st.map (λp=>.int .i64 ((p-1:Nat):Int))
theorem uV(e:List Nat):(mD e).length=e.length:=by simp[mD]
theorem zq(a b:List Nat):mD (a++b)=mD a++mD b:=by simp[mD]
structure kY(w:World) (cb rd sb n:Nat) (ad:Option Addr) (cap:Nat) (c:B.Cy):Prop where
 b:w.heap[cb]? = some (.cells #[P0 sb,.slice (some ⟨rd,0,none⟩) n n,.slice ad c.st.length cap,.int .i64 c.nx] 275 (0,0))
 r:Full w rd 4 n n (λj=>.bool (c.m (j+1)))
 q:fM w 3 (.slice ad c.st.length cap) (mD c.st)
def eO(ad:Option Addr):Option Nat:=ad.map (·.block)
theorem dr(ad:Option Addr)(n c:Nat):(Value.slice ad n c).ownBlock=eO ad:=by cases ad<;>rfl
def nh(cb rd:Nat)(ad:Option Addr)(k:Nat):Prop:=k=cb\/k=rd\/eO ad=some k
theorem kY.block{w w':World}{cb i sb n:Nat}{ad:Option Addr}{cap:Nat}{c:B.Cy}(h:kY w cb i sb n ad cap c)(o:∀k,nh cb i ad k->w'.heap[k]? = w.heap[k]?):kY w' cb i sb n ad cap c:=
 ⟨(o cb (ag rfl)).trans h.b,h.r.block (o i (ab (ag rfl))),h.q.block (λk e=>o k (ab (ab (by rw[<-dr ad c.st.length cap];exact e))))⟩
theorem kY.lt{w:World}{cb i sb n:Nat}{ad:Option Addr}{cap:Nat}{c:B.Cy}(h:kY w cb i sb n ad cap c)(k:Nat)(e:nh cb i ad k):k<w.heap.size:=by
 rcases e with rfl|rfl|e
 .exact bz h.b
 .exact h.r.lt
 exact h.q.lt k (by rw[dr];exact e)
theorem kY.ty{w:World}{cb u sb n:Nat}{ad:Option Addr}{cap:Nat}{c:B.Cy}(h:kY w cb u sb n ad cap c)(k:Nat)(i:nh cb u ad k):∃e T,w.heap[k]? = some (.cells e T (0,0))/\(T=275\/T=4\/T=3):=by
 rcases i with rfl|rfl|i
 .exact⟨_,_,h.b,ag rfl⟩
 .obtain⟨e,o,_⟩:=h.r;exact⟨_,_,o,ab (ag rfl)⟩
 obtain⟨e,o⟩:=h.q.ty k (by rw[dr];exact i);exact⟨_,_,o,ab (ab rfl)⟩
theorem kY.kept{w w':World}{cb i sb n:Nat}{ad:Option Addr}{cap:Nat}{c:B.Cy}(h:kY w cb i sb n ad cap c)(u:w.grownBy w' none):kY w' cb i sb n ad cap c:=
 h.block (λk o=>u.block k (h.lt k o) (by intro e;cases e))
structure Vs where
 f:Nat->Nat
 cb:Nat
 rd:Nat
 ad:Option Addr
 cap:Nat
def Ax:Vs:=⟨λ_=>0,0,0,none,0⟩
def yg(kd:B.Kd)(vb:Vs):Value:=if kd.cy.isSome=true then P0 vb.cb else .pointer none
structure jm(w:World) (sb pb eb n:Nat) (kd:B.Kd) (vb:Vs) (M:Nat->List B.V):Prop where
 b:w.heap[sb]? = some (.cells #[.slice (some ⟨pb,0,none⟩) n n,.func (.func 59) #[P0 eb] #[],yg kd vb,.int .i64 (wrap64 (kd.un:Int)),.int .i64 (wrap64 (kd.fo:Int)),.int .i64 (wrap64 (kd.cc:Int))] 207 (0,0))
 p:ow w pb n kd.on vb.f M
 c:∀c,kd.cy=some c->kY w vb.cb vb.rd sb n vb.ad vb.cap c
def Own(n:Nat)(kd:B.Kd)(vb:Vs)(k:Nat):Prop:=(∃p,1<=p/\p<=n/\kd.on p=true/\vb.f p=k)\/(kd.cy.isSome=true/\nh vb.cb vb.rd vb.ad k)
theorem jm.block{w w':World}{sb pb eb n:Nat}{kd:B.Kd}{vb:Vs}{M:Nat->List B.V}(h:jm w sb pb eb n kd vb M)(u:w'.heap[sb]? = w.heap[sb]?)(y:w'.heap[pb]? = w.heap[pb]?)(i:∀k,Own n kd vb k->w'.heap[k]? = w.heap[k]?):jm w' sb pb eb n kd vb M:=
 ⟨u.trans h.b,h.p.block y (λp a b c=>i _ (ag ⟨p,a,b,c,rfl⟩)),λc e=>(h.c c e).block (λk o=>i k (ab ⟨by rw[e];rfl,o⟩))⟩
theorem dW{w:World}{a b:Nat}{x y:Array Value}{S T:TypeId}{f g:Nat×Nat}(i:w.heap[a]? = some (.cells x S f))(e:w.heap[b]? = some (.cells y T g))(h:S≠T):a≠b:=by
 rintro rfl;rw[i]at e;injection e with e;injection e with _ e _;exact h e
theorem qI(sb:Nat)(x:Int)(w:World):Calls prog 202 #[P0 sb,vA (0,x)] w λe w'=>e=.returned (.agg #[.int .u8 0,.int .i64 0,.slice none 0 0])/\w.grownBy w' none:=by
 have hi:=mP (0,x);simp only[ne_eq,not_true,decide_false]at hi;have H:=az hi;go_in;go_wp2_with fail
 refine(H.out _).mono ?_;rintro e w1 ⟨rfl,o⟩;have i:w1.heap[w.heap.size+1]? = some (.cells #[.int .u8 0,.int .i64 0,.slice none 0 0] 228 (0,0)):=by
  refine(o.block _ (by simp) (by intro e;cases e)).trans ?_;have:=bf (w.alloc (.cells #[.int .i64 ((0:Nat):Int),.int .i64 x] 149)) (.cells #[.int .u8 0,.int .i64 0,.slice none 0 0] 228);simpa using this
 have u:=az (an (au (ah w _ none) _) o);have G:w1.cell? ⟨w.heap.size+1,0,none⟩=some (.int .u8 0):=by simp[World.cell?,i]
 have J:w1.cell? ⟨w.heap.size+1,1,none⟩=some (.int .i64 0):=by simp[World.cell?,i]
 have y:w1.cell? ⟨w.heap.size+1,2,none⟩=some (.slice none 0 0):=by simp[World.cell?,i]
 have t0:w1.frozen? ⟨w.heap.size+1,0,none⟩=false:=by simp[World.frozen?,i]
 have Z:w1.frozen? ⟨w.heap.size+1,1,none⟩=false:=by simp[World.frozen?,i]
 have Y:w1.frozen? ⟨w.heap.size+1,2,none⟩=false:=by simp[World.frozen?,i]
 clear o i;go_wp2_with fail
 refine da (v:=.agg #[.int .u8 0,.int .i64 0,.slice none 0 0]) (by simp[results,results202,go_sem,G,J,y]) rfl ⟨rfl,?_⟩;repeat (first|exact u.out|refine bq ?_|refine au ?_ _|refine bp ?_ (ab (by simp)) _)
