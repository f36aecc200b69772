import Derived.Test.YtnjiinbhbjpfkaaGreatDoorKN
import Derived.Test.YtnjiinbhbjpfkaaGreatDoorKJ
set_option maxRecDepth 100000
set_option maxHeartbeats 0
set_option linter.all false
namespace Go.Proofs.YtnjiinbhbjpfkaaGreatDoor
open Go.RowKit Go.Proofs.Tryz
namespace F
structure gY where
 f:Nat
 nx:Nat
 R:Nat->B.V
 bk:Nat×Nat×Nat×Nat
structure oT where
 fr:List gY
 run:Bool
 wh:Option (Nat×Nat)
 lf:Option (Nat×Nat×Nat×Nat)
 iL:Int
structure Pl where
 nt:Nat
 T:Nat->oT
 q:Nat->Nat->List Nat
 lv:List Nat
 out:List B.V
 kp:List B.V
 ev:List se
 jo:Nat->List Nat
 sp:Bool
 eY:Int
 kd:B.Kd
 M:Nat->List B.V
 ck:Nat->Nat
structure eE where
 tb:Nat->Nat
 ro:Nat->Nat->Option Addr×Nat
 fb:Nat->Nat->Nat
 rb:Nat->Nat->Nat
 xe:Nat->Nat
 xt:Nat->Nat
 sx:Nat->Nat
 vf:Nat->Nat
 cb:Nat
 rd:Nat
 ad:Option Addr
 cap:Nat
structure dz where
 eb:Nat
 sb:Nat
 pb:Nat
 n:Nat
 nf:Nat
 gb:Nat
 cb:Nat->Nat
 len:Nat->Nat
 rg:Nat->Nat
 ins:Nat->Nat->Nat×Nat×Nat×Nat
 qn:Nat
 wk:Nat
 mt:Nat
 ac:Nat
 E0:Nat->Value
 fx:Nat->Prop
 fc:Nat->Option Obj
structure Ob where
 bs:Nat->Prop
 ok:World->Prop
 fr:∀w w':World,ok w->(∀k,bs k->w'.heap[k]? = w.heap[k]?)->ok w'
 lt:∀(w:World) (k:Nat),ok w->bs k->k<w.heap.size
def Ob.nil:Ob:=⟨λ_=>False,λ_=>True,λ_ _ h _=>h,λ_ _ _ h=>h.elim⟩
def Ob.full(b:Nat)(T:TypeId)(N:Nat)(E:Nat->Value):Ob:=⟨λk=>k=b,λw=>Full w b T N N E,λ_ _ h hk=>h.block (hk b rfl),λ_ _ h e=>by rw[e];exact h.lt⟩
def Ob.one(b:Nat)(o:Obj):Ob:=⟨λk=>k=b,λw=>w.heap[b]? = some o,λ_ _ h hk=>(hk b rfl).trans h,λ_ _ h e=>by rw[e];exact bz h⟩
def Ob.row(T:TypeId)(sz:Nat)(ad:Option Addr)(n c:Nat)(xs:List Value):Ob:=⟨λk=>eO ad=some k,λw=>w.ownsRow 0 T sz (.slice ad n c) n xs,λ_ _ h hk=>dD h (λk e=>hk k (by rw[<-dr ad n c];exact e)),λ_ k h e=>(dA h k (by rw[dr];exact e)).2.1⟩
theorem jm.slt{w:World}{sb pb eb n:Nat}{kd:B.Kd}{vb:Vs}{M:Nat->List B.V}(h:jm w sb pb eb n kd vb M)(k:Nat)(e:pP sb pb n kd vb k):k<w.heap.size:=by
 rcases e with rfl|rfl|e
 .exact bz h.b
 .exact h.p.p.lt
 exact h.lt k e
def Ob.str(sb pb eb n:Nat)(kd:B.Kd)(vb:Vs)(M:Nat->List B.V):Ob:=⟨pP sb pb n kd vb,λw=>jm w sb pb eb n kd vb M,λ_ _ h hk=>h.block (hk sb (ag rfl)) (hk pb (ab (ag rfl))) (λk h=>hk k (ab (ab h))),λ_ k h e=>h.slt k e⟩
theorem Ht(F:Nat->Prop)(C:Nat->Option Obj)(w w':World)(h:∀k,F k->k<w.heap.size/\w.heap[k]? = C k)(u:∀k,F k->w'.heap[k]? = w.heap[k]?)(k:Nat)(i:F k):k<w'.heap.size/\w'.heap[k]? = C k:=by
 have e:=u k i;refine⟨?_,e.trans (h k i).2⟩;rcases Nat.lt_or_ge k w'.heap.size with o|o
 .exact o
 rw[Array.getElem?_eq_none o]at e;have:=Array.getElem?_eq_getElem (h k i).1;rw[this]at e
 cases e
def Ob.fix(F:Nat->Prop)(C:Nat->Option Obj):Ob:=⟨F,λw=>∀k,F k->k<w.heap.size/\w.heap[k]? = C k,Ht F C,λ_ k h e=>(h k e).1⟩
def eH(s:Pl)(x y:Nat):Nat:=
 if x=6 then s.lv.length else if x=7 then s.out.length else if x=8 then s.kp.length else if x=9 then s.ev.length else if x=10 then(s.jo y).length else if x=12 then(s.T y).fr.length else(s.q x y).length
def fU(s:Pl)(g:eE)(x y:Nat):List Value:=
 if x=6 then(s.lv.map g.tb).map P0 else if x=7 then fT s.out else if x=8 then fT s.kp else if x=9 then kE s.ev else if x=10 then Ie (s.jo y) else if x=12 then((List.range (s.T y).fr.length).map (g.fb y)).map P0 else((s.q x y).map g.tb).map P0
def zA(x:Nat):TypeId:=if x=7 then 149 else if x=8 then 149 else if x=9 then 48 else if x=10 then 5 else if x=12 then 184 else 155
def zB(x:Nat):Nat:=if x=7 then 2 else if x=8 then 2 else if x=9 then 3 else 1
def sl(s:Pl)(g:eE)(x y:Nat):Value:=.slice (g.ro x y).1 (eH s x y) (g.ro x y).2
def kN(j:Nat):Nat×Nat:=if j=29 then(6,0) else if j=30 then(7,0) else if j=31 then(8,0) else if j=32 then(2,0) else if j=33 then(3,0) else if j=43 then(9,0) else if j % 2=0 then(10,(j-34) / 2) else(4,(j-34) / 2)
def iJ(p:dz)(s:Pl)(g:eE)(j:Nat):Value:=
 if j<28 then p.E0 j else if j=28 then .int .i64 s.eY else if j=42 then .bool s.sp else sl s g (kN j).1 (kN j).2
def tP(p:dz)(g:eE)(x y:Nat):Nat:=if x=5 then g.tb y else p.eb
def wg(x y:Nat):Nat:=if x=5 then 6 else if x=2 then 32 else if x=3 then 33 else 35+2*y
def x8(p:dz)(g:eE)(h:Option (Nat×Nat)):Value:=match h with
 | none=>.pointer none
 | some (x,y)=>Pt (tP p g x y) (wg x y)
def Ba(g:eE)(t:Nat)(h:Option (Nat×Nat×Nat×Nat)):Value:=match h with
 | none=>.nilFunc
 | some _=>Fv 207 #[P0 (g.sx t)]
def gE(p:dz)(s:Pl)(g:eE)(t j:Nat):Value:=
 if j=0 then .int .i64 (t:Int) else if j=1 then sl s g 12 t else if j=2 then .bool (s.T t).run else if j=3 then x8 p g (s.T t).wh else if j=4 then Ba g t (s.T t).lf else if j=5 then .int .i64 (s.T t).iL else sl s g 5 t
def wj(p:dz)(g:eE)(t i:Nat)(bk:Nat×Nat×Nat×Nat):Value:=if i=0 then Fv 120 #[P0 (g.xe t),P0 (g.xt t)] else .func (.func 149) #[dZ bk.1 bk.2.1 bk.2.2.1 bk.2.2.2 (g.fb t (i-1)) (g.tb t) p.eb] #[]
def mr:gY:=⟨0,0,λ_=>(0,0),(0,0,0,0)⟩
def de(s:Pl)(t i:Nat):gY:=(s.T t).fr.getD i mr
def yf(p:dz)(g:eE)(t i:Nat)(f:gY):Obj:=ij (p.cb f.f) (p.len f.f) f.nx (g.rb t i) (p.rg f.f) (wj p g t i f.bk)
def ye(p:dz)(s:Pl)(g:eE)(t:Nat):Obj:=match (s.T t).lf with
 | none=>.cells #[] 0 (0,0)
 | some k=>lZ k.1 k.2.1 k.2.2.1 k.2.2.2 (g.fb t ((s.T t).fr.length-1)) (g.tb t) p.eb
def jn(s:Pl)(g:eE):Vs:=⟨⟨g.vf,s.ck⟩,g.cb,g.rd,g.ad,g.cap⟩
def gu(s:Pl)(x y z:Nat):Bool:=
 if x<=1\/x=2\/x=3\/(6<=x/\x<=9)\/x=18 then decide (y=0/\z=0)
 else if x=4\/x=10 then decide (y<4/\z=0)
 else if x=5\/x=11\/x=12\/x=15\/x=16 then decide (1<=y/\y<=s.nt/\z=0)
 else if x=17 then decide (1<=y/\y<=s.nt/\z=0) && (s.T y).lf.isSome
 else if x=13\/x=14 then decide (1<=y/\y<=s.nt/\z<(s.T y).fr.length)
 else false
def FX(p:dz)(s:Pl)(g:eE)(x y z:Nat):Ob:=
 if x=0 then .full p.eb 144 44 (iJ p s g)
 else if x=1 then .str p.sb p.pb p.eb p.n s.kd (jn s g) s.M
 else if x=11 then .full (g.tb y) 160 7 (gE p s g y)
 else if x=13 then .one (g.fb y z) (yf p g y z (de s y z))
 else if x=14 then .full (g.rb y z) 149 (p.rg (de s y z).f*2) (eC (de s y z).R)
 else if x=15 then .one (g.xe y) (.cells #[P0 p.eb] 95 (0,0))
 else if x=16 then .one (g.xt y) (.cells #[P0 (g.tb y)] 155 (0,0))
 else if x=17 then .one (g.sx y) (ye p s g y)
 else if x=18 then .fix p.fx p.fc
 else .row (zA x) (zB x) (g.ro x y).1 (eH s x y) (g.ro x y).2 (fU s g x y)
def ob(p:dz)(s:Pl)(g:eE)(x y z:Nat):Ob:=if gu s x y z=true then FX p s g x y z else .nil
structure dQ(p:dz) (s:Pl) (g:eE) (w:World):Prop where
 o:∀x y z,(ob p s g x y z).ok w
 i:∀x y z x' y' z' k,(ob p s g x y z).bs k->(ob p s g x' y' z').bs k->x=x'/\y=y'/\z=z'
def ey(p:dz)(s:Pl)(g:eE)(k:Nat):Prop:=∃x y z,(ob p s g x y z).bs k
def fe(s:Pl)(t:Nat):Prop:=1<=t/\t<=s.nt
structure Tr(p:dz) (s:Pl) (g:eE) (w:World) (s':Pl) (g':eE) (w':World):Prop where
 r:dQ p s' g' w'
 o:dy (ey p s g) w w'
 m:∀k,ey p s' g' k->ey p s g k\/w.heap.size<=k
 n:s.nt<=s'.nt
 t:∀u,fe s u->g'.tb u=g.tb u
theorem dQ.lt{p:dz}{s:Pl}{g:eE}{w:World}(h:dQ p s g w){k:Nat}(e:ey p s g k):k<w.heap.size:=by
 obtain⟨x,y,z,e⟩:=e;exact(ob p s g x y z).lt w k (h.o x y z) e
theorem dQ.only{p:dz}{s:Pl}{g:eE}{w w':World}(h:dQ p s g w){S:Nat->Prop}(u:dy S w w')(hS:∀k,ey p s g k->¬S k):dQ p s g w':=
 ⟨λx y z=>(ob p s g x y z).fr w w' (h.o x y z) (λk e=>u.same (h.lt ⟨x,y,z,e⟩) (hS k ⟨x,y,z,e⟩)),h.i⟩
theorem dQ.kept{p:dz}{s:Pl}{g:eE}{w w':World}(h:dQ p s g w)(e:w.grownBy w' none):dQ p s g w':=h.only (S:=λ_=>False) (dU e) (λ_ _ h=>h)
theorem Tr.refl{p:dz}{s:Pl}{g:eE}{w:World}(h:dQ p s g w):Tr p s g w s g w:=⟨h,dk _ _,λ_ h=>ag h,bj _,λ_ _=>rfl⟩
theorem Tr.trans{p:dz}{s s' i:Pl}{g g' g'':eE}{w w' w'':World}(h:Tr p s g w s' g' w')(e:Tr p s' g' w' i g'' w''):Tr p s g w i g'' w'':=
 ⟨e.r,h.o.trans e.o (λk y J=>(h.m k y).resolve_right (by omega)),λk y=>by
  rcases e.m k y with H|H
  .exact h.m k H
  have:=h.o.size;exact ab (by omega),dH h.n e.n,λu G=>(e.t u ⟨G.1,dH G.2 h.n⟩).trans (h.t u G)⟩
theorem Tr.kept{p:dz}{s s':Pl}{g g':eE}{w w' w'':World}(h:Tr p s g w s' g' w')(e:w'.grownBy w'' none):Tr p s g w s' g' w'':=⟨h.r.kept e,h.o.gR e,h.m,h.n,h.t⟩
theorem Tr.ahead{p:dz}{s s':Pl}{g g':eE}{w0 w w':World}(e:w0.grownBy w none)(h:Tr p s g w s' g' w'):Tr p s g w0 s' g' w':=
 ⟨h.r,(dU e).trans h.o (λ_ h _=>h),λk i=>(h.m k i).imp id (λh=>by have:=e.size;omega),h.n,h.t⟩
theorem Tr.other{p:dz}{s s':Pl}{g g':eE}{w w':World}(h:Tr p s g w s' g' w'){k:Nat}{o:Obj}(e:w.heap[k]? = some o)(hn:¬ey p s g k):w'.heap[k]? = some o/\¬ey p s' g' k:=
 ⟨h.o.block e hn,λi=>(h.m k i).elim hn (λu=>by have:=bz e;omega)⟩
theorem Tr.to{p:dz}{s0 s s':Pl}{g0 g g':eE}{w0 w w':World}(C:Nat->Nat->Nat->Prop)(own:Nat->Nat×Nat×Nat)(H:Tr p s0 g0 w0 s g w)(hO:dy (λk=>∃x y z,C x y z/\(ob p s g x y z).bs k) w w')(h1:∀x y z,¬C x y z->ob p s' g' x y z=ob p s g x y z)(h2:∀x y z,C x y z->(ob p s' g' x y z).ok w')(h3:∀x y z k,C x y z->(ob p s' g' x y z).bs k->(ob p s g x y z).bs k\/(¬ey p s g k/\w0.heap.size<=k/\own k=(x,y,z)))(hn:s.nt<=s'.nt:=by first|exact bj _|omega)(Y:∀u,fe s u->g'.tb u=g.tb u:=by intros;rfl):Tr p s0 g0 w0 s' g' w':=by
 have h:=H.r;have G:=λx y z k e=>by
  by_cases J:C x y z
  .exact h3 x y z k J e
  rw[h1 x y z J]at e;exact ag e
 refine⟨⟨λx y z=>?_,λx y z x' y' z' k e W=>?_⟩,H.o.trans hO (λk e hl=>?_),λk e=>?_,dH H.n hn,λu Z=>(Y u ⟨Z.1,dH Z.2 H.n⟩).trans (H.t u Z)⟩
 .by_cases J:C x y z
  .exact h2 x y z J
  rw[h1 x y z J];refine(ob p s g x y z).fr w w' (h.o x y z) (λk e=>hO.same (h.lt ⟨x,y,z,e⟩) ?_);rintro⟨a,b,c,hc,Y⟩;obtain⟨rfl,rfl,rfl⟩:=h.i _ _ _ _ _ _ k e Y;exact J hc
 .rcases G _ _ _ k e with a|⟨a,_,b⟩
  .rcases G _ _ _ k W with c|⟨c,_⟩
   .exact h.i _ _ _ _ _ _ k a c
   exact ch ⟨_,_,_,a⟩ c
  rcases G _ _ _ k W with c|⟨c,_,d⟩
  .exact ch ⟨_,_,_,c⟩ a
  rw[b]at d;injection d with d1 d2;injection d2 with d2 d3;exact⟨d1,d2,d3⟩
 .obtain⟨x,y,z,_,Y⟩:=e;exact(H.m k ⟨x,y,z,Y⟩).resolve_right (by omega)
 obtain⟨x,y,z,e⟩:=e;rcases G x y z k e with h|h
 .exact H.m k ⟨x,y,z,h⟩
 exact ab h.2.1
theorem dQ.to{p:dz}{s s':Pl}{g g':eE}{w w':World}(C:Nat->Nat->Nat->Prop)(own:Nat->Nat×Nat×Nat)(h:dQ p s g w)(o:dy (λk=>∃x y z,C x y z/\(ob p s g x y z).bs k) w w')(i:∀x y z,¬C x y z->ob p s' g' x y z=ob p s g x y z)(W:∀x y z,C x y z->(ob p s' g' x y z).ok w')(J:∀x y z k,C x y z->(ob p s' g' x y z).bs k->(ob p s g x y z).bs k\/(w.heap.size<=k/\own k=(x,y,z)))(hn:s.nt<=s'.nt:=by first|exact bj _|omega)(H:∀u,fe s u->g'.tb u=g.tb u:=by intros;rfl):Tr p s g w s' g' w':=
 Tr.to C own (Tr.refl h) o i W (λx y z k Y e=>(J x y z k Y e).imp id (λG=>⟨λZ=>by have:=h.lt Z;omega,G⟩)) hn H
end F
namespace F
def eQ(x:Nat):Prop:=2<=x/\x<=12/\x≠11
theorem gG{s:Pl}{x t:Nat}(hx:x=5\/x=11\/x=12\/x=15\/x=16)(ht:fe s t):gu s x t 0=true:=by
 unfold gu;rw[aa (by omega),aa (by omega),aj hx];simp[ht.1,ht.2]
theorem iq{s:Pl}{x:Nat}(hx:x<=1\/x=2\/x=3\/(6<=x/\x<=9)\/x=18):gu s x 0 0=true:=by
 unfold gu;rw[aj hx];rfl
theorem II{s:Pl}{x k:Nat}(hx:x=4\/x=10)(e:k<4):gu s x k 0=true:=by
 unfold gu;rw[aa (by omega),aj hx];simp[e]
theorem ns{s:Pl}{x t i:Nat}(hx:x=13\/x=14)(ht:fe s t)(hi:i<(s.T t).fr.length):gu s x t i=true:=by
 unfold gu;rw[aa (by omega),aa (by omega),aa (by omega),aa (by omega),aj hx];simp[ht.1,ht.2,hi]
theorem Gv{s:Pl}{t:Nat}(ht:fe s t)(e:(s.T t).lf.isSome=true):gu s 17 t 0=true:=by
 unfold gu;rw[aa (by omega),aa (by omega),aa (by omega),aj rfl];simp[ht.1,ht.2,e]
theorem gH{p:dz}{s:Pl}{g:eE}{x y z:Nat}(h:gu s x y z=true):ob p s g x y z=FX p s g x y z:=aj h
theorem vq{p:dz}{s:Pl}{g:eE}{x y z:Nat}(h:¬gu s x y z=true):ob p s g x y z=.nil:=aa h
theorem gk{p:dz}{s:Pl}{g:eE}{x y z:Nat}(hx:eQ x):FX p s g x y z=.row (zA x) (zB x) (g.ro x y).1 (eH s x y) (g.ro x y).2 (fU s g x y):=by
 obtain⟨o,i,e⟩:=hx;unfold FX;rw[aa (by omega),aa (by omega),aa (by omega),aa (by omega),aa (by omega),aa (by omega),aa (by omega),aa (by omega),aa (by omega)]
section
variable {p : dz} {s : Pl} {g : eE} {w : World} (h : dQ p s g w)
include h
theorem dQ.E:Full w p.eb 144 44 44 (iJ p s g):=h.o 0 0 0
theorem dQ.S:jm w p.sb p.pb p.eb p.n s.kd (jn s g) s.M:=h.o 1 0 0
theorem dQ.X:∀k,p.fx k->k<w.heap.size/\w.heap[k]? = p.fc k:=h.o 18 0 0
theorem dQ.row{x y:Nat}(hx:eQ x)(e:gu s x y 0=true):w.ownsRow 0 (zA x) (zB x) (sl s g x y) (eH s x y) (fU s g x y):=by
 have:=h.o x y 0;rw[gH e,gk hx]at this;exact this
theorem dQ.tk{t:Nat}(ht:fe s t):Full w (g.tb t) 160 7 7 (gE p s g t):=by
 have:=h.o 11 t 0;rw[gH (gG (by omega) ht)]at this;exact this
theorem dQ.fr{t i:Nat}(ht:fe s t)(hi:i<(s.T t).fr.length):w.heap[g.fb t i]? = some (yf p g t i (de s t i)):=by
 have:=h.o 13 t i;rw[gH (ns (by omega) ht hi)]at this;exact this
theorem dQ.rg{t i:Nat}(ht:fe s t)(hi:i<(s.T t).fr.length):Full w (g.rb t i) 149 (p.rg (de s t i).f*2) (p.rg (de s t i).f*2) (eC (de s t i).R):=by
 have:=h.o 14 t i;rw[gH (ns (by omega) ht hi)]at this;exact this
theorem dQ.xe{t:Nat}(ht:fe s t):w.heap[g.xe t]? = some (.cells #[P0 p.eb] 95 (0,0)):=by
 have:=h.o 15 t 0;rw[gH (gG (by omega) ht)]at this;exact this
theorem dQ.xt{t:Nat}(ht:fe s t):w.heap[g.xt t]? = some (.cells #[P0 (g.tb t)] 155 (0,0)):=by
 have:=h.o 16 t 0;rw[gH (gG (by omega) ht)]at this;exact this
theorem dQ.sx{t:Nat}(ht:fe s t){k:Nat×Nat×Nat×Nat}(i:(s.T t).lf=some k):w.heap[g.sx t]? = some (lZ k.1 k.2.1 k.2.2.1 k.2.2.2 (g.fb t ((s.T t).fr.length-1)) (g.tb t) p.eb):=by
 have:=h.o 17 t 0;rw[gH (Gv ht (by rw[i];rfl))]at this;have e:w.heap[g.sx t]? = some (ye p s g t):=this;unfold ye at e;rw[i]at e;exact e
theorem dQ.ne{x y z x' y' z' k o:Nat}(u:(ob p s g x y z).bs k)(e:(ob p s g x' y' z').bs o)(hn:¬(x=x'/\y=y'/\z=z')):k≠o:=by
 rintro rfl;exact hn (h.i _ _ _ _ _ _ k u e)
theorem dQ.ny{t u:Nat}(ht:fe s t)(e:fe s u)(he:g.tb t=g.tb u):t=u:=by
 have a:(ob p s g 11 t 0).bs (g.tb t):=by rw[gH (gG (by omega) ht)];exact rfl
 have b:(ob p s g 11 u 0).bs (g.tb t):=by rw[gH (gG (by omega) e)];exact he
 exact(h.i _ _ _ _ _ _ _ a b).2.1
end
theorem kQ(p:dz){s:Pl}(g:eE){t:Nat}(ht:fe s t)(k:Nat):(ob p s g 11 t 0).bs k=(k=g.tb t):=by rw[gH (gG (by omega) ht)];rfl
theorem fR(p:dz){s:Pl}(g:eE){x y:Nat}(hx:eQ x)(e:gu s x y 0=true)(k:Nat):(ob p s g x y 0).bs k=(eO (g.ro x y).1=some k):=by rw[gH e,gk hx];rfl
theorem uM{s:Pl}{x y z:Nat}(h:gu s x y z=true):x<=18:=by
 rcases Nat.lt_or_ge 18 x with e|e
 .have i:gu s x y z=false:=by
   unfold gu;rw[aa (by omega),aa (by omega),aa (by omega),aa (by omega),aa (by omega)]
  rw[i]at h;cases h
 exact e
theorem jZ{s:Pl}{x y z:Nat}(h:gu s x y z=true)(hx:x<=1\/x=2\/x=3\/(6<=x/\x<=9)\/x=18):y=0/\z=0:=by
 unfold gu at h;rw[aj hx]at h;simpa using h
theorem jq{s:Pl}{x y z:Nat}(h:gu s x y z=true)(hx:x=5\/x=11\/x=12\/x=15\/x=16):fe s y/\z=0:=by
 unfold gu at h;rw[aa (by omega),aa (by omega),aj hx]at h;have:=dO h;exact⟨⟨this.1,this.2.1⟩,this.2.2⟩
theorem yk{s:Pl}{x y z:Nat}(h:gu s x y z=true)(hx:x=4\/x=10):y<4/\z=0:=by
 unfold gu at h;rw[aa (by omega),aj hx]at h;exact dO h
theorem ld{s:Pl}{y z:Nat}(h:gu s 17 y z=true):fe s y/\z=0/\(s.T y).lf.isSome=true:=by
 unfold gu at h;rw[aa (by omega),aa (by omega),aa (by omega),aj rfl,Bool.and_eq_true]at h;have:=dO h.1;exact⟨⟨this.1,this.2.1⟩,this.2.2,h.2⟩
theorem lI{s:Pl}{x y z:Nat}(h:gu s x y z=true)(hx:x=13\/x=14):fe s y/\z<(s.T y).fr.length:=by
 unfold gu at h;rw[aa (by omega),aa (by omega),aa (by omega),aa (by omega),aj hx]at h;have:=dO h;exact⟨⟨this.1,this.2.1⟩,this.2.2⟩
theorem pW{s:Pl}{x y z:Nat}(h:gu s x y z=true)(hx:eQ x):z=0:=by
 obtain⟨o,i,e⟩:=hx;by_cases a:x=4\/x=10
 .exact(yk h a).2
 by_cases b:x=5\/x=12
 .exact(jq h (by omega)).2
 exact(jZ h (by omega)).2
theorem nu{s s':Pl}{x y z:Nat}(hn:s'.nt=s.nt)(i:(s'.T y).fr.length=(s.T y).fr.length)(o:x=17->z=0->(s'.T y).lf.isSome=(s.T y).lf.isSome):gu s' x y z=gu s x y z:=by
 unfold gu;rw[hn,i];by_cases h:x=17
 .by_cases hz:z=0
  .rw[o h hz]
  have:¬(1<=y/\y<=s.nt/\z=0):=λe=>hz e.2.2;simp[this]
 simp[h]
theorem jT{p:dz}{s s':Pl}{g g':eE}{x y z:Nat}(o:gu s' x y z=gu s x y z)(i:gu s x y z=true->FX p s' g' x y z=FX p s g x y z):ob p s' g' x y z=ob p s g x y z:=by
 unfold ob;rw[o];by_cases e:gu s x y z=true
 .rw[aj e,aj e,i e]
 rw[aa e,aa e]
theorem lL{p:dz}{s s':Pl}{g g':eE}{x y z:Nat}(Z:gu s x y z=true)(h0:x=0->iJ p s' g'=iJ p s g)(Y:x=1->s'.kd=s.kd/\jn s' g'=jn s g/\s'.M=s.M)(u:x=11->g'.tb y=g.tb y/\gE p s' g' y=gE p s g y)(i:x=13->g'.fb y z=g.fb y z/\yf p g' y z (de s' y z)=yf p g y z (de s y z))(J:x=14->g'.rb y z=g.rb y z/\de s' y z=de s y z)(G:x=15->g'.xe y=g.xe y)(H:x=16->g'.xt y=g.xt y/\g'.tb y=g.tb y)(o:x=17->g'.sx y=g.sx y/\ye p s' g' y=ye p s g y)(W:eQ x->g'.ro x y=g.ro x y/\eH s' x y=eH s x y/\fU s' g' x y=fU s g x y):FX p s' g' x y z=FX p s g x y z:=by
 have a0:=uM Z;by_cases e:eQ x
 .obtain⟨a,b,c⟩:=W e;rw[gk e,gk e,a,b,c]
 have hc:x=0\/x=1\/x=11\/x=13\/x=14\/x=15\/x=16\/x=17\/x=18:=by unfold eQ at e;omega
 rcases hc with rfl|rfl|rfl|rfl|rfl|rfl|rfl|rfl|rfl
 .show Ob.full p.eb 144 44 (iJ p s' g')=Ob.full p.eb 144 44 (iJ p s g);rw[h0 rfl]
 .obtain⟨a,b,c⟩:=Y rfl;show Ob.str p.sb p.pb p.eb p.n s'.kd (jn s' g') s'.M=Ob.str p.sb p.pb p.eb p.n s.kd (jn s g) s.M;rw[a,b,c]
 .obtain⟨a,b⟩:=u rfl;show Ob.full (g'.tb y) 160 7 (gE p s' g' y)=Ob.full (g.tb y) 160 7 (gE p s g y);rw[a,b]
 .obtain⟨a,b⟩:=i rfl;show Ob.one (g'.fb y z) (yf p g' y z (de s' y z))=Ob.one (g.fb y z) (yf p g y z (de s y z));rw[a,b]
 .obtain⟨a,b⟩:=J rfl;show Ob.full (g'.rb y z) 149 (p.rg (de s' y z).f*2) (eC (de s' y z).R)=Ob.full (g.rb y z) 149 (p.rg (de s y z).f*2) (eC (de s y z).R);rw[a,b]
 .show Ob.one (g'.xe y) _=Ob.one (g.xe y) _;rw[G rfl]
 .obtain⟨a,b⟩:=H rfl;show Ob.one (g'.xt y) (.cells #[P0 (g'.tb y)] 155 (0,0))=Ob.one (g.xt y) (.cells #[P0 (g.tb y)] 155 (0,0));rw[a,b]
 .obtain⟨a,b⟩:=o rfl;show Ob.one (g'.sx y) (ye p s' g' y)=Ob.one (g.sx y) (ye p s g y);rw[a,b]
 rfl
def Lu(v:Nat×Nat):Nat:=if v.1=6 then 29 else if v.1=7 then 30 else if v.1=8 then 31 else if v.1=2 then 32 else if v.1=3 then 33 else if v.1=9 then 43 else if v.1=10 then 34+2*v.2 else 35+2*v.2
theorem DH(j:Nat)(i:j<44)(e:29<=j)(o:j≠42):Lu (kN j)=j:=by
 unfold kN;split
 .subst j;rfl
 split
 .subst j;rfl
 split
 .subst j;rfl
 split
 .subst j;rfl
 split
 .subst j;rfl
 split
 .subst j;rfl
 split
 .show 34+2*((j-34) / 2)=j;omega
 show 35+2*((j-34) / 2)=j;omega
theorem tD(j:Nat)(y:j<44)(e:Nat)(u:e<44)(o:29<=j)(i:j≠42)(H:29<=e)(G:e≠42)(h:kN j=kN e):j=e:=by
 rw[<-DH j y o i,h,DH e u H G]
theorem tB(j:Nat):eQ (kN j).1/\(kN j).1≠5/\(kN j).1≠12/\((kN j).1=4\/(kN j).1=10\/(kN j).2=0):=by
 unfold kN eQ;refine⟨⟨?_,?_,?_⟩,?_,?_,?_⟩<;>(repeat' split)<;>simp
theorem xQ{p:dz}{s s':Pl}{g g':eE}{x y j0:Nat}(J:kN j0=(x,y))(i:29<=j0/\j0<44/\j0≠42)(Z:∀a b,¬(a=x/\b=y)->eQ a->a≠5->a≠12->(a=4\/a=10\/b=0)->sl s' g' a b=sl s g a b)(Y:s'.eY=s.eY)(hp:s'.sp=s.sp)(j:Nat)(W:j<44): ep (iJ p s g) j0 (sl s' g' x y) j=iJ p s' g' j:=by
 by_cases e:j=j0
 .subst e;rw[gf];unfold iJ;rw[aa (by omega),aa (by omega),aa (by omega),J]
 rw[eG _ _ _ _ e];unfold iJ;by_cases G:j<28
 .rw[aj G,aj G]
 rw[aa G,aa G];by_cases u:j=28
 .rw[aj u,aj u,Y]
 rw[aa u,aa u];by_cases o:j=42
 .rw[aj o,aj o,hp]
 rw[aa o,aa o];have hn:=tB j;exact(Z _ _ (λH=>e (tD j W j0 i.2.1 (by omega) o i.1 i.2.2 (by rw[J];exact fV H.1 H.2))) hn.1 hn.2.1 hn.2.2.1 hn.2.2.2).symm
theorem jL{p:dz}{s s':Pl}{g g':eE}(i:∀a b,eQ a->a≠5->a≠12->(a=4\/a=10\/b=0)->sl s' g' a b=sl s g a b)(e:s'.eY=s.eY)(o:s'.sp=s.sp):iJ p s' g'=iJ p s g:=by
 funext j
 have hn:=tB j;unfold iJ;rw[e,o,i _ _ hn.1 hn.2.1 hn.2.2.1 hn.2.2.2]
def fz(s:Pl)(x y:Nat):Prop:=(x=2/\y=0)\/(x=3/\y=0)\/(x=4/\y<4)\/(x=5/\fe s y)
def EU(x:Nat):TypeId:=if x=5 then 160 else 144
def FZ(x:Nat):Nat:=if x=5 then 7 else 44
def Hb(p:dz)(s:Pl)(g:eE)(x y:Nat):Nat->Value:=if x=5 then gE p s g y else iJ p s g
theorem pE{s:Pl}{x y:Nat}(h:fz s x y):2<=x/\x<=5:=by
 rcases h with⟨rfl,rfl⟩|⟨rfl,rfl⟩|⟨rfl,h⟩|⟨rfl,h⟩<;>omega
theorem mO{s:Pl}{x y:Nat}(h:fz s x y)(e:x=5):fe s y:=by
 rcases h with⟨rfl,rfl⟩|⟨rfl,rfl⟩|⟨rfl,h⟩|⟨rfl,h⟩
 .cases e
 .cases e
 .cases e
 exact h
theorem xv{s:Pl}{x y:Nat}(h:fz s x y):eQ x:=by have:=pE h;unfold eQ;omega
theorem vu{s:Pl}{x y:Nat}(h:fz s x y):gu s x y 0=true:=by
 rcases h with⟨rfl,rfl⟩|⟨rfl,rfl⟩|⟨rfl,h⟩|⟨rfl,h⟩
 .exact iq (by omega)
 .exact iq (by omega)
 .exact II (by omega) h
 exact gG (by omega) h
theorem pD{s:Pl}{x y:Nat}(h:fz s x y):zA x=155/\zB x=1:=by
 unfold zA zB;rcases h with⟨rfl,rfl⟩|⟨rfl,rfl⟩|⟨rfl,h⟩|⟨rfl,h⟩<;>exact⟨rfl,rfl⟩
theorem mj{s:Pl}(s':Pl){x y:Nat}(h:fz s x y):eH s' x y=(s'.q x y).length:=by
 unfold eH;have:=pE h;rw[aa (by omega),aa (by omega),aa (by omega),aa (by omega),aa (by omega),aa (by omega)]
theorem nL{s:Pl}(s':Pl)(g:eE){x y:Nat}(h:fz s x y):fU s' g x y=((s'.q x y).map g.tb).map P0:=by
 unfold fU;have:=pE h;rw[aa (by omega),aa (by omega),aa (by omega),aa (by omega),aa (by omega),aa (by omega)]
theorem td{s:Pl}{x y:Nat}(h:fz s x y)(e:x≠5):kN (wg x y)=(x,y)/\29<=wg x y/\wg x y<44/\wg x y≠42:=by
 rcases h with⟨rfl,rfl⟩|⟨rfl,rfl⟩|⟨rfl,h⟩|⟨rfl,h⟩
 .decide
 .decide
 .have:y=0\/y=1\/y=2\/y=3:=by omega
  rcases this with rfl|rfl|rfl|rfl<;>decide
 exact ch rfl e
theorem dQ.ln{p:dz}{s:Pl}{g:eE}{w:World}(h:dQ p s g w){x y:Nat}(i:fz s x y)(hn:(s.q x y).length<=1000000000): Ln w (tP p g x y) (wg x y) (EU x) (FZ x) (Hb p s g x y) (g.ro x y).1 (s.q x y).length (g.ro x y).2 ((s.q x y).map g.tb):=by
 have o:=h.row (xv i) (vu i);unfold sl at o;rw[(pD i).1,(pD i).2,mj s i,nL s g i]at o;unfold tP EU FZ Hb;by_cases e:x=5
 .rw[aj e,aj e,aj e,aj e];subst e;refine⟨h.tk (mO i rfl),by show 6<7;decide,?_,o,hn⟩;show sl s g 5 y=_;unfold sl;rw[mj s i]
 rw[aa e,aa e,aa e,aa e];obtain⟨a,b,c,d⟩:=td i e;refine⟨h.E,by omega,?_,o,hn⟩;unfold iJ;rw[aa (by omega),aa (by omega),aa (by omega),a];unfold sl;rw[mj s i]
end F
namespace F
def Pl.dv(s:Pl)(t:Nat)(v:oT):Pl:={ s with T:=λi=>if i=t then v else s.T i }
def Pl.eZ(s:Pl)(x y:Nat)(l:List Nat):Pl:={ s with q:=λa b=>if a=x/\b=y then l else s.q a b }
def eE.at(g:eE)(x y:Nat)(r:Option Addr×Nat):eE:={ g with ro:=λa b=>if a=x/\b=y then r else g.ro a b }
theorem df(s:Pl)(t:Nat)(v:oT):(s.dv t v).T t=v:=aj rfl
theorem dP(s:Pl){t u:Nat}(v:oT)(h:u≠t):(s.dv t v).T u=s.T u:=aa h
theorem fX(s:Pl)(x y:Nat)(l:List Nat):(s.eZ x y l).q x y=l:=aj ⟨rfl,rfl⟩
theorem fL(s:Pl){x y a b:Nat}(l:List Nat)(h:¬(a=x/\b=y)):(s.eZ x y l).q a b=s.q a b:=aa h
theorem qM(g:eE)(x y:Nat)(r:Option Addr×Nat):(g.at x y r).ro x y=r:=aj ⟨rfl,rfl⟩
theorem kR(g:eE){x y a b:Nat}(r:Option Addr×Nat)(h:¬(a=x/\b=y)):(g.at x y r).ro a b=g.ro a b:=aa h
theorem jN{s s':Pl}{x y:Nat}(G:s'.lv=s.lv)(o:s'.out=s.out)(i:s'.kp=s.kp)(e:s'.ev=s.ev)(J:s'.jo=s.jo)(H:(s'.T y).fr.length=(s.T y).fr.length)(u:s'.q x y=s.q x y):eH s' x y=eH s x y:=by
 unfold eH;rw[G,o,i,e,J,H,u]
theorem rj{s s':Pl}{g g':eE}{x y:Nat}(ht:g'.tb=g.tb)(e:g'.fb=g.fb)(H:s'.lv=s.lv)(u:s'.out=s.out)(o:s'.kp=s.kp)(i:s'.ev=s.ev)(W:s'.jo=s.jo)(J:(s'.T y).fr.length=(s.T y).fr.length)(G:s'.q x y=s.q x y):fU s' g' x y=fU s g x y:=by
 unfold fU;rw[H,u,o,i,W,J,G,ht,e]
theorem dQ.line{p:dz}{s:Pl}{g:eE}{w w':World}{x y t:Nat}{l:List Nat}{v:oT}{r:Option Addr×Nat}(h:dQ p s g w)(G:fz s x y)(ht:fe s t)(a8:v.fr=(s.T t).fr)(a6:v.lf=none\/v.lf=(s.T t).lf)(a7:¬(x=5/\y=t))(hH:Full w' (tP p g x y) (EU x) (FZ x) (FZ x) (ep (Hb p s g x y) (wg x y) (.slice r.1 l.length r.2)))(hR:w'.ownsRow 0 155 1 (.slice r.1 l.length r.2) l.length ((l.map g.tb).map P0))(hT:Full w' (g.tb t) 160 7 7 (gE p ((s.eZ x y l).dv t v) (g.at x y r) t))(hO:dy (λk=>k=tP p g x y\/k=g.tb t\/eO (g.ro x y).1=some k) w w')(hB:∀k,eO r.1=some k->eO (g.ro x y).1=some k\/w.heap.size<=k): Tr p s g w ((s.eZ x y l).dv t v) (g.at x y r) w':=by
 have i:∀u,(((s.eZ x y l).dv t v).T u).fr=(s.T u).fr:=λu=>by
  by_cases e:u=t
  .subst e;rw[df];exact a8
  rw[dP _ _ e];rfl
 have a3:∀a b,¬(a=x/\b=y)->((s.eZ x y l).dv t v).q a b=s.q a b:=λa b e=>fL s l e;have Z:∀a b,¬(a=x/\b=y)->sl ((s.eZ x y l).dv t v) (g.at x y r) a b=sl s g a b:=λa b e=>by
  unfold sl;rw[kR g r e,jN (s:=s) (s':=(s.eZ x y l).dv t v) rfl rfl rfl rfl rfl (by rw[i]) (a3 a b e)]
 have a1:=xv G;have a5:=vu G;have a0:sl ((s.eZ x y l).dv t v) (g.at x y r) x y=.slice r.1 l.length r.2:=by
  unfold sl;rw[qM,mj _ G];show Value.slice r.1 ((s.eZ x y l).q x y).length r.2=_;rw[fX]
 refine h.to (λa b c=>(a=x/\b=y/\c=0)\/(a=11/\b=t/\c=0)\/(x=5/\a=11/\b=y/\c=0)\/(x≠5/\a=0/\b=0/\c=0)\/(a=17/\b=t/\c=0/\v.lf=none)) (λ_=>(x,y,0)) (hO.mono (λk J _=>?_)) (λa b c hC=>?_) (λa b c hC=>?_) (λa b c k hC J=>?_)
 .rcases J with rfl|rfl|J
  .unfold tP;by_cases o:x=5
   .rw[aj o];refine⟨11,y,0,ab (ab (ag ⟨o,rfl,rfl,rfl⟩)),?_⟩;rw[kQ p g (mO G o)]
   rw[aa o];exact⟨0,0,0,ab (ab (ab (ag ⟨o,rfl,rfl,rfl⟩))),rfl⟩
  .refine⟨11,t,0,ab (ag ⟨rfl,rfl,rfl⟩),?_⟩;rw[kQ p g ht]
  refine⟨x,y,0,ag ⟨rfl,rfl,rfl⟩,?_⟩;rw[fR p g a1 a5];exact J
 .have a2:a=17->c=0->(((s.eZ x y l).dv t v).T b).lf=(s.T b).lf:=λW Y=>by
   by_cases e:b=t
   .subst e;rw[df];rcases a6 with h0|h0
    .exact ch (ab (ab (ab (ab ⟨W,rfl,Y,h0⟩)))) hC
    exact h0
   rw[dP _ _ e];rfl
  refine jT (nu rfl (by rw[i]) (λW Y=>by rw[a2 W Y])) (λhV=>lL hV ?_ (λ_=>⟨rfl,rfl,rfl⟩) ?_ ?_ ?_ (λ_=>rfl) (λ_=>⟨rfl,rfl⟩) ?_ ?_)
  .intro W;obtain⟨eb,Y⟩:=jZ hV (by omega);have o:=Classical.byContradiction λo=>hC (ab (ab (ab (ag ⟨o,W,eb,Y⟩))));exact jL (λa' b' _ e _ _=>Z a' b' (λhh=>e (hh.1.trans o))) rfl rfl
  .intro W;obtain⟨hb,Y⟩:=jq hV (by omega);have e1:b≠t:=λe=>hC (ab (ag ⟨W,e,Y⟩));refine⟨rfl,?_⟩;funext j
   unfold gE;rw[Z 12 b (λe=>by have:=pE G;omega),Z 5 b (λe=>hC (ab (ab (ag ⟨e.1.symm,W,e.2,Y⟩)))),dP _ _ e1];rfl
  .intro W;refine⟨rfl,?_⟩;unfold de;rw[i];rfl
  .intro W;refine⟨rfl,?_⟩;unfold de;rw[i]
  .intro W;subst W;obtain⟨hb,Y,_⟩:=ld hV;refine⟨rfl,?_⟩;unfold ye;rw[a2 rfl Y,i];rfl
  intro hx;have Y:=pW hV hx;have e:¬(a=x/\b=y):=λe=>hC (ag ⟨e.1,e.2,Y⟩);exact⟨kR g r e,jN (s:=s) (s':=(s.eZ x y l).dv t v) rfl rfl rfl rfl rfl (by rw[i]) (a3 a b e),rj (s:=s) (s':=(s.eZ x y l).dv t v) rfl rfl rfl rfl rfl rfl rfl (by rw[i]) (a3 a b e)⟩
 .rcases hC with⟨rfl,rfl,rfl⟩|⟨rfl,rfl,rfl⟩|⟨o,rfl,rfl,rfl⟩|⟨o,rfl,rfl,rfl⟩|⟨rfl,rfl,rfl,hn⟩
  .have H:=vu (s:=(s.eZ a b l).dv t v) G;rw[gH H,gk a1];show w'.ownsRow 0 (zA a) (zB a) (sl ((s.eZ a b l).dv t v) (g.at a b r) a b) (eH ((s.eZ a b l).dv t v) a b) (fU ((s.eZ a b l).dv t v) (g.at a b r) a b);rw[a0,(pD G).1,(pD G).2,mj _ G,nL _ _ G];show w'.ownsRow 0 155 1 _ ((s.eZ a b l).q a b).length ((((s.eZ a b l).q a b).map g.tb).map P0);rw[fX];exact hR
  .have H:gu ((s.eZ x y l).dv b v) 11 b 0=true:=gG (by omega) ht;rw[gH H];exact hT
  .have hb:=mO G o;have H:gu ((s.eZ x b l).dv t v) 11 b 0=true:=gG (by omega) hb;rw[gH H];have e1:b≠t:=λe=>a7 ⟨o,e⟩;have a4:Full w' (g.tb b) 160 7 7 (ep (gE p s g b) 6 (.slice r.1 l.length r.2)):=by
    have:=hH;unfold tP EU FZ Hb wg at this;simp only[aj o]at this;exact this
   refine a4.congr (λj hj=>?_);by_cases ej:j=6
   .subst ej;rw[gf,<-a0,o];rfl
   rw[eG _ _ _ _ ej];unfold gE;rw[Z 12 b (λe=>by omega),dP _ _ e1];by_cases j0:j=0
   .simp only[aj j0]
   by_cases j1:j=1
   .simp only[aa j0,aj j1]
   by_cases j2:j=2
   .simp only[aa j0,aa j1,aj j2];rfl
   by_cases j3:j=3
   .simp only[aa j0,aa j1,aa j2,aj j3];rfl
   by_cases j4:j=4
   .simp only[aa j0,aa j1,aa j2,aa j3,aj j4];rfl
   by_cases j5:j=5
   .simp only[aa j0,aa j1,aa j2,aa j3,aa j4,aj j5];rfl
   omega
  .have a4:Full w' p.eb 144 44 44 (ep (iJ p s g) (wg x y) (.slice r.1 l.length r.2)):=by
    have:=hH;unfold tP EU FZ Hb at this;simp only[aa o]at this;exact this
   refine Full.congr a4 (λj hj=>?_);rw[<-a0];exact xQ (td G o).1 (td G o).2 (λa b e _ _ _ _=>Z a b e) rfl rfl j hj
  rw[vq (λhV=>by
   have:=(ld hV).2.2;rw[df,hn]at this
   cases this)]
  exact trivial
 rcases hC with⟨rfl,rfl,rfl⟩|⟨rfl,rfl,rfl⟩|⟨o,rfl,rfl,rfl⟩|⟨o,rfl,rfl,rfl⟩|⟨rfl,rfl,rfl,hn⟩
 .have H:=vu (s:=(s.eZ a b l).dv t v) G;rw[fR p _ a1 H,qM]at J;rw[fR p g a1 a5];exact(hB k J).imp id (λh=>⟨h,rfl⟩)
 .rw[kQ p _ (show fe ((s.eZ x y l).dv b v) b from ht)]at J;rw[kQ p g ht];exact ag J
 .have hb:=mO G o;rw[kQ p _ (show fe ((s.eZ x b l).dv t v) b from hb)]at J;rw[kQ p g hb];exact ag J
 .exact ag J
 rw[vq (λhV=>by
  have:=(ld hV).2.2;rw[df,hn]at this
  cases this)]at J
 exact J.elim
theorem gn:∀(n:Nat) (l:List Nat),l.Nodup->(∀t,t∈l->1<=t/\t<=n)->l.length<=n
 | 0,[],_,_=>bj _
 | 0,a :: l,_,h=>by have:=h a (by simp);omega
 | n+1,l,hd,h=>by
  have e:=gn n (l.erase (n+1)) (hd.erase _) (λt ht=>by
   have e:=hd.mem_erase_iff.1 ht;have i:=h t e.2;have o:=e.1;omega)
  have i:l.length<=(l.erase (n+1)).length+1:=by
   rw[List.length_erase];split<;>omega
  omega
theorem qs{f:Nat->Nat}{a:Nat}:∀(l:List Nat),(∀b,b∈l->f b=f a->b=a)->(l.map f).erase (f a)=(l.erase a).map f
 | [],_=>rfl
 | b :: l,h=>by
  rw[List.map_cons,List.erase_cons,List.erase_cons];by_cases e:b=a
  .subst e;simp
  have y:(b == a)=false:=by simpa using e
  have o:(f b == f a)=false:=by
   rw[dK];exact λi=>e (h b (by simp) i)
  rw[y,o];simp[qs l (λc u=>h c (by simp[u]))]
structure LW(s:Pl):Prop where
 a:∀t,fe s t->∀x y,(s.T t).wh=some (x,y)->fz s x y/\t∈s.q x y/\¬(x=5/\y=t)
 b:∀x y,fz s x y->∀t,t∈s.q x y->fe s t/\(s.T t).wh=some (x,y)
 c:∀x y,fz s x y->(s.q x y).Nodup
 d:s.nt<=500000000
theorem LW.len{s:Pl}(h:LW s){x y:Nat}(e:fz s x y):(s.q x y).length<=500000000:=dH (gn s.nt _ (h.c x y e) (λt ht=>(h.b x y e t ht).1)) h.d
def oT.off(v:oT):oT:={ v with wh:=none,lf:=none }
def oT.to(v:oT)(x y:Nat):oT:={ v with run:=false,wh:=some (x,y) }
def Pl.dw(s:Pl)(t:Nat):Pl:=match (s.T t).wh with
 | none=>s
 | some (x,y)=>(s.eZ x y ((s.q x y).erase t)).dv t (s.T t).off
theorem FJ(g:eE)(x y:Nat):g.at x y (g.ro x y)=g:=by
 unfold eE.at;have:(λa b=>if a=x/\b=y then g.ro x y else g.ro a b)=g.ro:=by
  funext a b
  by_cases e:a=x/\b=y
  .rw[aj e,e.1,e.2]
  rw[aa e]
 rw[this]
theorem uk{p:dz}{s:Pl}{g:eE}{x y t:Nat}{l:List Nat}{v:oT}{r:Option Addr×Nat}(hl:fz s x y)(o:v.fr=(s.T t).fr)(u:¬(x=5/\y=t))(P:Nat->Value)(h0:P 0=gE p s g t 0)(H:P 1=gE p s g t 1)(h2:P 2=.bool v.run)(h3:P 3=x8 p g v.wh)(Y:P 4=Ba g t v.lf)(W:P 5=.int .i64 v.iL)(J:P 6=gE p s g t 6)(j:Nat)(hj:j<7):P j=gE p ((s.eZ x y l).dv t v) (g.at x y r) t j:=by
 have Z:=pE hl;have i:∀a,¬(a=x/\t=y)->sl ((s.eZ x y l).dv t v) (g.at x y r) a t=sl s g a t:=λa e=>by
  unfold sl;rw[kR g r e,jN (s:=s) (s':=(s.eZ x y l).dv t v) rfl rfl rfl rfl rfl (by rw[df,o]) (fL s l e)]
 have G:j=0\/j=1\/j=2\/j=3\/j=4\/j=5\/j=6:=by omega
 rcases G with rfl|rfl|rfl|rfl|rfl|rfl|rfl
 .exact h0
 .rw[H];exact(i 12 (λe=>by omega)).symm
 .rw[h2];show _=Value.bool _;rw[df]
 .rw[h3];show _=x8 p (g.at x y r) _;rw[df];rfl
 .rw[Y];show _=Ba (g.at x y r) t _;rw[df];rfl
 .rw[W];show _=Value.int .i64 _;rw[df]
 rw[J];exact(i 5 (λe=>u ⟨e.1.symm,e.2.symm⟩)).symm
theorem ss{p:dz}{s:Pl}{g:eE}{w:World}{t:Nat}(h:dQ p s g w)(hW:LW s)(ht:fe s t): Calls prog 133 #[P0 (g.tb t)] w λe w'=>e=.returned (.tuple #[])/\Tr p s g w (s.dw t) g w':=by
 have hT:=h.tk ht;unfold Pl.dw
 cases hwh:(s.T t).wh with
 | none=>
  refine(uU (g.tb t) w ?_).mono ?_
  .rw[hT.cell 3 (by omega)];show some (x8 p g (s.T t).wh)=_;rw[hwh];rfl
  rintro e w' ⟨rfl,rfl⟩;exact⟨rfl,Tr.refl h⟩
 | some xy=>
  obtain⟨x,y⟩:=xy;obtain⟨G,hm,H⟩:=hW.a t ht x y hwh;have a8:=hW.len G;have i:=h.ln G (by omega);have Z:(s.q x y).length≠0:=by
   intro e;rw[cf]at e;rw[e]at hm;cases hm
  obtain⟨gb,cap,a3⟩:=dM i.row Z;injection a3 with W _ Y;have a9:=i;rw[W,Y]at i
  have nb:tP p g x y≠g.tb t:=by
   unfold tP;by_cases h5:x=5
   .rw[aj h5];exact λe=>H ⟨h5,h.ny (mO G h5) ht e⟩
   rw[aa h5];exact h.E.ne hT (by decide)
  have a4:gE p s g t 3=Pt (tP p g x y) (wg x y):=by
   show x8 p g (s.T t).wh=_;rw[hwh];rfl
  refine(Cd (tP p g x y) (wg x y) gb cap (s.q x y).length (g.tb t) (FZ x) (EU x) (Hb p s g x y) (gE p s g t) ((s.q x y).map g.tb) w i hT a4 (List.mem_map_of_mem hm) (λz hz=>?_) nb (eL i.row i.hE (by unfold EU;split<;>decide) gb rfl) (eL i.row hT (by decide) gb rfl)).mono ?_
  .obtain⟨u,hu,rfl⟩:=ek.1 hz;exact(h.tk (hW.b x y G u hu).1).xV
  rintro e w' ⟨rfl,a1,a5,a7⟩;have a2:=List.length_erase_of_mem hm;have o:g.ro x y=(some ⟨gb,0,none⟩,cap):=fV W Y;have a0:=h.line (l:=(s.q x y).erase t) (v:=(s.T t).off) (r:=g.ro x y) G ht rfl (ag rfl) H (w':=w') ?_ ?_ ?_ ?_ (λk hk=>ag hk)
  .rw[FJ]at a0;exact⟨rfl,a0⟩
  .rw[a2,o];exact a1.hE
  .rw[a2,o];have:=a1.row;rw[qs _ (λb hb e=>h.ny (hW.b x y G b hb).1 ht e)]at this;exact this
  .refine a5.congr (λj hj=>uk (v:=(s.T t).off) G rfl H _ ?_ ?_ ?_ ?_ ?_ ?_ ?_ j hj)<;>rfl
  refine a7.mono (λk hk _=>?_);rcases hk with J|J|J
  .exact ag J
  .exact ab (ag J)
  refine ab (ab ?_);rw[o,J];rfl
def Pl.dV(s:Pl)(x y t:Nat):Pl:=((s.dw t).eZ x y ((s.dw t).q x y++[t])).dv t (((s.dw t).T t).to x y)
theorem ku(s:Pl)(t u:Nat):((s.dw t).T u).fr=(s.T u).fr:=by
 unfold Pl.dw;split
 .rfl
 by_cases e:u=t
 .subst e;rw[df];rfl
 rw[dP _ _ e];rfl
theorem fO(s:Pl)(t:Nat):(s.dw t).nt=s.nt:=by unfold Pl.dw;split<;>rfl
theorem vn(s:Pl){t x y:Nat}(h:(s.T t).wh≠some (x,y)):(s.dw t).q x y=s.q x y:=by
 unfold Pl.dw;split
 .rfl
 rename_i a b e;exact fL s _ (λi=>h (by rw[e,i.1,i.2]))
theorem eg{s s':Pl}(h:s'.nt=s.nt){t:Nat}:fe s' t↔fe s t:=by unfold fe;rw[h]
theorem fQ{s s':Pl}(h:s'.nt=s.nt){x y:Nat}:fz s' x y↔fz s x y:=by unfold fz;rw[eg h]
theorem xA{p:dz}{s:Pl}{g:eE}{w:World}{x y t:Nat}(h:dQ p s g w)(hW:LW s)(hl:fz s x y)(ht:fe s t)(G:¬(x=5/\y=t))(a1:(s.T t).wh≠some (x,y)): Calls prog 110 #[Pt (tP p g x y) (wg x y),P0 (g.tb t)] w λe w'=>e=.returned (.tuple #[])/\∃r,Tr p s g w (s.dV x y t) (g.at x y r) w':=by
 have a5:=hW.len hl;have J:=h.ln hl (by omega);have hT:=h.tk ht
 have nb:tP p g x y≠g.tb t:=by
  unfold tP;by_cases h5:x=5
  .rw[aj h5];exact λe=>G ⟨h5,h.ny (mO hl h5) ht e⟩
  rw[aa h5];exact h.E.ne hT (by decide)
 have hc:w.cell? ⟨tP p g x y,wg x y,none⟩=some (.slice (g.ro x y).1 (s.q x y).length (g.ro x y).2):=by
  rw[J.hE.cell _ J.ho,J.e]
 have hn1:=fO s t;have u:=(fQ hn1).2 hl;have a0:=(eg hn1).2 ht;have i:=vn s a1;refine(Jr (tP p g x y) (wg x y) (g.ro x y).2 (s.q x y).length (g.tb t) (FZ x) (EU x) (g.ro x y).1 (Hb p (s.dw t) g x y) (gE p (s.dw t) g t) ((s.q x y).map g.tb) (λw1=>Tr p s g w (s.dw t) g w1) w nb (λk o=>⟨eL J.row J.hE (by unfold EU;split<;>decide) k o,eL J.row hT (by decide) k o⟩) (by omega) hc ?_).mono ?_
 .refine(ss h hW ht).mono ?_;rintro e w1 ⟨rfl,H⟩;have W:=H.r.ln u (by rw[i];omega);rw[i]at W;exact⟨rfl,W,H.r.tk a0,H⟩
 rintro e w' ⟨rfl,w1,H,gb,c',Z,a2,a4,Y⟩;refine⟨rfl,(some ⟨gb,0,none⟩,c'),H.trans (H.r.line u a0 rfl (ab rfl) G ?_ ?_ ?_ ?_ ?_)⟩
 .rw[i,bo];exact Z.hE
 .rw[i,bo];have:=Z.row;rw[eP];exact this
 .refine a2.congr (λj hj=>uk (v:=((s.dw t).T t).to x y) u rfl G _ ?_ ?_ ?_ ?_ ?_ ?_ ?_ j hj)<;>rfl
 .refine a4.mono (λk o _=>?_);rw[dr]at o;exact o
 intro k o;have e:gb=k:=by injection o
 subst e;rw[dr]at Y;exact Y
theorem dQ.Aj{p:dz}{s s':Pl}{g:eE}{w w':World}{x y x2 y2 j0:Nat}{r:Option Addr×Nat}(h:dQ p s g w)(hx:6<=x/\x<=10)(hv:gu s x y 0=true)(a5:6<=x2/\x2<=10)(G:gu s x2 y2 0=true)(hj:kN j0=(x,y)/\29<=j0/\j0<44/\j0≠42)(e1:s'.nt=s.nt)(e2:s'.T=s.T)(e4:s'.kd=s.kd)(e5:s'.M=s.M)(e6:s'.ck=s.ck)(e7:s'.eY=s.eY)(e8:s'.sp=s.sp)(Z:∀a b,eQ a->(a=4\/a=5\/a=10\/a=12\/b=0)->¬(a=x/\b=y)->eH s' a b=eH s a b/\(¬(a=x2/\b=y2)->fU s' g a b=fU s g a b))(hH:Full w' p.eb 144 44 44 (ep (iJ p s g) j0 (.slice r.1 (eH s' x y) r.2)))(hR:w'.ownsRow 0 (zA x) (zB x) (.slice r.1 (eH s' x y) r.2) (eH s' x y) (fU s' g x y))(a3:¬(x2=x/\y2=y)->w'.ownsRow 0 (zA x2) (zB x2) (sl s g x2 y2) (eH s x2 y2) (fU s' g x2 y2))(hO:dy (λk=>k=p.eb\/eO (g.ro x y).1=some k\/eO (g.ro x2 y2).1=some k) w w')(hB:∀k,eO r.1=some k->eO (g.ro x y).1=some k\/w.heap.size<=k):Tr p s g w s' (g.at x y r) w':=by
 have Y:eQ x:=by unfold eQ;omega
 have i:eQ x2:=by unfold eQ;omega
 have W:∀a b,eQ a->(a=4\/a=5\/a=10\/a=12\/b=0)->¬(a=x/\b=y)->sl s' (g.at x y r) a b=sl s g a b:=λa b J hb e=>by
  unfold sl;rw[kR g r e,(Z a b J hb e).1]
 have a2:∀a b,gu s a b 0=true->eQ a->a=4\/a=5\/a=10\/a=12\/b=0:=λa b hV J=>by
  by_cases h4:a=4\/a=5\/a=10\/a=12
  .omega
  have:=(jZ hV (by unfold eQ at J;omega)).1;omega
 have a0:sl s' (g.at x y r) x y=.slice r.1 (eH s' x y) r.2:=by unfold sl;rw[qM]
 have H:∀a b c,gu s' a b c=gu s a b c:=λa b c=>nu e1 (by rw[e2]) (λ_ _=>by rw[e2]);have a1:∀a b,fU s' (g.at x y r) a b=fU s' g a b:=λ_ _=>rfl;refine h.to (λa b c=>(a=x/\b=y/\c=0)\/(a=0/\b=0/\c=0)\/(a=x2/\b=y2/\c=0)) (λ_=>(x,y,0)) (hO.mono (λk u _=>?_)) (λa b c o=>?_) (λa b c o=>?_) (λa b c k o u=>?_)
 .rcases u with rfl|u|u
  .exact⟨0,0,0,ab (ag ⟨rfl,rfl,rfl⟩),rfl⟩
  .refine⟨x,y,0,ag ⟨rfl,rfl,rfl⟩,?_⟩;rw[fR p g Y hv];exact u
  refine⟨x2,y2,0,ab (ab ⟨rfl,rfl,rfl⟩),?_⟩;rw[fR p g i G];exact u
 .refine jT (H a b c) (λhV=>lL hV ?_ (λ_=>⟨e4,?_,e5⟩) ?_ ?_ ?_ (λ_=>rfl) (λ_=>⟨rfl,rfl⟩) ?_ ?_)
  .intro ea;exact ch (ab (ag ⟨ea,jZ hV (by omega)⟩)) o
  .unfold jn;rw[e6];rfl
  .intro ea;refine⟨rfl,?_⟩;funext j
   unfold gE;rw[W 12 b (by unfold eQ;omega) (by omega) (λe=>by omega),W 5 b (by unfold eQ;omega) (by omega) (λe=>by omega),e2];rfl
  .intro ea;refine⟨rfl,?_⟩;unfold de;rw[e2];rfl
  .intro ea;refine⟨rfl,?_⟩;unfold de;rw[e2]
  .intro ea;refine⟨rfl,?_⟩;unfold ye;rw[e2];rfl
  intro J;have ec:=pW hV J;subst ec;have e:¬(a=x/\b=y):=λe=>o (ag ⟨e.1,e.2,rfl⟩);have hb:=a2 a b hV J;refine⟨kR g r e,(Z a b J hb e).1,?_⟩;rw[a1];exact(Z a b J hb e).2 (λe=>o (ab (ab ⟨e.1,e.2,rfl⟩)))
 .by_cases e0:a=x/\b=y/\c=0
  .obtain⟨rfl,rfl,rfl⟩:=e0;rw[gH (by rw[H];exact hv),gk Y];show w'.ownsRow 0 (zA a) (zB a) (sl s' (g.at a b r) a b) (eH s' a b) (fU s' (g.at a b r) a b);rw[a0,a1];exact hR
  rcases o with o|⟨rfl,rfl,rfl⟩|⟨rfl,rfl,rfl⟩
  .exact ch o e0
  .refine Full.congr hH (λj a4=>?_);rw[<-a0];exact xQ hj.1 hj.2 (λa' b' e J _ _ hb=>W a' b' J (by omega) e) e7 e8 j a4
  have e:¬(a=x/\b=y):=λe=>e0 ⟨e.1,e.2,rfl⟩;rw[gH (by rw[H];exact G),gk i];show w'.ownsRow 0 (zA a) (zB a) (sl s' (g.at x y r) a b) (eH s' a b) (fU s' (g.at x y r) a b);have hb:=a2 a b G i;rw[W a b i hb e,(Z a b i hb e).1,a1];exact a3 e
 by_cases e0:a=x/\b=y/\c=0
 .obtain⟨rfl,rfl,rfl⟩:=e0;rw[fR p _ Y (by rw[H];exact hv),qM]at u;rw[fR p g Y hv];exact(hB k u).imp id (λh=>⟨h,rfl⟩)
 rcases o with o|⟨rfl,rfl,rfl⟩|⟨rfl,rfl,rfl⟩
 .exact ch o e0
 .exact ag u
 have e:¬(a=x/\b=y):=λe=>e0 ⟨e.1,e.2,rfl⟩;rw[fR p _ i (by rw[H];exact G),kR g r e]at u;rw[fR p g i G];exact ag u
theorem dQ.yX{p:dz}{s s':Pl}{g:eE}{w w':World}{x y j0:Nat}{r:Option Addr×Nat}(h:dQ p s g w)(hx:6<=x/\x<=10)(o:gu s x y 0=true)(H:kN j0=(x,y)/\29<=j0/\j0<44/\j0≠42)(e1:s'.nt=s.nt)(J:s'.T=s.T)(e4:s'.kd=s.kd)(e5:s'.M=s.M)(e6:s'.ck=s.ck)(e7:s'.eY=s.eY)(u:s'.sp=s.sp)(i:∀a b,eQ a->(a=4\/a=5\/a=10\/a=12\/b=0)->¬(a=x/\b=y)->eH s' a b=eH s a b/\fU s' g a b=fU s g a b)(Y:Full w' p.eb 144 44 44 (ep (iJ p s g) j0 (.slice r.1 (eH s' x y) r.2)))(hR:w'.ownsRow 0 (zA x) (zB x) (.slice r.1 (eH s' x y) r.2) (eH s' x y) (fU s' g x y))(Z:dy (λk=>k=p.eb\/eO (g.ro x y).1=some k) w w')(W:∀k,eO r.1=some k->eO (g.ro x y).1=some k\/w.heap.size<=k):Tr p s g w s' (g.at x y r) w':=
 h.Aj hx o hx o H e1 J e4 e5 e6 e7 u (λa b c d e=>⟨(i a b c d e).1,λ_=>(i a b c d e).2⟩) Y hR (λe=>ch ⟨rfl,rfl⟩ e) (Z.mono (λ_ G _=>G.imp id ag)) W
theorem dQ.xR{p:dz}{s s':Pl}{g:eE}{w w':World}(h:dQ p s g w)(e1:s'.nt=s.nt)(e:s'.T=s.T)(Z:s'.kd=s.kd)(Y:s'.M=s.M)(e6:s'.ck=s.ck)(i:∀a b,eH s' a b=eH s a b/\fU s' g a b=fU s g a b)(J:Full w' p.eb 144 44 44 (iJ p s' g))(W:dy (λk=>k=p.eb) w w'):Tr p s g w s' g w':=by
 have o:∀a b,sl s' g a b=sl s g a b:=λa b=>by
  unfold sl;rw[(i a b).1]
 refine h.to (λa b c=>a=0/\b=0/\c=0) (λ_=>(0,0,0)) (W.mono (λk G _=>⟨0,0,0,⟨rfl,rfl,rfl⟩,G⟩)) (λa b c u=>?_) (λa b c u=>?_) (λa b c k u G=>?_)
 .refine jT (nu e1 (by rw[e]) (λ_ _=>by rw[e])) (λH=>lL H ?_ (λ_=>⟨Z,?_,Y⟩) ?_ ?_ ?_ (λ_=>rfl) (λ_=>⟨rfl,rfl⟩) ?_ (λ_=>⟨rfl,i a b⟩))
  .intro y;exact ch ⟨y,jZ H (by omega)⟩ u
  .unfold jn;rw[e6]
  .intro y;refine⟨rfl,?_⟩;funext j
   unfold gE;rw[o,o,e]
  .intro y;refine⟨rfl,?_⟩;unfold de;rw[e]
  .intro y;refine⟨rfl,?_⟩;unfold de;rw[e]
  intro y;refine⟨rfl,?_⟩;unfold ye;rw[e]
 .obtain⟨rfl,rfl,rfl⟩:=u;exact J
 obtain⟨rfl,rfl,rfl⟩:=u;exact ag G
theorem dQ.flag{p:dz}{s:Pl}{g:eE}{w w':World}{t:Nat}{v:oT}(h:dQ p s g w)(ht:fe s t)(Y:v.fr=(s.T t).fr)(Z:v.lf=(s.T t).lf)(hT:Full w' (g.tb t) 160 7 7 (gE p (s.dv t v) g t))(hO:dy (λk=>k=g.tb t) w w'):Tr p s g w (s.dv t v) g w':=by
 have i:∀u,((s.dv t v).T u).fr=(s.T u).fr:=λu=>by
  by_cases e:u=t
  .subst e;rw[df];exact Y
  rw[dP _ _ e]
 have o:∀u,((s.dv t v).T u).lf=(s.T u).lf:=λu=>by
  by_cases e:u=t
  .subst e;rw[df];exact Z
  rw[dP _ _ e]
 have G:∀a b,eH (s.dv t v) a b=eH s a b:=λa b=>jN rfl rfl rfl rfl rfl (by rw[i]) rfl;have y:∀a b,sl (s.dv t v) g a b=sl s g a b:=λa b=>by
  unfold sl;rw[G]
 refine h.to (λa b c=>a=11/\b=t/\c=0) (λ_=>(0,0,0)) (hO.mono (λk J _=>⟨11,t,0,⟨rfl,rfl,rfl⟩,by rw[kQ p g ht];exact J⟩)) (λa b c H=>?_) (λa b c H=>?_) (λa b c k H J=>?_)
 .refine jT (nu rfl (by rw[i]) (λ_ _=>by rw[o])) (λhV=>lL hV (λ_=>jL (λa b _ _ _ _=>y a b) rfl rfl) (λ_=>⟨rfl,rfl,rfl⟩) ?_ ?_ ?_ (λ_=>rfl) (λ_=>⟨rfl,rfl⟩) ?_ (λ_=>⟨rfl,G a b,rj rfl rfl rfl rfl rfl rfl rfl (by rw[i]) rfl⟩))
  .intro W;refine⟨rfl,?_⟩;funext j
   unfold gE;rw[y,y,dP _ _ (λe=>H ⟨W,e,(jq hV (by omega)).2⟩)]
  .intro W;refine⟨rfl,?_⟩;unfold de;rw[i]
  .intro W;refine⟨rfl,?_⟩;unfold de;rw[i]
  intro W;refine⟨rfl,?_⟩;unfold ye;rw[i,o]
 .obtain⟨rfl,rfl,rfl⟩:=H;rw[gH (show gu (s.dv b v) 11 b 0=true from gG (by omega) ht)];exact hT
 obtain⟨rfl,rfl,rfl⟩:=H;rw[kQ p g (show fe (s.dv b v) b from ht)]at J;rw[kQ p g ht];exact ag J
def Pl.dx(s:Pl)(t i:Nat)(f:gY):Pl:=s.dv t { s.T t with fr:=(s.T t).fr.set i f }
theorem ko(s:Pl){t i:Nat}(f:gY)(hi:i<(s.T t).fr.length):de (s.dx t i f) t i=f:=by
 unfold de Pl.dx;rw[df,ar,List.getElem?_set,aj rfl,aj hi];rfl
theorem jR(s:Pl){t i u j:Nat}(f:gY)(h:¬(u=t/\j=i)):de (s.dx t i f) u j=de s u j:=by
 unfold de Pl.dx;by_cases e:u=t
 .subst e;rw[df,ar,List.getElem?_set,aa (λe=>h ⟨rfl,e.symm⟩),ar]
 rw[dP _ _ e]
theorem dQ.Lo{p:dz}{s:Pl}{g:eE}{w w':World}{t i:Nat}{f:gY}(h:dQ p s g w)(ht:fe s t)(hi:i<(s.T t).fr.length)(hF:w'.heap[g.fb t i]? = some (yf p g t i f))(hR:Full w' (g.rb t i) 149 (p.rg f.f*2) (p.rg f.f*2) (eC f.R))(hO:dy (λk=>k=g.fb t i\/k=g.rb t i) w w'):Tr p s g w (s.dx t i f) g w':=by
 have o:∀u,((s.dx t i f).T u).fr.length=(s.T u).fr.length:=λu=>by
  unfold Pl.dx;by_cases e:u=t
  .subst e;rw[df];exact dq
  rw[dP _ _ e]
 have y:∀u,((s.dx t i f).T u).lf=(s.T u).lf:=λu=>by
  unfold Pl.dx;by_cases e:u=t
  .subst e;rw[df]
  rw[dP _ _ e]
 have Z:∀a b,eH (s.dx t i f) a b=eH s a b:=λa b=>jN rfl rfl rfl rfl rfl (o b) rfl;have J:∀a b,sl (s.dx t i f) g a b=sl s g a b:=λa b=>by
  unfold sl;rw[Z]
 have hv:∀a b c,gu (s.dx t i f) a b c=gu s a b c:=λa b c=>nu rfl (o b) (λ_ _=>by rw[y]);refine h.to (λa b c=>(a=13\/a=14)/\b=t/\c=i) (λ_=>(0,0,0)) (hO.mono (λk G _=>?_)) (λa b c W=>?_) (λa b c W=>?_) (λa b c k W G=>?_)
 .rcases G with G|G
  .refine⟨13,t,i,⟨ag rfl,rfl,rfl⟩,?_⟩;rw[gH (ns (by omega) ht hi)];exact G
  refine⟨14,t,i,⟨ab rfl,rfl,rfl⟩,?_⟩;rw[gH (ns (by omega) ht hi)];exact G
 .refine jT (hv a b c) (λhV=>lL hV (λ_=>jL (λa b _ _ _ _=>J a b) rfl rfl) (λ_=>⟨rfl,rfl,rfl⟩) ?_ ?_ ?_ (λ_=>rfl) (λ_=>⟨rfl,rfl⟩) ?_ (λ_=>⟨rfl,Z a b,rj rfl rfl rfl rfl rfl rfl rfl (o b) rfl⟩))
  .intro Y;refine⟨rfl,?_⟩;funext j
   unfold gE;rw[J,J,y];unfold Pl.dx;by_cases e:b=t
   .subst e;rw[df]
   rw[dP _ _ e]
  .intro Y;refine⟨rfl,?_⟩;rw[jR s f (λe=>W ⟨ag Y,e.1,e.2⟩)]
  .intro Y;refine⟨rfl,?_⟩;rw[jR s f (λe=>W ⟨ab Y,e.1,e.2⟩)]
  intro Y;refine⟨rfl,?_⟩;unfold ye;rw[o,y]
 .obtain⟨H,rfl,rfl⟩:=W;rcases H with rfl|rfl
  .rw[gH (by rw[hv];exact ns (by omega) ht hi)];show w'.heap[g.fb b c]? = some (yf p g b c (de (s.dx b c f) b c));rw[ko s f hi];exact hF
  rw[gH (by rw[hv];exact ns (by omega) ht hi)];show Full w' (g.rb b c) 149 (p.rg (de (s.dx b c f) b c).f*2) (p.rg (de (s.dx b c f) b c).f*2) (eC (de (s.dx b c f) b c).R);rw[ko s f hi];exact hR
 obtain⟨H,rfl,rfl⟩:=W;refine ag ?_;have hV:=ns H ht hi;rw[gH (by rw[hv];exact hV)]at G;rw[gH hV];rcases H with rfl|rfl
 .exact G
 exact G
theorem dQ.Kg{p:dz}{s s':Pl}{g:eE}{w w':World}{vb:Vs}(h:dQ p s g w)(e1:s'.nt=s.nt)(e:s'.T=s.T)(e3:s'.q=s.q)(e7:s'.eY=s.eY)(e8:s'.sp=s.sp)(f1:s'.lv=s.lv)(Y:s'.out=s.out)(f3:s'.kp=s.kp)(Z:s'.ev=s.ev)(f5:s'.jo=s.jo)(f6:s'.ck=vb.f.k)(hS:jm w' p.sb p.pb p.eb p.n s'.kd vb s'.M)(hO:dy (pP p.sb p.pb p.n s.kd (jn s g)) w w')(hG:ox p.n s.kd (jn s g) s'.kd vb w.heap.size):Tr p s g w s' { g with vf:=vb.f.b,cb:=vb.cb,rd:=vb.rd,ad:=vb.ad,cap:=vb.cap } w':=by
 have H:∀a b,eH s' a b=eH s a b:=λa b=>jN f1 Y f3 Z f5 (by rw[e]) (by rw[e3]);have o:jn s' { g with vf:=vb.f.b,cb:=vb.cb,rd:=vb.rd,ad:=vb.ad,cap:=vb.cap }=vb:=by unfold jn;rw[f6]
 have i:∀a b,sl s' { g with vf:=vb.f.b,cb:=vb.cb,rd:=vb.rd,ad:=vb.ad,cap:=vb.cap } a b=sl s g a b:=λa b=>by
  unfold sl;rw[H]
 refine h.to (λa b c=>a=1/\b=0/\c=0) (λ_=>(1,0,0)) (hO.mono (λk W _=>⟨1,0,0,⟨rfl,rfl,rfl⟩,W⟩)) (λa b c y=>?_) (λa b c y=>?_) (λa b c k y W=>?_)
 .refine jT (nu e1 (by rw[e]) (λ_ _=>by rw[e])) (λhV=>lL hV (λ_=>jL (λa b _ _ _ _=>i a b) e7 e8) ?_ ?_ ?_ ?_ (λ_=>rfl) (λ_=>⟨rfl,rfl⟩) ?_ (λ_=>⟨rfl,H a b,rj rfl rfl f1 Y f3 Z f5 (by rw[e]) (by rw[e3])⟩))
  .intro G;exact ch ⟨G,jZ hV (by omega)⟩ y
  .intro G;refine⟨rfl,?_⟩;funext j
   unfold gE;rw[i,i,e];rfl
  .intro G;refine⟨rfl,?_⟩;unfold de;rw[e];rfl
  .intro G;refine⟨rfl,?_⟩;unfold de;rw[e]
  intro G;refine⟨rfl,?_⟩;unfold ye;rw[e]
 .obtain⟨rfl,rfl,rfl⟩:=y;show jm w' p.sb p.pb p.eb p.n s'.kd (jn s' { g with vf:=vb.f.b,cb:=vb.cb,rd:=vb.rd,ad:=vb.ad,cap:=vb.cap }) s'.M;rw[o];exact hS
 obtain⟨rfl,rfl,rfl⟩:=y;have J:pP p.sb p.pb p.n s'.kd (jn s' { g with vf:=vb.f.b,cb:=vb.cb,rd:=vb.rd,ad:=vb.ad,cap:=vb.cap }) k:=W;rw[o]at J;rcases J with u|u|u
 .exact ag (ag u)
 .exact ag (ab (ag u))
 exact(hG k u).imp (λh=>ab (ab h)) (λh=>⟨h,rfl⟩)
theorem jb(s:Pl)(t:Nat):eH s 12 t=(s.T t).fr.length:=rfl
theorem kr(s:Pl)(g:eE)(t:Nat):fU s g 12 t=((List.range (s.T t).fr.length).map (g.fb t)).map P0:=rfl
def oT.kD(v:oT)(l:List gY):oT:={ v with fr:=l }
def Pl.push(s:Pl)(t:Nat)(f:gY):Pl:=s.dv t ((s.T t).kD ((s.T t).fr++[f]))
def eE.push(g:eE)(t m fb rb:Nat)(r:Option Addr×Nat):eE:={ g.at 12 t r with fb:=λa b=>if a=t/\b=m then fb else g.fb a b,rb:=λa b=>if a=t/\b=m then rb else g.rb a b }
theorem n9(g:eE)(t m fb rb:Nat)(r:Option Addr×Nat):(g.push t m fb rb r).fb t m=fb/\(g.push t m fb rb r).rb t m=rb:=⟨aj ⟨rfl,rfl⟩,aj ⟨rfl,rfl⟩⟩
theorem pq(g:eE){t m fb rb:Nat}{r:Option Addr×Nat}{a b:Nat}(h:¬(a=t/\b=m)):(g.push t m fb rb r).fb a b=g.fb a b/\(g.push t m fb rb r).rb a b=g.rb a b:=⟨aa h,aa h⟩
theorem vj(s:Pl)(t:Nat)(f:gY):de (s.push t f) t (s.T t).fr.length=f:=by
 unfold de Pl.push;rw[df];show((s.T t).fr++[f]).getD _ _=f;simp
theorem nI(s:Pl){t u i:Nat}(f:gY)(h:u=t->i<(s.T t).fr.length):de (s.push t f) u i=de s u i:=by
 unfold de Pl.push;by_cases e:u=t
 .subst e;rw[df];show((s.T u).fr++[f]).getD _ _=_;rw[ar,du (h rfl),ar]
 rw[dP _ _ e]
theorem dQ.push{p:dz}{s:Pl}{g:eE}{w w':World}{t fb rb:Nat}{f:gY}{r:Option Addr×Nat}(h:dQ p s g w)(ht:fe s t)(aC:(s.T t).lf=none)(hT:Full w' (g.tb t) 160 7 7 (ep (gE p s g t) 1 (.slice r.1 ((s.T t).fr.length+1) r.2)))(hK:w'.ownsRow 0 184 1 (.slice r.1 ((s.T t).fr.length+1) r.2) ((s.T t).fr.length+1) (((List.range (s.T t).fr.length).map (g.fb t)).map P0++[P0 fb]))(hF:w'.heap[fb]? = some (ij (p.cb f.f) (p.len f.f) f.nx rb (p.rg f.f) (wj p g t (s.T t).fr.length f.bk)))(hR:Full w' rb 149 (p.rg f.f*2) (p.rg f.f*2) (eC f.R))(hO:dy (λk=>k=g.tb t\/eO (g.ro 12 t).1=some k) w w')(n1:w.heap.size<=fb)(n2:w.heap.size<=rb)(hB:∀k,eO r.1=some k->eO (g.ro 12 t).1=some k\/w.heap.size<=k):Tr p s g w (s.push t f) (g.push t (s.T t).fr.length fb rb r) w':=by
 generalize hm:(s.T t).fr.length=m at *;have y:∀u,u≠t->(s.push t f).T u=s.T u:=λu e=>dP _ _ e;have J:(s.push t f).T t=(s.T t).kD ((s.T t).fr++[f]):=df _ _ _;have Y:((s.push t f).T t).fr.length=m+1:=by rw[J];show((s.T t).fr++[f]).length=_;rw[bo,hm];rfl
 have a8:∀a b,¬(a=12/\b=t)->(g.push t m fb rb r).ro a b=g.ro a b:=λa b e=>kR g r e;have a3:(g.push t m fb rb r).ro 12 t=r:=qM g 12 t r;have a9:∀a b,¬(a=12/\b=t)->eH (s.push t f) a b=eH s a b:=λa b e=>by
  by_cases eb:b=t
  .have o:a≠12:=λo=>e ⟨o,eb⟩;unfold eH;simp only[aa o];rfl
  exact jN rfl rfl rfl rfl rfl (by rw[y b eb]) rfl
 have H:∀a b,¬(a=t/\b=m)->(g.push t m fb rb r).fb a b=g.fb a b:=λa b e=>(pq g e).1;have aB:∀a b,¬(a=12/\b=t)->fU (s.push t f) (g.push t m fb rb r) a b=fU s g a b:=λa b e=>by
  by_cases o:a=12
  .subst o;have eb:b≠t:=λeb=>e ⟨rfl,eb⟩;rw[kr,kr,y b eb];have:=fB λi=>H b i (λe=>eb e.1);rw[this]
  unfold fU;simp only[aa o];rfl
 have a0:∀a b,¬(a=12/\b=t)->sl (s.push t f) (g.push t m fb rb r) a b=sl s g a b:=λa b e=>by
  unfold sl;rw[a8 a b e,a9 a b e]
 have a1:sl (s.push t f) (g.push t m fb rb r) 12 t=.slice r.1 (m+1) r.2:=by
  unfold sl;rw[a3,jb,Y]
 have a2:∀k,eO r.1=some k->k≠fb/\k≠rb:=λk G=>by
  obtain⟨_,_,cu,h1⟩:=dA hK k (by rw[dr];exact G);refine⟨dW h1 hF (by decide),?_⟩;obtain⟨aD,h2,_⟩:=hR;exact dW h1 h2 (by decide)
 have a6:rb≠fb:=by
  obtain⟨aD,h2,_⟩:=hR;exact dW h2 hF (by decide)
 have aA:∀a b c,¬((a=13\/a=14)/\b=t/\c=m)->gu (s.push t f) a b c=gu s a b c:=λa b c e=>by
  by_cases eb:b=t
  .by_cases o:a=13\/a=14
   .have ec:c≠m:=λec=>e ⟨o,eb,ec⟩;unfold gu;rw[aa (by omega),aa (by omega),aa (by omega),aa (by omega),aj o,aa (by omega),aa (by omega),aa (by omega),aa (by omega),aj o];have e1:((s.push t f).T b).fr.length=m+1:=by rw[eb];exact Y
    have e2:(s.T b).fr.length=m:=by rw[eb];exact hm
    rw[e1,e2];have a4:(s.push t f).nt=s.nt:=rfl;rw[a4];by_cases hc:c<m
    .have:c<m+1:=by omega
     simp[hc,this]
    have:¬c<m+1:=by omega
    simp[hc,this]
   unfold gu;have a4:(s.push t f).nt=s.nt:=rfl;rw[a4,aa o];by_cases aE:a=17
   .have:((s.push t f).T b).lf=(s.T b).lf:=by rw[eb,J];rfl
    rw[this,aa o]
   simp only[aa aE,aa o]
  exact nu rfl (by rw[y b eb]) (λ_ _=>by rw[y b eb])
 refine h.to (λa b c=>(a=11/\b=t/\c=0)\/(a=12/\b=t/\c=0)\/((a=13\/a=14)/\b=t/\c=m)) (λk=>if k=fb then(13,t,m) else if k=rb then(14,t,m) else(12,t,0)) (hO.mono (λk G _=>?_)) (λa b c hC=>?_) (λa b c hC=>?_) (λa b c k hC G=>?_)
 .rcases G with G|G
  .exact⟨11,t,0,ag ⟨rfl,rfl,rfl⟩,by rw[kQ p g ht];exact G⟩
  exact⟨12,t,0,ab (ag ⟨rfl,rfl,rfl⟩),by rw[fR p g (by unfold eQ;omega) (gG (by omega) ht)];exact G⟩
 .refine jT (aA a b c (λe=>hC (ab (ab e)))) (λhV=>lL hV (λ_=>jL (λa b _ _ e _=>a0 a b (λhh=>e hh.1)) rfl rfl) (λ_=>⟨rfl,rfl,rfl⟩) ?_ ?_ ?_ (λ_=>rfl) (λ_=>⟨rfl,rfl⟩) ?_ ?_)
  .intro o;have eb:b≠t:=λe=>hC (ag ⟨o,e,(jq hV (by omega)).2⟩);refine⟨rfl,?_⟩;funext j
   unfold gE;rw[a0 12 b (λe=>eb e.2),a0 5 b (λe=>by omega),y b eb];rfl
  .intro o;subst o;obtain⟨hb,hc⟩:=lI hV (by omega);have e0:¬(b=t/\c=m):=λe=>hC (ab (ab ⟨ag rfl,e.1,e.2⟩));refine⟨H b c e0,?_⟩;rw[nI s f (λe=>by subst e;exact hc)];unfold yf wj;have e1:(g.push t m fb rb r).rb b c=g.rb b c:=(pq g e0).2;have e2:=H b (c-1) (λe=>by
    have h1:(s.T b).fr.length=m:=by rw[e.1];exact hm
    omega)
   rw[e1,e2];rfl
  .intro o;subst o;obtain⟨hb,hc⟩:=lI hV (by omega);have e0:¬(b=t/\c=m):=λe=>hC (ab (ab ⟨ab rfl,e.1,e.2⟩));exact⟨(pq g e0).2,nI s f (λe=>by subst e;exact hc)⟩
  .intro o;subst o;have hl:=(ld hV).2.2;have eb:b≠t:=λe=>by rw[e,aC]at hl;cases hl
   refine⟨rfl,?_⟩;unfold ye;rw[y b eb,H b _ (λe=>eb e.1)];rfl
  intro ha;have e:¬(a=12/\b=t):=λe=>hC (ab (ag ⟨e.1,e.2,pW hV ha⟩));exact⟨a8 a b e,a9 a b e,aB a b e⟩
 .rcases hC with⟨rfl,rfl,rfl⟩|⟨rfl,rfl,rfl⟩|⟨W,rfl,rfl⟩
  .rw[gH (show gu (s.push b f) 11 b 0=true from gG (by omega) ht)];refine Full.congr hT (λj hj=>?_);have hc:j=0\/j=1\/j=2\/j=3\/j=4\/j=5\/j=6:=by omega
   rcases hc with rfl|rfl|rfl|rfl|rfl|rfl|rfl
   .rfl
   .exact a1.symm
   .show Value.bool (s.T b).run=Value.bool ((s.push b f).T b).run;rw[J];rfl
   .show x8 p g (s.T b).wh=x8 p (g.push b m fb rb r) ((s.push b f).T b).wh;rw[J];rfl
   .show Ba g b (s.T b).lf=Ba (g.push b m fb rb r) b ((s.push b f).T b).lf;rw[J];rfl
   .show Value.int .i64 (s.T b).iL=Value.int .i64 ((s.push b f).T b).iL;rw[J];rfl
   exact(a0 5 b (λe=>by omega)).symm
  .rw[gH (show gu (s.push b f) 12 b 0=true from gG (by omega) ht),gk (by unfold eQ;omega)];show w'.ownsRow 0 184 1 (sl (s.push b f) (g.push b m fb rb r) 12 b) (eH (s.push b f) 12 b) (fU (s.push b f) (g.push b m fb rb r) 12 b);rw[a1,jb,kr,Y,eA,eP,eP];have e1:(List.range m).map ((g.push b m fb rb r).fb b)=(List.range m).map (g.fb b):=List.map_congr_left (λi hi=>H b i (λe=>by have:=eJ.1 hi;omega));have e2:([m].map ((g.push b m fb rb r).fb b)).map P0=[P0 fb]:=by show[P0 ((g.push b m fb rb r).fb b m)]=_;rw[(n9 g b m fb rb r).1]
   rw[e1,e2];exact hK
  have a5:gu (s.push b f) a b c=true:=ns W ht (by rw[Y];omega);rw[gH a5];have a7:de (s.push b f) b c=f:=by rw[<-hm];exact vj s b f
  rcases W with rfl|rfl
  .show w'.heap[(g.push b c fb rb r).fb b c]? = some (yf p (g.push b c fb rb r) b c (de (s.push b f) b c));rw[a7,(n9 g b c fb rb r).1];unfold yf;rw[(n9 g b c fb rb r).2];have:wj p (g.push b c fb rb r) b c f.bk=wj p g b c f.bk:=by
    unfold wj;by_cases h0:c=0
    .rw[aj h0,aj h0];rfl
    rw[aa h0,aa h0,H b (c-1) (λe=>by omega)];rfl
   rw[this];exact hF
  show Full w' ((g.push b c fb rb r).rb b c) 149 (p.rg (de (s.push b f) b c).f*2) (p.rg (de (s.push b f) b c).f*2) (eC (de (s.push b f) b c).R);rw[a7,(n9 g b c fb rb r).2];exact hR
 rcases hC with⟨rfl,rfl,rfl⟩|⟨rfl,rfl,rfl⟩|⟨W,rfl,rfl⟩
 .rw[kQ p _ (show fe (s.push b f) b from ht)]at G;rw[kQ p g ht];exact ag G
 .rw[fR p _ (by unfold eQ;omega) (show gu (s.push b f) 12 b 0=true from gG (by omega) ht),a3]at G;rw[fR p g (by unfold eQ;omega) (gG (by omega) ht)];refine(hB k G).imp id (λh=>⟨h,?_⟩);rw[aa (a2 k G).1,aa (a2 k G).2]
 have a5:gu (s.push b f) a b c=true:=ns W ht (by rw[Y];omega);rw[gH a5]at G;rcases W with rfl|rfl
 .have Z:k=(g.push b c fb rb r).fb b c:=G;rw[(n9 g b c fb rb r).1]at Z;subst Z;exact ab ⟨n1,aj rfl⟩
 have Z:k=(g.push b c fb rb r).rb b c:=G;rw[(n9 g b c fb rb r).2]at Z;subst Z;exact ab ⟨n2,by rw[aa a6,aj rfl]⟩
def Pl.pop(s:Pl)(t:Nat):Pl:=s.dv t ((s.T t).kD (s.T t).fr.dropLast)
theorem oa(s:Pl){t u i:Nat}(h:u=t->i+1<(s.T t).fr.length):de (s.pop t) u i=de s u i:=by
 unfold de Pl.pop;by_cases e:u=t
 .subst e;rw[df];show(s.T u).fr.dropLast.getD _ _=_;have:=h rfl;rw[ar,List.getElem?_dropLast,aj (by omega),ar]
 rw[dP _ _ e]
theorem dQ.pop{p:dz}{s:Pl}{g:eE}{w w':World}{t m:Nat}(h:dQ p s g w)(ht:fe s t)(a6:(s.T t).lf=none)(hm:(s.T t).fr.length=m+1)(hT:Full w' (g.tb t) 160 7 7 (ep (gE p s g t) 1 (.slice (g.ro 12 t).1 m (g.ro 12 t).2)))(hK:w'.ownsRow 0 184 1 (.slice (g.ro 12 t).1 m (g.ro 12 t).2) m (((List.range m).map (g.fb t)).map P0))(hO:dy (λk=>k=g.tb t\/eO (g.ro 12 t).1=some k) w w'):Tr p s g w (s.pop t) g w':=by
 have o:∀u,u≠t->(s.pop t).T u=s.T u:=λu e=>dP _ _ e;have y:(s.pop t).T t=(s.T t).kD (s.T t).fr.dropLast:=df _ _ _;have a0:((s.pop t).T t).fr.length=m:=by rw[y];show(s.T t).fr.dropLast.length=_;rw[ef,hm];rfl
 have a2:∀a b,¬(a=12/\b=t)->eH (s.pop t) a b=eH s a b:=λa b e=>by
  by_cases eb:b=t
  .have i:a≠12:=λi=>e ⟨i,eb⟩;unfold eH;simp only[aa i];rfl
  exact jN rfl rfl rfl rfl rfl (by rw[o b eb]) rfl
 have a5:∀a b,¬(a=12/\b=t)->fU (s.pop t) g a b=fU s g a b:=λa b e=>by
  by_cases i:a=12
  .subst i;have eb:b≠t:=λeb=>e ⟨rfl,eb⟩;rw[kr,kr,o b eb]
  unfold fU;simp only[aa i];rfl
 have H:∀a b,¬(a=12/\b=t)->sl (s.pop t) g a b=sl s g a b:=λa b e=>by
  unfold sl;rw[a2 a b e]
 have W:sl (s.pop t) g 12 t=.slice (g.ro 12 t).1 m (g.ro 12 t).2:=by
  unfold sl;rw[jb,a0]
 have a4:∀a b c,¬((a=13\/a=14)/\b=t/\c=m)->gu (s.pop t) a b c=gu s a b c:=λa b c e=>by
  by_cases eb:b=t
  .by_cases i:a=13\/a=14
   .have ec:c≠m:=λec=>e ⟨i,eb,ec⟩;unfold gu;rw[aa (by omega),aa (by omega),aa (by omega),aa (by omega),aj i,aa (by omega),aa (by omega),aa (by omega),aa (by omega),aj i];have e1:((s.pop t).T b).fr.length=m:=by rw[eb];exact a0
    have e2:(s.T b).fr.length=m+1:=by rw[eb];exact hm
    rw[e1,e2];have a1:(s.pop t).nt=s.nt:=rfl;rw[a1];by_cases hc:c<m
    .have:c<m+1:=by omega
     simp[hc,this]
    have:¬c<m+1:=by omega
    simp[hc,this]
   unfold gu;have a1:(s.pop t).nt=s.nt:=rfl;rw[a1,aa i];by_cases a7:a=17
   .have:((s.pop t).T b).lf=(s.T b).lf:=by rw[eb,y];rfl
    rw[this,aa i]
   simp only[aa a7,aa i]
  exact nu rfl (by rw[o b eb]) (λ_ _=>by rw[o b eb])
 have a3:∀a,a=13\/a=14->¬gu (s.pop t) a t m=true:=λa ha Y=>by
  have:=(lI Y ha).2;omega
 refine h.to (λa b c=>(a=11/\b=t/\c=0)\/(a=12/\b=t/\c=0)\/((a=13\/a=14)/\b=t/\c=m)) (λ_=>(0,0,0)) (hO.mono (λk G _=>?_)) (λa b c J=>?_) (λa b c J=>?_) (λa b c k J G=>?_)
 .rcases G with G|G
  .exact⟨11,t,0,ag ⟨rfl,rfl,rfl⟩,by rw[kQ p g ht];exact G⟩
  exact⟨12,t,0,ab (ag ⟨rfl,rfl,rfl⟩),by rw[fR p g (by unfold eQ;omega) (gG (by omega) ht)];exact G⟩
 .refine jT (a4 a b c (λe=>J (ab (ab e)))) (λY=>lL Y (λ_=>jL (λa b _ _ e _=>H a b (λhh=>e hh.1)) rfl rfl) (λ_=>⟨rfl,rfl,rfl⟩) ?_ ?_ ?_ (λ_=>rfl) (λ_=>⟨rfl,rfl⟩) ?_ ?_)
  .intro i;have eb:b≠t:=λe=>J (ag ⟨i,e,(jq Y (by omega)).2⟩);refine⟨rfl,?_⟩;funext j
   unfold gE;rw[H 12 b (λe=>eb e.2),H 5 b (λe=>by omega),o b eb]
  .intro i;subst i;obtain⟨hb,hc⟩:=lI Y (by omega);refine⟨rfl,?_⟩;rw[oa s (λe=>by
    subst e;have:c≠m:=λe=>J (ab (ab ⟨ag rfl,rfl,e⟩));omega)]
  .intro i;subst i;obtain⟨hb,hc⟩:=lI Y (by omega);exact⟨rfl,oa s (λe=>by
    subst e;have:c≠m:=λe=>J (ab (ab ⟨ab rfl,rfl,e⟩));omega)⟩
  .intro i;subst i;have hl:=(ld Y).2.2;have eb:b≠t:=λe=>by rw[e,a6]at hl;cases hl
   refine⟨rfl,?_⟩;unfold ye;rw[o b eb]
  intro ha;have e:¬(a=12/\b=t):=λe=>J (ab (ag ⟨e.1,e.2,pW Y ha⟩));exact⟨rfl,a2 a b e,a5 a b e⟩
 .rcases J with⟨rfl,rfl,rfl⟩|⟨rfl,rfl,rfl⟩|⟨Z,rfl,rfl⟩
  .rw[gH (show gu (s.pop b) 11 b 0=true from gG (by omega) ht)];refine Full.congr hT (λj hj=>?_);have hc:j=0\/j=1\/j=2\/j=3\/j=4\/j=5\/j=6:=by omega
   rcases hc with rfl|rfl|rfl|rfl|rfl|rfl|rfl
   .rfl
   .exact W.symm
   .show Value.bool (s.T b).run=Value.bool ((s.pop b).T b).run;rw[y];rfl
   .show x8 p g (s.T b).wh=x8 p g ((s.pop b).T b).wh;rw[y];rfl
   .show Ba g b (s.T b).lf=Ba g b ((s.pop b).T b).lf;rw[y];rfl
   .show Value.int .i64 (s.T b).iL=Value.int .i64 ((s.pop b).T b).iL;rw[y];rfl
   exact(H 5 b (λe=>by omega)).symm
  .rw[gH (show gu (s.pop b) 12 b 0=true from gG (by omega) ht),gk (by unfold eQ;omega)];show w'.ownsRow 0 184 1 (sl (s.pop b) g 12 b) (eH (s.pop b) 12 b) (fU (s.pop b) g 12 b);rw[W,jb,kr,a0];exact hK
  rw[vq (a3 a Z)];exact trivial
 rcases J with⟨rfl,rfl,rfl⟩|⟨rfl,rfl,rfl⟩|⟨Z,rfl,rfl⟩
 .rw[kQ p _ (show fe (s.pop b) b from ht)]at G;rw[kQ p g ht];exact ag G
 .rw[fR p _ (by unfold eQ;omega) (show gu (s.pop b) 12 b 0=true from gG (by omega) ht)]at G;rw[fR p g (by unfold eQ;omega) (gG (by omega) ht)];exact ag G
 rw[vq (a3 a Z)]at G;exact G.elim
def oT.mW(v:oT)(k:Nat×Nat×Nat×Nat):oT:={ v with lf:=some k }
end F
section
def Cj(ok : Bool) (m mt : Nat) : Int := if ok = false then 4 else if m = mt then 7 else 0
