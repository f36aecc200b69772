import Derived.Test.YtnjiinbhbjpfkaaGreatDoorTK
import Derived.Test.YtnjiinbhbjpfkaaGreatDoorTN
import Derived.Test.YtnjiinbhbjpfkaaGreatDoorTT
set_option maxRecDepth 100000
set_option maxHeartbeats 0
set_option linter.all false
namespace Go.Proofs.YtnjiinbhbjpfkaaGreatDoor
open Go.RowKit Go.Proofs.Tryz
namespace F
structure jc where
 f:Nat
 nx:Nat
 R:Nat->B.V
 bk:Nat×Nat×Nat×Nat
structure qA where
 fr:List jc
 run:Bool
 wh:Option (Nat×Nat)
 lf:Option (Nat×Nat×Nat×Nat)
 iM:Int
structure Pl where
 nt:Nat
 T:Nat->qA
 q:Nat->Nat->List Nat
 lv:List Nat
 out:List B.V
 kp:List B.V
 ev:List tU
 ft:Nat->List Nat
 sp:Bool
 clk:Int
 kd:B.Kd
 M:Nat->List B.V
 ck:Nat->Nat
structure eJ where
 tb:Nat->Nat
 ro:Nat->Nat->Option Addr×Nat
 fb:Nat->Nat->Nat
 rb:Nat->Nat->Nat
 xe:Nat->Nat
 xt:Nat->Nat
 sx:Nat->Nat
 vf:Nat->Nat
 cb:Nat
 rd:Nat
 ad:Option Addr
 cap:Nat
structure dL where
 eb:Nat
 sb:Nat
 pb:Nat
 n:Nat
 nf:Nat
 gb:Nat
 cb:Nat->Nat
 len:Nat->Nat
 rg:Nat->Nat
 ins:Nat->Nat->Nat×Nat×Nat×Nat
 qn:Nat
 wk:Nat
 mt:Nat
 ac:Nat
 E0:Nat->Value
 fx:Nat->Prop
 fc:Nat->Option Obj
structure Ob where
 bs:Nat->Prop
 ok:aa->Prop
 fr:∀w w':aa,ok w->(∀k,bs k->w'.heap[k]? = w.heap[k]?)->ok w'
 lt:∀(w:aa) (k:Nat),ok w->bs k->k<w.heap.size
variable {g g':eJ}{p:dL}{s s':Pl}{w w' w0:aa}
def Ob.nil:Ob:=⟨λ_=>False,λ_=>True,λ_ _ h _=>h,λ_ _ _ h=>h.elim⟩
def Ob.full(b:Nat)(T:TypeId)(N:Nat)(E:Nat->Value):Ob:=⟨λk=>k=b,λw=>Full w b T N N E,λ_ _ h hk=>h.block (hk b rfl),λ_ _ h e=>by rw[e];exact h.lt⟩
def Ob.one(b:Nat)(o:Obj):Ob:=⟨λk=>k=b,λw=>w.heap[b]? = some o,λ_ _ h hk=>(hk b rfl).trans h,λ_ _ h e=>by rw[e];exact ch h⟩
def Ob.row(T:TypeId)(sz:Nat)(ad:Option Addr)(n c:Nat)(xs:List Value):Ob:=⟨λk=>fi ad=some k,λw=>w.ownsRow 0 T sz (.slice ad n c) n xs,λ_ _ h hk=>dQ h (λk e=>hk k (by rw[<-dF ad n c];exact e)),λ_ k h e=>(dP h k (by rw[dF];exact e)).2.1⟩
def kD.slt{sb pb eb n:Nat}{kd:B.Kd}{vb:Vs}{M:Nat->List B.V}(h:kD w sb pb eb n kd vb M)(k:Nat)(e:rA sb pb n kd vb k):k<w.heap.size:=by
 rcases e with rfl|rfl|e
 .exact ch h.b
 .exact h.p.p.lt
 exact h.lt k e
def Ob.str(sb pb eb n:Nat)(kd:B.Kd)(vb:Vs)(M:Nat->List B.V):Ob:=⟨rA sb pb n kd vb,λw=>kD w sb pb eb n kd vb M,λ_ _ h hk=>h.block (hk sb (af rfl)) (hk pb (ah (af rfl))) (λk h=>hk k (ah (ah h))),λ_ k h e=>h.slt k e⟩
theorem JW(F:Nat->Prop)(C:Nat->Option Obj)(w w':aa)(h:∀k,F k->k<w.heap.size/\w.heap[k]? = C k)(u:∀k,F k->w'.heap[k]? = w.heap[k]?)(k:Nat)(i:F k):k<w'.heap.size/\w'.heap[k]? = C k:=by
 grind
def Ob.fix(F:Nat->Prop)(C:Nat->Option Obj):Ob:=⟨F,λw=>∀k,F k->k<w.heap.size/\w.heap[k]? = C k,JW F C,λ_ k h e=>(h k e).1⟩
def eS(s:Pl)(x y:Nat):Nat:=
 if x=6 then s.lv.length else if x=7 then s.out.length else if x=8 then s.kp.length else if x=9 then s.ev.length else if x=10 then(s.ft y).length else if x=12 then(s.T y).fr.length else(s.q x y).length
def gu(s:Pl)(g:eJ)(x y:Nat):List Value:=
 if x=6 then(s.lv.map g.tb).map P0 else if x=7 then gT s.out else if x=8 then gT s.kp else if x=9 then mA s.ev else if x=10 then iI (s.ft y) else if x=12 then((List.range (s.T y).fr.length).map (g.fb y)).map P0 else((s.q x y).map g.tb).map P0
def AU(x:Nat):TypeId:=if x=7 then 149 else if x=8 then 149 else if x=9 then 48 else if x=10 then 5 else if x=12 then 184 else 155
def AV(x:Nat):Nat:=if x=7 then 2 else if x=8 then 2 else if x=9 then 3 else 1
def sl(s:Pl)(g:eJ)(x y:Nat):Value:=.slice (g.ro x y).1 (eS s x y) (g.ro x y).2
def lP(j:Nat):Nat×Nat:=if j=29 then(6,0) else if j=30 then(7,0) else if j=31 then(8,0) else if j=32 then(2,0) else if j=33 then(3,0) else if j=43 then(9,0) else if j % 2=0 then(10,(j-34) / 2) else(4,(j-34) / 2)
def iH(p:dL)(s:Pl)(g:eJ)(j:Nat):Value:=
 if j<28 then p.E0 j else if j=28 then .int .i64 s.clk else if j=42 then .bool s.sp else sl s g (lP j).1 (lP j).2
def pL(p:dL)(g:eJ)(x y:Nat):Nat:=if x=5 then g.tb y else p.eb
def ri(x y:Nat):Nat:=if x=5 then 6 else if x=2 then 32 else if x=3 then 33 else 35+2*y
def wF(p:dL)(g:eJ)(h:Option (Nat×Nat)):Value:=match h with
 | none=>.pointer none
 | some (x,y)=>Pt (pL p g x y) (ri x y)
def yL(g:eJ)(t:Nat)(h:Option (Nat×Nat×Nat×Nat)):Value:=match h with
 | none=>.nilFunc
 | some _=>Fv 207 #[P0 (g.sx t)]
def gz(p:dL)(s:Pl)(g:eJ)(t j:Nat):Value:=
 if j=0 then .int .i64 (t:Int) else if j=1 then sl s g 12 t else if j=2 then .bool (s.T t).run else if j=3 then wF p g (s.T t).wh else if j=4 then yL g t (s.T t).lf else if j=5 then .int .i64 (s.T t).iM else sl s g 5 t
def xM(p:dL)(g:eJ)(t i:Nat)(bk:Nat×Nat×Nat×Nat):Value:=if i=0 then Fv 120 #[P0 (g.xe t),P0 (g.xt t)] else .func (.func 149) #[ed bk.1 bk.2.1 bk.2.2.1 bk.2.2.2 (g.fb t (i-1)) (g.tb t) p.eb] #[]
def n6:jc:=⟨0,0,λ_=>(0,0),(0,0,0,0)⟩
def dq(s:Pl)(t i:Nat):jc:=(s.T t).fr.getD i n6
def zD(p:dL)(g:eJ)(t i:Nat)(f:jc):Obj:=jo (p.cb f.f) (p.len f.f) f.nx (g.rb t i) (p.rg f.f) (xM p g t i f.bk)
def wK(p:dL)(s:Pl)(g:eJ)(t:Nat):Obj:=match (s.T t).lf with
 | none=>.cells #[] 0 (0,0)
 | some k=>ju k.1 k.2.1 k.2.2.1 k.2.2.2 (g.fb t ((s.T t).fr.length-1)) (g.tb t) p.eb
def kE(s:Pl)(g:eJ):Vs:=⟨⟨g.vf,s.ck⟩,g.cb,g.rd,g.ad,g.cap⟩
def gY(s:Pl)(x y z:Nat):Bool:=
 if x<=1\/x=2\/x=3\/(6<=x/\x<=9)\/x=18 then decide (y=0/\z=0)
 else if x=4\/x=10 then decide (y<4/\z=0)
 else if x=5\/x=11\/x=12\/x=15\/x=16 then decide (1<=y/\y<=s.nt/\z=0)
 else if x=17 then decide (1<=y/\y<=s.nt/\z=0) && (s.T y).lf.isSome
 else if x=13\/x=14 then decide (1<=y/\y<=s.nt/\z<(s.T y).fr.length)
 else false
def Iu(p:dL)(s:Pl)(g:eJ)(x y z:Nat):Ob:=
 if x=0 then .full p.eb 144 44 (iH p s g)
 else if x=1 then .str p.sb p.pb p.eb p.n s.kd (kE s g) s.M
 else if x=11 then .full (g.tb y) 160 7 (gz p s g y)
 else if x=13 then .one (g.fb y z) (zD p g y z (dq s y z))
 else if x=14 then .full (g.rb y z) 149 (p.rg (dq s y z).f*2) (eQ (dq s y z).R)
 else if x=15 then .one (g.xe y) (.cells #[P0 p.eb] 95 (0,0))
 else if x=16 then .one (g.xt y) (.cells #[P0 (g.tb y)] 155 (0,0))
 else if x=17 then .one (g.sx y) (wK p s g y)
 else if x=18 then .fix p.fx p.fc
 else .row (AU x) (AV x) (g.ro x y).1 (eS s x y) (g.ro x y).2 (gu s g x y)
def ob(p:dL)(s:Pl)(g:eJ)(x y z:Nat):Ob:=if gY s x y z=true then Iu p s g x y z else .nil
structure dZ(p:dL) (s:Pl) (g:eJ) (w:aa):Prop where
 o:∀x y z,(ob p s g x y z).ok w
 i:∀x y z x' y' z' k,(ob p s g x y z).bs k->(ob p s g x' y' z').bs k->x=x'/\y=y'/\z=z'
def eH(p:dL)(s:Pl)(g:eJ)(k:Nat):Prop:=∃x y z,(ob p s g x y z).bs k
def fm(s:Pl)(t:Nat):Prop:=1<=t/\t<=s.nt
structure Tr(p:dL) (s:Pl) (g:eJ) (w:aa) (s':Pl) (g':eJ) (w':aa):Prop where
 r:dZ p s' g' w'
 o:dM (eH p s g) w w'
 m:∀k,eH p s' g' k->eH p s g k\/w.heap.size<=k
 n:s.nt<=s'.nt
 t:∀u,fm s u->g'.tb u=g.tb u
theorem dZ.lt{p:dL}{s:Pl}{g:eJ}{w:aa}(h:dZ p s g w){k:Nat}(e:eH p s g k):k<w.heap.size:=by
 obtain⟨x,y,z,e⟩:=e;exact(ob p s g x y z).lt w k (h.o x y z) e
def dZ.only(h:dZ p s g w){S:Nat->Prop}(u:dM S w w')(hS:∀k,eH p s g k->¬S k):dZ p s g w':=
 ⟨λx y z=>(ob p s g x y z).fr w w' (h.o x y z) (λk e=>u.same (h.lt ⟨x,y,z,e⟩) (hS k ⟨x,y,z,e⟩)),h.i⟩
def dZ.kept(h:dZ p s g w)(e:w.grownBy w' none):dZ p s g w':=h.only (S:=λ_=>False) (ep e) (λ_ _ h=>h)
theorem Tr.refl(h:dZ p s g w):Tr p s g w s g w:=⟨h,dw _ _,λ_ h=>af h,bq _,λ_ _=>rfl⟩
theorem Tr.trans{p:dL}{s s' i:Pl}{g g' g'':eJ}{w w' w'':aa}(h:Tr p s g w s' g' w')(e:Tr p s' g' w' i g'' w''):Tr p s g w i g'' w'':=
 ⟨e.r,h.o.trans e.o (λk y J=>(h.m k y).resolve_right ag),λk y=>by
  rcases e.m k y with H|H
  .exact h.m k H
  have:=h.o.size;omega,dU h.n e.n,λu G=>(e.t u ⟨G.1,dU G.2 h.n⟩).trans (h.t u G)⟩
theorem Tr.kept{p:dL}{s s':Pl}{g g':eJ}{w w' w'':aa}(h:Tr p s g w s' g' w')(e:w'.grownBy w'' none):Tr p s g w s' g' w'':=⟨h.r.kept e,h.o.iW e,h.m,h.n,h.t⟩
theorem Tr.ahead(e:w0.grownBy w none)(h:Tr p s g w s' g' w'):Tr p s g w0 s' g' w':=
 ⟨h.r,(ep e).trans h.o (λ_ h _=>h),λk i=>(h.m k i).imp id (λh=>by have:=e.size;omega),h.n,h.t⟩
theorem Tr.other(h:Tr p s g w s' g' w'){k:Nat}{o:Obj}(e:w.heap[k]? = some o)(hn:¬eH p s g k):w'.heap[k]? = some o/\¬eH p s' g' k:=
 ⟨h.o.block e hn,λi=>(h.m k i).elim hn (λu=>by grind)⟩
theorem Tr.to{s0:Pl}{g0:eJ}(C:Nat->Nat->Nat->Prop)(own:Nat->Nat×Nat×Nat)(H:Tr p s0 g0 w0 s g w)(hO:dM (λk=>∃x y z,C x y z/\(ob p s g x y z).bs k) w w')(h1:∀x y z,¬C x y z->ob p s' g' x y z=ob p s g x y z)(h2:∀x y z,C x y z->(ob p s' g' x y z).ok w')(h3:∀x y z k,C x y z->(ob p s' g' x y z).bs k->(ob p s g x y z).bs k\/(¬eH p s g k/\w0.heap.size<=k/\own k=(x,y,z)))(hn:s.nt<=s'.nt:=by first|exact bq _|omega)(Y:∀u,fm s u->g'.tb u=g.tb u:=by intros;rfl):Tr p s0 g0 w0 s' g' w':=by
 have h:=H.r;have G:=λx y z k e=>by
  by_cases J:C x y z
  .exact h3 x y z k J e
  rw[h1 x y z J]at e;exact af e
 refine⟨⟨λx y z=>?_,λx y z x' y' z' k e W=>?_⟩,H.o.trans hO (λk e hl=>?_),λk e=>?_,dU H.n hn,λu Z=>(Y u ⟨Z.1,dU Z.2 H.n⟩).trans (H.t u Z)⟩
 .by_cases J:C x y z
  .grind
  rw[h1 x y z J];refine(ob p s g x y z).fr w w' (h.o x y z) (λk e=>hO.same (h.lt ⟨x,y,z,e⟩) ?_);grind[F.dZ.i]
 .rcases G _ _ _ k e with a|⟨a,_,b⟩
  .rcases G _ _ _ k W with c|⟨c,_⟩
   .grind[F.dZ.i]
   exact dp ⟨_,_,_,a⟩ c
  rcases G _ _ _ k W with c|⟨c,_,d⟩
  .exact dp ⟨_,_,_,c⟩ a
  grind
 .obtain⟨x,y,z,_,Y⟩:=e;exact(H.m k ⟨x,y,z,Y⟩).resolve_right ag
 obtain⟨x,y,z,e⟩:=e;rcases G x y z k e with h|h
 .exact H.m k ⟨x,y,z,h⟩
 omega
theorem dZ.to{p:dL}{s s':Pl}{g g':eJ}{w w':aa}(C:Nat->Nat->Nat->Prop)(own:Nat->Nat×Nat×Nat)(h:dZ p s g w)(o:dM (λk=>∃x y z,C x y z/\(ob p s g x y z).bs k) w w')(i:∀x y z,¬C x y z->ob p s' g' x y z=ob p s g x y z)(W:∀x y z,C x y z->(ob p s' g' x y z).ok w')(J:∀x y z k,C x y z->(ob p s' g' x y z).bs k->(ob p s g x y z).bs k\/(w.heap.size<=k/\own k=(x,y,z)))(hn:s.nt<=s'.nt:=by first|exact bq _|omega)(H:∀u,fm s u->g'.tb u=g.tb u:=by intros;rfl):Tr p s g w s' g' w':=
 Tr.to C own (Tr.refl h) o i W (λx y z k Y e=>(J x y z k Y e).imp id (λG=>⟨λZ=>by have:=h.lt Z;omega,G⟩)) hn H
end F
namespace F
variable {g:eJ}{p:dL}{s:Pl}{t x y:Nat}
def fe(x:Nat):Prop:=2<=x/\x<=12/\x≠11
theorem iE(hx:x=5\/x=11\/x=12\/x=15\/x=16)(ht:fm s t):gY s x t 0=true:=by
 unfold gY;rw[eD,eD,bf hx];simp[ht.1,ht.2]
theorem iV(hx:x<=1\/x=2\/x=3\/(6<=x/\x<=9)\/x=18):gY s x 0 0=true:=by
 unfold gY;grind
theorem Dq{k:Nat}(hx:x=4\/x=10)(e:k<4):gY s x k 0=true:=by
 unfold gY;grind
theorem oY{i:Nat}(hx:x=13\/x=14)(ht:fm s t)(hi:i<(s.T t).fr.length):gY s x t i=true:=by
 unfold gY;rw[eD,eD,eD,eD,bf hx];simp[ht.1,ht.2,hi]
def Dr(ht:fm s t)(e:(s.T t).lf.isSome=true):gY s 17 t 0=true:=by
 unfold gY;rw[eD,eD,eD,bf rfl];simp[ht.1,ht.2,e]
def hZ{z:Nat}(h:gY s x y z=true):ob p s g x y z=Iu p s g x y z:=bf h
theorem vw{z:Nat}(h:¬gY s x y z=true):ob p s g x y z=.nil:=au h
theorem g9{z:Nat}(hx:fe x):Iu p s g x y z=.row (AU x) (AV x) (g.ro x y).1 (eS s x y) (g.ro x y).2 (gu s g x y):=by
 obtain⟨o,i,e⟩:=hx;unfold Iu;grind
section
variable {p:dL}{s:Pl}{g:eJ}{w:aa} (h:dZ p s g w)
include h
def dZ.E:Full w p.eb 144 44 44 (iH p s g):=h.o 0 0 0
def dZ.S:kD w p.sb p.pb p.eb p.n s.kd (kE s g) s.M:=h.o 1 0 0
def dZ.X:∀k,p.fx k->k<w.heap.size/\w.heap[k]? = p.fc k:=h.o 18 0 0
def dZ.row{x y:Nat}(hx:fe x)(e:gY s x y 0=true):w.ownsRow 0 (AU x) (AV x) (sl s g x y) (eS s x y) (gu s g x y):=by
 have:=h.o x y 0;rw[hZ e,g9 hx]at this;exact this
theorem dZ.tk{t:Nat}(ht:fm s t):Full w (g.tb t) 160 7 7 (gz p s g t):=by
 have:=h.o 11 t 0;rw[hZ (iE ag ht)]at this;exact this
theorem dZ.fr{t i:Nat}(ht:fm s t)(hi:i<(s.T t).fr.length):w.heap[g.fb t i]? = some (zD p g t i (dq s t i)):=by
 have:=h.o 13 t i;rw[hZ (oY ag ht hi)]at this;exact this
theorem dZ.rg{t i:Nat}(ht:fm s t)(hi:i<(s.T t).fr.length):Full w (g.rb t i) 149 (p.rg (dq s t i).f*2) (p.rg (dq s t i).f*2) (eQ (dq s t i).R):=by
 have:=h.o 14 t i;rw[hZ (oY ag ht hi)]at this;exact this
def dZ.xe{t:Nat}(ht:fm s t):w.heap[g.xe t]? = some (.cells #[P0 p.eb] 95 (0,0)):=by
 have:=h.o 15 t 0;rw[hZ (iE ag ht)]at this;exact this
def dZ.xt{t:Nat}(ht:fm s t):w.heap[g.xt t]? = some (.cells #[P0 (g.tb t)] 155 (0,0)):=by
 have:=h.o 16 t 0;rw[hZ (iE ag ht)]at this;exact this
theorem dZ.sx{t:Nat}(ht:fm s t){k:Nat×Nat×Nat×Nat}(i:(s.T t).lf=some k):w.heap[g.sx t]? = some (ju k.1 k.2.1 k.2.2.1 k.2.2.2 (g.fb t ((s.T t).fr.length-1)) (g.tb t) p.eb):=by
 have:=h.o 17 t 0;rw[hZ (Dr ht eR)]at this;have e:w.heap[g.sx t]? = some (wK p s g t):=this;grind[wK]
theorem dZ.ne{x y z x' y' z' k o:Nat}(u:(ob p s g x y z).bs k)(e:(ob p s g x' y' z').bs o)(hn:¬(x=x'/\y=y'/\z=z')):k≠o:=by
 grind[F.dZ.i]
theorem dZ.mC{t u:Nat}(ht:fm s t)(e:fm s u)(he:g.tb t=g.tb u):t=u:=by
 have a:(ob p s g 11 t 0).bs (g.tb t):=by rw[hZ (iE ag ht)];exact rfl
 have b:(ob p s g 11 u 0).bs (g.tb t):=by rw[hZ (iE ag e)];exact he
 grind[F.dZ.i]
end
variable {g g':eJ}{p:dL}{s s':Pl}{x y:Nat}
theorem kU(p:dL)(g:eJ){t:Nat}(ht:fm s t)(k:Nat):(ob p s g 11 t 0).bs k=(k=g.tb t):=by rw[hZ (iE ag ht)];rfl
theorem gQ(p:dL)(g:eJ)(hx:fe x)(e:gY s x y 0=true)(k:Nat):(ob p s g x y 0).bs k=(fi (g.ro x y).1=some k):=by rw[hZ e,g9 hx];rfl
theorem rJ{z:Nat}(h:gY s x y z=true):x<=18:=by
 rcases Nat.lt_or_ge 18 x with e|e
 .have i:gY s x y z=false:=by
   unfold gY;rw[eD,eD,eD,eD,eD]
  grind
 exact e
theorem lT{z:Nat}(h:gY s x y z=true)(hx:x<=1\/x=2\/x=3\/(6<=x/\x<=9)\/x=18):y=0/\z=0:=by
 unfold gY at h;grind
theorem kj{z:Nat}(h:gY s x y z=true)(hx:x=5\/x=11\/x=12\/x=15\/x=16):fm s y/\z=0:=by
 unfold gY at h;rw[eD,eD,bf hx]at h;have:=eO h;exact⟨⟨this.1,this.2.1⟩,this.2.2⟩
theorem zH{z:Nat}(h:gY s x y z=true)(hx:x=4\/x=10):y<4/\z=0:=by
 unfold gY at h;grind
def mg{z:Nat}(h:gY s 17 y z=true):fm s y/\z=0/\(s.T y).lf.isSome=true:=by
 unfold gY at h;rw[eD,eD,eD,bf rfl,Bool.and_eq_true]at h;have:=eO h.1;exact⟨⟨this.1,this.2.1⟩,this.2.2,h.2⟩
def nA{z:Nat}(h:gY s x y z=true)(hx:x=13\/x=14):fm s y/\z<(s.T y).fr.length:=by
 unfold gY at h;rw[eD,eD,eD,eD,bf hx]at h;have:=eO h;exact⟨⟨this.1,this.2.1⟩,this.2.2⟩
theorem rK{z:Nat}(h:gY s x y z=true)(hx:fe x):z=0:=by
 obtain⟨o,i,e⟩:=hx;by_cases a:x=4\/x=10
 .exact(zH h a).2
 by_cases b:x=5\/x=12
 .exact(kj h ag).2
 grind[lT]
theorem nB{z:Nat}(hn:s'.nt=s.nt)(i:(s'.T y).fr.length=(s.T y).fr.length)(o:x=17->z=0->(s'.T y).lf.isSome=(s.T y).lf.isSome):gY s' x y z=gY s x y z:=by
 grind[gY]
theorem kT{z:Nat}(o:gY s' x y z=gY s x y z)(i:gY s x y z=true->Iu p s' g' x y z=Iu p s g x y z):ob p s' g' x y z=ob p s g x y z:=by
 unfold ob;grind
theorem mK{z:Nat}(Z:gY s x y z=true)(h0:x=0->iH p s' g'=iH p s g)(Y:x=1->s'.kd=s.kd/\kE s' g'=kE s g/\s'.M=s.M)(u:x=11->g'.tb y=g.tb y/\gz p s' g' y=gz p s g y)(i:x=13->g'.fb y z=g.fb y z/\zD p g' y z (dq s' y z)=zD p g y z (dq s y z))(J:x=14->g'.rb y z=g.rb y z/\dq s' y z=dq s y z)(G:x=15->g'.xe y=g.xe y)(H:x=16->g'.xt y=g.xt y/\g'.tb y=g.tb y)(o:x=17->g'.sx y=g.sx y/\wK p s' g' y=wK p s g y)(W:fe x->g'.ro x y=g.ro x y/\eS s' x y=eS s x y/\gu s' g' x y=gu s g x y):Iu p s' g' x y z=Iu p s g x y z:=by
 have a0:=rJ Z;by_cases e:fe x
 .grind[g9]
 have hc:x=0\/x=1\/x=11\/x=13\/x=14\/x=15\/x=16\/x=17\/x=18:=by unfold fe at e;omega
 repeat' rcases hc with rfl|hc
 .show Ob.full p.eb 144 44 (iH p s' g')=Ob.full p.eb 144 44 (iH p s g);grind
 .obtain⟨a,b,c⟩:=Y rfl;show Ob.str p.sb p.pb p.eb p.n s'.kd (kE s' g') s'.M=Ob.str p.sb p.pb p.eb p.n s.kd (kE s g) s.M;grind
 .obtain⟨a,b⟩:=u rfl;show Ob.full (g'.tb y) 160 7 (gz p s' g' y)=Ob.full (g.tb y) 160 7 (gz p s g y);rw[a,b]
 .obtain⟨a,b⟩:=i rfl;show Ob.one (g'.fb y z) (zD p g' y z (dq s' y z))=Ob.one (g.fb y z) (zD p g y z (dq s y z));rw[a,b]
 .obtain⟨a,b⟩:=J rfl;show Ob.full (g'.rb y z) 149 (p.rg (dq s' y z).f*2) (eQ (dq s' y z).R)=Ob.full (g.rb y z) 149 (p.rg (dq s y z).f*2) (eQ (dq s y z).R);rw[a,b]
 .show Ob.one (g'.xe y) _=Ob.one (g.xe y) _;grind
 .obtain⟨a,b⟩:=H rfl;show Ob.one (g'.xt y) (.cells #[P0 (g'.tb y)] 155 (0,0))=Ob.one (g.xt y) (.cells #[P0 (g.tb y)] 155 (0,0));rw[a,b]
 .obtain⟨a,b⟩:=o rfl;show Ob.one (g'.sx y) (wK p s' g' y)=Ob.one (g.sx y) (wK p s g y);rw[a,b]
 rfl
def NH(v:Nat×Nat):Nat:=if v.1=6 then 29 else if v.1=7 then 30 else if v.1=8 then 31 else if v.1=2 then 32 else if v.1=3 then 33 else if v.1=9 then 43 else if v.1=10 then 34+2*v.2 else 35+2*v.2
theorem J0(j:Nat)(i:j<44)(e:29<=j)(o:j≠42):NH (lP j)=j:=by
 unfold lP;split
 .subst j;rfl
 split
 .subst j;rfl
 split
 .subst j;rfl
 split
 .subst j;rfl
 split
 .subst j;rfl
 split
 .subst j;rfl
 split
 .show 34+2*((j-34) / 2)=j;omega
 show 35+2*((j-34) / 2)=j;omega
theorem uU(j:Nat)(y:j<44)(e:Nat)(u:e<44)(o:29<=j)(i:j≠42)(H:29<=e)(G:e≠42)(h:lP j=lP e):j=e:=by
 grind[J0]
theorem uT(j:Nat):fe (lP j).1/\(lP j).1≠5/\(lP j).1≠12/\((lP j).1=4\/(lP j).1=10\/(lP j).2=0):=by
 unfold lP fe;grind
theorem zl{j0:Nat}(J:lP j0=(x,y))(i:29<=j0/\j0<44/\j0≠42)(Z:∀a b,¬(a=x/\b=y)->fe a->a≠5->a≠12->(a=4\/a=10\/b=0)->sl s' g' a b=sl s g a b)(Y:s'.clk=s.clk)(hp:s'.sp=s.sp)(j:Nat)(W:j<44): eC (iH p s g) j0 (sl s' g' x y) j=iH p s' g' j:=by
 by_cases e:j=j0
 .subst e;rw[gO];unfold iH;grind
 rw[eN _ _ _ _ e];unfold iH;by_cases G:j<28
 .grind
 rw[au G,au G];by_cases u:j=28
 .grind
 rw[au u,au u];by_cases o:j=42
 .grind
 rw[au o,au o];grind[uT,uU,Prod.ext]
theorem ky(i:∀a b,fe a->a≠5->a≠12->(a=4\/a=10\/b=0)->sl s' g' a b=sl s g a b)(e:s'.clk=s.clk)(o:s'.sp=s.sp):iH p s' g'=iH p s g:=by
 funext j
 grind[uT,iH]
def fN(s:Pl)(x y:Nat):Prop:=(x=2/\y=0)\/(x=3/\y=0)\/(x=4/\y<4)\/(x=5/\fm s y)
def Af(x:Nat):TypeId:=if x=5 then 160 else 144
def De(x:Nat):Nat:=if x=5 then 7 else 44
def Ey(p:dL)(s:Pl)(g:eJ)(x y:Nat):Nat->Value:=if x=5 then gz p s g y else iH p s g
theorem oD(h:fN s x y):2<=x/\x<=5:=by
 rcases h with⟨rfl,rfl⟩|⟨rfl,rfl⟩|⟨rfl,h⟩|⟨rfl,h⟩<;>omega
theorem nG(h:fN s x y)(e:x=5):fm s y:=by
 rcases h with⟨rfl,rfl⟩|⟨rfl,rfl⟩|⟨rfl,h⟩|⟨rfl,h⟩
 .cases e
 .cases e
 .cases e
 exact h
theorem yK(h:fN s x y):fe x:=by grind[oD,fe]
theorem xh(h:fN s x y):gY s x y 0=true:=by
 rcases h with⟨rfl,rfl⟩|⟨rfl,rfl⟩|⟨rfl,h⟩|⟨rfl,h⟩
 .grind[iV]
 .grind[iV]
 .grind[Dq]
 grind[iE]
def rh(h:fN s x y):AU x=155/\AV x=1:=by
 unfold AU AV;rcases h with⟨rfl,rfl⟩|⟨rfl,rfl⟩|⟨rfl,h⟩|⟨rfl,h⟩<;>exact⟨rfl,rfl⟩
theorem nV(s':Pl)(h:fN s x y):eS s' x y=(s'.q x y).length:=by
 unfold eS;have:=oD h;grind
theorem pr(s':Pl)(g:eJ)(h:fN s x y):gu s' g x y=((s'.q x y).map g.tb).map P0:=by
 unfold gu;have:=oD h;grind
def uE(h:fN s x y)(e:x≠5):lP (ri x y)=(x,y)/\29<=ri x y/\ri x y<44/\ri x y≠42:=by
 rcases h with⟨rfl,rfl⟩|⟨rfl,rfl⟩|⟨rfl,h⟩|⟨rfl,h⟩
 .decide
 .decide
 .have:y=0\/y=1\/y=2\/y=3:=by omega
  rcases this with rfl|rfl|rfl|rfl<;>decide
 omega
theorem dZ.ln{w:aa}(h:dZ p s g w)(i:fN s x y)(hn:(s.q x y).length<=1000000000): Ln w (pL p g x y) (ri x y) (Af x) (De x) (Ey p s g x y) (g.ro x y).1 (s.q x y).length (g.ro x y).2 ((s.q x y).map g.tb):=by
 have o:=h.row (yK i) (xh i);unfold sl at o;rw[(rh i).1,(rh i).2,nV s i,pr s g i]at o;unfold pL Af De Ey;by_cases e:x=5
 .rw[bf e,bf e,bf e,bf e];subst e;refine⟨h.tk (nG i rfl),by show 6<7;decide,?_,o,hn⟩;show sl s g 5 y=_;grind[sl,nV]
 rw[au e,au e,au e,au e];obtain⟨a,b,c,d⟩:=uE i e;refine⟨h.E,ag,?_,o,hn⟩;unfold iH;rw[eD,eD,eD,a];grind[sl,nV]
end F
namespace F
variable {g:eJ}{i j0 t u x y:Nat}{l:List Nat}{p:dL}{r:Option Addr×Nat}{s s':Pl}{v:qA}{w w':aa}
def Pl.dx(s:Pl)(t:Nat)(v:qA):Pl:={ s with T:=λi=>if i=t then v else s.T i }
def Pl.fF(s:Pl)(x y:Nat)(l:List Nat):Pl:={ s with q:=λa b=>if a=x/\b=y then l else s.q a b }
def eJ.at(g:eJ)(x y:Nat)(r:Option Addr×Nat):eJ:={ g with ro:=λa b=>if a=x/\b=y then r else g.ro a b }
theorem di(s:Pl)(t:Nat)(v:qA):(s.dx t v).T t=v:=bf rfl
theorem dR(s:Pl)(v:qA)(h:u≠t):(s.dx t v).T u=s.T u:=au h
theorem gH(s:Pl)(x y:Nat)(l:List Nat):(s.fF x y l).q x y=l:=bf ⟨rfl,rfl⟩
theorem fY(s:Pl){a b:Nat}(l:List Nat)(h:¬(a=x/\b=y)):(s.fF x y l).q a b=s.q a b:=au h
def td(g:eJ)(x y:Nat)(r:Option Addr×Nat):(g.at x y r).ro x y=r:=bf ⟨rfl,rfl⟩
theorem lG(g:eJ){a b:Nat}(r:Option Addr×Nat)(h:¬(a=x/\b=y)):(g.at x y r).ro a b=g.ro a b:=au h
theorem jX(G:s'.lv=s.lv)(o:s'.out=s.out)(i:s'.kp=s.kp)(e:s'.ev=s.ev)(J:s'.ft=s.ft)(H:(s'.T y).fr.length=(s.T y).fr.length)(u:s'.q x y=s.q x y):eS s' x y=eS s x y:=by
 grind[eS]
theorem qR{g':eJ}(ht:g'.tb=g.tb)(e:g'.fb=g.fb)(H:s'.lv=s.lv)(u:s'.out=s.out)(o:s'.kp=s.kp)(i:s'.ev=s.ev)(W:s'.ft=s.ft)(J:(s'.T y).fr.length=(s.T y).fr.length)(G:s'.q x y=s.q x y):gu s' g' x y=gu s g x y:=by
 grind[gu]
theorem dZ.line(h:dZ p s g w)(G:fN s x y)(ht:fm s t)(a8:v.fr=(s.T t).fr)(a6:v.lf=none\/v.lf=(s.T t).lf)(a7:¬(x=5/\y=t))(hH:Full w' (pL p g x y) (Af x) (De x) (De x) (eC (Ey p s g x y) (ri x y) (.slice r.1 l.length r.2)))(hR:w'.ownsRow 0 155 1 (.slice r.1 l.length r.2) l.length ((l.map g.tb).map P0))(hT:Full w' (g.tb t) 160 7 7 (gz p ((s.fF x y l).dx t v) (g.at x y r) t))(hO:dM (λk=>k=pL p g x y\/k=g.tb t\/fi (g.ro x y).1=some k) w w')(hB:∀k,fi r.1=some k->fi (g.ro x y).1=some k\/w.heap.size<=k): Tr p s g w ((s.fF x y l).dx t v) (g.at x y r) w':=by
 have i:∀u,(((s.fF x y l).dx t v).T u).fr=(s.T u).fr:=λu=>by
  by_cases e:u=t
  .grind[di]
  rw[dR _ _ e];rfl
 have a3:∀a b,¬(a=x/\b=y)->((s.fF x y l).dx t v).q a b=s.q a b:=λa b e=>fY s l e;have Z:∀a b,¬(a=x/\b=y)->sl ((s.fF x y l).dx t v) (g.at x y r) a b=sl s g a b:=λa b e=>by
  unfold sl;rw[lG g r e,jX (s:=s) (s':=(s.fF x y l).dx t v) rfl rfl rfl rfl rfl (by rw[i]) (a3 a b e)]
 have a1:=yK G;have a5:=xh G;have a0:sl ((s.fF x y l).dx t v) (g.at x y r) x y=.slice r.1 l.length r.2:=by
  unfold sl;rw[td,nV _ G];show Value.slice r.1 ((s.fF x y l).q x y).length r.2=_;rw[gH]
 refine h.to (λa b c=>(a=x/\b=y/\c=0)\/(a=11/\b=t/\c=0)\/(x=5/\a=11/\b=y/\c=0)\/(x≠5/\a=0/\b=0/\c=0)\/(a=17/\b=t/\c=0/\v.lf=none)) (λ_=>(x,y,0)) (hO.mono (λk J _=>?_)) (λa b c hC=>?_) (λa b c hC=>?_) (λa b c k hC J=>?_)
 .rcases J with rfl|rfl|J
  .unfold pL;by_cases o:x=5
   .rw[bf o];grind[kU,nG]
   rw[au o];exact⟨0,0,0,ah (ah (ah (af ⟨o,rfl,rfl,rfl⟩))),rfl⟩
  .grind[kU]
  grind[gQ]
 .have a2:a=17->c=0->(((s.fF x y l).dx t v).T b).lf=(s.T b).lf:=λW Y=>by
   by_cases e:b=t
   .grind[di,absurd]
   rw[dR _ _ e];rfl
  refine kT (nB rfl (by rw[i]) (λW Y=>by grind)) (λhV=>mK hV ?_ (λ_=>⟨rfl,rfl,rfl⟩) ?_ ?_ ?_ (λ_=>rfl) (λ_=>⟨rfl,rfl⟩) ?_ ?_)
  .intro W;obtain⟨eb,Y⟩:=lT hV ag;have o:=Classical.byContradiction λo=>hC (ah (ah (ah (af ⟨o,W,eb,Y⟩))));exact ky (λa' b' _ e _ _=>Z a' b' (λhh=>e (hh.1.trans o))) rfl rfl
  .intro W;obtain⟨hb,Y⟩:=kj hV ag;have e1:b≠t:=λe=>hC (ah (af ⟨W,e,Y⟩));refine⟨rfl,?_⟩;funext j
   unfold gz;rw[Z 12 b (λe=>by have:=oD G;omega),Z 5 b (λe=>hC (ah (ah (af ⟨e.1.symm,W,e.2,Y⟩)))),dR _ _ e1];rfl
  .intro W;refine⟨rfl,?_⟩;unfold dq;rw[i];rfl
  .intro W;refine⟨rfl,?_⟩;grind[dq]
  .intro W;subst W;obtain⟨hb,Y,_⟩:=mg hV;refine⟨rfl,?_⟩;unfold wK;rw[a2 rfl Y,i];rfl
  intro hx;have Y:=rK hV hx;have e:¬(a=x/\b=y):=λe=>hC (af ⟨e.1,e.2,Y⟩);exact⟨lG g r e,jX (s:=s) (s':=(s.fF x y l).dx t v) rfl rfl rfl rfl rfl (by rw[i]) (a3 a b e),qR (s:=s) (s':=(s.fF x y l).dx t v) rfl rfl rfl rfl rfl rfl rfl (by rw[i]) (a3 a b e)⟩
 .rcases hC with⟨rfl,rfl,rfl⟩|⟨rfl,rfl,rfl⟩|⟨o,rfl,rfl,rfl⟩|⟨o,rfl,rfl,rfl⟩|⟨rfl,rfl,rfl,hn⟩
  .have H:=xh (s:=(s.fF a b l).dx t v) G;rw[hZ H,g9 a1];show w'.ownsRow 0 (AU a) (AV a) (sl ((s.fF a b l).dx t v) (g.at a b r) a b) (eS ((s.fF a b l).dx t v) a b) (gu ((s.fF a b l).dx t v) (g.at a b r) a b);rw[a0,(rh G).1,(rh G).2,nV _ G,pr _ _ G];show w'.ownsRow 0 155 1 _ ((s.fF a b l).q a b).length ((((s.fF a b l).q a b).map g.tb).map P0);rw[gH];exact hR
  .have H:gY ((s.fF x y l).dx b v) 11 b 0=true:=iE ag ht;rw[hZ H];exact hT
  .have hb:=nG G o;have H:gY ((s.fF x b l).dx t v) 11 b 0=true:=iE ag hb;rw[hZ H];have e1:b≠t:=λe=>a7 ⟨o,e⟩;have a4:Full w' (g.tb b) 160 7 7 (eC (gz p s g b) 6 (.slice r.1 l.length r.2)):=by
    have:=hH;unfold pL Af De Ey ri at this;simp only[bf o]at this;exact this
   refine a4.congr (λj hj=>?_);by_cases ej:j=6
   .subst ej;rw[gO,<-a0,o];rfl
   rw[eN _ _ _ _ ej];unfold gz;rw[Z 12 b (λe=>by omega),dR _ _ e1];by_cases j0:j=0
   .simp only[bf j0]
   by_cases j1:j=1
   .simp only[au j0,bf j1]
   by_cases j2:j=2
   .simp only[au j0,au j1,bf j2];rfl
   by_cases j3:j=3
   .simp only[au j0,au j1,au j2,bf j3];rfl
   by_cases j4:j=4
   .simp only[au j0,au j1,au j2,au j3,bf j4];rfl
   by_cases j5:j=5
   .simp only[au j0,au j1,au j2,au j3,au j4,bf j5];rfl
   omega
  .have a4:Full w' p.eb 144 44 44 (eC (iH p s g) (ri x y) (.slice r.1 l.length r.2)):=by
    have:=hH;unfold pL Af De Ey at this;simp only[au o]at this;exact this
   refine Full.congr a4 (λj hj=>?_);rw[<-a0];exact zl (uE G o).1 (uE G o).2 (λa b e _ _ _ _=>Z a b e) rfl rfl j hj
  rw[vw (λhV=>by
   have:=(mg hV).2.2;rw[di,hn]at this
   cases this)]
  exact trivial
 rcases hC with⟨rfl,rfl,rfl⟩|⟨rfl,rfl,rfl⟩|⟨o,rfl,rfl,rfl⟩|⟨o,rfl,rfl,rfl⟩|⟨rfl,rfl,rfl,hn⟩
 .have H:=xh (s:=(s.fF a b l).dx t v) G;rw[gQ p _ a1 H,td]at J;rw[gQ p g a1 a5];exact(hB k J).imp id (λh=>⟨h,rfl⟩)
 .rw[kU p _ (show fm ((s.fF x y l).dx b v) b from ht)]at J;rw[kU p g ht];exact af J
 .have hb:=nG G o;rw[kU p _ (show fm ((s.fF x b l).dx t v) b from hb)]at J;rw[kU p g hb];exact af J
 .exact af J
 rw[vw (λhV=>by
  have:=(mg hV).2.2;rw[di,hn]at this
  cases this)]at J
 exact J.elim
theorem dZ.Bw{x2 y2:Nat}(h:dZ p s g w)(hx:6<=x/\x<=10)(hv:gY s x y 0=true)(a5:6<=x2/\x2<=10)(G:gY s x2 y2 0=true)(hj:lP j0=(x,y)/\29<=j0/\j0<44/\j0≠42)(e1:s'.nt=s.nt)(e2:s'.T=s.T)(e4:s'.kd=s.kd)(e5:s'.M=s.M)(e6:s'.ck=s.ck)(e7:s'.clk=s.clk)(e8:s'.sp=s.sp)(Z:∀a b,fe a->(a=4\/a=5\/a=10\/a=12\/b=0)->¬(a=x/\b=y)->eS s' a b=eS s a b/\(¬(a=x2/\b=y2)->gu s' g a b=gu s g a b))(hH:Full w' p.eb 144 44 44 (eC (iH p s g) j0 (.slice r.1 (eS s' x y) r.2)))(hR:w'.ownsRow 0 (AU x) (AV x) (.slice r.1 (eS s' x y) r.2) (eS s' x y) (gu s' g x y))(a3:¬(x2=x/\y2=y)->w'.ownsRow 0 (AU x2) (AV x2) (sl s g x2 y2) (eS s x2 y2) (gu s' g x2 y2))(hO:dM (λk=>k=p.eb\/fi (g.ro x y).1=some k\/fi (g.ro x2 y2).1=some k) w w')(hB:∀k,fi r.1=some k->fi (g.ro x y).1=some k\/w.heap.size<=k):Tr p s g w s' (g.at x y r) w':=by
 have Y:fe x:=by unfold fe;omega
 have i:fe x2:=by unfold fe;omega
 have W:∀a b,fe a->(a=4\/a=5\/a=10\/a=12\/b=0)->¬(a=x/\b=y)->sl s' (g.at x y r) a b=sl s g a b:=λa b J hb e=>by
  grind[sl,lG]
 have a2:∀a b,gY s a b 0=true->fe a->a=4\/a=5\/a=10\/a=12\/b=0:=λa b hV J=>by
  grind[lT,fe]
 have a0:sl s' (g.at x y r) x y=.slice r.1 (eS s' x y) r.2:=by unfold sl;rw[td]
 have H:∀a b c,gY s' a b c=gY s a b c:=λa b c=>nB e1 (by rw[e2]) (λ_ _=>by rw[e2]);have a1:∀a b,gu s' (g.at x y r) a b=gu s' g a b:=λ_ _=>rfl;refine h.to (λa b c=>(a=x/\b=y/\c=0)\/(a=0/\b=0/\c=0)\/(a=x2/\b=y2/\c=0)) (λ_=>(x,y,0)) (hO.mono (λk u _=>?_)) (λa b c o=>?_) (λa b c o=>?_) (λa b c k o u=>?_)
 .rcases u with rfl|u|u
  .exact⟨0,0,0,ah (af ⟨rfl,rfl,rfl⟩),rfl⟩
  .grind[gQ]
  grind[gQ]
 .refine kT (H a b c) (λhV=>mK hV ?_ (λ_=>⟨e4,?_,e5⟩) ?_ ?_ ?_ (λ_=>rfl) (λ_=>⟨rfl,rfl⟩) ?_ ?_)
  .grind[absurd,lT]
  .unfold kE;rw[e6];rfl
  .intro ea;refine⟨rfl,?_⟩;funext j
   unfold gz;rw[W 12 b (by grind[fe]) ag (λe=>by omega),W 5 b (by grind[fe]) ag (λe=>by omega),e2];rfl
  .intro ea;refine⟨rfl,?_⟩;unfold dq;rw[e2];rfl
  .intro ea;refine⟨rfl,?_⟩;grind[dq]
  .intro ea;refine⟨rfl,?_⟩;unfold wK;rw[e2];rfl
  intro J;have ec:=rK hV J;subst ec;have e:¬(a=x/\b=y):=λe=>o (af ⟨e.1,e.2,rfl⟩);have hb:=a2 a b hV J;refine⟨lG g r e,(Z a b J hb e).1,?_⟩;rw[a1];exact(Z a b J hb e).2 (λe=>o (ah (ah ⟨e.1,e.2,rfl⟩)))
 .by_cases e0:a=x/\b=y/\c=0
  .obtain⟨rfl,rfl,rfl⟩:=e0;rw[hZ (eV H hv),g9 Y];show w'.ownsRow 0 (AU a) (AV a) (sl s' (g.at a b r) a b) (eS s' a b) (gu s' (g.at a b r) a b);rw[a0,a1];exact hR
  rcases o with o|⟨rfl,rfl,rfl⟩|⟨rfl,rfl,rfl⟩
  .exact dp o e0
  .refine Full.congr hH (λj a4=>?_);rw[<-a0];exact zl hj.1 hj.2 (λa' b' e J _ _ hb=>W a' b' J ag e) e7 e8 j a4
  have e:¬(a=x/\b=y):=λe=>e0 ⟨e.1,e.2,rfl⟩;rw[hZ (eV H G),g9 i];show w'.ownsRow 0 (AU a) (AV a) (sl s' (g.at x y r) a b) (eS s' a b) (gu s' (g.at x y r) a b);have hb:=a2 a b G i;rw[W a b i hb e,(Z a b i hb e).1,a1];exact a3 e
 by_cases e0:a=x/\b=y/\c=0
 .obtain⟨rfl,rfl,rfl⟩:=e0;rw[gQ p _ Y (eV H hv),td]at u;rw[gQ p g Y hv];exact(hB k u).imp id (λh=>⟨h,rfl⟩)
 rcases o with o|⟨rfl,rfl,rfl⟩|⟨rfl,rfl,rfl⟩
 .exact dp o e0
 .exact af u
 have e:¬(a=x/\b=y):=λe=>e0 ⟨e.1,e.2,rfl⟩;rw[gQ p _ i (eV H G),lG g r e]at u;rw[gQ p g i G];exact af u
def dZ.uS(h:dZ p s g w)(hx:6<=x/\x<=10)(o:gY s x y 0=true)(H:lP j0=(x,y)/\29<=j0/\j0<44/\j0≠42)(e1:s'.nt=s.nt)(J:s'.T=s.T)(e4:s'.kd=s.kd)(e5:s'.M=s.M)(e6:s'.ck=s.ck)(e7:s'.clk=s.clk)(u:s'.sp=s.sp)(i:∀a b,fe a->(a=4\/a=5\/a=10\/a=12\/b=0)->¬(a=x/\b=y)->eS s' a b=eS s a b/\gu s' g a b=gu s g a b)(Y:Full w' p.eb 144 44 44 (eC (iH p s g) j0 (.slice r.1 (eS s' x y) r.2)))(hR:w'.ownsRow 0 (AU x) (AV x) (.slice r.1 (eS s' x y) r.2) (eS s' x y) (gu s' g x y))(Z:dM (λk=>k=p.eb\/fi (g.ro x y).1=some k) w w')(W:∀k,fi r.1=some k->fi (g.ro x y).1=some k\/w.heap.size<=k):Tr p s g w s' (g.at x y r) w':=
 h.Bw hx o hx o H e1 J e4 e5 e6 e7 u (λa b c d e=>⟨(i a b c d e).1,λ_=>(i a b c d e).2⟩) Y hR (λe=>dp ⟨rfl,rfl⟩ e) (Z.mono (λ_ G _=>G.imp id af)) W
theorem dZ.zm(h:dZ p s g w)(e1:s'.nt=s.nt)(e:s'.T=s.T)(Z:s'.kd=s.kd)(Y:s'.M=s.M)(e6:s'.ck=s.ck)(i:∀a b,eS s' a b=eS s a b/\gu s' g a b=gu s g a b)(J:Full w' p.eb 144 44 44 (iH p s' g))(W:dM (λk=>k=p.eb) w w'):Tr p s g w s' g w':=by
 have o:∀a b,sl s' g a b=sl s g a b:=λa b=>by
  grind[sl]
 refine h.to (λa b c=>a=0/\b=0/\c=0) (λ_=>(0,0,0)) (W.mono (λk G _=>⟨0,0,0,⟨rfl,rfl,rfl⟩,G⟩)) (λa b c u=>?_) (λa b c u=>?_) (λa b c k u G=>?_)
 .refine kT (nB e1 (by rw[e]) (λ_ _=>by rw[e])) (λH=>mK H ?_ (λ_=>⟨Z,?_,Y⟩) ?_ ?_ ?_ (λ_=>rfl) (λ_=>⟨rfl,rfl⟩) ?_ (λ_=>⟨rfl,i a b⟩))
  .grind[absurd,lT]
  .grind[kE]
  .intro y;refine⟨rfl,?_⟩;funext j
   grind[gz]
  .grind[dq]
  .grind[dq]
  grind[wK]
 .obtain⟨rfl,rfl,rfl⟩:=u;exact J
 obtain⟨rfl,rfl,rfl⟩:=u;exact af G
theorem dZ.flag(h:dZ p s g w)(ht:fm s t)(Y:v.fr=(s.T t).fr)(Z:v.lf=(s.T t).lf)(hT:Full w' (g.tb t) 160 7 7 (gz p (s.dx t v) g t))(hO:dM (λk=>k=g.tb t) w w'):Tr p s g w (s.dx t v) g w':=by
 have i:∀u,((s.dx t v).T u).fr=(s.T u).fr:=λu=>by
  grind[di,dR]
 have o:∀u,((s.dx t v).T u).lf=(s.T u).lf:=λu=>by
  grind[di,dR]
 have G:∀a b,eS (s.dx t v) a b=eS s a b:=λa b=>jX rfl rfl rfl rfl rfl (by rw[i]) rfl;have y:∀a b,sl (s.dx t v) g a b=sl s g a b:=λa b=>by
  unfold sl;rw[G]
 refine h.to (λa b c=>a=11/\b=t/\c=0) (λ_=>(0,0,0)) (hO.mono (λk J _=>⟨11,t,0,⟨rfl,rfl,rfl⟩,by grind[kU]⟩)) (λa b c H=>?_) (λa b c H=>?_) (λa b c k H J=>?_)
 .refine kT (nB rfl (by rw[i]) (λ_ _=>by rw[o])) (λhV=>mK hV (λ_=>ky (λa b _ _ _ _=>y a b) rfl rfl) (λ_=>⟨rfl,rfl,rfl⟩) ?_ ?_ ?_ (λ_=>rfl) (λ_=>⟨rfl,rfl⟩) ?_ (λ_=>⟨rfl,G a b,qR rfl rfl rfl rfl rfl rfl rfl (by rw[i]) rfl⟩))
  .intro W;refine⟨rfl,?_⟩;funext j
   grind[gz,dR,kj]
  .grind[dq]
  .grind[dq]
  grind[wK]
 .obtain⟨rfl,rfl,rfl⟩:=H;rw[hZ (show gY (s.dx b v) 11 b 0=true from iE ag ht)];exact hT
 obtain⟨rfl,rfl,rfl⟩:=H;rw[kU p g (show fm (s.dx b v) b from ht)]at J;grind[kU]
def Pl.dJ(s:Pl)(t i:Nat)(f:jc):Pl:=s.dx t { s.T t with fr:=(s.T t).fr.set i f }
theorem mh(s:Pl)(f:jc)(hi:i<(s.T t).fr.length):dq (s.dJ t i f) t i=f:=by
 unfold dq Pl.dJ;rw[di,cr,List.getElem?_set,bf rfl,bf hi];rfl
theorem lN(s:Pl){j:Nat}(f:jc)(h:¬(u=t/\j=i)):dq (s.dJ t i f) u j=dq s u j:=by
 unfold dq Pl.dJ;by_cases e:u=t
 .subst e;rw[di,cr,List.getElem?_set,au (λe=>h ⟨rfl,e.symm⟩),cr]
 grind[dR]
theorem dZ.Nz{f:jc}(h:dZ p s g w)(ht:fm s t)(hi:i<(s.T t).fr.length)(hF:w'.heap[g.fb t i]? = some (zD p g t i f))(hR:Full w' (g.rb t i) 149 (p.rg f.f*2) (p.rg f.f*2) (eQ f.R))(hO:dM (λk=>k=g.fb t i\/k=g.rb t i) w w'):Tr p s g w (s.dJ t i f) g w':=by
 have o:∀u,((s.dJ t i f).T u).fr.length=(s.T u).fr.length:=λu=>by
  grind[Pl.dJ,di,List.length_set,dR]
 have y:∀u,((s.dJ t i f).T u).lf=(s.T u).lf:=λu=>by
  grind[Pl.dJ,di,dR]
 have Z:∀a b,eS (s.dJ t i f) a b=eS s a b:=λa b=>jX rfl rfl rfl rfl rfl (o b) rfl;have J:∀a b,sl (s.dJ t i f) g a b=sl s g a b:=λa b=>by
  unfold sl;rw[Z]
 have hv:∀a b c,gY (s.dJ t i f) a b c=gY s a b c:=λa b c=>nB rfl (o b) (λ_ _=>by rw[y]);refine h.to (λa b c=>(a=13\/a=14)/\b=t/\c=i) (λ_=>(0,0,0)) (hO.mono (λk G _=>?_)) (λa b c W=>?_) (λa b c W=>?_) (λa b c k W G=>?_)
 .rcases G with G|G
  .refine⟨13,t,i,⟨af rfl,rfl,rfl⟩,?_⟩;rw[hZ (oY ag ht hi)];exact G
  refine⟨14,t,i,⟨ah rfl,rfl,rfl⟩,?_⟩;rw[hZ (oY ag ht hi)];exact G
 .refine kT (hv a b c) (λhV=>mK hV (λ_=>ky (λa b _ _ _ _=>J a b) rfl rfl) (λ_=>⟨rfl,rfl,rfl⟩) ?_ ?_ ?_ (λ_=>rfl) (λ_=>⟨rfl,rfl⟩) ?_ (λ_=>⟨rfl,Z a b,qR rfl rfl rfl rfl rfl rfl rfl (o b) rfl⟩))
  .intro Y;refine⟨rfl,?_⟩;funext j
   grind[gz,Pl.dJ,di,dR]
  .grind[lN]
  .grind[lN]
  grind[wK]
 .obtain⟨H,rfl,rfl⟩:=W;rcases H with rfl|rfl
  .rw[hZ (by grind[oY])];show w'.heap[g.fb b c]? = some (zD p g b c (dq (s.dJ b c f) b c));grind[mh]
  rw[hZ (by grind[oY])];show Full w' (g.rb b c) 149 (p.rg (dq (s.dJ b c f) b c).f*2) (p.rg (dq (s.dJ b c f) b c).f*2) (eQ (dq (s.dJ b c f) b c).R);grind[mh]
 obtain⟨H,rfl,rfl⟩:=W;refine af ?_;have hV:=oY H ht hi;rw[hZ eR]at G;rw[hZ hV];rcases H with rfl|rfl
 .exact G
 exact G
theorem dZ.MR{vb:Vs}(h:dZ p s g w)(e1:s'.nt=s.nt)(e:s'.T=s.T)(e3:s'.q=s.q)(e7:s'.clk=s.clk)(e8:s'.sp=s.sp)(f1:s'.lv=s.lv)(Y:s'.out=s.out)(f3:s'.kp=s.kp)(Z:s'.ev=s.ev)(f5:s'.ft=s.ft)(f6:s'.ck=vb.f.k)(hS:kD w' p.sb p.pb p.eb p.n s'.kd vb s'.M)(hO:dM (rA p.sb p.pb p.n s.kd (kE s g)) w w')(hG:pW p.n s.kd (kE s g) s'.kd vb w.heap.size):Tr p s g w s' { g with vf:=vb.f.b,cb:=vb.cb,rd:=vb.rd,ad:=vb.ad,cap:=vb.cap } w':=by
 have H:∀a b,eS s' a b=eS s a b:=λa b=>jX f1 Y f3 Z f5 (by rw[e]) (by rw[e3]);have o:kE s' { g with vf:=vb.f.b,cb:=vb.cb,rd:=vb.rd,ad:=vb.ad,cap:=vb.cap }=vb:=by unfold kE;rw[f6]
 have i:∀a b,sl s' { g with vf:=vb.f.b,cb:=vb.cb,rd:=vb.rd,ad:=vb.ad,cap:=vb.cap } a b=sl s g a b:=λa b=>by
  unfold sl;rw[H]
 refine h.to (λa b c=>a=1/\b=0/\c=0) (λ_=>(1,0,0)) (hO.mono (λk W _=>⟨1,0,0,⟨rfl,rfl,rfl⟩,W⟩)) (λa b c y=>?_) (λa b c y=>?_) (λa b c k y W=>?_)
 .refine kT (nB e1 (by rw[e]) (λ_ _=>by rw[e])) (λhV=>mK hV (λ_=>ky (λa b _ _ _ _=>i a b) e7 e8) ?_ ?_ ?_ ?_ (λ_=>rfl) (λ_=>⟨rfl,rfl⟩) ?_ (λ_=>⟨rfl,H a b,qR rfl rfl f1 Y f3 Z f5 (by rw[e]) (by rw[e3])⟩))
  .grind[absurd,lT]
  .intro G;refine⟨rfl,?_⟩;funext j
   unfold gz;rw[i,i,e];rfl
  .intro G;refine⟨rfl,?_⟩;unfold dq;rw[e];rfl
  .grind[dq]
  grind[wK]
 .obtain⟨rfl,rfl,rfl⟩:=y;show kD w' p.sb p.pb p.eb p.n s'.kd (kE s' { g with vf:=vb.f.b,cb:=vb.cb,rd:=vb.rd,ad:=vb.ad,cap:=vb.cap }) s'.M;grind
 obtain⟨rfl,rfl,rfl⟩:=y;have J:rA p.sb p.pb p.n s'.kd (kE s' { g with vf:=vb.f.b,cb:=vb.cb,rd:=vb.rd,ad:=vb.ad,cap:=vb.cap }) k:=W;rw[o]at J;rcases J with u|u|u
 .exact af (af u)
 .exact af (ah (af u))
 exact(hG k u).imp (λh=>ah (ah h)) (λh=>⟨h,rfl⟩)
theorem gK:∀(n:Nat) (l:List Nat),l.Nodup->(∀t,t∈l->1<=t/\t<=n)->l.length<=n
 | 0,[],_,_=>bq _
 | 0,a :: l,_,h=>by have:=h a eB;omega
 | n+1,l,hd,h=>by
  have e:=gK n (l.erase (n+1)) (hd.erase _) (λt ht=>by
   grind)
  grind
theorem sw{f:Nat->Nat}{a:Nat}:∀(l:List Nat),(∀b,b∈l->f b=f a->b=a)->(l.map f).erase (f a)=(l.erase a).map f
 | [],_=>rfl
 | b :: l,h=>by
  rw[List.map_cons,List.erase_cons,List.erase_cons];by_cases e:b=a
  .grind
  have y:(b == a)=false:=gG e;have o:(f b == f a)=false:=by
   rw[dX];exact λi=>e (h b eB i)
  rw[y,o];simp[sw l (λc u=>h c (by simp[u]))]
structure LW(s:Pl):Prop where
 a:∀t,fm s t->∀x y,(s.T t).wh=some (x,y)->fN s x y/\t∈s.q x y/\¬(x=5/\y=t)
 b:∀x y,fN s x y->∀t,t∈s.q x y->fm s t/\(s.T t).wh=some (x,y)
 c:∀x y,fN s x y->(s.q x y).Nodup
 d:s.nt<=500000000
def LW.len(h:LW s)(e:fN s x y):(s.q x y).length<=500000000:=dU (gK s.nt _ (h.c x y e) (λt ht=>(h.b x y e t ht).1)) h.d
def qA.off(v:qA):qA:={ v with wh:=none,lf:=none }
def qA.to(v:qA)(x y:Nat):qA:={ v with run:=false,wh:=some (x,y) }
def Pl.dz(s:Pl)(t:Nat):Pl:=match (s.T t).wh with
 | none=>s
 | some (x,y)=>(s.fF x y ((s.q x y).erase t)).dx t (s.T t).off
theorem BE(g:eJ)(x y:Nat):g.at x y (g.ro x y)=g:=by
 unfold eJ.at;have:(λa b=>if a=x/\b=y then g.ro x y else g.ro a b)=g.ro:=by
  funext a b
  by_cases e:a=x/\b=y
  .grind
  rw[au e]
 rw[this]
def rY(hl:fN s x y)(o:v.fr=(s.T t).fr)(u:¬(x=5/\y=t))(P:Nat->Value)(h0:P 0=gz p s g t 0)(H:P 1=gz p s g t 1)(h2:P 2=.bool v.run)(h3:P 3=wF p g v.wh)(Y:P 4=yL g t v.lf)(W:P 5=aj v.iM)(J:P 6=gz p s g t 6)(j:Nat)(hj:j<7):P j=gz p ((s.fF x y l).dx t v) (g.at x y r) t j:=by
 have Z:=oD hl;have i:∀a,¬(a=x/\t=y)->sl ((s.fF x y l).dx t v) (g.at x y r) a t=sl s g a t:=λa e=>by
  unfold sl;rw[lG g r e,jX (s:=s) (s':=(s.fF x y l).dx t v) rfl rfl rfl rfl rfl (by rw[di,o]) (fY s l e)]
 have G:=oU 6 j ag;rcases G with rfl|rfl|rfl|rfl|rfl|rfl|rfl
 .exact h0
 .rw[H];exact(i 12 (λe=>by omega)).symm
 .rw[h2];show _=Value.bool _;rw[di]
 .rw[h3];show _=wF p (g.at x y r) _;rw[di];rfl
 .rw[Y];show _=yL (g.at x y r) t _;rw[di];rfl
 .rw[W];show _=Value.int .i64 _;rw[di]
 rw[J];exact(i 5 (λe=>u ⟨e.1.symm,e.2.symm⟩)).symm
theorem qL(h:dZ p s g w)(hW:LW s)(ht:fm s t): eL 133 #[P0 (g.tb t)] w λw'=>Tr p s g w (s.dz t) g w':=by
 have hT:=h.tk ht;unfold Pl.dz
 cases hwh:(s.T t).wh with
 | none=>
  refine(wM (g.tb t) w ?_).mono ?_
  .rw[hT.cell 3 ag];show some (wF p g (s.T t).wh)=_;rw[hwh];rfl
  grind[Tr.refl]
 | some xy=>
  obtain⟨x,y⟩:=xy;obtain⟨G,hm,H⟩:=hW.a t ht x y hwh;have a8:=hW.len G;have i:=h.ln G ag;have Z:(s.q x y).length≠0:=by
   intro e;rw[db]at e;rw[e]at hm;cases hm
  obtain⟨gb,cap,a3⟩:=ee i.row Z;injection a3 with W _ Y;have a9:=i;rw[W,Y]at i
  have nb:pL p g x y≠g.tb t:=by
   unfold pL;by_cases h5:x=5
   .rw[bf h5];exact λe=>H ⟨h5,h.mC (nG G h5) ht e⟩
   rw[au h5];exact h.E.ne hT ek
  have a4:gz p s g t 3=Pt (pL p g x y) (ri x y):=by
   show wF p g (s.T t).wh=_;rw[hwh];rfl
  refine(DJ (pL p g x y) (ri x y) gb cap (s.q x y).length (g.tb t) (De x) (Af x) (Ey p s g x y) (gz p s g t) ((s.q x y).map g.tb) w i hT a4 (List.mem_map_of_mem hm) (λz hz=>?_) nb (eU i.row i.hE (by grind[Af,decide]) gb rfl) (eU i.row hT ek gb rfl)).mono ?_
  .obtain⟨u,hu,rfl⟩:=eK.1 hz;exact(h.tk (hW.b x y G u hu).1).zq
  rintro e w' ⟨rfl,a1,a5,a7⟩;have a2:=List.length_erase_of_mem hm;have o:g.ro x y=(some (ay gb 0),cap):=fV W Y;have a0:=h.line (l:=(s.q x y).erase t) (v:=(s.T t).off) (r:=g.ro x y) G ht rfl (af rfl) H (w':=w') ?_ ?_ ?_ ?_ (λk hk=>af hk)
  .grind[BE]
  .grind[Ln.hE]
  .rw[a2,o];have:=a1.row;rw[sw _ (λb hb e=>h.mC (hW.b x y G b hb).1 ht e)]at this;omega
  .refine a5.congr (λj hj=>rY (v:=(s.T t).off) G rfl H _ ?_ ?_ ?_ ?_ ?_ ?_ ?_ j hj)<;>rfl
  refine a7.mono (λk hk _=>?_);rcases hk with J|J|J
  .omega
  .omega
  refine ah (ah ?_);rw[o,J];rfl
def Pl.dY(s:Pl)(x y t:Nat):Pl:=((s.dz t).fF x y ((s.dz t).q x y++[t])).dx t (((s.dz t).T t).to x y)
theorem kg(s:Pl)(t u:Nat):((s.dz t).T u).fr=(s.T u).fr:=by
 unfold Pl.dz;split
 .rfl
 by_cases e:u=t
 .subst e;rw[di];rfl
 rw[dR _ _ e];rfl
def gg(s:Pl)(t:Nat):(s.dz t).nt=s.nt:=by unfold Pl.dz;split<;>rfl
theorem sm(s:Pl)(h:(s.T t).wh≠some (x,y)):(s.dz t).q x y=s.q x y:=by
 unfold Pl.dz;split
 .rfl
 rename_i a b e;exact fY s _ (λi=>h eR)
theorem ey(h:s'.nt=s.nt):fm s' t↔fm s t:=by grind[fm]
theorem gC(h:s'.nt=s.nt):fN s' x y↔fN s x y:=by grind[fN,ey]
theorem vW(h:dZ p s g w)(hW:LW s)(hl:fN s x y)(ht:fm s t)(G:¬(x=5/\y=t))(a1:(s.T t).wh≠some (x,y)): eL 110 #[Pt (pL p g x y) (ri x y),P0 (g.tb t)] w λw'=>∃r,Tr p s g w (s.dY x y t) (g.at x y r) w':=by
 have a5:=hW.len hl;have J:=h.ln hl ag;have hT:=h.tk ht
 have nb:pL p g x y≠g.tb t:=by
  unfold pL;by_cases h5:x=5
  .rw[bf h5];exact λe=>G ⟨h5,h.mC (nG hl h5) ht e⟩
  rw[au h5];exact h.E.ne hT ek
 have hc:w.cell? (ay (pL p g x y) (ri x y))=some (.slice (g.ro x y).1 (s.q x y).length (g.ro x y).2):=by
  rw[J.hE.cell _ J.ho,J.e]
 have hn1:=gg s t;have u:=(gC hn1).2 hl;have a0:=(ey hn1).2 ht;have i:=sm s a1;refine(LR (pL p g x y) (ri x y) (g.ro x y).2 (s.q x y).length (g.tb t) (De x) (Af x) (g.ro x y).1 (Ey p (s.dz t) g x y) (gz p (s.dz t) g t) ((s.q x y).map g.tb) (λw1=>Tr p s g w (s.dz t) g w1) w nb (λk o=>⟨eU J.row J.hE (by grind[Af,decide]) k o,eU J.row hT ek k o⟩) ag hc ?_).mono ?_
 .refine du (qL h hW ht) λw1 H=>?_;grind[F.dZ.ln,F.Tr.r,F.dZ.tk]
 rintro e w' ⟨rfl,w1,H,gb,c',Z,a2,a4,Y⟩;refine⟨rfl,(some (ay gb 0),c'),H.trans (H.r.line u a0 rfl (ah rfl) G ?_ ?_ ?_ ?_ ?_)⟩
 .rw[i,cw];exact Z.hE
 .rw[i,cw];have:=Z.row;simp_all
 .refine a2.congr (λj hj=>rY (v:=((s.dz t).T t).to x y) u rfl G _ ?_ ?_ ?_ ?_ ?_ ?_ ?_ j hj)<;>rfl
 .grind[dF,dM.mono]
 intro k o;have e:gb=k:=by injection o
 grind[dF]
theorem jY(s:Pl)(t:Nat):eS s 12 t=(s.T t).fr.length:=rfl
theorem m8(s:Pl)(g:eJ)(t:Nat):gu s g 12 t=((List.range (s.T t).fr.length).map (g.fb t)).map P0:=rfl
def qA.mz(v:qA)(l:List jc):qA:={ v with fr:=l }
def Pl.push(s:Pl)(t:Nat)(f:jc):Pl:=s.dx t ((s.T t).mz ((s.T t).fr++[f]))
def eJ.push(g:eJ)(t m fb rb:Nat)(r:Option Addr×Nat):eJ:={ g.at 12 t r with fb:=λa b=>if a=t/\b=m then fb else g.fb a b,rb:=λa b=>if a=t/\b=m then rb else g.rb a b }
def pI(g:eJ)(t m fb rb:Nat)(r:Option Addr×Nat):(g.push t m fb rb r).fb t m=fb/\(g.push t m fb rb r).rb t m=rb:=⟨bf ⟨rfl,rfl⟩,bf ⟨rfl,rfl⟩⟩
def qU(g:eJ){m fb rb:Nat}{a b:Nat}(h:¬(a=t/\b=m)):(g.push t m fb rb r).fb a b=g.fb a b/\(g.push t m fb rb r).rb a b=g.rb a b:=⟨au h,au h⟩
theorem wV(s:Pl)(t:Nat)(f:jc):dq (s.push t f) t (s.T t).fr.length=f:=by
 unfold dq Pl.push;rw[di];show((s.T t).fr++[f]).getD _ _=f;simp
theorem pn(s:Pl)(f:jc)(h:u=t->i<(s.T t).fr.length):dq (s.push t f) u i=dq s u i:=by
 unfold dq Pl.push;by_cases e:u=t
 .subst e;rw[di];show((s.T u).fr++[f]).getD _ _=_;grind
 grind[dR]
theorem dZ.push{p:dL}{s:Pl}{g:eJ}{w w':aa}{t fb rb:Nat}{f:jc}{r:Option Addr×Nat}(h:dZ p s g w)(ht:fm s t)(aC:(s.T t).lf=none)(hT:Full w' (g.tb t) 160 7 7 (eC (gz p s g t) 1 (.slice r.1 ((s.T t).fr.length+1) r.2)))(hK:w'.ownsRow 0 184 1 (.slice r.1 ((s.T t).fr.length+1) r.2) ((s.T t).fr.length+1) (((List.range (s.T t).fr.length).map (g.fb t)).map P0++[P0 fb]))(hF:w'.heap[fb]? = some (jo (p.cb f.f) (p.len f.f) f.nx rb (p.rg f.f) (xM p g t (s.T t).fr.length f.bk)))(hR:Full w' rb 149 (p.rg f.f*2) (p.rg f.f*2) (eQ f.R))(hO:dM (λk=>k=g.tb t\/fi (g.ro 12 t).1=some k) w w')(n1:w.heap.size<=fb)(n2:w.heap.size<=rb)(hB:∀k,fi r.1=some k->fi (g.ro 12 t).1=some k\/w.heap.size<=k):Tr p s g w (s.push t f) (g.push t (s.T t).fr.length fb rb r) w':=by
 generalize hm:(s.T t).fr.length=m at *;have y:∀u,u≠t->(s.push t f).T u=s.T u:=λu e=>dR _ _ e;have J:(s.push t f).T t=(s.T t).mz ((s.T t).fr++[f]):=di _ _ _;have Y:((s.push t f).T t).fr.length=m+1:=by rw[J];show((s.T t).fr++[f]).length=_;rw[cw,hm];rfl
 have a8:∀a b,¬(a=12/\b=t)->(g.push t m fb rb r).ro a b=g.ro a b:=λa b e=>lG g r e;have a3:(g.push t m fb rb r).ro 12 t=r:=td g 12 t r;have a9:∀a b,¬(a=12/\b=t)->eS (s.push t f) a b=eS s a b:=λa b e=>by
  by_cases eb:b=t
  .have o:a≠12:=λo=>e ⟨o,eb⟩;unfold eS;simp only[au o];rfl
  exact jX rfl rfl rfl rfl rfl eR rfl
 have H:∀a b,¬(a=t/\b=m)->(g.push t m fb rb r).fb a b=g.fb a b:=λa b e=>(qU g e).1;have aB:∀a b,¬(a=12/\b=t)->gu (s.push t f) (g.push t m fb rb r) a b=gu s g a b:=λa b e=>by
  by_cases o:a=12
  .subst o;have eb:b≠t:=λeb=>e ⟨rfl,eb⟩;rw[m8,m8,y b eb];simp_all
  unfold gu;simp only[au o];rfl
 have a0:∀a b,¬(a=12/\b=t)->sl (s.push t f) (g.push t m fb rb r) a b=sl s g a b:=λa b e=>by
  unfold sl;rw[a8 a b e,a9 a b e]
 have a1:sl (s.push t f) (g.push t m fb rb r) 12 t=.slice r.1 (m+1) r.2:=by
  unfold sl;rw[a3,jY,Y]
 have a2:∀k,fi r.1=some k->k≠fb/\k≠rb:=λk G=>by
  obtain⟨_,_,cu,h1⟩:=dP hK k (eV dF G);refine⟨eE h1 hF ek,?_⟩;obtain⟨aD,h2,_⟩:=hR;exact eE h1 h2 ek
 have a6:rb≠fb:=by
  obtain⟨aD,h2,_⟩:=hR;exact eE h2 hF ek
 have aA:∀a b c,¬((a=13\/a=14)/\b=t/\c=m)->gY (s.push t f) a b c=gY s a b c:=λa b c e=>by
  by_cases eb:b=t
  .by_cases o:a=13\/a=14
   .have ec:c≠m:=λec=>e ⟨o,eb,ec⟩;unfold gY;rw[eD,eD,eD,eD,bf o,eD,eD,eD,eD,bf o];have e1:((s.push t f).T b).fr.length=m+1:=eV eb Y
    have e2:(s.T b).fr.length=m:=eV eb hm;rw[e1,e2];have a4:(s.push t f).nt=s.nt:=rfl;rw[a4];by_cases hc:c<m
    .have:c<m+1:=by omega
     simp[hc,this]
    have:¬c<m+1:=by omega
    simp[hc,this]
   unfold gY;have a4:(s.push t f).nt=s.nt:=rfl;rw[a4,au o];by_cases aE:a=17
   .have:((s.push t f).T b).lf=(s.T b).lf:=by rw[eb,J];rfl
    rw[this,au o]
   simp only[au aE,au o]
  exact nB rfl (by rw[y b eb]) (λ_ _=>by rw[y b eb])
 refine h.to (λa b c=>(a=11/\b=t/\c=0)\/(a=12/\b=t/\c=0)\/((a=13\/a=14)/\b=t/\c=m)) (λk=>if k=fb then(13,t,m) else if k=rb then(14,t,m) else(12,t,0)) (hO.mono (λk G _=>?_)) (λa b c hC=>?_) (λa b c hC=>?_) (λa b c k hC G=>?_)
 .rcases G with G|G
  .exact⟨11,t,0,af ⟨rfl,rfl,rfl⟩,by rw[kU p g ht];exact G⟩
  exact⟨12,t,0,ah (af ⟨rfl,rfl,rfl⟩),by rw[gQ p g (by unfold fe;omega) (iE ag ht)];exact G⟩
 .refine kT (aA a b c (λe=>hC (ah (ah e)))) (λhV=>mK hV (λ_=>ky (λa b _ _ e _=>a0 a b (λhh=>e hh.1)) rfl rfl) (λ_=>⟨rfl,rfl,rfl⟩) ?_ ?_ ?_ (λ_=>rfl) (λ_=>⟨rfl,rfl⟩) ?_ ?_)
  .intro o;have eb:b≠t:=λe=>hC (af ⟨o,e,(kj hV ag).2⟩);refine⟨rfl,?_⟩;funext j
   unfold gz;rw[a0 12 b (λe=>eb e.2),a0 5 b (λe=>by omega),y b eb];rfl
  .intro o;subst o;obtain⟨hb,hc⟩:=nA hV ag;have e0:¬(b=t/\c=m):=λe=>hC (ah (ah ⟨af rfl,e.1,e.2⟩));refine⟨H b c e0,?_⟩;rw[pn s f (λe=>by subst e;exact hc)];unfold zD xM;have e1:(g.push t m fb rb r).rb b c=g.rb b c:=(qU g e0).2;have e2:=H b (c-1) (λe=>by
    have h1:(s.T b).fr.length=m:=eV e.1 hm;omega)
   rw[e1,e2];rfl
  .intro o;subst o;obtain⟨hb,hc⟩:=nA hV ag;have e0:¬(b=t/\c=m):=λe=>hC (ah (ah ⟨ah rfl,e.1,e.2⟩));exact⟨(qU g e0).2,pn s f (λe=>by subst e;exact hc)⟩
  .intro o;subst o;have hl:=(mg hV).2.2;have eb:b≠t:=λe=>by rw[e,aC]at hl;cases hl
   refine⟨rfl,?_⟩;unfold wK;rw[y b eb,H b _ (λe=>eb e.1)];rfl
  intro ha;have e:¬(a=12/\b=t):=λe=>hC (ah (af ⟨e.1,e.2,rK hV ha⟩));exact⟨a8 a b e,a9 a b e,aB a b e⟩
 .rcases hC with⟨rfl,rfl,rfl⟩|⟨rfl,rfl,rfl⟩|⟨W,rfl,rfl⟩
  .rw[hZ (show gY (s.push b f) 11 b 0=true from iE ag ht)];refine Full.congr hT (λj hj=>?_);have hc:=oU 6 j ag
   rcases hc with rfl|rfl|rfl|rfl|rfl|rfl|rfl
   .rfl
   .exact a1.symm
   .show Value.bool (s.T b).run=Value.bool ((s.push b f).T b).run;rw[J];rfl
   .show wF p g (s.T b).wh=wF p (g.push b m fb rb r) ((s.push b f).T b).wh;rw[J];rfl
   .show yL g b (s.T b).lf=yL (g.push b m fb rb r) b ((s.push b f).T b).lf;rw[J];rfl
   .show Value.int .i64 (s.T b).iM=Value.int .i64 ((s.push b f).T b).iM;rw[J];rfl
   exact(a0 5 b (λe=>by omega)).symm
  .rw[hZ (show gY (s.push b f) 12 b 0=true from iE ag ht),g9 (by unfold fe;omega)];show w'.ownsRow 0 184 1 (sl (s.push b f) (g.push b m fb rb r) 12 b) (eS (s.push b f) 12 b) (gu (s.push b f) (g.push b m fb rb r) 12 b);rw[a1,jY,m8,Y,gm,gR,gR];have e1:(List.range m).map ((g.push b m fb rb r).fb b)=(List.range m).map (g.fb b):=List.map_congr_left (λi hi=>H b i (λe=>by have:=fI.1 hi;omega));have e2:([m].map ((g.push b m fb rb r).fb b)).map P0=[P0 fb]:=by show[P0 ((g.push b m fb rb r).fb b m)]=_;rw[(pI g b m fb rb r).1]
   rw[e1,e2];exact hK
  have a5:gY (s.push b f) a b c=true:=oY W ht (kr Y);rw[hZ a5];have a7:dq (s.push b f) b c=f:=by rw[<-hm];exact wV s b f
  rcases W with rfl|rfl
  .show w'.heap[(g.push b c fb rb r).fb b c]? = some (zD p (g.push b c fb rb r) b c (dq (s.push b f) b c));rw[a7,(pI g b c fb rb r).1];unfold zD;rw[(pI g b c fb rb r).2];have:xM p (g.push b c fb rb r) b c f.bk=xM p g b c f.bk:=by
    unfold xM;by_cases h0:c=0
    .rw[bf h0,bf h0];rfl
    rw[au h0,au h0,H b (c-1) (λe=>by omega)];rfl
   rw[this];exact hF
  show Full w' ((g.push b c fb rb r).rb b c) 149 (p.rg (dq (s.push b f) b c).f*2) (p.rg (dq (s.push b f) b c).f*2) (eQ (dq (s.push b f) b c).R);rw[a7,(pI g b c fb rb r).2];exact hR
 rcases hC with⟨rfl,rfl,rfl⟩|⟨rfl,rfl,rfl⟩|⟨W,rfl,rfl⟩
 .rw[kU p _ (show fm (s.push b f) b from ht)]at G;rw[kU p g ht];exact af G
 .rw[gQ p _ (by unfold fe;omega) (show gY (s.push b f) 12 b 0=true from iE ag ht),a3]at G;rw[gQ p g (by unfold fe;omega) (iE ag ht)];refine(hB k G).imp id (λh=>⟨h,?_⟩);rw[au (a2 k G).1,au (a2 k G).2]
 have a5:gY (s.push b f) a b c=true:=oY W ht (kr Y);rw[hZ a5]at G;rcases W with rfl|rfl
 .have Z:k=(g.push b c fb rb r).fb b c:=G;rw[(pI g b c fb rb r).1]at Z;subst Z;exact ah ⟨n1,bf rfl⟩
 have Z:k=(g.push b c fb rb r).rb b c:=G;rw[(pI g b c fb rb r).2]at Z;subst Z;exact ah ⟨n2,by rw[au a6,bf rfl]⟩
def Pl.pop(s:Pl)(t:Nat):Pl:=s.dx t ((s.T t).mz (s.T t).fr.dropLast)
theorem pJ(s:Pl)(h:u=t->i+1<(s.T t).fr.length):dq (s.pop t) u i=dq s u i:=by
 unfold dq Pl.pop;by_cases e:u=t
 .subst e;rw[di];show(s.T u).fr.dropLast.getD _ _=_;grind
 grind[dR]
theorem dZ.pop{p:dL}{s:Pl}{g:eJ}{w w':aa}{t m:Nat}(h:dZ p s g w)(ht:fm s t)(a6:(s.T t).lf=none)(hm:(s.T t).fr.length=m+1)(hT:Full w' (g.tb t) 160 7 7 (eC (gz p s g t) 1 (.slice (g.ro 12 t).1 m (g.ro 12 t).2)))(hK:w'.ownsRow 0 184 1 (.slice (g.ro 12 t).1 m (g.ro 12 t).2) m (((List.range m).map (g.fb t)).map P0))(hO:dM (λk=>k=g.tb t\/fi (g.ro 12 t).1=some k) w w'):Tr p s g w (s.pop t) g w':=by
 have o:∀u,u≠t->(s.pop t).T u=s.T u:=λu e=>dR _ _ e;have y:(s.pop t).T t=(s.T t).mz (s.T t).fr.dropLast:=di _ _ _;have a0:((s.pop t).T t).fr.length=m:=by rw[y];show(s.T t).fr.dropLast.length=_;rw[eY,hm];rfl
 have a2:∀a b,¬(a=12/\b=t)->eS (s.pop t) a b=eS s a b:=λa b e=>by
  by_cases eb:b=t
  .have i:a≠12:=λi=>e ⟨i,eb⟩;unfold eS;simp only[au i];rfl
  exact jX rfl rfl rfl rfl rfl eR rfl
 have a5:∀a b,¬(a=12/\b=t)->gu (s.pop t) g a b=gu s g a b:=λa b e=>by
  by_cases i:a=12
  .grind[m8]
  unfold gu;simp only[au i];rfl
 have H:∀a b,¬(a=12/\b=t)->sl (s.pop t) g a b=sl s g a b:=λa b e=>by
  grind[sl]
 have W:sl (s.pop t) g 12 t=.slice (g.ro 12 t).1 m (g.ro 12 t).2:=by
  unfold sl;rw[jY,a0]
 have a4:∀a b c,¬((a=13\/a=14)/\b=t/\c=m)->gY (s.pop t) a b c=gY s a b c:=λa b c e=>by
  by_cases eb:b=t
  .by_cases i:a=13\/a=14
   .have ec:c≠m:=λec=>e ⟨i,eb,ec⟩;unfold gY;rw[eD,eD,eD,eD,bf i,eD,eD,eD,eD,bf i];have e1:((s.pop t).T b).fr.length=m:=eV eb a0
    have e2:(s.T b).fr.length=m+1:=eV eb hm;rw[e1,e2];have a1:(s.pop t).nt=s.nt:=rfl;rw[a1];by_cases hc:c<m
    .have:c<m+1:=by omega
     simp[hc,this]
    have:¬c<m+1:=by omega
    simp[hc,this]
   unfold gY;have a1:(s.pop t).nt=s.nt:=rfl;rw[a1,au i];by_cases a7:a=17
   .have:((s.pop t).T b).lf=(s.T b).lf:=by rw[eb,y];rfl
    rw[this,au i]
   simp only[au a7,au i]
  exact nB rfl (by rw[o b eb]) (λ_ _=>by rw[o b eb])
 have a3:∀a,a=13\/a=14->¬gY (s.pop t) a t m=true:=λa ha Y=>by
  have:=(nA Y ha).2;omega
 refine h.to (λa b c=>(a=11/\b=t/\c=0)\/(a=12/\b=t/\c=0)\/((a=13\/a=14)/\b=t/\c=m)) (λ_=>(0,0,0)) (hO.mono (λk G _=>?_)) (λa b c J=>?_) (λa b c J=>?_) (λa b c k J G=>?_)
 .rcases G with G|G
  .exact⟨11,t,0,af ⟨rfl,rfl,rfl⟩,by rw[kU p g ht];exact G⟩
  exact⟨12,t,0,ah (af ⟨rfl,rfl,rfl⟩),by rw[gQ p g (by unfold fe;omega) (iE ag ht)];exact G⟩
 .refine kT (a4 a b c (λe=>J (ah (ah e)))) (λY=>mK Y (λ_=>ky (λa b _ _ e _=>H a b (λhh=>e hh.1)) rfl rfl) (λ_=>⟨rfl,rfl,rfl⟩) ?_ ?_ ?_ (λ_=>rfl) (λ_=>⟨rfl,rfl⟩) ?_ ?_)
  .intro i;have eb:b≠t:=λe=>J (af ⟨i,e,(kj Y ag).2⟩);refine⟨rfl,?_⟩;funext j
   unfold gz;rw[H 12 b (λe=>eb e.2),H 5 b (λe=>by omega),o b eb]
  .intro i;subst i;obtain⟨hb,hc⟩:=nA Y ag;refine⟨rfl,?_⟩;rw[pJ s (λe=>by
    subst e;have:c≠m:=λe=>J (ah (ah ⟨af rfl,rfl,e⟩));omega)]
  .intro i;subst i;obtain⟨hb,hc⟩:=nA Y ag;exact⟨rfl,pJ s (λe=>by
    subst e;have:c≠m:=λe=>J (ah (ah ⟨ah rfl,rfl,e⟩));omega)⟩
  .intro i;subst i;have hl:=(mg Y).2.2;have eb:b≠t:=λe=>by rw[e,a6]at hl;cases hl
   refine⟨rfl,?_⟩;unfold wK;rw[o b eb]
  intro ha;have e:¬(a=12/\b=t):=λe=>J (ah (af ⟨e.1,e.2,rK Y ha⟩));exact⟨rfl,a2 a b e,a5 a b e⟩
 .rcases J with⟨rfl,rfl,rfl⟩|⟨rfl,rfl,rfl⟩|⟨Z,rfl,rfl⟩
  .rw[hZ (show gY (s.pop b) 11 b 0=true from iE ag ht)];refine Full.congr hT (λj hj=>?_);have hc:=oU 6 j ag
   rcases hc with rfl|rfl|rfl|rfl|rfl|rfl|rfl
   .rfl
   .exact W.symm
   .show Value.bool (s.T b).run=Value.bool ((s.pop b).T b).run;rw[y];rfl
   .show wF p g (s.T b).wh=wF p g ((s.pop b).T b).wh;rw[y];rfl
   .show yL g b (s.T b).lf=yL g b ((s.pop b).T b).lf;rw[y];rfl
   .show Value.int .i64 (s.T b).iM=Value.int .i64 ((s.pop b).T b).iM;rw[y];rfl
   exact(H 5 b (λe=>by omega)).symm
  .rw[hZ (show gY (s.pop b) 12 b 0=true from iE ag ht),g9 (by unfold fe;omega)];show w'.ownsRow 0 184 1 (sl (s.pop b) g 12 b) (eS (s.pop b) 12 b) (gu (s.pop b) g 12 b);rw[W,jY,m8,a0];exact hK
  rw[vw (a3 a Z)];exact trivial
 rcases J with⟨rfl,rfl,rfl⟩|⟨rfl,rfl,rfl⟩|⟨Z,rfl,rfl⟩
 .rw[kU p _ (show fm (s.pop b) b from ht)]at G;rw[kU p g ht];exact af G
 .rw[gQ p _ (by unfold fe;omega) (show gY (s.pop b) 12 b 0=true from iE ag ht)]at G;rw[gQ p g (by unfold fe;omega) (iE ag ht)];exact af G
 rw[vw (a3 a Z)]at G;exact G.elim
def qA.lK(v:qA)(k:Nat×Nat×Nat×Nat):qA:={ v with lf:=some k }
def eJ.left(g:eJ)(t b:Nat):eJ:={ g with sx:=λu=>if u=t then b else g.sx u }
def left_at(g:eJ)(t b:Nat):(g.left t b).sx t=b:=bf rfl
def yN(g:eJ)(b:Nat)(h:u≠t):(g.left t b).sx u=g.sx u:=au h
theorem Tr.left{p:dL}{s0 s:Pl}{g0 g:eJ}{w0 w w':aa}{t b:Nat}{k4:Nat×Nat×Nat×Nat}(h0:Tr p s0 g0 w0 s g w)(ht:fm s t)(hT:Full w' (g.tb t) 160 7 7 (eC (gz p s g t) 4 (Fv 207 #[P0 b])))(hb:w'.heap[b]? = some (ju k4.1 k4.2.1 k4.2.2.1 k4.2.2.2 (g.fb t ((s.T t).fr.length-1)) (g.tb t) p.eb))(hn:¬eH p s g b)(hz:w0.heap.size<=b)(hO:dM (λk=>k=g.tb t) w w'): Tr p s0 g0 w0 (s.dx t ((s.T t).lK k4)) (g.left t b) w':=by
 have o:∀u,u≠t->(s.dx t ((s.T t).lK k4)).T u=s.T u:=λu e=>dR _ _ e;have G:∀u,((s.dx t ((s.T t).lK k4)).T u).fr=(s.T u).fr:=λu=>by
  by_cases e:u=t
  .subst e;rw[di];rfl
  grind
 have y:(s.dx t ((s.T t).lK k4)).T t=(s.T t).lK k4:=di _ _ _;have a0:∀a i,eS (s.dx t ((s.T t).lK k4)) a i=eS s a i:=λa i=>jX rfl rfl rfl rfl rfl (by rw[G]) rfl;have H:∀a i,sl (s.dx t ((s.T t).lK k4)) (g.left t b) a i=sl s g a i:=λa i=>by
  unfold sl;rw[a0 a i];rfl
 have a2:∀a i c,¬(a=17/\i=t/\c=0)->gY (s.dx t ((s.T t).lK k4)) a i c=gY s a i c:=λa i c e=>
  nB rfl (by rw[G]) (λY ec=>by grind)
 have J:gY (s.dx t ((s.T t).lK k4)) 17 t 0=true:=Dr ht (jx y);refine h0.to (λa i c=>(a=11/\i=t/\c=0)\/(a=17/\i=t/\c=0)) (λ_=>(17,t,0)) (hO.mono (λk Z _=>⟨11,t,0,af ⟨rfl,rfl,rfl⟩,by grind[kU]⟩)) (λa i c W=>?_) (λa i c W=>?_) (λa i c k W Z=>?_)
 .refine kT (a2 a i c (λe=>W (ah e))) (λhV=>mK hV (λ_=>ky (λa b _ _ _ _=>H a b) rfl rfl) (λ_=>⟨rfl,rfl,rfl⟩) ?_ ?_ ?_ (λ_=>rfl) (λ_=>⟨rfl,rfl⟩) ?_ (λ_=>⟨rfl,a0 a i,qR rfl rfl rfl rfl rfl rfl rfl (by rw[G]) rfl⟩))
  .intro Y;have eb:i≠t:=λe=>W (af ⟨Y,e,(kj hV ag).2⟩);refine⟨rfl,?_⟩;funext j
   unfold gz;rw[H,H,o i eb];unfold yL;rw[yN g b eb];rfl
  .intro Y;refine⟨rfl,?_⟩;unfold dq;rw[G];rfl
  .intro Y;refine⟨rfl,?_⟩;grind[dq]
  intro Y;subst Y;have eb:i≠t:=λe=>W (ah ⟨rfl,e,(mg hV).2.1⟩);refine⟨yN g b eb,?_⟩;unfold wK;rw[o i eb];rfl
 .rcases W with⟨rfl,rfl,rfl⟩|⟨rfl,rfl,rfl⟩
  .rw[hZ (show gY (s.dx i ((s.T i).lK k4)) 11 i 0=true from iE ag ht)];refine Full.congr hT (λj hj=>?_);have hc:=oU 6 j ag
   rcases hc with rfl|rfl|rfl|rfl|rfl|rfl|rfl
   .rfl
   .exact(H 12 i).symm
   .show Value.bool (s.T i).run=Value.bool ((s.dx i ((s.T i).lK k4)).T i).run;rw[y];rfl
   .show wF p g (s.T i).wh=wF p (g.left i b) ((s.dx i ((s.T i).lK k4)).T i).wh;rw[y];rfl
   .show Fv 207 #[P0 b]=yL (g.left i b) i ((s.dx i ((s.T i).lK k4)).T i).lf;rw[y];show _=Fv 207 #[P0 ((g.left i b).sx i)];rw[left_at]
   .show Value.int .i64 (s.T i).iM=Value.int .i64 ((s.dx i ((s.T i).lK k4)).T i).iM;rw[y];rfl
   exact(H 5 i).symm
  rw[hZ J];show w'.heap[(g.left i b).sx i]? = some (wK p (s.dx i ((s.T i).lK k4)) (g.left i b) i);rw[left_at,hb];unfold wK;rw[y];rfl
 rcases W with⟨rfl,rfl,rfl⟩|⟨rfl,rfl,rfl⟩
 .rw[kU p _ (show fm (s.dx i ((s.T i).lK k4)) i from ht)]at Z;rw[kU p g ht];exact af Z
 rw[hZ J]at Z;have a1:k=(g.left i b).sx i:=Z;rw[left_at]at a1;subst a1;exact ah ⟨hn,hz,rfl⟩
