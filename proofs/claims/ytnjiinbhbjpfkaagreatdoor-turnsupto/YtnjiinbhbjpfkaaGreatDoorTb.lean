import Derived.Test.YtnjiinbhbjpfkaaGreatDoorTX
import Derived.Test.YtnjiinbhbjpfkaaGreatDoorTQ
set_option maxRecDepth 100000
set_option maxHeartbeats 0
set_option linter.all false
namespace Go.Proofs.YtnjiinbhbjpfkaaGreatDoor
open Go.RowKit Go.Proofs.Tryz
namespace D
open F
abbrev vF:=Nat×Nat×Nat×Nat
structure Dp where
 n:Nat
 qn:Nat
 wk:Nat
 mt:Nat
 nf:Nat
 gb:Nat
 gc:Nat
 cb:Nat->Nat
 cc:Nat->Nat
 len:Nat->Nat
 rg:Nat->Nat
 ins:Nat->Nat->vF
structure Dt where
 fr:List jc
 how:Nat
 into:Int
 what:Nat
 lH:Int
 jw:Nat
 out:B.V
structure Dc where
 all:Nat
 bg:Bool
 lK:Int
 sure:Nat
 nF:Nat
 gw:Int
 xK:Int
 fu:Bool
structure Dm where
 nt:Nat
 T:Nat->Dt
 q:List Nat
 ft:Nat->List Nat
 nc:Nat
 M:Nat->List B.V
 ck:Nat->Nat
 jw:Nat
 sp:Bool
 ev:List tU
 clk:Int
 G:Dc
structure Dg where
 mb:Nat
 ro:Nat->Nat->Option Addr×Nat
 rb:Nat->Nat->Nat
 sb:Nat->Nat
abbrev jk(x:Int):Value:=.int .i64 x
def sg(m:Dm)(x y:Nat):Nat:=if x=1 then m.nt else if x=2 then m.q.length else if x=3 then m.nc else if x=4 then m.ev.length else if x=5 then(m.T y).fr.length else(m.ft y).length
def je(m:Dm)(g:Dg)(x y:Nat):Value:=.slice (g.ro x y).1 (sg m x y) (g.ro x y).2
def mE(p:Dp)(m:Dm)(g:Dg)(j:Nat):Value:=
 if j=0 then .slice (some ⟨p.gb,0,none⟩) p.nf p.gc else if j=1 then jk p.n else if j=2 then jk p.qn else if j=3 then jk p.wk else if j=4 then jk p.mt else if j=5 then jk m.clk
 else if j=6 then je m g 1 0 else if j=7 then je m g 2 0 else if j<12 then je m g 10 (j-8) else if j=12 then je m g 3 0
 else if j=13 then jk m.jw else if j=14 then .bool m.sp else if j=15 then je m g 4 0 else if j=16 then jk m.G.all else if j=17 then .bool m.G.bg else if j=18 then jk m.G.lK else if j=19 then jk m.G.sure else if j=20 then jk m.G.nF else if j=21 then jk m.G.gw else if j=22 then jk m.G.xK else .bool m.G.fu
def tC(x:Dt)(fv:Value)(k:Nat):Value:=
 if k=0 then fv else if k=1 then jk x.how else if k=2 then jk x.into else if k=3 then jk x.what else if k=4 then jk x.lH else if k=5 then jk x.jw else if k=6 then jk x.out.1 else jk x.out.2
def tE(m:Dm)(g:Dg)(j:Nat):Value:=tC (m.T (j / 8+1)) (je m g 5 (j / 8+1)) (j % 8)
def fU(m:Dm)(t i:Nat):jc:=(m.T t).fr.getD i n6
def fC(p:Dp)(f:jc)(rb:Nat)(k:Nat):Value:=
 if k=0 then jk f.f else if k=1 then .slice (some ⟨rb,0,none⟩) (p.rg f.f) (p.rg f.f) else if k=2 then jk f.nx else jk f.bk.2.1
def fE(p:Dp)(m:Dm)(g:Dg)(t j:Nat):Value:=fC p (fU m t (j / 4)) (g.rb t (j / 4)) (j % 4)
def cE(m:Dm)(g:Dg)(j:Nat):Value:=
 if j % 2=0 then .slice (some ⟨g.sb (j / 2+1),0,none⟩) (m.M (j / 2+1)).length (m.M (j / 2+1)).length else jk ((m.ck (j / 2+1):Int)-1)
def mW(l:List B.V):Nat->B.V:=λi=>l.getD i (0,0)
def rowP(n:Nat)(P:Nat->Value):List Value:=(List.range n).map P
def jJ(l:List Nat):List Value:=l.map (λ(x:Nat)=>jk (x:Int))
def Ob.q(e:TypeId)(ad:Option Addr)(n c:Nat)(xs:List Value):Ob:=⟨λk=>fi ad=some k,λw=>gd w e (.slice ad n c) xs,λ_ _ h hk=>h.block (λk e=>hk k (by rw[<-dF ad n c];exact e)),λ_ k h e=>h.lt k (by rw[dF];exact e)⟩
def Md(p:Dp)(j:Nat):Value:=if j % 2=0 then jk (p.rg (j / 2)) else .slice (some ⟨p.cb (j / 2),0,none⟩) (p.len (j / 2)) (p.cc (j / 2))
def FZ(p:Dp)(f j:Nat):Value:=jk (if j % 4=0 then(p.ins f (j / 4)).1 else if j % 4=1 then(p.ins f (j / 4)).2.1 else if j % 4=2 then(p.ins f (j / 4)).2.2.1 else(p.ins f (j / 4)).2.2.2:Nat)
def vd(p:Dp)(m:Dm)(x y z:Nat):Bool:=
 if x<=4\/x=8 then decide (y=0/\z=0) else if x=5 then decide (1<=y/\y<=m.nt/\z=0) else if x=6 then decide (1<=y/\y<=m.nt/\z<(m.T y).fr.length)
 else if x=7 then decide (1<=y/\y<=m.nc/\z=0) else if x=9 then decide (y<p.nf/\z=0) else decide (x=10/\y<4/\z=0)
def Oi(x:Nat):TypeId:=if x=1 then 167 else if x=3 then 233 else if x=4 then 48 else 163
def Oj(x:Nat):Nat:=if x=1 then 8 else if x=3 then 2 else if x=4 then 3 else 4
def rC(p:Dp)(m:Dm)(g:Dg)(x y:Nat):List Value:=if x=1 then rowP (m.nt*8) (tE m g) else if x=3 then rowP (m.nc*2) (cE m g) else if x=4 then mA m.ev else rowP ((m.T y).fr.length*4) (fE p m g y)
def qC(m:Dm)(x y:Nat):List Value:=if x=2 then jJ m.q else iI (m.ft y)
def ok(p:Dp)(m:Dm)(g:Dg)(x y z:Nat):Ob:=
 if x=0 then .full g.mb 112 24 (mE p m g)
 else if x=6 then .full (g.rb y z) 115 (p.rg (fU m y z).f*2) (eQ (fU m y z).R)
 else if x=7 then .full (g.sb y) 115 ((m.M y).length*2) (eQ (mW (m.M y)))
 else if x=8 then .row 89 2 (some ⟨p.gb,0,none⟩) p.nf p.gc (rowP (p.nf*2) (Md p))
 else if x=9 then .row 90 4 (some ⟨p.cb y,0,none⟩) (p.len y) (p.cc y) (rowP (p.len y*4) (FZ p y))
 else if x=2\/x=10 then Ob.q (if x=2 then 3 else 5) (g.ro x y).1 (sg m x y) (g.ro x y).2 (qC m x y)
 else .row (Oi x) (Oj x) (g.ro x y).1 (sg m x y) (g.ro x y).2 (rC p m g x y)
def ob(p:Dp)(m:Dm)(g:Dg)(x y z:Nat):Ob:=if vd p m x y z=true then ok p m g x y z else .nil
structure dZ(p:Dp) (m:Dm) (g:Dg) (w:aa):Prop where
 o:∀x y z,(ob p m g x y z).ok w
 i:∀x y z x' y' z' k,(ob p m g x y z).bs k->(ob p m g x' y' z').bs k->x=x'/\y=y'/\z=z'
def eH(p:Dp)(m:Dm)(g:Dg)(k:Nat):Prop:=∃x y z,(ob p m g x y z).bs k
structure Tr(p:Dp) (m:Dm) (g:Dg) (w:aa) (m':Dm) (g':Dg) (w':aa):Prop where
 r:dZ p m' g' w'
 o:dM (eH p m g) w w'
 m:∀k,eH p m' g' k->eH p m g k\/w.heap.size<=k
 b:g'.mb=g.mb
variable {p:Dp}{m m' m'':Dm}{g g' g'':Dg}{w w' w'':aa}
theorem dZ.lt(h:dZ p m g w){k:Nat}(e:eH p m g k):k<w.heap.size:=by
 obtain⟨x,y,z,e⟩:=e;exact(ob p m g x y z).lt w k (h.o x y z) e
def dZ.only(h:dZ p m g w){S:Nat->Prop}(u:dM S w w')(hS:∀k,eH p m g k->¬S k):dZ p m g w':=
 ⟨λx y z=>(ob p m g x y z).fr w w' (h.o x y z) (λk e=>u.same (h.lt ⟨x,y,z,e⟩) (hS k ⟨x,y,z,e⟩)),h.i⟩
def dZ.kept(h:dZ p m g w)(e:w.grownBy w' none):dZ p m g w':=h.only (S:=λ_=>False) (ep e) (λ_ _ h=>h)
theorem Tr.refl(h:dZ p m g w):Tr p m g w m g w:=⟨h,dw _ _,λ_ h=>af h,rfl⟩
theorem Tr.trans(h:Tr p m g w m' g' w')(e:Tr p m' g' w' m'' g'' w''):Tr p m g w m'' g'' w'':=
 ⟨e.r,h.o.trans e.o (λk i y=>(h.m k i).resolve_right ag),λk i=>by
  rcases e.m k i with u|u
  .exact h.m k u
  have:=h.o.size;omega,e.b.trans h.b⟩
theorem Tr.kept(h:Tr p m g w m' g' w')(e:w'.grownBy w'' none):Tr p m g w m' g' w'':=⟨h.r.kept e,h.o.iW e,h.m,h.b⟩
theorem Tr.ahead{w0:aa}(e:w0.grownBy w none)(h:Tr p m g w m' g' w'):Tr p m g w0 m' g' w':=
 ⟨h.r,(ep e).trans h.o (λ_ h _=>h),λk i=>(h.m k i).imp id (λh=>by have:=e.size;omega),h.b⟩
theorem Tr.to{m0:Dm}{Z:Dg}{w0:aa}(C:Nat->Nat->Nat->Prop)(own:Nat->Nat×Nat×Nat)(W:Tr p m0 Z w0 m g w)(hO:dM (λk=>∃x y z,C x y z/\(ob p m g x y z).bs k) w w')(h1:∀x y z,¬C x y z->ob p m' g' x y z=ob p m g x y z)(h2:∀x y z,C x y z->(ob p m' g' x y z).ok w')(h3:∀x y z k,C x y z->(ob p m' g' x y z).bs k->(ob p m g x y z).bs k\/(¬eH p m g k/\w0.heap.size<=k/\own k=(x,y,z)))(J:g'.mb=g.mb:=by rfl):Tr p m0 Z w0 m' g' w':=by
 have h:=W.r;have u:=λx y z k e=>by
  by_cases G:C x y z
  .exact h3 x y z k G e
  rw[h1 x y z G]at e;exact af e
 refine⟨⟨λx y z=>?_,λx y z x' y' z' k e H=>?_⟩,W.o.trans hO (λk e hl=>?_),λk e=>?_,J.trans W.b⟩
 .by_cases G:C x y z
  .grind
  rw[h1 x y z G];refine(ob p m g x y z).fr w w' (h.o x y z) (λk e=>hO.same (h.lt ⟨x,y,z,e⟩) ?_);grind[b,D.dZ.i]
 .rcases u _ _ _ k e with a|⟨a,_,b⟩
  .rcases u _ _ _ k H with c|⟨c,_⟩
   .grind[D.dZ.i]
   exact dp ⟨_,_,_,a⟩ c
  rcases u _ _ _ k H with c|⟨c,_,d⟩
  .exact dp ⟨_,_,_,c⟩ a
  grind
 .obtain⟨x,y,z,_,J⟩:=e;exact(W.m k ⟨x,y,z,J⟩).resolve_right ag
 obtain⟨x,y,z,e⟩:=e;rcases u x y z k e with h|h
 .exact W.m k ⟨x,y,z,h⟩
 omega
theorem dZ.to(C:Nat->Nat->Nat->Prop)(own:Nat->Nat×Nat×Nat)(h:dZ p m g w)(W:dM (λk=>∃x y z,C x y z/\(ob p m g x y z).bs k) w w')(G:∀x y z,¬C x y z->ob p m' g' x y z=ob p m g x y z)(u:∀x y z,C x y z->(ob p m' g' x y z).ok w')(o:∀x y z k,C x y z->(ob p m' g' x y z).bs k->(ob p m g x y z).bs k\/(w.heap.size<=k/\own k=(x,y,z)))(i:g'.mb=g.mb:=by rfl):Tr p m g w m' g' w':=
 Tr.to C own (Tr.refl h) W G u (λx y z k H e=>(o x y z k H e).imp id (λY=>⟨λJ=>by have:=h.lt J;omega,Y⟩)) i
def FX(x:Nat):Prop:=x=1\/x=3\/x=4\/x=5
theorem ok_eq{x y z:Nat}(e0:x=0->g'.mb=g.mb/\mE p m' g'=mE p m g:=by intro e;exact⟨rfl,rfl⟩)(er:FX x->g'.ro x y=g.ro x y/\sg m' x y=sg m x y/\rC p m' g' x y=rC p m g x y:=by intro e;exact⟨rfl,rfl,rfl⟩)(eq:x=2\/x=10->g'.ro x y=g.ro x y/\sg m' x y=sg m x y/\qC m' x y=qC m x y:=by intro e;rcases e with rfl|rfl<;>exact⟨rfl,rfl,rfl⟩)(e6:x=6->g'.rb y z=g.rb y z/\(fU m' y z).f=(fU m y z).f/\(fU m' y z).R=(fU m y z).R:=by intro e;exact⟨rfl,rfl,rfl⟩)(e7:x=7->g'.sb y=g.sb y/\m'.M y=m.M y:=by intro e;exact⟨rfl,rfl⟩)(hx:x<=10):ok p m' g' x y z=ok p m g x y z:=by
 unfold ok;by_cases G:x=0
 .grind
 rw[au G,au G];by_cases o:x=6
 .grind
 rw[au o,au o];by_cases u:x=7
 .grind
 rw[au u,au u];by_cases J:x=8
 .grind
 rw[au J,au J];by_cases H:x=9
 .grind
 rw[au H,au H];by_cases i:x=2\/x=10
 .grind
 have W:FX x:=by unfold FX;omega
 grind
theorem ie{x y z:Nat}(h:vd p m x y z=true):ob p m g x y z=ok p m g x y z:=by unfold ob;grind
theorem A7{x y z:Nat}(h:¬vd p m x y z=true):ob p m g x y z=.nil:=by unfold ob;grind
theorem l9{x y z:Nat}(h:vd p m x y z=true):x<=10:=by
 unfold vd at h;grind
theorem kT{x y z:Nat}(i:vd p m' x y z=vd p m x y z)(e:vd p m x y z=true->ok p m' g' x y z=ok p m g x y z):ob p m' g' x y z=ob p m g x y z:=by
 unfold ob;grind
theorem Ds(o:m'.nt=m.nt)(i:∀t,(m'.T t).fr.length=(m.T t).fr.length)(e:m'.nc=m.nc)(x y z:Nat):vd p m' x y z=vd p m x y z:=by grind[vd]
theorem oQ{x:Nat}(h:x<=4\/x=8):vd p m x 0 0=true:=by unfold vd;grind
theorem kS{x y z:Nat}(e:vd p m x y z=true)(h:x<=4\/x=8):y=0/\z=0:=by
 unfold vd at e;grind
theorem rP{t:Nat}(i:1<=t)(e:t<=m.nt):vd p m 5 t 0=true:=by unfold vd;grind
theorem vG{y z:Nat}(e:vd p m 5 y z=true):1<=y/\y<=m.nt/\z=0:=by
 unfold vd at e;grind
theorem zI{t i:Nat}(u:1<=t)(e:t<=m.nt)(o:i<(m.T t).fr.length):vd p m 6 t i=true:=by unfold vd;grind
theorem xQ{y z:Nat}(e:vd p m 6 y z=true):1<=y/\y<=m.nt/\z<(m.T y).fr.length:=by
 unfold vd at e;grind
theorem I2{c:Nat}(i:1<=c)(e:c<=m.nc):vd p m 7 c 0=true:=by unfold vd;grind
theorem AG{y z:Nat}(e:vd p m 7 y z=true):1<=y/\y<=m.nc/\z=0:=by
 unfold vd at e;grind
theorem K5{f:Nat}(e:f<p.nf):vd p m 9 f 0=true:=by unfold vd;grind
theorem vH{k:Nat}(e:k<4):vd p m 10 k 0=true:=by unfold vd;grind
theorem I1{y z:Nat}(e:vd p m 10 y z=true):y<4/\z=0:=by
 unfold vd at e;grind
end D
namespace D
open F
variable {e:TypeId}{g sz:Nat}{w:aa}
theorem mZ(n:Nat)(P:Nat->Value)(j:Nat):(rowP n P)[j]? = if j<n then some (P j) else none:=by
 unfold rowP;grind
theorem AX{n:Nat}{P:Nat->Value}{xs:List Value}(i:xs.length=n)(h:∀j,j<n->xs[j]? = some (P j)):xs=rowP n P:=by
 apply List.ext_getElem?
 intro j;rw[mZ];grind
def jA{n:Nat}{P Q:Nat->Value}(h:∀j,j<n->P j=Q j):rowP n P=rowP n Q:=List.map_congr_left (λj e=>h j (fI.1 e))
theorem uh{n k:Nat}{P Q:Nat->Value}{ys:List Value}(h:∀j,j<n->Q j=P j)(o:ys.length=k)(i:∀j,j<k->ys[j]? = some (Q (n+j))):rowP n P++ys=rowP (n+k) Q:=by
 have hn:(rowP n P).length=n:=by unfold rowP;simp
 refine AX eR (λj u=>?_);by_cases e:j<n
 .rw[fk ag,mZ,bf e,h j e]
 grind
theorem ux{i n c:Nat}{P:Nat->Value}(h:w.ownsRow i e sz (dA g n c) n (rowP (n*sz) P)):n<=c/\c<=maxLen/\Full w g e (c*sz) (n*sz) P:=by
 rcases h with⟨_,⟨h,_⟩|⟨g',c',o,G,_,Z,Y,W,J,H⟩⟩
 .cases h
 cases G;refine⟨Y,W,o,Z,J,λj u=>?_⟩;have y:=mZ (n*sz) P j;grind
theorem nZ{n c:Nat}{P:Nat->Value}(hn:n<=c)(u:c<=maxLen)(h:Full w g e (c*sz) (n*sz) P):w.ownsRow 0 e sz (dA g n c) n (rowP (n*sz) P):=by
 obtain⟨i,H,y,G⟩:=h;refine⟨by grind[rowP],ah ⟨g,c,i,rfl,dk _,H,hn,u,y,?_⟩⟩;refine AX ?_ (λj o=>?_)
 .simp_all
 grind
def uv{n c:Nat}{ad:Option Addr}{P:Nat->Value}(h:w.ownsRow 0 e sz (.slice ad n c) n (rowP (n*sz) P))(hn:n≠0):∃b,ad=some (ay b 0)/\n<=c/\c<=maxLen/\Full w b e (c*sz) (n*sz) P:=by
 obtain⟨b,o,e⟩:=ee h hn;injection e with i _ _;subst i;exact⟨b,rfl,ux h⟩
def Full.down{n m k:Nat}{T:TypeId}{P:Nat->Value}(h:Full w g T n m P)(y:k<=m):Full w g T n k P:=by
 obtain⟨e,u,o,i⟩:=h;exact⟨e,u,o,λj G=>i j ag⟩
variable {p:Dp}{m m':Dm}{g g':Dg}{w w':aa}
theorem dZ.at'(h:dZ p m g w){x y z:Nat}(e:vd p m x y z=true):(ok p m g x y z).ok w:=by
 have:=h.o x y z;grind[ie]
abbrev mY(m:Dm)(t:Nat):Prop:=1<=t/\t<=m.nt
section
variable (h:dZ p m g w)
include h
theorem dZ.M:Full w g.mb 112 24 24 (mE p m g):=h.at' (x:=0) (y:=0) (z:=0) rfl
def dZ.Tw:w.ownsRow 0 167 8 (je m g 1 0) m.nt (rowP (m.nt*8) (tE m g)):=h.at' (x:=1) (y:=0) (z:=0) rfl
theorem dZ.T(hn:m.nt≠0):∃b,(g.ro 1 0).1=some (ay b 0)/\m.nt<=(g.ro 1 0).2/\(g.ro 1 0).2<=maxLen/\Full w b 167 ((g.ro 1 0).2*8) (m.nt*8) (tE m g):=uv h.Tw hn
def dZ.Q:gd w 3 (je m g 2 0) (jJ m.q):=h.at' (x:=2) (y:=0) (z:=0) rfl
def dZ.E:w.ownsRow 0 48 3 (je m g 4 0) m.ev.length (mA m.ev):=h.at' (x:=4) (y:=0) (z:=0) rfl
def dZ.Cw:w.ownsRow 0 233 2 (je m g 3 0) m.nc (rowP (m.nc*2) (cE m g)):=h.at' (x:=3) (y:=0) (z:=0) rfl
theorem dZ.C(hn:m.nc≠0):∃b,(g.ro 3 0).1=some (ay b 0)/\m.nc<=(g.ro 3 0).2/\(g.ro 3 0).2<=maxLen/\Full w b 233 ((g.ro 3 0).2*2) (m.nc*2) (cE m g):=uv h.Cw hn
def dZ.Fw{t:Nat}(ht:mY m t):w.ownsRow 0 163 4 (je m g 5 t) (m.T t).fr.length (rowP ((m.T t).fr.length*4) (fE p m g t)):=h.at' (rP ht.1 ht.2)
theorem dZ.F{t:Nat}(ht:mY m t)(hn:(m.T t).fr.length≠0):∃b,(g.ro 5 t).1=some (ay b 0)/\(m.T t).fr.length<=(g.ro 5 t).2/\(g.ro 5 t).2<=maxLen/\Full w b 163 ((g.ro 5 t).2*4) ((m.T t).fr.length*4) (fE p m g t):=uv (h.Fw ht) hn
def dZ.R{t i:Nat}(ht:mY m t)(hi:i<(m.T t).fr.length):Full w (g.rb t i) 115 (p.rg (fU m t i).f*2) (p.rg (fU m t i).f*2) (eQ (fU m t i).R):=h.at' (zI ht.1 ht.2 hi)
def dZ.S{c:Nat}(i:1<=c)(e:c<=m.nc):Full w (g.sb c) 115 ((m.M c).length*2) ((m.M c).length*2) (eQ (mW (m.M c))):=h.at' (I2 i e)
def dZ.P:p.nf<=p.gc/\p.gc<=maxLen/\Full w p.gb 89 (p.gc*2) (p.nf*2) (Md p):=ux (h.at' (x:=8) (y:=0) (z:=0) rfl)
def dZ.K{f:Nat}(e:f<p.nf):p.len f<=p.cc f/\p.cc f<=maxLen/\Full w (p.cb f) 90 (p.cc f*4) (p.len f*4) (FZ p f):=ux (h.at' (K5 e))
def dZ.B{k:Nat}(e:k<4):gd w 5 (je m g 10 k) (iI (m.ft k)):=h.at' (vH e)
theorem dZ.ne{x y z x' y' z' k G:Nat}(J:vd p m x y z=true)(o:vd p m x' y' z'=true)(H:(ok p m g x y z).bs k)(u:(ok p m g x' y' z').bs G)(hn:x≠x'\/y≠y'\/z≠z'):k≠G:=λe=>by
 subst e;obtain⟨Z,Y,W⟩:=h.i x y z x' y' z' k (by grind[ie]) (by grind[ie]);omega
def dZ.mc(j:Nat)(e:j<24){v:Value}(i:mE p m g j=v):w.cell? (ay g.mb j)=some v/\w.frozen? (ay g.mb j)=false:=by
 rw[<-i];exact h.M.cells j e
end
theorem qK(m:Dm)(g:Dg){t k j:Nat}(ht:1<=t)(e:k<8)(i:j=(t-1)*8+k):tE m g j=tC (m.T t) (je m g 5 t) k:=by
 grind[tE]
theorem uR(p:Dp)(m:Dm)(g:Dg)(t:Nat){i k:Nat}(e:k<4):fE p m g t (i*4+k)=fC p (fU m t i) (g.rb t i) k:=by
 grind[fE]
structure Tc(w:aa) (tb t:Nat) (x:Dt) (fv:Value):Prop where
 c:∀k,k<8->w.cell? ⟨tb,(t-1)*8+k,none⟩=some (tC x fv k)/\w.frozen? ⟨tb,(t-1)*8+k,none⟩=false
theorem dZ.tc(h:dZ p m g w){t:Nat}(ht:mY m t):∃tb,g.ro 1 0=(some (ay tb 0),(g.ro 1 0).2)/\Full w tb 167 ((g.ro 1 0).2*8) (m.nt*8) (tE m g)/\Tc w tb t (m.T t) (je m g 5 t):=by
 obtain⟨b,o,y,u,e⟩:=h.T ag;refine⟨b,fV o rfl,e,⟨λk i=>?_⟩⟩;grind[qK,Full.cells]
end D
namespace F
variable {g:eJ}{i t:Nat}{p:dL}{s:Pl}{w:aa}
def rZ:qA:=⟨[],false,none,none,0⟩
def Pl.new(s:Pl):Pl:={ s with nt:=s.nt+1,T:=λi=>if i=s.nt+1 then rZ else s.T i,q:=λa b=>if a=5/\b=s.nt+1 then[] else s.q a b }
def eJ.new(g:eJ)(t tb xe xt:Nat):eJ:={ g with tb:=λi=>if i=t then tb else g.tb i,xe:=λi=>if i=t then xe else g.xe i,xt:=λi=>if i=t then xt else g.xt i,ro:=λa b=>if(a=5\/a=12)/\b=t then(none,0) else g.ro a b }
theorem nU(s:Pl)(h:t≠s.nt+1):s.new.T t=s.T t:=au h
def mL(s:Pl):s.new.T (s.nt+1)=rZ:=bf rfl
theorem qZ(s:Pl){a b:Nat}(h:¬(a=5/\b=s.nt+1)):s.new.q a b=s.q a b:=au h
theorem uC(s:Pl):s.new.q 5 (s.nt+1)=[]:=bf ⟨rfl,rfl⟩
def JA(s:Pl):s.new.nt=s.nt+1:=rfl
theorem nY(g:eJ){tb xe xt u:Nat}(h:u≠t):(g.new t tb xe xt).tb u=g.tb u/\(g.new t tb xe xt).xe u=g.xe u/\(g.new t tb xe xt).xt u=g.xt u:=⟨au h,au h,au h⟩
def lL(g:eJ)(t tb xe xt:Nat):(g.new t tb xe xt).tb t=tb/\(g.new t tb xe xt).xe t=xe/\(g.new t tb xe xt).xt t=xt:=⟨bf rfl,bf rfl,bf rfl⟩
theorem xl(g:eJ){tb xe xt a b:Nat}(h:¬((a=5\/a=12)/\b=t)):(g.new t tb xe xt).ro a b=g.ro a b:=au h
def E4(g:eJ){tb xe xt a:Nat}(h:a=5\/a=12):(g.new t tb xe xt).ro a t=(none,0):=bf ⟨h,rfl⟩
theorem GP(s:Pl){a b c:Nat}(Y:¬((a=5\/a=11\/a=12\/a=15\/a=16)/\b=s.nt+1/\c=0)):gY s.new a b c=gY s a b c:=by
 unfold gY;rw[JA];by_cases o:a<=1\/a=2\/a=3\/(6<=a/\a<=9)\/a=18
 .grind
 rw[au o,au o];by_cases u:a=4\/a=10
 .grind
 rw[au u,au u];by_cases i:a=5\/a=11\/a=12\/a=15\/a=16
 .rw[bf i,bf i];grind
 rw[au i,au i];by_cases H:b=s.nt+1
 .subst H;rw[mL];have G:¬(1<=s.nt+1/\s.nt+1<=s.nt/\c=0):=ag
  have y:¬(1<=s.nt+1/\s.nt+1<=s.nt/\c<(s.T (s.nt+1)).fr.length):=ag;have J:¬(1<=s.nt+1/\s.nt+1<=s.nt+1/\c<rZ.fr.length):=by
   show ¬(_/\_/\c<0);omega
  rw[eW G,eW y,eW J];have W:rZ.lf.isSome=false:=rfl;grind
 grind[nU,decide]
structure MW(s:Pl):Prop where
 a:∀x y,fN s x y->∀t,t∈s.q x y->fm s t
 b:∀t,t∈s.lv->fm s t
 c:∀t,fm s t->∀x y,(s.T t).wh=some (x,y)->fN s x y
def Dn{x y:Nat}(h:gY s x y 0=true)(hx:2<=x/\x<=5):fN s x y:=by
 by_cases i:x=2
 .exact af ⟨i,(lT h ag).1⟩
 by_cases e:x=3
 .exact ah (af ⟨e,(lT h ag).1⟩)
 by_cases o:x=4
 .exact ah (ah (af ⟨o,(zH h ag).1⟩))
 exact ah (ah (ah ⟨ag,(kj h ag).1⟩))
theorem Jx{tb xe xt:Nat}(hM:MW s){a b c:Nat}(hC:¬((a=5\/a=11\/a=12\/a=15\/a=16)/\b=s.nt+1/\c=0)):ob p s.new (g.new (s.nt+1) tb xe xt) a b c=ob p s g a b c:=by
 have i:∀{t},fm s t->t≠s.nt+1:=λh=>by have:=h.2;omega
 have u:∀{t},fm s t->(g.new (s.nt+1) tb xe xt).tb t=g.tb t:=λh=>(nY g (i h)).1;have a0:∀a b,¬((a=5\/a=12)/\b=s.nt+1)->eS s.new a b=eS s a b:=λa b e=>by
  unfold eS;by_cases G:a=12
  .grind[nU,qZ]
  rw[qZ s (λY=>e ⟨af Y.1,Y.2⟩)];simp only[au G];rfl
 have J:∀a b,¬((a=5\/a=12)/\b=s.nt+1)->sl s.new (g.new (s.nt+1) tb xe xt) a b=sl s g a b:=λa b e=>by
  grind[sl,xl]
 refine kT (GP s hC) (λH=>mK H ?_ (λ_=>⟨rfl,rfl,rfl⟩) ?_ ?_ ?_ ?_ ?_ ?_ ?_)
 .intro _;exact ky (λa b _ e5 W _=>J a b (λe=>e.1.elim e5 W)) rfl rfl
 .intro G;have o:=(kj H ag).1;have eb:=i o;refine⟨u o,?_⟩;funext j
  unfold gz;rw[J 12 b (λe=>eb e.2),J 5 b (λe=>eb e.2),nU s eb];have hw:wF p (g.new (s.nt+1) tb xe xt) (s.T b).wh=wF p g (s.T b).wh:=by
   cases hwh:(s.T b).wh with
   | none=>rfl
   | some xy=>
    obtain⟨x,y⟩:=xy;show Pt (pL p (g.new (s.nt+1) tb xe xt) x y) (ri x y)=Pt (pL p g x y) (ri x y);unfold pL;by_cases Z:x=5
    .rw[bf Z,bf Z,u (nG (hM.c b o x y hwh) Z)]
    grind
  rw[hw];rfl
 .intro G;have o:=(nA H ag).1;refine⟨rfl,?_⟩;have e1:dq s.new b c=dq s b c:=by unfold dq;rw[nU s (i o)]
  rw[e1];unfold zD xM;rw[(nY g (i o)).2.1,(nY g (i o)).2.2,u o];rfl
 .intro G;have o:=(nA H ag).1;refine⟨rfl,?_⟩;grind[dq,nU]
 .intro G;exact(nY g (i (kj H ag).1)).2.1
 .grind[kj,nY]
 .intro G;subst G;have o:=(mg H).1;refine⟨rfl,?_⟩;unfold wK;rw[nU s (i o),u o];rfl
 intro ha;have ec:=rK H ha;subst ec;have e:¬((a=5\/a=12)/\b=s.nt+1):=λe=>hC ⟨ag,e.2,rfl⟩;refine⟨xl g e,a0 a b e,?_⟩;by_cases G:2<=a/\a<=5
 .have hl:=Dn H G;rw[pr _ _ hl,pr _ _ hl,qZ s (λY=>e ⟨af Y.1,Y.2⟩)];congr 1
  exact List.map_congr_left (λt ht=>u (hM.a a b hl t ht))
 unfold gu;by_cases e6:a=6
 .simp only[bf e6];congr 1
  exact List.map_congr_left (λt ht=>u (hM.b t ht))
 by_cases W:a=12
 .subst W;have o:=(kj H ag).1;simp only[au e6];rw[nU s (i o)];rfl
 obtain⟨r1,r2,r3⟩:=ha;have:a=7\/a=8\/a=9\/a=10:=by omega
 rcases this with rfl|rfl|rfl|rfl<;>rfl
theorem AW(l:List tU)(a b:Nat)(_:fe a)(i:a=4\/a=5\/a=10\/a=12\/b=0)(h:¬(a=9/\b=0)):eS { s with ev:=l } a b=eS s a b/\gu { s with ev:=l } g a b=gu s g a b:=by
 have e:a≠9:=ag;exact⟨by unfold eS;grind,by unfold gu;grind⟩
theorem kC(a:Option Addr)(n c k:Nat):(Value.slice a n c).ownBlock=some k↔fi a=some k:=by rw[dF]
def Pl.told(s:Pl)(kind t:Nat)(x:Int):Pl:={ s with ev:=s.ev++[(kind,t,x)] }
theorem DC(kind:Nat)(x:Int)(h:dZ p s g w)(ht:fm s t)(hn:s.ev.length<=100000): eL 173 #[P0 p.eb,aj kind,P0 (g.tb t),aj x] w λw'=>∃r,Tr p s g w (s.told kind t x) (g.at 9 0 r) w':=by
 have o:gY s 9 0 0=true:=iV ag;refine du (Lh p.eb (g.tb t) kind t x (g.ro 9 0).1 s.ev.length (g.ro 9 0).2 s.ev (iH p s g) (gz p s g t) w h.E rfl (h.tk ht) rfl (h.row (x:=9) (y:=0) (by grind[fe]) o) hn) ?_;rintro w' ⟨gb,c,J,Y,W,u⟩;have G:eS (s.told kind t x) 9 0=s.ev.length+1:=by show(s.ev++[(kind,t,x)]).length=_;rw[cw];rfl
 refine⟨rfl,(some (ay gb 0),c),h.uS (j0:=43) ag o ek rfl rfl rfl rfl rfl rfl rfl (λa b c d e=>AW _ a b c d e) ?_ ?_ (W.mono (λk i _=>?_)) (λk i=>?_)⟩
 .grind
 .rw[G];exact J
 .grind[kC]
 have e:gb=k:=by injection i
 grind[kC]
def jc.set(f:jc)(a:Nat)(v:B.V):jc:={ f with R:=B.set f.R a v }
theorem Fc(h:dZ p s g w)(ht:fm s t)(hi:i<(s.T t).fr.length):g.fb t i≠g.rb t i:=by
 obtain⟨u,o,_⟩:=h.rg ht hi;exact λe=>eE o (h.fr ht hi) ek e.symm
theorem se{a:Nat}(op b c tb eb:Nat)(v:B.V)(h:dZ p s g w)(ht:fm s t)(hi:i<(s.T t).fr.length)(y:a<p.rg (dq s t i).f): eL 149 #[ed op a b c (g.fb t i) tb eb,vA v] w λw'=>Tr p s g w (s.dJ t i ((dq s t i).set a v)) g w':=by
 refine du (kH op a b c (g.fb t i) tb eb _ _ _ _ _ _ (dq s t i).R v w (h.fr ht hi) (h.rg ht hi) y) ?_;rintro w' ⟨o,u⟩;refine⟨rfl,h.Nz ht hi ?_ u (jB o (ah rfl))⟩;exact da o (h.fr ht hi) (by grind[Fc])
def N9{w':aa}{f:jc}(h:dZ p s g w)(ht:fm s t)(hi:i<(s.T t).fr.length)(e:f.f=(dq s t i).f)(u:f.bk=(dq s t i).bk)(o:Fr w' (g.fb t i) (p.cb (dq s t i).f) (p.len (dq s t i).f) f.nx (g.rb t i) (p.rg (dq s t i).f) (xM p g t i (dq s t i).bk) f.R)(y:dM (λk=>k=g.fb t i\/k=g.rb t i) w w'):Tr p s g w (s.dJ t i f) g w':=by
 refine h.Nz ht hi ?_ ?_ y
 .unfold zD;rw[e,u];exact o.1
 rw[e];exact o.2.1
def dZ.Fr(h:dZ p s g w)(ht:fm s t)(hi:i<(s.T t).fr.length):Fr w (g.fb t i) (p.cb (dq s t i).f) (p.len (dq s t i).f) (dq s t i).nx (g.rb t i) (p.rg (dq s t i).f) (xM p g t i (dq s t i).bk) (dq s t i).R:=⟨h.fr ht hi,h.rg ht hi,Fc h ht hi⟩
theorem Gv{size n:Nat}{e:TypeId}{v:Value}{xs:List Value}(h:w.ownsRow i e size v n xs):∃a c,v=.slice a n c:=by
 rcases h.2 with⟨o,y⟩|⟨g,c,u,o,_⟩
 .grind
 grind
def Pl.mX(s:Pl)(j:Nat)(v:B.V):Pl:={ s with out:=s.out.set j v,kp:=jS s.kp v }
theorem Gu(j:Nat)(v:B.V)(a b:Nat)(_:fe a)(o:a=4\/a=5\/a=10\/a=12\/b=0)(h:¬(a=8/\b=0)):eS (s.mX j v) a b=eS s a b/\(¬(a=7/\b=0)->gu (s.mX j v) g a b=gu s g a b):=by
 have e:a≠8:=ag;by_cases i:a=7
 .subst i;refine⟨?_,λh=>dp ⟨rfl,ag⟩ h⟩;show(s.out.set j v).length=s.out.length;grind
 exact⟨by unfold eS Pl.mX;grind,λ_=>by unfold gu Pl.mX;grind⟩
theorem LP{j:Nat}(v:B.V)(h:dZ p s g w)(hj:j<s.out.length)(hm:s.out.length<=1000000000)(i:s.kp.length<=1000000): eL 211 #[P0 p.eb,aj ((j:Int)+1),vA v] w λw'=>∃r,Tr p s g w (s.mX j v) (g.at 8 0 r) w':=by
 have u:gY s 7 0 0=true:=iV ag;have G:gY s 8 0 0=true:=iV ag;have h7:=h.row (x:=7) (y:=0) (by grind[fe]) u;have a0:eS s 7 0=s.out.length:=rfl;obtain⟨ob,W,Z⟩:=ee h7 ag;have o:sl s g 7 0=dA ob s.out.length W:=Z;have J:g.ro 7 0=(some (ay ob 0),W):=by
  unfold sl at o;injection o with a b c;exact fV a c
 refine(LQ p.eb ob s.out.length W j s.kp.length (g.ro 8 0).2 (g.ro 8 0).1 v s.out s.kp (iH p s g) w h.E o (by rw[<-o];exact h7) rfl (h.row (x:=8) (y:=0) (by grind[fe]) G) hj hm i (λx hx=>?_)).mono ?_
 .rw[kC]at hx;exact h.ne (x:=8) (y:=0) (z:=0) (x':=7) (y':=0) (z':=0) (by grind[gQ,fe]) (by rw[gQ p g (by grind[fe]) u,J];rfl) ag
 rintro e w' ⟨rfl,vv,k1,k2,k3,k4,H⟩;obtain⟨a',c',rfl⟩:=Gv k3;refine⟨rfl,(a',c'),h.Bw (x2:=7) (y2:=0) (j0:=31) ag G ag u ek rfl rfl rfl rfl rfl rfl rfl (λa b c d e=>Gu j v a b c d e) k1 k3 (λ_=>?_) (k4.mono (λk i _=>?_)) (λk i=>?_)⟩
 .rw[o];exact k2
 .rw[kC]at i;rw[J];rcases i with i|i|i
  .omega
  .exact ah (ah (jx i))
  grind
 grind[dF]
end F
namespace D
open F
def Dm.dx(m:Dm)(t:Nat)(x:Dt):Dm:={ m with T:=λu=>if u=t then x else m.T u }
def Dt.mz(x:Dt)(l:List jc):Dt:={ x with fr:=l }
def Dm.dJ(m:Dm)(t i:Nat)(f:jc):Dm:=m.dx t ((m.T t).mz ((m.T t).fr.set i f))
def qd(m:Dm)(t:Nat):Nat:=(m.T t).fr.length-1
def pS(m:Dm)(t:Nat):jc:=fU m t (qd m t)
def Dm.told(m:Dm)(kind t:Nat)(x:Int):Dm:={ m with ev:=m.ev++[(kind,t,x)] }
def Dm.fF(m:Dm)(l:List Nat):Dm:={ m with q:=l }
def Dm.sE(m:Dm)(t:Nat):Dm:=m.fF (m.q++[t])
def Dt.hw(x:Dt)(h:Nat):Dt:={ x with how:=h }
def Dm.vr(m:Dm)(t:Nat):Dm:=(m.dx t ((m.T t).hw 1)).sE t
def Dm.ready(m:Dm)(t:Nat)(v:B.V):Dm:=if 0<=(m.T t).into then(m.vr t).dJ t (qd m t) ((pS m t).set (m.T t).into.toNat v) else m.vr t
def Dt.wt(x:Dt)(how what:Nat)(into:Int)(k:Nat):Dt:={ x with how:=how,what:=what,into:=into,jw:=k }
def Dm.wait(m:Dm)(t how what:Nat)(into:Int):Dm:={ m.dx t ((m.T t).wt how what into (m.jw+1)) with jw:=m.jw+1 }
def Dt.end(x:Dt)(v:B.V):Dt:={ x with how:=5,fr:=[],out:=v }
def Dm.gone(m:Dm)(t kind:Nat)(x:Int)(v:B.V):Dm:=((m.dx t ((m.T t).end v)).fF (m.q.filter (λu=>decide (u≠t)))).told kind t x
def Dm.pop(m:Dm)(t:Nat):Dm:=m.dx t ((m.T t).mz (m.T t).fr.dropLast)
def Dm.push(m:Dm)(t:Nat)(f:jc):Dm:=m.dx t ((m.T t).mz ((m.T t).fr++[f]))
def Dm.born(m:Dm)(f:Nat)(u v:B.V):Dm:={ m with nt:=m.nt+1,T:=λt=>if t=m.nt+1 then⟨[⟨f,0,ig u v,(0,0,0,0)⟩],1,0,0,0,0,(0,0)⟩ else m.T t,q:=m.q++[m.nt+1] }
def Dc.born(c:Dc):Dc:={ c with all:=c.all+1,sure:=c.sure+1,nF:=c.nF+1 }
def Dm.cell(m:Dm)(ty:Nat)(l:List B.V):Dm:={ m with nc:=m.nc+1,M:=λc=>if c=m.nc+1 then l else m.M c,ck:=λc=>if c=m.nc+1 then ty else m.ck c,G:=m.G.born }
def Dm.put(m:Dm)(a i:Nat)(v:B.V):Dm:={ m with M:=λc=>if c=a then(m.M a).set i v else m.M c }
def Dm.fO(m:Dm)(k:Nat)(l:List Nat):Dm:={ m with ft:=λi=>if i=k then l else m.ft i }
def Dm.gr(m:Dm)(c:Int):Dm:={ m with clk:=c }
def Dm.iY(m:Dm)(c:Dc):Dm:={ m with G:=c }
def Dm.AO(m:Dm):Dm:={ m with sp:=true }
def Ko(m:Dm)(how what b:Nat):Prop:=
 (b=0/\∀u,mY m u->¬((m.T u).how=how/\(m.T u).what=what))\/(mY m b/\(m.T b).how=how/\(m.T b).what=what/\∀u,mY m u->(m.T u).how=how->(m.T u).what=what->(m.T b).jw<=(m.T u).jw)
def yM(x y:Dt):Prop:=x.lH<y.lH\/(x.lH=y.lH/\x.jw<=y.jw)
def Kq(m:Dm)(b:Nat):Prop:=
 (b=0/\∀u,mY m u->¬((m.T u).how=2/\(m.T u).lH<=m.clk))\/(mY m b/\(m.T b).how=2/\(m.T b).lH<=m.clk/\∀u,mY m u->(m.T u).how=2->(m.T u).lH<=m.clk->yM (m.T b) (m.T u))
def Db(P:Nat->Prop)(N:Nat):Prop:=∃l:List Nat,l.Nodup/\(∀t,t∈l↔P t)/\N=l.length
def FR(m:Dm)(N:Nat):Prop:=Db (λt=>mY m t/\(m.T t).how≠5) N
def Db.uniq{P Q:Nat->Prop}{N K:Nat}(h:Db P N)(k:Db Q K)(e:∀t,P t↔Q t):N=K:=by
 obtain⟨l,i,u,rfl⟩:=h;obtain⟨r,o,y,rfl⟩:=k;exact List.Perm.length_eq ((List.perm_ext_iff_of_nodup i o).2 (λt=>by rw[u,y,e]))
theorem gi(m:Dm)(t:Nat)(x:Dt):(m.dx t x).T t=x:=bf rfl
theorem fW(m:Dm){t u:Nat}(x:Dt)(h:u≠t):(m.dx t x).T u=m.T u:=au h
theorem jQ(m:Dm)(t:Nat)(x y:Dt):(m.dx t x).dx t y=m.dx t y:=by
 unfold Dm.dx;have:(λu=>if u=t then y else(λu=>if u=t then x else m.T u) u)=(λu=>if u=t then y else m.T u):=by
  funext u
  by_cases e:u=t
  .rw[bf e,bf e]
  rw[au e,au e];exact au e
 simp only[this]
def mQ{l:List jc}{i j:Nat}{f:jc}(hi:i<l.length):(l.set i f).getD j n6=if j=i then f else l.getD j n6:=by
 by_cases e:j=i
 .subst e;rw[bf rfl,cr,List.getElem?_set_self hi];rfl
 rw[au e,cr,List.getElem?_set_ne (λo=>e o.symm),<-cr]
end D
namespace D
open F
variable {p:Dp}{m m':Dm}{g g':Dg}{w w':aa}
theorem dZ.one(h:dZ p m g w)(a b c:Nat)(o:vd p m a b c=true)(e:∀x y z,vd p m' x y z=vd p m x y z)(H:dM (λk=>(ok p m g a b c).bs k) w w')(G:∀x y z,vd p m x y z=true->¬(x=a/\y=b/\z=c)->ok p m' g' x y z=ok p m g x y z)(Y:(ok p m' g' a b c).ok w')(W:∀k,(ok p m' g' a b c).bs k->(ok p m g a b c).bs k\/w.heap.size<=k)(J:g'.mb=g.mb:=by rfl):Tr p m g w m' g' w':=by
 refine h.to (λx y z=>x=a/\y=b/\z=c) (λ_=>(a,b,c)) (H.mono (λk i _=>⟨a,b,c,⟨rfl,rfl,rfl⟩,by grind[ie]⟩)) (λx y z Z=>kT (e x y z) (λu=>G x y z u Z)) ?_ ?_ J
 .grind[ie]
 grind[i,ie]
def dZ.yh(h:dZ p m g w)(j:Nat)(v:Value)(e:m'.nt=m.nt/\m'.T=m.T/\m'.q=m.q/\m'.ft=m.ft/\m'.nc=m.nc/\m'.M=m.M/\m'.ck=m.ck/\m'.ev=m.ev)(G:∀i,i<24->mE p m' g i=if i=j then v else mE p m g i):Tr p m g w m' g (w.setCell (ay g.mb j) v):=by
 obtain⟨a1,a2,a3,a4,a5,Z,a7,a8⟩:=m;obtain⟨b1,Y,W,b4,J,b6,b7,b8⟩:=m';simp only at e;obtain⟨rfl,rfl,rfl,rfl,rfl,rfl,rfl,rfl⟩:=e;refine h.one 0 0 0 rfl (λx y z=>rfl) (bp (S:=λk=>(ok p _ g 0 0 0).bs k) (a:=ay g.mb j) (dw _ _) (af (show g.mb=g.mb from rfl)) _) (λx y z o hn=>?_) ?_ (λk u=>af u)
 .exact ok_eq (e0:=λe=>dp e (λe=>hn ⟨e,kS o (af ag)⟩)) (hx:=l9 o)
 exact(h.M.eC j v).congr (λi hi=>by
  rw[G i hi];rfl)
theorem I6{x x':Dt}{fv:Value}{k:Nat}{v:Value}(h:∀j,j<8->tC x' fv j=if j=k then v else tC x fv j)(m:Dm)(g:Dg)(t:Nat)(G:m.T t=x)(J:je m g 5 t=fv)(ht:1<=t)(W:k<8)(o:x'.fr=x.fr)(i:Nat):tE (m.dx t x') g i=if i=(t-1)*8+k then v else tE m g i:=by
 have H:∀u,je (m.dx t x') g 5 u=je m g 5 u:=λu=>by
  unfold je;show Value.slice _ ((m.dx t x').T u).fr.length _=Value.slice _ (m.T u).fr.length _;grind[gi,fW]
 unfold tE;rw[H];by_cases e:i / 8+1=t
 .rw[e,gi,J,h (i % 8) ag,G];grind
 rw[fW _ _ e,eD]
theorem dZ.sK(h:dZ p m g w){t:Nat}(ht:mY m t){tb:Nat}(hb:g.ro 1 0=(some (ay tb 0),(g.ro 1 0).2))(k:Nat)(W:k<8)(v:Value){x':Dt}(H:x'.fr=(m.T t).fr)(hE:∀j,j<8->tC x' (je m g 5 t) j=if j=k then v else tC (m.T t) (je m g 5 t) j):Tr p m g w (m.dx t x') g (w.setCell (ay tb ((t-1)*8+k)) v):=by
 have:=ht.1;have:=ht.2;have G:∀u,((m.dx t x').T u).fr=(m.T u).fr:=λu=>by
  grind[gi,fW]
 have J:∀u i,fU (m.dx t x') u i=fU m u i:=λu i=>by grind[fU]
 obtain⟨b,o,h1,h2,h3⟩:=h.T ag;have Z:b=tb:=by rw[hb]at o;injection o with o;injection o with o _;exact o.symm
 subst Z;have Y:∀k,(ok p m g 1 0 0).bs k↔k=b:=λk=>by
  show fi (g.ro 1 0).1=some k↔k=b;rw[hb];show some b=some k↔k=b;grind
 refine h.one 1 0 0 rfl (λx y z=>Ds (m:=m) (m':=m.dx t x') rfl (λu=>by rw[G]) rfl x y z) (bp (S:=λk=>(ok p m g 1 0 0).bs k) (dw _ _) (af ((Y _).2 rfl)) _) (λx y z hv hn=>?_) ?_ (λk W=>af W)
 .have h0:x≠1:=λe=>hn ⟨e,kS hv (af ag)⟩;refine ok_eq (er:=λhr=>?_) (e6:=λ_=>?_) (hx:=l9 hv)
  .refine⟨rfl,?_,?_⟩
   .unfold sg;rw[G];rfl
   unfold rC;rw[au h0,au h0,G];have:fE p (m.dx t x') g y=fE p m g y:=by funext j;unfold fE;rw[J]
   rw[this];rfl
  grind
 show World.ownsRow _ 0 167 8 (.slice (g.ro 1 0).1 m.nt (g.ro 1 0).2) m.nt (rowP (m.nt*8) (tE (m.dx t x') g));rw[o];exact nZ h1 h2 ((h3.eC _ v).congr (λi hi=>(I6 hE m g t rfl rfl ht.1 W H i).symm))
theorem AP(m:Dm)(g:Dg)(t i:Nat)(f:jc):tE (m.dJ t i f) g=tE m g:=by
 have o:∀u,((m.dJ t i f).T u).fr.length=(m.T u).fr.length:=λu=>by
  unfold Dm.dJ;by_cases e:u=t
  .subst e;rw[gi];show((m.T u).fr.set i f).length=_;grind
  grind[fW]
 funext j
 unfold tE;have y:je (m.dJ t i f) g 5 (j / 8+1)=je m g 5 (j / 8+1):=by
  unfold je;show Value.slice _ ((m.dJ t i f).T _).fr.length _=Value.slice _ (m.T _).fr.length _;rw[o]
 rw[y];unfold Dm.dJ;by_cases e:j / 8+1=t
 .rw[e,gi];rfl
 grind[fW]
theorem lO(m:Dm)(t i:Nat)(f:jc)(u:Nat):((m.dJ t i f).T u).fr.length=(m.T u).fr.length:=by
 unfold Dm.dJ;by_cases e:u=t
 .subst e;rw[gi];show((m.T u).fr.set i f).length=_;grind
 grind[fW]
theorem nP(m:Dm){t i:Nat}(f:jc)(hi:i<(m.T t).fr.length)(u j:Nat):fU (m.dJ t i f) u j=if u=t/\j=i then f else fU m u j:=by
 unfold fU Dm.dJ;by_cases e:u=t
 .subst e;rw[gi];show((m.T u).fr.set i f).getD j n6=_;grind
 rw[fW _ _ e,au (λy=>e y.1)]
theorem dZ.Lw(h:dZ p m g w){t i:Nat}(ht:mY m t)(hi:i<(m.T t).fr.length){fb:Nat}(hb:(g.ro 5 t).1=some (ay fb 0))(k:Nat)(hk:k<4)(v:Value){f:jc}(hf:f.f=(fU m t i).f)(hR:f.R=(fU m t i).R)(hE:∀j,j<4->fC p f (g.rb t i) j=if j=k then v else fC p (fU m t i) (g.rb t i) j):Tr p m g w (m.dJ t i f) g (w.setCell (ay fb (i*4+k)) v):=by
 obtain⟨b,o,h1,h2,h3⟩:=h.F ht ag;have Y:b=fb:=by rw[hb]at o;injection o with o;injection o with o _;exact o.symm
 subst Y;have Z:∀k,(ok p m g 5 t 0).bs k↔k=b:=λk=>by
  show fi (g.ro 5 t).1=some k↔k=b;rw[hb];show some b=some k↔k=b;grind
 have G:∀u j,fE p (m.dJ t i f) g u j=if u=t/\j=i*4+k then v else fE p m g u j:=λu j=>by
  unfold fE;rw[nP m f hi];grind
 refine h.one 5 t 0 (rP ht.1 ht.2) (λx y z=>Ds (m:=m) (m':=m.dJ t i f) rfl (lO m t i f) rfl x y z) (bp (S:=λk=>(ok p m g 5 t 0).bs k) (dw _ _) (af ((Z _).2 rfl)) _) (λx y z hv hn=>?_) ?_ (λk hk=>af hk)
 .refine ok_eq (er:=λhr=>⟨rfl,?_,?_⟩) (e6:=λ_=>?_) (hx:=l9 hv)
  .unfold sg;rw[lO];rfl
  .unfold rC;rw[AP];by_cases W:x=1
   .rw[bf W,bf W];rfl
   rw[au W,au W];by_cases J:x=3
   .rw[bf J,bf J];rfl
   rw[au J,au J];by_cases H:x=4
   .rw[bf H,bf H];rfl
   rw[au H,au H,lO];have e5:x=5:=by unfold FX at hr;omega
   subst e5;exact jA (λj _=>by rw[G,au (λe=>(λe=>hn ⟨rfl,e,(vG hv).2.2⟩) e.1)])
  rw[nP m f hi];grind
 show World.ownsRow _ 0 163 4 (.slice (g.ro 5 t).1 ((m.dJ t i f).T t).fr.length (g.ro 5 t).2) ((m.dJ t i f).T t).fr.length (rowP (((m.dJ t i f).T t).fr.length*4) (fE p (m.dJ t i f) g t));rw[o,lO];exact nZ h1 h2 ((h3.eC (i*4+k) v).congr (λj hj=>by
  rw[G];show(if j=i*4+k then v else _)=_;grind))
theorem qP(R:Nat->B.V)(a:Nat)(v:B.V)(j:Nat):eQ (B.set R a v) j=eC (eC (eQ R) (a*2) (aj v.1)) (a*2+1) (aj v.2) j:=by
 unfold eC;by_cases i:j=a*2+1
 .rw[bf i];unfold eQ;rw[eD,show j / 2=a by omega,B.jN]
 rw[au i];by_cases e:j=a*2
 .rw[bf e];unfold eQ;rw[mm,show j / 2=a by omega,B.jN]
 rw[au e];grind[eQ,B.iX]
theorem dZ.se(h:dZ p m g w){t i:Nat}(ht:mY m t)(hi:i<(m.T t).fr.length)(a:Nat)(v:B.V):Tr p m g w (m.dJ t i ((fU m t i).set a v)) g ((w.setCell (ay (g.rb t i) (a*2)) (aj v.1)).setCell (ay (g.rb t i) (a*2+1)) (aj v.2)):=by
 have G:∀u,fE p (m.dJ t i ((fU m t i).set a v)) g u=fE p m g u:=λu=>by
  funext j
  unfold fE;rw[nP m _ hi];by_cases e:u=t/\j / 4=i
  .rw[bf e,e.1,e.2];rfl
  grind
 have o:∀k,(ok p m g 6 t i).bs k↔k=g.rb t i:=λk=>Iff.rfl;refine h.one 6 t i (zI ht.1 ht.2 hi) (λx y z=>Ds (m:=m) (m':=m.dJ t i ((fU m t i).set a v)) rfl (lO m t i _) rfl x y z) (bp (S:=λk=>(ok p m g 6 t i).bs k) (bp (S:=λk=>(ok p m g 6 t i).bs k) (dw _ _) (af ((o _).2 rfl)) _) (af ((o _).2 rfl)) _) (λx y z W hn=>?_) ?_ (λk J=>af J)
 .refine ok_eq (er:=λY=>⟨rfl,?_,?_⟩) (e6:=λH=>?_) (hx:=l9 W)
  .unfold sg;rw[lO];rfl
  .unfold rC;rw[AP,G,lO];rfl
  rw[nP m _ hi,au (λe=>hn ⟨H,e⟩)];grind
 show Full _ (g.rb t i) 115 (p.rg (fU (m.dJ t i ((fU m t i).set a v)) t i).f*2) (p.rg (fU (m.dJ t i ((fU m t i).set a v)) t i).f*2) (eQ (fU (m.dJ t i ((fU m t i).set a v)) t i).R);rw[nP m _ hi,bf ⟨rfl,rfl⟩];exact(((h.R ht hi).eC (a*2) _).eC (a*2+1) _).congr (λj _=>(qP _ a v j).symm)
theorem Ew{l:List B.V}{i:Nat}(hi:i<l.length)(v:B.V):mW (l.set i v)=B.set (mW l) i v:=by
 funext j
 grind[mW,B.jN,List.getElem?_set_self,B.iX,List.getElem?_set_ne]
theorem dZ.M8(h:dZ p m g w){c i:Nat}(G:1<=c)(W:c<=m.nc)(hi:i<(m.M c).length)(v:B.V):Tr p m g w (m.put c i v) g ((w.setCell (ay (g.sb c) (i*2)) (aj v.1)).setCell (ay (g.sb c) (i*2+1)) (aj v.2)):=by
 have u:∀k,((m.put c i v).M k)=if k=c then(m.M c).set i v else m.M k:=λk=>rfl
 have Y:∀k,((m.put c i v).M k).length=(m.M k).length:=λk=>by
  grind
 have o:∀k,(ok p m g 7 c 0).bs k↔k=g.sb c:=λk=>Iff.rfl;refine h.one 7 c 0 (I2 G W) (λx y z=>rfl) (bp (S:=λk=>(ok p m g 7 c 0).bs k) (bp (S:=λk=>(ok p m g 7 c 0).bs k) (dw _ _) (af ((o _).2 rfl)) _) (af ((o _).2 rfl)) _) (λx y z J hn=>?_) ?_ (λk Z=>af Z)
 .refine ok_eq (er:=λhr=>⟨rfl,rfl,?_⟩) (e7:=λH=>?_) (hx:=l9 J)
  .unfold rC;have:cE (m.put c i v) g=cE m g:=by funext j;unfold cE;rw[Y];rfl
   rw[this];rfl
  subst H;have:=AG J;grind
 show Full _ (g.sb c) 115 (((m.put c i v).M c).length*2) (((m.put c i v).M c).length*2) (eQ (mW ((m.put c i v).M c)));rw[Y,u,bf rfl,Ew hi];exact(((h.S G W).eC (i*2) _).eC (i*2+1) _).congr (λj _=>(qP _ i v j).symm)
theorem Tr.Cc{m0:Dm}{W:Dg}{w0:aa}(h0:Tr p m0 W w0 m g w)(a b:Nat)(G:vd p m a b 0=true)(ha:a≠0)(i:∀x y z,vd p m' x y z=vd p m x y z)(hO:dM (λk=>k=g.mb\/(ok p m g a b 0).bs k) w w')(Z:∀x y z,vd p m x y z=true->x≠0->¬(x=a/\y=b/\z=0)->ok p m' g' x y z=ok p m g x y z)(hM:Full w' g.mb 112 24 24 (mE p m' g'))(h2:(ok p m' g' a b 0).ok w')(h3:∀k,(ok p m' g' a b 0).bs k->(ok p m g a b 0).bs k\/(¬eH p m g k/\w0.heap.size<=k))(J:g'.mb=g.mb:=by rfl):Tr p m0 W w0 m' g' w':=by
 refine Tr.to (λx y z=>(x=0/\y=0/\z=0)\/(x=a/\y=b/\z=0)) (λ_=>(a,b,0)) h0 (hO.mono ?_) (λx y z Y=>kT (i x y z) (λu=>?_)) ?_ ?_ J
 .rintro k (rfl|o) _
  .exact⟨0,0,0,af ⟨rfl,rfl,rfl⟩,rfl⟩
  grind[ie]
 .grind[kS]
 .rintro x y z (⟨rfl,rfl,rfl⟩|⟨rfl,rfl,rfl⟩)
  .show Full w' g'.mb 112 24 24 (mE p m' g');grind
  grind[ie]
 rintro x y z k (⟨rfl,rfl,rfl⟩|⟨rfl,rfl,rfl⟩) o
 .exact af (o.trans J)
 grind[ie]
def dZ.fresh(h:dZ p m g w){k:Nat}(i:w.heap.size<=k):¬eH p m g k:=λe=>by have:=h.lt e;omega
theorem dZ.Cc(h:dZ p m g w)(a b:Nat)(H:vd p m a b 0=true)(J:a≠0)(i:∀x y z,vd p m' x y z=vd p m x y z)(G:dM (λk=>k=g.mb\/(ok p m g a b 0).bs k) w w')(u:∀x y z,vd p m x y z=true->x≠0->¬(x=a/\y=b/\z=0)->ok p m' g' x y z=ok p m g x y z)(W:Full w' g.mb 112 24 24 (mE p m' g'))(Z:(ok p m' g' a b 0).ok w')(Y:∀k,(ok p m' g' a b 0).bs k->(ok p m g a b 0).bs k\/w.heap.size<=k)(hb:g'.mb=g.mb:=by rfl):Tr p m g w m' g' w':=
 Tr.Cc (Tr.refl h) a b H J i G u W Z (λk o=>(Y k o).imp id (λe=>⟨h.fresh e,e⟩)) hb
def Dg.at(g:Dg)(x y:Nat)(r:Option Addr×Nat):Dg:={ g with ro:=λa b=>if a=x/\b=y then r else g.ro a b }
theorem wv(g:Dg)(x y:Nat)(r:Option Addr×Nat):(g.at x y r).ro x y=r:=bf ⟨rfl,rfl⟩
theorem rp(g:Dg){x y a b:Nat}(r:Option Addr×Nat)(h:¬(a=x/\b=y)):(g.at x y r).ro a b=g.ro a b:=au h
theorem pe(m:Dm)(g:Dg){x y a b:Nat}(r:Option Addr×Nat)(h:¬(a=x/\b=y)):je m (g.at x y r) a b=je m g a b:=by grind[je,rp]
theorem Ll(m:Dm)(g:Dg){x y:Nat}(r:Option Addr×Nat)(h:x≠5):tE m (g.at x y r)=tE m g:=by
 funext j
 grind[tE,pe]
def AZ(p:Dp)(m:Dm)(g:Dg){x y:Nat}(r:Option Addr×Nat)(h:x≠5)(a b:Nat):rC p m (g.at x y r) a b=rC p m g a b:=by
 unfold rC;rw[Ll m g r h];rfl
theorem Be(p:Dp)(m:Dm)(g:Dg){x y:Nat}(r:Option Addr×Nat)(J:Nat)(Z:(x=1/\y=0/\J=6)\/(x=2/\y=0/\J=7)\/(x=3/\y=0/\J=12)\/(x=4/\y=0/\J=15)\/(x=10/\y<4/\J=8+y))(i:Nat)(hi:i≠J):mE p m (g.at x y r) i=mE p m g i:=by
 unfold mE;by_cases G:i=6
 .grind[reduceIte,Nat.reduceEqDiff,pe]
 by_cases H:i=7
 .grind[reduceIte,Nat.reduceEqDiff,pe]
 by_cases e:i=12
 .grind[reduceIte,Nat.reduceEqDiff,Nat.reduceLT,pe]
 by_cases o:i=15
 .subst o;grind[reduceIte,Nat.reduceEqDiff,Nat.reduceLT,pe]
 rw[au G,au G,au H,au H,au e,au e,au o,au o];by_cases u:i<12
 .rw[bf u,bf u];grind[oU,pe]
 grind
theorem Tr.fF{m0:Dm}{H:Dg}{w0:aa}(h0:Tr p m0 H w0 m g w){l:List Nat}{r:Option Addr×Nat}(hO:dM (λk=>k=g.mb\/fi (g.ro 2 0).1=some k) w w')(hM:Full w' g.mb 112 24 24 (eC (mE p m g) 7 (.slice r.1 l.length r.2)))(Y:gd w' 3 (.slice r.1 l.length r.2) (jJ l))(hb:∀k,fi r.1=some k->fi (g.ro 2 0).1=some k\/(¬eH p m g k/\w0.heap.size<=k)):Tr p m0 H w0 (m.fF l) (g.at 2 0 r) w':=by
 refine h0.Cc 2 0 (oQ ag) ag (λ_ _ _=>rfl) hO (λx y z J Z h2=>ok_eq (e0:=λe=>dp e Z) (er:=λG=>⟨rp g _ (by grind[FX]),?_,?_⟩) (eq:=λe=>?_) (hx:=l9 J)) (hM.congr (λi hi=>?_)) ?_ (λk W=>hb k ?_)
 .unfold sg;have:x≠2:=by unfold FX at G;omega
  rw[au this,au this];rfl
 .rw[AZ _ _ _ _ ek];rfl
 .have u:x=10:=by
   rcases e with e|e
   .grind[kS,absurd]
   exact e
  subst u;exact⟨rp g _ ag,rfl,rfl⟩
 .show(if i=7 then _ else _)=_;by_cases e:i=7
  .subst e;rw[bf rfl];show _=Value.slice ((g.at 2 0 r).ro 2 0).1 l.length ((g.at 2 0 r).ro 2 0).2;rw[wv]
  rw[au e,Be p (m.fF l) g r 7 ag i e];unfold mE;rw[au e,au e];rfl
 .show gd w' 3 (.slice ((g.at 2 0 r).ro 2 0).1 l.length ((g.at 2 0 r).ro 2 0).2) (jJ l);rw[wv];exact Y
 have o:fi ((g.at 2 0 r).ro 2 0).1=some k:=W;grind[wv]
theorem Tr.sE{m0:Dm}{g0:Dg}{w0:aa}(h0:Tr p m0 g0 w0 m g w){t b off c:Nat}{J:aa}(hq:gd J 3 (.slice (some (ay b off)) (m.q.length+1) c) (jJ m.q++[jk (t:Int)]))(G:w.grownBy J (je m g 2 0).ownBlock)(u:(je m g 2 0).ownBlock=some b\/b=w.heap.size):Tr p m0 g0 w0 (m.sE t) (g.at 2 0 (some (ay b off),c)) (J.setCell (ay g.mb 7) (.slice (some (ay b off)) (m.q.length+1) c)):=by
 have h:=h0.r;have Z:(je m g 2 0).ownBlock=fi (g.ro 2 0).1:=dF _ _ _;rw[Z]at G u;have H:∀k,fi (g.ro 2 0).1=some k->k≠g.mb:=λk i=>h.ne (x:=2) (y:=0) (z:=0) (x':=0) (y':=0) (z':=0) (oQ ag) rfl i rfl ag;have hl:(m.q++[t]).length=m.q.length+1:=jx cw
 have W:b≠g.mb:=by
  rcases u with e|e
  .grind
  have:=h.M.lt;omega
 refine h0.fF (l:=m.q++[t]) (r:=(some (ay b off),c)) (bp (S:=λk=>k=g.mb\/fi (g.ro 2 0).1=some k) (a:=ay g.mb 7) ⟨G.os,G.tape,G.output,G.size,λk i hn=>G.block k i (λe=>hn (ah e.symm))⟩ (af (af rfl)) _) ?_ ?_ (λk i=>?_)
 .rw[hl];exact (h.M.block (G.block g.mb h.M.lt (λe=>H g.mb e.symm rfl))).eC 7 _
 .rw[hl,show jJ (m.q++[t])=jJ m.q++[jk (t:Int)] by grind[jJ]];grind[Below.heap_setCell,Value.ownBlock,gd.block]
 have a0:k=b:=by
  have:some b=some k:=i;injection this with this;exact this.symm
 subst a0;rcases u with e|e
 .grind
 exact ah ⟨h.fresh ag,gp h0.o.size⟩
theorem DD(kind t:Nat)(x:Int)(h:dZ p m g w)(hn:m.ev.length<=100000): eL 195 #[P0 g.mb,aj kind,aj t,aj x] w λw'=>∃g',Tr p m g w (m.told kind t x) g' w':=by
 obtain⟨i0,hi,a6,a4,a2⟩:=info_parts Tryz.Ao;obtain⟨aC,aA⟩:=h.mc 15 ag (v:=.slice (g.ro 4 0).1 m.ev.length (g.ro 4 0).2) rfl;have le:=h.M.lt;have HR:=bj h;have HE:Hid (w.ownsRow 0 48 3 (.slice (g.ro 4 0).1 m.ev.length (g.ro 4 0).2) m.ev.length (mA m.ev)):=h.E;have H:∀k,(Value.slice (g.ro 4 0).1 m.ev.length (g.ro 4 0).2).ownBlock=some k->k≠g.mb/\k<w.heap.size:=λk H=>⟨eU HE h.M ek k H,(dP HE k H).2.1⟩;have HK:=bj H;have hX:mA (m.ev++[(kind,t,x)])=mA m.ev++[aj kind,aj t,aj x]:=by unfold mA;simp
 have HX:=bj hX;delta eL;go_in;go_wp2_with (at_builtin;refine jH rfl (.tmp 12) (.tmp 17) 45 rfl 48 i0 _ 3 24 underlying45 hi a6 a4 a2 rfl ek _ _ _ _ rfl (dQ HE (λk h=>av _ _ _ (HK k h).2)) (ay w.heap.size 0) 1 1 [aj kind,aj t,aj x] rfl rfl ?c1 ?c2 ?c3 ?c4 ?c5 ?_)
 try case c1=>intro j u G;match j,G with|0,G=>(simp at G;subst G;simp[Addr.add,go_sem])|1,G=>(simp at G;subst G;simp[Addr.add,go_sem])|2,G=>(simp at G;subst G;simp[Addr.add,go_sem])
 try case c2=>simp[Value.oneCell']
 try case c3=>unfold maxLen;omega
 try case c4=>omega
 try case c5=>omega
 intro v' w6 ho Y a0;obtain⟨b,c,rfl⟩:=ee ho ag;have Z:=bj ho;have a5:=bj a0;have J:Hid (Full w6 g.mb 112 24 24 (mE p m g)):=(HR.M.block (av _ _ _ le)).block (Y.block g.mb fH (λh=>(HK _ h.symm).1 rfl));have a7:Hid (dM (λk=>k=g.mb\/(ok p m g 4 0 0).bs k) w w6):=dM.trans (S1:=λk=>(Value.slice (g.ro 4 0).1 m.ev.length (g.ro 4 0).2).ownBlock=some k) (gP (dw _ w) _) ⟨Y.os,Y.tape,Y.output,Y.size,λk H hn=>Y.block k H (λe=>hn e.symm)⟩ (λk h _=>ah (by rw[dF]at h;exact h));obtain⟨a3,a8⟩:=J.cells 15 ag;generalize mE p m g 15=a9 at a3;go_wp2
 go_end0;have hl:(m.ev++[(kind,t,x)]).length=m.ev.length+1:=jx cw
 refine⟨rfl,g.at 4 0 (some (ay b 0),c),HR.Cc 4 0 (oQ ag) ag (λ_ _ _=>rfl) (bp a7 (af (af rfl)) _) (λx y z hv h0 h4=>ok_eq (e0:=λe=>dp e h0) (er:=λhr=>?_) (eq:=λe=>by rcases e with rfl|rfl<;>exact⟨rp g _ ag,rfl,rfl⟩) (hx:=l9 hv)) ?_ ?_ ?_⟩
 .have W:¬(x=4/\y=0):=λe=>h4 ⟨e.1,e.2,(kS hv ag).2⟩;refine⟨rp g _ W,?_,?_⟩
  .unfold sg;have:x≠4:=λe=>W ⟨e,(kS hv ag).1⟩;rw[au this,au this];rfl
  rw[AZ _ _ _ _ ek];have:x≠4:=λe=>W ⟨e,(kS hv ag).1⟩;unfold rC;rw[au this,au this];rfl
 .refine(J.eC 15 _).congr (λi hi=>?_);unfold eC;by_cases e:i=15
  .subst e;rw[bf rfl];show _=Value.slice ((g.at 4 0 (some (ay b 0),c)).ro 4 0).1 (m.ev++[(kind,t,x)]).length ((g.at 4 0 (some (ay b 0),c)).ro 4 0).2;rw[wv,hl]
  rw[au e,Be p (m.told kind t x) g _ 15 ag i e];unfold mE;rw[au e,au e];rfl
 .show World.ownsRow _ 0 48 3 (.slice ((g.at 4 0 (some (ay b 0),c)).ro 4 0).1 (m.ev++[(kind,t,x)]).length ((g.at 4 0 (some (ay b 0),c)).ro 4 0).2) (m.ev++[(kind,t,x)]).length (mA (m.ev++[(kind,t,x)]));rw[wv,hl,HX.out];exact dQ Z (λk h=>ab _ _ _ _ (eU Z J ek k h))
 intro k H;have a1:fi ((g.at 4 0 (some (ay b 0),c)).ro 4 0).1=some k:=H;rw[wv]at a1;have o:some b=some k:=a1;injection o with o;subst o;rcases a5 with h1|⟨b',h1,h2⟩
 .left
  show fi (g.ro 4 0).1=some b;rw[<-dF (g.ro 4 0).1 m.ev.length (g.ro 4 0).2,<-h1];rfl
 have:b=b':=by injection h1
 right
 first|omega|(simp at h2;omega)
theorem cellS{w:aa}{b o k j:Nat}{v x:Value}(h:w.cell? (ay k j)=some x)(e:k≠b):((w.setCell (ay b o) v).drew).cell? (ay k j)=some x:=(az (a:=ay k j) (ab w (ay b o) v k e)).trans h
theorem fj{n:Nat}(h:n<1000000000):IntKind.i64.wrap ((n:Int)+1-1)=(n:Int):=by grind[IntWalk.i64_left,IntWalk.wrap64_in]
structure MA(p:Dp) (m:Dm) (g:Dg) (w:aa) (t tb fb n:Nat):Prop where
 l:(m.T t).fr.length=n+1
 a:(g.ro 5 t).1=some ⟨fb,0,none⟩
 b:g.ro 1 0=(some ⟨tb,0,none⟩,(g.ro 1 0).2)
 c6:w.cell? ⟨g.mb,6,none⟩=some (.slice (some ⟨tb,0,none⟩) m.nt (g.ro 1 0).2)
 t0:w.cell? ⟨tb,(t-1)*8,none⟩=some (.slice (some ⟨fb,0,none⟩) (n+1) (g.ro 5 t).2)
 k0:w.cell? ⟨fb,n*4,none⟩=some (jk (fU m t n).f)
 k1:w.cell? ⟨fb,n*4+1,none⟩=some (.slice (some ⟨g.rb t n,0,none⟩) (p.rg (fU m t n).f) (p.rg (fU m t n).f))
 k2:w.cell? ⟨fb,n*4+2,none⟩=some (jk (fU m t n).nx)
 k3:w.cell? ⟨fb,n*4+3,none⟩=some (jk (fU m t n).bk.2.1)
 z:∀k,k<4->w.frozen? ⟨fb,n*4+k,none⟩=false
 n1:g.mb≠fb
 n2:tb≠fb
 n3:g.mb≠tb
 lf:fb<w.heap.size
 lt:tb<w.heap.size
theorem dZ.top(h:dZ p m g w){t:Nat}(ht:mY m t)(hn:(m.T t).fr.length≠0):∃tb fb n,MA p m g w t tb fb n:=by
 obtain⟨b,H,W,Z,e⟩:=h.F ht hn;obtain⟨tb,J,o,tc⟩:=h.tc ht;obtain⟨n,u⟩:∃n,(m.T t).fr.length=n+1:=⟨(m.T t).fr.length-1,ag⟩;rw[u]at e W;have k0:=e.cell (n*4) ag;have k1:=e.cell (n*4+1) ag;have k2:=e.cell (n*4+2) ag;have y:=e.cell (n*4+3) ag;have G:=uR p m g t (i:=n) (k:=0) ag;rw[Nat.add_zero]at G;rw[G]at k0;rw[uR p m g t ag]at k1 k2 y;refine⟨tb,b,n,u,H,J,?_,?_,k0,k1,k2,y,λk Y=>(e.cells (n*4+k) ag).2,h.M.ne e ek,o.ne e ek,h.M.ne o ek,e.lt,o.lt⟩
 .rw[show some ((ay tb 0):Addr)=(g.ro 1 0).1 by rw[J]];exact(h.mc 6 ag rfl).1
 have:=(tc.c 0 ag).1;rw[Nat.add_zero]at this;rw[this];show some (Value.slice (g.ro 5 t).1 (m.T t).fr.length _)=_;rw[H,u]
theorem G3{k tb fb n:Nat}(t:MA p m g w (k+1) tb fb n)(hn:n<20)(J:k<m.nt)(hm:m.nt<1000000000)(a:Nat): eL 213 #[P0 g.mb,aj ((k:Int)+1),aj a] w λw'=>w'=(w.setCell (ay fb (n*4+2)) (jk a)).drew:=by
 obtain⟨_,_,_,y,o,_,_,k2,_,z,G,H,n3,lf,lt⟩:=t;rw[dC]at o;generalize (g.ro 1 0).2=u at *;generalize (g.ro 5 (k+1)).2=i at *;generalize (fU m (k+1) n).nx=nx at *;generalize g.mb=rb at *;generalize m.nt=nt at *;have q1:(0:Int)<=n:=ag
 have q2:(n:Int)<n+1:=ag
 have W:=fj (n:=n) ag;have q4:IntKind.i64.wrap (n:Int)=n:=iU
 have q5:=fj (n:=k) ag;have q6:IntKind.i64.wrap (k:Int)=k:=iU
 have Z:(0:Int)<=k:=ag
 have q8:(k:Int)<nt:=ag
 delta eL;go_in;go_wp2
 go_region_held3 (λw'=>dS w' rb 6=some (dA tb nt u)/\dS w' tb (k*8)=some (dA fb (n+1) i)) (first|exact⟨y,o⟩|grind[cellS]) (fail)
 go_end0;grind
def dZ.Ir(h:dZ p m g w){t tb fb n:Nat}(ht:mY m t)(T:MA p m g w t tb fb n)(a:Nat):Tr p m g w (m.dJ t n { fU m t n with nx:=a }) g (w.setCell (ay fb (n*4+2)) (jk a)):=by
 refine h.Lw ht (kr T.l) T.a 2 ag (jk a) (f:={ fU m t n with nx:=a }) rfl rfl (λj i=>?_);have e:=oU 3 j ag
 rcases e with rfl|rfl|rfl|rfl<;>rfl
def Iz{t tb fb n:Nat}(h:dZ p m g w)(ht:mY m t)(T:MA p m g w t tb fb n)(hn:n<20)(i:m.nt<1000000000)(a:Nat): eL 213 #[P0 g.mb,aj t,aj a] w λw'=>Tr p m g w (m.dJ t n { fU m t n with nx:=a }) g w':=by
 obtain⟨k,rfl⟩:∃k,t=k+1:=⟨t-1,ag⟩;refine du (G3 T hn ag i a) ?_;rintro w' rfl;exact⟨rfl,(h.Ir ht T a).kept (bo (aw _ _))⟩
end D
namespace F
variable {g:eJ}{i t u x y:Nat}{k:Nat×Nat×Nat×Nat}{l:List Nat}{p:dL}{s s':Pl}{w:aa}
theorem LW.same(h:LW s)(hn:s'.nt=s.nt)(e:s'.q=s.q)(hw:∀u,(s'.T u).wh=(s.T u).wh):LW s':=by
 refine⟨λt ht x y o=>?_,λx y i t ht=>?_,λx y i=>?_,eV hn h.d⟩
 .rw[hw]at o;have:=h.a t ((ey hn).1 ht) x y o;grind[gC]
 .rw[e]at ht;have:=h.b x y ((gC hn).1 i) t ht;grind[ey]
 rw[e];grind[gC,F.LW.c]
theorem fB(h:(s.T t).wh=none):s.dz t=s:=by grind[Pl.dz]
theorem gJ(h:(s.T t).wh=some (x,y)):s.dz t=(s.fF x y ((s.q x y).erase t)).dx t (s.T t).off:=by grind[Pl.dz]
theorem ke(s:Pl)(t:Nat):((s.dz t).T t).wh=none:=by
 cases h:(s.T t).wh with
 | none=>grind[fB]
 | some e=>rw[gJ (x:=e.1) (y:=e.2) h,di];rfl
theorem uy(s:Pl)(h:u≠t):(s.dz t).T u=s.T u:=by
 cases hw:(s.T t).wh with
 | none=>grind[fB]
 | some e=>rw[gJ (x:=e.1) (y:=e.2) hw,dR _ _ h];rfl
theorem LW.dz(h:LW s)(ht:fm s t):LW (s.dz t):=by
 cases hw:(s.T t).wh with
 | none=>grind[fB]
 | some xy=>
  obtain⟨x,y⟩:=xy;obtain⟨hl,hm,a0⟩:=h.a t ht x y hw;rw[gJ hw];have hn:((s.fF x y ((s.q x y).erase t)).dx t (s.T t).off).nt=s.nt:=rfl;refine⟨λu Z a b o=>?_,λa b J u Z=>?_,λa b J=>?_,h.d⟩
  .have e:u≠t:=λe=>by
    subst e;rw[di]at o
    cases o
   rw[dR _ _ e]at o;obtain⟨k1,k2,k3⟩:=h.a u ((ey hn).1 Z) a b o;refine⟨(gC hn).2 k1,?_,k3⟩;show u∈(s.fF x y ((s.q x y).erase t)).q a b;grind[gH,fY]
  .have G:u∈(s.fF x y ((s.q x y).erase t)).q a b:=Z;have H:=(gC hn).1 J;by_cases i:a=x/\b=y
   .obtain⟨rfl,rfl⟩:=i;rw[gH]at G;have Y:=(h.c a b hl).mem_erase_iff.1 G;rw[dR _ _ Y.1];exact h.b a b H u Y.2
   rw[fY _ _ i]at G;have hb:=h.b a b H u G;have e:u≠t:=λe=>by
    grind
   rw[dR _ _ e];exact hb
  show((s.fF x y ((s.q x y).erase t)).q a b).Nodup;grind[gC,gH,fY,F.LW.c]
def Pl.oL(s:Pl)(x y t:Nat)(l:List Nat):Pl:=(s.fF x y l).dx t ((s.T t).to x y)
def Pl.into(s:Pl)(x y t:Nat)(l:List Nat):Pl:=(s.dz t).oL x y t l
def Al(s:Pl)(x y t:Nat):s.dY x y t=s.into x y t ((s.dz t).q x y++[t]):=rfl
theorem LW.oL{s:Pl}(h:LW s){x y t:Nat}{l:List Nat}(ht:fm s t)(hw:(s.T t).wh=none)(hl:fN s x y)(a1:¬(x=5/\y=t))(hd:l.Nodup)(hm:∀u,u∈l↔(u∈s.q x y\/u=t)):LW (s.oL x y t l):=by
 have hn:(s.oL x y t l).nt=s.nt:=rfl;have hq:∀a b,¬(a=x/\b=y)->(s.oL x y t l).q a b=s.q a b:=λa b e=>fY s l e;have o:(s.oL x y t l).q x y=l:=gH s x y l;have a0:(s.oL x y t l).T t=(s.T t).to x y:=di _ _ _;have hT:∀u,u≠t->(s.oL x y t l).T u=s.T u:=λu e=>dR _ _ e;refine⟨λu Y a b i=>?_,λa b W u Y=>?_,λa b W=>?_,h.d⟩
 .by_cases e:u=t
  .subst e;rw[a0]at i;injection i with i;grind[gC]
  rw[hT u e]at i;obtain⟨k1,k2,k3⟩:=h.a u ((ey hn).1 Y) a b i;grind[gC]
 .have G:=(gC hn).1 W;by_cases H:a=x/\b=y
  .obtain⟨rfl,rfl⟩:=H;rw[o]at Y;rcases(hm u).1 Y with h1|rfl
   .have Z:=h.b a b G u h1;have e:u≠t:=λe=>by
     grind
    rw[hT u e];exact Z
   refine⟨ht,?_⟩;rw[a0];rfl
  rw[hq a b H]at Y;have Z:=h.b a b G u Y;have e:u≠t:=λe=>by
   grind
  rw[hT u e];exact Z
 grind[gC,F.LW.c]
def LW.into(h:LW s)(ht:fm s t)(G:fN s x y)(e:¬(x=5/\y=t))(i:l.Nodup)(o:∀u,u∈l↔(u∈(s.dz t).q x y\/u=t)):LW (s.into x y t l):=
 (h.dz ht).oL ((ey (gg s t)).2 ht) (ke s t) ((gC (gg s t)).2 G) e i o
def LW.out(h:LW s)(i:fN s x y)(hw:(s.T t).wh≠some (x,y)):t∉s.q x y:=λe=>hw (h.b x y i t e).2
theorem qw(h:l.Nodup)(ht:t∉l):(l++[t]).Nodup:=by
 grind
theorem LW.dY(h:LW s)(ht:fm s t)(H:fN s x y)(o:¬(x=5/\y=t)):LW (s.dY x y t):=by
 have G:=h.dz ht;have i:=(gC (gg s t)).2 H;exact h.into ht H o (qw (G.c x y i) (G.out i (by grind[ke]))) (λu=>by simp)
theorem iF(s:Pl)(x y t:Nat):(s.dY x y t).nt=s.nt:=gg s t
theorem nh(s:Pl)(h:u≠t):(s.dY x y t).T u=s.T u:=by
 rw[Al];exact(dR _ _ h).trans (uy s h)
def yQ(s:Pl)(x y t u:Nat):((s.dY x y t).T u).fr=(s.T u).fr:=by
 by_cases e:u=t
 .subst e;show(((((s.dz u).fF x y _).dx u _).T u).fr)=_;rw[di];exact kg s u u
 rw[nh s e]
def jT(s:Pl)(x y t:Nat):(s.dY x y t).T t=((s.dz t).T t).to x y:=di _ _ _
theorem yP(s:Pl)(x y t:Nat):((s.dY x y t).T t).wh=some (x,y):=by rw[jT];rfl
theorem gD(h:(s'.T t).fr=(s.T t).fr):dq s' t i=dq s t i:=by grind[dq]
def WW(p:dL)(s:Pl):Prop:=∀t,fm s t->∀x y,(s.T t).wh=some (x,y)->(x=4\/x=5)->∃k,(s.T t).lf=some k/\(s.T t).fr≠[]/\k.2.1<p.rg (dq s t ((s.T t).fr.length-1)).f
def de(s:Pl)(t:Nat):Nat:=(s.T t).fr.length-1
def Pl.gn(s:Pl)(t:Nat)(v:B.V):Pl:=match (s.T t).lf with
 | none=>s
 | some k=>(s.dJ t (de s t) ((dq s t (de s t)).set k.2.1 v)).dY 2 0 t
theorem qp(s:Pl)(f:jc)(h:u≠t):(s.dJ t i f).T u=s.T u:=dR _ _ h
theorem gI(s:Pl)(t i u:Nat)(f:jc):((s.dJ t i f).T u).wh=(s.T u).wh/\((s.dJ t i f).T u).lf=(s.T u).lf/\((s.dJ t i f).T u).run=(s.T u).run/\((s.dJ t i f).T u).iM=(s.T u).iM/\((s.dJ t i f).T u).fr.length=(s.T u).fr.length:=by
 grind[Pl.dJ,di,List.length_set,qp]
theorem LW.dJ(h:LW s)(t i:Nat)(f:jc):LW (s.dJ t i f):=h.same rfl rfl (λu=>(gI s t i u f).1)
theorem zG(s:Pl)(v:B.V)(h:u≠t):(s.gn t v).T u=s.T u:=by
 grind[Pl.gn,nh,qp]
def oq(s:Pl)(t:Nat)(v:B.V):(s.gn t v).nt=s.nt:=by
 unfold Pl.gn;split
 .rfl
 rw[iF];rfl
theorem pB(v:B.V)(h:(s.T t).lf=some k):s.gn t v=(s.dJ t (de s t) ((dq s t (de s t)).set k.2.1 v)).dY 2 0 t:=by grind[Pl.gn]
theorem LW.gn{s:Pl}(h:LW s){t:Nat}(ht:fm s t)(v:B.V):LW (s.gn t v):=by
 unfold Pl.gn;split
 .exact h
 exact(h.dJ t _ _).dY ht (af ⟨rfl,rfl⟩) ag
theorem WW.gn{p:dL}{s:Pl}(h:WW p s){t:Nat}(v:B.V)(H:(s.T t).lf≠none):WW p (s.gn t v):=by
 intro u G x y i o;by_cases e:u=t
 .grind[Pl.gn,yP]
 rw[zG s v e]at i ⊢;have:=h u ((ey (oq s t v)).1 G) x y i o;grind[gD,zG]
def Il(v:B.V)(h:dZ p s g w)(hW:LW s)(ht:fm s t)(H:(s.T t).lf=some k)(o:(s.T t).fr≠[])(Y:k.2.1<p.rg (dq s t (de s t)).f)(u:(s.T t).wh≠some (2,0)): eL 207 #[vA v,P0 (g.sx t)] w λw'=>∃r,Tr p s g w (s.gn t v) (g.at 2 0 r) w':=by
 have W:(s.T t).fr.length≠0:=λe=>o (db.1 e);have hi:de s t<(s.T t).fr.length:=by unfold de;omega
 refine KM k.1 k.2.1 k.2.2.1 k.2.2.2 (g.fb t (de s t)) (g.tb t) p.eb (g.sx t) _ _ _ _ _ _ (dq s t (de s t)).R v (λw2=>∃r,Tr p s g w (s.gn t v) (g.at 2 0 r) w2) w (h.sx ht H) (h.fr ht hi) (h.rg ht hi) Y h.E.lt ?_;intro w1 i G;have J:Tr p s g w (s.dJ t (de s t) ((dq s t (de s t)).set k.2.1 v)) g w1:=
  h.Nz ht hi (da i (h.fr ht hi) (by intro e;injection e with e;exact Fc h ht hi e)) G (jB i (ah rfl))
 refine du (vW (x:=2) (y:=0) J.r (hW.dJ _ _ _) (af ⟨rfl,rfl⟩) ht ag (by rw[(gI s t _ t _).1];exact u)) ?_;rintro w2 ⟨r,Z⟩;refine⟨rfl,r,?_⟩;rw[pB v H];exact J.trans Z
def AH(s:Pl)(g:eJ)(r:Option Addr×Nat)(h:¬(x=5/\y=t))(i:x≠12):gz p s (g.at x y r) t=gz p s g t:=by
 funext j
 unfold gz sl;rw[lG g r (a:=12) (b:=t) (λe=>i e.1.symm),lG g r (a:=5) (b:=t) (λe=>h ⟨e.1.symm,e.2.symm⟩)];rfl
def Pl.wait(s:Pl)(x y t:Nat)(k:Nat×Nat×Nat×Nat):Pl:=(s.dY x y t).dx t (((s.dY x y t).T t).lK k)
def Im(k:Nat×Nat×Nat×Nat)(h:dZ p s g w)(hW:LW s)(ht:fm s t)(Z:fN s x y)(o:¬(x=5/\y=t))(a0:(s.T t).wh=none): eL 171 #[ed k.1 k.2.1 k.2.2.1 k.2.2.2 (g.fb t (de s t)) (g.tb t) p.eb,Pt (pL p g x y) (ri x y)] w λw'=>∃g',Tr p s g w (s.wait x y t k) g' w':=by
 refine(KY k.1 k.2.1 k.2.2.1 k.2.2.2 (g.fb t (de s t)) (g.tb t) p.eb (pL p g x y) (ri x y) (gz p (s.dY x y t) g t) (λw2=>∃r,Tr p s g w (s.dY x y t) (g.at x y r) w2/\¬eH p (s.dY x y t) (g.at x y r) w.heap.size) w ?_).mono ?_
 .intro w1 i Y;refine du (vW (h.kept i) hW Z ht o (by rw[a0];intro e;cases e)) ?_;rintro w2 ⟨r,G⟩;have H:=G.r.tk (t:=t) ((ey (iF s x y t)).2 ht);rw[AH _ _ r o (by have:=oD Z;omega)]at H;have ho:=G.other Y (λhm=>by have:=h.lt hm;omega);exact⟨rfl,H,ho.1,r,G.ahead i,ho.2⟩
 rintro e w' ⟨rfl,w2,⟨r,G,W⟩,H,hb,rfl⟩;refine⟨rfl,(g.at x y r).left t w.heap.size,G.left (b:=w.heap.size) (k4:=k) ((ey (iF s x y t)).2 ht) ?_ ?_ W (bq _) (bp (S:=λk=>k=g.tb t) (dw _ _) (af rfl) _)⟩
 .rw[AH _ _ r o (by have:=oD Z;omega)];exact H.eC 4 _
 have u:((s.dY x y t).T t).fr.length=(s.T t).fr.length:=by rw[yQ]
 rw[u,ab _ _ _ _ (by
  show w.heap.size≠g.tb t;have:=(h.tk ht).lt;omega)]
 exact hb
