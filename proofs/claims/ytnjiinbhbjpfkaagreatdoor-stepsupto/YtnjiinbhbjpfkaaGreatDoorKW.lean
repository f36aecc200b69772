import Derived.Test.YtnjiinbhbjpfkaaGreatDoorKR
set_option maxRecDepth 100000
set_option maxHeartbeats 0
set_option linter.all false
namespace Go.Proofs.YtnjiinbhbjpfkaaGreatDoor
open Go.RowKit Go.Proofs.Tryz
namespace D
open F
abbrev yi:=Nat×Nat×Nat×Nat
structure Dp where
 n:Nat
 qn:Nat
 wk:Nat
 mt:Nat
 nf:Nat
 gb:Nat
 gc:Nat
 cb:Nat->Nat
 cc:Nat->Nat
 len:Nat->Nat
 rg:Nat->Nat
 ins:Nat->Nat->yi
structure Dt where
 fr:List gY
 how:Nat
 into:Int
 what:Nat
 km:Int
 ji:Nat
 out:B.V
structure Dc where
 all:Nat
 bg:Bool
 mW:Int
 sure:Nat
 lO:Nat
 fI:Int
 wi:Int
 fu:Bool
structure Dm where
 nt:Nat
 T:Nat->Dt
 q:List Nat
 jo:Nat->List Nat
 nc:Nat
 M:Nat->List B.V
 ck:Nat->Nat
 ji:Nat
 sp:Bool
 ev:List se
 eY:Int
 G:Dc
structure Dg where
 mb:Nat
 ro:Nat->Nat->Option Addr×Nat
 rb:Nat->Nat->Nat
 sb:Nat->Nat
abbrev iK(x:Int):Value:=.int .i64 x
def qz(m:Dm)(x y:Nat):Nat:=if x=1 then m.nt else if x=2 then m.q.length else if x=3 then m.nc else if x=4 then m.ev.length else if x=5 then(m.T y).fr.length else(m.jo y).length
def iR(m:Dm)(g:Dg)(x y:Nat):Value:=.slice (g.ro x y).1 (qz m x y) (g.ro x y).2
def mE(p:Dp)(m:Dm)(g:Dg)(j:Nat):Value:=
 if j=0 then .slice (some ⟨p.gb,0,none⟩) p.nf p.gc else if j=1 then iK p.n else if j=2 then iK p.qn else if j=3 then iK p.wk else if j=4 then iK p.mt else if j=5 then iK m.eY
 else if j=6 then iR m g 1 0 else if j=7 then iR m g 2 0 else if j<12 then iR m g 10 (j-8) else if j=12 then iR m g 3 0
 else if j=13 then iK m.ji else if j=14 then .bool m.sp else if j=15 then iR m g 4 0 else if j=16 then iK m.G.all else if j=17 then .bool m.G.bg else if j=18 then iK m.G.mW else if j=19 then iK m.G.sure else if j=20 then iK m.G.lO else if j=21 then iK m.G.fI else if j=22 then iK m.G.wi else .bool m.G.fu
def tC(x:Dt)(fv:Value)(k:Nat):Value:=
 if k=0 then fv else if k=1 then iK x.how else if k=2 then iK x.into else if k=3 then iK x.what else if k=4 then iK x.km else if k=5 then iK x.ji else if k=6 then iK x.out.1 else iK x.out.2
def tE(m:Dm)(g:Dg)(j:Nat):Value:=tC (m.T (j / 8+1)) (iR m g 5 (j / 8+1)) (j % 8)
def fj(m:Dm)(t i:Nat):gY:=(m.T t).fr.getD i mr
def fC(p:Dp)(f:gY)(rb:Nat)(k:Nat):Value:=
 if k=0 then iK f.f else if k=1 then .slice (some ⟨rb,0,none⟩) (p.rg f.f) (p.rg f.f) else if k=2 then iK f.nx else iK f.bk.2.1
def fE(p:Dp)(m:Dm)(g:Dg)(t j:Nat):Value:=fC p (fj m t (j / 4)) (g.rb t (j / 4)) (j % 4)
def cE(m:Dm)(g:Dg)(j:Nat):Value:=
 if j % 2=0 then .slice (some ⟨g.sb (j / 2+1),0,none⟩) (m.M (j / 2+1)).length (m.M (j / 2+1)).length else iK ((m.ck (j / 2+1):Int)-1)
def kT(l:List B.V):Nat->B.V:=λi=>l.getD i (0,0)
def rowP(n:Nat)(P:Nat->Value):List Value:=(List.range n).map P
def iI(l:List Nat):List Value:=l.map (λ(x:Nat)=>iK (x:Int))
def Ob.q(e:TypeId)(ad:Option Addr)(n c:Nat)(xs:List Value):Ob:=⟨λk=>eO ad=some k,λw=>fM w e (.slice ad n c) xs,λ_ _ h hk=>h.block (λk e=>hk k (by rw[<-dr ad n c];exact e)),λ_ k h e=>h.lt k (by rw[dr];exact e)⟩
def JC(p:Dp)(j:Nat):Value:=if j % 2=0 then iK (p.rg (j / 2)) else .slice (some ⟨p.cb (j / 2),0,none⟩) (p.len (j / 2)) (p.cc (j / 2))
def Ec(p:Dp)(f j:Nat):Value:=iK (if j % 4=0 then(p.ins f (j / 4)).1 else if j % 4=1 then(p.ins f (j / 4)).2.1 else if j % 4=2 then(p.ins f (j / 4)).2.2.1 else(p.ins f (j / 4)).2.2.2:Nat)
def vd(p:Dp)(m:Dm)(x y z:Nat):Bool:=
 if x<=4\/x=8 then decide (y=0/\z=0) else if x=5 then decide (1<=y/\y<=m.nt/\z=0) else if x=6 then decide (1<=y/\y<=m.nt/\z<(m.T y).fr.length)
 else if x=7 then decide (1<=y/\y<=m.nc/\z=0) else if x=9 then decide (y<p.nf/\z=0) else decide (x=10/\y<4/\z=0)
def Me(x:Nat):TypeId:=if x=1 then 167 else if x=3 then 233 else if x=4 then 48 else 163
def Mf(x:Nat):Nat:=if x=1 then 8 else if x=3 then 2 else if x=4 then 3 else 4
def rC(p:Dp)(m:Dm)(g:Dg)(x y:Nat):List Value:=if x=1 then rowP (m.nt*8) (tE m g) else if x=3 then rowP (m.nc*2) (cE m g) else if x=4 then kE m.ev else rowP ((m.T y).fr.length*4) (fE p m g y)
def qC(m:Dm)(x y:Nat):List Value:=if x=2 then iI m.q else Ie (m.jo y)
def ok(p:Dp)(m:Dm)(g:Dg)(x y z:Nat):Ob:=
 if x=0 then .full g.mb 112 24 (mE p m g)
 else if x=6 then .full (g.rb y z) 115 (p.rg (fj m y z).f*2) (eC (fj m y z).R)
 else if x=7 then .full (g.sb y) 115 ((m.M y).length*2) (eC (kT (m.M y)))
 else if x=8 then .row 89 2 (some ⟨p.gb,0,none⟩) p.nf p.gc (rowP (p.nf*2) (JC p))
 else if x=9 then .row 90 4 (some ⟨p.cb y,0,none⟩) (p.len y) (p.cc y) (rowP (p.len y*4) (Ec p y))
 else if x=2\/x=10 then Ob.q (if x=2 then 3 else 5) (g.ro x y).1 (qz m x y) (g.ro x y).2 (qC m x y)
 else .row (Me x) (Mf x) (g.ro x y).1 (qz m x y) (g.ro x y).2 (rC p m g x y)
def ob(p:Dp)(m:Dm)(g:Dg)(x y z:Nat):Ob:=if vd p m x y z=true then ok p m g x y z else .nil
structure dQ(p:Dp) (m:Dm) (g:Dg) (w:World):Prop where
 o:∀x y z,(ob p m g x y z).ok w
 i:∀x y z x' y' z' k,(ob p m g x y z).bs k->(ob p m g x' y' z').bs k->x=x'/\y=y'/\z=z'
def ey(p:Dp)(m:Dm)(g:Dg)(k:Nat):Prop:=∃x y z,(ob p m g x y z).bs k
structure Tr(p:Dp) (m:Dm) (g:Dg) (w:World) (m':Dm) (g':Dg) (w':World):Prop where
 r:dQ p m' g' w'
 o:dy (ey p m g) w w'
 m:∀k,ey p m' g' k->ey p m g k\/w.heap.size<=k
 b:g'.mb=g.mb
variable {p : Dp} {m m' m'' : Dm} {g g' g'' : Dg} {w w' w'' : World}
theorem dQ.lt(h:dQ p m g w){k:Nat}(e:ey p m g k):k<w.heap.size:=by
 obtain⟨x,y,z,e⟩:=e;exact(ob p m g x y z).lt w k (h.o x y z) e
theorem dQ.only(h:dQ p m g w){S:Nat->Prop}(u:dy S w w')(hS:∀k,ey p m g k->¬S k):dQ p m g w':=
 ⟨λx y z=>(ob p m g x y z).fr w w' (h.o x y z) (λk e=>u.same (h.lt ⟨x,y,z,e⟩) (hS k ⟨x,y,z,e⟩)),h.i⟩
theorem dQ.kept(h:dQ p m g w)(e:w.grownBy w' none):dQ p m g w':=h.only (S:=λ_=>False) (dU e) (λ_ _ h=>h)
theorem Tr.refl(h:dQ p m g w):Tr p m g w m g w:=⟨h,dk _ _,λ_ h=>ag h,rfl⟩
theorem Tr.trans(h:Tr p m g w m' g' w')(e:Tr p m' g' w' m'' g'' w''):Tr p m g w m'' g'' w'':=
 ⟨e.r,h.o.trans e.o (λk i y=>(h.m k i).resolve_right (by omega)),λk i=>by
  rcases e.m k i with u|u
  .exact h.m k u
  have:=h.o.size;exact ab (by omega),e.b.trans h.b⟩
theorem Tr.kept(h:Tr p m g w m' g' w')(e:w'.grownBy w'' none):Tr p m g w m' g' w'':=⟨h.r.kept e,h.o.gR e,h.m,h.b⟩
theorem Tr.ahead{w0:World}(e:w0.grownBy w none)(h:Tr p m g w m' g' w'):Tr p m g w0 m' g' w':=
 ⟨h.r,(dU e).trans h.o (λ_ h _=>h),λk i=>(h.m k i).imp id (λh=>by have:=e.size;omega),h.b⟩
theorem Tr.to{m0:Dm}{Z:Dg}{w0:World}(C:Nat->Nat->Nat->Prop)(own:Nat->Nat×Nat×Nat)(W:Tr p m0 Z w0 m g w)(hO:dy (λk=>∃x y z,C x y z/\(ob p m g x y z).bs k) w w')(h1:∀x y z,¬C x y z->ob p m' g' x y z=ob p m g x y z)(h2:∀x y z,C x y z->(ob p m' g' x y z).ok w')(h3:∀x y z k,C x y z->(ob p m' g' x y z).bs k->(ob p m g x y z).bs k\/(¬ey p m g k/\w0.heap.size<=k/\own k=(x,y,z)))(J:g'.mb=g.mb:=by rfl):Tr p m0 Z w0 m' g' w':=by
 have h:=W.r;have u:=λx y z k e=>by
  by_cases G:C x y z
  .exact h3 x y z k G e
  rw[h1 x y z G]at e;exact ag e
 refine⟨⟨λx y z=>?_,λx y z x' y' z' k e H=>?_⟩,W.o.trans hO (λk e hl=>?_),λk e=>?_,J.trans W.b⟩
 .by_cases G:C x y z
  .exact h2 x y z G
  rw[h1 x y z G];refine(ob p m g x y z).fr w w' (h.o x y z) (λk e=>hO.same (h.lt ⟨x,y,z,e⟩) ?_);rintro⟨a,b,c,hc,J⟩;obtain⟨rfl,rfl,rfl⟩:=h.i _ _ _ _ _ _ k e J;exact G hc
 .rcases u _ _ _ k e with a|⟨a,_,b⟩
  .rcases u _ _ _ k H with c|⟨c,_⟩
   .exact h.i _ _ _ _ _ _ k a c
   exact ch ⟨_,_,_,a⟩ c
  rcases u _ _ _ k H with c|⟨c,_,d⟩
  .exact ch ⟨_,_,_,c⟩ a
  rw[b]at d;injection d with d1 Y;injection Y with Y d3;exact⟨d1,Y,d3⟩
 .obtain⟨x,y,z,_,J⟩:=e;exact(W.m k ⟨x,y,z,J⟩).resolve_right (by omega)
 obtain⟨x,y,z,e⟩:=e;rcases u x y z k e with h|h
 .exact W.m k ⟨x,y,z,h⟩
 exact ab h.2.1
theorem dQ.to(C:Nat->Nat->Nat->Prop)(own:Nat->Nat×Nat×Nat)(h:dQ p m g w)(W:dy (λk=>∃x y z,C x y z/\(ob p m g x y z).bs k) w w')(G:∀x y z,¬C x y z->ob p m' g' x y z=ob p m g x y z)(u:∀x y z,C x y z->(ob p m' g' x y z).ok w')(o:∀x y z k,C x y z->(ob p m' g' x y z).bs k->(ob p m g x y z).bs k\/(w.heap.size<=k/\own k=(x,y,z)))(i:g'.mb=g.mb:=by rfl):Tr p m g w m' g' w':=
 Tr.to C own (Tr.refl h) W G u (λx y z k H e=>(o x y z k H e).imp id (λY=>⟨λJ=>by have:=h.lt J;omega,Y⟩)) i
def Ey(x:Nat):Prop:=x=1\/x=3\/x=4\/x=5
theorem ok_eq{x y z:Nat}(e0:x=0->g'.mb=g.mb/\mE p m' g'=mE p m g:=by intro e;exact⟨rfl,rfl⟩)(er:Ey x->g'.ro x y=g.ro x y/\qz m' x y=qz m x y/\rC p m' g' x y=rC p m g x y:=by intro e;exact⟨rfl,rfl,rfl⟩)(eq:x=2\/x=10->g'.ro x y=g.ro x y/\qz m' x y=qz m x y/\qC m' x y=qC m x y:=by intro e;rcases e with rfl|rfl<;>exact⟨rfl,rfl,rfl⟩)(e6:x=6->g'.rb y z=g.rb y z/\(fj m' y z).f=(fj m y z).f/\(fj m' y z).R=(fj m y z).R:=by intro e;exact⟨rfl,rfl,rfl⟩)(e7:x=7->g'.sb y=g.sb y/\m'.M y=m.M y:=by intro e;exact⟨rfl,rfl⟩)(hx:x<=10):ok p m' g' x y z=ok p m g x y z:=by
 unfold ok;by_cases G:x=0
 .rw[aj G,aj G,(e0 G).1,(e0 G).2]
 rw[aa G,aa G];by_cases o:x=6
 .rw[aj o,aj o,(e6 o).1,(e6 o).2.1,(e6 o).2.2]
 rw[aa o,aa o];by_cases u:x=7
 .rw[aj u,aj u,(e7 u).1,(e7 u).2]
 rw[aa u,aa u];by_cases J:x=8
 .rw[aj J,aj J]
 rw[aa J,aa J];by_cases H:x=9
 .rw[aj H,aj H]
 rw[aa H,aa H];by_cases i:x=2\/x=10
 .rw[aj i,aj i,(eq i).1,(eq i).2.1,(eq i).2.2]
 have W:Ey x:=by unfold Ey;omega
 rw[aa i,aa i,(er W).1,(er W).2.1,(er W).2.2]
theorem fP{x y z:Nat}(h:vd p m x y z=true):ob p m g x y z=ok p m g x y z:=by unfold ob;rw[aj h]
theorem zP{x y z:Nat}(h:¬vd p m x y z=true):ob p m g x y z=.nil:=by unfold ob;rw[aa h]
theorem kG{x y z:Nat}(h:vd p m x y z=true):x<=10:=by
 unfold vd at h;by_cases e:x<=10
 .exact e
 rw[aa (by omega),aa (by omega),aa (by omega),aa (by omega),aa (by omega)]at h;have:=dO h;omega
theorem jT{x y z:Nat}(i:vd p m' x y z=vd p m x y z)(e:vd p m x y z=true->ok p m' g' x y z=ok p m g x y z):ob p m' g' x y z=ob p m g x y z:=by
 unfold ob;rw[i];by_cases h:vd p m x y z=true
 .rw[aj h,aj h,e h]
 rw[aa h,aa h]
theorem BR(o:m'.nt=m.nt)(i:∀t,(m'.T t).fr.length=(m.T t).fr.length)(e:m'.nc=m.nc)(x y z:Nat):vd p m' x y z=vd p m x y z:=by unfold vd;rw[o,i,e]
theorem m6{x:Nat}(h:x<=4\/x=8):vd p m x 0 0=true:=by unfold vd;rw[aj h];rfl
theorem jC{x y z:Nat}(e:vd p m x y z=true)(h:x<=4\/x=8):y=0/\z=0:=by
 unfold vd at e;rw[aj h]at e;exact dO e
theorem pX{t:Nat}(i:1<=t)(e:t<=m.nt):vd p m 5 t 0=true:=by unfold vd;rw[aa (by omega),aj rfl];simp[i,e]
theorem uh{y z:Nat}(e:vd p m 5 y z=true):1<=y/\y<=m.nt/\z=0:=by
 unfold vd at e;rw[aa (by omega),aj rfl]at e;exact dO e
theorem Az{t i:Nat}(u:1<=t)(e:t<=m.nt)(o:i<(m.T t).fr.length):vd p m 6 t i=true:=by unfold vd;rw[aa (by omega),aa (by omega),aj rfl];simp[u,e,o]
theorem wv{y z:Nat}(e:vd p m 6 y z=true):1<=y/\y<=m.nt/\z<(m.T y).fr.length:=by
 unfold vd at e;rw[aa (by omega),aa (by omega),aj rfl]at e;exact dO e
theorem Gw{c:Nat}(i:1<=c)(e:c<=m.nc):vd p m 7 c 0=true:=by unfold vd;rw[aa (by omega),aa (by omega),aa (by omega),aj rfl];simp[i,e]
theorem zl{y z:Nat}(e:vd p m 7 y z=true):1<=y/\y<=m.nc/\z=0:=by
 unfold vd at e;rw[aa (by omega),aa (by omega),aa (by omega),aj rfl]at e;exact dO e
theorem IJ{f:Nat}(e:f<p.nf):vd p m 9 f 0=true:=by unfold vd;rw[aa (by omega),aa (by omega),aa (by omega),aa (by omega),aj rfl];simp[e]
end D
namespace D
open F
theorem lh(n:Nat)(P:Nat->Value)(j:Nat):(rowP n P)[j]? = if j<n then some (P j) else none:=by
 unfold rowP;by_cases h:j<n
 .rw[aj h,eo,fW h];rfl
 rw[aa h,cw (by simp;omega)]
theorem zD{n:Nat}{P:Nat->Value}{xs:List Value}(i:xs.length=n)(h:∀j,j<n->xs[j]? = some (P j)):xs=rowP n P:=by
 apply List.ext_getElem?
 intro j;rw[lh];by_cases e:j<n
 .rw[aj e,h j e]
 rw[aa e,cw (by omega)]
theorem iD{n:Nat}{P Q:Nat->Value}(h:∀j,j<n->P j=Q j):rowP n P=rowP n Q:=List.map_congr_left (λj e=>h j (eJ.1 e))
theorem sA{n k:Nat}{P Q:Nat->Value}{ys:List Value}(h:∀j,j<n->Q j=P j)(o:ys.length=k)(i:∀j,j<k->ys[j]? = some (Q (n+j))):rowP n P++ys=rowP (n+k) Q:=by
 have hn:(rowP n P).length=n:=by unfold rowP;simp
 refine zD (by rw[bo,hn,o]) (λj u=>?_);by_cases e:j<n
 .rw[du (by omega),lh,aj e,h j e]
 rw[dX (by omega),hn,i (j-n) (by omega)];congr 2;omega
theorem sU{w:World}{i n c sz g:Nat}{e:TypeId}{P:Nat->Value}(h:w.ownsRow i e sz (.slice (some ⟨g,0,none⟩) n c) n (rowP (n*sz) P)):n<=c/\c<=maxLen/\Full w g e (c*sz) (n*sz) P:=by
 rcases h with⟨_,⟨h,_⟩|⟨g',c',o,G,_,Z,Y,W,J,H⟩⟩
 .cases h
 cases G;refine⟨Y,W,o,Z,J,λj u=>?_⟩;have y:=lh (n*sz) P j;rw[aj u,<-H,dh,aj u]at y;simpa using y
theorem mn{w:World}{n c sz g:Nat}{e:TypeId}{P:Nat->Value}(hn:n<=c)(u:c<=maxLen)(h:Full w g e (c*sz) (n*sz) P):w.ownsRow 0 e sz (.slice (some ⟨g,0,none⟩) n c) n (rowP (n*sz) P):=by
 obtain⟨i,H,y,G⟩:=h;refine⟨by unfold rowP;simp,ab ⟨g,c,i,rfl,dc _,H,hn,u,y,?_⟩⟩;refine zD ?_ (λj o=>?_)
 .rw[List.length_take];have:n*sz<=c*sz:=Nat.mul_le_mul_right _ hn;simp;omega
 rw[dh,aj o];simpa using G j o
theorem sR{w:World}{n c sz:Nat}{e:TypeId}{ad:Option Addr}{P:Nat->Value}(h:w.ownsRow 0 e sz (.slice ad n c) n (rowP (n*sz) P))(hn:n≠0):∃b,ad=some ⟨b,0,none⟩/\n<=c/\c<=maxLen/\Full w b e (c*sz) (n*sz) P:=by
 obtain⟨b,o,e⟩:=dM h hn;injection e with i _ _;subst i;exact⟨b,rfl,sU h⟩
theorem Full.down{w:World}{g n m k:Nat}{T:TypeId}{P:Nat->Value}(h:Full w g T n m P)(y:k<=m):Full w g T n k P:=by
 obtain⟨e,u,o,i⟩:=h;exact⟨e,u,o,λj G=>i j (by omega)⟩
variable {p : Dp} {m m' : Dm} {g g' : Dg} {w w' : World}
theorem dQ.at'(h:dQ p m g w){x y z:Nat}(e:vd p m x y z=true):(ok p m g x y z).ok w:=by
 have:=h.o x y z;rw[fP e]at this;exact this
abbrev mF(m:Dm)(t:Nat):Prop:=1<=t/\t<=m.nt
section
variable (h : dQ p m g w)
include h
theorem dQ.M:Full w g.mb 112 24 24 (mE p m g):=h.at' (x:=0) (y:=0) (z:=0) rfl
theorem dQ.Tw:w.ownsRow 0 167 8 (iR m g 1 0) m.nt (rowP (m.nt*8) (tE m g)):=h.at' (x:=1) (y:=0) (z:=0) rfl
theorem dQ.T(hn:m.nt≠0):∃b,(g.ro 1 0).1=some ⟨b,0,none⟩/\m.nt<=(g.ro 1 0).2/\(g.ro 1 0).2<=maxLen/\Full w b 167 ((g.ro 1 0).2*8) (m.nt*8) (tE m g):=sR h.Tw hn
theorem dQ.Q:fM w 3 (iR m g 2 0) (iI m.q):=h.at' (x:=2) (y:=0) (z:=0) rfl
theorem dQ.E:w.ownsRow 0 48 3 (iR m g 4 0) m.ev.length (kE m.ev):=h.at' (x:=4) (y:=0) (z:=0) rfl
theorem dQ.Cw:w.ownsRow 0 233 2 (iR m g 3 0) m.nc (rowP (m.nc*2) (cE m g)):=h.at' (x:=3) (y:=0) (z:=0) rfl
theorem dQ.C(hn:m.nc≠0):∃b,(g.ro 3 0).1=some ⟨b,0,none⟩/\m.nc<=(g.ro 3 0).2/\(g.ro 3 0).2<=maxLen/\Full w b 233 ((g.ro 3 0).2*2) (m.nc*2) (cE m g):=sR h.Cw hn
theorem dQ.Fw{t:Nat}(ht:mF m t):w.ownsRow 0 163 4 (iR m g 5 t) (m.T t).fr.length (rowP ((m.T t).fr.length*4) (fE p m g t)):=h.at' (pX ht.1 ht.2)
theorem dQ.F{t:Nat}(ht:mF m t)(hn:(m.T t).fr.length≠0):∃b,(g.ro 5 t).1=some ⟨b,0,none⟩/\(m.T t).fr.length<=(g.ro 5 t).2/\(g.ro 5 t).2<=maxLen/\Full w b 163 ((g.ro 5 t).2*4) ((m.T t).fr.length*4) (fE p m g t):=sR (h.Fw ht) hn
theorem dQ.R{t i:Nat}(ht:mF m t)(hi:i<(m.T t).fr.length):Full w (g.rb t i) 115 (p.rg (fj m t i).f*2) (p.rg (fj m t i).f*2) (eC (fj m t i).R):=h.at' (Az ht.1 ht.2 hi)
theorem dQ.S{c:Nat}(i:1<=c)(e:c<=m.nc):Full w (g.sb c) 115 ((m.M c).length*2) ((m.M c).length*2) (eC (kT (m.M c))):=h.at' (Gw i e)
theorem dQ.P:p.nf<=p.gc/\p.gc<=maxLen/\Full w p.gb 89 (p.gc*2) (p.nf*2) (JC p):=sU (h.at' (x:=8) (y:=0) (z:=0) rfl)
theorem dQ.K{f:Nat}(e:f<p.nf):p.len f<=p.cc f/\p.cc f<=maxLen/\Full w (p.cb f) 90 (p.cc f*4) (p.len f*4) (Ec p f):=sU (h.at' (IJ e))
theorem dQ.ne{x y z x' y' z' k G:Nat}(J:vd p m x y z=true)(o:vd p m x' y' z'=true)(H:(ok p m g x y z).bs k)(u:(ok p m g x' y' z').bs G)(hn:x≠x'\/y≠y'\/z≠z'):k≠G:=λe=>by
 subst e;obtain⟨Z,Y,W⟩:=h.i x y z x' y' z' k (by rw[fP J];exact H) (by rw[fP o];exact u);omega
theorem dQ.mc(j:Nat)(e:j<24){v:Value}(i:mE p m g j=v):w.cell? ⟨g.mb,j,none⟩=some v/\w.frozen? ⟨g.mb,j,none⟩=false:=by
 rw[<-i];exact h.M.cells j e
end
theorem pc(m:Dm)(g:Dg){t k j:Nat}(ht:1<=t)(e:k<8)(i:j=(t-1)*8+k):tE m g j=tC (m.T t) (iR m g 5 t) k:=by
 unfold tE;rw[show j / 8+1=t by omega,show j % 8=k by omega]
theorem tA(p:Dp)(m:Dm)(g:Dg)(t:Nat){i k:Nat}(e:k<4):fE p m g t (i*4+k)=fC p (fj m t i) (g.rb t i) k:=by
 unfold fE;rw[show(i*4+k) / 4=i by omega,show(i*4+k) % 4=k by omega]
structure Tc(w:World) (tb t:Nat) (x:Dt) (fv:Value):Prop where
 c:∀k,k<8->w.cell? ⟨tb,(t-1)*8+k,none⟩=some (tC x fv k)/\w.frozen? ⟨tb,(t-1)*8+k,none⟩=false
theorem dQ.tc(h:dQ p m g w){t:Nat}(ht:mF m t):∃tb,g.ro 1 0=(some ⟨tb,0,none⟩,(g.ro 1 0).2)/\Full w tb 167 ((g.ro 1 0).2*8) (m.nt*8) (tE m g)/\Tc w tb t (m.T t) (iR m g 5 t):=by
 obtain⟨b,o,y,u,e⟩:=h.T (by omega);refine⟨b,fV o rfl,e,⟨λk i=>?_⟩⟩;have:=e.cells ((t-1)*8+k) (by omega);rw[pc m g ht.1 i rfl]at this;exact this
end D
section
def FL(w w':World)(ao:Option Addr)(n cap m:Nat)(v':Value):Prop:=(v'=.slice ao (n+m) cap/\w.grownBy w' (Value.slice ao n cap).ownBlock)\/∃g c,v'=.slice (some ⟨g,0,none⟩) (n+m) c/\w.heap.size<=g/\w.grownBy w' none
theorem tU{P:Program}(w:World)(t ty e:TypeId)(i:TypeInfo)(z:Value)(size bytes:Nat)(ht:P.underlying t=some (.slice e))(hi:P.info? e=some i)(hz:i.zero=some z)(y:i.size=size)(a3:i.bytes=bytes)(a1:z.cells.size=size)(a4:0<size)(ao:Option Addr)(n cap:Nat)(xs:List Value)(a0:w.ownsRow 0 e size (.slice ao n cap) n xs)(ad:Addr)(m c:Nat)(o:List Value)(hl:o.length=m*size)(H:∀j u,o[j]? = some u->w.cell? (ad.add j)=some u)(h1:∀u∈o,u.oneCell'=true)(a2:n+m<=maxLen)(G:(n+m)*bytes<=140737488355328)(hm:0<m): ∃J w',(Builtin.append_ #[t,t] ty #[.slice ao n cap,.slice (some ad) m c]).run P w=.ok J w'/\w'.ownsRow 0 e size J (n+m) (xs++o)/\FL w w' ao n cap m J:=by
 have Z:∀(J:Value) (w':World),w'.ownsRow w.heap.size e size J (n+m) (xs++o)->∃g c,J=.slice (some ⟨g,0,none⟩) (n+m) c/\w.heap.size<=g:=λJ w' h=>by
  obtain⟨g,c',rfl⟩:=dM h (by omega);exact⟨g,c',rfl,(dA h g rfl).1⟩
 rcases id a0 with⟨a7,⟨hv,h0⟩|⟨g,c',a8,hv,_,h2,h3,h4,h5,h6⟩⟩
 .injection hv with e1 e2 e3;subst e1 e2 e3;obtain rfl:xs=[]:=List.eq_nil_of_length_eq_zero (by simpa using a7);obtain⟨J,w',W,r1,r2,_⟩:=run_append_own (P:=P) w w.heap.size t ty e i z size bytes ht hi hz y a3 a1 a4 (.slice none 0 0) 0 [] (dJ w _ e size) ad m c o hl H h1 a2 G (bj _);obtain⟨g,c',rfl,hg⟩:=Z J w' r1;exact⟨_,w',W,gw r1 (dc _),ab ⟨g,c',rfl,hg,r2⟩⟩
 injection hv with e1 e2 e3;subst e1 e3;by_cases Y:n+m<=cap
 .obtain⟨J,w',hr,r1,r2,_⟩:=run_append_own (P:=P) w 0 t ty e i z size bytes ht hi hz y a3 a1 a4 _ n xs a0 ad m c o hl H h1 a2 G (dc _);refine⟨J,w',hr,r1,ag ⟨?_,r2⟩⟩;subst y;have a6:=run_append_room (P:=P) w t ty e i ht hi g n cap a8 h2 ad m c o hl H h1 Y (by rw[hl,h5,<-Nat.add_mul];exact Nat.mul_le_mul_right _ Y);rw[hr]at a6;injection a6
 have a9:∀j u,xs[j]? = some u->w.cell? ((⟨g,0,none⟩:Addr).add j)=some u:=λj u hu=>by
  have hj:j<n*size:=by
   have:=(bu.1 hu).1;omega
  rw[<-h6,dh,aj hj]at hu;have a5:w.cell? ⟨g,j,none⟩=some u:=by
   simp only[World.cell?,h2];simpa using hu
  cases j with
  | zero=>simpa[Addr.add] using a5
  | succ j=>simpa[Addr.add] using a5
 obtain⟨J,w',W,r1,r2⟩:=run_append_arg_grows (P:=P) w t ty e i z size bytes ht hi hz y a3 a1 a4 ⟨g,0,none⟩ n cap xs a7 a9 ad m c o hl H (by omega) a2 G;obtain⟨g',c',rfl,hg⟩:=Z J w' r1;exact⟨_,w',W,gw r1 (dc _),ab ⟨g',c',rfl,hg,r2⟩⟩
theorem lV{P:Program}{w:World}{ops:Array Oper}{rest:List Oper}{o:Oper}{a:Act}{Q:Exit->Act->World->Prop}(a1:o.guard=none)(s x:Operand)(t:TypeId)(ho:o.op=.call { callee:=.builtin .append,args:=#[s,x],argTypes:=#[t,t] })(e:TypeId)(i:TypeInfo)(z:Value)(size bytes:Nat)(ht:P.underlying t=some (.slice e))(hi:P.info? e=some i)(hz:i.zero=some z)(H:i.size=size)(a0:i.bytes=bytes)(a2:z.cells.size=size)(a4:0<size)(Z:Option Addr)(n cap:Nat)(xs:List Value)(hs:a.eval s=.slice Z n cap)(W:w.ownsRow 0 e size (.slice Z n cap) n xs)(ad:Addr)(m c:Nat)(y:List Value)(hx:a.eval x=.slice (some ad) m c)(hl:y.length=m*size)(J:∀j u,y[j]? = some u->w.cell? (ad.add j)=some u)(h1:∀u∈y,u.oneCell'=true)(a3:n+m<=maxLen)(G:(n+m)*bytes<=140737488355328)(hm:0<m)(h:∀Y w',w'.ownsRow 0 e size Y (n+m) (xs++y)->FL w w' Z n cap m Y->wpList P ops Q rest (a.put o.dst Y) w'):wpList P ops Q (o :: rest) a w:=by
 refine wpList_plain a1 λK hK=>?_;obtain⟨Y,w',hr,h2,h3⟩:=tU (P:=P) w t o.type e i z size bytes ht hi hz H a0 a2 a4 Z n cap xs W ad m c y hl J h1 a3 G hm;unfold Oper.wp execOp;simp only[ho,resolve,invoke,builtin,Sem.run_bind,Sem.run_pure,Result.andThen_ok,List.map_toArray,List.map_cons,List.map_nil,hs,hx,hr];exact hK _ _ (h Y w' h2 h3)
theorem wU{P:Program}(w:World)(dT sT ty u:TypeId)(g y J:Nat)(sp:Option Addr)(e Y sz:Nat)(o:Array Value)(t:TypeId)(G:List Value)(hu:P.underlying dT=some (.slice u))(hs:(P.info? u).map (·.size)=some sz)(hg:w.heap[g]? = some (.cells o t (0,0)))(a1:e<=y)(hn:G.length=e*sz)(H:sp=none->G=[])(Z:∀a,sp=some a->∀j v,G[j]? = some v->w.cell? (a.add j)=some v)(a0:G.length<=o.size)(h1:∀v∈G,v.oneCell'=true): (Builtin.copy_ #[dT,sT] ty #[.slice (some ⟨g,0,none⟩) y J,.slice sp e Y]).run P w=.ok (goInt e) (w.setRow g (G++o.toList.drop G.length).toArray):=by
 have W:=run_storeCells_at P g 0 t G 0 o w hg (by simpa using a0) h1;have hm:Nat.min e y=e:=Nat.min_eq_left a1
 cases hq:P.info? u with
 | none=>simp[hq]at hs
 | some i=>
  cases sp with
  | none=>
   have hc:=H rfl;subst hc;simp[Builtin.copy_,run_underlying hu,Builtin.lenOf,Builtin.firstCells,sizeOf,typeInfo,hq,hm,storeCells];exact(setRow_self w g o t (0,0) hg).symm
  | some a=>
   have hl:=run_loadCells_list (P:=P) w a G (Z a rfl);rw[hn]at hl;simp at W;simp[Builtin.copy_,run_underlying hu,Builtin.lenOf,Builtin.firstCells,sizeOf,typeInfo,hq,(by simpa[hq] using hs),hm,hl,W]
theorem sf{P:Program}{w:World}{ops:Array Oper}{rest:List Oper}{o:Oper}{a:Act}{Q:Exit->Act->World->Prop}(a1:o.guard=none)(d s:Operand)(dT sT:TypeId)(ho:o.op=.call { callee:=.builtin .copy,args:=#[d,s],argTypes:=#[dT,sT] })(i:TypeId)(sz:Nat)(hu:P.underlying dT=some (.slice i))(a2:(P.info? i).map (·.size)=some sz)(g u G e J:Nat)(sp:Option Addr)(hd:a.eval d=.slice (some ⟨g,0,none⟩) u G)(hs:a.eval s=.slice sp e J)(y:Array Value)(t:TypeId)(hg:w.heap[g]? = some (.cells y t (0,0)))(H:List Value)(a3:e<=u)(hn:H.length=e*sz)(W:sp=none->H=[])(Z:∀a,sp=some a->∀j v,H[j]? = some v->w.cell? (a.add j)=some v)(a0:H.length<=y.size)(h1:∀v∈H,v.oneCell'=true)(h:wpList P ops Q rest (a.put o.dst (goInt e)) (w.setRow g (H++y.toList.drop H.length).toArray)):wpList P ops Q (o :: rest) a w:=by
 refine wpList_plain a1 λK hK=>?_;unfold Oper.wp;simp[execOp,ho,resolve,invoke,builtin,hd,hs,wU (P:=P) w dT sT o.type i g u G sp e J sz y t H hu a2 hg a3 hn W Z a0 h1,Result.andThen];exact hK _ _ h
namespace F
abbrev Sl:=Option Addr×Nat×Nat
def oL(x:Sl):Value:=.slice x.1 x.2.1 x.2.2
def mG(N:Int)(j:Nat):Value:=.int .i64 (if j % 3=0 then N else 0)
def qE(N:Int)(_:Nat):Value:=.int .i64 N
def Rd(w:World)(T:TypeId)(sz:Nat)(P:Nat->Value)(x:Sl):Prop:=w.ownsRow 0 T sz (oL x) x.2.1 (D.rowP (x.2.1*sz) P)
theorem Rd.fr{w w':World}{T:TypeId}{sz:Nat}{P:Nat->Value}{x:Sl}(h:Rd w T sz P x)(i:∀k,eO x.1=some k->w'.heap[k]? = w.heap[k]?):Rd w' T sz P x:=dD h (λk e=>i k (by rw[<-dr x.1 x.2.1 x.2.2];exact e))
theorem Rd.lt{w:World}{T:TypeId}{sz:Nat}{P:Nat->Value}{x:Sl}(h:Rd w T sz P x){k:Nat}(i:eO x.1=some k):k<w.heap.size/\∃e,w.heap[k]? = some (.cells e T (0,0)):=(dA h k (by unfold oL;rw[dr];exact i)).2
def gQ(E:List (Sl×Int)):List Value:=E.flatMap (λx=>[oL x.1,.int .i64 x.2])
def wm(n:Nat)(a b:Value)(j:Nat):Value:=if j=0 then .int .i64 (n:Int) else if j=1 then a else if j=2 then b else .int .i64 0
end F
end
namespace F
open D
theorem Tryz.Fg:(prog.info? 119).map (λi=>(i.zero,i.size,i.bytes))=some (some (.agg #[.slice none 0 0,.int .i64 0]),2,32):=by kernel_rfl
theorem Tryz.Ff:(prog.info? 121).map (λi=>(i.zero,i.size,i.bytes))=some (some (.agg #[.slice none 0 0,.int .i64 0]),2,32):=by kernel_rfl
theorem Tryz.Hq:(prog.info? 3).map (λi=>(i.zero,i.size,i.bytes))=some (some (.int .i64 0),1,8):=by kernel_rfl
theorem Tryz.tS:prog.underlying 54=some (.slice 3):=by kernel_rfl
theorem Tryz.underlying78:prog.underlying 78=some (.slice 119):=by kernel_rfl
theorem Tryz.underlying79:prog.underlying 79=some (.slice 121):=by kernel_rfl
section
variable {w w' : World} {T : TypeId} {sz : Nat} {P : Nat → Value}
theorem kH(n:Nat)(P:Nat->Value):(rowP n P).length=n:=by unfold rowP;simp
theorem lh{n j:Nat}(P:Nat->Value)(h:j<n):(rowP n P)[j]? = some (P j):=by unfold rowP;simp[h]
theorem rd_mk{g n c:Nat}(u:jB w g T (c*sz))(hn:n<=c)(y:c<=maxLen)(hx:∀j,j<n*sz->w.cell? ⟨g,j,none⟩=some (P j)):Rd w T sz P (some ⟨g,0,none⟩,n,c):=by
 obtain⟨e,o,G⟩:=u;refine⟨kH _ _,ab ⟨g,c,e,rfl,dc _,o,hn,y,G,?_⟩⟩;apply List.ext_getElem?
 intro j;show(e.toList.take (n*sz))[j]? = (rowP (n*sz) P)[j]?;by_cases i:j<n*sz
 .rw[lh P i,dh,aj i];have:=hx j i;simp only[World.cell?,o]at this;simpa using this
 rw[cw (by simp;omega),cw (by rw[kH];omega)]
theorem zE{g n c j:Nat}(h:Rd w T sz P (some ⟨g,0,none⟩,n,c))(G:j<n*sz):w.cell? ⟨g,j,none⟩=some (P j):=by
 rcases h.2 with⟨o,_⟩|⟨g',Y,u,o,_,W,_,_,Z,J⟩
 .cases o
 have e:oL (some ⟨g,0,none⟩,n,c)=.slice (some ⟨g,0,none⟩) n c:=rfl;rw[e]at o;injection o with i _ _;injection i with i;injection i with i;subst i;have H:=lh (n:=n*sz) P G;rw[<-J,dh,aj G]at H;simp only[World.cell?,W];simpa using H
theorem EB{ad:Option Addr}{n c:Nat}{xs:List Value}(h:w.ownsRow 0 T sz (.slice ad n c) n xs)(hn:n≠0):∃g,ad=some ⟨g,0,none⟩/\jB w g T (c*sz)/\n<=c/\c<=maxLen:=by
 rcases h.2 with⟨_,i⟩|⟨g,W,e,i,_,y,u,o,J,_⟩
 .exact ch i hn
 injection i with H _ G;subst G;exact⟨g,H,⟨e,y,J⟩,u,o⟩
theorem vh{x:Sl}(h:Rd w T sz P x){k:Nat}(i:eO x.1=some k):x.1=some ⟨k,0,none⟩/\jB w k T (x.2.2*sz)/\x.2.1<=x.2.2/\x.2.2<=maxLen:=by
 rcases h.2 with⟨o,_⟩|⟨g,H,u,o,_,Y,W,J,h5,_⟩
 .have:x.1=none:=by unfold oL at o;injection o
  rw[this]at i;cases i
 have y:Value.slice x.1 x.2.1 x.2.2=.slice (some ⟨g,0,none⟩) x.2.1 H:=o;injection y with G _ Z;rw[G]at i;have e:g=k:=by injection i
 subst e;rw[Z];exact⟨G,⟨u,Y,h5⟩,W,J⟩
theorem GV{x y:Sl}(h:Rd w T sz P y)(hx:Rd w T sz P x){k:Nat}(W:eO y.1=some k)(o:eO x.1=some k)(hs:sz≠0)(a0:y.2.1<=x.2.1){n:Nat}(hn:x.2.1<=n)(u:Rd w' T sz P (x.1,n,x.2.2)):Rd w' T sz P y:=by
 obtain⟨J,⟨c1,a2,a3⟩,a4,_⟩:=vh h W;obtain⟨b1,⟨c2,i,G⟩,_,_⟩:=vh hx o;rw[a2]at i;injection i with i;injection i with i _ _;have H:y.2.2=x.2.2:=by
  rw[<-i,a3]at G;exact Nat.eq_of_mul_eq_mul_right (by omega) G
 obtain⟨_,d2,_,Z⟩:=vh (x:=(x.1,n,x.2.2)) u (k:=k) (by exact o);have e:y=(some ⟨k,0,none⟩,y.2.1,x.2.2):=by
  obtain⟨y1,y2,y3⟩:=y;simp only at J H ⊢;rw[J,H]
 rw[e];rw[b1]at u;exact rd_mk d2 (by omega) Z (λj Y=>zE u (dm Y (Nat.mul_le_mul_right _ (by omega))))
end
def wo(w:World)(T:TypeId)(sz:Nat)(P:Nat->Value)(l:Sl)(j:Nat):Prop:=(l.2.1=0/\Rd w T sz P l)\/∃g,l.1=some ⟨g,0,none⟩/\l.2.1<=l.2.2/\l.2.2<=maxLen/\Full w g T (l.2.2*sz) (j*sz) P
theorem wo.all{w:World}{T:TypeId}{sz:Nat}{P:Nat->Value}{l:Sl}(h:wo w T sz P l l.2.1):Rd w T sz P l:=by
 rcases h with⟨_,h⟩|⟨g,y,H,G,u⟩
 .exact h
 have e:l=(some ⟨g,0,none⟩,l.2.1,l.2.2):=by rw[<-y]
 rw[e];obtain⟨o,k1,k2,J⟩:=id u;exact rd_mk ⟨o,k1,k2⟩ H G (λi hi=>u.cell i hi)
theorem wo.Ki{w:World}{T:TypeId}{sz:Nat}{P:Nat->Value}{l:Sl}{xs:List Value}(h:w.ownsRow 0 T sz (oL l) l.2.1 xs):wo w T sz P l 0:=by
 by_cases e:l.2.1=0
 .refine ag ⟨e,?_⟩;have G:xs=rowP (l.2.1*sz) P:=by
   have:=h.1;rw[e,Nat.zero_mul]at this ⊢;rw[List.eq_nil_of_length_eq_zero this];rfl
  unfold Rd;rw[<-G];exact h
 obtain⟨g,y,u,o,i⟩:=EB h e;refine ab ⟨g,y,o,i,?_⟩;rw[Nat.zero_mul];exact u.full P
theorem wo.place{w:World}{T:TypeId}{sz j:Nat}{P:Nat->Value}{l:Sl}(h:wo w T sz P l j)(o:j<l.2.1):∃g,l.1=some ⟨g,0,none⟩/\jB w g T (l.2.2*sz)/\j<l.2.2:=by
 rcases h with⟨i,h⟩|⟨g,i,y,u,e,k1,k2,_⟩
 .omega
 exact⟨g,i,⟨e,k1,k2⟩,by omega⟩
theorem Ih{T':TypeId}{bk f m ce g c:Nat}{ae:Option Addr}{x:Sl}{N:Int}{L:List Value}{Ev:Nat->Value}{o:Obj}{wr i:World}(Y:(81:TypeId)≠T')(hf:f<3)(G:Full wr bk 81 3 3 Ev)(hR:wr.ownsRow 0 T' 2 (.slice ae m ce) m L)(Z:i.ownsRow 0 T' 2 (.slice (some ⟨g,0,none⟩) (m+1) c) (m+1) (L++[oL x,.int .i64 N]))(u:(wr.alloc o).grownBy i (Value.slice ae m ce).ownBlock)(hm:(Value.slice ae m ce).ownBlock=some g\/wr.heap.size<=g): Full (i.setCell ⟨bk,f,none⟩ (.slice (some ⟨g,0,none⟩) (m+1) c)) bk 81 3 3 (ep Ev f (.slice (some ⟨g,0,none⟩) (m+1) c))/\(i.setCell ⟨bk,f,none⟩ (.slice (some ⟨g,0,none⟩) (m+1) c)).ownsRow 0 T' 2 (.slice (some ⟨g,0,none⟩) (m+1) c) (m+1) (L++[oL x,.int .i64 N])/\dy (λk=>k=bk\/eO ae=some k) wr (i.setCell ⟨bk,f,none⟩ (.slice (some ⟨g,0,none⟩) (m+1) c)):=by
 have H:=G.lt;have W:Full i bk 81 3 3 Ev:=(G.block (ak _ _ _ H)).block (u.block bk (by simp;omega) (λe=>(λk y=>eL hR G Y k y) bk e.symm rfl));refine⟨W.ep f _,dD Z (λk y=>af _ _ _ _ (eL Z W Y k y)),bm ?_ (ag (ag rfl)) _⟩;refine dy.trans (S1:=λk=>eO ae=some k) (gF (dk _ wr) _) ⟨u.os,u.tape,u.output,u.size,λk y J=>u.block k y (λe=>J (by rw[<-dr ae m ce];exact e.symm))⟩ (λk h _=>ab h)
structure ue(w:World) (T' T:TypeId) (sz f:Nat) (P:Nat->Value) (bk:Nat) (Ev:Nat->Value) (L0:List Value) (m0:Nat) (ae0:Option Addr) (l:Sl) (N:Int) (Q:List Sl) (x:Sl) (ae:Option Addr) (ce:Nat) (wr:World):Prop where
 f:Full wr bk 81 3 3 (ep Ev f (.slice ae (m0+Q.length) ce))
 r:wr.ownsRow 0 T' 2 (.slice ae (m0+Q.length) ce) (m0+Q.length) (L0++gQ (Q.map (λy=>(y,N))))
 q:∀y,y∈Q->Rd wr T sz P y/\y.2.1<=x.2.1/\∀k,eO y.1=some k->eO l.1=some k\/w.heap.size<=k
 x:Rd wr T sz P x/\∀k,eO x.1=some k->eO l.1=some k\/w.heap.size<=k
 o:dy (λk=>k=bk\/eO ae0=some k\/eO l.1=some k) w wr
 a:∀k,eO ae=some k->eO ae0=some k\/w.heap.size<=k
section
variable {w : World} {T' T : TypeId} {sz f : Nat} {P : Nat → Value} {bk : Nat} {Ev : Nat → Value} {L0 : List Value} {m0 : Nat} {ae0 : Option Addr} {l : Sl} {N : Int} {Q : List Sl} {x : Sl} {ae : Option Addr} {ce : Nat} {wr : World}
theorem Bo(Q:List Sl)(x:Sl)(N:Int):gQ ((Q++[x]).map (λy=>(y,N)))=gQ (Q.map (λy=>(y,N)))++[oL x,.int .i64 N]:=by unfold gQ;simp
theorem ue.line{o:Obj}{Y:World}{g c:Nat}(h:ue w T' T sz f P bk Ev L0 m0 ae0 l N Q x ae ce wr)(a1:(81:TypeId)≠T')(Z:T≠T')(a0:(81:TypeId)≠T)(hf:f<3)(ho:Y.ownsRow 0 T' 2 (.slice (some ⟨g,0,none⟩) (m0+Q.length+1) c) (m0+Q.length+1) (L0++gQ (Q.map (λy=>(y,N)))++[oL x,.int .i64 N]))(hg:(wr.alloc o).grownBy Y (Value.slice ae (m0+Q.length) ce).ownBlock)(W:(Value.slice ae (m0+Q.length) ce).ownBlock=some g\/wr.heap.size<=g): ue w T' T sz f P bk Ev L0 m0 ae0 l N (Q++[x]) x (some ⟨g,0,none⟩) c (Y.setCell ⟨bk,f,none⟩ (.slice (some ⟨g,0,none⟩) (m0+Q.length+1) c)):=by
 obtain⟨h1,h2,h3⟩:=Ih a1 hf h.f h.r ho hg W;have a3:=h.o.size;have J:∀y,Rd wr T sz P y->Rd (Y.setCell ⟨bk,f,none⟩ (.slice (some ⟨g,0,none⟩) (m0+Q.length+1) c)) T sz P y:=λy G=>G.fr (λk u=>h3.same (G.lt u).1 (λhs=>by
  obtain⟨a2,i⟩:=(G.lt u).2;rcases hs with rfl|hs
  .obtain⟨c2,H,_⟩:=h.f;rw[H]at i;injection i with i;injection i with _ i _;exact a0 i
  obtain⟨_,_,c2,H⟩:=dA h.r k (by rw[dr];exact hs);rw[H]at i;injection i with i;injection i with _ i _;exact Z i.symm))
 have hl:m0+(Q++[x]).length=m0+Q.length+1:=by rw[bo];rfl
 refine⟨?_,?_,λy G=>?_,⟨J x h.x.1,h.x.2⟩,h.o.trans h3 (λk u hl=>?_),λk u=>?_⟩
 .rw[hl];refine h1.congr (λj hj=>?_);unfold ep;by_cases e:j=f
  .rw[aj e,aj e]
  rw[aa e,aa e,aa e]
 .rw[hl,Bo,<-dY];exact h2
 .rcases di.1 G with G|G
  .exact⟨J y (h.q y G).1,(h.q y G).2⟩
  have e:=dL.1 G;rw[e];exact⟨J x h.x.1,bj _,h.x.2⟩
 .rcases u with u|u
  .exact ag u
  rcases h.a k u with h4|h4
  .exact ab (ag h4)
  omega
 have e:g=k:=by injection u
 subst e;rcases W with W|W
 .exact h.a g (by rw[<-dr ae (m0+Q.length) ce];exact W)
 right;omega
theorem ue.more{o:Obj}{J:World}{v':Value}{Y:List Value}(h:ue w T' T sz f P bk Ev L0 m0 ae0 l N Q x ae ce wr)(aC:(81:TypeId)≠T')(a4:T≠T')(a5:(81:TypeId)≠T)(hs:sz≠0)(a2:rowP (x.2.1*sz) P++Y=rowP ((x.2.1+1)*sz) P)(ho:J.ownsRow 0 T sz v' (x.2.1+1) (rowP (x.2.1*sz) P++Y))(G:FL (wr.alloc o) J x.1 x.2.1 x.2.2 1 v'): ∃H:Sl,v'=oL H/\H.2.1=x.2.1+1/\(∀k,eO H.1=some k->eO x.1=some k\/wr.heap.size<k)/\ue w T' T sz f P bk Ev L0 m0 ae0 l N Q H ae ce J:=by
 rw[a2]at ho;have aB:=h.o.size;have a3:∀k,eO x.1=some k->k≠bk/\eO ae≠some k:=λk i=>by
  obtain⟨aA,u⟩:=(h.x.1.lt i).2;refine⟨λe=>?_,λe=>?_⟩
  .obtain⟨c2,a1,_⟩:=h.f;rw[e,a1]at u;injection u with u;injection u with _ u _;exact a5 u
  obtain⟨_,_,c2,a1⟩:=dA h.r k (by rw[dr];exact e);rw[a1]at u;injection u with u;injection u with _ u _;exact a4 u.symm
 have a0:∀H:Sl,v'=oL H->H.2.1=x.2.1+1->(∀k,eO H.1=some k->eO x.1=some k\/wr.heap.size<k)->dy (λk=>eO x.1=some k) wr J->(∀y,y∈Q->Rd J T sz P y)->ue w T' T sz f P bk Ev L0 m0 ae0 l N Q H ae ce J:=by
  intro H e1 e2 e3 Z hq;have a9:Rd J T sz P H:=by
   unfold Rd;rw[<-e1,e2];exact ho
  refine⟨h.f.block (Z.same h.f.lt (λe=>(a3 _ e).1 rfl)),dD h.r (λk i=>Z.same (dA h.r k i).2.1 (λe=>(a3 k e).2 (by rw[<-dr ae (m0+Q.length) ce];exact i))),λy W=>⟨hq y W,?_,(h.q y W).2.2⟩,⟨a9,λk i=>?_⟩,h.o.trans Z (λk i hl=>?_),h.a⟩
  .have:=(h.q y W).2.1;omega
  .rcases e3 k i with h4|h4
   .exact h.x.2 k h4
   right;omega
  rcases h.x.2 k i with h4|h4
  .exact ab (ab h4)
  omega
 rcases G with⟨rfl,G⟩|⟨g,c,rfl,a7,G⟩
 .rw[dr]at G;have Z:=dy.trans (S1:=λk=>eO x.1=some k) (gF (dk _ wr) _) ⟨G.os,G.tape,G.output,G.size,λk i a6=>G.block k i (λe=>a6 e.symm)⟩ (λk h _=>h);refine⟨(x.1,x.2.1+1,x.2.2),rfl,rfl,λk i=>ag i,a0 (x.1,x.2.1+1,x.2.2) rfl rfl (λk i=>ag i) Z (λy W=>?_)⟩;obtain⟨y1,y2,y3⟩:=h.q y W;by_cases u:∃k,eO y.1=some k/\eO x.1=some k
  .obtain⟨k,k1,k2⟩:=u;exact GV y1 h.x.1 k1 k2 hs y2 (Nat.le_succ _) ho
  exact y1.fr (λk i=>Z.same (y1.lt i).1 (λe=>u ⟨k,i,e⟩))
 have Z:dy (λk=>eO x.1=some k) wr J:=dy.trans (S1:=λ_=>False) (gF (dk _ wr) _) (dU G) (λk h _=>h.elim);have a8:dy (λ_=>False) wr J:=dy.trans (S1:=λ_=>False) (gF (dk _ wr) _) (dU G) (λk h _=>h.elim);have hz:wr.heap.size<g:=by simp at a7;omega
 have e3:∀k,eO (some (⟨g,0,none⟩:Addr))=some k->eO x.1=some k\/wr.heap.size<k:=λk i=>by
  have e:g=k:=by injection i
  right;omega
 exact⟨(some ⟨g,0,none⟩,x.2.1+1,c),rfl,rfl,e3,a0 (some ⟨g,0,none⟩,x.2.1+1,c) rfl rfl e3 Z (λy W=>(h.q y W).1.fr (λk i=>a8.same ((h.q y W).1.lt i).1 (λe=>e)))⟩
end
structure uf(w:World) (T' T:TypeId) (sz:Nat) (P:Nat->Value) (bk:Nat) (Ev:Nat->Value) (L0:List Value) (m0:Nat) (ae:Option Addr) (ce:Nat) (l:Sl) (j:Nat) (wr:World):Prop where
 f:Full wr bk 81 3 3 Ev
 r:wr.ownsRow 0 T' 2 (.slice ae m0 ce) m0 L0
 z:wo wr T sz P l j
 o:dy (λk=>k=bk\/eO ae=some k\/eO l.1=some k) w wr
section
variable {w : World} {T' T : TypeId} {sz : Nat} {P : Nat → Value} {bk : Nat} {Ev : Nat → Value} {L0 : List Value} {m0 : Nat} {ae : Option Addr} {ce : Nat} {l : Sl} {j : Nat} {wr : World}
theorem uf.Ki{w1 w2:World}{u:Option Addr}{ln J:Nat}{xs:List Value}(y:Full w1 bk 81 3 3 Ev)(hR:w1.ownsRow 0 T' 2 (.slice ae m0 ce) m0 L0)(H:w1.ownsRow 0 T sz (.slice u ln J) ln xs)(W:dy (λk=>k=bk\/eO ae=some k\/eO u=some k) w w1)(G:w1.grownBy w2 none):uf w T' T sz P bk Ev L0 m0 ae ce (u,ln,J) 0 w2:=by
 have i:=λk o=>G.block k o (by intro e;cases e);exact⟨y.block (i _ y.lt),dD hR (λk o=>i k (dA hR k o).2.1),wo.Ki (dD H (λk o=>i k (dA H k o).2.1)),W.gR G⟩
theorem uf.next{w':World}(h:uf w T' T sz P bk Ev L0 m0 ae ce l j wr)(J:T≠T')(W:(81:TypeId)≠T){j':Nat}(hl:wo w' T sz P l j')(Z:dy (λk=>eO l.1=some k) wr w'):uf w T' T sz P bk Ev L0 m0 ae ce l j' w':=by
 have H:∀k,eO l.1=some k->∃u,wr.heap[k]? = some (.cells u T (0,0)):=λk y=>by
  rcases h.z with⟨_,Y⟩|⟨g,Y,_,_,u,h2,_⟩
  .exact(Y.lt y).2
  rw[Y]at y;have e:g=k:=by injection y
  exact⟨u,e▸h2⟩
 refine⟨h.f.block (Z.same h.f.lt (λe=>?_)),dD h.r (λk y=>Z.same (dA h.r k y).2.1 (λe=>?_)),hl,h.o.trans Z (λk y _=>ab (ab y))⟩
 .obtain⟨u,i⟩:=H _ e;obtain⟨c2,G,_⟩:=h.f;rw[G]at i;injection i with i;injection i with _ i _;exact W i
 obtain⟨u,i⟩:=H _ e;obtain⟨_,_,c2,G⟩:=dA h.r k y;rw[G]at i;injection i with i;injection i with _ i _;exact J i.symm
theorem uf.done{N:Int}{f:Nat}{G:Option Addr}{ln H:Nat}(h:uf w T' T sz P bk Ev L0 m0 ae ce (G,ln,H) ln wr)(J:Ev f=.slice ae m0 ce):ue w T' T sz f P bk Ev L0 m0 ae (G,ln,H) N [] (G,ln,H) ae ce wr:=by
 refine⟨h.f.congr (λi hi=>?_),?_,λy W=>(by cases W),⟨wo.all h.z,λk u=>ag u⟩,h.o,λk u=>ag u⟩
 .unfold ep;by_cases e:i=f
  .rw[aj e,e,J];rfl
  rw[aa e]
 have e:L0++gQ (([]:List Sl).map (λy=>(y,N)))=L0:=by unfold gQ;simp
 rw[e];exact h.r
end
end F
namespace F
open D
theorem Ai:∀{E:List (Sl×Int)} {k:Nat} {x:Sl×Int},E[k]? = some x->(gQ E)[k*2]? = some (oL x.1)/\(gQ E)[k*2+1]? = some (.int .i64 x.2)
 | [],k,x,h=>by simp at h
 | y :: E,0,x,h=>by
  have e:y=x:=by simpa using h
  subst e;exact⟨rfl,rfl⟩
 | y :: E,k+1,x,h=>by
  have:=Ai (E:=E) (k:=k) (x:=x) (by simpa using h);have i:gQ (y :: E)=oL y.1 :: .int .i64 y.2 :: gQ E:=by unfold gQ;simp
  rw[i,show(k+1)*2=k*2+2 by omega];exact this
theorem hZ{w:World}{i sz g n cap j:Nat}{e:TypeId}{x:Value}{xs:List Value}(h:w.ownsRow i e sz (.slice (some ⟨g,0,none⟩) n cap) n xs)(hx:xs[j]? = some x):w.cell? ⟨g,j,none⟩=some x:=by
 rcases h.2 with⟨h,_⟩|⟨g',J,o,y,_,H,_,_,W,G⟩
 .cases h
 cases y;have u:j<n*sz:=by
  have:=(bu.1 hx).1;have:=h.1;omega
 have:o[j]? = some x:=by
  rw[<-G,dh,aj u]at hx;simpa using hx
 simp[World.cell?,H,this]
theorem zW{w:World}{T':TypeId}{ra:Option Addr}{c k:Nat}{E:List (Sl×Int)}{x:Sl×Int}(h:w.ownsRow 0 T' 2 (.slice ra E.length c) E.length (gQ E))(e:E[k]? = some x):∃b,ra=some ⟨b,0,none⟩/\b<w.heap.size/\w.cell? ⟨b,k*2,none⟩=some (.slice x.1.1 x.1.2.1 x.1.2.2)/\w.cell? ⟨b,k*2+1,none⟩=some (.int .i64 x.2):=by
 have i:=(bu.1 e).1;obtain⟨b,J,y⟩:=dM h (by omega);injection y with G _ u;subst G u;obtain⟨o,H⟩:=Ai e;exact⟨b,rfl,(dA h b rfl).2.1,hZ h o,hZ h H⟩
theorem FV{w:World}{T:TypeId}{sz:Nat}{P:Nat->Value}{x:Sl}(h:Rd w T sz P x){i:Nat}(hi:i<x.2.1)(W:sz≠0):∃b,x.1=some ⟨b,0,none⟩/\b<w.heap.size/\∀j,j<sz->w.cell? ⟨b,i*sz+j,none⟩=some (P (i*sz+j)):=by
 obtain⟨b,y,G⟩:=dM h (by omega);have o:Value.slice x.1 x.2.1 x.2.2=.slice (some ⟨b,0,none⟩) x.2.1 y:=G;injection o with u _ J;have e:x=(some ⟨b,0,none⟩,x.2.1,x.2.2):=by rw[<-u]
 refine⟨b,u,(h.lt (k:=b) (by rw[u];rfl)).1,λj H=>?_⟩;rw[e]at h;refine zE h ?_;have:(i+1)*sz<=x.2.1*sz:=Nat.mul_le_mul_right _ hi;rw[Nat.add_mul,Nat.one_mul]at this;omega
theorem G9{bk ca cb:Nat}{ra rb:Option Addr}{Ev:Nat->Value}{E J:List (Sl×Int)}{w:World}(hF:Full w bk 81 3 3 Ev)(h1:Ev 1=.slice ra E.length ca)(h2:Ev 2=.slice rb J.length cb)(hE:w.ownsRow 0 119 2 (.slice ra E.length ca) E.length (gQ E))(hJ:w.ownsRow 0 121 2 (.slice rb J.length cb) J.length (gQ J))(aD:∀x,x∈E->Rd w 48 3 (mG x.2) x.1/\x.1.2.1<=1000000000)(a6:∀x,x∈J->Rd w 3 1 (qE x.2) x.1/\x.1.2.1<=1000000000)(le:E.length<=1000000000)(lj:J.length<=1000000000): Calls prog 34 #[P0 bk] w λe w'=>e=.returned (.bool true)/\w.grownBy w' none:=by
 obtain⟨c1,_⟩:=hF.cells 1 (by omega);obtain⟨c2,_⟩:=hF.cells 2 (by omega);rw[h1]at c1;rw[h2]at c2;have Z:=hF.lt;have HE:Hid (∀k x,E[k]? = some x->(∃b,ra=some ⟨b,0,none⟩/\b<w.heap.size/\w.cell? ⟨b,k*2,none⟩=some (.slice x.1.1 x.1.2.1 x.1.2.2)/\w.cell? ⟨b,k*2+1,none⟩=some (.int .i64 x.2))/\Rd w 48 3 (mG x.2) x.1/\x.1.2.1<=1000000000):=λk x hk=>⟨zW hE hk,aD x (ed hk)⟩;have HJ:Hid (∀k x,J[k]? = some x->(∃b,rb=some ⟨b,0,none⟩/\b<w.heap.size/\w.cell? ⟨b,k*2,none⟩=some (.slice x.1.1 x.1.2.1 x.1.2.2)/\w.cell? ⟨b,k*2+1,none⟩=some (.int .i64 x.2))/\Rd w 3 1 (qE x.2) x.1/\x.1.2.1<=1000000000):=λk x hk=>⟨zW hJ hk,a6 x (ed hk)⟩;clear hE hJ aD a6 h1 h2 hF;obtain⟨ne,a1⟩:∃ne,ne=E.length:=⟨_,rfl⟩;obtain⟨Y,a2⟩:∃Y,Y=J.length:=⟨_,rfl⟩;rw[<-a1]at c1 le;rw[<-a2]at c2 lj;have aG:=az a1;have aE:=az a2;clear a1 a2;go_in;go_wp2_with fail
 go_loopw [3] (λkv wr=>∃k:Nat,k<=ne/\kv=.int .i64 k/\Hid (w.grownBy wr none)) (λkv _=>ne-(intOf kv).toNat)
 case atStart=>exact⟨0,by omega,rfl,ax _ _⟩
 case round=>
  obtain⟨k,hk,rfl,y⟩:=hrel;have d1:=(bh y (a:=⟨bk,1,none⟩) Z).1.trans c1;have lr:=y.size;by_cases aF:k<ne
  .obtain⟨x,hx⟩:∃x,E[k]? = some x:=⟨_,bn (by rw[<-aG.out];exact aF)⟩;obtain⟨⟨b,rfl,b1,b2,b3⟩,b4,b5⟩:=HE k x hx;obtain⟨⟨xa,G,xc⟩,N⟩:=x;simp only at b2 b3 b4 b5;have a3:=az b4;have e1:wr.cell? ⟨b,k*2+1,none⟩=some (.int .i64 N):=(bh y (a:=⟨b,k*2+1,none⟩) b1).1.trans b3;have lb:b<wr.heap.size:=by omega
   have a0:=az b2;clear b2 b3 b4 hx;have aC:(k:Int)<ne:=by omega
   go_wp2_with fail
   have a7:=bf wr (.cells #[.int .i64 N,.int .i64 0,.int .i64 0] 48);have H:Hid (w.grownBy (wr.alloc (.cells #[.int .i64 N,.int .i64 0,.int .i64 0] 48)) none):=au y _;generalize wr.alloc (.cells #[.int .i64 N,.int .i64 0,.int .i64 0] 48)=w2 at *;generalize wr.heap.size=xb at *;clear d1 e1 y;have aB:=az a7;clear a7;go_loopw [5] (λiv wx=>∃i:Nat,i<=G/\iv=.int .i64 i/\Hid (w.grownBy wx none)/\Hid (wx.heap[xb]? = some (.cells #[.int .i64 N,.int .i64 0,.int .i64 0] 48 (0,0)))) (λiv _=>G-(intOf iv).toNat)
   case atStart=>exact⟨0,by omega,rfl,H,aB⟩
   case round=>
    clear H aB;obtain⟨i,hi,rfl,y,hX⟩:=hrel;have d1:=(bh y (a:=⟨bk,1,none⟩) Z).1.trans c1;have e0:wr.cell? ⟨b,k*2,none⟩=some (.slice xa G xc):=(bh y (a:=⟨b,k*2,none⟩) b1).1.trans a0;have lr:=y.size
    have lx:=bz hX;have x0:wr.cell? ⟨xb,0,none⟩=some (.int .i64 N):=by simp[World.cell?,hX.out]
    have x1:wr.cell? ⟨xb,1,none⟩=some (.int .i64 0):=by simp[World.cell?,hX.out]
    have x2:wr.cell? ⟨xb,2,none⟩=some (.int .i64 0):=by simp[World.cell?,hX.out]
    by_cases a4:i<G
    .obtain⟨u,hq,q1,q2⟩:=FV a3 (i:=i) a4 (by decide);simp only at hq;subst hq;have y0:wr.cell? ⟨u,i*3,none⟩=some (.int .i64 N):=by
      have:=q2 0 (by omega);rw[Nat.add_zero]at this;rw[(bh y (a:=⟨u,i*3,none⟩) q1).1,this];unfold mG;rw[aj (by omega)]
     have y1:wr.cell? ⟨u,i*3+1,none⟩=some (.int .i64 0):=by
      rw[(bh y (a:=⟨u,i*3+1,none⟩) q1).1,q2 1 (by omega)];unfold mG;rw[aa (by omega)]
     have y2:wr.cell? ⟨u,i*3+2,none⟩=some (.int .i64 0):=by
      rw[(bh y (a:=⟨u,i*3+2,none⟩) q1).1,q2 2 (by omega)];unfold mG;rw[aa (by omega)]
     have W:(i:Int)<G:=by omega
     clear q2;go_wp2_with fail
     go_quiet (fail)
     go_wp2_with fail
     go_roundw
     case rel=>exact⟨i+1,by omega,by go_num,⟨y.os,y.tape,y.output,y.size,y.block⟩,hX⟩
     case measure=>simp[intOf];omega
    have W:¬((i:Int)<G):=by omega
    go_wp2_with fail
    go_roundw
    case rel=>exact⟨k+1,by omega,by go_num,y⟩
    case measure=>simp[intOf];omega
  have aC:¬((k:Int)<ne):=by omega
  clear lr HE;have aA:=y;go_wp2_with fail
  clear d1;go_loopw [6] (λkv wx=>∃k:Nat,k<=Y/\kv=.int .i64 k/\Hid (w.grownBy wx none)) (λkv _=>Y-(intOf kv).toNat)
  case atStart=>exact⟨0,by omega,rfl,aA⟩
  case round=>
   clear aA;obtain⟨q,hq,rfl,H⟩:=hrel;have d2:=(bh H (a:=⟨bk,2,none⟩) Z).1.trans c2;by_cases aH:q<Y
   .obtain⟨x,hx⟩:∃x,J[q]? = some x:=⟨_,bn (by rw[<-aE.out];exact aH)⟩;obtain⟨⟨b,rfl,b1,b2,b3⟩,b4,b5⟩:=HJ q x hx;obtain⟨⟨xa,G,xc⟩,N⟩:=x;simp only at b2 b3 b4 b5;have a3:=az b4;have a0:=az (ay b2 b3);clear b2 b3 b4 hx;have a5:(q:Int)<Y:=by omega
    have a9:=H;go_wp2_with fail
    clear d2;go_loopw [7] (λiv wx=>∃i:Nat,i<=G/\iv=.int .i64 i/\Hid (w.grownBy wx none)) (λiv _=>G-(intOf iv).toNat)
    case atStart=>exact⟨0,by omega,rfl,a9⟩
    case round=>
     clear a9;obtain⟨i,hi,rfl,o⟩:=hrel;have d2:=(bh o (a:=⟨bk,2,none⟩) Z).1.trans c2;have e0:=(bh o (a:=⟨b,q*2,none⟩) b1).1.trans a0.1;have e1:=(bh o (a:=⟨b,q*2+1,none⟩) b1).1.trans a0.2;have lr:=o.size
     by_cases a4:i<G
     .obtain⟨u,a8,q1,q2⟩:=FV a3 (i:=i) a4 (by decide);simp only at a8;subst a8;have y0:wr.cell? ⟨u,i,none⟩=some (.int .i64 N):=by
       have:=q2 0 (by omega);rw[Nat.add_zero,Nat.mul_one]at this;rw[(bh o (a:=⟨u,i,none⟩) q1).1,this];rfl
      have W:(i:Int)<G:=by omega
      clear q2;go_wp2_with fail
      go_quiet (fail)
      go_wp2_with fail
      go_roundw
      case rel=>exact⟨i+1,by omega,by go_num,⟨o.os,o.tape,o.output,o.size,o.block⟩⟩
      case measure=>simp[intOf];omega
     have W:¬((i:Int)<G):=by omega
     go_wp2_with fail
     go_roundw
     case rel=>exact⟨q+1,by omega,by go_num,o⟩
     case measure=>simp[intOf];omega
   have a5:¬((q:Int)<Y):=by omega
   go_wp2_with fail
   go_ret;exact⟨rfl,H⟩
