import Derived.Test.YtnjiinbhbjpfkaaGreatDoorTM
import Derived.Test.YtnjiinbhbjpfkaaGreatDoorTL
set_option maxRecDepth 100000
set_option maxHeartbeats 0
set_option linter.all false
namespace Go.Proofs.YtnjiinbhbjpfkaaGreatDoor
open Go.RowKit Go.Proofs.Tryz
namespace F
variable {g:eJ}{p:dL}{s:Pl}{t x y:Nat}
def fe(x:Nat):Prop:=2<=x/\x<=12/\x≠11
theorem iE(hx:x=5\/x=11\/x=12\/x=15\/x=16)(ht:fm s t):gY s x t 0=true:=by
 unfold gY;rw[eD,eD,bf hx];simp[ht.1,ht.2]
theorem iV(hx:x<=1\/x=2\/x=3\/(6<=x/\x<=9)\/x=18):gY s x 0 0=true:=by
 unfold gY;grind
theorem Dq{k:Nat}(hx:x=4\/x=10)(e:k<4):gY s x k 0=true:=by
 unfold gY;grind
theorem oY{i:Nat}(hx:x=13\/x=14)(ht:fm s t)(hi:i<(s.T t).fr.length):gY s x t i=true:=by
 unfold gY;rw[eD,eD,eD,eD,bf hx];simp[ht.1,ht.2,hi]
def Dr(ht:fm s t)(e:(s.T t).lf.isSome=true):gY s 17 t 0=true:=by
 unfold gY;rw[eD,eD,eD,bf rfl];simp[ht.1,ht.2,e]
def hZ{z:Nat}(h:gY s x y z=true):ob p s g x y z=Iu p s g x y z:=bf h
theorem vw{z:Nat}(h:¬gY s x y z=true):ob p s g x y z=.nil:=au h
theorem g9{z:Nat}(hx:fe x):Iu p s g x y z=.row (AU x) (AV x) (g.ro x y).1 (eS s x y) (g.ro x y).2 (gu s g x y):=by
 obtain⟨o,i,e⟩:=hx;unfold Iu;grind
section
variable {p:dL}{s:Pl}{g:eJ}{w:aa} (h:dZ p s g w)
include h
def dZ.E:Full w p.eb 144 44 44 (iH p s g):=h.o 0 0 0
def dZ.S:kD w p.sb p.pb p.eb p.n s.kd (kE s g) s.M:=h.o 1 0 0
def dZ.X:∀k,p.fx k->k<w.heap.size/\w.heap[k]? = p.fc k:=h.o 18 0 0
def dZ.row{x y:Nat}(hx:fe x)(e:gY s x y 0=true):w.ownsRow 0 (AU x) (AV x) (sl s g x y) (eS s x y) (gu s g x y):=by
 have:=h.o x y 0;rw[hZ e,g9 hx]at this;exact this
theorem dZ.tk{t:Nat}(ht:fm s t):Full w (g.tb t) 160 7 7 (gz p s g t):=by
 have:=h.o 11 t 0;rw[hZ (iE ag ht)]at this;exact this
theorem dZ.fr{t i:Nat}(ht:fm s t)(hi:i<(s.T t).fr.length):w.heap[g.fb t i]? = some (zD p g t i (dq s t i)):=by
 have:=h.o 13 t i;rw[hZ (oY ag ht hi)]at this;exact this
theorem dZ.rg{t i:Nat}(ht:fm s t)(hi:i<(s.T t).fr.length):Full w (g.rb t i) 149 (p.rg (dq s t i).f*2) (p.rg (dq s t i).f*2) (eQ (dq s t i).R):=by
 have:=h.o 14 t i;rw[hZ (oY ag ht hi)]at this;exact this
def dZ.xe{t:Nat}(ht:fm s t):w.heap[g.xe t]? = some (.cells #[P0 p.eb] 95 (0,0)):=by
 have:=h.o 15 t 0;rw[hZ (iE ag ht)]at this;exact this
def dZ.xt{t:Nat}(ht:fm s t):w.heap[g.xt t]? = some (.cells #[P0 (g.tb t)] 155 (0,0)):=by
 have:=h.o 16 t 0;rw[hZ (iE ag ht)]at this;exact this
theorem dZ.sx{t:Nat}(ht:fm s t){k:Nat×Nat×Nat×Nat}(i:(s.T t).lf=some k):w.heap[g.sx t]? = some (ju k.1 k.2.1 k.2.2.1 k.2.2.2 (g.fb t ((s.T t).fr.length-1)) (g.tb t) p.eb):=by
 have:=h.o 17 t 0;rw[hZ (Dr ht eR)]at this;have e:w.heap[g.sx t]? = some (wK p s g t):=this;grind[wK]
theorem dZ.ne{x y z x' y' z' k o:Nat}(u:(ob p s g x y z).bs k)(e:(ob p s g x' y' z').bs o)(hn:¬(x=x'/\y=y'/\z=z')):k≠o:=by
 grind[F.dZ.i]
def dZ.mC{t u:Nat}(ht:fm s t)(e:fm s u)(he:g.tb t=g.tb u):t=u:=by
 have a:(ob p s g 11 t 0).bs (g.tb t):=by rw[hZ (iE ag ht)];exact rfl
 have b:(ob p s g 11 u 0).bs (g.tb t):=by rw[hZ (iE ag e)];exact he
 grind[F.dZ.i]
end
variable {g g':eJ}{p:dL}{s s':Pl}{x y:Nat}
theorem kU(p:dL)(g:eJ){t:Nat}(ht:fm s t)(k:Nat):(ob p s g 11 t 0).bs k=(k=g.tb t):=by rw[hZ (iE ag ht)];rfl
theorem gQ(p:dL)(g:eJ)(hx:fe x)(e:gY s x y 0=true)(k:Nat):(ob p s g x y 0).bs k=(fi (g.ro x y).1=some k):=by rw[hZ e,g9 hx];rfl
def rJ{z:Nat}(h:gY s x y z=true):x<=18:=by
 rcases Nat.lt_or_ge 18 x with e|e
 .have i:gY s x y z=false:=by
   unfold gY;rw[eD,eD,eD,eD,eD]
  grind
 exact e
theorem lT{z:Nat}(h:gY s x y z=true)(hx:x<=1\/x=2\/x=3\/(6<=x/\x<=9)\/x=18):y=0/\z=0:=by
 unfold gY at h;grind
theorem kj{z:Nat}(h:gY s x y z=true)(hx:x=5\/x=11\/x=12\/x=15\/x=16):fm s y/\z=0:=by
 unfold gY at h;rw[eD,eD,bf hx]at h;have:=eO h;exact⟨⟨this.1,this.2.1⟩,this.2.2⟩
def zH{z:Nat}(h:gY s x y z=true)(hx:x=4\/x=10):y<4/\z=0:=by
 unfold gY at h;grind
def mg{z:Nat}(h:gY s 17 y z=true):fm s y/\z=0/\(s.T y).lf.isSome=true:=by
 unfold gY at h;rw[eD,eD,eD,bf rfl,Bool.and_eq_true]at h;have:=eO h.1;exact⟨⟨this.1,this.2.1⟩,this.2.2,h.2⟩
def nA{z:Nat}(h:gY s x y z=true)(hx:x=13\/x=14):fm s y/\z<(s.T y).fr.length:=by
 unfold gY at h;rw[eD,eD,eD,eD,bf hx]at h;have:=eO h;exact⟨⟨this.1,this.2.1⟩,this.2.2⟩
def rK{z:Nat}(h:gY s x y z=true)(hx:fe x):z=0:=by
 obtain⟨o,i,e⟩:=hx;by_cases a:x=4\/x=10
 .exact(zH h a).2
 by_cases b:x=5\/x=12
 .exact(kj h ag).2
 grind[lT]
def nB{z:Nat}(hn:s'.nt=s.nt)(i:(s'.T y).fr.length=(s.T y).fr.length)(o:x=17->z=0->(s'.T y).lf.isSome=(s.T y).lf.isSome):gY s' x y z=gY s x y z:=by
 grind[gY]
def kT{z:Nat}(o:gY s' x y z=gY s x y z)(i:gY s x y z=true->Iu p s' g' x y z=Iu p s g x y z):ob p s' g' x y z=ob p s g x y z:=by
 unfold ob;grind
def mK{z:Nat}(Z:gY s x y z=true)(h0:x=0->iH p s' g'=iH p s g)(Y:x=1->s'.kd=s.kd/\kE s' g'=kE s g/\s'.M=s.M)(u:x=11->g'.tb y=g.tb y/\gz p s' g' y=gz p s g y)(i:x=13->g'.fb y z=g.fb y z/\zD p g' y z (dq s' y z)=zD p g y z (dq s y z))(J:x=14->g'.rb y z=g.rb y z/\dq s' y z=dq s y z)(G:x=15->g'.xe y=g.xe y)(H:x=16->g'.xt y=g.xt y/\g'.tb y=g.tb y)(o:x=17->g'.sx y=g.sx y/\wK p s' g' y=wK p s g y)(W:fe x->g'.ro x y=g.ro x y/\eS s' x y=eS s x y/\gu s' g' x y=gu s g x y):Iu p s' g' x y z=Iu p s g x y z:=by
 have a0:=rJ Z;by_cases e:fe x
 .grind[g9]
 have hc:x=0\/x=1\/x=11\/x=13\/x=14\/x=15\/x=16\/x=17\/x=18:=by unfold fe at e;omega
 repeat' rcases hc with rfl|hc
 .show Ob.full p.eb 144 44 (iH p s' g')=Ob.full p.eb 144 44 (iH p s g);grind
 .obtain⟨a,b,c⟩:=Y rfl;show Ob.str p.sb p.pb p.eb p.n s'.kd (kE s' g') s'.M=Ob.str p.sb p.pb p.eb p.n s.kd (kE s g) s.M;grind
 .obtain⟨a,b⟩:=u rfl;show Ob.full (g'.tb y) 160 7 (gz p s' g' y)=Ob.full (g.tb y) 160 7 (gz p s g y);rw[a,b]
 .obtain⟨a,b⟩:=i rfl;show Ob.one (g'.fb y z) (zD p g' y z (dq s' y z))=Ob.one (g.fb y z) (zD p g y z (dq s y z));rw[a,b]
 .obtain⟨a,b⟩:=J rfl;show Ob.full (g'.rb y z) 149 (p.rg (dq s' y z).f*2) (eQ (dq s' y z).R)=Ob.full (g.rb y z) 149 (p.rg (dq s y z).f*2) (eQ (dq s y z).R);rw[a,b]
 .show Ob.one (g'.xe y) _=Ob.one (g.xe y) _;grind
 .obtain⟨a,b⟩:=H rfl;show Ob.one (g'.xt y) (.cells #[P0 (g'.tb y)] 155 (0,0))=Ob.one (g.xt y) (.cells #[P0 (g.tb y)] 155 (0,0));rw[a,b]
 .obtain⟨a,b⟩:=o rfl;show Ob.one (g'.sx y) (wK p s' g' y)=Ob.one (g.sx y) (wK p s g y);rw[a,b]
 rfl
def NH(v:Nat×Nat):Nat:=if v.1=6 then 29 else if v.1=7 then 30 else if v.1=8 then 31 else if v.1=2 then 32 else if v.1=3 then 33 else if v.1=9 then 43 else if v.1=10 then 34+2*v.2 else 35+2*v.2
theorem J0(j:Nat)(i:j<44)(e:29<=j)(o:j≠42):NH (lP j)=j:=by
 unfold lP;split
 .subst j;rfl
 split
 .subst j;rfl
 split
 .subst j;rfl
 split
 .subst j;rfl
 split
 .subst j;rfl
 split
 .subst j;rfl
 split
 .show 34+2*((j-34) / 2)=j;omega
 show 35+2*((j-34) / 2)=j;omega
theorem uU(j:Nat)(y:j<44)(e:Nat)(u:e<44)(o:29<=j)(i:j≠42)(H:29<=e)(G:e≠42)(h:lP j=lP e):j=e:=by
 grind[J0]
theorem uT(j:Nat):fe (lP j).1/\(lP j).1≠5/\(lP j).1≠12/\((lP j).1=4\/(lP j).1=10\/(lP j).2=0):=by
 unfold lP fe;grind
def zl{j0:Nat}(J:lP j0=(x,y))(i:29<=j0/\j0<44/\j0≠42)(Z:∀a b,¬(a=x/\b=y)->fe a->a≠5->a≠12->(a=4\/a=10\/b=0)->sl s' g' a b=sl s g a b)(Y:s'.clk=s.clk)(hp:s'.sp=s.sp)(j:Nat)(W:j<44): eC (iH p s g) j0 (sl s' g' x y) j=iH p s' g' j:=by
 by_cases e:j=j0
 .subst e;rw[gO];unfold iH;grind
 rw[eN _ _ _ _ e];unfold iH;by_cases G:j<28
 .grind
 rw[au G,au G];by_cases u:j=28
 .grind
 rw[au u,au u];by_cases o:j=42
 .grind
 rw[au o,au o];grind[uT,uU,Prod.ext]
def ky(i:∀a b,fe a->a≠5->a≠12->(a=4\/a=10\/b=0)->sl s' g' a b=sl s g a b)(e:s'.clk=s.clk)(o:s'.sp=s.sp):iH p s' g'=iH p s g:=by
 funext j
 grind[uT,iH]
def fN(s:Pl)(x y:Nat):Prop:=(x=2/\y=0)\/(x=3/\y=0)\/(x=4/\y<4)\/(x=5/\fm s y)
def Af(x:Nat):TypeId:=if x=5 then 160 else 144
def De(x:Nat):Nat:=if x=5 then 7 else 44
def Ey(p:dL)(s:Pl)(g:eJ)(x y:Nat):Nat->Value:=if x=5 then gz p s g y else iH p s g
theorem oD(h:fN s x y):2<=x/\x<=5:=by
 rcases h with⟨rfl,rfl⟩|⟨rfl,rfl⟩|⟨rfl,h⟩|⟨rfl,h⟩<;>omega
theorem nG(h:fN s x y)(e:x=5):fm s y:=by
 rcases h with⟨rfl,rfl⟩|⟨rfl,rfl⟩|⟨rfl,h⟩|⟨rfl,h⟩
 .cases e
 .cases e
 .cases e
 exact h
def yK(h:fN s x y):fe x:=by grind[oD,fe]
def xh(h:fN s x y):gY s x y 0=true:=by
 rcases h with⟨rfl,rfl⟩|⟨rfl,rfl⟩|⟨rfl,h⟩|⟨rfl,h⟩
 .grind[iV]
 .grind[iV]
 .grind[Dq]
 grind[iE]
def rh(h:fN s x y):AU x=155/\AV x=1:=by
 unfold AU AV;rcases h with⟨rfl,rfl⟩|⟨rfl,rfl⟩|⟨rfl,h⟩|⟨rfl,h⟩<;>exact⟨rfl,rfl⟩
theorem nV(s':Pl)(h:fN s x y):eS s' x y=(s'.q x y).length:=by
 unfold eS;have:=oD h;grind
def pr(s':Pl)(g:eJ)(h:fN s x y):gu s' g x y=((s'.q x y).map g.tb).map P0:=by
 unfold gu;have:=oD h;grind
def uE(h:fN s x y)(e:x≠5):lP (ri x y)=(x,y)/\29<=ri x y/\ri x y<44/\ri x y≠42:=by
 rcases h with⟨rfl,rfl⟩|⟨rfl,rfl⟩|⟨rfl,h⟩|⟨rfl,h⟩
 .decide
 .decide
 .have:y=0\/y=1\/y=2\/y=3:=by omega
  rcases this with rfl|rfl|rfl|rfl<;>decide
 omega
theorem dZ.ln{w:aa}(h:dZ p s g w)(i:fN s x y)(hn:(s.q x y).length<=1000000000): Ln w (pL p g x y) (ri x y) (Af x) (De x) (Ey p s g x y) (g.ro x y).1 (s.q x y).length (g.ro x y).2 ((s.q x y).map g.tb):=by
 have o:=h.row (yK i) (xh i);unfold sl at o;rw[(rh i).1,(rh i).2,nV s i,pr s g i]at o;unfold pL Af De Ey;by_cases e:x=5
 .rw[bf e,bf e,bf e,bf e];subst e;refine⟨h.tk (nG i rfl),by show 6<7;decide,?_,o,hn⟩;show sl s g 5 y=_;grind[sl,nV]
 rw[au e,au e,au e,au e];obtain⟨a,b,c,d⟩:=uE i e;refine⟨h.E,ag,?_,o,hn⟩;unfold iH;rw[eD,eD,eD,a];grind[sl,nV]
end F
namespace F
variable {f:jc}{g:eJ}{i j j0 t u x y:Nat}{l:List Nat}{p:dL}{r:Option Addr×Nat}{s s':Pl}{v:qA}{w w':aa}
def Pl.dx(s:Pl)(t:Nat)(v:qA):Pl:={ s with T:=λi=>if i=t then v else s.T i }
def Pl.fF(s:Pl)(x y:Nat)(l:List Nat):Pl:={ s with q:=λa b=>if a=x/\b=y then l else s.q a b }
def eJ.at(g:eJ)(x y:Nat)(r:Option Addr×Nat):eJ:={ g with ro:=λa b=>if a=x/\b=y then r else g.ro a b }
theorem di(s:Pl)(t:Nat)(v:qA):(s.dx t v).T t=v:=bf rfl
theorem dR(s:Pl)(v:qA)(h:u≠t):(s.dx t v).T u=s.T u:=au h
theorem gH(s:Pl)(x y:Nat)(l:List Nat):(s.fF x y l).q x y=l:=bf ⟨rfl,rfl⟩
theorem fY(s:Pl){a b:Nat}(l:List Nat)(h:¬(a=x/\b=y)):(s.fF x y l).q a b=s.q a b:=au h
def td(g:eJ)(x y:Nat)(r:Option Addr×Nat):(g.at x y r).ro x y=r:=bf ⟨rfl,rfl⟩
theorem lG(g:eJ){a b:Nat}(r:Option Addr×Nat)(h:¬(a=x/\b=y)):(g.at x y r).ro a b=g.ro a b:=au h
def jX(G:s'.lv=s.lv)(o:s'.out=s.out)(i:s'.kp=s.kp)(e:s'.ev=s.ev)(J:s'.ft=s.ft)(H:(s'.T y).fr.length=(s.T y).fr.length)(u:s'.q x y=s.q x y):eS s' x y=eS s x y:=by
 grind[eS]
def qR{g':eJ}(ht:g'.tb=g.tb)(e:g'.fb=g.fb)(H:s'.lv=s.lv)(u:s'.out=s.out)(o:s'.kp=s.kp)(i:s'.ev=s.ev)(W:s'.ft=s.ft)(J:(s'.T y).fr.length=(s.T y).fr.length)(G:s'.q x y=s.q x y):gu s' g' x y=gu s g x y:=by
 grind[gu]
def dZ.line(h:dZ p s g w)(G:fN s x y)(ht:fm s t)(a8:v.fr=(s.T t).fr)(a6:v.lf=none\/v.lf=(s.T t).lf)(a7:¬(x=5/\y=t))(hH:Full w' (pL p g x y) (Af x) (De x) (De x) (eC (Ey p s g x y) (ri x y) (.slice r.1 l.length r.2)))(hR:w'.ownsRow 0 155 1 (.slice r.1 l.length r.2) l.length ((l.map g.tb).map P0))(hT:Full w' (g.tb t) 160 7 7 (gz p ((s.fF x y l).dx t v) (g.at x y r) t))(hO:dM (λk=>k=pL p g x y\/k=g.tb t\/fi (g.ro x y).1=some k) w w')(hB:∀k,fi r.1=some k->fi (g.ro x y).1=some k\/w.heap.size<=k): Tr p s g w ((s.fF x y l).dx t v) (g.at x y r) w':=by
 have i:∀u,(((s.fF x y l).dx t v).T u).fr=(s.T u).fr:=λu=>by
  by_cases e:u=t
  .grind[di]
  rw[dR _ _ e];rfl
 have a3:∀a b,¬(a=x/\b=y)->((s.fF x y l).dx t v).q a b=s.q a b:=λa b e=>fY s l e;have Z:∀a b,¬(a=x/\b=y)->sl ((s.fF x y l).dx t v) (g.at x y r) a b=sl s g a b:=λa b e=>by
  unfold sl;rw[lG g r e,jX (s:=s) (s':=(s.fF x y l).dx t v) rfl rfl rfl rfl rfl (by rw[i]) (a3 a b e)]
 have a1:=yK G;have a5:=xh G;have a0:sl ((s.fF x y l).dx t v) (g.at x y r) x y=.slice r.1 l.length r.2:=by
  unfold sl;rw[td,nV _ G];show Value.slice r.1 ((s.fF x y l).q x y).length r.2=_;rw[gH]
 refine h.to (λa b c=>(a=x/\b=y/\c=0)\/(a=11/\b=t/\c=0)\/(x=5/\a=11/\b=y/\c=0)\/(x≠5/\a=0/\b=0/\c=0)\/(a=17/\b=t/\c=0/\v.lf=none)) (λ_=>(x,y,0)) (hO.mono (λk J _=>?_)) (λa b c hC=>?_) (λa b c hC=>?_) (λa b c k hC J=>?_)
 .rcases J with rfl|rfl|J
  .unfold pL;by_cases o:x=5
   .rw[bf o];grind[kU,nG]
   rw[au o];exact⟨0,0,0,ah (ah (ah (af ⟨o,rfl,rfl,rfl⟩))),rfl⟩
  .grind[kU]
  grind[gQ]
 .have a2:a=17->c=0->(((s.fF x y l).dx t v).T b).lf=(s.T b).lf:=λW Y=>by
   by_cases e:b=t
   .grind[di,absurd]
   rw[dR _ _ e];rfl
  refine kT (nB rfl (by rw[i]) (λW Y=>by grind)) (λhV=>mK hV ?_ (λ_=>⟨rfl,rfl,rfl⟩) ?_ ?_ ?_ (λ_=>rfl) (λ_=>⟨rfl,rfl⟩) ?_ ?_)
  .intro W;obtain⟨eb,Y⟩:=lT hV ag;have o:=Classical.byContradiction λo=>hC (ah (ah (ah (af ⟨o,W,eb,Y⟩))));exact ky (λa' b' _ e _ _=>Z a' b' (λhh=>e (hh.1.trans o))) rfl rfl
  .intro W;obtain⟨hb,Y⟩:=kj hV ag;have e1:b≠t:=λe=>hC (ah (af ⟨W,e,Y⟩));refine⟨rfl,?_⟩;funext j
   unfold gz;rw[Z 12 b (λe=>by have:=oD G;omega),Z 5 b (λe=>hC (ah (ah (af ⟨e.1.symm,W,e.2,Y⟩)))),dR _ _ e1];rfl
  .intro W;refine⟨rfl,?_⟩;unfold dq;rw[i];rfl
  .intro W;refine⟨rfl,?_⟩;grind[dq]
  .intro W;subst W;obtain⟨hb,Y,_⟩:=mg hV;refine⟨rfl,?_⟩;unfold wK;rw[a2 rfl Y,i];rfl
  intro hx;have Y:=rK hV hx;have e:¬(a=x/\b=y):=λe=>hC (af ⟨e.1,e.2,Y⟩);exact⟨lG g r e,jX (s:=s) (s':=(s.fF x y l).dx t v) rfl rfl rfl rfl rfl (by rw[i]) (a3 a b e),qR (s:=s) (s':=(s.fF x y l).dx t v) rfl rfl rfl rfl rfl rfl rfl (by rw[i]) (a3 a b e)⟩
 .rcases hC with⟨rfl,rfl,rfl⟩|⟨rfl,rfl,rfl⟩|⟨o,rfl,rfl,rfl⟩|⟨o,rfl,rfl,rfl⟩|⟨rfl,rfl,rfl,hn⟩
  .have H:=xh (s:=(s.fF a b l).dx t v) G;rw[hZ H,g9 a1];show w'.ownsRow 0 (AU a) (AV a) (sl ((s.fF a b l).dx t v) (g.at a b r) a b) (eS ((s.fF a b l).dx t v) a b) (gu ((s.fF a b l).dx t v) (g.at a b r) a b);rw[a0,(rh G).1,(rh G).2,nV _ G,pr _ _ G];show w'.ownsRow 0 155 1 _ ((s.fF a b l).q a b).length ((((s.fF a b l).q a b).map g.tb).map P0);rw[gH];exact hR
  .have H:gY ((s.fF x y l).dx b v) 11 b 0=true:=iE ag ht;rw[hZ H];exact hT
  .have hb:=nG G o;have H:gY ((s.fF x b l).dx t v) 11 b 0=true:=iE ag hb;rw[hZ H];have e1:b≠t:=λe=>a7 ⟨o,e⟩;have a4:Full w' (g.tb b) 160 7 7 (eC (gz p s g b) 6 (.slice r.1 l.length r.2)):=by
    have:=hH;unfold pL Af De Ey ri at this;simp only[bf o]at this;exact this
   refine a4.congr (λj hj=>?_);by_cases ej:j=6
   .subst ej;rw[gO,<-a0,o];rfl
   rw[eN _ _ _ _ ej];unfold gz;rw[Z 12 b (λe=>by omega),dR _ _ e1];by_cases j0:j=0
   .simp only[bf j0]
   by_cases j1:j=1
   .simp only[au j0,bf j1]
   by_cases j2:j=2
   .simp only[au j0,au j1,bf j2];rfl
   by_cases j3:j=3
   .simp only[au j0,au j1,au j2,bf j3];rfl
   by_cases j4:j=4
   .simp only[au j0,au j1,au j2,au j3,bf j4];rfl
   by_cases j5:j=5
   .simp only[au j0,au j1,au j2,au j3,au j4,bf j5];rfl
   omega
  .have a4:Full w' p.eb 144 44 44 (eC (iH p s g) (ri x y) (.slice r.1 l.length r.2)):=by
    have:=hH;unfold pL Af De Ey at this;simp only[au o]at this;exact this
   refine Full.congr a4 (λj hj=>?_);rw[<-a0];exact zl (uE G o).1 (uE G o).2 (λa b e _ _ _ _=>Z a b e) rfl rfl j hj
  rw[vw (λhV=>by
   have:=(mg hV).2.2;rw[di,hn]at this
   cases this)]
  exact trivial
 rcases hC with⟨rfl,rfl,rfl⟩|⟨rfl,rfl,rfl⟩|⟨o,rfl,rfl,rfl⟩|⟨o,rfl,rfl,rfl⟩|⟨rfl,rfl,rfl,hn⟩
 .have H:=xh (s:=(s.fF a b l).dx t v) G;rw[gQ p _ a1 H,td]at J;rw[gQ p g a1 a5];exact(hB k J).imp id (λh=>⟨h,rfl⟩)
 .rw[kU p _ (show fm ((s.fF x y l).dx b v) b from ht)]at J;rw[kU p g ht];exact af J
 .have hb:=nG G o;rw[kU p _ (show fm ((s.fF x b l).dx t v) b from hb)]at J;rw[kU p g hb];exact af J
 .exact af J
 rw[vw (λhV=>by
  have:=(mg hV).2.2;rw[di,hn]at this
  cases this)]at J
 exact J.elim
theorem gK:∀(n:Nat) (l:List Nat),l.Nodup->(∀t,t∈l->1<=t/\t<=n)->l.length<=n
 | 0,[],_,_=>bq _
 | 0,a :: l,_,h=>by have:=h a eB;omega
 | n+1,l,hd,h=>by
  have e:=gK n (l.erase (n+1)) (hd.erase _) (λt ht=>by
   grind)
  grind
theorem sw{f:Nat->Nat}{a:Nat}:∀(l:List Nat),(∀b,b∈l->f b=f a->b=a)->(l.map f).erase (f a)=(l.erase a).map f
 | [],_=>rfl
 | b :: l,h=>by
  rw[List.map_cons,List.erase_cons,List.erase_cons];by_cases e:b=a
  .grind
  have y:(b == a)=false:=gG e;have o:(f b == f a)=false:=by
   rw[dX];exact λi=>e (h b eB i)
  rw[y,o];simp[sw l (λc u=>h c (by simp[u]))]
structure LW(s:Pl):Prop where
 a:∀t,fm s t->∀x y,(s.T t).wh=some (x,y)->fN s x y/\t∈s.q x y/\¬(x=5/\y=t)
 b:∀x y,fN s x y->∀t,t∈s.q x y->fm s t/\(s.T t).wh=some (x,y)
 c:∀x y,fN s x y->(s.q x y).Nodup
 d:s.nt<=500000000
def LW.len(h:LW s)(e:fN s x y):(s.q x y).length<=500000000:=dU (gK s.nt _ (h.c x y e) (λt ht=>(h.b x y e t ht).1)) h.d
def qA.off(v:qA):qA:={ v with wh:=none,lf:=none }
def qA.to(v:qA)(x y:Nat):qA:={ v with run:=false,wh:=some (x,y) }
def Pl.dz(s:Pl)(t:Nat):Pl:=match (s.T t).wh with
 | none=>s
 | some (x,y)=>(s.fF x y ((s.q x y).erase t)).dx t (s.T t).off
theorem BE(g:eJ)(x y:Nat):g.at x y (g.ro x y)=g:=by
 unfold eJ.at;have:(λa b=>if a=x/\b=y then g.ro x y else g.ro a b)=g.ro:=by
  funext a b
  by_cases e:a=x/\b=y
  .grind
  rw[au e]
 rw[this]
def rY(hl:fN s x y)(o:v.fr=(s.T t).fr)(u:¬(x=5/\y=t))(P:Nat->Value)(h0:P 0=gz p s g t 0)(H:P 1=gz p s g t 1)(h2:P 2=.bool v.run)(h3:P 3=wF p g v.wh)(Y:P 4=yL g t v.lf)(W:P 5=aj v.iM)(J:P 6=gz p s g t 6)(j:Nat)(hj:j<7):P j=gz p ((s.fF x y l).dx t v) (g.at x y r) t j:=by
 have Z:=oD hl;have i:∀a,¬(a=x/\t=y)->sl ((s.fF x y l).dx t v) (g.at x y r) a t=sl s g a t:=λa e=>by
  unfold sl;rw[lG g r e,jX (s:=s) (s':=(s.fF x y l).dx t v) rfl rfl rfl rfl rfl (by rw[di,o]) (fY s l e)]
 have G:=oU 6 j ag;rcases G with rfl|rfl|rfl|rfl|rfl|rfl|rfl
 .exact h0
 .rw[H];exact(i 12 (λe=>by omega)).symm
 .rw[h2];show _=Value.bool _;rw[di]
 .rw[h3];show _=wF p (g.at x y r) _;rw[di];rfl
 .rw[Y];show _=yL (g.at x y r) t _;rw[di];rfl
 .rw[W];show _=Value.int .i64 _;rw[di]
 rw[J];exact(i 5 (λe=>u ⟨e.1.symm,e.2.symm⟩)).symm
def qL(h:dZ p s g w)(hW:LW s)(ht:fm s t): eL 133 #[P0 (g.tb t)] w λw'=>Tr p s g w (s.dz t) g w':=by
 have hT:=h.tk ht;unfold Pl.dz
 cases hwh:(s.T t).wh with
 | none=>
  refine(wM (g.tb t) w ?_).mono ?_
  .rw[hT.cell 3 ag];show some (wF p g (s.T t).wh)=_;rw[hwh];rfl
  grind[Tr.refl]
 | some xy=>
  obtain⟨x,y⟩:=xy;obtain⟨G,hm,H⟩:=hW.a t ht x y hwh;have a8:=hW.len G;have i:=h.ln G ag;have Z:(s.q x y).length≠0:=by
   intro e;rw[db]at e;rw[e]at hm;cases hm
  obtain⟨gb,cap,a3⟩:=ee i.row Z;injection a3 with W _ Y;have a9:=i;rw[W,Y]at i
  have nb:pL p g x y≠g.tb t:=by
   unfold pL;by_cases h5:x=5
   .rw[bf h5];exact λe=>H ⟨h5,h.mC (nG G h5) ht e⟩
   rw[au h5];exact h.E.ne hT ek
  have a4:gz p s g t 3=Pt (pL p g x y) (ri x y):=by
   show wF p g (s.T t).wh=_;rw[hwh];rfl
  refine(DJ (pL p g x y) (ri x y) gb cap (s.q x y).length (g.tb t) (De x) (Af x) (Ey p s g x y) (gz p s g t) ((s.q x y).map g.tb) w i hT a4 (List.mem_map_of_mem hm) (λz hz=>?_) nb (eU i.row i.hE (by grind[Af,decide]) gb rfl) (eU i.row hT ek gb rfl)).mono ?_
  .obtain⟨u,hu,rfl⟩:=eK.1 hz;exact(h.tk (hW.b x y G u hu).1).zq
  rintro e w' ⟨rfl,a1,a5,a7⟩;have a2:=List.length_erase_of_mem hm;have o:g.ro x y=(some (ay gb 0),cap):=fV W Y;have a0:=h.line (l:=(s.q x y).erase t) (v:=(s.T t).off) (r:=g.ro x y) G ht rfl (af rfl) H (w':=w') ?_ ?_ ?_ ?_ (λk hk=>af hk)
  .grind[BE]
  .grind[Ln.hE]
  .rw[a2,o];have:=a1.row;rw[sw _ (λb hb e=>h.mC (hW.b x y G b hb).1 ht e)]at this;omega
  .refine a5.congr (λj hj=>rY (v:=(s.T t).off) G rfl H _ ?_ ?_ ?_ ?_ ?_ ?_ ?_ j hj)<;>rfl
  refine a7.mono (λk hk _=>?_);rcases hk with J|J|J
  .omega
  .omega
  refine ah (ah ?_);rw[o,J];rfl
def Pl.dY(s:Pl)(x y t:Nat):Pl:=((s.dz t).fF x y ((s.dz t).q x y++[t])).dx t (((s.dz t).T t).to x y)
theorem kg(s:Pl)(t u:Nat):((s.dz t).T u).fr=(s.T u).fr:=by
 unfold Pl.dz;split
 .rfl
 by_cases e:u=t
 .subst e;rw[di];rfl
 rw[dR _ _ e];rfl
def gg(s:Pl)(t:Nat):(s.dz t).nt=s.nt:=by unfold Pl.dz;split<;>rfl
theorem sm(s:Pl)(h:(s.T t).wh≠some (x,y)):(s.dz t).q x y=s.q x y:=by
 unfold Pl.dz;split
 .rfl
 rename_i a b e;exact fY s _ (λi=>h eR)
theorem ey(h:s'.nt=s.nt):fm s' t↔fm s t:=by grind[fm]
theorem gC(h:s'.nt=s.nt):fN s' x y↔fN s x y:=by grind[fN,ey]
def vW(h:dZ p s g w)(hW:LW s)(hl:fN s x y)(ht:fm s t)(G:¬(x=5/\y=t))(a1:(s.T t).wh≠some (x,y)): eL 110 #[Pt (pL p g x y) (ri x y),P0 (g.tb t)] w λw'=>∃r,Tr p s g w (s.dY x y t) (g.at x y r) w':=by
 have a5:=hW.len hl;have J:=h.ln hl ag;have hT:=h.tk ht
 have nb:pL p g x y≠g.tb t:=by
  unfold pL;by_cases h5:x=5
  .rw[bf h5];exact λe=>G ⟨h5,h.mC (nG hl h5) ht e⟩
  rw[au h5];exact h.E.ne hT ek
 have hc:w.cell? (ay (pL p g x y) (ri x y))=some (.slice (g.ro x y).1 (s.q x y).length (g.ro x y).2):=by
  rw[J.hE.cell _ J.ho,J.e]
 have hn1:=gg s t;have u:=(gC hn1).2 hl;have a0:=(ey hn1).2 ht;have i:=sm s a1;refine(LR (pL p g x y) (ri x y) (g.ro x y).2 (s.q x y).length (g.tb t) (De x) (Af x) (g.ro x y).1 (Ey p (s.dz t) g x y) (gz p (s.dz t) g t) ((s.q x y).map g.tb) (λw1=>Tr p s g w (s.dz t) g w1) w nb (λk o=>⟨eU J.row J.hE (by grind[Af,decide]) k o,eU J.row hT ek k o⟩) ag hc ?_).mono ?_
 .refine du (qL h hW ht) λw1 H=>?_;grind[F.dZ.ln,F.Tr.r,F.dZ.tk]
 rintro e w' ⟨rfl,w1,H,gb,c',Z,a2,a4,Y⟩;refine⟨rfl,(some (ay gb 0),c'),H.trans (H.r.line u a0 rfl (ah rfl) G ?_ ?_ ?_ ?_ ?_)⟩
 .rw[i,cw];exact Z.hE
 .rw[i,cw];have:=Z.row;simp_all
 .refine a2.congr (λj hj=>rY (v:=((s.dz t).T t).to x y) u rfl G _ ?_ ?_ ?_ ?_ ?_ ?_ ?_ j hj)<;>rfl
 .grind[dF,dM.mono]
 intro k o;have e:gb=k:=by injection o
 grind[dF]
def dZ.Bw{x2 y2:Nat}(h:dZ p s g w)(hx:6<=x/\x<=10)(hv:gY s x y 0=true)(a5:6<=x2/\x2<=10)(G:gY s x2 y2 0=true)(hj:lP j0=(x,y)/\29<=j0/\j0<44/\j0≠42)(e1:s'.nt=s.nt)(e2:s'.T=s.T)(e4:s'.kd=s.kd)(e5:s'.M=s.M)(e6:s'.ck=s.ck)(e7:s'.clk=s.clk)(e8:s'.sp=s.sp)(Z:∀a b,fe a->(a=4\/a=5\/a=10\/a=12\/b=0)->¬(a=x/\b=y)->eS s' a b=eS s a b/\(¬(a=x2/\b=y2)->gu s' g a b=gu s g a b))(hH:Full w' p.eb 144 44 44 (eC (iH p s g) j0 (.slice r.1 (eS s' x y) r.2)))(hR:w'.ownsRow 0 (AU x) (AV x) (.slice r.1 (eS s' x y) r.2) (eS s' x y) (gu s' g x y))(a3:¬(x2=x/\y2=y)->w'.ownsRow 0 (AU x2) (AV x2) (sl s g x2 y2) (eS s x2 y2) (gu s' g x2 y2))(hO:dM (λk=>k=p.eb\/fi (g.ro x y).1=some k\/fi (g.ro x2 y2).1=some k) w w')(hB:∀k,fi r.1=some k->fi (g.ro x y).1=some k\/w.heap.size<=k):Tr p s g w s' (g.at x y r) w':=by
 have Y:fe x:=by unfold fe;omega
 have i:fe x2:=by unfold fe;omega
 have W:∀a b,fe a->(a=4\/a=5\/a=10\/a=12\/b=0)->¬(a=x/\b=y)->sl s' (g.at x y r) a b=sl s g a b:=λa b J hb e=>by
  grind[sl,lG]
 have a2:∀a b,gY s a b 0=true->fe a->a=4\/a=5\/a=10\/a=12\/b=0:=λa b hV J=>by
  grind[lT,fe]
 have a0:sl s' (g.at x y r) x y=.slice r.1 (eS s' x y) r.2:=by unfold sl;rw[td]
 have H:∀a b c,gY s' a b c=gY s a b c:=λa b c=>nB e1 (by rw[e2]) (λ_ _=>by rw[e2]);have a1:∀a b,gu s' (g.at x y r) a b=gu s' g a b:=λ_ _=>rfl;refine h.to (λa b c=>(a=x/\b=y/\c=0)\/(a=0/\b=0/\c=0)\/(a=x2/\b=y2/\c=0)) (λ_=>(x,y,0)) (hO.mono (λk u _=>?_)) (λa b c o=>?_) (λa b c o=>?_) (λa b c k o u=>?_)
 .rcases u with rfl|u|u
  .exact⟨0,0,0,ah (af ⟨rfl,rfl,rfl⟩),rfl⟩
  .grind[gQ]
  grind[gQ]
 .refine kT (H a b c) (λhV=>mK hV ?_ (λ_=>⟨e4,?_,e5⟩) ?_ ?_ ?_ (λ_=>rfl) (λ_=>⟨rfl,rfl⟩) ?_ ?_)
  .grind[absurd,lT]
  .unfold kE;rw[e6];rfl
  .intro ea;refine⟨rfl,?_⟩;funext j
   unfold gz;rw[W 12 b (by grind[fe]) ag (λe=>by omega),W 5 b (by grind[fe]) ag (λe=>by omega),e2];rfl
  .intro ea;refine⟨rfl,?_⟩;unfold dq;rw[e2];rfl
  .intro ea;refine⟨rfl,?_⟩;grind[dq]
  .intro ea;refine⟨rfl,?_⟩;unfold wK;rw[e2];rfl
  intro J;have ec:=rK hV J;subst ec;have e:¬(a=x/\b=y):=λe=>o (af ⟨e.1,e.2,rfl⟩);have hb:=a2 a b hV J;refine⟨lG g r e,(Z a b J hb e).1,?_⟩;rw[a1];exact(Z a b J hb e).2 (λe=>o (ah (ah ⟨e.1,e.2,rfl⟩)))
 .by_cases e0:a=x/\b=y/\c=0
  .obtain⟨rfl,rfl,rfl⟩:=e0;rw[hZ (eV H hv),g9 Y];show w'.ownsRow 0 (AU a) (AV a) (sl s' (g.at a b r) a b) (eS s' a b) (gu s' (g.at a b r) a b);rw[a0,a1];exact hR
  rcases o with o|⟨rfl,rfl,rfl⟩|⟨rfl,rfl,rfl⟩
  .exact dp o e0
  .refine Full.congr hH (λj a4=>?_);rw[<-a0];exact zl hj.1 hj.2 (λa' b' e J _ _ hb=>W a' b' J ag e) e7 e8 j a4
  have e:¬(a=x/\b=y):=λe=>e0 ⟨e.1,e.2,rfl⟩;rw[hZ (eV H G),g9 i];show w'.ownsRow 0 (AU a) (AV a) (sl s' (g.at x y r) a b) (eS s' a b) (gu s' (g.at x y r) a b);have hb:=a2 a b G i;rw[W a b i hb e,(Z a b i hb e).1,a1];exact a3 e
 by_cases e0:a=x/\b=y/\c=0
 .obtain⟨rfl,rfl,rfl⟩:=e0;rw[gQ p _ Y (eV H hv),td]at u;rw[gQ p g Y hv];exact(hB k u).imp id (λh=>⟨h,rfl⟩)
 rcases o with o|⟨rfl,rfl,rfl⟩|⟨rfl,rfl,rfl⟩
 .exact dp o e0
 .exact af u
 have e:¬(a=x/\b=y):=λe=>e0 ⟨e.1,e.2,rfl⟩;rw[gQ p _ i (eV H G),lG g r e]at u;rw[gQ p g i G];exact af u
def dZ.uS(h:dZ p s g w)(hx:6<=x/\x<=10)(o:gY s x y 0=true)(H:lP j0=(x,y)/\29<=j0/\j0<44/\j0≠42)(e1:s'.nt=s.nt)(J:s'.T=s.T)(e4:s'.kd=s.kd)(e5:s'.M=s.M)(e6:s'.ck=s.ck)(e7:s'.clk=s.clk)(u:s'.sp=s.sp)(i:∀a b,fe a->(a=4\/a=5\/a=10\/a=12\/b=0)->¬(a=x/\b=y)->eS s' a b=eS s a b/\gu s' g a b=gu s g a b)(Y:Full w' p.eb 144 44 44 (eC (iH p s g) j0 (.slice r.1 (eS s' x y) r.2)))(hR:w'.ownsRow 0 (AU x) (AV x) (.slice r.1 (eS s' x y) r.2) (eS s' x y) (gu s' g x y))(Z:dM (λk=>k=p.eb\/fi (g.ro x y).1=some k) w w')(W:∀k,fi r.1=some k->fi (g.ro x y).1=some k\/w.heap.size<=k):Tr p s g w s' (g.at x y r) w':=
 h.Bw hx o hx o H e1 J e4 e5 e6 e7 u (λa b c d e=>⟨(i a b c d e).1,λ_=>(i a b c d e).2⟩) Y hR (λe=>dp ⟨rfl,rfl⟩ e) (Z.mono (λ_ G _=>G.imp id af)) W
def dZ.zm(h:dZ p s g w)(e1:s'.nt=s.nt)(e:s'.T=s.T)(Z:s'.kd=s.kd)(Y:s'.M=s.M)(e6:s'.ck=s.ck)(i:∀a b,eS s' a b=eS s a b/\gu s' g a b=gu s g a b)(J:Full w' p.eb 144 44 44 (iH p s' g))(W:dM (λk=>k=p.eb) w w'):Tr p s g w s' g w':=by
 have o:∀a b,sl s' g a b=sl s g a b:=λa b=>by
  grind[sl]
 refine h.to (λa b c=>a=0/\b=0/\c=0) (λ_=>(0,0,0)) (W.mono (λk G _=>⟨0,0,0,⟨rfl,rfl,rfl⟩,G⟩)) (λa b c u=>?_) (λa b c u=>?_) (λa b c k u G=>?_)
 .refine kT (nB e1 (by rw[e]) (λ_ _=>by rw[e])) (λH=>mK H ?_ (λ_=>⟨Z,?_,Y⟩) ?_ ?_ ?_ (λ_=>rfl) (λ_=>⟨rfl,rfl⟩) ?_ (λ_=>⟨rfl,i a b⟩))
  .grind[absurd,lT]
  .grind[kE]
  .intro y;refine⟨rfl,?_⟩;funext j
   grind[gz]
  .grind[dq]
  .grind[dq]
  grind[wK]
 .obtain⟨rfl,rfl,rfl⟩:=u;exact J
 obtain⟨rfl,rfl,rfl⟩:=u;exact af G
def dZ.flag(h:dZ p s g w)(ht:fm s t)(Y:v.fr=(s.T t).fr)(Z:v.lf=(s.T t).lf)(hT:Full w' (g.tb t) 160 7 7 (gz p (s.dx t v) g t))(hO:dM (λk=>k=g.tb t) w w'):Tr p s g w (s.dx t v) g w':=by
 have i:∀u,((s.dx t v).T u).fr=(s.T u).fr:=λu=>by
  grind[di,dR]
 have o:∀u,((s.dx t v).T u).lf=(s.T u).lf:=λu=>by
  grind[di,dR]
 have G:∀a b,eS (s.dx t v) a b=eS s a b:=λa b=>jX rfl rfl rfl rfl rfl (by rw[i]) rfl;have y:∀a b,sl (s.dx t v) g a b=sl s g a b:=λa b=>by
  unfold sl;rw[G]
 refine h.to (λa b c=>a=11/\b=t/\c=0) (λ_=>(0,0,0)) (hO.mono (λk J _=>⟨11,t,0,⟨rfl,rfl,rfl⟩,by grind[kU]⟩)) (λa b c H=>?_) (λa b c H=>?_) (λa b c k H J=>?_)
 .refine kT (nB rfl (by rw[i]) (λ_ _=>by rw[o])) (λhV=>mK hV (λ_=>ky (λa b _ _ _ _=>y a b) rfl rfl) (λ_=>⟨rfl,rfl,rfl⟩) ?_ ?_ ?_ (λ_=>rfl) (λ_=>⟨rfl,rfl⟩) ?_ (λ_=>⟨rfl,G a b,qR rfl rfl rfl rfl rfl rfl rfl (by rw[i]) rfl⟩))
  .intro W;refine⟨rfl,?_⟩;funext j
   grind[gz,dR,kj]
  .grind[dq]
  .grind[dq]
  grind[wK]
 .obtain⟨rfl,rfl,rfl⟩:=H;rw[hZ (show gY (s.dx b v) 11 b 0=true from iE ag ht)];exact hT
 obtain⟨rfl,rfl,rfl⟩:=H;rw[kU p g (show fm (s.dx b v) b from ht)]at J;grind[kU]
def Pl.dJ(s:Pl)(t i:Nat)(f:jc):Pl:=s.dx t { s.T t with fr:=(s.T t).fr.set i f }
theorem mh(s:Pl)(f:jc)(hi:i<(s.T t).fr.length):dq (s.dJ t i f) t i=f:=by
 unfold dq Pl.dJ;rw[di,cr,List.getElem?_set,bf rfl,bf hi];rfl
theorem lN(s:Pl)(f:jc)(h:¬(u=t/\j=i)):dq (s.dJ t i f) u j=dq s u j:=by
 unfold dq Pl.dJ;by_cases e:u=t
 .subst e;rw[di,cr,List.getElem?_set,au (λe=>h ⟨rfl,e.symm⟩),cr]
 grind[dR]
def dZ.Nz(h:dZ p s g w)(ht:fm s t)(hi:i<(s.T t).fr.length)(hF:w'.heap[g.fb t i]? = some (zD p g t i f))(hR:Full w' (g.rb t i) 149 (p.rg f.f*2) (p.rg f.f*2) (eQ f.R))(hO:dM (λk=>k=g.fb t i\/k=g.rb t i) w w'):Tr p s g w (s.dJ t i f) g w':=by
 have o:∀u,((s.dJ t i f).T u).fr.length=(s.T u).fr.length:=λu=>by
  grind[Pl.dJ,di,List.length_set,dR]
 have y:∀u,((s.dJ t i f).T u).lf=(s.T u).lf:=λu=>by
  grind[Pl.dJ,di,dR]
 have Z:∀a b,eS (s.dJ t i f) a b=eS s a b:=λa b=>jX rfl rfl rfl rfl rfl (o b) rfl;have J:∀a b,sl (s.dJ t i f) g a b=sl s g a b:=λa b=>by
  unfold sl;rw[Z]
 have hv:∀a b c,gY (s.dJ t i f) a b c=gY s a b c:=λa b c=>nB rfl (o b) (λ_ _=>by rw[y]);refine h.to (λa b c=>(a=13\/a=14)/\b=t/\c=i) (λ_=>(0,0,0)) (hO.mono (λk G _=>?_)) (λa b c W=>?_) (λa b c W=>?_) (λa b c k W G=>?_)
 .rcases G with G|G
  .refine⟨13,t,i,⟨af rfl,rfl,rfl⟩,?_⟩;rw[hZ (oY ag ht hi)];exact G
  refine⟨14,t,i,⟨ah rfl,rfl,rfl⟩,?_⟩;rw[hZ (oY ag ht hi)];exact G
 .refine kT (hv a b c) (λhV=>mK hV (λ_=>ky (λa b _ _ _ _=>J a b) rfl rfl) (λ_=>⟨rfl,rfl,rfl⟩) ?_ ?_ ?_ (λ_=>rfl) (λ_=>⟨rfl,rfl⟩) ?_ (λ_=>⟨rfl,Z a b,qR rfl rfl rfl rfl rfl rfl rfl (o b) rfl⟩))
  .intro Y;refine⟨rfl,?_⟩;funext j
   grind[gz,Pl.dJ,di,dR]
  .grind[lN]
  .grind[lN]
  grind[wK]
 .obtain⟨H,rfl,rfl⟩:=W;rcases H with rfl|rfl
  .rw[hZ (by grind[oY])];show w'.heap[g.fb b c]? = some (zD p g b c (dq (s.dJ b c f) b c));grind[mh]
  rw[hZ (by grind[oY])];show Full w' (g.rb b c) 149 (p.rg (dq (s.dJ b c f) b c).f*2) (p.rg (dq (s.dJ b c f) b c).f*2) (eQ (dq (s.dJ b c f) b c).R);grind[mh]
 obtain⟨H,rfl,rfl⟩:=W;refine af ?_;have hV:=oY H ht hi;rw[hZ eR]at G;rw[hZ hV];rcases H with rfl|rfl
 .exact G
 exact G
def dZ.MR{vb:Vs}(h:dZ p s g w)(e1:s'.nt=s.nt)(e:s'.T=s.T)(e3:s'.q=s.q)(e7:s'.clk=s.clk)(e8:s'.sp=s.sp)(f1:s'.lv=s.lv)(Y:s'.out=s.out)(f3:s'.kp=s.kp)(Z:s'.ev=s.ev)(f5:s'.ft=s.ft)(f6:s'.ck=vb.f.k)(hS:kD w' p.sb p.pb p.eb p.n s'.kd vb s'.M)(hO:dM (rA p.sb p.pb p.n s.kd (kE s g)) w w')(hG:pW p.n s.kd (kE s g) s'.kd vb w.heap.size):Tr p s g w s' { g with vf:=vb.f.b,cb:=vb.cb,rd:=vb.rd,ad:=vb.ad,cap:=vb.cap } w':=by
 have H:∀a b,eS s' a b=eS s a b:=λa b=>jX f1 Y f3 Z f5 (by rw[e]) (by rw[e3]);have o:kE s' { g with vf:=vb.f.b,cb:=vb.cb,rd:=vb.rd,ad:=vb.ad,cap:=vb.cap }=vb:=by unfold kE;rw[f6]
 have i:∀a b,sl s' { g with vf:=vb.f.b,cb:=vb.cb,rd:=vb.rd,ad:=vb.ad,cap:=vb.cap } a b=sl s g a b:=λa b=>by
  unfold sl;rw[H]
 refine h.to (λa b c=>a=1/\b=0/\c=0) (λ_=>(1,0,0)) (hO.mono (λk W _=>⟨1,0,0,⟨rfl,rfl,rfl⟩,W⟩)) (λa b c y=>?_) (λa b c y=>?_) (λa b c k y W=>?_)
 .refine kT (nB e1 (by rw[e]) (λ_ _=>by rw[e])) (λhV=>mK hV (λ_=>ky (λa b _ _ _ _=>i a b) e7 e8) ?_ ?_ ?_ ?_ (λ_=>rfl) (λ_=>⟨rfl,rfl⟩) ?_ (λ_=>⟨rfl,H a b,qR rfl rfl f1 Y f3 Z f5 (by rw[e]) (by rw[e3])⟩))
  .grind[absurd,lT]
  .intro G;refine⟨rfl,?_⟩;funext j
   unfold gz;rw[i,i,e];rfl
  .intro G;refine⟨rfl,?_⟩;unfold dq;rw[e];rfl
  .grind[dq]
  grind[wK]
 .obtain⟨rfl,rfl,rfl⟩:=y;show kD w' p.sb p.pb p.eb p.n s'.kd (kE s' { g with vf:=vb.f.b,cb:=vb.cb,rd:=vb.rd,ad:=vb.ad,cap:=vb.cap }) s'.M;grind
 obtain⟨rfl,rfl,rfl⟩:=y;have J:rA p.sb p.pb p.n s'.kd (kE s' { g with vf:=vb.f.b,cb:=vb.cb,rd:=vb.rd,ad:=vb.ad,cap:=vb.cap }) k:=W;rw[o]at J;rcases J with u|u|u
 .exact af (af u)
 .exact af (ah (af u))
 exact(hG k u).imp (λh=>ah (ah h)) (λh=>⟨h,rfl⟩)
theorem jY(s:Pl)(t:Nat):eS s 12 t=(s.T t).fr.length:=rfl
theorem m8(s:Pl)(g:eJ)(t:Nat):gu s g 12 t=((List.range (s.T t).fr.length).map (g.fb t)).map P0:=rfl
def qA.mz(v:qA)(l:List jc):qA:={ v with fr:=l }
def Pl.push(s:Pl)(t:Nat)(f:jc):Pl:=s.dx t ((s.T t).mz ((s.T t).fr++[f]))
def eJ.push(g:eJ)(t m fb rb:Nat)(r:Option Addr×Nat):eJ:={ g.at 12 t r with fb:=λa b=>if a=t/\b=m then fb else g.fb a b,rb:=λa b=>if a=t/\b=m then rb else g.rb a b }
def pI(g:eJ)(t m fb rb:Nat)(r:Option Addr×Nat):(g.push t m fb rb r).fb t m=fb/\(g.push t m fb rb r).rb t m=rb:=⟨bf ⟨rfl,rfl⟩,bf ⟨rfl,rfl⟩⟩
def qU(g:eJ){m fb rb:Nat}{a b:Nat}(h:¬(a=t/\b=m)):(g.push t m fb rb r).fb a b=g.fb a b/\(g.push t m fb rb r).rb a b=g.rb a b:=⟨au h,au h⟩
theorem wV(s:Pl)(t:Nat)(f:jc):dq (s.push t f) t (s.T t).fr.length=f:=by
 unfold dq Pl.push;rw[di];show((s.T t).fr++[f]).getD _ _=f;simp
def pn(s:Pl)(f:jc)(h:u=t->i<(s.T t).fr.length):dq (s.push t f) u i=dq s u i:=by
 unfold dq Pl.push;by_cases e:u=t
 .subst e;rw[di];show((s.T u).fr++[f]).getD _ _=_;grind
 grind[dR]
theorem dZ.push{p:dL}{s:Pl}{g:eJ}{w w':aa}{t fb rb:Nat}{f:jc}{r:Option Addr×Nat}(h:dZ p s g w)(ht:fm s t)(aC:(s.T t).lf=none)(hT:Full w' (g.tb t) 160 7 7 (eC (gz p s g t) 1 (.slice r.1 ((s.T t).fr.length+1) r.2)))(hK:w'.ownsRow 0 184 1 (.slice r.1 ((s.T t).fr.length+1) r.2) ((s.T t).fr.length+1) (((List.range (s.T t).fr.length).map (g.fb t)).map P0++[P0 fb]))(hF:w'.heap[fb]? = some (jo (p.cb f.f) (p.len f.f) f.nx rb (p.rg f.f) (xM p g t (s.T t).fr.length f.bk)))(hR:Full w' rb 149 (p.rg f.f*2) (p.rg f.f*2) (eQ f.R))(hO:dM (λk=>k=g.tb t\/fi (g.ro 12 t).1=some k) w w')(n1:w.heap.size<=fb)(n2:w.heap.size<=rb)(hB:∀k,fi r.1=some k->fi (g.ro 12 t).1=some k\/w.heap.size<=k):Tr p s g w (s.push t f) (g.push t (s.T t).fr.length fb rb r) w':=by
 generalize hm:(s.T t).fr.length=m at *;have y:∀u,u≠t->(s.push t f).T u=s.T u:=λu e=>dR _ _ e;have J:(s.push t f).T t=(s.T t).mz ((s.T t).fr++[f]):=di _ _ _;have Y:((s.push t f).T t).fr.length=m+1:=by rw[J];show((s.T t).fr++[f]).length=_;rw[cw,hm];rfl
 have a8:∀a b,¬(a=12/\b=t)->(g.push t m fb rb r).ro a b=g.ro a b:=λa b e=>lG g r e;have a3:(g.push t m fb rb r).ro 12 t=r:=td g 12 t r;have a9:∀a b,¬(a=12/\b=t)->eS (s.push t f) a b=eS s a b:=λa b e=>by
  by_cases eb:b=t
  .have o:a≠12:=λo=>e ⟨o,eb⟩;unfold eS;simp only[au o];rfl
  exact jX rfl rfl rfl rfl rfl eR rfl
 have H:∀a b,¬(a=t/\b=m)->(g.push t m fb rb r).fb a b=g.fb a b:=λa b e=>(qU g e).1;have aB:∀a b,¬(a=12/\b=t)->gu (s.push t f) (g.push t m fb rb r) a b=gu s g a b:=λa b e=>by
  by_cases o:a=12
  .subst o;have eb:b≠t:=λeb=>e ⟨rfl,eb⟩;rw[m8,m8,y b eb];simp_all
  unfold gu;simp only[au o];rfl
 have a0:∀a b,¬(a=12/\b=t)->sl (s.push t f) (g.push t m fb rb r) a b=sl s g a b:=λa b e=>by
  unfold sl;rw[a8 a b e,a9 a b e]
 have a1:sl (s.push t f) (g.push t m fb rb r) 12 t=.slice r.1 (m+1) r.2:=by
  unfold sl;rw[a3,jY,Y]
 have a2:∀k,fi r.1=some k->k≠fb/\k≠rb:=λk G=>by
  obtain⟨_,_,cu,h1⟩:=dP hK k (eV dF G);refine⟨eE h1 hF ek,?_⟩;obtain⟨aD,h2,_⟩:=hR;exact eE h1 h2 ek
 have a6:rb≠fb:=by
  obtain⟨aD,h2,_⟩:=hR;exact eE h2 hF ek
 have aA:∀a b c,¬((a=13\/a=14)/\b=t/\c=m)->gY (s.push t f) a b c=gY s a b c:=λa b c e=>by
  by_cases eb:b=t
  .by_cases o:a=13\/a=14
   .have ec:c≠m:=λec=>e ⟨o,eb,ec⟩;unfold gY;rw[eD,eD,eD,eD,bf o,eD,eD,eD,eD,bf o];have e1:((s.push t f).T b).fr.length=m+1:=eV eb Y
    have e2:(s.T b).fr.length=m:=eV eb hm;rw[e1,e2];have a4:(s.push t f).nt=s.nt:=rfl;rw[a4];by_cases hc:c<m
    .have:c<m+1:=by omega
     simp[hc,this]
    have:¬c<m+1:=by omega
    simp[hc,this]
   unfold gY;have a4:(s.push t f).nt=s.nt:=rfl;rw[a4,au o];by_cases aE:a=17
   .have:((s.push t f).T b).lf=(s.T b).lf:=by rw[eb,J];rfl
    rw[this,au o]
   simp only[au aE,au o]
  exact nB rfl (by rw[y b eb]) (λ_ _=>by rw[y b eb])
 refine h.to (λa b c=>(a=11/\b=t/\c=0)\/(a=12/\b=t/\c=0)\/((a=13\/a=14)/\b=t/\c=m)) (λk=>if k=fb then(13,t,m) else if k=rb then(14,t,m) else(12,t,0)) (hO.mono (λk G _=>?_)) (λa b c hC=>?_) (λa b c hC=>?_) (λa b c k hC G=>?_)
 .rcases G with G|G
  .exact⟨11,t,0,af ⟨rfl,rfl,rfl⟩,by rw[kU p g ht];exact G⟩
  exact⟨12,t,0,ah (af ⟨rfl,rfl,rfl⟩),by rw[gQ p g (by unfold fe;omega) (iE ag ht)];exact G⟩
 .refine kT (aA a b c (λe=>hC (ah (ah e)))) (λhV=>mK hV (λ_=>ky (λa b _ _ e _=>a0 a b (λhh=>e hh.1)) rfl rfl) (λ_=>⟨rfl,rfl,rfl⟩) ?_ ?_ ?_ (λ_=>rfl) (λ_=>⟨rfl,rfl⟩) ?_ ?_)
  .intro o;have eb:b≠t:=λe=>hC (af ⟨o,e,(kj hV ag).2⟩);refine⟨rfl,?_⟩;funext j
   unfold gz;rw[a0 12 b (λe=>eb e.2),a0 5 b (λe=>by omega),y b eb];rfl
  .intro o;subst o;obtain⟨hb,hc⟩:=nA hV ag;have e0:¬(b=t/\c=m):=λe=>hC (ah (ah ⟨af rfl,e.1,e.2⟩));refine⟨H b c e0,?_⟩;rw[pn s f (λe=>by subst e;exact hc)];unfold zD xM;have e1:(g.push t m fb rb r).rb b c=g.rb b c:=(qU g e0).2;have e2:=H b (c-1) (λe=>by
    have h1:(s.T b).fr.length=m:=eV e.1 hm;omega)
   rw[e1,e2];rfl
  .intro o;subst o;obtain⟨hb,hc⟩:=nA hV ag;have e0:¬(b=t/\c=m):=λe=>hC (ah (ah ⟨ah rfl,e.1,e.2⟩));exact⟨(qU g e0).2,pn s f (λe=>by subst e;exact hc)⟩
  .intro o;subst o;have hl:=(mg hV).2.2;have eb:b≠t:=λe=>by rw[e,aC]at hl;cases hl
   refine⟨rfl,?_⟩;unfold wK;rw[y b eb,H b _ (λe=>eb e.1)];rfl
  intro ha;have e:¬(a=12/\b=t):=λe=>hC (ah (af ⟨e.1,e.2,rK hV ha⟩));exact⟨a8 a b e,a9 a b e,aB a b e⟩
 .rcases hC with⟨rfl,rfl,rfl⟩|⟨rfl,rfl,rfl⟩|⟨W,rfl,rfl⟩
  .rw[hZ (show gY (s.push b f) 11 b 0=true from iE ag ht)];refine Full.congr hT (λj hj=>?_);have hc:=oU 6 j ag
   rcases hc with rfl|rfl|rfl|rfl|rfl|rfl|rfl
   .rfl
   .exact a1.symm
   .show Value.bool (s.T b).run=Value.bool ((s.push b f).T b).run;rw[J];rfl
   .show wF p g (s.T b).wh=wF p (g.push b m fb rb r) ((s.push b f).T b).wh;rw[J];rfl
   .show yL g b (s.T b).lf=yL (g.push b m fb rb r) b ((s.push b f).T b).lf;rw[J];rfl
   .show Value.int .i64 (s.T b).iM=Value.int .i64 ((s.push b f).T b).iM;rw[J];rfl
   exact(a0 5 b (λe=>by omega)).symm
  .rw[hZ (show gY (s.push b f) 12 b 0=true from iE ag ht),g9 (by unfold fe;omega)];show w'.ownsRow 0 184 1 (sl (s.push b f) (g.push b m fb rb r) 12 b) (eS (s.push b f) 12 b) (gu (s.push b f) (g.push b m fb rb r) 12 b);rw[a1,jY,m8,Y,gm,gR,gR];have e1:(List.range m).map ((g.push b m fb rb r).fb b)=(List.range m).map (g.fb b):=List.map_congr_left (λi hi=>H b i (λe=>by have:=fI.1 hi;omega));have e2:([m].map ((g.push b m fb rb r).fb b)).map P0=[P0 fb]:=by show[P0 ((g.push b m fb rb r).fb b m)]=_;rw[(pI g b m fb rb r).1]
   rw[e1,e2];exact hK
  have a5:gY (s.push b f) a b c=true:=oY W ht (kr Y);rw[hZ a5];have a7:dq (s.push b f) b c=f:=by rw[<-hm];exact wV s b f
  rcases W with rfl|rfl
  .show w'.heap[(g.push b c fb rb r).fb b c]? = some (zD p (g.push b c fb rb r) b c (dq (s.push b f) b c));rw[a7,(pI g b c fb rb r).1];unfold zD;rw[(pI g b c fb rb r).2];have:xM p (g.push b c fb rb r) b c f.bk=xM p g b c f.bk:=by
    unfold xM;by_cases h0:c=0
    .rw[bf h0,bf h0];rfl
    rw[au h0,au h0,H b (c-1) (λe=>by omega)];rfl
   rw[this];exact hF
  show Full w' ((g.push b c fb rb r).rb b c) 149 (p.rg (dq (s.push b f) b c).f*2) (p.rg (dq (s.push b f) b c).f*2) (eQ (dq (s.push b f) b c).R);rw[a7,(pI g b c fb rb r).2];exact hR
 rcases hC with⟨rfl,rfl,rfl⟩|⟨rfl,rfl,rfl⟩|⟨W,rfl,rfl⟩
 .rw[kU p _ (show fm (s.push b f) b from ht)]at G;rw[kU p g ht];exact af G
 .rw[gQ p _ (by unfold fe;omega) (show gY (s.push b f) 12 b 0=true from iE ag ht),a3]at G;rw[gQ p g (by unfold fe;omega) (iE ag ht)];refine(hB k G).imp id (λh=>⟨h,?_⟩);rw[au (a2 k G).1,au (a2 k G).2]
 have a5:gY (s.push b f) a b c=true:=oY W ht (kr Y);rw[hZ a5]at G;rcases W with rfl|rfl
 .have Z:k=(g.push b c fb rb r).fb b c:=G;rw[(pI g b c fb rb r).1]at Z;subst Z;exact ah ⟨n1,bf rfl⟩
 have Z:k=(g.push b c fb rb r).rb b c:=G;rw[(pI g b c fb rb r).2]at Z;subst Z;exact ah ⟨n2,by rw[au a6,bf rfl]⟩
def Pl.pop(s:Pl)(t:Nat):Pl:=s.dx t ((s.T t).mz (s.T t).fr.dropLast)
def pJ(s:Pl)(h:u=t->i+1<(s.T t).fr.length):dq (s.pop t) u i=dq s u i:=by
 unfold dq Pl.pop;by_cases e:u=t
 .subst e;rw[di];show(s.T u).fr.dropLast.getD _ _=_;grind
 grind[dR]
theorem dZ.pop{p:dL}{s:Pl}{g:eJ}{w w':aa}{t m:Nat}(h:dZ p s g w)(ht:fm s t)(a6:(s.T t).lf=none)(hm:(s.T t).fr.length=m+1)(hT:Full w' (g.tb t) 160 7 7 (eC (gz p s g t) 1 (.slice (g.ro 12 t).1 m (g.ro 12 t).2)))(hK:w'.ownsRow 0 184 1 (.slice (g.ro 12 t).1 m (g.ro 12 t).2) m (((List.range m).map (g.fb t)).map P0))(hO:dM (λk=>k=g.tb t\/fi (g.ro 12 t).1=some k) w w'):Tr p s g w (s.pop t) g w':=by
 have o:∀u,u≠t->(s.pop t).T u=s.T u:=λu e=>dR _ _ e;have y:(s.pop t).T t=(s.T t).mz (s.T t).fr.dropLast:=di _ _ _;have a0:((s.pop t).T t).fr.length=m:=by rw[y];show(s.T t).fr.dropLast.length=_;rw[eY,hm];rfl
 have a2:∀a b,¬(a=12/\b=t)->eS (s.pop t) a b=eS s a b:=λa b e=>by
  by_cases eb:b=t
  .have i:a≠12:=λi=>e ⟨i,eb⟩;unfold eS;simp only[au i];rfl
  exact jX rfl rfl rfl rfl rfl eR rfl
 have a5:∀a b,¬(a=12/\b=t)->gu (s.pop t) g a b=gu s g a b:=λa b e=>by
  by_cases i:a=12
  .grind[m8]
  unfold gu;simp only[au i];rfl
 have H:∀a b,¬(a=12/\b=t)->sl (s.pop t) g a b=sl s g a b:=λa b e=>by
  grind[sl]
 have W:sl (s.pop t) g 12 t=.slice (g.ro 12 t).1 m (g.ro 12 t).2:=by
  unfold sl;rw[jY,a0]
 have a4:∀a b c,¬((a=13\/a=14)/\b=t/\c=m)->gY (s.pop t) a b c=gY s a b c:=λa b c e=>by
  by_cases eb:b=t
  .by_cases i:a=13\/a=14
   .have ec:c≠m:=λec=>e ⟨i,eb,ec⟩;unfold gY;rw[eD,eD,eD,eD,bf i,eD,eD,eD,eD,bf i];have e1:((s.pop t).T b).fr.length=m:=eV eb a0
    have e2:(s.T b).fr.length=m+1:=eV eb hm;rw[e1,e2];have a1:(s.pop t).nt=s.nt:=rfl;rw[a1];by_cases hc:c<m
    .have:c<m+1:=by omega
     simp[hc,this]
    have:¬c<m+1:=by omega
    simp[hc,this]
   unfold gY;have a1:(s.pop t).nt=s.nt:=rfl;rw[a1,au i];by_cases a7:a=17
   .have:((s.pop t).T b).lf=(s.T b).lf:=by rw[eb,y];rfl
    rw[this,au i]
   simp only[au a7,au i]
  exact nB rfl (by rw[o b eb]) (λ_ _=>by rw[o b eb])
 have a3:∀a,a=13\/a=14->¬gY (s.pop t) a t m=true:=λa ha Y=>by
  have:=(nA Y ha).2;omega
 refine h.to (λa b c=>(a=11/\b=t/\c=0)\/(a=12/\b=t/\c=0)\/((a=13\/a=14)/\b=t/\c=m)) (λ_=>(0,0,0)) (hO.mono (λk G _=>?_)) (λa b c J=>?_) (λa b c J=>?_) (λa b c k J G=>?_)
 .rcases G with G|G
  .exact⟨11,t,0,af ⟨rfl,rfl,rfl⟩,by rw[kU p g ht];exact G⟩
  exact⟨12,t,0,ah (af ⟨rfl,rfl,rfl⟩),by rw[gQ p g (by unfold fe;omega) (iE ag ht)];exact G⟩
 .refine kT (a4 a b c (λe=>J (ah (ah e)))) (λY=>mK Y (λ_=>ky (λa b _ _ e _=>H a b (λhh=>e hh.1)) rfl rfl) (λ_=>⟨rfl,rfl,rfl⟩) ?_ ?_ ?_ (λ_=>rfl) (λ_=>⟨rfl,rfl⟩) ?_ ?_)
  .intro i;have eb:b≠t:=λe=>J (af ⟨i,e,(kj Y ag).2⟩);refine⟨rfl,?_⟩;funext j
   unfold gz;rw[H 12 b (λe=>eb e.2),H 5 b (λe=>by omega),o b eb]
  .intro i;subst i;obtain⟨hb,hc⟩:=nA Y ag;refine⟨rfl,?_⟩;rw[pJ s (λe=>by
    subst e;have:c≠m:=λe=>J (ah (ah ⟨af rfl,rfl,e⟩));omega)]
  .intro i;subst i;obtain⟨hb,hc⟩:=nA Y ag;exact⟨rfl,pJ s (λe=>by
    subst e;have:c≠m:=λe=>J (ah (ah ⟨ah rfl,rfl,e⟩));omega)⟩
  .intro i;subst i;have hl:=(mg Y).2.2;have eb:b≠t:=λe=>by rw[e,a6]at hl;cases hl
   refine⟨rfl,?_⟩;unfold wK;rw[o b eb]
  intro ha;have e:¬(a=12/\b=t):=λe=>J (ah (af ⟨e.1,e.2,rK Y ha⟩));exact⟨rfl,a2 a b e,a5 a b e⟩
 .rcases J with⟨rfl,rfl,rfl⟩|⟨rfl,rfl,rfl⟩|⟨Z,rfl,rfl⟩
  .rw[hZ (show gY (s.pop b) 11 b 0=true from iE ag ht)];refine Full.congr hT (λj hj=>?_);have hc:=oU 6 j ag
   rcases hc with rfl|rfl|rfl|rfl|rfl|rfl|rfl
   .rfl
   .exact W.symm
   .show Value.bool (s.T b).run=Value.bool ((s.pop b).T b).run;rw[y];rfl
   .show wF p g (s.T b).wh=wF p g ((s.pop b).T b).wh;rw[y];rfl
   .show yL g b (s.T b).lf=yL g b ((s.pop b).T b).lf;rw[y];rfl
   .show Value.int .i64 (s.T b).iM=Value.int .i64 ((s.pop b).T b).iM;rw[y];rfl
   exact(H 5 b (λe=>by omega)).symm
  .rw[hZ (show gY (s.pop b) 12 b 0=true from iE ag ht),g9 (by unfold fe;omega)];show w'.ownsRow 0 184 1 (sl (s.pop b) g 12 b) (eS (s.pop b) 12 b) (gu (s.pop b) g 12 b);rw[W,jY,m8,a0];exact hK
  rw[vw (a3 a Z)];exact trivial
 rcases J with⟨rfl,rfl,rfl⟩|⟨rfl,rfl,rfl⟩|⟨Z,rfl,rfl⟩
 .rw[kU p _ (show fm (s.pop b) b from ht)]at G;rw[kU p g ht];exact af G
 .rw[gQ p _ (by unfold fe;omega) (show gY (s.pop b) 12 b 0=true from iE ag ht)]at G;rw[gQ p g (by unfold fe;omega) (iE ag ht)];exact af G
 rw[vw (a3 a Z)]at G;exact G.elim
def qA.lK(v:qA)(k:Nat×Nat×Nat×Nat):qA:={ v with lf:=some k }
def eJ.left(g:eJ)(t b:Nat):eJ:={ g with sx:=λu=>if u=t then b else g.sx u }
def left_at(g:eJ)(t b:Nat):(g.left t b).sx t=b:=bf rfl
def yN(g:eJ)(b:Nat)(h:u≠t):(g.left t b).sx u=g.sx u:=au h
theorem Tr.left{p:dL}{s0 s:Pl}{g0 g:eJ}{w0 w w':aa}{t b:Nat}{k4:Nat×Nat×Nat×Nat}(h0:Tr p s0 g0 w0 s g w)(ht:fm s t)(hT:Full w' (g.tb t) 160 7 7 (eC (gz p s g t) 4 (Fv 207 #[P0 b])))(hb:w'.heap[b]? = some (ju k4.1 k4.2.1 k4.2.2.1 k4.2.2.2 (g.fb t ((s.T t).fr.length-1)) (g.tb t) p.eb))(hn:¬eH p s g b)(hz:w0.heap.size<=b)(hO:dM (λk=>k=g.tb t) w w'): Tr p s0 g0 w0 (s.dx t ((s.T t).lK k4)) (g.left t b) w':=by
 have o:∀u,u≠t->(s.dx t ((s.T t).lK k4)).T u=s.T u:=λu e=>dR _ _ e;have G:∀u,((s.dx t ((s.T t).lK k4)).T u).fr=(s.T u).fr:=λu=>by
  by_cases e:u=t
  .subst e;rw[di];rfl
  grind
 have y:(s.dx t ((s.T t).lK k4)).T t=(s.T t).lK k4:=di _ _ _;have a0:∀a i,eS (s.dx t ((s.T t).lK k4)) a i=eS s a i:=λa i=>jX rfl rfl rfl rfl rfl (by rw[G]) rfl;have H:∀a i,sl (s.dx t ((s.T t).lK k4)) (g.left t b) a i=sl s g a i:=λa i=>by
  unfold sl;rw[a0 a i];rfl
 have a2:∀a i c,¬(a=17/\i=t/\c=0)->gY (s.dx t ((s.T t).lK k4)) a i c=gY s a i c:=λa i c e=>
  nB rfl (by rw[G]) (λY ec=>by grind)
 have J:gY (s.dx t ((s.T t).lK k4)) 17 t 0=true:=Dr ht (jx y);refine h0.to (λa i c=>(a=11/\i=t/\c=0)\/(a=17/\i=t/\c=0)) (λ_=>(17,t,0)) (hO.mono (λk Z _=>⟨11,t,0,af ⟨rfl,rfl,rfl⟩,by grind[kU]⟩)) (λa i c W=>?_) (λa i c W=>?_) (λa i c k W Z=>?_)
 .refine kT (a2 a i c (λe=>W (ah e))) (λhV=>mK hV (λ_=>ky (λa b _ _ _ _=>H a b) rfl rfl) (λ_=>⟨rfl,rfl,rfl⟩) ?_ ?_ ?_ (λ_=>rfl) (λ_=>⟨rfl,rfl⟩) ?_ (λ_=>⟨rfl,a0 a i,qR rfl rfl rfl rfl rfl rfl rfl (by rw[G]) rfl⟩))
  .intro Y;have eb:i≠t:=λe=>W (af ⟨Y,e,(kj hV ag).2⟩);refine⟨rfl,?_⟩;funext j
   unfold gz;rw[H,H,o i eb];unfold yL;rw[yN g b eb];rfl
  .intro Y;refine⟨rfl,?_⟩;unfold dq;rw[G];rfl
  .intro Y;refine⟨rfl,?_⟩;grind[dq]
  intro Y;subst Y;have eb:i≠t:=λe=>W (ah ⟨rfl,e,(mg hV).2.1⟩);refine⟨yN g b eb,?_⟩;unfold wK;rw[o i eb];rfl
 .rcases W with⟨rfl,rfl,rfl⟩|⟨rfl,rfl,rfl⟩
  .rw[hZ (show gY (s.dx i ((s.T i).lK k4)) 11 i 0=true from iE ag ht)];refine Full.congr hT (λj hj=>?_);have hc:=oU 6 j ag
   rcases hc with rfl|rfl|rfl|rfl|rfl|rfl|rfl
   .rfl
   .exact(H 12 i).symm
   .show Value.bool (s.T i).run=Value.bool ((s.dx i ((s.T i).lK k4)).T i).run;rw[y];rfl
   .show wF p g (s.T i).wh=wF p (g.left i b) ((s.dx i ((s.T i).lK k4)).T i).wh;rw[y];rfl
   .show Fv 207 #[P0 b]=yL (g.left i b) i ((s.dx i ((s.T i).lK k4)).T i).lf;rw[y];show _=Fv 207 #[P0 ((g.left i b).sx i)];rw[left_at]
   .show Value.int .i64 (s.T i).iM=Value.int .i64 ((s.dx i ((s.T i).lK k4)).T i).iM;rw[y];rfl
   exact(H 5 i).symm
  rw[hZ J];show w'.heap[(g.left i b).sx i]? = some (wK p (s.dx i ((s.T i).lK k4)) (g.left i b) i);rw[left_at,hb];unfold wK;rw[y];rfl
 rcases W with⟨rfl,rfl,rfl⟩|⟨rfl,rfl,rfl⟩
 .rw[kU p _ (show fm (s.dx i ((s.T i).lK k4)) i from ht)]at Z;rw[kU p g ht];exact af Z
 rw[hZ J]at Z;have a1:k=(g.left i b).sx i:=Z;rw[left_at]at a1;subst a1;exact ah ⟨hn,hz,rfl⟩
def rZ:qA:=⟨[],false,none,none,0⟩
def Pl.new(s:Pl):Pl:={ s with nt:=s.nt+1,T:=λi=>if i=s.nt+1 then rZ else s.T i,q:=λa b=>if a=5/\b=s.nt+1 then[] else s.q a b }
def eJ.new(g:eJ)(t tb xe xt:Nat):eJ:={ g with tb:=λi=>if i=t then tb else g.tb i,xe:=λi=>if i=t then xe else g.xe i,xt:=λi=>if i=t then xt else g.xt i,ro:=λa b=>if(a=5\/a=12)/\b=t then(none,0) else g.ro a b }
theorem nU(s:Pl)(h:t≠s.nt+1):s.new.T t=s.T t:=au h
def mL(s:Pl):s.new.T (s.nt+1)=rZ:=bf rfl
theorem qZ(s:Pl){a b:Nat}(h:¬(a=5/\b=s.nt+1)):s.new.q a b=s.q a b:=au h
theorem uC(s:Pl):s.new.q 5 (s.nt+1)=[]:=bf ⟨rfl,rfl⟩
def JA(s:Pl):s.new.nt=s.nt+1:=rfl
theorem nY(g:eJ){tb xe xt:Nat}(h:u≠t):(g.new t tb xe xt).tb u=g.tb u/\(g.new t tb xe xt).xe u=g.xe u/\(g.new t tb xe xt).xt u=g.xt u:=⟨au h,au h,au h⟩
def lL(g:eJ)(t tb xe xt:Nat):(g.new t tb xe xt).tb t=tb/\(g.new t tb xe xt).xe t=xe/\(g.new t tb xe xt).xt t=xt:=⟨bf rfl,bf rfl,bf rfl⟩
theorem xl(g:eJ){tb xe xt a b:Nat}(h:¬((a=5\/a=12)/\b=t)):(g.new t tb xe xt).ro a b=g.ro a b:=au h
def E4(g:eJ){tb xe xt a:Nat}(h:a=5\/a=12):(g.new t tb xe xt).ro a t=(none,0):=bf ⟨h,rfl⟩
def GP(s:Pl){a b c:Nat}(Y:¬((a=5\/a=11\/a=12\/a=15\/a=16)/\b=s.nt+1/\c=0)):gY s.new a b c=gY s a b c:=by
 unfold gY;rw[JA];by_cases o:a<=1\/a=2\/a=3\/(6<=a/\a<=9)\/a=18
 .grind
 rw[au o,au o];by_cases u:a=4\/a=10
 .grind
 rw[au u,au u];by_cases i:a=5\/a=11\/a=12\/a=15\/a=16
 .rw[bf i,bf i];grind
 rw[au i,au i];by_cases H:b=s.nt+1
 .subst H;rw[mL];have G:¬(1<=s.nt+1/\s.nt+1<=s.nt/\c=0):=ag
  have y:¬(1<=s.nt+1/\s.nt+1<=s.nt/\c<(s.T (s.nt+1)).fr.length):=ag;have J:¬(1<=s.nt+1/\s.nt+1<=s.nt+1/\c<rZ.fr.length):=by
   show ¬(_/\_/\c<0);omega
  rw[eW G,eW y,eW J];have W:rZ.lf.isSome=false:=rfl;grind
 grind[nU,decide]
structure MW(s:Pl):Prop where
 a:∀x y,fN s x y->∀t,t∈s.q x y->fm s t
 b:∀t,t∈s.lv->fm s t
 c:∀t,fm s t->∀x y,(s.T t).wh=some (x,y)->fN s x y
def Dn(h:gY s x y 0=true)(hx:2<=x/\x<=5):fN s x y:=by
 by_cases i:x=2
 .exact af ⟨i,(lT h ag).1⟩
 by_cases e:x=3
 .exact ah (af ⟨e,(lT h ag).1⟩)
 by_cases o:x=4
 .exact ah (ah (af ⟨o,(zH h ag).1⟩))
 exact ah (ah (ah ⟨ag,(kj h ag).1⟩))
def Jx{tb xe xt:Nat}(hM:MW s){a b c:Nat}(hC:¬((a=5\/a=11\/a=12\/a=15\/a=16)/\b=s.nt+1/\c=0)):ob p s.new (g.new (s.nt+1) tb xe xt) a b c=ob p s g a b c:=by
 have i:∀{t},fm s t->t≠s.nt+1:=λh=>by have:=h.2;omega
 have u:∀{t},fm s t->(g.new (s.nt+1) tb xe xt).tb t=g.tb t:=λh=>(nY g (i h)).1;have a0:∀a b,¬((a=5\/a=12)/\b=s.nt+1)->eS s.new a b=eS s a b:=λa b e=>by
  unfold eS;by_cases G:a=12
  .grind[nU,qZ]
  rw[qZ s (λY=>e ⟨af Y.1,Y.2⟩)];simp only[au G];rfl
 have J:∀a b,¬((a=5\/a=12)/\b=s.nt+1)->sl s.new (g.new (s.nt+1) tb xe xt) a b=sl s g a b:=λa b e=>by
  grind[sl,xl]
 refine kT (GP s hC) (λH=>mK H ?_ (λ_=>⟨rfl,rfl,rfl⟩) ?_ ?_ ?_ ?_ ?_ ?_ ?_)
 .intro _;exact ky (λa b _ e5 W _=>J a b (λe=>e.1.elim e5 W)) rfl rfl
 .intro G;have o:=(kj H ag).1;have eb:=i o;refine⟨u o,?_⟩;funext j
  unfold gz;rw[J 12 b (λe=>eb e.2),J 5 b (λe=>eb e.2),nU s eb];have hw:wF p (g.new (s.nt+1) tb xe xt) (s.T b).wh=wF p g (s.T b).wh:=by
   cases hwh:(s.T b).wh with
   | none=>rfl
   | some xy=>
    obtain⟨x,y⟩:=xy;show Pt (pL p (g.new (s.nt+1) tb xe xt) x y) (ri x y)=Pt (pL p g x y) (ri x y);unfold pL;by_cases Z:x=5
    .rw[bf Z,bf Z,u (nG (hM.c b o x y hwh) Z)]
    grind
  rw[hw];rfl
 .intro G;have o:=(nA H ag).1;refine⟨rfl,?_⟩;have e1:dq s.new b c=dq s b c:=by unfold dq;rw[nU s (i o)]
  rw[e1];unfold zD xM;rw[(nY g (i o)).2.1,(nY g (i o)).2.2,u o];rfl
 .intro G;have o:=(nA H ag).1;refine⟨rfl,?_⟩;grind[dq,nU]
 .intro G;exact(nY g (i (kj H ag).1)).2.1
 .grind[kj,nY]
 .intro G;subst G;have o:=(mg H).1;refine⟨rfl,?_⟩;unfold wK;rw[nU s (i o),u o];rfl
 intro ha;have ec:=rK H ha;subst ec;have e:¬((a=5\/a=12)/\b=s.nt+1):=λe=>hC ⟨ag,e.2,rfl⟩;refine⟨xl g e,a0 a b e,?_⟩;by_cases G:2<=a/\a<=5
 .have hl:=Dn H G;rw[pr _ _ hl,pr _ _ hl,qZ s (λY=>e ⟨af Y.1,Y.2⟩)];congr 1
  exact List.map_congr_left (λt ht=>u (hM.a a b hl t ht))
 unfold gu;by_cases e6:a=6
 .simp only[bf e6];congr 1
  exact List.map_congr_left (λt ht=>u (hM.b t ht))
 by_cases W:a=12
 .subst W;have o:=(kj H ag).1;simp only[au e6];rw[nU s (i o)];rfl
 obtain⟨r1,r2,r3⟩:=ha;have:a=7\/a=8\/a=9\/a=10:=by omega
 rcases this with rfl|rfl|rfl|rfl<;>rfl
def AW(l:List tU)(a b:Nat)(_:fe a)(i:a=4\/a=5\/a=10\/a=12\/b=0)(h:¬(a=9/\b=0)):eS { s with ev:=l } a b=eS s a b/\gu { s with ev:=l } g a b=gu s g a b:=by
 have e:a≠9:=ag;exact⟨by unfold eS;grind,by unfold gu;grind⟩
theorem kC(a:Option Addr)(n c k:Nat):(Value.slice a n c).ownBlock=some k↔fi a=some k:=by rw[dF]
def Pl.told(s:Pl)(kind t:Nat)(x:Int):Pl:={ s with ev:=s.ev++[(kind,t,x)] }
def DC(kind:Nat)(x:Int)(h:dZ p s g w)(ht:fm s t)(hn:s.ev.length<=100000): eL 173 #[P0 p.eb,aj kind,P0 (g.tb t),aj x] w λw'=>∃r,Tr p s g w (s.told kind t x) (g.at 9 0 r) w':=by
 have o:gY s 9 0 0=true:=iV ag;refine du (Lh p.eb (g.tb t) kind t x (g.ro 9 0).1 s.ev.length (g.ro 9 0).2 s.ev (iH p s g) (gz p s g t) w h.E rfl (h.tk ht) rfl (h.row (x:=9) (y:=0) (by grind[fe]) o) hn) ?_;rintro w' ⟨gb,c,J,Y,W,u⟩;have G:eS (s.told kind t x) 9 0=s.ev.length+1:=by show(s.ev++[(kind,t,x)]).length=_;rw[cw];rfl
 refine⟨rfl,(some (ay gb 0),c),h.uS (j0:=43) ag o ek rfl rfl rfl rfl rfl rfl rfl (λa b c d e=>AW _ a b c d e) ?_ ?_ (W.mono (λk i _=>?_)) (λk i=>?_)⟩
 .grind
 .rw[G];exact J
 .grind[kC]
 have e:gb=k:=by injection i
 grind[kC]
def jc.set(f:jc)(a:Nat)(v:B.V):jc:={ f with R:=B.set f.R a v }
theorem Fc(h:dZ p s g w)(ht:fm s t)(hi:i<(s.T t).fr.length):g.fb t i≠g.rb t i:=by
 obtain⟨u,o,_⟩:=h.rg ht hi;exact λe=>eE o (h.fr ht hi) ek e.symm
def se{a:Nat}(op b c tb eb:Nat)(v:B.V)(h:dZ p s g w)(ht:fm s t)(hi:i<(s.T t).fr.length)(y:a<p.rg (dq s t i).f): eL 149 #[ed op a b c (g.fb t i) tb eb,vA v] w λw'=>Tr p s g w (s.dJ t i ((dq s t i).set a v)) g w':=by
 refine du (kH op a b c (g.fb t i) tb eb _ _ _ _ _ _ (dq s t i).R v w (h.fr ht hi) (h.rg ht hi) y) ?_;rintro w' ⟨o,u⟩;refine⟨rfl,h.Nz ht hi ?_ u (jB o (ah rfl))⟩;exact da o (h.fr ht hi) (by grind[Fc])
def N9(h:dZ p s g w)(ht:fm s t)(hi:i<(s.T t).fr.length)(e:f.f=(dq s t i).f)(u:f.bk=(dq s t i).bk)(o:Fr w' (g.fb t i) (p.cb (dq s t i).f) (p.len (dq s t i).f) f.nx (g.rb t i) (p.rg (dq s t i).f) (xM p g t i (dq s t i).bk) f.R)(y:dM (λk=>k=g.fb t i\/k=g.rb t i) w w'):Tr p s g w (s.dJ t i f) g w':=by
 refine h.Nz ht hi ?_ ?_ y
 .unfold zD;rw[e,u];exact o.1
 rw[e];exact o.2.1
def dZ.Fr(h:dZ p s g w)(ht:fm s t)(hi:i<(s.T t).fr.length):Fr w (g.fb t i) (p.cb (dq s t i).f) (p.len (dq s t i).f) (dq s t i).nx (g.rb t i) (p.rg (dq s t i).f) (xM p g t i (dq s t i).bk) (dq s t i).R:=⟨h.fr ht hi,h.rg ht hi,Fc h ht hi⟩
def Gv{size n:Nat}{e:TypeId}{v:Value}{xs:List Value}(h:w.ownsRow i e size v n xs):∃a c,v=.slice a n c:=by
 rcases h.2 with⟨o,y⟩|⟨g,c,u,o,_⟩
 .grind
 grind
def Pl.mX(s:Pl)(j:Nat)(v:B.V):Pl:={ s with out:=s.out.set j v,kp:=jS s.kp v }
def Gu(j:Nat)(v:B.V)(a b:Nat)(_:fe a)(o:a=4\/a=5\/a=10\/a=12\/b=0)(h:¬(a=8/\b=0)):eS (s.mX j v) a b=eS s a b/\(¬(a=7/\b=0)->gu (s.mX j v) g a b=gu s g a b):=by
 have e:a≠8:=ag;by_cases i:a=7
 .subst i;refine⟨?_,λh=>dp ⟨rfl,ag⟩ h⟩;show(s.out.set j v).length=s.out.length;grind
 exact⟨by unfold eS Pl.mX;grind,λ_=>by unfold gu Pl.mX;grind⟩
def LP(v:B.V)(h:dZ p s g w)(hj:j<s.out.length)(hm:s.out.length<=1000000000)(i:s.kp.length<=1000000): eL 211 #[P0 p.eb,aj ((j:Int)+1),vA v] w λw'=>∃r,Tr p s g w (s.mX j v) (g.at 8 0 r) w':=by
 have u:gY s 7 0 0=true:=iV ag;have G:gY s 8 0 0=true:=iV ag;have h7:=h.row (x:=7) (y:=0) (by grind[fe]) u;have a0:eS s 7 0=s.out.length:=rfl;obtain⟨ob,W,Z⟩:=ee h7 ag;have o:sl s g 7 0=dA ob s.out.length W:=Z;have J:g.ro 7 0=(some (ay ob 0),W):=by
  unfold sl at o;injection o with a b c;exact fV a c
 refine(LQ p.eb ob s.out.length W j s.kp.length (g.ro 8 0).2 (g.ro 8 0).1 v s.out s.kp (iH p s g) w h.E o (by rw[<-o];exact h7) rfl (h.row (x:=8) (y:=0) (by grind[fe]) G) hj hm i (λx hx=>?_)).mono ?_
 .rw[kC]at hx;exact h.ne (x:=8) (y:=0) (z:=0) (x':=7) (y':=0) (z':=0) (by grind[gQ,fe]) (by rw[gQ p g (by grind[fe]) u,J];rfl) ag
 rintro e w' ⟨rfl,vv,k1,k2,k3,k4,H⟩;obtain⟨a',c',rfl⟩:=Gv k3;refine⟨rfl,(a',c'),h.Bw (x2:=7) (y2:=0) (j0:=31) ag G ag u ek rfl rfl rfl rfl rfl rfl rfl (λa b c d e=>Gu j v a b c d e) k1 k3 (λ_=>?_) (k4.mono (λk i _=>?_)) (λk i=>?_)⟩
 .rw[o];exact k2
 .rw[kC]at i;rw[J];rcases i with i|i|i
  .omega
  .exact ah (ah (jx i))
  grind
 grind[dF]
end F
section
def MC(s:ByteArray)(w w':aa)(e:Ending)(r:Nat×Bool):Prop:=∃(ad:Option Addr) (n c:Nat),e=.returned (.tuple #[.slice ad n c,.int .i64 (if r.2=true then 0 else(r.1:Int)),.bool r.2]) /\
 (r.2=true->n=M.bt s 0/\c=n/\1<=n/\n<=8/\∃g,ad=some ⟨g,0,none⟩/\tT w' s w.heap.size g n n)
def D9(s:ByteArray)(w:aa)(H:s.size<=maxLen)(o:og w): Calls prog 37 #[.string s] w λe w'=>MC s w w' e (M.m9 s)/\Below w.heap.size w w':=by
 have hn:w.heap.size≠0:=gp o.1;have HS:Hid (s.size<=maxLen):=H;have i:Hid (og w):=o;go_in;go_wp2_with fail
 refine(yx w.heap.size s 0 0 0 (w.alloc (.cells #[.string s,aj 0,aj 0,aj 0,aj 0] 128)) (bl w _) HS hn (i.alloc _)).mono ?_;rintro e w1 ⟨⟨ad,n,c,rfl,y⟩,f',r',l',J,u⟩;have Z:Hid ((M.m9 s).2=true->n=M.bt s 0/\c=n/\1<=n/\n<=8/\∃g,ad=some (ay g 0)/\tT w1 s w.heap.size g n n):=λh=>by
  obtain⟨a1,a2,Y,a4,g,a5,a6,a7⟩:=y h;exact⟨a1,a2,Y,a4,g,a5,by have:=a6;simp at this;omega,a7⟩
 clear y;have G:=uY u;obtain⟨x0,x1,_,_,_⟩:=fA J;generalize hR:M.m9 s=R at *;have W:=bj hR;obtain⟨P,ok⟩:=R
 cases ok
 .go_wp2
  go_quiet (fail)
  go_wp2
  go_ret3
  exact⟨by rw[W.out];exact⟨_,_,_,rfl,λh=>by cases h⟩,below_drewN G _⟩
 go_wp2
 go_ret3
 exact⟨by rw[W.out];exact⟨_,_,_,rfl,λ_=>Z trivial⟩,G⟩
def vm(n m:Int):Bool:=decide (1<=n/\n<=m)
def iL(n m:Int)(w:aa):Calls prog 55 #[.int .i64 n,.int .i64 m] w λe w'=>e=.returned (.bool (vm n m))/\w'=w:=by
 by_cases u:1<=n
 .by_cases o:n<=m
  .have e:vm n m=true:=by simp[vm];omega
   rw[e]
   go_in;go_wp2
   go_ret;exact⟨rfl,rfl⟩
  have e:vm n m=false:=by simp[vm];omega
  rw[e]
  go_in;go_wp2
  go_ret;exact⟨rfl,rfl⟩
 have e:vm n m=false:=by simp[vm];omega
 rw[e]
 go_in;go_wp2
 go_ret;exact⟨rfl,rfl⟩
def uA(c0 c1 c2 c3:Int):Bool:=vm c0 200 && (vm c1 50 && (vm c2 50 && vm c3 16))
def Cs(c0 c1 u y:Int)(w:aa):Calls prog 36 #[.agg #[.int .i64 c0,.int .i64 c1,.int .i64 u,.int .i64 y]] w λe w'=>e=.returned (.bool (uA c0 c1 u y))/\Below w.heap.size w w':=by
 unfold uA
 cases h0:vm c0 200
 .have i:=bj h0;go_in;go_wp2_with fail
  refine(iL _ _ _).mono ?_;rintro e w1 ⟨rfl,rfl⟩;rw[i.out];go_wp2_with fail
  go_ret;exact⟨rfl,(fQ _ _).alloc (bq _) _⟩
 cases h1:vm c1 50
 .have i:=bj h0;have o:=bj h1;go_in;go_wp2_with fail
  refine(iL _ _ _).mono ?_;rintro e w1 ⟨rfl,rfl⟩;rw[i.out];go_wp2_with fail
  refine(iL _ _ _).mono ?_;rintro e w1 ⟨rfl,rfl⟩;rw[o.out];go_wp2_with fail
  go_ret;exact⟨rfl,(fQ _ _).alloc (bq _) _⟩
 cases h2:vm u 50
 .have i:=bj h0;have o:=bj h1;have G:=bj h2;go_in;go_wp2_with fail
  refine(iL _ _ _).mono ?_;rintro e w1 ⟨rfl,rfl⟩;rw[i.out];go_wp2_with fail
  refine(iL _ _ _).mono ?_;rintro e w1 ⟨rfl,rfl⟩;rw[o.out];go_wp2_with fail
  refine(iL _ _ _).mono ?_;rintro e w1 ⟨rfl,rfl⟩;rw[G.out];go_wp2_with fail
  go_ret;exact⟨rfl,(fQ _ _).alloc (bq _) _⟩
 have i:=bj h0;have o:=bj h1;have G:=bj h2;generalize H:vm y 16=x;have J:Hid (vm y 16=x):=H;go_in;go_wp2_with fail
 refine(iL _ _ _).mono ?_;rintro e w1 ⟨rfl,rfl⟩;rw[i.out];go_wp2_with fail
 refine(iL _ _ _).mono ?_;rintro e w1 ⟨rfl,rfl⟩;rw[o.out];go_wp2_with fail
 refine(iL _ _ _).mono ?_;rintro e w1 ⟨rfl,rfl⟩;rw[G.out];go_wp2_with fail
 refine(iL _ _ _).mono ?_;rintro e w1 ⟨rfl,rfl⟩;rw[J.out];go_wp2_with fail
 go_ret;exact⟨eB,(fQ _ _).alloc (bq _) _⟩
def told(s:ByteArray)(c0 c1 c2 c3:Int):Int×Int×Bool:=
 if uA c0 c1 c2 c3=true then(if(M.m9 s).2=true then(0,0,true) else(2,((M.m9 s).1:Int),false)) else(1,0,false)
