import Derived.Test.YtnjiinbhbjpfkaaGreatDoorTZ
import Derived.Test.YtnjiinbhbjpfkaaGreatDoorTN
set_option maxRecDepth 100000
set_option maxHeartbeats 0
set_option linter.all false
namespace Go.Proofs.YtnjiinbhbjpfkaaGreatDoor
open Go.RowKit Go.Proofs.Tryz
namespace F
def jE(v:B.V):Prop:=-9223372036854775808<=v.2/\v.2<=9223372036854775807
structure Ng(s:Pl):Prop where
 F:∀t f,f∈(s.T t).fr->∀a,jE (f.R a)
 M:∀c v,v∈s.M c->jE v
 O:∀v,v∈s.out->jE v
variable {p:dL}{s s':Pl}{t:Nat}
theorem jE.n{x:Int}(i:-9223372036854775808<=x)(e:x<=9223372036854775807):jE (0,x):=⟨i,e⟩
theorem jE.z:jE (0,0):=⟨ek,ek⟩
theorem jE.getD{l:List B.V}(h:∀v,v∈l->jE v)(i:Nat):jE (l.getD i (0,0)):=by
 grind[List.getElem?_eq_getElem,List.getElem_mem,List.getElem?_eq_none,jE.z]
theorem jE.wrap(x:Int):jE (0,B.wrap x):=by
 grind[B.wrap,jE.n]
theorem jE.arith(o:Nat)(x y:Int):jE (0,arith o x y):=by
 grind[F.arith,jE.wrap,sP,jE.n,jE.z]
theorem jE.wide{b c:Nat}(e:b<256)(i:c<256):jE (0,B.wide b c):=by
 grind[B.wide,jE.n]
theorem Ng.at(h:Ng s)(t i a:Nat):jE ((dq s t i).R a):=by
 unfold dq;rw[cr];by_cases e:i<(s.T t).fr.length
 .rw[bz e];exact h.F t _ (List.getElem_mem e) a
 rw[dK ag];exact jE.z
theorem Ng.slot(h:Ng s)(c i:Nat):jE ((s.M c).getD i (0,0)):=jE.getD (h.M c) i
theorem Ng.same(h:Ng s)(u:∀t,(s'.T t).fr=(s.T t).fr:=by intro t;rfl)(o:s'.M=s.M:=by rfl)(e:s'.out=s.out:=by rfl):Ng s':=
 ⟨λt f i=>h.F t f eR,eV o h.M,eV e h.O⟩
theorem Ng.dx(h:Ng s){x:qA}(hx:∀f,f∈x.fr->∀a,jE (f.R a)):Ng (s.dx t x):=
 ⟨λu f i=>by
  by_cases e:u=t
  .subst e;rw[di]at i;grind
  have:(s.dx t x).T u=s.T u:=au e;rw[this]at i;exact h.F u f i,h.M,h.O⟩
theorem Ng.dJ(h:Ng s)(i:Nat){f:jc}(G:∀a,jE (f.R a)):Ng (s.dJ t i f):=
 h.dx (λy u=>by
  grind[List.mem_or_eq_of_mem_set,F.Ng.F])
theorem Ng.set{f:jc}(e:∀a,jE (f.R a))(a:Nat){v:B.V}(i:jE v)(b:Nat):jE ((f.set a v).R b):=by
 show jE (B.set f.R a v b);grind[B.set]
theorem Ng.oK(h:Ng s)(i a:Nat){v:B.V}(e:jE v):Ng (s.dJ t i ((dq s t i).set a v)):=h.dJ i (Ng.set (λb=>h.at t i b) a e)
theorem Ng.join(h:Ng s)(x y t:Nat):Ng (s.dY x y t):=h.same (λu=>yQ s x y t u) (jg s x y t).2.2.2.2.2.2.1 (jg s x y t).2.1
theorem Ng.gn(h:Ng s)(t:Nat){v:B.V}(e:jE v):Ng (s.gn t v):=by
 grind[Pl.gn,F.Ng.join,F.Ng.oK]
theorem Ng.eo{v:B.V}(e:jE v):∀(l:List Nat) {s:Pl},Ng s->Ng (s.eo v l)
 | [],_,h=>h
 | u :: l,s,h=>by
  show Ng ((s.gn u v).eo v l);exact Ng.eo e l (h.gn u e)
theorem Ng.gone(h:Ng s)(t kind:Nat)(x:Int){v:B.V}(o:jE v):Ng (s.gone t v kind x):=by
 obtain⟨_,W,_,_,_,_,J,_⟩:=ja s t v kind x;refine⟨λu f G=>?_,eV J h.M,λy i=>?_⟩
 .refine h.F u f ?_;rw[<-kg s t u];have H:((s.gone t v kind x).T u).fr=((s.dz t).T u).fr:=by
   show(((s.dz t).dx t ((s.dz t).T t).stop).T u).fr=_;by_cases e:u=t
   .subst e;rw[di];rfl
   rw[show((s.dz t).dx t ((s.dz t).T t).stop).T u=(s.dz t).T u from au e]
  grind
 rw[W]at i;grind[List.mem_or_eq_of_mem_set,F.Ng.O]
theorem Ng.leave(h:Ng s)(t kind:Nat)(x:Int){v:B.V}(e:jE v):Ng (s.leave t v kind x):=Ng.eo e _ (h.gone t kind x e)
theorem Ng.pop(h:Ng s)(t:Nat):Ng (s.pop t):=h.dx (λf e=>h.F t f (List.dropLast_subset _ e))
theorem Ng.back(h:Ng s)(t:Nat){v:B.V}(e:jE v):Ng (s.back t v):=by
 grind[Pl.back,Ng.set,F.Ng.dJ,F.Ng.pop,F.Ng.at,F.Ng.leave]
theorem Ng.ig{u v:B.V}(e:jE u)(i:jE v)(a:Nat):jE (ig u v a):=by
 grind[YtnjiinbhbjpfkaaGreatDoor.ig,jE.z]
theorem Ng.push(h:Ng s)(t:Nat){f:jc}(y:∀a,jE (f.R a)):Ng (s.push t f):=h.dx (λu o=>by
 rcases dV.1 o with e|e
 .exact h.F t u e
 grind)
def Ng.more(h:Ng s):Ng s.more:=by
 refine⟨λt f u=>?_,h.M,λv y=>?_⟩
 .have i:f∈(if t=s.nt+1 then rZ else s.T t).fr:=u;by_cases e:t=s.nt+1
  .rw[bf e]at i
   cases i
  rw[au e]at i;exact h.F t f i
 rcases dV.1 y with e|e
 .exact h.O v e
 rw[fX]at e;rw[e];exact jE.z
theorem Ng.born(h:Ng s)(f:Nat){u v:B.V}(e:jE u)(i:jE v):Ng (s.born f u v):=(h.more.push _ (λa=>Ng.ig e i a)).join 2 0 _
theorem Ng.lay{M:Nat->List B.V}(h:∀c v,v∈M c->jE v)(a:Nat){l:List B.V}(o:∀v,v∈l->jE v):∀c v,v∈B.lay M a l c->jE v:=λc v i=>by
 unfold B.lay at i;grind
theorem Ng.wait(h:Ng s)(x y t:Nat)(k:Nat×Nat×Nat×Nat):Ng (s.wait x y t k):=(h.join x y t).dx (λf e=>(h.join x y t).F t f e)
theorem Ng.iq(h:Ng s)(t:Nat)(u:Int):Ng (s.iq t u):=by
 have y:Ng (s.fK t u):=h.dx (λf e=>h.F t f e);have i:Ng ((s.fK t u).dz t):=y.same (λv=>kg _ t v) (g8 _ t).2.2.2.2.2.2.2.2.1 (g8 _ t).2.1;unfold Pl.iq Pl.into Pl.oL;exact i.same.dx (λf e=>i.F t f e)
def Ng.made(h:Ng s){t a ty:Nat}{l:List B.V}(y:∀v,v∈l->jE v)(u:mM p s t a ty l s'):Ng s':=by
 rcases u with⟨c,e,_,_,_,_,_,rfl⟩|⟨_,e,_,rfl⟩
 .have i:Ng (s.oS e c ty l):=⟨h.F,Ng.lay h.M c y,h.O⟩;exact i.dJ _ (Ng.set (λb=>h.at t _ b) a jE.z)
 have i:Ng (s.dx t (s.T t).stop):=h.dx (λf o=>h.F t f o);exact i.same
def Ng.two(h:Ng s){o a b c:Nat}{why:Int}(e:xT s t o a b c why s'):Ng s':=by
 rcases e with⟨_,_,rfl⟩|⟨_,_,rfl⟩
 .exact h.oK _ a (jE.arith _ _ _)
 exact h
theorem Bs(h:Ng s)(x:B.V):jE (fz s x).2.1:=by
 grind[fz,jE.z,F.Ng.slot]
def Ng.inst(h:Ng s){k:F.vF}{why:Int}(hR:Rn p s t)(hn:s.nt+1<=500000000)(J:Kt p (bw s t).f k)(hi:kM p s t k why s'):Ng s':=by
 obtain⟨i,a,b,c⟩:=k;obtain⟨k1,k2,G,H,_⟩:=J;simp only at k1 k2 G H;have o:∀a,jE ((bw s t).R a):=λa=>h.at t _ a;have W:=oU 22 i ag
 repeat' rcases W with rfl|W
 .rw[hi.2];exact h.oK _ _ (jE.wide G H)
 .rw[hi.2];exact h.oK _ _ (o _)
 .exact h.two hi
 .exact h.two hi
 .exact h.two hi
 .exact h.two hi
 .rw[hi.2];refine h.oK _ _ ?_;grind[jE.n,jE.z]
 .rw[hi.2];exact h.dJ _ o
 .rw[hi.2];exact h.dJ _ o
 .exact h.made (λv y=>by grind[jE.z]) hi.2
 .rcases hi with⟨_,_,e⟩|⟨_,_,e⟩
  .grind[F.Ng.oK,F.Ng.slot]
  grind
 .rcases hi with⟨_,_,e⟩|⟨_,_,e⟩
  .rw[e];exact⟨h.F,Ng.lay h.M _ (λv y=>by
    grind[List.mem_or_eq_of_mem_set,F.Ng.M]),h.O⟩
  grind
 .exact h.made (λv y=>by grind) hi.2
 .rw[hi.2];grind[mS,Ng.ig,Bs,F.Ng.push]
 .rw[hi.2];exact h.back _ (o _)
 .rw[hi.2];grind[lV,Bs,Ng.set,jE.n,F.Ng.dJ,F.Ng.born]
 .rw[hi.2];exact h.join _ _ _
 .rw[hi.2];grind[jl,F.Ng.iq]
 .rw[hi.2];unfold jb;split
  .split
   .show Ng (match gW s ((bw s t).R b).2 with|some u=>s.wait 5 u t (18,a,b,c)|none=>_);grind[jE.getD,F.Ng.wait,F.Ng.oK,F.Ng.O]
   exact h
  exact h
 .rw[hi.2];unfold iz;split
  .split
   .show Ng (match gW s ((bw s t).R a).2 with|some u=>s.leave u (0,-100) 4 0|none=>s);grind[jE.n,F.Ng.leave]
   exact h
  exact h
 .rw[hi.2];unfold jU;split
  .exact h.same
  exact h
 .rw[hi.2];unfold kJ;split
  .split
   .show Ng (match s.ft ((bw s t).R b).2.toNat with|x :: bs=>_|[]=>_);split
    .rename_i x bs e;have Z:=(hR.ok.bt _).2 x (by rw[e];simp);exact h.same.dJ _ (Ng.set o _ (jE.n ag ag))
    exact h.wait _ _ _ _
   exact h
  exact h
 rw[hi.2];exact h.oK _ _ (jE.n (gp hR.ok.c0) (gp hR.ok.c1))
def Ng.start(h:Ng s)(t:Nat):Ng (s.start t):=by
 have e:=h.same (λv=>kg _ t v) (g8 _ t).2.2.2.2.2.2.2.2.1 (g8 _ t).2.1;exact e.dx (λf i=>e.F t f i)
theorem Ng.ends(p:dL)(t:Nat):∀(n:Nat) {s:Pl},Ng s->Ng (s.ends p t n)
 | 0,_,h=>h
 | n+1,s,h=>by
  unfold Pl.ends;split
  .exact Ng.ends p t n (h.back t jE.z)
  exact h
theorem Ng.gF(h:Ng s)(t:Nat):Ng (s.gF t):=h.dJ _ (λa=>h.at t _ a)
theorem Ng.iD:∀(l:List Nat) {s:Pl},Ng s->Ng (s.iD l)
 | [],_,h=>h
 | t :: l,s,h=>by
  unfold Pl.iD;split
  .exact Ng.iD l (h.join 2 0 t)
  exact h
theorem Ng.fh:∀(l:List (Int×Nat)) {s:Pl},(∀x,x∈l->x.2<256)->Ng s->Ng (s.fh l)
 | [],_,_,h=>h
 | x :: l,s,hl,h=>by
  show Ng ((s.recv x).fh l);refine Ng.fh l (λy e=>hl y (by simp[e])) ?_;unfold Pl.recv;split
  .unfold Pl.qe;split
   .exact h.gn _ (jE.n ag (by have:=hl x eB;omega))
   split
   .exact h.same
   exact h
  exact h
end F
namespace F
variable {p:dL}{s s' x:Pl}{t:Nat}
def lQ(n:Nat)(h:¬((s.T t).run=true/\(bw s t).nx=p.len (bw s t).f)):s.ends p t n=s:=by
 cases n with
 | zero=>rfl
 | succ n=>unfold Pl.ends;rw[au h]
theorem Rn.back(h:Rn p s t)(i:de s t≠0):Rn p (s.back t (0,0)) t/\((s.back t (0,0)).T t).fr.length+1=(s.T t).fr.length:=by
 have e:=(od h.ok.lw h.ht (0,0)).2 i;obtain⟨o,G,y,u⟩:=(nz s t (0,0)).2 i;exact⟨⟨h.ok.back h.lv h.wh (dW.num 0),eV o h.lv,eV e.1 h.run⟩,by have:=h.hi;rw[e.2];omega⟩
def oc(h:Rn p s t)(e:de s t=0):((s.back t (0,0)).T t).run=false:=(od h.ok.lw h.ht (0,0)).1 e
theorem wo:∀(n:Nat) {s:Pl},((s.T t).run=true->Rn p s t)->((s.T t).run=true->(s.T t).fr.length<=n)->s.ends p t n=s.ends p t (n+1)
 | 0,s,h,hl=>by
  by_cases e:(s.T t).run=true
  .have:=(h e).hi;have:=hl e;omega
  rw[lQ 0 (λh=>e h.1),lQ 1 (λh=>e h.1)]
 | n+1,s,h,hl=>by
  by_cases e:(s.T t).run=true/\(bw s t).nx=p.len (bw s t).f
  .have hR:=h e.1;have y:s.ends p t (n+1)=(s.back t (0,0)).ends p t n:=by show Pl.ends p t (n+1) s=_;unfold Pl.ends;rw[bf e];cases n<;>rfl
   have u:s.ends p t (n+1+1)=(s.back t (0,0)).ends p t (n+1):=by show Pl.ends p t (n+1+1) s=_;rw[Pl.ends,bf e]
   rw[y,u];by_cases o:de s t=0
   .have i:=oc hR o;rw[lQ n (λh=>by rw[i]at h;cases h.1),lQ (n+1) (λh=>by rw[i]at h;cases h.1)]
   obtain⟨k1,k2⟩:=hR.back o;exact wo n (λ_=>k1) (λ_=>by have:=hl e.1;omega)
  rw[lQ _ e,lQ _ e]
def CV(h:Rn p s t)(e:(bw s t).nx=p.len (bw s t).f):s.ends p t 21=(s.back t (0,0)).ends p t 21:=by
 have u:s.ends p t 21=(s.back t (0,0)).ends p t 20:=by show Pl.ends p t (20+1) s=_;rw[Pl.ends,bf ⟨h.run,e⟩]
 rw[u];refine wo 20 (λi=>?_) (λi=>?_)
 .by_cases o:de s t=0
  .rw[oc h o]at i;cases i
  exact(h.back o).1
 by_cases o:de s t=0
 .rw[oc h o]at i;cases i
 have:=(h.back o).2;have:=h.fw.n2;omega
def pF{k:Nat}(h:iu p t k x s')(e:(x.T t).run=false):s'=x:=by
 cases k with
 | zero=>exact h
 | succ k=>
  unfold iu at h;rw[au (by rw[e];decide)]at h;exact h
def Ca{k:Nat}(h:Rn p s t)(e:(bw s t).nx=p.len (bw s t).f)(u:iu p t (k+1) s s'):(de s t=0->s'=s.back t (0,0))/\(de s t≠0->iu p t (k+1) (s.back t (0,0)) s'):=by
 unfold iu at u;rw[bf h.run]at u;obtain⟨x,i,G⟩:=u;unfold jz at i;rw[CV h e]at i;constructor
 .intro y;have o:=oc h y;rw[lQ 21 (λh=>by rw[o]at h;cases h.1),au (by rw[o];decide)]at i;subst i;exact pF G o
 intro y;unfold iu;rw[bf (h.back y).1.run];exact⟨x,i,G⟩
def B9{k:Nat}(h:Rn p s t)(e:(bw s t).nx≠p.len (bw s t).f)(i:iu p t (k+1) s s'):∃why s3,kM p (s.gF t) t (p.ins (bw s t).f (bw s t).nx) why s3/\iu p t k (if why=0 then s3 else s3.leave t (0,-why) 3 why) s':=by
 unfold iu at i;rw[bf h.run]at i;obtain⟨x,o,y⟩:=i;unfold jz at o;rw[lQ 21 (λh=>e h.2),bf h.run]at o;obtain⟨why,s3,u,rfl⟩:=o;exact⟨why,s3,u,y⟩
def Go.Oy{t c:Nat}{s s':Pl}(h:Go t c s s'):s'.ev.length<=s.ev.length+c:=by
 obtain⟨l,e,i,_⟩:=h;rw[e,cw];omega
end F
namespace F
def zR(s:Pl):Prop:=s.q 3 0≠[]\/∃k,k<4/\s.q 4 k≠[]
open Classical in
noncomputable def Pl.AL (s : Pl) : Int := if s.sp = true then 5 else if s.lv = [] then 4 else if s.q 2 0 ≠ [] then 1 else if zR s then 2 else 3
end F
namespace D
open F
variable {p:dL}{d:Dp}{K:Nat}{s s':Pl}{m m':Dm}{g g':Dg}{w w':aa}{ρ:Nat → Nat}
def Dm.ns(m:Dm):Dm:={ m with ev:=[] }
def oH(m:Dm)(I:Nat):Prop:=∃t,1<=t/\t<=I/\((m.T t).how=2\/(m.T t).how=3)
def oH.yes{I:Nat}(h:oH m I):oH m (I+1):=by
 obtain⟨t,i,o,e⟩:=h;exact⟨t,i,ag,e⟩
def oH.new{I:Nat}(h:(m.T (I+1)).how=2\/(m.T (I+1)).how=3):oH m (I+1):=⟨I+1,ag,bq _,h⟩
def oH.no{I:Nat}(h:¬oH m I)(u:(m.T (I+1)).how≠2)(o:(m.T (I+1)).how≠3):¬oH m (I+1):=by
 rintro⟨t,y,G,i⟩;by_cases e:t=I+1
 .grind
 exact h ⟨t,y,ag,i⟩
def eF.rest(h:eF p K s m ρ)(o:Ok p s):oH m m.nt↔zR s:=by
 constructor
 .rintro⟨t,Y,W,t3⟩;rcases t3 with e|e
  .left
   grind[D.eF.My]
  right
  have ht:=(iG h t).1 ⟨Y,W⟩;rcases h.wh o ((h.how o ht).1 ag) with⟨_,i⟩|⟨_,i⟩|⟨_,i⟩|⟨k,G,_,i,e3⟩|⟨u,_,_,i,_⟩
  .omega
  .omega
  .omega
  .have:=(h.Mw o (x:=4) (y:=k) (ah (ah (af ⟨rfl,G⟩))) (af rfl)).1 ⟨⟨Y,W⟩,i,e3⟩;grind
  omega
 rintro(J|⟨k,G,J⟩)
 .obtain⟨t,ht⟩:=List.exists_mem_of_ne_nil _ J;obtain⟨⟨Z,a2⟩,H⟩:=(h.My o).2 ht;exact⟨t,Z,a2,af H⟩
 obtain⟨t,ht⟩:=List.exists_mem_of_ne_nil _ J;obtain⟨⟨Z,a2⟩,H,_⟩:=(h.Mw o (x:=4) (y:=k) (ah (ah (af ⟨rfl,G⟩))) (af rfl)).2 ht;exact⟨t,Z,a2,ah H⟩
def I9(h:dZ d m g w)(hS:eF p K s m.ns ρ)(hO:Ok p s)(a6:s.nt≠0):dD 49 #[P0 g.mb] w (aj s.AL) λw'=>w.grownBy w' none:=by
 have a8:m.nt=s.nt:=hS.nt;have hn:m.nt≠0:=eV a8 a6
 obtain⟨tb,hb,hl,hm,hF⟩:=h.T hn;have c6:w.cell? ⟨g.mb,6,none⟩=some (.slice (some ⟨tb,0,none⟩) m.nt (g.ro 1 0).2):=by rw[<-hb];exact(h.mc 6 ag rfl).1
 have c7:w.cell? ⟨g.mb,7,none⟩=some (.slice (g.ro 2 0).1 (s.q 2 0).length (g.ro 2 0).2):=by
  have Z:=(h.mc 7 ag (v:=.slice (g.ro 2 0).1 m.q.length (g.ro 2 0).2) rfl).1;rw[show m.q=s.q 2 0 from hS.q]at Z;exact Z
 have a5:w.cell? ⟨g.mb,14,none⟩=some (.bool s.sp):=by
  have Z:=(h.mc 14 ag (v:=.bool m.sp) rfl).1;rw[show m.sp=s.sp from hS.sp]at Z;exact Z
 have aG:m.nt<=9223372036854775807:=by unfold maxLen at hm;omega
 have a0:Hid (oH m m.nt↔zR s):=hS.rest hO;have a7:Hid (∀w1,w.grownBy w1 none->dD 77 #[P0 g.mb] w1 (aj (s.lv.length:Int)) λw'=>w1.grownBy w' none):=λw1 hg=>by
  refine(Ez (h.kept hg) hn).mono ?_;rintro e w' ⟨N,rfl,_,aA,aE⟩;rw[hS.live hO aA];grind
 have HF:=bj hF;have lt:=hF.lt;have a1:=h.M.lt;clear hF hm hb hl h hS hO a8 a6;generalize g.mb=rb at *;delta dD;go_in;go_wp2_with fail
 go_loopw [3,4] (λr i wr=>∃(b:Bool) (I:Nat),r=.bool b/\i=aj I/\I<=m.nt/\Hid (b=true↔oH m I)/\Hid (w.grownBy wr none)) (λ_ i _=>m.nt-(intOf i).toNat)
 case atStart=>
  refine⟨false,0,rfl,rfl,ag,⟨λe=>(by cases e),λe=>?_⟩,aw _ _⟩;obtain⟨t,t1,t2,_⟩:=e;omega
 case round=>
  obtain⟨b,I,rfl,rfl,hI,Y,rG⟩:=hrel;have W:=λ(k:Nat) (W:k<w.heap.size)=>rG.out.block k W eR;have d6:=(az (a:=⟨rb,6,none⟩) (W rb a1)).trans c6;have H:=HF.out.block (W tb lt);by_cases aL:I<m.nt
  .have hc:∀k,k<8->wr.cell? ⟨tb,I*8+k,none⟩=some (tC (m.T (I+1)) (je m g 5 (I+1)) k):=λk W=>(H.cell (I*8+k) ag).trans (congrArg some (qK m g (t:=I+1) ag W ag));have a9:(I:Int)<(m.nt:Int):=ag
   have c1:wr.cell? ⟨tb,I*8+1,none⟩=some (aj ((m.T (I+1)).how:Int)):=hc 1 ag;clear H hc W
   cases b with
   | true=>
    have KN:Hid (true=true↔oH m (I+1)):=⟨λ_=>(Y.out.1 rfl).yes,λ_=>rfl⟩;clear Y;go_wp2_with fail
    go_roundw
    case rel=>grind
    case measure=>simp[intOf];omega
   | false=>
    have aB:Hid (¬oH m I):=λe=>by have:=Y.out.2 e;grind
    clear Y;by_cases h2:(m.T (I+1)).how=2
    .have KN:Hid (true=true↔oH m (I+1)):=⟨λ_=>oH.new (af h2),λ_=>rfl⟩;rw[h2]at c1;clear h2;go_wp2_with fail
     go_roundw
     case rel=>exact⟨true,I+1,rfl,iA,ag,KN,rG⟩
     case measure=>simp[intOf];omega
    by_cases h3:(m.T (I+1)).how=3
    .have KN:Hid (true=true↔oH m (I+1)):=⟨λ_=>oH.new (ah h3),λ_=>rfl⟩;rw[h3]at c1;clear h2 h3;go_wp2_with fail
     go_roundw
     case rel=>exact⟨true,I+1,rfl,iA,ag,KN,rG⟩
     case measure=>simp[intOf];omega
    have KN:Hid (false=true↔oH m (I+1)):=⟨λe=>(by cases e),λe=>dp e (oH.no aB.out h2 h3)⟩;generalize (m.T (I+1)).how=hw at *;have aH:((hw:Int) == 2)=false:=kr dX
    have aF:((hw:Int) == 3)=false:=kr dX
    clear h2 h3;go_wp2_with fail
    go_roundw
    case rel=>exact⟨false,I+1,rfl,iA,ag,KN,rG⟩
    case measure=>simp[intOf];omega
  obtain rfl:I=m.nt:=by omega
  have a9:¬((m.nt:Int)<(m.nt:Int)):=ag
  have HB:Hid (b=true↔zR s):=⟨λe=>a0.out.1 (Y.out.1 e),λe=>Y.out.2 (a0.out.2 e)⟩;have a2:=bj (a7.out wr rG.out);clear H W Y a0 HF;go_wp2_with fail
  refine a2.out.mono ?_;rintro e w2 ⟨rfl,a3⟩;have KG:=bj (ar rG.out a3);have a4:=(bd KG.out (a:=⟨rb,14,none⟩) a1).1.trans a5;have e7:=(bd KG.out (a:=⟨rb,7,none⟩) a1).1.trans c7;clear a3 a5 c7 c6 d6 a2 a7;have fin:∀x:Int,s.AL=x->(Ending.returned (aj x)=Ending.returned (aj s.AL)/\w.grownBy w2 none):=λx e=>⟨by rw[e],KG.out⟩;have G:=bj fin;clear fin
  cases hsp:s.sp with
  | true=>
   have u:=bj hsp;rw[hsp]at a4;clear hsp;go_wp2_with fail
   go_ret;exact G.out 5 (by unfold Pl.AL;rw[bf u.out])
  | false=>
   have u:Hid (¬s.sp=true):=λe=>by rw[hsp]at e;cases e
   rw[hsp]at a4;clear hsp;by_cases y:s.lv=[]
   .have o:=bj y;have aC:(s.lv.length:Int)=0:=jx y
    clear y;go_wp2_with fail
    go_ret;exact G.out 4 (by unfold Pl.AL;rw[au u.out,bf o.out])
   have o:=bj y;have aC:((s.lv.length:Int) == 0)=false:=by
    rw[dX];exact λe=>y (db.1 ag)
   clear y;by_cases hq:s.q 2 0=[]
   .have J:=bj hq;rw[hq]at e7;simp only[List.length_nil]at e7;clear hq
    cases b with
    | true=>
     go_wp2_with fail
     go_ret;exact G.out 2 (by unfold Pl.AL;rw[au u.out,au o.out,au (λe=>e J.out),bf (HB.out.1 (by first|exact rfl|trivial))])
    | false=>
     go_wp2_with fail
     go_ret;exact G.out 3 (by unfold Pl.AL;rw[au u.out,au o.out,au (λe=>e J.out),au (λe=>by have Z:=HB.out.2 e;cases Z)])
   have J:=bj hq;have aJ:(0:Int)<((s.q 2 0).length:Int):=by
    have:(s.q 2 0).length≠0:=λe=>hq (db.1 e);omega
   clear hq;go_wp2_with fail
   go_ret;exact G.out 1 (by unfold Pl.AL;rw[au u.out,au o.out,bf J.out])
end D
namespace F
variable {k:Nat}{l:List (Int×Nat)}{p:dL}{s s':Pl}{ticks:Int}
def Ng.step{t:Nat}(hP:PI p)(hN:Ng s)(h:Rn p s t)(hn:s.nt+1<=500000000)(i:jz p t s s'):Ng s':=by
 obtain⟨i1,i2,i3⟩:=tP 21 h (gp h.fw.n2);have G:=Ng.ends p t 21 hN;unfold jz at i;by_cases e:((s.ends p t 21).T t).run=true
 .rw[bf e]at i;obtain⟨W,j2,Y⟩:=i2 e;obtain⟨_,_,_,j5,_⟩:=id j2;obtain⟨why,s3,H,rfl⟩:=i;obtain⟨Z,o⟩:=oy W Y;have u:=W.ff;have y:=hP _ u.1 (bw (s.ends p t 21) t).nx ag;have J:=(G.gF t).inst Z (by show(s.ends p t 21).nt+1<=_;omega) (eV o y) H;obtain⟨w1,w2,_⟩:=px y.1 H;split
  .exact J
  exact J.leave t 3 why (jE.n ag ag)
 rw[au e]at i;subst i;exact G
theorem Ng.runs{p:dL}{t:Nat}(hP:PI p):∀(n:Nat) {s s':Pl},Ng s->Ok p s->fm s t->s.nt+n<=500000000->iu p t n s s'->Ng s'
 | 0,s,s',hN,_,_,_,hr=>by
  have e:s'=s:=hr;subst e;exact hN
 | n+1,s,s',hN,h,ht,hn,hr=>by
  unfold iu at hr;by_cases e:(s.T t).run=true
  .rw[bf e]at hr;obtain⟨s1,o,u⟩:=hr;have hR:Rn p s t:=⟨h,(h.rn t ht e).2,e⟩;obtain⟨k1,k2⟩:=wL hP hR ag o;have i:=k2.nt;exact Ng.runs hP n (hN.step hP hR ag o) k1 ⟨ht.1,dU ht.2 i.1⟩ ag u
  rw[au e]at hr;subst hr;exact hN
def Ng.first(hP:PI p)(y:Ng s)(h:Ok p s)(hn:s.nt+p.qn<=500000000)(u:iS p s s'):Ng s':=by
 unfold iS at u
 cases hq:s.q 2 0 with
 | nil=>
  rw[hq]at u;have e:s'=s:=u;subst e;exact y
 | cons t r=>
  rw[hq]at u;obtain⟨s1,H,J⟩:=u;have i:=h.ql 2 0 (af ⟨rfl,rfl⟩) t (by rw[hq];simp);have ht:=h.lt t i;have o:(s.start t).nt=s.nt:=gg s t;have G:Ng s1:=Ng.runs hP p.qn (y.start t) (h.start i) ⟨ht.1,eV o ht.2⟩ (eV o hn) H;rw[J];split
  .exact G.join 2 0 t
  exact G
def Ng.I4(hP:PI p)(J:Ng s)(h:Ok p s)(h0:0<=B.iJ s.clk ticks)(H:B.iJ s.clk ticks<=9223372036854775807)(i:∀x,x∈l->x.2<256)(hn:s.nt+p.qn<=500000000)(ht:ku p s ticks l s'):Ng s':=by
 have e:Ng ((s.gr (B.iJ s.clk ticks)).fh l):=Ng.fh l i J.same;obtain⟨u,G⟩:=nS l i (h.gr h0 H);unfold ku at ht;split at ht
 .obtain⟨s1,Z,rfl⟩:=ht;obtain⟨y,o⟩:=oX _ u rfl;exact (Ng.first hP (Ng.iD _ e) y (by rw[o.nt,G.nt];exact hn) Z).same
 subst ht;exact e
theorem DK{M:Nat->List B.V}{n:Nat}{kd:B.Kd}{c:B.Cy}(h:(B.me M n kd c).on k=true):kd.on k=true:=by
 unfold B.me at h;split at h
 .exact B.ow h
 exact B.ow h
theorem qk{M:Nat->List B.V}{R:Nat->B.V}{nr n:Nat}:∀(u:Nat) {kd:B.Kd},B.jO kd nr n (0,R,M)->B.jO (B.gw M n u kd) nr n (0,R,M)/\∀k,(B.gw M n u kd).on k=true->kd.on k=true
 | 0,kd,h=>⟨h,λ_ h=>h⟩
 | u+1,kd,h=>by
  cases hc:kd.cy with
  | none=>grind[B.tY]
  | some c=>
   rw[B.tX hc];obtain⟨k1,k2⟩:=qk u (B.su h hc);grind[DK]
def BI{M:Nat->List B.V}{R:Nat->B.V}{nr n u:Nat}{kd:B.Kd}(hn:1<=n)(h:B.jO kd nr n (0,R,M)):B.jO (B.work R nr M n u kd) nr n (0,R,M)/\∀k,(B.work R nr M n u kd).on k=true->kd.on k=true:=by
 unfold B.work
 cases hc:kd.cy with
 | none=>exact qk u (B.uI h hn)
 | some c=>grind[qk]
def fL.jr{X:Nat->Prop}(hn:1<=p.n)(h:fL p s X):fL p (s.jr p) X:=by
 obtain⟨k1,k2⟩:=BI (u:=p.wk) hn (show B.jO s.kd (eG p s).length p.n (0,B.GB (eG p s),s.M) from h.hl);exact h.vk k1 (λk _ _ e=>k2 k e)
theorem Gn.same{gone:List Nat}(h:Gn s gone)(i:s'.lv=s.lv)(hn:s'.nt=s.nt):Gn s' gone:=λu e=>⟨(ey hn).2 (h u e).1,by rw[i];exact(h u e).2⟩
structure OB(p:dL) (s s':Pl):Prop where
 ok:Ok p s'.ns
 n1:s.nt<=s'.nt
 n2:s'.nt<=s.nt+p.qn
 el:s'.ev.length<=p.qn
 ev:∀gone,Gn s gone->∃t',(∀t r,s.q 2 0=t :: r->t'=t)/\IG t' gone s'.ev/\Gn s'.ns (gone++kO s'.ev)
 q:∀t r,s.q 2 0=t :: r->N7 s'.ev->s'.sp=false->∃m,s'.q 2 0=r++m
def pE(hP:PI p)(aB:1<=p.n)(h:Ok p s)(he:s.ev=[])(hn:s.nt+p.qn<=500000000)(aA:∀x,x∈l->x.2<256)(ht:ku p s ticks l s'):OB p s s':=by
 have ha:=B.xD (t:=ticks) h.c0 h.c1;obtain⟨o1,o⟩:=nS l aA (h.gr ha.1 ha.2);have o:Qu s ((s.gr (B.iJ s.clk ticks)).fh l):=⟨o.ev,o.lv,o.nt,o.sp,o.q⟩;unfold ku at ht;generalize (s.gr (B.iJ s.clk ticks)).fh l=s1 at *;by_cases hc:s1.lv≠[]/\s1.sp=false
 .rw[bf hc]at ht;obtain⟨s3,h3,rfl⟩:=ht;obtain⟨o2,q2⟩:=oX (s1.q 3 0) o1 rfl;have u:=o.trans q2;generalize s1.iD (s1.q 3 0)=s2 at *;obtain⟨o3,e3,f3⟩:=uP hP o2 (eV u.nt hn) h3;have y:Ok p (s3.jr p).ns:=(o3.jr aB).same rfl rfl rfl rfl rfl rfl rfl rfl rfl rfl rfl;obtain⟨m,hm⟩:=u.q
  cases hq:s2.q 2 0 with
  | nil=>
   have:=e3 hq;subst this;have a0:s.q 2 0=[]:=by rw[hq]at hm;exact(List.append_eq_nil_iff.1 hm.symm).1
   have i:=u.ev.trans he;refine⟨y,by show s.nt<=s3.nt;rw[u.nt];omega,by show s3.nt<=_;rw[u.nt];omega,by show s3.ev.length<=_;grind,λgone hg=>⟨0,λt r e=>(by grind),?_,?_⟩,λt r e=>(by grind)⟩
   .show IG 0 gone s3.ev;rw[i];trivial
   show Gn (s3.jr p).ns (gone++kO s3.ev);rw[i];have:gone++kO []=gone:=by unfold kO;simp
   rw[this];exact hg.same (s':=(s3.jr p).ns) u.lv u.nt
  | cons t r=>
   obtain⟨s0,hG,g1,g2,g3,g4⟩:=f3 t r hq;obtain⟨ev,a1,a2,a3,a4,a5⟩:=hG;have i:s3.ev=ev:=by rw[a1,g1,u.ev,he,List.nil_append]
   have J:=g2.trans u.lv;have H:=g3.trans u.nt;have G:∀Y Z,s.q 2 0=Y :: Z->t=Y/\r=Z++m:=λY Z e=>by
    grind
   refine⟨y,by show s.nt<=s3.nt;omega,by show s3.nt<=_;omega,by show s3.ev.length<=_;rw[i];exact a2,λgone hg=>⟨t,λY Z e=>(G Y Z e).1,?_,?_⟩,λY Z e a8 _=>?_⟩
   .show IG t gone s3.ev;rw[i];exact(a4 gone (hg.same J H)).1
   .show Gn (s3.jr p).ns (gone++kO s3.ev);rw[i];exact(a4 gone (hg.same J H)).2.same (s':=(s3.jr p).ns) rfl rfl
   obtain⟨m2,aC⟩:=a5 (by rw[<-i];exact a8);refine⟨m++m2,?_⟩;show s3.q 2 0=_;rw[aC,g4,(G Y Z e).2,fS]
 rw[au hc]at ht;subst ht;have y:Ok p s'.ns:=o1.same rfl rfl rfl rfl rfl rfl rfl rfl rfl rfl rfl;have i:=o.ev.trans he;refine⟨y,by rw[o.nt];exact bq _,kr o.nt,by rw[i];exact dk _,λgone hg=>?_,λt r e _ hs=>?_⟩
 .have W:∃t',∀t r,s.q 2 0=t :: r->t'=t:=by
   cases hq:s.q 2 0 with
   | nil=>exact⟨0,λt r e=>(by cases e)⟩
   | cons a b=>exact⟨a,λt r e=>(by injection e)⟩
  obtain⟨t',W⟩:=W;refine⟨t',W,?_,?_⟩
  .rw[i];trivial
  rw[i];have:gone++kO []=gone:=by unfold kO;simp
  rw[this];exact hg.same (s':=s'.ns) o.lv o.nt
 have a6:=h.ql 2 0 (af ⟨rfl,rfl⟩) t (by rw[e];simp);refine dp ⟨?_,hs⟩ hc;rw[o.lv];intro e';rw[e']at a6;cases a6
theorem E8{s:ByteArray}{f:Nat}:∀(n k0:Nat),(M.fns s f (M.pos s k0) n).2=true->∀k,k<n->(M.fn s (M.pos s (k0+k)) f).2=true
 | 0,_,_,k,hk=>by omega
 | n+1,k0,h,k,hk=>by
  unfold M.fns at h;by_cases e:(M.fn s (M.pos s k0) f).2=true
  .rw[bf e]at h
   cases k with
   | zero=>exact e
   | succ k=>
    rw[(M.uN e).1]at h;have:=E8 n (k0+1) h k ag;grind
  grind
theorem xx{s:ByteArray}{r f l:Nat}:∀(n p:Nat),(M.code s r f l p n).2=true->∀i,i<n->(M.ins s (p+4*i) r f l).2=true
 | 0,_,_,i,hi=>by omega
 | n+1,p,h,i,hi=>by
  unfold M.code at h;by_cases e:(M.ins s p r f l).2=true
  .rw[bf e]at h
   cases i with
   | zero=>exact e
   | succ i=>
    rw[M.xi e]at h;have:=xx n (p+4) h i ag;grind
  grind
def rj(s:ByteArray)(q:Nat):vF:=(M.bt s q,M.bt s (q+1),M.bt s (q+2),M.bt s (q+3))
def Np:∀e,e<23->e≠7/\e≠16->M.k0 e=114:=by decide
def No:∀e,e<23->(e=1\/(2<=e/\e<=6)\/e=10\/e=11)\/(e=13\/e=15\/e=18\/e=21)->M.k1 e=114:=by decide
def Nn:∀e,e<23->((2<=e/\e<=6)\/e=10\/e=11\/e=12\/e=13\/e=15)->M.k2 e=114:=by decide
def Nm:∀e,e<23->(e=7\/e=8)->M.k1 e=116:=by decide
def Nl:∀e,e<23->e=9->M.k1 e=115:=by decide
def Nk:∀e,e<23->e=12->M.k1 e=102:=by decide
def Nj:∀e,e<23->e≠7/\e≠8->M.k1 e≠116:=by decide
def G1(op:Nat)(h:op<23):(op≠7->op≠16->M.k0 op=114)/\(op=1\/(2<=op/\op<=6)\/op=10\/op=11\/op=13\/op=15\/op=18\/op=21->M.k1 op=114)/\((2<=op/\op<=6)\/op=10\/op=11\/op=12\/op=13\/op=15->M.k2 op=114)/\(op=7\/op=8->M.k1 op=116)/\(op=9->M.k1 op=115)/\(op=12->M.k1 op=102)/\(op≠7->op≠8->M.k1 op≠116):=
 ⟨λa b=>Np op h ⟨a,b⟩,λa=>No op h ag,Nn op h,Nm op h,Nl op h,Nk op h,λa b=>Nj op h ⟨a,b⟩⟩
def G9{s:ByteArray}{q r f l:Nat}(hr:2<=r)(hf:1<=f)(h:(M.ins s q r f l).2=true)(e1:p.rg k=r)(e2:p.nf=f)(e3:p.len k=l):Kt p k (rj s q):=by
 unfold M.ins at h;by_cases e:M.tk s q 0 22=true
 .rw[bf e]at h;have a2:=(M.gU e).2.2;have G:=M.Fy s;obtain⟨f0,f1,f2,f3,f4,f5,f6⟩:=G1 (M.bt s q) ag;unfold M.tJ at h;by_cases Y:M.tk s (q+1) 0 (M.ko r f (M.k0 (M.bt s q)))=true
  .rw[bf Y]at h;have g0:=(M.gU Y).2.2;have Z:M.bt s q≠7->M.bt s q≠16->M.bt s (q+1)<p.rg k:=λn7 J=>by
    grind[M.ko]
   by_cases o:M.k1 (M.bt s q)=116
   .rw[bf o]at h;have hj:=Classical.byContradiction λhn=>f6 (λe=>hn (af e)) (λe=>hn (ah e)) o;unfold M.wI at h;by_cases y:s.size<q+1+1+2
    .grind
    rw[au y]at h;by_cases H:l<256*M.bt s (q+1+1)+M.bt s (q+1+1+1)
    .grind
    refine⟨by show M.bt s q<23;omega,G _,G _,G _,Z,λi=>?_,λi=>?_,λ_=>?_,λi=>?_,λi=>?_⟩
    .have u:M.bt s q=1\/(2<=M.bt s q/\M.bt s q<=6)\/M.bt s q=10\/M.bt s q=11\/M.bt s q=13\/M.bt s q=15\/M.bt s q=18\/M.bt s q=21:=i;omega
    .have u:(2<=M.bt s q/\M.bt s q<=6)\/M.bt s q=10\/M.bt s q=11\/M.bt s q=12\/M.bt s q=13\/M.bt s q=15:=i;omega
    .show 256*M.bt s (q+2)+M.bt s (q+3)<=p.len k;grind
    .have u:M.bt s q=9:=i;omega
    have u:M.bt s q=12:=i;omega
   rw[au o]at h;by_cases y:M.tk s (q+1+1) 0 (M.ko r f (M.k1 (M.bt s q)))=true
   .rw[bf y]at h;have g1:M.bt s (q+2)<=M.ko r f (M.k1 (M.bt s q)):=(M.gU y).2.2;by_cases H:M.tk s (q+1+2) 0 (M.ko r f (M.k2 (M.bt s q)))=true
    .have g2:M.bt s (q+3)<=M.ko r f (M.k2 (M.bt s q)):=(M.gU H).2.2;have a4:M.ko r f 114=r-1:=rfl;have a3:M.ko r f 115=8:=rfl;have a1:M.ko r f 102=f-1:=rfl;refine⟨by show M.bt s q<23;omega,G _,G _,G _,Z,λi=>?_,λi=>?_,λi=>dp i (λi=>o (f3 i)),λi=>?_,λi=>?_⟩
     .show M.bt s (q+2)<p.rg k;rw[f1 i]at g1;omega
     .show M.bt s (q+3)<p.rg k;rw[f2 i]at g2;omega
     .show M.bt s (q+2)<=8;rw[f4 i]at g1;omega
     show M.bt s (q+2)<p.nf;rw[f5 i]at g1;omega
    rw[au H]at h;cases h
   rw[au y]at h;cases h
  rw[au Y]at h;cases h
 rw[au e]at h;cases h
def qu{s:ByteArray}(h:(M.m9 s).2=true):1<=M.bt s 0/\M.bt s 0<=8/\∀k,k<M.bt s 0->(M.fn s (M.pos s k) (M.bt s 0)).2=true:=by
 unfold M.m9 at h;by_cases e:M.tk s 0 1 8=true
 .rw[bf e]at h;have o:=M.gU e;have i:((M.fns s (M.bt s 0) 1 (M.bt s 0)).2 && decide ((M.fns s (M.bt s 0) 1 (M.bt s 0)).1=s.size))=true:=h;rw[Bool.and_eq_true]at i;refine⟨o.2.1,o.2.2,λk u=>?_⟩;have:=E8 (s:=s) (f:=M.bt s 0) (M.bt s 0) 0 i.1 k u;grind
 grind
def Ju{s:ByteArray}(h:(M.m9 s).2=true)(Z:∀k,p.rg k=M.bt s (M.pos s k))(y:p.nf=M.bt s 0)(u:∀k,p.len k=M.bt s (M.pos s k+1))(Y:∀k i,p.ins k i=rj s (M.pos s k+2+4*i)):PI p:=by
 obtain⟨H,n2,W⟩:=qu h;intro f o i hi;rw[y]at o;rw[u]at hi;have e:=W f o;have G:(M.code s (M.bt s (M.pos s f)) (M.bt s 0) (M.bt s (M.pos s f+1)) (M.pos s f+2) (M.bt s (M.pos s f+1))).2=true:=by
  unfold M.fn at e;by_cases a:M.tk s (M.pos s f) 2 8=true
  .grind
  rw[au a]at e;cases e
 rw[Y];exact G9 (M.uN e).2.1 H (xx _ _ G i hi) (Z f) y (u f)
end F
namespace D
open F
variable {s:ByteArray}{w:aa}
def zi(s:ByteArray)(cbs ccs:Nat->Nat)(j:Nat):Value:=if j % 2=0 then .int .i64 (M.bt s (M.pos s (j / 2)):Int) else .slice (some ⟨cbs (j / 2),0,none⟩) (M.bt s (M.pos s (j / 2)+1)) (ccs (j / 2))
def EW(s:ByteArray)(k j:Nat):Value:=.int .i64 (M.bt s (M.pos s k+2+j):Int)
def FV(s:ByteArray)(base:Nat)(w:aa)(k:Nat)(cbs ccs:Nat->Nat):Prop:=
 ∀i,i<k->w.ownsRow base 90 4 (.slice (some ⟨cbs i,0,none⟩) (M.bt s (M.pos s i+1)) (ccs i)) (M.bt s (M.pos s i+1)) (rowP (M.bt s (M.pos s i+1)*4) (EW s i))/\∀j,j<i->cbs j<cbs i
def gV{b u n m:Nat}{e:TypeId}{v:Value}{xs:List Value}(h:w.ownsRow b e n v m xs)(y:u<=b):w.ownsRow u e n v m xs:=by
 refine⟨h.1,?_⟩;rcases h.2 with o|⟨g,cap,i,o,H,G⟩
 .grind
 exact ah ⟨g,cap,i,o,dU y H,G⟩
def FV.of{e k:Nat}{w':aa}{cbs ccs:Nat->Nat}(h:FV s e w k cbs ccs)(o:∀i,i<k->w'.heap[cbs i]? = w.heap[cbs i]?):FV s e w' k cbs ccs:=λi hi=>⟨dQ (h i hi).1 (λx u=>by
 grind[Value.ownBlock]),(h i hi).2⟩
theorem FV.lt{s:ByteArray}{e k:Nat}{w:aa}{cbs ccs:Nat->Nat}(h:FV s e w k cbs ccs){i:Nat}(hi:i<k):e<=cbs i/\cbs i<w.heap.size:=(h i hi).1.lt _ rfl
def zT(n:Nat)(P:Nat->Value)(a b:Value)(i:P (n*2)=a)(e:P (n*2+1)=b):rowP (n*2) P++[a,b]=rowP ((n+1)*2) P:=by
 grind[rowP,List.range_succ]
def zS(n:Nat)(P:Nat->Value):rowP (n*4) P++[P (n*4),P (n*4+1),P (n*4+2),P (n*4+3)]=rowP ((n+1)*4) P:=by
 grind[rowP,List.range_succ]
def GH(h:(M.m9 s).2=true):M.tk s 0 1 8=true/\M.pos s (M.bt s 0)=s.size:=by
 obtain⟨n1,n2,J⟩:=qu h;unfold M.m9 at h;by_cases e:M.tk s 0 1 8=true
 .rw[bf e]at h;have y:((M.fns s (M.bt s 0) 1 (M.bt s 0)).2 && decide ((M.fns s (M.bt s 0) 1 (M.bt s 0)).1=s.size))=true:=h;rw[Bool.and_eq_true]at y;have i:∀n k0,(∀k,k<n->(M.fn s (M.pos s (k0+k)) (M.bt s 0)).2=true)->(M.fns s (M.bt s 0) (M.pos s k0) n).1=M.pos s (k0+n):=by
   intro n;induction n with
   | zero=>intro k0 _;rfl
   | succ n W=>
    intro k0 G;have o:=G 0 ag;rw[Nat.add_zero]at o;have Z:(M.fn s (M.pos s k0) (M.bt s 0)).1=M.pos s (k0+1):=(M.uN o).1;unfold M.fns;grind
  have H:=i (M.bt s 0) 0 (λk u=>by grind);rw[Nat.zero_add]at H;exact⟨e,H.symm.trans (eO y.2)⟩
 grind
def uO{p f:Nat}(h:(M.fn s p f).2=true):M.tk s p 2 8=true/\M.tk s (p+1) 1 200=true/\∀i,i<M.bt s (p+1)->(M.ins s (p+2+4*i) (M.bt s p) f (M.bt s (p+1))).2=true:=by
 unfold M.fn at h;by_cases o:M.tk s p 2 8=true
 .rw[bf o]at h;by_cases e:M.tk s (p+1) 1 200=true
  .rw[bf e]at h;exact⟨o,e,λi hi=>xx _ _ h i hi⟩
  grind
 grind
def NT(s:ByteArray)(w w':aa)(e:Ending):Prop:=∃gb cp cbs ccs,e=.returned (.tuple #[.slice (some ⟨gb,0,none⟩) (M.bt s 0) cp,.int .i64 0,.bool true])/\w'.ownsRow (w.heap.size+1) 89 2 (.slice (some ⟨gb,0,none⟩) (M.bt s 0) cp) (M.bt s 0) (rowP (M.bt s 0*2) (zi s cbs ccs))/\FV s (w.heap.size+1) w' (M.bt s 0) cbs ccs/\Below w.heap.size w w'
def wW(s:ByteArray)(w:aa)(hs:s.size<=maxLen)(hs2:s.size<=140737488355328)(hok:(M.m9 s).2=true): Calls prog 35 #[.string s] w λe w'=>NT s w w' e:=by
 have HS:=bj hs;obtain⟨n1,n2,hfn⟩:=qu hok;obtain⟨t0,hend⟩:=GH hok;have HT0:=bj t0;have HFN:=bj hfn;have HEN:=bj hend;clear hs hok hfn t0 hend;obtain⟨i1,hi1,hz10,hz11,hz12⟩:=info_parts Tryz.EP;obtain⟨i2,hi2,hz20,hz21,hz22⟩:=info_parts Tryz.ER;generalize hF:M.bt s 0=F at *;have HF:=bj hF;go_in;go_wp2_with fail
 refine du (jK w.heap.size s 0 1 8 1 8 (w.alloc (jZ s 0 false)) (bl w _) HS rfl rfl HT0) ?_;rintro w1 ⟨hh,hg⟩;rw[hF];clear hF;have KB:Hid (w1.heap[w.heap.size]? = some (jZ s ((M.pos s 0:Nat):Int) false)):=hh;have KL:=bj (oN hg);clear hh hg;go_wp2_with fail
 go_loopw [7,8] (λv i wr=>∃(k:Nat) (ad:Option Addr) (cp:Nat) (cbs ccs:Nat->Nat),k<=F/\i=aj k/\v=.slice ad k cp/\Hid (wr.heap[w.heap.size]? = some (jZ s ((M.pos s k:Nat):Int) false))/\Hid (Below w.heap.size w wr)/\Hid (wr.ownsRow (w.heap.size+1) 89 2 (.slice ad k cp) k (rowP (k*2) (zi s cbs ccs)))/\Hid (FV s (w.heap.size+1) wr k cbs ccs)) (λ_ i _=>F-(intOf i).toNat)
 case atStart=>exact⟨0,none,0,λ_=>0,λ_=>0,ag,rfl,rfl,KB,KL,eg _ _ _ _,(λi hi=>by omega)⟩
 case round=>
  clear KB KL;obtain⟨k,ad,cp,cbs,ccs,hk,rfl,rfl,rB,rL,rO,rC⟩:=hrel;by_cases hlt:k<F
  .obtain⟨f1,f2,f3⟩:=uO (HFN k hlt);obtain⟨_,a1,a2⟩:=M.gU f1;obtain⟨_,l1,l2⟩:=M.gU f2;have HF1:=bj f1;have HF2:=bj f2;have HF3:=bj f3;clear f1 f2 f3;have y2:=(ij rB).2.2;generalize hR:M.bt s (M.pos s k)=R at *;generalize hL:M.bt s (M.pos s k+1)=L at *;have HRL:=bj (bh hR hL);clear hR hL;go_wp2_with fail
   refine du (jK w.heap.size s (M.pos s k) 2 8 2 8 wr rB HS rfl rfl HF1) ?_;rintro w3 ⟨hh,hg⟩;rw[HRL.1];have KB3:=bj hh;have KL3:=bj (rL.trans (lF hg rL.size));have hne:(Value.slice ad k cp).ownBlock=none\/(Value.slice ad k cp).ownBlock≠some w.heap.size:=by
    right;intro e;have:=(rO.lt _ e).1;omega
   have KO3:=bj (rO.kept hg hne);have KC3:=bj (rC.of (λi hi=>hg.block _ (rC.lt hi).2 (by intro e;injection e with e;have:=(rC.lt hi).1;omega)));clear hh hg rB rL rO rC y2;have hgN:=ch KB3;have KV:=bj (λx hx=>(KO3.lt x hx).2);have KV2:Hid (∀i,i<k->w.heap.size+1<=cbs i/\cbs i<w3.heap.size):=λi hi=>KC3.lt hi;go_wp2_with fail
   refine du (jK w.heap.size s (M.pos s k+1) 1 200 1 200 (w3.alloc (.cells #[aj R,.slice none 0 0] 89)) (ik KB3 _) HS rfl rfl HF2) ?_;rintro w4 ⟨hh,hg⟩;rw[HRL.2];have KB4:Hid (w4.heap[w.heap.size]? = some (jZ s ((M.pos s k+2+4*0:Nat):Int) false)):=hh;have KL4:=bj ((KL3.alloc ag _).trans (lF hg fH));have KO4:=bj ((KO3.alloc _).kept hg hne);have KC4:=bj (KC3.of (λi hi=>(hg.block _ (by simp;have:=(KV2 i hi).2;omega) (by intro e;injection e with e;have:=(KV2 i hi).1;omega)).trans (av _ _ _ (KV2 i hi).2)));have KF4:=bj (da hg (bl w3 _) F1);clear hh hg KB3 KL3 KO3 KC3;generalize w3.heap.size=g at *;go_wp2_with fail
   go_loopw [11] (λi wx=>∃(j:Nat) (ad':Option Addr) (cp':Nat),j<=L/\i=aj j/\Hid (wx.heap[w.heap.size]? = some (jZ s ((M.pos s k+2+4*j:Nat):Int) false))/\Hid (wx.heap[g]? = some (.cells #[aj R,.slice ad' j cp'] 89 (0,0)))/\Hid (wx.ownsRow (g+1) 90 4 (.slice ad' j cp') j (rowP (j*4) (EW s k)))/\Hid (wx.ownsRow (w.heap.size+1) 89 2 (.slice ad k cp) k (rowP (k*2) (zi s cbs ccs)))/\Hid (FV s (w.heap.size+1) wx k cbs ccs)/\Hid (Below w.heap.size w wx)) (λi _=>L-(intOf i).toNat)
   case atStart=>exact⟨0,none,0,ag,rfl,KB4,KF4,eg _ _ _ _,KO4,KC4,KL4⟩
   case round=>
    clear KB4 KL4 KO4 KF4 KC4;obtain⟨j,ad',cp',hj,rfl,sB,sF,sY,sO,sC,sL⟩:=hrel;obtain⟨y0,y1,y2⟩:=ij sB;obtain⟨_,d0,d1,e0,e1⟩:=kY sF;by_cases hjl:j<L
    .have HIK:Hid ((M.ins s (M.pos s k+2+4*j) R F L).2=true):=HF3 j hjl;go_wp2_with fail
     refine du (Fo w.heap.size s (M.pos s k+2+4*j) R F L R F L wr sB HS hs2 rfl rfl rfl ag n1 a2 n2 HIK) ?_;rintro w5 ⟨hh,hg⟩;have hne':(Value.slice ad' j cp').ownBlock=none\/(Value.slice ad' j cp').ownBlock≠some w.heap.size:=by
      right;intro e;have:=(sY.lt _ e).1;omega
     have KB5:Hid (w5.heap[w.heap.size]? = some (jZ s ((M.pos s k+2+4*(j+1):Nat):Int) false)):=hh;have KF5:=bj (da hg sF F1);have KY5:=bj (sY.kept hg hne');have KO5:=bj (sO.kept hg hne);have KC5:=bj (sC.of (λi hi=>hg.block _ (sC.lt hi).2 (by intro e;injection e with e;have:=(sC.lt hi).1;omega)));have KL5:=bj (sL.trans (lF hg sL.size));have HB4:Hid (EW s k (j*4)=aj (M.bt s (M.pos s k+2+4*j):Int)/\EW s k (j*4+1)=aj (M.bt s (M.pos s k+2+4*j+1):Int)/\EW s k (j*4+2)=aj (M.bt s (M.pos s k+2+4*j+2):Int)/\EW s k (j*4+3)=aj (M.bt s (M.pos s k+2+4*j+3):Int)):=by
      unfold EW;rw[show M.pos s k+2+(j*4)=M.pos s k+2+4*j by omega,show M.pos s k+2+(j*4+1)=M.pos s k+2+4*j+1 by omega,show M.pos s k+2+(j*4+2)=M.pos s k+2+4*j+2 by omega,show M.pos s k+2+(j*4+3)=M.pos s k+2+4*j+3 by omega];exact⟨rfl,rfl,rfl,rfl⟩
     clear hh hg sB sF sY sO sL sC y2 d0 d1 e0 e1 hne';generalize M.bt s (M.pos s k+2+4*j)=b0 at *;generalize M.bt s (M.pos s k+2+4*j+1)=b1 at *;generalize M.bt s (M.pos s k+2+4*j+2)=b2 at *;generalize M.bt s (M.pos s k+2+4*j+3)=b3 at *;obtain⟨hz5,d0,d1,e0,e1⟩:=kY KF5;have hz6:g<w5.heap.size+1:=ag
     go_wp2_with (at_builtin;refine wpList_append_own _ rfl (.tmp 54) (.tmp 56) 87 rfl (g+1) 90 i1 _ 4 32 underlying87 hi1 hz10 hz11 hz12 rfl ek _ _ _ rfl ((KY5.alloc _).alloc _) (ay (w5.heap.size+1) 0) 1 1 [aj b0,aj b1,aj b2,aj b3] rfl rfl ?c1 ?c2 ?c3 ?c4 ?c5 ?_)
     case c1=>exact zg w5 _ _ _ _ _ _
     case c2=>intro u hu;simp at hu;rcases hu with rfl|rfl|rfl|rfl<;>rfl
     case c3=>unfold maxLen;omega
     case c4=>omega
     case c5=>simp;omega
     intro v' w6 hown hgrow _;obtain⟨g',cap',rfl⟩:∃g' cap',v'=dA g' (j+1) cap':=by
      rcases hown.2 with⟨_,h⟩|⟨g',cap',_,h,_⟩
      .omega
      exact⟨g',cap',h⟩
     have hnN:∀x,x<g+1->some x≠(Value.slice ad' j cp').ownBlock:=by
      intro x hx e;have:=(KY5.lt _ e.symm).1;omega
     have KB6:=bj (da hgrow (ik (ik KB5 _) _) (hnN _ ag));have KF6:=bj (da hgrow ((av _ _ _ fH).trans ((av _ _ _ hz5).trans KF5)) (hnN _ ag));have KL6:=bj (((KL5.alloc ag _).alloc fH _).grown hgrow fH (λx hx=>by have:=(KY5.lt _ hx).1;omega));have KY6:Hid (w6.ownsRow (g+1) 90 4 (dA g' (j+1) cap') (j+1) (rowP ((j+1)*4) (EW s k))):=by
      have h9:=hown;rw[<-zS,HB4.1,HB4.2.1,HB4.2.2.1,HB4.2.2.2];exact h9
     have KO6:=bj (((KO5.alloc _).alloc _).kept hgrow (by cases hv:(Value.slice ad k cp).ownBlock with|none=>exact af rfl|some x=>exact ah (hnN x (by have:=KV x hv;omega))));have KC6:Hid (FV s (w.heap.size+1) w6 k cbs ccs):=KC5.of (λi hi=>by
      have h7:=(KV2 i hi).2;rw[hgrow.block _ fH (hnN _ ag),av _ _ _ fH,av _ _ _ ag])
     clear hown hgrow KB5 KF5 KY5 KO5 KL5 KC5 d0 d1 e0 e1 HB4;obtain⟨hz7,d0,d1,e0,e1⟩:=kY KF6;go_wp2_with fail
     go_roundw
     case rel=>exact⟨j+1,some (ay g' 0),cap',ag,iA,iQ KB6 ag,xS KF6 _,ownsRow_setCell_below KY6 (by show g<g+1;omega) _,KO6.kept (bu (aw w6 (some g)) (af rfl) _) (by right;intro e;have:=KV _ e;omega),KC6.of (λi hi=>ab _ _ _ _ (by show cbs i≠g;have:=(KV2 i hi).2;omega)),KL6.setCell (by show w.heap.size<=g;omega) _⟩
     case measure=>simp[intOf];omega
    obtain rfl:j=L:=by omega
    go_wp2_with (at_builtin;refine wpList_append_own _ rfl (.tmp 59) (.tmp 61) 83 rfl (w.heap.size+1) 89 i2 _ 2 32 underlying83 hi2 hz20 hz21 hz22 rfl ek _ _ _ rfl (sO.alloc _) (ay wr.heap.size 0) 1 1 [aj R,.slice ad' j cp'] rfl rfl ?c1 ?c2 ?c3 ?c4 ?c5 ?_)
    case c1=>exact wG wr _ _ _
    case c2=>intro u hu;simp at hu;rcases hu with rfl|rfl<;>rfl
    case c3=>unfold maxLen;omega
    case c4=>omega
    case c5=>have:=sL.size;simp;omega
    intro v' w6 hown hgrow _;obtain⟨g',cap',rfl⟩:∃g' cap',v'=dA g' (k+1) cap':=by
     rcases hown.2 with⟨_,h⟩|⟨g',cap',_,h,_⟩
     .omega
     exact⟨g',cap',h⟩
    obtain⟨gb,rfl⟩:∃gb,ad'=some (ay gb 0):=by
     rcases sY.2 with⟨_,h⟩|⟨g2,cap2,_,h,_⟩
     .omega
     injection h with h _ _;exact⟨g2,h⟩
    have hnN:some w.heap.size≠(Value.slice ad k cp).ownBlock:=by
     intro e;have:=(sO.lt _ e.symm).1;omega
    have hgb:=sY.lt gb rfl;have KB6:Hid (w6.heap[w.heap.size]? = some (jZ s ((M.pos s (k+1):Nat):Int) false)):=by
     have h9:=da hgrow (ik sB (.cells #[aj R,dA gb j cp'] 89)) hnN;have e9:M.pos s (k+1)=M.pos s k+2+4*j:=by
      show M.pos s k+2+4*M.bt s (M.pos s k+1)=_;rw[HRL.2]
     rw[e9];exact h9
    have KL6:=bj ((sL.alloc (by have:=ch sB;omega) _).grown hgrow (by have:=ch sB;simp;omega) (λx hx=>by have:=(sO.lt _ hx).1;omega));have KC6:Hid (FV s (w.heap.size+1) w6 (k+1) (λi=>if i=k then gb else cbs i) (λi=>if i=k then cp' else ccs i)):=λi hi=>by
     have hblk:∀x,x<wr.heap.size->(∀y,(Value.slice ad k cp).ownBlock=some y->y≠x)->w6.heap[x]? = wr.heap[x]?:=λx hx hy=>by
      rw[hgrow.block _ fH (λe=>hy x e.symm rfl),av _ _ _ hx]
     have hty:∀y,(Value.slice ad k cp).ownBlock=some y->∃cur,wr.heap[y]? = some (.cells cur 89 (0,0)):=λy hy=>by
      obtain⟨_,_,cur,h1⟩:=dP sO y hy;exact⟨cur,h1⟩
     by_cases e:i=k
     .subst e;simp only[bf];rw[HRL.2];refine⟨dQ (gV sY ag) (λx hx=>?_),λj' hj'=>?_⟩
      .have hx':x=gb:=by simpa[Value.ownBlock] using hx.symm
       rw[hx'];refine hblk gb hgb.2 (λy hy hyx=>?_);have:=KV y hy;omega
      rw[eD];have:=(KV2 j' hj').2;omega
     have hik:i<k:=ag
     simp only[au e];obtain⟨c1,c2⟩:=sC i hik;refine⟨dQ c1 (λx hx=>?_),λj' hj'=>?_⟩
     .have hx':x=cbs i:=by simpa[Value.ownBlock] using hx.symm
      rw[hx'];refine hblk _ (sC.lt hik).2 (λy hy hyx=>?_);obtain⟨cur,h1⟩:=hty y hy;obtain⟨_,_,cur2,h2⟩:=dP c1 (cbs i) rfl;rw[hyx,h2]at h1;injection h1 with h1;injection h1 with _ h1 _;exact dp h1 ek
     rw[eD];exact c2 j' hj'
    have KO6:Hid (w6.ownsRow (w.heap.size+1) 89 2 (dA g' (k+1) cap') (k+1) (rowP ((k+1)*2) (zi s (λi=>if i=k then gb else cbs i) (λi=>if i=k then cp' else ccs i)))):=by
     have h9:=hown;rw[<-zT k _ (aj R) (dA gb j cp') (by
      unfold zi;rw[mm,show k*2 / 2=k by omega,HRL.1]) (by
      unfold zi;rw[eD,show(k*2+1) / 2=k by omega];show Value.slice (some (ay (if k=k then gb else cbs k) 0)) (M.bt s (M.pos s k+1)) (if k=k then cp' else ccs k)=_;rw[bf rfl,bf rfl,HRL.2])]
     have e9:rowP (k*2) (zi s (λi=>if i=k then gb else cbs i) (λi=>if i=k then cp' else ccs i))=rowP (k*2) (zi s cbs ccs):=by
      unfold rowP;refine List.map_congr_left (λx hx=>?_);have hx':=fI.1 hx;show(if x % 2=0 then _ else Value.slice (some (ay (if x / 2=k then gb else cbs (x / 2)) 0)) (M.bt s (M.pos s (x / 2)+1)) (if x / 2=k then cp' else ccs (x / 2)))=_;rw[au (show ¬x / 2=k by omega),au (show ¬x / 2=k by omega)];rfl
     rw[e9];exact h9
    clear hown hgrow sB sF sY sO sL sC y2 d0 d1 e0 e1 hnN;go_wp2_with fail
    go_roundw
    case rel=>exact⟨k+1,some (ay g' 0),cap',_,_,ag,iA,rfl,KB6,KL6,KO6,KC6⟩
    case measure=>simp[intOf];omega
  obtain rfl:k=F:=by omega
  obtain⟨y0,y1,y2⟩:=ij rB;have hpe:=HEN.out;rw[hpe]at y1;obtain⟨gb,rfl⟩:∃gb,ad=some (ay gb 0):=by
   rcases rO.2 with⟨_,h⟩|⟨g2,cap2,_,h,_⟩
   .omega
   injection h with h _ _;exact⟨g2,h⟩
  clear hpe;have g1:decide ((s.size:Int)<s.size)=false:=eB
  go_wp2_with fail
  go_ret3
  rw[<-HF.out]at rO rC ⊢;exact⟨gb,cp,cbs,ccs,rfl,rO,rC,rL⟩
