import Derived.Test.YtnjiinbhbjpfkaaGreatDoorKZ
import Derived.Test.YtnjiinbhbjpfkaaGreatDoorKn
import Derived.Test.YtnjiinbhbjpfkaaGreatDoorKj
set_option maxRecDepth 100000
set_option maxHeartbeats 0
set_option linter.all false
namespace Go.Proofs.YtnjiinbhbjpfkaaGreatDoor
open Go.RowKit Go.Proofs.Tryz
namespace F
structure iA(w0:World) (O:Nat->Ob) (w:World):Prop where
 b:Below w0.heap.size w0 w
 ok:∀i,(O i).ok w
 dj:∀i j k,(O i).bs k->(O j).bs k->i=j
 lo:∀i k,(O i).bs k->w0.heap.size<=k
section
variable {w0 w w' : World} {O O' : Nat → Ob}
theorem iA.lt(h:iA w0 O w){i k:Nat}(e:(O i).bs k):k<w.heap.size:=(O i).lt w k (h.ok i) e
theorem dy.Ij{N:Nat}{S:Nat->Prop}{w w1 w2:World}(e:Below N w w1)(i:dy S w1 w2)(hS:∀k,S k->N<=k)(u:N<=w.heap.size):Below N w w2:=
 ⟨i.1.trans e.os,i.2.1.trans e.tape,i.2.2.1.trans e.output,dH e.size i.size,λk o=>(i.same (by have:=e.size;omega) (λh=>by have:=hS k h;omega)).trans (e.block k o)⟩
theorem iA.to{S C:Nat->Prop}(h:iA w0 O w)(Z:dy S w w')(hS:∀k,S k->∃j,C j/\(O j).bs k)(W:∀i,¬C i->O' i=O i)(h2:∀i,C i->(O' i).ok w')(h3:∀i k,C i->(O' i).bs k->(∃j,C j/\(O j).bs k)\/w.heap.size<=k)(h4:∀i j k,C i->C j->(O' i).bs k->(O' j).bs k->i=j):iA w0 O' w':=by
 have hw:=h.b.size;have J:∀i j k,C i->¬C j->(O' i).bs k->(O j).bs k->False:=λi j k hi u o Y=>by
  rcases h3 i k hi o with⟨a,ha,G⟩|G
  .have:=h.dj a j k G Y;exact u (this▸ha)
  have:=h.lt Y;omega
 refine⟨dy.Ij h.b Z (λk o=>?_) (bj _),λi=>?_,λi j k hi u=>?_,λi k o=>?_⟩
 .obtain⟨j,_,G⟩:=hS k o;exact h.lo j k G
 .by_cases H:C i
  .exact h2 i H
  rw[W i H];refine(O i).fr w w' (h.ok i) (λk o=>Z.same (h.lt o) (λhs=>?_));obtain⟨j,u,G⟩:=hS k hs;have:=h.dj j i k G o;exact H (this▸u)
 .by_cases y:C i
  .by_cases e:C j
   .exact h4 i j k y e hi u
   rw[W j e]at u;exact(J i j k y e hi u).elim
  rw[W i y]at hi;by_cases e:C j
  .exact(J j i k e y u hi).elim
  rw[W j e]at u;exact h.dj i j k hi u
 by_cases H:C i
 .rcases h3 i k H o with⟨a,_,G⟩|G
  .exact h.lo a k G
  omega
 rw[W i H]at o;exact h.lo i k o
theorem iA.kept(h:iA w0 O w)(e:w.grownBy w' none):iA w0 O w':=
 h.to (S:=λ_=>False) (C:=λ_=>False) (dU e) (λ_ h=>h.elim) (λ_ _=>rfl) (λ_ h=>h.elim) (λ_ _ h=>h.elim) (λ_ _ _ h=>h.elim)
theorem iA.perm(h:iA w0 O w)(f:Nat->Nat)(o:∀i j,f i=f j->i=j):iA w0 (λi=>O (f i)) w:=
 ⟨h.b,λi=>h.ok (f i),λi j k hi u=>o i j (h.dj _ _ k hi u),λ_ k e=>h.lo _ k e⟩
theorem iA.eq(h:iA w0 O w)(e:∀i,O' i=O i):iA w0 O' w:=by
 have:=fB e;rw[this];exact h
def fm(O:Nat->Ob)(i:Nat)(X:Ob):Nat->Ob:=λj=>if j=i then X else O j
theorem iu(O:Nat->Ob)(i:Nat)(X:Ob):fm O i X i=X:=aj rfl
theorem eT(O:Nat->Ob){i j:Nat}(X:Ob)(h:j≠i):fm O i X j=O j:=aa h
theorem iA.AR(h:iA w0 O w)(i:Nat){X:Ob}(J:dy (O i).bs w w')(hX:X.ok w')(H:∀k,X.bs k->(O i).bs k\/w.heap.size<=k):iA w0 (fm O i X) w':=by
 refine h.to (S:=(O i).bs) (C:=λj=>j=i) J (λk u=>⟨i,rfl,u⟩) (λj o=>eT O X o) (λj o=>?_) (λj k o u=>?_) (λa b k y G _ _=>y.trans G.symm)
 .rw[o,iu];exact hX
 rw[o,iu]at u;exact(H k u).imp (λe=>⟨i,rfl,e⟩) id
theorem iA.split(h:iA w0 O w)(i j:Nat)(Z:i≠j){X Y:Ob}(hO:dy (O i).bs w w')(hX:X.ok w')(hY:Y.ok w')(h3:∀k,X.bs k->(O i).bs k\/w.heap.size<=k)(W:∀k,Y.bs k->(O i).bs k\/w.heap.size<=k)(h4:∀k,X.bs k->Y.bs k->False):iA w0 (fm (fm O i X) j Y) w':=by
 have G:fm (fm O i X) j Y i=X:=by rw[eT _ _ Z,iu]
 have J:fm (fm O i X) j Y j=Y:=iu _ _ _;refine h.to (S:=(O i).bs) (C:=λa=>a=i\/a=j) hO (λk u=>⟨i,ag rfl,u⟩) (λa o=>?_) (λa o=>?_) (λa k o u=>?_) (λa b k o hb H y=>?_)
 .rw[eT _ _ (λe=>o (ab e)),eT _ _ (λe=>o (ag e))]
 .rcases o with rfl|rfl
  .rw[G];exact hX
  rw[J];exact hY
 .rcases o with rfl|rfl
  .rw[G]at u;exact(h3 k u).imp (λe=>⟨a,ag rfl,e⟩) id
  rw[J]at u;exact(W k u).imp (λe=>⟨i,ag rfl,e⟩) id
 rcases o with rfl|rfl<;>rcases hb with rfl|rfl
 .rfl
 .rw[G]at H;rw[J]at y;exact(h4 k H y).elim
 .rw[J]at H;rw[G]at y;exact(h4 k y H).elim
 rfl
theorem iA.new(h:iA w0 O w)(j:Nat){Y:Ob}(o:w.grownBy w' none)(u:Y.ok w')(i:∀k,Y.bs k->w.heap.size<=k):iA w0 (fm O j Y) w':=
 h.AR j (dU o) u (λk e=>ab (i k e))
theorem iA.drop(h:iA w0 O w)(j:Nat):iA w0 (fm O j .nil) w:=h.AR j (dk _ _) trivial (λ_ e=>e.elim)
end
theorem yG{p:dz}{s:Pl}{g:eE}{mb:Nat}{w w':World}(h:tN p s g mb w)(e:∀k,ey p s g k\/k=mb->w'.heap[k]? = w.heap[k]?):tN p s g mb w':=by
 obtain⟨x,y⟩:=h.bx;exact⟨⟨λa b c=>(ob p s g a b c).fr w w' (h.r.o a b c) (λk u=>e k (ag ⟨a,b,c,u⟩)),h.r.i⟩,h.ok,h.ev,⟨x,(e mb (ab rfl)).trans y⟩,h.nm⟩
def Ob.zS(p:dz)(s:Pl)(g:eE)(mb:Nat):Ob:=⟨λk=>ey p s g k\/k=mb,λw=>tN p s g mb w,λ_ _ h hk=>yG h hk,λw k h hk=>by
 rcases hk with hk|rfl
 .exact h.r.lt hk
 .exact h.cells.2.2.2⟩
def Ob.doc(d:D.Dp)(m:D.Dm)(g:D.Dg):Ob:=⟨λk=>D.ey d m g k,λw=>D.dQ d m g w,λw w' h hk=>⟨λa b c=>(D.ob d m g a b c).fr w w' (h.o a b c) (λk hb=>hk k ⟨a,b,c,hb⟩),h.i⟩,λ_ _ h hk=>h.lt hk⟩
def Ob.xV(b:Nat)(T:TypeId)(n:Nat):Ob:=⟨λk=>k=b,λw=>jB w b T n,λw w' h hk=>by
 obtain⟨cur,h1,h2⟩:=h
 exact⟨cur,(hk b rfl).trans h1,h2⟩,λ_ _ h e=>by rw[e];exact h.lt⟩
def Ob.lists(T:TypeId)(sz:Nat)(P:Int->Nat->Value)(E:List (Sl×Int)):Ob:=⟨λk=>∃x,x∈E/\eO x.1.1=some k,λw=>∀x,x∈E->Rd w T sz (P x.2) x.1,λ_ _ h hk x hx=>(h x hx).fr (λk e=>hk k ⟨x,hx,e⟩),λ_ _ h hk=>by
 obtain⟨x,hx,e⟩:=hk
 exact((h x hx).lt e).1⟩
structure oV where
 p:dz
 s:Pl
 g:eE
 mb:Nat
 d:D.Dp
 m:D.Dm
 h:D.Dg
 pb:Nat
structure oV.Good(x:oV) (I:Nat):Prop where
 pg:J3 x.p
 pd:D.PD x.p x.d
 rg:∀f,f<x.p.nf->2<=x.p.rg f/\x.p.rg f<=8
 dn:x.d.n<=1000000
 ng:Ng x.s
 Iy:∃ρ,D.eK x.p (1+50*I) x.s x.m.lD ρ
 n0:x.s.nt≠0
 n1:x.s.nt<=1+50*I
def oA:Option oV->Ob
 | none=>.nil
 | some x=>.zS x.p x.s x.g x.mb
def oB:Option oV->Ob
 | none=>.nil
 | some x=>.doc x.d x.m x.h
def oP:Option oV->Ob
 | none=>.nil
 | some x=>.one x.pb (.cells #[P0 x.mb,P0 x.h.mb] 74 (0,0))
def ts:Option oV->Nat->Prop
 | none,_=>True
 | some x,I=>x.Good I
def pV:Option oV->Value
 | none=>.pointer none
 | some x=>P0 x.pb
structure St where
 x:Option oV
 y:Option oV
 ob:Nat
 mo:Nat
 bk:Nat
 n:Nat
 ra:Option Addr×Nat
 E:List (Sl×Int)
 rb:Option Addr×Nat
 J:List (Sl×Int)
def St.O(t:St)(i:Nat):Ob:=
 if i=0 then oA t.x else if i=1 then oB t.x else if i=2 then oP t.x else if i=3 then oA t.y else if i=4 then oB t.y else if i=5 then oP t.y
 else if i=6 then .xV t.ob 169 (t.mo*2) else if i=7 then .full t.bk 81 3 (wm t.n (.slice t.ra.1 t.E.length t.ra.2) (.slice t.rb.1 t.J.length t.rb.2))
 else if i=8 then .row 119 2 t.ra.1 t.E.length t.ra.2 (gQ t.E) else if i=9 then .row 121 2 t.rb.1 t.J.length t.rb.2 (gQ t.J)
 else if i=10 then .lists 48 3 mG t.E else if i=11 then .lists 3 1 qE t.J else .nil
theorem St.Ii(t:St){i:Nat}(h:12<=i):t.O i=.nil:=by
 unfold St.O;rw[aa (by omega),aa (by omega),aa (by omega),aa (by omega),aa (by omega),aa (by omega),aa (by omega),aa (by omega),aa (by omega),aa (by omega),aa (by omega),aa (by omega)]
theorem St.ext{t:St}{O:Nat->Ob}(h:∀i,i<14->t.O i=O i)(o:∀i,14<=i->O i=.nil)(i:Nat):t.O i=O i:=by
 by_cases e:i<14
 .exact h i e
 rw[t.Ii (by omega),o i (by omega)]
theorem yI{i:Nat}(h:i<14):i=0\/i=1\/i=2\/i=3\/i=4\/i=5\/i=6\/i=7\/i=8\/i=9\/i=10\/i=11\/i=12\/i=13:=by omega
abbrev St.iA(w0:World)(t:St)(w:World):Prop:=F.iA w0 t.O w
def swp(i:Nat):Nat:=if i<3 then i+3 else if i<6 then i-3 else i
theorem Eo(i j:Nat)(h:swp i=swp j):i=j:=by
 unfold swp at h;split at h<;>split at h<;>(try split at h)<;>(try split at h)<;>omega
def St.swap(t:St):St:={ t with x:=t.y,y:=t.x }
theorem St.GF(t:St)(i:Nat):t.swap.O i=t.O (swp i):=by
 by_cases h:i<14
 .rcases yI h with rfl|rfl|rfl|rfl|rfl|rfl|rfl|rfl|rfl|rfl|rfl|rfl|rfl|rfl<;>rfl
 have e:swp i=i:=by unfold swp;rw[aa (by omega),aa (by omega)]
 rw[e,t.Ii (by omega),St.Ii _ (by omega)]
theorem St.iA.swap{w0 w:World}{t:St}(h:t.iA w0 w):t.swap.iA w0 w:=(h.perm swp Eo).eq (λi=>t.GF i)
end F
section
theorem D.eK.LA{p:F.dz}{K:Nat}{s:F.Pl}{m:D.Dm}{ρ:Nat->Nat}(h:D.eK p K s m ρ):D.eK p K s.lD m.lD ρ:=
 ⟨h.nt,h.q,h.Ee,h.sp,rfl,h.ck,h.T,h.O,h.C,h.I,h.Kp,h.L,h.N,h.A,h.lm,h.B⟩
namespace F
theorem oV.Good.next{x:oV}{I:Nat}(hG:x.Good I)(e:Ok x.p x.s)(i:x.s.ev=[]){ticks:Int}{l:List (Int×Nat)}{s':Pl}(ht:jh x.p x.s ticks l s')(o:∀y,y∈l->y.2<256)(hI:I<=2000000){m':D.Dm}{ρ':Nat->Nat}(hS:D.eK x.p (1+50*I+x.p.qn) s' m' ρ')(g':eE)(J:D.Dg):({ x with s:=s'.lD,g:=g',m:=m',h:=J }:oV).Good (I+1):=by
 have W:=hG.pg.q;have hn:=hG.n1;have u:=B.vU (t:=ticks) e.c0 e.c1;have G:=nW hG.pg.pi hG.pg.pw.n1 e i (by omega) o ht;refine⟨hG.pg,hG.pd,hG.rg,hG.dn,(hG.ng.Gx hG.pg.pi e u.1 u.2 o (by omega) ht).same,⟨ρ',(hS.mono (by omega)).LA⟩,?_,?_⟩
 .have:=G.n1;have:=hG.n0;show s'.nt≠0;omega
 have:=G.n2;show s'.nt<=_;omega
def It(w0:World)(ad:Option Addr)(n:Nat)(l:List (Int×Nat)):Prop:=
 n=l.length/\n<=1000000000/\l=[]/\(ad=none->l=[])/\∀a,ad=some a->l≠[]->a.block<w0.heap.size/\∀j x,l[j]? = some x->w0.cell? (a.add (j*2))=some (.int .i64 x.1)/\w0.cell? (a.add (j*2+1))=some (.int .u8 (x.2:Int))
def oC(il:List (Int×Nat))(j:Nat):Value:=if j % 2=0 then .int .i64 (il.getD (j / 2) (77,0)).1 else .int .u8 ((il.getD (j / 2) (77,0)).2:Int)
theorem EM(il:List (Int×Nat))(i:Nat):oC il (i*2)=.int .i64 (il.getD i (77,0)).1:=by unfold oC;rw[aj (by omega),show i*2 / 2=i by omega]
theorem EL(il:List (Int×Nat))(i:Nat):oC il (i*2+1)=.int .u8 ((il.getD i (77,0)).2:Int):=by unfold oC;rw[aa (by omega),show(i*2+1) / 2=i by omega]
section
variable {w0 w w' : World} {O : Nat → Ob}
theorem iA.at(h:iA w0 O w)(i:Nat){X:Ob}(e:O i=X):X.ok w:=e▸h.ok i
theorem iA.not(h:iA w0 O w){i j k:Nat}{X Y:Ob}(u:O i=X)(G:O j=Y)(o:i≠j)(y:X.bs k):¬Y.bs k:=λe=>o (h.dj i j k (u▸y) (G▸e))
theorem It.cell{ad:Option Addr}{n:Nat}{l:List (Int×Nat)}(hI:It w0 ad n l)(y:Below w0.heap.size w0 w){a:Addr}(H:ad=some a){j:Nat}{x:Int×Nat}(o:l[j]? = some x):a.block<w0.heap.size/\w.cell? (a.add (j*2))=some (.int .i64 x.1)/\w.cell? (a.add (j*2+1))=some (.int .u8 (x.2:Int)):=by
 obtain⟨i,G⟩:=hI.2.2.2.2 a H (λe=>by rw[e]at o;simp at o);obtain⟨c0,c1⟩:=G j x o;exact⟨i,(aw (a:=a.add (j*2)) (by rw[gX];exact y.block _ i)).trans c0,(aw (a:=a.add (j*2+1)) (by rw[gX];exact y.block _ i)).trans c1⟩
theorem It.Mh{ad:Option Addr}{n:Nat}{l:List (Int×Nat)}(hI:It w0 ad n l)(o:Below w0.heap.size w0 w){S:Nat->Prop}(hS:∀k,S k->w0.heap.size<=k):D.LJ w ad n l S:=by
 refine⟨hI.1,hI.2.1,hI.2.2.1,hI.2.2.2.1,λa i e=>?_⟩;have y:=(hI.2.2.2.2 a i e).1;exact⟨dm y o.size,λu=>by have:=hS _ u;omega,λj x G=>(hI.cell o i G).2⟩
theorem Ct{ob mo n:Nat}{il:List (Int×Nat)}{S:Nat->Prop}(o:Full w ob 169 (mo*2) (mo*2) (oC il))(hn:n=il.length)(W:n<=mo)(i:n<=1000000000)(hb:il=[])(hS:¬S ob):Kk w (some ⟨ob,0,none⟩) n il S:=by
 refine⟨hn,i,hb,(λe=>by cases e),λa Z a0=>?_⟩;have e:(⟨ob,0,none⟩:Addr)=a:=by injection Z
 subst e;refine⟨o.lt,hS,λj x y=>?_⟩;have Y:=(bu.1 y).1;have G:il.getD j (77,0)=x:=by rw[ar,y];rfl
 have J:=o.cell (j*2) (by omega);have H:=o.cell (j*2+1) (by omega);rw[EM,G]at J;rw[EL,G]at H;have u:∀k,(⟨ob,0,none⟩:Addr).add k=⟨ob,k,none⟩:=λk=>by unfold Addr.add;split<;>simp_all
 rw[u,u];exact⟨J,H⟩
theorem AX{ob mo:Nat}{e:Array Value}{il:List (Int×Nat)}(o:w.heap[ob]? = some (.cells e 169 (0,0)))(u:e.size=mo*2)(H:il.length<=mo):Full (w.setRow ob (D.rowP (il.length*2) (oC il)++e.toList.drop (D.rowP (il.length*2) (oC il)).length).toArray) ob 169 (mo*2) (il.length*2) (oC il):=by
 refine⟨_,setRow_heap w ob e _ 169 (0,0) o,?_,λj i=>?_⟩
 .simp[kH,u];omega
 rw[List.getElem?_toArray,du (by rw[kH];exact i),lh (n:=il.length*2) (oC il) i]
theorem xj(g:Nat)(i:Array Value):dy (λk=>k=g) w (w.setRow g i):=⟨rfl,rfl,rfl,by simp[World.setRow],λk _ hn=>setRow_other w g k i (λe=>hn e)⟩
theorem iA.BX{p:dz}{s s':Pl}{g g':eE}{mb H:Nat}{G:Option Addr}(h:iA w0 O w)(e0:O 0=.zS p s g mb)(i:zh p s g mb w s'.lD g' w')(W:w'.ownsRow 0 48 3 (.slice G s'.ev.length H) s'.ev.length (kE s'.ev))(y:∀k,eO G=some k->¬ey p s'.lD g' k/\k≠mb/\k<w'.heap.size/\(ey p s g k\/w.heap.size<=k)): iA w0 (fm (fm O 0 (.zS p s'.lD g' mb)) 12 (.row 48 3 G s'.ev.length H (kE s'.ev))) w':=by
 have J:∀k,(O 0).bs k↔(ey p s g k\/k=mb):=λk=>by rw[e0];exact Iff.rfl
 refine h.split 0 12 (by decide) ?_ i.m W (λk e=>?_) (λk e=>?_) (λk e u=>?_)
 .have:(O 0).bs=λk=>ey p s g k\/k=mb:=by rw[e0];rfl
  rw[this];exact i.o
 .rw[J];rcases e with e|e
  .exact(i.n k e).imp ag id
  exact ag (ab e)
 .rw[J];exact(y k e).2.2.2.imp ag id
 rcases e with e|e
 .exact(y k u).1 e
 exact(y k u).2.1 e
theorem iA.IM{d:D.Dp}{m m':D.Dm}{g g':D.Dg}(h:iA w0 O w)(e:O 1=.doc d m g)(ht:D.Tr d m g w m' g' w'):iA w0 (fm O 1 (.doc d m' g')) w':=by
 refine h.AR 1 ?_ ht.r (λk i=>?_)
 .have:(O 1).bs=D.ey d m g:=by rw[e];rfl
  rw[this];exact ht.o
 rw[e];exact ht.m k i
theorem iA.take{T' T:TypeId}{sz f r l bk m0 ce a3 ln lc:Nat}{P:Int->Nat->Value}{Ev a7:Nat->Value}{ae a0 la:Option Addr}{xs:List Value}{N:Int}{Q:List Sl}{x:Sl}{E:List (Sl×Int)}(hr:r≠7/\r≠12/\r≠l)(hl:l≠7/\l≠12)(h:iA w0 O w)(e7:O 7=.full bk 81 3 Ev)(er:O r=.row T' 2 ae m0 ce (gQ E))(el:O l=.lists T sz P E)(aE:O 12=.row T sz la ln lc xs)(hm:m0=E.length)(aF:(81:TypeId)≠T')(aG:T≠T')(aD:(81:TypeId)≠T)(ht:ue w T' T sz f (P N) bk a7 (gQ E) m0 ae (la,ln,lc) N Q x a0 a3 w'): iA w0 (fm (fm (fm (fm O 7 (.full bk 81 3 (ep a7 f (.slice a0 (E++Q.map (λy=>(y,N))).length a3)))) r (.row T' 2 a0 (E++Q.map (λy=>(y,N))).length a3 (gQ (E++Q.map (λy=>(y,N)))))) l (.lists T sz P (E++Q.map (λy=>(y,N))))) 12 .nil) w':=by
 have aC:(E++Q.map (λy=>(y,N))).length=m0+Q.length:=by rw[bo,dS,hm]
 have a8:gQ (E++Q.map (λy=>(y,N)))=gQ E++gQ (Q.map (λy=>(y,N))):=by unfold gQ;rw[List.flatMap_append]
 have b7:∀k,(O 7).bs k↔k=bk:=λk=>by rw[e7];exact Iff.rfl
 have br:∀k,(O r).bs k↔eO ae=some k:=λk=>by rw[er];exact Iff.rfl
 have a6:∀k,(O 12).bs k↔eO la=some k:=λk=>by rw[aE];exact Iff.rfl
 rw[aC,a8];have a1:=λy W=>(h.at l el) y W;have hS:∀y,y∈E->∀k,eO y.1.1=some k->¬(k=bk\/eO ae=some k\/eO la=some k):=λy W k u hs=>by
  have hb:(O l).bs k:=by rw[el];exact⟨y,W,u⟩
  rcases hs with hs|hs|hs
  .exact hl.1 (h.dj l 7 k hb ((b7 k).2 hs))
  .exact hr.2.2 (h.dj r l k ((br k).2 hs) hb)
  exact hl.2 (h.dj l 12 k hb ((a6 k).2 hs))
 have i12:∀X Y Z:Ob,fm (fm (fm (fm O 7 X) r Y) l Z) 12 .nil 12=.nil:=λX Y Z=>iu _ _ _;have il:∀X Y Z:Ob,fm (fm (fm (fm O 7 X) r Y) l Z) 12 .nil l=Z:=λX Y Z=>by rw[eT _ _ hl.2,iu]
 have ir:∀X Y Z:Ob,fm (fm (fm (fm O 7 X) r Y) l Z) 12 .nil r=Y:=λX Y Z=>by rw[eT _ _ hr.2.1,eT _ _ hr.2.2,iu]
 have i7:∀X Y Z:Ob,fm (fm (fm (fm O 7 X) r Y) l Z) 12 .nil 7=X:=λX Y Z=>by rw[eT _ _ (by decide),eT _ _ (λe=>hl.1 e.symm),eT _ _ (λe=>hr.1 e.symm),iu]
 have a9:∀k H,k=bk->w'.heap[k]? = some (.cells H T (0,0))->False:=λk H e J=>by
  obtain⟨c2,a2,_⟩:=ht.f;rw[e,a2]at J;injection J with J;injection J with _ J _;exact aD J
 have aA:∀k H,eO a0=some k->w'.heap[k]? = some (.cells H T (0,0))->False:=λk H e J=>by
  obtain⟨_,_,c2,a2⟩:=dA ht.r k (by rw[dr];exact e);rw[a2]at J;injection J with J;injection J with _ J _;exact aG J.symm
 have aB:∀k,k=bk->eO a0=some k->False:=λk e e'=>by
  obtain⟨_,_,c2,a2⟩:=dA ht.r k (by rw[dr];exact e');obtain⟨c3,aH,_⟩:=ht.f;rw[e,aH]at a2;injection a2 with J;injection J with _ J _;exact aF J
 have a5:∀y,y∈E++Q.map (λz=>(z,N))->Rd w' T sz (P y.2) y.1:=λy W=>by
  rcases di.1 W with W|W
  .exact(a1 y W).fr (λk u=>ht.o.same ((a1 y W).lt u).1 (hS y W k u))
  obtain⟨z,hz,rfl⟩:=ek.1 W;exact(ht.q z hz).1
 refine h.to (S:=λk=>k=bk\/eO ae=some k\/eO la=some k) (C:=λi=>i=7\/i=r\/i=l\/i=12) ht.o (λk u=>?_) (λi hi=>?_) (λi hi=>?_) (λi k hi u=>?_) (λi j k hi hj u G=>?_)
 .rcases u with u|u|u
  .exact⟨7,ag rfl,(b7 k).2 u⟩
  .exact⟨r,ab (ag rfl),(br k).2 u⟩
  exact⟨12,ab (ab (ab rfl)),(a6 k).2 u⟩
 .rw[eT _ _ (λe=>hi (ab (ab (ab e)))),eT _ _ (λe=>hi (ab (ab (ag e)))),eT _ _ (λe=>hi (ab (ag e))),eT _ _ (λe=>hi (ag e))]
 .rcases hi with rfl|rfl|rfl|rfl
  .rw[i7];exact ht.f
  .rw[ir];exact ht.r
  .rw[il];exact a5
  rw[i12];trivial
 .rcases hi with rfl|rfl|rfl|rfl
  .rw[i7]at u;exact ag ⟨7,ag rfl,(b7 k).2 u⟩
  .rw[ir]at u;exact(ht.a k u).imp (λe=>⟨i,ab (ag rfl),(br k).2 e⟩) id
  .rw[il]at u;obtain⟨y,W,u⟩:=u;rcases di.1 W with W|W
   .exact ag ⟨i,ab (ab (ag rfl)),by rw[el];exact⟨y,W,u⟩⟩
   obtain⟨z,hz,rfl⟩:=ek.1 W;exact((ht.q z hz).2.2 k u).imp (λe=>⟨12,ab (ab (ab rfl)),(a6 k).2 e⟩) id
  rw[i12]at u;exact u.elim
 have a4:(fm (fm (fm (fm O 7 (.full bk 81 3 (ep a7 f (.slice a0 (m0+Q.length) a3)))) r (.row T' 2 a0 (m0+Q.length) a3 (gQ E++gQ (Q.map (λy=>(y,N)))))) l (.lists T sz P (E++Q.map (λy=>(y,N))))) 12 .nil l).bs k->∃H,w'.heap[k]? = some (.cells H T (0,0)):=λhh=>by
  rw[il]at hh;obtain⟨y,W,hh⟩:=hh;exact((a5 y W).lt hh).2
 rcases hi with rfl|rfl|rfl|rfl<;>rcases hj with rfl|rfl|rfl|rfl
 .rfl
 .rw[i7]at u;rw[ir]at G;exact(aB k u G).elim
 .obtain⟨H,J⟩:=a4 G;rw[i7]at u;exact(a9 k H u J).elim
 .rw[i12]at G;exact G.elim
 .rw[ir]at u;rw[i7]at G;exact(aB k G u).elim
 .rfl
 .obtain⟨H,J⟩:=a4 G;rw[ir]at u;exact(aA k H u J).elim
 .rw[i12]at G;exact G.elim
 .obtain⟨H,J⟩:=a4 u;rw[i7]at G;exact(a9 k H G J).elim
 .obtain⟨H,J⟩:=a4 u;rw[ir]at G;exact(aA k H G J).elim
 .rfl
 .rw[i12]at G;exact G.elim
 .rw[i12]at u;exact u.elim
 .rw[i12]at u;exact u.elim
 .rw[i12]at u;exact u.elim
 rfl
end
end F
end
namespace F
theorem Tryz.underlying56:prog.underlying 56=some (.slice 169):=by kernel_rfl
theorem Tryz.Ew:(prog.info? 169).map (·.size)=some 2:=by kernel_rfl
theorem jJ{w:World}{b:Nat}{x y:Value}{T:TypeId}(h:w.heap[b]? = some (.cells #[x,y] T (0,0))):w.cell? ⟨b,0,none⟩=some x/\w.cell? ⟨b,1,none⟩=some y/\b<w.heap.size:=⟨by simp[World.cell?,h],by simp[World.cell?,h],bz h⟩
theorem gp{w:World}{b:Nat}{x y z u:Value}{T:TypeId}(h:w.heap[b]? = some (.cells #[x,y,z,u] T (0,0))):w.cell? ⟨b,0,none⟩=some x/\w.cell? ⟨b,1,none⟩=some y/\w.cell? ⟨b,2,none⟩=some z/\w.cell? ⟨b,3,none⟩=some u/\b<w.heap.size:=⟨by simp[World.cell?,h],by simp[World.cell?,h],by simp[World.cell?,h],by simp[World.cell?,h],bz h⟩
def FC(sb:Nat)(kind hh ticks:Int)(ia:Option Addr)(gm ic:Nat):Ob:=.one sb (.cells #[.int .i64 kind,.int .i64 hh,.int .i64 ticks,.slice ia gm ic] 76 (0,0))
theorem BV(n:Nat)(a b c:Value):ep (ep (wm n a b) 0 (.int .i64 ((n:Int)+1))) 1 c=wm (n+1) c b:=by
 funext j
 unfold ep wm;by_cases i:j=1
 .subst i;rfl
 rw[aa i];by_cases e:j=0
 .rw[aj e,aj e];rfl
 rw[aa e,aa e,aa e,aa i,aa i]
def Gh(O:Nat->Ob)(x:oV)(I ob mo bk n:Nat)(E:List (Sl×Int))(itv:Value)(w0 w':World):Prop:=∃(x':oV) (ra:Option Addr×Nat) (Q:List (Sl×Int)),x'.mb=x.mb/\x'.pb=x.pb/\x'.h.mb=x.h.mb/\x'.Good (I+1)/\Q.length=4/\(∀y,y∈Q->y.1.2.1<=1000) /\
 iA w0 (fm (fm (fm (fm (fm O 0 (.zS x'.p x'.s x'.g x'.mb)) 1 (.doc x'.d x'.m x'.h)) 7 (.full bk 81 3 (wm (n+1) (.slice ra.1 (E++Q).length ra.2) itv))) 8 (.row 119 2 ra.1 (E++Q).length ra.2 (gQ (E++Q)))) 10 (.lists 48 3 mG (E++Q))) w'
theorem Fo(l:List se):(kE l).length=l.length*3:=by
 induction l with
 |nil=>rfl
 |cons a l e=>
  have:kE (a :: l)=[.int .i64 (a.1:Int),.int .i64 (a.2.1:Int),.int .i64 a.2.2]++kE l:=by unfold kE;simp
  rw[this,bo,e];simp;omega
theorem Hw{l:List se}:∀{k:Nat} {e:se},l[k]? = some e->(kE l)[k*3]? = some (.int .i64 (e.1:Int))/\(kE l)[k*3+1]? = some (.int .i64 (e.2.1:Int))/\(kE l)[k*3+2]? = some (.int .i64 e.2.2):=by
 induction l with
 |nil=>intro k e h;simp at h
 |cons a l o=>
  intro k e h;have i:kE (a :: l)=.int .i64 (a.1:Int) :: .int .i64 (a.2.1:Int) :: .int .i64 a.2.2 :: kE l:=by unfold kE;simp
  rw[i]
  cases k with
  |zero=>
   have:a=e:=by simpa using h
   subst this;exact⟨rfl,rfl,rfl⟩
  |succ k=>
   have:=o (k:=k) (e:=e) (by simpa using h);rw[show(k+1)*3=k*3+3 by omega];exact this
theorem Ah{w:World}{a:Option Addr}{n c:Nat}{l:List se}{i:Nat}{e:se}(h:w.ownsRow 0 48 3 (.slice a n c) n (kE l))(he:l[i]? = some e):∃b,a=some ⟨b,0,none⟩/\b<w.heap.size/\w.cell? ⟨b,i*3,none⟩=some (.int .i64 (e.1:Int))/\w.cell? ⟨b,i*3+1,none⟩=some (.int .i64 (e.2.1:Int))/\w.cell? ⟨b,i*3+2,none⟩=some (.int .i64 e.2.2):=by
 have Y:=(bu.1 he).1;have hn:n≠0:=λo=>by
  have:=h.1;rw[o,Fo l]at this;omega
 obtain⟨b,Z,u⟩:=dM h hn;injection u with G _ y;subst G y;obtain⟨o,W,J⟩:=Hw he;exact⟨b,rfl,(dA h b rfl).2.1,hZ h o,hZ h W,hZ h J⟩
theorem EJ{d:D.Dp}{m:D.Dm}{g:D.Dg}{w:World}{s:Pl}{v:Value}(hR:D.dQ d m g w)(he:m.ev=s.ev)(o:v=D.iR m g 4 0\/(v=.slice none 0 0/\m.ev=[])):∃a c,v=.slice a s.ev.length c/\w.ownsRow 0 48 3 (.slice a s.ev.length c) s.ev.length (kE s.ev):=by
 rcases o with rfl|⟨rfl,i⟩
 .have h:=hR.E;rw[he]at h;have e:D.iR m g 4 0=.slice (g.ro 4 0).1 s.ev.length (g.ro 4 0).2:=by rw[<-he];rfl
  rw[e]at h ⊢;exact⟨_,_,rfl,h⟩
 rw[<-he,i];exact⟨none,0,rfl,dJ _ _ _ _⟩
theorem IK{O:Nat->Ob}{x:oV}{I ob mo bk n:Nat}{ra:Option Addr×Nat}{E:List (Sl×Int)}{itv:Value}{w0 w:World}{kind hh ticks:Int}{ia:Option Addr}{gm ic:Nat}{il:List (Int×Nat)}(hf:iA w0 O w)(e0:O 0=.zS x.p x.s x.g x.mb)(e1:O 1=.doc x.d x.m x.h)(e2:O 2=.one x.pb (.cells #[P0 x.mb,P0 x.h.mb] 74 (0,0)))(e6:O 6=.xV ob 169 (mo*2))(e7:O 7=.full bk 81 3 (wm n (.slice ra.1 E.length ra.2) itv))(e8:O 8=.row 119 2 ra.1 E.length ra.2 (gQ E))(e10:O 10=.lists 48 3 mG E)(e12:O 12=.nil)(e13:O 13=.nil)(hG:x.Good I)(hI:It w0 ia gm il)(hmo:gm+8<=mo)(hmo2:mo<=1000000008)(hn:n<=1000000000)(hE:E.length<=100000000)(hIb:I<=2000000)(ht0:-9223372036854775808<=ticks)(ht1:ticks<=9223372036854775807): Calls prog 48 #[P0 bk,P0 x.pb,.agg #[.int .i64 kind,.int .i64 hh,.int .i64 ticks,.slice ia gm ic],.slice (some ⟨ob,0,none⟩) mo mo] w λe w'=>e=.returned (.bool true)/\Gh O x I ob mo bk n E itv w0 w':=by
 have HEQ:=az (ay e0 (ay e1 (ay e2 (ay e6 (ay e7 (ay e8 (ay e10 (ay e12 e13))))))));have HG:=az hG;have HI:=az hI;have HF:=az hf;obtain⟨hil,hin9,_⟩:=hI;have HIL:=az hil;have HTB:=az (ay ht0 ht1);clear e0 e1 e2 e6 e7 e8 e10 e12 e13 hG hf hil ht0 ht1;go_in;obtain⟨sb,hsb⟩:∃sb,sb=w.heap.size:=⟨_,rfl⟩;have HF1:Hid (iA w0 (fm O 13 (FC sb kind hh ticks ia gm ic)) (w.alloc (.cells #[.int .i64 kind,.int .i64 hh,.int .i64 ticks,.slice ia gm ic] 76))):=by
  refine HF.out.new 13 (ah _ _ none) ?_ (λk hk=>?_)
  .rw[hsb];exact bf w _
  have:k=sb:=hk;omega
 go_upto_region 2 with fail
 generalize w.alloc (.cells #[.int .i64 kind,.int .i64 hh,.int .i64 ticks,.slice ia gm ic] 76)=w1 at *;rw[<-hsb];have hbx:w1.heap[sb]? = some (.cells #[.int .i64 kind,.int .i64 hh,.int .i64 ticks,.slice ia gm ic] 76 (0,0)):=HF1.out.at 13 (X:=FC sb kind hh ticks ia gm ic) rfl;obtain⟨_,_,b2,b3,lsb⟩:=gp hbx;obtain⟨cur,hcur,hcs⟩:jB w1 ob 169 (mo*2):=HF1.out.at 6 HEQ.out.2.2.2.1;have HCUR:=az (ay hcur hcs);clear hcur hcs hbx HF hsb;obtain⟨cs,hcse⟩:∃cs,cs=D.rowP (il.length*2) (oC il):=⟨_,rfl⟩;have HCS:=az hcse;clear hcse;go_wp2_with (refine sf rfl (.tmp 19) (.tmp 21) 56 56 rfl 169 2 Tryz.underlying56 Tryz.Ew ob mo mo gm ic ia rfl rfl cur 169 HCUR.out.1 cs ?c0 ?c1 ?c2 ?c3 ?c4 ?c5 ?_)
 try case c0=>omega
 try case c1=>rw[HCS.out,kH,HIL.out]
 try case c2=>intro h;rw[HCS.out,HI.out.2.2.2.1 h];rfl
 try case c3=>
  intro a ha j v hj;rw[HCS.out]at hj;have hjl:j<il.length*2:=by
   have:=(bu.1 hj).1;rw[kH]at this;exact this
  rw[lh _ hjl]at hj;injection hj with hj;subst hj;obtain⟨y,hy⟩:∃y,il[j / 2]? = some y:=⟨_,bn (by omega)⟩;have hg:il.getD (j / 2) (77,0)=y:=by rw[ar,hy];rfl
  obtain⟨_,c0,c1⟩:=HI.out.cell HF1.out.b ha hy;rcases Nat.mod_two_eq_zero_or_one j with e|e
  .have ej:j=j / 2*2:=by omega
   have:=EM il (j / 2);rw[hg]at this;rw[ej,this];exact c0
  have ej:j=j / 2*2+1:=by omega
  have:=EL il (j / 2);rw[hg]at this;rw[ej,this];exact c1
 try case c4=>rw[HCS.out,kH,HCUR.out.2,<-HIL.out];omega
 try case c5=>
  intro v hv;rw[HCS.out]at hv;obtain⟨j,_,rfl⟩:=ek.1 hv;unfold oC;split<;>rfl
 have HFU:Hid (Full (w1.setRow ob (cs++cur.toList.drop cs.length).toArray) ob 169 (mo*2) (gm*2) (oC il)):=by
  have h:=AX (il:=il) HCUR.out.1 HCUR.out.2 (by rw[<-HIL.out];omega);rw[<-HIL.out]at h;show Full _ _ _ _ _ _;rw[HCS.out,<-HIL.out];exact h
 have HOU:Hid (dy (λk=>k=ob) w1 (w1.setRow ob (cs++cur.toList.drop cs.length).toArray)):=xj ob _;generalize w1.setRow ob (cs++cur.toList.drop cs.length).toArray=w2 at *;clear HCUR HCS b2 b3 lsb;go_wp2_with fail
 go_loopw [10] (λiv wx=>∃j:Nat,gm<=j/\j<=mo/\iv=.int .i64 j/\Hid (dy (λk=>k=ob) w1 wx)/\Hid (Full wx ob 169 (mo*2) (j*2) (oC il))) (λiv _=>mo-(intOf iv).toNat)
 case atStart=>exact⟨gm,by omega,by omega,rfl,HOU,HFU⟩
 case round=>
  clear HOU HFU;obtain⟨j,hj1,hj2,rfl,rO,rF⟩:=hrel;by_cases hjm:j<mo
  .have hjm2:(j:Int)<(mo:Int):=by omega
   have hB:jB wr ob 169 (mo*2):=by
    obtain⟨c,k1,k2,_⟩:=rF.out;exact⟨c,k1,k2⟩
   obtain⟨⟨v0,q0⟩,p0⟩:=hB.cell (j*2) (by omega);obtain⟨⟨v1,q1⟩,p1⟩:=hB.cell (j*2+1) (by omega);have hgd:il.getD j (77,0)=(77,0):=by rw[ar,cw (by rw[<-HIL.out];exact hj1)];rfl
   have HF':Hid (Full ((wr.setCell ⟨ob,j*2,none⟩ (.int .i64 77)).setCell ⟨ob,j*2+1,none⟩ (.int .u8 0)) ob 169 (mo*2) ((j+1)*2) (oC il)):=by
    have h:=(rF.out.set (by omega)).set (by omega);rw[EM,EL,hgd]at h;rw[show(j+1)*2=j*2+1+1 by omega];exact h
   have HO':Hid (dy (λk=>k=ob) w1 ((wr.setCell ⟨ob,j*2,none⟩ (.int .i64 77)).setCell ⟨ob,j*2+1,none⟩ (.int .u8 0))):=bm (S:=λk=>k=ob) (a:=⟨ob,j*2+1,none⟩) (bm (S:=λk=>k=ob) (a:=⟨ob,j*2,none⟩) rO.out (ag rfl) _) (ag rfl) _;clear hB hgd rO rF;go_wp2_with fail
   go_roundw
   case rel=>exact⟨j+1,by omega,by omega,by go_num,HO',HF'⟩
   case measure=>simp[intOf];omega
  have hjm2:¬((j:Int)<(mo:Int)):=by omega
  have hje:mo=j:=by omega
  subst hje;have HF2:Hid (iA w0 (fm (fm O 13 (FC sb kind hh ticks ia gm ic)) 6 (.full ob 169 (mo*2) (oC il))) wr):=by
   have hb:(fm O 13 (FC sb kind hh ticks ia gm ic) 6).bs=λk=>k=ob:=by
    rw[eT _ _ (by decide),HEQ.out.2.2.2.1];rfl
   refine HF1.out.AR 6 (by rw[hb];exact rO.out) rF.out (λk hk=>ag ?_);rw[hb];exact hk
  have hFd:=HF2.out.kept (w':=wr.drew) (bq (ax _ _));have hM:tN x.p x.s x.g x.mb wr.drew:=hFd.at 0 HEQ.out.1;have hFo:Full wr.drew ob 169 (mo*2) (mo*2) (oC il):=hFd.at 6 (iu _ _ _);have HTN:=az (hM.BW mo ticks HG.out.pg (by have:=HG.out.n1;have:=HG.out.pg.q;omega) (Ct (S:=λk=>ey x.p x.s x.g k\/k=x.mb) hFo HIL.out (by omega) hin9 HI.out.2.2.1 (hFd.not (i:=6) (j:=0) (k:=ob) (iu _ _ _) HEQ.out.1 (by decide) rfl)));have HOK:=az (ay hM.ok hM.ev);have hpb:wr.heap[x.pb]? = some (.cells #[P0 x.mb,P0 x.h.mb] 74 (0,0)):=HF2.out.at 2 HEQ.out.2.2.1;obtain⟨p0,p1,lpb⟩:=jJ hpb;have hbx:wr.heap[sb]? = some (.cells #[.int .i64 kind,.int .i64 hh,.int .i64 ticks,.slice ia gm ic] 76 (0,0)):=HF2.out.at 13 (X:=FC sb kind hh ticks ia gm ic) rfl;obtain⟨_,_,b2,b3,lsb⟩:=gp hbx;clear hpb hbx hM hFo hFd HF1 rO rF;have hin2:(gm:Int)<=(mo:Int):=by omega
  go_wp2_with fail
  go_cut [11] from 34 to 43 (λv wx=>∃(s6:Pl) (g6:eE) (a6:Option Addr) (c6:Nat),v=.slice a6 s6.ev.length c6/\Hid (jh x.p x.s ticks il s6)/\Hid (iA w0 (fm (fm (fm (fm O 13 (FC sb kind hh ticks ia gm ic)) 6 (.full ob 169 (mo*2) (oC il))) 0 (.zS x.p s6.lD g6 x.mb)) 12 (.row 48 3 a6 s6.ev.length c6 (kE s6.ev))) wx))
  case first=>
   go_region_with (go_at_call 24;refine HTN.out.mono ?_;rintro e w6 ⟨s6,g6,a6,c6,rfl,ht6,ho6,hg6,hd6⟩;have HT6:=az ht6;have HF6:=az ((HF2.out.kept (w':=wr.drew) (bq (ax _ _))).BX HEQ.out.1 hg6 ho6 hd6);clear ht6 ho6 hg6 hd6)
   all_goals
    go_wp2_with fail
    go_meet
    case rel=>exact⟨s6,g6,a6,c6,rfl,HT6,HF6⟩
  case rest=>
   obtain⟨s6,g6,a6,c6,rfl,HT6,HF6⟩:=hcut;clear HTN HF2 p0 p1 b2 b3 lpb lsb;have hFd:=HF6.out.kept (w':=wc.drew) (bq (ax _ _));have hR:D.dQ x.d x.m x.h wc.drew:=hFd.at 1 HEQ.out.2.1;obtain⟨ρ,hSim⟩:=HG.out.Iy;have HTD:=az (D.IL (ticks:=ticks) (c0:=ic) HG.out.pd HG.out.rg HG.out.pg.pi (by have:=HG.out.pg.q;omega) HG.out.dn hR hSim HOK.out.1 HG.out.ng HOK.out.2 HG.out.n0 (by have:=HG.out.n1;have:=HG.out.pg.q;omega) HG.out.pg.q HTB.out.1 HTB.out.2 (HI.out.Mh hFd.b (S:=D.ey x.d x.m x.h) (λk hk=>hFd.lo 1 k (by show(O 1).bs k;rw[HEQ.out.2.1];exact hk))) HT6.out);have hpb:wc.heap[x.pb]? = some (.cells #[P0 x.mb,P0 x.h.mb] 74 (0,0)):=HF6.out.at 2 HEQ.out.2.2.1;obtain⟨p0,p1,lpb⟩:=jJ hpb;have hbx:wc.heap[sb]? = some (.cells #[.int .i64 kind,.int .i64 hh,.int .i64 ticks,.slice ia gm ic] 76 (0,0)):=HF6.out.at 13 (X:=FC sb kind hh ticks ia gm ic) rfl;obtain⟨_,_,b2,b3,lsb⟩:=gp hbx;clear hpb hbx hFd hR hSim;obtain⟨wA,hwA⟩:∃z:World,z=wc:=⟨_,rfl⟩;subst hwA;go_wp2_with fail
   go_cut [12] from 44 to 52 (λv wx=>∃(m7:D.Dm) (h7:D.Dg) (ρ7:Nat->Nat) (a7:Option Addr) (c7:Nat),v=.slice a7 s6.ev.length c7/\Hid (h7.mb=x.h.mb/\D.eK x.p (1+50*I+x.p.qn) s6 m7 ρ7)/\Hid (wx.ownsRow 0 48 3 (.slice a7 s6.ev.length c7) s6.ev.length (kE s6.ev))/\Hid (iA w0 (fm (fm (fm (fm (fm O 13 (FC sb kind hh ticks ia gm ic)) 6 (.full ob 169 (mo*2) (oC il))) 0 (.zS x.p s6.lD g6 x.mb)) 12 (.row 48 3 a6 s6.ev.length c6 (kE s6.ev))) 1 (.doc x.d m7 h7)) wx))
   case first=>
    go_region_with (go_at_call 75;refine HTD.out.mono ?_;rintro e w7 ⟨v7,rfl,m7,h7,ρ7,hT7,hS7,hv7⟩;have HS7:=az (ay hT7.b hS7);have HF7:=az ((HF6.out.kept (w':=wA.drew) (bq (ax _ _))).IM HEQ.out.2.1 hT7);obtain⟨a7,c7,rfl,hw7⟩:=EJ hT7.r hS7.ev hv7;have HW7:=az hw7;clear hT7 hS7 hv7 hw7)
    all_goals
     go_wp2_with fail
     go_meet
     case rel=>exact⟨m7,h7,ρ7,a7,c7,rfl,HS7,HW7,HF7⟩
   case rest=>
    obtain⟨m7,h7,ρ7,a7,c7,rfl,HS7,HW7,HF7⟩:=hcut;clear HTD HF6 p0 p1 b2 b3 lpb lsb;obtain⟨wB,hwB⟩:∃z:World,z=wc:=⟨_,rfl⟩;subst hwB;have HRL:Hid (wB.ownsRow 0 48 3 (.slice a6 s6.ev.length c6) s6.ev.length (kE s6.ev)):=HF7.out.at 12 (X:=.row 48 3 a6 s6.ev.length c6 (kE s6.ev)) rfl;have HEL:Hid (s6.ev.length<=50):=by
     have h1:=(nW HG.out.pg.pi HG.out.pg.pw.n1 HOK.out.1 HOK.out.2 (by have:=HG.out.n1;have:=HG.out.pg.q;omega) (qj HI.out.2.2.1) HT6.out).el;have h2:=HG.out.pg.q;show _<=_;omega
    have hne50:=HEL.out;obtain⟨ne,hne⟩:∃ne,ne=s6.ev.length:=⟨_,rfl⟩;have HNE:=az hne;rw[<-hne]at hne50;rw[<-hne];clear hne;go_wp2_with fail
    go_loopw [13,14] (λov iv wx=>∃i:Nat,i<=ne/\ov=.bool true/\iv=.int .i64 i/\Hid (wB.grownBy wx none)) (λ_ iv _=>ne-(intOf iv).toNat)
    case atStart=>exact⟨0,by omega,by simp,rfl,ax _ _⟩
    case round=>
     obtain⟨i,hi,rfl,rfl,rG⟩:=hrel;by_cases hin:i<ne
     .have hin2:(i:Int)<(ne:Int):=by omega
      obtain⟨ev,hev⟩:∃ev,s6.ev[i]? = some ev:=⟨_,bn (by rw[<-HNE.out];exact hin)⟩;obtain⟨ba,h1,h2,h3,h4,h5⟩:=Ah HRL.out hev;obtain⟨bb,k1,k2,k3,k4,k5⟩:=Ah HW7.out hev;subst h1 k1;have lr:=rG.out.size;have d0:=(bh rG.out (a:=⟨ba,i*3,none⟩) h2).1.trans h3;have d1:=(bh rG.out (a:=⟨ba,i*3+1,none⟩) h2).1.trans h4;have d2:=(bh rG.out (a:=⟨ba,i*3+2,none⟩) h2).1.trans h5;have f0:=(bh rG.out (a:=⟨bb,i*3,none⟩) k2).1.trans k3;have f1:=(bh rG.out (a:=⟨bb,i*3+1,none⟩) k2).1.trans k4;have f2:=(bh rG.out (a:=⟨bb,i*3+2,none⟩) k2).1.trans k5
      clear h3 h4 h5 k3 k4 k5 hev;go_wp2_with fail
      go_quiet (fail)
      go_wp2_with fail
      go_roundw
      case rel=>exact⟨i+1,by omega,by simp,by go_num,⟨rG.out.os,rG.out.tape,rG.out.output,rG.out.size,rG.out.block⟩⟩
      case measure=>simp[intOf];omega
     have hin2:¬((i:Int)<(ne:Int)):=by omega
     have HF8:=az (HF7.out.kept rG.out);have hie:i=ne:=by omega
     clear HF7 HRL HW7;obtain⟨wC,hwC⟩:∃z:World,z=wr:=⟨_,rfl⟩;subst hwC;have HG0:Hid (wC.grownBy wC none):=ax _ _;go_wp2_with fail
     go_loopw [13,15] (λov iv wx=>∃i:Nat,i<=mo/\ov=.bool true/\iv=.int .i64 i/\Hid (wC.grownBy wx none)) (λ_ iv _=>mo-(intOf iv).toNat)
     case atStart=>exact⟨0,by omega,rfl,rfl,HG0⟩
     case round=>
      clear HG0;obtain⟨q,hq,rfl,rfl,rG2⟩:=hrel;have HF9:=az (HF8.out.kept rG2.out);by_cases hqm:q<mo
      .have hqm2:(q:Int)<(mo:Int):=by omega
       have hFo:Full wr ob 169 (mo*2) (mo*2) (oC il):=HF9.out.at 6 (X:=.full ob 169 (mo*2) (oC il)) rfl;have o0:=hFo.cell (q*2) (by omega);have o1:=hFo.cell (q*2+1) (by omega);rw[EM]at o0;rw[EL]at o1;have lob:=hFo.lt;clear hFo;by_cases hqi:q<gm
       .have hqi2:(q:Int)<(gm:Int):=by omega
        obtain⟨y,hy⟩:∃y,il[q]? = some y:=⟨_,bn (by rw[<-HIL.out];exact hqi)⟩;have hg:il.getD q (77,0)=y:=by rw[ar,hy];rfl
        rw[hg]at o0 o1;obtain⟨a,rfl⟩:∃a,ia=some a:=by
         cases ia with
         |none=>rw[HI.out.2.2.2.1 rfl]at hy;simp at hy
         |some a=>exact⟨a,rfl⟩
        obtain⟨z1,z2,z3⟩:=HI.out.cell HF9.out.b rfl hy;have z4:wr.cell? ⟨(a.add (q*2)).block,(a.add (q*2)).off+1,none⟩=some (.int .u8 (y.2:Int)):=by
         rw[<-D.kS a (q*2) 1]at z3;exact z3
        have hbx:wr.heap[sb]? = some (.cells #[.int .i64 kind,.int .i64 hh,.int .i64 ticks,.slice (some a) gm ic] 76 (0,0)):=HF9.out.at 13 (X:=FC sb kind hh ticks (some a) gm ic) rfl;obtain⟨_,_,_,b3,lsb⟩:=gp hbx;clear hbx z3 hy hg;go_wp2_with fail
        go_quiet (fail)
        go_wp2_with fail
        go_roundw
        case rel=>exact⟨q+1,by omega,by simp,by go_num,⟨rG2.out.os,rG2.out.tape,rG2.out.output,rG2.out.size,rG2.out.block⟩⟩
        case measure=>simp[intOf];omega
       have hqi2:¬((q:Int)<(gm:Int)):=by omega
       have hg:il.getD q (77,0)=(77,0):=by rw[ar,cw (by rw[<-HIL.out];omega)];rfl
       rw[hg]at o0 o1;clear hg;have o1':wr.cell? ⟨ob,q*2+1,none⟩=some (.int .u8 0):=o1;clear o1;go_wp2_with fail
       go_roundw
       case rel=>exact⟨q+1,by omega,by simp,by go_num,rG2⟩
       case measure=>simp[intOf];omega
      have hqm2:¬((q:Int)<(mo:Int)):=by omega
      have HTK:=az (IW (n:=n) (Ev:=wm n (.slice ra.1 E.length ra.2) itv) (HF9.out.at 7 (X:=.full bk 81 3 (wm n (.slice ra.1 E.length ra.2) itv)) HEQ.out.2.2.2.2.1) rfl rfl (HF9.out.at 8 (X:=.row 119 2 ra.1 E.length ra.2 (gQ E)) HEQ.out.2.2.2.2.2.1) (HF9.out.at 12 (X:=.row 48 3 a6 s6.ev.length c6 (kE s6.ev)) rfl) hn hE (by have:=HEL.out;omega));rw[<-HNE.out]at HTK;go_wp2_with fail
      refine HTK.out.mono ?_;rintro e w9 ⟨rfl,Q,xq,ae',ce',hQ,hxq,hT9⟩;have HT9:=az hT9;have HQ:=az hQ;have HXQ:=az hxq;clear hT9 HTK hQ hxq;go_wp2_with fail
      go_ret;refine⟨rfl,{ x with s:=s6.lD,g:=g6,m:=m7,h:=h7 },(ae',ce'),Q.map (λy=>(y,-((n:Int)+1))),rfl,rfl,HS7.out.1,HG.out.next HOK.out.1 HOK.out.2 HT6.out (qj HI.out.2.2.1) hIb HS7.out.2 g6 h7,by rw[dS];exact HQ.out,λy hy=>?_,?_⟩
      .obtain⟨z,hz,rfl⟩:=ek.1 hy;have h1:=(HT9.out.q z hz).2.1;have h2:=HXQ.out;show z.2.1<=1000;omega
      have h1:=HF9.out.take (r:=8) (l:=10) (P:=mG) (sz:=3) (T:=48) (T':=119) ⟨by decide,by decide,by decide⟩ ⟨by decide,by decide⟩ HEQ.out.2.2.2.2.1 HEQ.out.2.2.2.2.2.1 HEQ.out.2.2.2.2.2.2.1 (show _=Ob.row 48 3 a6 s6.ev.length c6 (kE s6.ev) from rfl) rfl (by decide) (by decide) (by decide) (by rw[<-HNE.out];exact HT9.out);rw[BV]at h1;have h2:=(h1.drop 13).AR 6 (X:=.xV ob 169 (mo*2)) (dk _ _) (by
       obtain⟨c,k1,k2,_⟩:Full w9 ob 169 (mo*2) (mo*2) (oC il):=h1.at 6 (X:=.full ob 169 (mo*2) (oC il)) rfl;exact⟨c,k1,k2⟩) (λk hk=>ag hk)
      refine h2.eq (λi=>?_);by_cases hi:i<14
      .rcases yI hi with rfl|rfl|rfl|rfl|rfl|rfl|rfl|rfl|rfl|rfl|rfl|rfl|rfl|rfl<;>first|rfl|exact HEQ.out.2.2.2.1|exact HEQ.out.2.2.2.2.2.2.2.1|exact HEQ.out.2.2.2.2.2.2.2.2
      repeat rw[eT _ _ (by omega)]
theorem BU(n:Nat)(a b c:Value):ep (ep (wm n a b) 0 (.int .i64 ((n:Int)+1))) 2 c=wm (n+1) a c:=by
 funext j
 unfold ep wm;by_cases i:j=2
 .subst i;rfl
 rw[aa i];by_cases e:j=0
 .rw[aj e,aj e];rfl
 rw[aa e,aa e,aa e];by_cases o:j=1
 .rw[aj o,aj o]
 rw[aa o,aa o,aa i,aa i]
theorem jF{w:World}{b:Nat}{x y:Value}{T:TypeId}(h:w.heap[b]? = some (.cells #[x,y] T (0,0))):w.cell? ⟨b,0,none⟩=some x/\w.cell? ⟨b,1,none⟩=some y/\b<w.heap.size:=⟨by simp[World.cell?,h],by simp[World.cell?,h],bz h⟩
theorem iA.ask{w0 w w':World}{O:Nat->Ob}{p:dz}{s:Pl}{g:eE}{mb:Nat}(h:iA w0 O w)(e0:O 0=.zS p s g mb)(e:zh p s g mb w s g w'):iA w0 O w':=by
 have u:(O 0).bs=λk=>ey p s g k\/k=mb:=by rw[e0];rfl
 refine (h.AR 0 (X:=.zS p s g mb) (w':=w') (by rw[u];exact e.o) e.m (λk y=>ag (by rw[u];exact y))).eq (λi=>?_);by_cases hi:i=0
 .rw[hi,iu,e0]
 rw[eT _ _ hi]
theorem iA.LB{w0 w w':World}{O:Nat->Ob}{p:dz}{s:Pl}{g:eE}{mb n c:Nat}{a:Option Addr}{xs:List Value}(h:iA w0 O w)(e0:O 0=.zS p s g mb)(y:zh p s g mb w s g w')(W:w'.ownsRow w.heap.size 3 1 (.slice a n c) n xs):iA w0 (fm O 12 (.row 3 1 a n c xs)) w':=by
 have H:(O 0).bs=λk=>ey p s g k\/k=mb:=by rw[e0];rfl
 have u:=λk e=>(dA W k (by rw[dr];exact e)).1;have Z:=h.split 0 12 (by decide) (X:=.zS p s g mb) (Y:=.row 3 1 a n c xs) (w':=w') (by rw[H];exact y.o) y.m (gw W (dc _)) (λk e=>ag (by rw[H];exact e)) (λk e=>ab (u k e)) (λk e G=>by
  have h2:=u k G;have h3:=h.lt (i:=0) (by rw[H];exact e);omega)
 refine Z.eq (λi=>?_);by_cases hi:i=12
 .rw[hi,iu,iu]
 rw[eT _ _ hi,eT _ _ hi];by_cases J:i=0
 .rw[J,iu,e0]
 rw[eT _ _ J]
theorem G5{w:World}{i n c:Nat}{ad:Option Addr}{l:List Nat}{j v:Nat}(h:w.ownsRow i 3 1 (.slice ad n c) n (l.map (λt:Nat=>Value.int .i64 (t:Int))))(o:l[j]? = some v):∃b,ad=some ⟨b,0,none⟩/\b<w.heap.size/\w.cell? ⟨b,j,none⟩=some (.int .i64 (v:Int)):=by
 have u:=(bu.1 o).1;have hn:n≠0:=λe=>by
  have:=h.1;rw[e,dS]at this;omega
 obtain⟨b,J,G⟩:=dM h hn;injection G with H _ y;subst H y;exact⟨b,rfl,(dA h b rfl).2.1,hZ h (by rw[eo,o];rfl)⟩
def D5(O:Nat->Ob)(bk n:Nat)(J:List (Sl×Int))(evv:Value)(w0 w':World):Prop:=∃(rb:Option Addr×Nat) (Q:List (Sl×Int)),Q.length=4/\(∀y,y∈Q->y.1.2.1<=600000000) /\
 iA w0 (fm (fm (fm O 7 (.full bk 81 3 (wm (n+1) evv (.slice rb.1 (J++Q).length rb.2)))) 9 (.row 121 2 rb.1 (J++Q).length rb.2 (gQ (J++Q)))) 11 (.lists 3 1 qE (J++Q))) w'
theorem EH{O:Nat->Ob}{x:oV}{I bk n:Nat}{rb:Option Addr×Nat}{J:List (Sl×Int)}{evv:Value}{w0 w:World}(hf:iA w0 O w)(e0:O 0=.zS x.p x.s x.g x.mb)(e1:O 1=.doc x.d x.m x.h)(e2:O 2=.one x.pb (.cells #[P0 x.mb,P0 x.h.mb] 74 (0,0)))(e7:O 7=.full bk 81 3 (wm n evv (.slice rb.1 J.length rb.2)))(e9:O 9=.row 121 2 rb.1 J.length rb.2 (gQ J))(aK:O 11=.lists 3 1 qE J)(aG:O 12=.nil)(hG:x.Good I)(a5:(x.s.q 2 0).length<=100000000)(hn:n<=1000000000)(hJ:J.length<=100000000): Calls prog 50 #[P0 bk,P0 x.pb] w λe w'=>e=.returned (.bool true)/\D5 O bk n J evv w0 w':=by
 have o:=az (ay e0 (ay e1 (ay e2 (ay e7 (ay e9 (ay aK aG))))));have HF:=az hf;have hM:tN x.p x.s x.g x.mb w:=hf.at 0 e0;have a3:=az hM.queue;have H:w.heap[x.pb]? = some (.cells #[P0 x.mb,P0 x.h.mb] 74 (0,0)):=hf.at 2 e2;obtain⟨p0,p1,aM⟩:=jF H;have W:Hid (x.m.q=x.s.q 2 0):=by
  obtain⟨ρ,hS⟩:=hG.Iy;exact hS.q
 obtain⟨l,hl⟩:∃l,l=x.s.q 2 0:=⟨_,rfl⟩;rw[<-hl]at a5 a3 W;clear e0 e1 e2 e7 e9 aK aG hG hf hM H hl;obtain⟨nq,a7⟩:∃nq,nq=l.length:=⟨_,rfl⟩;rw[<-a7]at a5 a3;have a6:=az a7;clear a7;go_in;go_wp2_with fail
 refine a3.out.mono ?_;rintro e w1 ⟨rfl,a4,aA⟩;have G:=az (HF.out.LB o.out.1 aA a4);have a0:Hid (D.dQ x.d x.m x.h w1):=G.out.at 1 o.out.2.1;have H:w1.heap[x.pb]? = some (.cells #[P0 x.mb,P0 x.h.mb] 74 (0,0)):=G.out.at 2 o.out.2.2.1;obtain⟨r0,r1,aR⟩:=jF H;have c7:w1.cell? ⟨x.h.mb,7,none⟩=some (.slice (x.h.ro 2 0).1 nq (x.h.ro 2 0).2):=by
  have:=(a0.out.mc 7 (by omega) (v:=.slice (x.h.ro 2 0).1 x.m.q.length (x.h.ro 2 0).2) rfl).1;rw[W.out,<-a6.out]at this;exact this
 have u:Hid (fM w1 3 (.slice (x.h.ro 2 0).1 nq (x.h.ro 2 0).2) (D.iI l)):=by
  have:=a0.out.Q;have e:D.iR x.m x.h 2 0=.slice (x.h.ro 2 0).1 nq (x.h.ro 2 0).2:=by rw[a6.out,<-W.out];rfl
  rw[e,W.out]at this;exact this
 obtain⟨a2,aF⟩:∃a2,a2=(x.h.ro 2 0).1:=⟨_,rfl⟩;obtain⟨c2,aH⟩:∃c2,c2=(x.h.ro 2 0).2:=⟨_,rfl⟩;rw[<-aF,<-aH]at c7 u;have a8:=az (gw a4 (dc _));clear a4 aA H a3 HF p0 p1 aM aF aH a0;obtain⟨a1,aI⟩:∃a1:Option Addr,a1=some ⟨w.heap.size,0,none⟩:=⟨_,rfl⟩;rw[<-aI]at G a8 ⊢;clear aI;go_wp2_with fail
 go_loopw [7,8] (λov iv wx=>∃i:Nat,i<=nq/\ov=.bool true/\iv=.int .i64 i/\Hid (w1.grownBy wx none)) (λ_ iv _=>nq-(intOf iv).toNat)
 case atStart=>exact⟨0,by omega,by simp,rfl,ax _ _⟩
 case round=>
  obtain⟨i,hi,rfl,rfl,Z⟩:=hrel;by_cases aN:i<nq
  .have aD:(i:Int)<(nq:Int):=by omega
   obtain⟨v,hv⟩:∃v,l[i]? = some v:=⟨_,bn (by rw[<-a6.out];exact aN)⟩;obtain⟨ba,rfl,k2,k3⟩:=G5 a8.out hv;have lr:=Z.out.size;have d0:=(bh Z.out (a:=⟨ba,i,none⟩) k2).1.trans k3;obtain⟨bb,oo,aP,aJ,aQ⟩:∃bb oo,a2=some ⟨bb,oo,none⟩/\w1.cell? ⟨bb,oo+i,none⟩=some (.int .i64 (v:Int))/\bb<w1.heap.size:=by
    cases a2 with
    | none=>
     rcases u.out with⟨_,h⟩|⟨g,off,cap,n',P,h,_⟩
     .have:l=[]:=by simpa[D.iI] using h
      rw[this]at hv;simp at hv
     cases h
    | some a=>
     rcases id u.out with⟨h,_⟩|⟨g,off,cap,n',P,h,_⟩
     .cases h
     injection h with h _ _;injection h with h;subst h;exact⟨g,off,rfl,u.out.cell.2 i _ (by unfold D.iI;rw[eo,hv];rfl),u.out.lt g rfl⟩
   subst aP;have f0:=(bh Z.out (a:=⟨bb,oo+i,none⟩) aQ).1.trans aJ
   go_wp2_with fail
   go_quiet (fail)
   go_wp2_with fail
   go_roundw
   case rel=>exact⟨i+1,by omega,by simp,by go_num,⟨Z.out.os,Z.out.tape,Z.out.output,Z.out.size,Z.out.block⟩⟩
   case measure=>simp[intOf];omega
  have aD:¬((i:Int)<(nq:Int)):=by omega
  have Y:=az (G.out.kept Z.out);go_wp2_with fail
  refine (az (IV (n:=n) (Ev:=wm n evv (.slice rb.1 J.length rb.2)) (Y.out.at 7 (X:=.full bk 81 3 (wm n evv (.slice rb.1 J.length rb.2))) o.out.2.2.2.1) rfl rfl (Y.out.at 9 (X:=.row 121 2 rb.1 J.length rb.2 (gQ J)) o.out.2.2.2.2.1) (Y.out.at 12 (X:=.row 3 1 a1 nq nq (l.map (λt:Nat=>Value.int .i64 (t:Int)))) rfl) hn hJ a5)).out.mono ?_;rintro e w9 ⟨rfl,Q,xq,aL,aO,hQ,aE,aB⟩;have a9:=az aB;go_wp2_with fail
  go_ret;refine⟨rfl,(aL,aO),Q.map (λy=>(y,-((n:Int)+1))),by rw[dS];exact (az (ay hQ aE)).out.1,λy hy=>?_,?_⟩
  .obtain⟨z,hz,rfl⟩:=ek.1 hy;have h1:=(a9.out.q z hz).2.1;show z.2.1<=_;omega
  have h1:=Y.out.take (r:=9) (l:=11) (P:=qE) (sz:=1) (T:=3) (T':=121) ⟨by decide,by decide,by decide⟩ ⟨by decide,by decide⟩ o.out.2.2.2.1 o.out.2.2.2.2.1 o.out.2.2.2.2.2.1 (show _=Ob.row 3 1 a1 nq nq (l.map (λt:Nat=>Value.int .i64 (t:Int))) from rfl) rfl (by decide) (by decide) (by decide) a9.out;rw[BU]at h1;refine h1.eq (λi=>?_);by_cases hi:i<14
  .rcases yI hi with rfl|rfl|rfl|rfl|rfl|rfl|rfl|rfl|rfl|rfl|rfl|rfl|rfl|rfl<;>first|rfl|exact o.out.2.2.2.2.2.2
  repeat rw[eT _ _ (by omega)]
theorem oV.Good.mono{x:oV}{I e:Nat}(h:x.Good I)(hI:I<=e):x.Good e:=by
 obtain⟨ρ,hS⟩:=h.Iy;have hn:=h.n1;exact { h with Iy:=⟨ρ,hS.mono (by omega)⟩,n1:=by omega }
theorem kM{x:Option oV}{I e:Nat}(h:ts x I)(hI:I<=e):ts x e:=by
 cases x with
 | none=>trivial
 | some x=>exact oV.Good.mono h hI
structure pS(w0:World) (t:St) (I:Nat) (w:World):Prop where
 Bn:t.iA w0 w
 gx:ts t.x I
 gy:ts t.y I
 mo:t.mo<=1000000008
 n:t.n<=I
 E:t.E.length<=4*I
 J:t.J.length<=4*I
 lE:∀y,y∈t.E->y.1.2.1<=1000000000
 lJ:∀y,y∈t.J->y.1.2.1<=1000000000
def Ir(t t':St):Prop:=t'.ob=t.ob/\t'.mo=t.mo/\t'.bk=t.bk/\pV t'.x=pV t.x/\pV t'.y=pV t.y
theorem pS.next{w0 w w':World}{t:St}{I:Nat}(h:pS w0 t I w)(e:t.iA w0 w'):pS w0 t (I+1) w':=
 ⟨e,kM h.gx (by omega),kM h.gy (by omega),h.mo,by have:=h.n;omega,by have:=h.E;omega,by have:=h.J;omega,h.lE,h.lJ⟩
theorem pS.swap{w0 w:World}{t:St}{I:Nat}(h:pS w0 t I w):pS w0 t.swap I w:=⟨h.Bn.swap,h.gy,h.gx,h.mo,h.n,h.E,h.J,h.lE,h.lJ⟩
theorem pS.Gx{w0 w w':World}{t:St}{x:oV}{I:Nat}(h:pS w0 t I w)(hx:t.x=some x)(ht:Gh t.O x I t.ob t.mo t.bk t.n t.E (.slice t.rb.1 t.J.length t.rb.2) w0 w'):∃H,pS w0 H (I+1) w'/\Ir t H:=by
 obtain⟨o,ra,Q,e1,G,W,hG,hQ,Z,Y⟩:=ht;have u:(t.E++Q).length<=4*(I+1):=by
  rw[bo,hQ];have:=h.E;omega
 refine⟨{ t with x:=some o,n:=t.n+1,ra:=ra,E:=t.E++Q },⟨Y.eq (λi=>?_),hG,kM h.gy (by omega),h.mo,by have:=h.n;show t.n+1<=_;omega,u,by have:=h.J;show t.J.length<=_;omega,λy e=>?_,h.lJ⟩,rfl,rfl,rfl,?_,rfl⟩
 .refine St.ext (λi hi=>?_) (λi hi=>?_) i
  .rcases yI hi with rfl|rfl|rfl|rfl|rfl|rfl|rfl|rfl|rfl|rfl|rfl|rfl|rfl|rfl
   .rfl
   .rfl
   .show Ob.one o.pb (.cells #[P0 o.mb,P0 o.h.mb] 74 (0,0))=oP t.x;rw[hx,e1,G,W];rfl
   all_goals rfl
  repeat rw[eT _ _ (by omega)]
  exact t.Ii (by omega)
 .rcases di.1 e with e|e
  .exact h.lE y e
  have:=Z y e;omega
 rw[hx];show P0 o.pb=P0 x.pb;rw[G]
theorem pS.queue{w0 w w':World}{t:St}{I:Nat}(h:pS w0 t I w)(ht:D5 t.O t.bk t.n t.J (.slice t.ra.1 t.E.length t.ra.2) w0 w'):∃u,pS w0 u (I+1) w'/\Ir t u:=by
 obtain⟨rb,Q,hQ,H,G⟩:=ht;have o:(t.J++Q).length<=4*(I+1):=by
  rw[bo,hQ];have:=h.J;omega
 refine⟨{ t with n:=t.n+1,rb:=rb,J:=t.J++Q },⟨G.eq (λi=>?_),kM h.gx (by omega),kM h.gy (by omega),h.mo,by have:=h.n;show t.n+1<=_;omega,by have:=h.E;show t.E.length<=_;omega,o,h.lE,λy e=>?_⟩,rfl,rfl,rfl,rfl,rfl⟩
 .refine St.ext (λi hi=>?_) (λi hi=>?_) i
  .rcases yI hi with rfl|rfl|rfl|rfl|rfl|rfl|rfl|rfl|rfl|rfl|rfl|rfl|rfl|rfl<;>rfl
  repeat rw[eT _ _ (by omega)]
  exact t.Ii (by omega)
 rcases di.1 e with e|e
 .exact h.lJ y e
 have:=H y e;omega
theorem FQ{t:St}{x:oV}{I:Nat}{w0 w:World}{kind hh ticks:Int}{ia:Option Addr}{gm ic:Nat}{il:List (Int×Nat)}(h:pS w0 t I w)(hx:t.x=some x)(hI:It w0 ia gm il)(aC:gm+8<=t.mo)(aG:I<=1048576)(aA:-9223372036854775808<=ticks)(a9:ticks<=9223372036854775807): Calls prog 33 #[P0 t.bk,P0 x.pb,.agg #[.int .i64 kind,.int .i64 hh,.int .i64 ticks,.slice ia gm ic],.slice (some ⟨t.ob,0,none⟩) t.mo t.mo,.bool false] w λe w'=>e=.returned (.bool true)/\∃t',pS w0 t' (I+1) w'/\Ir t t':=by
 have o:=az h;have HX:=az hx;have W:Hid (x.Good I):=by
  have:=h.gx;rw[hx]at this;exact this
 have i:Hid (t.O 0=.zS x.p x.s x.g x.mb/\t.O 1=.doc x.d x.m x.h/\t.O 2=.one x.pb (.cells #[P0 x.mb,P0 x.h.mb] 74 (0,0))):=⟨by show oA t.x=_;rw[hx];rfl,by show oB t.x=_;rw[hx];rfl,by show oP t.x=_;rw[hx];rfl⟩;have HI:=az hI;have a7:=az (ay aA a9);clear h hx hI aA a9;go_in;obtain⟨sb,Z⟩:∃sb,sb=w.heap.size:=⟨_,rfl⟩;have Y:=bf w (.cells #[.int .i64 kind,.int .i64 hh,.int .i64 ticks,.slice ia gm ic] 76);rw[<-Z]at Y;have y:=az (o.out.Bn.kept (ah w (.cells #[.int .i64 kind,.int .i64 hh,.int .i64 ticks,.slice ia gm ic] 76) none));go_upto_region 1 with fail
 generalize w.alloc (.cells #[.int .i64 kind,.int .i64 hh,.int .i64 ticks,.slice ia gm ic] 76)=w1 at *;rw[<-Z];obtain⟨b0,b1,b2,b3,aE⟩:=gp Y;have G:w1.heap[x.pb]? = some (.cells #[P0 x.mb,P0 x.h.mb] 74 (0,0)):=y.out.at 2 i.out.2.2;obtain⟨p0,p1,a6⟩:=jJ G;have HM:Hid (tN x.p x.s x.g x.mb w1):=y.out.at 0 i.out.1;clear Y G Z;by_cases k1:kind=1
 .subst k1;have a4:=az (IK (kind:=1) (hh:=hh) (ic:=ic) y.out i.out.1 i.out.2.1 i.out.2.2 (ob:=t.ob) (mo:=t.mo) rfl (bk:=t.bk) (n:=t.n) (ra:=t.ra) (E:=t.E) (itv:=.slice t.rb.1 t.J.length t.rb.2) rfl rfl rfl rfl rfl W.out HI.out aC o.out.mo (by have:=o.out.n;omega) (by have:=o.out.E;omega) (by omega) a7.out.1 a7.out.2);go_wp2_with fail
  refine a4.out.mono ?_;rintro e w2 ⟨rfl,hT⟩;have HT:=az hT;clear hT a4;go_wp2_with fail
  go_ret;exact⟨rfl,o.out.Gx HX.out HT.out⟩
 by_cases k2:kind=2
 .subst k2;have a3:=az HM.out.yq;go_wp2_with fail
  refine a3.out.mono ?_;rintro e w2 ⟨rfl,hg⟩;have H:=az (y.out.ask i.out.1 hg);have a8:Hid (Calls prog 49 #[P0 x.h.mb] w2 λe w'=>e=.returned (.int .i64 x.s.zp)/\w2.grownBy w' none):=by
   obtain⟨ρ,hS⟩:=W.out.Iy;exact D.GI (H.out.at 1 i.out.2.1) hS HM.out.ok W.out.n0
  have G:w2.heap[x.pb]? = some (.cells #[P0 x.mb,P0 x.h.mb] 74 (0,0)):=H.out.at 2 i.out.2.2;obtain⟨q0,q1,aD⟩:=jJ G;clear hg a3 G p0 p1 a6;go_wp2_with fail
  refine a8.out.mono ?_;rintro e w3 ⟨rfl,a0⟩;have aB:=az (H.out.kept a0);clear a0 a8;go_wp2_with fail
  go_ret;exact⟨by simp,t,o.out.next aB.out,rfl,rfl,rfl,rfl,rfl⟩
 by_cases k3:kind=3
 .subst k3;have a2:(x.s.q 2 0).length<=100000000:=by
   have hO:=HM.out.ok;have hl:fz x.s 2 0:=ag ⟨rfl,rfl⟩;have h1:=gn x.s.nt _ (hO.lw.c 2 0 hl) (λu hu=>hO.lt u (hO.ql 2 0 hl u hu));have h2:=W.out.n1;omega
  have a5:=az (EH (I:=I) y.out i.out.1 i.out.2.1 i.out.2.2 (bk:=t.bk) (n:=t.n) (rb:=t.rb) (J:=t.J) (evv:=.slice t.ra.1 t.E.length t.ra.2) rfl rfl rfl rfl W.out a2 (by have:=o.out.n;omega) (by have:=o.out.J;omega));clear a2;go_wp2_with fail
  refine a5.out.mono ?_;rintro e w2 ⟨rfl,hT⟩;have HT:=az hT;clear hT a5;go_wp2_with fail
  go_ret;exact⟨rfl,o.out.queue HT.out⟩
 by_cases k4:kind=4
 .subst k4;have a1:=az HM.out.clock;go_wp2_with fail
  refine a1.out.mono ?_;rintro e w2 ⟨rfl,hg⟩;have H:=az (y.out.ask i.out.1 hg);have hR:D.dQ x.d x.m x.h w2:=H.out.at 1 i.out.2.1;have c5:w2.cell? ⟨x.h.mb,5,none⟩=some (.int .i64 x.s.eY):=by
   have:=(hR.mc 5 (by omega) (v:=.int .i64 x.m.eY) rfl).1;obtain⟨ρ,hS⟩:=W.out.Iy;have e:x.m.eY=x.s.eY:=hS.ck;rw[e]at this;exact this
  have G:w2.heap[x.pb]? = some (.cells #[P0 x.mb,P0 x.h.mb] 74 (0,0)):=H.out.at 2 i.out.2.2;obtain⟨q0,q1,aD⟩:=jJ G;clear hg a1 G p0 p1 a6 hR;go_wp2_with fail
  go_ret;exact⟨by simp,t,o.out.next H.out,rfl,rfl,rfl,rfl,rfl⟩
 by_cases k5:kind=5
 .subst k5;go_wp2_with fail
  go_ret;exact⟨rfl,t,o.out.next y.out,rfl,rfl,rfl,rfl,rfl⟩
 by_cases k6:kind=6
 .subst k6;go_wp2_with fail
  go_ret;exact⟨rfl,t,o.out.next y.out,rfl,rfl,rfl,rfl,rfl⟩
 go_wp2_with fail
 go_ret;exact⟨rfl,t,o.out.next y.out,rfl,rfl,rfl,rfl,rfl⟩
end F
section
theorem F.iA.join{w0 w w':World}{O N:Nat->F.Ob}(h:F.iA w0 O w)(u:F.iA w N w')(k:Nat):F.iA w0 (λi=>if k<=i/\i<k+3 then N (i-k) else O i) w':=by
 have e:=u.b;refine h.to (S:=λ_=>False) (C:=λi=>k<=i/\i<k+3) ⟨e.os,e.tape,e.output,e.size,λa o _=>e.block a o⟩ (λ_ h=>h.elim) (λi hi=>aa hi) (λi hi=>?_) (λi a hi o=>ab ?_) (λi j a hi G o e=>?_)
 .simp only[aj hi];exact u.ok _
 .simp only[aj hi]at o;exact u.lo _ a o
 simp only[aj hi]at o;simp only[aj G]at e;have:=u.dj _ _ a o e;omega
theorem D.I0(p:F.dz)(K:Nat)(ρ:Nat->Nat):D.eK p K F.lU D.xu ρ:=by
 have e:∀c,¬D.ou p F.lU c:=λc o=>o (λ_=>False) (λi hi _=>by
  have H:i<0:=hi;omega) (λk u=>u.elim)
 refine⟨rfl,rfl,rfl,rfl,rfl,rfl,λt ht=>(by cases ht),λt ht _=>?_,λc o=>(e c o).elim,λc J o=>(e c o).elim,λv G=>(by cases G),λx y _ _=>List.Pairwise.nil,λt ht=>(by cases ht),⟨rfl,bj _,bj _⟩,dc _,⟨dc _,dc _⟩⟩;have W:=ht.1;have Y:t<=0:=ht.2;omega
namespace F
theorem Ji(n:Int)(w:World):Calls prog 32 #[.int .i64 n] w λe w'=>e=.returned (.int .i64 n)/\w'=w:=by
 go_in;go_wp2
 go_ret;exact⟨rfl,rfl⟩
theorem Hs{p:dz}{d:D.Dp}{s:ByteArray}{n q wk t:Nat}(hP:J3 p)(e:tK p s n q wk t)(o:D.L5 d s n q wk t)(y:(M.jO s).2=true)(hn:n<=200)(ht:1<=t)(g:eE)(mb:Nat)(h:D.Dg)(pb:Nat):(⟨p,lU.born 0 (0,0) (0,0),g,mb,d,D.xu.born 0 (0,0) (0,0),h,pb⟩:oV).Good 0:=by
 have e1:p.n=n:=by have:=e.n;omega
 have e2:p.qn=q:=by have:=e.qn;omega
 have e3:p.wk=wk:=by have:=e.wk;omega
 have Z:p.mt=t:=by have:=e.mt;omega
 have Y:(D.xu.born 0 (0,0) (0,0)).lD=D.xu.born 0 (0,0) (0,0):=rfl;refine⟨hP,⟨by rw[o.n,e1],by rw[o.qn,e2],by rw[o.wk,e3],by rw[o.mt,Z],by rw[o.nf,e.nf],λf _=>by rw[o.len,e.len],λf _=>by rw[o.rg,e.rg],λf i _ _=>by rw[o.ins,e.ins]⟩,λf G=>?_,by show d.n<=_;rw[o.n];omega,?_,⟨λ_=>0,?_⟩,?_,?_⟩
 .have:=M.fK (D.pK ((nJ y).2.2 f (by rw[<-e.nf];exact G))).1;show 2<=p.rg f/\p.rg f<=8;rw[e.rg];omega
 .exact Ng.born ⟨λ_ _ G=>(by cases G),λ_ _ W=>(by cases W),λ_ W=>(by cases W)⟩ 0 iP.z iP.z
 .show D.eK p 1 (lU.born 0 (0,0) (0,0)) (D.xu.born 0 (0,0) (0,0)).lD (λ_=>0);rw[Y];have:=(D.I0 p 1 (λ_=>0)).born (f:=0) (u:=(0,0)) (v:=(0,0)) (Je p) (by show 0<p.mt;omega) (dN.num 0) (dN.num 0);exact this
 .rw[show(lU.born 0 (0,0) (0,0)).nt=1 from oj lU 0 (0,0) (0,0)];decide
 rw[show(lU.born 0 (0,0) (0,0)).nt=1 from oj lU 0 (0,0) (0,0)];omega
def A1(xo:Option oV)(i:Nat):Ob:=if i=0 then oA xo else if i=1 then oB xo else if i=2 then oP xo else .nil
theorem CK{w w':World}(u:Below w.heap.size w w'):iA w (A1 none) w':=by
 have e:∀i,A1 none i=.nil:=λi=>by
  unfold A1;split
  .rfl
  split
  .rfl
  split<;>rfl
 exact⟨u,λi=>by rw[e i];trivial,λi j k hi _=>by rw[e i]at hi;exact hi.elim,λi k o=>by rw[e i]at o;exact o.elim⟩
theorem CJ{w w':World}{x:oV}(Y:Below w.heap.size w w')(J:tN x.p x.s x.g x.mb w')(hR:D.dQ x.d x.m x.h w')(hP:w'.heap[x.pb]? = some (.cells #[P0 x.mb,P0 x.h.mb] 74 (0,0))){a b c:Nat}(ha:w.heap.size<=a)(h1:∀k,ey x.p x.s x.g k\/k=x.mb->a<=k/\k<b)(h2:∀k,D.ey x.d x.m x.h k->b<=k/\k<c)(h3:c<=x.pb)(W:a<=b)(a0:b<=c):iA w (A1 (some x)) w':=by
 have o:∀i k,(A1 (some x) i).bs k->(i=0/\a<=k/\k<b)\/(i=1/\b<=k/\k<c)\/(i=2/\c<=k):=λi k e=>by
  unfold A1 at e;by_cases G:i=0
  .rw[aj G]at e;exact ag ⟨G,h1 k e⟩
  rw[aa G]at e;by_cases y:i=1
  .rw[aj y]at e;exact ab (ag ⟨y,h2 k e⟩)
  rw[aa y]at e;by_cases u:i=2
  .rw[aj u]at e;have Z:k=x.pb:=e;exact ab (ab ⟨u,by omega⟩)
  rw[aa u]at e;exact e.elim
 refine⟨Y,λi=>?_,λi j k hi hj=>?_,λi k e=>?_⟩
 .unfold A1;split
  .exact J
  split
  .exact hR
  split
  .exact hP
  trivial
 .rcases o i k hi with h|h|h<;>rcases o j k hj with H|H|H<;>omega
 rcases o i k e with h|h|h<;>omega
theorem uw(s:ByteArray)(c0 c1 J W:Nat)(w:World)(hs:s.size<=maxLen)(aH:s.size<=140737488355328)(hT:mB w)(g0:1<=c0)(g1:c0<=200)(g2:1<=c1)(g3:c1<=50)(g4:1<=J)(g5:J<=50)(g6:1<=W)(g7:W<=16)(a7:(M.jO s).2=true)(a9:Tm s): Calls prog 14 #[.string s,.agg #[.int .i64 (c0:Int),.int .i64 (c1:Int),.int .i64 (J:Int),.int .i64 (W:Int)]] w λe w'=>∃x:oV,e=.returned (.tuple #[P0 x.pb,.bool true])/\x.Good 0/\x.s=lU.born 0 (0,0) (0,0)/\tK x.p s c0 c1 J W/\iA w (A1 (some x)) w':=by
 have HS:=az hs;have KT:Hid (mB w):=hT;have a6:=az a7;have aC:=az a9;have H:qT c0 c1 J W=true:=by simp[qT,tR];omega
 have aJ:=az H;have i:Hid (1<=c0/\c0<=200/\1<=c1/\c1<=50/\1<=J/\J<=50/\1<=W/\W<=16):=⟨g0,g1,g2,g3,g4,g5,g6,g7⟩;clear hs hT H a7 a9 g0 g1 g2 g3 g4 g5 g6 g7;go_in;go_wp2_with fail
 refine(Ha s c0 c1 J W _ HS.out (KT.out.alloc _) (λ_=>aC.out)).mono ?_;rintro e w1 ⟨Y,⟨_,_,_,aD⟩|⟨mb,p,g,rfl,hP,hM,u,o⟩⟩
 .exact ch ⟨aJ.out,a6.out⟩ aD
 obtain⟨hc,hf⟩:=qL Y;have hz:=Y.size;simp at hz;have a8:=az (((eM _ _).alloc (bj _) _).trans (Y.mono (by simp)));have a0:w1.cell? ⟨w.heap.size,0,none⟩=some (.int .i64 c0):=by rw[hc _ _ (by simp)];simp[go_sem]
 have a1:w1.cell? ⟨w.heap.size,1,none⟩=some (.int .i64 c1):=by rw[hc _ _ (by simp)];simp[go_sem]
 have a2:w1.cell? ⟨w.heap.size,2,none⟩=some (.int .i64 J):=by rw[hc _ _ (by simp)];simp[go_sem]
 have a3:w1.cell? ⟨w.heap.size,3,none⟩=some (.int .i64 W):=by rw[hc _ _ (by simp)];simp[go_sem]
 have a5:=az (ay hP (ay hM (ay u o)));clear hc hf Y hP hM u o;have l0:w.heap.size<w1.heap.size:=by omega
 go_wp2_with fail
 have aA:=az (D.Jg s c0 c1 J W (w1.alloc (.cells #[.int .i64 0,.int .i64 0] 42)) HS.out aH i.out.1 i.out.2.1 i.out.2.2.1 i.out.2.2.2.1 i.out.2.2.2.2.1 i.out.2.2.2.2.2.1 i.out.2.2.2.2.2.2.1 i.out.2.2.2.2.2.2.2 a6.out);refine aA.out.mono ?_;rintro e w2 ⟨y,d,h,rfl,Z,hR,a4⟩;obtain⟨hc,hf⟩:=qL y;have aF:=y.size;simp at aF;have aB:Hid (Below w.heap.size w w2):=(a8.out.alloc (by omega) _).trans (y.mono (by simp;omega));have f0:w2.cell? ⟨w1.heap.size,0,none⟩=some (.int .i64 0):=by rw[hc _ _ (by simp)];simp[go_sem]
 have f1:w2.cell? ⟨w1.heap.size,1,none⟩=some (.int .i64 0):=by rw[hc _ _ (by simp)];simp[go_sem]
 have aG:Hid (tN p (lU.born 0 (0,0) (0,0)) g mb w2):=yG a5.out.2.1 (λk G=>(y.block k (by simp;have:=(a5.out.2.2.2 k G).2;omega)).trans (ak _ _ _ (a5.out.2.2.2 k G).2));have aE:=az (ay Z (ay hR a4));clear hc hf y a0 a1 a2 a3 a8 aA Z hR a4;have l1:w1.heap.size<w2.heap.size:=by omega
 go_wp2_with fail
 go_quiet ((go_at_call 32;exact Calls.quiet_of_same (Ji _ _)))
 go_wp2_with fail
 go_ret2
 have hg:w2.grownBy (((w2.alloc (.cells #[.int .i64 0,.int .i64 0] 42)).drewN nq).alloc (.cells #[P0 mb,P0 h.mb] 74)) none:=au (db (au (ax _ _) _) nq) _;have aI:(((w2.alloc (.cells #[.int .i64 0,.int .i64 0] 42)).drewN nq).alloc (.cells #[P0 mb,P0 h.mb] 74)).heap[w2.heap.size+1]? = some (.cells #[P0 mb,P0 h.mb] 74 (0,0)):=by
  have:=bf ((w2.alloc (.cells #[.int .i64 0,.int .i64 0] 42)).drewN nq) (.cells #[P0 mb,P0 h.mb] 74);simpa using this
 obtain⟨hP,_,u,o⟩:=a5.out;obtain⟨Z,hR,a4⟩:=aE.out;refine⟨⟨p,lU.born 0 (0,0) (0,0),g,mb,d,D.xu.born 0 (0,0) (0,0),h,w2.heap.size+1⟩,rfl,Hs hP u Z a6.out i.out.2.1 i.out.2.2.2.2.2.2.1 g mb h _,rfl,u,CJ (a:=w.heap.size) (b:=w1.heap.size) (c:=w2.heap.size) (aB.out.trans ⟨hg.os,hg.tape,hg.output,hg.size,λk G=>hg.block k (by omega) (by intro e;cases e)⟩) (yG aG.out (λk G=>hg.block k (by have:=(o k G).2;omega) (by intro e;cases e))) (hR.kept hg) aI (bj _) (λk G=>⟨by have:=(o k G).1;simp at this;omega,(o k G).2⟩) (λk G=>⟨by have:=a4 k G;simp at this;omega,hR.lt G⟩) (by show w2.heap.size<=w2.heap.size+1;omega) (by omega) (by omega)⟩
theorem FY(s:ByteArray)(c0 c1 o i:Int)(w:World)(hs:s.size<=maxLen)(y:s.size<=140737488355328)(H:(M.jO s).2=true->Tm s)(hT:mB w)(Y:qT c0 c1 o i=false\/(M.jO s).2=false->Calls prog 14 #[.string s,.agg #[.int .i64 c0,.int .i64 c1,.int .i64 o,.int .i64 i]] w λe w'=>e=.returned (.tuple #[.pointer none,.bool true])/\Below w.heap.size w w'): Calls prog 14 #[.string s,.agg #[.int .i64 c0,.int .i64 c1,.int .i64 o,.int .i64 i]] w λe w'=>∃G:Option oV,e=.returned (.tuple #[pV G,.bool true])/\ts G 0/\iA w (A1 G) w':=by
 by_cases u:qT c0 c1 o i=true/\(M.jO s).2=true
 .have hb:1<=c0/\c0<=200/\1<=c1/\c1<=50/\1<=o/\o<=50/\1<=i/\i<=16:=by
   have:=u.1;simp[qT,tR]at this;omega
  obtain⟨n,rfl⟩:∃n:Nat,c0=(n:Int):=⟨c0.toNat,by omega⟩;obtain⟨q,rfl⟩:∃q:Nat,c1=(q:Int):=⟨c1.toNat,by omega⟩;obtain⟨k,rfl⟩:∃k:Nat,o=(k:Int):=⟨o.toNat,by omega⟩;obtain⟨m,rfl⟩:∃m:Nat,i=(m:Int):=⟨i.toNat,by omega⟩;refine(uw s n q k m w hs y hT (by omega) (by omega) (by omega) (by omega) (by omega) (by omega) (by omega) (by omega) u.2 (H u.2)).mono ?_;rintro e w' ⟨x,rfl,hG,_,_,Z⟩;exact⟨some x,rfl,hG,Z⟩
 refine(Y ?_).mono ?_
 .by_cases J:qT c0 c1 o i=true
  .right
   cases h2:(M.jO s).2 with
   |true=>exact ch ⟨J,h2⟩ u
   |false=>rfl
  left
  cases h2:qT c0 c1 o i with
  |true=>exact ch h2 J
  |false=>rfl
 rintro e w' ⟨rfl,W⟩;exact⟨none,rfl,trivial,CK W⟩
end F
