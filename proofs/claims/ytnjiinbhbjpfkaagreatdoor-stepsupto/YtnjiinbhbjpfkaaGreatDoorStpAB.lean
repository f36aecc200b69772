import Derived.Test.YtnjiinbhbjpfkaaGreatDoorStpAA
set_option maxRecDepth 100000
set_option maxHeartbeats 0
set_option linter.all false
namespace Go.Proofs.YtnjiinbhbjpfkaaGreatDoor
open Go.RowKit Go.Proofs.Tryz
namespace F
structure iA(w0:World) (O:Nat->Ob) (w:World):Prop where
 b:Below w0.heap.size w0 w
 ok:∀i,(O i).ok w
 dj:∀i j k,(O i).bs k->(O j).bs k->i=j
 lo:∀i k,(O i).bs k->w0.heap.size<=k
section
variable {w0 w w' : World} {O O' : Nat → Ob}
theorem iA.lt(h:iA w0 O w){i k:Nat}(e:(O i).bs k):k<w.heap.size:=(O i).lt w k (h.ok i) e
theorem dy.Ij{N:Nat}{S:Nat->Prop}{w w1 w2:World}(e:Below N w w1)(i:dy S w1 w2)(hS:∀k,S k->N<=k)(u:N<=w.heap.size):Below N w w2:=
 ⟨i.1.trans e.os,i.2.1.trans e.tape,i.2.2.1.trans e.output,dH e.size i.size,λk o=>(i.same (by have:=e.size;omega) (λh=>by have:=hS k h;omega)).trans (e.block k o)⟩
theorem iA.to{S C:Nat->Prop}(h:iA w0 O w)(Z:dy S w w')(hS:∀k,S k->∃j,C j/\(O j).bs k)(W:∀i,¬C i->O' i=O i)(h2:∀i,C i->(O' i).ok w')(h3:∀i k,C i->(O' i).bs k->(∃j,C j/\(O j).bs k)\/w.heap.size<=k)(h4:∀i j k,C i->C j->(O' i).bs k->(O' j).bs k->i=j):iA w0 O' w':=by
 have hw:=h.b.size;have J:∀i j k,C i->¬C j->(O' i).bs k->(O j).bs k->False:=λi j k hi u o Y=>by
  rcases h3 i k hi o with⟨a,ha,G⟩|G
  .have:=h.dj a j k G Y;exact u (this▸ha)
  have:=h.lt Y;omega
 refine⟨dy.Ij h.b Z (λk o=>?_) (bj _),λi=>?_,λi j k hi u=>?_,λi k o=>?_⟩
 .obtain⟨j,_,G⟩:=hS k o;exact h.lo j k G
 .by_cases H:C i
  .exact h2 i H
  rw[W i H];refine(O i).fr w w' (h.ok i) (λk o=>Z.same (h.lt o) (λhs=>?_));obtain⟨j,u,G⟩:=hS k hs;have:=h.dj j i k G o;exact H (this▸u)
 .by_cases y:C i
  .by_cases e:C j
   .exact h4 i j k y e hi u
   rw[W j e]at u;exact(J i j k y e hi u).elim
  rw[W i y]at hi;by_cases e:C j
  .exact(J j i k e y u hi).elim
  rw[W j e]at u;exact h.dj i j k hi u
 by_cases H:C i
 .rcases h3 i k H o with⟨a,_,G⟩|G
  .exact h.lo a k G
  omega
 rw[W i H]at o;exact h.lo i k o
theorem iA.kept(h:iA w0 O w)(e:w.grownBy w' none):iA w0 O w':=
 h.to (S:=λ_=>False) (C:=λ_=>False) (dU e) (λ_ h=>h.elim) (λ_ _=>rfl) (λ_ h=>h.elim) (λ_ _ h=>h.elim) (λ_ _ _ h=>h.elim)
theorem iA.perm(h:iA w0 O w)(f:Nat->Nat)(o:∀i j,f i=f j->i=j):iA w0 (λi=>O (f i)) w:=
 ⟨h.b,λi=>h.ok (f i),λi j k hi u=>o i j (h.dj _ _ k hi u),λ_ k e=>h.lo _ k e⟩
theorem iA.eq(h:iA w0 O w)(e:∀i,O' i=O i):iA w0 O' w:=by
 have:=fB e;rw[this];exact h
def fm(O:Nat->Ob)(i:Nat)(X:Ob):Nat->Ob:=λj=>if j=i then X else O j
theorem iu(O:Nat->Ob)(i:Nat)(X:Ob):fm O i X i=X:=aj rfl
theorem eT(O:Nat->Ob){i j:Nat}(X:Ob)(h:j≠i):fm O i X j=O j:=aa h
theorem iA.AR(h:iA w0 O w)(i:Nat){X:Ob}(J:dy (O i).bs w w')(hX:X.ok w')(H:∀k,X.bs k->(O i).bs k\/w.heap.size<=k):iA w0 (fm O i X) w':=by
 refine h.to (S:=(O i).bs) (C:=λj=>j=i) J (λk u=>⟨i,rfl,u⟩) (λj o=>eT O X o) (λj o=>?_) (λj k o u=>?_) (λa b k y G _ _=>y.trans G.symm)
 .rw[o,iu];exact hX
 rw[o,iu]at u;exact(H k u).imp (λe=>⟨i,rfl,e⟩) id
theorem iA.split(h:iA w0 O w)(i j:Nat)(Z:i≠j){X Y:Ob}(hO:dy (O i).bs w w')(hX:X.ok w')(hY:Y.ok w')(h3:∀k,X.bs k->(O i).bs k\/w.heap.size<=k)(W:∀k,Y.bs k->(O i).bs k\/w.heap.size<=k)(h4:∀k,X.bs k->Y.bs k->False):iA w0 (fm (fm O i X) j Y) w':=by
 have G:fm (fm O i X) j Y i=X:=by rw[eT _ _ Z,iu]
 have J:fm (fm O i X) j Y j=Y:=iu _ _ _;refine h.to (S:=(O i).bs) (C:=λa=>a=i\/a=j) hO (λk u=>⟨i,ag rfl,u⟩) (λa o=>?_) (λa o=>?_) (λa k o u=>?_) (λa b k o hb H y=>?_)
 .rw[eT _ _ (λe=>o (ab e)),eT _ _ (λe=>o (ag e))]
 .rcases o with rfl|rfl
  .rw[G];exact hX
  rw[J];exact hY
 .rcases o with rfl|rfl
  .rw[G]at u;exact(h3 k u).imp (λe=>⟨a,ag rfl,e⟩) id
  rw[J]at u;exact(W k u).imp (λe=>⟨i,ag rfl,e⟩) id
 rcases o with rfl|rfl<;>rcases hb with rfl|rfl
 .rfl
 .rw[G]at H;rw[J]at y;exact(h4 k H y).elim
 .rw[J]at H;rw[G]at y;exact(h4 k y H).elim
 rfl
theorem iA.new(h:iA w0 O w)(j:Nat){Y:Ob}(o:w.grownBy w' none)(u:Y.ok w')(i:∀k,Y.bs k->w.heap.size<=k):iA w0 (fm O j Y) w':=
 h.AR j (dU o) u (λk e=>ab (i k e))
theorem iA.drop(h:iA w0 O w)(j:Nat):iA w0 (fm O j .nil) w:=h.AR j (dk _ _) trivial (λ_ e=>e.elim)
end
theorem yG{p:dz}{s:Pl}{g:eE}{mb:Nat}{w w':World}(h:tN p s g mb w)(e:∀k,ey p s g k\/k=mb->w'.heap[k]? = w.heap[k]?):tN p s g mb w':=by
 obtain⟨x,y⟩:=h.bx;exact⟨⟨λa b c=>(ob p s g a b c).fr w w' (h.r.o a b c) (λk u=>e k (ag ⟨a,b,c,u⟩)),h.r.i⟩,h.ok,h.ev,⟨x,(e mb (ab rfl)).trans y⟩,h.nm⟩
def Ob.zS(p:dz)(s:Pl)(g:eE)(mb:Nat):Ob:=⟨λk=>ey p s g k\/k=mb,λw=>tN p s g mb w,λ_ _ h hk=>yG h hk,λw k h hk=>by
 rcases hk with hk|rfl
 .exact h.r.lt hk
 .exact h.cells.2.2.2⟩
def Ob.doc(d:D.Dp)(m:D.Dm)(g:D.Dg):Ob:=⟨λk=>D.ey d m g k,λw=>D.dQ d m g w,λw w' h hk=>⟨λa b c=>(D.ob d m g a b c).fr w w' (h.o a b c) (λk hb=>hk k ⟨a,b,c,hb⟩),h.i⟩,λ_ _ h hk=>h.lt hk⟩
def Ob.xV(b:Nat)(T:TypeId)(n:Nat):Ob:=⟨λk=>k=b,λw=>jB w b T n,λw w' h hk=>by
 obtain⟨cur,h1,h2⟩:=h
 exact⟨cur,(hk b rfl).trans h1,h2⟩,λ_ _ h e=>by rw[e];exact h.lt⟩
def Ob.lists(T:TypeId)(sz:Nat)(P:Int->Nat->Value)(E:List (Sl×Int)):Ob:=⟨λk=>∃x,x∈E/\eO x.1.1=some k,λw=>∀x,x∈E->Rd w T sz (P x.2) x.1,λ_ _ h hk x hx=>(h x hx).fr (λk e=>hk k ⟨x,hx,e⟩),λ_ _ h hk=>by
 obtain⟨x,hx,e⟩:=hk
 exact((h x hx).lt e).1⟩
structure oV where
 p:dz
 s:Pl
 g:eE
 mb:Nat
 d:D.Dp
 m:D.Dm
 h:D.Dg
 pb:Nat
structure oV.Good(x:oV) (I:Nat):Prop where
 pg:J3 x.p
 pd:D.PD x.p x.d
 rg:∀f,f<x.p.nf->2<=x.p.rg f/\x.p.rg f<=8
 dn:x.d.n<=1000000
 ng:Ng x.s
 Iy:∃ρ,D.eK x.p (1+50*I) x.s x.m.lD ρ
 n0:x.s.nt≠0
 n1:x.s.nt<=1+50*I
def oA:Option oV->Ob
 | none=>.nil
 | some x=>.zS x.p x.s x.g x.mb
def oB:Option oV->Ob
 | none=>.nil
 | some x=>.doc x.d x.m x.h
def oP:Option oV->Ob
 | none=>.nil
 | some x=>.one x.pb (.cells #[P0 x.mb,P0 x.h.mb] 74 (0,0))
def ts:Option oV->Nat->Prop
 | none,_=>True
 | some x,I=>x.Good I
def pV:Option oV->Value
 | none=>.pointer none
 | some x=>P0 x.pb
structure St where
 x:Option oV
 y:Option oV
 ob:Nat
 mo:Nat
 bk:Nat
 n:Nat
 ra:Option Addr×Nat
 E:List (Sl×Int)
 rb:Option Addr×Nat
 J:List (Sl×Int)
def St.O(t:St)(i:Nat):Ob:=
 if i=0 then oA t.x else if i=1 then oB t.x else if i=2 then oP t.x else if i=3 then oA t.y else if i=4 then oB t.y else if i=5 then oP t.y
 else if i=6 then .xV t.ob 169 (t.mo*2) else if i=7 then .full t.bk 81 3 (wm t.n (.slice t.ra.1 t.E.length t.ra.2) (.slice t.rb.1 t.J.length t.rb.2))
 else if i=8 then .row 119 2 t.ra.1 t.E.length t.ra.2 (gQ t.E) else if i=9 then .row 121 2 t.rb.1 t.J.length t.rb.2 (gQ t.J)
 else if i=10 then .lists 48 3 mG t.E else if i=11 then .lists 3 1 qE t.J else .nil
theorem St.Ii(t:St){i:Nat}(h:12<=i):t.O i=.nil:=by
 unfold St.O;rw[aa (by omega),aa (by omega),aa (by omega),aa (by omega),aa (by omega),aa (by omega),aa (by omega),aa (by omega),aa (by omega),aa (by omega),aa (by omega),aa (by omega)]
theorem St.ext{t:St}{O:Nat->Ob}(h:∀i,i<14->t.O i=O i)(o:∀i,14<=i->O i=.nil)(i:Nat):t.O i=O i:=by
 by_cases e:i<14
 .exact h i e
 rw[t.Ii (by omega),o i (by omega)]
theorem yI{i:Nat}(h:i<14):i=0\/i=1\/i=2\/i=3\/i=4\/i=5\/i=6\/i=7\/i=8\/i=9\/i=10\/i=11\/i=12\/i=13:=by omega
abbrev St.iA(w0:World)(t:St)(w:World):Prop:=F.iA w0 t.O w
def swp(i:Nat):Nat:=if i<3 then i+3 else if i<6 then i-3 else i
theorem Eo(i j:Nat)(h:swp i=swp j):i=j:=by
 unfold swp at h;split at h<;>split at h<;>(try split at h)<;>(try split at h)<;>omega
def St.swap(t:St):St:={ t with x:=t.y,y:=t.x }
theorem St.GF(t:St)(i:Nat):t.swap.O i=t.O (swp i):=by
 by_cases h:i<14
 .rcases yI h with rfl|rfl|rfl|rfl|rfl|rfl|rfl|rfl|rfl|rfl|rfl|rfl|rfl|rfl<;>rfl
 have e:swp i=i:=by unfold swp;rw[aa (by omega),aa (by omega)]
 rw[e,t.Ii (by omega),St.Ii _ (by omega)]
theorem St.iA.swap{w0 w:World}{t:St}(h:t.iA w0 w):t.swap.iA w0 w:=(h.perm swp Eo).eq (λi=>t.GF i)
end F
namespace F
open D
theorem Tryz.Fg:(prog.info? 119).map (λi=>(i.zero,i.size,i.bytes))=some (some (.agg #[.slice none 0 0,.int .i64 0]),2,32):=by kernel_rfl
theorem Tryz.Ff:(prog.info? 121).map (λi=>(i.zero,i.size,i.bytes))=some (some (.agg #[.slice none 0 0,.int .i64 0]),2,32):=by kernel_rfl
theorem Tryz.Hq:(prog.info? 3).map (λi=>(i.zero,i.size,i.bytes))=some (some (.int .i64 0),1,8):=by kernel_rfl
theorem Tryz.tS:prog.underlying 54=some (.slice 3):=by kernel_rfl
theorem Tryz.underlying78:prog.underlying 78=some (.slice 119):=by kernel_rfl
theorem Tryz.underlying79:prog.underlying 79=some (.slice 121):=by kernel_rfl
section
variable {w w' : World} {T : TypeId} {sz : Nat} {P : Nat → Value}
theorem kH(n:Nat)(P:Nat->Value):(rowP n P).length=n:=by unfold rowP;simp
theorem lh{n j:Nat}(P:Nat->Value)(h:j<n):(rowP n P)[j]? = some (P j):=by unfold rowP;simp[h]
theorem rd_mk{g n c:Nat}(u:jB w g T (c*sz))(hn:n<=c)(y:c<=maxLen)(hx:∀j,j<n*sz->w.cell? ⟨g,j,none⟩=some (P j)):Rd w T sz P (some ⟨g,0,none⟩,n,c):=by
 obtain⟨e,o,G⟩:=u;refine⟨kH _ _,ab ⟨g,c,e,rfl,dc _,o,hn,y,G,?_⟩⟩;apply List.ext_getElem?
 intro j;show(e.toList.take (n*sz))[j]? = (rowP (n*sz) P)[j]?;by_cases i:j<n*sz
 .rw[lh P i,dh,aj i];have:=hx j i;simp only[World.cell?,o]at this;simpa using this
 rw[cw (by simp;omega),cw (by rw[kH];omega)]
theorem zE{g n c j:Nat}(h:Rd w T sz P (some ⟨g,0,none⟩,n,c))(G:j<n*sz):w.cell? ⟨g,j,none⟩=some (P j):=by
 rcases h.2 with⟨o,_⟩|⟨g',Y,u,o,_,W,_,_,Z,J⟩
 .cases o
 have e:oL (some ⟨g,0,none⟩,n,c)=.slice (some ⟨g,0,none⟩) n c:=rfl;rw[e]at o;injection o with i _ _;injection i with i;injection i with i;subst i;have H:=lh (n:=n*sz) P G;rw[<-J,dh,aj G]at H;simp only[World.cell?,W];simpa using H
theorem EB{ad:Option Addr}{n c:Nat}{xs:List Value}(h:w.ownsRow 0 T sz (.slice ad n c) n xs)(hn:n≠0):∃g,ad=some ⟨g,0,none⟩/\jB w g T (c*sz)/\n<=c/\c<=maxLen:=by
 rcases h.2 with⟨_,i⟩|⟨g,W,e,i,_,y,u,o,J,_⟩
 .exact ch i hn
 injection i with H _ G;subst G;exact⟨g,H,⟨e,y,J⟩,u,o⟩
theorem vh{x:Sl}(h:Rd w T sz P x){k:Nat}(i:eO x.1=some k):x.1=some ⟨k,0,none⟩/\jB w k T (x.2.2*sz)/\x.2.1<=x.2.2/\x.2.2<=maxLen:=by
 rcases h.2 with⟨o,_⟩|⟨g,H,u,o,_,Y,W,J,h5,_⟩
 .have:x.1=none:=by unfold oL at o;injection o
  rw[this]at i;cases i
 have y:Value.slice x.1 x.2.1 x.2.2=.slice (some ⟨g,0,none⟩) x.2.1 H:=o;injection y with G _ Z;rw[G]at i;have e:g=k:=by injection i
 subst e;rw[Z];exact⟨G,⟨u,Y,h5⟩,W,J⟩
theorem GV{x y:Sl}(h:Rd w T sz P y)(hx:Rd w T sz P x){k:Nat}(W:eO y.1=some k)(o:eO x.1=some k)(hs:sz≠0)(a0:y.2.1<=x.2.1){n:Nat}(hn:x.2.1<=n)(u:Rd w' T sz P (x.1,n,x.2.2)):Rd w' T sz P y:=by
 obtain⟨J,⟨c1,a2,a3⟩,a4,_⟩:=vh h W;obtain⟨b1,⟨c2,i,G⟩,_,_⟩:=vh hx o;rw[a2]at i;injection i with i;injection i with i _ _;have H:y.2.2=x.2.2:=by
  rw[<-i,a3]at G;exact Nat.eq_of_mul_eq_mul_right (by omega) G
 obtain⟨_,d2,_,Z⟩:=vh (x:=(x.1,n,x.2.2)) u (k:=k) (by exact o);have e:y=(some ⟨k,0,none⟩,y.2.1,x.2.2):=by
  obtain⟨y1,y2,y3⟩:=y;simp only at J H ⊢;rw[J,H]
 rw[e];rw[b1]at u;exact rd_mk d2 (by omega) Z (λj Y=>zE u (dm Y (Nat.mul_le_mul_right _ (by omega))))
end
def wo(w:World)(T:TypeId)(sz:Nat)(P:Nat->Value)(l:Sl)(j:Nat):Prop:=(l.2.1=0/\Rd w T sz P l)\/∃g,l.1=some ⟨g,0,none⟩/\l.2.1<=l.2.2/\l.2.2<=maxLen/\Full w g T (l.2.2*sz) (j*sz) P
theorem wo.all{w:World}{T:TypeId}{sz:Nat}{P:Nat->Value}{l:Sl}(h:wo w T sz P l l.2.1):Rd w T sz P l:=by
 rcases h with⟨_,h⟩|⟨g,y,H,G,u⟩
 .exact h
 have e:l=(some ⟨g,0,none⟩,l.2.1,l.2.2):=by rw[<-y]
 rw[e];obtain⟨o,k1,k2,J⟩:=id u;exact rd_mk ⟨o,k1,k2⟩ H G (λi hi=>u.cell i hi)
theorem wo.Ki{w:World}{T:TypeId}{sz:Nat}{P:Nat->Value}{l:Sl}{xs:List Value}(h:w.ownsRow 0 T sz (oL l) l.2.1 xs):wo w T sz P l 0:=by
 by_cases e:l.2.1=0
 .refine ag ⟨e,?_⟩;have G:xs=rowP (l.2.1*sz) P:=by
   have:=h.1;rw[e,Nat.zero_mul]at this ⊢;rw[List.eq_nil_of_length_eq_zero this];rfl
  unfold Rd;rw[<-G];exact h
 obtain⟨g,y,u,o,i⟩:=EB h e;refine ab ⟨g,y,o,i,?_⟩;rw[Nat.zero_mul];exact u.full P
theorem wo.place{w:World}{T:TypeId}{sz j:Nat}{P:Nat->Value}{l:Sl}(h:wo w T sz P l j)(o:j<l.2.1):∃g,l.1=some ⟨g,0,none⟩/\jB w g T (l.2.2*sz)/\j<l.2.2:=by
 rcases h with⟨i,h⟩|⟨g,i,y,u,e,k1,k2,_⟩
 .omega
 exact⟨g,i,⟨e,k1,k2⟩,by omega⟩
theorem Ih{T':TypeId}{bk f m ce g c:Nat}{ae:Option Addr}{x:Sl}{N:Int}{L:List Value}{Ev:Nat->Value}{o:Obj}{wr i:World}(Y:(81:TypeId)≠T')(hf:f<3)(G:Full wr bk 81 3 3 Ev)(hR:wr.ownsRow 0 T' 2 (.slice ae m ce) m L)(Z:i.ownsRow 0 T' 2 (.slice (some ⟨g,0,none⟩) (m+1) c) (m+1) (L++[oL x,.int .i64 N]))(u:(wr.alloc o).grownBy i (Value.slice ae m ce).ownBlock)(hm:(Value.slice ae m ce).ownBlock=some g\/wr.heap.size<=g): Full (i.setCell ⟨bk,f,none⟩ (.slice (some ⟨g,0,none⟩) (m+1) c)) bk 81 3 3 (ep Ev f (.slice (some ⟨g,0,none⟩) (m+1) c))/\(i.setCell ⟨bk,f,none⟩ (.slice (some ⟨g,0,none⟩) (m+1) c)).ownsRow 0 T' 2 (.slice (some ⟨g,0,none⟩) (m+1) c) (m+1) (L++[oL x,.int .i64 N])/\dy (λk=>k=bk\/eO ae=some k) wr (i.setCell ⟨bk,f,none⟩ (.slice (some ⟨g,0,none⟩) (m+1) c)):=by
 have H:=G.lt;have W:Full i bk 81 3 3 Ev:=(G.block (ak _ _ _ H)).block (u.block bk (by simp;omega) (λe=>(λk y=>eL hR G Y k y) bk e.symm rfl));refine⟨W.ep f _,dD Z (λk y=>af _ _ _ _ (eL Z W Y k y)),bm ?_ (ag (ag rfl)) _⟩;refine dy.trans (S1:=λk=>eO ae=some k) (gF (dk _ wr) _) ⟨u.os,u.tape,u.output,u.size,λk y J=>u.block k y (λe=>J (by rw[<-dr ae m ce];exact e.symm))⟩ (λk h _=>ab h)
structure ue(w:World) (T' T:TypeId) (sz f:Nat) (P:Nat->Value) (bk:Nat) (Ev:Nat->Value) (L0:List Value) (m0:Nat) (ae0:Option Addr) (l:Sl) (N:Int) (Q:List Sl) (x:Sl) (ae:Option Addr) (ce:Nat) (wr:World):Prop where
 f:Full wr bk 81 3 3 (ep Ev f (.slice ae (m0+Q.length) ce))
 r:wr.ownsRow 0 T' 2 (.slice ae (m0+Q.length) ce) (m0+Q.length) (L0++gQ (Q.map (λy=>(y,N))))
 q:∀y,y∈Q->Rd wr T sz P y/\y.2.1<=x.2.1/\∀k,eO y.1=some k->eO l.1=some k\/w.heap.size<=k
 x:Rd wr T sz P x/\∀k,eO x.1=some k->eO l.1=some k\/w.heap.size<=k
 o:dy (λk=>k=bk\/eO ae0=some k\/eO l.1=some k) w wr
 a:∀k,eO ae=some k->eO ae0=some k\/w.heap.size<=k
section
variable {w : World} {T' T : TypeId} {sz f : Nat} {P : Nat → Value} {bk : Nat} {Ev : Nat → Value} {L0 : List Value} {m0 : Nat} {ae0 : Option Addr} {l : Sl} {N : Int} {Q : List Sl} {x : Sl} {ae : Option Addr} {ce : Nat} {wr : World}
theorem Bo(Q:List Sl)(x:Sl)(N:Int):gQ ((Q++[x]).map (λy=>(y,N)))=gQ (Q.map (λy=>(y,N)))++[oL x,.int .i64 N]:=by unfold gQ;simp
theorem ue.line{o:Obj}{Y:World}{g c:Nat}(h:ue w T' T sz f P bk Ev L0 m0 ae0 l N Q x ae ce wr)(a1:(81:TypeId)≠T')(Z:T≠T')(a0:(81:TypeId)≠T)(hf:f<3)(ho:Y.ownsRow 0 T' 2 (.slice (some ⟨g,0,none⟩) (m0+Q.length+1) c) (m0+Q.length+1) (L0++gQ (Q.map (λy=>(y,N)))++[oL x,.int .i64 N]))(hg:(wr.alloc o).grownBy Y (Value.slice ae (m0+Q.length) ce).ownBlock)(W:(Value.slice ae (m0+Q.length) ce).ownBlock=some g\/wr.heap.size<=g): ue w T' T sz f P bk Ev L0 m0 ae0 l N (Q++[x]) x (some ⟨g,0,none⟩) c (Y.setCell ⟨bk,f,none⟩ (.slice (some ⟨g,0,none⟩) (m0+Q.length+1) c)):=by
 obtain⟨h1,h2,h3⟩:=Ih a1 hf h.f h.r ho hg W;have a3:=h.o.size;have J:∀y,Rd wr T sz P y->Rd (Y.setCell ⟨bk,f,none⟩ (.slice (some ⟨g,0,none⟩) (m0+Q.length+1) c)) T sz P y:=λy G=>G.fr (λk u=>h3.same (G.lt u).1 (λhs=>by
  obtain⟨a2,i⟩:=(G.lt u).2;rcases hs with rfl|hs
  .obtain⟨c2,H,_⟩:=h.f;rw[H]at i;injection i with i;injection i with _ i _;exact a0 i
  obtain⟨_,_,c2,H⟩:=dA h.r k (by rw[dr];exact hs);rw[H]at i;injection i with i;injection i with _ i _;exact Z i.symm))
 have hl:m0+(Q++[x]).length=m0+Q.length+1:=by rw[bo];rfl
 refine⟨?_,?_,λy G=>?_,⟨J x h.x.1,h.x.2⟩,h.o.trans h3 (λk u hl=>?_),λk u=>?_⟩
 .rw[hl];refine h1.congr (λj hj=>?_);unfold ep;by_cases e:j=f
  .rw[aj e,aj e]
  rw[aa e,aa e,aa e]
 .rw[hl,Bo,<-dY];exact h2
 .rcases di.1 G with G|G
  .exact⟨J y (h.q y G).1,(h.q y G).2⟩
  have e:=dL.1 G;rw[e];exact⟨J x h.x.1,bj _,h.x.2⟩
 .rcases u with u|u
  .exact ag u
  rcases h.a k u with h4|h4
  .exact ab (ag h4)
  omega
 have e:g=k:=by injection u
 subst e;rcases W with W|W
 .exact h.a g (by rw[<-dr ae (m0+Q.length) ce];exact W)
 right;omega
theorem ue.more{o:Obj}{J:World}{v':Value}{Y:List Value}(h:ue w T' T sz f P bk Ev L0 m0 ae0 l N Q x ae ce wr)(aC:(81:TypeId)≠T')(a4:T≠T')(a5:(81:TypeId)≠T)(hs:sz≠0)(a2:rowP (x.2.1*sz) P++Y=rowP ((x.2.1+1)*sz) P)(ho:J.ownsRow 0 T sz v' (x.2.1+1) (rowP (x.2.1*sz) P++Y))(G:FL (wr.alloc o) J x.1 x.2.1 x.2.2 1 v'): ∃H:Sl,v'=oL H/\H.2.1=x.2.1+1/\(∀k,eO H.1=some k->eO x.1=some k\/wr.heap.size<k)/\ue w T' T sz f P bk Ev L0 m0 ae0 l N Q H ae ce J:=by
 rw[a2]at ho;have aB:=h.o.size;have a3:∀k,eO x.1=some k->k≠bk/\eO ae≠some k:=λk i=>by
  obtain⟨aA,u⟩:=(h.x.1.lt i).2;refine⟨λe=>?_,λe=>?_⟩
  .obtain⟨c2,a1,_⟩:=h.f;rw[e,a1]at u;injection u with u;injection u with _ u _;exact a5 u
  obtain⟨_,_,c2,a1⟩:=dA h.r k (by rw[dr];exact e);rw[a1]at u;injection u with u;injection u with _ u _;exact a4 u.symm
 have a0:∀H:Sl,v'=oL H->H.2.1=x.2.1+1->(∀k,eO H.1=some k->eO x.1=some k\/wr.heap.size<k)->dy (λk=>eO x.1=some k) wr J->(∀y,y∈Q->Rd J T sz P y)->ue w T' T sz f P bk Ev L0 m0 ae0 l N Q H ae ce J:=by
  intro H e1 e2 e3 Z hq;have a9:Rd J T sz P H:=by
   unfold Rd;rw[<-e1,e2];exact ho
  refine⟨h.f.block (Z.same h.f.lt (λe=>(a3 _ e).1 rfl)),dD h.r (λk i=>Z.same (dA h.r k i).2.1 (λe=>(a3 k e).2 (by rw[<-dr ae (m0+Q.length) ce];exact i))),λy W=>⟨hq y W,?_,(h.q y W).2.2⟩,⟨a9,λk i=>?_⟩,h.o.trans Z (λk i hl=>?_),h.a⟩
  .have:=(h.q y W).2.1;omega
  .rcases e3 k i with h4|h4
   .exact h.x.2 k h4
   right;omega
  rcases h.x.2 k i with h4|h4
  .exact ab (ab h4)
  omega
 rcases G with⟨rfl,G⟩|⟨g,c,rfl,a7,G⟩
 .rw[dr]at G;have Z:=dy.trans (S1:=λk=>eO x.1=some k) (gF (dk _ wr) _) ⟨G.os,G.tape,G.output,G.size,λk i a6=>G.block k i (λe=>a6 e.symm)⟩ (λk h _=>h);refine⟨(x.1,x.2.1+1,x.2.2),rfl,rfl,λk i=>ag i,a0 (x.1,x.2.1+1,x.2.2) rfl rfl (λk i=>ag i) Z (λy W=>?_)⟩;obtain⟨y1,y2,y3⟩:=h.q y W;by_cases u:∃k,eO y.1=some k/\eO x.1=some k
  .obtain⟨k,k1,k2⟩:=u;exact GV y1 h.x.1 k1 k2 hs y2 (Nat.le_succ _) ho
  exact y1.fr (λk i=>Z.same (y1.lt i).1 (λe=>u ⟨k,i,e⟩))
 have Z:dy (λk=>eO x.1=some k) wr J:=dy.trans (S1:=λ_=>False) (gF (dk _ wr) _) (dU G) (λk h _=>h.elim);have a8:dy (λ_=>False) wr J:=dy.trans (S1:=λ_=>False) (gF (dk _ wr) _) (dU G) (λk h _=>h.elim);have hz:wr.heap.size<g:=by simp at a7;omega
 have e3:∀k,eO (some (⟨g,0,none⟩:Addr))=some k->eO x.1=some k\/wr.heap.size<k:=λk i=>by
  have e:g=k:=by injection i
  right;omega
 exact⟨(some ⟨g,0,none⟩,x.2.1+1,c),rfl,rfl,e3,a0 (some ⟨g,0,none⟩,x.2.1+1,c) rfl rfl e3 Z (λy W=>(h.q y W).1.fr (λk i=>a8.same ((h.q y W).1.lt i).1 (λe=>e)))⟩
end
structure uf(w:World) (T' T:TypeId) (sz:Nat) (P:Nat->Value) (bk:Nat) (Ev:Nat->Value) (L0:List Value) (m0:Nat) (ae:Option Addr) (ce:Nat) (l:Sl) (j:Nat) (wr:World):Prop where
 f:Full wr bk 81 3 3 Ev
 r:wr.ownsRow 0 T' 2 (.slice ae m0 ce) m0 L0
 z:wo wr T sz P l j
 o:dy (λk=>k=bk\/eO ae=some k\/eO l.1=some k) w wr
section
variable {w : World} {T' T : TypeId} {sz : Nat} {P : Nat → Value} {bk : Nat} {Ev : Nat → Value} {L0 : List Value} {m0 : Nat} {ae : Option Addr} {ce : Nat} {l : Sl} {j : Nat} {wr : World}
theorem uf.Ki{w1 w2:World}{u:Option Addr}{ln J:Nat}{xs:List Value}(y:Full w1 bk 81 3 3 Ev)(hR:w1.ownsRow 0 T' 2 (.slice ae m0 ce) m0 L0)(H:w1.ownsRow 0 T sz (.slice u ln J) ln xs)(W:dy (λk=>k=bk\/eO ae=some k\/eO u=some k) w w1)(G:w1.grownBy w2 none):uf w T' T sz P bk Ev L0 m0 ae ce (u,ln,J) 0 w2:=by
 have i:=λk o=>G.block k o (by intro e;cases e);exact⟨y.block (i _ y.lt),dD hR (λk o=>i k (dA hR k o).2.1),wo.Ki (dD H (λk o=>i k (dA H k o).2.1)),W.gR G⟩
theorem uf.next{w':World}(h:uf w T' T sz P bk Ev L0 m0 ae ce l j wr)(J:T≠T')(W:(81:TypeId)≠T){j':Nat}(hl:wo w' T sz P l j')(Z:dy (λk=>eO l.1=some k) wr w'):uf w T' T sz P bk Ev L0 m0 ae ce l j' w':=by
 have H:∀k,eO l.1=some k->∃u,wr.heap[k]? = some (.cells u T (0,0)):=λk y=>by
  rcases h.z with⟨_,Y⟩|⟨g,Y,_,_,u,h2,_⟩
  .exact(Y.lt y).2
  rw[Y]at y;have e:g=k:=by injection y
  exact⟨u,e▸h2⟩
 refine⟨h.f.block (Z.same h.f.lt (λe=>?_)),dD h.r (λk y=>Z.same (dA h.r k y).2.1 (λe=>?_)),hl,h.o.trans Z (λk y _=>ab (ab y))⟩
 .obtain⟨u,i⟩:=H _ e;obtain⟨c2,G,_⟩:=h.f;rw[G]at i;injection i with i;injection i with _ i _;exact W i
 obtain⟨u,i⟩:=H _ e;obtain⟨_,_,c2,G⟩:=dA h.r k y;rw[G]at i;injection i with i;injection i with _ i _;exact J i.symm
theorem uf.done{N:Int}{f:Nat}{G:Option Addr}{ln H:Nat}(h:uf w T' T sz P bk Ev L0 m0 ae ce (G,ln,H) ln wr)(J:Ev f=.slice ae m0 ce):ue w T' T sz f P bk Ev L0 m0 ae (G,ln,H) N [] (G,ln,H) ae ce wr:=by
 refine⟨h.f.congr (λi hi=>?_),?_,λy W=>(by cases W),⟨wo.all h.z,λk u=>ag u⟩,h.o,λk u=>ag u⟩
 .unfold ep;by_cases e:i=f
  .rw[aj e,e,J];rfl
  rw[aa e]
 have e:L0++gQ (([]:List Sl).map (λy=>(y,N)))=L0:=by unfold gQ;simp
 rw[e];exact h.r
end
end F
end Go.Proofs.YtnjiinbhbjpfkaaGreatDoor
