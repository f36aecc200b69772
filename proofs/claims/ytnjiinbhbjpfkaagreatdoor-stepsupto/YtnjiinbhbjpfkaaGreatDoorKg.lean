import Derived.Test.YtnjiinbhbjpfkaaGreatDoorKe
set_option maxRecDepth 100000
set_option maxHeartbeats 0
set_option linter.all false
namespace Go.Proofs.YtnjiinbhbjpfkaaGreatDoor
open Go.RowKit Go.Proofs.Tryz
namespace D
open F
variable {p : dz} {K K' : Nat} {s s' : Pl} {m m' : Dm} {ρ : Nat → Nat} {X : Nat → Prop}
theorem iw(h:eK p K s m ρ)(t:Nat):mF m t↔fe s t:=by
 unfold mF fe;rw[h.nt]
theorem eK.wh(h:eK p K s m ρ)(o:fS p s X){t:Nat}(i:t∈s.lv):((s.T t).wh=none/\(m.T t).how=1)\/((s.T t).wh=some (2,0)/\(m.T t).how=1)\/((s.T t).wh=some (3,0)/\(m.T t).how=2)\/(∃k,k<4/\(s.T t).wh=some (4,k)/\(m.T t).how=3/\(m.T t).what=k)\/(∃u,fe s u/\(s.T t).wh=some (5,u)/\(m.T t).how=4/\(m.T t).what=u):=by
 have e:=(h.T t i).h
 cases hw:(s.T t).wh with
 | none=>exact ag ⟨rfl,e.h0 hw⟩
 | some J=>
  obtain⟨x,y⟩:=J;obtain⟨W,_,_⟩:=o.lw.a t (o.lt t i) x y hw;rcases W with⟨rfl,rfl⟩|⟨rfl,rfl⟩|⟨rfl,H⟩|⟨rfl,G⟩
  .exact ab (ag ⟨rfl,e.h2 0 hw⟩)
  .exact ab (ab (ag ⟨rfl,(e.h3 0 hw).1⟩))
  .exact ab (ab (ab (ag ⟨y,H,rfl,(e.h4 y hw).1,(e.h4 y hw).2.1⟩)))
  exact ab (ab (ab (ab ⟨y,G,rfl,(e.h5 y hw).1,(e.h5 y hw).2.1⟩)))
theorem eK.how(h:eK p K s m ρ)(u:fS p s X){t:Nat}(ht:fe s t):((m.T t).how≠5↔t∈s.lv):=by
 constructor
 .intro o;exact Classical.byContradiction λhn=>o (h.O t ht hn).1
 intro i;rcases h.wh u i with e|e|e|⟨_,_,_,e,_⟩|⟨_,_,_,e,_⟩<;>(first|have e:=e.2|skip)<;>omega
theorem eK.live(h:eK p K s m ρ)(i:fS p s X){N:Nat}(o:D7 m N):N=s.lv.length:=
 o.uniq (Q:=λt=>t∈s.lv) ⟨s.lv,i.nd,λ_=>Iff.rfl,rfl⟩ (λt=>by
  rw[iw h];constructor
  .rintro⟨e,u⟩;exact(h.how i e).1 u
  intro e;exact⟨i.lt t e,(h.how i (i.lt t e)).2 e⟩)
theorem eK.JW(h:eK p K s m ρ)(i:fS p s X){x y t:Nat}(W:fz s x y)(hx:x=4\/x=5):(mF m t/\(m.T t).how=x-1/\(m.T t).what=y)↔t∈s.q x y:=by
 rw[iw h];constructor
 .rintro⟨ht,h1,h2⟩;rcases h.wh i ((h.how i ht).1 (by omega)) with e|e|e|⟨k,hk,H,Z,Y⟩|⟨u,hu,H,Z,Y⟩
  .omega
  .omega
  .omega
  .obtain rfl:x=4:=by omega
   obtain rfl:k=y:=by omega
   exact(i.lw.a t ht _ _ H).2.1
  obtain rfl:x=5:=by omega
  obtain rfl:u=y:=by omega
  exact(i.lw.a t ht _ _ H).2.1
 intro J;obtain⟨ht,hw⟩:=i.lw.b x y W t J;have o:=(h.T t (i.ql x y W t J)).h;rcases hx with rfl|rfl
 .exact⟨ht,(o.h4 y hw).1,(o.h4 y hw).2.1⟩
 exact⟨ht,(o.h5 y hw).1,(o.h5 y hw).2.1⟩
theorem eK.first(h:eK p K s m ρ)(o:fS p s X){x y b:Nat}(i:fz s x y)(hx:x=4\/x=5)(G:Iv m (x-1) y b):(b=0/\s.q x y=[])\/∃l,s.q x y=b :: l:=by
 rcases G with⟨rfl,G⟩|⟨Z,W,Y,b4⟩
 .left
  refine⟨rfl,?_⟩
  cases hq:s.q x y with
  | nil=>rfl
  | cons a l=>
   have:=(h.JW o i hx (t:=a)).2 (by rw[hq];simp);exact ch this.2 (G a this.1)
 right
 have e:=(h.JW o i hx).1 ⟨Z,W,Y⟩
 cases hq:s.q x y with
 | nil=>rw[hq]at e;cases e
 | cons a l=>
  refine⟨l,?_⟩;rw[hq]at e;rcases List.mem_cons.1 e with rfl|e
  .rfl
  have H:=h.L x y i (by omega);rw[hq,List.pairwise_cons]at H;have J:=H.1 b e;unfold FI at J;rw[aa (by omega)]at J;have u:=(h.JW o i hx (t:=a)).2 (by rw[hq];simp);have:=b4 a u.1 u.2.1 u.2.2;omega
theorem eK.JX(h:eK p K s m ρ)(i:fS p s X){t:Nat}:(mF m t/\(m.T t).how=2)↔t∈s.q 3 0:=by
 have G:fz s 3 0:=ab (ag ⟨rfl,rfl⟩);rw[iw h];constructor
 .rintro⟨ht,h1⟩;rcases h.wh i ((h.how i ht).1 (by omega)) with e|e|e|⟨k,Z,W,J,H⟩|⟨u,Y,W,J,H⟩
  .omega
  .omega
  .exact(i.lw.a t ht _ _ e.1).2.1
  .omega
  omega
 intro y;obtain⟨ht,hw⟩:=i.lw.b 3 0 G t y;exact⟨ht,((h.T t (i.ql 3 0 G t y)).h.h3 0 hw).1⟩
theorem eK.km(h:eK p K s m ρ)(o:fS p s X){t:Nat}(e:t∈s.q 3 0):(m.T t).km=(s.T t).iL:=by
 have i:fz s 3 0:=ab (ag ⟨rfl,rfl⟩);exact((h.T t (o.ql 3 0 i t e)).h.h3 0 (o.lw.b 3 0 i t e).2).2
theorem eK.due(h:eK p K s m ρ)(u:fS p s X){b:Nat}(H:Iw m b):(b=0/\∀a l,s.q 3 0=a :: l->¬(s.T a).iL<=s.eY)\/(b≠0/\∃l,s.q 3 0=b :: l/\(s.T b).iL<=s.eY):=by
 rcases H with⟨rfl,H⟩|⟨W,b2,b3,b4⟩
 .left
  refine⟨rfl,λa l o hc=>?_⟩;have i:a∈s.q 3 0:=by rw[o];simp
  have:=(h.JX u).2 i;exact H a this.1 ⟨this.2,by rw[h.km u i,h.ck];exact hc⟩
 right
 have y:=(h.JX u).1 ⟨W,b2⟩;refine⟨by omega,?_⟩
 cases o:s.q 3 0 with
 | nil=>rw[o]at y;cases y
 | cons a l=>
  have e:=y;rw[o]at e;rcases List.mem_cons.1 e with rfl|e
  .exact⟨l,rfl,by rw[<-h.km u y,<-h.ck];exact b3⟩
  exfalso
  have Z:=h.L 3 0 (ab (ag ⟨rfl,rfl⟩)) (by decide);rw[o,List.pairwise_cons]at Z;have J:=Z.1 b e;unfold FI at J;rw[aj rfl]at J;have i:a∈s.q 3 0:=by rw[o];simp
  have Y:=(h.JX u).2 i;have h2:=b4 a Y.1 Y.2 (by omega);unfold xw at h2;omega
def D4(d:Dp)(m:Dm)(v:B.V):Prop:=(∃t,mF m t/\(m.T t).out=v)\/∃t i a,mF m t/\i<(m.T t).fr.length/\a<d.rg (fj m t i).f/\(fj m t i).R a=v
inductive lT (d : Dp) (m : Dm) : Nat → Prop
  | root {v : B.V} : D4 d m v → v.1 ≠ 0 → lT d m v.1
  | slot {c : Nat} {v : B.V} : lT d m c → v ∈ m.M c → v.1 ≠ 0 → lT d m v.1
def kg(d:Dp)(m:Dm)(N:Nat):Prop:=BJ (lT d m) N
theorem ou.ind{P:Nat->Prop}{c:Nat}(y:ou p s c)(H:∀v,qw p s v->v.1≠0->P v.1)(G:∀k v,ou p s k->P k->v∈s.M k->v.1≠0->P v.1):P c:=by
 have:=y (λk=>ou p s k/\P k) (λi hi e=>⟨B.nH (B.nZ hi) e,H _ (gi.1 (B.nZ hi)) e⟩) (λk o v u e=>⟨B.kA o.1 u e,G k v o.1 o.2 u e⟩);exact this.2
theorem eK.KP(h:eK p K s m ρ){d:Dp}(hO:Ok p s)(hP:PD p d){c:Nat}(hc:ou p s c):lT d m (ρ c):=by
 refine hc.ind (P:=λc=>lT d m (ρ c)) (λv o e=>?_) (λk v hk Y o e=>?_)
 .rcases o with⟨u,i,a,y,hi,G,rfl⟩|o
  .have hT:=h.T u y;have J:=hT.f i hi;have:=lT.root (d:=d) (m:=m) (v:=(fj m u i).R a) (ab ⟨u,i,a,(iw h u).2 (hO.lt u y),by rw[hT.l];exact hi,?_,rfl⟩) ?_
   .rw[show(fj m u i).R a=tr ρ ((de s u i).R a) from J.R a G,oZ e]at this;exact this
   .rw[show(fj m u i).f=(de s u i).f from J.f,hP.rg (de s u i).f ((hO.fw u y trivial).f i hi).1];exact G
   rw[show(fj m u i).R a=tr ρ ((de s u i).R a) from J.R a G,oZ e];have:=(h.C _ (B.nH (gi.2 (ag ⟨u,i,a,y,hi,G,rfl⟩)) e)).c1;show ρ _≠0;omega
  obtain⟨t,t1,t2,t3⟩:=h.Kp v o;have Z:=(h.O t t1 t2).2.2;rw[t3,oZ e]at Z;have:=lT.root (d:=d) (m:=m) (v:=(m.T t).out) (ag ⟨t,(iw h t).2 t1,rfl⟩) ?_
  .rw[Z]at this;exact this
  rw[Z];have:=(h.C _ (B.nH (gi.2 (ab o)) e)).c1;show ρ _≠0;omega
 have:=lT.slot (d:=d) (m:=m) (v:=tr ρ v) Y (by rw[(h.C k hk).M];exact ek.2 ⟨v,o,rfl⟩) ?_
 .rw[oZ e]at this;exact this
 rw[oZ e];have:=(h.C _ (B.kA hk o e)).c1;show ρ _≠0;omega
theorem eK.Jc(h:eK p K s m ρ){d:Dp}(hO:Ok p s)(hP:PD p d){c:Nat}(hc:lT d m c):∃k,ou p s k/\ρ k=c:=by
 induction hc with
 | @root v hv Z=>
  have W:∀u,qw p s u->tr ρ u=v->∃k,ou p s k/\ρ k=v.1:=λu hu e=>by
   have H:u.1≠0:=λJ=>Z (by rw[<-e,om J];exact J);refine⟨u.1,B.nH (gi.2 hu) H,?_⟩;rw[<-e,oZ H]
  rcases hv with⟨t,ht,e⟩|⟨t,i,a,ht,hi,ha,e⟩
  .have G:=(iw h t).1 ht;by_cases y:t∈s.lv
   .rw[(h.T t y).o]at e;exact ch (by rw[<-e]) Z
   have ho:=(h.O t G y).2.2;have Y:t-1<s.out.length:=by rw[hO.ol];have:=G.2;omega
   have a0:m9 s t∈s.out:=by
    unfold m9;rw[ar,bn Y];exact List.getElem_mem Y
   rcases hO.ok _ a0 with J|J
   .rw[om J,e]at ho;exact ch (by rw[ho];exact J) Z
   exact W _ (ab J) (by rw[<-ho];exact e)
  have G:=(iw h t).1 ht;by_cases y:t∈s.lv
  .have hT:=h.T t y;rw[hT.l]at hi;have hF:=hT.f i hi;have hf:(fj m t i).f=(de s t i).f:=hF.f;rw[hf,hP.rg (de s t i).f ((hO.fw t y trivial).f i hi).1]at ha;exact W _ (ag ⟨t,i,a,y,hi,ha,rfl⟩) ((hF.R a ha).symm.trans e)
  rw[(h.O t G y).2.1]at hi;exact ch hi (Nat.not_lt_zero _)
 | @slot c v hc hv Z ih=>
  obtain⟨k,hk,rfl⟩:=ih;rw[(h.C k hk).M]at hv;obtain⟨u,hu,rfl⟩:=ek.1 hv;have H:u.1≠0:=λJ=>Z (by rw[om J];exact J);exact⟨u.1,B.kA hk hu H,by rw[oZ H]⟩
theorem kB{f:Nat->Nat}:∀(l:List Nat),l.Nodup->(∀a,a∈l->∀b,b∈l->f a=f b->a=b)->(l.map f).Nodup
 | [],_,_=>List.nodup_nil
 | a :: l,h,hf=>by
  rw[List.nodup_cons]at h;rw[List.map_cons,List.nodup_cons];refine⟨λu=>?_,kB l h.2 (λb i c o=>hf b (by simp[i]) c (by simp[o]))⟩;obtain⟨b,i,e⟩:=ek.1 u;have:=hf b (by simp[i]) a (by simp) e;exact h.1 (this▸i)
theorem C6:∀(n:Nat) (l:List Nat),(∀c,1<=c->c<=n->c∈l)->n<=l.length
 | 0,_,_=>dc _
 | n+1,l,h=>by
  have i:=h (n+1) (by omega) (bj _);have:=C6 n (l.erase (n+1)) (λc c1 o=>(List.mem_erase_of_ne (by omega)).2 (h c c1 (by omega)));rw[List.length_erase_of_mem i]at this;have:l.length≠0:=λe=>by rw[cf.1 e]at i;cases i
  omega
theorem eK.count(h:eK p K s m ρ){d:Dp}(G:Ok p s)(hP:PD p d){N:Nat}(J:kg d m N):∃l:List Nat,l.Nodup/\(∀c,c∈l↔ou p s c)/\N=l.length:=by
 classical
 let l:=((List.range (p.n+1)).filter (λc=>decide (ou p s c)))
 have u:∀c,c∈l↔ou p s c:=λc=>by
  show c∈(List.range (p.n+1)).filter (λc=>decide (ou p s c))↔_;rw[List.mem_filter,eJ];constructor
  .intro i;exact dO i.2
  intro i;exact⟨by have:=(B.po G.hl i).2.2;omega,fh i⟩
 have o:l.Nodup:=List.nodup_range.filter _;refine⟨l,o,u,?_⟩;have H:(l.map ρ).Nodup:=by
  exact kB _ o (λa W b Y e=>h.I a b ((u a).1 W) ((u b).1 Y) e)
 have:=J.uniq (Q:=lT d m) (K:=(l.map ρ).length) ⟨l.map ρ,H,λc=>?_,rfl⟩ (λ_=>Iff.rfl)
 .rw[this,dS]
 rw[ek];constructor
 .rintro⟨k,y,rfl⟩;exact h.KP G hP ((u k).1 y)
 intro i;obtain⟨k,y,rfl⟩:=h.Jc G hP i;exact⟨k,(u k).2 y,rfl⟩
theorem eK.room(h:eK p K s m ρ){d:Dp}(H:Ok p s)(hP:PD p d){N:Nat}(hN:kg d m N):N<=p.n/\(N<p.n↔∃c,1<=c/\c<=p.n/\¬ou p s c):=by
 classical
 obtain⟨l,J,u,rfl⟩:=h.count H hP hN;have i:=λc o=>(B.po H.hl ((u c).1 o)).2;refine⟨gn p.n l J i,λW=>?_,λ⟨c,c1,y,c3⟩=>?_⟩
 .refine Classical.byContradiction λG=>?_;have:=C6 p.n l (λc c1 y=>(u c).2 (Classical.byContradiction λZ=>G ⟨c,c1,y,Z⟩));omega
 have Y:=gn p.n (c :: l) (List.nodup_cons.2 ⟨λo=>c3 ((u c).1 o),J⟩) (λt ht=>by
  rcases List.mem_cons.1 ht with rfl|ht
  .exact⟨c1,y⟩
  exact i t ht)
 rw[List.length_cons]at Y;omega
end D
namespace D
open F
variable {p : dz} {d : Dp} {K : Nat} {s : Pl} {m m' : Dm} {g g' : Dg} {w w' : World} {ρ : Nat → Nat}
theorem BH{w:World}{e:TypeId}{ad:Option Addr}{n c:Nat}{xs:List Value}(h:fM w e (.slice ad n c) xs):n=xs.length/\(xs≠[]->∃b off,ad=some ⟨b,off,none⟩/\b<w.heap.size/\∀(j:Nat) u,xs[j]? = some u->w.cell? ⟨b,off+j,none⟩=some u):=by
 rcases h with⟨i,y⟩|⟨g,off,cap,H,P,i,y,h3,J,o,hP⟩
 .injection i with _ a _;subst y;exact⟨a,λe=>ch rfl e⟩
 injection i with a b W;refine⟨b,λ_=>⟨g,off,a,o.lt,λj u G=>?_⟩⟩;have Y:=(bu.1 G).1;rw[o.cell (off+j) (by omega),hP j u G]
theorem xP{l:List Nat}{i a:Nat}(f:Nat->Bool)(h:l[i]? = some a):(l.take (i+1)).filter f=(l.take i).filter f++if f a=true then[a] else[]:=by
 rw[List.take_add_one,h,List.filter_append];congr 1
 show[a].filter f=_;by_cases e:f a=true
 .rw [aj e];simp[e]
 rw [aa e];simp[e]
def LH(w0 wr:World)(ad:Option Addr)(n c:Nat)(xs:List Nat):Prop:=fM wr 3 (.slice ad n c) (iI xs)/\(∀k,eO ad=some k->w0.heap.size<=k)/\w0.grownBy wr none
theorem dQ.JJ{p:Dp}(h:dQ p m g w){t tb:Nat}(ht:mF m t)(o:g.ro 1 0=(some ⟨tb,0,none⟩,(g.ro 1 0).2)):Tr p m g w (m.dv t (((m.T t).hw 5).kD [])) (g.at 5 t (none,0)) ((w.setCell ⟨tb,(t-1)*8+1,none⟩ (.int .i64 5)).setCell ⟨tb,(t-1)*8,none⟩ (.slice none 0 0)):=by
 have y:∀i:Nat,i<8->i=0\/i=1\/i=2\/i=3\/i=4\/i=5\/i=6\/i=7:=λi hi=>by omega
 have u:Tr p m g w (m.dv t ((m.T t).hw 5)) g (w.setCell ⟨tb,(t-1)*8+1,none⟩ (.int .i64 5)):=h.sw ht o 1 (by omega) _ rfl (λi hi=>by rcases y i hi with rfl|rfl|rfl|rfl|rfl|rfl|rfl|rfl<;>rfl);have e:=u.r.shrink (t:=t) ht o (j:=0) (dc _) (r:=(none,0)) (ab ⟨rfl,rfl⟩);rw[iT,fG]at e;exact u.trans e
theorem dQ.JK{p:Dp}(h:dQ p m g w){t tb:Nat}(ht:mF m t)(o:g.ro 1 0=(some ⟨tb,0,none⟩,(g.ro 1 0).2))(v:B.V):Tr p m g w (m.dv t { m.T t with out:=v }) g ((w.setCell ⟨tb,(t-1)*8+6,none⟩ (.int .i64 v.1)).setCell ⟨tb,(t-1)*8+7,none⟩ (.int .i64 v.2)):=by
 have u:∀i:Nat,i<8->i=0\/i=1\/i=2\/i=3\/i=4\/i=5\/i=6\/i=7:=λi hi=>by omega
 have y:Tr p m g w (m.dv t { m.T t with out:=(v.1,(m.T t).out.2) }) g (w.setCell ⟨tb,(t-1)*8+6,none⟩ (.int .i64 v.1)):=h.sw ht o 6 (by omega) _ rfl (λi hi=>by rcases u i hi with rfl|rfl|rfl|rfl|rfl|rfl|rfl|rfl<;>rfl);have e:=y.r.sw (t:=t) ht o 7 (by omega) (.int .i64 v.2) (x':={ m.T t with out:=v }) (by rw[fG]) (λi hi=>by rw[fG];rcases u i hi with rfl|rfl|rfl|rfl|rfl|rfl|rfl|rfl<;>rfl);rw[iT]at e;exact y.trans e
theorem Tr.other{p:Dp}(h:Tr p m g w m' g' w'){k:Nat}{o:Obj}(e:w.heap[k]? = some o)(hn:¬ey p m g k):w'.heap[k]? = some o/\¬ey p m' g' k:=
 ⟨h.o.block e hn,λi=>(h.m k i).elim hn (λu=>by have:=bz e;omega)⟩
def LC(p:dz)(d:Dp)(K:Nat)(s:Pl)(m:Dm)(g:Dg)(w:World)(ρ:Nat->Nat)(t:Nat)(v:B.V)(x:Nat)(o:Obj)(n b:Nat)(wr:World):Prop:=
 ∃s1 m1 g1,(wr.heap[x]? = some o/\¬ey d m1 g1 x)/\(s1.q 5 t).length=n/\Tr d m g w m1 g1 wr/\eK p K s1 m1 ρ/\Ok p s1/\s1.nt=s.nt/\(v.1=0\/v∈s1.kp)/\s1.dR v (s1.q 5 t)=s.dR v (s.q 5 t)/\((b=0/\s1.q 5 t=[])\/∃l,s1.q 5 t=b :: l)
theorem zk{t n x:Nat}{o:Obj}{v:B.V}{s1:Pl}{m1:Dm}{g1:Dg}{wr:World}(W:g1.mb=g.mb)(hx:wr.heap[x]? = some o/\¬ey d m1 g1 x)(J:(s1.q 5 t).length=n)(h:Tr d m g w m1 g1 wr)(hS:eK p K s1 m1 ρ)(i:Ok p s1)(hn:s1.nt=s.nt)(ht:fe s t)(H:v.1=0\/v∈s1.kp)(he:s1.dR v (s1.q 5 t)=s.dR v (s.q 5 t)): Calls prog 192 #[P0 g.mb,.int .i64 4,.int .i64 t] wr λe w'=>∃b:Nat,e=.returned (.int .i64 b)/\b<=s.nt/\LC p d K s m g w ρ t v x o n b w':=by
 rw[<-W];refine(Hv h.r (by rw[hS.nt,hn];have:=ht.1;have:=ht.2;omega) 4 t).mono ?_;rintro e w' ⟨b,rfl,Y,y,u⟩;exact⟨b,rfl,by rw[<-hn,<-hS.nt];exact Y,s1,m1,g1,⟨cm u hx.1 (by intro e;cases e),hx.2⟩,J,h.kept u,hS,i,hn,H,he,hS.first i (ab (ab (ab ⟨rfl,(eg hn).2 ht⟩))) (ab rfl) y⟩
theorem Eg{t n b x:Nat}{o:Obj}{v:B.V}{wr:World}(hP:PD p d)(h:LC p d K s m g w ρ t v x o n b wr)(hb:b≠0)(ht:fe s t): Calls prog 144 #[P0 g.mb,.int .i64 b,vA (tr ρ v)] wr λe w'=>e=.returned (.tuple #[])/\∃s1 m1 g1,g1.mb=g.mb/\(w'.heap[x]? = some o/\¬ey d m1 g1 x)/\n=(s1.q 5 t).length+1/\Tr d m g w m1 g1 w'/\eK p K s1 m1 ρ/\Ok p s1/\s1.nt=s.nt/\(v.1=0\/v∈s1.kp)/\s1.dR v (s1.q 5 t)=s.dR v (s.q 5 t):=by
 obtain⟨s1,m1,g1,hx,h0,h1,W,G,h4,h5,h6,h7⟩:=h;obtain⟨l,hq⟩:∃l,s1.q 5 t=b :: l:=h7.resolve_left (λe=>hb e.1);have hl:fz s1 5 t:=ab (ab (ab ⟨rfl,(eg h4).2 ht⟩));have a0:b∈s1.q 5 t:=by rw[hq];simp
 have u:=G.ql 5 t hl b a0;obtain⟨H,J⟩:=G.lw.b 5 t hl b a0;obtain⟨k,k1,k2,k3⟩:=G.ww b H 5 t J (ab rfl);obtain⟨_,_,i,i1,i2⟩:=(W.T b u).h.h5 t J;rw[k1]at i1;injection i1 with i1;subst i1;have hT:=W.T b u;have Y:=G.fw b u trivial;have a1:(s1.T b).fr.length≠0:=λe=>k2 (cf.1 e);have hv:dN p s1 v:=h5.elim (λe=>ag e) (λe=>dN.root (ab e));have a3:m1.q.length<=1000000000:=by
  rw[W.q];have:=G.lw.len (x:=2) (y:=0) (ag ⟨rfl,rfl⟩);omega
 have a5:(pR m1 b).f=(de s1 b ((s1.T b).fr.length-1)).f:=by
  unfold pR pQ;rw[hT.l];exact(hT.f _ (by omega)).f
 rw[<-h1.b];refine(Cz (tr ρ v) h1.r ((iw W b).2 H) (by rw[W.nt];have:=G.lw.d;omega) a3 (λ_=>⟨by rw[hT.l];exact a1,by rw[hT.l];exact Y.n2,?_⟩)).mono ?_
 .rw [i2,lH,a5,hP.rg (de s1 b ((s1.T b).fr.length-1)).f (Y.f ((s1.T b).fr.length-1) (by omega)).1];exact k3
 rintro e w' ⟨rfl,g',h'⟩;have Z:(s1.fJ b v).q 5 t=l:=by
  rw[nT v k1];have a2:((s1.dx b (cr s1 b) ((de s1 b (cr s1 b)).set k.2.1 v)).T b).wh=some (5,t):=by rw[(gj _ _ _ _ _).1];exact J
  generalize hX:s1.dx b (cr s1 b) ((de s1 b (cr s1 b)).set k.2.1 v)=X at *;have e1:(X.dV 2 0 b).q 5 t=(X.dw b).q 5 t:=fL (X.dw b) (x:=2) (y:=0) (a:=5) (b:=t) ((X.dw b).q 2 0++[b]) (by omega);have e2:((X.eZ 5 t ((X.q 5 t).erase b)).dv b (X.T b).off).q 5 t=(X.q 5 t).erase b:=fX X 5 t _;rw[e1,fN a2,e2,<-hX];show(s1.q 5 t).erase b=l;rw[hq];simp
 refine⟨rfl,s1.fJ b v,m1.ready b (tr ρ v),g',by rw[h'.b,h1.b],h'.other hx.1 hx.2,by rw[Z,<-h0,hq];rfl,h1.trans h',W.fJ G u trivial k1 i2 hv,G.fJ H (λ_=>trivial) hv,(mH s1 b v).trans h4,?_,?_⟩
 .rw [(oX s1 b v).2.2.1];exact h5
 rw [Z,<-h6,hq];rfl
theorem JL{t kind:Nat}{x:Int}{v:B.V}(hP:PD p d)(h:dQ d m g w)(ht:fe s t)(hO:Ok p s)(hS:eK p K s (m.gone t kind x (tr ρ v)) ρ)(hv:v.1=0\/v∈s.kp)(hq:m.q.length<=1000000000)(he:m.ev.length<=100000): Calls prog 196 #[P0 g.mb,.int .i64 t,.int .i64 kind,.int .i64 x,vA (tr ρ v)] w λe w'=>e=.returned (.tuple #[])/\∃m' g',Tr d m g w m' g' w'/\eK p K (s.dR v (s.q 5 t)) m' ρ:=by
 obtain⟨i0,hi,bM,b8,bR⟩:=info_parts Tryz.qk;have a6:m.nt=s.nt:=hS.nt;have Z:mF m t:=by unfold mF;rw[a6];exact ht
 have hn:m.nt<1000000000:=by rw[a6];have:=hO.lw.d;omega
 have bI:m.gone t kind x (tr ρ v)=((m.dv t ((m.T t).end (tr ρ v))).eZ (m.q.filter (λu=>decide (u≠t)))).told kind t x:=rfl;obtain⟨k,rfl⟩:∃k,t=k+1:=⟨t-1,by omega⟩;obtain⟨tb,e1,hT,tc⟩:=h.tc Z;have c6:w.cell? ⟨g.mb,6,none⟩=some (.slice (some ⟨tb,0,none⟩) m.nt (g.ro 1 0).2):=by
  rw[show some (⟨tb,0,none⟩:Addr)=(g.ro 1 0).1 by rw[e1]];exact(h.mc 6 (by omega) rfl).1
 obtain⟨t0,z0⟩:=tc.c 0 (by omega);obtain⟨t1,z1⟩:=tc.c 1 (by omega);rw[Nat.add_zero,dC]at t0 z0;rw[dC]at t1 z1;have ne:=h.M.ne hT (by decide);have lr:=av w _ c6;have lt:=av w _ t1;have q5:=fp (n:=k) (by omega);have q7:(0:Int)<=k:=by omega
 have q8:(k:Int)<m.nt:=by omega
 have q6:IntKind.i64.wrap (k:Int)=k:=by rw[bl,bd _ (by omega)]
 have a3:=az (((h.JJ Z e1).kept (ah _ (.cells #[.int .i64 ((tr ρ v).1:Int),.int .i64 (tr ρ v).2] 115) none)));rw[dC]at a3;have b2:Hid (¬ey d (m.dv (k+1) ((m.T (k+1)).end (tr ρ v))) (g.at 5 (k+1) (none,0)) w.heap.size):=by
  have h1:=h.JJ Z e1;have h2:=h1.r.JK (t:=k+1) (tb:=tb) Z (by rw[qG g _ (by omega)];exact e1) (tr ρ v);rw[iT,fG]at h2;exact h2.r.fresh (by simp[World.setCell])
 have aO:=az e1;have HP:=az hP;have HO:=az hO;have HS:=az hS;have HV:=az hv;have HD:=az Z;have HN:=az ht;have bT:=az hq;have bB:=az he;clear h hP hO hS hv hq he bI tc hT Z a6 e1;go_in;go_wp2_with fail
 have a1:=bf ((w.setCell ⟨tb,k*8+1,none⟩ (.int .i64 5)).setCell ⟨tb,k*8,none⟩ (.slice none 0 0)) (.cells #[.int .i64 ((tr ρ v).1:Int),.int .i64 (tr ρ v).2] 115);have b7:((w.setCell ⟨tb,k*8+1,none⟩ (.int .i64 5)).setCell ⟨tb,k*8,none⟩ (.slice none 0 0)).heap.size=w.heap.size:=by simp[World.setCell]
 rw[b7]at a1;generalize (((w.setCell ⟨tb,k*8+1,none⟩ (.int .i64 5)).setCell ⟨tb,k*8,none⟩ (.slice none 0 0)).alloc (.cells #[.int .i64 ((tr ρ v).1:Int),.int .i64 (tr ρ v).2] 115))=w2 at *;clear t0 z0 t1 z1 c6 b7;have aI:Hid (mF (m.dv (k+1) (((m.T (k+1)).hw 5).kD [])) (k+1)):=HD.out;obtain⟨y,J,b9,aR⟩:=a3.out.r.tc aI.out;have bK:y=tb:=by
  rw[qG g _ (by omega)]at J;rw[aO.out]at J;injection J with J _;injection J with J;injection J with J _;exact J.symm
 subst bK;have c6:w2.cell? ⟨g.mb,6,none⟩=some (.slice (some ⟨y,0,none⟩) m.nt (g.ro 1 0).2):=(a3.out.r.mc 6 (by omega) (v:=.slice (some ⟨y,0,none⟩) m.nt (g.ro 1 0).2) (by
  show Value.slice ((g.at 5 (k+1) (none,0)).ro 1 0).1 _ ((g.at 5 (k+1) (none,0)).ro 1 0).2=_;rw[qG g _ (by omega),aO.out];rfl)).1
 obtain⟨t6,z6⟩:=aR.c 6 (by omega);obtain⟨t7,z7⟩:=aR.c 7 (by omega);rw[dC]at t6 z6 t7 z7;have bS:=av w2 _ c6;have HB:=az a1;have b0:w2.cell? ⟨w.heap.size,0,none⟩=some (.int .i64 ((tr ρ v).1:Int)):=by simp[World.cell?,a1]
 have b1:w2.cell? ⟨w.heap.size,1,none⟩=some (.int .i64 (tr ρ v).2):=by simp[World.cell?,a1]
 have n1:w.heap.size≠y:=by omega
 have aJ:=az (a3.out.trans (a3.out.r.JK (t:=k+1) (tb:=y) aI.out (by rw[qG g _ (by omega)];exact aO.out) (tr ρ v)));rw[dC]at aJ;generalize tC ((m.dv (k+1) (((m.T (k+1)).hw 5).kD [])).T (k+1)) (iR (m.dv (k+1) (((m.T (k+1)).hw 5).kD [])) (g.at 5 (k+1) (none,0)) 5 (k+1)) 6=o6 at t6;generalize tC ((m.dv (k+1) (((m.T (k+1)).hw 5).kD [])).T (k+1)) (iR (m.dv (k+1) (((m.T (k+1)).hw 5).kD [])) (g.at 5 (k+1) (none,0)) 5 (k+1)) 7=o7 at t7;clear b9 aR J a1;generalize aS:g.mb=rb at *;have a4:=az aS;clear aS;generalize (g.ro 1 0).2=a5 at *;have g1:∀{W:World} {o:Nat} {u:Value},W.cell? ⟨rb,6,none⟩=some (.slice (some ⟨y,0,none⟩) m.nt a5)->(W.setCell ⟨y,o,none⟩ u).cell? ⟨rb,6,none⟩=some (.slice (some ⟨y,0,none⟩) m.nt a5):=λhW=>(aw (a:=⟨rb,6,none⟩) (af _ _ _ _ ne)).trans hW;go_region_held3 (λw'=>w'.cell? ⟨rb,6,none⟩=some (.slice (some ⟨y,0,none⟩) m.nt a5)/\w'.cell? ⟨w.heap.size,0,none⟩=some (.int .i64 ((tr ρ v).1:Int))/\w'.cell? ⟨w.heap.size,1,none⟩=some (.int .i64 (tr ρ v).2)) (first|exact⟨c6,b0,b1⟩|(refine⟨?_,?_,?_⟩<;>(first|assumption|(simp[*,go_sem])))) (fail)
 have G:Hid (Tr d m g w (m.dv (k+1) ((m.T (k+1)).end (tr ρ v))) (g.at 5 (k+1) (none,0)) ((w2.setCell ⟨y,k*8+6,none⟩ (.int .i64 ((tr ρ v).1:Int))).setCell ⟨y,k*8+6+1,none⟩ (.int .i64 (tr ρ v).2)).drew):=by
  have h3:=aJ.out;rw[iT,fG]at h3;exact h3.kept (bq (ax _ none))
 have aX:Hid (((w2.setCell ⟨y,k*8+6,none⟩ (.int .i64 ((tr ρ v).1:Int))).setCell ⟨y,k*8+6+1,none⟩ (.int .i64 (tr ρ v).2)).drew.heap[w.heap.size]? = some (.cells #[.int .i64 ((tr ρ v).1:Int),.int .i64 (tr ρ v).2] 115 (0,0))):=by
  show(World.setCell _ _ _).heap[w.heap.size]? = _;rw[af _ _ _ _ n1,af _ _ _ _ n1];exact HB.out
 generalize ((w2.setCell ⟨y,k*8+6,none⟩ (.int .i64 ((tr ρ v).1:Int))).setCell ⟨y,k*8+6+1,none⟩ (.int .i64 (tr ρ v).2)).drew=w3 at *;clear aJ a3 aI HB t6 z6 t7 z7 c6 b0 b1 bS n1 g1 w2;have a2:=az (G.out.b.trans a4.out);have c7:w3.cell? ⟨rb,7,none⟩=some (.slice (g.ro 2 0).1 m.q.length (g.ro 2 0).2):=by
  have:=(G.out.r.mc 7 (by omega) (v:=.slice (g.ro 2 0).1 m.q.length (g.ro 2 0).2) (by
   show Value.slice ((g.at 5 (k+1) (none,0)).ro 2 0).1 _ ((g.at 5 (k+1) (none,0)).ro 2 0).2=_;rw[qG g _ (by omega)];rfl)).1
  rw[a2.out]at this;exact this
 have HQ:Hid (fM w3 3 (.slice (g.ro 2 0).1 m.q.length (g.ro 2 0).2) (iI m.q)):=by
  have:=G.out.r.Q;unfold iR at this;rw[qG g _ (by omega)]at this;exact this
 obtain⟨_,aZ⟩:=BH HQ.out;have aY:=az aZ;clear aZ;have l3:=av w3 _ c7;generalize (g.ro 2 0).1=qa at *;generalize (g.ro 2 0).2=qc at *;have c2:(m.q.length:Int)<=1000000000:=by have:=bT.out;omega
 go_wp2_with fail
 go_loopw [10,11] (λq i wr=>∃(I n c:Nat) (ad:Option Addr) (H:List Nat),q=.slice ad n c/\i=.int .i64 I/\I<=m.q.length/\n=H.length/\n<=I/\Hid (H=(m.q.take I).filter (λu=>decide (u≠k+1)))/\Hid (LH w3 wr ad n c H)) (λ_ i _=>m.q.length-(intOf i).toNat)
 case atStart=>exact⟨0,0,0,none,[],rfl,rfl,by omega,rfl,by omega,rfl,fM.nil _ _,(λk hk=>by cases hk),ax _ _⟩
 case round=>
  obtain⟨I,n,c,ad,H,rfl,rfl,hI,bA,bG,rX,rL⟩:=hrel;subst bA;obtain⟨L1,L2,L3⟩:=rL.out;have d7:=(bh L3 (a:=⟨rb,7,none⟩) l3).1.trans c7;by_cases a7:I<m.q.length
  .obtain ⟨b,off,rfl,bC,aV⟩:=aY.out (by intro e;rw[show m.q.length=(iI m.q).length from(iH _).symm,e]at a7;cases a7);obtain⟨a,ha⟩:∃a,m.q[I]? = some a:=⟨_,bn a7⟩;have dI:wr.cell? ⟨b,off+I,none⟩=some (.int .i64 a):=(bh L3 (a:=⟨b,off+I,none⟩) bC).1.trans (aV I _ (by unfold iI;rw[eo,ha];rfl));have a8:=xP (λu=>decide (u≠k+1)) ha
   have aK:=az L1;have aL:=az L2;have Y:=az L3;clear L1 L2 L3 rL aV;by_cases e:a=k+1
   .have KX:Hid (H=(m.q.take (I+1)).filter (λu=>decide (u≠k+1))):=by
     show _=_;rw[a8,aa (by simpa using e),eB];exact rX.out
    have KL:Hid (LH w3 wr ad H.length c H):=⟨aK.out,aL.out,Y.out⟩;clear a8 rX;go_wp2_with fail
    go_roundw
    case rel=>exact⟨I+1,H.length,c,ad,H,rfl,by go_num,by omega,rfl,by omega,KX,KL⟩
    case measure=>simp[intOf];omega
   have ei:¬((a:Int)=k+1):=by omega
   have KX:Hid (H++[a]=(m.q.take (I+1)).filter (λu=>decide (u≠k+1))):=by
    show _=_;rw[a8,aj (by simpa using e),<-rX.out]
   clear a8 rX;have bH:=iH H;go_wp2_with (at_builtin;refine gZ _ rfl (.tmp 56) (.tmp 64) 54 rfl 3 i0 _ 8 Tryz.g9 hi bM b8 bR rfl _ (iI H) rfl (aK.out.block ?cq) _ _ (.int .i64 a) rfl ?c1 rfl ?c3 ?c4 ?_)
   case cq=>intro j h;exact ak _ _ _ (aK.out.lt j h)
   try case c1=>simp[go_sem]
   try case c3=>unfold maxLen;omega
   try case c4=>omega
   intro gb aB c' w6 b4 a0 aC;have KL:Hid (LH w3 w6 (some ⟨gb,aB,none⟩) (H.length+1) c' (H++[a])):=by
    refine⟨?_,λj hj=>?_,?_⟩
    .rw [show iI (H++[a])=iI H++[iK (a:Int)] by unfold iI;rw[eP];rfl];exact b4
    .have bQ:j=gb:=by
      have:some gb=some j:=hj;injection this with this;exact this.symm
     subst bQ;rcases aC with h|h
     .rw [dr]at h;exact aL.out j h
     have:=Y.out.size;omega
    refine ⟨a0.os.trans Y.out.os,a0.tape.trans Y.out.tape,a0.output.trans Y.out.output,by have:=a0.size;have:=Y.out.size;simp at *;omega,λj hj _=>?_⟩;have bX:=Y.out.size;rw[a0.block j (by simp;omega) (λh=>by rw[dr]at h;have:=aL.out j h.symm;omega),ak _ _ _ (by omega)];exact Y.out.block j hj (by intro e;cases e)
   clear b4 a0 aC bH;go_wp2_with fail
   go_roundw
   case rel=>exact⟨I+1,H.length+1,c',some ⟨gb,aB,none⟩,H++[a],rfl,by go_num,by omega,by rw[bo];rfl,by omega,KX,KL⟩
   case measure=>simp[intOf];omega
  obtain rfl:I=m.q.length:=by omega
  have hX:H=m.q.filter (λu=>decide (u≠k+1)):=by have:=rX.out;rw[List.take_length]at this;exact this
  have HX:=az hX;clear hX;obtain⟨L1,L2,L3⟩:=rL.out;have aD:=G.out.kept L3;have z7:wr.frozen? ⟨rb,7,none⟩=false:=by
   have:=(aD.r.mc 7 (by omega) rfl).2;rw[a2.out]at this;exact this
  have aP:Tr d (m.dv (k+1) ((m.T (k+1)).end (tr ρ v))) (g.at 5 (k+1) (none,0)) w3 ((m.dv (k+1) ((m.T (k+1)).end (tr ρ v))).eZ H) ((g.at 5 (k+1) (none,0)).at 2 0 (ad,c)) (wr.setCell ⟨rb,7,none⟩ (.slice ad H.length c)):=by
   refine Tr.eZ (r:=(ad,c)) ((Tr.refl G.out.r).kept L3) (bm (S:=λk'=>k'=(g.at 5 (k+1) (none,0)).mb\/eO ((g.at 5 (k+1) (none,0)).ro 2 0).1=some k') (a:=⟨rb,7,none⟩) (dk _ _) (ag (ag a2.out.symm)) _) ?_ ?_ (λj hj=>ab ?_)
   .have:=aD.r.M.ep 7 (.slice ad H.length c);rw[a2.out]at this ⊢;exact this
   .exact L1.block (λj hj=>af _ _ _ _ (by
     rw[dr]at hj;have:=L2 j hj;show j≠rb;omega))
   exact ⟨G.out.r.fresh (L2 j hj),L2 j hj⟩
  obtain⟨b3,aA⟩:=aP.other aX.out b2.out;have aN:=az (G.out.trans aP);have aM:=az (ay b3 aA);have a9:Hid (((g.at 5 (k+1) (none,0)).at 2 0 (ad,c)).mb=rb):=a2.out;have aG:=az (B5 kind (k+1) x aN.out.r bB.out);rw[a9.out]at aG;clear aP L1 L2 L3 aD rL b3 aA rX c7 bG hI aY HQ a7;go_wp2_with fail
  generalize wr.setCell ⟨rb,7,none⟩ (.slice ad H.length c)=w4 at *;clear d7 z7;refine aG.out.mono ?_;rintro e w5 ⟨rfl,g5,aH⟩;have bO:Hid (w5.heap[w.heap.size]? = some (.cells #[.int .i64 ((tr ρ v).1:Int),.int .i64 (tr ρ v).2] 115 (0,0))/\¬ey d (m.gone (k+1) kind x (tr ρ v)) g5 w.heap.size):=by
   have h5:=aH.other aM.out.1 aM.out.2;rw[HX.out]at h5;exact h5
  have b6:Hid (Tr d m g w (m.gone (k+1) kind x (tr ρ v)) g5 w5):=by
   have h5:=aN.out.trans aH;rw[HX.out]at h5;exact h5
  have bD:=az b6.out.b;have aE:=az (zk (n:=(s.q 5 (k+1)).length) bD.out bO.out rfl b6.out HS.out HO.out rfl HN.out HV.out rfl);rw[a4.out]at aE;clear aH aG aN aM a9 G aX b2 a2;go_wp2_with fail
  refine aE.out.mono ?_;rintro e w6 ⟨b0,rfl,bL,aT⟩;have bP:=az aT;clear aT aE;go_wp2_with fail
  go_loopg [12] ((s.q 5 (k+1)).length) (λn b wr=>∃B:Nat,b=.int .i64 B/\B<=s.nt/\Hid (LC p d K s m g w ρ (k+1) v w.heap.size (.cells #[.int .i64 ((tr ρ v).1:Int),.int .i64 (tr ρ v).2] 115 (0,0)) n B wr))
  case atStart=>exact⟨b0,rfl,bL,bP⟩
  case round=>
   obtain⟨B,rfl,hB,rW⟩:=hrel;by_cases aW:B=0
   .subst aW;obtain⟨s1,m1,g1,_,_,k1,k2,k3,k4,_,k6,k7⟩:=rW.out;have aU:s1.q 5 (k+1)=[]:=by
     rcases k7 with k7|⟨l,hl⟩
     .exact k7.2
     exfalso
     have bN:fz s1 5 (k+1):=ab (ab (ab ⟨rfl,(eg k4).2 HN.out⟩));have:=(k3.lw.b 5 (k+1) bN 0 (by rw[hl];simp)).1.1;omega
    have HF:Hid (∃m' g',Tr d m g w m' g' wr/\eK p K (s.dR v (s.q 5 (k+1))) m' ρ):=by
     refine⟨m1,g1,k1,?_⟩;rw[<-k6,aU];exact k2
    clear k1 k2 k3 k4 k6 k7 aU rW;go_wp2_with fail
    go_end0;exact⟨rfl,HF.out⟩
   have bW:(0:Int)<B:=by omega
   have aQ:=az (Eg HP.out rW.out aW HN.out);rw[a4.out]at aQ;obtain⟨_,_,_,⟨hx,_⟩,_⟩:=rW.out;have b0:wr.cell? ⟨w.heap.size,0,none⟩=some (.int .i64 ((tr ρ v).1:Int)):=by simp[World.cell?,hx]
   have b1:wr.cell? ⟨w.heap.size,1,none⟩=some (.int .i64 (tr ρ v).2):=by simp[World.cell?,hx]
   clear hx rW;go_wp2_with fail
   refine aQ.out.mono ?_;rintro e w7 ⟨rfl,s1,m1,g1,j1,j2,j3,j4,j5,j6,j7,j8,j9⟩;have aF:=az (zk (n:=(s1.q 5 (k+1)).length) (j1.trans a4.out.symm) j2 rfl j4 j5 j6 j7 HN.out j8 j9);rw[a4.out]at aF;have bU:=az j3;clear j1 j2 j3 j4 j5 j6 j7 j8 j9 b0 b1 aQ;go_wp2_with fail
   refine aF.out.mono ?_;rintro e w8 ⟨B',rfl,bE,b5⟩;have bF:=az b5;clear b5 aF;go_wp2_with fail
   go_roundg ((s1.q 5 (k+1)).length)
   case rel=>exact⟨B',rfl,bE,bF⟩
   case measure=>have:=bU.out;omega
theorem Dy{rb k tb nt cap fb fc:Nat}{v0:Nat}{v1 x bk:Int}{R:World->Prop}(hk:k<nt)(hn:nt<1000000000)(J:w.cell? ⟨rb,6,none⟩=some (.slice (some ⟨tb,0,none⟩) nt cap))(u:w.cell? ⟨tb,k*8,none⟩=some (.slice (some ⟨fb,0,none⟩) 1 fc)/\w.frozen? ⟨tb,k*8,none⟩=false)(W:w.cell? ⟨fb,3,none⟩=some (.int .i64 bk))(Y:1<=fc)(n1:rb≠tb)(n2:tb≠fb)(hx:x=if 0<v0 then 0 else v1)(G:∀w1,((w.setCell ⟨tb,k*8,none⟩ (.slice (some ⟨fb,0,none⟩) 0 fc)).alloc (.cells #[.int .i64 v0,.int .i64 v1] 115)).grownBy w1 none->Calls prog 196 #[P0 rb,.int .i64 ((k:Int)+1),.int .i64 2,.int .i64 x,.agg #[.int .i64 v0,.int .i64 v1]] w1 λe w'=>e=.returned (.tuple #[])/\R w'): Calls prog 193 #[P0 rb,.int .i64 ((k:Int)+1),.agg #[.int .i64 v0,.int .i64 v1]] w λe w'=>e=.returned (.bool true)/\R w':=by
 obtain⟨u,z0⟩:=u;have lr:rb<w.heap.size:=av w _ J;have lt:tb<w.heap.size:=av w _ u;have lf:fb<w.heap.size:=av w _ W;have q5:=fp (n:=k) (by omega);have q7:(0:Int)<=k:=by omega
 have q8:(k:Int)<nt:=by omega
 have q9:(1:Int)<=fc:=by omega
 have y:=az G;by_cases H:0<v0
 .rw[aj H]at hx;subst hx
  go_in;go_wp2_with fail
  refine(y _ (ax _ _)).mono ?_;rintro e Z ⟨rfl,hR⟩;have o:=az hR;go_wp2_with fail
  go_ret;exact⟨rfl,o⟩
 rw[aa H]at hx;subst hx;have i:¬(0:Int)<v0:=by omega
 go_in;go_wp2_with fail
 refine(y _ (ax _ _)).mono ?_;rintro e Z ⟨rfl,hR⟩;have o:=az hR;go_wp2_with fail
 go_ret;exact⟨rfl,o⟩
theorem Bj{rb k tb nt cap fb fc n vb i rc a:Nat}{v0:Nat}{v1:Int}{Y H:Value}(hk:k<nt)(hn:nt<1000000000)(W:n<100)(G:w.cell? ⟨rb,6,none⟩=some (.slice (some ⟨tb,0,none⟩) nt cap))(y:w.cell? ⟨tb,k*8,none⟩=some (.slice (some ⟨fb,0,none⟩) (n+2) fc)/\w.frozen? ⟨tb,k*8,none⟩=false)(J:w.cell? ⟨fb,(n+1)*4+3,none⟩=some (.int .i64 a))(k1:w.cell? ⟨fb,n*4+1,none⟩=some (.slice (some ⟨vb,0,none⟩) i rc))(a0:n+2<=fc)(n1:rb≠tb)(n2:tb≠fb)(n3:tb≠vb)(n4:fb≠vb)(o:w.cell? ⟨vb,a*2,none⟩=some Y/\w.frozen? ⟨vb,a*2,none⟩=false)(u:w.cell? ⟨vb,a*2+1,none⟩=some H/\w.frozen? ⟨vb,a*2+1,none⟩=false)(ha:a<i): Calls prog 193 #[P0 rb,.int .i64 ((k:Int)+1),.agg #[.int .i64 v0,.int .i64 v1]] w λe w'=>e=.returned (.bool false)/\((((w.setCell ⟨tb,k*8,none⟩ (.slice (some ⟨fb,0,none⟩) (n+1) fc)).setCell ⟨vb,a*2,none⟩ (.int .i64 v0)).setCell ⟨vb,a*2+1,none⟩ (.int .i64 v1)).alloc (.cells #[.int .i64 v0,.int .i64 v1] 115)).grownBy w' none:=by
 obtain⟨y,z0⟩:=y;obtain⟨Z,z8⟩:=o;obtain⟨v9,z9⟩:=u;have lr:rb<w.heap.size:=av w _ G;have lt:tb<w.heap.size:=av w _ y;have lf:fb<w.heap.size:=av w _ J;have lv:vb<w.heap.size:=av w _ Z;have q5:=fp (n:=k) (by omega);have q7:(0:Int)<=k:=by omega
 have q8:(k:Int)<nt:=by omega
 have p1:IntKind.i64.wrap ((n:Int)+2-1)=(n:Int)+1:=by rw[bl,bd _ (by omega)];omega
 have p2:IntKind.i64.wrap ((n:Int)+1-1)=(n:Int):=fp (by omega);have p3:(0:Int)<=n+1:=by omega
 have p4:(n:Int)+1<(n:Int)+2:=by omega
 have p5:(n:Int)+1<=(fc:Int):=by omega
 have p6:(0:Int)<=n:=by omega
 have p7:(n:Int)<n+1:=by omega
 have p8:¬((n:Int)+1=0):=by omega
 have p9:(a:Int)<i:=by omega
 have m1:¬(w.heap.size=tb):=by omega
 have m2:¬(w.heap.size=vb):=by omega
 go_in;go_wp2_with fail
 go_region
 all_goals
  go_wp2_with fail
  go_ret;refine⟨rfl,?_⟩;first
   | exact ax _ _
   | exact bq (ax _ _)
   | exact db (ax _ _) _
   | exact⟨rfl,rfl,rfl,bj _,λ_ _ _=>rfl⟩
theorem JU{p:Dp}(m:Dm)(g:Dg)(t i:Nat):(ok p m g 6 t i).bs (g.rb t i):=rfl
theorem wH{p:dz}{s:Pl}{X:Nat->Prop}{ρ:Nat->Nat}{v:B.V}(u:fS p s X)(hS:eK p K s m ρ)(o:dN p s v):((tr ρ v).1=0↔v.1=0)/\(if 0<(tr ρ v).1 then(0:Int) else(tr ρ v).2)=v.2:=by
 by_cases e:v.1=0
 .rw[om e];exact⟨Iff.rfl,by rw[aa (by omega)]⟩
 have y:=(hS.C v.1 (B.oH.vi o e)).c1;have i:=u.Ay o;rw[oZ e];refine⟨⟨λh=>?_,λh=>ch h e⟩,?_⟩
 .omega
 show(if 0<ρ v.1 then(0:Int) else 0)=v.2;rcases i with h|h
 .exact ch h e
 rw[h.2.2.2];split<;>rfl
theorem Ae{v:B.V}(s:Pl)(t kind:Nat)(x:Int):v.1=0\/v∈(s.gone t v kind x).kp:=by
 rw[(gV s t v kind x).2.2.1];by_cases e:v.1=0
 .exact ag e
 exact ab (jK e)
theorem eK.small(hS:eK p K s m ρ)(e:Ok p s):m.nt<1000000000/\m.q.length<=1000000000:=by
 refine⟨by rw[hS.nt];have:=e.lw.d;omega,?_⟩;rw[hS.q];have:=e.lw.len (x:=2) (y:=0) (ag ⟨rfl,rfl⟩);omega
theorem Ga{t:Nat}{v:B.V}(hP:PD p d)(h:dQ d m g w)(hS:eK p K s m ρ)(J:Ok p s)(G:t∈s.lv)(hw:(s.T t).wh=none)(hv:dN p s v)(he:m.ev.length<=100000): Calls prog 193 #[P0 g.mb,.int .i64 t,vA (tr ρ v)] w λe w'=>e=.returned (.bool (decide (cr s t=0)))/\∃m' g',Tr d m g w m' g' w'/\eK p K (s.back t v) m' ρ:=by
 have ht:=J.lt t G;have o:=(iw hS t).2 ht;have Y:=hS.T t G;have hF:=J.fw t G trivial;obtain⟨hn,hq⟩:=hS.small J;have aA:pQ m t=cr s t:=by unfold pQ cr;rw[Y.l]
 obtain⟨tb,fb,n,T⟩:=h.top o (by rw[Y.l];exact λe=>hF.n1 (cf.1 e));have H:cr s t=n:=by unfold cr;rw[<-Y.l,T.l];omega
 obtain⟨Z,f0,f1,f2,f3⟩:=h.F o (by rw[T.l];omega);have a9:n+1<=(g.ro 5 t).2:=by rw[T.l]at f1;exact f1
 have a7:m.dv t ((m.T t).kD ((m.T t).fr.take n))=m.pop t:=by unfold Dm.pop;rw[List.dropLast_eq_take,T.l];rfl
 have y:=h.shrink o T.b (j:=n) (by rw[T.l];omega) (r:=g.ro 5 t) (ag rfl);rw[a7]at y;have aD:Value.slice (g.ro 5 t).1 n (g.ro 5 t).2=.slice (some ⟨fb,0,none⟩) n (g.ro 5 t).2:=by rw[T.a]
 rw[aD]at y;have a0:w.frozen? ⟨tb,(t-1)*8,none⟩=false:=by
  obtain⟨aC,e1,_,tc⟩:=h.tc o;have:aC=tb:=by
   have:=T.b;rw[e1]at this;injection this with this _;injection this with this;injection this with this _
  subst this;exact(tc.c 0 (by omega)).2
 obtain⟨k,rfl⟩:∃k,t=k+1:=⟨t-1,by omega⟩;rw[dC]at a0 y;have t0:=T.t0;rw[dC]at t0;have a6:k<m.nt:=by omega
 by_cases h0:cr s (k+1)=0
 .have aF:n=0:=by omega
  subst aF;rw[fh h0];have k3:=T.k3;rw[Nat.zero_mul,Nat.zero_add]at k3;refine(Dy (x:=v.2) (R:=λw'=>∃m' g',Tr d m g w m' g' w'/\eK p K (s.back (k+1) v) m' ρ) a6 hn T.c6 ⟨t0,a0⟩ k3 a9 T.n3 T.n2 (wH J hS hv).2.symm (λw1 aE=>?_)).mono ?_
  .have a4:=(y.kept (ah _ _ none)).kept aE;have hg:Ok p (s.gone (k+1) v 2 v.2):=J.gone G hv 2 v.2 (λ_ _ h=>h);have aN:k+1∉(s.gone (k+1) v 2 v.2).lv:=by rw[(gV s (k+1) v 2 v.2).1,J.nd.mem_erase_iff];exact λh=>h.1 rfl
   have a8:Ok p ((s.gone (k+1) v 2 v.2).pop (k+1)):=(hg.pop (by rw[oi,jd]) (λu hu=>⟨trivial,ag hu⟩)).Gt (λu hu _ e=>aN (e▸hu));rw[<-px hw]at a8;refine(JL (t:=k+1) (kind:=2) (x:=v.2) (v:=v) hP a4.r ((eg (iO (s.pop (k+1)) (k+1) v 2 v.2)).2 ht) a8 (hS.Jx (kind:=2) (x:=v.2) J G hw hv) (Ae (s.pop (k+1)) (k+1) 2 v.2) hq he).mono ?_;rintro e w' ⟨rfl,m',g',h1,h2⟩;refine⟨rfl,m',g',a4.trans h1,?_⟩;have hb:s.back (k+1) v=((s.pop (k+1)).gone (k+1) v 2 v.2).dR v (((s.pop (k+1)).gone (k+1) v 2 v.2).q 5 (k+1)):=by
    unfold Pl.back Pl.leave;rw[aj h0,yS (J.lw.pop (k+1)) ht]
   rw[hb];exact h2
  rintro e w' ⟨rfl,hR⟩;exact⟨rfl,hR⟩
 obtain⟨j,rfl⟩:∃j,n=j+1:=⟨n-1,by omega⟩;rw[fi h0];have a1:j<(m.T (k+1)).fr.length:=by rw[T.l];omega
 have W:j<(s.T (k+1)).fr.length:=by rw[<-Y.l];exact a1
 have a3:=h.R o a1;have aH:Z=fb:=by rw[T.a]at f0;injection f0 with f0;injection f0 with f0 _;exact f0.symm
 subst aH;have a2:=f3.cell (j*4+1) (by rw[T.l];omega);rw[tA d m g (k+1) (by omega)]at a2;have v6:=Az (p:=d) (m:=m) o.1 o.2 a1;have aP:(ok d m g 5 (k+1) 0).bs Z:=by
  show eO (g.ro 5 (k+1)).1=some Z;rw[T.a];rfl
 have aJ:(fj m (k+1) (j+1)).bk.2.1=(bw s (k+1)).bk.2.1:=by
  have:=(Y.f (cr s (k+1)) (by unfold cr;omega)).bk h0;rw[H]at this;unfold bw;rw[H];exact this
 have aB:(fj m (k+1) (j+1)).bk.2.1<d.rg (fj m (k+1) j).f:=by
  rw[aJ,show(fj m (k+1) j).f=(de s (k+1) j).f from(Y.f j W).f,hP.rg (de s (k+1) j).f (hF.f j W).1];have:=hF.b j (by rw[<-Y.l,T.l];omega);unfold bw;rw[H];exact this
 refine(Bj a6 hn (by have:=hF.n2;rw[<-Y.l,T.l]at this;omega) T.c6 ⟨t0,a0⟩ T.k3 a2 a9 T.n3 T.n2 (h.ne (m6 (by omega)) v6 ((Bw d m T.b tb).2 rfl) (JU m g _ _) (by omega)) (h.ne (pX (p:=d) (m:=m) o.1 o.2) v6 aP (JU m g _ _) (by omega)) (a3.cells _ (by omega)) (a3.cells _ (by omega)) aB).mono ?_;rintro e w' ⟨rfl,hg⟩;have a5:((m.pop (k+1)).T (k+1)).fr=(m.T (k+1)).fr.dropLast:=by unfold Dm.pop;rw[fG];rfl
 have aI:fj (m.pop (k+1)) (k+1) j=fj m (k+1) j:=by
  unfold fj;rw[a5];exact lP (by rw[T.l];omega)
 refine⟨rfl,_,_,((y.trans (y.r.wP (t:=k+1) (i:=j) o (by rw[a5,ef,T.l];omega) (fj m (k+1) (j+1)).bk.2.1 (tr ρ v))).kept (ah _ _ none)).kept hg,?_⟩;have h4:=hS.back G h0 hv;rw[aI];have aM:pR m (k+1)=fj m (k+1) (j+1):=by unfold pR;rw[aA,H]
 rw[aA,H,aM]at h4;exact h4
end D
namespace D
open F
variable {p : Dp} {m m' : Dm} {g g' : Dg} {w w' : World}
abbrev jY(op a b c:Nat):Value:=.agg #[.int .i64 (op:Int),.int .i64 (a:Int),.int .i64 (b:Int),.int .i64 (c:Int)]
theorem Iz{rb nr:Nat}{R:Nat->B.V}(h:Full w rb 115 (nr*2) (nr*2) (eC R)){a:Nat}(o:a<nr):w.cell? ⟨rb,a*2,none⟩=some (.int .i64 ((R a).1:Int))/\w.cell? ⟨rb,a*2+1,none⟩=some (.int .i64 (R a).2)/\w.frozen? ⟨rb,a*2,none⟩=false/\w.frozen? ⟨rb,a*2+1,none⟩=false:=by
 obtain⟨c0,e⟩:=h.cells (a*2) (by omega);obtain⟨c1,i⟩:=h.cells (a*2+1) (by omega);unfold eC at c0 c1;rw[aj (by omega),show a*2 / 2=a by omega]at c0;rw[aa (by omega),show(a*2+1) / 2=a by omega]at c1;exact⟨c0,c1,e,i⟩
theorem dQ.cc(h:dQ p m g w){c:Nat}(H:1<=c)(G:c<=m.nc):∃e,(g.ro 3 0).1=some ⟨e,0,none⟩/\e<w.heap.size/\w.cell? ⟨g.mb,12,none⟩=some (.slice (some ⟨e,0,none⟩) m.nc (g.ro 3 0).2)/\w.cell? ⟨e,(c-1)*2,none⟩=some (.slice (some ⟨g.sb c,0,none⟩) (m.M c).length (m.M c).length)/\w.cell? ⟨e,(c-1)*2+1,none⟩=some (.int .i64 ((m.ck c:Int)-1)):=by
 obtain⟨b,o,u,y,i⟩:=h.C (by omega);have k0:=i.cell ((c-1)*2) (by omega);have k1:=i.cell ((c-1)*2+1) (by omega);unfold cE at k0 k1;rw[aj (by omega),show(c-1)*2 / 2+1=c by omega]at k0;rw[aa (by omega),show((c-1)*2+1) / 2+1=c by omega]at k1;refine⟨b,o,i.lt,?_,k0,k1⟩;rw[<-o];exact(h.mc 12 (by omega) rfl).1
theorem Cr{rb t i nr op a b c:Nat}{v1:Int}(J:b<nr)(r0:w.cell? ⟨i,b*2,none⟩=some (.int .i64 0))(W:w.cell? ⟨i,b*2+1,none⟩=some (.int .i64 v1)): Calls prog 227 #[P0 rb,.int .i64 t,.slice (some ⟨i,0,none⟩) nr nr,jY op a b c] w λe w'=>e=.returned (.int .i64 4)/\w.grownBy w' none:=by
 have G:i<w.heap.size:=av w _ r0;have y:(b:Int)<nr:=by omega
 go_in;go_wp2_with fail
 have u:Hid (w.grownBy ((w.alloc (.cells #[.int .i64 op,.int .i64 a,.int .i64 b,.int .i64 c] 90)).alloc (.cells #[.int .i64 0,.int .i64 v1] 115)) none):=au (au (ax _ _) _) _;have H:((w.alloc (.cells #[.int .i64 op,.int .i64 a,.int .i64 b,.int .i64 c] 90)).alloc (.cells #[.int .i64 0,.int .i64 v1] 115)).cell? ⟨w.heap.size+1,0,none⟩=some (.int .i64 0):=by simp[go_sem]
 generalize (w.alloc (.cells #[.int .i64 op,.int .i64 a,.int .i64 b,.int .i64 c] 90)).alloc (.cells #[.int .i64 0,.int .i64 v1] 115)=w2 at *;go_quiet (fail)
 go_wp2_with fail
 go_ret;exact⟨rfl,db u _⟩
structure LN(w:World) (rb rr nr b c z cb nc cc sN sl:Nat) (v1 u1:Int) (x y:B.V):Prop where
 hb:b<nr
 hc:c<nr
 hz:z<nc
 hn:nc<1000000000
 r0:w.cell? ⟨rr,b*2,none⟩=some (.int .i64 ((z:Int)+1))
 r1:w.cell? ⟨rr,b*2+1,none⟩=some (.int .i64 v1)
 BL:w.cell? ⟨rb,12,none⟩=some (.slice (some ⟨cb,0,none⟩) nc cc)
 k0:w.cell? ⟨cb,z*2,none⟩=some (.slice (some ⟨sN,0,none⟩) sl sl)
 k1:w.cell? ⟨cb,z*2+1,none⟩=some (.int .i64 u1)
 lr:rr<w.heap.size
 lb:rb<w.heap.size
 lc:cb<w.heap.size
theorem Cq{rb t o nr op a b c z cb H cc sN sl:Nat}{v1 G:Int}{x y:B.V}(h:LN w rb o nr b c z cb H cc sN sl v1 G x y)(hu:G<0): Calls prog 227 #[P0 rb,.int .i64 t,.slice (some ⟨o,0,none⟩) nr nr,jY op a b c] w λe w'=>e=.returned (.int .i64 4)/\w.grownBy w' none:=by
 obtain⟨hb,hc,hz,hn,W,r1,i,k0,k1,lr,Z,Y⟩:=h;have a0:(b:Int)<nr:=by omega
 have q1:IntKind.i64.wrap ((z:Int)+1-1)=(z:Int):=fp (by omega);have q2:IntKind.i64.wrap (z:Int)=z:=by rw[bl,bd _ (by omega)]
 have q3:(z:Int)<H:=by omega
 have q4:(0:Int)<=z:=by omega
 have q5:(((z:Int)+1) == 0)=false:=by rw[dK];omega
 go_in;go_wp2_with fail
 have u:Hid (w.grownBy ((w.alloc (.cells #[.int .i64 op,.int .i64 a,.int .i64 b,.int .i64 c] 90)).alloc (.cells #[.int .i64 ((z:Int)+1),.int .i64 v1] 115)) none):=au (au (ax _ _) _) _;have x0:((w.alloc (.cells #[.int .i64 op,.int .i64 a,.int .i64 b,.int .i64 c] 90)).alloc (.cells #[.int .i64 ((z:Int)+1),.int .i64 v1] 115)).cell? ⟨w.heap.size+1,0,none⟩=some (.int .i64 ((z:Int)+1)):=by simp[go_sem]
 generalize (w.alloc (.cells #[.int .i64 op,.int .i64 a,.int .i64 b,.int .i64 c] 90)).alloc (.cells #[.int .i64 ((z:Int)+1),.int .i64 v1] 115)=w2 at *;have a1:=(bh u (a:=⟨rb,12,none⟩) Z).1.trans i;have d1:=(bh u (a:=⟨cb,z*2+1,none⟩) Y).1.trans k1;go_quiet (fail)
 go_wp2_with fail
 go_ret;exact⟨rfl,db u _⟩
structure Kl(w w2:World) (rb rr op a b c z cb nc cc sN sl:Nat) (v1 u1:Int):Prop where
 g:w.grownBy w2 none
 i0:w2.cell? ⟨w.heap.size,0,none⟩=some (.int .i64 (op:Int))
 i1:w2.cell? ⟨w.heap.size,1,none⟩=some (.int .i64 (a:Int))
 i3:w2.cell? ⟨w.heap.size,3,none⟩=some (.int .i64 (c:Int))
 x0:w2.cell? ⟨w.heap.size+1,0,none⟩=some (.int .i64 ((z:Int)+1))
 d12:w2.cell? ⟨rb,12,none⟩=some (.slice (some ⟨cb,0,none⟩) nc cc)
 d0:w2.cell? ⟨cb,z*2,none⟩=some (.slice (some ⟨sN,0,none⟩) sl sl)
 d1:w2.cell? ⟨cb,z*2+1,none⟩=some (.int .i64 u1)
 s:w.heap.size+1<w2.heap.size
theorem Kl.drewN{w2:World}{rb e op a b c z cb u cc o sl:Nat}{v1 i:Int}(h:Kl w w2 rb e op a b c z cb u cc o sl v1 i)(n:Nat):Kl w (w2.drewN n) rb e op a b c z cb u cc o sl v1 i:=⟨db h.g n,h.i0,h.i1,h.i3,h.x0,h.d12,h.d0,h.d1,h.s⟩
theorem Mr{rb i nr op a b c z cb u cc G sl:Nat}{v1 o:Int}{x y:B.V}(h:LN w rb i nr b c z cb u cc G sl v1 o x y):Kl w ((w.alloc (.cells #[.int .i64 op,.int .i64 a,.int .i64 b,.int .i64 c] 90)).alloc (.cells #[.int .i64 ((z:Int)+1),.int .i64 v1] 115)) rb i op a b c z cb u cc G sl v1 o:=by
 have e:w.grownBy ((w.alloc (.cells #[.int .i64 op,.int .i64 a,.int .i64 b,.int .i64 c] 90)).alloc (.cells #[.int .i64 ((z:Int)+1),.int .i64 v1] 115)) none:=au (au (ax _ _) _) _;exact⟨e,by simp[go_sem],by simp[go_sem],by simp[go_sem],by simp[go_sem],(bh e (a:=⟨rb,12,none⟩) h.lb).1.trans h.BL,(bh e (a:=⟨cb,z*2,none⟩) h.lc).1.trans h.k0,(bh e (a:=⟨cb,z*2+1,none⟩) h.lc).1.trans h.k1,by simp⟩
def L4(w2 wx:World)(X sN sl:Nat)(u1:Int):Prop:=w2.grownBy wx none/\wx.cell? ⟨X,0,none⟩=some (.slice (some ⟨sN,0,none⟩) sl sl)/\wx.cell? ⟨X,1,none⟩=some (.int .i64 u1)/\w2.heap.size<=X
theorem Mq(e:World)(o sl:Nat)(i:Int):L4 e ((e.alloc (.cells #[.slice (some ⟨o,0,none⟩) sl sl,.int .i64 i] 233)).drew) e.heap.size o sl i:=
 ⟨bq (ah _ _ none),(by simp[go_sem]),(by simp[go_sem]),bj _⟩
theorem Tryz.Fe:(prog.info? 163).map (λi=>(i.zero,i.size,i.bytes))=some (some (.agg #[.int .i64 0,.slice none 0 0,.int .i64 0,.int .i64 0]),4,48):=by kernel_rfl
theorem Tryz.underlying165:prog.underlying 165=some (.slice 163):=by kernel_rfl
theorem GY{t b tb kb ck:Nat}{o2:Obj}{w2 w6 W:World}{f:gY}(h:dQ p m g w)(ht:mF m t)(hb:g.ro 1 0=(some ⟨tb,0,none⟩,(g.ro 1 0).2))(hg:w.grownBy w2 none)(hV:Full w2 b 115 (p.rg f.f*2) (p.rg f.f*2) (eC f.R))(a5:w.heap.size<=b)(ho:w6.ownsRow 0 163 4 (.slice (some ⟨kb,0,none⟩) ((m.T t).fr.length+1) ck) ((m.T t).fr.length+1) (rowP ((m.T t).fr.length*4) (fE p m g t)++[fC p f b 0,fC p f b 1,fC p f b 2,fC p f b 3]))(o:W.grownBy w6 (Value.slice (g.ro 5 t).1 (m.T t).fr.length (g.ro 5 t).2).ownBlock)(a6:jE W.heap.size (.slice (g.ro 5 t).1 (m.T t).fr.length (g.ro 5 t).2) (.slice (some ⟨kb,0,none⟩) ((m.T t).fr.length+1) ck))(hW:W.heap=(w2.alloc o2).heap)(Y:W.os=w2.os/\W.tape=w2.tape/\W.output=w2.output): ∃g1,Tr p m g w (m.push t f) g1 (w6.setCell ⟨tb,(t-1)*8,none⟩ (.slice (some ⟨kb,0,none⟩) ((m.T t).fr.length+1) ck)):=by
 have:=ht.1;have:=ht.2;have a2:(Value.slice (g.ro 5 t).1 (m.T t).fr.length (g.ro 5 t).2).ownBlock=eO (g.ro 5 t).1:=dr _ _ _;rw[a2]at o;have a8:W.heap.size=w2.heap.size+1:=by rw[hW];simp
 obtain⟨u,i,h1,a7,h3⟩:=(h.kept hg).T (by omega);have a4:u=tb:=by rw[hb]at i;injection i with i;injection i with i _;exact i.symm
 subst a4;have v5:=pX (p:=p) (m:=m) ht.1 ht.2;have G:∀k,eO (g.ro 5 t).1=some k->k<w.heap.size/\k≠u:=λk H=>⟨h.lt ⟨5,t,0,by rw[fP v5];exact H⟩,h.ne (x:=5) (y:=t) (z:=0) (x':=1) (y':=0) (z':=0) v5 rfl H ((Bw p m hb u).2 rfl) (by omega)⟩;have a9:=hg.size;have Z:∀k,k<w2.heap.size->eO (g.ro 5 t).1≠some k->w6.heap[k]? = w2.heap[k]?:=λk H hn=>by
  rw[o.block k (by omega) (λe=>hn e.symm),hW,ak _ _ _ H]
 have a0:=h3.block (Z u h3.lt (λe=>(G _ e).2 rfl));have a1:=hV.block (Z b hV.lt (λe=>by have:=(G _ e).1;omega));have J:eO (g.ro 5 t).1=some kb\/W.heap.size<=kb:=by
  rcases a6 with e|⟨u,e1,e2⟩
  .left
   rw[<-a2,<-e];rfl
  right
  have:kb=u:=by injection e1
  omega
 have aA:=h.lt ⟨1,0,0,(Bw p m hb u).2 rfl⟩;have a3:kb≠u:=by
  rcases J with e|e
  .exact(G _ e).2
  omega
 refine⟨_,h.push ht (tb:=u) (kb:=kb) (ck:=ck) (vb:=b) (f:=f) hb (bm (S:=λk=>k=u\/eO (g.ro 5 t).1=some k) (a:=⟨u,(t-1)*8,none⟩) ⟨o.os.trans (Y.1.trans hg.os),o.tape.trans (Y.2.1.trans hg.tape),o.output.trans (Y.2.2.trans hg.output),by have:=o.size;omega,λk H hn=>(Z k (by omega) (λe=>hn (ab e))).trans (hg.block k H (by intro e;cases e))⟩ (ag (ag rfl)) _) (a0.ep _ _) ?_ ?_ (J.imp id (λe=>by omega)) a5 ?_⟩
 .exact dD ho (λk H=>af _ _ _ _ (by
   have:k=kb:=by simpa[Value.ownBlock] using H.symm
   rw[this];exact a3))
 .exact a1.off (a1.ne a0 (by decide))
 rcases J with e|e
 .have:=(G _ e).1;omega
 have:=hV.lt;omega
def LM(wc wx:World)(Y b f into nr:Nat)(x y:B.V):Prop:=wc.grownBy wx none/\wx.heap[Y]? = some (.cells #[.int .i64 (f:Int),.slice (some ⟨b,0,none⟩) nr nr,.int .i64 0,.int .i64 (into:Int)] 163 (0,0))/\wc.heap.size<=b/\wc.heap.size<=Y/\Full wx b 115 (nr*2) (nr*2) (eC (gh x y))
theorem Lr{wc e:World}{b f into nr:Nat}{x y:B.V}(o:wc.grownBy e none)(i:Full e b 115 (nr*2) (nr*2) (eC (gh x y)))(u:wc.heap.size<=b):LM wc (e.alloc (.cells #[.int .i64 f,.slice (some ⟨b,0,none⟩) nr nr,.int .i64 0,.int .i64 into] 163)) e.heap.size b f into nr x y:=
 ⟨au o _,bf _ _,u,o.size,i.block (ak _ _ _ i.lt)⟩
theorem Lp{wc e:World}{b f into nr:Nat}{x y:B.V}(u:wc.grownBy e none)(i:Full e b 115 (nr*2) (nr*2) (eC (gh x y)))(G:wc.heap.size+1<=b)(o:e.heap[wc.heap.size]? = some (.cells #[.int .i64 0,.slice none 0 0,.int .i64 0,.int .i64 0] 163 (0,0))):LM wc ((((e.setCell ⟨wc.heap.size,0,none⟩ (.int .i64 f)).setCell ⟨wc.heap.size,1,none⟩ (.slice (some ⟨b,0,none⟩) nr nr)).setCell ⟨wc.heap.size,2,none⟩ (.int .i64 0)).setCell ⟨wc.heap.size,3,none⟩ (.int .i64 into)) wc.heap.size b f into nr x y:=by
 refine⟨bp (bp (bp (bp u (ab (bj _)) _) (ab (bj _)) _) (ab (bj _)) _) (ab (bj _)) _,?_,by omega,bj _,(((i.off (by omega)).off (by omega)).off (by omega)).off (by omega)⟩;simp[World.setCell,cn,o]
end D
namespace D
open F
variable {p : dz} {K K' : Nat} {s s' : Pl} {m m' : Dm} {ρ : Nat → Nat} {X : Nat → Prop}
theorem vS(s:Pl)(f:Nat)(u v:B.V){t:Nat}(h:t≠s.nt+1):(s.born f u v).T t=s.T t:=by
 unfold Pl.born;rw[oh _ h,oN _ _ h];exact mi s h
theorem FF(s:Pl)(f:Nat)(u v:B.V):((s.born f u v).T (s.nt+1)).fr=[⟨f,0,gh u v,(0,0,0,0)⟩]/\((s.born f u v).T (s.nt+1)).wh=some (2,0):=by
 unfold Pl.born;refine⟨?_,xB _ _ _ _⟩;rw[nO];show((Pl.dw _ _).T _).fr=_;rw[ku,rm];show((s.new).T (s.nt+1)).fr++_=_;rw[lM];rfl
theorem DV(s:Pl)(f:Nat)(u v:B.V)(a b:Nat):(s.born f u v).q a b=if a=2/\b=0 then s.q 2 0++[s.nt+1] else if a=5/\b=s.nt+1 then[] else s.q a b:=by
 unfold Pl.born;have hw:((s.more.push (s.nt+1) ⟨f,0,gh u v,(0,0,0,0)⟩).T (s.nt+1)).wh=none:=by
  rw[(rk _ _ _ _).1];show((s.new).T (s.nt+1)).wh=none;rw[lM];rfl
 show((Pl.dw _ _).eZ 2 0 _).q a b=_;rw[gd hw];by_cases e:a=2/\b=0
 .rw[aj e,e.1,e.2,fX];rfl
 rw[aa e,fL _ _ e];rfl
theorem eK.born(h:eK p K s m ρ){f:Nat}{u v:B.V}(hO:fS p s X)(a6:s.lv.length<p.mt)(hu:dN p s u)(hv:dN p s v):eK p K (s.born f u v) (m.born f (tr ρ u) (tr ρ v)) ρ:=by
 obtain⟨b1,b2,b3,b4⟩:=Ap s f u v;have W:(s.born f u v).nt=s.nt+1:=by unfold Pl.born;rw[iX];rfl
 obtain⟨j1,j2,j3,j4,j5,j6,j7,j8,j9,a5⟩:=iW (s.more.push (s.nt+1) ⟨f,0,gh u v,(0,0,0,0)⟩) 2 0 (s.nt+1);have a1:(s.born f u v).out=s.out++[(0,0)]:=j2;have a4:∀t,t∈s.lv->t≠s.nt+1:=λt ht e=>by have:=(hO.lt t ht).2;omega
 have J:∀t,t≠s.nt+1->(m.born f (tr ρ u) (tr ρ v)).T t=m.T t:=λt e=>aa (by rw[h.nt];exact e);have Z:(m.born f (tr ρ u) (tr ρ v)).T (s.nt+1)=⟨[⟨f,0,gh (tr ρ u) (tr ρ v),(0,0,0,0)⟩],1,0,0,0,0,(0,0)⟩:=aj (by rw[h.nt]);have H:=FF s f u v;have a0:∀t,t<=s.nt->1<=t->m9 (s.born f u v) t=m9 s t:=λt ht h1=>by
  unfold m9;rw[a1,ar,du (by rw[hO.ol];omega),<-ar]
 have hg:∀x,qw p (s.born f u v) x->dN p s x:=by
  rintro x (⟨c,i,a,o,hi,ha,e⟩|Y)
  .rw[b1]at o;by_cases ec:c=s.nt+1
   .subst ec;have h0:i=0:=by rw[H.1]at hi;simpa using hi
    subst h0;have hf:de (s.born f u v) (s.nt+1) 0=⟨f,0,gh u v,(0,0,0,0)⟩:=by unfold de;rw[H.1];rfl
    rw[hf]at e;rw[<-e];exact pn hu hv a
   have a3:c∈s.lv:=by
    rcases di.1 o with o|o
    .exact o
    exact ch (dL.1 o) ec
   have hf:de (s.born f u v) c i=de s c i:=gJ (by rw[vS s f u v ec]);rw[hf]at ha e;rw[vS s f u v ec]at hi;exact dN.root (ag ⟨c,i,a,a3,hi,ha,e⟩)
  rw[b3]at Y;exact dN.root (ab Y)
 obtain⟨k1,k2⟩:=h.cells (s':=s.born f u v) (m':=m.born f (tr ρ u) (tr ρ v)) b4 j8 hg ⟨rfl,rfl,rfl⟩;refine⟨by rw[W];show m.nt+1=_;rw[h.nt],?_,by show m.jo=_;rw[h.Ee];exact j4.symm,by show m.sp=_;rw[h.sp];exact a5.symm,by show m.ev=_;rw[h.ev];exact j9.symm,by show m.eY=_;rw[h.ck];exact j5.symm,λt ht=>?_,λt ht hn=>?_,k1,k2,λx Y=>?_,λa b G Y=>?_,λt ht=>?_,h.A,by rw[b1,bo];exact a6,h.B⟩
 .show m.q++[m.nt+1]=_;rw[DV,aj ⟨rfl,rfl⟩,h.q,h.nt]
 .rw[b1]at ht;by_cases e:t=s.nt+1
  .subst e;rw[Z];refine⟨by rw[H.1];rfl,λi hi=>?_,rfl,⟨λ_=>rfl,λ_ _=>rfl,λy e=>?_,λy e=>?_,λy e=>?_⟩⟩
   .rw[H.1]at hi ⊢;have h0:i=0:=by simpa using hi
    subst h0;refine⟨rfl,rfl,λe=>ch rfl e,λk _=>?_⟩;show gh (tr ρ u) (tr ρ v) k=tr ρ (gh u v k);unfold gh;split
    .rfl
    split
    .rfl
    rfl
   all_goals
    rw[H.2]at e;injection e with e;injection e with e _;exact ch e (by decide)
  rw[vS s f u v e,J t e];refine h.T t ?_;rcases di.1 ht with ht|ht
  .exact ht
  exact ch (dL.1 ht) e
 .rw[b1]at hn;have h1:t∉s.lv:=λe=>hn (ee _ e);have h2:t≠s.nt+1:=λe=>hn (List.mem_append_right _ (by simp[e]));have h3:t<=s.nt:=by have:=ht.2;rw[W]at this;omega
  rw[J t h2,a0 t h3 ht.1];exact h.O t ⟨ht.1,h3⟩ h1
 .rw[b3]at Y;obtain⟨c,c1,c2,c3⟩:=h.Kp x Y;refine⟨c,⟨c1.1,by rw[W];have:=c1.2;omega⟩,λo=>?_,by rw[a0 c c1.2 c1.1];exact c3⟩;rw[b1]at o;rcases di.1 o with o|o
  .exact c2 o
  have:=dL.1 o;have:=c1.2;omega
 .rw[DV,aa (λe=>Y e.1)];by_cases e:a=5/\b=s.nt+1
  .rw[aj e];exact List.Pairwise.nil
  rw[aa e];have a2:fz s a b:=by
   unfold fz at G ⊢;rcases G with G|G|G|G
   .exact ag G
   .exact ab (ag G)
   .exact ab (ab (ag G))
   refine ab (ab (ab ⟨G.1,G.2.1,?_⟩));have:=G.2.2;rw[W]at this;have:b≠s.nt+1:=λe'=>e ⟨G.1,e'⟩;omega
  exact vT (h.L a b a2 Y) (λc o=>by rw[J c (a4 c (hO.ql a b a2 c o))];exact⟨rfl,rfl⟩)
 rw[b1]at ht;by_cases e:t=s.nt+1
 .subst e;rw[Z];exact dc _
 rw[J t e];rcases di.1 ht with ht|ht
 .exact h.N t ht
 exact ch (dL.1 ht) e
theorem eK.sK(h:eK p K s m ρ){a i:Nat}{v:B.V}(W:ou p s a)(hv:dN p s v):eK p K (s.sK a i v) (m.put (ρ a) i (tr ρ v)) ρ:=by
 have y:∀c,ou p (s.sK a i v) c->ou p s c:=λc o=>B.CE W hv o;refine { h with C:=λc o=>?_,I:=λc H o G=>h.I c H (y c o) (y H G) };obtain⟨c1,c2,J,c4,c5,Z⟩:=h.C c (y c o);have u:(B.lay s.M a ((s.M a).set i v) c).length=(s.M c).length:=by
  by_cases e:c=a
  .subst e;rw[B.gl,dq]
  rw[B.fq _ _ _ _ e]
 refine⟨c1,c2,?_,c4,λY e=>c5 Y (cf.1 (by rw[<-u];exact cf.2 e)),by show(B.lay s.M a ((s.M a).set i v) c).length<=8;rw[u];exact Z⟩;show(if ρ c=ρ a then(m.M (ρ a)).set i (tr ρ v) else m.M (ρ c))=(B.lay s.M a ((s.M a).set i v) c).map (tr ρ);by_cases e:c=a
 .subst e;rw[aj rfl,B.gl,J,List.map_set]
 rw[aa (λe'=>e (h.I c a (y c o) W e')),B.fq _ _ _ _ e,J]
theorem eK.na(h:eK p K s m ρ){t a c ty:Nat}{J:B.Kd}{l:List B.V}(hO:fS p s X)(a3:t∈s.lv)(hn:(s.T t).fr≠[])(hk:B.jX J p.n (eh p s) s.M)(h3:J.on c=false)(aL:c≠0)(aN:ty≠0->l≠[])(aK:l.length<=8)(hl:∀v,v∈l->dN p s v): eK p (K+1) ((s.na J c ty l).dx t (cr s t) ((bw s t).set a (c,0))) ((m.cell ty (l.map (tr ρ))).dx t (pQ m t) ((pR m t).set a (m.nc+1,0))) (λk=>if k=c then m.nc+1 else ρ k):=by
 have hi:cr s t<(s.T t).fr.length:=by
  have:(s.T t).fr.length≠0:=λe=>hn (cf.1 e);unfold cr;omega
 have aM:¬ou p s c:=λhc=>by
  have:=(B.po hk hc).1;rw[h3]at this;cases this
 have a9:∀v,dN p s v->tr (λk=>if k=c then m.nc+1 else ρ k) v=tr ρ v:=λv hv=>by
  by_cases e:v.1=0
  .rw[om e,om e]
  rw[oZ e,oZ e];have aG:v.1≠c:=λe'=>aM (e'▸B.oH.vi hv e);show((if v.1=c then m.nc+1 else ρ v.1),(0:Int))=_;rw[aa aG]
 have hT:=h.T t a3;have aF:pQ m t=cr s t:=by unfold pQ cr;rw[hT.l]
 have aH:pR m t=fj m t (cr s t):=by unfold pR;rw[aF]
 rw[aF,aH];have e1:((s.na J c ty l).dx t (cr s t) ((bw s t).set a (c,0))).T t={ s.T t with fr:=(s.T t).fr.set (cr s t) ((bw s t).set a (c,0)) }:=df _ _ _;have e2:((m.cell ty (l.map (tr ρ))).dx t (cr s t) ((fj m t (cr s t)).set a (m.nc+1,0))).T t=(m.T t).kD ((m.T t).fr.set (cr s t) ((fj m t (cr s t)).set a (m.nc+1,0))):=fG _ _ _;have hs:∀u,u≠t->((s.na J c ty l).dx t (cr s t) ((bw s t).set a (c,0))).T u=s.T u:=λu e=>dP _ _ e;have hm:∀u,u≠t->((m.cell ty (l.map (tr ρ))).dx t (cr s t) ((fj m t (cr s t)).set a (m.nc+1,0))).T u=m.T u:=λu e=>fA _ _ e;have a7:∀v,v∈eh p ((s.na J c ty l).dx t (cr s t) ((bw s t).set a (c,0)))->v=(c,0)\/dN p s v:=λv hv=>by
  rcases gi.1 hv with⟨u,j,b,Y,hj,hb,e⟩|hv
  .by_cases eu:u=t
   .subst eu;rw[e1]at hj;have a1:j<((s.T u).fr.set (cr s u) ((bw s u).set a (c,0))).length:=hj;rw[dq]at a1;have aI:de ((s.na J c ty l).dx u (cr s u) ((bw s u).set a (c,0))) u j=if j=cr s u then(bw s u).set a (c,0) else de s u j:=by
     unfold de;rw[e1];exact jU hi
    rw[aI]at hb e;by_cases ej:j=cr s u
    .rw[aj ej]at hb e;have e3:B.set (bw s u).R a (c,0) b=v:=e;by_cases eb:b=a
     .subst eb;rw[B.ie]at e3;exact ag e3.symm
     rw[B.gS _ _ _ _ eb]at e3;rw[<-e3];exact ab (Rn.iE a3 _ hi b hb)
    rw[aa ej]at hb e;rw[<-e];exact ab (Rn.iE a3 j a1 b hb)
   have hf:de ((s.na J c ty l).dx t (cr s t) ((bw s t).set a (c,0))) u j=de s u j:=gJ (by rw[hs u eu]);rw[hf]at hb e;rw[hs u eu]at hj;exact ab (dN.root (ag ⟨u,j,b,Y,hj,hb,e⟩))
  exact ab (dN.root (ab hv))
 have Z:∀k,ou p ((s.na J c ty l).dx t (cr s t) ((bw s t).set a (c,0))) k->k=c\/ou p s k:=λk hk=>B.sJ (L:=eh p s) hl a7 hk;have aC:∀k,ou p s k->∀v,v∈s.M k->dN p s v:=λk hk v hv=>ab (ab ⟨k,hk,hv⟩);have a5:∀l':List B.V,(∀v,v∈l'->dN p s v)->l'.map (tr (λk=>if k=c then m.nc+1 else ρ k))=l'.map (tr ρ):=λl' a8=>List.map_congr_left (λv hv=>a9 v (a8 v hv));refine⟨h.nt,h.q,h.Ee,h.sp,h.ev,h.ck,λu Y=>?_,λu Y aA=>?_,λk H=>?_,λk k' H a4 he=>?_,h.Kp,λx y a8 hx=>vT (h.L x y a8 hx) (λb _=>?_),λu Y=>?_,⟨by show m.G.all+1=m.nc+1;rw[h.A.1],Nat.succ_le_succ h.A.2.1,Nat.succ_le_succ h.A.2.2⟩,h.lm,⟨Nat.succ_le_succ h.B.1,Nat.le_succ_of_le h.B.2⟩⟩
 .have a6:∀u,u∈s.lv->∀i,i<(s.T u).fr.length->FS p (λk=>if k=c then m.nc+1 else ρ k) i ((s.T u).fr.getD i mr) ((m.T u).fr.getD i mr):=λu Y i aD=>by
   have hF:=(h.T u Y).f i aD;exact⟨hF.f,hF.nx,hF.bk,λk H=>by rw[hF.R k H];exact(a9 _ (Rn.iE Y i aD k H)).symm⟩
  by_cases eu:u=t
  .subst eu;refine⟨?_,λj hj=>?_,?_,?_⟩
   .rw[e1,e2];show((m.T u).fr.set _ _).length=((s.T u).fr.set _ _).length;rw[dq,dq];exact hT.l
   .rw[e1]at hj ⊢;rw[e2];have a1:j<((s.T u).fr.set (cr s u) ((bw s u).set a (c,0))).length:=hj;rw[dq]at a1;show FS p _ j (((s.T u).fr.set _ _).getD j mr) (((m.T u).fr.set _ _).getD j mr);rw[jU hi,jU (by rw[hT.l];exact hi)];by_cases e:j=cr s u
    .rw[aj e,aj e,e];have hF:=a6 u Y (cr s u) hi;refine⟨hF.f,hF.nx,hF.bk,λk H=>?_⟩;show B.set (fj m u (cr s u)).R a (m.nc+1,0) k=tr _ (B.set (bw s u).R a (c,0) k);by_cases e3:k=a
     .subst e3;rw[B.ie,B.ie];rw[oZ (v:=(c,0)) aL];show _=((if c=c then m.nc+1 else ρ c),(0:Int));rw[aj rfl]
     rw[B.gS _ _ _ _ e3,B.gS _ _ _ _ e3];exact hF.R k H
    rw[aa e,aa e];exact a6 u Y j a1
   .rw[e2];exact hT.o
   rw[e1,e2];exact hT.h.same rfl rfl rfl rfl rfl rfl rfl
  rw[hs u eu,hm u eu];exact⟨(h.T u Y).l,a6 u Y,(h.T u Y).o,(h.T u Y).h⟩
 .have eu:u≠t:=λe=>aA (e▸a3);rw[hm u eu];obtain⟨o1,o2,o3⟩:=h.O u Y aA;refine⟨o1,o2,o3.trans ?_⟩;refine(a9 _ ?_).symm;show dN p s (m9 s u);have aO:=Y.1;have aP:u<=s.nt:=Y.2;have aB:u-1<s.out.length:=by rw[hO.ol];omega
  have aJ:m9 s u∈s.out:=by
   unfold m9;rw[ar,bn aB];exact List.getElem_mem aB
  rcases hO.ok _ aJ with h0|h0
  .exact ag h0
  exact dN.root (ab h0)
 .by_cases W:k=c
  .subst W;refine⟨by show 1<=(if k=k then m.nc+1 else ρ k);rw[aj rfl];omega,by show(if k=k then m.nc+1 else ρ k)<=m.nc+1;rw[aj rfl];omega,?_,?_,?_,?_⟩
   .show(if(if k=k then m.nc+1 else ρ k)=m.nc+1 then l.map (tr ρ) else m.M (if k=k then m.nc+1 else ρ k))=(B.lay s.M k l k).map _;rw[aj rfl,aj rfl,B.gl,a5 l hl]
   .show(if(if k=k then m.nc+1 else ρ k)=m.nc+1 then ty else m.ck (if k=k then m.nc+1 else ρ k))=if k=k then ty else s.ck k
    rw[aj rfl,aj rfl,aj rfl]
   .show(if k=k then ty else s.ck k)≠0->B.lay s.M k l k≠[];rw[aj rfl,B.gl];exact aN
   show(B.lay s.M k l k).length<=8;rw[B.gl];exact aK
  have aE:=(Z k H).resolve_left W;obtain⟨c1,c2,c3,c4,c5,c6⟩:=h.C k aE;refine⟨by show 1<=(if k=c then m.nc+1 else ρ k);rw[aa W];exact c1,by show(if k=c then m.nc+1 else ρ k)<=m.nc+1;rw[aa W];omega,?_,?_,?_,?_⟩
  .show(if(if k=c then m.nc+1 else ρ k)=m.nc+1 then l.map (tr ρ) else m.M (if k=c then m.nc+1 else ρ k))=(B.lay s.M c l k).map _;rw[aa W,aa (by omega),B.fq _ _ _ _ W,a5 _ (aC k aE),c3]
  .show(if(if k=c then m.nc+1 else ρ k)=m.nc+1 then ty else m.ck (if k=c then m.nc+1 else ρ k))=if k=c then ty else s.ck k
   rw[aa W,aa (by omega),aa W,c4]
  .show(if k=c then ty else s.ck k)≠0->B.lay s.M c l k≠[];rw[aa W,B.fq _ _ _ _ W];exact c5
  show(B.lay s.M c l k).length<=8;rw[B.fq _ _ _ _ W];exact c6
 .have a2:=he;by_cases W:k=c
  .by_cases a0:k'=c
   .rw[W,a0]
   rw[aj W,aa a0]at a2;have:=(h.C k' ((Z k' a4).resolve_left a0)).c2;omega
  by_cases a0:k'=c
  .rw[aa W,aj a0]at a2;have:=(h.C k ((Z k H).resolve_left W)).c2;omega
  rw[aa W,aa a0]at a2;exact h.I k k' ((Z k H).resolve_left W) ((Z k' a4).resolve_left a0) a2
 .by_cases eb:b=t
  .subst eb;rw[e2];exact⟨rfl,rfl⟩
  rw[hm b eb];exact⟨rfl,rfl⟩
 by_cases eu:u=t
 .subst eu;rw[e2];exact h.N u Y
 rw[hm u eu];exact h.N u Y
