import Derived.Test.YtnjiinbhbjpfkaaGreatDoorKd
import Derived.Test.YtnjiinbhbjpfkaaGreatDoorKL
set_option maxRecDepth 100000
set_option maxHeartbeats 0
set_option linter.all false
namespace Go.Proofs.YtnjiinbhbjpfkaaGreatDoor
open Go.RowKit Go.Proofs.Tryz
namespace F
def iP(v:B.V):Prop:=-9223372036854775808<=v.2/\v.2<=9223372036854775807
structure Ng(s:Pl):Prop where
 F:∀t f,f∈(s.T t).fr->∀a,iP (f.R a)
 M:∀c v,v∈s.M c->iP v
 O:∀v,v∈s.out->iP v
variable {p : dz} {s s' : Pl} {t : Nat}
theorem iP.n{x:Int}(e:-9223372036854775808<=x)(i:x<=9223372036854775807):iP (0,x):=⟨e,i⟩
theorem iP.z:iP (0,0):=⟨by decide,by decide⟩
theorem iP.getD{l:List B.V}(h:∀v,v∈l->iP v)(i:Nat):iP (l.getD i (0,0)):=by
 rw[ar];by_cases e:i<l.length
 .rw[bn e];exact h _ (List.getElem_mem e)
 rw[cw (by omega)];exact iP.z
theorem iP.wrap(x:Int):iP (0,B.wrap x):=by
 unfold B.wrap;exact iP.n (by omega) (by omega)
theorem iP.arith(o:Nat)(x y:Int):iP (0,arith o x y):=by
 unfold F.arith;split
 .exact iP.wrap _
 split
 .exact iP.wrap _
 split
 .exact iP.wrap _
 unfold pF;split
 .exact iP.n (by omega) (by omega)
 exact iP.z
theorem iP.wide{b c:Nat}(e:b<256)(i:c<256):iP (0,B.wide b c):=by
 unfold B.wide;split<;>exact iP.n (by omega) (by omega)
theorem Ng.at(h:Ng s)(t i a:Nat):iP ((de s t i).R a):=by
 unfold de;rw[ar];by_cases e:i<(s.T t).fr.length
 .rw[bn e];exact h.F t _ (List.getElem_mem e) a
 rw[cw (by omega)];exact iP.z
theorem Ng.slot(h:Ng s)(c i:Nat):iP ((s.M c).getD i (0,0)):=iP.getD (h.M c) i
theorem Ng.same(h:Ng s)(e:∀t,(s'.T t).fr=(s.T t).fr:=by intro t;rfl)(o:s'.M=s.M:=by rfl)(u:s'.out=s.out:=by rfl):Ng s':=
 ⟨λt f i=>h.F t f (by rw[<-e];exact i),by rw[o];exact h.M,by rw[u];exact h.O⟩
theorem Ng.dv(h:Ng s){x:oT}(hx:∀f,f∈x.fr->∀a,iP (f.R a)):Ng (s.dv t x):=
 ⟨λu f i=>by
  by_cases e:u=t
  .subst e;rw[df]at i;exact hx f i
  have:(s.dv t x).T u=s.T u:=aa e;rw[this]at i;exact h.F u f i,h.M,h.O⟩
theorem Ng.dx(h:Ng s)(i:Nat){f:gY}(G:∀a,iP (f.R a)):Ng (s.dx t i f):=
 h.dv (λy u=>by
  rcases List.mem_or_eq_of_mem_set u with e|e
  .exact h.F t y e
  rw[e];exact G)
theorem Ng.set{f:gY}(i:∀a,iP (f.R a))(a:Nat){v:B.V}(e:iP v)(b:Nat):iP ((f.set a v).R b):=by
 show iP (B.set f.R a v b);unfold B.set;split
 .exact e
 exact i b
theorem Ng.oD(h:Ng s)(i a:Nat){v:B.V}(e:iP v):Ng (s.dx t i ((de s t i).set a v)):=h.dx i (Ng.set (λb=>h.at t i b) a e)
theorem Ng.join(h:Ng s)(x y t:Nat):Ng (s.dV x y t):=h.same (λu=>Df s x y t u) (iW s x y t).2.2.2.2.2.2.1 (iW s x y t).2.1
theorem Ng.fJ(h:Ng s)(t:Nat){v:B.V}(e:iP v):Ng (s.fJ t v):=by
 unfold Pl.fJ;split
 .exact h
 exact(h.oD _ _ e).join 2 0 t
theorem Ng.dR{v : B.V} (hv : iP v) : ∀ (l : List Nat) {s : Pl}, Ng s → Ng (s.dR v l)
  | [], _, h => h
  | u :: l, s, h => by
    show Ng ((s.fJ u v).dR v l)
    exact Ng.dR hv l (h.fJ u hv)
theorem Ng.gone(h:Ng s)(t kind:Nat)(x:Int){v:B.V}(W:iP v):Ng (s.gone t v kind x):=by
 obtain⟨_,H,_,_,_,_,G,_⟩:=gV s t v kind x;refine⟨λu f o=>?_,by rw[G];exact h.M,λy i=>?_⟩
 .refine h.F u f ?_;rw[<-ku s t u];have J:((s.gone t v kind x).T u).fr=((s.dw t).T u).fr:=by
   show(((s.dw t).dv t ((s.dw t).T t).stop).T u).fr=_;by_cases e:u=t
   .subst e;rw[df];rfl
   rw[show((s.dw t).dv t ((s.dw t).T t).stop).T u=(s.dw t).T u from aa e]
  rw[<-J];exact o
 rw[H]at i;rcases List.mem_or_eq_of_mem_set i with e|e
 .exact h.O y e
 rw[e];exact W
theorem Ng.leave(h:Ng s)(t kind:Nat)(x:Int){v:B.V}(e:iP v):Ng (s.leave t v kind x):=Ng.dR e _ (h.gone t kind x e)
theorem Ng.pop(h:Ng s)(t:Nat):Ng (s.pop t):=h.dv (λf e=>h.F t f (List.dropLast_subset _ e))
theorem Ng.back(h:Ng s)(t:Nat){v:B.V}(e:iP v):Ng (s.back t v):=by
 unfold Pl.back;split
 .exact(h.pop t).leave t _ _ e
 exact(h.pop t).dx _ (Ng.set (λb=>h.at t _ b) _ e)
theorem Ng.gh{u v:B.V}(i:iP u)(e:iP v)(a:Nat):iP (gh u v a):=by
 unfold YtnjiinbhbjpfkaaGreatDoor.gh;split
 .exact i
 split
 .exact e
 exact iP.z
theorem Ng.push(h:Ng s)(t:Nat){f:gY}(y:∀a,iP (f.R a)):Ng (s.push t f):=h.dv (λu o=>by
 rcases di.1 o with e|e
 .exact h.F t u e
 rw[dL]at e;rw[e];exact y)
theorem Ng.more(h:Ng s):Ng s.more:=by
 refine⟨λt f u=>?_,h.M,λv y=>?_⟩
 .have i:f∈(if t=s.nt+1 then qR else s.T t).fr:=u;by_cases e:t=s.nt+1
  .rw[aj e]at i
   cases i
  rw[aa e]at i;exact h.F t f i
 rcases di.1 y with e|e
 .exact h.O v e
 rw[dL]at e;rw[e];exact iP.z
theorem Ng.born(h:Ng s)(f:Nat){u v:B.V}(i:iP u)(e:iP v):Ng (s.born f u v):=(h.more.push _ (λa=>Ng.gh i e a)).join 2 0 _
theorem Ng.lay{M:Nat->List B.V}(h:∀c v,v∈M c->iP v)(a:Nat){l:List B.V}(o:∀v,v∈l->iP v):∀c v,v∈B.lay M a l c->iP v:=λc v i=>by
 unfold B.lay at i;by_cases e:c=a
 .rw[aj e]at i;exact o v i
 rw[aa e]at i;exact h c v i
theorem Ng.made(h:Ng s){t a ty:Nat}{l:List B.V}(y:∀v,v∈l->iP v)(u:kL p s t a ty l s'):Ng s':=by
 rcases u with⟨c,e,_,_,_,_,_,rfl⟩|⟨_,e,_,rfl⟩
 .have i:Ng (s.na e c ty l):=⟨h.F,Ng.lay h.M c y,h.O⟩;exact i.dx _ (Ng.set (λb=>h.at t _ b) a iP.z)
 have i:Ng (s.dv t (s.T t).stop):=h.dv (λf o=>h.F t f o);exact i.same
theorem Ng.two(h:Ng s){o a b c:Nat}{why:Int}(e:wE s t o a b c why s'):Ng s':=by
 rcases e with⟨_,_,rfl⟩|⟨_,_,rfl⟩
 .exact h.oD _ a (iP.arith _ _ _)
 exact h
theorem Fk(h:Ng s)(x:B.V):iP (iy s x).2.1:=by
 unfold iy;split
 .exact iP.z
 exact h.slot _ _
theorem Ng.inst(h:Ng s){k:F.yi}{why:Int}(hR:Rn p s t)(hn:s.nt+1<=500000000)(Z:IA p (bw s t).f k)(hi:jD p s t k why s'):Ng s':=by
 obtain⟨i,a,b,c⟩:=k;obtain⟨k1,k2,G,y,_,_,_,_,_,_,H,W,n3,n4,J⟩:=Z;simp only at k1 k2 G y H W n3 n4 J;have o:∀a,iP ((bw s t).R a):=λa=>h.at t _ a;have Y:i=0\/i=1\/i=2\/i=3\/i=4\/i=5\/i=6\/i=7\/i=8\/i=9\/i=10\/i=11\/i=12\/i=13\/i=14\/i=16\/i=20\/i=22:=by omega
 rcases Y with rfl|rfl|rfl|rfl|rfl|rfl|rfl|rfl|rfl|rfl|rfl|rfl|rfl|rfl|rfl|rfl|rfl|rfl
 .rw[hi.2];exact h.oD _ _ (iP.wide G y)
 .rw[hi.2];exact h.oD _ _ (o _)
 .exact h.two hi
 .exact h.two hi
 .exact h.two hi
 .exact h.two hi
 .rw[hi.2];refine h.oD _ _ ?_;split
  .exact iP.n (by omega) (by omega)
  exact iP.z
 .rw[hi.2];exact h.dx _ o
 .rw[hi.2];exact h.dx _ o
 .exact h.made (λv u=>by rw[(List.mem_replicate.1 u).2];exact iP.z) hi.2
 .rcases hi with⟨_,_,e⟩|⟨_,_,e⟩
  .rw[e];exact h.oD _ _ (h.slot _ _)
  rw[e];exact h
 .rcases hi with⟨_,_,e⟩|⟨_,_,e⟩
  .rw[e];exact⟨h.F,Ng.lay h.M _ (λv u=>by
    rcases List.mem_or_eq_of_mem_set u with e|e
    .exact h.M _ v e
    rw[e];exact o _),h.O⟩
  rw[e];exact h
 .exact h.made (λv u=>by rw[dL.1 u];exact o _) hi.2
 .rw[hi.2];unfold kP;split
  .exact h.push _ (λa=>Ng.gh (o _) (Fk h _) a)
  exact h
 .rw[hi.2];exact h.back _ (o _)
 .rw[hi.2];exact h.join _ _ _
 .rw[hi.2];unfold iY;split
  .exact h.same
  exact h
 rw[hi.2];exact h.oD _ _ (iP.n (by have:=hR.ok.c0;omega) (by have:=hR.ok.c1;omega))
theorem Ng.start(h:Ng s)(t:Nat):Ng (s.start t):=by
 have e:=h.same (λv=>ku _ t v) (gz _ t).2.2.2.2.2.2.2.2.1 (gz _ t).2.1;exact e.dv (λf i=>e.F t f i)
theorem Ng.ends(p : dz) (t : Nat) : ∀ (n : Nat) {s : Pl}, Ng s → Ng (s.ends p t n)
  | 0, _, h => h
  | n + 1, s, h => by
    unfold Pl.ends
    split
    · exact Ng.ends p t n (h.back t iP.z)
    · exact h
theorem Ng.fD(h:Ng s)(t:Nat):Ng (s.fD t):=h.dx _ (λa=>h.at t _ a)
theorem Ng.gr : ∀ (l : List Nat) {s : Pl}, Ng s → Ng (s.gr l)
  | [], _, h => h
  | t :: l, s, h => by
    unfold Pl.gr
    split
    · exact Ng.gr l (h.join 2 0 t)
    · exact h
theorem Ng.eN : ∀ (l : List (Int × Nat)) {s : Pl}, (∀ x, x ∈ l → x.2 < 256) → Ng s → Ng (s.eN l)
  | [], _, _, h => h
  | x :: l, s, hl, h => by
    show Ng ((s.recv x).eN l)
    refine Ng.eN l (fun y hy => hl y (by simp [hy])) ?_
    unfold Pl.recv
    split
    · unfold Pl.wW
      split
      · exact h.fJ _ (iP.n (by omega) (by have := hl x (by simp); omega))
      · split
        · exact h.same
        · exact h
    · exact h
end F
namespace F
variable {p : dz} {s s' x : Pl} {t : Nat}
theorem jV(n:Nat)(h:¬((s.T t).run=true/\(bw s t).nx=p.len (bw s t).f)):s.ends p t n=s:=by
 cases n with
 | zero=>rfl
 | succ n=>unfold Pl.ends;rw[aa h]
theorem Rn.back(h:Rn p s t)(i:cr s t≠0):Rn p (s.back t (0,0)) t/\((s.back t (0,0)).T t).fr.length+1=(s.T t).fr.length:=by
 have e:=(mA h.ok.lw h.ht (0,0)).2 i;obtain⟨o,G,y,u⟩:=(lG s t (0,0)).2 i;exact⟨⟨h.ok.back h.lv h.wh (dN.num 0),by rw[o];exact h.lv,by rw[e.1];exact h.run⟩,by have:=h.hi;rw[e.2];omega⟩
theorem mz(h:Rn p s t)(e:cr s t=0):((s.back t (0,0)).T t).run=false:=(mA h.ok.lw h.ht (0,0)).1 e
theorem uI:∀(n:Nat) {s:Pl},((s.T t).run=true->Rn p s t)->((s.T t).run=true->(s.T t).fr.length<=n)->s.ends p t n=s.ends p t (n+1)
 | 0,s,h,hl=>by
  by_cases e:(s.T t).run=true
  .have:=(h e).hi;have:=hl e;omega
  rw[jV 0 (λh=>e h.1),jV 1 (λh=>e h.1)]
 | n+1,s,h,hl=>by
  by_cases e:(s.T t).run=true/\(bw s t).nx=p.len (bw s t).f
  .have hR:=h e.1;have y:s.ends p t (n+1)=(s.back t (0,0)).ends p t n:=by show Pl.ends p t (n+1) s=_;unfold Pl.ends;rw[aj e];cases n<;>rfl
   have u:s.ends p t (n+1+1)=(s.back t (0,0)).ends p t (n+1):=by show Pl.ends p t (n+1+1) s=_;rw[Pl.ends,aj e]
   rw[y,u];by_cases o:cr s t=0
   .have i:=mz hR o;rw[jV n (λh=>by rw[i]at h;cases h.1),jV (n+1) (λh=>by rw[i]at h;cases h.1)]
   obtain⟨k1,k2⟩:=hR.back o;exact uI n (λ_=>k1) (λ_=>by have:=hl e.1;omega)
  rw[jV _ e,jV _ e]
theorem Bt(h:Rn p s t)(e:(bw s t).nx=p.len (bw s t).f):s.ends p t 21=(s.back t (0,0)).ends p t 21:=by
 have u:s.ends p t 21=(s.back t (0,0)).ends p t 20:=by show Pl.ends p t (20+1) s=_;rw[Pl.ends,aj ⟨h.run,e⟩]
 rw[u];refine uI 20 (λi=>?_) (λi=>?_)
 .by_cases o:cr s t=0
  .rw[mz h o]at i;cases i
  exact(h.back o).1
 by_cases o:cr s t=0
 .rw[mz h o]at i;cases i
 have:=(h.back o).2;have:=h.fw.n2;omega
theorem nY{k:Nat}(h:gg p t k x s')(e:(x.T t).run=false):s'=x:=by
 cases k with
 | zero=>exact h
 | succ k=>
  unfold gg at h;rw[aa (by rw[e];decide)]at h;exact h
theorem AV{k:Nat}(h:Rn p s t)(e:(bw s t).nx=p.len (bw s t).f)(u:gg p t (k+1) s s'):(cr s t=0->s'=s.back t (0,0))/\(cr s t≠0->gg p t (k+1) (s.back t (0,0)) s'):=by
 unfold gg at u;rw[aj h.run]at u;obtain⟨x,i,G⟩:=u;unfold iC at i;rw[Bt h e]at i;constructor
 .intro y;have o:=mz h y;rw[jV 21 (λh=>by rw[o]at h;cases h.1),aa (by rw[o];decide)]at i;subst i;exact nY G o
 intro y;unfold gg;rw[aj (h.back y).1.run];exact⟨x,i,G⟩
theorem AU{k:Nat}(h:Rn p s t)(e:(bw s t).nx≠p.len (bw s t).f)(i:gg p t (k+1) s s'):∃why s3,jD p (s.fD t) t (p.ins (bw s t).f (bw s t).nx) why s3/\gg p t k (if why=0 then s3 else s3.leave t (0,-why) 3 why) s':=by
 unfold gg at i;rw[aj h.run]at i;obtain⟨x,o,y⟩:=i;unfold iC at o;rw[jV 21 (λh=>e h.2),aj h.run]at o;obtain⟨why,s3,u,rfl⟩:=o;exact⟨why,s3,u,y⟩
theorem Go.Ms{t c:Nat}{s s':Pl}(h:Go t c s s'):s'.ev.length<=s.ev.length+c:=by
 obtain⟨l,e,i,_⟩:=h;rw[e,bo];omega
end F
namespace F
theorem Ce{M:Nat->List B.V}{n:Nat}{kd:B.Kd}{c:B.Cy}{k:Nat}(h:(B.ki M n kd c).on k=true):kd.on k=true:=by
 unfold B.ki at h;split at h
 .exact B.mK h
 exact B.mK h
theorem oK{M:Nat->List B.V}{R:Nat->B.V}{nr n:Nat}:∀(u:Nat) {kd:B.Kd},B.iZ kd nr n (0,R,M)->B.iZ (B.fI M n u kd) nr n (0,R,M)/\∀k,(B.fI M n u kd).on k=true->kd.on k=true
 | 0,kd,h=>⟨h,λ_ h=>h⟩
 | u+1,kd,h=>by
  cases hc:kd.cy with
  | none=>rw[B.sj hc];exact⟨h,λ_ h=>h⟩
  | some c=>
   rw[B.sh hc];obtain⟨k1,k2⟩:=oK u (B.qo h hc);exact⟨k1,λk e=>Ce (k2 k e)⟩
theorem Aw{M:Nat->List B.V}{R:Nat->B.V}{nr n u:Nat}{kd:B.Kd}(hn:1<=n)(h:B.iZ kd nr n (0,R,M)):B.iZ (B.work R nr M n u kd) nr n (0,R,M)/\∀k,(B.work R nr M n u kd).on k=true->kd.on k=true:=by
 unfold B.work
 cases hc:kd.cy with
 | none=>exact oK u (B.ti h hn)
 | some c=>exact oK u h
theorem fS.im{p:dz}{s:Pl}{X:Nat->Prop}(hn:1<=p.n)(h:fS p s X):fS p (s.im p) X:=by
 obtain⟨k1,k2⟩:=Aw (u:=p.wk) hn (show B.iZ s.kd (eh p s).length p.n (0,B.EF (eh p s),s.M) from h.hl);exact h.tQ k1 (λk _ _ e=>k2 k e)
theorem Gn.same{s s':Pl}{gone:List Nat}(h:Gn s gone)(i:s'.lv=s.lv)(hn:s'.nt=s.nt):Gn s' gone:=λu e=>⟨(eg hn).2 (h u e).1,by rw[i];exact(h u e).2⟩
structure Mv(p:dz) (s s':Pl):Prop where
 ok:Ok p s'.lD
 n1:s.nt<=s'.nt
 n2:s'.nt<=s.nt+p.qn
 el:s'.ev.length<=p.qn
 ev:∀gone,Gn s gone->∃t',(∀t r,s.q 2 0=t :: r->t'=t)/\Ge t' gone s'.ev/\Gn s'.lD (gone++jA s'.ev)
 q:∀t r,s.q 2 0=t :: r->LS s'.ev->s'.sp=false->∃m,s'.q 2 0=r++m
theorem nW{p:dz}{s s':Pl}{ticks:Int}{l:List (Int×Nat)}(hP:PI p)(aB:1<=p.n)(h:Ok p s)(he:s.ev=[])(hn:s.nt+p.qn<=500000000)(aA:∀x,x∈l->x.2<256)(ht:jh p s ticks l s'):Mv p s s':=by
 have ha:=B.vU (t:=ticks) h.c0 h.c1;obtain⟨o1,o⟩:=nF l aA (h.fF ha.1 ha.2);have o:Qu s ((s.fF (B.iz s.eY ticks)).eN l):=⟨o.ev,o.lv,o.nt,o.sp,o.q⟩;unfold jh at ht;generalize (s.fF (B.iz s.eY ticks)).eN l=s1 at *;by_cases hc:s1.lv≠[]/\s1.sp=false
 .rw[aj hc]at ht;obtain⟨s3,h3,rfl⟩:=ht;obtain⟨o2,q2⟩:=nj (s1.q 3 0) o1 rfl;have u:=o.trans q2;generalize s1.gr (s1.q 3 0)=s2 at *;obtain⟨o3,e3,f3⟩:=tz hP o2 (by rw[u.nt];exact hn) h3;have y:Ok p (s3.im p).lD:=(o3.im aB).same rfl rfl rfl rfl rfl rfl rfl rfl rfl rfl rfl;obtain⟨m,hm⟩:=u.q
  cases hq:s2.q 2 0 with
  | nil=>
   have:=e3 hq;subst this;have a0:s.q 2 0=[]:=by rw[hq]at hm;exact(List.append_eq_nil_iff.1 hm.symm).1
   have i:=u.ev.trans he;refine⟨y,by show s.nt<=s3.nt;rw[u.nt];exact bj _,by show s3.nt<=_;rw[u.nt];omega,by show s3.ev.length<=_;rw[i];exact dc _,λgone hg=>⟨0,λt r e=>(by rw[a0]at e;cases e),?_,?_⟩,λt r e=>(by rw[a0]at e;cases e)⟩
   .show Ge 0 gone s3.ev;rw[i];trivial
   show Gn (s3.im p).lD (gone++jA s3.ev);rw[i];have:gone++jA []=gone:=by unfold jA;simp
   rw[this];exact hg.same (s':=(s3.im p).lD) u.lv u.nt
  | cons t r=>
   obtain⟨s0,hG,g1,g2,g3,g4⟩:=f3 t r hq;obtain⟨ev,a1,a2,a3,a4,a5⟩:=hG;have i:s3.ev=ev:=by rw[a1,g1,u.ev,he,List.nil_append]
   have J:=g2.trans u.lv;have H:=g3.trans u.nt;have G:∀Y Z,s.q 2 0=Y :: Z->t=Y/\r=Z++m:=λY Z e=>by
    rw[e,hq]at hm;injection hm with m1 m2;exact⟨m1,m2⟩
   refine⟨y,by show s.nt<=s3.nt;omega,by show s3.nt<=_;omega,by show s3.ev.length<=_;rw[i];exact a2,λgone hg=>⟨t,λY Z e=>(G Y Z e).1,?_,?_⟩,λY Z e a8 _=>?_⟩
   .show Ge t gone s3.ev;rw[i];exact(a4 gone (hg.same J H)).1
   .show Gn (s3.im p).lD (gone++jA s3.ev);rw[i];exact(a4 gone (hg.same J H)).2.same (s':=(s3.im p).lD) rfl rfl
   obtain⟨m2,aC⟩:=a5 (by rw[<-i];exact a8);refine⟨m++m2,?_⟩;show s3.q 2 0=_;rw[aC,g4,(G Y Z e).2,dY]
 rw[aa hc]at ht;subst ht;have y:Ok p s'.lD:=o1.same rfl rfl rfl rfl rfl rfl rfl rfl rfl rfl rfl;have i:=o.ev.trans he;refine⟨y,by rw[o.nt];exact bj _,by rw[o.nt];omega,by rw[i];exact dc _,λgone hg=>?_,λt r e _ hs=>?_⟩
 .have W:∃t',∀t r,s.q 2 0=t :: r->t'=t:=by
   cases hq:s.q 2 0 with
   | nil=>exact⟨0,λt r e=>(by cases e)⟩
   | cons a b=>exact⟨a,λt r e=>(by injection e)⟩
  obtain⟨t',W⟩:=W;refine⟨t',W,?_,?_⟩
  .rw[i];trivial
  rw[i];have:gone++jA []=gone:=by unfold jA;simp
  rw[this];exact hg.same (s':=s'.lD) o.lv o.nt
 have a6:=h.ql 2 0 (ag ⟨rfl,rfl⟩) t (by rw[e];simp);refine ch ⟨?_,hs⟩ hc;rw[o.lv];intro e';rw[e']at a6;cases a6
theorem Ng.step{p:dz}{s s':Pl}{t:Nat}(hP:PI p)(hN:Ng s)(h:Rn p s t)(hn:s.nt+1<=500000000)(i:iC p t s s'):Ng s':=by
 obtain⟨i1,i2,i3⟩:=rY 21 h (by have:=h.fw.n2;omega);have G:=Ng.ends p t 21 hN;unfold iC at i;by_cases e:((s.ends p t 21).T t).run=true
 .rw[aj e]at i;obtain⟨W,j2,Y⟩:=i2 e;obtain⟨_,_,_,j5,_⟩:=id j2;obtain⟨why,s3,H,rfl⟩:=i;obtain⟨Z,o⟩:=mM W Y;have u:=W.ff;have y:=hP _ u.1 (bw (s.ends p t 21) t).nx (by omega);have J:=(G.fD t).inst Z (by show(s.ends p t 21).nt+1<=_;omega) (by rw[o];exact y) H;obtain⟨w1,w2,_⟩:=nP y.1 H;split
  .exact J
  exact J.leave t 3 why (iP.n (by omega) (by omega))
 rw[aa e]at i;subst i;exact G
theorem Ng.runs{p:dz}{t:Nat}(hP:PI p):∀(n:Nat) {s s':Pl},Ng s->Ok p s->fe s t->s.nt+n<=500000000->gg p t n s s'->Ng s'
 | 0,s,s',hN,_,_,_,hr=>by
  have e:s'=s:=hr;subst e;exact hN
 | n+1,s,s',hN,h,ht,hn,hr=>by
  unfold gg at hr;by_cases e:(s.T t).run=true
  .rw[aj e]at hr;obtain⟨s1,o,u⟩:=hr;have hR:Rn p s t:=⟨h,(h.rn t ht e).2,e⟩;obtain⟨k1,k2⟩:=uT hP hR (by omega) o;have i:=k2.nt;exact Ng.runs hP n (hN.step hP hR (by omega) o) k1 ⟨ht.1,dH ht.2 i.1⟩ (by omega) u
  rw[aa e]at hr;subst hr;exact hN
theorem Ng.first{p:dz}(hP:PI p){s s':Pl}(y:Ng s)(h:Ok p s)(hn:s.nt+p.qn<=500000000)(u:gO p s s'):Ng s':=by
 unfold gO at u
 cases hq:s.q 2 0 with
 | nil=>
  rw[hq]at u;have e:s'=s:=u;subst e;exact y
 | cons t r=>
  rw[hq]at u;obtain⟨s1,H,J⟩:=u;have i:=h.ql 2 0 (ag ⟨rfl,rfl⟩) t (by rw[hq];simp);have ht:=h.lt t i;have o:(s.start t).nt=s.nt:=fO s t;have G:Ng s1:=Ng.runs hP p.qn (y.start t) (h.start i) ⟨ht.1,by rw[o];exact ht.2⟩ (by rw[o];exact hn) H;rw[J];split
  .exact G.join 2 0 t
  exact G
theorem Ng.Gx{p:dz}(hP:PI p){s s':Pl}{ticks:Int}{l:List (Int×Nat)}(J:Ng s)(h:Ok p s)(h0:0<=B.iz s.eY ticks)(H:B.iz s.eY ticks<=9223372036854775807)(i:∀x,x∈l->x.2<256)(hn:s.nt+p.qn<=500000000)(ht:jh p s ticks l s'):Ng s':=by
 have e:Ng ((s.fF (B.iz s.eY ticks)).eN l):=Ng.eN l i J.same;obtain⟨u,G⟩:=nF l i (h.fF h0 H);unfold jh at ht;split at ht
 .obtain⟨s1,Z,rfl⟩:=ht;obtain⟨y,o⟩:=nj _ u rfl;exact (Ng.first hP (Ng.gr _ e) y (by rw[o.nt,G.nt];exact hn) Z).same
 subst ht;exact e
theorem DC{s : ByteArray} {f : Nat} : ∀ (n k0 : Nat), (M.fns s f (M.pos s k0) n).2 = true → ∀ k, k < n → (M.fn s (M.pos s (k0 + k)) f).2 = true
  | 0, _, _, k, hk => by omega
  | n + 1, k0, h, k, hk => by
    unfold M.fns at h
    by_cases e : (M.fn s (M.pos s k0) f).2 = true
    · rw [aj e]at h
      cases k with
      | zero => exact e
      | succ k =>
        have hp : (M.fn s (M.pos s k0) f).1 = M.pos s (k0 + 1) := (M.tw e).1
        rw [hp]at h
        have := DC n (k0 + 1) h k (by omega)
        rw [show k0 + (k + 1) = k0 + 1 + k by omega]
        exact this
    · rw [aa e]at h; cases h
theorem vM{s : ByteArray} {r f l : Nat} : ∀ (n p : Nat), (M.code s r f l p n).2 = true → ∀ i, i < n → (M.ins s (p + 4 * i) r f l).2 = true
  | 0, _, _, i, hi => by omega
  | n + 1, p, h, i, hi => by
    unfold M.code at h
    by_cases e : (M.ins s p r f l).2 = true
    · rw [aj e]at h
      cases i with
      | zero => exact e
      | succ i =>
        rw [M.vz e]at h
        have := vM n (p + 4) h i (by omega)
        rw [show p + 4 * (i + 1) = p + 4 + 4 * i by omega]
        exact this
    · rw [aa e]at h; cases h
def pH(s:ByteArray)(q:Nat):yi:=(M.bt s q,M.bt s (q+1),M.bt s (q+2),M.bt s (q+3))
theorem Le:∀e,e<23->e≠7/\e≠16->M.k0 e=114:=by decide
theorem Ld:∀e,e<23->(e=1\/(2<=e/\e<=6)\/e=10\/e=11)\/(e=13\/e=15\/e=18\/e=21)->M.k1 e=114:=by decide
theorem Lc:∀e,e<23->((2<=e/\e<=6)\/e=10\/e=11\/e=12\/e=13\/e=15)->M.k2 e=114:=by decide
theorem Lb:∀e,e<23->(e=7\/e=8)->M.k1 e=116:=by decide
theorem La:∀e,e<23->e=9->M.k1 e=115:=by decide
theorem K7:∀e,e<23->e=12->M.k1 e=102:=by decide
theorem K6:∀e,e<23->e≠7/\e≠8->M.k1 e≠116:=by decide
theorem E4(op:Nat)(h:op<23):(op≠7->op≠16->M.k0 op=114)/\(op=1\/(2<=op/\op<=6)\/op=10\/op=11\/op=13\/op=15\/op=18\/op=21->M.k1 op=114)/\((2<=op/\op<=6)\/op=10\/op=11\/op=12\/op=13\/op=15->M.k2 op=114)/\(op=7\/op=8->M.k1 op=116)/\(op=9->M.k1 op=115)/\(op=12->M.k1 op=102)/\(op≠7->op≠8->M.k1 op≠116):=
 ⟨λa b=>Le op h ⟨a,b⟩,λa=>Ld op h (by omega),Lc op h,Lb op h,La op h,K7 op h,λa b=>K6 op h ⟨a,b⟩⟩
theorem E7{s:ByteArray}{q r f l:Nat}(hT:N5 (M.bt s q))(hr:2<=r)(hf:1<=f)(h:(M.ins s q r f l).2=true){p:dz}{k:Nat}(e1:p.rg k=r)(e2:p.nf=f)(e3:p.len k=l):IA p k (pH s q):=by
 unfold M.ins at h;by_cases e:M.tk s q 0 22=true
 .rw[aj e]at h;have a2:=(M.fK e).2.2;have G:=M.my s;obtain⟨f0,f1,f2,f3,f4,f5,f6⟩:=E4 (M.bt s q) (by omega);unfold M.rz at h;by_cases Y:M.tk s (q+1) 0 (M.iQ r f (M.k0 (M.bt s q)))=true
  .rw[aj Y]at h;have g0:=(M.fK Y).2.2;have Z:M.bt s q≠7->M.bt s q≠16->M.bt s (q+1)<p.rg k:=λn7 W=>by
    rw[f0 n7 W]at g0;have:M.iQ r f 114=r-1:=rfl;omega
   by_cases o:M.k1 (M.bt s q)=116
   .rw[aj o]at h;have hj:=Classical.byContradiction λhn=>f6 (λe=>hn (ag e)) (λe=>hn (ab e)) o;unfold M.uQ at h;by_cases y:s.size<q+1+1+2
    .rw[aj y]at h;cases h
    rw[aa y]at h;by_cases H:l<256*M.bt s (q+1+1)+M.bt s (q+1+1+1)
    .rw[aj H]at h;cases h
    refine⟨by show M.bt s q<23;omega,G _,G _,G _,Z,λi=>?_,λi=>?_,λ_=>?_,λi=>?_,λi=>?_,hT⟩
    .have u:M.bt s q=1\/(2<=M.bt s q/\M.bt s q<=6)\/M.bt s q=10\/M.bt s q=11\/M.bt s q=13\/M.bt s q=15\/M.bt s q=18\/M.bt s q=21:=i;omega
    .have u:(2<=M.bt s q/\M.bt s q<=6)\/M.bt s q=10\/M.bt s q=11\/M.bt s q=12\/M.bt s q=13\/M.bt s q=15:=i;omega
    .show 256*M.bt s (q+2)+M.bt s (q+3)<=p.len k;rw[e3];exact Nat.le_of_not_lt H
    .have u:M.bt s q=9:=i;omega
    have u:M.bt s q=12:=i;omega
   rw[aa o]at h;by_cases y:M.tk s (q+1+1) 0 (M.iQ r f (M.k1 (M.bt s q)))=true
   .rw[aj y]at h;have g1:M.bt s (q+2)<=M.iQ r f (M.k1 (M.bt s q)):=(M.fK y).2.2;by_cases H:M.tk s (q+1+2) 0 (M.iQ r f (M.k2 (M.bt s q)))=true
    .have g2:M.bt s (q+3)<=M.iQ r f (M.k2 (M.bt s q)):=(M.fK H).2.2;have a4:M.iQ r f 114=r-1:=rfl;have a3:M.iQ r f 115=8:=rfl;have a1:M.iQ r f 102=f-1:=rfl;refine⟨by show M.bt s q<23;omega,G _,G _,G _,Z,λi=>?_,λi=>?_,λi=>ch i (λi=>o (f3 i)),λi=>?_,λi=>?_,hT⟩
     .show M.bt s (q+2)<p.rg k;rw[f1 i]at g1;omega
     .show M.bt s (q+3)<p.rg k;rw[f2 i]at g2;omega
     .show M.bt s (q+2)<=8;rw[f4 i]at g1;omega
     show M.bt s (q+2)<p.nf;rw[f5 i]at g1;omega
    rw[aa H]at h;cases h
   rw[aa y]at h;cases h
  rw[aa Y]at h;cases h
 rw[aa e]at h;cases h
theorem nJ{s:ByteArray}(h:(M.jO s).2=true):1<=M.bt s 0/\M.bt s 0<=8/\∀k,k<M.bt s 0->(M.fn s (M.pos s k) (M.bt s 0)).2=true:=by
 unfold M.jO at h;by_cases e:M.tk s 0 1 8=true
 .rw[aj e]at h;have i:=M.fK e;have o:((M.fns s (M.bt s 0) 1 (M.bt s 0)).2 && decide ((M.fns s (M.bt s 0) 1 (M.bt s 0)).1=s.size))=true:=h;rw[Bool.and_eq_true]at o;refine⟨i.2.1,i.2.2,λk u=>?_⟩;have:=DC (s:=s) (f:=M.bt s 0) (M.bt s 0) 0 o.1 k u;rw[Nat.zero_add]at this;exact this
 rw[aa e]at h;cases h
def Tm(s:ByteArray):Prop:=∀k i,k<M.bt s 0->i<M.bt s (M.pos s k+1)->N5 (M.bt s (M.pos s k+2+4*i))
theorem GZ{s:ByteArray}(hT:Tm s)(h:(M.jO s).2=true){p:dz}(Z:∀k,p.rg k=M.bt s (M.pos s k))(u:p.nf=M.bt s 0)(y:∀k,p.len k=M.bt s (M.pos s k+1))(J:∀k i,p.ins k i=pH s (M.pos s k+2+4*i)):PI p:=by
 obtain⟨G,n2,H⟩:=nJ h;intro f o i hi;rw[u]at o;rw[y]at hi;have e:=H f o;have W:(M.code s (M.bt s (M.pos s f)) (M.bt s 0) (M.bt s (M.pos s f+1)) (M.pos s f+2) (M.bt s (M.pos s f+1))).2=true:=by
  unfold M.fn at e;by_cases a:M.tk s (M.pos s f) 2 8=true
  .rw[aj a]at e;by_cases b:M.tk s (M.pos s f+1) 1 200=true
   .rw[aj b]at e;exact e
   rw[aa b]at e;cases e
  rw[aa a]at e;cases e
 rw[J];exact E7 (hT f i o hi) (M.tw e).2.1 G (vM _ _ W i hi) (Z f) u (y f)
end F
namespace D
open F
def vJ(s:ByteArray)(cbs ccs:Nat->Nat)(j:Nat):Value:=if j % 2=0 then .int .i64 (M.bt s (M.pos s (j / 2)):Int) else .slice (some ⟨cbs (j / 2),0,none⟩) (M.bt s (M.pos s (j / 2)+1)) (ccs (j / 2))
def Be(s:ByteArray)(k j:Nat):Value:=.int .i64 (M.bt s (M.pos s k+2+j):Int)
def Ea(s:ByteArray)(base:Nat)(w:World)(k:Nat)(cbs ccs:Nat->Nat):Prop:=
 ∀i,i<k->w.ownsRow base 90 4 (.slice (some ⟨cbs i,0,none⟩) (M.bt s (M.pos s i+1)) (ccs i)) (M.bt s (M.pos s i+1)) (rowP (M.bt s (M.pos s i+1)*4) (Be s i))/\∀j,j<i->cbs j<cbs i
theorem gw{w:World}{b u n m:Nat}{e:TypeId}{v:Value}{xs:List Value}(h:w.ownsRow b e n v m xs)(y:u<=b):w.ownsRow u e n v m xs:=by
 refine⟨h.1,?_⟩;rcases h.2 with o|⟨g,cap,i,o,H,G⟩
 .exact ag o
 exact ab ⟨g,cap,i,o,dH y H,G⟩
theorem Ea.of{s:ByteArray}{e k:Nat}{w w':World}{cbs ccs:Nat->Nat}(h:Ea s e w k cbs ccs)(o:∀i,i<k->w'.heap[cbs i]? = w.heap[cbs i]?):Ea s e w' k cbs ccs:=λi hi=>⟨dD (h i hi).1 (λx u=>by
 have:x=cbs i:=by simpa[Value.ownBlock] using u.symm
 rw[this];exact o i hi),(h i hi).2⟩
theorem Ea.lt{s:ByteArray}{e k:Nat}{w:World}{cbs ccs:Nat->Nat}(h:Ea s e w k cbs ccs){i:Nat}(hi:i<k):e<=cbs i/\cbs i<w.heap.size:=(h i hi).1.lt _ rfl
theorem yB(n:Nat)(P:Nat->Value)(a b:Value)(i:P (n*2)=a)(e:P (n*2+1)=b):rowP (n*2) P++[a,b]=rowP ((n+1)*2) P:=by
 unfold rowP;rw[show(n+1)*2=n*2+1+1 by omega,eA,eA,eP,eP,<-i,<-e];simp
theorem yA(n:Nat)(P:Nat->Value):rowP (n*4) P++[P (n*4),P (n*4+1),P (n*4+2),P (n*4+3)]=rowP ((n+1)*4) P:=by
 unfold rowP;rw[show(n+1)*4=n*4+1+1+1+1 by omega,eA,eA,eA,eA];simp
theorem vk{s:ByteArray}(h:(M.jO s).2=true):M.tk s 0 1 8=true/\M.pos s (M.bt s 0)=s.size:=by
 obtain⟨n1,n2,J⟩:=nJ h;unfold M.jO at h;by_cases e:M.tk s 0 1 8=true
 .rw[aj e]at h;have y:((M.fns s (M.bt s 0) 1 (M.bt s 0)).2 && decide ((M.fns s (M.bt s 0) 1 (M.bt s 0)).1=s.size))=true:=h;rw[Bool.and_eq_true]at y;have i:∀n k0,(∀k,k<n->(M.fn s (M.pos s (k0+k)) (M.bt s 0)).2=true)->(M.fns s (M.bt s 0) (M.pos s k0) n).1=M.pos s (k0+n):=by
   intro n;induction n with
   | zero=>intro k0 _;rfl
   | succ n W=>
    intro k0 G;have o:=G 0 (by omega);rw[Nat.add_zero]at o;have Z:(M.fn s (M.pos s k0) (M.bt s 0)).1=M.pos s (k0+1):=(M.tw o).1;unfold M.fns;rw[aj o,Z,W (k0+1) (λk u=>by rw[show k0+1+k=k0+(k+1) by omega];exact G (k+1) (by omega))];rw[show k0+1+n=k0+(n+1) by omega]
  have H:=i (M.bt s 0) 0 (λk u=>by rw[Nat.zero_add];exact J k u);rw[Nat.zero_add]at H;exact⟨e,H.symm.trans (dO y.2)⟩
 rw[aa e]at h;cases h
theorem pK{s:ByteArray}{p f:Nat}(h:(M.fn s p f).2=true):M.tk s p 2 8=true/\M.tk s (p+1) 1 200=true/\∀i,i<M.bt s (p+1)->(M.ins s (p+2+4*i) (M.bt s p) f (M.bt s (p+1))).2=true:=by
 unfold M.fn at h;by_cases o:M.tk s p 2 8=true
 .rw[aj o]at h;by_cases e:M.tk s (p+1) 1 200=true
  .rw[aj e]at h;exact⟨o,e,λi hi=>vM _ _ h i hi⟩
  rw[aa e]at h;cases h
 rw[aa o]at h;cases h
def LF(s:ByteArray)(w w':World)(e:Ending):Prop:=∃gb cp cbs ccs,e=.returned (.tuple #[.slice (some ⟨gb,0,none⟩) (M.bt s 0) cp,.int .i64 0,.bool true])/\w'.ownsRow (w.heap.size+1) 89 2 (.slice (some ⟨gb,0,none⟩) (M.bt s 0) cp) (M.bt s 0) (rowP (M.bt s 0*2) (vJ s cbs ccs))/\Ea s (w.heap.size+1) w' (M.bt s 0) cbs ccs/\Below w.heap.size w w'
theorem pr(s:ByteArray)(w:World)(hs:s.size<=maxLen)(hs2:s.size<=140737488355328)(hok:(M.jO s).2=true): Calls prog 35 #[.string s] w λe w'=>LF s w w' e:=by
 have HS:=az hs;obtain⟨n1,n2,hfn⟩:=nJ hok;obtain⟨t0,hend⟩:=vk hok;have HT0:=az t0;have HFN:=az hfn;have HEN:=az hend;clear hs hok hfn t0 hend;obtain⟨i1,hi1,hz10,hz11,hz12⟩:=info_parts Tryz.Dk;obtain⟨i2,hi2,hz20,hz21,hz22⟩:=info_parts Tryz.Dl;generalize hF:M.bt s 0=F at *;have HF:=az hF;go_in;go_wp2_with fail
 refine(iN w.heap.size s 0 1 8 1 8 (w.alloc (jc s 0 false)) (bf w _) HS rfl rfl HT0).mono ?_;rintro e w1 ⟨rfl,hh,hg⟩;rw[hF];clear hF;have KB:Hid (w1.heap[w.heap.size]? = some (jc s ((M.pos s 0:Nat):Int) false)):=hh;have KL:=az (mY hg);clear hh hg;go_wp2_with fail
 go_loopw [7,8] (λv i wr=>∃(k:Nat) (ad:Option Addr) (cp:Nat) (cbs ccs:Nat->Nat),k<=F/\i=.int .i64 k/\v=.slice ad k cp/\Hid (wr.heap[w.heap.size]? = some (jc s ((M.pos s k:Nat):Int) false))/\Hid (Below w.heap.size w wr)/\Hid (wr.ownsRow (w.heap.size+1) 89 2 (.slice ad k cp) k (rowP (k*2) (vJ s cbs ccs)))/\Hid (Ea s (w.heap.size+1) wr k cbs ccs)) (λ_ i _=>F-(intOf i).toNat)
 case atStart=>exact⟨0,none,0,λ_=>0,λ_=>0,by omega,rfl,rfl,KB,KL,dJ _ _ _ _,(λi hi=>by omega)⟩
 case round=>
  clear KB KL;obtain⟨k,ad,cp,cbs,ccs,hk,rfl,rfl,rB,rL,rO,rC⟩:=hrel;by_cases hlt:k<F
  .obtain⟨f1,f2,f3⟩:=pK (HFN k hlt);obtain⟨_,a1,a2⟩:=M.fK f1;obtain⟨_,l1,l2⟩:=M.fK f2;have HF1:=az f1;have HF2:=az f2;have HF3:=az f3;clear f1 f2 f3;have y2:=(fZ rB).2.2;generalize hR:M.bt s (M.pos s k)=R at *;generalize hL:M.bt s (M.pos s k+1)=L at *;have HRL:=az (ay hR hL);clear hR hL;go_wp2_with fail
   refine(iN w.heap.size s (M.pos s k) 2 8 2 8 wr rB HS rfl rfl HF1).mono ?_;rintro e w3 ⟨rfl,hh,hg⟩;rw[HRL.1];have KB3:=az hh;have KL3:=az (rL.trans (jM hg rL.size));have hne:(Value.slice ad k cp).ownBlock=none\/(Value.slice ad k cp).ownBlock≠some w.heap.size:=by
    right;intro e;have:=(rO.lt _ e).1;omega
   have KO3:=az (rO.kept hg hne);have KC3:=az (rC.of (λi hi=>hg.block _ (rC.lt hi).2 (by intro e;injection e with e;have:=(rC.lt hi).1;omega)));clear hh hg rB rL rO rC y2;have hgN:=bz KB3;have KV:=az (λx hx=>(KO3.lt x hx).2);have KV2:Hid (∀i,i<k->w.heap.size+1<=cbs i/\cbs i<w3.heap.size):=λi hi=>KC3.lt hi;go_wp2_with fail
   refine(iN w.heap.size s (M.pos s k+1) 1 200 1 200 (w3.alloc (.cells #[.int .i64 R,.slice none 0 0] 89)) (ga KB3 _) HS rfl rfl HF2).mono ?_;rintro e w4 ⟨rfl,hh,hg⟩;rw[HRL.2];have KB4:Hid (w4.heap[w.heap.size]? = some (jc s ((M.pos s k+2+4*0:Nat):Int) false)):=hh;have KL4:=az ((KL3.alloc (by omega) _).trans (jM hg (by simp;omega)));have KO4:=az ((KO3.alloc _).kept hg hne);have KC4:=az (KC3.of (λi hi=>(hg.block _ (by simp;have:=(KV2 i hi).2;omega) (by intro e;injection e with e;have:=(KV2 i hi).1;omega)).trans (ak _ _ _ (KV2 i hi).2)));have KF4:=az (cm hg (bf w3 _) (by intro e;injection e;omega));clear hh hg KB3 KL3 KO3 KC3;generalize w3.heap.size=g at *;go_wp2_with fail
   go_loopw [11] (λi wx=>∃(j:Nat) (ad':Option Addr) (cp':Nat),j<=L/\i=.int .i64 j/\Hid (wx.heap[w.heap.size]? = some (jc s ((M.pos s k+2+4*j:Nat):Int) false))/\Hid (wx.heap[g]? = some (.cells #[.int .i64 R,.slice ad' j cp'] 89 (0,0)))/\Hid (wx.ownsRow (g+1) 90 4 (.slice ad' j cp') j (rowP (j*4) (Be s k)))/\Hid (wx.ownsRow (w.heap.size+1) 89 2 (.slice ad k cp) k (rowP (k*2) (vJ s cbs ccs)))/\Hid (Ea s (w.heap.size+1) wx k cbs ccs)/\Hid (Below w.heap.size w wx)) (λi _=>L-(intOf i).toNat)
   case atStart=>exact⟨0,none,0,by omega,rfl,KB4,KF4,dJ _ _ _ _,KO4,KC4,KL4⟩
   case round=>
    clear KB4 KL4 KO4 KF4 KC4;obtain⟨j,ad',cp',hj,rfl,sB,sF,sY,sO,sC,sL⟩:=hrel;obtain⟨y0,y1,y2⟩:=fZ sB;obtain⟨_,d0,d1,e0,e1⟩:=jG sF;by_cases hjl:j<L
    .have HIK:Hid ((M.ins s (M.pos s k+2+4*j) R F L).2=true):=HF3 j hjl;go_wp2_with fail
     refine(DM w.heap.size s (M.pos s k+2+4*j) R F L R F L wr sB HS hs2 rfl rfl rfl (by omega) n1 a2 n2 HIK).mono ?_;rintro e w5 ⟨rfl,hh,hg⟩;have hne':(Value.slice ad' j cp').ownBlock=none\/(Value.slice ad' j cp').ownBlock≠some w.heap.size:=by
      right;intro e;have:=(sY.lt _ e).1;omega
     have KB5:Hid (w5.heap[w.heap.size]? = some (jc s ((M.pos s k+2+4*(j+1):Nat):Int) false)):=hh;have KF5:=az (cm hg sF (by intro e;injection e;omega));have KY5:=az (sY.kept hg hne');have KO5:=az (sO.kept hg hne);have KC5:=az (sC.of (λi hi=>hg.block _ (sC.lt hi).2 (by intro e;injection e with e;have:=(sC.lt hi).1;omega)));have KL5:=az (sL.trans (jM hg sL.size));have HB4:Hid (Be s k (j*4)=.int .i64 (M.bt s (M.pos s k+2+4*j):Int)/\Be s k (j*4+1)=.int .i64 (M.bt s (M.pos s k+2+4*j+1):Int)/\Be s k (j*4+2)=.int .i64 (M.bt s (M.pos s k+2+4*j+2):Int)/\Be s k (j*4+3)=.int .i64 (M.bt s (M.pos s k+2+4*j+3):Int)):=by
      unfold Be;rw[show M.pos s k+2+(j*4)=M.pos s k+2+4*j by omega,show M.pos s k+2+(j*4+1)=M.pos s k+2+4*j+1 by omega,show M.pos s k+2+(j*4+2)=M.pos s k+2+4*j+2 by omega,show M.pos s k+2+(j*4+3)=M.pos s k+2+4*j+3 by omega];exact⟨rfl,rfl,rfl,rfl⟩
     clear hh hg sB sF sY sO sL sC y2 d0 d1 e0 e1 hne';generalize M.bt s (M.pos s k+2+4*j)=b0 at *;generalize M.bt s (M.pos s k+2+4*j+1)=b1 at *;generalize M.bt s (M.pos s k+2+4*j+2)=b2 at *;generalize M.bt s (M.pos s k+2+4*j+3)=b3 at *;obtain⟨hz5,d0,d1,e0,e1⟩:=jG KF5;have hz6:g<w5.heap.size+1:=by omega
     go_wp2_with (at_builtin;refine wpList_append_own _ rfl (.tmp 54) (.tmp 56) 87 rfl (g+1) 90 i1 _ 4 32 underlying87 hi1 hz10 hz11 hz12 rfl (by decide) _ _ _ rfl ((KY5.alloc _).alloc _) ⟨w5.heap.size+1,0,none⟩ 1 1 [.int .i64 b0,.int .i64 b1,.int .i64 b2,.int .i64 b3] rfl rfl ?c1 ?c2 ?c3 ?c4 ?c5 ?_)
     case c1=>exact xN w5 _ _ _ _ _ _
     case c2=>intro u hu;simp at hu;rcases hu with rfl|rfl|rfl|rfl<;>rfl
     case c3=>unfold maxLen;omega
     case c4=>omega
     case c5=>simp;omega
     intro v' w6 hown hgrow _;obtain⟨g',cap',rfl⟩:∃g' cap',v'=.slice (some ⟨g',0,none⟩) (j+1) cap':=by
      rcases hown.2 with⟨_,h⟩|⟨g',cap',_,h,_⟩
      .omega
      exact⟨g',cap',h⟩
     have hnN:∀x,x<g+1->some x≠(Value.slice ad' j cp').ownBlock:=by
      intro x hx e;have:=(KY5.lt _ e.symm).1;omega
     have KB6:=az (cm hgrow (ga (ga KB5 _) _) (hnN _ (by omega)));have KF6:=az (cm hgrow ((ak _ _ _ (by simp;omega)).trans ((ak _ _ _ hz5).trans KF5)) (hnN _ (by omega)));have KL6:=az (((KL5.alloc (by omega) _).alloc (by simp;omega) _).grown hgrow (by simp;omega) (λx hx=>by have:=(KY5.lt _ hx).1;omega));have KY6:Hid (w6.ownsRow (g+1) 90 4 (.slice (some ⟨g',0,none⟩) (j+1) cap') (j+1) (rowP ((j+1)*4) (Be s k))):=by
      have h9:=hown;rw[<-yA,HB4.1,HB4.2.1,HB4.2.2.1,HB4.2.2.2];exact h9
     have KO6:=az (((KO5.alloc _).alloc _).kept hgrow (by cases hv:(Value.slice ad k cp).ownBlock with|none=>exact ag rfl|some x=>exact ab (hnN x (by have:=KV x hv;omega))));have KC6:Hid (Ea s (w.heap.size+1) w6 k cbs ccs):=KC5.of (λi hi=>by
      have h7:=(KV2 i hi).2;rw[hgrow.block _ (by simp;omega) (hnN _ (by omega)),ak _ _ _ (by simp;omega),ak _ _ _ (by omega)])
     clear hown hgrow KB5 KF5 KY5 KO5 KL5 KC5 d0 d1 e0 e1 HB4;obtain⟨hz7,d0,d1,e0,e1⟩:=jG KF6;go_wp2_with fail
     go_roundw
     case rel=>exact⟨j+1,some ⟨g',0,none⟩,cap',by omega,by go_num,gL KB6 (by omega),wD KF6 _,ownsRow_setCell_below KY6 (by show g<g+1;omega) _,KO6.kept (bp (ax w6 (some g)) (ag rfl) _) (by right;intro e;have:=KV _ e;omega),KC6.of (λi hi=>af _ _ _ _ (by show cbs i≠g;have:=(KV2 i hi).2;omega)),KL6.setCell (by show w.heap.size<=g;omega) _⟩
     case measure=>simp[intOf];omega
    obtain rfl:j=L:=by omega
    go_wp2_with (at_builtin;refine wpList_append_own _ rfl (.tmp 59) (.tmp 61) 83 rfl (w.heap.size+1) 89 i2 _ 2 32 underlying83 hi2 hz20 hz21 hz22 rfl (by decide) _ _ _ rfl (sO.alloc _) ⟨wr.heap.size,0,none⟩ 1 1 [.int .i64 R,.slice ad' j cp'] rfl rfl ?c1 ?c2 ?c3 ?c4 ?c5 ?_)
    case c1=>exact uP wr _ _ _
    case c2=>intro u hu;simp at hu;rcases hu with rfl|rfl<;>rfl
    case c3=>unfold maxLen;omega
    case c4=>omega
    case c5=>have:=sL.size;simp;omega
    intro v' w6 hown hgrow _;obtain⟨g',cap',rfl⟩:∃g' cap',v'=.slice (some ⟨g',0,none⟩) (k+1) cap':=by
     rcases hown.2 with⟨_,h⟩|⟨g',cap',_,h,_⟩
     .omega
     exact⟨g',cap',h⟩
    obtain⟨gb,rfl⟩:∃gb,ad'=some ⟨gb,0,none⟩:=by
     rcases sY.2 with⟨_,h⟩|⟨g2,cap2,_,h,_⟩
     .omega
     injection h with h _ _;exact⟨g2,h⟩
    have hnN:some w.heap.size≠(Value.slice ad k cp).ownBlock:=by
     intro e;have:=(sO.lt _ e.symm).1;omega
    have hgb:=sY.lt gb rfl;have KB6:Hid (w6.heap[w.heap.size]? = some (jc s ((M.pos s (k+1):Nat):Int) false)):=by
     have h9:=cm hgrow (ga sB (.cells #[.int .i64 R,.slice (some ⟨gb,0,none⟩) j cp'] 89)) hnN;have e9:M.pos s (k+1)=M.pos s k+2+4*j:=by
      show M.pos s k+2+4*M.bt s (M.pos s k+1)=_;rw[HRL.2]
     rw[e9];exact h9
    have KL6:=az ((sL.alloc (by have:=bz sB;omega) _).grown hgrow (by have:=bz sB;simp;omega) (λx hx=>by have:=(sO.lt _ hx).1;omega));have KC6:Hid (Ea s (w.heap.size+1) w6 (k+1) (λi=>if i=k then gb else cbs i) (λi=>if i=k then cp' else ccs i)):=λi hi=>by
     have hblk:∀x,x<wr.heap.size->(∀y,(Value.slice ad k cp).ownBlock=some y->y≠x)->w6.heap[x]? = wr.heap[x]?:=λx hx hy=>by
      rw[hgrow.block _ (by simp;omega) (λe=>hy x e.symm rfl),ak _ _ _ hx]
     have hty:∀y,(Value.slice ad k cp).ownBlock=some y->∃cur,wr.heap[y]? = some (.cells cur 89 (0,0)):=λy hy=>by
      obtain⟨_,_,cur,h1⟩:=dA sO y hy;exact⟨cur,h1⟩
     by_cases e:i=k
     .subst e;simp only[aj];rw[HRL.2];refine⟨dD (gw sY (by omega)) (λx hx=>?_),λj' hj'=>?_⟩
      .have hx':x=gb:=by simpa[Value.ownBlock] using hx.symm
       rw[hx'];refine hblk gb hgb.2 (λy hy hyx=>?_);have:=KV y hy;omega
      rw[aa (by omega)];have:=(KV2 j' hj').2;omega
     have hik:i<k:=by omega
     simp only[aa e];obtain⟨c1,c2⟩:=sC i hik;refine⟨dD c1 (λx hx=>?_),λj' hj'=>?_⟩
     .have hx':x=cbs i:=by simpa[Value.ownBlock] using hx.symm
      rw[hx'];refine hblk _ (sC.lt hik).2 (λy hy hyx=>?_);obtain⟨cur,h1⟩:=hty y hy;obtain⟨_,_,cur2,h2⟩:=dA c1 (cbs i) rfl;rw[hyx,h2]at h1;injection h1 with h1;injection h1 with _ h1 _;exact ch h1 (by decide)
     rw[aa (by omega)];exact c2 j' hj'
    have KO6:Hid (w6.ownsRow (w.heap.size+1) 89 2 (.slice (some ⟨g',0,none⟩) (k+1) cap') (k+1) (rowP ((k+1)*2) (vJ s (λi=>if i=k then gb else cbs i) (λi=>if i=k then cp' else ccs i)))):=by
     have h9:=hown;rw[<-yB k _ (.int .i64 R) (.slice (some ⟨gb,0,none⟩) j cp') (by
      unfold vJ;rw[aj (by omega),show k*2 / 2=k by omega,HRL.1]) (by
      unfold vJ;rw[aa (by omega),show(k*2+1) / 2=k by omega];show Value.slice (some ⟨if k=k then gb else cbs k,0,none⟩) (M.bt s (M.pos s k+1)) (if k=k then cp' else ccs k)=_;rw[aj rfl,aj rfl,HRL.2])]
     have e9:rowP (k*2) (vJ s (λi=>if i=k then gb else cbs i) (λi=>if i=k then cp' else ccs i))=rowP (k*2) (vJ s cbs ccs):=by
      unfold rowP;refine List.map_congr_left (λx hx=>?_);have hx':=eJ.1 hx;show(if x % 2=0 then _ else Value.slice (some ⟨if x / 2=k then gb else cbs (x / 2),0,none⟩) (M.bt s (M.pos s (x / 2)+1)) (if x / 2=k then cp' else ccs (x / 2)))=_;rw[aa (show ¬x / 2=k by omega),aa (show ¬x / 2=k by omega)];rfl
     rw[e9];exact h9
    clear hown hgrow sB sF sY sO sL sC y2 d0 d1 e0 e1 hnN;go_wp2_with fail
    go_roundw
    case rel=>exact⟨k+1,some ⟨g',0,none⟩,cap',_,_,by omega,by go_num,rfl,KB6,KL6,KO6,KC6⟩
    case measure=>simp[intOf];omega
  obtain rfl:k=F:=by omega
  obtain⟨y0,y1,y2⟩:=fZ rB;have hpe:=HEN.out;rw[hpe]at y1;obtain⟨gb,rfl⟩:∃gb,ad=some ⟨gb,0,none⟩:=by
   rcases rO.2 with⟨_,h⟩|⟨g2,cap2,_,h,_⟩
   .omega
   injection h with h _ _;exact⟨g2,h⟩
  clear hpe;have g1:decide ((s.size:Int)<s.size)=false:=by simp
  go_wp2_with fail
  go_ret3
  rw[<-HF.out]at rO rC ⊢;exact⟨gb,cp,cbs,ccs,rfl,rO,rC,rL⟩
end D
namespace F
open D
def Ej(l:List Nat):ByteArray:=⟨(l.map UInt8.ofNat).toArray⟩
def AB(l:List Nat):List Value:=l.map (λ(x:Nat)=>Value.int .u8 (x:Int))
theorem Tryz.Hp:(prog.info? 5).map (λi=>(i.zero,i.size,i.bytes))=some (some (.int .u8 0),1,1):=by kernel_rfl
theorem ub(l:List Nat):∀(s:ByteArray),(l.map (λ(x:Nat)=>(x:Int))).foldl (λr n=>r.push (UInt8.ofNat n.toNat)) s=⟨s.data++(l.map UInt8.ofNat).toArray⟩:=by
 induction l with
 |nil=>intro s;simp
 |cons x l e=>
  intro s;simp only[List.map_cons,List.foldl_cons];rw[e];simp[ByteArray.push]
theorem DB(l:List Nat):(l.map (λ(x:Nat)=>(x:Int))).foldl (λr n=>r.push (UInt8.ofNat n.toNat)) ByteArray.empty=Ej l:=by
 rw[ub];unfold Ej;congr 1
 exact Array.empty_append
def Js(o:Nat):Bool:=o == 15 || o == 17 || o == 18 || o == 19 || o == 21
def re(s:ByteArray)(k i:Nat):List Nat:=if Js (M.bt s (M.pos s k+2+4*i))=true then[16,0,0,0] else[M.bt s (M.pos s k+2+4*i),M.bt s (M.pos s k+2+4*i+1),M.bt s (M.pos s k+2+4*i+2),M.bt s (M.pos s k+2+4*i+3)]
def kV(s:ByteArray)(k:Nat):Nat->List Nat |0=>[] |j+1=>kV s k j++re s k j
def ig(s:ByteArray):Nat->List Nat |0=>[M.bt s 0] |k+1=>ig s k++[M.bt s (M.pos s k),M.bt s (M.pos s k+1)]++kV s k (M.bt s (M.pos s k+1))
theorem Dj(s:ByteArray)(k i:Nat):(re s k i).length=4:=by unfold re;split<;>rfl
theorem kO(s : ByteArray) (k : Nat) : ∀ j, (kV s k j).length = 4 * j
  | 0 => rfl
  | j + 1 => by
    unfold kV
    rw [bo, kO s k j, Dj]
    omega
theorem mh(s : ByteArray) : ∀ k, (ig s k).length = M.pos s k
  | 0 => rfl
  | k + 1 => by
    unfold ig
    rw [bo, bo, mh s k, kO]
    rfl
theorem uN(l m:List Nat):AB (l++m)=AB l++AB m:=by unfold AB;simp
theorem uZ{n j:Nat}(P:Nat->Value)(h:j<n):(rowP n P)[j]? = some (P j):=by unfold rowP;simp[h]
theorem qg{w:World}{i sz g n cap j:Nat}{e:TypeId}{x:Value}{xs:List Value}(h:w.ownsRow i e sz (.slice (some ⟨g,0,none⟩) n cap) n xs)(hx:xs[j]? = some x):w.cell? ⟨g,j,none⟩=some x:=by
 rcases h.2 with⟨h,_⟩|⟨g',J,o,G,_,H,_,_,W,y⟩
 .cases h
 cases G;have u:j<n*sz:=by
  have:=(bu.1 hx).1;have:=h.1;omega
 have:o[j]? = some x:=by
  rw[<-y,dh,aj u]at hx;simpa using hx
 simp[World.cell?,H,this]
structure Tx(w:World) (l:List Nat) (b:Value) (wr:World):Prop where
 o:wr.ownsRow w.heap.size 5 1 b l.length (AB l)
 b:Below w.heap.size w wr
theorem mL(n:Nat)(h:n<256):IntKind.u8.wrap (n:Int)=(n:Int):=by simp[IntKind.wrap,IntKind.bits,IntKind.signed];omega
theorem JV{w:World}{b:Nat}{x y z u:Value}{T:TypeId}(h:w.heap[b]? = some (.cells #[x,y,z,u] T (0,0))):w.cell? ⟨b,0,none⟩=some x/\w.cell? ⟨b,1,none⟩=some y/\w.cell? ⟨b,2,none⟩=some z/\w.cell? ⟨b,3,none⟩=some u/\b<w.heap.size:=⟨by simp[World.cell?,h],by simp[World.cell?,h],by simp[World.cell?,h],by simp[World.cell?,h],bz h⟩
theorem sP(s : ByteArray) : ∀ k d, M.pos s k ≤ M.pos s (k + d)
  | k, 0 => bj _
  | k, d + 1 => by
    have := sP s k d
    show _ ≤ M.pos s (k + d) + 2 + 4 * _
    omega
theorem Tx.conv{w wr:World}{l:List Nat}{g c:Nat}(h:Tx w l (.slice (some ⟨g,0,none⟩) l.length c) wr):(loadCells ⟨g,0,none⟩ l.length).run prog wr=.ok ((l.map (λ(x:Nat)=>(x:Int))).map (Value.int .u8)).toArray wr:=by
 have:=run_loadCells_list (P:=prog) wr ⟨g,0,none⟩ (AB l) (λq v e=>?_)
 .have i:(AB l).length=l.length:=by simp[AB]
  rw[i]at this;rw[this];congr 2
  unfold AB;rw[List.map_map];rfl
 rcases h.o.2 with⟨h,_⟩|⟨g',y,u,J,_,W,_,_,Y,H⟩
 .cases h
 cases J;rw[Addr.add_mid];have G:u[q]? = some v:=by
  rw[<-H]at e;rw[dh]at e;split at e
  .simpa using e
  cases e
 simp[World.cell?,W,G]
theorem GB(s:ByteArray)(w:World)(hs:s.size<=maxLen)(bE:s.size<=140737488355328)(a8:(M.jO s).2=true): Calls prog 18 #[.string s] w λe w'=>e=.returned (.string (Ej (ig s (M.bt s 0))))/\Below w.heap.size w w':=by
 obtain⟨i0,hi,aE,aK,aM⟩:=info_parts Tryz.Hp;have HS:Hid (s.size<=maxLen):=hs;obtain⟨n1,n8,b4⟩:=nJ a8;have aC:=(vk a8).2;have bD:=az a8;have aZ:=az b4;have aL:Hid (∀k,k<=M.bt s 0->M.pos s k<=s.size):=λk hk=>by
  have:=sP s k (M.bt s 0-k);rw[show k+(M.bt s 0-k)=M.bt s 0 by omega,aC]at this;exact this
 clear hs a8 b4 aC;go_in;go_wp2_with fail
 refine(pr s _ HS.out bE bD.out).mono ?_;rintro e w1 ⟨gb,cp,cbs,ccs,rfl,hR,hC,hB⟩;have aS:=az hB;have HR:=az hR;have HC:=az hC;have aH:=(dA hR gb rfl).2.1;have q0:=mL (M.bt s 0) (M.my s 0);have aG:Hid (Tx w1 (ig s 0) (.slice (some ⟨w1.heap.size,0,none⟩) 1 1) (w1.alloc (.cells #[.int .u8 (M.bt s 0:Int)] 5))):=⟨⟨by simp[AB,ig],ab ⟨w1.heap.size,1,#[.int .u8 (M.bt s 0:Int)],rfl,bj _,bf w1 _,bj 1,by decide,rfl,rfl⟩⟩,(eM _ _).alloc (bj _) _⟩;clear hB hR hC;obtain⟨F,hF⟩:∃F,F=M.bt s 0:=⟨_,rfl⟩;have bH:=az hF;rw[<-hF]at n1 n8 q0 aZ aL HR HC aG ⊢;clear hF;go_wp2_with fail
 generalize w1.alloc (.cells #[.int .u8 (F:Int)] 5)=w2 at *;go_loopw [6,7] (λb iv wr=>∃k,k<=F/\iv=.int .i64 k/\Hid (Tx w1 (ig s k) b wr)) (λ_ iv _=>F-(intOf iv).toNat)
 case atStart=>exact⟨0,by omega,rfl,aG⟩
 case round=>
  obtain⟨k,hk,rfl,rT⟩:=hrel;clear aG;have a9:=mh s k;have bL:1<=M.pos s k:=by have:=sP s 0 k;rw[Nat.zero_add]at this;exact this
  have bN:=aL.out k hk;obtain⟨gq,cq,rfl⟩:=dM rT.out.o (by omega);rw[a9];have aA:=az a9;have HO:Hid (wr.ownsRow w1.heap.size 5 1 (.slice (some ⟨gq,0,none⟩) (M.pos s k) cq) (M.pos s k) (AB (ig s k))):=by
   have:=rT.out.o;rw[a9]at this;exact this
  have Z:=az rT.out.b;clear a9 rT;by_cases aB:k<F
  .have bK:(k:Int)<(F:Int):=by omega
   obtain⟨f1,f2,f3⟩:=pK (aZ.out k aB);obtain⟨_,a1,a2⟩:=M.fK f1;obtain⟨_,l1,l2⟩:=M.fK f2;have aQ:=aL.out (k+1) aB;have aD:M.pos s (k+1)=M.pos s k+2+4*M.bt s (M.pos s k+1):=rfl;rw[aD]at aQ;have c0:w1.cell? ⟨gb,k*2,none⟩=some (.int .i64 (M.bt s (M.pos s k):Int)):=by
    refine qg HR.out ?_;rw[uZ _ (by omega)];unfold D.vJ;rw[aj (by omega),show k*2 / 2=k by omega]
   have c1:w1.cell? ⟨gb,k*2+1,none⟩=some (.slice (some ⟨cbs k,0,none⟩) (M.bt s (M.pos s k+1)) (ccs k)):=by
    refine qg HR.out ?_;rw[uZ _ (by omega)];unfold D.vJ;rw[aa (by omega),show(k*2+1) / 2=k by omega]
   have bB:=(HC.out.lt aB).2;have b8:Hid (∀j,j<M.bt s (M.pos s k+1)*4->w1.cell? ⟨cbs k,j,none⟩=some (Be s k j)):=λj hj=>qg (HC.out k aB).1 (uZ _ hj);have q1:=mL (M.bt s (M.pos s k)) (M.my s _);have q2:=mL (M.bt s (M.pos s k+1)) (M.my s _);clear f1 f2 f3 aD;have b7:Hid (∀i,re s k i=if Js (M.bt s (M.pos s k+2+4*i))=true then[16,0,0,0] else[M.bt s (M.pos s k+2+4*i),M.bt s (M.pos s k+2+4*i+1),M.bt s (M.pos s k+2+4*i+2),M.bt s (M.pos s k+2+4*i+3)]):=λ_=>rfl;have b6:Hid (ig s (k+1)=ig s k++[M.bt s (M.pos s k),M.bt s (M.pos s k+1)]++kV s k (M.bt s (M.pos s k+1))):=rfl;generalize hL:M.bt s (M.pos s k+1)=L at *;generalize hR:M.bt s (M.pos s k)=R at *;generalize aV:M.pos s k=pk at *;have b9:=az aV;clear aV hL hR;have lz:=Z.out.size;have d0:=(aw (a:=⟨gb,k*2,none⟩) (Z.out.block gb aH)).trans c0;have d1:=(aw (a:=⟨gb,k*2+1,none⟩) (Z.out.block gb aH)).trans c1
   go_wp2_with fail
   go_cut [6] (λv wx=>Hid (Tx w1 (ig s k++[R,L]) v wx))
   case first=>
    go_region_law (refine qS rfl (.tmp 29) (.tmp 43) 86 rfl w1.heap.size 5 i0 _ 1 1 Tryz.underlying86 hi aE aK aM rfl (by decide) (.slice (some ⟨gq,0,none⟩) pk cq) pk (AB (ig s k)) (by simp[Act.eval]) (xh (ur HO.out _)) ⟨wr.heap.size,0,none⟩ 2 2 [.int .u8 (R:Int),.int .u8 (L:Int)] (by simp[Act.eval]) rfl (by intro q u y;match q,y with|0,y=>(simp at y;subst y;simp[Addr.add,go_sem])|1,y=>(simp at y;subst y;simp[Addr.add,go_sem])) (by simp[Value.oneCell']) (by unfold maxLen;omega) (by omega) (by simp;omega) ?_;intro v' w6 H G;have a7:=az ((By (Z.out.trans (((eM _ _).alloc (by omega) _).drew)) G (xh (ur HO.out _)) (bj _)));have bG:=az H;clear H G)
    all_goals
     go_wp2_with fail
     go_meet
     case rel=>
      refine⟨?_,a7.out⟩;have e:=bG.out;rw[uN,bo,aA.out];exact e
   case rest=>
    obtain⟨wq,bA⟩:∃z:World,z=wc:=⟨_,rfl⟩;subst bA;have aY:Hid (Tx w1 (ig s k++[R,L]++kV s k 0) u6 wq):=by
     have:=hcut;rw[show kV s k 0=[] from rfl,eB];exact this
    clear hcut d0 d1 lz HO Z;go_wp2_with fail
    go_loopw [6,8] (λb jv wx=>∃j,j<=L/\jv=.int .i64 j/\Hid (Tx w1 (ig s k++[R,L]++kV s k j) b wx)) (λ_ jv _=>L-(intOf jv).toNat)
    case atStart=>exact⟨0,by omega,rfl,aY⟩
    case round=>
     clear aY;obtain⟨j,hj,rfl,rT⟩:=hrel;have a0:Hid ((ig s k++[R,L]++kV s k j).length=pk+2+4*j):=by
      show _=_;rw[bo,bo,aA.out,kO];rfl
     obtain⟨g2,c2,rfl⟩:=dM rT.out.o (by rw[a0.out];omega);have a3:Hid (wr.ownsRow w1.heap.size 5 1 (.slice (some ⟨g2,0,none⟩) (pk+2+4*j) c2) (pk+2+4*j) (AB (ig s k++[R,L]++kV s k j))):=by
      have:=rT.out.o;rw[a0.out]at this;exact this
     obtain⟨l0,aI⟩:∃l0,l0=ig s k++[R,L]++kV s k j:=⟨_,rfl⟩;have aN:=az aI;rw[<-aI]at a3 a0 rT ⊢;clear aI;have Y:=az rT.out.b;have b5:=Y.out.size;have d1:=(aw (a:=⟨gb,k*2+1,none⟩) (Y.out.block gb aH)).trans c1
     rw[a0.out];clear rT;by_cases bY:j<L
     .have aX:(j:Int)<(L:Int):=by omega
      have a6:∀q,q<4->wr.cell? ⟨cbs k,j*4+q,none⟩=some (.int .i64 (M.bt s (pk+2+4*j+q):Int)):=λq y=>by
       rw[aw (a:=⟨cbs k,j*4+q,none⟩) (Y.out.block (cbs k) bB),b8.out (j*4+q) (by omega)];unfold D.Be;rw[b9.out,show pk+2+(j*4+q)=pk+2+4*j+q by omega]
      have e0:=a6 0 (by omega);have e1:=a6 1 (by omega);have e2:=a6 2 (by omega);have e3:=a6 3 (by omega);simp only[Nat.add_zero]at e0;have w0:=mL _ (M.my s (pk+2+4*j));have bV:=mL _ (M.my s (pk+2+4*j+1));have bM:=mL _ (M.my s (pk+2+4*j+2));have bQ:=mL _ (M.my s (pk+2+4*j+3))
      clear a6;have aU:=az (b7.out j);generalize M.bt s (pk+2+4*j)=W at *;generalize M.bt s (pk+2+4*j+1)=b1 at *;generalize M.bt s (pk+2+4*j+2)=b2 at *;generalize M.bt s (pk+2+4*j+3)=b3 at *;by_cases k5:W=15\/W=17\/W=18\/W=19\/W=21
      .rcases k5 with rfl|rfl|rfl|rfl|rfl
       all_goals
        have a5:=bf wr (.cells #[.int .i64 16,.int .i64 0,.int .i64 0,.int .i64 0] 90);have a4:=az (a3.out.alloc (.cells #[.int .i64 16,.int .i64 0,.int .i64 0,.int .i64 0] 90));have J:=az (Y.out.alloc b5 (.cells #[.int .i64 16,.int .i64 0,.int .i64 0,.int .i64 0] 90));go_upto_region 15 with fail
        generalize wr.alloc (.cells #[.int .i64 16,.int .i64 0,.int .i64 0,.int .i64 0] 90)=wb at *;obtain⟨y0,y1,y2,y3,ly⟩:=JV a5;clear a5;go_wp2_with (at_builtin;refine wpList_append_own _ rfl (.tmp 87) (.tmp 100) 86 rfl w1.heap.size 5 i0 _ 1 1 Tryz.underlying86 hi aE aK aM rfl (by decide) _ _ _ rfl (a4.out.alloc _) ⟨wb.heap.size,0,none⟩ 4 4 [.int .u8 16,.int .u8 0,.int .u8 0,.int .u8 0] rfl rfl ?c1 ?c2 ?c3 ?c4 ?c5 ?_)
        try case c1=>intro q u y;match q,y with|0,y=>(simp at y;subst y;simp[Addr.add,go_sem])|1,y=>(simp at y;subst y;simp[Addr.add,go_sem])|2,y=>(simp at y;subst y;simp[Addr.add,go_sem])|3,y=>(simp at y;subst y;simp[Addr.add,go_sem])
        try case c2=>simp[Value.oneCell']
        try case c3=>unfold maxLen;omega
        try case c4=>omega
        try case c5=>have:=J.out.size;simp;omega
        intro v' w6 H G _;have a7:=az ((J.out.alloc (by have:=J.out.size;omega) _).grown G (by have:=J.out.size;simp;omega) (λx hx=>(a4.out.lt x hx).1));have aJ:Hid (Tx w1 (ig s k++[R,L]++kV s k (j+1)) v' w6):=by
         refine⟨?_,a7.out⟩;have aF:re s k j=[16,0,0,0]:=by rw[aU.out];rfl
         have aP:ig s k++[R,L]++kV s k (j+1)=l0++[16,0,0,0]:=by rw[<-aF,aN.out];show _++(kV s k j++re s k j)=_;simp only[dY]
         rw[aP,uN,bo,a0.out];exact H
        clear H G a4 J y0 y1 y2 y3 ly a3 Y;go_wp2_with fail
        go_roundw
        case rel=>exact⟨j+1,by omega,by go_num,aJ⟩
        case measure=>simp[intOf];omega
      have bS:((W:Int) == 15)=false:=dK.2 (by omega);have bR:¬((W:Int)=15):=by omega
      have c7:((W:Int) == 17)=false:=dK.2 (by omega);have bZ:¬((W:Int)=17):=by omega
      have bO:((W:Int) == 18)=false:=dK.2 (by omega);have bU:¬((W:Int)=18):=by omega
      have bT:((W:Int) == 19)=false:=dK.2 (by omega);have c6:¬((W:Int)=19):=by omega
      have bP:((W:Int) == 21)=false:=dK.2 (by omega);have bW:¬((W:Int)=21):=by omega
      clear k5;have a5:=bf wr (.cells #[.int .i64 (W:Int),.int .i64 (b1:Int),.int .i64 (b2:Int),.int .i64 (b3:Int)] 90);have a4:=az (a3.out.alloc (.cells #[.int .i64 (W:Int),.int .i64 (b1:Int),.int .i64 (b2:Int),.int .i64 (b3:Int)] 90));have J:=az (Y.out.alloc b5 (.cells #[.int .i64 (W:Int),.int .i64 (b1:Int),.int .i64 (b2:Int),.int .i64 (b3:Int)] 90));go_upto_region 15 with fail
      generalize wr.alloc (.cells #[.int .i64 (W:Int),.int .i64 (b1:Int),.int .i64 (b2:Int),.int .i64 (b3:Int)] 90)=wb at *;obtain⟨y0,y1,y2,y3,ly⟩:=JV a5;clear a5;go_wp2_with (at_builtin;refine wpList_append_own _ rfl (.tmp 87) (.tmp 100) 86 rfl w1.heap.size 5 i0 _ 1 1 Tryz.underlying86 hi aE aK aM rfl (by decide) _ _ _ rfl (a4.out.alloc _) ⟨wb.heap.size,0,none⟩ 4 4 [.int .u8 (W:Int),.int .u8 (b1:Int),.int .u8 (b2:Int),.int .u8 (b3:Int)] rfl rfl ?c1 ?c2 ?c3 ?c4 ?c5 ?_)
      try case c1=>intro q u y;match q,y with|0,y=>(simp at y;subst y;simp[Addr.add,go_sem])|1,y=>(simp at y;subst y;simp[Addr.add,go_sem])|2,y=>(simp at y;subst y;simp[Addr.add,go_sem])|3,y=>(simp at y;subst y;simp[Addr.add,go_sem])
      try case c2=>simp[Value.oneCell']
      try case c3=>unfold maxLen;omega
      try case c4=>omega
      try case c5=>have:=J.out.size;simp;omega
      intro v' w6 H G _;have a7:=az ((J.out.alloc (by have:=J.out.size;omega) _).grown G (by have:=J.out.size;simp;omega) (λx hx=>(a4.out.lt x hx).1));have aJ:Hid (Tx w1 (ig s k++[R,L]++kV s k (j+1)) v' w6):=by
       refine⟨?_,a7.out⟩;have aF:re s k j=[W,b1,b2,b3]:=by rw[aU.out];rw[aa (by simp[Js];omega)]
       have aP:ig s k++[R,L]++kV s k (j+1)=l0++[W,b1,b2,b3]:=by rw[<-aF,aN.out];show _++(kV s k j++re s k j)=_;simp only[dY]
       rw[aP,uN,bo,a0.out];exact H
      clear H G a4 J y0 y1 y2 y3 ly a3 Y;go_wp2_with fail
      go_roundw
      case rel=>exact⟨j+1,by omega,by go_num,aJ⟩
      case measure=>simp[intOf];omega
     have aX:¬((j:Int)<(L:Int)):=by omega
     have bJ:L=j:=by omega
     subst bJ;have bC:Hid (Tx w1 (ig s (k+1)) (.slice (some ⟨g2,0,none⟩) (pk+2+4*L) c2) wr):=by
      refine⟨?_,Y.out⟩;rw[b6.out,<-aN.out,a0.out];exact a3.out
     clear a3 Y;go_wp2_with fail
     go_roundw
     case rel=>exact⟨k+1,by omega,by go_num,bC⟩
     case measure=>simp[intOf];omega
  obtain rfl:F=k:=by omega
  have bF:=run_convert_bytes_string (P:=prog) wr 86 9 5 (some ⟨gq,0,none⟩) (M.pos s F) cq Tryz.underlying86 underlying5 underlying9;have aR:Tx w1 (ig s F) (.slice (some ⟨gq,0,none⟩) (ig s F).length cq) wr:=⟨by rw[aA.out];exact HO.out,Z.out⟩;have aO:=aR.conv;rw[aA.out]at aO;have aW:=run_bytesToString (P:=prog) wr ⟨gq,0,none⟩ (M.pos s F) cq _ aO;rw[aW,DB]at bF;have bI:Hid (Below w.heap.size w wr):=aS.out.trans (Z.out.mono aS.out.size);clear aW aO aR HO Z;go_wp2_with fail
  go_ret;refine⟨?_,bI.out⟩;rw[<-bH.out];rfl
theorem uO{L:List Nat}{j x:Nat}(h:L[j]? = some x)(hx:x<256):M.bt (Ej L) j=x:=by
 unfold M.bt Ej;simp[h];omega
theorem Al(s : ByteArray) (k : Nat) : ∀ n i, i < n → (kV s k n)[4 * i]? = (re s k i)[0]?
  | n + 1, i, h => by
    unfold kV
    by_cases e : i = n
    · subst e
      rw [dX (by rw [kO]; exact bj _), kO, Nat.sub_self]
    · rw [du (by rw [kO]; omega)]
      exact Al s k n i (by omega)
theorem sV(s : ByteArray) (k : Nat) : ∀ d, ∃ R, ig s (k + d) = ig s k ++ R
  | 0 => ⟨[], by simp⟩
  | d + 1 => by
    obtain ⟨R, h⟩ := sV s k d
    refine ⟨R ++ [M.bt s (M.pos s (k + d)), M.bt s (M.pos s (k + d) + 1)] ++ kV s (k + d) (M.bt s (M.pos s (k + d) + 1)), ?_⟩
    show ig s (k + d) ++ _ ++ _ = _
    rw [h]
    simp
theorem zL(s:ByteArray){k n:Nat}(h:k<n)(j:Nat)(i:j<2+4*M.bt s (M.pos s k+1)):(ig s n)[M.pos s k+j]? = ([M.bt s (M.pos s k),M.bt s (M.pos s k+1)]++kV s k (M.bt s (M.pos s k+1)))[j]?:=by
 obtain⟨R,hR⟩:=sV s (k+1) (n-k-1);rw[show k+1+(n-k-1)=n by omega]at hR;have e:ig s (k+1)=ig s k++([M.bt s (M.pos s k),M.bt s (M.pos s k+1)]++kV s k (M.bt s (M.pos s k+1))):=by
  show ig s k++_++_=_;rw[dY]
 rw[hR,e,du (by simp[mh,kO];omega),dX (by rw[mh];omega),mh];congr 1
 omega
theorem Gy(s:ByteArray):Tm (Ej (ig s (M.bt s 0))):=by
 have J:M.bt (Ej (ig s (M.bt s 0))) 0=M.bt s 0:=by
  obtain⟨R,hR⟩:=sV s 0 (M.bt s 0);rw[Nat.zero_add]at hR;exact uO (by rw[hR];rfl) (M.my s _)
 have u:∀k,k<M.bt s 0->M.bt (Ej (ig s (M.bt s 0))) (M.pos s k+1)=M.bt s (M.pos s k+1):=λk o=>uO (by rw[zL s o 1 (by omega)];rfl) (M.my s _);have H:∀k,k<=M.bt s 0->M.pos (Ej (ig s (M.bt s 0))) k=M.pos s k:=by
  intro k;induction k with
  |zero=>intro _;rfl
  |succ k G=>
   intro o;show M.pos _ k+2+4*M.bt _ (M.pos _ k+1)=M.pos s k+2+4*M.bt s (M.pos s k+1);rw[G (by omega),u k (by omega)]
 intro k i o hi;rw[J]at o;rw[H k (by omega)]at hi ⊢;rw[u k o]at hi;have y:(ig s (M.bt s 0))[M.pos s k+(2+4*i)]? = (re s k i)[0]?:=by
  rw[zL s o (2+4*i) (by omega),dX (by show 2<=_;omega),<-Al s k _ i hi];congr 1
  simp
 rw[show M.pos s k+2+4*i=M.pos s k+(2+4*i) by omega];by_cases e:Js (M.bt s (M.pos s k+2+4*i))=true
 .rw[uO (x:=16) (by rw[y];unfold re;rw[aj e];rfl) (by omega)];unfold N5;omega
 rw[uO (x:=M.bt s (M.pos s k+2+4*i)) (by rw[y];unfold re;rw[aa e];rfl) (M.my s _)];unfold Js at e;simp at e;exact⟨e.1.1.1.1,e.1.1.1.2,e.1.1.2,e.1.2,e.2⟩
