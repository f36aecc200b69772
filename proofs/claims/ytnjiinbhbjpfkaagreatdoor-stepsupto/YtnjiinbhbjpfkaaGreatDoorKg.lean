import Derived.Test.YtnjiinbhbjpfkaaGreatDoorKe
import Derived.Test.YtnjiinbhbjpfkaaGreatDoorKa
set_option maxRecDepth 100000
set_option maxHeartbeats 0
set_option linter.all false
namespace Go.Proofs.YtnjiinbhbjpfkaaGreatDoor
open Go.RowKit Go.Proofs.Tryz
namespace D
open F
variable {p : dz} {K K' : Nat} {s s' : Pl} {m m' : Dm} {ρ : Nat → Nat} {X : Nat → Prop}
theorem vS(s:Pl)(f:Nat)(u v:B.V){t:Nat}(h:t≠s.nt+1):(s.born f u v).T t=s.T t:=by
 unfold Pl.born;rw[oh _ h,oN _ _ h];exact mi s h
theorem FF(s:Pl)(f:Nat)(u v:B.V):((s.born f u v).T (s.nt+1)).fr=[⟨f,0,gh u v,(0,0,0,0)⟩]/\((s.born f u v).T (s.nt+1)).wh=some (2,0):=by
 unfold Pl.born;refine⟨?_,xB _ _ _ _⟩;rw[nO];show((Pl.dw _ _).T _).fr=_;rw[ku,rm];show((s.new).T (s.nt+1)).fr++_=_;rw[lM];rfl
theorem DV(s:Pl)(f:Nat)(u v:B.V)(a b:Nat):(s.born f u v).q a b=if a=2/\b=0 then s.q 2 0++[s.nt+1] else if a=5/\b=s.nt+1 then[] else s.q a b:=by
 unfold Pl.born;have hw:((s.more.push (s.nt+1) ⟨f,0,gh u v,(0,0,0,0)⟩).T (s.nt+1)).wh=none:=by
  rw[(rk _ _ _ _).1];show((s.new).T (s.nt+1)).wh=none;rw[lM];rfl
 show((Pl.dw _ _).eZ 2 0 _).q a b=_;rw[gd hw];by_cases e:a=2/\b=0
 .rw[aj e,e.1,e.2,fX];rfl
 rw[aa e,fL _ _ e];rfl
theorem eK.born(h:eK p K s m ρ){f:Nat}{u v:B.V}(hO:fS p s X)(a6:s.lv.length<p.mt)(hu:dN p s u)(hv:dN p s v):eK p K (s.born f u v) (m.born f (tr ρ u) (tr ρ v)) ρ:=by
 obtain⟨b1,b2,b3,b4⟩:=Ap s f u v;have W:(s.born f u v).nt=s.nt+1:=by unfold Pl.born;rw[iX];rfl
 obtain⟨j1,j2,j3,j4,j5,j6,j7,j8,j9,a5⟩:=iW (s.more.push (s.nt+1) ⟨f,0,gh u v,(0,0,0,0)⟩) 2 0 (s.nt+1);have a1:(s.born f u v).out=s.out++[(0,0)]:=j2;have a4:∀t,t∈s.lv->t≠s.nt+1:=λt ht e=>by have:=(hO.lt t ht).2;omega
 have J:∀t,t≠s.nt+1->(m.born f (tr ρ u) (tr ρ v)).T t=m.T t:=λt e=>aa (by rw[h.nt];exact e);have Z:(m.born f (tr ρ u) (tr ρ v)).T (s.nt+1)=⟨[⟨f,0,gh (tr ρ u) (tr ρ v),(0,0,0,0)⟩],1,0,0,0,0,(0,0)⟩:=aj (by rw[h.nt]);have H:=FF s f u v;have a0:∀t,t<=s.nt->1<=t->m9 (s.born f u v) t=m9 s t:=λt ht h1=>by
  unfold m9;rw[a1,ar,du (by rw[hO.ol];omega),<-ar]
 have hg:∀x,qw p (s.born f u v) x->dN p s x:=by
  rintro x (⟨c,i,a,o,hi,ha,e⟩|Y)
  .rw[b1]at o;by_cases ec:c=s.nt+1
   .subst ec;have h0:i=0:=by rw[H.1]at hi;simpa using hi
    subst h0;have hf:de (s.born f u v) (s.nt+1) 0=⟨f,0,gh u v,(0,0,0,0)⟩:=by unfold de;rw[H.1];rfl
    rw[hf]at e;rw[<-e];exact pn hu hv a
   have a3:c∈s.lv:=by
    rcases di.1 o with o|o
    .exact o
    exact ch (dL.1 o) ec
   have hf:de (s.born f u v) c i=de s c i:=gJ (by rw[vS s f u v ec]);rw[hf]at ha e;rw[vS s f u v ec]at hi;exact dN.root (ag ⟨c,i,a,a3,hi,ha,e⟩)
  rw[b3]at Y;exact dN.root (ab Y)
 obtain⟨k1,k2⟩:=h.cells (s':=s.born f u v) (m':=m.born f (tr ρ u) (tr ρ v)) b4 j8 hg ⟨rfl,rfl,rfl⟩;refine⟨by rw[W];show m.nt+1=_;rw[h.nt],?_,by show m.jo=_;rw[h.Ee];exact j4.symm,by show m.sp=_;rw[h.sp];exact a5.symm,by show m.ev=_;rw[h.ev];exact j9.symm,by show m.eY=_;rw[h.ck];exact j5.symm,λt ht=>?_,λt ht hn=>?_,k1,k2,λx Y=>?_,λa b G Y=>?_,λt ht=>?_,h.A,by rw[b1,bo];exact a6,h.B⟩
 .show m.q++[m.nt+1]=_;rw[DV,aj ⟨rfl,rfl⟩,h.q,h.nt]
 .rw[b1]at ht;by_cases e:t=s.nt+1
  .subst e;rw[Z];refine⟨by rw[H.1];rfl,λi hi=>?_,rfl,⟨λ_=>rfl,λ_ _=>rfl,λy e=>?_,λy e=>?_,λy e=>?_⟩⟩
   .rw[H.1]at hi ⊢;have h0:i=0:=by simpa using hi
    subst h0;refine⟨rfl,rfl,λe=>ch rfl e,λk _=>?_⟩;show gh (tr ρ u) (tr ρ v) k=tr ρ (gh u v k);unfold gh;split
    .rfl
    split
    .rfl
    rfl
   all_goals
    rw[H.2]at e;injection e with e;injection e with e _;exact ch e (by decide)
  rw[vS s f u v e,J t e];refine h.T t ?_;rcases di.1 ht with ht|ht
  .exact ht
  exact ch (dL.1 ht) e
 .rw[b1]at hn;have h1:t∉s.lv:=λe=>hn (ee _ e);have h2:t≠s.nt+1:=λe=>hn (List.mem_append_right _ (by simp[e]));have h3:t<=s.nt:=by have:=ht.2;rw[W]at this;omega
  rw[J t h2,a0 t h3 ht.1];exact h.O t ⟨ht.1,h3⟩ h1
 .rw[b3]at Y;obtain⟨c,c1,c2,c3⟩:=h.Kp x Y;refine⟨c,⟨c1.1,by rw[W];have:=c1.2;omega⟩,λo=>?_,by rw[a0 c c1.2 c1.1];exact c3⟩;rw[b1]at o;rcases di.1 o with o|o
  .exact c2 o
  have:=dL.1 o;have:=c1.2;omega
 .rw[DV,aa (λe=>Y e.1)];by_cases e:a=5/\b=s.nt+1
  .rw[aj e];exact List.Pairwise.nil
  rw[aa e];have a2:fz s a b:=by
   unfold fz at G ⊢;rcases G with G|G|G|G
   .exact ag G
   .exact ab (ag G)
   .exact ab (ab (ag G))
   refine ab (ab (ab ⟨G.1,G.2.1,?_⟩));have:=G.2.2;rw[W]at this;have:b≠s.nt+1:=λe'=>e ⟨G.1,e'⟩;omega
  exact vT (h.L a b a2 Y) (λc o=>by rw[J c (a4 c (hO.ql a b a2 c o))];exact⟨rfl,rfl⟩)
 rw[b1]at ht;by_cases e:t=s.nt+1
 .subst e;rw[Z];exact dc _
 rw[J t e];rcases di.1 ht with ht|ht
 .exact h.N t ht
 exact ch (dL.1 ht) e
theorem eK.sK(h:eK p K s m ρ){a i:Nat}{v:B.V}(W:ou p s a)(hv:dN p s v):eK p K (s.sK a i v) (m.put (ρ a) i (tr ρ v)) ρ:=by
 have y:∀c,ou p (s.sK a i v) c->ou p s c:=λc o=>B.CE W hv o;refine { h with C:=λc o=>?_,I:=λc H o G=>h.I c H (y c o) (y H G) };obtain⟨c1,c2,J,c4,c5,Z⟩:=h.C c (y c o);have u:(B.lay s.M a ((s.M a).set i v) c).length=(s.M c).length:=by
  by_cases e:c=a
  .subst e;rw[B.gl,dq]
  rw[B.fq _ _ _ _ e]
 refine⟨c1,c2,?_,c4,λY e=>c5 Y (cf.1 (by rw[<-u];exact cf.2 e)),by show(B.lay s.M a ((s.M a).set i v) c).length<=8;rw[u];exact Z⟩;show(if ρ c=ρ a then(m.M (ρ a)).set i (tr ρ v) else m.M (ρ c))=(B.lay s.M a ((s.M a).set i v) c).map (tr ρ);by_cases e:c=a
 .subst e;rw[aj rfl,B.gl,J,List.map_set]
 rw[aa (λe'=>e (h.I c a (y c o) W e')),B.fq _ _ _ _ e,J]
theorem eK.na(h:eK p K s m ρ){t a c ty:Nat}{J:B.Kd}{l:List B.V}(hO:fS p s X)(a3:t∈s.lv)(hn:(s.T t).fr≠[])(hk:B.jX J p.n (eh p s) s.M)(h3:J.on c=false)(aL:c≠0)(aN:ty≠0->l≠[])(aK:l.length<=8)(hl:∀v,v∈l->dN p s v): eK p (K+1) ((s.na J c ty l).dx t (cr s t) ((bw s t).set a (c,0))) ((m.cell ty (l.map (tr ρ))).dx t (pQ m t) ((pR m t).set a (m.nc+1,0))) (λk=>if k=c then m.nc+1 else ρ k):=by
 have hi:cr s t<(s.T t).fr.length:=by
  have:(s.T t).fr.length≠0:=λe=>hn (cf.1 e);unfold cr;omega
 have aM:¬ou p s c:=λhc=>by
  have:=(B.po hk hc).1;rw[h3]at this;cases this
 have a9:∀v,dN p s v->tr (λk=>if k=c then m.nc+1 else ρ k) v=tr ρ v:=λv hv=>by
  by_cases e:v.1=0
  .rw[om e,om e]
  rw[oZ e,oZ e];have aG:v.1≠c:=λe'=>aM (e'▸B.oH.vi hv e);show((if v.1=c then m.nc+1 else ρ v.1),(0:Int))=_;rw[aa aG]
 have hT:=h.T t a3;have aF:pQ m t=cr s t:=by unfold pQ cr;rw[hT.l]
 have aH:pR m t=fj m t (cr s t):=by unfold pR;rw[aF]
 rw[aF,aH];have e1:((s.na J c ty l).dx t (cr s t) ((bw s t).set a (c,0))).T t={ s.T t with fr:=(s.T t).fr.set (cr s t) ((bw s t).set a (c,0)) }:=df _ _ _;have e2:((m.cell ty (l.map (tr ρ))).dx t (cr s t) ((fj m t (cr s t)).set a (m.nc+1,0))).T t=(m.T t).kD ((m.T t).fr.set (cr s t) ((fj m t (cr s t)).set a (m.nc+1,0))):=fG _ _ _;have hs:∀u,u≠t->((s.na J c ty l).dx t (cr s t) ((bw s t).set a (c,0))).T u=s.T u:=λu e=>dP _ _ e;have hm:∀u,u≠t->((m.cell ty (l.map (tr ρ))).dx t (cr s t) ((fj m t (cr s t)).set a (m.nc+1,0))).T u=m.T u:=λu e=>fA _ _ e;have a7:∀v,v∈eh p ((s.na J c ty l).dx t (cr s t) ((bw s t).set a (c,0)))->v=(c,0)\/dN p s v:=λv hv=>by
  rcases gi.1 hv with⟨u,j,b,Y,hj,hb,e⟩|hv
  .by_cases eu:u=t
   .subst eu;rw[e1]at hj;have a1:j<((s.T u).fr.set (cr s u) ((bw s u).set a (c,0))).length:=hj;rw[dq]at a1;have aI:de ((s.na J c ty l).dx u (cr s u) ((bw s u).set a (c,0))) u j=if j=cr s u then(bw s u).set a (c,0) else de s u j:=by
     unfold de;rw[e1];exact jU hi
    rw[aI]at hb e;by_cases ej:j=cr s u
    .rw[aj ej]at hb e;have e3:B.set (bw s u).R a (c,0) b=v:=e;by_cases eb:b=a
     .subst eb;rw[B.ie]at e3;exact ag e3.symm
     rw[B.gS _ _ _ _ eb]at e3;rw[<-e3];exact ab (Rn.iE a3 _ hi b hb)
    rw[aa ej]at hb e;rw[<-e];exact ab (Rn.iE a3 j a1 b hb)
   have hf:de ((s.na J c ty l).dx t (cr s t) ((bw s t).set a (c,0))) u j=de s u j:=gJ (by rw[hs u eu]);rw[hf]at hb e;rw[hs u eu]at hj;exact ab (dN.root (ag ⟨u,j,b,Y,hj,hb,e⟩))
  exact ab (dN.root (ab hv))
 have Z:∀k,ou p ((s.na J c ty l).dx t (cr s t) ((bw s t).set a (c,0))) k->k=c\/ou p s k:=λk hk=>B.sJ (L:=eh p s) hl a7 hk;have aC:∀k,ou p s k->∀v,v∈s.M k->dN p s v:=λk hk v hv=>ab (ab ⟨k,hk,hv⟩);have a5:∀l':List B.V,(∀v,v∈l'->dN p s v)->l'.map (tr (λk=>if k=c then m.nc+1 else ρ k))=l'.map (tr ρ):=λl' a8=>List.map_congr_left (λv hv=>a9 v (a8 v hv));refine⟨h.nt,h.q,h.Ee,h.sp,h.ev,h.ck,λu Y=>?_,λu Y aA=>?_,λk H=>?_,λk k' H a4 he=>?_,h.Kp,λx y a8 hx=>vT (h.L x y a8 hx) (λb _=>?_),λu Y=>?_,⟨by show m.G.all+1=m.nc+1;rw[h.A.1],Nat.succ_le_succ h.A.2.1,Nat.succ_le_succ h.A.2.2⟩,h.lm,⟨Nat.succ_le_succ h.B.1,Nat.le_succ_of_le h.B.2⟩⟩
 .have a6:∀u,u∈s.lv->∀i,i<(s.T u).fr.length->FS p (λk=>if k=c then m.nc+1 else ρ k) i ((s.T u).fr.getD i mr) ((m.T u).fr.getD i mr):=λu Y i aD=>by
   have hF:=(h.T u Y).f i aD;exact⟨hF.f,hF.nx,hF.bk,λk H=>by rw[hF.R k H];exact(a9 _ (Rn.iE Y i aD k H)).symm⟩
  by_cases eu:u=t
  .subst eu;refine⟨?_,λj hj=>?_,?_,?_⟩
   .rw[e1,e2];show((m.T u).fr.set _ _).length=((s.T u).fr.set _ _).length;rw[dq,dq];exact hT.l
   .rw[e1]at hj ⊢;rw[e2];have a1:j<((s.T u).fr.set (cr s u) ((bw s u).set a (c,0))).length:=hj;rw[dq]at a1;show FS p _ j (((s.T u).fr.set _ _).getD j mr) (((m.T u).fr.set _ _).getD j mr);rw[jU hi,jU (by rw[hT.l];exact hi)];by_cases e:j=cr s u
    .rw[aj e,aj e,e];have hF:=a6 u Y (cr s u) hi;refine⟨hF.f,hF.nx,hF.bk,λk H=>?_⟩;show B.set (fj m u (cr s u)).R a (m.nc+1,0) k=tr _ (B.set (bw s u).R a (c,0) k);by_cases e3:k=a
     .subst e3;rw[B.ie,B.ie];rw[oZ (v:=(c,0)) aL];show _=((if c=c then m.nc+1 else ρ c),(0:Int));rw[aj rfl]
     rw[B.gS _ _ _ _ e3,B.gS _ _ _ _ e3];exact hF.R k H
    rw[aa e,aa e];exact a6 u Y j a1
   .rw[e2];exact hT.o
   rw[e1,e2];exact hT.h.same rfl rfl rfl rfl rfl rfl rfl
  rw[hs u eu,hm u eu];exact⟨(h.T u Y).l,a6 u Y,(h.T u Y).o,(h.T u Y).h⟩
 .have eu:u≠t:=λe=>aA (e▸a3);rw[hm u eu];obtain⟨o1,o2,o3⟩:=h.O u Y aA;refine⟨o1,o2,o3.trans ?_⟩;refine(a9 _ ?_).symm;show dN p s (m9 s u);have aO:=Y.1;have aP:u<=s.nt:=Y.2;have aB:u-1<s.out.length:=by rw[hO.ol];omega
  have aJ:m9 s u∈s.out:=by
   unfold m9;rw[ar,bn aB];exact List.getElem_mem aB
  rcases hO.ok _ aJ with h0|h0
  .exact ag h0
  exact dN.root (ab h0)
 .by_cases W:k=c
  .subst W;refine⟨by show 1<=(if k=k then m.nc+1 else ρ k);rw[aj rfl];omega,by show(if k=k then m.nc+1 else ρ k)<=m.nc+1;rw[aj rfl];omega,?_,?_,?_,?_⟩
   .show(if(if k=k then m.nc+1 else ρ k)=m.nc+1 then l.map (tr ρ) else m.M (if k=k then m.nc+1 else ρ k))=(B.lay s.M k l k).map _;rw[aj rfl,aj rfl,B.gl,a5 l hl]
   .show(if(if k=k then m.nc+1 else ρ k)=m.nc+1 then ty else m.ck (if k=k then m.nc+1 else ρ k))=if k=k then ty else s.ck k
    rw[aj rfl,aj rfl,aj rfl]
   .show(if k=k then ty else s.ck k)≠0->B.lay s.M k l k≠[];rw[aj rfl,B.gl];exact aN
   show(B.lay s.M k l k).length<=8;rw[B.gl];exact aK
  have aE:=(Z k H).resolve_left W;obtain⟨c1,c2,c3,c4,c5,c6⟩:=h.C k aE;refine⟨by show 1<=(if k=c then m.nc+1 else ρ k);rw[aa W];exact c1,by show(if k=c then m.nc+1 else ρ k)<=m.nc+1;rw[aa W];omega,?_,?_,?_,?_⟩
  .show(if(if k=c then m.nc+1 else ρ k)=m.nc+1 then l.map (tr ρ) else m.M (if k=c then m.nc+1 else ρ k))=(B.lay s.M c l k).map _;rw[aa W,aa (by omega),B.fq _ _ _ _ W,a5 _ (aC k aE),c3]
  .show(if(if k=c then m.nc+1 else ρ k)=m.nc+1 then ty else m.ck (if k=c then m.nc+1 else ρ k))=if k=c then ty else s.ck k
   rw[aa W,aa (by omega),aa W,c4]
  .show(if k=c then ty else s.ck k)≠0->B.lay s.M c l k≠[];rw[aa W,B.fq _ _ _ _ W];exact c5
  show(B.lay s.M c l k).length<=8;rw[B.fq _ _ _ _ W];exact c6
 .have a2:=he;by_cases W:k=c
  .by_cases a0:k'=c
   .rw[W,a0]
   rw[aj W,aa a0]at a2;have:=(h.C k' ((Z k' a4).resolve_left a0)).c2;omega
  by_cases a0:k'=c
  .rw[aa W,aj a0]at a2;have:=(h.C k ((Z k H).resolve_left W)).c2;omega
  rw[aa W,aa a0]at a2;exact h.I k k' ((Z k H).resolve_left W) ((Z k' a4).resolve_left a0) a2
 .by_cases eb:b=t
  .subst eb;rw[e2];exact⟨rfl,rfl⟩
  rw[hm b eb];exact⟨rfl,rfl⟩
 by_cases eu:u=t
 .subst eu;rw[e2];exact h.N u Y
 rw[hm u eu];exact h.N u Y
end D
namespace D
open F
variable {p : dz} {d : Dp} {K : Nat} {s : Pl} {m m' : Dm} {g g' : Dg} {w w' : World} {ρ : Nat → Nat}
structure qP(p:dz) (d:Dp) (s:Pl) (m:Dm) (g:Dg) (w:World) (ρ:Nat->Nat) (t tb fb n nr:Nat):Prop where
 T:JZ d m g w t tb fb n
 hn:cr s t=n
 hf:(fj m t n).f=(bw s t).f
 r1:d.rg (fj m t n).f=nr
 r2:p.rg (bw s t).f=nr
 F:Full w (g.rb t n) 115 (nr*2) (nr*2) (eC (fj m t n).R)
 V:∀a,a<nr->(fj m t n).R a=tr ρ ((bw s t).R a)
 n20:n<20
 dt:mF m t
section
variable {t tb fb n nr : Nat} (h : qP p d s m g w ρ t tb fb n nr)
include h
theorem qP.tp:pQ m t=n:=by unfold pQ;rw[h.T.l];omega
theorem qP.tf:pR m t=fj m t n:=by unfold pR;rw[h.tp]
theorem qP.hi:n<(m.T t).fr.length:=by rw[h.T.l];omega
end
theorem Rn.run{t:Nat}(hP:PD p d)(h:dQ d m g w)(hS:eK p K s m ρ)(hR:Rn p s t):∃tb fb n nr,qP p d s m g w ρ t tb fb n nr:=by
 have u:=hS.T t hR.lv;have o:=(iw hS t).2 hR.ht;obtain⟨tb,fb,n,T⟩:=h.top o (by rw[u.l];exact λe=>hR.fw.n1 (cf.1 e));have hn:cr s t=n:=by unfold cr;rw[<-u.l,T.l];omega
 have W:=u.f n (by rw[<-u.l,T.l];omega);have G:bw s t=de s t n:=by unfold bw;rw[hn]
 have J:(fj m t n).f=(bw s t).f:=by rw[G];exact W.f
 have y:=hP.rg (bw s t).f hR.ff.1;refine⟨tb,fb,n,p.rg (bw s t).f,T,hn,J,by rw[J,y],rfl,?_,λa Y=>?_,?_,o⟩
 .have:=h.R o (i:=n) (by rw[T.l];omega);rw[J,y]at this;exact this
 .rw[G]at Y ⊢;exact W.R a Y
 have:=hR.fw.n2;rw[<-u.l,T.l]at this;omega
theorem qP.kept{t tb fb n nr:Nat}(h:qP p d s m g w ρ t tb fb n nr)(H:dQ d m g w)(y:w.grownBy w' none):qP p d s m g w' ρ t tb fb n nr:=by
 obtain⟨i,u,W,T⟩:=(H.kept y).top h.dt (by rw[h.T.l];omega);have Y:i=tb:=by
  have:=T.b;rw[h.T.b]at this;injection this with this _;injection this with this;injection this with this _;exact this.symm
 have J:u=fb:=by
  have:=T.a;rw[h.T.a]at this;injection this with this;injection this with this _;exact this.symm
 have G:W=n:=by
  have:=T.l;rw[h.T.l]at this;omega
 subst Y J G;exact⟨T,h.hn,h.hf,h.r1,h.r2,h.F.block (y.block _ h.F.lt (by intro e;cases e)),h.V,h.n20,h.dt⟩
theorem qP.set{t tb fb n nr:Nat}(h:qP p d s m g w ρ t tb fb n nr)(i:dQ d m g w)(hS:eK p K s m ρ)(hR:Rn p s t)(a:Nat){v:B.V}(e:dN p s v)(o:((w.setCell ⟨g.rb t n,a*2,none⟩ (.int .i64 ((tr ρ v).1:Int))).setCell ⟨g.rb t n,a*2+1,none⟩ (.int .i64 (tr ρ v).2)).grownBy w' none): ∃m' g',Tr d m g w m' g' w'/\eK p K (s.dx t (cr s t) ((bw s t).set a v)) m' ρ:=by
 refine⟨_,g,(i.wP h.dt h.hi a (tr ρ v)).kept o,?_⟩;have:=hS.oD hR.lv hR.fw.n1 a e;rw[h.tp,h.tf]at this;exact this
theorem qP.rc{t tb fb n nr a:Nat}(h:qP p d s m g w ρ t tb fb n nr)(e:a<nr):w.cell? ⟨g.rb t n,a*2,none⟩=some (.int .i64 ((tr ρ ((bw s t).R a)).1:Int))/\w.cell? ⟨g.rb t n,a*2+1,none⟩=some (.int .i64 (tr ρ ((bw s t).R a)).2)/\w.frozen? ⟨g.rb t n,a*2,none⟩=false/\w.frozen? ⟨g.rb t n,a*2+1,none⟩=false:=by
 have:=Iz h.F e;rw[h.V a e]at this;exact this
theorem eK.Gf{v:B.V}(hS:eK p K s m ρ)(u:Ok p s)(o:dN p s v)(i:v.1≠0):tr ρ v=(ρ v.1,0)/\1<=ρ v.1/\ρ v.1<=m.nc/\m.M (ρ v.1)=(s.M v.1).map (tr ρ)/\m.ck (ρ v.1)=s.ck v.1:=by
 have e:=hS.C v.1 (B.oH.vi o i);exact⟨oZ i,e.c1,e.c2,e.M,e.k⟩
end D
namespace D
open F
variable {p : dz} {d : Dp} {K : Nat} {s : Pl} {m m' : Dm} {g g' : Dg} {w w' : World} {ρ : Nat → Nat}
def oU(w:World)(r a:Nat)(v:B.V):Prop:=w.cell? ⟨r,a*2,none⟩=some (.int .i64 (v.1:Int))/\w.cell? ⟨r,a*2+1,none⟩=some (.int .i64 v.2)/\w.frozen? ⟨r,a*2,none⟩=false/\w.frozen? ⟨r,a*2+1,none⟩=false
def sM(w:World)(r a:Nat)(v:B.V):World:=(w.setCell ⟨r,a*2,none⟩ (.int .i64 (v.1:Int))).setCell ⟨r,a*2+1,none⟩ (.int .i64 v.2)
theorem jl{w w0:World}(h:w.grownBy w0 none)(a:Addr)(v:Value):(w.setCell a v).grownBy (w0.setCell a v) none:=by
 refine⟨h.os,h.tape,h.output,by simpa[World.setCell] using h.size,λk i _=>?_⟩;simp[World.setCell,cn,h.block k (by simpa[World.setCell] using i) (by intro e;cases e)]
theorem Mb{mb t i nr a b c:Nat}{y:B.V}(ha:a<nr)(hb:b<256)(H:c<256)(r:oU w i a y): Calls prog 194 #[P0 mb,.int .i64 (t:Int),.slice (some ⟨i,0,none⟩) nr nr,jY 0 a b c] w λe w'=>e=.returned (.int .i64 0)/\(sM w i a (0,B.wide b c)).grownBy w' none:=by
 obtain⟨u,r1,Y,Z⟩:=r;have W:i<w.heap.size:=av w _ u;have G:(a:Int)<(nr:Int):=by omega
 have q1:IntKind.i64.wrap (256*(b:Int))=256*(b:Int):=by rw[bl,bd _ (by omega)]
 have J:IntKind.i64.wrap (256*(b:Int)+(c:Int))=256*(b:Int)+(c:Int):=by rw[bl,bd _ (by omega)]
 go_in;go_wp2_with fail
 all_goals go_ret
 .refine⟨rfl,?_⟩;have e:B.wide b c=256*(b:Int)+c-65536:=by unfold B.wide;rw[aa (by omega)];omega
  rw[e];exact au (ax _ _) _
 refine⟨rfl,?_⟩;have e:B.wide b c=256*(b:Int)+c:=by unfold B.wide;rw[aj (by omega)];omega
 rw[e];exact au (ax _ _) _
theorem Ma{mb t i nr a b c:Nat}{y vb:B.V}(ha:a<nr)(H:b<nr)(hb:b<256)(hc:c<256)(r:oU w i a y)(rb:oU w i b vb): Calls prog 194 #[P0 mb,.int .i64 (t:Int),.slice (some ⟨i,0,none⟩) nr nr,jY 1 a b c] w λe w'=>e=.returned (.int .i64 0)/\(sM w i a vb).grownBy w' none:=by
 obtain⟨u,r1,r2,Y⟩:=r;have W:i<w.heap.size:=av w _ u;have G:(a:Int)<(nr:Int):=by omega
 have q1:IntKind.i64.wrap (256*(b:Int))=256*(b:Int):=by rw[bl,bd _ (by omega)]
 have q2:IntKind.i64.wrap (256*(b:Int)+(c:Int))=256*(b:Int)+(c:Int):=by rw[bl,bd _ (by omega)]
 obtain⟨Z,s1,_,_⟩:=rb;have J:(b:Int)<(nr:Int):=by omega
 go_in;go_wp2_with fail
 all_goals go_ret
 all_goals refine⟨rfl,?_⟩
 all_goals first|exact au (ax _ _) _|exact bq (au (ax _ _) _)
theorem Kt{mb t i nr a b c:Nat}{G:B.V}{x:Int}(ha:a<nr)(hb:b<256)(hc:c<256)(r:oU w i a G)(u:w.cell? ⟨mb,5,none⟩=some (.int .i64 x))(hn:mb≠i): Calls prog 194 #[P0 mb,.int .i64 (t:Int),.slice (some ⟨i,0,none⟩) nr nr,jY 22 a b c] w λe w'=>e=.returned (.int .i64 0)/\(sM w i a (0,x)).grownBy w' none:=by
 obtain⟨y,r1,r2,Y⟩:=r;have W:i<w.heap.size:=av w _ y;have J:(a:Int)<(nr:Int):=by omega
 have q1:IntKind.i64.wrap (256*(b:Int))=256*(b:Int):=by rw[bl,bd _ (by omega)]
 have q2:IntKind.i64.wrap (256*(b:Int)+(c:Int))=256*(b:Int)+(c:Int):=by rw[bl,bd _ (by omega)]
 have Z:mb<w.heap.size:=av w _ u
 go_in;go_wp2_with fail
 all_goals go_ret
 all_goals refine⟨rfl,?_⟩
 all_goals first|exact au (ax _ _) _|exact bq (au (ax _ _) _)
theorem JY{o:Nat}(x y:Int)(i:o=2\/o=3\/o=4\/o=5):Calls prog 212 #[.int .i64 (o:Int),.int .i64 x,.int .i64 y] w λe w'=>e=.returned (.int .i64 (arith o x y))/\w'=w:=by
 rcases i with rfl|rfl|rfl|rfl
 all_goals
  go_in;go_wp2_with fail
 all_goals go_ret
 .have e:wrap64 (x+y)=arith 2 x y:=by show _=B.wrap _;unfold wrap64 B.wrap;omega
  rw[<-e];exact⟨rfl,rfl⟩
 .have e:wrap64 (x-y)=arith 3 x y:=by show _=B.wrap _;unfold wrap64 B.wrap;omega
  rw[<-e];exact⟨rfl,rfl⟩
 .have e:wrap64 (x*y)=arith 4 x y:=by
   show _=B.wrap _;generalize x*y=z;unfold wrap64 B.wrap;omega
  rw[<-e];exact⟨rfl,rfl⟩
 .refine⟨?_,rfl⟩;have e:arith 5 x y=1:=by unfold arith pF;simp[*]
  rw[e];rfl
 refine⟨?_,rfl⟩;have e:arith 5 x y=0:=by unfold arith pF;simp;omega
 rw[e];rfl
theorem Gc(e y1:Nat)(x2 y2:Int)(w:World):(binOp .eql 115 (.agg #[.int .i64 (e:Int),.int .i64 x2]) (.agg #[.int .i64 (y1:Int),.int .i64 y2])).run prog w=.ok (.bool (decide ((e,x2)=(y1,y2)))) w:=by
 have i:((e:Int)=(y1:Int))↔e=y1:=by omega
 simp[go_sem];by_cases k1:e=y1<;>by_cases k2:x2=y2<;>simp[k1,k2,i]
theorem L9{mb t i nr a b c:Nat}{va vb Y:B.V}(ha:a<nr)(a7:b<nr)(a5:c<nr)(hb:b<256)(hc:c<256)(r:oU w i a va)(rb:oU w i b vb)(rc:oU w i c Y): Calls prog 194 #[P0 mb,.int .i64 (t:Int),.slice (some ⟨i,0,none⟩) nr nr,jY 6 a b c] w λe w'=>e=.returned (.int .i64 0)/\(sM w i a (0,if vb=Y then 1 else 0)).grownBy w' none:=by
 obtain⟨r0,r1,r2,r3⟩:=r;have lr:i<w.heap.size:=av w _ r0;have a6:(a:Int)<(nr:Int):=by omega
 have a0:i<w.heap.size+1:=by omega
 have q1:IntKind.i64.wrap (256*(b:Int))=256*(b:Int):=by rw[bl,bd _ (by omega)]
 have q2:IntKind.i64.wrap (256*(b:Int)+(c:Int))=256*(b:Int)+(c:Int):=by rw[bl,bd _ (by omega)]
 obtain⟨J,H⟩:=vb;obtain⟨c1,W⟩:=Y;obtain⟨s0,s1,_,_⟩:=rb;obtain⟨u0,u1,_,_⟩:=rc;simp only[]at s0 s1 u0 u1;have Z:=Gc J c1 H W;have y:(if(J,H)=(c1,W) then(1:Int) else 0)=if decide ((J,H)=(c1,W))=true then 1 else 0:=by simp
 rw[y];generalize decide ((J,H)=(c1,W))=dd at *;have a8:(b:Int)<(nr:Int):=by omega
 have a3:(c:Int)<(nr:Int):=by omega
 go_in;go_wp2_with fail
 go_quiet (fail)
 have HX:∃o:World,o=(((w.alloc (.cells #[.int .i64 ((6:Nat):Int),.int .i64 (a:Int),.int .i64 (b:Int),.int .i64 (c:Int)] 90)).alloc (.cells #[.int .i64 0,.int .i64 0] 115)).drewN nq)/\w.grownBy o none/\o.cell? ⟨w.heap.size+1,0,none⟩=some (.int .i64 0)/\o.cell? ⟨w.heap.size+1,1,none⟩=some (.int .i64 0)/\o.frozen? ⟨w.heap.size+1,1,none⟩=false:=⟨_,rfl,db (au (au (ax _ _) _) _) _,by simp[go_sem],by simp[go_sem],by simp[go_sem]⟩;obtain⟨o,e3,u,x0,x1,x2⟩:=HX;have G:(((w.alloc (.cells #[.int .i64 6,.int .i64 (a:Int),.int .i64 (b:Int),.int .i64 (c:Int)] 90)).alloc (.cells #[.int .i64 0,.int .i64 0] 115)).drewN nq)=o:=e3.symm;rw[G];clear e3 G;obtain⟨y0,y2⟩:=bh u (a:=⟨i,a*2,none⟩) lr;obtain⟨y1,y3⟩:=bh u (a:=⟨i,a*2+1,none⟩) lr;rw[r0]at y0;rw[r1]at y1;rw[r2]at y2;rw[r3]at y3
 have HG:=az u
 cases dd with
 | true=>
  go_wp2_with fail
  go_ret;refine⟨rfl,?_⟩;exact jl (jl (bp HG.out (ab (Nat.le_succ _)) _) _ _) _ _
 | false=>
  go_wp2_with fail
  go_ret;refine⟨rfl,?_⟩;exact jl (jl HG.out _ _) _ _
theorem Ks{o mb t i nr a b c:Nat}{va vb G:B.V}(Y:o=2\/o=3\/o=4\/o=5)(ha:a<nr)(a5:b<nr)(a3:c<nr)(hb:b<256)(hc:c<256)(r:oU w i a va)(rb:oU w i b vb)(rc:oU w i c G): Calls prog 194 #[P0 mb,.int .i64 (t:Int),.slice (some ⟨i,0,none⟩) nr nr,jY o a b c] w λe w'=>((vb.1=0/\G.1=0)/\e=.returned (.int .i64 0)/\(sM w i a (0,arith o vb.2 G.2)).grownBy w' none)\/(¬(vb.1=0/\G.1=0)/\e=.returned (.int .i64 1)/\w.grownBy w' none):=by
 obtain⟨r0,r1,r2,r3⟩:=r;have lr:i<w.heap.size:=av w _ r0;have a4:(a:Int)<(nr:Int):=by omega
 have Z:i<w.heap.size+1:=by omega
 have a1:i<w.heap.size+1+1:=by omega
 have q1:IntKind.i64.wrap (256*(b:Int))=256*(b:Int):=by rw[bl,bd _ (by omega)]
 have q2:IntKind.i64.wrap (256*(b:Int)+(c:Int))=256*(b:Int)+(c:Int):=by rw[bl,bd _ (by omega)]
 obtain⟨W,H⟩:=vb;obtain⟨c1,J⟩:=G;obtain⟨s0,s1,_,_⟩:=rb;obtain⟨u0,u1,_,_⟩:=rc;simp only[]at s0 s1 u0 u1;have a6:(b:Int)<(nr:Int):=by omega
 have a0:(c:Int)<(nr:Int):=by omega
 by_cases hz:W=0/\c1=0
 .obtain⟨rfl,rfl⟩:=hz;have HA:Hid (∀w0:World,Calls prog 212 #[.int .i64 (o:Int),.int .i64 H,.int .i64 J] w0 λe w'=>e=.returned (.int .i64 (arith o H J))/\w'=w0):=λw0=>JY H J Y;generalize hy:arith o H J=y at *;clear hy;rcases Y with rfl|rfl|rfl|rfl
  all_goals
   go_in;go_wp2_with fail
   refine(HA.out _).mono ?_;rintro e w2 ⟨rfl,rfl⟩;go_wp2_with fail
   go_ret;refine ag ⟨by simp,rfl,?_⟩
  all_goals exact au (au (au (ax _ _) _) _) _
 have u:(0<(W:Int))\/(W=0/\0<(c1:Int)):=by omega
 have HZ:=az hz;clear hz;rcases u with u|⟨rfl,u⟩<;>rcases Y with rfl|rfl|rfl|rfl
 all_goals
  go_in;go_wp2_with fail
  go_ret;refine ab ⟨by have:=HZ.out;simpa using this,rfl,?_⟩
 all_goals exact au (au (au (ax _ _) _) _) _
end D
namespace D
open F
variable {d : Dp} {m m' : Dm} {g g' : Dg} {w w' : World}
def nR(w0 wr:World)(ad:Option Addr)(n c:Nat)(L:List B.V):Prop:=wr.ownsRow 0 115 2 (.slice ad n c) n (fT L)/\(∀k,eO ad=some k->w0.heap.size<=k)/\w0.grownBy wr none
theorem oY(l r:List B.V):fT (l++r)=fT l++fT r:=by unfold fT;rw[List.flatMap_append]
theorem jr(l:List B.V):(fT l).length=l.length*2:=by
 induction l with
 | nil=>rfl
 | cons a l e=>
  show([_,_]++fT l).length=_;rw[bo,e];simp;omega
theorem mJ:∀(l:List B.V) (j:Nat) (v:B.V),l[j]? = some v->(fT l)[j*2]? = some (.int .i64 v.1)/\(fT l)[j*2+1]? = some (.int .i64 v.2)
 | [],j,v,h=>by simp at h
 | a :: l,0,v,h=>by
  simp at h;subst h
  exact⟨rfl,rfl⟩
 | a :: l,j+1,v,h=>by
  have:=mJ l j v (by simpa using h);have e:(j+1)*2=j*2+1+1:=by omega
  rw[e,show j*2+1+1+1=(j*2+1)+1+1 by omega];show((_ :: _ :: fT l)[j*2+1+1]? = _)/\((_ :: _ :: fT l)[(j*2+1)+1+1]? = _);simpa using this
theorem nR.cell{w0 wr:World}{ad:Option Addr}{n c:Nat}{L:List B.V}(h:nR w0 wr ad n c L)(hn:n=L.length){i:Nat}{v:B.V}(hi:L[i]? = some v):∃b,ad=some ⟨b,0,none⟩/\b<wr.heap.size/\wr.cell? ⟨b,i*2,none⟩=some (.int .i64 v.1)/\wr.cell? ⟨b,i*2+1,none⟩=some (.int .i64 v.2):=by
 have Y:=(bu.1 hi).1;obtain⟨b,c',e⟩:=dM h.1 (by omega);injection e with e1 _ _;subst e1;have h1:=h.1;rcases h1.2 with⟨h2,_⟩|⟨g',y,J,k1,_,G,k4,k5,k6,k7⟩
 .cases h2
 cases k1;have H:∀j u,(fT L)[j]? = some u->j<n*2->wr.cell? ⟨b,j,none⟩=some u:=λj u o W=>by
  rw[<-k7,dh,aj W]at o;simp only[World.cell?,G];simpa using o
 obtain⟨a1,Z⟩:=mJ L i v hi;exact⟨b,rfl,bz G,H _ _ a1 (by omega),H _ _ Z (by omega)⟩
theorem nR.app{w0 wr J:World}{ad:Option Addr}{n c b G z:Nat}{L R:List B.V}{W:World}(h:nR w0 wr ad n c L)(i:wr.grownBy W none)(ho:J.ownsRow 0 115 2 (.slice (some ⟨b,0,none⟩) (n+R.length) G) (n+R.length) (fT L++fT R))(u:W.grownBy J (Value.slice ad n c).ownBlock)(hz:wr.heap.size<=z)(H:jE z (.slice ad n c) (.slice (some ⟨b,0,none⟩) (n+R.length) G)):nR w0 J (some ⟨b,0,none⟩) (n+R.length) G (L++R):=by
 obtain⟨h1,Z,o⟩:=h;rw[dr]at u;refine⟨by rw[oY];exact ho,λk y=>?_,?_⟩
 .have Y:k=b:=by
   have:some b=some k:=y;injection this with this;exact this.symm
  subst Y;rcases H with e|⟨b',e1,e2⟩
  .have e':some k=eO ad:=by rw[<-dr ad n c,<-e];rfl
   exact Z k e'.symm
  have:k=b':=by injection e1
  have:=o.size;omega
 refine⟨u.os.trans (i.os.trans o.os),u.tape.trans (i.tape.trans o.tape),u.output.trans (i.output.trans o.output),by have:=u.size;have:=i.size;have:=o.size;omega,λk y _=>?_⟩;have hs:=o.size;have a0:=i.size;rw[u.block k (by omega) (λe=>by have:=Z k e.symm;omega),i.block k (by omega) (by intro e;cases e)];exact o.block k y (by intro e;cases e)
theorem nR.nil(w:World):nR w w none 0 0 []:=⟨dJ _ _ _ _,(λk e=>by cases e),ax _ _⟩
def yh(d:Dp)(m:Dm)(I k:Nat)(L:List B.V):Prop:=
 (∀v,v∈L->D4 d m v)/\(∀t,1<=t->t<=I->(m.T t).out∈L/\∀i a,i<(m.T t).fr.length->a<d.rg (fj m t i).f->(fj m t i).R a∈L)/\(k≠0->(m.T (I+1)).out∈L/\∀i a,i+1<k->a<d.rg (fj m (I+1) i).f->(fj m (I+1) i).R a∈L)
theorem Tryz.Dn:(prog.info? 4).map (λi=>(i.zero,i.size,i.bytes))=some (some (.bool false),1,1):=by kernel_rfl
theorem Tryz.underlying231:prog.underlying 231=some (.slice 4):=by kernel_rfl
theorem yH{w:World}{g b e:Nat}(h:w.ownsRow e 4 1 (.slice (some ⟨g,0,none⟩) b b) b (madeCells #[.bool false] (b)).toList):Full w g 4 b b (λ_=>.bool false):=by
 rcases h.2 with⟨h,_⟩|⟨g',u,i,G,h2,W,h4,Z,H,J⟩
 .cases h
 cases G;refine⟨i,W,by simpa using H,λj Y=>?_⟩;have o:=congrArg (λl=>l[j]?) J;have y:(madeCells #[.bool false] (b)).toList[j]? = some (.bool false):=by
  simp only[madeCells,Array.getElem?_toList,Array.getElem?_map,Array.getElem?_range];rw[aj (by omega)];simp[Nat.mod_one]
 simp only[y,dh]at o;rw[aj (by omega)]at o;simpa using o
def pf(R:Nat->B.V)(nr:Nat):List B.V:=(List.range nr).map R
theorem n6(R:Nat->B.V)(nr:Nat):(pf R nr).length=nr:=by unfold pf;simp
theorem Cu{R:Nat->B.V}{nr j:Nat}{u:Value}(h:(fT (pf R nr))[j]? = some u):j<nr*2/\u=eC R j:=by
 have y:j<nr*2:=by
  have:=(bu.1 h).1;rw[jr,n6]at this;exact this
 refine⟨y,?_⟩;have hi:(pf R nr)[j / 2]? = some (R (j / 2)):=by
  unfold pf;rw[eo,fW (by omega)];rfl
 obtain⟨i,o⟩:=mJ _ _ _ hi;unfold eC;by_cases e:j % 2=0
 .rw[aj e];rw[show j / 2*2=j by omega,h]at i;exact g8 i
 rw[aa e];rw[show j / 2*2+1=j by omega,h]at o;exact g8 o
theorem xk(l:List B.V):∀u∈fT l,u.oneCell'=true:=by
 intro u e;unfold fT at e;obtain⟨v,_,i⟩:=List.mem_flatMap.1 e;simp at i;rcases i with rfl|rfl<;>rfl
theorem yh.zero(d:Dp)(m:Dm):yh d m 0 0 []:=⟨(λv e=>by cases e),(λt o i=>by omega),λh=>ch rfl h⟩
theorem yh.one{I:Nat}{L:List B.V}(h:yh d m I 0 L)(hI:I<m.nt):yh d m I 1 (L++[(m.T (I+1)).out]):=by
 refine⟨λv e=>?_,λt u o=>?_,λ_=>⟨by simp,λi a hi _=>by omega⟩⟩
 .rcases di.1 e with e|e
  .exact h.1 v e
  rw[dL.1 e];exact ag ⟨I+1,⟨by omega,by omega⟩,rfl⟩
 obtain⟨G,H⟩:=h.2.1 t u o;exact⟨ee _ G,λi a hi y=>ee _ (H i a hi y)⟩
theorem yh.more{I k:Nat}{L:List B.V}(h:yh d m I (k+1) L)(hI:I<m.nt)(y:k<(m.T (I+1)).fr.length):yh d m I (k+2) (L++pf (fj m (I+1) k).R (d.rg (fj m (I+1) k).f)):=by
 obtain⟨H,G⟩:=h.2.2 (by omega);refine⟨λv o=>?_,λt W J=>?_,λ_=>⟨ee _ H,λi a hi u=>?_⟩⟩
 .rcases di.1 o with o|o
  .exact h.1 v o
  unfold pf at o;obtain⟨a,u,rfl⟩:=ek.1 o;exact ab ⟨I+1,k,a,⟨by omega,by omega⟩,y,eJ.1 u,rfl⟩
 .obtain⟨Y,Z⟩:=h.2.1 t W J;exact⟨ee _ Y,λi a hi u=>ee _ (Z i a hi u)⟩
 by_cases e:i=k
 .subst e;refine List.mem_append_right _ ?_;unfold pf;exact ek.2 ⟨a,eJ.2 u,rfl⟩
 exact ee _ (G i a (by omega) u)
theorem yh.next{I:Nat}{L:List B.V}(h:yh d m I ((m.T (I+1)).fr.length+1) L):yh d m (I+1) 0 L:=by
 obtain⟨y,o⟩:=h.2.2 (by omega);refine⟨h.1,λt G H=>?_,λe=>ch rfl e⟩;by_cases e:t=I+1
 .subst e;exact⟨y,λi a hi u=>o i a (by omega) u⟩
 exact h.2.1 t G (by omega)
structure Scan(d:Dp) (m:Dm) (I:Nat) (S:List Nat) (L:List B.V):Prop where
 nd:S.Nodup
 s:∀c,c∈S->lT d m c
 l:∀v,v∈L->v.1≠0->lT d m v.1
 r:∀v,D4 d m v->v∈L
 i:∀j v,j<I->L[j]? = some v->v.1≠0->v.1∈S
 m:∀c,c∈S->∀v,v∈m.M c->v∈L
theorem yh.scan{L:List B.V}(h:yh d m m.nt 0 L):Scan d m 0 [] L:=by
 refine⟨List.nodup_nil,(λc o=>by cases o),λv e y=>.root (h.1 v e) y,λv e=>?_,(λj v G=>by omega),(λc o=>by cases o)⟩;rcases e with⟨t,ht,rfl⟩|⟨t,i,a,ht,hi,u,rfl⟩
 .exact(h.2.1 t ht.1 ht.2).1
 exact(h.2.1 t ht.1 ht.2).2 i a hi u
theorem Scan.done{S:List Nat}{L:List B.V}(h:Scan d m L.length S L):kg d m S.length:=by
 refine⟨S,h.nd,λc=>⟨h.s c,λH=>?_⟩,rfl⟩;have u:∀v,v∈L->v.1≠0->v.1∈S:=λv o y=>by
  obtain⟨j,G,e⟩:=List.getElem_of_mem o;exact h.i j v G (by rw[bn G,e]) y
 induction H with
 | root o y=>exact u _ (h.r _ o) y
 | slot H o y J=>exact u _ (h.m _ J _ o) y
theorem Scan.skip{I:Nat}{S:List Nat}{L:List B.V}{v:B.V}(h:Scan d m I S L)(G:L[I]? = some v)(H:v.1=0\/v.1∈S):Scan d m (I+1) S L:=by
 refine⟨h.nd,h.s,h.l,h.r,λj u J o y=>?_,h.m⟩;by_cases e:j=I
 .subst e;rw[G]at o;injection o with o;subst o;exact H.resolve_left y
 exact h.i j u (by omega) o y
theorem Scan.take{I:Nat}{S:List Nat}{L:List B.V}{v:B.V}(h:Scan d m I S L)(H:L[I]? = some v)(Y:v.1≠0)(W:v.1∉S):Scan d m (I+1) (v.1 :: S) (L++m.M v.1):=by
 have J:=h.l v (ed H) Y;have hI:=(bu.1 H).1;refine⟨List.nodup_cons.2 ⟨W,h.nd⟩,λc G=>?_,λu o y=>?_,λu o=>ee _ (h.r u o),λj u Z o y=>?_,λc G u o=>?_⟩
 .rcases List.mem_cons.1 G with rfl|G
  .exact J
  exact h.s c G
 .rcases di.1 o with o|o
  .exact h.l u o y
  exact .slot J o y
 .rw[du (by omega)]at o;by_cases e:j=I
  .subst e;rw[H]at o;injection o with o;subst o;exact List.mem_cons_self
  exact List.mem_cons_of_mem _ (h.i j u (by omega) o y)
 rcases List.mem_cons.1 G with rfl|G
 .exact List.mem_append_right _ o
 exact ee _ (h.m c G u o)
theorem Scan.len{I:Nat}{S:List Nat}{L:List B.V}(h:Scan d m I S L)(i:∀c,lT d m c->1<=c/\c<=m.nc):S.length<=m.nc:=gn m.nc S h.nd (λc e=>i c (h.s c e))
def pe(S:List Nat):Nat->Value:=λj=>.bool (decide (j∈S))
theorem yx(S:List Nat)(c j:Nat):ep (pe S) c (.bool true) j=pe (c :: S) j:=by
 unfold ep pe;by_cases e:j=c
 .rw[aj e,e];simp
 rw[aa e];have:decide (j∈c :: S)=decide (j∈S):=by
  apply decide_eq_decide.2
  rw[List.mem_cons];exact⟨λh=>h.resolve_left e,ab⟩
 rw[this]
theorem oI{P:Program}{ops:Array Oper}{rest:List Oper}{o:Oper}{a:Act}{w:World}{Q:Exit->Act->World->Prop}(H:o.guard=none)(s x:Operand)(t:TypeId)(G:o.op=Op.call { callee:=Callee.builtin Builtin.append,args:=#[s,x],argTypes:=#[t,t] })(e:TypeId)(i:TypeInfo)(W:P.underlying t=some (.slice e))(Z:P.info? e=some i)(u ad:Option Addr)(n cap c:Nat)(Y:a.eval s=.slice u n cap)(hx:a.eval x=.slice ad 0 c)(J:n<=cap)(h:wpList P ops Q rest (a.put o.dst (.slice u n cap)) w):wpList P ops Q (o :: rest) a w:=
 wpList_plain H λ_ hK=>by
  unfold Oper.wp;simp[execOp,G,resolve,invoke,builtin,Y,hx,mV (P:=P) w t o.type e i W Z u ad n cap c J,Result.andThen];exact hK _ _ h
structure BK(d:Dp) (m:Dm):Prop where
 nt:m.nt≠0
 n1:m.nt<1000000000
 n2:m.nc<1000000000
 f:∀t,mF m t->(m.T t).fr.length<=20/\∀i,i<(m.T t).fr.length->1<=d.rg (fj m t i).f/\d.rg (fj m t i).f<=8
 c:∀c,lT d m c->1<=c/\c<=m.nc/\(m.M c).length<=8
theorem nG(h:dQ d m g w)(hC:BK d m):Calls prog 79 #[P0 g.mb] w λe w'=>∃N:Nat,e=.returned (.int .i64 N)/\kg d m N/\w.grownBy w' none:=by
 obtain⟨i0,hi,bJ,bD,bU⟩:=info_parts Tryz.Dn;obtain⟨j0,Y,aJ,aI,aF⟩:=info_parts Tryz.rH;obtain⟨hn,n1,n2,_,_⟩:=id hC;have c9:w.cell? ⟨g.mb,12,none⟩=some (.slice (g.ro 3 0).1 m.nc (g.ro 3 0).2):=(h.mc 12 (by omega) rfl).1;have lm:=h.M.lt;have q0:IntKind.i64.wrap ((m.nc:Int)+1)=(m.nc:Int)+1:=by rw[bl,bd _ (by omega)]
 have HR:=az h;have HC:=az hC;clear h hC;go_in;go_wp2_with (at_make;go_loud (refine wpList_make_full _ rfl _ _ 231 rfl 0 4 i0 _ 1 Tryz.underlying231 hi bJ bD _ _ _ _ (m.nc+1) rfl rfl rfl rfl (by rw[bU];omega) (by unfold maxLen;omega) (dc _) ?_))
 intro w1 aA aG;have aU:=az (yH aA);have aK:=az aG;have bM:w.heap.size<w1.heap.size:=aU.lt;clear aA aG c9;go_wp2_with fail
 go_loopw [4,5,6] (λl i k wr=>∃(I n c:Nat) (ad:Option Addr) (L:List B.V),l=.slice ad n c/\i=.int .i64 I/\I<=m.nt/\n=L.length/\n<=I*161/\Hid (nR w1 wr ad n c L)/\Hid (yh d m I 0 L)) (λ_ i _ _=>m.nt-(intOf i).toNat)
 case atStart=>exact⟨0,0,0,none,[],rfl,rfl,by omega,rfl,by omega,nR.nil _,yh.zero d m⟩
 case round=>
  obtain⟨I,n,c,ad,L,rfl,rfl,hI,bX,cS,rL,rU⟩:=hrel;subst bX;have KG:=az (an aK rL.2.2);have G:=az (HR.kept KG);obtain⟨tb,hb,hl,hm,hF⟩:=G.T hn;have c6:wr.cell? ⟨g.mb,6,none⟩=some (.slice (some ⟨tb,0,none⟩) m.nt (g.ro 1 0).2):=by rw[<-hb];exact(G.mc 6 (by omega) rfl).1
  by_cases b3:I<m.nt
  .have aB:(I:Int)<m.nt:=by omega
   have t6:wr.cell? ⟨tb,I*8+6,none⟩=some (.int .i64 ((m.T (I+1)).out.1:Int)):=(hF.cell (I*8+6) (by omega)).trans (congrArg some (pc m g (t:=I+1) (k:=6) (by omega) (by omega) (by omega)));have t7:wr.cell? ⟨tb,I*8+7,none⟩=some (.int .i64 (m.T (I+1)).out.2):=(hF.cell (I*8+7) (by omega)).trans (congrArg some (pc m g (t:=I+1) (k:=7) (by omega) (by omega) (by omega)));have J:=az rL.1;have aX:=λk hk=>(dA J k hk).2.1;have aO:=az aX;clear aX hF hb hl hm;go_wp2_with (at_builtin;refine gK rfl (.tmp 26) (.tmp 35) 161 rfl 115 j0 _ 2 16 Tryz.underlying161 Y aJ aI aF rfl (by decide) _ _ _ _ rfl (dD J (λk h=>ak _ _ _ (aO k h))) ⟨wr.heap.size,0,none⟩ 1 1 [.int .i64 ((m.T (I+1)).out.1:Int),.int .i64 (m.T (I+1)).out.2] rfl rfl ?c1 ?c2 ?c3 ?c4 ?c5 ?_)
   try case c1=>intro j u Y;match j,Y with|0,Y=>(simp at Y;subst Y;simp[Addr.add,go_sem])|1,Y=>(simp at Y;subst Y;simp[Addr.add,go_sem])
   try case c2=>simp[Value.oneCell']
   try case c3=>unfold maxLen;omega
   try case c4=>omega
   try case c5=>omega
   intro v' w6 ho W Z;obtain⟨b,c',rfl⟩:=dM ho (by omega);have b0:Hid (nR w1 w6 (some ⟨b,0,none⟩) (L.length+1) c' (L++[(m.T (I+1)).out])):=nR.app (R:=[(m.T (I+1)).out]) rL (ah _ _ none) ho W (Nat.le_succ _) Z;have bO:=az (rU.one b3);clear ho W Z J aO rL rU t6 t7 c6 G KG;have aE:(L++[(m.T (I+1)).out]).length=L.length+1:=by rw[bo];rfl
   rw[<-aE]at b0;rw[<-aE];have hn1:(L++[(m.T (I+1)).out]).length<=I*161+1:=by omega
   generalize L++[(m.T (I+1)).out]=L1 at *;have HD:Hid (mF m (I+1)):=⟨by omega,by omega⟩;obtain⟨cN,b7⟩:=HC.f (I+1) HD;have bZ:=az b7;clear b7 aE;go_wp2_with fail
   go_loopw [4,6] (λl k wr=>∃(n c H:Nat) (ad:Option Addr) (L:List B.V),l=.slice ad n c/\k=.int .i64 H/\H<=(m.T (I+1)).fr.length/\n=L.length/\n<=I*161+1+H*8/\Hid (nR w1 wr ad n c L)/\Hid (yh d m I (H+1) L)) (λ_ k _=>(m.T (I+1)).fr.length-(intOf k).toNat)
   case atStart=>exact⟨L1.length,c',0,_,L1,rfl,rfl,by omega,rfl,by omega,b0,bO⟩
   case round=>
    obtain⟨cT,bI,H,b9,y,rfl,rfl,cX,aM,cI,o,a8⟩:=hrel;subst aM;have aR:=az (an aK o.2.2);have G:=az (HR.kept aR);obtain⟨aH,bB,_,_,aV⟩:=G.T hn;have d6:wr.cell? ⟨g.mb,6,none⟩=some (.slice (some ⟨aH,0,none⟩) m.nt (g.ro 1 0).2):=by rw[<-bB];exact(G.mc 6 (by omega) rfl).1
    have d0:wr.cell? ⟨aH,I*8,none⟩=some (.slice (g.ro 5 (I+1)).1 (m.T (I+1)).fr.length (g.ro 5 (I+1)).2):=(aV.cell (I*8) (by omega)).trans (congrArg some (pc m g (t:=I+1) (k:=0) (by omega) (by omega) (by omega)));clear aV bB;by_cases aC:H<(m.T (I+1)).fr.length
    .have cU:(H:Int)<((m.T (I+1)).fr.length:Int):=by omega
     obtain⟨fb,b2,_,_,aD⟩:=G.F HD (by omega);have f1:wr.cell? ⟨fb,H*4+1,none⟩=some (.slice (some ⟨g.rb (I+1) H,0,none⟩) (d.rg (fj m (I+1) H).f) (d.rg (fj m (I+1) H).f)):=(aD.cell (H*4+1) (by omega)).trans (congrArg some (tA d m g (I+1) (by omega)));have cY:=aD.lt;have aP:=az (G.R HD aC);rw[b2]at d0;have J:=az o.1;obtain⟨r1,r8⟩:=bZ H aC;have bR:=az (a8.more b3 aC);clear aD b2;generalize g.rb (I+1) H=bP at *;generalize bY:d.rg (fj m (I+1) H).f=nr at *;generalize bG:(fj m (I+1) H).R=RR at *;generalize (m.T (I+1)).fr.length=fl at *;generalize (g.ro 5 (I+1)).2=fc at *;clear bY bG;go_wp2_with (at_builtin;refine gK rfl (.tmp 50) (.tmp 62) 161 rfl 115 j0 _ 2 16 Tryz.underlying161 Y aJ aI aF rfl (by decide) _ _ _ _ rfl J ⟨bP,0,none⟩ nr nr (fT (pf RR nr)) rfl (by rw[jr,n6]) ?c1 ?c2 ?c3 ?c4 ?c5 ?_)
     try case c1=>
      intro j u Y;obtain⟨a1,a2⟩:=Cu Y;rw[a2];have:=aP.cell j a1
      cases j with
      | zero=>simpa[Addr.add] using this
      | succ j=>simpa[Addr.add] using this
     try case c2=>exact xk _
     try case c3=>unfold maxLen;omega
     try case c4=>omega
     try case c5=>omega
     intro v' w6 ho W Z;obtain⟨b6,a7,rfl⟩:=dM ho (by omega);have a4:=az (nR.app (R:=pf RR nr) o (ax _ _) (by rw[n6];exact ho) W (bj _) (by rw[n6];exact Z));rw[n6]at a4;have a3:(y++pf RR nr).length=y.length+nr:=by rw[bo,n6]
     clear ho W Z J aP o a8 d6 d0 f1 G aR;rw[<-a3]at a4;rw[<-a3];generalize y++pf RR nr=L3 at *;have bH:L3.length<=I*161+1+(H+1)*8:=by omega
     clear a3;go_wp2_with fail
     go_roundw
     case rel=>exact⟨L3.length,a7,H+1,_,L3,rfl,by go_num,by omega,rfl,bH,a4,bR⟩
     case measure=>simp[intOf];omega
    obtain rfl:H=(m.T (I+1)).fr.length:=by omega
    have bV:=az a8.next;have cG:=az o;have bK:y.length<=(I+1)*161:=by omega
    generalize (g.ro 5 (I+1)).1=fa at *;generalize (g.ro 5 (I+1)).2=fc at *;clear o a8;go_wp2_with fail
    go_roundw
    case rel=>exact⟨I+1,y.length,bI,b9,y,rfl,by go_num,by omega,rfl,bK,cG,bV⟩
    case measure=>simp[intOf];omega
  obtain rfl:I=m.nt:=by omega
  have cH:=az rU.scan;have bQ:Hid (nR w wr ad L.length c L):=⟨rL.1,λk hk=>by have:=rL.2.1 k hk;omega,KG⟩;have aW:Hid (Full wr w.heap.size 4 (m.nc+1) (m.nc+1) (pe [])):=(aU.block (rL.2.2.block w.heap.size bM (by intro e;cases e))).congr (λj _=>by unfold pe;simp);clear rL rU hF hb hl hm G KG;go_wp2_with fail
  go_loopg [4,7,8,9] (m.nc*9+L.length) (λq l nn i cc wr=>∃(I n N c:Nat) (ad:Option Addr) (S:List Nat) (L:List B.V),l=.slice ad n c/\nn=.int .i64 N/\i=.int .i64 I/\n=L.length/\N=S.length/\I<=L.length/\L.length<=m.nt*161+N*8/\q=(m.nc-N)*9+(L.length-I)/\Hid (Scan d m I S L)/\Hid (nR w wr ad n c L)/\Hid (Full wr w.heap.size 4 (m.nc+1) (m.nc+1) (pe S)))
  case atStart=>exact⟨0,L.length,0,c,ad,[],L,rfl,rfl,rfl,rfl,rfl,by omega,by omega,by simp,cH,bQ,aW⟩
  case round=>
   obtain⟨I,n,N,c2,b9,S,y,rfl,rfl,rfl,cB,hN,cR,b1,hq,rS,o,rF⟩:=hrel;subst cB;subst hN;have d2:=rS.len (λc hc=>⟨(HC.c c hc).1,(HC.c c hc).2.1⟩);by_cases aB:I<y.length
   .obtain⟨v,hv⟩:∃v,y[I]? = some v:=⟨_,bn aB⟩;obtain⟨b,rfl,lb,v0,v1⟩:=o.cell rfl hv;have cM:(I:Int)<y.length:=by omega
    by_cases h0:v.1=0
    .rw[h0]at v0;have KS:=az (rS.skip hv (ag h0));clear rS;go_wp2_with fail
     go_roundg ((m.nc-S.length)*9+(y.length-(I+1)))
     case rel=>exact⟨I+1,y.length,S.length,c2,_,S,y,rfl,rfl,by go_num,rfl,rfl,by omega,b1,rfl,KS,o,rF⟩
     case measure=>omega
    have hr:lT d m v.1:=rS.l v (ed hv) h0;obtain⟨r1,r2,r3⟩:=HC.c v.1 hr
    have p2:(v.1:Int)<m.nc+1:=by omega
    have p3:(0:Int)<=v.1:=by omega
    obtain⟨s0,z0⟩:=rF.cells v.1 (by omega);by_cases hs:v.1∈S
    .have s1:wr.cell? ⟨w.heap.size,v.1,none⟩=some (.bool true):=by rw[s0];unfold pe;rw[fh hs]
     have KS:=az (rS.skip hv (ab hs));clear rS s0 hs;go_wp2_with fail
     go_roundg ((m.nc-S.length)*9+(y.length-(I+1)))
     case rel=>exact⟨I+1,y.length,S.length,c2,_,S,y,rfl,rfl,by go_num,rfl,rfl,by omega,b1,rfl,KS,o,rF⟩
     case measure=>omega
    have s1:wr.cell? ⟨w.heap.size,v.1,none⟩=some (.bool false):=by rw[s0];unfold pe;rw[fi hs]
    have KS:=az (rS.take hv h0 hs);have aL:=KS.len (λc hc=>⟨(HC.c c hc).1,(HC.c c hc).2.1⟩);rw[List.length_cons]at aL;have G:=az (HR.kept o.2.2);obtain⟨cb,k1,k2,k3,k4,k5⟩:=G.cc r1 r2;have aZ:=az (G.S r1 r2);have p4:IntKind.i64.wrap ((v.1:Int)-1)=((v.1-1:Nat):Int):=by rw[bl,bd _ (by omega)];omega
    have p5:v.1-1<m.nc:=by omega
    have nb:b≠w.heap.size:=by
     have:=o.1;exact eL this rF (by decide) b rfl
    have d1:w.heap.size<wr.heap.size:=rF.lt;have bL:cb≠w.heap.size:=λe=>by
     have cL:cb<w.heap.size:=by
      obtain⟨cQ,a6,cW,_⟩:=HR.cc r1 r2;rw[k1]at a6;injection a6 with a6;injection a6 with a6 _;omega
     omega
    have c7:g.mb≠w.heap.size:=by omega
    have a9:=az ((rF.ep v.1 (.bool true)).congr (λj _=>yx S v.1 j));have a5:Hid (nR w (wr.setCell ⟨w.heap.size,v.1,none⟩ (.bool true)) (some ⟨b,0,none⟩) y.length c2 y):=⟨dD o.1 (λk hk=>af _ _ _ _ (by
     have:k=b:=by simpa[Value.ownBlock] using hk.symm
     rw[this];exact nb)),o.2.1,bp o.2.2 (ab (bj _)) _⟩
    have bA:Hid (∀j,j<(m.M v.1).length*2->(wr.setCell ⟨w.heap.size,v.1,none⟩ (.bool true)).cell? ⟨g.sb v.1,j,none⟩=some (eC (kT (m.M v.1)) j)):=λj Y=>(aw (a:=⟨g.sb v.1,j,none⟩) (af _ _ _ _ (by
     have:=(HR.S r1 r2).lt;show g.sb v.1≠w.heap.size;omega))).trans (aZ.cell j Y)
    have bW:(wr.setCell ⟨w.heap.size,v.1,none⟩ (.bool true)).cell? ⟨g.mb,12,none⟩=some (.slice (some ⟨cb,0,none⟩) m.nc (g.ro 3 0).2):=(aw (a:=⟨g.mb,12,none⟩) (af _ _ _ _ c7)).trans k3;have c8:(wr.setCell ⟨w.heap.size,v.1,none⟩ (.bool true)).cell? ⟨cb,(v.1-1)*2,none⟩=some (.slice (some ⟨g.sb v.1,0,none⟩) (m.M v.1).length (m.M v.1).length):=(aw (a:=⟨cb,(v.1-1)*2,none⟩) (af _ _ _ _ bL)).trans k4;clear rS s0 hs G aZ k1 k3 k4 k5 rF o;generalize aN:(m.M v.1).length=sl at *;generalize cD:v.1-1=zv at *;have p6:(zv:Int)<m.nc:=by omega
    have p7:(0:Int)<=zv:=by omega
    have a0:=az aN;clear aN cD;by_cases cF:sl=0
    .subst cF;have b5:=cf.1 a0;have bN:Hid (Scan d m (I+1) (v.1 :: S) y):=by have:=KS.out;rw[b5,eB]at this;exact this
     have aQ:y.length<=c2:=by
      rcases a5.1.2 with⟨h2,_⟩|⟨g',cO,cZ,k1,_,k3,k4,_⟩
      .cases h2
      cases k1;exact k4
     clear b5 KS;go_wp2_with (at_builtin;refine oI rfl (.tmp 89) (.tmp 98) 161 rfl 115 j0 Tryz.underlying161 Y (some ⟨b,0,none⟩) (some ⟨g.sb v.1,0,none⟩) y.length c2 0 rfl rfl aQ ?_)
     go_roundg ((m.nc-(S.length+1))*9+(y.length-(I+1)))
     case rel=>exact⟨I+1,y.length,S.length+1,c2,_,v.1 :: S,y,rfl,by go_num,by go_num,rfl,rfl,by omega,by omega,rfl,bN,a5,a9⟩
     case measure=>omega
    have J:=az a5.1;have aY:∀j u,(fT (m.M v.1))[j]? = some u->j<sl*2/\u=eC (kT (m.M v.1)) j:=λj u hu=>by
     have e1:m.M v.1=pf (kT (m.M v.1)) sl:=by
      unfold pf kT;apply List.ext_getElem?
      intro i;rw[eo];by_cases hi:i<sl
      .rw[fW hi];have aS:i<(m.M v.1).length:=by rw[a0.out];exact hi
       rw[bn aS];show _=some ((m.M v.1).getD i (0,0));rw[ar,bn aS];rfl
      rw[cw (by rw[a0.out];omega),cw (by simp;omega)];rfl
     rw[e1]at hu;exact Cu hu
    have b4:=az aY;have b8:(fT (m.M v.1)).length=sl*2:=by rw[jr,a0.out]
    have aT:=az b8;clear aY b8;go_wp2_with (at_builtin;refine gK rfl (.tmp 89) (.tmp 98) 161 rfl 115 j0 _ 2 16 Tryz.underlying161 Y aJ aI aF rfl (by decide) _ _ _ _ rfl J ⟨g.sb v.1,0,none⟩ sl sl (fT (m.M v.1)) rfl aT ?c1 ?c2 ?c3 ?c4 ?c5 ?_)
    try case c1=>
     intro j u Y;obtain⟨a1,a2⟩:=b4 j u Y;rw[a2];have:=bA j a1
     cases j with
     | zero=>simpa[Addr.add] using this
     | succ j=>simpa[Addr.add] using this
    try case c2=>exact xk _
    try case c3=>unfold maxLen;omega
    try case c4=>omega
    try case c5=>omega
    intro v' w6 ho W Z;obtain⟨b6,a7,rfl⟩:=dM ho (by omega);have a4:=az (nR.app (R:=m.M v.1) a5 (ax _ _) (by rw[a0.out];exact ho) W (z:=wr.heap.size) (by simp[World.setCell]) (by rw[a0.out];exact Z));rw[a0.out]at a4;have bE:Hid (Full w6 w.heap.size 4 (m.nc+1) (m.nc+1) (pe (v.1 :: S))):=a9.block (W.block w.heap.size a9.lt (λe=>nb (by injection e with e;exact e.symm)));have a3:(y++m.M v.1).length=y.length+sl:=by rw[bo,a0.out]
    clear ho W Z J a5 a9 bA bW c8 b4 aT;rw[<-a3]at a4;rw[<-a3];have bF:=az KS;have bC:I+1<=(y++m.M v.1).length:=by omega
    have cA:(y++m.M v.1).length<=m.nt*161+(S.length+1)*8:=by omega
    have cV:(m.nc-(S.length+1))*9+((y++m.M v.1).length-(I+1))<(m.nc-S.length)*9+(y.length-I):=by omega
    clear a3 KS;generalize y++m.M v.1=L7 at *;go_wp2_with fail
    go_roundg ((m.nc-(S.length+1))*9+(L7.length-(I+1)))
    case rel=>exact⟨I+1,L7.length,S.length+1,a7,_,v.1 :: S,L7,rfl,by go_num,by go_num,rfl,rfl,bC,cA,rfl,bF,a4,bE⟩
    case measure=>omega
   obtain rfl:I=y.length:=by omega
   have KD:=az rS.done;have bT:=az o.2.2;clear rS;go_wp2_with fail
   go_ret;exact⟨S.length,rfl,KD,bT⟩
def Dc.full(c:Dc):Dc:={ c with fu:=true }
theorem FE{rb:Nat}{x16 x19 x20:Int}(Y:IntKind.i64.wrap (x16+1)=x16+1)(W:IntKind.i64.wrap (x19+1)=x19+1)(J:IntKind.i64.wrap (x20+1)=x20+1)(i:w.cell? ⟨rb,16,none⟩=some (.int .i64 x16)/\w.frozen? ⟨rb,16,none⟩=false)(o:w.cell? ⟨rb,19,none⟩=some (.int .i64 x19)/\w.frozen? ⟨rb,19,none⟩=false)(u:w.cell? ⟨rb,20,none⟩=some (.int .i64 x20)/\w.frozen? ⟨rb,20,none⟩=false): Calls prog 226 #[Pt rb 16] w λe w'=>e=.returned (.tuple #[])/\w'=((w.setCell ⟨rb,16,none⟩ (.int .i64 (x16+1))).setCell ⟨rb,19,none⟩ (.int .i64 (x19+1))).setCell ⟨rb,20,none⟩ (.int .i64 (x20+1)):=by
 obtain⟨i,y⟩:=i;obtain⟨o,G⟩:=o;obtain⟨u,H⟩:=u;go_in;go_wp2_with fail
 go_end0;exact⟨rfl,rfl⟩
theorem Gg(h:dQ d m g w)(H:m.G.all<1000000000)(Y:m.G.sure<1000000000)(h3:m.G.lO<1000000000):Calls prog 226 #[Pt g.mb 16] w λe w'=>e=.returned (.tuple #[])/\Tr d m g w (m.gT m.G.born) g w':=by
 have wr:∀x:Nat,x<1000000000->IntKind.i64.wrap ((x:Int)+1)=(x:Int)+1:=λx hx=>by rw[bl,bd _ (by omega)]
 refine(FE (x16:=(m.G.all:Int)) (x19:=(m.G.sure:Int)) (x20:=(m.G.lO:Int)) (wr _ H) (wr _ Y) (wr _ h3) (h.mc 16 (by omega) rfl) (h.mc 19 (by omega) rfl) (h.mc 20 (by omega) rfl)).mono ?_;rintro e w' ⟨rfl,rfl⟩;have y:∀(m1:Dm) (w1:World) (j:Nat) (v:Value) (G:Dc),dQ d m1 g w1->(∀i,i<24->mE d (m1.gT G) g i=if i=j then v else mE d m1 g i)->Tr d m1 g w1 (m1.gT G) g (w1.setCell ⟨g.mb,j,none⟩ v):=λm1 w1 j v G Z o=>Z.wQ j v ⟨rfl,rfl,rfl,rfl,rfl,rfl,rfl,rfl⟩ o;have ev:∀(m1:Dm) (G:Dc) (j:Nat) (v:Value),16<=j->j<24->(∀i,16<=i->i<24->mE d (m1.gT G) g i=if i=j then v else mE d m1 g i)->∀i,i<24->mE d (m1.gT G) g i=if i=j then v else mE d m1 g i:=λm1 G j v H Y o i hi=>by
  by_cases e:16<=i
  .exact o i e hi
  rw[aa (by omega)];have hc:i=0\/i=1\/i=2\/i=3\/i=4\/i=5\/i=6\/i=7\/i=8\/i=9\/i=10\/i=11\/i=12\/i=13\/i=14\/i=15:=by omega
  rcases hc with rfl|rfl|rfl|rfl|rfl|rfl|rfl|rfl|rfl|rfl|rfl|rfl|rfl|rfl|rfl|rfl<;>rfl
 have u:∀i:Nat,16<=i->i<24->i=16\/i=17\/i=18\/i=19\/i=20\/i=21\/i=22\/i=23:=λi a b=>by omega
 have W:=y m w 16 (iK ((m.G.all:Int)+1)) { m.G with all:=m.G.all+1 } h (ev _ _ _ _ (by omega) (by omega) (λi a b=>by rcases u i a b with rfl|rfl|rfl|rfl|rfl|rfl|rfl|rfl<;>rfl));have J:=y _ _ 19 (iK ((m.G.sure:Int)+1)) { m.G with all:=m.G.all+1,sure:=m.G.sure+1 } W.r (ev _ _ _ _ (by omega) (by omega) (λi a b=>by rcases u i a b with rfl|rfl|rfl|rfl|rfl|rfl|rfl|rfl<;>rfl));exact⟨rfl,(W.trans J).trans (y _ _ 20 (iK ((m.G.lO:Int)+1)) m.G.born J.r (ev _ _ _ _ (by omega) (by omega) (λi a b=>by rcases u i a b with rfl|rfl|rfl|rfl|rfl|rfl|rfl|rfl<;>rfl)))⟩
def fy(d:Dp)(m:Dm):Dc:=if d.n<=m.G.all then m.G.full else m.G
theorem dQ.full(h:dQ d m g w):Tr d m g w (m.gT m.G.full) g (w.setCell ⟨g.mb,23,none⟩ (.bool true)):=h.wQ 23 _ ⟨rfl,rfl,rfl,rfl,rfl,rfl,rfl,rfl⟩ (λi hi=>by
 have e:i=0\/i=1\/i=2\/i=3\/i=4\/i=5\/i=6\/i=7\/i=8\/i=9\/i=10\/i=11\/i=12\/i=13\/i=14\/i=15\/i=16\/i=17\/i=18\/i=19\/i=20\/i=21\/i=22\/i=23:=by omega
 rcases e with rfl|rfl|rfl|rfl|rfl|rfl|rfl|rfl|rfl|rfl|rfl|rfl|rfl|rfl|rfl|rfl|rfl|rfl|rfl|rfl|rfl|rfl|rfl|rfl<;>rfl)
theorem lT.gT(G:Dc){c:Nat}:lT d (m.gT G) c↔lT d m c:=by
 constructor
 .intro h;induction h with
  | root e i=>exact .root e i
  | slot _ e i o=>exact .slot o e i
 intro h;induction h with
 | root e i=>exact .root e i
 | slot _ e i o=>exact .slot o e i
theorem BK.gT(h:BK d m)(G:Dc):BK d (m.gT G):=⟨h.nt,h.n1,h.n2,h.f,λc e=>h.c c ((lT.gT G).1 e)⟩
theorem FU(h:dQ d m g w)(hC:BK d m):Calls prog 225 #[P0 g.mb] w λe w'=>∃(ok:Bool),e=.returned (.bool ok)/\Tr d m g w (m.gT (fy d m)) g w'/\(((fy d m).fu=false/\ok=decide (0<d.n))\/∃N:Nat,kg d m N/\ok=decide (N<d.n)):=by
 have a1:w.cell? ⟨g.mb,16,none⟩=some (.int .i64 (m.G.all:Int)):=(h.mc 16 (by omega) rfl).1;have c1:w.cell? ⟨g.mb,1,none⟩=some (.int .i64 (d.n:Int)):=(h.mc 1 (by omega) rfl).1;obtain⟨J,a0⟩:=h.mc 23 (by omega) (v:=.bool m.G.fu) rfl;have lm:=h.M.lt;have W:=az h;have HC:=az hC;by_cases h1:d.n<=m.G.all
 .have Z:(d.n:Int)<=(m.G.all:Int):=by omega
  have hG:fy d m=m.G.full:=by unfold fy;rw[aj h1]
  rw[hG];have Y:=az (λn=>Tr.ahead (db (ax w none) n) (W.out.kept (db (ax w none) n)).full);have y:=az (λn=>nG (Y.out n).r (HC.out.gT m.G.full));go_in;go_wp2_with fail
  go_quiet (fail)
  go_wp2_with fail
  refine(y.out nq).mono ?_;rintro e w5 ⟨N,rfl,H,u⟩;have o:=az ((Y.out nq).kept u);have d1:w5.cell? ⟨g.mb,1,none⟩=some (.int .i64 (d.n:Int)):=(o.out.r.mc 1 (by omega) rfl).1;have HN:Hid (kg d m N):=by
   obtain⟨l,l1,l2,l3⟩:=H;exact⟨l,l1,λc=>by rw[l2];exact lT.gT _,l3⟩
  go_wp2_with fail
  go_ret;exact⟨_,rfl,o.out,ab ⟨N,HN.out,by simp⟩⟩
 have Z:¬((d.n:Int)<=(m.G.all:Int)):=by omega
 have hG:fy d m=m.G:=by unfold fy;rw[aa h1]
 rw[hG];have i:m.gT m.G=m:=rfl;rw[i]
 cases hf:m.G.fu with
 | true=>
  rw[hf]at J;have y:=az (λn=>nG (W.out.kept (db (ax w none) n)) HC.out);go_in;go_wp2_with fail
  go_quiet (fail)
  go_wp2_with fail
  refine(y.out nq).mono ?_;rintro e w5 ⟨N,rfl,H,u⟩;have o:=az ((Tr.refl W.out).kept (an (db (ax w none) nq) u));have d1:w5.cell? ⟨g.mb,1,none⟩=some (.int .i64 (d.n:Int)):=(o.out.r.mc 1 (by omega) rfl).1;have HN:=az H;go_wp2_with fail
  go_ret;exact⟨_,rfl,o.out,ab ⟨N,HN.out,by simp⟩⟩
 | false=>
  rw[hf]at J;go_in;go_wp2_with fail
  go_quiet (fail)
  go_wp2_with fail
  go_ret;exact⟨_,rfl,(Tr.refl W.out).kept (db (ax w none) nq),ag ⟨by first|exact HF.out|trivial,by simp⟩⟩
end D
namespace D
open F
variable {w : World}
theorem I3{mb i nr a b c:Nat}{x:Int}{u:B.V}(hb:b<nr)(Y:c<nr)(rb:oU w i b (0,x))(rc:oU w i c u): Calls prog 214 #[P0 mb,.slice (some ⟨i,0,none⟩) nr nr,jY 10 a b c] w λe w'=>e=.returned (.int .i64 2)/\w.grownBy w' none:=by
 have Z:i<w.heap.size:=av w _ rb.1;have W:(b:Int)<(nr:Int):=by omega
 have H:(c:Int)<(nr:Int):=by omega
 have o:i<w.heap.size+1:=by omega
 obtain⟨G,J,_,_⟩:=rb;obtain⟨s0,s1,_,_⟩:=rc;simp only[]at G J;go_in;go_wp2_with fail
 go_quiet (fail)
 go_wp2_with fail
 go_ret;exact⟨rfl,db (au (au (au (ax _ _) _) _) _) _⟩
theorem IY{mb i nr a b c:Nat}{x:Int}{vb o:B.V}(ha:a<nr)(hb:b<nr)(hc:c<nr)(ra:oU w i a (0,x))(rb:oU w i b vb)(rc:oU w i c o): Calls prog 214 #[P0 mb,.slice (some ⟨i,0,none⟩) nr nr,jY 11 a b c] w λe w'=>e=.returned (.int .i64 2)/\w.grownBy w' none:=by
 have lr:i<w.heap.size:=av w _ ra.1;have Y:(a:Int)<(nr:Int):=by omega
 have u:(b:Int)<(nr:Int):=by omega
 have y:(c:Int)<(nr:Int):=by omega
 have G:i<w.heap.size+1:=by omega
 have H:i<w.heap.size+1+1:=by omega
 obtain⟨J,W,_,_⟩:=ra;obtain⟨u0,u1,_,_⟩:=rb;obtain⟨s0,s1,_,_⟩:=rc;simp only[]at J W;go_in;go_wp2_with fail
 go_quiet (fail)
 go_wp2_with fail
 go_ret;exact⟨rfl,db (au (au (au (ax _ _) _) _) _) _⟩
end D
namespace D
open F
variable {p : dz} {d : Dp} {K : Nat} {s : Pl} {m m' : Dm} {g g' : Dg} {w w' : World} {ρ : Nat → Nat}
theorem zr{o mb t i nr a b c:Nat}{R:Int->World->Prop}(G:o=9\/o=10\/o=11\/o=12)(Z:b<256)(J:c<256)(H:∀w1,w.grownBy w1 none->Calls prog 214 #[P0 mb,.slice (some ⟨i,0,none⟩) nr nr,jY o a b c] w1 λe w'=>∃v:Int,e=.returned (.int .i64 v)/\R v w'): Calls prog 194 #[P0 mb,.int .i64 (t:Int),.slice (some ⟨i,0,none⟩) nr nr,jY o a b c] w λe w'=>∃v:Int,e=.returned (.int .i64 v)/\R v w':=by
 have Y:IntKind.i64.wrap (256*(b:Int))=256*(b:Int):=by rw[bl,bd _ (by omega)]
 have W:IntKind.i64.wrap (256*(b:Int)+(c:Int))=256*(b:Int)+(c:Int):=by rw[bl,bd _ (by omega)]
 have u:=az (H (w.alloc (.cells #[.int .i64 (o:Int),.int .i64 (a:Int),.int .i64 (b:Int),.int .i64 (c:Int)] 90)) (au (ax _ _) _));rcases G with rfl|rfl|rfl|rfl
 all_goals
  go_in;go_wp2_with fail
  refine u.out.mono ?_;rintro e w2 ⟨v,rfl,hR⟩;have y:=az hR;go_wp2_with fail
  go_ret;exact⟨v,rfl,y.out⟩
theorem GK{o mb t i nr a b c:Nat}{R:Int->World->Prop}(G:o=13\/o=15\/o=17\/o=18\/o=19\/o=21)(Z:b<256)(J:c<256)(H:∀w1,w.grownBy w1 none->Calls prog 215 #[P0 mb,.int .i64 (t:Int),.slice (some ⟨i,0,none⟩) nr nr,jY o a b c] w1 λe w'=>∃v:Int,e=.returned (.int .i64 v)/\R v w'): Calls prog 194 #[P0 mb,.int .i64 (t:Int),.slice (some ⟨i,0,none⟩) nr nr,jY o a b c] w λe w'=>∃v:Int,e=.returned (.int .i64 v)/\R v w':=by
 have Y:IntKind.i64.wrap (256*(b:Int))=256*(b:Int):=by rw[bl,bd _ (by omega)]
 have W:IntKind.i64.wrap (256*(b:Int)+(c:Int))=256*(b:Int)+(c:Int):=by rw[bl,bd _ (by omega)]
 have u:=az (H (w.alloc (.cells #[.int .i64 (o:Int),.int .i64 (a:Int),.int .i64 (b:Int),.int .i64 (c:Int)] 90)) (au (ax _ _) _));rcases G with rfl|rfl|rfl|rfl|rfl|rfl
 all_goals
  go_in;go_wp2_with fail
  refine u.out.mono ?_;rintro e w2 ⟨v,rfl,hR⟩;have y:=az hR;go_wp2_with fail
  go_ret;exact⟨v,rfl,y.out⟩
theorem L8{mb t i nr a b c:Nat}{R:World->Prop}(Y:b<256)(G:c<256)(H:∀w1,w.grownBy w1 none->Calls prog 213 #[P0 mb,.int .i64 (t:Int),.int .i64 ((256*b+c:Nat):Int)] w1 λe w'=>e=.returned (.tuple #[])/\R w'): Calls prog 194 #[P0 mb,.int .i64 (t:Int),.slice (some ⟨i,0,none⟩) nr nr,jY 7 a b c] w λe w'=>e=.returned (.int .i64 0)/\R w':=by
 have W:IntKind.i64.wrap (256*(b:Int))=256*(b:Int):=by rw[bl,bd _ (by omega)]
 have J:IntKind.i64.wrap (256*(b:Int)+(c:Int))=256*(b:Int)+(c:Int):=by rw[bl,bd _ (by omega)]
 have o:((256*b+c:Nat):Int)=256*(b:Int)+(c:Int):=by omega
 rw[o]at H;have y:=az (H (w.alloc (.cells #[.int .i64 ((7:Nat):Int),.int .i64 (a:Int),.int .i64 (b:Int),.int .i64 (c:Int)] 90)) (au (ax _ _) _));go_in;go_wp2_with fail
 refine y.out.mono ?_;rintro e w2 ⟨rfl,hR⟩;have u:=az hR;go_wp2_with fail
 go_ret;exact⟨rfl,u.out⟩
theorem L6{mb t G nr a b c:Nat}{o:B.V}{R:World->Prop}(ha:a<nr)(hb:b<256)(hc:c<256)(r:oU w G a o)(H:∀w1,o=(0,0)->w.grownBy w1 none->Calls prog 213 #[P0 mb,.int .i64 (t:Int),.int .i64 ((256*b+c:Nat):Int)] w1 λe w'=>e=.returned (.tuple #[])/\R w')(J:∀w1,o≠(0,0)->w.grownBy w1 none->R w1): Calls prog 194 #[P0 mb,.int .i64 (t:Int),.slice (some ⟨G,0,none⟩) nr nr,jY 8 a b c] w λe w'=>e=.returned (.int .i64 0)/\R w':=by
 have q1:IntKind.i64.wrap (256*(b:Int))=256*(b:Int):=by rw[bl,bd _ (by omega)]
 have q2:IntKind.i64.wrap (256*(b:Int)+(c:Int))=256*(b:Int)+(c:Int):=by rw[bl,bd _ (by omega)]
 have e0:((256*b+c:Nat):Int)=256*(b:Int)+(c:Int):=by omega
 rw[e0]at H;obtain⟨Y,r1,r2,r3⟩:=r;have lr:G<w.heap.size:=av w _ Y;have a0:(a:Int)<(nr:Int):=by omega
 obtain⟨u,y⟩:=o;simp only[]at Y r1;have i:∀w0,(binOp .eql 115 (.agg #[.int .i64 (u:Int),.int .i64 y]) (.agg #[.int .i64 0,.int .i64 0])).run prog w0=.ok (.bool (decide ((u,y)=(0,0)))) w0:=Gc u 0 y 0;have Z:=au (ax w none) (.cells #[.int .i64 ((8:Nat):Int),.int .i64 (a:Int),.int .i64 (b:Int),.int .i64 (c:Int)] 90);by_cases hz:(u,y)=(0,0)
 .have W:=az (H _ hz Z);rw[fh hz]at i;go_in;go_wp2_with fail
  refine W.out.mono ?_;rintro e w2 ⟨rfl,hR⟩;have HR:=az hR;go_wp2_with fail
  go_ret;exact⟨rfl,HR.out⟩
 have W:=az (J _ hz Z);rw[fi hz]at i;go_in;go_wp2_with fail
 go_ret;exact⟨rfl,W.out⟩
theorem Kv{mb t i nr a b c:Nat}{o:B.V}{R:World->Prop}{f:Bool}(ha:a<nr)(hb:b<256)(hc:c<256)(r:oU w i a o)(H:∀w1,w.grownBy w1 none->Calls prog 193 #[P0 mb,.int .i64 (t:Int),vA o] w1 λe w'=>e=.returned (.bool f)/\R w'): Calls prog 194 #[P0 mb,.int .i64 (t:Int),.slice (some ⟨i,0,none⟩) nr nr,jY 14 a b c] w λe w'=>e=.returned (.int .i64 (if f=true then -1 else 0))/\R w':=by
 have q1:IntKind.i64.wrap (256*(b:Int))=256*(b:Int):=by rw[bl,bd _ (by omega)]
 have q2:IntKind.i64.wrap (256*(b:Int)+(c:Int))=256*(b:Int)+(c:Int):=by rw[bl,bd _ (by omega)]
 obtain⟨u,W,r2,Z⟩:=r;have Y:i<w.heap.size:=av w _ u;have J:(a:Int)<(nr:Int):=by omega
 obtain⟨a1,a2⟩:=o;simp only[]at u W;have y:=az (H (w.alloc (.cells #[.int .i64 ((14:Nat):Int),.int .i64 (a:Int),.int .i64 (b:Int),.int .i64 (c:Int)] 90)) (au (ax _ _) _));go_in;go_wp2_with fail
 refine y.out.mono ?_;rintro e w2 ⟨rfl,hR⟩;have G:=az hR
 cases f
 all_goals
  go_wp2_with fail
  go_ret;exact⟨rfl,G.out⟩
theorem Ku{mb t o nr a b c:Nat}{i:B.V}{R:World->Prop}(ha:a<nr)(hb:b<256)(hc:c<256)(r:oU w o a i)(H:∀w1,w.grownBy w1 none->Calls prog 195 #[P0 mb,.int .i64 ((1:Nat):Int),.int .i64 (t:Int),.int .i64 i.2] w1 λe w'=>e=.returned (.tuple #[])/\R w'): Calls prog 194 #[P0 mb,.int .i64 (t:Int),.slice (some ⟨o,0,none⟩) nr nr,jY 20 a b c] w λe w'=>(i.1=0/\e=.returned (.int .i64 0)/\R w')\/(i.1≠0/\e=.returned (.int .i64 1)/\w.grownBy w' none):=by
 have q1:IntKind.i64.wrap (256*(b:Int))=256*(b:Int):=by rw[bl,bd _ (by omega)]
 have q2:IntKind.i64.wrap (256*(b:Int)+(c:Int))=256*(b:Int)+(c:Int):=by rw[bl,bd _ (by omega)]
 obtain⟨u,Z,r2,r3⟩:=r;have lr:o<w.heap.size:=av w _ u;have Y:(a:Int)<(nr:Int):=by omega
 obtain⟨y,a2⟩:=i;simp only[]at u Z H ⊢;have J:=az (H (w.alloc (.cells #[.int .i64 ((20:Nat):Int),.int .i64 (a:Int),.int .i64 (b:Int),.int .i64 (c:Int)] 90)) (au (ax _ _) _));by_cases hz:y=0
 .subst hz;go_in;go_wp2_with fail
  refine J.out.mono ?_;rintro e w2 ⟨rfl,hR⟩;have W:=az hR;go_wp2_with fail
  go_ret;exact ag ⟨by simp,rfl,W.out⟩
 have h1:(0:Int)<(y:Int):=by omega
 have G:=az hz;go_in;go_wp2_with fail
 go_ret;exact ab ⟨G.out,rfl,au (ax _ _) _⟩
end D
namespace D
open F
variable {w : World}
theorem wT{o i j mb u nr a b c z cb J cc sN sl v:Nat}{x H y why:Int}{vo:B.V}(ho:(o=10/\b=i/\c=j)\/(o=11/\a=i/\b=j/\(c:Int)<(nr:Int)/\oU w u c vo))(hi:i<nr)(hj:j<nr)(Z:oU w u i (z+1,x))(rt:oU w u j (v,y))(hz:z<J)(hn:J<1000000000)(W:w.cell? ⟨mb,12,none⟩=some (.slice (some ⟨cb,0,none⟩) J cc))(k1:w.cell? ⟨cb,z*2+1,none⟩=some (.int .i64 H))(k0:w.cell? ⟨cb,z*2,none⟩=some (.slice (some ⟨sN,0,none⟩) sl sl))(hX:(0<=H/\why=2)\/(¬(0<=H)/\(0:Int)<(v:Int)/\why=1)\/(¬(0<=H)/\v=0/\decide (y<0)=true/\why=3)\/(¬(0<=H)/\v=0/\decide (y<0)=false/\decide ((sl:Int)<=y)=true/\why=3)): Calls prog 214 #[P0 mb,.slice (some ⟨u,0,none⟩) nr nr,jY o a b c] w λe w'=>e=.returned (.int .i64 why)/\w.grownBy w' none:=by
 have lr:u<w.heap.size:=av w _ Z.1;have lm:mb<w.heap.size:=av w _ W;have lc:cb<w.heap.size:=av w _ k1;have a5:(i:Int)<(nr:Int):=by omega
 have a6:(j:Int)<(nr:Int):=by omega
 have a2:u<w.heap.size+1:=by omega
 have a7:u<w.heap.size+1+1:=by omega
 have a1:mb<w.heap.size+1:=by omega
 have a8:mb<w.heap.size+1+1:=by omega
 have aB:cb<w.heap.size+1:=by omega
 have a9:cb<w.heap.size+1+1:=by omega
 have q1:IntKind.i64.wrap ((z:Int)+1-1)=(z:Int):=fp (by omega);have q2:IntKind.i64.wrap (z:Int)=(z:Int):=by rw[bl,bd _ (by omega)]
 have q3:(z:Int)<(J:Int):=by omega
 have q4:(0:Int)<=(z:Int):=by omega
 have q5:(((z:Int)+1) == 0)=false:=by rw[dK];omega
 obtain⟨G,r1,_,_⟩:=Z;have r0:w.cell? ⟨u,i*2,none⟩=some (.int .i64 ((z:Int)+1)):=G;clear G;obtain⟨s0,s1,_,_⟩:=rt;simp only[]at r1 s0 s1;rcases ho with⟨rfl,rfl,rfl⟩|⟨rfl,rfl,rfl,a0,o0,o1,_,_⟩<;>rcases hX with⟨Y,rfl⟩|⟨Y,q7,rfl⟩|⟨Y,rfl,b1,rfl⟩|⟨Y,rfl,b1,b2,rfl⟩
 all_goals
  try simp only[]at s0
  go_in;go_wp2_with fail
  go_quiet (fail)
  go_wp2_with fail
  try
   go_quiet (fail)
   go_wp2_with fail
  go_ret;refine⟨rfl,?_⟩;first|exact db (db (au (au (au (ax _ _) _) _) _) _) _|exact db (au (au (au (ax _ _) _) _) _) _
