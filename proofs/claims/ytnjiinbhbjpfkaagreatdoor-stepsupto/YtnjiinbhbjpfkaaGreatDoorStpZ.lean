import Derived.Test.YtnjiinbhbjpfkaaGreatDoorStpY
import Derived.Defers
import Derived.Laws.LoneSync
set_option maxRecDepth 100000
set_option maxHeartbeats 0
set_option linter.all false
namespace Go.Proofs.YtnjiinbhbjpfkaaGreatDoor
open Go.RowKit Go.Proofs.Tryz
namespace F
theorem KY{p:dz}{s:Pl}{g:eE}{w:World}{t:Nat}(h:dQ p s g w)(hP:PW p)(hPI:PI p)(hR:Rn p s t)(hn:s.nt+1<=500000000)(G:s.ev.length<=1000): Calls prog 134 #[P0 p.eb,P0 (g.tb t)] w λe w'=>e=.returned (.tuple #[])/\∃s' g',iC p t s s'/\Tr p s g w s' g' w':=by
 obtain⟨_,a1,_⟩:=rY 21 hR (by have:=hR.fw.n2;omega);by_cases hr:((s.ends p t 21).T t).run=true
 .obtain⟨a2,hG,hx⟩:=a1 hr;obtain⟨a4,a5⟩:=mM a2 hx;have a6:=a2.ff;have a0:=hPI _ a6.1 (bw (s.ends p t 21) t).nx (by omega);generalize u:p.ins (bw (s.ends p t 21) t).f (bw (s.ends p t 21) t).nx=k at a0;obtain⟨H,a,b,c⟩:=k;rw[<-a5]at a0;have W:((s.ends p t 21).fD t).ev.length<=100000:=by
   obtain⟨l,l1,l2,_⟩:=id hG;show(s.ends p t 21).ev.length<=_;rw[l1,bo];omega
  obtain⟨k0,k1,k2,k3,J,Y,k6,k7,k8,k9,n1,n2,n3,n4,n5⟩:=a0;simp only at k0 k1 k2 k3 J Y k6 k7 k8 k9 n1 n2 n3 n4 n5
  have a3:(((s.ends p t 21).fD t).T t).fr.length<=1000:=by have:=a4.fw.n2;omega
  have hc:H=0\/H=1\/H=2\/H=3\/H=4\/H=5\/H=6\/H=7\/H=8\/H=9\/H=10\/H=11\/H=12\/H=13\/H=14\/H=16\/H=20\/H=22:=by omega
  rcases hc with rfl|rfl|rfl|rfl|rfl|rfl|rfl|rfl|rfl|rfl|rfl|rfl|rfl|rfl|rfl|rfl|rfl|rfl
  .refine mN (oF (p.ac+1)) h hP hR G k0 (λ_=>⟨u,(hP.ea 0 (by omega)).trans rfl⟩) (λ_ g1 w1 y i=>(i0 y hP i.gm (J (by omega) (by omega)) k2 k3).mono ?_);rintro e w' ⟨rfl,k⟩;exact⟨0,_,rfl,⟨rfl,rfl⟩,g1,k⟩
  .refine mN (oF (p.ac+3)) h hP hR G k0 (λ_=>⟨u,(hP.ea 1 (by omega)).trans rfl⟩) (λ_ g1 w1 y i=>(i1 y hP i.gm (J (by omega) (by omega)) (Y (by omega))).mono ?_);rintro e w' ⟨rfl,k⟩;exact⟨0,_,rfl,⟨rfl,rfl⟩,g1,k⟩
  .refine mN (Ag (p.ac+4)) h hP hR G k0 (λ_=>⟨u,(hP.ea 2 (by omega)).trans rfl⟩) (λ_ g1 w1 y i=>(i25 (o:=2) 2 y hP i.gm (by omega) (J (by omega) (by omega)) (Y (by omega)) (k6 (by omega))).mono ?_);rintro e w' (⟨q,rfl,k⟩|⟨q,rfl,k⟩)
   .exact⟨0,_,rfl,ag ⟨q,rfl,rfl⟩,g1,k⟩
   exact⟨1,_,rfl,ab ⟨q,rfl,rfl⟩,g1,(Tr.refl y).kept k⟩
  .refine mN (Ag (p.ac+5)) h hP hR G k0 (λ_=>⟨u,(hP.ea 3 (by omega)).trans rfl⟩) (λ_ g1 w1 y i=>(i25 (o:=3) 3 y hP i.gm (by omega) (J (by omega) (by omega)) (Y (by omega)) (k6 (by omega))).mono ?_);rintro e w' (⟨q,rfl,k⟩|⟨q,rfl,k⟩)
   .exact⟨0,_,rfl,ag ⟨q,rfl,rfl⟩,g1,k⟩
   exact⟨1,_,rfl,ab ⟨q,rfl,rfl⟩,g1,(Tr.refl y).kept k⟩
  .refine mN (Ag (p.ac+6)) h hP hR G k0 (λ_=>⟨u,(hP.ea 4 (by omega)).trans rfl⟩) (λ_ g1 w1 y i=>(i25 (o:=4) 4 y hP i.gm (by omega) (J (by omega) (by omega)) (Y (by omega)) (k6 (by omega))).mono ?_);rintro e w' (⟨q,rfl,k⟩|⟨q,rfl,k⟩)
   .exact⟨0,_,rfl,ag ⟨q,rfl,rfl⟩,g1,k⟩
   exact⟨1,_,rfl,ab ⟨q,rfl,rfl⟩,g1,(Tr.refl y).kept k⟩
  .refine mN (Ag (p.ac+7)) h hP hR G k0 (λ_=>⟨u,(hP.ea 5 (by omega)).trans rfl⟩) (λ_ g1 w1 y i=>(i25 (o:=5) 5 y hP i.gm (by omega) (J (by omega) (by omega)) (Y (by omega)) (k6 (by omega))).mono ?_);rintro e w' (⟨q,rfl,k⟩|⟨q,rfl,k⟩)
   .exact⟨0,_,rfl,ag ⟨q,rfl,rfl⟩,g1,k⟩
   exact⟨1,_,rfl,ab ⟨q,rfl,rfl⟩,g1,(Tr.refl y).kept k⟩
  .refine mN (oF (p.ac+9)) h hP hR G k0 (λ_=>⟨u,(hP.ea 6 (by omega)).trans rfl⟩) (λ_ g1 w1 y i=>(i6 y hP i.gm (J (by omega) (by omega)) (Y (by omega)) (k6 (by omega))).mono ?_);rintro e w' ⟨rfl,k⟩;exact⟨0,_,rfl,⟨rfl,rfl⟩,g1,k⟩
  .refine mN (oF (p.ac+11)) h hP hR G k0 (λ_=>⟨u,(hP.ea 7 (by omega)).trans rfl⟩) (λ_ g1 w1 y i=>(i7 y hP i.gm k2 k3).mono ?_);rintro e w' ⟨rfl,k⟩;exact⟨0,_,rfl,⟨rfl,rfl⟩,g1,k⟩
  .refine mN (oF (p.ac+13)) h hP hR G k0 (λ_=>⟨u,(hP.ea 8 (by omega)).trans rfl⟩) (λ_ g1 w1 y i=>(i8 y hP i.gm (J (by omega) (by omega)) k2 k3).mono ?_);rintro e w' ⟨rfl,k⟩;exact⟨0,_,rfl,⟨rfl,rfl⟩,g1,k⟩
  .refine mN (oF (p.ac+15)) h hP hR G k0 (λ_=>⟨u,(hP.ea 9 (by omega)).trans rfl⟩) (λ_ g1 w1 y i=>(i9 y hP i (J (by omega) (by omega)) (k8 rfl) W).mono ?_);rintro e w' ⟨rfl,s3,Z,q,k⟩;exact⟨0,s3,rfl,⟨rfl,q⟩,Z,k⟩
  .exact mN (Fl (n:=101) (by omega)) h hP hR G k0 (λ_=>⟨u,(hP.ea 10 (by omega)).trans rfl⟩) (λ_ g1 w1 y i=>i10 y hP i (J (by omega) (by omega)) (Y (by omega)) (k6 (by omega)))
  .exact mN (Fl (n:=102) (by omega)) h hP hR G k0 (λ_=>⟨u,(hP.ea 11 (by omega)).trans rfl⟩) (λ_ g1 w1 y i=>i11 y hP i (J (by omega) (by omega)) (Y (by omega)) (k6 (by omega)))
  .refine mN (oF (p.ac+17)) h hP hR G k0 (λ_=>⟨u,(hP.ea 12 (by omega)).trans rfl⟩) (λ_ g1 w1 y i=>(i12 y hP i (J (by omega) (by omega)) k2 (k6 (by omega)) W).mono ?_);rintro e w' ⟨rfl,s3,Z,q,k⟩;exact⟨0,s3,rfl,⟨rfl,q⟩,Z,k⟩
  .refine mN (Fl (n:=104) (by omega)) h hP hR G k0 (λ_=>⟨u,(hP.ea 13 (by omega)).trans rfl⟩) (λ_ g1 w1 y i=>(i13 y hP i.gm (Y (by omega)) (k6 (by omega)) (i.ok.Ay (i.oq (Y (by omega)))) i.lf a3 (λe=>(vK i.ok (i.oq (Y (by omega))) e).1)).mono ?_);rintro e w' ⟨rfl,Z,k⟩;exact⟨_,_,rfl,⟨rfl,rfl⟩,Z,k⟩
  .refine mN (oF (p.ac+18)) h hP hR G k0 (λ_=>⟨u,(hP.ea 14 (by omega)).trans rfl⟩) (λ_ g1 w1 y i=>(i14 y hP i.gm (J (by omega) (by omega)) i.ok.lw i.ok.ww i.lf i.wh a3 i.lv i.ok.nd i.ok.lt i.ok.ol (by have:=a4.ok.kl;have:=hP.n2;omega) W (λe=>?_)).mono ?_)
   .have:=i.fw.b (cr ((s.ends p t 21).fD t) t-1) (by have:=i.hi;omega);rw[show cr ((s.ends p t 21).fD t) t-1+1=cr ((s.ends p t 21).fD t) t by omega]at this;exact this
   rintro e w' ⟨rfl,Z,k⟩;exact⟨0,_,rfl,⟨rfl,rfl⟩,Z,k⟩
  .refine mN (oF (p.ac+19)) h hP hR G k0 (λ_=>⟨u,(hP.ea 16 (by omega)).trans rfl⟩) (λ_ g1 w1 y i=>(i16 y hP i.gm i.ok.lw i.wh).mono ?_);rintro e w' ⟨rfl,Z,k⟩;exact⟨0,_,rfl,⟨rfl,rfl⟩,Z,k⟩
  .refine mN (JD (p.ac+26) (p.ac+27)) h hP hR G k0 (λ_=>⟨u,(hP.ea 20 (by omega)).trans rfl⟩) (λ_ g1 w1 y i=>(i20 y hP i.gm (J (by omega) (by omega)) W).mono ?_);rintro e w' ⟨why,rfl,q,Z,k⟩;exact⟨why,_,rfl,⟨q,rfl⟩,Z,k⟩
  refine mN (oF (p.ac+31)) h hP hR G k0 (λ_=>⟨u,(hP.ea 22 (by omega)).trans rfl⟩) (λ_ g1 w1 y i=>(i22 y hP i.gm (J (by omega) (by omega))).mono ?_);rintro e w' ⟨rfl,k⟩;exact⟨0,_,rfl,⟨rfl,rfl⟩,g1,k⟩
 exact mN (Fl (n:=101) (by omega)) (op:=0) (a:=0) (b:=0) (c:=0) h hP hR G (by omega) (λe=>ch e hr) (λe=>ch e hr)
theorem CH{p:dz}{s:Pl}{g:eE}{w:World}(h:dQ p s g w){x y:Nat}(H:fz s x y)(G:x≠5)(u:s.q x y=[]):∃ad c,w.cell? ⟨p.eb,wg x y,none⟩=some (.slice ad 0 c):=by
 have o:=h.ln H (by rw[u];exact dc _);have i:=o.hE.cell _ o.ho;rw[o.e,u]at i;unfold tP at i;rw[aa G]at i;exact⟨_,_,i⟩
theorem CG{p:dz}{s:Pl}{g:eE}{w:World}(h:dQ p s g w)(Y:LW s){x y t:Nat}{r:List Nat}(G:fz s x y)(W:x≠5)(J:s.q x y=t :: r):∃zb c,w.cell? ⟨p.eb,wg x y,none⟩=some (.slice (some ⟨zb,0,none⟩) (r.length+1) c)/\w.cell? ⟨zb,0,none⟩=some (P0 (g.tb t))/\zb<w.heap.size:=by
 have H:=Y.len G;have u:=h.ln G (by omega);have i:=u.hE.cell _ u.ho;have o:=u.row;rw[u.e]at i;unfold tP at i;rw[aa W]at i;rw[J]at i o;obtain⟨zb,c,he⟩:=dM o (by simp);rw[he]at i o;exact⟨zb,c,i,(iG o).2.2.2.2.2 0 _ (by simp),(dA o zb rfl).2.1⟩
def oy(p:dz)(s:Pl)(g:eE)(w:World)(t j:Nat)(wr:World):Prop:=
 ∃s1 g1,Tr p s g w s1 g1 wr/\Ok p s1/\s1.ev.length<=s.ev.length+j/\s1.nt<=s.nt+j/\fe s1 t/\∀s',gg p t (p.qn-j) s1 s'->gg p t p.qn (s.start t) s'
theorem AT{p:dz}{t:Nat}{s:Pl}(h:(s.T t).run=false):∀n,gg p t n s s
 | 0=>rfl
 | n+1=>by unfold gg;rw[aa (by rw[h];decide)]
theorem GJ{p:dz}{s:Pl}{g:eE}{w u:World}{t:Nat}(ht:fe s t)(o:Tr p s g w (s.dw t) g u):Tr p s g w (s.start t) g (u.setCell ⟨g.tb t,2,none⟩ (.bool true)):=by
 have i:=(eg (fO s t)).2 ht;refine o.trans (o.r.flag (v:={ (s.dw t).T t with run:=true }) i rfl rfl ?_ (bm (S:=λk=>k=g.tb t) (dk _ _) (ag rfl) _));refine((o.r.tk i).ep 2 _).congr (λj G=>?_);have e:∀a,sl ((s.dw t).dv t { (s.dw t).T t with run:=true }) g a t=sl (s.dw t) g a t:=λa=>by
  unfold sl;rw[jN (s:=s.dw t) (s':=(s.dw t).dv t { (s.dw t).T t with run:=true }) rfl rfl rfl rfl rfl (by rw[df]) rfl]
 have y:j=0\/j=1\/j=2\/j=3\/j=4\/j=5\/j=6:=by omega
 rcases y with rfl|rfl|rfl|rfl|rfl|rfl|rfl
 .rfl
 .rw[eG _ _ _ _ (by decide)];exact(e 12).symm
 .rw[gf];show _=Value.bool _;rw[df]
 .rw[eG _ _ _ _ (by decide)];show _=x8 p g _;rw[df];rfl
 .rw[eG _ _ _ _ (by decide)];show _=Ba g t _;rw[df];rfl
 .rw[eG _ _ _ _ (by decide)];show _=Value.int .i64 _;rw[df];rfl
 rw[eG _ _ _ _ (by decide)];exact(e 5).symm
theorem DA{p:dz}(hPI:PI p){s s1 i:Pl}{g g1 G:eE}{w wr w':World}{t j:Nat}(hj:j<p.qn)(hn:s.nt+p.qn<=500000000)(W:Tr p s g w s1 g1 wr)(y:Ok p s1)(he:s1.ev.length<=s.ev.length+j)(J:s1.nt<=s.nt+j)(ht:fe s1 t)(H:∀s',gg p t (p.qn-j) s1 s'->gg p t p.qn (s.start t) s')(e:(s1.T t).run=true)(u:iC p t s1 i)(o:Tr p s1 g1 wr i G w'):oy p s g w t (j+1) w':=by
 obtain⟨Y,G2⟩:=uT hPI ⟨y,(y.rn t ht e).2,e⟩ (by omega) u;obtain⟨l,l1,l2,l3,_⟩:=id G2;refine⟨i,G,W.trans o,Y,by rw[l1,bo];omega,by omega,⟨ht.1,by have:=ht.2;omega⟩,λs' Z=>H s' ?_⟩;rw[show p.qn-j=(p.qn-(j+1))+1 by omega];unfold gg;rw[aj e];exact⟨i,u,Z⟩
theorem AW{p:dz}{s:Pl}{g:eE}{w:World}(h:dQ p s g w)(hP:PW p)(hPI:PI p)(hO:Ok p s)(hn:s.nt+p.qn<=500000000)(aE:p.qn<=50)(aA:s.ev.length<=100): Calls prog 68 #[P0 p.eb] w λe w'=>e=.returned (.tuple #[])/\∃s' g',gO p s s'/\Tr p s g w s' g' w':=by
 have hl:fz s 2 0:=ag ⟨rfl,rfl⟩
 cases hq:s.q 2 0 with
 | nil=>
  obtain⟨ad,c,a2⟩:=CH h hl (by omega) hq;have G:w.cell? ⟨p.eb,32,none⟩=some (.slice ad 0 c):=a2;have W:=gP p.eb 32 0 c ad w G;have aD:decide ((0:Nat)=0)=true:=rfl;rw[aD]at W;have a7:=az W;have HR:Hid (∃s' g',gO p s s'/\Tr p s g w s' g' w):=⟨s,g,by unfold gO;rw[hq],Tr.refl h⟩;clear W aD a2 G h hP hPI hO aA hq hl;go_in;go_wp2_with fail
  refine a7.mono ?_;rintro e w1 ⟨rfl,rfl⟩;go_wp2_with fail
  refine da (results_none rfl _ _ _) rfl ?_;exact⟨rfl,HR⟩
 | cons t r=>
  have aH:t∈s.q 2 0:=by rw[hq];simp
  have aB:=hO.ql 2 0 hl t aH;have ht:=hO.lt t aB;obtain⟨zb,c,a2,cz,lz⟩:=CG h hO.lw hl (by omega) hq;have G:w.cell? ⟨p.eb,32,none⟩=some (.slice (some ⟨zb,0,none⟩) (r.length+1) c):=a2;have W:=gP p.eb 32 (r.length+1) c (some ⟨zb,0,none⟩) w G;have aM:decide ((r.length+1:Nat)=0)=false:=by simp
  rw[aM]at W;have a7:=az W;have aN:=az (qq p.eb 32 r.length c zb (g.tb t) w G cz);have aP:=az (ss h hO.lw ht);have HP:=az hP;have aT:=az hPI;have aS:=az (hO.start aB);have HT:=az ht;have HQ:=az hq;have a4:Hid (s.nt+p.qn<=500000000/\s.ev.length<=100/\p.qn<=50):=⟨hn,aA,aE⟩;have h.E.lt:=h.E.lt;clear W aM a2 G cz lz h hP hPI hO hq hl aH aB hn aA aE;go_in;go_wp2_with fail
  refine a7.mono ?_;rintro e w1 ⟨rfl,rfl⟩;go_wp2_with fail
  refine aN.mono ?_;rintro e w2 ⟨rfl,rfl⟩;go_wp2_with fail
  refine aP.mono ?_;rintro e w3 ⟨rfl,a9⟩;have u:=(eg (fO s t)).2 ht;have a8:=a9.r.tk u;obtain⟨d2,z2⟩:=a8.cells 2 (by omega);generalize gE p (s.dw t) g t 2=y2 at d2;have aG:=az a9;clear a8 a9 u;go_wp2_with fail
  have aF:=az (GJ HT aG);generalize aW:w3.setCell ⟨g.tb t,2,none⟩ (.bool true)=w4 at *;clear aW d2 z2 aG a7 aN aP;have b0:Hid (oy p s g w2 t 0 w4):=by
   obtain⟨f1,_,_,f4,_⟩:=gz s t;refine⟨s.start t,g,aF,aS,?_,?_,(eg (fO s t)).2 HT,λs' h'=>h'⟩
   .show(s.dw t).ev.length<=_;rw[f4];exact bj _
   show(s.dw t).nt<=_;rw[fO];exact bj _
  have aY:Hid (∀s1 g1 wr,Tr p s g w2 s1 g1 wr->g1.tb t=g.tb t):=λs1 g1 wr J=>J.t t HT;clear aF aS ht;go_loopw [3] (λi wr=>∃j:Nat,j<=p.qn/\i=.int .i64 j/\Hid (oy p s g w2 t j wr)) (λi _=>p.qn-(intOf i).toNat)
  case atStart=>exact⟨0,by omega,rfl,b0⟩
  case round=>
   obtain⟨j,hj,rfl,hG⟩:=hrel;obtain⟨s1,g1,J,Y,a5,hn1,u,Z⟩:=hG;have H:=aY s1 g1 wr J;have e1:=J.r.E.cell 1 (by omega);rw[show iJ p s1 g1 1=p.E0 1 from rfl,HP.e1]at e1;have lt:=(J.r.tk u).lt;by_cases o:(s1.T t).run=true
   .have t2:=J.r.run u o;rw[H]at t2;have aO:Hid (Rn p s1 t):=⟨Y,(Y.rn t u o).2,o⟩;by_cases aK:j<p.qn
    .have a3:(j:Int)<p.qn:=by omega
     have a1:=KY J.r HP aT aO (by have:=a4.out;omega) (by have:=a4.out;omega);rw[H]at a1;have aQ:=az a1;have aV:Hid (∀s2 g2 w',iC p t s1 s2->Tr p s1 g1 wr s2 g2 w'->oy p s g w2 t (j+1) w'):=λs2 g2 w' hs a6=>DA aT aK a4.1 J Y a5 hn1 u Z o hs a6;clear J Y a5 hn1 u Z H a1 o;go_wp2_with fail
     refine aQ.mono ?_;rintro e w5 ⟨rfl,s2,g2,aL,a6⟩;have HG:=az (aV s2 g2 w5 aL a6);clear aL a6 e1 t2;go_wp2_with fail
     have hw:wrap64 ((j:Int)+1)=((j+1:Nat):Int):=by
      rw[bd ((j:Int)+1) ⟨by omega,by have:=a4.out;omega⟩];omega
     rw[hw];go_roundw
     case rel=>exact⟨j+1,by omega,rfl,HG⟩
     case measure=>simp[intOf];omega
    have a3:¬((j:Int)<p.qn):=by omega
    have aI:j=p.qn:=by omega
    have aR:=xA (x:=2) (y:=0) J.r Y.lw (ag ⟨rfl,rfl⟩) u (by omega) (by rw[aO.wh];intro e;cases e);have a0:Calls prog 110 #[Pt p.eb 32,P0 (g1.tb t)] wr λe w'=>e=.returned (.tuple #[])/\∃r,Tr p s1 g1 wr (s1.dV 2 0 t) (g1.at 2 0 r) w':=aR;rw[H]at a0;have aZ:=az a0;have aX:Hid (∀r w',Tr p s1 g1 wr (s1.dV 2 0 t) (g1.at 2 0 r) w'->∃s' g',gO p s s'/\Tr p s g w2 s' g' w'):=λr w' h'=>by
     refine⟨s1.dV 2 0 t,_,?_,J.trans h'⟩;unfold gO;rw[HQ.out];exact⟨s1,Z s1 (by rw[aI,Nat.sub_self];rfl),by rw[aj o]⟩
    clear J Y a5 hn1 u Z H aR a0 o aI;go_wp2_with fail
    refine aZ.mono ?_;rintro e w6 ⟨rfl,r6,aJ⟩;have HF:=az (aX r6 w6 aJ);clear aJ e1 t2;go_wp2_with fail
    go_end0;obtain⟨s',g',h1,h2⟩:=HF;exact⟨rfl,by first|exact⟨s',g',h1,h2⟩|exact⟨s',h1,g',h2⟩⟩
   have aC:(s1.T t).run=false:=by simpa using o
   have t2:=J.r.run u aC;rw[H]at t2;have HF:Hid (∃s' g',gO p s s'/\Tr p s g w2 s' g' wr):=by
    refine⟨s1,g1,?_,J⟩;unfold gO;rw[HQ.out];exact⟨s1,Z s1 (AT aC _),by rw[aa o]⟩
   clear J Y a5 hn1 u Z H o aC;by_cases aK:j<p.qn
   .have a3:(j:Int)<p.qn:=by omega
    go_wp2_with fail
    go_end0;obtain⟨s',g',h1,h2⟩:=HF;exact⟨rfl,by first|exact⟨s',g',h1,h2⟩|exact⟨s',h1,g',h2⟩⟩
   have a3:¬((j:Int)<p.qn):=by omega
   go_wp2_with fail
   go_end0;obtain⟨s',g',h1,h2⟩:=HF;exact⟨rfl,by first|exact⟨s',g',h1,h2⟩|exact⟨s',h1,g',h2⟩⟩
end F
section
structure LD(w:World) (eb:Nat) (eY:Int) (U:Nat->Int) (xs:List Nat):Prop where
 le:eb<w.heap.size
 MA:w.cell? ⟨eb,28,none⟩=some (.int .i64 eY)
 none_:xs=[]->∃ad c,w.cell? ⟨eb,33,none⟩=some (.slice ad 0 c)
 some_:∀x r,xs=x :: r->∃zb c,w.cell? ⟨eb,33,none⟩=some (.slice (some ⟨zb,0,none⟩) (r.length+1) c)/\w.cell? ⟨zb,0,none⟩=some (P0 x)/\w.cell? ⟨x,5,none⟩=some (.int .i64 (U x))/\x<w.heap.size
theorem IH(eb:Nat)(eY:Int)(U:Nat->Int)(I:List Nat->World->Prop)(xs:List Nat)(w:World)(hI:I xs w)(HG:∀ys w1 w2,I ys w1->w1.grownBy w2 none->I ys w2)(HS:∀ys w1,I ys w1->LD w1 eb eY U ys)(HJ:∀x r w1,I (x :: r) w1->U x<=eY->Calls prog 110 #[Pt eb 32,P0 x] w1 λe w'=>e=.returned (.tuple #[])/\I r w'): Calls prog 67 #[P0 eb] w λe w'=>e=.returned (.tuple #[])/\I (xs.dropWhile (λx=>decide (U x<=eY))) w':=by
 have KI:=az hI;have KG:=az HG;have KS:=az HS;have KJ:=az HJ;clear hI HG HS HJ;go_in;go_wp2_with fail
 go_loopg [] (xs.length) (λn wr=>∃ys:List Nat,ys.length=n/\Hid (I ys wr)/\Hid (ys.dropWhile (λx=>decide (U x<=eY))=xs.dropWhile (λx=>decide (U x<=eY))))
 case atStart=>exact⟨xs,rfl,KI,rfl⟩
 case round=>
  obtain⟨ys,Y,rI,rD⟩:=hrel;obtain⟨le,a2,o,u⟩:=KS.out ys wr rI.out
  cases ys with
  | nil=>
   obtain⟨ad,c,i⟩:=o rfl;have y:=λ(w':World) (h:w'.cell? ⟨eb,33,none⟩=some (.slice ad 0 c))=>gP eb 33 0 c ad w' h;simp only[decide_true]at y;have Z:=az y;clear y o u;go_wp2_with fail
   go_quiet (first|(go_at_call 70;refine Calls.quiet_of_same (Z.out _ (by first|exact i|simpa using i))))
   go_wp2_with fail
   go_end0;refine⟨rfl,?_⟩;have:=rD.out;rw[<-this];exact KG.out _ _ _ rI.out (db (ax _ _) _)
  | cons x r=>
   obtain⟨zb,c,i,J,c5,lx⟩:=u x r rfl;have y:=λ(w':World) (h:w'.cell? ⟨eb,33,none⟩=some (.slice (some ⟨zb,0,none⟩) (r.length+1) c))=>gP eb 33 (r.length+1) c (some ⟨zb,0,none⟩) w' h;have hd:decide ((r.length+1:Nat)=0)=false:=by simp
   simp only[hd]at y;have hF:=λ(w':World) (h:w'.cell? ⟨eb,33,none⟩=some (.slice (some ⟨zb,0,none⟩) (r.length+1) c)) (h2:w'.cell? ⟨zb,0,none⟩=some (P0 x))=>qq eb 33 r.length c zb x w' h h2;have Z:=az y;have G:=az hF;clear y hF hd o u;by_cases H:U x<=eY
   .have a1:decide (U x<=eY)=true:=by simpa using H
    have HU:=az H;clear H;go_wp2_with fail
    go_quiet (first|(go_at_call 70;refine Calls.quiet_of_same (Z.out _ (by first|exact i|simpa using i)))|(go_at_call 132;refine Calls.quiet_of_same (G.out _ (by first|exact i|simpa using i) (by first|exact J|simpa using J))))
    go_wp2_with fail
    go_region_with (first|(go_at_call 132;refine(G.out _ ?_ ?_).mono ?_;exact i;exact J;rintro e w2 ⟨rfl,rfl⟩)|(go_at_call 110;refine(KJ.out x r _ ?_ HU.out).mono ?_;exact KG.out _ _ _ rI.out (bq (db (ax _ _) _));rintro e w4 ⟨rfl,W⟩;have a0:=az W;clear W))
    all_goals
     go_wp2_with fail
     go_roundg (r.length)
     case measure=>first|omega|(simp at Y;omega)
     case rel=>
      refine⟨r,rfl,a0,?_⟩;have:=rD.out;rw[List.dropWhile_cons_of_pos (by simpa using HU.out)]at this;exact this
   have a1:decide (U x<=eY)=false:=by simpa using H
   have HU:=az H;clear H;go_wp2_with fail
   go_quiet (first|(go_at_call 70;refine Calls.quiet_of_same (Z.out _ (by first|exact i|simpa using i)))|(go_at_call 132;refine Calls.quiet_of_same (G.out _ (by first|exact i|simpa using i) (by first|exact J|simpa using J))))
   go_wp2_with fail
   go_end0;refine⟨rfl,?_⟩;have:=rD.out;rw[<-this,List.dropWhile_cons_of_neg (by simpa using HU.out)];exact KG.out _ _ _ rI.out (db (ax _ _) _)
end
namespace F
theorem nQ{q:Nat->Bool}:∀(l:List Nat) (a:Nat) (r:List Nat),l.dropWhile q=a :: r->q a=false
 | [],a,r,h=>by cases h
 | b :: l,a,r,h=>by
  rw[List.dropWhile_cons]at h;by_cases e:q b=true
  .rw[aj e]at h;exact nQ l a r h
  rw[aa e]at h;injection h with i o;subst i;simpa using e
def Mt(p:dz)(s:Pl)(g:eE)(w:World)(ys:List Nat)(w1:World):Prop:=
 ∃zs s1 g1,ys=zs.map g.tb/\Tr p s g w s1 g1 w1/\Ok p s1/\s1.q 3 0=zs/\s1.nt=s.nt/\(∀a,(s1.T a).iL=(s.T a).iL)/\s1.eY=s.eY/\s1.gr zs=s.gr (s.q 3 0)
theorem yL(s:Pl)(x y t a:Nat):((s.dV x y t).T a).iL=(s.T a).iL:=by
 by_cases e:a=t
 .subst e;rw[nO];show((s.dw a).T a).iL=_;unfold Pl.dw;split
  .rfl
  rw[df];rfl
 rw[oh s e]
theorem Gu{p:dz}{s:Pl}{g:eE}{w:World}(h:dQ p s g w)(hO:Ok p s): Calls prog 67 #[P0 p.eb] w λe w'=>e=.returned (.tuple #[])/\∃g',Tr p s g w (s.gr (s.q 3 0)) g' w':=by
 obtain⟨U,hU⟩:∃U:Nat->Int,∀a,fe s a->U (g.tb a)=(s.T a).iL:=by
  classical
  refine⟨λb=>if Z:∃a,fe s a/\g.tb a=b then(s.T Z.choose).iL else 0,λa i=>?_⟩;have Z:∃a',fe s a'/\g.tb a'=g.tb a:=⟨a,i,rfl⟩;show(if Z:∃a',fe s a'/\g.tb a'=g.tb a then(s.T Z.choose).iL else 0)=_;rw[dif_pos Z,h.ny Z.choose_spec.1 i Z.choose_spec.2]
 have H:∀{o:List Nat} {s1:Pl},Ok p s1->s1.q 3 0=o->s1.nt=s.nt->∀a,a∈o->fe s a:=fun {o s1} hO1 hq hn a i=>(eg hn).1 (hO1.lw.b 3 0 (ab (ag ⟨rfl,rfl⟩)) a (by rw[hq];exact i)).1;refine(IH p.eb s.eY U (Mt p s g w) ((s.q 3 0).map g.tb) w ⟨s.q 3 0,s,g,rfl,Tr.refl h,hO,rfl,rfl,λ_=>rfl,rfl,rfl⟩ ?_ ?_ ?_).mono ?_
 .rintro ys w1 w2 ⟨o,s1,g1,k1,k2,u⟩ hg;exact⟨o,s1,g1,k1,k2.kept hg,u⟩
 .rintro ys w1 ⟨o,s1,g1,rfl,k2,u,J,W,k6,k7,k8⟩;refine⟨k2.r.E.lt,?_,λe=>?_,λx r e=>?_⟩
  .rw[k2.r.E.cell 28 (by omega)];show some (Value.int .i64 s1.eY)=_;rw[k7]
  .have:=List.map_eq_nil_iff.1 e;exact CH k2.r (x:=3) (y:=0) (ab (ag ⟨rfl,rfl⟩)) (by omega) (by rw[J,this])
  cases o with
  | nil=>cases e
  | cons a Y=>
   injection e with e1 e2;subst e1 e2;have i:=H u J W a (by simp);have G:=k2.t a i;obtain⟨zb,c,c1,c2,c3⟩:=CG k2.r u.lw (x:=3) (y:=0) (ab (ag ⟨rfl,rfl⟩)) (by omega) J;have hT:=k2.r.tk (t:=a) ((eg W).2 i);rw[G]at c2;refine⟨zb,c,by rw[dS];exact c1,c2,?_,by rw[<-G];exact hT.lt⟩;rw[hU a i,<-k6 a,<-G];exact hT.cell 5 (by omega)
 .rintro x r w1 ⟨o,s1,g1,k1,k2,u,J,W,k6,k7,k8⟩ hx
  cases o with
  | nil=>cases k1
  | cons a Y=>
   injection k1 with e1 e2;subst e1 e2;have i:=H u J W a (by simp);have G:=k2.t a i;have a1:fz s1 3 0:=ab (ag ⟨rfl,rfl⟩);have a3:a∈s1.q 3 0:=by rw[J];simp
   have a0:=(u.lw.b 3 0 a1 a a3).2
   have a2:Calls prog 110 #[Pt p.eb 32,P0 (g1.tb a)] w1 λe w'=>e=.returned (.tuple #[])/\∃r,Tr p s1 g1 w1 (s1.dV 2 0 a) (g1.at 2 0 r) w':=xA (x:=2) (y:=0) k2.r u.lw (ag ⟨rfl,rfl⟩) ((eg W).2 i) (by omega) (by rw[a0];intro e;injection e with e;injection e with e _;omega);rw[G]at a2;refine a2.mono ?_;rintro e w' ⟨rfl,r',h'⟩;refine⟨rfl,Y,s1.dV 2 0 a,_,rfl,k2.trans h',u.dV (u.ql 3 0 a1 a a3),?_,(iX s1 2 0 a).trans W,λb=>(yL s1 2 0 a b).trans (k6 b),(iW s1 2 0 a).2.2.2.2.1.trans k7,?_⟩
   .show((s1.dw a).eZ 2 0 ((s1.dw a).q 2 0++[a])).q 3 0=Y;rw[fL _ _ (by omega),fN a0];show(s1.eZ 3 0 ((s1.q 3 0).erase a)).q 3 0=Y;rw[fX,J];simp
   rw[<-k8];show _=(if(s1.T a).iL<=s1.eY then(s1.dV 2 0 a).gr Y else s1);rw[aj (by rw[k6 a,k7,<-hU a i];exact hx)]
 rintro e w' ⟨rfl,o,s1,g1,k1,k2,u,J,W,k6,k7,k8⟩;refine⟨rfl,g1,?_⟩;have a6:s1.gr o=s1:=by
  cases o with
  | nil=>rfl
  | cons a Y=>
   have i:=H u J W a (by simp)
   show(if(s1.T a).iL<=s1.eY then(s1.dV 2 0 a).gr Y else s1)=s1;rw[aa (by rw[k6 a,k7,<-hU a i];exact by simpa using (nQ _ _ _ k1))]
 rw[<-k8,a6];exact k2
theorem Ce{M:Nat->List B.V}{n:Nat}{kd:B.Kd}{c:B.Cy}{k:Nat}(h:(B.ki M n kd c).on k=true):kd.on k=true:=by
 unfold B.ki at h;split at h
 .exact B.mK h
 exact B.mK h
theorem oK{M:Nat->List B.V}{R:Nat->B.V}{nr n:Nat}:∀(u:Nat) {kd:B.Kd},B.iZ kd nr n (0,R,M)->B.iZ (B.fI M n u kd) nr n (0,R,M)/\∀k,(B.fI M n u kd).on k=true->kd.on k=true
 | 0,kd,h=>⟨h,λ_ h=>h⟩
 | u+1,kd,h=>by
  cases hc:kd.cy with
  | none=>rw[B.sj hc];exact⟨h,λ_ h=>h⟩
  | some c=>
   rw[B.sh hc];obtain⟨k1,k2⟩:=oK u (B.qo h hc);exact⟨k1,λk e=>Ce (k2 k e)⟩
theorem Aw{M:Nat->List B.V}{R:Nat->B.V}{nr n u:Nat}{kd:B.Kd}(hn:1<=n)(h:B.iZ kd nr n (0,R,M)):B.iZ (B.work R nr M n u kd) nr n (0,R,M)/\∀k,(B.work R nr M n u kd).on k=true->kd.on k=true:=by
 unfold B.work
 cases hc:kd.cy with
 | none=>exact oK u (B.ti h hn)
 | some c=>exact oK u h
theorem fS.im{p:dz}{s:Pl}{X:Nat->Prop}(hn:1<=p.n)(h:fS p s X):fS p (s.im p) X:=by
 obtain⟨k1,k2⟩:=Aw (u:=p.wk) hn (show B.iZ s.kd (eh p s).length p.n (0,B.EF (eh p s),s.M) from h.hl);exact h.tQ k1 (λk _ _ e=>k2 k e)
theorem Gn.same{s s':Pl}{gone:List Nat}(h:Gn s gone)(i:s'.lv=s.lv)(hn:s'.nt=s.nt):Gn s' gone:=λu e=>⟨(eg hn).2 (h u e).1,by rw[i];exact(h u e).2⟩
structure Mv(p:dz) (s s':Pl):Prop where
 ok:Ok p s'.lD
 n1:s.nt<=s'.nt
 n2:s'.nt<=s.nt+p.qn
 el:s'.ev.length<=p.qn
 ev:∀gone,Gn s gone->∃t',(∀t r,s.q 2 0=t :: r->t'=t)/\Ge t' gone s'.ev/\Gn s'.lD (gone++jA s'.ev)
 q:∀t r,s.q 2 0=t :: r->LS s'.ev->s'.sp=false->∃m,s'.q 2 0=r++m
theorem nW{p:dz}{s s':Pl}{ticks:Int}{l:List (Int×Nat)}(hP:PI p)(aB:1<=p.n)(h:Ok p s)(he:s.ev=[])(hn:s.nt+p.qn<=500000000)(aA:∀x,x∈l->x.2<256)(ht:jh p s ticks l s'):Mv p s s':=by
 have ha:=B.vU (t:=ticks) h.c0 h.c1;obtain⟨o1,o⟩:=nF l aA (h.fF ha.1 ha.2);have o:Qu s ((s.fF (B.iz s.eY ticks)).eN l):=⟨o.ev,o.lv,o.nt,o.sp,o.q⟩;unfold jh at ht;generalize (s.fF (B.iz s.eY ticks)).eN l=s1 at *;by_cases hc:s1.lv≠[]/\s1.sp=false
 .rw[aj hc]at ht;obtain⟨s3,h3,rfl⟩:=ht;obtain⟨o2,q2⟩:=nj (s1.q 3 0) o1 rfl;have u:=o.trans q2;generalize s1.gr (s1.q 3 0)=s2 at *;obtain⟨o3,e3,f3⟩:=tz hP o2 (by rw[u.nt];exact hn) h3;have y:Ok p (s3.im p).lD:=(o3.im aB).same rfl rfl rfl rfl rfl rfl rfl rfl rfl rfl rfl;obtain⟨m,hm⟩:=u.q
  cases hq:s2.q 2 0 with
  | nil=>
   have:=e3 hq;subst this;have a0:s.q 2 0=[]:=by rw[hq]at hm;exact(List.append_eq_nil_iff.1 hm.symm).1
   have i:=u.ev.trans he;refine⟨y,by show s.nt<=s3.nt;rw[u.nt];exact bj _,by show s3.nt<=_;rw[u.nt];omega,by show s3.ev.length<=_;rw[i];exact dc _,λgone hg=>⟨0,λt r e=>(by rw[a0]at e;cases e),?_,?_⟩,λt r e=>(by rw[a0]at e;cases e)⟩
   .show Ge 0 gone s3.ev;rw[i];trivial
   show Gn (s3.im p).lD (gone++jA s3.ev);rw[i];have:gone++jA []=gone:=by unfold jA;simp
   rw[this];exact hg.same (s':=(s3.im p).lD) u.lv u.nt
  | cons t r=>
   obtain⟨s0,hG,g1,g2,g3,g4⟩:=f3 t r hq;obtain⟨ev,a1,a2,a3,a4,a5⟩:=hG;have i:s3.ev=ev:=by rw[a1,g1,u.ev,he,List.nil_append]
   have J:=g2.trans u.lv;have H:=g3.trans u.nt;have G:∀Y Z,s.q 2 0=Y :: Z->t=Y/\r=Z++m:=λY Z e=>by
    rw[e,hq]at hm;injection hm with m1 m2;exact⟨m1,m2⟩
   refine⟨y,by show s.nt<=s3.nt;omega,by show s3.nt<=_;omega,by show s3.ev.length<=_;rw[i];exact a2,λgone hg=>⟨t,λY Z e=>(G Y Z e).1,?_,?_⟩,λY Z e a8 _=>?_⟩
   .show Ge t gone s3.ev;rw[i];exact(a4 gone (hg.same J H)).1
   .show Gn (s3.im p).lD (gone++jA s3.ev);rw[i];exact(a4 gone (hg.same J H)).2.same (s':=(s3.im p).lD) rfl rfl
   obtain⟨m2,aC⟩:=a5 (by rw[<-i];exact a8);refine⟨m++m2,?_⟩;show s3.q 2 0=_;rw[aC,g4,(G Y Z e).2,dY]
 rw[aa hc]at ht;subst ht;have y:Ok p s'.lD:=o1.same rfl rfl rfl rfl rfl rfl rfl rfl rfl rfl rfl;have i:=o.ev.trans he;refine⟨y,by rw[o.nt];exact bj _,by rw[o.nt];omega,by rw[i];exact dc _,λgone hg=>?_,λt r e _ hs=>?_⟩
 .have W:∃t',∀t r,s.q 2 0=t :: r->t'=t:=by
   cases hq:s.q 2 0 with
   | nil=>exact⟨0,λt r e=>(by cases e)⟩
   | cons a b=>exact⟨a,λt r e=>(by injection e)⟩
  obtain⟨t',W⟩:=W;refine⟨t',W,?_,?_⟩
  .rw[i];trivial
  rw[i];have:gone++jA []=gone:=by unfold jA;simp
  rw[this];exact hg.same (s':=s'.lD) o.lv o.nt
 have a6:=h.ql 2 0 (ag ⟨rfl,rfl⟩) t (by rw[e];simp);refine ch ⟨?_,hs⟩ hc;rw[o.lv];intro e';rw[e']at a6;cases a6
theorem Ia{p:dz}{s:Pl}{g:eE}{x y z k:Nat}(h:(ob p s.lD (g.at 9 0 (none,0)) x y z).bs k):(ob p s g x y z).bs k/\¬(x=9/\y=0/\z=0):=by
 by_cases i:gu s x y z=true
 .rw[gH (show gu s.lD x y z=true from i)]at h;rw[gH i];by_cases u:eQ x
  .rw[gk u]at h ⊢;have o:eO ((g.at 9 0 (none,0)).ro x y).1=some k:=h;by_cases e:x=9/\y=0
   .rw[e.1,e.2,qM]at o
    cases o
   rw[kR g _ e]at o;exact⟨o,λG=>e ⟨G.1,G.2.1⟩⟩
  have J:=uM i;have H:x=0\/x=1\/x=11\/x=13\/x=14\/x=15\/x=16\/x=17\/x=18:=by unfold eQ at u;omega
  rcases H with rfl|rfl|rfl|rfl|rfl|rfl|rfl|rfl|rfl<;>exact⟨h,by omega⟩
 rw[vq (show ¬gu s.lD x y z=true from i)]at h;exact h.elim
theorem Lx{p:dz}{s:Pl}{g:eE}{w:World}(h:dQ p s g w):Tr p s g w s.lD (g.at 9 0 (none,0)) (w.setCell ⟨p.eb,43,none⟩ (.slice none 0 0)):=by
 refine h.yX (s':=s.lD) (x:=9) (y:=0) (r:=(none,0)) (j0:=43) (by omega) (iq (by omega)) (by decide) rfl rfl rfl rfl rfl rfl rfl (λa b c d e=>zC _ a b c d e) (h.E.ep 43 _) (dJ _ _ _ _) (bm (S:=λk=>k=p.eb\/eO (g.ro 9 0).1=some k) (dk _ _) (ag (ag rfl)) _) (λk i=>?_)
 cases i
theorem I8{p:dz}{s:Pl}{g:eE}{w:World}(h:dQ p s g w)(c:Int):Tr p s g w (s.fF c) g (w.setCell ⟨p.eb,28,none⟩ (.int .i64 c)):=by
 refine h.xR (s':=s.fF c) rfl rfl rfl rfl rfl (λa b=>⟨rfl,rfl⟩) ?_ (bm (S:=λk=>k=p.eb) (dk _ _) (ag rfl) _);refine(h.E.ep 28 _).congr (λj o=>?_);by_cases e:j=28
 .subst e;rw[gf];rfl
 rw[eG _ _ _ _ e];unfold iJ;by_cases i:j<28
 .rw[aj i,aj i]
 rw[aa i,aa i,aa e,aa e];rfl
def vW(p:dz)(s:Pl)(g:eE)(w:World)(s':Pl)(w':World)(v:Value):Prop:=
 ∃g' ad c,v=.slice ad s'.ev.length c/\w'.ownsRow 0 48 3 (.slice ad s'.ev.length c) s'.ev.length (kE s'.ev)/\Tr p s g w s'.lD g' w'/\∀k,eO ad=some k->¬ey p s'.lD g' k/\k<w'.heap.size/\(ey p s g k\/w.heap.size<=k)
theorem wF{p:dz}{s s':Pl}{g g':eE}{w w':World}(u:Tr p s g w s' g' w'):vW p s g w s' (w'.setCell ⟨p.eb,43,none⟩ (.slice none 0 0)) (sl s' g' 9 0):=by
 have o:w'.ownsRow 0 48 3 (.slice (g'.ro 9 0).1 s'.ev.length (g'.ro 9 0).2) s'.ev.length (kE s'.ev):=u.r.row (x:=9) (y:=0) (by unfold eQ;omega) (iq (by omega));have G:∀k,eO (g'.ro 9 0).1=some k->(ob p s' g' 9 0 0).bs k:=λk e=>by
  rw[fR p g' (by unfold eQ;omega) (iq (by omega))];exact e
 refine⟨g'.at 9 0 (none,0),(g'.ro 9 0).1,(g'.ro 9 0).2,rfl,dD o (λk e=>af _ _ _ _ ((λk e=>eL o u.r.E (by decide) k e) k e)),u.trans (Lx u.r),λk e=>⟨?_,?_,u.m k ⟨9,0,0,G k e⟩⟩⟩
 .rintro⟨x,y,z,Y⟩;obtain⟨W,Z⟩:=Ia Y;have G:=G k e;exact Z (u.r.i _ _ _ _ _ _ k W G)
 have:=(dA o k (by rw[dr];exact e)).2.1;simpa[World.setCell] using this
theorem DG{p:dz}{s:Pl}{g:eE}{w:World}{aQ:Option Addr}{n0 c0:Nat}{l:List (Int×Nat)}(ticks:Int)(h:dQ p s g w)(hP:PW p)(hPI:PI p)(hO:Ok p s)(he:s.ev=[])(hn:s.nt+p.qn<=500000000)(aG:p.qn<=50)(aI:p.wk<=50)(aR:∀x,x∈l->x.2<256)(aS:∀s1 g1 w1,Tr p s g w s1 g1 w1->Ok p s1->Calls prog 65 #[P0 p.eb,.slice aQ n0 c0] w1 λe w'=>e=.returned (.tuple #[])/\∃g',Tr p s1 g1 w1 (s1.eN l) g' w'): Calls prog 41 #[P0 p.eb,.int .i64 ticks,.slice aQ n0 c0] w λe w'=>∃v s',e=.returned v/\jh p s ticks l s'/\vW p s g w s' w' v:=by
 obtain⟨aK,b7⟩:=h.E.cells 28 (by omega);have aD:w.cell? ⟨p.eb,28,none⟩=some (.int .i64 s.eY):=aK;have le:=h.E.lt;have aV:=az (BB p.eb s.eY ticks w aD hO.c0 hO.c1);have a2:=B.vU (t:=ticks) hO.c0 hO.c1;have hC:Ok p (s.fF (B.iz s.eY ticks)):=hO.fF a2.1 a2.2;obtain⟨aJ,aL⟩:=nF l aR hC;have aE:=I8 h (B.iz s.eY ticks);have aM:=az (aS _ _ _ aE hC);have b8:=az aE;have aW:=az aJ;have HQ:=az aL;have HP:=az hP;have aX:=az hPI;have a1:Hid (s.nt+p.qn<=500000000/\s.ev=[]/\p.qn<=50/\p.wk<=50):=⟨hn,he,aG,aI⟩;have a4:Hid (∀s',(if((s.fF (B.iz s.eY ticks)).eN l).lv≠[]/\((s.fF (B.iz s.eY ticks)).eN l).sp=false then ∃s1,gO p (((s.fF (B.iz s.eY ticks)).eN l).gr (((s.fF (B.iz s.eY ticks)).eN l).q 3 0)) s1/\s'=s1.im p else s'=(s.fF (B.iz s.eY ticks)).eN l)->jh p s ticks l s'):=λ_ h=>h;clear aK h hP hPI hO he hn aG aI aR aS a2 hC aJ aL aE;generalize b0:(s.fF (B.iz s.eY ticks)).eN l=s1 at *;generalize b1:B.iz s.eY ticks=cc at *;have aH:Hid (s1.nt=s.nt):=by rw[HQ.out.nt];rfl
 have b5:Hid (s1.ev=[]):=by rw[HQ.out.ev];exact a1.out.2.1
 clear b0 b1;go_in;go_wp2_with fail
 refine aV.out.mono ?_;rintro e w1 ⟨rfl,rfl⟩;go_wp2_with fail
 generalize b6:w1.setCell ⟨p.eb,28,none⟩ (.int .i64 cc)=w2 at *;clear b6 aD b7 aV;refine aM.out.mono ?_;rintro e w3 ⟨rfl,g3,J⟩;have o:=b8.out.trans J;have bF:=o.r.E.lt;have aB:w3.cell? ⟨p.eb,29,none⟩=some (.slice (g3.ro 6 0).1 s1.lv.length (g3.ro 6 0).2):=o.r.E.cell 29 (by omega);have u:=uy p.eb s1.lv.length (g3.ro 6 0).2 (g3.ro 6 0).1 w3 aB;have a7:w3.cell? ⟨p.eb,42,none⟩=some (.bool s1.sp):=o.r.E.cell 42 (by omega);obtain⟨a5,aT⟩:=o.r.E.cells 43 (by omega);have aP:w3.cell? ⟨p.eb,43,none⟩=some (.slice (g3.ro 9 0).1 s1.ev.length (g3.ro 9 0).2):=a5;by_cases i:s1.lv≠[]/\s1.sp=false
 .have y:decide (0<s1.lv.length)=true:=by
   have:s1.lv.length≠0:=λe=>i.1 (cf.1 e);exact fh (by omega)
  rw[y]at u;rw[i.2]at a7;have Z:=az u;have b3:=az i;have aZ:=az o;have HW:=az (Gu o.r aW.out);clear u y i o J aB a5 aP aT;go_wp2_with fail
  refine Z.out.mono ?_;rintro e w4 ⟨rfl,rfl⟩;go_wp2_with fail
  refine HW.out.mono ?_;rintro e w5 ⟨rfl,g5,a8⟩;obtain⟨o5,q5⟩:=nj (s1.q 3 0) aW.out rfl;have aO:=az (aZ.out.trans a8);have aN:=az (AW a8.r HP.out aX.out o5 (by rw[q5.nt,aH.out];exact a1.out.1) a1.out.2.2.1 (by rw[q5.ev,b5.out];simp));have aF:Hid (∀H,gO p (s1.gr (s1.q 3 0)) H->Ok p H):=λH h6=>(tz aX.out o5 (by rw[q5.nt,aH.out];exact a1.out.1) h6).1;clear a8 o5 q5 HW Z a7;go_wp2_with fail
  refine aN.out.mono ?_;rintro e w6 ⟨rfl,H,g6,aA,a0⟩;have a3:=aO.out.trans a0;have k2:w6.cell? ⟨p.eb,2,none⟩=some (.int .i64 p.wk):=by
   rw[a0.r.E.cell 2 (by omega)];show some (p.E0 2)=_;rw[HP.out.e2]
  have bC:=a0.r.Gd HP.out;have b2:=az a3;have aU:=az aA;have b4:=az (IE (a3.r.kept (bq (ax w6 none))) HP.out (aF.out H aA) a1.out.2.2.2);clear a0 a3 aA aN aF aO;go_wp2_with fail
  go_cut [] from 30 to 38 (λwx=>Hid (∃g7,Tr p s g w1 (H.im p) g7 wx))
  case first=>
   go_region_with (go_at_call 69;refine b4.out.mono ?_;rintro e w7 ⟨rfl,g7,G⟩;have a9:Hid (∃g7,Tr p s g w1 (H.im p) g7 w7):=⟨g7,(b2.out.kept (bq (ax w6 none))).trans G⟩;clear G)
   all_goals
    go_wp2_with fail
    go_meet
    case rel=>exact a9
  case rest=>
   have a9:=hcut;obtain⟨g7,G⟩:=a9.out;have Y:=az (wF G);obtain⟨aY,aT⟩:=G.r.E.cells 43 (by omega);have b9:wc.cell? ⟨p.eb,43,none⟩=some (.slice (g7.ro 9 0).1 (H.im p).ev.length (g7.ro 9 0).2):=aY;have W:Hid (jh p s ticks l (H.im p)):=a4.out _ (by rw[aj b3.out];exact⟨H,aU.out,rfl⟩);clear aY G a9 hcut a4 aU;go_wp2_with fail
   go_ret;exact⟨_,H.im p,rfl,W.out,Y.out⟩
 have Y:=az (wF o);have W:=az (a4.out _ (by rw[aa i]));by_cases aC:s1.lv.length=0
 .have y:decide (0<s1.lv.length)=false:=by rw[aC];rfl
  rw[y]at u;have Z:=az u;clear u y i o J aB a5 a4 a7;go_wp2_with fail
  refine Z.out.mono ?_;rintro e w4 ⟨rfl,rfl⟩;go_wp2_with fail
  go_ret;exact⟨_,s1,rfl,W.out,Y.out⟩
 have y:decide (0<s1.lv.length)=true:=fh (by omega);have a6:s1.sp=true:=by
  cases a6:s1.sp with
  | true=>rfl
  | false=>exact ch ⟨λe=>aC (by rw[e];rfl),a6⟩ i
 rw[y]at u;rw[a6]at a7;have Z:=az u;clear u y i o J aB a5 a4 a6;go_wp2_with fail
 refine Z.out.mono ?_;rintro e w4 ⟨rfl,rfl⟩;go_wp2_with fail
 go_ret;exact⟨_,s1,rfl,W.out,Y.out⟩
end F
section
theorem BC(a:Addr)(m n:Nat):(a.add m).add n=a.add (m+n):=by
 unfold Addr.add;by_cases h:m=0
 .subst h;simp
 by_cases e:n=0
 .subst e;simp
 rw[aa e,aa h,aa (by omega)];simp[Nat.add_assoc]
theorem Cx(eb:Nat)(ad:Option Addr)(n c:Nat)(xs:List (Int×Nat))(I:List (Int×Nat)->World->Prop)(w:World)(hI:I xs w)(hn:n=xs.length)(a4:n<=1000000000)(ha:ad=none->xs=[])(HC:∀ys w1,I ys w1->∀a,ad=some a->∀j x,xs[j]? = some x->w1.cell? (a.add (j*2))=some (.int .i64 x.1)/\w1.cell? (a.add (j*2+1))=some (.int .u8 (x.2:Int)))(HG:∀ys w1 w2,I ys w1->w1.grownBy w2 none->I ys w2)(HE:∀ys w1,I ys w1->eb<w1.heap.size)(HS:∀x r w1,I (x :: r) w1->0<=x.1/\x.1<4->Calls prog 131 #[Pt eb (34+x.1.toNat*2),.int .u8 (x.2:Int)] w1 λe w'=>e=.returned (.tuple #[])/\I r w')(HN:∀x r w1,I (x :: r) w1->¬(0<=x.1/\x.1<4)->I r w1): Calls prog 65 #[P0 eb,.slice ad n c] w λe w'=>e=.returned (.tuple #[])/\I [] w':=by
 have KI:=az hI;have KC:=az HC;have KG:=az HG;have KE:=az HE;have KS:=az HS;have KN:=az HN;have KA:=az ha;have HL:=az hn;clear hI HC HG HE HS HN ha hn;go_in;go_wp2_with fail
 go_loopw [10] (λi wr=>∃j:Nat,i=.int .i64 j/\j<=n/\Hid (I (xs.drop j) wr)) (λi _=>n-(intOf i).toNat)
 case atStart=>exact⟨0,rfl,by omega,by show I (xs.drop 0) w;rw[List.drop_zero];exact KI.out⟩
 case round=>
  obtain⟨j,rfl,hj,u⟩:=hrel;by_cases a5:j<n
  .obtain⟨x,H⟩:∃x,xs[j]? = some x:=⟨_,bn (by have:=HL.out;omega)⟩;obtain⟨a,rfl⟩:∃a,ad=some a:=by
    cases ad with
    | none=>rw[KA.out rfl]at H;simp at H
    | some a=>exact⟨a,rfl⟩
   obtain⟨c0,c1⟩:=KC.out _ _ u.out a rfl j x H;obtain⟨y,J⟩:=bu.1 H;have Z:xs.drop j=x :: xs.drop (j+1):=by rw[<-J];exact List.drop_eq_getElem_cons y
   rw[Z]at u;have W:(j:Int)<(n:Int):=by omega
   obtain⟨z,b⟩:=x;simp only at c0 c1;rw[<-BC]at c1;have G:wr.cell? ⟨(a.add (j*2)).block,(a.add (j*2)).off+1,none⟩=some (.int .u8 (b:Int)):=c1;clear c1;clear H J Z y;by_cases hz:0<=z/\z<4
   .obtain⟨k,rfl⟩:∃k:Nat,z=(k:Int):=⟨z.toNat,by omega⟩;have hk:k<4:=by omega
    have a2:Hid (∀w1,wr.grownBy w1 none->Calls prog 131 #[Pt eb (34+k*2),.int .u8 (b:Int)] w1 λe w'=>e=.returned (.tuple #[])/\I (xs.drop (j+1)) w'):=λw1 hg=>by
     have h1:=KS.out _ _ w1 (KG.out _ _ _ u.out hg) hz;simp only[lH]at h1;exact h1
    clear hz u;go_wp2_with fail
    refine(yr eb k _ hk).mono ?_;rintro e w2 ⟨rfl,rfl⟩;go_wp2_with fail
    refine(a2.out _ (ah _ _ _)).mono ?_;rintro e w3 ⟨rfl,a1⟩;have o:=az a1;clear a1 a2 c0 G;go_wp2_with fail
    go_roundw
    case rel=>exact⟨j+1,by simp,by omega,o⟩
    case measure=>simp[intOf];omega
   have Y:Hid (∀w1,wr.grownBy w1 none->I (xs.drop (j+1)) w1):=λw1 hg=>KN.out _ _ w1 (KG.out _ _ _ u.out hg) hz;have a3:z<0\/4<=z:=by omega
   clear hz u;go_wp2_with fail
   refine(AO eb z _ a3).mono ?_;rintro e w2 ⟨rfl,rfl⟩;have o:Hid (I (xs.drop (j+1)) (wr.alloc (.cells #[.int .i64 z,.int .u8 (b:Int)] 169))):=Y.out _ (ah _ _ _);clear Y c0 G;go_wp2_with fail
   go_roundw
   case rel=>exact⟨j+1,by simp,by omega,o⟩
   case measure=>simp[intOf];omega
  have W:¬((j:Int)<(n:Int)):=by omega
  have a0:j=xs.length:=by have:=HL.out;omega
  have o:Hid (I [] wr):=by
   have:=u.out;rw[a0,List.drop_length]at this;exact this
  clear u a0;go_wp2_with fail
  go_end0;exact⟨rfl,o.out⟩
theorem GX(eb g c n:Nat)(ad:Option Addr)(H:Nat->Int)(xs:List Nat)(w:World)(he:w.cell? ⟨eb,32,none⟩=some (.slice ad n c))(le:eb<w.heap.size)(hn:n=xs.length)(a9:n<=1000000000)(Z:∀j x,xs[j]? = some x->ad=some ⟨g,0,none⟩/\w.cell? ⟨g,j,none⟩=some (P0 x))(lg:xs≠[]->g<w.heap.size)(J:∀x,x∈xs->w.cell? ⟨x,0,none⟩=some (.int .i64 (H x))/\x<w.heap.size): Calls prog 43 #[P0 eb] w λe w'=>e=.returned (.slice (some ⟨w.heap.size,0,none⟩) n n)/\w'.ownsRow w.heap.size 3 1 (.slice (some ⟨w.heap.size,0,none⟩) n n) n (xs.map (λx=>.int .i64 (H x)))/\w.grownBy w' none:=by
 obtain⟨i0,hi,a2,a0,W⟩:=info_parts Tryz.F6;have HC:=az Z;have HN:=az hn;have HG:=az lg;have HM:=az J;clear Z hn lg J;go_in;go_wp2_with (at_make;go_loud (refine wpList_make_full _ rfl _ _ 54 rfl w.heap.size 3 i0 _ 1 underlying54 hi a2 a0 _ _ _ _ n rfl rfl rfl rfl (by rw[W];omega) (by unfold maxLen;omega) (bj _) ?_))
 intro w3 G o;have Y:jB w3 w.heap.size 3 n:=by
  have:=jB.owned G;rwa [Nat.mul_one]at this
 have aA:=(bh o (a:=⟨eb,32,none⟩) le).1.trans he;have a4:=az Y;have a5:=az o;clear G o Y he hi a2 a0 W i0;go_wp2_with fail
 go_loopw [19] (λi wr=>∃j:Nat,i=.int .i64 j/\j<=n/\Hid (jB wr w.heap.size 3 n)/\Hid (w.grownBy wr none)/\Hid (∀p x,p<j->xs[p]? = some x->wr.cell? ⟨w.heap.size,p,none⟩=some (.int .i64 (H x)))) (λi _=>n-(intOf i).toNat)
 case atStart=>exact⟨0,rfl,by omega,a4,a5,(λp x hp=>ch hp (by omega))⟩
 case round=>
  obtain⟨j,rfl,hj,rB,rG,rC⟩:=hrel;by_cases a6:j<n
  .obtain⟨x,hx⟩:∃x,xs[j]? = some x:=⟨_,bn (by have:=HN.out;omega)⟩;obtain⟨rfl,a1⟩:=HC.out j x hx;have u:=ed hx;have cj:wr.cell? ⟨g,j,none⟩=some (P0 x):=(bh rG.out (a:=⟨g,j,none⟩) (HG.out (by intro e;rw[e]at u;cases u))).1.trans a1;obtain⟨m1,m2⟩:=HM.out x u;have cx:=(bh rG.out (a:=⟨x,0,none⟩) m2).1.trans m1;obtain⟨⟨y,cy⟩,zy⟩:=rB.out.cell j a6;have a8:(j:Int)<(n:Int):=by omega
   have KC:Hid (∀p z,p<j+1->xs[p]? = some z->(wr.setCell ⟨w.heap.size,j,none⟩ (.int .i64 (H x))).cell? ⟨w.heap.size,p,none⟩=some (.int .i64 (H z))):=λp z hp hz=>by
    by_cases a3:p=j
    .subst a3;rw[(az hx).out]at hz;injection hz with hz;subst hz;exact World.cell?_setCell_same _ _ _ cy
    rw[dF _ _ _ _ (by intro e;injection e with _ e;omega)];exact rC.out p z (by omega) hz
   clear a1 u m1 m2 hx;go_wp2_with fail
   go_roundw
   case rel=>exact⟨j+1,by go_num,by omega,rB.out.set _ _ _,bp rG.out (ab (by simp)) _,KC⟩
   case measure=>simp[intOf];omega
  have a7:¬(j:Int)<(n:Int):=by omega
  obtain rfl:j=n:=by omega
  go_wp2_with fail
  go_ret;refine⟨rfl,qf (bj _) (bj _) (by unfold maxLen;omega) (by rw[dS,<-HN.out]) rB.out (λp y hy=>?_),rG.out⟩;rw[eo]at hy;obtain⟨z,hz,rfl⟩:=Option.map_eq_some_iff.1 hy;exact rC.out p z (by have:=(bu.1 hz).1;have:=HN.out;omega) hz
theorem disable(w:World):(callFunc 122 #[]).run prog w=.ok (.value (.tuple #[])) w:=run_call_mark0 func122 (by kernel_rfl) (by kernel_rfl) (by kernel_rfl) .disable (by kernel_rfl) w
theorem enable(w:World):(callFunc 124 #[]).run prog w=.ok (.value (.tuple #[])) w:=run_call_mark0 func124 (by kernel_rfl) (by kernel_rfl) (by kernel_rfl) .enable (by kernel_rfl) w
theorem acquire(a:Addr)(w:World):(callFunc 125 #[.pointer (some a)]).run prog w=.ok (.value (.tuple #[])) w:=run_call_marked func125 (by kernel_rfl) (by kernel_rfl) (by kernel_rfl) .acquire (by kernel_rfl) a w
theorem releaseMerge(a:Addr)(w:World):(callFunc 127 #[.pointer (some a)]).run prog w=.ok (.value (.tuple #[])) w:=run_call_marked func127 (by kernel_rfl) (by kernel_rfl) (by kernel_rfl) .releaseMerge (by kernel_rfl) a w
theorem ja(a:Addr)(u:FrameMode)(w:World)(i:w.cell? a=some (.int .i32 1))(hz:w.frozen? a=false): CallsD prog 40 #[.pointer (some a)] u w λe H w'=>H=u/\(e=.returned (.tuple #[])/\w'=w.setCell a (.int .i32 0)):=by
 have J:=disable;have he:=enable;have W:=releaseMerge;have G:=run_convert_to_unsafe (P:=prog) (src:=210) (dst:=214) underlying210 underlying214 (by kernel_rfl) i;have o:=run_call_add (P:=prog) func128 (by kernel_rfl) (by kernel_rfl) (by kernel_rfl) .i32 (by kernel_rfl) (y:=-1) (s:=0) i hz (by simp[go_sem];rfl);go_enter_d func40,ntmps40
 go_wp2
 go_end0;go_wp2
 go_end0;exact⟨rfl,rfl⟩
theorem pC(b:Nat)(w:World)(u:w.cell? ⟨b,0,none⟩=some (.int .i32 0))(G:w.frozen? ⟨b,0,none⟩=false): Calls prog 39 #[P0 b] w λe w'=>e=.returned (.tuple #[])/\w'=w.setCell ⟨b,0,none⟩ (.int .i32 1):=by
 have J:=disable;have he:=enable;have W:=acquire;have o:=run_call_cas_hit (P:=prog) func123 (by kernel_rfl) (by kernel_rfl) (by kernel_rfl) .i32 (by kernel_rfl) (y:=1) u G;have i:(w.setCell ⟨b,0,none⟩ (.int .i32 1)).cell? ⟨b,0,none⟩=some (.int .i32 1):=by simp[go_sem,u]
 have H:=run_convert_to_unsafe (P:=prog) (src:=210) (dst:=214) underlying210 underlying214 (by kernel_rfl) i;go_in;go_wp2
 first|go_end0|(simp only[Exit.inBlock,Exit.then];refine da (results_none rfl _ _ _) rfl ?_)|refine da (results_none rfl _ _ _) rfl ?_
 go_wp2
 go_end0;exact⟨rfl,rfl⟩
theorem yl(mb eb o c0:Nat)(i:Option Addr)(ticks:Int)(w:World)(H:w.cell? ⟨mb,0,none⟩=some (.int .i32 0))(y:w.frozen? ⟨mb,0,none⟩=false)(W:w.cell? ⟨mb,2,none⟩=some (P0 eb))(R:Value->World->Prop)(u:Hid (Calls prog 41 #[P0 eb,.int .i64 ticks,.slice i o c0] (w.setCell ⟨mb,0,none⟩ (.int .i32 1)) λe w'=>∃ad n c,e=.returned (.slice ad n c)/\w'.cell? ⟨mb,0,none⟩=some (.int .i32 1)/\w'.frozen? ⟨mb,0,none⟩=false/\R (.slice ad n c) w')): Calls prog 24 #[P0 mb,.int .i64 ticks,.slice i o c0] w λe w'=>∃v w1,e=.returned v/\R v w1/\w'=w1.setCell ⟨mb,0,none⟩ (.int .i32 0):=by
 go_enter_defers func24,ntmps24
 go_wp2_with fail
 refine(pC mb w H y).mono ?_;rintro e w1 ⟨rfl,rfl⟩;go_wp2_with fail
 refine u.out.mono ?_;rintro e w2 ⟨ad,n,c,rfl,c0,c1,hR⟩;have G:Hid (R (.slice ad n c) w2):=hR;go_wp2_with fail
 refine leaves_cons (f:=40) (args:=#[P0 mb]) (by simp) (by simp[go_sem]) ?_;refine(ja ⟨mb,0,none⟩ .returning _ c0 c1).mono ?_;rintro e J w'' ⟨rfl,rfl,rfl⟩;exact⟨_,results_tmp rfl _ _ _,.slice ad n c,w2,rfl,G.out,rfl⟩
theorem yD(mb eb:Nat)(w:World)(y:w.cell? ⟨mb,0,none⟩=some (.int .i32 0))(o:w.frozen? ⟨mb,0,none⟩=false)(H:w.cell? ⟨mb,2,none⟩=some (P0 eb))(R:Value->World->Prop)(i:Hid (Calls prog 43 #[P0 eb] (w.setCell ⟨mb,0,none⟩ (.int .i32 1)) λe w'=>∃ad n c,e=.returned (.slice ad n c)/\w'.cell? ⟨mb,0,none⟩=some (.int .i32 1)/\w'.frozen? ⟨mb,0,none⟩=false/\R (.slice ad n c) w')): Calls prog 26 #[P0 mb] w λe w'=>∃v w1,e=.returned v/\R v w1/\w'=w1.setCell ⟨mb,0,none⟩ (.int .i32 0):=by
 go_enter_defers func26,ntmps26
 go_wp2_with fail
 refine(pC mb w y o).mono ?_;rintro e w1 ⟨rfl,rfl⟩;go_wp2_with fail
 refine i.out.mono ?_;rintro e w2 ⟨ad,n,c,rfl,c0,c1,hR⟩;have u:Hid (R (.slice ad n c) w2):=hR;go_wp2_with fail
 refine leaves_cons (f:=40) (args:=#[P0 mb]) (by simp) (by simp[go_sem]) ?_;refine(ja ⟨mb,0,none⟩ .returning _ c0 c1).mono ?_;rintro e G w'' ⟨rfl,rfl,rfl⟩;exact⟨_,results_tmp rfl _ _ _,.slice ad n c,w2,rfl,u.out,rfl⟩
theorem wM(mb eb:Nat)(w:World)(y:w.cell? ⟨mb,0,none⟩=some (.int .i32 0))(o:w.frozen? ⟨mb,0,none⟩=false)(H:w.cell? ⟨mb,2,none⟩=some (P0 eb))(R:Int->World->Prop)(i:Hid (Calls prog 42 #[P0 eb] (w.setCell ⟨mb,0,none⟩ (.int .i32 1)) λe w'=>∃x:Int,e=.returned (.int .i64 x)/\w'.cell? ⟨mb,0,none⟩=some (.int .i32 1)/\w'.frozen? ⟨mb,0,none⟩=false/\R x w')): Calls prog 25 #[P0 mb] w λe w'=>∃x w1,e=.returned (.int .i64 x)/\R x w1/\w'=w1.setCell ⟨mb,0,none⟩ (.int .i32 0):=by
 go_enter_defers func25,ntmps25
 go_wp2_with fail
 refine(pC mb w y o).mono ?_;rintro e w1 ⟨rfl,rfl⟩;go_wp2_with fail
 refine i.out.mono ?_;rintro e w2 ⟨x,rfl,c0,c1,hR⟩;have u:Hid (R x w2):=hR;go_wp2_with fail
 refine leaves_cons (f:=40) (args:=#[P0 mb]) (by simp) (by simp[go_sem]) ?_;refine(ja ⟨mb,0,none⟩ .returning _ c0 c1).mono ?_;rintro e G w'' ⟨rfl,rfl,rfl⟩;exact⟨_,results_tmp rfl _ _ _,x,w2,rfl,u.out,rfl⟩
end
end Go.Proofs.YtnjiinbhbjpfkaaGreatDoor
