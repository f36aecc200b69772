import Derived.Test.YtnjiinbhbjpfkaaGreatDoorKY
set_option maxRecDepth 100000
set_option maxHeartbeats 0
set_option linter.all false
namespace Go.Proofs.YtnjiinbhbjpfkaaGreatDoor
open Go.RowKit Go.Proofs.Tryz
namespace D
open F
variable {p : Dp} {m m' : Dm} {g g' : Dg} {w w' : World}
def Dg.oD(g:Dg)(t i b:Nat):Dg:={ g with rb:=λa c=>if a=t/\c=i then b else g.rb a c }
theorem ve(g:Dg)(t i b:Nat):(g.oD t i b).rb t i=b:=aj ⟨rfl,rfl⟩
theorem ph(g:Dg){t i a c:Nat}(b:Nat)(h:¬(a=t/\c=i)):(g.oD t i b).rb a c=g.rb a c:=aa h
theorem dQ.push(h:dQ p m g w){t:Nat}(ht:mF m t){tb kb ck vb:Nat}{f:gY}(hb:g.ro 1 0=(some ⟨tb,0,none⟩,(g.ro 1 0).2))(hO:dy (λk=>k=tb\/eO (g.ro 5 t).1=some k) w w')(hT:Full w' tb 167 ((g.ro 1 0).2*8) (m.nt*8) (ep (tE m g) ((t-1)*8) (.slice (some ⟨kb,0,none⟩) ((m.T t).fr.length+1) ck)))(hK:w'.ownsRow 0 163 4 (.slice (some ⟨kb,0,none⟩) ((m.T t).fr.length+1) ck) ((m.T t).fr.length+1) (rowP ((m.T t).fr.length*4) (fE p m g t)++[fC p f vb 0,fC p f vb 1,fC p f vb 2,fC p f vb 3]))(hV:Full w' vb 115 (p.rg f.f*2) (p.rg f.f*2) (eC f.R))(J:eO (g.ro 5 t).1=some kb\/w.heap.size<=kb)(hv:w.heap.size<=vb)(aA:kb≠vb):Tr p m g w (m.push t f) ((g.at 5 t (some ⟨kb,0,none⟩,ck)).oD t (m.T t).fr.length vb) w':=by
 have:=ht.1;have:=ht.2;obtain⟨b,G,h1,h2,h3⟩:=h.T (by omega);have a7:b=tb:=by rw[hb]at G;injection G with G;injection G with G _;exact G.symm
 subst a7;have a5:(m.push t f).T t=(m.T t).kD ((m.T t).fr++[f]):=fG _ _ _;have W:∀u,u≠t->(m.push t f).T u=m.T u:=λu e=>fA _ _ e;have Z:((m.push t f).T t).fr.length=(m.T t).fr.length+1:=by rw[a5];show((m.T t).fr++[f]).length=_;rw[bo];rfl
 have Y:∀y z,fj (m.push t f) y z=if y=t/\z=(m.T t).fr.length then f else fj m y z:=λy z=>by
  unfold fj;by_cases e:y=t
  .subst e;rw[a5];show((m.T y).fr++[f]).getD z mr=_;by_cases e2:z=(m.T y).fr.length
   .rw [aj ⟨rfl,e2⟩,e2,ar,dX (bj _)];simp
   rw [aa (λe=>e2 e.2),ar,ar];rcases Nat.lt_or_ge z (m.T y).fr.length with h|h
   .rw [du h]
   rw [cw (l:=(m.T y).fr) h,cw (by rw[bo];simp;omega)]
  rw [W y e,aa (λe'=>e e'.1)]
 have a9:∀x y z,¬(x=6/\y=t/\z=(m.T t).fr.length)->vd p (m.push t f) x y z=vd p m x y z:=λx y z hC=>by
  unfold vd;by_cases e:x=6
  .subst e;show decide (1<=y/\y<=m.nt/\z<((m.push t f).T y).fr.length)=decide (1<=y/\y<=m.nt/\z<(m.T y).fr.length);by_cases e2:y=t
   .subst e2;rw[Z];apply decide_eq_decide.2
    have:z≠(m.T y).fr.length:=λe=>hC ⟨rfl,rfl,e⟩;omega
   rw [W y e2]
  rw [aa e,aa e];rfl
 have v6:vd p (m.push t f) 6 t (m.T t).fr.length=true:=Az ht.1 ht.2 (by rw[Z];omega);have v5:vd p (m.push t f) 5 t 0=true:=pX ht.1 ht.2;refine h.to (λx y z=>(x=1/\y=0/\z=0)\/(x=5/\y=t/\z=0)\/(x=6/\y=t/\z=(m.T t).fr.length)) (λk=>if k=vb then(6,t,(m.T t).fr.length) else(5,t,0)) (hO.mono ?_) (λx y z hC=>jT (a9 x y z (λe=>hC (ab (ab e)))) (λa1=>?_)) ?_ ?_
 .rintro k (rfl|J) _
  .exact ⟨1,0,0,ag ⟨rfl,rfl,rfl⟩,((Bw p m hb) _).2 rfl⟩
  exact ⟨5,t,0,ab (ag ⟨rfl,rfl,rfl⟩),by rw[fP (pX ht.1 ht.2)];exact J⟩
 .refine ok_eq (e0:=λ_=>⟨rfl,CZ p m g t ((m.T t).kD ((m.T t).fr++[f])) (some ⟨kb,0,none⟩,ck)⟩) (er:=λa8=>?_) (eq:=λe=>⟨qG g _ (by omega),?_,?_⟩) (e6:=λe=>?_) (hx:=kG a1)
  .have a4:x≠1:=λe=>hC (ag ⟨e,jC a1 (by omega)⟩);have h5:¬(x=5/\y=t):=λe=>hC (ab (ag ⟨e.1,e.2,by have:=e.1;subst this;exact(uh a1).2.2⟩));refine⟨qG g _ h5,?_,?_⟩
   .unfold qz;by_cases e5:x=5
    .subst e5;show((m.push t f).T y).fr.length=(m.T y).fr.length;rw[W y (λe=>h5 ⟨rfl,e⟩)]
    rw [aa e5,aa e5];rfl
   unfold rC;rw[aa a4,aa a4];by_cases e3:x=3
   .rw [aj e3,aj e3];rfl
   rw[aa e3,aa e3];by_cases e4:x=4
   .rw [aj e4,aj e4];rfl
   rw[aa e4,aa e4];have e5:x=5:=by unfold Ey at a8;omega
   have a0:y≠t:=λe=>h5 ⟨e5,e⟩;rw[W y a0];refine iD (λi _=>?_);unfold fE;rw[Y,aa (λe=>a0 e.1),ph _ _ (λe=>a0 e.1)];rfl
  .unfold qz;rcases e with rfl|rfl<;>rfl
  .rcases e with rfl|rfl<;>rfl
  subst e;have hn:¬(y=t/\z=(m.T t).fr.length):=λe=>hC (ab (ab ⟨rfl,e⟩));rw[Y,aa hn,ph _ _ hn];exact⟨rfl,rfl,rfl⟩
 .rintro x y z (⟨rfl,rfl,rfl⟩|⟨rfl,rfl,rfl⟩|⟨rfl,rfl,rfl⟩)
  .show World.ownsRow _ 0 167 8 (.slice ((g.at 5 t (some ⟨kb,0,none⟩,ck)).ro 1 0).1 m.nt ((g.at 5 t (some ⟨kb,0,none⟩,ck)).ro 1 0).2) m.nt (rowP (m.nt*8) (tE (m.push t f) (g.at 5 t (some ⟨kb,0,none⟩,ck))));rw[qG g _ (by omega),G];refine mn h1 h2 (hT.congr (λi hi=>?_));have:=Cb m g ht.1 ((m.T t).fr++[f]) (some ⟨kb,0,none⟩,ck) i;rw[show((m.T t).fr++[f]).length=(m.T t).fr.length+1 by rw[bo];rfl]at this;exact this.symm
  .rw [fP v5];show World.ownsRow _ 0 163 4 (.slice ((g.at 5 y (some ⟨kb,0,none⟩,ck)).ro 5 y).1 ((m.push y f).T y).fr.length ((g.at 5 y (some ⟨kb,0,none⟩,ck)).ro 5 y).2) ((m.push y f).T y).fr.length (rowP (((m.push y f).T y).fr.length*4) (fE p (m.push y f) ((g.at 5 y (some ⟨kb,0,none⟩,ck)).oD y (m.T y).fr.length vb) y));rw[xS,Z];have a3:∀i k,k<4->fE p (m.push y f) ((g.at 5 y (some ⟨kb,0,none⟩,ck)).oD y (m.T y).fr.length vb) y (i*4+k)=if i=(m.T y).fr.length then fC p f vb k else fE p m g y (i*4+k):=λi k J=>by
    rw[tA _ _ _ _ J,tA _ _ _ _ J,Y];by_cases e:i=(m.T y).fr.length
    .rw [aj e,aj ⟨rfl,e⟩,e,ve]
    rw [aa e,aa (λe'=>e e'.2),ph _ _ (λe'=>e e'.2)];rfl
   rw[show((m.T y).fr.length+1)*4=(m.T y).fr.length*4+4 by omega,<-sA (n:=(m.T y).fr.length*4) (k:=4) (P:=fE p m g y) (ys:=[fC p f vb 0,fC p f vb 1,fC p f vb 2,fC p f vb 3]) (λj hj=>?_) rfl (λj hj=>?_)]
   .exact hK
   .have:=a3 (j / 4) (j % 4) (by omega);rw[show j / 4*4+j % 4=j by omega,aa (by omega)]at this;exact this
   rw [a3 _ _ hj,aj rfl];have hc:j=0\/j=1\/j=2\/j=3:=by omega
   rcases hc with rfl|rfl|rfl|rfl<;>rfl
  rw [fP v6];show Full w' (((g.at 5 y (some ⟨kb,0,none⟩,ck)).oD y (m.T y).fr.length vb).rb y (m.T y).fr.length) 115 (p.rg (fj (m.push y f) y (m.T y).fr.length).f*2) (p.rg (fj (m.push y f) y (m.T y).fr.length).f*2) (eC (fj (m.push y f) y (m.T y).fr.length).R);rw[Y,aj ⟨rfl,rfl⟩,ve];exact hV
 rintro x y z k (⟨rfl,rfl,rfl⟩|⟨rfl,rfl,rfl⟩|⟨rfl,rfl,rfl⟩) H
 .left
  have o:eO ((g.at 5 t (some ⟨kb,0,none⟩,ck)).ro 1 0).1=some k:=H;rw[qG g _ (by omega)]at o;exact o
 .rw [fP v5]at H;have o:eO ((g.at 5 y (some ⟨kb,0,none⟩,ck)).ro 5 y).1=some k:=H;rw[xS]at o;have a2:some kb=some k:=o;injection a2 with a2;subst a2;rcases J with J|J
  .left
   rw[fP (pX ht.1 ht.2)];exact J
  exact ab ⟨J,aa aA⟩
 rw [fP v6]at H;have o:k=((g.at 5 y (some ⟨kb,0,none⟩,ck)).oD y (m.T y).fr.length vb).rb y (m.T y).fr.length:=H;rw[ve]at o;subst o;exact ab ⟨hv,aj rfl⟩
def Dm.jw(m:Dm)(x:Dt):Dm:={ m with nt:=m.nt+1,T:=λt=>if t=m.nt+1 then x else m.T t }
theorem dQ.jw(h:dQ p m g w){tb tc kb vb:Nat}{x:Dt}{f:gY}(hx:x.fr=[f])(hO:dy (λk=>k=g.mb\/eO (g.ro 1 0).1=some k) w w')(hM:Full w' g.mb 112 24 24 (ep (mE p m g) 6 (.slice (some ⟨tb,0,none⟩) (m.nt+1) tc)))(hT:w'.ownsRow 0 167 8 (.slice (some ⟨tb,0,none⟩) (m.nt+1) tc) (m.nt+1) (rowP (m.nt*8) (tE m g)++[.slice (some ⟨kb,0,none⟩) 1 1,iK x.how,iK x.into,iK x.what,iK x.km,iK x.ji,iK x.out.1,iK x.out.2]))(hK:Full w' kb 163 4 4 (fC p f vb))(hV:Full w' vb 115 (p.rg f.f*2) (p.rg f.f*2) (eC f.R))(ht:eO (g.ro 1 0).1=some tb\/w.heap.size<=tb)(hk:w.heap.size<=kb)(hv:w.heap.size<=vb)(aE:kb≠vb)(aB:tb≠kb)(aC:tb≠vb):Tr p m g w (m.jw x) (((g.at 1 0 (some ⟨tb,0,none⟩,tc)).at 5 (m.nt+1) (some ⟨kb,0,none⟩,1)).oD (m.nt+1) 0 vb) w':=by
 have J:(m.jw x).T (m.nt+1)=x:=aj rfl;have a0:∀u,u≠m.nt+1->(m.jw x).T u=m.T u:=λu e=>aa e;have a9:∀y z,y≠m.nt+1->fj (m.jw x) y z=fj m y z:=λy z e=>by unfold fj;rw[a0 y e]
 have a2:fj (m.jw x) (m.nt+1) 0=f:=by unfold fj;rw[J,hx];rfl
 generalize H:((g.at 1 0 (some ⟨tb,0,none⟩,tc)).at 5 (m.nt+1) (some ⟨kb,0,none⟩,1)).oD (m.nt+1) 0 vb=g';have r1:g'.ro 1 0=(some ⟨tb,0,none⟩,tc):=by rw[<-H];exact(qG (g.at 1 0 (some ⟨tb,0,none⟩,tc)) (x:=5) (y:=m.nt+1) (some ⟨kb,0,none⟩,1) (by omega)).trans (xS _ _ _ _)
 have r5:g'.ro 5 (m.nt+1)=(some ⟨kb,0,none⟩,1):=by rw[<-H];exact xS _ _ _ _
 have ro:∀a b,¬(a=1/\b=0)->¬(a=5/\b=m.nt+1)->g'.ro a b=g.ro a b:=λa b e1 e2=>by rw[<-H];exact(qG _ _ e2).trans (qG _ _ e1)
 have a5:g'.rb (m.nt+1) 0=vb:=by rw[<-H];exact ve _ _ _ _
 have a6:∀a c,a≠m.nt+1->g'.rb a c=g.rb a c:=λa c e=>by rw[<-H];exact ph _ _ (λe'=>e e'.1)
 have a3:g'.mb=g.mb:=by rw[<-H];rfl
 have a7:g'.sb=g.sb:=by rw[<-H];rfl
 have a4:∀a b,a≠1->¬(a=5/\b=m.nt+1)->qz (m.jw x) a b=qz m a b:=λa b e1 e2=>by
  unfold qz;rw[aa e1,aa e1];by_cases Y:a=5
  .subst Y;show((m.jw x).T b).fr.length=(m.T b).fr.length;rw[a0 b (λe=>e2 ⟨rfl,e⟩)]
  rw [aa Y,aa Y];rfl
 have a1:∀a b,a≠1->¬(a=5/\b=m.nt+1)->iR (m.jw x) g' a b=iR m g a b:=λa b e1 e2=>by
  unfold iR;rw[ro a b (λe=>e1 e.1) e2,a4 a b e1 e2]
 have a8:iR (m.jw x) g' 1 0=.slice (some ⟨tb,0,none⟩) (m.nt+1) tc:=by
  unfold iR;rw[r1];rfl
 have aD:∀a b c,¬(a=5/\b=m.nt+1/\c=0)->¬(a=6/\b=m.nt+1/\c=0)->vd p (m.jw x) a b c=vd p m a b c:=λa b c e1 e2=>by
  unfold vd;by_cases Y:a=5
  .subst Y;show decide (1<=b/\b<=m.nt+1/\c=0)=decide (1<=b/\b<=m.nt/\c=0);apply decide_eq_decide.2
   have:¬(b=m.nt+1/\c=0):=λe=>e1 ⟨rfl,e⟩;omega
  rw[aa Y,aa Y];by_cases h6:a=6
  .subst h6;show decide (1<=b/\b<=m.nt+1/\c<((m.jw x).T b).fr.length)=decide (1<=b/\b<=m.nt/\c<(m.T b).fr.length);apply decide_eq_decide.2
   by_cases eb:b=m.nt+1
   .subst eb;rw[J,hx];have:c≠0:=λe=>e2 ⟨rfl,rfl,e⟩;show(1<=m.nt+1/\m.nt+1<=m.nt+1/\c<1)↔_;omega
   rw [a0 b eb];omega
  rw[aa h6,aa h6];rfl
 have v5:vd p (m.jw x) 5 (m.nt+1) 0=true:=pX (by omega) (bj _);have v6:vd p (m.jw x) 6 (m.nt+1) 0=true:=Az (by omega) (bj _) (by rw[J,hx];exact Nat.lt_succ_self 0)
 refine h.to (λa b c=>(a=0/\b=0/\c=0)\/(a=1/\b=0/\c=0)\/(a=5/\b=m.nt+1/\c=0)\/(a=6/\b=m.nt+1/\c=0)) (λk=>if k=vb then(6,m.nt+1,0) else if k=kb then(5,m.nt+1,0) else(1,0,0)) (hO.mono ?_) (λa b c hC=>jT (aD a b c (λe=>hC (ab (ab (ag e)))) (λe=>hC (ab (ab (ab e))))) (λZ=>?_)) ?_ ?_ a3
 .rintro k (rfl|hk) _
  .exact ⟨0,0,0,ag ⟨rfl,rfl,rfl⟩,rfl⟩
  exact ⟨1,0,0,ab (ag ⟨rfl,rfl,rfl⟩),hk⟩
 .have h1:a≠1:=λe=>hC (ab (ag ⟨e,jC Z (by omega)⟩));have Y:¬(a=5/\b=m.nt+1):=λe=>by
   obtain⟨rfl,rfl⟩:=e;have:=(uh Z).2.1;omega
  refine ok_eq (e0:=λe=>ch e (λe=>hC (ag ⟨e,jC Z (by omega)⟩))) (er:=λhr=>⟨ro a b (λe=>h1 e.1) Y,a4 a b h1 Y,?_⟩) (eq:=λe=>⟨ro a b (λe=>h1 e.1) Y,a4 a b h1 Y,?_⟩) (e6:=λe=>?_) (e7:=λ_=>⟨by rw[a7],rfl⟩) (hx:=kG Z)
  .unfold rC;rw[aa h1,aa h1];by_cases e3:a=3
   .rw [aj e3,aj e3];refine iD (λi _=>?_);unfold cE;rw[a7];rfl
   rw[aa e3,aa e3];by_cases e4:a=4
   .rw [aj e4,aj e4];rfl
   rw[aa e4,aa e4];have e5:a=5:=by unfold Ey at hr;omega
   have hb:b≠m.nt+1:=λe=>Y ⟨e5,e⟩;rw[a0 b hb];refine iD (λi _=>?_);unfold fE;rw[a9 b _ hb,a6 b _ hb]
  .unfold qC;rcases e with rfl|rfl<;>rfl
  subst e;have hb:b≠m.nt+1:=λe=>by
   have:=(wv Z).2.1;omega
  rw[a9 b _ hb,a6 b _ hb];exact⟨rfl,rfl,rfl⟩
 .rintro a b c (⟨rfl,rfl,rfl⟩|⟨rfl,rfl,rfl⟩|⟨rfl,rfl,rfl⟩|⟨rfl,rfl,rfl⟩)
  .show Full w' g'.mb 112 24 24 (mE p (m.jw x) g');rw[a3];refine hM.congr (λi hi=>?_);show(if i=6 then _ else _)=_;by_cases e6:i=6
   .subst e6;rw[aj rfl];exact a8.symm
   rw [aa e6];unfold mE;rw[aa e6,aa e6,a1 2 0 (by decide) (by omega),a1 10 _ (by decide) (by omega),a1 3 0 (by decide) (by omega),a1 4 0 (by decide) (by omega)];rfl
  .show World.ownsRow _ 0 167 8 (.slice (g'.ro 1 0).1 (m.nt+1) (g'.ro 1 0).2) (m.nt+1) (rowP ((m.nt+1)*8) (tE (m.jw x) g'));rw[r1,show(m.nt+1)*8=m.nt*8+8 by omega,<-sA (n:=m.nt*8) (k:=8) (P:=tE m g) (ys:=[.slice (some ⟨kb,0,none⟩) 1 1,iK x.how,iK x.into,iK x.what,iK x.km,iK x.ji,iK x.out.1,iK x.out.2]) (λj hj=>?_) rfl (λj hj=>?_)]
   .exact hT
   .unfold tE;rw[a0 _ (by omega),a1 5 _ (by decide) (by omega)]
   unfold tE;rw[show(m.nt*8+j) / 8+1=m.nt+1 by omega,show(m.nt*8+j) % 8=j by omega,J];have aA:iR (m.jw x) g' 5 (m.nt+1)=.slice (some ⟨kb,0,none⟩) 1 1:=by
    unfold iR;rw[r5];show Value.slice _ ((m.jw x).T (m.nt+1)).fr.length _=_;rw[J,hx];rfl
   rw[aA];have hc:j=0\/j=1\/j=2\/j=3\/j=4\/j=5\/j=6\/j=7:=by omega
   rcases hc with rfl|rfl|rfl|rfl|rfl|rfl|rfl|rfl<;>rfl
  .rw [fP v5];show World.ownsRow _ 0 163 4 (.slice (g'.ro 5 (m.nt+1)).1 ((m.jw x).T (m.nt+1)).fr.length (g'.ro 5 (m.nt+1)).2) ((m.jw x).T (m.nt+1)).fr.length (rowP (((m.jw x).T (m.nt+1)).fr.length*4) (fE p (m.jw x) g' (m.nt+1)));rw[r5,J,hx];refine mn (n:=1) (c:=1) (sz:=4) (bj _) (by unfold maxLen;omega) (hK.congr (λj hj=>?_));have:=tA p (m.jw x) g' (m.nt+1) (i:=0) (k:=j) hj;rw[Nat.zero_mul,Nat.zero_add]at this;rw[this,a2,a5]
  rw [fP v6];show Full w' (g'.rb (m.nt+1) 0) 115 (p.rg (fj (m.jw x) (m.nt+1) 0).f*2) (p.rg (fj (m.jw x) (m.nt+1) 0).f*2) (eC (fj (m.jw x) (m.nt+1) 0).R);rw[a2,a5];exact hV
 rintro a b c k (⟨rfl,rfl,rfl⟩|⟨rfl,rfl,rfl⟩|⟨rfl,rfl,rfl⟩|⟨rfl,rfl,rfl⟩) W
 .have:k=g'.mb:=W;exact ag (this.trans a3)
 .have o:eO (g'.ro 1 0).1=some k:=W;rw[r1]at o;have G:some tb=some k:=o;injection G with G;subst G;exact ht.imp id (λe=>⟨e,by rw[aa aC,aa aB]⟩)
 .rw [fP v5]at W;have o:eO (g'.ro 5 (m.nt+1)).1=some k:=W;rw[r5]at o;have G:some kb=some k:=o;injection G with G;subst G;exact ab ⟨hk,by rw[aa aE,aj rfl]⟩
 rw [fP v6]at W;have o:k=g'.rb (m.nt+1) 0:=W;rw[a5]at o;subst o;exact ab ⟨hv,aj rfl⟩
def Dm.lN(m:Dm)(ty:Nat)(l:List B.V):Dm:={ m with nc:=m.nc+1,M:=λc=>if c=m.nc+1 then l else m.M c,ck:=λc=>if c=m.nc+1 then ty else m.ck c }
def Dg.slt(g:Dg)(c b:Nat):Dg:={ g with sb:=λa=>if a=c then b else g.sb a }
theorem Tr.lN{m0:Dm}{g0:Dg}{w0:World}(h0:Tr p m0 g0 w0 m g w){cb cc J ty:Nat}{l:List B.V}(hO:dy (λk=>k=g.mb\/eO (g.ro 3 0).1=some k) w w')(hM:Full w' g.mb 112 24 24 (ep (mE p m g) 12 (.slice (some ⟨cb,0,none⟩) (m.nc+1) cc)))(hC:w'.ownsRow 0 233 2 (.slice (some ⟨cb,0,none⟩) (m.nc+1) cc) (m.nc+1) (rowP (m.nc*2) (cE m g)++[.slice (some ⟨J,0,none⟩) l.length l.length,iK ((ty:Int)-1)]))(hS:Full w' J 115 (l.length*2) (l.length*2) (eC (kT l)))(hc:eO (g.ro 3 0).1=some cb\/(¬ey p m g cb/\w0.heap.size<=cb))(hs:¬ey p m g J/\w0.heap.size<=J)(a7:cb≠J):Tr p m0 g0 w0 (m.lN ty l) ((g.at 3 0 (some ⟨cb,0,none⟩,cc)).slt (m.nc+1) J) w':=by
 have a3:(m.lN ty l).M (m.nc+1)=l:=aj rfl;have a4:∀u,u≠m.nc+1->(m.lN ty l).M u=m.M u:=λu e=>aa e;have a6:(m.lN ty l).ck (m.nc+1)=ty:=aj rfl;have a8:∀u,u≠m.nc+1->(m.lN ty l).ck u=m.ck u:=λu e=>aa e;generalize y:(g.at 3 0 (some ⟨cb,0,none⟩,cc)).slt (m.nc+1) J=g';have r3:g'.ro 3 0=(some ⟨cb,0,none⟩,cc):=by rw[<-y];exact xS g 3 0 (some ⟨cb,0,none⟩,cc)
 have ro:∀a b,¬(a=3/\b=0)->g'.ro a b=g.ro a b:=λa b o=>by rw[<-y];exact qG g (some ⟨cb,0,none⟩,cc) o
 have s1:g'.sb (m.nc+1)=J:=by rw[<-y];exact aj rfl
 have so:∀a,a≠m.nc+1->g'.sb a=g.sb a:=λa e=>by rw[<-y];exact aa e
 have Z:g'.mb=g.mb:=by rw[<-y];rfl
 have a2:g'.rb=g.rb:=by rw[<-y];rfl
 have a1:∀a b,a≠3->qz (m.lN ty l) a b=qz m a b:=λa b o=>by
  unfold qz;rw[aa o,aa o];rfl
 have G:∀a b,a≠3->iR (m.lN ty l) g' a b=iR m g a b:=λa b o=>by
  unfold iR;rw[ro a b (λe=>o e.1),a1 a b o]
 have a9:∀a b c,¬(a=7/\b=m.nc+1/\c=0)->vd p (m.lN ty l) a b c=vd p m a b c:=λa b c o=>by
  unfold vd;by_cases h7:a=7
  .subst h7;show decide (1<=b/\b<=m.nc+1/\c=0)=decide (1<=b/\b<=m.nc/\c=0);apply decide_eq_decide.2
   have:¬(b=m.nc+1/\c=0):=λe=>o ⟨rfl,e⟩;omega
  rw[aa h7,aa h7];rfl
 have v7:vd p (m.lN ty l) 7 (m.nc+1) 0=true:=Gw (by omega) (bj _);refine Tr.to (λa b c=>(a=0/\b=0/\c=0)\/(a=3/\b=0/\c=0)\/(a=7/\b=m.nc+1/\c=0)) (λk=>if k=J then(7,m.nc+1,0) else(3,0,0)) h0 (hO.mono ?_) (λa b c hC=>jT (a9 a b c (λe=>hC (ab (ab e)))) (λY=>?_)) ?_ ?_ Z
 .rintro k (rfl|hk) _
  .exact ⟨0,0,0,ag ⟨rfl,rfl,rfl⟩,rfl⟩
  exact ⟨3,0,0,ab (ag ⟨rfl,rfl,rfl⟩),hk⟩
 .have h0:a≠0:=λe=>hC (ag ⟨e,jC Y (by omega)⟩);have h3:a≠3:=λe=>hC (ab (ag ⟨e,jC Y (by omega)⟩));refine ok_eq (e0:=λe=>ch e h0) (er:=λhr=>⟨ro a b (λe=>h3 e.1),a1 a b h3,?_⟩) (eq:=λe=>⟨ro a b (λe=>h3 e.1),a1 a b h3,?_⟩) (e6:=λ_=>⟨by rw[a2],rfl,rfl⟩) (e7:=λe=>?_) (hx:=kG Y)
  .unfold rC;rw[aa h3,aa h3];by_cases o:a=1
   .rw [aj o,aj o];refine iD (λi _=>?_);unfold tE;rw[G 5 _ (by decide)];rfl
   rw[aa o,aa o];by_cases e4:a=4
   .rw [aj e4,aj e4];rfl
   rw[aa e4,aa e4];refine iD (λi _=>?_);unfold fE;rw[a2];rfl
  .unfold qC;rcases e with rfl|rfl<;>rfl
  subst e;have hb:b≠m.nc+1:=λe=>by
   have:=(zl Y).2.1;omega
  exact⟨so b hb,a4 b hb⟩
 .rintro a b c (⟨rfl,rfl,rfl⟩|⟨rfl,rfl,rfl⟩|⟨rfl,rfl,rfl⟩)
  .show Full w' g'.mb 112 24 24 (mE p (m.lN ty l) g');rw[Z];refine hM.congr (λi hi=>?_);show(if i=12 then _ else _)=_;by_cases e6:i=12
   .subst e6;rw[aj rfl];show _=Value.slice (g'.ro 3 0).1 (m.nc+1) (g'.ro 3 0).2;rw[r3]
   rw [aa e6];unfold mE;rw[aa e6,aa e6,G 1 0 (by decide),G 2 0 (by decide),G 10 _ (by decide),G 4 0 (by decide)];rfl
  .show World.ownsRow _ 0 233 2 (.slice (g'.ro 3 0).1 (m.nc+1) (g'.ro 3 0).2) (m.nc+1) (rowP ((m.nc+1)*2) (cE (m.lN ty l) g'));rw[r3,show(m.nc+1)*2=m.nc*2+2 by omega,<-sA (n:=m.nc*2) (k:=2) (P:=cE m g) (ys:=[.slice (some ⟨J,0,none⟩) l.length l.length,iK ((ty:Int)-1)]) (λj hj=>?_) rfl (λj hj=>?_)]
   .exact hC
   .unfold cE;rw[so _ (by omega),a4 _ (by omega),a8 _ (by omega)]
   unfold cE;rw[show(m.nc*2+j) / 2+1=m.nc+1 by omega,s1,a3,a6];have a5:j=0\/j=1:=by omega
   rcases a5 with rfl|rfl
   .rw [aj (by omega)];rfl
   rw [aa (by omega)];rfl
  rw [fP v7];show Full w' (g'.sb (m.nc+1)) 115 (((m.lN ty l).M (m.nc+1)).length*2) (((m.lN ty l).M (m.nc+1)).length*2) (eC (kT ((m.lN ty l).M (m.nc+1))));rw[s1,a3];exact hS
 rintro a b c k (⟨rfl,rfl,rfl⟩|⟨rfl,rfl,rfl⟩|⟨rfl,rfl,rfl⟩) W
 .have:k=g'.mb:=W;exact ag (this.trans Z)
 .have H:eO (g'.ro 3 0).1=some k:=W;rw[r3]at H;have a0:some cb=some k:=H;injection a0 with a0;subst a0;exact hc.imp id (λe=>⟨e.1,e.2,aa a7⟩)
 rw [fP v7]at W;have H:k=g'.sb (m.nc+1):=W;rw[s1]at H;subst H;exact ab ⟨hs.1,hs.2,aj rfl⟩
theorem Tryz.Fc:(prog.info? 167).map (λi=>(i.zero,i.size,i.bytes))=some (some (.agg #[.slice none 0 0,.int .i64 0,.int .i64 0,.int .i64 0,.int .i64 0,.int .i64 0,.int .i64 0,.int .i64 0]),8,80):=by kernel_rfl
theorem Tryz.underlying106:prog.underlying 106=some (.slice 167):=by kernel_rfl
def At(m:Dm)(g g1:Dg):Prop:=(∀t i,t<=m.nt->g1.rb t i=g.rb t i)/\g1.sb=g.sb
theorem Eu{b tb tc:Nat}{o2:Obj}{w2 w6 W:World}{f:gY}{x:Dt}(h:dQ p m g w)(Z:w.grownBy w2 none)(hx:x.fr=[f])(hV:Full w2 b 115 (p.rg f.f*2) (p.rg f.f*2) (eC f.R))(hb:w.heap.size<=b)(ho:w6.ownsRow 0 167 8 (.slice (some ⟨tb,0,none⟩) (m.nt+1) tc) (m.nt+1) (rowP (m.nt*8) (tE m g)++[.slice (some ⟨w2.heap.size,0,none⟩) 1 1,iK x.how,iK x.into,iK x.what,iK x.km,iK x.ji,iK x.out.1,iK x.out.2]))(o:W.grownBy w6 (Value.slice (g.ro 1 0).1 m.nt (g.ro 1 0).2).ownBlock)(a6:jE W.heap.size (.slice (g.ro 1 0).1 m.nt (g.ro 1 0).2) (.slice (some ⟨tb,0,none⟩) (m.nt+1) tc))(hW:W.heap=((w2.alloc (.cells #[fC p f b 0,fC p f b 1,fC p f b 2,fC p f b 3] 163)).alloc o2).heap)(J:W.os=w2.os/\W.tape=w2.tape/\W.output=w2.output): ∃g1,Tr p m g w (m.jw x) g1 (w6.setCell ⟨g.mb,6,none⟩ (.slice (some ⟨tb,0,none⟩) (m.nt+1) tc))/\At m g g1:=by
 have h2:=h.kept Z;have a2:(Value.slice (g.ro 1 0).1 m.nt (g.ro 1 0).2).ownBlock=eO (g.ro 1 0).1:=dr _ _ _;rw[a2]at o;have a9:W.heap.size=w2.heap.size+2:=by rw[hW];simp
 have u:∀k,eO (g.ro 1 0).1=some k->k<w.heap.size/\k≠g.mb:=λk H=>⟨h.lt ⟨1,0,0,H⟩,h.ne (x:=1) (y:=0) (z:=0) (x':=0) (y':=0) (z':=0) rfl rfl H rfl (by omega)⟩;have aA:=Z.size;have Y:∀k,k<w2.heap.size->eO (g.ro 1 0).1≠some k->w6.heap[k]? = w2.heap[k]?:=λk H hn=>by
  rw[o.block k (by omega) (λe=>hn e.symm),hW,ak _ _ _ (by simp;omega),ak _ _ _ H]
 have a7:w6.heap[w2.heap.size]? = some (.cells #[fC p f b 0,fC p f b 1,fC p f b 2,fC p f b 3] 163 (0,0)):=by
  rw[o.block w2.heap.size (by omega) (λe=>by have:=(u _ e.symm).1;omega),hW,ak _ _ _ (by simp)];exact bf _ _
 have a5:g.mb<w2.heap.size:=h2.M.lt;have a0:=h2.M.block (Y g.mb a5 (λe=>(u _ e).2 rfl))
 have a1:=hV.block (Y b hV.lt (λe=>by have:=(u _ e).1;omega));have G:eO (g.ro 1 0).1=some tb\/W.heap.size<=tb:=by
  rcases a6 with e|⟨b',e1,e2⟩
  .left
   rw[<-a2,<-e];rfl
  right
  have:tb=b':=by injection e1
  omega
 have a4:tb≠g.mb:=by
  rcases G with e|e
  .exact(u _ e).2
  omega
 refine⟨_,h.jw hx (kb:=w2.heap.size) (vb:=b) (tb:=tb) (tc:=tc) (f:=f) (bm (S:=λk=>k=g.mb\/eO (g.ro 1 0).1=some k) (a:=⟨g.mb,6,none⟩) ⟨o.os.trans (J.1.trans Z.os),o.tape.trans (J.2.1.trans Z.tape),o.output.trans (J.2.2.trans Z.output),by have:=o.size;omega,λk H hn=>(Y k (by omega) (λe=>hn (ab e))).trans (Z.block k H (by intro e;cases e))⟩ (ag (ag rfl)) _) (a0.ep 6 _) ?_ ?_ ?_ (G.imp id (λe=>by omega)) (by omega) hb ?_ ?_ ?_,λt i ht=>ph _ _ (λe=>by omega),rfl⟩
 .exact dD ho (λk H=>af _ _ _ _ (by
   have:k=tb:=by simpa[Value.ownBlock] using H.symm
   rw[this];exact a4))
 .have hF:Full w6 w2.heap.size 163 4 4 (fC p f b):=⟨_,a7,rfl,λj hj=>by
   have hc:j=0\/j=1\/j=2\/j=3:=by omega
   rcases hc with rfl|rfl|rfl|rfl<;>rfl⟩
  exact hF.off (by omega)
 .exact a1.off (a1.ne a0 (by decide))
 .have:=hV.lt;omega
 .rcases G with e|e
  .have:=(u _ e).1;omega
  omega
 rcases G with e|e
 .have:=(u _ e).1;omega
 have:=hV.lt;omega
theorem GN{f:Nat}{u v:B.V}(h:dQ p m g w)(hf:f<p.nf)(hr:2<=p.rg f)(aT:p.rg f<=8)(hn:m.nt<1000000000)(hq:m.q.length<=1000000000): Calls prog 47 #[P0 g.mb,.int .i64 f,vA u,vA v] w λe w'=>e=.returned (.int .i64 ((m.nt:Int)+1))/\∃g',Tr p m g w (m.born f u v) g' w'/\At m g g':=by
 obtain⟨i0,hi,aL,aE,aC⟩:=info_parts Tryz.Fc;obtain⟨j0,i,aU,aM,aV⟩:=info_parts Tryz.qk;have c0:w.cell? ⟨g.mb,0,none⟩=some (.slice (some ⟨p.gb,0,none⟩) p.nf p.gc):=(h.mc 0 (by omega) rfl).1;have hP:=h.P.2.2;have c1:w.cell? ⟨p.gb,f*2,none⟩=some (.int .i64 (p.rg f:Int)):=by
  rw[hP.cell (f*2) (by omega)];unfold JC;rw[aj (by omega),show f*2 / 2=f by omega]
 have lm:g.mb<w.heap.size:=h.M.lt;have HR:=az h;have a5:Hid (∀w1,w.grownBy w1 none->Calls prog 74 #[P0 g.mb,.int .i64 f,vA u,vA v,.int .i64 0] w1 λe w'=>∃b,e=.returned (.agg #[.int .i64 f,.slice (some ⟨b,0,none⟩) (p.rg f) (p.rg f),.int .i64 0,.int .i64 0])/\w1.heap.size<=b/\Full w' b 115 (p.rg f*2) (p.rg f*2) (eC (gh u v))/\w1.grownBy w' none):=λw1 W=>xL ((bh W (a:=⟨g.mb,0,none⟩) lm).1.trans c0) ((bh W (a:=⟨p.gb,f*2,none⟩) hP.lt).1.trans c1) hf hr aT;obtain⟨u1,u2⟩:=u;obtain⟨v1,v2⟩:=v;clear h hP c0 c1;go_in;go_wp2_with fail
 refine(a5 _ (au (au (ax _ _) _) _)).mono ?_;rintro e w1 ⟨b,rfl,hb,hV,W⟩;have hg:w.grownBy w1 none:=an (au (au (ax _ _) _) _) W;have aQ:w.heap.size<=b:=by simp at hb;omega
 have HV:=az hV;have HG:=az hg;clear hV W hb a5;go_wp2_with fail
 have KG:Hid (w.grownBy (w1.alloc (.cells #[.int .i64 f,.slice (some ⟨b,0,none⟩) (p.rg f) (p.rg f),.int .i64 0,.int .i64 0] 163)) none):=au HG _;have Y:=bf w1 (.cells #[.int .i64 f,.slice (some ⟨b,0,none⟩) (p.rg f) (p.rg f),.int .i64 0,.int .i64 0] 163);have aB:Hid (Full (w1.alloc (.cells #[.int .i64 f,.slice (some ⟨b,0,none⟩) (p.rg f) (p.rg f),.int .i64 0,.int .i64 0] 163)) b 115 (p.rg f*2) (p.rg f*2) (eC (gh (u1,u2) (v1,v2)))):=HV.block (ak _ _ _ HV.lt);have aW:w1.heap.size<(w1.alloc (.cells #[.int .i64 f,.slice (some ⟨b,0,none⟩) (p.rg f) (p.rg f),.int .i64 0,.int .i64 0] 163)).heap.size:=by simp
 generalize w1.alloc (.cells #[.int .i64 f,.slice (some ⟨b,0,none⟩) (p.rg f) (p.rg f),.int .i64 0,.int .i64 0] 163)=w2 at *;have x0:w2.cell? ⟨w1.heap.size,0,none⟩=some (.int .i64 f):=by simp[World.cell?,Y]
 have x1:w2.cell? ⟨w1.heap.size,1,none⟩=some (.slice (some ⟨b,0,none⟩) (p.rg f) (p.rg f)):=by simp[World.cell?,Y]
 have x2:w2.cell? ⟨w1.heap.size,2,none⟩=some (.int .i64 0):=by simp[World.cell?,Y]
 have x3:w2.cell? ⟨w1.heap.size,3,none⟩=some (.int .i64 0):=by simp[World.cell?,Y]
 have Z:=az (HR.kept KG);obtain⟨c6,z6⟩:=Z.mc 6 (by omega) (v:=.slice (g.ro 1 0).1 m.nt (g.ro 1 0).2) rfl;have a6:=Z.M.lt;have HT:Hid (w2.ownsRow 0 167 8 (.slice (g.ro 1 0).1 m.nt (g.ro 1 0).2) m.nt (rowP (m.nt*8) (tE m g))):=Z.Tw;have a0:Hid (∀k,(Value.slice (g.ro 1 0).1 m.nt (g.ro 1 0).2).ownBlock=some k->k≠g.mb/\k<w2.heap.size):=λk hk=>⟨eL HT Z.M (by decide) k hk,(dA HT k hk).2.1⟩;clear Y aW;go_cut [] (λwx=>Hid (∃g1,Tr p m g w (m.jw ⟨[⟨f,0,gh (u1,u2) (v1,v2),(0,0,0,0)⟩],1,0,0,0,0,(0,0)⟩) g1 wx/\At m g g1))
 case first=>
  go_region_law (refine eS _ rfl (.tmp 19) (.tmp 23) 106 rfl 167 i0 _ 8 80 Tryz.underlying106 hi aL aE aC rfl (by decide) (g.ro 1 0).1 m.nt (g.ro 1 0).2 (rowP (m.nt*8) (tE m g)) (by first|rfl|simp[Act.eval,Act.put]) (dD HT (λk h=>(ak _ _ _ (by have:=(a0 k h).2;simp;omega)).trans (ak _ _ _ (a0 k h).2))) ⟨w2.heap.size+1,0,none⟩ 1 1 [.slice (some ⟨w2.heap.size,0,none⟩) 1 1,.int .i64 1,.int .i64 0,.int .i64 0,.int .i64 0,.int .i64 0,.int .i64 0,.int .i64 0] (by first|rfl|simp[Act.eval,Act.put]) rfl (by intro j u i;match j,i with|0,i=>(simp at i;subst i;simp[Addr.add,go_sem])|1,i=>(simp at i;subst i;simp[Addr.add,go_sem])|2,i=>(simp at i;subst i;simp[Addr.add,go_sem])|3,i=>(simp at i;subst i;simp[Addr.add,go_sem])|4,i=>(simp at i;subst i;simp[Addr.add,go_sem])|5,i=>(simp at i;subst i;simp[Addr.add,go_sem])|6,i=>(simp at i;subst i;simp[Addr.add,go_sem])|7,i=>(simp at i;subst i;simp[Addr.add,go_sem])) (by simp[Value.oneCell']) (by unfold maxLen;omega) (by omega) (by decide) ?_;intro v' w6 ho G a7;obtain⟨tb,tc,rfl⟩:=dM ho (by omega);have aI:=az ho;have a4:=az G;have aG:=az a7;have H:w6.heap[g.mb]? = w2.heap[g.mb]?:=((G.block g.mb (by first|(simp;omega)|simp) (λh=>(a0 _ h.symm).1 rfl)).trans ((ak _ _ _ (by first|(simp;omega)|simp)).trans (ak _ _ _ a6)));have d6:=(aw (a:=⟨g.mb,6,none⟩) H).trans c6;have y6:=(dg (a:=⟨g.mb,6,none⟩) H).trans z6;clear H ho G a7)
  all_goals
   go_wp2_with fail
   go_meet
   case rel=>
    exact Eu (x:=⟨[⟨f,0,gh (u1,u2) (v1,v2),(0,0,0,0)⟩],1,0,0,0,0,(0,0)⟩) (f:=⟨f,0,gh (u1,u2) (v1,v2),(0,0,0,0)⟩) HR KG rfl aB.out aQ aI.out a4.out aG.out rfl ⟨rfl,rfl,rfl⟩
 case rest=>
  have o:=hcut;obtain⟨g1,J,a9⟩:=o.out;have aK:=az a9;clear a9;obtain⟨aN,aH⟩:=J.r.mc 6 (by omega) (v:=.slice (g1.ro 1 0).1 (m.nt+1) (g1.ro 1 0).2) rfl;obtain⟨c7,z7⟩:=J.r.mc 7 (by omega) (v:=.slice (g1.ro 2 0).1 m.q.length (g1.ro 2 0).2) rfl;rw[J.b]at aN aH c7 z7;have HQ:Hid (fM wc 3 (.slice (g1.ro 2 0).1 m.q.length (g1.ro 2 0).2) (iI m.q)):=J.r.Q;have a1:=az J;have aD:g.mb<wc.heap.size:=by have:=J.r.M.lt;rw[J.b]at this;exact this
  have HK:Hid (∀k,(Value.slice (g1.ro 2 0).1 m.q.length (g1.ro 2 0).2).ownBlock=some k->k≠g.mb/\k<wc.heap.size):=λk hk=>by
   have aJ:eO (g1.ro 2 0).1=some k:=by rw[dr]at hk;exact hk
   refine⟨?_,HQ.out.lt k hk⟩;rw[<-a1.out.b];exact a1.out.r.ne (x:=2) (y:=0) (z:=0) (x':=0) (y':=0) (z':=0) rfl rfl aJ rfl (by omega)
  have aY:=iH m.q;clear J hcut o c6 z6 HT a0 Z aB x0 x1 x2 x3 a6;go_wp2_with fail
  go_cut [] (λwx=>Hid (∃g2,Tr p m g w (m.born f (u1,u2) (v1,v2)) g2 wx/\At m g g2))
  case first=>
   go_region_law (refine oz _ rfl (.tmp 31) (.tmp 37) 54 rfl 3 j0 _ 8 Tryz.g9 i aU aM aV rfl _ (iI m.q) (by first|rfl|simp[Act.eval,Act.put]) (HQ.out.block (λk h=>ak _ _ _ (HK.out k h).2)) ⟨wc.heap.size,0,none⟩ 1 (.int .i64 ((m.nt:Int)+1)) (by first|rfl|simp[Act.eval,Act.put]) (by simp[Addr.add,go_sem]) rfl (by unfold maxLen;omega) (by omega) ?_;intro gb aX c' w6 aA G a3;have aF:=az aA;have a4:=az G;have aS:=az a3;have H:w6.heap[g.mb]? = wc.heap[g.mb]?:=((G.block g.mb (by first|(simp;omega)|simp) (λh=>(HK.out _ h.symm).1 rfl)).trans (ak _ _ _ aD));have d7:=(aw (a:=⟨g.mb,7,none⟩) H).trans c7;have y7:=(dg (a:=⟨g.mb,7,none⟩) H).trans z7;clear H aA G a3)
   all_goals
    go_wp2_with fail
    go_meet
    case rel=>
     have hq:=aF.out;rw[iH]at hq;have h2:=Tr.qv (t:=m.nt+1) (a1.out.kept (bq (ah wc (.cells #[.int .i64 ((m.nt:Int)+1)] 3) none))) hq a4.out aS.out;rw[a1.out.b]at h2;exact⟨_,h2,aK.out⟩
  case rest=>
   have o:=hcut;obtain⟨g2,a2,a8⟩:=o.out;have aP:=az a8;clear a8;obtain⟨d6,_⟩:=a2.r.mc 6 (by omega) (v:=.slice (g2.ro 1 0).1 (m.nt+1) (g2.ro 1 0).2) rfl;rw[a2.b]at d6;have aR:=az a2;clear a2 hcut o;go_wp2_with fail
   go_ret;exact⟨rfl,g2,aR.out,aP.out⟩
abbrev jY(op a b c:Nat):Value:=.agg #[.int .i64 (op:Int),.int .i64 (a:Int),.int .i64 (b:Int),.int .i64 (c:Int)]
theorem Iz{rb nr:Nat}{R:Nat->B.V}(h:Full w rb 115 (nr*2) (nr*2) (eC R)){a:Nat}(o:a<nr):w.cell? ⟨rb,a*2,none⟩=some (.int .i64 ((R a).1:Int))/\w.cell? ⟨rb,a*2+1,none⟩=some (.int .i64 (R a).2)/\w.frozen? ⟨rb,a*2,none⟩=false/\w.frozen? ⟨rb,a*2+1,none⟩=false:=by
 obtain⟨c0,e⟩:=h.cells (a*2) (by omega);obtain⟨c1,i⟩:=h.cells (a*2+1) (by omega);unfold eC at c0 c1;rw[aj (by omega),show a*2 / 2=a by omega]at c0;rw[aa (by omega),show(a*2+1) / 2=a by omega]at c1;exact⟨c0,c1,e,i⟩
theorem dQ.cc(h:dQ p m g w){c:Nat}(H:1<=c)(G:c<=m.nc):∃e,(g.ro 3 0).1=some ⟨e,0,none⟩/\e<w.heap.size/\w.cell? ⟨g.mb,12,none⟩=some (.slice (some ⟨e,0,none⟩) m.nc (g.ro 3 0).2)/\w.cell? ⟨e,(c-1)*2,none⟩=some (.slice (some ⟨g.sb c,0,none⟩) (m.M c).length (m.M c).length)/\w.cell? ⟨e,(c-1)*2+1,none⟩=some (.int .i64 ((m.ck c:Int)-1)):=by
 obtain⟨b,o,u,y,i⟩:=h.C (by omega);have k0:=i.cell ((c-1)*2) (by omega);have k1:=i.cell ((c-1)*2+1) (by omega);unfold cE at k0 k1;rw[aj (by omega),show(c-1)*2 / 2+1=c by omega]at k0;rw[aa (by omega),show((c-1)*2+1) / 2+1=c by omega]at k1;refine⟨b,o,i.lt,?_,k0,k1⟩;rw[<-o];exact(h.mc 12 (by omega) rfl).1
theorem Cr{rb t i nr op a b c:Nat}{v1:Int}(J:b<nr)(r0:w.cell? ⟨i,b*2,none⟩=some (.int .i64 0))(W:w.cell? ⟨i,b*2+1,none⟩=some (.int .i64 v1)): Calls prog 227 #[P0 rb,.int .i64 t,.slice (some ⟨i,0,none⟩) nr nr,jY op a b c] w λe w'=>e=.returned (.int .i64 4)/\w.grownBy w' none:=by
 have G:i<w.heap.size:=av w _ r0;have y:(b:Int)<nr:=by omega
 go_in;go_wp2_with fail
 have u:Hid (w.grownBy ((w.alloc (.cells #[.int .i64 op,.int .i64 a,.int .i64 b,.int .i64 c] 90)).alloc (.cells #[.int .i64 0,.int .i64 v1] 115)) none):=au (au (ax _ _) _) _;have H:((w.alloc (.cells #[.int .i64 op,.int .i64 a,.int .i64 b,.int .i64 c] 90)).alloc (.cells #[.int .i64 0,.int .i64 v1] 115)).cell? ⟨w.heap.size+1,0,none⟩=some (.int .i64 0):=by simp[go_sem]
 generalize (w.alloc (.cells #[.int .i64 op,.int .i64 a,.int .i64 b,.int .i64 c] 90)).alloc (.cells #[.int .i64 0,.int .i64 v1] 115)=w2 at *;go_quiet (fail)
 go_wp2_with fail
 go_ret;exact⟨rfl,db u _⟩
structure LN(w:World) (rb rr nr b c z cb nc cc sN sl:Nat) (v1 u1:Int) (x y:B.V):Prop where
 hb:b<nr
 hc:c<nr
 hz:z<nc
 hn:nc<1000000000
 r0:w.cell? ⟨rr,b*2,none⟩=some (.int .i64 ((z:Int)+1))
 r1:w.cell? ⟨rr,b*2+1,none⟩=some (.int .i64 v1)
 BL:w.cell? ⟨rb,12,none⟩=some (.slice (some ⟨cb,0,none⟩) nc cc)
 k0:w.cell? ⟨cb,z*2,none⟩=some (.slice (some ⟨sN,0,none⟩) sl sl)
 k1:w.cell? ⟨cb,z*2+1,none⟩=some (.int .i64 u1)
 lr:rr<w.heap.size
 lb:rb<w.heap.size
 lc:cb<w.heap.size
theorem Cq{rb t o nr op a b c z cb H cc sN sl:Nat}{v1 G:Int}{x y:B.V}(h:LN w rb o nr b c z cb H cc sN sl v1 G x y)(hu:G<0): Calls prog 227 #[P0 rb,.int .i64 t,.slice (some ⟨o,0,none⟩) nr nr,jY op a b c] w λe w'=>e=.returned (.int .i64 4)/\w.grownBy w' none:=by
 obtain⟨hb,hc,hz,hn,W,r1,i,k0,k1,lr,Z,Y⟩:=h;have a0:(b:Int)<nr:=by omega
 have q1:IntKind.i64.wrap ((z:Int)+1-1)=(z:Int):=fp (by omega);have q2:IntKind.i64.wrap (z:Int)=z:=by rw[bl,bd _ (by omega)]
 have q3:(z:Int)<H:=by omega
 have q4:(0:Int)<=z:=by omega
 have q5:(((z:Int)+1) == 0)=false:=by rw[dK];omega
 go_in;go_wp2_with fail
 have u:Hid (w.grownBy ((w.alloc (.cells #[.int .i64 op,.int .i64 a,.int .i64 b,.int .i64 c] 90)).alloc (.cells #[.int .i64 ((z:Int)+1),.int .i64 v1] 115)) none):=au (au (ax _ _) _) _;have x0:((w.alloc (.cells #[.int .i64 op,.int .i64 a,.int .i64 b,.int .i64 c] 90)).alloc (.cells #[.int .i64 ((z:Int)+1),.int .i64 v1] 115)).cell? ⟨w.heap.size+1,0,none⟩=some (.int .i64 ((z:Int)+1)):=by simp[go_sem]
 generalize (w.alloc (.cells #[.int .i64 op,.int .i64 a,.int .i64 b,.int .i64 c] 90)).alloc (.cells #[.int .i64 ((z:Int)+1),.int .i64 v1] 115)=w2 at *;have a1:=(bh u (a:=⟨rb,12,none⟩) Z).1.trans i;have d1:=(bh u (a:=⟨cb,z*2+1,none⟩) Y).1.trans k1;go_quiet (fail)
 go_wp2_with fail
 go_ret;exact⟨rfl,db u _⟩
structure Kl(w w2:World) (rb rr op a b c z cb nc cc sN sl:Nat) (v1 u1:Int):Prop where
 g:w.grownBy w2 none
 i0:w2.cell? ⟨w.heap.size,0,none⟩=some (.int .i64 (op:Int))
 i1:w2.cell? ⟨w.heap.size,1,none⟩=some (.int .i64 (a:Int))
 i3:w2.cell? ⟨w.heap.size,3,none⟩=some (.int .i64 (c:Int))
 x0:w2.cell? ⟨w.heap.size+1,0,none⟩=some (.int .i64 ((z:Int)+1))
 d12:w2.cell? ⟨rb,12,none⟩=some (.slice (some ⟨cb,0,none⟩) nc cc)
 d0:w2.cell? ⟨cb,z*2,none⟩=some (.slice (some ⟨sN,0,none⟩) sl sl)
 d1:w2.cell? ⟨cb,z*2+1,none⟩=some (.int .i64 u1)
 s:w.heap.size+1<w2.heap.size
theorem Kl.drewN{w2:World}{rb e op a b c z cb u cc o sl:Nat}{v1 i:Int}(h:Kl w w2 rb e op a b c z cb u cc o sl v1 i)(n:Nat):Kl w (w2.drewN n) rb e op a b c z cb u cc o sl v1 i:=⟨db h.g n,h.i0,h.i1,h.i3,h.x0,h.d12,h.d0,h.d1,h.s⟩
theorem Mr{rb i nr op a b c z cb u cc G sl:Nat}{v1 o:Int}{x y:B.V}(h:LN w rb i nr b c z cb u cc G sl v1 o x y):Kl w ((w.alloc (.cells #[.int .i64 op,.int .i64 a,.int .i64 b,.int .i64 c] 90)).alloc (.cells #[.int .i64 ((z:Int)+1),.int .i64 v1] 115)) rb i op a b c z cb u cc G sl v1 o:=by
 have e:w.grownBy ((w.alloc (.cells #[.int .i64 op,.int .i64 a,.int .i64 b,.int .i64 c] 90)).alloc (.cells #[.int .i64 ((z:Int)+1),.int .i64 v1] 115)) none:=au (au (ax _ _) _) _;exact⟨e,by simp[go_sem],by simp[go_sem],by simp[go_sem],by simp[go_sem],(bh e (a:=⟨rb,12,none⟩) h.lb).1.trans h.BL,(bh e (a:=⟨cb,z*2,none⟩) h.lc).1.trans h.k0,(bh e (a:=⟨cb,z*2+1,none⟩) h.lc).1.trans h.k1,by simp⟩
def L4(w2 wx:World)(X sN sl:Nat)(u1:Int):Prop:=w2.grownBy wx none/\wx.cell? ⟨X,0,none⟩=some (.slice (some ⟨sN,0,none⟩) sl sl)/\wx.cell? ⟨X,1,none⟩=some (.int .i64 u1)/\w2.heap.size<=X
theorem Mq(e:World)(o sl:Nat)(i:Int):L4 e ((e.alloc (.cells #[.slice (some ⟨o,0,none⟩) sl sl,.int .i64 i] 233)).drew) e.heap.size o sl i:=
 ⟨bq (ah _ _ none),(by simp[go_sem]),(by simp[go_sem]),bj _⟩
theorem Tryz.Fe:(prog.info? 163).map (λi=>(i.zero,i.size,i.bytes))=some (some (.agg #[.int .i64 0,.slice none 0 0,.int .i64 0,.int .i64 0]),4,48):=by kernel_rfl
theorem Tryz.underlying165:prog.underlying 165=some (.slice 163):=by kernel_rfl
theorem GY{t b tb kb ck:Nat}{o2:Obj}{w2 w6 W:World}{f:gY}(h:dQ p m g w)(ht:mF m t)(hb:g.ro 1 0=(some ⟨tb,0,none⟩,(g.ro 1 0).2))(hg:w.grownBy w2 none)(hV:Full w2 b 115 (p.rg f.f*2) (p.rg f.f*2) (eC f.R))(a5:w.heap.size<=b)(ho:w6.ownsRow 0 163 4 (.slice (some ⟨kb,0,none⟩) ((m.T t).fr.length+1) ck) ((m.T t).fr.length+1) (rowP ((m.T t).fr.length*4) (fE p m g t)++[fC p f b 0,fC p f b 1,fC p f b 2,fC p f b 3]))(o:W.grownBy w6 (Value.slice (g.ro 5 t).1 (m.T t).fr.length (g.ro 5 t).2).ownBlock)(a6:jE W.heap.size (.slice (g.ro 5 t).1 (m.T t).fr.length (g.ro 5 t).2) (.slice (some ⟨kb,0,none⟩) ((m.T t).fr.length+1) ck))(hW:W.heap=(w2.alloc o2).heap)(Y:W.os=w2.os/\W.tape=w2.tape/\W.output=w2.output): ∃g1,Tr p m g w (m.push t f) g1 (w6.setCell ⟨tb,(t-1)*8,none⟩ (.slice (some ⟨kb,0,none⟩) ((m.T t).fr.length+1) ck)):=by
 have:=ht.1;have:=ht.2;have a2:(Value.slice (g.ro 5 t).1 (m.T t).fr.length (g.ro 5 t).2).ownBlock=eO (g.ro 5 t).1:=dr _ _ _;rw[a2]at o;have a8:W.heap.size=w2.heap.size+1:=by rw[hW];simp
 obtain⟨u,i,h1,a7,h3⟩:=(h.kept hg).T (by omega);have a4:u=tb:=by rw[hb]at i;injection i with i;injection i with i _;exact i.symm
 subst a4;have v5:=pX (p:=p) (m:=m) ht.1 ht.2;have G:∀k,eO (g.ro 5 t).1=some k->k<w.heap.size/\k≠u:=λk H=>⟨h.lt ⟨5,t,0,by rw[fP v5];exact H⟩,h.ne (x:=5) (y:=t) (z:=0) (x':=1) (y':=0) (z':=0) v5 rfl H ((Bw p m hb u).2 rfl) (by omega)⟩;have a9:=hg.size;have Z:∀k,k<w2.heap.size->eO (g.ro 5 t).1≠some k->w6.heap[k]? = w2.heap[k]?:=λk H hn=>by
  rw[o.block k (by omega) (λe=>hn e.symm),hW,ak _ _ _ H]
 have a0:=h3.block (Z u h3.lt (λe=>(G _ e).2 rfl));have a1:=hV.block (Z b hV.lt (λe=>by have:=(G _ e).1;omega));have J:eO (g.ro 5 t).1=some kb\/W.heap.size<=kb:=by
  rcases a6 with e|⟨u,e1,e2⟩
  .left
   rw[<-a2,<-e];rfl
  right
  have:kb=u:=by injection e1
  omega
 have aA:=h.lt ⟨1,0,0,(Bw p m hb u).2 rfl⟩;have a3:kb≠u:=by
  rcases J with e|e
  .exact(G _ e).2
  omega
 refine⟨_,h.push ht (tb:=u) (kb:=kb) (ck:=ck) (vb:=b) (f:=f) hb (bm (S:=λk=>k=u\/eO (g.ro 5 t).1=some k) (a:=⟨u,(t-1)*8,none⟩) ⟨o.os.trans (Y.1.trans hg.os),o.tape.trans (Y.2.1.trans hg.tape),o.output.trans (Y.2.2.trans hg.output),by have:=o.size;omega,λk H hn=>(Z k (by omega) (λe=>hn (ab e))).trans (hg.block k H (by intro e;cases e))⟩ (ag (ag rfl)) _) (a0.ep _ _) ?_ ?_ (J.imp id (λe=>by omega)) a5 ?_⟩
 .exact dD ho (λk H=>af _ _ _ _ (by
   have:k=kb:=by simpa[Value.ownBlock] using H.symm
   rw[this];exact a3))
 .exact a1.off (a1.ne a0 (by decide))
 rcases J with e|e
 .have:=(G _ e).1;omega
 have:=hV.lt;omega
def LM(wc wx:World)(Y b f into nr:Nat)(x y:B.V):Prop:=wc.grownBy wx none/\wx.heap[Y]? = some (.cells #[.int .i64 (f:Int),.slice (some ⟨b,0,none⟩) nr nr,.int .i64 0,.int .i64 (into:Int)] 163 (0,0))/\wc.heap.size<=b/\wc.heap.size<=Y/\Full wx b 115 (nr*2) (nr*2) (eC (gh x y))
theorem Lr{wc e:World}{b f into nr:Nat}{x y:B.V}(o:wc.grownBy e none)(i:Full e b 115 (nr*2) (nr*2) (eC (gh x y)))(u:wc.heap.size<=b):LM wc (e.alloc (.cells #[.int .i64 f,.slice (some ⟨b,0,none⟩) nr nr,.int .i64 0,.int .i64 into] 163)) e.heap.size b f into nr x y:=
 ⟨au o _,bf _ _,u,o.size,i.block (ak _ _ _ i.lt)⟩
theorem Lp{wc e:World}{b f into nr:Nat}{x y:B.V}(u:wc.grownBy e none)(i:Full e b 115 (nr*2) (nr*2) (eC (gh x y)))(G:wc.heap.size+1<=b)(o:e.heap[wc.heap.size]? = some (.cells #[.int .i64 0,.slice none 0 0,.int .i64 0,.int .i64 0] 163 (0,0))):LM wc ((((e.setCell ⟨wc.heap.size,0,none⟩ (.int .i64 f)).setCell ⟨wc.heap.size,1,none⟩ (.slice (some ⟨b,0,none⟩) nr nr)).setCell ⟨wc.heap.size,2,none⟩ (.int .i64 0)).setCell ⟨wc.heap.size,3,none⟩ (.int .i64 into)) wc.heap.size b f into nr x y:=by
 refine⟨bp (bp (bp (bp u (ab (bj _)) _) (ab (bj _)) _) (ab (bj _)) _) (ab (bj _)) _,?_,by omega,bj _,(((i.off (by omega)).off (by omega)).off (by omega)).off (by omega)⟩;simp[World.setCell,cn,o]
def tO(m:Dm)(time:Int)(I b:Nat):Prop:=
 (b=0/\∀u,1<=u->u<=I->¬((m.T u).how=2/\(m.T u).km<=time))\/((1<=b/\b<=I)/\(m.T b).how=2/\(m.T b).km<=time/\∀u,1<=u->u<=I->(m.T u).how=2->(m.T u).km<=time->xw (m.T b) (m.T u))
theorem tO.no{i:Int}{I b:Nat}(h:tO m i I b)(hn:¬((m.T (I+1)).how=2/\(m.T (I+1)).km<=i)):tO m i (I+1) b:=by
 rcases h with⟨G,y⟩|⟨G,y,Y,W⟩
 .exact ag ⟨G,λu o Z=>by
   by_cases e:u=I+1
   .rw[e];exact hn
   exact y u o (by omega)⟩
 exact ab ⟨⟨G.1,by omega⟩,y,Y,λu o Z J H=>by
  by_cases e:u=I+1
  .subst e;exact ch ⟨J,H⟩ hn
  exact W u o (by omega) J H⟩
theorem tO.kU{i:Int}{I b:Nat}(h:tO m i I b)(J:b≠0)(hn:xw (m.T b) (m.T (I+1))):tO m i (I+1) b:=by
 rcases h with⟨o,y⟩|⟨o,y,Y,W⟩
 .exact ch o J
 exact ab ⟨⟨o.1,by omega⟩,y,Y,λu H u2 Z G=>by
  by_cases e:u=I+1
  .rw[e];exact hn
  exact W u H (by omega) Z G⟩
theorem tO.take{i:Int}{I b:Nat}(h:tO m i I b)(Z:(m.T (I+1)).how=2)(J:(m.T (I+1)).km<=i)(hb:b=0\/(m.T (I+1)).km<(m.T b).km\/((m.T (I+1)).km=(m.T b).km/\(m.T (I+1)).ji<(m.T b).ji)):tO m i (I+1) (I+1):=by
 refine ab ⟨⟨by omega,bj _⟩,Z,J,λu G u2 o y=>?_⟩;unfold xw;by_cases e:u=I+1
 .rw[e];exact ab ⟨rfl,bj _⟩
 rcases h with⟨Y,H⟩|⟨Y,H,h2,W⟩
 .exact ch ⟨o,y⟩ (H u G (by omega))
 have:=W u G (by omega) o y;unfold xw at this;omega
theorem Lw(h:dQ p m g w)(hn:m.nt≠0):Calls prog 143 #[P0 g.mb] w λe w'=>∃b:Nat,e=.returned (.int .i64 b)/\b<=m.nt/\Iw m b/\w.grownBy w' none:=by
 have C5:Hid (w.cell? ⟨g.mb,5,none⟩=some (.int .i64 m.eY)):=(h.mc 5 (by omega) rfl).1;obtain⟨tb,hb,hl,hm,hF⟩:=h.T hn;have c6:w.cell? ⟨g.mb,6,none⟩=some (.slice (some ⟨tb,0,none⟩) m.nt (g.ro 1 0).2):=by rw[<-hb];exact(h.mc 6 (by omega) rfl).1
 have aG:m.nt<=9223372036854775807:=by unfold maxLen at hm;omega
 have HF:=az hF;have lt:=hF.lt;clear hF hm hb hl h;generalize g.mb=rb at *;go_in;go_wp2_with fail
 go_loopw [3,4] (λn i wr=>∃(N I:Nat),n=.int .i64 N/\i=.int .i64 I/\I<=m.nt/\N<=I/\Hid (tO m m.eY I N)/\Hid (w.grownBy wr none)) (λ_ i _=>m.nt-(intOf i).toNat)
 case atStart=>exact⟨0,0,rfl,rfl,by omega,by omega,ag ⟨rfl,λu u1 u2=>by omega⟩,ax _ _⟩
 case round=>
  obtain⟨N,I,rfl,rfl,hI,hN,Z,Y⟩:=hrel;have hk:=λ(k:Nat) (hk:k<w.heap.size)=>Y.block k hk (by intro e;cases e);have d6:=(aw (a:=⟨rb,6,none⟩) (hk rb (av w _ c6))).trans c6;have d5:wr.cell? ⟨rb,5,none⟩=some (.int .i64 m.eY):=(aw (a:=⟨rb,5,none⟩) (hk rb (av w _ c6))).trans C5;have a6:=HF.block (hk tb lt);have aE:=a6.lt;have aI:rb<wr.heap.size:=av wr _ d6;clear hk;by_cases aF:I<m.nt
  .have hc:∀k,k<8->wr.cell? ⟨tb,I*8+k,none⟩=some (tC (m.T (I+1)) (iR m g 5 (I+1)) k):=λk hk=>(a6.cell (I*8+k) (by omega)).trans (congrArg some (pc m g (t:=I+1) (by omega) hk (by omega)));have aD:(I:Int)<m.nt:=by omega
   have a7:N≠0->wr.cell? ⟨tb,(N-1)*8+4,none⟩=some (.int .i64 (m.T N).km):=λh=>BY a6 h (by omega) (by omega);have a8:N≠0->wr.cell? ⟨tb,(N-1)*8+5,none⟩=some (.int .i64 ((m.T N).ji:Int)):=λh=>BY a6 h (by omega) (by omega);have c0:wr.cell? ⟨tb,I*8,none⟩=some (.slice (g.ro 5 (I+1)).1 (m.T (I+1)).fr.length (g.ro 5 (I+1)).2):=hc 0 (by omega);have c1:wr.cell? ⟨tb,I*8+1,none⟩=some (.int .i64 ((m.T (I+1)).how:Int)):=hc 1 (by omega);have c2:wr.cell? ⟨tb,I*8+2,none⟩=some (.int .i64 (m.T (I+1)).into):=hc 2 (by omega);have c3:wr.cell? ⟨tb,I*8+3,none⟩=some (.int .i64 ((m.T (I+1)).what:Int)):=hc 3 (by omega);have c4:wr.cell? ⟨tb,I*8+4,none⟩=some (.int .i64 (m.T (I+1)).km):=hc 4 (by omega);have c5:wr.cell? ⟨tb,I*8+5,none⟩=some (.int .i64 ((m.T (I+1)).ji:Int)):=hc 5 (by omega);have aH:wr.cell? ⟨tb,I*8+6,none⟩=some (.int .i64 ((m.T (I+1)).out.1:Int)):=hc 6 (by omega);have c7:wr.cell? ⟨tb,I*8+7,none⟩=some (.int .i64 (m.T (I+1)).out.2):=hc 7 (by omega);generalize (g.ro 5 (I+1)).1=a1 at *;generalize (g.ro 5 (I+1)).2=a2 at *;generalize hx:m.T (I+1)=x at *;clear hc a6;by_cases h1:x.how=2
   .by_cases h2:x.km<=m.eY
    .have j2:¬(m.eY<x.km):=by omega
     by_cases h3:N=0
     .have K:Hid (tO m m.eY (I+1) (I+1)):=Z.take (by rw[hx];exact h1) (by rw[hx];exact h2) (ag h3);clear Z;go_wp2_with fail
      obtain⟨W,J,f1,f3,f4,f5,lW,G,o⟩:=ke wr _ _ _ _ _ _ _ _;rw[J];have e5:=o _ _ d5;have y:=az (an Y G)
      clear J o G Y;go_quiet (fail)
      go_wp2_with fail
      go_quiet (fail)
      go_wp2_with fail
      go_roundw
      case rel=>exact⟨I+1,I+1,by go_num,by go_num,by omega,by omega,K,⟨y.os,y.tape,y.output,y.size,y.block⟩⟩
      case measure=>simp[intOf];omega
     have j3:¬((N:Int)=0):=by omega
     by_cases h4:x.km<(m.T N).km
     .skip
      have K:=az (Z.take (by rw[hx];exact h1) (by rw[hx];exact h2) (ab (ag (by rw[hx];exact h4))));clear Z;go_wp2_with fail
      obtain⟨W,J,f1,f3,f4,f5,lW,G,o⟩:=ke wr _ _ _ _ _ _ _ _;rw[J];have e6:=o _ _ d6;have e5:=o _ _ d5;have y:=az (an Y G)
      have a5:=o _ _ (a7 h3);have a4:=o _ _ (a8 h3)
      have aB:((N:Int) == 0)=false:=by simpa using j3
      have a3:IntKind.i64.wrap ((N:Int)-1)=((N-1:Nat):Int):=by simp[IntKind.wrap,IntKind.bits,IntKind.signed];omega
      have a0:N-1<m.nt:=by omega
      generalize N-1=M at a5 a4 a3 a0;have aA:(M:Int)<m.nt:=by omega
      clear J o G Y;go_quiet (fail)
      go_wp2_with fail
      go_quiet (fail)
      go_wp2_with fail
      go_roundw
      case rel=>exact⟨I+1,I+1,by go_num,by go_num,by omega,by omega,K,⟨y.os,y.tape,y.output,y.size,y.block⟩⟩
      case measure=>simp[intOf];omega
     by_cases h5:x.km=(m.T N).km
     .by_cases h6:x.ji<(m.T N).ji
      .have j6:(x.ji:Int)<((m.T N).ji:Int):=by omega
       have K:=az (Z.take (by rw[hx];exact h1) (by rw[hx];exact h2) (ab (ab (by rw[hx];exact⟨h5,h6⟩))));clear Z;go_wp2_with fail
       obtain⟨W,J,f1,f3,f4,f5,lW,G,o⟩:=ke wr _ _ _ _ _ _ _ _;rw[J];have e6:=o _ _ d6;have e5:=o _ _ d5;have y:=az (an Y G)
       have a5:=o _ _ (a7 h3);have a4:=o _ _ (a8 h3)
       have aB:((N:Int) == 0)=false:=by simpa using j3
       have a3:IntKind.i64.wrap ((N:Int)-1)=((N-1:Nat):Int):=by simp[IntKind.wrap,IntKind.bits,IntKind.signed];omega
       have a0:N-1<m.nt:=by omega
       generalize N-1=M at a5 a4 a3 a0;have aA:(M:Int)<m.nt:=by omega
       clear J o G Y;go_quiet (fail)
       go_wp2_with fail
       go_quiet (fail)
       go_wp2_with fail
       go_roundw
       case rel=>exact⟨I+1,I+1,by go_num,by go_num,by omega,by omega,K,⟨y.os,y.tape,y.output,y.size,y.block⟩⟩
       case measure=>simp[intOf];omega
      have j6:¬((x.ji:Int)<((m.T N).ji:Int)):=by omega
      have K:=az (Z.kU h3 (by rw[hx];unfold xw;omega));clear Z;go_wp2_with fail
      obtain⟨W,J,f1,f3,f4,f5,lW,G,o⟩:=ke wr _ _ _ _ _ _ _ _;rw[J];have e6:=o _ _ d6;have e5:=o _ _ d5;have y:=az (an Y G)
      have a5:=o _ _ (a7 h3);have a4:=o _ _ (a8 h3)
      have aB:((N:Int) == 0)=false:=by simpa using j3
      have a3:IntKind.i64.wrap ((N:Int)-1)=((N-1:Nat):Int):=by simp[IntKind.wrap,IntKind.bits,IntKind.signed];omega
      have a0:N-1<m.nt:=by omega
      generalize N-1=M at a5 a4 a3 a0;have aA:(M:Int)<m.nt:=by omega
      clear J o G Y;go_quiet (fail)
      go_wp2_with fail
      go_quiet (fail)
      go_wp2_with fail
      go_roundw
      case rel=>exact⟨N,I+1,by go_num,by go_num,by omega,by omega,K,⟨y.os,y.tape,y.output,y.size,y.block⟩⟩
      case measure=>simp[intOf];omega
     have b5:(x.km == (m.T N).km)=false:=by simpa using h5
     have d4:=fi h4;have K:=az (Z.kU h3 (by rw[hx];unfold xw;omega));clear Z;go_wp2_with fail
     obtain⟨W,J,f1,f3,f4,f5,lW,G,o⟩:=ke wr _ _ _ _ _ _ _ _;rw[J];have e6:=o _ _ d6;have e5:=o _ _ d5;have y:=az (an Y G)
     have a5:=o _ _ (a7 h3);have a4:=o _ _ (a8 h3)
     have aB:((N:Int) == 0)=false:=by simpa using j3
     have a3:IntKind.i64.wrap ((N:Int)-1)=((N-1:Nat):Int):=by simp[IntKind.wrap,IntKind.bits,IntKind.signed];omega
     have a0:N-1<m.nt:=by omega
     generalize N-1=M at a5 a4 a3 a0;have aA:(M:Int)<m.nt:=by omega
     clear J o G Y;go_quiet (fail)
     go_wp2_with fail
     go_quiet (fail)
     go_wp2_with fail
     go_roundw
     case rel=>exact⟨N,I+1,by go_num,by go_num,by omega,by omega,K,⟨y.os,y.tape,y.output,y.size,y.block⟩⟩
     case measure=>simp[intOf];omega
    have j2:m.eY<x.km:=by omega
    have K:=az (Z.no (by rw[hx];exact λe=>h2 e.2));clear Z;go_wp2_with fail
    obtain⟨W,J,f1,f3,f4,f5,lW,G,o⟩:=ke wr _ _ _ _ _ _ _ _;rw[J];have e5:=o _ _ d5;have y:=az (an Y G)
    clear J o G Y;go_quiet (fail)
    go_wp2_with fail
    go_roundw
    case rel=>exact⟨N,I+1,by go_num,by go_num,by omega,by omega,K,⟨y.os,y.tape,y.output,y.size,y.block⟩⟩
    case measure=>simp[intOf];omega
   have j1:¬((x.how:Int)=2):=by omega
   have aJ:((x.how:Int) != 2)=true:=by simpa using j1
   have K:=az (Z.no (by rw[hx];exact λe=>h1 e.1));clear Z;go_wp2_with fail
   obtain⟨W,J,f1,f3,f4,f5,lW,G,o⟩:=ke wr _ _ _ _ _ _ _ _;rw[J];have y:Hid (w.grownBy W none):=an Y G
   clear J o G Y;go_quiet (fail)
   go_wp2_with fail
   go_roundw
   case rel=>exact⟨N,I+1,by go_num,by go_num,by omega,by omega,K,⟨y.os,y.tape,y.output,y.size,y.block⟩⟩
   case measure=>simp[intOf];omega
  obtain rfl:I=m.nt:=by omega
  have aC:Hid (Iw m N):=by
   rcases Z with⟨h0,h1⟩|⟨h0,h1,h2,h3⟩
   .exact ag ⟨h0,λu hu=>h1 u hu.1 hu.2⟩
   exact ab ⟨h0,h1,h2,λu hu=>h3 u hu.1 hu.2⟩
  clear a6 Z d5;go_wp2_with fail
  go_ret;exact⟨N,rfl,by omega,aC,Y⟩
