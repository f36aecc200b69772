import Derived.Test.YtnjiinbhbjpfkaaGreatDoorKY
set_option maxRecDepth 100000
set_option maxHeartbeats 0
set_option linter.all false
namespace Go.Proofs.YtnjiinbhbjpfkaaGreatDoor
open Go.RowKit Go.Proofs.Tryz
namespace D
open F
variable {p : Dp} {m m' : Dm} {g g' : Dg} {w w' : World}
def Dg.oD(g:Dg)(t i b:Nat):Dg:={ g with rb:=λa c=>if a=t/\c=i then b else g.rb a c }
theorem ve(g:Dg)(t i b:Nat):(g.oD t i b).rb t i=b:=aj ⟨rfl,rfl⟩
theorem ph(g:Dg){t i a c:Nat}(b:Nat)(h:¬(a=t/\c=i)):(g.oD t i b).rb a c=g.rb a c:=aa h
theorem dQ.push(h:dQ p m g w){t:Nat}(ht:mF m t){tb kb ck vb:Nat}{f:gY}(hb:g.ro 1 0=(some ⟨tb,0,none⟩,(g.ro 1 0).2))(hO:dy (λk=>k=tb\/eO (g.ro 5 t).1=some k) w w')(hT:Full w' tb 167 ((g.ro 1 0).2*8) (m.nt*8) (ep (tE m g) ((t-1)*8) (.slice (some ⟨kb,0,none⟩) ((m.T t).fr.length+1) ck)))(hK:w'.ownsRow 0 163 4 (.slice (some ⟨kb,0,none⟩) ((m.T t).fr.length+1) ck) ((m.T t).fr.length+1) (rowP ((m.T t).fr.length*4) (fE p m g t)++[fC p f vb 0,fC p f vb 1,fC p f vb 2,fC p f vb 3]))(hV:Full w' vb 115 (p.rg f.f*2) (p.rg f.f*2) (eC f.R))(J:eO (g.ro 5 t).1=some kb\/w.heap.size<=kb)(hv:w.heap.size<=vb)(aA:kb≠vb):Tr p m g w (m.push t f) ((g.at 5 t (some ⟨kb,0,none⟩,ck)).oD t (m.T t).fr.length vb) w':=by
 have:=ht.1;have:=ht.2;obtain⟨b,G,h1,h2,h3⟩:=h.T (by omega);have a7:b=tb:=by rw[hb]at G;injection G with G;injection G with G _;exact G.symm
 subst a7;have a5:(m.push t f).T t=(m.T t).kD ((m.T t).fr++[f]):=fG _ _ _;have W:∀u,u≠t->(m.push t f).T u=m.T u:=λu e=>fA _ _ e;have Z:((m.push t f).T t).fr.length=(m.T t).fr.length+1:=by rw[a5];show((m.T t).fr++[f]).length=_;rw[bo];rfl
 have Y:∀y z,fj (m.push t f) y z=if y=t/\z=(m.T t).fr.length then f else fj m y z:=λy z=>by
  unfold fj;by_cases e:y=t
  .subst e;rw[a5];show((m.T y).fr++[f]).getD z mr=_;by_cases e2:z=(m.T y).fr.length
   .rw [aj ⟨rfl,e2⟩,e2,ar,dX (bj _)];simp
   rw [aa (λe=>e2 e.2),ar,ar];rcases Nat.lt_or_ge z (m.T y).fr.length with h|h
   .rw [du h]
   rw [cw (l:=(m.T y).fr) h,cw (by rw[bo];simp;omega)]
  rw [W y e,aa (λe'=>e e'.1)]
 have a9:∀x y z,¬(x=6/\y=t/\z=(m.T t).fr.length)->vd p (m.push t f) x y z=vd p m x y z:=λx y z hC=>by
  unfold vd;by_cases e:x=6
  .subst e;show decide (1<=y/\y<=m.nt/\z<((m.push t f).T y).fr.length)=decide (1<=y/\y<=m.nt/\z<(m.T y).fr.length);by_cases e2:y=t
   .subst e2;rw[Z];apply decide_eq_decide.2
    have:z≠(m.T y).fr.length:=λe=>hC ⟨rfl,rfl,e⟩;omega
   rw [W y e2]
  rw [aa e,aa e];rfl
 have v6:vd p (m.push t f) 6 t (m.T t).fr.length=true:=Az ht.1 ht.2 (by rw[Z];omega);have v5:vd p (m.push t f) 5 t 0=true:=pX ht.1 ht.2;refine h.to (λx y z=>(x=1/\y=0/\z=0)\/(x=5/\y=t/\z=0)\/(x=6/\y=t/\z=(m.T t).fr.length)) (λk=>if k=vb then(6,t,(m.T t).fr.length) else(5,t,0)) (hO.mono ?_) (λx y z hC=>jT (a9 x y z (λe=>hC (ab (ab e)))) (λa1=>?_)) ?_ ?_
 .rintro k (rfl|J) _
  .exact ⟨1,0,0,ag ⟨rfl,rfl,rfl⟩,((Bw p m hb) _).2 rfl⟩
  exact ⟨5,t,0,ab (ag ⟨rfl,rfl,rfl⟩),by rw[fP (pX ht.1 ht.2)];exact J⟩
 .refine ok_eq (e0:=λ_=>⟨rfl,CZ p m g t ((m.T t).kD ((m.T t).fr++[f])) (some ⟨kb,0,none⟩,ck)⟩) (er:=λa8=>?_) (eq:=λe=>⟨qG g _ (by omega),?_,?_⟩) (e6:=λe=>?_) (hx:=kG a1)
  .have a4:x≠1:=λe=>hC (ag ⟨e,jC a1 (by omega)⟩);have h5:¬(x=5/\y=t):=λe=>hC (ab (ag ⟨e.1,e.2,by have:=e.1;subst this;exact(uh a1).2.2⟩));refine⟨qG g _ h5,?_,?_⟩
   .unfold qz;by_cases e5:x=5
    .subst e5;show((m.push t f).T y).fr.length=(m.T y).fr.length;rw[W y (λe=>h5 ⟨rfl,e⟩)]
    rw [aa e5,aa e5];rfl
   unfold rC;rw[aa a4,aa a4];by_cases e3:x=3
   .rw [aj e3,aj e3];rfl
   rw[aa e3,aa e3];by_cases e4:x=4
   .rw [aj e4,aj e4];rfl
   rw[aa e4,aa e4];have e5:x=5:=by unfold Ey at a8;omega
   have a0:y≠t:=λe=>h5 ⟨e5,e⟩;rw[W y a0];refine iD (λi _=>?_);unfold fE;rw[Y,aa (λe=>a0 e.1),ph _ _ (λe=>a0 e.1)];rfl
  .unfold qz;rcases e with rfl|rfl<;>rfl
  .rcases e with rfl|rfl<;>rfl
  subst e;have hn:¬(y=t/\z=(m.T t).fr.length):=λe=>hC (ab (ab ⟨rfl,e⟩));rw[Y,aa hn,ph _ _ hn];exact⟨rfl,rfl,rfl⟩
 .rintro x y z (⟨rfl,rfl,rfl⟩|⟨rfl,rfl,rfl⟩|⟨rfl,rfl,rfl⟩)
  .show World.ownsRow _ 0 167 8 (.slice ((g.at 5 t (some ⟨kb,0,none⟩,ck)).ro 1 0).1 m.nt ((g.at 5 t (some ⟨kb,0,none⟩,ck)).ro 1 0).2) m.nt (rowP (m.nt*8) (tE (m.push t f) (g.at 5 t (some ⟨kb,0,none⟩,ck))));rw[qG g _ (by omega),G];refine mn h1 h2 (hT.congr (λi hi=>?_));have:=Cb m g ht.1 ((m.T t).fr++[f]) (some ⟨kb,0,none⟩,ck) i;rw[show((m.T t).fr++[f]).length=(m.T t).fr.length+1 by rw[bo];rfl]at this;exact this.symm
  .rw [fP v5];show World.ownsRow _ 0 163 4 (.slice ((g.at 5 y (some ⟨kb,0,none⟩,ck)).ro 5 y).1 ((m.push y f).T y).fr.length ((g.at 5 y (some ⟨kb,0,none⟩,ck)).ro 5 y).2) ((m.push y f).T y).fr.length (rowP (((m.push y f).T y).fr.length*4) (fE p (m.push y f) ((g.at 5 y (some ⟨kb,0,none⟩,ck)).oD y (m.T y).fr.length vb) y));rw[xS,Z];have a3:∀i k,k<4->fE p (m.push y f) ((g.at 5 y (some ⟨kb,0,none⟩,ck)).oD y (m.T y).fr.length vb) y (i*4+k)=if i=(m.T y).fr.length then fC p f vb k else fE p m g y (i*4+k):=λi k J=>by
    rw[tA _ _ _ _ J,tA _ _ _ _ J,Y];by_cases e:i=(m.T y).fr.length
    .rw [aj e,aj ⟨rfl,e⟩,e,ve]
    rw [aa e,aa (λe'=>e e'.2),ph _ _ (λe'=>e e'.2)];rfl
   rw[show((m.T y).fr.length+1)*4=(m.T y).fr.length*4+4 by omega,<-sA (n:=(m.T y).fr.length*4) (k:=4) (P:=fE p m g y) (ys:=[fC p f vb 0,fC p f vb 1,fC p f vb 2,fC p f vb 3]) (λj hj=>?_) rfl (λj hj=>?_)]
   .exact hK
   .have:=a3 (j / 4) (j % 4) (by omega);rw[show j / 4*4+j % 4=j by omega,aa (by omega)]at this;exact this
   rw [a3 _ _ hj,aj rfl];have hc:j=0\/j=1\/j=2\/j=3:=by omega
   rcases hc with rfl|rfl|rfl|rfl<;>rfl
  rw [fP v6];show Full w' (((g.at 5 y (some ⟨kb,0,none⟩,ck)).oD y (m.T y).fr.length vb).rb y (m.T y).fr.length) 115 (p.rg (fj (m.push y f) y (m.T y).fr.length).f*2) (p.rg (fj (m.push y f) y (m.T y).fr.length).f*2) (eC (fj (m.push y f) y (m.T y).fr.length).R);rw[Y,aj ⟨rfl,rfl⟩,ve];exact hV
 rintro x y z k (⟨rfl,rfl,rfl⟩|⟨rfl,rfl,rfl⟩|⟨rfl,rfl,rfl⟩) H
 .left
  have o:eO ((g.at 5 t (some ⟨kb,0,none⟩,ck)).ro 1 0).1=some k:=H;rw[qG g _ (by omega)]at o;exact o
 .rw [fP v5]at H;have o:eO ((g.at 5 y (some ⟨kb,0,none⟩,ck)).ro 5 y).1=some k:=H;rw[xS]at o;have a2:some kb=some k:=o;injection a2 with a2;subst a2;rcases J with J|J
  .left
   rw[fP (pX ht.1 ht.2)];exact J
  exact ab ⟨J,aa aA⟩
 rw [fP v6]at H;have o:k=((g.at 5 y (some ⟨kb,0,none⟩,ck)).oD y (m.T y).fr.length vb).rb y (m.T y).fr.length:=H;rw[ve]at o;subst o;exact ab ⟨hv,aj rfl⟩
def Dm.jw(m:Dm)(x:Dt):Dm:={ m with nt:=m.nt+1,T:=λt=>if t=m.nt+1 then x else m.T t }
theorem dQ.jw(h:dQ p m g w){tb tc kb vb:Nat}{x:Dt}{f:gY}(hx:x.fr=[f])(hO:dy (λk=>k=g.mb\/eO (g.ro 1 0).1=some k) w w')(hM:Full w' g.mb 112 24 24 (ep (mE p m g) 6 (.slice (some ⟨tb,0,none⟩) (m.nt+1) tc)))(hT:w'.ownsRow 0 167 8 (.slice (some ⟨tb,0,none⟩) (m.nt+1) tc) (m.nt+1) (rowP (m.nt*8) (tE m g)++[.slice (some ⟨kb,0,none⟩) 1 1,iK x.how,iK x.into,iK x.what,iK x.km,iK x.ji,iK x.out.1,iK x.out.2]))(hK:Full w' kb 163 4 4 (fC p f vb))(hV:Full w' vb 115 (p.rg f.f*2) (p.rg f.f*2) (eC f.R))(ht:eO (g.ro 1 0).1=some tb\/w.heap.size<=tb)(hk:w.heap.size<=kb)(hv:w.heap.size<=vb)(aE:kb≠vb)(aB:tb≠kb)(aC:tb≠vb):Tr p m g w (m.jw x) (((g.at 1 0 (some ⟨tb,0,none⟩,tc)).at 5 (m.nt+1) (some ⟨kb,0,none⟩,1)).oD (m.nt+1) 0 vb) w':=by
 have J:(m.jw x).T (m.nt+1)=x:=aj rfl;have a0:∀u,u≠m.nt+1->(m.jw x).T u=m.T u:=λu e=>aa e;have a9:∀y z,y≠m.nt+1->fj (m.jw x) y z=fj m y z:=λy z e=>by unfold fj;rw[a0 y e]
 have a2:fj (m.jw x) (m.nt+1) 0=f:=by unfold fj;rw[J,hx];rfl
 generalize H:((g.at 1 0 (some ⟨tb,0,none⟩,tc)).at 5 (m.nt+1) (some ⟨kb,0,none⟩,1)).oD (m.nt+1) 0 vb=g';have r1:g'.ro 1 0=(some ⟨tb,0,none⟩,tc):=by rw[<-H];exact(qG (g.at 1 0 (some ⟨tb,0,none⟩,tc)) (x:=5) (y:=m.nt+1) (some ⟨kb,0,none⟩,1) (by omega)).trans (xS _ _ _ _)
 have r5:g'.ro 5 (m.nt+1)=(some ⟨kb,0,none⟩,1):=by rw[<-H];exact xS _ _ _ _
 have ro:∀a b,¬(a=1/\b=0)->¬(a=5/\b=m.nt+1)->g'.ro a b=g.ro a b:=λa b e1 e2=>by rw[<-H];exact(qG _ _ e2).trans (qG _ _ e1)
 have a5:g'.rb (m.nt+1) 0=vb:=by rw[<-H];exact ve _ _ _ _
 have a6:∀a c,a≠m.nt+1->g'.rb a c=g.rb a c:=λa c e=>by rw[<-H];exact ph _ _ (λe'=>e e'.1)
 have a3:g'.mb=g.mb:=by rw[<-H];rfl
 have a7:g'.sb=g.sb:=by rw[<-H];rfl
 have a4:∀a b,a≠1->¬(a=5/\b=m.nt+1)->qz (m.jw x) a b=qz m a b:=λa b e1 e2=>by
  unfold qz;rw[aa e1,aa e1];by_cases Y:a=5
  .subst Y;show((m.jw x).T b).fr.length=(m.T b).fr.length;rw[a0 b (λe=>e2 ⟨rfl,e⟩)]
  rw [aa Y,aa Y];rfl
 have a1:∀a b,a≠1->¬(a=5/\b=m.nt+1)->iR (m.jw x) g' a b=iR m g a b:=λa b e1 e2=>by
  unfold iR;rw[ro a b (λe=>e1 e.1) e2,a4 a b e1 e2]
 have a8:iR (m.jw x) g' 1 0=.slice (some ⟨tb,0,none⟩) (m.nt+1) tc:=by
  unfold iR;rw[r1];rfl
 have aD:∀a b c,¬(a=5/\b=m.nt+1/\c=0)->¬(a=6/\b=m.nt+1/\c=0)->vd p (m.jw x) a b c=vd p m a b c:=λa b c e1 e2=>by
  unfold vd;by_cases Y:a=5
  .subst Y;show decide (1<=b/\b<=m.nt+1/\c=0)=decide (1<=b/\b<=m.nt/\c=0);apply decide_eq_decide.2
   have:¬(b=m.nt+1/\c=0):=λe=>e1 ⟨rfl,e⟩;omega
  rw[aa Y,aa Y];by_cases h6:a=6
  .subst h6;show decide (1<=b/\b<=m.nt+1/\c<((m.jw x).T b).fr.length)=decide (1<=b/\b<=m.nt/\c<(m.T b).fr.length);apply decide_eq_decide.2
   by_cases eb:b=m.nt+1
   .subst eb;rw[J,hx];have:c≠0:=λe=>e2 ⟨rfl,rfl,e⟩;show(1<=m.nt+1/\m.nt+1<=m.nt+1/\c<1)↔_;omega
   rw [a0 b eb];omega
  rw[aa h6,aa h6];rfl
 have v5:vd p (m.jw x) 5 (m.nt+1) 0=true:=pX (by omega) (bj _);have v6:vd p (m.jw x) 6 (m.nt+1) 0=true:=Az (by omega) (bj _) (by rw[J,hx];exact Nat.lt_succ_self 0)
 refine h.to (λa b c=>(a=0/\b=0/\c=0)\/(a=1/\b=0/\c=0)\/(a=5/\b=m.nt+1/\c=0)\/(a=6/\b=m.nt+1/\c=0)) (λk=>if k=vb then(6,m.nt+1,0) else if k=kb then(5,m.nt+1,0) else(1,0,0)) (hO.mono ?_) (λa b c hC=>jT (aD a b c (λe=>hC (ab (ab (ag e)))) (λe=>hC (ab (ab (ab e))))) (λZ=>?_)) ?_ ?_ a3
 .rintro k (rfl|hk) _
  .exact ⟨0,0,0,ag ⟨rfl,rfl,rfl⟩,rfl⟩
  exact ⟨1,0,0,ab (ag ⟨rfl,rfl,rfl⟩),hk⟩
 .have h1:a≠1:=λe=>hC (ab (ag ⟨e,jC Z (by omega)⟩));have Y:¬(a=5/\b=m.nt+1):=λe=>by
   obtain⟨rfl,rfl⟩:=e;have:=(uh Z).2.1;omega
  refine ok_eq (e0:=λe=>ch e (λe=>hC (ag ⟨e,jC Z (by omega)⟩))) (er:=λhr=>⟨ro a b (λe=>h1 e.1) Y,a4 a b h1 Y,?_⟩) (eq:=λe=>⟨ro a b (λe=>h1 e.1) Y,a4 a b h1 Y,?_⟩) (e6:=λe=>?_) (e7:=λ_=>⟨by rw[a7],rfl⟩) (hx:=kG Z)
  .unfold rC;rw[aa h1,aa h1];by_cases e3:a=3
   .rw [aj e3,aj e3];refine iD (λi _=>?_);unfold cE;rw[a7];rfl
   rw[aa e3,aa e3];by_cases e4:a=4
   .rw [aj e4,aj e4];rfl
   rw[aa e4,aa e4];have e5:a=5:=by unfold Ey at hr;omega
   have hb:b≠m.nt+1:=λe=>Y ⟨e5,e⟩;rw[a0 b hb];refine iD (λi _=>?_);unfold fE;rw[a9 b _ hb,a6 b _ hb]
  .unfold qC;rcases e with rfl|rfl<;>rfl
  subst e;have hb:b≠m.nt+1:=λe=>by
   have:=(wv Z).2.1;omega
  rw[a9 b _ hb,a6 b _ hb];exact⟨rfl,rfl,rfl⟩
 .rintro a b c (⟨rfl,rfl,rfl⟩|⟨rfl,rfl,rfl⟩|⟨rfl,rfl,rfl⟩|⟨rfl,rfl,rfl⟩)
  .show Full w' g'.mb 112 24 24 (mE p (m.jw x) g');rw[a3];refine hM.congr (λi hi=>?_);show(if i=6 then _ else _)=_;by_cases e6:i=6
   .subst e6;rw[aj rfl];exact a8.symm
   rw [aa e6];unfold mE;rw[aa e6,aa e6,a1 2 0 (by decide) (by omega),a1 10 _ (by decide) (by omega),a1 3 0 (by decide) (by omega),a1 4 0 (by decide) (by omega)];rfl
  .show World.ownsRow _ 0 167 8 (.slice (g'.ro 1 0).1 (m.nt+1) (g'.ro 1 0).2) (m.nt+1) (rowP ((m.nt+1)*8) (tE (m.jw x) g'));rw[r1,show(m.nt+1)*8=m.nt*8+8 by omega,<-sA (n:=m.nt*8) (k:=8) (P:=tE m g) (ys:=[.slice (some ⟨kb,0,none⟩) 1 1,iK x.how,iK x.into,iK x.what,iK x.km,iK x.ji,iK x.out.1,iK x.out.2]) (λj hj=>?_) rfl (λj hj=>?_)]
   .exact hT
   .unfold tE;rw[a0 _ (by omega),a1 5 _ (by decide) (by omega)]
   unfold tE;rw[show(m.nt*8+j) / 8+1=m.nt+1 by omega,show(m.nt*8+j) % 8=j by omega,J];have aA:iR (m.jw x) g' 5 (m.nt+1)=.slice (some ⟨kb,0,none⟩) 1 1:=by
    unfold iR;rw[r5];show Value.slice _ ((m.jw x).T (m.nt+1)).fr.length _=_;rw[J,hx];rfl
   rw[aA];have hc:j=0\/j=1\/j=2\/j=3\/j=4\/j=5\/j=6\/j=7:=by omega
   rcases hc with rfl|rfl|rfl|rfl|rfl|rfl|rfl|rfl<;>rfl
  .rw [fP v5];show World.ownsRow _ 0 163 4 (.slice (g'.ro 5 (m.nt+1)).1 ((m.jw x).T (m.nt+1)).fr.length (g'.ro 5 (m.nt+1)).2) ((m.jw x).T (m.nt+1)).fr.length (rowP (((m.jw x).T (m.nt+1)).fr.length*4) (fE p (m.jw x) g' (m.nt+1)));rw[r5,J,hx];refine mn (n:=1) (c:=1) (sz:=4) (bj _) (by unfold maxLen;omega) (hK.congr (λj hj=>?_));have:=tA p (m.jw x) g' (m.nt+1) (i:=0) (k:=j) hj;rw[Nat.zero_mul,Nat.zero_add]at this;rw[this,a2,a5]
  rw [fP v6];show Full w' (g'.rb (m.nt+1) 0) 115 (p.rg (fj (m.jw x) (m.nt+1) 0).f*2) (p.rg (fj (m.jw x) (m.nt+1) 0).f*2) (eC (fj (m.jw x) (m.nt+1) 0).R);rw[a2,a5];exact hV
 rintro a b c k (⟨rfl,rfl,rfl⟩|⟨rfl,rfl,rfl⟩|⟨rfl,rfl,rfl⟩|⟨rfl,rfl,rfl⟩) W
 .have:k=g'.mb:=W;exact ag (this.trans a3)
 .have o:eO (g'.ro 1 0).1=some k:=W;rw[r1]at o;have G:some tb=some k:=o;injection G with G;subst G;exact ht.imp id (λe=>⟨e,by rw[aa aC,aa aB]⟩)
 .rw [fP v5]at W;have o:eO (g'.ro 5 (m.nt+1)).1=some k:=W;rw[r5]at o;have G:some kb=some k:=o;injection G with G;subst G;exact ab ⟨hk,by rw[aa aE,aj rfl]⟩
 rw [fP v6]at W;have o:k=g'.rb (m.nt+1) 0:=W;rw[a5]at o;subst o;exact ab ⟨hv,aj rfl⟩
def Dm.lN(m:Dm)(ty:Nat)(l:List B.V):Dm:={ m with nc:=m.nc+1,M:=λc=>if c=m.nc+1 then l else m.M c,ck:=λc=>if c=m.nc+1 then ty else m.ck c }
def Dg.slt(g:Dg)(c b:Nat):Dg:={ g with sb:=λa=>if a=c then b else g.sb a }
theorem Tr.lN{m0:Dm}{g0:Dg}{w0:World}(h0:Tr p m0 g0 w0 m g w){cb cc J ty:Nat}{l:List B.V}(hO:dy (λk=>k=g.mb\/eO (g.ro 3 0).1=some k) w w')(hM:Full w' g.mb 112 24 24 (ep (mE p m g) 12 (.slice (some ⟨cb,0,none⟩) (m.nc+1) cc)))(hC:w'.ownsRow 0 233 2 (.slice (some ⟨cb,0,none⟩) (m.nc+1) cc) (m.nc+1) (rowP (m.nc*2) (cE m g)++[.slice (some ⟨J,0,none⟩) l.length l.length,iK ((ty:Int)-1)]))(hS:Full w' J 115 (l.length*2) (l.length*2) (eC (kT l)))(hc:eO (g.ro 3 0).1=some cb\/(¬ey p m g cb/\w0.heap.size<=cb))(hs:¬ey p m g J/\w0.heap.size<=J)(a7:cb≠J):Tr p m0 g0 w0 (m.lN ty l) ((g.at 3 0 (some ⟨cb,0,none⟩,cc)).slt (m.nc+1) J) w':=by
 have a3:(m.lN ty l).M (m.nc+1)=l:=aj rfl;have a4:∀u,u≠m.nc+1->(m.lN ty l).M u=m.M u:=λu e=>aa e;have a6:(m.lN ty l).ck (m.nc+1)=ty:=aj rfl;have a8:∀u,u≠m.nc+1->(m.lN ty l).ck u=m.ck u:=λu e=>aa e;generalize y:(g.at 3 0 (some ⟨cb,0,none⟩,cc)).slt (m.nc+1) J=g';have r3:g'.ro 3 0=(some ⟨cb,0,none⟩,cc):=by rw[<-y];exact xS g 3 0 (some ⟨cb,0,none⟩,cc)
 have ro:∀a b,¬(a=3/\b=0)->g'.ro a b=g.ro a b:=λa b o=>by rw[<-y];exact qG g (some ⟨cb,0,none⟩,cc) o
 have s1:g'.sb (m.nc+1)=J:=by rw[<-y];exact aj rfl
 have so:∀a,a≠m.nc+1->g'.sb a=g.sb a:=λa e=>by rw[<-y];exact aa e
 have Z:g'.mb=g.mb:=by rw[<-y];rfl
 have a2:g'.rb=g.rb:=by rw[<-y];rfl
 have a1:∀a b,a≠3->qz (m.lN ty l) a b=qz m a b:=λa b o=>by
  unfold qz;rw[aa o,aa o];rfl
 have G:∀a b,a≠3->iR (m.lN ty l) g' a b=iR m g a b:=λa b o=>by
  unfold iR;rw[ro a b (λe=>o e.1),a1 a b o]
 have a9:∀a b c,¬(a=7/\b=m.nc+1/\c=0)->vd p (m.lN ty l) a b c=vd p m a b c:=λa b c o=>by
  unfold vd;by_cases h7:a=7
  .subst h7;show decide (1<=b/\b<=m.nc+1/\c=0)=decide (1<=b/\b<=m.nc/\c=0);apply decide_eq_decide.2
   have:¬(b=m.nc+1/\c=0):=λe=>o ⟨rfl,e⟩;omega
  rw[aa h7,aa h7];rfl
 have v7:vd p (m.lN ty l) 7 (m.nc+1) 0=true:=Gw (by omega) (bj _);refine Tr.to (λa b c=>(a=0/\b=0/\c=0)\/(a=3/\b=0/\c=0)\/(a=7/\b=m.nc+1/\c=0)) (λk=>if k=J then(7,m.nc+1,0) else(3,0,0)) h0 (hO.mono ?_) (λa b c hC=>jT (a9 a b c (λe=>hC (ab (ab e)))) (λY=>?_)) ?_ ?_ Z
 .rintro k (rfl|hk) _
  .exact ⟨0,0,0,ag ⟨rfl,rfl,rfl⟩,rfl⟩
  exact ⟨3,0,0,ab (ag ⟨rfl,rfl,rfl⟩),hk⟩
 .have h0:a≠0:=λe=>hC (ag ⟨e,jC Y (by omega)⟩);have h3:a≠3:=λe=>hC (ab (ag ⟨e,jC Y (by omega)⟩));refine ok_eq (e0:=λe=>ch e h0) (er:=λhr=>⟨ro a b (λe=>h3 e.1),a1 a b h3,?_⟩) (eq:=λe=>⟨ro a b (λe=>h3 e.1),a1 a b h3,?_⟩) (e6:=λ_=>⟨by rw[a2],rfl,rfl⟩) (e7:=λe=>?_) (hx:=kG Y)
  .unfold rC;rw[aa h3,aa h3];by_cases o:a=1
   .rw [aj o,aj o];refine iD (λi _=>?_);unfold tE;rw[G 5 _ (by decide)];rfl
   rw[aa o,aa o];by_cases e4:a=4
   .rw [aj e4,aj e4];rfl
   rw[aa e4,aa e4];refine iD (λi _=>?_);unfold fE;rw[a2];rfl
  .unfold qC;rcases e with rfl|rfl<;>rfl
  subst e;have hb:b≠m.nc+1:=λe=>by
   have:=(zl Y).2.1;omega
  exact⟨so b hb,a4 b hb⟩
 .rintro a b c (⟨rfl,rfl,rfl⟩|⟨rfl,rfl,rfl⟩|⟨rfl,rfl,rfl⟩)
  .show Full w' g'.mb 112 24 24 (mE p (m.lN ty l) g');rw[Z];refine hM.congr (λi hi=>?_);show(if i=12 then _ else _)=_;by_cases e6:i=12
   .subst e6;rw[aj rfl];show _=Value.slice (g'.ro 3 0).1 (m.nc+1) (g'.ro 3 0).2;rw[r3]
   rw [aa e6];unfold mE;rw[aa e6,aa e6,G 1 0 (by decide),G 2 0 (by decide),G 10 _ (by decide),G 4 0 (by decide)];rfl
  .show World.ownsRow _ 0 233 2 (.slice (g'.ro 3 0).1 (m.nc+1) (g'.ro 3 0).2) (m.nc+1) (rowP ((m.nc+1)*2) (cE (m.lN ty l) g'));rw[r3,show(m.nc+1)*2=m.nc*2+2 by omega,<-sA (n:=m.nc*2) (k:=2) (P:=cE m g) (ys:=[.slice (some ⟨J,0,none⟩) l.length l.length,iK ((ty:Int)-1)]) (λj hj=>?_) rfl (λj hj=>?_)]
   .exact hC
   .unfold cE;rw[so _ (by omega),a4 _ (by omega),a8 _ (by omega)]
   unfold cE;rw[show(m.nc*2+j) / 2+1=m.nc+1 by omega,s1,a3,a6];have a5:j=0\/j=1:=by omega
   rcases a5 with rfl|rfl
   .rw [aj (by omega)];rfl
   rw [aa (by omega)];rfl
  rw [fP v7];show Full w' (g'.sb (m.nc+1)) 115 (((m.lN ty l).M (m.nc+1)).length*2) (((m.lN ty l).M (m.nc+1)).length*2) (eC (kT ((m.lN ty l).M (m.nc+1))));rw[s1,a3];exact hS
 rintro a b c k (⟨rfl,rfl,rfl⟩|⟨rfl,rfl,rfl⟩|⟨rfl,rfl,rfl⟩) W
 .have:k=g'.mb:=W;exact ag (this.trans Z)
 .have H:eO (g'.ro 3 0).1=some k:=W;rw[r3]at H;have a0:some cb=some k:=H;injection a0 with a0;subst a0;exact hc.imp id (λe=>⟨e.1,e.2,aa a7⟩)
 rw [fP v7]at W;have H:k=g'.sb (m.nc+1):=W;rw[s1]at H;subst H;exact ab ⟨hs.1,hs.2,aj rfl⟩
theorem Tryz.Fc:(prog.info? 167).map (λi=>(i.zero,i.size,i.bytes))=some (some (.agg #[.slice none 0 0,.int .i64 0,.int .i64 0,.int .i64 0,.int .i64 0,.int .i64 0,.int .i64 0,.int .i64 0]),8,80):=by kernel_rfl
theorem Tryz.underlying106:prog.underlying 106=some (.slice 167):=by kernel_rfl
def At(m:Dm)(g g1:Dg):Prop:=(∀t i,t<=m.nt->g1.rb t i=g.rb t i)/\g1.sb=g.sb
theorem Eu{b tb tc:Nat}{o2:Obj}{w2 w6 W:World}{f:gY}{x:Dt}(h:dQ p m g w)(Z:w.grownBy w2 none)(hx:x.fr=[f])(hV:Full w2 b 115 (p.rg f.f*2) (p.rg f.f*2) (eC f.R))(hb:w.heap.size<=b)(ho:w6.ownsRow 0 167 8 (.slice (some ⟨tb,0,none⟩) (m.nt+1) tc) (m.nt+1) (rowP (m.nt*8) (tE m g)++[.slice (some ⟨w2.heap.size,0,none⟩) 1 1,iK x.how,iK x.into,iK x.what,iK x.km,iK x.ji,iK x.out.1,iK x.out.2]))(o:W.grownBy w6 (Value.slice (g.ro 1 0).1 m.nt (g.ro 1 0).2).ownBlock)(a6:jE W.heap.size (.slice (g.ro 1 0).1 m.nt (g.ro 1 0).2) (.slice (some ⟨tb,0,none⟩) (m.nt+1) tc))(hW:W.heap=((w2.alloc (.cells #[fC p f b 0,fC p f b 1,fC p f b 2,fC p f b 3] 163)).alloc o2).heap)(J:W.os=w2.os/\W.tape=w2.tape/\W.output=w2.output): ∃g1,Tr p m g w (m.jw x) g1 (w6.setCell ⟨g.mb,6,none⟩ (.slice (some ⟨tb,0,none⟩) (m.nt+1) tc))/\At m g g1:=by
 have h2:=h.kept Z;have a2:(Value.slice (g.ro 1 0).1 m.nt (g.ro 1 0).2).ownBlock=eO (g.ro 1 0).1:=dr _ _ _;rw[a2]at o;have a9:W.heap.size=w2.heap.size+2:=by rw[hW];simp
 have u:∀k,eO (g.ro 1 0).1=some k->k<w.heap.size/\k≠g.mb:=λk H=>⟨h.lt ⟨1,0,0,H⟩,h.ne (x:=1) (y:=0) (z:=0) (x':=0) (y':=0) (z':=0) rfl rfl H rfl (by omega)⟩;have aA:=Z.size;have Y:∀k,k<w2.heap.size->eO (g.ro 1 0).1≠some k->w6.heap[k]? = w2.heap[k]?:=λk H hn=>by
  rw[o.block k (by omega) (λe=>hn e.symm),hW,ak _ _ _ (by simp;omega),ak _ _ _ H]
 have a7:w6.heap[w2.heap.size]? = some (.cells #[fC p f b 0,fC p f b 1,fC p f b 2,fC p f b 3] 163 (0,0)):=by
  rw[o.block w2.heap.size (by omega) (λe=>by have:=(u _ e.symm).1;omega),hW,ak _ _ _ (by simp)];exact bf _ _
 have a5:g.mb<w2.heap.size:=h2.M.lt;have a0:=h2.M.block (Y g.mb a5 (λe=>(u _ e).2 rfl))
 have a1:=hV.block (Y b hV.lt (λe=>by have:=(u _ e).1;omega));have G:eO (g.ro 1 0).1=some tb\/W.heap.size<=tb:=by
  rcases a6 with e|⟨b',e1,e2⟩
  .left
   rw[<-a2,<-e];rfl
  right
  have:tb=b':=by injection e1
  omega
 have a4:tb≠g.mb:=by
  rcases G with e|e
  .exact(u _ e).2
  omega
 refine⟨_,h.jw hx (kb:=w2.heap.size) (vb:=b) (tb:=tb) (tc:=tc) (f:=f) (bm (S:=λk=>k=g.mb\/eO (g.ro 1 0).1=some k) (a:=⟨g.mb,6,none⟩) ⟨o.os.trans (J.1.trans Z.os),o.tape.trans (J.2.1.trans Z.tape),o.output.trans (J.2.2.trans Z.output),by have:=o.size;omega,λk H hn=>(Y k (by omega) (λe=>hn (ab e))).trans (Z.block k H (by intro e;cases e))⟩ (ag (ag rfl)) _) (a0.ep 6 _) ?_ ?_ ?_ (G.imp id (λe=>by omega)) (by omega) hb ?_ ?_ ?_,λt i ht=>ph _ _ (λe=>by omega),rfl⟩
 .exact dD ho (λk H=>af _ _ _ _ (by
   have:k=tb:=by simpa[Value.ownBlock] using H.symm
   rw[this];exact a4))
 .have hF:Full w6 w2.heap.size 163 4 4 (fC p f b):=⟨_,a7,rfl,λj hj=>by
   have hc:j=0\/j=1\/j=2\/j=3:=by omega
   rcases hc with rfl|rfl|rfl|rfl<;>rfl⟩
  exact hF.off (by omega)
 .exact a1.off (a1.ne a0 (by decide))
 .have:=hV.lt;omega
 .rcases G with e|e
  .have:=(u _ e).1;omega
  omega
 rcases G with e|e
 .have:=(u _ e).1;omega
 have:=hV.lt;omega
theorem GN{f:Nat}{u v:B.V}(h:dQ p m g w)(hf:f<p.nf)(hr:2<=p.rg f)(aT:p.rg f<=8)(hn:m.nt<1000000000)(hq:m.q.length<=1000000000): Calls prog 47 #[P0 g.mb,.int .i64 f,vA u,vA v] w λe w'=>e=.returned (.int .i64 ((m.nt:Int)+1))/\∃g',Tr p m g w (m.born f u v) g' w'/\At m g g':=by
 obtain⟨i0,hi,aL,aE,aC⟩:=info_parts Tryz.Fc;obtain⟨j0,i,aU,aM,aV⟩:=info_parts Tryz.qk;have c0:w.cell? ⟨g.mb,0,none⟩=some (.slice (some ⟨p.gb,0,none⟩) p.nf p.gc):=(h.mc 0 (by omega) rfl).1;have hP:=h.P.2.2;have c1:w.cell? ⟨p.gb,f*2,none⟩=some (.int .i64 (p.rg f:Int)):=by
  rw[hP.cell (f*2) (by omega)];unfold JC;rw[aj (by omega),show f*2 / 2=f by omega]
 have lm:g.mb<w.heap.size:=h.M.lt;have HR:=az h;have a5:Hid (∀w1,w.grownBy w1 none->Calls prog 74 #[P0 g.mb,.int .i64 f,vA u,vA v,.int .i64 0] w1 λe w'=>∃b,e=.returned (.agg #[.int .i64 f,.slice (some ⟨b,0,none⟩) (p.rg f) (p.rg f),.int .i64 0,.int .i64 0])/\w1.heap.size<=b/\Full w' b 115 (p.rg f*2) (p.rg f*2) (eC (gh u v))/\w1.grownBy w' none):=λw1 W=>xL ((bh W (a:=⟨g.mb,0,none⟩) lm).1.trans c0) ((bh W (a:=⟨p.gb,f*2,none⟩) hP.lt).1.trans c1) hf hr aT;obtain⟨u1,u2⟩:=u;obtain⟨v1,v2⟩:=v;clear h hP c0 c1;go_in;go_wp2_with fail
 refine(a5 _ (au (au (ax _ _) _) _)).mono ?_;rintro e w1 ⟨b,rfl,hb,hV,W⟩;have hg:w.grownBy w1 none:=an (au (au (ax _ _) _) _) W;have aQ:w.heap.size<=b:=by simp at hb;omega
 have HV:=az hV;have HG:=az hg;clear hV W hb a5;go_wp2_with fail
 have KG:Hid (w.grownBy (w1.alloc (.cells #[.int .i64 f,.slice (some ⟨b,0,none⟩) (p.rg f) (p.rg f),.int .i64 0,.int .i64 0] 163)) none):=au HG _;have Y:=bf w1 (.cells #[.int .i64 f,.slice (some ⟨b,0,none⟩) (p.rg f) (p.rg f),.int .i64 0,.int .i64 0] 163);have aB:Hid (Full (w1.alloc (.cells #[.int .i64 f,.slice (some ⟨b,0,none⟩) (p.rg f) (p.rg f),.int .i64 0,.int .i64 0] 163)) b 115 (p.rg f*2) (p.rg f*2) (eC (gh (u1,u2) (v1,v2)))):=HV.block (ak _ _ _ HV.lt);have aW:w1.heap.size<(w1.alloc (.cells #[.int .i64 f,.slice (some ⟨b,0,none⟩) (p.rg f) (p.rg f),.int .i64 0,.int .i64 0] 163)).heap.size:=by simp
 generalize w1.alloc (.cells #[.int .i64 f,.slice (some ⟨b,0,none⟩) (p.rg f) (p.rg f),.int .i64 0,.int .i64 0] 163)=w2 at *;have x0:w2.cell? ⟨w1.heap.size,0,none⟩=some (.int .i64 f):=by simp[World.cell?,Y]
 have x1:w2.cell? ⟨w1.heap.size,1,none⟩=some (.slice (some ⟨b,0,none⟩) (p.rg f) (p.rg f)):=by simp[World.cell?,Y]
 have x2:w2.cell? ⟨w1.heap.size,2,none⟩=some (.int .i64 0):=by simp[World.cell?,Y]
 have x3:w2.cell? ⟨w1.heap.size,3,none⟩=some (.int .i64 0):=by simp[World.cell?,Y]
 have Z:=az (HR.kept KG);obtain⟨c6,z6⟩:=Z.mc 6 (by omega) (v:=.slice (g.ro 1 0).1 m.nt (g.ro 1 0).2) rfl;have a6:=Z.M.lt;have HT:Hid (w2.ownsRow 0 167 8 (.slice (g.ro 1 0).1 m.nt (g.ro 1 0).2) m.nt (rowP (m.nt*8) (tE m g))):=Z.Tw;have a0:Hid (∀k,(Value.slice (g.ro 1 0).1 m.nt (g.ro 1 0).2).ownBlock=some k->k≠g.mb/\k<w2.heap.size):=λk hk=>⟨eL HT Z.M (by decide) k hk,(dA HT k hk).2.1⟩;clear Y aW;go_cut [] (λwx=>Hid (∃g1,Tr p m g w (m.jw ⟨[⟨f,0,gh (u1,u2) (v1,v2),(0,0,0,0)⟩],1,0,0,0,0,(0,0)⟩) g1 wx/\At m g g1))
 case first=>
  go_region_law (refine eS _ rfl (.tmp 19) (.tmp 23) 106 rfl 167 i0 _ 8 80 Tryz.underlying106 hi aL aE aC rfl (by decide) (g.ro 1 0).1 m.nt (g.ro 1 0).2 (rowP (m.nt*8) (tE m g)) (by first|rfl|simp[Act.eval,Act.put]) (dD HT (λk h=>(ak _ _ _ (by have:=(a0 k h).2;simp;omega)).trans (ak _ _ _ (a0 k h).2))) ⟨w2.heap.size+1,0,none⟩ 1 1 [.slice (some ⟨w2.heap.size,0,none⟩) 1 1,.int .i64 1,.int .i64 0,.int .i64 0,.int .i64 0,.int .i64 0,.int .i64 0,.int .i64 0] (by first|rfl|simp[Act.eval,Act.put]) rfl (by intro j u i;match j,i with|0,i=>(simp at i;subst i;simp[Addr.add,go_sem])|1,i=>(simp at i;subst i;simp[Addr.add,go_sem])|2,i=>(simp at i;subst i;simp[Addr.add,go_sem])|3,i=>(simp at i;subst i;simp[Addr.add,go_sem])|4,i=>(simp at i;subst i;simp[Addr.add,go_sem])|5,i=>(simp at i;subst i;simp[Addr.add,go_sem])|6,i=>(simp at i;subst i;simp[Addr.add,go_sem])|7,i=>(simp at i;subst i;simp[Addr.add,go_sem])) (by simp[Value.oneCell']) (by unfold maxLen;omega) (by omega) (by decide) ?_;intro v' w6 ho G a7;obtain⟨tb,tc,rfl⟩:=dM ho (by omega);have aI:=az ho;have a4:=az G;have aG:=az a7;have H:w6.heap[g.mb]? = w2.heap[g.mb]?:=((G.block g.mb (by first|(simp;omega)|simp) (λh=>(a0 _ h.symm).1 rfl)).trans ((ak _ _ _ (by first|(simp;omega)|simp)).trans (ak _ _ _ a6)));have d6:=(aw (a:=⟨g.mb,6,none⟩) H).trans c6;have y6:=(dg (a:=⟨g.mb,6,none⟩) H).trans z6;clear H ho G a7)
  all_goals
   go_wp2_with fail
   go_meet
   case rel=>
    exact Eu (x:=⟨[⟨f,0,gh (u1,u2) (v1,v2),(0,0,0,0)⟩],1,0,0,0,0,(0,0)⟩) (f:=⟨f,0,gh (u1,u2) (v1,v2),(0,0,0,0)⟩) HR KG rfl aB.out aQ aI.out a4.out aG.out rfl ⟨rfl,rfl,rfl⟩
 case rest=>
  have o:=hcut;obtain⟨g1,J,a9⟩:=o.out;have aK:=az a9;clear a9;obtain⟨aN,aH⟩:=J.r.mc 6 (by omega) (v:=.slice (g1.ro 1 0).1 (m.nt+1) (g1.ro 1 0).2) rfl;obtain⟨c7,z7⟩:=J.r.mc 7 (by omega) (v:=.slice (g1.ro 2 0).1 m.q.length (g1.ro 2 0).2) rfl;rw[J.b]at aN aH c7 z7;have HQ:Hid (fM wc 3 (.slice (g1.ro 2 0).1 m.q.length (g1.ro 2 0).2) (iI m.q)):=J.r.Q;have a1:=az J;have aD:g.mb<wc.heap.size:=by have:=J.r.M.lt;rw[J.b]at this;exact this
  have HK:Hid (∀k,(Value.slice (g1.ro 2 0).1 m.q.length (g1.ro 2 0).2).ownBlock=some k->k≠g.mb/\k<wc.heap.size):=λk hk=>by
   have aJ:eO (g1.ro 2 0).1=some k:=by rw[dr]at hk;exact hk
   refine⟨?_,HQ.out.lt k hk⟩;rw[<-a1.out.b];exact a1.out.r.ne (x:=2) (y:=0) (z:=0) (x':=0) (y':=0) (z':=0) rfl rfl aJ rfl (by omega)
  have aY:=iH m.q;clear J hcut o c6 z6 HT a0 Z aB x0 x1 x2 x3 a6;go_wp2_with fail
  go_cut [] (λwx=>Hid (∃g2,Tr p m g w (m.born f (u1,u2) (v1,v2)) g2 wx/\At m g g2))
  case first=>
   go_region_law (refine oz _ rfl (.tmp 31) (.tmp 37) 54 rfl 3 j0 _ 8 Tryz.g9 i aU aM aV rfl _ (iI m.q) (by first|rfl|simp[Act.eval,Act.put]) (HQ.out.block (λk h=>ak _ _ _ (HK.out k h).2)) ⟨wc.heap.size,0,none⟩ 1 (.int .i64 ((m.nt:Int)+1)) (by first|rfl|simp[Act.eval,Act.put]) (by simp[Addr.add,go_sem]) rfl (by unfold maxLen;omega) (by omega) ?_;intro gb aX c' w6 aA G a3;have aF:=az aA;have a4:=az G;have aS:=az a3;have H:w6.heap[g.mb]? = wc.heap[g.mb]?:=((G.block g.mb (by first|(simp;omega)|simp) (λh=>(HK.out _ h.symm).1 rfl)).trans (ak _ _ _ aD));have d7:=(aw (a:=⟨g.mb,7,none⟩) H).trans c7;have y7:=(dg (a:=⟨g.mb,7,none⟩) H).trans z7;clear H aA G a3)
   all_goals
    go_wp2_with fail
    go_meet
    case rel=>
     have hq:=aF.out;rw[iH]at hq;have h2:=Tr.qv (t:=m.nt+1) (a1.out.kept (bq (ah wc (.cells #[.int .i64 ((m.nt:Int)+1)] 3) none))) hq a4.out aS.out;rw[a1.out.b]at h2;exact⟨_,h2,aK.out⟩
  case rest=>
   have o:=hcut;obtain⟨g2,a2,a8⟩:=o.out;have aP:=az a8;clear a8;obtain⟨d6,_⟩:=a2.r.mc 6 (by omega) (v:=.slice (g2.ro 1 0).1 (m.nt+1) (g2.ro 1 0).2) rfl;rw[a2.b]at d6;have aR:=az a2;clear a2 hcut o;go_wp2_with fail
   go_ret;exact⟨rfl,g2,aR.out,aP.out⟩
abbrev jY(op a b c:Nat):Value:=.agg #[.int .i64 (op:Int),.int .i64 (a:Int),.int .i64 (b:Int),.int .i64 (c:Int)]
theorem Iz{rb nr:Nat}{R:Nat->B.V}(h:Full w rb 115 (nr*2) (nr*2) (eC R)){a:Nat}(o:a<nr):w.cell? ⟨rb,a*2,none⟩=some (.int .i64 ((R a).1:Int))/\w.cell? ⟨rb,a*2+1,none⟩=some (.int .i64 (R a).2)/\w.frozen? ⟨rb,a*2,none⟩=false/\w.frozen? ⟨rb,a*2+1,none⟩=false:=by
 obtain⟨c0,e⟩:=h.cells (a*2) (by omega);obtain⟨c1,i⟩:=h.cells (a*2+1) (by omega);unfold eC at c0 c1;rw[aj (by omega),show a*2 / 2=a by omega]at c0;rw[aa (by omega),show(a*2+1) / 2=a by omega]at c1;exact⟨c0,c1,e,i⟩
theorem dQ.cc(h:dQ p m g w){c:Nat}(H:1<=c)(G:c<=m.nc):∃e,(g.ro 3 0).1=some ⟨e,0,none⟩/\e<w.heap.size/\w.cell? ⟨g.mb,12,none⟩=some (.slice (some ⟨e,0,none⟩) m.nc (g.ro 3 0).2)/\w.cell? ⟨e,(c-1)*2,none⟩=some (.slice (some ⟨g.sb c,0,none⟩) (m.M c).length (m.M c).length)/\w.cell? ⟨e,(c-1)*2+1,none⟩=some (.int .i64 ((m.ck c:Int)-1)):=by
 obtain⟨b,o,u,y,i⟩:=h.C (by omega);have k0:=i.cell ((c-1)*2) (by omega);have k1:=i.cell ((c-1)*2+1) (by omega);unfold cE at k0 k1;rw[aj (by omega),show(c-1)*2 / 2+1=c by omega]at k0;rw[aa (by omega),show((c-1)*2+1) / 2+1=c by omega]at k1;refine⟨b,o,i.lt,?_,k0,k1⟩;rw[<-o];exact(h.mc 12 (by omega) rfl).1
theorem Cr{rb t i nr op a b c:Nat}{v1:Int}(J:b<nr)(r0:w.cell? ⟨i,b*2,none⟩=some (.int .i64 0))(W:w.cell? ⟨i,b*2+1,none⟩=some (.int .i64 v1)): Calls prog 227 #[P0 rb,.int .i64 t,.slice (some ⟨i,0,none⟩) nr nr,jY op a b c] w λe w'=>e=.returned (.int .i64 4)/\w.grownBy w' none:=by
 have G:i<w.heap.size:=av w _ r0;have y:(b:Int)<nr:=by omega
 go_in;go_wp2_with fail
 have u:Hid (w.grownBy ((w.alloc (.cells #[.int .i64 op,.int .i64 a,.int .i64 b,.int .i64 c] 90)).alloc (.cells #[.int .i64 0,.int .i64 v1] 115)) none):=au (au (ax _ _) _) _;have H:((w.alloc (.cells #[.int .i64 op,.int .i64 a,.int .i64 b,.int .i64 c] 90)).alloc (.cells #[.int .i64 0,.int .i64 v1] 115)).cell? ⟨w.heap.size+1,0,none⟩=some (.int .i64 0):=by simp[go_sem]
 generalize (w.alloc (.cells #[.int .i64 op,.int .i64 a,.int .i64 b,.int .i64 c] 90)).alloc (.cells #[.int .i64 0,.int .i64 v1] 115)=w2 at *;go_quiet (fail)
 go_wp2_with fail
 go_ret;exact⟨rfl,db u _⟩
structure LN(w:World) (rb rr nr b c z cb nc cc sN sl:Nat) (v1 u1:Int) (x y:B.V):Prop where
 hb:b<nr
 hc:c<nr
 hz:z<nc
 hn:nc<1000000000
 r0:w.cell? ⟨rr,b*2,none⟩=some (.int .i64 ((z:Int)+1))
 r1:w.cell? ⟨rr,b*2+1,none⟩=some (.int .i64 v1)
 BL:w.cell? ⟨rb,12,none⟩=some (.slice (some ⟨cb,0,none⟩) nc cc)
 k0:w.cell? ⟨cb,z*2,none⟩=some (.slice (some ⟨sN,0,none⟩) sl sl)
 k1:w.cell? ⟨cb,z*2+1,none⟩=some (.int .i64 u1)
 lr:rr<w.heap.size
 lb:rb<w.heap.size
 lc:cb<w.heap.size
theorem Cq{rb t o nr op a b c z cb H cc sN sl:Nat}{v1 G:Int}{x y:B.V}(h:LN w rb o nr b c z cb H cc sN sl v1 G x y)(hu:G<0): Calls prog 227 #[P0 rb,.int .i64 t,.slice (some ⟨o,0,none⟩) nr nr,jY op a b c] w λe w'=>e=.returned (.int .i64 4)/\w.grownBy w' none:=by
 obtain⟨hb,hc,hz,hn,W,r1,i,k0,k1,lr,Z,Y⟩:=h;have a0:(b:Int)<nr:=by omega
 have q1:IntKind.i64.wrap ((z:Int)+1-1)=(z:Int):=fp (by omega);have q2:IntKind.i64.wrap (z:Int)=z:=by rw[bl,bd _ (by omega)]
 have q3:(z:Int)<H:=by omega
 have q4:(0:Int)<=z:=by omega
 have q5:(((z:Int)+1) == 0)=false:=by rw[dK];omega
 go_in;go_wp2_with fail
 have u:Hid (w.grownBy ((w.alloc (.cells #[.int .i64 op,.int .i64 a,.int .i64 b,.int .i64 c] 90)).alloc (.cells #[.int .i64 ((z:Int)+1),.int .i64 v1] 115)) none):=au (au (ax _ _) _) _;have x0:((w.alloc (.cells #[.int .i64 op,.int .i64 a,.int .i64 b,.int .i64 c] 90)).alloc (.cells #[.int .i64 ((z:Int)+1),.int .i64 v1] 115)).cell? ⟨w.heap.size+1,0,none⟩=some (.int .i64 ((z:Int)+1)):=by simp[go_sem]
 generalize (w.alloc (.cells #[.int .i64 op,.int .i64 a,.int .i64 b,.int .i64 c] 90)).alloc (.cells #[.int .i64 ((z:Int)+1),.int .i64 v1] 115)=w2 at *;have a1:=(bh u (a:=⟨rb,12,none⟩) Z).1.trans i;have d1:=(bh u (a:=⟨cb,z*2+1,none⟩) Y).1.trans k1;go_quiet (fail)
 go_wp2_with fail
 go_ret;exact⟨rfl,db u _⟩
structure Kl(w w2:World) (rb rr op a b c z cb nc cc sN sl:Nat) (v1 u1:Int):Prop where
 g:w.grownBy w2 none
 i0:w2.cell? ⟨w.heap.size,0,none⟩=some (.int .i64 (op:Int))
 i1:w2.cell? ⟨w.heap.size,1,none⟩=some (.int .i64 (a:Int))
 i3:w2.cell? ⟨w.heap.size,3,none⟩=some (.int .i64 (c:Int))
 x0:w2.cell? ⟨w.heap.size+1,0,none⟩=some (.int .i64 ((z:Int)+1))
 d12:w2.cell? ⟨rb,12,none⟩=some (.slice (some ⟨cb,0,none⟩) nc cc)
 d0:w2.cell? ⟨cb,z*2,none⟩=some (.slice (some ⟨sN,0,none⟩) sl sl)
 d1:w2.cell? ⟨cb,z*2+1,none⟩=some (.int .i64 u1)
 s:w.heap.size+1<w2.heap.size
theorem Kl.drewN{w2:World}{rb e op a b c z cb u cc o sl:Nat}{v1 i:Int}(h:Kl w w2 rb e op a b c z cb u cc o sl v1 i)(n:Nat):Kl w (w2.drewN n) rb e op a b c z cb u cc o sl v1 i:=⟨db h.g n,h.i0,h.i1,h.i3,h.x0,h.d12,h.d0,h.d1,h.s⟩
theorem Mr{rb i nr op a b c z cb u cc G sl:Nat}{v1 o:Int}{x y:B.V}(h:LN w rb i nr b c z cb u cc G sl v1 o x y):Kl w ((w.alloc (.cells #[.int .i64 op,.int .i64 a,.int .i64 b,.int .i64 c] 90)).alloc (.cells #[.int .i64 ((z:Int)+1),.int .i64 v1] 115)) rb i op a b c z cb u cc G sl v1 o:=by
 have e:w.grownBy ((w.alloc (.cells #[.int .i64 op,.int .i64 a,.int .i64 b,.int .i64 c] 90)).alloc (.cells #[.int .i64 ((z:Int)+1),.int .i64 v1] 115)) none:=au (au (ax _ _) _) _;exact⟨e,by simp[go_sem],by simp[go_sem],by simp[go_sem],by simp[go_sem],(bh e (a:=⟨rb,12,none⟩) h.lb).1.trans h.BL,(bh e (a:=⟨cb,z*2,none⟩) h.lc).1.trans h.k0,(bh e (a:=⟨cb,z*2+1,none⟩) h.lc).1.trans h.k1,by simp⟩
def L4(w2 wx:World)(X sN sl:Nat)(u1:Int):Prop:=w2.grownBy wx none/\wx.cell? ⟨X,0,none⟩=some (.slice (some ⟨sN,0,none⟩) sl sl)/\wx.cell? ⟨X,1,none⟩=some (.int .i64 u1)/\w2.heap.size<=X
theorem Mq(e:World)(o sl:Nat)(i:Int):L4 e ((e.alloc (.cells #[.slice (some ⟨o,0,none⟩) sl sl,.int .i64 i] 233)).drew) e.heap.size o sl i:=
 ⟨bq (ah _ _ none),(by simp[go_sem]),(by simp[go_sem]),bj _⟩
theorem Tryz.Fe:(prog.info? 163).map (λi=>(i.zero,i.size,i.bytes))=some (some (.agg #[.int .i64 0,.slice none 0 0,.int .i64 0,.int .i64 0]),4,48):=by kernel_rfl
theorem Tryz.underlying165:prog.underlying 165=some (.slice 163):=by kernel_rfl
theorem GY{t b tb kb ck:Nat}{o2:Obj}{w2 w6 W:World}{f:gY}(h:dQ p m g w)(ht:mF m t)(hb:g.ro 1 0=(some ⟨tb,0,none⟩,(g.ro 1 0).2))(hg:w.grownBy w2 none)(hV:Full w2 b 115 (p.rg f.f*2) (p.rg f.f*2) (eC f.R))(a5:w.heap.size<=b)(ho:w6.ownsRow 0 163 4 (.slice (some ⟨kb,0,none⟩) ((m.T t).fr.length+1) ck) ((m.T t).fr.length+1) (rowP ((m.T t).fr.length*4) (fE p m g t)++[fC p f b 0,fC p f b 1,fC p f b 2,fC p f b 3]))(o:W.grownBy w6 (Value.slice (g.ro 5 t).1 (m.T t).fr.length (g.ro 5 t).2).ownBlock)(a6:jE W.heap.size (.slice (g.ro 5 t).1 (m.T t).fr.length (g.ro 5 t).2) (.slice (some ⟨kb,0,none⟩) ((m.T t).fr.length+1) ck))(hW:W.heap=(w2.alloc o2).heap)(Y:W.os=w2.os/\W.tape=w2.tape/\W.output=w2.output): ∃g1,Tr p m g w (m.push t f) g1 (w6.setCell ⟨tb,(t-1)*8,none⟩ (.slice (some ⟨kb,0,none⟩) ((m.T t).fr.length+1) ck)):=by
 have:=ht.1;have:=ht.2;have a2:(Value.slice (g.ro 5 t).1 (m.T t).fr.length (g.ro 5 t).2).ownBlock=eO (g.ro 5 t).1:=dr _ _ _;rw[a2]at o;have a8:W.heap.size=w2.heap.size+1:=by rw[hW];simp
 obtain⟨u,i,h1,a7,h3⟩:=(h.kept hg).T (by omega);have a4:u=tb:=by rw[hb]at i;injection i with i;injection i with i _;exact i.symm
 subst a4;have v5:=pX (p:=p) (m:=m) ht.1 ht.2;have G:∀k,eO (g.ro 5 t).1=some k->k<w.heap.size/\k≠u:=λk H=>⟨h.lt ⟨5,t,0,by rw[fP v5];exact H⟩,h.ne (x:=5) (y:=t) (z:=0) (x':=1) (y':=0) (z':=0) v5 rfl H ((Bw p m hb u).2 rfl) (by omega)⟩;have a9:=hg.size;have Z:∀k,k<w2.heap.size->eO (g.ro 5 t).1≠some k->w6.heap[k]? = w2.heap[k]?:=λk H hn=>by
  rw[o.block k (by omega) (λe=>hn e.symm),hW,ak _ _ _ H]
 have a0:=h3.block (Z u h3.lt (λe=>(G _ e).2 rfl));have a1:=hV.block (Z b hV.lt (λe=>by have:=(G _ e).1;omega));have J:eO (g.ro 5 t).1=some kb\/W.heap.size<=kb:=by
  rcases a6 with e|⟨u,e1,e2⟩
  .left
   rw[<-a2,<-e];rfl
  right
  have:kb=u:=by injection e1
  omega
 have aA:=h.lt ⟨1,0,0,(Bw p m hb u).2 rfl⟩;have a3:kb≠u:=by
  rcases J with e|e
  .exact(G _ e).2
  omega
 refine⟨_,h.push ht (tb:=u) (kb:=kb) (ck:=ck) (vb:=b) (f:=f) hb (bm (S:=λk=>k=u\/eO (g.ro 5 t).1=some k) (a:=⟨u,(t-1)*8,none⟩) ⟨o.os.trans (Y.1.trans hg.os),o.tape.trans (Y.2.1.trans hg.tape),o.output.trans (Y.2.2.trans hg.output),by have:=o.size;omega,λk H hn=>(Z k (by omega) (λe=>hn (ab e))).trans (hg.block k H (by intro e;cases e))⟩ (ag (ag rfl)) _) (a0.ep _ _) ?_ ?_ (J.imp id (λe=>by omega)) a5 ?_⟩
 .exact dD ho (λk H=>af _ _ _ _ (by
   have:k=kb:=by simpa[Value.ownBlock] using H.symm
   rw[this];exact a3))
 .exact a1.off (a1.ne a0 (by decide))
 rcases J with e|e
 .have:=(G _ e).1;omega
 have:=hV.lt;omega
def LM(wc wx:World)(Y b f into nr:Nat)(x y:B.V):Prop:=wc.grownBy wx none/\wx.heap[Y]? = some (.cells #[.int .i64 (f:Int),.slice (some ⟨b,0,none⟩) nr nr,.int .i64 0,.int .i64 (into:Int)] 163 (0,0))/\wc.heap.size<=b/\wc.heap.size<=Y/\Full wx b 115 (nr*2) (nr*2) (eC (gh x y))
theorem Lr{wc e:World}{b f into nr:Nat}{x y:B.V}(o:wc.grownBy e none)(i:Full e b 115 (nr*2) (nr*2) (eC (gh x y)))(u:wc.heap.size<=b):LM wc (e.alloc (.cells #[.int .i64 f,.slice (some ⟨b,0,none⟩) nr nr,.int .i64 0,.int .i64 into] 163)) e.heap.size b f into nr x y:=
 ⟨au o _,bf _ _,u,o.size,i.block (ak _ _ _ i.lt)⟩
theorem Lp{wc e:World}{b f into nr:Nat}{x y:B.V}(u:wc.grownBy e none)(i:Full e b 115 (nr*2) (nr*2) (eC (gh x y)))(G:wc.heap.size+1<=b)(o:e.heap[wc.heap.size]? = some (.cells #[.int .i64 0,.slice none 0 0,.int .i64 0,.int .i64 0] 163 (0,0))):LM wc ((((e.setCell ⟨wc.heap.size,0,none⟩ (.int .i64 f)).setCell ⟨wc.heap.size,1,none⟩ (.slice (some ⟨b,0,none⟩) nr nr)).setCell ⟨wc.heap.size,2,none⟩ (.int .i64 0)).setCell ⟨wc.heap.size,3,none⟩ (.int .i64 into)) wc.heap.size b f into nr x y:=by
 refine⟨bp (bp (bp (bp u (ab (bj _)) _) (ab (bj _)) _) (ab (bj _)) _) (ab (bj _)) _,?_,by omega,bj _,(((i.off (by omega)).off (by omega)).off (by omega)).off (by omega)⟩;simp[World.setCell,cn,o]
end D
namespace F
open D
theorem Tryz.Fg:(prog.info? 119).map (λi=>(i.zero,i.size,i.bytes))=some (some (.agg #[.slice none 0 0,.int .i64 0]),2,32):=by kernel_rfl
theorem Tryz.Ff:(prog.info? 121).map (λi=>(i.zero,i.size,i.bytes))=some (some (.agg #[.slice none 0 0,.int .i64 0]),2,32):=by kernel_rfl
theorem Tryz.Hq:(prog.info? 3).map (λi=>(i.zero,i.size,i.bytes))=some (some (.int .i64 0),1,8):=by kernel_rfl
theorem Tryz.tS:prog.underlying 54=some (.slice 3):=by kernel_rfl
theorem Tryz.underlying78:prog.underlying 78=some (.slice 119):=by kernel_rfl
theorem Tryz.underlying79:prog.underlying 79=some (.slice 121):=by kernel_rfl
section
variable {w w' : World} {T : TypeId} {sz : Nat} {P : Nat → Value}
theorem kH(n:Nat)(P:Nat->Value):(rowP n P).length=n:=by unfold rowP;simp
theorem lh{n j:Nat}(P:Nat->Value)(h:j<n):(rowP n P)[j]? = some (P j):=by unfold rowP;simp[h]
theorem rd_mk{g n c:Nat}(u:jB w g T (c*sz))(hn:n<=c)(y:c<=maxLen)(hx:∀j,j<n*sz->w.cell? ⟨g,j,none⟩=some (P j)):Rd w T sz P (some ⟨g,0,none⟩,n,c):=by
 obtain⟨e,o,G⟩:=u;refine⟨kH _ _,ab ⟨g,c,e,rfl,dc _,o,hn,y,G,?_⟩⟩;apply List.ext_getElem?
 intro j;show(e.toList.take (n*sz))[j]? = (rowP (n*sz) P)[j]?;by_cases i:j<n*sz
 .rw[lh P i,dh,aj i];have:=hx j i;simp only[World.cell?,o]at this;simpa using this
 rw[cw (by simp;omega),cw (by rw[kH];omega)]
theorem zE{g n c j:Nat}(h:Rd w T sz P (some ⟨g,0,none⟩,n,c))(G:j<n*sz):w.cell? ⟨g,j,none⟩=some (P j):=by
 rcases h.2 with⟨o,_⟩|⟨g',Y,u,o,_,W,_,_,Z,J⟩
 .cases o
 have e:oL (some ⟨g,0,none⟩,n,c)=.slice (some ⟨g,0,none⟩) n c:=rfl;rw[e]at o;injection o with i _ _;injection i with i;injection i with i;subst i;have H:=lh (n:=n*sz) P G;rw[<-J,dh,aj G]at H;simp only[World.cell?,W];simpa using H
theorem EB{ad:Option Addr}{n c:Nat}{xs:List Value}(h:w.ownsRow 0 T sz (.slice ad n c) n xs)(hn:n≠0):∃g,ad=some ⟨g,0,none⟩/\jB w g T (c*sz)/\n<=c/\c<=maxLen:=by
 rcases h.2 with⟨_,i⟩|⟨g,W,e,i,_,y,u,o,J,_⟩
 .exact ch i hn
 injection i with H _ G;subst G;exact⟨g,H,⟨e,y,J⟩,u,o⟩
theorem vh{x:Sl}(h:Rd w T sz P x){k:Nat}(i:eO x.1=some k):x.1=some ⟨k,0,none⟩/\jB w k T (x.2.2*sz)/\x.2.1<=x.2.2/\x.2.2<=maxLen:=by
 rcases h.2 with⟨o,_⟩|⟨g,H,u,o,_,Y,W,J,h5,_⟩
 .have:x.1=none:=by unfold oL at o;injection o
  rw[this]at i;cases i
 have y:Value.slice x.1 x.2.1 x.2.2=.slice (some ⟨g,0,none⟩) x.2.1 H:=o;injection y with G _ Z;rw[G]at i;have e:g=k:=by injection i
 subst e;rw[Z];exact⟨G,⟨u,Y,h5⟩,W,J⟩
theorem GV{x y:Sl}(h:Rd w T sz P y)(hx:Rd w T sz P x){k:Nat}(W:eO y.1=some k)(o:eO x.1=some k)(hs:sz≠0)(a0:y.2.1<=x.2.1){n:Nat}(hn:x.2.1<=n)(u:Rd w' T sz P (x.1,n,x.2.2)):Rd w' T sz P y:=by
 obtain⟨J,⟨c1,a2,a3⟩,a4,_⟩:=vh h W;obtain⟨b1,⟨c2,i,G⟩,_,_⟩:=vh hx o;rw[a2]at i;injection i with i;injection i with i _ _;have H:y.2.2=x.2.2:=by
  rw[<-i,a3]at G;exact Nat.eq_of_mul_eq_mul_right (by omega) G
 obtain⟨_,d2,_,Z⟩:=vh (x:=(x.1,n,x.2.2)) u (k:=k) (by exact o);have e:y=(some ⟨k,0,none⟩,y.2.1,x.2.2):=by
  obtain⟨y1,y2,y3⟩:=y;simp only at J H ⊢;rw[J,H]
 rw[e];rw[b1]at u;exact rd_mk d2 (by omega) Z (λj Y=>zE u (dm Y (Nat.mul_le_mul_right _ (by omega))))
end
def wo(w:World)(T:TypeId)(sz:Nat)(P:Nat->Value)(l:Sl)(j:Nat):Prop:=(l.2.1=0/\Rd w T sz P l)\/∃g,l.1=some ⟨g,0,none⟩/\l.2.1<=l.2.2/\l.2.2<=maxLen/\Full w g T (l.2.2*sz) (j*sz) P
theorem wo.all{w:World}{T:TypeId}{sz:Nat}{P:Nat->Value}{l:Sl}(h:wo w T sz P l l.2.1):Rd w T sz P l:=by
 rcases h with⟨_,h⟩|⟨g,y,H,G,u⟩
 .exact h
 have e:l=(some ⟨g,0,none⟩,l.2.1,l.2.2):=by rw[<-y]
 rw[e];obtain⟨o,k1,k2,J⟩:=id u;exact rd_mk ⟨o,k1,k2⟩ H G (λi hi=>u.cell i hi)
theorem wo.Ki{w:World}{T:TypeId}{sz:Nat}{P:Nat->Value}{l:Sl}{xs:List Value}(h:w.ownsRow 0 T sz (oL l) l.2.1 xs):wo w T sz P l 0:=by
 by_cases e:l.2.1=0
 .refine ag ⟨e,?_⟩;have G:xs=rowP (l.2.1*sz) P:=by
   have:=h.1;rw[e,Nat.zero_mul]at this ⊢;rw[List.eq_nil_of_length_eq_zero this];rfl
  unfold Rd;rw[<-G];exact h
 obtain⟨g,y,u,o,i⟩:=EB h e;refine ab ⟨g,y,o,i,?_⟩;rw[Nat.zero_mul];exact u.full P
theorem wo.place{w:World}{T:TypeId}{sz j:Nat}{P:Nat->Value}{l:Sl}(h:wo w T sz P l j)(o:j<l.2.1):∃g,l.1=some ⟨g,0,none⟩/\jB w g T (l.2.2*sz)/\j<l.2.2:=by
 rcases h with⟨i,h⟩|⟨g,i,y,u,e,k1,k2,_⟩
 .omega
 exact⟨g,i,⟨e,k1,k2⟩,by omega⟩
theorem Ih{T':TypeId}{bk f m ce g c:Nat}{ae:Option Addr}{x:Sl}{N:Int}{L:List Value}{Ev:Nat->Value}{o:Obj}{wr i:World}(Y:(81:TypeId)≠T')(hf:f<3)(G:Full wr bk 81 3 3 Ev)(hR:wr.ownsRow 0 T' 2 (.slice ae m ce) m L)(Z:i.ownsRow 0 T' 2 (.slice (some ⟨g,0,none⟩) (m+1) c) (m+1) (L++[oL x,.int .i64 N]))(u:(wr.alloc o).grownBy i (Value.slice ae m ce).ownBlock)(hm:(Value.slice ae m ce).ownBlock=some g\/wr.heap.size<=g): Full (i.setCell ⟨bk,f,none⟩ (.slice (some ⟨g,0,none⟩) (m+1) c)) bk 81 3 3 (ep Ev f (.slice (some ⟨g,0,none⟩) (m+1) c))/\(i.setCell ⟨bk,f,none⟩ (.slice (some ⟨g,0,none⟩) (m+1) c)).ownsRow 0 T' 2 (.slice (some ⟨g,0,none⟩) (m+1) c) (m+1) (L++[oL x,.int .i64 N])/\dy (λk=>k=bk\/eO ae=some k) wr (i.setCell ⟨bk,f,none⟩ (.slice (some ⟨g,0,none⟩) (m+1) c)):=by
 have H:=G.lt;have W:Full i bk 81 3 3 Ev:=(G.block (ak _ _ _ H)).block (u.block bk (by simp;omega) (λe=>(λk y=>eL hR G Y k y) bk e.symm rfl));refine⟨W.ep f _,dD Z (λk y=>af _ _ _ _ (eL Z W Y k y)),bm ?_ (ag (ag rfl)) _⟩;refine dy.trans (S1:=λk=>eO ae=some k) (gF (dk _ wr) _) ⟨u.os,u.tape,u.output,u.size,λk y J=>u.block k y (λe=>J (by rw[<-dr ae m ce];exact e.symm))⟩ (λk h _=>ab h)
structure ue(w:World) (T' T:TypeId) (sz f:Nat) (P:Nat->Value) (bk:Nat) (Ev:Nat->Value) (L0:List Value) (m0:Nat) (ae0:Option Addr) (l:Sl) (N:Int) (Q:List Sl) (x:Sl) (ae:Option Addr) (ce:Nat) (wr:World):Prop where
 f:Full wr bk 81 3 3 (ep Ev f (.slice ae (m0+Q.length) ce))
 r:wr.ownsRow 0 T' 2 (.slice ae (m0+Q.length) ce) (m0+Q.length) (L0++gQ (Q.map (λy=>(y,N))))
 q:∀y,y∈Q->Rd wr T sz P y/\y.2.1<=x.2.1/\∀k,eO y.1=some k->eO l.1=some k\/w.heap.size<=k
 x:Rd wr T sz P x/\∀k,eO x.1=some k->eO l.1=some k\/w.heap.size<=k
 o:dy (λk=>k=bk\/eO ae0=some k\/eO l.1=some k) w wr
 a:∀k,eO ae=some k->eO ae0=some k\/w.heap.size<=k
section
variable {w : World} {T' T : TypeId} {sz f : Nat} {P : Nat → Value} {bk : Nat} {Ev : Nat → Value} {L0 : List Value} {m0 : Nat} {ae0 : Option Addr} {l : Sl} {N : Int} {Q : List Sl} {x : Sl} {ae : Option Addr} {ce : Nat} {wr : World}
theorem Bo(Q:List Sl)(x:Sl)(N:Int):gQ ((Q++[x]).map (λy=>(y,N)))=gQ (Q.map (λy=>(y,N)))++[oL x,.int .i64 N]:=by unfold gQ;simp
theorem ue.line{o:Obj}{Y:World}{g c:Nat}(h:ue w T' T sz f P bk Ev L0 m0 ae0 l N Q x ae ce wr)(a1:(81:TypeId)≠T')(Z:T≠T')(a0:(81:TypeId)≠T)(hf:f<3)(ho:Y.ownsRow 0 T' 2 (.slice (some ⟨g,0,none⟩) (m0+Q.length+1) c) (m0+Q.length+1) (L0++gQ (Q.map (λy=>(y,N)))++[oL x,.int .i64 N]))(hg:(wr.alloc o).grownBy Y (Value.slice ae (m0+Q.length) ce).ownBlock)(W:(Value.slice ae (m0+Q.length) ce).ownBlock=some g\/wr.heap.size<=g): ue w T' T sz f P bk Ev L0 m0 ae0 l N (Q++[x]) x (some ⟨g,0,none⟩) c (Y.setCell ⟨bk,f,none⟩ (.slice (some ⟨g,0,none⟩) (m0+Q.length+1) c)):=by
 obtain⟨h1,h2,h3⟩:=Ih a1 hf h.f h.r ho hg W;have a3:=h.o.size;have J:∀y,Rd wr T sz P y->Rd (Y.setCell ⟨bk,f,none⟩ (.slice (some ⟨g,0,none⟩) (m0+Q.length+1) c)) T sz P y:=λy G=>G.fr (λk u=>h3.same (G.lt u).1 (λhs=>by
  obtain⟨a2,i⟩:=(G.lt u).2;rcases hs with rfl|hs
  .obtain⟨c2,H,_⟩:=h.f;rw[H]at i;injection i with i;injection i with _ i _;exact a0 i
  obtain⟨_,_,c2,H⟩:=dA h.r k (by rw[dr];exact hs);rw[H]at i;injection i with i;injection i with _ i _;exact Z i.symm))
 have hl:m0+(Q++[x]).length=m0+Q.length+1:=by rw[bo];rfl
 refine⟨?_,?_,λy G=>?_,⟨J x h.x.1,h.x.2⟩,h.o.trans h3 (λk u hl=>?_),λk u=>?_⟩
 .rw[hl];refine h1.congr (λj hj=>?_);unfold ep;by_cases e:j=f
  .rw[aj e,aj e]
  rw[aa e,aa e,aa e]
 .rw[hl,Bo,<-dY];exact h2
 .rcases di.1 G with G|G
  .exact⟨J y (h.q y G).1,(h.q y G).2⟩
  have e:=dL.1 G;rw[e];exact⟨J x h.x.1,bj _,h.x.2⟩
 .rcases u with u|u
  .exact ag u
  rcases h.a k u with h4|h4
  .exact ab (ag h4)
  omega
 have e:g=k:=by injection u
 subst e;rcases W with W|W
 .exact h.a g (by rw[<-dr ae (m0+Q.length) ce];exact W)
 right;omega
theorem ue.more{o:Obj}{J:World}{v':Value}{Y:List Value}(h:ue w T' T sz f P bk Ev L0 m0 ae0 l N Q x ae ce wr)(aC:(81:TypeId)≠T')(a4:T≠T')(a5:(81:TypeId)≠T)(hs:sz≠0)(a2:rowP (x.2.1*sz) P++Y=rowP ((x.2.1+1)*sz) P)(ho:J.ownsRow 0 T sz v' (x.2.1+1) (rowP (x.2.1*sz) P++Y))(G:FL (wr.alloc o) J x.1 x.2.1 x.2.2 1 v'): ∃H:Sl,v'=oL H/\H.2.1=x.2.1+1/\(∀k,eO H.1=some k->eO x.1=some k\/wr.heap.size<k)/\ue w T' T sz f P bk Ev L0 m0 ae0 l N Q H ae ce J:=by
 rw[a2]at ho;have aB:=h.o.size;have a3:∀k,eO x.1=some k->k≠bk/\eO ae≠some k:=λk i=>by
  obtain⟨aA,u⟩:=(h.x.1.lt i).2;refine⟨λe=>?_,λe=>?_⟩
  .obtain⟨c2,a1,_⟩:=h.f;rw[e,a1]at u;injection u with u;injection u with _ u _;exact a5 u
  obtain⟨_,_,c2,a1⟩:=dA h.r k (by rw[dr];exact e);rw[a1]at u;injection u with u;injection u with _ u _;exact a4 u.symm
 have a0:∀H:Sl,v'=oL H->H.2.1=x.2.1+1->(∀k,eO H.1=some k->eO x.1=some k\/wr.heap.size<k)->dy (λk=>eO x.1=some k) wr J->(∀y,y∈Q->Rd J T sz P y)->ue w T' T sz f P bk Ev L0 m0 ae0 l N Q H ae ce J:=by
  intro H e1 e2 e3 Z hq;have a9:Rd J T sz P H:=by
   unfold Rd;rw[<-e1,e2];exact ho
  refine⟨h.f.block (Z.same h.f.lt (λe=>(a3 _ e).1 rfl)),dD h.r (λk i=>Z.same (dA h.r k i).2.1 (λe=>(a3 k e).2 (by rw[<-dr ae (m0+Q.length) ce];exact i))),λy W=>⟨hq y W,?_,(h.q y W).2.2⟩,⟨a9,λk i=>?_⟩,h.o.trans Z (λk i hl=>?_),h.a⟩
  .have:=(h.q y W).2.1;omega
  .rcases e3 k i with h4|h4
   .exact h.x.2 k h4
   right;omega
  rcases h.x.2 k i with h4|h4
  .exact ab (ab h4)
  omega
 rcases G with⟨rfl,G⟩|⟨g,c,rfl,a7,G⟩
 .rw[dr]at G;have Z:=dy.trans (S1:=λk=>eO x.1=some k) (gF (dk _ wr) _) ⟨G.os,G.tape,G.output,G.size,λk i a6=>G.block k i (λe=>a6 e.symm)⟩ (λk h _=>h);refine⟨(x.1,x.2.1+1,x.2.2),rfl,rfl,λk i=>ag i,a0 (x.1,x.2.1+1,x.2.2) rfl rfl (λk i=>ag i) Z (λy W=>?_)⟩;obtain⟨y1,y2,y3⟩:=h.q y W;by_cases u:∃k,eO y.1=some k/\eO x.1=some k
  .obtain⟨k,k1,k2⟩:=u;exact GV y1 h.x.1 k1 k2 hs y2 (Nat.le_succ _) ho
  exact y1.fr (λk i=>Z.same (y1.lt i).1 (λe=>u ⟨k,i,e⟩))
 have Z:dy (λk=>eO x.1=some k) wr J:=dy.trans (S1:=λ_=>False) (gF (dk _ wr) _) (dU G) (λk h _=>h.elim);have a8:dy (λ_=>False) wr J:=dy.trans (S1:=λ_=>False) (gF (dk _ wr) _) (dU G) (λk h _=>h.elim);have hz:wr.heap.size<g:=by simp at a7;omega
 have e3:∀k,eO (some (⟨g,0,none⟩:Addr))=some k->eO x.1=some k\/wr.heap.size<k:=λk i=>by
  have e:g=k:=by injection i
  right;omega
 exact⟨(some ⟨g,0,none⟩,x.2.1+1,c),rfl,rfl,e3,a0 (some ⟨g,0,none⟩,x.2.1+1,c) rfl rfl e3 Z (λy W=>(h.q y W).1.fr (λk i=>a8.same ((h.q y W).1.lt i).1 (λe=>e)))⟩
end
structure uf(w:World) (T' T:TypeId) (sz:Nat) (P:Nat->Value) (bk:Nat) (Ev:Nat->Value) (L0:List Value) (m0:Nat) (ae:Option Addr) (ce:Nat) (l:Sl) (j:Nat) (wr:World):Prop where
 f:Full wr bk 81 3 3 Ev
 r:wr.ownsRow 0 T' 2 (.slice ae m0 ce) m0 L0
 z:wo wr T sz P l j
 o:dy (λk=>k=bk\/eO ae=some k\/eO l.1=some k) w wr
section
variable {w : World} {T' T : TypeId} {sz : Nat} {P : Nat → Value} {bk : Nat} {Ev : Nat → Value} {L0 : List Value} {m0 : Nat} {ae : Option Addr} {ce : Nat} {l : Sl} {j : Nat} {wr : World}
theorem uf.Ki{w1 w2:World}{u:Option Addr}{ln J:Nat}{xs:List Value}(y:Full w1 bk 81 3 3 Ev)(hR:w1.ownsRow 0 T' 2 (.slice ae m0 ce) m0 L0)(H:w1.ownsRow 0 T sz (.slice u ln J) ln xs)(W:dy (λk=>k=bk\/eO ae=some k\/eO u=some k) w w1)(G:w1.grownBy w2 none):uf w T' T sz P bk Ev L0 m0 ae ce (u,ln,J) 0 w2:=by
 have i:=λk o=>G.block k o (by intro e;cases e);exact⟨y.block (i _ y.lt),dD hR (λk o=>i k (dA hR k o).2.1),wo.Ki (dD H (λk o=>i k (dA H k o).2.1)),W.gR G⟩
theorem uf.next{w':World}(h:uf w T' T sz P bk Ev L0 m0 ae ce l j wr)(J:T≠T')(W:(81:TypeId)≠T){j':Nat}(hl:wo w' T sz P l j')(Z:dy (λk=>eO l.1=some k) wr w'):uf w T' T sz P bk Ev L0 m0 ae ce l j' w':=by
 have H:∀k,eO l.1=some k->∃u,wr.heap[k]? = some (.cells u T (0,0)):=λk y=>by
  rcases h.z with⟨_,Y⟩|⟨g,Y,_,_,u,h2,_⟩
  .exact(Y.lt y).2
  rw[Y]at y;have e:g=k:=by injection y
  exact⟨u,e▸h2⟩
 refine⟨h.f.block (Z.same h.f.lt (λe=>?_)),dD h.r (λk y=>Z.same (dA h.r k y).2.1 (λe=>?_)),hl,h.o.trans Z (λk y _=>ab (ab y))⟩
 .obtain⟨u,i⟩:=H _ e;obtain⟨c2,G,_⟩:=h.f;rw[G]at i;injection i with i;injection i with _ i _;exact W i
 obtain⟨u,i⟩:=H _ e;obtain⟨_,_,c2,G⟩:=dA h.r k y;rw[G]at i;injection i with i;injection i with _ i _;exact J i.symm
theorem uf.done{N:Int}{f:Nat}{G:Option Addr}{ln H:Nat}(h:uf w T' T sz P bk Ev L0 m0 ae ce (G,ln,H) ln wr)(J:Ev f=.slice ae m0 ce):ue w T' T sz f P bk Ev L0 m0 ae (G,ln,H) N [] (G,ln,H) ae ce wr:=by
 refine⟨h.f.congr (λi hi=>?_),?_,λy W=>(by cases W),⟨wo.all h.z,λk u=>ag u⟩,h.o,λk u=>ag u⟩
 .unfold ep;by_cases e:i=f
  .rw[aj e,e,J];rfl
  rw[aa e]
 have e:L0++gQ (([]:List Sl).map (λy=>(y,N)))=L0:=by unfold gQ;simp
 rw[e];exact h.r
end
end F
namespace F
open D
theorem Ai:∀{E:List (Sl×Int)} {k:Nat} {x:Sl×Int},E[k]? = some x->(gQ E)[k*2]? = some (oL x.1)/\(gQ E)[k*2+1]? = some (.int .i64 x.2)
 | [],k,x,h=>by simp at h
 | y :: E,0,x,h=>by
  have e:y=x:=by simpa using h
  subst e;exact⟨rfl,rfl⟩
 | y :: E,k+1,x,h=>by
  have:=Ai (E:=E) (k:=k) (x:=x) (by simpa using h);have i:gQ (y :: E)=oL y.1 :: .int .i64 y.2 :: gQ E:=by unfold gQ;simp
  rw[i,show(k+1)*2=k*2+2 by omega];exact this
theorem hZ{w:World}{i sz g n cap j:Nat}{e:TypeId}{x:Value}{xs:List Value}(h:w.ownsRow i e sz (.slice (some ⟨g,0,none⟩) n cap) n xs)(hx:xs[j]? = some x):w.cell? ⟨g,j,none⟩=some x:=by
 rcases h.2 with⟨h,_⟩|⟨g',J,o,y,_,H,_,_,W,G⟩
 .cases h
 cases y;have u:j<n*sz:=by
  have:=(bu.1 hx).1;have:=h.1;omega
 have:o[j]? = some x:=by
  rw[<-G,dh,aj u]at hx;simpa using hx
 simp[World.cell?,H,this]
theorem zW{w:World}{T':TypeId}{ra:Option Addr}{c k:Nat}{E:List (Sl×Int)}{x:Sl×Int}(h:w.ownsRow 0 T' 2 (.slice ra E.length c) E.length (gQ E))(e:E[k]? = some x):∃b,ra=some ⟨b,0,none⟩/\b<w.heap.size/\w.cell? ⟨b,k*2,none⟩=some (.slice x.1.1 x.1.2.1 x.1.2.2)/\w.cell? ⟨b,k*2+1,none⟩=some (.int .i64 x.2):=by
 have i:=(bu.1 e).1;obtain⟨b,J,y⟩:=dM h (by omega);injection y with G _ u;subst G u;obtain⟨o,H⟩:=Ai e;exact⟨b,rfl,(dA h b rfl).2.1,hZ h o,hZ h H⟩
theorem FV{w:World}{T:TypeId}{sz:Nat}{P:Nat->Value}{x:Sl}(h:Rd w T sz P x){i:Nat}(hi:i<x.2.1)(W:sz≠0):∃b,x.1=some ⟨b,0,none⟩/\b<w.heap.size/\∀j,j<sz->w.cell? ⟨b,i*sz+j,none⟩=some (P (i*sz+j)):=by
 obtain⟨b,y,G⟩:=dM h (by omega);have o:Value.slice x.1 x.2.1 x.2.2=.slice (some ⟨b,0,none⟩) x.2.1 y:=G;injection o with u _ J;have e:x=(some ⟨b,0,none⟩,x.2.1,x.2.2):=by rw[<-u]
 refine⟨b,u,(h.lt (k:=b) (by rw[u];rfl)).1,λj H=>?_⟩;rw[e]at h;refine zE h ?_;have:(i+1)*sz<=x.2.1*sz:=Nat.mul_le_mul_right _ hi;rw[Nat.add_mul,Nat.one_mul]at this;omega
theorem G9{bk ca cb:Nat}{ra rb:Option Addr}{Ev:Nat->Value}{E J:List (Sl×Int)}{w:World}(hF:Full w bk 81 3 3 Ev)(h1:Ev 1=.slice ra E.length ca)(h2:Ev 2=.slice rb J.length cb)(hE:w.ownsRow 0 119 2 (.slice ra E.length ca) E.length (gQ E))(hJ:w.ownsRow 0 121 2 (.slice rb J.length cb) J.length (gQ J))(aD:∀x,x∈E->Rd w 48 3 (mG x.2) x.1/\x.1.2.1<=1000000000)(a6:∀x,x∈J->Rd w 3 1 (qE x.2) x.1/\x.1.2.1<=1000000000)(le:E.length<=1000000000)(lj:J.length<=1000000000): Calls prog 34 #[P0 bk] w λe w'=>e=.returned (.bool true)/\w.grownBy w' none:=by
 obtain⟨c1,_⟩:=hF.cells 1 (by omega);obtain⟨c2,_⟩:=hF.cells 2 (by omega);rw[h1]at c1;rw[h2]at c2;have Z:=hF.lt;have HE:Hid (∀k x,E[k]? = some x->(∃b,ra=some ⟨b,0,none⟩/\b<w.heap.size/\w.cell? ⟨b,k*2,none⟩=some (.slice x.1.1 x.1.2.1 x.1.2.2)/\w.cell? ⟨b,k*2+1,none⟩=some (.int .i64 x.2))/\Rd w 48 3 (mG x.2) x.1/\x.1.2.1<=1000000000):=λk x hk=>⟨zW hE hk,aD x (ed hk)⟩;have HJ:Hid (∀k x,J[k]? = some x->(∃b,rb=some ⟨b,0,none⟩/\b<w.heap.size/\w.cell? ⟨b,k*2,none⟩=some (.slice x.1.1 x.1.2.1 x.1.2.2)/\w.cell? ⟨b,k*2+1,none⟩=some (.int .i64 x.2))/\Rd w 3 1 (qE x.2) x.1/\x.1.2.1<=1000000000):=λk x hk=>⟨zW hJ hk,a6 x (ed hk)⟩;clear hE hJ aD a6 h1 h2 hF;obtain⟨ne,a1⟩:∃ne,ne=E.length:=⟨_,rfl⟩;obtain⟨Y,a2⟩:∃Y,Y=J.length:=⟨_,rfl⟩;rw[<-a1]at c1 le;rw[<-a2]at c2 lj;have aG:=az a1;have aE:=az a2;clear a1 a2;go_in;go_wp2_with fail
 go_loopw [3] (λkv wr=>∃k:Nat,k<=ne/\kv=.int .i64 k/\Hid (w.grownBy wr none)) (λkv _=>ne-(intOf kv).toNat)
 case atStart=>exact⟨0,by omega,rfl,ax _ _⟩
 case round=>
  obtain⟨k,hk,rfl,y⟩:=hrel;have d1:=(bh y (a:=⟨bk,1,none⟩) Z).1.trans c1;have lr:=y.size;by_cases aF:k<ne
  .obtain⟨x,hx⟩:∃x,E[k]? = some x:=⟨_,bn (by rw[<-aG.out];exact aF)⟩;obtain⟨⟨b,rfl,b1,b2,b3⟩,b4,b5⟩:=HE k x hx;obtain⟨⟨xa,G,xc⟩,N⟩:=x;simp only at b2 b3 b4 b5;have a3:=az b4;have e1:wr.cell? ⟨b,k*2+1,none⟩=some (.int .i64 N):=(bh y (a:=⟨b,k*2+1,none⟩) b1).1.trans b3;have lb:b<wr.heap.size:=by omega
   have a0:=az b2;clear b2 b3 b4 hx;have aC:(k:Int)<ne:=by omega
   go_wp2_with fail
   have a7:=bf wr (.cells #[.int .i64 N,.int .i64 0,.int .i64 0] 48);have H:Hid (w.grownBy (wr.alloc (.cells #[.int .i64 N,.int .i64 0,.int .i64 0] 48)) none):=au y _;generalize wr.alloc (.cells #[.int .i64 N,.int .i64 0,.int .i64 0] 48)=w2 at *;generalize wr.heap.size=xb at *;clear d1 e1 y;have aB:=az a7;clear a7;go_loopw [5] (λiv wx=>∃i:Nat,i<=G/\iv=.int .i64 i/\Hid (w.grownBy wx none)/\Hid (wx.heap[xb]? = some (.cells #[.int .i64 N,.int .i64 0,.int .i64 0] 48 (0,0)))) (λiv _=>G-(intOf iv).toNat)
   case atStart=>exact⟨0,by omega,rfl,H,aB⟩
   case round=>
    clear H aB;obtain⟨i,hi,rfl,y,hX⟩:=hrel;have d1:=(bh y (a:=⟨bk,1,none⟩) Z).1.trans c1;have e0:wr.cell? ⟨b,k*2,none⟩=some (.slice xa G xc):=(bh y (a:=⟨b,k*2,none⟩) b1).1.trans a0;have lr:=y.size
    have lx:=bz hX;have x0:wr.cell? ⟨xb,0,none⟩=some (.int .i64 N):=by simp[World.cell?,hX.out]
    have x1:wr.cell? ⟨xb,1,none⟩=some (.int .i64 0):=by simp[World.cell?,hX.out]
    have x2:wr.cell? ⟨xb,2,none⟩=some (.int .i64 0):=by simp[World.cell?,hX.out]
    by_cases a4:i<G
    .obtain⟨u,hq,q1,q2⟩:=FV a3 (i:=i) a4 (by decide);simp only at hq;subst hq;have y0:wr.cell? ⟨u,i*3,none⟩=some (.int .i64 N):=by
      have:=q2 0 (by omega);rw[Nat.add_zero]at this;rw[(bh y (a:=⟨u,i*3,none⟩) q1).1,this];unfold mG;rw[aj (by omega)]
     have y1:wr.cell? ⟨u,i*3+1,none⟩=some (.int .i64 0):=by
      rw[(bh y (a:=⟨u,i*3+1,none⟩) q1).1,q2 1 (by omega)];unfold mG;rw[aa (by omega)]
     have y2:wr.cell? ⟨u,i*3+2,none⟩=some (.int .i64 0):=by
      rw[(bh y (a:=⟨u,i*3+2,none⟩) q1).1,q2 2 (by omega)];unfold mG;rw[aa (by omega)]
     have W:(i:Int)<G:=by omega
     clear q2;go_wp2_with fail
     go_quiet (fail)
     go_wp2_with fail
     go_roundw
     case rel=>exact⟨i+1,by omega,by go_num,⟨y.os,y.tape,y.output,y.size,y.block⟩,hX⟩
     case measure=>simp[intOf];omega
    have W:¬((i:Int)<G):=by omega
    go_wp2_with fail
    go_roundw
    case rel=>exact⟨k+1,by omega,by go_num,y⟩
    case measure=>simp[intOf];omega
  have aC:¬((k:Int)<ne):=by omega
  clear lr HE;have aA:=y;go_wp2_with fail
  clear d1;go_loopw [6] (λkv wx=>∃k:Nat,k<=Y/\kv=.int .i64 k/\Hid (w.grownBy wx none)) (λkv _=>Y-(intOf kv).toNat)
  case atStart=>exact⟨0,by omega,rfl,aA⟩
  case round=>
   clear aA;obtain⟨q,hq,rfl,H⟩:=hrel;have d2:=(bh H (a:=⟨bk,2,none⟩) Z).1.trans c2;by_cases aH:q<Y
   .obtain⟨x,hx⟩:∃x,J[q]? = some x:=⟨_,bn (by rw[<-aE.out];exact aH)⟩;obtain⟨⟨b,rfl,b1,b2,b3⟩,b4,b5⟩:=HJ q x hx;obtain⟨⟨xa,G,xc⟩,N⟩:=x;simp only at b2 b3 b4 b5;have a3:=az b4;have a0:=az (ay b2 b3);clear b2 b3 b4 hx;have a5:(q:Int)<Y:=by omega
    have a9:=H;go_wp2_with fail
    clear d2;go_loopw [7] (λiv wx=>∃i:Nat,i<=G/\iv=.int .i64 i/\Hid (w.grownBy wx none)) (λiv _=>G-(intOf iv).toNat)
    case atStart=>exact⟨0,by omega,rfl,a9⟩
    case round=>
     clear a9;obtain⟨i,hi,rfl,o⟩:=hrel;have d2:=(bh o (a:=⟨bk,2,none⟩) Z).1.trans c2;have e0:=(bh o (a:=⟨b,q*2,none⟩) b1).1.trans a0.1;have e1:=(bh o (a:=⟨b,q*2+1,none⟩) b1).1.trans a0.2;have lr:=o.size
     by_cases a4:i<G
     .obtain⟨u,a8,q1,q2⟩:=FV a3 (i:=i) a4 (by decide);simp only at a8;subst a8;have y0:wr.cell? ⟨u,i,none⟩=some (.int .i64 N):=by
       have:=q2 0 (by omega);rw[Nat.add_zero,Nat.mul_one]at this;rw[(bh o (a:=⟨u,i,none⟩) q1).1,this];rfl
      have W:(i:Int)<G:=by omega
      clear q2;go_wp2_with fail
      go_quiet (fail)
      go_wp2_with fail
      go_roundw
      case rel=>exact⟨i+1,by omega,by go_num,⟨o.os,o.tape,o.output,o.size,o.block⟩⟩
      case measure=>simp[intOf];omega
     have W:¬((i:Int)<G):=by omega
     go_wp2_with fail
     go_roundw
     case rel=>exact⟨q+1,by omega,by go_num,o⟩
     case measure=>simp[intOf];omega
   have a5:¬((q:Int)<Y):=by omega
   go_wp2_with fail
   go_ret;exact⟨rfl,H⟩
