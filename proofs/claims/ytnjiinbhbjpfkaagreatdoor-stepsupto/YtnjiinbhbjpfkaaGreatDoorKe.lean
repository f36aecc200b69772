import Derived.Test.YtnjiinbhbjpfkaaGreatDoorKY
import Derived.Test.YtnjiinbhbjpfkaaGreatDoorKb
set_option maxRecDepth 100000
set_option maxHeartbeats 0
set_option linter.all false
namespace Go.Proofs.YtnjiinbhbjpfkaaGreatDoor
open Go.RowKit Go.Proofs.Tryz
namespace D
open F
variable {p : Dp} {m m' : Dm} {g g' : Dg} {w w' : World}
theorem Tryz.rH:(prog.info? 115).map (λi=>(i.zero,i.size,i.bytes))=some (some (.agg #[.int .i64 0,.int .i64 0]),2,16):=by kernel_rfl
theorem Tryz.underlying161:prog.underlying 161=some (.slice 115):=by kernel_rfl
theorem ta{w:World}{g b e:Nat}(h:w.ownsRow e 115 2 (.slice (some ⟨g,0,none⟩) b b) b (madeCells #[.int .i64 0,.int .i64 0] (b*2)).toList):Full w g 115 (b*2) (b*2) (eC (λ_=>(0,0))):=by
 rcases h.2 with⟨h,_⟩|⟨g',u,i,H,h2,Y,h4,Z,J,W⟩
 .cases h
 cases H;refine⟨i,Y,J,λj y=>?_⟩;have o:=congrArg (λl=>l[j]?) W;have G:(madeCells #[.int .i64 0,.int .i64 0] (b*2)).toList[j]? = some (.int .i64 0):=by
  simp only[madeCells,Array.getElem?_toList,Array.getElem?_map,Array.getElem?_range];rw[aj y];have:j % 2=0\/j % 2=1:=by omega
  rcases this with h|h<;>simp[h]
 simp only[G,dh]at o;rw[aj y]at o;rw[mf];simpa using o
theorem xL{rb gb nf gc f r0:Nat}{u v:B.V}{into:Int}(h0:w.cell? ⟨rb,0,none⟩=some (.slice (some ⟨gb,0,none⟩) nf gc))(h1:w.cell? ⟨gb,f*2,none⟩=some (.int .i64 (r0:Int)))(hf:f<nf)(hr:2<=r0)(aE:r0<=8): Calls prog 74 #[P0 rb,.int .i64 (f:Int),vA u,vA v,.int .i64 into] w λe w'=>∃b,e=.returned (.agg #[.int .i64 (f:Int),.slice (some ⟨b,0,none⟩) r0 r0,.int .i64 0,.int .i64 into])/\w.heap.size<=b/\Full w' b 115 (r0*2) (r0*2) (eC (gh u v))/\w.grownBy w' none:=by
 obtain⟨u1,Z⟩:=u;obtain⟨v1,v2⟩:=v;obtain⟨i0,hi,a4,a3,a2⟩:=info_parts Tryz.rH;have a9:(f:Int)<(nf:Int):=by omega
 have lr:rb<w.heap.size:=av w _ h0;have lg:gb<w.heap.size:=av w _ h1;have a8:rb<w.heap.size+1:=by omega
 have aD:rb<w.heap.size+1+1:=by omega
 have aB:gb<w.heap.size+1:=by omega
 have aC:gb<w.heap.size+1+1:=by omega
 go_in;go_wp2_with (at_make;go_loud (refine wpList_make_full _ rfl _ _ 161 rfl 0 115 i0 _ 2 Tryz.underlying161 hi a4 a3 _ _ _ _ r0 rfl rfl rfl rfl (by rw[a2];omega) (by unfold maxLen;omega) (dc _) ?_))
 intro i Y G;have y:=ta Y;have J:∀j o,j<w.heap.size+3->(((w.alloc (.cells #[.int .i64 (u1:Int),.int .i64 Z] 115)).alloc (.cells #[.int .i64 (v1:Int),.int .i64 v2] 115)).alloc (.cells #[.int .i64 0,.slice none 0 0,.int .i64 0,.int .i64 0] 163)).heap[j]? = some o->i.heap[j]? = some o:=λj o hj ho=>cm G ho (by intro e;cases e);have s1:(w.alloc (.cells #[.int .i64 (u1:Int),.int .i64 Z] 115)).heap.size=w.heap.size+1:=by simp
 have s2:((w.alloc (.cells #[.int .i64 (u1:Int),.int .i64 Z] 115)).alloc (.cells #[.int .i64 (v1:Int),.int .i64 v2] 115)).heap.size=w.heap.size+1+1:=by simp
 have x0:=J w.heap.size (.cells #[.int .i64 (u1:Int),.int .i64 Z] 115 (0,0)) (by omega) (by rw[ak _ _ _ (by simp;omega),ak _ _ _ (by simp)];exact bf _ _);have x1:=J (w.heap.size+1) (.cells #[.int .i64 (v1:Int),.int .i64 v2] 115 (0,0)) (by omega) (by rw[ak _ _ _ (by simp),<-s1];exact bf _ _);have W:=J (w.heap.size+1+1) (.cells #[.int .i64 0,.slice none 0 0,.int .i64 0,.int .i64 0] 163 (0,0)) (by omega) (by rw[<-s2];exact bf _ _);have a5:Hid (w.grownBy i none):=an (au (au (au (ax _ _) _) _) _) G;have a6:=az y;have a0:i.cell? ⟨w.heap.size,0,none⟩=some (.int .i64 (u1:Int)):=by simp[World.cell?,x0]
 have a1:i.cell? ⟨w.heap.size,1,none⟩=some (.int .i64 Z):=by simp[World.cell?,x0]
 have b0:i.cell? ⟨w.heap.size+1,0,none⟩=some (.int .i64 (v1:Int)):=by simp[World.cell?,x1]
 have b1:i.cell? ⟨w.heap.size+1,1,none⟩=some (.int .i64 v2):=by simp[World.cell?,x1]
 have f0:i.cell? ⟨w.heap.size+1+1,0,none⟩=some (.int .i64 0):=by simp[World.cell?,W]
 have f1:i.cell? ⟨w.heap.size+1+1,1,none⟩=some (.slice none 0 0):=by simp[World.cell?,W]
 have f2:i.cell? ⟨w.heap.size+1+1,2,none⟩=some (.int .i64 0):=by simp[World.cell?,W]
 have f3:i.cell? ⟨w.heap.size+1+1,3,none⟩=some (.int .i64 0):=by simp[World.cell?,W]
 have y0:i.frozen? ⟨w.heap.size+1+1,0,none⟩=false:=by simp[World.frozen?,W]
 have y1:i.frozen? ⟨w.heap.size+1+1,1,none⟩=false:=by simp[World.frozen?,W]
 have y2:i.frozen? ⟨w.heap.size+1+1,2,none⟩=false:=by simp[World.frozen?,W]
 have y3:i.frozen? ⟨w.heap.size+1+1,3,none⟩=false:=by simp[World.frozen?,W]
 obtain⟨k0,e0⟩:=y.cells 0 (by omega);obtain⟨k1,e1⟩:=y.cells 1 (by omega);obtain⟨k2,e2⟩:=y.cells 2 (by omega);obtain⟨k3,e3⟩:=y.cells 3 (by omega);rw[mf]at k0 k1 k2 k3
 have a7:(1:Int)<(r0:Int):=by omega
 go_wp2_with fail
 refine da (v:=.agg #[.int .i64 (f:Int),.slice (some ⟨w.heap.size+1+1+1,0,none⟩) r0 r0,.int .i64 0,.int .i64 into]) (by simp[results,results74,go_sem, *]) rfl ⟨w.heap.size+1+1+1,rfl,by omega,?_,?_⟩
 .have hP:∀j,ep (ep (ep (ep (eC (λ_=>(0,0))) 0 (.int .i64 (u1:Int))) 1 (.int .i64 Z)) 2 (.int .i64 (v1:Int))) 3 (.int .i64 v2) j=eC (gh (u1,Z) (v1,v2)) j:=λj=>by
   unfold ep;by_cases c3:j=3
   .subst c3;rfl
   by_cases c2:j=2
   .subst c2;rfl
   by_cases c1:j=1
   .subst c1;rfl
   by_cases c0:j=0
   .subst c0;rfl
   rw[aa c3,aa c2,aa c1,aa c0,mf];unfold eC gh;rw[aa (show ¬j / 2=0 by omega),aa (show ¬j / 2=1 by omega)];split<;>rfl
  exact((((((((a6.out.ep 0 _).ep 1 _).ep 2 _).ep 3 _).off (by omega)).off (by omega)).off (by omega)).off (by omega)).congr (λj _=>hP j)
 have hs:w.heap.size<=w.heap.size+1+1+1:=by omega
 have H:w.heap.size<=w.heap.size+1+1:=by omega
 exact bp (bp (bp (bp (bp (bp (bp (bp a5.out (ab hs) _) (ab hs) _) (ab hs) _) (ab hs) _) (ab H) _) (ab H) _) (ab H) _) (ab H) _
def Dg.oD(g:Dg)(t i b:Nat):Dg:={ g with rb:=λa c=>if a=t/\c=i then b else g.rb a c }
theorem ve(g:Dg)(t i b:Nat):(g.oD t i b).rb t i=b:=aj ⟨rfl,rfl⟩
theorem ph(g:Dg){t i a c:Nat}(b:Nat)(h:¬(a=t/\c=i)):(g.oD t i b).rb a c=g.rb a c:=aa h
theorem dQ.push(h:dQ p m g w){t:Nat}(ht:mF m t){tb kb ck vb:Nat}{f:gY}(hb:g.ro 1 0=(some ⟨tb,0,none⟩,(g.ro 1 0).2))(hO:dy (λk=>k=tb\/eO (g.ro 5 t).1=some k) w w')(hT:Full w' tb 167 ((g.ro 1 0).2*8) (m.nt*8) (ep (tE m g) ((t-1)*8) (.slice (some ⟨kb,0,none⟩) ((m.T t).fr.length+1) ck)))(hK:w'.ownsRow 0 163 4 (.slice (some ⟨kb,0,none⟩) ((m.T t).fr.length+1) ck) ((m.T t).fr.length+1) (rowP ((m.T t).fr.length*4) (fE p m g t)++[fC p f vb 0,fC p f vb 1,fC p f vb 2,fC p f vb 3]))(hV:Full w' vb 115 (p.rg f.f*2) (p.rg f.f*2) (eC f.R))(J:eO (g.ro 5 t).1=some kb\/w.heap.size<=kb)(hv:w.heap.size<=vb)(aA:kb≠vb):Tr p m g w (m.push t f) ((g.at 5 t (some ⟨kb,0,none⟩,ck)).oD t (m.T t).fr.length vb) w':=by
 have:=ht.1;have:=ht.2;obtain⟨b,G,h1,h2,h3⟩:=h.T (by omega);have a7:b=tb:=by rw[hb]at G;injection G with G;injection G with G _;exact G.symm
 subst a7;have a5:(m.push t f).T t=(m.T t).kD ((m.T t).fr++[f]):=fG _ _ _;have W:∀u,u≠t->(m.push t f).T u=m.T u:=λu e=>fA _ _ e;have Z:((m.push t f).T t).fr.length=(m.T t).fr.length+1:=by rw[a5];show((m.T t).fr++[f]).length=_;rw[bo];rfl
 have Y:∀y z,fj (m.push t f) y z=if y=t/\z=(m.T t).fr.length then f else fj m y z:=λy z=>by
  unfold fj;by_cases e:y=t
  .subst e;rw[a5];show((m.T y).fr++[f]).getD z mr=_;by_cases e2:z=(m.T y).fr.length
   .rw [aj ⟨rfl,e2⟩,e2,ar,dX (bj _)];simp
   rw [aa (λe=>e2 e.2),ar,ar];rcases Nat.lt_or_ge z (m.T y).fr.length with h|h
   .rw [du h]
   rw [cw (l:=(m.T y).fr) h,cw (by rw[bo];simp;omega)]
  rw [W y e,aa (λe'=>e e'.1)]
 have a9:∀x y z,¬(x=6/\y=t/\z=(m.T t).fr.length)->vd p (m.push t f) x y z=vd p m x y z:=λx y z hC=>by
  unfold vd;by_cases e:x=6
  .subst e;show decide (1<=y/\y<=m.nt/\z<((m.push t f).T y).fr.length)=decide (1<=y/\y<=m.nt/\z<(m.T y).fr.length);by_cases e2:y=t
   .subst e2;rw[Z];apply decide_eq_decide.2
    have:z≠(m.T y).fr.length:=λe=>hC ⟨rfl,rfl,e⟩;omega
   rw [W y e2]
  rw [aa e,aa e];rfl
 have v6:vd p (m.push t f) 6 t (m.T t).fr.length=true:=Az ht.1 ht.2 (by rw[Z];omega);have v5:vd p (m.push t f) 5 t 0=true:=pX ht.1 ht.2;refine h.to (λx y z=>(x=1/\y=0/\z=0)\/(x=5/\y=t/\z=0)\/(x=6/\y=t/\z=(m.T t).fr.length)) (λk=>if k=vb then(6,t,(m.T t).fr.length) else(5,t,0)) (hO.mono ?_) (λx y z hC=>jT (a9 x y z (λe=>hC (ab (ab e)))) (λa1=>?_)) ?_ ?_
 .rintro k (rfl|J) _
  .exact ⟨1,0,0,ag ⟨rfl,rfl,rfl⟩,((Bw p m hb) _).2 rfl⟩
  exact ⟨5,t,0,ab (ag ⟨rfl,rfl,rfl⟩),by rw[fP (pX ht.1 ht.2)];exact J⟩
 .refine ok_eq (e0:=λ_=>⟨rfl,CZ p m g t ((m.T t).kD ((m.T t).fr++[f])) (some ⟨kb,0,none⟩,ck)⟩) (er:=λa8=>?_) (eq:=λe=>⟨qG g _ (by omega),?_,?_⟩) (e6:=λe=>?_) (hx:=kG a1)
  .have a4:x≠1:=λe=>hC (ag ⟨e,jC a1 (by omega)⟩);have h5:¬(x=5/\y=t):=λe=>hC (ab (ag ⟨e.1,e.2,by have:=e.1;subst this;exact(uh a1).2.2⟩));refine⟨qG g _ h5,?_,?_⟩
   .unfold qz;by_cases e5:x=5
    .subst e5;show((m.push t f).T y).fr.length=(m.T y).fr.length;rw[W y (λe=>h5 ⟨rfl,e⟩)]
    rw [aa e5,aa e5];rfl
   unfold rC;rw[aa a4,aa a4];by_cases e3:x=3
   .rw [aj e3,aj e3];rfl
   rw[aa e3,aa e3];by_cases e4:x=4
   .rw [aj e4,aj e4];rfl
   rw[aa e4,aa e4];have e5:x=5:=by unfold Ey at a8;omega
   have a0:y≠t:=λe=>h5 ⟨e5,e⟩;rw[W y a0];refine iD (λi _=>?_);unfold fE;rw[Y,aa (λe=>a0 e.1),ph _ _ (λe=>a0 e.1)];rfl
  .unfold qz;rcases e with rfl|rfl<;>rfl
  .rcases e with rfl|rfl<;>rfl
  subst e;have hn:¬(y=t/\z=(m.T t).fr.length):=λe=>hC (ab (ab ⟨rfl,e⟩));rw[Y,aa hn,ph _ _ hn];exact⟨rfl,rfl,rfl⟩
 .rintro x y z (⟨rfl,rfl,rfl⟩|⟨rfl,rfl,rfl⟩|⟨rfl,rfl,rfl⟩)
  .show World.ownsRow _ 0 167 8 (.slice ((g.at 5 t (some ⟨kb,0,none⟩,ck)).ro 1 0).1 m.nt ((g.at 5 t (some ⟨kb,0,none⟩,ck)).ro 1 0).2) m.nt (rowP (m.nt*8) (tE (m.push t f) (g.at 5 t (some ⟨kb,0,none⟩,ck))));rw[qG g _ (by omega),G];refine mn h1 h2 (hT.congr (λi hi=>?_));have:=Cb m g ht.1 ((m.T t).fr++[f]) (some ⟨kb,0,none⟩,ck) i;rw[show((m.T t).fr++[f]).length=(m.T t).fr.length+1 by rw[bo];rfl]at this;exact this.symm
  .rw [fP v5];show World.ownsRow _ 0 163 4 (.slice ((g.at 5 y (some ⟨kb,0,none⟩,ck)).ro 5 y).1 ((m.push y f).T y).fr.length ((g.at 5 y (some ⟨kb,0,none⟩,ck)).ro 5 y).2) ((m.push y f).T y).fr.length (rowP (((m.push y f).T y).fr.length*4) (fE p (m.push y f) ((g.at 5 y (some ⟨kb,0,none⟩,ck)).oD y (m.T y).fr.length vb) y));rw[xS,Z];have a3:∀i k,k<4->fE p (m.push y f) ((g.at 5 y (some ⟨kb,0,none⟩,ck)).oD y (m.T y).fr.length vb) y (i*4+k)=if i=(m.T y).fr.length then fC p f vb k else fE p m g y (i*4+k):=λi k J=>by
    rw[tA _ _ _ _ J,tA _ _ _ _ J,Y];by_cases e:i=(m.T y).fr.length
    .rw [aj e,aj ⟨rfl,e⟩,e,ve]
    rw [aa e,aa (λe'=>e e'.2),ph _ _ (λe'=>e e'.2)];rfl
   rw[show((m.T y).fr.length+1)*4=(m.T y).fr.length*4+4 by omega,<-sA (n:=(m.T y).fr.length*4) (k:=4) (P:=fE p m g y) (ys:=[fC p f vb 0,fC p f vb 1,fC p f vb 2,fC p f vb 3]) (λj hj=>?_) rfl (λj hj=>?_)]
   .exact hK
   .have:=a3 (j / 4) (j % 4) (by omega);rw[show j / 4*4+j % 4=j by omega,aa (by omega)]at this;exact this
   rw [a3 _ _ hj,aj rfl];have hc:j=0\/j=1\/j=2\/j=3:=by omega
   rcases hc with rfl|rfl|rfl|rfl<;>rfl
  rw [fP v6];show Full w' (((g.at 5 y (some ⟨kb,0,none⟩,ck)).oD y (m.T y).fr.length vb).rb y (m.T y).fr.length) 115 (p.rg (fj (m.push y f) y (m.T y).fr.length).f*2) (p.rg (fj (m.push y f) y (m.T y).fr.length).f*2) (eC (fj (m.push y f) y (m.T y).fr.length).R);rw[Y,aj ⟨rfl,rfl⟩,ve];exact hV
 rintro x y z k (⟨rfl,rfl,rfl⟩|⟨rfl,rfl,rfl⟩|⟨rfl,rfl,rfl⟩) H
 .left
  have o:eO ((g.at 5 t (some ⟨kb,0,none⟩,ck)).ro 1 0).1=some k:=H;rw[qG g _ (by omega)]at o;exact o
 .rw [fP v5]at H;have o:eO ((g.at 5 y (some ⟨kb,0,none⟩,ck)).ro 5 y).1=some k:=H;rw[xS]at o;have a2:some kb=some k:=o;injection a2 with a2;subst a2;rcases J with J|J
  .left
   rw[fP (pX ht.1 ht.2)];exact J
  exact ab ⟨J,aa aA⟩
 rw [fP v6]at H;have o:k=((g.at 5 y (some ⟨kb,0,none⟩,ck)).oD y (m.T y).fr.length vb).rb y (m.T y).fr.length:=H;rw[ve]at o;subst o;exact ab ⟨hv,aj rfl⟩
def Dm.jw(m:Dm)(x:Dt):Dm:={ m with nt:=m.nt+1,T:=λt=>if t=m.nt+1 then x else m.T t }
theorem dQ.jw(h:dQ p m g w){tb tc kb vb:Nat}{x:Dt}{f:gY}(hx:x.fr=[f])(hO:dy (λk=>k=g.mb\/eO (g.ro 1 0).1=some k) w w')(hM:Full w' g.mb 112 24 24 (ep (mE p m g) 6 (.slice (some ⟨tb,0,none⟩) (m.nt+1) tc)))(hT:w'.ownsRow 0 167 8 (.slice (some ⟨tb,0,none⟩) (m.nt+1) tc) (m.nt+1) (rowP (m.nt*8) (tE m g)++[.slice (some ⟨kb,0,none⟩) 1 1,iK x.how,iK x.into,iK x.what,iK x.km,iK x.ji,iK x.out.1,iK x.out.2]))(hK:Full w' kb 163 4 4 (fC p f vb))(hV:Full w' vb 115 (p.rg f.f*2) (p.rg f.f*2) (eC f.R))(ht:eO (g.ro 1 0).1=some tb\/w.heap.size<=tb)(hk:w.heap.size<=kb)(hv:w.heap.size<=vb)(aE:kb≠vb)(aB:tb≠kb)(aC:tb≠vb):Tr p m g w (m.jw x) (((g.at 1 0 (some ⟨tb,0,none⟩,tc)).at 5 (m.nt+1) (some ⟨kb,0,none⟩,1)).oD (m.nt+1) 0 vb) w':=by
 have J:(m.jw x).T (m.nt+1)=x:=aj rfl;have a0:∀u,u≠m.nt+1->(m.jw x).T u=m.T u:=λu e=>aa e;have a9:∀y z,y≠m.nt+1->fj (m.jw x) y z=fj m y z:=λy z e=>by unfold fj;rw[a0 y e]
 have a2:fj (m.jw x) (m.nt+1) 0=f:=by unfold fj;rw[J,hx];rfl
 generalize H:((g.at 1 0 (some ⟨tb,0,none⟩,tc)).at 5 (m.nt+1) (some ⟨kb,0,none⟩,1)).oD (m.nt+1) 0 vb=g';have r1:g'.ro 1 0=(some ⟨tb,0,none⟩,tc):=by rw[<-H];exact(qG (g.at 1 0 (some ⟨tb,0,none⟩,tc)) (x:=5) (y:=m.nt+1) (some ⟨kb,0,none⟩,1) (by omega)).trans (xS _ _ _ _)
 have r5:g'.ro 5 (m.nt+1)=(some ⟨kb,0,none⟩,1):=by rw[<-H];exact xS _ _ _ _
 have ro:∀a b,¬(a=1/\b=0)->¬(a=5/\b=m.nt+1)->g'.ro a b=g.ro a b:=λa b e1 e2=>by rw[<-H];exact(qG _ _ e2).trans (qG _ _ e1)
 have a5:g'.rb (m.nt+1) 0=vb:=by rw[<-H];exact ve _ _ _ _
 have a6:∀a c,a≠m.nt+1->g'.rb a c=g.rb a c:=λa c e=>by rw[<-H];exact ph _ _ (λe'=>e e'.1)
 have a3:g'.mb=g.mb:=by rw[<-H];rfl
 have a7:g'.sb=g.sb:=by rw[<-H];rfl
 have a4:∀a b,a≠1->¬(a=5/\b=m.nt+1)->qz (m.jw x) a b=qz m a b:=λa b e1 e2=>by
  unfold qz;rw[aa e1,aa e1];by_cases Y:a=5
  .subst Y;show((m.jw x).T b).fr.length=(m.T b).fr.length;rw[a0 b (λe=>e2 ⟨rfl,e⟩)]
  rw [aa Y,aa Y];rfl
 have a1:∀a b,a≠1->¬(a=5/\b=m.nt+1)->iR (m.jw x) g' a b=iR m g a b:=λa b e1 e2=>by
  unfold iR;rw[ro a b (λe=>e1 e.1) e2,a4 a b e1 e2]
 have a8:iR (m.jw x) g' 1 0=.slice (some ⟨tb,0,none⟩) (m.nt+1) tc:=by
  unfold iR;rw[r1];rfl
 have aD:∀a b c,¬(a=5/\b=m.nt+1/\c=0)->¬(a=6/\b=m.nt+1/\c=0)->vd p (m.jw x) a b c=vd p m a b c:=λa b c e1 e2=>by
  unfold vd;by_cases Y:a=5
  .subst Y;show decide (1<=b/\b<=m.nt+1/\c=0)=decide (1<=b/\b<=m.nt/\c=0);apply decide_eq_decide.2
   have:¬(b=m.nt+1/\c=0):=λe=>e1 ⟨rfl,e⟩;omega
  rw[aa Y,aa Y];by_cases h6:a=6
  .subst h6;show decide (1<=b/\b<=m.nt+1/\c<((m.jw x).T b).fr.length)=decide (1<=b/\b<=m.nt/\c<(m.T b).fr.length);apply decide_eq_decide.2
   by_cases eb:b=m.nt+1
   .subst eb;rw[J,hx];have:c≠0:=λe=>e2 ⟨rfl,rfl,e⟩;show(1<=m.nt+1/\m.nt+1<=m.nt+1/\c<1)↔_;omega
   rw [a0 b eb];omega
  rw[aa h6,aa h6];rfl
 have v5:vd p (m.jw x) 5 (m.nt+1) 0=true:=pX (by omega) (bj _);have v6:vd p (m.jw x) 6 (m.nt+1) 0=true:=Az (by omega) (bj _) (by rw[J,hx];exact Nat.lt_succ_self 0)
 refine h.to (λa b c=>(a=0/\b=0/\c=0)\/(a=1/\b=0/\c=0)\/(a=5/\b=m.nt+1/\c=0)\/(a=6/\b=m.nt+1/\c=0)) (λk=>if k=vb then(6,m.nt+1,0) else if k=kb then(5,m.nt+1,0) else(1,0,0)) (hO.mono ?_) (λa b c hC=>jT (aD a b c (λe=>hC (ab (ab (ag e)))) (λe=>hC (ab (ab (ab e))))) (λZ=>?_)) ?_ ?_ a3
 .rintro k (rfl|hk) _
  .exact ⟨0,0,0,ag ⟨rfl,rfl,rfl⟩,rfl⟩
  exact ⟨1,0,0,ab (ag ⟨rfl,rfl,rfl⟩),hk⟩
 .have h1:a≠1:=λe=>hC (ab (ag ⟨e,jC Z (by omega)⟩));have Y:¬(a=5/\b=m.nt+1):=λe=>by
   obtain⟨rfl,rfl⟩:=e;have:=(uh Z).2.1;omega
  refine ok_eq (e0:=λe=>ch e (λe=>hC (ag ⟨e,jC Z (by omega)⟩))) (er:=λhr=>⟨ro a b (λe=>h1 e.1) Y,a4 a b h1 Y,?_⟩) (eq:=λe=>⟨ro a b (λe=>h1 e.1) Y,a4 a b h1 Y,?_⟩) (e6:=λe=>?_) (e7:=λ_=>⟨by rw[a7],rfl⟩) (hx:=kG Z)
  .unfold rC;rw[aa h1,aa h1];by_cases e3:a=3
   .rw [aj e3,aj e3];refine iD (λi _=>?_);unfold cE;rw[a7];rfl
   rw[aa e3,aa e3];by_cases e4:a=4
   .rw [aj e4,aj e4];rfl
   rw[aa e4,aa e4];have e5:a=5:=by unfold Ey at hr;omega
   have hb:b≠m.nt+1:=λe=>Y ⟨e5,e⟩;rw[a0 b hb];refine iD (λi _=>?_);unfold fE;rw[a9 b _ hb,a6 b _ hb]
  .unfold qC;rcases e with rfl|rfl<;>rfl
  subst e;have hb:b≠m.nt+1:=λe=>by
   have:=(wv Z).2.1;omega
  rw[a9 b _ hb,a6 b _ hb];exact⟨rfl,rfl,rfl⟩
 .rintro a b c (⟨rfl,rfl,rfl⟩|⟨rfl,rfl,rfl⟩|⟨rfl,rfl,rfl⟩|⟨rfl,rfl,rfl⟩)
  .show Full w' g'.mb 112 24 24 (mE p (m.jw x) g');rw[a3];refine hM.congr (λi hi=>?_);show(if i=6 then _ else _)=_;by_cases e6:i=6
   .subst e6;rw[aj rfl];exact a8.symm
   rw [aa e6];unfold mE;rw[aa e6,aa e6,a1 2 0 (by decide) (by omega),a1 10 _ (by decide) (by omega),a1 3 0 (by decide) (by omega),a1 4 0 (by decide) (by omega)];rfl
  .show World.ownsRow _ 0 167 8 (.slice (g'.ro 1 0).1 (m.nt+1) (g'.ro 1 0).2) (m.nt+1) (rowP ((m.nt+1)*8) (tE (m.jw x) g'));rw[r1,show(m.nt+1)*8=m.nt*8+8 by omega,<-sA (n:=m.nt*8) (k:=8) (P:=tE m g) (ys:=[.slice (some ⟨kb,0,none⟩) 1 1,iK x.how,iK x.into,iK x.what,iK x.km,iK x.ji,iK x.out.1,iK x.out.2]) (λj hj=>?_) rfl (λj hj=>?_)]
   .exact hT
   .unfold tE;rw[a0 _ (by omega),a1 5 _ (by decide) (by omega)]
   unfold tE;rw[show(m.nt*8+j) / 8+1=m.nt+1 by omega,show(m.nt*8+j) % 8=j by omega,J];have aA:iR (m.jw x) g' 5 (m.nt+1)=.slice (some ⟨kb,0,none⟩) 1 1:=by
    unfold iR;rw[r5];show Value.slice _ ((m.jw x).T (m.nt+1)).fr.length _=_;rw[J,hx];rfl
   rw[aA];have hc:j=0\/j=1\/j=2\/j=3\/j=4\/j=5\/j=6\/j=7:=by omega
   rcases hc with rfl|rfl|rfl|rfl|rfl|rfl|rfl|rfl<;>rfl
  .rw [fP v5];show World.ownsRow _ 0 163 4 (.slice (g'.ro 5 (m.nt+1)).1 ((m.jw x).T (m.nt+1)).fr.length (g'.ro 5 (m.nt+1)).2) ((m.jw x).T (m.nt+1)).fr.length (rowP (((m.jw x).T (m.nt+1)).fr.length*4) (fE p (m.jw x) g' (m.nt+1)));rw[r5,J,hx];refine mn (n:=1) (c:=1) (sz:=4) (bj _) (by unfold maxLen;omega) (hK.congr (λj hj=>?_));have:=tA p (m.jw x) g' (m.nt+1) (i:=0) (k:=j) hj;rw[Nat.zero_mul,Nat.zero_add]at this;rw[this,a2,a5]
  rw [fP v6];show Full w' (g'.rb (m.nt+1) 0) 115 (p.rg (fj (m.jw x) (m.nt+1) 0).f*2) (p.rg (fj (m.jw x) (m.nt+1) 0).f*2) (eC (fj (m.jw x) (m.nt+1) 0).R);rw[a2,a5];exact hV
 rintro a b c k (⟨rfl,rfl,rfl⟩|⟨rfl,rfl,rfl⟩|⟨rfl,rfl,rfl⟩|⟨rfl,rfl,rfl⟩) W
 .have:k=g'.mb:=W;exact ag (this.trans a3)
 .have o:eO (g'.ro 1 0).1=some k:=W;rw[r1]at o;have G:some tb=some k:=o;injection G with G;subst G;exact ht.imp id (λe=>⟨e,by rw[aa aC,aa aB]⟩)
 .rw [fP v5]at W;have o:eO (g'.ro 5 (m.nt+1)).1=some k:=W;rw[r5]at o;have G:some kb=some k:=o;injection G with G;subst G;exact ab ⟨hk,by rw[aa aE,aj rfl]⟩
 rw [fP v6]at W;have o:k=g'.rb (m.nt+1) 0:=W;rw[a5]at o;subst o;exact ab ⟨hv,aj rfl⟩
def Dm.lN(m:Dm)(ty:Nat)(l:List B.V):Dm:={ m with nc:=m.nc+1,M:=λc=>if c=m.nc+1 then l else m.M c,ck:=λc=>if c=m.nc+1 then ty else m.ck c }
def Dg.slt(g:Dg)(c b:Nat):Dg:={ g with sb:=λa=>if a=c then b else g.sb a }
theorem Tr.lN{m0:Dm}{g0:Dg}{w0:World}(h0:Tr p m0 g0 w0 m g w){cb cc J ty:Nat}{l:List B.V}(hO:dy (λk=>k=g.mb\/eO (g.ro 3 0).1=some k) w w')(hM:Full w' g.mb 112 24 24 (ep (mE p m g) 12 (.slice (some ⟨cb,0,none⟩) (m.nc+1) cc)))(hC:w'.ownsRow 0 233 2 (.slice (some ⟨cb,0,none⟩) (m.nc+1) cc) (m.nc+1) (rowP (m.nc*2) (cE m g)++[.slice (some ⟨J,0,none⟩) l.length l.length,iK ((ty:Int)-1)]))(hS:Full w' J 115 (l.length*2) (l.length*2) (eC (kT l)))(hc:eO (g.ro 3 0).1=some cb\/(¬ey p m g cb/\w0.heap.size<=cb))(hs:¬ey p m g J/\w0.heap.size<=J)(a7:cb≠J):Tr p m0 g0 w0 (m.lN ty l) ((g.at 3 0 (some ⟨cb,0,none⟩,cc)).slt (m.nc+1) J) w':=by
 have a3:(m.lN ty l).M (m.nc+1)=l:=aj rfl;have a4:∀u,u≠m.nc+1->(m.lN ty l).M u=m.M u:=λu e=>aa e;have a6:(m.lN ty l).ck (m.nc+1)=ty:=aj rfl;have a8:∀u,u≠m.nc+1->(m.lN ty l).ck u=m.ck u:=λu e=>aa e;generalize y:(g.at 3 0 (some ⟨cb,0,none⟩,cc)).slt (m.nc+1) J=g';have r3:g'.ro 3 0=(some ⟨cb,0,none⟩,cc):=by rw[<-y];exact xS g 3 0 (some ⟨cb,0,none⟩,cc)
 have ro:∀a b,¬(a=3/\b=0)->g'.ro a b=g.ro a b:=λa b o=>by rw[<-y];exact qG g (some ⟨cb,0,none⟩,cc) o
 have s1:g'.sb (m.nc+1)=J:=by rw[<-y];exact aj rfl
 have so:∀a,a≠m.nc+1->g'.sb a=g.sb a:=λa e=>by rw[<-y];exact aa e
 have Z:g'.mb=g.mb:=by rw[<-y];rfl
 have a2:g'.rb=g.rb:=by rw[<-y];rfl
 have a1:∀a b,a≠3->qz (m.lN ty l) a b=qz m a b:=λa b o=>by
  unfold qz;rw[aa o,aa o];rfl
 have G:∀a b,a≠3->iR (m.lN ty l) g' a b=iR m g a b:=λa b o=>by
  unfold iR;rw[ro a b (λe=>o e.1),a1 a b o]
 have a9:∀a b c,¬(a=7/\b=m.nc+1/\c=0)->vd p (m.lN ty l) a b c=vd p m a b c:=λa b c o=>by
  unfold vd;by_cases h7:a=7
  .subst h7;show decide (1<=b/\b<=m.nc+1/\c=0)=decide (1<=b/\b<=m.nc/\c=0);apply decide_eq_decide.2
   have:¬(b=m.nc+1/\c=0):=λe=>o ⟨rfl,e⟩;omega
  rw[aa h7,aa h7];rfl
 have v7:vd p (m.lN ty l) 7 (m.nc+1) 0=true:=Gw (by omega) (bj _);refine Tr.to (λa b c=>(a=0/\b=0/\c=0)\/(a=3/\b=0/\c=0)\/(a=7/\b=m.nc+1/\c=0)) (λk=>if k=J then(7,m.nc+1,0) else(3,0,0)) h0 (hO.mono ?_) (λa b c hC=>jT (a9 a b c (λe=>hC (ab (ab e)))) (λY=>?_)) ?_ ?_ Z
 .rintro k (rfl|hk) _
  .exact ⟨0,0,0,ag ⟨rfl,rfl,rfl⟩,rfl⟩
  exact ⟨3,0,0,ab (ag ⟨rfl,rfl,rfl⟩),hk⟩
 .have h0:a≠0:=λe=>hC (ag ⟨e,jC Y (by omega)⟩);have h3:a≠3:=λe=>hC (ab (ag ⟨e,jC Y (by omega)⟩));refine ok_eq (e0:=λe=>ch e h0) (er:=λhr=>⟨ro a b (λe=>h3 e.1),a1 a b h3,?_⟩) (eq:=λe=>⟨ro a b (λe=>h3 e.1),a1 a b h3,?_⟩) (e6:=λ_=>⟨by rw[a2],rfl,rfl⟩) (e7:=λe=>?_) (hx:=kG Y)
  .unfold rC;rw[aa h3,aa h3];by_cases o:a=1
   .rw [aj o,aj o];refine iD (λi _=>?_);unfold tE;rw[G 5 _ (by decide)];rfl
   rw[aa o,aa o];by_cases e4:a=4
   .rw [aj e4,aj e4];rfl
   rw[aa e4,aa e4];refine iD (λi _=>?_);unfold fE;rw[a2];rfl
  .unfold qC;rcases e with rfl|rfl<;>rfl
  subst e;have hb:b≠m.nc+1:=λe=>by
   have:=(zl Y).2.1;omega
  exact⟨so b hb,a4 b hb⟩
 .rintro a b c (⟨rfl,rfl,rfl⟩|⟨rfl,rfl,rfl⟩|⟨rfl,rfl,rfl⟩)
  .show Full w' g'.mb 112 24 24 (mE p (m.lN ty l) g');rw[Z];refine hM.congr (λi hi=>?_);show(if i=12 then _ else _)=_;by_cases e6:i=12
   .subst e6;rw[aj rfl];show _=Value.slice (g'.ro 3 0).1 (m.nc+1) (g'.ro 3 0).2;rw[r3]
   rw [aa e6];unfold mE;rw[aa e6,aa e6,G 1 0 (by decide),G 2 0 (by decide),G 10 _ (by decide),G 4 0 (by decide)];rfl
  .show World.ownsRow _ 0 233 2 (.slice (g'.ro 3 0).1 (m.nc+1) (g'.ro 3 0).2) (m.nc+1) (rowP ((m.nc+1)*2) (cE (m.lN ty l) g'));rw[r3,show(m.nc+1)*2=m.nc*2+2 by omega,<-sA (n:=m.nc*2) (k:=2) (P:=cE m g) (ys:=[.slice (some ⟨J,0,none⟩) l.length l.length,iK ((ty:Int)-1)]) (λj hj=>?_) rfl (λj hj=>?_)]
   .exact hC
   .unfold cE;rw[so _ (by omega),a4 _ (by omega),a8 _ (by omega)]
   unfold cE;rw[show(m.nc*2+j) / 2+1=m.nc+1 by omega,s1,a3,a6];have a5:j=0\/j=1:=by omega
   rcases a5 with rfl|rfl
   .rw [aj (by omega)];rfl
   rw [aa (by omega)];rfl
  rw [fP v7];show Full w' (g'.sb (m.nc+1)) 115 (((m.lN ty l).M (m.nc+1)).length*2) (((m.lN ty l).M (m.nc+1)).length*2) (eC (kT ((m.lN ty l).M (m.nc+1))));rw[s1,a3];exact hS
 rintro a b c k (⟨rfl,rfl,rfl⟩|⟨rfl,rfl,rfl⟩|⟨rfl,rfl,rfl⟩) W
 .have:k=g'.mb:=W;exact ag (this.trans Z)
 .have H:eO (g'.ro 3 0).1=some k:=W;rw[r3]at H;have a0:some cb=some k:=H;injection a0 with a0;subst a0;exact hc.imp id (λe=>⟨e.1,e.2,aa a7⟩)
 rw [fP v7]at W;have H:k=g'.sb (m.nc+1):=W;rw[s1]at H;subst H;exact ab ⟨hs.1,hs.2,aj rfl⟩
theorem Tryz.Fc:(prog.info? 167).map (λi=>(i.zero,i.size,i.bytes))=some (some (.agg #[.slice none 0 0,.int .i64 0,.int .i64 0,.int .i64 0,.int .i64 0,.int .i64 0,.int .i64 0,.int .i64 0]),8,80):=by kernel_rfl
theorem Tryz.underlying106:prog.underlying 106=some (.slice 167):=by kernel_rfl
def At(m:Dm)(g g1:Dg):Prop:=(∀t i,t<=m.nt->g1.rb t i=g.rb t i)/\g1.sb=g.sb
theorem Eu{b tb tc:Nat}{o2:Obj}{w2 w6 W:World}{f:gY}{x:Dt}(h:dQ p m g w)(Z:w.grownBy w2 none)(hx:x.fr=[f])(hV:Full w2 b 115 (p.rg f.f*2) (p.rg f.f*2) (eC f.R))(hb:w.heap.size<=b)(ho:w6.ownsRow 0 167 8 (.slice (some ⟨tb,0,none⟩) (m.nt+1) tc) (m.nt+1) (rowP (m.nt*8) (tE m g)++[.slice (some ⟨w2.heap.size,0,none⟩) 1 1,iK x.how,iK x.into,iK x.what,iK x.km,iK x.ji,iK x.out.1,iK x.out.2]))(o:W.grownBy w6 (Value.slice (g.ro 1 0).1 m.nt (g.ro 1 0).2).ownBlock)(a6:jE W.heap.size (.slice (g.ro 1 0).1 m.nt (g.ro 1 0).2) (.slice (some ⟨tb,0,none⟩) (m.nt+1) tc))(hW:W.heap=((w2.alloc (.cells #[fC p f b 0,fC p f b 1,fC p f b 2,fC p f b 3] 163)).alloc o2).heap)(J:W.os=w2.os/\W.tape=w2.tape/\W.output=w2.output): ∃g1,Tr p m g w (m.jw x) g1 (w6.setCell ⟨g.mb,6,none⟩ (.slice (some ⟨tb,0,none⟩) (m.nt+1) tc))/\At m g g1:=by
 have h2:=h.kept Z;have a2:(Value.slice (g.ro 1 0).1 m.nt (g.ro 1 0).2).ownBlock=eO (g.ro 1 0).1:=dr _ _ _;rw[a2]at o;have a9:W.heap.size=w2.heap.size+2:=by rw[hW];simp
 have u:∀k,eO (g.ro 1 0).1=some k->k<w.heap.size/\k≠g.mb:=λk H=>⟨h.lt ⟨1,0,0,H⟩,h.ne (x:=1) (y:=0) (z:=0) (x':=0) (y':=0) (z':=0) rfl rfl H rfl (by omega)⟩;have aA:=Z.size;have Y:∀k,k<w2.heap.size->eO (g.ro 1 0).1≠some k->w6.heap[k]? = w2.heap[k]?:=λk H hn=>by
  rw[o.block k (by omega) (λe=>hn e.symm),hW,ak _ _ _ (by simp;omega),ak _ _ _ H]
 have a7:w6.heap[w2.heap.size]? = some (.cells #[fC p f b 0,fC p f b 1,fC p f b 2,fC p f b 3] 163 (0,0)):=by
  rw[o.block w2.heap.size (by omega) (λe=>by have:=(u _ e.symm).1;omega),hW,ak _ _ _ (by simp)];exact bf _ _
 have a5:g.mb<w2.heap.size:=h2.M.lt;have a0:=h2.M.block (Y g.mb a5 (λe=>(u _ e).2 rfl))
 have a1:=hV.block (Y b hV.lt (λe=>by have:=(u _ e).1;omega));have G:eO (g.ro 1 0).1=some tb\/W.heap.size<=tb:=by
  rcases a6 with e|⟨b',e1,e2⟩
  .left
   rw[<-a2,<-e];rfl
  right
  have:tb=b':=by injection e1
  omega
 have a4:tb≠g.mb:=by
  rcases G with e|e
  .exact(u _ e).2
  omega
 refine⟨_,h.jw hx (kb:=w2.heap.size) (vb:=b) (tb:=tb) (tc:=tc) (f:=f) (bm (S:=λk=>k=g.mb\/eO (g.ro 1 0).1=some k) (a:=⟨g.mb,6,none⟩) ⟨o.os.trans (J.1.trans Z.os),o.tape.trans (J.2.1.trans Z.tape),o.output.trans (J.2.2.trans Z.output),by have:=o.size;omega,λk H hn=>(Y k (by omega) (λe=>hn (ab e))).trans (Z.block k H (by intro e;cases e))⟩ (ag (ag rfl)) _) (a0.ep 6 _) ?_ ?_ ?_ (G.imp id (λe=>by omega)) (by omega) hb ?_ ?_ ?_,λt i ht=>ph _ _ (λe=>by omega),rfl⟩
 .exact dD ho (λk H=>af _ _ _ _ (by
   have:k=tb:=by simpa[Value.ownBlock] using H.symm
   rw[this];exact a4))
 .have hF:Full w6 w2.heap.size 163 4 4 (fC p f b):=⟨_,a7,rfl,λj hj=>by
   have hc:j=0\/j=1\/j=2\/j=3:=by omega
   rcases hc with rfl|rfl|rfl|rfl<;>rfl⟩
  exact hF.off (by omega)
 .exact a1.off (a1.ne a0 (by decide))
 .have:=hV.lt;omega
 .rcases G with e|e
  .have:=(u _ e).1;omega
  omega
 rcases G with e|e
 .have:=(u _ e).1;omega
 have:=hV.lt;omega
theorem GN{f:Nat}{u v:B.V}(h:dQ p m g w)(hf:f<p.nf)(hr:2<=p.rg f)(aT:p.rg f<=8)(hn:m.nt<1000000000)(hq:m.q.length<=1000000000): Calls prog 47 #[P0 g.mb,.int .i64 f,vA u,vA v] w λe w'=>e=.returned (.int .i64 ((m.nt:Int)+1))/\∃g',Tr p m g w (m.born f u v) g' w'/\At m g g':=by
 obtain⟨i0,hi,aL,aE,aC⟩:=info_parts Tryz.Fc;obtain⟨j0,i,aU,aM,aV⟩:=info_parts Tryz.qk;have c0:w.cell? ⟨g.mb,0,none⟩=some (.slice (some ⟨p.gb,0,none⟩) p.nf p.gc):=(h.mc 0 (by omega) rfl).1;have hP:=h.P.2.2;have c1:w.cell? ⟨p.gb,f*2,none⟩=some (.int .i64 (p.rg f:Int)):=by
  rw[hP.cell (f*2) (by omega)];unfold JC;rw[aj (by omega),show f*2 / 2=f by omega]
 have lm:g.mb<w.heap.size:=h.M.lt;have HR:=az h;have a5:Hid (∀w1,w.grownBy w1 none->Calls prog 74 #[P0 g.mb,.int .i64 f,vA u,vA v,.int .i64 0] w1 λe w'=>∃b,e=.returned (.agg #[.int .i64 f,.slice (some ⟨b,0,none⟩) (p.rg f) (p.rg f),.int .i64 0,.int .i64 0])/\w1.heap.size<=b/\Full w' b 115 (p.rg f*2) (p.rg f*2) (eC (gh u v))/\w1.grownBy w' none):=λw1 W=>xL ((bh W (a:=⟨g.mb,0,none⟩) lm).1.trans c0) ((bh W (a:=⟨p.gb,f*2,none⟩) hP.lt).1.trans c1) hf hr aT;obtain⟨u1,u2⟩:=u;obtain⟨v1,v2⟩:=v;clear h hP c0 c1;go_in;go_wp2_with fail
 refine(a5 _ (au (au (ax _ _) _) _)).mono ?_;rintro e w1 ⟨b,rfl,hb,hV,W⟩;have hg:w.grownBy w1 none:=an (au (au (ax _ _) _) _) W;have aQ:w.heap.size<=b:=by simp at hb;omega
 have HV:=az hV;have HG:=az hg;clear hV W hb a5;go_wp2_with fail
 have KG:Hid (w.grownBy (w1.alloc (.cells #[.int .i64 f,.slice (some ⟨b,0,none⟩) (p.rg f) (p.rg f),.int .i64 0,.int .i64 0] 163)) none):=au HG _;have Y:=bf w1 (.cells #[.int .i64 f,.slice (some ⟨b,0,none⟩) (p.rg f) (p.rg f),.int .i64 0,.int .i64 0] 163);have aB:Hid (Full (w1.alloc (.cells #[.int .i64 f,.slice (some ⟨b,0,none⟩) (p.rg f) (p.rg f),.int .i64 0,.int .i64 0] 163)) b 115 (p.rg f*2) (p.rg f*2) (eC (gh (u1,u2) (v1,v2)))):=HV.block (ak _ _ _ HV.lt);have aW:w1.heap.size<(w1.alloc (.cells #[.int .i64 f,.slice (some ⟨b,0,none⟩) (p.rg f) (p.rg f),.int .i64 0,.int .i64 0] 163)).heap.size:=by simp
 generalize w1.alloc (.cells #[.int .i64 f,.slice (some ⟨b,0,none⟩) (p.rg f) (p.rg f),.int .i64 0,.int .i64 0] 163)=w2 at *;have x0:w2.cell? ⟨w1.heap.size,0,none⟩=some (.int .i64 f):=by simp[World.cell?,Y]
 have x1:w2.cell? ⟨w1.heap.size,1,none⟩=some (.slice (some ⟨b,0,none⟩) (p.rg f) (p.rg f)):=by simp[World.cell?,Y]
 have x2:w2.cell? ⟨w1.heap.size,2,none⟩=some (.int .i64 0):=by simp[World.cell?,Y]
 have x3:w2.cell? ⟨w1.heap.size,3,none⟩=some (.int .i64 0):=by simp[World.cell?,Y]
 have Z:=az (HR.kept KG);obtain⟨c6,z6⟩:=Z.mc 6 (by omega) (v:=.slice (g.ro 1 0).1 m.nt (g.ro 1 0).2) rfl;have a6:=Z.M.lt;have HT:Hid (w2.ownsRow 0 167 8 (.slice (g.ro 1 0).1 m.nt (g.ro 1 0).2) m.nt (rowP (m.nt*8) (tE m g))):=Z.Tw;have a0:Hid (∀k,(Value.slice (g.ro 1 0).1 m.nt (g.ro 1 0).2).ownBlock=some k->k≠g.mb/\k<w2.heap.size):=λk hk=>⟨eL HT Z.M (by decide) k hk,(dA HT k hk).2.1⟩;clear Y aW;go_cut [] (λwx=>Hid (∃g1,Tr p m g w (m.jw ⟨[⟨f,0,gh (u1,u2) (v1,v2),(0,0,0,0)⟩],1,0,0,0,0,(0,0)⟩) g1 wx/\At m g g1))
 case first=>
  go_region_law (refine eS _ rfl (.tmp 19) (.tmp 23) 106 rfl 167 i0 _ 8 80 Tryz.underlying106 hi aL aE aC rfl (by decide) (g.ro 1 0).1 m.nt (g.ro 1 0).2 (rowP (m.nt*8) (tE m g)) (by first|rfl|simp[Act.eval,Act.put]) (dD HT (λk h=>(ak _ _ _ (by have:=(a0 k h).2;simp;omega)).trans (ak _ _ _ (a0 k h).2))) ⟨w2.heap.size+1,0,none⟩ 1 1 [.slice (some ⟨w2.heap.size,0,none⟩) 1 1,.int .i64 1,.int .i64 0,.int .i64 0,.int .i64 0,.int .i64 0,.int .i64 0,.int .i64 0] (by first|rfl|simp[Act.eval,Act.put]) rfl (by intro j u i;match j,i with|0,i=>(simp at i;subst i;simp[Addr.add,go_sem])|1,i=>(simp at i;subst i;simp[Addr.add,go_sem])|2,i=>(simp at i;subst i;simp[Addr.add,go_sem])|3,i=>(simp at i;subst i;simp[Addr.add,go_sem])|4,i=>(simp at i;subst i;simp[Addr.add,go_sem])|5,i=>(simp at i;subst i;simp[Addr.add,go_sem])|6,i=>(simp at i;subst i;simp[Addr.add,go_sem])|7,i=>(simp at i;subst i;simp[Addr.add,go_sem])) (by simp[Value.oneCell']) (by unfold maxLen;omega) (by omega) (by decide) ?_;intro v' w6 ho G a7;obtain⟨tb,tc,rfl⟩:=dM ho (by omega);have aI:=az ho;have a4:=az G;have aG:=az a7;have H:w6.heap[g.mb]? = w2.heap[g.mb]?:=((G.block g.mb (by first|(simp;omega)|simp) (λh=>(a0 _ h.symm).1 rfl)).trans ((ak _ _ _ (by first|(simp;omega)|simp)).trans (ak _ _ _ a6)));have d6:=(aw (a:=⟨g.mb,6,none⟩) H).trans c6;have y6:=(dg (a:=⟨g.mb,6,none⟩) H).trans z6;clear H ho G a7)
  all_goals
   go_wp2_with fail
   go_meet
   case rel=>
    exact Eu (x:=⟨[⟨f,0,gh (u1,u2) (v1,v2),(0,0,0,0)⟩],1,0,0,0,0,(0,0)⟩) (f:=⟨f,0,gh (u1,u2) (v1,v2),(0,0,0,0)⟩) HR KG rfl aB.out aQ aI.out a4.out aG.out rfl ⟨rfl,rfl,rfl⟩
 case rest=>
  have o:=hcut;obtain⟨g1,J,a9⟩:=o.out;have aK:=az a9;clear a9;obtain⟨aN,aH⟩:=J.r.mc 6 (by omega) (v:=.slice (g1.ro 1 0).1 (m.nt+1) (g1.ro 1 0).2) rfl;obtain⟨c7,z7⟩:=J.r.mc 7 (by omega) (v:=.slice (g1.ro 2 0).1 m.q.length (g1.ro 2 0).2) rfl;rw[J.b]at aN aH c7 z7;have HQ:Hid (fM wc 3 (.slice (g1.ro 2 0).1 m.q.length (g1.ro 2 0).2) (iI m.q)):=J.r.Q;have a1:=az J;have aD:g.mb<wc.heap.size:=by have:=J.r.M.lt;rw[J.b]at this;exact this
  have HK:Hid (∀k,(Value.slice (g1.ro 2 0).1 m.q.length (g1.ro 2 0).2).ownBlock=some k->k≠g.mb/\k<wc.heap.size):=λk hk=>by
   have aJ:eO (g1.ro 2 0).1=some k:=by rw[dr]at hk;exact hk
   refine⟨?_,HQ.out.lt k hk⟩;rw[<-a1.out.b];exact a1.out.r.ne (x:=2) (y:=0) (z:=0) (x':=0) (y':=0) (z':=0) rfl rfl aJ rfl (by omega)
  have aY:=iH m.q;clear J hcut o c6 z6 HT a0 Z aB x0 x1 x2 x3 a6;go_wp2_with fail
  go_cut [] (λwx=>Hid (∃g2,Tr p m g w (m.born f (u1,u2) (v1,v2)) g2 wx/\At m g g2))
  case first=>
   go_region_law (refine oz _ rfl (.tmp 31) (.tmp 37) 54 rfl 3 j0 _ 8 Tryz.g9 i aU aM aV rfl _ (iI m.q) (by first|rfl|simp[Act.eval,Act.put]) (HQ.out.block (λk h=>ak _ _ _ (HK.out k h).2)) ⟨wc.heap.size,0,none⟩ 1 (.int .i64 ((m.nt:Int)+1)) (by first|rfl|simp[Act.eval,Act.put]) (by simp[Addr.add,go_sem]) rfl (by unfold maxLen;omega) (by omega) ?_;intro gb aX c' w6 aA G a3;have aF:=az aA;have a4:=az G;have aS:=az a3;have H:w6.heap[g.mb]? = wc.heap[g.mb]?:=((G.block g.mb (by first|(simp;omega)|simp) (λh=>(HK.out _ h.symm).1 rfl)).trans (ak _ _ _ aD));have d7:=(aw (a:=⟨g.mb,7,none⟩) H).trans c7;have y7:=(dg (a:=⟨g.mb,7,none⟩) H).trans z7;clear H aA G a3)
   all_goals
    go_wp2_with fail
    go_meet
    case rel=>
     have hq:=aF.out;rw[iH]at hq;have h2:=Tr.qv (t:=m.nt+1) (a1.out.kept (bq (ah wc (.cells #[.int .i64 ((m.nt:Int)+1)] 3) none))) hq a4.out aS.out;rw[a1.out.b]at h2;exact⟨_,h2,aK.out⟩
  case rest=>
   have o:=hcut;obtain⟨g2,a2,a8⟩:=o.out;have aP:=az a8;clear a8;obtain⟨d6,_⟩:=a2.r.mc 6 (by omega) (v:=.slice (g2.ro 1 0).1 (m.nt+1) (g2.ro 1 0).2) rfl;rw[a2.b]at d6;have aR:=az a2;clear a2 hcut o;go_wp2_with fail
   go_ret;exact⟨rfl,g2,aR.out,aP.out⟩
end D
namespace D
open F
structure PD(p:dz) (d:Dp):Prop where
 n:d.n=p.n
 qn:d.qn=p.qn
 wk:d.wk=p.wk
 mt:d.mt=p.mt
 nf:d.nf=p.nf
 len:∀f,f<p.nf->d.len f=p.len f
 rg:∀f,f<p.nf->d.rg f=p.rg f
 ins:∀f i,f<p.nf->i<p.len f->d.ins f i=p.ins f i
def tr(ρ:Nat->Nat)(v:B.V):B.V:=if v.1=0 then v else(ρ v.1,0)
structure FS(p:dz) (ρ:Nat->Nat) (i:Nat) (a b:gY):Prop where
 f:b.f=a.f
 nx:b.nx=a.nx
 bk:i≠0->b.bk.2.1=a.bk.2.1
 R:∀k,k<p.rg a.f->b.R k=tr ρ (a.R k)
structure HS(a:oT) (b:Dt):Prop where
 h0:a.wh=none->b.how=1
 h2:∀y,a.wh=some (2,y)->b.how=1
 h3:∀y,a.wh=some (3,y)->b.how=2/\b.km=a.iL
 h4:∀k,a.wh=some (4,k)->b.how=3/\b.what=k/\∃i,a.lf=some i/\b.into=(i.2.1:Int)
 h5:∀k,a.wh=some (5,k)->b.how=4/\b.what=k/\∃i,a.lf=some i/\b.into=(i.2.1:Int)
structure TS(p:dz) (ρ:Nat->Nat) (a:oT) (b:Dt):Prop where
 l:b.fr.length=a.fr.length
 f:∀i,i<a.fr.length->FS p ρ i (a.fr.getD i mr) (b.fr.getD i mr)
 o:b.out=(0,0)
 h:HS a b
structure CS(N:Nat->List B.V) (ck:Nat->Nat) (nc:Nat) (M':Nat->List B.V) (ck':Nat->Nat) (ρ:Nat->Nat) (c:Nat):Prop where
 c1:1<=ρ c
 c2:ρ c<=nc
 M:M' (ρ c)=(N c).map (tr ρ)
 k:ck' (ρ c)=ck c
 f:ck c≠0->N c≠[]
 l:(N c).length<=8
def FI(m:Dm)(x a b:Nat):Prop:=if x=3 then(m.T a).km<(m.T b).km\/((m.T a).km=(m.T b).km/\(m.T a).ji<(m.T b).ji) else(m.T a).ji<(m.T b).ji
def m9(s:Pl)(t:Nat):B.V:=s.out.getD (t-1) (0,0)
abbrev ou(p:dz)(s:Pl)(c:Nat):Prop:=B.lS (eh p s) s.M c
def GA(G:Dc)(n:Nat):Prop:=G.all=n/\G.sure<=n/\G.lO<=n
structure eK(p:dz) (K:Nat) (s:Pl) (m:Dm) (ρ:Nat->Nat):Prop where
 nt:m.nt=s.nt
 q:m.q=s.q 2 0
 Ee:m.jo=s.jo
 sp:m.sp=s.sp
 ev:m.ev=s.ev
 ck:m.eY=s.eY
 T:∀t,t∈s.lv->TS p ρ (s.T t) (m.T t)
 O:∀t,fe s t->t∉s.lv->(m.T t).how=5/\(m.T t).fr=[]/\(m.T t).out=tr ρ (m9 s t)
 C:∀c,ou p s c->CS s.M s.ck m.nc m.M m.ck ρ c
 I:∀c c',ou p s c->ou p s c'->ρ c=ρ c'->c=c'
 Kp:∀v,v∈s.kp->∃t,fe s t/\t∉s.lv/\m9 s t=v
 L:∀x y,fz s x y->x≠2->(s.q x y).Pairwise (FI m x)
 N:∀t,t∈s.lv->(m.T t).ji<=m.ji
 A:GA m.G m.nc
 lm:s.lv.length<=p.mt
 B:m.nc<=K/\m.ji<=K
theorem sm{ρ:Nat->Nat}(x:Int):tr ρ (0,x)=(0,x):=aj rfl
theorem om{ρ:Nat->Nat}{v:B.V}(h:v.1=0):tr ρ v=v:=aj h
theorem oZ{ρ:Nat->Nat}{v:B.V}(h:v.1≠0):tr ρ v=(ρ v.1,0):=aa h
end D
namespace D
open F
variable {p : dz} {K K' : Nat} {s s' : Pl} {m m' : Dm} {ρ : Nat → Nat} {X : Nat → Prop}
theorem ou.sub(u:s'.M=s.M)(i:∀v,qw p s' v->dN p s v){c:Nat}(e:ou p s' c):ou p s c:=by
 unfold ou at e;rw[u]at e;exact B.sI (λv o=>i v (gi.1 o)) e
theorem eK.cells(h:eK p K s m ρ)(i:s'.M=s.M)(y:s'.ck=s.ck)(u:∀v,qw p s' v->dN p s v)(e:m'.nc=m.nc/\m'.M=m.M/\m'.ck=m.ck):(∀c,ou p s' c->CS s'.M s'.ck m'.nc m'.M m'.ck ρ c)/\∀c o,ou p s' c->ou p s' o->ρ c=ρ o->c=o:=
 ⟨λc k=>by
  obtain⟨c1,Z,J,H,Y,G⟩:=h.C c (ou.sub i u k);exact⟨c1,by rw[e.1];exact Z,by rw[e.2.1,i];exact J,by rw[e.2.2,y];exact H,by rw[i,y];exact Y,by rw[i];exact G⟩,λc o k W=>h.I c o (ou.sub i u k) (ou.sub i u W)⟩
theorem GS{t:Nat}(Z:∀u,u∈s'.lv->u∈s.lv)(W:s'.kp=s.kp)(J:∀u,u≠t->s'.T u=s.T u)(ht:t∈s'.lv->∀i,i<(s'.T t).fr.length->∀a,a<p.rg (de s' t i).f->dN p s ((de s' t i).R a)):∀v,qw p s' v->dN p s v:=by
 rintro v (⟨u,i,a,G,hi,o,e⟩|H)
 .by_cases y:u=t
  .subst y;rw[<-e];exact ht G i hi a o
  have Y:de s' u i=de s u i:=gJ (by rw[J u y]);rw[Y]at o e;rw[J u y]at hi;exact dN.root (ag ⟨u,i,a,Z u G,hi,o,e⟩)
 rw[W]at H;exact dN.root (ab H)
theorem eK.ep{t:Nat}(h:eK p K s m ρ)(a2:t∈s.lv)(e:s'.nt=s.nt/\s'.lv=s.lv/\s'.out=s.out/\s'.kp=s.kp/\s'.M=s.M/\s'.ck=s.ck)(e':m'.nt=m.nt/\m'.nc=m.nc/\m'.M=m.M/\m'.ck=m.ck/\m'.G=m.G)(hs:∀u,u≠t->s'.T u=s.T u)(hm:∀u,u≠t->m'.T u=m.T u)(ht:TS p ρ (s'.T t) (m'.T t))(hg:∀i,i<(s'.T t).fr.length->∀a,a<p.rg (de s' t i).f->dN p s ((de s' t i).R a))(hq:m'.q=s'.q 2 0)(hb:m'.jo=s'.jo)(a1:m'.sp=s'.sp)(a0:m'.ev=s'.ev)(Y:m'.eY=s'.eY)(hL:∀x y,fz s x y->x≠2->(s'.q x y).Pairwise (FI m' x))(hN:(m'.T t).ji<=m'.ji/\m.ji<=m'.ji)(hK:K<=K'/\m'.ji<=K'):eK p K' s' m' ρ:=by
 obtain⟨W,J,e3,e4,e5,e6⟩:=e;obtain⟨f1,Z,f3,f4,f5⟩:=e';have ho:∀u,m9 s' u=m9 s u:=λu=>by unfold m9;rw[e3]
 obtain⟨k1,k2⟩:=h.cells (m':=m') e5 e6 (GS (p:=p) (λu H=>by rw[<-J];exact H) e4 hs (λ_=>hg)) ⟨Z,f3,f4⟩;refine⟨by rw[f1,W];exact h.nt,hq,hb,a1,a0,Y,λu H=>?_,λu H hn=>?_,k1,k2,λv hv=>?_,λx y hl hx=>hL x y ((fQ W).1 hl) hx,λu H=>?_,by rw[f5,Z];exact h.A,by rw[J];exact h.lm,by rw[Z];exact dH h.B.1 hK.1,hK.2⟩
 .by_cases o:u=t
  .subst o;exact ht
  rw[hs u o,hm u o];exact h.T u (by rw[<-J];exact H)
 .rw[J]at hn;have o:u≠t:=λo=>hn (o▸a2);rw[hm u o,ho];exact h.O u ((eg W).1 H) hn
 .rw[e4]at hv;obtain⟨u,u1,u2,u3⟩:=h.Kp v hv;exact⟨u,(eg W).2 u1,by rw[J];exact u2,by rw[ho];exact u3⟩
 by_cases o:u=t
 .subst o;exact hN.1
 rw[hm u o];exact dH (h.N u (by rw[<-J];exact H)) hN.2
theorem vT{x:Nat}{l:List Nat}(u:l.Pairwise (FI m x))(h:∀a,a∈l->(m'.T a).km=(m.T a).km/\(m'.T a).ji=(m.T a).ji):l.Pairwise (FI m' x):=by
 refine List.Pairwise.imp_of_mem ?_ u;intro a b i o e;unfold FI at e ⊢;rw[(h a i).1,(h a i).2,(h b o).1,(h b o).2];exact e
theorem eK.L0(h:eK p K s m ρ)(e:s'.q=s.q)(i:∀a,(m'.T a).km=(m.T a).km/\(m'.T a).ji=(m.T a).ji):∀x y,fz s x y->x≠2->(s'.q x y).Pairwise (FI m' x):=λx y o u=>by
 rw[e];exact vT (h.L x y o u) (λa _=>i a)
theorem CO(s:Pl)(t x y:Nat):((s.dw t).q x y).Sublist (s.q x y):=by
 cases hw:(s.T t).wh with
 | none=>rw[gd hw];exact List.Sublist.refl _
 | some i=>
  rw[fN (x:=i.1) (y:=i.2) hw];show((s.eZ i.1 i.2 ((s.q i.1 i.2).erase t)).q x y).Sublist _;by_cases e:x=i.1/\y=i.2
  .obtain⟨rfl,rfl⟩:=e;rw[fX];exact List.erase_sublist
  rw[fL _ _ e];exact List.Sublist.refl _
theorem CP{t x y a:Nat}(u:LW s)(ht:fe s t)(o:fz s x y)(i:a∈(s.dw t).q x y):a≠t:=λe=>by
 subst e;have:=((u.dw ht).b x y ((fQ (fO s a)).2 o) a i).2;rw[jd]at this
 cases this
theorem eK.Iq{t:Nat}(h:eK p K s m ρ)(G:LW s)(ht:fe s t)(o:∀u,u≠t->m'.T u=m.T u)(x y:Nat)(e:fz s x y)(hx:x≠2):((s.dw t).q x y).Pairwise (FI m' x):=
 vT ((h.L x y e hx).sublist (CO s t x y)) (λa i=>by rw[o a (CP G ht e i)];exact⟨rfl,rfl⟩)
theorem Rn.iE{t:Nat}(e:t∈s.lv)(i:Nat)(hi:i<(s.T t).fr.length)(a:Nat)(o:a<p.rg (de s t i).f):dN p s ((de s t i).R a):=dN.root (ag ⟨t,i,a,e,hi,o,rfl⟩)
theorem HS.same{a u:oT}{b i:Dt}(h:HS a b)(o:u.wh=a.wh)(J:u.lf=a.lf)(W:u.iL=a.iL)(e:i.how=b.how)(G:i.what=b.what)(H:i.into=b.into)(Y:i.km=b.km):HS u i:=
 ⟨λk=>by rw[e];exact h.h0 (o▸k),λy k=>by rw[e];exact h.h2 y (o▸k),λy k=>by rw[e,Y,W];exact h.h3 y (o▸k),λy k=>by rw[e,G,H,J];exact h.h4 y (o▸k),λy k=>by rw[e,G,H,J];exact h.h5 y (o▸k)⟩
theorem eK.dx(h:eK p K s m ρ){t i:Nat}{f H:gY}(G:t∈s.lv)(hi:i<(s.T t).fr.length)(hf:FS p ρ i f H)(hg:f.f=(de s t i).f)(hR:∀a,a<p.rg f.f->dN p s (f.R a)):eK p K (s.dx t i f) (m.dx t i H) ρ:=by
 have Y:=h.T t G;have e1:(s.dx t i f).T t={ s.T t with fr:=(s.T t).fr.set i f }:=df _ _ _;have J:(m.dx t i H).T t=(m.T t).kD ((m.T t).fr.set i H):=fG _ _ _;refine h.ep G ⟨rfl,rfl,rfl,rfl,rfl,rfl⟩ ⟨rfl,rfl,rfl,rfl,rfl⟩ (λu e=>nC s f e) (λu e=>fA _ _ e) ⟨?_,λj W=>?_,?_,?_⟩ (λj W a Z=>?_) h.q h.Ee h.sp h.ev h.ck (h.L0 rfl (λa=>?_)) ⟨?_,bj _⟩ ⟨bj _,h.B.2⟩
 .rw[e1,J];show((m.T t).fr.set i H).length=((s.T t).fr.set i f).length;rw[dq,dq];exact Y.l
 .rw[e1]at W ⊢;rw[J];have y:j<((s.T t).fr.set i f).length:=W;rw[dq]at y;show FS p ρ j (((s.T t).fr.set i f).getD j mr) (((m.T t).fr.set i H).getD j mr);rw[jU hi,jU (by rw[Y.l];exact hi)];by_cases e:j=i
  .rw[aj e,aj e,e];exact hf
  rw[aa e,aa e];exact Y.f j y
 .rw[J];exact Y.o
 .rw[e1,J];exact Y.h.same rfl rfl rfl rfl rfl rfl rfl
 .rw[e1]at W;have y:j<((s.T t).fr.set i f).length:=W;rw[dq]at y;by_cases e:j=i
  .subst e;rw[ko s f hi]at Z ⊢;exact hR a Z
  rw[jR s f (λe'=>e e'.2)]at Z ⊢;exact Rn.iE G j y a Z
 .by_cases e:a=t
  .subst e;rw[J];exact⟨rfl,rfl⟩
  rw[show(m.dx t i H).T a=m.T a from fA _ _ e];exact⟨rfl,rfl⟩
 rw[J];exact h.N t G
theorem eK.oD(h:eK p K s m ρ){t:Nat}(i:t∈s.lv)(hn:(s.T t).fr≠[])(a:Nat){v:B.V}(J:dN p s v):eK p K (s.dx t (cr s t) ((bw s t).set a v)) (m.dx t (pQ m t) ((pR m t).set a (tr ρ v))) ρ:=by
 have G:=h.T t i;have hi:cr s t<(s.T t).fr.length:=by
  have:(s.T t).fr.length≠0:=λe=>hn (cf.1 e);unfold cr;omega
 have e:pQ m t=cr s t:=by unfold pQ cr;rw[G.l]
 have H:pR m t=fj m t (cr s t):=by unfold pR;rw[e]
 have u:=G.f _ hi;rw[e,H];refine h.dx i hi ⟨u.f,u.nx,u.bk,λk y=>?_⟩ rfl (λk y=>?_)
 .show B.set (fj m t (cr s t)).R a (tr ρ v) k=tr ρ (B.set (de s t (cr s t)).R a v k);by_cases o:k=a
  .subst o;rw[B.ie,B.ie]
  rw[B.gS _ _ _ _ o,B.gS _ _ _ _ o];exact u.R k y
 show dN p s (B.set (de s t (cr s t)).R a v k);by_cases o:k=a
 .subst o;rw[B.ie];exact J
 rw[B.gS _ _ _ _ o];exact Rn.iE i _ hi k y
theorem eK.nx(h:eK p K s m ρ){t:Nat}(i:t∈s.lv)(hn:(s.T t).fr≠[])(a:Nat):eK p K (s.dx t (cr s t) { bw s t with nx:=a }) (m.dx t (pQ m t) { pR m t with nx:=a }) ρ:=by
 have u:=h.T t i;have hi:cr s t<(s.T t).fr.length:=by
  have:(s.T t).fr.length≠0:=λe=>hn (cf.1 e);unfold cr;omega
 have e:pQ m t=cr s t:=by unfold pQ cr;rw[u.l]
 have G:pR m t=fj m t (cr s t):=by unfold pR;rw[e]
 have o:=u.f _ hi;rw[e,G];exact h.dx i hi ⟨o.f,rfl,o.bk,o.R⟩ rfl (λk y=>Rn.iE i _ hi k y)
theorem eK.told(h:eK p K s m ρ)(kind t:Nat)(x:Int):eK p K (s.told kind t x) (m.told kind t x) ρ:=
 { h with ev:=by show m.ev++_=s.ev++_;rw[h.ev] }
theorem eK.fF(h:eK p K s m ρ)(c:Int):eK p K (s.fF c) (m.fF c) ρ:={ h with ck:=rfl }
theorem eK.tQ(h:eK p K s m ρ)(kd:B.Kd):eK p K (s.tQ kd) m ρ:={ h with }
theorem eK.mono(h:eK p K s m ρ)(hK:K<=K'):eK p K' s m ρ:={ h with B:=⟨dH h.B.1 hK,dH h.B.2 hK⟩ }
theorem eK.join(h:eK p K s m ρ){t:Nat}(hO:fS p s X)(G:t∈s.lv)(hw:(s.T t).wh≠some (2,0)){x:Dt}(W:x.fr=(m.T t).fr/\x.out=(m.T t).out/\x.ji=(m.T t).ji/\x.how=1):eK p K (s.dV 2 0 t) ((m.dv t x).qv t) ρ:=by
 have hT:=h.T t G;have Y:((m.dv t x).qv t).T t=x:=fG _ _ _;have e1:=nO s 2 0 t;have H:((s.dV 2 0 t).T t).fr=(s.T t).fr:=by rw[e1];exact ku s t t
 obtain⟨j1,j2,j3,j4,j5,j6,j7,j8,j9,Z⟩:=iW s 2 0 t;have hf:∀i,de (s.dV 2 0 t) t i=de s t i:=λi=>gJ H;refine h.ep G ⟨iX s 2 0 t,j1,j2,j3,j7,j8⟩ ⟨rfl,rfl,rfl,rfl,rfl⟩ (λu e=>oh s e) (λu e=>fA _ _ e) ⟨?_,λj J=>?_,?_,?_⟩ (λj J a ha=>?_) ?_ ?_ ?_ ?_ ?_ (λa b hl hx=>?_) ⟨?_,bj _⟩ ⟨bj _,h.B.2⟩
 .rw[H,Y,W.1];exact hT.l
 .rw[H,Y,W.1];rw[H]at J;exact hT.f j J
 .rw[Y,W.2.1];exact hT.o
 .rw[e1,Y];refine⟨λe=>(by cases e),λy _=>W.2.2.2,λy e=>?_,λy e=>?_,λy e=>?_⟩ <;>
  .injection e with e;injection e with e _;exact ch e (by decide)
 .rw[H]at J;rw[hf]at ha ⊢;exact Rn.iE G j J a ha
 .show m.q++[t]=_;rw[nN hw,h.q]
 .show m.jo=_;rw[j4];exact h.Ee
 .show m.sp=_;rw[Z];exact h.sp
 .show m.ev=_;rw[j9];exact h.ev
 .show m.eY=_;rw[j5];exact h.ck
 .have hq:(s.dV 2 0 t).q a b=(s.dw t).q a b:=fL _ _ (λe=>hx e.1);rw[hq];exact h.Iq hO.lw (hO.lt t G) (λu e=>fA _ _ e) a b hl hx
 rw[Y,W.2.2.1];exact h.N t G
theorem eK.fJ(h:eK p K s m ρ){t:Nat}(o:fS p s X)(i:t∈s.lv)(hX:X t){k:yi}(W:(s.T t).lf=some k)(hi:(m.T t).into=(k.2.1:Int)){v:B.V}(J:dN p s v):eK p K (s.fJ t v) (m.ready t (tr ρ v)) ρ:=by
 obtain⟨x,y,hw,a0⟩:=o.lf t (o.lt t i) (by rw[W];simp);have hn:=(o.fw t i hX).n1;have G:cr s t<(s.T t).fr.length:=by
  have:(s.T t).fr.length≠0:=λe=>hn (cf.1 e);unfold cr;omega
 have H:(m.dx t (pQ m t) ((pR m t).set k.2.1 (tr ρ v))).T t=(m.T t).kD ((m.T t).fr.set (pQ m t) ((pR m t).set k.2.1 (tr ρ v))):=fG _ _ _;rw[nT v W];have Y:m.ready t (tr ρ v)=((m.dx t (pQ m t) ((pR m t).set k.2.1 (tr ρ v))).dv t (((m.T t).hw 1).kD ((m.T t).fr.set (pQ m t) ((pR m t).set k.2.1 (tr ρ v))))).qv t:=by
  unfold Dm.ready;rw[hi,aj (by omega),lH];unfold Dm.dx;rw[iT];show((m.tW t).dv t ((((m.dv t ((m.T t).hw 1)).T t)).kD ((((m.dv t ((m.T t).hw 1)).T t)).fr.set _ _)))=_;rw[fG];show(((m.dv t ((m.T t).hw 1)).dv t _).qv t)=_;rw[iT];rfl
 rw[Y];exact (h.oD i hn k.2.1 J).join (t:=t) (x:=((m.T t).hw 1).kD ((m.T t).fr.set (pQ m t) ((pR m t).set k.2.1 (tr ρ v)))) (o.oD i hX G k.2.1 J) i (by rw[(gj s t _ t _).1,hw];intro e;injection e with e;injection e with e _;omega) ⟨by rw[H];rfl,by rw[H];rfl,by rw[H];rfl,rfl⟩
theorem eK.KH(h:eK p K s m ρ){t:Nat}(u:fS p s X)(i:t∈s.lv)(hw:(s.T t).wh≠some (2,0)){x:Dt}(o:x={ m.T t with into:=-1 })(v:B.V):eK p K (s.dV 2 0 t) ((m.dv t x).ready t v) ρ:=by
 subst o;have e:(m.dv t { m.T t with into:=-1 }).ready t v=(m.dv t (({ m.T t with into:=-1 }:Dt).hw 1)).qv t:=by
  unfold Dm.ready;rw[fG,aa (by show ¬(0:Int)<=-1;omega)];unfold Dm.tW;rw[fG,iT]
 rw[e];exact h.join u i hw ⟨rfl,rfl,rfl,rfl⟩
theorem eK.start(h:eK p K s m ρ){t:Nat}{l:List Nat}(hO:fS p s X)(y:t∈s.lv)(hq:s.q 2 0=t :: l):eK p K (s.start t) (m.eZ l) ρ:=by
 have J:=h.T t y;have hw:=(hO.lw.b 2 0 (ag ⟨rfl,rfl⟩) t (by rw[hq];simp)).2;have e1:(s.start t).T t={ (s.dw t).T t with run:=true }:=df _ _ _;have G:((s.start t).T t).fr=(s.T t).fr:=by rw[e1];exact ku s t t
 have hf:∀i,de (s.start t) t i=de s t i:=λi=>gJ G;obtain⟨j1,j2,j3,j4,j5,j6,j7,j8,j9,Z⟩:=gz s t;refine h.ep y ⟨fO s t,j1,j2,j3,j9,Z⟩ ⟨rfl,rfl,rfl,rfl,rfl⟩ (λu e=>(dP _ _ e).trans (sX s e)) (λ_ _=>rfl) ⟨?_,λj H=>?_,J.o,?_⟩ (λj H a ha=>?_) ?_ ?_ ?_ ?_ ?_ (λa b a0 W=>?_) ⟨h.N t y,bj _⟩ ⟨bj _,h.B.2⟩
 .rw[G];exact J.l
 .rw[G]at H ⊢;exact J.f j H
 .have Y:((s.start t).T t).wh=none:=by rw[e1];exact jd s t
  refine⟨λ_=>J.h.h2 0 hw,λz e=>?_,λz e=>?_,λz e=>?_,λz e=>?_⟩ <;>
  .rw[Y]at e;cases e
 .rw[G]at H;rw[hf]at ha ⊢;exact Rn.iE y j H a ha
 .show l=(s.dw t).q 2 0;rw[fN hw];show _=(s.eZ 2 0 ((s.q 2 0).erase t)).q 2 0;rw[fX,hq];simp
 .show m.jo=(s.dw t).jo;rw[j5];exact h.Ee
 .show m.sp=(s.dw t).sp;rw[j6];exact h.sp
 .show m.ev=(s.dw t).ev;rw[j4];exact h.ev
 .show m.eY=(s.dw t).eY;rw[j7];exact h.ck
 show((s.dw t).q a b).Pairwise _;exact h.Iq hO.lw (hO.lt t y) (λ_ _=>rfl) a b a0 W
theorem xi{t:Nat}(y:LW s)(ht:fe s t):(s.q 2 0).filter (λu=>decide (u≠t))=(s.dw t).q 2 0:=by
 have o:fz s 2 0:=ag ⟨rfl,rfl⟩;by_cases hw:(s.T t).wh=some (2,0)
 .rw[fN hw];show _=(s.eZ 2 0 ((s.q 2 0).erase t)).q 2 0;rw[fX,(y.c 2 0 o).erase_eq_filter];refine List.filter_congr (λu _=>?_);by_cases e:u=t<;>simp[e]
 rw[vn s hw,List.filter_eq_self];intro u G;have:u≠t:=λe=>hw (by subst e;exact(y.b 2 0 o u G).2);simp[this]
theorem eK.F7(h:eK p K s m ρ){t kind:Nat}{x:Int}{v:B.V}(hO:fS p s X)(a0:t∈s.lv)(hv:dN p s v)(hs:∀u,u≠t->s'.T u=s.T u)(hm:∀u,u≠t->m'.T u=m.T u)(e:s'.nt=s.nt/\s'.lv=s.lv.erase t/\s'.out=s.out.set (t-1) v/\s'.kp=iV s.kp v/\s'.M=s.M/\s'.ck=s.ck)(e1:s'.q=(s.dw t).q)(e2:s'.ev=s.ev++[(kind,t,x)])(e3:s'.jo=s.jo/\s'.sp=s.sp/\s'.eY=s.eY)(f:m'.nt=m.nt/\m'.nc=m.nc/\m'.M=m.M/\m'.ck=m.ck/\m'.G=m.G)(f1:m'.q=m.q.filter (λu=>decide (u≠t)))(f2:m'.ev=m.ev++[(kind,t,x)])(f3:m'.jo=m.jo/\m'.sp=m.sp/\m'.eY=m.eY)(f4:(m'.T t).how=5/\(m'.T t).fr=[]/\(m'.T t).out=tr ρ v)(f5:m'.ji=m.ji):eK p K s' m' ρ:=by
 obtain⟨a1,a2,a3,a4,a5,a6⟩:=e;obtain⟨b1,b2,b3,b4,b5⟩:=f;have ht:=hO.lt t a0;have y:∀u,u∈s'.lv->u∈s.lv/\u≠t:=λu o=>by
  rw[a2]at o;have:=hO.nd.mem_erase_iff.1 o;exact⟨this.2,this.1⟩
 have Y:∀u,fe s u->u≠t->m9 s' u=m9 s u:=λu o hn=>by
  unfold m9;rw[a3,ar,List.getElem?_set_ne (by have:=o.1;have:=ht.1;omega),<-ar]
 have a7:m9 s' t=v:=by
  unfold m9;rw[a3,ar,List.getElem?_set_self (by rw[hO.ol];have:=ht.1;have:=ht.2;omega)];rfl
 have hg:∀u,qw p s' u->dN p s u:=by
  rintro u (⟨c,i,a,W,hi,ha,e⟩|o)
  .obtain⟨W,J⟩:=y c W;have hf:de s' c i=de s c i:=gJ (by rw[hs c J]);rw[hf]at ha e;rw[hs c J]at hi;exact dN.root (ag ⟨c,i,a,W,hi,ha,e⟩)
  rw[a4]at o;rcases og o with o|⟨rfl,_⟩
  .exact dN.root (ab o)
  exact hv
 obtain⟨k1,k2⟩:=h.cells (m':=m') a5 a6 hg ⟨b2,b3,b4⟩;refine⟨by rw[b1,a1];exact h.nt,?_,by rw[f3.1,e3.1];exact h.Ee,by rw[f3.2.1,e3.2.1];exact h.sp,by rw[f2,e2,h.ev],by rw[f3.2.2,e3.2.2];exact h.ck,λu o=>?_,λu o hn=>?_,k1,k2,λu o=>?_,λa b hl hx=>?_,λu o=>?_,by rw[b5,b2];exact h.A,by rw[a2];exact dH (List.erase_sublist.length_le) h.lm,by rw[b2,f5];exact h.B⟩
 .rw[f1,h.q,e1];exact xi hO.lw ht
 .obtain⟨o,H⟩:=y u o;rw[hs u H,hm u H];exact h.T u o
 .by_cases eu:u=t
  .subst eu;rw[a7];exact f4
  have Z:=(eg a1).1 o;rw[hm u eu,Y u Z eu];refine h.O u Z (λa8=>hn ?_);rw[a2];exact(List.mem_erase_of_ne eu).2 a8
 .rw[a4]at o;rcases og o with o|⟨rfl,_⟩
  .obtain⟨c,c1,c2,c3⟩:=h.Kp u o;have J:c≠t:=λe=>c2 (e▸a0);exact⟨c,(eg a1).2 c1,λW=>c2 (y c W).1,by rw[Y c c1 J];exact c3⟩
  exact⟨t,(eg a1).2 ht,λW=>(y t W).2 rfl,a7⟩
 .rw[e1];exact h.Iq hO.lw ht hm a b ((fQ a1).1 hl) hx
 obtain⟨o,H⟩:=y u o;rw[hm u H,f5];exact h.N u o
theorem eK.gone(h:eK p K s m ρ){t kind:Nat}{x:Int}{v:B.V}(W:fS p s X)(i:t∈s.lv)(hv:dN p s v):eK p K (s.gone t v kind x) (m.gone t kind x (tr ρ v)) ρ:=by
 obtain⟨g1,g2,Y,g4,H,g6,J,Z,G,y⟩:=gV s t v kind x;exact h.F7 W i hv (λu e=>mR s v kind x e) (λu e=>fA _ _ e) ⟨iO s t v kind x,g1,g2,Y,J,Z⟩ y G ⟨g4,(gz s t).2.2.2.2.2.1,H⟩ ⟨rfl,rfl,rfl,rfl,rfl⟩ rfl rfl ⟨rfl,rfl,rfl⟩ (by show((m.dv t _).T t).how=_/\((m.dv t _).T t).fr=_/\((m.dv t _).T t).out=_;rw[fG];exact⟨rfl,rfl,rfl⟩) rfl
theorem eK.Jx(h:eK p K s m ρ){t kind:Nat}{x:Int}{v:B.V}(W:fS p s X)(i:t∈s.lv)(hw:(s.T t).wh=none)(hv:dN p s v):eK p K ((s.pop t).gone t v kind x) ((m.pop t).gone t kind x (tr ρ v)) ρ:=by
 obtain⟨g1,g2,Y,g4,H,g6,J,Z,G,y⟩:=gV s t v kind x;rw[px hw];exact h.F7 W i hv (λu e=>(jk _ e).trans (mR s v kind x e)) (λu e=>(fA _ _ e).trans (fA _ _ e)) ⟨iO s t v kind x,g1,g2,Y,J,Z⟩ y G ⟨g4,(gz s t).2.2.2.2.2.1,H⟩ ⟨rfl,rfl,rfl,rfl,rfl⟩ rfl rfl ⟨rfl,rfl,rfl⟩ (by show(((m.pop t).dv t _).T t).how=_/\(((m.pop t).dv t _).T t).fr=_/\(((m.pop t).dv t _).T t).out=_;rw[fG];exact⟨rfl,rfl,rfl⟩) rfl
theorem lP{l:List gY}{i:Nat}(h:i+1<l.length):l.dropLast.getD i mr=l.getD i mr:=by
 rw[ar,List.getElem?_dropLast,aj (by omega),<-ar]
theorem eK.back(h:eK p K s m ρ){t:Nat}{v:B.V}(i:t∈s.lv)(h0:cr s t≠0)(hv:dN p s v):eK p K (s.back t v) ((m.pop t).dx t (pQ m t-1) ((fj m t (pQ m t-1)).set (pR m t).bk.2.1 (tr ρ v))) ρ:=by
 have y:=h.T t i;have e:pQ m t=cr s t:=by unfold pQ cr;rw[y.l]
 have hn:cr s t+1=(s.T t).fr.length:=by unfold cr at h0 ⊢;omega
 have a2:(pR m t).bk.2.1=(bw s t).bk.2.1:=by
  unfold pR;rw[e];exact(y.f (cr s t) (by omega)).bk h0
 rw[e,a2];unfold Pl.back;rw[aa h0];have e1:((s.pop t).dx t (cr s t-1) ((de s t (cr s t-1)).set (de s t (cr s t)).bk.2.1 v)).T t={ (s.T t).kD (s.T t).fr.dropLast with fr:=((s.T t).fr.dropLast).set (cr s t-1) ((de s t (cr s t-1)).set (de s t (cr s t)).bk.2.1 v) }:=by
  unfold Pl.dx;rw[df];unfold Pl.pop;rw[df];rfl
 have J:((m.pop t).dx t (cr s t-1) ((fj m t (cr s t-1)).set (bw s t).bk.2.1 (tr ρ v))).T t=((m.T t).kD (m.T t).fr.dropLast).kD (((m.T t).fr.dropLast).set (cr s t-1) ((fj m t (cr s t-1)).set (bw s t).bk.2.1 (tr ρ v))):=by
  unfold Dm.dx;rw[fG];unfold Dm.pop;rw[fG];rfl
 refine h.ep i ⟨rfl,rfl,rfl,rfl,rfl,rfl⟩ ⟨rfl,rfl,rfl,rfl,rfl⟩ (λu e=>(nC _ _ e).trans (jk _ e)) (λu e=>(fA _ _ e).trans (fA _ _ e)) ⟨?_,λj Y=>?_,?_,?_⟩ (λj Y a ha=>?_) h.q h.Ee h.sp h.ev h.ck (h.L0 rfl (λa=>?_)) ⟨?_,bj _⟩ ⟨bj _,h.B.2⟩
 .rw[e1,J];show(((m.T t).fr.dropLast).set _ _).length=(((s.T t).fr.dropLast).set _ _).length;rw[dq,dq,ef,ef,y.l]
 .rw[e1]at Y ⊢;rw[J];have H:j<(((s.T t).fr.dropLast).set (cr s t-1) ((de s t (cr s t-1)).set (de s t (cr s t)).bk.2.1 v)).length:=Y;rw[dq,ef]at H;show FS p ρ j ((((s.T t).fr.dropLast).set _ _).getD j mr) ((((m.T t).fr.dropLast).set _ _).getD j mr);rw[jU (by rw[ef];omega),jU (by rw[ef,y.l];omega)];by_cases G:j=cr s t-1
  .rw[aj G,aj G,G];have Z:=y.f (cr s t-1) (by omega);refine⟨Z.f,Z.nx,Z.bk,λk hk=>?_⟩;show B.set (fj m t (cr s t-1)).R _ (tr ρ v) k=tr ρ (B.set (de s t (cr s t-1)).R _ v k);by_cases W:k=(de s t (cr s t)).bk.2.1
   .subst W;rw[B.ie,B.ie]
   rw[B.gS _ _ _ _ W,B.gS _ _ _ _ W];exact Z.R k hk
  rw[aa G,aa G,lP (by omega),lP (by rw[y.l];omega)];exact y.f j (by omega)
 .rw[J];exact y.o
 .rw[e1,J];exact y.h.same rfl rfl rfl rfl rfl rfl rfl
 .rw[e1]at Y;have H:j<(((s.T t).fr.dropLast).set (cr s t-1) ((de s t (cr s t-1)).set (de s t (cr s t)).bk.2.1 v)).length:=Y;rw[dq,ef]at H
  by_cases G:j=cr s t-1
  .subst G;rw[ko (s.pop t) _ (by rw[rp];omega)]at ha ⊢;show dN p s (B.set (de s t (cr s t-1)).R _ v a);by_cases W:a=(de s t (cr s t)).bk.2.1
   .subst W;rw[B.ie];exact hv
   rw[B.gS _ _ _ _ W];exact Rn.iE i _ (by omega) a ha
  rw[jR (s.pop t) _ (λe'=>G e'.2),oa s (λ_=>by omega)]at ha ⊢;exact Rn.iE i j (by omega) a ha
 .by_cases ea:a=t
  .subst ea;rw[J];exact⟨rfl,rfl⟩
  rw[show((m.pop t).dx t (cr s t-1) ((fj m t (cr s t-1)).set (bw s t).bk.2.1 (tr ρ v))).T a=m.T a from(fA _ _ ea).trans (fA _ _ ea)];exact⟨rfl,rfl⟩
 rw[J];exact h.N t i
theorem kC{l:List gY}{f:gY}{i:Nat}:(l++[f]).getD i mr=if i=l.length then f else l.getD i mr:=by
 by_cases e:i=l.length
 .rw[aj e,e,ar,dX (bj _)];simp
 rw[aa e,ar,ar];rcases Nat.lt_or_ge i l.length with h|h
 .rw[du h]
 rw[cw (l:=l) h,cw (by rw[bo];simp;omega)]
theorem eK.push(h:eK p K s m ρ){t:Nat}{f G:gY}(y:t∈s.lv)(hf:FS p ρ (s.T t).fr.length f G)(hR:∀a,a<p.rg f.f->dN p s (f.R a)):eK p K (s.push t f) (m.push t G) ρ:=by
 have W:=h.T t y;have Z:(s.push t f).T t=(s.T t).kD ((s.T t).fr++[f]):=df _ _ _;have H:(m.push t G).T t=(m.T t).kD ((m.T t).fr++[G]):=fG _ _ _;refine h.ep y ⟨rfl,rfl,rfl,rfl,rfl,rfl⟩ ⟨rfl,rfl,rfl,rfl,rfl⟩ (λu e=>oN s f e) (λu e=>fA _ _ e) ⟨?_,λj J=>?_,?_,?_⟩ (λj J a Y=>?_) h.q h.Ee h.sp h.ev h.ck (h.L0 rfl (λa=>?_)) ⟨?_,bj _⟩ ⟨bj _,h.B.2⟩
 .rw[Z,H];show((m.T t).fr++[G]).length=((s.T t).fr++[f]).length;rw[bo,bo,W.l];rfl
 .rw[Z]at J ⊢;rw[H];have i:j<((s.T t).fr++[f]).length:=J;rw[bo]at i;show FS p ρ j (((s.T t).fr++[f]).getD j mr) (((m.T t).fr++[G]).getD j mr);rw[kC,kC,W.l];by_cases e:j=(s.T t).fr.length
  .rw[aj e,aj e,e];exact hf
  rw[aa e,aa e];exact W.f j (by simp at i;omega)
 .rw[H];exact W.o
 .rw[Z,H];exact W.h.same rfl rfl rfl rfl rfl rfl rfl
 .rw[rm,bo]at J;by_cases e:j=(s.T t).fr.length
  .subst e;rw[vj]at Y ⊢;exact hR a Y
  have i:j<(s.T t).fr.length:=by simp at J;omega
  rw[nI s f (λ_=>i)]at Y ⊢;exact Rn.iE y j i a Y
 .by_cases ea:a=t
  .subst ea;rw[H];exact⟨rfl,rfl⟩
  rw[show(m.push t G).T a=m.T a from fA _ _ ea];exact⟨rfl,rfl⟩
 rw[H];exact h.N t y
theorem eK.kj(h:eK p K s m ρ){t:Nat}(y:t∈s.lv):eK p K (s.kj t) ((m.told 5 t 0).zu) ρ:=by
 have J:=h.T t y;have Y:(s.kj t).T t=(s.T t).stop:=df _ _ _;have G:((s.kj t).T t).fr=(s.T t).fr:=by rw[Y];rfl
 have Z:∀i,de (s.kj t) t i=de s t i:=λi=>gJ G;refine h.ep y ⟨rfl,rfl,rfl,rfl,rfl,rfl⟩ ⟨rfl,rfl,rfl,rfl,rfl⟩ (λu e=>dP _ _ e) (λu e=>rfl) ⟨?_,λj H=>?_,J.o,?_⟩ (λj H a W=>?_) h.q h.Ee rfl ?_ h.ck (h.L0 rfl (λa=>⟨rfl,rfl⟩)) ⟨h.N t y,bj _⟩ ⟨bj _,h.B.2⟩
 .rw[G];exact J.l
 .rw[G]at H ⊢;exact J.f j H
 .rw[Y];exact J.h.same rfl rfl rfl rfl rfl rfl rfl
 .rw[G]at H;rw[Z]at W ⊢;exact Rn.iE y j H a W
 show m.ev++[(5,t,0)]=s.ev++[(5,t,0)];rw[h.ev]
