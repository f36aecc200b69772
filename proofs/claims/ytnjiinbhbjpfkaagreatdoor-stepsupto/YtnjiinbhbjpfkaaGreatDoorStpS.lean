import Derived.Test.YtnjiinbhbjpfkaaGreatDoorStpR
set_option maxRecDepth 100000
set_option maxHeartbeats 0
set_option linter.all false
namespace Go.Proofs.YtnjiinbhbjpfkaaGreatDoor
open Go.RowKit Go.Proofs.Tryz
namespace D
open F
variable {p : dz} {d : Dp} {K : Nat} {s : Pl} {m m' : Dm} {g g' : Dg} {w w' : World} {ρ : Nat → Nat}
theorem BH{w:World}{e:TypeId}{ad:Option Addr}{n c:Nat}{xs:List Value}(h:fM w e (.slice ad n c) xs):n=xs.length/\(xs≠[]->∃b off,ad=some ⟨b,off,none⟩/\b<w.heap.size/\∀(j:Nat) u,xs[j]? = some u->w.cell? ⟨b,off+j,none⟩=some u):=by
 rcases h with⟨i,y⟩|⟨g,off,cap,H,P,i,y,h3,J,o,hP⟩
 .injection i with _ a _;subst y;exact⟨a,λe=>ch rfl e⟩
 injection i with a b W;refine⟨b,λ_=>⟨g,off,a,o.lt,λj u G=>?_⟩⟩;have Y:=(bu.1 G).1;rw[o.cell (off+j) (by omega),hP j u G]
theorem xP{l:List Nat}{i a:Nat}(f:Nat->Bool)(h:l[i]? = some a):(l.take (i+1)).filter f=(l.take i).filter f++if f a=true then[a] else[]:=by
 rw[List.take_add_one,h,List.filter_append];congr 1
 show[a].filter f=_;by_cases e:f a=true
 .rw [aj e];simp[e]
 rw [aa e];simp[e]
def LH(w0 wr:World)(ad:Option Addr)(n c:Nat)(xs:List Nat):Prop:=fM wr 3 (.slice ad n c) (iI xs)/\(∀k,eO ad=some k->w0.heap.size<=k)/\w0.grownBy wr none
theorem dQ.JJ{p:Dp}(h:dQ p m g w){t tb:Nat}(ht:mF m t)(o:g.ro 1 0=(some ⟨tb,0,none⟩,(g.ro 1 0).2)):Tr p m g w (m.dv t (((m.T t).hw 5).kD [])) (g.at 5 t (none,0)) ((w.setCell ⟨tb,(t-1)*8+1,none⟩ (.int .i64 5)).setCell ⟨tb,(t-1)*8,none⟩ (.slice none 0 0)):=by
 have y:∀i:Nat,i<8->i=0\/i=1\/i=2\/i=3\/i=4\/i=5\/i=6\/i=7:=λi hi=>by omega
 have u:Tr p m g w (m.dv t ((m.T t).hw 5)) g (w.setCell ⟨tb,(t-1)*8+1,none⟩ (.int .i64 5)):=h.sw ht o 1 (by omega) _ rfl (λi hi=>by rcases y i hi with rfl|rfl|rfl|rfl|rfl|rfl|rfl|rfl<;>rfl);have e:=u.r.shrink (t:=t) ht o (j:=0) (dc _) (r:=(none,0)) (ab ⟨rfl,rfl⟩);rw[iT,fG]at e;exact u.trans e
theorem dQ.JK{p:Dp}(h:dQ p m g w){t tb:Nat}(ht:mF m t)(o:g.ro 1 0=(some ⟨tb,0,none⟩,(g.ro 1 0).2))(v:B.V):Tr p m g w (m.dv t { m.T t with out:=v }) g ((w.setCell ⟨tb,(t-1)*8+6,none⟩ (.int .i64 v.1)).setCell ⟨tb,(t-1)*8+7,none⟩ (.int .i64 v.2)):=by
 have u:∀i:Nat,i<8->i=0\/i=1\/i=2\/i=3\/i=4\/i=5\/i=6\/i=7:=λi hi=>by omega
 have y:Tr p m g w (m.dv t { m.T t with out:=(v.1,(m.T t).out.2) }) g (w.setCell ⟨tb,(t-1)*8+6,none⟩ (.int .i64 v.1)):=h.sw ht o 6 (by omega) _ rfl (λi hi=>by rcases u i hi with rfl|rfl|rfl|rfl|rfl|rfl|rfl|rfl<;>rfl);have e:=y.r.sw (t:=t) ht o 7 (by omega) (.int .i64 v.2) (x':={ m.T t with out:=v }) (by rw[fG]) (λi hi=>by rw[fG];rcases u i hi with rfl|rfl|rfl|rfl|rfl|rfl|rfl|rfl<;>rfl);rw[iT]at e;exact y.trans e
theorem Tr.other{p:Dp}(h:Tr p m g w m' g' w'){k:Nat}{o:Obj}(e:w.heap[k]? = some o)(hn:¬ey p m g k):w'.heap[k]? = some o/\¬ey p m' g' k:=
 ⟨h.o.block e hn,λi=>(h.m k i).elim hn (λu=>by have:=bz e;omega)⟩
def LC(p:dz)(d:Dp)(K:Nat)(s:Pl)(m:Dm)(g:Dg)(w:World)(ρ:Nat->Nat)(t:Nat)(v:B.V)(x:Nat)(o:Obj)(n b:Nat)(wr:World):Prop:=
 ∃s1 m1 g1,(wr.heap[x]? = some o/\¬ey d m1 g1 x)/\(s1.q 5 t).length=n/\Tr d m g w m1 g1 wr/\eK p K s1 m1 ρ/\Ok p s1/\s1.nt=s.nt/\(v.1=0\/v∈s1.kp)/\s1.dR v (s1.q 5 t)=s.dR v (s.q 5 t)/\((b=0/\s1.q 5 t=[])\/∃l,s1.q 5 t=b :: l)
theorem zk{t n x:Nat}{o:Obj}{v:B.V}{s1:Pl}{m1:Dm}{g1:Dg}{wr:World}(W:g1.mb=g.mb)(hx:wr.heap[x]? = some o/\¬ey d m1 g1 x)(J:(s1.q 5 t).length=n)(h:Tr d m g w m1 g1 wr)(hS:eK p K s1 m1 ρ)(i:Ok p s1)(hn:s1.nt=s.nt)(ht:fe s t)(H:v.1=0\/v∈s1.kp)(he:s1.dR v (s1.q 5 t)=s.dR v (s.q 5 t)): Calls prog 192 #[P0 g.mb,.int .i64 4,.int .i64 t] wr λe w'=>∃b:Nat,e=.returned (.int .i64 b)/\b<=s.nt/\LC p d K s m g w ρ t v x o n b w':=by
 rw[<-W];refine(Hv h.r (by rw[hS.nt,hn];have:=ht.1;have:=ht.2;omega) 4 t).mono ?_;rintro e w' ⟨b,rfl,Y,y,u⟩;exact⟨b,rfl,by rw[<-hn,<-hS.nt];exact Y,s1,m1,g1,⟨cm u hx.1 (by intro e;cases e),hx.2⟩,J,h.kept u,hS,i,hn,H,he,hS.first i (ab (ab (ab ⟨rfl,(eg hn).2 ht⟩))) (ab rfl) y⟩
theorem Eg{t n b x:Nat}{o:Obj}{v:B.V}{wr:World}(hP:PD p d)(h:LC p d K s m g w ρ t v x o n b wr)(hb:b≠0)(ht:fe s t): Calls prog 144 #[P0 g.mb,.int .i64 b,vA (tr ρ v)] wr λe w'=>e=.returned (.tuple #[])/\∃s1 m1 g1,g1.mb=g.mb/\(w'.heap[x]? = some o/\¬ey d m1 g1 x)/\n=(s1.q 5 t).length+1/\Tr d m g w m1 g1 w'/\eK p K s1 m1 ρ/\Ok p s1/\s1.nt=s.nt/\(v.1=0\/v∈s1.kp)/\s1.dR v (s1.q 5 t)=s.dR v (s.q 5 t):=by
 obtain⟨s1,m1,g1,hx,h0,h1,W,G,h4,h5,h6,h7⟩:=h;obtain⟨l,hq⟩:∃l,s1.q 5 t=b :: l:=h7.resolve_left (λe=>hb e.1);have hl:fz s1 5 t:=ab (ab (ab ⟨rfl,(eg h4).2 ht⟩));have a0:b∈s1.q 5 t:=by rw[hq];simp
 have u:=G.ql 5 t hl b a0;obtain⟨H,J⟩:=G.lw.b 5 t hl b a0;obtain⟨k,k1,k2,k3⟩:=G.ww b H 5 t J (ab rfl);obtain⟨_,_,i,i1,i2⟩:=(W.T b u).h.h5 t J;rw[k1]at i1;injection i1 with i1;subst i1;have hT:=W.T b u;have Y:=G.fw b u trivial;have a1:(s1.T b).fr.length≠0:=λe=>k2 (cf.1 e);have hv:dN p s1 v:=h5.elim (λe=>ag e) (λe=>dN.root (ab e));have a3:m1.q.length<=1000000000:=by
  rw[W.q];have:=G.lw.len (x:=2) (y:=0) (ag ⟨rfl,rfl⟩);omega
 have a5:(pR m1 b).f=(de s1 b ((s1.T b).fr.length-1)).f:=by
  unfold pR pQ;rw[hT.l];exact(hT.f _ (by omega)).f
 rw[<-h1.b];refine(Cz (tr ρ v) h1.r ((iw W b).2 H) (by rw[W.nt];have:=G.lw.d;omega) a3 (λ_=>⟨by rw[hT.l];exact a1,by rw[hT.l];exact Y.n2,?_⟩)).mono ?_
 .rw [i2,lH,a5,hP.rg (de s1 b ((s1.T b).fr.length-1)).f (Y.f ((s1.T b).fr.length-1) (by omega)).1];exact k3
 rintro e w' ⟨rfl,g',h'⟩;have Z:(s1.fJ b v).q 5 t=l:=by
  rw[nT v k1];have a2:((s1.dx b (cr s1 b) ((de s1 b (cr s1 b)).set k.2.1 v)).T b).wh=some (5,t):=by rw[(gj _ _ _ _ _).1];exact J
  generalize hX:s1.dx b (cr s1 b) ((de s1 b (cr s1 b)).set k.2.1 v)=X at *;have e1:(X.dV 2 0 b).q 5 t=(X.dw b).q 5 t:=fL (X.dw b) (x:=2) (y:=0) (a:=5) (b:=t) ((X.dw b).q 2 0++[b]) (by omega);have e2:((X.eZ 5 t ((X.q 5 t).erase b)).dv b (X.T b).off).q 5 t=(X.q 5 t).erase b:=fX X 5 t _;rw[e1,fN a2,e2,<-hX];show(s1.q 5 t).erase b=l;rw[hq];simp
 refine⟨rfl,s1.fJ b v,m1.ready b (tr ρ v),g',by rw[h'.b,h1.b],h'.other hx.1 hx.2,by rw[Z,<-h0,hq];rfl,h1.trans h',W.fJ G u trivial k1 i2 hv,G.fJ H (λ_=>trivial) hv,(mH s1 b v).trans h4,?_,?_⟩
 .rw [(oX s1 b v).2.2.1];exact h5
 rw [Z,<-h6,hq];rfl
theorem JL{t kind:Nat}{x:Int}{v:B.V}(hP:PD p d)(h:dQ d m g w)(ht:fe s t)(hO:Ok p s)(hS:eK p K s (m.gone t kind x (tr ρ v)) ρ)(hv:v.1=0\/v∈s.kp)(hq:m.q.length<=1000000000)(he:m.ev.length<=100000): Calls prog 196 #[P0 g.mb,.int .i64 t,.int .i64 kind,.int .i64 x,vA (tr ρ v)] w λe w'=>e=.returned (.tuple #[])/\∃m' g',Tr d m g w m' g' w'/\eK p K (s.dR v (s.q 5 t)) m' ρ:=by
 obtain⟨i0,hi,bM,b8,bR⟩:=info_parts Tryz.qk;have a6:m.nt=s.nt:=hS.nt;have Z:mF m t:=by unfold mF;rw[a6];exact ht
 have hn:m.nt<1000000000:=by rw[a6];have:=hO.lw.d;omega
 have bI:m.gone t kind x (tr ρ v)=((m.dv t ((m.T t).end (tr ρ v))).eZ (m.q.filter (λu=>decide (u≠t)))).told kind t x:=rfl;obtain⟨k,rfl⟩:∃k,t=k+1:=⟨t-1,by omega⟩;obtain⟨tb,e1,hT,tc⟩:=h.tc Z;have c6:w.cell? ⟨g.mb,6,none⟩=some (.slice (some ⟨tb,0,none⟩) m.nt (g.ro 1 0).2):=by
  rw[show some (⟨tb,0,none⟩:Addr)=(g.ro 1 0).1 by rw[e1]];exact(h.mc 6 (by omega) rfl).1
 obtain⟨t0,z0⟩:=tc.c 0 (by omega);obtain⟨t1,z1⟩:=tc.c 1 (by omega);rw[Nat.add_zero,dC]at t0 z0;rw[dC]at t1 z1;have ne:=h.M.ne hT (by decide);have lr:=av w _ c6;have lt:=av w _ t1;have q5:=fp (n:=k) (by omega);have q7:(0:Int)<=k:=by omega
 have q8:(k:Int)<m.nt:=by omega
 have q6:IntKind.i64.wrap (k:Int)=k:=by rw[bl,bd _ (by omega)]
 have a3:=az (((h.JJ Z e1).kept (ah _ (.cells #[.int .i64 ((tr ρ v).1:Int),.int .i64 (tr ρ v).2] 115) none)));rw[dC]at a3;have b2:Hid (¬ey d (m.dv (k+1) ((m.T (k+1)).end (tr ρ v))) (g.at 5 (k+1) (none,0)) w.heap.size):=by
  have h1:=h.JJ Z e1;have h2:=h1.r.JK (t:=k+1) (tb:=tb) Z (by rw[qG g _ (by omega)];exact e1) (tr ρ v);rw[iT,fG]at h2;exact h2.r.fresh (by simp[World.setCell])
 have aO:=az e1;have HP:=az hP;have HO:=az hO;have HS:=az hS;have HV:=az hv;have HD:=az Z;have HN:=az ht;have bT:=az hq;have bB:=az he;clear h hP hO hS hv hq he bI tc hT Z a6 e1;go_in;go_wp2_with fail
 have a1:=bf ((w.setCell ⟨tb,k*8+1,none⟩ (.int .i64 5)).setCell ⟨tb,k*8,none⟩ (.slice none 0 0)) (.cells #[.int .i64 ((tr ρ v).1:Int),.int .i64 (tr ρ v).2] 115);have b7:((w.setCell ⟨tb,k*8+1,none⟩ (.int .i64 5)).setCell ⟨tb,k*8,none⟩ (.slice none 0 0)).heap.size=w.heap.size:=by simp[World.setCell]
 rw[b7]at a1;generalize (((w.setCell ⟨tb,k*8+1,none⟩ (.int .i64 5)).setCell ⟨tb,k*8,none⟩ (.slice none 0 0)).alloc (.cells #[.int .i64 ((tr ρ v).1:Int),.int .i64 (tr ρ v).2] 115))=w2 at *;clear t0 z0 t1 z1 c6 b7;have aI:Hid (mF (m.dv (k+1) (((m.T (k+1)).hw 5).kD [])) (k+1)):=HD.out;obtain⟨y,J,b9,aR⟩:=a3.out.r.tc aI.out;have bK:y=tb:=by
  rw[qG g _ (by omega)]at J;rw[aO.out]at J;injection J with J _;injection J with J;injection J with J _;exact J.symm
 subst bK;have c6:w2.cell? ⟨g.mb,6,none⟩=some (.slice (some ⟨y,0,none⟩) m.nt (g.ro 1 0).2):=(a3.out.r.mc 6 (by omega) (v:=.slice (some ⟨y,0,none⟩) m.nt (g.ro 1 0).2) (by
  show Value.slice ((g.at 5 (k+1) (none,0)).ro 1 0).1 _ ((g.at 5 (k+1) (none,0)).ro 1 0).2=_;rw[qG g _ (by omega),aO.out];rfl)).1
 obtain⟨t6,z6⟩:=aR.c 6 (by omega);obtain⟨t7,z7⟩:=aR.c 7 (by omega);rw[dC]at t6 z6 t7 z7;have bS:=av w2 _ c6;have HB:=az a1;have b0:w2.cell? ⟨w.heap.size,0,none⟩=some (.int .i64 ((tr ρ v).1:Int)):=by simp[World.cell?,a1]
 have b1:w2.cell? ⟨w.heap.size,1,none⟩=some (.int .i64 (tr ρ v).2):=by simp[World.cell?,a1]
 have n1:w.heap.size≠y:=by omega
 have aJ:=az (a3.out.trans (a3.out.r.JK (t:=k+1) (tb:=y) aI.out (by rw[qG g _ (by omega)];exact aO.out) (tr ρ v)));rw[dC]at aJ;generalize tC ((m.dv (k+1) (((m.T (k+1)).hw 5).kD [])).T (k+1)) (iR (m.dv (k+1) (((m.T (k+1)).hw 5).kD [])) (g.at 5 (k+1) (none,0)) 5 (k+1)) 6=o6 at t6;generalize tC ((m.dv (k+1) (((m.T (k+1)).hw 5).kD [])).T (k+1)) (iR (m.dv (k+1) (((m.T (k+1)).hw 5).kD [])) (g.at 5 (k+1) (none,0)) 5 (k+1)) 7=o7 at t7;clear b9 aR J a1;generalize aS:g.mb=rb at *;have a4:=az aS;clear aS;generalize (g.ro 1 0).2=a5 at *;have g1:∀{W:World} {o:Nat} {u:Value},W.cell? ⟨rb,6,none⟩=some (.slice (some ⟨y,0,none⟩) m.nt a5)->(W.setCell ⟨y,o,none⟩ u).cell? ⟨rb,6,none⟩=some (.slice (some ⟨y,0,none⟩) m.nt a5):=λhW=>(aw (a:=⟨rb,6,none⟩) (af _ _ _ _ ne)).trans hW;go_region_held3 (λw'=>w'.cell? ⟨rb,6,none⟩=some (.slice (some ⟨y,0,none⟩) m.nt a5)/\w'.cell? ⟨w.heap.size,0,none⟩=some (.int .i64 ((tr ρ v).1:Int))/\w'.cell? ⟨w.heap.size,1,none⟩=some (.int .i64 (tr ρ v).2)) (first|exact⟨c6,b0,b1⟩|(refine⟨?_,?_,?_⟩<;>(first|assumption|(simp[*,go_sem])))) (fail)
 have G:Hid (Tr d m g w (m.dv (k+1) ((m.T (k+1)).end (tr ρ v))) (g.at 5 (k+1) (none,0)) ((w2.setCell ⟨y,k*8+6,none⟩ (.int .i64 ((tr ρ v).1:Int))).setCell ⟨y,k*8+6+1,none⟩ (.int .i64 (tr ρ v).2)).drew):=by
  have h3:=aJ.out;rw[iT,fG]at h3;exact h3.kept (bq (ax _ none))
 have aX:Hid (((w2.setCell ⟨y,k*8+6,none⟩ (.int .i64 ((tr ρ v).1:Int))).setCell ⟨y,k*8+6+1,none⟩ (.int .i64 (tr ρ v).2)).drew.heap[w.heap.size]? = some (.cells #[.int .i64 ((tr ρ v).1:Int),.int .i64 (tr ρ v).2] 115 (0,0))):=by
  show(World.setCell _ _ _).heap[w.heap.size]? = _;rw[af _ _ _ _ n1,af _ _ _ _ n1];exact HB.out
 generalize ((w2.setCell ⟨y,k*8+6,none⟩ (.int .i64 ((tr ρ v).1:Int))).setCell ⟨y,k*8+6+1,none⟩ (.int .i64 (tr ρ v).2)).drew=w3 at *;clear aJ a3 aI HB t6 z6 t7 z7 c6 b0 b1 bS n1 g1 w2;have a2:=az (G.out.b.trans a4.out);have c7:w3.cell? ⟨rb,7,none⟩=some (.slice (g.ro 2 0).1 m.q.length (g.ro 2 0).2):=by
  have:=(G.out.r.mc 7 (by omega) (v:=.slice (g.ro 2 0).1 m.q.length (g.ro 2 0).2) (by
   show Value.slice ((g.at 5 (k+1) (none,0)).ro 2 0).1 _ ((g.at 5 (k+1) (none,0)).ro 2 0).2=_;rw[qG g _ (by omega)];rfl)).1
  rw[a2.out]at this;exact this
 have HQ:Hid (fM w3 3 (.slice (g.ro 2 0).1 m.q.length (g.ro 2 0).2) (iI m.q)):=by
  have:=G.out.r.Q;unfold iR at this;rw[qG g _ (by omega)]at this;exact this
 obtain⟨_,aZ⟩:=BH HQ.out;have aY:=az aZ;clear aZ;have l3:=av w3 _ c7;generalize (g.ro 2 0).1=qa at *;generalize (g.ro 2 0).2=qc at *;have c2:(m.q.length:Int)<=1000000000:=by have:=bT.out;omega
 go_wp2_with fail
 go_loopw [10,11] (λq i wr=>∃(I n c:Nat) (ad:Option Addr) (H:List Nat),q=.slice ad n c/\i=.int .i64 I/\I<=m.q.length/\n=H.length/\n<=I/\Hid (H=(m.q.take I).filter (λu=>decide (u≠k+1)))/\Hid (LH w3 wr ad n c H)) (λ_ i _=>m.q.length-(intOf i).toNat)
 case atStart=>exact⟨0,0,0,none,[],rfl,rfl,by omega,rfl,by omega,rfl,fM.nil _ _,(λk hk=>by cases hk),ax _ _⟩
 case round=>
  obtain⟨I,n,c,ad,H,rfl,rfl,hI,bA,bG,rX,rL⟩:=hrel;subst bA;obtain⟨L1,L2,L3⟩:=rL.out;have d7:=(bh L3 (a:=⟨rb,7,none⟩) l3).1.trans c7;by_cases a7:I<m.q.length
  .obtain ⟨b,off,rfl,bC,aV⟩:=aY.out (by intro e;rw[show m.q.length=(iI m.q).length from(iH _).symm,e]at a7;cases a7);obtain⟨a,ha⟩:∃a,m.q[I]? = some a:=⟨_,bn a7⟩;have dI:wr.cell? ⟨b,off+I,none⟩=some (.int .i64 a):=(bh L3 (a:=⟨b,off+I,none⟩) bC).1.trans (aV I _ (by unfold iI;rw[eo,ha];rfl));have a8:=xP (λu=>decide (u≠k+1)) ha
   have aK:=az L1;have aL:=az L2;have Y:=az L3;clear L1 L2 L3 rL aV;by_cases e:a=k+1
   .have KX:Hid (H=(m.q.take (I+1)).filter (λu=>decide (u≠k+1))):=by
     show _=_;rw[a8,aa (by simpa using e),eB];exact rX.out
    have KL:Hid (LH w3 wr ad H.length c H):=⟨aK.out,aL.out,Y.out⟩;clear a8 rX;go_wp2_with fail
    go_roundw
    case rel=>exact⟨I+1,H.length,c,ad,H,rfl,by go_num,by omega,rfl,by omega,KX,KL⟩
    case measure=>simp[intOf];omega
   have ei:¬((a:Int)=k+1):=by omega
   have KX:Hid (H++[a]=(m.q.take (I+1)).filter (λu=>decide (u≠k+1))):=by
    show _=_;rw[a8,aj (by simpa using e),<-rX.out]
   clear a8 rX;have bH:=iH H;go_wp2_with (at_builtin;refine gZ _ rfl (.tmp 56) (.tmp 64) 54 rfl 3 i0 _ 8 Tryz.g9 hi bM b8 bR rfl _ (iI H) rfl (aK.out.block ?cq) _ _ (.int .i64 a) rfl ?c1 rfl ?c3 ?c4 ?_)
   case cq=>intro j h;exact ak _ _ _ (aK.out.lt j h)
   try case c1=>simp[go_sem]
   try case c3=>unfold maxLen;omega
   try case c4=>omega
   intro gb aB c' w6 b4 a0 aC;have KL:Hid (LH w3 w6 (some ⟨gb,aB,none⟩) (H.length+1) c' (H++[a])):=by
    refine⟨?_,λj hj=>?_,?_⟩
    .rw [show iI (H++[a])=iI H++[iK (a:Int)] by unfold iI;rw[eP];rfl];exact b4
    .have bQ:j=gb:=by
      have:some gb=some j:=hj;injection this with this;exact this.symm
     subst bQ;rcases aC with h|h
     .rw [dr]at h;exact aL.out j h
     have:=Y.out.size;omega
    refine ⟨a0.os.trans Y.out.os,a0.tape.trans Y.out.tape,a0.output.trans Y.out.output,by have:=a0.size;have:=Y.out.size;simp at *;omega,λj hj _=>?_⟩;have bX:=Y.out.size;rw[a0.block j (by simp;omega) (λh=>by rw[dr]at h;have:=aL.out j h.symm;omega),ak _ _ _ (by omega)];exact Y.out.block j hj (by intro e;cases e)
   clear b4 a0 aC bH;go_wp2_with fail
   go_roundw
   case rel=>exact⟨I+1,H.length+1,c',some ⟨gb,aB,none⟩,H++[a],rfl,by go_num,by omega,by rw[bo];rfl,by omega,KX,KL⟩
   case measure=>simp[intOf];omega
  obtain rfl:I=m.q.length:=by omega
  have hX:H=m.q.filter (λu=>decide (u≠k+1)):=by have:=rX.out;rw[List.take_length]at this;exact this
  have HX:=az hX;clear hX;obtain⟨L1,L2,L3⟩:=rL.out;have aD:=G.out.kept L3;have z7:wr.frozen? ⟨rb,7,none⟩=false:=by
   have:=(aD.r.mc 7 (by omega) rfl).2;rw[a2.out]at this;exact this
  have aP:Tr d (m.dv (k+1) ((m.T (k+1)).end (tr ρ v))) (g.at 5 (k+1) (none,0)) w3 ((m.dv (k+1) ((m.T (k+1)).end (tr ρ v))).eZ H) ((g.at 5 (k+1) (none,0)).at 2 0 (ad,c)) (wr.setCell ⟨rb,7,none⟩ (.slice ad H.length c)):=by
   refine Tr.eZ (r:=(ad,c)) ((Tr.refl G.out.r).kept L3) (bm (S:=λk'=>k'=(g.at 5 (k+1) (none,0)).mb\/eO ((g.at 5 (k+1) (none,0)).ro 2 0).1=some k') (a:=⟨rb,7,none⟩) (dk _ _) (ag (ag a2.out.symm)) _) ?_ ?_ (λj hj=>ab ?_)
   .have:=aD.r.M.ep 7 (.slice ad H.length c);rw[a2.out]at this ⊢;exact this
   .exact L1.block (λj hj=>af _ _ _ _ (by
     rw[dr]at hj;have:=L2 j hj;show j≠rb;omega))
   exact ⟨G.out.r.fresh (L2 j hj),L2 j hj⟩
  obtain⟨b3,aA⟩:=aP.other aX.out b2.out;have aN:=az (G.out.trans aP);have aM:=az (ay b3 aA);have a9:Hid (((g.at 5 (k+1) (none,0)).at 2 0 (ad,c)).mb=rb):=a2.out;have aG:=az (B5 kind (k+1) x aN.out.r bB.out);rw[a9.out]at aG;clear aP L1 L2 L3 aD rL b3 aA rX c7 bG hI aY HQ a7;go_wp2_with fail
  generalize wr.setCell ⟨rb,7,none⟩ (.slice ad H.length c)=w4 at *;clear d7 z7;refine aG.out.mono ?_;rintro e w5 ⟨rfl,g5,aH⟩;have bO:Hid (w5.heap[w.heap.size]? = some (.cells #[.int .i64 ((tr ρ v).1:Int),.int .i64 (tr ρ v).2] 115 (0,0))/\¬ey d (m.gone (k+1) kind x (tr ρ v)) g5 w.heap.size):=by
   have h5:=aH.other aM.out.1 aM.out.2;rw[HX.out]at h5;exact h5
  have b6:Hid (Tr d m g w (m.gone (k+1) kind x (tr ρ v)) g5 w5):=by
   have h5:=aN.out.trans aH;rw[HX.out]at h5;exact h5
  have bD:=az b6.out.b;have aE:=az (zk (n:=(s.q 5 (k+1)).length) bD.out bO.out rfl b6.out HS.out HO.out rfl HN.out HV.out rfl);rw[a4.out]at aE;clear aH aG aN aM a9 G aX b2 a2;go_wp2_with fail
  refine aE.out.mono ?_;rintro e w6 ⟨b0,rfl,bL,aT⟩;have bP:=az aT;clear aT aE;go_wp2_with fail
  go_loopg [12] ((s.q 5 (k+1)).length) (λn b wr=>∃B:Nat,b=.int .i64 B/\B<=s.nt/\Hid (LC p d K s m g w ρ (k+1) v w.heap.size (.cells #[.int .i64 ((tr ρ v).1:Int),.int .i64 (tr ρ v).2] 115 (0,0)) n B wr))
  case atStart=>exact⟨b0,rfl,bL,bP⟩
  case round=>
   obtain⟨B,rfl,hB,rW⟩:=hrel;by_cases aW:B=0
   .subst aW;obtain⟨s1,m1,g1,_,_,k1,k2,k3,k4,_,k6,k7⟩:=rW.out;have aU:s1.q 5 (k+1)=[]:=by
     rcases k7 with k7|⟨l,hl⟩
     .exact k7.2
     exfalso
     have bN:fz s1 5 (k+1):=ab (ab (ab ⟨rfl,(eg k4).2 HN.out⟩));have:=(k3.lw.b 5 (k+1) bN 0 (by rw[hl];simp)).1.1;omega
    have HF:Hid (∃m' g',Tr d m g w m' g' wr/\eK p K (s.dR v (s.q 5 (k+1))) m' ρ):=by
     refine⟨m1,g1,k1,?_⟩;rw[<-k6,aU];exact k2
    clear k1 k2 k3 k4 k6 k7 aU rW;go_wp2_with fail
    go_end0;exact⟨rfl,HF.out⟩
   have bW:(0:Int)<B:=by omega
   have aQ:=az (Eg HP.out rW.out aW HN.out);rw[a4.out]at aQ;obtain⟨_,_,_,⟨hx,_⟩,_⟩:=rW.out;have b0:wr.cell? ⟨w.heap.size,0,none⟩=some (.int .i64 ((tr ρ v).1:Int)):=by simp[World.cell?,hx]
   have b1:wr.cell? ⟨w.heap.size,1,none⟩=some (.int .i64 (tr ρ v).2):=by simp[World.cell?,hx]
   clear hx rW;go_wp2_with fail
   refine aQ.out.mono ?_;rintro e w7 ⟨rfl,s1,m1,g1,j1,j2,j3,j4,j5,j6,j7,j8,j9⟩;have aF:=az (zk (n:=(s1.q 5 (k+1)).length) (j1.trans a4.out.symm) j2 rfl j4 j5 j6 j7 HN.out j8 j9);rw[a4.out]at aF;have bU:=az j3;clear j1 j2 j3 j4 j5 j6 j7 j8 j9 b0 b1 aQ;go_wp2_with fail
   refine aF.out.mono ?_;rintro e w8 ⟨B',rfl,bE,b5⟩;have bF:=az b5;clear b5 aF;go_wp2_with fail
   go_roundg ((s1.q 5 (k+1)).length)
   case rel=>exact⟨B',rfl,bE,bF⟩
   case measure=>have:=bU.out;omega
theorem Dy{rb k tb nt cap fb fc:Nat}{v0:Nat}{v1 x bk:Int}{R:World->Prop}(hk:k<nt)(hn:nt<1000000000)(J:w.cell? ⟨rb,6,none⟩=some (.slice (some ⟨tb,0,none⟩) nt cap))(u:w.cell? ⟨tb,k*8,none⟩=some (.slice (some ⟨fb,0,none⟩) 1 fc)/\w.frozen? ⟨tb,k*8,none⟩=false)(W:w.cell? ⟨fb,3,none⟩=some (.int .i64 bk))(Y:1<=fc)(n1:rb≠tb)(n2:tb≠fb)(hx:x=if 0<v0 then 0 else v1)(G:∀w1,((w.setCell ⟨tb,k*8,none⟩ (.slice (some ⟨fb,0,none⟩) 0 fc)).alloc (.cells #[.int .i64 v0,.int .i64 v1] 115)).grownBy w1 none->Calls prog 196 #[P0 rb,.int .i64 ((k:Int)+1),.int .i64 2,.int .i64 x,.agg #[.int .i64 v0,.int .i64 v1]] w1 λe w'=>e=.returned (.tuple #[])/\R w'): Calls prog 193 #[P0 rb,.int .i64 ((k:Int)+1),.agg #[.int .i64 v0,.int .i64 v1]] w λe w'=>e=.returned (.bool true)/\R w':=by
 obtain⟨u,z0⟩:=u;have lr:rb<w.heap.size:=av w _ J;have lt:tb<w.heap.size:=av w _ u;have lf:fb<w.heap.size:=av w _ W;have q5:=fp (n:=k) (by omega);have q7:(0:Int)<=k:=by omega
 have q8:(k:Int)<nt:=by omega
 have q9:(1:Int)<=fc:=by omega
 have y:=az G;by_cases H:0<v0
 .rw[aj H]at hx;subst hx
  go_in;go_wp2_with fail
  refine(y _ (ax _ _)).mono ?_;rintro e Z ⟨rfl,hR⟩;have o:=az hR;go_wp2_with fail
  go_ret;exact⟨rfl,o⟩
 rw[aa H]at hx;subst hx;have i:¬(0:Int)<v0:=by omega
 go_in;go_wp2_with fail
 refine(y _ (ax _ _)).mono ?_;rintro e Z ⟨rfl,hR⟩;have o:=az hR;go_wp2_with fail
 go_ret;exact⟨rfl,o⟩
theorem Bj{rb k tb nt cap fb fc n vb i rc a:Nat}{v0:Nat}{v1:Int}{Y H:Value}(hk:k<nt)(hn:nt<1000000000)(W:n<100)(G:w.cell? ⟨rb,6,none⟩=some (.slice (some ⟨tb,0,none⟩) nt cap))(y:w.cell? ⟨tb,k*8,none⟩=some (.slice (some ⟨fb,0,none⟩) (n+2) fc)/\w.frozen? ⟨tb,k*8,none⟩=false)(J:w.cell? ⟨fb,(n+1)*4+3,none⟩=some (.int .i64 a))(k1:w.cell? ⟨fb,n*4+1,none⟩=some (.slice (some ⟨vb,0,none⟩) i rc))(a0:n+2<=fc)(n1:rb≠tb)(n2:tb≠fb)(n3:tb≠vb)(n4:fb≠vb)(o:w.cell? ⟨vb,a*2,none⟩=some Y/\w.frozen? ⟨vb,a*2,none⟩=false)(u:w.cell? ⟨vb,a*2+1,none⟩=some H/\w.frozen? ⟨vb,a*2+1,none⟩=false)(ha:a<i): Calls prog 193 #[P0 rb,.int .i64 ((k:Int)+1),.agg #[.int .i64 v0,.int .i64 v1]] w λe w'=>e=.returned (.bool false)/\((((w.setCell ⟨tb,k*8,none⟩ (.slice (some ⟨fb,0,none⟩) (n+1) fc)).setCell ⟨vb,a*2,none⟩ (.int .i64 v0)).setCell ⟨vb,a*2+1,none⟩ (.int .i64 v1)).alloc (.cells #[.int .i64 v0,.int .i64 v1] 115)).grownBy w' none:=by
 obtain⟨y,z0⟩:=y;obtain⟨Z,z8⟩:=o;obtain⟨v9,z9⟩:=u;have lr:rb<w.heap.size:=av w _ G;have lt:tb<w.heap.size:=av w _ y;have lf:fb<w.heap.size:=av w _ J;have lv:vb<w.heap.size:=av w _ Z;have q5:=fp (n:=k) (by omega);have q7:(0:Int)<=k:=by omega
 have q8:(k:Int)<nt:=by omega
 have p1:IntKind.i64.wrap ((n:Int)+2-1)=(n:Int)+1:=by rw[bl,bd _ (by omega)];omega
 have p2:IntKind.i64.wrap ((n:Int)+1-1)=(n:Int):=fp (by omega);have p3:(0:Int)<=n+1:=by omega
 have p4:(n:Int)+1<(n:Int)+2:=by omega
 have p5:(n:Int)+1<=(fc:Int):=by omega
 have p6:(0:Int)<=n:=by omega
 have p7:(n:Int)<n+1:=by omega
 have p8:¬((n:Int)+1=0):=by omega
 have p9:(a:Int)<i:=by omega
 have m1:¬(w.heap.size=tb):=by omega
 have m2:¬(w.heap.size=vb):=by omega
 go_in;go_wp2_with fail
 go_region
 all_goals
  go_wp2_with fail
  go_ret;refine⟨rfl,?_⟩;first
   | exact ax _ _
   | exact bq (ax _ _)
   | exact db (ax _ _) _
   | exact⟨rfl,rfl,rfl,bj _,λ_ _ _=>rfl⟩
theorem JU{p:Dp}(m:Dm)(g:Dg)(t i:Nat):(ok p m g 6 t i).bs (g.rb t i):=rfl
theorem wH{p:dz}{s:Pl}{X:Nat->Prop}{ρ:Nat->Nat}{v:B.V}(u:fS p s X)(hS:eK p K s m ρ)(o:dN p s v):((tr ρ v).1=0↔v.1=0)/\(if 0<(tr ρ v).1 then(0:Int) else(tr ρ v).2)=v.2:=by
 by_cases e:v.1=0
 .rw[om e];exact⟨Iff.rfl,by rw[aa (by omega)]⟩
 have y:=(hS.C v.1 (B.oH.vi o e)).c1;have i:=u.Ay o;rw[oZ e];refine⟨⟨λh=>?_,λh=>ch h e⟩,?_⟩
 .omega
 show(if 0<ρ v.1 then(0:Int) else 0)=v.2;rcases i with h|h
 .exact ch h e
 rw[h.2.2.2];split<;>rfl
theorem Ae{v:B.V}(s:Pl)(t kind:Nat)(x:Int):v.1=0\/v∈(s.gone t v kind x).kp:=by
 rw[(gV s t v kind x).2.2.1];by_cases e:v.1=0
 .exact ag e
 exact ab (jK e)
theorem eK.small(hS:eK p K s m ρ)(e:Ok p s):m.nt<1000000000/\m.q.length<=1000000000:=by
 refine⟨by rw[hS.nt];have:=e.lw.d;omega,?_⟩;rw[hS.q];have:=e.lw.len (x:=2) (y:=0) (ag ⟨rfl,rfl⟩);omega
theorem Ga{t:Nat}{v:B.V}(hP:PD p d)(h:dQ d m g w)(hS:eK p K s m ρ)(J:Ok p s)(G:t∈s.lv)(hw:(s.T t).wh=none)(hv:dN p s v)(he:m.ev.length<=100000): Calls prog 193 #[P0 g.mb,.int .i64 t,vA (tr ρ v)] w λe w'=>e=.returned (.bool (decide (cr s t=0)))/\∃m' g',Tr d m g w m' g' w'/\eK p K (s.back t v) m' ρ:=by
 have ht:=J.lt t G;have o:=(iw hS t).2 ht;have Y:=hS.T t G;have hF:=J.fw t G trivial;obtain⟨hn,hq⟩:=hS.small J;have aA:pQ m t=cr s t:=by unfold pQ cr;rw[Y.l]
 obtain⟨tb,fb,n,T⟩:=h.top o (by rw[Y.l];exact λe=>hF.n1 (cf.1 e));have H:cr s t=n:=by unfold cr;rw[<-Y.l,T.l];omega
 obtain⟨Z,f0,f1,f2,f3⟩:=h.F o (by rw[T.l];omega);have a9:n+1<=(g.ro 5 t).2:=by rw[T.l]at f1;exact f1
 have a7:m.dv t ((m.T t).kD ((m.T t).fr.take n))=m.pop t:=by unfold Dm.pop;rw[List.dropLast_eq_take,T.l];rfl
 have y:=h.shrink o T.b (j:=n) (by rw[T.l];omega) (r:=g.ro 5 t) (ag rfl);rw[a7]at y;have aD:Value.slice (g.ro 5 t).1 n (g.ro 5 t).2=.slice (some ⟨fb,0,none⟩) n (g.ro 5 t).2:=by rw[T.a]
 rw[aD]at y;have a0:w.frozen? ⟨tb,(t-1)*8,none⟩=false:=by
  obtain⟨aC,e1,_,tc⟩:=h.tc o;have:aC=tb:=by
   have:=T.b;rw[e1]at this;injection this with this _;injection this with this;injection this with this _
  subst this;exact(tc.c 0 (by omega)).2
 obtain⟨k,rfl⟩:∃k,t=k+1:=⟨t-1,by omega⟩;rw[dC]at a0 y;have t0:=T.t0;rw[dC]at t0;have a6:k<m.nt:=by omega
 by_cases h0:cr s (k+1)=0
 .have aF:n=0:=by omega
  subst aF;rw[fh h0];have k3:=T.k3;rw[Nat.zero_mul,Nat.zero_add]at k3;refine(Dy (x:=v.2) (R:=λw'=>∃m' g',Tr d m g w m' g' w'/\eK p K (s.back (k+1) v) m' ρ) a6 hn T.c6 ⟨t0,a0⟩ k3 a9 T.n3 T.n2 (wH J hS hv).2.symm (λw1 aE=>?_)).mono ?_
  .have a4:=(y.kept (ah _ _ none)).kept aE;have hg:Ok p (s.gone (k+1) v 2 v.2):=J.gone G hv 2 v.2 (λ_ _ h=>h);have aN:k+1∉(s.gone (k+1) v 2 v.2).lv:=by rw[(gV s (k+1) v 2 v.2).1,J.nd.mem_erase_iff];exact λh=>h.1 rfl
   have a8:Ok p ((s.gone (k+1) v 2 v.2).pop (k+1)):=(hg.pop (by rw[oi,jd]) (λu hu=>⟨trivial,ag hu⟩)).Gt (λu hu _ e=>aN (e▸hu));rw[<-px hw]at a8;refine(JL (t:=k+1) (kind:=2) (x:=v.2) (v:=v) hP a4.r ((eg (iO (s.pop (k+1)) (k+1) v 2 v.2)).2 ht) a8 (hS.Jx (kind:=2) (x:=v.2) J G hw hv) (Ae (s.pop (k+1)) (k+1) 2 v.2) hq he).mono ?_;rintro e w' ⟨rfl,m',g',h1,h2⟩;refine⟨rfl,m',g',a4.trans h1,?_⟩;have hb:s.back (k+1) v=((s.pop (k+1)).gone (k+1) v 2 v.2).dR v (((s.pop (k+1)).gone (k+1) v 2 v.2).q 5 (k+1)):=by
    unfold Pl.back Pl.leave;rw[aj h0,yS (J.lw.pop (k+1)) ht]
   rw[hb];exact h2
  rintro e w' ⟨rfl,hR⟩;exact⟨rfl,hR⟩
 obtain⟨j,rfl⟩:∃j,n=j+1:=⟨n-1,by omega⟩;rw[fi h0];have a1:j<(m.T (k+1)).fr.length:=by rw[T.l];omega
 have W:j<(s.T (k+1)).fr.length:=by rw[<-Y.l];exact a1
 have a3:=h.R o a1;have aH:Z=fb:=by rw[T.a]at f0;injection f0 with f0;injection f0 with f0 _;exact f0.symm
 subst aH;have a2:=f3.cell (j*4+1) (by rw[T.l];omega);rw[tA d m g (k+1) (by omega)]at a2;have v6:=Az (p:=d) (m:=m) o.1 o.2 a1;have aP:(ok d m g 5 (k+1) 0).bs Z:=by
  show eO (g.ro 5 (k+1)).1=some Z;rw[T.a];rfl
 have aJ:(fj m (k+1) (j+1)).bk.2.1=(bw s (k+1)).bk.2.1:=by
  have:=(Y.f (cr s (k+1)) (by unfold cr;omega)).bk h0;rw[H]at this;unfold bw;rw[H];exact this
 have aB:(fj m (k+1) (j+1)).bk.2.1<d.rg (fj m (k+1) j).f:=by
  rw[aJ,show(fj m (k+1) j).f=(de s (k+1) j).f from(Y.f j W).f,hP.rg (de s (k+1) j).f (hF.f j W).1];have:=hF.b j (by rw[<-Y.l,T.l];omega);unfold bw;rw[H];exact this
 refine(Bj a6 hn (by have:=hF.n2;rw[<-Y.l,T.l]at this;omega) T.c6 ⟨t0,a0⟩ T.k3 a2 a9 T.n3 T.n2 (h.ne (m6 (by omega)) v6 ((Bw d m T.b tb).2 rfl) (JU m g _ _) (by omega)) (h.ne (pX (p:=d) (m:=m) o.1 o.2) v6 aP (JU m g _ _) (by omega)) (a3.cells _ (by omega)) (a3.cells _ (by omega)) aB).mono ?_;rintro e w' ⟨rfl,hg⟩;have a5:((m.pop (k+1)).T (k+1)).fr=(m.T (k+1)).fr.dropLast:=by unfold Dm.pop;rw[fG];rfl
 have aI:fj (m.pop (k+1)) (k+1) j=fj m (k+1) j:=by
  unfold fj;rw[a5];exact lP (by rw[T.l];omega)
 refine⟨rfl,_,_,((y.trans (y.r.wP (t:=k+1) (i:=j) o (by rw[a5,ef,T.l];omega) (fj m (k+1) (j+1)).bk.2.1 (tr ρ v))).kept (ah _ _ none)).kept hg,?_⟩;have h4:=hS.back G h0 hv;rw[aI];have aM:pR m (k+1)=fj m (k+1) (j+1):=by unfold pR;rw[aA,H]
 rw[aA,H,aM]at h4;exact h4
end D
namespace D
open F
variable {p : dz} {K K' : Nat} {s s' : Pl} {m m' : Dm} {ρ : Nat → Nat} {X : Nat → Prop}
theorem vS(s:Pl)(f:Nat)(u v:B.V){t:Nat}(h:t≠s.nt+1):(s.born f u v).T t=s.T t:=by
 unfold Pl.born;rw[oh _ h,oN _ _ h];exact mi s h
theorem FF(s:Pl)(f:Nat)(u v:B.V):((s.born f u v).T (s.nt+1)).fr=[⟨f,0,gh u v,(0,0,0,0)⟩]/\((s.born f u v).T (s.nt+1)).wh=some (2,0):=by
 unfold Pl.born;refine⟨?_,xB _ _ _ _⟩;rw[nO];show((Pl.dw _ _).T _).fr=_;rw[ku,rm];show((s.new).T (s.nt+1)).fr++_=_;rw[lM];rfl
theorem DV(s:Pl)(f:Nat)(u v:B.V)(a b:Nat):(s.born f u v).q a b=if a=2/\b=0 then s.q 2 0++[s.nt+1] else if a=5/\b=s.nt+1 then[] else s.q a b:=by
 unfold Pl.born;have hw:((s.more.push (s.nt+1) ⟨f,0,gh u v,(0,0,0,0)⟩).T (s.nt+1)).wh=none:=by
  rw[(rk _ _ _ _).1];show((s.new).T (s.nt+1)).wh=none;rw[lM];rfl
 show((Pl.dw _ _).eZ 2 0 _).q a b=_;rw[gd hw];by_cases e:a=2/\b=0
 .rw[aj e,e.1,e.2,fX];rfl
 rw[aa e,fL _ _ e];rfl
theorem eK.born(h:eK p K s m ρ){f:Nat}{u v:B.V}(hO:fS p s X)(a6:s.lv.length<p.mt)(hu:dN p s u)(hv:dN p s v):eK p K (s.born f u v) (m.born f (tr ρ u) (tr ρ v)) ρ:=by
 obtain⟨b1,b2,b3,b4⟩:=Ap s f u v;have W:(s.born f u v).nt=s.nt+1:=by unfold Pl.born;rw[iX];rfl
 obtain⟨j1,j2,j3,j4,j5,j6,j7,j8,j9,a5⟩:=iW (s.more.push (s.nt+1) ⟨f,0,gh u v,(0,0,0,0)⟩) 2 0 (s.nt+1);have a1:(s.born f u v).out=s.out++[(0,0)]:=j2;have a4:∀t,t∈s.lv->t≠s.nt+1:=λt ht e=>by have:=(hO.lt t ht).2;omega
 have J:∀t,t≠s.nt+1->(m.born f (tr ρ u) (tr ρ v)).T t=m.T t:=λt e=>aa (by rw[h.nt];exact e);have Z:(m.born f (tr ρ u) (tr ρ v)).T (s.nt+1)=⟨[⟨f,0,gh (tr ρ u) (tr ρ v),(0,0,0,0)⟩],1,0,0,0,0,(0,0)⟩:=aj (by rw[h.nt]);have H:=FF s f u v;have a0:∀t,t<=s.nt->1<=t->m9 (s.born f u v) t=m9 s t:=λt ht h1=>by
  unfold m9;rw[a1,ar,du (by rw[hO.ol];omega),<-ar]
 have hg:∀x,qw p (s.born f u v) x->dN p s x:=by
  rintro x (⟨c,i,a,o,hi,ha,e⟩|Y)
  .rw[b1]at o;by_cases ec:c=s.nt+1
   .subst ec;have h0:i=0:=by rw[H.1]at hi;simpa using hi
    subst h0;have hf:de (s.born f u v) (s.nt+1) 0=⟨f,0,gh u v,(0,0,0,0)⟩:=by unfold de;rw[H.1];rfl
    rw[hf]at e;rw[<-e];exact pn hu hv a
   have a3:c∈s.lv:=by
    rcases di.1 o with o|o
    .exact o
    exact ch (dL.1 o) ec
   have hf:de (s.born f u v) c i=de s c i:=gJ (by rw[vS s f u v ec]);rw[hf]at ha e;rw[vS s f u v ec]at hi;exact dN.root (ag ⟨c,i,a,a3,hi,ha,e⟩)
  rw[b3]at Y;exact dN.root (ab Y)
 obtain⟨k1,k2⟩:=h.cells (s':=s.born f u v) (m':=m.born f (tr ρ u) (tr ρ v)) b4 j8 hg ⟨rfl,rfl,rfl⟩;refine⟨by rw[W];show m.nt+1=_;rw[h.nt],?_,by show m.jo=_;rw[h.Ee];exact j4.symm,by show m.sp=_;rw[h.sp];exact a5.symm,by show m.ev=_;rw[h.ev];exact j9.symm,by show m.eY=_;rw[h.ck];exact j5.symm,λt ht=>?_,λt ht hn=>?_,k1,k2,λx Y=>?_,λa b G Y=>?_,λt ht=>?_,h.A,by rw[b1,bo];exact a6,h.B⟩
 .show m.q++[m.nt+1]=_;rw[DV,aj ⟨rfl,rfl⟩,h.q,h.nt]
 .rw[b1]at ht;by_cases e:t=s.nt+1
  .subst e;rw[Z];refine⟨by rw[H.1];rfl,λi hi=>?_,rfl,⟨λ_=>rfl,λ_ _=>rfl,λy e=>?_,λy e=>?_,λy e=>?_⟩⟩
   .rw[H.1]at hi ⊢;have h0:i=0:=by simpa using hi
    subst h0;refine⟨rfl,rfl,λe=>ch rfl e,λk _=>?_⟩;show gh (tr ρ u) (tr ρ v) k=tr ρ (gh u v k);unfold gh;split
    .rfl
    split
    .rfl
    rfl
   all_goals
    rw[H.2]at e;injection e with e;injection e with e _;exact ch e (by decide)
  rw[vS s f u v e,J t e];refine h.T t ?_;rcases di.1 ht with ht|ht
  .exact ht
  exact ch (dL.1 ht) e
 .rw[b1]at hn;have h1:t∉s.lv:=λe=>hn (ee _ e);have h2:t≠s.nt+1:=λe=>hn (List.mem_append_right _ (by simp[e]));have h3:t<=s.nt:=by have:=ht.2;rw[W]at this;omega
  rw[J t h2,a0 t h3 ht.1];exact h.O t ⟨ht.1,h3⟩ h1
 .rw[b3]at Y;obtain⟨c,c1,c2,c3⟩:=h.Kp x Y;refine⟨c,⟨c1.1,by rw[W];have:=c1.2;omega⟩,λo=>?_,by rw[a0 c c1.2 c1.1];exact c3⟩;rw[b1]at o;rcases di.1 o with o|o
  .exact c2 o
  have:=dL.1 o;have:=c1.2;omega
 .rw[DV,aa (λe=>Y e.1)];by_cases e:a=5/\b=s.nt+1
  .rw[aj e];exact List.Pairwise.nil
  rw[aa e];have a2:fz s a b:=by
   unfold fz at G ⊢;rcases G with G|G|G|G
   .exact ag G
   .exact ab (ag G)
   .exact ab (ab (ag G))
   refine ab (ab (ab ⟨G.1,G.2.1,?_⟩));have:=G.2.2;rw[W]at this;have:b≠s.nt+1:=λe'=>e ⟨G.1,e'⟩;omega
  exact vT (h.L a b a2 Y) (λc o=>by rw[J c (a4 c (hO.ql a b a2 c o))];exact⟨rfl,rfl⟩)
 rw[b1]at ht;by_cases e:t=s.nt+1
 .subst e;rw[Z];exact dc _
 rw[J t e];rcases di.1 ht with ht|ht
 .exact h.N t ht
 exact ch (dL.1 ht) e
theorem eK.sK(h:eK p K s m ρ){a i:Nat}{v:B.V}(W:ou p s a)(hv:dN p s v):eK p K (s.sK a i v) (m.put (ρ a) i (tr ρ v)) ρ:=by
 have y:∀c,ou p (s.sK a i v) c->ou p s c:=λc o=>B.CE W hv o;refine { h with C:=λc o=>?_,I:=λc H o G=>h.I c H (y c o) (y H G) };obtain⟨c1,c2,J,c4,c5,Z⟩:=h.C c (y c o);have u:(B.lay s.M a ((s.M a).set i v) c).length=(s.M c).length:=by
  by_cases e:c=a
  .subst e;rw[B.gl,dq]
  rw[B.fq _ _ _ _ e]
 refine⟨c1,c2,?_,c4,λY e=>c5 Y (cf.1 (by rw[<-u];exact cf.2 e)),by show(B.lay s.M a ((s.M a).set i v) c).length<=8;rw[u];exact Z⟩;show(if ρ c=ρ a then(m.M (ρ a)).set i (tr ρ v) else m.M (ρ c))=(B.lay s.M a ((s.M a).set i v) c).map (tr ρ);by_cases e:c=a
 .subst e;rw[aj rfl,B.gl,J,List.map_set]
 rw[aa (λe'=>e (h.I c a (y c o) W e')),B.fq _ _ _ _ e,J]
theorem eK.na(h:eK p K s m ρ){t a c ty:Nat}{J:B.Kd}{l:List B.V}(hO:fS p s X)(a3:t∈s.lv)(hn:(s.T t).fr≠[])(hk:B.jX J p.n (eh p s) s.M)(h3:J.on c=false)(aL:c≠0)(aN:ty≠0->l≠[])(aK:l.length<=8)(hl:∀v,v∈l->dN p s v): eK p (K+1) ((s.na J c ty l).dx t (cr s t) ((bw s t).set a (c,0))) ((m.cell ty (l.map (tr ρ))).dx t (pQ m t) ((pR m t).set a (m.nc+1,0))) (λk=>if k=c then m.nc+1 else ρ k):=by
 have hi:cr s t<(s.T t).fr.length:=by
  have:(s.T t).fr.length≠0:=λe=>hn (cf.1 e);unfold cr;omega
 have aM:¬ou p s c:=λhc=>by
  have:=(B.po hk hc).1;rw[h3]at this;cases this
 have a9:∀v,dN p s v->tr (λk=>if k=c then m.nc+1 else ρ k) v=tr ρ v:=λv hv=>by
  by_cases e:v.1=0
  .rw[om e,om e]
  rw[oZ e,oZ e];have aG:v.1≠c:=λe'=>aM (e'▸B.oH.vi hv e);show((if v.1=c then m.nc+1 else ρ v.1),(0:Int))=_;rw[aa aG]
 have hT:=h.T t a3;have aF:pQ m t=cr s t:=by unfold pQ cr;rw[hT.l]
 have aH:pR m t=fj m t (cr s t):=by unfold pR;rw[aF]
 rw[aF,aH];have e1:((s.na J c ty l).dx t (cr s t) ((bw s t).set a (c,0))).T t={ s.T t with fr:=(s.T t).fr.set (cr s t) ((bw s t).set a (c,0)) }:=df _ _ _;have e2:((m.cell ty (l.map (tr ρ))).dx t (cr s t) ((fj m t (cr s t)).set a (m.nc+1,0))).T t=(m.T t).kD ((m.T t).fr.set (cr s t) ((fj m t (cr s t)).set a (m.nc+1,0))):=fG _ _ _;have hs:∀u,u≠t->((s.na J c ty l).dx t (cr s t) ((bw s t).set a (c,0))).T u=s.T u:=λu e=>dP _ _ e;have hm:∀u,u≠t->((m.cell ty (l.map (tr ρ))).dx t (cr s t) ((fj m t (cr s t)).set a (m.nc+1,0))).T u=m.T u:=λu e=>fA _ _ e;have a7:∀v,v∈eh p ((s.na J c ty l).dx t (cr s t) ((bw s t).set a (c,0)))->v=(c,0)\/dN p s v:=λv hv=>by
  rcases gi.1 hv with⟨u,j,b,Y,hj,hb,e⟩|hv
  .by_cases eu:u=t
   .subst eu;rw[e1]at hj;have a1:j<((s.T u).fr.set (cr s u) ((bw s u).set a (c,0))).length:=hj;rw[dq]at a1;have aI:de ((s.na J c ty l).dx u (cr s u) ((bw s u).set a (c,0))) u j=if j=cr s u then(bw s u).set a (c,0) else de s u j:=by
     unfold de;rw[e1];exact jU hi
    rw[aI]at hb e;by_cases ej:j=cr s u
    .rw[aj ej]at hb e;have e3:B.set (bw s u).R a (c,0) b=v:=e;by_cases eb:b=a
     .subst eb;rw[B.ie]at e3;exact ag e3.symm
     rw[B.gS _ _ _ _ eb]at e3;rw[<-e3];exact ab (Rn.iE a3 _ hi b hb)
    rw[aa ej]at hb e;rw[<-e];exact ab (Rn.iE a3 j a1 b hb)
   have hf:de ((s.na J c ty l).dx t (cr s t) ((bw s t).set a (c,0))) u j=de s u j:=gJ (by rw[hs u eu]);rw[hf]at hb e;rw[hs u eu]at hj;exact ab (dN.root (ag ⟨u,j,b,Y,hj,hb,e⟩))
  exact ab (dN.root (ab hv))
 have Z:∀k,ou p ((s.na J c ty l).dx t (cr s t) ((bw s t).set a (c,0))) k->k=c\/ou p s k:=λk hk=>B.sJ (L:=eh p s) hl a7 hk;have aC:∀k,ou p s k->∀v,v∈s.M k->dN p s v:=λk hk v hv=>ab (ab ⟨k,hk,hv⟩);have a5:∀l':List B.V,(∀v,v∈l'->dN p s v)->l'.map (tr (λk=>if k=c then m.nc+1 else ρ k))=l'.map (tr ρ):=λl' a8=>List.map_congr_left (λv hv=>a9 v (a8 v hv));refine⟨h.nt,h.q,h.Ee,h.sp,h.ev,h.ck,λu Y=>?_,λu Y aA=>?_,λk H=>?_,λk k' H a4 he=>?_,h.Kp,λx y a8 hx=>vT (h.L x y a8 hx) (λb _=>?_),λu Y=>?_,⟨by show m.G.all+1=m.nc+1;rw[h.A.1],Nat.succ_le_succ h.A.2.1,Nat.succ_le_succ h.A.2.2⟩,h.lm,⟨Nat.succ_le_succ h.B.1,Nat.le_succ_of_le h.B.2⟩⟩
 .have a6:∀u,u∈s.lv->∀i,i<(s.T u).fr.length->FS p (λk=>if k=c then m.nc+1 else ρ k) i ((s.T u).fr.getD i mr) ((m.T u).fr.getD i mr):=λu Y i aD=>by
   have hF:=(h.T u Y).f i aD;exact⟨hF.f,hF.nx,hF.bk,λk H=>by rw[hF.R k H];exact(a9 _ (Rn.iE Y i aD k H)).symm⟩
  by_cases eu:u=t
  .subst eu;refine⟨?_,λj hj=>?_,?_,?_⟩
   .rw[e1,e2];show((m.T u).fr.set _ _).length=((s.T u).fr.set _ _).length;rw[dq,dq];exact hT.l
   .rw[e1]at hj ⊢;rw[e2];have a1:j<((s.T u).fr.set (cr s u) ((bw s u).set a (c,0))).length:=hj;rw[dq]at a1;show FS p _ j (((s.T u).fr.set _ _).getD j mr) (((m.T u).fr.set _ _).getD j mr);rw[jU hi,jU (by rw[hT.l];exact hi)];by_cases e:j=cr s u
    .rw[aj e,aj e,e];have hF:=a6 u Y (cr s u) hi;refine⟨hF.f,hF.nx,hF.bk,λk H=>?_⟩;show B.set (fj m u (cr s u)).R a (m.nc+1,0) k=tr _ (B.set (bw s u).R a (c,0) k);by_cases e3:k=a
     .subst e3;rw[B.ie,B.ie];rw[oZ (v:=(c,0)) aL];show _=((if c=c then m.nc+1 else ρ c),(0:Int));rw[aj rfl]
     rw[B.gS _ _ _ _ e3,B.gS _ _ _ _ e3];exact hF.R k H
    rw[aa e,aa e];exact a6 u Y j a1
   .rw[e2];exact hT.o
   rw[e1,e2];exact hT.h.same rfl rfl rfl rfl rfl rfl rfl
  rw[hs u eu,hm u eu];exact⟨(h.T u Y).l,a6 u Y,(h.T u Y).o,(h.T u Y).h⟩
 .have eu:u≠t:=λe=>aA (e▸a3);rw[hm u eu];obtain⟨o1,o2,o3⟩:=h.O u Y aA;refine⟨o1,o2,o3.trans ?_⟩;refine(a9 _ ?_).symm;show dN p s (m9 s u);have aO:=Y.1;have aP:u<=s.nt:=Y.2;have aB:u-1<s.out.length:=by rw[hO.ol];omega
  have aJ:m9 s u∈s.out:=by
   unfold m9;rw[ar,bn aB];exact List.getElem_mem aB
  rcases hO.ok _ aJ with h0|h0
  .exact ag h0
  exact dN.root (ab h0)
 .by_cases W:k=c
  .subst W;refine⟨by show 1<=(if k=k then m.nc+1 else ρ k);rw[aj rfl];omega,by show(if k=k then m.nc+1 else ρ k)<=m.nc+1;rw[aj rfl];omega,?_,?_,?_,?_⟩
   .show(if(if k=k then m.nc+1 else ρ k)=m.nc+1 then l.map (tr ρ) else m.M (if k=k then m.nc+1 else ρ k))=(B.lay s.M k l k).map _;rw[aj rfl,aj rfl,B.gl,a5 l hl]
   .show(if(if k=k then m.nc+1 else ρ k)=m.nc+1 then ty else m.ck (if k=k then m.nc+1 else ρ k))=if k=k then ty else s.ck k
    rw[aj rfl,aj rfl,aj rfl]
   .show(if k=k then ty else s.ck k)≠0->B.lay s.M k l k≠[];rw[aj rfl,B.gl];exact aN
   show(B.lay s.M k l k).length<=8;rw[B.gl];exact aK
  have aE:=(Z k H).resolve_left W;obtain⟨c1,c2,c3,c4,c5,c6⟩:=h.C k aE;refine⟨by show 1<=(if k=c then m.nc+1 else ρ k);rw[aa W];exact c1,by show(if k=c then m.nc+1 else ρ k)<=m.nc+1;rw[aa W];omega,?_,?_,?_,?_⟩
  .show(if(if k=c then m.nc+1 else ρ k)=m.nc+1 then l.map (tr ρ) else m.M (if k=c then m.nc+1 else ρ k))=(B.lay s.M c l k).map _;rw[aa W,aa (by omega),B.fq _ _ _ _ W,a5 _ (aC k aE),c3]
  .show(if(if k=c then m.nc+1 else ρ k)=m.nc+1 then ty else m.ck (if k=c then m.nc+1 else ρ k))=if k=c then ty else s.ck k
   rw[aa W,aa (by omega),aa W,c4]
  .show(if k=c then ty else s.ck k)≠0->B.lay s.M c l k≠[];rw[aa W,B.fq _ _ _ _ W];exact c5
  show(B.lay s.M c l k).length<=8;rw[B.fq _ _ _ _ W];exact c6
 .have a2:=he;by_cases W:k=c
  .by_cases a0:k'=c
   .rw[W,a0]
   rw[aj W,aa a0]at a2;have:=(h.C k' ((Z k' a4).resolve_left a0)).c2;omega
  by_cases a0:k'=c
  .rw[aa W,aj a0]at a2;have:=(h.C k ((Z k H).resolve_left W)).c2;omega
  rw[aa W,aa a0]at a2;exact h.I k k' ((Z k H).resolve_left W) ((Z k' a4).resolve_left a0) a2
 .by_cases eb:b=t
  .subst eb;rw[e2];exact⟨rfl,rfl⟩
  rw[hm b eb];exact⟨rfl,rfl⟩
 by_cases eu:u=t
 .subst eu;rw[e2];exact h.N u Y
 rw[hm u eu];exact h.N u Y
end D
namespace D
open F
variable {p : dz} {d : Dp} {K : Nat} {s : Pl} {m m' : Dm} {g g' : Dg} {w w' : World} {ρ : Nat → Nat}
structure qP(p:dz) (d:Dp) (s:Pl) (m:Dm) (g:Dg) (w:World) (ρ:Nat->Nat) (t tb fb n nr:Nat):Prop where
 T:JZ d m g w t tb fb n
 hn:cr s t=n
 hf:(fj m t n).f=(bw s t).f
 r1:d.rg (fj m t n).f=nr
 r2:p.rg (bw s t).f=nr
 F:Full w (g.rb t n) 115 (nr*2) (nr*2) (eC (fj m t n).R)
 V:∀a,a<nr->(fj m t n).R a=tr ρ ((bw s t).R a)
 n20:n<20
 dt:mF m t
section
variable {t tb fb n nr : Nat} (h : qP p d s m g w ρ t tb fb n nr)
include h
theorem qP.tp:pQ m t=n:=by unfold pQ;rw[h.T.l];omega
theorem qP.tf:pR m t=fj m t n:=by unfold pR;rw[h.tp]
theorem qP.hi:n<(m.T t).fr.length:=by rw[h.T.l];omega
end
theorem Rn.run{t:Nat}(hP:PD p d)(h:dQ d m g w)(hS:eK p K s m ρ)(hR:Rn p s t):∃tb fb n nr,qP p d s m g w ρ t tb fb n nr:=by
 have u:=hS.T t hR.lv;have o:=(iw hS t).2 hR.ht;obtain⟨tb,fb,n,T⟩:=h.top o (by rw[u.l];exact λe=>hR.fw.n1 (cf.1 e));have hn:cr s t=n:=by unfold cr;rw[<-u.l,T.l];omega
 have W:=u.f n (by rw[<-u.l,T.l];omega);have G:bw s t=de s t n:=by unfold bw;rw[hn]
 have J:(fj m t n).f=(bw s t).f:=by rw[G];exact W.f
 have y:=hP.rg (bw s t).f hR.ff.1;refine⟨tb,fb,n,p.rg (bw s t).f,T,hn,J,by rw[J,y],rfl,?_,λa Y=>?_,?_,o⟩
 .have:=h.R o (i:=n) (by rw[T.l];omega);rw[J,y]at this;exact this
 .rw[G]at Y ⊢;exact W.R a Y
 have:=hR.fw.n2;rw[<-u.l,T.l]at this;omega
theorem qP.kept{t tb fb n nr:Nat}(h:qP p d s m g w ρ t tb fb n nr)(H:dQ d m g w)(y:w.grownBy w' none):qP p d s m g w' ρ t tb fb n nr:=by
 obtain⟨i,u,W,T⟩:=(H.kept y).top h.dt (by rw[h.T.l];omega);have Y:i=tb:=by
  have:=T.b;rw[h.T.b]at this;injection this with this _;injection this with this;injection this with this _;exact this.symm
 have J:u=fb:=by
  have:=T.a;rw[h.T.a]at this;injection this with this;injection this with this _;exact this.symm
 have G:W=n:=by
  have:=T.l;rw[h.T.l]at this;omega
 subst Y J G;exact⟨T,h.hn,h.hf,h.r1,h.r2,h.F.block (y.block _ h.F.lt (by intro e;cases e)),h.V,h.n20,h.dt⟩
theorem qP.set{t tb fb n nr:Nat}(h:qP p d s m g w ρ t tb fb n nr)(i:dQ d m g w)(hS:eK p K s m ρ)(hR:Rn p s t)(a:Nat){v:B.V}(e:dN p s v)(o:((w.setCell ⟨g.rb t n,a*2,none⟩ (.int .i64 ((tr ρ v).1:Int))).setCell ⟨g.rb t n,a*2+1,none⟩ (.int .i64 (tr ρ v).2)).grownBy w' none): ∃m' g',Tr d m g w m' g' w'/\eK p K (s.dx t (cr s t) ((bw s t).set a v)) m' ρ:=by
 refine⟨_,g,(i.wP h.dt h.hi a (tr ρ v)).kept o,?_⟩;have:=hS.oD hR.lv hR.fw.n1 a e;rw[h.tp,h.tf]at this;exact this
theorem qP.rc{t tb fb n nr a:Nat}(h:qP p d s m g w ρ t tb fb n nr)(e:a<nr):w.cell? ⟨g.rb t n,a*2,none⟩=some (.int .i64 ((tr ρ ((bw s t).R a)).1:Int))/\w.cell? ⟨g.rb t n,a*2+1,none⟩=some (.int .i64 (tr ρ ((bw s t).R a)).2)/\w.frozen? ⟨g.rb t n,a*2,none⟩=false/\w.frozen? ⟨g.rb t n,a*2+1,none⟩=false:=by
 have:=Iz h.F e;rw[h.V a e]at this;exact this
theorem eK.Gf{v:B.V}(hS:eK p K s m ρ)(u:Ok p s)(o:dN p s v)(i:v.1≠0):tr ρ v=(ρ v.1,0)/\1<=ρ v.1/\ρ v.1<=m.nc/\m.M (ρ v.1)=(s.M v.1).map (tr ρ)/\m.ck (ρ v.1)=s.ck v.1:=by
 have e:=hS.C v.1 (B.oH.vi o i);exact⟨oZ i,e.c1,e.c2,e.M,e.k⟩
end D
end Go.Proofs.YtnjiinbhbjpfkaaGreatDoor
