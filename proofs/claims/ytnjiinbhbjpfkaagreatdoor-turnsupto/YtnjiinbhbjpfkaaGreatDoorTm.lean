import Derived.Test.YtnjiinbhbjpfkaaGreatDoorTf
import Derived.Test.YtnjiinbhbjpfkaaGreatDoorTl
import Derived.Test.YtnjiinbhbjpfkaaGreatDoorTg
set_option maxRecDepth 100000
set_option maxHeartbeats 0
set_option linter.all false
namespace Go.Proofs.YtnjiinbhbjpfkaaGreatDoor
open Go.RowKit Go.Proofs.Tryz
namespace D
open F
variable {p:dL}{d:Dp}{K:Nat}{s:Pl}{m m':Dm}{g g':Dg}{w w':aa}{ρ:Nat → Nat}
theorem C9{w:aa}{e:TypeId}{ad:Option Addr}{n c:Nat}{xs:List Value}(h:gd w e (.slice ad n c) xs):n=xs.length/\(xs≠[]->∃b off,ad=some (ay b off)/\b<w.heap.size/\∀(j:Nat) u,xs[j]? = some u->w.cell? (ay b (off+j))=some u):=by
 rcases h with⟨i,y⟩|⟨g,off,cap,H,P,i,y,h3,J,o,hP⟩
 .grind
 injection i with a b W;refine⟨b,λ_=>⟨g,off,a,o.lt,λj u G=>?_⟩⟩;grind[Full.cell]
theorem zk{l:List Nat}{i a:Nat}(f:Nat->Bool)(h:l[i]? = some a):(l.take (i+1)).filter f=(l.take i).filter f++if f a=true then[a] else[]:=by
 rw[List.take_add_one,h,List.filter_append];grind
def NV(w0 wr:aa)(ad:Option Addr)(n c:Nat)(xs:List Nat):Prop:=gd wr 3 (.slice ad n c) (jJ xs)/\(∀k,fi ad=some k->w0.heap.size<=k)/\w0.grownBy wr none
theorem dZ.Mj{p:Dp}(h:dZ p m g w){t tb:Nat}(ht:mY m t)(o:g.ro 1 0=(some (ay tb 0),(g.ro 1 0).2)):Tr p m g w (m.dx t (((m.T t).hw 5).mz [])) (g.at 5 t (none,0)) ((w.setCell (ay tb ((t-1)*8+1)) (aj 5)).setCell (ay tb ((t-1)*8)) (.slice none 0 0)):=by
 have y:∀i:Nat,i<8->i=0\/i=1\/i=2\/i=3\/i=4\/i=5\/i=6\/i=7:=λi hi=>by omega
 have u:Tr p m g w (m.dx t ((m.T t).hw 5)) g (w.setCell (ay tb ((t-1)*8+1)) (aj 5)):=h.sK ht o 1 ag _ rfl (λi hi=>by rcases y i hi with rfl|rfl|rfl|rfl|rfl|rfl|rfl|rfl<;>rfl);have e:=u.r.shrink (t:=t) ht o (j:=0) (dk _) (r:=(none,0)) (ah ⟨rfl,rfl⟩);grind[jQ,gi,D.Tr.trans]
theorem dZ.Mk{p:Dp}(h:dZ p m g w){t tb:Nat}(ht:mY m t)(o:g.ro 1 0=(some (ay tb 0),(g.ro 1 0).2))(v:B.V):Tr p m g w (m.dx t { m.T t with out:=v }) g ((w.setCell (ay tb ((t-1)*8+6)) (aj v.1)).setCell (ay tb ((t-1)*8+7)) (aj v.2)):=by
 have u:∀i:Nat,i<8->i=0\/i=1\/i=2\/i=3\/i=4\/i=5\/i=6\/i=7:=λi hi=>by omega
 have y:Tr p m g w (m.dx t { m.T t with out:=(v.1,(m.T t).out.2) }) g (w.setCell (ay tb ((t-1)*8+6)) (aj v.1)):=h.sK ht o 6 ag _ rfl (λi hi=>by rcases u i hi with rfl|rfl|rfl|rfl|rfl|rfl|rfl|rfl<;>rfl);have e:=y.r.sK (t:=t) ht o 7 ag (aj v.2) (x':={ m.T t with out:=v }) (by rw[gi]) (λi hi=>by rw[gi];rcases u i hi with rfl|rfl|rfl|rfl|rfl|rfl|rfl|rfl<;>rfl);grind[jQ,D.Tr.trans]
theorem Tr.other{p:Dp}(h:Tr p m g w m' g' w'){k:Nat}{o:Obj}(e:w.heap[k]? = some o)(hn:¬eH p m g k):w'.heap[k]? = some o/\¬eH p m' g' k:=
 ⟨h.o.block e hn,λi=>(h.m k i).elim hn (λu=>by grind)⟩
def NR(p:dL)(d:Dp)(K:Nat)(s:Pl)(m:Dm)(g:Dg)(w:aa)(ρ:Nat->Nat)(t:Nat)(v:B.V)(x:Nat)(o:Obj)(n b:Nat)(wr:aa):Prop:=
 ∃s1 m1 g1,(wr.heap[x]? = some o/\¬eH d m1 g1 x)/\(s1.q 5 t).length=n/\Tr d m g w m1 g1 wr/\eF p K s1 m1 ρ/\Ok p s1/\s1.nt=s.nt/\(v.1=0\/v∈s1.kp)/\s1.eo v (s1.q 5 t)=s.eo v (s.q 5 t)/\((b=0/\s1.q 5 t=[])\/∃l,s1.q 5 t=b :: l)
theorem AD{t n x:Nat}{o:Obj}{v:B.V}{s1:Pl}{m1:Dm}{g1:Dg}{wr:aa}(W:g1.mb=g.mb)(hx:wr.heap[x]? = some o/\¬eH d m1 g1 x)(J:(s1.q 5 t).length=n)(h:Tr d m g w m1 g1 wr)(hS:eF p K s1 m1 ρ)(i:Ok p s1)(hn:s1.nt=s.nt)(ht:fm s t)(H:v.1=0\/v∈s1.kp)(he:s1.eo v (s1.q 5 t)=s.eo v (s.q 5 t)): Calls prog 192 #[P0 g.mb,aj 4,aj t] wr λe w'=>∃b:Nat,e=.returned (aj b)/\b<=s.nt/\NR p d K s m g w ρ t v x o n b w':=by
 rw[<-W];refine(Av h.r (by rw[hS.nt,hn];have:=ht.1;have:=ht.2;omega) 4 t).mono ?_;rintro e w' ⟨b,rfl,Y,y,u⟩;exact⟨b,rfl,by grind[D.eF.nt],s1,m1,g1,⟨da u hx.1 eR,hx.2⟩,J,h.kept u,hS,i,hn,H,he,hS.first i (ah (ah (ah ⟨rfl,(ey hn).2 ht⟩))) (ah rfl) y⟩
theorem F3{t n b x:Nat}{o:Obj}{v:B.V}{wr:aa}(hP:PD p d)(h:NR p d K s m g w ρ t v x o n b wr)(hb:b≠0)(ht:fm s t): eL 144 #[P0 g.mb,aj b,vA (tr ρ v)] wr λw'=>∃s1 m1 g1,g1.mb=g.mb/\(w'.heap[x]? = some o/\¬eH d m1 g1 x)/\n=(s1.q 5 t).length+1/\Tr d m g w m1 g1 w'/\eF p K s1 m1 ρ/\Ok p s1/\s1.nt=s.nt/\(v.1=0\/v∈s1.kp)/\s1.eo v (s1.q 5 t)=s.eo v (s.q 5 t):=by
 obtain⟨s1,m1,g1,hx,h0,h1,W,G,h4,h5,h6,h7⟩:=h;obtain⟨l,hq⟩:∃l,s1.q 5 t=b :: l:=h7.resolve_left (λe=>hb e.1);have hl:fN s1 5 t:=ah (ah (ah ⟨rfl,(ey h4).2 ht⟩));have a0:b∈s1.q 5 t:=by rw[hq];simp
 have u:=G.ql 5 t hl b a0;obtain⟨H,J⟩:=G.lw.b 5 t hl b a0;obtain⟨k,k1,k2,k3⟩:=G.ww b H 5 t J (ah rfl);obtain⟨_,_,i,i1,i2⟩:=(W.T b u).h.h5 t J;rw[k1]at i1;injection i1 with i1;subst i1;have hT:=W.T b u;have Y:=G.fw b u trivial;have a1:(s1.T b).fr.length≠0:=λe=>k2 (db.1 e);have hv:dW p s1 v:=h5.elim (λe=>af e) (λe=>dW.root (ah e));have a3:m1.q.length<=1000000000:=by
  rw[W.q];have:=G.lw.len (x:=2) (y:=0) (af ⟨rfl,rfl⟩);omega
 have a5:(pS m1 b).f=(dq s1 b ((s1.T b).fr.length-1)).f:=by
  unfold pS qd;rw[hT.l];exact(hT.f _ ag).f
 rw[<-h1.b];refine(zV (tr ρ v) h1.r ((iG W b).2 H) (by rw[W.nt];have:=G.lw.d;omega) a3 (λ_=>⟨eV hT.l a1,eV hT.l Y.n2,?_⟩)).mono ?_
 .grind[Int.toNat_natCast,dq,D.PD.rg,F.FW.f]
 rintro e w' ⟨rfl,g',h'⟩;have Z:(s1.gn b v).q 5 t=l:=by
  rw[pB v k1];have a2:((s1.dJ b (de s1 b) ((dq s1 b (de s1 b)).set k.2.1 v)).T b).wh=some (5,t):=by rw[(gI _ _ _ _ _).1];exact J
  generalize hX:s1.dJ b (de s1 b) ((dq s1 b (de s1 b)).set k.2.1 v)=X at *;have e1:(X.dY 2 0 b).q 5 t=(X.dz b).q 5 t:=fY (X.dz b) (x:=2) (y:=0) (a:=5) (b:=t) ((X.dz b).q 2 0++[b]) ag;have e2:((X.fF 5 t ((X.q 5 t).erase b)).dx b (X.T b).off).q 5 t=(X.q 5 t).erase b:=gH X 5 t _;rw[e1,gJ a2,e2,<-hX];show(s1.q 5 t).erase b=l;rw[hq];simp
 refine⟨rfl,s1.gn b v,m1.ready b (tr ρ v),g',by rw[h'.b,h1.b],h'.other hx.1 hx.2,eR,h1.trans h',W.gn G u trivial k1 i2 hv,G.gn H (λ_=>trivial) hv,(oq s1 b v).trans h4,?_,?_⟩
 .grind[qG]
 rw[Z,<-h6,hq];rfl
theorem Ml{t kind:Nat}{x:Int}{v:B.V}(hP:PD p d)(h:dZ d m g w)(ht:fm s t)(hO:Ok p s)(hS:eF p K s (m.gone t kind x (tr ρ v)) ρ)(hv:v.1=0\/v∈s.kp)(hq:m.q.length<=1000000000)(he:m.ev.length<=100000): eL 196 #[P0 g.mb,aj t,aj kind,aj x,vA (tr ρ v)] w λw'=>∃m' g',Tr d m g w m' g' w'/\eF p K (s.eo v (s.q 5 t)) m' ρ:=by
 obtain⟨i0,hi,bM,b8,bR⟩:=info_parts Tryz.sr;have a6:m.nt=s.nt:=hS.nt;have Z:mY m t:=by unfold mY;rw[a6];exact ht
 have hn:m.nt<1000000000:=by rw[a6];have:=hO.lw.d;omega
 have bI:m.gone t kind x (tr ρ v)=((m.dx t ((m.T t).end (tr ρ v))).fF (m.q.filter (λu=>decide (u≠t)))).told kind t x:=rfl;obtain⟨k,rfl⟩:∃k,t=k+1:=⟨t-1,ag⟩;obtain⟨tb,e1,hT,tc⟩:=h.tc Z;have c6:w.cell? ⟨g.mb,6,none⟩=some (.slice (some ⟨tb,0,none⟩) m.nt (g.ro 1 0).2):=by
  rw[show some (⟨tb,0,none⟩:Addr)=(g.ro 1 0).1 by rw[e1]];exact(h.mc 6 ag rfl).1
 obtain⟨t0,z0⟩:=tc.c 0 ag;obtain⟨t1,z1⟩:=tc.c 1 ag;rw[Nat.add_zero,dC]at t0 z0;rw[dC]at t1 z1;have ne:=h.M.ne hT ek;have lr:=an w _ c6;have lt:=an w _ t1;have q5:=fj (n:=k) ag;have q7:(0:Int)<=k:=ag
 have q8:(k:Int)<m.nt:=ag
 have q6:IntKind.i64.wrap (k:Int)=k:=iU
 have a3:=bj (((h.Mj Z e1).kept (ak _ (.cells #[aj ((tr ρ v).1:Int),aj (tr ρ v).2] 115) none)));rw[dC]at a3;have b2:Hid (¬eH d (m.dx (k+1) ((m.T (k+1)).end (tr ρ v))) (g.at 5 (k+1) (none,0)) w.heap.size):=by
  have h1:=h.Mj Z e1;have h2:=h1.r.Mk (t:=k+1) (tb:=tb) Z (by rw[rp g _ ag];exact e1) (tr ρ v);rw[jQ,gi]at h2;exact h2.r.fresh (by simp[World.setCell])
 have aO:=bj e1;have HP:=bj hP;have HO:=bj hO;have HS:=bj hS;have HV:=bj hv;have HD:=bj Z;have HN:=bj ht;have bT:=bj hq;have bB:=bj he;clear h hP hO hS hv hq he bI tc hT Z a6 e1;delta eL;go_in;go_wp2_with fail
 have a1:=bl ((w.setCell ⟨tb,k*8+1,none⟩ (aj 5)).setCell ⟨tb,k*8,none⟩ (.slice none 0 0)) (.cells #[aj ((tr ρ v).1:Int),aj (tr ρ v).2] 115);have b7:((w.setCell ⟨tb,k*8+1,none⟩ (aj 5)).setCell ⟨tb,k*8,none⟩ (.slice none 0 0)).heap.size=w.heap.size:=by simp[World.setCell]
 rw[b7]at a1;generalize (((w.setCell ⟨tb,k*8+1,none⟩ (aj 5)).setCell ⟨tb,k*8,none⟩ (.slice none 0 0)).alloc (.cells #[aj ((tr ρ v).1:Int),aj (tr ρ v).2] 115))=w2 at *;clear t0 z0 t1 z1 c6 b7;have aI:Hid (mY (m.dx (k+1) (((m.T (k+1)).hw 5).mz [])) (k+1)):=HD.out;obtain⟨y,J,b9,aR⟩:=a3.out.r.tc aI.out;have bK:y=tb:=by
  rw[rp g _ ag]at J;rw[aO.out]at J;injection J with J _;injection J with J;injection J with J _;exact J.symm
 subst bK;have c6:w2.cell? ⟨g.mb,6,none⟩=some (.slice (some ⟨y,0,none⟩) m.nt (g.ro 1 0).2):=(a3.out.r.mc 6 ag (v:=.slice (some ⟨y,0,none⟩) m.nt (g.ro 1 0).2) (by
  show Value.slice ((g.at 5 (k+1) (none,0)).ro 1 0).1 _ ((g.at 5 (k+1) (none,0)).ro 1 0).2=_;rw[rp g _ ag,aO.out];rfl)).1
 obtain⟨t6,z6⟩:=aR.c 6 ag;obtain⟨t7,z7⟩:=aR.c 7 ag;rw[dC]at t6 z6 t7 z7;have bS:=an w2 _ c6;have HB:=bj a1;have b0:w2.cell? ⟨w.heap.size,0,none⟩=some (aj ((tr ρ v).1:Int)):=fy a1
 have b1:w2.cell? ⟨w.heap.size,1,none⟩=some (aj (tr ρ v).2):=fy a1
 have n1:w.heap.size≠y:=ag
 have aJ:=bj (a3.out.trans (a3.out.r.Mk (t:=k+1) (tb:=y) aI.out (by rw[rp g _ ag];exact aO.out) (tr ρ v)));rw[dC]at aJ;generalize tC ((m.dx (k+1) (((m.T (k+1)).hw 5).mz [])).T (k+1)) (je (m.dx (k+1) (((m.T (k+1)).hw 5).mz [])) (g.at 5 (k+1) (none,0)) 5 (k+1)) 6=o6 at t6;generalize tC ((m.dx (k+1) (((m.T (k+1)).hw 5).mz [])).T (k+1)) (je (m.dx (k+1) (((m.T (k+1)).hw 5).mz [])) (g.at 5 (k+1) (none,0)) 5 (k+1)) 7=o7 at t7;clear b9 aR J a1;generalize aS:g.mb=rb at *;have a4:=bj aS;clear aS;generalize (g.ro 1 0).2=a5 at *;have g1:∀{W:aa} {o:Nat} {u:Value},W.cell? ⟨rb,6,none⟩=some (.slice (some ⟨y,0,none⟩) m.nt a5)->(W.setCell ⟨y,o,none⟩ u).cell? ⟨rb,6,none⟩=some (.slice (some ⟨y,0,none⟩) m.nt a5):=λhW=>(az (a:=⟨rb,6,none⟩) (ab _ _ _ _ ne)).trans hW;go_region_held3 (λw'=>w'.cell? ⟨rb,6,none⟩=some (.slice (some ⟨y,0,none⟩) m.nt a5)/\w'.cell? ⟨w.heap.size,0,none⟩=some (aj ((tr ρ v).1:Int))/\w'.cell? ⟨w.heap.size,1,none⟩=some (aj (tr ρ v).2)) (first|exact⟨c6,b0,b1⟩|(refine⟨?_,?_,?_⟩<;>(first|assumption|(simp[*,go_sem])))) (fail)
 have G:Hid (Tr d m g w (m.dx (k+1) ((m.T (k+1)).end (tr ρ v))) (g.at 5 (k+1) (none,0)) ((w2.setCell ⟨y,k*8+6,none⟩ (aj ((tr ρ v).1:Int))).setCell ⟨y,k*8+6+1,none⟩ (aj (tr ρ v).2)).drew):=by
  have h3:=aJ.out;rw[jQ,gi]at h3;exact h3.kept (bo (aw _ none))
 have aX:Hid (((w2.setCell ⟨y,k*8+6,none⟩ (aj ((tr ρ v).1:Int))).setCell ⟨y,k*8+6+1,none⟩ (aj (tr ρ v).2)).drew.heap[w.heap.size]? = some (.cells #[aj ((tr ρ v).1:Int),aj (tr ρ v).2] 115 (0,0))):=by
  show(World.setCell _ _ _).heap[w.heap.size]? = _;rw[ab _ _ _ _ n1,ab _ _ _ _ n1];exact HB.out
 generalize ((w2.setCell ⟨y,k*8+6,none⟩ (aj ((tr ρ v).1:Int))).setCell ⟨y,k*8+6+1,none⟩ (aj (tr ρ v).2)).drew=w3 at *;clear aJ a3 aI HB t6 z6 t7 z7 c6 b0 b1 bS n1 g1 w2;have a2:=bj (G.out.b.trans a4.out);have c7:w3.cell? ⟨rb,7,none⟩=some (.slice (g.ro 2 0).1 m.q.length (g.ro 2 0).2):=by
  have:=(G.out.r.mc 7 ag (v:=.slice (g.ro 2 0).1 m.q.length (g.ro 2 0).2) (by
   show Value.slice ((g.at 5 (k+1) (none,0)).ro 2 0).1 _ ((g.at 5 (k+1) (none,0)).ro 2 0).2=_;rw[rp g _ ag];rfl)).1
  rw[a2.out]at this;exact this
 have HQ:Hid (gd w3 3 (.slice (g.ro 2 0).1 m.q.length (g.ro 2 0).2) (jJ m.q)):=by
  have:=G.out.r.Q;unfold je at this;rw[rp g _ ag]at this;exact this
 obtain⟨_,aZ⟩:=C9 HQ.out;have aY:=bj aZ;clear aZ;have l3:=an w3 _ c7;generalize (g.ro 2 0).1=qa at *;generalize (g.ro 2 0).2=qc at *;have c2:(m.q.length:Int)<=1000000000:=gp bT.out
 go_wp2_with fail
 go_loopw [10,11] (λq i wr=>∃(I n c:Nat) (ad:Option Addr) (H:List Nat),q=.slice ad n c/\i=aj I/\I<=m.q.length/\n=H.length/\n<=I/\Hid (H=(m.q.take I).filter (λu=>decide (u≠k+1)))/\Hid (NV w3 wr ad n c H)) (λ_ i _=>m.q.length-(intOf i).toNat)
 case atStart=>exact⟨0,0,0,none,[],rfl,rfl,ag,rfl,ag,rfl,gd.nil _ _,(λk hk=>by cases hk),aw _ _⟩
 case round=>
  obtain⟨I,n,c,ad,H,rfl,rfl,hI,bA,bG,rX,rL⟩:=hrel;subst bA;obtain⟨L1,L2,L3⟩:=rL.out;have d7:=(bd L3 (a:=⟨rb,7,none⟩) l3).1.trans c7;by_cases a7:I<m.q.length
  .obtain⟨b,off,rfl,bC,aV⟩:=aY.out (by intro e;rw[show m.q.length=(jJ m.q).length from(jC _).symm,e]at a7;cases a7);obtain⟨a,ha⟩:∃a,m.q[I]? = some a:=⟨_,bz a7⟩;have dI:wr.cell? ⟨b,off+I,none⟩=some (aj a):=(bd L3 (a:=⟨b,off+I,none⟩) bC).1.trans (aV I _ (by unfold jJ;rw[eP,ha];rfl));have a8:=zk (λu=>decide (u≠k+1)) ha
   have aK:=bj L1;have aL:=bj L2;have Y:=bj L3;clear L1 L2 L3 rL aV;by_cases e:a=k+1
   .have KX:Hid (H=(m.q.take (I+1)).filter (λu=>decide (u≠k+1))):=by
     show _=_;rw[a8,au (gG e),gS];exact rX.out
    have KL:Hid (NV w3 wr ad H.length c H):=⟨aK.out,aL.out,Y.out⟩;clear a8 rX;go_wp2_with fail
    go_roundw
    case rel=>exact⟨I+1,H.length,c,ad,H,rfl,iA,ag,rfl,ag,KX,KL⟩
    case measure=>simp[intOf];omega
   have ei:¬((a:Int)=k+1):=ag
   have KX:Hid (H++[a]=(m.q.take (I+1)).filter (λu=>decide (u≠k+1))):=by
    show _=_;rw[a8,bf (gG e),<-rX.out]
   clear a8 rX;have bH:=jC H;go_wp2_with (at_builtin;refine jf _ rfl (.tmp 56) (.tmp 64) 54 rfl 3 i0 _ 8 Tryz.jh hi bM b8 bR rfl _ (jJ H) rfl (aK.out.block ?cq) _ _ (aj a) rfl ?c1 rfl ?c3 ?c4 ?_)
   case cq=>intro j h;exact av _ _ _ (aK.out.lt j h)
   try case c1=>simp[go_sem]
   try case c3=>unfold maxLen;omega
   try case c4=>omega
   intro gb aB c' w6 b4 a0 aC;have KL:Hid (NV w3 w6 (some ⟨gb,aB,none⟩) (H.length+1) c' (H++[a])):=by
    refine⟨?_,λj hj=>?_,?_⟩
    .rw[show jJ (H++[a])=jJ H++[jk (a:Int)] by unfold jJ;rw[gR];rfl];exact b4
    .have bQ:j=gb:=by
      have:some gb=some j:=hj;injection this with this;exact this.symm
     subst bQ;rcases aC with h|h
     .rw[dF]at h;exact aL.out j h
     have:=Y.out.size;omega
    refine⟨a0.os.trans Y.out.os,a0.tape.trans Y.out.tape,a0.output.trans Y.out.output,by have:=a0.size;have:=Y.out.size;simp at *;omega,λj hj _=>?_⟩;have bX:=Y.out.size;rw[a0.block j fH (λh=>by rw[dF]at h;have:=aL.out j h.symm;omega),av _ _ _ ag];exact Y.out.block j hj im
   clear b4 a0 aC bH;go_wp2_with fail
   go_roundw
   case rel=>exact⟨I+1,H.length+1,c',some ⟨gb,aB,none⟩,H++[a],rfl,iA,ag,jx cw,ag,KX,KL⟩
   case measure=>simp[intOf];omega
  obtain rfl:I=m.q.length:=by omega
  have hX:H=m.q.filter (λu=>decide (u≠k+1)):=by have:=rX.out;rw[List.take_length]at this;exact this
  have HX:=bj hX;clear hX;obtain⟨L1,L2,L3⟩:=rL.out;have aD:=G.out.kept L3;have z7:wr.frozen? ⟨rb,7,none⟩=false:=by
   have:=(aD.r.mc 7 ag rfl).2;rw[a2.out]at this;exact this
  have aP:Tr d (m.dx (k+1) ((m.T (k+1)).end (tr ρ v))) (g.at 5 (k+1) (none,0)) w3 ((m.dx (k+1) ((m.T (k+1)).end (tr ρ v))).fF H) ((g.at 5 (k+1) (none,0)).at 2 0 (ad,c)) (wr.setCell ⟨rb,7,none⟩ (.slice ad H.length c)):=by
   refine Tr.fF (r:=(ad,c)) ((Tr.refl G.out.r).kept L3) (bp (S:=λk'=>k'=(g.at 5 (k+1) (none,0)).mb\/fi ((g.at 5 (k+1) (none,0)).ro 2 0).1=some k') (a:=⟨rb,7,none⟩) (dw _ _) (af (af a2.out.symm)) _) ?_ ?_ (λj hj=>ah ?_)
   .have:=aD.r.M.eC 7 (.slice ad H.length c);rw[a2.out]at this ⊢;exact this
   .exact L1.block (λj hj=>ab _ _ _ _ (by
     rw[dF]at hj;have:=L2 j hj;show j≠rb;omega))
   exact⟨G.out.r.fresh (L2 j hj),L2 j hj⟩
  obtain⟨b3,aA⟩:=aP.other aX.out b2.out;have aN:=bj (G.out.trans aP);have aM:=bj (bh b3 aA);have a9:Hid (((g.at 5 (k+1) (none,0)).at 2 0 (ad,c)).mb=rb):=a2.out;have aG:=bj (DD kind (k+1) x aN.out.r bB.out);rw[a9.out]at aG;clear aP L1 L2 L3 aD rL b3 aA rX c7 bG hI aY HQ a7;go_wp2_with fail
  generalize wr.setCell ⟨rb,7,none⟩ (.slice ad H.length c)=w4 at *;clear d7 z7;refine aG.out.mono ?_;rintro e w5 ⟨rfl,g5,aH⟩;have bO:Hid (w5.heap[w.heap.size]? = some (.cells #[aj ((tr ρ v).1:Int),aj (tr ρ v).2] 115 (0,0))/\¬eH d (m.gone (k+1) kind x (tr ρ v)) g5 w.heap.size):=by
   have h5:=aH.other aM.out.1 aM.out.2;rw[HX.out]at h5;exact h5
  have b6:Hid (Tr d m g w (m.gone (k+1) kind x (tr ρ v)) g5 w5):=by
   have h5:=aN.out.trans aH;rw[HX.out]at h5;exact h5
  have bD:=bj b6.out.b;have aE:=bj (AD (n:=(s.q 5 (k+1)).length) bD.out bO.out rfl b6.out HS.out HO.out rfl HN.out HV.out rfl);rw[a4.out]at aE;clear aH aG aN aM a9 G aX b2 a2;go_wp2_with fail
  refine aE.out.mono ?_;rintro e w6 ⟨b0,rfl,bL,aT⟩;have bP:=bj aT;clear aT aE;go_wp2_with fail
  go_loopg [12] ((s.q 5 (k+1)).length) (λn b wr=>∃B:Nat,b=aj B/\B<=s.nt/\Hid (NR p d K s m g w ρ (k+1) v w.heap.size (.cells #[aj ((tr ρ v).1:Int),aj (tr ρ v).2] 115 (0,0)) n B wr))
  case atStart=>exact⟨b0,rfl,bL,bP⟩
  case round=>
   obtain⟨B,rfl,hB,rW⟩:=hrel;by_cases aW:B=0
   .subst aW;obtain⟨s1,m1,g1,_,_,k1,k2,k3,k4,_,k6,k7⟩:=rW.out;have aU:s1.q 5 (k+1)=[]:=by
     rcases k7 with k7|⟨l,hl⟩
     .exact k7.2
     exfalso
     have bN:fN s1 5 (k+1):=ah (ah (ah ⟨rfl,(ey k4).2 HN.out⟩));have:=(k3.lw.b 5 (k+1) bN 0 (by rw[hl];simp)).1.1;omega
    have HF:Hid (∃m' g',Tr d m g w m' g' wr/\eF p K (s.eo v (s.q 5 (k+1))) m' ρ):=by
     refine⟨m1,g1,k1,?_⟩;rw[<-k6,aU];exact k2
    clear k1 k2 k3 k4 k6 k7 aU rW;go_wp2_with fail
    go_end0;exact⟨rfl,HF.out⟩
   have bW:(0:Int)<B:=ag
   have aQ:=bj (F3 HP.out rW.out aW HN.out);rw[a4.out]at aQ;obtain⟨_,_,_,⟨hx,_⟩,_⟩:=rW.out;have b0:wr.cell? ⟨w.heap.size,0,none⟩=some (aj ((tr ρ v).1:Int)):=fy hx
   have b1:wr.cell? ⟨w.heap.size,1,none⟩=some (aj (tr ρ v).2):=fy hx
   clear hx rW;go_wp2_with fail
   refine aQ.out.mono ?_;rintro e w7 ⟨rfl,s1,m1,g1,j1,j2,j3,j4,j5,j6,j7,j8,j9⟩;have aF:=bj (AD (n:=(s1.q 5 (k+1)).length) (j1.trans a4.out.symm) j2 rfl j4 j5 j6 j7 HN.out j8 j9);rw[a4.out]at aF;have bU:=bj j3;clear j1 j2 j3 j4 j5 j6 j7 j8 j9 b0 b1 aQ;go_wp2_with fail
   refine aF.out.mono ?_;rintro e w8 ⟨B',rfl,bE,b5⟩;have bF:=bj b5;clear b5 aF;go_wp2_with fail
   go_roundg ((s1.q 5 (k+1)).length)
   case rel=>exact⟨B',rfl,bE,bF⟩
   case measure=>have:=bU.out;omega
theorem E5{rb k tb nt cap fb fc:Nat}{v0:Nat}{v1 x bk:Int}{R:aa->Prop}(hk:k<nt)(hn:nt<1000000000)(J:w.cell? ⟨rb,6,none⟩=some (.slice (some ⟨tb,0,none⟩) nt cap))(u:w.cell? ⟨tb,k*8,none⟩=some (.slice (some ⟨fb,0,none⟩) 1 fc)/\w.frozen? ⟨tb,k*8,none⟩=false)(W:w.cell? ⟨fb,3,none⟩=some (.int .i64 bk))(Y:1<=fc)(n1:rb≠tb)(n2:tb≠fb)(hx:x=if 0<v0 then 0 else v1)(G:∀w1,((w.setCell ⟨tb,k*8,none⟩ (.slice (some ⟨fb,0,none⟩) 0 fc)).alloc (.cells #[.int .i64 v0,.int .i64 v1] 115)).grownBy w1 none->Calls prog 196 #[P0 rb,.int .i64 ((k:Int)+1),.int .i64 2,.int .i64 x,.agg #[.int .i64 v0,.int .i64 v1]] w1 λe w'=>e=.returned (.tuple #[])/\R w'): Calls prog 193 #[P0 rb,.int .i64 ((k:Int)+1),.agg #[.int .i64 v0,.int .i64 v1]] w λe w'=>e=.returned (.bool true)/\R w':=by
 obtain⟨u,z0⟩:=u;have lr:rb<w.heap.size:=an w _ J;have lt:tb<w.heap.size:=an w _ u;have lf:fb<w.heap.size:=an w _ W;have q5:=fj (n:=k) ag;have q7:(0:Int)<=k:=ag
 have q8:(k:Int)<nt:=ag
 have q9:(1:Int)<=fc:=ag
 have y:=bj G;by_cases H:0<v0
 .rw[bf H]at hx;subst hx
  go_in;go_wp2_with fail
  refine(y _ (aw _ _)).mono ?_;rintro e Z ⟨rfl,hR⟩;have o:=bj hR;go_wp2_with fail
  go_ret;simp_all
 rw[au H]at hx;subst hx;have i:¬(0:Int)<v0:=ag
 go_in;go_wp2_with fail
 refine(y _ (aw _ _)).mono ?_;rintro e Z ⟨rfl,hR⟩;have o:=bj hR;go_wp2_with fail
 go_ret;simp_all
theorem CK{rb k tb nt cap fb fc n vb i rc a:Nat}{v0:Nat}{v1:Int}{Y H:Value}(hk:k<nt)(hn:nt<1000000000)(W:n<100)(G:w.cell? (ay rb 6)=some (dA tb nt cap))(y:w.cell? (ay tb (k*8))=some (dA fb (n+2) fc)/\w.frozen? (ay tb (k*8))=false)(J:w.cell? (ay fb ((n+1)*4+3))=some (aj a))(k1:w.cell? (ay fb (n*4+1))=some (dA vb i rc))(a0:n+2<=fc)(n1:rb≠tb)(n2:tb≠fb)(n3:tb≠vb)(n4:fb≠vb)(o:w.cell? (ay vb (a*2))=some Y/\w.frozen? (ay vb (a*2))=false)(u:w.cell? (ay vb (a*2+1))=some H/\w.frozen? (ay vb (a*2+1))=false)(ha:a<i): dD 193 #[P0 rb,aj ((k:Int)+1),.agg #[aj v0,aj v1]] w (.bool false) λw'=>((((w.setCell (ay tb (k*8)) (dA fb (n+1) fc)).setCell (ay vb (a*2)) (aj v0)).setCell (ay vb (a*2+1)) (aj v1)).alloc (.cells #[aj v0,aj v1] 115)).grownBy w' none:=by
 obtain⟨y,z0⟩:=y;obtain⟨Z,z8⟩:=o;obtain⟨v9,z9⟩:=u;have lr:rb<w.heap.size:=an w _ G;have lt:tb<w.heap.size:=an w _ y;have lf:fb<w.heap.size:=an w _ J;have lv:vb<w.heap.size:=an w _ Z;have q5:=fj (n:=k) ag;have q7:(0:Int)<=k:=ag
 have q8:(k:Int)<nt:=ag
 have p1:IntKind.i64.wrap ((n:Int)+2-1)=(n:Int)+1:=by rw[fq,dN _ (by omega)];omega
 have p2:IntKind.i64.wrap ((n:Int)+1-1)=(n:Int):=fj ag;have p3:(0:Int)<=n+1:=ag
 have p4:(n:Int)+1<(n:Int)+2:=ag
 have p5:(n:Int)+1<=(fc:Int):=ag
 have p6:(0:Int)<=n:=ag
 have p7:(n:Int)<n+1:=ag
 have p8:¬((n:Int)+1=0):=ag
 have p9:(a:Int)<i:=ag
 have m1:¬(w.heap.size=tb):=ag
 have m2:¬(w.heap.size=vb):=ag
 delta dD;go_in;go_wp2
 go_region
 all_goals
  go_wp2
  go_ret;refine⟨rfl,?_⟩;first
   | exact aw _ _
   | exact bo (aw _ _)
   | exact df (aw _ _) _
   | exact⟨rfl,rfl,rfl,bq _,λ_ _ _=>rfl⟩
def Mu{p:Dp}(m:Dm)(g:Dg)(t i:Nat):(ok p m g 6 t i).bs (g.rb t i):=rfl
def ti{p:dL}{s:Pl}{X:Nat->Prop}{ρ:Nat->Nat}{v:B.V}(u:fL p s X)(hS:eF p K s m ρ)(o:dW p s v):((tr ρ v).1=0↔v.1=0)/\(if 0<(tr ρ v).1 then(0:Int) else(tr ρ v).2)=v.2:=by
 by_cases e:v.1=0
 .rw[ox e];omega
 have y:=(hS.C v.1 (B.pR.vO o e)).c1;have i:=u.AF o;rw[qI e];refine⟨⟨λh=>?_,λh=>dp h e⟩,?_⟩
 .omega
 show(if 0<ρ v.1 then(0:Int) else 0)=v.2;rcases i with h|h
 .omega
 omega
theorem Bq{v:B.V}(s:Pl)(t kind:Nat)(x:Int):v.1=0\/v∈(s.gone t v kind x).kp:=by
 grind[ja,lD]
def eF.small(hS:eF p K s m ρ)(e:Ok p s):m.nt<1000000000/\m.q.length<=1000000000:=by
 refine⟨by rw[hS.nt];have:=e.lw.d;omega,?_⟩;rw[hS.q];have:=e.lw.len (x:=2) (y:=0) (af ⟨rfl,rfl⟩);omega
theorem IE{t:Nat}{v:B.V}(hP:PD p d)(h:dZ d m g w)(hS:eF p K s m ρ)(J:Ok p s)(G:t∈s.lv)(hw:(s.T t).wh=none)(hv:dW p s v)(he:m.ev.length<=100000): dD 193 #[P0 g.mb,aj t,vA (tr ρ v)] w (.bool (decide (de s t=0))) λw'=>∃m' g',Tr d m g w m' g' w'/\eF p K (s.back t v) m' ρ:=by
 have ht:=J.lt t G;have o:=(iG hS t).2 ht;have Y:=hS.T t G;have hF:=J.fw t G trivial;obtain⟨hn,hq⟩:=hS.small J;have aA:qd m t=de s t:=by unfold qd de;rw[Y.l]
 obtain⟨tb,fb,n,T⟩:=h.top o (by grind[D.TS.l,F.FW.n1]);have H:de s t=n:=by unfold de;rw[<-Y.l,T.l];omega
 obtain⟨Z,f0,f1,f2,f3⟩:=h.F o (kr T.l);have a9:n+1<=(g.ro 5 t).2:=by rw[T.l]at f1;exact f1
 have a7:m.dx t ((m.T t).mz ((m.T t).fr.take n))=m.pop t:=by unfold Dm.pop;rw[List.dropLast_eq_take,T.l];rfl
 have y:=h.shrink o T.b (j:=n) (kr T.l) (r:=g.ro 5 t) (af rfl);rw[a7]at y;have aD:Value.slice (g.ro 5 t).1 n (g.ro 5 t).2=dA fb n (g.ro 5 t).2:=by rw[T.a]
 rw[aD]at y;have a0:w.frozen? (ay tb ((t-1)*8))=false:=by
  obtain⟨aC,e1,_,tc⟩:=h.tc o;have:aC=tb:=by
   have:=T.b;rw[e1]at this;injection this with this _;injection this with this;injection this with this _
  subst this;exact(tc.c 0 ag).2
 obtain⟨k,rfl⟩:∃k,t=k+1:=⟨t-1,ag⟩;rw[dC]at a0 y;have t0:=T.t0;rw[dC]at t0;have a6:k<m.nt:=ag
 by_cases h0:de s (k+1)=0
 .have aF:n=0:=ag;subst aF;rw[fp h0];have k3:=T.k3;rw[Nat.zero_mul,Nat.zero_add]at k3;refine(E5 (x:=v.2) (R:=λw'=>∃m' g',Tr d m g w m' g' w'/\eF p K (s.back (k+1) v) m' ρ) a6 hn T.c6 ⟨t0,a0⟩ k3 a9 T.n3 T.n2 (ti J hS hv).2.symm (λw1 aE=>?_)).mono ?_
  .have a4:=(y.kept (ak _ _ none)).kept aE;have hg:Ok p (s.gone (k+1) v 2 v.2):=J.gone G hv 2 v.2 (λ_ _ h=>h);have aN:k+1∉(s.gone (k+1) v 2 v.2).lv:=by rw[(ja s (k+1) v 2 v.2).1,J.nd.mem_erase_iff];exact λh=>h.1 rfl
   have a8:Ok p ((s.gone (k+1) v 2 v.2).pop (k+1)):=(hg.pop (by grind[pO,ke]) (λu hu=>⟨trivial,af hu⟩)).IZ (λu hu _ e=>aN (e▸hu));rw[<-qV hw]at a8;refine(Ml (t:=k+1) (kind:=2) (x:=v.2) (v:=v) hP a4.r ((ey (jL (s.pop (k+1)) (k+1) v 2 v.2)).2 ht) a8 (hS.L8 (kind:=2) (x:=v.2) J G hw hv) (Bq (s.pop (k+1)) (k+1) 2 v.2) hq he).mono ?_;rintro e w' ⟨rfl,m',g',h1,h2⟩;refine⟨rfl,m',g',a4.trans h1,?_⟩;have hb:s.back (k+1) v=((s.pop (k+1)).gone (k+1) v 2 v.2).eo v (((s.pop (k+1)).gone (k+1) v 2 v.2).q 5 (k+1)):=by
    unfold Pl.back Pl.leave;rw[bf h0,Ar (J.lw.pop (k+1)) ht]
   grind
  grind
 obtain⟨j,rfl⟩:∃j,n=j+1:=⟨n-1,ag⟩;rw[eW h0];have a1:j<(m.T (k+1)).fr.length:=kr T.l
 have W:j<(s.T (k+1)).fr.length:=by rw[<-Y.l];exact a1
 have a3:=h.R o a1;have aH:Z=fb:=by rw[T.a]at f0;injection f0 with f0;injection f0 with f0 _;exact f0.symm
 subst aH;have a2:=f3.cell (j*4+1) ag;rw[uR d m g (k+1) ag]at a2;have v6:=zI (p:=d) (m:=m) o.1 o.2 a1;have aP:(ok d m g 5 (k+1) 0).bs Z:=by
  show fi (g.ro 5 (k+1)).1=some Z;rw[T.a];rfl
 have aJ:(fU m (k+1) (j+1)).bk.2.1=(bw s (k+1)).bk.2.1:=by
  have:=(Y.f (de s (k+1)) (by grind[de])).bk h0;rw[H]at this;unfold bw;rw[H];exact this
 have aB:(fU m (k+1) (j+1)).bk.2.1<d.rg (fU m (k+1) j).f:=by
  rw[aJ,show(fU m (k+1) j).f=(dq s (k+1) j).f from(Y.f j W).f,hP.rg (dq s (k+1) j).f (hF.f j W).1];have:=hF.b j (by rw[<-Y.l,T.l];omega);unfold bw;rw[H];exact this
 refine(CK a6 hn (gp hF.n2) T.c6 ⟨t0,a0⟩ T.k3 a2 a9 T.n3 T.n2 (h.ne (oQ ag) v6 ((CZ d m T.b tb).2 rfl) (Mu m g _ _) ag) (h.ne (rP (p:=d) (m:=m) o.1 o.2) v6 aP (Mu m g _ _) ag) (a3.cells _ ag) (a3.cells _ ag) aB).mono ?_;rintro e w' ⟨rfl,hg⟩;have a5:((m.pop (k+1)).T (k+1)).fr=(m.T (k+1)).fr.dropLast:=by unfold Dm.pop;rw[gi];rfl
 have aI:fU (m.pop (k+1)) (k+1) j=fU m (k+1) j:=by
  unfold fU;rw[a5];exact nI (kr T.l)
 refine⟨rfl,_,_,((y.trans (y.r.se (t:=k+1) (i:=j) o (by rw[a5,eY,T.l];omega) (fU m (k+1) (j+1)).bk.2.1 (tr ρ v))).kept (ak _ _ none)).kept hg,?_⟩;have h4:=hS.back G h0 hv;rw[aI];have aM:pS m (k+1)=fU m (k+1) (j+1):=by unfold pS;rw[aA,H]
 rw[aA,H,aM]at h4;exact h4
end D
namespace D
open F
variable {p:dL}{d:Dp}{K:Nat}{s:Pl}{m m':Dm}{g g':Dg}{w w':aa}{ρ:Nat → Nat}
structure oV(p:dL) (d:Dp) (s:Pl) (m:Dm) (g:Dg) (w:aa) (ρ:Nat->Nat) (t tb fb n nr:Nat):Prop where
 T:MA d m g w t tb fb n
 hn:de s t=n
 hf:(fU m t n).f=(bw s t).f
 r1:d.rg (fU m t n).f=nr
 r2:p.rg (bw s t).f=nr
 F:Full w (g.rb t n) 115 (nr*2) (nr*2) (eQ (fU m t n).R)
 V:∀a,a<nr->(fU m t n).R a=tr ρ ((bw s t).R a)
 n20:n<20
 dt:mY m t
section
variable {t tb fb n nr:Nat} (h:oV p d s m g w ρ t tb fb n nr)
include h
def oV.tp:qd m t=n:=by unfold qd;rw[h.T.l];omega
def oV.tf:pS m t=fU m t n:=by unfold pS;rw[h.tp]
theorem oV.hi:n<(m.T t).fr.length:=by rw[h.T.l];omega
end
variable {fb nr t:Nat}{v:B.V}
theorem Rn.run(hP:PD p d)(h:dZ d m g w)(hS:eF p K s m ρ)(hR:Rn p s t):∃tb fb n nr,oV p d s m g w ρ t tb fb n nr:=by
 have u:=hS.T t hR.lv;have o:=(iG hS t).2 hR.ht;obtain⟨tb,fb,n,T⟩:=h.top o (by rw[u.l];exact λe=>hR.fw.n1 (db.1 e));have hn:de s t=n:=by unfold de;rw[<-u.l,T.l];omega
 have W:=u.f n (by rw[<-u.l,T.l];omega);have G:bw s t=dq s t n:=by unfold bw;rw[hn]
 have J:(fU m t n).f=(bw s t).f:=eV G W.f;have y:=hP.rg (bw s t).f hR.ff.1;refine⟨tb,fb,n,p.rg (bw s t).f,T,hn,J,by rw[J,y],rfl,?_,λa Y=>?_,?_,o⟩
 .have:=h.R o (i:=n) (kr T.l);rw[J,y]at this;exact this
 .rw[G]at Y ⊢;exact W.R a Y
 have:=hR.fw.n2;rw[<-u.l,T.l]at this;omega
theorem oV.kept{t tb fb n nr:Nat}(h:oV p d s m g w ρ t tb fb n nr)(H:dZ d m g w)(y:w.grownBy w' none):oV p d s m g w' ρ t tb fb n nr:=by
 obtain⟨i,u,W,T⟩:=(H.kept y).top h.dt (kr h.T.l);have Y:i=tb:=by
  have:=T.b;rw[h.T.b]at this;injection this with this _;injection this with this;injection this with this _;exact this.symm
 have J:u=fb:=by
  have:=T.a;rw[h.T.a]at this;injection this with this;injection this with this _;exact this.symm
 have G:W=n:=by
  have:=T.l;rw[h.T.l]at this;omega
 subst Y J G;exact⟨T,h.hn,h.hf,h.r1,h.r2,h.F.block (y.block _ h.F.lt im),h.V,h.n20,h.dt⟩
theorem oV.set{tb n:Nat}(h:oV p d s m g w ρ t tb fb n nr)(i:dZ d m g w)(hS:eF p K s m ρ)(hR:Rn p s t)(a:Nat)(e:dW p s v)(o:((w.setCell (ay (g.rb t n) (a*2)) (aj ((tr ρ v).1:Int))).setCell (ay (g.rb t n) (a*2+1)) (aj (tr ρ v).2)).grownBy w' none): ∃m' g',Tr d m g w m' g' w'/\eF p K (s.dJ t (de s t) ((bw s t).set a v)) m' ρ:=by
 refine⟨_,g,(i.se h.dt h.hi a (tr ρ v)).kept o,?_⟩;have:=hS.oK hR.lv hR.fw.n1 a e;rw[h.tp,h.tf]at this;exact this
def oV.rc{tb n a:Nat}(h:oV p d s m g w ρ t tb fb n nr)(e:a<nr):w.cell? (ay (g.rb t n) (a*2))=some (aj ((tr ρ ((bw s t).R a)).1:Int))/\w.cell? (ay (g.rb t n) (a*2+1))=some (aj (tr ρ ((bw s t).R a)).2)/\w.frozen? (ay (g.rb t n) (a*2))=false/\w.frozen? (ay (g.rb t n) (a*2+1))=false:=by
 have:=Jn h.F e;rw[h.V a e]at this;exact this
def eF.IH(hS:eF p K s m ρ)(u:Ok p s)(o:dW p s v)(i:v.1≠0):tr ρ v=(ρ v.1,0)/\1<=ρ v.1/\ρ v.1<=m.nc/\m.M (ρ v.1)=(s.M v.1).map (tr ρ)/\m.ck (ρ v.1)=s.ck v.1:=by
 have e:=hS.C v.1 (B.pR.vO o i);exact⟨qI i,e.c1,e.c2,e.M,e.k⟩
end D
namespace D
open F
variable {p:dL}{d:Dp}{K:Nat}{s:Pl}{m m':Dm}{g g':Dg}{w w':aa}{ρ:Nat → Nat}
def kR(w:aa)(r a:Nat)(v:B.V):Prop:=w.cell? ⟨r,a*2,none⟩=some (.int .i64 (v.1:Int))/\w.cell? ⟨r,a*2+1,none⟩=some (.int .i64 v.2)/\w.frozen? ⟨r,a*2,none⟩=false/\w.frozen? ⟨r,a*2+1,none⟩=false
def oz(w:aa)(r a:Nat)(v:B.V):aa:=(w.setCell ⟨r,a*2,none⟩ (.int .i64 (v.1:Int))).setCell ⟨r,a*2+1,none⟩ (.int .i64 v.2)
theorem fT{w w0:aa}(h:w.grownBy w0 none)(a:Addr)(v:Value):(w.setCell a v).grownBy (w0.setCell a v) none:=by
 refine⟨h.os,h.tape,h.output,by simpa[World.setCell] using h.size,λk i _=>?_⟩;simp[World.setCell,dh,h.block k (by simp_all) ag]
theorem Oh{mb t i nr a b c:Nat}{y:B.V}(ha:a<nr)(hb:b<256)(H:c<256)(r:kR w i a y): dD 194 #[P0 mb,aj t,dA i nr nr,jn 0 a b c] w (aj 0) λw'=>(oz w i a (0,B.wide b c)).grownBy w' none:=by
 obtain⟨u,r1,Y,Z⟩:=r;have W:i<w.heap.size:=an w _ u;have G:(a:Int)<nr:=ag
 have q1:IntKind.i64.wrap (256*(b:Int))=256*(b:Int):=iU;have J:IntKind.i64.wrap (256*(b:Int)+(c:Int))=256*(b:Int)+(c:Int):=iU;delta dD;go_in;go_wp2
 all_goals go_ret
 .refine⟨rfl,?_⟩;have e:B.wide b c=256*(b:Int)+c-65536:=by unfold B.wide;rw[eD];omega
  rw[e];exact ax (aw _ _) _
 refine⟨rfl,?_⟩;have e:B.wide b c=256*(b:Int)+c:=by unfold B.wide;rw[mm];omega
 rw[e];exact ax (aw _ _) _
theorem Og{mb t i nr a b c:Nat}{y vb:B.V}(ha:a<nr)(H:b<nr)(hb:b<256)(hc:c<256)(r:kR w i a y)(rb:kR w i b vb): dD 194 #[P0 mb,aj t,dA i nr nr,jn 1 a b c] w (aj 0) λw'=>(oz w i a vb).grownBy w' none:=by
 obtain⟨u,r1,r2,Y⟩:=r;have W:i<w.heap.size:=an w _ u;have G:(a:Int)<nr:=ag
 have q1:IntKind.i64.wrap (256*(b:Int))=256*(b:Int):=iU;have q2:IntKind.i64.wrap (256*(b:Int)+(c:Int))=256*(b:Int)+(c:Int):=iU;obtain⟨Z,s1,_,_⟩:=rb;have J:(b:Int)<nr:=ag
 delta dD;go_in;go_wp2
 all_goals go_ret
 all_goals refine⟨rfl,?_⟩
 all_goals first|exact ax (aw _ _) _|exact bo (ax (aw _ _) _)
theorem M4{mb t i nr a b c:Nat}{G:B.V}{x:Int}(ha:a<nr)(hb:b<256)(hc:c<256)(r:kR w i a G)(u:w.cell? (ay mb 5)=some (aj x))(hn:mb≠i): dD 194 #[P0 mb,aj t,dA i nr nr,jn 22 a b c] w (aj 0) λw'=>(oz w i a (0,x)).grownBy w' none:=by
 obtain⟨y,r1,r2,Y⟩:=r;have W:i<w.heap.size:=an w _ y;have J:(a:Int)<nr:=ag
 have q1:IntKind.i64.wrap (256*(b:Int))=256*(b:Int):=iU;have q2:IntKind.i64.wrap (256*(b:Int)+(c:Int))=256*(b:Int)+(c:Int):=iU;have Z:mb<w.heap.size:=an w _ u;delta dD;go_in;go_wp2
 all_goals go_ret
 all_goals refine⟨rfl,?_⟩
 all_goals first|exact ax (aw _ _) _|exact bo (ax (aw _ _) _)
theorem Mz{o:Nat}(x y:Int)(i:o=2\/o=3\/o=4\/o=5):dD 212 #[aj o,aj x,aj y] w (aj (arith o x y)) λw'=>w'=w:=by
 rcases i with rfl|rfl|rfl|rfl
 all_goals
  delta dD;go_in;go_wp2
 all_goals go_ret
 .simp[wrap64,arith,B.wrap]
 .simp[wrap64,arith,B.wrap]
 .simp[wrap64,arith,B.wrap]
 .simp_all[arith,sP]
 simp_all[arith,sP]
theorem IF(e y1:Nat)(x2 y2:Int)(w:aa):(binOp .eql 115 (.agg #[aj e,aj x2]) (.agg #[aj y1,aj y2])).run prog w=.ok (.bool (decide ((e,x2)=(y1,y2)))) w:=by
 have i:((e:Int)=y1)↔e=y1:=ag;simp[go_sem];grind
theorem Of{mb t i nr a b c:Nat}{va vb Y:B.V}(ha:a<nr)(a7:b<nr)(a5:c<nr)(hb:b<256)(hc:c<256)(r:kR w i a va)(rb:kR w i b vb)(rc:kR w i c Y): dD 194 #[P0 mb,aj t,dA i nr nr,jn 6 a b c] w (aj 0) λw'=>(oz w i a (0,if vb=Y then 1 else 0)).grownBy w' none:=by
 obtain⟨r0,r1,r2,r3⟩:=r;have lr:i<w.heap.size:=an w _ r0;have a6:(a:Int)<nr:=ag
 have a0:i<w.heap.size+1:=ag
 have q1:IntKind.i64.wrap (256*(b:Int))=256*(b:Int):=iU
 have q2:IntKind.i64.wrap (256*(b:Int)+(c:Int))=256*(b:Int)+(c:Int):=iU
 obtain⟨J,H⟩:=vb;obtain⟨c1,W⟩:=Y;obtain⟨s0,s1,_,_⟩:=rb;obtain⟨u0,u1,_,_⟩:=rc;simp only[]at s0 s1 u0 u1;have Z:=IF J c1 H W;have y:(if(J,H)=(c1,W) then(1:Int) else 0)=if decide ((J,H)=(c1,W))=true then 1 else 0:=eB
 rw[y];generalize decide ((J,H)=(c1,W))=dd at *;have a8:(b:Int)<nr:=ag
 have a3:(c:Int)<nr:=ag
 delta dD;go_in;go_wp2
 go_quiet (fail)
 have HX:∃o:aa,o=(((w.alloc (.cells #[aj ((6:Nat):Int),aj a,aj b,aj c] 90)).alloc (.cells #[aj 0,aj 0] 115)).drewN nq)/\w.grownBy o none/\dS o (w.heap.size+1) 0=some (aj 0)/\dS o (w.heap.size+1) 1=some (aj 0)/\o.frozen? (ay (w.heap.size+1) 1)=false:=⟨_,rfl,df (ax (ax (aw _ _) _) _) _,by simp[go_sem],by simp[go_sem],by simp[go_sem]⟩;obtain⟨o,e3,u,x0,x1,x2⟩:=HX;have G:(((w.alloc (.cells #[aj 6,aj a,aj b,aj c] 90)).alloc (.cells #[aj 0,aj 0] 115)).drewN nq)=o:=e3.symm;rw[G];clear e3 G;obtain⟨y0,y2⟩:=bd u (a:=ay i (a*2)) lr;obtain⟨y1,y3⟩:=bd u (a:=ay i (a*2+1)) lr;rw[r0]at y0;rw[r1]at y1;rw[r2]at y2;rw[r3]at y3
 have HG:=bj u
 cases dd with
 | true=>
  go_wp2
  go_ret;refine⟨rfl,?_⟩;exact fT (fT (bu HG (ah (Nat.le_succ _)) _) _ _) _ _
 | false=>
  go_wp2
  go_ret;refine⟨rfl,?_⟩;exact fT (fT HG _ _) _ _
theorem M3{o mb t i nr a b c:Nat}{va vb G:B.V}(Y:o=2\/o=3\/o=4\/o=5)(ha:a<nr)(a5:b<nr)(a3:c<nr)(hb:b<256)(hc:c<256)(r:kR w i a va)(rb:kR w i b vb)(rc:kR w i c G): Calls prog 194 #[P0 mb,aj t,dA i nr nr,jn o a b c] w λe w'=>((vb.1=0/\G.1=0)/\e=.returned (aj 0)/\(oz w i a (0,arith o vb.2 G.2)).grownBy w' none)\/(¬(vb.1=0/\G.1=0)/\e=.returned (aj 1)/\w.grownBy w' none):=by
 obtain⟨r0,r1,r2,r3⟩:=r;have lr:i<w.heap.size:=an w _ r0;have a4:(a:Int)<nr:=ag
 have Z:i<w.heap.size+1:=ag
 have a1:i<w.heap.size+1+1:=ag
 have q1:IntKind.i64.wrap (256*(b:Int))=256*(b:Int):=iU
 have q2:IntKind.i64.wrap (256*(b:Int)+(c:Int))=256*(b:Int)+(c:Int):=iU
 obtain⟨W,H⟩:=vb;obtain⟨c1,J⟩:=G;obtain⟨s0,s1,_,_⟩:=rb;obtain⟨u0,u1,_,_⟩:=rc;simp only[]at s0 s1 u0 u1;have a6:(b:Int)<nr:=ag
 have a0:(c:Int)<nr:=ag
 by_cases hz:W=0/\c1=0
 .obtain⟨rfl,rfl⟩:=hz;have HA:Hid (∀w0:aa,dD 212 #[aj o,aj H,aj J] w0 (aj (arith o H J)) λw'=>w'=w0):=λw0=>Mz H J Y;generalize hy:arith o H J=y at *;clear hy;rcases Y with rfl|rfl|rfl|rfl
  all_goals
   go_in;go_wp2_with fail
   refine du (HA _) ?_;rintro w2 rfl;go_wp2
   go_ret;refine af ⟨eB,rfl,?_⟩
  all_goals exact ax (ax (ax (aw _ _) _) _) _
 have u:(0<(W:Int))\/(W=0/\0<(c1:Int)):=ag
 change Hid _ at hz;rcases u with u|⟨rfl,u⟩<;>rcases Y with rfl|rfl|rfl|rfl
 all_goals
  go_in;go_wp2
  go_ret;refine ah ⟨by have:=hz.out;simpa using this,rfl,?_⟩
 all_goals exact ax (ax (ax (aw _ _) _) _) _
theorem AN{o mb t i nr a b c:Nat}{R:Int->aa->Prop}(G:o=9\/o=10\/o=11\/o=12)(Z:b<256)(J:c<256)(H:∀w1,w.grownBy w1 none->Calls prog 214 #[P0 mb,dA i nr nr,jn o a b c] w1 λe w'=>∃v:Int,e=.returned (aj v)/\R v w'): Calls prog 194 #[P0 mb,aj t,dA i nr nr,jn o a b c] w λe w'=>∃v:Int,e=.returned (aj v)/\R v w':=by
 have Y:IntKind.i64.wrap (256*(b:Int))=256*(b:Int):=iU
 have W:IntKind.i64.wrap (256*(b:Int)+(c:Int))=256*(b:Int)+(c:Int):=iU
 have u:=bj (H (w.alloc (.cells #[aj o,aj a,aj b,aj c] 90)) (ax (aw _ _) _));rcases G with rfl|rfl|rfl|rfl
 all_goals
  go_in;go_wp2_with fail
  refine u.mono ?_;rintro e w2 ⟨v,rfl,hR⟩;have y:=bj hR;go_wp2
  go_ret;simp_all
theorem Jb{o mb t i nr a b c:Nat}{R:Int->aa->Prop}(G:o=13\/o=15\/o=17\/o=18\/o=19\/o=21)(Z:b<256)(J:c<256)(H:∀w1,w.grownBy w1 none->Calls prog 215 #[P0 mb,aj t,dA i nr nr,jn o a b c] w1 λe w'=>∃v:Int,e=.returned (aj v)/\R v w'): Calls prog 194 #[P0 mb,aj t,dA i nr nr,jn o a b c] w λe w'=>∃v:Int,e=.returned (aj v)/\R v w':=by
 have Y:IntKind.i64.wrap (256*(b:Int))=256*(b:Int):=iU
 have W:IntKind.i64.wrap (256*(b:Int)+(c:Int))=256*(b:Int)+(c:Int):=iU
 have u:=bj (H (w.alloc (.cells #[aj o,aj a,aj b,aj c] 90)) (ax (aw _ _) _));rcases G with rfl|rfl|rfl|rfl|rfl|rfl
 all_goals
  go_in;go_wp2_with fail
  refine u.mono ?_;rintro e w2 ⟨v,rfl,hR⟩;have y:=bj hR;go_wp2
  go_ret;simp_all
theorem Oe{mb t i nr a b c:Nat}{R:aa->Prop}(Y:b<256)(G:c<256)(H:∀w1,w.grownBy w1 none->eL 213 #[P0 mb,aj t,aj ((256*b+c:Nat):Int)] w1 λw'=>R w'): dD 194 #[P0 mb,aj t,dA i nr nr,jn 7 a b c] w (aj 0) λw'=>R w':=by
 have W:IntKind.i64.wrap (256*(b:Int))=256*(b:Int):=iU;have J:IntKind.i64.wrap (256*(b:Int)+(c:Int))=256*(b:Int)+(c:Int):=iU;have o:((256*b+c:Nat):Int)=256*(b:Int)+(c:Int):=ag;rw[o]at H;have y:=bj (H (w.alloc (.cells #[aj ((7:Nat):Int),aj a,aj b,aj c] 90)) (ax (aw _ _) _));delta dD;go_in;go_wp2_with fail
 refine du y λw2 hR=>?_;have u:=bj hR;go_wp2
 go_ret;simp_all
theorem Od{mb t G nr a b c:Nat}{o:B.V}{R:aa->Prop}(ha:a<nr)(hb:b<256)(hc:c<256)(r:kR w G a o)(H:∀w1,o=(0,0)->w.grownBy w1 none->Calls prog 213 #[P0 mb,.int .i64 (t:Int),.int .i64 ((256*b+c:Nat):Int)] w1 λe w'=>e=.returned (.tuple #[])/\R w')(J:∀w1,o≠(0,0)->w.grownBy w1 none->R w1): Calls prog 194 #[P0 mb,.int .i64 (t:Int),.slice (some ⟨G,0,none⟩) nr nr,jn 8 a b c] w λe w'=>e=.returned (.int .i64 0)/\R w':=by
 have q1:IntKind.i64.wrap (256*(b:Int))=256*(b:Int):=iU
 have q2:IntKind.i64.wrap (256*(b:Int)+(c:Int))=256*(b:Int)+(c:Int):=iU
 have e0:((256*b+c:Nat):Int)=256*(b:Int)+(c:Int):=ag
 rw[e0]at H;obtain⟨Y,r1,r2,r3⟩:=r;have lr:G<w.heap.size:=an w _ Y;have a0:(a:Int)<(nr:Int):=ag
 obtain⟨u,y⟩:=o;simp only[]at Y r1;have i:∀w0,(binOp .eql 115 (.agg #[.int .i64 (u:Int),.int .i64 y]) (.agg #[.int .i64 0,.int .i64 0])).run prog w0=.ok (.bool (decide ((u,y)=(0,0)))) w0:=IF u 0 y 0;have Z:=ax (aw w none) (.cells #[.int .i64 ((8:Nat):Int),.int .i64 (a:Int),.int .i64 (b:Int),.int .i64 (c:Int)] 90);by_cases hz:(u,y)=(0,0)
 .have W:=bj (H _ hz Z);rw[fp hz]at i;go_in;go_wp2_with fail
  refine W.out.mono ?_;rintro e w2 ⟨rfl,hR⟩;have HR:=bj hR;go_wp2_with fail
  go_ret;simp_all
 have W:=bj (J _ hz Z);rw[eW hz]at i;go_in;go_wp2_with fail
 go_ret;simp_all
theorem M6{mb t i nr a b c:Nat}{o:B.V}{R:aa->Prop}{f:Bool}(ha:a<nr)(hb:b<256)(hc:c<256)(r:kR w i a o)(H:∀w1,w.grownBy w1 none->dD 193 #[P0 mb,aj t,vA o] w1 (.bool f) λw'=>R w'): dD 194 #[P0 mb,aj t,dA i nr nr,jn 14 a b c] w (aj (if f=true then -1 else 0)) λw'=>R w':=by
 have q1:IntKind.i64.wrap (256*(b:Int))=256*(b:Int):=iU
 have q2:IntKind.i64.wrap (256*(b:Int)+(c:Int))=256*(b:Int)+(c:Int):=iU
 obtain⟨u,W,r2,Z⟩:=r;have Y:i<w.heap.size:=an w _ u;have J:(a:Int)<nr:=ag
 obtain⟨a1,a2⟩:=o;simp only[]at u W;have y:=bj (H (w.alloc (.cells #[aj ((14:Nat):Int),aj a,aj b,aj c] 90)) (ax (aw _ _) _));delta dD;go_in;go_wp2_with fail
 refine du y λw2 hR=>?_;have G:=bj hR
 cases f
 all_goals
  go_wp2
  go_ret;simp_all
theorem M5{mb t o nr a b c:Nat}{i:B.V}{R:aa->Prop}(ha:a<nr)(hb:b<256)(hc:c<256)(r:kR w o a i)(H:∀w1,w.grownBy w1 none->eL 195 #[P0 mb,aj ((1:Nat):Int),aj t,aj i.2] w1 λw'=>R w'): Calls prog 194 #[P0 mb,aj t,dA o nr nr,jn 20 a b c] w λe w'=>(i.1=0/\e=.returned (aj 0)/\R w')\/(i.1≠0/\e=.returned (aj 1)/\w.grownBy w' none):=by
 have q1:IntKind.i64.wrap (256*(b:Int))=256*(b:Int):=iU
 have q2:IntKind.i64.wrap (256*(b:Int)+(c:Int))=256*(b:Int)+(c:Int):=iU
 obtain⟨u,Z,r2,r3⟩:=r;have lr:o<w.heap.size:=an w _ u;have Y:(a:Int)<nr:=ag
 obtain⟨y,a2⟩:=i;simp only[]at u Z H ⊢;have J:=bj (H (w.alloc (.cells #[aj ((20:Nat):Int),aj a,aj b,aj c] 90)) (ax (aw _ _) _));by_cases hz:y=0
 .subst hz;go_in;go_wp2_with fail
  refine du J λw2 hR=>?_;have W:=bj hR;go_wp2
  go_ret;simp_all
 have h1:(0:Int)<y:=ag
 have G:=bj hz;go_in;go_wp2
 go_ret;simp_all[ax,aw]
end D
namespace D
open F
variable {w:aa}
theorem Ls{mb i nr a b c:Nat}{x:Int}{u:B.V}(hb:b<nr)(Y:c<nr)(rb:kR w i b (0,x))(rc:kR w i c u): dD 214 #[P0 mb,dA i nr nr,jn 10 a b c] w (aj 2) λw'=>w.grownBy w' none:=by
 have Z:i<w.heap.size:=an w _ rb.1;have W:(b:Int)<nr:=ag
 have H:(c:Int)<nr:=ag
 have o:i<w.heap.size+1:=ag
 obtain⟨G,J,_,_⟩:=rb;obtain⟨s0,s1,_,_⟩:=rc;simp only[]at G J;delta dD;go_in;go_wp2
 go_quiet (fail)
 go_wp2
 go_ret;exact⟨rfl,df (ax (ax (ax (aw _ _) _) _) _) _⟩
theorem Lm{mb i nr a b c:Nat}{x:Int}{vb o:B.V}(ha:a<nr)(hb:b<nr)(hc:c<nr)(ra:kR w i a (0,x))(rb:kR w i b vb)(rc:kR w i c o): dD 214 #[P0 mb,dA i nr nr,jn 11 a b c] w (aj 2) λw'=>w.grownBy w' none:=by
 have lr:i<w.heap.size:=an w _ ra.1;have Y:(a:Int)<nr:=ag
 have u:(b:Int)<nr:=ag
 have y:(c:Int)<nr:=ag
 have G:i<w.heap.size+1:=ag
 have H:i<w.heap.size+1+1:=ag
 obtain⟨J,W,_,_⟩:=ra;obtain⟨u0,u1,_,_⟩:=rb;obtain⟨s0,s1,_,_⟩:=rc;simp only[]at J W;delta dD;go_in;go_wp2
 go_quiet (fail)
 go_wp2
 go_ret;exact⟨rfl,df (ax (ax (ax (aw _ _) _) _) _) _⟩
end D
namespace D
open F
def iO(p:dL)(d:Dp)(K:Nat)(s:Pl)(t:Nat)(m:Dm)(g:Dg)(w:aa)(why:Int)(s':Pl)(v:Int)(w':aa):Prop:=
 ∃ρ' m' g',Tr d m g w m' g' w'/\((v=-2/\why=0/\(∃kd1,s'=(s.vk kd1).mf t)/\eF p (K+1) s m' ρ') \/
  (eF p (K+1) s' m' ρ'/\((0<v/\why=v)\/(v=0/\why=0/\(s'.T t).run=true)\/(v=-1/\why=0/\(s'.T t).run=false))))
variable {p:dL}{d:Dp}{K:Nat}{s s':Pl}{m m':Dm}{g g':Dg}{w w':aa}{ρ ρ':Nat → Nat}{t tb fb n nr a b c:Nat}{why:Int}
theorem iO.go(o:Tr d m g w m' g' w')(i:eF p K s' m' ρ')(e:(s'.T t).run=true):iO p d K s t m g w 0 s' 0 w':=
 ⟨ρ',m',g',o,ah ⟨i.mono ag,ah (af ⟨rfl,rfl,e⟩)⟩⟩
def iO.stop(o:Tr d m g w m' g' w')(i:eF p (K+1) s' m' ρ')(e:(s'.T t).run=false):iO p d K s t m g w 0 s' (-1) w':=
 ⟨ρ',m',g',o,ah ⟨i,ah (ah ⟨rfl,rfl,e⟩)⟩⟩
theorem iO.fail(h:dZ d m g w)(o:w.grownBy w' none)(i:eF p K s m ρ)(e:0<why):iO p d K s t m g w why s why w':=
 ⟨ρ,m,g,(Tr.refl h).kept o,ah ⟨i.mono ag,af ⟨e,rfl⟩⟩⟩
theorem iO.ahead{w1:aa}{v:Int}(i:w.grownBy w1 none)(h:iO p d K s t m g w1 why s' v w'):iO p d K s t m g w why s' v w':=by
 obtain⟨ρ',m',g',o,e⟩:=h;exact⟨ρ',m',g',o.ahead i,e⟩
theorem oV.goes(hQ:oV p d s m g w ρ t tb fb n nr)(h:dZ d m g w)(hS:eF p K s m ρ)(hR:Rn p s t)(a:Nat){v:B.V}(e:dW p s v)(o:(oz w (g.rb t n) a (tr ρ v)).grownBy w' none):iO p d K s t m g w 0 (s.dJ t (de s t) ((bw s t).set a v)) 0 w':=by
 obtain⟨m',g',u,i⟩:=hQ.set h hS hR a e o;grind[iO.go,gI,de,F.Rn.run]
theorem oV.Br(hQ:oV p d s m g w ρ t tb fb n nr)(h:dZ d m g w)(hS:eF p K s m ρ)(hR:Rn p s t)(a:Nat)(x:Int)(e:(oz w (g.rb t n) a (0,x)).grownBy w' none):iO p d K s t m g w 0 (qv s t a x) 0 w':=
 hQ.goes h hS hR a (dW.num x) (by grind[oZ])
theorem eF.DA(hS:eF p K s m ρ)(J:Ok p s){x y:B.V}(hx:dW p s x)(H:dW p s y):tr ρ x=tr ρ y↔x=y:=by
 refine⟨λe=>?_,λe=>by rw[e]⟩;have u:=ti J hS hx;have G:=ti J hS H;by_cases i:x.1=0
 .grind
 have o:y.1≠0:=λW=>i (u.1.1 eR);have Y:x.2=y.2:=by rw[<-u.2,<-G.2,e]
 rw[qI i,qI o]at e;injection e with e _;exact fV (hS.I _ _ (B.pR.vO hx i) (B.pR.vO H o) e) Y
theorem B4{s:Pl}{t:Nat}(hi:de s t<(s.T t).fr.length):s.dJ t (de s t) (bw s t)=s:=by
 have:(s.T t).fr.set (de s t) (bw s t)=(s.T t).fr:=by
  refine List.ext_getElem? (λj=>?_);by_cases e:de s t=j
  .subst e;rw[List.getElem?_set_self hi];unfold bw dq;grind
  rw[List.getElem?_set_ne e]
 unfold Pl.dJ;rw[this];unfold Pl.dx;have o:(λi=>if i=t then s.T t else s.T i)=s.T:=by
  funext i
  by_cases e:i=t
  .grind
  rw[au e]
 simp_all
section
variable (hP:PD p d)(h:dZ d m g w)(hS:eF p K s m ρ)(hR:Rn p s t)(hQ:oV p d s m g w ρ t tb fb n nr)
include h hS hR hQ
theorem Ow(i:a<nr)(u:b<256)(o:c<256):Calls prog 194 #[P0 g.mb,aj t,dA (g.rb t n) nr nr,jn 0 a b c] w λe w'=>∃v:Int,e=.returned (aj v)/\iO p d K s t m g w 0 (qv s t a (B.wide b c)) v w':=by
 refine du (Oh i u o (hQ.rc i)) λw' y=>?_;grind[D.oV.Br]
theorem Ov(u:a<nr)(o:b<nr)(i:b<256)(y:c<256):Calls prog 194 #[P0 g.mb,aj t,dA (g.rb t n) nr nr,jn 1 a b c] w λe w'=>∃v:Int,e=.returned (aj v)/\iO p d K s t m g w 0 (s.dJ t (de s t) ((bw s t).set a ((bw s t).R b))) v w':=by
 refine du (Og u o i y (hQ.rc u) (hQ.rc o)) λw' G=>?_;grind[D.oV.goes,F.Rn.nM,D.oV.r2]
theorem Hh{o:Nat}(ho:o=2\/o=3\/o=4\/o=5)(Z:a<nr)(Y:b<nr)(J:c<nr)(W:b<256)(H:c<256)(hi:xT s t o a b c why s'):Calls prog 194 #[P0 g.mb,aj t,dA (g.rb t n) nr nr,jn o a b c] w λe w'=>∃v:Int,e=.returned (aj v)/\iO p d K s t m g w why s' v w':=by
 have gb:=ti hR.ok hS (hR.nM (a:=b) (eV hQ.r2 Y));have gc:=ti hR.ok hS (hR.nM (a:=c) (eV hQ.r2 J));refine(M3 ho Z Y J W H (hQ.rc Z) (hQ.rc Y) (hQ.rc J)).mono ?_;rintro e w' (⟨⟨e1,e2⟩,rfl,G⟩|⟨hn,rfl,G⟩)
 .have u:=gb.1.1 e1;have i:=gc.1.1 e2;rw[ox u,ox i]at G;rcases hi with⟨_,rfl,rfl⟩|⟨y,_⟩
  .grind[D.oV.Br]
  exact dp ⟨u,i⟩ y
 rcases hi with⟨y,_⟩|⟨_,rfl,rfl⟩
 .exact dp ⟨gb.1.2 y.1,gc.1.2 y.2⟩ hn
 grind[iO.fail]
theorem Ou(H:a<nr)(y:b<nr)(u:c<nr)(o:b<256)(i:c<256):Calls prog 194 #[P0 g.mb,aj t,dA (g.rb t n) nr nr,jn 6 a b c] w λe w'=>∃v:Int,e=.returned (aj v)/\iO p d K s t m g w 0 (qv s t a (if(bw s t).R b=(bw s t).R c then 1 else 0)) v w':=by
 have G:=hS.DA hR.ok (hR.nM (a:=b) (eV hQ.r2 y)) (hR.nM (a:=c) (eV hQ.r2 u));refine du (Of H y u o i (hQ.rc H) (hQ.rc y) (hQ.rc u)) λw' W=>?_;refine⟨0,rfl,hQ.Br h hS hR a _ ?_⟩;grind
theorem Nq(i:a<nr)(u:b<256)(o:c<256):Calls prog 194 #[P0 g.mb,aj t,dA (g.rb t n) nr nr,jn 22 a b c] w λe w'=>∃v:Int,e=.returned (aj v)/\iO p d K s t m g w 0 (qv s t a s.clk) v w':=by
 refine du (M4 i u o (hQ.rc i) (h.mc 5 ag rfl).1 (h.M.ne hQ.F ek)) λw' y=>?_;grind[D.oV.Br,D.eF.ck]
theorem Ot(G:b<256)(y:c<256):Calls prog 194 #[P0 g.mb,aj t,dA (g.rb t n) nr nr,jn 7 a b c] w λe w'=>∃v:Int,e=.returned (aj v)/\iO p d K s t m g w 0 (s.dJ t (de s t) { bw s t with nx:=256*b+c }) v w':=by
 refine(Oe (R:=λw'=>iO p d K s t m g w 0 (s.dJ t (de s t) { bw s t with nx:=256*b+c }) 0 w') G y (λw1 i=>?_)).mono ?_
 .refine du (Iz (h.kept i) hQ.dt (hQ.kept h i).T hQ.n20 (hS.small hR.ok).1 _) λw' o=>?_;have u:=hS.nx hR.lv hR.fw.n1 (256*b+c);rw[hQ.tp,hQ.tf]at u;exact⟨rfl,iO.go (o.ahead i) u ((gI s t (de s t) t _).2.2.1.trans hR.run)⟩
 grind
theorem Oq(o:a<nr)(Z:b<256)(Y:c<256):Calls prog 194 #[P0 g.mb,aj t,dA (g.rb t n) nr nr,jn 8 a b c] w λe w'=>∃v:Int,e=.returned (aj v)/\iO p d K s t m g w 0 (s.dJ t (de s t) { bw s t with nx:=if(bw s t).R a=(0,0) then 256*b+c else(bw s t).nx }) v w':=by
 have u:=hS.DA hR.ok (hR.nM (a:=a) (eV hQ.r2 o)) (y:=(0,0)) (dW.num 0);rw[oZ]at u;refine(Od (R:=λw'=>iO p d K s t m g w 0 (s.dJ t (de s t) { bw s t with nx:=if(bw s t).R a=(0,0) then 256*b+c else(bw s t).nx }) 0 w') o Z Y (hQ.rc o) (λw1 G i=>?_) (λw1 G i=>?_)).mono ?_
 .refine du (Iz (h.kept i) hQ.dt (hQ.kept h i).T hQ.n20 (hS.small hR.ok).1 _) λw' H=>?_;have J:=hS.nx hR.lv hR.fw.n1 (256*b+c);rw[hQ.tp,hQ.tf]at J;rw[bf (u.1 G)];exact⟨rfl,iO.go (H.ahead i) J ((gI s t (de s t) t _).2.2.1.trans hR.run)⟩
 .rw[au (λW=>G (u.2 W))];show iO p d K s t m g w 0 (s.dJ t (de s t) (bw s t)) 0 w1;rw[B4 hR.hi];exact iO.go ((Tr.refl h).kept i) hS hR.run
 grind
include hP
theorem Nt(u:a<nr)(W:b<256)(J:c<256)(he:m.ev.length<=100000):Calls prog 194 #[P0 g.mb,aj t,dA (g.rb t n) nr nr,jn 14 a b c] w λe w'=>∃v:Int,e=.returned (aj v)/\iO p d K s t m g w 0 (s.back t ((bw s t).R a)) v w':=by
 have G:=od hR.ok.lw hR.ht ((bw s t).R a);refine(M6 (R:=λw'=>iO p d K s t m g w 0 (s.back t ((bw s t).R a)) (if decide (de s t=0)=true then -1 else 0) w') (f:=decide (de s t=0)) u W J (hQ.rc u) (λw1 y=>?_)).mono ?_
 .refine du (IE hP (h.kept y) hS hR.ok hR.lv hR.wh (hR.nM (a:=a) (eV hQ.r2 u)) he) ?_;rintro w' ⟨m',g',i,H⟩;refine⟨rfl,?_⟩;by_cases o:de s t=0
  .rw[bf eR];exact iO.stop (i.ahead y) (H.mono ag) (G.1 o)
  rw[au eR];exact iO.go (i.ahead y) H ((G.2 o).1.trans hR.run)
 grind
omit hP in
theorem Nr(y:a<nr)(J:b<256)(H:c<256)(he:m.ev.length<=100000):Calls prog 194 #[P0 g.mb,aj (t:Int),dA (g.rb t n) nr nr,jn 20 a b c] w λe w'=>∃v:Int,e=.returned (aj v)/\iO p d K s t m g w (jU s t a).1 (jU s t a).2 v w':=by
 have G:=ti hR.ok hS (hR.nM (a:=a) (eV hQ.r2 y));refine(M5 (R:=λw'=>((bw s t).R a).1=0->iO p d K s t m g w 0 (s.told 1 t ((bw s t).R a).2) 0 w') y J H (hQ.rc y) (λw1 o=>?_)).mono ?_
 .refine du (DD 1 t _ (h.kept o) he) ?_;rintro w' ⟨g',u⟩;refine⟨rfl,λi=>?_⟩;rw[ox i]at u;exact iO.go (u.ahead o) (hS.told 1 t _) hR.run
 unfold jU;rintro e w' (⟨i,rfl,u⟩|⟨i,rfl,o⟩)
 .grind
 rw[au (λe=>i (G.1.2 e))];grind[iO.fail]
end
