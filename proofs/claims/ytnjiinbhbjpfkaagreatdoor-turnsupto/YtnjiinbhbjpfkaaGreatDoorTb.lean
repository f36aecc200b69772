import Derived.Test.YtnjiinbhbjpfkaaGreatDoorTZ
import Derived.Test.YtnjiinbhbjpfkaaGreatDoorTa
set_option maxRecDepth 100000
set_option maxHeartbeats 0
set_option linter.all false
namespace Go.Proofs.YtnjiinbhbjpfkaaGreatDoor
open Go.RowKit Go.Proofs.Tryz
namespace D
open F
variable {p:dL}{d:Dp}{K:Nat}{s:Pl}{m m':Dm}{g g':Dg}{w w':aa}{ρ:Nat → Nat}
def C9{w:aa}{e:TypeId}{ad:Option Addr}{n c:Nat}{xs:List Value}(h:gd w e (.slice ad n c) xs):n=xs.length/\(xs≠[]->∃b off,ad=some (ay b off)/\b<w.heap.size/\∀(j:Nat) u,xs[j]? = some u->w.cell? (ay b (off+j))=some u):=by
 rcases h with⟨i,y⟩|⟨g,off,cap,H,P,i,y,h3,J,o,hP⟩
 .grind
 injection i with a b W;refine⟨b,λ_=>⟨g,off,a,o.lt,λj u G=>?_⟩⟩;grind[Full.cell]
def zk{l:List Nat}{i a:Nat}(f:Nat->Bool)(h:l[i]? = some a):(l.take (i+1)).filter f=(l.take i).filter f++if f a=true then[a] else[]:=by
 rw[List.take_add_one,h,List.filter_append];grind
def NV(w0 wr:aa)(ad:Option Addr)(n c:Nat)(xs:List Nat):Prop:=gd wr 3 (.slice ad n c) (jJ xs)/\(∀k,fi ad=some k->w0.heap.size<=k)/\w0.grownBy wr none
def dZ.Mj{p:Dp}(h:dZ p m g w){t tb:Nat}(ht:mY m t)(o:g.ro 1 0=(some (ay tb 0),(g.ro 1 0).2)):Tr p m g w (m.dx t (((m.T t).hw 5).mz [])) (g.at 5 t (none,0)) ((w.setCell (ay tb ((t-1)*8+1)) (aj 5)).setCell (ay tb ((t-1)*8)) (.slice none 0 0)):=by
 have y:∀i:Nat,i<8->i=0\/i=1\/i=2\/i=3\/i=4\/i=5\/i=6\/i=7:=λi hi=>by omega
 have u:Tr p m g w (m.dx t ((m.T t).hw 5)) g (w.setCell (ay tb ((t-1)*8+1)) (aj 5)):=h.sK ht o 1 ag _ rfl (λi hi=>by rcases y i hi with rfl|rfl|rfl|rfl|rfl|rfl|rfl|rfl<;>rfl);have e:=u.r.shrink (t:=t) ht o (j:=0) (dk _) (r:=(none,0)) (ah ⟨rfl,rfl⟩);grind[jQ,gi,D.Tr.trans]
def dZ.Mk{p:Dp}(h:dZ p m g w){t tb:Nat}(ht:mY m t)(o:g.ro 1 0=(some (ay tb 0),(g.ro 1 0).2))(v:B.V):Tr p m g w (m.dx t { m.T t with out:=v }) g ((w.setCell (ay tb ((t-1)*8+6)) (aj v.1)).setCell (ay tb ((t-1)*8+7)) (aj v.2)):=by
 have u:∀i:Nat,i<8->i=0\/i=1\/i=2\/i=3\/i=4\/i=5\/i=6\/i=7:=λi hi=>by omega
 have y:Tr p m g w (m.dx t { m.T t with out:=(v.1,(m.T t).out.2) }) g (w.setCell (ay tb ((t-1)*8+6)) (aj v.1)):=h.sK ht o 6 ag _ rfl (λi hi=>by rcases u i hi with rfl|rfl|rfl|rfl|rfl|rfl|rfl|rfl<;>rfl);have e:=y.r.sK (t:=t) ht o 7 ag (aj v.2) (x':={ m.T t with out:=v }) (by rw[gi]) (λi hi=>by rw[gi];rcases u i hi with rfl|rfl|rfl|rfl|rfl|rfl|rfl|rfl<;>rfl);grind[jQ,D.Tr.trans]
def Tr.other{p:Dp}(h:Tr p m g w m' g' w'){k:Nat}{o:Obj}(e:w.heap[k]? = some o)(hn:¬eH p m g k):w'.heap[k]? = some o/\¬eH p m' g' k:=
 ⟨h.o.block e hn,λi=>(h.m k i).elim hn (λu=>by grind)⟩
def NR(p:dL)(d:Dp)(K:Nat)(s:Pl)(m:Dm)(g:Dg)(w:aa)(ρ:Nat->Nat)(t:Nat)(v:B.V)(x:Nat)(o:Obj)(n b:Nat)(wr:aa):Prop:=
 ∃s1 m1 g1,(wr.heap[x]? = some o/\¬eH d m1 g1 x)/\(s1.q 5 t).length=n/\Tr d m g w m1 g1 wr/\eF p K s1 m1 ρ/\Ok p s1/\s1.nt=s.nt/\(v.1=0\/v∈s1.kp)/\s1.eo v (s1.q 5 t)=s.eo v (s.q 5 t)/\((b=0/\s1.q 5 t=[])\/∃l,s1.q 5 t=b :: l)
def AD{t n x:Nat}{o:Obj}{v:B.V}{s1:Pl}{m1:Dm}{g1:Dg}{wr:aa}(W:g1.mb=g.mb)(hx:wr.heap[x]? = some o/\¬eH d m1 g1 x)(J:(s1.q 5 t).length=n)(h:Tr d m g w m1 g1 wr)(hS:eF p K s1 m1 ρ)(i:Ok p s1)(hn:s1.nt=s.nt)(ht:fm s t)(H:v.1=0\/v∈s1.kp)(he:s1.eo v (s1.q 5 t)=s.eo v (s.q 5 t)): Calls prog 192 #[P0 g.mb,aj 4,aj t] wr λe w'=>∃b:Nat,e=.returned (aj b)/\b<=s.nt/\NR p d K s m g w ρ t v x o n b w':=by
 rw[<-W];refine(Av h.r (by rw[hS.nt,hn];have:=ht.1;have:=ht.2;omega) 4 t).mono ?_;rintro e w' ⟨b,rfl,Y,y,u⟩;exact⟨b,rfl,by grind[D.eF.nt],s1,m1,g1,⟨da u hx.1 eR,hx.2⟩,J,h.kept u,hS,i,hn,H,he,hS.first i (ah (ah (ah ⟨rfl,(ey hn).2 ht⟩))) (ah rfl) y⟩
def F3{t n b x:Nat}{o:Obj}{v:B.V}{wr:aa}(hP:PD p d)(h:NR p d K s m g w ρ t v x o n b wr)(hb:b≠0)(ht:fm s t): eL 144 #[P0 g.mb,aj b,vA (tr ρ v)] wr λw'=>∃s1 m1 g1,g1.mb=g.mb/\(w'.heap[x]? = some o/\¬eH d m1 g1 x)/\n=(s1.q 5 t).length+1/\Tr d m g w m1 g1 w'/\eF p K s1 m1 ρ/\Ok p s1/\s1.nt=s.nt/\(v.1=0\/v∈s1.kp)/\s1.eo v (s1.q 5 t)=s.eo v (s.q 5 t):=by
 obtain⟨s1,m1,g1,hx,h0,h1,W,G,h4,h5,h6,h7⟩:=h;obtain⟨l,hq⟩:∃l,s1.q 5 t=b :: l:=h7.resolve_left (λe=>hb e.1);have hl:fN s1 5 t:=ah (ah (ah ⟨rfl,(ey h4).2 ht⟩));have a0:b∈s1.q 5 t:=by rw[hq];simp
 have u:=G.ql 5 t hl b a0;obtain⟨H,J⟩:=G.lw.b 5 t hl b a0;obtain⟨k,k1,k2,k3⟩:=G.ww b H 5 t J (ah rfl);obtain⟨_,_,i,i1,i2⟩:=(W.T b u).h.h5 t J;rw[k1]at i1;injection i1 with i1;subst i1;have hT:=W.T b u;have Y:=G.fw b u trivial;have a1:(s1.T b).fr.length≠0:=λe=>k2 (db.1 e);have hv:dW p s1 v:=h5.elim (λe=>af e) (λe=>dW.root (ah e));have a3:m1.q.length<=1000000000:=by
  rw[W.q];have:=G.lw.len (x:=2) (y:=0) (af ⟨rfl,rfl⟩);omega
 have a5:(pS m1 b).f=(dq s1 b ((s1.T b).fr.length-1)).f:=by
  unfold pS qd;rw[hT.l];exact(hT.f _ ag).f
 rw[<-h1.b];refine(zV (tr ρ v) h1.r ((iG W b).2 H) (by rw[W.nt];have:=G.lw.d;omega) a3 (λ_=>⟨eV hT.l a1,eV hT.l Y.n2,?_⟩)).mono ?_
 .grind[Int.toNat_natCast,dq,D.PD.rg,F.FW.f]
 rintro e w' ⟨rfl,g',h'⟩;have Z:(s1.gn b v).q 5 t=l:=by
  rw[pB v k1];have a2:((s1.dJ b (de s1 b) ((dq s1 b (de s1 b)).set k.2.1 v)).T b).wh=some (5,t):=by rw[(gI _ _ _ _ _).1];exact J
  generalize hX:s1.dJ b (de s1 b) ((dq s1 b (de s1 b)).set k.2.1 v)=X at *;have e1:(X.dY 2 0 b).q 5 t=(X.dz b).q 5 t:=fY (X.dz b) (x:=2) (y:=0) (a:=5) (b:=t) ((X.dz b).q 2 0++[b]) ag;have e2:((X.fF 5 t ((X.q 5 t).erase b)).dx b (X.T b).off).q 5 t=(X.q 5 t).erase b:=gH X 5 t _;rw[e1,gJ a2,e2,<-hX];show(s1.q 5 t).erase b=l;rw[hq];simp
 refine⟨rfl,s1.gn b v,m1.ready b (tr ρ v),g',by rw[h'.b,h1.b],h'.other hx.1 hx.2,eR,h1.trans h',W.gn G u trivial k1 i2 hv,G.gn H (λ_=>trivial) hv,(oq s1 b v).trans h4,?_,?_⟩
 .grind[qG]
 rw[Z,<-h6,hq];rfl
def Ml{t kind:Nat}{x:Int}{v:B.V}(hP:PD p d)(h:dZ d m g w)(ht:fm s t)(hO:Ok p s)(hS:eF p K s (m.gone t kind x (tr ρ v)) ρ)(hv:v.1=0\/v∈s.kp)(hq:m.q.length<=1000000000)(he:m.ev.length<=100000): eL 196 #[P0 g.mb,aj t,aj kind,aj x,vA (tr ρ v)] w λw'=>∃m' g',Tr d m g w m' g' w'/\eF p K (s.eo v (s.q 5 t)) m' ρ:=by
 obtain⟨i0,hi,bM,b8,bR⟩:=info_parts Tryz.sr;have a6:m.nt=s.nt:=hS.nt;have Z:mY m t:=by unfold mY;rw[a6];exact ht
 have hn:m.nt<1000000000:=by rw[a6];have:=hO.lw.d;omega
 have bI:m.gone t kind x (tr ρ v)=((m.dx t ((m.T t).end (tr ρ v))).fF (m.q.filter (λu=>decide (u≠t)))).told kind t x:=rfl;obtain⟨k,rfl⟩:∃k,t=k+1:=⟨t-1,ag⟩;obtain⟨tb,e1,hT,tc⟩:=h.tc Z;have c6:w.cell? ⟨g.mb,6,none⟩=some (.slice (some ⟨tb,0,none⟩) m.nt (g.ro 1 0).2):=by
  rw[show some (⟨tb,0,none⟩:Addr)=(g.ro 1 0).1 by rw[e1]];exact(h.mc 6 ag rfl).1
 obtain⟨t0,z0⟩:=tc.c 0 ag;obtain⟨t1,z1⟩:=tc.c 1 ag;rw[Nat.add_zero,dC]at t0 z0;rw[dC]at t1 z1;have ne:=h.M.ne hT ek;have lr:=an w _ c6;have lt:=an w _ t1;have q5:=fj (n:=k) ag;have q7:(0:Int)<=k:=ag
 have q8:(k:Int)<m.nt:=ag
 have q6:IntKind.i64.wrap (k:Int)=k:=iU
 have a3:=bj (((h.Mj Z e1).kept (ak _ (.cells #[aj ((tr ρ v).1:Int),aj (tr ρ v).2] 115) none)));rw[dC]at a3;have b2:Hid (¬eH d (m.dx (k+1) ((m.T (k+1)).end (tr ρ v))) (g.at 5 (k+1) (none,0)) w.heap.size):=by
  have h1:=h.Mj Z e1;have h2:=h1.r.Mk (t:=k+1) (tb:=tb) Z (by rw[rp g _ ag];exact e1) (tr ρ v);rw[jQ,gi]at h2;exact h2.r.fresh (by simp[World.setCell])
 have aO:=bj e1;have HP:=bj hP;have HO:=bj hO;have HS:=bj hS;have HV:=bj hv;have HD:=bj Z;have HN:=bj ht;have bT:=bj hq;have bB:=bj he;clear h hP hO hS hv hq he bI tc hT Z a6 e1;delta eL;go_in;go_wp2_with fail
 have a1:=bl ((w.setCell ⟨tb,k*8+1,none⟩ (aj 5)).setCell ⟨tb,k*8,none⟩ (.slice none 0 0)) (.cells #[aj ((tr ρ v).1:Int),aj (tr ρ v).2] 115);have b7:((w.setCell ⟨tb,k*8+1,none⟩ (aj 5)).setCell ⟨tb,k*8,none⟩ (.slice none 0 0)).heap.size=w.heap.size:=by simp[World.setCell]
 rw[b7]at a1;generalize (((w.setCell ⟨tb,k*8+1,none⟩ (aj 5)).setCell ⟨tb,k*8,none⟩ (.slice none 0 0)).alloc (.cells #[aj ((tr ρ v).1:Int),aj (tr ρ v).2] 115))=w2 at *;clear t0 z0 t1 z1 c6 b7;have aI:Hid (mY (m.dx (k+1) (((m.T (k+1)).hw 5).mz [])) (k+1)):=HD.out;obtain⟨y,J,b9,aR⟩:=a3.out.r.tc aI.out;have bK:y=tb:=by
  rw[rp g _ ag]at J;rw[aO.out]at J;injection J with J _;injection J with J;injection J with J _;exact J.symm
 subst bK;have c6:w2.cell? ⟨g.mb,6,none⟩=some (.slice (some ⟨y,0,none⟩) m.nt (g.ro 1 0).2):=(a3.out.r.mc 6 ag (v:=.slice (some ⟨y,0,none⟩) m.nt (g.ro 1 0).2) (by
  show Value.slice ((g.at 5 (k+1) (none,0)).ro 1 0).1 _ ((g.at 5 (k+1) (none,0)).ro 1 0).2=_;rw[rp g _ ag,aO.out];rfl)).1
 obtain⟨t6,z6⟩:=aR.c 6 ag;obtain⟨t7,z7⟩:=aR.c 7 ag;rw[dC]at t6 z6 t7 z7;have bS:=an w2 _ c6;have HB:=bj a1;have b0:w2.cell? ⟨w.heap.size,0,none⟩=some (aj ((tr ρ v).1:Int)):=fy a1
 have b1:w2.cell? ⟨w.heap.size,1,none⟩=some (aj (tr ρ v).2):=fy a1
 have n1:w.heap.size≠y:=ag
 have aJ:=bj (a3.out.trans (a3.out.r.Mk (t:=k+1) (tb:=y) aI.out (by rw[rp g _ ag];exact aO.out) (tr ρ v)));rw[dC]at aJ;generalize tC ((m.dx (k+1) (((m.T (k+1)).hw 5).mz [])).T (k+1)) (je (m.dx (k+1) (((m.T (k+1)).hw 5).mz [])) (g.at 5 (k+1) (none,0)) 5 (k+1)) 6=o6 at t6;generalize tC ((m.dx (k+1) (((m.T (k+1)).hw 5).mz [])).T (k+1)) (je (m.dx (k+1) (((m.T (k+1)).hw 5).mz [])) (g.at 5 (k+1) (none,0)) 5 (k+1)) 7=o7 at t7;clear b9 aR J a1;generalize aS:g.mb=rb at *;have a4:=bj aS;clear aS;generalize (g.ro 1 0).2=a5 at *;have g1:∀{W:aa} {o:Nat} {u:Value},W.cell? ⟨rb,6,none⟩=some (.slice (some ⟨y,0,none⟩) m.nt a5)->(W.setCell ⟨y,o,none⟩ u).cell? ⟨rb,6,none⟩=some (.slice (some ⟨y,0,none⟩) m.nt a5):=λhW=>(az (a:=⟨rb,6,none⟩) (ab _ _ _ _ ne)).trans hW;go_region_held3 (λw'=>w'.cell? ⟨rb,6,none⟩=some (.slice (some ⟨y,0,none⟩) m.nt a5)/\w'.cell? ⟨w.heap.size,0,none⟩=some (aj ((tr ρ v).1:Int))/\w'.cell? ⟨w.heap.size,1,none⟩=some (aj (tr ρ v).2)) (first|exact⟨c6,b0,b1⟩|(refine⟨?_,?_,?_⟩<;>(first|assumption|(simp[*,go_sem])))) (fail)
 have G:Hid (Tr d m g w (m.dx (k+1) ((m.T (k+1)).end (tr ρ v))) (g.at 5 (k+1) (none,0)) ((w2.setCell ⟨y,k*8+6,none⟩ (aj ((tr ρ v).1:Int))).setCell ⟨y,k*8+6+1,none⟩ (aj (tr ρ v).2)).drew):=by
  have h3:=aJ.out;rw[jQ,gi]at h3;exact h3.kept (bo (aw _ none))
 have aX:Hid (((w2.setCell ⟨y,k*8+6,none⟩ (aj ((tr ρ v).1:Int))).setCell ⟨y,k*8+6+1,none⟩ (aj (tr ρ v).2)).drew.heap[w.heap.size]? = some (.cells #[aj ((tr ρ v).1:Int),aj (tr ρ v).2] 115 (0,0))):=by
  show(World.setCell _ _ _).heap[w.heap.size]? = _;rw[ab _ _ _ _ n1,ab _ _ _ _ n1];exact HB.out
 generalize ((w2.setCell ⟨y,k*8+6,none⟩ (aj ((tr ρ v).1:Int))).setCell ⟨y,k*8+6+1,none⟩ (aj (tr ρ v).2)).drew=w3 at *;clear aJ a3 aI HB t6 z6 t7 z7 c6 b0 b1 bS n1 g1 w2;have a2:=bj (G.out.b.trans a4.out);have c7:w3.cell? ⟨rb,7,none⟩=some (.slice (g.ro 2 0).1 m.q.length (g.ro 2 0).2):=by
  have:=(G.out.r.mc 7 ag (v:=.slice (g.ro 2 0).1 m.q.length (g.ro 2 0).2) (by
   show Value.slice ((g.at 5 (k+1) (none,0)).ro 2 0).1 _ ((g.at 5 (k+1) (none,0)).ro 2 0).2=_;rw[rp g _ ag];rfl)).1
  rw[a2.out]at this;exact this
 have HQ:Hid (gd w3 3 (.slice (g.ro 2 0).1 m.q.length (g.ro 2 0).2) (jJ m.q)):=by
  have:=G.out.r.Q;unfold je at this;rw[rp g _ ag]at this;exact this
 obtain⟨_,aZ⟩:=C9 HQ.out;have aY:=bj aZ;clear aZ;have l3:=an w3 _ c7;generalize (g.ro 2 0).1=qa at *;generalize (g.ro 2 0).2=qc at *;have c2:(m.q.length:Int)<=1000000000:=gp bT.out
 go_wp2_with fail
 go_loopw [10,11] (λq i wr=>∃(I n c:Nat) (ad:Option Addr) (H:List Nat),q=.slice ad n c/\i=aj I/\I<=m.q.length/\n=H.length/\n<=I/\Hid (H=(m.q.take I).filter (λu=>decide (u≠k+1)))/\Hid (NV w3 wr ad n c H)) (λ_ i _=>m.q.length-(intOf i).toNat)
 case atStart=>exact⟨0,0,0,none,[],rfl,rfl,ag,rfl,ag,rfl,gd.nil _ _,(λk hk=>by cases hk),aw _ _⟩
 case round=>
  obtain⟨I,n,c,ad,H,rfl,rfl,hI,bA,bG,rX,rL⟩:=hrel;subst bA;obtain⟨L1,L2,L3⟩:=rL.out;have d7:=(bd L3 (a:=⟨rb,7,none⟩) l3).1.trans c7;by_cases a7:I<m.q.length
  .obtain⟨b,off,rfl,bC,aV⟩:=aY.out (by intro e;rw[show m.q.length=(jJ m.q).length from(jC _).symm,e]at a7;cases a7);obtain⟨a,ha⟩:∃a,m.q[I]? = some a:=⟨_,bz a7⟩;have dI:wr.cell? ⟨b,off+I,none⟩=some (aj a):=(bd L3 (a:=⟨b,off+I,none⟩) bC).1.trans (aV I _ (by unfold jJ;rw[eP,ha];rfl));have a8:=zk (λu=>decide (u≠k+1)) ha
   have aK:=bj L1;have aL:=bj L2;have Y:=bj L3;clear L1 L2 L3 rL aV;by_cases e:a=k+1
   .have KX:Hid (H=(m.q.take (I+1)).filter (λu=>decide (u≠k+1))):=by
     show _=_;rw[a8,au (gG e),gS];exact rX.out
    have KL:Hid (NV w3 wr ad H.length c H):=⟨aK.out,aL.out,Y.out⟩;clear a8 rX;go_wp2_with fail
    go_roundw
    case rel=>exact⟨I+1,H.length,c,ad,H,rfl,iA,ag,rfl,ag,KX,KL⟩
    case measure=>simp[intOf];omega
   have ei:¬((a:Int)=k+1):=ag
   have KX:Hid (H++[a]=(m.q.take (I+1)).filter (λu=>decide (u≠k+1))):=by
    show _=_;rw[a8,bf (gG e),<-rX.out]
   clear a8 rX;have bH:=jC H;go_wp2_with (at_builtin;refine jf _ rfl (.tmp 56) (.tmp 64) 54 rfl 3 i0 _ 8 Tryz.jh hi bM b8 bR rfl _ (jJ H) rfl (aK.out.block ?cq) _ _ (aj a) rfl ?c1 rfl ?c3 ?c4 ?_)
   case cq=>intro j h;exact av _ _ _ (aK.out.lt j h)
   try case c1=>simp[go_sem]
   try case c3=>unfold maxLen;omega
   try case c4=>omega
   intro gb aB c' w6 b4 a0 aC;have KL:Hid (NV w3 w6 (some ⟨gb,aB,none⟩) (H.length+1) c' (H++[a])):=by
    refine⟨?_,λj hj=>?_,?_⟩
    .rw[show jJ (H++[a])=jJ H++[jk (a:Int)] by unfold jJ;rw[gR];rfl];exact b4
    .have bQ:j=gb:=by
      have:some gb=some j:=hj;injection this with this;exact this.symm
     subst bQ;rcases aC with h|h
     .rw[dF]at h;exact aL.out j h
     have:=Y.out.size;omega
    refine⟨a0.os.trans Y.out.os,a0.tape.trans Y.out.tape,a0.output.trans Y.out.output,by have:=a0.size;have:=Y.out.size;simp at *;omega,λj hj _=>?_⟩;have bX:=Y.out.size;rw[a0.block j fH (λh=>by rw[dF]at h;have:=aL.out j h.symm;omega),av _ _ _ ag];exact Y.out.block j hj im
   clear b4 a0 aC bH;go_wp2_with fail
   go_roundw
   case rel=>exact⟨I+1,H.length+1,c',some ⟨gb,aB,none⟩,H++[a],rfl,iA,ag,jx cw,ag,KX,KL⟩
   case measure=>simp[intOf];omega
  obtain rfl:I=m.q.length:=by omega
  have hX:H=m.q.filter (λu=>decide (u≠k+1)):=by have:=rX.out;rw[List.take_length]at this;exact this
  have HX:=bj hX;clear hX;obtain⟨L1,L2,L3⟩:=rL.out;have aD:=G.out.kept L3;have z7:wr.frozen? ⟨rb,7,none⟩=false:=by
   have:=(aD.r.mc 7 ag rfl).2;rw[a2.out]at this;exact this
  have aP:Tr d (m.dx (k+1) ((m.T (k+1)).end (tr ρ v))) (g.at 5 (k+1) (none,0)) w3 ((m.dx (k+1) ((m.T (k+1)).end (tr ρ v))).fF H) ((g.at 5 (k+1) (none,0)).at 2 0 (ad,c)) (wr.setCell ⟨rb,7,none⟩ (.slice ad H.length c)):=by
   refine Tr.fF (r:=(ad,c)) ((Tr.refl G.out.r).kept L3) (bp (S:=λk'=>k'=(g.at 5 (k+1) (none,0)).mb\/fi ((g.at 5 (k+1) (none,0)).ro 2 0).1=some k') (a:=⟨rb,7,none⟩) (dw _ _) (af (af a2.out.symm)) _) ?_ ?_ (λj hj=>ah ?_)
   .have:=aD.r.M.eC 7 (.slice ad H.length c);rw[a2.out]at this ⊢;exact this
   .exact L1.block (λj hj=>ab _ _ _ _ (by
     rw[dF]at hj;have:=L2 j hj;show j≠rb;omega))
   exact⟨G.out.r.fresh (L2 j hj),L2 j hj⟩
  obtain⟨b3,aA⟩:=aP.other aX.out b2.out;have aN:=bj (G.out.trans aP);have aM:=bj (bh b3 aA);have a9:Hid (((g.at 5 (k+1) (none,0)).at 2 0 (ad,c)).mb=rb):=a2.out;have aG:=bj (DD kind (k+1) x aN.out.r bB.out);rw[a9.out]at aG;clear aP L1 L2 L3 aD rL b3 aA rX c7 bG hI aY HQ a7;go_wp2_with fail
  generalize wr.setCell ⟨rb,7,none⟩ (.slice ad H.length c)=w4 at *;clear d7 z7;refine aG.out.mono ?_;rintro e w5 ⟨rfl,g5,aH⟩;have bO:Hid (w5.heap[w.heap.size]? = some (.cells #[aj ((tr ρ v).1:Int),aj (tr ρ v).2] 115 (0,0))/\¬eH d (m.gone (k+1) kind x (tr ρ v)) g5 w.heap.size):=by
   have h5:=aH.other aM.out.1 aM.out.2;rw[HX.out]at h5;exact h5
  have b6:Hid (Tr d m g w (m.gone (k+1) kind x (tr ρ v)) g5 w5):=by
   have h5:=aN.out.trans aH;rw[HX.out]at h5;exact h5
  have bD:=bj b6.out.b;have aE:=bj (AD (n:=(s.q 5 (k+1)).length) bD.out bO.out rfl b6.out HS.out HO.out rfl HN.out HV.out rfl);rw[a4.out]at aE;clear aH aG aN aM a9 G aX b2 a2;go_wp2_with fail
  refine aE.out.mono ?_;rintro e w6 ⟨b0,rfl,bL,aT⟩;have bP:=bj aT;clear aT aE;go_wp2_with fail
  go_loopg [12] ((s.q 5 (k+1)).length) (λn b wr=>∃B:Nat,b=aj B/\B<=s.nt/\Hid (NR p d K s m g w ρ (k+1) v w.heap.size (.cells #[aj ((tr ρ v).1:Int),aj (tr ρ v).2] 115 (0,0)) n B wr))
  case atStart=>exact⟨b0,rfl,bL,bP⟩
  case round=>
   obtain⟨B,rfl,hB,rW⟩:=hrel;by_cases aW:B=0
   .subst aW;obtain⟨s1,m1,g1,_,_,k1,k2,k3,k4,_,k6,k7⟩:=rW.out;have aU:s1.q 5 (k+1)=[]:=by
     rcases k7 with k7|⟨l,hl⟩
     .exact k7.2
     exfalso
     have bN:fN s1 5 (k+1):=ah (ah (ah ⟨rfl,(ey k4).2 HN.out⟩));have:=(k3.lw.b 5 (k+1) bN 0 (by rw[hl];simp)).1.1;omega
    have HF:Hid (∃m' g',Tr d m g w m' g' wr/\eF p K (s.eo v (s.q 5 (k+1))) m' ρ):=by
     refine⟨m1,g1,k1,?_⟩;rw[<-k6,aU];exact k2
    clear k1 k2 k3 k4 k6 k7 aU rW;go_wp2_with fail
    go_end0;exact⟨rfl,HF.out⟩
   have bW:(0:Int)<B:=ag
   have aQ:=bj (F3 HP.out rW.out aW HN.out);rw[a4.out]at aQ;obtain⟨_,_,_,⟨hx,_⟩,_⟩:=rW.out;have b0:wr.cell? ⟨w.heap.size,0,none⟩=some (aj ((tr ρ v).1:Int)):=fy hx
   have b1:wr.cell? ⟨w.heap.size,1,none⟩=some (aj (tr ρ v).2):=fy hx
   clear hx rW;go_wp2_with fail
   refine aQ.out.mono ?_;rintro e w7 ⟨rfl,s1,m1,g1,j1,j2,j3,j4,j5,j6,j7,j8,j9⟩;have aF:=bj (AD (n:=(s1.q 5 (k+1)).length) (j1.trans a4.out.symm) j2 rfl j4 j5 j6 j7 HN.out j8 j9);rw[a4.out]at aF;have bU:=bj j3;clear j1 j2 j3 j4 j5 j6 j7 j8 j9 b0 b1 aQ;go_wp2_with fail
   refine aF.out.mono ?_;rintro e w8 ⟨B',rfl,bE,b5⟩;have bF:=bj b5;clear b5 aF;go_wp2_with fail
   go_roundg ((s1.q 5 (k+1)).length)
   case rel=>exact⟨B',rfl,bE,bF⟩
   case measure=>have:=bU.out;omega
def E5{rb k tb nt cap fb fc:Nat}{v0:Nat}{v1 x bk:Int}{R:aa->Prop}(hk:k<nt)(hn:nt<1000000000)(J:w.cell? ⟨rb,6,none⟩=some (.slice (some ⟨tb,0,none⟩) nt cap))(u:w.cell? ⟨tb,k*8,none⟩=some (.slice (some ⟨fb,0,none⟩) 1 fc)/\w.frozen? ⟨tb,k*8,none⟩=false)(W:w.cell? ⟨fb,3,none⟩=some (.int .i64 bk))(Y:1<=fc)(n1:rb≠tb)(n2:tb≠fb)(hx:x=if 0<v0 then 0 else v1)(G:∀w1,((w.setCell ⟨tb,k*8,none⟩ (.slice (some ⟨fb,0,none⟩) 0 fc)).alloc (.cells #[.int .i64 v0,.int .i64 v1] 115)).grownBy w1 none->Calls prog 196 #[P0 rb,.int .i64 ((k:Int)+1),.int .i64 2,.int .i64 x,.agg #[.int .i64 v0,.int .i64 v1]] w1 λe w'=>e=.returned (.tuple #[])/\R w'): Calls prog 193 #[P0 rb,.int .i64 ((k:Int)+1),.agg #[.int .i64 v0,.int .i64 v1]] w λe w'=>e=.returned (.bool true)/\R w':=by
 obtain⟨u,z0⟩:=u;have lr:rb<w.heap.size:=an w _ J;have lt:tb<w.heap.size:=an w _ u;have lf:fb<w.heap.size:=an w _ W;have q5:=fj (n:=k) ag;have q7:(0:Int)<=k:=ag
 have q8:(k:Int)<nt:=ag
 have q9:(1:Int)<=fc:=ag
 have y:=bj G;by_cases H:0<v0
 .rw[bf H]at hx;subst hx
  go_in;go_wp2_with fail
  refine(y _ (aw _ _)).mono ?_;rintro e Z ⟨rfl,hR⟩;have o:=bj hR;go_wp2_with fail
  go_ret;simp_all
 rw[au H]at hx;subst hx;have i:¬(0:Int)<v0:=ag
 go_in;go_wp2_with fail
 refine(y _ (aw _ _)).mono ?_;rintro e Z ⟨rfl,hR⟩;have o:=bj hR;go_wp2_with fail
 go_ret;simp_all
def CK{rb k tb nt cap fb fc n vb i rc a:Nat}{v0:Nat}{v1:Int}{Y H:Value}(hk:k<nt)(hn:nt<1000000000)(W:n<100)(G:w.cell? (ay rb 6)=some (dA tb nt cap))(y:w.cell? (ay tb (k*8))=some (dA fb (n+2) fc)/\w.frozen? (ay tb (k*8))=false)(J:w.cell? (ay fb ((n+1)*4+3))=some (aj a))(k1:w.cell? (ay fb (n*4+1))=some (dA vb i rc))(a0:n+2<=fc)(n1:rb≠tb)(n2:tb≠fb)(n3:tb≠vb)(n4:fb≠vb)(o:w.cell? (ay vb (a*2))=some Y/\w.frozen? (ay vb (a*2))=false)(u:w.cell? (ay vb (a*2+1))=some H/\w.frozen? (ay vb (a*2+1))=false)(ha:a<i): dD 193 #[P0 rb,aj ((k:Int)+1),.agg #[aj v0,aj v1]] w (.bool false) λw'=>((((w.setCell (ay tb (k*8)) (dA fb (n+1) fc)).setCell (ay vb (a*2)) (aj v0)).setCell (ay vb (a*2+1)) (aj v1)).alloc (.cells #[aj v0,aj v1] 115)).grownBy w' none:=by
 obtain⟨y,z0⟩:=y;obtain⟨Z,z8⟩:=o;obtain⟨v9,z9⟩:=u;have lr:rb<w.heap.size:=an w _ G;have lt:tb<w.heap.size:=an w _ y;have lf:fb<w.heap.size:=an w _ J;have lv:vb<w.heap.size:=an w _ Z;have q5:=fj (n:=k) ag;have q7:(0:Int)<=k:=ag
 have q8:(k:Int)<nt:=ag
 have p1:IntKind.i64.wrap ((n:Int)+2-1)=(n:Int)+1:=by rw[fq,dN _ (by omega)];omega
 have p2:IntKind.i64.wrap ((n:Int)+1-1)=(n:Int):=fj ag;have p3:(0:Int)<=n+1:=ag
 have p4:(n:Int)+1<(n:Int)+2:=ag
 have p5:(n:Int)+1<=(fc:Int):=ag
 have p6:(0:Int)<=n:=ag
 have p7:(n:Int)<n+1:=ag
 have p8:¬((n:Int)+1=0):=ag
 have p9:(a:Int)<i:=ag
 have m1:¬(w.heap.size=tb):=ag
 have m2:¬(w.heap.size=vb):=ag
 delta dD;go_in;go_wp2
 go_region
 all_goals
  go_wp2
  go_ret;refine⟨rfl,?_⟩;first
   | exact aw _ _
   | exact bo (aw _ _)
   | exact df (aw _ _) _
   | exact⟨rfl,rfl,rfl,bq _,λ_ _ _=>rfl⟩
def Mu{p:Dp}(m:Dm)(g:Dg)(t i:Nat):(ok p m g 6 t i).bs (g.rb t i):=rfl
def ti{p:dL}{s:Pl}{X:Nat->Prop}{ρ:Nat->Nat}{v:B.V}(u:fL p s X)(hS:eF p K s m ρ)(o:dW p s v):((tr ρ v).1=0↔v.1=0)/\(if 0<(tr ρ v).1 then(0:Int) else(tr ρ v).2)=v.2:=by
 by_cases e:v.1=0
 .rw[ox e];omega
 have y:=(hS.C v.1 (B.pR.vO o e)).c1;have i:=u.AF o;rw[qI e];refine⟨⟨λh=>?_,λh=>dp h e⟩,?_⟩
 .omega
 show(if 0<ρ v.1 then(0:Int) else 0)=v.2;rcases i with h|h
 .omega
 omega
def Bq{v:B.V}(s:Pl)(t kind:Nat)(x:Int):v.1=0\/v∈(s.gone t v kind x).kp:=by
 grind[ja,lD]
def eF.small(hS:eF p K s m ρ)(e:Ok p s):m.nt<1000000000/\m.q.length<=1000000000:=by
 refine⟨by rw[hS.nt];have:=e.lw.d;omega,?_⟩;rw[hS.q];have:=e.lw.len (x:=2) (y:=0) (af ⟨rfl,rfl⟩);omega
def IE{t:Nat}{v:B.V}(hP:PD p d)(h:dZ d m g w)(hS:eF p K s m ρ)(J:Ok p s)(G:t∈s.lv)(hw:(s.T t).wh=none)(hv:dW p s v)(he:m.ev.length<=100000): dD 193 #[P0 g.mb,aj t,vA (tr ρ v)] w (.bool (decide (de s t=0))) λw'=>∃m' g',Tr d m g w m' g' w'/\eF p K (s.back t v) m' ρ:=by
 have ht:=J.lt t G;have o:=(iG hS t).2 ht;have Y:=hS.T t G;have hF:=J.fw t G trivial;obtain⟨hn,hq⟩:=hS.small J;have aA:qd m t=de s t:=by unfold qd de;rw[Y.l]
 obtain⟨tb,fb,n,T⟩:=h.top o (by grind[D.TS.l,F.FW.n1]);have H:de s t=n:=by unfold de;rw[<-Y.l,T.l];omega
 obtain⟨Z,f0,f1,f2,f3⟩:=h.F o (kr T.l);have a9:n+1<=(g.ro 5 t).2:=by rw[T.l]at f1;exact f1
 have a7:m.dx t ((m.T t).mz ((m.T t).fr.take n))=m.pop t:=by unfold Dm.pop;rw[List.dropLast_eq_take,T.l];rfl
 have y:=h.shrink o T.b (j:=n) (kr T.l) (r:=g.ro 5 t) (af rfl);rw[a7]at y;have aD:Value.slice (g.ro 5 t).1 n (g.ro 5 t).2=dA fb n (g.ro 5 t).2:=by rw[T.a]
 rw[aD]at y;have a0:w.frozen? (ay tb ((t-1)*8))=false:=by
  obtain⟨aC,e1,_,tc⟩:=h.tc o;have:aC=tb:=by
   have:=T.b;rw[e1]at this;injection this with this _;injection this with this;injection this with this _
  subst this;exact(tc.c 0 ag).2
 obtain⟨k,rfl⟩:∃k,t=k+1:=⟨t-1,ag⟩;rw[dC]at a0 y;have t0:=T.t0;rw[dC]at t0;have a6:k<m.nt:=ag
 by_cases h0:de s (k+1)=0
 .have aF:n=0:=ag;subst aF;rw[fp h0];have k3:=T.k3;rw[Nat.zero_mul,Nat.zero_add]at k3;refine(E5 (x:=v.2) (R:=λw'=>∃m' g',Tr d m g w m' g' w'/\eF p K (s.back (k+1) v) m' ρ) a6 hn T.c6 ⟨t0,a0⟩ k3 a9 T.n3 T.n2 (ti J hS hv).2.symm (λw1 aE=>?_)).mono ?_
  .have a4:=(y.kept (ak _ _ none)).kept aE;have hg:Ok p (s.gone (k+1) v 2 v.2):=J.gone G hv 2 v.2 (λ_ _ h=>h);have aN:k+1∉(s.gone (k+1) v 2 v.2).lv:=by rw[(ja s (k+1) v 2 v.2).1,J.nd.mem_erase_iff];exact λh=>h.1 rfl
   have a8:Ok p ((s.gone (k+1) v 2 v.2).pop (k+1)):=(hg.pop (by grind[pO,ke]) (λu hu=>⟨trivial,af hu⟩)).IZ (λu hu _ e=>aN (e▸hu));rw[<-qV hw]at a8;refine(Ml (t:=k+1) (kind:=2) (x:=v.2) (v:=v) hP a4.r ((ey (jL (s.pop (k+1)) (k+1) v 2 v.2)).2 ht) a8 (hS.L8 (kind:=2) (x:=v.2) J G hw hv) (Bq (s.pop (k+1)) (k+1) 2 v.2) hq he).mono ?_;rintro e w' ⟨rfl,m',g',h1,h2⟩;refine⟨rfl,m',g',a4.trans h1,?_⟩;have hb:s.back (k+1) v=((s.pop (k+1)).gone (k+1) v 2 v.2).eo v (((s.pop (k+1)).gone (k+1) v 2 v.2).q 5 (k+1)):=by
    unfold Pl.back Pl.leave;rw[bf h0,Ar (J.lw.pop (k+1)) ht]
   grind
  grind
 obtain⟨j,rfl⟩:∃j,n=j+1:=⟨n-1,ag⟩;rw[eW h0];have a1:j<(m.T (k+1)).fr.length:=kr T.l
 have W:j<(s.T (k+1)).fr.length:=by rw[<-Y.l];exact a1
 have a3:=h.R o a1;have aH:Z=fb:=by rw[T.a]at f0;injection f0 with f0;injection f0 with f0 _;exact f0.symm
 subst aH;have a2:=f3.cell (j*4+1) ag;rw[uR d m g (k+1) ag]at a2;have v6:=zI (p:=d) (m:=m) o.1 o.2 a1;have aP:(ok d m g 5 (k+1) 0).bs Z:=by
  show fi (g.ro 5 (k+1)).1=some Z;rw[T.a];rfl
 have aJ:(fU m (k+1) (j+1)).bk.2.1=(bw s (k+1)).bk.2.1:=by
  have:=(Y.f (de s (k+1)) (by grind[de])).bk h0;rw[H]at this;unfold bw;rw[H];exact this
 have aB:(fU m (k+1) (j+1)).bk.2.1<d.rg (fU m (k+1) j).f:=by
  rw[aJ,show(fU m (k+1) j).f=(dq s (k+1) j).f from(Y.f j W).f,hP.rg (dq s (k+1) j).f (hF.f j W).1];have:=hF.b j (by rw[<-Y.l,T.l];omega);unfold bw;rw[H];exact this
 refine(CK a6 hn (gp hF.n2) T.c6 ⟨t0,a0⟩ T.k3 a2 a9 T.n3 T.n2 (h.ne (oQ ag) v6 ((CZ d m T.b tb).2 rfl) (Mu m g _ _) ag) (h.ne (rP (p:=d) (m:=m) o.1 o.2) v6 aP (Mu m g _ _) ag) (a3.cells _ ag) (a3.cells _ ag) aB).mono ?_;rintro e w' ⟨rfl,hg⟩;have a5:((m.pop (k+1)).T (k+1)).fr=(m.T (k+1)).fr.dropLast:=by unfold Dm.pop;rw[gi];rfl
 have aI:fU (m.pop (k+1)) (k+1) j=fU m (k+1) j:=by
  unfold fU;rw[a5];exact nI (kr T.l)
 refine⟨rfl,_,_,((y.trans (y.r.se (t:=k+1) (i:=j) o (by rw[a5,eY,T.l];omega) (fU m (k+1) (j+1)).bk.2.1 (tr ρ v))).kept (ak _ _ none)).kept hg,?_⟩;have h4:=hS.back G h0 hv;rw[aI];have aM:pS m (k+1)=fU m (k+1) (j+1):=by unfold pS;rw[aA,H]
 rw[aA,H,aM]at h4;exact h4
end D
namespace D
open F
variable {p:dL}{K K':Nat}{s s':Pl}{m m':Dm}{ρ:Nat → Nat}{X:Nat → Prop}
theorem qz(s:Pl)(f:Nat)(u v:B.V){t:Nat}(h:t≠s.nt+1):(s.born f u v).T t=s.T t:=by
 unfold Pl.born;rw[nh _ h,qt _ _ h];exact nU s h
def Ia(s:Pl)(f:Nat)(u v:B.V):((s.born f u v).T (s.nt+1)).fr=[⟨f,0,ig u v,(0,0,0,0)⟩]/\((s.born f u v).T (s.nt+1)).wh=some (2,0):=by
 unfold Pl.born;refine⟨?_,yP _ _ _ _⟩;rw[jT];show((Pl.dz _ _).T _).fr=_;rw[kg,tF];show((s.new).T (s.nt+1)).fr++_=_;rw[mL];rfl
def FB(s:Pl)(f:Nat)(u v:B.V)(a b:Nat):(s.born f u v).q a b=if a=2/\b=0 then s.q 2 0++[s.nt+1] else if a=5/\b=s.nt+1 then[] else s.q a b:=by
 unfold Pl.born;have hw:((s.more.push (s.nt+1) ⟨f,0,ig u v,(0,0,0,0)⟩).T (s.nt+1)).wh=none:=by
  rw[(qT _ _ _ _).1];show((s.new).T (s.nt+1)).wh=none;rw[mL];rfl
 show((Pl.dz _ _).fF 2 0 _).q a b=_;rw[fB hw];by_cases e:a=2/\b=0
 .rw[bf e,e.1,e.2,gH];rfl
 rw[au e,fY _ _ e];rfl
theorem eF.born(h:eF p K s m ρ){f:Nat}{u v:B.V}(hO:fL p s X)(a6:s.lv.length<p.mt)(hu:dW p s u)(hv:dW p s v):eF p K (s.born f u v) (m.born f (tr ρ u) (tr ρ v)) ρ:=by
 obtain⟨b1,b2,b3,b4⟩:=tQ s f u v;have W:(s.born f u v).nt=s.nt+1:=by unfold Pl.born;rw[iF];rfl
 obtain⟨j1,j2,j3,j4,j5,j6,j7,j8,j9,a5⟩:=jg (s.more.push (s.nt+1) ⟨f,0,ig u v,(0,0,0,0)⟩) 2 0 (s.nt+1);have a1:(s.born f u v).out=s.out++[(0,0)]:=j2;have a4:∀t,t∈s.lv->t≠s.nt+1:=λt ht e=>by have:=(hO.lt t ht).2;omega
 have J:∀t,t≠s.nt+1->(m.born f (tr ρ u) (tr ρ v)).T t=m.T t:=λt e=>au (eV h.nt e);have Z:(m.born f (tr ρ u) (tr ρ v)).T (s.nt+1)=⟨[⟨f,0,ig (tr ρ u) (tr ρ v),(0,0,0,0)⟩],1,0,0,0,0,(0,0)⟩:=bf (by rw[h.nt]);have H:=Ia s f u v;have a0:∀t,t<=s.nt->1<=t->oR (s.born f u v) t=oR s t:=λt ht h1=>by
  grind[oR,List.getElem?_append_left,F.fL.ol]
 have hg:∀x,sH p (s.born f u v) x->dW p s x:=by
  rintro x (⟨c,i,a,o,hi,ha,e⟩|Y)
  .rw[b1]at o;by_cases ec:c=s.nt+1
   .subst ec;have h0:i=0:=by rw[H.1]at hi;simpa using hi
    subst h0;have hf:dq (s.born f u v) (s.nt+1) 0=⟨f,0,ig u v,(0,0,0,0)⟩:=by unfold dq;rw[H.1];rfl
    rw[hf]at e;grind[qQ]
   have a3:c∈s.lv:=by
    rcases dV.1 o with o|o
    .exact o
    exact dp (fX.1 o) ec
   have hf:dq (s.born f u v) c i=dq s c i:=gD (by grind[qz]);rw[hf]at ha e;rw[qz s f u v ec]at hi;exact dW.root (af ⟨c,i,a,a3,hi,ha,e⟩)
  rw[b3]at Y;exact dW.root (ah Y)
 obtain⟨k1,k2⟩:=h.cells (s':=s.born f u v) (m':=m.born f (tr ρ u) (tr ρ v)) b4 j8 hg ⟨rfl,rfl,rfl⟩;refine⟨by rw[W];show m.nt+1=_;rw[h.nt],?_,by show m.ft=_;rw[h.xL];exact j4.symm,by show m.sp=_;rw[h.sp];exact a5.symm,by show m.ev=_;rw[h.ev];grind,by show m.clk=_;rw[h.ck];exact j5.symm,λt ht=>?_,λt ht hn=>?_,k1,k2,λx Y=>?_,λa b G Y=>?_,λt ht=>?_,h.A,by rw[b1,cw];exact a6,h.B⟩
 .show m.q++[m.nt+1]=_;rw[FB,bf ⟨rfl,rfl⟩,h.q,h.nt]
 .rw[b1]at ht;by_cases e:t=s.nt+1
  .subst e;rw[Z];refine⟨jx H.1,λi hi=>?_,rfl,⟨λ_=>rfl,λ_ _=>rfl,λy e=>?_,λy e=>?_,λy e=>?_⟩⟩
   .rw[H.1]at hi ⊢;have h0:i=0:=gG hi
    subst h0;refine⟨rfl,rfl,λe=>dp rfl e,λk _=>?_⟩;show ig (tr ρ u) (tr ρ v) k=tr ρ (ig u v k);unfold ig;split
    .rfl
    split
    .rfl
    rfl
   all_goals
    rw[H.2]at e;injection e with e;injection e with e _;exact dp e ek
  rw[qz s f u v e,J t e];refine h.T t ?_;rcases dV.1 ht with ht|ht
  .exact ht
  exact dp (fX.1 ht) e
 .rw[b1]at hn;have h1:t∉s.lv:=λe=>hn (eM _ e);have h2:t≠s.nt+1:=λe=>hn (List.mem_append_right _ (by simp[e]));have h3:t<=s.nt:=by have:=ht.2;rw[W]at this;omega
  rw[J t h2,a0 t h3 ht.1];exact h.O t ⟨ht.1,h3⟩ h1
 .rw[b3]at Y;obtain⟨c,c1,c2,c3⟩:=h.Kp x Y;refine⟨c,⟨c1.1,by rw[W];have:=c1.2;omega⟩,λo=>?_,by rw[a0 c c1.2 c1.1];exact c3⟩;rw[b1]at o;rcases dV.1 o with o|o
  .exact c2 o
  have:=fX.1 o;have:=c1.2;omega
 .rw[FB,au (λe=>Y e.1)];by_cases e:a=5/\b=s.nt+1
  .rw[bf e];exact List.Pairwise.nil
  rw[au e];have a2:fN s a b:=by
   unfold fN at G ⊢;rcases G with G|G|G|G
   .exact af G
   .exact ah (af G)
   .exact ah (ah (af G))
   refine ah (ah (ah ⟨G.1,G.2.1,?_⟩));have:=G.2.2;rw[W]at this;have:b≠s.nt+1:=λe'=>e ⟨G.1,e'⟩;omega
  exact ve (h.L a b a2 Y) (λc o=>by rw[J c (a4 c (hO.ql a b a2 c o))];exact⟨rfl,rfl⟩)
 rw[b1]at ht;by_cases e:t=s.nt+1
 .subst e;rw[Z];exact dk _
 rw[J t e];rcases dV.1 ht with ht|ht
 .exact h.N t ht
 exact dp (fX.1 ht) e
theorem eF.ur(h:eF p K s m ρ){a i:Nat}{v:B.V}(W:pU p s a)(hv:dW p s v):eF p K (s.ur a i v) (m.put (ρ a) i (tr ρ v)) ρ:=by
 have y:∀c,pU p (s.ur a i v) c->pU p s c:=λc o=>B.Ec W hv o;refine { h with C:=λc o=>?_,I:=λc H o G=>h.I c H (y c o) (y H G) };obtain⟨c1,c2,J,c4,c5,Z⟩:=h.C c (y c o);have u:(B.lay s.M a ((s.M a).set i v) c).length=(s.M c).length:=by
  by_cases e:c=a
  .subst e;rw[B.iB,eA]
  rw[B.gh _ _ _ _ e]
 refine⟨c1,c2,?_,c4,λY e=>c5 Y (db.1 (by rw[<-u];exact db.2 e)),by show(B.lay s.M a ((s.M a).set i v) c).length<=8;omega⟩;show(if ρ c=ρ a then(m.M (ρ a)).set i (tr ρ v) else m.M (ρ c))=(B.lay s.M a ((s.M a).set i v) c).map (tr ρ);by_cases e:c=a
 .subst e;rw[bf rfl,B.iB,J,List.map_set]
 rw[au (λe'=>e (h.I c a (y c o) W e')),B.gh _ _ _ _ e,J]
theorem eF.oS(h:eF p K s m ρ){t a c ty:Nat}{J:B.Kd}{l:List B.V}(hO:fL p s X)(a3:t∈s.lv)(hn:(s.T t).fr≠[])(hk:B.lS J p.n (eG p s) s.M)(h3:J.on c=false)(aL:c≠0)(aN:ty≠0->l≠[])(aK:l.length<=8)(hl:∀v,v∈l->dW p s v): eF p (K+1) ((s.oS J c ty l).dJ t (de s t) ((bw s t).set a (c,0))) ((m.cell ty (l.map (tr ρ))).dJ t (qd m t) ((pS m t).set a (m.nc+1,0))) (λk=>if k=c then m.nc+1 else ρ k):=by
 have hi:de s t<(s.T t).fr.length:=by
  have:(s.T t).fr.length≠0:=λe=>hn (db.1 e);unfold de;omega
 have aM:¬pU p s c:=λhc=>by
  have:=(B.qS hk hc).1;grind
 have a9:∀v,dW p s v->tr (λk=>if k=c then m.nc+1 else ρ k) v=tr ρ v:=λv hv=>by
  by_cases e:v.1=0
  .grind[ox]
  rw[qI e,qI e];have aG:v.1≠c:=λe'=>aM (e'▸B.pR.vO hv e);grind
 have hT:=h.T t a3;have aF:qd m t=de s t:=by unfold qd de;rw[hT.l]
 have aH:pS m t=fU m t (de s t):=by unfold pS;rw[aF]
 rw[aF,aH];have e1:((s.oS J c ty l).dJ t (de s t) ((bw s t).set a (c,0))).T t={ s.T t with fr:=(s.T t).fr.set (de s t) ((bw s t).set a (c,0)) }:=di _ _ _;have e2:((m.cell ty (l.map (tr ρ))).dJ t (de s t) ((fU m t (de s t)).set a (m.nc+1,0))).T t=(m.T t).mz ((m.T t).fr.set (de s t) ((fU m t (de s t)).set a (m.nc+1,0))):=gi _ _ _;have hs:∀u,u≠t->((s.oS J c ty l).dJ t (de s t) ((bw s t).set a (c,0))).T u=s.T u:=λu e=>dR _ _ e;have hm:∀u,u≠t->((m.cell ty (l.map (tr ρ))).dJ t (de s t) ((fU m t (de s t)).set a (m.nc+1,0))).T u=m.T u:=λu e=>fW _ _ e;have a7:∀v,v∈eG p ((s.oS J c ty l).dJ t (de s t) ((bw s t).set a (c,0)))->v=(c,0)\/dW p s v:=λv hv=>by
  rcases iw.1 hv with⟨u,j,b,Y,hj,hb,e⟩|hv
  .by_cases eu:u=t
   .subst eu;rw[e1]at hj;have a1:j<((s.T u).fr.set (de s u) ((bw s u).set a (c,0))).length:=hj;rw[eA]at a1;have aI:dq ((s.oS J c ty l).dJ u (de s u) ((bw s u).set a (c,0))) u j=if j=de s u then(bw s u).set a (c,0) else dq s u j:=by
     unfold dq;rw[e1];exact mQ hi
    rw[aI]at hb e;by_cases ej:j=de s u
    .rw[bf ej]at hb e;have e3:B.set (bw s u).R a (c,0) b=v:=e;by_cases eb:b=a
     .grind[B.jN]
     rw[B.iX _ _ _ _ eb]at e3;rw[<-e3];exact ah (Rn.jm a3 _ hi b hb)
    rw[au ej]at hb e;grind[Rn.jm]
   have hf:dq ((s.oS J c ty l).dJ t (de s t) ((bw s t).set a (c,0))) u j=dq s u j:=gD eR;rw[hf]at hb e;rw[hs u eu]at hj;exact ah (dW.root (af ⟨u,j,b,Y,hj,hb,e⟩))
  exact ah (dW.root (ah hv))
 have Z:∀k,pU p ((s.oS J c ty l).dJ t (de s t) ((bw s t).set a (c,0))) k->k=c\/pU p s k:=λk hk=>B.uq (L:=eG p s) hl a7 hk;have aC:∀k,pU p s k->∀v,v∈s.M k->dW p s v:=λk hk v hv=>ah (ah ⟨k,hk,hv⟩);have a5:∀l':List B.V,(∀v,v∈l'->dW p s v)->l'.map (tr (λk=>if k=c then m.nc+1 else ρ k))=l'.map (tr ρ):=λl' a8=>List.map_congr_left (λv hv=>a9 v (a8 v hv));refine⟨h.nt,h.q,h.xL,h.sp,h.ev,h.ck,λu Y=>?_,λu Y aA=>?_,λk H=>?_,λk k' H a4 he=>?_,h.Kp,λx y a8 hx=>ve (h.L x y a8 hx) (λb _=>?_),λu Y=>?_,⟨by show m.G.all+1=m.nc+1;rw[h.A.1],Nat.succ_le_succ h.A.2.1,Nat.succ_le_succ h.A.2.2⟩,h.lm,⟨Nat.succ_le_succ h.B.1,Nat.le_succ_of_le h.B.2⟩⟩
 .have a6:∀u,u∈s.lv->∀i,i<(s.T u).fr.length->FS p (λk=>if k=c then m.nc+1 else ρ k) i ((s.T u).fr.getD i n6) ((m.T u).fr.getD i n6):=λu Y i aD=>by
   have hF:=(h.T u Y).f i aD;exact⟨hF.f,hF.nx,hF.bk,λk H=>by rw[hF.R k H];exact(a9 _ (Rn.jm Y i aD k H)).symm⟩
  by_cases eu:u=t
  .subst eu;refine⟨?_,λj hj=>?_,?_,?_⟩
   .rw[e1,e2];show((m.T u).fr.set _ _).length=((s.T u).fr.set _ _).length;grind[List.length_set,D.TS.l]
   .rw[e1]at hj ⊢;rw[e2];have a1:j<((s.T u).fr.set (de s u) ((bw s u).set a (c,0))).length:=hj;rw[eA]at a1;show FS p _ j (((s.T u).fr.set _ _).getD j n6) (((m.T u).fr.set _ _).getD j n6);rw[mQ hi,mQ (eV hT.l hi)];by_cases e:j=de s u
    .rw[bf e,bf e,e];have hF:=a6 u Y (de s u) hi;refine⟨hF.f,hF.nx,hF.bk,λk H=>?_⟩;show B.set (fU m u (de s u)).R a (m.nc+1,0) k=tr _ (B.set (bw s u).R a (c,0) k);by_cases e3:k=a
     .subst e3;rw[B.jN,B.jN];rw[qI (v:=(c,0)) aL];show _=((if c=c then m.nc+1 else ρ c),(0:Int));rw[bf rfl]
     rw[B.iX _ _ _ _ e3,B.iX _ _ _ _ e3];exact hF.R k H
    rw[au e,au e];exact a6 u Y j a1
   .rw[e2];exact hT.o
   rw[e1,e2];exact hT.h.same rfl rfl rfl rfl rfl rfl rfl
  rw[hs u eu,hm u eu];exact⟨(h.T u Y).l,a6 u Y,(h.T u Y).o,(h.T u Y).h⟩
 .have eu:u≠t:=λe=>aA (e▸a3);rw[hm u eu];obtain⟨o1,o2,o3⟩:=h.O u Y aA;refine⟨o1,o2,o3.trans ?_⟩;refine(a9 _ ?_).symm;show dW p s (oR s u);have aO:=Y.1;have aP:u<=s.nt:=Y.2;have aB:u-1<s.out.length:=kr hO.ol
  have aJ:oR s u∈s.out:=by
   unfold oR;rw[cr,bz aB];exact List.getElem_mem aB
  rcases hO.ok _ aJ with h0|h0
  .exact af h0
  exact dW.root (ah h0)
 .by_cases W:k=c
  .subst W;refine⟨by show 1<=(if k=k then m.nc+1 else ρ k);rw[bf rfl];omega,by show(if k=k then m.nc+1 else ρ k)<=m.nc+1;rw[bf rfl];omega,?_,?_,?_,?_⟩
   .show(if(if k=k then m.nc+1 else ρ k)=m.nc+1 then l.map (tr ρ) else m.M (if k=k then m.nc+1 else ρ k))=(B.lay s.M k l k).map _;rw[bf rfl,bf rfl,B.iB,a5 l hl]
   .show(if(if k=k then m.nc+1 else ρ k)=m.nc+1 then ty else m.ck (if k=k then m.nc+1 else ρ k))=if k=k then ty else s.ck k
    rw[bf rfl,bf rfl,bf rfl]
   .show(if k=k then ty else s.ck k)≠0->B.lay s.M k l k≠[];rw[bf rfl,B.iB];exact aN
   show(B.lay s.M k l k).length<=8;rw[B.iB];exact aK
  have aE:=(Z k H).resolve_left W;obtain⟨c1,c2,c3,c4,c5,c6⟩:=h.C k aE;refine⟨by show 1<=(if k=c then m.nc+1 else ρ k);rw[au W];exact c1,by show(if k=c then m.nc+1 else ρ k)<=m.nc+1;rw[au W];omega,?_,?_,?_,?_⟩
  .show(if(if k=c then m.nc+1 else ρ k)=m.nc+1 then l.map (tr ρ) else m.M (if k=c then m.nc+1 else ρ k))=(B.lay s.M c l k).map _;rw[au W,eD,B.gh _ _ _ _ W,a5 _ (aC k aE),c3]
  .show(if(if k=c then m.nc+1 else ρ k)=m.nc+1 then ty else m.ck (if k=c then m.nc+1 else ρ k))=if k=c then ty else s.ck k
   rw[au W,eD,au W,c4]
  .show(if k=c then ty else s.ck k)≠0->B.lay s.M c l k≠[];rw[au W,B.gh _ _ _ _ W];exact c5
  show(B.lay s.M c l k).length<=8;rw[B.gh _ _ _ _ W];exact c6
 .have a2:=he;by_cases W:k=c
  .by_cases a0:k'=c
   .rw[W,a0]
   rw[bf W,au a0]at a2;have:=(h.C k' ((Z k' a4).resolve_left a0)).c2;omega
  by_cases a0:k'=c
  .rw[au W,bf a0]at a2;have:=(h.C k ((Z k H).resolve_left W)).c2;omega
  rw[au W,au a0]at a2;exact h.I k k' ((Z k H).resolve_left W) ((Z k' a4).resolve_left a0) a2
 .by_cases eb:b=t
  .subst eb;rw[e2];exact⟨rfl,rfl⟩
  rw[hm b eb];exact⟨rfl,rfl⟩
 by_cases eu:u=t
 .subst eu;rw[e2];exact h.N u Y
 rw[hm u eu];exact h.N u Y
end D
namespace F
variable {g:eJ}{k op t:Nat}{l:List B.V}{p:dL}{s:Pl}{w:aa}
def dZ.NF(h:dZ p s g w):¬rA p.sb p.pb p.n s.kd (kE s g) p.eb:=λe=>by
 have:=(h.i 0 0 0 1 0 0 p.eb rfl e).1;omega
def Jl(h:dZ p s g w)(hP:PW p)(o:Ok p s):C8 w (th p s g) p.eb p.sb p.pb p.n (eG p s).length s.kd (kE s g) (B.oi (eG p s) s.M):=by
 refine⟨M0 h.q o.lt (by have:=o.ll;have:=o.lw.d;omega) (by have:=o.kl;have:=hP.n2;omega) (λu G=>by have:=(o.fw u G trivial).n2;omega) (λu G i hi=>(hP.rg _ ((o.fw u G trivial).f i hi).1).2),λk H=>⟨h.q.lt H,λe=>?_⟩,h.S,o.hl,hP.n1,hP.n2⟩;obtain⟨x,y,z,J,W⟩:=H;exact J (h.i x y z 1 0 0 k W (af e)).1
def Jd(eb tb:Nat)(E Tk:Nat->Value)(R:aa->Prop)(w:aa)(o:Full w eb 144 44 44 E)(u:Full w tb 160 7 7 Tk)(H:eL 173 #[P0 eb,aj ((5:Nat):Int),P0 tb,aj 0] ((w.setCell (ay tb 2) (.bool false)).setCell (ay eb 42) (.bool true)) λw'=>R w'): eL 156 #[P0 eb,P0 tb] w λw'=>R w':=by
 obtain⟨y,a0⟩:=o.cells 42 ag;obtain⟨c2,z2⟩:=u.cells 2 ag;have Z:=bj H;generalize i:E 42=Y at y;generalize G:Tk 2=y2 at c2;delta eL;go_in;go_wp2_with fail
 refine du Z λw2 J=>?_;have HR:=bj J;go_wp2
 go_end0;grind
def Pl.Iq(s:Pl):Pl:={ s with sp:=true }
def Jc(h:dZ p s g w)(ht:fm s t)(y:s.ev.length<=100000): eL 156 #[P0 p.eb,P0 (g.tb t)] w λw'=>∃r,Tr p s g w (s.mf t) (g.at 9 0 r) w':=by
 have u:Tr p s g w (s.dx t (s.T t).stop) g (w.setCell (ay (g.tb t) 2) (.bool false)):=by
  refine h.flag ht rfl rfl ?_ (bp (S:=λk=>k=g.tb t) (dw _ _) (af rfl) _);refine((h.tk ht).eC 2 _).congr (λj H=>?_);have i:∀a,sl (s.dx t (s.T t).stop) g a t=sl s g a t:=λa=>by
   unfold sl;rw[jX (s:=s) (s':=s.dx t (s.T t).stop) rfl rfl rfl rfl rfl (jx di) rfl]
  have J:=oU 6 j ag;rcases J with rfl|rfl|rfl|rfl|rfl|rfl|rfl
  .rfl
  .rw[eN _ _ _ _ ek];exact(i 12).symm
  .rw[gO];show _=Value.bool _;rw[di];rfl
  .rw[eN _ _ _ _ ek];show _=wF p g _;rw[di];rfl
  .rw[eN _ _ _ _ ek];show _=yL g t _;rw[di];rfl
  .rw[eN _ _ _ _ ek];show _=Value.int .i64 _;rw[di];rfl
  rw[eN _ _ _ _ ek];exact(i 5).symm
 have G:Tr p s g w (s.dx t (s.T t).stop).Iq g ((w.setCell (ay (g.tb t) 2) (.bool false)).setCell (ay p.eb 42) (.bool true)):=by
  refine u.trans (u.r.zm (s':=(s.dx t (s.T t).stop).Iq) rfl rfl rfl rfl rfl (λa b=>⟨rfl,rfl⟩) ?_ (bp (S:=λk=>k=p.eb) (dw _ _) (af rfl) _));refine(u.r.E.eC 42 _).congr (λj H=>?_);by_cases e:j=42
  .subst e;rw[gO];rfl
  rw[eN _ _ _ _ e];unfold iH;by_cases o:j<28
  .grind
  rw[au o,au o,au e,au e];rfl
 refine Jd p.eb (g.tb t) (iH p s g) (gz p s g t) (λw'=>∃r,Tr p s g w (s.mf t) (g.at 9 0 r) w') w h.E (h.tk ht) ?_;refine du (DC (t:=t) 5 0 G.r ht y) ?_;rintro w' ⟨r,W⟩;exact⟨rfl,r,G.trans W⟩
def zA(p:dL)(s:Pl)(g:eJ)(w:aa)(ty:Nat)(l:List B.V)(x:Int)(o:Bool)(w2:aa):Prop:=
 (o=true/\∃(c:Nat) (kd1:B.Kd) (g':eJ),x=(c:Int)/\1<=c/\c<=p.n/\kd1.on c=false/\B.lS kd1 p.n (eG p s) s.M/\IP (eG p s).length p.n (B.oi (eG p s) s.M) s.kd kd1/\Tr p s g w (s.oS kd1 c ty l) g' w2/\g'.tb=g.tb/\g'.fb=g.fb) \/
 (o=false/\(∀c,1<=c->c<=p.n->B.nK (eG p s) s.M c)/\∃(kd1:B.Kd) (g':eJ),B.lS kd1 p.n (eG p s) s.M/\Tr p s g w (s.vk kd1) g' w2/\g'.tb=g.tb)
def Ix{w':aa}{ty:Nat}{v:Value}(h:dZ p s g w)(i:dM (rA p.sb p.pb p.n s.kd (kE s g)) w w')(W:Laid w w' p.sb p.pb p.eb p.n (eG p s).length ty l s.kd (kE s g) (B.oi (eG p s) s.M) v): ∃(x:Int) (o:Bool),v=.tuple #[.agg #[aj x,aj 0],.bool o]/\zA p s g w ty l x o w':=by
 rcases W with⟨k,Z,e,h1,H,G,u,rfl,y,J⟩|⟨rfl,H,e,G,Y,y⟩
 .refine⟨_,_,rfl,af ⟨rfl,k+1,e,_,ag,ag,ag,H,G,u,h.MR (s':=s.oS e (k+1) ty l) (vb:=(kE s g).put (k+1) Z ty) rfl rfl rfl rfl rfl rfl rfl rfl rfl rfl rfl y i J,rfl,rfl⟩⟩
 exact⟨_,_,rfl,ah ⟨rfl,H,e,_,Y,h.MR (s':=s.vk e) (vb:=kE s g) rfl rfl rfl rfl rfl rfl rfl rfl rfl rfl rfl G i y,rfl⟩⟩
def Bd{a ty:Nat}(op b c:Nat)(hR:Rn p s t)(ha:a<p.rg (bw s t).f)(Y:s.ev.length<=100000): (∀x w2 u,zA p s g w ty l x true w2->w2.grownBy u none->eL 149 #[mD p s g t (op,a,b,c),.agg #[aj x,aj 0]] u λw'=>∃s' g',mM p s t a ty l s'/\Tr p s g w s' g' w') /\ (∀x w2 u,zA p s g w ty l x false w2->w2.grownBy u none->eL 156 #[P0 p.eb,P0 (g.tb t)] u λw'=>∃s' g',mM p s t a ty l s'/\Tr p s g w s' g' w'):=by
 constructor
 .intro x w2 u hS Z;rcases hS with⟨_,q,o,g',rfl,H,W,h3,J,h5,h6,h7,h8⟩|⟨h0,_⟩
  .have G:=h6.kept Z;have:=se (s:=s.oS o q ty l) (g:=g') (t:=t) (i:=de s t) (a:=a) op b c (g.tb t) p.eb (q,0) G.r hR.ht hR.hi ha;rw[h8]at this;refine du this λw' y=>?_;exact⟨rfl,_,g',af ⟨q,o,H,W,h3,J,h5,rfl⟩,G.trans y⟩
  cases h0
 intro x w2 u hS Z;rcases hS with⟨h0,_⟩|⟨_,H,o,g',W,h3,J⟩
 .cases h0
 have G:=h3.kept Z;have:=Jc (s:=s.vk o) (g:=g') (t:=t) G.r hR.ht Y;rw[J]at this;refine du this ?_;rintro w' ⟨r,y⟩;exact⟨rfl,_,_,ah ⟨H,o,W,rfl⟩,G.trans y⟩
def i9{a b c:Nat}(h:dZ p s g w)(hP:PW p)(hR:Rn p s t)(ha:a<p.rg (bw s t).f)(hb:b<=8)(a0:s.ev.length<=100000): dD 163 #[mD p s g t (op,a,b,c),P0 (p.ac+15)] w (aj 0) λw'=>∃s' g',mM p s t a 0 (List.replicate b (0,0)) s'/\Tr p s g w s' g' w':=by
 have H:=hP.box h.fix (j:=15) ag rfl;refine wu op a b c _ _ _ (p.ac+14) (p.ac+15) (λw'=>∃s' g',mM p s t a 0 (List.replicate b (0,0)) s'/\Tr p s g w s' g' w') w H.1 (λw1 J=>?_);have y:=h.kept J;obtain⟨E1,E2⟩:=Bd (w:=w1) (g:=g) (ty:=0) (l:=List.replicate b (0,0)) op b c hR ha a0;have a1:=Cv op a b c (g.fb t (de s t)) (g.tb t) p.eb (p.ac+14) (zA p s g w1 0 (List.replicate b (0,0))) (λw'=>∃s' g',mM p s t a 0 (List.replicate b (0,0)) s'/\Tr p s g w1 s' g' w') w1 (hP.box y.fix (j:=14) ag rfl).1 (λw2 G a2=>?_) E1 E2
 .refine du a1 ?_;rintro w' ⟨s',g',k1,k2⟩;exact⟨rfl,s',g',k1,k2.ahead J⟩
 have i:=y.kept G;refine(yH (th p s g) op a b c _ _ p.eb p.sb p.pb p.n (eG p s).length s.kd (kE s g) (B.oi (eG p s) s.M) w2 (Jl i hP hR.ok) hb (i.Hn hP) i.NF).mono ?_;rintro e w3 ⟨v,rfl,W,hL⟩;obtain⟨x,o,rfl,hS⟩:=Ix i W hL;refine⟨x,o,rfl,?_,W.block a2 (λhm=>?_)⟩
 .rcases hS with⟨e0,q,u,g',e1,H,Z,h3,Y,h5,h6,h7⟩|⟨e0,H,u,g',Z,h3,Y⟩
  .exact af ⟨e0,q,u,g',e1,H,Z,h3,Y,h5,h6.ahead G,h7⟩
  exact ah ⟨e0,H,u,g',Z,h3.ahead G,Y⟩
 have:=y.lt ⟨1,0,0,hm⟩;omega
def i12{a b c:Nat}(h:dZ p s g w)(hP:PW p)(hR:Rn p s t)(ha:a<p.rg (bw s t).f)(hb:b<256)(hc:c<p.rg (bw s t).f)(a0:s.ev.length<=100000): dD 163 #[mD p s g t (op,a,b,c),P0 (p.ac+17)] w (aj 0) λw'=>∃s' g',mM p s t a (b+1) [(bw s t).R c] s'/\Tr p s g w s' g' w':=by
 have H:=hP.box h.fix (j:=17) ag rfl;refine wu op a b c _ _ _ (p.ac+16) (p.ac+17) (λw'=>∃s' g',mM p s t a (b+1) [(bw s t).R c] s'/\Tr p s g w s' g' w') w H.1 (λw1 J=>?_);have y:=h.kept J;obtain⟨E1,E2⟩:=Bd (w:=w1) (g:=g) (ty:=b+1) (l:=[(bw s t).R c]) op b c hR ha a0;have a1:=Cu op a b c (g.fb t (de s t)) (g.tb t) p.eb (p.ac+16) (zA p s g w1 (b+1) [(bw s t).R c]) (λw'=>∃s' g',mM p s t a (b+1) [(bw s t).R c] s'/\Tr p s g w1 s' g' w') w1 (hP.box y.fix (j:=16) ag rfl).1 (λw2 G a2=>?_) E1 E2
 .refine du a1 ?_;rintro w' ⟨s',g',k1,k2⟩;exact⟨rfl,s',g',k1,k2.ahead J⟩
 have i:=y.kept G;refine(tj (th p s g) op a b c _ _ p.eb p.sb p.pb p.n (eG p s).length ((bw s t).R c) s.kd (kE s g) (B.oi (eG p s) s.M) w2 (Jl i hP hR.ok) hb (In.c i hR.iC op a b c _ _ hc) (i.Hn hP) i.NF).mono ?_;rintro e w3 ⟨v,rfl,W,hL⟩;obtain⟨x,o,rfl,hS⟩:=Ix i W hL;refine⟨x,o,rfl,?_,W.block a2 (λhm=>?_)⟩
 .rcases hS with⟨e0,q,u,g',e1,H,Z,h3,Y,h5,h6,h7⟩|⟨e0,H,u,g',Z,h3,Y⟩
  .exact af ⟨e0,q,u,g',e1,H,Z,h3,Y,h5,h6.ahead G,h7⟩
  exact ah ⟨e0,H,u,g',Z,h3.ahead G,Y⟩
 have:=y.lt ⟨1,0,0,hm⟩;omega
def i10{a b c:Nat}(h:dZ p s g w)(hP:PW p)(hR:Rn p s t)(u:a<p.rg (bw s t).f)(y:b<p.rg (bw s t).f)(o:c<p.rg (bw s t).f): Calls prog 101 #[mD p s g t (op,a,b,c)] w λe w'=>∃(why:Int) (s':Pl),e=.returned (aj why)/\kM p s t (10,a,b,c) why s'/\∃g',Tr p s g w s' g' w':=by
 refine(C7 op a b c _ _ p.eb _ _ _ _ _ p.sb p.pb p.n _ s.kd (kE s g) _ s.M w (In.fr h hR.iC) h.S (λi hi=>hR.ok.AF (hR.nM hi)) hP.n2 u y o (h.Hn hP) h.E.lt (h.E.ne (h.rg hR.ht hR.hi) ek)).mono ?_;rintro e w' (⟨k0,rfl,k1,k2⟩|⟨k0,rfl,k1⟩)
 .exact⟨0,_,rfl,af ⟨k0,rfl,rfl⟩,g,In.set h hR.iC k1 k2⟩
 exact⟨_,s,rfl,ah ⟨k0,rfl,rfl⟩,g,(Tr.refl h).kept k1⟩
def i11{a b c:Nat}(h:dZ p s g w)(hP:PW p)(hR:Rn p s t)(H:a<p.rg (bw s t).f)(J:b<p.rg (bw s t).f)(y:c<p.rg (bw s t).f): Calls prog 102 #[mD p s g t (op,a,b,c)] w λe w'=>∃(why:Int) (s':Pl),e=.returned (aj why)/\kM p s t (11,a,b,c) why s'/\∃g',Tr p s g w s' g' w':=by
 refine(C6 op a b c _ _ p.eb _ _ _ _ _ p.sb p.pb p.n (eG p s).length _ s.kd (kE s g) (B.oi (eG p s) s.M) _ w (In.fr h hR.iC) h.S hR.ok.hl (λi hi=>hR.ok.AF (hR.nM hi)) (λi hi Y=>B.pR.vO (hR.nM hi) Y) hP.n2 H J y (h.Hn hP) h.E.lt (λo=>h.NF (ah (ah o)))).mono ?_;rintro e w' (⟨k0,rfl,u,k1,k2,G,W⟩|⟨k0,rfl,k1⟩)
 .exact⟨0,s.ur ((bw s t).R a).1 ((bw s t).R b).2.toNat ((bw s t).R c),rfl,af ⟨k0,rfl,rfl⟩,_,h.MR (s':=s.ur ((bw s t).R a).1 ((bw s t).R b).2.toNat ((bw s t).R c)) (vb:=u) rfl rfl rfl rfl rfl rfl rfl rfl rfl rfl (jx W) k1 (k2.mono (λk o _=>ah (ah o))) G⟩
 exact⟨_,s,rfl,ah ⟨k0,rfl,rfl⟩,g,(Tr.refl h).kept k1⟩
def KH(h:dZ p s g w)(hP:PW p)(G:Ok p s)(o:p.wk<=50): eL 69 #[P0 p.sb,aj p.wk] w λw'=>∃g',Tr p s g w (s.jr p) g' w':=by
 refine du (Dk (th p s g) p.eb p.sb p.pb p.n (eG p s).length p.wk s.kd (kE s g) (B.oi (eG p s) s.M) w (Jl h hP G) o) ?_;rintro w' ⟨i,k1,k2,y,H,u⟩;exact⟨rfl,_,h.MR (s':=s.jr p) (vb:=i) rfl rfl rfl rfl rfl rfl rfl rfl rfl rfl (jx u) k1 y H⟩
def Lc(h:dZ p s g w)(hR:Rn p s t): dD 164 #[P0 (g.tb t)] w (P0 (g.fb t (de s t))) λw'=>w.grownBy w' none:=by
 have J:=AI hR.iC;have u:=h.row (x:=12) (y:=t) (by unfold fe;omega) (iE ag hR.ht);have i:eS s 12 t=de s t+1:=J;obtain⟨o,cap,he⟩:=ee u (kr i);rw[he,i]at u;have G:w.ownsRow 0 184 1 (dA o (de s t+1) cap) (de s t+1) (((List.range (s.T t).fr.length).map (g.fb t)).map P0):=u;have c1:w.cell? (ay (g.tb t) 1)=some (dA o (de s t+1) cap):=by
  rw[(h.tk hR.ht).cell 1 ag];show some (sl s g 12 t)=_;rw[he,i]
 have H:w.cell? (ay o (de s t))=some (P0 (g.fb t (de s t))):=(gZ G).2.2.2.2.2 (de s t) _ (by
  rw[eP,eP,gX hR.hi];rfl)
 exact Ld (g.tb t) o cap (de s t) (g.fb t (de s t)) w c1 H (gp hR.fw.n2)
def Kf(h:dZ p s g w)(hR:Rn p s t): dD 185 #[P0 (g.fb t (de s t))] w (.bool (decide ((bw s t).nx=p.len (bw s t).f))) λw'=>w.grownBy w' none:=
 C2 _ _ _ _ _ _ _ w (In.fr h hR.iC).1
def Le(h:dZ p s g w)(hP:PW p)(hR:Rn p s t)(hn:(bw s t).nx≠p.len (bw s t).f){a b c:Nat}(hi:p.ins (bw s t).f (bw s t).nx=(op,a,b,c)): dD 186 #[P0 (g.fb t (de s t))] w (yS op a b c) λw'=>Tr p s g w (s.gF t) g w':=by
 have o:=In.fr h hR.iC;have i:=hR.ff;obtain⟨G,H⟩:=hP.cd w h.fix (bw s t).f i.1;obtain⟨k0,k1,k2,u⟩:=H (bw s t).nx ag;rw[hi]at k0 k1 k2 u;refine du (DG _ _ _ _ _ _ op a b c _ w o.1 ag (hP.le _ i.1) G k0 k1 k2 u) ?_;rintro w' ⟨y,J⟩;exact⟨rfl,In.next h hR.iC y ⟨J,o.2.1.block (y.block _ o.2.1.lt (by intro e;injection e with e;exact o.2.2 e.symm)),o.2.2⟩⟩
def CL(v:B.V)(h:dZ p s g w)(hP:PW p)(hR:Rn p s t)(i:s.ev.length<=100000): eL 107 #[P0 (g.tb t),vA v] w λw'=>∃g',Tr p s g w (s.back t v) g' w':=by
 have hn:=hR.fw.n2;have o:=hR.ok.kl;have u:=hP.n2;refine vZ v h hR.ok.lw hR.ok.ww hR.ht hR.lf hR.wh hR.fw.n1 ag hR.lv hR.ok.nd hR.ok.lt hR.ok.ol ag i (λe=>?_);have:=hR.fw.b (de s t-1) (gp hR.hi);rw[show de s t-1+1=de s t by omega]at this;exact this
def Mg{why:Nat}(hw:why<=8)(h:dZ p s g w)(hP:PW p)(hR:Rn p s t)(i:s.ev.length<=100000): eL 187 #[P0 p.eb,P0 (g.tb t),aj why] w λw'=>∃g',Tr p s g w (s.leave t (0,-(why:Int)) 3 why) g' w':=by
 have o:=hR.ok.kl;have u:=hP.n2;exact Mf hw h hR.ok.lw hR.ok.ww hR.ht hR.lv hR.ok.nd hR.ok.lt hR.ok.ol ag i
def Ki(p:dL)(s:Pl)(g:eJ)(w:aa)(t n:Nat)(wr:aa):Prop:=
 ∃s1 g1 k,Tr p s g w s1 g1 wr/\Rn p s1 t/\s1.ev=s.ev/\(s1.T t).fr.length<=k/\s1.ends p t k=s.ends p t 21/\(s1.T t).fr.length=n
def CU(i:0<k)(h:(bw s t).nx≠p.len (bw s t).f):s.ends p t k=s:=by
 cases k with
 | zero=>omega
 | succ k=>unfold Pl.ends;rw[au (λe=>h e.2)]
def wm(e:(s.T t).run=true)(h:(bw s t).nx=p.len (bw s t).f):s.ends p t (k+1)=(s.back t (0,0)).ends p t k:=by
 show(if(s.T t).run=true/\(bw s t).nx=p.len (bw s t).f then Pl.ends p t k (s.back t (0,0)) else s)=_;rw[bf ⟨e,h⟩]
def CT(k:Nat)(i:(s.T t).run=false):s.ends p t k=s:=by
 cases k with
 | zero=>rfl
 | succ k=>unfold Pl.ends;rw[au (λe=>by rw[i]at e;cases e.1)]
theorem dZ.run{p:dL}{s:Pl}{g:eJ}{w:aa}{t:Nat}(h:dZ p s g w)(ht:fm s t){b:Bool}(e:(s.T t).run=b):w.cell? (ay (g.tb t) 2)=some (.bool b):=by
 rw[(h.tk ht).cell 2 ag];show some (Value.bool (s.T t).run)=_;rw[e]
def BP(s:Pl)(t:Nat):de (s.gF t) t=de s t:=by
 unfold de;rw[show((s.gF t).T t).fr.length=(s.T t).fr.length from(gI s t (de s t) t { bw s t with nx:=(bw s t).nx+1 }).2.2.2.2]
def MK(fn:Nat)(l:List Value):Prop:=
 ((fn=101\/fn=102\/fn=104\/fn=108)/\l=[])\/(∃b,(fn=163\/fn=151)/\l=[P0 b])\/∃b c,fn=167/\l=[P0 b,P0 c]
def qg(b:Nat):MK 163 [P0 b]:=ah (af ⟨b,af rfl,rfl⟩)
def Bt(b:Nat):MK 151 [P0 b]:=ah (af ⟨b,ah rfl,rfl⟩)
def zj(b c:Nat):MK 167 [P0 b,P0 c]:=ah (ah ⟨b,c,rfl,rfl⟩)
def Fa{n:Nat}(h:n=101\/n=102\/n=104\/n=108):MK n []:=af ⟨h,rfl⟩
def mi{fn:Nat}{l:List Value}(aT:MK fn l){a b c:Nat}(h:dZ p s g w)(hP:PW p)(hR:Rn p s t)(aP:s.ev.length<=1000)(bH:op<23)(hi:((s.ends p t 21).T t).run=true->p.ins (bw (s.ends p t 21) t).f (bw (s.ends p t 21) t).nx=(op,a,b,c)/\p.E0 (4+op)=Fv fn l.toArray)(hc:((s.ends p t 21).T t).run=true->∀g1 w1,dZ p ((s.ends p t 21).gF t) g1 w1->Rn p ((s.ends p t 21).gF t) t->Calls prog fn (mD p ((s.ends p t 21).gF t) g1 t (op,a,b,c) :: l).toArray w1 λe w'=>∃(why:Int) (s3:Pl),e=.returned (aj why)/\kM p ((s.ends p t 21).gF t) t (op,a,b,c) why s3/\∃g',Tr p ((s.ends p t 21).gF t) g1 w1 s3 g' w'): eL 134 #[P0 p.eb,P0 (g.tb t)] w λw'=>∃s' g',jz p t s s'/\Tr p s g w s' g' w':=by
 have HF:=bj aT;have HC:=bj hc;have HI:=bj hi;have HE:=bj aP;have HP:=bj hP;have aF:=bj hR.ht;have b5:Hid (Ki p s g w t (s.T t).fr.length w):=⟨s,g,21,Tr.refl h,hR,rfl,dU hR.fw.n2 ag,rfl,rfl⟩;clear aT hc hi aP hP hR h;delta eL;go_in;go_wp2_with fail
 go_loopg [] ((s.T t).fr.length) (λn wr=>Hid (Ki p s g w t n wr))
 case atStart=>exact b5
 case round=>
  obtain⟨s1,g1,k,hT,aE,aN,aZ,hS,aQ⟩:=hrel.out;have aL:=hT.t t aF.out;have o:=Lc hT.r aE;rw[aL]at o;have u:=bj o;have KT:=bj hT;have i:=bj aE;have KK:=bj (bh aN (bh aZ (bh hS aQ)));have aC:=bj aL;clear o hT aE aN aZ hS aQ aL b5;go_wp2_with fail
  refine du u λw1 aS=>?_;have aY:=bj aS;clear aS u;go_wp2_with fail
  refine du (Kf (KT.out.r.kept aY.out) i.out) λw2 aO=>?_;have aB:=bj (ar aY.out aO);clear aO;by_cases hd:(bw s1 t).nx=p.len (bw s1 t).f
  .have a0:decide ((bw s1 t).nx=p.len (bw s1 t).f)=true:=gG hd;have HD:=bj hd;simp only[a0];clear hd a0;go_wp2_with fail
   refine du (fG 0 _) ?_;rintro w3 rfl;go_wp2_with fail
   have a3:=bj (ax aB.out (.cells #[aj 0,aj 0] 149));have a6:=CL (0,0) (KT.out.r.kept a3.out) HP.out i.out (by rw[KK.out.1];have:=HE.out;omega);rw[aC.out]at a6;refine du a6 ?_;rintro w4 ⟨g4,J⟩;have y:=(KT.out.kept a3.out).trans J;have G:=y.t t aF.out;have hB:=i.out.ok.back i.out.lv i.out.wh (dW.num (s:=s1) 0);have W:=od i.out.ok.lw i.out.ht (0,0);have a2:=nz s1 t (0,0);have a4:fm (s1.back t (0,0)) t:=by
    by_cases e0:de s1 t=0
    .exact(ey (a2.1 e0).2.2).2 i.out.ht
    exact(ey (a2.2 e0).2.2.1).2 i.out.ht
   by_cases e0:de s1 t=0
   .have c2:=y.r.run a4 (W.1 e0);rw[G]at c2;have aG:=bj y;have Y:s.ends p t 21=s1.back t (0,0):=by
     obtain⟨_,q2,q3,_⟩:=KK.out;obtain⟨k',rfl⟩:∃k',k=k'+1:=⟨k-1,gp i.out.hi⟩;rw[wm i.out.run HD.out,CT k' (W.1 e0)]at q3;exact q3.symm
    have a1:=bj (bh Y (W.1 e0));clear a6 J y G hB W a2 a4 e0 Y;go_wp2_with fail
    refine dg (results_none rfl _ _ _) rfl ?_;refine⟨rfl,s1.back t (0,0),g4,?_,?_⟩
    .unfold jz;rw[a1.out.1,au (by rw[a1.out.2];decide)]
    first|exact aG.out|exact aG.out.kept (bo (aw _ _))|exact aG.out.kept (df (aw _ _) _)
   obtain⟨r1,r2⟩:=W.2 e0;obtain⟨b1,b2,b3,b4⟩:=a2.2 e0;have c2:=y.r.run a4 (r1.trans i.out.run);rw[G]at c2;have aW:∀w5,w4.grownBy w5 none->Ki p s g w t ((s1.T t).fr.length-1) w5:=λw5 bJ=>by
    obtain⟨q1,q2,q3,q4⟩:=KK.out;obtain⟨k',rfl⟩:∃k',k=k'+1:=⟨k-1,gp i.out.hi⟩;rw[wm i.out.run HD.out]at q3;exact⟨s1.back t (0,0),g4,k',y.kept bJ,⟨hB,eV b1 i.out.lv,r1.trans i.out.run⟩,b2.trans q1,kr r2,q3,r2⟩
   have aI:=bj aW;clear a6 J y G hB W a2 a4 e0 r1 r2 b1 b2 b3 b4 aW;go_wp2_with fail
   go_roundg ((s1.T t).fr.length-1)
   case measure=>
    have q4:=KK.out.2.2.2;have q5:=i.out.hi;omega
   case rel=>first|exact aI.out _ (aw _ _)|exact aI.out _ (bo (aw _ _))|exact aI.out _ (df (aw _ _) _)
  have a0:decide ((bw s1 t).nx=p.len (bw s1 t).f)=false:=gG hd;have Y:s.ends p t 21=s1:=by
   obtain⟨_,q2,q3,_⟩:=KK.out;rw[<-q3];exact CU (gp i.out.hi) hd
  rw[Y]at HC HI;have aX:=bj (HC.out i.out.run);obtain⟨aR,aU⟩:=HI.out i.out.run;have aD:=bj aR;have bE:=bj aU;have HD:=bj hd;have a1:=bj Y;have o:=Lc (KT.out.r.kept aB.out) i.out;rw[aC.out]at o;have u:=bj o;simp only[a0];clear hd a0 Y HC HI aR aU o;go_wp2_with fail
  refine du u λw3 aM=>?_;have a3:=bj (ar aB.out aM);clear aM u;go_wp2_with fail
  refine du (Le (KT.out.r.kept a3.out) HP.out i.out HD.out aD.out) λw4 J=>?_;have b8:=bj ((KT.out.kept a3.out).trans J);clear J;have aA:g1.fb t (de (s1.gF t) t)=g1.fb t (de s1 t):=by rw[BP]
  generalize bD:g1.fb t (de s1 t)=fb at *;have bK:=bj aA;clear aA bD;go_wp2_with fail
  have HX:=bj (iN w4 op a b c fb (g.tb t) p.eb);have bC:=bj (ak w4 (.cells #[dy (op:Int),dy (a:Int),dy (b:Int),dy (c:Int),P0 fb,P0 (g.tb t),P0 p.eb] 186) none);have bF:(w4.alloc (.cells #[dy (op:Int),dy (a:Int),dy (b:Int),dy (c:Int),P0 fb,P0 (g.tb t),P0 p.eb] 186)).heap.size=w4.heap.size+1:=eB
  generalize hW:w4.alloc (.cells #[dy (op:Int),dy (a:Int),dy (b:Int),dy (c:Int),P0 fb,P0 (g.tb t),P0 p.eb] 186)=w5 at *;clear hW;obtain⟨x0,x1,x2,x3,x4,x5,x6⟩:=eZ HX.out;have a5:=bj (b8.out.kept bC.out);have e5:w5.cell? (ay p.eb (4+op))=some (Fv fn l.toArray):=by
   rw[a5.out.r.E.cell (4+op) ag];unfold iH;rw[mm,bE.out]
  have bM:(op:Int)<23:=ag;have H:=aX.out g1 w5.drew (a5.out.kept (bo (aw _ _))).r (oy i.out HD.out).1;have a9:mD p (s1.gF t) g1 t (op,a,b,c)=ed op a b c fb (g.tb t) p.eb:=by
   show ed op a b c (g1.fb t (de (s1.gF t) t)) (g1.tb t) p.eb=_;rw[bK.out,aC.out]
  rw[a9]at H;have aV:=bj H;have bG:=HP;clear H a9 aX;rcases HF.out with⟨rfl|rfl|rfl|rfl,rfl⟩|⟨b1,rfl|rfl,rfl⟩|⟨b1,b2,rfl,rfl⟩
  all_goals
   clear HF;go_region_with ((first|go_at_call 101|go_at_call 102|go_at_call 104|go_at_call 108|go_at_call 163|go_at_call 151|go_at_call 167);refine aV.out.mono ?_;rintro e w6 ⟨why,s3,rfl,a8,g6,b0⟩;have aH:=bj a8;have bA:=bj b0;clear a8 b0)
   all_goals
    have a7:=bj ((a5.out.kept (bo (aw _ _))).trans bA.out);clear aV e5 x0 x1 x2 x3 x4 x5 x6 HX bF;by_cases Z:why=0
    .subst Z;have aK:Hid (jz p t s s3):=by
      show jz p t s s3;unfold jz;rw[a1.out,bf i.out.run];exact⟨0,s3,eV aD.out aH.out,by rw[bf rfl]⟩
     go_wp2_with fail
     go_end0;exact⟨rfl,s3,g6,aK.out,a7.out⟩
    obtain⟨v1,v2,v3⟩:=px (show((op,a,b,c):vF).1<23 from bH) aH.out;obtain⟨n8,bB⟩:∃n8:Nat,why=(n8:Int):=⟨why.toNat,ag⟩;have b9:=v3 Z;subst b9;subst bB;have aK:Hid (jz p t s ((s1.gF t).leave t (0,-(n8:Int)) 3 n8)):=by
     show jz p t s _;unfold jz;rw[a1.out,bf i.out.run];exact⟨n8,s1.gF t,eV aD.out aH.out,by rw[au Z]⟩
    have aJ:=Mg (why:=n8) ag a7.out.r bG.out (oy i.out HD.out).1 (by show s1.ev.length<=_;rw[KK.out.1];have:=HE.out;omega);rw[show g6.tb t=g.tb t from a7.out.t t aF.out]at aJ;have bI:=bj aJ;have bQ:=Z;clear aJ v1 v2 v3 Z;go_wp2_with fail
    refine du bI ?_;rintro w7 ⟨g7,b6⟩;have bL:=bj (a7.out.trans b6);clear b6;go_wp2_with fail
    go_end0;exact⟨rfl,_,g7,aK.out,bL.out⟩
