import Derived.Test.YtnjiinbhbjpfkaaGreatDoorAY
import Derived.Test.YtnjiinbhbjpfkaaGreatDoorAe
import Derived.Test.YtnjiinbhbjpfkaaGreatDoorAZ
set_option maxRecDepth 100000
set_option maxHeartbeats 0
set_option linter.all false
namespace Go.Proofs.YtnjiinbhbjpfkaaGreatDoor
open Go.RowKit Go.Proofs.Tryz
namespace D
open F
variable {p:dH}{d:Dp}{K:Nat}{s:Pl}{m m':Dm}{g g':Dg}{w w':aa}{ρ:Nat->Nat}
theorem DT{w:aa}{e:TypeId}{ad:Option Addr}{n c:Nat}{xs:List Value}(h:gj w e (.slice ad n c) xs):n=xs.length/\(xs≠[]->∃b off,ad=some (az b off)/\b<w.heap.size/\∀(j:Nat) u,xs[j]?=some u->w.cell? (az b<|off+j)=some u):=by
 rcases h with⟨i,y⟩|⟨g,off,cap,H,P,i,y,h3,J,o,hP⟩
 .grind
 injection i with a b W;refine⟨b,λ_=>⟨g,off,a,o.lt,λj u G=>?_⟩⟩;grind[Full.cell]
theorem zW{l:List Nat}{i a:Nat}(f:Nat->Bool)(h:l[i]?=some a):(l.take<|i+1).filter f=(l.take i).filter f++if f a=true then[a] else[]:=by
 rw[List.take_add_one,h,List.filter_append];grind
def O3(w0 wr:aa)(ad:Option Addr)(n c:Nat)(xs:List Nat):Prop:=gj wr 3 (.slice ad n c) (ke xs)/\(∀k,fk ad=some k->w0.heap.size<=k)/\w0.grownBy wr none
theorem dZ.Ni{p:Dp}(h:dZ p m g w){t tb:Nat}(ht:nF m t)(o:g.ro 1 0=(some<|az tb 0,(g.ro 1 0).2)):Tr p m g w (m.dy t<|((m.T t).hw 5).mR []) (g.at 5 t (none,0)) ((w.setCell (az tb<|(t-1)*8+1)<|ah 5).setCell (az tb<|(t-1)*8)<|.slice none 0 0):=by
 have y:∀i:Nat,i<8->i=0\/i=1\/i=2\/i=3\/i=4\/i=5\/i=6\/i=7:=λi hi=>by omega
 have u:Tr p m g w (m.dy t<|(m.T t).hw 5) g (iA w tb ((t-1)*8+1)<|ah 5):=h.tG ht o 1 af _ rfl (λi hi=>by (have h':=y i hi;repeat' rcases h' with rfl|h')<;>rfl);have e:=u.r.shrink (t:=t) ht o (j:=0) (di _) (r:=(none,0))<|ak ⟨rfl,rfl⟩;grind[kj,gn,D.Tr.trans]
theorem dZ.Nj{p:Dp}(h:dZ p m g w){t tb:Nat}(ht:nF m t)(o:g.ro 1 0=(some<|az tb 0,(g.ro 1 0).2))(v:B.V):Tr p m g w (m.dy t {m.T t with out:=v}) g ((w.setCell (az tb<|(t-1)*8+6)<|ah v.1).setCell (az tb<|(t-1)*8+7)<|ah v.2):=by
 have u:∀i:Nat,i<8->i=0\/i=1\/i=2\/i=3\/i=4\/i=5\/i=6\/i=7:=λi hi=>by omega
 have y:Tr p m g w (m.dy t {m.T t with out:=(v.1,(m.T t).out.2)}) g (iA w tb ((t-1)*8+6)<|ah v.1):=h.tG ht o 6 af _ rfl (λi hi=>by (have h':=u i hi;repeat' rcases h' with rfl|h')<;>rfl);have e:=y.r.tG (t:=t) ht o 7 af (ah v.2) (x':={m.T t with out:=v}) (by rw[gn]) (λi hi=>by rw[gn];(have h':=u i hi;repeat' rcases h' with rfl|h')<;>rfl);grind[kj,D.Tr.trans]
theorem Tr.other{p:Dp}(h:Tr p m g w m' g' w'){k:Nat}{o:Obj}(e:w.heap[k]?=some o)(hn:¬eJ p m g k):w'.heap[k]?=some o/\¬eJ p m' g' k:=
 ⟨h.o.block e hn,λi=>(h.m k i).elim hn<|λu=>by grind⟩
def OZ(p:dH)(d:Dp)(K:Nat)(s:Pl)(m:Dm)(g:Dg)(w:aa)(ρ:Nat->Nat)(t:Nat)(v:B.V)(x:Nat)(o:Obj)(n b:Nat)(wr:aa):Prop:=
 ∃s1 m1 g1,(wr.heap[x]?=some o/\¬eJ d m1 g1 x)/\(s1.q 5 t).length=n/\Tr d m g w m1 g1 wr/\eF p K s1 m1 ρ/\Ok p s1/\s1.nt=s.nt/\(v.1=0\/v∈s1.kp)/\s1.ep v (s1.q 5 t)=s.ep v (s.q 5 t)/\((b=0/\s1.q 5 t=[])\/∃l,s1.q 5 t=b :: l)
theorem A9{t n x:Nat}{o:Obj}{v:B.V}{s1:Pl}{m1:Dm}{g1:Dg}{wr:aa}(W:g1.mb=g.mb)(hx:wr.heap[x]?=some o/\¬eJ d m1 g1 x)(J:(s1.q 5 t).length=n)(h:Tr d m g w m1 g1 wr)(hS:eF p K s1 m1 ρ)(i:Ok p s1)(hn:s1.nt=s.nt)(ht:ft s t)(H:v.1=0\/v∈s1.kp)(he:s1.ep v (s1.q 5 t)=s.ep v (s.q 5 t)):Calls prog 192 #[P0 g.mb,ah 4,ah t] wr λe w'=>∃b:Nat,e=.returned (ah b)/\b<=s.nt/\OZ p d K s m g w ρ t v x o n b w':=by
 rw[<-W];refine(A1 h.r (by rw[hS.nt,hn];have:=ht.1;have:=ht.2;omega) 4 t).mono ?_;rintro e w' ⟨b,rfl,Y,y,u⟩;exact⟨b,rfl,by grind[D.eF.nt],s1,m1,g1,⟨da u hx.1 ey,hx.2⟩,J,h.kept u,hS,i,hn,H,he,hS.first i (ak<|ak<|ak ⟨rfl,(eB hn).2 ht⟩) (ak rfl) y⟩
theorem GZ{t n b x:Nat}{o:Obj}{v:B.V}{wr:aa}(hP:PD p d)(h:OZ p d K s m g w ρ t v x o n b wr)(hb:b≠0)(ht:ft s t):eN 144 #[P0 g.mb,ah b,vA<|tr ρ v] wr λw'=>∃s1 m1 g1,g1.mb=g.mb/\(w'.heap[x]?=some o/\¬eJ d m1 g1 x)/\n=(s1.q 5 t).length+1/\Tr d m g w m1 g1 w'/\eF p K s1 m1 ρ/\Ok p s1/\s1.nt=s.nt/\(v.1=0\/v∈s1.kp)/\s1.ep v (s1.q 5 t)=s.ep v (s.q 5 t):=by
 obtain⟨s1,m1,g1,hx,h0,h1,W,G,h4,h5,h6,h7⟩:=h;obtain⟨l,hq⟩:∃l,s1.q 5 t=b :: l:=h7.resolve_left<|λe=>hb e.1;have hl:fQ s1 5 t:=ak<|ak<|ak ⟨rfl,(eB h4).2 ht⟩;have a0:b∈s1.q 5 t:=by rw[hq];simp
 have u:=G.ql 5 t hl b a0;let⟨H,J⟩:=G.lw.b 5 t hl b a0;let⟨k,k1,k2,k3⟩:=G.ww b H 5 t J<|ak rfl;let⟨_,_,i,i1,i2⟩:=(W.T b u).h.h5 t J;rw[k1]at i1;injection i1 with i1;subst i1;have hT:=W.T b u;have Y:=G.fw b u trivial;have a1:(s1.T b).fr.length≠0:=λe=>k2<|dh.1 e;have hv:dV p s1 v:=h5.elim (λe=>ag e)<|λe=>dV.root<|ak e;have a3:m1.q.length<=1000000000:=by
  rw[W.q];have:=G.lw.len (x:=2) (y:=0)<|ag ⟨rfl,rfl⟩;omega
 have a5:(qz m1 b).f=(du s1 b<|(s1.T b).fr.length-1).f:=by
  unfold qz qE;rw[hT.l];exact(hT.f _ af).f
 rw[<-h1.b];refine(AB (tr ρ v) h1.r ((iP W b).2 H) (by rw[W.nt];have:=G.lw.d;omega) a3<|λ_=>⟨eZ hT.l a1,eZ hT.l Y.n2,?_⟩).mono ?_
 .grind[Int.toNat_natCast,du,D.PD.rg,F.FW.f]
 rintro e w' ⟨rfl,g',h'⟩;have Z:(s1.gk b v).q 5 t=l:=by
  rw[qd v k1];have a2:((s1.dM b (de s1 b)<|(du s1 b<|de s1 b).set k.2.1 v).T b).wh=some (5,t):=by rw[(gO _ _ _ _ _).1];exact J
  generalize hX:s1.dM b (de s1 b) ((du s1 b<|de s1 b).set k.2.1 v)=X at*;have e1:(X.dX 2 0 b).q 5 t=(X.dA b).q 5 t:=gf (X.dA b) (x:=2) (y:=0) (a:=5) (b:=t) ((X.dA b).q 2 0++[b]) af;have e2:((X.fI 5 t<|(X.q 5 t).erase b).dy b (X.T b).off).q 5 t=(X.q 5 t).erase b:=gM X 5 t _;rw[e1,gP a2,e2,<-hX];show(s1.q 5 t).erase b=l;rw[hq];simp
 refine⟨rfl,s1.gk b v,m1.ready b<|tr ρ v,g',by rw[h'.b,h1.b],h'.other hx.1 hx.2,ey,h1.trans h',W.gk G u trivial k1 i2 hv,G.gk H (λ_=>trivial) hv,(oK s1 b v).trans h4,?_,?_⟩
 .grind[pZ]
 rw[Z,<-h6,hq];rfl
theorem Nk{t kind:Nat}{x:Int}{v:B.V}(hP:PD p d)(h:dZ d m g w)(ht:ft s t)(hO:Ok p s)(hS:eF p K s (m.gone t kind x<|tr ρ v) ρ)(hv:v.1=0\/v∈s.kp)(hq:m.q.length<=1000000000)(he:m.ev.length<=100000):eN 196 #[P0 g.mb,ah t,ah kind,ah x,vA<|tr ρ v] w λw'=>∃m' g',Tr d m g w m' g' w'/\eF p K (s.ep v<|s.q 5 t) m' ρ:=by
 obtain⟨i0,hi,bM,b8,bR⟩:=info_parts Tryz.th;have a6:m.nt=s.nt:=hS.nt;have Z:nF m t:=by unfold nF;rw[a6];exact ht
 have hn:m.nt<1000000000:=by rw[a6];have:=hO.lw.d;omega
 have bI:m.gone t kind x (tr ρ v)=((m.dy t<|(m.T t).end (tr ρ v)).fI<|m.q.filter<|λu=>decide (u≠t)).told kind t x:=rfl;obtain⟨k,rfl⟩:∃k,t=k+1:=⟨t-1,af⟩;obtain⟨tb,e1,hT,tc⟩:=h.tc Z;have c6:w.cell? ⟨g.mb,6,none⟩=some (.slice (some ⟨tb,0,none⟩) m.nt (g.ro 1 0).2):=by
  rw[show some (⟨tb,0,none⟩:Addr)=(g.ro 1 0).1 by rw[e1]];exact(h.mc 6 af rfl).1
 obtain⟨t0,z0⟩:=tc.c 0 af;obtain⟨t1,z1⟩:=tc.c 1 af;rw[Nat.add_zero,dF]at t0 z0;rw[dF]at t1 z1;have ne:=h.M.ne hT eo;have lr:=an w _ c6;have lt:=an w _ t1;have q5:=fm (n:=k) af;have q7:(0:Int)<=k:=af
 have q8:(k:Int)<m.nt:=af
 have q6:IntKind.i64.wrap (k:Int)=k:=jA
 have a3:=bj<|((h.Ni Z e1).kept<|aj _ (.cells #[ah ((tr ρ v).1:Int),ah (tr ρ v).2] 115) none);rw[dF]at a3;have b2:Hid (¬eJ d (m.dy (k+1)<|(m.T<|k+1).end (tr ρ v)) (g.at 5 (k+1) (none,0)) w.heap.size):=by
  have h1:=h.Ni Z e1;have h2:=h1.r.Nj (t:=k+1) (tb:=tb) Z (by rw[sr g _ af];exact e1)<|tr ρ v;rw[kj,gn]at h2;exact h2.r.fresh<|by simp[World.setCell]
 have aO:=bj e1;have HP:=bj hP;have HO:=bj hO;have HS:=bj hS;have HV:=bj hv;have HD:=bj Z;have HN:=bj ht;have bT:=bj hq;have bB:=bj he;clear h hP hO hS hv hq he bI tc hT Z a6 e1;delta eN;go_in;go_wp2_with fail
 have a1:=bl (iA (iA w tb (k*8+1)<|ah 5) tb (k*8)<|.slice none 0 0)<|.cells #[ah ((tr ρ v).1:Int),ah (tr ρ v).2] 115;have b7:(iA (iA w tb (k*8+1)<|ah 5) tb (k*8)<|.slice none 0 0).heap.size=w.heap.size:=by simp[World.setCell]
 rw[b7]at a1;generalize ((iA (iA w tb (k*8+1)<|ah 5) tb (k*8)<|.slice none 0 0).alloc<|.cells #[ah ((tr ρ v).1:Int),ah (tr ρ v).2] 115)=w2 at*;clear t0 z0 t1 z1 c6 b7;have aI:Hid (nF (m.dy (k+1)<|((m.T<|k+1).hw 5).mR [])<|k+1):=HD.out;obtain⟨y,J,b9,aR⟩:=a3.out.r.tc aI.out;have bK:y=tb:=by
  rw[sr g _ af]at J;rw[aO.out]at J;injection J with J _;injection J with J;injection J with J _;exact J.symm
 subst bK;have c6:w2.cell? ⟨g.mb,6,none⟩=some (.slice (some ⟨y,0,none⟩) m.nt (g.ro 1 0).2):=(a3.out.r.mc 6 af (v:=.slice (some ⟨y,0,none⟩) m.nt (g.ro 1 0).2) (by
  show Value.slice ((g.at 5 (k+1) (none,0)).ro 1 0).1 _ ((g.at 5 (k+1) (none,0)).ro 1 0).2=_;rw[sr g _ af,aO.out];rfl)).1
 obtain⟨t6,z6⟩:=aR.c 6 af;obtain⟨t7,z7⟩:=aR.c 7 af;rw[dF]at t6 z6 t7 z7;have bS:=an w2 _ c6;have HB:=bj a1;have b0:w2.cell? ⟨w.heap.size,0,none⟩=some (ah ((tr ρ v).1:Int)):=fj a1
 have b1:w2.cell? ⟨w.heap.size,1,none⟩=some (ah (tr ρ v).2):=fj a1
 have n1:w.heap.size≠y:=af
 have aJ:=bj<|a3.out.trans<|a3.out.r.Nj (t:=k+1) (tb:=y) aI.out (by rw[sr g _ af];exact aO.out)<|tr ρ v;rw[dF]at aJ;generalize tC ((m.dy (k+1)<|((m.T<|k+1).hw 5).mR []).T<|k+1) (js (m.dy (k+1)<|((m.T<|k+1).hw 5).mR []) (g.at 5 (k+1) (none,0)) 5<|k+1) 6=o6 at t6;generalize tC ((m.dy (k+1)<|((m.T<|k+1).hw 5).mR []).T<|k+1) (js (m.dy (k+1)<|((m.T<|k+1).hw 5).mR []) (g.at 5 (k+1) (none,0)) 5<|k+1) 7=o7 at t7;clear b9 aR J a1;generalize aS:g.mb=rb at*;have a4:=bj aS;clear aS;generalize (g.ro 1 0).2=a5 at*;have g1:∀{W:aa} {o:Nat} {u:Value},W.cell? ⟨rb,6,none⟩=some (.slice (some ⟨y,0,none⟩) m.nt a5)->(iA W y o u).cell? ⟨rb,6,none⟩=some (.slice (some ⟨y,0,none⟩) m.nt a5):=λhW=>(bd (a:=⟨rb,6,none⟩)<|ab _ _ _ _ ne).trans hW;go_region_held3 (λw'=>w'.cell? ⟨rb,6,none⟩=some (.slice (some ⟨y,0,none⟩) m.nt a5)/\w'.cell? ⟨w.heap.size,0,none⟩=some (ah ((tr ρ v).1:Int))/\w'.cell? ⟨w.heap.size,1,none⟩=some (ah (tr ρ v).2)) (first|exact⟨c6,b0,b1⟩|(refine⟨?_,?_,?_⟩<;>(first|assumption|(simp[*,go_sem])))) (fail)
 have G:Hid (Tr d m g w (m.dy (k+1)<|(m.T<|k+1).end (tr ρ v)) (g.at 5 (k+1) (none,0)) (iA (iA w2 y (k*8+6)<|ah ((tr ρ v).1:Int)) y (k*8+6+1)<|ah (tr ρ v).2).drew):=by
  have h3:=aJ.out;rw[kj,gn]at h3;exact h3.kept<|bo<|aw _ none
 have aX:Hid ((iA (iA w2 y (k*8+6)<|ah ((tr ρ v).1:Int)) y (k*8+6+1)<|ah (tr ρ v).2).drew.heap[w.heap.size]?=ny #[ah ((tr ρ v).1:Int),ah (tr ρ v).2] 115):=by
  show(World.setCell _ _ _).heap[w.heap.size]?=_;rw[ab _ _ _ _ n1,ab _ _ _ _ n1];exact HB.out
 generalize ((iA w2 y (k*8+6)<|ah ((tr ρ v).1:Int)).setCell ⟨y,k*8+6+1,none⟩<|ah (tr ρ v).2).drew=w3 at*;clear aJ a3 aI HB t6 z6 t7 z7 c6 b0 b1 bS n1 g1 w2;have a2:=bj<|G.out.b.trans a4.out;have c7:w3.cell? ⟨rb,7,none⟩=some (.slice (g.ro 2 0).1 m.q.length (g.ro 2 0).2):=by
  have:=(G.out.r.mc 7 af (v:=.slice (g.ro 2 0).1 m.q.length (g.ro 2 0).2) (by
   show Value.slice ((g.at 5 (k+1) (none,0)).ro 2 0).1 _ ((g.at 5 (k+1) (none,0)).ro 2 0).2=_;rw[sr g _ af];rfl)).1
  rw[a2.out]at this;exact this
 have HQ:Hid (gj w3 3 (.slice (g.ro 2 0).1 m.q.length (g.ro 2 0).2)<|ke m.q):=by
  have:=G.out.r.Q;unfold js at this;rw[sr g _ af]at this;exact this
 obtain⟨_,aZ⟩:=DT HQ.out;have aY:=bj aZ;clear aZ;have l3:=an w3 _ c7;generalize (g.ro 2 0).1=qa at*;generalize (g.ro 2 0).2=qc at*;have c2:(m.q.length:Int)<=1000000000:=gD bT.out
 go_wp2_with fail
 go_loopw[10,11] (λq i wr=>∃(I n c:Nat) (ad:Option Addr) (H:List Nat),q=.slice ad n c/\i=ah I/\I<=m.q.length/\n=H.length/\n<=I/\Hid (H=(m.q.take I).filter (λu=>decide (u≠k+1)))/\Hid (O3 w3 wr ad n c H)) (λ_ i _=>m.q.length-(intOf i).toNat)
 case atStart=>exact⟨0,0,0,none,[],rfl,rfl,af,rfl,af,rfl,gj.nil _ _,(λk hk=>by cases hk),aw _ _⟩
 case round=>
  obtain⟨I,n,c,ad,H,rfl,rfl,hI,bA,bG,rX,rL⟩:=hrel;subst bA;obtain⟨L1,L2,L3⟩:=rL.out;have d7:=(ay L3 (a:=⟨rb,7,none⟩) l3).1.trans c7;by_cases a7:I<m.q.length
  .obtain⟨b,off,rfl,bC,aV⟩:=aY.out (by intro e;rw[show m.q.length=(ke m.q).length from(jM _).symm,e]at a7;cases a7);obtain⟨a,ha⟩:∃a,m.q[I]?=some a:=⟨_,bw a7⟩;have dI:wr.cell? ⟨b,off+I,none⟩=some (ah a):=(ay L3 (a:=⟨b,off+I,none⟩) bC).1.trans<|aV I _ (by unfold ke;rw[fB,ha];rfl);have a8:=zW (λu=>decide (u≠k+1)) ha
   have aK:=bj L1;have aL:=bj L2;have Y:=bj L3;clear L1 L2 L3 rL aV;by_cases e:a=k+1
   .have KX:Hid (H=(m.q.take<|I+1).filter (λu=>decide (u≠k+1))):=by
     show _=_;rw[a8,av<|iE e,gY];exact rX.out
    have KL:Hid (O3 w3 wr ad H.length c H):=⟨aK.out,aL.out,Y.out⟩;clear a8 rX;go_wp2_with fail
    go_roundw
    case rel=>exact⟨I+1,H.length,c,ad,H,rfl,iI,af,rfl,af,KX,KL⟩
    case measure=>simp[intOf];omega
   have ei:¬((a:Int)=k+1):=af
   have KX:Hid (H++[a]=(m.q.take<|I+1).filter (λu=>decide (u≠k+1))):=by
    show _=_;rw[a8,bf<|iE e,<-rX.out]
   clear a8 rX;have bH:=jM H;go_wp2_with (at_builtin;refine ju _ rfl (.tmp 56) (.tmp 64) 54 rfl 3 i0 _ 8 Tryz.jw hi bM b8 bR rfl _ (ke H) rfl (aK.out.block ?cq) _ _ (ah a) rfl ?c1 rfl ?c3 ?c4 ?_)
   case cq=>intro j h;exact au _ _ _<|aK.out.lt j h
   try case c1=>simp[go_sem]
   try case c3=>unfold maxLen;omega
   try case c4=>omega
   intro gb aB c' w6 b4 a0 aC;have KL:Hid (O3 w3 w6 (some ⟨gb,aB,none⟩) (H.length+1) c'<|H++[a]):=by
    refine⟨?_,λj hj=>?_,?_⟩
    .rw[show ke (H++[a])=ke H++[jz (a:Int)] by unfold ke;rw[gX];rfl];exact b4
    .have bQ:j=gb:=by
      have:some gb=some j:=hj;injection this with this;exact this.symm
     subst bQ;rcases aC with h|h
     .rw[dJ]at h;exact aL.out j h
     have:=Y.out.size;omega
    refine⟨a0.os.trans Y.out.os,a0.tape.trans Y.out.tape,a0.output.trans Y.out.output,by have:=a0.size;have:=Y.out.size;simp at*;omega,λj hj _=>?_⟩;have bX:=Y.out.size;rw[a0.block j fV (λh=>by rw[dJ]at h;have:=aL.out j h.symm;omega),au _ _ _ af];exact Y.out.block j hj je
   clear b4 a0 aC bH;go_wp2_with fail
   go_roundw
   case rel=>exact⟨I+1,H.length+1,c',some ⟨gb,aB,none⟩,H++[a],rfl,iI,af,kh db,af,KX,KL⟩
   case measure=>simp[intOf];omega
  obtain rfl:I=m.q.length:=by omega
  have hX:H=m.q.filter (λu=>decide (u≠k+1)):=by have:=rX.out;rw[List.take_length]at this;exact this
  have HX:=bj hX;clear hX;obtain⟨L1,L2,L3⟩:=rL.out;have aD:=G.out.kept L3;have z7:wr.frozen? ⟨rb,7,none⟩=false:=by
   have:=(aD.r.mc 7 af rfl).2;rw[a2.out]at this;exact this
  have aP:Tr d (m.dy (k+1)<|(m.T<|k+1).end (tr ρ v)) (g.at 5 (k+1) (none,0)) w3 ((m.dy (k+1)<|(m.T<|k+1).end (tr ρ v)).fI H) ((g.at 5 (k+1) (none,0)).at 2 0 (ad,c)) (wr.setCell ⟨rb,7,none⟩<|.slice ad H.length c):=by
   refine Tr.fI (r:=(ad,c)) ((Tr.refl G.out.r).kept L3) (bq (S:=λk'=>k'=(g.at 5 (k+1) (none,0)).mb\/fk ((g.at 5 (k+1) (none,0)).ro 2 0).1=some k') (a:=⟨rb,7,none⟩) (dx _ _) (ag<|ag a2.out.symm) _) ?_ ?_<|λj hj=>ak ?_
   .have:=aD.r.M.eE 7<|.slice ad H.length c;rw[a2.out]at this⊢;exact this
   .exact L1.block (λj hj=>ab _ _ _ _ (by
     rw[dJ]at hj;have:=L2 j hj;show j≠rb;omega))
   exact⟨G.out.r.fresh<|L2 j hj,L2 j hj⟩
  obtain⟨b3,aA⟩:=aP.other aX.out b2.out;have aN:=bj<|G.out.trans aP;have aM:=bj<|bh b3 aA;have a9:Hid (((g.at 5 (k+1) (none,0)).at 2 0 (ad,c)).mb=rb):=a2.out;have aG:=bj<|El kind (k+1) x aN.out.r bB.out;rw[a9.out]at aG;clear aP L1 L2 L3 aD rL b3 aA rX c7 bG hI aY HQ a7;go_wp2_with fail
  generalize wr.setCell ⟨rb,7,none⟩ (.slice ad H.length c)=w4 at*;clear d7 z7;refine aG.out.mono ?_;rintro e w5 ⟨rfl,g5,aH⟩;have bO:Hid (w5.heap[w.heap.size]?=some (.cells #[ah ((tr ρ v).1:Int),ah (tr ρ v).2] 115 (0,0))/\¬eJ d (m.gone (k+1) kind x<|tr ρ v) g5 w.heap.size):=by
   have h5:=aH.other aM.out.1 aM.out.2;rw[HX.out]at h5;exact h5
  have b6:Hid (Tr d m g w (m.gone (k+1) kind x<|tr ρ v) g5 w5):=by
   have h5:=aN.out.trans aH;rw[HX.out]at h5;exact h5
  have bD:=bj b6.out.b;have aE:=bj<|A9 (n:=(s.q 5<|k+1).length) bD.out bO.out rfl b6.out HS.out HO.out rfl HN.out HV.out rfl;rw[a4.out]at aE;clear aH aG aN aM a9 G aX b2 a2;go_wp2_with fail
  refine aE.out.mono ?_;rintro e w6 ⟨b0,rfl,bL,aT⟩;have bP:=bj aT;clear aT aE;go_wp2_with fail
  go_loopg [12] ((s.q 5<|k+1).length) (λn b wr=>∃B:Nat,b=ah B/\B<=s.nt/\Hid (OZ p d K s m g w ρ (k+1) v w.heap.size (.cells #[ah ((tr ρ v).1:Int),ah (tr ρ v).2] 115 (0,0)) n B wr))
  case atStart=>exact⟨b0,rfl,bL,bP⟩
  case round=>
   obtain⟨B,rfl,hB,rW⟩:=hrel;by_cases aW:B=0
   .subst aW;obtain⟨s1,m1,g1,_,_,k1,k2,k3,k4,_,k6,k7⟩:=rW.out;have aU:s1.q 5 (k+1)=[]:=by
     rcases k7 with k7|⟨l,hl⟩
     .exact k7.2
     exfalso
     have bN:fQ s1 5 (k+1):=ak<|ak<|ak ⟨rfl,(eB k4).2 HN.out⟩;have:=(k3.lw.b 5 (k+1) bN 0 (by rw[hl];simp)).1.1;omega
    have HF:Hid (∃m' g',Tr d m g w m' g' wr/\eF p K (s.ep v<|s.q 5<|k+1) m' ρ):=by
     refine⟨m1,g1,k1,?_⟩;rw[<-k6,aU];exact k2
    clear k1 k2 k3 k4 k6 k7 aU rW;go_wp2_with fail
    go_end0;exact⟨rfl,HF.out⟩
   have bW:(0:Int)<B:=af
   have aQ:=bj<|GZ HP.out rW.out aW HN.out;rw[a4.out]at aQ;obtain⟨_,_,_,⟨hx,_⟩,_⟩:=rW.out;have b0:wr.cell? ⟨w.heap.size,0,none⟩=some (ah ((tr ρ v).1:Int)):=fj hx
   have b1:wr.cell? ⟨w.heap.size,1,none⟩=some (ah (tr ρ v).2):=fj hx
   clear hx rW;go_wp2_with fail
   refine aQ.out.mono ?_;rintro e w7 ⟨rfl,s1,m1,g1,j1,j2,j3,j4,j5,j6,j7,j8,j9⟩;have aF:=bj<|A9 (n:=(s1.q 5<|k+1).length) (j1.trans a4.out.symm) j2 rfl j4 j5 j6 j7 HN.out j8 j9;rw[a4.out]at aF;have bU:=bj j3;clear j1 j2 j3 j4 j5 j6 j7 j8 j9 b0 b1 aQ;go_wp2_with fail
   refine aF.out.mono ?_;rintro e w8 ⟨B',rfl,bE,b5⟩;have bF:=bj b5;clear b5 aF;go_wp2_with fail
   go_roundg ((s1.q 5<|k+1).length)
   case rel=>exact⟨B',rfl,bE,bF⟩
   case measure=>have:=bU.out;omega
theorem F0{rb k tb nt cap fb fc:Nat}{v0:Nat}{v1 x bk:Int}{R:aa->Prop}(hk:k<nt)(hn:nt<1000000000)(J:w.cell? ⟨rb,6,none⟩=some (.slice (some ⟨tb,0,none⟩) nt cap))(u:w.cell? ⟨tb,k*8,none⟩=some (.slice (some ⟨fb,0,none⟩) 1 fc)/\w.frozen? ⟨tb,k*8,none⟩=false)(W:w.cell? ⟨fb,3,none⟩=some (.int .i64 bk))(Y:1<=fc)(n1:rb≠tb)(n2:tb≠fb)(hx:x=if 0<v0 then 0 else v1)(G:∀w1,((w.setCell ⟨tb,k*8,none⟩<|.slice (some ⟨fb,0,none⟩) 0 fc).alloc<|.cells #[.int .i64 v0,.int .i64 v1] 115).grownBy w1 none->Calls prog 196 #[P0 rb,.int .i64<|(k:Int)+1,.int .i64 2,.int .i64 x,.agg #[.int .i64 v0,.int .i64 v1]] w1 λe w'=>e=.returned (.tuple #[])/\R w'):Calls prog 193 #[P0 rb,.int .i64<|(k:Int)+1,.agg #[.int .i64 v0,.int .i64 v1]] w λe w'=>e=.returned (.bool true)/\R w':=by
 obtain⟨u,z0⟩:=u;have lr:rb<w.heap.size:=an w _ J;have lt:tb<w.heap.size:=an w _ u;have lf:fb<w.heap.size:=an w _ W;have q5:=fm (n:=k) af;have q7:(0:Int)<=k:=af
 have q8:(k:Int)<nt:=af
 have q9:(1:Int)<=fc:=af
 have y:=bj G;by_cases H:0<v0
 .rw[bf H]at hx;subst hx
  go_in;go_wp2_with fail
  refine(y _<|aw _ _).mono ?_;rintro e Z ⟨rfl,hR⟩;have o:=bj hR;go_wp2_with fail
  go_ret;simp_all
 rw[av H]at hx;subst hx;have i:¬(0:Int)<v0:=af
 go_in;go_wp2_with fail
 refine(y _<|aw _ _).mono ?_;rintro e Z ⟨rfl,hR⟩;have o:=bj hR;go_wp2_with fail
 go_ret;simp_all
theorem Du{rb k tb nt cap fb fc n vb i rc a:Nat}{v0:Nat}{v1:Int}{Y H:Value}(hk:k<nt)(hn:nt<1000000000)(W:n<100)(G:w.cell? (az rb 6)=some (dD tb nt cap))(y:w.cell? (az tb<|k*8)=some (dD fb (n+2) fc)/\w.frozen? (az tb<|k*8)=false)(J:w.cell? (az fb<|(n+1)*4+3)=some (ah a))(k1:w.cell? (az fb<|n*4+1)=some (dD vb i rc))(a0:n+2<=fc)(n1:rb≠tb)(n2:tb≠fb)(n3:tb≠vb)(n4:fb≠vb)(o:w.cell? (az vb<|a*2)=some Y/\w.frozen? (az vb<|a*2)=false)(u:w.cell? (az vb<|a*2+1)=some H/\w.frozen? (az vb<|a*2+1)=false)(ha:a<i):dC 193 #[P0 rb,ah<|(k:Int)+1,.agg #[ah v0,ah v1]] w (.bool false) λw'=>((((w.setCell (az tb<|k*8)<|dD fb (n+1) fc).setCell (az vb<|a*2)<|ah v0).setCell (az vb<|a*2+1)<|ah v1).alloc<|.cells #[ah v0,ah v1] 115).grownBy w' none:=by
 obtain⟨y,z0⟩:=y;obtain⟨Z,z8⟩:=o;obtain⟨v9,z9⟩:=u;have lr:rb<w.heap.size:=an w _ G;have lt:tb<w.heap.size:=an w _ y;have lf:fb<w.heap.size:=an w _ J;have lv:vb<w.heap.size:=an w _ Z;have q5:=fm (n:=k) af;have q7:(0:Int)<=k:=af
 have q8:(k:Int)<nt:=af
 have p1:IntKind.i64.wrap ((n:Int)+2-1)=(n:Int)+1:=by rw[fz,dL _ af];omega
 have p2:IntKind.i64.wrap ((n:Int)+1-1)=(n:Int):=fm af;have p3:(0:Int)<=n+1:=af
 have p4:(n:Int)+1<(n:Int)+2:=af
 have p5:(n:Int)+1<=(fc:Int):=af
 have p6:(0:Int)<=n:=af
 have p7:(n:Int)<n+1:=af
 have p8:¬((n:Int)+1=0):=af
 have p9:(a:Int)<i:=af
 have m1:¬(w.heap.size=tb):=af
 have m2:¬(w.heap.size=vb):=af
 delta dC;go_in;go_wp2
 go_region
 all_goals
  go_wp2
  go_ret;simp[aw,bo,df,bm]
def Nv{p:Dp}(m:Dm)(g:Dg)(t i:Nat):(ok p m g 6 t i).bs (g.rb t i):=rfl
def tV{p:dH}{s:Pl}{X:Nat->Prop}{ρ:Nat->Nat}{v:B.V}(u:fN p s X)(hS:eF p K s m ρ)(o:dV p s v):((tr ρ v).1=0↔v.1=0)/\(if 0<(tr ρ v).1 then(0:Int) else(tr ρ v).2)=v.2:=by
 by_cases e:v.1=0
 .rw[oN e];omega
 have y:=(hS.C v.1<|B.px.vS o e).c1;have i:=u.Al o;rw[rk e];refine⟨⟨λh=>?_,λh=>dr h e⟩,?_⟩
 .omega
 show(if 0<ρ v.1 then(0:Int) else 0)=v.2;rcases i with h|h
 .omega
 omega
theorem BY{v:B.V}(s:Pl)(t kind:Nat)(x:Int):v.1=0\/v∈(s.gone t v kind x).kp:=by
 grind[iX,lZ]
def eF.small(hS:eF p K s m ρ)(e:Ok p s):m.nt<1000000000/\m.q.length<=1000000000:=by
 refine⟨by rw[hS.nt];have:=e.lw.d;omega,?_⟩;rw[hS.q];have:=e.lw.len (x:=2) (y:=0)<|ag ⟨rfl,rfl⟩;omega
theorem JA{t:Nat}{v:B.V}(hP:PD p d)(h:dZ d m g w)(hS:eF p K s m ρ)(J:Ok p s)(G:t∈s.lv)(hw:(s.T t).wh=none)(hv:dV p s v)(he:m.ev.length<=100000):dC 193 #[P0 g.mb,ah t,vA<|tr ρ v] w (.bool (decide (de s t=0))) λw'=>∃m' g',Tr d m g w m' g' w'/\eF p K (s.back t v) m' ρ:=by
 have ht:=J.lt t G;have o:=(iP hS t).2 ht;have Y:=hS.T t G;have hF:=J.fw t G trivial;let⟨hn,hq⟩:=hS.small J;have aA:qE m t=de s t:=by unfold qE de;rw[Y.l]
 let⟨tb,fb,n,T⟩:=h.top o (by grind[D.TS.l,F.FW.n1]);have H:de s t=n:=by unfold de;rw[<-Y.l,T.l];omega
 let⟨Z,f0,f1,f2,f3⟩:=h.F o<|lD T.l;have a9:n+1<=(g.ro 5 t).2:=by rw[T.l]at f1;exact f1
 have a7:m.dy t ((m.T t).mR<|(m.T t).fr.take n)=m.pop t:=by unfold Dm.pop;rw[List.dropLast_eq_take,T.l];rfl
 have y:=h.shrink o T.b (j:=n) (lD T.l) (r:=g.ro 5 t)<|ag rfl;rw[a7]at y;have aD:Value.slice (g.ro 5 t).1 n (g.ro 5 t).2=dD fb n (g.ro 5 t).2:=by rw[T.a]
 rw[aD]at y;have a0:w.frozen? (az tb<|(t-1)*8)=false:=by
  let⟨aC,e1,_,tc⟩:=h.tc o;have:aC=tb:=by
   have:=T.b;rw[e1]at this;injection this with this _;injection this with this;injection this with this _
  subst this;exact(tc.c 0 af).2
 obtain⟨k,rfl⟩:∃k,t=k+1:=⟨t-1,af⟩;rw[dF]at a0 y;have t0:=T.t0;rw[dF]at t0;have a6:k<m.nt:=af
 by_cases h0:de s (k+1)=0
 .have aF:n=0:=af
  subst aF;rw[fy h0];have k3:=T.k3;rw[Nat.zero_mul,Nat.zero_add]at k3;refine(F0 (x:=v.2) (R:=λw'=>∃m' g',Tr d m g w m' g' w'/\eF p K (s.back (k+1) v) m' ρ) a6 hn T.c6 ⟨t0,a0⟩ k3 a9 T.n3 T.n2 (tV J hS hv).2.symm (λw1 aE=>?_)).mono ?_
  .have a4:=(y.kept<|aj _ _ none).kept aE;have hg:Ok p (s.gone (k+1) v 2 v.2):=J.gone G hv 2 v.2<|λ_ _ h=>h;have aN:k+1∉(s.gone (k+1) v 2 v.2).lv:=by rw[(iX s (k+1) v 2 v.2).1,J.nd.mem_erase_iff];exact λh=>h.1 rfl
   have a8:Ok p ((s.gone (k+1) v 2 v.2).pop<|k+1):=(hg.pop (by grind[qv,kD])<|λu hu=>⟨trivial,ag hu⟩).JS<|λu hu _ e=>aN<|e▸hu;rw[<-rP hw]at a8;refine(Nk (t:=k+1) (kind:=2) (x:=v.2) (v:=v) hP a4.r ((eB<|jU (s.pop<|k+1) (k+1) v 2 v.2).2 ht) a8 (hS.M5 (kind:=2) (x:=v.2) J G hw hv) (BY (s.pop<|k+1) (k+1) 2 v.2) hq he).mono ?_;rintro e w' ⟨rfl,m',g',h1,h2⟩;refine⟨rfl,m',g',a4.trans h1,?_⟩;have hb:s.back (k+1) v=((s.pop<|k+1).gone (k+1) v 2 v.2).ep v (((s.pop<|k+1).gone (k+1) v 2 v.2).q 5<|k+1):=by
    unfold Pl.back Pl.leave;rw[bf h0,AX (J.lw.pop<|k+1) ht]
   grind
  grind
 obtain⟨j,rfl⟩:∃j,n=j+1:=⟨n-1,af⟩;rw[eV h0];have a1:j<(m.T<|k+1).fr.length:=lD T.l
 have W:j<(s.T<|k+1).fr.length:=by rw[<-Y.l];exact a1
 have a3:=h.R o a1;have aH:Z=fb:=by rw[T.a]at f0;injection f0 with f0;injection f0 with f0 _;exact f0.symm
 subst aH;have a2:=f3.cell (j*4+1) af;rw[vD d m g (k+1) af]at a2;have v6:=Ar (p:=d) (m:=m) o.1 o.2 a1;have aP:(ok d m g 5 (k+1) 0).bs Z:=by
  show fk (g.ro 5<|k+1).1=some Z;rw[T.a];rfl
 have aJ:(fX m (k+1)<|j+1).bk.2.1=(bz s<|k+1).bk.2.1:=by
  have:=(Y.f (de s<|k+1)<|by grind[de]).bk h0;rw[H]at this;unfold bz;rw[H];exact this
 have aB:(fX m (k+1)<|j+1).bk.2.1<d.rg (fX m (k+1) j).f:=by
  rw[aJ,show(fX m (k+1) j).f=(du s (k+1) j).f from(Y.f j W).f,hP.rg (du s (k+1) j).f (hF.f j W).1];have:=hF.b j (by rw[<-Y.l,T.l];omega);unfold bz;rw[H];exact this
 refine(Du a6 hn (gD hF.n2) T.c6 ⟨t0,a0⟩ T.k3 a2 a9 T.n3 T.n2 (h.ne (pn af) v6 ((DI d m T.b tb).2 rfl) (Nv m g _ _) af) (h.ne (sK (p:=d) (m:=m) o.1 o.2) v6 aP (Nv m g _ _) af) (a3.cells _ af) (a3.cells _ af) aB).mono ?_;rintro e w' ⟨rfl,hg⟩;have a5:((m.pop<|k+1).T<|k+1).fr=(m.T<|k+1).fr.dropLast:=by unfold Dm.pop;rw[gn];rfl
 have aI:fX (m.pop<|k+1) (k+1) j=fX m (k+1) j:=by
  unfold fX;rw[a5];exact nY<|lD T.l
 refine⟨rfl,_,_,((y.trans<|y.r.sQ (t:=k+1) (i:=j) o (by rw[a5,eY,T.l];omega) (fX m (k+1)<|j+1).bk.2.1<|tr ρ v).kept<|aj _ _ none).kept hg,?_⟩;have h4:=hS.back G h0 hv;rw[aI];have aM:qz m (k+1)=fX m (k+1) (j+1):=by unfold qz;rw[aA,H]
 rw[aA,H,aM]at h4;exact h4
end D
namespace D
open F
variable {p:dH}{d:Dp}{K:Nat}{s:Pl}{m m':Dm}{g g':Dg}{w w':aa}{ρ:Nat->Nat}
structure ph(p:dH) (d:Dp) (s:Pl) (m:Dm) (g:Dg) (w:aa) (ρ:Nat->Nat) (t tb fb n nr:Nat):Prop where
 T:LZ d m g w t tb fb n
 hn:de s t=n
 hf:(fX m t n).f=(bz s t).f
 r1:d.rg (fX m t n).f=nr
 r2:p.rg (bz s t).f=nr
 F:Full w (g.rb t n) 115 (nr*2) (nr*2) (eR (fX m t n).R)
 V:∀a,a<nr->(fX m t n).R a=tr ρ ((bz s t).R a)
 n20:n<20
 dt:nF m t
section
variable {t tb fb n nr:Nat} (h:ph p d s m g w ρ t tb fb n nr)
include h
theorem ph.tp:qE m t=n:=by unfold qE;rw[h.T.l];omega
theorem ph.tf:qz m t=fX m t n:=by unfold qz;rw[h.tp]
theorem ph.hi:n<(m.T t).fr.length:=by rw[h.T.l];omega
end
variable {fb nr t:Nat}{v:B.V}
theorem Rn.run(hP:PD p d)(h:dZ d m g w)(hS:eF p K s m ρ)(hR:Rn p s t):∃tb fb n nr,ph p d s m g w ρ t tb fb n nr:=by
 have u:=hS.T t hR.lv;have o:=(iP hS t).2 hR.ht;let⟨tb,fb,n,T⟩:=h.top o (by rw[u.l];exact λe=>hR.fw.n1<|dh.1 e);have hn:de s t=n:=by unfold de;rw[<-u.l,T.l];omega
 have W:=u.f n (by rw[<-u.l,T.l];omega);have G:bz s t=du s t n:=by unfold bz;rw[hn]
 have J:(fX m t n).f=(bz s t).f:=eZ G W.f
 have y:=hP.rg (bz s t).f hR.ff.1;refine⟨tb,fb,n,p.rg (bz s t).f,T,hn,J,by rw[J,y],rfl,?_,λa Y=>?_,?_,o⟩
 .grind[D.dZ.R,D.LZ.l]
 .rw[G]at Y⊢;exact W.R a Y
 have:=hR.fw.n2;rw[<-u.l,T.l]at this;omega
theorem ph.kept{t tb fb n nr:Nat}(h:ph p d s m g w ρ t tb fb n nr)(H:dZ d m g w)(y:w.grownBy w' none):ph p d s m g w' ρ t tb fb n nr:=by
 let⟨i,u,W,T⟩:=(H.kept y).top h.dt<|lD h.T.l;have Y:i=tb:=by
  have:=T.b;rw[h.T.b]at this;injection this with this _;injection this with this;injection this with this _;exact this.symm
 have J:u=fb:=by
  have:=T.a;rw[h.T.a]at this;injection this with this;injection this with this _;exact this.symm
 have G:W=n:=by
  have:=T.l;rw[h.T.l]at this;omega
 subst Y J G;exact⟨T,h.hn,h.hf,h.r1,h.r2,h.F.block<|y.block _ h.F.lt ey,h.V,h.n20,h.dt⟩
theorem ph.set{tb n:Nat}(h:ph p d s m g w ρ t tb fb n nr)(i:dZ d m g w)(hS:eF p K s m ρ)(hR:Rn p s t)(a:Nat)(e:dV p s v)(o:((w.setCell (az (g.rb t n)<|a*2)<|ah ((tr ρ v).1:Int)).setCell (az (g.rb t n)<|a*2+1)<|ah (tr ρ v).2).grownBy w' none):∃m' g',Tr d m g w m' g' w'/\eF p K (s.dM t (de s t)<|(bz s t).set a v) m' ρ:=by
 refine⟨_,g,(i.sQ h.dt h.hi a<|tr ρ v).kept o,?_⟩;have:=hS.oZ hR.lv hR.fw.n1 a e;rw[h.tp,h.tf]at this;omega
theorem ph.rc{tb n a:Nat}(h:ph p d s m g w ρ t tb fb n nr)(e:a<nr):w.cell? (az (g.rb t n)<|a*2)=some (ah ((tr ρ<|(bz s t).R a).1:Int))/\w.cell? (az (g.rb t n)<|a*2+1)=some (ah (tr ρ<|(bz s t).R a).2)/\w.frozen? (az (g.rb t n)<|a*2)=false/\w.frozen? (az (g.rb t n)<|a*2+1)=false:=by
 have:=Kh h.F e;grind[D.ph.V]
def eF.JD(hS:eF p K s m ρ)(u:Ok p s)(o:dV p s v)(i:v.1≠0):tr ρ v=(ρ v.1,0)/\1<=ρ v.1/\ρ v.1<=m.nc/\m.M (ρ v.1)=(s.M v.1).map (tr ρ)/\m.ck (ρ v.1)=s.ck v.1:=by
 have e:=hS.C v.1<|B.px.vS o i;exact⟨rk i,e.c1,e.c2,e.M,e.k⟩
end D
namespace D
open F
variable {p:dH}{d:Dp}{K:Nat}{s:Pl}{m m':Dm}{g g':Dg}{w w':aa}{ρ:Nat->Nat}
def lH(w:aa)(r a:Nat)(v:B.V):Prop:=w.cell? ⟨r,a*2,none⟩=some (.int .i64 (v.1:Int))/\w.cell? ⟨r,a*2+1,none⟩=some (.int .i64 v.2)/\w.frozen? ⟨r,a*2,none⟩=false/\w.frozen? ⟨r,a*2+1,none⟩=false
def oR(w:aa)(r a:Nat)(v:B.V):aa:=(w.setCell ⟨r,a*2,none⟩<|.int .i64 (v.1:Int)).setCell ⟨r,a*2+1,none⟩<|.int .i64 v.2
theorem fW{w w0:aa}(h:w.grownBy w0 none)(a:Addr)(v:Value):(w.setCell a v).grownBy (w0.setCell a v) none:=by
 refine⟨h.os,h.tape,h.output,by simpa[World.setCell] using h.size,λk i _=>?_⟩;simp[World.setCell,dp,h.block k (by simp_all) af]
theorem Pp{mb t i nr a b c:Nat}{y:B.V}(ha:a<nr)(hb:b<256)(H:c<256)(r:lH w i a y):dC 194 #[P0 mb,ah t,dD i nr nr,jC 0 a b c] w (ah 0) λw'=>(oR w i a (0,B.wide b c)).grownBy w' none:=by
 obtain⟨u,r1,Y,Z⟩:=r;have W:i<w.heap.size:=an w _ u;have G:(a:Int)<nr:=af
 have q1:IntKind.i64.wrap (256*(b:Int))=256*(b:Int):=jA
 have J:IntKind.i64.wrap (256*(b:Int)+(c:Int))=256*(b:Int)+(c:Int):=jA
 delta dC;go_in;go_wp2
 all_goals go_ret
 .refine⟨rfl,?_⟩;have e:B.wide b c=256*(b:Int)+c-65536:=by unfold B.wide;rw[eK];omega
  rw[e];exact ax (aw _ _) _
 refine⟨rfl,?_⟩;have e:B.wide b c=256*(b:Int)+c:=by unfold B.wide;rw[mL];omega
 rw[e];exact ax (aw _ _) _
theorem Po{mb t i nr a b c:Nat}{y vb:B.V}(ha:a<nr)(H:b<nr)(hb:b<256)(hc:c<256)(r:lH w i a y)(rb:lH w i b vb):dC 194 #[P0 mb,ah t,dD i nr nr,jC 1 a b c] w (ah 0) λw'=>(oR w i a vb).grownBy w' none:=by
 obtain⟨u,r1,r2,Y⟩:=r;have W:i<w.heap.size:=an w _ u;have G:(a:Int)<nr:=af
 have q1:IntKind.i64.wrap (256*(b:Int))=256*(b:Int):=jA
 have q2:IntKind.i64.wrap (256*(b:Int)+(c:Int))=256*(b:Int)+(c:Int):=jA
 obtain⟨Z,s1,_,_⟩:=rb;have J:(b:Int)<nr:=af
 delta dC;go_in;go_wp2
 all_goals go_ret
 all_goals refine⟨rfl,?_⟩
 all_goals first|exact ax (aw _ _) _|exact bo<|ax (aw _ _) _
theorem N6{mb t i nr a b c:Nat}{G:B.V}{x:Int}(ha:a<nr)(hb:b<256)(hc:c<256)(r:lH w i a G)(u:w.cell? (az mb 5)=some (ah x))(hn:mb≠i):dC 194 #[P0 mb,ah t,dD i nr nr,jC 22 a b c] w (ah 0) λw'=>(oR w i a (0,x)).grownBy w' none:=by
 obtain⟨y,r1,r2,Y⟩:=r;have W:i<w.heap.size:=an w _ y;have J:(a:Int)<nr:=af
 have q1:IntKind.i64.wrap (256*(b:Int))=256*(b:Int):=jA
 have q2:IntKind.i64.wrap (256*(b:Int)+(c:Int))=256*(b:Int)+(c:Int):=jA
 have Z:mb<w.heap.size:=an w _ u
 delta dC;go_in;go_wp2
 all_goals go_ret
 all_goals refine⟨rfl,?_⟩
 all_goals first|exact ax (aw _ _) _|exact bo<|ax (aw _ _) _
theorem NA{o:Nat}(x y:Int)(i:o=2\/o=3\/o=4\/o=5):dC 212 #[ah o,ah x,ah y] w (ah<|arith o x y) λw'=>w'=w:=by
 rcases i with rfl|rfl|rfl|rfl
 all_goals
  delta dC;go_in;go_wp2
 all_goals go_ret
 .simp[wrap64,arith,B.wrap]
 .simp[wrap64,arith,B.wrap]
 .simp[wrap64,arith,B.wrap]
 .simp_all[arith,tJ]
 simp_all[arith,tJ]
theorem JB(e y1:Nat)(x2 y2:Int)(w:aa):(binOp .eql 115 (.agg #[ah e,ah x2])<|.agg #[ah y1,ah y2]).run prog w=.ok (.bool (decide ((e,x2)=(y1,y2)))) w:=by
 have i:((e:Int)=y1)↔e=y1:=af
 simp[go_sem];grind
theorem Pn{mb t i nr a b c:Nat}{va vb Y:B.V}(ha:a<nr)(a7:b<nr)(a5:c<nr)(hb:b<256)(hc:c<256)(r:lH w i a va)(rb:lH w i b vb)(rc:lH w i c Y):dC 194 #[P0 mb,ah t,dD i nr nr,jC 6 a b c] w (ah 0) λw'=>(oR w i a (0,if vb=Y then 1 else 0)).grownBy w' none:=by
 obtain⟨r0,r1,r2,r3⟩:=r;have lr:i<w.heap.size:=an w _ r0;have a6:(a:Int)<nr:=af
 have a0:i<w.heap.size+1:=af
 have q1:IntKind.i64.wrap (256*(b:Int))=256*(b:Int):=jA
 have q2:IntKind.i64.wrap (256*(b:Int)+(c:Int))=256*(b:Int)+(c:Int):=jA
 obtain⟨J,H⟩:=vb;obtain⟨c1,W⟩:=Y;obtain⟨s0,s1,_,_⟩:=rb;obtain⟨u0,u1,_,_⟩:=rc;simp only[]at s0 s1 u0 u1;have Z:=JB J c1 H W;have y:(if(J,H)=(c1,W) then(1:Int) else 0)=if decide ((J,H)=(c1,W))=true then 1 else 0:=eG
 rw[y];generalize decide ((J,H)=(c1,W))=dd at*;have a8:(b:Int)<nr:=af
 have a3:(c:Int)<nr:=af
 delta dC;go_in;go_wp2
 go_quiet (fail)
 have HX:∃o:aa,o=((gG (gG w #[ah ((6:Nat):Int),ah a,ah b,ah c] 90) #[ah 0,ah 0] 115).drewN nq)/\iY w o/\dW o (w.heap.size+1) 0=some (ah 0)/\dW o (w.heap.size+1) 1=some (ah 0)/\o.frozen? (az (w.heap.size+1) 1)=false:=⟨_,rfl,df (ax (ax (aw _ _) _) _) _,by simp[go_sem],by simp[go_sem],by simp[go_sem]⟩;obtain⟨o,e3,u,x0,x1,x2⟩:=HX;have G:((gG (gG w #[ah 6,ah a,ah b,ah c] 90) #[ah 0,ah 0] 115).drewN nq)=o:=e3.symm;rw[G];clear e3 G;let⟨y0,y2⟩:=ay u (a:=az i<|a*2) lr;let⟨y1,y3⟩:=ay u (a:=az i<|a*2+1) lr;rw[r0]at y0;rw[r1]at y1;rw[r2]at y2;rw[r3]at y3
 have HG:=bj u
 cases dd with
 |true=>
  go_wp2
  go_ret;refine⟨rfl,?_⟩;exact fW (fW (bu HG (ak<|Nat.le_succ _) _) _ _) _ _
 |false=>
  go_wp2
  go_ret;refine⟨rfl,?_⟩;exact fW (fW HG _ _) _ _
theorem N4{o mb t i nr a b c:Nat}{va vb G:B.V}(Y:o=2\/o=3\/o=4\/o=5)(ha:a<nr)(a5:b<nr)(a3:c<nr)(hb:b<256)(hc:c<256)(r:lH w i a va)(rb:lH w i b vb)(rc:lH w i c G):Calls prog 194 #[P0 mb,ah t,dD i nr nr,jC o a b c] w λe w'=>((vb.1=0/\G.1=0)/\e=.returned (ah 0)/\(oR w i a (0,arith o vb.2 G.2)).grownBy w' none)\/(¬(vb.1=0/\G.1=0)/\e=.returned (ah 1)/\w.grownBy w' none):=by
 obtain⟨r0,r1,r2,r3⟩:=r;have lr:i<w.heap.size:=an w _ r0;have a4:(a:Int)<nr:=af
 have Z:i<w.heap.size+1:=af
 have a1:i<w.heap.size+1+1:=af
 have q1:IntKind.i64.wrap (256*(b:Int))=256*(b:Int):=jA
 have q2:IntKind.i64.wrap (256*(b:Int)+(c:Int))=256*(b:Int)+(c:Int):=jA
 obtain⟨W,H⟩:=vb;obtain⟨c1,J⟩:=G;obtain⟨s0,s1,_,_⟩:=rb;obtain⟨u0,u1,_,_⟩:=rc;simp only[]at s0 s1 u0 u1;have a6:(b:Int)<nr:=af
 have a0:(c:Int)<nr:=af
 by_cases hz:W=0/\c1=0
 .obtain⟨rfl,rfl⟩:=hz;have HA:Hid (∀w0:aa,dC 212 #[ah o,ah H,ah J] w0 (ah<|arith o H J) λw'=>w'=w0):=λw0=>NA H J Y;generalize hy:arith o H J=y at*;clear hy;rcases Y with rfl|rfl|rfl|rfl
  all_goals
   go_in;go_wp2_with fail
   refine dq (HA _) ?_;rintro w2 rfl;go_wp2
   go_ret;refine ag ⟨eG,rfl,?_⟩
  all_goals exact ax (ax (ax (aw _ _) _) _) _
 have u:(0<(W:Int))\/(W=0/\0<(c1:Int)):=af
 change Hid _ at hz;rcases u with u|⟨rfl,u⟩<;>rcases Y with rfl|rfl|rfl|rfl
 all_goals
  go_in;go_wp2
  go_ret;refine ak ⟨by have:=hz.out;simpa using this,rfl,?_⟩
 all_goals exact ax (ax (ax (aw _ _) _) _) _
theorem Bj{o mb t i nr a b c:Nat}{R:Int->aa->Prop}(G:o=9\/o=10\/o=11\/o=12)(Z:b<256)(J:c<256)(H:∀w1,w.grownBy w1 none->Calls prog 214 #[P0 mb,dD i nr nr,jC o a b c] w1 λe w'=>∃v:Int,e=.returned (ah v)/\R v w'):Calls prog 194 #[P0 mb,ah t,dD i nr nr,jC o a b c] w λe w'=>∃v:Int,e=.returned (ah v)/\R v w':=by
 have Y:IntKind.i64.wrap (256*(b:Int))=256*(b:Int):=jA
 have W:IntKind.i64.wrap (256*(b:Int)+(c:Int))=256*(b:Int)+(c:Int):=jA
 have u:=bj<|H (gG w #[ah o,ah a,ah b,ah c] 90)<|ax (aw _ _) _;rcases G with rfl|rfl|rfl|rfl
 all_goals
  go_in;go_wp2_with fail
  refine u.mono ?_;rintro e w2 ⟨v,rfl,hR⟩;have y:=bj hR;go_wp2
  go_ret;simp_all
theorem J2{o mb t i nr a b c:Nat}{R:Int->aa->Prop}(G:o=13\/o=15\/o=17\/o=18\/o=19\/o=21)(Z:b<256)(J:c<256)(H:∀w1,w.grownBy w1 none->Calls prog 215 #[P0 mb,ah t,dD i nr nr,jC o a b c] w1 λe w'=>∃v:Int,e=.returned (ah v)/\R v w'):Calls prog 194 #[P0 mb,ah t,dD i nr nr,jC o a b c] w λe w'=>∃v:Int,e=.returned (ah v)/\R v w':=by
 have Y:IntKind.i64.wrap (256*(b:Int))=256*(b:Int):=jA
 have W:IntKind.i64.wrap (256*(b:Int)+(c:Int))=256*(b:Int)+(c:Int):=jA
 have u:=bj<|H (gG w #[ah o,ah a,ah b,ah c] 90)<|ax (aw _ _) _;repeat' rcases G with rfl|G
 all_goals
  go_in;go_wp2_with fail
  refine u.mono ?_;rintro e w2 ⟨v,rfl,hR⟩;have y:=bj hR;go_wp2
  go_ret;simp_all
theorem Pm{mb t i nr a b c:Nat}{R:aa->Prop}(Y:b<256)(G:c<256)(H:∀w1,w.grownBy w1 none->eN 213 #[P0 mb,ah t,ah ((256*b+c:Nat):Int)] w1 λw'=>R w'):dC 194 #[P0 mb,ah t,dD i nr nr,jC 7 a b c] w (ah 0) λw'=>R w':=by
 have W:IntKind.i64.wrap (256*(b:Int))=256*(b:Int):=jA
 have J:IntKind.i64.wrap (256*(b:Int)+(c:Int))=256*(b:Int)+(c:Int):=jA
 have o:((256*b+c:Nat):Int)=256*(b:Int)+(c:Int):=af
 rw[o]at H;have y:=bj<|H (gG w #[ah ((7:Nat):Int),ah a,ah b,ah c] 90)<|ax (aw _ _) _;delta dC;go_in;go_wp2_with fail
 refine dq y λw2 hR=>?_;have u:=bj hR;go_wp2
 go_ret;simp_all
theorem Pk{mb t G nr a b c:Nat}{o:B.V}{R:aa->Prop}(ha:a<nr)(hb:b<256)(hc:c<256)(r:lH w G a o)(H:∀w1,o=(0,0)->w.grownBy w1 none->Calls prog 213 #[P0 mb,.int .i64 (t:Int),.int .i64 ((256*b+c:Nat):Int)] w1 λe w'=>e=.returned (.tuple #[])/\R w')(J:∀w1,o≠(0,0)->w.grownBy w1 none->R w1):Calls prog 194 #[P0 mb,.int .i64 (t:Int),.slice (some ⟨G,0,none⟩) nr nr,jC 8 a b c] w λe w'=>e=.returned (.int .i64 0)/\R w':=by
 have q1:IntKind.i64.wrap (256*(b:Int))=256*(b:Int):=jA
 have q2:IntKind.i64.wrap (256*(b:Int)+(c:Int))=256*(b:Int)+(c:Int):=jA
 have e0:((256*b+c:Nat):Int)=256*(b:Int)+(c:Int):=af
 rw[e0]at H;obtain⟨Y,r1,r2,r3⟩:=r;have lr:G<w.heap.size:=an w _ Y;have a0:(a:Int)<(nr:Int):=af
 obtain⟨u,y⟩:=o;simp only[]at Y r1;have i:∀w0,(binOp .eql 115 (.agg #[.int .i64 (u:Int),.int .i64 y])<|.agg #[.int .i64 0,.int .i64 0]).run prog w0=.ok (.bool (decide ((u,y)=(0,0)))) w0:=JB u 0 y 0;have Z:=ax (aw w none)<|.cells #[.int .i64 ((8:Nat):Int),.int .i64 (a:Int),.int .i64 (b:Int),.int .i64 (c:Int)] 90;by_cases hz:(u,y)=(0,0)
 .have W:=bj<|H _ hz Z;rw[fy hz]at i;go_in;go_wp2_with fail
  refine W.mono ?_;rintro e w2 ⟨rfl,hR⟩;have HR:=bj hR;go_wp2_with fail
  go_ret;simp_all
 have W:=bj<|J _ hz Z;rw[eV hz]at i;go_in;go_wp2_with fail
 go_ret;simp_all
theorem N8{mb t i nr a b c:Nat}{o:B.V}{R:aa->Prop}{f:Bool}(ha:a<nr)(hb:b<256)(hc:c<256)(r:lH w i a o)(H:∀w1,w.grownBy w1 none->dC 193 #[P0 mb,ah t,vA o] w1 (.bool f) λw'=>R w'):dC 194 #[P0 mb,ah t,dD i nr nr,jC 14 a b c] w (ah (if f=true then -1 else 0)) λw'=>R w':=by
 have q1:IntKind.i64.wrap (256*(b:Int))=256*(b:Int):=jA
 have q2:IntKind.i64.wrap (256*(b:Int)+(c:Int))=256*(b:Int)+(c:Int):=jA
 obtain⟨u,W,r2,Z⟩:=r;have Y:i<w.heap.size:=an w _ u;have J:(a:Int)<nr:=af
 obtain⟨a1,a2⟩:=o;simp only[]at u W;have y:=bj<|H (gG w #[ah ((14:Nat):Int),ah a,ah b,ah c] 90)<|ax (aw _ _) _;delta dC;go_in;go_wp2_with fail
 refine dq y λw2 hR=>?_;have G:=bj hR
 cases f
 all_goals
  go_wp2
  go_ret;simp_all
theorem N7{mb t o nr a b c:Nat}{i:B.V}{R:aa->Prop}(ha:a<nr)(hb:b<256)(hc:c<256)(r:lH w o a i)(H:∀w1,w.grownBy w1 none->eN 195 #[P0 mb,ah ((1:Nat):Int),ah t,ah i.2] w1 λw'=>R w'):Calls prog 194 #[P0 mb,ah t,dD o nr nr,jC 20 a b c] w λe w'=>(i.1=0/\e=.returned (ah 0)/\R w')\/(i.1≠0/\e=.returned (ah 1)/\w.grownBy w' none):=by
 have q1:IntKind.i64.wrap (256*(b:Int))=256*(b:Int):=jA
 have q2:IntKind.i64.wrap (256*(b:Int)+(c:Int))=256*(b:Int)+(c:Int):=jA
 obtain⟨u,Z,r2,r3⟩:=r;have lr:o<w.heap.size:=an w _ u;have Y:(a:Int)<nr:=af
 obtain⟨y,a2⟩:=i;simp only[]at u Z H⊢;have J:=bj<|H (gG w #[ah ((20:Nat):Int),ah a,ah b,ah c] 90)<|ax (aw _ _) _;by_cases hz:y=0
 .subst hz;go_in;go_wp2_with fail
  refine dq J λw2 hR=>?_;have W:=bj hR;go_wp2
  go_ret;simp_all
 have h1:(0:Int)<y:=af
 have G:=bj hz;go_in;go_wp2
 go_ret;simp_all[ax,aw]
theorem Pd{o mb t i nr a b c:Nat}{R:Int->aa->Prop}(G:o=13\/o=15)(H:∀w1,w.grownBy w1 none->Calls prog 227 #[P0 mb,ah t,dD i nr nr,jC o a b c] w1 λe w'=>∃v:Int,e=.returned (ah v)/\R v w'):Calls prog 215 #[P0 mb,ah t,dD i nr nr,jC o a b c] w λe w'=>∃v:Int,e=.returned (ah v)/\R v w':=by
 have u:=bj<|H (gG w #[ah o,ah a,ah b,ah c] 90)<|ax (aw _ _) _;rcases G with rfl|rfl
 all_goals
  go_in;go_wp2_with fail
  refine u.mono ?_;rintro e w2 ⟨v,rfl,hR⟩;have y:=bj hR;go_wp2
  go_ret;simp_all
theorem Bo{o mb t i nr a b c:Nat}{u:B.V}(J:o=17\/o=19)(ha:a<nr)(r:lH w i a u)(hz:u.1≠0):dC 215 #[P0 mb,ah t,dD i nr nr,jC o a b c] w (ah 1) λw'=>w.grownBy w' none:=by
 have W:i<w.heap.size:=an w _ r.1;have H:(a:Int)<nr:=af
 obtain⟨Z,r1,_,_⟩:=r;have Y:(0:Int)<u.1:=af
 rcases J with rfl|rfl
 all_goals
  delta dC;go_in;go_wp2
  go_ret;simp[ax,aw]
theorem Bn{o mb t i nr a b c:Nat}{y vb:B.V}(W:o=18\/o=21)(ha:a<nr)(hb:b<nr)(r:lH w i a y)(rb:lH w i b vb)(hz:vb.1≠0):dC 215 #[P0 mb,ah t,dD i nr nr,jC o a b c] w (ah 1) λw'=>w.grownBy w' none:=by
 have Y:i<w.heap.size:=an w _ r.1;have H:(a:Int)<nr:=af
 have u:i<w.heap.size+1:=af
 obtain⟨r0,r1,_,_⟩:=r;obtain⟨s0,s1,_,_⟩:=rb;have J:(b:Int)<nr:=af
 have Z:(0:Int)<vb.1:=af
 rcases W with rfl|rfl
 all_goals
  delta dC;go_in;go_wp2
  go_ret;simp[ax,aw]
theorem Hj{mb t i nr a b c:Nat}{J vb:B.V}(ha:a<nr)(hb:b<nr)(r:lH w i a J)(rb:lH w i b vb)(hz:vb.1=0)(y:¬(0<=vb.2/\vb.2<=3)):dC 215 #[P0 mb,ah t,dD i nr nr,jC 21 a b c] w (ah 8) λw'=>w.grownBy w' none:=by
 have lr:i<w.heap.size:=an w _ r.1;have Y:(a:Int)<nr:=af
 have G:i<w.heap.size+1:=af
 obtain⟨r0,r1,_,_⟩:=r;obtain⟨b1,o⟩:=vb;simp only[]at hz y;subst hz;obtain⟨H,s1,_,_⟩:=rb;simp only[]at H s1;have Z:(b:Int)<nr:=af
 have u:o<0\/(¬o<0/\3<o):=af
 rcases u with u|⟨h0,u⟩
 all_goals
  delta dC;go_in;go_wp2
  go_ret;simp[ax,aw]
end D
namespace F
variable {g:eM}{k op t:Nat}{l:List B.V}{p:dH}{s:Pl}{w:aa}
def dZ.OL(h:dZ p s g w):¬sD p.sb p.pb p.n s.kd (kI s g) p.eb:=λe=>by
 have:=(h.i 0 0 0 1 0 0 p.eb rfl e).1;omega
def Kf(h:dZ p s g w)(hP:PW p)(o:Ok p s):DS w (tU p s g) p.eb p.sb p.pb p.n (eH p s).length s.kd (kI s g) (B.n6 (eH p s) s.M):=by
 refine⟨N2 h.q o.lt (by have:=o.ll;have:=o.lw.d;omega) (by have:=o.kl;have:=hP.n2;omega) (λu G=>by have:=(o.fw u G trivial).n2;omega)<|λu G i hi=>(hP.rg _ ((o.fw u G trivial).f i hi).1).2,λk H=>⟨h.q.lt H,λe=>?_⟩,h.S,o.hl,hP.n1,hP.n2⟩;obtain⟨x,y,z,J,W⟩:=H;exact J (h.i x y z 1 0 0 k W<|ag e).1
theorem J4(eb tb:Nat)(E Tk:Nat->Value)(R:aa->Prop)(w:aa)(o:Full w eb 144 44 44 E)(u:Full w tb 160 7 7 Tk)(H:eN 173 #[P0 eb,ah ((5:Nat):Int),P0 tb,ah 0] ((w.setCell (az tb 2)<|.bool false).setCell (az eb 42)<|.bool true) λw'=>R w'):eN 156 #[P0 eb,P0 tb] w λw'=>R w':=by
 let⟨y,a0⟩:=o.cells 42 af;let⟨c2,z2⟩:=u.cells 2 af;have Z:=bj H;generalize i:E 42=Y at y;generalize G:Tk 2=y2 at c2;delta eN;go_in;go_wp2_with fail
 refine dq Z λw2 J=>?_;have HR:=bj J;go_wp2
 go_end0;grind
def Pl.Jn(s:Pl):Pl:={s with sp:=true}
theorem J3(h:dZ p s g w)(ht:ft s t)(y:s.ev.length<=100000):eN 156 #[P0 p.eb,P0<|g.tb t] w λw'=>∃r,Tr p s g w (s.mF t) (g.at 9 0 r) w':=by
 have u:Tr p s g w (s.dy t (s.T t).stop) g (iA w (g.tb t) 2<|.bool false):=by
  refine h.flag ht rfl rfl ?_ (bq (S:=λk=>k=g.tb t) (dx _ _) (ag rfl) _);refine((h.tk ht).eE 2 _).congr (λj H=>?_);have i:∀a,sl (s.dy t (s.T t).stop) g a t=sl s g a t:=λa=>by
   unfold sl;rw[ky (s:=s) (s':=s.dy t (s.T t).stop) rfl rfl rfl rfl rfl (kh dk) rfl]
  have J:=pS 6 j af
  repeat' rcases J with rfl|J
  .rfl
  .rw[eP _ _ _ _ eo];exact(i 12).symm
  .rw[gU];show _=Value.bool _;rw[dk];rfl
  .rw[eP _ _ _ _ eo];show _=xp p g _;rw[dk];rfl
  .rw[eP _ _ _ _ eo];show _=zD g t _;rw[dk];rfl
  .rw[eP _ _ _ _ eo];show _=Value.int .i64 _;rw[dk];rfl
  rw[eP _ _ _ _ eo];exact(i 5).symm
 have G:Tr p s g w (s.dy t (s.T t).stop).Jn g (iA (iA w (g.tb t) 2<|.bool false) p.eb 42<|.bool true):=by
  refine u.trans<|u.r.zY (s':=(s.dy t (s.T t).stop).Jn) rfl rfl rfl rfl rfl (λa b=>⟨rfl,rfl⟩) ?_ (bq (S:=λk=>k=p.eb) (dx _ _) (ag rfl) _);refine(u.r.E.eE 42 _).congr (λj H=>?_);by_cases e:j=42
  .subst e;rw[gU];rfl
  rw[eP _ _ _ _ e];unfold iQ;by_cases o:j<28
  .grind
  rw[av o,av o,av e,av e];rfl
 refine J4 p.eb (g.tb t) (iQ p s g) (gH p s g t) (λw'=>∃r,Tr p s g w (s.mF t) (g.at 9 0 r) w') w h.E (h.tk ht) ?_;refine dq (Ek (t:=t) 5 0 G.r ht y) ?_;rintro w' ⟨r,W⟩;exact⟨rfl,r,G.trans W⟩
def Ai(p:dH)(s:Pl)(g:eM)(w:aa)(ty:Nat)(l:List B.V)(x:Int)(o:Bool)(w2:aa):Prop:=
 (o=true/\∃(c:Nat) (kd1:B.Kd) (g':eM),x=(c:Int)/\1<=c/\c<=p.n/\kd1.on c=false/\B.kQ kd1 p.n (eH p s) s.M/\JJ (eH p s).length p.n (B.n6 (eH p s) s.M) s.kd kd1/\Tr p s g w (s.pq kd1 c ty l) g' w2/\g'.tb=g.tb/\g'.fb=g.fb) \/
 (o=false/\(∀c,1<=c->c<=p.n->B.nz (eH p s) s.M c)/\∃(kd1:B.Kd) (g':eM),(B.kQ kd1 p.n (eH p s) s.M/\NW s.kd kd1)/\Tr p s g w (s.vU kd1) g' w2/\g'.tb=g.tb)
def Ju{w':aa}{ty:Nat}{v:Value}(h:dZ p s g w)(i:dN (sD p.sb p.pb p.n s.kd<|kI s g) w w')(W:Laid w w' p.sb p.pb p.eb p.n (eH p s).length ty l s.kd (kI s g) (B.n6 (eH p s) s.M) v):∃(x:Int) (o:Bool),v=.tuple #[.agg #[ah x,ah 0],.bool o]/\Ai p s g w ty l x o w':=by
 rcases W with⟨k,Z,e,h1,H,G,u,rfl,y,J⟩|⟨rfl,H,e,G,Y,y⟩
 .refine⟨_,_,rfl,ag ⟨rfl,k+1,e,_,af,af,af,H,G,u,h.NR (s':=s.pq e (k+1) ty l) (vb:=(kI s g).put (k+1) Z ty) rfl rfl rfl rfl rfl rfl rfl rfl rfl rfl rfl y i J,rfl,rfl⟩⟩
 exact⟨_,_,rfl,ak ⟨rfl,H,e,_,Y,h.NR (s':=s.vU e) (vb:=kI s g) rfl rfl rfl rfl rfl rfl rfl rfl rfl rfl rfl G i y,rfl⟩⟩
def BJ{a ty:Nat}(op b c:Nat)(hR:Rn p s t)(ha:a<p.rg (bz s t).f)(Y:s.ev.length<=100000):(∀x w2 u,Ai p s g w ty l x true w2->w2.grownBy u none->eN 149 #[mU p s g t (op,a,b,c),.agg #[ah x,ah 0]] u λw'=>∃s' g',mG p s t a ty l s'/\Tr p s g w s' g' w')/\(∀x w2 u,Ai p s g w ty l x false w2->w2.grownBy u none->eN 156 #[P0 p.eb,P0<|g.tb t] u λw'=>∃s' g',mG p s t a ty l s'/\Tr p s g w s' g' w'):=by
 constructor
 .intro x w2 u hS Z;rcases hS with⟨_,q,o,g',rfl,H,W,h3,J,h5,h6,h7,h8⟩|⟨h0,_⟩
  .have G:=h6.kept Z;have:=sQ (s:=s.pq o q ty l) (g:=g') (t:=t) (i:=de s t) (a:=a) op b c (g.tb t) p.eb (q,0) G.r hR.ht hR.hi ha;rw[h8]at this;refine dq this λw' y=>?_;exact⟨rfl,_,g',ag ⟨q,o,H,W,h3,J,h5,rfl⟩,G.trans y⟩
  cases h0
 intro x w2 u hS Z;rcases hS with⟨h0,_⟩|⟨_,H,o,g',W,h3,J⟩
 .cases h0
 have G:=h3.kept Z;have:=J3 (s:=s.vU o) (g:=g') (t:=t) G.r hR.ht Y;rw[J]at this;refine dq this ?_;rintro w' ⟨r,y⟩;exact⟨rfl,_,_,ak ⟨H,o,W,rfl⟩,G.trans y⟩
def i9{a b c:Nat}(h:dZ p s g w)(hP:PW p)(hR:Rn p s t)(ha:a<p.rg (bz s t).f)(hb:b<=8)(a0:s.ev.length<=100000):dC 163 #[mU p s g t (op,a,b,c),P0<|p.ac+15] w (ah 0) λw'=>∃s' g',mG p s t a 0 (List.replicate b (0,0)) s'/\Tr p s g w s' g' w':=by
 have H:=hP.box h.fix (j:=15) af rfl;refine xg op a b c _ _ _ (p.ac+14) (p.ac+15) (λw'=>∃s' g',mG p s t a 0 (List.replicate b (0,0)) s'/\Tr p s g w s' g' w') w H.1<|λw1 J=>?_;have y:=h.kept J;let⟨E1,E2⟩:=BJ (w:=w1) (g:=g) (ty:=0) (l:=List.replicate b (0,0)) op b c hR ha a0;have a1:=C9 op a b c (g.fb t<|de s t) (g.tb t) p.eb (p.ac+14) (Ai p s g w1 0<|List.replicate b (0,0)) (λw'=>∃s' g',mG p s t a 0 (List.replicate b (0,0)) s'/\Tr p s g w1 s' g' w') w1 (hP.box y.fix (j:=14) af rfl).1 (λw2 G a2=>?_) E1 E2
 .refine dq a1 ?_;rintro w' ⟨s',g',k1,k2⟩;exact⟨rfl,s',g',k1,k2.ahead J⟩
 have i:=y.kept G;refine(zx (tU p s g) op a b c _ _ p.eb p.sb p.pb p.n (eH p s).length s.kd (kI s g) (B.n6 (eH p s) s.M) w2 (Kf i hP hR.ok) hb (i.Gf hP) i.OL).mono ?_;rintro e w3 ⟨v,rfl,W,hL⟩;obtain⟨x,o,rfl,hS⟩:=Ju i W hL;refine⟨x,o,rfl,?_,W.block a2<|λhm=>?_⟩
 .rcases hS with⟨e0,q,u,g',e1,H,Z,h3,Y,h5,h6,h7⟩|⟨e0,H,u,g',Z,h3,Y⟩
  .exact ag ⟨e0,q,u,g',e1,H,Z,h3,Y,h5,h6.ahead G,h7⟩
  exact ak ⟨e0,H,u,g',Z,h3.ahead G,Y⟩
 have:=y.lt ⟨1,0,0,hm⟩;omega
def i12{a b c:Nat}(h:dZ p s g w)(hP:PW p)(hR:Rn p s t)(ha:a<p.rg (bz s t).f)(hb:b<256)(hc:c<p.rg (bz s t).f)(a0:s.ev.length<=100000):dC 163 #[mU p s g t (op,a,b,c),P0<|p.ac+17] w (ah 0) λw'=>∃s' g',mG p s t a (b+1) [(bz s t).R c] s'/\Tr p s g w s' g' w':=by
 have H:=hP.box h.fix (j:=17) af rfl;refine xg op a b c _ _ _ (p.ac+16) (p.ac+17) (λw'=>∃s' g',mG p s t a (b+1) [(bz s t).R c] s'/\Tr p s g w s' g' w') w H.1<|λw1 J=>?_;have y:=h.kept J;let⟨E1,E2⟩:=BJ (w:=w1) (g:=g) (ty:=b+1) (l:=[(bz s t).R c]) op b c hR ha a0;have a1:=C8 op a b c (g.fb t<|de s t) (g.tb t) p.eb (p.ac+16) (Ai p s g w1 (b+1) [(bz s t).R c]) (λw'=>∃s' g',mG p s t a (b+1) [(bz s t).R c] s'/\Tr p s g w1 s' g' w') w1 (hP.box y.fix (j:=16) af rfl).1 (λw2 G a2=>?_) E1 E2
 .refine dq a1 ?_;rintro w' ⟨s',g',k1,k2⟩;exact⟨rfl,s',g',k1,k2.ahead J⟩
 have i:=y.kept G;refine(tW (tU p s g) op a b c _ _ p.eb p.sb p.pb p.n (eH p s).length ((bz s t).R c) s.kd (kI s g) (B.n6 (eH p s) s.M) w2 (Kf i hP hR.ok) hb (In.c i hR.iB op a b c _ _ hc) (i.Gf hP) i.OL).mono ?_;rintro e w3 ⟨v,rfl,W,hL⟩;obtain⟨x,o,rfl,hS⟩:=Ju i W hL;refine⟨x,o,rfl,?_,W.block a2<|λhm=>?_⟩
 .rcases hS with⟨e0,q,u,g',e1,H,Z,h3,Y,h5,h6,h7⟩|⟨e0,H,u,g',Z,h3,Y⟩
  .exact ag ⟨e0,q,u,g',e1,H,Z,h3,Y,h5,h6.ahead G,h7⟩
  exact ak ⟨e0,H,u,g',Z,h3.ahead G,Y⟩
 have:=y.lt ⟨1,0,0,hm⟩;omega
def i10{a b c:Nat}(h:dZ p s g w)(hP:PW p)(hR:Rn p s t)(u:a<p.rg (bz s t).f)(y:b<p.rg (bz s t).f)(o:c<p.rg (bz s t).f):Calls prog 101 #[mU p s g t (op,a,b,c)] w λe w'=>∃(why:Int) (s':Pl),e=.returned (ah why)/\ku p s t (10,a,b,c) why s'/\∃g',Tr p s g w s' g' w':=by
 refine(DR op a b c _ _ p.eb _ _ _ _ _ p.sb p.pb p.n _ s.kd (kI s g) _ s.M w (In.fr h hR.iB) h.S (λi hi=>hR.ok.Al<|hR.n9 hi) hP.n2 u y o (h.Gf hP) h.E.lt<|h.E.ne (h.rg hR.ht hR.hi) eo).mono ?_;rintro e w' (⟨k0,rfl,k1,k2⟩|⟨k0,rfl,k1⟩)
 .exact⟨0,_,rfl,ag ⟨k0,rfl,rfl⟩,g,In.set h hR.iB k1 k2⟩
 exact⟨_,s,rfl,ak ⟨k0,rfl,rfl⟩,g,(Tr.refl h).kept k1⟩
def i11{a b c:Nat}(h:dZ p s g w)(hP:PW p)(hR:Rn p s t)(H:a<p.rg (bz s t).f)(J:b<p.rg (bz s t).f)(y:c<p.rg (bz s t).f):Calls prog 102 #[mU p s g t (op,a,b,c)] w λe w'=>∃(why:Int) (s':Pl),e=.returned (ah why)/\ku p s t (11,a,b,c) why s'/\∃g',Tr p s g w s' g' w':=by
 refine(DQ op a b c _ _ p.eb _ _ _ _ _ p.sb p.pb p.n (eH p s).length _ s.kd (kI s g) (B.n6 (eH p s) s.M) _ w (In.fr h hR.iB) h.S hR.ok.hl (λi hi=>hR.ok.Al<|hR.n9 hi) (λi hi Y=>B.px.vS (hR.n9 hi) Y) hP.n2 H J y (h.Gf hP) h.E.lt<|λo=>h.OL<|ak<|ak o).mono ?_;rintro e w' (⟨k0,rfl,u,k1,k2,G,W⟩|⟨k0,rfl,k1⟩)
 .exact⟨0,s.uS ((bz s t).R a).1 ((bz s t).R b).2.toNat<|(bz s t).R c,rfl,ag ⟨k0,rfl,rfl⟩,_,h.NR (s':=s.uS ((bz s t).R a).1 ((bz s t).R b).2.toNat<|(bz s t).R c) (vb:=u) rfl rfl rfl rfl rfl rfl rfl rfl rfl rfl (kh W) k1 (k2.mono<|λk o _=>ak<|ak o) G⟩
 exact⟨_,s,rfl,ak ⟨k0,rfl,rfl⟩,g,(Tr.refl h).kept k1⟩
def L8(h:dZ p s g w)(hP:PW p)(G:Ok p s)(o:p.wk<=50):eN 69 #[P0 p.sb,ah p.wk] w λw'=>∃g',Tr p s g w (s.jh p) g' w':=by
 refine dq (D5 (tU p s g) p.eb p.sb p.pb p.n (eH p s).length p.wk s.kd (kI s g) (B.n6 (eH p s) s.M) w (Kf h hP G) o) ?_;rintro w' ⟨i,k1,k2,y,H,u⟩;exact⟨rfl,_,h.NR (s':=s.jh p) (vb:=i) rfl rfl rfl rfl rfl rfl rfl rfl rfl rfl (kh u) k1 y H⟩
theorem Mh(h:dZ p s g w)(hR:Rn p s t):dC 164 #[P0<|g.tb t] w (P0<|g.fb t<|de s t) λw'=>w.grownBy w' none:=by
 have J:=Be hR.iB;have u:=h.row (x:=12) (y:=t) (by grind[fi])<|iM af hR.ht;have i:eS s 12 t=de s t+1:=J;let⟨o,cap,he⟩:=ef u af;rw[he,i]at u;have G:w.ownsRow 0 184 1 (dD o (de s t+1) cap) (de s t+1) (((List.range (s.T t).fr.length).map<|g.fb t).map P0):=u;have c1:w.cell? (az (g.tb t) 1)=some (dD o (de s t+1) cap):=by
  rw[(h.tk hR.ht).cell 1 af];show some (sl s g 12 t)=_;rw[he,i]
 have H:w.cell? (az o<|de s t)=some (P0<|g.fb t<|de s t):=(ik G).2.2.2.2.2 (de s t) _ (by
  grind)
 exact Mi (g.tb t) o cap (de s t) (g.fb t<|de s t) w c1 H<|gD hR.fw.n2
def LG(h:dZ p s g w)(hR:Rn p s t):dC 185 #[P0<|g.fb t<|de s t] w (.bool (decide ((bz s t).nx=p.len (bz s t).f))) λw'=>w.grownBy w' none:=
 DL _ _ _ _ _ _ _ w (In.fr h hR.iB).1
def Mj(h:dZ p s g w)(hP:PW p)(hR:Rn p s t)(hn:(bz s t).nx≠p.len (bz s t).f){a b c:Nat}(hi:p.ins (bz s t).f (bz s t).nx=(op,a,b,c)):dC 186 #[P0<|g.fb t<|de s t] w (Dl op a b c) λw'=>Tr p s g w (s.gL t) g w':=by
 have o:=In.fr h hR.iB;have i:=hR.ff;let⟨G,H⟩:=hP.cd w h.fix (bz s t).f i.1;let⟨k0,k1,k2,u⟩:=H (bz s t).nx af;rw[hi]at k0 k1 k2 u;refine dq (Eo _ _ _ _ _ _ op a b c _ w o.1 af (hP.le _ i.1) G k0 k1 k2 u) ?_;rintro w' ⟨y,J⟩;exact⟨rfl,In.next h hR.iB y ⟨J,o.2.1.block<|y.block _ o.2.1.lt (by intro e;injection e with e;exact o.2.2 e.symm),o.2.2⟩⟩
def Dv(v:B.V)(h:dZ p s g w)(hP:PW p)(hR:Rn p s t)(i:s.ev.length<=100000):eN 107 #[P0<|g.tb t,vA v] w λw'=>∃g',Tr p s g w (s.back t v) g' w':=by
 have hn:=hR.fw.n2;have o:=hR.ok.kl;have u:=hP.n2;refine wV v h hR.ok.lw hR.ok.ww hR.ht hR.lf hR.wh hR.fw.n1 af hR.lv hR.ok.nd hR.ok.lt hR.ok.ol af i<|λe=>?_;have:=hR.fw.b (de s t-1)<|gD hR.hi;rw[show de s t-1+1=de s t by omega]at this;exact this
def Nd{why:Nat}(hw:why<=8)(h:dZ p s g w)(hP:PW p)(hR:Rn p s t)(i:s.ev.length<=100000):eN 187 #[P0 p.eb,P0<|g.tb t,ah why] w λw'=>∃g',Tr p s g w (s.leave t (0,-(why:Int)) 3 why) g' w':=by
 have o:=hR.ok.kl;have u:=hP.n2;exact Nc hw h hR.ok.lw hR.ok.ww hR.ht hR.lv hR.ok.nd hR.ok.lt hR.ok.ol af i
def LJ(p:dH)(s:Pl)(g:eM)(w:aa)(t n:Nat)(wr:aa):Prop:=
 ∃s1 g1 k,Tr p s g w s1 g1 wr/\Rn p s1 t/\s1.ev=s.ev/\(s1.T t).fr.length<=k/\s1.ends p t k=s.ends p t 21/\(s1.T t).fr.length=n
theorem DE(i:0<k)(h:(bz s t).nx≠p.len (bz s t).f):s.ends p t k=s:=by
 cases k with
 |zero=>omega
 |succ k=>unfold Pl.ends;grind
theorem xd(e:(s.T t).run=true)(h:(bz s t).nx=p.len (bz s t).f):s.ends p t (k+1)=(s.back t (0,0)).ends p t k:=by
 show(if(s.T t).run=true/\(bz s t).nx=p.len (bz s t).f then Pl.ends p t k (s.back t (0,0)) else s)=_;grind
theorem DD(k:Nat)(i:(s.T t).run=false):s.ends p t k=s:=by
 cases k with
 |zero=>rfl
 |succ k=>unfold Pl.ends;grind
theorem dZ.run{p:dH}{s:Pl}{g:eM}{w:aa}{t:Nat}(h:dZ p s g w)(ht:ft s t){b:Bool}(e:(s.T t).run=b):w.cell? (az (g.tb t) 2)=some (.bool b):=by
 rw[(h.tk ht).cell 2 af];show some (Value.bool (s.T t).run)=_;rw[e]
def Cs(s:Pl)(t:Nat):de (s.gL t) t=de s t:=by
 unfold de;rw[show((s.gL t).T t).fr.length=(s.T t).fr.length from(gO s t (de s t) t {bz s t with nx:=(bz s t).nx+1}).2.2.2.2]
