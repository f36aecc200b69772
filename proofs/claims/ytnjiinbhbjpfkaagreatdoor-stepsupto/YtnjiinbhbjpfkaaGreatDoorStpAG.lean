import Derived.Test.YtnjiinbhbjpfkaaGreatDoorStpAF
import Derived.Test.YtnjiinbhbjpfkaaGreatDoorStpAD
import Derived.Deep.DeepHandedRow
import Derived.Deep.SlicePairs
set_option maxRecDepth 100000
set_option maxHeartbeats 0
set_option linter.all false
namespace Go.Proofs.YtnjiinbhbjpfkaaGreatDoor
open Go.RowKit Go.Proofs.Tryz
section
theorem ET(s:ByteArray)(c0 c1 i o:Int)(w:World)(h:qT c0 c1 i o=false): Calls prog 31 #[.string s,.agg #[.int .i64 c0,.int .i64 c1,.int .i64 i,.int .i64 o]] w λe w'=>e=.returned (.tuple #[.pointer none,.agg #[.int .i64 1,.int .i64 0]])/\Below w.heap.size w w':=by
 have hX:decide (c0<1)=true\/decide (c0<1)=false/\(decide (200<c0)=true\/decide (200<c0)=false/\(decide (c1<1)=true\/decide (c1<1)=false/\(decide (50<c1)=true\/decide (50<c1)=false/\(decide (i<1)=true\/decide (i<1)=false/\(decide (50<i)=true\/decide (50<i)=false/\(decide (o<1)=true\/decide (o<1)=false/\decide (16<o)=true)))))):=by
  simp[qT,tR]at h;simp only[decide_eq_true_eq,decide_eq_false_iff_not];omega
 clear h;rcases hX with u|⟨u,Y|⟨Y,H|⟨H,y|⟨y,G|⟨G,W|⟨W,J|⟨J,Z⟩⟩⟩⟩⟩⟩⟩
 all_goals
  go_in;go_wp2_with fail
  refine da (v:=.tuple #[.pointer none,.agg #[.int .i64 1,.int .i64 0]]) (by simp[results,results31,go_sem]) rfl ⟨rfl,?_⟩;exact((eM _ _).alloc (bj _) _).alloc (by simp) _
theorem ES(s:ByteArray)(c0 c1 u G:Int)(w:World)(Z:s.size<=maxLen)(J:s.size<=140737488355328)(o:qT c0 c1 u G=true)(hn:(M.jO s).2=false): Calls prog 31 #[.string s,.agg #[.int .i64 c0,.int .i64 c1,.int .i64 u,.int .i64 G]] w λe w'=>e=.returned (.tuple #[.pointer none,.agg #[.int .i64 2,.int .i64 ((M.jO s).1:Int)]])/\Below w.heap.size w w':=by
 have HS:Hid (s.size<=maxLen):=Z;have HN:Hid ((M.jO s).2=false):=hn;simp[qT,tR]at o;have b0:decide (c0<1)=false:=by simp;omega
 have b1:decide (200<c0)=false:=by simp;omega
 have b2:decide (c1<1)=false:=by simp;omega
 have b3:decide (50<c1)=false:=by simp;omega
 have b4:decide (u<1)=false:=by simp;omega
 have b5:decide (50<u)=false:=by simp;omega
 have b6:decide (G<1)=false:=by simp;omega
 have b7:decide (16<G)=false:=by simp;omega
 go_in;go_wp2_with fail
 refine(pt s _ HS.out J).mono ?_;rintro e w1 ⟨hP,y⟩;obtain⟨W,Y⟩:=qL y;have H:Hid (Below w.heap.size w w1):=(((eM _ _).alloc (bj _) _).alloc (by simp) _).trans (y.mono (by simp;omega));have d0:w1.cell? ⟨w.heap.size+1,0,none⟩=some (.int .i64 0):=by rw[W _ _ (by simp)];simp[go_sem]
 have d1:w1.cell? ⟨w.heap.size+1,1,none⟩=some (.int .i64 0):=by rw[W _ _ (by simp)];simp[go_sem]
 rcases hP with⟨_,rfl⟩|⟨i,_⟩
 .generalize hP:(M.jO s).1=P at *;have HP:Hid ((M.jO s).1=P):=hP;go_wp2_with fail
  refine da (v:=.tuple #[.pointer none,.agg #[.int .i64 2,.int .i64 P]]) (by simp[results,results31,go_sem,d0,d1]) rfl ⟨by rw[HP.out],?_⟩;repeat (refine Below.setCell ?_ (by simp) _)
  exact H.out
 rw[HN.out]at i;cases i
theorem A9(s:ByteArray)(c0 c1 o u:Int)(w:World)(G:s.size<=maxLen)(y:s.size<=140737488355328)(h:qT c0 c1 o u=false\/(M.jO s).2=false): Calls prog 31 #[.string s,.agg #[.int .i64 c0,.int .i64 c1,.int .i64 o,.int .i64 u]] w λe w'=>e=.returned (.tuple #[.pointer none,.agg #[.int .i64 (told s c0 c1 o u).1,.int .i64 (told s c0 c1 o u).2.1]])/\Below w.heap.size w w':=by
 unfold told;by_cases i:qT c0 c1 o u=true
 .have hn:=h.resolve_left (λe=>by rw[e]at i;cases i);rw[aj i,aa (by rw[hn];decide)];exact ES s c0 c1 o u w G y i hn
 rw[aa i];exact ET s c0 c1 o u w (by simpa using i)
theorem Jh(n:Int)(w:World):Calls prog 32 #[.int .i64 n] w λe w'=>e=.returned (.int .i64 n)/\w'=w:=by
 go_in;go_wp2
 go_ret;exact⟨rfl,rfl⟩
theorem C2(s:ByteArray)(c0 c1 G H:Int)(w:World)(hs:s.size<=maxLen)(W:s.size<=140737488355328)(hT:mB w)(h:qT c0 c1 G H=false\/(M.jO s).2=false): Calls prog 14 #[.string s,.agg #[.int .i64 c0,.int .i64 c1,.int .i64 G,.int .i64 H]] w λe w'=>e=.returned (.tuple #[.pointer none,.bool true])/\Below w.heap.size w w':=by
 have HS:=az hs;have KT:Hid (mB w):=hT;have HH:=az h;go_in;go_wp2_with fail
 refine(ux s c0 c1 G H _ HS.out (KT.out.alloc _) (λ_ _=>False) (λh1 h2=>HH.out.elim (λh=>ch h1 (by rw[h];decide)) (λh=>ch h2 (by rw[h];decide)))).mono ?_;rintro e w1 ⟨o,⟨x,y,rfl,_,hx⟩|⟨_,_,_,_,hF,_⟩⟩
 case inr=>exact hF.elim
 obtain⟨u,Z⟩:=qL o;have hz:=o.size;simp at hz;have J:=az (((eM _ _).alloc (bj _) _).trans (o.mono (by simp)));have a0:w1.cell? ⟨w.heap.size,0,none⟩=some (.int .i64 c0):=by rw[u _ _ (by simp)];simp[go_sem]
 have a1:w1.cell? ⟨w.heap.size,1,none⟩=some (.int .i64 c1):=by rw[u _ _ (by simp)];simp[go_sem]
 have a2:w1.cell? ⟨w.heap.size,2,none⟩=some (.int .i64 G):=by rw[u _ _ (by simp)];simp[go_sem]
 have a3:w1.cell? ⟨w.heap.size,3,none⟩=some (.int .i64 H):=by rw[u _ _ (by simp)];simp[go_sem]
 have HX:Hid (told s c0 c1 G H=(x,y,false)):=hx;have l0:w.heap.size<w1.heap.size:=by omega
 go_wp2_with fail
 refine(A9 s c0 c1 G H _ HS.out W HH.out).mono ?_;rw[HX.out];rintro e w2 ⟨rfl,i⟩;obtain⟨u,Z⟩:=qL i;have a4:=i.size;simp at a4;have Y:Hid (Below w.heap.size w w2):=(J.out.alloc (by omega) _).trans (i.mono (by simp;omega));have f0:w2.cell? ⟨w1.heap.size,0,none⟩=some (.int .i64 x):=by rw[u _ _ (by simp)];simp[go_sem]
 have f1:w2.cell? ⟨w1.heap.size,1,none⟩=some (.int .i64 y):=by rw[u _ _ (by simp)];simp[go_sem]
 have l1:w1.heap.size<w2.heap.size:=by omega
 go_wp2_with fail
 go_quiet ((go_at_call 32;exact Calls.quiet_of_same (Jh _ _)))
 go_wp2_with fail
 go_ret2
 refine⟨rfl,?_⟩;repeat (first|exact Y.out|refine Below.alloc ?_ (by first|omega|(simp;omega)) _|refine below_drewN ?_ _)
theorem F.iA.join{w0 w w':World}{O N:Nat->F.Ob}(h:F.iA w0 O w)(u:F.iA w N w')(k:Nat):F.iA w0 (λi=>if k<=i/\i<k+3 then N (i-k) else O i) w':=by
 have e:=u.b;refine h.to (S:=λ_=>False) (C:=λi=>k<=i/\i<k+3) ⟨e.os,e.tape,e.output,e.size,λa o _=>e.block a o⟩ (λ_ h=>h.elim) (λi hi=>aa hi) (λi hi=>?_) (λi a hi o=>ab ?_) (λi j a hi G o e=>?_)
 .simp only[aj hi];exact u.ok _
 .simp only[aj hi]at o;exact u.lo _ a o
 simp only[aj hi]at o;simp only[aj G]at e;have:=u.dj _ _ a o e;omega
theorem D.I0(p:F.dz)(K:Nat)(ρ:Nat->Nat):D.eK p K F.lU D.xu ρ:=by
 have e:∀c,¬D.ou p F.lU c:=λc o=>o (λ_=>False) (λi hi _=>by
  have H:i<0:=hi;omega) (λk u=>u.elim)
 refine⟨rfl,rfl,rfl,rfl,rfl,rfl,λt ht=>(by cases ht),λt ht _=>?_,λc o=>(e c o).elim,λc J o=>(e c o).elim,λv G=>(by cases G),λx y _ _=>List.Pairwise.nil,λt ht=>(by cases ht),⟨rfl,bj _,bj _⟩,dc _,⟨dc _,dc _⟩⟩;have W:=ht.1;have Y:t<=0:=ht.2;omega
namespace F
theorem Ji(n:Int)(w:World):Calls prog 32 #[.int .i64 n] w λe w'=>e=.returned (.int .i64 n)/\w'=w:=by
 go_in;go_wp2
 go_ret;exact⟨rfl,rfl⟩
theorem Hs{p:dz}{d:D.Dp}{s:ByteArray}{n q wk t:Nat}(hP:J3 p)(e:tK p s n q wk t)(o:D.L5 d s n q wk t)(y:(M.jO s).2=true)(hn:n<=200)(ht:1<=t)(g:eE)(mb:Nat)(h:D.Dg)(pb:Nat):(⟨p,lU.born 0 (0,0) (0,0),g,mb,d,D.xu.born 0 (0,0) (0,0),h,pb⟩:oV).Good 0:=by
 have e1:p.n=n:=by have:=e.n;omega
 have e2:p.qn=q:=by have:=e.qn;omega
 have e3:p.wk=wk:=by have:=e.wk;omega
 have Z:p.mt=t:=by have:=e.mt;omega
 have Y:(D.xu.born 0 (0,0) (0,0)).lD=D.xu.born 0 (0,0) (0,0):=rfl;refine⟨hP,⟨by rw[o.n,e1],by rw[o.qn,e2],by rw[o.wk,e3],by rw[o.mt,Z],by rw[o.nf,e.nf],λf _=>by rw[o.len,e.len],λf _=>by rw[o.rg,e.rg],λf i _ _=>by rw[o.ins,e.ins]⟩,λf G=>?_,by show d.n<=_;rw[o.n];omega,?_,⟨λ_=>0,?_⟩,?_,?_⟩
 .have:=M.fK (D.pK ((nJ y).2.2 f (by rw[<-e.nf];exact G))).1;show 2<=p.rg f/\p.rg f<=8;rw[e.rg];omega
 .exact Ng.born ⟨λ_ _ G=>(by cases G),λ_ _ W=>(by cases W),λ_ W=>(by cases W)⟩ 0 iP.z iP.z
 .show D.eK p 1 (lU.born 0 (0,0) (0,0)) (D.xu.born 0 (0,0) (0,0)).lD (λ_=>0);rw[Y];have:=(D.I0 p 1 (λ_=>0)).born (f:=0) (u:=(0,0)) (v:=(0,0)) (Je p) (by show 0<p.mt;omega) (dN.num 0) (dN.num 0);exact this
 .rw[show(lU.born 0 (0,0) (0,0)).nt=1 from oj lU 0 (0,0) (0,0)];decide
 rw[show(lU.born 0 (0,0) (0,0)).nt=1 from oj lU 0 (0,0) (0,0)];omega
def A1(xo:Option oV)(i:Nat):Ob:=if i=0 then oA xo else if i=1 then oB xo else if i=2 then oP xo else .nil
theorem CK{w w':World}(u:Below w.heap.size w w'):iA w (A1 none) w':=by
 have e:∀i,A1 none i=.nil:=λi=>by
  unfold A1;split
  .rfl
  split
  .rfl
  split<;>rfl
 exact⟨u,λi=>by rw[e i];trivial,λi j k hi _=>by rw[e i]at hi;exact hi.elim,λi k o=>by rw[e i]at o;exact o.elim⟩
theorem CJ{w w':World}{x:oV}(Y:Below w.heap.size w w')(J:tN x.p x.s x.g x.mb w')(hR:D.dQ x.d x.m x.h w')(hP:w'.heap[x.pb]? = some (.cells #[P0 x.mb,P0 x.h.mb] 74 (0,0))){a b c:Nat}(ha:w.heap.size<=a)(h1:∀k,ey x.p x.s x.g k\/k=x.mb->a<=k/\k<b)(h2:∀k,D.ey x.d x.m x.h k->b<=k/\k<c)(h3:c<=x.pb)(W:a<=b)(a0:b<=c):iA w (A1 (some x)) w':=by
 have o:∀i k,(A1 (some x) i).bs k->(i=0/\a<=k/\k<b)\/(i=1/\b<=k/\k<c)\/(i=2/\c<=k):=λi k e=>by
  unfold A1 at e;by_cases G:i=0
  .rw[aj G]at e;exact ag ⟨G,h1 k e⟩
  rw[aa G]at e;by_cases y:i=1
  .rw[aj y]at e;exact ab (ag ⟨y,h2 k e⟩)
  rw[aa y]at e;by_cases u:i=2
  .rw[aj u]at e;have Z:k=x.pb:=e;exact ab (ab ⟨u,by omega⟩)
  rw[aa u]at e;exact e.elim
 refine⟨Y,λi=>?_,λi j k hi hj=>?_,λi k e=>?_⟩
 .unfold A1;split
  .exact J
  split
  .exact hR
  split
  .exact hP
  trivial
 .rcases o i k hi with h|h|h<;>rcases o j k hj with H|H|H<;>omega
 rcases o i k e with h|h|h<;>omega
theorem uw(s:ByteArray)(c0 c1 J W:Nat)(w:World)(hs:s.size<=maxLen)(aH:s.size<=140737488355328)(hT:mB w)(g0:1<=c0)(g1:c0<=200)(g2:1<=c1)(g3:c1<=50)(g4:1<=J)(g5:J<=50)(g6:1<=W)(g7:W<=16)(a7:(M.jO s).2=true)(a9:Tm s): Calls prog 14 #[.string s,.agg #[.int .i64 (c0:Int),.int .i64 (c1:Int),.int .i64 (J:Int),.int .i64 (W:Int)]] w λe w'=>∃x:oV,e=.returned (.tuple #[P0 x.pb,.bool true])/\x.Good 0/\x.s=lU.born 0 (0,0) (0,0)/\tK x.p s c0 c1 J W/\iA w (A1 (some x)) w':=by
 have HS:=az hs;have KT:Hid (mB w):=hT;have a6:=az a7;have aC:=az a9;have H:qT c0 c1 J W=true:=by simp[qT,tR];omega
 have aJ:=az H;have i:Hid (1<=c0/\c0<=200/\1<=c1/\c1<=50/\1<=J/\J<=50/\1<=W/\W<=16):=⟨g0,g1,g2,g3,g4,g5,g6,g7⟩;clear hs hT H a7 a9 g0 g1 g2 g3 g4 g5 g6 g7;go_in;go_wp2_with fail
 refine(Ha s c0 c1 J W _ HS.out (KT.out.alloc _) (λ_=>aC.out)).mono ?_;rintro e w1 ⟨Y,⟨_,_,_,aD⟩|⟨mb,p,g,rfl,hP,hM,u,o⟩⟩
 .exact ch ⟨aJ.out,a6.out⟩ aD
 obtain⟨hc,hf⟩:=qL Y;have hz:=Y.size;simp at hz;have a8:=az (((eM _ _).alloc (bj _) _).trans (Y.mono (by simp)));have a0:w1.cell? ⟨w.heap.size,0,none⟩=some (.int .i64 c0):=by rw[hc _ _ (by simp)];simp[go_sem]
 have a1:w1.cell? ⟨w.heap.size,1,none⟩=some (.int .i64 c1):=by rw[hc _ _ (by simp)];simp[go_sem]
 have a2:w1.cell? ⟨w.heap.size,2,none⟩=some (.int .i64 J):=by rw[hc _ _ (by simp)];simp[go_sem]
 have a3:w1.cell? ⟨w.heap.size,3,none⟩=some (.int .i64 W):=by rw[hc _ _ (by simp)];simp[go_sem]
 have a5:=az (ay hP (ay hM (ay u o)));clear hc hf Y hP hM u o;have l0:w.heap.size<w1.heap.size:=by omega
 go_wp2_with fail
 have aA:=az (D.Jg s c0 c1 J W (w1.alloc (.cells #[.int .i64 0,.int .i64 0] 42)) HS.out aH i.out.1 i.out.2.1 i.out.2.2.1 i.out.2.2.2.1 i.out.2.2.2.2.1 i.out.2.2.2.2.2.1 i.out.2.2.2.2.2.2.1 i.out.2.2.2.2.2.2.2 a6.out);refine aA.out.mono ?_;rintro e w2 ⟨y,d,h,rfl,Z,hR,a4⟩;obtain⟨hc,hf⟩:=qL y;have aF:=y.size;simp at aF;have aB:Hid (Below w.heap.size w w2):=(a8.out.alloc (by omega) _).trans (y.mono (by simp;omega));have f0:w2.cell? ⟨w1.heap.size,0,none⟩=some (.int .i64 0):=by rw[hc _ _ (by simp)];simp[go_sem]
 have f1:w2.cell? ⟨w1.heap.size,1,none⟩=some (.int .i64 0):=by rw[hc _ _ (by simp)];simp[go_sem]
 have aG:Hid (tN p (lU.born 0 (0,0) (0,0)) g mb w2):=yG a5.out.2.1 (λk G=>(y.block k (by simp;have:=(a5.out.2.2.2 k G).2;omega)).trans (ak _ _ _ (a5.out.2.2.2 k G).2));have aE:=az (ay Z (ay hR a4));clear hc hf y a0 a1 a2 a3 a8 aA Z hR a4;have l1:w1.heap.size<w2.heap.size:=by omega
 go_wp2_with fail
 go_quiet ((go_at_call 32;exact Calls.quiet_of_same (Ji _ _)))
 go_wp2_with fail
 go_ret2
 have hg:w2.grownBy (((w2.alloc (.cells #[.int .i64 0,.int .i64 0] 42)).drewN nq).alloc (.cells #[P0 mb,P0 h.mb] 74)) none:=au (db (au (ax _ _) _) nq) _;have aI:(((w2.alloc (.cells #[.int .i64 0,.int .i64 0] 42)).drewN nq).alloc (.cells #[P0 mb,P0 h.mb] 74)).heap[w2.heap.size+1]? = some (.cells #[P0 mb,P0 h.mb] 74 (0,0)):=by
  have:=bf ((w2.alloc (.cells #[.int .i64 0,.int .i64 0] 42)).drewN nq) (.cells #[P0 mb,P0 h.mb] 74);simpa using this
 obtain⟨hP,_,u,o⟩:=a5.out;obtain⟨Z,hR,a4⟩:=aE.out;refine⟨⟨p,lU.born 0 (0,0) (0,0),g,mb,d,D.xu.born 0 (0,0) (0,0),h,w2.heap.size+1⟩,rfl,Hs hP u Z a6.out i.out.2.1 i.out.2.2.2.2.2.2.1 g mb h _,rfl,u,CJ (a:=w.heap.size) (b:=w1.heap.size) (c:=w2.heap.size) (aB.out.trans ⟨hg.os,hg.tape,hg.output,hg.size,λk G=>hg.block k (by omega) (by intro e;cases e)⟩) (yG aG.out (λk G=>hg.block k (by have:=(o k G).2;omega) (by intro e;cases e))) (hR.kept hg) aI (bj _) (λk G=>⟨by have:=(o k G).1;simp at this;omega,(o k G).2⟩) (λk G=>⟨by have:=a4 k G;simp at this;omega,hR.lt G⟩) (by show w2.heap.size<=w2.heap.size+1;omega) (by omega) (by omega)⟩
theorem FY(s:ByteArray)(c0 c1 o i:Int)(w:World)(hs:s.size<=maxLen)(y:s.size<=140737488355328)(H:(M.jO s).2=true->Tm s)(hT:mB w)(Y:qT c0 c1 o i=false\/(M.jO s).2=false->Calls prog 14 #[.string s,.agg #[.int .i64 c0,.int .i64 c1,.int .i64 o,.int .i64 i]] w λe w'=>e=.returned (.tuple #[.pointer none,.bool true])/\Below w.heap.size w w'): Calls prog 14 #[.string s,.agg #[.int .i64 c0,.int .i64 c1,.int .i64 o,.int .i64 i]] w λe w'=>∃G:Option oV,e=.returned (.tuple #[pV G,.bool true])/\ts G 0/\iA w (A1 G) w':=by
 by_cases u:qT c0 c1 o i=true/\(M.jO s).2=true
 .have hb:1<=c0/\c0<=200/\1<=c1/\c1<=50/\1<=o/\o<=50/\1<=i/\i<=16:=by
   have:=u.1;simp[qT,tR]at this;omega
  obtain⟨n,rfl⟩:∃n:Nat,c0=(n:Int):=⟨c0.toNat,by omega⟩;obtain⟨q,rfl⟩:∃q:Nat,c1=(q:Int):=⟨c1.toNat,by omega⟩;obtain⟨k,rfl⟩:∃k:Nat,o=(k:Int):=⟨o.toNat,by omega⟩;obtain⟨m,rfl⟩:∃m:Nat,i=(m:Int):=⟨i.toNat,by omega⟩;refine(uw s n q k m w hs y hT (by omega) (by omega) (by omega) (by omega) (by omega) (by omega) (by omega) (by omega) u.2 (H u.2)).mono ?_;rintro e w' ⟨x,rfl,hG,_,_,Z⟩;exact⟨some x,rfl,hG,Z⟩
 refine(Y ?_).mono ?_
 .by_cases J:qT c0 c1 o i=true
  .right
   cases h2:(M.jO s).2 with
   |true=>exact ch ⟨J,h2⟩ u
   |false=>rfl
  left
  cases h2:qT c0 c1 o i with
  |true=>exact ch h2 J
  |false=>rfl
 rintro e w' ⟨rfl,W⟩;exact⟨none,rfl,trivial,CK W⟩
end F
end
namespace F
theorem Tryz.Ds:(prog.info? 169).map (λi=>(i.zero,i.size,i.bytes))=some (some (.agg #[.int .i64 0,.int .u8 0]),2,16):=by kernel_rfl
structure vX(w:World) (ad:Option Addr) (len:Nat) (kd hh tk:Nat->Int) (ia:Nat->Option Addr) (gm ic:Nat->Nat):Prop where
 n:ad=none->len=0
 z:∀a,ad=some a->∀i,i<len->a.block<w.heap.size/\w.cell? (a.add (i*4))=some (.int .i64 (kd i))/\w.cell? (a.add (i*4+1))=some (.int .i64 (hh i))/\w.cell? (a.add (i*4+2))=some (.int .i64 (tk i))/\w.cell? (a.add (i*4+3))=some (.slice (ia i) (gm i) (ic i))
 t:∀i,i<len->-9223372036854775808<=tk i/\tk i<=9223372036854775807
structure LZ(w:World) (ad:Option Addr) (len:Nat) (kd hh tk:Nat->Int) (ia:Nat->Option Addr) (gm ic:Nat->Nat) (il:Nat->List (Int×Nat)):Prop extends vX w ad len kd hh tk ia gm ic where
 i:∀i,i<len->It w (ia i) (gm i) (il i)
theorem vX.at{w wr:World}{ad:Option Addr}{len:Nat}{kd hh tk:Nat->Int}{u:Nat->Option Addr}{gm ic:Nat->Nat}(h:vX w ad len kd hh tk u gm ic)(y:Below w.heap.size w wr){a:Addr}(Y:ad=some a){i:Nat}(hi:i<len):a.block<wr.heap.size/\wr.cell? (a.add (i*4))=some (.int .i64 (kd i))/\wr.cell? ⟨(a.add (i*4)).block,(a.add (i*4)).off+1,none⟩=some (.int .i64 (hh i))/\wr.cell? ⟨(a.add (i*4)).block,(a.add (i*4)).off+2,none⟩=some (.int .i64 (tk i))/\wr.cell? ⟨(a.add (i*4)).block,(a.add (i*4)).off+3,none⟩=some (.slice (u i) (gm i) (ic i)):=by
 obtain⟨o,H,W,G,J⟩:=h.z a Y i hi;have e:∀m,wr.cell? (a.add m)=w.cell? (a.add m):=λm=>aw (a:=a.add m) (by rw[gX];exact y.block _ o);refine⟨dm o y.size,(e _).trans H,?_,?_,?_⟩
 .have:=(e (i*4+1)).trans W;rw[<-D.kS a (i*4) 1]at this;exact this
 .have:=(e (i*4+2)).trans G;rw[<-D.kS a (i*4) 2]at this;exact this
 have:=(e (i*4+3)).trans J;rw[<-D.kS a (i*4) 3]at this;exact this
theorem Kw{w0 w w':World}{W J:Option oV}{O:Nat->Ob}{ob mo bk:Nat}(h:iA w0 O w)(ho:∀i,O i=if i<3 then A1 W i else if i<6 then A1 J (i-3) else .nil)(hg:w.grownBy w' none)(h1:w.heap.size<=ob)(h2:w.heap.size<=bk)(h3:ob≠bk)(hb:jB w' ob 169 (mo*2))(u:Full w' bk 81 3 3 (wm 0 (.slice none 0 0) (.slice none 0 0)))(hx:ts W 0)(o:ts J 0)(Z:mo<=1000000008):pS w0 ⟨W,J,ob,mo,bk,0,(none,0),[],(none,0),[]⟩ 0 w':=by
 refine⟨?_,hx,o,Z,bj _,bj _,bj _,λy o=>(by cases o),λy o=>(by cases o)⟩;have H:∀i k,6<=i->((⟨W,J,ob,mo,bk,0,(none,0),[],(none,0),[]⟩:St).O i).bs k->(i=6/\k=ob)\/(i=7/\k=bk):=λi k hi u=>by
  by_cases G:i<14
  .rcases yI G with rfl|rfl|rfl|rfl|rfl|rfl|rfl|rfl|rfl|rfl|rfl|rfl|rfl|rfl
   .omega
   .omega
   .omega
   .omega
   .omega
   .omega
   .exact ag ⟨rfl,u⟩
   .exact ab ⟨rfl,u⟩
   .cases u
   .cases u
   .obtain⟨y,o,_⟩:=u;cases o
   .obtain⟨y,o,_⟩:=u;cases o
   .exact u.elim
   exact u.elim
  rw[St.Ii _ (by omega)]at u;exact u.elim
 refine h.to (S:=λ_=>False) (C:=λi=>6<=i) (dU hg) (λ_ h=>h.elim) (λi hi=>?_) (λi hi=>?_) (λi k hi Y=>?_) (λi j k hi hj a1 a0=>?_)
 .rw[ho i];have a2:i<6:=by omega
  have hc:i=0\/i=1\/i=2\/i=3\/i=4\/i=5:=by omega
  rcases hc with rfl|rfl|rfl|rfl|rfl|rfl<;>rfl
 .by_cases G:i<14
  .rcases yI G with rfl|rfl|rfl|rfl|rfl|rfl|rfl|rfl|rfl|rfl|rfl|rfl|rfl|rfl
   .omega
   .omega
   .omega
   .omega
   .omega
   .omega
   .exact hb
   .exact u
   .exact dJ _ _ _ _
   .exact dJ _ _ _ _
   .exact λy o=>by cases o
   .exact λy o=>by cases o
   .trivial
   trivial
  rw[St.Ii _ (by omega)];trivial
 .rcases H i k hi Y with⟨_,e⟩|⟨_,e⟩<;>exact ab (by omega)
 rcases H i k hi a1 with⟨e1,e⟩|⟨e1,e⟩<;>rcases H j k hj a0 with⟨e2,e'⟩|⟨e2,e'⟩<;>omega
theorem pS.kept{w0 w w':World}{t:St}{I:Nat}(h:pS w0 t I w)(e:w.grownBy w' none):pS w0 t I w':={ h with Bn:=h.Bn.kept e }
theorem pS.looks{w0 w:World}{t:St}{I:Nat}(h:pS w0 t I w)(hI:I<=2000000):Calls prog 34 #[P0 t.bk] w λe w'=>e=.returned (.bool true)/\w.grownBy w' none:=by
 have o:∀x,x∈t.E->Rd w 48 3 (mG x.2) x.1:=h.Bn.at 10 (X:=.lists 48 3 mG t.E) rfl;have u:∀x,x∈t.J->Rd w 3 1 (qE x.2) x.1:=h.Bn.at 11 (X:=.lists 3 1 qE t.J) rfl;exact G9 (Ev:=wm t.n (.slice t.ra.1 t.E.length t.ra.2) (.slice t.rb.1 t.J.length t.rb.2)) (h.Bn.at 7 (X:=.full t.bk 81 3 (wm t.n (.slice t.ra.1 t.E.length t.ra.2) (.slice t.rb.1 t.J.length t.rb.2))) rfl) rfl rfl (h.Bn.at 8 (X:=.row 119 2 t.ra.1 t.E.length t.ra.2 (gQ t.E)) rfl) (h.Bn.at 9 (X:=.row 121 2 t.rb.1 t.J.length t.rb.2 (gQ t.J)) rfl) (λx i=>⟨o x i,h.lE x i⟩) (λx i=>⟨u x i,h.lJ x i⟩) (by have:=h.E;omega) (by have:=h.J;omega)
theorem G1(s t:ByteArray)(c0 c1 c2 c3 d0 d1 d2 d3:Int)(ad:Option Addr)(len cap:Nat)(kd hh tk:Nat->Int)(ia:Nat->Option Addr)(gm ic:Nat->Nat)(il:Nat->List (Int×Nat))(w:World)(hs:s.size<=maxLen)(bG:s.size<=140737488355328)(ht:t.size<=maxLen)(aR:t.size<=140737488355328)(aS:(M.jO s).2=true->Tm s)(bD:(M.jO t).2=true->Tm t)(hT:mB w)(bO:len<=1048576)(b7:LZ w ad len kd hh tk ia gm ic il)(HL:∀(s:ByteArray) (c0 c1 c2 c3:Int) (w:World),s.size<=maxLen->s.size<=140737488355328->mB w->qT c0 c1 c2 c3=false\/(M.jO s).2=false->Calls prog 14 #[.string s,.agg #[.int .i64 c0,.int .i64 c1,.int .i64 c2,.int .i64 c3]] w λe w'=>e=.returned (.tuple #[.pointer none,.bool true])/\Below w.heap.size w w'): Calls prog 17 #[.string s,.agg #[.int .i64 c0,.int .i64 c1,.int .i64 c2,.int .i64 c3],.string t,.agg #[.int .i64 d0,.int .i64 d1,.int .i64 d2,.int .i64 d3],.slice ad len cap,.bool false] w λe w'=>e=.returned (.bool true)/\Below w.heap.size w w':=by
 obtain⟨i0,hi,bK,bM,bJ⟩:=info_parts Tryz.Ds;have HS:=az (ay hs (ay bG (ay ht aR)));have b0:=az (ay aS bD);have KT:=az hT;have a1:=az b7;have b1:=az HL;clear hs bG ht aR aS bD hT b7 HL;have aZ:iA w (λ_=>.nil) w:=⟨eM _ _,λ_=>trivial,λ_ _ _ h=>h.elim,λ_ _ h=>h.elim⟩;have b6:w.grownBy ((w.alloc (.cells #[.int .i64 c0,.int .i64 c1,.int .i64 c2,.int .i64 c3] 23)).alloc (.cells #[.int .i64 d0,.int .i64 d1,.int .i64 d2,.int .i64 d3] 23)) none:=au (ah _ _ _) _;have aB:=az (aZ.kept b6);have aV:((w.alloc (.cells #[.int .i64 c0,.int .i64 c1,.int .i64 c2,.int .i64 c3] 23)).alloc (.cells #[.int .i64 d0,.int .i64 d1,.int .i64 d2,.int .i64 d3] 23)).heap[w.heap.size]? = some (.cells #[.int .i64 c0,.int .i64 c1,.int .i64 c2,.int .i64 c3] 23 (0,0)):=(ak _ _ _ (by simp)).trans (bf _ _);have aF:((w.alloc (.cells #[.int .i64 c0,.int .i64 c1,.int .i64 c2,.int .i64 c3] 23)).alloc (.cells #[.int .i64 d0,.int .i64 d1,.int .i64 d2,.int .i64 d3] 23)).heap[w.heap.size+1]? = some (.cells #[.int .i64 d0,.int .i64 d1,.int .i64 d2,.int .i64 d3] 23 (0,0)):=by
  have:=bf (w.alloc (.cells #[.int .i64 c0,.int .i64 c1,.int .i64 c2,.int .i64 c3] 23)) (.cells #[.int .i64 d0,.int .i64 d1,.int .i64 d2,.int .i64 d3] 23);simpa using this
 clear aZ b6;go_in;go_upto_region 1 with fail
 generalize (w.alloc (.cells #[.int .i64 c0,.int .i64 c1,.int .i64 c2,.int .i64 c3] 23)).alloc (.cells #[.int .i64 d0,.int .i64 d1,.int .i64 d2,.int .i64 d3] 23)=w1 at *;obtain⟨x0,x1,x2,x3,lx⟩:=gp aV;have ly:=bz aF;have b8:=az aF;have b3:=az (FY s c0 c1 c2 c3 w1 HS.out.1 HS.out.2.1 b0.out.1 (KT.out.below aB.out.b) (b1.out s c0 c1 c2 c3 w1 HS.out.1 HS.out.2.1 (KT.out.below aB.out.b)));clear aV aF;go_wp2_with fail
 refine b3.out.mono ?_;rintro e w2 ⟨xo,rfl,aX,aK⟩;have a8:=az (aB.out.join aK 0);have aM:=(aK.b.block (w.heap.size+1) ly).trans b8.out;obtain⟨y0,y1,y2,y3,bN⟩:=gp aM;have bF:=az aX;have bC:=az (FY t d0 d1 d2 d3 w2 HS.out.2.2.1 HS.out.2.2.2 b0.out.2 (KT.out.below a8.out.b) (b1.out t d0 d1 d2 d3 w2 HS.out.2.2.1 HS.out.2.2.2 (KT.out.below a8.out.b)));clear aK aM aX aB b8 b3 x0 x1 x2 x3 lx ly;go_wp2_with fail
 refine bC.out.mono ?_;rintro e w3 ⟨yo,rfl,bB,b2⟩;have aD:=az (a8.out.join b2 3);have aY:=az bB;clear b2 bB a8 bC y0 y1 y2 y3 bN;go_wp2_with fail
 go_loopw [16,17] (λmv iv wr=>∃(i M:Nat),i<=len/\iv=.int .i64 i/\mv=.int .i64 M/\M<=1000000000/\wr=w3/\Hid (∀j,j<i->gm j<=M)) (λ_ iv _=>len-(intOf iv).toNat)
 case atStart=>exact⟨0,0,by omega,rfl,rfl,by omega,rfl,λj hj=>by omega⟩
 case round=>
  obtain⟨i,Mx,bP,rfl,rfl,hM,rfl,rM⟩:=hrel;by_cases b5:i<len
  .have aU:(i:Int)<(len:Int):=by omega
   obtain⟨a,rfl⟩:∃a,ad=some a:=by
    cases ad with
    |none=>have:=a1.out.n rfl;omega
    |some a=>exact⟨a,rfl⟩
   obtain⟨z0,z1,z2,z3,z4⟩:=a1.out.at aD.out.b rfl b5;have aO:=(a1.out.i i b5).2.1;have aH:Hid (gm i<=Mx->∀j,j<i+1->gm j<=Mx):=λbE j hj=>by
    by_cases e:j=i
    .rw[e];exact bE
    exact rM.out j (by omega)
   have aG:Hid (Mx<gm i->∀j,j<i+1->gm j<=gm i):=λbE j hj=>by
    by_cases e:j=i
    .rw[e];exact bj _
    have:=rM.out j (by omega);omega
   generalize gm i=ni at *;generalize ia i=ai at *;generalize ic i=ci at *;clear z1 z2 z3 rM;by_cases bL:Mx<ni
   .have aW:(Mx:Int)<(ni:Int):=by omega
    have a6:=az (aG.out bL);clear aH aG;go_wp2_with fail
    go_roundw
    case rel=>first|exact⟨i+1,ni,by omega,by go_num,rfl,aO,rfl,a6⟩|exact⟨i+1,ni,by omega,by go_num,rfl,aO,trivial,a6⟩
    case measure=>simp[intOf];omega
   have aW:¬((Mx:Int)<(ni:Int)):=by omega
   have a6:=az (aH.out (by omega));clear aH aG;go_wp2_with fail
   go_roundw
   case rel=>first|exact⟨i+1,Mx,by omega,by go_num,rfl,hM,rfl,a6⟩|exact⟨i+1,Mx,by omega,by go_num,rfl,hM,trivial,a6⟩
   case measure=>simp[intOf];omega
  have aU:¬((i:Int)<(len:Int)):=by omega
  have b4:Hid (∀j,j<len->gm j<=Mx):=λj hj=>rM.out j (by omega);have q8:IntKind.i64.wrap ((Mx:Int)+8)=((Mx+8:Nat):Int):=by rw[bl,bd _ (by omega)];rfl
  clear rM;go_wp2_with (at_make;go_loud (refine wpList_make_full _ rfl _ _ 56 rfl 0 169 i0 _ 2 Tryz.underlying56 hi bK bM _ _ _ _ (Mx+8) rfl rfl rfl rfl (by rw[bJ];omega) (by unfold maxLen;omega) (dc _) ?_))
  intro w4 aC aL;have a4:=jB.owned aC;have aN:=a4.lt;have bA:wr.grownBy (w4.alloc (.cells #[.int .i64 0,.slice none 0 0,.slice none 0 0] 81)) none:=au aL _;have aE:Hid (pS w ⟨xo,yo,wr.heap.size,Mx+8,w4.heap.size,0,(none,0),[],(none,0),[]⟩ 0 (w4.alloc (.cells #[.int .i64 0,.slice none 0 0,.slice none 0 0] 81))):=by
   refine Kw aD.out (λi=>?_) bA (bj _) aL.size (by omega) ?_ ⟨_,bf w4 _,rfl,λj hj=>?_⟩ bF.out aY.out (by omega)
   .by_cases h1:i<3
    .simp only[aj h1];rw[aa (by omega),aj (by omega),Nat.sub_zero]
    rw[aa h1];by_cases h2:i<6
    .rw[aj h2,aj (by omega)]
    rw[aa h2,aa (by omega),aa (by omega)]
   .obtain⟨bH,k1,k2⟩:=a4;exact⟨bH,(ak _ _ _ aN).trans k1,k2⟩
   have hc:j=0\/j=1\/j=2:=by omega
   rcases hc with rfl|rfl|rfl<;>rfl
  clear aC a4 aN bA aL aD bF aY;obtain⟨ob,aI⟩:∃ob,ob=wr.heap.size:=⟨_,rfl⟩;obtain⟨bk,a4⟩:∃bk,bk=w4.heap.size:=⟨_,rfl⟩;obtain⟨mo,aJ⟩:∃mo,mo=Mx+8:=⟨_,rfl⟩;have bI:Hid (∀j,j<len->gm j+8<=mo):=λj hj=>by have:=b4.out j hj;omega
  rw[<-aI,<-a4,<-aJ]at aE;have aQ:Hid (∃t,pS w t 0 (w4.alloc (.cells #[.int .i64 0,.slice none 0 0,.slice none 0 0] 81))/\t.ob=ob/\t.mo=mo/\t.bk=bk/\pV t.x=pV xo/\pV t.y=pV yo):=⟨_,aE.out,rfl,rfl,rfl,rfl,rfl⟩;clear aE b4;go_wp2_with fail
  rw[<-aI,<-a4,<-aJ];clear aI a4 aJ q8;generalize w4.alloc (.cells #[.int .i64 0,.slice none 0 0,.slice none 0 0] 81)=w5 at *;generalize pV xo=vx at *;generalize pV yo=vy at *;go_loopw [20] (λiv wx=>∃i:Nat,i<=len/\iv=.int .i64 i/\Hid (∃t,pS w t i wx/\t.ob=ob/\t.mo=mo/\t.bk=bk/\pV t.x=vx/\pV t.y=vy)) (λiv _=>len-(intOf iv).toNat)
  case atStart=>exact⟨0,by omega,rfl,aQ⟩
  case round=>
   clear aQ;obtain⟨q,hq,rfl,rT⟩:=hrel;by_cases a9:q<len
   .have b9:(q:Int)<(len:Int):=by omega
    obtain⟨a,rfl⟩:∃a,ad=some a:=by
     cases ad with
     |none=>have:=a1.out.n rfl;omega
     |some a=>exact⟨a,rfl⟩
    obtain⟨t,u,Y,J,G,H,Z⟩:=rT.out;obtain⟨z0,z1,z2,z3,z4⟩:=a1.out.at u.Bn.b rfl a9;have KI:=az (a1.out.i q a9);have aA:=az (a1.out.t q a9);have aP:=az (bI.out q a9);generalize kd q=kq at *;generalize hh q=aT at *;generalize tk q=tq at *;generalize ia q=aq at *;generalize gm q=nq at *;generalize ic q=cq at *;clear u Y J G H Z t;go_upto_region 21 with fail
    .have HU:Hid (∃t,pS w t q wr/\t.ob=ob/\t.mo=mo/\t.bk=bk/\pV t.x=vy/\pV t.y=vx):=(by obtain⟨t,h1,h2,h3,h4,h5,h6⟩:=rT.out;exact⟨t.swap,h1.swap,h2,h3,h4,h6,h5⟩);clear rT;obtain⟨t,u,Y,J,G,H,Z⟩:=HU.out;clear HU
     cases hx:t.x with
     |none=>
      have hv:.pointer none=vy:=by rw[<-H,hx];rfl
      subst hv;have HN:Hid (∃t,pS w t (q+1) wr/\t.ob=ob/\t.mo=mo/\t.bk=bk/\pV t.x=vx/\pV t.y=.pointer none):=⟨t.swap,(u.next u.Bn).swap,Y,J,G,Z,H⟩;clear u Y J G H Z hx;go_wp2_with fail
      go_roundw
      case rel=>exact⟨q+1,by omega,by go_num,HN⟩
      case measure=>simp[intOf];omega
     |some x=>
      have hv:P0 x.pb=vy:=by rw[<-H,hx];rfl
      subst hv;have a2:=az (FQ (kind:=kq) (hh:=aT) (ic:=cq) u hx KI.out (by rw[J];exact aP.out) (by omega) aA.out.1 aA.out.2);rw[Y,J,G]at a2;have a3:=az (ay Y (ay J (ay G (ay H Z))));clear u Y J G H Z hx;go_wp2_with fail
      refine a2.out.mono ?_;rintro e w6 ⟨rfl,t',o,W⟩;have a0:=az (o.looks (by omega));have G:=W.2.2.1.trans a3.out.2.2.1;rw[G]at a0;have a5:=az (ay o W);clear o W G a2;go_wp2_with fail
      refine a0.out.mono ?_;rintro e w7 ⟨rfl,a7⟩;have HN:Hid (∃t,pS w t (q+1) w7/\t.ob=ob/\t.mo=mo/\t.bk=bk/\pV t.x=vx/\pV t.y=P0 x.pb):=by
       obtain⟨o,W⟩:=a5.out;obtain⟨Y,J,G,H,Z⟩:=a3.out;exact⟨t'.swap,(o.kept a7).swap,(W.1.trans Y),(W.2.1.trans J),(W.2.2.1.trans G),(W.2.2.2.2.trans Z),(W.2.2.2.1.trans H)⟩
      clear a7 a5 a0 a3;go_wp2_with fail
      go_roundw
      case rel=>exact⟨q+1,by omega,by go_num,HN⟩
      case measure=>simp[intOf];omega
    have HU:=rT;clear rT;obtain⟨t,u,Y,J,G,H,Z⟩:=HU.out;clear HU
    cases hx:t.x with
    |none=>
     have hv:.pointer none=vx:=by rw[<-H,hx];rfl
     subst hv;have HN:Hid (∃t,pS w t (q+1) wr/\t.ob=ob/\t.mo=mo/\t.bk=bk/\pV t.x=.pointer none/\pV t.y=vy):=⟨t,u.next u.Bn,Y,J,G,H,Z⟩;clear u Y J G H Z hx;go_wp2_with fail
     go_roundw
     case rel=>exact⟨q+1,by omega,by go_num,HN⟩
     case measure=>simp[intOf];omega
    |some x=>
     have hv:P0 x.pb=vx:=by rw[<-H,hx];rfl
     subst hv;have a2:=az (FQ (kind:=kq) (hh:=aT) (ic:=cq) u hx KI.out (by rw[J];exact aP.out) (by omega) aA.out.1 aA.out.2);rw[Y,J,G]at a2;have a3:=az (ay Y (ay J (ay G (ay H Z))));clear u Y J G H Z hx;go_wp2_with fail
     refine a2.out.mono ?_;rintro e w6 ⟨rfl,t',o,W⟩;have a0:=az (o.looks (by omega));have G:=W.2.2.1.trans a3.out.2.2.1;rw[G]at a0;have a5:=az (ay o W);clear o W G a2;go_wp2_with fail
     refine a0.out.mono ?_;rintro e w7 ⟨rfl,a7⟩;have HN:Hid (∃t,pS w t (q+1) w7/\t.ob=ob/\t.mo=mo/\t.bk=bk/\pV t.x=P0 x.pb/\pV t.y=vy):=by
      obtain⟨o,W⟩:=a5.out;obtain⟨Y,J,G,H,Z⟩:=a3.out;exact⟨t',o.kept a7,(W.1.trans Y),(W.2.1.trans J),(W.2.2.1.trans G),(W.2.2.2.1.trans H),(W.2.2.2.2.trans Z)⟩
     clear a7 a5 a0 a3;go_wp2_with fail
     go_roundw
     case rel=>exact⟨q+1,by omega,by go_num,HN⟩
     case measure=>simp[intOf];omega
   have b9:¬((q:Int)<(len:Int)):=by omega
   go_wp2_with fail
   go_ret;obtain⟨t,u,_⟩:=rT.out;exact⟨rfl,u.Bn.b⟩
theorem Jo(s:Pl)(t i:Nat)(f:gY):((s.dx t i f).T t).fr=(s.T t).fr.set i f:=by unfold Pl.dx;rw[df]
structure Kn(s:Pl) (j:Nat) (f:gY) (ev:List se):Prop where
 fr:(s.T 1).fr=[f]
 ff:f.f=0
 nx:f.nx=j
 ev:s.ev=ev
 q2:s.q 2 0=[]
 q3:s.q 3 0=[]
 lv:s.lv=[1]
 sp:s.sp=false
 nt:s.nt=1
 wh:(s.T 1).wh=none
 run:(s.T 1).run=true
theorem Kn.top{s:Pl}{j:Nat}{f:gY}{ev:List se}(h:Kn s j f ev):cr s 1=0/\bw s 1=f:=by
 have e:cr s 1=0:=by unfold cr;rw[h.fr];rfl
 refine⟨e,?_⟩;show de s 1 (cr s 1)=f;rw[e];unfold de;rw[h.fr];rfl
theorem Kn.set{s:Pl}{j i:Nat}{f e:gY}{ev:List se}(h:Kn s j f ev)(o:e.f=0)(hn:e.nx=i):Kn (s.dx 1 (cr s 1) e) i e ev:=by
 obtain⟨G,H⟩:=h.top;obtain⟨y,_,u,_⟩:=gj s 1 (cr s 1) 1 e;exact⟨by rw[Jo,h.fr,G];rfl,o,hn,h.ev,h.q2,h.q3,h.lv,h.sp,h.nt,y.trans h.wh,u.trans h.run⟩
theorem Kn.fD{s:Pl}{j:Nat}{f:gY}{ev:List se}(h:Kn s j f ev):Kn (s.fD 1) (j+1) { f with nx:=f.nx+1 } ev:=by
 have e:s.fD 1=s.dx 1 (cr s 1) { f with nx:=f.nx+1 }:=by unfold Pl.fD;rw[h.top.2]
 rw[e];exact h.set h.ff (by show f.nx+1=_;rw[h.nx])
theorem Fq{p:dz}{s:Pl}{k:Nat}(i:0<k)(h:(bw s 1).nx≠p.len (bw s 1).f):s.ends p 1 k=s:=by
 cases k with
 | zero=>omega
 | succ k=>unfold Pl.ends;rw[aa (λe=>h e.2)]
theorem Kn.step{p:dz}{s s':Pl}{j:Nat}{f:gY}{ev:List se}{k:yi}(h:Kn s j f ev)(y:p.len 0=3)(G:j<3)(hi:p.ins 0 j=k)(e:iC p 1 s s'):∃why s3,jD p (s.fD 1) 1 k why s3/\s'=if why=0 then s3 else s3.leave 1 (0,-why) 3 why:=by
 obtain⟨H,o⟩:=h.top;unfold iC at e;rw[Fq (by omega) (by rw[o,h.nx,h.ff,y];omega),aj h.run]at e;obtain⟨why,s3,i,u⟩:=e;rw[o,h.ff,h.nx,hi]at i;exact⟨why,s3,i,u⟩
theorem Hj{p:dz}{s s':Pl}{f:gY}{ev:List se}(h:Kn s 0 f ev)(J:p.len 0=3)(hi:p.ins 0 0=(0,0,0,5))(H:iC p 1 s s'):∃o,Kn s' 1 o ev/\o.R 0=(0,5):=by
 obtain⟨why,s3,G,u⟩:=h.step J (by omega) hi H;obtain⟨W,y⟩:why=0/\s3=oO (s.fD 1) 1 0 (B.wide 0 5):=G;subst W;rw[aj rfl,y]at u;subst u;have e:=h.fD;obtain⟨Y,i⟩:=e.top;refine⟨(bw (s.fD 1) 1).set 0 (0,B.wide 0 5),e.set ?_ ?_,?_⟩
 .rw[i];exact h.ff
 .rw[i];exact e.nx
 show B.set (bw (s.fD 1) 1).R 0 (0,B.wide 0 5) 0=_;rw[B.ie];rfl
theorem EX{p:dz}{s s':Pl}{f:gY}{ev:List se}(h:Kn s 1 f ev)(u:f.R 0=(0,5))(Y:p.len 0=3)(hi:p.ins 0 1=(20,0,0,0))(J:iC p 1 s s'):∃y,Kn s' 2 y (ev++[(1,1,5)])/\y.R 0=(0,5):=by
 obtain⟨why,s3,H,G⟩:=h.step Y (by omega) hi J;have e:=h.fD;obtain⟨Z,W⟩:=e.top;have hR:(bw (s.fD 1) 1).R 0=(0,5):=by rw[W];exact u
 obtain⟨o,i⟩:why=(iY (s.fD 1) 1 0).1/\s3=(iY (s.fD 1) 1 0).2:=H;unfold iY at o i;rw[hR]at o i;simp only[if_true]at o i;subst o;rw[aj rfl,i]at G;subst G;exact⟨_,⟨e.fr,e.ff,e.nx,by show(s.fD 1).ev++_=_;rw[e.ev],e.q2,e.q3,e.lv,e.sp,e.nt,e.wh,e.run⟩,u⟩
theorem Hh{p:dz}{s s':Pl}{f:gY}{ev:List se}(hR:Rn p s 1)(h:Kn s 2 f ev)(W:f.R 0=(0,5))(G:p.len 0=3)(hi:p.ins 0 2=(14,0,0,0))(Y:iC p 1 s s'):(s'.T 1).run=false/\s'.ev=ev++[(2,1,5)]:=by
 obtain⟨why,s3,J,u⟩:=h.step G (by omega) hi Y;have o:=h.fD;obtain⟨y,Z⟩:=o.top;have i:(bw (s.fD 1) 1).R 0=(0,5):=by rw[Z];exact W
 have e:=(mM hR (by rw[h.top.2,h.nx,h.ff,G];omega)).1;obtain⟨e1,H⟩:why=0/\s3=(s.fD 1).back 1 ((bw (s.fD 1) 1).R 0):=J;subst e1;rw[aj rfl,H,i]at u;subst u;refine⟨(mA e.ok.lw e.ht (0,5)).1 y,?_⟩;rw[((lG (s.fD 1) 1 (0,5)).1 y).2.1,o.ev]
theorem yK{p:dz}{t:Nat}{s s':Pl}(e:(s.T t).run=false):∀n,gg p t n s s'->s'=s
 | 0,h=>h
 | n+1,h=>by
  unfold gg at h;rw[aa (by rw[e];decide)]at h;exact h
structure Kb(s:Pl) (j:Nat) (f:gY):Prop where
 fr:(s.T 1).fr=[f]
 ff:f.f=0
 nx:f.nx=j
 ev:s.ev=[]
 q2:s.q 2 0=[1]
 q3:s.q 3 0=[]
 lv:s.lv=[1]
 sp:s.sp=false
 nt:s.nt=1
 wh:(s.T 1).wh=some (2,0)
theorem Kb.start{s:Pl}{j:Nat}{f:gY}(h:Kb s j f):Kn (s.start 1) j f []:=by
 have u:s.dw 1=(s.eZ 2 0 ((s.q 2 0).erase 1)).dv 1 (s.T 1).off:=by unfold Pl.dw;rw[h.wh]
 have i:(s.start 1).T 1={ (s.dw 1).T 1 with run:=true }:=df _ _ _;have o:(s.dw 1).T 1=(s.T 1).off:=by rw[u];exact df _ _ _
 have y:∀x,(s.start 1).q x 0=if x=2 then[] else s.q x 0:=λx=>by
  show(s.dw 1).q x 0=_;rw[u];show(if x=2/\0=0 then(s.q 2 0).erase 1 else s.q x 0)=_;by_cases e:x=2
  .rw[aj ⟨e,rfl⟩,aj e,h.q2];rfl
  rw[aa (λG=>e G.1),aa e]
 refine⟨by rw[i];show((s.dw 1).T 1).fr=_;rw[o];exact h.fr,h.ff,h.nx,(gz s 1).2.2.2.1.trans h.ev,by rw[y];rfl,by rw[y];exact h.q3,?_,?_,(fO s 1).trans h.nt,by rw[i];show((s.dw 1).T 1).wh=_;rw[o];rfl,by rw[i]⟩
 .show(s.dw 1).lv=_;rw[(gz s 1).1];exact h.lv
 show(s.dw 1).sp=_;rw[u];exact h.sp
theorem zZ{p:dz}{s s':Pl}{j:Nat}{f:gY}(h:Kb s j f)(o:p.qn=2)(ht:jh p s 0 [] s'):∃e,gg p 1 2 (s.start 1) e/\s'=(if(e.T 1).run=true then e.dV 2 0 1 else e).im p:=by
 have H:s.fF (B.iz s.eY 0)=s:=by
  have:B.iz s.eY 0=s.eY:=by unfold B.iz;simp
  rw[this];rfl
 unfold jh at ht;have y:(s.fF (B.iz s.eY 0)).eN []=s:=H;rw[y,aj ⟨by rw[h.lv];simp,h.sp⟩]at ht;obtain⟨s1,i,rfl⟩:=ht;have hw:s.gr (s.q 3 0)=s:=by rw[h.q3];rfl
 rw[hw]at i;unfold gO at i;rw[h.q2]at i;obtain⟨e,u,G⟩:=i;rw[o]at u;exact⟨e,u,by rw[G]⟩
theorem Hg{p:dz}{s s1 s2:Pl}{f:gY}(G:Ok p s1.lD)(h:Kb s 0 f)(hl:p.len 0=3)(a5:p.ins 0 0=(0,0,0,5))(a6:p.ins 0 1=(20,0,0,0))(a4:p.ins 0 2=(14,0,0,0))(H:p.qn=2)(ht:jh p s 0 [] s1)(y:jh p s1.lD 0 [] s2):s1.ev=[(1,1,5)]/\s2.ev=[(2,1,5)]:=by
 obtain⟨a,o,rfl⟩:=zZ h H ht;have K0:=h.start;unfold gg at o;rw[aj K0.run]at o;obtain⟨a1,g1,o⟩:=o;obtain⟨f1,K1,R1⟩:=Hj K0 hl a5 g1;unfold gg at o;rw[aj K1.run]at o;obtain⟨a2,g2,o⟩:=o;obtain⟨f2,i,R2⟩:=EX K1 R1 hl a6 g2;have e:a=a2:=o;subst e;rw[aj i.run]at G y ⊢;have ho:a.dw 1=a:=by unfold Pl.dw;rw[i.wh]
 have u:a.dV 2 0 1=(a.eZ 2 0 (a.q 2 0++[1])).dv 1 ((a.T 1).to 2 0):=by unfold Pl.dV;rw[ho]
 have Y:(a.dV 2 0 1).T 1=(a.T 1).to 2 0:=by rw[u];exact df _ _ _
 have hq:∀x,(a.dV 2 0 1).q x 0=if x=2 then[1] else a.q x 0:=λx=>by
  rw[u];show(if x=2/\0=0 then a.q 2 0++[1] else a.q x 0)=_;by_cases e:x=2
  .rw[aj ⟨e,rfl⟩,aj e,i.q2];rfl
  rw[aa (λe'=>e e'.1),aa e]
 have a3:((a.dV 2 0 1).im p).ev=[(1,1,5)]:=by
  show(a.dV 2 0 1).ev=_;rw[u];exact i.ev
 refine⟨a3,?_⟩;have B2:Kb ((a.dV 2 0 1).im p).lD 2 f2:=by
  refine⟨?_,i.ff,i.nx,rfl,?_,?_,?_,?_,?_,?_⟩
  .show((a.dV 2 0 1).T 1).fr=_;rw[Y];exact i.fr
  .show(a.dV 2 0 1).q 2 0=_;rw[hq];rfl
  .show(a.dV 2 0 1).q 3 0=_;rw[hq];exact i.q3
  .show(a.dV 2 0 1).lv=_;rw[u];exact i.lv
  .show(a.dV 2 0 1).sp=_;rw[u];exact i.sp
  .show(a.dV 2 0 1).nt=_;rw[u];exact i.nt
  show((a.dV 2 0 1).T 1).wh=_;rw[Y];rfl
 generalize ((a.dV 2 0 1).im p).lD=b at *;obtain⟨c,W,rfl⟩:=zZ B2 H y;have J:=B2.start
 have hS:Ok p (b.start 1):=G.start (by rw[B2.lv];simp);have Z:Rn p (b.start 1) 1:=⟨hS,(hS.rn 1 ⟨bj _,by rw[J.nt];exact bj _⟩ J.run).2,J.run⟩;unfold gg at W;rw[aj J.run]at W;obtain⟨c1,g3,W⟩:=W;obtain⟨r3,e3⟩:=Hh Z J R2 hl a4 g3;have e4:=yK r3 1 W;subst e4;rw[aa (by rw[r3];decide)];exact e3
def qV:ByteArray:={ data:=#[1,2,3,0,0,0,5,20,0,0,0,14,0,0,0] }
theorem Hi:(M.jO qV).2=true:=by kernel_rfl
theorem Jk:Tm qV:=by
 intro k i u hi;have y:M.bt qV 0=1:=by kernel_rfl
 obtain rfl:k=0:=by omega
 have o:M.bt qV (M.pos qV 0+1)=3:=by kernel_rfl
 rw[o]at hi;have e:i=0\/i=1\/i=2:=by omega
 rcases e with rfl|rfl|rfl
 .rw[show M.bt qV (M.pos qV 0+2+4*0)=0 by kernel_rfl];unfold N5;omega
 .rw[show M.bt qV (M.pos qV 0+2+4*1)=20 by kernel_rfl];unfold N5;omega
 rw[show M.bt qV (M.pos qV 0+2+4*2)=14 by kernel_rfl];unfold N5;omega
theorem Hk:M.bt qV (M.pos qV 0+1)=3:=by kernel_rfl
theorem Jn:pH qV (M.pos qV 0+2+4*0)=(0,0,0,5):=by kernel_rfl
theorem Jm:pH qV (M.pos qV 0+2+4*1)=(20,0,0,0):=by kernel_rfl
theorem Jl:pH qV (M.pos qV 0+2+4*2)=(14,0,0,0):=by kernel_rfl
theorem Hu(w:World):Calls prog 15 #[] w λe w'=>e=.returned (.string qV)/\w'=w:=by
 go_in;go_wp2_with fail
 go_ret;exact⟨rfl,rfl⟩
theorem Db{p:dz}{s1 u:Pl}(e:tK p qV 1 2 1 1)(o:Ok p s1.lD)(ht:jh p (lU.born 0 (0,0) (0,0)) 0 [] s1)(i:jh p s1.lD 0 [] u):s1.ev=[(1,1,5)]/\u.ev=[(2,1,5)]:=by
 exact Hg (f:=⟨0,0,gh (0,0) (0,0),(0,0,0,0)⟩) o ⟨rfl,rfl,rfl,rfl,rfl,rfl,rfl,rfl,oj lU 0 (0,0) (0,0),rfl⟩ ((e.len 0).trans Hk) ((e.ins 0 0).trans Jn) ((e.ins 0 1).trans Jm) ((e.ins 0 2).trans Jl) (by have:=e.qn;omega) ht i
def Kf(i:Nat):Nat:=if i=11 then 12 else if i=12 then 11 else i
theorem Ep(i j:Nat)(h:Kf i=Kf j):i=j:=by
 unfold Kf at h;split at h<;>split at h<;>(try split at h)<;>(try split at h)<;>omega
theorem Ab{w:World}{S:Nat->Prop}:Kk w none 0 [] S:=⟨rfl,dc _,rfl,λ_=>rfl,λa e=>(by cases e)⟩
theorem Hf(w:World)(hT:mB w):Calls prog 16 #[] w λe w'=>e=.returned (.bool true)/\Below w.heap.size w w':=by
 have KT:=az hT;clear hT;have aJ:=bf w (.cells #[.int .i64 1,.int .i64 2,.int .i64 1,.int .i64 1] 23);have u:Hid (Below w.heap.size w (w.alloc (.cells #[.int .i64 1,.int .i64 2,.int .i64 1,.int .i64 1] 23))):=(eM _ _).alloc (bj _) _;go_in;go_upto_region 2 with fail
 generalize w.alloc (.cells #[.int .i64 1,.int .i64 2,.int .i64 1,.int .i64 1] 23)=w1 at *;obtain⟨x0,x1,x2,x3,lx⟩:=gp aJ;clear aJ;have Y:Hid (Below w.heap.size w w1.drew):=⟨u.out.os,u.out.tape,u.out.output,u.out.size,u.out.block⟩;have a5:Hid (Calls prog 14 #[.string qV,.agg #[.int .i64 1,.int .i64 2,.int .i64 1,.int .i64 1]] w1.drew λe w'=>∃x:oV,e=.returned (.tuple #[P0 x.pb,.bool true])/\x.Good 0/\x.s=lU.born 0 (0,0) (0,0)/\tK x.p qV 1 2 1 1/\iA w1.drew (A1 (some x)) w'):=uw qV 1 2 1 1 w1.drew (by decide) (by decide) (KT.out.below Y.out) (by decide) (by decide) (by decide) (by decide) (by decide) (by decide) (by decide) (by decide) Hi Jk;go_cut [2,3] from 7 to 12 (λpv bv wx=>∃x:oV,pv=P0 x.pb/\bv=.bool true/\Hid (x.Good 0/\x.s=lU.born 0 (0,0) (0,0)/\tK x.p qV 1 2 1 1/\iA w1.drew (A1 (some x)) wx))
 case first=>
  go_region_with (first|(go_at_call 15;refine(Hu _).mono ?_;rintro e wq ⟨rfl,rfl⟩)|(go_at_call 14;refine a5.out.mono ?_;rintro e w2 ⟨x,rfl,k1,k2,k3,k4⟩;have o:=az (ay k1 (ay k2 (ay k3 k4)));clear k1 k2 k3 k4))
  all_goals
   go_wp2_with fail
   go_meet
   case rel=>exact⟨x,rfl,rfl,o⟩
 case rest=>
  obtain⟨x,rfl,rfl,o⟩:=hcut;have hM:tN x.p x.s x.g x.mb wc:=o.out.2.2.2.at 0 rfl;rw[o.out.2.1]at hM;have G:wc.heap[x.pb]? = some (.cells #[P0 x.mb,P0 x.h.mb] 74 (0,0)):=o.out.2.2.2.at 2 (X:=.one x.pb (.cells #[P0 x.mb,P0 x.h.mb] 74 (0,0))) rfl;obtain⟨p0,p1,aK⟩:=jJ G;have a1:x.p.qn=2:=by have:=o.out.2.2.1.qn;omega
  have aI:=az (hM.BW (l:=[]) 0 0 o.out.1.pg (by rw[oj,a1];show 0+1+2<=_;omega) Ab);have a2:=az a1;clear hM G a5 x0 x1 x2 x3 lx a1;go_wp2_with fail
  refine aI.out.mono ?_;rintro e w3 ⟨J,g6,a6,c6,rfl,a0,aA,Z,a8⟩;have a4:=o.out.2.2.2.BX (p:=x.p) (s:=lU.born 0 (0,0) (0,0)) (g:=x.g) (mb:=x.mb) (by rw[<-o.out.2.1];rfl) Z aA a8;have aG:=a4.perm Kf Ep;have a3:=Z.m;have G:w3.heap[x.pb]? = some (.cells #[P0 x.mb,P0 x.h.mb] 74 (0,0)):=a4.at 2 (X:=.one x.pb (.cells #[P0 x.mb,P0 x.h.mb] 74 (0,0))) rfl;obtain⟨q0,q1,aL⟩:=jJ G;have a9:=nW o.out.1.pg.pi o.out.1.pg.pw.n1 (by have:=o.out.2.2.2.at 0 (X:=.zS x.p x.s x.g x.mb) rfl;rw[o.out.2.1]at this;exact this.ok) rfl (by rw[oj,a2.out];show 0+1+2<=_;omega) (λy hy=>by cases hy) a0;have aB:J.nt<=3:=by have:=a9.n2;rw[oj,a2.out]at this;exact this
  have aE:=az (a3.BW (l:=[]) 0 0 o.out.1.pg (by show J.nt+_<=_;rw[a2.out];omega) Ab);have H:=az (ay a0 (ay aG a3.ok));clear a0 aA Z a8 a4 aG a3 G a9 aB aI p0 p1 aK;go_wp2_with fail
  refine aE.out.mono ?_;rintro e w5 ⟨s7,g7,a7,c7,rfl,aD,aC,aF,aH⟩;obtain⟨e6,e7⟩:=Db o.out.2.2.1 H.out.2.2 H.out.1 aD;have W:=H.out.2.1.BX (p:=x.p) (s:=J.lD) (g:=g6) (mb:=x.mb) rfl aF aC aH;have r6:w5.ownsRow 0 48 3 (.slice a6 J.ev.length c6) J.ev.length (kE J.ev):=W.at 11 (X:=.row 48 3 a6 J.ev.length c6 (kE J.ev)) rfl;have r7:w5.ownsRow 0 48 3 (.slice a7 s7.ev.length c7) s7.ev.length (kE s7.ev):=W.at 12 (X:=.row 48 3 a7 s7.ev.length c7 (kE s7.ev)) rfl;have aM:Hid (Below w.heap.size w w5):=Y.out.trans (W.b.mono Y.out.size);rw[e6]at r6 ⊢;rw[e7]at r7 ⊢;obtain⟨b6,rfl,l6,m0,m1,m2⟩:=Ah r6 (i:=0) (e:=(1,1,5)) rfl;obtain⟨b7,rfl,l7,n0,n1,n2⟩:=Ah r7 (i:=0) (e:=(2,1,5)) rfl;simp only[Nat.zero_mul,Nat.zero_add]at m0 m1 m2 n0 n1 n2;clear r6 r7 W aC aF aH aD aE H e6 e7 q0 q1 aL;go_wp2_with fail
  go_ret;exact⟨rfl,aM.out⟩
theorem vX.below{w w':World}{ad:Option Addr}{len:Nat}{kd hh tk:Nat->Int}{u:Nat->Option Addr}{gm ic:Nat->Nat}(h:vX w ad len kd hh tk u gm ic)(y:Below w.heap.size w w'):vX w' ad len kd hh tk u gm ic:=by
 refine⟨h.n,λa Y i hi=>?_,h.t⟩;obtain⟨o,H,W,G,J⟩:=h.z a Y i hi;have e:∀m,w'.cell? (a.add m)=w.cell? (a.add m):=λm=>aw (a:=a.add m) (by rw[gX];exact y.block _ o);exact⟨dm o y.size,(e _).trans H,(e _).trans W,(e _).trans G,(e _).trans J⟩
end F
section
open Go.ChangeShapes Go.WideShapes Go.ChangeAt Go.WideMaps Go.WideElems Go.Joins
open Go.ChangeMaps (open_string shut_string)
theorem DQ{H:Type}(d:DataW H):1<=Rows.uptoBulk d:=by
 cases d with
 |lit l=>cases l<;>simp[Rows.uptoBulk]
 |_=>simp[Rows.uptoBulk]
theorem DR{H:Type}{d:DataW H}{l:List (DataW H)}(h:d∈l):Rows.uptoBulk d<=Rows.uptoBulkAll l:=by
 induction l with
 |nil=>cases h
 |cons x r e=>
  simp only[Rows.uptoBulkAll];rcases List.mem_cons.1 h with rfl|h
  .omega
  have:=e h;omega
theorem DS{H:Type}(l:List (DataW H)):l.length<=Rows.uptoBulkAll l:=by
 induction l with
 |nil=>simp[Rows.uptoBulkAll]
 |cons x r e=>have:=DQ x;simp only[Rows.uptoBulkAll,List.length_cons];omega
theorem EK{H:Type}{enc:TypeId×Value->H}{W:World}{sp:Nat->Bool}{e:Bool}{n:Nat}{v:Value}{x:DataW H×List MemPlace}(h:DataW.trod enc prog W 0 sp e n 56 [v]=some x):∃q:Option Addr×Nat×Nat,v=.slice q.1 q.2.1 q.2.2:=by
 rcases Go.Deep.open_slice Tryz.underlying56 h with⟨i,_⟩|⟨a,len,cap,m,o,D,Pl,i,_⟩
 .exact⟨(none,0,0),by simpa using i⟩
 exact⟨(some a,len,cap),by simpa using i⟩
theorem Tryz.Fz:prog.cellsOf 76=4:=by kernel_rfl
theorem Tryz.An:prog.cellsOf 3=1:=by kernel_rfl
theorem Tryz.FA:prog.cellsOf 2=1:=by kernel_rfl
theorem Tryz.DO:prog.cellsOf 56=1:=by kernel_rfl
theorem Jj{α:Type}:∀{l:List α},l.length=4->∃a b c d,l=[a,b,c,d] |[a,b,c,d],_=>⟨a,b,c,d,rfl⟩
theorem yp{H:Type}{enc:TypeId×Value->H}{W:World}{sp:Nat->Bool}{o:Bool}{n:Nat}{a:Addr}{i:Nat}{y:List Value}{x:DataW H×List MemPlace}(h1:W.cells? 0 (a.add (i*4)) 4=some y)(h:DataW.trod enc prog W 0 sp o n 76 y=some x)(J:Rows.uptoBulk x.1<=1048576): ∃q:(Int×Int×Int)×(Option Addr×Nat×Nat),W.cell? (a.add (i*4))=some (.int .i64 q.1.1)/\W.cell? (a.add (i*4+1))=some (.int .i64 q.1.2.1)/\W.cell? (a.add (i*4+2))=some (.int .i64 q.1.2.2)/\W.cell? (a.add (i*4+3))=some (.slice q.2.1 q.2.2.1 q.2.2.2)/\(-9223372036854775808<=q.1.2.2/\q.1.2.2<=9223372036854775807):=by
 obtain⟨_,u,e⟩:=World.cells?_some h1;obtain⟨y0,y1,y2,y3,k,hx,_,g0,g1,g2,g3⟩:=trod_struct4 underlying76 h;obtain⟨v0,v1,v2,v3,rfl⟩:=Jj u
 obtain⟨z0,Y,_,_⟩:=DataW.trod_int underlying3 (by simpa[Tryz.An] using g0);obtain⟨z1,e1,_,_⟩:=DataW.trod_int underlying3 (by simpa[Tryz.An] using g1);obtain⟨z2,G,_,w2⟩:=DataW.trod_int underlying2 (by simpa[Tryz.FA] using g2);simp at Y e1 G;subst Y e1 G;rw[hx]at J;simp only[Rows.uptoBulk,Rows.uptoBulkAll]at J;obtain⟨q,hq⟩:=EK (by simpa[Tryz.DO] using g3);have c0:=e 0 (by omega);have c1:=e 1 (by omega);have Z:=e 2 (by omega);have c3:=e 3 (by omega);rw[Go.Deep.add_add]at c0 c1 Z c3;refine⟨((z0,z1,z2),q),by simpa using c0,by simpa using c1,by simpa using Z,?_,Ko w2⟩;rw[<-hq];simpa using c3
theorem AD{H:Type}{enc:TypeId×Value->H}{W:World}{sp:Nat->Bool}{u:Bool}{fuel:Nat}{a0:Option Addr}{len cap:Nat}{x:DataW H×List MemPlace}(h:DataW.trod enc prog W 0 sp u fuel 29 [.slice a0 len cap]=some x)(hb:Rows.uptoBulk x.1<=1048576): len<=1048576/\∃kd hh tk ia gm ic,F.vX W a0 len kd hh tk ia gm ic:=by
 rcases Go.Deep.open_slice underlying29 h with⟨y,_⟩|⟨a,a2,a1,m,n',D,Pl,y,_,hl,hm,Y,hx,hi⟩
 .simp at y;obtain⟨rfl,rfl,rfl⟩:=y;exact⟨by omega,λ_=>0,λ_=>0,λ_=>0,λ_=>none,λ_=>0,λ_=>0,⟨λ_=>rfl,λa e=>(by cases e),λi hi=>ch hi (Nat.not_lt_zero i)⟩⟩
 simp at y;obtain⟨rfl,rfl,rfl⟩:=y;have a3:len<=m:=by rw[Y];split<;>omega
 rw[hx]at hb;simp only[Rows.uptoBulk]at hb;have J:=DS ((List.range len).map D);rw[dS,List.length_range]at J;have each:∀i,i<len->∃q:(Int×Int×Int)×(Option Addr×Nat×Nat),W.cell? (a.add (i*4))=some (.int .i64 q.1.1)/\W.cell? (a.add (i*4+1))=some (.int .i64 q.1.2.1)/\W.cell? (a.add (i*4+2))=some (.int .i64 q.1.2.2)/\W.cell? (a.add (i*4+3))=some (.slice q.2.1 q.2.2.1 q.2.2.2)/\(-9223372036854775808<=q.1.2.2/\q.1.2.2<=9223372036854775807):=λi o=>by
  obtain⟨cs,k1,k2⟩:=hi i (by omega);rw[Tryz.Fz]at k1;have Z:Rows.uptoBulk (D i)<=1048576:=by
   have a4:=DR (l:=(List.range len).map D) (ek.2 ⟨i,eJ.2 o,rfl⟩);omega
  exact yp k1 k2 Z
 obtain⟨Q,hQ⟩:=Go.Deep.choose_lt each;refine⟨by omega,λi=>(Q i).1.1,λi=>(Q i).1.2.1,λi=>(Q i).1.2.2,λi=>(Q i).2.1,λi=>(Q i).2.2.1,λi=>(Q i).2.2.2,⟨λe=>(by cases e),λb G i o=>?_,λi o=>(hQ i o).2.2.2.2⟩⟩;have eb:a=b:=by injection G
 subst eb;obtain⟨k1,k2,k3,k4,_⟩:=hQ i o;refine⟨?_,k1,k2,k3,k4⟩;have:=av W _ k1;rw[F.gX]at this;exact this
theorem AE{H:Type}{enc:TypeId×Value->H}{P:Program}{w:World}{e:Nat}{spare:Nat->Bool}{i:Bool}{t0 t1 t2 t3 t4:TypeId}{args:Array Value}{ds:List (DataW H)}{ps:List MemPlace}(h:DataW.TrodAll enc P w e spare i [t0,t1,t2,t3,t4] args.toList ds ps): ∃v0 v1 J o Y G d1 Z d3 W p0 p1 y p3 u,args=#[v0,v1,J,o,Y]/\ds=[G,d1,Z,d3,W]/\ps=p0++(p1++(y++(p3++u)))/\DataW.Trod enc P w e spare i t0 v0 G p0/\DataW.Trod enc P w e spare i t1 v1 d1 p1/\DataW.Trod enc P w e spare i t2 J Z y/\DataW.Trod enc P w e spare i t3 o d3 p3/\DataW.Trod enc P w e spare i t4 Y W u:=by
 obtain⟨v0,r0,G,e0,p0,q0,a0,rfl,rfl,h0,k0⟩:=trodAll_cons h;obtain⟨v1,r1,d1,e1,p1,q1,rfl,rfl,rfl,h1,k1⟩:=trodAll_cons k0;obtain⟨J,r2,Z,e2,y,q2,rfl,rfl,rfl,h2,k2⟩:=trodAll_cons k1;obtain⟨o,r3,d3,e3,p3,q3,rfl,rfl,rfl,h3,k3⟩:=trodAll_cons k2;obtain⟨Y,r4,W,e4,u,q4,rfl,rfl,rfl,h4,k4⟩:=trodAll_cons k3;obtain⟨rfl,rfl,rfl⟩:=trodAll_nil k4;exact⟨v0,v1,J,o,Y,G,d1,Z,d3,W,p0,p1,y,p3,u,by cases args;simp_all,rfl,by simp,h0,h1,h2,h3,h4⟩
theorem wG{H:Type}{enc:TypeId×Value->H}{P:Program}{w:World}{e:Nat}{spare:Nat->Bool}{i:Bool}{W t1 Z t3 t4:TypeId}{v0 v1 v2 v3 v4:Value}{d0 d1 Y d3 d4:DataW H}{o y J u G:List MemPlace}(h0:DataW.Trod enc P w e spare i W v0 d0 o)(h1:DataW.Trod enc P w e spare i t1 v1 d1 y)(h2:DataW.Trod enc P w e spare i Z v2 Y J)(h3:DataW.Trod enc P w e spare i t3 v3 d3 u)(h4:DataW.Trod enc P w e spare i t4 v4 d4 G):DataW.TrodAll enc P w e spare i [W,t1,Z,t3,t4] [v0,v1,v2,v3,v4] [d0,d1,Y,d3,d4] (o++(y++(J++(u++G)))):=⟨o,y++(J++(u++G)),h0,trodAll_mk4 h1 h2 h3 h4,rfl⟩
theorem Tryz.vQ:prog.cellsOf 23=4:=by kernel_rfl
end
end Go.Proofs.YtnjiinbhbjpfkaaGreatDoor
