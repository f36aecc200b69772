import Derived.Test.YtnjiinbhbjpfkaaGreatDoorKo
import Derived.Deep.DeepHandedRow
import Derived.Deep.SlicePairs
set_option maxRecDepth 100000
set_option maxHeartbeats 0
set_option linter.all false
namespace Go.Proofs.YtnjiinbhbjpfkaaGreatDoor
open Go.RowKit Go.Proofs.Tryz
namespace F
def qV:ByteArray:={ data:=#[1,2,3,0,0,0,5,20,0,0,0,14,0,0,0] }
theorem Hi:(M.jO qV).2=true:=by kernel_rfl
theorem Jk:Tm qV:=by
 intro k i u hi;have y:M.bt qV 0=1:=by kernel_rfl
 obtain rfl:k=0:=by omega
 have o:M.bt qV (M.pos qV 0+1)=3:=by kernel_rfl
 rw[o]at hi;have e:i=0\/i=1\/i=2:=by omega
 rcases e with rfl|rfl|rfl
 .rw[show M.bt qV (M.pos qV 0+2+4*0)=0 by kernel_rfl];unfold N5;omega
 .rw[show M.bt qV (M.pos qV 0+2+4*1)=20 by kernel_rfl];unfold N5;omega
 rw[show M.bt qV (M.pos qV 0+2+4*2)=14 by kernel_rfl];unfold N5;omega
theorem Hk:M.bt qV (M.pos qV 0+1)=3:=by kernel_rfl
theorem Jn:pH qV (M.pos qV 0+2+4*0)=(0,0,0,5):=by kernel_rfl
theorem Jm:pH qV (M.pos qV 0+2+4*1)=(20,0,0,0):=by kernel_rfl
theorem Jl:pH qV (M.pos qV 0+2+4*2)=(14,0,0,0):=by kernel_rfl
theorem Hu(w:World):Calls prog 15 #[] w λe w'=>e=.returned (.string qV)/\w'=w:=by
 go_in;go_wp2_with fail
 go_ret;exact⟨rfl,rfl⟩
theorem Db{p:dz}{s1 u:Pl}(e:tK p qV 1 2 1 1)(o:Ok p s1.lD)(ht:jh p (lU.born 0 (0,0) (0,0)) 0 [] s1)(i:jh p s1.lD 0 [] u):s1.ev=[(1,1,5)]/\u.ev=[(2,1,5)]:=by
 exact Hg (f:=⟨0,0,gh (0,0) (0,0),(0,0,0,0)⟩) o ⟨rfl,rfl,rfl,rfl,rfl,rfl,rfl,rfl,oj lU 0 (0,0) (0,0),rfl⟩ ((e.len 0).trans Hk) ((e.ins 0 0).trans Jn) ((e.ins 0 1).trans Jm) ((e.ins 0 2).trans Jl) (by have:=e.qn;omega) ht i
def Kf(i:Nat):Nat:=if i=11 then 12 else if i=12 then 11 else i
theorem Ep(i j:Nat)(h:Kf i=Kf j):i=j:=by
 unfold Kf at h;split at h<;>split at h<;>(try split at h)<;>(try split at h)<;>omega
theorem Ab{w:World}{S:Nat->Prop}:Kk w none 0 [] S:=⟨rfl,dc _,rfl,λ_=>rfl,λa e=>(by cases e)⟩
theorem Hf(w:World)(hT:mB w):Calls prog 16 #[] w λe w'=>e=.returned (.bool true)/\Below w.heap.size w w':=by
 have KT:=az hT;clear hT;have aJ:=bf w (.cells #[.int .i64 1,.int .i64 2,.int .i64 1,.int .i64 1] 23);have u:Hid (Below w.heap.size w (w.alloc (.cells #[.int .i64 1,.int .i64 2,.int .i64 1,.int .i64 1] 23))):=(eM _ _).alloc (bj _) _;go_in;go_upto_region 2 with fail
 generalize w.alloc (.cells #[.int .i64 1,.int .i64 2,.int .i64 1,.int .i64 1] 23)=w1 at *;obtain⟨x0,x1,x2,x3,lx⟩:=gp aJ;clear aJ;have Y:Hid (Below w.heap.size w w1.drew):=⟨u.out.os,u.out.tape,u.out.output,u.out.size,u.out.block⟩;have a5:Hid (Calls prog 14 #[.string qV,.agg #[.int .i64 1,.int .i64 2,.int .i64 1,.int .i64 1]] w1.drew λe w'=>∃x:oV,e=.returned (.tuple #[P0 x.pb,.bool true])/\x.Good 0/\x.s=lU.born 0 (0,0) (0,0)/\tK x.p qV 1 2 1 1/\iA w1.drew (A1 (some x)) w'):=uw qV 1 2 1 1 w1.drew (by decide) (by decide) (KT.out.below Y.out) (by decide) (by decide) (by decide) (by decide) (by decide) (by decide) (by decide) (by decide) Hi Jk;go_cut [2,3] from 7 to 12 (λpv bv wx=>∃x:oV,pv=P0 x.pb/\bv=.bool true/\Hid (x.Good 0/\x.s=lU.born 0 (0,0) (0,0)/\tK x.p qV 1 2 1 1/\iA w1.drew (A1 (some x)) wx))
 case first=>
  go_region_with (first|(go_at_call 15;refine(Hu _).mono ?_;rintro e wq ⟨rfl,rfl⟩)|(go_at_call 14;refine a5.out.mono ?_;rintro e w2 ⟨x,rfl,k1,k2,k3,k4⟩;have o:=az (ay k1 (ay k2 (ay k3 k4)));clear k1 k2 k3 k4))
  all_goals
   go_wp2_with fail
   go_meet
   case rel=>exact⟨x,rfl,rfl,o⟩
 case rest=>
  obtain⟨x,rfl,rfl,o⟩:=hcut;have hM:tN x.p x.s x.g x.mb wc:=o.out.2.2.2.at 0 rfl;rw[o.out.2.1]at hM;have G:wc.heap[x.pb]? = some (.cells #[P0 x.mb,P0 x.h.mb] 74 (0,0)):=o.out.2.2.2.at 2 (X:=.one x.pb (.cells #[P0 x.mb,P0 x.h.mb] 74 (0,0))) rfl;obtain⟨p0,p1,aK⟩:=jJ G;have a1:x.p.qn=2:=by have:=o.out.2.2.1.qn;omega
  have aI:=az (hM.BW (l:=[]) 0 0 o.out.1.pg (by rw[oj,a1];show 0+1+2<=_;omega) Ab);have a2:=az a1;clear hM G a5 x0 x1 x2 x3 lx a1;go_wp2_with fail
  refine aI.out.mono ?_;rintro e w3 ⟨J,g6,a6,c6,rfl,a0,aA,Z,a8⟩;have a4:=o.out.2.2.2.BX (p:=x.p) (s:=lU.born 0 (0,0) (0,0)) (g:=x.g) (mb:=x.mb) (by rw[<-o.out.2.1];rfl) Z aA a8;have aG:=a4.perm Kf Ep;have a3:=Z.m;have G:w3.heap[x.pb]? = some (.cells #[P0 x.mb,P0 x.h.mb] 74 (0,0)):=a4.at 2 (X:=.one x.pb (.cells #[P0 x.mb,P0 x.h.mb] 74 (0,0))) rfl;obtain⟨q0,q1,aL⟩:=jJ G;have a9:=nW o.out.1.pg.pi o.out.1.pg.pw.n1 (by have:=o.out.2.2.2.at 0 (X:=.zS x.p x.s x.g x.mb) rfl;rw[o.out.2.1]at this;exact this.ok) rfl (by rw[oj,a2.out];show 0+1+2<=_;omega) (λy hy=>by cases hy) a0;have aB:J.nt<=3:=by have:=a9.n2;rw[oj,a2.out]at this;exact this
  have aE:=az (a3.BW (l:=[]) 0 0 o.out.1.pg (by show J.nt+_<=_;rw[a2.out];omega) Ab);have H:=az (ay a0 (ay aG a3.ok));clear a0 aA Z a8 a4 aG a3 G a9 aB aI p0 p1 aK;go_wp2_with fail
  refine aE.out.mono ?_;rintro e w5 ⟨s7,g7,a7,c7,rfl,aD,aC,aF,aH⟩;obtain⟨e6,e7⟩:=Db o.out.2.2.1 H.out.2.2 H.out.1 aD;have W:=H.out.2.1.BX (p:=x.p) (s:=J.lD) (g:=g6) (mb:=x.mb) rfl aF aC aH;have r6:w5.ownsRow 0 48 3 (.slice a6 J.ev.length c6) J.ev.length (kE J.ev):=W.at 11 (X:=.row 48 3 a6 J.ev.length c6 (kE J.ev)) rfl;have r7:w5.ownsRow 0 48 3 (.slice a7 s7.ev.length c7) s7.ev.length (kE s7.ev):=W.at 12 (X:=.row 48 3 a7 s7.ev.length c7 (kE s7.ev)) rfl;have aM:Hid (Below w.heap.size w w5):=Y.out.trans (W.b.mono Y.out.size);rw[e6]at r6 ⊢;rw[e7]at r7 ⊢;obtain⟨b6,rfl,l6,m0,m1,m2⟩:=Ah r6 (i:=0) (e:=(1,1,5)) rfl;obtain⟨b7,rfl,l7,n0,n1,n2⟩:=Ah r7 (i:=0) (e:=(2,1,5)) rfl;simp only[Nat.zero_mul,Nat.zero_add]at m0 m1 m2 n0 n1 n2;clear r6 r7 W aC aF aH aD aE H e6 e7 q0 q1 aL;go_wp2_with fail
  go_ret;exact⟨rfl,aM.out⟩
theorem Tryz.Ds:(prog.info? 169).map (λi=>(i.zero,i.size,i.bytes))=some (some (.agg #[.int .i64 0,.int .u8 0]),2,16):=by kernel_rfl
structure vX(w:World) (ad:Option Addr) (len:Nat) (kd hh tk:Nat->Int) (ia:Nat->Option Addr) (gm ic:Nat->Nat):Prop where
 n:ad=none->len=0
 z:∀a,ad=some a->∀i,i<len->a.block<w.heap.size/\w.cell? (a.add (i*4))=some (.int .i64 (kd i))/\w.cell? (a.add (i*4+1))=some (.int .i64 (hh i))/\w.cell? (a.add (i*4+2))=some (.int .i64 (tk i))/\w.cell? (a.add (i*4+3))=some (.slice (ia i) (gm i) (ic i))
 t:∀i,i<len->-9223372036854775808<=tk i/\tk i<=9223372036854775807
structure LZ(w:World) (ad:Option Addr) (len:Nat) (kd hh tk:Nat->Int) (ia:Nat->Option Addr) (gm ic:Nat->Nat) (il:Nat->List (Int×Nat)):Prop extends vX w ad len kd hh tk ia gm ic where
 i:∀i,i<len->It w (ia i) (gm i) (il i)
theorem vX.at{w wr:World}{ad:Option Addr}{len:Nat}{kd hh tk:Nat->Int}{u:Nat->Option Addr}{gm ic:Nat->Nat}(h:vX w ad len kd hh tk u gm ic)(y:Below w.heap.size w wr){a:Addr}(Y:ad=some a){i:Nat}(hi:i<len):a.block<wr.heap.size/\wr.cell? (a.add (i*4))=some (.int .i64 (kd i))/\wr.cell? ⟨(a.add (i*4)).block,(a.add (i*4)).off+1,none⟩=some (.int .i64 (hh i))/\wr.cell? ⟨(a.add (i*4)).block,(a.add (i*4)).off+2,none⟩=some (.int .i64 (tk i))/\wr.cell? ⟨(a.add (i*4)).block,(a.add (i*4)).off+3,none⟩=some (.slice (u i) (gm i) (ic i)):=by
 obtain⟨o,H,W,G,J⟩:=h.z a Y i hi;have e:∀m,wr.cell? (a.add m)=w.cell? (a.add m):=λm=>aw (a:=a.add m) (by rw[gX];exact y.block _ o);refine⟨dm o y.size,(e _).trans H,?_,?_,?_⟩
 .have:=(e (i*4+1)).trans W;rw[<-D.kS a (i*4) 1]at this;exact this
 .have:=(e (i*4+2)).trans G;rw[<-D.kS a (i*4) 2]at this;exact this
 have:=(e (i*4+3)).trans J;rw[<-D.kS a (i*4) 3]at this;exact this
theorem Kw{w0 w w':World}{W J:Option oV}{O:Nat->Ob}{ob mo bk:Nat}(h:iA w0 O w)(ho:∀i,O i=if i<3 then A1 W i else if i<6 then A1 J (i-3) else .nil)(hg:w.grownBy w' none)(h1:w.heap.size<=ob)(h2:w.heap.size<=bk)(h3:ob≠bk)(hb:jB w' ob 169 (mo*2))(u:Full w' bk 81 3 3 (wm 0 (.slice none 0 0) (.slice none 0 0)))(hx:ts W 0)(o:ts J 0)(Z:mo<=1000000008):pS w0 ⟨W,J,ob,mo,bk,0,(none,0),[],(none,0),[]⟩ 0 w':=by
 refine⟨?_,hx,o,Z,bj _,bj _,bj _,λy o=>(by cases o),λy o=>(by cases o)⟩;have H:∀i k,6<=i->((⟨W,J,ob,mo,bk,0,(none,0),[],(none,0),[]⟩:St).O i).bs k->(i=6/\k=ob)\/(i=7/\k=bk):=λi k hi u=>by
  by_cases G:i<14
  .rcases yI G with rfl|rfl|rfl|rfl|rfl|rfl|rfl|rfl|rfl|rfl|rfl|rfl|rfl|rfl
   .omega
   .omega
   .omega
   .omega
   .omega
   .omega
   .exact ag ⟨rfl,u⟩
   .exact ab ⟨rfl,u⟩
   .cases u
   .cases u
   .obtain⟨y,o,_⟩:=u;cases o
   .obtain⟨y,o,_⟩:=u;cases o
   .exact u.elim
   exact u.elim
  rw[St.Ii _ (by omega)]at u;exact u.elim
 refine h.to (S:=λ_=>False) (C:=λi=>6<=i) (dU hg) (λ_ h=>h.elim) (λi hi=>?_) (λi hi=>?_) (λi k hi Y=>?_) (λi j k hi hj a1 a0=>?_)
 .rw[ho i];have a2:i<6:=by omega
  have hc:i=0\/i=1\/i=2\/i=3\/i=4\/i=5:=by omega
  rcases hc with rfl|rfl|rfl|rfl|rfl|rfl<;>rfl
 .by_cases G:i<14
  .rcases yI G with rfl|rfl|rfl|rfl|rfl|rfl|rfl|rfl|rfl|rfl|rfl|rfl|rfl|rfl
   .omega
   .omega
   .omega
   .omega
   .omega
   .omega
   .exact hb
   .exact u
   .exact dJ _ _ _ _
   .exact dJ _ _ _ _
   .exact λy o=>by cases o
   .exact λy o=>by cases o
   .trivial
   trivial
  rw[St.Ii _ (by omega)];trivial
 .rcases H i k hi Y with⟨_,e⟩|⟨_,e⟩<;>exact ab (by omega)
 rcases H i k hi a1 with⟨e1,e⟩|⟨e1,e⟩<;>rcases H j k hj a0 with⟨e2,e'⟩|⟨e2,e'⟩<;>omega
theorem pS.kept{w0 w w':World}{t:St}{I:Nat}(h:pS w0 t I w)(e:w.grownBy w' none):pS w0 t I w':={ h with Bn:=h.Bn.kept e }
theorem pS.looks{w0 w:World}{t:St}{I:Nat}(h:pS w0 t I w)(hI:I<=2000000):Calls prog 34 #[P0 t.bk] w λe w'=>e=.returned (.bool true)/\w.grownBy w' none:=by
 have o:∀x,x∈t.E->Rd w 48 3 (mG x.2) x.1:=h.Bn.at 10 (X:=.lists 48 3 mG t.E) rfl;have u:∀x,x∈t.J->Rd w 3 1 (qE x.2) x.1:=h.Bn.at 11 (X:=.lists 3 1 qE t.J) rfl;exact G9 (Ev:=wm t.n (.slice t.ra.1 t.E.length t.ra.2) (.slice t.rb.1 t.J.length t.rb.2)) (h.Bn.at 7 (X:=.full t.bk 81 3 (wm t.n (.slice t.ra.1 t.E.length t.ra.2) (.slice t.rb.1 t.J.length t.rb.2))) rfl) rfl rfl (h.Bn.at 8 (X:=.row 119 2 t.ra.1 t.E.length t.ra.2 (gQ t.E)) rfl) (h.Bn.at 9 (X:=.row 121 2 t.rb.1 t.J.length t.rb.2 (gQ t.J)) rfl) (λx i=>⟨o x i,h.lE x i⟩) (λx i=>⟨u x i,h.lJ x i⟩) (by have:=h.E;omega) (by have:=h.J;omega)
theorem G1(s t:ByteArray)(c0 c1 c2 c3 d0 d1 d2 d3:Int)(ad:Option Addr)(len cap:Nat)(kd hh tk:Nat->Int)(ia:Nat->Option Addr)(gm ic:Nat->Nat)(il:Nat->List (Int×Nat))(w:World)(hs:s.size<=maxLen)(bG:s.size<=140737488355328)(ht:t.size<=maxLen)(aR:t.size<=140737488355328)(aS:(M.jO s).2=true->Tm s)(bD:(M.jO t).2=true->Tm t)(hT:mB w)(bO:len<=1048576)(b7:LZ w ad len kd hh tk ia gm ic il)(HL:∀(s:ByteArray) (c0 c1 c2 c3:Int) (w:World),s.size<=maxLen->s.size<=140737488355328->mB w->qT c0 c1 c2 c3=false\/(M.jO s).2=false->Calls prog 14 #[.string s,.agg #[.int .i64 c0,.int .i64 c1,.int .i64 c2,.int .i64 c3]] w λe w'=>e=.returned (.tuple #[.pointer none,.bool true])/\Below w.heap.size w w'): Calls prog 17 #[.string s,.agg #[.int .i64 c0,.int .i64 c1,.int .i64 c2,.int .i64 c3],.string t,.agg #[.int .i64 d0,.int .i64 d1,.int .i64 d2,.int .i64 d3],.slice ad len cap,.bool false] w λe w'=>e=.returned (.bool true)/\Below w.heap.size w w':=by
 obtain⟨i0,hi,bK,bM,bJ⟩:=info_parts Tryz.Ds;have HS:=az (ay hs (ay bG (ay ht aR)));have b0:=az (ay aS bD);have KT:=az hT;have a1:=az b7;have b1:=az HL;clear hs bG ht aR aS bD hT b7 HL;have aZ:iA w (λ_=>.nil) w:=⟨eM _ _,λ_=>trivial,λ_ _ _ h=>h.elim,λ_ _ h=>h.elim⟩;have b6:w.grownBy ((w.alloc (.cells #[.int .i64 c0,.int .i64 c1,.int .i64 c2,.int .i64 c3] 23)).alloc (.cells #[.int .i64 d0,.int .i64 d1,.int .i64 d2,.int .i64 d3] 23)) none:=au (ah _ _ _) _;have aB:=az (aZ.kept b6);have aV:((w.alloc (.cells #[.int .i64 c0,.int .i64 c1,.int .i64 c2,.int .i64 c3] 23)).alloc (.cells #[.int .i64 d0,.int .i64 d1,.int .i64 d2,.int .i64 d3] 23)).heap[w.heap.size]? = some (.cells #[.int .i64 c0,.int .i64 c1,.int .i64 c2,.int .i64 c3] 23 (0,0)):=(ak _ _ _ (by simp)).trans (bf _ _);have aF:((w.alloc (.cells #[.int .i64 c0,.int .i64 c1,.int .i64 c2,.int .i64 c3] 23)).alloc (.cells #[.int .i64 d0,.int .i64 d1,.int .i64 d2,.int .i64 d3] 23)).heap[w.heap.size+1]? = some (.cells #[.int .i64 d0,.int .i64 d1,.int .i64 d2,.int .i64 d3] 23 (0,0)):=by
  have:=bf (w.alloc (.cells #[.int .i64 c0,.int .i64 c1,.int .i64 c2,.int .i64 c3] 23)) (.cells #[.int .i64 d0,.int .i64 d1,.int .i64 d2,.int .i64 d3] 23);simpa using this
 clear aZ b6;go_in;go_upto_region 1 with fail
 generalize (w.alloc (.cells #[.int .i64 c0,.int .i64 c1,.int .i64 c2,.int .i64 c3] 23)).alloc (.cells #[.int .i64 d0,.int .i64 d1,.int .i64 d2,.int .i64 d3] 23)=w1 at *;obtain⟨x0,x1,x2,x3,lx⟩:=gp aV;have ly:=bz aF;have b8:=az aF;have b3:=az (FY s c0 c1 c2 c3 w1 HS.out.1 HS.out.2.1 b0.out.1 (KT.out.below aB.out.b) (b1.out s c0 c1 c2 c3 w1 HS.out.1 HS.out.2.1 (KT.out.below aB.out.b)));clear aV aF;go_wp2_with fail
 refine b3.out.mono ?_;rintro e w2 ⟨xo,rfl,aX,aK⟩;have a8:=az (aB.out.join aK 0);have aM:=(aK.b.block (w.heap.size+1) ly).trans b8.out;obtain⟨y0,y1,y2,y3,bN⟩:=gp aM;have bF:=az aX;have bC:=az (FY t d0 d1 d2 d3 w2 HS.out.2.2.1 HS.out.2.2.2 b0.out.2 (KT.out.below a8.out.b) (b1.out t d0 d1 d2 d3 w2 HS.out.2.2.1 HS.out.2.2.2 (KT.out.below a8.out.b)));clear aK aM aX aB b8 b3 x0 x1 x2 x3 lx ly;go_wp2_with fail
 refine bC.out.mono ?_;rintro e w3 ⟨yo,rfl,bB,b2⟩;have aD:=az (a8.out.join b2 3);have aY:=az bB;clear b2 bB a8 bC y0 y1 y2 y3 bN;go_wp2_with fail
 go_loopw [16,17] (λmv iv wr=>∃(i M:Nat),i<=len/\iv=.int .i64 i/\mv=.int .i64 M/\M<=1000000000/\wr=w3/\Hid (∀j,j<i->gm j<=M)) (λ_ iv _=>len-(intOf iv).toNat)
 case atStart=>exact⟨0,0,by omega,rfl,rfl,by omega,rfl,λj hj=>by omega⟩
 case round=>
  obtain⟨i,Mx,bP,rfl,rfl,hM,rfl,rM⟩:=hrel;by_cases b5:i<len
  .have aU:(i:Int)<(len:Int):=by omega
   obtain⟨a,rfl⟩:∃a,ad=some a:=by
    cases ad with
    |none=>have:=a1.out.n rfl;omega
    |some a=>exact⟨a,rfl⟩
   obtain⟨z0,z1,z2,z3,z4⟩:=a1.out.at aD.out.b rfl b5;have aO:=(a1.out.i i b5).2.1;have aH:Hid (gm i<=Mx->∀j,j<i+1->gm j<=Mx):=λbE j hj=>by
    by_cases e:j=i
    .rw[e];exact bE
    exact rM.out j (by omega)
   have aG:Hid (Mx<gm i->∀j,j<i+1->gm j<=gm i):=λbE j hj=>by
    by_cases e:j=i
    .rw[e];exact bj _
    have:=rM.out j (by omega);omega
   generalize gm i=ni at *;generalize ia i=ai at *;generalize ic i=ci at *;clear z1 z2 z3 rM;by_cases bL:Mx<ni
   .have aW:(Mx:Int)<(ni:Int):=by omega
    have a6:=az (aG.out bL);clear aH aG;go_wp2_with fail
    go_roundw
    case rel=>first|exact⟨i+1,ni,by omega,by go_num,rfl,aO,rfl,a6⟩|exact⟨i+1,ni,by omega,by go_num,rfl,aO,trivial,a6⟩
    case measure=>simp[intOf];omega
   have aW:¬((Mx:Int)<(ni:Int)):=by omega
   have a6:=az (aH.out (by omega));clear aH aG;go_wp2_with fail
   go_roundw
   case rel=>first|exact⟨i+1,Mx,by omega,by go_num,rfl,hM,rfl,a6⟩|exact⟨i+1,Mx,by omega,by go_num,rfl,hM,trivial,a6⟩
   case measure=>simp[intOf];omega
  have aU:¬((i:Int)<(len:Int)):=by omega
  have b4:Hid (∀j,j<len->gm j<=Mx):=λj hj=>rM.out j (by omega);have q8:IntKind.i64.wrap ((Mx:Int)+8)=((Mx+8:Nat):Int):=by rw[bl,bd _ (by omega)];rfl
  clear rM;go_wp2_with (at_make;go_loud (refine wpList_make_full _ rfl _ _ 56 rfl 0 169 i0 _ 2 Tryz.underlying56 hi bK bM _ _ _ _ (Mx+8) rfl rfl rfl rfl (by rw[bJ];omega) (by unfold maxLen;omega) (dc _) ?_))
  intro w4 aC aL;have a4:=jB.owned aC;have aN:=a4.lt;have bA:wr.grownBy (w4.alloc (.cells #[.int .i64 0,.slice none 0 0,.slice none 0 0] 81)) none:=au aL _;have aE:Hid (pS w ⟨xo,yo,wr.heap.size,Mx+8,w4.heap.size,0,(none,0),[],(none,0),[]⟩ 0 (w4.alloc (.cells #[.int .i64 0,.slice none 0 0,.slice none 0 0] 81))):=by
   refine Kw aD.out (λi=>?_) bA (bj _) aL.size (by omega) ?_ ⟨_,bf w4 _,rfl,λj hj=>?_⟩ bF.out aY.out (by omega)
   .by_cases h1:i<3
    .simp only[aj h1];rw[aa (by omega),aj (by omega),Nat.sub_zero]
    rw[aa h1];by_cases h2:i<6
    .rw[aj h2,aj (by omega)]
    rw[aa h2,aa (by omega),aa (by omega)]
   .obtain⟨bH,k1,k2⟩:=a4;exact⟨bH,(ak _ _ _ aN).trans k1,k2⟩
   have hc:j=0\/j=1\/j=2:=by omega
   rcases hc with rfl|rfl|rfl<;>rfl
  clear aC a4 aN bA aL aD bF aY;obtain⟨ob,aI⟩:∃ob,ob=wr.heap.size:=⟨_,rfl⟩;obtain⟨bk,a4⟩:∃bk,bk=w4.heap.size:=⟨_,rfl⟩;obtain⟨mo,aJ⟩:∃mo,mo=Mx+8:=⟨_,rfl⟩;have bI:Hid (∀j,j<len->gm j+8<=mo):=λj hj=>by have:=b4.out j hj;omega
  rw[<-aI,<-a4,<-aJ]at aE;have aQ:Hid (∃t,pS w t 0 (w4.alloc (.cells #[.int .i64 0,.slice none 0 0,.slice none 0 0] 81))/\t.ob=ob/\t.mo=mo/\t.bk=bk/\pV t.x=pV xo/\pV t.y=pV yo):=⟨_,aE.out,rfl,rfl,rfl,rfl,rfl⟩;clear aE b4;go_wp2_with fail
  rw[<-aI,<-a4,<-aJ];clear aI a4 aJ q8;generalize w4.alloc (.cells #[.int .i64 0,.slice none 0 0,.slice none 0 0] 81)=w5 at *;generalize pV xo=vx at *;generalize pV yo=vy at *;go_loopw [20] (λiv wx=>∃i:Nat,i<=len/\iv=.int .i64 i/\Hid (∃t,pS w t i wx/\t.ob=ob/\t.mo=mo/\t.bk=bk/\pV t.x=vx/\pV t.y=vy)) (λiv _=>len-(intOf iv).toNat)
  case atStart=>exact⟨0,by omega,rfl,aQ⟩
  case round=>
   clear aQ;obtain⟨q,hq,rfl,rT⟩:=hrel;by_cases a9:q<len
   .have b9:(q:Int)<(len:Int):=by omega
    obtain⟨a,rfl⟩:∃a,ad=some a:=by
     cases ad with
     |none=>have:=a1.out.n rfl;omega
     |some a=>exact⟨a,rfl⟩
    obtain⟨t,u,Y,J,G,H,Z⟩:=rT.out;obtain⟨z0,z1,z2,z3,z4⟩:=a1.out.at u.Bn.b rfl a9;have KI:=az (a1.out.i q a9);have aA:=az (a1.out.t q a9);have aP:=az (bI.out q a9);generalize kd q=kq at *;generalize hh q=aT at *;generalize tk q=tq at *;generalize ia q=aq at *;generalize gm q=nq at *;generalize ic q=cq at *;clear u Y J G H Z t;go_upto_region 21 with fail
    .have HU:Hid (∃t,pS w t q wr/\t.ob=ob/\t.mo=mo/\t.bk=bk/\pV t.x=vy/\pV t.y=vx):=(by obtain⟨t,h1,h2,h3,h4,h5,h6⟩:=rT.out;exact⟨t.swap,h1.swap,h2,h3,h4,h6,h5⟩);clear rT;obtain⟨t,u,Y,J,G,H,Z⟩:=HU.out;clear HU
     cases hx:t.x with
     |none=>
      have hv:.pointer none=vy:=by rw[<-H,hx];rfl
      subst hv;have HN:Hid (∃t,pS w t (q+1) wr/\t.ob=ob/\t.mo=mo/\t.bk=bk/\pV t.x=vx/\pV t.y=.pointer none):=⟨t.swap,(u.next u.Bn).swap,Y,J,G,Z,H⟩;clear u Y J G H Z hx;go_wp2_with fail
      go_roundw
      case rel=>exact⟨q+1,by omega,by go_num,HN⟩
      case measure=>simp[intOf];omega
     |some x=>
      have hv:P0 x.pb=vy:=by rw[<-H,hx];rfl
      subst hv;have a2:=az (FQ (kind:=kq) (hh:=aT) (ic:=cq) u hx KI.out (by rw[J];exact aP.out) (by omega) aA.out.1 aA.out.2);rw[Y,J,G]at a2;have a3:=az (ay Y (ay J (ay G (ay H Z))));clear u Y J G H Z hx;go_wp2_with fail
      refine a2.out.mono ?_;rintro e w6 ⟨rfl,t',o,W⟩;have a0:=az (o.looks (by omega));have G:=W.2.2.1.trans a3.out.2.2.1;rw[G]at a0;have a5:=az (ay o W);clear o W G a2;go_wp2_with fail
      refine a0.out.mono ?_;rintro e w7 ⟨rfl,a7⟩;have HN:Hid (∃t,pS w t (q+1) w7/\t.ob=ob/\t.mo=mo/\t.bk=bk/\pV t.x=vx/\pV t.y=P0 x.pb):=by
       obtain⟨o,W⟩:=a5.out;obtain⟨Y,J,G,H,Z⟩:=a3.out;exact⟨t'.swap,(o.kept a7).swap,(W.1.trans Y),(W.2.1.trans J),(W.2.2.1.trans G),(W.2.2.2.2.trans Z),(W.2.2.2.1.trans H)⟩
      clear a7 a5 a0 a3;go_wp2_with fail
      go_roundw
      case rel=>exact⟨q+1,by omega,by go_num,HN⟩
      case measure=>simp[intOf];omega
    have HU:=rT;clear rT;obtain⟨t,u,Y,J,G,H,Z⟩:=HU.out;clear HU
    cases hx:t.x with
    |none=>
     have hv:.pointer none=vx:=by rw[<-H,hx];rfl
     subst hv;have HN:Hid (∃t,pS w t (q+1) wr/\t.ob=ob/\t.mo=mo/\t.bk=bk/\pV t.x=.pointer none/\pV t.y=vy):=⟨t,u.next u.Bn,Y,J,G,H,Z⟩;clear u Y J G H Z hx;go_wp2_with fail
     go_roundw
     case rel=>exact⟨q+1,by omega,by go_num,HN⟩
     case measure=>simp[intOf];omega
    |some x=>
     have hv:P0 x.pb=vx:=by rw[<-H,hx];rfl
     subst hv;have a2:=az (FQ (kind:=kq) (hh:=aT) (ic:=cq) u hx KI.out (by rw[J];exact aP.out) (by omega) aA.out.1 aA.out.2);rw[Y,J,G]at a2;have a3:=az (ay Y (ay J (ay G (ay H Z))));clear u Y J G H Z hx;go_wp2_with fail
     refine a2.out.mono ?_;rintro e w6 ⟨rfl,t',o,W⟩;have a0:=az (o.looks (by omega));have G:=W.2.2.1.trans a3.out.2.2.1;rw[G]at a0;have a5:=az (ay o W);clear o W G a2;go_wp2_with fail
     refine a0.out.mono ?_;rintro e w7 ⟨rfl,a7⟩;have HN:Hid (∃t,pS w t (q+1) w7/\t.ob=ob/\t.mo=mo/\t.bk=bk/\pV t.x=P0 x.pb/\pV t.y=vy):=by
      obtain⟨o,W⟩:=a5.out;obtain⟨Y,J,G,H,Z⟩:=a3.out;exact⟨t',o.kept a7,(W.1.trans Y),(W.2.1.trans J),(W.2.2.1.trans G),(W.2.2.2.1.trans H),(W.2.2.2.2.trans Z)⟩
     clear a7 a5 a0 a3;go_wp2_with fail
     go_roundw
     case rel=>exact⟨q+1,by omega,by go_num,HN⟩
     case measure=>simp[intOf];omega
   have b9:¬((q:Int)<(len:Int)):=by omega
   go_wp2_with fail
   go_ret;obtain⟨t,u,_⟩:=rT.out;exact⟨rfl,u.Bn.b⟩
theorem vX.below{w w':World}{ad:Option Addr}{len:Nat}{kd hh tk:Nat->Int}{u:Nat->Option Addr}{gm ic:Nat->Nat}(h:vX w ad len kd hh tk u gm ic)(y:Below w.heap.size w w'):vX w' ad len kd hh tk u gm ic:=by
 refine⟨h.n,λa Y i hi=>?_,h.t⟩;obtain⟨o,H,W,G,J⟩:=h.z a Y i hi;have e:∀m,w'.cell? (a.add m)=w.cell? (a.add m):=λm=>aw (a:=a.add m) (by rw[gX];exact y.block _ o);exact⟨dm o y.size,(e _).trans H,(e _).trans W,(e _).trans G,(e _).trans J⟩
theorem Tryz.Ho:(prog.info? 76).map (λi=>(i.zero,i.size,i.bytes))=some (some (.agg #[.int .i64 0,.int .i64 0,.int .i64 0,.slice none 0 0]),4,48):=by kernel_rfl
theorem Tryz.tT:prog.underlying 29=some (.slice 76):=by kernel_rfl
def AN(L:List (Int×Int×Int)):List Value:=L.flatMap (λx=>[.int .i64 x.1,.int .i64 x.2.1,.int .i64 x.2.2,.slice none 0 0])
theorem Ch : ∀ {L : List (Int × Int × Int)} {k : Nat} {x : Int × Int × Int}, L[k]? = some x → (AN L)[k * 4]? = some (.int .i64 x.1) ∧ (AN L)[k * 4 + 1]? = some (.int .i64 x.2.1) ∧ (AN L)[k * 4 + 2]? = some (.int .i64 x.2.2) ∧ (AN L)[k * 4 + 3]? = some (.slice none 0 0)
  | [], k, x, h => by simp at h
  | y :: L, 0, x, h => by
    have e : y = x := by simpa using h
    subst e
    exact ⟨rfl, rfl, rfl, rfl⟩
  | y :: L, k + 1, x, h => by
    have := Ch (L := L) (k := k) (x := x) (by simpa using h)
    have hc : AN (y :: L) = .int .i64 y.1 :: .int .i64 y.2.1 :: .int .i64 y.2.2 :: .slice none 0 0 :: AN L := by unfold AN; simp
    rw [hc, show (k + 1) * 4 = k * 4 + 4 by omega]
    exact this
structure FN(w:World) (L:List (Int×Int×Int)) (ad:Option Addr) (c:Nat) (wr:World):Prop where
 b:Below w.heap.size w wr
 o:wr.ownsRow 0 76 4 (.slice ad L.length c) L.length (AN L)
 d:∀k,eO ad=some k->w.heap.size<=k
 t:∀x,x∈L->-9223372036854775808<=x.2.2/\x.2.2<=9223372036854775807
theorem FN.Mc{w wr:World}{L:List (Int×Int×Int)}{ad:Option Addr}{c:Nat}(h:FN w L ad c wr):LZ wr ad L.length (λi=>(L.getD i (0,0,0)).1) (λi=>(L.getD i (0,0,0)).2.1) (λi=>(L.getD i (0,0,0)).2.2) (λ_=>none) (λ_=>0) (λ_=>0) (λ_=>[]):=by
 have Z:∀i,i<L.length->∃x,L[i]? = some x/\L.getD i (0,0,0)=x:=λi hi=>⟨L[i],bn hi,by rw[ar,bn hi];rfl⟩;refine⟨⟨λe=>?_,λa G i hi=>?_,λi hi=>?_⟩,λi hi=>⟨rfl,dc _,rfl,λ_=>rfl,λa G=>(by cases G)⟩⟩
 .by_cases h0:L.length=0
  .exact h0
  obtain⟨b,c',J⟩:=dM h.o h0;rw[e]at J
  cases J
 .obtain⟨x,Y,W⟩:=Z i hi;obtain⟨b,c',J⟩:=dM h.o (by omega);injection J with H _ a3;subst a3;rw[G]at H;injection H with H;subst H;have u:=h.o;rw[G]at u;obtain⟨k0,k1,k2,k3⟩:=Ch Y;have y:∀k,(⟨b,0,none⟩:Addr).add k=⟨b,k,none⟩:=λk=>by unfold Addr.add;split<;>simp_all
  rw[W,y,y,y,y];exact⟨(dA u b rfl).2.1,hZ u k0,hZ u k1,hZ u k2,hZ u k3⟩
 obtain⟨x,Y,W⟩:=Z i hi;rw[W];exact h.t x (ed Y)
theorem FN.add{w wr w6:World}{L:List (Int×Int×Int)}{ad o:Option Addr}{c J:Nat}{x:Int×Int×Int}(h:FN w L ad c wr){W:World}(H:wr.grownBy W none)(ho:w6.ownsRow 0 76 4 (.slice o (L.length+1) J) (L.length+1) (AN L++[.int .i64 x.1,.int .i64 x.2.1,.int .i64 x.2.2,.slice none 0 0]))(u:W.grownBy w6 (Value.slice ad L.length c).ownBlock){N:Nat}(hN:wr.heap.size<=N)(hm:jE N (.slice ad L.length c) (.slice o (L.length+1) J))(hx:-9223372036854775808<=x.2.2/\x.2.2<=9223372036854775807):FN w (L++[x]) o J w6:=by
 have hl:(L++[x]).length=L.length+1:=by rw[bo];rfl
 have hs:AN (L++[x])=AN L++[.int .i64 x.1,.int .i64 x.2.1,.int .i64 x.2.2,.slice none 0 0]:=by unfold AN;simp
 rw[dr]at u;have hz:=H.size;have a0:=h.b.size;refine⟨⟨u.os.trans (H.os.trans h.b.os),u.tape.trans (H.tape.trans h.b.tape),u.output.trans (H.output.trans h.b.output),by have:=u.size;omega,λk Y=>(u.block k (by omega) (λe=>by have:=h.d k e.symm;omega)).trans ((H.block k (by omega) (by intro e;cases e)).trans (h.b.block k Y))⟩,by rw[hl,hs];exact ho,λk Y=>?_,λy G=>?_⟩
 .have i:(Value.slice o (L.length+1) J).ownBlock=some k:=by rw[dr];exact Y
  rcases hm with Z|⟨g,Z,h2⟩
  .rw[Z,dr]at i;exact h.d k i
  rw[Z]at i;injection i with i;omega
 rcases di.1 G with G|G
 .exact h.t y G
 rw[dL.1 G];exact hx
theorem G3(ad:Option Addr)(len cap:Nat)(kd hh tk:Nat->Int)(ia:Nat->Option Addr)(gm ic:Nat->Nat)(w:World)(aF:len<=1048576)(a9:vX w ad len kd hh tk ia gm ic): Calls prog 19 #[.slice ad len cap] w λe w'=>∃L a2 c2,e=.returned (.slice a2 L.length c2)/\L.length<=len/\FN w L a2 c2 w':=by
 obtain⟨i0,hi,aC,aE,aB⟩:=info_parts Tryz.Ho;have W:=az a9;have a0:Hid (FN w [] none 0 w):=⟨eM _ _,dJ _ _ _ _,λk hk=>(by cases hk),λx hx=>(by cases hx)⟩;go_in;go_wp2_with fail
 go_loopw [3,4] (λlv iv wx=>∃(i n c:Nat) (L:List (Int×Int×Int)) (a:Option Addr),i<=len/\iv=.int .i64 i/\lv=.slice a n c/\n<=i/\Hid (n=L.length)/\Hid (FN w L a c wx)) (λ_ iv _=>len-(intOf iv).toNat)
 case atStart=>exact⟨0,0,0,[],none,by omega,rfl,rfl,by omega,rfl,a0⟩
 case round=>
  obtain⟨i,n,c,L,a2,aG,rfl,rfl,aH,rN,rP⟩:=hrel;by_cases a8:i<len
  .have a5:(i:Int)<(len:Int):=by omega
   obtain⟨a,rfl⟩:∃a,ad=some a:=by
    cases ad with
    |none=>have:=W.out.n rfl;omega
    |some a=>exact⟨a,rfl⟩
   obtain⟨z0,z1,z2,z3,z4⟩:=W.out.at rP.out.b rfl a8;have aD:=az (W.out.t i a8);generalize kd i=G at *;generalize hh i=H at *;generalize tk i=J at *;generalize ia i=aq at *;generalize gm i=nq at *;generalize ic i=cq at *;by_cases h4:G<=4
   .have Y:wr.grownBy (wr.alloc (.cells #[.int .i64 G,.int .i64 H,.int .i64 J,.slice none 0 0] 76)) none:=au (ax _ _) _;have a6:=bf wr (.cells #[.int .i64 G,.int .i64 H,.int .i64 J,.slice none 0 0] 76);go_upto_region 8 with fail
    generalize wr.alloc (.cells #[.int .i64 G,.int .i64 H,.int .i64 J,.slice none 0 0] 76)=w5 at *;obtain⟨y0,y1,y2,y3,ly⟩:=gp a6;have Z:Hid (w5.ownsRow 0 76 4 (.slice a2 n c) n (AN L)):=by
     show World.ownsRow _ _ _ _ _ _ _;rw[rN.out];exact dD rP.out.o (λk hk=>Y.block k (dA rP.out.o k hk).2.1 (by intro e;cases e))
    have a7:=az (λk hk=>(dA Z.out k hk).2.1);go_wp2_with (at_builtin;refine gK rfl (.tmp 23) (.tmp 25) 29 rfl 76 i0 _ 4 48 Tryz.tT hi aC aE aB rfl (by decide) _ _ _ _ rfl (dD Z.out (λk h=>ak _ _ _ (a7.out k h))) ⟨w5.heap.size,0,none⟩ 1 1 [.int .i64 G,.int .i64 H,.int .i64 J,.slice none 0 0] rfl rfl ?c1 ?c2 ?c3 ?c4 ?c5 ?_)
    try case c1=>intro j u y;match j,y with|0,y=>(simp at y;subst y;simp[Addr.add,go_sem])|1,y=>(simp at y;subst y;simp[Addr.add,go_sem])|2,y=>(simp at y;subst y;simp[Addr.add,go_sem])|3,y=>(simp at y;subst y;simp[Addr.add,go_sem])
    try case c2=>simp[Value.oneCell']
    try case c3=>unfold maxLen;omega
    try case c4=>omega
    try case c5=>omega
    intro v' w6 ho a3 a1;obtain⟨b,c',rfl⟩:=dM ho (by omega);have HN:Hid (FN w (L++[(G,H,J)]) (some ⟨b,0,none⟩) c' w6):=by
     have e:=rN.out;subst e;exact rP.out.add (x:=(G,H,J)) (au (az Y).out _) ho a3 (by omega) a1 aD.out
    have aA:Hid (n+1=(L++[(G,H,J)]).length):=by
     show _=_;rw[bo,rN.out];rfl
    go_wp2_with fail
    go_roundw
    case rel=>exact⟨i+1,n+1,c',L++[(G,H,J)],some ⟨b,0,none⟩,by omega,by go_num,rfl,by omega,aA,HN⟩
    case measure=>simp[intOf];omega
   go_wp2_with fail
   go_roundw
   case rel=>exact⟨i+1,n,c,L,a2,by omega,by go_num,rfl,by omega,rN,rP⟩
   case measure=>simp[intOf];omega
  have a5:¬((i:Int)<(len:Int)):=by omega
  go_wp2_with fail
  go_ret;have e:=rN.out;subst e;exact⟨L,a2,c,rfl,by omega,rP.out⟩
end F
section
open Go.ChangeShapes Go.WideShapes Go.ChangeAt Go.WideMaps Go.WideElems Go.Joins
open Go.ChangeMaps (open_string shut_string)
theorem DQ{H:Type}(d:DataW H):1<=Rows.uptoBulk d:=by
 cases d with
 |lit l=>cases l<;>simp[Rows.uptoBulk]
 |_=>simp[Rows.uptoBulk]
theorem DR{H:Type}{d:DataW H}{l:List (DataW H)}(h:d∈l):Rows.uptoBulk d<=Rows.uptoBulkAll l:=by
 induction l with
 |nil=>cases h
 |cons x r e=>
  simp only[Rows.uptoBulkAll];rcases List.mem_cons.1 h with rfl|h
  .omega
  have:=e h;omega
theorem DS{H:Type}(l:List (DataW H)):l.length<=Rows.uptoBulkAll l:=by
 induction l with
 |nil=>simp[Rows.uptoBulkAll]
 |cons x r e=>have:=DQ x;simp only[Rows.uptoBulkAll,List.length_cons];omega
theorem EK{H:Type}{enc:TypeId×Value->H}{W:World}{sp:Nat->Bool}{e:Bool}{n:Nat}{v:Value}{x:DataW H×List MemPlace}(h:DataW.trod enc prog W 0 sp e n 56 [v]=some x):∃q:Option Addr×Nat×Nat,v=.slice q.1 q.2.1 q.2.2:=by
 rcases Go.Deep.open_slice Tryz.underlying56 h with⟨i,_⟩|⟨a,len,cap,m,o,D,Pl,i,_⟩
 .exact⟨(none,0,0),by simpa using i⟩
 exact⟨(some a,len,cap),by simpa using i⟩
theorem Tryz.Fz:prog.cellsOf 76=4:=by kernel_rfl
theorem Tryz.An:prog.cellsOf 3=1:=by kernel_rfl
theorem Tryz.FA:prog.cellsOf 2=1:=by kernel_rfl
theorem Tryz.DO:prog.cellsOf 56=1:=by kernel_rfl
theorem Jj{α:Type}:∀{l:List α},l.length=4->∃a b c d,l=[a,b,c,d] |[a,b,c,d],_=>⟨a,b,c,d,rfl⟩
theorem yp{H:Type}{enc:TypeId×Value->H}{W:World}{sp:Nat->Bool}{o:Bool}{n:Nat}{a:Addr}{i:Nat}{y:List Value}{x:DataW H×List MemPlace}(h1:W.cells? 0 (a.add (i*4)) 4=some y)(h:DataW.trod enc prog W 0 sp o n 76 y=some x)(J:Rows.uptoBulk x.1<=1048576): ∃q:(Int×Int×Int)×(Option Addr×Nat×Nat),W.cell? (a.add (i*4))=some (.int .i64 q.1.1)/\W.cell? (a.add (i*4+1))=some (.int .i64 q.1.2.1)/\W.cell? (a.add (i*4+2))=some (.int .i64 q.1.2.2)/\W.cell? (a.add (i*4+3))=some (.slice q.2.1 q.2.2.1 q.2.2.2)/\(-9223372036854775808<=q.1.2.2/\q.1.2.2<=9223372036854775807):=by
 obtain⟨_,u,e⟩:=World.cells?_some h1;obtain⟨y0,y1,y2,y3,k,hx,_,g0,g1,g2,g3⟩:=trod_struct4 underlying76 h;obtain⟨v0,v1,v2,v3,rfl⟩:=Jj u
 obtain⟨z0,Y,_,_⟩:=DataW.trod_int underlying3 (by simpa[Tryz.An] using g0);obtain⟨z1,e1,_,_⟩:=DataW.trod_int underlying3 (by simpa[Tryz.An] using g1);obtain⟨z2,G,_,w2⟩:=DataW.trod_int underlying2 (by simpa[Tryz.FA] using g2);simp at Y e1 G;subst Y e1 G;rw[hx]at J;simp only[Rows.uptoBulk,Rows.uptoBulkAll]at J;obtain⟨q,hq⟩:=EK (by simpa[Tryz.DO] using g3);have c0:=e 0 (by omega);have c1:=e 1 (by omega);have Z:=e 2 (by omega);have c3:=e 3 (by omega);rw[Go.Deep.add_add]at c0 c1 Z c3;refine⟨((z0,z1,z2),q),by simpa using c0,by simpa using c1,by simpa using Z,?_,Ko w2⟩;rw[<-hq];simpa using c3
theorem AD{H:Type}{enc:TypeId×Value->H}{W:World}{sp:Nat->Bool}{u:Bool}{fuel:Nat}{a0:Option Addr}{len cap:Nat}{x:DataW H×List MemPlace}(h:DataW.trod enc prog W 0 sp u fuel 29 [.slice a0 len cap]=some x)(hb:Rows.uptoBulk x.1<=1048576): len<=1048576/\∃kd hh tk ia gm ic,F.vX W a0 len kd hh tk ia gm ic:=by
 rcases Go.Deep.open_slice underlying29 h with⟨y,_⟩|⟨a,a2,a1,m,n',D,Pl,y,_,hl,hm,Y,hx,hi⟩
 .simp at y;obtain⟨rfl,rfl,rfl⟩:=y;exact⟨by omega,λ_=>0,λ_=>0,λ_=>0,λ_=>none,λ_=>0,λ_=>0,⟨λ_=>rfl,λa e=>(by cases e),λi hi=>ch hi (Nat.not_lt_zero i)⟩⟩
 simp at y;obtain⟨rfl,rfl,rfl⟩:=y;have a3:len<=m:=by rw[Y];split<;>omega
 rw[hx]at hb;simp only[Rows.uptoBulk]at hb;have J:=DS ((List.range len).map D);rw[dS,List.length_range]at J;have each:∀i,i<len->∃q:(Int×Int×Int)×(Option Addr×Nat×Nat),W.cell? (a.add (i*4))=some (.int .i64 q.1.1)/\W.cell? (a.add (i*4+1))=some (.int .i64 q.1.2.1)/\W.cell? (a.add (i*4+2))=some (.int .i64 q.1.2.2)/\W.cell? (a.add (i*4+3))=some (.slice q.2.1 q.2.2.1 q.2.2.2)/\(-9223372036854775808<=q.1.2.2/\q.1.2.2<=9223372036854775807):=λi o=>by
  obtain⟨cs,k1,k2⟩:=hi i (by omega);rw[Tryz.Fz]at k1;have Z:Rows.uptoBulk (D i)<=1048576:=by
   have a4:=DR (l:=(List.range len).map D) (ek.2 ⟨i,eJ.2 o,rfl⟩);omega
  exact yp k1 k2 Z
 obtain⟨Q,hQ⟩:=Go.Deep.choose_lt each;refine⟨by omega,λi=>(Q i).1.1,λi=>(Q i).1.2.1,λi=>(Q i).1.2.2,λi=>(Q i).2.1,λi=>(Q i).2.2.1,λi=>(Q i).2.2.2,⟨λe=>(by cases e),λb G i o=>?_,λi o=>(hQ i o).2.2.2.2⟩⟩;have eb:a=b:=by injection G
 subst eb;obtain⟨k1,k2,k3,k4,_⟩:=hQ i o;refine⟨?_,k1,k2,k3,k4⟩;have:=av W _ k1;rw[F.gX]at this;exact this
theorem AE{H:Type}{enc:TypeId×Value->H}{P:Program}{w:World}{e:Nat}{spare:Nat->Bool}{i:Bool}{t0 t1 t2 t3 t4:TypeId}{args:Array Value}{ds:List (DataW H)}{ps:List MemPlace}(h:DataW.TrodAll enc P w e spare i [t0,t1,t2,t3,t4] args.toList ds ps): ∃v0 v1 J o Y G d1 Z d3 W p0 p1 y p3 u,args=#[v0,v1,J,o,Y]/\ds=[G,d1,Z,d3,W]/\ps=p0++(p1++(y++(p3++u)))/\DataW.Trod enc P w e spare i t0 v0 G p0/\DataW.Trod enc P w e spare i t1 v1 d1 p1/\DataW.Trod enc P w e spare i t2 J Z y/\DataW.Trod enc P w e spare i t3 o d3 p3/\DataW.Trod enc P w e spare i t4 Y W u:=by
 obtain⟨v0,r0,G,e0,p0,q0,a0,rfl,rfl,h0,k0⟩:=trodAll_cons h;obtain⟨v1,r1,d1,e1,p1,q1,rfl,rfl,rfl,h1,k1⟩:=trodAll_cons k0;obtain⟨J,r2,Z,e2,y,q2,rfl,rfl,rfl,h2,k2⟩:=trodAll_cons k1;obtain⟨o,r3,d3,e3,p3,q3,rfl,rfl,rfl,h3,k3⟩:=trodAll_cons k2;obtain⟨Y,r4,W,e4,u,q4,rfl,rfl,rfl,h4,k4⟩:=trodAll_cons k3;obtain⟨rfl,rfl,rfl⟩:=trodAll_nil k4;exact⟨v0,v1,J,o,Y,G,d1,Z,d3,W,p0,p1,y,p3,u,by cases args;simp_all,rfl,by simp,h0,h1,h2,h3,h4⟩
theorem wG{H:Type}{enc:TypeId×Value->H}{P:Program}{w:World}{e:Nat}{spare:Nat->Bool}{i:Bool}{W t1 Z t3 t4:TypeId}{v0 v1 v2 v3 v4:Value}{d0 d1 Y d3 d4:DataW H}{o y J u G:List MemPlace}(h0:DataW.Trod enc P w e spare i W v0 d0 o)(h1:DataW.Trod enc P w e spare i t1 v1 d1 y)(h2:DataW.Trod enc P w e spare i Z v2 Y J)(h3:DataW.Trod enc P w e spare i t3 v3 d3 u)(h4:DataW.Trod enc P w e spare i t4 v4 d4 G):DataW.TrodAll enc P w e spare i [W,t1,Z,t3,t4] [v0,v1,v2,v3,v4] [d0,d1,Y,d3,d4] (o++(y++(J++(u++G)))):=⟨o,y++(J++(u++G)),h0,trodAll_mk4 h1 h2 h3 h4,rfl⟩
theorem Tryz.vQ:prog.cellsOf 23=4:=by kernel_rfl
end
namespace F
theorem Em(s:ByteArray)(w:World)(H:s.size<=maxLen)(u:s.size<=140737488355328)(o:(M.jO s).2=false): Calls prog 18 #[.string s] w λe w'=>e=.returned (.string s)/\Below w.heap.size w w':=by
 have HS:=az H;have y:=az o;go_in;go_wp2_with fail
 refine(pt s _ HS.out u).mono ?_;rintro e w1 ⟨hP,G⟩;have J:=az G;rcases hP with⟨_,rfl⟩|⟨i,_⟩
 .generalize (M.jO s).1=P at *;go_wp2_with fail
  go_ret;exact⟨rfl,J.out⟩
 rw[y.out]at i;cases i
theorem B6(s:ByteArray)(w:World)(u:s.size<=maxLen)(i:s.size<=140737488355328): Calls prog 18 #[.string s] w λe w'=>∃s',e=.returned (.string s')/\(s'.size=s.size/\((M.jO s').2=true->Tm s'))/\Below w.heap.size w w':=by
 cases hok:(M.jO s).2 with
 |true=>
  refine(GB s w u i hok).mono ?_;rintro e w' ⟨rfl,o⟩;refine⟨_,rfl,⟨?_,λ_=>Gy s⟩,o⟩;show((ig s (M.bt s 0)).map UInt8.ofNat).toArray.size=_;rw[List.size_toArray,dS,mh,(D.vk hok).2]
 |false=>
  refine(Em s w u i hok).mono ?_;rintro e w' ⟨rfl,o⟩;exact⟨s,rfl,⟨rfl,λh=>by rw[hok]at h;cases h⟩,o⟩
def zi(w:World)(n:Nat)(c0 c1 c2 c3 d0 d1 d2 d3:Int):Prop:=w.heap[n]? = some (.cells #[.int .i64 c0,.int .i64 c1,.int .i64 c2,.int .i64 c3] 23 (0,0))/\w.heap[n+1]? = some (.cells #[.int .i64 d0,.int .i64 d1,.int .i64 d2,.int .i64 d3] 23 (0,0))
theorem zi.below{w w':World}{n:Nat}{c0 c1 u G i o e y:Int}(h:zi w n c0 c1 u G i o e y)(H:Below w.heap.size w w'):zi w' n c0 c1 u G i o e y:=⟨(H.block _ (bz h.1)).trans h.1,(H.block _ (bz h.2)).trans h.2⟩
theorem zi.S{w:World}{N:Nat}{c0 c1 u G i o e y:Int}(h:zi w N c0 c1 u G i o e y):w.cell? ⟨N,0,none⟩=some (.int .i64 c0)/\w.cell? ⟨N,1,none⟩=some (.int .i64 c1)/\w.cell? ⟨N,2,none⟩=some (.int .i64 u)/\w.cell? ⟨N,3,none⟩=some (.int .i64 G)/\w.cell? ⟨N+1,0,none⟩=some (.int .i64 i)/\w.cell? ⟨N+1,1,none⟩=some (.int .i64 o)/\w.cell? ⟨N+1,2,none⟩=some (.int .i64 e)/\w.cell? ⟨N+1,3,none⟩=some (.int .i64 y):=by
 obtain⟨Z,a1,a2,H,_⟩:=gp h.1;obtain⟨W,b1,J,Y,_⟩:=gp h.2;exact⟨Z,a1,a2,H,W,b1,J,Y⟩
theorem GH(s t:ByteArray)(c0 c1 i o H W J Y:Int)(ad:Option Addr)(len cap:Nat)(kd hh tk:Nat->Int)(ia:Nat->Option Addr)(gm ic:Nat->Nat)(w:World)(hs:s.size<=maxLen)(aL:s.size<=140737488355328)(ht:t.size<=maxLen)(aI:t.size<=140737488355328)(hT:mB w)(aA:len<=1048576)(aG:vX w ad len kd hh tk ia gm ic)(HL:∀(s:ByteArray) (c0 c1 i o:Int) (w:World),s.size<=maxLen->s.size<=140737488355328->mB w->qT c0 c1 i o=false\/(M.jO s).2=false->Calls prog 14 #[.string s,.agg #[.int .i64 c0,.int .i64 c1,.int .i64 i,.int .i64 o]] w λe w'=>e=.returned (.tuple #[.pointer none,.bool true])/\Below w.heap.size w w'): Calls prog 4 #[.string s,.agg #[.int .i64 c0,.int .i64 c1,.int .i64 i,.int .i64 o],.string t,.agg #[.int .i64 H,.int .i64 W,.int .i64 J,.int .i64 Y],.slice ad len cap] w λe w'=>e=.returned (.bool true)/\Below w.heap.size w w':=by
 have HS:=az (ay hs (ay aL (ay ht aI)));have KT:=az hT;have aM:=az aG;have aO:=az HL;have u:Hid (Below w.heap.size w ((w.alloc (.cells #[.int .i64 c0,.int .i64 c1,.int .i64 i,.int .i64 o] 23)).alloc (.cells #[.int .i64 H,.int .i64 W,.int .i64 J,.int .i64 Y] 23))):=((eM _ _).alloc (bj _) _).alloc (by simp) _;have aD:Hid (zi ((w.alloc (.cells #[.int .i64 c0,.int .i64 c1,.int .i64 i,.int .i64 o] 23)).alloc (.cells #[.int .i64 H,.int .i64 W,.int .i64 J,.int .i64 Y] 23)) w.heap.size c0 c1 i o H W J Y):=by
  refine⟨(ak _ _ _ (by simp)).trans (bf _ _),?_⟩;have:=bf (w.alloc (.cells #[.int .i64 c0,.int .i64 c1,.int .i64 i,.int .i64 o] 23)) (.cells #[.int .i64 H,.int .i64 W,.int .i64 J,.int .i64 Y] 23);simpa using this
 go_in;go_upto_region 1 with fail
 generalize (w.alloc (.cells #[.int .i64 c0,.int .i64 c1,.int .i64 i,.int .i64 o] 23)).alloc (.cells #[.int .i64 H,.int .i64 W,.int .i64 J,.int .i64 Y] 23)=w1 at *;have aB:=az (Hf w1 (KT.out.below u.out));go_wp2_with fail
 refine aB.out.mono ?_;rintro e w2 ⟨rfl,a7⟩;have y:=az (aD.out.below a7);have aF:=az (u.out.trans (a7.mono u.out.size));obtain⟨y0,y1,y2,y3,ly⟩:=gp y.out.2;clear a7 aB u aD y0 y1 y2 y3;clear ly;go_wp2_with fail
 go_cut [12] from 14 to 22 (λv wx=>v=.bool true/\Hid (Below w.heap.size w wx))
 case first=>
  go_region_held3 (λw'=>w'.cell? ⟨w.heap.size,0,none⟩=some (.int .i64 c0)/\w'.cell? ⟨w.heap.size,1,none⟩=some (.int .i64 c1)/\w'.cell? ⟨w.heap.size,2,none⟩=some (.int .i64 i)/\w'.cell? ⟨w.heap.size,3,none⟩=some (.int .i64 o)/\w'.cell? ⟨w.heap.size+1,0,none⟩=some (.int .i64 H)/\w'.cell? ⟨w.heap.size+1,1,none⟩=some (.int .i64 W)/\w'.cell? ⟨w.heap.size+1,2,none⟩=some (.int .i64 J)/\w'.cell? ⟨w.heap.size+1,3,none⟩=some (.int .i64 Y)) (first|exact zi.S (w:=w2.drew) y.out|exact zi.S a1.out|exact zi.S aE.out|exact zi.S aH.out|exact zi.S aN.out) (first|(go_at_call 18;(first|(have hq:=a1;refine(B6 t _ HS.out.2.2.1 HS.out.2.2.2).mono ?_;rintro e w4 ⟨s4,rfl,aC,a8⟩;have aE:=az (zi.below a1.out a8);have a5:=az (aK.out.trans (a8.mono aK.out.size));have a6:=az aC;clear a8 aC)|(refine(B6 s _ HS.out.1 HS.out.2.1).mono ?_;rintro e w3 ⟨s3,rfl,aJ,a3⟩;have a1:=az (zi.below (w:=w2.drew) y.out a3);have aK:=az ((aF.out.drew).trans (a3.mono aF.out.size));have a4:=az aJ;clear a3 aJ)))|(go_at_call 19;refine(G3 ad len cap kd hh tk ia gm ic w4 aA (aM.out.below a5.out)).mono ?_;rintro e w5 ⟨L,a2,k2,rfl,hL,G⟩;have aH:=az (zi.below aE.out G.b);have a9:=az (a5.out.trans (G.b.mono a5.out.size));have aQ:=az G.Mc;clear G)|(go_at_call 17;refine(G1 s3 s4 c0 c1 i o H W J Y a2 L.length k2 _ _ _ _ _ _ _ w5 (by rw[a4.out.1];exact HS.out.1) (by rw[a4.out.1];exact HS.out.2.1) (by rw[a6.out.1];exact HS.out.2.2.1) (by rw[a6.out.1];exact HS.out.2.2.2) a4.out.2 a6.out.2 (KT.out.below a9.out) (by omega) aQ.out aO.out).mono ?_;rintro e w6 ⟨rfl,Z⟩;have aN:=az (zi.below aH.out Z);have a0:=az (a9.out.trans (Z.mono a9.out.size));clear Z))
  all_goals
   go_wp2_with fail
   go_meet
   case rel=>exact⟨rfl,a0⟩
 case rest=>
  obtain⟨rfl,a0⟩:=hcut;go_wp2_with fail
  go_ret;exact⟨by simp,a0.out⟩
end F
section
open Go.ChangeShapes Go.WideShapes Go.ChangeAt Go.WideMaps Go.WideElems Go.Joins
open Go.ChangeMaps (open_string shut_string)
theorem AL{W:World}(h:laidMetH prog Rows.stepsUptoRow.laid W):mB W:=wI h
theorem AM(os:Os)(args:Array Value):laidMetH prog Rows.stepsUptoRow.laid ((World.doorLaid prog 400 os).forCall (λ_ _=>0) ⟨#[],args,[]⟩).memory:=
 laidMetH_of_parts3 (fuel:=8) (laidMet_of_run' 8 (by kernel_rfl) (by kernel_rfl)) (by kernel_rfl) (by kernel_rfl)
theorem sr(H:Type)(enc:TypeId×Value->H)(W:World)(a1:Nat)(args:Array Value)(ds gs:List (DataW H))(o:List MemPlace)(i:∀(j:Nat) t v,f4.params[j]? = some t->args[j]? = some v->Value.okWide prog W .any a1 t v)(hW:DataW.Whole enc prog f4.params.toList Rows.stepsSpec.vars false W args.toList ds gs o)(hk:Rows.uptoSmall H (ds++gs)=true)(hL:laidMetH prog Rows.stepsUptoRow.laid W): Calls prog 4 args W λe G=>∃v,e=.returned v/\Rows.stepsSpec.post enc prog f4 false true false false W args v G:=by
 have u:=hW;obtain⟨p,q,a3,hV,rfl,aP,aQ⟩:=hW;have hA:=a3;rw[params4]at hA i;obtain⟨v0,v1,v2,v3,v4,d0,d1,d2,d3,d4,p0,p1,p2,p3,p4,rfl,rfl,rfl,h0,h1,h2,h3,h4⟩:=AE hA;obtain⟨rfl,rfl⟩:=trodVars_none hV;obtain⟨s,rfl,rfl,rfl,hs⟩:=open_string underlying9 (i 0 9 v0 rfl rfl) h0;obtain⟨u0,u1,u2,u3,y0,y1,y2,y3,m,rfl,rfl,rfl,a9,aM,a8,aG⟩:=open_agg4 underlying23 (by kernel_rfl) Tryz.vQ (i 1 23 v1 rfl rfl) h1;obtain⟨c0,e0,rfl,aI⟩:=DataW.trod_int underlying3 a9;obtain⟨c1,e1,rfl,aC⟩:=DataW.trod_int underlying3 aM;obtain⟨J,e2,rfl,a4⟩:=DataW.trod_int underlying3 a8;obtain⟨Y,e3,rfl,a6⟩:=DataW.trod_int underlying3 aG;simp at e0 e1 e2 e3;subst e0 e1 e2 e3;obtain⟨t,rfl,rfl,rfl,ht⟩:=open_string underlying9 (i 2 9 v2 rfl rfl) h2;obtain⟨u4,u5,u6,u7,y4,y5,y6,y7,m',rfl,rfl,rfl,aE,aB,aN,aL⟩:=open_agg4 underlying23 (by kernel_rfl) Tryz.vQ (i 3 23 v3 rfl rfl) h3;obtain⟨b0,e0,rfl,aH⟩:=DataW.trod_int underlying3 aE;obtain⟨b1,e1,rfl,a7⟩:=DataW.trod_int underlying3 aB;obtain⟨b2,e2,rfl,aJ⟩:=DataW.trod_int underlying3 aN;obtain⟨b3,e3,rfl,aK⟩:=DataW.trod_int underlying3 aL;simp at e0 e1 e2 e3;subst e0 e1 e2 e3;obtain⟨a0,len,cap,rfl⟩:=okWide_slice underlying29 (i 4 29 v4 rfl rfl);have a5:=h4;obtain⟨aO,hf⟩:=h4;simp only[eB,List.nil_append]at u hk;have aA:=dO hk;simp only[Rows.uptoBulkAll,Rows.uptoBulk]at aA
 have y:∀(G:World),Below W.heap.size W G->DataW.Trod enc prog G 0 (λb=>decide (b<W.heap.size)) true 29 (.slice a0 len cap) d4 p4:=
  λG hn=>Below.trod Tryz.laidOut (by kernel_rfl) (dO (by kernel_rfl)) a5 hn (λx hx=>by simpa using u.lt x (by simp[hx]))
 obtain⟨Z,kd,hh,tk,ia,gm,ic,aF⟩:=AD hf (by show Rows.uptoBulk d4<=_;omega);have es:s.data.toList.length=s.size:=by simp
 have et:t.data.toList.length=t.size:=by simp
 refine(F.GH s t c0 c1 J Y b0 b1 b2 b3 a0 len cap kd hh tk ia gm ic W (by unfold maxLen;omega) (by omega) (by unfold maxLen;omega) (by omega) (AL hL) Z aF (λs c0 c1 J Y w h1 h2 h3 h4=>C2 s c0 c1 J Y w h1 h2 h3 h4)).mono λe G ⟨he,hB⟩=>?_;subst he;have a2:=wG (spare:=λb=>decide (b<W.heap.size)) (shut_string underlying9 hs) (shut_agg4 (v0:=.int .i64 c0) (v1:=.int .i64 c1) (v2:=.int .i64 J) (v3:=.int .i64 Y) (y0:=(.lit (.int .i64 c0),[])) (y1:=(.lit (.int .i64 c1),[])) (y2:=(.lit (.int .i64 J),[])) (y3:=(.lit (.int .i64 Y),[])) underlying23 (by kernel_rfl) Tryz.vQ ⟨1,by simp[DataW.trod,underlying3,aI]⟩ ⟨1,by simp[DataW.trod,underlying3,aC]⟩ ⟨1,by simp[DataW.trod,underlying3,a4]⟩ ⟨1,by simp[DataW.trod,underlying3,a6]⟩) (shut_string underlying9 ht) (shut_agg4 (v0:=.int .i64 b0) (v1:=.int .i64 b1) (v2:=.int .i64 b2) (v3:=.int .i64 b3) (y0:=(.lit (.int .i64 b0),[])) (y1:=(.lit (.int .i64 b1),[])) (y2:=(.lit (.int .i64 b2),[])) (y3:=(.lit (.int .i64 b3),[])) underlying23 (by kernel_rfl) Tryz.vQ ⟨1,by simp[DataW.trod,underlying3,aH]⟩ ⟨1,by simp[DataW.trod,underlying3,a7]⟩ ⟨1,by simp[DataW.trod,underlying3,aJ]⟩ ⟨1,by simp[DataW.trod,underlying3,aK]⟩) (y _ hB);refine⟨_,rfl,[.lit (.string s.data.toList),.agg [.lit (.int .i64 c0),.lit (.int .i64 c1),.lit (.int .i64 J),.lit (.int .i64 Y)],.lit (.string t.data.toList),.agg [.lit (.int .i64 b0),.lit (.int .i64 b1),.lit (.int .i64 b2),.lit (.int .i64 b3)],d4],[],_,[],_,[],u,?_,a2,rfl,hB.frame _,λh=>by cases h⟩;exact trodAll_mk1 (shut_bool underlying4 _)
