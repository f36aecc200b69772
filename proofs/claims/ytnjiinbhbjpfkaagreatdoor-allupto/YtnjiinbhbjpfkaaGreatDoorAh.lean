import Derived.Test.YtnjiinbhbjpfkaaGreatDoorAe
import Derived.Test.YtnjiinbhbjpfkaaGreatDoorAL
import Derived.Test.YtnjiinbhbjpfkaaGreatDoorAZ
set_option maxRecDepth 100000
set_option maxHeartbeats 0
set_option linter.all false
namespace Go.Proofs.YtnjiinbhbjpfkaaGreatDoor
open Go.RowKit Go.Proofs.Tryz
namespace F
variable {k:Nat}{p:dH}{s:ByteArray}
theorem Et{M:Nat->List B.V}{n:Nat}{kd:B.Kd}{c:B.Cy}(h:(B.mD M n kd c).on k=true):kd.on k=true:=by
 unfold B.mD at h;split at h
 .exact B.nG h
 exact B.nG h
theorem qM{M:Nat->List B.V}{R:Nat->B.V}{nr n:Nat}:∀(u:Nat) {kd:B.Kd},B.jP kd nr n (0,R,M)->B.jP (B.eL M n u kd) nr n (0,R,M)/\∀k,(B.eL M n u kd).on k=true->kd.on k=true
 |0,kd,h=>⟨h,λ_ h=>h⟩
 | u+1,kd,h=>by
  cases hc:kd.cy with
  |none=>grind[B.qL]
  |some c=>
   rw[B.uE hc];let⟨k1,k2⟩:=qM u<|B.tj h hc;grind[Et]
theorem Cn{M:Nat->List B.V}{R:Nat->B.V}{nr n u:Nat}{kd:B.Kd}(hn:1<=n)(h:B.jP kd nr n (0,R,M)):B.jP (B.work R nr M n u kd) nr n (0,R,M)/\∀k,(B.work R nr M n u kd).on k=true->kd.on k=true:=by
 unfold B.work
 cases hc:kd.cy with
 |none=>exact qM u<|B.vp h hn
 |some c=>grind[qM]
def fN.jh{s:Pl}{X:Nat->Prop}(hn:1<=p.n)(h:fN p s X):fN p (s.jh p) X:=by
 let⟨k1,k2⟩:=Cn (u:=p.wk) hn (show B.jP s.kd (eH p s).length p.n (0,B.xH<|eH p s,s.M) from h.hl);exact h.vU k1<|λk _ _ e=>k2 k e
theorem Gn.same{s s':Pl}{gone:List Nat}(h:Gn s gone)(i:s'.lv=s.lv)(hn:s'.nt=s.nt):Gn s' gone:=λu e=>⟨(eB hn).2 (h u e).1,by rw[i];exact(h u e).2⟩
structure PH(p:dH) (s s':Pl):Prop where
 ok:Ok p s'.nC
 n1:s.nt<=s'.nt
 n2:s'.nt<=s.nt+p.qn
 el:s'.ev.length<=p.qn
 ev:∀gone,Gn s gone->∃t',(∀t r,s.q 2 0=t :: r->t'=t)/\JC t' gone s'.ev/\Gn s'.nC (gone++lh s'.ev)
 q:∀t r,s.q 2 0=t :: r->Pe s'.ev->s'.sp=false->∃m,s'.q 2 0=r++m
theorem qe{s s':Pl}{ticks:Int}{l:List (Int×Nat)}(hP:PI p)(aB:1<=p.n)(h:Ok p s)(he:s.ev=[])(hn:s.nt+p.qn<=500000000)(aA:∀x,x∈l->x.2<256)(ht:jX p s ticks l s'):PH p s s':=by
 have ha:=B.yp (t:=ticks) h.c0 h.c1;let⟨o1,o⟩:=oj l aA<|h.gw ha.1 ha.2;have o:Qu s ((s.gw<|B.iL s.clk ticks).fg l):=⟨o.ev,o.lv,o.nt,o.sp,o.q⟩;unfold jX at ht;generalize (s.gw<|B.iL s.clk ticks).fg l=s1 at*;by_cases hc:s1.lv≠[]/\s1.sp=false
 .rw[bf hc]at ht;obtain⟨s3,h3,rfl⟩:=ht;let⟨o2,q2⟩:=py (s1.q 3 0) o1 rfl;have u:=o.trans q2;generalize s1.iC (s1.q 3 0)=s2 at*;let⟨o3,e3,f3⟩:=vB hP o2 (eZ u.nt hn) h3;have y:Ok p (s3.jh p).nC:=(o3.jh aB).same rfl rfl rfl rfl rfl rfl rfl rfl rfl rfl rfl;let⟨m,hm⟩:=u.q
  cases hq:s2.q 2 0 with
  |nil=>
   have:=e3 hq;subst this;have a0:s.q 2 0=[]:=by rw[hq]at hm;exact(List.append_eq_nil_iff.1 hm.symm).1
   have i:=u.ev.trans he;refine⟨y,by show s.nt<=s3.nt;rw[u.nt];omega,by show s3.nt<=_;rw[u.nt];omega,by show s3.ev.length<=_;grind,λgone hg=>⟨0,λt r e=>(by grind),?_,?_⟩,λt r e=>(by grind)⟩
   .show JC 0 gone s3.ev;rw[i];trivial
   show Gn (s3.jh p).nC (gone++lh s3.ev);rw[i];have:gone++lh []=gone:=by unfold lh;simp
   rw[this];exact hg.same (s':=(s3.jh p).nC) u.lv u.nt
  |cons t r=>
   let⟨s0,hG,g1,g2,g3,g4⟩:=f3 t r hq;obtain⟨ev,a1,a2,a3,a4,a5⟩:=hG;have i:s3.ev=ev:=by rw[a1,g1,u.ev,he,List.nil_append]
   have J:=g2.trans u.lv;have H:=g3.trans u.nt;have G:∀Y Z,s.q 2 0=Y :: Z->t=Y/\r=Z++m:=λY Z e=>by
    grind
   refine⟨y,by show s.nt<=s3.nt;omega,by show s3.nt<=_;omega,by show s3.ev.length<=_;rw[i];exact a2,λgone hg=>⟨t,λY Z e=>(G Y Z e).1,?_,?_⟩,λY Z e a8 _=>?_⟩
   .show JC t gone s3.ev;rw[i];exact(a4 gone<|hg.same J H).1
   .show Gn (s3.jh p).nC (gone++lh s3.ev);rw[i];exact(a4 gone<|hg.same J H).2.same (s':=(s3.jh p).nC) rfl rfl
   let⟨m2,aC⟩:=a5 (by rw[<-i];exact a8);refine⟨m++m2,?_⟩;show s3.q 2 0=_;rw[aC,g4,(G Y Z e).2,fU]
 rw[av hc]at ht;subst ht;have y:Ok p s'.nC:=o1.same rfl rfl rfl rfl rfl rfl rfl rfl rfl rfl rfl;have i:=o.ev.trans he;refine⟨y,by rw[o.nt];exact bm _,lD o.nt,by rw[i];exact di _,λgone hg=>?_,λt r e _ hs=>?_⟩
 .have W:∃t',∀t r,s.q 2 0=t :: r->t'=t:=by
   cases hq:s.q 2 0 with
   |nil=>exact⟨0,λt r e=>(by cases e)⟩
   |cons a b=>exact⟨a,λt r e=>(by injection e)⟩
  obtain⟨t',W⟩:=W;refine⟨t',W,?_,?_⟩
  .rw[i];trivial
  rw[i];have:gone++lh []=gone:=by unfold lh;simp
  rw[this];exact hg.same (s':=s'.nC) o.lv o.nt
 have a6:=h.ql 2 0 (ag ⟨rfl,rfl⟩) t (by rw[e];simp);refine dr ⟨?_,hs⟩ hc;rw[o.lv];intro e';rw[e']at a6;cases a6
theorem F3{s:ByteArray}{f:Nat}:∀(n k0:Nat),(M.fns s f (M.pos s k0) n).2=true->∀k,k<n->(M.fn s (M.pos s<|k0+k) f).2=true
 |0,_,_,k,hk=>by omega
 | n+1,k0,h,k,hk=>by
  unfold M.fns at h;by_cases e:(M.fn s (M.pos s k0) f).2=true
  .rw[bf e]at h
   cases k with
   |zero=>exact e
   |succ k=>
    rw[(M.vw e).1]at h;have:=F3 n (k0+1) h k af;grind
  grind
theorem yj{s:ByteArray}{r f l:Nat}:∀(n p:Nat),(M.code s r f l p n).2=true->∀i,i<n->(M.ins s (p+4*i) r f l).2=true
 |0,_,_,i,hi=>by omega
 | n+1,p,h,i,hi=>by
  unfold M.code at h;by_cases e:(M.ins s p r f l).2=true
  .rw[bf e]at h
   cases i with
   |zero=>exact e
   |succ i=>
    rw[M.xV e]at h;have:=yj n (p+4) h i af;grind
  grind
def sm(s:ByteArray)(q:Nat):vV:=(M.bt s q,M.bt s<|q+1,M.bt s<|q+2,M.bt s<|q+3)
def Ox:∀e,e<23->e≠7/\e≠16->M.k0 e=114:=by decide
def Ow:∀e,e<23->(e=1\/(2<=e/\e<=6)\/e=10\/e=11)\/(e=13\/e=15\/e=18\/e=21)->M.k1 e=114:=by decide
def Ov:∀e,e<23->((2<=e/\e<=6)\/e=10\/e=11\/e=12\/e=13\/e=15)->M.k2 e=114:=by decide
def Ou:∀e,e<23->(e=7\/e=8)->M.k1 e=116:=by decide
def Ot:∀e,e<23->e=9->M.k1 e=115:=by decide
def Oq:∀e,e<23->e=12->M.k1 e=102:=by decide
def Oo:∀e,e<23->e≠7/\e≠8->M.k1 e≠116:=by decide
def Ix(op:Nat)(h:op<23):(op≠7->op≠16->M.k0 op=114)/\(op=1\/(2<=op/\op<=6)\/op=10\/op=11\/op=13\/op=15\/op=18\/op=21->M.k1 op=114)/\((2<=op/\op<=6)\/op=10\/op=11\/op=12\/op=13\/op=15->M.k2 op=114)/\(op=7\/op=8->M.k1 op=116)/\(op=9->M.k1 op=115)/\(op=12->M.k1 op=102)/\(op≠7->op≠8->M.k1 op≠116):=
 ⟨λa b=>Ox op h ⟨a,b⟩,λa=>Ow op h af,Ov op h,Ou op h,Ot op h,Oq op h,λa b=>Oo op h ⟨a,b⟩⟩
theorem IF{q r f l:Nat}(hr:2<=r)(hf:1<=f)(h:(M.ins s q r f l).2=true)(e1:p.rg k=r)(e2:p.nf=f)(e3:p.len k=l):LR p k (sm s q):=by
 unfold M.ins at h;by_cases e:M.tk s q 0 22=true
 .rw[bf e]at h;have a2:=(M.gZ e).2.2;have G:=M.Gu s;let⟨f0,f1,f2,f3,f4,f5,f6⟩:=Ix (M.bt s q) af;unfold M.uX at h;by_cases Y:M.tk s (q+1) 0 (M.lG r f<|M.k0<|M.bt s q)=true
  .rw[bf Y]at h;have g0:=(M.gZ Y).2.2;have Z:M.bt s q≠7->M.bt s q≠16->M.bt s (q+1)<p.rg k:=λn7 J=>by
    grind[M.lG]
   by_cases o:M.k1 (M.bt s q)=116
   .rw[bf o]at h;have hj:=Classical.byContradiction λhn=>f6 (λe=>hn<|ag e) (λe=>hn<|ak e) o;unfold M.xw at h;by_cases y:s.size<q+1+1+2
    .grind
    rw[av y]at h;by_cases H:l<256*M.bt s (q+1+1)+M.bt s (q+1+1+1)
    .grind
    refine⟨by show M.bt s q<23;omega,G _,G _,G _,Z,λi=>?_,λi=>?_,λ_=>?_,λi=>?_,λi=>?_⟩
    .have u:M.bt s q=1\/(2<=M.bt s q/\M.bt s q<=6)\/M.bt s q=10\/M.bt s q=11\/M.bt s q=13\/M.bt s q=15\/M.bt s q=18\/M.bt s q=21:=i;omega
    .have u:(2<=M.bt s q/\M.bt s q<=6)\/M.bt s q=10\/M.bt s q=11\/M.bt s q=12\/M.bt s q=13\/M.bt s q=15:=i;omega
    .show 256*M.bt s (q+2)+M.bt s (q+3)<=p.len k;grind
    .have u:M.bt s q=9:=i;omega
    have u:M.bt s q=12:=i;omega
   rw[av o]at h;by_cases y:M.tk s (q+1+1) 0 (M.lG r f<|M.k1<|M.bt s q)=true
   .rw[bf y]at h;have g1:M.bt s (q+2)<=M.lG r f (M.k1<|M.bt s q):=(M.gZ y).2.2;by_cases H:M.tk s (q+1+2) 0 (M.lG r f<|M.k2<|M.bt s q)=true
    .have g2:M.bt s (q+3)<=M.lG r f (M.k2<|M.bt s q):=(M.gZ H).2.2;have a4:M.lG r f 114=r-1:=rfl;have a3:M.lG r f 115=8:=rfl;have a1:M.lG r f 102=f-1:=rfl;refine⟨by show M.bt s q<23;omega,G _,G _,G _,Z,λi=>?_,λi=>?_,λi=>dr i<|λi=>o<|f3 i,λi=>?_,λi=>?_⟩
     .show M.bt s (q+2)<p.rg k;rw[f1 i]at g1;omega
     .show M.bt s (q+3)<p.rg k;rw[f2 i]at g2;omega
     .show M.bt s (q+2)<=8;rw[f4 i]at g1;omega
     show M.bt s (q+2)<p.nf;rw[f5 i]at g1;omega
    rw[av H]at h;cases h
   rw[av y]at h;cases h
  rw[av Y]at h;cases h
 rw[av e]at h;cases h
theorem qR(h:(M.nK s).2=true):1<=M.bt s 0/\M.bt s 0<=8/\∀k,k<M.bt s 0->(M.fn s (M.pos s k)<|M.bt s 0).2=true:=by
 unfold M.nK at h;by_cases e:M.tk s 0 1 8=true
 .rw[bf e]at h;have o:=M.gZ e;have i:((M.fns s (M.bt s 0) 1<|M.bt s 0).2&&decide ((M.fns s (M.bt s 0) 1<|M.bt s 0).1=s.size))=true:=h;rw[Bool.and_eq_true]at i;refine⟨o.2.1,o.2.2,λk u=>?_⟩;have:=F3 (s:=s) (f:=M.bt s 0) (M.bt s 0) 0 i.1 k u;grind
 grind
theorem Kr(h:(M.nK s).2=true)(Z:∀k,p.rg k=M.bt s (M.pos s k))(y:p.nf=M.bt s 0)(u:∀k,p.len k=M.bt s (M.pos s k+1))(Y:∀k i,p.ins k i=sm s (M.pos s k+2+4*i)):PI p:=by
 let⟨H,n2,W⟩:=qR h;intro f o i hi;rw[y]at o;rw[u]at hi;have e:=W f o;have G:(M.code s (M.bt s<|M.pos s f) (M.bt s 0) (M.bt s<|M.pos s f+1) (M.pos s f+2)<|M.bt s<|M.pos s f+1).2=true:=by
  unfold M.fn at e;by_cases a:M.tk s (M.pos s f) 2 8=true
  .grind
  rw[av a]at e;cases e
 rw[Y];exact IF (M.vw e).2.1 H (yj _ _ G i hi) (Z f) y<|u f
end F
namespace D
open F
variable {s:ByteArray}{w:aa}
def zU(s:ByteArray)(cbs ccs:Nat->Nat)(j:Nat):Value:=if j%2=0 then .int .i64 (M.bt s (M.pos s<|j/2):Int) else .slice (some ⟨cbs<|j/2,0,none⟩) (M.bt s<|M.pos s (j/2)+1) (ccs<|j/2)
def FR(s:ByteArray)(k j:Nat):Value:=.int .i64 (M.bt s (M.pos s k+2+j):Int)
def GS(s:ByteArray)(base:Nat)(w:aa)(k:Nat)(cbs ccs:Nat->Nat):Prop:=
 ∀i,i<k->w.ownsRow base 90 4 (.slice (some ⟨cbs i,0,none⟩) (M.bt s<|M.pos s i+1)<|ccs i) (M.bt s<|M.pos s i+1) (rowP (M.bt s (M.pos s i+1)*4)<|FR s i)/\∀j,j<i->cbs j<cbs i
theorem ib{b u n m:Nat}{e:TypeId}{v:Value}{xs:List Value}(h:w.ownsRow b e n v m xs)(y:u<=b):w.ownsRow u e n v m xs:=by
 refine⟨h.1,?_⟩;rcases h.2 with o|⟨g,cap,i,o,H,G⟩
 .grind
 exact ak ⟨g,cap,i,o,dQ y H,G⟩
theorem GS.of{e k:Nat}{w':aa}{cbs ccs:Nat->Nat}(h:GS s e w k cbs ccs)(o:∀i,i<k->w'.heap[cbs i]?=w.heap[cbs i]?):GS s e w' k cbs ccs:=λi hi=>⟨dS (h i hi).1 (λx u=>by
 grind[Value.ownBlock]),(h i hi).2⟩
theorem GS.lt{s:ByteArray}{e k:Nat}{w:aa}{cbs ccs:Nat->Nat}(h:GS s e w k cbs ccs){i:Nat}(hi:i<k):e<=cbs i/\cbs i<w.heap.size:=(h i hi).1.lt _ rfl
theorem Az(n:Nat)(P:Nat->Value)(a b:Value)(i:P (n*2)=a)(e:P (n*2+1)=b):rowP (n*2) P++[a,b]=rowP ((n+1)*2) P:=by
 grind[rowP,List.range_succ]
theorem Ay(n:Nat)(P:Nat->Value):rowP (n*4) P++[P<|n*4,P<|n*4+1,P<|n*4+2,P<|n*4+3]=rowP ((n+1)*4) P:=by
 grind[rowP,List.range_succ]
theorem Ib(h:(M.nK s).2=true):M.tk s 0 1 8=true/\M.pos s (M.bt s 0)=s.size:=by
 let⟨n1,n2,J⟩:=qR h;unfold M.nK at h;by_cases e:M.tk s 0 1 8=true
 .rw[bf e]at h;have y:((M.fns s (M.bt s 0) 1<|M.bt s 0).2&&decide ((M.fns s (M.bt s 0) 1<|M.bt s 0).1=s.size))=true:=h;rw[Bool.and_eq_true]at y;have i:∀n k0,(∀k,k<n->(M.fn s (M.pos s<|k0+k)<|M.bt s 0).2=true)->(M.fns s (M.bt s 0) (M.pos s k0) n).1=M.pos s (k0+n):=by
   intro n;induction n with
   |zero=>intro k0 _;rfl
   |succ n W=>
    intro k0 G;have o:=G 0 af;rw[Nat.add_zero]at o;have Z:(M.fn s (M.pos s k0)<|M.bt s 0).1=M.pos s (k0+1):=(M.vw o).1;unfold M.fns;grind
  have H:=i (M.bt s 0) 0 (λk u=>by grind);rw[Nat.zero_add]at H;exact⟨e,H.symm.trans<|eQ y.2⟩
 grind
theorem vz{p f:Nat}(h:(M.fn s p f).2=true):M.tk s p 2 8=true/\M.tk s (p+1) 1 200=true/\∀i,i<M.bt s (p+1)->(M.ins s (p+2+4*i) (M.bt s p) f<|M.bt s<|p+1).2=true:=by
 unfold M.fn at h;by_cases o:M.tk s p 2 8=true
 .rw[bf o]at h;by_cases e:M.tk s (p+1) 1 200=true
  .rw[bf e]at h;exact⟨o,e,λi hi=>yj _ _ h i hi⟩
  grind
 grind
def O1(s:ByteArray)(w w':aa)(e:Ending):Prop:=∃gb cp cbs ccs,e=.returned (.tuple #[.slice (some ⟨gb,0,none⟩) (M.bt s 0) cp,.int .i64 0,.bool true])/\w'.ownsRow (w.heap.size+1) 89 2 (.slice (some ⟨gb,0,none⟩) (M.bt s 0) cp) (M.bt s 0) (rowP (M.bt s 0*2)<|zU s cbs ccs)/\GS s (w.heap.size+1) w' (M.bt s 0) cbs ccs/\Below w.heap.size w w'
theorem xM(s:ByteArray)(w:aa)(hs:s.size<=maxLen)(hs2:s.size<=140737488355328)(hok:(M.nK s).2=true):Calls prog 35 #[.string s] w λe w'=>O1 s w w' e:=by
 have HS:=bj hs;obtain⟨n1,n2,hfn⟩:=qR hok;obtain⟨t0,hend⟩:=Ib hok;have HT0:=bj t0;have HFN:=bj hfn;have HEN:=bj hend;clear hs hok hfn t0 hend;obtain⟨i1,hi1,hz10,hz11,hz12⟩:=info_parts Tryz.FL;obtain⟨i2,hi2,hz20,hz21,hz22⟩:=info_parts Tryz.FM;generalize hF:M.bt s 0=F at*;have HF:=bj hF;go_in;go_wp2_with fail
 refine dq (mP w.heap.size s 0 1 8 1 8 (w.alloc<|kX s 0 false) (bl w _) HS.out rfl rfl HT0.out) ?_;rintro w1 ⟨hh,hg⟩;rw[hF];clear hF;have KB:Hid (w1.heap[w.heap.size]?=some (kX s ((M.pos s 0:Nat):Int) false)):=hh;have KL:=bj<|pe hg;clear hh hg;go_wp2_with fail
 go_loopw[7,8] (λv i wr=>∃(k:Nat) (ad:Option Addr) (cp:Nat) (cbs ccs:Nat->Nat),k<=F/\i=ah k/\v=.slice ad k cp/\Hid (wr.heap[w.heap.size]?=some (kX s ((M.pos s k:Nat):Int) false))/\Hid (Below w.heap.size w wr)/\Hid (wr.ownsRow (w.heap.size+1) 89 2 (.slice ad k cp) k<|rowP (k*2)<|zU s cbs ccs)/\Hid (GS s (w.heap.size+1) wr k cbs ccs)) (λ_ i _=>F-(intOf i).toNat)
 case atStart=>exact⟨0,none,0,λ_=>0,λ_=>0,af,rfl,rfl,KB,KL,eg _ _ _ _,(λi hi=>by omega)⟩
 case round=>
  clear KB KL;obtain⟨k,ad,cp,cbs,ccs,hk,rfl,rfl,rB,rL,rO,rC⟩:=hrel;by_cases hlt:k<F
  .obtain⟨f1,f2,f3⟩:=vz<|HFN.out k hlt;obtain⟨_,a1,a2⟩:=M.gZ f1;obtain⟨_,l1,l2⟩:=M.gZ f2;have HF1:=bj f1;have HF2:=bj f2;have HF3:=bj f3;clear f1 f2 f3;have y2:=(iK rB.out).2.2;generalize hR:M.bt s (M.pos s k)=R at*;generalize hL:M.bt s (M.pos s k+1)=L at*;have HRL:=bj<|bh hR hL;clear hR hL;go_wp2_with fail
   refine dq (mP w.heap.size s (M.pos s k) 2 8 2 8 wr rB.out HS.out rfl rfl HF1.out) ?_;rintro w3 ⟨hh,hg⟩;rw[HRL.out.1];have KB3:=bj hh;have KL3:=bj<|rL.out.trans<|l9 hg rL.out.size;have hne:(Value.slice ad k cp).ownBlock=none\/(Value.slice ad k cp).ownBlock≠some w.heap.size:=by
    right;intro e;have:=(rO.out.lt _ e).1;omega
   have KO3:=bj<|rO.out.kept hg hne;have KC3:=bj<|rC.out.of<|λi hi=>hg.block _ (rC.out.lt hi).2 (by intro e;injection e with e;have:=(rC.out.lt hi).1;omega);clear hh hg rB rL rO rC y2;have hgN:=ch KB3.out;have KV:=bj<|λx hx=>(KO3.out.lt x hx).2;have KV2:Hid (∀i,i<k->w.heap.size+1<=cbs i/\cbs i<w3.heap.size):=λi hi=>KC3.out.lt hi;go_wp2_with fail
   refine dq (mP w.heap.size s (M.pos s k+1) 1 200 1 200 (w3.alloc<|.cells #[ah R,.slice none 0 0] 89) (jx KB3.out _) HS.out rfl rfl HF2.out) ?_;rintro w4 ⟨hh,hg⟩;rw[HRL.out.2];have KB4:Hid (w4.heap[w.heap.size]?=some (kX s ((M.pos s k+2+4*0:Nat):Int) false)):=hh;have KL4:=bj<|(KL3.out.alloc af _).trans<|l9 hg fV;have KO4:=bj<|(KO3.out.alloc _).kept hg hne;have KC4:=bj<|KC3.out.of<|λi hi=>(hg.block _ (by simp;have:=(KV2.out i hi).2;omega) (by intro e;injection e with e;have:=(KV2.out i hi).1;omega)).trans<|au _ _ _ (KV2.out i hi).2;have KF4:=bj<|da hg (bl w3 _) LQ;clear hh hg KB3 KL3 KO3 KC3;generalize w3.heap.size=g at*;go_wp2_with fail
   go_loopw[11] (λi wx=>∃(j:Nat) (ad':Option Addr) (cp':Nat),j<=L/\i=ah j/\Hid (wx.heap[w.heap.size]?=some (kX s ((M.pos s k+2+4*j:Nat):Int) false))/\Hid (wx.heap[g]?=some (.cells #[ah R,.slice ad' j cp'] 89 (0,0)))/\Hid (wx.ownsRow (g+1) 90 4 (.slice ad' j cp') j<|rowP (j*4)<|FR s k)/\Hid (wx.ownsRow (w.heap.size+1) 89 2 (.slice ad k cp) k<|rowP (k*2)<|zU s cbs ccs)/\Hid (GS s (w.heap.size+1) wx k cbs ccs)/\Hid (Below w.heap.size w wx)) (λi _=>L-(intOf i).toNat)
   case atStart=>exact⟨0,none,0,af,rfl,KB4,KF4,eg _ _ _ _,KO4,KC4,KL4⟩
   case round=>
    clear KB4 KL4 KO4 KF4 KC4;obtain⟨j,ad',cp',hj,rfl,sB,sF,sY,sO,sC,sL⟩:=hrel;obtain⟨y0,y1,y2⟩:=iK sB.out;obtain⟨_,d0,d1,e0,e1⟩:=lO sF.out;by_cases hjl:j<L
    .have HIK:Hid ((M.ins s (M.pos s k+2+4*j) R F L).2=true):=HF3.out j hjl;go_wp2_with fail
     refine dq (Gk w.heap.size s (M.pos s k+2+4*j) R F L R F L wr sB.out HS.out hs2 (by have:=(FK HIK.out).2.2.1;omega) rfl rfl rfl af n1 a2 n2 HIK.out) ?_;rintro w5 ⟨hh,hg⟩;have hne':(Value.slice ad' j cp').ownBlock=none\/(Value.slice ad' j cp').ownBlock≠some w.heap.size:=by
      right;intro e;have:=(sY.out.lt _ e).1;omega
     have KB5:Hid (w5.heap[w.heap.size]?=some (kX s ((M.pos s k+2+4*(j+1):Nat):Int) false)):=hh;have KF5:=bj<|da hg sF.out LQ;have KY5:=bj<|sY.out.kept hg hne';have KO5:=bj<|sO.out.kept hg hne;have KC5:=bj<|sC.out.of<|λi hi=>hg.block _ (sC.out.lt hi).2 (by intro e;injection e with e;have:=(sC.out.lt hi).1;omega);have KL5:=bj<|sL.out.trans<|l9 hg sL.out.size;have HB4:Hid (FR s k (j*4)=ah (M.bt s (M.pos s k+2+4*j):Int)/\FR s k (j*4+1)=ah (M.bt s (M.pos s k+2+4*j+1):Int)/\FR s k (j*4+2)=ah (M.bt s (M.pos s k+2+4*j+2):Int)/\FR s k (j*4+3)=ah (M.bt s (M.pos s k+2+4*j+3):Int)):=by
      unfold FR;rw[show M.pos s k+2+(j*4)=M.pos s k+2+4*j by omega,show M.pos s k+2+(j*4+1)=M.pos s k+2+4*j+1 by omega,show M.pos s k+2+(j*4+2)=M.pos s k+2+4*j+2 by omega,show M.pos s k+2+(j*4+3)=M.pos s k+2+4*j+3 by omega];exact⟨rfl,rfl,rfl,rfl⟩
     clear hh hg sB sF sY sO sL sC y2 d0 d1 e0 e1 hne';generalize M.bt s (M.pos s k+2+4*j)=b0 at*;generalize M.bt s (M.pos s k+2+4*j+1)=b1 at*;generalize M.bt s (M.pos s k+2+4*j+2)=b2 at*;generalize M.bt s (M.pos s k+2+4*j+3)=b3 at*;obtain⟨hz5,d0,d1,e0,e1⟩:=lO KF5.out;have hz6:g<w5.heap.size+1:=af
     go_wp2_with (at_builtin;refine wpList_append_own _ rfl (.tmp 54) (.tmp 56) 87 rfl (g+1) 90 i1 _ 4 32 underlying87 hi1 hz10 hz11 hz12 rfl eo _ _ _ rfl ((KY5.out.alloc _).alloc _) (az (w5.heap.size+1) 0) 1 1 [ah (b0:Int),ah (b1:Int),ah (b2:Int),ah (b3:Int)] rfl rfl ?c1 ?c2 ?c3 ?c4 ?c5 ?_)
     case c1=>exact zS w5 _ _ _ _ _ _
     case c2=>intro u hu;simp at hu;rcases hu with rfl|rfl|rfl|rfl<;>rfl
     case c3=>unfold maxLen;omega
     case c4=>omega
     case c5=>simp;omega
     intro v' w6 hown hgrow _;obtain⟨g',cap',rfl⟩:∃g' cap',v'=dD g' (j+1) cap':=by
      rcases hown.2 with⟨_,h⟩|⟨g',cap',_,h,_⟩
      .omega
      exact⟨g',cap',h⟩
     have hnN:∀x,x<g+1->some x≠(Value.slice ad' j cp').ownBlock:=by
      intro x hx e;have:=(KY5.out.lt _ e.symm).1;omega
     have KB6:=bj<|da hgrow (jx (jx KB5.out _) _)<|hnN _ af;have KF6:=bj<|da hgrow ((au _ _ _ fV).trans<|(au _ _ _ hz5).trans KF5.out)<|hnN _ af;have KL6:=bj<|((KL5.out.alloc af _).alloc fV _).grown hgrow fV (λx hx=>by have:=(KY5.out.lt _ hx).1;omega);have KY6:Hid (w6.ownsRow (g+1) 90 4 (dD g' (j+1) cap') (j+1)<|rowP ((j+1)*4)<|FR s k):=by
      have h9:=hown;rw[<-Ay,HB4.out.1,HB4.out.2.1,HB4.out.2.2.1,HB4.out.2.2.2];exact h9
     have KO6:=bj<|((KO5.out.alloc _).alloc _).kept hgrow (by cases hv:(Value.slice ad k cp).ownBlock with|none=>exact ag rfl|some x=>exact ak<|hnN x (by have:=KV.out x hv;omega));have KC6:Hid (GS s (w.heap.size+1) w6 k cbs ccs):=KC5.out.of (λi hi=>by
      have h7:=(KV2.out i hi).2;rw[hgrow.block _ fV<|hnN _ af,au _ _ _ fV,au _ _ _ af])
     clear hown hgrow KB5 KF5 KY5 KO5 KL5 KC5 d0 d1 e0 e1 HB4;obtain⟨hz7,d0,d1,e0,e1⟩:=lO KF6.out;go_wp2_with fail
     go_roundw
     case rel=>exact⟨j+1,some<|az g' 0,cap',af,iI,kN KB6.out af,yF KF6.out _,ownsRow_setCell_below KY6.out (by show g<g+1;omega) _,KO6.out.kept (bu (aw w6<|some g) (ag rfl) _) (by right;intro e;have:=KV.out _ e;omega),KC6.out.of<|λi hi=>ab _ _ _ _ (by show cbs i≠g;have:=(KV2.out i hi).2;omega),KL6.out.setCell (by show w.heap.size<=g;omega) _⟩
     case measure=>simp[intOf];omega
    obtain rfl:j=L:=by omega
    go_wp2_with (at_builtin;refine wpList_append_own _ rfl (.tmp 59) (.tmp 61) 83 rfl (w.heap.size+1) 89 i2 _ 2 32 underlying83 hi2 hz20 hz21 hz22 rfl eo _ _ _ rfl (sO.out.alloc _) (az wr.heap.size 0) 1 1 [ah R,.slice ad' j cp'] rfl rfl ?c1 ?c2 ?c3 ?c4 ?c5 ?_)
    case c1=>exact Bc wr _ _ _
    case c2=>intro u hu;simp at hu;rcases hu with rfl|rfl<;>rfl
    case c3=>unfold maxLen;omega
    case c4=>omega
    case c5=>have:=sL.out.size;simp;omega
    intro v' w6 hown hgrow _;obtain⟨g',cap',rfl⟩:∃g' cap',v'=dD g' (k+1) cap':=by
     rcases hown.2 with⟨_,h⟩|⟨g',cap',_,h,_⟩
     .omega
     exact⟨g',cap',h⟩
    obtain⟨gb,rfl⟩:∃gb,ad'=some (az gb 0):=by
     rcases sY.out.2 with⟨_,h⟩|⟨g2,cap2,_,h,_⟩
     .omega
     injection h with h _ _;exact⟨g2,h⟩
    have hnN:some w.heap.size≠(Value.slice ad k cp).ownBlock:=by
     intro e;have:=(sO.out.lt _ e.symm).1;omega
    have hgb:=sY.out.lt gb rfl;have KB6:Hid (w6.heap[w.heap.size]?=some (kX s ((M.pos s (k+1):Nat):Int) false)):=by
     have h9:=da hgrow (jx sB.out<|.cells #[ah R,dD gb j cp'] 89) hnN;have e9:M.pos s (k+1)=M.pos s k+2+4*j:=by
      show M.pos s k+2+4*M.bt s (M.pos s k+1)=_;rw[HRL.out.2]
     rw[e9];exact h9
    have KL6:=bj<|(sL.out.alloc (by have:=ch sB.out;omega) _).grown hgrow (by have:=ch sB.out;simp;omega) (λx hx=>by have:=(sO.out.lt _ hx).1;omega);have KC6:Hid (GS s (w.heap.size+1) w6 (k+1) (λi=>if i=k then gb else cbs i) (λi=>if i=k then cp' else ccs i)):=λi hi=>by
     have hblk:∀x,x<wr.heap.size->(∀y,(Value.slice ad k cp).ownBlock=some y->y≠x)->w6.heap[x]?=wr.heap[x]?:=λx hx hy=>by
      rw[hgrow.block _ fV<|λe=>hy x e.symm rfl,au _ _ _ hx]
     have hty:∀y,(Value.slice ad k cp).ownBlock=some y->∃cur,wr.heap[y]?=some (.cells cur 89 (0,0)):=λy hy=>by
      obtain⟨_,_,cur,h1⟩:=dR sO.out y hy;exact⟨cur,h1⟩
     by_cases e:i=k
     .subst e;simp only[bf];rw[HRL.out.2];refine⟨dS (ib sY.out af)<|λx hx=>?_,λj' hj'=>?_⟩
      .have hx':x=gb:=by simpa[Value.ownBlock] using hx.symm
       rw[hx'];refine hblk gb hgb.2<|λy hy hyx=>?_;have:=KV.out y hy;omega
      rw[eK];have:=(KV2.out j' hj').2;omega
     have hik:i<k:=af
     simp only[av e];obtain⟨c1,c2⟩:=sC.out i hik;refine⟨dS c1<|λx hx=>?_,λj' hj'=>?_⟩
     .have hx':x=cbs i:=by simpa[Value.ownBlock] using hx.symm
      rw[hx'];refine hblk _ (sC.out.lt hik).2<|λy hy hyx=>?_;obtain⟨cur,h1⟩:=hty y hy;obtain⟨_,_,cur2,h2⟩:=dR c1 (cbs i) rfl;rw[hyx,h2]at h1;injection h1 with h1;injection h1 with _ h1 _;exact dr h1 eo
     rw[eK];exact c2 j' hj'
    have KO6:Hid (w6.ownsRow (w.heap.size+1) 89 2 (dD g' (k+1) cap') (k+1) (rowP ((k+1)*2) (zU s (λi=>if i=k then gb else cbs i) (λi=>if i=k then cp' else ccs i)))):=by
     have h9:=hown;rw[<-Az k _ (ah R) (dD gb j cp') (by
      unfold zU;rw[mL,show k*2/2=k by omega,HRL.out.1]) (by
      unfold zU;rw[eK,show(k*2+1)/2=k by omega];show Value.slice (some (az (if k=k then gb else cbs k) 0)) (M.bt s<|M.pos s k+1) (if k=k then cp' else ccs k)=_;rw[bf rfl,bf rfl,HRL.out.2])]
     have e9:rowP (k*2) (zU s (λi=>if i=k then gb else cbs i) (λi=>if i=k then cp' else ccs i))=rowP (k*2) (zU s cbs ccs):=by
      unfold rowP;refine List.map_congr_left<|λx hx=>?_;have hx':=fY.1 hx;show(if x%2=0 then _ else Value.slice (some (az (if x/2=k then gb else cbs (x/2)) 0)) (M.bt s<|M.pos s (x/2)+1) (if x/2=k then cp' else ccs (x/2)))=_;rw[av (show ¬x/2=k by omega),av (show ¬x/2=k by omega)];rfl
     rw[e9];exact h9
    clear hown hgrow sB sF sY sO sL sC y2 d0 d1 e0 e1 hnN;go_wp2_with fail
    go_roundw
    case rel=>exact⟨k+1,some<|az g' 0,cap',_,_,af,iI,rfl,KB6,KL6,KO6,KC6⟩
    case measure=>simp[intOf];omega
  obtain rfl:k=F:=by omega
  obtain⟨y0,y1,y2⟩:=iK rB.out;have hpe:=HEN.out;rw[hpe]at y1;obtain⟨gb,rfl⟩:∃gb,ad=some (az gb 0):=by
   rcases rO.out.2 with⟨_,h⟩|⟨g2,cap2,_,h,_⟩
   .omega
   injection h with h _ _;exact⟨g2,h⟩
  clear hpe;have g1:decide ((s.size:Int)<(s.size:Int))=false:=eG
  go_wp2_with fail
  go_ret3
  rw[<-HF.out]at rO rC⊢;exact⟨gb,cp,cbs,ccs,rfl,rO.out,rC.out,rL.out⟩
end D
namespace D
open F
def zA:Dm:=⟨0,λ_=>⟨[],5,0,0,0,0,(0,0)⟩,[],λ_=>[],0,λ_=>[],λ_=>0,0,false,[],0,⟨0,false,0,0,0,0,0,false⟩⟩
def LU(mb:Nat):Dg:=⟨mb,λ_ _=>(none,0),λ_ _=>0,λ_=>0⟩
section
variable (s:ByteArray)(n q wk t gb gc:Nat)(cbs ccs:Nat->Nat)
def DZ:Dp:=⟨n,q,wk,t,M.bt s 0,gb,gc,cbs,ccs,λk=>M.bt s<|M.pos s k+1,λk=>M.bt s<|M.pos s k,λk i=>sm s<|M.pos s k+2+4*i⟩
theorem Lj(f j:Nat):GW (DZ s n q wk t gb gc cbs ccs) f j=FR s f j:=by
 unfold GW FR;show Value.int .i64 ((if j%4=0 then M.bt s (M.pos s f+2+4*(j/4)) else if j%4=1 then M.bt s (M.pos s f+2+4*(j/4)+1) else if j%4=2 then M.bt s (M.pos s f+2+4*(j/4)+2) else M.bt s (M.pos s f+2+4*(j/4)+3):Nat):Int)=_;grind
variable {s n q wk t gb gc cbs ccs}
theorem Ly{mb x y z k:Nat}(h:(ob (DZ s n q wk t gb gc cbs ccs) zA (LU mb) x y z).bs k):(x=0/\y=0/\z=0/\k=mb)\/(x=8/\y=0/\z=0/\k=gb)\/(x=9/\z=0/\y<M.bt s 0/\k=cbs y):=by
 by_cases e:vd (DZ s n q wk t gb gc cbs ccs) zA x y z=true
 .rw[iy e]at h;have H:=mB e;have G:=pS 10 x af
  repeat' rcases G with rfl|G
  .obtain⟨rfl,rfl⟩:=lI e af;exact ag ⟨rfl,rfl,rfl,h⟩
  .cases h
  .cases h
  .cases h
  .cases h
  .have:=wz e;have u:y<=0:=this.2.1;omega
  .have:=yE e;have u:y<=0:=this.2.1;omega
  .have:=Bb e;have u:y<=0:=this.2.1;omega
  .obtain⟨rfl,rfl⟩:=lI e af;refine ak<|ag ⟨rfl,rfl,rfl,?_⟩;have i:some gb=some k:=h;grind
  .have o:y<M.bt s 0/\z=0:=by
    unfold vd at e;rw[eK,eK,eK,eK,bf rfl]at e;exact eQ e
   refine ak<|ak ⟨rfl,o.2,o.1,?_⟩;have i:some (cbs y)=some k:=h;grind
  cases h
 rw[BD e]at h;exact h.elim
theorem ME{mb b:Nat}{w:aa}(hE:Full w mb 112 24 24 (mE (DZ s n q wk t gb gc cbs ccs) zA<|LU mb))(hF:w.ownsRow b 89 2 (dD gb (M.bt s 0) gc) (M.bt s 0) (rowP (M.bt s 0*2)<|zU s cbs ccs))(Y:GS s b w (M.bt s 0) cbs ccs):dZ (DZ s n q wk t gb gc cbs ccs) zA (LU mb) w:=by
 refine⟨λx y z=>?_,λx y z x' y' z' k hk a0=>?_⟩
 .by_cases o:vd (DZ s n q wk t gb gc cbs ccs) zA x y z=true
  .rw[iy o];have a1:=mB o;have hc:=pS 10 x af
   repeat' rcases hc with rfl|hc
   .exact hE
   .exact eg _ _ _ _
   .exact gj.nil _ _
   .exact eg _ _ _ _
   .exact eg _ _ _ _
   .have:=wz o;have J:y<=0:=this.2.1;omega
   .have:=yE o;have J:y<=0:=this.2.1;omega
   .have:=Bb o;have J:y<=0:=this.2.1;omega
   .exact ib hF<|di _
   .have H:y<M.bt s 0/\z=0:=by
     unfold vd at o;rw[eK,eK,eK,eK,bf rfl]at o;exact eQ o
    have h9:=ib (Y y H.1).1<|di _;have e9:rowP (M.bt s (M.pos s y+1)*4) (FR s y)=rowP (M.bt s (M.pos s y+1)*4) (GW (DZ s n q wk t gb gc cbs ccs) y):=by
     unfold rowP;exact List.map_congr_left<|λj _=>(Lj s n q wk t gb gc cbs ccs y j).symm
    rw[e9]at h9;exact h9
   exact gj.nil _ _
  rw[BD o];trivial
 have u:∃i,w.heap[mb]?=ny i 112:=by
  obtain⟨i,h1,_⟩:=hE;exact⟨i,h1⟩
 have W:=(dR hF gb rfl).2.2;have Z:=λy H=>(dR (Y y H).1 (cbs y) rfl).2.2;have two:∀{a:Nat} {S T:TypeId},(∃i,w.heap[a]?=ny i S)->(∃i,w.heap[a]?=ny i T)->S=T:=by
  rintro a S T ⟨c1,h1⟩ ⟨c2,J⟩;rw[h1]at J;injection J with J;injection J
 rcases Ly hk with⟨rfl,rfl,rfl,rfl⟩|⟨rfl,rfl,rfl,rfl⟩|⟨rfl,rfl,H,rfl⟩<;>rcases Ly a0 with⟨rfl,rfl,rfl,e⟩|⟨rfl,rfl,rfl,e⟩|⟨rfl,rfl,G,e⟩
 .omega
 .grind
 .grind
 .grind
 .omega
 .grind
 .grind
 .grind
 have:y=y':=by
  rcases Nat.lt_trichotomy y y' with h|h|h
  .have:=(Y y' G).2 y h;omega
  .exact h
  have:=(Y y H).2 y' h;omega
 omega
end
structure Pb(d:Dp) (s:ByteArray) (n q wk t:Nat):Prop where
 n:d.n=n
 qn:d.qn=q
 wk:d.wk=wk
 mt:d.mt=t
 nf:d.nf=M.bt s 0
 rg:∀k,d.rg k=M.bt s (M.pos s k)
 len:∀k,d.len k=M.bt s (M.pos s k+1)
 ins:∀k i,d.ins k i=sm s (M.pos s k+2+4*i)
def PG(s:ByteArray)(n q wk t:Nat)(w:aa)(e:Ending)(w':aa):Prop:=Below w.heap.size w w'/\∃d g,e=.returned (.tuple #[P0 g.mb,.agg #[.int .i64 0,.int .i64 0]])/\Pb d s n q wk t/\dZ d (zA.born 0 (0,0) (0,0)) g w'/\∀k,eJ d (zA.born 0 (0,0) (0,0)) g k->w.heap.size<=k
theorem MJ(s:ByteArray)(c0 c1 J G:Nat)(w:aa)(hs:s.size<=maxLen)(aE:s.size<=140737488355328)(g0:1<=c0)(g1:c0<=200)(g2:1<=c1)(g3:c1<=50)(g4:1<=J)(g5:J<=50)(g6:1<=G)(g7:G<=16)(aA:(M.nK s).2=true):Calls prog 31 #[.string s,.agg #[ah c0,ah c1,ah J,ah G]] w λe w'=>PG s c0 c1 J G w e w':=by
 have HS:Hid (s.size<=maxLen):=hs;have a5:=bj aA;have b0:decide ((c0:Int)<1)=false:=fV
 have b1:decide (200<(c0:Int))=false:=fV
 have b2:decide ((c1:Int)<1)=false:=fV
 have b3:decide (50<(c1:Int))=false:=fV
 have b4:decide ((J:Int)<1)=false:=fV
 have b5:decide (50<(J:Int))=false:=fV
 have b6:decide ((G:Int)<1)=false:=fV
 have b7:decide (16<(G:Int))=false:=fV
 clear hs aA;go_in;go_wp2_with fail
 refine(xM s _ HS aE a5).mono ?_;rintro e w1 ⟨gb,cp,cbs,ccs,rfl,hR,hC,hB⟩;obtain⟨hc,hf⟩:=tQ hB;have hz:=hB.size;simp at hz;have H:=bj<|(((fS _ _).alloc (bm _) _).alloc eG _).trans<|hB.mono fV;have KR:=bj hR;have KC:=bj hC;have d0:w1.cell? (az (w.heap.size+1) 0)=some (ah 0):=by rw[hc _ _ eG];simp[go_sem]
 have d1:w1.cell? (az (w.heap.size+1) 1)=some (ah 0):=by rw[hc _ _ eG];simp[go_sem]
 have e0:w1.frozen? (az (w.heap.size+1) 0)=false:=by rw[hf _ _ eG];simp[go_sem]
 have e1:w1.frozen? (az (w.heap.size+1) 1)=false:=by rw[hf _ _ eG];simp[go_sem]
 have a0:w1.cell? (az w.heap.size 0)=some (ah c0):=by rw[hc _ _ fV];simp[go_sem]
 have a1:w1.cell? (az w.heap.size 1)=some (ah c1):=by rw[hc _ _ fV];simp[go_sem]
 have a2:w1.cell? (az w.heap.size 2)=some (ah J):=by rw[hc _ _ fV];simp[go_sem]
 have a3:w1.cell? (az w.heap.size 3)=some (ah G):=by rw[hc _ _ fV];simp[go_sem]
 clear hc hf hB b0 b1 b2 b3 b4 b5 b6 b7 g0 g1 g2 g3 g4 g5 g6 g7 hR hC
 have n1:=(qR a5).1;have aB:=vz<|(qR a5).2.2 0 n1;have r1:=M.gZ aB.1;have a4:=bj<|bh n1 r1;clear n1 aB r1;have a8:Hid (w.heap.size+2<=gb/\gb<w1.heap.size):=by
  have h1:=dR KR gb rfl;have h2:=h1.1;simp at h2;exact⟨af,h1.2.1⟩
 have a9:Hid (∀i,i<M.bt s 0->w.heap.size+2<=cbs i/\cbs i<w1.heap.size):=λi hi=>by
  have h1:=KC.lt hi;have h2:=h1.1;simp at h2;exact⟨af,h1.2⟩
 have a6:Hid (dZ (DZ s c0 c1 J G gb cp cbs ccs) zA (LU w1.heap.size)<|w1.alloc<|.cells #[dD gb (M.bt s 0) cp,ah c0,ah c1,ah J,ah G,ah 0,.slice none 0 0,.slice none 0 0,.slice none 0 0,.slice none 0 0,.slice none 0 0,.slice none 0 0,.slice none 0 0,ah 0,.bool false,.slice none 0 0,ah 0,.bool false,ah 0,ah 0,ah 0,ah 0,ah 0,.bool false] 112):=by
  refine ME ⟨_,bl w1 _,rfl,λj hj=>?_⟩ (dS KR<|λk W=>au _ _ _ (dR KR k W).2.1)<|KC.of<|λi hi=>au _ _ _ (KC.lt hi).2;have hc:j=0\/j=1\/j=2\/j=3\/j=4\/j=5\/j=6\/j=7\/j=8\/j=9\/j=10\/j=11\/j=12\/j=13\/j=14\/j=15\/j=16\/j=17\/j=18\/j=19\/j=20\/j=21\/j=22\/j=23:=af
  rcases hc with rfl|rfl|rfl|rfl|rfl|rfl|rfl|rfl|rfl|rfl|rfl|rfl|rfl|rfl|rfl|rfl|rfl|rfl|rfl|rfl|rfl|rfl|rfl|rfl<;>rfl
 have Z:Hid (∀k,eJ (DZ s c0 c1 J G gb cp cbs ccs) zA (LU w1.heap.size) k->w.heap.size+2<=k):=by
  rintro k ⟨x,y,z,W⟩;rcases Ly W with⟨_,_,_,rfl⟩|⟨_,_,_,rfl⟩|⟨_,_,hy,rfl⟩
  .omega
  .exact a8.1
  exact(a9 y hy).1
 clear KR KC a8 a9;go_wp2_with fail
 refine(Ez (f:=0) (u:=(0,0)) (v:=(0,0)) a6 a4.1 a4.2.2.1 a4.2.2.2 eo eo).mono ?_;rintro e w3 ⟨rfl,g',hT,_⟩;have hO:=hT.o;have aD:=hO.size;simp at aD;have hn1:¬eJ (DZ s c0 c1 J G gb cp cbs ccs) zA (LU w1.heap.size) (w.heap.size+1):=λh=>by have:=Z _ h;omega
 have Y:w3.heap[w.heap.size+1]?=w1.heap[w.heap.size+1]?:=(hO.same fV hn1).trans<|au _ _ _ af;have q0:w3.cell? (az (w.heap.size+1) 0)=some (ah 0):=(bd (a:=az (w.heap.size+1) 0) Y).trans d0;have q1:w3.cell? (az (w.heap.size+1) 1)=some (ah 0):=(bd (a:=az (w.heap.size+1) 1) Y).trans d1;have k0:=(dv (a:=az (w.heap.size+1) 0) Y).trans e0;have k1:=(dv (a:=az (w.heap.size+1) 1) Y).trans e1;have aF:Hid (Below w.heap.size w w3):=⟨hO.1.trans H.os,hO.2.1.trans H.tape,hO.2.2.1.trans H.output,af,λk W=>(hO.same fV (λh=>by have:=Z _ h;omega)).trans<|(au _ _ _ af).trans<|H.block k W⟩;have HT:=bj hT;have a7:Hid (∀k,eJ (DZ s c0 c1 J G gb cp cbs ccs) (zA.born 0 (0,0) (0,0)) g' k->w.heap.size+2<=k):=λk W=>by
  rcases hT.m k W with h|h
  .exact Z k h
  simp at h;omega
 clear hT hO Y hn1 d0 d1 e0 e1 a0 a1 a2 a3 Z H a6 a4
 go_wp2_with fail
 refine dg (v:=.tuple #[.pointer<|some<|az w1.heap.size 0,.agg #[ah 0,ah 0]]) (by simp[results,results31,go_sem,q0,q1]) rfl ⟨?_,DZ s c0 c1 J G gb cp cbs ccs,g',?_,⟨rfl,rfl,rfl,rfl,rfl,λ_=>rfl,λ_=>rfl,λ_ _=>rfl⟩,?_,λk W=>by have:=a7 k W;omega⟩
 .repeat (refine Below.setCell ?_ eG _)
  exact aF
 .have hb:g'.mb=w1.heap.size:=HT.b;rw[hb]
 refine HT.r.only (S:=λk=>k=w.heap.size+1) ?_ (λk W e=>by have:=a7 k W;omega);exact bq (S:=λk=>k=w.heap.size+1) (a:=az (w.heap.size+1) 1) (bq (S:=λk=>k=w.heap.size+1) (a:=az (w.heap.size+1) 0) (dx _ _) (ag rfl) _) (ag rfl) _
