import Derived.Test.YtnjiinbhbjpfkaaGreatDoorTf
import Derived.Test.YtnjiinbhbjpfkaaGreatDoorTl
import Derived.Test.YtnjiinbhbjpfkaaGreatDoorTd
import Derived.Test.YtnjiinbhbjpfkaaGreatDoorTg
set_option maxRecDepth 100000
set_option maxHeartbeats 0
set_option linter.all false
namespace Go.Proofs.YtnjiinbhbjpfkaaGreatDoor
open Go.RowKit Go.Proofs.Tryz
namespace F
def zR(s:Pl):Prop:=s.q 3 0≠[]\/∃k,k<4/\s.q 4 k≠[]
open Classical in
noncomputable def Pl.AL (s : Pl) : Int := if s.sp = true then 5 else if s.lv = [] then 4 else if s.q 2 0 ≠ [] then 1 else if zR s then 2 else 3
end F
namespace D
open F
variable {p:dL}{d:Dp}{K:Nat}{s s':Pl}{m m':Dm}{g g':Dg}{w w':aa}{ρ:Nat → Nat}
def Dm.ns(m:Dm):Dm:={ m with ev:=[] }
def oH(m:Dm)(I:Nat):Prop:=∃t,1<=t/\t<=I/\((m.T t).how=2\/(m.T t).how=3)
def oH.yes{I:Nat}(h:oH m I):oH m (I+1):=by
 obtain⟨t,i,o,e⟩:=h;exact⟨t,i,ag,e⟩
def oH.new{I:Nat}(h:(m.T (I+1)).how=2\/(m.T (I+1)).how=3):oH m (I+1):=⟨I+1,ag,bq _,h⟩
theorem oH.no{I:Nat}(h:¬oH m I)(u:(m.T (I+1)).how≠2)(o:(m.T (I+1)).how≠3):¬oH m (I+1):=by
 rintro⟨t,y,G,i⟩;by_cases e:t=I+1
 .grind
 exact h ⟨t,y,ag,i⟩
theorem eF.rest(h:eF p K s m ρ)(o:Ok p s):oH m m.nt↔zR s:=by
 constructor
 .rintro⟨t,Y,W,t3⟩;rcases t3 with e|e
  .left
   grind[D.eF.My]
  right
  have ht:=(iG h t).1 ⟨Y,W⟩;rcases h.wh o ((h.how o ht).1 ag) with⟨_,i⟩|⟨_,i⟩|⟨_,i⟩|⟨k,G,_,i,e3⟩|⟨u,_,_,i,_⟩
  .omega
  .omega
  .omega
  .have:=(h.Mw o (x:=4) (y:=k) (ah (ah (af ⟨rfl,G⟩))) (af rfl)).1 ⟨⟨Y,W⟩,i,e3⟩;grind
  omega
 rintro(J|⟨k,G,J⟩)
 .obtain⟨t,ht⟩:=List.exists_mem_of_ne_nil _ J;obtain⟨⟨Z,a2⟩,H⟩:=(h.My o).2 ht;exact⟨t,Z,a2,af H⟩
 obtain⟨t,ht⟩:=List.exists_mem_of_ne_nil _ J;obtain⟨⟨Z,a2⟩,H,_⟩:=(h.Mw o (x:=4) (y:=k) (ah (ah (af ⟨rfl,G⟩))) (af rfl)).2 ht;exact⟨t,Z,a2,ah H⟩
theorem I9(h:dZ d m g w)(hS:eF p K s m.ns ρ)(hO:Ok p s)(a6:s.nt≠0):dD 49 #[P0 g.mb] w (aj s.AL) λw'=>w.grownBy w' none:=by
 have a8:m.nt=s.nt:=hS.nt;have hn:m.nt≠0:=eV a8 a6
 obtain⟨tb,hb,hl,hm,hF⟩:=h.T hn;have c6:w.cell? ⟨g.mb,6,none⟩=some (.slice (some ⟨tb,0,none⟩) m.nt (g.ro 1 0).2):=by rw[<-hb];exact(h.mc 6 ag rfl).1
 have c7:w.cell? ⟨g.mb,7,none⟩=some (.slice (g.ro 2 0).1 (s.q 2 0).length (g.ro 2 0).2):=by
  have Z:=(h.mc 7 ag (v:=.slice (g.ro 2 0).1 m.q.length (g.ro 2 0).2) rfl).1;rw[show m.q=s.q 2 0 from hS.q]at Z;exact Z
 have a5:w.cell? ⟨g.mb,14,none⟩=some (.bool s.sp):=by
  have Z:=(h.mc 14 ag (v:=.bool m.sp) rfl).1;rw[show m.sp=s.sp from hS.sp]at Z;exact Z
 have aG:m.nt<=9223372036854775807:=by unfold maxLen at hm;omega
 have a0:Hid (oH m m.nt↔zR s):=hS.rest hO;have a7:Hid (∀w1,w.grownBy w1 none->dD 77 #[P0 g.mb] w1 (aj (s.lv.length:Int)) λw'=>w1.grownBy w' none):=λw1 hg=>by
  refine(Ez (h.kept hg) hn).mono ?_;rintro e w' ⟨N,rfl,_,aA,aE⟩;rw[hS.live hO aA];grind
 have HF:=bj hF;have lt:=hF.lt;have a1:=h.M.lt;clear hF hm hb hl h hS hO a8 a6;generalize g.mb=rb at *;delta dD;go_in;go_wp2_with fail
 go_loopw [3,4] (λr i wr=>∃(b:Bool) (I:Nat),r=.bool b/\i=aj I/\I<=m.nt/\Hid (b=true↔oH m I)/\Hid (w.grownBy wr none)) (λ_ i _=>m.nt-(intOf i).toNat)
 case atStart=>
  refine⟨false,0,rfl,rfl,ag,⟨λe=>(by cases e),λe=>?_⟩,aw _ _⟩;obtain⟨t,t1,t2,_⟩:=e;omega
 case round=>
  obtain⟨b,I,rfl,rfl,hI,Y,rG⟩:=hrel;have W:=λ(k:Nat) (W:k<w.heap.size)=>rG.out.block k W eR;have d6:=(az (a:=⟨rb,6,none⟩) (W rb a1)).trans c6;have H:=HF.out.block (W tb lt);by_cases aL:I<m.nt
  .have hc:∀k,k<8->wr.cell? ⟨tb,I*8+k,none⟩=some (tC (m.T (I+1)) (je m g 5 (I+1)) k):=λk W=>(H.cell (I*8+k) ag).trans (congrArg some (qK m g (t:=I+1) ag W ag));have a9:(I:Int)<(m.nt:Int):=ag
   have c1:wr.cell? ⟨tb,I*8+1,none⟩=some (aj ((m.T (I+1)).how:Int)):=hc 1 ag;clear H hc W
   cases b with
   | true=>
    have KN:Hid (true=true↔oH m (I+1)):=⟨λ_=>(Y.out.1 rfl).yes,λ_=>rfl⟩;clear Y;go_wp2_with fail
    go_roundw
    case rel=>grind
    case measure=>simp[intOf];omega
   | false=>
    have aB:Hid (¬oH m I):=λe=>by have:=Y.out.2 e;grind
    clear Y;by_cases h2:(m.T (I+1)).how=2
    .have KN:Hid (true=true↔oH m (I+1)):=⟨λ_=>oH.new (af h2),λ_=>rfl⟩;rw[h2]at c1;clear h2;go_wp2_with fail
     go_roundw
     case rel=>exact⟨true,I+1,rfl,iA,ag,KN,rG⟩
     case measure=>simp[intOf];omega
    by_cases h3:(m.T (I+1)).how=3
    .have KN:Hid (true=true↔oH m (I+1)):=⟨λ_=>oH.new (ah h3),λ_=>rfl⟩;rw[h3]at c1;clear h2 h3;go_wp2_with fail
     go_roundw
     case rel=>exact⟨true,I+1,rfl,iA,ag,KN,rG⟩
     case measure=>simp[intOf];omega
    have KN:Hid (false=true↔oH m (I+1)):=⟨λe=>(by cases e),λe=>dp e (oH.no aB.out h2 h3)⟩;generalize (m.T (I+1)).how=hw at *;have aH:((hw:Int) == 2)=false:=kr dX
    have aF:((hw:Int) == 3)=false:=kr dX
    clear h2 h3;go_wp2_with fail
    go_roundw
    case rel=>exact⟨false,I+1,rfl,iA,ag,KN,rG⟩
    case measure=>simp[intOf];omega
  obtain rfl:I=m.nt:=by omega
  have a9:¬((m.nt:Int)<(m.nt:Int)):=ag
  have HB:Hid (b=true↔zR s):=⟨λe=>a0.out.1 (Y.out.1 e),λe=>Y.out.2 (a0.out.2 e)⟩;have a2:=bj (a7.out wr rG.out);clear H W Y a0 HF;go_wp2_with fail
  refine a2.out.mono ?_;rintro e w2 ⟨rfl,a3⟩;have KG:=bj (ar rG.out a3);have a4:=(bd KG.out (a:=⟨rb,14,none⟩) a1).1.trans a5;have e7:=(bd KG.out (a:=⟨rb,7,none⟩) a1).1.trans c7;clear a3 a5 c7 c6 d6 a2 a7;have fin:∀x:Int,s.AL=x->(Ending.returned (aj x)=Ending.returned (aj s.AL)/\w.grownBy w2 none):=λx e=>⟨by rw[e],KG.out⟩;have G:=bj fin;clear fin
  cases hsp:s.sp with
  | true=>
   have u:=bj hsp;rw[hsp]at a4;clear hsp;go_wp2_with fail
   go_ret;exact G.out 5 (by unfold Pl.AL;rw[bf u.out])
  | false=>
   have u:Hid (¬s.sp=true):=λe=>by rw[hsp]at e;cases e
   rw[hsp]at a4;clear hsp;by_cases y:s.lv=[]
   .have o:=bj y;have aC:(s.lv.length:Int)=0:=jx y
    clear y;go_wp2_with fail
    go_ret;exact G.out 4 (by unfold Pl.AL;rw[au u.out,bf o.out])
   have o:=bj y;have aC:((s.lv.length:Int) == 0)=false:=by
    rw[dX];exact λe=>y (db.1 ag)
   clear y;by_cases hq:s.q 2 0=[]
   .have J:=bj hq;rw[hq]at e7;simp only[List.length_nil]at e7;clear hq
    cases b with
    | true=>
     go_wp2_with fail
     go_ret;exact G.out 2 (by unfold Pl.AL;rw[au u.out,au o.out,au (λe=>e J.out),bf (HB.out.1 (by first|exact rfl|trivial))])
    | false=>
     go_wp2_with fail
     go_ret;exact G.out 3 (by unfold Pl.AL;rw[au u.out,au o.out,au (λe=>e J.out),au (λe=>by have Z:=HB.out.2 e;cases Z)])
   have J:=bj hq;have aJ:(0:Int)<((s.q 2 0).length:Int):=by
    have:(s.q 2 0).length≠0:=λe=>hq (db.1 e);omega
   clear hq;go_wp2_with fail
   go_ret;exact G.out 1 (by unfold Pl.AL;rw[au u.out,au o.out,bf J.out])
end D
namespace F
variable {k:Nat}{p:dL}{s:ByteArray}
theorem DK{M:Nat->List B.V}{n:Nat}{kd:B.Kd}{c:B.Cy}(h:(B.me M n kd c).on k=true):kd.on k=true:=by
 unfold B.me at h;split at h
 .exact B.ow h
 exact B.ow h
theorem qk{M:Nat->List B.V}{R:Nat->B.V}{nr n:Nat}:∀(u:Nat) {kd:B.Kd},B.jO kd nr n (0,R,M)->B.jO (B.gw M n u kd) nr n (0,R,M)/\∀k,(B.gw M n u kd).on k=true->kd.on k=true
 | 0,kd,h=>⟨h,λ_ h=>h⟩
 | u+1,kd,h=>by
  cases hc:kd.cy with
  | none=>grind[B.tY]
  | some c=>
   rw[B.tX hc];obtain⟨k1,k2⟩:=qk u (B.su h hc);grind[DK]
theorem BI{M:Nat->List B.V}{R:Nat->B.V}{nr n u:Nat}{kd:B.Kd}(hn:1<=n)(h:B.jO kd nr n (0,R,M)):B.jO (B.work R nr M n u kd) nr n (0,R,M)/\∀k,(B.work R nr M n u kd).on k=true->kd.on k=true:=by
 unfold B.work
 cases hc:kd.cy with
 | none=>exact qk u (B.uI h hn)
 | some c=>grind[qk]
def fL.jr{s:Pl}{X:Nat->Prop}(hn:1<=p.n)(h:fL p s X):fL p (s.jr p) X:=by
 obtain⟨k1,k2⟩:=BI (u:=p.wk) hn (show B.jO s.kd (eG p s).length p.n (0,B.GB (eG p s),s.M) from h.hl);exact h.vk k1 (λk _ _ e=>k2 k e)
theorem Gn.same{s s':Pl}{gone:List Nat}(h:Gn s gone)(i:s'.lv=s.lv)(hn:s'.nt=s.nt):Gn s' gone:=λu e=>⟨(ey hn).2 (h u e).1,by rw[i];exact(h u e).2⟩
structure OB(p:dL) (s s':Pl):Prop where
 ok:Ok p s'.ns
 n1:s.nt<=s'.nt
 n2:s'.nt<=s.nt+p.qn
 el:s'.ev.length<=p.qn
 ev:∀gone,Gn s gone->∃t',(∀t r,s.q 2 0=t :: r->t'=t)/\IG t' gone s'.ev/\Gn s'.ns (gone++kO s'.ev)
 q:∀t r,s.q 2 0=t :: r->N7 s'.ev->s'.sp=false->∃m,s'.q 2 0=r++m
theorem pE{s s':Pl}{ticks:Int}{l:List (Int×Nat)}(hP:PI p)(aB:1<=p.n)(h:Ok p s)(he:s.ev=[])(hn:s.nt+p.qn<=500000000)(aA:∀x,x∈l->x.2<256)(ht:ku p s ticks l s'):OB p s s':=by
 have ha:=B.xD (t:=ticks) h.c0 h.c1;obtain⟨o1,o⟩:=nS l aA (h.gr ha.1 ha.2);have o:Qu s ((s.gr (B.iJ s.clk ticks)).fh l):=⟨o.ev,o.lv,o.nt,o.sp,o.q⟩;unfold ku at ht;generalize (s.gr (B.iJ s.clk ticks)).fh l=s1 at *;by_cases hc:s1.lv≠[]/\s1.sp=false
 .rw[bf hc]at ht;obtain⟨s3,h3,rfl⟩:=ht;obtain⟨o2,q2⟩:=oX (s1.q 3 0) o1 rfl;have u:=o.trans q2;generalize s1.iD (s1.q 3 0)=s2 at *;obtain⟨o3,e3,f3⟩:=uP hP o2 (eV u.nt hn) h3;have y:Ok p (s3.jr p).ns:=(o3.jr aB).same rfl rfl rfl rfl rfl rfl rfl rfl rfl rfl rfl;obtain⟨m,hm⟩:=u.q
  cases hq:s2.q 2 0 with
  | nil=>
   have:=e3 hq;subst this;have a0:s.q 2 0=[]:=by rw[hq]at hm;exact(List.append_eq_nil_iff.1 hm.symm).1
   have i:=u.ev.trans he;refine⟨y,by show s.nt<=s3.nt;rw[u.nt];omega,by show s3.nt<=_;rw[u.nt];omega,by show s3.ev.length<=_;grind,λgone hg=>⟨0,λt r e=>(by grind),?_,?_⟩,λt r e=>(by grind)⟩
   .show IG 0 gone s3.ev;rw[i];trivial
   show Gn (s3.jr p).ns (gone++kO s3.ev);rw[i];have:gone++kO []=gone:=by unfold kO;simp
   rw[this];exact hg.same (s':=(s3.jr p).ns) u.lv u.nt
  | cons t r=>
   obtain⟨s0,hG,g1,g2,g3,g4⟩:=f3 t r hq;obtain⟨ev,a1,a2,a3,a4,a5⟩:=hG;have i:s3.ev=ev:=by rw[a1,g1,u.ev,he,List.nil_append]
   have J:=g2.trans u.lv;have H:=g3.trans u.nt;have G:∀Y Z,s.q 2 0=Y :: Z->t=Y/\r=Z++m:=λY Z e=>by
    grind
   refine⟨y,by show s.nt<=s3.nt;omega,by show s3.nt<=_;omega,by show s3.ev.length<=_;rw[i];exact a2,λgone hg=>⟨t,λY Z e=>(G Y Z e).1,?_,?_⟩,λY Z e a8 _=>?_⟩
   .show IG t gone s3.ev;rw[i];exact(a4 gone (hg.same J H)).1
   .show Gn (s3.jr p).ns (gone++kO s3.ev);rw[i];exact(a4 gone (hg.same J H)).2.same (s':=(s3.jr p).ns) rfl rfl
   obtain⟨m2,aC⟩:=a5 (by rw[<-i];exact a8);refine⟨m++m2,?_⟩;show s3.q 2 0=_;rw[aC,g4,(G Y Z e).2,fS]
 rw[au hc]at ht;subst ht;have y:Ok p s'.ns:=o1.same rfl rfl rfl rfl rfl rfl rfl rfl rfl rfl rfl;have i:=o.ev.trans he;refine⟨y,by rw[o.nt];exact bq _,kr o.nt,by rw[i];exact dk _,λgone hg=>?_,λt r e _ hs=>?_⟩
 .have W:∃t',∀t r,s.q 2 0=t :: r->t'=t:=by
   cases hq:s.q 2 0 with
   | nil=>exact⟨0,λt r e=>(by cases e)⟩
   | cons a b=>exact⟨a,λt r e=>(by injection e)⟩
  obtain⟨t',W⟩:=W;refine⟨t',W,?_,?_⟩
  .rw[i];trivial
  rw[i];have:gone++kO []=gone:=by unfold kO;simp
  rw[this];exact hg.same (s':=s'.ns) o.lv o.nt
 have a6:=h.ql 2 0 (af ⟨rfl,rfl⟩) t (by rw[e];simp);refine dp ⟨?_,hs⟩ hc;rw[o.lv];intro e';rw[e']at a6;cases a6
theorem E8{s:ByteArray}{f:Nat}:∀(n k0:Nat),(M.fns s f (M.pos s k0) n).2=true->∀k,k<n->(M.fn s (M.pos s (k0+k)) f).2=true
 | 0,_,_,k,hk=>by omega
 | n+1,k0,h,k,hk=>by
  unfold M.fns at h;by_cases e:(M.fn s (M.pos s k0) f).2=true
  .rw[bf e]at h
   cases k with
   | zero=>exact e
   | succ k=>
    rw[(M.uN e).1]at h;have:=E8 n (k0+1) h k ag;grind
  grind
theorem xx{s:ByteArray}{r f l:Nat}:∀(n p:Nat),(M.code s r f l p n).2=true->∀i,i<n->(M.ins s (p+4*i) r f l).2=true
 | 0,_,_,i,hi=>by omega
 | n+1,p,h,i,hi=>by
  unfold M.code at h;by_cases e:(M.ins s p r f l).2=true
  .rw[bf e]at h
   cases i with
   | zero=>exact e
   | succ i=>
    rw[M.xi e]at h;have:=xx n (p+4) h i ag;grind
  grind
def rj(s:ByteArray)(q:Nat):vF:=(M.bt s q,M.bt s (q+1),M.bt s (q+2),M.bt s (q+3))
def Np:∀e,e<23->e≠7/\e≠16->M.k0 e=114:=by decide
def No:∀e,e<23->(e=1\/(2<=e/\e<=6)\/e=10\/e=11)\/(e=13\/e=15\/e=18\/e=21)->M.k1 e=114:=by decide
def Nn:∀e,e<23->((2<=e/\e<=6)\/e=10\/e=11\/e=12\/e=13\/e=15)->M.k2 e=114:=by decide
def Nm:∀e,e<23->(e=7\/e=8)->M.k1 e=116:=by decide
def Nl:∀e,e<23->e=9->M.k1 e=115:=by decide
def Nk:∀e,e<23->e=12->M.k1 e=102:=by decide
def Nj:∀e,e<23->e≠7/\e≠8->M.k1 e≠116:=by decide
def G1(op:Nat)(h:op<23):(op≠7->op≠16->M.k0 op=114)/\(op=1\/(2<=op/\op<=6)\/op=10\/op=11\/op=13\/op=15\/op=18\/op=21->M.k1 op=114)/\((2<=op/\op<=6)\/op=10\/op=11\/op=12\/op=13\/op=15->M.k2 op=114)/\(op=7\/op=8->M.k1 op=116)/\(op=9->M.k1 op=115)/\(op=12->M.k1 op=102)/\(op≠7->op≠8->M.k1 op≠116):=
 ⟨λa b=>Np op h ⟨a,b⟩,λa=>No op h ag,Nn op h,Nm op h,Nl op h,Nk op h,λa b=>Nj op h ⟨a,b⟩⟩
theorem G9{q r f l:Nat}(hr:2<=r)(hf:1<=f)(h:(M.ins s q r f l).2=true)(e1:p.rg k=r)(e2:p.nf=f)(e3:p.len k=l):Kt p k (rj s q):=by
 unfold M.ins at h;by_cases e:M.tk s q 0 22=true
 .rw[bf e]at h;have a2:=(M.gU e).2.2;have G:=M.Fy s;obtain⟨f0,f1,f2,f3,f4,f5,f6⟩:=G1 (M.bt s q) ag;unfold M.tJ at h;by_cases Y:M.tk s (q+1) 0 (M.ko r f (M.k0 (M.bt s q)))=true
  .rw[bf Y]at h;have g0:=(M.gU Y).2.2;have Z:M.bt s q≠7->M.bt s q≠16->M.bt s (q+1)<p.rg k:=λn7 J=>by
    grind[M.ko]
   by_cases o:M.k1 (M.bt s q)=116
   .rw[bf o]at h;have hj:=Classical.byContradiction λhn=>f6 (λe=>hn (af e)) (λe=>hn (ah e)) o;unfold M.wI at h;by_cases y:s.size<q+1+1+2
    .grind
    rw[au y]at h;by_cases H:l<256*M.bt s (q+1+1)+M.bt s (q+1+1+1)
    .grind
    refine⟨by show M.bt s q<23;omega,G _,G _,G _,Z,λi=>?_,λi=>?_,λ_=>?_,λi=>?_,λi=>?_⟩
    .have u:M.bt s q=1\/(2<=M.bt s q/\M.bt s q<=6)\/M.bt s q=10\/M.bt s q=11\/M.bt s q=13\/M.bt s q=15\/M.bt s q=18\/M.bt s q=21:=i;omega
    .have u:(2<=M.bt s q/\M.bt s q<=6)\/M.bt s q=10\/M.bt s q=11\/M.bt s q=12\/M.bt s q=13\/M.bt s q=15:=i;omega
    .show 256*M.bt s (q+2)+M.bt s (q+3)<=p.len k;grind
    .have u:M.bt s q=9:=i;omega
    have u:M.bt s q=12:=i;omega
   rw[au o]at h;by_cases y:M.tk s (q+1+1) 0 (M.ko r f (M.k1 (M.bt s q)))=true
   .rw[bf y]at h;have g1:M.bt s (q+2)<=M.ko r f (M.k1 (M.bt s q)):=(M.gU y).2.2;by_cases H:M.tk s (q+1+2) 0 (M.ko r f (M.k2 (M.bt s q)))=true
    .have g2:M.bt s (q+3)<=M.ko r f (M.k2 (M.bt s q)):=(M.gU H).2.2;have a4:M.ko r f 114=r-1:=rfl;have a3:M.ko r f 115=8:=rfl;have a1:M.ko r f 102=f-1:=rfl;refine⟨by show M.bt s q<23;omega,G _,G _,G _,Z,λi=>?_,λi=>?_,λi=>dp i (λi=>o (f3 i)),λi=>?_,λi=>?_⟩
     .show M.bt s (q+2)<p.rg k;rw[f1 i]at g1;omega
     .show M.bt s (q+3)<p.rg k;rw[f2 i]at g2;omega
     .show M.bt s (q+2)<=8;rw[f4 i]at g1;omega
     show M.bt s (q+2)<p.nf;rw[f5 i]at g1;omega
    rw[au H]at h;cases h
   rw[au y]at h;cases h
  rw[au Y]at h;cases h
 rw[au e]at h;cases h
theorem qu(h:(M.m9 s).2=true):1<=M.bt s 0/\M.bt s 0<=8/\∀k,k<M.bt s 0->(M.fn s (M.pos s k) (M.bt s 0)).2=true:=by
 unfold M.m9 at h;by_cases e:M.tk s 0 1 8=true
 .rw[bf e]at h;have o:=M.gU e;have i:((M.fns s (M.bt s 0) 1 (M.bt s 0)).2 && decide ((M.fns s (M.bt s 0) 1 (M.bt s 0)).1=s.size))=true:=h;rw[Bool.and_eq_true]at i;refine⟨o.2.1,o.2.2,λk u=>?_⟩;have:=E8 (s:=s) (f:=M.bt s 0) (M.bt s 0) 0 i.1 k u;grind
 grind
theorem Ju(h:(M.m9 s).2=true)(Z:∀k,p.rg k=M.bt s (M.pos s k))(y:p.nf=M.bt s 0)(u:∀k,p.len k=M.bt s (M.pos s k+1))(Y:∀k i,p.ins k i=rj s (M.pos s k+2+4*i)):PI p:=by
 obtain⟨H,n2,W⟩:=qu h;intro f o i hi;rw[y]at o;rw[u]at hi;have e:=W f o;have G:(M.code s (M.bt s (M.pos s f)) (M.bt s 0) (M.bt s (M.pos s f+1)) (M.pos s f+2) (M.bt s (M.pos s f+1))).2=true:=by
  unfold M.fn at e;by_cases a:M.tk s (M.pos s f) 2 8=true
  .grind
  rw[au a]at e;cases e
 rw[Y];exact G9 (M.uN e).2.1 H (xx _ _ G i hi) (Z f) y (u f)
end F
namespace D
open F
variable {s:ByteArray}{w:aa}
def zi(s:ByteArray)(cbs ccs:Nat->Nat)(j:Nat):Value:=if j % 2=0 then .int .i64 (M.bt s (M.pos s (j / 2)):Int) else .slice (some ⟨cbs (j / 2),0,none⟩) (M.bt s (M.pos s (j / 2)+1)) (ccs (j / 2))
def EW(s:ByteArray)(k j:Nat):Value:=.int .i64 (M.bt s (M.pos s k+2+j):Int)
def FV(s:ByteArray)(base:Nat)(w:aa)(k:Nat)(cbs ccs:Nat->Nat):Prop:=
 ∀i,i<k->w.ownsRow base 90 4 (.slice (some ⟨cbs i,0,none⟩) (M.bt s (M.pos s i+1)) (ccs i)) (M.bt s (M.pos s i+1)) (rowP (M.bt s (M.pos s i+1)*4) (EW s i))/\∀j,j<i->cbs j<cbs i
theorem gV{b u n m:Nat}{e:TypeId}{v:Value}{xs:List Value}(h:w.ownsRow b e n v m xs)(y:u<=b):w.ownsRow u e n v m xs:=by
 refine⟨h.1,?_⟩;rcases h.2 with o|⟨g,cap,i,o,H,G⟩
 .grind
 exact ah ⟨g,cap,i,o,dU y H,G⟩
theorem FV.of{e k:Nat}{w':aa}{cbs ccs:Nat->Nat}(h:FV s e w k cbs ccs)(o:∀i,i<k->w'.heap[cbs i]? = w.heap[cbs i]?):FV s e w' k cbs ccs:=λi hi=>⟨dQ (h i hi).1 (λx u=>by
 grind[Value.ownBlock]),(h i hi).2⟩
theorem FV.lt{s:ByteArray}{e k:Nat}{w:aa}{cbs ccs:Nat->Nat}(h:FV s e w k cbs ccs){i:Nat}(hi:i<k):e<=cbs i/\cbs i<w.heap.size:=(h i hi).1.lt _ rfl
theorem zT(n:Nat)(P:Nat->Value)(a b:Value)(i:P (n*2)=a)(e:P (n*2+1)=b):rowP (n*2) P++[a,b]=rowP ((n+1)*2) P:=by
 grind[rowP,List.range_succ]
theorem zS(n:Nat)(P:Nat->Value):rowP (n*4) P++[P (n*4),P (n*4+1),P (n*4+2),P (n*4+3)]=rowP ((n+1)*4) P:=by
 grind[rowP,List.range_succ]
theorem GH(h:(M.m9 s).2=true):M.tk s 0 1 8=true/\M.pos s (M.bt s 0)=s.size:=by
 obtain⟨n1,n2,J⟩:=qu h;unfold M.m9 at h;by_cases e:M.tk s 0 1 8=true
 .rw[bf e]at h;have y:((M.fns s (M.bt s 0) 1 (M.bt s 0)).2 && decide ((M.fns s (M.bt s 0) 1 (M.bt s 0)).1=s.size))=true:=h;rw[Bool.and_eq_true]at y;have i:∀n k0,(∀k,k<n->(M.fn s (M.pos s (k0+k)) (M.bt s 0)).2=true)->(M.fns s (M.bt s 0) (M.pos s k0) n).1=M.pos s (k0+n):=by
   intro n;induction n with
   | zero=>intro k0 _;rfl
   | succ n W=>
    intro k0 G;have o:=G 0 ag;rw[Nat.add_zero]at o;have Z:(M.fn s (M.pos s k0) (M.bt s 0)).1=M.pos s (k0+1):=(M.uN o).1;unfold M.fns;grind
  have H:=i (M.bt s 0) 0 (λk u=>by grind);rw[Nat.zero_add]at H;exact⟨e,H.symm.trans (eO y.2)⟩
 grind
theorem uO{p f:Nat}(h:(M.fn s p f).2=true):M.tk s p 2 8=true/\M.tk s (p+1) 1 200=true/\∀i,i<M.bt s (p+1)->(M.ins s (p+2+4*i) (M.bt s p) f (M.bt s (p+1))).2=true:=by
 unfold M.fn at h;by_cases o:M.tk s p 2 8=true
 .rw[bf o]at h;by_cases e:M.tk s (p+1) 1 200=true
  .rw[bf e]at h;exact⟨o,e,λi hi=>xx _ _ h i hi⟩
  grind
 grind
def NT(s:ByteArray)(w w':aa)(e:Ending):Prop:=∃gb cp cbs ccs,e=.returned (.tuple #[.slice (some ⟨gb,0,none⟩) (M.bt s 0) cp,.int .i64 0,.bool true])/\w'.ownsRow (w.heap.size+1) 89 2 (.slice (some ⟨gb,0,none⟩) (M.bt s 0) cp) (M.bt s 0) (rowP (M.bt s 0*2) (zi s cbs ccs))/\FV s (w.heap.size+1) w' (M.bt s 0) cbs ccs/\Below w.heap.size w w'
theorem wW(s:ByteArray)(w:aa)(hs:s.size<=maxLen)(hs2:s.size<=140737488355328)(hok:(M.m9 s).2=true): Calls prog 35 #[.string s] w λe w'=>NT s w w' e:=by
 have HS:=bj hs;obtain⟨n1,n2,hfn⟩:=qu hok;obtain⟨t0,hend⟩:=GH hok;have HT0:=bj t0;have HFN:=bj hfn;have HEN:=bj hend;clear hs hok hfn t0 hend;obtain⟨i1,hi1,hz10,hz11,hz12⟩:=info_parts Tryz.EP;obtain⟨i2,hi2,hz20,hz21,hz22⟩:=info_parts Tryz.ER;generalize hF:M.bt s 0=F at *;have HF:=bj hF;go_in;go_wp2_with fail
 refine du (jK w.heap.size s 0 1 8 1 8 (w.alloc (jZ s 0 false)) (bl w _) HS rfl rfl HT0) ?_;rintro w1 ⟨hh,hg⟩;rw[hF];clear hF;have KB:Hid (w1.heap[w.heap.size]? = some (jZ s ((M.pos s 0:Nat):Int) false)):=hh;have KL:=bj (oN hg);clear hh hg;go_wp2_with fail
 go_loopw [7,8] (λv i wr=>∃(k:Nat) (ad:Option Addr) (cp:Nat) (cbs ccs:Nat->Nat),k<=F/\i=aj k/\v=.slice ad k cp/\Hid (wr.heap[w.heap.size]? = some (jZ s ((M.pos s k:Nat):Int) false))/\Hid (Below w.heap.size w wr)/\Hid (wr.ownsRow (w.heap.size+1) 89 2 (.slice ad k cp) k (rowP (k*2) (zi s cbs ccs)))/\Hid (FV s (w.heap.size+1) wr k cbs ccs)) (λ_ i _=>F-(intOf i).toNat)
 case atStart=>exact⟨0,none,0,λ_=>0,λ_=>0,ag,rfl,rfl,KB,KL,eg _ _ _ _,(λi hi=>by omega)⟩
 case round=>
  clear KB KL;obtain⟨k,ad,cp,cbs,ccs,hk,rfl,rfl,rB,rL,rO,rC⟩:=hrel;by_cases hlt:k<F
  .obtain⟨f1,f2,f3⟩:=uO (HFN k hlt);obtain⟨_,a1,a2⟩:=M.gU f1;obtain⟨_,l1,l2⟩:=M.gU f2;have HF1:=bj f1;have HF2:=bj f2;have HF3:=bj f3;clear f1 f2 f3;have y2:=(ij rB).2.2;generalize hR:M.bt s (M.pos s k)=R at *;generalize hL:M.bt s (M.pos s k+1)=L at *;have HRL:=bj (bh hR hL);clear hR hL;go_wp2_with fail
   refine du (jK w.heap.size s (M.pos s k) 2 8 2 8 wr rB HS rfl rfl HF1) ?_;rintro w3 ⟨hh,hg⟩;rw[HRL.1];have KB3:=bj hh;have KL3:=bj (rL.trans (lF hg rL.size));have hne:(Value.slice ad k cp).ownBlock=none\/(Value.slice ad k cp).ownBlock≠some w.heap.size:=by
    right;intro e;have:=(rO.lt _ e).1;omega
   have KO3:=bj (rO.kept hg hne);have KC3:=bj (rC.of (λi hi=>hg.block _ (rC.lt hi).2 (by intro e;injection e with e;have:=(rC.lt hi).1;omega)));clear hh hg rB rL rO rC y2;have hgN:=ch KB3;have KV:=bj (λx hx=>(KO3.lt x hx).2);have KV2:Hid (∀i,i<k->w.heap.size+1<=cbs i/\cbs i<w3.heap.size):=λi hi=>KC3.lt hi;go_wp2_with fail
   refine du (jK w.heap.size s (M.pos s k+1) 1 200 1 200 (w3.alloc (.cells #[aj R,.slice none 0 0] 89)) (ik KB3 _) HS rfl rfl HF2) ?_;rintro w4 ⟨hh,hg⟩;rw[HRL.2];have KB4:Hid (w4.heap[w.heap.size]? = some (jZ s ((M.pos s k+2+4*0:Nat):Int) false)):=hh;have KL4:=bj ((KL3.alloc ag _).trans (lF hg fH));have KO4:=bj ((KO3.alloc _).kept hg hne);have KC4:=bj (KC3.of (λi hi=>(hg.block _ (by simp;have:=(KV2 i hi).2;omega) (by intro e;injection e with e;have:=(KV2 i hi).1;omega)).trans (av _ _ _ (KV2 i hi).2)));have KF4:=bj (da hg (bl w3 _) F1);clear hh hg KB3 KL3 KO3 KC3;generalize w3.heap.size=g at *;go_wp2_with fail
   go_loopw [11] (λi wx=>∃(j:Nat) (ad':Option Addr) (cp':Nat),j<=L/\i=aj j/\Hid (wx.heap[w.heap.size]? = some (jZ s ((M.pos s k+2+4*j:Nat):Int) false))/\Hid (wx.heap[g]? = some (.cells #[aj R,.slice ad' j cp'] 89 (0,0)))/\Hid (wx.ownsRow (g+1) 90 4 (.slice ad' j cp') j (rowP (j*4) (EW s k)))/\Hid (wx.ownsRow (w.heap.size+1) 89 2 (.slice ad k cp) k (rowP (k*2) (zi s cbs ccs)))/\Hid (FV s (w.heap.size+1) wx k cbs ccs)/\Hid (Below w.heap.size w wx)) (λi _=>L-(intOf i).toNat)
   case atStart=>exact⟨0,none,0,ag,rfl,KB4,KF4,eg _ _ _ _,KO4,KC4,KL4⟩
   case round=>
    clear KB4 KL4 KO4 KF4 KC4;obtain⟨j,ad',cp',hj,rfl,sB,sF,sY,sO,sC,sL⟩:=hrel;obtain⟨y0,y1,y2⟩:=ij sB;obtain⟨_,d0,d1,e0,e1⟩:=kY sF;by_cases hjl:j<L
    .have HIK:Hid ((M.ins s (M.pos s k+2+4*j) R F L).2=true):=HF3 j hjl;go_wp2_with fail
     refine du (Fo w.heap.size s (M.pos s k+2+4*j) R F L R F L wr sB HS hs2 rfl rfl rfl ag n1 a2 n2 HIK) ?_;rintro w5 ⟨hh,hg⟩;have hne':(Value.slice ad' j cp').ownBlock=none\/(Value.slice ad' j cp').ownBlock≠some w.heap.size:=by
      right;intro e;have:=(sY.lt _ e).1;omega
     have KB5:Hid (w5.heap[w.heap.size]? = some (jZ s ((M.pos s k+2+4*(j+1):Nat):Int) false)):=hh;have KF5:=bj (da hg sF F1);have KY5:=bj (sY.kept hg hne');have KO5:=bj (sO.kept hg hne);have KC5:=bj (sC.of (λi hi=>hg.block _ (sC.lt hi).2 (by intro e;injection e with e;have:=(sC.lt hi).1;omega)));have KL5:=bj (sL.trans (lF hg sL.size));have HB4:Hid (EW s k (j*4)=aj (M.bt s (M.pos s k+2+4*j):Int)/\EW s k (j*4+1)=aj (M.bt s (M.pos s k+2+4*j+1):Int)/\EW s k (j*4+2)=aj (M.bt s (M.pos s k+2+4*j+2):Int)/\EW s k (j*4+3)=aj (M.bt s (M.pos s k+2+4*j+3):Int)):=by
      unfold EW;rw[show M.pos s k+2+(j*4)=M.pos s k+2+4*j by omega,show M.pos s k+2+(j*4+1)=M.pos s k+2+4*j+1 by omega,show M.pos s k+2+(j*4+2)=M.pos s k+2+4*j+2 by omega,show M.pos s k+2+(j*4+3)=M.pos s k+2+4*j+3 by omega];exact⟨rfl,rfl,rfl,rfl⟩
     clear hh hg sB sF sY sO sL sC y2 d0 d1 e0 e1 hne';generalize M.bt s (M.pos s k+2+4*j)=b0 at *;generalize M.bt s (M.pos s k+2+4*j+1)=b1 at *;generalize M.bt s (M.pos s k+2+4*j+2)=b2 at *;generalize M.bt s (M.pos s k+2+4*j+3)=b3 at *;obtain⟨hz5,d0,d1,e0,e1⟩:=kY KF5;have hz6:g<w5.heap.size+1:=ag
     go_wp2_with (at_builtin;refine wpList_append_own _ rfl (.tmp 54) (.tmp 56) 87 rfl (g+1) 90 i1 _ 4 32 underlying87 hi1 hz10 hz11 hz12 rfl ek _ _ _ rfl ((KY5.alloc _).alloc _) (ay (w5.heap.size+1) 0) 1 1 [aj b0,aj b1,aj b2,aj b3] rfl rfl ?c1 ?c2 ?c3 ?c4 ?c5 ?_)
     case c1=>exact zg w5 _ _ _ _ _ _
     case c2=>intro u hu;simp at hu;rcases hu with rfl|rfl|rfl|rfl<;>rfl
     case c3=>unfold maxLen;omega
     case c4=>omega
     case c5=>simp;omega
     intro v' w6 hown hgrow _;obtain⟨g',cap',rfl⟩:∃g' cap',v'=dA g' (j+1) cap':=by
      rcases hown.2 with⟨_,h⟩|⟨g',cap',_,h,_⟩
      .omega
      exact⟨g',cap',h⟩
     have hnN:∀x,x<g+1->some x≠(Value.slice ad' j cp').ownBlock:=by
      intro x hx e;have:=(KY5.lt _ e.symm).1;omega
     have KB6:=bj (da hgrow (ik (ik KB5 _) _) (hnN _ ag));have KF6:=bj (da hgrow ((av _ _ _ fH).trans ((av _ _ _ hz5).trans KF5)) (hnN _ ag));have KL6:=bj (((KL5.alloc ag _).alloc fH _).grown hgrow fH (λx hx=>by have:=(KY5.lt _ hx).1;omega));have KY6:Hid (w6.ownsRow (g+1) 90 4 (dA g' (j+1) cap') (j+1) (rowP ((j+1)*4) (EW s k))):=by
      have h9:=hown;rw[<-zS,HB4.1,HB4.2.1,HB4.2.2.1,HB4.2.2.2];exact h9
     have KO6:=bj (((KO5.alloc _).alloc _).kept hgrow (by cases hv:(Value.slice ad k cp).ownBlock with|none=>exact af rfl|some x=>exact ah (hnN x (by have:=KV x hv;omega))));have KC6:Hid (FV s (w.heap.size+1) w6 k cbs ccs):=KC5.of (λi hi=>by
      have h7:=(KV2 i hi).2;rw[hgrow.block _ fH (hnN _ ag),av _ _ _ fH,av _ _ _ ag])
     clear hown hgrow KB5 KF5 KY5 KO5 KL5 KC5 d0 d1 e0 e1 HB4;obtain⟨hz7,d0,d1,e0,e1⟩:=kY KF6;go_wp2_with fail
     go_roundw
     case rel=>exact⟨j+1,some (ay g' 0),cap',ag,iA,iQ KB6 ag,xS KF6 _,ownsRow_setCell_below KY6 (by show g<g+1;omega) _,KO6.kept (bu (aw w6 (some g)) (af rfl) _) (by right;intro e;have:=KV _ e;omega),KC6.of (λi hi=>ab _ _ _ _ (by show cbs i≠g;have:=(KV2 i hi).2;omega)),KL6.setCell (by show w.heap.size<=g;omega) _⟩
     case measure=>simp[intOf];omega
    obtain rfl:j=L:=by omega
    go_wp2_with (at_builtin;refine wpList_append_own _ rfl (.tmp 59) (.tmp 61) 83 rfl (w.heap.size+1) 89 i2 _ 2 32 underlying83 hi2 hz20 hz21 hz22 rfl ek _ _ _ rfl (sO.alloc _) (ay wr.heap.size 0) 1 1 [aj R,.slice ad' j cp'] rfl rfl ?c1 ?c2 ?c3 ?c4 ?c5 ?_)
    case c1=>exact wG wr _ _ _
    case c2=>intro u hu;simp at hu;rcases hu with rfl|rfl<;>rfl
    case c3=>unfold maxLen;omega
    case c4=>omega
    case c5=>have:=sL.size;simp;omega
    intro v' w6 hown hgrow _;obtain⟨g',cap',rfl⟩:∃g' cap',v'=dA g' (k+1) cap':=by
     rcases hown.2 with⟨_,h⟩|⟨g',cap',_,h,_⟩
     .omega
     exact⟨g',cap',h⟩
    obtain⟨gb,rfl⟩:∃gb,ad'=some (ay gb 0):=by
     rcases sY.2 with⟨_,h⟩|⟨g2,cap2,_,h,_⟩
     .omega
     injection h with h _ _;exact⟨g2,h⟩
    have hnN:some w.heap.size≠(Value.slice ad k cp).ownBlock:=by
     intro e;have:=(sO.lt _ e.symm).1;omega
    have hgb:=sY.lt gb rfl;have KB6:Hid (w6.heap[w.heap.size]? = some (jZ s ((M.pos s (k+1):Nat):Int) false)):=by
     have h9:=da hgrow (ik sB (.cells #[aj R,dA gb j cp'] 89)) hnN;have e9:M.pos s (k+1)=M.pos s k+2+4*j:=by
      show M.pos s k+2+4*M.bt s (M.pos s k+1)=_;rw[HRL.2]
     rw[e9];exact h9
    have KL6:=bj ((sL.alloc (by have:=ch sB;omega) _).grown hgrow (by have:=ch sB;simp;omega) (λx hx=>by have:=(sO.lt _ hx).1;omega));have KC6:Hid (FV s (w.heap.size+1) w6 (k+1) (λi=>if i=k then gb else cbs i) (λi=>if i=k then cp' else ccs i)):=λi hi=>by
     have hblk:∀x,x<wr.heap.size->(∀y,(Value.slice ad k cp).ownBlock=some y->y≠x)->w6.heap[x]? = wr.heap[x]?:=λx hx hy=>by
      rw[hgrow.block _ fH (λe=>hy x e.symm rfl),av _ _ _ hx]
     have hty:∀y,(Value.slice ad k cp).ownBlock=some y->∃cur,wr.heap[y]? = some (.cells cur 89 (0,0)):=λy hy=>by
      obtain⟨_,_,cur,h1⟩:=dP sO y hy;exact⟨cur,h1⟩
     by_cases e:i=k
     .subst e;simp only[bf];rw[HRL.2];refine⟨dQ (gV sY ag) (λx hx=>?_),λj' hj'=>?_⟩
      .have hx':x=gb:=by simpa[Value.ownBlock] using hx.symm
       rw[hx'];refine hblk gb hgb.2 (λy hy hyx=>?_);have:=KV y hy;omega
      rw[eD];have:=(KV2 j' hj').2;omega
     have hik:i<k:=ag
     simp only[au e];obtain⟨c1,c2⟩:=sC i hik;refine⟨dQ c1 (λx hx=>?_),λj' hj'=>?_⟩
     .have hx':x=cbs i:=by simpa[Value.ownBlock] using hx.symm
      rw[hx'];refine hblk _ (sC.lt hik).2 (λy hy hyx=>?_);obtain⟨cur,h1⟩:=hty y hy;obtain⟨_,_,cur2,h2⟩:=dP c1 (cbs i) rfl;rw[hyx,h2]at h1;injection h1 with h1;injection h1 with _ h1 _;exact dp h1 ek
     rw[eD];exact c2 j' hj'
    have KO6:Hid (w6.ownsRow (w.heap.size+1) 89 2 (dA g' (k+1) cap') (k+1) (rowP ((k+1)*2) (zi s (λi=>if i=k then gb else cbs i) (λi=>if i=k then cp' else ccs i)))):=by
     have h9:=hown;rw[<-zT k _ (aj R) (dA gb j cp') (by
      unfold zi;rw[mm,show k*2 / 2=k by omega,HRL.1]) (by
      unfold zi;rw[eD,show(k*2+1) / 2=k by omega];show Value.slice (some (ay (if k=k then gb else cbs k) 0)) (M.bt s (M.pos s k+1)) (if k=k then cp' else ccs k)=_;rw[bf rfl,bf rfl,HRL.2])]
     have e9:rowP (k*2) (zi s (λi=>if i=k then gb else cbs i) (λi=>if i=k then cp' else ccs i))=rowP (k*2) (zi s cbs ccs):=by
      unfold rowP;refine List.map_congr_left (λx hx=>?_);have hx':=fI.1 hx;show(if x % 2=0 then _ else Value.slice (some (ay (if x / 2=k then gb else cbs (x / 2)) 0)) (M.bt s (M.pos s (x / 2)+1)) (if x / 2=k then cp' else ccs (x / 2)))=_;rw[au (show ¬x / 2=k by omega),au (show ¬x / 2=k by omega)];rfl
     rw[e9];exact h9
    clear hown hgrow sB sF sY sO sL sC y2 d0 d1 e0 e1 hnN;go_wp2_with fail
    go_roundw
    case rel=>exact⟨k+1,some (ay g' 0),cap',_,_,ag,iA,rfl,KB6,KL6,KO6,KC6⟩
    case measure=>simp[intOf];omega
  obtain rfl:k=F:=by omega
  obtain⟨y0,y1,y2⟩:=ij rB;have hpe:=HEN.out;rw[hpe]at y1;obtain⟨gb,rfl⟩:∃gb,ad=some (ay gb 0):=by
   rcases rO.2 with⟨_,h⟩|⟨g2,cap2,_,h,_⟩
   .omega
   injection h with h _ _;exact⟨g2,h⟩
  clear hpe;have g1:decide ((s.size:Int)<s.size)=false:=eB
  go_wp2_with fail
  go_ret3
  rw[<-HF.out]at rO rC ⊢;exact⟨gb,cp,cbs,ccs,rfl,rO,rC,rL⟩
end D
namespace D
open F
def yJ:Dm:=⟨0,λ_=>⟨[],5,0,0,0,0,(0,0)⟩,[],λ_=>[],0,λ_=>[],λ_=>0,0,false,[],0,⟨0,false,0,0,0,0,0,false⟩⟩
def Kv(mb:Nat):Dg:=⟨mb,λ_ _=>(none,0),λ_ _=>0,λ_=>0⟩
section
variable (s:ByteArray)(n q wk t gb gc:Nat)(cbs ccs:Nat → Nat)
def Dh:Dp:=⟨n,q,wk,t,M.bt s 0,gb,gc,cbs,ccs,λk=>M.bt s (M.pos s k+1),λk=>M.bt s (M.pos s k),λk i=>rj s (M.pos s k+2+4*i)⟩
theorem JU(f j:Nat):FZ (Dh s n q wk t gb gc cbs ccs) f j=EW s f j:=by
 unfold FZ EW;show Value.int .i64 ((if j % 4=0 then M.bt s (M.pos s f+2+4*(j / 4)) else if j % 4=1 then M.bt s (M.pos s f+2+4*(j / 4)+1) else if j % 4=2 then M.bt s (M.pos s f+2+4*(j / 4)+2) else M.bt s (M.pos s f+2+4*(j / 4)+3):Nat):Int)=_;grind
variable {s n q wk t gb gc cbs ccs}
theorem J7{mb x y z k:Nat}(h:(ob (Dh s n q wk t gb gc cbs ccs) yJ (Kv mb) x y z).bs k):(x=0/\y=0/\z=0/\k=mb)\/(x=8/\y=0/\z=0/\k=gb)\/(x=9/\z=0/\y<M.bt s 0/\k=cbs y):=by
 by_cases e:vd (Dh s n q wk t gb gc cbs ccs) yJ x y z=true
 .rw[ie e]at h;have H:=l9 e;have G:=oU 10 x ag
  repeat' rcases G with rfl|G
  .obtain⟨rfl,rfl⟩:=kS e ag;exact af ⟨rfl,rfl,rfl,h⟩
  .cases h
  .cases h
  .cases h
  .cases h
  .have:=vG e;have u:y<=0:=this.2.1;omega
  .have:=xQ e;have u:y<=0:=this.2.1;omega
  .have:=AG e;have u:y<=0:=this.2.1;omega
  .obtain⟨rfl,rfl⟩:=kS e ag;refine ah (af ⟨rfl,rfl,rfl,?_⟩);have i:some gb=some k:=h;grind
  .have o:y<M.bt s 0/\z=0:=by
    unfold vd at e;rw[eD,eD,eD,eD,bf rfl]at e;exact eO e
   refine ah (ah ⟨rfl,o.2,o.1,?_⟩);have i:some (cbs y)=some k:=h;grind
  cases h
 rw[A7 e]at h;exact h.elim
theorem LB{mb b:Nat}{w:aa}(hE:Full w mb 112 24 24 (mE (Dh s n q wk t gb gc cbs ccs) yJ (Kv mb)))(hF:w.ownsRow b 89 2 (dA gb (M.bt s 0) gc) (M.bt s 0) (rowP (M.bt s 0*2) (zi s cbs ccs)))(Y:FV s b w (M.bt s 0) cbs ccs):dZ (Dh s n q wk t gb gc cbs ccs) yJ (Kv mb) w:=by
 refine⟨λx y z=>?_,λx y z x' y' z' k hk a0=>?_⟩
 .by_cases o:vd (Dh s n q wk t gb gc cbs ccs) yJ x y z=true
  .rw[ie o];have a1:=l9 o;have hc:=oU 10 x ag
   repeat' rcases hc with rfl|hc
   .exact hE
   .exact eg _ _ _ _
   .exact gd.nil _ _
   .exact eg _ _ _ _
   .exact eg _ _ _ _
   .have:=vG o;have J:y<=0:=this.2.1;omega
   .have:=xQ o;have J:y<=0:=this.2.1;omega
   .have:=AG o;have J:y<=0:=this.2.1;omega
   .exact gV hF (dk _)
   .have H:y<M.bt s 0/\z=0:=by
     unfold vd at o;rw[eD,eD,eD,eD,bf rfl]at o;exact eO o
    have h9:=gV (Y y H.1).1 (dk _);have e9:rowP (M.bt s (M.pos s y+1)*4) (EW s y)=rowP (M.bt s (M.pos s y+1)*4) (FZ (Dh s n q wk t gb gc cbs ccs) y):=by
     unfold rowP;exact List.map_congr_left (λj _=>(JU s n q wk t gb gc cbs ccs y j).symm)
    rw[e9]at h9;exact h9
   exact gd.nil _ _
  rw[A7 o];trivial
 have u:∃i,w.heap[mb]? = some (.cells i 112 (0,0)):=by
  obtain⟨i,h1,_⟩:=hE;exact⟨i,h1⟩
 have W:=(dP hF gb rfl).2.2;have Z:=λy H=>(dP (Y y H).1 (cbs y) rfl).2.2;have two:∀{a:Nat} {S T:TypeId},(∃i,w.heap[a]? = some (.cells i S (0,0)))->(∃i,w.heap[a]? = some (.cells i T (0,0)))->S=T:=by
  rintro a S T ⟨c1,h1⟩ ⟨c2,J⟩;rw[h1]at J;injection J with J;injection J
 rcases J7 hk with⟨rfl,rfl,rfl,rfl⟩|⟨rfl,rfl,rfl,rfl⟩|⟨rfl,rfl,H,rfl⟩<;>rcases J7 a0 with⟨rfl,rfl,rfl,e⟩|⟨rfl,rfl,rfl,e⟩|⟨rfl,rfl,G,e⟩
 .omega
 .grind
 .grind
 .grind
 .omega
 .grind
 .grind
 .grind
 have:y=y':=by
  rcases Nat.lt_trichotomy y y' with h|h|h
  .have:=(Y y' G).2 y h;omega
  .exact h
  have:=(Y y H).2 y' h;omega
 omega
end
structure N3(d:Dp) (s:ByteArray) (n q wk t:Nat):Prop where
 n:d.n=n
 qn:d.qn=q
 wk:d.wk=wk
 mt:d.mt=t
 nf:d.nf=M.bt s 0
 rg:∀k,d.rg k=M.bt s (M.pos s k)
 len:∀k,d.len k=M.bt s (M.pos s k+1)
 ins:∀k i,d.ins k i=rj s (M.pos s k+2+4*i)
def OA(s:ByteArray)(n q wk t:Nat)(w:aa)(e:Ending)(w':aa):Prop:=Below w.heap.size w w'/\∃d g,e=.returned (.tuple #[P0 g.mb,.agg #[.int .i64 0,.int .i64 0]])/\N3 d s n q wk t/\dZ d (yJ.born 0 (0,0) (0,0)) g w'/\∀k,eH d (yJ.born 0 (0,0) (0,0)) g k->w.heap.size<=k
theorem LH(s:ByteArray)(c0 c1 J G:Nat)(w:aa)(hs:s.size<=maxLen)(aE:s.size<=140737488355328)(g0:1<=c0)(g1:c0<=200)(g2:1<=c1)(g3:c1<=50)(g4:1<=J)(g5:J<=50)(g6:1<=G)(g7:G<=16)(aA:(M.m9 s).2=true): Calls prog 31 #[.string s,.agg #[aj c0,aj c1,aj J,aj G]] w λe w'=>OA s c0 c1 J G w e w':=by
 have HS:Hid (s.size<=maxLen):=hs;have a5:=bj aA;have b0:decide ((c0:Int)<1)=false:=fH
 have b1:decide (200<(c0:Int))=false:=fH
 have b2:decide ((c1:Int)<1)=false:=fH
 have b3:decide (50<(c1:Int))=false:=fH
 have b4:decide ((J:Int)<1)=false:=fH
 have b5:decide (50<(J:Int))=false:=fH
 have b6:decide ((G:Int)<1)=false:=fH
 have b7:decide (16<(G:Int))=false:=fH
 clear hs aA;go_in;go_wp2_with fail
 refine(wW s _ HS aE a5).mono ?_;rintro e w1 ⟨gb,cp,cbs,ccs,rfl,hR,hC,hB⟩;obtain⟨hc,hf⟩:=ta hB;have hz:=hB.size;simp at hz;have H:=bj ((((fQ _ _).alloc (bq _) _).alloc eB _).trans (hB.mono fH));have KR:=bj hR;have KC:=bj hC;have d0:w1.cell? (ay (w.heap.size+1) 0)=some (aj 0):=by rw[hc _ _ eB];simp[go_sem]
 have d1:w1.cell? (ay (w.heap.size+1) 1)=some (aj 0):=by rw[hc _ _ eB];simp[go_sem]
 have e0:w1.frozen? (ay (w.heap.size+1) 0)=false:=by rw[hf _ _ eB];simp[go_sem]
 have e1:w1.frozen? (ay (w.heap.size+1) 1)=false:=by rw[hf _ _ eB];simp[go_sem]
 have a0:w1.cell? (ay w.heap.size 0)=some (aj c0):=by rw[hc _ _ fH];simp[go_sem]
 have a1:w1.cell? (ay w.heap.size 1)=some (aj c1):=by rw[hc _ _ fH];simp[go_sem]
 have a2:w1.cell? (ay w.heap.size 2)=some (aj J):=by rw[hc _ _ fH];simp[go_sem]
 have a3:w1.cell? (ay w.heap.size 3)=some (aj G):=by rw[hc _ _ fH];simp[go_sem]
 clear hc hf hB b0 b1 b2 b3 b4 b5 b6 b7 g0 g1 g2 g3 g4 g5 g6 g7 hR hC
 have n1:=(qu a5).1;have aB:=uO ((qu a5).2.2 0 n1);have r1:=M.gU aB.1;have a4:=bj (bh n1 r1);clear n1 aB r1;have a8:Hid (w.heap.size+2<=gb/\gb<w1.heap.size):=by
  have h1:=dP KR gb rfl;have h2:=h1.1;simp at h2;exact⟨ag,h1.2.1⟩
 have a9:Hid (∀i,i<M.bt s 0->w.heap.size+2<=cbs i/\cbs i<w1.heap.size):=λi hi=>by
  have h1:=KC.lt hi;have h2:=h1.1;simp at h2;exact⟨ag,h1.2⟩
 have a6:Hid (dZ (Dh s c0 c1 J G gb cp cbs ccs) yJ (Kv w1.heap.size) (w1.alloc (.cells #[dA gb (M.bt s 0) cp,aj c0,aj c1,aj J,aj G,aj 0,.slice none 0 0,.slice none 0 0,.slice none 0 0,.slice none 0 0,.slice none 0 0,.slice none 0 0,.slice none 0 0,aj 0,.bool false,.slice none 0 0,aj 0,.bool false,aj 0,aj 0,aj 0,aj 0,aj 0,.bool false] 112))):=by
  refine LB ⟨_,bl w1 _,rfl,λj hj=>?_⟩ (dQ KR (λk W=>av _ _ _ (dP KR k W).2.1)) (KC.of (λi hi=>av _ _ _ (KC.lt hi).2));have hc:j=0\/j=1\/j=2\/j=3\/j=4\/j=5\/j=6\/j=7\/j=8\/j=9\/j=10\/j=11\/j=12\/j=13\/j=14\/j=15\/j=16\/j=17\/j=18\/j=19\/j=20\/j=21\/j=22\/j=23:=ag
  rcases hc with rfl|rfl|rfl|rfl|rfl|rfl|rfl|rfl|rfl|rfl|rfl|rfl|rfl|rfl|rfl|rfl|rfl|rfl|rfl|rfl|rfl|rfl|rfl|rfl<;>rfl
 have Z:Hid (∀k,eH (Dh s c0 c1 J G gb cp cbs ccs) yJ (Kv w1.heap.size) k->w.heap.size+2<=k):=by
  rintro k ⟨x,y,z,W⟩;rcases J7 W with⟨_,_,_,rfl⟩|⟨_,_,_,rfl⟩|⟨_,_,hy,rfl⟩
  .omega
  .exact a8.1
  exact(a9 y hy).1
 clear KR KC a8 a9;go_wp2_with fail
 refine(DP (f:=0) (u:=(0,0)) (v:=(0,0)) a6 a4.1 a4.2.2.1 a4.2.2.2 ek ek).mono ?_;rintro e w3 ⟨rfl,g',hT,_⟩;have hO:=hT.o;have aD:=hO.size;simp at aD;have hn1:¬eH (Dh s c0 c1 J G gb cp cbs ccs) yJ (Kv w1.heap.size) (w.heap.size+1):=λh=>by have:=Z _ h;omega
 have Y:w3.heap[w.heap.size+1]? = w1.heap[w.heap.size+1]?:=(hO.same fH hn1).trans (av _ _ _ ag);have q0:w3.cell? (ay (w.heap.size+1) 0)=some (aj 0):=(az (a:=ay (w.heap.size+1) 0) Y).trans d0;have q1:w3.cell? (ay (w.heap.size+1) 1)=some (aj 0):=(az (a:=ay (w.heap.size+1) 1) Y).trans d1;have k0:=(dr (a:=ay (w.heap.size+1) 0) Y).trans e0;have k1:=(dr (a:=ay (w.heap.size+1) 1) Y).trans e1;have aF:Hid (Below w.heap.size w w3):=⟨hO.1.trans H.os,hO.2.1.trans H.tape,hO.2.2.1.trans H.output,ag,λk W=>(hO.same fH (λh=>by have:=Z _ h;omega)).trans ((av _ _ _ ag).trans (H.block k W))⟩;have HT:=bj hT;have a7:Hid (∀k,eH (Dh s c0 c1 J G gb cp cbs ccs) (yJ.born 0 (0,0) (0,0)) g' k->w.heap.size+2<=k):=λk W=>by
  rcases hT.m k W with h|h
  .exact Z k h
  simp at h;omega
 clear hT hO Y hn1 d0 d1 e0 e1 a0 a1 a2 a3 Z H a6 a4
 go_wp2_with fail
 refine dg (v:=.tuple #[.pointer (some (ay w1.heap.size 0)),.agg #[aj 0,aj 0]]) (by simp[results,results31,go_sem,q0,q1]) rfl ⟨?_,Dh s c0 c1 J G gb cp cbs ccs,g',?_,⟨rfl,rfl,rfl,rfl,rfl,λ_=>rfl,λ_=>rfl,λ_ _=>rfl⟩,?_,λk W=>by have:=a7 k W;omega⟩
 .repeat (refine Below.setCell ?_ eB _)
  exact aF
 .have hb:g'.mb=w1.heap.size:=HT.b;rw[hb]
 refine HT.r.only (S:=λk=>k=w.heap.size+1) ?_ (λk W e=>by have:=a7 k W;omega);exact bp (S:=λk=>k=w.heap.size+1) (a:=ay (w.heap.size+1) 1) (bp (S:=λk=>k=w.heap.size+1) (a:=ay (w.heap.size+1) 0) (dw _ _) (af rfl) _) (af rfl) _
