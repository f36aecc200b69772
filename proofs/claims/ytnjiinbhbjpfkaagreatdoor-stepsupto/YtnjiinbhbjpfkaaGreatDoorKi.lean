import Derived.Test.YtnjiinbhbjpfkaaGreatDoorKe
import Derived.Test.YtnjiinbhbjpfkaaGreatDoorKf
import Derived.Test.YtnjiinbhbjpfkaaGreatDoorKb
import Derived.Test.YtnjiinbhbjpfkaaGreatDoorKa
set_option maxRecDepth 100000
set_option maxHeartbeats 0
set_option linter.all false
namespace Go.Proofs.YtnjiinbhbjpfkaaGreatDoor
open Go.RowKit Go.Proofs.Tryz
namespace F
theorem Es{w:World}{sb pb eb n:Nat}(h:Go.Proofs.YtnjiinbhbjpfkaaGreatDoor.jm w sb pb eb n B.EZ Go.Proofs.YtnjiinbhbjpfkaaGreatDoor.Ax (λ_=>[])):jm w sb pb eb n B.EZ Ax (λ_=>[]):=by
 refine⟨h.b,⟨h.p.p.congr (λj _=>?_),λp _ _ e=>(by cases e),λp q _ _ _ _ e=>(by cases e),λp e=>(by cases e),λp e=>(by cases e)⟩,λc i=>(by cases i)⟩;unfold Go.Proofs.YtnjiinbhbjpfkaaGreatDoor.iM iM;rfl
def lU:Pl:=⟨0,λ_=>qR,λ_ _=>[],[],[],[],[],λ_=>[],false,0,B.EZ,λ_=>[],λ_=>0⟩
def Ed:eE:=⟨λ_=>0,λ_ _=>(none,0),λ_ _=>0,λ_ _=>0,λ_=>0,λ_=>0,λ_=>0,λ_=>0,0,0,none,0⟩
theorem Je(p:dz):Ok p lU:=by
 have J:eh p lU=[]:=rfl;refine { lw:=⟨λt ht=>?_,λx y _ t ht=>?_,λx y _=>List.nodup_nil,dc _⟩,ww:=λt ht=>?_,nd:=List.nodup_nil,lt:=λu e=>?_,ql:=λx y _ t ht=>?_,lf:=λu e=>?_,rn:=λu e=>?_,ol:=rfl,ok:=λv o=>?_,kn:=List.nodup_nil,kz:=λv o=>?_,fw:=λu e=>?_,hl:=?_,fc:=λk _ _ _=>dc _,bt:=λk=>⟨dc _,λx Y=>?_⟩,c0:=Int.le_refl _,c1:=by show(0:Int)<=_;omega }
 .have G:=ht.1;have H:t<=0:=ht.2;omega
 .cases ht
 .have G:=ht.1;have H:t<=0:=ht.2;omega
 .cases e
 .cases ht
 .have G:=e.1;have H:u<=0:=e.2;omega
 .have G:=e.1;have H:u<=0:=e.2;omega
 .cases o
 .cases o
 .cases e
 .rw[J];exact⟨λi hi=>ch hi (Nat.not_lt_zero _),λp _ v o=>(by cases o),λc W=>(by cases W)⟩
 cases Y
section
variable (w7 : World) (s : ByteArray) (eb sb pb ac g n q wk t : Nat) (gs : Nat → Nat)
def qe:dz:=⟨eb,sb,pb,n,M.bt s 0,g,gs,λk=>M.bt s (M.pos s k+1),λk=>M.bt s (M.pos s k),λk i=>pH s (M.pos s k+2+4*i),q,wk,t,ac+1,ep (Bq (.slice (some ⟨g,0,none⟩) (M.bt s 0) (M.bt s 0)) q wk t ac) 27 (P0 sb),λk=>k=g\/(∃f,f<M.bt s 0/\k=gs f)\/(ac+1<=k/\k<ac+33),λk=>w7.heap[k]?⟩
end
structure zg(w7:World) (s:ByteArray) (eb sb pb ac g n q wk t:Nat) (gs:Nat->Nat):Prop where
 ok:(M.jO s).2=true
 tm:Tm s
 n1:1<=n
 n2:n<=200
 hg:Full w7 g 178 (M.bt s 0*2) (M.bt s 0*2) (xO s gs)
 hf:∀k,k<M.bt s 0->2<=M.bt s (M.pos s k)/\M.bt s (M.pos s k)<=8/\1<=M.bt s (M.pos s k+1)/\M.bt s (M.pos s k+1)<=200/\Full w7 (gs k) 183 (M.bt s (M.pos s k+1)*4) (M.bt s (M.pos s k+1)*4) (oG s (M.pos s k+2))
 ha:∀k x,(lQ (ac+1))[k]? = some x->w7.heap[ac+1+k]? = some (.cells #[x.1] x.2 (0,0))
 st:jm w7 sb pb eb n B.EZ Ax (λ_=>[])
 en:Full w7 eb 144 44 44 (ep (Bq (.slice (some ⟨g,0,none⟩) (M.bt s 0) (M.bt s 0)) q wk t ac) 27 (P0 sb))
section
variable {w7 : World} {s : ByteArray} {eb sb pb ac g n q wk t : Nat} {gs : Nat → Nat} (h : zg w7 s eb sb pb ac g n q wk t gs)
include h
theorem zg.box{j:Nat}(e:j<32):w7.heap[ac+1+j]? = some (.cells #[((lQ (ac+1)).getD j (undef,0)).1] ((lQ (ac+1)).getD j (undef,0)).2 (0,0)):=by
 have i:(lQ (ac+1)).length=32:=rfl;have:=h.ha j _ (bn (by rw[i];exact e));rw[this,ar,bn (by rw[i];exact e)];rfl
theorem zg.pw:PW (qe w7 s eb sb pb ac g n q wk t gs):=by
 have u:∀w,Fix (qe w7 s eb sb pb ac g n q wk t gs) w->∀k,(k=g\/(∃f,f<M.bt s 0/\k=gs f)\/(ac+1<=k/\k<ac+33))->w.heap[k]? = w7.heap[k]?:=λw hw k W=>hw k W;refine⟨h.n1,h.n2,rfl,rfl,rfl,rfl,rfl,ag rfl,λw hw f y=>?_,λf y=>⟨(h.hf f y).1,(h.hf f y).2.1⟩,λo ho=>?_,λw hw j Y=>?_,λw hw f y=>?_,λf y=>(h.hf f y).2.2.2.1⟩
 .have hG:=h.hg.block (u w hw g (ag rfl));have J:f<M.bt s 0:=y;have c0:=hG.cell (f*2) (by omega);refine⟨c0.trans ?_,(hG.cell (f*2+1) (by omega)).trans ?_⟩
  .unfold xO;rw[aj (by omega),show f*2 / 2=f by omega];rfl
  unfold xO;rw[aa (by omega),show(f*2+1) / 2=f by omega];rfl
 .have H:o=0\/o=1\/o=2\/o=3\/o=4\/o=5\/o=6\/o=7\/o=8\/o=9\/o=10\/o=11\/o=12\/o=13\/o=14\/o=15\/o=16\/o=17\/o=18\/o=19\/o=20\/o=21\/o=22:=by omega
  rcases H with rfl|rfl|rfl|rfl|rfl|rfl|rfl|rfl|rfl|rfl|rfl|rfl|rfl|rfl|rfl|rfl|rfl|rfl|rfl|rfl|rfl|rfl|rfl<;>rfl
 .have e:w.heap[ac+1+j]? = w7.heap[ac+1+j]?:=u w hw _ (ab (ab ⟨by omega,by omega⟩));rw[h.box Y]at e;refine⟨?_,e⟩;show w.cell? ⟨ac+1+j,0,none⟩=_;simp only[World.cell?,e];rfl
 have G:=(h.hf f y).2.2.2.2.block (u w hw (gs f) (ab (ag ⟨f,y,rfl⟩)));refine⟨G.lt,λi hi=>?_⟩;have Z:i<M.bt s (M.pos s f+1):=hi;refine⟨(G.cell (i*4) (by omega)).trans ?_,(G.cell (i*4+1) (by omega)).trans ?_,(G.cell (i*4+2) (by omega)).trans ?_,(G.cell (i*4+3) (by omega)).trans ?_⟩
 .show some (Value.int .u8 (M.bt s (M.pos s f+2+i*4):Int))=some (Value.int .u8 (M.bt s (M.pos s f+2+4*i):Int));rw[Nat.mul_comm]
 .show some (Value.int .u8 (M.bt s (M.pos s f+2+(i*4+1)):Int))=some (Value.int .u8 (M.bt s (M.pos s f+2+4*i+1):Int));rw[Nat.mul_comm];rfl
 .show some (Value.int .u8 (M.bt s (M.pos s f+2+(i*4+2)):Int))=some (Value.int .u8 (M.bt s (M.pos s f+2+4*i+2):Int));rw[Nat.mul_comm];rfl
 show some (Value.int .u8 (M.bt s (M.pos s f+2+(i*4+3)):Int))=some (Value.int .u8 (M.bt s (M.pos s f+2+4*i+3):Int));rw[Nat.mul_comm];rfl
theorem zg.pi:PI (qe w7 s eb sb pb ac g n q wk t gs):=GZ h.tm h.ok (λ_=>rfl) rfl (λ_=>rfl) (λ_ _=>rfl)
theorem zg.Jz{k:Nat}(W:(qe w7 s eb sb pb ac g n q wk t gs).fx k):k<w7.heap.size/\k≠eb/\k≠sb/\k≠pb:=by
 have H:=h.st.b;have G:=h.st.p.p;rcases W with rfl|⟨f,J,rfl⟩|⟨Y,Z⟩
 .refine⟨h.hg.lt,h.hg.ne h.en (by decide),?_,h.hg.ne G (by decide)⟩;obtain⟨u,c1,_⟩:=h.hg;exact λe=>by rw[e,H]at c1;injection c1 with c1;injection c1 with _ o _;exact ch o (by decide)
 .have y:=(h.hf f J).2.2.2.2;refine⟨y.lt,y.ne h.en (by decide),?_,y.ne G (by decide)⟩;obtain⟨u,c1,_⟩:=y;exact λe=>by rw[e,H]at c1;injection c1 with c1;injection c1 with _ o _;exact ch o (by decide)
 obtain⟨j,rfl⟩:∃j,k=ac+1+j:=⟨k-(ac+1),by omega⟩;have i:=h.box (j:=j) (by omega);refine⟨bz i,λe=>?_,λe=>?_,λe=>?_⟩
 .obtain⟨u,c1,o,_⟩:=h.en;rw[e,c1]at i;injection i with i;injection i with i _ _;rw[i]at o;simp at o
 .rw[e,H]at i;injection i with i;injection i with i _ _;have:=congrArg Array.size i;simp at this
 obtain⟨u,c1,o,_⟩:=G;rw[e,c1]at i;injection i with i;injection i with i _ _;rw[i]at o;simp at o;omega
theorem zg.rep:dQ (qe w7 s eb sb pb ac g n q wk t gs) lU Ed w7:=by
 have a0:eb≠sb/\eb≠pb:=by
  refine⟨λe=>?_,h.en.ne h.st.p.p (by decide)⟩;obtain⟨a7,c1,_⟩:=h.en;rw[e,h.st.b]at c1;injection c1 with c1;injection c1 with _ c2 _;exact ch c2 (by decide)
 have a5:∀k,pP sb pb n B.EZ (jn lU Ed) k->k=sb\/k=pb:=λk i=>by
  rcases i with G|G|⟨_,_,_,G,_⟩|⟨G,_⟩
  .exact ag G
  .exact ab G
  .cases G
  cases G
 have J:∀x y z,gu lU x y z=true->(x=0\/x=1\/x=18\/eQ x)/\z=0/\(x<=1\/x=18->y=0):=λx y z o=>by
  have a6:=uM o;by_cases a:x=5\/x=11\/x=12\/x=15\/x=16
  .have:=(jq o a).1;have G:=this.1;have h2:y<=0:=this.2;omega
  by_cases b:x=13\/x=14
  .have:=(lI o b).1;have G:=this.1;have h2:y<=0:=this.2;omega
  by_cases c:x=17
  .subst c;have:=(ld o).1;have G:=this.1;have h2:y<=0:=this.2;omega
  by_cases d:x=4\/x=10
  .have:=(yk o d).2;unfold eQ;omega
  have:=jZ o (by omega);unfold eQ;omega
 refine⟨λx y z=>?_,λx y z x' y' z' k i a4=>?_⟩
 .by_cases o:gu lU x y z=true
  .obtain⟨W,hz,hy⟩:=J x y z o;rw[gH o];rcases W with rfl|rfl|rfl|W
   .show Full w7 eb 144 44 44 (iJ (qe w7 s eb sb pb ac g n q wk t gs) lU Ed);refine h.en.congr (λj hj=>?_);unfold iJ;by_cases Z:j<28
    .rw[aj Z];rfl
    rw[aa Z];have hc:j=28\/j=29\/j=30\/j=31\/j=32\/j=33\/j=34\/j=35\/j=36\/j=37\/j=38\/j=39\/j=40\/j=41\/j=42\/j=43:=by omega
    rcases hc with rfl|rfl|rfl|rfl|rfl|rfl|rfl|rfl|rfl|rfl|rfl|rfl|rfl|rfl|rfl|rfl<;>rfl
   .exact h.st
   .show ∀k,_->k<w7.heap.size/\w7.heap[k]? = _;intro k i;exact⟨(h.Jz i).1,rfl⟩
   rw[gk W];have hl:eH lU x y=0:=by unfold eH lU;simp[qR]
   have hc:fU lU Ed x y=[]:=by unfold fU lU;simp[qR,fT,kE,Ie]
   show w7.ownsRow 0 (zA x) (zB x) (.slice (Ed.ro x y).1 (eH lU x y) (Ed.ro x y).2) (eH lU x y) (fU lU Ed x y);rw[hl,hc];exact dJ _ _ _ _
  rw[vq o];trivial
 have Y:∀x y z,(ob (qe w7 s eb sb pb ac g n q wk t gs) lU Ed x y z).bs k->y=0/\z=0/\((x=0/\k=eb)\/(x=1/\(k=sb\/k=pb))\/(x=18/\(qe w7 s eb sb pb ac g n q wk t gs).fx k)):=λx y z i=>by
  by_cases o:gu lU x y z=true
  .obtain⟨W,hz,hy⟩:=J x y z o;rw[gH o]at i;rcases W with rfl|rfl|rfl|W
   .exact⟨hy (by omega),hz,ag ⟨rfl,i⟩⟩
   .exact⟨hy (by omega),hz,ab (ag ⟨rfl,a5 k i⟩)⟩
   .exact⟨hy (by omega),hz,ab (ab ⟨rfl,i⟩)⟩
   rw[gk W]at i
   cases i
  rw[vq o]at i;exact i.elim
 obtain⟨a1,a2,a3⟩:=Y x y z i;obtain⟨b1,b2,b3⟩:=Y x' y' z' a4;refine⟨?_,by omega,by omega⟩;rcases a3 with⟨Z,e2⟩|⟨Z,e2⟩|⟨Z,e2⟩
 .rcases b3 with⟨H,u⟩|⟨H,u⟩|⟨H,u⟩
  .omega
  .have:=a0;omega
  have:=(h.Jz u).2.1;omega
 .rcases b3 with⟨H,u⟩|⟨H,u⟩|⟨H,u⟩
  .have:=a0;omega
  .omega
  have:=(h.Jz u).2.2;omega
 rcases b3 with⟨H,u⟩|⟨H,u⟩|⟨H,u⟩
 .have:=(h.Jz e2).2.1;omega
 .have:=(h.Jz e2).2.2;omega
 omega
end
theorem Tr.below{p:dz}{s s':Pl}{g g':eE}{w w':World}{N:Nat}(h:dQ p s g w)(e:Tr p s g w s' g' w')(y:∀k,ey p s g k->N<=k\/p.fx k)(H:N<=w.heap.size):Below N w w':=by
 refine⟨e.o.1,e.o.2.1,e.o.2.2.1,e.o.size,λk G=>?_⟩;by_cases u:ey p s g k
 .have i:=(y k u).resolve_left (by omega);rw[(e.r.X k i).2,(h.X k i).2]
 exact e.o.same (by omega) u
end F
namespace F
theorem Jo(s:Pl)(t i:Nat)(f:gY):((s.dx t i f).T t).fr=(s.T t).fr.set i f:=by unfold Pl.dx;rw[df]
structure Kn(s:Pl) (j:Nat) (f:gY) (ev:List se):Prop where
 fr:(s.T 1).fr=[f]
 ff:f.f=0
 nx:f.nx=j
 ev:s.ev=ev
 q2:s.q 2 0=[]
 q3:s.q 3 0=[]
 lv:s.lv=[1]
 sp:s.sp=false
 nt:s.nt=1
 wh:(s.T 1).wh=none
 run:(s.T 1).run=true
theorem Kn.top{s:Pl}{j:Nat}{f:gY}{ev:List se}(h:Kn s j f ev):cr s 1=0/\bw s 1=f:=by
 have e:cr s 1=0:=by unfold cr;rw[h.fr];rfl
 refine⟨e,?_⟩;show de s 1 (cr s 1)=f;rw[e];unfold de;rw[h.fr];rfl
theorem Kn.set{s:Pl}{j i:Nat}{f e:gY}{ev:List se}(h:Kn s j f ev)(o:e.f=0)(hn:e.nx=i):Kn (s.dx 1 (cr s 1) e) i e ev:=by
 obtain⟨G,H⟩:=h.top;obtain⟨y,_,u,_⟩:=gj s 1 (cr s 1) 1 e;exact⟨by rw[Jo,h.fr,G];rfl,o,hn,h.ev,h.q2,h.q3,h.lv,h.sp,h.nt,y.trans h.wh,u.trans h.run⟩
theorem Kn.fD{s:Pl}{j:Nat}{f:gY}{ev:List se}(h:Kn s j f ev):Kn (s.fD 1) (j+1) { f with nx:=f.nx+1 } ev:=by
 have e:s.fD 1=s.dx 1 (cr s 1) { f with nx:=f.nx+1 }:=by unfold Pl.fD;rw[h.top.2]
 rw[e];exact h.set h.ff (by show f.nx+1=_;rw[h.nx])
theorem Fq{p:dz}{s:Pl}{k:Nat}(i:0<k)(h:(bw s 1).nx≠p.len (bw s 1).f):s.ends p 1 k=s:=by
 cases k with
 | zero=>omega
 | succ k=>unfold Pl.ends;rw[aa (λe=>h e.2)]
theorem Kn.step{p:dz}{s s':Pl}{j:Nat}{f:gY}{ev:List se}{k:yi}(h:Kn s j f ev)(y:p.len 0=3)(G:j<3)(hi:p.ins 0 j=k)(e:iC p 1 s s'):∃why s3,jD p (s.fD 1) 1 k why s3/\s'=if why=0 then s3 else s3.leave 1 (0,-why) 3 why:=by
 obtain⟨H,o⟩:=h.top;unfold iC at e;rw[Fq (by omega) (by rw[o,h.nx,h.ff,y];omega),aj h.run]at e;obtain⟨why,s3,i,u⟩:=e;rw[o,h.ff,h.nx,hi]at i;exact⟨why,s3,i,u⟩
theorem Hj{p:dz}{s s':Pl}{f:gY}{ev:List se}(h:Kn s 0 f ev)(J:p.len 0=3)(hi:p.ins 0 0=(0,0,0,5))(H:iC p 1 s s'):∃o,Kn s' 1 o ev/\o.R 0=(0,5):=by
 obtain⟨why,s3,G,u⟩:=h.step J (by omega) hi H;obtain⟨W,y⟩:why=0/\s3=oO (s.fD 1) 1 0 (B.wide 0 5):=G;subst W;rw[aj rfl,y]at u;subst u;have e:=h.fD;obtain⟨Y,i⟩:=e.top;refine⟨(bw (s.fD 1) 1).set 0 (0,B.wide 0 5),e.set ?_ ?_,?_⟩
 .rw[i];exact h.ff
 .rw[i];exact e.nx
 show B.set (bw (s.fD 1) 1).R 0 (0,B.wide 0 5) 0=_;rw[B.ie];rfl
theorem EX{p:dz}{s s':Pl}{f:gY}{ev:List se}(h:Kn s 1 f ev)(u:f.R 0=(0,5))(Y:p.len 0=3)(hi:p.ins 0 1=(20,0,0,0))(J:iC p 1 s s'):∃y,Kn s' 2 y (ev++[(1,1,5)])/\y.R 0=(0,5):=by
 obtain⟨why,s3,H,G⟩:=h.step Y (by omega) hi J;have e:=h.fD;obtain⟨Z,W⟩:=e.top;have hR:(bw (s.fD 1) 1).R 0=(0,5):=by rw[W];exact u
 obtain⟨o,i⟩:why=(iY (s.fD 1) 1 0).1/\s3=(iY (s.fD 1) 1 0).2:=H;unfold iY at o i;rw[hR]at o i;simp only[if_true]at o i;subst o;rw[aj rfl,i]at G;subst G;exact⟨_,⟨e.fr,e.ff,e.nx,by show(s.fD 1).ev++_=_;rw[e.ev],e.q2,e.q3,e.lv,e.sp,e.nt,e.wh,e.run⟩,u⟩
theorem Hh{p:dz}{s s':Pl}{f:gY}{ev:List se}(hR:Rn p s 1)(h:Kn s 2 f ev)(W:f.R 0=(0,5))(G:p.len 0=3)(hi:p.ins 0 2=(14,0,0,0))(Y:iC p 1 s s'):(s'.T 1).run=false/\s'.ev=ev++[(2,1,5)]:=by
 obtain⟨why,s3,J,u⟩:=h.step G (by omega) hi Y;have o:=h.fD;obtain⟨y,Z⟩:=o.top;have i:(bw (s.fD 1) 1).R 0=(0,5):=by rw[Z];exact W
 have e:=(mM hR (by rw[h.top.2,h.nx,h.ff,G];omega)).1;obtain⟨e1,H⟩:why=0/\s3=(s.fD 1).back 1 ((bw (s.fD 1) 1).R 0):=J;subst e1;rw[aj rfl,H,i]at u;subst u;refine⟨(mA e.ok.lw e.ht (0,5)).1 y,?_⟩;rw[((lG (s.fD 1) 1 (0,5)).1 y).2.1,o.ev]
theorem yK{p:dz}{t:Nat}{s s':Pl}(e:(s.T t).run=false):∀n,gg p t n s s'->s'=s
 | 0,h=>h
 | n+1,h=>by
  unfold gg at h;rw[aa (by rw[e];decide)]at h;exact h
structure Kb(s:Pl) (j:Nat) (f:gY):Prop where
 fr:(s.T 1).fr=[f]
 ff:f.f=0
 nx:f.nx=j
 ev:s.ev=[]
 q2:s.q 2 0=[1]
 q3:s.q 3 0=[]
 lv:s.lv=[1]
 sp:s.sp=false
 nt:s.nt=1
 wh:(s.T 1).wh=some (2,0)
theorem Kb.start{s:Pl}{j:Nat}{f:gY}(h:Kb s j f):Kn (s.start 1) j f []:=by
 have u:s.dw 1=(s.eZ 2 0 ((s.q 2 0).erase 1)).dv 1 (s.T 1).off:=by unfold Pl.dw;rw[h.wh]
 have i:(s.start 1).T 1={ (s.dw 1).T 1 with run:=true }:=df _ _ _;have o:(s.dw 1).T 1=(s.T 1).off:=by rw[u];exact df _ _ _
 have y:∀x,(s.start 1).q x 0=if x=2 then[] else s.q x 0:=λx=>by
  show(s.dw 1).q x 0=_;rw[u];show(if x=2/\0=0 then(s.q 2 0).erase 1 else s.q x 0)=_;by_cases e:x=2
  .rw[aj ⟨e,rfl⟩,aj e,h.q2];rfl
  rw[aa (λG=>e G.1),aa e]
 refine⟨by rw[i];show((s.dw 1).T 1).fr=_;rw[o];exact h.fr,h.ff,h.nx,(gz s 1).2.2.2.1.trans h.ev,by rw[y];rfl,by rw[y];exact h.q3,?_,?_,(fO s 1).trans h.nt,by rw[i];show((s.dw 1).T 1).wh=_;rw[o];rfl,by rw[i]⟩
 .show(s.dw 1).lv=_;rw[(gz s 1).1];exact h.lv
 show(s.dw 1).sp=_;rw[u];exact h.sp
theorem zZ{p:dz}{s s':Pl}{j:Nat}{f:gY}(h:Kb s j f)(o:p.qn=2)(ht:jh p s 0 [] s'):∃e,gg p 1 2 (s.start 1) e/\s'=(if(e.T 1).run=true then e.dV 2 0 1 else e).im p:=by
 have H:s.fF (B.iz s.eY 0)=s:=by
  have:B.iz s.eY 0=s.eY:=by unfold B.iz;simp
  rw[this];rfl
 unfold jh at ht;have y:(s.fF (B.iz s.eY 0)).eN []=s:=H;rw[y,aj ⟨by rw[h.lv];simp,h.sp⟩]at ht;obtain⟨s1,i,rfl⟩:=ht;have hw:s.gr (s.q 3 0)=s:=by rw[h.q3];rfl
 rw[hw]at i;unfold gO at i;rw[h.q2]at i;obtain⟨e,u,G⟩:=i;rw[o]at u;exact⟨e,u,by rw[G]⟩
theorem Hg{p:dz}{s s1 s2:Pl}{f:gY}(G:Ok p s1.lD)(h:Kb s 0 f)(hl:p.len 0=3)(a5:p.ins 0 0=(0,0,0,5))(a6:p.ins 0 1=(20,0,0,0))(a4:p.ins 0 2=(14,0,0,0))(H:p.qn=2)(ht:jh p s 0 [] s1)(y:jh p s1.lD 0 [] s2):s1.ev=[(1,1,5)]/\s2.ev=[(2,1,5)]:=by
 obtain⟨a,o,rfl⟩:=zZ h H ht;have K0:=h.start;unfold gg at o;rw[aj K0.run]at o;obtain⟨a1,g1,o⟩:=o;obtain⟨f1,K1,R1⟩:=Hj K0 hl a5 g1;unfold gg at o;rw[aj K1.run]at o;obtain⟨a2,g2,o⟩:=o;obtain⟨f2,i,R2⟩:=EX K1 R1 hl a6 g2;have e:a=a2:=o;subst e;rw[aj i.run]at G y ⊢;have ho:a.dw 1=a:=by unfold Pl.dw;rw[i.wh]
 have u:a.dV 2 0 1=(a.eZ 2 0 (a.q 2 0++[1])).dv 1 ((a.T 1).to 2 0):=by unfold Pl.dV;rw[ho]
 have Y:(a.dV 2 0 1).T 1=(a.T 1).to 2 0:=by rw[u];exact df _ _ _
 have hq:∀x,(a.dV 2 0 1).q x 0=if x=2 then[1] else a.q x 0:=λx=>by
  rw[u];show(if x=2/\0=0 then a.q 2 0++[1] else a.q x 0)=_;by_cases e:x=2
  .rw[aj ⟨e,rfl⟩,aj e,i.q2];rfl
  rw[aa (λe'=>e e'.1),aa e]
 have a3:((a.dV 2 0 1).im p).ev=[(1,1,5)]:=by
  show(a.dV 2 0 1).ev=_;rw[u];exact i.ev
 refine⟨a3,?_⟩;have B2:Kb ((a.dV 2 0 1).im p).lD 2 f2:=by
  refine⟨?_,i.ff,i.nx,rfl,?_,?_,?_,?_,?_,?_⟩
  .show((a.dV 2 0 1).T 1).fr=_;rw[Y];exact i.fr
  .show(a.dV 2 0 1).q 2 0=_;rw[hq];rfl
  .show(a.dV 2 0 1).q 3 0=_;rw[hq];exact i.q3
  .show(a.dV 2 0 1).lv=_;rw[u];exact i.lv
  .show(a.dV 2 0 1).sp=_;rw[u];exact i.sp
  .show(a.dV 2 0 1).nt=_;rw[u];exact i.nt
  show((a.dV 2 0 1).T 1).wh=_;rw[Y];rfl
 generalize ((a.dV 2 0 1).im p).lD=b at *;obtain⟨c,W,rfl⟩:=zZ B2 H y;have J:=B2.start
 have hS:Ok p (b.start 1):=G.start (by rw[B2.lv];simp);have Z:Rn p (b.start 1) 1:=⟨hS,(hS.rn 1 ⟨bj _,by rw[J.nt];exact bj _⟩ J.run).2,J.run⟩;unfold gg at W;rw[aj J.run]at W;obtain⟨c1,g3,W⟩:=W;obtain⟨r3,e3⟩:=Hh Z J R2 hl a4 g3;have e4:=yK r3 1 W;subst e4;rw[aa (by rw[r3];decide)];exact e3
end F
namespace D
open F
def xu:Dm:=⟨0,λ_=>⟨[],5,0,0,0,0,(0,0)⟩,[],λ_=>[],0,λ_=>[],λ_=>0,0,false,[],0,⟨0,false,0,0,0,0,0,false⟩⟩
def IB(mb:Nat):Dg:=⟨mb,λ_ _=>(none,0),λ_ _=>0,λ_=>0⟩
section
variable (s : ByteArray) (n q wk t gb gc : Nat) (cbs ccs : Nat → Nat)
def BN:Dp:=⟨n,q,wk,t,M.bt s 0,gb,gc,cbs,ccs,λk=>M.bt s (M.pos s k+1),λk=>M.bt s (M.pos s k),λk i=>pH s (M.pos s k+2+4*i)⟩
theorem Hr(f j:Nat):Ec (BN s n q wk t gb gc cbs ccs) f j=Be s f j:=by
 unfold Ec Be;show Value.int .i64 ((if j % 4=0 then M.bt s (M.pos s f+2+4*(j / 4)) else if j % 4=1 then M.bt s (M.pos s f+2+4*(j / 4)+1) else if j % 4=2 then M.bt s (M.pos s f+2+4*(j / 4)+2) else M.bt s (M.pos s f+2+4*(j / 4)+3):Nat):Int)=_;congr 2
 by_cases i:j % 4=0
 .rw[aj i];congr 1;omega
 rw[aa i];by_cases o:j % 4=1
 .rw[aj o];congr 1;omega
 rw[aa o];by_cases e:j % 4=2
 .rw[aj e];congr 1;omega
 rw[aa e];congr 1;omega
variable {s n q wk t gb gc cbs ccs}
theorem Ig{mb x y z k:Nat}(h:(ob (BN s n q wk t gb gc cbs ccs) xu (IB mb) x y z).bs k):(x=0/\y=0/\z=0/\k=mb)\/(x=8/\y=0/\z=0/\k=gb)\/(x=9/\z=0/\y<M.bt s 0/\k=cbs y):=by
 by_cases e:vd (BN s n q wk t gb gc cbs ccs) xu x y z=true
 .rw[fP e]at h;have H:=kG e;have G:x=0\/x=1\/x=2\/x=3\/x=4\/x=5\/x=6\/x=7\/x=8\/x=9\/x=10:=by omega
  rcases G with rfl|rfl|rfl|rfl|rfl|rfl|rfl|rfl|rfl|rfl|rfl
  .obtain⟨rfl,rfl⟩:=jC e (by omega);exact ag ⟨rfl,rfl,rfl,h⟩
  .cases h
  .cases h
  .cases h
  .cases h
  .have:=uh e;have u:y<=0:=this.2.1;omega
  .have:=wv e;have u:y<=0:=this.2.1;omega
  .have:=zl e;have u:y<=0:=this.2.1;omega
  .obtain⟨rfl,rfl⟩:=jC e (by omega);refine ab (ag ⟨rfl,rfl,rfl,?_⟩);have i:some gb=some k:=h;injection i with i;exact i.symm
  .have o:y<M.bt s 0/\z=0:=by
    unfold vd at e;rw[aa (by omega),aa (by omega),aa (by omega),aa (by omega),aj rfl]at e;exact dO e
   refine ab (ab ⟨rfl,o.2,o.1,?_⟩);have i:some (cbs y)=some k:=h;injection i with i;exact i.symm
  cases h
 rw[zP e]at h;exact h.elim
theorem Jb{mb b:Nat}{w:World}(hE:Full w mb 112 24 24 (mE (BN s n q wk t gb gc cbs ccs) xu (IB mb)))(hF:w.ownsRow b 89 2 (.slice (some ⟨gb,0,none⟩) (M.bt s 0) gc) (M.bt s 0) (rowP (M.bt s 0*2) (vJ s cbs ccs)))(Y:Ea s b w (M.bt s 0) cbs ccs):dQ (BN s n q wk t gb gc cbs ccs) xu (IB mb) w:=by
 refine⟨λx y z=>?_,λx y z x' y' z' k hk a0=>?_⟩
 .by_cases o:vd (BN s n q wk t gb gc cbs ccs) xu x y z=true
  .rw[fP o];have a1:=kG o;have hc:x=0\/x=1\/x=2\/x=3\/x=4\/x=5\/x=6\/x=7\/x=8\/x=9\/x=10:=by omega
   rcases hc with rfl|rfl|rfl|rfl|rfl|rfl|rfl|rfl|rfl|rfl|rfl
   .exact hE
   .exact dJ _ _ _ _
   .exact fM.nil _ _
   .exact dJ _ _ _ _
   .exact dJ _ _ _ _
   .have:=uh o;have J:y<=0:=this.2.1;omega
   .have:=wv o;have J:y<=0:=this.2.1;omega
   .have:=zl o;have J:y<=0:=this.2.1;omega
   .exact gw hF (dc _)
   .have H:y<M.bt s 0/\z=0:=by
     unfold vd at o;rw[aa (by omega),aa (by omega),aa (by omega),aa (by omega),aj rfl]at o;exact dO o
    have h9:=gw (Y y H.1).1 (dc _);have e9:rowP (M.bt s (M.pos s y+1)*4) (Be s y)=rowP (M.bt s (M.pos s y+1)*4) (Ec (BN s n q wk t gb gc cbs ccs) y):=by
     unfold rowP;exact List.map_congr_left (λj _=>(Hr s n q wk t gb gc cbs ccs y j).symm)
    rw[e9]at h9;exact h9
   exact fM.nil _ _
  rw[zP o];trivial
 have u:∃i,w.heap[mb]? = some (.cells i 112 (0,0)):=by
  obtain⟨i,h1,_⟩:=hE;exact⟨i,h1⟩
 have W:=(dA hF gb rfl).2.2;have Z:=λy H=>(dA (Y y H).1 (cbs y) rfl).2.2;have two:∀{a:Nat} {S T:TypeId},(∃i,w.heap[a]? = some (.cells i S (0,0)))->(∃i,w.heap[a]? = some (.cells i T (0,0)))->S=T:=by
  rintro a S T ⟨c1,h1⟩ ⟨c2,J⟩;rw[h1]at J;injection J with J;injection J
 rcases Ig hk with⟨rfl,rfl,rfl,rfl⟩|⟨rfl,rfl,rfl,rfl⟩|⟨rfl,rfl,H,rfl⟩<;>rcases Ig a0 with⟨rfl,rfl,rfl,e⟩|⟨rfl,rfl,rfl,e⟩|⟨rfl,rfl,G,e⟩
 .exact⟨rfl,rfl,rfl⟩
 .rw[e]at u;exact ch (two u W) (by decide)
 .rw[e]at u;exact ch (two u (Z _ G)) (by decide)
 .rw[<-e]at u;exact ch (two u W) (by decide)
 .exact⟨rfl,rfl,rfl⟩
 .rw[e]at W;exact ch (two W (Z _ G)) (by decide)
 .rw[<-e]at u;exact ch (two u (Z _ H)) (by decide)
 .rw[<-e]at W;exact ch (two W (Z _ H)) (by decide)
 have:y=y':=by
  rcases Nat.lt_trichotomy y y' with h|h|h
  .have:=(Y y' G).2 y h;omega
  .exact h
  have:=(Y y H).2 y' h;omega
 exact⟨rfl,this,rfl⟩
end
structure L5(d:Dp) (s:ByteArray) (n q wk t:Nat):Prop where
 n:d.n=n
 qn:d.qn=q
 wk:d.wk=wk
 mt:d.mt=t
 nf:d.nf=M.bt s 0
 rg:∀k,d.rg k=M.bt s (M.pos s k)
 len:∀k,d.len k=M.bt s (M.pos s k+1)
 ins:∀k i,d.ins k i=pH s (M.pos s k+2+4*i)
def Mu(s:ByteArray)(n q wk t:Nat)(w:World)(e:Ending)(w':World):Prop:=Below w.heap.size w w'/\∃d g,e=.returned (.tuple #[P0 g.mb,.agg #[.int .i64 0,.int .i64 0]])/\L5 d s n q wk t/\dQ d (xu.born 0 (0,0) (0,0)) g w'/\∀k,ey d (xu.born 0 (0,0) (0,0)) g k->w.heap.size<=k
theorem Jg(s:ByteArray)(c0 c1 J G:Nat)(w:World)(hs:s.size<=maxLen)(aE:s.size<=140737488355328)(g0:1<=c0)(g1:c0<=200)(g2:1<=c1)(g3:c1<=50)(g4:1<=J)(g5:J<=50)(g6:1<=G)(g7:G<=16)(aA:(M.jO s).2=true): Calls prog 31 #[.string s,.agg #[.int .i64 c0,.int .i64 c1,.int .i64 J,.int .i64 G]] w λe w'=>Mu s c0 c1 J G w e w':=by
 have HS:Hid (s.size<=maxLen):=hs;have a5:=az aA;have b0:decide ((c0:Int)<1)=false:=by simp;omega
 have b1:decide (200<(c0:Int))=false:=by simp;omega
 have b2:decide ((c1:Int)<1)=false:=by simp;omega
 have b3:decide (50<(c1:Int))=false:=by simp;omega
 have b4:decide ((J:Int)<1)=false:=by simp;omega
 have b5:decide (50<(J:Int))=false:=by simp;omega
 have b6:decide ((G:Int)<1)=false:=by simp;omega
 have b7:decide (16<(G:Int))=false:=by simp;omega
 clear hs aA;go_in;go_wp2_with fail
 refine(pr s _ HS aE a5).mono ?_;rintro e w1 ⟨gb,cp,cbs,ccs,rfl,hR,hC,hB⟩;obtain⟨hc,hf⟩:=qL hB;have hz:=hB.size;simp at hz;have H:=az ((((eM _ _).alloc (bj _) _).alloc (by simp) _).trans (hB.mono (by simp;omega)));have KR:=az hR;have KC:=az hC;have d0:w1.cell? ⟨w.heap.size+1,0,none⟩=some (.int .i64 0):=by rw[hc _ _ (by simp)];simp[go_sem]
 have d1:w1.cell? ⟨w.heap.size+1,1,none⟩=some (.int .i64 0):=by rw[hc _ _ (by simp)];simp[go_sem]
 have e0:w1.frozen? ⟨w.heap.size+1,0,none⟩=false:=by rw[hf _ _ (by simp)];simp[go_sem]
 have e1:w1.frozen? ⟨w.heap.size+1,1,none⟩=false:=by rw[hf _ _ (by simp)];simp[go_sem]
 have a0:w1.cell? ⟨w.heap.size,0,none⟩=some (.int .i64 c0):=by rw[hc _ _ (by simp;omega)];simp[go_sem]
 have a1:w1.cell? ⟨w.heap.size,1,none⟩=some (.int .i64 c1):=by rw[hc _ _ (by simp;omega)];simp[go_sem]
 have a2:w1.cell? ⟨w.heap.size,2,none⟩=some (.int .i64 J):=by rw[hc _ _ (by simp;omega)];simp[go_sem]
 have a3:w1.cell? ⟨w.heap.size,3,none⟩=some (.int .i64 G):=by rw[hc _ _ (by simp;omega)];simp[go_sem]
 clear hc hf hB b0 b1 b2 b3 b4 b5 b6 b7 g0 g1 g2 g3 g4 g5 g6 g7 hR hC
 have n1:=(nJ a5).1;have aB:=pK ((nJ a5).2.2 0 n1);have r1:=M.fK aB.1;have a4:=az (ay n1 r1);clear n1 aB r1;have a8:Hid (w.heap.size+2<=gb/\gb<w1.heap.size):=by
  have h1:=dA KR gb rfl;have h2:=h1.1;simp at h2;exact⟨by omega,h1.2.1⟩
 have a9:Hid (∀i,i<M.bt s 0->w.heap.size+2<=cbs i/\cbs i<w1.heap.size):=λi hi=>by
  have h1:=KC.lt hi;have h2:=h1.1;simp at h2;exact⟨by omega,h1.2⟩
 have a6:Hid (dQ (BN s c0 c1 J G gb cp cbs ccs) xu (IB w1.heap.size) (w1.alloc (.cells #[.slice (some ⟨gb,0,none⟩) (M.bt s 0) cp,.int .i64 c0,.int .i64 c1,.int .i64 J,.int .i64 G,.int .i64 0,.slice none 0 0,.slice none 0 0,.slice none 0 0,.slice none 0 0,.slice none 0 0,.slice none 0 0,.slice none 0 0,.int .i64 0,.bool false,.slice none 0 0,.int .i64 0,.bool false,.int .i64 0,.int .i64 0,.int .i64 0,.int .i64 0,.int .i64 0,.bool false] 112))):=by
  refine Jb ⟨_,bf w1 _,rfl,λj hj=>?_⟩ (dD KR (λk W=>ak _ _ _ (dA KR k W).2.1)) (KC.of (λi hi=>ak _ _ _ (KC.lt hi).2));have hc:j=0\/j=1\/j=2\/j=3\/j=4\/j=5\/j=6\/j=7\/j=8\/j=9\/j=10\/j=11\/j=12\/j=13\/j=14\/j=15\/j=16\/j=17\/j=18\/j=19\/j=20\/j=21\/j=22\/j=23:=by omega
  rcases hc with rfl|rfl|rfl|rfl|rfl|rfl|rfl|rfl|rfl|rfl|rfl|rfl|rfl|rfl|rfl|rfl|rfl|rfl|rfl|rfl|rfl|rfl|rfl|rfl<;>rfl
 have Z:Hid (∀k,ey (BN s c0 c1 J G gb cp cbs ccs) xu (IB w1.heap.size) k->w.heap.size+2<=k):=by
  rintro k ⟨x,y,z,W⟩;rcases Ig W with⟨_,_,_,rfl⟩|⟨_,_,_,rfl⟩|⟨_,_,hy,rfl⟩
  .omega
  .exact a8.1
  exact(a9 y hy).1
 clear KR KC a8 a9;go_wp2_with fail
 refine(GN (f:=0) (u:=(0,0)) (v:=(0,0)) a6 a4.1 a4.2.2.1 a4.2.2.2 (by decide) (by decide)).mono ?_;rintro e w3 ⟨rfl,g',hT,_⟩;have hO:=hT.o;have aD:=hO.size;simp at aD;have hn1:¬ey (BN s c0 c1 J G gb cp cbs ccs) xu (IB w1.heap.size) (w.heap.size+1):=λh=>by have:=Z _ h;omega
 have Y:w3.heap[w.heap.size+1]? = w1.heap[w.heap.size+1]?:=(hO.same (by simp;omega) hn1).trans (ak _ _ _ (by omega));have q0:w3.cell? ⟨w.heap.size+1,0,none⟩=some (.int .i64 0):=(aw (a:=⟨w.heap.size+1,0,none⟩) Y).trans d0;have q1:w3.cell? ⟨w.heap.size+1,1,none⟩=some (.int .i64 0):=(aw (a:=⟨w.heap.size+1,1,none⟩) Y).trans d1;have k0:=(dg (a:=⟨w.heap.size+1,0,none⟩) Y).trans e0;have k1:=(dg (a:=⟨w.heap.size+1,1,none⟩) Y).trans e1;have aF:Hid (Below w.heap.size w w3):=⟨hO.1.trans H.os,hO.2.1.trans H.tape,hO.2.2.1.trans H.output,by omega,λk W=>(hO.same (by simp;omega) (λh=>by have:=Z _ h;omega)).trans ((ak _ _ _ (by omega)).trans (H.block k W))⟩;have HT:=az hT;have a7:Hid (∀k,ey (BN s c0 c1 J G gb cp cbs ccs) (xu.born 0 (0,0) (0,0)) g' k->w.heap.size+2<=k):=λk W=>by
  rcases hT.m k W with h|h
  .exact Z k h
  simp at h;omega
 clear hT hO Y hn1 d0 d1 e0 e1 a0 a1 a2 a3 Z H a6 a4
 go_wp2_with fail
 refine da (v:=.tuple #[.pointer (some ⟨w1.heap.size,0,none⟩),.agg #[.int .i64 0,.int .i64 0]]) (by simp[results,results31,go_sem,q0,q1]) rfl ⟨?_,BN s c0 c1 J G gb cp cbs ccs,g',?_,⟨rfl,rfl,rfl,rfl,rfl,λ_=>rfl,λ_=>rfl,λ_ _=>rfl⟩,?_,λk W=>by have:=a7 k W;omega⟩
 .repeat (refine Below.setCell ?_ (by simp) _)
  exact aF
 .have hb:g'.mb=w1.heap.size:=HT.b;rw[hb]
 refine HT.r.only (S:=λk=>k=w.heap.size+1) ?_ (λk W e=>by have:=a7 k W;omega);exact bm (S:=λk=>k=w.heap.size+1) (a:=⟨w.heap.size+1,1,none⟩) (bm (S:=λk=>k=w.heap.size+1) (a:=⟨w.heap.size+1,0,none⟩) (dk _ _) (ag rfl) _) (ag rfl) _
