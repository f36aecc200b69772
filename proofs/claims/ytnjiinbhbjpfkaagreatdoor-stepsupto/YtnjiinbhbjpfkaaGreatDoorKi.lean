import Derived.Test.YtnjiinbhbjpfkaaGreatDoorKd
import Derived.Test.YtnjiinbhbjpfkaaGreatDoorKa
set_option maxRecDepth 100000
set_option maxHeartbeats 0
set_option linter.all false
namespace Go.Proofs.YtnjiinbhbjpfkaaGreatDoor
open Go.RowKit Go.Proofs.Tryz
namespace F
theorem Es{w:World}{sb pb eb n:Nat}(h:Go.Proofs.YtnjiinbhbjpfkaaGreatDoor.jm w sb pb eb n B.EZ Go.Proofs.YtnjiinbhbjpfkaaGreatDoor.Ax (λ_=>[])):jm w sb pb eb n B.EZ Ax (λ_=>[]):=by
 refine⟨h.b,⟨h.p.p.congr (λj _=>?_),λp _ _ e=>(by cases e),λp q _ _ _ _ e=>(by cases e),λp e=>(by cases e),λp e=>(by cases e)⟩,λc i=>(by cases i)⟩;unfold Go.Proofs.YtnjiinbhbjpfkaaGreatDoor.iM iM;rfl
def lU:Pl:=⟨0,λ_=>qR,λ_ _=>[],[],[],[],[],λ_=>[],false,0,B.EZ,λ_=>[],λ_=>0⟩
def Ed:eE:=⟨λ_=>0,λ_ _=>(none,0),λ_ _=>0,λ_ _=>0,λ_=>0,λ_=>0,λ_=>0,λ_=>0,0,0,none,0⟩
theorem Je(p:dz):Ok p lU:=by
 have J:eh p lU=[]:=rfl;refine { lw:=⟨λt ht=>?_,λx y _ t ht=>?_,λx y _=>List.nodup_nil,dc _⟩,ww:=λt ht=>?_,nd:=List.nodup_nil,lt:=λu e=>?_,ql:=λx y _ t ht=>?_,lf:=λu e=>?_,rn:=λu e=>?_,ol:=rfl,ok:=λv o=>?_,kn:=List.nodup_nil,kz:=λv o=>?_,fw:=λu e=>?_,hl:=?_,fc:=λk _ _ _=>dc _,bt:=λk=>⟨dc _,λx Y=>?_⟩,c0:=Int.le_refl _,c1:=by show(0:Int)<=_;omega }
 .have G:=ht.1;have H:t<=0:=ht.2;omega
 .cases ht
 .have G:=ht.1;have H:t<=0:=ht.2;omega
 .cases e
 .cases ht
 .have G:=e.1;have H:u<=0:=e.2;omega
 .have G:=e.1;have H:u<=0:=e.2;omega
 .cases o
 .cases o
 .cases e
 .rw[J];exact⟨λi hi=>ch hi (Nat.not_lt_zero _),λp _ v o=>(by cases o),λc W=>(by cases W)⟩
 cases Y
section
variable (w7 : World) (s : ByteArray) (eb sb pb ac g n q wk t : Nat) (gs : Nat → Nat)
def qe:dz:=⟨eb,sb,pb,n,M.bt s 0,g,gs,λk=>M.bt s (M.pos s k+1),λk=>M.bt s (M.pos s k),λk i=>pH s (M.pos s k+2+4*i),q,wk,t,ac+1,ep (Bq (.slice (some ⟨g,0,none⟩) (M.bt s 0) (M.bt s 0)) q wk t ac) 27 (P0 sb),λk=>k=g\/(∃f,f<M.bt s 0/\k=gs f)\/(ac+1<=k/\k<ac+33),λk=>w7.heap[k]?⟩
end
structure zg(w7:World) (s:ByteArray) (eb sb pb ac g n q wk t:Nat) (gs:Nat->Nat):Prop where
 ok:(M.jO s).2=true
 tm:Tm s
 n1:1<=n
 n2:n<=200
 hg:Full w7 g 178 (M.bt s 0*2) (M.bt s 0*2) (xO s gs)
 hf:∀k,k<M.bt s 0->2<=M.bt s (M.pos s k)/\M.bt s (M.pos s k)<=8/\1<=M.bt s (M.pos s k+1)/\M.bt s (M.pos s k+1)<=200/\Full w7 (gs k) 183 (M.bt s (M.pos s k+1)*4) (M.bt s (M.pos s k+1)*4) (oG s (M.pos s k+2))
 ha:∀k x,(lQ (ac+1))[k]? = some x->w7.heap[ac+1+k]? = some (.cells #[x.1] x.2 (0,0))
 st:jm w7 sb pb eb n B.EZ Ax (λ_=>[])
 en:Full w7 eb 144 44 44 (ep (Bq (.slice (some ⟨g,0,none⟩) (M.bt s 0) (M.bt s 0)) q wk t ac) 27 (P0 sb))
section
variable {w7 : World} {s : ByteArray} {eb sb pb ac g n q wk t : Nat} {gs : Nat → Nat} (h : zg w7 s eb sb pb ac g n q wk t gs)
include h
theorem zg.box{j:Nat}(e:j<32):w7.heap[ac+1+j]? = some (.cells #[((lQ (ac+1)).getD j (undef,0)).1] ((lQ (ac+1)).getD j (undef,0)).2 (0,0)):=by
 have i:(lQ (ac+1)).length=32:=rfl;have:=h.ha j _ (bn (by rw[i];exact e));rw[this,ar,bn (by rw[i];exact e)];rfl
theorem zg.pw:PW (qe w7 s eb sb pb ac g n q wk t gs):=by
 have u:∀w,Fix (qe w7 s eb sb pb ac g n q wk t gs) w->∀k,(k=g\/(∃f,f<M.bt s 0/\k=gs f)\/(ac+1<=k/\k<ac+33))->w.heap[k]? = w7.heap[k]?:=λw hw k W=>hw k W;refine⟨h.n1,h.n2,rfl,rfl,rfl,rfl,rfl,ag rfl,λw hw f y=>?_,λf y=>⟨(h.hf f y).1,(h.hf f y).2.1⟩,λo ho=>?_,λw hw j Y=>?_,λw hw f y=>?_,λf y=>(h.hf f y).2.2.2.1⟩
 .have hG:=h.hg.block (u w hw g (ag rfl));have J:f<M.bt s 0:=y;have c0:=hG.cell (f*2) (by omega);refine⟨c0.trans ?_,(hG.cell (f*2+1) (by omega)).trans ?_⟩
  .unfold xO;rw[aj (by omega),show f*2 / 2=f by omega];rfl
  unfold xO;rw[aa (by omega),show(f*2+1) / 2=f by omega];rfl
 .have H:o=0\/o=1\/o=2\/o=3\/o=4\/o=5\/o=6\/o=7\/o=8\/o=9\/o=10\/o=11\/o=12\/o=13\/o=14\/o=15\/o=16\/o=17\/o=18\/o=19\/o=20\/o=21\/o=22:=by omega
  rcases H with rfl|rfl|rfl|rfl|rfl|rfl|rfl|rfl|rfl|rfl|rfl|rfl|rfl|rfl|rfl|rfl|rfl|rfl|rfl|rfl|rfl|rfl|rfl<;>rfl
 .have e:w.heap[ac+1+j]? = w7.heap[ac+1+j]?:=u w hw _ (ab (ab ⟨by omega,by omega⟩));rw[h.box Y]at e;refine⟨?_,e⟩;show w.cell? ⟨ac+1+j,0,none⟩=_;simp only[World.cell?,e];rfl
 have G:=(h.hf f y).2.2.2.2.block (u w hw (gs f) (ab (ag ⟨f,y,rfl⟩)));refine⟨G.lt,λi hi=>?_⟩;have Z:i<M.bt s (M.pos s f+1):=hi;refine⟨(G.cell (i*4) (by omega)).trans ?_,(G.cell (i*4+1) (by omega)).trans ?_,(G.cell (i*4+2) (by omega)).trans ?_,(G.cell (i*4+3) (by omega)).trans ?_⟩
 .show some (Value.int .u8 (M.bt s (M.pos s f+2+i*4):Int))=some (Value.int .u8 (M.bt s (M.pos s f+2+4*i):Int));rw[Nat.mul_comm]
 .show some (Value.int .u8 (M.bt s (M.pos s f+2+(i*4+1)):Int))=some (Value.int .u8 (M.bt s (M.pos s f+2+4*i+1):Int));rw[Nat.mul_comm];rfl
 .show some (Value.int .u8 (M.bt s (M.pos s f+2+(i*4+2)):Int))=some (Value.int .u8 (M.bt s (M.pos s f+2+4*i+2):Int));rw[Nat.mul_comm];rfl
 show some (Value.int .u8 (M.bt s (M.pos s f+2+(i*4+3)):Int))=some (Value.int .u8 (M.bt s (M.pos s f+2+4*i+3):Int));rw[Nat.mul_comm];rfl
theorem zg.pi:PI (qe w7 s eb sb pb ac g n q wk t gs):=GZ h.tm h.ok (λ_=>rfl) rfl (λ_=>rfl) (λ_ _=>rfl)
theorem zg.Jz{k:Nat}(W:(qe w7 s eb sb pb ac g n q wk t gs).fx k):k<w7.heap.size/\k≠eb/\k≠sb/\k≠pb:=by
 have H:=h.st.b;have G:=h.st.p.p;rcases W with rfl|⟨f,J,rfl⟩|⟨Y,Z⟩
 .refine⟨h.hg.lt,h.hg.ne h.en (by decide),?_,h.hg.ne G (by decide)⟩;obtain⟨u,c1,_⟩:=h.hg;exact λe=>by rw[e,H]at c1;injection c1 with c1;injection c1 with _ o _;exact ch o (by decide)
 .have y:=(h.hf f J).2.2.2.2;refine⟨y.lt,y.ne h.en (by decide),?_,y.ne G (by decide)⟩;obtain⟨u,c1,_⟩:=y;exact λe=>by rw[e,H]at c1;injection c1 with c1;injection c1 with _ o _;exact ch o (by decide)
 obtain⟨j,rfl⟩:∃j,k=ac+1+j:=⟨k-(ac+1),by omega⟩;have i:=h.box (j:=j) (by omega);refine⟨bz i,λe=>?_,λe=>?_,λe=>?_⟩
 .obtain⟨u,c1,o,_⟩:=h.en;rw[e,c1]at i;injection i with i;injection i with i _ _;rw[i]at o;simp at o
 .rw[e,H]at i;injection i with i;injection i with i _ _;have:=congrArg Array.size i;simp at this
 obtain⟨u,c1,o,_⟩:=G;rw[e,c1]at i;injection i with i;injection i with i _ _;rw[i]at o;simp at o;omega
theorem zg.rep:dQ (qe w7 s eb sb pb ac g n q wk t gs) lU Ed w7:=by
 have a0:eb≠sb/\eb≠pb:=by
  refine⟨λe=>?_,h.en.ne h.st.p.p (by decide)⟩;obtain⟨a7,c1,_⟩:=h.en;rw[e,h.st.b]at c1;injection c1 with c1;injection c1 with _ c2 _;exact ch c2 (by decide)
 have a5:∀k,pP sb pb n B.EZ (jn lU Ed) k->k=sb\/k=pb:=λk i=>by
  rcases i with G|G|⟨_,_,_,G,_⟩|⟨G,_⟩
  .exact ag G
  .exact ab G
  .cases G
  cases G
 have J:∀x y z,gu lU x y z=true->(x=0\/x=1\/x=18\/eQ x)/\z=0/\(x<=1\/x=18->y=0):=λx y z o=>by
  have a6:=uM o;by_cases a:x=5\/x=11\/x=12\/x=15\/x=16
  .have:=(jq o a).1;have G:=this.1;have h2:y<=0:=this.2;omega
  by_cases b:x=13\/x=14
  .have:=(lI o b).1;have G:=this.1;have h2:y<=0:=this.2;omega
  by_cases c:x=17
  .subst c;have:=(ld o).1;have G:=this.1;have h2:y<=0:=this.2;omega
  by_cases d:x=4\/x=10
  .have:=(yk o d).2;unfold eQ;omega
  have:=jZ o (by omega);unfold eQ;omega
 refine⟨λx y z=>?_,λx y z x' y' z' k i a4=>?_⟩
 .by_cases o:gu lU x y z=true
  .obtain⟨W,hz,hy⟩:=J x y z o;rw[gH o];rcases W with rfl|rfl|rfl|W
   .show Full w7 eb 144 44 44 (iJ (qe w7 s eb sb pb ac g n q wk t gs) lU Ed);refine h.en.congr (λj hj=>?_);unfold iJ;by_cases Z:j<28
    .rw[aj Z];rfl
    rw[aa Z];have hc:j=28\/j=29\/j=30\/j=31\/j=32\/j=33\/j=34\/j=35\/j=36\/j=37\/j=38\/j=39\/j=40\/j=41\/j=42\/j=43:=by omega
    rcases hc with rfl|rfl|rfl|rfl|rfl|rfl|rfl|rfl|rfl|rfl|rfl|rfl|rfl|rfl|rfl|rfl<;>rfl
   .exact h.st
   .show ∀k,_->k<w7.heap.size/\w7.heap[k]? = _;intro k i;exact⟨(h.Jz i).1,rfl⟩
   rw[gk W];have hl:eH lU x y=0:=by unfold eH lU;simp[qR]
   have hc:fU lU Ed x y=[]:=by unfold fU lU;simp[qR,fT,kE,Ie]
   show w7.ownsRow 0 (zA x) (zB x) (.slice (Ed.ro x y).1 (eH lU x y) (Ed.ro x y).2) (eH lU x y) (fU lU Ed x y);rw[hl,hc];exact dJ _ _ _ _
  rw[vq o];trivial
 have Y:∀x y z,(ob (qe w7 s eb sb pb ac g n q wk t gs) lU Ed x y z).bs k->y=0/\z=0/\((x=0/\k=eb)\/(x=1/\(k=sb\/k=pb))\/(x=18/\(qe w7 s eb sb pb ac g n q wk t gs).fx k)):=λx y z i=>by
  by_cases o:gu lU x y z=true
  .obtain⟨W,hz,hy⟩:=J x y z o;rw[gH o]at i;rcases W with rfl|rfl|rfl|W
   .exact⟨hy (by omega),hz,ag ⟨rfl,i⟩⟩
   .exact⟨hy (by omega),hz,ab (ag ⟨rfl,a5 k i⟩)⟩
   .exact⟨hy (by omega),hz,ab (ab ⟨rfl,i⟩)⟩
   rw[gk W]at i
   cases i
  rw[vq o]at i;exact i.elim
 obtain⟨a1,a2,a3⟩:=Y x y z i;obtain⟨b1,b2,b3⟩:=Y x' y' z' a4;refine⟨?_,by omega,by omega⟩;rcases a3 with⟨Z,e2⟩|⟨Z,e2⟩|⟨Z,e2⟩
 .rcases b3 with⟨H,u⟩|⟨H,u⟩|⟨H,u⟩
  .omega
  .have:=a0;omega
  have:=(h.Jz u).2.1;omega
 .rcases b3 with⟨H,u⟩|⟨H,u⟩|⟨H,u⟩
  .have:=a0;omega
  .omega
  have:=(h.Jz u).2.2;omega
 rcases b3 with⟨H,u⟩|⟨H,u⟩|⟨H,u⟩
 .have:=(h.Jz e2).2.1;omega
 .have:=(h.Jz e2).2.2;omega
 omega
end
theorem Tr.below{p:dz}{s s':Pl}{g g':eE}{w w':World}{N:Nat}(h:dQ p s g w)(e:Tr p s g w s' g' w')(y:∀k,ey p s g k->N<=k\/p.fx k)(H:N<=w.heap.size):Below N w w':=by
 refine⟨e.o.1,e.o.2.1,e.o.2.2.1,e.o.size,λk G=>?_⟩;by_cases u:ey p s g k
 .have i:=(y k u).resolve_left (by omega);rw[(e.r.X k i).2,(h.X k i).2]
 exact e.o.same (by omega) u
