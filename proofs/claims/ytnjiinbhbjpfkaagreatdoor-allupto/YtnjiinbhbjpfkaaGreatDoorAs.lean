import Derived.Test.YtnjiinbhbjpfkaaGreatDoorAn
import Derived.Test.YtnjiinbhbjpfkaaGreatDoorAr
import Derived.Test.YtnjiinbhbjpfkaaGreatDoorAo
set_option maxRecDepth 100000
set_option maxHeartbeats 0
set_option linter.all false
namespace Go.Proofs.YtnjiinbhbjpfkaaGreatDoor
open Go.RowKit Go.Proofs.Tryz
namespace F
def Hb{w:aa}{sb pb eb n:Nat}(h:Go.Proofs.YtnjiinbhbjpfkaaGreatDoor.kG w sb pb eb n B.tX Go.Proofs.YtnjiinbhbjpfkaaGreatDoor.Co (λ_=>[])):kG w sb pb eb n B.tX Co (λ_=>[]):=by
 refine⟨h.b,⟨h.p.p.congr<|λj _=>?_,λp _ _ e=>(by cases e),λp q _ _ _ _ e=>(by cases e),λp e=>(by cases e),λp e=>(by cases e)⟩,λc i=>(by cases i)⟩;unfold Go.Proofs.YtnjiinbhbjpfkaaGreatDoor.jT jT;rfl
def nS:Pl:=⟨0,λ_=>sP,λ_ _=>[],[],[],[],[],λ_=>[],false,0,B.tX,λ_=>[],λ_=>0⟩
def GY:eM:=⟨λ_=>0,λ_ _=>(none,0),λ_ _=>0,λ_ _=>0,λ_=>0,λ_=>0,λ_=>0,λ_=>0,0,0,none,0⟩
def MH(p:dH):Ok p nS:=by
 have J:eH p nS=[]:=rfl;refine {lw:=⟨λt ht=>?_,λx y _ t ht=>?_,λx y _=>List.nodup_nil,di _⟩,ww:=λt ht=>?_,nd:=List.nodup_nil,lt:=λu e=>?_,ql:=λx y _ t ht=>?_,lf:=λu e=>?_,rn:=λu e=>?_,ol:=rfl,ok:=λv o=>?_,kn:=List.nodup_nil,kz:=λv o=>?_,fw:=λu e=>?_,hl:=?_,fc:=λk _ _ _=>di _,bt:=λk=>⟨di _,λx Y=>?_⟩,c0:=Int.le_refl _,c1:=by show(0:Int)<=_;omega}
 .have G:=ht.1;have H:t<=0:=ht.2;omega
 .cases ht
 .have G:=ht.1;have H:t<=0:=ht.2;omega
 .cases e
 .cases ht
 .have G:=e.1;have H:u<=0:=e.2;omega
 .have G:=e.1;have H:u<=0:=e.2;omega
 .cases o
 .cases o
 .cases e
 .rw[J];exact⟨λi hi=>dr hi<|Nat.not_lt_zero _,λp _ v o=>(by cases o),λc W=>(by cases W)⟩
 cases Y
section
variable (w7:aa)(s:ByteArray)(eb sb pb ac g n q wk t:Nat)(gs:Nat->Nat)
def sX:dH:=⟨eb,sb,pb,n,M.bt s 0,g,gs,λk=>M.bt s<|M.pos s k+1,λk=>M.bt s<|M.pos s k,λk i=>sm s<|M.pos s k+2+4*i,q,wk,t,ac+1,eE (DC (.slice (some ⟨g,0,none⟩) (M.bt s 0)<|M.bt s 0) q wk t ac) 27<|P0 sb,λk=>k=g\/(∃f,f<M.bt s 0/\k=gs f)\/(ac+1<=k/\k<ac+33),λk=>w7.heap[k]?⟩
end
structure Ah(w7:aa) (s:ByteArray) (eb sb pb ac g n q wk t:Nat) (gs:Nat->Nat):Prop where
 ok:(M.nK s).2=true
 n1:1<=n
 n2:n<=200
 hg:Full w7 g 178 (M.bt s 0*2) (M.bt s 0*2) (zT s gs)
 hf:∀k,k<M.bt s 0->2<=M.bt s (M.pos s k)/\M.bt s (M.pos s k)<=8/\1<=M.bt s (M.pos s k+1)/\M.bt s (M.pos s k+1)<=200/\Full w7 (gs k) 183 (M.bt s (M.pos s k+1)*4) (M.bt s (M.pos s k+1)*4) (qI s<|M.pos s k+2)
 ha:∀k x,(nZ<|ac+1)[k]?=some x->w7.heap[ac+1+k]?=some (.cells #[x.1] x.2 (0,0))
 st:kG w7 sb pb eb n B.tX Co (λ_=>[])
 en:Full w7 eb 144 44 44 (eE (DC (.slice (some ⟨g,0,none⟩) (M.bt s 0)<|M.bt s 0) q wk t ac) 27<|P0 sb)
section
variable {w7:aa}{s:ByteArray}{eb sb pb ac g n q wk t:Nat}{gs:Nat->Nat} (h:Ah w7 s eb sb pb ac g n q wk t gs)
include h
theorem Ah.box{j:Nat}(e:j<32):w7.heap[ac+1+j]?=some (.cells #[((nZ<|ac+1).getD j (undef,0)).1] ((nZ<|ac+1).getD j (undef,0)).2 (0,0)):=by
 have i:(nZ<|ac+1).length=32:=rfl;grind[List.getElem?_eq_getElem,F.Ah.ha]
theorem Ah.pw:PW (sX w7 s eb sb pb ac g n q wk t gs):=by
 have u:∀w,Fix (sX w7 s eb sb pb ac g n q wk t gs) w->∀k,(k=g\/(∃f,f<M.bt s 0/\k=gs f)\/(ac+1<=k/\k<ac+33))->w.heap[k]?=w7.heap[k]?:=λw hw k H=>hw k H;refine⟨h.n1,h.n2,rfl,rfl,rfl,rfl,rfl,ag rfl,λw hw f y=>?_,λf y=>⟨(h.hf f y).1,(h.hf f y).2.1⟩,λo ho=>?_,λw hw j J=>?_,λw hw f y=>?_,λf y=>(h.hf f y).2.2.2.1⟩
 .have hG:=h.hg.block<|u w hw g<|ag rfl;have Y:f<M.bt s 0:=y;have c0:=hG.cell (f*2) af;refine⟨c0.trans ?_,(hG.cell (f*2+1) af).trans ?_⟩
  .unfold zT;rw[mL,show f*2/2=f by omega];rfl
  unfold zT;rw[eK,show(f*2+1)/2=f by omega];rfl
 .have W:=pS 22 o af
  (repeat' rcases W with rfl|W)<;>rfl
 .have e:w.heap[ac+1+j]?=w7.heap[ac+1+j]?:=u w hw _<|ak<|ak ⟨af,af⟩;rw[h.box J]at e;refine⟨?_,e⟩;show dW w (ac+1+j) 0=_;simp only[World.cell?,e];rfl
 have G:=(h.hf f y).2.2.2.2.block<|u w hw (gs f)<|ak<|ag ⟨f,y,rfl⟩;refine⟨G.lt,λi hi=>?_⟩;have a0:i<M.bt s (M.pos s f+1):=hi;refine⟨(G.cell (i*4) af).trans ?_,(G.cell (i*4+1) af).trans ?_,(G.cell (i*4+2) af).trans ?_,(G.cell (i*4+3) af).trans ?_⟩
 .show some (Value.int .u8 (M.bt s (M.pos s f+2+i*4):Int))=some (Value.int .u8 (M.bt s (M.pos s f+2+4*i):Int));grind
 .show some (Value.int .u8 (M.bt s (M.pos s f+2+(i*4+1)):Int))=some (Value.int .u8 (M.bt s (M.pos s f+2+4*i+1):Int));grind
 .show some (Value.int .u8 (M.bt s (M.pos s f+2+(i*4+2)):Int))=some (Value.int .u8 (M.bt s (M.pos s f+2+4*i+2):Int));grind
 show some (Value.int .u8 (M.bt s (M.pos s f+2+(i*4+3)):Int))=some (Value.int .u8 (M.bt s (M.pos s f+2+4*i+3):Int));grind
theorem Ah.pi:PI (sX w7 s eb sb pb ac g n q wk t gs):=Kr h.ok (λ_=>rfl) rfl (λ_=>rfl) (λ_ _=>rfl)
theorem Ah.M7{k:Nat}(J:(sX w7 s eb sb pb ac g n q wk t gs).fx k):k<w7.heap.size/\k≠eb/\k≠sb/\k≠pb:=by
 have G:=h.st.b;have H:=h.st.p.p;rcases J with rfl|⟨f,W,rfl⟩|⟨Y,Z⟩
 .refine⟨h.hg.lt,h.hg.ne h.en eo,?_,h.hg.ne H eo⟩;let⟨u,c1,_⟩:=h.hg;grind
 .have y:=(h.hf f W).2.2.2.2;refine⟨y.lt,y.ne h.en eo,?_,y.ne H eo⟩;obtain⟨u,c1,_⟩:=y;grind
 obtain⟨j,rfl⟩:∃j,k=ac+1+j:=⟨k-(ac+1),af⟩;have i:=h.box (j:=j) af;refine⟨ch i,λe=>?_,λe=>?_,λe=>?_⟩
 .let⟨u,c1,o,_⟩:=h.en;grind
 .grind
 obtain⟨u,c1,o,_⟩:=H;grind
theorem Ah.rep:dZ (sX w7 s eb sb pb ac g n q wk t gs) nS GY w7:=by
 have Y:eb≠sb/\eb≠pb:=by
  refine⟨λe=>?_,h.en.ne h.st.p.p eo⟩;let⟨a5,c1,_⟩:=h.en;rw[e,h.st.b]at c1;injection c1 with c1;injection c1 with _ c2 _;exact dr c2 eo
 have a0:∀k,sD sb pb n B.tX (kI nS GY) k->k=sb\/k=pb:=λk i=>by
  rcases i with u|u|⟨_,_,_,u,_⟩|⟨u,_⟩
  .omega
  .omega
  .cases u
  cases u
 have H:∀x y z,ig nS x y z=true->(x=0\/x=1\/x=18\/fi x)/\z=0/\(x<=1\/x=18->y=0):=λx y z o=>by
  have a6:=sI o;by_cases a:x=5\/x=11\/x=12\/x=15\/x=16
  .have:=(kJ o a).1;have u:=this.1;have h2:y<=0:=this.2;omega
  by_cases b:x=13\/x=14
  .have:=(nP o b).1;have u:=this.1;have h2:y<=0:=this.2;omega
  by_cases c:x=17
  .subst c;have:=(mI o).1;have u:=this.1;have h2:y<=0:=this.2;omega
  by_cases d:x=4\/x=10
  .have:=(Aq o d).2;grind[fi]
  grind[mx,fi]
 refine⟨λx y z=>?_,λx y z x' y' z' k i a4=>?_⟩
 .by_cases o:ig nS x y z=true
  .let⟨W,hz,hy⟩:=H x y z o;rw[iq o];rcases W with rfl|rfl|rfl|W
   .show Full w7 eb 144 44 44 (iQ (sX w7 s eb sb pb ac g n q wk t gs) nS GY);refine h.en.congr<|λj hj=>?_;unfold iQ;by_cases e1:j<28
    .rw[bf e1];rfl
    rw[av e1];have hc:j=28\/j=29\/j=30\/j=31\/j=32\/j=33\/j=34\/j=35\/j=36\/j=37\/j=38\/j=39\/j=40\/j=41\/j=42\/j=43:=af
    (repeat' rcases hc with rfl|hc)<;>rfl
   .exact h.st
   .show ∀k,_->k<w7.heap.size/\w7.heap[k]?=_;intro k i;exact⟨(h.M7 i).1,rfl⟩
   rw[im W];have hl:eS nS x y=0:=by unfold eS nS;simp[sP]
   have hc:gC nS GY x y=[]:=by unfold gC nS;simp[sP,ij,nB,iR]
   show w7.ownsRow 0 (Br x) (Bs x) (.slice (GY.ro x y).1 (eS nS x y) (GY.ro x y).2) (eS nS x y) (gC nS GY x y);rw[hl,hc];exact eg _ _ _ _
  rw[wg o];trivial
 have Z:∀x y z,(ob (sX w7 s eb sb pb ac g n q wk t gs) nS GY x y z).bs k->y=0/\z=0/\((x=0/\k=eb)\/(x=1/\(k=sb\/k=pb))\/(x=18/\(sX w7 s eb sb pb ac g n q wk t gs).fx k)):=λx y z i=>by
  by_cases o:ig nS x y z=true
  .let⟨W,hz,hy⟩:=H x y z o;rw[iq o]at i;rcases W with rfl|rfl|rfl|W
   .exact⟨hy af,hz,ag ⟨rfl,i⟩⟩
   .exact⟨hy af,hz,ak<|ag ⟨rfl,a0 k i⟩⟩
   .exact⟨hy af,hz,ak<|ak ⟨rfl,i⟩⟩
   rw[im W]at i
   cases i
  rw[wg o]at i;exact i.elim
 let⟨a1,a2,a3⟩:=Z x y z i;let⟨b1,b2,b3⟩:=Z x' y' z' a4;refine⟨?_,af,af⟩;rcases a3 with⟨e1,e2⟩|⟨e1,e2⟩|⟨e1,e2⟩
 .rcases b3 with⟨J,G⟩|⟨J,G⟩|⟨J,G⟩
  .omega
  .have:=Y;omega
  have:=(h.M7 G).2.1;omega
 .rcases b3 with⟨J,G⟩|⟨J,G⟩|⟨J,G⟩
  .have:=Y;omega
  .omega
  have:=(h.M7 G).2.2;omega
 rcases b3 with⟨J,G⟩|⟨J,G⟩|⟨J,G⟩
 .have:=(h.M7 e2).2.1;omega
 .have:=(h.M7 e2).2.2;omega
 omega
end
def Tr.below{p:dH}{s s':Pl}{g g':eM}{w w':aa}{N:Nat}(h:dZ p s g w)(e:Tr p s g w s' g' w')(y:∀k,eJ p s g k->N<=k\/p.fx k)(H:N<=w.heap.size):Below N w w':=by
 refine⟨e.o.1,e.o.2.1,e.o.2.2.1,e.o.size,λk G=>?_⟩;by_cases u:eJ p s g k
 .have i:=(y k u).resolve_left af;rw[(e.r.X k i).2,(h.X k i).2]
 exact e.o.same af u
end F
namespace F
variable {ev:List uz}{f:jq}{j k:Nat}{p:dH}{s s':Pl}
theorem Ky(h:eJ p nS GY k):k=p.eb\/k=p.sb\/k=p.pb\/p.fx k:=by
 obtain⟨x,y,z,o⟩:=h;by_cases i:ig nS x y z=true
 .rw[iq i]at o;have J:=sI i;by_cases G:fi x
  .rw[im G]at o
   cases o
  have H:x=0\/x=1\/x=11\/x=13\/x=14\/x=15\/x=16\/x=17\/x=18:=by unfold fi at G;omega
  repeat' rcases H with rfl|H
  .exact ag o
  .rcases o with e|e|⟨_,_,_,e,_⟩|⟨e,_⟩
   .omega
   .omega
   .cases e
   cases e
  .have:=(kJ i af).1;have e:=this.1;have u:y<=0:=this.2;omega
  .have:=(nP i af).1;have e:=this.1;have u:y<=0:=this.2;omega
  .have:=(nP i af).1;have e:=this.1;have u:y<=0:=this.2;omega
  .have:=(kJ i af).1;have e:=this.1;have u:y<=0:=this.2;omega
  .have:=(kJ i af).1;have e:=this.1;have u:y<=0:=this.2;omega
  .have:=(mI i).1;have e:=this.1;have u:y<=0:=this.2;omega
  exact ak<|ak<|ak o
 rw[wg i]at o;exact o.elim
structure tT(p:dH) (tx:ByteArray) (c0 c1 c2 c3:Int):Prop where
 n:(p.n:Int)=c0
 qn:(p.qn:Int)=c1
 wk:(p.wk:Int)=c2
 mt:(p.mt:Int)=c3
 nf:p.nf=M.bt tx 0
 rg:∀k,p.rg k=M.bt tx (M.pos tx k)
 len:∀k,p.len k=M.bt tx (M.pos tx k+1)
 ins:∀k i,p.ins k i=sm tx (M.pos tx k+2+4*i)
def JK(tx:ByteArray)(c0 c1 c2 c3:Int)(z eb:Nat)(w3:aa):Prop:=∃p s g,p.eb=eb/\ND p/\dZ p s g w3/\Ok p s/\s=nS.born 0 (0,0) (0,0)/\tT p tx c0 c1 c2 c3/\∀k,eJ p s g k->z<=k/\k<w3.heap.size
theorem KH(s:ByteArray)(c0 c1 Y W:Int)(w:aa)(hs:s.size<=maxLen)(hT:pf w):Calls prog 23 #[.string s,.agg #[ah c0,ah c1,ah Y,ah W]] w λe w'=>Below w.heap.size w w'/\((∃x y:Int,e=.returned (.tuple #[.pointer none,.agg #[ah x,ah y]])/\¬(uZ c0 c1 Y W=true/\(M.nK s).2=true))\/∃(mb:Nat) (p:dH) (g:eM),e=.returned (.tuple #[P0 mb,.agg #[ah 0,ah 0]])/\ND p/\rf p (nS.born 0 (0,0) (0,0)) g mb w'/\tT p s c0 c1 Y W/\∀k,eJ p (nS.born 0 (0,0) (0,0)) g k\/k=mb->w.heap.size<=k/\k<w'.heap.size):=by
 refine(wP s c0 c1 Y W w hs hT (JK s c0 c1 Y W<|w.heap.size+2) ?_).mono ?_
 .intro aF a1 w1 w2 g cl aG z1 B2 z2 hF;let⟨n1,n2,aI⟩:=qR a1;have hb:1<=c0/\c0<=200/\1<=c1/\c1<=50/\1<=Y/\Y<=50/\1<=W/\W<=16:=by
   simp[uZ,wj]at aF;omega
  obtain⟨q,rfl⟩:∃q:Nat,c1=(q:Int):=⟨c1.toNat,af⟩;obtain⟨wk,rfl⟩:∃wk:Nat,Y=(wk:Int):=⟨Y.toNat,af⟩;obtain⟨t,rfl⟩:∃t:Nat,W=(t:Int):=⟨W.toNat,af⟩;obtain⟨hz,gs,hG,aB⟩:=hF;refine IT g (M.bt s 0) q wk t cl (JK s _ _ _ _<|w.heap.size+2) w2 af af ?_;rintro w7 eb sb pb ac ⟨y1,y2,y3,y4,B7,hA,hS,hE⟩;have a7:=λk u=>B7.block k u;have pre:Ah w7 s eb sb pb ac g cl q wk t gs:=⟨a1,af,af,hG.block<|a7 g hG.lt,λk u=>by
   grind[Full.block,Full.lt],hA,Hb hS,hE⟩
  have a0:=pre.rep;have J:∀k,eJ (sX w7 s eb sb pb ac g cl q wk t gs) nS GY k->(w2.heap.size<=k\/(sX w7 s eb sb pb ac g cl q wk t gs).fx k)/\w.heap.size+2<=k:=λk u=>by
   rcases Ky u with G|G|G|G
   .have G:k=eb:=G;omega
   .have G:k=sb:=G;omega
   .have G:k=pb:=G;exact⟨ag af,af⟩
   refine⟨ak G,?_⟩;rcases G with h2|⟨f,hf,h2⟩|h2
   .omega
   .have:=(aB f hf).1;omega
   omega
  have H:=MH<|sX w7 s eb sb pb ac g cl q wk t gs;have aA:(0:Nat)<(sX w7 s eb sb pb ac g cl q wk t gs).nf:=n1;refine(Gz (f:=0) (0,0) (0,0) a0 pre.pw H.lw H.nd H.lt H.ol aA (by show 0+1<=_;omega)).mono ?_;rintro e w' ⟨rfl,g',Z,_⟩;refine⟨⟨_,rfl⟩,Z.below a0 (λk u=>(J k u).1) B7.size,sX w7 s eb sb pb ac g cl q wk t gs,nS.born 0 (0,0) (0,0),g',rfl,⟨pre.pw,pre.pi,by show q<=50;omega,by show wk<=50;omega⟩,Z.r,H.born (by show 0+1<=_;omega) aA (dV.num 0)<|dV.num 0,rfl,⟨aG.symm,rfl,rfl,rfl,rfl,λ_=>rfl,λ_=>rfl,λ_ _=>rfl⟩,λk u=>⟨?_,Z.r.lt u⟩⟩;rcases Z.m k u with G|G
  .exact(J k G).2
  have:=B7.size;omega
 rintro e w' ⟨hB,⟨x,y,h,i,_⟩|⟨mb,eb,w3,rfl,⟨p,st,g,rfl,hP,hR,hO,rfl,a8,hM⟩,aH,rfl,aD,a9⟩⟩
 .exact⟨hB,ag ⟨x,y,h,i⟩⟩
 have aC:dZ p (nS.born 0 (0,0) (0,0)) g w':=⟨λx y z=>(ob p (nS.born 0 (0,0) (0,0)) g x y z).fr w3 w' (hR.o x y z)<|λk u=>a9 k (hR.lt ⟨x,y,z,u⟩) (by have:=(hM k ⟨x,y,z,u⟩).1;omega),hR.i⟩
 refine⟨hB,ak ⟨w3.heap.size,p,g,rfl,hP,⟨aC,hO,(uw nS 0 (0,0) (0,0)).2.1,aD,λu=>by have:=(hM _ u).2;omega⟩,a8,?_⟩⟩;rintro k (u|rfl)
 .exact⟨by have:=(hM k u).1;omega,aC.lt u⟩
 obtain⟨x,hx⟩:=aD;exact⟨af,ch hx⟩
theorem MQ(s:Pl)(t i:Nat)(f:jq):((s.dM t i f).T t).fr=(s.T t).fr.set i f:=by grind[Pl.dM,dk]
structure Kn(s:Pl) (j:Nat) (f:jq) (ev:List uz):Prop where
 fr:(s.T 1).fr=[f]
 ff:f.f=0
 nx:f.nx=j
 ev:s.ev=ev
 q2:s.q 2 0=[]
 q3:s.q 3 0=[]
 lv:s.lv=[1]
 sp:s.sp=false
 nt:s.nt=1
 wh:(s.T 1).wh=none
 run:(s.T 1).run=true
theorem Kn.top(h:Kn s j f ev):de s 1=0/\bz s 1=f:=by
 have e:de s 1=0:=by unfold de;rw[h.fr];rfl
 refine⟨e,?_⟩;show du s 1 (de s 1)=f;rw[e];unfold du;rw[h.fr];rfl
theorem Kn.set{i:Nat}{e:jq}(h:Kn s j f ev)(o:e.f=0)(hn:e.nx=i):Kn (s.dM 1 (de s 1) e) i e ev:=by
 let⟨G,H⟩:=h.top;let⟨y,_,u,_⟩:=gO s 1 (de s 1) 1 e;exact⟨by rw[MQ,h.fr,G];rfl,o,hn,h.ev,h.q2,h.q3,h.lv,h.sp,h.nt,y.trans h.wh,u.trans h.run⟩
theorem Kn.gL{s:Pl}{j:Nat}{f:jq}{ev:List uz}(h:Kn s j f ev):Kn (s.gL 1) (j+1) {f with nx:=f.nx+1} ev:=by
 grind[de,nx,Pl.gL,F.Kn.top,F.Kn.set,F.Kn.ff]
theorem IU(i:0<k)(h:(bz s 1).nx≠p.len (bz s 1).f):s.ends p 1 k=s:=by
 cases k with
 |zero=>omega
 |succ k=>unfold Pl.ends;grind
theorem Kn.step{k:vV}(h:Kn s j f ev)(y:p.len 0=3)(G:j<3)(hi:p.ins 0 j=k)(e:jv p 1 s s'):∃why s3,ku p (s.gL 1) 1 k why s3/\s'=if why=0 then s3 else s3.leave 1 (0,-why) 3 why:=by
 let⟨H,o⟩:=h.top;unfold jv at e;rw[IU af (by rw[o,h.nx,h.ff,y];omega),bf h.run]at e;obtain⟨why,s3,i,u⟩:=e;grind[F.Kn.nx,F.Kn.ff]
def K6(h:Kn s 0 f ev)(J:p.len 0=3)(hi:p.ins 0 0=(0,0,0,5))(H:jv p 1 s s'):∃o,Kn s' 1 o ev/\o.R 0=(0,5):=by
 let⟨why,s3,G,u⟩:=h.step J af hi H;obtain⟨W,y⟩:why=0/\s3=qS (s.gL 1) 1 0 (B.wide 0 5):=G;subst W;rw[bf rfl,y]at u;subst u;have e:=h.gL;let⟨Y,i⟩:=e.top;refine⟨(bz (s.gL 1) 1).set 0 (0,B.wide 0 5),e.set ?_ ?_,?_⟩
 .rw[i];exact h.ff
 .rw[i];exact e.nx
 show B.set (bz (s.gL 1) 1).R 0 (0,B.wide 0 5) 0=_;rw[B.jZ];rfl
def Iv(h:Kn s 1 f ev)(u:f.R 0=(0,5))(Y:p.len 0=3)(hi:p.ins 0 1=(20,0,0,0))(J:jv p 1 s s'):∃y,Kn s' 2 y (ev++[(1,1,5)])/\y.R 0=(0,5):=by
 let⟨why,s3,H,G⟩:=h.step Y af hi J;have e:=h.gL;let⟨Z,W⟩:=e.top;have hR:(bz (s.gL 1) 1).R 0=(0,5):=eZ W u
 obtain⟨o,i⟩:why=(jY (s.gL 1) 1 0).1/\s3=(jY (s.gL 1) 1 0).2:=H;unfold jY at o i;rw[hR]at o i;simp only[if_true]at o i;subst o;rw[bf rfl,i]at G;subst G;exact⟨_,⟨e.fr,e.ff,e.nx,by show(s.gL 1).ev++_=_;rw[e.ev],e.q2,e.q3,e.lv,e.sp,e.nt,e.wh,e.run⟩,u⟩
theorem KY(hR:Rn p s 1)(h:Kn s 2 f ev)(W:f.R 0=(0,5))(G:p.len 0=3)(hi:p.ins 0 2=(14,0,0,0))(Y:jv p 1 s s'):(s'.T 1).run=false/\s'.ev=ev++[(2,1,5)]:=by
 let⟨why,s3,J,u⟩:=h.step G af hi Y;have o:=h.gL;let⟨y,Z⟩:=o.top;have i:(bz (s.gL 1) 1).R 0=(0,5):=eZ Z W
 have e:=(oO hR (by rw[h.top.2,h.nx,h.ff,G];omega)).1;obtain⟨e1,H⟩:why=0/\s3=(s.gL 1).back 1 ((bz (s.gL 1) 1).R 0):=J;subst e1;rw[bf rfl,H,i]at u;subst u;refine⟨(oH e.ok.lw e.ht (0,5)).1 y,?_⟩;grind[nO,F.Kn.ev]
theorem AP{p:dH}{t:Nat}{s s':Pl}(e:(s.T t).run=false):∀n,hZ p t n s s'->s'=s
 |0,h=>h
 | n+1,h=>by
  unfold hZ at h;grind
structure Kb(s:Pl) (j:Nat) (f:jq):Prop where
 fr:(s.T 1).fr=[f]
 ff:f.f=0
 nx:f.nx=j
 ev:s.ev=[]
 q2:s.q 2 0=[1]
 q3:s.q 3 0=[]
 lv:s.lv=[1]
 sp:s.sp=false
 nt:s.nt=1
 wh:(s.T 1).wh=some (2,0)
theorem Kb.start{s:Pl}{j:Nat}{f:jq}(h:Kb s j f):Kn (s.start 1) j f []:=by
 have u:s.dA 1=(s.fI 2 0<|(s.q 2 0).erase 1).dy 1 (s.T 1).off:=by unfold Pl.dA;rw[h.wh]
 have i:(s.start 1).T 1={(s.dA 1).T 1 with run:=true}:=dk _ _ _;have o:(s.dA 1).T 1=(s.T 1).off:=by rw[u];exact dk _ _ _
 have y:∀x,(s.start 1).q x 0=if x=2 then[] else s.q x 0:=λx=>by
  show(s.dA 1).q x 0=_;rw[u];show(if x=2/\0=0 then(s.q 2 0).erase 1 else s.q x 0)=_;by_cases e:x=2
  .rw[bf ⟨e,rfl⟩,bf e,h.q2];rfl
  grind
 refine⟨by rw[i];show((s.dA 1).T 1).fr=_;rw[o];exact h.fr,h.ff,h.nx,(gI s 1).2.2.2.1.trans h.ev,ey,eZ y h.q3,?_,?_,(gl s 1).trans h.nt,by rw[i];show((s.dA 1).T 1).wh=_;rw[o];rfl,by rw[i]⟩
 .show(s.dA 1).lv=_;grind[gI,F.Kb.lv]
 show(s.dA 1).sp=_;rw[u];exact h.sp
theorem BO(h:Kb s j f)(o:p.qn=2)(ht:jX p s 0 [] s'):∃e,hZ p 1 2 (s.start 1) e/\s'=(if(e.T 1).run=true then e.dX 2 0 1 else e).jh p:=by
 have H:s.gw (B.iL s.clk 0)=s:=by
  have:B.iL s.clk 0=s.clk:=by unfold B.iL;simp
  rw[this];rfl
 unfold jX at ht;have y:(s.gw<|B.iL s.clk 0).fg []=s:=H;rw[y,bf ⟨by rw[h.lv];simp,h.sp⟩]at ht;obtain⟨s1,i,rfl⟩:=ht;have hw:s.iC (s.q 3 0)=s:=kh h.q3
 grind[iH,F.Kb.q2]
theorem KU{s1 s2:Pl}(G:Ok p s1.nC)(h:Kb s 0 f)(hl:p.len 0=3)(a5:p.ins 0 0=(0,0,0,5))(a6:p.ins 0 1=(20,0,0,0))(a4:p.ins 0 2=(14,0,0,0))(H:p.qn=2)(ht:jX p s 0 [] s1)(y:jX p s1.nC 0 [] s2):s1.ev=[(1,1,5)]/\s2.ev=[(2,1,5)]:=by
 obtain⟨a,o,rfl⟩:=BO h H ht;have K0:=h.start;unfold hZ at o;rw[bf K0.run]at o;obtain⟨a1,g1,o⟩:=o;let⟨f1,K1,R1⟩:=K6 K0 hl a5 g1;unfold hZ at o;rw[bf K1.run]at o;obtain⟨a2,g2,o⟩:=o;let⟨f2,i,R2⟩:=Iv K1 R1 hl a6 g2;have e:a=a2:=o;subst e;rw[bf i.run]at G y⊢;have ho:a.dA 1=a:=by unfold Pl.dA;rw[i.wh]
 have u:a.dX 2 0 1=(a.fI 2 0<|a.q 2 0++[1]).dy 1 ((a.T 1).to 2 0):=by unfold Pl.dX;rw[ho]
 have Y:(a.dX 2 0 1).T 1=(a.T 1).to 2 0:=by rw[u];exact dk _ _ _
 have hq:∀x,(a.dX 2 0 1).q x 0=if x=2 then[1] else a.q x 0:=λx=>by
  rw[u];show(if x=2/\0=0 then a.q 2 0++[1] else a.q x 0)=_;by_cases e:x=2
  .rw[bf ⟨e,rfl⟩,bf e,i.q2];rfl
  grind
 have a3:((a.dX 2 0 1).jh p).ev=[(1,1,5)]:=by
  show(a.dX 2 0 1).ev=_;rw[u];exact i.ev
 refine⟨a3,?_⟩;have B2:Kb ((a.dX 2 0 1).jh p).nC 2 f2:=by
  refine⟨?_,i.ff,i.nx,rfl,?_,?_,?_,?_,?_,?_⟩
  .show((a.dX 2 0 1).T 1).fr=_;rw[Y];exact i.fr
  .show(a.dX 2 0 1).q 2 0=_;grind
  .show(a.dX 2 0 1).q 3 0=_;rw[hq];exact i.q3
  .show(a.dX 2 0 1).lv=_;rw[u];exact i.lv
  .show(a.dX 2 0 1).sp=_;rw[u];exact i.sp
  .show(a.dX 2 0 1).nt=_;rw[u];exact i.nt
  show((a.dX 2 0 1).T 1).wh=_;rw[Y];rfl
 generalize ((a.dX 2 0 1).jh p).nC=b at*;obtain⟨c,W,rfl⟩:=BO B2 H y;have J:=B2.start
 have hS:Ok p (b.start 1):=G.start (by rw[B2.lv];simp);have Z:Rn p (b.start 1) 1:=⟨hS,(hS.rn 1 ⟨bm _,lD J.nt⟩ J.run).2,J.run⟩;unfold hZ at W;rw[bf J.run]at W;obtain⟨c1,g3,W⟩:=W;let⟨r3,e3⟩:=KY Z J R2 hl a4 g3;have e4:=AP r3 1 W;subst e4;rw[av ey];exact e3
