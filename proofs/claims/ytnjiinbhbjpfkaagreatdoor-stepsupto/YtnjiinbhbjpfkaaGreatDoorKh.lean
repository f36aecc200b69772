import Derived.Test.YtnjiinbhbjpfkaaGreatDoorKd
import Derived.Test.YtnjiinbhbjpfkaaGreatDoorKe
set_option maxRecDepth 100000
set_option maxHeartbeats 0
set_option linter.all false
namespace Go.Proofs.YtnjiinbhbjpfkaaGreatDoor
open Go.RowKit Go.Proofs.Tryz
namespace D
open F
def xu:Dm:=⟨0,λ_=>⟨[],5,0,0,0,0,(0,0)⟩,[],λ_=>[],0,λ_=>[],λ_=>0,0,false,[],0,⟨0,false,0,0,0,0,0,false⟩⟩
def IB(mb:Nat):Dg:=⟨mb,λ_ _=>(none,0),λ_ _=>0,λ_=>0⟩
section
variable (s : ByteArray) (n q wk t gb gc : Nat) (cbs ccs : Nat → Nat)
def BN:Dp:=⟨n,q,wk,t,M.bt s 0,gb,gc,cbs,ccs,λk=>M.bt s (M.pos s k+1),λk=>M.bt s (M.pos s k),λk i=>pH s (M.pos s k+2+4*i)⟩
theorem Hr(f j:Nat):Ec (BN s n q wk t gb gc cbs ccs) f j=Be s f j:=by
 unfold Ec Be;show Value.int .i64 ((if j % 4=0 then M.bt s (M.pos s f+2+4*(j / 4)) else if j % 4=1 then M.bt s (M.pos s f+2+4*(j / 4)+1) else if j % 4=2 then M.bt s (M.pos s f+2+4*(j / 4)+2) else M.bt s (M.pos s f+2+4*(j / 4)+3):Nat):Int)=_;congr 2
 by_cases i:j % 4=0
 .rw[aj i];congr 1;omega
 rw[aa i];by_cases o:j % 4=1
 .rw[aj o];congr 1;omega
 rw[aa o];by_cases e:j % 4=2
 .rw[aj e];congr 1;omega
 rw[aa e];congr 1;omega
variable {s n q wk t gb gc cbs ccs}
theorem Ig{mb x y z k:Nat}(h:(ob (BN s n q wk t gb gc cbs ccs) xu (IB mb) x y z).bs k):(x=0/\y=0/\z=0/\k=mb)\/(x=8/\y=0/\z=0/\k=gb)\/(x=9/\z=0/\y<M.bt s 0/\k=cbs y):=by
 by_cases e:vd (BN s n q wk t gb gc cbs ccs) xu x y z=true
 .rw[fP e]at h;have H:=kG e;have G:x=0\/x=1\/x=2\/x=3\/x=4\/x=5\/x=6\/x=7\/x=8\/x=9\/x=10:=by omega
  rcases G with rfl|rfl|rfl|rfl|rfl|rfl|rfl|rfl|rfl|rfl|rfl
  .obtain⟨rfl,rfl⟩:=jC e (by omega);exact ag ⟨rfl,rfl,rfl,h⟩
  .cases h
  .cases h
  .cases h
  .cases h
  .have:=uh e;have u:y<=0:=this.2.1;omega
  .have:=wv e;have u:y<=0:=this.2.1;omega
  .have:=zl e;have u:y<=0:=this.2.1;omega
  .obtain⟨rfl,rfl⟩:=jC e (by omega);refine ab (ag ⟨rfl,rfl,rfl,?_⟩);have i:some gb=some k:=h;injection i with i;exact i.symm
  .have o:y<M.bt s 0/\z=0:=by
    unfold vd at e;rw[aa (by omega),aa (by omega),aa (by omega),aa (by omega),aj rfl]at e;exact dO e
   refine ab (ab ⟨rfl,o.2,o.1,?_⟩);have i:some (cbs y)=some k:=h;injection i with i;exact i.symm
  cases h
 rw[zP e]at h;exact h.elim
theorem Jb{mb b:Nat}{w:World}(hE:Full w mb 112 24 24 (mE (BN s n q wk t gb gc cbs ccs) xu (IB mb)))(hF:w.ownsRow b 89 2 (.slice (some ⟨gb,0,none⟩) (M.bt s 0) gc) (M.bt s 0) (rowP (M.bt s 0*2) (vJ s cbs ccs)))(Y:Ea s b w (M.bt s 0) cbs ccs):dQ (BN s n q wk t gb gc cbs ccs) xu (IB mb) w:=by
 refine⟨λx y z=>?_,λx y z x' y' z' k hk a0=>?_⟩
 .by_cases o:vd (BN s n q wk t gb gc cbs ccs) xu x y z=true
  .rw[fP o];have a1:=kG o;have hc:x=0\/x=1\/x=2\/x=3\/x=4\/x=5\/x=6\/x=7\/x=8\/x=9\/x=10:=by omega
   rcases hc with rfl|rfl|rfl|rfl|rfl|rfl|rfl|rfl|rfl|rfl|rfl
   .exact hE
   .exact dJ _ _ _ _
   .exact fM.nil _ _
   .exact dJ _ _ _ _
   .exact dJ _ _ _ _
   .have:=uh o;have J:y<=0:=this.2.1;omega
   .have:=wv o;have J:y<=0:=this.2.1;omega
   .have:=zl o;have J:y<=0:=this.2.1;omega
   .exact gw hF (dc _)
   .have H:y<M.bt s 0/\z=0:=by
     unfold vd at o;rw[aa (by omega),aa (by omega),aa (by omega),aa (by omega),aj rfl]at o;exact dO o
    have h9:=gw (Y y H.1).1 (dc _);have e9:rowP (M.bt s (M.pos s y+1)*4) (Be s y)=rowP (M.bt s (M.pos s y+1)*4) (Ec (BN s n q wk t gb gc cbs ccs) y):=by
     unfold rowP;exact List.map_congr_left (λj _=>(Hr s n q wk t gb gc cbs ccs y j).symm)
    rw[e9]at h9;exact h9
   exact fM.nil _ _
  rw[zP o];trivial
 have u:∃i,w.heap[mb]? = some (.cells i 112 (0,0)):=by
  obtain⟨i,h1,_⟩:=hE;exact⟨i,h1⟩
 have W:=(dA hF gb rfl).2.2;have Z:=λy H=>(dA (Y y H).1 (cbs y) rfl).2.2;have two:∀{a:Nat} {S T:TypeId},(∃i,w.heap[a]? = some (.cells i S (0,0)))->(∃i,w.heap[a]? = some (.cells i T (0,0)))->S=T:=by
  rintro a S T ⟨c1,h1⟩ ⟨c2,J⟩;rw[h1]at J;injection J with J;injection J
 rcases Ig hk with⟨rfl,rfl,rfl,rfl⟩|⟨rfl,rfl,rfl,rfl⟩|⟨rfl,rfl,H,rfl⟩<;>rcases Ig a0 with⟨rfl,rfl,rfl,e⟩|⟨rfl,rfl,rfl,e⟩|⟨rfl,rfl,G,e⟩
 .exact⟨rfl,rfl,rfl⟩
 .rw[e]at u;exact ch (two u W) (by decide)
 .rw[e]at u;exact ch (two u (Z _ G)) (by decide)
 .rw[<-e]at u;exact ch (two u W) (by decide)
 .exact⟨rfl,rfl,rfl⟩
 .rw[e]at W;exact ch (two W (Z _ G)) (by decide)
 .rw[<-e]at u;exact ch (two u (Z _ H)) (by decide)
 .rw[<-e]at W;exact ch (two W (Z _ H)) (by decide)
 have:y=y':=by
  rcases Nat.lt_trichotomy y y' with h|h|h
  .have:=(Y y' G).2 y h;omega
  .exact h
  have:=(Y y H).2 y' h;omega
 exact⟨rfl,this,rfl⟩
end
structure L5(d:Dp) (s:ByteArray) (n q wk t:Nat):Prop where
 n:d.n=n
 qn:d.qn=q
 wk:d.wk=wk
 mt:d.mt=t
 nf:d.nf=M.bt s 0
 rg:∀k,d.rg k=M.bt s (M.pos s k)
 len:∀k,d.len k=M.bt s (M.pos s k+1)
 ins:∀k i,d.ins k i=pH s (M.pos s k+2+4*i)
def Mu(s:ByteArray)(n q wk t:Nat)(w:World)(e:Ending)(w':World):Prop:=Below w.heap.size w w'/\∃d g,e=.returned (.tuple #[P0 g.mb,.agg #[.int .i64 0,.int .i64 0]])/\L5 d s n q wk t/\dQ d (xu.born 0 (0,0) (0,0)) g w'/\∀k,ey d (xu.born 0 (0,0) (0,0)) g k->w.heap.size<=k
theorem Jg(s:ByteArray)(c0 c1 J G:Nat)(w:World)(hs:s.size<=maxLen)(aE:s.size<=140737488355328)(g0:1<=c0)(g1:c0<=200)(g2:1<=c1)(g3:c1<=50)(g4:1<=J)(g5:J<=50)(g6:1<=G)(g7:G<=16)(aA:(M.jO s).2=true): Calls prog 31 #[.string s,.agg #[.int .i64 c0,.int .i64 c1,.int .i64 J,.int .i64 G]] w λe w'=>Mu s c0 c1 J G w e w':=by
 have HS:Hid (s.size<=maxLen):=hs;have a5:=az aA;have b0:decide ((c0:Int)<1)=false:=by simp;omega
 have b1:decide (200<(c0:Int))=false:=by simp;omega
 have b2:decide ((c1:Int)<1)=false:=by simp;omega
 have b3:decide (50<(c1:Int))=false:=by simp;omega
 have b4:decide ((J:Int)<1)=false:=by simp;omega
 have b5:decide (50<(J:Int))=false:=by simp;omega
 have b6:decide ((G:Int)<1)=false:=by simp;omega
 have b7:decide (16<(G:Int))=false:=by simp;omega
 clear hs aA;go_in;go_wp2_with fail
 refine(pr s _ HS aE a5).mono ?_;rintro e w1 ⟨gb,cp,cbs,ccs,rfl,hR,hC,hB⟩;obtain⟨hc,hf⟩:=qL hB;have hz:=hB.size;simp at hz;have H:=az ((((eM _ _).alloc (bj _) _).alloc (by simp) _).trans (hB.mono (by simp;omega)));have KR:=az hR;have KC:=az hC;have d0:w1.cell? ⟨w.heap.size+1,0,none⟩=some (.int .i64 0):=by rw[hc _ _ (by simp)];simp[go_sem]
 have d1:w1.cell? ⟨w.heap.size+1,1,none⟩=some (.int .i64 0):=by rw[hc _ _ (by simp)];simp[go_sem]
 have e0:w1.frozen? ⟨w.heap.size+1,0,none⟩=false:=by rw[hf _ _ (by simp)];simp[go_sem]
 have e1:w1.frozen? ⟨w.heap.size+1,1,none⟩=false:=by rw[hf _ _ (by simp)];simp[go_sem]
 have a0:w1.cell? ⟨w.heap.size,0,none⟩=some (.int .i64 c0):=by rw[hc _ _ (by simp;omega)];simp[go_sem]
 have a1:w1.cell? ⟨w.heap.size,1,none⟩=some (.int .i64 c1):=by rw[hc _ _ (by simp;omega)];simp[go_sem]
 have a2:w1.cell? ⟨w.heap.size,2,none⟩=some (.int .i64 J):=by rw[hc _ _ (by simp;omega)];simp[go_sem]
 have a3:w1.cell? ⟨w.heap.size,3,none⟩=some (.int .i64 G):=by rw[hc _ _ (by simp;omega)];simp[go_sem]
 clear hc hf hB b0 b1 b2 b3 b4 b5 b6 b7 g0 g1 g2 g3 g4 g5 g6 g7 hR hC
 have n1:=(nJ a5).1;have aB:=pK ((nJ a5).2.2 0 n1);have r1:=M.fK aB.1;have a4:=az (ay n1 r1);clear n1 aB r1;have a8:Hid (w.heap.size+2<=gb/\gb<w1.heap.size):=by
  have h1:=dA KR gb rfl;have h2:=h1.1;simp at h2;exact⟨by omega,h1.2.1⟩
 have a9:Hid (∀i,i<M.bt s 0->w.heap.size+2<=cbs i/\cbs i<w1.heap.size):=λi hi=>by
  have h1:=KC.lt hi;have h2:=h1.1;simp at h2;exact⟨by omega,h1.2⟩
 have a6:Hid (dQ (BN s c0 c1 J G gb cp cbs ccs) xu (IB w1.heap.size) (w1.alloc (.cells #[.slice (some ⟨gb,0,none⟩) (M.bt s 0) cp,.int .i64 c0,.int .i64 c1,.int .i64 J,.int .i64 G,.int .i64 0,.slice none 0 0,.slice none 0 0,.slice none 0 0,.slice none 0 0,.slice none 0 0,.slice none 0 0,.slice none 0 0,.int .i64 0,.bool false,.slice none 0 0,.int .i64 0,.bool false,.int .i64 0,.int .i64 0,.int .i64 0,.int .i64 0,.int .i64 0,.bool false] 112))):=by
  refine Jb ⟨_,bf w1 _,rfl,λj hj=>?_⟩ (dD KR (λk W=>ak _ _ _ (dA KR k W).2.1)) (KC.of (λi hi=>ak _ _ _ (KC.lt hi).2));have hc:j=0\/j=1\/j=2\/j=3\/j=4\/j=5\/j=6\/j=7\/j=8\/j=9\/j=10\/j=11\/j=12\/j=13\/j=14\/j=15\/j=16\/j=17\/j=18\/j=19\/j=20\/j=21\/j=22\/j=23:=by omega
  rcases hc with rfl|rfl|rfl|rfl|rfl|rfl|rfl|rfl|rfl|rfl|rfl|rfl|rfl|rfl|rfl|rfl|rfl|rfl|rfl|rfl|rfl|rfl|rfl|rfl<;>rfl
 have Z:Hid (∀k,ey (BN s c0 c1 J G gb cp cbs ccs) xu (IB w1.heap.size) k->w.heap.size+2<=k):=by
  rintro k ⟨x,y,z,W⟩;rcases Ig W with⟨_,_,_,rfl⟩|⟨_,_,_,rfl⟩|⟨_,_,hy,rfl⟩
  .omega
  .exact a8.1
  exact(a9 y hy).1
 clear KR KC a8 a9;go_wp2_with fail
 refine(GN (f:=0) (u:=(0,0)) (v:=(0,0)) a6 a4.1 a4.2.2.1 a4.2.2.2 (by decide) (by decide)).mono ?_;rintro e w3 ⟨rfl,g',hT,_⟩;have hO:=hT.o;have aD:=hO.size;simp at aD;have hn1:¬ey (BN s c0 c1 J G gb cp cbs ccs) xu (IB w1.heap.size) (w.heap.size+1):=λh=>by have:=Z _ h;omega
 have Y:w3.heap[w.heap.size+1]? = w1.heap[w.heap.size+1]?:=(hO.same (by simp;omega) hn1).trans (ak _ _ _ (by omega));have q0:w3.cell? ⟨w.heap.size+1,0,none⟩=some (.int .i64 0):=(aw (a:=⟨w.heap.size+1,0,none⟩) Y).trans d0;have q1:w3.cell? ⟨w.heap.size+1,1,none⟩=some (.int .i64 0):=(aw (a:=⟨w.heap.size+1,1,none⟩) Y).trans d1;have k0:=(dg (a:=⟨w.heap.size+1,0,none⟩) Y).trans e0;have k1:=(dg (a:=⟨w.heap.size+1,1,none⟩) Y).trans e1;have aF:Hid (Below w.heap.size w w3):=⟨hO.1.trans H.os,hO.2.1.trans H.tape,hO.2.2.1.trans H.output,by omega,λk W=>(hO.same (by simp;omega) (λh=>by have:=Z _ h;omega)).trans ((ak _ _ _ (by omega)).trans (H.block k W))⟩;have HT:=az hT;have a7:Hid (∀k,ey (BN s c0 c1 J G gb cp cbs ccs) (xu.born 0 (0,0) (0,0)) g' k->w.heap.size+2<=k):=λk W=>by
  rcases hT.m k W with h|h
  .exact Z k h
  simp at h;omega
 clear hT hO Y hn1 d0 d1 e0 e1 a0 a1 a2 a3 Z H a6 a4
 go_wp2_with fail
 refine da (v:=.tuple #[.pointer (some ⟨w1.heap.size,0,none⟩),.agg #[.int .i64 0,.int .i64 0]]) (by simp[results,results31,go_sem,q0,q1]) rfl ⟨?_,BN s c0 c1 J G gb cp cbs ccs,g',?_,⟨rfl,rfl,rfl,rfl,rfl,λ_=>rfl,λ_=>rfl,λ_ _=>rfl⟩,?_,λk W=>by have:=a7 k W;omega⟩
 .repeat (refine Below.setCell ?_ (by simp) _)
  exact aF
 .have hb:g'.mb=w1.heap.size:=HT.b;rw[hb]
 refine HT.r.only (S:=λk=>k=w.heap.size+1) ?_ (λk W e=>by have:=a7 k W;omega);exact bm (S:=λk=>k=w.heap.size+1) (a:=⟨w.heap.size+1,1,none⟩) (bm (S:=λk=>k=w.heap.size+1) (a:=⟨w.heap.size+1,0,none⟩) (dk _ _) (ag rfl) _) (ag rfl) _
