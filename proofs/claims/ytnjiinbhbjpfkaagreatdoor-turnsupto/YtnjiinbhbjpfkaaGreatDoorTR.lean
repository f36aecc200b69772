import Derived.Test.YtnjiinbhbjpfkaaGreatDoorTM
set_option maxRecDepth 100000
set_option maxHeartbeats 0
set_option linter.all false
namespace Go.Proofs.YtnjiinbhbjpfkaaGreatDoor
open Go.RowKit Go.Proofs.Tryz
namespace F
def Fb.put(f:Fb)(p vg t:Nat):Fb:=⟨λq=>if q=p then vg else f.b q,λq=>if q=p then t else f.k q⟩
def Vs.put(vb:Vs)(p vg t:Nat):Vs:={ vb with f:=vb.f.put p vg t }
def zi(t:Nat):Value:=.int .i64 ((t-1:Nat):Int)
def GI(kd:Nat->Bool)(vb:Fb)(M:Nat->List B.V)(k i t j:Nat)(l:List B.V): eC (eC (eC (jI kd vb M) (k*3) (vz true t)) (k*3+1) (zi t)) (k*3+2) (dA i l.length l.length) j=jI (B.mark kd (k+1)) (vb.put (k+1) i t) (B.lay M (k+1) (l)) j:=by
 by_cases o:j=k*3+2
 .grind[gO,uu,B.kh,B.iB,qo,Fb.put]
 rw[eN _ _ _ _ o];by_cases u:j=k*3+1
 .grind[gO,A2,B.kh,E9,zi,Fb.put]
 rw[eN _ _ _ _ u];by_cases y:j=k*3
 .grind[gO,A3,B.kh,Fb.put]
 rw[eN _ _ _ _ y];have e:j / 3+1≠k+1:=ag
 simp_all[jI,B.fZ,B.gh,Fb.put,au]
def yz{w w':aa}{pb n k o t:Nat}{l:List B.V}{on:Nat->Bool}{f:Fb}{M:Nat->List B.V}(h:oW w pb n on f M)(J:l.length<=8)(ht:t≠0->l.length=1)(W:Full w' o 149 (l.length*2) (l.length*2) (eQ (λi=>l.getD i (0,0))))(hn:∀p,1<=p->p<=n->on p=true->f.b p≠o)(hP:Full w' pb 228 (n*3) (n*3) (eC (eC (eC (jI on f M) (k*3) (vz true t)) (k*3+1) (zi t)) (k*3+2) (dA o l.length l.length)))(H:∀p,1<=p->p<=n->on p=true->w'.heap[f.b p]? = w.heap[f.b p]?): oW w' pb n (B.mark on (k+1)) (f.put (k+1) o t) (B.lay M (k+1) (l)):=by
 refine⟨hP.congr (λj _=>GI on f M k o t j l),λp a c d=>?_,λp q a c d e g i j=>?_,λp a=>?_,λp a y=>?_⟩
 .by_cases e:p=k+1
  .subst e;simp only[Fb.put,if_true,B.iB];refine W.congr (λj _=>?_);simp[eQ,lM,B.iB]
  rw[B.fZ _ _ _ e]at d;simp only[Fb.put,au e];unfold lM;rw[B.gh _ _ _ _ e];exact(h.s p a c d).block (H p a c d)
 .have j:(if p=k+1 then o else f.b p)=(if q=k+1 then o else f.b q):=j;by_cases G:p=k+1
  .by_cases u:q=k+1
   .omega
   rw[bf G,au u]at j;grind[B.fZ,absurd]
  by_cases u:q=k+1
  .simp_all[au,bf,B.fZ,dp]
  rw[au G,au u]at j;grind[B.fZ,F.oW.i]
 .by_cases e:p=k+1
  .grind[B.iB]
  rw[B.fZ _ _ _ e]at a;rw[B.gh _ _ _ _ e];exact h.l p a
 have y:(if p=k+1 then t else f.k p)≠0:=y;by_cases e:p=k+1
 .simp_all[B.iB,bf]
 rw[B.fZ _ _ _ e]at a;rw[au e]at y;grind[B.gh,F.oW.k]
def IP(nr n:Nat)(s:B.St)(kd kd1:B.Kd):Prop:=
 kd1=kd\/((∀p,1<=p->p<=n->kd.on p=true)/\kd1.cy=none/\kd1.un=kd.un/\kd1.fo=kd.fo+1/\kd1.cc=kd.cc/\∀p,1<=p->p<=n->(kd1.on p=true↔B.Reach nr s p))
def NW(w w':aa)(sb pb eb n nr vg t:Nat)(l:List B.V)(kd:B.Kd)(vb:Vs)(s:B.St)(e:Ending):Prop:=
 dM (rA sb pb n kd vb) w w' /\
 ((∃(k:Nat) (kd1:B.Kd),k<n/\kd1.on (k+1)=false/\B.jO kd1 nr n s/\IP nr n s kd kd1/\e=.returned (.tuple #[.agg #[.int .i64 ((k:Int)+1),.int .i64 0],.bool true])/\kD w' sb pb eb n (B.laid kd1 (k+1)) (vb.put (k+1) vg t) (B.lay s.2.2 (k+1) (l))/\∀x,Own n (B.laid kd1 (k+1)) (vb.put (k+1) vg t) x->Own n kd vb x\/x=vg) \/
  (e=.returned (.tuple #[.agg #[.int .i64 0,.int .i64 0],.bool false])/\(∀p,1<=p->p<=n->B.Reach nr s p)/\∃kd1,kD w' sb pb eb n kd1 vb s.2.2/\B.jO kd1 nr n s/\∀x,Own n kd1 vb x->Own n kd vb x))
def uw{n k u t x:Nat}{kd:B.Kd}{vb:Vs}(h:Own n (B.laid kd (k+1)) (vb.put (k+1) u t) x):Own n kd vb x\/x=u:=by
 rcases h with⟨p,a,b,d,e⟩|⟨H,J⟩
 .by_cases y:p=k+1
  .subst y;right
   have o:(if k+1=k+1 then u else vb.f.b (k+1))=x:=e;grind
  left
  have G:B.mark kd.on (k+1) p=true:=d;rw[B.fZ _ _ _ y]at G;have o:(if p=k+1 then u else vb.f.b p)=x:=e;rw[au y]at o;exact af ⟨p,a,b,G,o⟩
 left
 refine ah ⟨?_,J⟩;have i:(kd.cy.map (λc:B.Cy=>(⟨B.mark c.m (k+1),c.st,c.nx⟩:B.Cy))).isSome=true:=H;grind
def uW(kd:B.Kd)(vb:Vs)(p e t:Nat):zE (B.laid kd p) (vb.put p e t)=zE kd vb:=by
 grind[zE,B.laid,Vs.put,Option.isSome_map]
def Bh(Q:Nat->Prop)(eb sb pb n nr vg t:Nat)(l:List B.V)(kd:B.Kd)(vb:Vs)(s:B.St)(w:aa)(hR:C8 w Q eb sb pb n nr kd vb s)(hv:Full w vg 149 (l.length*2) (l.length*2) (eQ (λi=>l.getD i (0,0))))(aI:l.length<=8)(ht:t≠0->l.length=1)(c4:¬Own n kd vb vg): Calls prog 199 #[P0 sb,.agg #[vz true t,zi t,dA vg l.length l.length]] w λe w'=>NW w w' sb pb eb n nr vg t l kd vb s e:=by
 have KR:=bj hR;have hn:=hR.n2;have lp:=hR.hs.p.p.lt;have ls:=ch hR.hs.b;have HV:=bj hv;have bN:=bj c4;have HT:=bj ht;obtain⟨ya,b8⟩:∃y:Int,vz true t=dy y:=⟨_,rfl⟩;obtain⟨yb,b7⟩:∃y:Int,zi t=aj y:=⟨_,rfl⟩;rw[b8,b7];have bU:=bj b8;have c3:=bj b7;go_in;go_wp2_with fail
 generalize hW:(w.alloc (.cells #[dy ya,aj yb,dA vg l.length l.length] 228)).alloc (.cells #[aj 0,aj 0] 149)=w1;have aO:Hid (w.grownBy w1 none):=by rw[<-hW];exact ax (ak _ _ _) _
 have x0:w1.heap[w.heap.size]? = some (.cells #[dy ya,aj yb,dA vg l.length l.length] 228 (0,0)):=by rw[<-hW,av _ _ _ eB];exact bl w _
 have x1:w1.heap[w.heap.size+1]? = some (.cells #[aj 0,aj 0] 149 (0,0)):=by
  rw[<-hW];have:=bl (w.alloc (.cells #[dy ya,aj yb,dA vg l.length l.length] 228)) (.cells #[aj 0,aj 0] 149);simpa using this
 have aL:=bj (bh x0 x1);have aK:=bj (KR.kept aO);refine(qf sb pb n kd.on vb.f s.2.2 w1 aK.hs.c0 aK.hs.p hn).mono ?_;rintro e w2 ⟨a7,⟨k,hk,aR,rfl⟩|⟨a4,rfl⟩⟩
 .have aH:=bj (ar aO a7);have H:=bj (aK.hs.kept a7);have aJ:=bj (bh (da a7 aL.1 im) (da a7 aL.2 im));have HQ:Hid (k<n/\kd.on (k+1)=false/\B.jO kd nr n s/\IP nr n s kd kd):=⟨hk,aR,KR.hh,af rfl⟩;have bM:Hid (dM (rA sb pb n kd vb) w w2):=ep aH;have bR:=bj (HV.block (aH.block vg HV.lt im));have a3:Hid (∀x,Own n kd vb x->Own n kd vb x):=λ_ h=>h;obtain⟨p0,z0⟩:=H.p.p.cells (k*3) ag;obtain⟨p1,z1⟩:=H.p.p.cells (k*3+1) ag;obtain⟨p2,z2⟩:=H.p.p.cells (k*3+2) ag;generalize jI kd.on vb.f s.2.2 (k*3)=y0 at p0;generalize jI kd.on vb.f s.2.2 (k*3+1)=y1 at p1;generalize jI kd.on vb.f s.2.2 (k*3+2)=y2 at p2;have s0:=H.c0;have cF:(k:Int)<n:=ag
  have c8:¬((k:Int)<0):=ag
  have a6:=aJ.1;have Y:=aJ.2;have b0:dS w2 w.heap.size 0=some (dy ya):=fy a6
  have b1:dS w2 w.heap.size 1=some (aj yb):=fy a6
  have b2:dS w2 w.heap.size 2=some (dA vg l.length l.length):=fy a6
  have np:¬w.heap.size+1=pb:=ag
  have aY:¬pb=w.heap.size+1:=ag
  go_wp2
  go_region
  generalize a5:World.drew (((w2.setCell (ay pb (k*3)) (dy ya)).setCell (ay pb (k*3+1)) (aj yb)).setCell (ay pb (k*3+2)) (dA vg l.length l.length))=w5;have a1:∀x,x≠pb->w5.heap[x]? = w2.heap[x]?:=by
   intro x o;rw[<-a5];show(World.setCell _ _ _).heap[x]? = _;rw[ab _ _ _ _ o,ab _ _ _ _ o,ab _ _ _ _ o]
  have b6:Hid (Full w5 pb 228 (n*3) (n*3) (eC (eC (eC (jI kd.on vb.f s.2.2) (k*3) (dy ya)) (k*3+1) (aj yb)) (k*3+2) (dA vg l.length l.length))):=by
   show Full _ _ _ _ _ _;rw[<-a5];exact((H.p.p.eC (k*3) (dy ya)).eC (k*3+1) (aj yb)).eC (k*3+2) (dA vg l.length l.length)
  have aU:Hid (dM (rA sb pb n kd vb) w w5):=by
   show dM _ _ _;rw[<-a5];exact sq (bp (bp (bp bM (af (ah (af rfl))) _) (af (ah (af rfl))) _) (af (ah (af rfl))) _)
  have aX:=bj ((a1 _ np).trans Y);have aP:=bj ((a1 sb H.kI.1).trans H.b);have bW:=bj a1;have bJ:=bj (bR.block (a1 vg (by obtain⟨cu,h,_⟩:=bR;obtain⟨cG,h',_⟩:=H.p.p;exact eE h h' ek)));have aW:=bj (yz H.p aI HT bJ (λp a c d e=>bN (by rw[<-e];exact a3 _ (af ⟨p,a,c,d,rfl⟩))) (by rw[bU.out,c3.out];exact b6) (λp a c d=>a1 _ (H.kI.2 _ (af ⟨p,a,c,d,rfl⟩)).2));go_wp2_with fail
  refine du (FF k ag _) λu aC=>?_;have G:=da aC aP im;have a0:=da aC aX im;have a2:=bj aC;have aF:=bj G;have d2:dS u sb 2=some (zE kd vb):=fy G
  have r0:dS u (w.heap.size+1) 0=some (aj 0):=fy a0
  have r1:dS u (w.heap.size+1) 1=some (aj 0):=fy a0
  have t0:u.frozen? (ay (w.heap.size+1) 0)=false:=qE a0
  have t1:u.frozen? (ay (w.heap.size+1) 1)=false:=qE a0
  have bV:=ch G;have bG:=ch a0;rcases hcy:kd.cy with _|c
  .rw[oa hcy]at d2;have a8:=bj hcy;go_wp2
   refine dg (v:=.tuple #[.agg #[aj ((k:Int)+1),aj 0],.bool true]) (by simp[results,results199,go_sem,r0,r1,bG]) rfl ?_;have W:∀x,x≠w.heap.size+1->x<u.heap.size->(((u.setCell (ay (w.heap.size+1) 0) (aj ((k:Int)+1))).setCell (ay (w.heap.size+1) 1) (aj 0)).alloc (.cells #[aj ((k:Int)+1),aj 0] 149)).heap[x]? = u.heap[x]?:=λx o hl=>by
    rw[av _ _ _ (by simp[World.setCell];exact hl),ab _ _ _ _ o,ab _ _ _ _ o]
   have aD:=λx h=>KR.hs.lt x (a3 x h);have b5:=HV.lt;refine⟨?_,af ⟨k,kd,HQ.1,HQ.2.1,HQ.2.2.1,HQ.2.2.2,rfl,⟨?_,?_,λc hc=>?_⟩,λx o=>(uw o).imp (a3 x) id⟩⟩
   .exact gP (bp (bp (aU.iW a2) (ah eB) _) (ah eB) _) _
   .rw[uW];exact(W sb ag ag).trans aF
   .refine (aW.kept a2).block (W pb aY ag) (λp a c d=>?_);by_cases e:p=k+1
    .simp only[Fb.put,bf e];exact W vg ag ag
    simp only[Fb.put,au e];rw[B.fZ _ _ _ e]at d;have:=aD _ (af ⟨p,a,c,d,rfl⟩);exact W _ ag ag
   have aE:kd.cy.map (λc:B.Cy=>(⟨B.mark c.m (k+1),c.st,c.nx⟩:B.Cy))=some c:=hc;rw[a8.out]at aE;cases aE
  rw[n9 hcy]at d2;have a8:=bj hcy;have bD:=((H.c c a8).block (λx o=>bW x (H.kI.2 x (ah ⟨jx a8.out,o⟩)).2)).kept a2;have cH:=bj bD;have aD:=λx h=>KR.hs.lt x (a3 x h);have bP:=bj aD;have cS:=aD _ (ah ⟨jx a8.out,ah (af rfl)⟩);have cL:=bj (da a2 aX im);have cB:Hid (mV (u.alloc (.cells #[aj ((k:Int)+1),aj 0] 149)).drew vb.cb vb.rd sb n vb.ad vb.cap c):=(bD.kept (ak u (.cells #[aj ((k:Int)+1),aj 0] 149) none)).block (λ_ _=>rfl);have cK:Hid (∀w8:aa,(u.alloc (.cells #[aj ((k:Int)+1),aj 0] 149)).drew.grownBy w8 (some vb.rd)->u.grownBy w8 (some vb.rd)/\dS w8 (w.heap.size+1) 0=some (aj 0)/\dS w8 (w.heap.size+1) 1=some (aj 0)/\w8.frozen? (ay (w.heap.size+1) 0)=false/\w8.frozen? (ay (w.heap.size+1) 1)=false/\w.heap.size+1<w8.heap.size/\dS w8 u.heap.size 0=some (aj ((k:Int)+1))/\dS w8 u.heap.size 1=some (aj 0)/\u.heap.size<w8.heap.size):=by
   intro w8 a9;have aG:=ar (ak u (.cells #[aj ((k:Int)+1),aj 0] 149) _) ⟨a9.os,a9.tape,a9.output,a9.size,a9.block⟩;have aQ:=da aG cL (by intro e;injection e with e;omega);have cQ:u.heap.size+1<=w8.heap.size:=by have:=a9.size;simpa[World.drew] using this
   have c6:=(a9.block u.heap.size (by simp[World.drew]) (by intro e;injection e with e;omega)).trans (bl u _);exact⟨aG,fy aQ,fy aQ,qE aQ,qE aQ,ch aQ,fy c6,fy c6,ag⟩
  go_wp2
  go_region_with (go_at_call 221;refine du (CE vb.cb vb.rd sb n k vb.ad vb.cap c 0 _ cB hk hn) ?_;rintro w8 ⟨bQ,a9⟩;obtain⟨aG,q0,q1,v0,v1,cP,n0,n1,cR⟩:=cK w8 a9;have bO:=bj aG;have cJ:=bj bQ;clear a9 aG bQ)
  all_goals
   go_wp2
   refine dg (v:=.tuple #[.agg #[aj ((k:Int)+1),aj 0],.bool true]) (by simp[results,results199,go_sem,q0,q1]) rfl ?_;have W:∀x,x≠w.heap.size+1->((w8.setCell (ay (w.heap.size+1) 0) (aj ((k:Int)+1))).setCell (ay (w.heap.size+1) 1) (aj 0)).heap[x]? = w8.heap[x]?:=λx o=>by
    rw[ab _ _ _ _ o,ab _ _ _ _ o]
   have aI:∀x,x<u.heap.size->x≠vb.rd->w8.heap[x]? = u.heap[x]?:=λx o hn=>bO.block x o (by intro e;injection e with e;exact hn e);have b5:=HV.lt;have bC:∀(x:Nat) (bS:Array Value) (T:TypeId),u.heap[x]? = some (.cells bS T (0,0))->T≠4->x≠vb.rd:=λx bS T o hT=>by
    obtain⟨cu,h,_⟩:=cH.r;exact eE o h hT
   refine⟨?_,af ⟨k,kd,HQ.1,HQ.2.1,HQ.2.2.1,HQ.2.2.2,rfl,⟨?_,?_,λc' hc=>?_⟩,λx o=>(uw o).imp (a3 x) id⟩⟩
   .refine bp (bp ((aU.iW a2).then bO (af (ah (ah (a3 _ (ah ⟨jx a8.out,ah (af rfl)⟩)))))) (ah eB) _) (ah eB) _
   .rw[uW];exact((W sb ag).trans (aI sb ag (bC _ _ _ aF ek))).trans aF
   .have bB:=aW.kept a2;refine bB.block ((W pb aY).trans (aI pb ag ?_)) (λp a c d=>?_)
    .obtain⟨cu,h,_⟩:=bB.p;exact bC _ _ _ h ek
    obtain⟨cu,h,_⟩:=bB.s p a c d;have hl:(vb.f.put (k+1) vg t).b p<w.heap.size:=by
     show(if p=k+1 then vg else vb.f.b p)<w.heap.size;by_cases e:p=k+1
     .rw[bf e];exact b5
     rw[au e];rw[B.fZ _ _ _ e]at d;exact bP _ (af ⟨p,a,c,d,rfl⟩)
    exact(W _ ag).trans (aI _ ag (bC _ _ _ h ek))
   have aE:kd.cy.map (λc:B.Cy=>(⟨B.mark c.m (k+1),c.st,c.nx⟩:B.Cy))=some c':=hc;rw[a8.out]at aE;have e:(⟨B.mark c.m (k+1),c.st,c.nx⟩:B.Cy)=c':=by injection aE
   subst e;exact cJ.block (λx o=>W x (by
    have:=bP x (ah ⟨jx a8.out,o⟩);omega))
 have aH:=bj (ar aO a7);have aJ:=bj (bh (da a7 aL.1 im) (da a7 aL.2 im));have aV:=bj (aK.kept a7);have cC:=bj a4;go_wp2_with fail
 refine du (CN Q eb sb pb n nr kd vb s w2 aV) ?_;rintro w3 ⟨on,hm,bA,bI,aS,bY⟩;have Km:=bj (bh hm (bh bA bI));have aN:=bj bY;have b4:Hid (dM (rA sb pb n kd vb) w w3):=(ep aH).trans aS (λx h _=>h.elim af (λh=>ah (af h)));have aZ:=bj (bh (aS.block aJ.1 ag) (aS.block aJ.2 ag));have bL:Hid (Full w3 vg 149 (l.length*2) (l.length*2) (eQ (λi=>l.getD i (0,0)))):=by
  have bE:=HV.block (aH.block vg HV.lt im);refine bE.block (aS.same bE.lt ?_);obtain⟨cM,c7,_⟩:=bE;rintro(h|h)
  .exact eE c7 aV.hs.b ek h
  obtain⟨cN,cD,_⟩:=aV.hs.p.p;exact eE c7 cD ek h
 have a3:Hid (∀x,Own n ⟨on,none,kd.un,kd.fo+1,kd.cc⟩ vb x->Own n kd vb x):=λx o=>by
  rcases o with⟨p,a,b,d,e⟩|⟨h,_⟩
  .exact af ⟨p,a,b,bA p d,e⟩
  cases h
 have bZ:=bj (B.Aq KR.hh bI);go_wp2_with fail
 refine(qf sb pb n on vb.f s.2.2 w3 aN.c0 aN.p hn).mono ?_;rintro e w4 ⟨aA,⟨k,hk,aR,rfl⟩|⟨a4,rfl⟩⟩
 .generalize aB:(⟨on,none,kd.un,kd.fo+1,kd.cc⟩:B.Kd)=Z at *;have b9:Z.on=on:=by rw[<-aB]
  have aM:Hid (Z.cy=none):=by show _=_;rw[<-aB]
  have HQ:Hid (k<n/\Z.on (k+1)=false/\B.jO Z nr n s/\IP nr n s kd Z):=⟨hk,eV b9 aR,bZ,ah ⟨cC,aM,by rw[<-aB],by rw[<-aB],by rw[<-aB],eV b9 Km.1⟩⟩;have J:=bj (aN.kept aA);have bT:=bj (bh (da aA aZ.1 im) (da aA aZ.2 im));have aT:=bj (b4.iW aA);have bX:=bj (bL.block (aA.block vg bL.lt im));obtain⟨p0,z0⟩:=J.p.p.cells (k*3) ag;obtain⟨p1,z1⟩:=J.p.p.cells (k*3+1) ag;obtain⟨p2,z2⟩:=J.p.p.cells (k*3+2) ag;generalize jI Z.on vb.f s.2.2 (k*3)=y0 at p0;generalize jI Z.on vb.f s.2.2 (k*3+1)=y1 at p1;generalize jI Z.on vb.f s.2.2 (k*3+2)=y2 at p2;have s0:=J.c0;have cF:(k:Int)<n:=ag
  have c8:¬((k:Int)<0):=ag
  have a6:=bT.1;have Y:=bT.2;have b0:dS w4 w.heap.size 0=some (dy ya):=fy a6
  have b1:dS w4 w.heap.size 1=some (aj yb):=fy a6
  have b2:dS w4 w.heap.size 2=some (dA vg l.length l.length):=fy a6
  have np:¬w.heap.size+1=pb:=ag
  have aY:¬pb=w.heap.size+1:=ag
  go_wp2
  go_region
  generalize a5:World.drew (((w4.setCell (ay pb (k*3)) (dy ya)).setCell (ay pb (k*3+1)) (aj yb)).setCell (ay pb (k*3+2)) (dA vg l.length l.length))=w5;have a1:∀x,x≠pb->w5.heap[x]? = w4.heap[x]?:=by
   intro x o;rw[<-a5];show(World.setCell _ _ _).heap[x]? = _;rw[ab _ _ _ _ o,ab _ _ _ _ o,ab _ _ _ _ o]
  have b6:Hid (Full w5 pb 228 (n*3) (n*3) (eC (eC (eC (jI Z.on vb.f s.2.2) (k*3) (dy ya)) (k*3+1) (aj yb)) (k*3+2) (dA vg l.length l.length))):=by
   show Full _ _ _ _ _ _;rw[<-a5];exact((J.p.p.eC (k*3) (dy ya)).eC (k*3+1) (aj yb)).eC (k*3+2) (dA vg l.length l.length)
  have aU:Hid (dM (rA sb pb n kd vb) w w5):=by
   show dM _ _ _;rw[<-a5];exact sq (bp (bp (bp aT (af (ah (af rfl))) _) (af (ah (af rfl))) _) (af (ah (af rfl))) _)
  have aX:=bj ((a1 _ np).trans Y);have aP:=bj ((a1 sb J.kI.1).trans J.b);have bJ:=bj (bX.block (a1 vg (by obtain⟨cu,h,_⟩:=bX;obtain⟨cG,h',_⟩:=J.p.p;exact eE h h' ek)));have aW:=bj (yz J.p aI HT bJ (λp a c d e=>bN (by rw[<-e];exact a3 _ (af ⟨p,a,c,d,rfl⟩))) (by rw[bU.out,c3.out];exact b6) (λp a c d=>a1 _ (J.kI.2 _ (af ⟨p,a,c,d,rfl⟩)).2));go_wp2_with fail
  refine du (FF k ag _) λu aC=>?_;have G:=da aC aP im;have a0:=da aC aX im;have a2:=bj aC;have aF:=bj G;have d2:dS u sb 2=some (zE Z vb):=fy G
  have r0:dS u (w.heap.size+1) 0=some (aj 0):=fy a0
  have r1:dS u (w.heap.size+1) 1=some (aj 0):=fy a0
  have t0:u.frozen? (ay (w.heap.size+1) 0)=false:=qE a0
  have t1:u.frozen? (ay (w.heap.size+1) 1)=false:=qE a0
  have bV:=ch G;have bG:=ch a0;have a8:=aM;rw[oa aM]at d2;go_wp2
  refine dg (v:=.tuple #[.agg #[aj ((k:Int)+1),aj 0],.bool true]) (by simp[results,results199,go_sem,r0,r1,bG]) rfl ?_;have W:∀x,x≠w.heap.size+1->x<u.heap.size->(((u.setCell (ay (w.heap.size+1) 0) (aj ((k:Int)+1))).setCell (ay (w.heap.size+1) 1) (aj 0)).alloc (.cells #[aj ((k:Int)+1),aj 0] 149)).heap[x]? = u.heap[x]?:=λx o hl=>by
   rw[av _ _ _ (by simp[World.setCell];exact hl),ab _ _ _ _ o,ab _ _ _ _ o]
  have aD:=λx h=>KR.hs.lt x (a3 x h);have b5:=HV.lt;refine⟨?_,af ⟨k,Z,HQ.1,HQ.2.1,HQ.2.2.1,HQ.2.2.2,rfl,⟨?_,?_,λc hc=>?_⟩,λx o=>(uw o).imp (a3 x) id⟩⟩
  .exact gP (bp (bp (aU.iW a2) (ah eB) _) (ah eB) _) _
  .rw[uW];exact(W sb ag ag).trans aF
  .refine (aW.kept a2).block (W pb aY ag) (λp a c d=>?_);by_cases e:p=k+1
   .simp only[Fb.put,bf e];exact W vg ag ag
   simp only[Fb.put,au e];rw[B.fZ _ _ _ e]at d;have:=aD _ (af ⟨p,a,c,d,rfl⟩);exact W _ ag ag
  have aE:Z.cy.map (λc:B.Cy=>(⟨B.mark c.m (k+1),c.st,c.nx⟩:B.Cy))=some c:=hc;rw[a8.out]at aE;cases aE
 have aT:=bj (b4.iW aA);have Y:=da aA aZ.2 im;have r0:dS w4 (w.heap.size+1) 0=some (aj 0):=fy Y
 have r1:dS w4 (w.heap.size+1) 1=some (aj 0):=fy Y
 have t0:w4.frozen? (ay (w.heap.size+1) 0)=false:=qE Y
 have t1:w4.frozen? (ay (w.heap.size+1) 1)=false:=qE Y
 have HQ:=bj (bh Km a4);have J:=bj (aN.kept aA);go_wp2
 refine dg (v:=.tuple #[.agg #[aj 0,aj 0],.bool false]) (by simp[results,results199,go_sem,r0,r1]) rfl ?_;have aD:=λx h=>KR.hs.lt x (a3 x h);refine⟨?_,ah ⟨rfl,λp a c=>(HQ.1.1 p a c).1 (HQ.2 p a c),_,J.block ?_ ?_ (λx o=>?_),bZ,a3⟩⟩
 .repeat (first|exact aT|refine bp ?_ (ah eB) _)
 .rw[ab _ _ _ _ (by show sb≠w.heap.size+1;omega),ab _ _ _ _ (by show sb≠w.heap.size+1;omega)]
 .rw[ab _ _ _ _ (by show pb≠w.heap.size+1;omega),ab _ _ _ _ (by show pb≠w.heap.size+1;omega)]
 have:=aD x o;rw[ab _ _ _ _ (by show x≠w.heap.size+1;omega),ab _ _ _ _ (by show x≠w.heap.size+1;omega)]
end F
section
def IN(w w7:aa)(eb sb pb ac g nf n:Nat)(q wk t:Int):Prop:=w.heap.size<=eb/\w.heap.size<=sb/\w.heap.size<=pb/\w.heap.size<=ac/\Below w.heap.size w w7/\(∀k x,(nJ (ac+1))[k]? = some x->w7.heap[ac+1+k]? = some (.cells #[x.1] x.2 (0,0)))/\kD w7 sb pb eb n B.G0 BJ (λ_=>[])/\Full w7 eb 144 44 44 (eC (CR (.slice (some ⟨g,0,none⟩) nf nf) q wk t ac) 27 (P0 sb))
def Hl(g nf:Nat)(c1 c2 c3:Int)(J:Nat)(R:Nat->aa->Prop)(w:aa)(aQ:1<=J)(aG:J<=200)(H:∀w7 eb sb pb ac,IN w w7 eb sb pb ac g nf J c1 c2 c3->Calls prog 60 #[P0 eb,aj 0,vA (0,0),vA (0,0)] w7 λe w'=>(∃x:Int,e=.returned (aj x))/\Below w.heap.size w7 w'/\R eb w'): Calls prog 38 #[dA g nf nf,.agg #[aj J,aj c1,aj c2,aj c3]] w λe w'=>∃eb,e=.returned (P0 eb)/\Below w.heap.size w w'/\R eb w':=by
 change Hid _ at H;go_in;go_wp2_with fail
 generalize o:w.alloc (.cells #[aj J,aj c1,aj c2,aj c3] 23)=w1;have aB:w1.heap.size=w.heap.size+1:=by rw[<-o];simp
 have b0:dS w1 w.heap.size 0=some (aj J):=by rw[<-o];simp[go_sem]
 have b1:dS w1 w.heap.size 1=some (aj c1):=by rw[<-o];simp[go_sem]
 have b2:dS w1 w.heap.size 2=some (aj c2):=by rw[<-o];simp[go_sem]
 have b3:dS w1 w.heap.size 3=some (aj c3):=by rw[<-o];simp[go_sem]
 have a7:Hid (Below w.heap.size w w1):=by show Below _ _ _;rw[<-o];exact(fQ _ _).alloc (bq _) _
 clear o;generalize hN:w.heap.size=N at *;have l0:N<w1.heap.size:=ag
 have hS:Hid (w1.drew.heap.size=N+1):=aB;go_cut [5] from 6 to 15 (λx wx=>∃(w2:aa),x=P0 w2.heap.size/\wx=w2.alloc (.cells (zm (dA g nf nf) c1 c2 c3 (N+1)) 144)/\Hid (Below w1.heap.size w1 w2)/\w2.heap.size=N+34/\Hid (∀k x,(nJ (N+1+1))[k]? = some x->w2.heap[N+1+1+k]? = some (.cells #[x.1] x.2 (0,0))))
 case first=>
  go_region_with (go_at_call 57;refine du (C4 (N+1) w1.drew hS) ?_;rintro w2 ⟨i,u,aF⟩;have aU:dS w2 N 1=some (aj c1):=((i.cell (p:=ay N 1) l0).trans b1);have aR:dS w2 N 2=some (aj c2):=((i.cell (p:=ay N 2) l0).trans b2);have aV:dS w2 N 3=some (aj c3):=((i.cell (p:=ay N 3) l0).trans b3);have Y:=bj aF;clear aF)
  all_goals
   go_wp2
   go_meet
   case rel=>exact⟨w2,by rw[u],rfl,⟨i.os,i.tape,i.output,i.size,i.block⟩,u,Y⟩
 case rest=>
  obtain⟨w2,rfl,y,i,u,Y⟩:=hcut;have aY:wc.heap.size=N+35:=by rw[y];simp;omega
  have a9:Hid (Below N w wc):=by
   show Below _ _ _;rw[y];exact(a7.trans (i.mono ag)).alloc ag _
  have aD:Hid (∀k x,(nJ (N+1+1))[k]? = some x->wc.heap[N+1+1+k]? = some (.cells #[x.1] x.2 (0,0))):=λk x hx=>by
   have:=Y k x hx;rw[y,av _ _ _ (ch this)];exact this
  have aJ:dS wc N 0=some (aj J):=by
   have e1:dS wc N 0=dS w2 N 0:=by rw[y];exact az (av _ _ _ (by show N<_;omega))
   rw[e1];exact(i.cell (p:=ay N 0) l0).trans b0
  have a6:wc.heap[N+34]? = some (.cells (zm (dA g nf nf) c1 c2 c3 (N+1)) 144 (0,0)):=by rw[y,<-u];exact bl _ _
  have a2:=bj (CQ a6);obtain⟨a3,aP⟩:=a2.cells 27 ag;have a3:dS wc (N+34) 27=some (.pointer none):=a3;rw[u];clear y a6 i b0 b1 b2 b3 a7 aB l0 hS u Y;generalize hE:N+34=eb at *;go_wp2_with fail
  refine(xB J eb aQ aG _).mono ?_;rintro e w4 ⟨sb,pb,rfl,G,aW,aZ,aE⟩;have aT:=G.size;have a0:=bj (a2.block (G.block eb ag im));obtain⟨a1,aO⟩:=a0.cells 27 ag;have a1:dS w4 eb 27=some (.pointer none):=a1;have a8:Hid (Below N w w4):=a9.trans ((uZ G).mono ag);have W:=bj aE;have a4:Hid (∀k x,(nJ (N+1+1))[k]? = some x->w4.heap[N+1+1+k]? = some (.cells #[x.1] x.2 (0,0))):=λk x hx=>dv G (aD k x hx);have aS:eb<w4.heap.size:=ag
  clear G aE a3 aP a2 a9 aD aJ;go_wp2_with fail
  refine du (fG 0 _) ?_;rintro w5 rfl;go_wp2_with fail
  refine du (fG 0 _) ?_;rintro w6 rfl;go_wp2_with fail
  generalize hW:((w4.setCell (ay eb 27) (P0 sb)).alloc (.cells #[aj 0,aj 0] 149)).alloc (.cells #[aj 0,aj 0] 149)=w7;have aX:w7.heap.size=w4.heap.size+2:=by rw[<-hW];simp[World.setCell]
  have Z:∀k,k<w4.heap.size->k≠eb->w7.heap[k]? = w4.heap[k]?:=λk hk aM=>by rw[<-hW,av _ _ _ (by simp[World.setCell];omega),av _ _ _ (by simp[World.setCell];omega),ab _ _ _ _ aM]
  have aH:Hid (Full w7 eb 144 44 44 (eC (CR (dA g nf nf) c1 c2 c3 (N+1)) 27 (P0 sb))):=by
   show Full _ _ _ _ _ _;rw[<-hW];exact((a0.eC 27 _).block (av _ _ _ (by simp[World.setCell];omega))).block (av _ _ _ (by simp[World.setCell];omega))
  have aC:Hid (Below N w w7):=by
   show Below _ _ _;rw[<-hW];exact((a8.setCell (by show N<=eb;omega) _).alloc (by simp[World.setCell];omega) _).alloc (by simp[World.setCell];omega) _
  have aN:Hid (kD w7 sb pb eb J B.G0 BJ (λ_=>[])):=W.block (Z sb (ch W.b) ag) (Z pb W.p.p.lt ag) (λk hk=>by
   rcases hk with⟨p,_,_,h,_⟩|⟨h,_⟩
   .cases h
   cases h)
  have aI:Hid (∀k x,(nJ (N+1+1))[k]? = some x->w7.heap[N+1+1+k]? = some (.cells #[x.1] x.2 (0,0))):=λk x hx=>by
   have h:=a4 k x hx;refine(Z _ (ch h) ?_).trans h;intro e;rw[e]at h;obtain⟨c5,h5,h6,_⟩:=a0;rw[h5]at h;injection h with h;injection h with h _ _
   rw[h]at h6;simp at h6
  clear hW Z a0 a8 W a4 a1 aO;have aL:Hid (IN w w7 eb sb pb (N+1) g nf J c1 c2 c3):=⟨ag,ag,ag,ag,eV hN aC,aI,aN,aH⟩;refine(H w7 eb sb pb (N+1) aL).mono ?_;rintro e w8 ⟨⟨x,rfl⟩,aA,a5⟩;have aK:Hid (Below N w w8):=aC.trans aA;have HR:=bj a5;clear aA a5;go_wp2
  go_ret;exact⟨eb,rfl,eV hN aK,HR⟩
end
namespace F
variable {eb nr pb sb t:Nat}{l:List B.V}{s:B.St}{v:Value}{vb:Vs}{w w':aa}
def Laid(w w':aa)(sb pb eb n nr t:Nat)(l:List B.V)(kd:B.Kd)(vb:Vs)(s:B.St)(v:Value):Prop:=
 (∃(k vg:Nat) (kd1:B.Kd),k<n/\kd1.on (k+1)=false/\B.jO kd1 nr n s/\IP nr n s kd kd1/\v=.tuple #[.agg #[.int .i64 ((k:Int)+1),.int .i64 0],.bool true]/\kD w' sb pb eb n (B.laid kd1 (k+1)) (vb.put (k+1) vg t) (B.lay s.2.2 (k+1) l)/\pW n kd vb (B.laid kd1 (k+1)) (vb.put (k+1) vg t) w.heap.size) \/
 (v=.tuple #[.agg #[.int .i64 0,.int .i64 0],.bool false]/\(∀p,1<=p->p<=n->B.Reach nr s p)/\∃kd1,kD w' sb pb eb n kd1 vb s.2.2/\B.jO kd1 nr n s/\pW n kd vb kd1 vb w.heap.size)
def Laid.pre{w0:aa}{n:Nat}{kd:B.Kd}(hz:w0.heap.size<=w.heap.size)(h:Laid w w' sb pb eb n nr t l kd vb s v):Laid w0 w' sb pb eb n nr t l kd vb s v:=by
 rcases h with⟨k,Y,e,o,J,H,i,G,u,W⟩|⟨o,J,e,H,G,u⟩
 .exact af ⟨k,Y,e,o,J,H,i,G,u,λx y=>(W x y).imp id (λh=>dU hz h)⟩
 exact ah ⟨o,J,e,H,G,λx y=>(u x y).imp id (λh=>dU hz h)⟩
def Laid.form{n:Nat}{kd:B.Kd}(h:Laid w w' sb pb eb n nr t l kd vb s v):∃(x:Int) (o:Bool),v=.tuple #[.agg #[aj x,aj 0],.bool o]:=by
 rcases h with⟨k,H,e,u,G,y,_,i,_⟩|⟨h,_⟩
 .grind
 grind
def xg(Q:Nat->Prop)(eb sb pb n nr b:Nat)(kd:B.Kd)(vb:Vs)(s:B.St)(w:aa)(hR:C8 w Q eb sb pb n nr kd vb s)(aH:b<=8): Calls prog 157 #[P0 sb,aj b] w λe w'=>∃v,e=.returned v/\dM (rA sb pb n kd vb) w w'/\Laid w w' sb pb eb n nr 0 (List.replicate b (0,0)) kd vb s v:=by
 have KR:=bj hR;have lp:=hR.hs.p.p.lt;have ls:=ch hR.hs.b;have Z:=bj hR.hs.lt;clear hR;obtain⟨i0,hi,aF,aB,a9⟩:=info_parts Tryz.tL;go_in;go_wp2_with (at_make;go_loud (refine wpList_make_full _ rfl _ _ 137 rfl 0 149 i0 _ 2 underlying137 hi aF aB _ _ _ _ b rfl rfl rfl rfl eR pY (dk _) ?_))
 intro w3 Y H;have aD:=H.size;have a4:Full w3 (w.heap.size+1) 149 (b*2) (b*2) (eQ (λ_=>(0,0))):=by
  rcases Y.2 with⟨h,_⟩|⟨g',aL,aG,J,h2,h3,h4,h5,h6,h7⟩
  .cases h
  injection J with J _ hc;injection J with J;injection J with J _ _;have aJ:g'=w.heap.size+1:=gG J.symm
  subst aJ hc;refine⟨aG,h3,h6,λj hj=>?_⟩;have e1:=congrArg (λl=>l[j]?) h7;have e2:(madeCells #[aj 0,aj 0] (b*2)).toList[j]? = some (aj 0):=by
   simp only[madeCells,Array.getElem?_toList,Array.getElem?_map,Array.getElem?_range];rw[bf hj];have:j % 2=0\/j % 2=1:=by omega
   rcases this with h|h<;>simp[h]
  simp only[e2,dO]at e1;rw[bf hj]at e1;have e3:eQ (λ_=>((0,0):B.V)) j=aj 0:=by unfold eQ;split<;>rfl
  rw[e3];simpa using e1
 have x3:=da H (show(w.alloc (.cells #[aj 0,aj 0] 149)).heap[w.heap.size]? = _ from bl w _) eR;have a5:=bj (ar (ak _ _ _) H);have a3:=bj a4;have aK:=bj x3;have aA:=bj (KR.kept a5);clear Y H a4 x3;go_wp2_with fail
 have a1:Hid (Full w3 (w.heap.size+1) 149 ((List.replicate b ((0,0):B.V)).length*2) ((List.replicate b ((0,0):B.V)).length*2) (eQ (λi=>(List.replicate b ((0,0):B.V)).getD i (0,0)))):=by
  show Full _ _ _ _ _ _;rw[kV];refine a3.congr (λj _=>?_);unfold eQ;have:(List.replicate b ((0,0):B.V)).getD (j / 2) (0,0)=(0,0):=by
   rw[cr,List.getElem?_replicate];split<;>rfl
  simp only[this]
 have aC:(.agg #[dy 1,aj 0,dA (w.heap.size+1) b b]:Value)=.agg #[vz true 0,zi 0,dA (w.heap.size+1) (List.replicate b ((0,0):B.V)).length (List.replicate b ((0,0):B.V)).length]:=jx kV;rw[aC];refine(Bh Q eb sb pb n nr (w.heap.size+1) 0 (List.replicate b (0,0)) kd vb s w3 aA a1 eR (λh=>dp rfl h) (λh=>by have:=Z _ h;omega)).mono ?_;intro e w4 h4;have a0:=h4.1;obtain⟨x,o,he,a7⟩:∃(x:Int) (o:Bool),e=.returned (.tuple #[.agg #[aj x,aj 0],.bool o])/\∀y:Value,Laid w (w4.setCell (ay w.heap.size 0) y |>.setCell (ay w.heap.size 1) (aj 0)) sb pb eb n nr 0 (List.replicate b (0,0)) kd vb s (.tuple #[.agg #[aj x,aj 0],.bool o]):=by
  have a6:∀(u:B.Kd) (W:Vs) (M:Nat->List B.V) (y:Value),kD w4 sb pb eb n u W M->(∀x,Own n u W x->Own n kd vb x\/x=w.heap.size+1)->kD (w4.setCell (ay w.heap.size 0) y |>.setCell (ay w.heap.size 1) (aj 0)) sb pb eb n u W M:=λu W M y hS hG=>
   hS.block ((ab _ _ _ _ eR).trans (ab _ _ _ _ eR)) ((ab _ _ _ _ eR).trans (ab _ _ _ _ eR)) (λk hk=>by
    have a2:k≠w.heap.size:=by
     rcases hG k hk with h|h
     .have:=Z k h;omega
     omega
    grind[Below.heap_setCell])
  rcases h4.2 with⟨k,u,J,h2,h3,aI,rfl,h5,h6⟩|⟨rfl,h5,u,h6,h7,h8⟩
  .exact⟨_,_,rfl,λy=>af ⟨k,w.heap.size+1,u,J,h2,h3,aI,rfl,a6 _ _ _ y h5 h6,λx G=>(h6 x G).imp id (λh=>by omega)⟩⟩
  exact⟨_,_,rfl,λy=>ah ⟨rfl,h5,u,a6 _ _ _ y h6 (λx G=>af (h8 x G)),h7,λx G=>af (h8 x G)⟩⟩
 subst he;have G:=a0.block aK (by
  rintro(h|h|h)
  .omega
  .omega
  have:=Z _ h;omega)
 have r0:w4.cell? (ay w.heap.size 0)=some (aj 0):=fy G;have r1:w4.cell? (ay w.heap.size 1)=some (aj 0):=fy G;have t0:w4.frozen? (ay w.heap.size 0)=false:=qE G;have t1:w4.frozen? (ay w.heap.size 1)=false:=qE G;have a8:=bj ((ep (S:=rA sb pb n kd vb) a5).trans a0 (λ_ h _=>h));have aE:=bj a7;clear h4 a0 a7 G;go_wp2_with fail
 refine dg (v:=.tuple #[.agg #[aj x,aj 0],.bool o]) (by simp[results,results157,go_sem,r0,r1]) rfl ?_;refine⟨_,rfl,bp (bp a8 (ah eB) _) (ah eB) _,?_⟩;exact aE _
def yH(Q:Nat->Prop)(op a b c fb tb eb sb pb n nr:Nat)(kd:B.Kd)(vb:Vs)(s:B.St)(w:aa)(hR:C8 w Q eb sb pb n nr kd vb s)(aB:b<=8)(a6:w.cell? (ay eb 27)=some (P0 sb))(he:¬rA sb pb n kd vb eb): Calls prog 100 #[ed op a b c fb tb eb] w λe w'=>∃v,e=.returned v/\dM (rA sb pb n kd vb) w w'/\Laid w w' sb pb eb n nr 0 (List.replicate b (0,0)) kd vb s v:=by
 have KR:=bj hR;have le:=gM a6;have lp:=hR.hs.p.p.lt;have ls:=ch hR.hs.b;have a5:=bj hR.hs.lt;have a1:Hid (∀x,w.heap.size<=x->¬rA sb pb n kd vb x):=λx W h=>by
  rcases h with h|h|h
  .omega
  .omega
  have:=a5 x h;omega
 clear hR;go_in;go_wp2_with fail
 generalize hW:(w.alloc (.cells #[dy op,dy a,dy b,dy c,P0 fb,P0 tb,P0 eb] 186)).alloc (.cells #[aj 0,aj 0] 149)=w1;have J:Hid (w.grownBy w1 none):=by rw[<-hW];exact ax (ak _ _ _) _
 have W:w1.heap[w.heap.size]? = some (ju op a b c fb tb eb):=by rw[<-hW,av _ _ _ eB];exact bl w _
 have hr:w1.heap[w.heap.size+1]? = some (.cells #[aj 0,aj 0] 149 (0,0)):=by
  rw[<-hW];have:=bl (w.alloc (.cells #[dy op,dy a,dy b,dy c,P0 fb,P0 tb,P0 eb] 186)) (.cells #[aj 0,aj 0] 149);simpa using this
 clear hW;have HR:=bj hr;have aA:=bj (KR.kept (bo J));obtain⟨x0,x1,x2,x3,x4,x5,x6⟩:=eZ W;have lx:=ch W;have lr:=ch hr;obtain⟨a7,_⟩:=bd J (a:=ay eb 27) le;rw[a6]at a7;have aC:eb<w1.heap.size:=ag
 clear W hr;have HS:∀w':aa,dM (rA sb pb n kd vb) w1 w'->dS w' w.heap.size 6=some (P0 eb)/\dS w' w.heap.size 2=some (dy b)/\dS w' eb 27=some (P0 sb):=by
  intro w' hO;exact⟨(hO.cell (o:=6) lx (a1 _ (bq _))).trans x6,(hO.cell (o:=2) lx (a1 _ (bq _))).trans x2,(hO.cell (o:=27) aC he).trans a7⟩
 change Hid _ at HS;have aG:IntKind.i64.wrap (b:Int)=b:=by simp[IntKind.wrap,IntKind.bits,IntKind.signed];omega
 go_region_held3 (λw'=>dS w' w.heap.size 6=some (P0 eb)/\dS w' w.heap.size 2=some (dy b)/\dS w' eb 27=some (P0 sb)) (first|exact HS _ (dw _ _)|exact HS _ a2|exact a3) (first|(go_at_call 157;refine(xg Q eb sb pb n nr b kd vb s w1.drew aA aB).mono ?_;rintro e H ⟨v,rfl,Y,a0⟩;obtain⟨x,ob,rfl⟩:=a0.form;have a2:Hid (dM (rA sb pb n kd vb) w1 H):=Y;have a9:Hid (Laid w1 H sb pb eb n nr 0 (List.replicate b (0,0)) kd vb s (.tuple #[.agg #[aj x,aj 0],.bool ob])):=a0;have G:=Y.block (k:=w.heap.size+1) HR (a1 _ (Nat.le_succ _));have r0:dS H (w.heap.size+1) 0=some (aj 0):=(by simp[World.cell?,G]);have r1:dS H (w.heap.size+1) 1=some (aj 0):=(by simp[World.cell?,G]);have r2:H.frozen? (ay (w.heap.size+1) 0)=false:=(by simp[World.frozen?,G]);have r3:H.frozen? (ay (w.heap.size+1) 1)=false:=(by simp[World.frozen?,G]);have a3:Hid (dS ((H.setCell (ay (w.heap.size+1) 0) (aj x)).setCell (ay (w.heap.size+1) 1) (aj 0)) w.heap.size 6=some (P0 eb)/\dS ((H.setCell (ay (w.heap.size+1) 0) (aj x)).setCell (ay (w.heap.size+1) 1) (aj 0)) w.heap.size 2=some (dy b)/\dS ((H.setCell (ay (w.heap.size+1) 0) (aj x)).setCell (ay (w.heap.size+1) 1) (aj 0)) eb 27=some (P0 sb)):=(by have h:=HS H Y;exact⟨(az (a:=ay w.heap.size 6) ((ab _ _ _ _ eB).trans (ab _ _ _ _ eB))).trans h.1,(az (a:=ay w.heap.size 2) ((ab _ _ _ _ eB).trans (ab _ _ _ _ eB))).trans h.2.1,(az (a:=ay eb 27) ((ab _ _ _ _ (by show eb≠w.heap.size+1;omega)).trans (ab _ _ _ _ (by show eb≠w.heap.size+1;omega)))).trans h.2.2⟩);clear G Y a0))
 all_goals
  go_wp2
  refine dg (v:=.tuple #[.agg #[aj x,aj 0],.bool ob]) (by simp[results,results100,go_sem,r0,r1]) rfl ?_;refine⟨_,rfl,bp (bp ((ep J).trans a2 (λ_ h _=>h)) (ah eB) _) (ah eB) _,?_⟩;have a4:∀(i:B.Kd) (u:Vs) (M:Nat->List B.V),kD H sb pb eb n i u M->pW n kd vb i u w1.heap.size->∀x,Own n i u x->x≠w.heap.size+1:=λi u M hS hG x W=>by
   rcases hG x W with h|h
   .have:=a5 x h;omega
   omega
  have a8:∀(i:B.Kd) (u:Vs) (M:Nat->List B.V) (y z:Value),kD H sb pb eb n i u M->pW n kd vb i u w1.heap.size->kD ((H.setCell (ay (w.heap.size+1) 0) y).setCell (ay (w.heap.size+1) 1) z) sb pb eb n i u M:=λi u M y z hS hG=>
   hS.block ((ab _ _ _ _ (by show sb≠w.heap.size+1;omega)).trans (ab _ _ _ _ (by show sb≠w.heap.size+1;omega))) ((ab _ _ _ _ (by show pb≠w.heap.size+1;omega)).trans (ab _ _ _ _ (by show pb≠w.heap.size+1;omega))) (λk hk=>(ab _ _ _ _ (a4 _ _ _ hS hG k hk)).trans (ab _ _ _ _ (a4 _ _ _ hS hG k hk)))
  rcases a9 with⟨k,vg,i,h1,h2,h3,aD,h4,h5,h6⟩|⟨h1,h2,i,h3,h4,h5⟩
  .exact af ⟨k,vg,i,h1,h2,h3,aD,h4,a8 _ _ _ _ _ h5 h6,λx W=>(h6 x W).imp id (λh=>by omega)⟩
  exact ah ⟨h1,h2,i,a8 _ _ _ _ _ h3 h5,h4,λx W=>(h5 x W).imp id (λh=>by omega)⟩
