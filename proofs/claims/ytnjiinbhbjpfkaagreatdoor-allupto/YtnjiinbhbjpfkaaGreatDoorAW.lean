import Derived.Test.YtnjiinbhbjpfkaaGreatDoorAS
set_option maxRecDepth 100000
set_option maxHeartbeats 0
set_option linter.all false
namespace Go.Proofs.YtnjiinbhbjpfkaaGreatDoor
open Go.RowKit Go.Proofs.Tryz
namespace F
variable {eb k nr pb sb t:Nat}{f:Fb}{l:List B.V}{on:Nat->Bool}{s:B.St}{v:Value}{vb:Vs}{w w':aa}
def Fb.put(f:Fb)(p vg t:Nat):Fb:=⟨λq=>if q=p then vg else f.b q,λq=>if q=p then t else f.k q⟩
def Vs.put(vb:Vs)(p vg t:Nat):Vs:={vb with f:=vb.f.put p vg t}
def zU(t:Nat):Value:=.int .i64 ((t-1:Nat):Int)
theorem Ic(kd:Nat->Bool)(vb:Fb)(M:Nat->List B.V)(k i t j:Nat)(l:List B.V):eE (eE (eE (jT kd vb M) (k*3)<|vT true t) (k*3+1)<|zU t) (k*3+2) (dD i l.length l.length) j=jT (B.mark kd<|k+1) (vb.put (k+1) i t) (B.lay M (k+1)<|l) j:=by
 by_cases o:j=k*3+2
 .grind[gU,tH,B.kF,B.iG,qg,Fb.put]
 rw[eP _ _ _ _ o];by_cases u:j=k*3+1
 .grind[gU,zk,B.kF,Dy,zU,Fb.put]
 rw[eP _ _ _ _ u];by_cases y:j=k*3
 .grind[gU,zl,B.kF,Fb.put]
 rw[eP _ _ _ _ y];have e:j/3+1≠k+1:=af
 simp_all[jT,B.gg,B.gm,Fb.put,av]
theorem zj{n o:Nat}{M:Nat->List B.V}(h:pt w pb n on f M)(J:l.length<=8)(ht:t≠0->l.length=1)(W:Full w' o 149 (l.length*2) (l.length*2) (eR<|λi=>l.getD i (0,0)))(hn:∀p,1<=p->p<=n->on p=true->f.b p≠o)(hP:Full w' pb 228 (n*3) (n*3) (eE (eE (eE (jT on f M) (k*3)<|vT true t) (k*3+1)<|zU t) (k*3+2)<|dD o l.length l.length))(H:∀p,1<=p->p<=n->on p=true->w'.heap[f.b p]?=w.heap[f.b p]?):pt w' pb n (B.mark on<|k+1) (f.put (k+1) o t) (B.lay M (k+1)<|l):=by
 refine⟨hP.congr<|λj _=>Ic on f M k o t j l,λp a c d=>?_,λp q a c d e g i j=>?_,λp a=>?_,λp a y=>?_⟩
 .by_cases e:p=k+1
  .subst e;simp only[Fb.put,if_true,B.iG];refine W.congr<|λj _=>?_;simp[eR,mh,B.iG]
  rw[B.gg _ _ _ e]at d;simp only[Fb.put,av e];unfold mh;rw[B.gm _ _ _ _ e];exact(h.s p a c d).block<|H p a c d
 .have j:(if p=k+1 then o else f.b p)=(if q=k+1 then o else f.b q):=j;by_cases G:p=k+1
  .by_cases u:q=k+1
   .omega
   rw[bf G,av u]at j;grind[B.gg,absurd]
  by_cases u:q=k+1
  .simp_all[av,bf,B.gg,dr]
  rw[av G,av u]at j;grind[B.gg,F.pt.i]
 .by_cases e:p=k+1
  .grind[B.iG]
  rw[B.gg _ _ _ e]at a;rw[B.gm _ _ _ _ e];exact h.l p a
 have y:(if p=k+1 then t else f.k p)≠0:=y;by_cases e:p=k+1
 .simp_all[B.iG,bf]
 rw[B.gg _ _ _ e]at a;rw[av e]at y;grind[B.gm,F.pt.k]
def JJ(nr n:Nat)(s:B.St)(kd kd1:B.Kd):Prop:=
 kd1=kd\/((∀p,1<=p->p<=n->kd.on p=true)/\kd1.cy=none/\kd1.un=kd.un/\kd1.fo=kd.fo+1/\kd1.cc=kd.cc/\∀p,1<=p->p<=n->(kd1.on p=true↔B.Reach nr s p))
def NW(kd kd1:B.Kd):Prop:=kd1.un=kd.un/\kd1.cc=kd.cc/\kd1.fo<=kd.fo+1
def O4(w w':aa)(sb pb eb n nr vg t:Nat)(l:List B.V)(kd:B.Kd)(vb:Vs)(s:B.St)(e:Ending):Prop:=
 dN (sD sb pb n kd vb) w w' /\
 ((∃(k:Nat) (kd1:B.Kd),k<n/\kd1.on (k+1)=false/\B.jP kd1 nr n s/\JJ nr n s kd kd1/\e=.returned (.tuple #[.agg #[.int .i64<|(k:Int)+1,.int .i64 0],.bool true])/\kG w' sb pb eb n (B.laid kd1<|k+1) (vb.put (k+1) vg t) (B.lay s.2.2 (k+1)<|l)/\∀x,Own n (B.laid kd1<|k+1) (vb.put (k+1) vg t) x->Own n kd vb x\/x=vg) \/
  (e=.returned (.tuple #[.agg #[.int .i64 0,.int .i64 0],.bool false])/\(∀p,1<=p->p<=n->B.Reach nr s p)/\∃kd1,kG w' sb pb eb n kd1 vb s.2.2/\(B.jP kd1 nr n s/\NW kd kd1)/\∀x,Own n kd1 vb x->Own n kd vb x))
theorem uU{n u x:Nat}{kd:B.Kd}(h:Own n (B.laid kd<|k+1) (vb.put (k+1) u t) x):Own n kd vb x\/x=u:=by
 rcases h with⟨p,a,b,d,e⟩|⟨H,J⟩
 .by_cases y:p=k+1
  .subst y;right
   have o:(if k+1=k+1 then u else vb.f.b (k+1))=x:=e;grind
  left
  have G:B.mark kd.on (k+1) p=true:=d;rw[B.gg _ _ _ y]at G;have o:(if p=k+1 then u else vb.f.b p)=x:=e;rw[av y]at o;exact ag ⟨p,a,b,G,o⟩
 left
 refine ak ⟨?_,J⟩;have i:(kd.cy.map<|λc:B.Cy=>(⟨B.mark c.m<|k+1,c.st,c.nx⟩:B.Cy)).isSome=true:=H;grind
theorem vI(kd:B.Kd)(vb:Vs)(p e t:Nat):An (B.laid kd p) (vb.put p e t)=An kd vb:=by
 grind[An,B.laid,Vs.put,Option.isSome_map]
theorem BN(Q:Nat->Prop)(eb sb pb n nr vg t:Nat)(l:List B.V)(kd:B.Kd)(vb:Vs)(s:B.St)(w:aa)(hR:DS w Q eb sb pb n nr kd vb s)(hv:Full w vg 149 (l.length*2) (l.length*2) (eR<|λi=>l.getD i (0,0)))(aL:l.length<=8)(ht:t≠0->l.length=1)(c3:¬Own n kd vb vg):Calls prog 199 #[P0 sb,.agg #[vT true t,zU t,dD vg l.length l.length]] w λe w'=>O4 w w' sb pb eb n nr vg t l kd vb s e:=by
 have KR:=bj hR;have hn:=hR.n2;have lp:=hR.hs.p.p.lt;have ls:=ch hR.hs.b;have HV:=bj hv;have bX:=bj c3;have HT:=bj ht;obtain⟨ya,b8⟩:∃y:Int,vT true t=dz y:=⟨_,rfl⟩;obtain⟨yb,bG⟩:∃y:Int,zU t=ah y:=⟨_,rfl⟩;rw[b8,bG];have bN:=bj b8;have c5:=bj bG;clear hR hv c3 ht b8 bG;go_in;go_wp2_with fail
 generalize hW:(w.alloc<|.cells #[dz ya,ah yb,dD vg l.length l.length] 228).alloc (.cells #[ah 0,ah 0] 149)=w1;have aP:Hid (iY w w1):=by rw[<-hW];exact ax (aj _ _ _) _
 have x0:w1.heap[w.heap.size]?=ny #[dz ya,ah yb,dD vg l.length l.length] 228:=by rw[<-hW,au _ _ _ eG];exact bl w _
 have x1:w1.heap[w.heap.size+1]?=ny #[ah 0,ah 0] 149:=by
  rw[<-hW];have:=bl (gG w #[dz ya,ah yb,dD vg l.length l.length] 228)<|.cells #[ah 0,ah 0] 149;simpa using this
 have aI:=bj<|bh x0 x1;have aJ:=bj<|KR.kept aP;clear hW x0 x1;refine(qF sb pb n kd.on vb.f s.2.2 w1 aJ.hs.c0 aJ.hs.p hn).mono ?_;rintro e w2 ⟨a7,⟨k,hk,aQ,rfl⟩|⟨a4,rfl⟩⟩
 .have aH:=bj<|ar aP a7;have H:=bj<|aJ.hs.kept a7;have aK:=bj<|bh (da a7 aI.1 je)<|da a7 aI.2 je;have HQ:Hid (k<n/\kd.on (k+1)=false/\B.jP kd nr n s/\JJ nr n s kd kd):=⟨hk,aQ,KR.hh,ag rfl⟩;have bE:Hid (dN (sD sb pb n kd vb) w w2):=eA aH;have bV:=bj<|HV.block<|aH.block vg HV.lt je;have a2:Hid (∀x,Own n kd vb x->Own n kd vb x):=λ_ h=>h;clear a7 aQ aI aJ aP;let⟨p0,z0⟩:=H.p.p.cells (k*3) af;let⟨p1,z1⟩:=H.p.p.cells (k*3+1) af;let⟨p2,z2⟩:=H.p.p.cells (k*3+2) af;generalize jT kd.on vb.f s.2.2 (k*3)=y0 at p0;generalize jT kd.on vb.f s.2.2 (k*3+1)=y1 at p1;generalize jT kd.on vb.f s.2.2 (k*3+2)=y2 at p2;have s0:=H.c0;have c9:(k:Int)<(n:Int):=af
  have cD:¬((k:Int)<0):=af
  have a6:=aK.1;have Y:=aK.2;have b0:w2.cell? (az w.heap.size 0)=some (dz ya):=fj a6
  have b1:w2.cell? (az w.heap.size 1)=some (ah yb):=fj a6
  have b2:w2.cell? (az w.heap.size 2)=some (dD vg l.length l.length):=fj a6
  have np:¬w.heap.size+1=pb:=af
  have aY:¬pb=w.heap.size+1:=af
  clear a6;go_wp2_with fail
  go_region
  generalize a5:World.drew (iA (iA (iA w2 pb (k*3)<|dz ya) pb (k*3+1)<|ah yb) pb (k*3+2)<|dD vg l.length l.length)=w5;have a1:∀x,x≠pb->w5.heap[x]?=w2.heap[x]?:=by
   intro x u;rw[<-a5];show(World.setCell _ _ _).heap[x]?=_;rw[ab _ _ _ _ u,ab _ _ _ _ u,ab _ _ _ _ u]
  have bL:Hid (Full w5 pb 228 (n*3) (n*3)<|eE (eE (eE (jT kd.on vb.f s.2.2) (k*3)<|dz ya) (k*3+1)<|ah yb) (k*3+2)<|dD vg l.length l.length):=by
   show Full _ _ _ _ _ _;rw[<-a5];exact((H.p.p.eE (k*3)<|dz ya).eE (k*3+1)<|ah yb).eE (k*3+2)<|dD vg l.length l.length
  have aW:Hid (dN (sD sb pb n kd vb) w w5):=by
   show dN _ _ _;rw[<-a5];exact td<|bq (bq (bq bE (ag<|ak<|ag rfl) _) (ag<|ak<|ag rfl) _) (ag<|ak<|ag rfl) _
  have aZ:=bj<|(a1 _ np).trans Y;have aN:=bj<|(a1 sb H.kV.1).trans H.b;have c7:=bj a1;have bA:=bj<|bV.block<|a1 vg (by obtain⟨cu,h,_⟩:=bV;let⟨cF,h',_⟩:=H.p.p;exact eI h h' eo);have aU:=bj<|zj H.p aL HT bA (λp a c d e=>bX (by rw[<-e];exact a2 _<|ag ⟨p,a,c,d,rfl⟩)) (by rw[bN.out,c5.out];exact bL)<|λp a c d=>a1 _ (H.kV.2 _<|ag ⟨p,a,c,d,rfl⟩).2;clear a5 a1 Y p0 p1 p2 z0 z1 z2 s0 b0 b1 b2;go_wp2_with fail
  refine dq (GC k af _) λo aD=>?_;have Z:=da aD aN je;have a0:=da aD aZ je;have a3:=bj aD;have aG:=bj Z;have d2:o.cell? (az sb 2)=some (An kd vb):=fj Z
  have r0:o.cell? (az (w.heap.size+1) 0)=some (ah 0):=fj a0
  have r1:o.cell? (az (w.heap.size+1) 1)=some (ah 0):=fj a0
  have t0:o.frozen? (az (w.heap.size+1) 0)=false:=pk a0
  have t1:o.frozen? (az (w.heap.size+1) 1)=false:=pk a0
  have bU:=ch Z;have bI:=ch a0;clear aD Z a0;rcases hcy:kd.cy with _|c
  .rw[oF hcy]at d2;have a9:=bj hcy;clear hcy;go_wp2_with fail
   refine dg (v:=.tuple #[.agg #[ah<|(k:Int)+1,ah 0],.bool true]) (by simp[results,results199,go_sem,r0,r1,bI]) rfl ?_;have W:∀x,x≠w.heap.size+1->x<o.heap.size->(gG (iA (iA o (w.heap.size+1) 0<|ah<|(k:Int)+1) (w.heap.size+1) 1<|ah 0) #[ah<|(k:Int)+1,ah 0] 149).heap[x]?=o.heap[x]?:=λx u hl=>by
    rw[au _ _ _ (by simp[World.setCell];exact hl),ab _ _ _ _ u,ab _ _ _ _ u]
   have aC:=λx h=>KR.hs.lt x<|a2 x h;have b6:=HV.lt;refine⟨?_,ag ⟨k,kd,HQ.1,HQ.2.1,HQ.2.2.1,HQ.2.2.2,rfl,⟨?_,?_,λc hc=>?_⟩,λx u=>(uU u).imp (a2 x) id⟩⟩
   .exact gV (bq (bq (aW.jj a3) (ak eG) _) (ak eG) _) _
   .rw[vI];exact(W sb af af).trans aG
   .refine(aU.kept a3).block (W pb aY af)<|λp a c d=>?_;by_cases e:p=k+1
    .simp only[Fb.put,bf e];exact W vg af af
    simp only[Fb.put,av e];rw[B.gg _ _ _ e]at d;have:=aC _<|ag ⟨p,a,c,d,rfl⟩;exact W _ af af
   have aE:kd.cy.map (λc:B.Cy=>(⟨B.mark c.m<|k+1,c.st,c.nx⟩:B.Cy))=some c:=hc;rw[a9.out]at aE;cases aE
  rw[oE hcy]at d2;have a9:=bj hcy;clear hcy;have bH:nA o vb.cb vb.rd sb n vb.ad vb.cap c:=((H.c c a9).block<|λx u=>c7 x (H.kV.2 x<|ak ⟨kh a9.out,u⟩).2).kept a3;have cG:=bj bH;have aC:=λx h=>KR.hs.lt x<|a2 x h;have bR:=bj aC;have cR:vb.rd<w.heap.size:=aC _<|ak ⟨kh a9.out,ak<|ag rfl⟩;have cC:=bj<|da a3 aZ je;have cB:Hid (nA (gG o #[ah<|(k:Int)+1,ah 0] 149).drew vb.cb vb.rd sb n vb.ad vb.cap c):=(bH.kept<|aj o (.cells #[ah<|(k:Int)+1,ah 0] 149) none).block<|λ_ _=>rfl;have cA:Hid (∀w8:aa,(gG o #[ah<|(k:Int)+1,ah 0] 149).drew.grownBy w8 (some vb.rd)->o.grownBy w8 (some vb.rd)/\w8.cell? (az (w.heap.size+1) 0)=some (ah 0)/\w8.cell? (az (w.heap.size+1) 1)=some (ah 0)/\w8.frozen? (az (w.heap.size+1) 0)=false/\w8.frozen? (az (w.heap.size+1) 1)=false/\w.heap.size+1<w8.heap.size/\w8.cell? (az o.heap.size 0)=some (ah<|(k:Int)+1)/\w8.cell? (az o.heap.size 1)=some (ah 0)/\o.heap.size<w8.heap.size):=by
   intro w8 a8;have aF:=ar (aj o (.cells #[ah<|(k:Int)+1,ah 0] 149) _) ⟨a8.os,a8.tape,a8.output,a8.size,a8.block⟩;have aM:=da aF cC (by intro e;injection e with e;omega);have cP:o.heap.size+1<=w8.heap.size:=by have:=a8.size;simpa[World.drew] using this
   have c4:=(a8.block o.heap.size (by simp[World.drew]) (by intro e;injection e with e;omega)).trans<|bl o _;exact⟨aF,fj aM,fj aM,pk aM,pk aM,ch aM,fj c4,fj c4,af⟩
  clear bH aC;go_wp2_with fail
  go_region_with (go_at_call 221;refine dq (Dj vb.cb vb.rd sb n k vb.ad vb.cap c 0 _ cB hk hn) ?_;rintro w8 ⟨bY,a8⟩;let⟨aF,q0,q1,v0,v1,cS,n0,n1,cQ⟩:=cA w8 a8;have bS:=bj aF;have cL:=bj bY;clear a8 aF bY)
  all_goals
   go_wp2_with fail
   refine dg (v:=.tuple #[.agg #[ah<|(k:Int)+1,ah 0],.bool true]) (by simp[results,results199,go_sem,q0,q1]) rfl ?_;have W:∀x,x≠w.heap.size+1->(iA (iA w8 (w.heap.size+1) 0<|ah<|(k:Int)+1) (w.heap.size+1) 1<|ah 0).heap[x]?=w8.heap[x]?:=λx u=>by
    rw[ab _ _ _ _ u,ab _ _ _ _ u]
   have aL:∀x,x<o.heap.size->x≠vb.rd->w8.heap[x]?=o.heap[x]?:=λx u hn=>bS.block x u (by intro e;injection e with e;exact hn e);have b6:=HV.lt;have bC:∀(x:Nat) (bQ:Array Value) (T:TypeId),o.heap[x]?=ny bQ T->T≠4->x≠vb.rd:=λx bQ T u hT=>by
    let⟨cu,h,_⟩:=cG.r;exact eI u h hT
   refine⟨?_,ag ⟨k,kd,HQ.1,HQ.2.1,HQ.2.2.1,HQ.2.2.2,rfl,⟨?_,?_,λc' hc=>?_⟩,λx u=>(uU u).imp (a2 x) id⟩⟩
   .refine bq (bq ((aW.jj a3).then bS (ag<|ak<|ak<|a2 _<|ak ⟨kh a9.out,ak<|ag rfl⟩)) (ak eG) _) (ak eG) _
   .rw[vI];exact((W sb af).trans<|aL sb af<|bC _ _ _ aG eo).trans aG
   .have bJ:=aU.kept a3;refine bJ.block ((W pb aY).trans<|aL pb af ?_)<|λp a c d=>?_
    .let⟨cu,h,_⟩:=bJ.p;exact bC _ _ _ h eo
    let⟨cu,h,_⟩:=bJ.s p a c d;have hl:(vb.f.put (k+1) vg t).b p<w.heap.size:=by
     show(if p=k+1 then vg else vb.f.b p)<w.heap.size;by_cases e:p=k+1
     .rw[bf e];exact b6
     rw[av e];rw[B.gg _ _ _ e]at d;exact bR _<|ag ⟨p,a,c,d,rfl⟩
    exact(W _ af).trans<|aL _ af<|bC _ _ _ h eo
   have aE:kd.cy.map (λc:B.Cy=>(⟨B.mark c.m<|k+1,c.st,c.nx⟩:B.Cy))=some c':=hc;rw[a9.out]at aE;have e:(⟨B.mark c.m<|k+1,c.st,c.nx⟩:B.Cy)=c':=by injection aE
   subst e;exact cL.block (λx u=>W x (by
    have:=bR x<|ak ⟨kh a9.out,u⟩;omega))
 have aH:=bj<|ar aP a7;have aK:=bj<|bh (da a7 aI.1 je)<|da a7 aI.2 je;have aT:=bj<|aJ.kept a7;have cI:=bj a4;clear a7 a4 aI aJ aP;go_wp2_with fail
 refine dq (Dx Q eb sb pb n nr kd vb s w2 aT) ?_;rintro w3 ⟨on,hm,b9,bF,aS,c6⟩;have Km:=bj<|bh hm<|bh b9 bF;have aR:=bj c6;have bM:Hid (dN (sD sb pb n kd vb) w w3):=(eA aH).trans aS<|λx h _=>h.elim ag<|λh=>ak<|ag h;have b3:=bj<|bh (aS.block aK.1 af)<|aS.block aK.2 af;have b5:Hid (Full w3 vg 149 (l.length*2) (l.length*2)<|eR<|λi=>l.getD i (0,0)):=by
  have b4:=HV.block<|aH.block vg HV.lt je;refine b4.block<|aS.same b4.lt ?_;obtain⟨cN,bT,_⟩:=b4;rintro(h|h)
  .exact eI bT aT.hs.b eo h
  let⟨cO,cK,_⟩:=aT.hs.p.p;exact eI bT cK eo h
 have a2:Hid (∀x,Own n ⟨on,none,kd.un,kd.fo+1,kd.cc⟩ vb x->Own n kd vb x):=λx u=>by
  rcases u with⟨p,a,b,d,e⟩|⟨h,_⟩
  .exact ag ⟨p,a,b,b9 p d,e⟩
  cases h
 have bW:Hid (B.jP ⟨on,none,kd.un,kd.fo+1,kd.cc⟩ nr n s):=B.AV KR.hh bF;clear hm b9 bF aS c6 aK aT;go_wp2_with fail
 refine(qF sb pb n on vb.f s.2.2 w3 aR.c0 aR.p hn).mono ?_;rintro e w4 ⟨aA,⟨k,hk,aQ,rfl⟩|⟨a4,rfl⟩⟩
 .generalize aB:(⟨on,none,kd.un,kd.fo+1,kd.cc⟩:B.Kd)=kd1 at*;have b7:kd1.on=on:=by rw[<-aB]
  have aO:Hid (kd1.cy=none):=by show _=_;rw[<-aB]
  have HQ:Hid (k<n/\kd1.on (k+1)=false/\B.jP kd1 nr n s/\JJ nr n s kd kd1):=⟨hk,eZ b7 aQ,bW,ak ⟨cI,aO,by rw[<-aB],by rw[<-aB],by rw[<-aB],eZ b7 Km.1⟩⟩;have J:=bj<|aR.kept aA;have bP:=bj<|bh (da aA b3.1 je)<|da aA b3.2 je;have aX:=bj<|bM.jj aA;have c2:=bj<|b5.block<|aA.block vg b5.lt je;clear aA aQ b3 aR bM b5 aB b7 Km aH;let⟨p0,z0⟩:=J.p.p.cells (k*3) af;let⟨p1,z1⟩:=J.p.p.cells (k*3+1) af;let⟨p2,z2⟩:=J.p.p.cells (k*3+2) af;generalize jT kd1.on vb.f s.2.2 (k*3)=y0 at p0;generalize jT kd1.on vb.f s.2.2 (k*3+1)=y1 at p1;generalize jT kd1.on vb.f s.2.2 (k*3+2)=y2 at p2;have s0:=J.c0;have c9:(k:Int)<(n:Int):=af
  have cD:¬((k:Int)<0):=af
  have a6:=bP.1;have Y:=bP.2;have b0:w4.cell? (az w.heap.size 0)=some (dz ya):=fj a6
  have b1:w4.cell? (az w.heap.size 1)=some (ah yb):=fj a6
  have b2:w4.cell? (az w.heap.size 2)=some (dD vg l.length l.length):=fj a6
  have np:¬w.heap.size+1=pb:=af
  have aY:¬pb=w.heap.size+1:=af
  clear a6;go_wp2_with fail
  go_region
  generalize a5:World.drew (iA (iA (iA w4 pb (k*3)<|dz ya) pb (k*3+1)<|ah yb) pb (k*3+2)<|dD vg l.length l.length)=w5;have a1:∀x,x≠pb->w5.heap[x]?=w4.heap[x]?:=by
   intro x u;rw[<-a5];show(World.setCell _ _ _).heap[x]?=_;rw[ab _ _ _ _ u,ab _ _ _ _ u,ab _ _ _ _ u]
  have bL:Hid (Full w5 pb 228 (n*3) (n*3)<|eE (eE (eE (jT kd1.on vb.f s.2.2) (k*3)<|dz ya) (k*3+1)<|ah yb) (k*3+2)<|dD vg l.length l.length):=by
   show Full _ _ _ _ _ _;rw[<-a5];exact((J.p.p.eE (k*3)<|dz ya).eE (k*3+1)<|ah yb).eE (k*3+2)<|dD vg l.length l.length
  have aW:Hid (dN (sD sb pb n kd vb) w w5):=by
   show dN _ _ _;rw[<-a5];exact td<|bq (bq (bq aX (ag<|ak<|ag rfl) _) (ag<|ak<|ag rfl) _) (ag<|ak<|ag rfl) _
  have aZ:=bj<|(a1 _ np).trans Y;have aN:=bj<|(a1 sb J.kV.1).trans J.b;have bA:=bj<|c2.block<|a1 vg (by obtain⟨cu,h,_⟩:=c2;let⟨cF,h',_⟩:=J.p.p;exact eI h h' eo);have aU:=bj<|zj J.p aL HT bA (λp a c d e=>bX (by rw[<-e];exact a2 _<|ag ⟨p,a,c,d,rfl⟩)) (by rw[bN.out,c5.out];exact bL)<|λp a c d=>a1 _ (J.kV.2 _<|ag ⟨p,a,c,d,rfl⟩).2;clear a5 a1 Y p0 p1 p2 z0 z1 z2 s0 b0 b1 b2;go_wp2_with fail
  refine dq (GC k af _) λo aD=>?_;have Z:=da aD aN je;have a0:=da aD aZ je;have a3:=bj aD;have aG:=bj Z;have d2:o.cell? (az sb 2)=some (An kd1 vb):=fj Z
  have r0:o.cell? (az (w.heap.size+1) 0)=some (ah 0):=fj a0
  have r1:o.cell? (az (w.heap.size+1) 1)=some (ah 0):=fj a0
  have t0:o.frozen? (az (w.heap.size+1) 0)=false:=pk a0
  have t1:o.frozen? (az (w.heap.size+1) 1)=false:=pk a0
  have bU:=ch Z;have bI:=ch a0;clear aD Z a0;have a9:=aO;rw[oF aO]at d2;go_wp2_with fail
  refine dg (v:=.tuple #[.agg #[ah<|(k:Int)+1,ah 0],.bool true]) (by simp[results,results199,go_sem,r0,r1,bI]) rfl ?_;have W:∀x,x≠w.heap.size+1->x<o.heap.size->(gG (iA (iA o (w.heap.size+1) 0<|ah<|(k:Int)+1) (w.heap.size+1) 1<|ah 0) #[ah<|(k:Int)+1,ah 0] 149).heap[x]?=o.heap[x]?:=λx u hl=>by
   rw[au _ _ _ (by simp[World.setCell];exact hl),ab _ _ _ _ u,ab _ _ _ _ u]
  have aC:=λx h=>KR.hs.lt x<|a2 x h;have b6:=HV.lt;refine⟨?_,ag ⟨k,kd1,HQ.1,HQ.2.1,HQ.2.2.1,HQ.2.2.2,rfl,⟨?_,?_,λc hc=>?_⟩,λx u=>(uU u).imp (a2 x) id⟩⟩
  .exact gV (bq (bq (aW.jj a3) (ak eG) _) (ak eG) _) _
  .rw[vI];exact(W sb af af).trans aG
  .refine(aU.kept a3).block (W pb aY af)<|λp a c d=>?_;by_cases e:p=k+1
   .simp only[Fb.put,bf e];exact W vg af af
   simp only[Fb.put,av e];rw[B.gg _ _ _ e]at d;have:=aC _<|ag ⟨p,a,c,d,rfl⟩;exact W _ af af
  have aE:kd1.cy.map (λc:B.Cy=>(⟨B.mark c.m<|k+1,c.st,c.nx⟩:B.Cy))=some c:=hc;rw[a9.out]at aE;cases aE
 have aX:=bj<|bM.jj aA;have Y:=da aA b3.2 je;have r0:w4.cell? (az (w.heap.size+1) 0)=some (ah 0):=fj Y
 have r1:w4.cell? (az (w.heap.size+1) 1)=some (ah 0):=fj Y
 have t0:w4.frozen? (az (w.heap.size+1) 0)=false:=pk Y
 have t1:w4.frozen? (az (w.heap.size+1) 1)=false:=pk Y
 have HQ:=bj<|bh Km a4;have J:=bj<|aR.kept aA;clear aA Y a4;go_wp2_with fail
 refine dg (v:=.tuple #[.agg #[ah 0,ah 0],.bool false]) (by simp[results,results199,go_sem,r0,r1]) rfl ?_;have aC:=λx h=>KR.hs.lt x<|a2 x h;refine⟨?_,ak ⟨rfl,λp a c=>(HQ.1.1 p a c).1<|HQ.2 p a c,_,J.block ?_ ?_<|λx u=>?_,⟨bW,rfl,rfl,bm _⟩,a2⟩⟩
 .repeat (first|exact aX|refine bq ?_ (ak eG) _)
 .rw[ab _ _ _ _ (by show sb≠w.heap.size+1;omega),ab _ _ _ _ (by show sb≠w.heap.size+1;omega)]
 .rw[ab _ _ _ _ (by show pb≠w.heap.size+1;omega),ab _ _ _ _ (by show pb≠w.heap.size+1;omega)]
 have:=aC x u;rw[ab _ _ _ _ (by show x≠w.heap.size+1;omega),ab _ _ _ _ (by show x≠w.heap.size+1;omega)]
def Laid(w w':aa)(sb pb eb n nr t:Nat)(l:List B.V)(kd:B.Kd)(vb:Vs)(s:B.St)(v:Value):Prop:=
 (∃(k vg:Nat) (kd1:B.Kd),k<n/\kd1.on (k+1)=false/\B.jP kd1 nr n s/\JJ nr n s kd kd1/\v=.tuple #[.agg #[.int .i64<|(k:Int)+1,.int .i64 0],.bool true]/\kG w' sb pb eb n (B.laid kd1<|k+1) (vb.put (k+1) vg t) (B.lay s.2.2 (k+1) l)/\qB n kd vb (B.laid kd1<|k+1) (vb.put (k+1) vg t) w.heap.size) \/
 (v=.tuple #[.agg #[.int .i64 0,.int .i64 0],.bool false]/\(∀p,1<=p->p<=n->B.Reach nr s p)/\∃kd1,kG w' sb pb eb n kd1 vb s.2.2/\(B.jP kd1 nr n s/\NW kd kd1)/\qB n kd vb kd1 vb w.heap.size)
def Laid.pre{w0:aa}{n:Nat}{kd:B.Kd}(hz:w0.heap.size<=w.heap.size)(h:Laid w w' sb pb eb n nr t l kd vb s v):Laid w0 w' sb pb eb n nr t l kd vb s v:=by
 rcases h with⟨k,Y,e,o,J,H,i,G,u,W⟩|⟨o,J,e,H,G,u⟩
 .exact ag ⟨k,Y,e,o,J,H,i,G,u,λx y=>(W x y).imp id<|λh=>dQ hz h⟩
 exact ak ⟨o,J,e,H,G,λx y=>(u x y).imp id<|λh=>dQ hz h⟩
theorem Laid.form{n:Nat}{kd:B.Kd}(h:Laid w w' sb pb eb n nr t l kd vb s v):∃(x:Int) (o:Bool),v=.tuple #[.agg #[ah x,ah 0],.bool o]:=by
 rcases h with⟨k,H,e,u,G,y,_,i,_⟩|⟨h,_⟩
 .grind
 grind
theorem xS(Q:Nat->Prop)(eb sb pb n nr b:Nat)(kd:B.Kd)(vb:Vs)(s:B.St)(w:aa)(hR:DS w Q eb sb pb n nr kd vb s)(aH:b<=8):Calls prog 157 #[P0 sb,ah b] w λe w'=>∃v,e=.returned v/\dN (sD sb pb n kd vb) w w'/\Laid w w' sb pb eb n nr 0 (List.replicate b (0,0)) kd vb s v:=by
 have KR:=bj hR;have lp:=hR.hs.p.p.lt;have ls:=ch hR.hs.b;have Z:=bj hR.hs.lt;clear hR;obtain⟨i0,hi,aF,aB,a9⟩:=info_parts Tryz.uo;go_in;go_wp2_with (at_make;go_loud (refine wpList_make_full _ rfl _ _ 137 rfl 0 149 i0 _ 2 underlying137 hi aF aB _ _ _ _ b rfl rfl rfl rfl ey pY (di _) ?_))
 intro w3 Y H;have aD:=H.size;have a4:Full w3 (w.heap.size+1) 149 (b*2) (b*2) (eR<|λ_=>(0,0)):=by
  rcases Y.2 with⟨h,_⟩|⟨g',aL,aG,J,h2,h3,h4,h5,h6,h7⟩
  .cases h
  injection J with J _ hc;injection J with J;injection J with J _ _;have aJ:g'=w.heap.size+1:=iE J.symm
  subst aJ hc;refine⟨aG,h3,h6,λj hj=>?_⟩;have e1:=congrArg (λl=>l[j]?) h7;have e2:(madeCells #[ah 0,ah 0]<|b*2).toList[j]?=some (ah 0):=by
   simp only[madeCells,Array.getElem?_toList,Array.getElem?_map,Array.getElem?_range];rw[bf hj];have:j%2=0\/j%2=1:=by omega
   rcases this with h|h<;>simp[h]
  simp only[e2,dP]at e1;rw[bf hj]at e1;have e3:eR (λ_=>((0,0):B.V)) j=ah 0:=by unfold eR;split<;>rfl
  rw[e3];simpa using e1
 have x3:=da H (show(w.alloc<|.cells #[ah 0,ah 0] 149).heap[w.heap.size]?=_ from bl w _) ey;have a5:=bj<|ar (aj _ _ _) H;have a3:=bj a4;have aK:=bj x3;have aA:=bj<|KR.kept a5;clear Y H a4 x3;go_wp2_with fail
 have a1:Hid (Full w3 (w.heap.size+1) 149 ((List.replicate b ((0,0):B.V)).length*2) ((List.replicate b ((0,0):B.V)).length*2)<|eR<|λi=>(List.replicate b ((0,0):B.V)).getD i (0,0)):=by
  show Full _ _ _ _ _ _;rw[lM];refine a3.congr<|λj _=>?_;unfold eR;have:(List.replicate b ((0,0):B.V)).getD (j/2) (0,0)=(0,0):=by
   rw[cw,List.getElem?_replicate];split<;>rfl
  simp only[this]
 have aC:(.agg #[dz 1,ah 0,dD (w.heap.size+1) b b]:Value)=.agg #[vT true 0,zU 0,dD (w.heap.size+1) (List.replicate b ((0,0):B.V)).length (List.replicate b ((0,0):B.V)).length]:=kh lM
 rw[aC];refine(BN Q eb sb pb n nr (w.heap.size+1) 0 (List.replicate b (0,0)) kd vb s w3 aA a1 ey (λh=>dr rfl h) (λh=>by have:=Z _ h;omega)).mono ?_;intro e w4 h4;have a0:=h4.1;obtain⟨x,o,he,a7⟩:∃(x:Int) (o:Bool),e=.returned (.tuple #[.agg #[ah x,ah 0],.bool o])/\∀y:Value,Laid w (w4.setCell (az w.heap.size 0) y |>.setCell (az w.heap.size 1) (ah 0)) sb pb eb n nr 0 (List.replicate b (0,0)) kd vb s<|.tuple #[.agg #[ah x,ah 0],.bool o]:=by
  have a6:∀(u:B.Kd) (W:Vs) (M:Nat->List B.V) (y:Value),kG w4 sb pb eb n u W M->(∀x,Own n u W x->Own n kd vb x\/x=w.heap.size+1)->kG (w4.setCell (az w.heap.size 0) y |>.setCell (az w.heap.size 1) (ah 0)) sb pb eb n u W M:=λu W M y hS hG=>
   hS.block ((ab _ _ _ _ ey).trans<|ab _ _ _ _ ey) ((ab _ _ _ _ ey).trans<|ab _ _ _ _ ey) (λk hk=>by
    have a2:k≠w.heap.size:=by
     rcases hG k hk with h|h
     .have:=Z k h;omega
     omega
    grind[Below.heap_setCell])
  rcases h4.2 with⟨k,u,J,h2,h3,aI,rfl,h5,h6⟩|⟨rfl,h5,u,h6,h7,h8⟩
  .exact⟨_,_,rfl,λy=>ag ⟨k,w.heap.size+1,u,J,h2,h3,aI,rfl,a6 _ _ _ y h5 h6,λx G=>(h6 x G).imp id<|λh=>by omega⟩⟩
  exact⟨_,_,rfl,λy=>ak ⟨rfl,h5,u,a6 _ _ _ y h6<|λx G=>ag<|h8 x G,h7,λx G=>ag<|h8 x G⟩⟩
 subst he;have G:=a0.block aK (by
  rintro(h|h|h)
  .omega
  .omega
  have:=Z _ h;omega)
 have r0:w4.cell? (az w.heap.size 0)=some (ah 0):=fj G
 have r1:w4.cell? (az w.heap.size 1)=some (ah 0):=fj G
 have t0:w4.frozen? (az w.heap.size 0)=false:=pk G
 have t1:w4.frozen? (az w.heap.size 1)=false:=pk G
 have a8:=bj<|(eA (S:=sD sb pb n kd vb) a5).trans a0<|λ_ h _=>h;have aE:=bj a7;clear h4 a0 a7 G;go_wp2_with fail
 refine dg (v:=.tuple #[.agg #[ah x,ah 0],.bool o]) (by simp[results,results157,go_sem,r0,r1]) rfl ?_;refine⟨_,rfl,bq (bq a8 (ak eG) _) (ak eG) _,?_⟩;exact aE _
theorem zx(Q:Nat->Prop)(op a b c fb tb eb sb pb n nr:Nat)(kd:B.Kd)(vb:Vs)(s:B.St)(w:aa)(hR:DS w Q eb sb pb n nr kd vb s)(aB:b<=8)(a6:w.cell? (az eb 27)=some (P0 sb))(he:¬sD sb pb n kd vb eb):Calls prog 100 #[ee op a b c fb tb eb] w λe w'=>∃v,e=.returned v/\dN (sD sb pb n kd vb) w w'/\Laid w w' sb pb eb n nr 0 (List.replicate b (0,0)) kd vb s v:=by
 have KR:=bj hR;have le:=gT a6;have lp:=hR.hs.p.p.lt;have ls:=ch hR.hs.b;have a5:=bj hR.hs.lt;have a1:Hid (∀x,w.heap.size<=x->¬sD sb pb n kd vb x):=λx W h=>by
  rcases h with h|h|h
  .omega
  .omega
  have:=a5 x h;omega
 clear hR;go_in;go_wp2_with fail
 generalize hW:(w.alloc<|.cells #[dz op,dz a,dz b,dz c,P0 fb,P0 tb,P0 eb] 186).alloc (.cells #[ah 0,ah 0] 149)=w1;have J:Hid (w.grownBy w1 none):=by rw[<-hW];exact ax (aj _ _ _) _
 have W:w1.heap[w.heap.size]?=some (jF op a b c fb tb eb):=by rw[<-hW,au _ _ _ eG];exact bl w _
 have hr:w1.heap[w.heap.size+1]?=some (.cells #[ah 0,ah 0] 149 (0,0)):=by
  rw[<-hW];have:=bl (w.alloc<|.cells #[dz op,dz a,dz b,dz c,P0 fb,P0 tb,P0 eb] 186)<|.cells #[ah 0,ah 0] 149;simpa using this
 clear hW;have HR:=bj hr;have aA:=bj<|KR.kept<|bo J;obtain⟨x0,x1,x2,x3,x4,x5,x6⟩:=fe W;have lx:=ch W;have lr:=ch hr;obtain⟨a7,_⟩:=ay J (a:=az eb 27) le;rw[a6]at a7;have aC:eb<w1.heap.size:=af
 clear W hr;have HS:∀w':aa,dN (sD sb pb n kd vb) w1 w'->dW w' w.heap.size 6=some (P0 eb)/\dW w' w.heap.size 2=some (dz b)/\dW w' eb 27=some (P0 sb):=by
  intro w' hO;exact⟨(hO.cell (o:=6) lx<|a1 _<|bm _).trans x6,(hO.cell (o:=2) lx<|a1 _<|bm _).trans x2,(hO.cell (o:=27) aC he).trans a7⟩
 change Hid _ at HS;have aG:IntKind.i64.wrap (b:Int)=b:=by simp[IntKind.wrap,IntKind.bits,IntKind.signed];omega
 go_region_held3 (λw'=>dW w' w.heap.size 6=some (P0 eb)/\dW w' w.heap.size 2=some (dz b)/\dW w' eb 27=some (P0 sb)) (first|exact HS _ (dx _ _)|exact HS _ a2|exact a3) (first|(go_at_call 157;refine(xS Q eb sb pb n nr b kd vb s w1.drew aA aB).mono ?_;rintro e H ⟨v,rfl,Y,a0⟩;obtain⟨x,ob,rfl⟩:=a0.form;have a2:Hid (dN (sD sb pb n kd vb) w1 H):=Y;have a9:Hid (Laid w1 H sb pb eb n nr 0 (List.replicate b (0,0)) kd vb s<|.tuple #[.agg #[ah x,ah 0],.bool ob]):=a0;have G:=Y.block (k:=w.heap.size+1) HR<|a1 _<|Nat.le_succ _;have r0:dW H (w.heap.size+1) 0=some (ah 0):=(by simp[World.cell?,G]);have r1:dW H (w.heap.size+1) 1=some (ah 0):=(by simp[World.cell?,G]);have r2:H.frozen? (az (w.heap.size+1) 0)=false:=(by simp[World.frozen?,G]);have r3:H.frozen? (az (w.heap.size+1) 1)=false:=(by simp[World.frozen?,G]);have a3:Hid (dW ((H.setCell (az (w.heap.size+1) 0)<|ah x).setCell (az (w.heap.size+1) 1)<|ah 0) w.heap.size 6=some (P0 eb)/\dW ((H.setCell (az (w.heap.size+1) 0)<|ah x).setCell (az (w.heap.size+1) 1)<|ah 0) w.heap.size 2=some (dz b)/\dW ((H.setCell (az (w.heap.size+1) 0)<|ah x).setCell (az (w.heap.size+1) 1)<|ah 0) eb 27=some (P0 sb)):=(by have h:=HS H Y;exact⟨(bd (a:=az w.heap.size 6)<|(ab _ _ _ _ eG).trans<|ab _ _ _ _ eG).trans h.1,(bd (a:=az w.heap.size 2)<|(ab _ _ _ _ eG).trans<|ab _ _ _ _ eG).trans h.2.1,(bd (a:=az eb 27)<|(ab _ _ _ _ ey).trans<|ab _ _ _ _ ey).trans h.2.2⟩);clear G Y a0))
 all_goals
  go_wp2
  refine dg (v:=.tuple #[.agg #[ah x,ah 0],.bool ob]) (by simp[results,results100,go_sem,r0,r1]) rfl ?_;refine⟨_,rfl,bq (bq ((eA J).trans a2<|λ_ h _=>h) (ak eG) _) (ak eG) _,?_⟩;have a4:∀(i:B.Kd) (u:Vs) (M:Nat->List B.V),kG H sb pb eb n i u M->qB n kd vb i u w1.heap.size->∀x,Own n i u x->x≠w.heap.size+1:=λi u M hS hG x W=>by
   rcases hG x W with h|h
   .have:=a5 x h;omega
   omega
  have a8:∀(i:B.Kd) (u:Vs) (M:Nat->List B.V) (y z:Value),kG H sb pb eb n i u M->qB n kd vb i u w1.heap.size->kG ((H.setCell (az (w.heap.size+1) 0) y).setCell (az (w.heap.size+1) 1) z) sb pb eb n i u M:=λi u M y z hS hG=>
   hS.block ((ab _ _ _ _ (by show sb≠w.heap.size+1;omega)).trans<|ab _ _ _ _ (by show sb≠w.heap.size+1;omega)) ((ab _ _ _ _ (by show pb≠w.heap.size+1;omega)).trans<|ab _ _ _ _ (by show pb≠w.heap.size+1;omega)) (λk hk=>(ab _ _ _ _<|a4 _ _ _ hS hG k hk).trans<|ab _ _ _ _<|a4 _ _ _ hS hG k hk)
  rcases a9 with⟨k,vg,i,h1,h2,h3,aD,h4,h5,h6⟩|⟨h1,h2,i,h3,h4,h5⟩
  .exact ag ⟨k,vg,i,h1,h2,h3,aD,h4,a8 _ _ _ _ _ h5 h6,λx W=>(h6 x W).imp id<|λh=>by omega⟩
  exact ak ⟨h1,h2,i,a8 _ _ _ _ _ h3 h5,h4,λx W=>(h5 x W).imp id<|λh=>by omega⟩
theorem Bz{n p i:Nat}{M:Nat->List B.V}(v:B.V)(h:pt w pb n on f M)(W:1<=p)(Z:p<=n)(Y:on p=true)(hi:i<(M p).length):pt ((w.setCell (az (f.b p)<|i*2)<|ah v.1).setCell (az (f.b p)<|i*2+1)<|ah v.2) pb n on f (B.lay M p<|(M p).set i v):=by
 have G:=h.s p W Z Y;let⟨a0,hV,_⟩:=id G;let⟨J,hP,_⟩:=id h.p;have H:=eI hP hV eo;refine⟨((h.p.off H).off H).congr (λj _=>?_),λq a b c=>?_,h.i,λq a=>?_,λq a h0=>?_⟩
 .grind[jT,B.iG,B.gm]
 .by_cases e:q=p
  .subst e;rw[B.iG];simp only[eC];refine(G.oZ i v).congr (λj _=>?_);have hs:∀x,B.set (mh M q) i v x=mh (B.lay M q<|(M q).set i v) q x:=by
    intro x;unfold mh;rw[B.iG,cw,List.getElem?_set];by_cases y:x=i
    .simp_all[B.jZ,bf]
    rw[B.jl _ _ _ _ y,av<|λh=>y h.symm,cw]
   grind[eR]
  rw[B.gm _ _ _ _ e];have u:f.b q≠f.b p:=λhe=>e<|h.i q p a b W Z c Y he;have:=((h.s q a b c).off (o:=i*2) (v:=ah v.1) u).off (o:=i*2+1) (v:=ah v.2) u;refine this.congr<|λj _=>?_;simp_all[eR,mh,B.gm]
 .by_cases e:q=p
  .subst e;rw[B.iG];simpa using h.l q a
  rw[B.gm _ _ _ _ e];exact h.l q a
 grind[B.iG,B.gm,F.pt.k]
theorem yM(sb pb eb n nr k i:Nat)(x:Int)(v:B.V)(kd:B.Kd)(vb:Vs)(s:B.St)(w:aa)(hS:kG w sb pb eb n kd vb s.2.2)(hH:B.jP kd nr n s)(hn:n<=200)(hk:k<n)(hr:B.Reach nr s (k+1))(hi:i<(s.2.2<|k+1).length):eN 160 #[P0 sb,vA (k+1,x),ah i,vA v] w λw'=>∃aE,kG w' sb pb eb n (B.told kd<|(s.2.2<|k+1).getD i (0,0)) aE (B.lay s.2.2 (k+1)<|(s.2.2<|k+1).set i v)/\dN (Own n kd vb) w w'/\qB n kd vb (B.told kd<|(s.2.2<|k+1).getD i (0,0)) aE w.heap.size/\aE.f=vb.f:=by
 have KS:=bj hS;have HH:=bj hH;have a6:=(B.mn hH hr).1;have h0:=hS.c0;have c2:=hS.cells.2.1;have ls:=ch hS.b;have lp:=hS.p.p.lt;have p2:=hS.p.p.cell (k*3+2) af;rw[tH,a6]at p2;have aJ:qg true (vb.f.b<|k+1) (s.2.2<|k+1).length=dD (vb.f.b<|k+1) (s.2.2<|k+1).length (s.2.2<|k+1).length:=rfl;rw[aJ]at p2;have hF:=hS.p.s (k+1) af af a6;have lf:=hF.lt;have HF:=bj hF;have aZ:=bj<|oq k x af;have bF:=hS.p.l _ a6;have HI:=bj<|bh a6 hi;have b5:(k:Int)<(n:Int):=af
 have bK:(i:Int)<((s.2.2<|k+1).length:Int):=af
 let⟨s0,f0⟩:=hF.cells (i*2) af;let⟨s1,f1⟩:=hF.cells (i*2+1) af;rw[pF]at s0;rw[pE]at s1;have aO:Hid ((mh s.2.2 (k+1) i)=(s.2.2<|k+1).getD i (0,0)):=rfl;have aN:=B.FY hH hr i;have aT:=λh0=>(B.mn hH<|aN.2 h0).2.2;have aU:=bj aT;generalize b0:mh s.2.2 (k+1) i=o at*;have aH:=bj aO.out.symm;clear hS hH hr aJ hF aN aT b0 aO;generalize aM:(s.2.2<|k+1).length=m at*;have aS:=bj aM;clear aM;delta eN;go_in;go_wp2_with fail
 generalize hW:(w.alloc<|.cells #[ah<|(k:Int)+1,ah x] 149).alloc (.cells #[ah (v.1:Int),ah v.2] 149)=w1;have aF:Hid (iY w w1):=by rw[<-hW];exact ax (aj _ _ _) _
 have aK:w1.heap[w.heap.size+1]?=ny #[ah (v.1:Int),ah v.2] 149:=by
  rw[<-hW];have:=bl (gG w #[ah<|(k:Int)+1,ah x] 149)<|.cells #[ah (v.1:Int),ah v.2] 149;simpa using this
 have a5:w1.heap[w.heap.size]?=ny #[ah<|(k:Int)+1,ah x] 149:=by
  rw[<-hW,au _ _ _ eG];exact bl w _
 clear hW;have b1:=bj aK;have a0:w1.cell? (az w.heap.size 0)=some (ah<|(k:Int)+1):=fj a5
 have a1:w1.cell? (az w.heap.size 1)=some (ah x):=fj a5
 have lv:=ch a5;have aG:sb<w1.heap.size:=af
 have d0:=(ay aF.out (a:=az sb 0) ls).1.trans h0;have b2:=bj p2;clear a5 aK h0 p2;go_cut[8] from 9 to 19 (λy wx=>y=.pointer (some<|az (vb.f.b<|k+1)<|i*2)/\Hid (iY w wx)/\Hid (wx.heap[w.heap.size+1]?=ny #[ah (v.1:Int),ah v.2] 149))
 case first=>
  go_region_with (go_at_call 201;refine dq (aZ.out _) λw2 Z=>?_;have a8:Hid (iY w1 w2):=⟨Z.os,Z.tape,Z.output,Z.size,Z.block⟩;have a4:=bj<|ar aF.out a8.out;have d2:=(ay a8.out (a:=az sb 0) aG).1.trans d0;have q2:=(ay a4.out (a:=az pb<|k*3+2) lp).1.trans b2.out;clear Z)
  all_goals
   go_wp2_with fail
   go_meet
   case rel=>exact⟨rfl,a4,da a8.out b1.out je⟩
 case rest=>
  obtain⟨rfl,H,aC⟩:=hcut;have bA:=H.out.size;have e2:=(ay H.out (a:=az sb 2) ls).1.trans c2;have t0:=(ay H.out (a:=az (vb.f.b<|k+1)<|i*2) lf).1.trans s0;have t1:=(ay H.out (a:=az (vb.f.b<|k+1)<|i*2+1) lf).1.trans s1;have z0:=(ay H.out (a:=az (vb.f.b<|k+1)<|i*2) lf).2.trans f0;have z1:=(ay H.out (a:=az (vb.f.b<|k+1)<|i*2+1) lf).2.trans f1;have aW:sb<wc.heap.size:=af
  have a9:vb.f.b (k+1)<wc.heap.size:=af
  have u0:wc.cell? (az (w.heap.size+1) 0)=some (ah (v.1:Int)):=by have:=aC.out;simp[World.cell?,this]
  have u1:wc.cell? (az (w.heap.size+1) 1)=some (ah v.2):=by have:=aC.out;simp[World.cell?,this]
  have lu:=ch aC.out;clear a0 a1 d0 c2 s0 s1 f0 f1;have u:=bj<|KS.out.kept H.out;have aD:Own n kd vb (vb.f.b<|k+1):=ag ⟨k+1,af,af,HI.out.1,rfl⟩;have Y:=bj aD;rcases hcy:kd.cy with _|c
  .rw[oF hcy]at e2;have G:=bj hcy;clear hcy aD;go_wp2_with fail
   go_end0;refine⟨rfl,vb,?_,bq (bq (eA H.out) (ag Y.out) _) (ag Y.out) _,?_,rfl⟩
   .rw[told_none _ G.out];have a2:=u.out.kV.2 _ Y.out;exact⟨((ab _ _ _ _<|λe=>a2.1 e.symm).trans<|ab _ _ _ _<|λe=>a2.1 e.symm).trans u.out.b,Bz v u.out.p af af HI.out.1<|eZ aS.out HI.out.2,λc hc=>by rw[G.out]at hc;cases hc⟩
   rw[told_none _ G.out];exact qB.refl _ _ _ _
  rw[oE hcy]at e2;have G:=bj hcy;clear hcy aD;let⟨_,T,_,aQ⟩:=HH.out.h3 c G.out;have aA:=dQ aQ.len hn;have aY:=bj<|λw' (h:nA w' vb.cb vb.rd sb n vb.ad vb.cap c)=>sV vb.cb vb.rd sb n vb.ad vb.cap c o w' h (by have:=aU.out;rw[aH.out]at this;exact this) hn aA;have aX:Hid (nA wc.drew vb.cb vb.rd sb n vb.ad vb.cap c):=(u.out.c c G.out).block<|λ_ _=>rfl;have a7:Hid (∀y,pr vb.cb vb.rd vb.ad y->Own n kd vb y):=λy hy=>ak ⟨kh G.out,hy⟩;have aI:=(uj u.out.p<|u.out.c c G.out).2 _ af af HI.out.1;have aR:¬pr vb.cb vb.rd vb.ad (w.heap.size+1):=λh=>by have:=KS.out.lt _<|a7.out _ h;omega
  have J:=bj<|bh aI aR;have HK:Hid (∀w':aa,dN (pr vb.cb vb.rd vb.ad) wc.drew w'->w'.cell? (az (vb.f.b<|k+1)<|i*2)=some (ah (o.1:Int))/\w'.cell? (az (vb.f.b<|k+1)<|i*2+1)=some (ah o.2)/\w'.frozen? (az (vb.f.b<|k+1)<|i*2)=false/\w'.frozen? (az (vb.f.b<|k+1)<|i*2+1)=false/\w'.cell? (az (w.heap.size+1) 0)=some (ah (v.1:Int))/\w'.cell? (az (w.heap.size+1) 1)=some (ah v.2)/\vb.f.b (k+1)<w'.heap.size/\w.heap.size+1<w'.heap.size):=λw' hO=>by
   have W:dN (pr vb.cb vb.rd vb.ad) wc w':=hO;have:=W.size;exact⟨(W.cell a9 J.out.1).trans t0,(W.cell a9 J.out.1).trans t1,(W.frozen a9 J.out.1).trans z0,(W.frozen a9 J.out.1).trans z1,(W.cell lu J.out.2).trans u0,(W.cell lu J.out.2).trans u1,af,af⟩
  clear aQ aA aI aR;go_wp2_with fail
  go_region_with (go_at_call 188;refine dq (aY.out _ aX.out) ?_;rintro w4 ⟨aP,aL,h4,h5,h6⟩;let⟨bJ,bB,bH,b9,bE,bG,bI,bD⟩:=HK.out w4 h6;have b4:=bj<|bh h4<|bh h5 h6;clear h4 h5 h6)
  all_goals
   go_wp2_with fail
   go_end0;let⟨h4,h5,h6⟩:=b4.out;have a3:dN (pr vb.cb vb.rd vb.ad) wc w4:=h6;have b3:w4.heap[sb]?=_:=(a3.same aW<|λh=>(KS.out.kV.2 sb<|a7.out _ h).1 rfl).trans u.out.b;have a2:=KS.out.kV.2 _ Y.out;have aV:pt w4 pb n kd.on vb.f s.2.2:=by
    have:=uj u.out.p<|u.out.c c G.out;exact u.out.p.block (a3.same u.out.p.p.lt this.1)<|λp a b d=>a3.same (u.out.p.s p a b d).lt<|this.2 p a b d
   have aB:∀y,pr vb.cb vb.rd aP y->y≠vb.f.b (k+1):=λy hy e=>by
    rcases h4.Ls hy with h|h
    .exact J.out.1 (by rw[<-e];exact h)
    have h':wc.heap.size<=y:=h;omega
   refine⟨rfl,{vb with ad:=aP,cap:=aL},?_,?_,?_,rfl⟩
   .rw[aH.out,Ct _ G.out];refine⟨?_,Bz v aV af af HI.out.1<|eZ aS.out HI.out.2,λc' hc=>?_⟩
    .refine((ab _ _ _ _<|λe=>a2.1 e.symm).trans<|ab _ _ _ _<|λe=>a2.1 e.symm).trans<|b3.trans ?_;rw[oE G.out];rfl
    have e:(⟨(B.seen c.m c.st o).1,(B.seen c.m c.st o).2,c.nx⟩:B.Cy)=c':=by injection hc
    subst e;exact h5.block<|λy hy=>(ab _ _ _ _<|aB y hy).trans<|ab _ _ _ _<|aB y hy
   .refine bq (bq ((eA (S:=Own n kd vb) H.out).trans a3<|λy hy _=>a7.out y hy) (ag Y.out) _) (ag Y.out) _
   intro y hy;rcases hy with⟨p,a,b,d,e⟩|⟨_,hy⟩
   .exact ag<|ag ⟨p,a,b,d,e⟩
   rcases h4.Ls hy with h|h
   .exact ag<|a7.out y h
   have h':wc.heap.size<=y:=h;exact ak af
theorem zw(Q:Nat->Prop)(eb sb pb n nr f:Nat)(u:B.V)(kd:B.Kd)(vb:Vs)(s:B.St)(w:aa)(hR:DS w Q eb sb pb n nr kd vb s):Calls prog 161 #[P0 sb,ah f,vA u] w λe w'=>∃v,e=.returned v/\dN (sD sb pb n kd vb) w w'/\Laid w w' sb pb eb n nr (f+1) [u] kd vb s v:=by
 have KR:=bj hR;have lp:=hR.hs.p.p.lt;have ls:=ch hR.hs.b;have W:=bj hR.hs.lt;go_in;go_wp2_with fail
 generalize hW:((w.alloc<|.cells #[ah u.1,ah u.2] 149).alloc<|.cells #[ah 0,ah 0] 149).alloc (.cells #[ah u.1,ah u.2] 149)=w3;have a2:w3.heap.size=w.heap.size+1+1+1:=by rw[<-hW];simp
 have a3:Hid (w.grownBy w3 none):=by rw[<-hW];exact ax (ax (aj _ _ _) _) _
 have x3:w3.heap[w.heap.size+1]?=some (.cells #[ah 0,ah 0] 149 (0,0)):=by
  rw[<-hW,au _ _ _ eG];have:=bl (w.alloc<|.cells #[ah u.1,ah u.2] 149)<|.cells #[ah 0,ah 0] 149;simpa using this
 have y3:w3.heap[w.heap.size+1+1]?=some (.cells #[ah u.1,ah u.2] 149 (0,0)):=by
  rw[<-hW];have:=bl ((w.alloc<|.cells #[ah u.1,ah u.2] 149).alloc<|.cells #[ah 0,ah 0] 149)<|.cells #[ah u.1,ah u.2] 149;simpa using this
 have a1:Hid (Full w3 (w.heap.size+1+1) 149 ([u].length*2) ([u].length*2)<|eR<|λi=>[u].getD i (0,0)):=by
  refine⟨_,y3,rfl,λj hj=>?_⟩;have:j=0\/j=1:=by have:j<2:=hj;omega
  rcases this with rfl|rfl<;>rfl
 have aB:=bj x3;have a7:=bj<|KR.kept a3;have a8:(.agg #[dz 2,ah f,dD (w.heap.size+1+1) 1 1]:Value)=.agg #[vT true<|f+1,zU<|f+1,dD (w.heap.size+1+1) [u].length [u].length]:=rfl;rw[a8];refine(BN Q eb sb pb n nr (w.heap.size+1+1) (f+1) [u] kd vb s w3 a7 a1 ey (λ_=>rfl) (λh=>by have:=W _ h;omega)).mono ?_;intro e Y h4;have Z:=h4.1;obtain⟨x,o,he,a5⟩:∃(x:Int) (o:Bool),e=.returned (.tuple #[.agg #[ah x,ah 0],.bool o])/\∀y:Value,Laid w (Y.setCell (az (w.heap.size+1) 0) y |>.setCell (az (w.heap.size+1) 1) (ah 0)) sb pb eb n nr (f+1) [u] kd vb s<|.tuple #[.agg #[ah x,ah 0],.bool o]:=by
  have a4:∀(G:B.Kd) (J:Vs) (M:Nat->List B.V) (y:Value),kG Y sb pb eb n G J M->(∀x,Own n G J x->Own n kd vb x\/x=w.heap.size+1+1)->kG (Y.setCell (az (w.heap.size+1) 0) y |>.setCell (az (w.heap.size+1) 1) (ah 0)) sb pb eb n G J M:=λG J M y hS hG=>
   hS.block ((ab _ _ _ _ ey).trans<|ab _ _ _ _ ey) ((ab _ _ _ _ ey).trans<|ab _ _ _ _ ey) (λk hk=>by
    have a0:k≠w.heap.size+1:=by
     rcases hG k hk with h|h
     .have:=W k h;omega
     omega
    grind[Below.heap_setCell])
  rcases h4.2 with⟨k,G,h1,h2,h3,aA,rfl,h5,h6⟩|⟨rfl,h5,G,h6,h7,h8⟩
  .exact⟨_,_,rfl,λy=>ag ⟨k,w.heap.size+1+1,G,h1,h2,h3,aA,rfl,a4 _ _ _ y h5 h6,λx H=>(h6 x H).imp id<|λh=>by omega⟩⟩
  exact⟨_,_,rfl,λy=>ak ⟨rfl,h5,G,a4 _ _ _ y h6<|λx H=>ag<|h8 x H,h7,λx H=>ag<|h8 x H⟩⟩
 subst he;have H:=Z.block aB (by
  rintro(h|h|h)
  .omega
  .omega
  have:=W _ h;omega)
 have r0:dW Y (w.heap.size+1) 0=some (ah 0):=fj H
 have r1:dW Y (w.heap.size+1) 1=some (ah 0):=fj H
 have t0:Y.frozen? (az (w.heap.size+1) 0)=false:=pk H
 have t1:Y.frozen? (az (w.heap.size+1) 1)=false:=pk H
 have a6:=bj<|(eA (S:=sD sb pb n kd vb) a3).trans Z<|λ_ h _=>h;have a9:=bj a5;go_wp2
 refine dg (v:=.tuple #[.agg #[ah x,ah 0],.bool o]) (by simp[results,results161,go_sem,r0,r1]) rfl ?_;refine⟨_,rfl,bq (bq a6 (ak eG) _) (ak eG) _,?_⟩;exact a9 _
theorem tW(Q:Nat->Prop)(op a b c fb tb eb sb pb n nr:Nat)(cg:B.V)(kd:B.Kd)(vb:Vs)(s:B.St)(w:aa)(hR:DS w Q eb sb pb n nr kd vb s)(aJ:b<256)(hc:∀w1,w.grownBy w1 none->dC 94 #[ee op a b c fb tb eb] w1 (vA cg) λw'=>w1.grownBy w' none)(a8:w.cell? (az eb 27)=some (P0 sb))(he:¬sD sb pb n kd vb eb):Calls prog 103 #[ee op a b c fb tb eb] w λe w'=>∃v,e=.returned v/\dN (sD sb pb n kd vb) w w'/\Laid w w' sb pb eb n nr (b+1) [cg] kd vb s v:=by
 have KR:=bj hR;have HC:=bj hc;have le:=gT a8;have lp:=hR.hs.p.p.lt;have ls:=ch hR.hs.b;have a7:=bj hR.hs.lt;have aB:Hid (∀x,w.heap.size<=x->¬sD sb pb n kd vb x):=λx Y h=>by
  rcases h with h|h|h
  .omega
  .omega
  have:=a7 x h;omega
 clear hR hc;go_in;go_wp2_with fail
 generalize hW:(w.alloc<|.cells #[dz op,dz a,dz b,dz c,P0 fb,P0 tb,P0 eb] 186).alloc (.cells #[ah 0,ah 0] 149)=w1;have J:Hid (w.grownBy w1 none):=by rw[<-hW];exact ax (aj _ _ _) _
 have Y:w1.heap[w.heap.size]?=some (jF op a b c fb tb eb):=by rw[<-hW,au _ _ _ eG];exact bl w _
 have hr:w1.heap[w.heap.size+1]?=some (.cells #[ah 0,ah 0] 149 (0,0)):=by
  rw[<-hW];have:=bl (w.alloc<|.cells #[dz op,dz a,dz b,dz c,P0 fb,P0 tb,P0 eb] 186)<|.cells #[ah 0,ah 0] 149;simpa using this
 clear hW;have HX:=bj Y;have HR:=bj hr;have lr:=ch hr;have aE:eb<w1.heap.size:=af
 clear Y hr;have Z:Hid (∀w':aa,dN (λk=>sD sb pb n kd vb k\/k=w.heap.size+1) w1 w'->dW w' w.heap.size 0=some (dz op)/\dW w' w.heap.size 1=some (dz a)/\dW w' w.heap.size 2=some (dz b)/\dW w' w.heap.size 3=some (dz c)/\dW w' w.heap.size 4=some (P0 fb)/\dW w' w.heap.size 5=some (P0 tb)/\dW w' w.heap.size 6=some (P0 eb)/\dW w' eb 27=some (P0 sb)):=λw' hO=>by
  have aD:¬(sD sb pb n kd vb w.heap.size\/w.heap.size=w.heap.size+1):=λh=>h.elim (aB _<|bm _) (λh=>by omega);obtain⟨x0,x1,x2,x3,x4,x5,x6⟩:=fe<|hO.block HX aD;exact⟨x0,x1,x2,x3,x4,x5,x6,(hO.cell (o:=27) aE<|λh=>h.elim he<|λh=>by omega).trans<|(ay J (a:=az eb 27) le).1.trans a8⟩
 have aI:IntKind.i64.wrap (b:Int)=b:=by simp[IntKind.wrap,IntKind.bits,IntKind.signed];omega
 go_region_held3 (λw'=>dW w' w.heap.size 0=some (dz op)/\dW w' w.heap.size 1=some (dz a)/\dW w' w.heap.size 2=some (dz b)/\dW w' w.heap.size 3=some (dz c)/\dW w' w.heap.size 4=some (P0 fb)/\dW w' w.heap.size 5=some (P0 tb)/\dW w' w.heap.size 6=some (P0 eb)/\dW w' eb 27=some (P0 sb)) (first|exact Z _ (dx _ _)|exact Z _ (eA a0)|exact Z _ a4|exact a5) (first|(go_at_call 94;refine dq (HC w1.drew<|bo J) λw2 H=>?_;have a0:Hid (w1.grownBy w2 none):=⟨H.os,H.tape,H.output,H.size,H.block⟩;clear H)|(go_at_call 161;refine(zw Q eb sb pb n nr b cg kd vb s w2<|KR.kept<|ar J a0).mono ?_;rintro e W ⟨v,rfl,a2,a3⟩;obtain⟨x,ob,rfl⟩:=a3.form;have a1:=(eA a0).trans a2<|λ_ h _=>h;have a4:Hid (dN (λk=>sD sb pb n kd vb k\/k=w.heap.size+1) w1 W):=a1.mono<|λ_ h _=>ag h;have a9:=bj a1;have aC:=bj<|a3.pre a0.size;have G:=a1.block (k:=w.heap.size+1) HR<|aB _<|Nat.le_succ _;have r0:dW W (w.heap.size+1) 0=some (ah 0):=(by simp[World.cell?,G]);have r1:dW W (w.heap.size+1) 1=some (ah 0):=(by simp[World.cell?,G]);have r2:W.frozen? (az (w.heap.size+1) 0)=false:=(by simp[World.frozen?,G]);have r3:W.frozen? (az (w.heap.size+1) 1)=false:=(by simp[World.frozen?,G]);have a5:=bj<|Z ((W.setCell (az (w.heap.size+1) 0)<|ah x).setCell (az (w.heap.size+1) 1)<|ah 0)<|bq (bq a4 (ag<|ak rfl) _) (ag<|ak rfl) _;clear G a1 a3 a2))
 all_goals
  go_wp2
  refine dg (v:=.tuple #[.agg #[ah x,ah 0],.bool ob]) (by simp[results,results103,go_sem,r0,r1]) rfl ?_;refine⟨_,rfl,bq (bq ((eA J).trans a9<|λ_ h _=>h) (ak eG) _) (ak eG) _,?_⟩;have a6:∀(i:B.Kd) (u:Vs) (M:Nat->List B.V),kG W sb pb eb n i u M->qB n kd vb i u w1.heap.size->∀x,Own n i u x->x≠w.heap.size+1:=λi u M hS hG x Y=>by
   rcases hG x Y with h|h
   .have:=a7 x h;omega
   omega
  have aA:∀(i:B.Kd) (u:Vs) (M:Nat->List B.V) (y z:Value),kG W sb pb eb n i u M->qB n kd vb i u w1.heap.size->kG ((W.setCell (az (w.heap.size+1) 0) y).setCell (az (w.heap.size+1) 1) z) sb pb eb n i u M:=λi u M y z hS hG=>
   hS.block ((ab _ _ _ _ (by show sb≠w.heap.size+1;omega)).trans<|ab _ _ _ _ (by show sb≠w.heap.size+1;omega)) ((ab _ _ _ _ (by show pb≠w.heap.size+1;omega)).trans<|ab _ _ _ _ (by show pb≠w.heap.size+1;omega)) (λk hk=>(ab _ _ _ _<|a6 _ _ _ hS hG k hk).trans<|ab _ _ _ _<|a6 _ _ _ hS hG k hk)
  rcases aC with⟨k,vg,i,h1,h2,h3,aF,h4,h5,h6⟩|⟨h1,h2,i,h3,h4,h5⟩
  .exact ag ⟨k,vg,i,h1,h2,h3,aF,h4,aA _ _ _ _ _ h5 h6,λx Y=>(h6 x Y).imp id<|λh=>by omega⟩
  exact ak ⟨h1,h2,i,aA _ _ _ _ _ h3 h5,h4,λx Y=>(h5 x Y).imp id<|λh=>by omega⟩
theorem DQ(op a b c fb tb eb cb L nx rb nr sb pb n nt:Nat)(back:Value)(kd:B.Kd)(vb:Vs)(s:B.St)(R:Nat->B.V)(w:aa)(hF:Fr w fb cb L nx rb nr back R)(hS:kG w sb pb eb n kd vb s.2.2)(hH:B.jP kd nt n s)(hV:∀i,i<nr->B.qX kd.on n (R i))(aE:∀i,i<nr->(R i).1≠0->B.Reach nt s (R i).1)(hn:n<=200)(ha:a<nr)(hb:b<nr)(hc:c<nr)(aD:w.cell? (az eb 27)=some (P0 sb))(le:eb<w.heap.size)(Y:¬Own n kd vb eb):Calls prog 102 #[ee op a b c fb tb eb] w λe w'=>(mX vb.f s.2.2 (R a) (R b)/\e=.returned (ah 0)/\∃u,kG w' sb pb eb n (B.told kd<|(s.2.2 (R a).1).getD (R b).2.toNat (0,0)) u (B.lay s.2.2 (R a).1<|(s.2.2 (R a).1).set (R b).2.toNat<|R c)/\dN (Own n kd vb) w w'/\qB n kd vb (B.told kd<|(s.2.2 (R a).1).getD (R b).2.toNat (0,0)) u w.heap.size/\u.f=vb.f)\/(¬mX vb.f s.2.2 (R a) (R b)/\e=.returned (ah<|iW vb.f (R a)<|R b)/\w.grownBy w' none):=by
 have KF:=bj hF;have KS:=bj hS;have HH:=bj hH;have HV:=bj hV;have aN:=bj aE;have aO:=bj Y;clear hF hS hH hV aE Y;go_in;go_wp2_with fail
 have aB:=bj<|iU w op a b c fb tb eb;have a9:=bj<|aj w (.cells #[dz (op:Int),dz (a:Int),dz (b:Int),dz (c:Int),P0 fb,P0 tb,P0 eb] 186) none;generalize hW:w.alloc (.cells #[dz (op:Int),dz (a:Int),dz (b:Int),dz (c:Int),P0 fb,P0 tb,P0 eb] 186)=w1 at*;have b1:w1.heap.size=w.heap.size+1:=by rw[<-hW];simp
 clear hW;go_region_held3 (λw'=>w'.cell? (az w.heap.size 0)=some (dz (op:Int))/\w'.cell? (az w.heap.size 1)=some (dz (a:Int))/\w'.cell? (az w.heap.size 2)=some (dz (b:Int))/\w'.cell? (az w.heap.size 3)=some (dz (c:Int))/\w'.cell? (az w.heap.size 4)=some (P0 fb)/\w'.cell? (az w.heap.size 5)=some (P0 tb)/\w'.cell? (az w.heap.size 6)=some (P0 eb)) (first|exact fe aB.out|exact fe aL.out|exact fe aK.out|exact fe a6.out) (first|(go_at_call 98;refine dq (Ch op a b c fb tb eb cb L nx rb nr back R w1.drew (KF.out.kept<|bo a9.out).1 (KF.out.kept<|bo a9.out).2.1 ha) λw2 a8=>?_;have a4:=bj<|ar (bo a9.out) a8;have aL:=bj<|dw a8 (show w1.drew.heap[w.heap.size]?=_ from aB.out);clear a8)|(go_at_call 86;refine dq (sA op a b c fb tb eb cb L nx rb nr back R w2 (KF.out.kept a4.out).1 (KF.out.kept a4.out).2.1 hb) λw3 a2=>?_;have a1:=bj<|ar a4.out a2;have aK:=bj<|dw a2 aL.out;clear a2)|(go_at_call 158;refine(yL op a b c fb tb eb sb pb n (R a) (R b) kd vb s.2.2 w3 (KS.out.kept a1.out) hn (HV.out a ha) ((ay a1.out (a:=az eb 27) le).1.trans aD)<|dm le a1.out.size).mono ?_;rintro e w4 ⟨v,rfl,a5,a3⟩;have y:=bj<|ar a1.out a5;have a6:=bj<|dw a5 aK.out;obtain⟨pv,wy,rfl⟩:∃(pv:Value) (wy:Int),v=.tuple #[pv,ah wy]:=(by rcases a3 with⟨_,h⟩|⟨_,h⟩;exact⟨_,_,h⟩;exact⟨_,_,h⟩);have aR:=bj a3;clear a5 a3))
 all_goals
  rcases aR.out with⟨J,he⟩|⟨J,he⟩
  .have aA:=bj J;obtain⟨o1,ok,o2,o3,o4⟩:=id J;have hp:1<=(R a).1/\(R a).1<=n/\kd.on (R a).1=true:=by
    rcases HV.out a ha with h|h
    .exact dr h o1
    exact⟨h.1,h.2.1,h.2.2.1⟩
   injection he with he;injection he with he;injection he with a7 o;injection o with o _;injection o with _ o;subst a7 o;obtain⟨i,hi⟩:∃i:Nat,(R b).2=(i:Int):=⟨(R b).2.toNat,af⟩;obtain⟨k,hk⟩:∃k,(R a).1=k+1:=⟨(R a).1-1,af⟩;have aM:i<(s.2.2<|k+1).length:=by rw[hi,hk]at o4;omega
   have aH:B.Reach nt s (k+1):=by rw[<-hk];exact aN.out a ha o1
   have aC:∀w':aa,w.grownBy w' none->eN 160 #[P0 sb,vA<|R a,ah (R b).2,vA<|R c] w' λw''=>∃u,kG w'' sb pb eb n (B.told kd<|(s.2.2 (R a).1).getD (R b).2.toNat (0,0)) u (B.lay s.2.2 (R a).1<|(s.2.2 (R a).1).set (R b).2.toNat<|R c)/\dN (Own n kd vb) w' w''/\qB n kd vb (B.told kd<|(s.2.2 (R a).1).getD (R b).2.toNat (0,0)) u w'.heap.size/\u.f=vb.f:=by
    intro w' hg;have e1:R a=(k+1,(R a).2):=gh hk rfl;rw[hk,hi];have:=yM sb pb eb n nt k i (R a).2 (R c) kd vb s w' (KS.out.kept hg) HH.out hn af aH aM;rw[<-e1]at this;exact this
   have aV:=bj aC;generalize aJ:(R b).2=yy at*;have aG:=bj aJ;clear aJ;clear J ok o1 o2 o3 o4 hp hi hk aM aC aH;obtain⟨x0,x1,x2,x3,x4,x5,x6⟩:=fe a6.out;have lx:=ch a6.out;have Y:¬Own n kd vb eb:=aO.out;have aQ:Hid (∀x,Own n kd vb x->x<w.heap.size):=KS.out.lt;have G:¬Own n kd vb w.heap.size:=λh=>by have:=aQ.out _ h;omega
   have HS:Hid (∀w':aa,dN (Own n kd vb) w4 w'->(w'.cell? (az w.heap.size 0)=some (dz (op:Int))/\w'.cell? (az w.heap.size 1)=some (dz (a:Int))/\w'.cell? (az w.heap.size 2)=some (dz (b:Int))/\w'.cell? (az w.heap.size 3)=some (dz (c:Int))/\w'.cell? (az w.heap.size 4)=some (P0 fb)/\w'.cell? (az w.heap.size 5)=some (P0 tb)/\w'.cell? (az w.heap.size 6)=some (P0 eb)/\w'.cell? (az eb 27)=some (P0 sb))):=
    λw' hO=>⟨(hO.cell lx G).trans x0,(hO.cell lx G).trans x1,(hO.cell lx G).trans x2,(hO.cell lx G).trans x3,(hO.cell lx G).trans x4,(hO.cell lx G).trans x5,(hO.cell lx G).trans x6,(hO.cell af Y).trans<|(ay y.out (a:=az eb 27) le).1.trans aD⟩
   have aP:=bj<|HS.out w4.drew<|dx _ _;have Z:=bj<|KF.out.kept y.out;go_wp2_with fail
   go_region_held3 (λw'=>w'.cell? (az w.heap.size 0)=some (dz (op:Int))/\w'.cell? (az w.heap.size 1)=some (dz (a:Int))/\w'.cell? (az w.heap.size 2)=some (dz (b:Int))/\w'.cell? (az w.heap.size 3)=some (dz (c:Int))/\w'.cell? (az w.heap.size 4)=some (P0 fb)/\w'.cell? (az w.heap.size 5)=some (P0 tb)/\w'.cell? (az w.heap.size 6)=some (P0 eb)/\w'.cell? (az eb 27)=some (P0 sb)) (first|exact aP.out|exact aX.out|exact aZ.out|exact aS.out) (first|(go_at_call 98;refine dq (Ch op a b c fb tb eb cb L nx rb nr back R w4.drew (Z.out.kept<|bo<|aw _ _).1 (Z.out.kept<|bo<|aw _ _).2.1 ha) λw5 H=>?_;have a0:Hid (w4.grownBy w5 none):=⟨H.os,H.tape,H.output,H.size,H.block⟩;have aX:=bj<|HS.out w5<|eA a0.out;clear H)|(go_at_call 94;refine dq (tP op a b c fb tb eb cb L nx rb nr back R w5 (Z.out.kept a0.out).1 (Z.out.kept a0.out).2.1 hc) λw6 aI=>?_;have W:=bj<|ar a0.out aI;have aZ:=bj<|HS.out w6<|eA W.out;clear aI)|(go_at_call 160;refine dq (aV.out w6<|ar y.out W.out) ?_;rintro w7 ⟨u,k1,k2,k3,k4⟩;have aS:=bj<|HS.out w7<|(eA (S:=Own n kd vb) W.out).trans k2<|λ_ h _=>h;have HR:=bj<|bh k1<|bh ((eA (S:=Own n kd vb)<|ar y.out W.out).trans k2<|λ_ h _=>h) k3;have aT:=bj k4;have aW:w.heap.size<=w6.heap.size:=(ar y.out W.out).size;clear k1 k2 k3 k4))
   all_goals
    go_wp2_with fail
    go_ret;refine ag ⟨aA.out,rfl,u,?_,HR.out.2.1,λx hx=>?_,aT.out⟩
    .rw[aG.out];exact HR.out.1
    rw[aG.out]at hx;exact(HR.out.2.2 x hx).imp id<|λh=>dQ aW h
  have aY:=uJ vb.f (R a)<|R b;generalize aF:iW vb.f (R a) (R b)=why at*;have aU:=bj aF;injection he with he;injection he with he;injection he with a7 o;injection o with o _;injection o with _ o;subst a7 o;have aA:=bj J;have b0:¬((why:Int)=0):=af
  clear J aF aY;go_wp2_with fail
  go_ret;exact ak ⟨aA.out,kh aU.out,y.out⟩
