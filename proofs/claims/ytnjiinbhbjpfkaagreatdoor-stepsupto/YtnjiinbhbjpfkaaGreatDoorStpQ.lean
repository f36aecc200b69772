import Derived.Test.YtnjiinbhbjpfkaaGreatDoorStpP
set_option maxRecDepth 100000
set_option maxHeartbeats 0
set_option linter.all false
namespace Go.Proofs.YtnjiinbhbjpfkaaGreatDoor
open Go.RowKit Go.Proofs.Tryz
namespace F
def Fb.put(f:Fb)(p vg t:Nat):Fb:=⟨λq=>if q=p then vg else f.b q,λq=>if q=p then t else f.k q⟩
def Vs.put(vb:Vs)(p vg t:Nat):Vs:={ vb with f:=vb.f.put p vg t }
def vJ(t:Nat):Value:=.int .i64 ((t-1:Nat):Int)
theorem EI(kd:Nat->Bool)(vb:Fb)(M:Nat->List B.V)(k i t j:Nat)(l:List B.V): ep (ep (ep (iM kd vb M) (k*3) (tZ true t)) (k*3+1) (vJ t)) (k*3+2) (.slice (some ⟨i,0,none⟩) l.length l.length) j=iM (B.mark kd (k+1)) (vb.put (k+1) i t) (B.lay M (k+1) (l)) j:=by
 by_cases o:j=k*3+2
 .subst o;rw[gf,sQ,B.je,B.gl];simp[oL,Fb.put]
 rw [eG _ _ _ _ o];by_cases u:j=k*3+1
 .subst u;rw[gf,zH,B.je];simp[DD,vJ,Fb.put]
 rw [eG _ _ _ _ u];by_cases y:j=k*3
 .subst y;rw[gf,zI,B.je];simp[Fb.put]
 rw [eG _ _ _ _ y];have e:j / 3+1≠k+1:=by omega
 unfold iM;rw[B.fg _ _ _ e,B.fq _ _ _ _ e];simp only[Fb.put,aa e]
theorem xf{w w':World}{pb n k o t:Nat}{l:List B.V}{on:Nat->Bool}{f:Fb}{M:Nat->List B.V}(h:ow w pb n on f M)(J:l.length<=8)(ht:t≠0->l.length=1)(W:Full w' o 149 (l.length*2) (l.length*2) (eC (λi=>l.getD i (0,0))))(hn:∀p,1<=p->p<=n->on p=true->f.b p≠o)(hP:Full w' pb 228 (n*3) (n*3) (ep (ep (ep (iM on f M) (k*3) (tZ true t)) (k*3+1) (vJ t)) (k*3+2) (.slice (some ⟨o,0,none⟩) l.length l.length)))(H:∀p,1<=p->p<=n->on p=true->w'.heap[f.b p]? = w.heap[f.b p]?): ow w' pb n (B.mark on (k+1)) (f.put (k+1) o t) (B.lay M (k+1) (l)):=by
 refine⟨hP.congr (λj _=>EI on f M k o t j l),λp a c d=>?_,λp q a c d e g i j=>?_,λp a=>?_,λp a y=>?_⟩
 .by_cases e:p=k+1
  .subst e;simp only[Fb.put,if_true,B.gl];refine W.congr (λj _=>?_);unfold eC jQ;rw[B.gl]
  rw [B.fg _ _ _ e]at d;simp only[Fb.put,aa e];unfold jQ;rw[B.fq _ _ _ _ e];exact(h.s p a c d).block (H p a c d)
 .have j:(if p=k+1 then o else f.b p)=(if q=k+1 then o else f.b q):=j;by_cases G:p=k+1
  .by_cases u:q=k+1
   .omega
   rw [aj G,aa u]at j;rw[B.fg _ _ _ u]at i;exact ch j.symm (hn q d e i)
  by_cases u:q=k+1
  .rw [aa G,aj u]at j;rw[B.fg _ _ _ G]at g;exact ch j (hn p a c g)
  rw [aa G,aa u]at j;rw[B.fg _ _ _ G]at g;rw[B.fg _ _ _ u]at i;exact h.i p q a c d e g i j
 .by_cases e:p=k+1
  .subst e;rw[B.gl];exact J
  rw [B.fg _ _ _ e]at a;rw[B.fq _ _ _ _ e];exact h.l p a
 have y:(if p=k+1 then t else f.k p)≠0:=y;by_cases e:p=k+1
 .subst e;rw[B.gl];rw[aj rfl]at y;exact ht y
 rw [B.fg _ _ _ e]at a;rw[aa e]at y;rw[B.fq _ _ _ _ e];exact h.k p a y
def Gj(nr n:Nat)(s:B.St)(kd kd1:B.Kd):Prop:=
 kd1=kd\/((∀p,1<=p->p<=n->kd.on p=true)/\kd1.cy=none/\kd1.un=kd.un/\kd1.fo=kd.fo+1/\kd1.cc=kd.cc/\∀p,1<=p->p<=n->(kd1.on p=true↔B.Reach nr s p))
def LI(w w':World)(sb pb eb n nr vg t:Nat)(l:List B.V)(kd:B.Kd)(vb:Vs)(s:B.St)(e:Ending):Prop:=
 dy (pP sb pb n kd vb) w w' /\
 ((∃(k:Nat) (kd1:B.Kd),k<n/\kd1.on (k+1)=false/\B.iZ kd1 nr n s/\Gj nr n s kd kd1/\e=.returned (.tuple #[.agg #[.int .i64 ((k:Int)+1),.int .i64 0],.bool true])/\jm w' sb pb eb n (B.laid kd1 (k+1)) (vb.put (k+1) vg t) (B.lay s.2.2 (k+1) (l))/\∀x,Own n (B.laid kd1 (k+1)) (vb.put (k+1) vg t) x->Own n kd vb x\/x=vg) \/
  (e=.returned (.tuple #[.agg #[.int .i64 0,.int .i64 0],.bool false])/\(∀p,1<=p->p<=n->B.Reach nr s p)/\∃kd1,jm w' sb pb eb n kd1 vb s.2.2/\B.iZ kd1 nr n s/\∀x,Own n kd1 vb x->Own n kd vb x))
theorem sS{n k u t x:Nat}{kd:B.Kd}{vb:Vs}(h:Own n (B.laid kd (k+1)) (vb.put (k+1) u t) x):Own n kd vb x\/x=u:=by
 rcases h with⟨p,a,b,d,e⟩|⟨H,J⟩
 .by_cases y:p=k+1
  .subst y;right
   have o:(if k+1=k+1 then u else vb.f.b (k+1))=x:=e;rw[aj rfl]at o;exact o.symm
  left
  have G:B.mark kd.on (k+1) p=true:=d;rw[B.fg _ _ _ y]at G;have o:(if p=k+1 then u else vb.f.b p)=x:=e;rw[aa y]at o;exact ag ⟨p,a,b,G,o⟩
 left
 refine ab ⟨?_,J⟩;have i:(kd.cy.map (λc:B.Cy=>(⟨B.mark c.m (k+1),c.st,c.nx⟩:B.Cy))).isSome=true:=H;rw[Option.isSome_map]at i;exact i
theorem tG(kd:B.Kd)(vb:Vs)(p e t:Nat):yg (B.laid kd p) (vb.put p e t)=yg kd vb:=by
 unfold yg B.laid Vs.put;simp only[Option.isSome_map]
theorem zY(Q:Nat->Prop)(eb sb pb n nr vg t:Nat)(l:List B.V)(kd:B.Kd)(vb:Vs)(s:B.St)(w:World)(hR:BG w Q eb sb pb n nr kd vb s)(hv:Full w vg 149 (l.length*2) (l.length*2) (eC (λi=>l.getD i (0,0))))(aI:l.length<=8)(ht:t≠0->l.length=1)(c4:¬Own n kd vb vg): Calls prog 199 #[P0 sb,.agg #[tZ true t,vJ t,.slice (some ⟨vg,0,none⟩) l.length l.length]] w λe w'=>LI w w' sb pb eb n nr vg t l kd vb s e:=by
 have KR:=az hR;have hn:=hR.n2;have lp:=hR.hs.p.p.lt;have ls:=bz hR.hs.b;have HV:=az hv;have bN:=az c4;have HT:=az ht;obtain⟨ya,b8⟩:∃y:Int,tZ true t=.int .u8 y:=⟨_,rfl⟩;obtain⟨yb,b7⟩:∃y:Int,vJ t=.int .i64 y:=⟨_,rfl⟩;rw[b8,b7];have bU:=az b8;have c3:=az b7;go_in;go_wp2_with fail
 generalize hW:(w.alloc (.cells #[.int .u8 ya,.int .i64 yb,.slice (some ⟨vg,0,none⟩) l.length l.length] 228)).alloc (.cells #[.int .i64 0,.int .i64 0] 149)=w1;have aO:Hid (w.grownBy w1 none):=by rw[<-hW];exact au (ah _ _ _) _
 have x0:w1.heap[w.heap.size]? = some (.cells #[.int .u8 ya,.int .i64 yb,.slice (some ⟨vg,0,none⟩) l.length l.length] 228 (0,0)):=by rw[<-hW,ak _ _ _ (by simp)];exact bf w _
 have x1:w1.heap[w.heap.size+1]? = some (.cells #[.int .i64 0,.int .i64 0] 149 (0,0)):=by
  rw[<-hW];have:=bf (w.alloc (.cells #[.int .u8 ya,.int .i64 yb,.slice (some ⟨vg,0,none⟩) l.length l.length] 228)) (.cells #[.int .i64 0,.int .i64 0] 149);simpa using this
 have aL:=az (ay x0 x1);have aK:=az (KR.kept aO);refine(oE sb pb n kd.on vb.f s.2.2 w1 aK.hs.c0 aK.hs.p hn).mono ?_;rintro e w2 ⟨a7,⟨k,hk,aR,rfl⟩|⟨a4,rfl⟩⟩
 .have aH:=az (an aO a7);have H:=az (aK.hs.kept a7);have aJ:=az (ay (cm a7 aL.1 (by intro e;cases e)) (cm a7 aL.2 (by intro e;cases e)));have HQ:Hid (k<n/\kd.on (k+1)=false/\B.iZ kd nr n s/\Gj nr n s kd kd):=⟨hk,aR,KR.hh,ag rfl⟩;have bM:Hid (dy (pP sb pb n kd vb) w w2):=dU aH;have bR:=az (HV.block (aH.block vg HV.lt (by intro e;cases e)));have a3:Hid (∀x,Own n kd vb x->Own n kd vb x):=λ_ h=>h;obtain⟨p0,z0⟩:=H.p.p.cells (k*3) (by omega);obtain⟨p1,z1⟩:=H.p.p.cells (k*3+1) (by omega);obtain⟨p2,z2⟩:=H.p.p.cells (k*3+2) (by omega);generalize iM kd.on vb.f s.2.2 (k*3)=y0 at p0;generalize iM kd.on vb.f s.2.2 (k*3+1)=y1 at p1;generalize iM kd.on vb.f s.2.2 (k*3+2)=y2 at p2;have s0:=H.c0;have cF:(k:Int)<n:=by omega
  have c8:¬((k:Int)<0):=by omega
  have a6:=aJ.1;have Y:=aJ.2;have b0:w2.cell? ⟨w.heap.size,0,none⟩=some (.int .u8 ya):=by simp[World.cell?,a6]
  have b1:w2.cell? ⟨w.heap.size,1,none⟩=some (.int .i64 yb):=by simp[World.cell?,a6]
  have b2:w2.cell? ⟨w.heap.size,2,none⟩=some (.slice (some ⟨vg,0,none⟩) l.length l.length):=by simp[World.cell?,a6]
  have np:¬w.heap.size+1=pb:=by omega
  have aY:¬pb=w.heap.size+1:=by omega
  go_wp2_with fail
  go_region
  generalize a5:World.drew (((w2.setCell ⟨pb,k*3,none⟩ (.int .u8 ya)).setCell ⟨pb,k*3+1,none⟩ (.int .i64 yb)).setCell ⟨pb,k*3+2,none⟩ (.slice (some ⟨vg,0,none⟩) l.length l.length))=w5;have a1:∀x,x≠pb->w5.heap[x]? = w2.heap[x]?:=by
   intro x o;rw[<-a5];show(World.setCell _ _ _).heap[x]? = _;rw[af _ _ _ _ o,af _ _ _ _ o,af _ _ _ _ o]
  have b6:Hid (Full w5 pb 228 (n*3) (n*3) (ep (ep (ep (iM kd.on vb.f s.2.2) (k*3) (.int .u8 ya)) (k*3+1) (.int .i64 yb)) (k*3+2) (.slice (some ⟨vg,0,none⟩) l.length l.length))):=by
   show Full _ _ _ _ _ _;rw[<-a5];exact((H.p.p.ep (k*3) (.int .u8 ya)).ep (k*3+1) (.int .i64 yb)).ep (k*3+2) (.slice (some ⟨vg,0,none⟩) l.length l.length)
  have aU:Hid (dy (pP sb pb n kd vb) w w5):=by
   show dy _ _ _;rw[<-a5];exact qi (bm (bm (bm bM (ag (ab (ag rfl))) _) (ag (ab (ag rfl))) _) (ag (ab (ag rfl))) _)
  have aX:=az ((a1 _ np).trans Y);have aP:=az ((a1 sb H.ju.1).trans H.b);have bW:=az a1;have bJ:=az (bR.block (a1 vg (by obtain⟨cu,h,_⟩:=bR;obtain⟨cG,h',_⟩:=H.p.p;exact dW h h' (by decide))));have aW:=az (xf H.p aI HT bJ (λp a c d e=>bN (by rw[<-e];exact a3 _ (ag ⟨p,a,c,d,rfl⟩))) (by rw[bU.out,c3.out];exact b6) (λp a c d=>a1 _ (H.ju.2 _ (ag ⟨p,a,c,d,rfl⟩)).2));go_wp2_with fail
  refine(DX k (by omega) _).mono ?_;rintro e u ⟨rfl,aC⟩;have G:=cm aC aP (by intro e;cases e);have a0:=cm aC aX (by intro e;cases e);have a2:=az aC;have aF:=az G;have d2:u.cell? ⟨sb,2,none⟩=some (yg kd vb):=by simp[World.cell?,G]
  have r0:u.cell? ⟨w.heap.size+1,0,none⟩=some (.int .i64 0):=by simp[World.cell?,a0]
  have r1:u.cell? ⟨w.heap.size+1,1,none⟩=some (.int .i64 0):=by simp[World.cell?,a0]
  have t0:u.frozen? ⟨w.heap.size+1,0,none⟩=false:=by simp[World.frozen?,a0]
  have t1:u.frozen? ⟨w.heap.size+1,1,none⟩=false:=by simp[World.frozen?,a0]
  have bV:=bz G;have bG:=bz a0;rcases hcy:kd.cy with _|c
  .rw [mx hcy]at d2;have a8:=az hcy;go_wp2_with fail
   refine da (v:=.tuple #[.agg #[.int .i64 ((k:Int)+1),.int .i64 0],.bool true]) (by simp[results,results199,go_sem,r0,r1,bG]) rfl ?_;have W:∀x,x≠w.heap.size+1->x<u.heap.size->(((u.setCell ⟨w.heap.size+1,0,none⟩ (.int .i64 ((k:Int)+1))).setCell ⟨w.heap.size+1,1,none⟩ (.int .i64 0)).alloc (.cells #[.int .i64 ((k:Int)+1),.int .i64 0] 149)).heap[x]? = u.heap[x]?:=λx o hl=>by
    rw[ak _ _ _ (by simp[World.setCell];exact hl),af _ _ _ _ o,af _ _ _ _ o]
   have aD:=λx h=>KR.hs.lt x (a3 x h);have b5:=HV.lt;refine⟨?_,ag ⟨k,kd,HQ.1,HQ.2.1,HQ.2.2.1,HQ.2.2.2,rfl,⟨?_,?_,λc hc=>?_⟩,λx o=>(sS o).imp (a3 x) id⟩⟩
   .exact gF (bm (bm (aU.gR a2) (ab (by simp)) _) (ab (by simp)) _) _
   .rw [tG];exact(W sb (by omega) (by omega)).trans aF
   .refine (aW.kept a2).block (W pb aY (by omega)) (λp a c d=>?_);by_cases e:p=k+1
    .simp only[Fb.put,aj e];exact W vg (by omega) (by omega)
    simp only[Fb.put,aa e];rw[B.fg _ _ _ e]at d;have:=aD _ (ag ⟨p,a,c,d,rfl⟩);exact W _ (by omega) (by omega)
   have aE:kd.cy.map (λc:B.Cy=>(⟨B.mark c.m (k+1),c.st,c.nx⟩:B.Cy))=some c:=hc;rw[a8.out]at aE;cases aE
  rw [mu hcy]at d2;have a8:=az hcy;have bD:=((H.c c a8).block (λx o=>bW x (H.ju.2 x (ab ⟨by rw[a8.out];rfl,o⟩)).2)).kept a2;have cH:=az bD;have aD:=λx h=>KR.hs.lt x (a3 x h);have bP:=az aD;have cS:=aD _ (ab ⟨by rw[a8.out];rfl,ab (ag rfl)⟩);have cL:=az (cm a2 aX (by intro e;cases e));have cB:Hid (kY (u.alloc (.cells #[.int .i64 ((k:Int)+1),.int .i64 0] 149)).drew vb.cb vb.rd sb n vb.ad vb.cap c):=(bD.kept (ah u (.cells #[.int .i64 ((k:Int)+1),.int .i64 0] 149) none)).block (λ_ _=>rfl);have cK:Hid (∀w8:World,(u.alloc (.cells #[.int .i64 ((k:Int)+1),.int .i64 0] 149)).drew.grownBy w8 (some vb.rd)->u.grownBy w8 (some vb.rd)/\w8.cell? ⟨w.heap.size+1,0,none⟩=some (.int .i64 0)/\w8.cell? ⟨w.heap.size+1,1,none⟩=some (.int .i64 0)/\w8.frozen? ⟨w.heap.size+1,0,none⟩=false/\w8.frozen? ⟨w.heap.size+1,1,none⟩=false/\w.heap.size+1<w8.heap.size/\w8.cell? ⟨u.heap.size,0,none⟩=some (.int .i64 ((k:Int)+1))/\w8.cell? ⟨u.heap.size,1,none⟩=some (.int .i64 0)/\u.heap.size<w8.heap.size):=by
   intro w8 a9;have aG:=an (ah u (.cells #[.int .i64 ((k:Int)+1),.int .i64 0] 149) _) ⟨a9.os,a9.tape,a9.output,a9.size,a9.block⟩;have aQ:=cm aG cL (by intro e;injection e with e;omega);have cQ:u.heap.size+1<=w8.heap.size:=by have:=a9.size;simpa[World.drew] using this
   have c6:=(a9.block u.heap.size (by simp[World.drew]) (by intro e;injection e with e;omega)).trans (bf u _);exact⟨aG,by simp[World.cell?,aQ],by simp[World.cell?,aQ],by simp[World.frozen?,aQ],by simp[World.frozen?,aQ],bz aQ,by simp[World.cell?,c6],by simp[World.cell?,c6],by omega⟩
  go_wp2_with fail
  go_region_with (go_at_call 221;refine(Bd vb.cb vb.rd sb n k vb.ad vb.cap c 0 _ cB hk hn).mono ?_;rintro e w8 ⟨rfl,bQ,a9⟩;obtain⟨aG,q0,q1,v0,v1,cP,n0,n1,cR⟩:=cK w8 a9;have bO:=az aG;have cJ:=az bQ;clear a9 aG bQ)
  all_goals
   go_wp2_with fail
   refine da (v:=.tuple #[.agg #[.int .i64 ((k:Int)+1),.int .i64 0],.bool true]) (by simp[results,results199,go_sem,q0,q1]) rfl ?_;have W:∀x,x≠w.heap.size+1->((w8.setCell ⟨w.heap.size+1,0,none⟩ (.int .i64 ((k:Int)+1))).setCell ⟨w.heap.size+1,1,none⟩ (.int .i64 0)).heap[x]? = w8.heap[x]?:=λx o=>by
    rw[af _ _ _ _ o,af _ _ _ _ o]
   have aI:∀x,x<u.heap.size->x≠vb.rd->w8.heap[x]? = u.heap[x]?:=λx o hn=>bO.block x o (by intro e;injection e with e;exact hn e);have b5:=HV.lt;have bC:∀(x:Nat) (bS:Array Value) (T:TypeId),u.heap[x]? = some (.cells bS T (0,0))->T≠4->x≠vb.rd:=λx bS T o hT=>by
    obtain⟨cu,h,_⟩:=cH.r;exact dW o h hT
   refine⟨?_,ag ⟨k,kd,HQ.1,HQ.2.1,HQ.2.2.1,HQ.2.2.2,rfl,⟨?_,?_,λc' hc=>?_⟩,λx o=>(sS o).imp (a3 x) id⟩⟩
   .refine bm (bm ((aU.gR a2).then bO (ag (ab (ab (a3 _ (ab ⟨by rw[a8.out];rfl,ab (ag rfl)⟩)))))) (ab (by simp)) _) (ab (by simp)) _
   .rw [tG];exact((W sb (by omega)).trans (aI sb (by omega) (bC _ _ _ aF (by decide)))).trans aF
   .have bB:=aW.kept a2;refine bB.block ((W pb aY).trans (aI pb (by omega) ?_)) (λp a c d=>?_)
    .obtain ⟨cu,h,_⟩:=bB.p;exact bC _ _ _ h (by decide)
    obtain ⟨cu,h,_⟩:=bB.s p a c d;have hl:(vb.f.put (k+1) vg t).b p<w.heap.size:=by
     show(if p=k+1 then vg else vb.f.b p)<w.heap.size;by_cases e:p=k+1
     .rw [aj e];exact b5
     rw [aa e];rw[B.fg _ _ _ e]at d;exact bP _ (ag ⟨p,a,c,d,rfl⟩)
    exact(W _ (by omega)).trans (aI _ (by omega) (bC _ _ _ h (by decide)))
   have aE:kd.cy.map (λc:B.Cy=>(⟨B.mark c.m (k+1),c.st,c.nx⟩:B.Cy))=some c':=hc;rw[a8.out]at aE;have e:(⟨B.mark c.m (k+1),c.st,c.nx⟩:B.Cy)=c':=by injection aE
   subst e;exact cJ.block (λx o=>W x (by
    have:=bP x (ab ⟨by rw[a8.out];rfl,o⟩);omega))
 have aH:=az (an aO a7);have aJ:=az (ay (cm a7 aL.1 (by intro e;cases e)) (cm a7 aL.2 (by intro e;cases e)));have aV:=az (aK.kept a7);have cC:=az a4;go_wp2_with fail
 refine(Bm Q eb sb pb n nr kd vb s w2 aV).mono ?_;rintro e w3 ⟨rfl,on,hm,bA,bI,aS,bY⟩;have Km:=az (ay hm (ay bA bI));have aN:=az bY;have b4:Hid (dy (pP sb pb n kd vb) w w3):=(dU aH).trans aS (λx h _=>h.elim ag (λh=>ab (ag h)));have aZ:=az (ay (aS.block aJ.1 (by omega)) (aS.block aJ.2 (by omega)));have bL:Hid (Full w3 vg 149 (l.length*2) (l.length*2) (eC (λi=>l.getD i (0,0)))):=by
  have bE:=HV.block (aH.block vg HV.lt (by intro e;cases e));refine bE.block (aS.same bE.lt ?_);obtain⟨cM,c7,_⟩:=bE;rintro(h|h)
  .exact dW c7 aV.hs.b (by decide) h
  obtain ⟨cN,cD,_⟩:=aV.hs.p.p;exact dW c7 cD (by decide) h
 have a3:Hid (∀x,Own n ⟨on,none,kd.un,kd.fo+1,kd.cc⟩ vb x->Own n kd vb x):=λx o=>by
  rcases o with⟨p,a,b,d,e⟩|⟨h,_⟩
  .exact ag ⟨p,a,b,bA p d,e⟩
  cases h
 have bZ:=az (B.yR KR.hh bI);go_wp2_with fail
 refine(oE sb pb n on vb.f s.2.2 w3 aN.c0 aN.p hn).mono ?_;rintro e w4 ⟨aA,⟨k,hk,aR,rfl⟩|⟨a4,rfl⟩⟩
 .generalize aB:(⟨on,none,kd.un,kd.fo+1,kd.cc⟩:B.Kd)=Z at *;have b9:Z.on=on:=by rw[<-aB]
  have aM:Hid (Z.cy=none):=by show _=_;rw[<-aB]
  have HQ:Hid (k<n/\Z.on (k+1)=false/\B.iZ Z nr n s/\Gj nr n s kd Z):=⟨hk,by rw[b9];exact aR,bZ,ab ⟨cC,aM,by rw[<-aB],by rw[<-aB],by rw[<-aB],by rw[b9];exact Km.1⟩⟩;have J:=az (aN.kept aA);have bT:=az (ay (cm aA aZ.1 (by intro e;cases e)) (cm aA aZ.2 (by intro e;cases e)));have aT:=az (b4.gR aA);have bX:=az (bL.block (aA.block vg bL.lt (by intro e;cases e)));obtain⟨p0,z0⟩:=J.p.p.cells (k*3) (by omega);obtain⟨p1,z1⟩:=J.p.p.cells (k*3+1) (by omega);obtain⟨p2,z2⟩:=J.p.p.cells (k*3+2) (by omega);generalize iM Z.on vb.f s.2.2 (k*3)=y0 at p0;generalize iM Z.on vb.f s.2.2 (k*3+1)=y1 at p1;generalize iM Z.on vb.f s.2.2 (k*3+2)=y2 at p2;have s0:=J.c0;have cF:(k:Int)<n:=by omega
  have c8:¬((k:Int)<0):=by omega
  have a6:=bT.1;have Y:=bT.2;have b0:w4.cell? ⟨w.heap.size,0,none⟩=some (.int .u8 ya):=by simp[World.cell?,a6]
  have b1:w4.cell? ⟨w.heap.size,1,none⟩=some (.int .i64 yb):=by simp[World.cell?,a6]
  have b2:w4.cell? ⟨w.heap.size,2,none⟩=some (.slice (some ⟨vg,0,none⟩) l.length l.length):=by simp[World.cell?,a6]
  have np:¬w.heap.size+1=pb:=by omega
  have aY:¬pb=w.heap.size+1:=by omega
  go_wp2_with fail
  go_region
  generalize a5:World.drew (((w4.setCell ⟨pb,k*3,none⟩ (.int .u8 ya)).setCell ⟨pb,k*3+1,none⟩ (.int .i64 yb)).setCell ⟨pb,k*3+2,none⟩ (.slice (some ⟨vg,0,none⟩) l.length l.length))=w5;have a1:∀x,x≠pb->w5.heap[x]? = w4.heap[x]?:=by
   intro x o;rw[<-a5];show(World.setCell _ _ _).heap[x]? = _;rw[af _ _ _ _ o,af _ _ _ _ o,af _ _ _ _ o]
  have b6:Hid (Full w5 pb 228 (n*3) (n*3) (ep (ep (ep (iM Z.on vb.f s.2.2) (k*3) (.int .u8 ya)) (k*3+1) (.int .i64 yb)) (k*3+2) (.slice (some ⟨vg,0,none⟩) l.length l.length))):=by
   show Full _ _ _ _ _ _;rw[<-a5];exact((J.p.p.ep (k*3) (.int .u8 ya)).ep (k*3+1) (.int .i64 yb)).ep (k*3+2) (.slice (some ⟨vg,0,none⟩) l.length l.length)
  have aU:Hid (dy (pP sb pb n kd vb) w w5):=by
   show dy _ _ _;rw[<-a5];exact qi (bm (bm (bm aT (ag (ab (ag rfl))) _) (ag (ab (ag rfl))) _) (ag (ab (ag rfl))) _)
  have aX:=az ((a1 _ np).trans Y);have aP:=az ((a1 sb J.ju.1).trans J.b);have bJ:=az (bX.block (a1 vg (by obtain⟨cu,h,_⟩:=bX;obtain⟨cG,h',_⟩:=J.p.p;exact dW h h' (by decide))));have aW:=az (xf J.p aI HT bJ (λp a c d e=>bN (by rw[<-e];exact a3 _ (ag ⟨p,a,c,d,rfl⟩))) (by rw[bU.out,c3.out];exact b6) (λp a c d=>a1 _ (J.ju.2 _ (ag ⟨p,a,c,d,rfl⟩)).2));go_wp2_with fail
  refine(DX k (by omega) _).mono ?_;rintro e u ⟨rfl,aC⟩;have G:=cm aC aP (by intro e;cases e);have a0:=cm aC aX (by intro e;cases e);have a2:=az aC;have aF:=az G;have d2:u.cell? ⟨sb,2,none⟩=some (yg Z vb):=by simp[World.cell?,G]
  have r0:u.cell? ⟨w.heap.size+1,0,none⟩=some (.int .i64 0):=by simp[World.cell?,a0]
  have r1:u.cell? ⟨w.heap.size+1,1,none⟩=some (.int .i64 0):=by simp[World.cell?,a0]
  have t0:u.frozen? ⟨w.heap.size+1,0,none⟩=false:=by simp[World.frozen?,a0]
  have t1:u.frozen? ⟨w.heap.size+1,1,none⟩=false:=by simp[World.frozen?,a0]
  have bV:=bz G;have bG:=bz a0;have a8:=aM;rw[mx aM]at d2;go_wp2_with fail
  refine da (v:=.tuple #[.agg #[.int .i64 ((k:Int)+1),.int .i64 0],.bool true]) (by simp[results,results199,go_sem,r0,r1,bG]) rfl ?_;have W:∀x,x≠w.heap.size+1->x<u.heap.size->(((u.setCell ⟨w.heap.size+1,0,none⟩ (.int .i64 ((k:Int)+1))).setCell ⟨w.heap.size+1,1,none⟩ (.int .i64 0)).alloc (.cells #[.int .i64 ((k:Int)+1),.int .i64 0] 149)).heap[x]? = u.heap[x]?:=λx o hl=>by
   rw[ak _ _ _ (by simp[World.setCell];exact hl),af _ _ _ _ o,af _ _ _ _ o]
  have aD:=λx h=>KR.hs.lt x (a3 x h);have b5:=HV.lt;refine⟨?_,ag ⟨k,Z,HQ.1,HQ.2.1,HQ.2.2.1,HQ.2.2.2,rfl,⟨?_,?_,λc hc=>?_⟩,λx o=>(sS o).imp (a3 x) id⟩⟩
  .exact gF (bm (bm (aU.gR a2) (ab (by simp)) _) (ab (by simp)) _) _
  .rw [tG];exact(W sb (by omega) (by omega)).trans aF
  .refine (aW.kept a2).block (W pb aY (by omega)) (λp a c d=>?_);by_cases e:p=k+1
   .simp only[Fb.put,aj e];exact W vg (by omega) (by omega)
   simp only[Fb.put,aa e];rw[B.fg _ _ _ e]at d;have:=aD _ (ag ⟨p,a,c,d,rfl⟩);exact W _ (by omega) (by omega)
  have aE:Z.cy.map (λc:B.Cy=>(⟨B.mark c.m (k+1),c.st,c.nx⟩:B.Cy))=some c:=hc;rw[a8.out]at aE;cases aE
 have aT:=az (b4.gR aA);have Y:=cm aA aZ.2 (by intro e;cases e);have r0:w4.cell? ⟨w.heap.size+1,0,none⟩=some (.int .i64 0):=by simp[World.cell?,Y]
 have r1:w4.cell? ⟨w.heap.size+1,1,none⟩=some (.int .i64 0):=by simp[World.cell?,Y]
 have t0:w4.frozen? ⟨w.heap.size+1,0,none⟩=false:=by simp[World.frozen?,Y]
 have t1:w4.frozen? ⟨w.heap.size+1,1,none⟩=false:=by simp[World.frozen?,Y]
 have HQ:=az (ay Km a4);have J:=az (aN.kept aA);go_wp2_with fail
 refine da (v:=.tuple #[.agg #[.int .i64 0,.int .i64 0],.bool false]) (by simp[results,results199,go_sem,r0,r1]) rfl ?_;have aD:=λx h=>KR.hs.lt x (a3 x h);refine⟨?_,ab ⟨rfl,λp a c=>(HQ.1.1 p a c).1 (HQ.2 p a c),_,J.block ?_ ?_ (λx o=>?_),bZ,a3⟩⟩
 .repeat (first|exact aT|refine bm ?_ (ab (by simp)) _)
 .rw [af _ _ _ _ (by show sb≠w.heap.size+1;omega),af _ _ _ _ (by show sb≠w.heap.size+1;omega)]
 .rw [af _ _ _ _ (by show pb≠w.heap.size+1;omega),af _ _ _ _ (by show pb≠w.heap.size+1;omega)]
 have:=aD x o;rw[af _ _ _ _ (by show x≠w.heap.size+1;omega),af _ _ _ _ (by show x≠w.heap.size+1;omega)]
end F
namespace F
abbrev yi:=Nat×Nat×Nat×Nat
def Eb(s:Pl)(x y:B.V):Prop:=x.1≠0/\s.ck x.1=0/\y.1=0/\0<=y.2/\y.2<((s.M x.1).length:Int)
def mI(s:Pl)(x y:B.V):Nat:=if x.1=0\/s.ck x.1≠0 then 2 else if y.1≠0 then 1 else 3
def kL(p:dz)(s:Pl)(t a ty:Nat)(l:List B.V)(s':Pl):Prop:=
 (∃(c:Nat) (kd1:B.Kd),1<=c/\c<=p.n/\kd1.on c=false/\B.jX kd1 p.n (eh p s) s.M/\Gj (eh p s).length p.n (B.mD (eh p s) s.M) s.kd kd1/\s'=(s.na kd1 c ty l).dx t (cr s t) ((bw s t).set a (c,0))) \/
 ((∀c,1<=c->c<=p.n->B.lS (eh p s) s.M c)/\∃kd1,B.jX kd1 p.n (eh p s) s.M/\s'=(s.tQ kd1).kj t)
def wE(s:Pl)(t o a b c:Nat)(why:Int)(s':Pl):Prop:=
 (Ek s t b c/\why=0/\s'=oO s t a (arith o ((bw s t).R b).2 ((bw s t).R c).2))\/(¬Ek s t b c/\why=1/\s'=s)
def jD(p:dz)(s:Pl)(t:Nat)(k:yi)(why:Int)(s':Pl):Prop:=
 match k.1 with
 |0=>why=0/\s'=oO s t k.2.1 (B.wide k.2.2.1 k.2.2.2)
 |1=>why=0/\s'=s.dx t (cr s t) ((bw s t).set k.2.1 ((bw s t).R k.2.2.1))
 |2=>wE s t 2 k.2.1 k.2.2.1 k.2.2.2 why s'
 |3=>wE s t 3 k.2.1 k.2.2.1 k.2.2.2 why s'
 |4=>wE s t 4 k.2.1 k.2.2.1 k.2.2.2 why s'
 |5=>wE s t 5 k.2.1 k.2.2.1 k.2.2.2 why s'
 |6=>why=0/\s'=oO s t k.2.1 (if(bw s t).R k.2.2.1=(bw s t).R k.2.2.2 then 1 else 0)
 |7=>why=0/\s'=s.dx t (cr s t) { bw s t with nx:=256*k.2.2.1+k.2.2.2 }
 |8=>why=0/\s'=s.dx t (cr s t) { bw s t with nx:=if(bw s t).R k.2.1=(0,0) then 256*k.2.2.1+k.2.2.2 else(bw s t).nx }
 |9=>why=0/\kL p s t k.2.1 0 (List.replicate k.2.2.1 (0,0)) s'
 |10=>(Eb s ((bw s t).R k.2.2.1) ((bw s t).R k.2.2.2)/\why=0/\s'=s.dx t (cr s t) ((bw s t).set k.2.1 ((s.M ((bw s t).R k.2.2.1).1).getD ((bw s t).R k.2.2.2).2.toNat (0,0))))\/(¬Eb s ((bw s t).R k.2.2.1) ((bw s t).R k.2.2.2)/\why=(mI s ((bw s t).R k.2.2.1) ((bw s t).R k.2.2.2):Nat)/\s'=s)
 |11=>(Eb s ((bw s t).R k.2.1) ((bw s t).R k.2.2.1)/\why=0/\s'=s.sK ((bw s t).R k.2.1).1 ((bw s t).R k.2.2.1).2.toNat ((bw s t).R k.2.2.2))\/(¬Eb s ((bw s t).R k.2.1) ((bw s t).R k.2.2.1)/\why=(mI s ((bw s t).R k.2.1) ((bw s t).R k.2.2.1):Nat)/\s'=s)
 |12=>why=0/\kL p s t k.2.1 (k.2.2.1+1) [(bw s t).R k.2.2.2] s'
 |13=>why=pN (iy s ((bw s t).R k.2.2.1)).2.2 (s.T t).fr.length/\s'=kP s t k
 |14=>why=0/\s'=s.back t ((bw s t).R k.2.1)
 |15=>why=Cj (iy s ((bw s t).R k.2.2.1)).2.2 s.lv.length p.mt/\s'=Ci p s t k
 |16=>why=0/\s'=s.dV 2 0 t
 |17=>why=(yv s t k.2.1).1/\s'=(yv s t k.2.1).2
 |18=>why=(yY s t k).1/\s'=(yY s t k).2
 |19=>why=(vR s t k.2.1).1/\s'=(vR s t k.2.1).2
 |20=>why=(iY s t k.2.1).1/\s'=(iY s t k.2.1).2
 |21=>why=(CB s t k).1/\s'=(CB s t k).2
 |22=>why=0/\s'=oO s t k.2.1 s.eY
 |_=>False
def N5(o:Nat):Prop:=o≠15/\o≠17/\o≠18/\o≠19/\o≠21
theorem qj{l:List (Int×Nat)}(h:l=[]):∀x,x∈l->x.2<256:=by rw[h];intro x e;cases e
def IA(p:dz)(f:Nat)(k:yi):Prop:=
 k.1<23/\k.2.1<256/\k.2.2.1<256/\k.2.2.2<256/\(k.1≠7->k.1≠16->k.2.1<p.rg f)/\(k.1=1\/(2<=k.1/\k.1<=6)\/k.1=10\/k.1=11\/k.1=13\/k.1=15\/k.1=18\/k.1=21->k.2.2.1<p.rg f) /\
 ((2<=k.1/\k.1<=6)\/k.1=10\/k.1=11\/k.1=12\/k.1=13\/k.1=15->k.2.2.2<p.rg f)/\(k.1=7\/k.1=8->256*k.2.2.1+k.2.2.2<=p.len f)/\(k.1=9->k.2.2.1<=8)/\(k.1=12->k.2.2.1<p.nf)/\N5 k.1
structure Rn(p:dz) (s:Pl) (t:Nat):Prop where
 ok:Ok p s
 lv:t∈s.lv
 run:(s.T t).run=true
section
variable {p : dz} {s : Pl} {t : Nat} (h : Rn p s t)
include h
theorem Rn.ht:fe s t:=h.ok.lt t h.lv
theorem Rn.wh:(s.T t).wh=none:=(h.ok.rn t h.ht h.run).1
theorem Rn.fw:FW p (s.T t).fr:=h.ok.fw t h.lv trivial
theorem Rn.hi:cr s t<(s.T t).fr.length:=by
 have:(s.T t).fr.length≠0:=λe=>h.fw.n1 (cf.1 e);unfold cr;omega
theorem Rn.lf:(s.T t).lf=none:=by
 cases hl:(s.T t).lf with
 |none=>rfl
 |some k=>
  obtain⟨x,y,e,_⟩:=h.ok.lf t h.ht (by rw[hl];simp);rw[h.wh]at e;cases e
theorem Rn.gm:In s t:=⟨h.ht,h.hi⟩
theorem Rn.oq{a:Nat}(e:a<p.rg (bw s t).f):dN p s ((bw s t).R a):=dN.root (ag ⟨t,cr s t,a,h.lv,h.hi,e,rfl⟩)
theorem Rn.ff:(bw s t).f<p.nf/\(bw s t).nx<=p.len (bw s t).f:=h.fw.f _ h.hi
theorem Rn.oD(a:Nat){v:B.V}(e:dN p s v):Ok p (s.dx t (cr s t) ((bw s t).set a v)):=h.ok.oD h.lv trivial h.hi a e
end
theorem tn{p:dz}{s:Pl}{a:Nat}(e:B.lS (eh p s) s.M a)(i:Nat):dN p s ((s.M a).getD i (0,0)):=by
 by_cases hi:i<(s.M a).length
 .refine ab (ab ⟨a,e,?_⟩);rw[ar,bn hi];exact List.getElem_mem hi
 rw[ar,cw (by omega)];exact dN.num 0
theorem vK{p:dz}{s:Pl}{X:Nat->Prop}(h:fS p s X){x:B.V}(hx:dN p s x)(i:(iy s x).2.2=true):(iy s x).1<p.nf/\dN p s (iy s x).2.1:=by
 by_cases e:x.1=0\/s.ck x.1=0
 .unfold iy at i;rw[aj e]at i;cases i
 have o:=h.Ay hx;have y:x.1≠0:=λu=>e (ag u);have W:s.ck x.1≠0:=λu=>e (ab u);rcases o with o|⟨G,H,J,_⟩
 .exact ch o y
 have Y:=h.fc x.1 G H J;unfold iy;rw[aa e];exact⟨by show s.ck x.1-1<p.nf;omega,tn (B.oH.vi hx y) 0⟩
theorem Gj.dn{p:dz}{s:Pl}{e:B.Kd}(h:Gj (eh p s).length p.n (B.mD (eh p s) s.M) s.kd e)(k:Nat)(k1:1<=k)(k2:k<=p.n)(i:e.on k=true):s.kd.on k=true:=by
 rcases h with h|h
 .rw[<-h];exact i
 exact h.1 k k1 k2
theorem zU{p:dz}{s:Pl}{t a ty:Nat}{l:List B.V}{s':Pl}(h:Rn p s t)(i:ty<=p.nf)(y:∀v,v∈l->dN p s v)(J:kL p s t a ty l s'):Ok p s'/\Go t 1 s s':=by
 rcases J with⟨c,e,o,u,Y,W,H,rfl⟩|⟨o,e,u,rfl⟩
 .exact⟨h.ok.na h.lv W H.dn o u Y i y,(Go.same rfl rfl rfl rfl).mono (by omega)⟩
 have G:Ok p (s.tQ e):=h.ok.tQ u (λk k1 k2 _=>(B.po h.ok.hl (o k k1 k2)).1);exact⟨G.kj h.lv,Go.FP (ab rfl) h.lv rfl rfl rfl rfl⟩
theorem vr{p:dz}{s:Pl}{t a:Nat}(h:Rn p s t)(x:Int):Ok p (oO s t a x)/\Go t 1 s (oO s t a x):=⟨h.oD a (dN.num x),(Go.same rfl rfl rfl rfl).mono (by omega)⟩
theorem FB{p:dz}{s:Pl}{t:Nat}{k:yi}(h:Rn p s t)(o:k.2.1<p.rg (bw s t).f)(y:k.2.2.1<p.rg (bw s t).f)(u:k.2.2.2<p.rg (bw s t).f):Ok p (kP s t k)/\Go t 1 s (kP s t k):=by
 unfold kP;split
 .rename_i e;obtain⟨i,G⟩:=vK h.ok (h.oq y) e.1;exact⟨h.ok.push h.wh (by have:=h.fw.n2;have:=e.2;omega) (ab h.fw) i (dc _) (λ_=>o) (λa _=>pn (h.oq u) G a) (λ_ _ _=>trivial),(Go.same rfl rfl rfl rfl).mono (by omega)⟩
 exact⟨h.ok,(Go.same rfl rfl rfl rfl).mono (by omega)⟩
theorem Aa{p:dz}{s s':Pl}{t:Nat}{k:yi}{why:Int}(h:Rn p s t)(hn:s.nt+1<=500000000)(hk:IA p (bw s t).f k)(hi:jD p s t k why s'):Ok p s'/\Go t 1 s s':=by
 obtain⟨i,a,b,c⟩:=k;obtain⟨k0,k1,k2,k3,y,H,G,Z,k8,k9,n1,n2,n3,n4,n5⟩:=hk;simp only at k0 k1 k2 k3 y H G Z k8 k9 n1 n2 n3 n4 n5;have J:Ok p s/\Go t 1 s s:=⟨h.ok,(Go.same rfl rfl rfl rfl).mono (by omega)⟩;have u:∀o,wE s t o a b c why s'->Ok p s'/\Go t 1 s s':=λo ht=>by
  rcases ht with⟨_,_,rfl⟩|⟨_,_,rfl⟩
  .exact vr h _
  exact J
 have hc:i=0\/i=1\/i=2\/i=3\/i=4\/i=5\/i=6\/i=7\/i=8\/i=9\/i=10\/i=11\/i=12\/i=13\/i=14\/i=16\/i=20\/i=22:=by omega
 rcases hc with rfl|rfl|rfl|rfl|rfl|rfl|rfl|rfl|rfl|rfl|rfl|rfl|rfl|rfl|rfl|rfl|rfl|rfl
 .obtain⟨_,rfl⟩:=hi;exact vr h _
 .obtain⟨_,rfl⟩:=hi;exact⟨h.oD a (h.oq (H (by omega))),(Go.same rfl rfl rfl rfl).mono (by omega)⟩
 .exact u 2 hi
 .exact u 3 hi
 .exact u 4 hi
 .exact u 5 hi
 .obtain⟨_,rfl⟩:=hi;exact vr h _
 .obtain⟨_,rfl⟩:=hi;exact⟨h.ok.dx h.hi rfl rfl (Z (by omega)) (λe he=>h.oq he),(Go.same rfl rfl rfl rfl).mono (by omega)⟩
 .obtain⟨_,rfl⟩:=hi;refine⟨h.ok.dx h.hi rfl rfl ?_ (λe he=>h.oq he),(Go.same rfl rfl rfl rfl).mono (by omega)⟩;show(if _ then _ else _)<=p.len (bw s t).f;split
  .exact Z (by omega)
  exact h.ff.2
 .exact zU h (dc _) (λv W=>by rw[List.eq_of_mem_replicate W];exact dN.num 0) hi.2
 .rcases hi with⟨Y,_,rfl⟩|⟨_,_,rfl⟩
  .exact⟨h.oD a (tn (B.oH.vi (h.oq (H (by omega))) Y.1) _),(Go.same rfl rfl rfl rfl).mono (by omega)⟩
  exact J
 .rcases hi with⟨Y,_,rfl⟩|⟨_,_,rfl⟩
  .exact⟨h.ok.sK (B.oH.vi (h.oq (y (by omega) (by omega))) Y.1) (h.oq (G (by omega))),(Go.same rfl rfl rfl rfl).mono (by omega)⟩
  exact J
 .exact zU h (k9 rfl) (λv W=>by rw[dL.1 W];exact h.oq (G (by omega))) hi.2
 .obtain⟨_,rfl⟩:=hi;exact FB (k:=(13,a,b,c)) h (y (by omega) (by omega)) (H (by omega)) (G (by omega))
 .obtain⟨_,rfl⟩:=hi;exact⟨h.ok.back h.lv h.wh (h.oq (y (by omega) (by omega))),Go.back h.ok h.lv h.wh (h.oq (y (by omega) (by omega)))⟩
 .obtain⟨_,rfl⟩:=hi;obtain⟨j1,_,_,_,_,_,_,_,j9,_⟩:=iW s 2 0 t;exact⟨h.ok.dV h.lv,(Go.quiet j9 j1 (iX s 2 0 t) ⟨[t],nN (by rw[h.wh];intro e;cases e)⟩).mono (by omega)⟩
 .obtain⟨_,rfl⟩:=hi;show Ok p (iY s t a).2/\Go t 1 s (iY s t a).2;unfold iY;split
  .exact⟨h.ok.told 1 t _,Go.FP (ag rfl) h.lv rfl rfl rfl rfl⟩
  exact J
 obtain⟨_,rfl⟩:=hi;exact vr h _
end F
namespace F
def Pl.ends(p:dz)(t:Nat):Nat->Pl->Pl
 | 0,s=>s
 | n+1,s=>if(s.T t).run=true/\(bw s t).nx=p.len (bw s t).f then Pl.ends p t n (s.back t (0,0)) else s
def Pl.fD(s:Pl)(t:Nat):Pl:=s.dx t (cr s t) { bw s t with nx:=(bw s t).nx+1 }
def F5(p:dz)(t:Nat)(s s':Pl):Prop:=∃why s3,jD p (s.fD t) t (p.ins (bw s t).f (bw s t).nx) why s3/\s'=if why=0 then s3 else s3.leave t (0,-why) 3 why
def iC(p:dz)(t:Nat)(s s':Pl):Prop:=if((s.ends p t 21).T t).run=true then F5 p t (s.ends p t 21) s' else s'=s.ends p t 21
def PI(p:dz):Prop:=∀f,f<p.nf->∀i,i<p.len f->IA p f (p.ins f i)
theorem ug(v:B.V){t:Nat}:∀(l:List Nat) (s:Pl),t∉l->(s.dR v l).T t=s.T t
 | [],_,_=>rfl
 | u :: l,s,h=>by
  show((s.fJ u v).dR v l).T t=_;rw[ug v l _ (λi=>h (by simp[i])),yj s v (λe=>h (by simp[e]))]
theorem vw{s:Pl}(e:LW s){t:Nat}(ht:fe s t)(v:B.V)(kind:Nat)(x:Int):(s.leave t v kind x).T t=((s.dw t).T t).stop:=by
 unfold Pl.leave;rw[ug v _ _ (λi=>(e.a t ht 5 t (e.b 5 t (ab (ab (ab ⟨rfl,ht⟩))) t i).2).2.2 ⟨rfl,rfl⟩)];exact df _ _ _
theorem mA{s:Pl}(i:LW s){t:Nat}(ht:fe s t)(v:B.V):(cr s t=0->((s.back t v).T t).run=false)/\(cr s t≠0->((s.back t v).T t).run=(s.T t).run/\((s.back t v).T t).fr.length=(s.T t).fr.length-1):=by
 constructor
 .intro e;unfold Pl.back;rw[aj e,vw (i.pop t) ht];rfl
 intro e;unfold Pl.back;rw[aa e];have:=gj (s.pop t) t (cr s t-1) t ((de s t (cr s t-1)).set (de s t (cr s t)).bk.2.1 v);exact⟨this.2.2.1.trans (zF s t t),this.2.2.2.2.trans (rp s t)⟩
theorem rY{p:dz}{t:Nat}:∀(n:Nat) {s:Pl},Rn p s t->(s.T t).fr.length<=n->Ok p (s.ends p t n)/\(((s.ends p t n).T t).run=true->Rn p (s.ends p t n) t/\Go t 0 s (s.ends p t n)/\(bw (s.ends p t n) t).nx≠p.len (bw (s.ends p t n) t).f)/\Go t 1 s (s.ends p t n)
 | 0,s,h,hn=>by
  have:=h.hi;omega
 | n+1,s,h,hn=>by
  unfold Pl.ends;by_cases e:(s.T t).run=true/\(bw s t).nx=p.len (bw s t).f
  .rw[aj e];have G:=h.ok.back h.lv h.wh (dN.num 0);have y:=mA h.ok.lw h.ht (0,0);by_cases u:cr s t=0
   .have J:=y.1 u;have W:Pl.ends p t n (s.back t (0,0))=s.back t (0,0):=by
     cases n with
     | zero=>rfl
     | succ n=>unfold Pl.ends;rw[aa (λi=>by rw[J]at i;cases i.1)]
    rw[W];exact⟨G,λi=>ch i (by rw[J];decide),Go.back h.ok h.lv h.wh (dN.num 0)⟩
   obtain⟨r1,r2⟩:=y.2 u;obtain⟨H,Z,Y,b4⟩:=(lG s t (0,0)).2 u;have o:Go t 0 s (s.back t (0,0)):=Go.same Z H Y (by rw[b4]);have hi:=h.hi;obtain⟨i1,i2,i3⟩:=rY n ⟨G,by rw[H];exact h.lv,by rw[r1];exact h.run⟩ (by rw[r2];omega);refine⟨i1,λi=>?_,?_⟩
   .obtain⟨j1,j2,j3⟩:=i2 i;exact⟨j1,(o.trans j2).mono (by omega),j3⟩
   exact(o.trans i3).mono (by omega)
  rw[aa e];exact⟨h.ok,λ_=>⟨h,Go.same rfl rfl rfl rfl,λe'=>e ⟨h.run,e'⟩⟩,(Go.same rfl rfl rfl rfl).mono (by omega)⟩
theorem mM{p:dz}{s:Pl}{t:Nat}(h:Rn p s t)(hn:(bw s t).nx≠p.len (bw s t).f):Rn p (s.fD t) t/\(bw (s.fD t) t).f=(bw s t).f:=by
 have o:=h.ff;have hw:=gj s t (cr s t) t { bw s t with nx:=(bw s t).nx+1 };have e:Ok p (s.fD t):=h.ok.dx h.hi rfl rfl (show(bw s t).nx+1<=p.len (bw s t).f by omega) (λa i=>h.oq i);refine⟨⟨e,h.lv,hw.2.2.1.trans h.run⟩,?_⟩;have ht:cr (s.fD t) t=cr s t:=by unfold cr;rw[show((s.fD t).T t).fr.length=(s.T t).fr.length from hw.2.2.2.2]
 show(de (s.fD t) t (cr (s.fD t) t)).f=_;rw[ht];unfold Pl.fD;rw[ko s _ h.hi]
theorem nP{p:dz}{s s':Pl}{t:Nat}{k:yi}{why:Int}(Z:k.1<23)(hi:jD p s t k why s'):0<=why/\why<=8/\(why≠0->s'=s):=by
 obtain⟨i,a,b,c⟩:=k;simp only at Z;have G:∀o,wE s t o a b c why s'->0<=why/\why<=8/\(why≠0->s'=s):=λo ht=>by
  rcases ht with⟨_,rfl,_⟩|⟨_,rfl,rfl⟩
  .exact⟨by omega,by omega,λh=>ch rfl h⟩
  exact⟨by omega,by omega,λ_=>rfl⟩
 have hz:why=0->0<=why/\why<=8/\(why≠0->s'=s):=λe=>⟨by omega,by omega,λh=>ch e h⟩;have hS:∀x y,1<=mI s x y/\mI s x y<=3:=λx y=>by unfold mI;split;omega;split<;>omega
 have Y:∀r:Int×Pl,why=r.1/\s'=r.2->(0<=r.1/\r.1<=8/\(r.1≠0->r.2=s))->0<=why/\why<=8/\(why≠0->s'=s):=λr h W=>by
  rw[h.1,h.2];exact W
 have hc:i=0\/i=1\/i=2\/i=3\/i=4\/i=5\/i=6\/i=7\/i=8\/i=9\/i=10\/i=11\/i=12\/i=13\/i=14\/i=15\/i=16\/i=17\/i=18\/i=19\/i=20\/i=21\/i=22:=by omega
 rcases hc with rfl|rfl|rfl|rfl|rfl|rfl|rfl|rfl|rfl|rfl|rfl|rfl|rfl|rfl|rfl|rfl|rfl|rfl|rfl|rfl|rfl|rfl|rfl
 .exact hz hi.1
 .exact hz hi.1
 .exact G 2 hi
 .exact G 3 hi
 .exact G 4 hi
 .exact G 5 hi
 .exact hz hi.1
 .exact hz hi.1
 .exact hz hi.1
 .exact hz hi.1
 .rcases hi with⟨_,h,_⟩|⟨_,h,W⟩
  .exact hz h
  have:=hS ((bw s t).R b) ((bw s t).R c);simp only at h;exact⟨by omega,by omega,λ_=>W⟩
 .rcases hi with⟨_,h,_⟩|⟨_,h,W⟩
  .exact hz h
  have:=hS ((bw s t).R a) ((bw s t).R b);simp only at h;exact⟨by omega,by omega,λ_=>W⟩
 .exact hz hi.1
 .obtain⟨u,H⟩:=hi;unfold pN at u;unfold kP at H;simp only at u H;by_cases e:(iy s ((bw s t).R b)).2.2=true
  .rw[aa (by rw[e];decide)]at u;by_cases J:(s.T t).fr.length=20
   .rw[aj J]at u;rw[aa (λh=>h.2 J)]at H;exact⟨by omega,by omega,λ_=>H⟩
   rw[aa J]at u;exact hz u
  rw[aj (by simpa using e)]at u;rw[aa (λh=>e h.1)]at H;exact⟨by omega,by omega,λ_=>H⟩
 .exact hz hi.1
 .obtain⟨u,H⟩:=hi;unfold Cj at u;unfold Ci at H;simp only at u H;by_cases e:(iy s ((bw s t).R b)).2.2=true
  .rw[aa (by rw[e];decide)]at u;by_cases J:s.lv.length=p.mt
   .rw[aj J]at u;rw[aa (λh=>h.2 J)]at H;exact⟨by omega,by omega,λ_=>H⟩
   rw[aa J]at u;exact hz u
  rw[aj (by simpa using e)]at u;rw[aa (λh=>e h.1)]at H;exact⟨by omega,by omega,λ_=>H⟩
 .exact hz hi.1
 .refine Y _ hi ?_;unfold yv;split
  .exact⟨by simp,by simp,λh=>ch rfl h⟩
  exact⟨by simp,by simp,λ_=>rfl⟩
 .refine Y _ hi ?_;unfold yY;split
  .split
   .exact⟨by simp,by simp,λh=>ch rfl h⟩
   exact⟨by simp,by simp,λ_=>rfl⟩
  exact⟨by simp,by simp,λ_=>rfl⟩
 .refine Y _ hi ?_;unfold vR;split
  .split
   .exact⟨by simp,by simp,λh=>ch rfl h⟩
   exact⟨by simp,by simp,λ_=>rfl⟩
  exact⟨by simp,by simp,λ_=>rfl⟩
 .refine Y _ hi ?_;unfold iY;split
  .exact⟨by simp,by simp,λh=>ch rfl h⟩
  exact⟨by simp,by simp,λ_=>rfl⟩
 .refine Y _ hi ?_;unfold CB;split
  .split
   .exact⟨by simp,by simp,λh=>ch rfl h⟩
   exact⟨by simp,by simp,λ_=>rfl⟩
  exact⟨by simp,by simp,λ_=>rfl⟩
 exact hz hi.1
theorem Dh{p:dz}{s s':Pl}{t:Nat}(hP:PI p)(h:Rn p s t)(hx:(bw s t).nx≠p.len (bw s t).f)(hn:s.nt+1<=500000000)(hi:F5 p t s s'):Ok p s'/\Go t 1 s s':=by
 obtain⟨why,s3,H,rfl⟩:=hi;obtain⟨i,u⟩:=mM h hx;have y:=h.ff;have G:=hP _ y.1 (bw s t).nx (by omega);have o:Go t 0 s (s.fD t):=Go.same rfl rfl rfl rfl;obtain⟨o1,Z⟩:=Aa (k:=p.ins (bw s t).f (bw s t).nx) i hn (by rw[u];exact G) H;obtain⟨w1,w2,W⟩:=nP G.1 H;by_cases e:why=0
 .rw[aj e];exact⟨o1,(o.trans Z).mono (by omega)⟩
 rw[aa e];have J:=W e;subst J;obtain⟨l1,Y,l3⟩:=xz (s.fD t) t (0,-why) 3 why;exact⟨i.ok.leave i.lv (λ_ _=>trivial) (dN.num _) 3 why,(o.trans (Go.ends (ab (ag ⟨rfl,rfl⟩)) i.lv i.ht i.ok.nd Y l1 l3 (λ_=>C8 i.ok i.lv (λ_ _=>trivial) i.wh (dN.num _) 3 why))).mono (by omega)⟩
theorem uT{p:dz}{s s':Pl}{t:Nat}(hP:PI p)(h:Rn p s t)(hn:s.nt+1<=500000000)(i:iC p t s s'):Ok p s'/\Go t 1 s s':=by
 obtain⟨i1,y,u⟩:=rY 21 h (by have:=h.fw.n2;omega);unfold iC at i;by_cases e:((s.ends p t 21).T t).run=true
 .rw[aj e]at i;obtain⟨H,o,G⟩:=y e;obtain⟨_,_,_,J,_⟩:=id o;obtain⟨k1,k2⟩:=Dh hP H G (by omega) i;exact⟨k1,(o.trans k2).mono (by omega)⟩
 rw[aa e]at i;subst i;exact⟨i1,u⟩
def gg(p:dz)(t:Nat):Nat->Pl->Pl->Prop
 | 0,s,s'=>s'=s
 | n+1,s,s'=>if(s.T t).run=true then ∃s1,iC p t s s1/\gg p t n s1 s' else s'=s
theorem Go.nt{t c:Nat}{s s':Pl}(h:Go t c s s'):s.nt<=s'.nt/\s'.nt<=s.nt+c:=by
 obtain⟨_,_,_,h,_⟩:=h;exact h
theorem zz{p:dz}{t:Nat}(hP:PI p):∀(n:Nat) {s s':Pl},Ok p s->fe s t->s.nt+n<=500000000->gg p t n s s'->Ok p s'/\Go t n s s'
 | 0,s,s',h,_,_,hr=>by
  have e:s'=s:=hr;subst e;exact⟨h,Go.same rfl rfl rfl rfl⟩
 | n+1,s,s',h,ht,hn,hr=>by
  unfold gg at hr;by_cases e:(s.T t).run=true
  .rw[aj e]at hr;obtain⟨s1,y,o⟩:=hr;obtain⟨k1,k2⟩:=uT hP ⟨h,(h.rn t ht e).2,e⟩ (by omega) y;have i:=k2.nt;obtain⟨G,u⟩:=zz hP n k1 ⟨ht.1,dH ht.2 i.1⟩ (by omega) o;exact⟨G,(k2.trans u).mono (by omega)⟩
  rw[aa e]at hr;subst hr;exact⟨h,(Go.same rfl rfl rfl rfl).mono (by omega)⟩
def gO(p:dz)(s s':Pl):Prop:=match s.q 2 0 with
 | []=>s'=s
 | t :: _=>∃s1,gg p t p.qn (s.start t) s1/\s'=if(s1.T t).run=true then s1.dV 2 0 t else s1
theorem tz{p:dz}(hP:PI p){s s':Pl}(h:Ok p s)(hn:s.nt+p.qn<=500000000)(u:gO p s s'):Ok p s'/\(s.q 2 0=[]->s'=s)/\∀t r,s.q 2 0=t :: r->∃y,Go t p.qn y s'/\y.ev=s.ev/\y.lv=s.lv/\y.nt=s.nt/\y.q 2 0=r:=by
 unfold gO at u
 cases hq:s.q 2 0 with
 | nil=>
  rw[hq]at u;have u:s'=s:=u;subst u;exact⟨h,λ_=>rfl,λ_ _ e=>by cases e⟩
 | cons t r=>
  rw[hq]at u;obtain⟨s1,h1,J⟩:=u;have hl:fz s 2 0:=ag ⟨rfl,rfl⟩;have G:t∈s.q 2 0:=by rw[hq];simp
  have H:=h.ql 2 0 hl t G;have ht:=h.lt t H;have i:(s.start t).nt=s.nt:=fO s t;obtain⟨k1,k2⟩:=zz hP p.qn (h.start H) ((eg i).2 ht) (by rw[i];exact hn) h1;have Y:(s.start t).q 2 0=r:=by
   show(s.dw t).q 2 0=r;rw[fN ((h.lw.b 2 0 hl t G).2)];show(s.eZ 2 0 ((s.q 2 0).erase t)).q 2 0=r;rw[fX,hq];simp
  obtain⟨f1,_,_,f4,_⟩:=gz s t;have o:Ok p s'/\Go t p.qn (s.start t) s':=by
   by_cases e:(s1.T t).run=true
   .rw[aj e]at J;subst J;have hr:=k1.rn t (⟨ht.1,dH ht.2 (by rw[<-i];exact k2.nt.1)⟩) e;obtain⟨j1,_,_,_,_,_,_,_,j9,_⟩:=iW s1 2 0 t;exact⟨k1.dV hr.2,(k2.trans (Go.quiet j9 j1 (iX s1 2 0 t) ⟨[t],nN (by rw[hr.1];intro e;cases e)⟩)).mono (by omega)⟩
   rw[aa e]at J;subst J;exact⟨k1,k2⟩
  refine⟨o.1,λe=>by(cases e),λt' r' e=>?_⟩;injection e with e1 e2;subst e1 e2;exact⟨s.start t,o.2,f4,f1,i,Y⟩
def Pl.gr(s:Pl):List Nat->Pl
 | []=>s
 | t :: l=>if(s.T t).iL<=s.eY then(s.dV 2 0 t).gr l else s
structure Qu(s s':Pl):Prop where
 ev:s'.ev=s.ev
 lv:s'.lv=s.lv
 nt:s'.nt=s.nt
 sp:s'.sp=s.sp
 q:∃m,s'.q 2 0=s.q 2 0++m
theorem Qu.refl(s:Pl):Qu s s:=⟨rfl,rfl,rfl,rfl,[],by rw[eB]⟩
theorem Qu.trans{s s' e:Pl}(h:Qu s s')(i:Qu s' e):Qu s e:=by
 obtain⟨m,u⟩:=h.q;obtain⟨m',o⟩:=i.q;exact⟨i.ev.trans h.ev,i.lv.trans h.lv,i.nt.trans h.nt,i.sp.trans h.sp,m++m',by rw[o,u,dY]⟩
theorem Qu.dV{s:Pl}{t:Nat}(hw:(s.T t).wh≠some (2,0)):Qu s (s.dV 2 0 t):=by
 obtain⟨o,_,_,_,_,_,_,_,i,e⟩:=iW s 2 0 t;exact⟨i,o,iX s 2 0 t,e,[t],nN hw⟩
theorem nj{p:dz}:∀(l:List Nat) {s:Pl},Ok p s->s.q 3 0=l->Ok p (s.gr l)/\Qu s (s.gr l)
 | [],s,h,_=>⟨h,Qu.refl s⟩
 | t :: l,s,h,hq=>by
  have H:fz s 3 0:=ab (ag ⟨rfl,rfl⟩);have o:t∈s.q 3 0:=by rw[hq];simp
  have i:=(h.lw.b 3 0 H t o).2;unfold Pl.gr;split
  .have u:(s.dV 2 0 t).q 3 0=l:=by
    show((s.dw t).eZ 2 0 ((s.dw t).q 2 0++[t])).q 3 0=l;rw[fL _ _ (by omega),fN i];show(s.eZ 3 0 ((s.q 3 0).erase t)).q 3 0=l;rw[fX,hq];simp
   obtain⟨k1,k2⟩:=nj l (h.dV (h.ql 3 0 H t o)) u;exact⟨k1,(Qu.dV (by rw[i];intro e;injection e with e;injection e with e _;omega)).trans k2⟩
  exact⟨h,Qu.refl s⟩
def Pl.wW(s:Pl)(k b:Nat):Pl:=match s.q 4 k with
 | u :: _=>s.fJ u (0,(b:Int))
 | []=>if(s.jo k).length<64 then s.yw k (s.jo k++[b]) else s
def Pl.recv(s:Pl)(x:Int×Nat):Pl:=if 0<=x.1/\x.1<4 then s.wW x.1.toNat x.2 else s
def Pl.eN(s:Pl):List (Int×Nat)->Pl
 | []=>s
 | x :: l=>(s.recv x).eN l
theorem Cv{p:dz}{s:Pl}{k b:Nat}(H:k<4)(Z:b<256)(h:Ok p s):Ok p (s.wW k b)/\Qu s (s.wW k b):=by
 unfold Pl.wW
 cases hq:s.q 4 k with
 | cons u r=>
  have G:=(h.lw.b 4 k (ab (ab (ag ⟨rfl,H⟩))) u (by rw[hq];simp)).1;obtain⟨W,_,_,_,_,_,_,_,b9,o⟩:=oX s u (0,(b:Int));exact⟨h.fJ G (λ_=>trivial) (dN.num _),b9,W,mH s u _,o,zj h G _⟩
 | nil=>
  show Ok p (if(s.jo k).length<64 then s.yw k (s.jo k++[b]) else s)/\Qu s (if(s.jo k).length<64 then s.yw k (s.jo k++[b]) else s);split
  .rename_i J;refine⟨h.yw k _ ⟨by rw[bo];simp;omega,λx Y=>?_⟩,rfl,rfl,rfl,rfl,[],by rw[eB];rfl⟩;rcases di.1 Y with i|i
   .exact (h.bt k).2 x i
   rw[dL.1 i];exact Z
  exact⟨h,Qu.refl s⟩
theorem nF{p:dz}:∀(l:List (Int×Nat)) {s:Pl},(∀x,x∈l->x.2<256)->Ok p s->Ok p (s.eN l)/\Qu s (s.eN l)
 | [],s,_,h=>⟨h,Qu.refl s⟩
 | x :: l,s,hl,h=>by
  have e:Ok p (s.recv x)/\Qu s (s.recv x):=by
   unfold Pl.recv;split
   .exact Cv (by omega) (hl x (by simp)) h
   exact⟨h,Qu.refl s⟩
  obtain⟨k1,k2⟩:=nF l (λy i=>hl y (by simp[i])) e.1;exact⟨k1,e.2.trans k2⟩
def Pl.fF(s:Pl)(c:Int):Pl:={ s with eY:=c }
theorem fS.fF{p:dz}{s:Pl}{X:Nat->Prop}(h:fS p s X){c:Int}(i:0<=c)(e:c<=9223372036854775807):fS p (s.fF c) X:=
 { lw:=h.lw.same rfl rfl (λ_=>rfl),ww:=h.ww,nd:=h.nd,lt:=h.lt,ql:=h.ql,lf:=h.lf,rn:=h.rn,ol:=h.ol,ok:=h.ok,kn:=h.kn,kz:=h.kz,fw:=h.fw,hl:=h.hl,fc:=h.fc,bt:=h.bt,c0:=i,c1:=e }
def Pl.im(p:dz)(s:Pl):Pl:=s.tQ (B.work (B.EF (eh p s)) (eh p s).length s.M p.n p.wk s.kd)
def Pl.lD(s:Pl):Pl:={ s with ev:=[] }
def jh(p:dz)(s:Pl)(ticks:Int)(l:List (Int×Nat))(s':Pl):Prop:=
 if((s.fF (B.iz s.eY ticks)).eN l).lv≠[]/\((s.fF (B.iz s.eY ticks)).eN l).sp=false then
  ∃s1,gO p (((s.fF (B.iz s.eY ticks)).eN l).gr (((s.fF (B.iz s.eY ticks)).eN l).q 3 0)) s1/\s'=s1.im p
 else s'=(s.fF (B.iz s.eY ticks)).eN l
end F
namespace D
open F
structure PD(p:dz) (d:Dp):Prop where
 n:d.n=p.n
 qn:d.qn=p.qn
 wk:d.wk=p.wk
 mt:d.mt=p.mt
 nf:d.nf=p.nf
 len:∀f,f<p.nf->d.len f=p.len f
 rg:∀f,f<p.nf->d.rg f=p.rg f
 ins:∀f i,f<p.nf->i<p.len f->d.ins f i=p.ins f i
def tr(ρ:Nat->Nat)(v:B.V):B.V:=if v.1=0 then v else(ρ v.1,0)
structure FS(p:dz) (ρ:Nat->Nat) (i:Nat) (a b:gY):Prop where
 f:b.f=a.f
 nx:b.nx=a.nx
 bk:i≠0->b.bk.2.1=a.bk.2.1
 R:∀k,k<p.rg a.f->b.R k=tr ρ (a.R k)
structure HS(a:oT) (b:Dt):Prop where
 h0:a.wh=none->b.how=1
 h2:∀y,a.wh=some (2,y)->b.how=1
 h3:∀y,a.wh=some (3,y)->b.how=2/\b.km=a.iL
 h4:∀k,a.wh=some (4,k)->b.how=3/\b.what=k/\∃i,a.lf=some i/\b.into=(i.2.1:Int)
 h5:∀k,a.wh=some (5,k)->b.how=4/\b.what=k/\∃i,a.lf=some i/\b.into=(i.2.1:Int)
structure TS(p:dz) (ρ:Nat->Nat) (a:oT) (b:Dt):Prop where
 l:b.fr.length=a.fr.length
 f:∀i,i<a.fr.length->FS p ρ i (a.fr.getD i mr) (b.fr.getD i mr)
 o:b.out=(0,0)
 h:HS a b
structure CS(N:Nat->List B.V) (ck:Nat->Nat) (nc:Nat) (M':Nat->List B.V) (ck':Nat->Nat) (ρ:Nat->Nat) (c:Nat):Prop where
 c1:1<=ρ c
 c2:ρ c<=nc
 M:M' (ρ c)=(N c).map (tr ρ)
 k:ck' (ρ c)=ck c
 f:ck c≠0->N c≠[]
 l:(N c).length<=8
def FI(m:Dm)(x a b:Nat):Prop:=if x=3 then(m.T a).km<(m.T b).km\/((m.T a).km=(m.T b).km/\(m.T a).ji<(m.T b).ji) else(m.T a).ji<(m.T b).ji
def m9(s:Pl)(t:Nat):B.V:=s.out.getD (t-1) (0,0)
abbrev ou(p:dz)(s:Pl)(c:Nat):Prop:=B.lS (eh p s) s.M c
def GA(G:Dc)(n:Nat):Prop:=G.all=n/\G.sure<=n/\G.lO<=n
structure eK(p:dz) (K:Nat) (s:Pl) (m:Dm) (ρ:Nat->Nat):Prop where
 nt:m.nt=s.nt
 q:m.q=s.q 2 0
 Ee:m.jo=s.jo
 sp:m.sp=s.sp
 ev:m.ev=s.ev
 ck:m.eY=s.eY
 T:∀t,t∈s.lv->TS p ρ (s.T t) (m.T t)
 O:∀t,fe s t->t∉s.lv->(m.T t).how=5/\(m.T t).fr=[]/\(m.T t).out=tr ρ (m9 s t)
 C:∀c,ou p s c->CS s.M s.ck m.nc m.M m.ck ρ c
 I:∀c c',ou p s c->ou p s c'->ρ c=ρ c'->c=c'
 Kp:∀v,v∈s.kp->∃t,fe s t/\t∉s.lv/\m9 s t=v
 L:∀x y,fz s x y->x≠2->(s.q x y).Pairwise (FI m x)
 N:∀t,t∈s.lv->(m.T t).ji<=m.ji
 A:GA m.G m.nc
 lm:s.lv.length<=p.mt
 B:m.nc<=K/\m.ji<=K
theorem sm{ρ:Nat->Nat}(x:Int):tr ρ (0,x)=(0,x):=aj rfl
theorem om{ρ:Nat->Nat}{v:B.V}(h:v.1=0):tr ρ v=v:=aj h
theorem oZ{ρ:Nat->Nat}{v:B.V}(h:v.1≠0):tr ρ v=(ρ v.1,0):=aa h
end D
end Go.Proofs.YtnjiinbhbjpfkaaGreatDoor
