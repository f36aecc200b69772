import Derived.Test.YtnjiinbhbjpfkaaGreatDoorKL
import Derived.Test.YtnjiinbhbjpfkaaGreatDoorKO
import Derived.Test.YtnjiinbhbjpfkaaGreatDoorKP
set_option maxRecDepth 100000
set_option maxHeartbeats 0
set_option linter.all false
namespace Go.Proofs.YtnjiinbhbjpfkaaGreatDoor
open Go.RowKit Go.Proofs.Tryz
namespace F
def Fb.put(f:Fb)(p vg t:Nat):Fb:=⟨λq=>if q=p then vg else f.b q,λq=>if q=p then t else f.k q⟩
def Vs.put(vb:Vs)(p vg t:Nat):Vs:={ vb with f:=vb.f.put p vg t }
def vJ(t:Nat):Value:=.int .i64 ((t-1:Nat):Int)
theorem EI(kd:Nat->Bool)(vb:Fb)(M:Nat->List B.V)(k i t j:Nat)(l:List B.V): ep (ep (ep (iM kd vb M) (k*3) (tZ true t)) (k*3+1) (vJ t)) (k*3+2) (.slice (some ⟨i,0,none⟩) l.length l.length) j=iM (B.mark kd (k+1)) (vb.put (k+1) i t) (B.lay M (k+1) (l)) j:=by
 by_cases o:j=k*3+2
 .subst o;rw[gf,sQ,B.je,B.gl];simp[oL,Fb.put]
 rw [eG _ _ _ _ o];by_cases u:j=k*3+1
 .subst u;rw[gf,zH,B.je];simp[DD,vJ,Fb.put]
 rw [eG _ _ _ _ u];by_cases y:j=k*3
 .subst y;rw[gf,zI,B.je];simp[Fb.put]
 rw [eG _ _ _ _ y];have e:j / 3+1≠k+1:=by omega
 unfold iM;rw[B.fg _ _ _ e,B.fq _ _ _ _ e];simp only[Fb.put,aa e]
theorem xf{w w':World}{pb n k o t:Nat}{l:List B.V}{on:Nat->Bool}{f:Fb}{M:Nat->List B.V}(h:ow w pb n on f M)(J:l.length<=8)(ht:t≠0->l.length=1)(W:Full w' o 149 (l.length*2) (l.length*2) (eC (λi=>l.getD i (0,0))))(hn:∀p,1<=p->p<=n->on p=true->f.b p≠o)(hP:Full w' pb 228 (n*3) (n*3) (ep (ep (ep (iM on f M) (k*3) (tZ true t)) (k*3+1) (vJ t)) (k*3+2) (.slice (some ⟨o,0,none⟩) l.length l.length)))(H:∀p,1<=p->p<=n->on p=true->w'.heap[f.b p]? = w.heap[f.b p]?): ow w' pb n (B.mark on (k+1)) (f.put (k+1) o t) (B.lay M (k+1) (l)):=by
 refine⟨hP.congr (λj _=>EI on f M k o t j l),λp a c d=>?_,λp q a c d e g i j=>?_,λp a=>?_,λp a y=>?_⟩
 .by_cases e:p=k+1
  .subst e;simp only[Fb.put,if_true,B.gl];refine W.congr (λj _=>?_);unfold eC jQ;rw[B.gl]
  rw [B.fg _ _ _ e]at d;simp only[Fb.put,aa e];unfold jQ;rw[B.fq _ _ _ _ e];exact(h.s p a c d).block (H p a c d)
 .have j:(if p=k+1 then o else f.b p)=(if q=k+1 then o else f.b q):=j;by_cases G:p=k+1
  .by_cases u:q=k+1
   .omega
   rw [aj G,aa u]at j;rw[B.fg _ _ _ u]at i;exact ch j.symm (hn q d e i)
  by_cases u:q=k+1
  .rw [aa G,aj u]at j;rw[B.fg _ _ _ G]at g;exact ch j (hn p a c g)
  rw [aa G,aa u]at j;rw[B.fg _ _ _ G]at g;rw[B.fg _ _ _ u]at i;exact h.i p q a c d e g i j
 .by_cases e:p=k+1
  .subst e;rw[B.gl];exact J
  rw [B.fg _ _ _ e]at a;rw[B.fq _ _ _ _ e];exact h.l p a
 have y:(if p=k+1 then t else f.k p)≠0:=y;by_cases e:p=k+1
 .subst e;rw[B.gl];rw[aj rfl]at y;exact ht y
 rw [B.fg _ _ _ e]at a;rw[aa e]at y;rw[B.fq _ _ _ _ e];exact h.k p a y
def Gj(nr n:Nat)(s:B.St)(kd kd1:B.Kd):Prop:=
 kd1=kd\/((∀p,1<=p->p<=n->kd.on p=true)/\kd1.cy=none/\kd1.un=kd.un/\kd1.fo=kd.fo+1/\kd1.cc=kd.cc/\∀p,1<=p->p<=n->(kd1.on p=true↔B.Reach nr s p))
def LI(w w':World)(sb pb eb n nr vg t:Nat)(l:List B.V)(kd:B.Kd)(vb:Vs)(s:B.St)(e:Ending):Prop:=
 dy (pP sb pb n kd vb) w w' /\
 ((∃(k:Nat) (kd1:B.Kd),k<n/\kd1.on (k+1)=false/\B.iZ kd1 nr n s/\Gj nr n s kd kd1/\e=.returned (.tuple #[.agg #[.int .i64 ((k:Int)+1),.int .i64 0],.bool true])/\jm w' sb pb eb n (B.laid kd1 (k+1)) (vb.put (k+1) vg t) (B.lay s.2.2 (k+1) (l))/\∀x,Own n (B.laid kd1 (k+1)) (vb.put (k+1) vg t) x->Own n kd vb x\/x=vg) \/
  (e=.returned (.tuple #[.agg #[.int .i64 0,.int .i64 0],.bool false])/\(∀p,1<=p->p<=n->B.Reach nr s p)/\∃kd1,jm w' sb pb eb n kd1 vb s.2.2/\B.iZ kd1 nr n s/\∀x,Own n kd1 vb x->Own n kd vb x))
theorem sS{n k u t x:Nat}{kd:B.Kd}{vb:Vs}(h:Own n (B.laid kd (k+1)) (vb.put (k+1) u t) x):Own n kd vb x\/x=u:=by
 rcases h with⟨p,a,b,d,e⟩|⟨H,J⟩
 .by_cases y:p=k+1
  .subst y;right
   have o:(if k+1=k+1 then u else vb.f.b (k+1))=x:=e;rw[aj rfl]at o;exact o.symm
  left
  have G:B.mark kd.on (k+1) p=true:=d;rw[B.fg _ _ _ y]at G;have o:(if p=k+1 then u else vb.f.b p)=x:=e;rw[aa y]at o;exact ag ⟨p,a,b,G,o⟩
 left
 refine ab ⟨?_,J⟩;have i:(kd.cy.map (λc:B.Cy=>(⟨B.mark c.m (k+1),c.st,c.nx⟩:B.Cy))).isSome=true:=H;rw[Option.isSome_map]at i;exact i
theorem tG(kd:B.Kd)(vb:Vs)(p e t:Nat):yg (B.laid kd p) (vb.put p e t)=yg kd vb:=by
 unfold yg B.laid Vs.put;simp only[Option.isSome_map]
theorem zY(Q:Nat->Prop)(eb sb pb n nr vg t:Nat)(l:List B.V)(kd:B.Kd)(vb:Vs)(s:B.St)(w:World)(hR:BG w Q eb sb pb n nr kd vb s)(hv:Full w vg 149 (l.length*2) (l.length*2) (eC (λi=>l.getD i (0,0))))(aI:l.length<=8)(ht:t≠0->l.length=1)(c4:¬Own n kd vb vg): Calls prog 199 #[P0 sb,.agg #[tZ true t,vJ t,.slice (some ⟨vg,0,none⟩) l.length l.length]] w λe w'=>LI w w' sb pb eb n nr vg t l kd vb s e:=by
 have KR:=az hR;have hn:=hR.n2;have lp:=hR.hs.p.p.lt;have ls:=bz hR.hs.b;have HV:=az hv;have bN:=az c4;have HT:=az ht;obtain⟨ya,b8⟩:∃y:Int,tZ true t=.int .u8 y:=⟨_,rfl⟩;obtain⟨yb,b7⟩:∃y:Int,vJ t=.int .i64 y:=⟨_,rfl⟩;rw[b8,b7];have bU:=az b8;have c3:=az b7;go_in;go_wp2_with fail
 generalize hW:(w.alloc (.cells #[.int .u8 ya,.int .i64 yb,.slice (some ⟨vg,0,none⟩) l.length l.length] 228)).alloc (.cells #[.int .i64 0,.int .i64 0] 149)=w1;have aO:Hid (w.grownBy w1 none):=by rw[<-hW];exact au (ah _ _ _) _
 have x0:w1.heap[w.heap.size]? = some (.cells #[.int .u8 ya,.int .i64 yb,.slice (some ⟨vg,0,none⟩) l.length l.length] 228 (0,0)):=by rw[<-hW,ak _ _ _ (by simp)];exact bf w _
 have x1:w1.heap[w.heap.size+1]? = some (.cells #[.int .i64 0,.int .i64 0] 149 (0,0)):=by
  rw[<-hW];have:=bf (w.alloc (.cells #[.int .u8 ya,.int .i64 yb,.slice (some ⟨vg,0,none⟩) l.length l.length] 228)) (.cells #[.int .i64 0,.int .i64 0] 149);simpa using this
 have aL:=az (ay x0 x1);have aK:=az (KR.kept aO);refine(oE sb pb n kd.on vb.f s.2.2 w1 aK.hs.c0 aK.hs.p hn).mono ?_;rintro e w2 ⟨a7,⟨k,hk,aR,rfl⟩|⟨a4,rfl⟩⟩
 .have aH:=az (an aO a7);have H:=az (aK.hs.kept a7);have aJ:=az (ay (cm a7 aL.1 (by intro e;cases e)) (cm a7 aL.2 (by intro e;cases e)));have HQ:Hid (k<n/\kd.on (k+1)=false/\B.iZ kd nr n s/\Gj nr n s kd kd):=⟨hk,aR,KR.hh,ag rfl⟩;have bM:Hid (dy (pP sb pb n kd vb) w w2):=dU aH;have bR:=az (HV.block (aH.block vg HV.lt (by intro e;cases e)));have a3:Hid (∀x,Own n kd vb x->Own n kd vb x):=λ_ h=>h;obtain⟨p0,z0⟩:=H.p.p.cells (k*3) (by omega);obtain⟨p1,z1⟩:=H.p.p.cells (k*3+1) (by omega);obtain⟨p2,z2⟩:=H.p.p.cells (k*3+2) (by omega);generalize iM kd.on vb.f s.2.2 (k*3)=y0 at p0;generalize iM kd.on vb.f s.2.2 (k*3+1)=y1 at p1;generalize iM kd.on vb.f s.2.2 (k*3+2)=y2 at p2;have s0:=H.c0;have cF:(k:Int)<n:=by omega
  have c8:¬((k:Int)<0):=by omega
  have a6:=aJ.1;have Y:=aJ.2;have b0:w2.cell? ⟨w.heap.size,0,none⟩=some (.int .u8 ya):=by simp[World.cell?,a6]
  have b1:w2.cell? ⟨w.heap.size,1,none⟩=some (.int .i64 yb):=by simp[World.cell?,a6]
  have b2:w2.cell? ⟨w.heap.size,2,none⟩=some (.slice (some ⟨vg,0,none⟩) l.length l.length):=by simp[World.cell?,a6]
  have np:¬w.heap.size+1=pb:=by omega
  have aY:¬pb=w.heap.size+1:=by omega
  go_wp2_with fail
  go_region
  generalize a5:World.drew (((w2.setCell ⟨pb,k*3,none⟩ (.int .u8 ya)).setCell ⟨pb,k*3+1,none⟩ (.int .i64 yb)).setCell ⟨pb,k*3+2,none⟩ (.slice (some ⟨vg,0,none⟩) l.length l.length))=w5;have a1:∀x,x≠pb->w5.heap[x]? = w2.heap[x]?:=by
   intro x o;rw[<-a5];show(World.setCell _ _ _).heap[x]? = _;rw[af _ _ _ _ o,af _ _ _ _ o,af _ _ _ _ o]
  have b6:Hid (Full w5 pb 228 (n*3) (n*3) (ep (ep (ep (iM kd.on vb.f s.2.2) (k*3) (.int .u8 ya)) (k*3+1) (.int .i64 yb)) (k*3+2) (.slice (some ⟨vg,0,none⟩) l.length l.length))):=by
   show Full _ _ _ _ _ _;rw[<-a5];exact((H.p.p.ep (k*3) (.int .u8 ya)).ep (k*3+1) (.int .i64 yb)).ep (k*3+2) (.slice (some ⟨vg,0,none⟩) l.length l.length)
  have aU:Hid (dy (pP sb pb n kd vb) w w5):=by
   show dy _ _ _;rw[<-a5];exact qi (bm (bm (bm bM (ag (ab (ag rfl))) _) (ag (ab (ag rfl))) _) (ag (ab (ag rfl))) _)
  have aX:=az ((a1 _ np).trans Y);have aP:=az ((a1 sb H.ju.1).trans H.b);have bW:=az a1;have bJ:=az (bR.block (a1 vg (by obtain⟨cu,h,_⟩:=bR;obtain⟨cG,h',_⟩:=H.p.p;exact dW h h' (by decide))));have aW:=az (xf H.p aI HT bJ (λp a c d e=>bN (by rw[<-e];exact a3 _ (ag ⟨p,a,c,d,rfl⟩))) (by rw[bU.out,c3.out];exact b6) (λp a c d=>a1 _ (H.ju.2 _ (ag ⟨p,a,c,d,rfl⟩)).2));go_wp2_with fail
  refine(DX k (by omega) _).mono ?_;rintro e u ⟨rfl,aC⟩;have G:=cm aC aP (by intro e;cases e);have a0:=cm aC aX (by intro e;cases e);have a2:=az aC;have aF:=az G;have d2:u.cell? ⟨sb,2,none⟩=some (yg kd vb):=by simp[World.cell?,G]
  have r0:u.cell? ⟨w.heap.size+1,0,none⟩=some (.int .i64 0):=by simp[World.cell?,a0]
  have r1:u.cell? ⟨w.heap.size+1,1,none⟩=some (.int .i64 0):=by simp[World.cell?,a0]
  have t0:u.frozen? ⟨w.heap.size+1,0,none⟩=false:=by simp[World.frozen?,a0]
  have t1:u.frozen? ⟨w.heap.size+1,1,none⟩=false:=by simp[World.frozen?,a0]
  have bV:=bz G;have bG:=bz a0;rcases hcy:kd.cy with _|c
  .rw [mx hcy]at d2;have a8:=az hcy;go_wp2_with fail
   refine da (v:=.tuple #[.agg #[.int .i64 ((k:Int)+1),.int .i64 0],.bool true]) (by simp[results,results199,go_sem,r0,r1,bG]) rfl ?_;have W:∀x,x≠w.heap.size+1->x<u.heap.size->(((u.setCell ⟨w.heap.size+1,0,none⟩ (.int .i64 ((k:Int)+1))).setCell ⟨w.heap.size+1,1,none⟩ (.int .i64 0)).alloc (.cells #[.int .i64 ((k:Int)+1),.int .i64 0] 149)).heap[x]? = u.heap[x]?:=λx o hl=>by
    rw[ak _ _ _ (by simp[World.setCell];exact hl),af _ _ _ _ o,af _ _ _ _ o]
   have aD:=λx h=>KR.hs.lt x (a3 x h);have b5:=HV.lt;refine⟨?_,ag ⟨k,kd,HQ.1,HQ.2.1,HQ.2.2.1,HQ.2.2.2,rfl,⟨?_,?_,λc hc=>?_⟩,λx o=>(sS o).imp (a3 x) id⟩⟩
   .exact gF (bm (bm (aU.gR a2) (ab (by simp)) _) (ab (by simp)) _) _
   .rw [tG];exact(W sb (by omega) (by omega)).trans aF
   .refine (aW.kept a2).block (W pb aY (by omega)) (λp a c d=>?_);by_cases e:p=k+1
    .simp only[Fb.put,aj e];exact W vg (by omega) (by omega)
    simp only[Fb.put,aa e];rw[B.fg _ _ _ e]at d;have:=aD _ (ag ⟨p,a,c,d,rfl⟩);exact W _ (by omega) (by omega)
   have aE:kd.cy.map (λc:B.Cy=>(⟨B.mark c.m (k+1),c.st,c.nx⟩:B.Cy))=some c:=hc;rw[a8.out]at aE;cases aE
  rw [mu hcy]at d2;have a8:=az hcy;have bD:=((H.c c a8).block (λx o=>bW x (H.ju.2 x (ab ⟨by rw[a8.out];rfl,o⟩)).2)).kept a2;have cH:=az bD;have aD:=λx h=>KR.hs.lt x (a3 x h);have bP:=az aD;have cS:=aD _ (ab ⟨by rw[a8.out];rfl,ab (ag rfl)⟩);have cL:=az (cm a2 aX (by intro e;cases e));have cB:Hid (kY (u.alloc (.cells #[.int .i64 ((k:Int)+1),.int .i64 0] 149)).drew vb.cb vb.rd sb n vb.ad vb.cap c):=(bD.kept (ah u (.cells #[.int .i64 ((k:Int)+1),.int .i64 0] 149) none)).block (λ_ _=>rfl);have cK:Hid (∀w8:World,(u.alloc (.cells #[.int .i64 ((k:Int)+1),.int .i64 0] 149)).drew.grownBy w8 (some vb.rd)->u.grownBy w8 (some vb.rd)/\w8.cell? ⟨w.heap.size+1,0,none⟩=some (.int .i64 0)/\w8.cell? ⟨w.heap.size+1,1,none⟩=some (.int .i64 0)/\w8.frozen? ⟨w.heap.size+1,0,none⟩=false/\w8.frozen? ⟨w.heap.size+1,1,none⟩=false/\w.heap.size+1<w8.heap.size/\w8.cell? ⟨u.heap.size,0,none⟩=some (.int .i64 ((k:Int)+1))/\w8.cell? ⟨u.heap.size,1,none⟩=some (.int .i64 0)/\u.heap.size<w8.heap.size):=by
   intro w8 a9;have aG:=an (ah u (.cells #[.int .i64 ((k:Int)+1),.int .i64 0] 149) _) ⟨a9.os,a9.tape,a9.output,a9.size,a9.block⟩;have aQ:=cm aG cL (by intro e;injection e with e;omega);have cQ:u.heap.size+1<=w8.heap.size:=by have:=a9.size;simpa[World.drew] using this
   have c6:=(a9.block u.heap.size (by simp[World.drew]) (by intro e;injection e with e;omega)).trans (bf u _);exact⟨aG,by simp[World.cell?,aQ],by simp[World.cell?,aQ],by simp[World.frozen?,aQ],by simp[World.frozen?,aQ],bz aQ,by simp[World.cell?,c6],by simp[World.cell?,c6],by omega⟩
  go_wp2_with fail
  go_region_with (go_at_call 221;refine(Bd vb.cb vb.rd sb n k vb.ad vb.cap c 0 _ cB hk hn).mono ?_;rintro e w8 ⟨rfl,bQ,a9⟩;obtain⟨aG,q0,q1,v0,v1,cP,n0,n1,cR⟩:=cK w8 a9;have bO:=az aG;have cJ:=az bQ;clear a9 aG bQ)
  all_goals
   go_wp2_with fail
   refine da (v:=.tuple #[.agg #[.int .i64 ((k:Int)+1),.int .i64 0],.bool true]) (by simp[results,results199,go_sem,q0,q1]) rfl ?_;have W:∀x,x≠w.heap.size+1->((w8.setCell ⟨w.heap.size+1,0,none⟩ (.int .i64 ((k:Int)+1))).setCell ⟨w.heap.size+1,1,none⟩ (.int .i64 0)).heap[x]? = w8.heap[x]?:=λx o=>by
    rw[af _ _ _ _ o,af _ _ _ _ o]
   have aI:∀x,x<u.heap.size->x≠vb.rd->w8.heap[x]? = u.heap[x]?:=λx o hn=>bO.block x o (by intro e;injection e with e;exact hn e);have b5:=HV.lt;have bC:∀(x:Nat) (bS:Array Value) (T:TypeId),u.heap[x]? = some (.cells bS T (0,0))->T≠4->x≠vb.rd:=λx bS T o hT=>by
    obtain⟨cu,h,_⟩:=cH.r;exact dW o h hT
   refine⟨?_,ag ⟨k,kd,HQ.1,HQ.2.1,HQ.2.2.1,HQ.2.2.2,rfl,⟨?_,?_,λc' hc=>?_⟩,λx o=>(sS o).imp (a3 x) id⟩⟩
   .refine bm (bm ((aU.gR a2).then bO (ag (ab (ab (a3 _ (ab ⟨by rw[a8.out];rfl,ab (ag rfl)⟩)))))) (ab (by simp)) _) (ab (by simp)) _
   .rw [tG];exact((W sb (by omega)).trans (aI sb (by omega) (bC _ _ _ aF (by decide)))).trans aF
   .have bB:=aW.kept a2;refine bB.block ((W pb aY).trans (aI pb (by omega) ?_)) (λp a c d=>?_)
    .obtain ⟨cu,h,_⟩:=bB.p;exact bC _ _ _ h (by decide)
    obtain ⟨cu,h,_⟩:=bB.s p a c d;have hl:(vb.f.put (k+1) vg t).b p<w.heap.size:=by
     show(if p=k+1 then vg else vb.f.b p)<w.heap.size;by_cases e:p=k+1
     .rw [aj e];exact b5
     rw [aa e];rw[B.fg _ _ _ e]at d;exact bP _ (ag ⟨p,a,c,d,rfl⟩)
    exact(W _ (by omega)).trans (aI _ (by omega) (bC _ _ _ h (by decide)))
   have aE:kd.cy.map (λc:B.Cy=>(⟨B.mark c.m (k+1),c.st,c.nx⟩:B.Cy))=some c':=hc;rw[a8.out]at aE;have e:(⟨B.mark c.m (k+1),c.st,c.nx⟩:B.Cy)=c':=by injection aE
   subst e;exact cJ.block (λx o=>W x (by
    have:=bP x (ab ⟨by rw[a8.out];rfl,o⟩);omega))
 have aH:=az (an aO a7);have aJ:=az (ay (cm a7 aL.1 (by intro e;cases e)) (cm a7 aL.2 (by intro e;cases e)));have aV:=az (aK.kept a7);have cC:=az a4;go_wp2_with fail
 refine(Bm Q eb sb pb n nr kd vb s w2 aV).mono ?_;rintro e w3 ⟨rfl,on,hm,bA,bI,aS,bY⟩;have Km:=az (ay hm (ay bA bI));have aN:=az bY;have b4:Hid (dy (pP sb pb n kd vb) w w3):=(dU aH).trans aS (λx h _=>h.elim ag (λh=>ab (ag h)));have aZ:=az (ay (aS.block aJ.1 (by omega)) (aS.block aJ.2 (by omega)));have bL:Hid (Full w3 vg 149 (l.length*2) (l.length*2) (eC (λi=>l.getD i (0,0)))):=by
  have bE:=HV.block (aH.block vg HV.lt (by intro e;cases e));refine bE.block (aS.same bE.lt ?_);obtain⟨cM,c7,_⟩:=bE;rintro(h|h)
  .exact dW c7 aV.hs.b (by decide) h
  obtain ⟨cN,cD,_⟩:=aV.hs.p.p;exact dW c7 cD (by decide) h
 have a3:Hid (∀x,Own n ⟨on,none,kd.un,kd.fo+1,kd.cc⟩ vb x->Own n kd vb x):=λx o=>by
  rcases o with⟨p,a,b,d,e⟩|⟨h,_⟩
  .exact ag ⟨p,a,b,bA p d,e⟩
  cases h
 have bZ:=az (B.yR KR.hh bI);go_wp2_with fail
 refine(oE sb pb n on vb.f s.2.2 w3 aN.c0 aN.p hn).mono ?_;rintro e w4 ⟨aA,⟨k,hk,aR,rfl⟩|⟨a4,rfl⟩⟩
 .generalize aB:(⟨on,none,kd.un,kd.fo+1,kd.cc⟩:B.Kd)=Z at *;have b9:Z.on=on:=by rw[<-aB]
  have aM:Hid (Z.cy=none):=by show _=_;rw[<-aB]
  have HQ:Hid (k<n/\Z.on (k+1)=false/\B.iZ Z nr n s/\Gj nr n s kd Z):=⟨hk,by rw[b9];exact aR,bZ,ab ⟨cC,aM,by rw[<-aB],by rw[<-aB],by rw[<-aB],by rw[b9];exact Km.1⟩⟩;have J:=az (aN.kept aA);have bT:=az (ay (cm aA aZ.1 (by intro e;cases e)) (cm aA aZ.2 (by intro e;cases e)));have aT:=az (b4.gR aA);have bX:=az (bL.block (aA.block vg bL.lt (by intro e;cases e)));obtain⟨p0,z0⟩:=J.p.p.cells (k*3) (by omega);obtain⟨p1,z1⟩:=J.p.p.cells (k*3+1) (by omega);obtain⟨p2,z2⟩:=J.p.p.cells (k*3+2) (by omega);generalize iM Z.on vb.f s.2.2 (k*3)=y0 at p0;generalize iM Z.on vb.f s.2.2 (k*3+1)=y1 at p1;generalize iM Z.on vb.f s.2.2 (k*3+2)=y2 at p2;have s0:=J.c0;have cF:(k:Int)<n:=by omega
  have c8:¬((k:Int)<0):=by omega
  have a6:=bT.1;have Y:=bT.2;have b0:w4.cell? ⟨w.heap.size,0,none⟩=some (.int .u8 ya):=by simp[World.cell?,a6]
  have b1:w4.cell? ⟨w.heap.size,1,none⟩=some (.int .i64 yb):=by simp[World.cell?,a6]
  have b2:w4.cell? ⟨w.heap.size,2,none⟩=some (.slice (some ⟨vg,0,none⟩) l.length l.length):=by simp[World.cell?,a6]
  have np:¬w.heap.size+1=pb:=by omega
  have aY:¬pb=w.heap.size+1:=by omega
  go_wp2_with fail
  go_region
  generalize a5:World.drew (((w4.setCell ⟨pb,k*3,none⟩ (.int .u8 ya)).setCell ⟨pb,k*3+1,none⟩ (.int .i64 yb)).setCell ⟨pb,k*3+2,none⟩ (.slice (some ⟨vg,0,none⟩) l.length l.length))=w5;have a1:∀x,x≠pb->w5.heap[x]? = w4.heap[x]?:=by
   intro x o;rw[<-a5];show(World.setCell _ _ _).heap[x]? = _;rw[af _ _ _ _ o,af _ _ _ _ o,af _ _ _ _ o]
  have b6:Hid (Full w5 pb 228 (n*3) (n*3) (ep (ep (ep (iM Z.on vb.f s.2.2) (k*3) (.int .u8 ya)) (k*3+1) (.int .i64 yb)) (k*3+2) (.slice (some ⟨vg,0,none⟩) l.length l.length))):=by
   show Full _ _ _ _ _ _;rw[<-a5];exact((J.p.p.ep (k*3) (.int .u8 ya)).ep (k*3+1) (.int .i64 yb)).ep (k*3+2) (.slice (some ⟨vg,0,none⟩) l.length l.length)
  have aU:Hid (dy (pP sb pb n kd vb) w w5):=by
   show dy _ _ _;rw[<-a5];exact qi (bm (bm (bm aT (ag (ab (ag rfl))) _) (ag (ab (ag rfl))) _) (ag (ab (ag rfl))) _)
  have aX:=az ((a1 _ np).trans Y);have aP:=az ((a1 sb J.ju.1).trans J.b);have bJ:=az (bX.block (a1 vg (by obtain⟨cu,h,_⟩:=bX;obtain⟨cG,h',_⟩:=J.p.p;exact dW h h' (by decide))));have aW:=az (xf J.p aI HT bJ (λp a c d e=>bN (by rw[<-e];exact a3 _ (ag ⟨p,a,c,d,rfl⟩))) (by rw[bU.out,c3.out];exact b6) (λp a c d=>a1 _ (J.ju.2 _ (ag ⟨p,a,c,d,rfl⟩)).2));go_wp2_with fail
  refine(DX k (by omega) _).mono ?_;rintro e u ⟨rfl,aC⟩;have G:=cm aC aP (by intro e;cases e);have a0:=cm aC aX (by intro e;cases e);have a2:=az aC;have aF:=az G;have d2:u.cell? ⟨sb,2,none⟩=some (yg Z vb):=by simp[World.cell?,G]
  have r0:u.cell? ⟨w.heap.size+1,0,none⟩=some (.int .i64 0):=by simp[World.cell?,a0]
  have r1:u.cell? ⟨w.heap.size+1,1,none⟩=some (.int .i64 0):=by simp[World.cell?,a0]
  have t0:u.frozen? ⟨w.heap.size+1,0,none⟩=false:=by simp[World.frozen?,a0]
  have t1:u.frozen? ⟨w.heap.size+1,1,none⟩=false:=by simp[World.frozen?,a0]
  have bV:=bz G;have bG:=bz a0;have a8:=aM;rw[mx aM]at d2;go_wp2_with fail
  refine da (v:=.tuple #[.agg #[.int .i64 ((k:Int)+1),.int .i64 0],.bool true]) (by simp[results,results199,go_sem,r0,r1,bG]) rfl ?_;have W:∀x,x≠w.heap.size+1->x<u.heap.size->(((u.setCell ⟨w.heap.size+1,0,none⟩ (.int .i64 ((k:Int)+1))).setCell ⟨w.heap.size+1,1,none⟩ (.int .i64 0)).alloc (.cells #[.int .i64 ((k:Int)+1),.int .i64 0] 149)).heap[x]? = u.heap[x]?:=λx o hl=>by
   rw[ak _ _ _ (by simp[World.setCell];exact hl),af _ _ _ _ o,af _ _ _ _ o]
  have aD:=λx h=>KR.hs.lt x (a3 x h);have b5:=HV.lt;refine⟨?_,ag ⟨k,Z,HQ.1,HQ.2.1,HQ.2.2.1,HQ.2.2.2,rfl,⟨?_,?_,λc hc=>?_⟩,λx o=>(sS o).imp (a3 x) id⟩⟩
  .exact gF (bm (bm (aU.gR a2) (ab (by simp)) _) (ab (by simp)) _) _
  .rw [tG];exact(W sb (by omega) (by omega)).trans aF
  .refine (aW.kept a2).block (W pb aY (by omega)) (λp a c d=>?_);by_cases e:p=k+1
   .simp only[Fb.put,aj e];exact W vg (by omega) (by omega)
   simp only[Fb.put,aa e];rw[B.fg _ _ _ e]at d;have:=aD _ (ag ⟨p,a,c,d,rfl⟩);exact W _ (by omega) (by omega)
  have aE:Z.cy.map (λc:B.Cy=>(⟨B.mark c.m (k+1),c.st,c.nx⟩:B.Cy))=some c:=hc;rw[a8.out]at aE;cases aE
 have aT:=az (b4.gR aA);have Y:=cm aA aZ.2 (by intro e;cases e);have r0:w4.cell? ⟨w.heap.size+1,0,none⟩=some (.int .i64 0):=by simp[World.cell?,Y]
 have r1:w4.cell? ⟨w.heap.size+1,1,none⟩=some (.int .i64 0):=by simp[World.cell?,Y]
 have t0:w4.frozen? ⟨w.heap.size+1,0,none⟩=false:=by simp[World.frozen?,Y]
 have t1:w4.frozen? ⟨w.heap.size+1,1,none⟩=false:=by simp[World.frozen?,Y]
 have HQ:=az (ay Km a4);have J:=az (aN.kept aA);go_wp2_with fail
 refine da (v:=.tuple #[.agg #[.int .i64 0,.int .i64 0],.bool false]) (by simp[results,results199,go_sem,r0,r1]) rfl ?_;have aD:=λx h=>KR.hs.lt x (a3 x h);refine⟨?_,ab ⟨rfl,λp a c=>(HQ.1.1 p a c).1 (HQ.2 p a c),_,J.block ?_ ?_ (λx o=>?_),bZ,a3⟩⟩
 .repeat (first|exact aT|refine bm ?_ (ab (by simp)) _)
 .rw [af _ _ _ _ (by show sb≠w.heap.size+1;omega),af _ _ _ _ (by show sb≠w.heap.size+1;omega)]
 .rw [af _ _ _ _ (by show pb≠w.heap.size+1;omega),af _ _ _ _ (by show pb≠w.heap.size+1;omega)]
 have:=aD x o;rw[af _ _ _ _ (by show x≠w.heap.size+1;omega),af _ _ _ _ (by show x≠w.heap.size+1;omega)]
def Laid(w w':World)(sb pb eb n nr t:Nat)(l:List B.V)(kd:B.Kd)(vb:Vs)(s:B.St)(v:Value):Prop:=
 (∃(k vg:Nat) (kd1:B.Kd),k<n/\kd1.on (k+1)=false/\B.iZ kd1 nr n s/\Gj nr n s kd kd1/\v=.tuple #[.agg #[.int .i64 ((k:Int)+1),.int .i64 0],.bool true]/\jm w' sb pb eb n (B.laid kd1 (k+1)) (vb.put (k+1) vg t) (B.lay s.2.2 (k+1) l)/\ox n kd vb (B.laid kd1 (k+1)) (vb.put (k+1) vg t) w.heap.size) \/
 (v=.tuple #[.agg #[.int .i64 0,.int .i64 0],.bool false]/\(∀p,1<=p->p<=n->B.Reach nr s p)/\∃kd1,jm w' sb pb eb n kd1 vb s.2.2/\B.iZ kd1 nr n s/\ox n kd vb kd1 vb w.heap.size)
theorem Laid.pre{w0 w w':World}{sb pb eb n nr t:Nat}{l:List B.V}{kd:B.Kd}{vb:Vs}{s:B.St}{v:Value}(hz:w0.heap.size<=w.heap.size)(h:Laid w w' sb pb eb n nr t l kd vb s v):Laid w0 w' sb pb eb n nr t l kd vb s v:=by
 rcases h with⟨k,Y,e,o,J,H,i,G,u,W⟩|⟨o,J,e,H,G,u⟩
 .exact ag ⟨k,Y,e,o,J,H,i,G,u,λx y=>(W x y).imp id (λh=>dH hz h)⟩
 exact ab ⟨o,J,e,H,G,λx y=>(u x y).imp id (λh=>dH hz h)⟩
theorem Laid.form{w w':World}{sb pb eb n nr t:Nat}{l:List B.V}{kd:B.Kd}{vb:Vs}{s:B.St}{v:Value}(h:Laid w w' sb pb eb n nr t l kd vb s v):∃(x:Int) (o:Bool),v=.tuple #[.agg #[.int .i64 x,.int .i64 0],.bool o]:=by
 rcases h with⟨k,H,e,u,G,y,_,i,_⟩|⟨h,_⟩
 .exact⟨_,_,i⟩
 exact⟨_,_,h⟩
theorem vt(Q:Nat->Prop)(eb sb pb n nr b:Nat)(kd:B.Kd)(vb:Vs)(s:B.St)(w:World)(hR:BG w Q eb sb pb n nr kd vb s)(aH:b<=8): Calls prog 157 #[P0 sb,.int .i64 b] w λe w'=>∃v,e=.returned v/\dy (pP sb pb n kd vb) w w'/\Laid w w' sb pb eb n nr 0 (List.replicate b (0,0)) kd vb s v:=by
 have KR:=az hR;have lp:=hR.hs.p.p.lt;have ls:=bz hR.hs.b;have Z:=az hR.hs.lt;clear hR;obtain⟨i0,hi,aF,aB,a9⟩:=info_parts Tryz.rE;go_in;go_wp2_with (at_make;go_loud (refine wpList_make_full _ rfl _ _ 137 rfl 0 149 i0 _ 2 underlying137 hi aF aB _ _ _ _ b rfl rfl rfl rfl (by rw[a9];omega) (by unfold maxLen;omega) (dc _) ?_))
 intro w3 Y H;have aD:=H.size;have a4:Full w3 (w.heap.size+1) 149 (b*2) (b*2) (eC (λ_=>(0,0))):=by
  rcases Y.2 with⟨h,_⟩|⟨g',aL,aG,J,h2,h3,h4,h5,h6,h7⟩
  .cases h
  injection J with J _ hc;injection J with J;injection J with J _ _;have aJ:g'=w.heap.size+1:=by simpa using J.symm
  subst aJ hc;refine⟨aG,h3,h6,λj hj=>?_⟩;have e1:=congrArg (λl=>l[j]?) h7;have e2:(madeCells #[.int .i64 0,.int .i64 0] (b*2)).toList[j]? = some (.int .i64 0):=by
   simp only[madeCells,Array.getElem?_toList,Array.getElem?_map,Array.getElem?_range];rw[aj hj];have:j % 2=0\/j % 2=1:=by omega
   rcases this with h|h<;>simp[h]
  simp only[e2,dh]at e1;rw[aj hj]at e1;have e3:eC (λ_=>((0,0):B.V)) j=.int .i64 0:=by unfold eC;split<;>rfl
  rw[e3];simpa using e1
 have x3:=cm H (show(w.alloc (.cells #[.int .i64 0,.int .i64 0] 149)).heap[w.heap.size]? = _ from bf w _) (by intro e;cases e);have a5:=az (an (ah _ _ _) H);have a3:=az a4;have aK:=az x3;have aA:=az (KR.kept a5);clear Y H a4 x3;go_wp2_with fail
 have a1:Hid (Full w3 (w.heap.size+1) 149 ((List.replicate b ((0,0):B.V)).length*2) ((List.replicate b ((0,0):B.V)).length*2) (eC (λi=>(List.replicate b ((0,0):B.V)).getD i (0,0)))):=by
  show Full _ _ _ _ _ _;rw[ik];refine a3.congr (λj _=>?_);unfold eC;have:(List.replicate b ((0,0):B.V)).getD (j / 2) (0,0)=(0,0):=by
   rw[ar,List.getElem?_replicate];split<;>rfl
  simp only[this]
 have aC:(.agg #[.int .u8 1,.int .i64 0,.slice (some ⟨w.heap.size+1,0,none⟩) b b]:Value)=.agg #[tZ true 0,vJ 0,.slice (some ⟨w.heap.size+1,0,none⟩) (List.replicate b ((0,0):B.V)).length (List.replicate b ((0,0):B.V)).length]:=by rw[ik];rfl
 rw[aC];refine(zY Q eb sb pb n nr (w.heap.size+1) 0 (List.replicate b (0,0)) kd vb s w3 aA a1 (by simpa using aH) (λh=>ch rfl h) (λh=>by have:=Z _ h;omega)).mono ?_;intro e w4 h4;have a0:=h4.1;obtain⟨x,o,he,a7⟩:∃(x:Int) (o:Bool),e=.returned (.tuple #[.agg #[.int .i64 x,.int .i64 0],.bool o])/\∀y:Value,Laid w (w4.setCell ⟨w.heap.size,0,none⟩ y |>.setCell ⟨w.heap.size,1,none⟩ (.int .i64 0)) sb pb eb n nr 0 (List.replicate b (0,0)) kd vb s (.tuple #[.agg #[.int .i64 x,.int .i64 0],.bool o]):=by
  have a6:∀(u:B.Kd) (W:Vs) (M:Nat->List B.V) (y:Value),jm w4 sb pb eb n u W M->(∀x,Own n u W x->Own n kd vb x\/x=w.heap.size+1)->jm (w4.setCell ⟨w.heap.size,0,none⟩ y |>.setCell ⟨w.heap.size,1,none⟩ (.int .i64 0)) sb pb eb n u W M:=λu W M y hS hG=>
   hS.block ((af _ _ _ _ (by show sb≠w.heap.size;omega)).trans (af _ _ _ _ (by show sb≠w.heap.size;omega))) ((af _ _ _ _ (by show pb≠w.heap.size;omega)).trans (af _ _ _ _ (by show pb≠w.heap.size;omega))) (λk hk=>by
    have a2:k≠w.heap.size:=by
     rcases hG k hk with h|h
     .have:=Z k h;omega
     omega
    exact(af _ _ _ _ a2).trans (af _ _ _ _ a2))
  rcases h4.2 with⟨k,u,J,h2,h3,aI,rfl,h5,h6⟩|⟨rfl,h5,u,h6,h7,h8⟩
  .exact⟨_,_,rfl,λy=>ag ⟨k,w.heap.size+1,u,J,h2,h3,aI,rfl,a6 _ _ _ y h5 h6,λx G=>(h6 x G).imp id (λh=>by omega)⟩⟩
  exact⟨_,_,rfl,λy=>ab ⟨rfl,h5,u,a6 _ _ _ y h6 (λx G=>ag (h8 x G)),h7,λx G=>ag (h8 x G)⟩⟩
 subst he;have G:=a0.block aK (by
  rintro(h|h|h)
  .omega
  .omega
  have:=Z _ h;omega)
 have r0:w4.cell? ⟨w.heap.size,0,none⟩=some (.int .i64 0):=by simp[World.cell?,G]
 have r1:w4.cell? ⟨w.heap.size,1,none⟩=some (.int .i64 0):=by simp[World.cell?,G]
 have t0:w4.frozen? ⟨w.heap.size,0,none⟩=false:=by simp[World.frozen?,G]
 have t1:w4.frozen? ⟨w.heap.size,1,none⟩=false:=by simp[World.frozen?,G]
 have a8:=az ((dU (S:=pP sb pb n kd vb) a5).trans a0 (λ_ h _=>h));have aE:=az a7;clear h4 a0 a7 G;go_wp2_with fail
 refine da (v:=.tuple #[.agg #[.int .i64 x,.int .i64 0],.bool o]) (by simp[results,results157,go_sem,r0,r1]) rfl ?_;refine⟨_,rfl,bm (bm a8 (ab (by simp)) _) (ab (by simp)) _,?_⟩;exact aE _
theorem xp(Q:Nat->Prop)(op a b c fb tb eb sb pb n nr:Nat)(kd:B.Kd)(vb:Vs)(s:B.St)(w:World)(hR:BG w Q eb sb pb n nr kd vb s)(aB:b<=8)(a6:w.cell? ⟨eb,27,none⟩=some (P0 sb))(he:¬pP sb pb n kd vb eb): Calls prog 100 #[dZ op a b c fb tb eb] w λe w'=>∃v,e=.returned v/\dy (pP sb pb n kd vb) w w'/\Laid w w' sb pb eb n nr 0 (List.replicate b (0,0)) kd vb s v:=by
 have KR:=az hR;have le:=gW a6;have lp:=hR.hs.p.p.lt;have ls:=bz hR.hs.b;have a5:=az hR.hs.lt;have a1:Hid (∀x,w.heap.size<=x->¬pP sb pb n kd vb x):=λx W h=>by
  rcases h with h|h|h
  .omega
  .omega
  have:=a5 x h;omega
 clear hR;go_in;go_wp2_with fail
 generalize hW:(w.alloc (.cells #[.int .u8 op,.int .u8 a,.int .u8 b,.int .u8 c,P0 fb,P0 tb,P0 eb] 186)).alloc (.cells #[.int .i64 0,.int .i64 0] 149)=w1;have J:Hid (w.grownBy w1 none):=by rw[<-hW];exact au (ah _ _ _) _
 have W:w1.heap[w.heap.size]? = some (lZ op a b c fb tb eb):=by rw[<-hW,ak _ _ _ (by simp)];exact bf w _
 have hr:w1.heap[w.heap.size+1]? = some (.cells #[.int .i64 0,.int .i64 0] 149 (0,0)):=by
  rw[<-hW];have:=bf (w.alloc (.cells #[.int .u8 op,.int .u8 a,.int .u8 b,.int .u8 c,P0 fb,P0 tb,P0 eb] 186)) (.cells #[.int .i64 0,.int .i64 0] 149);simpa using this
 clear hW;have HR:=az hr;have aA:=az (KR.kept (bq J));obtain⟨x0,x1,x2,x3,x4,x5,x6⟩:=fk W;have lx:=bz W;have lr:=bz hr;obtain⟨a7,_⟩:=bh J (a:=⟨eb,27,none⟩) le;rw[a6]at a7;have aC:eb<w1.heap.size:=by omega
 clear W hr;have HS:∀w':World,dy (pP sb pb n kd vb) w1 w'->w'.cell? ⟨w.heap.size,6,none⟩=some (P0 eb)/\w'.cell? ⟨w.heap.size,2,none⟩=some (.int .u8 b)/\w'.cell? ⟨eb,27,none⟩=some (P0 sb):=by
  intro w' hO;exact⟨(hO.cell (o:=6) lx (a1 _ (bj _))).trans x6,(hO.cell (o:=2) lx (a1 _ (bj _))).trans x2,(hO.cell (o:=27) aC he).trans a7⟩
 have Z:=az HS;clear HS;have aG:IntKind.i64.wrap (b:Int)=b:=by simp[IntKind.wrap,IntKind.bits,IntKind.signed];omega
 go_region_held3 (λw'=>w'.cell? ⟨w.heap.size,6,none⟩=some (P0 eb)/\w'.cell? ⟨w.heap.size,2,none⟩=some (.int .u8 b)/\w'.cell? ⟨eb,27,none⟩=some (P0 sb)) (first|exact Z _ (dk _ _)|exact Z _ a2|exact a3) (first|(go_at_call 157;refine(vt Q eb sb pb n nr b kd vb s w1.drew aA aB).mono ?_;rintro e H ⟨v,rfl,Y,a0⟩;obtain⟨x,ob,rfl⟩:=a0.form;have a2:Hid (dy (pP sb pb n kd vb) w1 H):=Y;have a9:Hid (Laid w1 H sb pb eb n nr 0 (List.replicate b (0,0)) kd vb s (.tuple #[.agg #[.int .i64 x,.int .i64 0],.bool ob])):=a0;have G:=Y.block (k:=w.heap.size+1) HR (a1 _ (Nat.le_succ _));have r0:H.cell? ⟨w.heap.size+1,0,none⟩=some (.int .i64 0):=(by simp[World.cell?,G]);have r1:H.cell? ⟨w.heap.size+1,1,none⟩=some (.int .i64 0):=(by simp[World.cell?,G]);have r2:H.frozen? ⟨w.heap.size+1,0,none⟩=false:=(by simp[World.frozen?,G]);have r3:H.frozen? ⟨w.heap.size+1,1,none⟩=false:=(by simp[World.frozen?,G]);have a3:Hid (((H.setCell ⟨w.heap.size+1,0,none⟩ (.int .i64 x)).setCell ⟨w.heap.size+1,1,none⟩ (.int .i64 0)).cell? ⟨w.heap.size,6,none⟩=some (P0 eb)/\((H.setCell ⟨w.heap.size+1,0,none⟩ (.int .i64 x)).setCell ⟨w.heap.size+1,1,none⟩ (.int .i64 0)).cell? ⟨w.heap.size,2,none⟩=some (.int .u8 b)/\((H.setCell ⟨w.heap.size+1,0,none⟩ (.int .i64 x)).setCell ⟨w.heap.size+1,1,none⟩ (.int .i64 0)).cell? ⟨eb,27,none⟩=some (P0 sb)):=(by have h:=Z H Y;exact⟨(aw (a:=⟨w.heap.size,6,none⟩) ((af _ _ _ _ (by simp)).trans (af _ _ _ _ (by simp)))).trans h.1,(aw (a:=⟨w.heap.size,2,none⟩) ((af _ _ _ _ (by simp)).trans (af _ _ _ _ (by simp)))).trans h.2.1,(aw (a:=⟨eb,27,none⟩) ((af _ _ _ _ (by show eb≠w.heap.size+1;omega)).trans (af _ _ _ _ (by show eb≠w.heap.size+1;omega)))).trans h.2.2⟩);clear G Y a0))
 all_goals
  go_wp2_with fail
  refine da (v:=.tuple #[.agg #[.int .i64 x,.int .i64 0],.bool ob]) (by simp[results,results100,go_sem,r0,r1]) rfl ?_;refine⟨_,rfl,bm (bm ((dU J).trans a2 (λ_ h _=>h)) (ab (by simp)) _) (ab (by simp)) _,?_⟩;have a4:∀(i:B.Kd) (u:Vs) (M:Nat->List B.V),jm H sb pb eb n i u M->ox n kd vb i u w1.heap.size->∀x,Own n i u x->x≠w.heap.size+1:=λi u M hS hG x W=>by
   rcases hG x W with h|h
   .have:=a5 x h;omega
   omega
  have a8:∀(i:B.Kd) (u:Vs) (M:Nat->List B.V) (y z:Value),jm H sb pb eb n i u M->ox n kd vb i u w1.heap.size->jm ((H.setCell ⟨w.heap.size+1,0,none⟩ y).setCell ⟨w.heap.size+1,1,none⟩ z) sb pb eb n i u M:=λi u M y z hS hG=>
   hS.block ((af _ _ _ _ (by show sb≠w.heap.size+1;omega)).trans (af _ _ _ _ (by show sb≠w.heap.size+1;omega))) ((af _ _ _ _ (by show pb≠w.heap.size+1;omega)).trans (af _ _ _ _ (by show pb≠w.heap.size+1;omega))) (λk hk=>(af _ _ _ _ (a4 _ _ _ hS hG k hk)).trans (af _ _ _ _ (a4 _ _ _ hS hG k hk)))
  rcases a9 with⟨k,vg,i,h1,h2,h3,aD,h4,h5,h6⟩|⟨h1,h2,i,h3,h4,h5⟩
  .exact ag ⟨k,vg,i,h1,h2,h3,aD,h4,a8 _ _ _ _ _ h5 h6,λx W=>(h6 x W).imp id (λh=>by omega)⟩
  exact ab ⟨h1,h2,i,a8 _ _ _ _ _ h3 h5,h4,λx W=>(h5 x W).imp id (λh=>by omega)⟩
theorem xm(Q:Nat->Prop)(eb sb pb n nr f:Nat)(u:B.V)(kd:B.Kd)(vb:Vs)(s:B.St)(w:World)(hR:BG w Q eb sb pb n nr kd vb s): Calls prog 161 #[P0 sb,.int .i64 f,vA u] w λe w'=>∃v,e=.returned v/\dy (pP sb pb n kd vb) w w'/\Laid w w' sb pb eb n nr (f+1) [u] kd vb s v:=by
 have KR:=az hR;have lp:=hR.hs.p.p.lt;have ls:=bz hR.hs.b;have W:=az hR.hs.lt;go_in;go_wp2_with fail
 generalize hW:((w.alloc (.cells #[.int .i64 u.1,.int .i64 u.2] 149)).alloc (.cells #[.int .i64 0,.int .i64 0] 149)).alloc (.cells #[.int .i64 u.1,.int .i64 u.2] 149)=w3;have a2:w3.heap.size=w.heap.size+1+1+1:=by rw[<-hW];simp
 have a3:Hid (w.grownBy w3 none):=by rw[<-hW];exact au (au (ah _ _ _) _) _
 have x3:w3.heap[w.heap.size+1]? = some (.cells #[.int .i64 0,.int .i64 0] 149 (0,0)):=by
  rw[<-hW,ak _ _ _ (by simp)];have:=bf (w.alloc (.cells #[.int .i64 u.1,.int .i64 u.2] 149)) (.cells #[.int .i64 0,.int .i64 0] 149);simpa using this
 have y3:w3.heap[w.heap.size+1+1]? = some (.cells #[.int .i64 u.1,.int .i64 u.2] 149 (0,0)):=by
  rw[<-hW];have:=bf ((w.alloc (.cells #[.int .i64 u.1,.int .i64 u.2] 149)).alloc (.cells #[.int .i64 0,.int .i64 0] 149)) (.cells #[.int .i64 u.1,.int .i64 u.2] 149);simpa using this
 have a1:Hid (Full w3 (w.heap.size+1+1) 149 ([u].length*2) ([u].length*2) (eC (λi=>[u].getD i (0,0)))):=by
  refine⟨_,y3,rfl,λj hj=>?_⟩;have:j=0\/j=1:=by have:j<2:=hj;omega
  rcases this with rfl|rfl<;>rfl
 have aB:=az x3;have a7:=az (KR.kept a3);have a8:(.agg #[.int .u8 2,.int .i64 f,.slice (some ⟨w.heap.size+1+1,0,none⟩) 1 1]:Value)=.agg #[tZ true (f+1),vJ (f+1),.slice (some ⟨w.heap.size+1+1,0,none⟩) [u].length [u].length]:=rfl;rw[a8];refine(zY Q eb sb pb n nr (w.heap.size+1+1) (f+1) [u] kd vb s w3 a7 a1 (by show 1<=8;decide) (λ_=>rfl) (λh=>by have:=W _ h;omega)).mono ?_;intro e Y h4;have Z:=h4.1;obtain⟨x,o,he,a5⟩:∃(x:Int) (o:Bool),e=.returned (.tuple #[.agg #[.int .i64 x,.int .i64 0],.bool o])/\∀y:Value,Laid w (Y.setCell ⟨w.heap.size+1,0,none⟩ y |>.setCell ⟨w.heap.size+1,1,none⟩ (.int .i64 0)) sb pb eb n nr (f+1) [u] kd vb s (.tuple #[.agg #[.int .i64 x,.int .i64 0],.bool o]):=by
  have a4:∀(G:B.Kd) (J:Vs) (M:Nat->List B.V) (y:Value),jm Y sb pb eb n G J M->(∀x,Own n G J x->Own n kd vb x\/x=w.heap.size+1+1)->jm (Y.setCell ⟨w.heap.size+1,0,none⟩ y |>.setCell ⟨w.heap.size+1,1,none⟩ (.int .i64 0)) sb pb eb n G J M:=λG J M y hS hG=>
   hS.block ((af _ _ _ _ (by show sb≠w.heap.size+1;omega)).trans (af _ _ _ _ (by show sb≠w.heap.size+1;omega))) ((af _ _ _ _ (by show pb≠w.heap.size+1;omega)).trans (af _ _ _ _ (by show pb≠w.heap.size+1;omega))) (λk hk=>by
    have a0:k≠w.heap.size+1:=by
     rcases hG k hk with h|h
     .have:=W k h;omega
     omega
    exact(af _ _ _ _ a0).trans (af _ _ _ _ a0))
  rcases h4.2 with⟨k,G,h1,h2,h3,aA,rfl,h5,h6⟩|⟨rfl,h5,G,h6,h7,h8⟩
  .exact⟨_,_,rfl,λy=>ag ⟨k,w.heap.size+1+1,G,h1,h2,h3,aA,rfl,a4 _ _ _ y h5 h6,λx H=>(h6 x H).imp id (λh=>by omega)⟩⟩
  exact⟨_,_,rfl,λy=>ab ⟨rfl,h5,G,a4 _ _ _ y h6 (λx H=>ag (h8 x H)),h7,λx H=>ag (h8 x H)⟩⟩
 subst he;have H:=Z.block aB (by
  rintro(h|h|h)
  .omega
  .omega
  have:=W _ h;omega)
 have r0:Y.cell? ⟨w.heap.size+1,0,none⟩=some (.int .i64 0):=by simp[World.cell?,H]
 have r1:Y.cell? ⟨w.heap.size+1,1,none⟩=some (.int .i64 0):=by simp[World.cell?,H]
 have t0:Y.frozen? ⟨w.heap.size+1,0,none⟩=false:=by simp[World.frozen?,H]
 have t1:Y.frozen? ⟨w.heap.size+1,1,none⟩=false:=by simp[World.frozen?,H]
 have a6:=az ((dU (S:=pP sb pb n kd vb) a3).trans Z (λ_ h _=>h));have a9:=az a5;go_wp2_with fail
 refine da (v:=.tuple #[.agg #[.int .i64 x,.int .i64 0],.bool o]) (by simp[results,results161,go_sem,r0,r1]) rfl ?_;refine⟨_,rfl,bm (bm a6 (ab (by simp)) _) (ab (by simp)) _,?_⟩;exact a9 _
theorem qU(Q:Nat->Prop)(op a b c fb tb eb sb pb n nr:Nat)(cg:B.V)(kd:B.Kd)(vb:Vs)(s:B.St)(w:World)(hR:BG w Q eb sb pb n nr kd vb s)(aJ:b<256)(hc:∀w1,w.grownBy w1 none->Calls prog 94 #[dZ op a b c fb tb eb] w1 λe w'=>e=.returned (vA cg)/\w1.grownBy w' none)(a8:w.cell? ⟨eb,27,none⟩=some (P0 sb))(he:¬pP sb pb n kd vb eb): Calls prog 103 #[dZ op a b c fb tb eb] w λe w'=>∃v,e=.returned v/\dy (pP sb pb n kd vb) w w'/\Laid w w' sb pb eb n nr (b+1) [cg] kd vb s v:=by
 have KR:=az hR;have HC:=az hc;have le:=gW a8;have lp:=hR.hs.p.p.lt;have ls:=bz hR.hs.b;have a7:=az hR.hs.lt;have aB:Hid (∀x,w.heap.size<=x->¬pP sb pb n kd vb x):=λx Y h=>by
  rcases h with h|h|h
  .omega
  .omega
  have:=a7 x h;omega
 clear hR hc;go_in;go_wp2_with fail
 generalize hW:(w.alloc (.cells #[.int .u8 op,.int .u8 a,.int .u8 b,.int .u8 c,P0 fb,P0 tb,P0 eb] 186)).alloc (.cells #[.int .i64 0,.int .i64 0] 149)=w1;have J:Hid (w.grownBy w1 none):=by rw[<-hW];exact au (ah _ _ _) _
 have Y:w1.heap[w.heap.size]? = some (lZ op a b c fb tb eb):=by rw[<-hW,ak _ _ _ (by simp)];exact bf w _
 have hr:w1.heap[w.heap.size+1]? = some (.cells #[.int .i64 0,.int .i64 0] 149 (0,0)):=by
  rw[<-hW];have:=bf (w.alloc (.cells #[.int .u8 op,.int .u8 a,.int .u8 b,.int .u8 c,P0 fb,P0 tb,P0 eb] 186)) (.cells #[.int .i64 0,.int .i64 0] 149);simpa using this
 clear hW;have HX:=az Y;have HR:=az hr;have lr:=bz hr;have aE:eb<w1.heap.size:=by omega
 clear Y hr;have Z:Hid (∀w':World,dy (λk=>pP sb pb n kd vb k\/k=w.heap.size+1) w1 w'->w'.cell? ⟨w.heap.size,0,none⟩=some (.int .u8 op)/\w'.cell? ⟨w.heap.size,1,none⟩=some (.int .u8 a)/\w'.cell? ⟨w.heap.size,2,none⟩=some (.int .u8 b)/\w'.cell? ⟨w.heap.size,3,none⟩=some (.int .u8 c)/\w'.cell? ⟨w.heap.size,4,none⟩=some (P0 fb)/\w'.cell? ⟨w.heap.size,5,none⟩=some (P0 tb)/\w'.cell? ⟨w.heap.size,6,none⟩=some (P0 eb)/\w'.cell? ⟨eb,27,none⟩=some (P0 sb)):=λw' hO=>by
  have aD:¬(pP sb pb n kd vb w.heap.size\/w.heap.size=w.heap.size+1):=λh=>h.elim (aB _ (bj _)) (λh=>by omega);obtain⟨x0,x1,x2,x3,x4,x5,x6⟩:=fk (hO.block HX aD);exact⟨x0,x1,x2,x3,x4,x5,x6,(hO.cell (o:=27) aE (λh=>h.elim he (λh=>by omega))).trans ((bh J (a:=⟨eb,27,none⟩) le).1.trans a8)⟩
 have aI:IntKind.i64.wrap (b:Int)=b:=by simp[IntKind.wrap,IntKind.bits,IntKind.signed];omega
 go_region_held3 (λw'=>w'.cell? ⟨w.heap.size,0,none⟩=some (.int .u8 op)/\w'.cell? ⟨w.heap.size,1,none⟩=some (.int .u8 a)/\w'.cell? ⟨w.heap.size,2,none⟩=some (.int .u8 b)/\w'.cell? ⟨w.heap.size,3,none⟩=some (.int .u8 c)/\w'.cell? ⟨w.heap.size,4,none⟩=some (P0 fb)/\w'.cell? ⟨w.heap.size,5,none⟩=some (P0 tb)/\w'.cell? ⟨w.heap.size,6,none⟩=some (P0 eb)/\w'.cell? ⟨eb,27,none⟩=some (P0 sb)) (first|exact Z _ (dk _ _)|exact Z _ (dU a0)|exact Z _ a4|exact a5) (first|(go_at_call 94;refine(HC w1.drew (bq J)).mono ?_;rintro e w2 ⟨rfl,H⟩;have a0:Hid (w1.grownBy w2 none):=⟨H.os,H.tape,H.output,H.size,H.block⟩;clear H)|(go_at_call 161;refine(xm Q eb sb pb n nr b cg kd vb s w2 (KR.kept (an J a0))).mono ?_;rintro e W ⟨v,rfl,a2,a3⟩;obtain⟨x,ob,rfl⟩:=a3.form;have a1:=(dU a0).trans a2 (λ_ h _=>h);have a4:Hid (dy (λk=>pP sb pb n kd vb k\/k=w.heap.size+1) w1 W):=a1.mono (λ_ h _=>ag h);have a9:=az a1;have aC:=az (a3.pre a0.size);have G:=a1.block (k:=w.heap.size+1) HR (aB _ (Nat.le_succ _));have r0:W.cell? ⟨w.heap.size+1,0,none⟩=some (.int .i64 0):=(by simp[World.cell?,G]);have r1:W.cell? ⟨w.heap.size+1,1,none⟩=some (.int .i64 0):=(by simp[World.cell?,G]);have r2:W.frozen? ⟨w.heap.size+1,0,none⟩=false:=(by simp[World.frozen?,G]);have r3:W.frozen? ⟨w.heap.size+1,1,none⟩=false:=(by simp[World.frozen?,G]);have a5:=az (Z ((W.setCell ⟨w.heap.size+1,0,none⟩ (.int .i64 x)).setCell ⟨w.heap.size+1,1,none⟩ (.int .i64 0)) (bm (bm a4 (ag (ab rfl)) _) (ag (ab rfl)) _));clear G a1 a3 a2))
 all_goals
  go_wp2_with fail
  refine da (v:=.tuple #[.agg #[.int .i64 x,.int .i64 0],.bool ob]) (by simp[results,results103,go_sem,r0,r1]) rfl ?_;refine⟨_,rfl,bm (bm ((dU J).trans a9 (λ_ h _=>h)) (ab (by simp)) _) (ab (by simp)) _,?_⟩;have a6:∀(i:B.Kd) (u:Vs) (M:Nat->List B.V),jm W sb pb eb n i u M->ox n kd vb i u w1.heap.size->∀x,Own n i u x->x≠w.heap.size+1:=λi u M hS hG x Y=>by
   rcases hG x Y with h|h
   .have:=a7 x h;omega
   omega
  have aA:∀(i:B.Kd) (u:Vs) (M:Nat->List B.V) (y z:Value),jm W sb pb eb n i u M->ox n kd vb i u w1.heap.size->jm ((W.setCell ⟨w.heap.size+1,0,none⟩ y).setCell ⟨w.heap.size+1,1,none⟩ z) sb pb eb n i u M:=λi u M y z hS hG=>
   hS.block ((af _ _ _ _ (by show sb≠w.heap.size+1;omega)).trans (af _ _ _ _ (by show sb≠w.heap.size+1;omega))) ((af _ _ _ _ (by show pb≠w.heap.size+1;omega)).trans (af _ _ _ _ (by show pb≠w.heap.size+1;omega))) (λk hk=>(af _ _ _ _ (a6 _ _ _ hS hG k hk)).trans (af _ _ _ _ (a6 _ _ _ hS hG k hk)))
  rcases aC with⟨k,vg,i,h1,h2,h3,aF,h4,h5,h6⟩|⟨h1,h2,i,h3,h4,h5⟩
  .exact ag ⟨k,vg,i,h1,h2,h3,aF,h4,aA _ _ _ _ _ h5 h6,λx Y=>(h6 x Y).imp id (λh=>by omega)⟩
  exact ab ⟨h1,h2,i,aA _ _ _ _ _ h3 h5,h4,λx Y=>(h5 x Y).imp id (λh=>by omega)⟩
theorem zG{w:World}{pb n p i:Nat}{on:Nat->Bool}{f:Fb}{M:Nat->List B.V}(v:B.V)(h:ow w pb n on f M)(W:1<=p)(Z:p<=n)(Y:on p=true)(hi:i<(M p).length): ow ((w.setCell ⟨f.b p,i*2,none⟩ (.int .i64 (v.1:Int))).setCell ⟨f.b p,i*2+1,none⟩ (.int .i64 v.2)) pb n on f (B.lay M p ((M p).set i v)):=by
 have G:=h.s p W Z Y;obtain⟨a0,hV,_⟩:=id G;obtain⟨J,hP,_⟩:=id h.p;have H:=dW hP hV (by decide);refine⟨((h.p.off H).off H).congr (λj _=>?_),λq a b c=>?_,h.i,λq a=>?_,λq a h0=>?_⟩
 .unfold iM;by_cases e:j / 3+1=p
  .rw[e,B.gl];simp
  rw[B.fq _ _ _ _ e]
 .by_cases e:q=p
  .subst e;rw[B.gl];simp only[dq];refine(G.oD i v).congr (λj _=>?_);have hs:∀x,B.set (jQ M q) i v x=jQ (B.lay M q ((M q).set i v)) q x:=by
    intro x;unfold jQ;rw[B.gl,ar,List.getElem?_set];by_cases y:x=i
    .subst y;rw[B.ie,aj rfl,aj hi];rfl
    rw[B.gS _ _ _ _ y,aa (λh=>y h.symm),ar]
   unfold eC;rw[hs]
  rw[B.fq _ _ _ _ e];have u:f.b q≠f.b p:=λhe=>e (h.i q p a b W Z c Y he);have:=((h.s q a b c).off (o:=i*2) (v:=.int .i64 (v.1:Int)) u).off (o:=i*2+1) (v:=.int .i64 v.2) u;refine this.congr (λj _=>?_);unfold eC jQ;rw[B.fq _ _ _ _ e]
 .by_cases e:q=p
  .subst e;rw[B.gl];simpa using h.l q a
  rw[B.fq _ _ _ _ e];exact h.l q a
 by_cases e:q=p
 .subst e;rw[B.gl];simpa using h.k q a h0
 rw[B.fq _ _ _ _ e];exact h.k q a h0
theorem wO(sb pb eb n nr k i:Nat)(x:Int)(v:B.V)(kd:B.Kd)(vb:Vs)(s:B.St)(w:World)(hS:jm w sb pb eb n kd vb s.2.2)(hH:B.iZ kd nr n s)(hn:n<=200)(hk:k<n)(hr:B.Reach nr s (k+1))(hi:i<(s.2.2 (k+1)).length): Calls prog 160 #[P0 sb,vA (k+1,x),.int .i64 i,vA v] w λe w'=>e=.returned (.tuple #[])/\∃aE,jm w' sb pb eb n (B.told kd ((s.2.2 (k+1)).getD i (0,0))) aE (B.lay s.2.2 (k+1) ((s.2.2 (k+1)).set i v))/\dy (Own n kd vb) w w'/\ox n kd vb (B.told kd ((s.2.2 (k+1)).getD i (0,0))) aE w.heap.size/\aE.f=vb.f:=by
 have KS:=az hS;have HH:=az hH;have a6:=(B.kJ hH hr).1;have h0:=hS.c0;have c2:=hS.cells.2.1;have ls:=bz hS.b;have lp:=hS.p.p.lt;have p2:=hS.p.p.cell (k*3+2) (by omega);rw[sQ,a6]at p2;have aJ:oL true (vb.f.b (k+1)) (s.2.2 (k+1)).length=.slice (some ⟨vb.f.b (k+1),0,none⟩) (s.2.2 (k+1)).length (s.2.2 (k+1)).length:=rfl;rw[aJ]at p2;have hF:=hS.p.s (k+1) (by omega) (by omega) a6;have lf:=hF.lt;have HF:=az hF;have aZ:=az (mg k x (by omega));have bF:=hS.p.l _ a6;have HI:=az (ay a6 hi);have b5:(k:Int)<(n:Int):=by omega
 have bK:(i:Int)<((s.2.2 (k+1)).length:Int):=by omega
 obtain⟨s0,f0⟩:=hF.cells (i*2) (by omega);obtain⟨s1,f1⟩:=hF.cells (i*2+1) (by omega);rw[nE]at s0;rw[nD]at s1;have aO:Hid ((jQ s.2.2 (k+1) i)=(s.2.2 (k+1)).getD i (0,0)):=rfl;have aN:=B.th hH hr i;have aT:=λh0=>(B.kJ hH (aN.2 h0)).2.2;have aU:=az aT;generalize b0:jQ s.2.2 (k+1) i=o at *;have aH:=az aO.out.symm;clear hS hH hr aJ hF aN aT b0 aO;generalize aM:(s.2.2 (k+1)).length=m at *;have aS:=az aM;clear aM;go_in;go_wp2_with fail
 generalize hW:(w.alloc (.cells #[.int .i64 ((k:Int)+1),.int .i64 x] 149)).alloc (.cells #[.int .i64 (v.1:Int),.int .i64 v.2] 149)=w1;have aF:Hid (w.grownBy w1 none):=by rw[<-hW];exact au (ah _ _ _) _
 have aK:w1.heap[w.heap.size+1]? = some (.cells #[.int .i64 (v.1:Int),.int .i64 v.2] 149 (0,0)):=by
  rw[<-hW];have:=bf (w.alloc (.cells #[.int .i64 ((k:Int)+1),.int .i64 x] 149)) (.cells #[.int .i64 (v.1:Int),.int .i64 v.2] 149);simpa using this
 have a5:w1.heap[w.heap.size]? = some (.cells #[.int .i64 ((k:Int)+1),.int .i64 x] 149 (0,0)):=by
  rw[<-hW,ak _ _ _ (by simp)];exact bf w _
 clear hW;have b1:=az aK;have a0:w1.cell? ⟨w.heap.size,0,none⟩=some (.int .i64 ((k:Int)+1)):=by simp[World.cell?,a5]
 have a1:w1.cell? ⟨w.heap.size,1,none⟩=some (.int .i64 x):=by simp[World.cell?,a5]
 have lv:=bz a5;have aG:sb<w1.heap.size:=by omega
 have d0:=(bh aF.out (a:=⟨sb,0,none⟩) ls).1.trans h0;have b2:=az p2;clear a5 aK h0 p2;go_cut [8] from 9 to 19 (λy wx=>y=.pointer (some ⟨vb.f.b (k+1),i*2,none⟩)/\Hid (w.grownBy wx none)/\Hid (wx.heap[w.heap.size+1]? = some (.cells #[.int .i64 (v.1:Int),.int .i64 v.2] 149 (0,0))))
 case first=>
  go_region_with (go_at_call 201;refine(aZ.out _).mono ?_;rintro e w2 ⟨rfl,Z⟩;have a8:Hid (w1.grownBy w2 none):=⟨Z.os,Z.tape,Z.output,Z.size,Z.block⟩;have a4:=az (an aF.out a8.out);have d2:=(bh a8.out (a:=⟨sb,0,none⟩) aG).1.trans d0;have q2:=(bh a4.out (a:=⟨pb,k*3+2,none⟩) lp).1.trans b2.out;clear Z)
  all_goals
   go_wp2_with fail
   go_meet
   case rel=>exact⟨rfl,a4,cm a8.out b1.out (by intro e;cases e)⟩
 case rest=>
  obtain⟨rfl,H,aC⟩:=hcut;have bA:=H.out.size;have e2:=(bh H.out (a:=⟨sb,2,none⟩) ls).1.trans c2;have t0:=(bh H.out (a:=⟨vb.f.b (k+1),i*2,none⟩) lf).1.trans s0;have t1:=(bh H.out (a:=⟨vb.f.b (k+1),i*2+1,none⟩) lf).1.trans s1;have z0:=(bh H.out (a:=⟨vb.f.b (k+1),i*2,none⟩) lf).2.trans f0;have z1:=(bh H.out (a:=⟨vb.f.b (k+1),i*2+1,none⟩) lf).2.trans f1;have aW:sb<wc.heap.size:=by omega
  have a9:vb.f.b (k+1)<wc.heap.size:=by omega
  have u0:wc.cell? ⟨w.heap.size+1,0,none⟩=some (.int .i64 (v.1:Int)):=by have:=aC.out;simp[World.cell?,this]
  have u1:wc.cell? ⟨w.heap.size+1,1,none⟩=some (.int .i64 v.2):=by have:=aC.out;simp[World.cell?,this]
  have lu:=bz aC.out;clear a0 a1 d0 c2 s0 s1 f0 f1;have u:=az (KS.out.kept H.out);have aD:Own n kd vb (vb.f.b (k+1)):=ag ⟨k+1,by omega,by omega,HI.out.1,rfl⟩;have Y:=az aD;rcases hcy:kd.cy with _|c
  .rw[mx hcy]at e2;have G:=az hcy;clear hcy aD;go_wp2_with fail
   go_end0;refine⟨rfl,vb,?_,bm (bm (dU H.out) (ag Y.out) _) (ag Y.out) _,?_,rfl⟩
   .rw[told_none _ G.out];have a2:=u.out.ju.2 _ Y.out;exact⟨((af _ _ _ _ (λe=>a2.1 e.symm)).trans (af _ _ _ _ (λe=>a2.1 e.symm))).trans u.out.b,zG v u.out.p (by omega) (by omega) HI.out.1 (by rw[aS.out];exact HI.out.2),λc hc=>by rw[G.out]at hc;cases hc⟩
   rw[told_none _ G.out];exact ox.refl _ _ _ _
  rw[mu hcy]at e2;have G:=az hcy;clear hcy aD;obtain⟨_,T,_,aQ⟩:=HH.out.h3 c G.out;have aA:=dH aQ.len hn;have aY:=az (λw' (h:kY w' vb.cb vb.rd sb n vb.ad vb.cap c)=>qd vb.cb vb.rd sb n vb.ad vb.cap c o w' h (by have:=aU.out;rw[aH.out]at this;exact this) hn aA);have aX:Hid (kY wc.drew vb.cb vb.rd sb n vb.ad vb.cap c):=(u.out.c c G.out).block (λ_ _=>rfl);have a7:Hid (∀y,nh vb.cb vb.rd vb.ad y->Own n kd vb y):=λy hy=>ab ⟨by rw[G.out];rfl,hy⟩;have aI:=(rq u.out.p (u.out.c c G.out)).2 _ (by omega) (by omega) HI.out.1;have aR:¬nh vb.cb vb.rd vb.ad (w.heap.size+1):=λh=>by have:=KS.out.lt _ (a7.out _ h);omega
  have J:=az (ay aI aR);have HK:Hid (∀w':World,dy (nh vb.cb vb.rd vb.ad) wc.drew w'->w'.cell? ⟨vb.f.b (k+1),i*2,none⟩=some (.int .i64 (o.1:Int))/\w'.cell? ⟨vb.f.b (k+1),i*2+1,none⟩=some (.int .i64 o.2)/\w'.frozen? ⟨vb.f.b (k+1),i*2,none⟩=false/\w'.frozen? ⟨vb.f.b (k+1),i*2+1,none⟩=false/\w'.cell? ⟨w.heap.size+1,0,none⟩=some (.int .i64 (v.1:Int))/\w'.cell? ⟨w.heap.size+1,1,none⟩=some (.int .i64 v.2)/\vb.f.b (k+1)<w'.heap.size/\w.heap.size+1<w'.heap.size):=λw' hO=>by
   have W:dy (nh vb.cb vb.rd vb.ad) wc w':=hO;have:=W.size;exact⟨(W.cell a9 J.out.1).trans t0,(W.cell a9 J.out.1).trans t1,(W.frozen a9 J.out.1).trans z0,(W.frozen a9 J.out.1).trans z1,(W.cell lu J.out.2).trans u0,(W.cell lu J.out.2).trans u1,by omega,by omega⟩
  clear aQ aA aI aR;go_wp2_with fail
  go_region_with (go_at_call 188;refine(aY.out _ aX.out).mono ?_;rintro e w4 ⟨rfl,aP,aL,h4,h5,h6⟩;obtain⟨bJ,bB,bH,b9,bE,bG,bI,bD⟩:=HK.out w4 h6;have b4:=az (ay h4 (ay h5 h6));clear h4 h5 h6)
  all_goals
   go_wp2_with fail
   go_end0;obtain⟨h4,h5,h6⟩:=b4.out;have a3:dy (nh vb.cb vb.rd vb.ad) wc w4:=h6;have b3:w4.heap[sb]? = _:=(a3.same aW (λh=>(KS.out.ju.2 sb (a7.out _ h)).1 rfl)).trans u.out.b;have a2:=KS.out.ju.2 _ Y.out;have aV:ow w4 pb n kd.on vb.f s.2.2:=by
    have:=rq u.out.p (u.out.c c G.out);exact u.out.p.block (a3.same u.out.p.p.lt this.1) (λp a b d=>a3.same (u.out.p.s p a b d).lt (this.2 p a b d))
   have aB:∀y,nh vb.cb vb.rd aP y->y≠vb.f.b (k+1):=λy hy e=>by
    rcases h4.Hz hy with h|h
    .exact J.out.1 (by rw[<-e];exact h)
    have h':wc.heap.size<=y:=h;omega
   refine⟨rfl,{ vb with ad:=aP,cap:=aL },?_,?_,?_,rfl⟩
   .rw[aH.out,AG _ G.out];refine⟨?_,zG v aV (by omega) (by omega) HI.out.1 (by rw[aS.out];exact HI.out.2),λc' hc=>?_⟩
    .refine((af _ _ _ _ (λe=>a2.1 e.symm)).trans (af _ _ _ _ (λe=>a2.1 e.symm))).trans (b3.trans ?_);rw[mu G.out];rfl
    have e:(⟨(B.seen c.m c.st o).1,(B.seen c.m c.st o).2,c.nx⟩:B.Cy)=c':=by injection hc
    subst e;exact h5.block (λy hy=>(af _ _ _ _ (aB y hy)).trans (af _ _ _ _ (aB y hy)))
   .refine bm (bm ((dU (S:=Own n kd vb) H.out).trans a3 (λy hy _=>a7.out y hy)) (ag Y.out) _) (ag Y.out) _
   intro y hy;rcases hy with⟨p,a,b,d,e⟩|⟨_,hy⟩
   .exact ag (ag ⟨p,a,b,d,e⟩)
   rcases h4.Hz hy with h|h
   .exact ag (a7.out y h)
   have h':wc.heap.size<=y:=h;exact ab (by omega)
theorem BE(op a b c fb tb eb cb L nx rb nr sb pb n nt:Nat)(back:Value)(kd:B.Kd)(vb:Vs)(s:B.St)(R:Nat->B.V)(w:World)(hF:Fr w fb cb L nx rb nr back R)(hS:jm w sb pb eb n kd vb s.2.2)(hH:B.iZ kd nt n s)(hV:∀i,i<nr->B.qO kd.on n (R i))(aE:∀i,i<nr->(R i).1≠0->B.Reach nt s (R i).1)(hn:n<=200)(ha:a<nr)(hb:b<nr)(hc:c<nr)(aD:w.cell? ⟨eb,27,none⟩=some (P0 sb))(le:eb<w.heap.size)(Y:¬Own n kd vb eb): Calls prog 102 #[dZ op a b c fb tb eb] w λe w'=>(kK vb.f s.2.2 (R a) (R b)/\e=.returned (.int .i64 0)/\∃u,jm w' sb pb eb n (B.told kd ((s.2.2 (R a).1).getD (R b).2.toNat (0,0))) u (B.lay s.2.2 (R a).1 ((s.2.2 (R a).1).set (R b).2.toNat (R c)))/\dy (Own n kd vb) w w'/\ox n kd vb (B.told kd ((s.2.2 (R a).1).getD (R b).2.toNat (0,0))) u w.heap.size/\u.f=vb.f)\/(¬kK vb.f s.2.2 (R a) (R b)/\e=.returned (.int .i64 (gI vb.f (R a) (R b)))/\w.grownBy w' none):=by
 have KF:=az hF;have KS:=az hS;have HH:=az hH;have HV:=az hV;have aN:=az aE;have aO:=az Y;clear hF hS hH hV aE Y;go_in;go_wp2_with fail
 have aB:=az (jf w op a b c fb tb eb);have a9:=az (ah w (.cells #[.int .u8 (op:Int),.int .u8 (a:Int),.int .u8 (b:Int),.int .u8 (c:Int),P0 fb,P0 tb,P0 eb] 186) none);generalize hW:w.alloc (.cells #[.int .u8 (op:Int),.int .u8 (a:Int),.int .u8 (b:Int),.int .u8 (c:Int),P0 fb,P0 tb,P0 eb] 186)=w1 at *;have b1:w1.heap.size=w.heap.size+1:=by rw[<-hW];simp
 clear hW;go_region_held3 (λw'=>w'.cell? ⟨w.heap.size,0,none⟩=some (.int .u8 (op:Int))/\w'.cell? ⟨w.heap.size,1,none⟩=some (.int .u8 (a:Int))/\w'.cell? ⟨w.heap.size,2,none⟩=some (.int .u8 (b:Int))/\w'.cell? ⟨w.heap.size,3,none⟩=some (.int .u8 (c:Int))/\w'.cell? ⟨w.heap.size,4,none⟩=some (P0 fb)/\w'.cell? ⟨w.heap.size,5,none⟩=some (P0 tb)/\w'.cell? ⟨w.heap.size,6,none⟩=some (P0 eb)) (first|exact fk aB.out|exact fk aL.out|exact fk aK.out|exact fk a6.out) (first|(go_at_call 98;refine(As op a b c fb tb eb cb L nx rb nr back R w1.drew (KF.out.kept (bq a9.out)).1 (KF.out.kept (bq a9.out)).2.1 ha).mono ?_;rintro e w2 ⟨rfl,a8⟩;have a4:=az (an (bq a9.out) a8);have aL:=az (dp a8 (show w1.drew.heap[w.heap.size]? = _ from aB.out));clear a8)|(go_at_call 86;refine(pO op a b c fb tb eb cb L nx rb nr back R w2 (KF.out.kept a4.out).1 (KF.out.kept a4.out).2.1 hb).mono ?_;rintro e w3 ⟨rfl,a2⟩;have a1:=az (an a4.out a2);have aK:=az (dp a2 aL.out);clear a2)|(go_at_call 158;refine(wN op a b c fb tb eb sb pb n (R a) (R b) kd vb s.2.2 w3 (KS.out.kept a1.out) hn (HV.out a ha) ((bh a1.out (a:=⟨eb,27,none⟩) le).1.trans aD) (dm le a1.out.size)).mono ?_;rintro e w4 ⟨v,rfl,a5,a3⟩;have y:=az (an a1.out a5);have a6:=az (dp a5 aK.out);obtain⟨pv,wy,rfl⟩:∃(pv:Value) (wy:Int),v=.tuple #[pv,.int .i64 wy]:=(by rcases a3 with⟨_,h⟩|⟨_,h⟩;exact⟨_,_,h⟩;exact⟨_,_,h⟩);have aR:=az a3;clear a5 a3))
 all_goals
  rcases aR.out with⟨J,he⟩|⟨J,he⟩
  .have aA:=az J;obtain⟨o1,ok,o2,o3,o4⟩:=id J;have hp:1<=(R a).1/\(R a).1<=n/\kd.on (R a).1=true:=by
    rcases HV.out a ha with h|h
    .exact ch h o1
    exact⟨h.1,h.2.1,h.2.2.1⟩
   injection he with he;injection he with he;injection he with a7 o;injection o with o _;injection o with _ o;subst a7 o;obtain⟨i,hi⟩:∃i:Nat,(R b).2=(i:Int):=⟨(R b).2.toNat,by omega⟩;obtain⟨k,hk⟩:∃k,(R a).1=k+1:=⟨(R a).1-1,by omega⟩;have aM:i<(s.2.2 (k+1)).length:=by rw[hi,hk]at o4;omega
   have aH:B.Reach nt s (k+1):=by rw[<-hk];exact aN.out a ha o1
   have aC:∀w':World,w.grownBy w' none->Calls prog 160 #[P0 sb,vA (R a),.int .i64 (R b).2,vA (R c)] w' λe w''=>e=.returned (.tuple #[])/\∃u,jm w'' sb pb eb n (B.told kd ((s.2.2 (R a).1).getD (R b).2.toNat (0,0))) u (B.lay s.2.2 (R a).1 ((s.2.2 (R a).1).set (R b).2.toNat (R c)))/\dy (Own n kd vb) w' w''/\ox n kd vb (B.told kd ((s.2.2 (R a).1).getD (R b).2.toNat (0,0))) u w'.heap.size/\u.f=vb.f:=by
    intro w' hg;have e1:R a=(k+1,(R a).2):=fV hk rfl;rw[hk,hi];have:=wO sb pb eb n nt k i (R a).2 (R c) kd vb s w' (KS.out.kept hg) HH.out hn (by omega) aH aM;rw[<-e1]at this;exact this
   have aV:=az aC;generalize aJ:(R b).2=yy at *;have aG:=az aJ;clear aJ;clear J ok o1 o2 o3 o4 hp hi hk aM aC aH;obtain⟨x0,x1,x2,x3,x4,x5,x6⟩:=fk a6.out;have lx:=bz a6.out;have Y:¬Own n kd vb eb:=aO.out;have aQ:Hid (∀x,Own n kd vb x->x<w.heap.size):=KS.out.lt;have G:¬Own n kd vb w.heap.size:=λh=>by have:=aQ.out _ h;omega
   have HS:Hid (∀w':World,dy (Own n kd vb) w4 w'->(w'.cell? ⟨w.heap.size,0,none⟩=some (.int .u8 (op:Int))/\w'.cell? ⟨w.heap.size,1,none⟩=some (.int .u8 (a:Int))/\w'.cell? ⟨w.heap.size,2,none⟩=some (.int .u8 (b:Int))/\w'.cell? ⟨w.heap.size,3,none⟩=some (.int .u8 (c:Int))/\w'.cell? ⟨w.heap.size,4,none⟩=some (P0 fb)/\w'.cell? ⟨w.heap.size,5,none⟩=some (P0 tb)/\w'.cell? ⟨w.heap.size,6,none⟩=some (P0 eb)/\w'.cell? ⟨eb,27,none⟩=some (P0 sb))):=
    λw' hO=>⟨(hO.cell lx G).trans x0,(hO.cell lx G).trans x1,(hO.cell lx G).trans x2,(hO.cell lx G).trans x3,(hO.cell lx G).trans x4,(hO.cell lx G).trans x5,(hO.cell lx G).trans x6,(hO.cell (by omega) Y).trans ((bh y.out (a:=⟨eb,27,none⟩) le).1.trans aD)⟩
   have aP:=az (HS.out w4.drew (dk _ _));have Z:=az (KF.out.kept y.out);go_wp2_with fail
   go_region_held3 (λw'=>w'.cell? ⟨w.heap.size,0,none⟩=some (.int .u8 (op:Int))/\w'.cell? ⟨w.heap.size,1,none⟩=some (.int .u8 (a:Int))/\w'.cell? ⟨w.heap.size,2,none⟩=some (.int .u8 (b:Int))/\w'.cell? ⟨w.heap.size,3,none⟩=some (.int .u8 (c:Int))/\w'.cell? ⟨w.heap.size,4,none⟩=some (P0 fb)/\w'.cell? ⟨w.heap.size,5,none⟩=some (P0 tb)/\w'.cell? ⟨w.heap.size,6,none⟩=some (P0 eb)/\w'.cell? ⟨eb,27,none⟩=some (P0 sb)) (first|exact aP.out|exact aX.out|exact aZ.out|exact aS.out) (first|(go_at_call 98;refine(As op a b c fb tb eb cb L nx rb nr back R w4.drew (Z.out.kept (bq (ax _ _))).1 (Z.out.kept (bq (ax _ _))).2.1 ha).mono ?_;rintro e w5 ⟨rfl,H⟩;have a0:Hid (w4.grownBy w5 none):=⟨H.os,H.tape,H.output,H.size,H.block⟩;have aX:=az (HS.out w5 (dU a0.out));clear H)|(go_at_call 94;refine(qJ op a b c fb tb eb cb L nx rb nr back R w5 (Z.out.kept a0.out).1 (Z.out.kept a0.out).2.1 hc).mono ?_;rintro e w6 ⟨rfl,aI⟩;have W:=az (an a0.out aI);have aZ:=az (HS.out w6 (dU W.out));clear aI)|(go_at_call 160;refine(aV.out w6 (an y.out W.out)).mono ?_;rintro e w7 ⟨rfl,u,k1,k2,k3,k4⟩;have aS:=az (HS.out w7 ((dU (S:=Own n kd vb) W.out).trans k2 (λ_ h _=>h)));have HR:=az (ay k1 (ay ((dU (S:=Own n kd vb) (an y.out W.out)).trans k2 (λ_ h _=>h)) k3));have aT:=az k4;have aW:w.heap.size<=w6.heap.size:=(an y.out W.out).size;clear k1 k2 k3 k4))
   all_goals
    go_wp2_with fail
    go_ret;refine ag ⟨aA.out,rfl,u,?_,HR.out.2.1,λx hx=>?_,aT.out⟩
    .rw[aG.out];exact HR.out.1
    rw[aG.out]at hx;exact(HR.out.2.2 x hx).imp id (λh=>dH aW h)
  have aY:=sv vb.f (R a) (R b);generalize aF:gI vb.f (R a) (R b)=why at *;have aU:=az aF;injection he with he;injection he with he;injection he with a7 o;injection o with o _;injection o with _ o;subst a7 o;have aA:=az J;have b0:¬((why:Int)=0):=by omega
  clear J aF aY;go_wp2_with fail
  go_ret;exact ab ⟨aA.out,by rw[aU.out];rfl,y.out⟩
