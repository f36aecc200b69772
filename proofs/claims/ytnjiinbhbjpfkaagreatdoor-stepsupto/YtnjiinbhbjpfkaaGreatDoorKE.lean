import Derived.Test.YtnjiinbhbjpfkaaGreatDoorKB
set_option maxRecDepth 100000
set_option maxHeartbeats 0
set_option linter.all false
namespace Go.Proofs.YtnjiinbhbjpfkaaGreatDoor
open Go.RowKit Go.Proofs.Tryz
section
theorem Tryz.F6:(prog.info? 3).map (λi=>(i.zero,i.size,i.bytes))=some (some (.int .i64 0),1,8):=by kernel_rfl
theorem kY.c1{w:World}{cb e sb n:Nat}{ad:Option Addr}{cap:Nat}{c:B.Cy}(h:kY w cb e sb n ad cap c):w.cell? ⟨cb,0,none⟩=some (P0 sb)/\w.cell? ⟨cb,1,none⟩=some (.slice (some ⟨e,0,none⟩) n n)/\w.cell? ⟨cb,2,none⟩=some (.slice ad c.st.length cap)/\w.cell? ⟨cb,3,none⟩=some (.int .i64 c.nx)/\w.frozen? ⟨cb,2,none⟩=false/\w.frozen? ⟨cb,3,none⟩=false:=by
 simp[World.cell?,World.frozen?,h.b]
def vY(ad ad':Option Addr)(sz:Nat):Prop:=∀k,eO ad'=some k->eO ad=some k\/sz<=k
theorem vY.refl(ad:Option Addr)(sz:Nat):vY ad ad sz:=λ_ h=>ag h
theorem vY.trans{a b c:Option Addr}{sz e:Nat}(h:vY a b sz)(u:vY b c e)(y:sz<=e):vY a c sz:=λk o=>by
 rcases u k o with i|i
 .exact h k i
 exact ab (by omega)
theorem vY.Hz{cb o:Nat}{ad i:Option Addr}{sz k:Nat}(h:vY ad i sz)(u:nh cb o i k):nh cb o ad k\/sz<=k:=by
 rcases u with e|e|e
 .exact ag (ag e)
 .exact ag (ab (ag e))
 exact(h k e).imp (λh=>ab (ab h)) id
theorem CR{S:Nat->Prop}{w w':World}{r:Option Nat}(h:w.grownBy w' r)(o:∀k,r=some k->k<w.heap.size->S k):dy S w w':=
 ⟨h.os,h.tape,h.output,h.size,λk i hn=>h.block k i (λe=>hn (o k e.symm i))⟩
theorem qd(cb u sb n:Nat)(ad:Option Addr)(cap:Nat)(c:B.Cy)(v:B.V)(w:World)(hC:kY w cb u sb n ad cap c)(hv:v.1≠0->v.1<=n)(hn:n<=200)(bX:c.st.length<=200): Calls prog 188 #[P0 cb,vA v] w λe w'=>e=.returned (.tuple #[])/\∃b5 a0,vY ad b5 w.heap.size/\kY w' cb u sb n b5 a0 ⟨(B.seen c.m c.st v).1,(B.seen c.m c.st v).2,c.nx⟩/\dy (nh cb u ad) w w':=by
 have KC:=az hC;have aC:=az (mP v);obtain⟨v1,v2⟩:=v;by_cases h0:v1=0
 .subst h0;have aT:B.seen c.m c.st (0,v2)=(c.m,c.st):=by unfold B.seen;rw[aa (by simp)]
  rw[aT];have hi:=aC.out;simp only[ne_eq,not_true,decide_false]at hi;have HI:=az hi;clear aT hC hv hi aC;go_in;go_wp2_with fail
  have o:=az (ah w (.cells #[.int .i64 ((0:Nat):Int),.int .i64 v2] 149) none);first|go_region_with (go_at_call 198;refine(HI _).mono ?_;rintro e w2 ⟨rfl,i⟩;have a5:=az (an o ⟨i.os,i.tape,i.output,i.size,i.block⟩);clear i)|fail
  all_goals
   go_wp2_with fail
   go_end0;exact⟨rfl,ad,cap,vY.refl _ _,KC.kept a5,dU a5⟩
 obtain⟨k,hk⟩:∃k,v1=k+1:=⟨v1-1,by omega⟩;subst hk;have aM:k<n:=by have:=hv (by simp);simp only at this;omega
 have hi:=aC.out;have hd:decide (k+1≠0)=true:=by simp
 rw[show((k+1,v2):B.V).1=k+1 from rfl,hd]at hi;have HI:=az hi;have aL:=az (mg k v2 (by omega));obtain⟨_,c1,_⟩:=hC.c1;have lc:=bz hC.b;have lr:=hC.r.lt;have r0:=hC.r.cell k aM;clear hC hv hi hd aC h0;generalize b0:c.m (k+1)=b at *;have aY:=az b0;clear b0;have bV:(k:Int)<n:=by omega
 go_in;go_wp2_with fail
 generalize hW:w.alloc (.cells #[.int .i64 ((k:Int)+1),.int .i64 v2] 149)=w1;have o:Hid (w.grownBy w1 none):=by rw[<-hW];exact ah _ _ _
 have a9:w1.heap[w.heap.size]? = some (.cells #[.int .i64 ((k:Int)+1),.int .i64 v2] 149 (0,0)):=by rw[<-hW];exact bf w _
 have lx:=bz a9;have v0:w1.cell? ⟨w.heap.size,0,none⟩=some (.int .i64 ((k:Int)+1)):=by simp[World.cell?,a9]
 have v1:w1.cell? ⟨w.heap.size,1,none⟩=some (.int .i64 v2):=by simp[World.cell?,a9]
 clear hW a9;have d1:=(bh o (a:=⟨cb,1,none⟩) lc).1.trans c1;have q0:=(bh o (a:=⟨u,k,none⟩) lr).1.trans r0;have HS:Hid (∀w':World,w1.grownBy w' none->(w'.cell? ⟨w.heap.size,0,none⟩=some (.int .i64 ((k:Int)+1))/\w'.cell? ⟨w.heap.size,1,none⟩=some (.int .i64 v2)/\w'.cell? ⟨cb,1,none⟩=some (.slice (some ⟨u,0,none⟩) n n)/\w'.cell? ⟨u,k,none⟩=some (.bool b))/\(w.heap.size<w'.heap.size/\cb<w'.heap.size/\u<w'.heap.size)):=
  λw' Z=>⟨⟨(bh Z (a:=⟨w.heap.size,0,none⟩) lx).1.trans v0,(bh Z (a:=⟨w.heap.size,1,none⟩) lx).1.trans v1,(bh Z (a:=⟨cb,1,none⟩) (by show cb<_;omega)).1.trans d1,(bh Z (a:=⟨u,k,none⟩) (by show u<_;omega)).1.trans q0⟩,by have:=Z.size;omega,by have:=Z.size;omega,by have:=Z.size;omega⟩
 clear c1 r0 d1 q0 v0 v1;obtain⟨⟨v0,v1,d1,q0⟩,z1,z2,z3⟩:=HS w1 (ax _ _);go_cut [16] from 4 to 15 (λx wx=>x=.bool (!b)/\Hid (w1.grownBy wx none))
 case first=>
  first|go_region_with (first|(go_at_call 198;refine(HI _).mono ?_;rintro e w2 ⟨rfl,i⟩;have a5:Hid (w1.grownBy w2 none):=⟨i.os,i.tape,i.output,i.size,i.block⟩;obtain⟨⟨aB,a8,aH,aI⟩,aK,aJ,aG⟩:=HS w2 a5;clear i)|(go_at_call 201;refine(aL _).mono ?_;rintro e w3 ⟨rfl,a1⟩;have J:=az (an a5 ⟨a1.os,a1.tape,a1.output,a1.size,a1.block⟩);obtain⟨⟨bS,bM,bQ,bP⟩,bR,bO,bN⟩:=HS w3 J;clear a1))|fail
  all_goals
   go_wp2_with fail
   go_meet
   case rel=>exact⟨rfl,J⟩
 case rest=>
  obtain⟨rfl,J⟩:=hcut;clear v0 v1 d1 q0 z1 z2 z3
  cases b
  .have aO:Hid (B.seen c.m c.st (k+1,v2)=(B.mark c.m (k+1),c.st++[k+1])):=by show _=_;unfold B.seen;rw[aj ⟨by simp,aY⟩]
   obtain⟨⟨v0,v1,d1,q0⟩,z1,z2,z3⟩:=HS wc J;have f0:wc.frozen? ⟨u,k,none⟩=false:=by
    have h:=(KC.kept o).kept J;exact(h.r.cells k aM).2
   go_wp2_with fail
   generalize bK:wc=wd at *;clear bK;go_cut [] from 17 to 23 (λwx=>∃w4,Hid (w1.grownBy w4 none)/\wx=w4.setCell ⟨u,k,none⟩ (.bool true))
   case first=>
    go_region_with (go_at_call 201;refine(aL _).mono ?_;rintro e w4 ⟨rfl,a2⟩;have Y:=az (an J ⟨a2.os,a2.tape,a2.output,a2.size,a2.block⟩);obtain⟨⟨aB,a8,aH,aI⟩,aK,aJ,aG⟩:=HS w4 Y;have bW:=(((KC.kept o).kept Y).r.cells k aM).2;clear a2)
    all_goals
     go_wp2_with fail
     go_meet
     case rel=>exact⟨w4,Y,rfl⟩
   case rest=>
    obtain⟨w4,Y,a6⟩:=hcut;have G:=(KC.kept o).kept Y;obtain⟨⟨aB,a8,aH,aI⟩,aK,aJ,aG⟩:=HS w4 Y;have bE:wc.heap.size=w4.heap.size:=by rw[a6];simp[World.setCell]
    have a7:∀x,x≠u->wc.heap[x]? = w4.heap[x]?:=λx y=>by rw[a6,af _ _ _ _ y]
    have b6:cb≠u:=by obtain⟨cu,h,_⟩:=G.r;exact dW G.b h (by decide)
    have aV:w.heap.size≠u:=by omega
    have aA:=az ((a7 cb b6).trans G.b);have HR:Hid (Full wc u 4 n n (λj=>.bool (B.mark c.m (k+1) (j+1)))):=by
     have h1:=G.r.ep k (.bool true);rw[<-a6]at h1;refine h1.congr (λj _=>?_);by_cases e:j=k
     .subst e;rw[gf,B.je]
     rw[eG _ _ _ _ e,B.fg _ _ _ (by omega)]
    have HQ:Hid (fM wc 3 (.slice ad c.st.length cap) (mD c.st)):=G.q.block (λx y=>a7 x (by
     obtain⟨cu,h⟩:=G.q.ty x y;obtain⟨bY,h',_⟩:=G.r;exact dW h h' (by decide)))
    have bB:Hid (dy (nh cb u ad) w wc):=by
     show dy _ _ _;rw[a6];exact bm (dU (an o Y)) (ag (ab (ag rfl))) _
    have x0:=(aw (a:=⟨w.heap.size,0,none⟩) (a7 _ aV)).trans aB;have x1:=(aw (a:=⟨w.heap.size,1,none⟩) (a7 _ aV)).trans a8;have y2:wc.cell? ⟨cb,2,none⟩=some (.slice ad c.st.length cap):=by simp[World.cell?,aA.out]
    have g2:wc.frozen? ⟨cb,2,none⟩=false:=by simp[World.frozen?,aA.out]
    have bU:w.heap.size<wc.heap.size:=by omega
    have aF:cb<wc.heap.size:=by omega
    have bZ:w.heap.size<=wc.heap.size:=by omega
    have aE:(mD c.st).length=c.st.length:=uV _;have hL:mD (c.st++[k+1])=mD c.st++[.int .i64 k]:=by rw[zq];rfl
    have HL:=az hL;have bD:Hid (eO ad≠some cb):=λe=>by
     obtain⟨cu,h⟩:=HQ.ty cb (by rw[dr];exact e);exact dW aA h (by decide) rfl
    have a4:=az aE;clear G a7 a6 aB a8 aH aI v0 v1 d1 q0 f0 z1 z2 z3 aK aJ aG bE hL aE;obtain⟨i0,hi,bC,aS,bL⟩:=info_parts Tryz.F6;have bF:Hid (∀w':World,wc.grownBy w' none->w'.cell? ⟨cb,2,none⟩=some (.slice ad c.st.length cap)/\w'.frozen? ⟨cb,2,none⟩=false/\cb<w'.heap.size):=λw' Z=>⟨(bh Z (a:=⟨cb,2,none⟩) aF).1.trans y2,(bh Z (a:=⟨cb,2,none⟩) aF).2.trans g2,dm aF Z.size⟩;have b4:(mD c.st).length+1<=maxLen:=by rw[a4.out];unfold maxLen;omega
    have aU:((mD c.st).length+1)*8<=140737488355328:=by rw[a4.out];omega
    have aW:=az (ay b4 aU);clear b4 aU;rw[<-a4.out]at y2;go_wp2_with fail
    go_region_law (first|(refine oz _ rfl (.tmp 28) (.tmp 31) 54 rfl 3 i0 _ 8 underlying54 hi bC aS bL rfl (.slice ad (mD c.st).length cap) (mD c.st) (by first|rfl|simp[Act.eval,Act.put]) (b7) ⟨w5.heap.size,0,none⟩ 1 (.int .i64 k) (by first|rfl|simp[Act.eval,Act.put]) (by simp[go_sem]) rfl aW.1 aW.2 ?_;intro g off a0 w6 b3 aN aP;have aZ:=az b3;have aR:=az aN;have b9:=az aP;have H:=(aN.block cb (by simp;omega) (by rw[dr];exact λe=>bD e.symm)).trans ((ak _ _ _ z5).trans (cm W aA (by intro e;cases e)));have y6:w6.cell? ⟨cb,2,none⟩=some (.slice ad c.st.length cap):=(by simp[World.cell?,H]);have g6:w6.frozen? ⟨cb,2,none⟩=false:=(by simp[World.frozen?,H]);have aD:=az H;clear b3 aN aP H)|(go_simp;go_at_call 201;refine(aL _).mono ?_;rintro e w5 ⟨rfl,a3⟩;have W:Hid (wc.grownBy w5 none):=⟨a3.os,a3.tape,a3.output,a3.size,a3.block⟩;obtain⟨y5,g5,z5⟩:=bF w5 W;have b7:Hid (fM (w5.alloc (.cells #[.int .i64 k] 3)) 3 (.slice ad (mD c.st).length cap) (mD c.st)):=(by rw[a4.out];exact HQ.block (λx y=>(ak _ _ _ (dm (HQ.lt x y) W.size)).trans (W.block x (HQ.lt x y) (by intro e;cases e))));rw[<-a4.out]at y5;clear a3;simp only[]))
    all_goals
     go_wp2_with fail
     go_end0;have bA:=W.size;have aX:=a4.out;obtain⟨bJ,b1,bI⟩:=id HR;have aQ:∀(x:Nat) (b2:Array Value) (T:TypeId),wc.heap[x]? = some (.cells b2 T (0,0))->T≠3->x≠cb->(w6.setCell ⟨cb,2,none⟩ (.slice (some ⟨g,off,none⟩) ((mD c.st).length+1) a0)).heap[x]? = wc.heap[x]?:=by
      intro x b2 T y hT b8;have bG:x<w5.heap.size:=dm (bz y) bA;rw[af _ _ _ _ b8,aR.block x (by simp;omega) (λe=>?_),ak _ _ _ bG]
      .exact W.block x (bz y) (by intro e;cases e)
      obtain⟨cu,h⟩:=HQ.ty x (by rw[dr];rw[dr]at e;exact e.symm);rw[y]at h;injection h with h;injection h with _ h _;exact hT h
     have bH:g≠cb:=by
      obtain⟨cu,h⟩:=aZ.ty g rfl;exact dW h aD (by decide)
     refine⟨rfl,some ⟨g,off,none⟩,a0,λx y=>?_,?_,?_⟩
     .have e:g=x:=by injection y
      subst e;rcases b9 with h|h
      .rw[dr]at h;exact ag h
      right;simp at h;omega
     .rw[aO.out];refine⟨?_,⟨bJ,(aQ u _ _ b1 (by decide) (λe=>b6 e.symm)).trans b1,bI⟩,?_⟩
      .simp[World.setCell,cn,aD.out,aX]
      show fM _ _ (.slice _ (c.st++[k+1]).length _) (mD (c.st++[k+1]));rw[HL.out,bo,eF,<-aX];refine aZ.block (λx y=>af _ _ _ _ ?_);have e:g=x:=by injection y
      subst e;exact bH
     refine bm ?_ (ag (ag rfl)) _;refine((bB.gR W).gR (ah _ _ _)).trans (CR (S:=nh cb u ad) aR (λx y _=>ab (ab (by rw[dr]at y;exact y)))) (λ_ h _=>h)
  have aO:Hid (B.seen c.m c.st (k+1,v2)=(c.m,c.st)):=by show _=_;unfold B.seen;rw[aa (by simp[aY.out])]
  go_wp2_with fail
  go_end0;have Z:=an o J;exact⟨rfl,ad,cap,vY.refl _ _,by rw[aO.out];exact KC.kept Z,dU Z⟩
theorem Bd(cb W sb n k:Nat)(ad:Option Addr)(cap:Nat)(c:B.Cy)(x:Int)(w:World)(J:kY w cb W sb n ad cap c)(hk:k<n)(hn:n<=200): Calls prog 221 #[P0 cb,vA (k+1,x)] w λe w'=>e=.returned (.tuple #[])/\kY w' cb W sb n ad cap ⟨B.mark c.m (k+1),c.st,c.nx⟩/\w.grownBy w' (some W):=by
 have KC:=az J;obtain⟨_,c1,_⟩:=J.c1;have lc:=bz J.b;have a1:(k:Int)<n:=by omega
 go_in;go_wp2_with fail
 generalize hW:w.alloc (.cells #[.int .i64 ((k:Int)+1),.int .i64 x] 149)=w1;have u:Hid (w.grownBy w1 none):=by rw[<-hW];exact ah _ _ _
 have G:w1.heap[w.heap.size]? = some (.cells #[.int .i64 ((k:Int)+1),.int .i64 x] 149 (0,0)):=by rw[<-hW];exact bf w _
 have v0:w1.cell? ⟨w.heap.size,0,none⟩=some (.int .i64 ((k:Int)+1)):=by simp[World.cell?,G]
 have v1:w1.cell? ⟨w.heap.size,1,none⟩=some (.int .i64 x):=by simp[World.cell?,G]
 have d1:=(bh u (a:=⟨cb,1,none⟩) lc).1.trans c1
 go_region_with (go_at_call 201;refine((az (mg k x (by omega))).out _).mono ?_;rintro e w4 ⟨rfl,o⟩;have H:Hid (w1.grownBy w4 none):=⟨o.os,o.tape,o.output,o.size,o.block⟩;have i:=(KC.kept u).kept H;obtain⟨q0,f0⟩:=i.r.cells k hk;have a6:=i.c1.2.1;clear o i)
 all_goals
  go_wp2_with fail
  go_end0;have i:=(KC.kept u).kept H
  refine⟨rfl,⟨(af _ _ _ _ (by obtain⟨cu,h,_⟩:=i.r;exact dW i.b h (by decide))).trans i.b,(i.r.ep k (.bool true)).congr (λj _=>?_),i.q.block (λy hy=>af _ _ _ _ ?_)⟩,?_⟩
  .show _=Value.bool (B.mark c.m (k+1) (j+1));by_cases e:j=k
   .subst e;rw[gf,B.je]
   rw[eG _ _ _ _ e,B.fg _ _ _ (by omega)]
  .obtain⟨cu,h⟩:=i.q.ty y hy;obtain⟨a4,h',_⟩:=i.r;exact dW h h' (by decide)
  exact bp (eD (an u H)) (ag rfl) _
end
namespace F
structure Fb where
 b:Nat->Nat
 k:Nat->Nat
def Hm(k:Bool)(t:Nat):Nat:=if k=true then(if t=0 then 1 else 2) else 0
def tZ(k:Bool)(t:Nat):Value:=.int .u8 (Hm k t)
def DD(k:Bool)(t:Nat):Nat:=if k=true then t-1 else 0
def iM(kd:Nat->Bool)(vb:Fb)(M:Nat->List B.V):Nat->Value:=λj=>
 if j % 3=0 then tZ (kd (j / 3+1)) (vb.k (j / 3+1)) else if j % 3=1 then .int .i64 (DD (kd (j / 3+1)) (vb.k (j / 3+1)):Nat) else oL (kd (j / 3+1)) (vb.b (j / 3+1)) (M (j / 3+1)).length
theorem zI(kd:Nat->Bool)(vb:Fb)(M:Nat->List B.V)(k:Nat):iM kd vb M (k*3)=tZ (kd (k+1)) (vb.k (k+1)):=by
 unfold iM;rw[aj (by omega),show k*3 / 3=k by omega]
theorem zH(kd:Nat->Bool)(vb:Fb)(M:Nat->List B.V)(k:Nat):iM kd vb M (k*3+1)=.int .i64 (DD (kd (k+1)) (vb.k (k+1)):Nat):=by
 unfold iM;rw[aa (by omega),aj (by omega),show(k*3+1) / 3=k by omega]
theorem sQ(kd:Nat->Bool)(vb:Fb)(M:Nat->List B.V)(k:Nat):iM kd vb M (k*3+2)=oL (kd (k+1)) (vb.b (k+1)) (M (k+1)).length:=by
 unfold iM;rw[aa (by omega),aa (by omega),show(k*3+2) / 3=k by omega]
structure ow(w:World) (pb n:Nat) (on:Nat->Bool) (f:Fb) (M:Nat->List B.V):Prop where
 p:Full w pb 228 (n*3) (n*3) (iM on f M)
 s:∀p,1<=p->p<=n->on p=true->Full w (f.b p) 149 ((M p).length*2) ((M p).length*2) (eC (jQ M p))
 i:∀p q,1<=p->p<=n->1<=q->q<=n->on p=true->on q=true->f.b p=f.b q->p=q
 l:∀p,on p=true->(M p).length<=8
 k:∀p,on p=true->f.k p≠0->(M p).length=1
theorem ow.block{w w':World}{pb n:Nat}{on:Nat->Bool}{f:Fb}{M:Nat->List B.V}(h:ow w pb n on f M)(o:w'.heap[pb]? = w.heap[pb]?)(e:∀p,1<=p->p<=n->on p=true->w'.heap[f.b p]? = w.heap[f.b p]?):ow w' pb n on f M:=
 ⟨h.p.block o,λp a b c=>(h.s p a b c).block (e p a b c),h.i,h.l,h.k⟩
theorem ow.kept{w w':World}{pb n:Nat}{on:Nat->Bool}{f:Fb}{M:Nat->List B.V}(h:ow w pb n on f M)(i:w.grownBy w' none):ow w' pb n on f M:=
 h.block (i.block pb h.p.lt (by intro e;cases e)) (λp a b c=>i.block _ (h.s p a b c).lt (by intro e;cases e))
structure Vs where
 f:Fb
 cb:Nat
 rd:Nat
 ad:Option Addr
 cap:Nat
def Ax:Vs:=⟨⟨λ_=>0,λ_=>0⟩,0,0,none,0⟩
def yg(kd:B.Kd)(vb:Vs):Value:=if kd.cy.isSome=true then P0 vb.cb else .pointer none
structure jm(w:World) (sb pb eb n:Nat) (kd:B.Kd) (vb:Vs) (M:Nat->List B.V):Prop where
 b:w.heap[sb]? = some (.cells #[.slice (some ⟨pb,0,none⟩) n n,.func (.func 59) #[P0 eb] #[],yg kd vb,.int .i64 (wrap64 (kd.un:Int)),.int .i64 (wrap64 (kd.fo:Int)),.int .i64 (wrap64 (kd.cc:Int))] 207 (0,0))
 p:ow w pb n kd.on vb.f M
 c:∀c,kd.cy=some c->kY w vb.cb vb.rd sb n vb.ad vb.cap c
def Own(n:Nat)(kd:B.Kd)(vb:Vs)(k:Nat):Prop:=(∃p,1<=p/\p<=n/\kd.on p=true/\vb.f.b p=k)\/(kd.cy.isSome=true/\nh vb.cb vb.rd vb.ad k)
theorem jm.block{w w':World}{sb pb eb n:Nat}{kd:B.Kd}{vb:Vs}{M:Nat->List B.V}(h:jm w sb pb eb n kd vb M)(u:w'.heap[sb]? = w.heap[sb]?)(y:w'.heap[pb]? = w.heap[pb]?)(i:∀k,Own n kd vb k->w'.heap[k]? = w.heap[k]?):jm w' sb pb eb n kd vb M:=
 ⟨u.trans h.b,h.p.block y (λp a b c=>i _ (ag ⟨p,a,b,c,rfl⟩)),λc e=>(h.c c e).block (λk o=>i k (ab ⟨by rw[e];rfl,o⟩))⟩
theorem jm.lt{w:World}{sb pb eb n:Nat}{kd:B.Kd}{vb:Vs}{M:Nat->List B.V}(h:jm w sb pb eb n kd vb M)(k:Nat)(e:Own n kd vb k):k<w.heap.size:=by
 rcases e with⟨p,a,b,c,rfl⟩|⟨i,e⟩
 .exact(h.p.s p a b c).lt
 obtain⟨c,i⟩:=Option.isSome_iff_exists.1 i;exact(h.c c i).lt k e
theorem jm.kept{w w':World}{sb pb eb n:Nat}{kd:B.Kd}{vb:Vs}{M:Nat->List B.V}(h:jm w sb pb eb n kd vb M)(i:w.grownBy w' none):jm w' sb pb eb n kd vb M:=
 h.block (i.block sb (bz h.b) (by intro e;cases e)) (i.block pb h.p.p.lt (by intro e;cases e)) (λk o=>i.block k (h.lt k o) (by intro e;cases e))
theorem jm.ty{w:World}{sb pb eb n:Nat}{kd:B.Kd}{vb:Vs}{M:Nat->List B.V}(h:jm w sb pb eb n kd vb M)(k:Nat)(i:Own n kd vb k):∃e T,w.heap[k]? = some (.cells e T (0,0))/\(T=149\/T=275\/T=4\/T=3):=by
 rcases i with⟨p,a,b,c,rfl⟩|⟨o,i⟩
 .obtain⟨e,u,_⟩:=h.p.s p a b c;exact⟨_,_,u,ag rfl⟩
 obtain⟨c,o⟩:=Option.isSome_iff_exists.1 o;obtain⟨e,T,u,y⟩:=(h.c c o).ty k i;exact⟨e,T,u,ab y⟩
theorem Hl(k:Bool)(t:Nat):((Hm k t:Int) == 0)=!k:=by
 unfold Hm
 cases k
 .rfl
 by_cases h:t=0
 .simp[h]
 simp[h]
theorem yN(k:Bool)(t:Nat)(c1:Int)(v:Value)(w:World):Calls prog 140 #[.agg #[tZ k t,.int .i64 c1,v]] w λe w'=>e=.returned (.bool (!k))/\w.grownBy w' none:=by
 have h:=Hl k t;show Calls prog 140 #[.agg #[.int .u8 (Hm k t:Nat),.int .i64 c1,v]] w _;generalize Hm k t=y at *;rw[<-h];clear h;go_in;go_wp2_with fail
 go_ret;exact⟨rfl,ah _ _ _⟩
theorem qH(sb pb n k:Nat)(x:Int)(on:Nat->Bool)(f:Fb)(M:Nat->List B.V)(w:World)(h0:w.cell? ⟨sb,0,none⟩=some (.slice (some ⟨pb,0,none⟩) n n))(ls:sb<w.heap.size)(hP:ow w pb n on f M)(hk:k<n)(hn:n<=200): Calls prog 202 #[P0 sb,vA (k+1,x)] w λe w'=>e=.returned (.agg #[tZ (on (k+1)) (f.k (k+1)),.int .i64 (DD (on (k+1)) (f.k (k+1)):Nat),oL (on (k+1)) (f.b (k+1)) (M (k+1)).length])/\w.grownBy w' none:=by
 have hi:=mP (k+1,x);have hd:decide (k+1≠0)=true:=by simp
 rw[show((k+1,x):B.V).1=k+1 from rfl,hd]at hi;have HI:=az hi;have lp:=hP.p.lt;have c0:=hP.p.cell (k*3) (by omega);have c1:=hP.p.cell (k*3+1) (by omega);have c2:=hP.p.cell (k*3+2) (by omega);rw[zI]at c0;rw[zH]at c1;rw[sQ]at c2;clear hP hi hd;obtain⟨y0,Z⟩:∃y,tZ (on (k+1)) (f.k (k+1))=.int .u8 y:=⟨_,rfl⟩;generalize ((DD (on (k+1)) (f.k (k+1)):Nat):Int)=y1 at *;obtain⟨a2,n2,m2,a0⟩:∃a n m,oL (on (k+1)) (f.b (k+1)) (M (k+1)).length=.slice a n m:=by unfold oL;split<;>exact⟨_,_,_,rfl⟩
 rw[Z]at c0 ⊢;rw[a0]at c2 ⊢;clear Z a0;have a4:(k:Int)<n:=by omega
 go_in;go_wp2_with fail
 refine(HI _).mono ?_;rintro e w1 ⟨rfl,Y⟩;have hz:=Y.size;simp at hz;have hx:w1.heap[w.heap.size+1]? = some (.cells #[.int .u8 0,.int .i64 0,.slice none 0 0] 228 (0,0)):=by
  refine(Y.block _ (by simp) (by intro e;cases e)).trans ?_;have:=bf (w.alloc (.cells #[.int .i64 ((k:Int)+1),.int .i64 x] 149)) (.cells #[.int .u8 0,.int .i64 0,.slice none 0 0] 228);simpa using this
 have hv:w1.heap[w.heap.size]? = some (.cells #[.int .i64 ((k:Int)+1),.int .i64 x] 149 (0,0)):=by
  refine(Y.block _ (by simp;omega) (by intro e;cases e)).trans ?_;rw[ak _ _ _ (by simp)];exact bf w _
 have W:=az (an (au (ah w _ none) _) Y);have v0:w1.cell? ⟨w.heap.size,0,none⟩=some (.int .i64 ((k:Int)+1)):=by simp[World.cell?,hv]
 have v1:w1.cell? ⟨w.heap.size,1,none⟩=some (.int .i64 x):=by simp[World.cell?,hv]
 have HX:=az hx;have d0:=(bh W (a:=⟨sb,0,none⟩) ls).1.trans h0;have p0:=(bh W (a:=⟨pb,k*3,none⟩) lp).1.trans c0;have p1:=(bh W (a:=⟨pb,k*3+1,none⟩) lp).1.trans c1;have p2:=(bh W (a:=⟨pb,k*3+2,none⟩) lp).1.trans c2;have J:sb<w1.heap.size:=by omega
 have G:pb<w1.heap.size:=by omega
 clear Y hx hz hv h0 c0 c1 c2;have H:=az (ay p0 (ay p1 p2));clear p0 p1 p2;go_wp2_with fail
 go_region_with (go_at_call 201;refine((az (mg k x (by omega))).out w1.drew).mono ?_;rintro e w2 ⟨rfl,u⟩;have i:Hid (w1.grownBy w2 none):=⟨u.os,u.tape,u.output,u.size,u.block⟩;have d2:=(bh i (a:=⟨sb,0,none⟩) J).1.trans d0;have p0:=(bh i (a:=⟨pb,k*3,none⟩) G).1.trans H.1;have p1:=(bh i (a:=⟨pb,k*3+1,none⟩) G).1.trans H.2.1;have p2:=(bh i (a:=⟨pb,k*3+2,none⟩) G).1.trans H.2.2;have o:=cm i HX (by intro e;cases e);have r0:w2.cell? ⟨w.heap.size+1,0,none⟩=some (.int .u8 0):=(by simp[World.cell?,o]);have r1:w2.cell? ⟨w.heap.size+1,1,none⟩=some (.int .i64 0):=(by simp[World.cell?,o]);have r2:w2.cell? ⟨w.heap.size+1,2,none⟩=some (.slice none 0 0):=(by simp[World.cell?,o]);have t0:w2.frozen? ⟨w.heap.size+1,0,none⟩=false:=(by simp[World.frozen?,o]);have t1:w2.frozen? ⟨w.heap.size+1,1,none⟩=false:=(by simp[World.frozen?,o]);have t2:w2.frozen? ⟨w.heap.size+1,2,none⟩=false:=(by simp[World.frozen?,o]);clear u o)
 all_goals
  go_wp2_with fail
  refine da (v:=.agg #[.int .u8 y0,.int .i64 y1,.slice a2 n2 m2]) (by simp[results,results202,go_sem,r0,r1,r2]) rfl ⟨rfl,?_⟩;have a1:=an W i;repeat (first|exact a1|refine bq ?_|refine au ?_ _|refine bp ?_ (ab (by simp)) _)
theorem ua(pb n:Nat)(on:Nat->Bool)(f:Fb)(M:Nat->List B.V)(w:World)(hS:ow w pb n on f M)(hn:n<=200): Calls prog 229 #[.slice (some ⟨pb,0,none⟩) n n,Fv 140 #[]] w λe w'=>w.grownBy w' none/\((∃k:Nat,k<n/\on (k+1)=false/\e=.returned (.int .i64 k))\/((∀p,1<=p->p<=n->on p=true)/\e=.returned (.int .i64 (-1)))):=by
 have KS:=az hS;go_in;go_wp2_with fail
 go_loopw [8] (λi wr=>∃k:Nat,k<=n/\i=.int .i64 k/\Hid (∀p,1<=p->p<=k->on p=true)/\Hid (w.grownBy wr none)) (λi _=>n-(intOf i).toNat)
 case atStart=>exact⟨0,by omega,rfl,λp h1 h2=>(by omega),ax _ _⟩
 case round=>
  obtain⟨k,hk,rfl,hK,hG⟩:=hrel;by_cases W:k<n
  .have hS:=KS.kept hG;have c0:=hS.p.cell (k*3) (by omega);have c1:=hS.p.cell (k*3+1) (by omega);have Z:=hS.p.cell (k*3+2) (by omega);rw[zI]at c0;rw[zH]at c1;rw[sQ]at Z;have Y:=yN (on (k+1)) (f.k (k+1)) (DD (on (k+1)) (f.k (k+1)):Nat) (oL (on (k+1)) (f.b (k+1)) (M (k+1)).length);obtain⟨y0,o⟩:∃y,tZ (on (k+1)) (f.k (k+1))=.int .u8 y:=⟨_,rfl⟩;generalize ((DD (on (k+1)) (f.k (k+1)):Nat):Int)=y1 at *;obtain⟨a2,n2,m2,u⟩:∃a n m,oL (on (k+1)) (f.b (k+1)) (M (k+1)).length=.slice a n m:=by unfold oL;split<;>exact⟨_,_,_,rfl⟩
   rw[o]at c0;rw[u]at Z;rw[o,u]at Y;have HF:=az Y;have a0:(k:Int)<n:=by omega
   go_wp2_with fail
   refine(HF _).mono ?_;rintro e w1 ⟨rfl,G⟩;have H:=az (an hG G)
   cases hkd:on (k+1)
   .have J:=az hkd;simp only[Bool.not_false];go_wp2_with fail
    go_ret;exact⟨H,ag ⟨k,W,J,rfl⟩⟩
   have J:=az hkd;simp only[Bool.not_true];go_wp2_with fail
   go_roundw
   case rel=>
    refine⟨k+1,by omega,by go_num,λp h1 h2=>?_,H⟩;by_cases e:p=k+1
    .subst e;exact J
    exact hK p h1 (by omega)
   case measure=>simp[intOf];omega
  obtain rfl:k=n:=by omega
  go_wp2_with fail
  go_ret;exact⟨hG,ab ⟨hK,rfl⟩⟩
theorem oE(sb pb n:Nat)(on:Nat->Bool)(f:Fb)(M:Nat->List B.V)(w:World)(H:w.cell? ⟨sb,0,none⟩=some (.slice (some ⟨pb,0,none⟩) n n))(hS:ow w pb n on f M)(hn:n<=200): Calls prog 218 #[P0 sb] w λe w'=>w.grownBy w' none/\((∃k:Nat,k<n/\on (k+1)=false/\e=.returned (.int .i64 k))\/((∀p,1<=p->p<=n->on p=true)/\e=.returned (.int .i64 (-1)))):=by
 have G:=az (ua pb n on f M w hS hn);go_in;go_wp2_with fail
 refine G.mono ?_;rintro e w1 ⟨u,⟨k,o,y,rfl⟩|⟨o,rfl⟩⟩
 .have i:=az (ay u (ay o y));go_wp2_with fail
  go_ret;exact⟨i.1,ag ⟨k,i.2.1,i.2.2,rfl⟩⟩
 have i:=az (ay u o);go_wp2_with fail
 go_ret;exact⟨i.1,ab ⟨i.2,rfl⟩⟩
theorem jm.c0{w:World}{sb pb eb n:Nat}{kd:B.Kd}{vb:Vs}{M:Nat->List B.V}(h:jm w sb pb eb n kd vb M):w.cell? ⟨sb,0,none⟩=some (.slice (some ⟨pb,0,none⟩) n n):=by simp[World.cell?,h.b]
theorem yt(sb pb eb n k i:Nat)(x:Int)(kd:B.Kd)(vb:Vs)(M:Nat->List B.V)(w:World)(hS:jm w sb pb eb n kd vb M)(hn:n<=200)(hk:k<n)(J:kd.on (k+1)=true)(hi:i<(M (k+1)).length): Calls prog 159 #[P0 sb,vA (k+1,x),.int .i64 i] w λe w'=>e=.returned (vA ((M (k+1)).getD i (0,0)))/\w.grownBy w' none:=by
 have h0:=hS.c0;have ls:=bz hS.b;have lp:=hS.p.p.lt;have c2:=hS.p.p.cell (k*3+2) (by omega);rw[sQ,J]at c2;have hF:=hS.p.s (k+1) (by omega) (by omega) J;have lf:=hF.lt;have s0:=hF.cell (i*2) (by omega);have s1:=hF.cell (i*2+1) (by omega);rw[nE]at s0;rw[nD]at s1;have Y:oL true (vb.f.b (k+1)) (M (k+1)).length=.slice (some ⟨vb.f.b (k+1),0,none⟩) (M (k+1)).length (M (k+1)).length:=rfl;rw[Y]at c2;have a6:=hS.p.l _ J;show Calls prog 159 #[P0 sb,vA (k+1,x),.int .i64 i] w λe w'=>e=.returned (vA (jQ M (k+1) i))/\w.grownBy w' none;generalize jQ M (k+1) i=y at *;generalize (M (k+1)).length=m at *;generalize vb.f.b (k+1)=g at *;clear hS Y hF;have a3:(k:Int)<n:=by omega
 have a9:(i:Int)<m:=by omega
 go_in;go_wp2_with fail
 generalize hW:(w.alloc (.cells #[.int .i64 ((k:Int)+1),.int .i64 x] 149)).alloc (.cells #[.int .i64 0,.int .i64 0] 149)=w1;have Z:Hid (w.grownBy w1 none):=by rw[<-hW];exact au (ah _ _ _) _
 have hz:w1.heap.size=w.heap.size+2:=by rw[<-hW];simp
 have hx:w1.heap[w.heap.size+1]? = some (.cells #[.int .i64 0,.int .i64 0] 149 (0,0)):=by
  rw[<-hW];have:=bf (w.alloc (.cells #[.int .i64 ((k:Int)+1),.int .i64 x] 149)) (.cells #[.int .i64 0,.int .i64 0] 149);simpa using this
 have hv:w1.heap[w.heap.size]? = some (.cells #[.int .i64 ((k:Int)+1),.int .i64 x] 149 (0,0)):=by
  rw[<-hW,ak _ _ _ (by simp)];exact bf w _
 clear hW;have v0:w1.cell? ⟨w.heap.size,0,none⟩=some (.int .i64 ((k:Int)+1)):=by simp[World.cell?,hv]
 have v1:w1.cell? ⟨w.heap.size,1,none⟩=some (.int .i64 x):=by simp[World.cell?,hv]
 have HX:=az hx;have d0:=(bh Z (a:=⟨sb,0,none⟩) ls).1.trans h0;have p2:=(bh Z (a:=⟨pb,k*3+2,none⟩) lp).1.trans c2;have q0:=(bh Z (a:=⟨g,i*2,none⟩) lf).1.trans s0;have q1:=(bh Z (a:=⟨g,i*2+1,none⟩) lf).1.trans s1;have W:sb<w1.heap.size:=by omega
 have a0:pb<w1.heap.size:=by omega
 have H:g<w1.heap.size:=by omega
 have HQ:=az (ay p2 (ay q0 q1));clear hx hv h0 c2 s0 s1 p2 q0 q1 hz;go_region_with (go_at_call 201;refine((az (mg k x (by omega))).out w1.drew).mono ?_;rintro e w2 ⟨rfl,G⟩;have o:Hid (w1.grownBy w2 none):=⟨G.os,G.tape,G.output,G.size,G.block⟩;have d2:=(bh o (a:=⟨sb,0,none⟩) W).1.trans d0;have p2:=(bh o (a:=⟨pb,k*3+2,none⟩) a0).1.trans HQ.1;have q0:=(bh o (a:=⟨g,i*2,none⟩) H).1.trans HQ.2.1;have q1:=(bh o (a:=⟨g,i*2+1,none⟩) H).1.trans HQ.2.2;have u:=cm o HX (by intro e;cases e);have r0:w2.cell? ⟨w.heap.size+1,0,none⟩=some (.int .i64 0):=(by simp[World.cell?,u]);have r1:w2.cell? ⟨w.heap.size+1,1,none⟩=some (.int .i64 0):=(by simp[World.cell?,u]);have t0:w2.frozen? ⟨w.heap.size+1,0,none⟩=false:=(by simp[World.frozen?,u]);have t1:w2.frozen? ⟨w.heap.size+1,1,none⟩=false:=(by simp[World.frozen?,u]);clear G u)
 all_goals
  go_wp2_with fail
  refine da (v:=vA y) (by simp[results,results159,go_sem,r0,r1]) rfl ⟨rfl,?_⟩;have a2:=an Z o;repeat (first|exact a2|refine bq ?_|refine au ?_ _|refine bp ?_ (ab (by simp)) _)
def nA(v:B.V)(f:Fb)(M:Nat->List B.V):Value:=if v.1=0\/f.k v.1≠0 then .tuple #[.int .i64 0,.bool false] else .tuple #[.int .i64 (M v.1).length,.bool true]
theorem AP(sb pb eb n:Nat)(v:B.V)(kd:B.Kd)(vb:Vs)(M:Nat->List B.V)(w:World)(hS:jm w sb pb eb n kd vb M)(hn:n<=200)(hv:B.qO kd.on n v): Calls prog 200 #[P0 sb,vA v] w λe w'=>w.grownBy w' none/\e=.returned (nA v vb.f M):=by
 have KS:=az hS;clear hS;obtain⟨v1,v2⟩:=v;rcases hv with hv|⟨y,u,H,Y⟩
 .have hv:v1=0:=hv;subst hv;have G:nA (0,v2) vb.f M=.tuple #[.int .i64 0,.bool false]:=by unfold nA;rw[aj (ag rfl)]
  rw[G];go_in;go_wp2_with fail
  refine(qI sb v2 _).mono ?_;rintro e w1 ⟨rfl,o⟩;have Z:=az (an (ah w _ none) o);clear o;go_wp2_with fail
  go_ret2
  exact⟨au Z _,rfl⟩
 obtain⟨k,hk⟩:∃k,v1=k+1:=⟨v1-1,by omega⟩;subst hk;have i:kd.on (k+1)=true:=H;have a0:k<n:=by omega
 have W:=λw' (hS:jm w' sb pb eb n kd vb M)=>qH sb pb n k v2 kd.on vb.f M w' hS.c0 (bz hS.b) hS.p a0 hn;have e2:oL (kd.on (k+1)) (vb.f.b (k+1)) (M (k+1)).length=.slice (some ⟨vb.f.b (k+1),0,none⟩) (M (k+1)).length (M (k+1)).length:=by rw[i];rfl
 by_cases J:vb.f.k (k+1)=0
 .have e0:tZ (kd.on (k+1)) (vb.f.k (k+1))=.int .u8 1:=by rw[i,J];rfl
  have G:nA (k+1,v2) vb.f M=.tuple #[.int .i64 (M (k+1)).length,.bool true]:=by unfold nA;rw[aa (λh=>h.elim (λh=>by cases h) (λh=>h J))]
  rw[G];rw[e0,e2]at W;generalize ((DD (kd.on (k+1)) (vb.f.k (k+1)):Nat):Int)=y1 at *;generalize (M (k+1)).length=m at *;generalize vb.f.b (k+1)=g at *;have HA:=az W;clear W e0 e2 y u H Y i G J;go_in;go_wp2_with fail
  refine(HA _ (KS.kept (ah _ _ _))).mono ?_;rintro e w1 ⟨rfl,o⟩;have Z:=az (an (ah w _ none) o);clear o;go_wp2_with fail
  go_ret2
  exact⟨au Z _,rfl⟩
 have e0:tZ (kd.on (k+1)) (vb.f.k (k+1))=.int .u8 2:=by rw[i];unfold tZ Hm;rw[aj rfl,aa J];rfl
 have G:nA (k+1,v2) vb.f M=.tuple #[.int .i64 0,.bool false]:=by unfold nA;rw[aj (ab J)]
 rw[G];rw[e0,e2]at W;generalize ((DD (kd.on (k+1)) (vb.f.k (k+1)):Nat):Int)=y1 at *;generalize (M (k+1)).length=m at *;generalize vb.f.b (k+1)=g at *;have HA:=az W;clear W e0 e2 y u H Y i G J;go_in;go_wp2_with fail
 refine(HA _ (KS.kept (ah _ _ _))).mono ?_;rintro e w1 ⟨rfl,o⟩;have Z:=az (an (ah w _ none) o);clear o;go_wp2_with fail
 go_ret2
 exact⟨au Z _,rfl⟩
theorem oS{W:World}{o:Obj}{b i:Nat}(h:b<W.heap.size):(W.alloc o).cell? ⟨b,i,none⟩=W.cell? ⟨b,i,none⟩:=(bh (ah W o none) (a:=⟨b,i,none⟩) h).1
def pJ(v:B.V)(f:Fb)(M:Nat->List B.V):Value:=if v.1=0\/f.k v.1=0 then .tuple #[.int .i64 0,vA (0,0),.bool false] else .tuple #[.int .i64 ((f.k v.1-1:Nat):Int),vA ((M v.1).getD 0 (0,0)),.bool true]
theorem vI(sb pb eb n:Nat)(v:B.V)(kd:B.Kd)(vb:Vs)(M:Nat->List B.V)(w:World)(hS:jm w sb pb eb n kd vb M)(hn:n<=200)(hv:B.qO kd.on n v): Calls prog 162 #[P0 sb,vA v] w λe w'=>w.grownBy w' none/\e=.returned (pJ v vb.f M):=by
 have KS:=az hS;obtain⟨v1,H⟩:=v;rcases hv with hv|⟨W,J,a0,a1⟩
 .have hv:v1=0:=hv;subst hv;have Y:pJ (0,H) vb.f M=.tuple #[.int .i64 0,vA (0,0),.bool false]:=by unfold pJ;rw[aj (ag rfl)]
  rw[Y];go_in;go_wp2_with fail
  refine(qI sb H _).mono ?_;rintro e w1 ⟨rfl,o⟩;have G:=az (an (au (ah w _ none) _) o);have hz:=o.size;have u:w1.heap[w.heap.size+1]? = some (.cells #[.int .i64 0,.int .i64 0] 149 (0,0)):=by
   refine(o.block _ (by simp) (by intro e;cases e)).trans ?_;have:=bf (w.alloc (.cells #[.int .i64 ((0:Nat):Int),.int .i64 H] 149)) (.cells #[.int .i64 0,.int .i64 0] 149);simpa using this
  have r0:w1.cell? ⟨w.heap.size+1,0,none⟩=some (.int .i64 0):=by simp[World.cell?,u]
  have r1:w1.cell? ⟨w.heap.size+1,1,none⟩=some (.int .i64 0):=by simp[World.cell?,u]
  have t0:w1.frozen? ⟨w.heap.size+1,0,none⟩=false:=by simp[World.frozen?,u]
  have t1:w1.frozen? ⟨w.heap.size+1,1,none⟩=false:=by simp[World.frozen?,u]
  have lx:=bz u;clear o u;go_wp2_with fail
  refine da (v:=.tuple #[.int .i64 0,vA (0,0),.bool false]) (by simp[results,results162,go_sem,oS,lx,r0,r1]) rfl ⟨?_,rfl⟩;repeat (first|exact G|refine bq ?_|refine au ?_ _|refine bp ?_ (ab (by simp)) _)
 obtain⟨k,hk⟩:∃k,v1=k+1:=⟨v1-1,by omega⟩;subst hk;have i:kd.on (k+1)=true:=a0;have a5:k<n:=by omega
 have ha:=λw' (hS:jm w' sb pb eb n kd vb M)=>qH sb pb n k H kd.on vb.f M w' hS.c0 (bz hS.b) hS.p a5 hn;have e2:oL (kd.on (k+1)) (vb.f.b (k+1)) (M (k+1)).length=.slice (some ⟨vb.f.b (k+1),0,none⟩) (M (k+1)).length (M (k+1)).length:=by rw[i];rfl
 have a4:∀w1:World,((w.alloc (.cells #[.int .i64 ((k:Int)+1),.int .i64 H] 149)).alloc (.cells #[.int .i64 0,.int .i64 0] 149)).grownBy w1 none->w1.cell? ⟨w.heap.size+1,0,none⟩=some (.int .i64 0)/\w1.cell? ⟨w.heap.size+1,1,none⟩=some (.int .i64 0)/\w1.frozen? ⟨w.heap.size+1,0,none⟩=false/\w1.frozen? ⟨w.heap.size+1,1,none⟩=false/\w.heap.size+1<w1.heap.size:=λw1 o=>by
  have u:w1.heap[w.heap.size+1]? = some (.cells #[.int .i64 0,.int .i64 0] 149 (0,0)):=by
   refine(o.block _ (by simp) (by intro e;cases e)).trans ?_;have:=bf (w.alloc (.cells #[.int .i64 ((k:Int)+1),.int .i64 H] 149)) (.cells #[.int .i64 0,.int .i64 0] 149);simpa using this
  exact⟨by simp[World.cell?,u],by simp[World.cell?,u],by simp[World.frozen?,u],by simp[World.frozen?,u],bz u⟩
 have a2:=az a4;by_cases Z:vb.f.k (k+1)=0
 .have e0:tZ (kd.on (k+1)) (vb.f.k (k+1))=.int .u8 1:=by rw[i,Z];rfl
  have Y:pJ (k+1,H) vb.f M=.tuple #[.int .i64 0,vA (0,0),.bool false]:=by unfold pJ;rw[aj (ab Z)]
  rw[Y];rw[e0,e2]at ha;generalize ((DD (kd.on (k+1)) (vb.f.k (k+1)):Nat):Int)=y1 at *;generalize (M (k+1)).length=m at *;generalize vb.f.b (k+1)=g at *;have HA:=az ha;clear ha e0 e2 W J a0 a1 i Y Z;go_in;go_wp2_with fail
  refine(HA _ (KS.kept (au (ah _ _ _) _))).mono ?_;rintro e w1 ⟨rfl,o⟩;have G:=az (an (au (ah w _ none) _) o);obtain⟨r0,r1,t0,t1,lx⟩:=a2 w1 o;clear o;go_wp2_with fail
  refine da (v:=.tuple #[.int .i64 0,vA (0,0),.bool false]) (by simp[results,results162,go_sem,oS,lx,r0,r1]) rfl ⟨?_,rfl⟩;repeat (first|exact G|refine bq ?_|refine au ?_ _|refine bp ?_ (ab (by simp)) _)
 have e0:tZ (kd.on (k+1)) (vb.f.k (k+1))=.int .u8 2:=by rw[i];unfold tZ Hm;rw[aj rfl,aa Z];rfl
 have e1:DD (kd.on (k+1)) (vb.f.k (k+1))=vb.f.k (k+1)-1:=by rw[i];rfl
 have a3:=KS.p.k _ i Z;have Y:pJ (k+1,H) vb.f M=.tuple #[.int .i64 ((vb.f.k (k+1)-1:Nat):Int),vA ((M (k+1)).getD 0 (0,0)),.bool true]:=by unfold pJ;rw[aa (λh=>h.elim (λh=>by cases h) (λh=>Z h))]
 have hF:=KS.p.s (k+1) (by omega) (by omega) i;have s0:=hF.cell 0 (by omega);have s1:=hF.cell 1 (by omega);have q0:eC (jQ M (k+1)) 0=.int .i64 (((M (k+1)).getD 0 (0,0)).1:Int):=rfl;have q1:eC (jQ M (k+1)) 1=.int .i64 ((M (k+1)).getD 0 (0,0)).2:=rfl;rw[q0]at s0;rw[q1]at s1;have lf:=hF.lt;rw[Y];rw[e0,e1,e2,a3]at ha;generalize (M (k+1)).getD 0 (0,0)=y at *;generalize vb.f.k (k+1)-1=ff at *;generalize vb.f.b (k+1)=g at *;have HA:=az ha;clear ha e0 e1 e2 W J a0 a1 i Y Z hF a3 q0 q1;go_in;go_wp2_with fail
 refine(HA _ (KS.kept (au (ah _ _ _) _))).mono ?_;rintro e w1 ⟨rfl,o⟩;have G:=az (an (au (ah w _ none) _) o);obtain⟨r0,r1,t0,t1,lx⟩:=a2 w1 o;have p0:=(bh G (a:=⟨g,0,none⟩) lf).1.trans s0;have p1:=(bh G (a:=⟨g,1,none⟩) lf).1.trans s1;have a6:=dm lf G.size;clear o s0 s1;go_wp2_with fail
 go_region
 all_goals
  go_wp2_with fail
  refine da (v:=.tuple #[.int .i64 ff,vA y,.bool true]) (by simp[results,results162,go_sem,oS,lx,r0,r1]) rfl ⟨?_,rfl⟩;repeat (first|exact G|refine bq ?_|refine au ?_ _|refine bp ?_ (ab (by simp)) _)
