import Derived.Test.YtnjiinbhbjpfkaaGreatDoorTI
import Derived.Test.YtnjiinbhbjpfkaaGreatDoorTM
set_option maxRecDepth 100000
set_option maxHeartbeats 0
set_option linter.all false
namespace Go.Proofs.YtnjiinbhbjpfkaaGreatDoor
open Go.RowKit Go.Proofs.Tryz
section
variable {ad:Option Addr}{cap cb e sb:Nat}{l:List B.V}{w:aa}
def gM{b o:Nat}{v:Value}(h:w.cell? (ay b o)=some v):b<w.heap.size:=by
 rcases Nat.lt_or_ge b w.heap.size with e|e
 .exact e
 have:=Array.getElem?_eq_none e;simp[World.cell?,this]at h
def xE(w0 w:aa)(cb rd sb n:Nat)(ad:Option Addr)(c:B.Cy)(l:List B.V):Prop:=
 dM (oT cb rd ad) w0 w/\∃ad' cap',xG ad ad' w0.heap.size/\mV w cb rd sb n ad' cap' ⟨(B.ib c.m c.st l).1,(B.ib c.m c.st l).2,c.nx⟩
def F6{n:Nat}{c:B.Cy}(h:mV w cb e sb n ad cap c):xE w w cb e sb n ad c []:=⟨dw _ _,ad,cap,xG.refl _ _,h⟩
theorem xE.kept{w0 w w':aa}{cb o sb n:Nat}{ad:Option Addr}{c:B.Cy}{l:List B.V}(h:xE w0 w cb o sb n ad c l)(u:w.grownBy w' none):xE w0 w' cb o sb n ad c l:=by
 obtain⟨H,i,e,G,y⟩:=h;exact⟨H.iW u,i,e,G,y.kept u⟩
def B6{n:Nat}{c:B.Cy}(hn:n<=200)(i:c.st.length+B.mU c.m n<=n)(e:∀v,v∈l->v.1≠0->v.1<=n):(B.ib c.m c.st l).2.length<=200:=by
 have:=B.nQ (n:=n) l c.m c.st e;omega
def xP{w0:aa}{y n:Nat}{c:B.Cy}(v:B.V)(h:xE w0 w cb y sb n ad c l)(hn:n<=200)(hs:c.st.length+B.mU c.m n<=n)(W:∀v,v∈l->v.1≠0->v.1<=n)(hv:v.1≠0->v.1<=n): eL 188 #[P0 cb,vA v] w λw'=>xE w0 w' cb y sb n ad c (l++[v]):=by
 obtain⟨H,u,i,J,h3⟩:=h;refine du (sj cb y sb n u i _ v w h3 hv hn (B6 hn hs W)) ?_;rintro w' ⟨G,o,h4,h5,Z⟩;refine⟨rfl,H.trans Z (λk Y W=>(J.J1 Y).resolve_right ag),G,o,J.trans h4 H.size,?_⟩;rw[B.qs];exact h5
def Kx(Q:Nat->Prop)(w:aa)(eb nr:Nat)(R:Nat->B.V):Prop:=
 ∀(w1:aa) (cb rd sb n:Nat) (ad:Option Addr) (cap:Nat) (c:B.Cy),(∀k,Q k->w1.heap[k]? = w.heap[k]?)->mV w1 cb rd sb n ad cap c->(∀k,Q k->¬oT cb rd ad k)->n<=200->c.st.length+B.mU c.m n<=n->(∀i,i<nr->(R i).1≠0->(R i).1<=n) ->
  Calls prog 59 #[P0 eb,.func (.func 188) #[P0 cb] #[]] w1 λe w2=>e=.returned (.tuple #[])/\xE w1 w2 cb rd sb n ad c (B.jm R nr)
theorem Kx.block{Q:Nat->Prop}{w':aa}{eb nr:Nat}{R:Nat->B.V}(h:Kx Q w eb nr R)(i:∀k,Q k->w'.heap[k]? = w.heap[k]?):Kx Q w' eb nr R:=
 λw1 y u sb n ad cap c o=>h w1 y u sb n ad cap c (λk e=>(o k e).trans (i k e))
def Tryz.ES:(prog.info? 4).map (λi=>(i.zero,i.size,i.bytes))=some (some (.bool false),1,1):=by kernel_rfl
theorem u9(Q:Nat->Prop)(eb sb pb n nr:Nat)(R:Nat->B.V)(w:aa)(q0:w.cell? (ay sb 0)=some (dA pb n n))(q1:w.cell? (ay sb 1)=some (.func (.func 59) #[P0 eb] #[]))(hV:Kx Q w eb nr R)(hQ:∀k,Q k->k<w.heap.size)(hn:n<=200)(hR:∀i,i<nr->(R i).1≠0->(R i).1<=n): Calls prog 135 #[P0 sb] w λe w'=>∃cb rd ad cap,e=.returned (P0 cb)/\Below w.heap.size w w'/\(∀k,oT cb rd ad k->w.heap.size<=k)/\mV w' cb rd sb n ad cap (B.begun R nr):=by
 have ls:=gM q0;have aA:=bj hV;have HQ:=bj hQ;have HR:=bj hR;obtain⟨i0,hi,aB,a8,a6⟩:=info_parts Tryz.ES;go_in;go_wp2_with (at_make;go_loud (refine wpList_make_full _ rfl _ _ 231 rfl w.heap.size 4 i0 _ 1 Tryz.underlying231 hi aB a8 _ _ _ _ n rfl rfl rfl rfl eR pY eB ?_))
 intro J H y;have a2:Full J w.heap.size 4 n n (λj=>.bool ((λ_=>false:Nat->Bool) (j+1))):=by
  rcases H.2 with⟨h,_⟩|⟨g',aC,a5,G,h2,h3,h4,h5,h6,h7⟩
  .cases h
  injection G with G _ hc;injection G with G;injection G with G _ _;have a9:g'=w.heap.size:=gG G.symm
  subst a9 hc;refine⟨a5,h3,ag,λj hj=>?_⟩;have e1:=congrArg (λl=>l[j]?) h7;rw[toList_madeCells_one]at e1;simp only[dO,List.getElem?_replicate]at e1;rw[mm,mm]at e1;simpa using e1
 have a0:=bj y;have Z:=bj a2;have aF:=dm ls y.size;have s1:=(bd y (a:=ay sb 1) ls).1.trans q1;go_wp2_with fail
 have aD:=Z.lt;have a3:mV (J.alloc (.cells #[P0 sb,dA w.heap.size n n,.slice none 0 0,aj 0] 275)) J.heap.size w.heap.size sb n none 0 ⟨λ_=>false,[],0⟩:=
  ⟨bl _ _,Z.block (av _ _ _ Z.lt),gd.nil _ _⟩
 have a7:=bj a3;have o:Hid (Below w.heap.size w (J.alloc (.cells #[P0 sb,dA w.heap.size n n,.slice none 0 0,aj 0] 275))):=(uZ a0).alloc a0.size _;refine(aA _ J.heap.size w.heap.size sb n none 0 ⟨λ_=>false,[],0⟩ (λk W=>o.block k (HQ k W)) a7 (λk W h=>?_) hn (by grind[B.xz]) HR).mono ?_
 .have:=HQ k W;rcases h with h|h|h
  .omega
  .omega
  cases h
 rintro e w5 ⟨rfl,u,ad,cap,a4,a1⟩;have Y:Hid (Below w.heap.size w w5/\(∀k,oT J.heap.size w.heap.size ad k->w.heap.size<=k)/\mV w5 J.heap.size w.heap.size sb n ad cap (B.begun R nr)):=by
  refine⟨⟨u.1.trans o.os,u.2.1.trans o.tape,u.2.2.1.trans o.output,dU o.size u.size,λk W=>(u.same fH (λh=>?_)).trans (o.block k W)⟩,λk W=>?_,a1⟩
  .rcases h with h|h|h
   .omega
   .omega
   cases h
  rcases W with h|h|h
  .omega
  .omega
  rcases a4 k h with G|G
  .cases G
  simp at G;omega
 go_wp2
 go_ret;exact⟨_,_,ad,cap,rfl,Y.1,Y.2.1,Y.2.2⟩
theorem uV(cb o sb n:Nat)(ad:Option Addr)(cap:Nat)(c:B.Cy)(w:aa)(i:mV w cb o sb n ad cap c): dD 137 #[P0 cb] w (.bool (decide (c.nx=n))) λw'=>w.grownBy w' none:=by
 obtain⟨_,c1,_,u,_,_⟩:=i.c1;have G:(((c.nx:Nat):Int) == (n:Int))=decide (c.nx=n):=by
  by_cases h:c.nx=n
  .simp[h]
  have:¬((c.nx:Int)=n):=by omega
  simp[h,this]
 generalize decide (c.nx=n)=d at *;generalize c.nx=x at *;delta dD;go_in;go_wp2
 go_quiet (fail)
 go_wp2
 go_ret;simp[df,aw]
def mV.step{n:Nat}{c:B.Cy}(h:mV w cb e sb n ad cap c)(o:e≠cb)(u:∀k,(Value.slice ad c.st.length cap).ownBlock=some k->k≠cb):mV (w.setCell (ay cb 3) (aj ((c.nx:Int)+1))) cb e sb n ad cap (B.look c):=by
 refine⟨?_,h.r.off o,h.q.block (λk i=>ab _ _ _ _ (u k i))⟩;simp[World.setCell,dh,h.b,B.look]
theorem jP(on:Nat->Bool)(c:B.Cy)(p:Nat)(h:B.ma on c p=true):on p=true:=B.jP h
end
namespace F
variable {ad:Option Addr}{cb pb sb:Nat}{f:Fb}{on:Nat->Bool}{w:aa}
theorem Eh(on:Nat->Bool)(f:Fb)(M:Nat->List B.V)(i:Nat)(j:Nat): jI (B.free on (i+1)) f M j=eC (eC (eC (jI on f M) (i*3) (dy 0)) (i*3+1) (aj 0)) (i*3+2) (.slice none 0 0) j:=by
 by_cases o:j=i*3+2
 .subst o;rw[gO,uu,B.tO];rfl
 rw[eN _ _ _ _ o];by_cases y:j=i*3+1
 .subst y;rw[gO,A2,B.tO];rfl
 rw[eN _ _ _ _ y];by_cases u:j=i*3
 .subst u;rw[gO,A3,B.tO];rfl
 grind[eN,jI,B.y9]
theorem Cz(cb rd sb pb n:Nat)(ad:Option Addr)(cap:Nat)(c:B.Cy)(on:Nat->Bool)(f:Fb)(M:Nat->List B.V)(w:aa)(o:mV w cb rd sb n ad cap c)(hP:oW w pb n on f M)(h0:w.cell? ⟨sb,0,none⟩=some (.slice (some ⟨pb,0,none⟩) n n))(hx:c.nx<n)(hn:n<=200): Calls prog 190 #[P0 cb] w λe w'=>e=.returned (.tuple #[])/\mV w' cb rd sb n ad cap (B.look c)/\oW w' pb n (B.ma on c) f M/\dM (λk=>k=pb\/k=cb) w w':=by
 have KC:=bj o;have y:=bj hP;obtain⟨c0,c1,_,c3,_,f3⟩:=o.c1;have m0:=o.r.cell c.nx hx;have G:pb≠cb:=by obtain⟨cu,h,_⟩:=hP.p;exact eE h o.b ek
 have a4:pb≠rd:=by obtain⟨cu,h,_⟩:=hP.p;obtain⟨Y,W,_⟩:=o.r;exact eE h W ek
 have a7:(c.nx:Int)<(n:Int):=ag
 have a8:IntKind.i64.wrap ((c.nx:Int)+1)=((c.nx:Int)+1):=by simp[IntKind.wrap,IntKind.bits,IntKind.signed];omega
 have a5:wrap64 ((c.nx:Int)+1)=((c.nx:Int)+1):=dN _ ⟨ag,ag⟩;have hq:∀k,(Value.slice ad c.st.length cap).ownBlock=some k->k≠cb/\k≠pb:=λk u=>by
  obtain⟨cu,h⟩:=o.q.ty k u;refine⟨eE h o.b ek,?_⟩;obtain⟨Y,W,_⟩:=hP.p;grind
 have HQ:=bj hq;have a0:rd≠cb:=by obtain⟨Y,W,_⟩:=o.r;exact eE W o.b ek
 have Z:∀p,1<=p->p<=n->on p=true->f.b p≠cb/\f.b p≠pb:=λp a b d=>by
  obtain⟨cu,h,_⟩:=hP.s p a b d;refine⟨eE h o.b ek,?_⟩;obtain⟨Y,W,_⟩:=hP.p;grind
 have a2:=bj Z
 cases hm:c.m (c.nx+1)
 .obtain⟨p0,z0⟩:=y.out.p.cells (c.nx*3) ag;obtain⟨p1,z1⟩:=y.out.p.cells (c.nx*3+1) ag;obtain⟨p2,z2⟩:=y.out.p.cells (c.nx*3+2) ag;generalize jI on f M (c.nx*3)=y0 at p0;generalize jI on f M (c.nx*3+1)=y1 at p1;generalize jI on f M (c.nx*3+2)=y2 at p2;rw[hm]at m0;have HM:=bj hm;have a6:=bj (bh c0 (bh c1 c3));generalize J:c.nx=x at *;go_in;go_wp2_with fail
  go_quiet (fail)
  go_wp2_with fail
  go_region
  go_wp2_with fail
  go_end0;subst J;have H:B.ma on c=B.free on (c.nx+1):=by unfold B.ma;rw[au (by rw[HM.out];decide)]
  have a1:∀k,k≠pb->((((w.drewN (nq+1)).setCell ⟨pb,c.nx*3,none⟩ (.int .u8 0)).setCell ⟨pb,c.nx*3+1,none⟩ (.int .i64 0)).setCell ⟨pb,c.nx*3+2,none⟩ (.slice none 0 0)).heap[k]? = w.heap[k]?:=λk u=>by
   rw[ab _ _ _ _ u,ab _ _ _ _ u,ab _ _ _ _ u];rfl
  refine⟨rfl,mV.step (KC.out.block (λk u=>a1 k ?_)) a0 (λk u=>(HQ.out k u).1),⟨?_,λp a b d=>?_,λp q a b d e g h=>y.out.i p q a b d e (jP _ _ _ g) (jP _ _ _ h),λp a=>y.out.l p (jP _ _ _ a),λp a=>y.out.k p (jP _ _ _ a)⟩,?_⟩
  .rcases u with h|h|h
   .rw[h];exact λe=>G e.symm
   .rw[h];exact λe=>a4 e.symm
   exact(HQ.out k (eV dF h)).2
  .rw[H];have hP:Full (w.drewN (nq+1)) pb 228 (n*3) (n*3) (jI on f M):=y.out.p;exact((((hP.eC (c.nx*3) (.int .u8 0)).eC (c.nx*3+1) (.int .i64 0)).eC (c.nx*3+2) (.slice none 0 0)).congr (λj _=>(Eh on f M c.nx j).symm)).off G
  .have h:=a2.out p a b (jP _ _ _ d);exact((y.out.s p a b (jP _ _ _ d)).block (a1 _ h.2)).off h.1
  exact bp (bp (bp (bp (uz (dw _ _) _) (af (af rfl)) _) (af (af rfl)) _) (af (af rfl)) _) (af (ah rfl)) _
 rw[hm]at m0;have HM:=bj hm;generalize J:c.nx=x at *;go_in;go_wp2_with fail
 go_quiet (fail)
 go_wp2_with fail
 go_end0;subst J;have H:B.ma on c=on:=by unfold B.ma;rw[bf HM.out]
 rw[H];have o:mV (w.drewN nq) cb rd sb n ad cap c:=KC.out.block (λ_ _=>rfl);have hP:oW (w.drewN nq) pb n on f M:=y.out.block rfl (λ_ _ _ _=>rfl);refine⟨rfl,o.step a0 (λk u=>(HQ.out k u).1),hP.block (ab _ _ _ _ G) (λp a b d=>ab _ _ _ _ (a2.out p a b d).1),bp (uz (dw _ _) _) (af (ah rfl)) _⟩
def Kh(w0 w:aa)(cb rd sb n pb:Nat)(ad:Option Addr)(c:B.Cy)(st:List Nat)(on:Nat->Bool)(f:Fb)(M:Nat->List B.V)(l:List B.V):Prop:=
 dM (oT cb rd ad) w0 w/\oW w pb n on f M/\∃ad' cap',xG ad ad' w0.heap.size/\mV w cb rd sb n ad' cap' ⟨(B.ib c.m st l).1,(B.ib c.m st l).2,c.nx⟩
theorem Kh.kept{w0 w w':aa}{cb u sb n pb:Nat}{ad:Option Addr}{c:B.Cy}{y:List Nat}{on:Nat->Bool}{f:Fb}{M:Nat->List B.V}{l:List B.V}(h:Kh w0 w cb u sb n pb ad c y on f M l)(i:w.grownBy w' none):Kh w0 w' cb u sb n pb ad c y on f M l:=by
 obtain⟨H,J,o,e,W,G⟩:=h;exact⟨H.iW i,J.kept i,o,e,W,G.kept i⟩
theorem tH{y n m:Nat}{cap:Nat}{c:B.Cy}{M:Nat->List B.V}(hP:oW w pb m on f M)(W:mV w cb y sb n ad cap c):¬oT cb y ad pb/\∀p,1<=p->p<=m->on p=true->¬oT cb y ad (f.b p):=by
 have o:∀(k:Nat) (u:Array Value) (T:TypeId),w.heap[k]? = some (.cells u T (0,0))->T≠275/\T≠4/\T≠3->¬oT cb y ad k:=by
  intro k u T J G h;obtain⟨H,T',i,e⟩:=W.ty k h;rw[J]at i;injection i with i;injection i with _ i _
  subst i;rcases e with e|e|e
  .grind
  .grind
  exact G.2.2 e
 refine⟨?_,λp a b d=>?_⟩
 .obtain⟨H,h,_⟩:=hP.p;grind
 obtain⟨H,h,_⟩:=hP.s p a b d;grind
theorem DB{w0:aa}{Y n:Nat}{c:B.Cy}{y:List Nat}{M:Nat->List B.V}{l:List B.V}(v:B.V)(h:Kh w0 w cb Y sb n pb ad c y on f M l)(hn:n<=200)(hs:y.length+B.mU c.m n<=n)(hl:∀v,v∈l->v.1≠0->v.1<=n)(hv:v.1≠0->v.1<=n): eL 188 #[P0 cb,vA v] w λw'=>Kh w0 w' cb Y sb n pb ad c y on f M (l++[v]):=by
 obtain⟨h1,hP,J,i,h2,h3⟩:=h;have u:(B.ib c.m y l).2.length<=200:=by have:=B.nQ (n:=n) l c.m y hl;omega
 have o:=tH hP h3;refine du (sj cb Y sb n J i _ v w h3 hv hn u) ?_;rintro w' ⟨Z,G,h4,h5,W⟩;refine⟨rfl,h1.trans W (λk hk hl=>(h2.J1 hk).resolve_right ag),hP.block (W.same hP.p.lt o.1) (λp a b d=>W.same (hP.s p a b d).lt (o.2 p a b d)),Z,G,h2.trans h4 h1.size,?_⟩;grind[B.qs]
theorem BR(cb rd sb pb n p:Nat)(ad:Option Addr)(cap:Nat)(c:B.Cy)(st:List Nat)(on:Nat->Bool)(f:Fb)(M:Nat->List B.V)(w:aa)(hC:mV w cb rd sb n ad cap c)(hP:oW w pb n on f M)(h0:w.cell? (ay sb 0)=some (dA pb n n))(hsb:¬oT cb rd ad sb)(hst:c.st=st++[p])(hp:1<=p/\p<=n/\on p=true)(hv:∀v,v∈M p->v.1≠0->v.1<=n)(hs:st.length+B.mU c.m n<=n)(hn:n<=200): eL 189 #[P0 cb] w λw'=>oW w' pb n on f M/\dM (oT cb rd ad) w w'/\∃ad' cap',xG ad ad' w.heap.size/\mV w' cb rd sb n ad' cap' (B.BU M c st p):=by
 obtain⟨k,rfl⟩:∃k,p=k+1:=⟨p-1,ag⟩;have hkd:=hp.2.2
 have hC2:w.heap[cb]? = some (.cells #[P0 sb,dA rd n n,.slice ad (st.length+1) cap,aj c.nx] 275 (0,0)):=by have:=hC.b;rw[hst,cw,eI]at this;exact this
 have hq:gd w 3 (.slice ad ((oi st).length+1) cap) (oi st++[aj k]):=by
  have:=hC.q;rw[hst,AM,cw,eI,<-wN st]at this;exact this
 obtain⟨g,off,rfl,lg,hcap,hlast,hq2⟩:=hq.pop;rw[wN]at hcap hlast hq2;obtain⟨e0,_,e2,_⟩:dS w cb 0=some (P0 sb)/\True/\dS w cb 2=some (.slice (some (ay g off)) (st.length+1) cap)/\True:=by simp[World.cell?,hC2]
 have z2:w.frozen? (ay cb 2)=false:=qE hC2
 have p2:=hP.p.cell (k*3+2) ag;rw[uu,hkd]at p2;have hsl:qo true (f.b (k+1)) (M (k+1)).length=dA (f.b (k+1)) (M (k+1)).length (M (k+1)).length:=rfl;rw[hsl]at p2;have hne:=tH hP hC;have npc:¬pb=cb:=λe=>hne.1 (af e);have ngc:g≠cb:=by
  obtain⟨cu,h⟩:=hq.ty g rfl;exact eE h hC2 ek
 have ncg:¬cb=g:=λe=>ngc e.symm;have hl8:=hP.l _ hkd;have hsb2:st.length<=200:=ag
 have hcl:st.length<=cap:=ag
 have KT:Hid (Kh w (w.setCell (ay cb 2) (.slice (some (ay g off)) st.length cap)) cb rd sb n pb (some (ay g off)) c st on f M []):=by
  refine⟨bp (dw _ _) (af (af rfl)) _,hP.block (ab _ _ _ _ (λe=>npc e)) (λp a b d=>ab _ _ _ _ (λe=>hne.2 p a b d (af e))),some (ay g off),cap,xG.refl _ _,⟨?_,hC.r.off (by obtain⟨cu',h',_⟩:=hC.r;grind),hq2.block (λx hx=>ab _ _ _ _ ?_)⟩⟩
  .simp[World.setCell,dh,hC2,B.ib]
  have e:g=x:=by injection hx
  subst e;exact ngc
 have HV:=bj hv;have HST:=bj hs;have HPL:=bj hp;have hki:(k:Int)<n:=ag
 have hli:(st.length:Int)<st.length+1:=ag
 have hsub:(st.length:Int)+1-1=(st.length:Int):=ag
 have hwr:IntKind.i64.wrap (st.length:Int)=st.length:=by simp[IntKind.wrap,IntKind.bits,IntKind.signed];omega
 have hwr2:wrap64 (st.length:Int)=st.length:=dN _ ⟨ag,ag⟩;generalize hln:st.length=ln at *;change Hid _ at hln;clear hC hP hC2 hq hq2 hst hne hs hv hsl hp hsb;delta eL;go_in;go_wp2_with fail
 generalize hW:w.setCell (ay cb 2) (.slice (some (ay g off)) ln cap)=w1 at *;clear hW e0 e2 z2 h0 p2 hlast;go_loopw [40] (λi wr=>∃j:Nat,j<=(M (k+1)).length/\i=aj j/\Hid (Kh w wr cb rd sb n pb (some (ay g off)) c st on f M ((M (k+1)).take j))) (λi _=>(M (k+1)).length-(intOf i).toNat)
 case atStart=>grind
 case round=>
  obtain⟨j,hj,rfl,hX⟩:=hrel;by_cases hlt:j<(M (k+1)).length
  .have hF:=hX.2.1.s (k+1) HPL.1 HPL.2.1 HPL.2.2;have r0:=hF.cell (j*2) ag;have r1:=hF.cell (j*2+1) ag;rw[ph]at r0;rw[pf]at r1;clear hF;have hmem:lM M (k+1) j∈M (k+1):=by
    show(M (k+1)).getD j (0,0)∈M (k+1);rw[cr,bz hlt];exact List.getElem_mem hlt
   have htk:(M (k+1)).take (j+1)=(M (k+1)).take j++[lM M (k+1) j]:=by
    rw[List.take_succ_eq_append_getElem hlt];congr 1
    show[_]=[(M (k+1)).getD j (0,0)];rw[cr,bz hlt];rfl
   generalize hvv:lM M (k+1) j=vv at *;change Hid _ at htk hmem;clear hvv;have hji:(j:Int)<((M (k+1)).length:Int):=ag
   generalize hll:(M (k+1)).length=ml at *;clear hll;go_wp2_with fail
   refine du (DB vv (hX.kept (ak _ _ _)) hn (eV hln.out HST) (λv hv h0=>HV v (List.mem_of_mem_take hv) h0) (HV vv hmem)) λw5 hV5=>?_;rw[<-htk.out]at hV5;change Hid _ at hV5;clear r0 r1;go_wp2
   go_roundw
   case rel=>exact⟨j+1,ag,iA,hV5⟩
   case measure=>simp[intOf];omega
  have hjl:j=(M (k+1)).length:=ag
  have hX2:=hX.out;rw[hjl,List.take_length]at hX2;change Hid _ at hX2;go_wp2
  go_end0;obtain⟨x1,x2,ad',cap',x3,x4⟩:=hX2;exact⟨rfl,x2,x1,ad',cap',x3,x4⟩
theorem vJ(cb o sb pb n:Nat)(ad:Option Addr)(cap:Nat)(c:B.Cy)(on:Nat->Bool)(f:Fb)(M:Nat->List B.V)(T:Nat->Prop)(w:aa)(H:mV w cb o sb n ad cap c)(hP:oW w pb n on f M)(G:w.cell? ⟨sb,0,none⟩=some (.slice (some ⟨pb,0,none⟩) n n))(u:¬oT cb o ad sb)(y:B.kQ on n M c T)(hs:c.st.length+B.mU c.m n<=n)(hx:c.nx<n)(hn:n<=200): Calls prog 136 #[P0 cb] w λe w'=>e=.returned (.tuple #[])/\oW w' pb n (B.unit M on c).1 f M/\dM (λk=>k=pb\/oT cb o ad k) w w'/\∃a1 Y,xG ad a1 w.heap.size/\mV w' cb o sb n a1 Y (B.unit M on c).2:=by
 obtain⟨_,_,e2,_,_,_⟩:=H.c1;have lc:=ch H.b;rcases List.eq_nil_or_concat c.st with i|⟨st,p,i⟩
 .have HL:=bj (Cz cb o sb pb n ad cap c on f M w H hP G hx hn);rw[B.pD i];rw[i]at e2;go_in;go_wp2_with fail
  refine HL.out.mono ?_;rintro e w1 ⟨rfl,h1,W,Z⟩;have J:=bj (bh W (bh (Z.mono (S1:=λk=>k=pb\/oT cb o ad k) (λk hk _=>hk.imp id (λh=>af h))) h1));go_wp2_with fail
  go_end0;exact⟨rfl,J.out.1,J.out.2.1,ad,cap,xG.refl _ _,J.out.2.2⟩
 rw[List.concat_eq_append]at i;have a0:=y.hc p (y.hd p eR)
 have HL:=bj (BR cb o sb pb n p ad cap c st on f M w H hP G u i (y.ha p a0) (λv hv G=>(y.ha _ ((y.hb p a0 v hv).2 G)).2.1) eR hn);rw[B.pC i];rw[i,cw,eI]at e2;have a4:(0:Int)<(st.length:Int)+1:=ag
 go_in;go_wp2_with fail
 refine HL.out.mono ?_;rintro e w1 ⟨rfl,h1,W,Z⟩;have J:=bj (bh h1 (bh (W.mono (S1:=λk=>k=pb\/oT cb o ad k) (λk hk _=>ah hk)) Z));go_wp2_with fail
 go_end0;exact⟨rfl,J.out⟩
end F
section
def rE(a:Nat):wrap64 (wrap64 (a:Int)+1)=wrap64 ((a+1:Nat):Int):=by unfold wrap64;omega
def Iw(w:aa)(cb:Nat):Nat:=match w.cell? ⟨cb,2,none⟩ with|some (.slice _ n _)=>n|_=>0
def LG(w:aa)(cb:Nat):Nat:=match w.cell? ⟨cb,3,none⟩ with|some (.int _ n)=>n.toNat|_=>0
def xw(w:aa)(rd:Nat):Nat->Nat
 | 0=>0
 | k+1=>xw w rd k+(match w.cell? ⟨rd,k,none⟩ with|some (.bool true)=>0|_=>1)
def todo(w:aa)(cb rd n:Nat):Nat:=Iw w cb+xw w rd n+(n-LG w cb)
theorem wj{w:aa}{e n:Nat}{m:Nat->Bool}(h:Full w e 4 n n (λj=>.bool (m (j+1)))):∀k,k<=n->xw w e k=B.mU m k
 | 0,_=>rfl
 | k+1,hk=>by
  rw[xw,B.mU,wj h k ag,h.cell k ag]
  cases m (k+1)<;>rfl
def AJ{w:aa}{cb e sb n:Nat}{ad:Option Addr}{cap:Nat}{c:B.Cy}(h:mV w cb e sb n ad cap c):todo w cb e n=c.st.length+B.mU c.m n+(n-c.nx):=by
 obtain⟨_,_,o,i,_⟩:=h.c1;unfold todo Iw LG;rw[wj h.r n (bq _),o,i];simp
def BK{on:Nat->Bool}{n:Nat}{M:Nat->List B.V}{c:B.Cy}{T:Nat->Prop}(h:B.kQ on n M c T)(hx:c.nx<n): (B.unit M on c).2.st.length+B.mU (B.unit M on c).2.m n+(n-(B.unit M on c).2.nx)+1=c.st.length+B.mU c.m n+(n-c.nx)/\(B.unit M on c).2.st.length+B.mU (B.unit M on c).2.m n<=c.st.length+B.mU c.m n:=by
 rcases List.eq_nil_or_concat c.st with e|⟨i,p,e⟩
 .rw[B.pD e];show c.st.length+B.mU c.m n+(n-(c.nx+1))+1=_/\c.st.length+B.mU c.m n<=_;omega
 rw[List.concat_eq_append]at e;have:=B.nQ (n:=n) (M p) c.m i (λv u y=>(h.ha _ ((h.hb p (h.hc p (h.hd p (by rw[e];simp))) v u).2 y)).2.1);rw[B.pC e];show(B.ib c.m i (M p)).2.length+B.mU (B.ib c.m i (M p)).1 n+(n-c.nx)+1=_/\(B.ib c.m i (M p)).2.length+B.mU (B.ib c.m i (M p)).1 n<=_;rw[e,cw,eI];omega
def C0{kd:B.Kd}{nr n:Nat}{s:B.St}(h:B.jO kd nr n s):(B.begun s.2.1 nr).st.length+B.mU (B.begun s.2.1 nr).m n<=n:=by
 have:=B.nQ (n:=n) (B.jm s.2.1 nr) (λ_=>false) [] (λv e o=>by
  obtain⟨i,hi,rfl⟩:=B.mH.1 e;exact(B.mI h (B.kx i hi o)).2.2)
 rw[B.xz]at this;show(B.ib (λ_=>false) [] (B.jm s.2.1 nr)).2.length+B.mU (B.ib (λ_=>false) [] (B.jm s.2.1 nr)).1 n<=n;simp at this;omega
end
namespace F
variable {ad:Option Addr}{cap eb pb sb:Nat}{vb:Vs}{w:aa}
structure C8(w:aa) (Q:Nat->Prop) (eb sb pb n nr:Nat) (kd:B.Kd) (vb:Vs) (s:B.St):Prop where
 hv:Kx Q w eb nr s.2.1
 hq:∀k,Q k->k<w.heap.size/\k≠sb
 hs:kD w sb pb eb n kd vb s.2.2
 hh:B.jO kd nr n s
 n1:1<=n
 n2:n<=200
theorem C8.kept{w w':aa}{Q:Nat->Prop}{eb sb pb n nr:Nat}{kd:B.Kd}{vb:Vs}{s:B.St}(h:C8 w Q eb sb pb n nr kd vb s)(o:w.grownBy w' none):C8 w' Q eb sb pb n nr kd vb s:=
 ⟨h.hv.block (λk i=>o.block k (h.hq k i).1 eR),λk i=>⟨dm (h.hq k i).1 o.size,(h.hq k i).2⟩,h.hs.kept o,h.hh,h.n1,h.n2⟩
def C8.roots{Q:Nat->Prop}{n nr:Nat}{kd:B.Kd}{s:B.St}(h:C8 w Q eb sb pb n nr kd vb s):∀i,i<nr->(s.2.1 i).1≠0->(s.2.1 i).1<=n:=λi hi e=>(B.mI h.hh (B.kx i hi e)).2.2
theorem kD.cells{n:Nat}{kd:B.Kd}{M:Nat->List B.V}(h:kD w sb pb eb n kd vb M): w.cell? (ay sb 1)=some (.func (.func 59) #[P0 eb] #[])/\w.cell? (ay sb 2)=some (zE kd vb)/\w.cell? (ay sb 3)=some (aj (wrap64 (kd.un:Int)))/\w.cell? (ay sb 4)=some (aj (wrap64 (kd.fo:Int)))/\w.cell? (ay sb 5)=some (aj (wrap64 (kd.cc:Int)))/\w.frozen? (ay sb 2)=false/\w.frozen? (ay sb 3)=false/\w.frozen? (ay sb 4)=false/\w.frozen? (ay sb 5)=false:=by
 simp[World.cell?,World.frozen?,h.b]
def NY(w wr:aa)(cb rd sb pb n nr:Nat)(kd:B.Kd)(vb:Vs)(s:B.St)(o:Obj):Prop:=
 ∃c on ad cap,mV wr cb rd sb n ad cap c/\oW wr pb n on vb.f s.2.2/\B.kQ on n s.2.2 c (B.Reach nr s)/\c.st.length+B.mU c.m n<=n/\(∀p,on p=true->kd.on p=true)/\(∀k,oT cb rd ad k->w.heap.size<=k)/\dM (λk=>k=sb\/k=pb) w wr/\wr.heap[sb]? = some o
theorem CN(Q:Nat->Prop)(eb sb pb n nr:Nat)(kd:B.Kd)(vb:Vs)(s:B.St)(w:aa)(hR:C8 w Q eb sb pb n nr kd vb s): eL 219 #[P0 sb] w λw'=>∃on:Nat->Bool,(∀p,1<=p->p<=n->(on p=true↔B.Reach nr s p))/\(∀p,on p=true->kd.on p=true)/\(∀p,B.Reach nr s p->on p=true)/\dM (λk=>k=sb\/k=pb) w w'/\kD w' sb pb eb n ⟨on,none,kd.un,kd.fo+1,kd.cc⟩ vb s.2.2:=by
 have KR:=bj hR;obtain⟨c1,c2,c3,c4,c5,z2,z3,z4,z5⟩:=hR.hs.cells;have ls:=ch hR.hs.b;have hn:=hR.n2;have hn1:=hR.n1;have a5:sb≠pb:=by obtain⟨cu,h,_⟩:=hR.hs.p.p;exact eE hR.hs.b h ek
 have HB:=bj hR.hs.b;generalize hy:wrap64 (kd.fo:Int)=y at *;generalize aH:zE kd vb=cv at *;have HY:=bj hy;delta eL;go_in;go_wp2_with fail
 generalize hW:(w.setCell (ay sb 4) (aj (wrap64 (y+1)))).setCell (ay sb 2) (.pointer none)=w2;have aM:w2.heap.size=w.heap.size:=by rw[<-hW];simp[World.setCell]
 have Y:∀k,k≠sb->w2.heap[k]? = w.heap[k]?:=λk G=>by grind[Below.heap_setCell]
 have Z:w2.heap[sb]? = some (.cells #[dA pb n n,.func (.func 59) #[P0 eb] #[],.pointer none,aj (wrap64 (kd.un:Int)),aj (wrap64 (y+1)),aj (wrap64 (kd.cc:Int))] 207 (0,0)):=by
  rw[<-hW];have:=HB.out;simp[World.setCell,dh,this]
 have a8:Hid (dM (λk=>k=sb\/k=pb) w w2):=by
  show dM _ _ _;rw[<-hW];exact bp (bp (dw _ _) (af (af rfl)) _) (af (af rfl)) _
 have d0:dS w2 sb 0=some (dA pb n n):=fy Z;have d1:dS w2 sb 1=some (.func (.func 59) #[P0 eb] #[]):=fy Z;generalize ho:(.cells #[dA pb n n,.func (.func 59) #[P0 eb] #[],.pointer none,aj (wrap64 (kd.un:Int)),aj (wrap64 (y+1)),aj (wrap64 (kd.cc:Int))] 207 (0,0):Obj)=o at *;have HO:=bj ho;have aA:=bj Z;have a0:Hid (oW w2 pb n kd.on vb.f s.2.2):=KR.hs.p.block (Y pb (λe=>a5 e.symm)) (λp a b d=>Y _ (by
  obtain⟨cu,h,_⟩:=KR.hs.p.s p a b d;exact eE h HB ek))
 have a7:=bj (KR.hv.block (λk G=>Y k (KR.hq k G).2));clear hW Y ho Z c1 c2 c3 c4 c5 z2 z3 z4 z5;refine(u9 Q eb sb pb n nr s.2.1 w2 d0 d1 a7 (λk G=>by have:=(KR.hq k G).1;omega) hn KR.roots).mono ?_;rintro e w3 ⟨cb,rd,ad,cap,rfl,u,a3,aC⟩;have aF:Hid (NY w w3 cb rd sb pb n nr kd vb s o):=by
  refine⟨_,kd.on,ad,cap,aC,a0.block (u.block pb a0.p.lt) (λp a b d=>u.block _ (a0.s p a b d).lt),B.ue KR.hh,C0 KR.hh,λ_ h=>h,λk G=>by grind,?_,(u.block sb ag).trans aA⟩;exact a8.trans (S1:=λ_=>False) ⟨u.os,u.tape,u.output,u.size,λk G _=>u.block k G⟩ (λ_ h _=>h.elim)
 go_wp2
 go_loopw [] (λwr=>Hid (NY w wr cb rd sb pb n nr kd vb s o)) (λwr=>todo wr cb rd n)
 case atStart=>exact aF
 case round=>
  obtain⟨c,on,a9,a1,h1,h2,W,h4,h5,h6,h7,h8⟩:=hrel;have HT:=bj (AJ h1);have H:=bj (bh h1 (bh h2 (bh W (bh h4 (bh h5 (bh h6 (bh h7 h8)))))));have HE:=bj (uV cb rd sb n a9 a1 c wr h1);by_cases hx:c.nx=n
  .have hd:decide (c.nx=n)=true:=gG hx;rw[hd]at HE;have aB:=bj hx;go_wp2_with fail
   refine du HE λw4 J=>?_;have i:=bj J;go_wp2
   go_end0;obtain⟨h1,h2,W,h4,h5,h6,h7,h8⟩:=H;refine⟨rfl,on,λp a b=>?_,h5,λp hp=>(W.ha p hp).2.2,h7.iW i,⟨?_,h2.kept i,λc hc=>by cases hc⟩⟩
   .rw[<-W.last (W.hg ag) p];exact⟨W.hi p a ag,λhm=>(W.ha p (W.hc p hm)).2.2⟩
   have:=da i h8 im;rw[this,<-HO.out,<-HY.out,rE];rfl
  have hd:decide (c.nx=n)=false:=gG hx;rw[hd]at HE;have a6:c.nx<n:=gp H.2.2.1.hh
  have a2:=bj a6;go_wp2_with fail
  refine du HE λw4 J=>?_;have i:=bj J;go_wp2_with fail
  have aD:dS w4 sb 0=some (dA pb n n):=by
   have:=da i H.2.2.2.2.2.2.2 im;rw[<-HO.out]at this;simp[World.cell?,this]
  refine(vJ cb rd sb pb n a9 a1 c on vb.f s.2.2 (B.Reach nr s) w4 (H.1.kept i) (H.2.1.kept i) aD (λh=>?_) H.2.2.1 H.2.2.2.1 a2 hn).mono ?_
  .have:=H.2.2.2.2.2.1 sb h;omega
  rintro e w5 ⟨rfl,u1,u2,aL,a4,u3,u4⟩;have aK:=BK H.2.2.1 a2;have aJ:=AJ u4;have aO:=i.size;have aN:=H.2.2.2.2.2.2.1.size;have aI:Hid (NY w w5 cb rd sb pb n nr kd vb s o):=by
   obtain⟨h1,h2,W,h4,h5,h6,h7,h8⟩:=H;refine⟨_,_,aL,a4,u4,u1,B.vM W a2,ag,λp hp=>h5 p (B.ow hp),λk G=>?_,(h7.iW i).trans u2 (λk G hl=>?_),(u2.same ag (λh=>?_)).trans (da i h8 im)⟩
   .rcases u3.J1 G with h|h
    .exact h6 k h
    omega
   .rcases G with h|h
    .exact ah h
    exact dp (h6 k h) ag
   rcases h with h|h
   .exact a5 h
   exact dp (h6 sb h) ag
  have aG:Hid (todo w5 cb rd n<todo wr cb rd n):=by show _<_;have:=HT.out;omega
  go_wp2
  go_roundw
  case rel=>exact aI
  case measure=>exact aG
theorem n9{kd:B.Kd}{c:B.Cy}(h:kd.cy=some c):zE kd vb=P0 vb.cb:=by grind[zE]
theorem oa{kd:B.Kd}(h:kd.cy=none):zE kd vb=.pointer none:=by grind[zE]
def rA(sb pb n:Nat)(kd:B.Kd)(vb:Vs)(k:Nat):Prop:=k=sb\/k=pb\/Own n kd vb k
def pW(n:Nat)(kd:B.Kd)(vb:Vs)(kd':B.Kd)(vb':Vs)(sz:Nat):Prop:=∀k,Own n kd' vb' k->Own n kd vb k\/sz<=k
theorem pW.refl(n:Nat)(kd:B.Kd)(vb:Vs)(sz:Nat):pW n kd vb kd vb sz:=λ_ h=>af h
def MT(w wr:aa)(eb sb pb n:Nat)(kd:B.Kd)(vb:Vs)(s:B.St)(nr:Nat)(kd':B.Kd):Prop:=
 ∃vb',kD wr sb pb eb n kd' vb' s.2.2/\B.jO kd' nr n s/\dM (rA sb pb n kd vb) w wr/\pW n kd vb kd' vb' w.heap.size/\vb'.f=vb.f
theorem kD.kI{n:Nat}{kd:B.Kd}{M:Nat->List B.V}(h:kD w sb pb eb n kd vb M):sb≠pb/\∀k,Own n kd vb k->k≠sb/\k≠pb:=by
 obtain⟨G,i,_⟩:=id h.p.p;refine⟨eE h.b i ek,λk u=>?_⟩;obtain⟨y,T,o,e⟩:=h.ty k u;refine⟨eE o h.b ?_,eE o i ?_⟩
 .grind
 grind
theorem x8{n:Nat}{kd:B.Kd}{M:Nat->List B.V}{c:B.Cy}{x:Value}{cc:Nat}(y:w.heap[sb]? = some (.cells #[dA pb n n,.func (.func 59) #[P0 eb] #[],x,aj (wrap64 ((kd.un+1:Nat):Int)),aj (wrap64 (kd.fo:Int)),aj (wrap64 (cc:Int))] 207 (0,0)))(hx:((B.unit M kd.on c).2.nx=n/\x=.pointer none/\cc=kd.cc+1)\/((B.unit M kd.on c).2.nx≠n/\x=P0 vb.cb/\cc=kd.cc))(u:oW w pb n (B.unit M kd.on c).1 vb.f M)(G:mV w vb.cb vb.rd sb n ad cap (B.unit M kd.on c).2): kD w sb pb eb n (B.me M n kd c) { vb with ad:=ad,cap:=cap } M:=by
 rcases hx with⟨e,rfl,rfl⟩|⟨e,rfl,rfl⟩
 .have o:B.me M n kd c=⟨(B.unit M kd.on c).1,none,kd.un+1,kd.fo,kd.cc+1⟩:=by unfold B.me;rw[bf e]
  rw[o];exact⟨y,u,λc i=>by cases i⟩
 have o:B.me M n kd c=⟨(B.unit M kd.on c).1,some (B.unit M kd.on c).2,kd.un+1,kd.fo,kd.cc⟩:=by unfold B.me;rw[au e]
 rw[o];refine⟨y,u,λH i=>?_⟩;grind
theorem Ei{n k:Nat}{kd:B.Kd}{M:Nat->List B.V}{c:B.Cy}{sz:Nat}(G:kd.cy=some c)(y:xG vb.ad ad sz)(i:Own n (B.me M n kd c) { vb with ad:=ad,cap:=cap } k):Own n kd vb k\/sz<=k:=by
 have o:∀p,(B.me M n kd c).on p=true->kd.on p=true:=λp u=>by
  have e:(B.me M n kd c).on=(B.unit M kd.on c).1:=by unfold B.me;split<;>rfl
  rw[e]at u;exact B.ow u
 rcases i with⟨p,a,b,d,e⟩|⟨_,i⟩
 .exact af (af ⟨p,a,b,o p d,e⟩)
 exact(y.J1 i).imp (λh=>ah ⟨eR,h⟩) id
theorem Dk(Q:Nat->Prop)(eb sb pb n nr u:Nat)(kd:B.Kd)(vb:Vs)(s:B.St)(w:aa)(hR:C8 w Q eb sb pb n nr kd vb s)(hu:u<=50): Calls prog 69 #[P0 sb,.int .i64 u] w λe w'=>e=.returned (.tuple #[])/\MT w w' eb sb pb n kd vb s nr (B.work s.2.1 nr s.2.2 n u kd):=by
 have KR:=bj hR;obtain⟨c1,c2,_⟩:=hR.hs.cells;have c0:=hR.hs.c0;have ls:=ch hR.hs.b;have hn:=hR.n2;clear hR;rcases hcy:kd.cy with _|aY
 all_goals
  first
  |rw[oa hcy]at c2
   have a6:=bj hcy;clear hcy;go_in;go_wp2_with fail
   refine(u9 Q eb sb pb n nr s.2.1 w c0 c1 KR.hv (λk G=>(KR.hq k G).1) hn KR.roots).mono ?_;rintro e w1 ⟨cb,rd,ad,cap,rfl,J,aB,aH⟩;have a2:=(J.block sb ls).trans KR.hs.b;have x2:w1.cell? ⟨sb,2,none⟩=some (.pointer none):=by rw[oa a6]at a2;simp[World.cell?,a2]
   have y2:w1.frozen? ⟨sb,2,none⟩=false:=qE a2
   have aS:Hid (MT w (w1.setCell ⟨sb,2,none⟩ (P0 cb)) eb sb pb n kd vb s nr { kd with cy:=some (B.begun s.2.1 nr) }):=by
    have hS:=KR.hs;have aI:=hS.kI;have aW:∀k,oT cb rd ad k->k≠sb:=λk G=>by grind
    refine⟨{ vb with cb:=cb,rd:=rd,ad:=ad,cap:=cap },⟨?_,?_,?_⟩,B.uI KR.hh KR.n1,?_,?_,rfl⟩
    .simp[World.setCell,dh,a2,zE]
    .exact(hS.p.block (J.block pb hS.p.p.lt) (λp a b d=>J.block _ (hS.p.s p a b d).lt)).block (ab _ _ _ _ (λe=>aI.1 e.symm)) (λp a b d=>ab _ _ _ _ (aI.2 _ (af ⟨p,a,b,d,rfl⟩)).1)
    .grind[B.begun,Below.heap_setCell,mV.block]
    .exact bp ⟨J.os,J.tape,J.output,J.size,λk G _=>J.block k G⟩ (af (af rfl)) _
    intro k G;rcases G with⟨p,a,b,d,e⟩|⟨_,G⟩
    .exact af (af ⟨p,a,b,d,e⟩)
    exact ah (aB k G)
   have HU:Hid (B.gw s.2.2 n u { kd with cy:=some (B.begun s.2.1 nr) }=B.work s.2.1 nr s.2.2 n u kd):=by
    show _=_;unfold B.work;rw[a6.out]
   clear J aB aH a2;clear c0 c1 c2;go_wp2_with fail
  |rw[n9 hcy]at c2
   have a6:=bj hcy;clear hcy;have aS:Hid (MT w w eb sb pb n kd vb s nr kd):=⟨vb,KR.hs,KR.hh,dw _ _,pW.refl _ _ _ _,rfl⟩;have HU:Hid (B.gw s.2.2 n u kd=B.work s.2.1 nr s.2.2 n u kd):=by
    show _=_;unfold B.work;rw[a6.out]
   go_in;go_wp2_with fail
   clear c0 c1 c2
 all_goals
  go_loopw [4] (λi wr=>∃j:Nat,j<=u/\i=.int .i64 j/\Hid (∃kd',MT w wr eb sb pb n kd vb s nr kd'/\B.gw s.2.2 n (u-j) kd'=B.work s.2.1 nr s.2.2 n u kd)) (λi _=>u-(intOf i).toNat)
  case atStart=>exact⟨0,ag,rfl,_,aS,HU⟩
  case round=>
   obtain⟨j,hj,rfl,hX⟩:=hrel;obtain⟨kd',⟨o,hS,hH,hO,hG,a3⟩,hU⟩:=hX;obtain⟨_,d2,_,_,_,_,_,_,_⟩:=hS.cells;have lw:=ch hS.b;have HS:=bj hS;have HQ:=bj (bh hH (bh hO (bh hG (bh hU a3))));clear hS hH hO hG hU a3;by_cases b3:j<u
   .have a9:(j:Int)<u:=ag
    cases hcy':kd'.cy with
    |none=>
     rw[oa hcy']at d2;have y:=bj hcy';clear hcy';go_wp2_with fail
     go_end0;obtain⟨hH,hO,hG,hU,a3⟩:=HQ;rw[B.tY y]at hU;exact⟨rfl,by rw[<-hU];exact⟨o,HS,hH,hO,hG,a3⟩⟩
    |some c=>
     rw[n9 hcy']at d2;have y:=bj hcy';clear hcy';obtain⟨hx,T,hT,a8⟩:=HQ.1.h3 c y;have aZ:=bj a8;have aL:=bj (vJ o.cb o.rd sb pb n o.ad o.cap c kd'.on o.f s.2.2 T wr (HS.c c y) HS.p HS.c0 (λh=>(HS.kI.2 sb (ah ⟨jx y.out,h⟩)).1 rfl) a8 a8.sum hx hn);have b1:=bj hx;clear a8 hT hx;go_wp2_with fail
     refine aL.mono ?_;rintro e w5 ⟨rfl,u1,u2,a0,Y,u3,u4⟩;have W:w5.heap[sb]? = _:=(u2.same lw (λh=>by
      rcases h with h|h
      .exact HS.kI.1 h
      exact(HS.kI.2 sb (ah ⟨jx y.out,h⟩)).1 rfl)).trans HS.b
     rw[n9 y]at W;generalize aF:wrap64 (kd'.un:Int)=yu at W;generalize aE:wrap64 (kd'.cc:Int)=yc at W;have x2:w5.cell? ⟨sb,2,none⟩=some (P0 o.cb):=fy W
     have x3:w5.cell? ⟨sb,3,none⟩=some (.int .i64 yu):=fy W
     have y3:w5.frozen? ⟨sb,3,none⟩=false:=qE W
     have l5:=ch W;have aU:=bj W;have a7:=bj (bh aF aE);have a5:=bj (bh u1 (bh u2 (bh u3 u4)));clear u1 u2 u3 u4 W aF aE d2 aL;go_wp2_with fail
     have aG:(w5.setCell ⟨sb,3,none⟩ (.int .i64 (wrap64 (yu+1)))).heap[sb]? = some (.cells #[.slice (some ⟨pb,0,none⟩) n n,.func (.func 59) #[P0 eb] #[],P0 o.cb,.int .i64 (wrap64 (yu+1)),.int .i64 (wrap64 (kd'.fo:Int)),.int .i64 yc] 207 (0,0)):=by
      have:=aU.out;simp[World.setCell,dh,this]
     have aC:∀k,oT o.cb o.rd a0 k->k≠sb:=λk G e=>by
      rcases a5.2.2.1.J1 G with h|h
      .exact(HS.kI.2 k (ah ⟨jx y.out,h⟩)).1 e
      omega
     have aJ:oW (w5.setCell ⟨sb,3,none⟩ (.int .i64 (wrap64 (yu+1)))) pb n (B.unit s.2.2 kd'.on c).1 o.f s.2.2:=a5.1.block (ab _ _ _ _ (λe=>HS.kI.1 e.symm)) (λp a b d=>ab _ _ _ _ (HS.kI.2 _ (af ⟨p,a,b,B.ow d,rfl⟩)).1);have aQ:mV (w5.setCell ⟨sb,3,none⟩ (.int .i64 (wrap64 (yu+1)))) o.cb o.rd sb n a0 Y (B.unit s.2.2 kd'.on c).2:=a5.2.2.2.block (λk G=>ab _ _ _ _ (aC k G));have aT:=bj aC;have aM:=bj aJ;have aA:=bj aQ;have aV:=bj aG
     have aN:Hid (dM (rA sb pb n kd vb) w (w5.setCell ⟨sb,3,none⟩ (.int .i64 (wrap64 (yu+1))))):=by
      refine bp (HQ.2.1.trans a5.2.1 (λk G hl=>?_)) (af (af rfl)) _;rcases G with h|h
      .exact ah (af h)
      exact ah (ah ((HQ.2.2.1 k (ah ⟨jx y.out,h⟩)).resolve_right ag))
     clear aG aC aJ aQ x2 x3 y3;generalize aX:w5.setCell ⟨sb,3,none⟩ (.int .i64 (wrap64 (yu+1)))=w6 at *;clear aX;refine(uV o.cb o.rd sb n a0 Y _ w6 aA).mono ?_;rintro e w7 ⟨rfl,aD⟩;have a1:=bj aD;have Z:=da aD aV im;have aO:=bj Z;have aR:Hid (pW n kd vb (B.me s.2.2 n kd' c) { o with ad:=a0,cap:=Y } w.heap.size):=λk G=>by
      rcases Ei y a5.2.2.1 G with h|h
      .exact HQ.2.2.1 k h
      have:=HQ.2.1.size;exact ah ag
     have aP:Hid (B.gw s.2.2 n (u-(j+1)) (B.me s.2.2 n kd' c)=B.work s.2.1 nr s.2.2 n u kd):=by
      have:=HQ.2.2.2.1;rw[show u-j=(u-(j+1))+1 by omega,B.tX y]at this;exact this
     clear aD;by_cases H:(B.unit s.2.2 kd'.on c).2.nx=n
     .have hd:decide ((B.unit s.2.2 kd'.on c).2.nx=n)=true:=gG H
      rw[hd];have a4:=bj H;have z2:w7.cell? ⟨sb,2,none⟩=some (P0 o.cb):=fy Z
      have z5:w7.cell? ⟨sb,5,none⟩=some (.int .i64 yc):=fy Z
      have q2:w7.frozen? ⟨sb,2,none⟩=false:=qE Z
      have q5:w7.frozen? ⟨sb,5,none⟩=false:=qE Z
      have l7:=ch Z;clear hd H Z;go_wp2_with fail
      go_roundw
      case rel=>
       refine⟨j+1,ag,iA,_,⟨{ o with ad:=a0,cap:=Y },x8 (cc:=kd'.cc+1) (x:=.pointer none) ?_ (af ⟨a4,rfl,rfl⟩) ?_ ?_,B.su HQ.1 y,?_,aR,HQ.2.2.2.2⟩,aP⟩
       .have:=aO.out;rw[<-a7.1,<-a7.2]at *;simp[World.setCell,dh,this,rE]
       .exact((aM.kept a1).block (ab _ _ _ _ (λe=>HS.kI.1 e.symm)) (λp a b d=>ab _ _ _ _ (HS.kI.2 _ (af ⟨p,a,b,B.ow d,rfl⟩)).1)).block (ab _ _ _ _ (λe=>HS.kI.1 e.symm)) (λp a b d=>ab _ _ _ _ (HS.kI.2 _ (af ⟨p,a,b,B.ow d,rfl⟩)).1)
       .exact((aA.kept a1).block (λk G=>ab _ _ _ _ (aT k G))).block (λk G=>ab _ _ _ _ (aT k G))
       exact bp (bp (aN.iW a1) (af (af rfl)) _) (af (af rfl)) _
      case measure=>simp[intOf];omega
     have hd:decide ((B.unit s.2.2 kd'.on c).2.nx=n)=false:=gG H
     rw[hd];have a4:=bj H;clear hd H Z;go_wp2_with fail
     go_roundw
     case rel=>
      refine⟨j+1,ag,iA,_,⟨{ o with ad:=a0,cap:=Y },x8 (cc:=kd'.cc) (x:=P0 o.cb) ?_ (ah ⟨a4,rfl,rfl⟩) (aM.kept a1) (aA.kept a1),B.su HQ.1 y,aN.iW a1,aR,HQ.2.2.2.2⟩,aP⟩;rw[aO.out,<-a7.1,<-a7.2,rE]
     case measure=>simp[intOf];omega
   have a9:¬((j:Int)<u):=ag
   have HJ:Hid (u-j=0):=by show _=_;omega
   go_wp2_with fail
   go_end0;obtain⟨hH,hO,hG,hU,a3⟩:=HQ;rw[HJ.out]at hU;exact⟨rfl,by rw[<-hU];exact⟨o,HS,hH,hO,hG,a3⟩⟩
end F
section
theorem uc{u H:Nat}(hF:(u=98/\H=112)\/(u=86/\H=113)\/(u=98/\H=114)\/(u=98/\H=115)\/(u=86/\H=116))(op a b c fb tb eb v1 v2:Nat)(y:B.V)(R:Int->aa->Prop)(w:aa)(c1:w.cell? (ay v1 0)=some (Fv u #[]))(c2:w.cell? (ay v2 0)=some (Fv H #[]))(H1:∀w1,w.grownBy w1 none->dD u #[ed op a b c fb tb eb] w1 (vA y) λw'=>w1.grownBy w' none)(H2:y.1=0->∀w1,w.grownBy w1 none->Calls prog H #[ed op a b c fb tb eb,aj y.2] w1 λe w'=>∃why:Int,e=.returned (aj why)/\R why w')(H3:y.1≠0->∀w1,w.grownBy w1 none->R 1 w1): Calls prog 167 #[ed op a b c fb tb eb,P0 v1,P0 v2] w λe w'=>∃why:Int,e=.returned (aj why)/\R why w':=by
 rcases hF with⟨rfl,rfl⟩|⟨rfl,rfl⟩|⟨rfl,rfl⟩|⟨rfl,rfl⟩|⟨rfl,rfl⟩
 all_goals
  change Hid _ at H1 H2 H3;have a8:=gM c1;have Y:=gM c2;go_in;go_wp2_with fail
  have a6:=bj (iN w op a b c fb tb eb);have a0:=bj (ak w (.cells #[dy op,dy a,dy b,dy c,P0 fb,P0 tb,P0 eb] 186) none);generalize hW:w.alloc (.cells #[dy op,dy a,dy b,dy c,P0 fb,P0 tb,P0 eb] 186)=w1 at *;clear hW;refine du (H1 w1 a0) λw2 G=>?_;have a4:=bj (ar a0 G);have a5:=bj (dv G a6);clear G;go_wp2_with fail
  refine du (gk y _) λw3 o=>?_;have i:=bj (ar a4 o);have W:=bj (dv o a5);clear o;by_cases J:y.1=0
  .have hd:decide (y.1=0)=true:=gG J
   simp only[hd];change Hid _ at J;clear hd;obtain⟨x0,x1,x2,x3,x4,x5,x6⟩:=eZ W;have d2:=(bd i (a:=ay v2 0) Y).1.trans c2;go_wp2_with fail
   refine(H2 J w3 i).mono ?_;rintro e w4 ⟨why,rfl,Z⟩;change Hid _ at Z;go_wp2
   go_ret;exact⟨why,rfl,Z⟩
  have hd:decide (y.1=0)=false:=gG J
  simp only[hd];have J:=bj J;clear J hd;go_wp2
  go_ret;exact⟨1,rfl,H3 J w3 i⟩
theorem Hp(op a b c fb tb eb u:Nat)(R:aa->Prop)(w:aa)(hw:w.cell? (ay u 0)=some (Fv 106 #[]))(H:∀w1,w.grownBy w1 none->eL 106 #[ed op a b c fb tb eb] w1 λw'=>R w'): dD 163 #[ed op a b c fb tb eb,P0 u] w (aj 0) λw'=>R w':=by
 have y:=bj H;have G:=gM hw;delta dD;go_in;go_wp2_with fail
 refine du (y _ (ak _ _ _)) λw2 i=>?_;have o:=bj i;go_wp2
 go_ret;simp_all
theorem Ho(op a b c fb tb eb u:Nat)(R:aa->Prop)(w:aa)(hw:w.cell? (ay u 0)=some (Fv 109 #[]))(H:∀w1,w.grownBy w1 none->eL 109 #[ed op a b c fb tb eb] w1 λw'=>R w'): dD 163 #[ed op a b c fb tb eb,P0 u] w (aj 0) λw'=>R w':=by
 have y:=bj H;have G:=gM hw;delta dD;go_in;go_wp2_with fail
 refine du (y _ (ak _ _ _)) λw2 i=>?_;have o:=bj i;go_wp2
 go_ret;simp_all
theorem IV(op a b c fb tb eb:Nat)(R:aa->Prop)(w:aa)(le:eb<w.heap.size)(H:∀w1,w.grownBy w1 none->eL 110 #[Pt eb 32,P0 tb] w1 λw'=>R w'): eL 109 #[ed op a b c fb tb eb] w λw'=>R w':=by
 have W:=bj H;delta eL;go_in;go_wp2_with fail
 have i:=bj (iN w op a b c fb tb eb);have o:=bj (ak w (.cells #[dy op,dy a,dy b,dy c,P0 fb,P0 tb,P0 eb] 186) none);generalize J:w.alloc (.cells #[dy op,dy a,dy b,dy c,P0 fb,P0 tb,P0 eb] 186)=w1 at *;obtain⟨Z,Y,x2,x3,x4,x5,x6⟩:=eZ i;go_region_with (go_at_call 110;refine du (W w1.drew (bo o)) λw2 u=>?_;have y:=bj u;clear u)
 all_goals
  go_wp2
  go_end0;exact⟨rfl,y⟩
theorem Mm(op a b c fb tb eb:Nat)(x:Int)(R:aa->Prop)(w:aa)(H:∀w1,w.grownBy w1 none->eL 173 #[P0 eb,aj 1,P0 tb,aj x] w1 λw'=>R w'): dD 115 #[ed op a b c fb tb eb,aj x] w (aj 0) λw'=>R w':=by
 have u:=bj H;delta dD;go_in;go_wp2_with fail
 refine du (u _ (ak _ _ _)) λw2 i=>?_;have o:=bj i;go_wp2
 go_ret;simp_all
theorem Gh(op a b c fb tb eb:Nat)(x:Int)(R:aa->Prop)(w:aa)(H:∀w1,w.grownBy w1 none->eL 168 #[P0 eb,P0 tb,aj x] w1 λw'=>R w'): dD 112 #[ed op a b c fb tb eb,aj x] w (aj 0) λw'=>R w':=by
 have u:=bj H;delta dD;go_in;go_wp2_with fail
 refine du (u _ (ak _ _ _)) λw2 i=>?_;have o:=bj i;go_wp2
 go_ret;simp_all
theorem Nc(op a b c fb tb eb:Nat)(y:B.V)(R:aa->Prop)(w:aa)(H1:∀w1,w.grownBy w1 none->dD 98 #[ed op a b c fb tb eb] w1 (vA y) λw'=>w1.grownBy w' none)(H:∀w1,w.grownBy w1 none->eL 107 #[P0 tb,vA y] w1 λw'=>R w'/\∀k,w.heap.size<=k->k<w1.heap.size->w'.heap[k]? = w1.heap[k]?): eL 106 #[ed op a b c fb tb eb] w λw'=>R w':=by
 have Y:=bj H1;have HH:=bj H;delta eL;go_in;go_wp2_with fail
 have u:=bj (iN w op a b c fb tb eb);have J:=bj (ak w (.cells #[dy op,dy a,dy b,dy c,P0 fb,P0 tb,P0 eb] 186) none);generalize hW:w.alloc (.cells #[dy op,dy a,dy b,dy c,P0 fb,P0 tb,P0 eb] 186)=w1 at *;go_region_held3 (λw'=>dS w' w.heap.size 0=some (dy op)/\dS w' w.heap.size 1=some (dy a)/\dS w' w.heap.size 2=some (dy b)/\dS w' w.heap.size 3=some (dy c)/\dS w' w.heap.size 4=some (P0 fb)/\dS w' w.heap.size 5=some (P0 tb)/\dS w' w.heap.size 6=some (P0 eb)) (first|exact eZ u|exact eZ i|exact eZ Z) (first|(go_at_call 98;refine du (Y w1.drew (bo J)) λw2 o=>?_;have a0:Hid (w.grownBy w2 none):=ar (bo J) o;have i:=bj (dv o (show w1.drew.heap[w.heap.size]? = _ from u));clear o)|(go_at_call 107;refine du (HH w2 a0) ?_;rintro w3 ⟨W,G⟩;have a1:=bj W;have Z:=bj ((G w.heap.size (bq _) (ch i)).trans i);clear W G))
 all_goals
  go_wp2
  go_end0;exact⟨rfl,a1⟩
theorem FF(k:Nat)(u:k<=200)(w:aa):dD 220 #[aj k] w (vA (k+1,0)) λw'=>w.grownBy w' none:=by
 have o:IntKind.i64.wrap ((k:Int)+1)=((k:Int)+1):=by simp[IntKind.wrap,IntKind.bits,IntKind.signed];omega
 delta dD;go_in;go_wp2
 refine dg (v:=vA (k+1,0)) (by simp[results,results220,go_sem]) rfl ⟨rfl,?_⟩;repeat (first|exact aw _ _|refine bo ?_|refine ax ?_ _|refine bu ?_ (ah eB) _)
end
namespace F
def Fb.put(f:Fb)(p vg t:Nat):Fb:=⟨λq=>if q=p then vg else f.b q,λq=>if q=p then t else f.k q⟩
def Vs.put(vb:Vs)(p vg t:Nat):Vs:={ vb with f:=vb.f.put p vg t }
def zi(t:Nat):Value:=.int .i64 ((t-1:Nat):Int)
theorem GI(kd:Nat->Bool)(vb:Fb)(M:Nat->List B.V)(k i t j:Nat)(l:List B.V): eC (eC (eC (jI kd vb M) (k*3) (vz true t)) (k*3+1) (zi t)) (k*3+2) (dA i l.length l.length) j=jI (B.mark kd (k+1)) (vb.put (k+1) i t) (B.lay M (k+1) (l)) j:=by
 by_cases o:j=k*3+2
 .grind[gO,uu,B.kh,B.iB,qo,Fb.put]
 rw[eN _ _ _ _ o];by_cases u:j=k*3+1
 .grind[gO,A2,B.kh,E9,zi,Fb.put]
 rw[eN _ _ _ _ u];by_cases y:j=k*3
 .grind[gO,A3,B.kh,Fb.put]
 rw[eN _ _ _ _ y];have e:j / 3+1≠k+1:=ag
 simp_all[jI,B.fZ,B.gh,Fb.put,au]
theorem yz{w w':aa}{pb n k o t:Nat}{l:List B.V}{on:Nat->Bool}{f:Fb}{M:Nat->List B.V}(h:oW w pb n on f M)(J:l.length<=8)(ht:t≠0->l.length=1)(W:Full w' o 149 (l.length*2) (l.length*2) (eQ (λi=>l.getD i (0,0))))(hn:∀p,1<=p->p<=n->on p=true->f.b p≠o)(hP:Full w' pb 228 (n*3) (n*3) (eC (eC (eC (jI on f M) (k*3) (vz true t)) (k*3+1) (zi t)) (k*3+2) (dA o l.length l.length)))(H:∀p,1<=p->p<=n->on p=true->w'.heap[f.b p]? = w.heap[f.b p]?): oW w' pb n (B.mark on (k+1)) (f.put (k+1) o t) (B.lay M (k+1) (l)):=by
 refine⟨hP.congr (λj _=>GI on f M k o t j l),λp a c d=>?_,λp q a c d e g i j=>?_,λp a=>?_,λp a y=>?_⟩
 .by_cases e:p=k+1
  .subst e;simp only[Fb.put,if_true,B.iB];refine W.congr (λj _=>?_);simp[eQ,lM,B.iB]
  rw[B.fZ _ _ _ e]at d;simp only[Fb.put,au e];unfold lM;rw[B.gh _ _ _ _ e];exact(h.s p a c d).block (H p a c d)
 .have j:(if p=k+1 then o else f.b p)=(if q=k+1 then o else f.b q):=j;by_cases G:p=k+1
  .by_cases u:q=k+1
   .omega
   rw[bf G,au u]at j;grind[B.fZ,absurd]
  by_cases u:q=k+1
  .simp_all[au,bf,B.fZ,dp]
  rw[au G,au u]at j;grind[B.fZ,F.oW.i]
 .by_cases e:p=k+1
  .grind[B.iB]
  rw[B.fZ _ _ _ e]at a;rw[B.gh _ _ _ _ e];exact h.l p a
 have y:(if p=k+1 then t else f.k p)≠0:=y;by_cases e:p=k+1
 .simp_all[B.iB,bf]
 rw[B.fZ _ _ _ e]at a;rw[au e]at y;grind[B.gh,F.oW.k]
def IP(nr n:Nat)(s:B.St)(kd kd1:B.Kd):Prop:=
 kd1=kd\/((∀p,1<=p->p<=n->kd.on p=true)/\kd1.cy=none/\kd1.un=kd.un/\kd1.fo=kd.fo+1/\kd1.cc=kd.cc/\∀p,1<=p->p<=n->(kd1.on p=true↔B.Reach nr s p))
def NW(w w':aa)(sb pb eb n nr vg t:Nat)(l:List B.V)(kd:B.Kd)(vb:Vs)(s:B.St)(e:Ending):Prop:=
 dM (rA sb pb n kd vb) w w' /\
 ((∃(k:Nat) (kd1:B.Kd),k<n/\kd1.on (k+1)=false/\B.jO kd1 nr n s/\IP nr n s kd kd1/\e=.returned (.tuple #[.agg #[.int .i64 ((k:Int)+1),.int .i64 0],.bool true])/\kD w' sb pb eb n (B.laid kd1 (k+1)) (vb.put (k+1) vg t) (B.lay s.2.2 (k+1) (l))/\∀x,Own n (B.laid kd1 (k+1)) (vb.put (k+1) vg t) x->Own n kd vb x\/x=vg) \/
  (e=.returned (.tuple #[.agg #[.int .i64 0,.int .i64 0],.bool false])/\(∀p,1<=p->p<=n->B.Reach nr s p)/\∃kd1,kD w' sb pb eb n kd1 vb s.2.2/\B.jO kd1 nr n s/\∀x,Own n kd1 vb x->Own n kd vb x))
theorem uw{n k u t x:Nat}{kd:B.Kd}{vb:Vs}(h:Own n (B.laid kd (k+1)) (vb.put (k+1) u t) x):Own n kd vb x\/x=u:=by
 rcases h with⟨p,a,b,d,e⟩|⟨H,J⟩
 .by_cases y:p=k+1
  .subst y;right
   have o:(if k+1=k+1 then u else vb.f.b (k+1))=x:=e;grind
  left
  have G:B.mark kd.on (k+1) p=true:=d;rw[B.fZ _ _ _ y]at G;have o:(if p=k+1 then u else vb.f.b p)=x:=e;rw[au y]at o;exact af ⟨p,a,b,G,o⟩
 left
 refine ah ⟨?_,J⟩;have i:(kd.cy.map (λc:B.Cy=>(⟨B.mark c.m (k+1),c.st,c.nx⟩:B.Cy))).isSome=true:=H;grind
theorem uW(kd:B.Kd)(vb:Vs)(p e t:Nat):zE (B.laid kd p) (vb.put p e t)=zE kd vb:=by
 grind[zE,B.laid,Vs.put,Option.isSome_map]
theorem Bh(Q:Nat->Prop)(eb sb pb n nr vg t:Nat)(l:List B.V)(kd:B.Kd)(vb:Vs)(s:B.St)(w:aa)(hR:C8 w Q eb sb pb n nr kd vb s)(hv:Full w vg 149 (l.length*2) (l.length*2) (eQ (λi=>l.getD i (0,0))))(aI:l.length<=8)(ht:t≠0->l.length=1)(c4:¬Own n kd vb vg): Calls prog 199 #[P0 sb,.agg #[vz true t,zi t,dA vg l.length l.length]] w λe w'=>NW w w' sb pb eb n nr vg t l kd vb s e:=by
 have KR:=bj hR;have hn:=hR.n2;have lp:=hR.hs.p.p.lt;have ls:=ch hR.hs.b;have HV:=bj hv;have bN:=bj c4;have HT:=bj ht;obtain⟨ya,b8⟩:∃y:Int,vz true t=dy y:=⟨_,rfl⟩;obtain⟨yb,b7⟩:∃y:Int,zi t=aj y:=⟨_,rfl⟩;rw[b8,b7];have bU:=bj b8;have c3:=bj b7;go_in;go_wp2_with fail
 generalize hW:(w.alloc (.cells #[dy ya,aj yb,dA vg l.length l.length] 228)).alloc (.cells #[aj 0,aj 0] 149)=w1;have aO:Hid (w.grownBy w1 none):=by rw[<-hW];exact ax (ak _ _ _) _
 have x0:w1.heap[w.heap.size]? = some (.cells #[dy ya,aj yb,dA vg l.length l.length] 228 (0,0)):=by rw[<-hW,av _ _ _ eB];exact bl w _
 have x1:w1.heap[w.heap.size+1]? = some (.cells #[aj 0,aj 0] 149 (0,0)):=by
  rw[<-hW];have:=bl (w.alloc (.cells #[dy ya,aj yb,dA vg l.length l.length] 228)) (.cells #[aj 0,aj 0] 149);simpa using this
 have aL:=bj (bh x0 x1);have aK:=bj (KR.kept aO);refine(qf sb pb n kd.on vb.f s.2.2 w1 aK.hs.c0 aK.hs.p hn).mono ?_;rintro e w2 ⟨a7,⟨k,hk,aR,rfl⟩|⟨a4,rfl⟩⟩
 .have aH:=bj (ar aO a7);have H:=bj (aK.hs.kept a7);have aJ:=bj (bh (da a7 aL.1 im) (da a7 aL.2 im));have HQ:Hid (k<n/\kd.on (k+1)=false/\B.jO kd nr n s/\IP nr n s kd kd):=⟨hk,aR,KR.hh,af rfl⟩;have bM:Hid (dM (rA sb pb n kd vb) w w2):=ep aH;have bR:=bj (HV.block (aH.block vg HV.lt im));have a3:Hid (∀x,Own n kd vb x->Own n kd vb x):=λ_ h=>h;obtain⟨p0,z0⟩:=H.p.p.cells (k*3) ag;obtain⟨p1,z1⟩:=H.p.p.cells (k*3+1) ag;obtain⟨p2,z2⟩:=H.p.p.cells (k*3+2) ag;generalize jI kd.on vb.f s.2.2 (k*3)=y0 at p0;generalize jI kd.on vb.f s.2.2 (k*3+1)=y1 at p1;generalize jI kd.on vb.f s.2.2 (k*3+2)=y2 at p2;have s0:=H.c0;have cF:(k:Int)<n:=ag
  have c8:¬((k:Int)<0):=ag
  have a6:=aJ.1;have Y:=aJ.2;have b0:dS w2 w.heap.size 0=some (dy ya):=fy a6
  have b1:dS w2 w.heap.size 1=some (aj yb):=fy a6
  have b2:dS w2 w.heap.size 2=some (dA vg l.length l.length):=fy a6
  have np:¬w.heap.size+1=pb:=ag
  have aY:¬pb=w.heap.size+1:=ag
  go_wp2
  go_region
  generalize a5:World.drew (((w2.setCell (ay pb (k*3)) (dy ya)).setCell (ay pb (k*3+1)) (aj yb)).setCell (ay pb (k*3+2)) (dA vg l.length l.length))=w5;have a1:∀x,x≠pb->w5.heap[x]? = w2.heap[x]?:=by
   intro x o;rw[<-a5];show(World.setCell _ _ _).heap[x]? = _;rw[ab _ _ _ _ o,ab _ _ _ _ o,ab _ _ _ _ o]
  have b6:Hid (Full w5 pb 228 (n*3) (n*3) (eC (eC (eC (jI kd.on vb.f s.2.2) (k*3) (dy ya)) (k*3+1) (aj yb)) (k*3+2) (dA vg l.length l.length))):=by
   show Full _ _ _ _ _ _;rw[<-a5];exact((H.p.p.eC (k*3) (dy ya)).eC (k*3+1) (aj yb)).eC (k*3+2) (dA vg l.length l.length)
  have aU:Hid (dM (rA sb pb n kd vb) w w5):=by
   show dM _ _ _;rw[<-a5];exact sq (bp (bp (bp bM (af (ah (af rfl))) _) (af (ah (af rfl))) _) (af (ah (af rfl))) _)
  have aX:=bj ((a1 _ np).trans Y);have aP:=bj ((a1 sb H.kI.1).trans H.b);have bW:=bj a1;have bJ:=bj (bR.block (a1 vg (by obtain⟨cu,h,_⟩:=bR;obtain⟨cG,h',_⟩:=H.p.p;exact eE h h' ek)));have aW:=bj (yz H.p aI HT bJ (λp a c d e=>bN (by rw[<-e];exact a3 _ (af ⟨p,a,c,d,rfl⟩))) (by rw[bU.out,c3.out];exact b6) (λp a c d=>a1 _ (H.kI.2 _ (af ⟨p,a,c,d,rfl⟩)).2));go_wp2_with fail
  refine du (FF k ag _) λu aC=>?_;have G:=da aC aP im;have a0:=da aC aX im;have a2:=bj aC;have aF:=bj G;have d2:dS u sb 2=some (zE kd vb):=fy G
  have r0:dS u (w.heap.size+1) 0=some (aj 0):=fy a0
  have r1:dS u (w.heap.size+1) 1=some (aj 0):=fy a0
  have t0:u.frozen? (ay (w.heap.size+1) 0)=false:=qE a0
  have t1:u.frozen? (ay (w.heap.size+1) 1)=false:=qE a0
  have bV:=ch G;have bG:=ch a0;rcases hcy:kd.cy with _|c
  .rw[oa hcy]at d2;have a8:=bj hcy;go_wp2
   refine dg (v:=.tuple #[.agg #[aj ((k:Int)+1),aj 0],.bool true]) (by simp[results,results199,go_sem,r0,r1,bG]) rfl ?_;have W:∀x,x≠w.heap.size+1->x<u.heap.size->(((u.setCell (ay (w.heap.size+1) 0) (aj ((k:Int)+1))).setCell (ay (w.heap.size+1) 1) (aj 0)).alloc (.cells #[aj ((k:Int)+1),aj 0] 149)).heap[x]? = u.heap[x]?:=λx o hl=>by
    rw[av _ _ _ (by simp[World.setCell];exact hl),ab _ _ _ _ o,ab _ _ _ _ o]
   have aD:=λx h=>KR.hs.lt x (a3 x h);have b5:=HV.lt;refine⟨?_,af ⟨k,kd,HQ.1,HQ.2.1,HQ.2.2.1,HQ.2.2.2,rfl,⟨?_,?_,λc hc=>?_⟩,λx o=>(uw o).imp (a3 x) id⟩⟩
   .exact gP (bp (bp (aU.iW a2) (ah eB) _) (ah eB) _) _
   .rw[uW];exact(W sb ag ag).trans aF
   .refine (aW.kept a2).block (W pb aY ag) (λp a c d=>?_);by_cases e:p=k+1
    .simp only[Fb.put,bf e];exact W vg ag ag
    simp only[Fb.put,au e];rw[B.fZ _ _ _ e]at d;have:=aD _ (af ⟨p,a,c,d,rfl⟩);exact W _ ag ag
   have aE:kd.cy.map (λc:B.Cy=>(⟨B.mark c.m (k+1),c.st,c.nx⟩:B.Cy))=some c:=hc;rw[a8.out]at aE;cases aE
  rw[n9 hcy]at d2;have a8:=bj hcy;have bD:=((H.c c a8).block (λx o=>bW x (H.kI.2 x (ah ⟨jx a8.out,o⟩)).2)).kept a2;have cH:=bj bD;have aD:=λx h=>KR.hs.lt x (a3 x h);have bP:=bj aD;have cS:=aD _ (ah ⟨jx a8.out,ah (af rfl)⟩);have cL:=bj (da a2 aX im);have cB:Hid (mV (u.alloc (.cells #[aj ((k:Int)+1),aj 0] 149)).drew vb.cb vb.rd sb n vb.ad vb.cap c):=(bD.kept (ak u (.cells #[aj ((k:Int)+1),aj 0] 149) none)).block (λ_ _=>rfl);have cK:Hid (∀w8:aa,(u.alloc (.cells #[aj ((k:Int)+1),aj 0] 149)).drew.grownBy w8 (some vb.rd)->u.grownBy w8 (some vb.rd)/\dS w8 (w.heap.size+1) 0=some (aj 0)/\dS w8 (w.heap.size+1) 1=some (aj 0)/\w8.frozen? (ay (w.heap.size+1) 0)=false/\w8.frozen? (ay (w.heap.size+1) 1)=false/\w.heap.size+1<w8.heap.size/\dS w8 u.heap.size 0=some (aj ((k:Int)+1))/\dS w8 u.heap.size 1=some (aj 0)/\u.heap.size<w8.heap.size):=by
   intro w8 a9;have aG:=ar (ak u (.cells #[aj ((k:Int)+1),aj 0] 149) _) ⟨a9.os,a9.tape,a9.output,a9.size,a9.block⟩;have aQ:=da aG cL (by intro e;injection e with e;omega);have cQ:u.heap.size+1<=w8.heap.size:=by have:=a9.size;simpa[World.drew] using this
   have c6:=(a9.block u.heap.size (by simp[World.drew]) (by intro e;injection e with e;omega)).trans (bl u _);exact⟨aG,fy aQ,fy aQ,qE aQ,qE aQ,ch aQ,fy c6,fy c6,ag⟩
  go_wp2
  go_region_with (go_at_call 221;refine du (CE vb.cb vb.rd sb n k vb.ad vb.cap c 0 _ cB hk hn) ?_;rintro w8 ⟨bQ,a9⟩;obtain⟨aG,q0,q1,v0,v1,cP,n0,n1,cR⟩:=cK w8 a9;have bO:=bj aG;have cJ:=bj bQ;clear a9 aG bQ)
  all_goals
   go_wp2
   refine dg (v:=.tuple #[.agg #[aj ((k:Int)+1),aj 0],.bool true]) (by simp[results,results199,go_sem,q0,q1]) rfl ?_;have W:∀x,x≠w.heap.size+1->((w8.setCell (ay (w.heap.size+1) 0) (aj ((k:Int)+1))).setCell (ay (w.heap.size+1) 1) (aj 0)).heap[x]? = w8.heap[x]?:=λx o=>by
    rw[ab _ _ _ _ o,ab _ _ _ _ o]
   have aI:∀x,x<u.heap.size->x≠vb.rd->w8.heap[x]? = u.heap[x]?:=λx o hn=>bO.block x o (by intro e;injection e with e;exact hn e);have b5:=HV.lt;have bC:∀(x:Nat) (bS:Array Value) (T:TypeId),u.heap[x]? = some (.cells bS T (0,0))->T≠4->x≠vb.rd:=λx bS T o hT=>by
    obtain⟨cu,h,_⟩:=cH.r;exact eE o h hT
   refine⟨?_,af ⟨k,kd,HQ.1,HQ.2.1,HQ.2.2.1,HQ.2.2.2,rfl,⟨?_,?_,λc' hc=>?_⟩,λx o=>(uw o).imp (a3 x) id⟩⟩
   .refine bp (bp ((aU.iW a2).then bO (af (ah (ah (a3 _ (ah ⟨jx a8.out,ah (af rfl)⟩)))))) (ah eB) _) (ah eB) _
   .rw[uW];exact((W sb ag).trans (aI sb ag (bC _ _ _ aF ek))).trans aF
   .have bB:=aW.kept a2;refine bB.block ((W pb aY).trans (aI pb ag ?_)) (λp a c d=>?_)
    .obtain⟨cu,h,_⟩:=bB.p;exact bC _ _ _ h ek
    obtain⟨cu,h,_⟩:=bB.s p a c d;have hl:(vb.f.put (k+1) vg t).b p<w.heap.size:=by
     show(if p=k+1 then vg else vb.f.b p)<w.heap.size;by_cases e:p=k+1
     .rw[bf e];exact b5
     rw[au e];rw[B.fZ _ _ _ e]at d;exact bP _ (af ⟨p,a,c,d,rfl⟩)
    exact(W _ ag).trans (aI _ ag (bC _ _ _ h ek))
   have aE:kd.cy.map (λc:B.Cy=>(⟨B.mark c.m (k+1),c.st,c.nx⟩:B.Cy))=some c':=hc;rw[a8.out]at aE;have e:(⟨B.mark c.m (k+1),c.st,c.nx⟩:B.Cy)=c':=by injection aE
   subst e;exact cJ.block (λx o=>W x (by
    have:=bP x (ah ⟨jx a8.out,o⟩);omega))
 have aH:=bj (ar aO a7);have aJ:=bj (bh (da a7 aL.1 im) (da a7 aL.2 im));have aV:=bj (aK.kept a7);have cC:=bj a4;go_wp2_with fail
 refine du (CN Q eb sb pb n nr kd vb s w2 aV) ?_;rintro w3 ⟨on,hm,bA,bI,aS,bY⟩;have Km:=bj (bh hm (bh bA bI));have aN:=bj bY;have b4:Hid (dM (rA sb pb n kd vb) w w3):=(ep aH).trans aS (λx h _=>h.elim af (λh=>ah (af h)));have aZ:=bj (bh (aS.block aJ.1 ag) (aS.block aJ.2 ag));have bL:Hid (Full w3 vg 149 (l.length*2) (l.length*2) (eQ (λi=>l.getD i (0,0)))):=by
  have bE:=HV.block (aH.block vg HV.lt im);refine bE.block (aS.same bE.lt ?_);obtain⟨cM,c7,_⟩:=bE;rintro(h|h)
  .exact eE c7 aV.hs.b ek h
  obtain⟨cN,cD,_⟩:=aV.hs.p.p;exact eE c7 cD ek h
 have a3:Hid (∀x,Own n ⟨on,none,kd.un,kd.fo+1,kd.cc⟩ vb x->Own n kd vb x):=λx o=>by
  rcases o with⟨p,a,b,d,e⟩|⟨h,_⟩
  .exact af ⟨p,a,b,bA p d,e⟩
  cases h
 have bZ:=bj (B.Aq KR.hh bI);go_wp2_with fail
 refine(qf sb pb n on vb.f s.2.2 w3 aN.c0 aN.p hn).mono ?_;rintro e w4 ⟨aA,⟨k,hk,aR,rfl⟩|⟨a4,rfl⟩⟩
 .generalize aB:(⟨on,none,kd.un,kd.fo+1,kd.cc⟩:B.Kd)=Z at *;have b9:Z.on=on:=by rw[<-aB]
  have aM:Hid (Z.cy=none):=by show _=_;rw[<-aB]
  have HQ:Hid (k<n/\Z.on (k+1)=false/\B.jO Z nr n s/\IP nr n s kd Z):=⟨hk,eV b9 aR,bZ,ah ⟨cC,aM,by rw[<-aB],by rw[<-aB],by rw[<-aB],eV b9 Km.1⟩⟩;have J:=bj (aN.kept aA);have bT:=bj (bh (da aA aZ.1 im) (da aA aZ.2 im));have aT:=bj (b4.iW aA);have bX:=bj (bL.block (aA.block vg bL.lt im));obtain⟨p0,z0⟩:=J.p.p.cells (k*3) ag;obtain⟨p1,z1⟩:=J.p.p.cells (k*3+1) ag;obtain⟨p2,z2⟩:=J.p.p.cells (k*3+2) ag;generalize jI Z.on vb.f s.2.2 (k*3)=y0 at p0;generalize jI Z.on vb.f s.2.2 (k*3+1)=y1 at p1;generalize jI Z.on vb.f s.2.2 (k*3+2)=y2 at p2;have s0:=J.c0;have cF:(k:Int)<n:=ag
  have c8:¬((k:Int)<0):=ag
  have a6:=bT.1;have Y:=bT.2;have b0:dS w4 w.heap.size 0=some (dy ya):=fy a6
  have b1:dS w4 w.heap.size 1=some (aj yb):=fy a6
  have b2:dS w4 w.heap.size 2=some (dA vg l.length l.length):=fy a6
  have np:¬w.heap.size+1=pb:=ag
  have aY:¬pb=w.heap.size+1:=ag
  go_wp2
  go_region
  generalize a5:World.drew (((w4.setCell (ay pb (k*3)) (dy ya)).setCell (ay pb (k*3+1)) (aj yb)).setCell (ay pb (k*3+2)) (dA vg l.length l.length))=w5;have a1:∀x,x≠pb->w5.heap[x]? = w4.heap[x]?:=by
   intro x o;rw[<-a5];show(World.setCell _ _ _).heap[x]? = _;rw[ab _ _ _ _ o,ab _ _ _ _ o,ab _ _ _ _ o]
  have b6:Hid (Full w5 pb 228 (n*3) (n*3) (eC (eC (eC (jI Z.on vb.f s.2.2) (k*3) (dy ya)) (k*3+1) (aj yb)) (k*3+2) (dA vg l.length l.length))):=by
   show Full _ _ _ _ _ _;rw[<-a5];exact((J.p.p.eC (k*3) (dy ya)).eC (k*3+1) (aj yb)).eC (k*3+2) (dA vg l.length l.length)
  have aU:Hid (dM (rA sb pb n kd vb) w w5):=by
   show dM _ _ _;rw[<-a5];exact sq (bp (bp (bp aT (af (ah (af rfl))) _) (af (ah (af rfl))) _) (af (ah (af rfl))) _)
  have aX:=bj ((a1 _ np).trans Y);have aP:=bj ((a1 sb J.kI.1).trans J.b);have bJ:=bj (bX.block (a1 vg (by obtain⟨cu,h,_⟩:=bX;obtain⟨cG,h',_⟩:=J.p.p;exact eE h h' ek)));have aW:=bj (yz J.p aI HT bJ (λp a c d e=>bN (by rw[<-e];exact a3 _ (af ⟨p,a,c,d,rfl⟩))) (by rw[bU.out,c3.out];exact b6) (λp a c d=>a1 _ (J.kI.2 _ (af ⟨p,a,c,d,rfl⟩)).2));go_wp2_with fail
  refine du (FF k ag _) λu aC=>?_;have G:=da aC aP im;have a0:=da aC aX im;have a2:=bj aC;have aF:=bj G;have d2:dS u sb 2=some (zE Z vb):=fy G
  have r0:dS u (w.heap.size+1) 0=some (aj 0):=fy a0
  have r1:dS u (w.heap.size+1) 1=some (aj 0):=fy a0
  have t0:u.frozen? (ay (w.heap.size+1) 0)=false:=qE a0
  have t1:u.frozen? (ay (w.heap.size+1) 1)=false:=qE a0
  have bV:=ch G;have bG:=ch a0;have a8:=aM;rw[oa aM]at d2;go_wp2
  refine dg (v:=.tuple #[.agg #[aj ((k:Int)+1),aj 0],.bool true]) (by simp[results,results199,go_sem,r0,r1,bG]) rfl ?_;have W:∀x,x≠w.heap.size+1->x<u.heap.size->(((u.setCell (ay (w.heap.size+1) 0) (aj ((k:Int)+1))).setCell (ay (w.heap.size+1) 1) (aj 0)).alloc (.cells #[aj ((k:Int)+1),aj 0] 149)).heap[x]? = u.heap[x]?:=λx o hl=>by
   rw[av _ _ _ (by simp[World.setCell];exact hl),ab _ _ _ _ o,ab _ _ _ _ o]
  have aD:=λx h=>KR.hs.lt x (a3 x h);have b5:=HV.lt;refine⟨?_,af ⟨k,Z,HQ.1,HQ.2.1,HQ.2.2.1,HQ.2.2.2,rfl,⟨?_,?_,λc hc=>?_⟩,λx o=>(uw o).imp (a3 x) id⟩⟩
  .exact gP (bp (bp (aU.iW a2) (ah eB) _) (ah eB) _) _
  .rw[uW];exact(W sb ag ag).trans aF
  .refine (aW.kept a2).block (W pb aY ag) (λp a c d=>?_);by_cases e:p=k+1
   .simp only[Fb.put,bf e];exact W vg ag ag
   simp only[Fb.put,au e];rw[B.fZ _ _ _ e]at d;have:=aD _ (af ⟨p,a,c,d,rfl⟩);exact W _ ag ag
  have aE:Z.cy.map (λc:B.Cy=>(⟨B.mark c.m (k+1),c.st,c.nx⟩:B.Cy))=some c:=hc;rw[a8.out]at aE;cases aE
 have aT:=bj (b4.iW aA);have Y:=da aA aZ.2 im;have r0:dS w4 (w.heap.size+1) 0=some (aj 0):=fy Y
 have r1:dS w4 (w.heap.size+1) 1=some (aj 0):=fy Y
 have t0:w4.frozen? (ay (w.heap.size+1) 0)=false:=qE Y
 have t1:w4.frozen? (ay (w.heap.size+1) 1)=false:=qE Y
 have HQ:=bj (bh Km a4);have J:=bj (aN.kept aA);go_wp2
 refine dg (v:=.tuple #[.agg #[aj 0,aj 0],.bool false]) (by simp[results,results199,go_sem,r0,r1]) rfl ?_;have aD:=λx h=>KR.hs.lt x (a3 x h);refine⟨?_,ah ⟨rfl,λp a c=>(HQ.1.1 p a c).1 (HQ.2 p a c),_,J.block ?_ ?_ (λx o=>?_),bZ,a3⟩⟩
 .repeat (first|exact aT|refine bp ?_ (ah eB) _)
 .rw[ab _ _ _ _ (by show sb≠w.heap.size+1;omega),ab _ _ _ _ (by show sb≠w.heap.size+1;omega)]
 .rw[ab _ _ _ _ (by show pb≠w.heap.size+1;omega),ab _ _ _ _ (by show pb≠w.heap.size+1;omega)]
 have:=aD x o;rw[ab _ _ _ _ (by show x≠w.heap.size+1;omega),ab _ _ _ _ (by show x≠w.heap.size+1;omega)]
end F
section
def told_none{kd:B.Kd}(v:B.V)(h:kd.cy=none):B.told kd v=kd:=by
 obtain⟨on,e,u,o,cc⟩:=kd;have i:e=none:=h;subst i;rfl
def BQ{kd:B.Kd}{c:B.Cy}(v:B.V)(h:kd.cy=some c):B.told kd v=⟨kd.on,some ⟨(B.seen c.m c.st v).1,(B.seen c.m c.st v).2,c.nx⟩,kd.un,kd.fo,kd.cc⟩:=by
 unfold B.told;rw[h];rfl
theorem Js(eb g c n:Nat)(ad:Option Addr)(H:Nat->Int)(xs:List Nat)(w:aa)(he:w.cell? (ay eb 32)=some (.slice ad n c))(le:eb<w.heap.size)(hn:n=xs.length)(a9:n<=1000000000)(Z:∀j x,xs[j]? = some x->ad=some (ay g 0)/\w.cell? (ay g j)=some (P0 x))(lg:xs≠[]->g<w.heap.size)(J:∀x,x∈xs->w.cell? (ay x 0)=some (aj (H x))/\x<w.heap.size): dD 43 #[P0 eb] w (dA w.heap.size n n) λw'=>w'.ownsRow w.heap.size 3 1 (dA w.heap.size n n) n (xs.map (λx=>aj (H x)))/\w.grownBy w' none:=by
 obtain⟨i0,hi,a2,a0,W⟩:=info_parts Tryz.IC;have HC:=bj Z;have HN:=bj hn;have HG:=bj lg;have HM:=bj J;clear Z hn lg J;delta dD;go_in;go_wp2_with (at_make;go_loud (refine wpList_make_full _ rfl _ _ 54 rfl w.heap.size 3 i0 _ 1 underlying54 hi a2 a0 _ _ _ _ n rfl rfl rfl rfl (kr W) pY (bq _) ?_))
 intro w3 G o;have Y:jF w3 w.heap.size 3 n:=by
  have:=jF.owned G;rwa [Nat.mul_one]at this
 have aA:=(bd o (a:=ay eb 32) le).1.trans he;have a4:=bj Y;have a5:=bj o;clear G o Y he hi a2 a0 W i0;go_wp2_with fail
 go_loopw [19] (λi wr=>∃j:Nat,i=aj j/\j<=n/\Hid (jF wr w.heap.size 3 n)/\Hid (w.grownBy wr none)/\Hid (∀p x,p<j->xs[p]? = some x->wr.cell? (ay w.heap.size p)=some (aj (H x)))) (λi _=>n-(intOf i).toNat)
 case atStart=>exact⟨0,rfl,ag,a4,a5,(λp x hp=>dp hp ag)⟩
 case round=>
  obtain⟨j,rfl,hj,rB,rG,rC⟩:=hrel;by_cases a6:j<n
  .obtain⟨x,hx⟩:∃x,xs[j]? = some x:=⟨_,bz (gp HN.out)⟩;obtain⟨rfl,a1⟩:=HC.out j x hx;have u:=eh hx;have cj:wr.cell? (ay g j)=some (P0 x):=(bd rG.out (a:=ay g j) (HG.out (by intro e;rw[e]at u;cases u))).1.trans a1;obtain⟨m1,m2⟩:=HM.out x u;have cx:=(bd rG.out (a:=ay x 0) m2).1.trans m1;obtain⟨⟨y,cy⟩,zy⟩:=rB.out.cell j a6;have a8:(j:Int)<(n:Int):=ag
   have KC:Hid (∀p z,p<j+1->xs[p]? = some z->(wr.setCell (ay w.heap.size j) (aj (H x))).cell? (ay w.heap.size p)=some (aj (H z))):=λp z hp hz=>by
    by_cases a3:p=j
    .subst a3;rw[(bj hx).out]at hz;injection hz with hz;subst hz;exact World.cell?_setCell_same _ _ _ cy
    rw[dH _ _ _ _ AA];exact rC.out p z ag hz
   clear a1 u m1 m2 hx;go_wp2_with fail
   go_roundw
   case rel=>exact⟨j+1,iA,ag,rB.out.set _ _ _,bu rG.out (ah eB) _,KC⟩
   case measure=>simp[intOf];omega
  have a7:¬(j:Int)<(n:Int):=ag
  obtain rfl:j=n:=by omega
  go_wp2_with fail
  go_ret;refine⟨rfl,nD (bq _) (bq _) pY (by rw[ef,<-HN.out]) rB.out (λp y hy=>?_),rG.out⟩;rw[eP]at hy;obtain⟨z,hz,rfl⟩:=Option.map_eq_some_iff.1 hy;exact rC.out p z (by have:=(cf.1 hz).1;have:=HN.out;omega) hz
