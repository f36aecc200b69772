import Derived.Test.YtnjiinbhbjpfkaaGreatDoorKE
import Derived.Test.YtnjiinbhbjpfkaaGreatDoorKC
set_option maxRecDepth 100000
set_option maxHeartbeats 0
set_option linter.all false
namespace Go.Proofs.YtnjiinbhbjpfkaaGreatDoor
open Go.RowKit Go.Proofs.Tryz
section
theorem gW{w:World}{b o:Nat}{v:Value}(h:w.cell? ⟨b,o,none⟩=some v):b<w.heap.size:=by
 rcases Nat.lt_or_ge b w.heap.size with e|e
 .exact e
 have:=Array.getElem?_eq_none e;simp[World.cell?,this]at h
def vV(w0 w:World)(cb rd sb n:Nat)(ad:Option Addr)(c:B.Cy)(l:List B.V):Prop:=
 dy (nh cb rd ad) w0 w/\∃ad' cap',vY ad ad' w0.heap.size/\kY w cb rd sb n ad' cap' ⟨(B.fY c.m c.st l).1,(B.fY c.m c.st l).2,c.nx⟩
theorem Ei{w:World}{cb e sb n:Nat}{ad:Option Addr}{cap:Nat}{c:B.Cy}(h:kY w cb e sb n ad cap c):vV w w cb e sb n ad c []:=⟨dk _ _,ad,cap,vY.refl _ _,h⟩
theorem vV.kept{w0 w w':World}{cb o sb n:Nat}{ad:Option Addr}{c:B.Cy}{l:List B.V}(h:vV w0 w cb o sb n ad c l)(u:w.grownBy w' none):vV w0 w' cb o sb n ad c l:=by
 obtain⟨H,i,e,G,y⟩:=h;exact⟨H.gR u,i,e,G,y.kept u⟩
theorem AS{n:Nat}{c:B.Cy}{l:List B.V}(hn:n<=200)(i:c.st.length+B.kX c.m n<=n)(e:∀v,v∈l->v.1≠0->v.1<=n):(B.fY c.m c.st l).2.length<=200:=by
 have:=B.me (n:=n) l c.m c.st e;omega
theorem wu{w0 w:World}{cb y sb n:Nat}{ad:Option Addr}{c:B.Cy}{l:List B.V}(v:B.V)(h:vV w0 w cb y sb n ad c l)(hn:n<=200)(hs:c.st.length+B.kX c.m n<=n)(W:∀v,v∈l->v.1≠0->v.1<=n)(hv:v.1≠0->v.1<=n): Calls prog 188 #[P0 cb,vA v] w λe w'=>e=.returned (.tuple #[])/\vV w0 w' cb y sb n ad c (l++[v]):=by
 obtain⟨H,u,i,J,h3⟩:=h;refine(qd cb y sb n u i _ v w h3 hv hn (AS hn hs W)).mono ?_;rintro e w' ⟨rfl,G,o,h4,h5,Z⟩;refine⟨rfl,H.trans Z (λk Y W=>(J.Hz Y).resolve_right (by omega)),G,o,J.trans h4 H.size,?_⟩;rw[B.oM];exact h5
def IC(Q:Nat->Prop)(w:World)(eb nr:Nat)(R:Nat->B.V):Prop:=
 ∀(w1:World) (cb rd sb n:Nat) (ad:Option Addr) (cap:Nat) (c:B.Cy),(∀k,Q k->w1.heap[k]? = w.heap[k]?)->kY w1 cb rd sb n ad cap c->(∀k,Q k->¬nh cb rd ad k)->n<=200->c.st.length+B.kX c.m n<=n->(∀i,i<nr->(R i).1≠0->(R i).1<=n) ->
  Calls prog 59 #[P0 eb,.func (.func 188) #[P0 cb] #[]] w1 λe w2=>e=.returned (.tuple #[])/\vV w1 w2 cb rd sb n ad c (B.iE R nr)
theorem IC.block{Q:Nat->Prop}{w w':World}{eb nr:Nat}{R:Nat->B.V}(h:IC Q w eb nr R)(i:∀k,Q k->w'.heap[k]? = w.heap[k]?):IC Q w' eb nr R:=
 λw1 y u sb n ad cap c o=>h w1 y u sb n ad cap c (λk e=>(o k e).trans (i k e))
theorem Tryz.Dn:(prog.info? 4).map (λi=>(i.zero,i.size,i.bytes))=some (some (.bool false),1,1):=by kernel_rfl
theorem tJ(Q:Nat->Prop)(eb sb pb n nr:Nat)(R:Nat->B.V)(w:World)(q0:w.cell? ⟨sb,0,none⟩=some (.slice (some ⟨pb,0,none⟩) n n))(q1:w.cell? ⟨sb,1,none⟩=some (.func (.func 59) #[P0 eb] #[]))(hV:IC Q w eb nr R)(hQ:∀k,Q k->k<w.heap.size)(hn:n<=200)(hR:∀i,i<nr->(R i).1≠0->(R i).1<=n): Calls prog 135 #[P0 sb] w λe w'=>∃cb rd ad cap,e=.returned (P0 cb)/\Below w.heap.size w w'/\(∀k,nh cb rd ad k->w.heap.size<=k)/\kY w' cb rd sb n ad cap (B.begun R nr):=by
 have ls:=gW q0;have aA:=az hV;have HQ:=az hQ;have HR:=az hR;obtain⟨i0,hi,aB,a8,a6⟩:=info_parts Tryz.Dn;go_in;go_wp2_with (at_make;go_loud (refine wpList_make_full _ rfl _ _ 231 rfl w.heap.size 4 i0 _ 1 Tryz.underlying231 hi aB a8 _ _ _ _ n rfl rfl rfl rfl (by rw[a6];omega) (by unfold maxLen;omega) (by simp) ?_))
 intro J H y;have a2:Full J w.heap.size 4 n n (λj=>.bool ((λ_=>false:Nat->Bool) (j+1))):=by
  rcases H.2 with⟨h,_⟩|⟨g',aC,a5,G,h2,h3,h4,h5,h6,h7⟩
  .cases h
  injection G with G _ hc;injection G with G;injection G with G _ _;have a9:g'=w.heap.size:=by simpa using G.symm
  subst a9 hc;refine⟨a5,h3,by omega,λj hj=>?_⟩;have e1:=congrArg (λl=>l[j]?) h7;rw[toList_madeCells_one]at e1;simp only[dh,List.getElem?_replicate]at e1;rw[aj (by omega),aj (by omega)]at e1;simpa using e1
 have a0:=az y;have Z:=az a2;have aF:=dm ls y.size;have s1:=(bh y (a:=⟨sb,1,none⟩) ls).1.trans q1;go_wp2_with fail
 have aD:=Z.out.lt;have a3:kY (J.alloc (.cells #[P0 sb,.slice (some ⟨w.heap.size,0,none⟩) n n,.slice none 0 0,.int .i64 0] 275)) J.heap.size w.heap.size sb n none 0 ⟨λ_=>false,[],0⟩:=
  ⟨bf _ _,Z.out.block (ak _ _ _ Z.out.lt),fM.nil _ _⟩
 have a7:=az a3;have o:Hid (Below w.heap.size w (J.alloc (.cells #[P0 sb,.slice (some ⟨w.heap.size,0,none⟩) n n,.slice none 0 0,.int .i64 0] 275))):=(tI a0.out).alloc a0.out.size _;refine(aA.out _ J.heap.size w.heap.size sb n none 0 ⟨λ_=>false,[],0⟩ (λk W=>o.out.block k (HQ.out k W)) a7.out (λk W h=>?_) hn (by show 0+_<=n;rw[B.vN];omega) HR.out).mono ?_
 .have:=HQ.out k W;rcases h with h|h|h
  .omega
  .omega
  cases h
 rintro e w5 ⟨rfl,u,ad,cap,a4,a1⟩;have Y:Hid (Below w.heap.size w w5/\(∀k,nh J.heap.size w.heap.size ad k->w.heap.size<=k)/\kY w5 J.heap.size w.heap.size sb n ad cap (B.begun R nr)):=by
  refine⟨⟨u.1.trans o.out.os,u.2.1.trans o.out.tape,u.2.2.1.trans o.out.output,dH o.out.size u.size,λk W=>(u.same (by simp;omega) (λh=>?_)).trans (o.out.block k W)⟩,λk W=>?_,a1⟩
  .rcases h with h|h|h
   .omega
   .omega
   cases h
  rcases W with h|h|h
  .omega
  .omega
  rcases a4 k h with G|G
  .cases G
  simp at G;omega
 go_wp2_with fail
 go_ret;exact⟨_,_,ad,cap,rfl,Y.out.1,Y.out.2.1,Y.out.2.2⟩
theorem tF(cb o sb n:Nat)(ad:Option Addr)(cap:Nat)(c:B.Cy)(w:World)(i:kY w cb o sb n ad cap c): Calls prog 137 #[P0 cb] w λe w'=>e=.returned (.bool (decide (c.nx=n)))/\w.grownBy w' none:=by
 obtain⟨_,c1,_,u,_,_⟩:=i.c1;have G:(((c.nx:Nat):Int) == (n:Int))=decide (c.nx=n):=by
  by_cases h:c.nx=n
  .simp[h]
  have:¬((c.nx:Int)=(n:Int)):=by omega
  simp[h,this]
 generalize decide (c.nx=n)=d at *;generalize c.nx=x at *;go_in;go_wp2_with fail
 go_quiet (fail)
 go_wp2_with fail
 go_ret;exact⟨rfl,db (ax _ _) _⟩
theorem kY.step{w:World}{cb e sb n:Nat}{ad:Option Addr}{cap:Nat}{c:B.Cy}(h:kY w cb e sb n ad cap c)(o:e≠cb)(u:∀k,(Value.slice ad c.st.length cap).ownBlock=some k->k≠cb):kY (w.setCell ⟨cb,3,none⟩ (.int .i64 ((c.nx:Int)+1))) cb e sb n ad cap (B.look c):=by
 refine⟨?_,h.r.off o,h.q.block (λk i=>af _ _ _ _ (u k i))⟩;simp[World.setCell,cn,h.b,B.look]
theorem iS(on:Nat->Bool)(c:B.Cy)(p:Nat)(h:B.kh on c p=true):on p=true:=B.iS h
end
namespace F
theorem CM(on:Nat->Bool)(f:Fb)(M:Nat->List B.V)(i:Nat)(j:Nat): iM (B.free on (i+1)) f M j=ep (ep (ep (iM on f M) (i*3) (.int .u8 0)) (i*3+1) (.int .i64 0)) (i*3+2) (.slice none 0 0) j:=by
 by_cases o:j=i*3+2
 .subst o;rw[gf,sQ,B.rK];rfl
 rw[eG _ _ _ _ o];by_cases y:j=i*3+1
 .subst y;rw[gf,zH,B.rK];rfl
 rw[eG _ _ _ _ y];by_cases u:j=i*3
 .subst u;rw[gf,zI,B.rK];rfl
 rw[eG _ _ _ _ u]
 unfold iM;rw[B.xK _ _ _ (by omega)]
theorem A8(cb rd sb pb n:Nat)(ad:Option Addr)(cap:Nat)(c:B.Cy)(on:Nat->Bool)(f:Fb)(M:Nat->List B.V)(w:World)(o:kY w cb rd sb n ad cap c)(hP:ow w pb n on f M)(h0:w.cell? ⟨sb,0,none⟩=some (.slice (some ⟨pb,0,none⟩) n n))(hx:c.nx<n)(hn:n<=200): Calls prog 190 #[P0 cb] w λe w'=>e=.returned (.tuple #[])/\kY w' cb rd sb n ad cap (B.look c)/\ow w' pb n (B.kh on c) f M/\dy (λk=>k=pb\/k=cb) w w':=by
 have KC:=az o;have y:=az hP;obtain⟨c0,c1,_,c3,_,f3⟩:=o.c1;have m0:=o.r.cell c.nx hx;have G:pb≠cb:=by obtain⟨cu,h,_⟩:=hP.p;exact dW h o.b (by decide)
 have a4:pb≠rd:=by obtain⟨cu,h,_⟩:=hP.p;obtain⟨Y,W,_⟩:=o.r;exact dW h W (by decide)
 have a7:(c.nx:Int)<(n:Int):=by omega
 have a8:IntKind.i64.wrap ((c.nx:Int)+1)=((c.nx:Int)+1):=by simp[IntKind.wrap,IntKind.bits,IntKind.signed];omega
 have a5:wrap64 ((c.nx:Int)+1)=((c.nx:Int)+1):=bd _ ⟨by omega,by omega⟩;have hq:∀k,(Value.slice ad c.st.length cap).ownBlock=some k->k≠cb/\k≠pb:=λk u=>by
  obtain⟨cu,h⟩:=o.q.ty k u;refine⟨dW h o.b (by decide),?_⟩;obtain⟨Y,W,_⟩:=hP.p;exact dW h W (by decide)
 have HQ:=az hq;have a0:rd≠cb:=by obtain⟨Y,W,_⟩:=o.r;exact dW W o.b (by decide)
 have Z:∀p,1<=p->p<=n->on p=true->f.b p≠cb/\f.b p≠pb:=λp a b d=>by
  obtain⟨cu,h,_⟩:=hP.s p a b d;refine⟨dW h o.b (by decide),?_⟩;obtain⟨Y,W,_⟩:=hP.p;exact dW h W (by decide)
 have a2:=az Z
 cases hm:c.m (c.nx+1)
 .obtain⟨p0,z0⟩:=y.out.p.cells (c.nx*3) (by omega);obtain⟨p1,z1⟩:=y.out.p.cells (c.nx*3+1) (by omega);obtain⟨p2,z2⟩:=y.out.p.cells (c.nx*3+2) (by omega);generalize iM on f M (c.nx*3)=y0 at p0;generalize iM on f M (c.nx*3+1)=y1 at p1;generalize iM on f M (c.nx*3+2)=y2 at p2;rw[hm]at m0;have HM:=az hm;have a6:=az (ay c0 (ay c1 c3));generalize J:c.nx=x at *;go_in;go_wp2_with fail
  go_quiet (fail)
  go_wp2_with fail
  go_region
  go_wp2_with fail
  go_end0;subst J;have H:B.kh on c=B.free on (c.nx+1):=by unfold B.kh;rw[aa (by rw[HM.out];decide)]
  have a1:∀k,k≠pb->((((w.drewN (nq+1)).setCell ⟨pb,c.nx*3,none⟩ (.int .u8 0)).setCell ⟨pb,c.nx*3+1,none⟩ (.int .i64 0)).setCell ⟨pb,c.nx*3+2,none⟩ (.slice none 0 0)).heap[k]? = w.heap[k]?:=λk u=>by
   rw[af _ _ _ _ u,af _ _ _ _ u,af _ _ _ _ u];rfl
  refine⟨rfl,kY.step (KC.out.block (λk u=>a1 k ?_)) a0 (λk u=>(HQ.out k u).1),⟨?_,λp a b d=>?_,λp q a b d e g h=>y.out.i p q a b d e (iS _ _ _ g) (iS _ _ _ h),λp a=>y.out.l p (iS _ _ _ a),λp a=>y.out.k p (iS _ _ _ a)⟩,?_⟩
  .rcases u with h|h|h
   .rw[h];exact λe=>G e.symm
   .rw[h];exact λe=>a4 e.symm
   exact(HQ.out k (by rw[dr];exact h)).2
  .rw[H];have hP:Full (w.drewN (nq+1)) pb 228 (n*3) (n*3) (iM on f M):=y.out.p;exact((((hP.ep (c.nx*3) (.int .u8 0)).ep (c.nx*3+1) (.int .i64 0)).ep (c.nx*3+2) (.slice none 0 0)).congr (λj _=>(CM on f M c.nx j).symm)).off G
  .have h:=a2.out p a b (iS _ _ _ d);exact((y.out.s p a b (iS _ _ _ d)).block (a1 _ h.2)).off h.1
  exact bm (bm (bm (bm (sZ (dk _ _) _) (ag (ag rfl)) _) (ag (ag rfl)) _) (ag (ag rfl)) _) (ag (ab rfl)) _
 rw[hm]at m0;have HM:=az hm;generalize J:c.nx=x at *;go_in;go_wp2_with fail
 go_quiet (fail)
 go_wp2_with fail
 go_end0;subst J;have H:B.kh on c=on:=by unfold B.kh;rw[aj HM.out]
 rw[H];have o:kY (w.drewN nq) cb rd sb n ad cap c:=KC.out.block (λ_ _=>rfl);have hP:ow (w.drewN nq) pb n on f M:=y.out.block rfl (λ_ _ _ _=>rfl);refine⟨rfl,o.step a0 (λk u=>(HQ.out k u).1),hP.block (af _ _ _ _ G) (λp a b d=>af _ _ _ _ (a2.out p a b d).1),bm (sZ (dk _ _) _) (ag (ab rfl)) _⟩
def Io(w0 w:World)(cb rd sb n pb:Nat)(ad:Option Addr)(c:B.Cy)(st:List Nat)(on:Nat->Bool)(f:Fb)(M:Nat->List B.V)(l:List B.V):Prop:=
 dy (nh cb rd ad) w0 w/\ow w pb n on f M/\∃ad' cap',vY ad ad' w0.heap.size/\kY w cb rd sb n ad' cap' ⟨(B.fY c.m st l).1,(B.fY c.m st l).2,c.nx⟩
theorem Io.kept{w0 w w':World}{cb u sb n pb:Nat}{ad:Option Addr}{c:B.Cy}{y:List Nat}{on:Nat->Bool}{f:Fb}{M:Nat->List B.V}{l:List B.V}(h:Io w0 w cb u sb n pb ad c y on f M l)(i:w.grownBy w' none):Io w0 w' cb u sb n pb ad c y on f M l:=by
 obtain⟨H,J,o,e,W,G⟩:=h;exact⟨H.gR i,J.kept i,o,e,W,G.kept i⟩
theorem rq{w:World}{cb y sb n pb m:Nat}{ad:Option Addr}{cap:Nat}{c:B.Cy}{on:Nat->Bool}{f:Fb}{M:Nat->List B.V}(hP:ow w pb m on f M)(W:kY w cb y sb n ad cap c):¬nh cb y ad pb/\∀p,1<=p->p<=m->on p=true->¬nh cb y ad (f.b p):=by
 have o:∀(k:Nat) (u:Array Value) (T:TypeId),w.heap[k]? = some (.cells u T (0,0))->T≠275/\T≠4/\T≠3->¬nh cb y ad k:=by
  intro k u T J G h;obtain⟨H,T',i,e⟩:=W.ty k h;rw[J]at i;injection i with i;injection i with _ i _
  subst i;rcases e with e|e|e
  .exact G.1 e
  .exact G.2.1 e
  exact G.2.2 e
 refine⟨?_,λp a b d=>?_⟩
 .obtain⟨H,h,_⟩:=hP.p;exact o _ _ _ h (by decide)
 obtain⟨H,h,_⟩:=hP.s p a b d;exact o _ _ _ h (by decide)
theorem B3{w0 w:World}{cb Y sb n pb:Nat}{ad:Option Addr}{c:B.Cy}{y:List Nat}{on:Nat->Bool}{f:Fb}{M:Nat->List B.V}{l:List B.V}(v:B.V)(h:Io w0 w cb Y sb n pb ad c y on f M l)(hn:n<=200)(hs:y.length+B.kX c.m n<=n)(hl:∀v,v∈l->v.1≠0->v.1<=n)(hv:v.1≠0->v.1<=n): Calls prog 188 #[P0 cb,vA v] w λe w'=>e=.returned (.tuple #[])/\Io w0 w' cb Y sb n pb ad c y on f M (l++[v]):=by
 obtain⟨h1,hP,J,i,h2,h3⟩:=h;have u:(B.fY c.m y l).2.length<=200:=by have:=B.me (n:=n) l c.m y hl;omega
 have o:=rq hP h3;refine(qd cb Y sb n J i _ v w h3 hv hn u).mono ?_;rintro e w' ⟨rfl,Z,G,h4,h5,W⟩;refine⟨rfl,h1.trans W (λk hk hl=>(h2.Hz hk).resolve_right (by omega)),hP.block (W.same hP.p.lt o.1) (λp a b d=>W.same (hP.s p a b d).lt (o.2 p a b d)),Z,G,h2.trans h4 h1.size,?_⟩;rw[B.oM];exact h5
theorem AH(cb rd sb pb n p:Nat)(ad:Option Addr)(cap:Nat)(c:B.Cy)(st:List Nat)(on:Nat->Bool)(f:Fb)(M:Nat->List B.V)(w:World)(hC:kY w cb rd sb n ad cap c)(hP:ow w pb n on f M)(h0:w.cell? ⟨sb,0,none⟩=some (.slice (some ⟨pb,0,none⟩) n n))(hsb:¬nh cb rd ad sb)(hst:c.st=st++[p])(hp:1<=p/\p<=n/\on p=true)(hv:∀v,v∈M p->v.1≠0->v.1<=n)(hs:st.length+B.kX c.m n<=n)(hn:n<=200): Calls prog 189 #[P0 cb] w λe w'=>e=.returned (.tuple #[])/\ow w' pb n on f M/\dy (nh cb rd ad) w w'/\∃ad' cap',vY ad ad' w.heap.size/\kY w' cb rd sb n ad' cap' (B.AI M c st p):=by
 obtain⟨k,rfl⟩:∃k,p=k+1:=⟨p-1,by omega⟩;have hkd:=hp.2.2
 have hC2:w.heap[cb]? = some (.cells #[P0 sb,.slice (some ⟨rd,0,none⟩) n n,.slice ad (st.length+1) cap,.int .i64 c.nx] 275 (0,0)):=by have:=hC.b;rw[hst,bo,eF]at this;exact this
 have hq:fM w 3 (.slice ad ((mD st).length+1) cap) (mD st++[.int .i64 (k:Int)]):=by
  have:=hC.q;rw[hst,zq,bo,eF,<-uV st]at this;exact this
 obtain⟨g,off,rfl,lg,hcap,hlast,hq2⟩:=hq.pop;rw[uV]at hcap hlast hq2;obtain⟨e0,_,e2,_⟩:w.cell? ⟨cb,0,none⟩=some (P0 sb)/\True/\w.cell? ⟨cb,2,none⟩=some (.slice (some ⟨g,off,none⟩) (st.length+1) cap)/\True:=by simp[World.cell?,hC2]
 have z2:w.frozen? ⟨cb,2,none⟩=false:=by simp[World.frozen?,hC2]
 have p2:=hP.p.cell (k*3+2) (by omega);rw[sQ,hkd]at p2;have hsl:oL true (f.b (k+1)) (M (k+1)).length=.slice (some ⟨f.b (k+1),0,none⟩) (M (k+1)).length (M (k+1)).length:=rfl;rw[hsl]at p2;have hne:=rq hP hC;have npc:¬pb=cb:=λe=>hne.1 (ag e);have ngc:g≠cb:=by
  obtain⟨cu,h⟩:=hq.ty g rfl;exact dW h hC2 (by decide)
 have ncg:¬cb=g:=λe=>ngc e.symm;have hl8:=hP.l _ hkd;have hsb2:st.length<=200:=by omega
 have hcl:st.length<=cap:=by omega
 have KT:Hid (Io w (w.setCell ⟨cb,2,none⟩ (.slice (some ⟨g,off,none⟩) st.length cap)) cb rd sb n pb (some ⟨g,off,none⟩) c st on f M []):=by
  refine⟨bm (dk _ _) (ag (ag rfl)) _,hP.block (af _ _ _ _ (λe=>npc e)) (λp a b d=>af _ _ _ _ (λe=>hne.2 p a b d (ag e))),some ⟨g,off,none⟩,cap,vY.refl _ _,⟨?_,hC.r.off (by obtain⟨cu',h',_⟩:=hC.r;exact dW h' hC2 (by decide)),hq2.block (λx hx=>af _ _ _ _ ?_)⟩⟩
  .simp[World.setCell,cn,hC2,B.fY]
  have e:g=x:=by injection hx
  subst e;exact ngc
 have HV:=az hv;have HST:=az hs;have HPL:=az hp;have hki:(k:Int)<(n:Int):=by omega
 have hli:(st.length:Int)<(st.length:Int)+1:=by omega
 have hsub:(st.length:Int)+1-1=(st.length:Int):=by omega
 have hwr:IntKind.i64.wrap (st.length:Int)=(st.length:Int):=by simp[IntKind.wrap,IntKind.bits,IntKind.signed];omega
 have hwr2:wrap64 (st.length:Int)=(st.length:Int):=bd _ ⟨by omega,by omega⟩;generalize hln:st.length=ln at *;have HLN:=az hln;clear hC hP hC2 hq hq2 hst hne hs hv hsl hp hln hsb;go_in;go_wp2_with fail
 generalize hW:w.setCell ⟨cb,2,none⟩ (.slice (some ⟨g,off,none⟩) ln cap)=w1 at *;clear hW e0 e2 z2 h0 p2 hlast;go_loopw [40] (λi wr=>∃j:Nat,j<=(M (k+1)).length/\i=.int .i64 j/\Hid (Io w wr cb rd sb n pb (some ⟨g,off,none⟩) c st on f M ((M (k+1)).take j))) (λi _=>(M (k+1)).length-(intOf i).toNat)
 case atStart=>exact⟨0,by omega,rfl,KT⟩
 case round=>
  obtain⟨j,hj,rfl,hX⟩:=hrel;by_cases hlt:j<(M (k+1)).length
  .have hF:=hX.out.2.1.s (k+1) HPL.out.1 HPL.out.2.1 HPL.out.2.2;have r0:=hF.cell (j*2) (by omega);have r1:=hF.cell (j*2+1) (by omega);rw[nE]at r0;rw[nD]at r1;clear hF;have hmem:jQ M (k+1) j∈M (k+1):=by
    show(M (k+1)).getD j (0,0)∈M (k+1);rw[ar,bn hlt];exact List.getElem_mem hlt
   have htk:(M (k+1)).take (j+1)=(M (k+1)).take j++[jQ M (k+1) j]:=by
    rw[List.take_succ_eq_append_getElem hlt];congr 1
    show[_]=[(M (k+1)).getD j (0,0)];rw[ar,bn hlt];rfl
   generalize hvv:jQ M (k+1) j=vv at *;have HTK:=az htk;have HMem:=az hmem;clear htk hmem hvv;have hji:(j:Int)<((M (k+1)).length:Int):=by omega
   generalize hll:(M (k+1)).length=ml at *;clear hll;go_wp2_with fail
   refine(B3 vv (hX.out.kept (ah _ _ _)) hn (by rw[HLN.out];exact HST.out) (λv hv h0=>HV.out v (List.mem_of_mem_take hv) h0) (HV.out vv HMem.out)).mono ?_;rintro e w5 ⟨rfl,hV5⟩;rw[<-HTK.out]at hV5;have KV5:=az hV5;clear hV5 r0 r1;go_wp2_with fail
   go_roundw
   case rel=>exact⟨j+1,by omega,by go_num,KV5⟩
   case measure=>simp[intOf];omega
  have hjl:j=(M (k+1)).length:=by omega
  have hX2:=hX.out;rw[hjl,List.take_length]at hX2;have KX:=az hX2;clear hX2;go_wp2_with fail
  go_end0;obtain⟨x1,x2,ad',cap',x3,x4⟩:=KX.out;exact⟨rfl,x2,x1,ad',cap',x3,x4⟩
theorem uj(cb o sb pb n:Nat)(ad:Option Addr)(cap:Nat)(c:B.Cy)(on:Nat->Bool)(f:Fb)(M:Nat->List B.V)(T:Nat->Prop)(w:World)(H:kY w cb o sb n ad cap c)(hP:ow w pb n on f M)(G:w.cell? ⟨sb,0,none⟩=some (.slice (some ⟨pb,0,none⟩) n n))(u:¬nh cb o ad sb)(y:B.lR on n M c T)(hs:c.st.length+B.kX c.m n<=n)(hx:c.nx<n)(hn:n<=200): Calls prog 136 #[P0 cb] w λe w'=>e=.returned (.tuple #[])/\ow w' pb n (B.unit M on c).1 f M/\dy (λk=>k=pb\/nh cb o ad k) w w'/\∃a1 Y,vY ad a1 w.heap.size/\kY w' cb o sb n a1 Y (B.unit M on c).2:=by
 obtain⟨_,_,e2,_,_,_⟩:=H.c1;have lc:=bz H.b;rcases List.eq_nil_or_concat c.st with i|⟨st,p,i⟩
 .have HL:=az (A8 cb o sb pb n ad cap c on f M w H hP G hx hn);rw[B.nV i];rw[i]at e2;go_in;go_wp2_with fail
  refine HL.out.mono ?_;rintro e w1 ⟨rfl,h1,W,Z⟩;have J:=az (ay W (ay (Z.mono (S1:=λk=>k=pb\/nh cb o ad k) (λk hk _=>hk.imp id (λh=>ag h))) h1));go_wp2_with fail
  go_end0;exact⟨rfl,J.out.1,J.out.2.1,ad,cap,vY.refl _ _,J.out.2.2⟩
 rw[List.concat_eq_append]at i;have a0:=y.hc p (y.hd p (by rw[i];simp))
 have HL:=az (AH cb o sb pb n p ad cap c st on f M w H hP G u i (y.ha p a0) (λv hv G=>(y.ha _ ((y.hb p a0 v hv).2 G)).2.1) (by rw[i]at hs;simp at hs;omega) hn);rw[B.nU i];rw[i,bo,eF]at e2;have a4:(0:Int)<(st.length:Int)+1:=by omega
 go_in;go_wp2_with fail
 refine HL.out.mono ?_;rintro e w1 ⟨rfl,h1,W,Z⟩;have J:=az (ay h1 (ay (W.mono (S1:=λk=>k=pb\/nh cb o ad k) (λk hk _=>ab hk)) Z));go_wp2_with fail
 go_end0;exact⟨rfl,J.out⟩
end F
section
theorem pT(a:Nat):wrap64 (wrap64 (a:Int)+1)=wrap64 ((a+1:Nat):Int):=by unfold wrap64;omega
def F1(w:World)(cb:Nat):Nat:=match w.cell? ⟨cb,2,none⟩ with|some (.slice _ n _)=>n|_=>0
def Jf(w:World)(cb:Nat):Nat:=match w.cell? ⟨cb,3,none⟩ with|some (.int _ n)=>n.toNat|_=>0
def vL(w:World)(rd:Nat):Nat->Nat
 | 0=>0
 | k+1=>vL w rd k+(match w.cell? ⟨rd,k,none⟩ with|some (.bool true)=>0|_=>1)
def todo(w:World)(cb rd n:Nat):Nat:=F1 w cb+vL w rd n+(n-Jf w cb)
theorem uG{w:World}{e n:Nat}{m:Nat->Bool}(h:Full w e 4 n n (λj=>.bool (m (j+1)))):∀k,k<=n->vL w e k=B.kX m k
 | 0,_=>rfl
 | k+1,hk=>by
  rw[vL,B.kX,uG h k (by omega),h.cell k (by omega)]
  cases m (k+1)<;>rfl
theorem zn{w:World}{cb e sb n:Nat}{ad:Option Addr}{cap:Nat}{c:B.Cy}(h:kY w cb e sb n ad cap c):todo w cb e n=c.st.length+B.kX c.m n+(n-c.nx):=by
 obtain⟨_,_,o,i,_⟩:=h.c1;unfold todo F1 Jf;rw[uG h.r n (bj _),o,i];simp
theorem AA{on:Nat->Bool}{n:Nat}{M:Nat->List B.V}{c:B.Cy}{T:Nat->Prop}(h:B.lR on n M c T)(hx:c.nx<n): (B.unit M on c).2.st.length+B.kX (B.unit M on c).2.m n+(n-(B.unit M on c).2.nx)+1=c.st.length+B.kX c.m n+(n-c.nx)/\(B.unit M on c).2.st.length+B.kX (B.unit M on c).2.m n<=c.st.length+B.kX c.m n:=by
 rcases List.eq_nil_or_concat c.st with e|⟨i,p,e⟩
 .rw[B.nV e];show c.st.length+B.kX c.m n+(n-(c.nx+1))+1=_/\c.st.length+B.kX c.m n<=_;omega
 rw[List.concat_eq_append]at e;have:=B.me (n:=n) (M p) c.m i (λv u y=>(h.ha _ ((h.hb p (h.hc p (h.hd p (by rw[e];simp))) v u).2 y)).2.1);rw[B.nU e];show(B.fY c.m i (M p)).2.length+B.kX (B.fY c.m i (M p)).1 n+(n-c.nx)+1=_/\(B.fY c.m i (M p)).2.length+B.kX (B.fY c.m i (M p)).1 n<=_;rw[e,bo,eF];omega
theorem Bz{kd:B.Kd}{nr n:Nat}{s:B.St}(h:B.iZ kd nr n s):(B.begun s.2.1 nr).st.length+B.kX (B.begun s.2.1 nr).m n<=n:=by
 have:=B.me (n:=n) (B.iE s.2.1 nr) (λ_=>false) [] (λv e o=>by
  obtain⟨i,hi,rfl⟩:=B.kI.1 e;exact(B.kJ h (B.jj i hi o)).2.2)
 rw[B.vN]at this;show(B.fY (λ_=>false) [] (B.iE s.2.1 nr)).2.length+B.kX (B.fY (λ_=>false) [] (B.iE s.2.1 nr)).1 n<=n;simp at this;omega
end
namespace F
structure BG(w:World) (Q:Nat->Prop) (eb sb pb n nr:Nat) (kd:B.Kd) (vb:Vs) (s:B.St):Prop where
 hv:IC Q w eb nr s.2.1
 hq:∀k,Q k->k<w.heap.size/\k≠sb
 hs:jm w sb pb eb n kd vb s.2.2
 hh:B.iZ kd nr n s
 n1:1<=n
 n2:n<=200
theorem BG.kept{w w':World}{Q:Nat->Prop}{eb sb pb n nr:Nat}{kd:B.Kd}{vb:Vs}{s:B.St}(h:BG w Q eb sb pb n nr kd vb s)(o:w.grownBy w' none):BG w' Q eb sb pb n nr kd vb s:=
 ⟨h.hv.block (λk i=>o.block k (h.hq k i).1 (by intro e;cases e)),λk i=>⟨dm (h.hq k i).1 o.size,(h.hq k i).2⟩,h.hs.kept o,h.hh,h.n1,h.n2⟩
theorem BG.roots{w:World}{Q:Nat->Prop}{eb sb pb n nr:Nat}{kd:B.Kd}{vb:Vs}{s:B.St}(h:BG w Q eb sb pb n nr kd vb s):∀i,i<nr->(s.2.1 i).1≠0->(s.2.1 i).1<=n:=λi hi e=>(B.kJ h.hh (B.jj i hi e)).2.2
theorem jm.cells{w:World}{sb pb eb n:Nat}{kd:B.Kd}{vb:Vs}{M:Nat->List B.V}(h:jm w sb pb eb n kd vb M): w.cell? ⟨sb,1,none⟩=some (.func (.func 59) #[P0 eb] #[])/\w.cell? ⟨sb,2,none⟩=some (yg kd vb)/\w.cell? ⟨sb,3,none⟩=some (.int .i64 (wrap64 (kd.un:Int)))/\w.cell? ⟨sb,4,none⟩=some (.int .i64 (wrap64 (kd.fo:Int)))/\w.cell? ⟨sb,5,none⟩=some (.int .i64 (wrap64 (kd.cc:Int)))/\w.frozen? ⟨sb,2,none⟩=false/\w.frozen? ⟨sb,3,none⟩=false/\w.frozen? ⟨sb,4,none⟩=false/\w.frozen? ⟨sb,5,none⟩=false:=by
 simp[World.cell?,World.frozen?,h.b]
def LK(w wr:World)(cb rd sb pb n nr:Nat)(kd:B.Kd)(vb:Vs)(s:B.St)(o:Obj):Prop:=
 ∃c on ad cap,kY wr cb rd sb n ad cap c/\ow wr pb n on vb.f s.2.2/\B.lR on n s.2.2 c (B.Reach nr s)/\c.st.length+B.kX c.m n<=n/\(∀p,on p=true->kd.on p=true)/\(∀k,nh cb rd ad k->w.heap.size<=k)/\dy (λk=>k=sb\/k=pb) w wr/\wr.heap[sb]? = some o
theorem Bm(Q:Nat->Prop)(eb sb pb n nr:Nat)(kd:B.Kd)(vb:Vs)(s:B.St)(w:World)(hR:BG w Q eb sb pb n nr kd vb s): Calls prog 219 #[P0 sb] w λe w'=>e=.returned (.tuple #[])/\∃on:Nat->Bool,(∀p,1<=p->p<=n->(on p=true↔B.Reach nr s p))/\(∀p,on p=true->kd.on p=true)/\(∀p,B.Reach nr s p->on p=true)/\dy (λk=>k=sb\/k=pb) w w'/\jm w' sb pb eb n ⟨on,none,kd.un,kd.fo+1,kd.cc⟩ vb s.2.2:=by
 have KR:=az hR;obtain⟨c1,c2,c3,c4,c5,z2,z3,z4,z5⟩:=hR.hs.cells;have ls:=bz hR.hs.b;have hn:=hR.n2;have hn1:=hR.n1;have a5:sb≠pb:=by obtain⟨cu,h,_⟩:=hR.hs.p.p;exact dW hR.hs.b h (by decide)
 have HB:=az hR.hs.b;generalize hy:wrap64 (kd.fo:Int)=y at *;generalize aH:yg kd vb=cv at *;have HY:=az hy;go_in;go_wp2_with fail
 generalize hW:(w.setCell ⟨sb,4,none⟩ (.int .i64 (wrap64 (y+1)))).setCell ⟨sb,2,none⟩ (.pointer none)=w2;have aM:w2.heap.size=w.heap.size:=by rw[<-hW];simp[World.setCell]
 have Y:∀k,k≠sb->w2.heap[k]? = w.heap[k]?:=λk G=>by rw[<-hW,af _ _ _ _ G,af _ _ _ _ G]
 have Z:w2.heap[sb]? = some (.cells #[.slice (some ⟨pb,0,none⟩) n n,.func (.func 59) #[P0 eb] #[],.pointer none,.int .i64 (wrap64 (kd.un:Int)),.int .i64 (wrap64 (y+1)),.int .i64 (wrap64 (kd.cc:Int))] 207 (0,0)):=by
  rw[<-hW];have:=HB.out;simp[World.setCell,cn,this]
 have a8:Hid (dy (λk=>k=sb\/k=pb) w w2):=by
  show dy _ _ _;rw[<-hW];exact bm (bm (dk _ _) (ag (ag rfl)) _) (ag (ag rfl)) _
 have d0:w2.cell? ⟨sb,0,none⟩=some (.slice (some ⟨pb,0,none⟩) n n):=by simp[World.cell?,Z]
 have d1:w2.cell? ⟨sb,1,none⟩=some (.func (.func 59) #[P0 eb] #[]):=by simp[World.cell?,Z]
 generalize ho:(.cells #[.slice (some ⟨pb,0,none⟩) n n,.func (.func 59) #[P0 eb] #[],.pointer none,.int .i64 (wrap64 (kd.un:Int)),.int .i64 (wrap64 (y+1)),.int .i64 (wrap64 (kd.cc:Int))] 207 (0,0):Obj)=o at *;have HO:=az ho;have aA:=az Z;have a0:Hid (ow w2 pb n kd.on vb.f s.2.2):=KR.out.hs.p.block (Y pb (λe=>a5 e.symm)) (λp a b d=>Y _ (by
  obtain⟨cu,h,_⟩:=KR.out.hs.p.s p a b d;exact dW h HB.out (by decide)))
 have a7:=az (KR.out.hv.block (λk G=>Y k (KR.out.hq k G).2));clear hW Y ho Z c1 c2 c3 c4 c5 z2 z3 z4 z5;refine(tJ Q eb sb pb n nr s.2.1 w2 d0 d1 a7.out (λk G=>by have:=(KR.out.hq k G).1;omega) hn KR.out.roots).mono ?_;rintro e w3 ⟨cb,rd,ad,cap,rfl,u,a3,aC⟩;have aF:Hid (LK w w3 cb rd sb pb n nr kd vb s o):=by
  refine⟨_,kd.on,ad,cap,aC,a0.out.block (u.block pb a0.out.p.lt) (λp a b d=>u.block _ (a0.out.s p a b d).lt),B.su KR.out.hh,Bz KR.out.hh,λ_ h=>h,λk G=>by have:=a3 k G;omega,?_,(u.block sb (by omega)).trans aA.out⟩;exact a8.out.trans (S1:=λ_=>False) ⟨u.os,u.tape,u.output,u.size,λk G _=>u.block k G⟩ (λ_ h _=>h.elim)
 go_wp2_with fail
 go_loopw [] (λwr=>Hid (LK w wr cb rd sb pb n nr kd vb s o)) (λwr=>todo wr cb rd n)
 case atStart=>exact aF
 case round=>
  obtain⟨c,on,a9,a1,h1,h2,W,h4,h5,h6,h7,h8⟩:=hrel.out;have HT:=az (zn h1);have H:=az (ay h1 (ay h2 (ay W (ay h4 (ay h5 (ay h6 (ay h7 h8)))))));have HE:=az (tF cb rd sb n a9 a1 c wr h1);by_cases hx:c.nx=n
  .have hd:decide (c.nx=n)=true:=by simpa using hx
   rw[hd]at HE;have aB:=az hx;go_wp2_with fail
   refine HE.out.mono ?_;rintro e w4 ⟨rfl,J⟩;have i:=az J;go_wp2_with fail
   go_end0;obtain⟨h1,h2,W,h4,h5,h6,h7,h8⟩:=H.out;refine⟨rfl,on,λp a b=>?_,h5,λp hp=>(W.ha p hp).2.2,h7.gR i.out,⟨?_,h2.kept i.out,λc hc=>by cases hc⟩⟩
   .rw[<-W.last (W.hg (by omega)) p];exact⟨W.hi p a (by omega),λhm=>(W.ha p (W.hc p hm)).2.2⟩
   have:=cm i.out h8 (by intro e;cases e);rw[this,<-HO.out,<-HY.out,pT];rfl
  have hd:decide (c.nx=n)=false:=by simpa using hx
  rw[hd]at HE;have a6:c.nx<n:=by have:=H.out.2.2.1.hh;omega
  have a2:=az a6;go_wp2_with fail
  refine HE.out.mono ?_;rintro e w4 ⟨rfl,J⟩;have i:=az J;go_wp2_with fail
  have aD:w4.cell? ⟨sb,0,none⟩=some (.slice (some ⟨pb,0,none⟩) n n):=by
   have:=cm i.out H.out.2.2.2.2.2.2.2 (by intro e;cases e);rw[<-HO.out]at this;simp[World.cell?,this]
  refine(uj cb rd sb pb n a9 a1 c on vb.f s.2.2 (B.Reach nr s) w4 (H.out.1.kept i.out) (H.out.2.1.kept i.out) aD (λh=>?_) H.out.2.2.1 H.out.2.2.2.1 a2.out hn).mono ?_
  .have:=H.out.2.2.2.2.2.1 sb h;omega
  rintro e w5 ⟨rfl,u1,u2,aL,a4,u3,u4⟩;have aK:=AA H.out.2.2.1 a2.out;have aJ:=zn u4;have aO:=i.out.size;have aN:=H.out.2.2.2.2.2.2.1.size;have aI:Hid (LK w w5 cb rd sb pb n nr kd vb s o):=by
   obtain⟨h1,h2,W,h4,h5,h6,h7,h8⟩:=H.out;refine⟨_,_,aL,a4,u4,u1,B.uo W a2.out,by omega,λp hp=>h5 p (B.mK hp),λk G=>?_,(h7.gR i.out).trans u2 (λk G hl=>?_),(u2.same (by omega) (λh=>?_)).trans (cm i.out h8 (by intro e;cases e))⟩
   .rcases u3.Hz G with h|h
    .exact h6 k h
    omega
   .rcases G with h|h
    .exact ab h
    exact ch (h6 k h) (by omega)
   rcases h with h|h
   .exact a5 h
   exact ch (h6 sb h) (by omega)
  have aG:Hid (todo w5 cb rd n<todo wr cb rd n):=by show _<_;have:=HT.out;omega
  go_wp2_with fail
  go_roundw
  case rel=>exact aI
  case measure=>exact aG.out
theorem mu{kd:B.Kd}{vb:Vs}{c:B.Cy}(h:kd.cy=some c):yg kd vb=P0 vb.cb:=by unfold yg;rw[h];rfl
theorem mx{kd:B.Kd}{vb:Vs}(h:kd.cy=none):yg kd vb=.pointer none:=by unfold yg;rw[h];rfl
def pP(sb pb n:Nat)(kd:B.Kd)(vb:Vs)(k:Nat):Prop:=k=sb\/k=pb\/Own n kd vb k
def ox(n:Nat)(kd:B.Kd)(vb:Vs)(kd':B.Kd)(vb':Vs)(sz:Nat):Prop:=∀k,Own n kd' vb' k->Own n kd vb k\/sz<=k
theorem ox.refl(n:Nat)(kd:B.Kd)(vb:Vs)(sz:Nat):ox n kd vb kd vb sz:=λ_ h=>ag h
def Kj(w wr:World)(eb sb pb n:Nat)(kd:B.Kd)(vb:Vs)(s:B.St)(nr:Nat)(kd':B.Kd):Prop:=
 ∃vb',jm wr sb pb eb n kd' vb' s.2.2/\B.iZ kd' nr n s/\dy (pP sb pb n kd vb) w wr/\ox n kd vb kd' vb' w.heap.size/\vb'.f=vb.f
theorem jm.ju{w:World}{sb pb eb n:Nat}{kd:B.Kd}{vb:Vs}{M:Nat->List B.V}(h:jm w sb pb eb n kd vb M):sb≠pb/\∀k,Own n kd vb k->k≠sb/\k≠pb:=by
 obtain⟨G,i,_⟩:=id h.p.p;refine⟨dW h.b i (by decide),λk u=>?_⟩;obtain⟨y,T,o,e⟩:=h.ty k u;refine⟨dW o h.b ?_,dW o i ?_⟩
 .rcases e with rfl|rfl|rfl|rfl<;>decide
 rcases e with rfl|rfl|rfl|rfl<;>decide
theorem wJ{w:World}{sb pb eb n:Nat}{kd:B.Kd}{vb:Vs}{M:Nat->List B.V}{c:B.Cy}{ad:Option Addr}{cap:Nat}{x:Value}{cc:Nat}(y:w.heap[sb]? = some (.cells #[.slice (some ⟨pb,0,none⟩) n n,.func (.func 59) #[P0 eb] #[],x,.int .i64 (wrap64 ((kd.un+1:Nat):Int)),.int .i64 (wrap64 (kd.fo:Int)),.int .i64 (wrap64 (cc:Int))] 207 (0,0)))(hx:((B.unit M kd.on c).2.nx=n/\x=.pointer none/\cc=kd.cc+1)\/((B.unit M kd.on c).2.nx≠n/\x=P0 vb.cb/\cc=kd.cc))(u:ow w pb n (B.unit M kd.on c).1 vb.f M)(G:kY w vb.cb vb.rd sb n ad cap (B.unit M kd.on c).2): jm w sb pb eb n (B.ki M n kd c) { vb with ad:=ad,cap:=cap } M:=by
 rcases hx with⟨e,rfl,rfl⟩|⟨e,rfl,rfl⟩
 .have o:B.ki M n kd c=⟨(B.unit M kd.on c).1,none,kd.un+1,kd.fo,kd.cc+1⟩:=by unfold B.ki;rw[aj e]
  rw[o];exact⟨y,u,λc i=>by cases i⟩
 have o:B.ki M n kd c=⟨(B.unit M kd.on c).1,some (B.unit M kd.on c).2,kd.un+1,kd.fo,kd.cc⟩:=by unfold B.ki;rw[aa e]
 rw[o];refine⟨y,u,λH i=>?_⟩;have e:(B.unit M kd.on c).2=H:=by injection i
 subst e;exact G
theorem CN{n k:Nat}{kd:B.Kd}{vb:Vs}{M:Nat->List B.V}{c:B.Cy}{ad:Option Addr}{cap sz:Nat}(G:kd.cy=some c)(y:vY vb.ad ad sz)(i:Own n (B.ki M n kd c) { vb with ad:=ad,cap:=cap } k):Own n kd vb k\/sz<=k:=by
 have o:∀p,(B.ki M n kd c).on p=true->kd.on p=true:=λp u=>by
  have e:(B.ki M n kd c).on=(B.unit M kd.on c).1:=by unfold B.ki;split<;>rfl
  rw[e]at u;exact B.mK u
 rcases i with⟨p,a,b,d,e⟩|⟨_,i⟩
 .exact ag (ag ⟨p,a,b,o p d,e⟩)
 exact(y.Hz i).imp (λh=>ab ⟨by rw[G];rfl,h⟩) id
theorem BP(Q:Nat->Prop)(eb sb pb n nr u:Nat)(kd:B.Kd)(vb:Vs)(s:B.St)(w:World)(hR:BG w Q eb sb pb n nr kd vb s)(hu:u<=50): Calls prog 69 #[P0 sb,.int .i64 u] w λe w'=>e=.returned (.tuple #[])/\Kj w w' eb sb pb n kd vb s nr (B.work s.2.1 nr s.2.2 n u kd):=by
 have KR:=az hR;obtain⟨c1,c2,_⟩:=hR.hs.cells;have c0:=hR.hs.c0;have ls:=bz hR.hs.b;have hn:=hR.n2;clear hR;rcases hcy:kd.cy with _|aY
 all_goals
  first
  |rw[mx hcy]at c2
   have a6:=az hcy;clear hcy;go_in;go_wp2_with fail
   refine(tJ Q eb sb pb n nr s.2.1 w c0 c1 KR.hv (λk G=>(KR.hq k G).1) hn KR.roots).mono ?_;rintro e w1 ⟨cb,rd,ad,cap,rfl,J,aB,aH⟩;have a2:=(J.block sb ls).trans KR.hs.b;have x2:w1.cell? ⟨sb,2,none⟩=some (.pointer none):=by rw[mx a6]at a2;simp[World.cell?,a2]
   have y2:w1.frozen? ⟨sb,2,none⟩=false:=by simp[World.frozen?,a2]
   have aS:Hid (Kj w (w1.setCell ⟨sb,2,none⟩ (P0 cb)) eb sb pb n kd vb s nr { kd with cy:=some (B.begun s.2.1 nr) }):=by
    have hS:=KR.hs;have aI:=hS.ju;have aW:∀k,nh cb rd ad k->k≠sb:=λk G=>by have:=aB k G;omega
    refine⟨{ vb with cb:=cb,rd:=rd,ad:=ad,cap:=cap },⟨?_,?_,?_⟩,B.ti KR.hh KR.n1,?_,?_,rfl⟩
    .simp[World.setCell,cn,a2,yg]
    .exact(hS.p.block (J.block pb hS.p.p.lt) (λp a b d=>J.block _ (hS.p.s p a b d).lt)).block (af _ _ _ _ (λe=>aI.1 e.symm)) (λp a b d=>af _ _ _ _ (aI.2 _ (ag ⟨p,a,b,d,rfl⟩)).1)
    .intro c hc;have e:B.begun s.2.1 nr=c:=by injection hc
     subst e;exact aH.block (λk G=>af _ _ _ _ (aW k G))
    .exact bm ⟨J.os,J.tape,J.output,J.size,λk G _=>J.block k G⟩ (ag (ag rfl)) _
    intro k G;rcases G with⟨p,a,b,d,e⟩|⟨_,G⟩
    .exact ag (ag ⟨p,a,b,d,e⟩)
    exact ab (aB k G)
   have HU:Hid (B.fI s.2.2 n u { kd with cy:=some (B.begun s.2.1 nr) }=B.work s.2.1 nr s.2.2 n u kd):=by
    show _=_;unfold B.work;rw[a6.out]
   clear J aB aH a2;clear c0 c1 c2;go_wp2_with fail
  |rw[mu hcy]at c2
   have a6:=az hcy;clear hcy;have aS:Hid (Kj w w eb sb pb n kd vb s nr kd):=⟨vb,KR.hs,KR.hh,dk _ _,ox.refl _ _ _ _,rfl⟩;have HU:Hid (B.fI s.2.2 n u kd=B.work s.2.1 nr s.2.2 n u kd):=by
    show _=_;unfold B.work;rw[a6.out]
   go_in;go_wp2_with fail
   clear c0 c1 c2
 all_goals
  go_loopw [4] (λi wr=>∃j:Nat,j<=u/\i=.int .i64 j/\Hid (∃kd',Kj w wr eb sb pb n kd vb s nr kd'/\B.fI s.2.2 n (u-j) kd'=B.work s.2.1 nr s.2.2 n u kd)) (λi _=>u-(intOf i).toNat)
  case atStart=>exact⟨0,by omega,rfl,_,aS,HU⟩
  case round=>
   obtain⟨j,hj,rfl,hX⟩:=hrel;obtain⟨kd',⟨o,hS,hH,hO,hG,a3⟩,hU⟩:=hX;obtain⟨_,d2,_,_,_,_,_,_,_⟩:=hS.cells;have lw:=bz hS.b;have HS:=az hS;have HQ:=az (ay hH (ay hO (ay hG (ay hU a3))));clear hS hH hO hG hU a3;by_cases b3:j<u
   .have a9:(j:Int)<u:=by omega
    cases hcy':kd'.cy with
    |none=>
     rw[mx hcy']at d2;have y:=az hcy';clear hcy';go_wp2_with fail
     go_end0;obtain⟨hH,hO,hG,hU,a3⟩:=HQ;rw[B.sj y]at hU;exact⟨rfl,by rw[<-hU];exact⟨o,HS,hH,hO,hG,a3⟩⟩
    |some c=>
     rw[mu hcy']at d2;have y:=az hcy';clear hcy';obtain⟨hx,T,hT,a8⟩:=HQ.1.h3 c y;have aZ:=az a8;have aL:=az (uj o.cb o.rd sb pb n o.ad o.cap c kd'.on o.f s.2.2 T wr (HS.c c y) HS.p HS.c0 (λh=>(HS.ju.2 sb (ab ⟨by rw[y.out];rfl,h⟩)).1 rfl) a8 a8.sum hx hn);have b1:=az hx;clear a8 hT hx;go_wp2_with fail
     refine aL.mono ?_;rintro e w5 ⟨rfl,u1,u2,a0,Y,u3,u4⟩;have W:w5.heap[sb]? = _:=(u2.same lw (λh=>by
      rcases h with h|h
      .exact HS.ju.1 h
      exact(HS.ju.2 sb (ab ⟨by rw[y.out];rfl,h⟩)).1 rfl)).trans HS.b
     rw[mu y]at W;generalize aF:wrap64 (kd'.un:Int)=yu at W;generalize aE:wrap64 (kd'.cc:Int)=yc at W;have x2:w5.cell? ⟨sb,2,none⟩=some (P0 o.cb):=by simp[World.cell?,W]
     have x3:w5.cell? ⟨sb,3,none⟩=some (.int .i64 yu):=by simp[World.cell?,W]
     have y3:w5.frozen? ⟨sb,3,none⟩=false:=by simp[World.frozen?,W]
     have l5:=bz W;have aU:=az W;have a7:=az (ay aF aE);have a5:=az (ay u1 (ay u2 (ay u3 u4)));clear u1 u2 u3 u4 W aF aE d2 aL;go_wp2_with fail
     have aG:(w5.setCell ⟨sb,3,none⟩ (.int .i64 (wrap64 (yu+1)))).heap[sb]? = some (.cells #[.slice (some ⟨pb,0,none⟩) n n,.func (.func 59) #[P0 eb] #[],P0 o.cb,.int .i64 (wrap64 (yu+1)),.int .i64 (wrap64 (kd'.fo:Int)),.int .i64 yc] 207 (0,0)):=by
      have:=aU.out;simp[World.setCell,cn,this]
     have aC:∀k,nh o.cb o.rd a0 k->k≠sb:=λk G e=>by
      rcases a5.2.2.1.Hz G with h|h
      .exact(HS.ju.2 k (ab ⟨by rw[y.out];rfl,h⟩)).1 e
      omega
     have aJ:ow (w5.setCell ⟨sb,3,none⟩ (.int .i64 (wrap64 (yu+1)))) pb n (B.unit s.2.2 kd'.on c).1 o.f s.2.2:=a5.1.block (af _ _ _ _ (λe=>HS.ju.1 e.symm)) (λp a b d=>af _ _ _ _ (HS.ju.2 _ (ag ⟨p,a,b,B.mK d,rfl⟩)).1);have aQ:kY (w5.setCell ⟨sb,3,none⟩ (.int .i64 (wrap64 (yu+1)))) o.cb o.rd sb n a0 Y (B.unit s.2.2 kd'.on c).2:=a5.2.2.2.block (λk G=>af _ _ _ _ (aC k G));have aT:=az aC;have aM:=az aJ;have aA:=az aQ;have aV:=az aG
     have aN:Hid (dy (pP sb pb n kd vb) w (w5.setCell ⟨sb,3,none⟩ (.int .i64 (wrap64 (yu+1))))):=by
      refine bm (HQ.2.1.trans a5.2.1 (λk G hl=>?_)) (ag (ag rfl)) _;rcases G with h|h
      .exact ab (ag h)
      exact ab (ab ((HQ.2.2.1 k (ab ⟨by rw[y.out];rfl,h⟩)).resolve_right (by omega)))
     clear aG aC aJ aQ x2 x3 y3;generalize aX:w5.setCell ⟨sb,3,none⟩ (.int .i64 (wrap64 (yu+1)))=w6 at *;clear aX;refine(tF o.cb o.rd sb n a0 Y _ w6 aA).mono ?_;rintro e w7 ⟨rfl,aD⟩;have a1:=az aD;have Z:=cm aD aV (by intro e;cases e);have aO:=az Z;have aR:Hid (ox n kd vb (B.ki s.2.2 n kd' c) { o with ad:=a0,cap:=Y } w.heap.size):=λk G=>by
      rcases CN y a5.2.2.1 G with h|h
      .exact HQ.2.2.1 k h
      have:=HQ.2.1.size;exact ab (by omega)
     have aP:Hid (B.fI s.2.2 n (u-(j+1)) (B.ki s.2.2 n kd' c)=B.work s.2.1 nr s.2.2 n u kd):=by
      have:=HQ.2.2.2.1;rw[show u-j=(u-(j+1))+1 by omega,B.sh y]at this;exact this
     clear aD;by_cases H:(B.unit s.2.2 kd'.on c).2.nx=n
     .have hd:decide ((B.unit s.2.2 kd'.on c).2.nx=n)=true:=by simpa using H
      rw[hd];have a4:=az H;have z2:w7.cell? ⟨sb,2,none⟩=some (P0 o.cb):=by simp[World.cell?,Z]
      have z5:w7.cell? ⟨sb,5,none⟩=some (.int .i64 yc):=by simp[World.cell?,Z]
      have q2:w7.frozen? ⟨sb,2,none⟩=false:=by simp[World.frozen?,Z]
      have q5:w7.frozen? ⟨sb,5,none⟩=false:=by simp[World.frozen?,Z]
      have l7:=bz Z;clear hd H Z;go_wp2_with fail
      go_roundw
      case rel=>
       refine⟨j+1,by omega,by go_num,_,⟨{ o with ad:=a0,cap:=Y },wJ (cc:=kd'.cc+1) (x:=.pointer none) ?_ (ag ⟨a4,rfl,rfl⟩) ?_ ?_,B.qo HQ.1 y,?_,aR,HQ.2.2.2.2⟩,aP⟩
       .have:=aO.out;rw[<-a7.1,<-a7.2]at *;simp[World.setCell,cn,this,pT]
       .exact((aM.kept a1).block (af _ _ _ _ (λe=>HS.ju.1 e.symm)) (λp a b d=>af _ _ _ _ (HS.ju.2 _ (ag ⟨p,a,b,B.mK d,rfl⟩)).1)).block (af _ _ _ _ (λe=>HS.ju.1 e.symm)) (λp a b d=>af _ _ _ _ (HS.ju.2 _ (ag ⟨p,a,b,B.mK d,rfl⟩)).1)
       .exact((aA.kept a1).block (λk G=>af _ _ _ _ (aT k G))).block (λk G=>af _ _ _ _ (aT k G))
       exact bm (bm (aN.gR a1) (ag (ag rfl)) _) (ag (ag rfl)) _
      case measure=>simp[intOf];omega
     have hd:decide ((B.unit s.2.2 kd'.on c).2.nx=n)=false:=by simpa using H
     rw[hd];have a4:=az H;clear hd H Z;go_wp2_with fail
     go_roundw
     case rel=>
      refine⟨j+1,by omega,by go_num,_,⟨{ o with ad:=a0,cap:=Y },wJ (cc:=kd'.cc) (x:=P0 o.cb) ?_ (ab ⟨a4,rfl,rfl⟩) (aM.kept a1) (aA.kept a1),B.qo HQ.1 y,aN.gR a1,aR,HQ.2.2.2.2⟩,aP⟩;rw[aO.out,<-a7.1,<-a7.2,pT]
     case measure=>simp[intOf];omega
   have a9:¬((j:Int)<u):=by omega
   have HJ:Hid (u-j=0):=by show _=_;omega
   go_wp2_with fail
   go_end0;obtain⟨hH,hO,hG,hU,a3⟩:=HQ;rw[HJ.out]at hU;exact⟨rfl,by rw[<-hU];exact⟨o,HS,hH,hO,hG,a3⟩⟩
end F
section
theorem DX(k:Nat)(u:k<=200)(w:World):Calls prog 220 #[.int .i64 k] w λe w'=>e=.returned (vA (k+1,0))/\w.grownBy w' none:=by
 have o:IntKind.i64.wrap ((k:Int)+1)=((k:Int)+1):=by simp[IntKind.wrap,IntKind.bits,IntKind.signed];omega
 go_in;go_wp2_with fail
 refine da (v:=vA (k+1,0)) (by simp[results,results220,go_sem]) rfl ⟨rfl,?_⟩;repeat (first|exact ax _ _|refine bq ?_|refine au ?_ _|refine bp ?_ (ab (by simp)) _)
end
namespace F
def Fb.put(f:Fb)(p vg t:Nat):Fb:=⟨λq=>if q=p then vg else f.b q,λq=>if q=p then t else f.k q⟩
def Vs.put(vb:Vs)(p vg t:Nat):Vs:={ vb with f:=vb.f.put p vg t }
def vJ(t:Nat):Value:=.int .i64 ((t-1:Nat):Int)
theorem EI(kd:Nat->Bool)(vb:Fb)(M:Nat->List B.V)(k i t j:Nat)(l:List B.V): ep (ep (ep (iM kd vb M) (k*3) (tZ true t)) (k*3+1) (vJ t)) (k*3+2) (.slice (some ⟨i,0,none⟩) l.length l.length) j=iM (B.mark kd (k+1)) (vb.put (k+1) i t) (B.lay M (k+1) (l)) j:=by
 by_cases o:j=k*3+2
 .subst o;rw[gf,sQ,B.je,B.gl];simp[oL,Fb.put]
 rw [eG _ _ _ _ o];by_cases u:j=k*3+1
 .subst u;rw[gf,zH,B.je];simp[DD,vJ,Fb.put]
 rw [eG _ _ _ _ u];by_cases y:j=k*3
 .subst y;rw[gf,zI,B.je];simp[Fb.put]
 rw [eG _ _ _ _ y];have e:j / 3+1≠k+1:=by omega
 unfold iM;rw[B.fg _ _ _ e,B.fq _ _ _ _ e];simp only[Fb.put,aa e]
theorem xf{w w':World}{pb n k o t:Nat}{l:List B.V}{on:Nat->Bool}{f:Fb}{M:Nat->List B.V}(h:ow w pb n on f M)(J:l.length<=8)(ht:t≠0->l.length=1)(W:Full w' o 149 (l.length*2) (l.length*2) (eC (λi=>l.getD i (0,0))))(hn:∀p,1<=p->p<=n->on p=true->f.b p≠o)(hP:Full w' pb 228 (n*3) (n*3) (ep (ep (ep (iM on f M) (k*3) (tZ true t)) (k*3+1) (vJ t)) (k*3+2) (.slice (some ⟨o,0,none⟩) l.length l.length)))(H:∀p,1<=p->p<=n->on p=true->w'.heap[f.b p]? = w.heap[f.b p]?): ow w' pb n (B.mark on (k+1)) (f.put (k+1) o t) (B.lay M (k+1) (l)):=by
 refine⟨hP.congr (λj _=>EI on f M k o t j l),λp a c d=>?_,λp q a c d e g i j=>?_,λp a=>?_,λp a y=>?_⟩
 .by_cases e:p=k+1
  .subst e;simp only[Fb.put,if_true,B.gl];refine W.congr (λj _=>?_);unfold eC jQ;rw[B.gl]
  rw [B.fg _ _ _ e]at d;simp only[Fb.put,aa e];unfold jQ;rw[B.fq _ _ _ _ e];exact(h.s p a c d).block (H p a c d)
 .have j:(if p=k+1 then o else f.b p)=(if q=k+1 then o else f.b q):=j;by_cases G:p=k+1
  .by_cases u:q=k+1
   .omega
   rw [aj G,aa u]at j;rw[B.fg _ _ _ u]at i;exact ch j.symm (hn q d e i)
  by_cases u:q=k+1
  .rw [aa G,aj u]at j;rw[B.fg _ _ _ G]at g;exact ch j (hn p a c g)
  rw [aa G,aa u]at j;rw[B.fg _ _ _ G]at g;rw[B.fg _ _ _ u]at i;exact h.i p q a c d e g i j
 .by_cases e:p=k+1
  .subst e;rw[B.gl];exact J
  rw [B.fg _ _ _ e]at a;rw[B.fq _ _ _ _ e];exact h.l p a
 have y:(if p=k+1 then t else f.k p)≠0:=y;by_cases e:p=k+1
 .subst e;rw[B.gl];rw[aj rfl]at y;exact ht y
 rw [B.fg _ _ _ e]at a;rw[aa e]at y;rw[B.fq _ _ _ _ e];exact h.k p a y
def Gj(nr n:Nat)(s:B.St)(kd kd1:B.Kd):Prop:=
 kd1=kd\/((∀p,1<=p->p<=n->kd.on p=true)/\kd1.cy=none/\kd1.un=kd.un/\kd1.fo=kd.fo+1/\kd1.cc=kd.cc/\∀p,1<=p->p<=n->(kd1.on p=true↔B.Reach nr s p))
def LI(w w':World)(sb pb eb n nr vg t:Nat)(l:List B.V)(kd:B.Kd)(vb:Vs)(s:B.St)(e:Ending):Prop:=
 dy (pP sb pb n kd vb) w w' /\
 ((∃(k:Nat) (kd1:B.Kd),k<n/\kd1.on (k+1)=false/\B.iZ kd1 nr n s/\Gj nr n s kd kd1/\e=.returned (.tuple #[.agg #[.int .i64 ((k:Int)+1),.int .i64 0],.bool true])/\jm w' sb pb eb n (B.laid kd1 (k+1)) (vb.put (k+1) vg t) (B.lay s.2.2 (k+1) (l))/\∀x,Own n (B.laid kd1 (k+1)) (vb.put (k+1) vg t) x->Own n kd vb x\/x=vg) \/
  (e=.returned (.tuple #[.agg #[.int .i64 0,.int .i64 0],.bool false])/\(∀p,1<=p->p<=n->B.Reach nr s p)/\∃kd1,jm w' sb pb eb n kd1 vb s.2.2/\B.iZ kd1 nr n s/\∀x,Own n kd1 vb x->Own n kd vb x))
theorem sS{n k u t x:Nat}{kd:B.Kd}{vb:Vs}(h:Own n (B.laid kd (k+1)) (vb.put (k+1) u t) x):Own n kd vb x\/x=u:=by
 rcases h with⟨p,a,b,d,e⟩|⟨H,J⟩
 .by_cases y:p=k+1
  .subst y;right
   have o:(if k+1=k+1 then u else vb.f.b (k+1))=x:=e;rw[aj rfl]at o;exact o.symm
  left
  have G:B.mark kd.on (k+1) p=true:=d;rw[B.fg _ _ _ y]at G;have o:(if p=k+1 then u else vb.f.b p)=x:=e;rw[aa y]at o;exact ag ⟨p,a,b,G,o⟩
 left
 refine ab ⟨?_,J⟩;have i:(kd.cy.map (λc:B.Cy=>(⟨B.mark c.m (k+1),c.st,c.nx⟩:B.Cy))).isSome=true:=H;rw[Option.isSome_map]at i;exact i
theorem tG(kd:B.Kd)(vb:Vs)(p e t:Nat):yg (B.laid kd p) (vb.put p e t)=yg kd vb:=by
 unfold yg B.laid Vs.put;simp only[Option.isSome_map]
theorem zY(Q:Nat->Prop)(eb sb pb n nr vg t:Nat)(l:List B.V)(kd:B.Kd)(vb:Vs)(s:B.St)(w:World)(hR:BG w Q eb sb pb n nr kd vb s)(hv:Full w vg 149 (l.length*2) (l.length*2) (eC (λi=>l.getD i (0,0))))(aI:l.length<=8)(ht:t≠0->l.length=1)(c4:¬Own n kd vb vg): Calls prog 199 #[P0 sb,.agg #[tZ true t,vJ t,.slice (some ⟨vg,0,none⟩) l.length l.length]] w λe w'=>LI w w' sb pb eb n nr vg t l kd vb s e:=by
 have KR:=az hR;have hn:=hR.n2;have lp:=hR.hs.p.p.lt;have ls:=bz hR.hs.b;have HV:=az hv;have bN:=az c4;have HT:=az ht;obtain⟨ya,b8⟩:∃y:Int,tZ true t=.int .u8 y:=⟨_,rfl⟩;obtain⟨yb,b7⟩:∃y:Int,vJ t=.int .i64 y:=⟨_,rfl⟩;rw[b8,b7];have bU:=az b8;have c3:=az b7;go_in;go_wp2_with fail
 generalize hW:(w.alloc (.cells #[.int .u8 ya,.int .i64 yb,.slice (some ⟨vg,0,none⟩) l.length l.length] 228)).alloc (.cells #[.int .i64 0,.int .i64 0] 149)=w1;have aO:Hid (w.grownBy w1 none):=by rw[<-hW];exact au (ah _ _ _) _
 have x0:w1.heap[w.heap.size]? = some (.cells #[.int .u8 ya,.int .i64 yb,.slice (some ⟨vg,0,none⟩) l.length l.length] 228 (0,0)):=by rw[<-hW,ak _ _ _ (by simp)];exact bf w _
 have x1:w1.heap[w.heap.size+1]? = some (.cells #[.int .i64 0,.int .i64 0] 149 (0,0)):=by
  rw[<-hW];have:=bf (w.alloc (.cells #[.int .u8 ya,.int .i64 yb,.slice (some ⟨vg,0,none⟩) l.length l.length] 228)) (.cells #[.int .i64 0,.int .i64 0] 149);simpa using this
 have aL:=az (ay x0 x1);have aK:=az (KR.kept aO);refine(oE sb pb n kd.on vb.f s.2.2 w1 aK.hs.c0 aK.hs.p hn).mono ?_;rintro e w2 ⟨a7,⟨k,hk,aR,rfl⟩|⟨a4,rfl⟩⟩
 .have aH:=az (an aO a7);have H:=az (aK.hs.kept a7);have aJ:=az (ay (cm a7 aL.1 (by intro e;cases e)) (cm a7 aL.2 (by intro e;cases e)));have HQ:Hid (k<n/\kd.on (k+1)=false/\B.iZ kd nr n s/\Gj nr n s kd kd):=⟨hk,aR,KR.hh,ag rfl⟩;have bM:Hid (dy (pP sb pb n kd vb) w w2):=dU aH;have bR:=az (HV.block (aH.block vg HV.lt (by intro e;cases e)));have a3:Hid (∀x,Own n kd vb x->Own n kd vb x):=λ_ h=>h;obtain⟨p0,z0⟩:=H.p.p.cells (k*3) (by omega);obtain⟨p1,z1⟩:=H.p.p.cells (k*3+1) (by omega);obtain⟨p2,z2⟩:=H.p.p.cells (k*3+2) (by omega);generalize iM kd.on vb.f s.2.2 (k*3)=y0 at p0;generalize iM kd.on vb.f s.2.2 (k*3+1)=y1 at p1;generalize iM kd.on vb.f s.2.2 (k*3+2)=y2 at p2;have s0:=H.c0;have cF:(k:Int)<n:=by omega
  have c8:¬((k:Int)<0):=by omega
  have a6:=aJ.1;have Y:=aJ.2;have b0:w2.cell? ⟨w.heap.size,0,none⟩=some (.int .u8 ya):=by simp[World.cell?,a6]
  have b1:w2.cell? ⟨w.heap.size,1,none⟩=some (.int .i64 yb):=by simp[World.cell?,a6]
  have b2:w2.cell? ⟨w.heap.size,2,none⟩=some (.slice (some ⟨vg,0,none⟩) l.length l.length):=by simp[World.cell?,a6]
  have np:¬w.heap.size+1=pb:=by omega
  have aY:¬pb=w.heap.size+1:=by omega
  go_wp2_with fail
  go_region
  generalize a5:World.drew (((w2.setCell ⟨pb,k*3,none⟩ (.int .u8 ya)).setCell ⟨pb,k*3+1,none⟩ (.int .i64 yb)).setCell ⟨pb,k*3+2,none⟩ (.slice (some ⟨vg,0,none⟩) l.length l.length))=w5;have a1:∀x,x≠pb->w5.heap[x]? = w2.heap[x]?:=by
   intro x o;rw[<-a5];show(World.setCell _ _ _).heap[x]? = _;rw[af _ _ _ _ o,af _ _ _ _ o,af _ _ _ _ o]
  have b6:Hid (Full w5 pb 228 (n*3) (n*3) (ep (ep (ep (iM kd.on vb.f s.2.2) (k*3) (.int .u8 ya)) (k*3+1) (.int .i64 yb)) (k*3+2) (.slice (some ⟨vg,0,none⟩) l.length l.length))):=by
   show Full _ _ _ _ _ _;rw[<-a5];exact((H.p.p.ep (k*3) (.int .u8 ya)).ep (k*3+1) (.int .i64 yb)).ep (k*3+2) (.slice (some ⟨vg,0,none⟩) l.length l.length)
  have aU:Hid (dy (pP sb pb n kd vb) w w5):=by
   show dy _ _ _;rw[<-a5];exact qi (bm (bm (bm bM (ag (ab (ag rfl))) _) (ag (ab (ag rfl))) _) (ag (ab (ag rfl))) _)
  have aX:=az ((a1 _ np).trans Y);have aP:=az ((a1 sb H.ju.1).trans H.b);have bW:=az a1;have bJ:=az (bR.block (a1 vg (by obtain⟨cu,h,_⟩:=bR;obtain⟨cG,h',_⟩:=H.p.p;exact dW h h' (by decide))));have aW:=az (xf H.p aI HT bJ (λp a c d e=>bN (by rw[<-e];exact a3 _ (ag ⟨p,a,c,d,rfl⟩))) (by rw[bU.out,c3.out];exact b6) (λp a c d=>a1 _ (H.ju.2 _ (ag ⟨p,a,c,d,rfl⟩)).2));go_wp2_with fail
  refine(DX k (by omega) _).mono ?_;rintro e u ⟨rfl,aC⟩;have G:=cm aC aP (by intro e;cases e);have a0:=cm aC aX (by intro e;cases e);have a2:=az aC;have aF:=az G;have d2:u.cell? ⟨sb,2,none⟩=some (yg kd vb):=by simp[World.cell?,G]
  have r0:u.cell? ⟨w.heap.size+1,0,none⟩=some (.int .i64 0):=by simp[World.cell?,a0]
  have r1:u.cell? ⟨w.heap.size+1,1,none⟩=some (.int .i64 0):=by simp[World.cell?,a0]
  have t0:u.frozen? ⟨w.heap.size+1,0,none⟩=false:=by simp[World.frozen?,a0]
  have t1:u.frozen? ⟨w.heap.size+1,1,none⟩=false:=by simp[World.frozen?,a0]
  have bV:=bz G;have bG:=bz a0;rcases hcy:kd.cy with _|c
  .rw [mx hcy]at d2;have a8:=az hcy;go_wp2_with fail
   refine da (v:=.tuple #[.agg #[.int .i64 ((k:Int)+1),.int .i64 0],.bool true]) (by simp[results,results199,go_sem,r0,r1,bG]) rfl ?_;have W:∀x,x≠w.heap.size+1->x<u.heap.size->(((u.setCell ⟨w.heap.size+1,0,none⟩ (.int .i64 ((k:Int)+1))).setCell ⟨w.heap.size+1,1,none⟩ (.int .i64 0)).alloc (.cells #[.int .i64 ((k:Int)+1),.int .i64 0] 149)).heap[x]? = u.heap[x]?:=λx o hl=>by
    rw[ak _ _ _ (by simp[World.setCell];exact hl),af _ _ _ _ o,af _ _ _ _ o]
   have aD:=λx h=>KR.hs.lt x (a3 x h);have b5:=HV.lt;refine⟨?_,ag ⟨k,kd,HQ.1,HQ.2.1,HQ.2.2.1,HQ.2.2.2,rfl,⟨?_,?_,λc hc=>?_⟩,λx o=>(sS o).imp (a3 x) id⟩⟩
   .exact gF (bm (bm (aU.gR a2) (ab (by simp)) _) (ab (by simp)) _) _
   .rw [tG];exact(W sb (by omega) (by omega)).trans aF
   .refine (aW.kept a2).block (W pb aY (by omega)) (λp a c d=>?_);by_cases e:p=k+1
    .simp only[Fb.put,aj e];exact W vg (by omega) (by omega)
    simp only[Fb.put,aa e];rw[B.fg _ _ _ e]at d;have:=aD _ (ag ⟨p,a,c,d,rfl⟩);exact W _ (by omega) (by omega)
   have aE:kd.cy.map (λc:B.Cy=>(⟨B.mark c.m (k+1),c.st,c.nx⟩:B.Cy))=some c:=hc;rw[a8.out]at aE;cases aE
  rw [mu hcy]at d2;have a8:=az hcy;have bD:=((H.c c a8).block (λx o=>bW x (H.ju.2 x (ab ⟨by rw[a8.out];rfl,o⟩)).2)).kept a2;have cH:=az bD;have aD:=λx h=>KR.hs.lt x (a3 x h);have bP:=az aD;have cS:=aD _ (ab ⟨by rw[a8.out];rfl,ab (ag rfl)⟩);have cL:=az (cm a2 aX (by intro e;cases e));have cB:Hid (kY (u.alloc (.cells #[.int .i64 ((k:Int)+1),.int .i64 0] 149)).drew vb.cb vb.rd sb n vb.ad vb.cap c):=(bD.kept (ah u (.cells #[.int .i64 ((k:Int)+1),.int .i64 0] 149) none)).block (λ_ _=>rfl);have cK:Hid (∀w8:World,(u.alloc (.cells #[.int .i64 ((k:Int)+1),.int .i64 0] 149)).drew.grownBy w8 (some vb.rd)->u.grownBy w8 (some vb.rd)/\w8.cell? ⟨w.heap.size+1,0,none⟩=some (.int .i64 0)/\w8.cell? ⟨w.heap.size+1,1,none⟩=some (.int .i64 0)/\w8.frozen? ⟨w.heap.size+1,0,none⟩=false/\w8.frozen? ⟨w.heap.size+1,1,none⟩=false/\w.heap.size+1<w8.heap.size/\w8.cell? ⟨u.heap.size,0,none⟩=some (.int .i64 ((k:Int)+1))/\w8.cell? ⟨u.heap.size,1,none⟩=some (.int .i64 0)/\u.heap.size<w8.heap.size):=by
   intro w8 a9;have aG:=an (ah u (.cells #[.int .i64 ((k:Int)+1),.int .i64 0] 149) _) ⟨a9.os,a9.tape,a9.output,a9.size,a9.block⟩;have aQ:=cm aG cL (by intro e;injection e with e;omega);have cQ:u.heap.size+1<=w8.heap.size:=by have:=a9.size;simpa[World.drew] using this
   have c6:=(a9.block u.heap.size (by simp[World.drew]) (by intro e;injection e with e;omega)).trans (bf u _);exact⟨aG,by simp[World.cell?,aQ],by simp[World.cell?,aQ],by simp[World.frozen?,aQ],by simp[World.frozen?,aQ],bz aQ,by simp[World.cell?,c6],by simp[World.cell?,c6],by omega⟩
  go_wp2_with fail
  go_region_with (go_at_call 221;refine(Bd vb.cb vb.rd sb n k vb.ad vb.cap c 0 _ cB hk hn).mono ?_;rintro e w8 ⟨rfl,bQ,a9⟩;obtain⟨aG,q0,q1,v0,v1,cP,n0,n1,cR⟩:=cK w8 a9;have bO:=az aG;have cJ:=az bQ;clear a9 aG bQ)
  all_goals
   go_wp2_with fail
   refine da (v:=.tuple #[.agg #[.int .i64 ((k:Int)+1),.int .i64 0],.bool true]) (by simp[results,results199,go_sem,q0,q1]) rfl ?_;have W:∀x,x≠w.heap.size+1->((w8.setCell ⟨w.heap.size+1,0,none⟩ (.int .i64 ((k:Int)+1))).setCell ⟨w.heap.size+1,1,none⟩ (.int .i64 0)).heap[x]? = w8.heap[x]?:=λx o=>by
    rw[af _ _ _ _ o,af _ _ _ _ o]
   have aI:∀x,x<u.heap.size->x≠vb.rd->w8.heap[x]? = u.heap[x]?:=λx o hn=>bO.block x o (by intro e;injection e with e;exact hn e);have b5:=HV.lt;have bC:∀(x:Nat) (bS:Array Value) (T:TypeId),u.heap[x]? = some (.cells bS T (0,0))->T≠4->x≠vb.rd:=λx bS T o hT=>by
    obtain⟨cu,h,_⟩:=cH.r;exact dW o h hT
   refine⟨?_,ag ⟨k,kd,HQ.1,HQ.2.1,HQ.2.2.1,HQ.2.2.2,rfl,⟨?_,?_,λc' hc=>?_⟩,λx o=>(sS o).imp (a3 x) id⟩⟩
   .refine bm (bm ((aU.gR a2).then bO (ag (ab (ab (a3 _ (ab ⟨by rw[a8.out];rfl,ab (ag rfl)⟩)))))) (ab (by simp)) _) (ab (by simp)) _
   .rw [tG];exact((W sb (by omega)).trans (aI sb (by omega) (bC _ _ _ aF (by decide)))).trans aF
   .have bB:=aW.kept a2;refine bB.block ((W pb aY).trans (aI pb (by omega) ?_)) (λp a c d=>?_)
    .obtain ⟨cu,h,_⟩:=bB.p;exact bC _ _ _ h (by decide)
    obtain ⟨cu,h,_⟩:=bB.s p a c d;have hl:(vb.f.put (k+1) vg t).b p<w.heap.size:=by
     show(if p=k+1 then vg else vb.f.b p)<w.heap.size;by_cases e:p=k+1
     .rw [aj e];exact b5
     rw [aa e];rw[B.fg _ _ _ e]at d;exact bP _ (ag ⟨p,a,c,d,rfl⟩)
    exact(W _ (by omega)).trans (aI _ (by omega) (bC _ _ _ h (by decide)))
   have aE:kd.cy.map (λc:B.Cy=>(⟨B.mark c.m (k+1),c.st,c.nx⟩:B.Cy))=some c':=hc;rw[a8.out]at aE;have e:(⟨B.mark c.m (k+1),c.st,c.nx⟩:B.Cy)=c':=by injection aE
   subst e;exact cJ.block (λx o=>W x (by
    have:=bP x (ab ⟨by rw[a8.out];rfl,o⟩);omega))
 have aH:=az (an aO a7);have aJ:=az (ay (cm a7 aL.1 (by intro e;cases e)) (cm a7 aL.2 (by intro e;cases e)));have aV:=az (aK.kept a7);have cC:=az a4;go_wp2_with fail
 refine(Bm Q eb sb pb n nr kd vb s w2 aV).mono ?_;rintro e w3 ⟨rfl,on,hm,bA,bI,aS,bY⟩;have Km:=az (ay hm (ay bA bI));have aN:=az bY;have b4:Hid (dy (pP sb pb n kd vb) w w3):=(dU aH).trans aS (λx h _=>h.elim ag (λh=>ab (ag h)));have aZ:=az (ay (aS.block aJ.1 (by omega)) (aS.block aJ.2 (by omega)));have bL:Hid (Full w3 vg 149 (l.length*2) (l.length*2) (eC (λi=>l.getD i (0,0)))):=by
  have bE:=HV.block (aH.block vg HV.lt (by intro e;cases e));refine bE.block (aS.same bE.lt ?_);obtain⟨cM,c7,_⟩:=bE;rintro(h|h)
  .exact dW c7 aV.hs.b (by decide) h
  obtain ⟨cN,cD,_⟩:=aV.hs.p.p;exact dW c7 cD (by decide) h
 have a3:Hid (∀x,Own n ⟨on,none,kd.un,kd.fo+1,kd.cc⟩ vb x->Own n kd vb x):=λx o=>by
  rcases o with⟨p,a,b,d,e⟩|⟨h,_⟩
  .exact ag ⟨p,a,b,bA p d,e⟩
  cases h
 have bZ:=az (B.yR KR.hh bI);go_wp2_with fail
 refine(oE sb pb n on vb.f s.2.2 w3 aN.c0 aN.p hn).mono ?_;rintro e w4 ⟨aA,⟨k,hk,aR,rfl⟩|⟨a4,rfl⟩⟩
 .generalize aB:(⟨on,none,kd.un,kd.fo+1,kd.cc⟩:B.Kd)=Z at *;have b9:Z.on=on:=by rw[<-aB]
  have aM:Hid (Z.cy=none):=by show _=_;rw[<-aB]
  have HQ:Hid (k<n/\Z.on (k+1)=false/\B.iZ Z nr n s/\Gj nr n s kd Z):=⟨hk,by rw[b9];exact aR,bZ,ab ⟨cC,aM,by rw[<-aB],by rw[<-aB],by rw[<-aB],by rw[b9];exact Km.1⟩⟩;have J:=az (aN.kept aA);have bT:=az (ay (cm aA aZ.1 (by intro e;cases e)) (cm aA aZ.2 (by intro e;cases e)));have aT:=az (b4.gR aA);have bX:=az (bL.block (aA.block vg bL.lt (by intro e;cases e)));obtain⟨p0,z0⟩:=J.p.p.cells (k*3) (by omega);obtain⟨p1,z1⟩:=J.p.p.cells (k*3+1) (by omega);obtain⟨p2,z2⟩:=J.p.p.cells (k*3+2) (by omega);generalize iM Z.on vb.f s.2.2 (k*3)=y0 at p0;generalize iM Z.on vb.f s.2.2 (k*3+1)=y1 at p1;generalize iM Z.on vb.f s.2.2 (k*3+2)=y2 at p2;have s0:=J.c0;have cF:(k:Int)<n:=by omega
  have c8:¬((k:Int)<0):=by omega
  have a6:=bT.1;have Y:=bT.2;have b0:w4.cell? ⟨w.heap.size,0,none⟩=some (.int .u8 ya):=by simp[World.cell?,a6]
  have b1:w4.cell? ⟨w.heap.size,1,none⟩=some (.int .i64 yb):=by simp[World.cell?,a6]
  have b2:w4.cell? ⟨w.heap.size,2,none⟩=some (.slice (some ⟨vg,0,none⟩) l.length l.length):=by simp[World.cell?,a6]
  have np:¬w.heap.size+1=pb:=by omega
  have aY:¬pb=w.heap.size+1:=by omega
  go_wp2_with fail
  go_region
  generalize a5:World.drew (((w4.setCell ⟨pb,k*3,none⟩ (.int .u8 ya)).setCell ⟨pb,k*3+1,none⟩ (.int .i64 yb)).setCell ⟨pb,k*3+2,none⟩ (.slice (some ⟨vg,0,none⟩) l.length l.length))=w5;have a1:∀x,x≠pb->w5.heap[x]? = w4.heap[x]?:=by
   intro x o;rw[<-a5];show(World.setCell _ _ _).heap[x]? = _;rw[af _ _ _ _ o,af _ _ _ _ o,af _ _ _ _ o]
  have b6:Hid (Full w5 pb 228 (n*3) (n*3) (ep (ep (ep (iM Z.on vb.f s.2.2) (k*3) (.int .u8 ya)) (k*3+1) (.int .i64 yb)) (k*3+2) (.slice (some ⟨vg,0,none⟩) l.length l.length))):=by
   show Full _ _ _ _ _ _;rw[<-a5];exact((J.p.p.ep (k*3) (.int .u8 ya)).ep (k*3+1) (.int .i64 yb)).ep (k*3+2) (.slice (some ⟨vg,0,none⟩) l.length l.length)
  have aU:Hid (dy (pP sb pb n kd vb) w w5):=by
   show dy _ _ _;rw[<-a5];exact qi (bm (bm (bm aT (ag (ab (ag rfl))) _) (ag (ab (ag rfl))) _) (ag (ab (ag rfl))) _)
  have aX:=az ((a1 _ np).trans Y);have aP:=az ((a1 sb J.ju.1).trans J.b);have bJ:=az (bX.block (a1 vg (by obtain⟨cu,h,_⟩:=bX;obtain⟨cG,h',_⟩:=J.p.p;exact dW h h' (by decide))));have aW:=az (xf J.p aI HT bJ (λp a c d e=>bN (by rw[<-e];exact a3 _ (ag ⟨p,a,c,d,rfl⟩))) (by rw[bU.out,c3.out];exact b6) (λp a c d=>a1 _ (J.ju.2 _ (ag ⟨p,a,c,d,rfl⟩)).2));go_wp2_with fail
  refine(DX k (by omega) _).mono ?_;rintro e u ⟨rfl,aC⟩;have G:=cm aC aP (by intro e;cases e);have a0:=cm aC aX (by intro e;cases e);have a2:=az aC;have aF:=az G;have d2:u.cell? ⟨sb,2,none⟩=some (yg Z vb):=by simp[World.cell?,G]
  have r0:u.cell? ⟨w.heap.size+1,0,none⟩=some (.int .i64 0):=by simp[World.cell?,a0]
  have r1:u.cell? ⟨w.heap.size+1,1,none⟩=some (.int .i64 0):=by simp[World.cell?,a0]
  have t0:u.frozen? ⟨w.heap.size+1,0,none⟩=false:=by simp[World.frozen?,a0]
  have t1:u.frozen? ⟨w.heap.size+1,1,none⟩=false:=by simp[World.frozen?,a0]
  have bV:=bz G;have bG:=bz a0;have a8:=aM;rw[mx aM]at d2;go_wp2_with fail
  refine da (v:=.tuple #[.agg #[.int .i64 ((k:Int)+1),.int .i64 0],.bool true]) (by simp[results,results199,go_sem,r0,r1,bG]) rfl ?_;have W:∀x,x≠w.heap.size+1->x<u.heap.size->(((u.setCell ⟨w.heap.size+1,0,none⟩ (.int .i64 ((k:Int)+1))).setCell ⟨w.heap.size+1,1,none⟩ (.int .i64 0)).alloc (.cells #[.int .i64 ((k:Int)+1),.int .i64 0] 149)).heap[x]? = u.heap[x]?:=λx o hl=>by
   rw[ak _ _ _ (by simp[World.setCell];exact hl),af _ _ _ _ o,af _ _ _ _ o]
  have aD:=λx h=>KR.hs.lt x (a3 x h);have b5:=HV.lt;refine⟨?_,ag ⟨k,Z,HQ.1,HQ.2.1,HQ.2.2.1,HQ.2.2.2,rfl,⟨?_,?_,λc hc=>?_⟩,λx o=>(sS o).imp (a3 x) id⟩⟩
  .exact gF (bm (bm (aU.gR a2) (ab (by simp)) _) (ab (by simp)) _) _
  .rw [tG];exact(W sb (by omega) (by omega)).trans aF
  .refine (aW.kept a2).block (W pb aY (by omega)) (λp a c d=>?_);by_cases e:p=k+1
   .simp only[Fb.put,aj e];exact W vg (by omega) (by omega)
   simp only[Fb.put,aa e];rw[B.fg _ _ _ e]at d;have:=aD _ (ag ⟨p,a,c,d,rfl⟩);exact W _ (by omega) (by omega)
  have aE:Z.cy.map (λc:B.Cy=>(⟨B.mark c.m (k+1),c.st,c.nx⟩:B.Cy))=some c:=hc;rw[a8.out]at aE;cases aE
 have aT:=az (b4.gR aA);have Y:=cm aA aZ.2 (by intro e;cases e);have r0:w4.cell? ⟨w.heap.size+1,0,none⟩=some (.int .i64 0):=by simp[World.cell?,Y]
 have r1:w4.cell? ⟨w.heap.size+1,1,none⟩=some (.int .i64 0):=by simp[World.cell?,Y]
 have t0:w4.frozen? ⟨w.heap.size+1,0,none⟩=false:=by simp[World.frozen?,Y]
 have t1:w4.frozen? ⟨w.heap.size+1,1,none⟩=false:=by simp[World.frozen?,Y]
 have HQ:=az (ay Km a4);have J:=az (aN.kept aA);go_wp2_with fail
 refine da (v:=.tuple #[.agg #[.int .i64 0,.int .i64 0],.bool false]) (by simp[results,results199,go_sem,r0,r1]) rfl ?_;have aD:=λx h=>KR.hs.lt x (a3 x h);refine⟨?_,ab ⟨rfl,λp a c=>(HQ.1.1 p a c).1 (HQ.2 p a c),_,J.block ?_ ?_ (λx o=>?_),bZ,a3⟩⟩
 .repeat (first|exact aT|refine bm ?_ (ab (by simp)) _)
 .rw [af _ _ _ _ (by show sb≠w.heap.size+1;omega),af _ _ _ _ (by show sb≠w.heap.size+1;omega)]
 .rw [af _ _ _ _ (by show pb≠w.heap.size+1;omega),af _ _ _ _ (by show pb≠w.heap.size+1;omega)]
 have:=aD x o;rw[af _ _ _ _ (by show x≠w.heap.size+1;omega),af _ _ _ _ (by show x≠w.heap.size+1;omega)]
