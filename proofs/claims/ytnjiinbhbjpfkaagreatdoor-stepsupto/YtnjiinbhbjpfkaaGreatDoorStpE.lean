import Derived.Test.YtnjiinbhbjpfkaaGreatDoorStpD
set_option maxRecDepth 100000
set_option maxHeartbeats 0
set_option linter.all false
namespace Go.Proofs.YtnjiinbhbjpfkaaGreatDoor
open Go.RowKit Go.Proofs.Tryz
section
theorem Tryz.F6:(prog.info? 3).map (λi=>(i.zero,i.size,i.bytes))=some (some (.int .i64 0),1,8):=by kernel_rfl
theorem kY.c1{w:World}{cb e sb n:Nat}{ad:Option Addr}{cap:Nat}{c:B.Cy}(h:kY w cb e sb n ad cap c):w.cell? ⟨cb,0,none⟩=some (P0 sb)/\w.cell? ⟨cb,1,none⟩=some (.slice (some ⟨e,0,none⟩) n n)/\w.cell? ⟨cb,2,none⟩=some (.slice ad c.st.length cap)/\w.cell? ⟨cb,3,none⟩=some (.int .i64 c.nx)/\w.frozen? ⟨cb,2,none⟩=false/\w.frozen? ⟨cb,3,none⟩=false:=by
 simp[World.cell?,World.frozen?,h.b]
def vY(ad ad':Option Addr)(sz:Nat):Prop:=∀k,eO ad'=some k->eO ad=some k\/sz<=k
theorem vY.refl(ad:Option Addr)(sz:Nat):vY ad ad sz:=λ_ h=>ag h
theorem vY.trans{a b c:Option Addr}{sz e:Nat}(h:vY a b sz)(u:vY b c e)(y:sz<=e):vY a c sz:=λk o=>by
 rcases u k o with i|i
 .exact h k i
 exact ab (by omega)
theorem vY.Hz{cb o:Nat}{ad i:Option Addr}{sz k:Nat}(h:vY ad i sz)(u:nh cb o i k):nh cb o ad k\/sz<=k:=by
 rcases u with e|e|e
 .exact ag (ag e)
 .exact ag (ab (ag e))
 exact(h k e).imp (λh=>ab (ab h)) id
theorem CR{S:Nat->Prop}{w w':World}{r:Option Nat}(h:w.grownBy w' r)(o:∀k,r=some k->k<w.heap.size->S k):dy S w w':=
 ⟨h.os,h.tape,h.output,h.size,λk i hn=>h.block k i (λe=>hn (o k e.symm i))⟩
theorem qd(cb u sb n:Nat)(ad:Option Addr)(cap:Nat)(c:B.Cy)(v:B.V)(w:World)(hC:kY w cb u sb n ad cap c)(hv:v.1≠0->v.1<=n)(hn:n<=200)(bX:c.st.length<=200): Calls prog 188 #[P0 cb,vA v] w λe w'=>e=.returned (.tuple #[])/\∃b5 a0,vY ad b5 w.heap.size/\kY w' cb u sb n b5 a0 ⟨(B.seen c.m c.st v).1,(B.seen c.m c.st v).2,c.nx⟩/\dy (nh cb u ad) w w':=by
 have KC:=az hC;have aC:=az (mP v);obtain⟨v1,v2⟩:=v;by_cases h0:v1=0
 .subst h0;have aT:B.seen c.m c.st (0,v2)=(c.m,c.st):=by unfold B.seen;rw[aa (by simp)]
  rw[aT];have hi:=aC.out;simp only[ne_eq,not_true,decide_false]at hi;have HI:=az hi;clear aT hC hv hi aC;go_in;go_wp2_with fail
  have o:=az (ah w (.cells #[.int .i64 ((0:Nat):Int),.int .i64 v2] 149) none);first|go_region_with (go_at_call 198;refine(HI _).mono ?_;rintro e w2 ⟨rfl,i⟩;have a5:=az (an o ⟨i.os,i.tape,i.output,i.size,i.block⟩);clear i)|fail
  all_goals
   go_wp2_with fail
   go_end0;exact⟨rfl,ad,cap,vY.refl _ _,KC.kept a5,dU a5⟩
 obtain⟨k,hk⟩:∃k,v1=k+1:=⟨v1-1,by omega⟩;subst hk;have aM:k<n:=by have:=hv (by simp);simp only at this;omega
 have hi:=aC.out;have hd:decide (k+1≠0)=true:=by simp
 rw[show((k+1,v2):B.V).1=k+1 from rfl,hd]at hi;have HI:=az hi;have aL:=az (mg k v2 (by omega));obtain⟨_,c1,_⟩:=hC.c1;have lc:=bz hC.b;have lr:=hC.r.lt;have r0:=hC.r.cell k aM;clear hC hv hi hd aC h0;generalize b0:c.m (k+1)=b at *;have aY:=az b0;clear b0;have bV:(k:Int)<n:=by omega
 go_in;go_wp2_with fail
 generalize hW:w.alloc (.cells #[.int .i64 ((k:Int)+1),.int .i64 v2] 149)=w1;have o:Hid (w.grownBy w1 none):=by rw[<-hW];exact ah _ _ _
 have a9:w1.heap[w.heap.size]? = some (.cells #[.int .i64 ((k:Int)+1),.int .i64 v2] 149 (0,0)):=by rw[<-hW];exact bf w _
 have lx:=bz a9;have v0:w1.cell? ⟨w.heap.size,0,none⟩=some (.int .i64 ((k:Int)+1)):=by simp[World.cell?,a9]
 have v1:w1.cell? ⟨w.heap.size,1,none⟩=some (.int .i64 v2):=by simp[World.cell?,a9]
 clear hW a9;have d1:=(bh o (a:=⟨cb,1,none⟩) lc).1.trans c1;have q0:=(bh o (a:=⟨u,k,none⟩) lr).1.trans r0;have HS:Hid (∀w':World,w1.grownBy w' none->(w'.cell? ⟨w.heap.size,0,none⟩=some (.int .i64 ((k:Int)+1))/\w'.cell? ⟨w.heap.size,1,none⟩=some (.int .i64 v2)/\w'.cell? ⟨cb,1,none⟩=some (.slice (some ⟨u,0,none⟩) n n)/\w'.cell? ⟨u,k,none⟩=some (.bool b))/\(w.heap.size<w'.heap.size/\cb<w'.heap.size/\u<w'.heap.size)):=
  λw' Z=>⟨⟨(bh Z (a:=⟨w.heap.size,0,none⟩) lx).1.trans v0,(bh Z (a:=⟨w.heap.size,1,none⟩) lx).1.trans v1,(bh Z (a:=⟨cb,1,none⟩) (by show cb<_;omega)).1.trans d1,(bh Z (a:=⟨u,k,none⟩) (by show u<_;omega)).1.trans q0⟩,by have:=Z.size;omega,by have:=Z.size;omega,by have:=Z.size;omega⟩
 clear c1 r0 d1 q0 v0 v1;obtain⟨⟨v0,v1,d1,q0⟩,z1,z2,z3⟩:=HS w1 (ax _ _);go_cut [16] from 4 to 15 (λx wx=>x=.bool (!b)/\Hid (w1.grownBy wx none))
 case first=>
  first|go_region_with (first|(go_at_call 198;refine(HI _).mono ?_;rintro e w2 ⟨rfl,i⟩;have a5:Hid (w1.grownBy w2 none):=⟨i.os,i.tape,i.output,i.size,i.block⟩;obtain⟨⟨aB,a8,aH,aI⟩,aK,aJ,aG⟩:=HS w2 a5;clear i)|(go_at_call 201;refine(aL _).mono ?_;rintro e w3 ⟨rfl,a1⟩;have J:=az (an a5 ⟨a1.os,a1.tape,a1.output,a1.size,a1.block⟩);obtain⟨⟨bS,bM,bQ,bP⟩,bR,bO,bN⟩:=HS w3 J;clear a1))|fail
  all_goals
   go_wp2_with fail
   go_meet
   case rel=>exact⟨rfl,J⟩
 case rest=>
  obtain⟨rfl,J⟩:=hcut;clear v0 v1 d1 q0 z1 z2 z3
  cases b
  .have aO:Hid (B.seen c.m c.st (k+1,v2)=(B.mark c.m (k+1),c.st++[k+1])):=by show _=_;unfold B.seen;rw[aj ⟨by simp,aY⟩]
   obtain⟨⟨v0,v1,d1,q0⟩,z1,z2,z3⟩:=HS wc J;have f0:wc.frozen? ⟨u,k,none⟩=false:=by
    have h:=(KC.kept o).kept J;exact(h.r.cells k aM).2
   go_wp2_with fail
   generalize bK:wc=wd at *;clear bK;go_cut [] from 17 to 23 (λwx=>∃w4,Hid (w1.grownBy w4 none)/\wx=w4.setCell ⟨u,k,none⟩ (.bool true))
   case first=>
    go_region_with (go_at_call 201;refine(aL _).mono ?_;rintro e w4 ⟨rfl,a2⟩;have Y:=az (an J ⟨a2.os,a2.tape,a2.output,a2.size,a2.block⟩);obtain⟨⟨aB,a8,aH,aI⟩,aK,aJ,aG⟩:=HS w4 Y;have bW:=(((KC.kept o).kept Y).r.cells k aM).2;clear a2)
    all_goals
     go_wp2_with fail
     go_meet
     case rel=>exact⟨w4,Y,rfl⟩
   case rest=>
    obtain⟨w4,Y,a6⟩:=hcut;have G:=(KC.kept o).kept Y;obtain⟨⟨aB,a8,aH,aI⟩,aK,aJ,aG⟩:=HS w4 Y;have bE:wc.heap.size=w4.heap.size:=by rw[a6];simp[World.setCell]
    have a7:∀x,x≠u->wc.heap[x]? = w4.heap[x]?:=λx y=>by rw[a6,af _ _ _ _ y]
    have b6:cb≠u:=by obtain⟨cu,h,_⟩:=G.r;exact dW G.b h (by decide)
    have aV:w.heap.size≠u:=by omega
    have aA:=az ((a7 cb b6).trans G.b);have HR:Hid (Full wc u 4 n n (λj=>.bool (B.mark c.m (k+1) (j+1)))):=by
     have h1:=G.r.ep k (.bool true);rw[<-a6]at h1;refine h1.congr (λj _=>?_);by_cases e:j=k
     .subst e;rw[gf,B.je]
     rw[eG _ _ _ _ e,B.fg _ _ _ (by omega)]
    have HQ:Hid (fM wc 3 (.slice ad c.st.length cap) (mD c.st)):=G.q.block (λx y=>a7 x (by
     obtain⟨cu,h⟩:=G.q.ty x y;obtain⟨bY,h',_⟩:=G.r;exact dW h h' (by decide)))
    have bB:Hid (dy (nh cb u ad) w wc):=by
     show dy _ _ _;rw[a6];exact bm (dU (an o Y)) (ag (ab (ag rfl))) _
    have x0:=(aw (a:=⟨w.heap.size,0,none⟩) (a7 _ aV)).trans aB;have x1:=(aw (a:=⟨w.heap.size,1,none⟩) (a7 _ aV)).trans a8;have y2:wc.cell? ⟨cb,2,none⟩=some (.slice ad c.st.length cap):=by simp[World.cell?,aA.out]
    have g2:wc.frozen? ⟨cb,2,none⟩=false:=by simp[World.frozen?,aA.out]
    have bU:w.heap.size<wc.heap.size:=by omega
    have aF:cb<wc.heap.size:=by omega
    have bZ:w.heap.size<=wc.heap.size:=by omega
    have aE:(mD c.st).length=c.st.length:=uV _;have hL:mD (c.st++[k+1])=mD c.st++[.int .i64 k]:=by rw[zq];rfl
    have HL:=az hL;have bD:Hid (eO ad≠some cb):=λe=>by
     obtain⟨cu,h⟩:=HQ.ty cb (by rw[dr];exact e);exact dW aA h (by decide) rfl
    have a4:=az aE;clear G a7 a6 aB a8 aH aI v0 v1 d1 q0 f0 z1 z2 z3 aK aJ aG bE hL aE;obtain⟨i0,hi,bC,aS,bL⟩:=info_parts Tryz.F6;have bF:Hid (∀w':World,wc.grownBy w' none->w'.cell? ⟨cb,2,none⟩=some (.slice ad c.st.length cap)/\w'.frozen? ⟨cb,2,none⟩=false/\cb<w'.heap.size):=λw' Z=>⟨(bh Z (a:=⟨cb,2,none⟩) aF).1.trans y2,(bh Z (a:=⟨cb,2,none⟩) aF).2.trans g2,dm aF Z.size⟩;have b4:(mD c.st).length+1<=maxLen:=by rw[a4.out];unfold maxLen;omega
    have aU:((mD c.st).length+1)*8<=140737488355328:=by rw[a4.out];omega
    have aW:=az (ay b4 aU);clear b4 aU;rw[<-a4.out]at y2;go_wp2_with fail
    go_region_law (first|(refine oz _ rfl (.tmp 28) (.tmp 31) 54 rfl 3 i0 _ 8 underlying54 hi bC aS bL rfl (.slice ad (mD c.st).length cap) (mD c.st) (by first|rfl|simp[Act.eval,Act.put]) (b7) ⟨w5.heap.size,0,none⟩ 1 (.int .i64 k) (by first|rfl|simp[Act.eval,Act.put]) (by simp[go_sem]) rfl aW.1 aW.2 ?_;intro g off a0 w6 b3 aN aP;have aZ:=az b3;have aR:=az aN;have b9:=az aP;have H:=(aN.block cb (by simp;omega) (by rw[dr];exact λe=>bD e.symm)).trans ((ak _ _ _ z5).trans (cm W aA (by intro e;cases e)));have y6:w6.cell? ⟨cb,2,none⟩=some (.slice ad c.st.length cap):=(by simp[World.cell?,H]);have g6:w6.frozen? ⟨cb,2,none⟩=false:=(by simp[World.frozen?,H]);have aD:=az H;clear b3 aN aP H)|(go_simp;go_at_call 201;refine(aL _).mono ?_;rintro e w5 ⟨rfl,a3⟩;have W:Hid (wc.grownBy w5 none):=⟨a3.os,a3.tape,a3.output,a3.size,a3.block⟩;obtain⟨y5,g5,z5⟩:=bF w5 W;have b7:Hid (fM (w5.alloc (.cells #[.int .i64 k] 3)) 3 (.slice ad (mD c.st).length cap) (mD c.st)):=(by rw[a4.out];exact HQ.block (λx y=>(ak _ _ _ (dm (HQ.lt x y) W.size)).trans (W.block x (HQ.lt x y) (by intro e;cases e))));rw[<-a4.out]at y5;clear a3;simp only[]))
    all_goals
     go_wp2_with fail
     go_end0;have bA:=W.size;have aX:=a4.out;obtain⟨bJ,b1,bI⟩:=id HR;have aQ:∀(x:Nat) (b2:Array Value) (T:TypeId),wc.heap[x]? = some (.cells b2 T (0,0))->T≠3->x≠cb->(w6.setCell ⟨cb,2,none⟩ (.slice (some ⟨g,off,none⟩) ((mD c.st).length+1) a0)).heap[x]? = wc.heap[x]?:=by
      intro x b2 T y hT b8;have bG:x<w5.heap.size:=dm (bz y) bA;rw[af _ _ _ _ b8,aR.block x (by simp;omega) (λe=>?_),ak _ _ _ bG]
      .exact W.block x (bz y) (by intro e;cases e)
      obtain⟨cu,h⟩:=HQ.ty x (by rw[dr];rw[dr]at e;exact e.symm);rw[y]at h;injection h with h;injection h with _ h _;exact hT h
     have bH:g≠cb:=by
      obtain⟨cu,h⟩:=aZ.ty g rfl;exact dW h aD (by decide)
     refine⟨rfl,some ⟨g,off,none⟩,a0,λx y=>?_,?_,?_⟩
     .have e:g=x:=by injection y
      subst e;rcases b9 with h|h
      .rw[dr]at h;exact ag h
      right;simp at h;omega
     .rw[aO.out];refine⟨?_,⟨bJ,(aQ u _ _ b1 (by decide) (λe=>b6 e.symm)).trans b1,bI⟩,?_⟩
      .simp[World.setCell,cn,aD.out,aX]
      show fM _ _ (.slice _ (c.st++[k+1]).length _) (mD (c.st++[k+1]));rw[HL.out,bo,eF,<-aX];refine aZ.block (λx y=>af _ _ _ _ ?_);have e:g=x:=by injection y
      subst e;exact bH
     refine bm ?_ (ag (ag rfl)) _;refine((bB.gR W).gR (ah _ _ _)).trans (CR (S:=nh cb u ad) aR (λx y _=>ab (ab (by rw[dr]at y;exact y)))) (λ_ h _=>h)
  have aO:Hid (B.seen c.m c.st (k+1,v2)=(c.m,c.st)):=by show _=_;unfold B.seen;rw[aa (by simp[aY.out])]
  go_wp2_with fail
  go_end0;have Z:=an o J;exact⟨rfl,ad,cap,vY.refl _ _,by rw[aO.out];exact KC.kept Z,dU Z⟩
theorem Bd(cb W sb n k:Nat)(ad:Option Addr)(cap:Nat)(c:B.Cy)(x:Int)(w:World)(J:kY w cb W sb n ad cap c)(hk:k<n)(hn:n<=200): Calls prog 221 #[P0 cb,vA (k+1,x)] w λe w'=>e=.returned (.tuple #[])/\kY w' cb W sb n ad cap ⟨B.mark c.m (k+1),c.st,c.nx⟩/\w.grownBy w' (some W):=by
 have KC:=az J;obtain⟨_,c1,_⟩:=J.c1;have lc:=bz J.b;have a1:(k:Int)<n:=by omega
 go_in;go_wp2_with fail
 generalize hW:w.alloc (.cells #[.int .i64 ((k:Int)+1),.int .i64 x] 149)=w1;have u:Hid (w.grownBy w1 none):=by rw[<-hW];exact ah _ _ _
 have G:w1.heap[w.heap.size]? = some (.cells #[.int .i64 ((k:Int)+1),.int .i64 x] 149 (0,0)):=by rw[<-hW];exact bf w _
 have v0:w1.cell? ⟨w.heap.size,0,none⟩=some (.int .i64 ((k:Int)+1)):=by simp[World.cell?,G]
 have v1:w1.cell? ⟨w.heap.size,1,none⟩=some (.int .i64 x):=by simp[World.cell?,G]
 have d1:=(bh u (a:=⟨cb,1,none⟩) lc).1.trans c1
 go_region_with (go_at_call 201;refine((az (mg k x (by omega))).out _).mono ?_;rintro e w4 ⟨rfl,o⟩;have H:Hid (w1.grownBy w4 none):=⟨o.os,o.tape,o.output,o.size,o.block⟩;have i:=(KC.kept u).kept H;obtain⟨q0,f0⟩:=i.r.cells k hk;have a6:=i.c1.2.1;clear o i)
 all_goals
  go_wp2_with fail
  go_end0;have i:=(KC.kept u).kept H
  refine⟨rfl,⟨(af _ _ _ _ (by obtain⟨cu,h,_⟩:=i.r;exact dW i.b h (by decide))).trans i.b,(i.r.ep k (.bool true)).congr (λj _=>?_),i.q.block (λy hy=>af _ _ _ _ ?_)⟩,?_⟩
  .show _=Value.bool (B.mark c.m (k+1) (j+1));by_cases e:j=k
   .subst e;rw[gf,B.je]
   rw[eG _ _ _ _ e,B.fg _ _ _ (by omega)]
  .obtain⟨cu,h⟩:=i.q.ty y hy;obtain⟨a4,h',_⟩:=i.r;exact dW h h' (by decide)
  exact bp (eD (an u H)) (ag rfl) _
theorem gW{w:World}{b o:Nat}{v:Value}(h:w.cell? ⟨b,o,none⟩=some v):b<w.heap.size:=by
 rcases Nat.lt_or_ge b w.heap.size with e|e
 .exact e
 have:=Array.getElem?_eq_none e;simp[World.cell?,this]at h
def vV(w0 w:World)(cb rd sb n:Nat)(ad:Option Addr)(c:B.Cy)(l:List B.V):Prop:=
 dy (nh cb rd ad) w0 w/\∃ad' cap',vY ad ad' w0.heap.size/\kY w cb rd sb n ad' cap' ⟨(B.fY c.m c.st l).1,(B.fY c.m c.st l).2,c.nx⟩
theorem Ei{w:World}{cb e sb n:Nat}{ad:Option Addr}{cap:Nat}{c:B.Cy}(h:kY w cb e sb n ad cap c):vV w w cb e sb n ad c []:=⟨dk _ _,ad,cap,vY.refl _ _,h⟩
theorem vV.kept{w0 w w':World}{cb o sb n:Nat}{ad:Option Addr}{c:B.Cy}{l:List B.V}(h:vV w0 w cb o sb n ad c l)(u:w.grownBy w' none):vV w0 w' cb o sb n ad c l:=by
 obtain⟨H,i,e,G,y⟩:=h;exact⟨H.gR u,i,e,G,y.kept u⟩
theorem AS{n:Nat}{c:B.Cy}{l:List B.V}(hn:n<=200)(i:c.st.length+B.kX c.m n<=n)(e:∀v,v∈l->v.1≠0->v.1<=n):(B.fY c.m c.st l).2.length<=200:=by
 have:=B.me (n:=n) l c.m c.st e;omega
theorem wu{w0 w:World}{cb y sb n:Nat}{ad:Option Addr}{c:B.Cy}{l:List B.V}(v:B.V)(h:vV w0 w cb y sb n ad c l)(hn:n<=200)(hs:c.st.length+B.kX c.m n<=n)(W:∀v,v∈l->v.1≠0->v.1<=n)(hv:v.1≠0->v.1<=n): Calls prog 188 #[P0 cb,vA v] w λe w'=>e=.returned (.tuple #[])/\vV w0 w' cb y sb n ad c (l++[v]):=by
 obtain⟨H,u,i,J,h3⟩:=h;refine(qd cb y sb n u i _ v w h3 hv hn (AS hn hs W)).mono ?_;rintro e w' ⟨rfl,G,o,h4,h5,Z⟩;refine⟨rfl,H.trans Z (λk Y W=>(J.Hz Y).resolve_right (by omega)),G,o,J.trans h4 H.size,?_⟩;rw[B.oM];exact h5
def IC(Q:Nat->Prop)(w:World)(eb nr:Nat)(R:Nat->B.V):Prop:=
 ∀(w1:World) (cb rd sb n:Nat) (ad:Option Addr) (cap:Nat) (c:B.Cy),(∀k,Q k->w1.heap[k]? = w.heap[k]?)->kY w1 cb rd sb n ad cap c->(∀k,Q k->¬nh cb rd ad k)->n<=200->c.st.length+B.kX c.m n<=n->(∀i,i<nr->(R i).1≠0->(R i).1<=n) ->
  Calls prog 59 #[P0 eb,.func (.func 188) #[P0 cb] #[]] w1 λe w2=>e=.returned (.tuple #[])/\vV w1 w2 cb rd sb n ad c (B.iE R nr)
theorem IC.block{Q:Nat->Prop}{w w':World}{eb nr:Nat}{R:Nat->B.V}(h:IC Q w eb nr R)(i:∀k,Q k->w'.heap[k]? = w.heap[k]?):IC Q w' eb nr R:=
 λw1 y u sb n ad cap c o=>h w1 y u sb n ad cap c (λk e=>(o k e).trans (i k e))
theorem Tryz.Dn:(prog.info? 4).map (λi=>(i.zero,i.size,i.bytes))=some (some (.bool false),1,1):=by kernel_rfl
theorem tJ(Q:Nat->Prop)(eb sb pb n nr:Nat)(R:Nat->B.V)(w:World)(q0:w.cell? ⟨sb,0,none⟩=some (.slice (some ⟨pb,0,none⟩) n n))(q1:w.cell? ⟨sb,1,none⟩=some (.func (.func 59) #[P0 eb] #[]))(hV:IC Q w eb nr R)(hQ:∀k,Q k->k<w.heap.size)(hn:n<=200)(hR:∀i,i<nr->(R i).1≠0->(R i).1<=n): Calls prog 135 #[P0 sb] w λe w'=>∃cb rd ad cap,e=.returned (P0 cb)/\Below w.heap.size w w'/\(∀k,nh cb rd ad k->w.heap.size<=k)/\kY w' cb rd sb n ad cap (B.begun R nr):=by
 have ls:=gW q0;have aA:=az hV;have HQ:=az hQ;have HR:=az hR;obtain⟨i0,hi,aB,a8,a6⟩:=info_parts Tryz.Dn;go_in;go_wp2_with (at_make;go_loud (refine wpList_make_full _ rfl _ _ 231 rfl w.heap.size 4 i0 _ 1 Tryz.underlying231 hi aB a8 _ _ _ _ n rfl rfl rfl rfl (by rw[a6];omega) (by unfold maxLen;omega) (by simp) ?_))
 intro J H y;have a2:Full J w.heap.size 4 n n (λj=>.bool ((λ_=>false:Nat->Bool) (j+1))):=by
  rcases H.2 with⟨h,_⟩|⟨g',aC,a5,G,h2,h3,h4,h5,h6,h7⟩
  .cases h
  injection G with G _ hc;injection G with G;injection G with G _ _;have a9:g'=w.heap.size:=by simpa using G.symm
  subst a9 hc;refine⟨a5,h3,by omega,λj hj=>?_⟩;have e1:=congrArg (λl=>l[j]?) h7;rw[toList_madeCells_one]at e1;simp only[dh,List.getElem?_replicate]at e1;rw[aj (by omega),aj (by omega)]at e1;simpa using e1
 have a0:=az y;have Z:=az a2;have aF:=dm ls y.size;have s1:=(bh y (a:=⟨sb,1,none⟩) ls).1.trans q1;go_wp2_with fail
 have aD:=Z.out.lt;have a3:kY (J.alloc (.cells #[P0 sb,.slice (some ⟨w.heap.size,0,none⟩) n n,.slice none 0 0,.int .i64 0] 275)) J.heap.size w.heap.size sb n none 0 ⟨λ_=>false,[],0⟩:=
  ⟨bf _ _,Z.out.block (ak _ _ _ Z.out.lt),fM.nil _ _⟩
 have a7:=az a3;have o:Hid (Below w.heap.size w (J.alloc (.cells #[P0 sb,.slice (some ⟨w.heap.size,0,none⟩) n n,.slice none 0 0,.int .i64 0] 275))):=(tI a0.out).alloc a0.out.size _;refine(aA.out _ J.heap.size w.heap.size sb n none 0 ⟨λ_=>false,[],0⟩ (λk W=>o.out.block k (HQ.out k W)) a7.out (λk W h=>?_) hn (by show 0+_<=n;rw[B.vN];omega) HR.out).mono ?_
 .have:=HQ.out k W;rcases h with h|h|h
  .omega
  .omega
  cases h
 rintro e w5 ⟨rfl,u,ad,cap,a4,a1⟩;have Y:Hid (Below w.heap.size w w5/\(∀k,nh J.heap.size w.heap.size ad k->w.heap.size<=k)/\kY w5 J.heap.size w.heap.size sb n ad cap (B.begun R nr)):=by
  refine⟨⟨u.1.trans o.out.os,u.2.1.trans o.out.tape,u.2.2.1.trans o.out.output,dH o.out.size u.size,λk W=>(u.same (by simp;omega) (λh=>?_)).trans (o.out.block k W)⟩,λk W=>?_,a1⟩
  .rcases h with h|h|h
   .omega
   .omega
   cases h
  rcases W with h|h|h
  .omega
  .omega
  rcases a4 k h with G|G
  .cases G
  simp at G;omega
 go_wp2_with fail
 go_ret;exact⟨_,_,ad,cap,rfl,Y.out.1,Y.out.2.1,Y.out.2.2⟩
theorem tF(cb o sb n:Nat)(ad:Option Addr)(cap:Nat)(c:B.Cy)(w:World)(i:kY w cb o sb n ad cap c): Calls prog 137 #[P0 cb] w λe w'=>e=.returned (.bool (decide (c.nx=n)))/\w.grownBy w' none:=by
 obtain⟨_,c1,_,u,_,_⟩:=i.c1;have G:(((c.nx:Nat):Int) == (n:Int))=decide (c.nx=n):=by
  by_cases h:c.nx=n
  .simp[h]
  have:¬((c.nx:Int)=(n:Int)):=by omega
  simp[h,this]
 generalize decide (c.nx=n)=d at *;generalize c.nx=x at *;go_in;go_wp2_with fail
 go_quiet (fail)
 go_wp2_with fail
 go_ret;exact⟨rfl,db (ax _ _) _⟩
theorem kY.step{w:World}{cb e sb n:Nat}{ad:Option Addr}{cap:Nat}{c:B.Cy}(h:kY w cb e sb n ad cap c)(o:e≠cb)(u:∀k,(Value.slice ad c.st.length cap).ownBlock=some k->k≠cb):kY (w.setCell ⟨cb,3,none⟩ (.int .i64 ((c.nx:Int)+1))) cb e sb n ad cap (B.look c):=by
 refine⟨?_,h.r.off o,h.q.block (λk i=>af _ _ _ _ (u k i))⟩;simp[World.setCell,cn,h.b,B.look]
theorem iS(on:Nat->Bool)(c:B.Cy)(p:Nat)(h:B.kh on c p=true):on p=true:=B.iS h
end
namespace F
theorem CM(on:Nat->Bool)(f:Fb)(M:Nat->List B.V)(i:Nat)(j:Nat): iM (B.free on (i+1)) f M j=ep (ep (ep (iM on f M) (i*3) (.int .u8 0)) (i*3+1) (.int .i64 0)) (i*3+2) (.slice none 0 0) j:=by
 by_cases o:j=i*3+2
 .subst o;rw[gf,sQ,B.rK];rfl
 rw[eG _ _ _ _ o];by_cases y:j=i*3+1
 .subst y;rw[gf,zH,B.rK];rfl
 rw[eG _ _ _ _ y];by_cases u:j=i*3
 .subst u;rw[gf,zI,B.rK];rfl
 rw[eG _ _ _ _ u]
 unfold iM;rw[B.xK _ _ _ (by omega)]
theorem A8(cb rd sb pb n:Nat)(ad:Option Addr)(cap:Nat)(c:B.Cy)(on:Nat->Bool)(f:Fb)(M:Nat->List B.V)(w:World)(o:kY w cb rd sb n ad cap c)(hP:ow w pb n on f M)(h0:w.cell? ⟨sb,0,none⟩=some (.slice (some ⟨pb,0,none⟩) n n))(hx:c.nx<n)(hn:n<=200): Calls prog 190 #[P0 cb] w λe w'=>e=.returned (.tuple #[])/\kY w' cb rd sb n ad cap (B.look c)/\ow w' pb n (B.kh on c) f M/\dy (λk=>k=pb\/k=cb) w w':=by
 have KC:=az o;have y:=az hP;obtain⟨c0,c1,_,c3,_,f3⟩:=o.c1;have m0:=o.r.cell c.nx hx;have G:pb≠cb:=by obtain⟨cu,h,_⟩:=hP.p;exact dW h o.b (by decide)
 have a4:pb≠rd:=by obtain⟨cu,h,_⟩:=hP.p;obtain⟨Y,W,_⟩:=o.r;exact dW h W (by decide)
 have a7:(c.nx:Int)<(n:Int):=by omega
 have a8:IntKind.i64.wrap ((c.nx:Int)+1)=((c.nx:Int)+1):=by simp[IntKind.wrap,IntKind.bits,IntKind.signed];omega
 have a5:wrap64 ((c.nx:Int)+1)=((c.nx:Int)+1):=bd _ ⟨by omega,by omega⟩;have hq:∀k,(Value.slice ad c.st.length cap).ownBlock=some k->k≠cb/\k≠pb:=λk u=>by
  obtain⟨cu,h⟩:=o.q.ty k u;refine⟨dW h o.b (by decide),?_⟩;obtain⟨Y,W,_⟩:=hP.p;exact dW h W (by decide)
 have HQ:=az hq;have a0:rd≠cb:=by obtain⟨Y,W,_⟩:=o.r;exact dW W o.b (by decide)
 have Z:∀p,1<=p->p<=n->on p=true->f.b p≠cb/\f.b p≠pb:=λp a b d=>by
  obtain⟨cu,h,_⟩:=hP.s p a b d;refine⟨dW h o.b (by decide),?_⟩;obtain⟨Y,W,_⟩:=hP.p;exact dW h W (by decide)
 have a2:=az Z
 cases hm:c.m (c.nx+1)
 .obtain⟨p0,z0⟩:=y.out.p.cells (c.nx*3) (by omega);obtain⟨p1,z1⟩:=y.out.p.cells (c.nx*3+1) (by omega);obtain⟨p2,z2⟩:=y.out.p.cells (c.nx*3+2) (by omega);generalize iM on f M (c.nx*3)=y0 at p0;generalize iM on f M (c.nx*3+1)=y1 at p1;generalize iM on f M (c.nx*3+2)=y2 at p2;rw[hm]at m0;have HM:=az hm;have a6:=az (ay c0 (ay c1 c3));generalize J:c.nx=x at *;go_in;go_wp2_with fail
  go_quiet (fail)
  go_wp2_with fail
  go_region
  go_wp2_with fail
  go_end0;subst J;have H:B.kh on c=B.free on (c.nx+1):=by unfold B.kh;rw[aa (by rw[HM.out];decide)]
  have a1:∀k,k≠pb->((((w.drewN (nq+1)).setCell ⟨pb,c.nx*3,none⟩ (.int .u8 0)).setCell ⟨pb,c.nx*3+1,none⟩ (.int .i64 0)).setCell ⟨pb,c.nx*3+2,none⟩ (.slice none 0 0)).heap[k]? = w.heap[k]?:=λk u=>by
   rw[af _ _ _ _ u,af _ _ _ _ u,af _ _ _ _ u];rfl
  refine⟨rfl,kY.step (KC.out.block (λk u=>a1 k ?_)) a0 (λk u=>(HQ.out k u).1),⟨?_,λp a b d=>?_,λp q a b d e g h=>y.out.i p q a b d e (iS _ _ _ g) (iS _ _ _ h),λp a=>y.out.l p (iS _ _ _ a),λp a=>y.out.k p (iS _ _ _ a)⟩,?_⟩
  .rcases u with h|h|h
   .rw[h];exact λe=>G e.symm
   .rw[h];exact λe=>a4 e.symm
   exact(HQ.out k (by rw[dr];exact h)).2
  .rw[H];have hP:Full (w.drewN (nq+1)) pb 228 (n*3) (n*3) (iM on f M):=y.out.p;exact((((hP.ep (c.nx*3) (.int .u8 0)).ep (c.nx*3+1) (.int .i64 0)).ep (c.nx*3+2) (.slice none 0 0)).congr (λj _=>(CM on f M c.nx j).symm)).off G
  .have h:=a2.out p a b (iS _ _ _ d);exact((y.out.s p a b (iS _ _ _ d)).block (a1 _ h.2)).off h.1
  exact bm (bm (bm (bm (sZ (dk _ _) _) (ag (ag rfl)) _) (ag (ag rfl)) _) (ag (ag rfl)) _) (ag (ab rfl)) _
 rw[hm]at m0;have HM:=az hm;generalize J:c.nx=x at *;go_in;go_wp2_with fail
 go_quiet (fail)
 go_wp2_with fail
 go_end0;subst J;have H:B.kh on c=on:=by unfold B.kh;rw[aj HM.out]
 rw[H];have o:kY (w.drewN nq) cb rd sb n ad cap c:=KC.out.block (λ_ _=>rfl);have hP:ow (w.drewN nq) pb n on f M:=y.out.block rfl (λ_ _ _ _=>rfl);refine⟨rfl,o.step a0 (λk u=>(HQ.out k u).1),hP.block (af _ _ _ _ G) (λp a b d=>af _ _ _ _ (a2.out p a b d).1),bm (sZ (dk _ _) _) (ag (ab rfl)) _⟩
def Io(w0 w:World)(cb rd sb n pb:Nat)(ad:Option Addr)(c:B.Cy)(st:List Nat)(on:Nat->Bool)(f:Fb)(M:Nat->List B.V)(l:List B.V):Prop:=
 dy (nh cb rd ad) w0 w/\ow w pb n on f M/\∃ad' cap',vY ad ad' w0.heap.size/\kY w cb rd sb n ad' cap' ⟨(B.fY c.m st l).1,(B.fY c.m st l).2,c.nx⟩
theorem Io.kept{w0 w w':World}{cb u sb n pb:Nat}{ad:Option Addr}{c:B.Cy}{y:List Nat}{on:Nat->Bool}{f:Fb}{M:Nat->List B.V}{l:List B.V}(h:Io w0 w cb u sb n pb ad c y on f M l)(i:w.grownBy w' none):Io w0 w' cb u sb n pb ad c y on f M l:=by
 obtain⟨H,J,o,e,W,G⟩:=h;exact⟨H.gR i,J.kept i,o,e,W,G.kept i⟩
theorem rq{w:World}{cb y sb n pb m:Nat}{ad:Option Addr}{cap:Nat}{c:B.Cy}{on:Nat->Bool}{f:Fb}{M:Nat->List B.V}(hP:ow w pb m on f M)(W:kY w cb y sb n ad cap c):¬nh cb y ad pb/\∀p,1<=p->p<=m->on p=true->¬nh cb y ad (f.b p):=by
 have o:∀(k:Nat) (u:Array Value) (T:TypeId),w.heap[k]? = some (.cells u T (0,0))->T≠275/\T≠4/\T≠3->¬nh cb y ad k:=by
  intro k u T J G h;obtain⟨H,T',i,e⟩:=W.ty k h;rw[J]at i;injection i with i;injection i with _ i _
  subst i;rcases e with e|e|e
  .exact G.1 e
  .exact G.2.1 e
  exact G.2.2 e
 refine⟨?_,λp a b d=>?_⟩
 .obtain⟨H,h,_⟩:=hP.p;exact o _ _ _ h (by decide)
 obtain⟨H,h,_⟩:=hP.s p a b d;exact o _ _ _ h (by decide)
theorem B3{w0 w:World}{cb Y sb n pb:Nat}{ad:Option Addr}{c:B.Cy}{y:List Nat}{on:Nat->Bool}{f:Fb}{M:Nat->List B.V}{l:List B.V}(v:B.V)(h:Io w0 w cb Y sb n pb ad c y on f M l)(hn:n<=200)(hs:y.length+B.kX c.m n<=n)(hl:∀v,v∈l->v.1≠0->v.1<=n)(hv:v.1≠0->v.1<=n): Calls prog 188 #[P0 cb,vA v] w λe w'=>e=.returned (.tuple #[])/\Io w0 w' cb Y sb n pb ad c y on f M (l++[v]):=by
 obtain⟨h1,hP,J,i,h2,h3⟩:=h;have u:(B.fY c.m y l).2.length<=200:=by have:=B.me (n:=n) l c.m y hl;omega
 have o:=rq hP h3;refine(qd cb Y sb n J i _ v w h3 hv hn u).mono ?_;rintro e w' ⟨rfl,Z,G,h4,h5,W⟩;refine⟨rfl,h1.trans W (λk hk hl=>(h2.Hz hk).resolve_right (by omega)),hP.block (W.same hP.p.lt o.1) (λp a b d=>W.same (hP.s p a b d).lt (o.2 p a b d)),Z,G,h2.trans h4 h1.size,?_⟩;rw[B.oM];exact h5
theorem AH(cb rd sb pb n p:Nat)(ad:Option Addr)(cap:Nat)(c:B.Cy)(st:List Nat)(on:Nat->Bool)(f:Fb)(M:Nat->List B.V)(w:World)(hC:kY w cb rd sb n ad cap c)(hP:ow w pb n on f M)(h0:w.cell? ⟨sb,0,none⟩=some (.slice (some ⟨pb,0,none⟩) n n))(hsb:¬nh cb rd ad sb)(hst:c.st=st++[p])(hp:1<=p/\p<=n/\on p=true)(hv:∀v,v∈M p->v.1≠0->v.1<=n)(hs:st.length+B.kX c.m n<=n)(hn:n<=200): Calls prog 189 #[P0 cb] w λe w'=>e=.returned (.tuple #[])/\ow w' pb n on f M/\dy (nh cb rd ad) w w'/\∃ad' cap',vY ad ad' w.heap.size/\kY w' cb rd sb n ad' cap' (B.AI M c st p):=by
 obtain⟨k,rfl⟩:∃k,p=k+1:=⟨p-1,by omega⟩;have hkd:=hp.2.2
 have hC2:w.heap[cb]? = some (.cells #[P0 sb,.slice (some ⟨rd,0,none⟩) n n,.slice ad (st.length+1) cap,.int .i64 c.nx] 275 (0,0)):=by have:=hC.b;rw[hst,bo,eF]at this;exact this
 have hq:fM w 3 (.slice ad ((mD st).length+1) cap) (mD st++[.int .i64 (k:Int)]):=by
  have:=hC.q;rw[hst,zq,bo,eF,<-uV st]at this;exact this
 obtain⟨g,off,rfl,lg,hcap,hlast,hq2⟩:=hq.pop;rw[uV]at hcap hlast hq2;obtain⟨e0,_,e2,_⟩:w.cell? ⟨cb,0,none⟩=some (P0 sb)/\True/\w.cell? ⟨cb,2,none⟩=some (.slice (some ⟨g,off,none⟩) (st.length+1) cap)/\True:=by simp[World.cell?,hC2]
 have z2:w.frozen? ⟨cb,2,none⟩=false:=by simp[World.frozen?,hC2]
 have p2:=hP.p.cell (k*3+2) (by omega);rw[sQ,hkd]at p2;have hsl:oL true (f.b (k+1)) (M (k+1)).length=.slice (some ⟨f.b (k+1),0,none⟩) (M (k+1)).length (M (k+1)).length:=rfl;rw[hsl]at p2;have hne:=rq hP hC;have npc:¬pb=cb:=λe=>hne.1 (ag e);have ngc:g≠cb:=by
  obtain⟨cu,h⟩:=hq.ty g rfl;exact dW h hC2 (by decide)
 have ncg:¬cb=g:=λe=>ngc e.symm;have hl8:=hP.l _ hkd;have hsb2:st.length<=200:=by omega
 have hcl:st.length<=cap:=by omega
 have KT:Hid (Io w (w.setCell ⟨cb,2,none⟩ (.slice (some ⟨g,off,none⟩) st.length cap)) cb rd sb n pb (some ⟨g,off,none⟩) c st on f M []):=by
  refine⟨bm (dk _ _) (ag (ag rfl)) _,hP.block (af _ _ _ _ (λe=>npc e)) (λp a b d=>af _ _ _ _ (λe=>hne.2 p a b d (ag e))),some ⟨g,off,none⟩,cap,vY.refl _ _,⟨?_,hC.r.off (by obtain⟨cu',h',_⟩:=hC.r;exact dW h' hC2 (by decide)),hq2.block (λx hx=>af _ _ _ _ ?_)⟩⟩
  .simp[World.setCell,cn,hC2,B.fY]
  have e:g=x:=by injection hx
  subst e;exact ngc
 have HV:=az hv;have HST:=az hs;have HPL:=az hp;have hki:(k:Int)<(n:Int):=by omega
 have hli:(st.length:Int)<(st.length:Int)+1:=by omega
 have hsub:(st.length:Int)+1-1=(st.length:Int):=by omega
 have hwr:IntKind.i64.wrap (st.length:Int)=(st.length:Int):=by simp[IntKind.wrap,IntKind.bits,IntKind.signed];omega
 have hwr2:wrap64 (st.length:Int)=(st.length:Int):=bd _ ⟨by omega,by omega⟩;generalize hln:st.length=ln at *;have HLN:=az hln;clear hC hP hC2 hq hq2 hst hne hs hv hsl hp hln hsb;go_in;go_wp2_with fail
 generalize hW:w.setCell ⟨cb,2,none⟩ (.slice (some ⟨g,off,none⟩) ln cap)=w1 at *;clear hW e0 e2 z2 h0 p2 hlast;go_loopw [40] (λi wr=>∃j:Nat,j<=(M (k+1)).length/\i=.int .i64 j/\Hid (Io w wr cb rd sb n pb (some ⟨g,off,none⟩) c st on f M ((M (k+1)).take j))) (λi _=>(M (k+1)).length-(intOf i).toNat)
 case atStart=>exact⟨0,by omega,rfl,KT⟩
 case round=>
  obtain⟨j,hj,rfl,hX⟩:=hrel;by_cases hlt:j<(M (k+1)).length
  .have hF:=hX.out.2.1.s (k+1) HPL.out.1 HPL.out.2.1 HPL.out.2.2;have r0:=hF.cell (j*2) (by omega);have r1:=hF.cell (j*2+1) (by omega);rw[nE]at r0;rw[nD]at r1;clear hF;have hmem:jQ M (k+1) j∈M (k+1):=by
    show(M (k+1)).getD j (0,0)∈M (k+1);rw[ar,bn hlt];exact List.getElem_mem hlt
   have htk:(M (k+1)).take (j+1)=(M (k+1)).take j++[jQ M (k+1) j]:=by
    rw[List.take_succ_eq_append_getElem hlt];congr 1
    show[_]=[(M (k+1)).getD j (0,0)];rw[ar,bn hlt];rfl
   generalize hvv:jQ M (k+1) j=vv at *;have HTK:=az htk;have HMem:=az hmem;clear htk hmem hvv;have hji:(j:Int)<((M (k+1)).length:Int):=by omega
   generalize hll:(M (k+1)).length=ml at *;clear hll;go_wp2_with fail
   refine(B3 vv (hX.out.kept (ah _ _ _)) hn (by rw[HLN.out];exact HST.out) (λv hv h0=>HV.out v (List.mem_of_mem_take hv) h0) (HV.out vv HMem.out)).mono ?_;rintro e w5 ⟨rfl,hV5⟩;rw[<-HTK.out]at hV5;have KV5:=az hV5;clear hV5 r0 r1;go_wp2_with fail
   go_roundw
   case rel=>exact⟨j+1,by omega,by go_num,KV5⟩
   case measure=>simp[intOf];omega
  have hjl:j=(M (k+1)).length:=by omega
  have hX2:=hX.out;rw[hjl,List.take_length]at hX2;have KX:=az hX2;clear hX2;go_wp2_with fail
  go_end0;obtain⟨x1,x2,ad',cap',x3,x4⟩:=KX.out;exact⟨rfl,x2,x1,ad',cap',x3,x4⟩
theorem uj(cb o sb pb n:Nat)(ad:Option Addr)(cap:Nat)(c:B.Cy)(on:Nat->Bool)(f:Fb)(M:Nat->List B.V)(T:Nat->Prop)(w:World)(H:kY w cb o sb n ad cap c)(hP:ow w pb n on f M)(G:w.cell? ⟨sb,0,none⟩=some (.slice (some ⟨pb,0,none⟩) n n))(u:¬nh cb o ad sb)(y:B.lR on n M c T)(hs:c.st.length+B.kX c.m n<=n)(hx:c.nx<n)(hn:n<=200): Calls prog 136 #[P0 cb] w λe w'=>e=.returned (.tuple #[])/\ow w' pb n (B.unit M on c).1 f M/\dy (λk=>k=pb\/nh cb o ad k) w w'/\∃a1 Y,vY ad a1 w.heap.size/\kY w' cb o sb n a1 Y (B.unit M on c).2:=by
 obtain⟨_,_,e2,_,_,_⟩:=H.c1;have lc:=bz H.b;rcases List.eq_nil_or_concat c.st with i|⟨st,p,i⟩
 .have HL:=az (A8 cb o sb pb n ad cap c on f M w H hP G hx hn);rw[B.nV i];rw[i]at e2;go_in;go_wp2_with fail
  refine HL.out.mono ?_;rintro e w1 ⟨rfl,h1,W,Z⟩;have J:=az (ay W (ay (Z.mono (S1:=λk=>k=pb\/nh cb o ad k) (λk hk _=>hk.imp id (λh=>ag h))) h1));go_wp2_with fail
  go_end0;exact⟨rfl,J.out.1,J.out.2.1,ad,cap,vY.refl _ _,J.out.2.2⟩
 rw[List.concat_eq_append]at i;have a0:=y.hc p (y.hd p (by rw[i];simp))
 have HL:=az (AH cb o sb pb n p ad cap c st on f M w H hP G u i (y.ha p a0) (λv hv G=>(y.ha _ ((y.hb p a0 v hv).2 G)).2.1) (by rw[i]at hs;simp at hs;omega) hn);rw[B.nU i];rw[i,bo,eF]at e2;have a4:(0:Int)<(st.length:Int)+1:=by omega
 go_in;go_wp2_with fail
 refine HL.out.mono ?_;rintro e w1 ⟨rfl,h1,W,Z⟩;have J:=az (ay h1 (ay (W.mono (S1:=λk=>k=pb\/nh cb o ad k) (λk hk _=>ab hk)) Z));go_wp2_with fail
 go_end0;exact⟨rfl,J.out⟩
end F
section
theorem pT(a:Nat):wrap64 (wrap64 (a:Int)+1)=wrap64 ((a+1:Nat):Int):=by unfold wrap64;omega
def F1(w:World)(cb:Nat):Nat:=match w.cell? ⟨cb,2,none⟩ with|some (.slice _ n _)=>n|_=>0
def Jf(w:World)(cb:Nat):Nat:=match w.cell? ⟨cb,3,none⟩ with|some (.int _ n)=>n.toNat|_=>0
def vL(w:World)(rd:Nat):Nat->Nat
 | 0=>0
 | k+1=>vL w rd k+(match w.cell? ⟨rd,k,none⟩ with|some (.bool true)=>0|_=>1)
def todo(w:World)(cb rd n:Nat):Nat:=F1 w cb+vL w rd n+(n-Jf w cb)
theorem uG{w:World}{e n:Nat}{m:Nat->Bool}(h:Full w e 4 n n (λj=>.bool (m (j+1)))):∀k,k<=n->vL w e k=B.kX m k
 | 0,_=>rfl
 | k+1,hk=>by
  rw[vL,B.kX,uG h k (by omega),h.cell k (by omega)]
  cases m (k+1)<;>rfl
theorem zn{w:World}{cb e sb n:Nat}{ad:Option Addr}{cap:Nat}{c:B.Cy}(h:kY w cb e sb n ad cap c):todo w cb e n=c.st.length+B.kX c.m n+(n-c.nx):=by
 obtain⟨_,_,o,i,_⟩:=h.c1;unfold todo F1 Jf;rw[uG h.r n (bj _),o,i];simp
theorem AA{on:Nat->Bool}{n:Nat}{M:Nat->List B.V}{c:B.Cy}{T:Nat->Prop}(h:B.lR on n M c T)(hx:c.nx<n): (B.unit M on c).2.st.length+B.kX (B.unit M on c).2.m n+(n-(B.unit M on c).2.nx)+1=c.st.length+B.kX c.m n+(n-c.nx)/\(B.unit M on c).2.st.length+B.kX (B.unit M on c).2.m n<=c.st.length+B.kX c.m n:=by
 rcases List.eq_nil_or_concat c.st with e|⟨i,p,e⟩
 .rw[B.nV e];show c.st.length+B.kX c.m n+(n-(c.nx+1))+1=_/\c.st.length+B.kX c.m n<=_;omega
 rw[List.concat_eq_append]at e;have:=B.me (n:=n) (M p) c.m i (λv u y=>(h.ha _ ((h.hb p (h.hc p (h.hd p (by rw[e];simp))) v u).2 y)).2.1);rw[B.nU e];show(B.fY c.m i (M p)).2.length+B.kX (B.fY c.m i (M p)).1 n+(n-c.nx)+1=_/\(B.fY c.m i (M p)).2.length+B.kX (B.fY c.m i (M p)).1 n<=_;rw[e,bo,eF];omega
theorem Bz{kd:B.Kd}{nr n:Nat}{s:B.St}(h:B.iZ kd nr n s):(B.begun s.2.1 nr).st.length+B.kX (B.begun s.2.1 nr).m n<=n:=by
 have:=B.me (n:=n) (B.iE s.2.1 nr) (λ_=>false) [] (λv e o=>by
  obtain⟨i,hi,rfl⟩:=B.kI.1 e;exact(B.kJ h (B.jj i hi o)).2.2)
 rw[B.vN]at this;show(B.fY (λ_=>false) [] (B.iE s.2.1 nr)).2.length+B.kX (B.fY (λ_=>false) [] (B.iE s.2.1 nr)).1 n<=n;simp at this;omega
end
namespace F
structure BG(w:World) (Q:Nat->Prop) (eb sb pb n nr:Nat) (kd:B.Kd) (vb:Vs) (s:B.St):Prop where
 hv:IC Q w eb nr s.2.1
 hq:∀k,Q k->k<w.heap.size/\k≠sb
 hs:jm w sb pb eb n kd vb s.2.2
 hh:B.iZ kd nr n s
 n1:1<=n
 n2:n<=200
theorem BG.kept{w w':World}{Q:Nat->Prop}{eb sb pb n nr:Nat}{kd:B.Kd}{vb:Vs}{s:B.St}(h:BG w Q eb sb pb n nr kd vb s)(o:w.grownBy w' none):BG w' Q eb sb pb n nr kd vb s:=
 ⟨h.hv.block (λk i=>o.block k (h.hq k i).1 (by intro e;cases e)),λk i=>⟨dm (h.hq k i).1 o.size,(h.hq k i).2⟩,h.hs.kept o,h.hh,h.n1,h.n2⟩
theorem BG.roots{w:World}{Q:Nat->Prop}{eb sb pb n nr:Nat}{kd:B.Kd}{vb:Vs}{s:B.St}(h:BG w Q eb sb pb n nr kd vb s):∀i,i<nr->(s.2.1 i).1≠0->(s.2.1 i).1<=n:=λi hi e=>(B.kJ h.hh (B.jj i hi e)).2.2
theorem jm.cells{w:World}{sb pb eb n:Nat}{kd:B.Kd}{vb:Vs}{M:Nat->List B.V}(h:jm w sb pb eb n kd vb M): w.cell? ⟨sb,1,none⟩=some (.func (.func 59) #[P0 eb] #[])/\w.cell? ⟨sb,2,none⟩=some (yg kd vb)/\w.cell? ⟨sb,3,none⟩=some (.int .i64 (wrap64 (kd.un:Int)))/\w.cell? ⟨sb,4,none⟩=some (.int .i64 (wrap64 (kd.fo:Int)))/\w.cell? ⟨sb,5,none⟩=some (.int .i64 (wrap64 (kd.cc:Int)))/\w.frozen? ⟨sb,2,none⟩=false/\w.frozen? ⟨sb,3,none⟩=false/\w.frozen? ⟨sb,4,none⟩=false/\w.frozen? ⟨sb,5,none⟩=false:=by
 simp[World.cell?,World.frozen?,h.b]
def LK(w wr:World)(cb rd sb pb n nr:Nat)(kd:B.Kd)(vb:Vs)(s:B.St)(o:Obj):Prop:=
 ∃c on ad cap,kY wr cb rd sb n ad cap c/\ow wr pb n on vb.f s.2.2/\B.lR on n s.2.2 c (B.Reach nr s)/\c.st.length+B.kX c.m n<=n/\(∀p,on p=true->kd.on p=true)/\(∀k,nh cb rd ad k->w.heap.size<=k)/\dy (λk=>k=sb\/k=pb) w wr/\wr.heap[sb]? = some o
theorem Bm(Q:Nat->Prop)(eb sb pb n nr:Nat)(kd:B.Kd)(vb:Vs)(s:B.St)(w:World)(hR:BG w Q eb sb pb n nr kd vb s): Calls prog 219 #[P0 sb] w λe w'=>e=.returned (.tuple #[])/\∃on:Nat->Bool,(∀p,1<=p->p<=n->(on p=true↔B.Reach nr s p))/\(∀p,on p=true->kd.on p=true)/\(∀p,B.Reach nr s p->on p=true)/\dy (λk=>k=sb\/k=pb) w w'/\jm w' sb pb eb n ⟨on,none,kd.un,kd.fo+1,kd.cc⟩ vb s.2.2:=by
 have KR:=az hR;obtain⟨c1,c2,c3,c4,c5,z2,z3,z4,z5⟩:=hR.hs.cells;have ls:=bz hR.hs.b;have hn:=hR.n2;have hn1:=hR.n1;have a5:sb≠pb:=by obtain⟨cu,h,_⟩:=hR.hs.p.p;exact dW hR.hs.b h (by decide)
 have HB:=az hR.hs.b;generalize hy:wrap64 (kd.fo:Int)=y at *;generalize aH:yg kd vb=cv at *;have HY:=az hy;go_in;go_wp2_with fail
 generalize hW:(w.setCell ⟨sb,4,none⟩ (.int .i64 (wrap64 (y+1)))).setCell ⟨sb,2,none⟩ (.pointer none)=w2;have aM:w2.heap.size=w.heap.size:=by rw[<-hW];simp[World.setCell]
 have Y:∀k,k≠sb->w2.heap[k]? = w.heap[k]?:=λk G=>by rw[<-hW,af _ _ _ _ G,af _ _ _ _ G]
 have Z:w2.heap[sb]? = some (.cells #[.slice (some ⟨pb,0,none⟩) n n,.func (.func 59) #[P0 eb] #[],.pointer none,.int .i64 (wrap64 (kd.un:Int)),.int .i64 (wrap64 (y+1)),.int .i64 (wrap64 (kd.cc:Int))] 207 (0,0)):=by
  rw[<-hW];have:=HB.out;simp[World.setCell,cn,this]
 have a8:Hid (dy (λk=>k=sb\/k=pb) w w2):=by
  show dy _ _ _;rw[<-hW];exact bm (bm (dk _ _) (ag (ag rfl)) _) (ag (ag rfl)) _
 have d0:w2.cell? ⟨sb,0,none⟩=some (.slice (some ⟨pb,0,none⟩) n n):=by simp[World.cell?,Z]
 have d1:w2.cell? ⟨sb,1,none⟩=some (.func (.func 59) #[P0 eb] #[]):=by simp[World.cell?,Z]
 generalize ho:(.cells #[.slice (some ⟨pb,0,none⟩) n n,.func (.func 59) #[P0 eb] #[],.pointer none,.int .i64 (wrap64 (kd.un:Int)),.int .i64 (wrap64 (y+1)),.int .i64 (wrap64 (kd.cc:Int))] 207 (0,0):Obj)=o at *;have HO:=az ho;have aA:=az Z;have a0:Hid (ow w2 pb n kd.on vb.f s.2.2):=KR.out.hs.p.block (Y pb (λe=>a5 e.symm)) (λp a b d=>Y _ (by
  obtain⟨cu,h,_⟩:=KR.out.hs.p.s p a b d;exact dW h HB.out (by decide)))
 have a7:=az (KR.out.hv.block (λk G=>Y k (KR.out.hq k G).2));clear hW Y ho Z c1 c2 c3 c4 c5 z2 z3 z4 z5;refine(tJ Q eb sb pb n nr s.2.1 w2 d0 d1 a7.out (λk G=>by have:=(KR.out.hq k G).1;omega) hn KR.out.roots).mono ?_;rintro e w3 ⟨cb,rd,ad,cap,rfl,u,a3,aC⟩;have aF:Hid (LK w w3 cb rd sb pb n nr kd vb s o):=by
  refine⟨_,kd.on,ad,cap,aC,a0.out.block (u.block pb a0.out.p.lt) (λp a b d=>u.block _ (a0.out.s p a b d).lt),B.su KR.out.hh,Bz KR.out.hh,λ_ h=>h,λk G=>by have:=a3 k G;omega,?_,(u.block sb (by omega)).trans aA.out⟩;exact a8.out.trans (S1:=λ_=>False) ⟨u.os,u.tape,u.output,u.size,λk G _=>u.block k G⟩ (λ_ h _=>h.elim)
 go_wp2_with fail
 go_loopw [] (λwr=>Hid (LK w wr cb rd sb pb n nr kd vb s o)) (λwr=>todo wr cb rd n)
 case atStart=>exact aF
 case round=>
  obtain⟨c,on,a9,a1,h1,h2,W,h4,h5,h6,h7,h8⟩:=hrel.out;have HT:=az (zn h1);have H:=az (ay h1 (ay h2 (ay W (ay h4 (ay h5 (ay h6 (ay h7 h8)))))));have HE:=az (tF cb rd sb n a9 a1 c wr h1);by_cases hx:c.nx=n
  .have hd:decide (c.nx=n)=true:=by simpa using hx
   rw[hd]at HE;have aB:=az hx;go_wp2_with fail
   refine HE.out.mono ?_;rintro e w4 ⟨rfl,J⟩;have i:=az J;go_wp2_with fail
   go_end0;obtain⟨h1,h2,W,h4,h5,h6,h7,h8⟩:=H.out;refine⟨rfl,on,λp a b=>?_,h5,λp hp=>(W.ha p hp).2.2,h7.gR i.out,⟨?_,h2.kept i.out,λc hc=>by cases hc⟩⟩
   .rw[<-W.last (W.hg (by omega)) p];exact⟨W.hi p a (by omega),λhm=>(W.ha p (W.hc p hm)).2.2⟩
   have:=cm i.out h8 (by intro e;cases e);rw[this,<-HO.out,<-HY.out,pT];rfl
  have hd:decide (c.nx=n)=false:=by simpa using hx
  rw[hd]at HE;have a6:c.nx<n:=by have:=H.out.2.2.1.hh;omega
  have a2:=az a6;go_wp2_with fail
  refine HE.out.mono ?_;rintro e w4 ⟨rfl,J⟩;have i:=az J;go_wp2_with fail
  have aD:w4.cell? ⟨sb,0,none⟩=some (.slice (some ⟨pb,0,none⟩) n n):=by
   have:=cm i.out H.out.2.2.2.2.2.2.2 (by intro e;cases e);rw[<-HO.out]at this;simp[World.cell?,this]
  refine(uj cb rd sb pb n a9 a1 c on vb.f s.2.2 (B.Reach nr s) w4 (H.out.1.kept i.out) (H.out.2.1.kept i.out) aD (λh=>?_) H.out.2.2.1 H.out.2.2.2.1 a2.out hn).mono ?_
  .have:=H.out.2.2.2.2.2.1 sb h;omega
  rintro e w5 ⟨rfl,u1,u2,aL,a4,u3,u4⟩;have aK:=AA H.out.2.2.1 a2.out;have aJ:=zn u4;have aO:=i.out.size;have aN:=H.out.2.2.2.2.2.2.1.size;have aI:Hid (LK w w5 cb rd sb pb n nr kd vb s o):=by
   obtain⟨h1,h2,W,h4,h5,h6,h7,h8⟩:=H.out;refine⟨_,_,aL,a4,u4,u1,B.uo W a2.out,by omega,λp hp=>h5 p (B.mK hp),λk G=>?_,(h7.gR i.out).trans u2 (λk G hl=>?_),(u2.same (by omega) (λh=>?_)).trans (cm i.out h8 (by intro e;cases e))⟩
   .rcases u3.Hz G with h|h
    .exact h6 k h
    omega
   .rcases G with h|h
    .exact ab h
    exact ch (h6 k h) (by omega)
   rcases h with h|h
   .exact a5 h
   exact ch (h6 sb h) (by omega)
  have aG:Hid (todo w5 cb rd n<todo wr cb rd n):=by show _<_;have:=HT.out;omega
  go_wp2_with fail
  go_roundw
  case rel=>exact aI
  case measure=>exact aG.out
end F
end Go.Proofs.YtnjiinbhbjpfkaaGreatDoor
