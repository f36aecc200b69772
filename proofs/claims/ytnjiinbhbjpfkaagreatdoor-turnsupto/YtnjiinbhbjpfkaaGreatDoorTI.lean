import Derived.Test.YtnjiinbhbjpfkaaGreatDoorTB
set_option maxRecDepth 100000
set_option maxHeartbeats 0
set_option linter.all false
namespace Go.Proofs.YtnjiinbhbjpfkaaGreatDoor
open Go.RowKit Go.Proofs.Tryz
section
variable {ad:Option Addr}{cb e sz:Nat}{w:aa}
def Tryz.IC:(prog.info? 3).map (λi=>(i.zero,i.size,i.bytes))=some (some (aj 0),1,8):=by kernel_rfl
def mV.c1{sb n:Nat}{cap:Nat}{c:B.Cy}(h:mV w cb e sb n ad cap c):w.cell? (ay cb 0)=some (P0 sb)/\w.cell? (ay cb 1)=some (dA e n n)/\w.cell? (ay cb 2)=some (.slice ad c.st.length cap)/\w.cell? (ay cb 3)=some (aj c.nx)/\w.frozen? (ay cb 2)=false/\w.frozen? (ay cb 3)=false:=by
 simp[World.cell?,World.frozen?,h.b]
def xG(ad ad':Option Addr)(sz:Nat):Prop:=∀k,fi ad'=some k->fi ad=some k\/sz<=k
theorem xG.refl(ad:Option Addr)(sz:Nat):xG ad ad sz:=λ_ h=>af h
theorem xG.trans{a b c:Option Addr}(h:xG a b sz)(u:xG b c e)(y:sz<=e):xG a c sz:=λk o=>by
 rcases u k o with i|i
 .exact h k i
 omega
def xG.J1{o:Nat}{i:Option Addr}{k:Nat}(h:xG ad i sz)(u:oT cb o i k):oT cb o ad k\/sz<=k:=by
 rcases u with e|e|e
 .exact af (af e)
 .exact af (ah (af e))
 exact(h k e).imp (λh=>ah (ah h)) id
def El{S:Nat->Prop}{w':aa}{r:Option Nat}(h:w.grownBy w' r)(o:∀k,r=some k->k<w.heap.size->S k):dM S w w':=
 ⟨h.os,h.tape,h.output,h.size,λk i hn=>h.block k i (λe=>hn (o k e.symm i))⟩
theorem sj(cb u sb n:Nat)(ad:Option Addr)(cap:Nat)(c:B.Cy)(v:B.V)(w:aa)(hC:mV w cb u sb n ad cap c)(hv:v.1≠0->v.1<=n)(hn:n<=200)(bX:c.st.length<=200): Calls prog 188 #[P0 cb,vA v] w λe w'=>e=.returned (.tuple #[])/\∃b5 a0,xG ad b5 w.heap.size/\mV w' cb u sb n b5 a0 ⟨(B.seen c.m c.st v).1,(B.seen c.m c.st v).2,c.nx⟩/\dM (oT cb u ad) w w':=by
 have KC:=bj hC;have aC:=bj (oE v);obtain⟨v1,v2⟩:=v;by_cases h0:v1=0
 .subst h0;have aT:B.seen c.m c.st (0,v2)=(c.m,c.st):=by unfold B.seen;rw[au eB]
  rw[aT];have hi:=aC.out;simp only[ne_eq,not_true,decide_false]at hi;have HI:=bj hi;clear aT hC hv hi aC;go_in;go_wp2_with fail
  have o:=bj (ak w (.cells #[.int .i64 ((0:Nat):Int),.int .i64 v2] 149) none);first|go_region_with (go_at_call 198;refine(HI _).mono ?_;rintro e w2 ⟨rfl,i⟩;have a5:=bj (ar o ⟨i.os,i.tape,i.output,i.size,i.block⟩);clear i)|fail
  all_goals
   go_wp2_with fail
   go_end0;exact⟨rfl,ad,cap,xG.refl _ _,KC.kept a5,ep a5⟩
 obtain⟨k,hk⟩:∃k,v1=k+1:=⟨v1-1,ag⟩;subst hk;have aM:k<n:=by have:=hv eB;simp only at this;omega
 have hi:=aC.out;have hd:decide (k+1≠0)=true:=eB
 rw[show((k+1,v2):B.V).1=k+1 from rfl,hd]at hi;have HI:=bj hi;have aL:=bj (nT k v2 ag);obtain⟨_,c1,_⟩:=hC.c1;have lc:=ch hC.b;have lr:=hC.r.lt;have r0:=hC.r.cell k aM;clear hC hv hi hd aC h0;generalize b0:c.m (k+1)=b at *;have aY:=bj b0;clear b0;have bV:(k:Int)<n:=ag
 go_in;go_wp2_with fail
 generalize hW:w.alloc (.cells #[.int .i64 ((k:Int)+1),.int .i64 v2] 149)=w1;have o:Hid (w.grownBy w1 none):=by rw[<-hW];exact ak _ _ _
 have a9:w1.heap[w.heap.size]? = some (.cells #[.int .i64 ((k:Int)+1),.int .i64 v2] 149 (0,0)):=by rw[<-hW];exact bl w _
 have lx:=ch a9;have v0:w1.cell? ⟨w.heap.size,0,none⟩=some (.int .i64 ((k:Int)+1)):=fy a9
 have v1:w1.cell? ⟨w.heap.size,1,none⟩=some (.int .i64 v2):=fy a9;clear hW a9;have d1:=(bd o (a:=⟨cb,1,none⟩) lc).1.trans c1;have q0:=(bd o (a:=⟨u,k,none⟩) lr).1.trans r0;have HS:Hid (∀w':aa,w1.grownBy w' none->(w'.cell? ⟨w.heap.size,0,none⟩=some (.int .i64 ((k:Int)+1))/\w'.cell? ⟨w.heap.size,1,none⟩=some (.int .i64 v2)/\w'.cell? ⟨cb,1,none⟩=some (.slice (some ⟨u,0,none⟩) n n)/\w'.cell? ⟨u,k,none⟩=some (.bool b))/\(w.heap.size<w'.heap.size/\cb<w'.heap.size/\u<w'.heap.size)):=
  λw' Z=>⟨⟨(bd Z (a:=⟨w.heap.size,0,none⟩) lx).1.trans v0,(bd Z (a:=⟨w.heap.size,1,none⟩) lx).1.trans v1,(bd Z (a:=⟨cb,1,none⟩) (by show cb<_;omega)).1.trans d1,(bd Z (a:=⟨u,k,none⟩) (by show u<_;omega)).1.trans q0⟩,gp Z.size,gp Z.size,gp Z.size⟩
 clear c1 r0 d1 q0 v0 v1;obtain⟨⟨v0,v1,d1,q0⟩,z1,z2,z3⟩:=HS w1 (aw _ _);go_cut [16] from 4 to 15 (λx wx=>x=.bool (!b)/\Hid (w1.grownBy wx none))
 case first=>
  first|go_region_with (first|(go_at_call 198;refine(HI _).mono ?_;rintro e w2 ⟨rfl,i⟩;have a5:Hid (w1.grownBy w2 none):=⟨i.os,i.tape,i.output,i.size,i.block⟩;obtain⟨⟨aB,a8,aH,aI⟩,aK,aJ,aG⟩:=HS w2 a5;clear i)|(go_at_call 201;refine(aL _).mono ?_;rintro e w3 ⟨rfl,a1⟩;have J:=bj (ar a5 ⟨a1.os,a1.tape,a1.output,a1.size,a1.block⟩);obtain⟨⟨bS,bM,bQ,bP⟩,bR,bO,bN⟩:=HS w3 J;clear a1))|fail
  all_goals
   go_wp2_with fail
   go_meet
   case rel=>exact⟨rfl,J⟩
 case rest=>
  obtain⟨rfl,J⟩:=hcut;clear v0 v1 d1 q0 z1 z2 z3
  cases b
  .have aO:Hid (B.seen c.m c.st (k+1,v2)=(B.mark c.m (k+1),c.st++[k+1])):=by show _=_;unfold B.seen;rw[bf ⟨eB,aY⟩]
   obtain⟨⟨v0,v1,d1,q0⟩,z1,z2,z3⟩:=HS wc J;have f0:wc.frozen? ⟨u,k,none⟩=false:=by
    have h:=(KC.kept o).kept J;exact(h.r.cells k aM).2
   go_wp2_with fail
   generalize bK:wc=wd at *;clear bK;go_cut [] from 17 to 23 (λwx=>∃w4,Hid (w1.grownBy w4 none)/\wx=w4.setCell ⟨u,k,none⟩ (.bool true))
   case first=>
    go_region_with (go_at_call 201;refine(aL _).mono ?_;rintro e w4 ⟨rfl,a2⟩;have Y:=bj (ar J ⟨a2.os,a2.tape,a2.output,a2.size,a2.block⟩);obtain⟨⟨aB,a8,aH,aI⟩,aK,aJ,aG⟩:=HS w4 Y;have bW:=(((KC.kept o).kept Y).r.cells k aM).2;clear a2)
    all_goals
     go_wp2_with fail
     go_meet
     case rel=>exact⟨w4,Y,rfl⟩
   case rest=>
    obtain⟨w4,Y,a6⟩:=hcut;have G:=(KC.kept o).kept Y;obtain⟨⟨aB,a8,aH,aI⟩,aK,aJ,aG⟩:=HS w4 Y;have bE:wc.heap.size=w4.heap.size:=by rw[a6];simp[World.setCell]
    have a7:∀x,x≠u->wc.heap[x]? = w4.heap[x]?:=λx y=>by rw[a6,ab _ _ _ _ y]
    have b6:cb≠u:=by obtain⟨cu,h,_⟩:=G.r;exact eE G.b h ek
    have aV:w.heap.size≠u:=ag;have aA:=bj ((a7 cb b6).trans G.b);have HR:Hid (Full wc u 4 n n (λj=>.bool (B.mark c.m (k+1) (j+1)))):=by
     have h1:=G.r.eC k (.bool true);rw[<-a6]at h1;refine h1.congr (λj _=>?_);by_cases e:j=k
     .subst e;rw[gO,B.kh]
     rw[eN _ _ _ _ e,B.fZ _ _ _ ag]
    have HQ:Hid (gd wc 3 (.slice ad c.st.length cap) (oi c.st)):=G.q.block (λx y=>a7 x (by
     obtain⟨cu,h⟩:=G.q.ty x y;obtain⟨bY,h',_⟩:=G.r;exact eE h h' ek))
    have bB:Hid (dM (oT cb u ad) w wc):=by
     show dM _ _ _;rw[a6];exact bp (ep (ar o Y)) (af (ah (af rfl))) _
    have x0:=(az (a:=⟨w.heap.size,0,none⟩) (a7 _ aV)).trans aB;have x1:=(az (a:=⟨w.heap.size,1,none⟩) (a7 _ aV)).trans a8;have y2:wc.cell? ⟨cb,2,none⟩=some (.slice ad c.st.length cap):=fy aA.out
    have g2:wc.frozen? ⟨cb,2,none⟩=false:=qE aA.out;have bU:w.heap.size<wc.heap.size:=ag;have aF:cb<wc.heap.size:=ag;have bZ:w.heap.size<=wc.heap.size:=ag;have aE:(oi c.st).length=c.st.length:=wN _;have hL:oi (c.st++[k+1])=oi c.st++[.int .i64 k]:=jx AM
    have HL:=bj hL;have bD:Hid (fi ad≠some cb):=λe=>by
     obtain⟨cu,h⟩:=HQ.ty cb (eV dF e);exact eE aA h ek rfl
    have a4:=bj aE;clear G a7 a6 aB a8 aH aI v0 v1 d1 q0 f0 z1 z2 z3 aK aJ aG bE hL aE;obtain⟨i0,hi,bC,aS,bL⟩:=info_parts Tryz.IC;have bF:Hid (∀w':aa,wc.grownBy w' none->w'.cell? ⟨cb,2,none⟩=some (.slice ad c.st.length cap)/\w'.frozen? ⟨cb,2,none⟩=false/\cb<w'.heap.size):=λw' Z=>⟨(bd Z (a:=⟨cb,2,none⟩) aF).1.trans y2,(bd Z (a:=⟨cb,2,none⟩) aF).2.trans g2,dm aF Z.size⟩;have b4:(oi c.st).length+1<=maxLen:=by rw[a4.out];unfold maxLen;omega
    have aU:((oi c.st).length+1)*8<=140737488355328:=kr a4.out;have aW:=bj (bh b4 aU);clear b4 aU;rw[<-a4.out]at y2;go_wp2_with fail
    go_region_law (first|(refine lI _ rfl (.tmp 28) (.tmp 31) 54 rfl 3 i0 _ 8 underlying54 hi bC aS bL rfl (.slice ad (oi c.st).length cap) (oi c.st) mB (b7) ⟨w5.heap.size,0,none⟩ 1 (.int .i64 k) mB (by simp[go_sem]) rfl aW.1 aW.2 ?_;intro g off a0 w6 b3 aN aP;have aZ:=bj b3;have aR:=bj aN;have b9:=bj aP;have H:=(aN.block cb fH (by rw[dF];exact λe=>bD e.symm)).trans ((av _ _ _ z5).trans (da W aA im));have y6:w6.cell? ⟨cb,2,none⟩=some (.slice ad c.st.length cap):=(by simp[World.cell?,H]);have g6:w6.frozen? ⟨cb,2,none⟩=false:=(by simp[World.frozen?,H]);have aD:=bj H;clear b3 aN aP H)|(go_simp;go_at_call 201;refine(aL _).mono ?_;rintro e w5 ⟨rfl,a3⟩;have W:Hid (wc.grownBy w5 none):=⟨a3.os,a3.tape,a3.output,a3.size,a3.block⟩;obtain⟨y5,g5,z5⟩:=bF w5 W;have b7:Hid (gd (w5.alloc (.cells #[.int .i64 k] 3)) 3 (.slice ad (oi c.st).length cap) (oi c.st)):=(by rw[a4.out];exact HQ.block (λx y=>(av _ _ _ (dm (HQ.lt x y) W.size)).trans (W.block x (HQ.lt x y) im)));rw[<-a4.out]at y5;clear a3;simp only[]))
    all_goals
     go_wp2_with fail
     go_end0;have bA:=W.size;have aX:=a4.out;obtain⟨bJ,b1,bI⟩:=id HR;have aQ:∀(x:Nat) (b2:Array Value) (T:TypeId),wc.heap[x]? = some (.cells b2 T (0,0))->T≠3->x≠cb->(w6.setCell ⟨cb,2,none⟩ (.slice (some ⟨g,off,none⟩) ((oi c.st).length+1) a0)).heap[x]? = wc.heap[x]?:=by
      intro x b2 T y hT b8;have bG:x<w5.heap.size:=dm (ch y) bA;rw[ab _ _ _ _ b8,aR.block x fH (λe=>?_),av _ _ _ bG]
      .exact W.block x (ch y) im
      obtain⟨cu,h⟩:=HQ.ty x (by rw[dF];rw[dF]at e;exact e.symm);rw[y]at h;injection h with h;injection h with _ h _;exact hT h
     have bH:g≠cb:=by
      obtain⟨cu,h⟩:=aZ.ty g rfl;exact eE h aD ek
     refine⟨rfl,some ⟨g,off,none⟩,a0,λx y=>?_,?_,?_⟩
     .have e:g=x:=by injection y
      subst e;rcases b9 with h|h
      .rw[dF]at h;exact af h
      right;simp at h;omega
     .rw[aO.out];refine⟨?_,⟨bJ,(aQ u _ _ b1 ek (λe=>b6 e.symm)).trans b1,bI⟩,?_⟩
      .simp[World.setCell,dh,aD.out,aX]
      show gd _ _ (.slice _ (c.st++[k+1]).length _) (oi (c.st++[k+1]));rw[HL.out,cw,eI,<-aX];refine aZ.block (λx y=>ab _ _ _ _ ?_);have e:g=x:=by injection y
      subst e;exact bH
     refine bp ?_ (af (af rfl)) _;refine((bB.iW W).iW (ak _ _ _)).trans (El (S:=oT cb u ad) aR (λx y _=>ah (ah (by rw[dF]at y;exact y)))) (λ_ h _=>h)
  have aO:Hid (B.seen c.m c.st (k+1,v2)=(c.m,c.st)):=by show _=_;unfold B.seen;rw[au (by simp[aY.out])]
  go_wp2_with fail
  go_end0;have Z:=ar o J;exact⟨rfl,ad,cap,xG.refl _ _,by rw[aO.out];exact KC.kept Z,ep Z⟩
theorem CE(cb W sb n k:Nat)(ad:Option Addr)(cap:Nat)(c:B.Cy)(x:Int)(w:aa)(J:mV w cb W sb n ad cap c)(hk:k<n)(hn:n<=200): eL 221 #[P0 cb,vA (k+1,x)] w λw'=>mV w' cb W sb n ad cap ⟨B.mark c.m (k+1),c.st,c.nx⟩/\w.grownBy w' (some W):=by
 have KC:=bj J;obtain⟨_,c1,_⟩:=J.c1;have lc:=ch J.b;have a1:(k:Int)<n:=ag
 delta eL;go_in;go_wp2_with fail
 generalize hW:w.alloc (.cells #[aj ((k:Int)+1),aj x] 149)=w1;have u:Hid (w.grownBy w1 none):=by rw[<-hW];exact ak _ _ _
 have G:w1.heap[w.heap.size]? = some (.cells #[aj ((k:Int)+1),aj x] 149 (0,0)):=by rw[<-hW];exact bl w _
 have v0:dS w1 w.heap.size 0=some (aj ((k:Int)+1)):=fy G;have v1:dS w1 w.heap.size 1=some (aj x):=fy G;have d1:=(bd u (a:=ay cb 1) lc).1.trans c1;go_region_with (go_at_call 201;refine du ((bj (nT k x ag)).out _) λw4 o=>?_;have H:Hid (w1.grownBy w4 none):=⟨o.os,o.tape,o.output,o.size,o.block⟩;have i:=(KC.kept u).kept H;obtain⟨q0,f0⟩:=i.r.cells k hk;have a6:=i.c1.2.1;clear o i)
 all_goals
  go_wp2
  go_end0;have i:=(KC.kept u).kept H
  refine⟨rfl,⟨(ab _ _ _ _ (by obtain⟨cu,h,_⟩:=i.r;exact eE i.b h ek)).trans i.b,(i.r.eC k (.bool true)).congr (λj _=>?_),i.q.block (λy hy=>ab _ _ _ _ ?_)⟩,?_⟩
  .show _=Value.bool (B.mark c.m (k+1) (j+1));by_cases e:j=k
   .subst e;rw[gO,B.kh]
   rw[eN _ _ _ _ e,B.fZ _ _ _ ag]
  .obtain⟨cu,h⟩:=i.q.ty y hy;obtain⟨a4,h',_⟩:=i.r;exact eE h h' ek
  exact bu (eT (ar u H)) (af rfl) _
