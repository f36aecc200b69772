import Derived.Test.YtnjiinbhbjpfkaaGreatDoorKC
import Derived.Test.YtnjiinbhbjpfkaaGreatDoorKD
set_option maxRecDepth 100000
set_option maxHeartbeats 0
set_option linter.all false
namespace Go.Proofs.YtnjiinbhbjpfkaaGreatDoor
open Go.RowKit Go.Proofs.Tryz
section
theorem Tryz.F6:(prog.info? 3).map (λi=>(i.zero,i.size,i.bytes))=some (some (.int .i64 0),1,8):=by kernel_rfl
theorem kY.c1{w:World}{cb e sb n:Nat}{ad:Option Addr}{cap:Nat}{c:B.Cy}(h:kY w cb e sb n ad cap c):w.cell? ⟨cb,0,none⟩=some (P0 sb)/\w.cell? ⟨cb,1,none⟩=some (.slice (some ⟨e,0,none⟩) n n)/\w.cell? ⟨cb,2,none⟩=some (.slice ad c.st.length cap)/\w.cell? ⟨cb,3,none⟩=some (.int .i64 c.nx)/\w.frozen? ⟨cb,2,none⟩=false/\w.frozen? ⟨cb,3,none⟩=false:=by
 simp[World.cell?,World.frozen?,h.b]
def vY(ad ad':Option Addr)(sz:Nat):Prop:=∀k,eO ad'=some k->eO ad=some k\/sz<=k
theorem vY.refl(ad:Option Addr)(sz:Nat):vY ad ad sz:=λ_ h=>ag h
theorem vY.trans{a b c:Option Addr}{sz e:Nat}(h:vY a b sz)(u:vY b c e)(y:sz<=e):vY a c sz:=λk o=>by
 rcases u k o with i|i
 .exact h k i
 exact ab (by omega)
theorem vY.Hz{cb o:Nat}{ad i:Option Addr}{sz k:Nat}(h:vY ad i sz)(u:nh cb o i k):nh cb o ad k\/sz<=k:=by
 rcases u with e|e|e
 .exact ag (ag e)
 .exact ag (ab (ag e))
 exact(h k e).imp (λh=>ab (ab h)) id
theorem CR{S:Nat->Prop}{w w':World}{r:Option Nat}(h:w.grownBy w' r)(o:∀k,r=some k->k<w.heap.size->S k):dy S w w':=
 ⟨h.os,h.tape,h.output,h.size,λk i hn=>h.block k i (λe=>hn (o k e.symm i))⟩
theorem qd(cb u sb n:Nat)(ad:Option Addr)(cap:Nat)(c:B.Cy)(v:B.V)(w:World)(hC:kY w cb u sb n ad cap c)(hv:v.1≠0->v.1<=n)(hn:n<=200)(bX:c.st.length<=200): Calls prog 188 #[P0 cb,vA v] w λe w'=>e=.returned (.tuple #[])/\∃b5 a0,vY ad b5 w.heap.size/\kY w' cb u sb n b5 a0 ⟨(B.seen c.m c.st v).1,(B.seen c.m c.st v).2,c.nx⟩/\dy (nh cb u ad) w w':=by
 have KC:=az hC;have aC:=az (mP v);obtain⟨v1,v2⟩:=v;by_cases h0:v1=0
 .subst h0;have aT:B.seen c.m c.st (0,v2)=(c.m,c.st):=by unfold B.seen;rw[aa (by simp)]
  rw[aT];have hi:=aC.out;simp only[ne_eq,not_true,decide_false]at hi;have HI:=az hi;clear aT hC hv hi aC;go_in;go_wp2_with fail
  have o:=az (ah w (.cells #[.int .i64 ((0:Nat):Int),.int .i64 v2] 149) none);first|go_region_with (go_at_call 198;refine(HI _).mono ?_;rintro e w2 ⟨rfl,i⟩;have a5:=az (an o ⟨i.os,i.tape,i.output,i.size,i.block⟩);clear i)|fail
  all_goals
   go_wp2_with fail
   go_end0;exact⟨rfl,ad,cap,vY.refl _ _,KC.kept a5,dU a5⟩
 obtain⟨k,hk⟩:∃k,v1=k+1:=⟨v1-1,by omega⟩;subst hk;have aM:k<n:=by have:=hv (by simp);simp only at this;omega
 have hi:=aC.out;have hd:decide (k+1≠0)=true:=by simp
 rw[show((k+1,v2):B.V).1=k+1 from rfl,hd]at hi;have HI:=az hi;have aL:=az (mg k v2 (by omega));obtain⟨_,c1,_⟩:=hC.c1;have lc:=bz hC.b;have lr:=hC.r.lt;have r0:=hC.r.cell k aM;clear hC hv hi hd aC h0;generalize b0:c.m (k+1)=b at *;have aY:=az b0;clear b0;have bV:(k:Int)<n:=by omega
 go_in;go_wp2_with fail
 generalize hW:w.alloc (.cells #[.int .i64 ((k:Int)+1),.int .i64 v2] 149)=w1;have o:Hid (w.grownBy w1 none):=by rw[<-hW];exact ah _ _ _
 have a9:w1.heap[w.heap.size]? = some (.cells #[.int .i64 ((k:Int)+1),.int .i64 v2] 149 (0,0)):=by rw[<-hW];exact bf w _
 have lx:=bz a9;have v0:w1.cell? ⟨w.heap.size,0,none⟩=some (.int .i64 ((k:Int)+1)):=by simp[World.cell?,a9]
 have v1:w1.cell? ⟨w.heap.size,1,none⟩=some (.int .i64 v2):=by simp[World.cell?,a9]
 clear hW a9;have d1:=(bh o (a:=⟨cb,1,none⟩) lc).1.trans c1;have q0:=(bh o (a:=⟨u,k,none⟩) lr).1.trans r0;have HS:Hid (∀w':World,w1.grownBy w' none->(w'.cell? ⟨w.heap.size,0,none⟩=some (.int .i64 ((k:Int)+1))/\w'.cell? ⟨w.heap.size,1,none⟩=some (.int .i64 v2)/\w'.cell? ⟨cb,1,none⟩=some (.slice (some ⟨u,0,none⟩) n n)/\w'.cell? ⟨u,k,none⟩=some (.bool b))/\(w.heap.size<w'.heap.size/\cb<w'.heap.size/\u<w'.heap.size)):=
  λw' Z=>⟨⟨(bh Z (a:=⟨w.heap.size,0,none⟩) lx).1.trans v0,(bh Z (a:=⟨w.heap.size,1,none⟩) lx).1.trans v1,(bh Z (a:=⟨cb,1,none⟩) (by show cb<_;omega)).1.trans d1,(bh Z (a:=⟨u,k,none⟩) (by show u<_;omega)).1.trans q0⟩,by have:=Z.size;omega,by have:=Z.size;omega,by have:=Z.size;omega⟩
 clear c1 r0 d1 q0 v0 v1;obtain⟨⟨v0,v1,d1,q0⟩,z1,z2,z3⟩:=HS w1 (ax _ _);go_cut [16] from 4 to 15 (λx wx=>x=.bool (!b)/\Hid (w1.grownBy wx none))
 case first=>
  first|go_region_with (first|(go_at_call 198;refine(HI _).mono ?_;rintro e w2 ⟨rfl,i⟩;have a5:Hid (w1.grownBy w2 none):=⟨i.os,i.tape,i.output,i.size,i.block⟩;obtain⟨⟨aB,a8,aH,aI⟩,aK,aJ,aG⟩:=HS w2 a5;clear i)|(go_at_call 201;refine(aL _).mono ?_;rintro e w3 ⟨rfl,a1⟩;have J:=az (an a5 ⟨a1.os,a1.tape,a1.output,a1.size,a1.block⟩);obtain⟨⟨bS,bM,bQ,bP⟩,bR,bO,bN⟩:=HS w3 J;clear a1))|fail
  all_goals
   go_wp2_with fail
   go_meet
   case rel=>exact⟨rfl,J⟩
 case rest=>
  obtain⟨rfl,J⟩:=hcut;clear v0 v1 d1 q0 z1 z2 z3
  cases b
  .have aO:Hid (B.seen c.m c.st (k+1,v2)=(B.mark c.m (k+1),c.st++[k+1])):=by show _=_;unfold B.seen;rw[aj ⟨by simp,aY⟩]
   obtain⟨⟨v0,v1,d1,q0⟩,z1,z2,z3⟩:=HS wc J;have f0:wc.frozen? ⟨u,k,none⟩=false:=by
    have h:=(KC.kept o).kept J;exact(h.r.cells k aM).2
   go_wp2_with fail
   generalize bK:wc=wd at *;clear bK;go_cut [] from 17 to 23 (λwx=>∃w4,Hid (w1.grownBy w4 none)/\wx=w4.setCell ⟨u,k,none⟩ (.bool true))
   case first=>
    go_region_with (go_at_call 201;refine(aL _).mono ?_;rintro e w4 ⟨rfl,a2⟩;have Y:=az (an J ⟨a2.os,a2.tape,a2.output,a2.size,a2.block⟩);obtain⟨⟨aB,a8,aH,aI⟩,aK,aJ,aG⟩:=HS w4 Y;have bW:=(((KC.kept o).kept Y).r.cells k aM).2;clear a2)
    all_goals
     go_wp2_with fail
     go_meet
     case rel=>exact⟨w4,Y,rfl⟩
   case rest=>
    obtain⟨w4,Y,a6⟩:=hcut;have G:=(KC.kept o).kept Y;obtain⟨⟨aB,a8,aH,aI⟩,aK,aJ,aG⟩:=HS w4 Y;have bE:wc.heap.size=w4.heap.size:=by rw[a6];simp[World.setCell]
    have a7:∀x,x≠u->wc.heap[x]? = w4.heap[x]?:=λx y=>by rw[a6,af _ _ _ _ y]
    have b6:cb≠u:=by obtain⟨cu,h,_⟩:=G.r;exact dW G.b h (by decide)
    have aV:w.heap.size≠u:=by omega
    have aA:=az ((a7 cb b6).trans G.b);have HR:Hid (Full wc u 4 n n (λj=>.bool (B.mark c.m (k+1) (j+1)))):=by
     have h1:=G.r.ep k (.bool true);rw[<-a6]at h1;refine h1.congr (λj _=>?_);by_cases e:j=k
     .subst e;rw[gf,B.je]
     rw[eG _ _ _ _ e,B.fg _ _ _ (by omega)]
    have HQ:Hid (fM wc 3 (.slice ad c.st.length cap) (mD c.st)):=G.q.block (λx y=>a7 x (by
     obtain⟨cu,h⟩:=G.q.ty x y;obtain⟨bY,h',_⟩:=G.r;exact dW h h' (by decide)))
    have bB:Hid (dy (nh cb u ad) w wc):=by
     show dy _ _ _;rw[a6];exact bm (dU (an o Y)) (ag (ab (ag rfl))) _
    have x0:=(aw (a:=⟨w.heap.size,0,none⟩) (a7 _ aV)).trans aB;have x1:=(aw (a:=⟨w.heap.size,1,none⟩) (a7 _ aV)).trans a8;have y2:wc.cell? ⟨cb,2,none⟩=some (.slice ad c.st.length cap):=by simp[World.cell?,aA.out]
    have g2:wc.frozen? ⟨cb,2,none⟩=false:=by simp[World.frozen?,aA.out]
    have bU:w.heap.size<wc.heap.size:=by omega
    have aF:cb<wc.heap.size:=by omega
    have bZ:w.heap.size<=wc.heap.size:=by omega
    have aE:(mD c.st).length=c.st.length:=uV _;have hL:mD (c.st++[k+1])=mD c.st++[.int .i64 k]:=by rw[zq];rfl
    have HL:=az hL;have bD:Hid (eO ad≠some cb):=λe=>by
     obtain⟨cu,h⟩:=HQ.ty cb (by rw[dr];exact e);exact dW aA h (by decide) rfl
    have a4:=az aE;clear G a7 a6 aB a8 aH aI v0 v1 d1 q0 f0 z1 z2 z3 aK aJ aG bE hL aE;obtain⟨i0,hi,bC,aS,bL⟩:=info_parts Tryz.F6;have bF:Hid (∀w':World,wc.grownBy w' none->w'.cell? ⟨cb,2,none⟩=some (.slice ad c.st.length cap)/\w'.frozen? ⟨cb,2,none⟩=false/\cb<w'.heap.size):=λw' Z=>⟨(bh Z (a:=⟨cb,2,none⟩) aF).1.trans y2,(bh Z (a:=⟨cb,2,none⟩) aF).2.trans g2,dm aF Z.size⟩;have b4:(mD c.st).length+1<=maxLen:=by rw[a4.out];unfold maxLen;omega
    have aU:((mD c.st).length+1)*8<=140737488355328:=by rw[a4.out];omega
    have aW:=az (ay b4 aU);clear b4 aU;rw[<-a4.out]at y2;go_wp2_with fail
    go_region_law (first|(refine oz _ rfl (.tmp 28) (.tmp 31) 54 rfl 3 i0 _ 8 underlying54 hi bC aS bL rfl (.slice ad (mD c.st).length cap) (mD c.st) (by first|rfl|simp[Act.eval,Act.put]) (b7) ⟨w5.heap.size,0,none⟩ 1 (.int .i64 k) (by first|rfl|simp[Act.eval,Act.put]) (by simp[go_sem]) rfl aW.1 aW.2 ?_;intro g off a0 w6 b3 aN aP;have aZ:=az b3;have aR:=az aN;have b9:=az aP;have H:=(aN.block cb (by simp;omega) (by rw[dr];exact λe=>bD e.symm)).trans ((ak _ _ _ z5).trans (cm W aA (by intro e;cases e)));have y6:w6.cell? ⟨cb,2,none⟩=some (.slice ad c.st.length cap):=(by simp[World.cell?,H]);have g6:w6.frozen? ⟨cb,2,none⟩=false:=(by simp[World.frozen?,H]);have aD:=az H;clear b3 aN aP H)|(go_simp;go_at_call 201;refine(aL _).mono ?_;rintro e w5 ⟨rfl,a3⟩;have W:Hid (wc.grownBy w5 none):=⟨a3.os,a3.tape,a3.output,a3.size,a3.block⟩;obtain⟨y5,g5,z5⟩:=bF w5 W;have b7:Hid (fM (w5.alloc (.cells #[.int .i64 k] 3)) 3 (.slice ad (mD c.st).length cap) (mD c.st)):=(by rw[a4.out];exact HQ.block (λx y=>(ak _ _ _ (dm (HQ.lt x y) W.size)).trans (W.block x (HQ.lt x y) (by intro e;cases e))));rw[<-a4.out]at y5;clear a3;simp only[]))
    all_goals
     go_wp2_with fail
     go_end0;have bA:=W.size;have aX:=a4.out;obtain⟨bJ,b1,bI⟩:=id HR;have aQ:∀(x:Nat) (b2:Array Value) (T:TypeId),wc.heap[x]? = some (.cells b2 T (0,0))->T≠3->x≠cb->(w6.setCell ⟨cb,2,none⟩ (.slice (some ⟨g,off,none⟩) ((mD c.st).length+1) a0)).heap[x]? = wc.heap[x]?:=by
      intro x b2 T y hT b8;have bG:x<w5.heap.size:=dm (bz y) bA;rw[af _ _ _ _ b8,aR.block x (by simp;omega) (λe=>?_),ak _ _ _ bG]
      .exact W.block x (bz y) (by intro e;cases e)
      obtain⟨cu,h⟩:=HQ.ty x (by rw[dr];rw[dr]at e;exact e.symm);rw[y]at h;injection h with h;injection h with _ h _;exact hT h
     have bH:g≠cb:=by
      obtain⟨cu,h⟩:=aZ.ty g rfl;exact dW h aD (by decide)
     refine⟨rfl,some ⟨g,off,none⟩,a0,λx y=>?_,?_,?_⟩
     .have e:g=x:=by injection y
      subst e;rcases b9 with h|h
      .rw[dr]at h;exact ag h
      right;simp at h;omega
     .rw[aO.out];refine⟨?_,⟨bJ,(aQ u _ _ b1 (by decide) (λe=>b6 e.symm)).trans b1,bI⟩,?_⟩
      .simp[World.setCell,cn,aD.out,aX]
      show fM _ _ (.slice _ (c.st++[k+1]).length _) (mD (c.st++[k+1]));rw[HL.out,bo,eF,<-aX];refine aZ.block (λx y=>af _ _ _ _ ?_);have e:g=x:=by injection y
      subst e;exact bH
     refine bm ?_ (ag (ag rfl)) _;refine((bB.gR W).gR (ah _ _ _)).trans (CR (S:=nh cb u ad) aR (λx y _=>ab (ab (by rw[dr]at y;exact y)))) (λ_ h _=>h)
  have aO:Hid (B.seen c.m c.st (k+1,v2)=(c.m,c.st)):=by show _=_;unfold B.seen;rw[aa (by simp[aY.out])]
  go_wp2_with fail
  go_end0;have Z:=an o J;exact⟨rfl,ad,cap,vY.refl _ _,by rw[aO.out];exact KC.kept Z,dU Z⟩
theorem Bd(cb W sb n k:Nat)(ad:Option Addr)(cap:Nat)(c:B.Cy)(x:Int)(w:World)(J:kY w cb W sb n ad cap c)(hk:k<n)(hn:n<=200): Calls prog 221 #[P0 cb,vA (k+1,x)] w λe w'=>e=.returned (.tuple #[])/\kY w' cb W sb n ad cap ⟨B.mark c.m (k+1),c.st,c.nx⟩/\w.grownBy w' (some W):=by
 have KC:=az J;obtain⟨_,c1,_⟩:=J.c1;have lc:=bz J.b;have a1:(k:Int)<n:=by omega
 go_in;go_wp2_with fail
 generalize hW:w.alloc (.cells #[.int .i64 ((k:Int)+1),.int .i64 x] 149)=w1;have u:Hid (w.grownBy w1 none):=by rw[<-hW];exact ah _ _ _
 have G:w1.heap[w.heap.size]? = some (.cells #[.int .i64 ((k:Int)+1),.int .i64 x] 149 (0,0)):=by rw[<-hW];exact bf w _
 have v0:w1.cell? ⟨w.heap.size,0,none⟩=some (.int .i64 ((k:Int)+1)):=by simp[World.cell?,G]
 have v1:w1.cell? ⟨w.heap.size,1,none⟩=some (.int .i64 x):=by simp[World.cell?,G]
 have d1:=(bh u (a:=⟨cb,1,none⟩) lc).1.trans c1
 go_region_with (go_at_call 201;refine((az (mg k x (by omega))).out _).mono ?_;rintro e w4 ⟨rfl,o⟩;have H:Hid (w1.grownBy w4 none):=⟨o.os,o.tape,o.output,o.size,o.block⟩;have i:=(KC.kept u).kept H;obtain⟨q0,f0⟩:=i.r.cells k hk;have a6:=i.c1.2.1;clear o i)
 all_goals
  go_wp2_with fail
  go_end0;have i:=(KC.kept u).kept H
  refine⟨rfl,⟨(af _ _ _ _ (by obtain⟨cu,h,_⟩:=i.r;exact dW i.b h (by decide))).trans i.b,(i.r.ep k (.bool true)).congr (λj _=>?_),i.q.block (λy hy=>af _ _ _ _ ?_)⟩,?_⟩
  .show _=Value.bool (B.mark c.m (k+1) (j+1));by_cases e:j=k
   .subst e;rw[gf,B.je]
   rw[eG _ _ _ _ e,B.fg _ _ _ (by omega)]
  .obtain⟨cu,h⟩:=i.q.ty y hy;obtain⟨a4,h',_⟩:=i.r;exact dW h h' (by decide)
  exact bp (eD (an u H)) (ag rfl) _
abbrev lZ(op a b c fb tb eb:Nat):Obj:=.cells #[.int .u8 op,.int .u8 a,.int .u8 b,.int .u8 c,P0 fb,P0 tb,P0 eb] 186 (0,0)
theorem fk{w':World}{sb op a b c fb tb eb:Nat}(h:w'.heap[sb]? = some (lZ op a b c fb tb eb)):w'.cell? ⟨sb,0,none⟩=some (.int .u8 op)/\w'.cell? ⟨sb,1,none⟩=some (.int .u8 a)/\w'.cell? ⟨sb,2,none⟩=some (.int .u8 b)/\w'.cell? ⟨sb,3,none⟩=some (.int .u8 c)/\w'.cell? ⟨sb,4,none⟩=some (P0 fb)/\w'.cell? ⟨sb,5,none⟩=some (P0 tb)/\w'.cell? ⟨sb,6,none⟩=some (P0 eb):=by
 simp[World.cell?,h]
theorem jf(w:World)(op a b c fb tb eb:Nat):(w.alloc (.cells #[.int .u8 op,.int .u8 a,.int .u8 b,.int .u8 c,P0 fb,P0 tb,P0 eb] 186)).heap[w.heap.size]? = some (lZ op a b c fb tb eb):=bf w _
theorem dp{w w':World}(h:w.grownBy w' none){k:Nat}{o:Obj}(i:w.heap[k]? = some o):w'.heap[k]? = some o:=cm h i (by intro e;cases e)
theorem uu(x:Bool)(w:World):Calls prog 92 #[.bool x] w λe w'=>e=.returned (.int .i64 (if x=true then 1 else 0))/\w'=w:=by
 cases x
 .go_in;go_wp2_with fail
  go_ret;exact⟨rfl,rfl⟩
 go_in;go_wp2_with fail
 go_ret;exact⟨rfl,rfl⟩
theorem Lt(x y:B.V)(w:World):(binOp .eql 149 (vA x) (vA y)).run prog w=.ok (.bool (decide (x=y))) w:=by
 obtain⟨e,o⟩:=x;obtain⟨i,u⟩:=y;have G:((e:Int)=(i:Int))↔e=i:=by omega
 simp[go_sem];by_cases k1:e=i<;>by_cases k2:o=u<;>simp[k1,k2,G]
theorem Cp(op a b c fb tb eb cb L nx rb nr:Nat)(back:Value)(R:Nat->B.V)(hb:b<nr)(hc:c<nr)(w:World)(hF:Fr w fb cb L nx rb nr back R): Calls prog 93 #[dZ op a b c fb tb eb] w λe w'=>e=.returned (vA (0,if R b=R c then 1 else 0))/\w.grownBy w' none:=by
 have KF:=az hF;clear hF;have a2:=Lt (R b) (R c);have Y:(if decide (R b=R c)=true then(1:Int) else 0)=(if R b=R c then 1 else 0):=by by_cases h:R b=R c<;>simp[h]
 rw[<-Y];clear Y;generalize decide (R b=R c)=d at *;generalize hy:(if d=true then(1:Int) else 0)=y;have HY:=az hy;clear hy;go_in;go_wp2_with fail
 generalize hW:(w.alloc (.cells #[.int .u8 (op:Int),.int .u8 (a:Int),.int .u8 (b:Int),.int .u8 (c:Int),P0 fb,P0 tb,P0 eb] 186)).alloc (.cells #[.int .i64 0,.int .i64 0] 149)=w1;have G:Hid (w.grownBy w1 none):=by rw[<-hW];exact au (ah _ _ _) _
 have hx:w1.heap[w.heap.size]? = some (lZ op a b c fb tb eb):=by rw[<-hW,ak _ _ _ (by simp)];exact bf w _
 have hr:w1.heap[w.heap.size+1]? = some (.cells #[.int .i64 0,.int .i64 0] 149 (0,0)):=by
  rw[<-hW];have:=bf (w.alloc (.cells #[.int .u8 (op:Int),.int .u8 (a:Int),.int .u8 (b:Int),.int .u8 (c:Int),P0 fb,P0 tb,P0 eb] 186)) (.cells #[.int .i64 0,.int .i64 0] 149);simpa using this
 clear hW;have Z:=az hx;have HR:=az hr;clear hx hr;obtain⟨x0,x1,x2,x3,x4,x5,x6⟩:=fk Z.out;go_region_with (first
   | (go_at_call 86;refine(pO op a b c fb tb eb cb L nx rb nr back R w1.drew (KF.out.kept G.out).1 (KF.out.kept G.out).2.1 hb).mono ?_;rintro e w2 ⟨rfl,o⟩;have u:Hid (w1.grownBy w2 none):=⟨o.os,o.tape,o.output,o.size,o.block⟩;clear o;obtain⟨x0,x1,x2,x3,x4,x5,x6⟩:=fk (dp u.out Z.out))
   | (go_at_call 94;refine(qJ op a b c fb tb eb cb L nx rb nr back R w2 (KF.out.kept (an G.out u.out)).1 (KF.out.kept (an G.out u.out)).2.1 hc).mono ?_;rintro e H ⟨rfl,J⟩;have W:=az (an u.out J);clear J;have i:=dp W.out HR.out;have r0:H.cell? ⟨w.heap.size+1,0,none⟩=some (.int .i64 0):=(by simp[World.cell?,i]);have r1:H.cell? ⟨w.heap.size+1,1,none⟩=some (.int .i64 0):=(by simp[World.cell?,i]);have r2:H.frozen? ⟨w.heap.size+1,0,none⟩=false:=(by simp[World.frozen?,i]);have r3:H.frozen? ⟨w.heap.size+1,1,none⟩=false:=(by simp[World.frozen?,i]);have a0:=bz i;clear i)
   | (go_at_call 92;refine(uu d H).mono ?_;rw[HY.out];rintro e w4 ⟨rfl,rfl⟩)
   | (go_at_call 61;refine(fH y _).mono ?_;rintro e w5 ⟨rfl,rfl⟩))
 all_goals
  go_wp2_with fail
  refine da (v:=vA (0,y)) (by simp[results,results93,go_sem,a0,r0,r1]) rfl ⟨rfl,?_⟩;exact au (bp (bp (an G.out W.out) (ab (by simp)) _) (ab (by simp)) _) _
end
namespace F
structure Fb where
 b:Nat->Nat
 k:Nat->Nat
def Hm(k:Bool)(t:Nat):Nat:=if k=true then(if t=0 then 1 else 2) else 0
def tZ(k:Bool)(t:Nat):Value:=.int .u8 (Hm k t)
def DD(k:Bool)(t:Nat):Nat:=if k=true then t-1 else 0
def iM(kd:Nat->Bool)(vb:Fb)(M:Nat->List B.V):Nat->Value:=λj=>
 if j % 3=0 then tZ (kd (j / 3+1)) (vb.k (j / 3+1)) else if j % 3=1 then .int .i64 (DD (kd (j / 3+1)) (vb.k (j / 3+1)):Nat) else oL (kd (j / 3+1)) (vb.b (j / 3+1)) (M (j / 3+1)).length
theorem zI(kd:Nat->Bool)(vb:Fb)(M:Nat->List B.V)(k:Nat):iM kd vb M (k*3)=tZ (kd (k+1)) (vb.k (k+1)):=by
 unfold iM;rw[aj (by omega),show k*3 / 3=k by omega]
theorem zH(kd:Nat->Bool)(vb:Fb)(M:Nat->List B.V)(k:Nat):iM kd vb M (k*3+1)=.int .i64 (DD (kd (k+1)) (vb.k (k+1)):Nat):=by
 unfold iM;rw[aa (by omega),aj (by omega),show(k*3+1) / 3=k by omega]
theorem sQ(kd:Nat->Bool)(vb:Fb)(M:Nat->List B.V)(k:Nat):iM kd vb M (k*3+2)=oL (kd (k+1)) (vb.b (k+1)) (M (k+1)).length:=by
 unfold iM;rw[aa (by omega),aa (by omega),show(k*3+2) / 3=k by omega]
structure ow(w:World) (pb n:Nat) (on:Nat->Bool) (f:Fb) (M:Nat->List B.V):Prop where
 p:Full w pb 228 (n*3) (n*3) (iM on f M)
 s:∀p,1<=p->p<=n->on p=true->Full w (f.b p) 149 ((M p).length*2) ((M p).length*2) (eC (jQ M p))
 i:∀p q,1<=p->p<=n->1<=q->q<=n->on p=true->on q=true->f.b p=f.b q->p=q
 l:∀p,on p=true->(M p).length<=8
 k:∀p,on p=true->f.k p≠0->(M p).length=1
theorem ow.block{w w':World}{pb n:Nat}{on:Nat->Bool}{f:Fb}{M:Nat->List B.V}(h:ow w pb n on f M)(o:w'.heap[pb]? = w.heap[pb]?)(e:∀p,1<=p->p<=n->on p=true->w'.heap[f.b p]? = w.heap[f.b p]?):ow w' pb n on f M:=
 ⟨h.p.block o,λp a b c=>(h.s p a b c).block (e p a b c),h.i,h.l,h.k⟩
theorem ow.kept{w w':World}{pb n:Nat}{on:Nat->Bool}{f:Fb}{M:Nat->List B.V}(h:ow w pb n on f M)(i:w.grownBy w' none):ow w' pb n on f M:=
 h.block (i.block pb h.p.lt (by intro e;cases e)) (λp a b c=>i.block _ (h.s p a b c).lt (by intro e;cases e))
structure Vs where
 f:Fb
 cb:Nat
 rd:Nat
 ad:Option Addr
 cap:Nat
def Ax:Vs:=⟨⟨λ_=>0,λ_=>0⟩,0,0,none,0⟩
def yg(kd:B.Kd)(vb:Vs):Value:=if kd.cy.isSome=true then P0 vb.cb else .pointer none
structure jm(w:World) (sb pb eb n:Nat) (kd:B.Kd) (vb:Vs) (M:Nat->List B.V):Prop where
 b:w.heap[sb]? = some (.cells #[.slice (some ⟨pb,0,none⟩) n n,.func (.func 59) #[P0 eb] #[],yg kd vb,.int .i64 (wrap64 (kd.un:Int)),.int .i64 (wrap64 (kd.fo:Int)),.int .i64 (wrap64 (kd.cc:Int))] 207 (0,0))
 p:ow w pb n kd.on vb.f M
 c:∀c,kd.cy=some c->kY w vb.cb vb.rd sb n vb.ad vb.cap c
def Own(n:Nat)(kd:B.Kd)(vb:Vs)(k:Nat):Prop:=(∃p,1<=p/\p<=n/\kd.on p=true/\vb.f.b p=k)\/(kd.cy.isSome=true/\nh vb.cb vb.rd vb.ad k)
theorem jm.block{w w':World}{sb pb eb n:Nat}{kd:B.Kd}{vb:Vs}{M:Nat->List B.V}(h:jm w sb pb eb n kd vb M)(u:w'.heap[sb]? = w.heap[sb]?)(y:w'.heap[pb]? = w.heap[pb]?)(i:∀k,Own n kd vb k->w'.heap[k]? = w.heap[k]?):jm w' sb pb eb n kd vb M:=
 ⟨u.trans h.b,h.p.block y (λp a b c=>i _ (ag ⟨p,a,b,c,rfl⟩)),λc e=>(h.c c e).block (λk o=>i k (ab ⟨by rw[e];rfl,o⟩))⟩
theorem jm.lt{w:World}{sb pb eb n:Nat}{kd:B.Kd}{vb:Vs}{M:Nat->List B.V}(h:jm w sb pb eb n kd vb M)(k:Nat)(e:Own n kd vb k):k<w.heap.size:=by
 rcases e with⟨p,a,b,c,rfl⟩|⟨i,e⟩
 .exact(h.p.s p a b c).lt
 obtain⟨c,i⟩:=Option.isSome_iff_exists.1 i;exact(h.c c i).lt k e
theorem jm.kept{w w':World}{sb pb eb n:Nat}{kd:B.Kd}{vb:Vs}{M:Nat->List B.V}(h:jm w sb pb eb n kd vb M)(i:w.grownBy w' none):jm w' sb pb eb n kd vb M:=
 h.block (i.block sb (bz h.b) (by intro e;cases e)) (i.block pb h.p.p.lt (by intro e;cases e)) (λk o=>i.block k (h.lt k o) (by intro e;cases e))
theorem jm.ty{w:World}{sb pb eb n:Nat}{kd:B.Kd}{vb:Vs}{M:Nat->List B.V}(h:jm w sb pb eb n kd vb M)(k:Nat)(i:Own n kd vb k):∃e T,w.heap[k]? = some (.cells e T (0,0))/\(T=149\/T=275\/T=4\/T=3):=by
 rcases i with⟨p,a,b,c,rfl⟩|⟨o,i⟩
 .obtain⟨e,u,_⟩:=h.p.s p a b c;exact⟨_,_,u,ag rfl⟩
 obtain⟨c,o⟩:=Option.isSome_iff_exists.1 o;obtain⟨e,T,u,y⟩:=(h.c c o).ty k i;exact⟨e,T,u,ab y⟩
theorem Hl(k:Bool)(t:Nat):((Hm k t:Int) == 0)=!k:=by
 unfold Hm
 cases k
 .rfl
 by_cases h:t=0
 .simp[h]
 simp[h]
theorem yN(k:Bool)(t:Nat)(c1:Int)(v:Value)(w:World):Calls prog 140 #[.agg #[tZ k t,.int .i64 c1,v]] w λe w'=>e=.returned (.bool (!k))/\w.grownBy w' none:=by
 have h:=Hl k t;show Calls prog 140 #[.agg #[.int .u8 (Hm k t:Nat),.int .i64 c1,v]] w _;generalize Hm k t=y at *;rw[<-h];clear h;go_in;go_wp2_with fail
 go_ret;exact⟨rfl,ah _ _ _⟩
end F
section
theorem gW{w:World}{b o:Nat}{v:Value}(h:w.cell? ⟨b,o,none⟩=some v):b<w.heap.size:=by
 rcases Nat.lt_or_ge b w.heap.size with e|e
 .exact e
 have:=Array.getElem?_eq_none e;simp[World.cell?,this]at h
def vV(w0 w:World)(cb rd sb n:Nat)(ad:Option Addr)(c:B.Cy)(l:List B.V):Prop:=
 dy (nh cb rd ad) w0 w/\∃ad' cap',vY ad ad' w0.heap.size/\kY w cb rd sb n ad' cap' ⟨(B.fY c.m c.st l).1,(B.fY c.m c.st l).2,c.nx⟩
theorem Ei{w:World}{cb e sb n:Nat}{ad:Option Addr}{cap:Nat}{c:B.Cy}(h:kY w cb e sb n ad cap c):vV w w cb e sb n ad c []:=⟨dk _ _,ad,cap,vY.refl _ _,h⟩
theorem vV.kept{w0 w w':World}{cb o sb n:Nat}{ad:Option Addr}{c:B.Cy}{l:List B.V}(h:vV w0 w cb o sb n ad c l)(u:w.grownBy w' none):vV w0 w' cb o sb n ad c l:=by
 obtain⟨H,i,e,G,y⟩:=h;exact⟨H.gR u,i,e,G,y.kept u⟩
theorem AS{n:Nat}{c:B.Cy}{l:List B.V}(hn:n<=200)(i:c.st.length+B.kX c.m n<=n)(e:∀v,v∈l->v.1≠0->v.1<=n):(B.fY c.m c.st l).2.length<=200:=by
 have:=B.me (n:=n) l c.m c.st e;omega
theorem wu{w0 w:World}{cb y sb n:Nat}{ad:Option Addr}{c:B.Cy}{l:List B.V}(v:B.V)(h:vV w0 w cb y sb n ad c l)(hn:n<=200)(hs:c.st.length+B.kX c.m n<=n)(W:∀v,v∈l->v.1≠0->v.1<=n)(hv:v.1≠0->v.1<=n): Calls prog 188 #[P0 cb,vA v] w λe w'=>e=.returned (.tuple #[])/\vV w0 w' cb y sb n ad c (l++[v]):=by
 obtain⟨H,u,i,J,h3⟩:=h;refine(qd cb y sb n u i _ v w h3 hv hn (AS hn hs W)).mono ?_;rintro e w' ⟨rfl,G,o,h4,h5,Z⟩;refine⟨rfl,H.trans Z (λk Y W=>(J.Hz Y).resolve_right (by omega)),G,o,J.trans h4 H.size,?_⟩;rw[B.oM];exact h5
def IC(Q:Nat->Prop)(w:World)(eb nr:Nat)(R:Nat->B.V):Prop:=
 ∀(w1:World) (cb rd sb n:Nat) (ad:Option Addr) (cap:Nat) (c:B.Cy),(∀k,Q k->w1.heap[k]? = w.heap[k]?)->kY w1 cb rd sb n ad cap c->(∀k,Q k->¬nh cb rd ad k)->n<=200->c.st.length+B.kX c.m n<=n->(∀i,i<nr->(R i).1≠0->(R i).1<=n) ->
  Calls prog 59 #[P0 eb,.func (.func 188) #[P0 cb] #[]] w1 λe w2=>e=.returned (.tuple #[])/\vV w1 w2 cb rd sb n ad c (B.iE R nr)
theorem IC.block{Q:Nat->Prop}{w w':World}{eb nr:Nat}{R:Nat->B.V}(h:IC Q w eb nr R)(i:∀k,Q k->w'.heap[k]? = w.heap[k]?):IC Q w' eb nr R:=
 λw1 y u sb n ad cap c o=>h w1 y u sb n ad cap c (λk e=>(o k e).trans (i k e))
theorem I1(v:B.V)(g c n:Nat)(ad:Option Addr)(xs:List B.V)(w:World)(hn:n=xs.length)(aA:n<=1000000000)(a2:∀j x,xs[j]? = some x->ad=some ⟨g,0,none⟩/\w.cell? ⟨g,j*2,none⟩=some (.int .i64 (x.1:Int))/\w.cell? ⟨g,j*2+1,none⟩=some (.int .i64 x.2))(lg:xs≠[]->g<w.heap.size): Calls prog 231 #[.slice ad n c,vA v] w λe w'=>(∃z:Int,e=.returned (.int .i64 z)/\((z<0/\v∉xs)\/(0<=z/\v∈xs)))/\w.grownBy w' none:=by
 obtain⟨y,u⟩:=v;have HC:=az a2;have HN:=az hn;have HG:=az lg;clear a2 hn lg;go_in;go_wp2_with fail
 generalize W:w.alloc (.cells #[.int .i64 (y:Int),.int .i64 u] 149)=w1;have KG:Hid (w.grownBy w1 none):=by rw[<-W];exact ah _ _ _
 have a3:w1.heap[w.heap.size]? = some (.cells #[.int .i64 (y:Int),.int .i64 u] 149 (0,0)):=by rw[<-W];exact bf w _
 have HB:=az a3;go_loopw [8] (λi wr=>∃j:Nat,i=.int .i64 j/\j<=n/\Hid (∀k x,k<j->xs[k]? = some x->x≠(y,u))/\Hid (w1.grownBy wr none)) (λi _=>n-(intOf i).toNat)
 case atStart=>exact⟨0,rfl,by omega,(λk x hk=>ch hk (by omega)),ax _ _⟩
 case round=>
  obtain⟨j,rfl,hj,rN,rG⟩:=hrel;by_cases aC:j<n
  .obtain⟨x,hx⟩:∃x,xs[j]? = some x:=⟨_,bn (by have:=HN.out;omega)⟩;obtain⟨H,J⟩:=x;obtain⟨rfl,ca,cb⟩:=HC.out j (H,J) hx;have Y:=ed hx;have a4:=HG.out (by intro e;rw[e]at Y;cases Y);have Z:=an KG.out rG.out;have c0:wr.cell? ⟨g,j*2,none⟩=some (.int .i64 (H:Int)):=(bh Z (a:=⟨g,j*2,none⟩) a4).1.trans ca;have c1:wr.cell? ⟨g,j*2+1,none⟩=some (.int .i64 J):=(bh Z (a:=⟨g,j*2+1,none⟩) a4).1.trans cb;have a0:=cm rG.out HB.out (by intro e;cases e);have b0:wr.cell? ⟨w.heap.size,0,none⟩=some (.int .i64 (y:Int)):=by simp[World.cell?,a0]
   have b1:wr.cell? ⟨w.heap.size,1,none⟩=some (.int .i64 u):=by simp[World.cell?,a0]
   have a9:(j:Int)<(n:Int):=by omega
   have a1:∀w0,(binOp .eql 149 (vA (y,u)) (vA (H,J))).run prog w0=.ok (.bool (decide ((y,u)=(H,J)))) w0:=λw0=>Lt (y,u) (H,J) w0;have HX:=az hx;by_cases o:((y,u):B.V)=(H,J)
   .have hd:decide (((y,u):B.V)=(H,J))=true:=by simpa using o
    rw[hd]at a1;have HV:=az o;go_wp2_with fail
    go_quiet (fail)
    go_wp2_with fail
    go_ret;refine⟨⟨(j:Int),rfl,ab ⟨by omega,?_⟩⟩,an KG.out (db rG.out _)⟩;rw[HV.out];exact Y
   have hd:decide (((y,u):B.V)=(H,J))=false:=by simpa using o
   rw[hd]at a1;have HV:=az o;go_wp2_with fail
   go_quiet (fail)
   go_wp2_with fail
   have a7:Hid (∀k x,k<j+1->xs[k]? = some x->x≠(y,u)):=λk x hk G e=>by
    by_cases a6:k=j
    .subst a6;rw[HX.out]at G;injection G with G;exact HV.out (by rw[G,e])
    exact rN.out k x (by omega) G e
   go_roundw
   case rel=>exact⟨j+1,by go_num,by omega,a7,db rG.out _⟩
   case measure=>simp[intOf];omega
  have a8:¬(j:Int)<(n:Int):=by omega
  go_wp2_with fail
  go_ret;refine⟨⟨-1,rfl,ag ⟨by omega,λhm=>?_⟩⟩,an KG.out rG.out⟩;obtain⟨k,hk⟩:=List.getElem?_of_mem hm;have aB:=(bu.1 hk).1;exact rN.out k _ (by have:=HN.out;omega) hk rfl
theorem uK(v:B.V)(g c n:Nat)(ad:Option Addr)(xs:List B.V)(w:World)(hn:n=xs.length)(Y:n<=1000000000)(y:∀j x,xs[j]? = some x->ad=some ⟨g,0,none⟩/\w.cell? ⟨g,j*2,none⟩=some (.int .i64 (x.1:Int))/\w.cell? ⟨g,j*2+1,none⟩=some (.int .i64 x.2))(lg:xs≠[]->g<w.heap.size): Calls prog 224 #[.slice ad n c,vA v] w λe w'=>e=.returned (.bool (decide (v∈xs)))/\w.grownBy w' none:=by
 have HI:Hid (∀w1,w.grownBy w1 none->Calls prog 231 #[.slice ad n c,vA v] w1 λe w'=>(∃z:Int,e=.returned (.int .i64 z)/\((z<0/\v∉xs)\/(0<=z/\v∈xs)))/\w1.grownBy w' none):=λw1 i=>by
  refine I1 v g c n ad xs w1 hn Y (λj x hx=>?_) (λh=>dm (lg h) i.size);obtain⟨a1,a2,a3⟩:=y j x hx;have u:=ed hx;have J:=lg (by intro e;rw[e]at u;cases u);exact⟨a1,(bh i (a:=⟨g,j*2,none⟩) J).1.trans a2,(bh i (a:=⟨g,j*2+1,none⟩) J).1.trans a3⟩
 clear y lg hn;obtain⟨v1,v2⟩:=v;go_in;go_wp2_with fail
 generalize o:w.alloc (.cells #[.int .i64 (v1:Int),.int .i64 v2] 149)=w1;have KG:Hid (w.grownBy w1 none):=by rw[<-o];exact ah _ _ _
 refine(HI.out w1 KG.out).mono ?_;rintro e w2 ⟨⟨z,rfl,hz⟩,i⟩;have G:=az (an KG.out i);rcases hz with⟨hz,H⟩|⟨hz,H⟩
 .have Z:=az H;have W:¬0<=z:=by omega
  go_wp2_with fail
  go_ret;exact⟨by simp[Z.out,W],G.out⟩
 have Z:=az H;go_wp2_with fail
 go_ret;exact⟨by simp[Z.out],G.out⟩
def fT(xs:List B.V):List Value:=xs.flatMap (λv=>[.int .i64 (v.1:Int),.int .i64 v.2])
theorem ui(x:B.V)(xs:List B.V):fT (x :: xs)=.int .i64 (x.1:Int) :: .int .i64 x.2 :: fT xs:=rfl
theorem jr:∀e,(fT e).length=e.length*2
 | []=>rfl
 | x :: e=>by rw[ui,List.length_cons,List.length_cons,jr e,List.length_cons];omega
theorem oY(xs ys:List B.V):fT (xs++ys)=fT xs++fT ys:=by simp[fT,List.flatMap_append]
theorem mJ:∀(xs:List B.V) (j:Nat) (x:B.V),xs[j]? = some x->(fT xs)[j*2]? = some (.int .i64 (x.1:Int))/\(fT xs)[j*2+1]? = some (.int .i64 x.2)
 | [],j,x,h=>by simp at h
 | y :: xs,0,x,h=>by
  simp at h;subst h
  exact⟨rfl,rfl⟩
 | y :: xs,j+1,x,h=>by
  have:=mJ xs j x (by simpa using h);rw[ui,show(j+1)*2=j*2+1+1 by omega];simpa using this
theorem zK{w:World}{o g n c:Nat}{xs:List B.V}(hb:o<=g)(hn:n<=c)(hm:c<=maxLen)(hl:xs.length=n)(Y:jB w g 149 (c*2))(hx:∀j x,xs[j]? = some x->w.cell? ⟨g,j*2,none⟩=some (.int .i64 (x.1:Int))/\w.cell? ⟨g,j*2+1,none⟩=some (.int .i64 x.2)):w.ownsRow o 149 2 (.slice (some ⟨g,0,none⟩) n c) n (fT xs):=by
 obtain⟨y,G,h2⟩:=Y;refine⟨by rw[jr,hl],ab ⟨g,c,y,rfl,hb,G,hn,hm,h2,?_⟩⟩;apply List.ext_getElem?
 intro i;by_cases hi:i<n*2
 .obtain⟨x,u⟩:∃x,xs[i / 2]? = some x:=⟨_,bn (by omega)⟩;obtain⟨H,J⟩:=hx (i / 2) x u;obtain⟨Z,W⟩:=mJ xs (i / 2) x u;rw[dh,aj hi];simp only[World.cell?,G]at H J;rcases(show i=i / 2*2\/i=i / 2*2+1 by omega) with e|e
  .rw[e,Z];simpa using H
  rw[e,W];simpa using J
 rw[cw (by simp;omega),cw (by rw[jr];omega)]
theorem ru{w:World}{e g n c:Nat}{xs:List B.V}(h:w.ownsRow e 149 2 (.slice (some ⟨g,0,none⟩) n c) n (fT xs)):e<=g/\n<=c/\c<=maxLen/\xs.length=n/\jB w g 149 (c*2)/\∀j x,xs[j]? = some x->w.cell? ⟨g,j*2,none⟩=some (.int .i64 (x.1:Int))/\w.cell? ⟨g,j*2+1,none⟩=some (.int .i64 x.2):=by
 rcases h with⟨hl,⟨h,_⟩|⟨g',c',i,J,h2,H,Z,Y,W,y⟩⟩
 .cases h
 cases J;rw[jr]at hl;refine⟨h2,Z,Y,by omega,⟨i,H,W⟩,λj x G=>?_⟩;have hj:=(bu.1 G).1;obtain⟨u,o⟩:=mJ xs j x G;rw[<-y,dh,aj (by omega)]at u;rw[<-y,dh,aj (by omega)]at o;simp only[World.cell?,H];exact⟨by simpa using u,by simpa using o⟩
theorem Tryz.Dn:(prog.info? 4).map (λi=>(i.zero,i.size,i.bytes))=some (some (.bool false),1,1):=by kernel_rfl
theorem tJ(Q:Nat->Prop)(eb sb pb n nr:Nat)(R:Nat->B.V)(w:World)(q0:w.cell? ⟨sb,0,none⟩=some (.slice (some ⟨pb,0,none⟩) n n))(q1:w.cell? ⟨sb,1,none⟩=some (.func (.func 59) #[P0 eb] #[]))(hV:IC Q w eb nr R)(hQ:∀k,Q k->k<w.heap.size)(hn:n<=200)(hR:∀i,i<nr->(R i).1≠0->(R i).1<=n): Calls prog 135 #[P0 sb] w λe w'=>∃cb rd ad cap,e=.returned (P0 cb)/\Below w.heap.size w w'/\(∀k,nh cb rd ad k->w.heap.size<=k)/\kY w' cb rd sb n ad cap (B.begun R nr):=by
 have ls:=gW q0;have aA:=az hV;have HQ:=az hQ;have HR:=az hR;obtain⟨i0,hi,aB,a8,a6⟩:=info_parts Tryz.Dn;go_in;go_wp2_with (at_make;go_loud (refine wpList_make_full _ rfl _ _ 231 rfl w.heap.size 4 i0 _ 1 Tryz.underlying231 hi aB a8 _ _ _ _ n rfl rfl rfl rfl (by rw[a6];omega) (by unfold maxLen;omega) (by simp) ?_))
 intro J H y;have a2:Full J w.heap.size 4 n n (λj=>.bool ((λ_=>false:Nat->Bool) (j+1))):=by
  rcases H.2 with⟨h,_⟩|⟨g',aC,a5,G,h2,h3,h4,h5,h6,h7⟩
  .cases h
  injection G with G _ hc;injection G with G;injection G with G _ _;have a9:g'=w.heap.size:=by simpa using G.symm
  subst a9 hc;refine⟨a5,h3,by omega,λj hj=>?_⟩;have e1:=congrArg (λl=>l[j]?) h7;rw[toList_madeCells_one]at e1;simp only[dh,List.getElem?_replicate]at e1;rw[aj (by omega),aj (by omega)]at e1;simpa using e1
 have a0:=az y;have Z:=az a2;have aF:=dm ls y.size;have s1:=(bh y (a:=⟨sb,1,none⟩) ls).1.trans q1;go_wp2_with fail
 have aD:=Z.out.lt;have a3:kY (J.alloc (.cells #[P0 sb,.slice (some ⟨w.heap.size,0,none⟩) n n,.slice none 0 0,.int .i64 0] 275)) J.heap.size w.heap.size sb n none 0 ⟨λ_=>false,[],0⟩:=
  ⟨bf _ _,Z.out.block (ak _ _ _ Z.out.lt),fM.nil _ _⟩
 have a7:=az a3;have o:Hid (Below w.heap.size w (J.alloc (.cells #[P0 sb,.slice (some ⟨w.heap.size,0,none⟩) n n,.slice none 0 0,.int .i64 0] 275))):=(tI a0.out).alloc a0.out.size _;refine(aA.out _ J.heap.size w.heap.size sb n none 0 ⟨λ_=>false,[],0⟩ (λk W=>o.out.block k (HQ.out k W)) a7.out (λk W h=>?_) hn (by show 0+_<=n;rw[B.vN];omega) HR.out).mono ?_
 .have:=HQ.out k W;rcases h with h|h|h
  .omega
  .omega
  cases h
 rintro e w5 ⟨rfl,u,ad,cap,a4,a1⟩;have Y:Hid (Below w.heap.size w w5/\(∀k,nh J.heap.size w.heap.size ad k->w.heap.size<=k)/\kY w5 J.heap.size w.heap.size sb n ad cap (B.begun R nr)):=by
  refine⟨⟨u.1.trans o.out.os,u.2.1.trans o.out.tape,u.2.2.1.trans o.out.output,dH o.out.size u.size,λk W=>(u.same (by simp;omega) (λh=>?_)).trans (o.out.block k W)⟩,λk W=>?_,a1⟩
  .rcases h with h|h|h
   .omega
   .omega
   cases h
  rcases W with h|h|h
  .omega
  .omega
  rcases a4 k h with G|G
  .cases G
  simp at G;omega
 go_wp2_with fail
 go_ret;exact⟨_,_,ad,cap,rfl,Y.out.1,Y.out.2.1,Y.out.2.2⟩
theorem tF(cb o sb n:Nat)(ad:Option Addr)(cap:Nat)(c:B.Cy)(w:World)(i:kY w cb o sb n ad cap c): Calls prog 137 #[P0 cb] w λe w'=>e=.returned (.bool (decide (c.nx=n)))/\w.grownBy w' none:=by
 obtain⟨_,c1,_,u,_,_⟩:=i.c1;have G:(((c.nx:Nat):Int) == (n:Int))=decide (c.nx=n):=by
  by_cases h:c.nx=n
  .simp[h]
  have:¬((c.nx:Int)=(n:Int)):=by omega
  simp[h,this]
 generalize decide (c.nx=n)=d at *;generalize c.nx=x at *;go_in;go_wp2_with fail
 go_quiet (fail)
 go_wp2_with fail
 go_ret;exact⟨rfl,db (ax _ _) _⟩
theorem kY.step{w:World}{cb e sb n:Nat}{ad:Option Addr}{cap:Nat}{c:B.Cy}(h:kY w cb e sb n ad cap c)(o:e≠cb)(u:∀k,(Value.slice ad c.st.length cap).ownBlock=some k->k≠cb):kY (w.setCell ⟨cb,3,none⟩ (.int .i64 ((c.nx:Int)+1))) cb e sb n ad cap (B.look c):=by
 refine⟨?_,h.r.off o,h.q.block (λk i=>af _ _ _ _ (u k i))⟩;simp[World.setCell,cn,h.b,B.look]
theorem iS(on:Nat->Bool)(c:B.Cy)(p:Nat)(h:B.kh on c p=true):on p=true:=B.iS h
theorem pT(a:Nat):wrap64 (wrap64 (a:Int)+1)=wrap64 ((a+1:Nat):Int):=by unfold wrap64;omega
def F1(w:World)(cb:Nat):Nat:=match w.cell? ⟨cb,2,none⟩ with|some (.slice _ n _)=>n|_=>0
def Jf(w:World)(cb:Nat):Nat:=match w.cell? ⟨cb,3,none⟩ with|some (.int _ n)=>n.toNat|_=>0
def vL(w:World)(rd:Nat):Nat->Nat
 | 0=>0
 | k+1=>vL w rd k+(match w.cell? ⟨rd,k,none⟩ with|some (.bool true)=>0|_=>1)
def todo(w:World)(cb rd n:Nat):Nat:=F1 w cb+vL w rd n+(n-Jf w cb)
theorem uG{w:World}{e n:Nat}{m:Nat->Bool}(h:Full w e 4 n n (λj=>.bool (m (j+1)))):∀k,k<=n->vL w e k=B.kX m k
 | 0,_=>rfl
 | k+1,hk=>by
  rw[vL,B.kX,uG h k (by omega),h.cell k (by omega)]
  cases m (k+1)<;>rfl
theorem zn{w:World}{cb e sb n:Nat}{ad:Option Addr}{cap:Nat}{c:B.Cy}(h:kY w cb e sb n ad cap c):todo w cb e n=c.st.length+B.kX c.m n+(n-c.nx):=by
 obtain⟨_,_,o,i,_⟩:=h.c1;unfold todo F1 Jf;rw[uG h.r n (bj _),o,i];simp
theorem AA{on:Nat->Bool}{n:Nat}{M:Nat->List B.V}{c:B.Cy}{T:Nat->Prop}(h:B.lR on n M c T)(hx:c.nx<n): (B.unit M on c).2.st.length+B.kX (B.unit M on c).2.m n+(n-(B.unit M on c).2.nx)+1=c.st.length+B.kX c.m n+(n-c.nx)/\(B.unit M on c).2.st.length+B.kX (B.unit M on c).2.m n<=c.st.length+B.kX c.m n:=by
 rcases List.eq_nil_or_concat c.st with e|⟨i,p,e⟩
 .rw[B.nV e];show c.st.length+B.kX c.m n+(n-(c.nx+1))+1=_/\c.st.length+B.kX c.m n<=_;omega
 rw[List.concat_eq_append]at e;have:=B.me (n:=n) (M p) c.m i (λv u y=>(h.ha _ ((h.hb p (h.hc p (h.hd p (by rw[e];simp))) v u).2 y)).2.1);rw[B.nU e];show(B.fY c.m i (M p)).2.length+B.kX (B.fY c.m i (M p)).1 n+(n-c.nx)+1=_/\(B.fY c.m i (M p)).2.length+B.kX (B.fY c.m i (M p)).1 n<=_;rw[e,bo,eF];omega
theorem Bz{kd:B.Kd}{nr n:Nat}{s:B.St}(h:B.iZ kd nr n s):(B.begun s.2.1 nr).st.length+B.kX (B.begun s.2.1 nr).m n<=n:=by
 have:=B.me (n:=n) (B.iE s.2.1 nr) (λ_=>false) [] (λv e o=>by
  obtain⟨i,hi,rfl⟩:=B.kI.1 e;exact(B.kJ h (B.jj i hi o)).2.2)
 rw[B.vN]at this;show(B.fY (λ_=>false) [] (B.iE s.2.1 nr)).2.length+B.kX (B.fY (λ_=>false) [] (B.iE s.2.1 nr)).1 n<=n;simp at this;omega
def B.iz(c t:Int):Int:=if t<=0 then c else if t<=9223372036854775807-c then c+t else 9223372036854775807
theorem B.vU{c t:Int}(e:0<=c)(i:c<=9223372036854775807):0<=B.iz c t/\B.iz c t<=9223372036854775807:=by
 unfold B.iz;split
 .omega
 split<;>omega
theorem BB(eb:Nat)(c t:Int)(w:World)(h:w.cell? ⟨eb,28,none⟩=some (.int .i64 c))(Z:0<=c)(Y:c<=9223372036854775807): Calls prog 64 #[P0 eb,.int .i64 t] w λe w'=>e=.returned (.int .i64 (B.iz c t))/\w'=w:=by
 generalize J:B.iz c t=y;have o:=az J;have W:IntKind.i64.wrap (9223372036854775807-c)=9223372036854775807-c:=by simp[IntKind.wrap,IntKind.bits,IntKind.signed];omega
 by_cases ht:t<0
 .have i:y=c:=by rw[<-o.out];unfold B.iz;rw[aj (by omega)]
  subst i
  have u:¬(9223372036854775807-y<0):=by omega
  go_in;go_wp2_with fail
  go_ret;exact⟨rfl,rfl⟩
 by_cases H:t<=9223372036854775807-c
 .have i:c+t=y:=by
   rw[<-o.out];unfold B.iz
   by_cases h:t<=0
   .rw[aj h];omega
   rw[aa h,aj H]
  have u:¬(9223372036854775807-c<t):=by omega
  have G:IntKind.i64.wrap (c+t)=c+t:=by simp[IntKind.wrap,IntKind.bits,IntKind.signed];omega
  go_in;go_wp2_with fail
  go_ret;exact⟨by rw[<-i];rfl,rfl⟩
 have i:c+(9223372036854775807-c)=y:=by
  rw[<-o.out];unfold B.iz
  rw[aa (by omega),aa H];omega
 have u:9223372036854775807-c<t:=by omega
 go_in;go_wp2_with fail
 go_ret;exact⟨by rw[<-i];rfl,rfl⟩
theorem EO(op a b c fb tb eb:Nat)(x:Int)(w:World)(h:w.cell? ⟨eb,28,none⟩=some (.int .i64 x))(le:eb<w.heap.size): Calls prog 117 #[dZ op a b c fb tb eb] w λe w'=>e=.returned (vA (0,x))/\w.grownBy w' none:=by
 have i:eb<w.heap.size+1:=by omega
 go_in;go_wp2_with fail
 refine(fH x _).mono ?_;rintro e w2 ⟨rfl,rfl⟩;go_wp2_with fail
 refine da (v:=vA (0,x)) (by simp[results,results117,go_sem]) rfl ⟨rfl,?_⟩;repeat (first|exact ax _ _|refine au ?_ _|refine bp ?_ (ab (by simp)) _)
theorem GX(eb g c n:Nat)(ad:Option Addr)(H:Nat->Int)(xs:List Nat)(w:World)(he:w.cell? ⟨eb,32,none⟩=some (.slice ad n c))(le:eb<w.heap.size)(hn:n=xs.length)(a9:n<=1000000000)(Z:∀j x,xs[j]? = some x->ad=some ⟨g,0,none⟩/\w.cell? ⟨g,j,none⟩=some (P0 x))(lg:xs≠[]->g<w.heap.size)(J:∀x,x∈xs->w.cell? ⟨x,0,none⟩=some (.int .i64 (H x))/\x<w.heap.size): Calls prog 43 #[P0 eb] w λe w'=>e=.returned (.slice (some ⟨w.heap.size,0,none⟩) n n)/\w'.ownsRow w.heap.size 3 1 (.slice (some ⟨w.heap.size,0,none⟩) n n) n (xs.map (λx=>.int .i64 (H x)))/\w.grownBy w' none:=by
 obtain⟨i0,hi,a2,a0,W⟩:=info_parts Tryz.F6;have HC:=az Z;have HN:=az hn;have HG:=az lg;have HM:=az J;clear Z hn lg J;go_in;go_wp2_with (at_make;go_loud (refine wpList_make_full _ rfl _ _ 54 rfl w.heap.size 3 i0 _ 1 underlying54 hi a2 a0 _ _ _ _ n rfl rfl rfl rfl (by rw[W];omega) (by unfold maxLen;omega) (bj _) ?_))
 intro w3 G o;have Y:jB w3 w.heap.size 3 n:=by
  have:=jB.owned G;rwa [Nat.mul_one]at this
 have aA:=(bh o (a:=⟨eb,32,none⟩) le).1.trans he;have a4:=az Y;have a5:=az o;clear G o Y he hi a2 a0 W i0;go_wp2_with fail
 go_loopw [19] (λi wr=>∃j:Nat,i=.int .i64 j/\j<=n/\Hid (jB wr w.heap.size 3 n)/\Hid (w.grownBy wr none)/\Hid (∀p x,p<j->xs[p]? = some x->wr.cell? ⟨w.heap.size,p,none⟩=some (.int .i64 (H x)))) (λi _=>n-(intOf i).toNat)
 case atStart=>exact⟨0,rfl,by omega,a4,a5,(λp x hp=>ch hp (by omega))⟩
 case round=>
  obtain⟨j,rfl,hj,rB,rG,rC⟩:=hrel;by_cases a6:j<n
  .obtain⟨x,hx⟩:∃x,xs[j]? = some x:=⟨_,bn (by have:=HN.out;omega)⟩;obtain⟨rfl,a1⟩:=HC.out j x hx;have u:=ed hx;have cj:wr.cell? ⟨g,j,none⟩=some (P0 x):=(bh rG.out (a:=⟨g,j,none⟩) (HG.out (by intro e;rw[e]at u;cases u))).1.trans a1;obtain⟨m1,m2⟩:=HM.out x u;have cx:=(bh rG.out (a:=⟨x,0,none⟩) m2).1.trans m1;obtain⟨⟨y,cy⟩,zy⟩:=rB.out.cell j a6;have a8:(j:Int)<(n:Int):=by omega
   have KC:Hid (∀p z,p<j+1->xs[p]? = some z->(wr.setCell ⟨w.heap.size,j,none⟩ (.int .i64 (H x))).cell? ⟨w.heap.size,p,none⟩=some (.int .i64 (H z))):=λp z hp hz=>by
    by_cases a3:p=j
    .subst a3;rw[(az hx).out]at hz;injection hz with hz;subst hz;exact World.cell?_setCell_same _ _ _ cy
    rw[dF _ _ _ _ (by intro e;injection e with _ e;omega)];exact rC.out p z (by omega) hz
   clear a1 u m1 m2 hx;go_wp2_with fail
   go_roundw
   case rel=>exact⟨j+1,by go_num,by omega,rB.out.set _ _ _,bp rG.out (ab (by simp)) _,KC⟩
   case measure=>simp[intOf];omega
  have a7:¬(j:Int)<(n:Int):=by omega
  obtain rfl:j=n:=by omega
  go_wp2_with fail
  go_ret;refine⟨rfl,qf (bj _) (bj _) (by unfold maxLen;omega) (by rw[dS,<-HN.out]) rB.out (λp y hy=>?_),rG.out⟩;rw[eo]at hy;obtain⟨z,hz,rfl⟩:=Option.map_eq_some_iff.1 hy;exact rC.out p z (by have:=(bu.1 hz).1;have:=HN.out;omega) hz
