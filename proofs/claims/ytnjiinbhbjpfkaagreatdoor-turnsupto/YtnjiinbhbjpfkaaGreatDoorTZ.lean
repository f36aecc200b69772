import Derived.Test.YtnjiinbhbjpfkaaGreatDoorTT
set_option maxRecDepth 100000
set_option maxHeartbeats 0
set_option linter.all false
namespace Go.Proofs.YtnjiinbhbjpfkaaGreatDoor
open Go.RowKit Go.Proofs.Tryz
namespace F
variable {eb nr pb sb t:Nat}{l:List B.V}{s:B.St}{v:Value}{vb:Vs}{w w':aa}
def Laid(w w':aa)(sb pb eb n nr t:Nat)(l:List B.V)(kd:B.Kd)(vb:Vs)(s:B.St)(v:Value):Prop:=
 (∃(k vg:Nat) (kd1:B.Kd),k<n/\kd1.on (k+1)=false/\B.jO kd1 nr n s/\IP nr n s kd kd1/\v=.tuple #[.agg #[.int .i64 ((k:Int)+1),.int .i64 0],.bool true]/\kD w' sb pb eb n (B.laid kd1 (k+1)) (vb.put (k+1) vg t) (B.lay s.2.2 (k+1) l)/\pW n kd vb (B.laid kd1 (k+1)) (vb.put (k+1) vg t) w.heap.size) \/
 (v=.tuple #[.agg #[.int .i64 0,.int .i64 0],.bool false]/\(∀p,1<=p->p<=n->B.Reach nr s p)/\∃kd1,kD w' sb pb eb n kd1 vb s.2.2/\B.jO kd1 nr n s/\pW n kd vb kd1 vb w.heap.size)
def Laid.pre{w0:aa}{n:Nat}{kd:B.Kd}(hz:w0.heap.size<=w.heap.size)(h:Laid w w' sb pb eb n nr t l kd vb s v):Laid w0 w' sb pb eb n nr t l kd vb s v:=by
 rcases h with⟨k,Y,e,o,J,H,i,G,u,W⟩|⟨o,J,e,H,G,u⟩
 .exact af ⟨k,Y,e,o,J,H,i,G,u,λx y=>(W x y).imp id (λh=>dU hz h)⟩
 exact ah ⟨o,J,e,H,G,λx y=>(u x y).imp id (λh=>dU hz h)⟩
theorem Laid.form{n:Nat}{kd:B.Kd}(h:Laid w w' sb pb eb n nr t l kd vb s v):∃(x:Int) (o:Bool),v=.tuple #[.agg #[aj x,aj 0],.bool o]:=by
 rcases h with⟨k,H,e,u,G,y,_,i,_⟩|⟨h,_⟩
 .grind
 grind
theorem xg(Q:Nat->Prop)(eb sb pb n nr b:Nat)(kd:B.Kd)(vb:Vs)(s:B.St)(w:aa)(hR:C8 w Q eb sb pb n nr kd vb s)(aH:b<=8): Calls prog 157 #[P0 sb,aj b] w λe w'=>∃v,e=.returned v/\dM (rA sb pb n kd vb) w w'/\Laid w w' sb pb eb n nr 0 (List.replicate b (0,0)) kd vb s v:=by
 have KR:=bj hR;have lp:=hR.hs.p.p.lt;have ls:=ch hR.hs.b;have Z:=bj hR.hs.lt;clear hR;obtain⟨i0,hi,aF,aB,a9⟩:=info_parts Tryz.tL;go_in;go_wp2_with (at_make;go_loud (refine wpList_make_full _ rfl _ _ 137 rfl 0 149 i0 _ 2 underlying137 hi aF aB _ _ _ _ b rfl rfl rfl rfl eR pY (dk _) ?_))
 intro w3 Y H;have aD:=H.size;have a4:Full w3 (w.heap.size+1) 149 (b*2) (b*2) (eQ (λ_=>(0,0))):=by
  rcases Y.2 with⟨h,_⟩|⟨g',aL,aG,J,h2,h3,h4,h5,h6,h7⟩
  .cases h
  injection J with J _ hc;injection J with J;injection J with J _ _;have aJ:g'=w.heap.size+1:=gG J.symm
  subst aJ hc;refine⟨aG,h3,h6,λj hj=>?_⟩;have e1:=congrArg (λl=>l[j]?) h7;have e2:(madeCells #[aj 0,aj 0] (b*2)).toList[j]? = some (aj 0):=by
   simp only[madeCells,Array.getElem?_toList,Array.getElem?_map,Array.getElem?_range];rw[bf hj];have:j % 2=0\/j % 2=1:=by omega
   rcases this with h|h<;>simp[h]
  simp only[e2,dO]at e1;rw[bf hj]at e1;have e3:eQ (λ_=>((0,0):B.V)) j=aj 0:=by unfold eQ;split<;>rfl
  rw[e3];simpa using e1
 have x3:=da H (show(w.alloc (.cells #[aj 0,aj 0] 149)).heap[w.heap.size]? = _ from bl w _) eR;have a5:=bj (ar (ak _ _ _) H);have a3:=bj a4;have aK:=bj x3;have aA:=bj (KR.kept a5);clear Y H a4 x3;go_wp2_with fail
 have a1:Hid (Full w3 (w.heap.size+1) 149 ((List.replicate b ((0,0):B.V)).length*2) ((List.replicate b ((0,0):B.V)).length*2) (eQ (λi=>(List.replicate b ((0,0):B.V)).getD i (0,0)))):=by
  show Full _ _ _ _ _ _;rw[kV];refine a3.congr (λj _=>?_);unfold eQ;have:(List.replicate b ((0,0):B.V)).getD (j / 2) (0,0)=(0,0):=by
   rw[cr,List.getElem?_replicate];split<;>rfl
  simp only[this]
 have aC:(.agg #[dy 1,aj 0,dA (w.heap.size+1) b b]:Value)=.agg #[vz true 0,zi 0,dA (w.heap.size+1) (List.replicate b ((0,0):B.V)).length (List.replicate b ((0,0):B.V)).length]:=jx kV;rw[aC];refine(Bh Q eb sb pb n nr (w.heap.size+1) 0 (List.replicate b (0,0)) kd vb s w3 aA a1 eR (λh=>dp rfl h) (λh=>by have:=Z _ h;omega)).mono ?_;intro e w4 h4;have a0:=h4.1;obtain⟨x,o,he,a7⟩:∃(x:Int) (o:Bool),e=.returned (.tuple #[.agg #[aj x,aj 0],.bool o])/\∀y:Value,Laid w (w4.setCell (ay w.heap.size 0) y |>.setCell (ay w.heap.size 1) (aj 0)) sb pb eb n nr 0 (List.replicate b (0,0)) kd vb s (.tuple #[.agg #[aj x,aj 0],.bool o]):=by
  have a6:∀(u:B.Kd) (W:Vs) (M:Nat->List B.V) (y:Value),kD w4 sb pb eb n u W M->(∀x,Own n u W x->Own n kd vb x\/x=w.heap.size+1)->kD (w4.setCell (ay w.heap.size 0) y |>.setCell (ay w.heap.size 1) (aj 0)) sb pb eb n u W M:=λu W M y hS hG=>
   hS.block ((ab _ _ _ _ eR).trans (ab _ _ _ _ eR)) ((ab _ _ _ _ eR).trans (ab _ _ _ _ eR)) (λk hk=>by
    have a2:k≠w.heap.size:=by
     rcases hG k hk with h|h
     .have:=Z k h;omega
     omega
    grind[Below.heap_setCell])
  rcases h4.2 with⟨k,u,J,h2,h3,aI,rfl,h5,h6⟩|⟨rfl,h5,u,h6,h7,h8⟩
  .exact⟨_,_,rfl,λy=>af ⟨k,w.heap.size+1,u,J,h2,h3,aI,rfl,a6 _ _ _ y h5 h6,λx G=>(h6 x G).imp id (λh=>by omega)⟩⟩
  exact⟨_,_,rfl,λy=>ah ⟨rfl,h5,u,a6 _ _ _ y h6 (λx G=>af (h8 x G)),h7,λx G=>af (h8 x G)⟩⟩
 subst he;have G:=a0.block aK (by
  rintro(h|h|h)
  .omega
  .omega
  have:=Z _ h;omega)
 have r0:w4.cell? (ay w.heap.size 0)=some (aj 0):=fy G;have r1:w4.cell? (ay w.heap.size 1)=some (aj 0):=fy G;have t0:w4.frozen? (ay w.heap.size 0)=false:=qE G;have t1:w4.frozen? (ay w.heap.size 1)=false:=qE G;have a8:=bj ((ep (S:=rA sb pb n kd vb) a5).trans a0 (λ_ h _=>h));have aE:=bj a7;clear h4 a0 a7 G;go_wp2_with fail
 refine dg (v:=.tuple #[.agg #[aj x,aj 0],.bool o]) (by simp[results,results157,go_sem,r0,r1]) rfl ?_;refine⟨_,rfl,bp (bp a8 (ah eB) _) (ah eB) _,?_⟩;exact aE _
theorem yH(Q:Nat->Prop)(op a b c fb tb eb sb pb n nr:Nat)(kd:B.Kd)(vb:Vs)(s:B.St)(w:aa)(hR:C8 w Q eb sb pb n nr kd vb s)(aB:b<=8)(a6:w.cell? (ay eb 27)=some (P0 sb))(he:¬rA sb pb n kd vb eb): Calls prog 100 #[ed op a b c fb tb eb] w λe w'=>∃v,e=.returned v/\dM (rA sb pb n kd vb) w w'/\Laid w w' sb pb eb n nr 0 (List.replicate b (0,0)) kd vb s v:=by
 have KR:=bj hR;have le:=gM a6;have lp:=hR.hs.p.p.lt;have ls:=ch hR.hs.b;have a5:=bj hR.hs.lt;have a1:Hid (∀x,w.heap.size<=x->¬rA sb pb n kd vb x):=λx W h=>by
  rcases h with h|h|h
  .omega
  .omega
  have:=a5 x h;omega
 clear hR;go_in;go_wp2_with fail
 generalize hW:(w.alloc (.cells #[dy op,dy a,dy b,dy c,P0 fb,P0 tb,P0 eb] 186)).alloc (.cells #[aj 0,aj 0] 149)=w1;have J:Hid (w.grownBy w1 none):=by rw[<-hW];exact ax (ak _ _ _) _
 have W:w1.heap[w.heap.size]? = some (ju op a b c fb tb eb):=by rw[<-hW,av _ _ _ eB];exact bl w _
 have hr:w1.heap[w.heap.size+1]? = some (.cells #[aj 0,aj 0] 149 (0,0)):=by
  rw[<-hW];have:=bl (w.alloc (.cells #[dy op,dy a,dy b,dy c,P0 fb,P0 tb,P0 eb] 186)) (.cells #[aj 0,aj 0] 149);simpa using this
 clear hW;have HR:=bj hr;have aA:=bj (KR.kept (bo J));obtain⟨x0,x1,x2,x3,x4,x5,x6⟩:=eZ W;have lx:=ch W;have lr:=ch hr;obtain⟨a7,_⟩:=bd J (a:=ay eb 27) le;rw[a6]at a7;have aC:eb<w1.heap.size:=ag
 clear W hr;have HS:∀w':aa,dM (rA sb pb n kd vb) w1 w'->dS w' w.heap.size 6=some (P0 eb)/\dS w' w.heap.size 2=some (dy b)/\dS w' eb 27=some (P0 sb):=by
  intro w' hO;exact⟨(hO.cell (o:=6) lx (a1 _ (bq _))).trans x6,(hO.cell (o:=2) lx (a1 _ (bq _))).trans x2,(hO.cell (o:=27) aC he).trans a7⟩
 change Hid _ at HS;have aG:IntKind.i64.wrap (b:Int)=b:=by simp[IntKind.wrap,IntKind.bits,IntKind.signed];omega
 go_region_held3 (λw'=>dS w' w.heap.size 6=some (P0 eb)/\dS w' w.heap.size 2=some (dy b)/\dS w' eb 27=some (P0 sb)) (first|exact HS _ (dw _ _)|exact HS _ a2|exact a3) (first|(go_at_call 157;refine(xg Q eb sb pb n nr b kd vb s w1.drew aA aB).mono ?_;rintro e H ⟨v,rfl,Y,a0⟩;obtain⟨x,ob,rfl⟩:=a0.form;have a2:Hid (dM (rA sb pb n kd vb) w1 H):=Y;have a9:Hid (Laid w1 H sb pb eb n nr 0 (List.replicate b (0,0)) kd vb s (.tuple #[.agg #[aj x,aj 0],.bool ob])):=a0;have G:=Y.block (k:=w.heap.size+1) HR (a1 _ (Nat.le_succ _));have r0:dS H (w.heap.size+1) 0=some (aj 0):=(by simp[World.cell?,G]);have r1:dS H (w.heap.size+1) 1=some (aj 0):=(by simp[World.cell?,G]);have r2:H.frozen? (ay (w.heap.size+1) 0)=false:=(by simp[World.frozen?,G]);have r3:H.frozen? (ay (w.heap.size+1) 1)=false:=(by simp[World.frozen?,G]);have a3:Hid (dS ((H.setCell (ay (w.heap.size+1) 0) (aj x)).setCell (ay (w.heap.size+1) 1) (aj 0)) w.heap.size 6=some (P0 eb)/\dS ((H.setCell (ay (w.heap.size+1) 0) (aj x)).setCell (ay (w.heap.size+1) 1) (aj 0)) w.heap.size 2=some (dy b)/\dS ((H.setCell (ay (w.heap.size+1) 0) (aj x)).setCell (ay (w.heap.size+1) 1) (aj 0)) eb 27=some (P0 sb)):=(by have h:=HS H Y;exact⟨(az (a:=ay w.heap.size 6) ((ab _ _ _ _ eB).trans (ab _ _ _ _ eB))).trans h.1,(az (a:=ay w.heap.size 2) ((ab _ _ _ _ eB).trans (ab _ _ _ _ eB))).trans h.2.1,(az (a:=ay eb 27) ((ab _ _ _ _ (by show eb≠w.heap.size+1;omega)).trans (ab _ _ _ _ (by show eb≠w.heap.size+1;omega)))).trans h.2.2⟩);clear G Y a0))
 all_goals
  go_wp2
  refine dg (v:=.tuple #[.agg #[aj x,aj 0],.bool ob]) (by simp[results,results100,go_sem,r0,r1]) rfl ?_;refine⟨_,rfl,bp (bp ((ep J).trans a2 (λ_ h _=>h)) (ah eB) _) (ah eB) _,?_⟩;have a4:∀(i:B.Kd) (u:Vs) (M:Nat->List B.V),kD H sb pb eb n i u M->pW n kd vb i u w1.heap.size->∀x,Own n i u x->x≠w.heap.size+1:=λi u M hS hG x W=>by
   rcases hG x W with h|h
   .have:=a5 x h;omega
   omega
  have a8:∀(i:B.Kd) (u:Vs) (M:Nat->List B.V) (y z:Value),kD H sb pb eb n i u M->pW n kd vb i u w1.heap.size->kD ((H.setCell (ay (w.heap.size+1) 0) y).setCell (ay (w.heap.size+1) 1) z) sb pb eb n i u M:=λi u M y z hS hG=>
   hS.block ((ab _ _ _ _ (by show sb≠w.heap.size+1;omega)).trans (ab _ _ _ _ (by show sb≠w.heap.size+1;omega))) ((ab _ _ _ _ (by show pb≠w.heap.size+1;omega)).trans (ab _ _ _ _ (by show pb≠w.heap.size+1;omega))) (λk hk=>(ab _ _ _ _ (a4 _ _ _ hS hG k hk)).trans (ab _ _ _ _ (a4 _ _ _ hS hG k hk)))
  rcases a9 with⟨k,vg,i,h1,h2,h3,aD,h4,h5,h6⟩|⟨h1,h2,i,h3,h4,h5⟩
  .exact af ⟨k,vg,i,h1,h2,h3,aD,h4,a8 _ _ _ _ _ h5 h6,λx W=>(h6 x W).imp id (λh=>by omega)⟩
  exact ah ⟨h1,h2,i,a8 _ _ _ _ _ h3 h5,h4,λx W=>(h5 x W).imp id (λh=>by omega)⟩
theorem yG(Q:Nat->Prop)(eb sb pb n nr f:Nat)(u:B.V)(kd:B.Kd)(vb:Vs)(s:B.St)(w:aa)(hR:C8 w Q eb sb pb n nr kd vb s): Calls prog 161 #[P0 sb,aj f,vA u] w λe w'=>∃v,e=.returned v/\dM (rA sb pb n kd vb) w w'/\Laid w w' sb pb eb n nr (f+1) [u] kd vb s v:=by
 have KR:=bj hR;have lp:=hR.hs.p.p.lt;have ls:=ch hR.hs.b;have W:=bj hR.hs.lt;go_in;go_wp2_with fail
 generalize hW:((w.alloc (.cells #[aj u.1,aj u.2] 149)).alloc (.cells #[aj 0,aj 0] 149)).alloc (.cells #[aj u.1,aj u.2] 149)=w3;have a2:w3.heap.size=w.heap.size+1+1+1:=by rw[<-hW];simp
 have a3:Hid (w.grownBy w3 none):=by rw[<-hW];exact ax (ax (ak _ _ _) _) _
 have x3:w3.heap[w.heap.size+1]? = some (.cells #[aj 0,aj 0] 149 (0,0)):=by
  rw[<-hW,av _ _ _ eB];have:=bl (w.alloc (.cells #[aj u.1,aj u.2] 149)) (.cells #[aj 0,aj 0] 149);simpa using this
 have y3:w3.heap[w.heap.size+1+1]? = some (.cells #[aj u.1,aj u.2] 149 (0,0)):=by
  rw[<-hW];have:=bl ((w.alloc (.cells #[aj u.1,aj u.2] 149)).alloc (.cells #[aj 0,aj 0] 149)) (.cells #[aj u.1,aj u.2] 149);simpa using this
 have a1:Hid (Full w3 (w.heap.size+1+1) 149 ([u].length*2) ([u].length*2) (eQ (λi=>[u].getD i (0,0)))):=by
  refine⟨_,y3,rfl,λj hj=>?_⟩;have:j=0\/j=1:=by have:j<2:=hj;omega
  rcases this with rfl|rfl<;>rfl
 have aB:=bj x3;have a7:=bj (KR.kept a3);have a8:(.agg #[dy 2,aj f,dA (w.heap.size+1+1) 1 1]:Value)=.agg #[vz true (f+1),zi (f+1),dA (w.heap.size+1+1) [u].length [u].length]:=rfl;rw[a8];refine(Bh Q eb sb pb n nr (w.heap.size+1+1) (f+1) [u] kd vb s w3 a7 a1 eR (λ_=>rfl) (λh=>by have:=W _ h;omega)).mono ?_;intro e Y h4;have Z:=h4.1;obtain⟨x,o,he,a5⟩:∃(x:Int) (o:Bool),e=.returned (.tuple #[.agg #[aj x,aj 0],.bool o])/\∀y:Value,Laid w (Y.setCell (ay (w.heap.size+1) 0) y |>.setCell (ay (w.heap.size+1) 1) (aj 0)) sb pb eb n nr (f+1) [u] kd vb s (.tuple #[.agg #[aj x,aj 0],.bool o]):=by
  have a4:∀(G:B.Kd) (J:Vs) (M:Nat->List B.V) (y:Value),kD Y sb pb eb n G J M->(∀x,Own n G J x->Own n kd vb x\/x=w.heap.size+1+1)->kD (Y.setCell (ay (w.heap.size+1) 0) y |>.setCell (ay (w.heap.size+1) 1) (aj 0)) sb pb eb n G J M:=λG J M y hS hG=>
   hS.block ((ab _ _ _ _ eR).trans (ab _ _ _ _ eR)) ((ab _ _ _ _ eR).trans (ab _ _ _ _ eR)) (λk hk=>by
    have a0:k≠w.heap.size+1:=by
     rcases hG k hk with h|h
     .have:=W k h;omega
     omega
    grind[Below.heap_setCell])
  rcases h4.2 with⟨k,G,h1,h2,h3,aA,rfl,h5,h6⟩|⟨rfl,h5,G,h6,h7,h8⟩
  .exact⟨_,_,rfl,λy=>af ⟨k,w.heap.size+1+1,G,h1,h2,h3,aA,rfl,a4 _ _ _ y h5 h6,λx H=>(h6 x H).imp id (λh=>by omega)⟩⟩
  exact⟨_,_,rfl,λy=>ah ⟨rfl,h5,G,a4 _ _ _ y h6 (λx H=>af (h8 x H)),h7,λx H=>af (h8 x H)⟩⟩
 subst he;have H:=Z.block aB (by
  rintro(h|h|h)
  .omega
  .omega
  have:=W _ h;omega)
 have r0:dS Y (w.heap.size+1) 0=some (aj 0):=fy H
 have r1:dS Y (w.heap.size+1) 1=some (aj 0):=fy H
 have t0:Y.frozen? (ay (w.heap.size+1) 0)=false:=qE H
 have t1:Y.frozen? (ay (w.heap.size+1) 1)=false:=qE H
 have a6:=bj ((ep (S:=rA sb pb n kd vb) a3).trans Z (λ_ h _=>h));have a9:=bj a5;go_wp2
 refine dg (v:=.tuple #[.agg #[aj x,aj 0],.bool o]) (by simp[results,results161,go_sem,r0,r1]) rfl ?_;refine⟨_,rfl,bp (bp a6 (ah eB) _) (ah eB) _,?_⟩;exact a9 _
theorem tj(Q:Nat->Prop)(op a b c fb tb eb sb pb n nr:Nat)(cg:B.V)(kd:B.Kd)(vb:Vs)(s:B.St)(w:aa)(hR:C8 w Q eb sb pb n nr kd vb s)(aJ:b<256)(hc:∀w1,w.grownBy w1 none->dD 94 #[ed op a b c fb tb eb] w1 (vA cg) λw'=>w1.grownBy w' none)(a8:w.cell? (ay eb 27)=some (P0 sb))(he:¬rA sb pb n kd vb eb): Calls prog 103 #[ed op a b c fb tb eb] w λe w'=>∃v,e=.returned v/\dM (rA sb pb n kd vb) w w'/\Laid w w' sb pb eb n nr (b+1) [cg] kd vb s v:=by
 have KR:=bj hR;have HC:=bj hc;have le:=gM a8;have lp:=hR.hs.p.p.lt;have ls:=ch hR.hs.b;have a7:=bj hR.hs.lt;have aB:Hid (∀x,w.heap.size<=x->¬rA sb pb n kd vb x):=λx Y h=>by
  rcases h with h|h|h
  .omega
  .omega
  have:=a7 x h;omega
 clear hR hc;go_in;go_wp2_with fail
 generalize hW:(w.alloc (.cells #[dy op,dy a,dy b,dy c,P0 fb,P0 tb,P0 eb] 186)).alloc (.cells #[aj 0,aj 0] 149)=w1;have J:Hid (w.grownBy w1 none):=by rw[<-hW];exact ax (ak _ _ _) _
 have Y:w1.heap[w.heap.size]? = some (ju op a b c fb tb eb):=by rw[<-hW,av _ _ _ eB];exact bl w _
 have hr:w1.heap[w.heap.size+1]? = some (.cells #[aj 0,aj 0] 149 (0,0)):=by
  rw[<-hW];have:=bl (w.alloc (.cells #[dy op,dy a,dy b,dy c,P0 fb,P0 tb,P0 eb] 186)) (.cells #[aj 0,aj 0] 149);simpa using this
 clear hW;have HX:=bj Y;have HR:=bj hr;have lr:=ch hr;have aE:eb<w1.heap.size:=ag
 clear Y hr;have Z:Hid (∀w':aa,dM (λk=>rA sb pb n kd vb k\/k=w.heap.size+1) w1 w'->dS w' w.heap.size 0=some (dy op)/\dS w' w.heap.size 1=some (dy a)/\dS w' w.heap.size 2=some (dy b)/\dS w' w.heap.size 3=some (dy c)/\dS w' w.heap.size 4=some (P0 fb)/\dS w' w.heap.size 5=some (P0 tb)/\dS w' w.heap.size 6=some (P0 eb)/\dS w' eb 27=some (P0 sb)):=λw' hO=>by
  have aD:¬(rA sb pb n kd vb w.heap.size\/w.heap.size=w.heap.size+1):=λh=>h.elim (aB _ (bq _)) (λh=>by omega);obtain⟨x0,x1,x2,x3,x4,x5,x6⟩:=eZ (hO.block HX aD);exact⟨x0,x1,x2,x3,x4,x5,x6,(hO.cell (o:=27) aE (λh=>h.elim he (λh=>by omega))).trans ((bd J (a:=ay eb 27) le).1.trans a8)⟩
 have aI:IntKind.i64.wrap (b:Int)=b:=by simp[IntKind.wrap,IntKind.bits,IntKind.signed];omega
 go_region_held3 (λw'=>dS w' w.heap.size 0=some (dy op)/\dS w' w.heap.size 1=some (dy a)/\dS w' w.heap.size 2=some (dy b)/\dS w' w.heap.size 3=some (dy c)/\dS w' w.heap.size 4=some (P0 fb)/\dS w' w.heap.size 5=some (P0 tb)/\dS w' w.heap.size 6=some (P0 eb)/\dS w' eb 27=some (P0 sb)) (first|exact Z _ (dw _ _)|exact Z _ (ep a0)|exact Z _ a4|exact a5) (first|(go_at_call 94;refine du (HC w1.drew (bo J)) λw2 H=>?_;have a0:Hid (w1.grownBy w2 none):=⟨H.os,H.tape,H.output,H.size,H.block⟩;clear H)|(go_at_call 161;refine(yG Q eb sb pb n nr b cg kd vb s w2 (KR.kept (ar J a0))).mono ?_;rintro e W ⟨v,rfl,a2,a3⟩;obtain⟨x,ob,rfl⟩:=a3.form;have a1:=(ep a0).trans a2 (λ_ h _=>h);have a4:Hid (dM (λk=>rA sb pb n kd vb k\/k=w.heap.size+1) w1 W):=a1.mono (λ_ h _=>af h);have a9:=bj a1;have aC:=bj (a3.pre a0.size);have G:=a1.block (k:=w.heap.size+1) HR (aB _ (Nat.le_succ _));have r0:dS W (w.heap.size+1) 0=some (aj 0):=(by simp[World.cell?,G]);have r1:dS W (w.heap.size+1) 1=some (aj 0):=(by simp[World.cell?,G]);have r2:W.frozen? (ay (w.heap.size+1) 0)=false:=(by simp[World.frozen?,G]);have r3:W.frozen? (ay (w.heap.size+1) 1)=false:=(by simp[World.frozen?,G]);have a5:=bj (Z ((W.setCell (ay (w.heap.size+1) 0) (aj x)).setCell (ay (w.heap.size+1) 1) (aj 0)) (bp (bp a4 (af (ah rfl)) _) (af (ah rfl)) _));clear G a1 a3 a2))
 all_goals
  go_wp2
  refine dg (v:=.tuple #[.agg #[aj x,aj 0],.bool ob]) (by simp[results,results103,go_sem,r0,r1]) rfl ?_;refine⟨_,rfl,bp (bp ((ep J).trans a9 (λ_ h _=>h)) (ah eB) _) (ah eB) _,?_⟩;have a6:∀(i:B.Kd) (u:Vs) (M:Nat->List B.V),kD W sb pb eb n i u M->pW n kd vb i u w1.heap.size->∀x,Own n i u x->x≠w.heap.size+1:=λi u M hS hG x Y=>by
   rcases hG x Y with h|h
   .have:=a7 x h;omega
   omega
  have aA:∀(i:B.Kd) (u:Vs) (M:Nat->List B.V) (y z:Value),kD W sb pb eb n i u M->pW n kd vb i u w1.heap.size->kD ((W.setCell (ay (w.heap.size+1) 0) y).setCell (ay (w.heap.size+1) 1) z) sb pb eb n i u M:=λi u M y z hS hG=>
   hS.block ((ab _ _ _ _ (by show sb≠w.heap.size+1;omega)).trans (ab _ _ _ _ (by show sb≠w.heap.size+1;omega))) ((ab _ _ _ _ (by show pb≠w.heap.size+1;omega)).trans (ab _ _ _ _ (by show pb≠w.heap.size+1;omega))) (λk hk=>(ab _ _ _ _ (a6 _ _ _ hS hG k hk)).trans (ab _ _ _ _ (a6 _ _ _ hS hG k hk)))
  rcases aC with⟨k,vg,i,h1,h2,h3,aF,h4,h5,h6⟩|⟨h1,h2,i,h3,h4,h5⟩
  .exact af ⟨k,vg,i,h1,h2,h3,aF,h4,aA _ _ _ _ _ h5 h6,λx Y=>(h6 x Y).imp id (λh=>by omega)⟩
  exact ah ⟨h1,h2,i,aA _ _ _ _ _ h3 h5,h4,λx Y=>(h5 x Y).imp id (λh=>by omega)⟩
end F
section
theorem Cv(op a b c fb tb eb vbx : Nat) (S : Int → Bool → aa → Prop) (R : aa → Prop) (w : aa) (hv : w.cell? ⟨vbx, 0, none⟩ = some (Fv 100 #[]))
    (H1 : ∀ w1, w.grownBy w1 none → w1.heap[w.heap.size]? = some (ju op a b c fb tb eb) → Calls prog 100 #[ed op a b c fb tb eb] w1 fun e w2 => ∃ (x : Int) (o : Bool), e = .returned (.tuple #[.agg #[aj x, aj 0], .bool o]) ∧ S x o w2 ∧ w2.heap[w.heap.size]? = some (ju op a b c fb tb eb))
    (H2 : ∀ x w2 w3, S x true w2 → w2.grownBy w3 none → Calls prog 149 #[ed op a b c fb tb eb, .agg #[aj x, aj 0]] w3 fun e w' => e = .returned (.tuple #[]) ∧ R w')
    (H3 : ∀ x w2 w3, S x false w2 → w2.grownBy w3 none → Calls prog 156 #[P0 eb, P0 tb] w3 fun e w' => e = .returned (.tuple #[]) ∧ R w') :
    Calls prog 155 #[ed op a b c fb tb eb, P0 vbx] w fun e w' => e = .returned (.tuple #[]) ∧ R w' := by
  have HH1 := bj H1
  have HH2 := bj H2
  have HH3 := bj H3
  have lv := gM hv
  go_in
  go_wp2_with fail
  have KG1 := bj (ak w (.cells #[dy (op : Int), dy (a : Int), dy (b : Int), dy (c : Int), P0 fb, P0 tb, P0 eb] 186) none)
  have HX1 := bj (iN w op a b c fb tb eb)
  generalize hW : w.alloc (.cells #[dy (op : Int), dy (a : Int), dy (b : Int), dy (c : Int), P0 fb, P0 tb, P0 eb] 186) = w1 at *
  refine (HH1 w1 KG1 HX1).mono ?_
  rintro e w2 ⟨x, o, rfl, hS2, hX2⟩
  have HS2 := bj hS2
  have HX2 := bj hX2
  obtain⟨x0, x1, x2, x3, x4, x5, x6⟩ := eZ HX2
  have lx := ch HX2
  cases o with
  | true =>
    go_wp2_with fail
    refine du (HH2 x w2 _ HS2 (ak _ _ _)) ?_;rintro w3  hR3
    have HR3 := bj hR3
    go_wp2
    go_end0
    exact⟨rfl, HR3⟩
  | false =>
    go_wp2_with fail
    first
      | (refine du (HH3 x w2 _ HS2 (ak _ _ _)) ?_;rintro w3  hR3
         have HR3 := bj hR3
         go_wp2
         go_end0
         exact⟨rfl, HR3⟩)
      | trace_state
theorem wu(op a b c fb tb eb vbx wb : Nat) (R : aa → Prop) (w : aa) (hw : w.cell? ⟨wb, 0, none⟩ = some (Fv 155 #[P0 vbx]))
    (H : ∀ w1, w.grownBy w1 none → Calls prog 155 #[ed op a b c fb tb eb, P0 vbx] w1 fun e w' => e = .returned (.tuple #[]) ∧ R w') :
    Calls prog 163 #[ed op a b c fb tb eb, P0 wb] w fun e w' => e = .returned (aj 0) ∧ R w' := by
  have HH := bj H
  have lw := gM hw
  go_in
  go_wp2_with fail
  first
    | (refine du (HH _ (ak _ _ _)) ?_;rintro w2  hR2
       have HR2 := bj hR2
       go_wp2
       go_ret
       simp_all)
    | trace_state
theorem Cu(op a b c fb tb eb vbx : Nat) (S : Int → Bool → aa → Prop) (R : aa → Prop) (w : aa) (hv : w.cell? ⟨vbx, 0, none⟩ = some (Fv 103 #[]))
    (H1 : ∀ w1, w.grownBy w1 none → w1.heap[w.heap.size]? = some (ju op a b c fb tb eb) → Calls prog 103 #[ed op a b c fb tb eb] w1 fun e w2 => ∃ (x : Int) (o : Bool), e = .returned (.tuple #[.agg #[aj x, aj 0], .bool o]) ∧ S x o w2 ∧ w2.heap[w.heap.size]? = some (ju op a b c fb tb eb))
    (H2 : ∀ x w2 w3, S x true w2 → w2.grownBy w3 none → Calls prog 149 #[ed op a b c fb tb eb, .agg #[aj x, aj 0]] w3 fun e w' => e = .returned (.tuple #[]) ∧ R w')
    (H3 : ∀ x w2 w3, S x false w2 → w2.grownBy w3 none → Calls prog 156 #[P0 eb, P0 tb] w3 fun e w' => e = .returned (.tuple #[]) ∧ R w') :
    Calls prog 155 #[ed op a b c fb tb eb, P0 vbx] w fun e w' => e = .returned (.tuple #[]) ∧ R w' := by
  have HH1 := bj H1
  have HH2 := bj H2
  have HH3 := bj H3
  have lv := gM hv
  go_in
  go_wp2_with fail
  have KG1 := bj (ak w (.cells #[dy (op : Int), dy (a : Int), dy (b : Int), dy (c : Int), P0 fb, P0 tb, P0 eb] 186) none)
  have HX1 := bj (iN w op a b c fb tb eb)
  generalize hW : w.alloc (.cells #[dy (op : Int), dy (a : Int), dy (b : Int), dy (c : Int), P0 fb, P0 tb, P0 eb] 186) = w1 at *
  refine (HH1 w1 KG1 HX1).mono ?_
  rintro e w2 ⟨x, o, rfl, hS2, hX2⟩
  have HS2 := bj hS2
  have HX2 := bj hX2
  obtain⟨x0, x1, x2, x3, x4, x5, x6⟩ := eZ HX2
  have lx := ch HX2
  cases o with
  | true =>
    go_wp2_with fail
    refine du (HH2 x w2 _ HS2 (ak _ _ _)) ?_;rintro w3  hR3
    have HR3 := bj hR3
    go_wp2
    go_end0
    exact⟨rfl, HR3⟩
  | false =>
    go_wp2_with fail
    first
      | (refine du (HH3 x w2 _ HS2 (ak _ _ _)) ?_;rintro w3  hR3
         have HR3 := bj hR3
         go_wp2
         go_end0
         exact⟨rfl, HR3⟩)
      | trace_state
