import Derived.Test.YtnjiinbhbjpfkaaGreatDoorStpX
set_option maxRecDepth 100000
set_option maxHeartbeats 0
set_option linter.all false
namespace Go.Proofs.YtnjiinbhbjpfkaaGreatDoor
open Go.RowKit Go.Proofs.Tryz
namespace F
def Laid(w w':World)(sb pb eb n nr t:Nat)(l:List B.V)(kd:B.Kd)(vb:Vs)(s:B.St)(v:Value):Prop:=
 (∃(k vg:Nat) (kd1:B.Kd),k<n/\kd1.on (k+1)=false/\B.iZ kd1 nr n s/\Gj nr n s kd kd1/\v=.tuple #[.agg #[.int .i64 ((k:Int)+1),.int .i64 0],.bool true]/\jm w' sb pb eb n (B.laid kd1 (k+1)) (vb.put (k+1) vg t) (B.lay s.2.2 (k+1) l)/\ox n kd vb (B.laid kd1 (k+1)) (vb.put (k+1) vg t) w.heap.size) \/
 (v=.tuple #[.agg #[.int .i64 0,.int .i64 0],.bool false]/\(∀p,1<=p->p<=n->B.Reach nr s p)/\∃kd1,jm w' sb pb eb n kd1 vb s.2.2/\B.iZ kd1 nr n s/\ox n kd vb kd1 vb w.heap.size)
theorem Laid.pre{w0 w w':World}{sb pb eb n nr t:Nat}{l:List B.V}{kd:B.Kd}{vb:Vs}{s:B.St}{v:Value}(hz:w0.heap.size<=w.heap.size)(h:Laid w w' sb pb eb n nr t l kd vb s v):Laid w0 w' sb pb eb n nr t l kd vb s v:=by
 rcases h with⟨k,Y,e,o,J,H,i,G,u,W⟩|⟨o,J,e,H,G,u⟩
 .exact ag ⟨k,Y,e,o,J,H,i,G,u,λx y=>(W x y).imp id (λh=>dH hz h)⟩
 exact ab ⟨o,J,e,H,G,λx y=>(u x y).imp id (λh=>dH hz h)⟩
theorem Laid.form{w w':World}{sb pb eb n nr t:Nat}{l:List B.V}{kd:B.Kd}{vb:Vs}{s:B.St}{v:Value}(h:Laid w w' sb pb eb n nr t l kd vb s v):∃(x:Int) (o:Bool),v=.tuple #[.agg #[.int .i64 x,.int .i64 0],.bool o]:=by
 rcases h with⟨k,H,e,u,G,y,_,i,_⟩|⟨h,_⟩
 .exact⟨_,_,i⟩
 exact⟨_,_,h⟩
theorem vt(Q:Nat->Prop)(eb sb pb n nr b:Nat)(kd:B.Kd)(vb:Vs)(s:B.St)(w:World)(hR:BG w Q eb sb pb n nr kd vb s)(aH:b<=8): Calls prog 157 #[P0 sb,.int .i64 b] w λe w'=>∃v,e=.returned v/\dy (pP sb pb n kd vb) w w'/\Laid w w' sb pb eb n nr 0 (List.replicate b (0,0)) kd vb s v:=by
 have KR:=az hR;have lp:=hR.hs.p.p.lt;have ls:=bz hR.hs.b;have Z:=az hR.hs.lt;clear hR;obtain⟨i0,hi,aF,aB,a9⟩:=info_parts Tryz.rE;go_in;go_wp2_with (at_make;go_loud (refine wpList_make_full _ rfl _ _ 137 rfl 0 149 i0 _ 2 underlying137 hi aF aB _ _ _ _ b rfl rfl rfl rfl (by rw[a9];omega) (by unfold maxLen;omega) (dc _) ?_))
 intro w3 Y H;have aD:=H.size;have a4:Full w3 (w.heap.size+1) 149 (b*2) (b*2) (eC (λ_=>(0,0))):=by
  rcases Y.2 with⟨h,_⟩|⟨g',aL,aG,J,h2,h3,h4,h5,h6,h7⟩
  .cases h
  injection J with J _ hc;injection J with J;injection J with J _ _;have aJ:g'=w.heap.size+1:=by simpa using J.symm
  subst aJ hc;refine⟨aG,h3,h6,λj hj=>?_⟩;have e1:=congrArg (λl=>l[j]?) h7;have e2:(madeCells #[.int .i64 0,.int .i64 0] (b*2)).toList[j]? = some (.int .i64 0):=by
   simp only[madeCells,Array.getElem?_toList,Array.getElem?_map,Array.getElem?_range];rw[aj hj];have:j % 2=0\/j % 2=1:=by omega
   rcases this with h|h<;>simp[h]
  simp only[e2,dh]at e1;rw[aj hj]at e1;have e3:eC (λ_=>((0,0):B.V)) j=.int .i64 0:=by unfold eC;split<;>rfl
  rw[e3];simpa using e1
 have x3:=cm H (show(w.alloc (.cells #[.int .i64 0,.int .i64 0] 149)).heap[w.heap.size]? = _ from bf w _) (by intro e;cases e);have a5:=az (an (ah _ _ _) H);have a3:=az a4;have aK:=az x3;have aA:=az (KR.kept a5);clear Y H a4 x3;go_wp2_with fail
 have a1:Hid (Full w3 (w.heap.size+1) 149 ((List.replicate b ((0,0):B.V)).length*2) ((List.replicate b ((0,0):B.V)).length*2) (eC (λi=>(List.replicate b ((0,0):B.V)).getD i (0,0)))):=by
  show Full _ _ _ _ _ _;rw[ik];refine a3.congr (λj _=>?_);unfold eC;have:(List.replicate b ((0,0):B.V)).getD (j / 2) (0,0)=(0,0):=by
   rw[ar,List.getElem?_replicate];split<;>rfl
  simp only[this]
 have aC:(.agg #[.int .u8 1,.int .i64 0,.slice (some ⟨w.heap.size+1,0,none⟩) b b]:Value)=.agg #[tZ true 0,vJ 0,.slice (some ⟨w.heap.size+1,0,none⟩) (List.replicate b ((0,0):B.V)).length (List.replicate b ((0,0):B.V)).length]:=by rw[ik];rfl
 rw[aC];refine(zY Q eb sb pb n nr (w.heap.size+1) 0 (List.replicate b (0,0)) kd vb s w3 aA a1 (by simpa using aH) (λh=>ch rfl h) (λh=>by have:=Z _ h;omega)).mono ?_;intro e w4 h4;have a0:=h4.1;obtain⟨x,o,he,a7⟩:∃(x:Int) (o:Bool),e=.returned (.tuple #[.agg #[.int .i64 x,.int .i64 0],.bool o])/\∀y:Value,Laid w (w4.setCell ⟨w.heap.size,0,none⟩ y |>.setCell ⟨w.heap.size,1,none⟩ (.int .i64 0)) sb pb eb n nr 0 (List.replicate b (0,0)) kd vb s (.tuple #[.agg #[.int .i64 x,.int .i64 0],.bool o]):=by
  have a6:∀(u:B.Kd) (W:Vs) (M:Nat->List B.V) (y:Value),jm w4 sb pb eb n u W M->(∀x,Own n u W x->Own n kd vb x\/x=w.heap.size+1)->jm (w4.setCell ⟨w.heap.size,0,none⟩ y |>.setCell ⟨w.heap.size,1,none⟩ (.int .i64 0)) sb pb eb n u W M:=λu W M y hS hG=>
   hS.block ((af _ _ _ _ (by show sb≠w.heap.size;omega)).trans (af _ _ _ _ (by show sb≠w.heap.size;omega))) ((af _ _ _ _ (by show pb≠w.heap.size;omega)).trans (af _ _ _ _ (by show pb≠w.heap.size;omega))) (λk hk=>by
    have a2:k≠w.heap.size:=by
     rcases hG k hk with h|h
     .have:=Z k h;omega
     omega
    exact(af _ _ _ _ a2).trans (af _ _ _ _ a2))
  rcases h4.2 with⟨k,u,J,h2,h3,aI,rfl,h5,h6⟩|⟨rfl,h5,u,h6,h7,h8⟩
  .exact⟨_,_,rfl,λy=>ag ⟨k,w.heap.size+1,u,J,h2,h3,aI,rfl,a6 _ _ _ y h5 h6,λx G=>(h6 x G).imp id (λh=>by omega)⟩⟩
  exact⟨_,_,rfl,λy=>ab ⟨rfl,h5,u,a6 _ _ _ y h6 (λx G=>ag (h8 x G)),h7,λx G=>ag (h8 x G)⟩⟩
 subst he;have G:=a0.block aK (by
  rintro(h|h|h)
  .omega
  .omega
  have:=Z _ h;omega)
 have r0:w4.cell? ⟨w.heap.size,0,none⟩=some (.int .i64 0):=by simp[World.cell?,G]
 have r1:w4.cell? ⟨w.heap.size,1,none⟩=some (.int .i64 0):=by simp[World.cell?,G]
 have t0:w4.frozen? ⟨w.heap.size,0,none⟩=false:=by simp[World.frozen?,G]
 have t1:w4.frozen? ⟨w.heap.size,1,none⟩=false:=by simp[World.frozen?,G]
 have a8:=az ((dU (S:=pP sb pb n kd vb) a5).trans a0 (λ_ h _=>h));have aE:=az a7;clear h4 a0 a7 G;go_wp2_with fail
 refine da (v:=.tuple #[.agg #[.int .i64 x,.int .i64 0],.bool o]) (by simp[results,results157,go_sem,r0,r1]) rfl ?_;refine⟨_,rfl,bm (bm a8 (ab (by simp)) _) (ab (by simp)) _,?_⟩;exact aE _
theorem xp(Q:Nat->Prop)(op a b c fb tb eb sb pb n nr:Nat)(kd:B.Kd)(vb:Vs)(s:B.St)(w:World)(hR:BG w Q eb sb pb n nr kd vb s)(aB:b<=8)(a6:w.cell? ⟨eb,27,none⟩=some (P0 sb))(he:¬pP sb pb n kd vb eb): Calls prog 100 #[dZ op a b c fb tb eb] w λe w'=>∃v,e=.returned v/\dy (pP sb pb n kd vb) w w'/\Laid w w' sb pb eb n nr 0 (List.replicate b (0,0)) kd vb s v:=by
 have KR:=az hR;have le:=gW a6;have lp:=hR.hs.p.p.lt;have ls:=bz hR.hs.b;have a5:=az hR.hs.lt;have a1:Hid (∀x,w.heap.size<=x->¬pP sb pb n kd vb x):=λx W h=>by
  rcases h with h|h|h
  .omega
  .omega
  have:=a5 x h;omega
 clear hR;go_in;go_wp2_with fail
 generalize hW:(w.alloc (.cells #[.int .u8 op,.int .u8 a,.int .u8 b,.int .u8 c,P0 fb,P0 tb,P0 eb] 186)).alloc (.cells #[.int .i64 0,.int .i64 0] 149)=w1;have J:Hid (w.grownBy w1 none):=by rw[<-hW];exact au (ah _ _ _) _
 have W:w1.heap[w.heap.size]? = some (lZ op a b c fb tb eb):=by rw[<-hW,ak _ _ _ (by simp)];exact bf w _
 have hr:w1.heap[w.heap.size+1]? = some (.cells #[.int .i64 0,.int .i64 0] 149 (0,0)):=by
  rw[<-hW];have:=bf (w.alloc (.cells #[.int .u8 op,.int .u8 a,.int .u8 b,.int .u8 c,P0 fb,P0 tb,P0 eb] 186)) (.cells #[.int .i64 0,.int .i64 0] 149);simpa using this
 clear hW;have HR:=az hr;have aA:=az (KR.kept (bq J));obtain⟨x0,x1,x2,x3,x4,x5,x6⟩:=fk W;have lx:=bz W;have lr:=bz hr;obtain⟨a7,_⟩:=bh J (a:=⟨eb,27,none⟩) le;rw[a6]at a7;have aC:eb<w1.heap.size:=by omega
 clear W hr;have HS:∀w':World,dy (pP sb pb n kd vb) w1 w'->w'.cell? ⟨w.heap.size,6,none⟩=some (P0 eb)/\w'.cell? ⟨w.heap.size,2,none⟩=some (.int .u8 b)/\w'.cell? ⟨eb,27,none⟩=some (P0 sb):=by
  intro w' hO;exact⟨(hO.cell (o:=6) lx (a1 _ (bj _))).trans x6,(hO.cell (o:=2) lx (a1 _ (bj _))).trans x2,(hO.cell (o:=27) aC he).trans a7⟩
 have Z:=az HS;clear HS;have aG:IntKind.i64.wrap (b:Int)=b:=by simp[IntKind.wrap,IntKind.bits,IntKind.signed];omega
 go_region_held3 (λw'=>w'.cell? ⟨w.heap.size,6,none⟩=some (P0 eb)/\w'.cell? ⟨w.heap.size,2,none⟩=some (.int .u8 b)/\w'.cell? ⟨eb,27,none⟩=some (P0 sb)) (first|exact Z _ (dk _ _)|exact Z _ a2|exact a3) (first|(go_at_call 157;refine(vt Q eb sb pb n nr b kd vb s w1.drew aA aB).mono ?_;rintro e H ⟨v,rfl,Y,a0⟩;obtain⟨x,ob,rfl⟩:=a0.form;have a2:Hid (dy (pP sb pb n kd vb) w1 H):=Y;have a9:Hid (Laid w1 H sb pb eb n nr 0 (List.replicate b (0,0)) kd vb s (.tuple #[.agg #[.int .i64 x,.int .i64 0],.bool ob])):=a0;have G:=Y.block (k:=w.heap.size+1) HR (a1 _ (Nat.le_succ _));have r0:H.cell? ⟨w.heap.size+1,0,none⟩=some (.int .i64 0):=(by simp[World.cell?,G]);have r1:H.cell? ⟨w.heap.size+1,1,none⟩=some (.int .i64 0):=(by simp[World.cell?,G]);have r2:H.frozen? ⟨w.heap.size+1,0,none⟩=false:=(by simp[World.frozen?,G]);have r3:H.frozen? ⟨w.heap.size+1,1,none⟩=false:=(by simp[World.frozen?,G]);have a3:Hid (((H.setCell ⟨w.heap.size+1,0,none⟩ (.int .i64 x)).setCell ⟨w.heap.size+1,1,none⟩ (.int .i64 0)).cell? ⟨w.heap.size,6,none⟩=some (P0 eb)/\((H.setCell ⟨w.heap.size+1,0,none⟩ (.int .i64 x)).setCell ⟨w.heap.size+1,1,none⟩ (.int .i64 0)).cell? ⟨w.heap.size,2,none⟩=some (.int .u8 b)/\((H.setCell ⟨w.heap.size+1,0,none⟩ (.int .i64 x)).setCell ⟨w.heap.size+1,1,none⟩ (.int .i64 0)).cell? ⟨eb,27,none⟩=some (P0 sb)):=(by have h:=Z H Y;exact⟨(aw (a:=⟨w.heap.size,6,none⟩) ((af _ _ _ _ (by simp)).trans (af _ _ _ _ (by simp)))).trans h.1,(aw (a:=⟨w.heap.size,2,none⟩) ((af _ _ _ _ (by simp)).trans (af _ _ _ _ (by simp)))).trans h.2.1,(aw (a:=⟨eb,27,none⟩) ((af _ _ _ _ (by show eb≠w.heap.size+1;omega)).trans (af _ _ _ _ (by show eb≠w.heap.size+1;omega)))).trans h.2.2⟩);clear G Y a0))
 all_goals
  go_wp2_with fail
  refine da (v:=.tuple #[.agg #[.int .i64 x,.int .i64 0],.bool ob]) (by simp[results,results100,go_sem,r0,r1]) rfl ?_;refine⟨_,rfl,bm (bm ((dU J).trans a2 (λ_ h _=>h)) (ab (by simp)) _) (ab (by simp)) _,?_⟩;have a4:∀(i:B.Kd) (u:Vs) (M:Nat->List B.V),jm H sb pb eb n i u M->ox n kd vb i u w1.heap.size->∀x,Own n i u x->x≠w.heap.size+1:=λi u M hS hG x W=>by
   rcases hG x W with h|h
   .have:=a5 x h;omega
   omega
  have a8:∀(i:B.Kd) (u:Vs) (M:Nat->List B.V) (y z:Value),jm H sb pb eb n i u M->ox n kd vb i u w1.heap.size->jm ((H.setCell ⟨w.heap.size+1,0,none⟩ y).setCell ⟨w.heap.size+1,1,none⟩ z) sb pb eb n i u M:=λi u M y z hS hG=>
   hS.block ((af _ _ _ _ (by show sb≠w.heap.size+1;omega)).trans (af _ _ _ _ (by show sb≠w.heap.size+1;omega))) ((af _ _ _ _ (by show pb≠w.heap.size+1;omega)).trans (af _ _ _ _ (by show pb≠w.heap.size+1;omega))) (λk hk=>(af _ _ _ _ (a4 _ _ _ hS hG k hk)).trans (af _ _ _ _ (a4 _ _ _ hS hG k hk)))
  rcases a9 with⟨k,vg,i,h1,h2,h3,aD,h4,h5,h6⟩|⟨h1,h2,i,h3,h4,h5⟩
  .exact ag ⟨k,vg,i,h1,h2,h3,aD,h4,a8 _ _ _ _ _ h5 h6,λx W=>(h6 x W).imp id (λh=>by omega)⟩
  exact ab ⟨h1,h2,i,a8 _ _ _ _ _ h3 h5,h4,λx W=>(h5 x W).imp id (λh=>by omega)⟩
theorem xm(Q:Nat->Prop)(eb sb pb n nr f:Nat)(u:B.V)(kd:B.Kd)(vb:Vs)(s:B.St)(w:World)(hR:BG w Q eb sb pb n nr kd vb s): Calls prog 161 #[P0 sb,.int .i64 f,vA u] w λe w'=>∃v,e=.returned v/\dy (pP sb pb n kd vb) w w'/\Laid w w' sb pb eb n nr (f+1) [u] kd vb s v:=by
 have KR:=az hR;have lp:=hR.hs.p.p.lt;have ls:=bz hR.hs.b;have W:=az hR.hs.lt;go_in;go_wp2_with fail
 generalize hW:((w.alloc (.cells #[.int .i64 u.1,.int .i64 u.2] 149)).alloc (.cells #[.int .i64 0,.int .i64 0] 149)).alloc (.cells #[.int .i64 u.1,.int .i64 u.2] 149)=w3;have a2:w3.heap.size=w.heap.size+1+1+1:=by rw[<-hW];simp
 have a3:Hid (w.grownBy w3 none):=by rw[<-hW];exact au (au (ah _ _ _) _) _
 have x3:w3.heap[w.heap.size+1]? = some (.cells #[.int .i64 0,.int .i64 0] 149 (0,0)):=by
  rw[<-hW,ak _ _ _ (by simp)];have:=bf (w.alloc (.cells #[.int .i64 u.1,.int .i64 u.2] 149)) (.cells #[.int .i64 0,.int .i64 0] 149);simpa using this
 have y3:w3.heap[w.heap.size+1+1]? = some (.cells #[.int .i64 u.1,.int .i64 u.2] 149 (0,0)):=by
  rw[<-hW];have:=bf ((w.alloc (.cells #[.int .i64 u.1,.int .i64 u.2] 149)).alloc (.cells #[.int .i64 0,.int .i64 0] 149)) (.cells #[.int .i64 u.1,.int .i64 u.2] 149);simpa using this
 have a1:Hid (Full w3 (w.heap.size+1+1) 149 ([u].length*2) ([u].length*2) (eC (λi=>[u].getD i (0,0)))):=by
  refine⟨_,y3,rfl,λj hj=>?_⟩;have:j=0\/j=1:=by have:j<2:=hj;omega
  rcases this with rfl|rfl<;>rfl
 have aB:=az x3;have a7:=az (KR.kept a3);have a8:(.agg #[.int .u8 2,.int .i64 f,.slice (some ⟨w.heap.size+1+1,0,none⟩) 1 1]:Value)=.agg #[tZ true (f+1),vJ (f+1),.slice (some ⟨w.heap.size+1+1,0,none⟩) [u].length [u].length]:=rfl;rw[a8];refine(zY Q eb sb pb n nr (w.heap.size+1+1) (f+1) [u] kd vb s w3 a7 a1 (by show 1<=8;decide) (λ_=>rfl) (λh=>by have:=W _ h;omega)).mono ?_;intro e Y h4;have Z:=h4.1;obtain⟨x,o,he,a5⟩:∃(x:Int) (o:Bool),e=.returned (.tuple #[.agg #[.int .i64 x,.int .i64 0],.bool o])/\∀y:Value,Laid w (Y.setCell ⟨w.heap.size+1,0,none⟩ y |>.setCell ⟨w.heap.size+1,1,none⟩ (.int .i64 0)) sb pb eb n nr (f+1) [u] kd vb s (.tuple #[.agg #[.int .i64 x,.int .i64 0],.bool o]):=by
  have a4:∀(G:B.Kd) (J:Vs) (M:Nat->List B.V) (y:Value),jm Y sb pb eb n G J M->(∀x,Own n G J x->Own n kd vb x\/x=w.heap.size+1+1)->jm (Y.setCell ⟨w.heap.size+1,0,none⟩ y |>.setCell ⟨w.heap.size+1,1,none⟩ (.int .i64 0)) sb pb eb n G J M:=λG J M y hS hG=>
   hS.block ((af _ _ _ _ (by show sb≠w.heap.size+1;omega)).trans (af _ _ _ _ (by show sb≠w.heap.size+1;omega))) ((af _ _ _ _ (by show pb≠w.heap.size+1;omega)).trans (af _ _ _ _ (by show pb≠w.heap.size+1;omega))) (λk hk=>by
    have a0:k≠w.heap.size+1:=by
     rcases hG k hk with h|h
     .have:=W k h;omega
     omega
    exact(af _ _ _ _ a0).trans (af _ _ _ _ a0))
  rcases h4.2 with⟨k,G,h1,h2,h3,aA,rfl,h5,h6⟩|⟨rfl,h5,G,h6,h7,h8⟩
  .exact⟨_,_,rfl,λy=>ag ⟨k,w.heap.size+1+1,G,h1,h2,h3,aA,rfl,a4 _ _ _ y h5 h6,λx H=>(h6 x H).imp id (λh=>by omega)⟩⟩
  exact⟨_,_,rfl,λy=>ab ⟨rfl,h5,G,a4 _ _ _ y h6 (λx H=>ag (h8 x H)),h7,λx H=>ag (h8 x H)⟩⟩
 subst he;have H:=Z.block aB (by
  rintro(h|h|h)
  .omega
  .omega
  have:=W _ h;omega)
 have r0:Y.cell? ⟨w.heap.size+1,0,none⟩=some (.int .i64 0):=by simp[World.cell?,H]
 have r1:Y.cell? ⟨w.heap.size+1,1,none⟩=some (.int .i64 0):=by simp[World.cell?,H]
 have t0:Y.frozen? ⟨w.heap.size+1,0,none⟩=false:=by simp[World.frozen?,H]
 have t1:Y.frozen? ⟨w.heap.size+1,1,none⟩=false:=by simp[World.frozen?,H]
 have a6:=az ((dU (S:=pP sb pb n kd vb) a3).trans Z (λ_ h _=>h));have a9:=az a5;go_wp2_with fail
 refine da (v:=.tuple #[.agg #[.int .i64 x,.int .i64 0],.bool o]) (by simp[results,results161,go_sem,r0,r1]) rfl ?_;refine⟨_,rfl,bm (bm a6 (ab (by simp)) _) (ab (by simp)) _,?_⟩;exact a9 _
theorem qU(Q:Nat->Prop)(op a b c fb tb eb sb pb n nr:Nat)(cg:B.V)(kd:B.Kd)(vb:Vs)(s:B.St)(w:World)(hR:BG w Q eb sb pb n nr kd vb s)(aJ:b<256)(hc:∀w1,w.grownBy w1 none->Calls prog 94 #[dZ op a b c fb tb eb] w1 λe w'=>e=.returned (vA cg)/\w1.grownBy w' none)(a8:w.cell? ⟨eb,27,none⟩=some (P0 sb))(he:¬pP sb pb n kd vb eb): Calls prog 103 #[dZ op a b c fb tb eb] w λe w'=>∃v,e=.returned v/\dy (pP sb pb n kd vb) w w'/\Laid w w' sb pb eb n nr (b+1) [cg] kd vb s v:=by
 have KR:=az hR;have HC:=az hc;have le:=gW a8;have lp:=hR.hs.p.p.lt;have ls:=bz hR.hs.b;have a7:=az hR.hs.lt;have aB:Hid (∀x,w.heap.size<=x->¬pP sb pb n kd vb x):=λx Y h=>by
  rcases h with h|h|h
  .omega
  .omega
  have:=a7 x h;omega
 clear hR hc;go_in;go_wp2_with fail
 generalize hW:(w.alloc (.cells #[.int .u8 op,.int .u8 a,.int .u8 b,.int .u8 c,P0 fb,P0 tb,P0 eb] 186)).alloc (.cells #[.int .i64 0,.int .i64 0] 149)=w1;have J:Hid (w.grownBy w1 none):=by rw[<-hW];exact au (ah _ _ _) _
 have Y:w1.heap[w.heap.size]? = some (lZ op a b c fb tb eb):=by rw[<-hW,ak _ _ _ (by simp)];exact bf w _
 have hr:w1.heap[w.heap.size+1]? = some (.cells #[.int .i64 0,.int .i64 0] 149 (0,0)):=by
  rw[<-hW];have:=bf (w.alloc (.cells #[.int .u8 op,.int .u8 a,.int .u8 b,.int .u8 c,P0 fb,P0 tb,P0 eb] 186)) (.cells #[.int .i64 0,.int .i64 0] 149);simpa using this
 clear hW;have HX:=az Y;have HR:=az hr;have lr:=bz hr;have aE:eb<w1.heap.size:=by omega
 clear Y hr;have Z:Hid (∀w':World,dy (λk=>pP sb pb n kd vb k\/k=w.heap.size+1) w1 w'->w'.cell? ⟨w.heap.size,0,none⟩=some (.int .u8 op)/\w'.cell? ⟨w.heap.size,1,none⟩=some (.int .u8 a)/\w'.cell? ⟨w.heap.size,2,none⟩=some (.int .u8 b)/\w'.cell? ⟨w.heap.size,3,none⟩=some (.int .u8 c)/\w'.cell? ⟨w.heap.size,4,none⟩=some (P0 fb)/\w'.cell? ⟨w.heap.size,5,none⟩=some (P0 tb)/\w'.cell? ⟨w.heap.size,6,none⟩=some (P0 eb)/\w'.cell? ⟨eb,27,none⟩=some (P0 sb)):=λw' hO=>by
  have aD:¬(pP sb pb n kd vb w.heap.size\/w.heap.size=w.heap.size+1):=λh=>h.elim (aB _ (bj _)) (λh=>by omega);obtain⟨x0,x1,x2,x3,x4,x5,x6⟩:=fk (hO.block HX aD);exact⟨x0,x1,x2,x3,x4,x5,x6,(hO.cell (o:=27) aE (λh=>h.elim he (λh=>by omega))).trans ((bh J (a:=⟨eb,27,none⟩) le).1.trans a8)⟩
 have aI:IntKind.i64.wrap (b:Int)=b:=by simp[IntKind.wrap,IntKind.bits,IntKind.signed];omega
 go_region_held3 (λw'=>w'.cell? ⟨w.heap.size,0,none⟩=some (.int .u8 op)/\w'.cell? ⟨w.heap.size,1,none⟩=some (.int .u8 a)/\w'.cell? ⟨w.heap.size,2,none⟩=some (.int .u8 b)/\w'.cell? ⟨w.heap.size,3,none⟩=some (.int .u8 c)/\w'.cell? ⟨w.heap.size,4,none⟩=some (P0 fb)/\w'.cell? ⟨w.heap.size,5,none⟩=some (P0 tb)/\w'.cell? ⟨w.heap.size,6,none⟩=some (P0 eb)/\w'.cell? ⟨eb,27,none⟩=some (P0 sb)) (first|exact Z _ (dk _ _)|exact Z _ (dU a0)|exact Z _ a4|exact a5) (first|(go_at_call 94;refine(HC w1.drew (bq J)).mono ?_;rintro e w2 ⟨rfl,H⟩;have a0:Hid (w1.grownBy w2 none):=⟨H.os,H.tape,H.output,H.size,H.block⟩;clear H)|(go_at_call 161;refine(xm Q eb sb pb n nr b cg kd vb s w2 (KR.kept (an J a0))).mono ?_;rintro e W ⟨v,rfl,a2,a3⟩;obtain⟨x,ob,rfl⟩:=a3.form;have a1:=(dU a0).trans a2 (λ_ h _=>h);have a4:Hid (dy (λk=>pP sb pb n kd vb k\/k=w.heap.size+1) w1 W):=a1.mono (λ_ h _=>ag h);have a9:=az a1;have aC:=az (a3.pre a0.size);have G:=a1.block (k:=w.heap.size+1) HR (aB _ (Nat.le_succ _));have r0:W.cell? ⟨w.heap.size+1,0,none⟩=some (.int .i64 0):=(by simp[World.cell?,G]);have r1:W.cell? ⟨w.heap.size+1,1,none⟩=some (.int .i64 0):=(by simp[World.cell?,G]);have r2:W.frozen? ⟨w.heap.size+1,0,none⟩=false:=(by simp[World.frozen?,G]);have r3:W.frozen? ⟨w.heap.size+1,1,none⟩=false:=(by simp[World.frozen?,G]);have a5:=az (Z ((W.setCell ⟨w.heap.size+1,0,none⟩ (.int .i64 x)).setCell ⟨w.heap.size+1,1,none⟩ (.int .i64 0)) (bm (bm a4 (ag (ab rfl)) _) (ag (ab rfl)) _));clear G a1 a3 a2))
 all_goals
  go_wp2_with fail
  refine da (v:=.tuple #[.agg #[.int .i64 x,.int .i64 0],.bool ob]) (by simp[results,results103,go_sem,r0,r1]) rfl ?_;refine⟨_,rfl,bm (bm ((dU J).trans a9 (λ_ h _=>h)) (ab (by simp)) _) (ab (by simp)) _,?_⟩;have a6:∀(i:B.Kd) (u:Vs) (M:Nat->List B.V),jm W sb pb eb n i u M->ox n kd vb i u w1.heap.size->∀x,Own n i u x->x≠w.heap.size+1:=λi u M hS hG x Y=>by
   rcases hG x Y with h|h
   .have:=a7 x h;omega
   omega
  have aA:∀(i:B.Kd) (u:Vs) (M:Nat->List B.V) (y z:Value),jm W sb pb eb n i u M->ox n kd vb i u w1.heap.size->jm ((W.setCell ⟨w.heap.size+1,0,none⟩ y).setCell ⟨w.heap.size+1,1,none⟩ z) sb pb eb n i u M:=λi u M y z hS hG=>
   hS.block ((af _ _ _ _ (by show sb≠w.heap.size+1;omega)).trans (af _ _ _ _ (by show sb≠w.heap.size+1;omega))) ((af _ _ _ _ (by show pb≠w.heap.size+1;omega)).trans (af _ _ _ _ (by show pb≠w.heap.size+1;omega))) (λk hk=>(af _ _ _ _ (a6 _ _ _ hS hG k hk)).trans (af _ _ _ _ (a6 _ _ _ hS hG k hk)))
  rcases aC with⟨k,vg,i,h1,h2,h3,aF,h4,h5,h6⟩|⟨h1,h2,i,h3,h4,h5⟩
  .exact ag ⟨k,vg,i,h1,h2,h3,aF,h4,aA _ _ _ _ _ h5 h6,λx Y=>(h6 x Y).imp id (λh=>by omega)⟩
  exact ab ⟨h1,h2,i,aA _ _ _ _ _ h3 h5,h4,λx Y=>(h5 x Y).imp id (λh=>by omega)⟩
theorem dQ.Ls{p:dz}{s:Pl}{g:eE}{w:World}(h:dQ p s g w):¬pP p.sb p.pb p.n s.kd (jn s g) p.eb:=λe=>by
 have:=(h.i 0 0 0 1 0 0 p.eb rfl e).1;omega
theorem GR{p:dz}{s:Pl}{g:eE}{w:World}(h:dQ p s g w)(hP:PW p)(o:Ok p s):BG w (qQ p s g) p.eb p.sb p.pb p.n (eh p s).length s.kd (jn s g) (B.mD (eh p s) s.M):=by
 refine⟨Kq h.q o.lt (by have:=o.ll;have:=o.lw.d;omega) (by have:=o.kl;have:=hP.n2;omega) (λu G=>by have:=(o.fw u G trivial).n2;omega) (λu G i hi=>(hP.rg _ ((o.fw u G trivial).f i hi).1).2),λk H=>⟨h.q.lt H,λe=>?_⟩,h.S,o.hl,hP.n1,hP.n2⟩;obtain⟨x,y,z,J,W⟩:=H;exact J (h.i x y z 1 0 0 k W (ag e)).1
theorem GM(eb tb:Nat)(E Tk:Nat->Value)(R:World->Prop)(w:World)(o:Full w eb 144 44 44 E)(u:Full w tb 160 7 7 Tk)(H:Calls prog 173 #[P0 eb,.int .i64 ((5:Nat):Int),P0 tb,.int .i64 0] ((w.setCell ⟨tb,2,none⟩ (.bool false)).setCell ⟨eb,42,none⟩ (.bool true)) λe w'=>e=.returned (.tuple #[])/\R w'): Calls prog 156 #[P0 eb,P0 tb] w λe w'=>e=.returned (.tuple #[])/\R w':=by
 obtain⟨y,a0⟩:=o.cells 42 (by omega);obtain⟨c2,z2⟩:=u.cells 2 (by omega);have Z:=az H;generalize i:E 42=Y at y;generalize G:Tk 2=y2 at c2;go_in;go_wp2_with fail
 refine Z.mono ?_;rintro e w2 ⟨rfl,J⟩;have HR:=az J;go_wp2_with fail
 go_end0;exact⟨rfl,HR⟩
def Pl.FR(s:Pl):Pl:={ s with sp:=true }
theorem GL{p:dz}{s:Pl}{g:eE}{w:World}{t:Nat}(h:dQ p s g w)(ht:fe s t)(y:s.ev.length<=100000): Calls prog 156 #[P0 p.eb,P0 (g.tb t)] w λe w'=>e=.returned (.tuple #[])/\∃r,Tr p s g w (s.kj t) (g.at 9 0 r) w':=by
 have u:Tr p s g w (s.dv t (s.T t).stop) g (w.setCell ⟨g.tb t,2,none⟩ (.bool false)):=by
  refine h.flag ht rfl rfl ?_ (bm (S:=λk=>k=g.tb t) (dk _ _) (ag rfl) _);refine((h.tk ht).ep 2 _).congr (λj H=>?_);have i:∀a,sl (s.dv t (s.T t).stop) g a t=sl s g a t:=λa=>by
   unfold sl;rw[jN (s:=s) (s':=s.dv t (s.T t).stop) rfl rfl rfl rfl rfl (by rw[df];rfl) rfl]
  have J:j=0\/j=1\/j=2\/j=3\/j=4\/j=5\/j=6:=by omega
  rcases J with rfl|rfl|rfl|rfl|rfl|rfl|rfl
  .rfl
  .rw[eG _ _ _ _ (by decide)];exact(i 12).symm
  .rw[gf];show _=Value.bool _;rw[df];rfl
  .rw[eG _ _ _ _ (by decide)];show _=x8 p g _;rw[df];rfl
  .rw[eG _ _ _ _ (by decide)];show _=Ba g t _;rw[df];rfl
  .rw[eG _ _ _ _ (by decide)];show _=Value.int .i64 _;rw[df];rfl
  rw[eG _ _ _ _ (by decide)];exact(i 5).symm
 have G:Tr p s g w (s.dv t (s.T t).stop).FR g ((w.setCell ⟨g.tb t,2,none⟩ (.bool false)).setCell ⟨p.eb,42,none⟩ (.bool true)):=by
  refine u.trans (u.r.xR (s':=(s.dv t (s.T t).stop).FR) rfl rfl rfl rfl rfl (λa b=>⟨rfl,rfl⟩) ?_ (bm (S:=λk=>k=p.eb) (dk _ _) (ag rfl) _));refine(u.r.E.ep 42 _).congr (λj H=>?_);by_cases e:j=42
  .subst e;rw[gf];rfl
  rw[eG _ _ _ _ e];unfold iJ;by_cases o:j<28
  .rw[aj o,aj o]
  rw[aa o,aa o,aa e,aa e];rfl
 refine GM p.eb (g.tb t) (iJ p s g) (gE p s g t) (λw'=>∃r,Tr p s g w (s.kj t) (g.at 9 0 r) w') w h.E (h.tk ht) ?_;refine(B4 (t:=t) 5 0 G.r ht y).mono ?_;rintro e w' ⟨rfl,r,W⟩;exact⟨rfl,r,G.trans W⟩
def xZ(p:dz)(s:Pl)(g:eE)(w:World)(ty:Nat)(l:List B.V)(x:Int)(o:Bool)(w2:World):Prop:=
 (o=true/\∃(c:Nat) (kd1:B.Kd) (g':eE),x=(c:Int)/\1<=c/\c<=p.n/\kd1.on c=false/\B.jX kd1 p.n (eh p s) s.M/\Gj (eh p s).length p.n (B.mD (eh p s) s.M) s.kd kd1/\Tr p s g w (s.na kd1 c ty l) g' w2/\g'.tb=g.tb/\g'.fb=g.fb) \/
 (o=false/\(∀c,1<=c->c<=p.n->B.lS (eh p s) s.M c)/\∃(kd1:B.Kd) (g':eE),B.jX kd1 p.n (eh p s) s.M/\Tr p s g w (s.tQ kd1) g' w2/\g'.tb=g.tb)
theorem F2{p:dz}{s:Pl}{g:eE}{w w':World}{ty:Nat}{l:List B.V}{v:Value}(h:dQ p s g w)(i:dy (pP p.sb p.pb p.n s.kd (jn s g)) w w')(W:Laid w w' p.sb p.pb p.eb p.n (eh p s).length ty l s.kd (jn s g) (B.mD (eh p s) s.M) v): ∃(x:Int) (o:Bool),v=.tuple #[.agg #[.int .i64 x,.int .i64 0],.bool o]/\xZ p s g w ty l x o w':=by
 rcases W with⟨k,Z,e,h1,H,G,u,rfl,y,J⟩|⟨rfl,H,e,G,Y,y⟩
 .refine⟨_,_,rfl,ag ⟨rfl,k+1,e,_,by omega,by omega,by omega,H,G,u,h.Kg (s':=s.na e (k+1) ty l) (vb:=(jn s g).put (k+1) Z ty) rfl rfl rfl rfl rfl rfl rfl rfl rfl rfl rfl y i J,rfl,rfl⟩⟩
 exact⟨_,_,rfl,ab ⟨rfl,H,e,_,Y,h.Kg (s':=s.tQ e) (vb:=jn s g) rfl rfl rfl rfl rfl rfl rfl rfl rfl rfl rfl G i y,rfl⟩⟩
theorem zV{p:dz}{s:Pl}{g:eE}{w:World}{t a ty:Nat}{l:List B.V}(op b c:Nat)(hR:Rn p s t)(ha:a<p.rg (bw s t).f)(Y:s.ev.length<=100000): (∀x w2 u,xZ p s g w ty l x true w2->w2.grownBy u none->Calls prog 149 #[m8 p s g t (op,a,b,c),.agg #[.int .i64 x,.int .i64 0]] u λe w'=>e=.returned (.tuple #[])/\∃s' g',kL p s t a ty l s'/\Tr p s g w s' g' w') /\ (∀x w2 u,xZ p s g w ty l x false w2->w2.grownBy u none->Calls prog 156 #[P0 p.eb,P0 (g.tb t)] u λe w'=>e=.returned (.tuple #[])/\∃s' g',kL p s t a ty l s'/\Tr p s g w s' g' w'):=by
 constructor
 .intro x w2 u hS Z;rcases hS with⟨_,q,o,g',rfl,H,W,h3,J,h5,h6,h7,h8⟩|⟨h0,_⟩
  .have G:=h6.kept Z;have:=wP (s:=s.na o q ty l) (g:=g') (t:=t) (i:=cr s t) (a:=a) op b c (g.tb t) p.eb (q,0) G.r hR.ht hR.hi ha;rw[h8]at this;refine this.mono ?_;rintro e w' ⟨rfl,y⟩;exact⟨rfl,_,g',ag ⟨q,o,H,W,h3,J,h5,rfl⟩,G.trans y⟩
  cases h0
 intro x w2 u hS Z;rcases hS with⟨h0,_⟩|⟨_,H,o,g',W,h3,J⟩
 .cases h0
 have G:=h3.kept Z;have:=GL (s:=s.tQ o) (g:=g') (t:=t) G.r hR.ht Y;rw[J]at this;refine this.mono ?_;rintro e w' ⟨rfl,r,y⟩;exact⟨rfl,_,_,ab ⟨H,o,W,rfl⟩,G.trans y⟩
theorem i9{p:dz}{s:Pl}{g:eE}{w:World}{t op a b c:Nat}(h:dQ p s g w)(hP:PW p)(hR:Rn p s t)(ha:a<p.rg (bw s t).f)(hb:b<=8)(a0:s.ev.length<=100000): Calls prog 163 #[m8 p s g t (op,a,b,c),P0 (p.ac+15)] w λe w'=>e=.returned (.int .i64 0)/\∃s' g',kL p s t a 0 (List.replicate b (0,0)) s'/\Tr p s g w s' g' w':=by
 have H:=hP.box h.fix (j:=15) (by omega) rfl;refine uJ op a b c _ _ _ (p.ac+14) (p.ac+15) (λw'=>∃s' g',kL p s t a 0 (List.replicate b (0,0)) s'/\Tr p s g w s' g' w') w H.1 (λw1 J=>?_);have y:=h.kept J;obtain⟨E1,E2⟩:=zV (w:=w1) (g:=g) (ty:=0) (l:=List.replicate b (0,0)) op b c hR ha a0;have a1:=A6 op a b c (g.fb t (cr s t)) (g.tb t) p.eb (p.ac+14) (xZ p s g w1 0 (List.replicate b (0,0))) (λw'=>∃s' g',kL p s t a 0 (List.replicate b (0,0)) s'/\Tr p s g w1 s' g' w') w1 (hP.box y.fix (j:=14) (by omega) rfl).1 (λw2 G a2=>?_) E1 E2
 .refine a1.mono ?_;rintro e w' ⟨rfl,s',g',k1,k2⟩;exact⟨rfl,s',g',k1,k2.ahead J⟩
 have i:=y.kept G;refine(xp (qQ p s g) op a b c _ _ p.eb p.sb p.pb p.n (eh p s).length s.kd (jn s g) (B.mD (eh p s) s.M) w2 (GR i hP hR.ok) hb (i.Gd hP) i.Ls).mono ?_;rintro e w3 ⟨v,rfl,W,hL⟩;obtain⟨x,o,rfl,hS⟩:=F2 i W hL;refine⟨x,o,rfl,?_,W.block a2 (λhm=>?_)⟩
 .rcases hS with⟨e0,q,u,g',e1,H,Z,h3,Y,h5,h6,h7⟩|⟨e0,H,u,g',Z,h3,Y⟩
  .exact ag ⟨e0,q,u,g',e1,H,Z,h3,Y,h5,h6.ahead G,h7⟩
  exact ab ⟨e0,H,u,g',Z,h3.ahead G,Y⟩
 have:=y.lt ⟨1,0,0,hm⟩;omega
theorem i12{p:dz}{s:Pl}{g:eE}{w:World}{t op a b c:Nat}(h:dQ p s g w)(hP:PW p)(hR:Rn p s t)(ha:a<p.rg (bw s t).f)(hb:b<256)(hc:c<p.rg (bw s t).f)(a0:s.ev.length<=100000): Calls prog 163 #[m8 p s g t (op,a,b,c),P0 (p.ac+17)] w λe w'=>e=.returned (.int .i64 0)/\∃s' g',kL p s t a (b+1) [(bw s t).R c] s'/\Tr p s g w s' g' w':=by
 have H:=hP.box h.fix (j:=17) (by omega) rfl;refine uJ op a b c _ _ _ (p.ac+16) (p.ac+17) (λw'=>∃s' g',kL p s t a (b+1) [(bw s t).R c] s'/\Tr p s g w s' g' w') w H.1 (λw1 J=>?_);have y:=h.kept J;obtain⟨E1,E2⟩:=zV (w:=w1) (g:=g) (ty:=b+1) (l:=[(bw s t).R c]) op b c hR ha a0;have a1:=A5 op a b c (g.fb t (cr s t)) (g.tb t) p.eb (p.ac+16) (xZ p s g w1 (b+1) [(bw s t).R c]) (λw'=>∃s' g',kL p s t a (b+1) [(bw s t).R c] s'/\Tr p s g w1 s' g' w') w1 (hP.box y.fix (j:=16) (by omega) rfl).1 (λw2 G a2=>?_) E1 E2
 .refine a1.mono ?_;rintro e w' ⟨rfl,s',g',k1,k2⟩;exact⟨rfl,s',g',k1,k2.ahead J⟩
 have i:=y.kept G;refine(qU (qQ p s g) op a b c _ _ p.eb p.sb p.pb p.n (eh p s).length ((bw s t).R c) s.kd (jn s g) (B.mD (eh p s) s.M) w2 (GR i hP hR.ok) hb (In.c i hR.gm op a b c _ _ hc) (i.Gd hP) i.Ls).mono ?_;rintro e w3 ⟨v,rfl,W,hL⟩;obtain⟨x,o,rfl,hS⟩:=F2 i W hL;refine⟨x,o,rfl,?_,W.block a2 (λhm=>?_)⟩
 .rcases hS with⟨e0,q,u,g',e1,H,Z,h3,Y,h5,h6,h7⟩|⟨e0,H,u,g',Z,h3,Y⟩
  .exact ag ⟨e0,q,u,g',e1,H,Z,h3,Y,h5,h6.ahead G,h7⟩
  exact ab ⟨e0,H,u,g',Z,h3.ahead G,Y⟩
 have:=y.lt ⟨1,0,0,hm⟩;omega
theorem i10{p:dz}{s:Pl}{g:eE}{w:World}{t op a b c:Nat}(h:dQ p s g w)(hP:PW p)(hR:Rn p s t)(u:a<p.rg (bw s t).f)(y:b<p.rg (bw s t).f)(o:c<p.rg (bw s t).f): Calls prog 101 #[m8 p s g t (op,a,b,c)] w λe w'=>∃(why:Int) (s':Pl),e=.returned (.int .i64 why)/\jD p s t (10,a,b,c) why s'/\∃g',Tr p s g w s' g' w':=by
 refine(BF op a b c _ _ p.eb _ _ _ _ _ p.sb p.pb p.n _ s.kd (jn s g) _ s.M w (In.fr h hR.gm) h.S (λi hi=>hR.ok.Ay (hR.oq hi)) hP.n2 u y o (h.Gd hP) h.E.lt (h.E.ne (h.rg hR.ht hR.hi) (by decide))).mono ?_;rintro e w' (⟨k0,rfl,k1,k2⟩|⟨k0,rfl,k1⟩)
 .exact⟨0,_,rfl,ag ⟨k0,rfl,rfl⟩,g,In.set h hR.gm k1 k2⟩
 exact⟨_,s,rfl,ab ⟨k0,rfl,rfl⟩,g,(Tr.refl h).kept k1⟩
theorem i11{p:dz}{s:Pl}{g:eE}{w:World}{t op a b c:Nat}(h:dQ p s g w)(hP:PW p)(hR:Rn p s t)(H:a<p.rg (bw s t).f)(J:b<p.rg (bw s t).f)(y:c<p.rg (bw s t).f): Calls prog 102 #[m8 p s g t (op,a,b,c)] w λe w'=>∃(why:Int) (s':Pl),e=.returned (.int .i64 why)/\jD p s t (11,a,b,c) why s'/\∃g',Tr p s g w s' g' w':=by
 refine(BE op a b c _ _ p.eb _ _ _ _ _ p.sb p.pb p.n (eh p s).length _ s.kd (jn s g) (B.mD (eh p s) s.M) _ w (In.fr h hR.gm) h.S hR.ok.hl (λi hi=>hR.ok.Ay (hR.oq hi)) (λi hi Y=>B.oH.vi (hR.oq hi) Y) hP.n2 H J y (h.Gd hP) h.E.lt (λo=>h.Ls (ab (ab o)))).mono ?_;rintro e w' (⟨k0,rfl,u,k1,k2,G,W⟩|⟨k0,rfl,k1⟩)
 .exact⟨0,s.sK ((bw s t).R a).1 ((bw s t).R b).2.toNat ((bw s t).R c),rfl,ag ⟨k0,rfl,rfl⟩,_,h.Kg (s':=s.sK ((bw s t).R a).1 ((bw s t).R b).2.toNat ((bw s t).R c)) (vb:=u) rfl rfl rfl rfl rfl rfl rfl rfl rfl rfl (by rw[W];rfl) k1 (k2.mono (λk o _=>ab (ab o))) G⟩
 exact⟨_,s,rfl,ab ⟨k0,rfl,rfl⟩,g,(Tr.refl h).kept k1⟩
theorem IE{p:dz}{s:Pl}{g:eE}{w:World}(h:dQ p s g w)(hP:PW p)(G:Ok p s)(o:p.wk<=50): Calls prog 69 #[P0 p.sb,.int .i64 p.wk] w λe w'=>e=.returned (.tuple #[])/\∃g',Tr p s g w (s.im p) g' w':=by
 refine(BP (qQ p s g) p.eb p.sb p.pb p.n (eh p s).length p.wk s.kd (jn s g) (B.mD (eh p s) s.M) w (GR h hP G) o).mono ?_;rintro e w' ⟨rfl,i,k1,k2,y,H,u⟩;exact⟨rfl,_,h.Kg (s':=s.im p) (vb:=i) rfl rfl rfl rfl rfl rfl rfl rfl rfl rfl (by rw[u];rfl) k1 y H⟩
theorem IP{p:dz}{s:Pl}{g:eE}{w:World}{t:Nat}(h:dQ p s g w)(hR:Rn p s t): Calls prog 164 #[P0 (g.tb t)] w λe w'=>e=.returned (P0 (g.fb t (cr s t)))/\w.grownBy w' none:=by
 have J:=zm hR.gm;have u:=h.row (x:=12) (y:=t) (by unfold eQ;omega) (gG (by omega) hR.ht);have i:eH s 12 t=cr s t+1:=J;obtain⟨o,cap,he⟩:=dM u (by rw[i];omega);rw[he,i]at u;have G:w.ownsRow 0 184 1 (.slice (some ⟨o,0,none⟩) (cr s t+1) cap) (cr s t+1) (((List.range (s.T t).fr.length).map (g.fb t)).map P0):=u;have c1:w.cell? ⟨g.tb t,1,none⟩=some (.slice (some ⟨o,0,none⟩) (cr s t+1) cap):=by
  rw[(h.tk hR.ht).cell 1 (by omega)];show some (sl s g 12 t)=_;rw[he,i]
 have H:w.cell? ⟨o,cr s t,none⟩=some (P0 (g.fb t (cr s t))):=(iG G).2.2.2.2.2 (cr s t) _ (by
  rw[eo,eo,fW hR.hi];rfl)
 exact IQ (g.tb t) o cap (cr s t) (g.fb t (cr s t)) w c1 H (by have:=hR.fw.n2;omega)
theorem Im{p:dz}{s:Pl}{g:eE}{w:World}{t:Nat}(h:dQ p s g w)(hR:Rn p s t): Calls prog 185 #[P0 (g.fb t (cr s t))] w λe w'=>e=.returned (.bool (decide ((bw s t).nx=p.len (bw s t).f)))/\w.grownBy w' none:=
 BA _ _ _ _ _ _ _ w (In.fr h hR.gm).1
theorem IS{p:dz}{s:Pl}{g:eE}{w:World}{t:Nat}(h:dQ p s g w)(hP:PW p)(hR:Rn p s t)(hn:(bw s t).nx≠p.len (bw s t).f){op a b c:Nat}(hi:p.ins (bw s t).f (bw s t).nx=(op,a,b,c)): Calls prog 186 #[P0 (g.fb t (cr s t))] w λe w'=>e=.returned (xD op a b c)/\Tr p s g w (s.fD t) g w':=by
 have o:=In.fr h hR.gm;have i:=hR.ff;obtain⟨G,H⟩:=hP.cd w h.fix (bw s t).f i.1;obtain⟨k0,k1,k2,u⟩:=H (bw s t).nx (by omega);rw[hi]at k0 k1 k2 u;refine(Ca _ _ _ _ _ _ op a b c _ w o.1 (by omega) (hP.le _ i.1) G k0 k1 k2 u).mono ?_;rintro e w' ⟨rfl,y,J⟩;exact⟨rfl,In.next h hR.gm y ⟨J,o.2.1.block (y.block _ o.2.1.lt (by intro e;injection e with e;exact o.2.2 e.symm)),o.2.2⟩⟩
theorem Bk{p:dz}{s:Pl}{g:eE}{w:World}{t:Nat}(v:B.V)(h:dQ p s g w)(hP:PW p)(hR:Rn p s t)(i:s.ev.length<=100000): Calls prog 107 #[P0 (g.tb t),vA v] w λe w'=>e=.returned (.tuple #[])/\∃g',Tr p s g w (s.back t v) g' w':=by
 have hn:=hR.fw.n2;have o:=hR.ok.kl;have u:=hP.n2;refine uC v h hR.ok.lw hR.ok.ww hR.ht hR.lf hR.wh hR.fw.n1 (by omega) hR.lv hR.ok.nd hR.ok.lt hR.ok.ol (by omega) i (λe=>?_);have:=hR.fw.b (cr s t-1) (by have:=hR.hi;omega);rw[show cr s t-1+1=cr s t by omega]at this;exact this
theorem JG{p:dz}{s:Pl}{g:eE}{w:World}{t why:Nat}(hw:why<=8)(h:dQ p s g w)(hP:PW p)(hR:Rn p s t)(i:s.ev.length<=100000): Calls prog 187 #[P0 p.eb,P0 (g.tb t),.int .i64 why] w λe w'=>e=.returned (.tuple #[])/\∃g',Tr p s g w (s.leave t (0,-(why:Int)) 3 why) g' w':=by
 have o:=hR.ok.kl;have u:=hP.n2;exact JF hw h hR.ok.lw hR.ok.ww hR.ht hR.lv hR.ok.nd hR.ok.lt hR.ok.ol (by omega) i
def Ip(p:dz)(s:Pl)(g:eE)(w:World)(t n:Nat)(wr:World):Prop:=
 ∃s1 g1 k,Tr p s g w s1 g1 wr/\Rn p s1 t/\s1.ev=s.ev/\(s1.T t).fr.length<=k/\s1.ends p t k=s.ends p t 21/\(s1.T t).fr.length=n
theorem Bs{p:dz}{s:Pl}{t k:Nat}(i:0<k)(h:(bw s t).nx≠p.len (bw s t).f):s.ends p t k=s:=by
 cases k with
 | zero=>omega
 | succ k=>unfold Pl.ends;rw[aa (λe=>h e.2)]
theorem uH{p:dz}{s:Pl}{t k:Nat}(e:(s.T t).run=true)(h:(bw s t).nx=p.len (bw s t).f):s.ends p t (k+1)=(s.back t (0,0)).ends p t k:=by
 show(if(s.T t).run=true/\(bw s t).nx=p.len (bw s t).f then Pl.ends p t k (s.back t (0,0)) else s)=_;rw[aj ⟨e,h⟩]
theorem Br{p:dz}{s:Pl}{t:Nat}(k:Nat)(i:(s.T t).run=false):s.ends p t k=s:=by
 cases k with
 | zero=>rfl
 | succ k=>unfold Pl.ends;rw[aa (λe=>by rw[i]at e;cases e.1)]
theorem dQ.run{p:dz}{s:Pl}{g:eE}{w:World}{t:Nat}(h:dQ p s g w)(ht:fe s t){b:Bool}(e:(s.T t).run=b):w.cell? ⟨g.tb t,2,none⟩=some (.bool b):=by
 rw[(h.tk ht).cell 2 (by omega)];show some (Value.bool (s.T t).run)=_;rw[e]
theorem AF(s:Pl)(t:Nat):cr (s.fD t) t=cr s t:=by
 unfold cr;rw[show((s.fD t).T t).fr.length=(s.T t).fr.length from(gj s t (cr s t) t { bw s t with nx:=(bw s t).nx+1 }).2.2.2.2]
def J9(fn:Nat)(l:List Value):Prop:=
 ((fn=101\/fn=102\/fn=104\/fn=108)/\l=[])\/(∃b,(fn=163\/fn=151)/\l=[P0 b])\/∃b c,fn=167/\l=[P0 b,P0 c]
theorem oF(b:Nat):J9 163 [P0 b]:=ab (ag ⟨b,ag rfl,rfl⟩)
theorem Ag(b:Nat):J9 151 [P0 b]:=ab (ag ⟨b,ab rfl,rfl⟩)
theorem JD(b c:Nat):J9 167 [P0 b,P0 c]:=ab (ab ⟨b,c,rfl,rfl⟩)
theorem Fl{n:Nat}(h:n=101\/n=102\/n=104\/n=108):J9 n []:=ag ⟨h,rfl⟩
theorem mN{fn:Nat}{l:List Value}(aT:J9 fn l){p:dz}{s:Pl}{g:eE}{w:World}{t op a b c:Nat}(h:dQ p s g w)(hP:PW p)(hR:Rn p s t)(aP:s.ev.length<=1000)(bH:op<23)(hi:((s.ends p t 21).T t).run=true->p.ins (bw (s.ends p t 21) t).f (bw (s.ends p t 21) t).nx=(op,a,b,c)/\p.E0 (4+op)=Fv fn l.toArray)(hc:((s.ends p t 21).T t).run=true->∀g1 w1,dQ p ((s.ends p t 21).fD t) g1 w1->Rn p ((s.ends p t 21).fD t) t->Calls prog fn (m8 p ((s.ends p t 21).fD t) g1 t (op,a,b,c) :: l).toArray w1 λe w'=>∃(why:Int) (s3:Pl),e=.returned (.int .i64 why)/\jD p ((s.ends p t 21).fD t) t (op,a,b,c) why s3/\∃g',Tr p ((s.ends p t 21).fD t) g1 w1 s3 g' w'): Calls prog 134 #[P0 p.eb,P0 (g.tb t)] w λe w'=>e=.returned (.tuple #[])/\∃s' g',iC p t s s'/\Tr p s g w s' g' w':=by
 have HF:=az aT;have HC:=az hc;have HI:=az hi;have HE:=az aP;have HP:=az hP;have aF:=az hR.ht;have b5:Hid (Ip p s g w t (s.T t).fr.length w):=⟨s,g,21,Tr.refl h,hR,rfl,dH hR.fw.n2 (by omega),rfl,rfl⟩;clear aT hc hi aP hP hR h;go_in;go_wp2_with fail
 go_loopg [] ((s.T t).fr.length) (λn wr=>Hid (Ip p s g w t n wr))
 case atStart=>exact b5
 case round=>
  obtain⟨s1,g1,k,hT,aE,aN,aZ,hS,aQ⟩:=hrel.out;have aL:=hT.t t aF.out;have o:=IP hT.r aE;rw[aL]at o;have u:=az o;have KT:=az hT;have i:=az aE;have KK:=az (ay aN (ay aZ (ay hS aQ)));have aC:=az aL;clear o hT aE aN aZ hS aQ aL b5;go_wp2_with fail
  refine u.out.mono ?_;rintro e w1 ⟨rfl,aS⟩;have aY:=az aS;clear aS u;go_wp2_with fail
  refine(Im (KT.out.r.kept aY.out) i.out).mono ?_;rintro e w2 ⟨rfl,aO⟩;have aB:=az (an aY.out aO);clear aO;by_cases hd:(bw s1 t).nx=p.len (bw s1 t).f
  .have a0:decide ((bw s1 t).nx=p.len (bw s1 t).f)=true:=by simpa using hd
   have HD:=az hd;simp only[a0];clear hd a0;go_wp2_with fail
   refine(fH 0 _).mono ?_;rintro e w3 ⟨rfl,rfl⟩;go_wp2_with fail
   have a3:=az (au aB.out (.cells #[.int .i64 0,.int .i64 0] 149));have a6:=Bk (0,0) (KT.out.r.kept a3.out) HP.out i.out (by rw[KK.out.1];have:=HE.out;omega);rw[aC.out]at a6;refine a6.mono ?_;rintro e w4 ⟨rfl,g4,J⟩;have y:=(KT.out.kept a3.out).trans J;have G:=y.t t aF.out;have hB:=i.out.ok.back i.out.lv i.out.wh (dN.num (s:=s1) 0);have W:=mA i.out.ok.lw i.out.ht (0,0);have a2:=lG s1 t (0,0);have a4:fe (s1.back t (0,0)) t:=by
    by_cases e0:cr s1 t=0
    .exact(eg (a2.1 e0).2.2).2 i.out.ht
    exact(eg (a2.2 e0).2.2.1).2 i.out.ht
   by_cases e0:cr s1 t=0
   .have c2:=y.r.run a4 (W.1 e0);rw[G]at c2;have aG:=az y;have Y:s.ends p t 21=s1.back t (0,0):=by
     obtain⟨_,q2,q3,_⟩:=KK.out;obtain⟨k',rfl⟩:∃k',k=k'+1:=⟨k-1,by have:=i.out.hi;omega⟩;rw[uH i.out.run HD.out,Br k' (W.1 e0)]at q3;exact q3.symm
    have a1:=az (ay Y (W.1 e0));clear a6 J y G hB W a2 a4 e0 Y;go_wp2_with fail
    refine da (results_none rfl _ _ _) rfl ?_;refine⟨rfl,s1.back t (0,0),g4,?_,?_⟩
    .unfold iC;rw[a1.out.1,aa (by rw[a1.out.2];decide)]
    first|exact aG.out|exact aG.out.kept (bq (ax _ _))|exact aG.out.kept (db (ax _ _) _)
   obtain⟨r1,r2⟩:=W.2 e0;obtain⟨b1,b2,b3,b4⟩:=a2.2 e0;have c2:=y.r.run a4 (r1.trans i.out.run);rw[G]at c2;have aW:∀w5,w4.grownBy w5 none->Ip p s g w t ((s1.T t).fr.length-1) w5:=λw5 bJ=>by
    obtain⟨q1,q2,q3,q4⟩:=KK.out;obtain⟨k',rfl⟩:∃k',k=k'+1:=⟨k-1,by have:=i.out.hi;omega⟩;rw[uH i.out.run HD.out]at q3;exact⟨s1.back t (0,0),g4,k',y.kept bJ,⟨hB,by rw[b1];exact i.out.lv,r1.trans i.out.run⟩,b2.trans q1,by rw[r2];omega,q3,r2⟩
   have aI:=az aW;clear a6 J y G hB W a2 a4 e0 r1 r2 b1 b2 b3 b4 aW;go_wp2_with fail
   go_roundg ((s1.T t).fr.length-1)
   case measure=>
    have q4:=KK.out.2.2.2;have q5:=i.out.hi;omega
   case rel=>first|exact aI.out _ (ax _ _)|exact aI.out _ (bq (ax _ _))|exact aI.out _ (db (ax _ _) _)
  have a0:decide ((bw s1 t).nx=p.len (bw s1 t).f)=false:=by simpa using hd
  have Y:s.ends p t 21=s1:=by
   obtain⟨_,q2,q3,_⟩:=KK.out;rw[<-q3];exact Bs (by have:=i.out.hi;omega) hd
  rw[Y]at HC HI;have aX:=az (HC.out i.out.run);obtain⟨aR,aU⟩:=HI.out i.out.run;have aD:=az aR;have bE:=az aU;have HD:=az hd;have a1:=az Y;have o:=IP (KT.out.r.kept aB.out) i.out;rw[aC.out]at o;have u:=az o;simp only[a0];clear hd a0 Y HC HI aR aU o;go_wp2_with fail
  refine u.out.mono ?_;rintro e w3 ⟨rfl,aM⟩;have a3:=az (an aB.out aM);clear aM u;go_wp2_with fail
  refine(IS (KT.out.r.kept a3.out) HP.out i.out HD.out aD.out).mono ?_;rintro e w4 ⟨rfl,J⟩;have b8:=az ((KT.out.kept a3.out).trans J);clear J;have aA:g1.fb t (cr (s1.fD t) t)=g1.fb t (cr s1 t):=by rw[AF]
  generalize bD:g1.fb t (cr s1 t)=fb at *;have bK:=az aA;clear aA bD;go_wp2_with fail
  have HX:=az (jf w4 op a b c fb (g.tb t) p.eb);have bC:=az (ah w4 (.cells #[.int .u8 (op:Int),.int .u8 (a:Int),.int .u8 (b:Int),.int .u8 (c:Int),P0 fb,P0 (g.tb t),P0 p.eb] 186) none);have bF:(w4.alloc (.cells #[.int .u8 (op:Int),.int .u8 (a:Int),.int .u8 (b:Int),.int .u8 (c:Int),P0 fb,P0 (g.tb t),P0 p.eb] 186)).heap.size=w4.heap.size+1:=by simp
  generalize hW:w4.alloc (.cells #[.int .u8 (op:Int),.int .u8 (a:Int),.int .u8 (b:Int),.int .u8 (c:Int),P0 fb,P0 (g.tb t),P0 p.eb] 186)=w5 at *;clear hW;obtain⟨x0,x1,x2,x3,x4,x5,x6⟩:=fk HX.out;have a5:=az (b8.out.kept bC.out);have e5:w5.cell? ⟨p.eb,4+op,none⟩=some (Fv fn l.toArray):=by
   rw[a5.out.r.E.cell (4+op) (by omega)];unfold iJ;rw[aj (by omega),bE.out]
  have bM:(op:Int)<23:=by omega
  have H:=aX.out g1 w5.drew (a5.out.kept (bq (ax _ _))).r (mM i.out HD.out).1;have a9:m8 p (s1.fD t) g1 t (op,a,b,c)=dZ op a b c fb (g.tb t) p.eb:=by
   show dZ op a b c (g1.fb t (cr (s1.fD t) t)) (g1.tb t) p.eb=_;rw[bK.out,aC.out]
  rw[a9]at H;have aV:=az H;have bG:=HP;clear H a9 aX;rcases HF.out with⟨rfl|rfl|rfl|rfl,rfl⟩|⟨b1,rfl|rfl,rfl⟩|⟨b1,b2,rfl,rfl⟩
  all_goals
   clear HF;go_region_with ((first|go_at_call 101|go_at_call 102|go_at_call 104|go_at_call 108|go_at_call 163|go_at_call 151|go_at_call 167);refine aV.out.mono ?_;rintro e w6 ⟨why,s3,rfl,a8,g6,b0⟩;have aH:=az a8;have bA:=az b0;clear a8 b0)
   all_goals
    have a7:=az ((a5.out.kept (bq (ax _ _))).trans bA.out);clear aV e5 x0 x1 x2 x3 x4 x5 x6 HX bF;by_cases Z:why=0
    .subst Z;have aK:Hid (iC p t s s3):=by
      show iC p t s s3;unfold iC;rw[a1.out,aj i.out.run];exact⟨0,s3,by rw[aD.out];exact aH.out,by rw[aj rfl]⟩
     go_wp2_with fail
     go_end0;exact⟨rfl,s3,g6,aK.out,a7.out⟩
    obtain⟨v1,v2,v3⟩:=nP (show((op,a,b,c):yi).1<23 from bH) aH.out;obtain⟨n8,bB⟩:∃n8:Nat,why=(n8:Int):=⟨why.toNat,by omega⟩;have b9:=v3 Z;subst b9;subst bB;have aK:Hid (iC p t s ((s1.fD t).leave t (0,-(n8:Int)) 3 n8)):=by
     show iC p t s _;unfold iC;rw[a1.out,aj i.out.run];exact⟨n8,s1.fD t,by rw[aD.out];exact aH.out,by rw[aa Z]⟩
    have aJ:=JG (why:=n8) (by omega) a7.out.r bG.out (mM i.out HD.out).1 (by show s1.ev.length<=_;rw[KK.out.1];have:=HE.out;omega);rw[show g6.tb t=g.tb t from a7.out.t t aF.out]at aJ;have bI:=az aJ;have bQ:=Z;clear aJ v1 v2 v3 Z;go_wp2_with fail
    refine bI.out.mono ?_;rintro e w7 ⟨rfl,g7,b6⟩;have bL:=az (a7.out.trans b6);clear b6;go_wp2_with fail
    go_end0;exact⟨rfl,_,g7,aK.out,bL.out⟩
end F
end Go.Proofs.YtnjiinbhbjpfkaaGreatDoor
