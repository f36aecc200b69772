import Derived.Test.YtnjiinbhbjpfkaaGreatDoorKF
import Derived.Test.YtnjiinbhbjpfkaaGreatDoorKJ
set_option maxRecDepth 100000
set_option maxHeartbeats 0
set_option linter.all false
namespace Go.Proofs.YtnjiinbhbjpfkaaGreatDoor
open Go.RowKit Go.Proofs.Tryz
section
theorem GC{u H:Nat}(hF:(u=98/\H=112)\/(u=86/\H=113)\/(u=98/\H=114)\/(u=98/\H=115)\/(u=86/\H=116))(op a b c fb tb eb v1 v2:Nat)(y:B.V)(R:Int->World->Prop)(w:World)(c1:w.cell? ⟨v1,0,none⟩=some (Fv u #[]))(c2:w.cell? ⟨v2,0,none⟩=some (Fv H #[]))(H1:∀w1,w.grownBy w1 none->Calls prog u #[dZ op a b c fb tb eb] w1 λe w'=>e=.returned (vA y)/\w1.grownBy w' none)(H2:y.1=0->∀w1,w.grownBy w1 none->Calls prog H #[dZ op a b c fb tb eb,.int .i64 y.2] w1 λe w'=>∃why:Int,e=.returned (.int .i64 why)/\R why w')(H3:y.1≠0->∀w1,w.grownBy w1 none->R 1 w1): Calls prog 167 #[dZ op a b c fb tb eb,P0 v1,P0 v2] w λe w'=>∃why:Int,e=.returned (.int .i64 why)/\R why w':=by
 rcases hF with⟨rfl,rfl⟩|⟨rfl,rfl⟩|⟨rfl,rfl⟩|⟨rfl,rfl⟩|⟨rfl,rfl⟩
 all_goals
  have a1:=az H1;have a2:=az H2;have a3:=az H3;have a8:=gW c1;have Y:=gW c2;clear H1 H2 H3;go_in;go_wp2_with fail
  have a6:=az (jf w op a b c fb tb eb);have a0:=az (ah w (.cells #[.int .u8 (op:Int),.int .u8 (a:Int),.int .u8 (b:Int),.int .u8 (c:Int),P0 fb,P0 tb,P0 eb] 186) none);generalize hW:w.alloc (.cells #[.int .u8 (op:Int),.int .u8 (a:Int),.int .u8 (b:Int),.int .u8 (c:Int),P0 fb,P0 tb,P0 eb] 186)=w1 at *;clear hW;refine(a1.out w1 a0.out).mono ?_;rintro e w2 ⟨rfl,G⟩;have a4:=az (an a0.out G);have a5:=az (dp G a6.out);clear G;go_wp2_with fail
  refine(ft y _).mono ?_;rintro e w3 ⟨rfl,o⟩;have i:=az (an a4.out o);have W:=az (dp o a5.out);clear o;by_cases J:y.1=0
  .have hd:decide (y.1=0)=true:=by simpa using J
   simp only[hd];have H0:=az J;clear J hd;obtain⟨x0,x1,x2,x3,x4,x5,x6⟩:=fk W.out;have d2:=(bh i.out (a:=⟨v2,0,none⟩) Y).1.trans c2;go_wp2_with fail
   refine(a2.out H0.out w3 i.out).mono ?_;rintro e w4 ⟨why,rfl,Z⟩;have a7:=az Z;clear Z;go_wp2_with fail
   go_ret;exact⟨why,rfl,a7.out⟩
  have hd:decide (y.1=0)=false:=by simpa using J
  simp only[hd];have H0:=az J;clear J hd;go_wp2_with fail
  go_ret;exact⟨1,rfl,a3.out H0.out w3 i.out⟩
theorem Ft(op a b c fb tb eb u:Nat)(R:World->Prop)(w:World)(hw:w.cell? ⟨u,0,none⟩=some (Fv 106 #[]))(H:∀w1,w.grownBy w1 none->Calls prog 106 #[dZ op a b c fb tb eb] w1 λe w'=>e=.returned (.tuple #[])/\R w'): Calls prog 163 #[dZ op a b c fb tb eb,P0 u] w λe w'=>e=.returned (.int .i64 0)/\R w':=by
 have y:=az H;have G:=gW hw;go_in;go_wp2_with fail
 refine(y.out _ (ah _ _ _)).mono ?_;rintro e w2 ⟨rfl,i⟩;have o:=az i;go_wp2_with fail
 go_ret;exact⟨rfl,o.out⟩
theorem Fs(op a b c fb tb eb u:Nat)(R:World->Prop)(w:World)(hw:w.cell? ⟨u,0,none⟩=some (Fv 109 #[]))(H:∀w1,w.grownBy w1 none->Calls prog 109 #[dZ op a b c fb tb eb] w1 λe w'=>e=.returned (.tuple #[])/\R w'): Calls prog 163 #[dZ op a b c fb tb eb,P0 u] w λe w'=>e=.returned (.int .i64 0)/\R w':=by
 have y:=az H;have G:=gW hw;go_in;go_wp2_with fail
 refine(y.out _ (ah _ _ _)).mono ?_;rintro e w2 ⟨rfl,i⟩;have o:=az i;go_wp2_with fail
 go_ret;exact⟨rfl,o.out⟩
theorem Gp(op a b c fb tb eb:Nat)(R:World->Prop)(w:World)(le:eb<w.heap.size)(H:∀w1,w.grownBy w1 none->Calls prog 110 #[Pt eb 32,P0 tb] w1 λe w'=>e=.returned (.tuple #[])/\R w'): Calls prog 109 #[dZ op a b c fb tb eb] w λe w'=>e=.returned (.tuple #[])/\R w':=by
 have W:=az H;go_in;go_wp2_with fail
 have i:=az (jf w op a b c fb tb eb);have o:=az (ah w (.cells #[.int .u8 (op:Int),.int .u8 (a:Int),.int .u8 (b:Int),.int .u8 (c:Int),P0 fb,P0 tb,P0 eb] 186) none);generalize J:w.alloc (.cells #[.int .u8 (op:Int),.int .u8 (a:Int),.int .u8 (b:Int),.int .u8 (c:Int),P0 fb,P0 tb,P0 eb] 186)=w1 at *;obtain⟨Z,Y,x2,x3,x4,x5,x6⟩:=fk i.out;go_region_with (go_at_call 110;refine(W.out w1.drew (bq o.out)).mono ?_;rintro e w2 ⟨rfl,u⟩;have y:=az u;clear u)
 all_goals
  go_wp2_with fail
  go_end0;exact⟨rfl,y.out⟩
theorem JM(op a b c fb tb eb:Nat)(x:Int)(R:World->Prop)(w:World)(H:∀w1,w.grownBy w1 none->Calls prog 173 #[P0 eb,.int .i64 1,P0 tb,.int .i64 x] w1 λe w'=>e=.returned (.tuple #[])/\R w'): Calls prog 115 #[dZ op a b c fb tb eb,.int .i64 x] w λe w'=>e=.returned (.int .i64 0)/\R w':=by
 have u:=az H;go_in;go_wp2_with fail
 refine(u.out _ (ah _ _ _)).mono ?_;rintro e w2 ⟨rfl,i⟩;have o:=az i;go_wp2_with fail
 go_ret;exact⟨rfl,o.out⟩
theorem KM(op a b c fb tb eb:Nat)(y:B.V)(R:World->Prop)(w:World)(H1:∀w1,w.grownBy w1 none->Calls prog 98 #[dZ op a b c fb tb eb] w1 λe w'=>e=.returned (vA y)/\w1.grownBy w' none)(H:∀w1,w.grownBy w1 none->Calls prog 107 #[P0 tb,vA y] w1 λe w'=>e=.returned (.tuple #[])/\R w'/\∀k,w.heap.size<=k->k<w1.heap.size->w'.heap[k]? = w1.heap[k]?): Calls prog 106 #[dZ op a b c fb tb eb] w λe w'=>e=.returned (.tuple #[])/\R w':=by
 have Y:=az H1;have HH:=az H;go_in;go_wp2_with fail
 have u:=az (jf w op a b c fb tb eb);have J:=az (ah w (.cells #[.int .u8 (op:Int),.int .u8 (a:Int),.int .u8 (b:Int),.int .u8 (c:Int),P0 fb,P0 tb,P0 eb] 186) none);generalize hW:w.alloc (.cells #[.int .u8 (op:Int),.int .u8 (a:Int),.int .u8 (b:Int),.int .u8 (c:Int),P0 fb,P0 tb,P0 eb] 186)=w1 at *;go_region_held3 (λw'=>w'.cell? ⟨w.heap.size,0,none⟩=some (.int .u8 (op:Int))/\w'.cell? ⟨w.heap.size,1,none⟩=some (.int .u8 (a:Int))/\w'.cell? ⟨w.heap.size,2,none⟩=some (.int .u8 (b:Int))/\w'.cell? ⟨w.heap.size,3,none⟩=some (.int .u8 (c:Int))/\w'.cell? ⟨w.heap.size,4,none⟩=some (P0 fb)/\w'.cell? ⟨w.heap.size,5,none⟩=some (P0 tb)/\w'.cell? ⟨w.heap.size,6,none⟩=some (P0 eb)) (first|exact fk u.out|exact fk i.out|exact fk Z.out) (first|(go_at_call 98;refine(Y.out w1.drew (bq J.out)).mono ?_;rintro e w2 ⟨rfl,o⟩;have a0:Hid (w.grownBy w2 none):=an (bq J.out) o;have i:=az (dp o (show w1.drew.heap[w.heap.size]? = _ from u.out));clear o)|(go_at_call 107;refine(HH.out w2 a0.out).mono ?_;rintro e w3 ⟨rfl,W,G⟩;have a1:=az W;have Z:=az ((G w.heap.size (bj _) (bz i.out)).trans i.out);clear W G))
 all_goals
  go_wp2_with fail
  go_end0;exact⟨rfl,a1.out⟩
theorem told_none{kd:B.Kd}(v:B.V)(h:kd.cy=none):B.told kd v=kd:=by
 obtain⟨on,e,u,o,cc⟩:=kd;have i:e=none:=h;subst i;rfl
theorem AG{kd:B.Kd}{c:B.Cy}(v:B.V)(h:kd.cy=some c):B.told kd v=⟨kd.on,some ⟨(B.seen c.m c.st v).1,(B.seen c.m c.st v).2,c.nx⟩,kd.un,kd.fo,kd.cc⟩:=by
 unfold B.told;rw[h];rfl
end
namespace F
def Laid(w w':World)(sb pb eb n nr t:Nat)(l:List B.V)(kd:B.Kd)(vb:Vs)(s:B.St)(v:Value):Prop:=
 (∃(k vg:Nat) (kd1:B.Kd),k<n/\kd1.on (k+1)=false/\B.iZ kd1 nr n s/\Gj nr n s kd kd1/\v=.tuple #[.agg #[.int .i64 ((k:Int)+1),.int .i64 0],.bool true]/\jm w' sb pb eb n (B.laid kd1 (k+1)) (vb.put (k+1) vg t) (B.lay s.2.2 (k+1) l)/\ox n kd vb (B.laid kd1 (k+1)) (vb.put (k+1) vg t) w.heap.size) \/
 (v=.tuple #[.agg #[.int .i64 0,.int .i64 0],.bool false]/\(∀p,1<=p->p<=n->B.Reach nr s p)/\∃kd1,jm w' sb pb eb n kd1 vb s.2.2/\B.iZ kd1 nr n s/\ox n kd vb kd1 vb w.heap.size)
theorem Laid.pre{w0 w w':World}{sb pb eb n nr t:Nat}{l:List B.V}{kd:B.Kd}{vb:Vs}{s:B.St}{v:Value}(hz:w0.heap.size<=w.heap.size)(h:Laid w w' sb pb eb n nr t l kd vb s v):Laid w0 w' sb pb eb n nr t l kd vb s v:=by
 rcases h with⟨k,Y,e,o,J,H,i,G,u,W⟩|⟨o,J,e,H,G,u⟩
 .exact ag ⟨k,Y,e,o,J,H,i,G,u,λx y=>(W x y).imp id (λh=>dH hz h)⟩
 exact ab ⟨o,J,e,H,G,λx y=>(u x y).imp id (λh=>dH hz h)⟩
theorem Laid.form{w w':World}{sb pb eb n nr t:Nat}{l:List B.V}{kd:B.Kd}{vb:Vs}{s:B.St}{v:Value}(h:Laid w w' sb pb eb n nr t l kd vb s v):∃(x:Int) (o:Bool),v=.tuple #[.agg #[.int .i64 x,.int .i64 0],.bool o]:=by
 rcases h with⟨k,H,e,u,G,y,_,i,_⟩|⟨h,_⟩
 .exact⟨_,_,i⟩
 exact⟨_,_,h⟩
theorem vt(Q:Nat->Prop)(eb sb pb n nr b:Nat)(kd:B.Kd)(vb:Vs)(s:B.St)(w:World)(hR:BG w Q eb sb pb n nr kd vb s)(aH:b<=8): Calls prog 157 #[P0 sb,.int .i64 b] w λe w'=>∃v,e=.returned v/\dy (pP sb pb n kd vb) w w'/\Laid w w' sb pb eb n nr 0 (List.replicate b (0,0)) kd vb s v:=by
 have KR:=az hR;have lp:=hR.hs.p.p.lt;have ls:=bz hR.hs.b;have Z:=az hR.hs.lt;clear hR;obtain⟨i0,hi,aF,aB,a9⟩:=info_parts Tryz.rE;go_in;go_wp2_with (at_make;go_loud (refine wpList_make_full _ rfl _ _ 137 rfl 0 149 i0 _ 2 underlying137 hi aF aB _ _ _ _ b rfl rfl rfl rfl (by rw[a9];omega) (by unfold maxLen;omega) (dc _) ?_))
 intro w3 Y H;have aD:=H.size;have a4:Full w3 (w.heap.size+1) 149 (b*2) (b*2) (eC (λ_=>(0,0))):=by
  rcases Y.2 with⟨h,_⟩|⟨g',aL,aG,J,h2,h3,h4,h5,h6,h7⟩
  .cases h
  injection J with J _ hc;injection J with J;injection J with J _ _;have aJ:g'=w.heap.size+1:=by simpa using J.symm
  subst aJ hc;refine⟨aG,h3,h6,λj hj=>?_⟩;have e1:=congrArg (λl=>l[j]?) h7;have e2:(madeCells #[.int .i64 0,.int .i64 0] (b*2)).toList[j]? = some (.int .i64 0):=by
   simp only[madeCells,Array.getElem?_toList,Array.getElem?_map,Array.getElem?_range];rw[aj hj];have:j % 2=0\/j % 2=1:=by omega
   rcases this with h|h<;>simp[h]
  simp only[e2,dh]at e1;rw[aj hj]at e1;have e3:eC (λ_=>((0,0):B.V)) j=.int .i64 0:=by unfold eC;split<;>rfl
  rw[e3];simpa using e1
 have x3:=cm H (show(w.alloc (.cells #[.int .i64 0,.int .i64 0] 149)).heap[w.heap.size]? = _ from bf w _) (by intro e;cases e);have a5:=az (an (ah _ _ _) H);have a3:=az a4;have aK:=az x3;have aA:=az (KR.kept a5);clear Y H a4 x3;go_wp2_with fail
 have a1:Hid (Full w3 (w.heap.size+1) 149 ((List.replicate b ((0,0):B.V)).length*2) ((List.replicate b ((0,0):B.V)).length*2) (eC (λi=>(List.replicate b ((0,0):B.V)).getD i (0,0)))):=by
  show Full _ _ _ _ _ _;rw[ik];refine a3.congr (λj _=>?_);unfold eC;have:(List.replicate b ((0,0):B.V)).getD (j / 2) (0,0)=(0,0):=by
   rw[ar,List.getElem?_replicate];split<;>rfl
  simp only[this]
 have aC:(.agg #[.int .u8 1,.int .i64 0,.slice (some ⟨w.heap.size+1,0,none⟩) b b]:Value)=.agg #[tZ true 0,vJ 0,.slice (some ⟨w.heap.size+1,0,none⟩) (List.replicate b ((0,0):B.V)).length (List.replicate b ((0,0):B.V)).length]:=by rw[ik];rfl
 rw[aC];refine(zY Q eb sb pb n nr (w.heap.size+1) 0 (List.replicate b (0,0)) kd vb s w3 aA a1 (by simpa using aH) (λh=>ch rfl h) (λh=>by have:=Z _ h;omega)).mono ?_;intro e w4 h4;have a0:=h4.1;obtain⟨x,o,he,a7⟩:∃(x:Int) (o:Bool),e=.returned (.tuple #[.agg #[.int .i64 x,.int .i64 0],.bool o])/\∀y:Value,Laid w (w4.setCell ⟨w.heap.size,0,none⟩ y |>.setCell ⟨w.heap.size,1,none⟩ (.int .i64 0)) sb pb eb n nr 0 (List.replicate b (0,0)) kd vb s (.tuple #[.agg #[.int .i64 x,.int .i64 0],.bool o]):=by
  have a6:∀(u:B.Kd) (W:Vs) (M:Nat->List B.V) (y:Value),jm w4 sb pb eb n u W M->(∀x,Own n u W x->Own n kd vb x\/x=w.heap.size+1)->jm (w4.setCell ⟨w.heap.size,0,none⟩ y |>.setCell ⟨w.heap.size,1,none⟩ (.int .i64 0)) sb pb eb n u W M:=λu W M y hS hG=>
   hS.block ((af _ _ _ _ (by show sb≠w.heap.size;omega)).trans (af _ _ _ _ (by show sb≠w.heap.size;omega))) ((af _ _ _ _ (by show pb≠w.heap.size;omega)).trans (af _ _ _ _ (by show pb≠w.heap.size;omega))) (λk hk=>by
    have a2:k≠w.heap.size:=by
     rcases hG k hk with h|h
     .have:=Z k h;omega
     omega
    exact(af _ _ _ _ a2).trans (af _ _ _ _ a2))
  rcases h4.2 with⟨k,u,J,h2,h3,aI,rfl,h5,h6⟩|⟨rfl,h5,u,h6,h7,h8⟩
  .exact⟨_,_,rfl,λy=>ag ⟨k,w.heap.size+1,u,J,h2,h3,aI,rfl,a6 _ _ _ y h5 h6,λx G=>(h6 x G).imp id (λh=>by omega)⟩⟩
  exact⟨_,_,rfl,λy=>ab ⟨rfl,h5,u,a6 _ _ _ y h6 (λx G=>ag (h8 x G)),h7,λx G=>ag (h8 x G)⟩⟩
 subst he;have G:=a0.block aK (by
  rintro(h|h|h)
  .omega
  .omega
  have:=Z _ h;omega)
 have r0:w4.cell? ⟨w.heap.size,0,none⟩=some (.int .i64 0):=by simp[World.cell?,G]
 have r1:w4.cell? ⟨w.heap.size,1,none⟩=some (.int .i64 0):=by simp[World.cell?,G]
 have t0:w4.frozen? ⟨w.heap.size,0,none⟩=false:=by simp[World.frozen?,G]
 have t1:w4.frozen? ⟨w.heap.size,1,none⟩=false:=by simp[World.frozen?,G]
 have a8:=az ((dU (S:=pP sb pb n kd vb) a5).trans a0 (λ_ h _=>h));have aE:=az a7;clear h4 a0 a7 G;go_wp2_with fail
 refine da (v:=.tuple #[.agg #[.int .i64 x,.int .i64 0],.bool o]) (by simp[results,results157,go_sem,r0,r1]) rfl ?_;refine⟨_,rfl,bm (bm a8 (ab (by simp)) _) (ab (by simp)) _,?_⟩;exact aE _
theorem xp(Q:Nat->Prop)(op a b c fb tb eb sb pb n nr:Nat)(kd:B.Kd)(vb:Vs)(s:B.St)(w:World)(hR:BG w Q eb sb pb n nr kd vb s)(aB:b<=8)(a6:w.cell? ⟨eb,27,none⟩=some (P0 sb))(he:¬pP sb pb n kd vb eb): Calls prog 100 #[dZ op a b c fb tb eb] w λe w'=>∃v,e=.returned v/\dy (pP sb pb n kd vb) w w'/\Laid w w' sb pb eb n nr 0 (List.replicate b (0,0)) kd vb s v:=by
 have KR:=az hR;have le:=gW a6;have lp:=hR.hs.p.p.lt;have ls:=bz hR.hs.b;have a5:=az hR.hs.lt;have a1:Hid (∀x,w.heap.size<=x->¬pP sb pb n kd vb x):=λx W h=>by
  rcases h with h|h|h
  .omega
  .omega
  have:=a5 x h;omega
 clear hR;go_in;go_wp2_with fail
 generalize hW:(w.alloc (.cells #[.int .u8 op,.int .u8 a,.int .u8 b,.int .u8 c,P0 fb,P0 tb,P0 eb] 186)).alloc (.cells #[.int .i64 0,.int .i64 0] 149)=w1;have J:Hid (w.grownBy w1 none):=by rw[<-hW];exact au (ah _ _ _) _
 have W:w1.heap[w.heap.size]? = some (lZ op a b c fb tb eb):=by rw[<-hW,ak _ _ _ (by simp)];exact bf w _
 have hr:w1.heap[w.heap.size+1]? = some (.cells #[.int .i64 0,.int .i64 0] 149 (0,0)):=by
  rw[<-hW];have:=bf (w.alloc (.cells #[.int .u8 op,.int .u8 a,.int .u8 b,.int .u8 c,P0 fb,P0 tb,P0 eb] 186)) (.cells #[.int .i64 0,.int .i64 0] 149);simpa using this
 clear hW;have HR:=az hr;have aA:=az (KR.kept (bq J));obtain⟨x0,x1,x2,x3,x4,x5,x6⟩:=fk W;have lx:=bz W;have lr:=bz hr;obtain⟨a7,_⟩:=bh J (a:=⟨eb,27,none⟩) le;rw[a6]at a7;have aC:eb<w1.heap.size:=by omega
 clear W hr;have HS:∀w':World,dy (pP sb pb n kd vb) w1 w'->w'.cell? ⟨w.heap.size,6,none⟩=some (P0 eb)/\w'.cell? ⟨w.heap.size,2,none⟩=some (.int .u8 b)/\w'.cell? ⟨eb,27,none⟩=some (P0 sb):=by
  intro w' hO;exact⟨(hO.cell (o:=6) lx (a1 _ (bj _))).trans x6,(hO.cell (o:=2) lx (a1 _ (bj _))).trans x2,(hO.cell (o:=27) aC he).trans a7⟩
 have Z:=az HS;clear HS;have aG:IntKind.i64.wrap (b:Int)=b:=by simp[IntKind.wrap,IntKind.bits,IntKind.signed];omega
 go_region_held3 (λw'=>w'.cell? ⟨w.heap.size,6,none⟩=some (P0 eb)/\w'.cell? ⟨w.heap.size,2,none⟩=some (.int .u8 b)/\w'.cell? ⟨eb,27,none⟩=some (P0 sb)) (first|exact Z _ (dk _ _)|exact Z _ a2|exact a3) (first|(go_at_call 157;refine(vt Q eb sb pb n nr b kd vb s w1.drew aA aB).mono ?_;rintro e H ⟨v,rfl,Y,a0⟩;obtain⟨x,ob,rfl⟩:=a0.form;have a2:Hid (dy (pP sb pb n kd vb) w1 H):=Y;have a9:Hid (Laid w1 H sb pb eb n nr 0 (List.replicate b (0,0)) kd vb s (.tuple #[.agg #[.int .i64 x,.int .i64 0],.bool ob])):=a0;have G:=Y.block (k:=w.heap.size+1) HR (a1 _ (Nat.le_succ _));have r0:H.cell? ⟨w.heap.size+1,0,none⟩=some (.int .i64 0):=(by simp[World.cell?,G]);have r1:H.cell? ⟨w.heap.size+1,1,none⟩=some (.int .i64 0):=(by simp[World.cell?,G]);have r2:H.frozen? ⟨w.heap.size+1,0,none⟩=false:=(by simp[World.frozen?,G]);have r3:H.frozen? ⟨w.heap.size+1,1,none⟩=false:=(by simp[World.frozen?,G]);have a3:Hid (((H.setCell ⟨w.heap.size+1,0,none⟩ (.int .i64 x)).setCell ⟨w.heap.size+1,1,none⟩ (.int .i64 0)).cell? ⟨w.heap.size,6,none⟩=some (P0 eb)/\((H.setCell ⟨w.heap.size+1,0,none⟩ (.int .i64 x)).setCell ⟨w.heap.size+1,1,none⟩ (.int .i64 0)).cell? ⟨w.heap.size,2,none⟩=some (.int .u8 b)/\((H.setCell ⟨w.heap.size+1,0,none⟩ (.int .i64 x)).setCell ⟨w.heap.size+1,1,none⟩ (.int .i64 0)).cell? ⟨eb,27,none⟩=some (P0 sb)):=(by have h:=Z H Y;exact⟨(aw (a:=⟨w.heap.size,6,none⟩) ((af _ _ _ _ (by simp)).trans (af _ _ _ _ (by simp)))).trans h.1,(aw (a:=⟨w.heap.size,2,none⟩) ((af _ _ _ _ (by simp)).trans (af _ _ _ _ (by simp)))).trans h.2.1,(aw (a:=⟨eb,27,none⟩) ((af _ _ _ _ (by show eb≠w.heap.size+1;omega)).trans (af _ _ _ _ (by show eb≠w.heap.size+1;omega)))).trans h.2.2⟩);clear G Y a0))
 all_goals
  go_wp2_with fail
  refine da (v:=.tuple #[.agg #[.int .i64 x,.int .i64 0],.bool ob]) (by simp[results,results100,go_sem,r0,r1]) rfl ?_;refine⟨_,rfl,bm (bm ((dU J).trans a2 (λ_ h _=>h)) (ab (by simp)) _) (ab (by simp)) _,?_⟩;have a4:∀(i:B.Kd) (u:Vs) (M:Nat->List B.V),jm H sb pb eb n i u M->ox n kd vb i u w1.heap.size->∀x,Own n i u x->x≠w.heap.size+1:=λi u M hS hG x W=>by
   rcases hG x W with h|h
   .have:=a5 x h;omega
   omega
  have a8:∀(i:B.Kd) (u:Vs) (M:Nat->List B.V) (y z:Value),jm H sb pb eb n i u M->ox n kd vb i u w1.heap.size->jm ((H.setCell ⟨w.heap.size+1,0,none⟩ y).setCell ⟨w.heap.size+1,1,none⟩ z) sb pb eb n i u M:=λi u M y z hS hG=>
   hS.block ((af _ _ _ _ (by show sb≠w.heap.size+1;omega)).trans (af _ _ _ _ (by show sb≠w.heap.size+1;omega))) ((af _ _ _ _ (by show pb≠w.heap.size+1;omega)).trans (af _ _ _ _ (by show pb≠w.heap.size+1;omega))) (λk hk=>(af _ _ _ _ (a4 _ _ _ hS hG k hk)).trans (af _ _ _ _ (a4 _ _ _ hS hG k hk)))
  rcases a9 with⟨k,vg,i,h1,h2,h3,aD,h4,h5,h6⟩|⟨h1,h2,i,h3,h4,h5⟩
  .exact ag ⟨k,vg,i,h1,h2,h3,aD,h4,a8 _ _ _ _ _ h5 h6,λx W=>(h6 x W).imp id (λh=>by omega)⟩
  exact ab ⟨h1,h2,i,a8 _ _ _ _ _ h3 h5,h4,λx W=>(h5 x W).imp id (λh=>by omega)⟩
theorem xm(Q:Nat->Prop)(eb sb pb n nr f:Nat)(u:B.V)(kd:B.Kd)(vb:Vs)(s:B.St)(w:World)(hR:BG w Q eb sb pb n nr kd vb s): Calls prog 161 #[P0 sb,.int .i64 f,vA u] w λe w'=>∃v,e=.returned v/\dy (pP sb pb n kd vb) w w'/\Laid w w' sb pb eb n nr (f+1) [u] kd vb s v:=by
 have KR:=az hR;have lp:=hR.hs.p.p.lt;have ls:=bz hR.hs.b;have W:=az hR.hs.lt;go_in;go_wp2_with fail
 generalize hW:((w.alloc (.cells #[.int .i64 u.1,.int .i64 u.2] 149)).alloc (.cells #[.int .i64 0,.int .i64 0] 149)).alloc (.cells #[.int .i64 u.1,.int .i64 u.2] 149)=w3;have a2:w3.heap.size=w.heap.size+1+1+1:=by rw[<-hW];simp
 have a3:Hid (w.grownBy w3 none):=by rw[<-hW];exact au (au (ah _ _ _) _) _
 have x3:w3.heap[w.heap.size+1]? = some (.cells #[.int .i64 0,.int .i64 0] 149 (0,0)):=by
  rw[<-hW,ak _ _ _ (by simp)];have:=bf (w.alloc (.cells #[.int .i64 u.1,.int .i64 u.2] 149)) (.cells #[.int .i64 0,.int .i64 0] 149);simpa using this
 have y3:w3.heap[w.heap.size+1+1]? = some (.cells #[.int .i64 u.1,.int .i64 u.2] 149 (0,0)):=by
  rw[<-hW];have:=bf ((w.alloc (.cells #[.int .i64 u.1,.int .i64 u.2] 149)).alloc (.cells #[.int .i64 0,.int .i64 0] 149)) (.cells #[.int .i64 u.1,.int .i64 u.2] 149);simpa using this
 have a1:Hid (Full w3 (w.heap.size+1+1) 149 ([u].length*2) ([u].length*2) (eC (λi=>[u].getD i (0,0)))):=by
  refine⟨_,y3,rfl,λj hj=>?_⟩;have:j=0\/j=1:=by have:j<2:=hj;omega
  rcases this with rfl|rfl<;>rfl
 have aB:=az x3;have a7:=az (KR.kept a3);have a8:(.agg #[.int .u8 2,.int .i64 f,.slice (some ⟨w.heap.size+1+1,0,none⟩) 1 1]:Value)=.agg #[tZ true (f+1),vJ (f+1),.slice (some ⟨w.heap.size+1+1,0,none⟩) [u].length [u].length]:=rfl;rw[a8];refine(zY Q eb sb pb n nr (w.heap.size+1+1) (f+1) [u] kd vb s w3 a7 a1 (by show 1<=8;decide) (λ_=>rfl) (λh=>by have:=W _ h;omega)).mono ?_;intro e Y h4;have Z:=h4.1;obtain⟨x,o,he,a5⟩:∃(x:Int) (o:Bool),e=.returned (.tuple #[.agg #[.int .i64 x,.int .i64 0],.bool o])/\∀y:Value,Laid w (Y.setCell ⟨w.heap.size+1,0,none⟩ y |>.setCell ⟨w.heap.size+1,1,none⟩ (.int .i64 0)) sb pb eb n nr (f+1) [u] kd vb s (.tuple #[.agg #[.int .i64 x,.int .i64 0],.bool o]):=by
  have a4:∀(G:B.Kd) (J:Vs) (M:Nat->List B.V) (y:Value),jm Y sb pb eb n G J M->(∀x,Own n G J x->Own n kd vb x\/x=w.heap.size+1+1)->jm (Y.setCell ⟨w.heap.size+1,0,none⟩ y |>.setCell ⟨w.heap.size+1,1,none⟩ (.int .i64 0)) sb pb eb n G J M:=λG J M y hS hG=>
   hS.block ((af _ _ _ _ (by show sb≠w.heap.size+1;omega)).trans (af _ _ _ _ (by show sb≠w.heap.size+1;omega))) ((af _ _ _ _ (by show pb≠w.heap.size+1;omega)).trans (af _ _ _ _ (by show pb≠w.heap.size+1;omega))) (λk hk=>by
    have a0:k≠w.heap.size+1:=by
     rcases hG k hk with h|h
     .have:=W k h;omega
     omega
    exact(af _ _ _ _ a0).trans (af _ _ _ _ a0))
  rcases h4.2 with⟨k,G,h1,h2,h3,aA,rfl,h5,h6⟩|⟨rfl,h5,G,h6,h7,h8⟩
  .exact⟨_,_,rfl,λy=>ag ⟨k,w.heap.size+1+1,G,h1,h2,h3,aA,rfl,a4 _ _ _ y h5 h6,λx H=>(h6 x H).imp id (λh=>by omega)⟩⟩
  exact⟨_,_,rfl,λy=>ab ⟨rfl,h5,G,a4 _ _ _ y h6 (λx H=>ag (h8 x H)),h7,λx H=>ag (h8 x H)⟩⟩
 subst he;have H:=Z.block aB (by
  rintro(h|h|h)
  .omega
  .omega
  have:=W _ h;omega)
 have r0:Y.cell? ⟨w.heap.size+1,0,none⟩=some (.int .i64 0):=by simp[World.cell?,H]
 have r1:Y.cell? ⟨w.heap.size+1,1,none⟩=some (.int .i64 0):=by simp[World.cell?,H]
 have t0:Y.frozen? ⟨w.heap.size+1,0,none⟩=false:=by simp[World.frozen?,H]
 have t1:Y.frozen? ⟨w.heap.size+1,1,none⟩=false:=by simp[World.frozen?,H]
 have a6:=az ((dU (S:=pP sb pb n kd vb) a3).trans Z (λ_ h _=>h));have a9:=az a5;go_wp2_with fail
 refine da (v:=.tuple #[.agg #[.int .i64 x,.int .i64 0],.bool o]) (by simp[results,results161,go_sem,r0,r1]) rfl ?_;refine⟨_,rfl,bm (bm a6 (ab (by simp)) _) (ab (by simp)) _,?_⟩;exact a9 _
theorem qU(Q:Nat->Prop)(op a b c fb tb eb sb pb n nr:Nat)(cg:B.V)(kd:B.Kd)(vb:Vs)(s:B.St)(w:World)(hR:BG w Q eb sb pb n nr kd vb s)(aJ:b<256)(hc:∀w1,w.grownBy w1 none->Calls prog 94 #[dZ op a b c fb tb eb] w1 λe w'=>e=.returned (vA cg)/\w1.grownBy w' none)(a8:w.cell? ⟨eb,27,none⟩=some (P0 sb))(he:¬pP sb pb n kd vb eb): Calls prog 103 #[dZ op a b c fb tb eb] w λe w'=>∃v,e=.returned v/\dy (pP sb pb n kd vb) w w'/\Laid w w' sb pb eb n nr (b+1) [cg] kd vb s v:=by
 have KR:=az hR;have HC:=az hc;have le:=gW a8;have lp:=hR.hs.p.p.lt;have ls:=bz hR.hs.b;have a7:=az hR.hs.lt;have aB:Hid (∀x,w.heap.size<=x->¬pP sb pb n kd vb x):=λx Y h=>by
  rcases h with h|h|h
  .omega
  .omega
  have:=a7 x h;omega
 clear hR hc;go_in;go_wp2_with fail
 generalize hW:(w.alloc (.cells #[.int .u8 op,.int .u8 a,.int .u8 b,.int .u8 c,P0 fb,P0 tb,P0 eb] 186)).alloc (.cells #[.int .i64 0,.int .i64 0] 149)=w1;have J:Hid (w.grownBy w1 none):=by rw[<-hW];exact au (ah _ _ _) _
 have Y:w1.heap[w.heap.size]? = some (lZ op a b c fb tb eb):=by rw[<-hW,ak _ _ _ (by simp)];exact bf w _
 have hr:w1.heap[w.heap.size+1]? = some (.cells #[.int .i64 0,.int .i64 0] 149 (0,0)):=by
  rw[<-hW];have:=bf (w.alloc (.cells #[.int .u8 op,.int .u8 a,.int .u8 b,.int .u8 c,P0 fb,P0 tb,P0 eb] 186)) (.cells #[.int .i64 0,.int .i64 0] 149);simpa using this
 clear hW;have HX:=az Y;have HR:=az hr;have lr:=bz hr;have aE:eb<w1.heap.size:=by omega
 clear Y hr;have Z:Hid (∀w':World,dy (λk=>pP sb pb n kd vb k\/k=w.heap.size+1) w1 w'->w'.cell? ⟨w.heap.size,0,none⟩=some (.int .u8 op)/\w'.cell? ⟨w.heap.size,1,none⟩=some (.int .u8 a)/\w'.cell? ⟨w.heap.size,2,none⟩=some (.int .u8 b)/\w'.cell? ⟨w.heap.size,3,none⟩=some (.int .u8 c)/\w'.cell? ⟨w.heap.size,4,none⟩=some (P0 fb)/\w'.cell? ⟨w.heap.size,5,none⟩=some (P0 tb)/\w'.cell? ⟨w.heap.size,6,none⟩=some (P0 eb)/\w'.cell? ⟨eb,27,none⟩=some (P0 sb)):=λw' hO=>by
  have aD:¬(pP sb pb n kd vb w.heap.size\/w.heap.size=w.heap.size+1):=λh=>h.elim (aB _ (bj _)) (λh=>by omega);obtain⟨x0,x1,x2,x3,x4,x5,x6⟩:=fk (hO.block HX aD);exact⟨x0,x1,x2,x3,x4,x5,x6,(hO.cell (o:=27) aE (λh=>h.elim he (λh=>by omega))).trans ((bh J (a:=⟨eb,27,none⟩) le).1.trans a8)⟩
 have aI:IntKind.i64.wrap (b:Int)=b:=by simp[IntKind.wrap,IntKind.bits,IntKind.signed];omega
 go_region_held3 (λw'=>w'.cell? ⟨w.heap.size,0,none⟩=some (.int .u8 op)/\w'.cell? ⟨w.heap.size,1,none⟩=some (.int .u8 a)/\w'.cell? ⟨w.heap.size,2,none⟩=some (.int .u8 b)/\w'.cell? ⟨w.heap.size,3,none⟩=some (.int .u8 c)/\w'.cell? ⟨w.heap.size,4,none⟩=some (P0 fb)/\w'.cell? ⟨w.heap.size,5,none⟩=some (P0 tb)/\w'.cell? ⟨w.heap.size,6,none⟩=some (P0 eb)/\w'.cell? ⟨eb,27,none⟩=some (P0 sb)) (first|exact Z _ (dk _ _)|exact Z _ (dU a0)|exact Z _ a4|exact a5) (first|(go_at_call 94;refine(HC w1.drew (bq J)).mono ?_;rintro e w2 ⟨rfl,H⟩;have a0:Hid (w1.grownBy w2 none):=⟨H.os,H.tape,H.output,H.size,H.block⟩;clear H)|(go_at_call 161;refine(xm Q eb sb pb n nr b cg kd vb s w2 (KR.kept (an J a0))).mono ?_;rintro e W ⟨v,rfl,a2,a3⟩;obtain⟨x,ob,rfl⟩:=a3.form;have a1:=(dU a0).trans a2 (λ_ h _=>h);have a4:Hid (dy (λk=>pP sb pb n kd vb k\/k=w.heap.size+1) w1 W):=a1.mono (λ_ h _=>ag h);have a9:=az a1;have aC:=az (a3.pre a0.size);have G:=a1.block (k:=w.heap.size+1) HR (aB _ (Nat.le_succ _));have r0:W.cell? ⟨w.heap.size+1,0,none⟩=some (.int .i64 0):=(by simp[World.cell?,G]);have r1:W.cell? ⟨w.heap.size+1,1,none⟩=some (.int .i64 0):=(by simp[World.cell?,G]);have r2:W.frozen? ⟨w.heap.size+1,0,none⟩=false:=(by simp[World.frozen?,G]);have r3:W.frozen? ⟨w.heap.size+1,1,none⟩=false:=(by simp[World.frozen?,G]);have a5:=az (Z ((W.setCell ⟨w.heap.size+1,0,none⟩ (.int .i64 x)).setCell ⟨w.heap.size+1,1,none⟩ (.int .i64 0)) (bm (bm a4 (ag (ab rfl)) _) (ag (ab rfl)) _));clear G a1 a3 a2))
 all_goals
  go_wp2_with fail
  refine da (v:=.tuple #[.agg #[.int .i64 x,.int .i64 0],.bool ob]) (by simp[results,results103,go_sem,r0,r1]) rfl ?_;refine⟨_,rfl,bm (bm ((dU J).trans a9 (λ_ h _=>h)) (ab (by simp)) _) (ab (by simp)) _,?_⟩;have a6:∀(i:B.Kd) (u:Vs) (M:Nat->List B.V),jm W sb pb eb n i u M->ox n kd vb i u w1.heap.size->∀x,Own n i u x->x≠w.heap.size+1:=λi u M hS hG x Y=>by
   rcases hG x Y with h|h
   .have:=a7 x h;omega
   omega
  have aA:∀(i:B.Kd) (u:Vs) (M:Nat->List B.V) (y z:Value),jm W sb pb eb n i u M->ox n kd vb i u w1.heap.size->jm ((W.setCell ⟨w.heap.size+1,0,none⟩ y).setCell ⟨w.heap.size+1,1,none⟩ z) sb pb eb n i u M:=λi u M y z hS hG=>
   hS.block ((af _ _ _ _ (by show sb≠w.heap.size+1;omega)).trans (af _ _ _ _ (by show sb≠w.heap.size+1;omega))) ((af _ _ _ _ (by show pb≠w.heap.size+1;omega)).trans (af _ _ _ _ (by show pb≠w.heap.size+1;omega))) (λk hk=>(af _ _ _ _ (a6 _ _ _ hS hG k hk)).trans (af _ _ _ _ (a6 _ _ _ hS hG k hk)))
  rcases aC with⟨k,vg,i,h1,h2,h3,aF,h4,h5,h6⟩|⟨h1,h2,i,h3,h4,h5⟩
  .exact ag ⟨k,vg,i,h1,h2,h3,aF,h4,aA _ _ _ _ _ h5 h6,λx Y=>(h6 x Y).imp id (λh=>by omega)⟩
  exact ab ⟨h1,h2,i,aA _ _ _ _ _ h3 h5,h4,λx Y=>(h5 x Y).imp id (λh=>by omega)⟩
