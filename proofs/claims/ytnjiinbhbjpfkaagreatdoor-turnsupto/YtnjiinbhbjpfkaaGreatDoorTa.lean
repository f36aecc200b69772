import Derived.Test.YtnjiinbhbjpfkaaGreatDoorTR
set_option maxRecDepth 100000
set_option maxHeartbeats 0
set_option linter.all false
namespace Go.Proofs.YtnjiinbhbjpfkaaGreatDoor
open Go.RowKit Go.Proofs.Tryz
namespace F
def yG(Q:Nat->Prop)(eb sb pb n nr f:Nat)(u:B.V)(kd:B.Kd)(vb:Vs)(s:B.St)(w:aa)(hR:C8 w Q eb sb pb n nr kd vb s): Calls prog 161 #[P0 sb,aj f,vA u] w λe w'=>∃v,e=.returned v/\dM (rA sb pb n kd vb) w w'/\Laid w w' sb pb eb n nr (f+1) [u] kd vb s v:=by
 have KR:=bj hR;have lp:=hR.hs.p.p.lt;have ls:=ch hR.hs.b;have W:=bj hR.hs.lt;go_in;go_wp2_with fail
 generalize hW:((w.alloc (.cells #[aj u.1,aj u.2] 149)).alloc (.cells #[aj 0,aj 0] 149)).alloc (.cells #[aj u.1,aj u.2] 149)=w3;have a2:w3.heap.size=w.heap.size+1+1+1:=by rw[<-hW];simp
 have a3:Hid (w.grownBy w3 none):=by rw[<-hW];exact ax (ax (ak _ _ _) _) _
 have x3:w3.heap[w.heap.size+1]? = some (.cells #[aj 0,aj 0] 149 (0,0)):=by
  rw[<-hW,av _ _ _ eB];have:=bl (w.alloc (.cells #[aj u.1,aj u.2] 149)) (.cells #[aj 0,aj 0] 149);simpa using this
 have y3:w3.heap[w.heap.size+1+1]? = some (.cells #[aj u.1,aj u.2] 149 (0,0)):=by
  rw[<-hW];have:=bl ((w.alloc (.cells #[aj u.1,aj u.2] 149)).alloc (.cells #[aj 0,aj 0] 149)) (.cells #[aj u.1,aj u.2] 149);simpa using this
 have a1:Hid (Full w3 (w.heap.size+1+1) 149 ([u].length*2) ([u].length*2) (eQ (λi=>[u].getD i (0,0)))):=by
  refine⟨_,y3,rfl,λj hj=>?_⟩;have:j=0\/j=1:=by have:j<2:=hj;omega
  rcases this with rfl|rfl<;>rfl
 have aB:=bj x3;have a7:=bj (KR.kept a3);have a8:(.agg #[dy 2,aj f,dA (w.heap.size+1+1) 1 1]:Value)=.agg #[vz true (f+1),zi (f+1),dA (w.heap.size+1+1) [u].length [u].length]:=rfl;rw[a8];refine(Bh Q eb sb pb n nr (w.heap.size+1+1) (f+1) [u] kd vb s w3 a7 a1 eR (λ_=>rfl) (λh=>by have:=W _ h;omega)).mono ?_;intro e Y h4;have Z:=h4.1;obtain⟨x,o,he,a5⟩:∃(x:Int) (o:Bool),e=.returned (.tuple #[.agg #[aj x,aj 0],.bool o])/\∀y:Value,Laid w (Y.setCell (ay (w.heap.size+1) 0) y |>.setCell (ay (w.heap.size+1) 1) (aj 0)) sb pb eb n nr (f+1) [u] kd vb s (.tuple #[.agg #[aj x,aj 0],.bool o]):=by
  have a4:∀(G:B.Kd) (J:Vs) (M:Nat->List B.V) (y:Value),kD Y sb pb eb n G J M->(∀x,Own n G J x->Own n kd vb x\/x=w.heap.size+1+1)->kD (Y.setCell (ay (w.heap.size+1) 0) y |>.setCell (ay (w.heap.size+1) 1) (aj 0)) sb pb eb n G J M:=λG J M y hS hG=>
   hS.block ((ab _ _ _ _ eR).trans (ab _ _ _ _ eR)) ((ab _ _ _ _ eR).trans (ab _ _ _ _ eR)) (λk hk=>by
    have a0:k≠w.heap.size+1:=by
     rcases hG k hk with h|h
     .have:=W k h;omega
     omega
    grind[Below.heap_setCell])
  rcases h4.2 with⟨k,G,h1,h2,h3,aA,rfl,h5,h6⟩|⟨rfl,h5,G,h6,h7,h8⟩
  .exact⟨_,_,rfl,λy=>af ⟨k,w.heap.size+1+1,G,h1,h2,h3,aA,rfl,a4 _ _ _ y h5 h6,λx H=>(h6 x H).imp id (λh=>by omega)⟩⟩
  exact⟨_,_,rfl,λy=>ah ⟨rfl,h5,G,a4 _ _ _ y h6 (λx H=>af (h8 x H)),h7,λx H=>af (h8 x H)⟩⟩
 subst he;have H:=Z.block aB (by
  rintro(h|h|h)
  .omega
  .omega
  have:=W _ h;omega)
 have r0:dS Y (w.heap.size+1) 0=some (aj 0):=fy H
 have r1:dS Y (w.heap.size+1) 1=some (aj 0):=fy H
 have t0:Y.frozen? (ay (w.heap.size+1) 0)=false:=qE H
 have t1:Y.frozen? (ay (w.heap.size+1) 1)=false:=qE H
 have a6:=bj ((ep (S:=rA sb pb n kd vb) a3).trans Z (λ_ h _=>h));have a9:=bj a5;go_wp2
 refine dg (v:=.tuple #[.agg #[aj x,aj 0],.bool o]) (by simp[results,results161,go_sem,r0,r1]) rfl ?_;refine⟨_,rfl,bp (bp a6 (ah eB) _) (ah eB) _,?_⟩;exact a9 _
def tj(Q:Nat->Prop)(op a b c fb tb eb sb pb n nr:Nat)(cg:B.V)(kd:B.Kd)(vb:Vs)(s:B.St)(w:aa)(hR:C8 w Q eb sb pb n nr kd vb s)(aJ:b<256)(hc:∀w1,w.grownBy w1 none->dD 94 #[ed op a b c fb tb eb] w1 (vA cg) λw'=>w1.grownBy w' none)(a8:w.cell? (ay eb 27)=some (P0 sb))(he:¬rA sb pb n kd vb eb): Calls prog 103 #[ed op a b c fb tb eb] w λe w'=>∃v,e=.returned v/\dM (rA sb pb n kd vb) w w'/\Laid w w' sb pb eb n nr (b+1) [cg] kd vb s v:=by
 have KR:=bj hR;have HC:=bj hc;have le:=gM a8;have lp:=hR.hs.p.p.lt;have ls:=ch hR.hs.b;have a7:=bj hR.hs.lt;have aB:Hid (∀x,w.heap.size<=x->¬rA sb pb n kd vb x):=λx Y h=>by
  rcases h with h|h|h
  .omega
  .omega
  have:=a7 x h;omega
 clear hR hc;go_in;go_wp2_with fail
 generalize hW:(w.alloc (.cells #[dy op,dy a,dy b,dy c,P0 fb,P0 tb,P0 eb] 186)).alloc (.cells #[aj 0,aj 0] 149)=w1;have J:Hid (w.grownBy w1 none):=by rw[<-hW];exact ax (ak _ _ _) _
 have Y:w1.heap[w.heap.size]? = some (ju op a b c fb tb eb):=by rw[<-hW,av _ _ _ eB];exact bl w _
 have hr:w1.heap[w.heap.size+1]? = some (.cells #[aj 0,aj 0] 149 (0,0)):=by
  rw[<-hW];have:=bl (w.alloc (.cells #[dy op,dy a,dy b,dy c,P0 fb,P0 tb,P0 eb] 186)) (.cells #[aj 0,aj 0] 149);simpa using this
 clear hW;have HX:=bj Y;have HR:=bj hr;have lr:=ch hr;have aE:eb<w1.heap.size:=ag
 clear Y hr;have Z:Hid (∀w':aa,dM (λk=>rA sb pb n kd vb k\/k=w.heap.size+1) w1 w'->dS w' w.heap.size 0=some (dy op)/\dS w' w.heap.size 1=some (dy a)/\dS w' w.heap.size 2=some (dy b)/\dS w' w.heap.size 3=some (dy c)/\dS w' w.heap.size 4=some (P0 fb)/\dS w' w.heap.size 5=some (P0 tb)/\dS w' w.heap.size 6=some (P0 eb)/\dS w' eb 27=some (P0 sb)):=λw' hO=>by
  have aD:¬(rA sb pb n kd vb w.heap.size\/w.heap.size=w.heap.size+1):=λh=>h.elim (aB _ (bq _)) (λh=>by omega);obtain⟨x0,x1,x2,x3,x4,x5,x6⟩:=eZ (hO.block HX aD);exact⟨x0,x1,x2,x3,x4,x5,x6,(hO.cell (o:=27) aE (λh=>h.elim he (λh=>by omega))).trans ((bd J (a:=ay eb 27) le).1.trans a8)⟩
 have aI:IntKind.i64.wrap (b:Int)=b:=by simp[IntKind.wrap,IntKind.bits,IntKind.signed];omega
 go_region_held3 (λw'=>dS w' w.heap.size 0=some (dy op)/\dS w' w.heap.size 1=some (dy a)/\dS w' w.heap.size 2=some (dy b)/\dS w' w.heap.size 3=some (dy c)/\dS w' w.heap.size 4=some (P0 fb)/\dS w' w.heap.size 5=some (P0 tb)/\dS w' w.heap.size 6=some (P0 eb)/\dS w' eb 27=some (P0 sb)) (first|exact Z _ (dw _ _)|exact Z _ (ep a0)|exact Z _ a4|exact a5) (first|(go_at_call 94;refine du (HC w1.drew (bo J)) λw2 H=>?_;have a0:Hid (w1.grownBy w2 none):=⟨H.os,H.tape,H.output,H.size,H.block⟩;clear H)|(go_at_call 161;refine(yG Q eb sb pb n nr b cg kd vb s w2 (KR.kept (ar J a0))).mono ?_;rintro e W ⟨v,rfl,a2,a3⟩;obtain⟨x,ob,rfl⟩:=a3.form;have a1:=(ep a0).trans a2 (λ_ h _=>h);have a4:Hid (dM (λk=>rA sb pb n kd vb k\/k=w.heap.size+1) w1 W):=a1.mono (λ_ h _=>af h);have a9:=bj a1;have aC:=bj (a3.pre a0.size);have G:=a1.block (k:=w.heap.size+1) HR (aB _ (Nat.le_succ _));have r0:dS W (w.heap.size+1) 0=some (aj 0):=(by simp[World.cell?,G]);have r1:dS W (w.heap.size+1) 1=some (aj 0):=(by simp[World.cell?,G]);have r2:W.frozen? (ay (w.heap.size+1) 0)=false:=(by simp[World.frozen?,G]);have r3:W.frozen? (ay (w.heap.size+1) 1)=false:=(by simp[World.frozen?,G]);have a5:=bj (Z ((W.setCell (ay (w.heap.size+1) 0) (aj x)).setCell (ay (w.heap.size+1) 1) (aj 0)) (bp (bp a4 (af (ah rfl)) _) (af (ah rfl)) _));clear G a1 a3 a2))
 all_goals
  go_wp2
  refine dg (v:=.tuple #[.agg #[aj x,aj 0],.bool ob]) (by simp[results,results103,go_sem,r0,r1]) rfl ?_;refine⟨_,rfl,bp (bp ((ep J).trans a9 (λ_ h _=>h)) (ah eB) _) (ah eB) _,?_⟩;have a6:∀(i:B.Kd) (u:Vs) (M:Nat->List B.V),kD W sb pb eb n i u M->pW n kd vb i u w1.heap.size->∀x,Own n i u x->x≠w.heap.size+1:=λi u M hS hG x Y=>by
   rcases hG x Y with h|h
   .have:=a7 x h;omega
   omega
  have aA:∀(i:B.Kd) (u:Vs) (M:Nat->List B.V) (y z:Value),kD W sb pb eb n i u M->pW n kd vb i u w1.heap.size->kD ((W.setCell (ay (w.heap.size+1) 0) y).setCell (ay (w.heap.size+1) 1) z) sb pb eb n i u M:=λi u M y z hS hG=>
   hS.block ((ab _ _ _ _ (by show sb≠w.heap.size+1;omega)).trans (ab _ _ _ _ (by show sb≠w.heap.size+1;omega))) ((ab _ _ _ _ (by show pb≠w.heap.size+1;omega)).trans (ab _ _ _ _ (by show pb≠w.heap.size+1;omega))) (λk hk=>(ab _ _ _ _ (a6 _ _ _ hS hG k hk)).trans (ab _ _ _ _ (a6 _ _ _ hS hG k hk)))
  rcases aC with⟨k,vg,i,h1,h2,h3,aF,h4,h5,h6⟩|⟨h1,h2,i,h3,h4,h5⟩
  .exact af ⟨k,vg,i,h1,h2,h3,aF,h4,aA _ _ _ _ _ h5 h6,λx Y=>(h6 x Y).imp id (λh=>by omega)⟩
  exact ah ⟨h1,h2,i,aA _ _ _ _ _ h3 h5,h4,λx Y=>(h5 x Y).imp id (λh=>by omega)⟩
