import Derived.Test.YtnjiinbhbjpfkaaGreatDoorTC
set_option maxRecDepth 100000
set_option maxHeartbeats 0
set_option linter.all false
namespace Go.Proofs.YtnjiinbhbjpfkaaGreatDoor
open Go.RowKit Go.Proofs.Tryz
section
theorem Ge(x y:Int)(w:aa):dD 89 #[aj x,aj y] w (aj (B.wrap (x-y))) λw'=>w'=w:=by
 have hw:IntKind.i64.wrap (x-y)=B.wrap (x-y):=by simp[IntKind.wrap,IntKind.bits,IntKind.signed,B.wrap];omega
 delta dD;go_in;go_wp2
 go_ret;simp_all
theorem FJ(op a b c fb tb eb cb L nx rb nr vb:Nat)(back:Value)(R:Nat->B.V)(ha:a<nr)(hb:b<nr)(hc:c<nr)(w:aa)(hF:Fr w fb cb L nx rb nr back R)(hv:w.heap[vb]? = some (.cells #[Fv 89 #[]] 190 (0,0))): Calls prog 151 #[ed op a b c fb tb eb,P0 vb] w λe w'=>(((R b).1=0/\(R c).1=0)/\e=.returned (aj 0)/\w.grownBy w' (some rb)/\Fr w' fb cb L nx rb nr back (B.set R a (0,B.wrap ((R b).2-(R c).2))))\/(¬((R b).1=0/\(R c).1=0)/\e=.returned (aj 1)/\w.grownBy w' none):=by
 have H:=bj hF;have HV:=bj hv;clear hF hv;go_in;go_wp2_with fail
 have a5:=bj (iN w op a b c fb tb eb);have G:=bj (ak w (.cells #[dy (op:Int),dy (a:Int),dy (b:Int),dy (c:Int),P0 fb,P0 tb,P0 eb] 186) none);refine(rz op a b c fb tb eb cb L nx rb nr back R _ (H.out.kept G.out).1 (H.out.kept G.out).2.1 hb).mono ?_;rintro e w1 ⟨rfl,a0⟩;have a6:=bj (ar G.out a0);have aA:=bj (dv a0 a5.out);clear a0 a5 G;go_wp2_with fail
 refine(gk (R b) _).mono ?_;rintro e w2 ⟨rfl,a2⟩;have o:=bj (ar a6.out a2);have u:=bj (dv a2 aA.out);clear a2 aA a6;obtain⟨x0,x1,x2,x3,x4,x5,x6⟩:=eZ u.out;go_wp2_with fail
 refine(sX op a b c fb tb eb cb L nx rb nr back R w2 (H.out.kept o.out).1 (H.out.kept o.out).2.1 hc).mono ?_;rintro e w3 ⟨rfl,Y⟩;have a7:=bj (ar o.out Y);have a8:=bj (dv Y u.out);clear Y u o x0 x1 x2 x3 x4 x5 x6;go_wp2_with fail
 refine(gk (R c) _).mono ?_;rintro e w4 ⟨rfl,a1⟩;have i:=bj (ar a7.out a1);have a4:=bj (dv a1 a8.out);clear a1 a8 a7;obtain⟨x0,x1,x2,x3,x4,x5,x6⟩:=eZ a4.out;have lx:=ch a4.out;have Z:=dv i.out HV.out;have v5:w4.cell? ⟨vb,0,none⟩=some (Fv 89 #[]):=fy Z
 clear Z;by_cases J:(R b).1=0
 .by_cases h2:(R c).1=0
  .have W:decide ((R b).1=0)=true:=gG J;have d2:decide ((R c).1=0)=true:=gG h2;simp only[W,d2];have HP:=bj (bh J h2);clear J h2 W d2;generalize a3:B.wrap ((R b).2-(R c).2)=y;have hs:=Ge (R b).2 (R c).2;rw[a3]at hs;have HS:=bj hs;have aC:=bj a3;clear hs a3;go_wp2_with fail
   go_region_with (first|(go_at_call 89;refine(HS.out _).mono ?_;rintro e w5 ⟨rfl,rfl⟩)|(go_at_call 61;refine(fG y _).mono ?_;rintro e w6 ⟨rfl,rfl⟩)|(go_at_call 149;refine(kH op a b c fb tb eb cb L nx rb nr back R (0,y) _ (H.out.kept (by repeat (first|exact i.out|refine bo ?_|refine ax ?_ _))).1 (H.out.kept (by repeat (first|exact i.out|refine bo ?_|refine ax ?_ _))).2.1 ha).mono ?_;rintro e w7 ⟨rfl,aB,a9⟩))
   all_goals
    have hg:w.grownBy w7 (some rb):=ar (by repeat (first|exact eT i.out|refine bo ?_|refine ax ?_ _)) aB;have HH:=bj (bh hg (bh (da hg H.out.1 (by intro e;injection e with e;exact H.out.2.2 e)) a9));clear hg aB a9;go_wp2_with fail
    go_ret;exact af ⟨HP.out,rfl,HH.out.1,HH.out.2.1,eV aC.out HH.out.2.2,H.out.2.2⟩
  have W:decide ((R b).1=0)=true:=gG J;have d2:decide ((R c).1=0)=false:=gG h2;simp only[W,d2];have HP:=bj (show ¬((R b).1=0/\(R c).1=0) from λh=>h2 h.2);clear J h2 W d2;go_wp2_with fail
  go_ret;exact ah ⟨HP.out,rfl,i.out⟩
 have W:decide ((R b).1=0)=false:=gG J;simp only[W];have HP:=bj (show ¬((R b).1=0/\(R c).1=0) from λh=>J h.1);clear J W;go_wp2_with fail
 go_ret;exact ah ⟨HP.out,rfl,i.out⟩
theorem Dz(op a b c fb tb eb:Nat)(w:aa):dD 96 #[ed op a b c fb tb eb] w (.bool true) λw'=>w.grownBy w' none:=by
 delta dD;go_in;go_wp2
 go_ret;simp[ak]
theorem Dj(op a b c fb tb eb cb L nx rb nr:Nat)(back:Value)(R:Nat->B.V)(H:a<nr)(w:aa)(u:Fr w fb cb L nx rb nr back R):dD 97 #[ed op a b c fb tb eb] w (.bool (decide (R a=(0,0)))) λw'=>w.grownBy w' none:=by
 have y:=bj u;have G:=NG (R a) (0,0);generalize decide (R a=(0,0))=d at *;delta dD;go_in;go_wp2_with fail
 refine du (BF op a b c fb tb eb cb L nx rb nr back R _ (y.kept (ak _ _ _)).1 (y.kept (ak _ _ _)).2.1 H) λw1 i=>?_;have o:=bj (ar (ak w _ none) i);go_wp2_with fail
 refine du (fG 0 _) ?_;rintro w2 rfl;go_wp2
 go_ret;exact⟨rfl,ax o _⟩
theorem Au(op a b c fb tb eb cb L nx rb nr vb:Nat)(back:Value)(R:Nat->B.V)(d:Bool)(y:Nat)(hy:Hid (y=if d=true then 256*b+c else nx))(hb:b<256)(hc:c<256)(w:aa)(hF:Fr w fb cb L nx rb nr back R)(hv:w.cell? (ay vb 0)=some (Fv 96 #[]))(a0:vb<w.heap.size)(hn:Hid (∀w',w.grownBy w' none->dD 96 #[ed op a b c fb tb eb] w' (.bool d) λw''=>w'.grownBy w'' none)): eL 153 #[ed op a b c fb tb eb,P0 vb] w λw'=>w.grownBy w' (some fb)/\Fr w' fb cb L y rb nr back R:=by
 have KF:=bj hF;have ht:=ub op a b c hb hc;delta eL;go_in;go_wp2_with fail
 refine du (hn _ (ak _ _ _)) λw1 H=>?_;have W:=bj (ar (ak w _ none) H);have J:=bj (dv H (iN w op a b c fb tb eb));have Y:=bj (KF.kept W)
 cases d
 .have u:y=nx:=by have:=hy.out;simpa using this
  subst u;go_wp2
  go_end0;exact⟨rfl,eT W,Y⟩
 have u:256*b+c=y:=by have:=hy.out;simpa using this.symm
 rw[u]at ht;have HT:=bj ht;obtain⟨x0,x1,x2,x3,x4,x5,x6⟩:=eZ J;go_wp2
 go_region_with (go_at_call 154;refine du (HT w1.drew) λw2 i=>?_;have G:w1.grownBy w2 none:=⟨i.os,i.tape,i.output,i.size,i.block⟩;have o:=bj (Y.kept G);have Z:=bj (ar W G);obtain⟨x0,x1,x2,x3,x4,x5,x6⟩:=eZ (dv G J);obtain⟨_,f1,_,_,z1⟩:=ji o.1;clear G)
 all_goals
  go_wp2
  go_end0;refine⟨rfl,bu (eT Z) (af rfl) _,uL o.1 y,o.2.1.off (λe=>o.2.2 e.symm),o.2.2⟩
theorem Ax(op a b c fb tb eb cb L nx rb nr G vb:Nat)(back:Value)(R:Nat->B.V)(d:Bool)(y:Nat)(Y:Hid (y=if d=true then 256*b+c else nx))(hb:b<256)(hc:c<256)(w:aa)(W:Fr w fb cb L nx rb nr back R)(hw:w.cell? (ay G 0)=some (Fv 153 #[P0 vb]))(hv:w.cell? (ay vb 0)=some (Fv 96 #[]))(a0:G<w.heap.size)(H:vb<w.heap.size)(hn:Hid (∀w',w.grownBy w' none->dD 96 #[ed op a b c fb tb eb] w' (.bool d) λw''=>w'.grownBy w'' none)): dD 163 #[ed op a b c fb tb eb,P0 G] w (aj 0) λw'=>w.grownBy w' (some fb)/\Fr w' fb cb L y rb nr back R:=by
 have KF:=bj W;delta dD;go_in;go_wp2_with fail
 refine du (Au op a b c fb tb eb cb L nx rb nr vb back R d y Y hb hc _ (KF.kept (ak _ _ _)) (by simp[go_sem,H,hv]) fH (λw' Z=>hn w' (ar (ak _ _ _) Z))) ?_;rintro w1 ⟨i,o⟩;have u:=bj o;have J:Hid (w.grownBy w1 (some fb)):=ar (ak _ _ _) i;go_wp2
 go_ret;exact⟨rfl,J,u⟩
theorem At(op a b c fb tb eb cb L nx rb nr vb:Nat)(back:Value)(R:Nat->B.V)(d:Bool)(y:Nat)(hy:Hid (y=if d=true then 256*b+c else nx))(hb:b<256)(hc:c<256)(w:aa)(hF:Fr w fb cb L nx rb nr back R)(hv:w.cell? (ay vb 0)=some (Fv 97 #[]))(a0:vb<w.heap.size)(hn:Hid (∀w',w.grownBy w' none->dD 97 #[ed op a b c fb tb eb] w' (.bool d) λw''=>w'.grownBy w'' none)): eL 153 #[ed op a b c fb tb eb,P0 vb] w λw'=>w.grownBy w' (some fb)/\Fr w' fb cb L y rb nr back R:=by
 have KF:=bj hF;have ht:=ub op a b c hb hc;delta eL;go_in;go_wp2_with fail
 refine du (hn _ (ak _ _ _)) λw1 H=>?_;have W:=bj (ar (ak w _ none) H);have J:=bj (dv H (iN w op a b c fb tb eb));have Y:=bj (KF.kept W)
 cases d
 .have u:y=nx:=by have:=hy.out;simpa using this
  subst u;go_wp2
  go_end0;exact⟨rfl,eT W,Y⟩
 have u:256*b+c=y:=by have:=hy.out;simpa using this.symm
 rw[u]at ht;have HT:=bj ht;obtain⟨x0,x1,x2,x3,x4,x5,x6⟩:=eZ J;go_wp2
 go_region_with (go_at_call 154;refine du (HT w1.drew) λw2 i=>?_;have G:w1.grownBy w2 none:=⟨i.os,i.tape,i.output,i.size,i.block⟩;have o:=bj (Y.kept G);have Z:=bj (ar W G);obtain⟨x0,x1,x2,x3,x4,x5,x6⟩:=eZ (dv G J);obtain⟨_,f1,_,_,z1⟩:=ji o.1;clear G)
 all_goals
  go_wp2
  go_end0;refine⟨rfl,bu (eT Z) (af rfl) _,uL o.1 y,o.2.1.off (λe=>o.2.2 e.symm),o.2.2⟩
theorem Aw(op a b c fb tb eb cb L nx rb nr G vb:Nat)(back:Value)(R:Nat->B.V)(d:Bool)(y:Nat)(Y:Hid (y=if d=true then 256*b+c else nx))(hb:b<256)(hc:c<256)(w:aa)(W:Fr w fb cb L nx rb nr back R)(hw:w.cell? (ay G 0)=some (Fv 153 #[P0 vb]))(hv:w.cell? (ay vb 0)=some (Fv 97 #[]))(a0:G<w.heap.size)(H:vb<w.heap.size)(hn:Hid (∀w',w.grownBy w' none->dD 97 #[ed op a b c fb tb eb] w' (.bool d) λw''=>w'.grownBy w'' none)): dD 163 #[ed op a b c fb tb eb,P0 G] w (aj 0) λw'=>w.grownBy w' (some fb)/\Fr w' fb cb L y rb nr back R:=by
 have KF:=bj W;delta dD;go_in;go_wp2_with fail
 refine du (At op a b c fb tb eb cb L nx rb nr vb back R d y Y hb hc _ (KF.kept (ak _ _ _)) (by simp[go_sem,H,hv]) fH (λw' Z=>hn w' (ar (ak _ _ _) Z))) ?_;rintro w1 ⟨i,o⟩;have u:=bj o;have J:Hid (w.grownBy w1 (some fb)):=ar (ak _ _ _) i;go_wp2
 go_ret;exact⟨rfl,J,u⟩
