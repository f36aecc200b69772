import Derived.Test.YtnjiinbhbjpfkaaGreatDoorAB
set_option maxRecDepth 100000
set_option maxHeartbeats 0
set_option linter.all false
namespace Go.Proofs.YtnjiinbhbjpfkaaGreatDoor
open Go.RowKit Go.Proofs.Tryz
section
theorem zO(op a b c fb tb eb cb L nx rb nr vb:Nat)(back:Value)(R:Nat->B.V)(y:B.V)(W:a<nr)(w:aa)(J:Fr w fb cb L nx rb nr back R)(hv:w.cell? (az vb 0)=some (Fv 86 #[]))(Y:vb<w.heap.size)(hn:Hid (∀w',w.grownBy w' none->dC 86 #[ee op a b c fb tb eb] w' (vA y) λw''=>w'.grownBy w'' none)):eN 148 #[ee op a b c fb tb eb,P0 vb] w λw'=>w.grownBy w' (some rb)/\Fr w' fb cb L nx rb nr back (B.set R a y):=by
 have G:=bj J;clear J;delta eN;go_in;go_wp2_with fail
 go_region_with (first|(go_at_call 86;refine dq (hn _<|by repeat (first|exact aw _ _|refine bo ?_|refine ax ?_ _)) λw1 o=>?_;obtain⟨s0,s1,Z,s3,s4,s5,s6,s7⟩:=I5 o;have i:Hid (iY w w1):=ar (by repeat (first|exact aw _ _|refine bo ?_|refine ax ?_ _)) o;clear o)|(go_at_call 149;refine dq (kU op a b c fb tb eb cb L nx rb nr back R y w1 (G.kept i).1 (G.kept i).2.1 W) ?_;rintro w2 ⟨u,H⟩))
 all_goals
  go_wp2_with fail
  go_end0;refine⟨rfl,ar (eT i) u,da u (G.kept i).1 (by intro e;injection e with e;exact G.2.2 e),H,G.2.2⟩
theorem A6(op a b c fb tb eb cb L nx rb nr G vb:Nat)(back:Value)(R:Nat->B.V)(y:B.V)(ha:a<nr)(w:aa)(W:Fr w fb cb L nx rb nr back R)(hw:w.cell? (az G 0)=some (Fv 148 #[P0 vb]))(hv:w.cell? (az vb 0)=some (Fv 86 #[]))(Z:G<w.heap.size)(H:vb<w.heap.size)(hn:Hid (∀w',w.grownBy w' none->dC 86 #[ee op a b c fb tb eb] w' (vA y) λw''=>w'.grownBy w'' none)):dC 163 #[ee op a b c fb tb eb,P0 G] w (ah 0) λw'=>w.grownBy w' (some rb)/\Fr w' fb cb L nx rb nr back (B.set R a y):=by
 have KF:=bj W;delta dC;go_in;go_wp2_with fail
 refine dq (zO op a b c fb tb eb cb L nx rb nr vb back R y ha _ (KF.kept<|aj _ _ _) (by simp[go_sem,H,hv]) fV<|λw' Y=>hn w'<|ar (aj _ _ _) Y) ?_;rintro w1 ⟨i,o⟩;have u:=bj o;have J:=bj<|ar (aj _ _ _) i;go_wp2
 go_ret;exact⟨rfl,J,u⟩
theorem Eg(op a b c fb tb eb:Nat)(w:aa):dC 96 #[ee op a b c fb tb eb] w (.bool true) λw'=>w.grownBy w' none:=by
 delta dC;go_in;go_wp2
 go_ret;simp[aj]
theorem D3(op a b c fb tb eb cb L nx rb nr:Nat)(back:Value)(R:Nat->B.V)(H:a<nr)(w:aa)(u:Fr w fb cb L nx rb nr back R):dC 97 #[ee op a b c fb tb eb] w (.bool (decide (R a=(0,0)))) λw'=>w.grownBy w' none:=by
 have y:=bj u;have G:=OM (R a) (0,0);generalize decide (R a=(0,0))=d at*;delta dC;go_in;go_wp2_with fail
 refine dq (Ch op a b c fb tb eb cb L nx rb nr back R _ (y.kept<|aj _ _ _).1 (y.kept<|aj _ _ _).2.1 H) λw1 i=>?_;have o:=bj<|ar (aj w _ none) i;go_wp2_with fail
 refine dq (fK 0 _) ?_;rintro w2 rfl;go_wp2
 go_ret;exact⟨rfl,ax o _⟩
theorem A0(op a b c fb tb eb cb L nx rb nr vb:Nat)(back:Value)(R:Nat->B.V)(d:Bool)(y:Nat)(hy:Hid (y=if d=true then 256*b+c else nx))(hb:b<256)(hc:c<256)(w:aa)(hF:Fr w fb cb L nx rb nr back R)(hv:w.cell? (az vb 0)=some (Fv 96 #[]))(a0:vb<w.heap.size)(hn:Hid (∀w',w.grownBy w' none->dC 96 #[ee op a b c fb tb eb] w' (.bool d) λw''=>w'.grownBy w'' none)):eN 153 #[ee op a b c fb tb eb,P0 vb] w λw'=>w.grownBy w' (some fb)/\Fr w' fb cb L y rb nr back R:=by
 have KF:=bj hF;have ht:=uG op a b c hb hc;delta eN;go_in;go_wp2_with fail
 refine dq (hn _<|aj _ _ _) λw1 H=>?_;have W:=bj<|ar (aj w _ none) H;have J:=bj<|dw H<|iU w op a b c fb tb eb;have Y:=bj<|KF.kept W
 cases d
 .have u:y=nx:=by have:=hy.out;simpa using this
  subst u;go_wp2
  go_end0;exact⟨rfl,eT W,Y⟩
 have u:256*b+c=y:=by have:=hy.out;simpa using this.symm
 rw[u]at ht;have HT:=bj ht;let⟨x0,x1,x2,x3,x4,x5,x6⟩:=fe J;go_wp2
 go_region_with (go_at_call 154;refine dq (HT w1.drew) λw2 i=>?_;have G:iY w1 w2:=⟨i.os,i.tape,i.output,i.size,i.block⟩;have o:=bj<|Y.kept G;have Z:=bj<|ar W G;let⟨x0,x1,x2,x3,x4,x5,x6⟩:=fe<|dw G J;let⟨_,f1,_,_,z1⟩:=jy o.1;clear G)
 all_goals
  go_wp2
  go_end0;refine⟨rfl,bu (eT Z) (ag rfl) _,vu o.1 y,o.2.1.off<|λe=>o.2.2 e.symm,o.2.2⟩
theorem A4(op a b c fb tb eb cb L nx rb nr G vb:Nat)(back:Value)(R:Nat->B.V)(d:Bool)(y:Nat)(Y:Hid (y=if d=true then 256*b+c else nx))(hb:b<256)(hc:c<256)(w:aa)(W:Fr w fb cb L nx rb nr back R)(hw:w.cell? (az G 0)=some (Fv 153 #[P0 vb]))(hv:w.cell? (az vb 0)=some (Fv 96 #[]))(a0:G<w.heap.size)(H:vb<w.heap.size)(hn:Hid (∀w',w.grownBy w' none->dC 96 #[ee op a b c fb tb eb] w' (.bool d) λw''=>w'.grownBy w'' none)):dC 163 #[ee op a b c fb tb eb,P0 G] w (ah 0) λw'=>w.grownBy w' (some fb)/\Fr w' fb cb L y rb nr back R:=by
 have KF:=bj W;delta dC;go_in;go_wp2_with fail
 refine dq (A0 op a b c fb tb eb cb L nx rb nr vb back R d y Y hb hc _ (KF.kept<|aj _ _ _) (by simp[go_sem,H,hv]) fV<|λw' Z=>hn w'<|ar (aj _ _ _) Z) ?_;rintro w1 ⟨i,o⟩;have u:=bj o;have J:=bj<|ar (aj _ _ _) i;go_wp2
 go_ret;exact⟨rfl,J,u⟩
theorem AZ(op a b c fb tb eb cb L nx rb nr vb:Nat)(back:Value)(R:Nat->B.V)(d:Bool)(y:Nat)(hy:Hid (y=if d=true then 256*b+c else nx))(hb:b<256)(hc:c<256)(w:aa)(hF:Fr w fb cb L nx rb nr back R)(hv:w.cell? (az vb 0)=some (Fv 97 #[]))(a0:vb<w.heap.size)(hn:Hid (∀w',w.grownBy w' none->dC 97 #[ee op a b c fb tb eb] w' (.bool d) λw''=>w'.grownBy w'' none)):eN 153 #[ee op a b c fb tb eb,P0 vb] w λw'=>w.grownBy w' (some fb)/\Fr w' fb cb L y rb nr back R:=by
 have KF:=bj hF;have ht:=uG op a b c hb hc;delta eN;go_in;go_wp2_with fail
 refine dq (hn _<|aj _ _ _) λw1 H=>?_;have W:=bj<|ar (aj w _ none) H;have J:=bj<|dw H<|iU w op a b c fb tb eb;have Y:=bj<|KF.kept W
 cases d
 .have u:y=nx:=by have:=hy.out;simpa using this
  subst u;go_wp2
  go_end0;exact⟨rfl,eT W,Y⟩
 have u:256*b+c=y:=by have:=hy.out;simpa using this.symm
 rw[u]at ht;have HT:=bj ht;let⟨x0,x1,x2,x3,x4,x5,x6⟩:=fe J;go_wp2
 go_region_with (go_at_call 154;refine dq (HT w1.drew) λw2 i=>?_;have G:iY w1 w2:=⟨i.os,i.tape,i.output,i.size,i.block⟩;have o:=bj<|Y.kept G;have Z:=bj<|ar W G;let⟨x0,x1,x2,x3,x4,x5,x6⟩:=fe<|dw G J;let⟨_,f1,_,_,z1⟩:=jy o.1;clear G)
 all_goals
  go_wp2
  go_end0;refine⟨rfl,bu (eT Z) (ag rfl) _,vu o.1 y,o.2.1.off<|λe=>o.2.2 e.symm,o.2.2⟩
theorem A3(op a b c fb tb eb cb L nx rb nr G vb:Nat)(back:Value)(R:Nat->B.V)(d:Bool)(y:Nat)(Y:Hid (y=if d=true then 256*b+c else nx))(hb:b<256)(hc:c<256)(w:aa)(W:Fr w fb cb L nx rb nr back R)(hw:w.cell? (az G 0)=some (Fv 153 #[P0 vb]))(hv:w.cell? (az vb 0)=some (Fv 97 #[]))(a0:G<w.heap.size)(H:vb<w.heap.size)(hn:Hid (∀w',w.grownBy w' none->dC 97 #[ee op a b c fb tb eb] w' (.bool d) λw''=>w'.grownBy w'' none)):dC 163 #[ee op a b c fb tb eb,P0 G] w (ah 0) λw'=>w.grownBy w' (some fb)/\Fr w' fb cb L y rb nr back R:=by
 have KF:=bj W;delta dC;go_in;go_wp2_with fail
 refine dq (AZ op a b c fb tb eb cb L nx rb nr vb back R d y Y hb hc _ (KF.kept<|aj _ _ _) (by simp[go_sem,H,hv]) fV<|λw' Z=>hn w'<|ar (aj _ _ _) Z) ?_;rintro w1 ⟨i,o⟩;have u:=bj o;have J:=bj<|ar (aj _ _ _) i;go_wp2
 go_ret;exact⟨rfl,J,u⟩
