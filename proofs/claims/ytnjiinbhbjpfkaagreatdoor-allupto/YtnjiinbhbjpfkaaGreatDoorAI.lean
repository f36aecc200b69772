import Derived.Test.YtnjiinbhbjpfkaaGreatDoorAB
set_option maxRecDepth 100000
set_option maxHeartbeats 0
set_option linter.all false
namespace Go.Proofs.YtnjiinbhbjpfkaaGreatDoor
open Go.RowKit Go.Proofs.Tryz
section
theorem zN(op a b c fb tb eb cb L nx rb nr vb:Nat)(back:Value)(R:Nat->B.V)(y:B.V)(W:a<nr)(w:aa)(J:Fr w fb cb L nx rb nr back R)(hv:w.cell? (az vb 0)=some (Fv 93 #[]))(Y:vb<w.heap.size)(hn:Hid (∀w',w.grownBy w' none->dC 93 #[ee op a b c fb tb eb] w' (vA y) λw''=>w'.grownBy w'' none)):eN 148 #[ee op a b c fb tb eb,P0 vb] w λw'=>w.grownBy w' (some rb)/\Fr w' fb cb L nx rb nr back (B.set R a y):=by
 have G:=bj J;clear J;delta eN;go_in;go_wp2_with fail
 go_region_with (first|(go_at_call 93;refine(hn _<|by repeat (first|exact aw _ _|refine bo ?_|refine ax ?_ _)).mono ?_;rintro e w1 ⟨rfl,o⟩;obtain⟨s0,s1,Z,s3,s4,s5,s6,s7⟩:=I5 o;have i:Hid (iY w w1):=ar (by repeat (first|exact aw _ _|refine bo ?_|refine ax ?_ _)) o;clear o)|(go_at_call 149;refine(kU op a b c fb tb eb cb L nx rb nr back R y w1 (G.kept i).1 (G.kept i).2.1 W).mono ?_;rintro e w2 ⟨rfl,u,H⟩))
 all_goals
  go_wp2_with fail
  go_end0;refine⟨rfl,ar (eT i) u,da u (G.kept i).1 (by intro e;injection e with e;exact G.2.2 e),H,G.2.2⟩
theorem A5(op a b c fb tb eb cb L nx rb nr G vb:Nat)(back:Value)(R:Nat->B.V)(y:B.V)(ha:a<nr)(w:aa)(W:Fr w fb cb L nx rb nr back R)(hw:w.cell? (az G 0)=some (Fv 148 #[P0 vb]))(hv:w.cell? (az vb 0)=some (Fv 93 #[]))(Z:G<w.heap.size)(H:vb<w.heap.size)(hn:Hid (∀w',w.grownBy w' none->dC 93 #[ee op a b c fb tb eb] w' (vA y) λw''=>w'.grownBy w'' none)):dC 163 #[ee op a b c fb tb eb,P0 G] w (ah 0) λw'=>w.grownBy w' (some rb)/\Fr w' fb cb L nx rb nr back (B.set R a y):=by
 have KF:=bj W;delta dC;go_in;go_wp2_with fail
 refine dq (zN op a b c fb tb eb cb L nx rb nr vb back R y ha _ (KF.kept<|aj _ _ _) (by simp[go_sem,H,hv]) fV<|λw' Y=>hn w'<|ar (aj _ _ _) Y) ?_;rintro w1 ⟨i,o⟩;have u:=bj o;have J:=bj<|ar (aj _ _ _) i;go_wp2
 go_ret;exact⟨rfl,J,u⟩
theorem x7(op a b c fb tb eb cb L nx rb nr vb:Nat)(back:Value)(R:Nat->B.V)(y:B.V)(W:a<nr)(w:aa)(J:Fr w fb cb L nx rb nr back R)(hv:w.cell? (az vb 0)=some (Fv 117 #[]))(Y:vb<w.heap.size)(hn:Hid (∀w',w.grownBy w' none->dC 117 #[ee op a b c fb tb eb] w' (vA y) λw''=>w'.grownBy w'' none)):eN 148 #[ee op a b c fb tb eb,P0 vb] w λw'=>w.grownBy w' (some rb)/\Fr w' fb cb L nx rb nr back (B.set R a y):=by
 have G:=bj J;clear J;delta eN;go_in;go_wp2_with fail
 go_region_with (first|(go_at_call 117;refine dq (hn _<|by repeat (first|exact aw _ _|refine bo ?_|refine ax ?_ _)) λw1 o=>?_;obtain⟨s0,s1,Z,s3,s4,s5,s6,s7⟩:=I5 o;have i:Hid (iY w w1):=ar (by repeat (first|exact aw _ _|refine bo ?_|refine ax ?_ _)) o;clear o)|(go_at_call 149;refine dq (kU op a b c fb tb eb cb L nx rb nr back R y w1 (G.kept i).1 (G.kept i).2.1 W) ?_;rintro w2 ⟨u,H⟩))
 all_goals
  go_wp2_with fail
  go_end0;refine⟨rfl,ar (eT i) u,da u (G.kept i).1 (by intro e;injection e with e;exact G.2.2 e),H,G.2.2⟩
theorem Af(op a b c fb tb eb cb L nx rb nr G vb:Nat)(back:Value)(R:Nat->B.V)(y:B.V)(ha:a<nr)(w:aa)(W:Fr w fb cb L nx rb nr back R)(hw:w.cell? (az G 0)=some (Fv 148 #[P0 vb]))(hv:w.cell? (az vb 0)=some (Fv 117 #[]))(Z:G<w.heap.size)(H:vb<w.heap.size)(hn:Hid (∀w',w.grownBy w' none->dC 117 #[ee op a b c fb tb eb] w' (vA y) λw''=>w'.grownBy w'' none)):dC 163 #[ee op a b c fb tb eb,P0 G] w (ah 0) λw'=>w.grownBy w' (some rb)/\Fr w' fb cb L nx rb nr back (B.set R a y):=by
 have KF:=bj W;delta dC;go_in;go_wp2_with fail
 refine dq (x7 op a b c fb tb eb cb L nx rb nr vb back R y ha _ (KF.kept<|aj _ _ _) (by simp[go_sem,H,hv]) fV<|λw' Y=>hn w'<|ar (aj _ _ _) Y) ?_;rintro w1 ⟨i,o⟩;have u:=bj o;have J:=bj<|ar (aj _ _ _) i;go_wp2
 go_ret;exact⟨rfl,J,u⟩
