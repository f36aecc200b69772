import Derived.Test.YtnjiinbhbjpfkaaGreatDoorTC
set_option maxRecDepth 100000
set_option maxHeartbeats 0
set_option linter.all false
namespace Go.Proofs.YtnjiinbhbjpfkaaGreatDoor
open Go.RowKit Go.Proofs.Tryz
section
theorem yY(op a b c fb tb eb cb L nx rb nr vb:Nat)(back:Value)(R:Nat->B.V)(y:B.V)(W:a<nr)(w:aa)(J:Fr w fb cb L nx rb nr back R)(hv:w.cell? (ay vb 0)=some (Fv 86 #[]))(Y:vb<w.heap.size)(hn:Hid (∀w',w.grownBy w' none->dD 86 #[ed op a b c fb tb eb] w' (vA y) λw''=>w'.grownBy w'' none)): eL 148 #[ed op a b c fb tb eb,P0 vb] w λw'=>w.grownBy w' (some rb)/\Fr w' fb cb L nx rb nr back (B.set R a y):=by
 have G:=bj J;clear J;delta eL;go_in;go_wp2_with fail
 go_region_with (first|(go_at_call 86;refine du (hn.out _ (by repeat (first|exact aw _ _|refine bo ?_|refine ax ?_ _))) λw1 o=>?_;obtain⟨s0,s1,Z,s3,s4,s5,s6,s7⟩:=Hz o;have i:Hid (w.grownBy w1 none):=ar (by repeat (first|exact aw _ _|refine bo ?_|refine ax ?_ _)) o;clear o)|(go_at_call 149;refine du (kH op a b c fb tb eb cb L nx rb nr back R y w1 (G.out.kept i.out).1 (G.out.kept i.out).2.1 W) ?_;rintro w2 ⟨u,H⟩))
 all_goals
  go_wp2_with fail
  go_end0;refine⟨rfl,ar (eT i.out) u,da u (G.out.kept i.out).1 (by intro e;injection e with e;exact G.out.2.2 e),H,G.out.2.2⟩
theorem Az(op a b c fb tb eb cb L nx rb nr G vb:Nat)(back:Value)(R:Nat->B.V)(y:B.V)(ha:a<nr)(w:aa)(W:Fr w fb cb L nx rb nr back R)(hw:w.cell? (ay G 0)=some (Fv 148 #[P0 vb]))(hv:w.cell? (ay vb 0)=some (Fv 86 #[]))(Z:G<w.heap.size)(H:vb<w.heap.size)(hn:Hid (∀w',w.grownBy w' none->dD 86 #[ed op a b c fb tb eb] w' (vA y) λw''=>w'.grownBy w'' none)): dD 163 #[ed op a b c fb tb eb,P0 G] w (aj 0) λw'=>w.grownBy w' (some rb)/\Fr w' fb cb L nx rb nr back (B.set R a y):=by
 have KF:Hid (Fr w fb cb L nx rb nr back R):=W;delta dD;go_in;go_wp2_with fail
 refine du (yY op a b c fb tb eb cb L nx rb nr vb back R y ha _ (KF.kept (ak _ _ _)) (by simp[go_sem,H,hv]) fH (λw' Y=>hn w' (ar (ak _ _ _) Y))) ?_;rintro w1 ⟨i,o⟩;have u:=bj o;have J:Hid (w.grownBy w1 (some rb)):=ar (ak _ _ _) i;go_wp2
 go_ret;exact⟨rfl,J,u⟩
