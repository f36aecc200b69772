import Derived.Test.YtnjiinbhbjpfkaaGreatDoorKF
set_option maxRecDepth 100000
set_option maxHeartbeats 0
set_option linter.all false
namespace Go.Proofs.YtnjiinbhbjpfkaaGreatDoor
open Go.RowKit Go.Proofs.Tryz
section
theorem xH(op a b c fb tb eb cb L nx rb nr vb:Nat)(back:Value)(R:Nat->B.V)(y:B.V)(W:a<nr)(w:World)(J:Fr w fb cb L nx rb nr back R)(hv:w.cell? ⟨vb,0,none⟩=some (Fv 93 #[]))(Y:vb<w.heap.size)(hn:Hid (∀w',w.grownBy w' none->Calls prog 93 #[dZ op a b c fb tb eb] w' λe w''=>e=.returned (vA y)/\w'.grownBy w'' none)): Calls prog 148 #[dZ op a b c fb tb eb,P0 vb] w λe w'=>e=.returned (.tuple #[])/\w.grownBy w' (some rb)/\Fr w' fb cb L nx rb nr back (B.set R a y):=by
 have G:=az J;clear J;go_in;go_wp2_with fail
 go_region_with (first|(go_at_call 93;refine(hn.out _ (by repeat (first|exact ax _ _|refine bq ?_|refine au ?_ _))).mono ?_;rintro e w1 ⟨rfl,o⟩;obtain⟨s0,s1,Z,s3,s4,s5,s6,s7⟩:=FD o;have i:Hid (w.grownBy w1 none):=an (by repeat (first|exact ax _ _|refine bq ?_|refine au ?_ _)) o;clear o)|(go_at_call 149;refine(js op a b c fb tb eb cb L nx rb nr back R y w1 (G.out.kept i.out).1 (G.out.kept i.out).2.1 W).mono ?_;rintro e w2 ⟨rfl,u,H⟩))
 all_goals
  go_wp2_with fail
  go_end0;refine⟨rfl,an (eD i.out) u,cm u (G.out.kept i.out).1 (by intro e;injection e with e;exact G.out.2.2 e),H,G.out.2.2⟩
theorem ze(op a b c fb tb eb cb L nx rb nr G vb:Nat)(back:Value)(R:Nat->B.V)(y:B.V)(ha:a<nr)(w:World)(W:Fr w fb cb L nx rb nr back R)(hw:w.cell? ⟨G,0,none⟩=some (Fv 148 #[P0 vb]))(hv:w.cell? ⟨vb,0,none⟩=some (Fv 93 #[]))(Z:G<w.heap.size)(H:vb<w.heap.size)(hn:Hid (∀w',w.grownBy w' none->Calls prog 93 #[dZ op a b c fb tb eb] w' λe w''=>e=.returned (vA y)/\w'.grownBy w'' none)): Calls prog 163 #[dZ op a b c fb tb eb,P0 G] w λe w'=>e=.returned (.int .i64 0)/\w.grownBy w' (some rb)/\Fr w' fb cb L nx rb nr back (B.set R a y):=by
 have KF:Hid (Fr w fb cb L nx rb nr back R):=W;go_in;go_wp2_with fail
 refine(xH op a b c fb tb eb cb L nx rb nr vb back R y ha _ (KF.out.kept (ah _ _ _)) (by simp[go_sem,H,hv]) (by simp;omega) (λw' Y=>hn.out w' (an (ah _ _ _) Y))).mono ?_;rintro e w1 ⟨rfl,i,o⟩;have u:=az o;have J:Hid (w.grownBy w1 (some rb)):=an (ah _ _ _) i;go_wp2_with fail
 go_ret;exact⟨rfl,J.out,u.out⟩
theorem xI(op a b c fb tb eb cb L nx rb nr vb:Nat)(back:Value)(R:Nat->B.V)(y:B.V)(W:a<nr)(w:World)(J:Fr w fb cb L nx rb nr back R)(hv:w.cell? ⟨vb,0,none⟩=some (Fv 86 #[]))(Y:vb<w.heap.size)(hn:Hid (∀w',w.grownBy w' none->Calls prog 86 #[dZ op a b c fb tb eb] w' λe w''=>e=.returned (vA y)/\w'.grownBy w'' none)): Calls prog 148 #[dZ op a b c fb tb eb,P0 vb] w λe w'=>e=.returned (.tuple #[])/\w.grownBy w' (some rb)/\Fr w' fb cb L nx rb nr back (B.set R a y):=by
 have G:=az J;clear J;go_in;go_wp2_with fail
 go_region_with (first|(go_at_call 86;refine(hn.out _ (by repeat (first|exact ax _ _|refine bq ?_|refine au ?_ _))).mono ?_;rintro e w1 ⟨rfl,o⟩;obtain⟨s0,s1,Z,s3,s4,s5,s6,s7⟩:=FD o;have i:Hid (w.grownBy w1 none):=an (by repeat (first|exact ax _ _|refine bq ?_|refine au ?_ _)) o;clear o)|(go_at_call 149;refine(js op a b c fb tb eb cb L nx rb nr back R y w1 (G.out.kept i.out).1 (G.out.kept i.out).2.1 W).mono ?_;rintro e w2 ⟨rfl,u,H⟩))
 all_goals
  go_wp2_with fail
  go_end0;refine⟨rfl,an (eD i.out) u,cm u (G.out.kept i.out).1 (by intro e;injection e with e;exact G.out.2.2 e),H,G.out.2.2⟩
theorem zf(op a b c fb tb eb cb L nx rb nr G vb:Nat)(back:Value)(R:Nat->B.V)(y:B.V)(ha:a<nr)(w:World)(W:Fr w fb cb L nx rb nr back R)(hw:w.cell? ⟨G,0,none⟩=some (Fv 148 #[P0 vb]))(hv:w.cell? ⟨vb,0,none⟩=some (Fv 86 #[]))(Z:G<w.heap.size)(H:vb<w.heap.size)(hn:Hid (∀w',w.grownBy w' none->Calls prog 86 #[dZ op a b c fb tb eb] w' λe w''=>e=.returned (vA y)/\w'.grownBy w'' none)): Calls prog 163 #[dZ op a b c fb tb eb,P0 G] w λe w'=>e=.returned (.int .i64 0)/\w.grownBy w' (some rb)/\Fr w' fb cb L nx rb nr back (B.set R a y):=by
 have KF:Hid (Fr w fb cb L nx rb nr back R):=W;go_in;go_wp2_with fail
 refine(xI op a b c fb tb eb cb L nx rb nr vb back R y ha _ (KF.out.kept (ah _ _ _)) (by simp[go_sem,H,hv]) (by simp;omega) (λw' Y=>hn.out w' (an (ah _ _ _) Y))).mono ?_;rintro e w1 ⟨rfl,i,o⟩;have u:=az o;have J:Hid (w.grownBy w1 (some rb)):=an (ah _ _ _) i;go_wp2_with fail
 go_ret;exact⟨rfl,J.out,u.out⟩
theorem vE(op a b c fb tb eb cb L nx rb nr vb:Nat)(back:Value)(R:Nat->B.V)(y:B.V)(W:a<nr)(w:World)(J:Fr w fb cb L nx rb nr back R)(hv:w.cell? ⟨vb,0,none⟩=some (Fv 117 #[]))(Y:vb<w.heap.size)(hn:Hid (∀w',w.grownBy w' none->Calls prog 117 #[dZ op a b c fb tb eb] w' λe w''=>e=.returned (vA y)/\w'.grownBy w'' none)): Calls prog 148 #[dZ op a b c fb tb eb,P0 vb] w λe w'=>e=.returned (.tuple #[])/\w.grownBy w' (some rb)/\Fr w' fb cb L nx rb nr back (B.set R a y):=by
 have G:=az J;clear J;go_in;go_wp2_with fail
 go_region_with (first|(go_at_call 117;refine(hn.out _ (by repeat (first|exact ax _ _|refine bq ?_|refine au ?_ _))).mono ?_;rintro e w1 ⟨rfl,o⟩;obtain⟨s0,s1,Z,s3,s4,s5,s6,s7⟩:=FD o;have i:Hid (w.grownBy w1 none):=an (by repeat (first|exact ax _ _|refine bq ?_|refine au ?_ _)) o;clear o)|(go_at_call 149;refine(js op a b c fb tb eb cb L nx rb nr back R y w1 (G.out.kept i.out).1 (G.out.kept i.out).2.1 W).mono ?_;rintro e w2 ⟨rfl,u,H⟩))
 all_goals
  go_wp2_with fail
  go_end0;refine⟨rfl,an (eD i.out) u,cm u (G.out.kept i.out).1 (by intro e;injection e with e;exact G.out.2.2 e),H,G.out.2.2⟩
theorem xY(op a b c fb tb eb cb L nx rb nr G vb:Nat)(back:Value)(R:Nat->B.V)(y:B.V)(ha:a<nr)(w:World)(W:Fr w fb cb L nx rb nr back R)(hw:w.cell? ⟨G,0,none⟩=some (Fv 148 #[P0 vb]))(hv:w.cell? ⟨vb,0,none⟩=some (Fv 117 #[]))(Z:G<w.heap.size)(H:vb<w.heap.size)(hn:Hid (∀w',w.grownBy w' none->Calls prog 117 #[dZ op a b c fb tb eb] w' λe w''=>e=.returned (vA y)/\w'.grownBy w'' none)): Calls prog 163 #[dZ op a b c fb tb eb,P0 G] w λe w'=>e=.returned (.int .i64 0)/\w.grownBy w' (some rb)/\Fr w' fb cb L nx rb nr back (B.set R a y):=by
 have KF:Hid (Fr w fb cb L nx rb nr back R):=W;go_in;go_wp2_with fail
 refine(vE op a b c fb tb eb cb L nx rb nr vb back R y ha _ (KF.out.kept (ah _ _ _)) (by simp[go_sem,H,hv]) (by simp;omega) (λw' Y=>hn.out w' (an (ah _ _ _) Y))).mono ?_;rintro e w1 ⟨rfl,i,o⟩;have u:=az o;have J:Hid (w.grownBy w1 (some rb)):=an (ah _ _ _) i;go_wp2_with fail
 go_ret;exact⟨rfl,J.out,u.out⟩
