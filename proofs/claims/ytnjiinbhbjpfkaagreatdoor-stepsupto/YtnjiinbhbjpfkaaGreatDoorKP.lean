import Derived.Test.YtnjiinbhbjpfkaaGreatDoorKF
set_option maxRecDepth 100000
set_option maxHeartbeats 0
set_option linter.all false
namespace Go.Proofs.YtnjiinbhbjpfkaaGreatDoor
open Go.RowKit Go.Proofs.Tryz
section
theorem BZ(op a b c fb tb eb:Nat)(w:World):Calls prog 96 #[dZ op a b c fb tb eb] w λe w'=>e=.returned (.bool true)/\w.grownBy w' none:=by
 go_in;go_wp2_with fail
 go_ret;exact⟨rfl,ah _ _ _⟩
theorem BO(op a b c fb tb eb cb L nx rb nr:Nat)(back:Value)(R:Nat->B.V)(H:a<nr)(w:World)(u:Fr w fb cb L nx rb nr back R):Calls prog 97 #[dZ op a b c fb tb eb] w λe w'=>e=.returned (.bool (decide (R a=(0,0))))/\w.grownBy w' none:=by
 have y:=az u;have G:=Lt (R a) (0,0);generalize decide (R a=(0,0))=d at *;go_in;go_wp2_with fail
 refine(As op a b c fb tb eb cb L nx rb nr back R _ (y.out.kept (ah _ _ _)).1 (y.out.kept (ah _ _ _)).2.1 H).mono ?_;rintro e w1 ⟨rfl,i⟩;have o:=az (an (ah w _ none) i);go_wp2_with fail
 refine(fH 0 _).mono ?_;rintro e w2 ⟨rfl,rfl⟩;go_wp2_with fail
 go_ret;exact⟨rfl,au o.out _⟩
theorem yV(op a b c fb tb eb cb L nx rb nr vb:Nat)(back:Value)(R:Nat->B.V)(d:Bool)(y:Nat)(hy:Hid (y=if d=true then 256*b+c else nx))(hb:b<256)(hc:c<256)(w:World)(hF:Fr w fb cb L nx rb nr back R)(hv:w.cell? ⟨vb,0,none⟩=some (Fv 96 #[]))(a0:vb<w.heap.size)(hn:Hid (∀w',w.grownBy w' none->Calls prog 96 #[dZ op a b c fb tb eb] w' λe w''=>e=.returned (.bool d)/\w'.grownBy w'' none)): Calls prog 153 #[dZ op a b c fb tb eb,P0 vb] w λe w'=>e=.returned (.tuple #[])/\w.grownBy w' (some fb)/\Fr w' fb cb L y rb nr back R:=by
 have KF:=az hF;have ht:=sq op a b c hb hc;go_in;go_wp2_with fail
 refine(hn.out _ (ah _ _ _)).mono ?_;rintro e w1 ⟨rfl,H⟩;have W:=az (an (ah w _ none) H);have J:=az (dp H (jf w op a b c fb tb eb));have Y:=az (KF.out.kept W.out)
 cases d
 .have u:y=nx:=by have:=hy.out;simpa using this
  subst u;go_wp2_with fail
  go_end0;exact⟨rfl,eD W.out,Y.out⟩
 have u:256*b+c=y:=by have:=hy.out;simpa using this.symm
 rw[u]at ht;have HT:=az ht;obtain⟨x0,x1,x2,x3,x4,x5,x6⟩:=fk J.out;go_wp2_with fail
 go_region_with (go_at_call 154;refine(HT.out w1.drew).mono ?_;rintro e w2 ⟨rfl,i⟩;have G:w1.grownBy w2 none:=⟨i.os,i.tape,i.output,i.size,i.block⟩;have o:=az (Y.out.kept G);have Z:=az (an W.out G);obtain⟨x0,x1,x2,x3,x4,x5,x6⟩:=fk (dp G J.out);obtain⟨_,f1,_,_,z1⟩:=ib o.out.1;clear G)
 all_goals
  go_wp2_with fail
  go_end0;refine⟨rfl,bp (eD Z.out) (ag rfl) _,tu o.out.1 y,o.out.2.1.off (λe=>o.out.2.2 e.symm),o.out.2.2⟩
theorem y9(op a b c fb tb eb cb L nx rb nr G vb:Nat)(back:Value)(R:Nat->B.V)(d:Bool)(y:Nat)(Y:Hid (y=if d=true then 256*b+c else nx))(hb:b<256)(hc:c<256)(w:World)(W:Fr w fb cb L nx rb nr back R)(hw:w.cell? ⟨G,0,none⟩=some (Fv 153 #[P0 vb]))(hv:w.cell? ⟨vb,0,none⟩=some (Fv 96 #[]))(a0:G<w.heap.size)(H:vb<w.heap.size)(hn:Hid (∀w',w.grownBy w' none->Calls prog 96 #[dZ op a b c fb tb eb] w' λe w''=>e=.returned (.bool d)/\w'.grownBy w'' none)): Calls prog 163 #[dZ op a b c fb tb eb,P0 G] w λe w'=>e=.returned (.int .i64 0)/\w.grownBy w' (some fb)/\Fr w' fb cb L y rb nr back R:=by
 have KF:=az W;go_in;go_wp2_with fail
 refine(yV op a b c fb tb eb cb L nx rb nr vb back R d y Y hb hc _ (KF.out.kept (ah _ _ _)) (by simp[go_sem,H,hv]) (by simp;omega) (λw' Z=>hn.out w' (an (ah _ _ _) Z))).mono ?_;rintro e w1 ⟨rfl,i,o⟩;have u:=az o;have J:Hid (w.grownBy w1 (some fb)):=an (ah _ _ _) i;go_wp2_with fail
 go_ret;exact⟨rfl,J.out,u.out⟩
theorem yU(op a b c fb tb eb cb L nx rb nr vb:Nat)(back:Value)(R:Nat->B.V)(d:Bool)(y:Nat)(hy:Hid (y=if d=true then 256*b+c else nx))(hb:b<256)(hc:c<256)(w:World)(hF:Fr w fb cb L nx rb nr back R)(hv:w.cell? ⟨vb,0,none⟩=some (Fv 97 #[]))(a0:vb<w.heap.size)(hn:Hid (∀w',w.grownBy w' none->Calls prog 97 #[dZ op a b c fb tb eb] w' λe w''=>e=.returned (.bool d)/\w'.grownBy w'' none)): Calls prog 153 #[dZ op a b c fb tb eb,P0 vb] w λe w'=>e=.returned (.tuple #[])/\w.grownBy w' (some fb)/\Fr w' fb cb L y rb nr back R:=by
 have KF:=az hF;have ht:=sq op a b c hb hc;go_in;go_wp2_with fail
 refine(hn.out _ (ah _ _ _)).mono ?_;rintro e w1 ⟨rfl,H⟩;have W:=az (an (ah w _ none) H);have J:=az (dp H (jf w op a b c fb tb eb));have Y:=az (KF.out.kept W.out)
 cases d
 .have u:y=nx:=by have:=hy.out;simpa using this
  subst u;go_wp2_with fail
  go_end0;exact⟨rfl,eD W.out,Y.out⟩
 have u:256*b+c=y:=by have:=hy.out;simpa using this.symm
 rw[u]at ht;have HT:=az ht;obtain⟨x0,x1,x2,x3,x4,x5,x6⟩:=fk J.out;go_wp2_with fail
 go_region_with (go_at_call 154;refine(HT.out w1.drew).mono ?_;rintro e w2 ⟨rfl,i⟩;have G:w1.grownBy w2 none:=⟨i.os,i.tape,i.output,i.size,i.block⟩;have o:=az (Y.out.kept G);have Z:=az (an W.out G);obtain⟨x0,x1,x2,x3,x4,x5,x6⟩:=fk (dp G J.out);obtain⟨_,f1,_,_,z1⟩:=ib o.out.1;clear G)
 all_goals
  go_wp2_with fail
  go_end0;refine⟨rfl,bp (eD Z.out) (ag rfl) _,tu o.out.1 y,o.out.2.1.off (λe=>o.out.2.2 e.symm),o.out.2.2⟩
theorem yZ(op a b c fb tb eb cb L nx rb nr G vb:Nat)(back:Value)(R:Nat->B.V)(d:Bool)(y:Nat)(Y:Hid (y=if d=true then 256*b+c else nx))(hb:b<256)(hc:c<256)(w:World)(W:Fr w fb cb L nx rb nr back R)(hw:w.cell? ⟨G,0,none⟩=some (Fv 153 #[P0 vb]))(hv:w.cell? ⟨vb,0,none⟩=some (Fv 97 #[]))(a0:G<w.heap.size)(H:vb<w.heap.size)(hn:Hid (∀w',w.grownBy w' none->Calls prog 97 #[dZ op a b c fb tb eb] w' λe w''=>e=.returned (.bool d)/\w'.grownBy w'' none)): Calls prog 163 #[dZ op a b c fb tb eb,P0 G] w λe w'=>e=.returned (.int .i64 0)/\w.grownBy w' (some fb)/\Fr w' fb cb L y rb nr back R:=by
 have KF:=az W;go_in;go_wp2_with fail
 refine(yU op a b c fb tb eb cb L nx rb nr vb back R d y Y hb hc _ (KF.out.kept (ah _ _ _)) (by simp[go_sem,H,hv]) (by simp;omega) (λw' Z=>hn.out w' (an (ah _ _ _) Z))).mono ?_;rintro e w1 ⟨rfl,i,o⟩;have u:=az o;have J:Hid (w.grownBy w1 (some fb)):=an (ah _ _ _) i;go_wp2_with fail
 go_ret;exact⟨rfl,J.out,u.out⟩
